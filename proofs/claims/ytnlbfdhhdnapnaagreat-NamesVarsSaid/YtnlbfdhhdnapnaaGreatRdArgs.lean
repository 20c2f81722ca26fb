/- The reference's reader: atom, a call with arguments. -/
import Derived.Test.YtnlbfdhhdnapnaaGreatRdAtom2
namespace Go.Proofs.YtnlbfdhhdnapnaaGreat
open Go.RowKit Lx

/-- arguments so far, in a row of their own; the reader beside them -/
structure ArgSt (Y : World) (b g cap : Nat) (dv : Value) (ts : List Tok) (xb : Nat → Prop) (A : Nat) (τ : RS) (acc : List Int) (v : Value) : Prop where
  own : Y.ownsRow (A + 1) 3 1 v acc.length (acc.map intC)
  rd : Rd Y b g cap dv ts (fun k => xb k ∨ v.ownBlock = some k) τ
theorem Rd.less {W : World} {b g cap : Nat} {dv : Value} {ts : List Tok} {xb yb : Nat → Prop} {σ : RS} (h : Rd W b g cap dv ts xb σ) (hy : ∀ k, yb k → xb k) : Rd W b g cap dv ts yb σ := by
  obtain ⟨o, c, h1, q, h2, h3, h4⟩ := h.blk
  exact ⟨fun k hk => h.xlt k (hy k hk), ⟨o, c, h1, q, h2, h3, fun p hp => ⟨(h4 p hp).1, fun k hk hyk => (h4 p hp).2 k hk (hy k hyk)⟩⟩, h.row, h.lt, h.at_, h.len, h.ends⟩
theorem Rd.more {W : World} {b g cap : Nat} {dv : Value} {ts : List Tok} {xb yb : Nat → Prop} {σ : RS} (h : Rd W b g cap dv ts xb σ) (hy : ∀ k, yb k → xb k ∨ False) : Rd W b g cap dv ts yb σ := h.less fun k hk => (hy k hk).resolve_right id
theorem own_base {W : World} {B B' : Nat} {e : TypeId} {s : Nat} {v : Value} {n : Nat} {xs : List Value} (h : W.ownsRow B e s v n xs) (hb : B' ≤ B) : W.ownsRow B' e s v n xs := by
  refine ⟨h.1, ?_⟩
  rcases h.2 with hn | ⟨g, cap, cur, rfl, hb2, rest⟩
  · exact .inl hn
  · exact .inr ⟨g, cap, cur, rfl, Nat.le_trans hb hb2, rest⟩
theorem ArgSt.call {W Y : World} {b g cap : Nat} {dv : Value} {ts : List Tok} {xb : Nat → Prop} {A : Nat} {τ σ : RS} {acc : List Int} {v : Value} (h : ArgSt W b g cap dv ts xb A τ acc v) (hbA : b < A + 1) (hr : Rd Y b g cap dv ts (fun k => xb k ∨ v.ownBlock = some k) σ) (hk : RK b W Y) : ArgSt Y b g cap dv ts xb A σ acc v :=
  ⟨own_keep h.own hbA hk, hr⟩
theorem ArgSt.push {X Y : World} {b g cap : Nat} {dv : Value} {ts : List Tok} {xb : Nat → Prop} {A : Nat} {τ : RS} {acc : List Int} {v : Value} {n : Int} {g' c' : Nat} (h : ArgSt X b g cap dv ts xb A τ acc v) (hbA : b < A + 1)
    (hg : X.grownBy Y v.ownBlock) (ho : Y.ownsRow (A + 1) 3 1 (.slice (some ⟨g', 0, none⟩) (acc.length + 1) c') (acc.length + 1) (acc.map intC ++ [.int .i64 n])) (hl : v.ownBlock = some g' ∨ g' = X.heap.size) (hlt : g' < Y.heap.size) :
    ArgSt Y b g cap dv ts xb A τ (acc ++ [n]) (.slice (some ⟨g', 0, none⟩) (acc.length + 1) c') := by
  have hbs := h.rd.size
  have hgs : g < X.heap.size := by have := h.rd.lt; omega
  have hne : ∀ k, k < A + 1 → some k ≠ v.ownBlock := fun k hk e => by have := (h.own.lt k e.symm).1; omega
  obtain ⟨o, c, h1, q, h2, h3, h4⟩ := h.rd.blk
  refine ⟨by rw [List.length_append, List.map_append]; exact ho, ⟨fun k hk => ?_, ⟨o, c, (hg.block b hbs (hne b hbA)).trans h1, q, h2, ?_, fun p hp => ⟨?_, ?_⟩⟩, row_low h.rd.row (hg.block g hgs (hne g (by have := h.rd.lt; omega))), h.rd.lt, h.rd.at_, h.rd.len, h.rd.ends⟩⟩
  · rcases hk with hk | hk
    · exact Nat.lt_of_lt_of_le (h.rd.xlt k (.inl hk)) hg.size
    · simp [Value.ownBlock] at hk; omega
  · refine rd_own_same h3 fun k e => hg.block k (h3.lt k e).2 fun e2 => ?_
    rcases h3.2 with ⟨h5, _⟩ | ⟨g3, c3, cur3, h5, _, h6, _⟩
    · rw [h5] at e; cases e
    · rcases h.own.2 with ⟨h7, _⟩ | ⟨g4, c4, cur4, h7, _, h8, _⟩
      · rw [h7] at e2; cases e2
      · rw [h5] at e; rw [h7] at e2
        simp [Value.ownBlock] at e e2
        subst e; subst e2
        rw [h6] at h8; cases h8
  · exact rd_own_same (h4 p hp).1 fun k e => hg.block k ((h4 p hp).1.lt k e).2 fun e2 => (h4 p hp).2 k e (.inr e2.symm)
  · intro k e hk
    rcases hk with hk | hk
    · exact (h4 p hp).2 k e (.inl hk)
    · simp [Value.ownBlock] at hk
      rcases hl with hl | hl
      · exact (h4 p hp).2 k e (.inr (by rw [hl, hk]))
      · have := ((h4 p hp).1.lt k e).2; omega
theorem RK.grow_new {b : Nat} {W X Y : World} {row : Option Nat} (h : RK b W X) (hg : X.grownBy Y row) (hb : b ≤ W.heap.size) (hr : ∀ k, row = some k → W.heap.size ≤ k) : RK b W Y :=
  ⟨hg.os.trans h.os, hg.tape.trans h.tape, hg.output.trans h.output, Nat.le_trans h.size hg.size, fun k hk => (hg.block k (by have := h.size; omega) (fun e => by have := hr k e.symm; omega)).trans (h.low k hk),
    fun k o hk hkb hno => (hg.block k (by have := h.size; have := heap_lt hk; omega) (fun e => by have := hr k e.symm; have := heap_lt hk; omega)).trans (h.keep k o hk hkb hno)⟩
theorem args_cases {ts : List Tok} {n : Nat} {acc : List Int} {σ : RS} {R : Int × List Int × RS} (h : runE ts n (.args acc) σ = some R) : ∃ m, n = m + 1 ∧ acc.length ≤ 40000 ∧
    ((isS ts [44] σ = true ∧ ∃ v l τ, runE ts m .expr (stepS σ) = some (v, l, τ) ∧ runE ts m (.args (acc ++ [v])) τ = some R) ∨ (isS ts [44] σ = false ∧ R = (0, acc, σ))) := by
  cases n with
  | zero => cases h
  | succ m =>
    refine ⟨m, rfl, ?_⟩
    simp only [runE] at h
    split at h
    · unfold argsG at h
      split at h
      · rename_i hl
        refine ⟨hl, ?_⟩
        split at h
        · rename_i hi
          cases h1 : runE ts m .expr (stepS σ) with
          | none => rw [h1] at h; cases h
          | some q =>
            rw [h1] at h
            exact .inl ⟨hi, q.1, q.2.1, q.2.2, rfl, h⟩
        · rename_i hi
          exact .inr ⟨by simpa using hi, (Option.some.inj h).symm⟩
      · cases h
    · cases h
theorem rd_int_info : (Tryz.prog.info? 3).map (fun i => (i.zero, i.size, i.bytes)) = some (some (.int .i64 0), 1, 8) := by kernel_rfl
theorem one_cell (W : World) (v : Value) (T : TypeId) (j : Nat) (u : Value) (h : [v][j]? = some u) : (W.alloc (.cells #[v] T)).cell? ((⟨W.heap.size, 0, none⟩ : Addr).add j) = some u := by
  have e : (⟨W.heap.size, 0, none⟩ : Addr).add j = ⟨W.heap.size, j, none⟩ := by unfold Addr.add; split <;> simp_all
  rw [e, World.cell?_alloc_new, ← h, ← Array.getElem?_toList]
/-- one number is laid behind the others -/
theorem wpList_arg (w : World) {ops : Array Oper} {rest : List Oper} {o : Oper} {a : Act} {Q : Exit → Act → World → Prop}
    (hg : o.guard = none) (s x : Operand) (hop : o.op = Op.call { callee := Callee.builtin Builtin.append, args := #[s, x], argTypes := #[33, 33] })
    (base : Nat) (v : Value) (k : Nat) (xs : List Value) (hs : a.eval s = v) (hown : w.ownsRow base 3 1 v k xs) (ad : Addr) (news : List Value) (hx : a.eval x = .slice (some ad) 1 1) (hn : news.length = 1 * 1)
    (hc : ∀ j u, news[j]? = some u → w.cell? (ad.add j) = some u) (h1c : ∀ u ∈ news, u.oneCell' = true) (hk : k ≤ 40000) (b3 : base ≤ w.heap.size)
    (hK : ∀ g cap w', w'.ownsRow base 3 1 (.slice (some ⟨g, 0, none⟩) (k + 1) cap) (k + 1) (xs ++ news) → w.grownBy w' v.ownBlock → (v.ownBlock = some g ∨ g = w.heap.size) → g < w'.heap.size → wpList Tryz.prog ops Q rest (a.put o.dst (.slice (some ⟨g, 0, none⟩) (k + 1) cap)) w') :
    wpList Tryz.prog ops Q (o :: rest) a w := by
  obtain ⟨i, h2, h3, h4, h5⟩ := info_parts rd_int_info
  exact wpList_append_lies (w := w) hg s x 33 hop base 3 i _ 1 8 Tryz.underlying33 h2 h3 h4 h5 rfl (by decide) v k xs hs hown ad 1 1 news hx hn hc h1c (by decide) (by unfold maxLen; omega) (by omega) b3 w.heap.size rfl hK
/-- .. and the token's box, and what was kept since the call began -/
structure ArgAll (W Y : World) (b g cap : Nat) (dv : Value) (ts : List Tok) (xb : Nat → Prop) (A kd : Nat) (tx : List UInt8) (tv : Int) (p : Nat) (τ : RS) (acc : List Int) (v : Value) : Prop where
  st : ArgSt Y b g cap dv ts xb A τ acc v
  box : Box4 Y A kd tx tv p
  rk : RK b W Y
theorem ArgAll.call {W X Y : World} {b g cap : Nat} {dv : Value} {ts : List Tok} {xb : Nat → Prop} {A kd : Nat} {tx : List UInt8} {tv : Int} {p : Nat} {τ σ : RS} {acc : List Int} {v : Value} (h : ArgAll W X b g cap dv ts xb A kd tx tv p τ acc v) (hbA : b < A)
    (hr : Rd Y b g cap dv ts (fun k => xb k ∨ v.ownBlock = some k) σ) (hk : RK b X Y) : ArgAll W Y b g cap dv ts xb A kd tx tv p σ acc v :=
  ⟨h.st.call (by omega) hr hk, h.box.keep hk (by omega), h.rk.trans hk⟩
theorem ArgAll.push {W X Y : World} {b g cap : Nat} {dv : Value} {ts : List Tok} {xb : Nat → Prop} {A kd : Nat} {tx : List UInt8} {tv : Int} {p : Nat} {τ : RS} {acc : List Int} {v : Value} {n : Int} {g' c' : Nat} (h : ArgAll W X b g cap dv ts xb A kd tx tv p τ acc v) (hbA : b < A) (hA : A = W.heap.size)
    (hg : (X.alloc (.cells #[.int .i64 n] 3)).grownBy Y v.ownBlock) (ho : Y.ownsRow (A + 1) 3 1 (.slice (some ⟨g', 0, none⟩) (acc.length + 1) c') (acc.length + 1) (acc.map intC ++ [.int .i64 n]))
    (hl : v.ownBlock = some g' ∨ g' = (X.alloc (.cells #[.int .i64 n] 3)).heap.size) (hlt : g' < Y.heap.size) : ArgAll W Y b g cap dv ts xb A kd tx tv p τ (acc ++ [n]) (.slice (some ⟨g', 0, none⟩) (acc.length + 1) c') := by
  have hb0 : Below X.heap.size X (X.alloc (.cells #[.int .i64 n] 3)) := (Below.refl _ _).alloc (Nat.le_refl _) _
  have hk0 : RK b X (X.alloc (.cells #[.int .i64 n] 3)) := RK.of_below hb0 (Nat.le_of_lt h.st.rd.size)
  have h2 := h.call hbA (h.st.rd.below hb0) hk0
  have hxA : A < (X.alloc (.cells #[.int .i64 n] 3)).heap.size := heap_lt h2.box
  exact ⟨h2.st.push (by omega) hg ho hl hlt, (hg.block A hxA fun e => by have := (h2.st.own.lt A e.symm).1; omega).trans h2.box, h2.rk.grow_new hg (by omega) fun k e => by have := (h2.st.own.lt k e).1; omega⟩
theorem own_form {W : World} {B : Nat} {e : TypeId} {s : Nat} {v : Value} {n : Nat} {xs : List Value} (h : W.ownsRow B e s v n xs) : ∃ o c, v = .slice o n c := by
  rcases h.2 with ⟨rfl, rfl⟩ | ⟨g, cap, cur, rfl, _⟩
  · exact ⟨none, 0, rfl⟩
  · exact ⟨_, cap, rfl⟩
end Go.Proofs.YtnlbfdhhdnapnaaGreat
