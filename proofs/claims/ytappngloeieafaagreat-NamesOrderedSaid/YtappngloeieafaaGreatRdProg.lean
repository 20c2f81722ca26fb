/- The reference's Parse of a program's text: hybrids of outs. -/
import Derived.Test.YtappngloeieafaaGreatRdDecl
import Derived.Test.YtappngloeieafaaGreatRdParse
namespace Go.Proofs.YtappngloeieafaaGreat
open Go.RowKit Lx

abbrev De3 := ByteArray × List It3 × Int
def declsL (ts : List Tok) (f : Nat) : Nat → List De3 → RS → Option (List De3 × RS)
  | 0, _, _ => none
  | n + 1, acc, σ => if acc.length ≤ 1000 ∧ σ.code = 0 then (if (tokL ts σ.at_).kind = 5 then some (acc, σ) else (declG ts f σ).bind fun r => declsL ts f n (acc ++ [(r.1, r.2.1, r.2.2.1)]) r.2.2.2) else none
theorem declsL_cases {ts : List Tok} {f n : Nat} {acc : List De3} {σ : RS} {R : List De3 × RS} (h : declsL ts f n acc σ = some R) : ∃ k, n = k + 1 ∧ acc.length ≤ 1000 ∧ σ.code = 0 ∧
    (((tokL ts σ.at_).kind = 5 ∧ R = (acc, σ)) ∨ ((tokL ts σ.at_).kind ≠ 5 ∧ ∃ nm its p τ, declG ts f σ = some (nm, its, p, τ) ∧ declsL ts f k (acc ++ [(nm, its, p)]) τ = some R)) := by
  cases n with
  | zero => cases h
  | succ k =>
    simp only [declsL] at h
    split at h
    · rename_i hl
      refine ⟨k, rfl, hl.1, hl.2, ?_⟩
      split at h
      · rename_i h5
        exact .inl ⟨h5, by simpa using h.symm⟩
      · rename_i h5
        cases hg : declG ts f σ with
        | none => rw [hg] at h; cases h
        | some r =>
          obtain ⟨nm, its, p, τ⟩ := r
          rw [hg] at h
          exact .inr ⟨h5, nm, its, p, τ, rfl, by simpa using h⟩
    · cases h
def deC (x : De3) (v : Value) : List Value := [.int .i64 3, .string x.1, .slice none 0 0, v, .int .i64 0, .int .i64 0, .int .i64 x.2.2]
def desC (l : List (De3 × Value)) : List Value := l.flatMap fun x => deC x.1 x.2
theorem desC_snoc (l : List (De3 × Value)) (x : De3 × Value) : desC (l ++ [x]) = desC l ++ deC x.1 x.2 := by unfold desC; rw [List.flatMap_append]; simp
/-- declarations in a row of their own -/
def DesOwn (W : World) (B : Nat) (v : Value) (l : List De3) : Prop :=
  ∃ q : List (De3 × Value), q.map Prod.fst = l ∧ W.ownsRow B 44 7 v l.length (desC q) ∧ ∀ x ∈ q, W.ownsRow B 62 9 x.2 x.1.2.1.length (it3C x.1.2.1)
theorem DesOwn.keep {b : Nat} {W Y : World} {B : Nat} {v : Value} {l : List De3} (h : DesOwn W B v l) (hB : b < B) (hk : RK b W Y) : DesOwn Y B v l := by
  obtain ⟨q, h1, h2, h3⟩ := h
  exact ⟨q, h1, own_keepT h2 (by decide) hB hk, fun x hx => own_keepT (h3 x hx) (by decide) hB hk⟩
theorem de_info : (Tryz.prog.info? 44).map (fun i => (i.zero, i.size, i.bytes)) = some (some (.agg #[.int .i64 0, .string ⟨#[]⟩, .slice none 0 0, .slice none 0 0, .int .i64 0, .int .i64 0, .int .i64 0]), 7, 96) := by kernel_rfl
theorem step_de {ops : Array Oper} {o : Oper} {a : Act} {K : Act → World → Prop} {Q : Exit → Act → World → Prop} {E : Prop} (w : World) (hgd : o.guard = none) (s x : Operand)
    (ho : o.op = Op.call { callee := Callee.builtin Builtin.append, args := #[s, x], argTypes := #[22, 22] }) (B : Nat) (v : Value) (n : Nat) (xs : List Value) (hs : a.eval s = v) (hown : w.ownsRow B 44 7 v n xs)
    (ad : Addr) (news : List Value) (hx : a.eval x = .slice (some ad) 1 1) (hn : news.length = 1 * 7) (hc : ∀ j u, news[j]? = some u → w.cell? (ad.add j) = some u) (h1c : ∀ u ∈ news, u.oneCell' = true) (hk : n ≤ 1000) (hB : B ≤ w.heap.size)
    (h : ∀ g cap w', w'.ownsRow B 44 7 (.slice (some ⟨g, 0, none⟩) (n + 1) cap) (n + 1) (xs ++ news) → w.grownBy w' v.ownBlock → K (a.put o.dst (.slice (some ⟨g, 0, none⟩) (n + 1) cap)) w') : if Region.wanted o (yielded ops a.tmps) = true then Oper.wp Tryz.prog o a w K Q else E := by
  rw [if_pos (by simp [Region.wanted, hgd])]
  obtain ⟨i, h2, h3, h4, h5⟩ := info_parts de_info
  refine wp_append_own w s x 22 ho B 44 i _ 7 96 Tryz.underlying22 h2 h3 h4 h5 rfl (by decide) v n xs hs hown ad 1 1 news hx hn hc h1c (by unfold maxLen; omega) (by omega) hB fun v' w' r1 r2 _ => ?_
  obtain ⟨g, cap, rfl⟩ := ownsRow_succ r1
  exact h g cap w' r1 r2
theorem seven_at (W : World) (B : Nat) (hB : B = W.heap.size) (x0 x1 x2 x3 x4 x5 x6 : Value) (T : TypeId) (j : Nat) (u : Value) (h : [x0, x1, x2, x3, x4, x5, x6][j]? = some u) : (W.alloc (.cells #[x0, x1, x2, x3, x4, x5, x6] T)).cell? ((⟨B, 0, none⟩ : Addr).add j) = some u := by
  subst hB
  have e : (⟨W.heap.size, 0, none⟩ : Addr).add j = ⟨W.heap.size, j, none⟩ := by unfold Addr.add; split <;> simp_all
  rw [e, World.cell?_alloc_new, ← h, ← Array.getElem?_toList]
theorem Rd.setDv {W : World} {b g cap : Nat} {dv : Value} {ts : List Tok} {xb : Nat → Prop} {σ : RS} (h : Rd W b g cap dv ts xb σ) (v : Value) : Rd (W.setCell ⟨b, 2, none⟩ v) b g cap v ts xb σ := by
  obtain ⟨o, c, h1, h2⟩ := h.blk
  refine ⟨fun k hk => Nat.lt_of_lt_of_le (h.xlt k hk) ((Below.refl b W).setCell (p := ⟨b, 2, none⟩) (Nat.le_refl _) v).size, ⟨o, c, ?_, h2.same fun k hk _ => Below.heap_setCell W ⟨b, 2, none⟩ v k (by simp; omega)⟩, row_low h.row (Below.heap_setCell W ⟨b, 2, none⟩ v g (by have := h.lt; simp; omega)), h.lt, h.at_, h.len, h.ends⟩
  rw [set_blk h1]; simp
/-- between two declarations -/
structure PaSt (W Y : World) (b g cap : Nat) (ts : List Tok) (σ : RS) (acc : List De3) (dv : Value) : Prop where
  rd : Rd Y b g cap dv ts (fun _ => False) σ
  rk : RK b W Y
  des : DesOwn Y W.heap.size dv acc
theorem PaSt.push {W w1 w2 w3 : World} {b g cap : Nat} {ts : List Tok} {τ : RS} {acc : List De3} {dv vi : Value} {x : De3} {q : List (De3 × Value)} (hbs : b < W.heap.size) (hk0 : RK b W w1) (hr1 : Rd w1 b g cap dv ts (fun _ => False) τ) (hb : Below w1.heap.size w1 w2)
    (hq1 : q.map Prod.fst = acc) (hq3 : ∀ y ∈ q, w1.ownsRow W.heap.size 62 9 y.2 y.1.2.1.length (it3C y.1.2.1)) (hi : w1.ownsRow W.heap.size 62 9 vi x.2.1.length (it3C x.2.1)) (ho2 : w2.ownsRow W.heap.size 44 7 dv acc.length (desC q)) (hg : w2.grownBy w3 dv.ownBlock) {gg cc : Nat}
    (ho : w3.ownsRow W.heap.size 44 7 (.slice (some ⟨gg, 0, none⟩) (acc.length + 1) cc) (acc.length + 1) (desC q ++ deC x vi)) :
    PaSt W (w3.setCell ⟨b, 2, none⟩ (.slice (some ⟨gg, 0, none⟩) (acc.length + 1) cc)) b g cap ts τ (acc ++ [x]) (.slice (some ⟨gg, 0, none⟩) (acc.length + 1) cc) := by
  have hr3 := (hr1.below hb).grownT ho2 hbs (by decide) (by decide) hg
  have hk3 : RK b W w3 := (hk0.trans (RK.of_below hb (Nat.le_of_lt hr1.size))).grownT hbs ho2 hg
  have sm : ∀ k, k ≠ b → (w3.setCell ⟨b, 2, none⟩ (.slice (some ⟨gg, 0, none⟩) (acc.length + 1) cc)).heap[k]? = w3.heap[k]? := fun k hk => Below.heap_setCell w3 ⟨b, 2, none⟩ _ k (by simpa using hk)
  have it : ∀ {v : Value} {n : Nat} {xs : List Value}, w1.ownsRow W.heap.size 62 9 v n xs → (w3.setCell ⟨b, 2, none⟩ (.slice (some ⟨gg, 0, none⟩) (acc.length + 1) cc)).ownsRow W.heap.size 62 9 v n xs := fun h => rd_own_same h fun k e => by
    obtain ⟨hlo, cs, hc⟩ := own_type h e
    have hlt := (h.lt k e).2
    have e2 := hb.block k hlt
    rw [sm k (by omega)]
    refine (hg.block k (by have := hb.size; omega) fun e3 => ?_).trans e2
    obtain ⟨_, cs', hc'⟩ := own_type ho2 e3.symm
    rw [e2, hc] at hc'; cases hc'
  refine ⟨hr3.setDv _, hk3.trans (RK.set 2 _), q ++ [(x, vi)], by simp [hq1], ?_, ?_⟩
  · rw [desC_snoc, List.length_append, List.length_singleton]
    exact rd_own_same ho fun k e => sm k (by have := (ho.lt k e).1; omega)
  · intro y hy
    rcases List.mem_append.1 hy with hy | hy
    · exact it (hq3 y hy)
    · obtain rfl := List.mem_singleton.1 hy
      exact it hi
end Go.Proofs.YtappngloeieafaaGreat
