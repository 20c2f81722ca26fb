/- Joined: LexLex. -/
import Derived.Test.YtlbhlncipajapaaGreatDoorPe06
import Derived.RangeFuncBox
import Derived.Maps.AppendAt
namespace Go.Proofs.YtlbhlncipajapaaGreatDoor.Lx
open Go.RowKit Go.Shelf

attribute [local go_sem] Oper.semAt_some

theorem toks_fault {l : List UInt8} {a f : Nat} {ts : List Tok} (h : Toks l a ts (some f)) : oneL (l.drop f) = none := by
  generalize hr : some f = r at h
  induction h with
  | fin => cases hr
  | bad h h1 => cases hr; exact h1
  | tok h h1 h2 ih => exact ih hr
theorem toks_kinds {l : List UInt8} {a : Nat} {ts : List Tok} {r : Option Nat} (h : Toks l a ts r) : ∀ t ∈ ts, t.kind ≠ 0 := by
  induction h with
  | fin => intro t ht; simp at ht
  | bad => intro t ht; simp at ht
  | @tok a ts r h h1 h2 ih =>
    intro t ht
    rcases List.mem_cons.1 ht with rfl | ht
    · exact fun hk => h1 ((tokAt_kind l a).1 hk)
    · exact ih t ht
/-- tokens in cells -/
def tokCells (ts : List Tok) : List Value := ts.flatMap fun t => [.int .i64 (t.kind : Int), .string (str t.text), .int .i64 t.v, .int .i64 (t.at_ : Int)]
theorem tokCells_snoc (ts : List Tok) (t : Tok) : tokCells (ts ++ [t]) = tokCells ts ++ [.int .i64 (t.kind : Int), .string (str t.text), .int .i64 t.v, .int .i64 (t.at_ : Int)] := by unfold tokCells; rw [List.flatMap_append]; simp
theorem tok_info : (Tryz.prog.info? 43).map (fun i => (i.zero, i.size, i.bytes)) = some (some (.agg #[.int .i64 0, .string ⟨#[]⟩, .int .i64 0, .int .i64 0]), 4, 40) := by kernel_rfl
/-- the row behind an append: the one there was, or a new one -/
theorem row_after {W : World} {base : Nat} {i : TypeInfo} {z : Value} {ty : TypeId} (h2 : Tryz.prog.info? 43 = some i) (h3 : i.zero = some z) (h4 : i.size = 4) (h5 : i.bytes = 40)
    (v : Value) (k : Nat) (xs : List Value) (hown : W.ownsRow base 43 4 v k xs) (ad : Addr) (news : List Value) (hn : news.length = 1 * 4)
    (hc : ∀ j u, news[j]? = some u → W.cell? (ad.add j) = some u) (h1c : ∀ u ∈ news, u.oneCell' = true) (hk : k ≤ 40000) (v' : Value) (w' : World)
    (hrun : (Builtin.append_ #[39, 39] ty #[v, .slice (some ad) 1 1]).run Tryz.prog W = .ok v' w') : v'.ownBlock = v.ownBlock ∨ v'.ownBlock = some W.heap.size := by
  rcases hown.2 with ⟨rfl, rfl⟩ | ⟨g, cap, cur, rfl, hbg, hg, hnc, hcm, hcs, htake⟩
  · have hr := run_append_nil (P := Tryz.prog) W 39 ty 43 i z Tryz.underlying39 h2 h3 ad 1 1 news (by rw [h4]; exact hn) hc (by omega) (by omega) (by rw [h5]; omega)
    rw [hr] at hrun
    cases hrun
    exact .inr rfl
  · by_cases hroom : k + 1 ≤ cap
    · have hr := run_append_room (P := Tryz.prog) W 39 ty 43 i Tryz.underlying39 h2 g k cap cur hg ad 1 1 news (by rw [h4]; exact hn) hc h1c hroom (by rw [h4, hcs]; omega)
      rw [hr] at hrun
      cases hrun
      exact .inl rfl
    · have holds : ∀ j u, xs[j]? = some u → W.cell? ((⟨g, 0, none⟩ : Addr).add j) = some u := hown.cells (g := g) rfl
      have hr := run_append_grow (P := Tryz.prog) W 39 ty 43 i z Tryz.underlying39 h2 h3 ⟨g, 0, none⟩ k cap xs (by rw [h4]; exact hown.1) holds ad 1 1 news (by rw [h4]; exact hn) hc (by omega) (by omega) (growslice_fits (by omega) (by rw [h5]; omega))
      rw [hr] at hrun
      cases hrun
      exact .inr rfl
theorem wpListIn_append_tok {F : Fence} {n : Nat} (w : World) {ops : Array Oper} {rest : List Oper} {o : Oper} {a : Act} {Q : Exit → Act → World → Prop}
    (hg : o.guard = none) (s x : Operand) (hop : o.op = Op.call { callee := Callee.builtin Builtin.append, args := #[s, x], argTypes := #[39, 39] })
    (base : Nat) (v : Value) (k : Nat) (xs : List Value) (hs : a.eval s = v) (hown : w.ownsRow base 43 4 v k xs) (ad : Addr) (news : List Value) (hx : a.eval x = .slice (some ad) 1 1) (hn : news.length = 1 * 4)
    (hc : ∀ j u, news[j]? = some u → w.cell? (ad.add j) = some u) (h1c : ∀ u ∈ news, u.oneCell' = true) (hk : k ≤ 40000) (b3 : base ≤ w.heap.size)
    (hK : ∀ v' w', w'.ownsRow base 43 4 v' (k + 1) (xs ++ news) → w.grownBy w' v.ownBlock → (v'.ownBlock = v.ownBlock ∨ v'.ownBlock = some w.heap.size) → wpListIn F n Tryz.prog ops Q rest (a.put o.dst v') w') :
    wpListIn F n Tryz.prog ops Q (o :: rest) a w := by
  obtain ⟨i, h2, h3, h4, h5⟩ := info_parts tok_info
  refine wpListIn_plain hg fun K hK' => ?_
  obtain ⟨v', w', hrun, r1, r2, _⟩ := run_append_own (P := Tryz.prog) w base 39 o.type 43 i _ 4 40 Tryz.underlying39 h2 h3 h4 h5 rfl (by decide) v k xs hown ad 1 1 news hn hc h1c (by unfold maxLen; omega) (by omega) b3
  have r3 := row_after h2 h3 h4 h5 v k xs hown ad news hn hc h1c hk v' w' hrun
  unfold Oper.wpIn
  refine ⟨?_, ?_⟩
  · simp [Oper.about, hop, resolve, Target.leads, Sem.run_pure]
  · rw [Oper.semAt_plain F _ _ (by rw [hop]; intro c hc'; cases hc')]
    simp [execOp, hop, resolve, invoke, builtin, hs, hx, hrun, Result.andThen]
    exact hK' _ _ (hK v' w' r1 r2 r3)

theorem clone_any (l : List UInt8) (nl : l.length ≤ 100000) (w : World) : Calls Tryz.prog 59 #[.string (str l)] w fun e w' => e = .returned (.string (str l)) ∧ Below w.heap.size w w' := by
  have C := Lib.hid (Tryz.stringslite_Clone (str l) w (by rw [str_size]; omega))
  go_enter Tryz.func59, Tryz.ntmps59
  go_wp2_with (go_at_call 85; ((with_reducible refine C.out.mono ?_); rintro e w1 ⟨rfl, hb⟩))
  go_ret
  exact ⟨rfl, hb⟩
/-- what Lex answers -/
def LexPost (l : List UInt8) (ts : List Tok) (r : Option Nat) (w : World) (e : Ending) (w' : World) : Prop :=
  ∃ (v : Value) (c f : Int), e = .returned (.tuple #[v, .agg #[.int .i64 c, .int .i64 f]]) ∧ Below w.heap.size w w' ∧
    ((20000 < l.length ∧ v = .slice none 0 0 ∧ c = 10 ∧ f = 0) ∨
     (l.length ≤ 20000 ∧ r = none ∧ c = 0 ∧ f = 0 ∧ w'.ownsRow w.heap.size 43 4 v (ts.length + 1) (tokCells (ts ++ [endT l.length]))) ∨
     (l.length ≤ 20000 ∧ ∃ g : Nat, r = some g ∧ v = .slice none 0 0 ∧ c = 1 ∧ f = (g : Int)))
theorem lex_long (l : List UInt8) (ts : List Tok) (r : Option Nat) (n : Nat) (hn : Hid (l.length = n)) (hs : (str l).size = n) (hl : (20000 : Int) < (n : Int)) (w : World) :
    Calls Tryz.prog 31 #[.string (str l)] w fun e w' => LexPost l ts r w e w' := by
  have q : decide ((20000 : Int) < (n : Int)) = true := decide_eq_true hl
  go_enter Tryz.func31, Tryz.ntmps31
  go_wp2_with fail
  exact bodyPost_ret (v := .tuple #[.slice none 0 0, .agg #[.int .i64 10, .int .i64 0]]) (by simp [results, Tryz.results31, go_sem]) rfl
    ⟨_, _, _, rfl, ((Below.refl w.heap.size w).alloc (Nat.le_refl _) _).alloc (by simp) _, .inl ⟨by rw [hn.out]; omega, rfl, rfl, rfl⟩⟩
theorem heap_old (W : World) (o : Obj) (k : Nat) (h : k < W.heap.size) : (W.alloc o).heap[k]? = W.heap[k]? := ((Below.refl W.heap.size W).alloc (Nat.le_refl _) o).block k h
/-- between two rounds: the slice owns what has come -/
def Inv (w : World) (N : Nat) (pre : List Tok) (W : World) : Prop :=
  (∃ v, Boxed W (w.heap.size + 1 + 1) 39 v ∧ W.ownsRow w.heap.size 43 4 v pre.length (tokCells pre)) ∧ W.heap[w.heap.size]? = some (.cells #[.slice none 0 0] 39 (0, 0)) ∧
  W.heap[w.heap.size + 1]? = some (.cells #[.int .i64 0, .int .i64 0] 29 (0, 0)) ∧ (∀ t ∈ pre, t.kind ≠ 0) ∧ Below w.heap.size w W ∧ N ≤ W.heap.size
/-- left by a return -/
def Left (w : World) (N : Nat) (c : Code) (pre : List Tok) (W : World) : Prop :=
  c = .ret ∧ ∃ pre' x, pre = pre' ++ [x] ∧ x.kind = 0 ∧ W.heap[w.heap.size]? = some (.cells #[.slice none 0 0] 39 (0, 0)) ∧
  W.heap[w.heap.size + 1]? = some (.cells #[.int .i64 1, .int .i64 (x.at_ : Int)] 29 (0, 0)) ∧ Below w.heap.size w W ∧ N ≤ W.heap.size
/-- the loop's variable, boxed -/
def Var (F : FuncId) (S : ByteArray) (n q A R N : Nat) (x : Tok) (a : Act) (W : World) : Prop :=
  ∃ X, N ≤ X ∧ W.heap[X]? = some (.cells #[.int .i64 (x.kind : Int), .string (str x.text), .int .i64 x.v, .int .i64 (x.at_ : Int)] 43 (0, 0)) ∧
    a = { tmps := #[.string S, undef, .pointer (some ⟨q, 0, none⟩), .pointer (some ⟨q + 1, 0, none⟩), .pointer (some ⟨q + 1 + 1, 0, none⟩), .pointer (some ⟨X, 0, none⟩), .string S, .int .i64 (n : Int), .bool false, undef, .string S, .string S,
      .func (.func F) #[] #[.pointer (some ⟨R, 0, none⟩), .pointer (some ⟨A, 0, none⟩)], tokV x, undef, undef, undef, undef, undef, undef, undef, undef, undef, undef, undef, undef], defers := [] }
theorem row_kept {X Y : World} {row : Option Nat} {N base k : Nat} {v : Value} {xs : List Value} (h : X.ownsRow base 43 4 v k xs) (hg : X.grownBy Y row) (hr : ∀ r, row = some r → N ≤ r ∧ ∃ o : Obj, X.heap[r]? = some o ∧ o.isCells = false) : Y.ownsRow base 43 4 v k xs := by
  refine h.kept hg ?_
  rcases h.2 with ⟨rfl, _⟩ | ⟨g, cap, cur, rfl, _, hgb, _⟩
  · exact .inl rfl
  · refine .inr fun e' => ?_
    obtain ⟨_, o, ho, hc⟩ := hr g (by simpa [Value.ownBlock] using e'.symm)
    rw [hgb] at ho; cases ho; cases hc
theorem lt_of_heap {W : World} {k : Nat} {o : Obj} (h : W.heap[k]? = some o) : k < W.heap.size := (Array.getElem?_eq_some_iff.1 h).1
theorem inv_own (w : World) (N : Nat) (hN : w.heap.size + 1 + 1 < N) : OwnFrom N (Inv w N) := by
  rintro s X Y row ⟨⟨v, hv, hr⟩, h2, h3, h4, h5, h6⟩ hg hrow
  have hne : ∀ b, b < N → some b ≠ row := fun b hb e => by have := (hrow b e.symm).1; omega
  exact ⟨⟨v, hv.kept hg (hne _ hN), row_kept hr hg hrow⟩, (hg.block _ (lt_of_heap h2) (hne _ (by omega))).trans h2, (hg.block _ (lt_of_heap h3) (hne _ (by omega))).trans h3, h4,
    h5.grown hg h5.size (fun k e => by have := (hrow k e).1; omega), Nat.le_trans h6 hg.size⟩
theorem left_own (w : World) (N : Nat) (hN : w.heap.size + 1 + 1 < N) (c : Code) : OwnFrom N (Left w N c) := by
  rintro s X Y row ⟨hc, p, x, hp, hk, h2, h3, h5, h6⟩ hg hrow
  have hne : ∀ b, b < N → some b ≠ row := fun b hb e => by have := (hrow b e.symm).1; omega
  exact ⟨hc, p, x, hp, hk, (hg.block _ (lt_of_heap h2) (hne _ (by omega))).trans h2, (hg.block _ (lt_of_heap h3) (hne _ (by omega))).trans h3, h5.grown hg h5.size (fun k e => by have := (hrow k e).1; omega), Nat.le_trans h6 hg.size⟩
theorem var_own (F : FuncId) (S : ByteArray) (n q A R N : Nat) (x : Tok) (a : Act) : OwnFrom N (fun (_ : Unit) W => Var F S n q A R N x a W) := by
  rintro s X Y row ⟨B, hB, h, ha⟩ hg hrow
  exact ⟨B, hB, (hg.block _ (lt_of_heap h) (fun e => by obtain ⟨_, o, ho, hc⟩ := hrow B e.symm; rw [h] at ho; cases ho; cases hc)).trans h, ha⟩
theorem keep_putObj {B N : Nat} (hB : B < N) (W : World) (l : Nat) (o o' : Obj) (hl : N ≤ l) (h : W.heap[l]? = some o) (hc : o.isCells = false) : Keep B N W (W.putObj l o') := by
  have hg := grownBy_putObj' W l o'
  have hll := lt_of_heap h
  refine ⟨hg.size, fun k hk _ _ hh => hg.block k hk (fun e => ?_), fun k hk => ?_⟩
  · cases e
    rcases hh with h1 | ⟨o2, h1, h2⟩
    · omega
    · rw [h] at h1; cases h1; rw [hc] at h2; cases h2
  · rw [rowOf_same (hg.block B (by omega) (fun e => by cases e; omega))] at hk
    exact .inl hk
theorem keep_alloc {B N : Nat} {W : World} (hB : B < W.heap.size) (o : Obj) : Keep B N W (W.alloc o) := by
  have hb : Below W.heap.size W (W.alloc o) := (Below.refl _ _).alloc (Nat.le_refl _) _
  refine ⟨hb.size, fun k hk _ _ _ => hb.block k hk, fun k hk => ?_⟩
  rw [rowOf_same (hb.block B hB)] at hk
  exact .inl hk
theorem cell_four_new (W : World) (a b c d : Value) (T : TypeId) (j : Nat) (u : Value) (h : [a, b, c, d][j]? = some u) : (W.alloc (.cells #[a, b, c, d] T)).cell? ((⟨W.heap.size, 0, none⟩ : Addr).add j) = some u := by
  have e : (⟨W.heap.size, 0, none⟩ : Addr).add j = ⟨W.heap.size, j, none⟩ := by unfold Addr.add; split <;> simp_all
  rw [e, World.cell?_alloc_new, ← h, ← Array.getElem?_toList]
theorem set_heap {W : World} {g : Nat} {cs : Array Value} {T : TypeId} {fr : Nat × Nat} (h : W.heap[g]? = some (.cells cs T fr)) (i : Nat) (v : Value) : (W.setCell ⟨g, i, none⟩ v).heap[g]? = some (.cells (cs.setIfInBounds i v) T fr) := by
  obtain ⟨hlt, hk⟩ := Array.getElem?_eq_some_iff.1 h
  show (W.heap.modify g _)[g]? = _
  rw [Array.getElem?_eq_getElem (by rw [Array.size_modify]; exact hlt), Array.getElem_modify_self, hk]
  rfl
theorem set_other (W : World) (g k i : Nat) (v : Value) (h : k ≠ g) : (W.setCell ⟨g, i, none⟩ v).heap[k]? = W.heap[k]? := Below.heap_setCell W ⟨g, i, none⟩ v k h
theorem not_own {W : World} {base n k : Nat} {v : Value} {xs : List Value} {cs : Array Value} {T : TypeId} {fr : Nat × Nat} (h : W.ownsRow base 43 4 v n xs) (hk : W.heap[k]? = some (.cells cs T fr)) (hT : T ≠ 43) : some k ≠ v.ownBlock := by
  rcases h.2 with ⟨rfl, _⟩ | ⟨g, cap, cur, rfl, _, hgb, _⟩
  · simp [Value.ownBlock]
  · intro e
    obtain rfl : k = g := by simpa [Value.ownBlock] using e
    rw [hk] at hgb
    cases hgb
    exact hT rfl
theorem row_same {W W' : World} {base n : Nat} {v : Value} {xs : List Value} (h : W.ownsRow base 43 4 v n xs) (hh : ∀ (k : Nat) (cs : Array Value), W.heap[k]? = some (.cells cs 43 (0, 0)) → W'.heap[k]? = W.heap[k]?) : W'.ownsRow base 43 4 v n xs := by
  refine ⟨h.1, ?_⟩
  rcases h.2 with h2 | ⟨g, cap, cur, rfl, h3, h4, h5⟩
  · exact .inl h2
  · exact .inr ⟨g, cap, cur, rfl, h3, (hh g cur h4).trans h4, h5⟩
/-- the results written, the rounds' block taken -/
def fin (W : World) (q D : Nat) (v : Value) (c f : Int) : World := (((W.setCell ⟨q, 0, none⟩ v).setCell ⟨q + 1, 0, none⟩ (.int .i64 c)).setCell ⟨q + 1, 1, none⟩ (.int .i64 f)).putObj D (.deferred none)
theorem fin_facts {W : World} {q D : Nat} {f0 f1 : Value} (hq : W.heap[q]? = some (.cells #[f0] 39 (0, 0))) (hf : W.heap[q + 1]? = some (.cells #[f1, f1] 29 (0, 0))) (hD : W.heap[D]? = some (.deferred (some []))) (v : Value) (c f : Int) :
    (fin W q D v c f).heap[q]? = some (.cells #[v] 39 (0, 0)) ∧ (fin W q D v c f).heap[q + 1]? = some (.cells #[.int .i64 c, .int .i64 f] 29 (0, 0)) ∧
    (∀ (k : Nat) (cs : Array Value), W.heap[k]? = some (.cells cs 43 (0, 0)) → (fin W q D v c f).heap[k]? = W.heap[k]?) := by
  have h1 : q ≠ D := by rintro rfl; rw [hq] at hD; cases hD
  have h2 : q + 1 ≠ D := by rintro rfl; rw [hf] at hD; cases hD
  have a1 := set_heap hq 0 v
  have a2 := set_heap ((set_other W q (q + 1) 0 v (by omega)).trans hf) 0 (.int .i64 c)
  have a3 := set_heap a2 1 (.int .i64 f)
  refine ⟨?_, ?_, fun k cs hk => ?_⟩
  · unfold fin
    rw [World.putObj_heap_other h1, set_other _ (q + 1) q 1 _ (by omega), set_other _ (q + 1) q 0 _ (by omega), a1]
    rfl
  · unfold fin
    rw [World.putObj_heap_other h2, a3]
    rfl
  · have k1 : k ≠ D := by rintro rfl; rw [hk] at hD; cases hD
    have k2 : k ≠ q := by rintro rfl; rw [hk] at hq; cases hq
    have k3 : k ≠ q + 1 := by rintro rfl; rw [hk] at hf; cases hf
    unfold fin
    rw [World.putObj_heap_other k1, set_other _ (q + 1) k 1 _ k3, set_other _ (q + 1) k 0 _ k3, set_other _ q k 0 _ k2]
theorem fin_below {W w : World} {D : Nat} (hB : Below w.heap.size w W) (hD : W.heap[D]? = some (.deferred (some []))) (hl : w.heap.size ≤ D) (v : Value) (c f : Int) : Below w.heap.size w (fin W w.heap.size D v c f) := by
  have h := ((hB.setCell (p := ⟨w.heap.size, 0, none⟩) (Nat.le_refl _) v).setCell (p := ⟨w.heap.size + 1, 0, none⟩) (Nat.le_succ _) (.int .i64 c)).setCell (p := ⟨w.heap.size + 1, 1, none⟩) (Nat.le_succ _) (.int .i64 f)
  have hD2 := (((KeepsOthers.setCell W ⟨w.heap.size, 0, none⟩ v).trans (KeepsOthers.setCell _ ⟨w.heap.size + 1, 0, none⟩ (.int .i64 c))).trans (KeepsOthers.setCell _ ⟨w.heap.size + 1, 1, none⟩ (.int .i64 f))).same D _ hD rfl
  exact h.trans (belowK_b (w := w) (Nat.le_refl _) _ D _ _ hl hD2 rfl rfl)
theorem rowOf_box {W : World} {B : Nat} {T : TypeId} {v : Value} (h : Boxed W B T v) : rowOf B W = v.ownBlock := by unfold rowOf; rw [h.cell]; rfl
set_option maxHeartbeats 8000000 in
set_option maxRecDepth 100000 in
theorem lex_core (l : List UInt8) (ts : List Tok) (r : Option Nat) (ht : Hid (lexT l ts r)) (n : Nat) (hn : Hid (l.length = n)) (hs : (str l).size = n) (hl : (n : Int) ≤ 20000) (w : World) (hS : Hid (Signs w)) :
    CallsIn Fence.wide 5 Tryz.prog 31 #[.string (str l)] w fun e w' => LexPost l ts r w e w' := by
  have q : decide ((20000 : Int) < (n : Int)) = false := decide_eq_false (by omega)
  have hb0 := Lib.hid ((((Below.refl w.heap.size w).alloc (Nat.le_refl _) (.cells #[.slice none 0 0] 39)).alloc (by simp) (.cells #[.int .i64 0, .int .i64 0] 29)).alloc (by simp; omega) (.cells #[.slice none 0 0] 39))
  refine callsIn_of_wp_marks Tryz.func31 rfl trivial ?_ rfl
  simp only [Tryz.ntmps31, List.size_toArray, List.length_cons, List.length_nil, Nat.reduceAdd, Nat.reduceSub, Array.replicate_succ, Array.replicate_zero, List.push_toArray, List.append_toArray, List.nil_append, List.cons_append]
  gi_wp2_with (first | (refine ⟨trivial, ?_⟩; gi_at_call 59; ((with_reducible refine (callsIn_wide.2 (clone_any l (by have := hn.out; omega) _)).mono ?_); rintro e w1 ⟨rfl, hb1⟩; have HB1 := Lib.hid hb1; clear hb1)) | (refine ⟨trivial, ?_⟩; gi_at_call 58; ((with_reducible refine (callsIn_wide.2 (tokens_any l _ (by exact hS.out.below (hb0.out.trans (HB1.out.mono hb0.out.size))))).mono ?_); rintro e w2 ⟨A, R, b, v1, v2, v3, v4, v5, rfl, hsrc, hb2⟩; have HB2 := Lib.hid hb2; have HSRC := Lib.hid hsrc; clear hb2 hsrc)))
  have hsz1 := HB1.out.size
  have hsz2 := HB2.out.size
  simp only [World.size_alloc] at hsz1
  have hW2 : Hid (w.heap.size + 1 + 1 < w2.heap.size) := Lib.hid (by omega)
  have hfar := Lib.hid (HB1.out.trans (HB2.out.mono HB1.out.size))
  have bL := Boxed.new ((w.alloc (.cells #[.slice none 0 0] 39)).alloc (.cells #[.int .i64 0, .int .i64 0] 29)) 39 (.slice none 0 0)
  simp only [World.size_alloc] at bL
  have hbL : Hid (Boxed w2 (w.heap.size + 1 + 1) 39 (.slice none 0 0)) := Lib.hid ((hfar.out.block _ (by simp)).trans bL)
  have hinv : Hid (Inv w w2.heap.size [] w2) := Lib.hid (by
    have hbw := hb0.out.trans (hfar.out.mono hb0.out.size)
    refine ⟨⟨.slice none 0 0, (hfar.out.block _ (by simp)).trans bL, World.ownsRow_nil _ _ _ _⟩, (hfar.out.block _ (by simp; omega)).trans ?_, (hfar.out.block _ (by simp)).trans ?_, (fun t h => by simp at h), hbw, Nat.le_refl _⟩
    · rw [heap_old _ _ _ (by simp; omega), heap_old _ _ _ (by simp)]; exact World.alloc_heap_new w _
    · rw [heap_old _ _ _ (by simp)]
      have := World.alloc_heap_new (w.alloc (.cells #[.slice none 0 0] 39)) (.cells #[.int .i64 0, .int .i64 0] 29)
      rwa [World.size_alloc] at this)
  clear bL hsz1 hsz2
  refine wpIn_rangeFunc_ownH (α := Tok) rfl (by decide) (gf := 82) (lb := #[.pointer (some ⟨R, 0, none⟩), .pointer (some ⟨A, 0, none⟩)]) rfl trivial (enters_of Tryz.func82 (by kernel_rfl) rfl)
    (iter_stops 4 (by decide) l (by have := hn.out; omega) (w.heap.size + 1 + 1) w1.heap.size A R b v1 v2 v3 v4 v5 w2 ?hB ?hBs hW2.out ?hrow HSRC.out ts r ht.out) (fun h k => h.trans k) (fun W l o o' h1 h2 h3 _ => keep_putObj hW2.out W l o o' h1 h2 h3) (Below.refl _ _) (fun _ => rfl)
    (Inv w w2.heap.size) (Left w w2.heap.size) (inv_own w _ hW2.out) (left_own w _ hW2.out) hinv.out (Var 82 (str l) n w.heap.size A R w2.heap.size) (var_own _ _ _ _ _ _ _) ?assign ?body ?done ?stop
  case hB => have := HB1.out.size; simp at this; omega
  case hBs => obtain ⟨_, _, h⟩ := hS.out; have := lt_of_heap h; omega
  case hrow => unfold rowOf; rw [hbL.out.cell]; rfl
  case assign =>
    rintro lp pre ⟨kk, tx, vv, aa⟩ W K hi hK
    dsimp only [tokV]
    gi_wp2
    have hBW : w.heap.size + 1 + 1 < W.heap.size := Nat.lt_of_lt_of_le hW2.out hi.2.2.2.2.2
    exact hK _ _ ((KeepsOthers.alloc _ _).from _) (keep_alloc hBW _) ((inv_own w _ hW2.out).alloc _ hi) ⟨W.heap.size, hi.2.2.2.2.2, World.alloc_heap_new W _, rfl⟩
  case body =>
    rintro lp pre ⟨kk, tx, vv, aa⟩ a' W hlp hrec ⟨⟨v, hv, hrow⟩, hq, hf, hkinds, hB, hN⟩ ⟨X, hX, hXh, rfl⟩ hlt
    have x0 : W.cell? ⟨X, 0, none⟩ = some (.int .i64 (kk : Int)) := by simp [World.cell?, hXh]
    have x1 : W.cell? ⟨X, 1, none⟩ = some (.string (str tx)) := by simp [World.cell?, hXh]
    have x2 : W.cell? ⟨X, 2, none⟩ = some (.int .i64 vv) := by simp [World.cell?, hXh]
    have x3 : W.cell? ⟨X, 3, none⟩ = some (.int .i64 (aa : Int)) := by simp [World.cell?, hXh]
    have cq : W.cell? ⟨w.heap.size, 0, none⟩ = some (.slice none 0 0) := by simp [World.cell?, hq]
    have fq : W.frozen? ⟨w.heap.size, 0, none⟩ = false := by simp [World.frozen?, hq]
    have ce : W.cell? ⟨w.heap.size + 1, 0, none⟩ = some (.int .i64 0) := by simp [World.cell?, hf]
    have ce1 : W.cell? ⟨w.heap.size + 1, 1, none⟩ = some (.int .i64 0) := by simp [World.cell?, hf]
    have fe : W.frozen? ⟨w.heap.size + 1, 0, none⟩ = false := by simp [World.frozen?, hf]
    have fe1 : W.frozen? ⟨w.heap.size + 1, 1, none⟩ = false := by simp [World.frozen?, hf]
    have hc := hv.cell
    have HQ := Lib.hid hq
    have HF := Lib.hid hf
    have HX := Lib.hid hXh
    have HV := Lib.hid hv
    have HK := Lib.hid hkinds
    have HB := Lib.hid hB
    have HN := Lib.hid hN
    have HROW := Lib.hid hrow
    have HREC := Lib.hid hrec
    have hmx : Tryz.prog.follows .mixedOrders = true := by kernel_rfl
    clear hq hf hXh hv hkinds hB hN hrow hrec
    dsimp only [tokV]
    by_cases hk0 : kk = 0
    · subst hk0
      gi_wp2
      gi_region_with_o (fail)
      all_goals gi_wp2
      all_goals
        have hqs := set_heap HQ.out 0 (.slice none 0 0)
        have hfs := set_heap ((set_other W w.heap.size (w.heap.size + 1) 0 (.slice none 0 0) (by omega)).trans HF.out) 0 (.int .i64 1)
        have hfs2 := set_heap hfs 1 (.int .i64 (aa : Int))
        refine ⟨((((KeepsOthers.setCell _ _ _).trans (KeepsOthers.setCell _ _ _)).trans (KeepsOthers.setCell _ _ _)).trans (KeepsOthers.drew _)).from _, rfl, pre, ⟨0, tx, vv, aa⟩, rfl, rfl, ?_, hfs2, ?_, ?_⟩
        · exact (set_other _ _ _ _ _ (by omega)).trans ((set_other _ _ _ _ _ (by omega)).trans hqs)
        · exact (((HB.out.setCell (p := ⟨w.heap.size, 0, none⟩) (Nat.le_refl _) _).setCell (p := ⟨w.heap.size + 1, 0, none⟩) (Nat.le_succ _) _).setCell (p := ⟨w.heap.size + 1, 1, none⟩) (Nat.le_succ _) _).drew
        · exact Nat.le_trans HN.out ((((Below.refl 0 W).setCell (p := ⟨w.heap.size, 0, none⟩) (Nat.zero_le _) _).setCell (p := ⟨w.heap.size + 1, 0, none⟩) (Nat.zero_le _) _).setCell (p := ⟨w.heap.size + 1, 1, none⟩) (Nat.zero_le _) _).drew.size
    · have hkn : ¬ (kk : Int) = 0 := by omega
      have hkb : ((kk : Int) == 0) = false := beq_false_of_ne hkn
      have hplen : Hid (pre.length ≤ 40000) := Lib.hid (by
        have h1 := toks_count ht.out
        have h2 := gapTo_le false (Nat.zero_le l.length)
        have h3 : pre.length < (handed l ts r).length := hlt
        unfold handed at h3
        simp only [List.length_append, List.length_singleton] at h3
        have := hn.out
        omega)
      clear hlt
      gi_wp2_with (gi_at_builtin; refine wpListIn_append_tok _ rfl _ _ rfl w.heap.size v pre.length (tokCells pre) rfl (HROW.out.alloc _) ⟨W.heap.size, 0, none⟩ [.int .i64 (kk : Int), .string (str tx), .int .i64 vv, .int .i64 (aa : Int)] rfl rfl (cell_four_new _ _ _ _ _ _) (by simp [Value.oneCell']) hplen.out (by have := HB.out.size; simp; omega) ?_; intro v' w3 hown' hgrow hr3; obtain ⟨g', cap', rfl⟩ := ownsRow_succ hown'; obtain ⟨hv1, hv2, hr2, hk2, hb2⟩ := HV.out.appended (by decide) HROW.out HB.out.size (by omega) hown' hgrow; have hc1 := hv1.cell; have hf1 := hv1.frozen; have G1 := Lib.hid hown'; have G2 := Lib.hid hgrow; have G3 := Lib.hid hr3; have G4 := Lib.hid hv2; have G5 := Lib.hid hr2; have G6 := Lib.hid hk2; have G7 := Lib.hid hb2; clear hown' hgrow hr3 hv1 hv2 hr2 hk2 hb2)
      have hsame : ∀ k, k < W.heap.size → k ≠ w.heap.size + 1 + 1 → some k ≠ v.ownBlock → (w3.setCell ⟨w.heap.size + 1 + 1, 0, none⟩ (.slice (some ⟨g', 0, none⟩) (pre.length + 1) cap')).heap[k]? = W.heap[k]? := fun k hk hB hr =>
        (set_other _ _ _ _ _ hB).trans ((G2.out.block k (by simp; omega) hr).trans (heap_old _ _ _ hk))
      have hqW := lt_of_heap HQ.out
      have hfW := lt_of_heap HF.out
      refine ⟨G6.out.from _, ⟨G7.out.size, fun k hk hB hr _ => hsame k hk hB (by rw [rowOf_box HV.out] at hr; exact Ne.symm hr), fun k hk => ?_⟩, ⟨⟨_, G4.out, ?_⟩, ?_, ?_, ?_, HB.out.trans G7.out, Nat.le_trans HN.out G7.out.size⟩⟩
      · rw [rowOf_box HV.out]
        have hlt := (G5.out.lt k (by rw [rowOf_box G4.out] at hk; exact hk)).2
        rw [rowOf_box G4.out] at hk
        rcases G3.out with h | h
        · rw [h] at hk; exact .inl hk
        · rw [h] at hk
          cases hk
          exact .inr ⟨by simp, hlt⟩
      · rw [tokCells_snoc, List.length_append]; exact G5.out
      · exact (hsame _ hqW (by omega) (not_own HROW.out HQ.out (by decide))).trans HQ.out
      · exact (hsame _ hfW (by omega) (not_own HROW.out HF.out (by decide))).trans HF.out
      · intro t ht'
        rcases List.mem_append.1 ht' with h | h
        · exact HK.out t h
        · rw [List.mem_singleton] at h; subst h; exact hk0
  case done =>
    rintro D xs W hD rfl ⟨⟨v, hv, hrow⟩, hq, hf, hkinds, hB, hN⟩ hK
    have hr : r = none := by
      cases r with
      | none => rfl
      | some f => exact absurd ((tokAt_kind l f).2 (toks_fault ht.out)) (hkinds _ (by unfold handed; simp))
    subst hr
    have hlen : (handed l ts none).length = ts.length + 1 := by unfold handed; simp
    rw [hlen] at hrow
    obtain ⟨g', cap', rfl⟩ := ownsRow_succ hrow
    have cq : W.cell? ⟨w.heap.size, 0, none⟩ = some (.slice none 0 0) := by simp [World.cell?, hq]
    have fq : W.frozen? ⟨w.heap.size, 0, none⟩ = false := by simp [World.frozen?, hq]
    have ce : W.cell? ⟨w.heap.size + 1, 0, none⟩ = some (.int .i64 0) := by simp [World.cell?, hf]
    have ce1 : W.cell? ⟨w.heap.size + 1, 1, none⟩ = some (.int .i64 0) := by simp [World.cell?, hf]
    have fe : W.frozen? ⟨w.heap.size + 1, 0, none⟩ = false := by simp [World.frozen?, hf]
    have fe1 : W.frozen? ⟨w.heap.size + 1, 1, none⟩ = false := by simp [World.frozen?, hf]
    have hc := hv.cell
    have HQ := Lib.hid hq
    have HF := Lib.hid hf
    have HROW := Lib.hid hrow
    have HB := Lib.hid hB
    have HKD := Lib.hid hK
    have HV := Lib.hid hv
    have HD := Lib.hid hD
    clear hq hf hrow hB hK hv hkinds hN hlen hD
    gi_wp2
    refine ⟨by simp, .inl ⟨_, _, rfl, run_takeDeferred ((((KeepsOthers.setCell _ _ _).trans (KeepsOthers.setCell _ _ _)).trans (KeepsOthers.setCell _ _ _)).same D _ HKD.out rfl), ?_⟩⟩
    obtain ⟨z1, z2, z3⟩ := fin_facts HQ.out HF.out HKD.out (.slice (some ⟨g', 0, none⟩) (ts.length + 1) cap') 0 0
    have y0 : (fin W w.heap.size D (.slice (some ⟨g', 0, none⟩) (ts.length + 1) cap') 0 0).cell? ⟨w.heap.size, 0, none⟩ = some (.slice (some ⟨g', 0, none⟩) (ts.length + 1) cap') := by simp [World.cell?, z1]
    have y1 : (fin W w.heap.size D (.slice (some ⟨g', 0, none⟩) (ts.length + 1) cap') 0 0).cell? ⟨w.heap.size + 1, 0, none⟩ = some (.int .i64 0) := by simp [World.cell?, z2]
    have y2 : (fin W w.heap.size D (.slice (some ⟨g', 0, none⟩) (ts.length + 1) cap') 0 0).cell? ⟨w.heap.size + 1, 1, none⟩ = some (.int .i64 0) := by simp [World.cell?, z2]
    have hfin : LexPost l ts none w (.returned (.tuple #[.slice (some ⟨g', 0, none⟩) (ts.length + 1) cap', .agg #[.int .i64 0, .int .i64 0]])) (fin W w.heap.size D (.slice (some ⟨g', 0, none⟩) (ts.length + 1) cap') 0 0) :=
      ⟨_, _, _, rfl, fin_below HB.out HKD.out (by have := HD.out; have := hW2.out; omega) _ _ _, .inr (.inl ⟨by have := hn.out; omega, rfl, rfl, rfl, row_same HROW.out z3⟩)⟩
    unfold fin at y0 y1 y2 hfin
    refine ⟨.tuple #[.slice (some ⟨g', 0, none⟩) (ts.length + 1) cap', .agg #[.int .i64 0, .int .i64 0]], by simp [results, Tryz.results31, go_sem, y0, y1, y2], hfin⟩
  case stop =>
    rintro D c pre W hD hpre ⟨rfl, pre', x, rfl, hx, hq, hf, hB, hN⟩ hK
    have hr : ∃ f : Nat, r = some f ∧ x.at_ = f := by
      have hk := toks_kinds ht.out
      have hmem : x ∈ handed l ts r := hpre.subset (by simp)
      unfold handed at hmem
      rcases List.mem_append.1 hmem with h | h
      · exact absurd hx (hk x h)
      · rw [List.mem_singleton] at h
        cases r with
        | none => rw [h] at hx; exact absurd hx (show ¬ (5 : Nat) = 0 by decide)
        | some f =>
          refine ⟨f, rfl, ?_⟩
          rw [h]
          show (tokAt l f).at_ = f
          unfold tokAt
          rw [toks_fault ht.out]
          rfl
    obtain ⟨f, rfl, hxf⟩ := hr
    rw [hxf] at hf
    have n1 : w.heap.size ≠ D := by intro e; rw [← e, hq] at hK; cases hK
    have n2 : w.heap.size + 1 ≠ D := by intro e; rw [← e, hf] at hK; cases hK
    have z1 : (W.putObj D (.deferred none)).heap[w.heap.size]? = some (.cells #[.slice none 0 0] 39 (0, 0)) := (World.putObj_heap_other n1).trans hq
    have z2 : (W.putObj D (.deferred none)).heap[w.heap.size + 1]? = some (.cells #[.int .i64 1, .int .i64 (f : Int)] 29 (0, 0)) := (World.putObj_heap_other n2).trans hf
    have y0 : (W.putObj D (.deferred none)).cell? ⟨w.heap.size, 0, none⟩ = some (.slice none 0 0) := by simp [World.cell?, z1]
    have y1 : (W.putObj D (.deferred none)).cell? ⟨w.heap.size + 1, 0, none⟩ = some (.int .i64 1) := by simp [World.cell?, z2]
    have y2 : (W.putObj D (.deferred none)).cell? ⟨w.heap.size + 1, 1, none⟩ = some (.int .i64 (f : Int)) := by simp [World.cell?, z2]
    have hfin := Lib.hid (show LexPost l ts (some f) w (.returned (.tuple #[.slice none 0 0, .agg #[.int .i64 1, .int .i64 (f : Int)]])) (W.putObj D (.deferred none)) from
      ⟨_, _, _, rfl, hB.trans (belowK_b (w := w) (Nat.le_refl _) W D _ _ (by have := hW2.out; omega) hK rfl rfl), .inr (.inr ⟨by have := hn.out; omega, f, rfl, rfl, rfl, rfl⟩)⟩)
    have HKD := Lib.hid hK
    clear hq hf hK n1 n2 z1 z2 hx hxf hpre hB
    gi_wp2
    refine ⟨by simp, .inl ⟨_, _, rfl, run_takeDeferred HKD.out, ?_⟩⟩
    exact ⟨.tuple #[.slice none 0 0, .agg #[.int .i64 1, .int .i64 (f : Int)]], by simp [results, Tryz.results31, go_sem, y0, y1, y2], hfin.out⟩
theorem lex_any (l : List UInt8) (ts : List Tok) (r : Option Nat) (ht : lexT l ts r) (w : World) (hS : Signs w) :
    Calls Tryz.prog 31 #[.string (str l)] w fun e w' => LexPost l ts r w e w' := by
  rcases Nat.lt_or_ge 20000 l.length with h | h
  · exact lex_long l ts r _ (Lib.hid rfl) (str_size l) (by omega) w
  · exact callsIn_wide.1 (lex_core l ts r (Lib.hid ht) _ (Lib.hid rfl) (str_size l) (by omega) w (Lib.hid hS))
end Go.Proofs.YtlbhlncipajapaaGreatDoor.Lx
