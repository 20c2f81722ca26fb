/- verify.Wrong: the first instruction that isn't right. -/
import Derived.Test.YtceadfkjknjaoaaDoorVeIter
import Derived.Test.YtceadfkjknjaoaaDoorVeRight
namespace Go.Proofs.YtceadfkjknjaoaaDoor
open Go.RowKit Go.Shelf Co
set_option linter.unusedVariables false

theorem run_store_func (P : Program) (w : World) (a : Addr) (fn : Fn) (first : Array Value) (caps : Array Value) (m : Mode) : (store a (.func fn first caps) m).run P w = stored P w a (.func fn first caps) m := run_store P w a _ m rfl
attribute [local go_sem] Oper.semAt_some run_store_func

def okP (o : Ob) (q : Pl) : Bool := codeOk o q.1 q.2.2 (((pieceL o q.1).length : Int) - 1 - (q.2.1 : Int))
/-- all are right, or here is one that isn't -/
def WrongPost (o : Ob) (w : World) (e : Ending) (w' : World) : Prop := Below w.heap.size w w' ∧
  ((e = .returned (.tuple #[.int .i64 0, .int .i64 0, .bool false]) ∧ ∀ q ∈ insTo o 4, okP o q = true) ∨
   (∃ q : Pl, q ∈ insTo o 4 ∧ okP o q = false ∧ e = .returned (.tuple #[.int .i64 (q.1 : Int), .int .i64 (q.2.1 : Int), .bool true])))
/-- the three results' boxes -/
def Boxes (w X : World) (a b : Int) (c : Bool) : Prop := X.heap[w.heap.size + 1]? = some (.cells #[.int .i64 a] 3 (0, 0)) ∧ X.heap[w.heap.size + 1 + 1]? = some (.cells #[.int .i64 b] 3 (0, 0)) ∧ X.heap[w.heap.size + 1 + 1 + 1]? = some (.cells #[.bool c] 4 (0, 0))
/-- between two rounds -/
def WInv (o : Ob) (w : World) (R M T N : Nat) (pre : List (PlOf o)) (X : World) : Prop := (∀ q ∈ pre, okP o q.1 = true) ∧ Boxes w X 0 0 false ∧ X.heap[T]? = some (.cells #[roomF R M] 52 (0, 0)) ∧ RoomAt X R M o ∧ Below w.heap.size w X ∧ N ≤ X.heap.size
/-- left by a return -/
def WLeft (o : Ob) (w : World) (N : Nat) (c : Code) (pre : List (PlOf o)) (X : World) : Prop := c = .ret ∧ ∃ (pre' : List (PlOf o)) (q : PlOf o), pre = pre' ++ [q] ∧ okP o q.1 = false ∧ Boxes w X q.1.1 q.1.2.1 true ∧ Below w.heap.size w X ∧ N ≤ X.heap.size
/-- the loop's variables, boxed -/
def WVar (o : Ob) (o1 o2 o3 o4 q1 q2 q3 q4 : Option Addr) (c1 c2 c3 c4 d1 d2 d3 d4 p R M T N : Nat) (q : Pl) (a : Act) (W : World) : Prop :=
  ∃ X Y, N ≤ X ∧ N ≤ Y ∧ W.heap[X]? = some (.cells #[.int .i64 (q.1 : Int), .int .i64 (q.2.1 : Int), .int .i64 (((pieceL o q.1).length : Int) - 1 - (q.2.1 : Int))] 58 (0, 0)) ∧ W.heap[Y]? = some (.cells #[.int .i64 q.2.2.op, .int .i64 q.2.2.d, .int .i64 q.2.2.a, .int .i64 q.2.2.b, .int .i64 q.2.2.c, .int .i64 q.2.2.v] 39 (0, 0)) ∧
    a = { tmps := #[.agg #[.slice o1 o.inn.length c1, .slice o2 o.out.length c2, .slice o3 o.state.length c3, .slice o4 o.mem.length c4, .int .i64 o.cross, .int .i64 o.flags, .slice q1 o.deriv.length d1, .slice q2 o.zero.length d2, .slice q3 o.step.length d3, .slice q4 o.at_.length d4], .pointer (some ⟨p, 0, none⟩), .pointer (some ⟨p + 1, 0, none⟩), .pointer (some ⟨p + 1 + 1, 0, none⟩), .pointer (some ⟨p + 1 + 1 + 1, 0, none⟩), .pointer (some ⟨T, 0, none⟩), .pointer (some ⟨X, 0, none⟩), .pointer (some ⟨Y, 0, none⟩),
      .agg #[.slice o1 o.inn.length c1, .slice o2 o.out.length c2, .slice o3 o.state.length c3, .slice o4 o.mem.length c4, .int .i64 o.cross, .int .i64 o.flags, .slice q1 o.deriv.length d1, .slice q2 o.zero.length d2, .slice q3 o.step.length d3, .slice q4 o.at_.length d4], .func (.func 28) #[] #[.pointer (some ⟨R, 0, none⟩), .pointer (some ⟨M, 0, none⟩)],
      .agg #[.slice o1 o.inn.length c1, .slice o2 o.out.length c2, .slice o3 o.state.length c3, .slice o4 o.mem.length c4, .int .i64 o.cross, .int .i64 o.flags, .slice q1 o.deriv.length d1, .slice q2 o.zero.length d2, .slice q3 o.step.length d3, .slice q4 o.at_.length d4], .func (.func 29) #[] #[.pointer (some ⟨T + 1, 0, none⟩)],
      .agg #[.int .i64 (q.1 : Int), .int .i64 (q.2.1 : Int), .int .i64 (((pieceL o q.1).length : Int) - 1 - (q.2.1 : Int))], .agg #[.int .i64 q.2.2.op, .int .i64 q.2.2.d, .int .i64 q.2.2.a, .int .i64 q.2.2.b, .int .i64 q.2.2.c, .int .i64 q.2.2.v], undef, undef, undef, undef, undef, undef, undef, undef, undef], defers := [] }
theorem winv_own (o : Ob) (w : World) (R M T N : Nat) (hN : w.heap.size + 1 + 1 + 1 < N) (hT : T < N) (hR : R < N) (hM : M < N) : OwnFrom N (WInv o w R M T N) := by
  rintro s X Y row ⟨h1, ⟨b1, b2, b3⟩, h3, ⟨⟨s1, s2, s3, s4, t1, t2, t3, t4, r1, r2⟩, r3⟩, h5, h6⟩ hg hrow
  have hne : ∀ b, b < N → some b ≠ row := fun b hb e => by have := (hrow b e.symm).1; omega
  exact ⟨h1, ⟨(hg.block _ (lt_of_heap b1) (hne _ (by omega))).trans b1, (hg.block _ (lt_of_heap b2) (hne _ (by omega))).trans b2, (hg.block _ (lt_of_heap b3) (hne _ (by omega))).trans b3⟩, (hg.block _ (lt_of_heap h3) (hne _ hT)).trans h3,
    ⟨⟨s1, s2, s3, s4, t1, t2, t3, t4, (hg.block _ (lt_of_heap r1) (hne _ hR)).trans r1, r2⟩, (hg.block _ (lt_of_heap r3) (hne _ hM)).trans r3⟩,
    h5.grown hg h5.size (fun k e => by have := (hrow k e).1; omega), Nat.le_trans h6 hg.size⟩
theorem wleft_own (o : Ob) (w : World) (N : Nat) (hN : w.heap.size + 1 + 1 + 1 < N) (c : Code) : OwnFrom N (WLeft o w N c) := by
  rintro s X Y row ⟨hc, p, q, hp, hq, ⟨b1, b2, b3⟩, h5, h6⟩ hg hrow
  have hne : ∀ b, b < N → some b ≠ row := fun b hb e => by have := (hrow b e.symm).1; omega
  exact ⟨hc, p, q, hp, hq, ⟨(hg.block _ (lt_of_heap b1) (hne _ (by omega))).trans b1, (hg.block _ (lt_of_heap b2) (hne _ (by omega))).trans b2, (hg.block _ (lt_of_heap b3) (hne _ (by omega))).trans b3⟩, h5.grown hg h5.size (fun k e => by have := (hrow k e).1; omega), Nat.le_trans h6 hg.size⟩
theorem wvar_own (o : Ob) (o1 o2 o3 o4 q1 q2 q3 q4 : Option Addr) (c1 c2 c3 c4 d1 d2 d3 d4 p R M T N : Nat) (q : Pl) (a : Act) : OwnFrom N (fun (_ : Unit) W => WVar o o1 o2 o3 o4 q1 q2 q3 q4 c1 c2 c3 c4 d1 d2 d3 d4 p R M T N q a W) := by
  rintro s X Y row ⟨A, B, hA, hB, h1, h2, ha⟩ hg hrow
  exact ⟨A, B, hA, hB, (hg.block _ (lt_of_heap h1) (fun e => by obtain ⟨_, o, ho, hc⟩ := hrow A e.symm; rw [h1] at ho; cases ho; cases hc)).trans h1, (hg.block _ (lt_of_heap h2) (fun e => by obtain ⟨_, o, ho, hc⟩ := hrow B e.symm; rw [h2] at ho; cases ho; cases hc)).trans h2, ha⟩
theorem keepA_putObj {N : Nat} (W : World) (l : Nat) (o o' : Obj) (hl : N ≤ l) (h : W.heap[l]? = some o) (hc : o.isCells = false) : KeepA N W (W.putObj l o') := by
  have hg := grownBy_putObj' W l o'
  refine ⟨hg.size, fun k hk hh => hg.block k hk (fun e => ?_)⟩
  cases e
  rcases hh with h1 | ⟨o2, h1, h2⟩
  · omega
  · rw [h] at h1; cases h1; rw [hc] at h2; cases h2
theorem keepA_below {N : Nat} {W W' : World} (h : Below W.heap.size W W') : KeepA N W W' := ⟨h.size, fun k hk _ => h.block k hk⟩
theorem keepsFrom_below {N : Nat} {W W' : World} (h : Below W.heap.size W W') : KeepsFrom N W W' := ⟨h.size, fun k _ _ hk _ => (h.block k (lt_of_heap hk)).trans hk⟩
theorem six_ok {o : Ob} (h : o.ok) {k i : Nat} {x : Six} (hk : k < 4) (hx : (pieceL o k)[i]? = some x) : x.ok := by
  obtain ⟨_, _, _, _, _, _, h1, h2, h3, h4⟩ := h
  have hm := List.mem_of_getElem? hx
  rcases (show k = 0 ∨ k = 1 ∨ k = 2 ∨ k = 3 by omega) with rfl | rfl | rfl | rfl
  · exact h1.2 x hm
  · exact h2.2 x hm
  · exact h3.2 x hm
  · exact h4.2 x hm
/-- the results written, the rounds' block taken -/
def fin3 (W : World) (q D : Nat) (a b c : Value) : World := (((W.setCell ⟨q + 1, 0, none⟩ a).setCell ⟨q + 1 + 1, 0, none⟩ b).setCell ⟨q + 1 + 1 + 1, 0, none⟩ c).putObj D (.deferred none)
theorem fin3_facts {w W : World} {D : Nat} {u1 u2 u3 : Value} {T1 T2 T3 : TypeId} (h1 : W.heap[w.heap.size + 1]? = some (.cells #[u1] T1 (0, 0))) (h2 : W.heap[w.heap.size + 1 + 1]? = some (.cells #[u2] T2 (0, 0))) (h3 : W.heap[w.heap.size + 1 + 1 + 1]? = some (.cells #[u3] T3 (0, 0))) (hD : W.heap[D]? = some (.deferred (some []))) (hB : Below w.heap.size w W) (hl : w.heap.size ≤ D) (a b c : Value) :
    (fin3 W w.heap.size D a b c).cell? ⟨w.heap.size + 1, 0, none⟩ = some a ∧ (fin3 W w.heap.size D a b c).cell? ⟨w.heap.size + 1 + 1, 0, none⟩ = some b ∧ (fin3 W w.heap.size D a b c).cell? ⟨w.heap.size + 1 + 1 + 1, 0, none⟩ = some c ∧ Below w.heap.size w (fin3 W w.heap.size D a b c) := by
  have n1 : w.heap.size + 1 ≠ D := by intro e; rw [← e, h1] at hD; cases hD
  have n2 : w.heap.size + 1 + 1 ≠ D := by intro e; rw [← e, h2] at hD; cases hD
  have n3 : w.heap.size + 1 + 1 + 1 ≠ D := by intro e; rw [← e, h3] at hD; cases hD
  have a1 := set_heap h1 0 a
  have a2 := set_heap ((set_other (W := W) (g := w.heap.size + 1) (k := w.heap.size + 1 + 1) (i := 0) (v := a) (by omega)).trans h2) 0 b
  have a3 := set_heap ((set_other (W := W.setCell ⟨w.heap.size + 1, 0, none⟩ a) (g := w.heap.size + 1 + 1) (k := w.heap.size + 1 + 1 + 1) (i := 0) (v := b) (by omega)).trans ((set_other (W := W) (g := w.heap.size + 1) (k := w.heap.size + 1 + 1 + 1) (i := 0) (v := a) (by omega)).trans h3)) 0 c
  have e1 : (fin3 W w.heap.size D a b c).heap[w.heap.size + 1]? = some (.cells #[a] T1 (0, 0)) := by
    unfold fin3
    rw [World.putObj_heap_other n1, set_other (by omega), set_other (by omega), a1]
    rfl
  have e2 : (fin3 W w.heap.size D a b c).heap[w.heap.size + 1 + 1]? = some (.cells #[b] T2 (0, 0)) := by
    unfold fin3
    rw [World.putObj_heap_other n2, set_other (by omega), a2]
    rfl
  have e3 : (fin3 W w.heap.size D a b c).heap[w.heap.size + 1 + 1 + 1]? = some (.cells #[c] T3 (0, 0)) := by
    unfold fin3
    rw [World.putObj_heap_other n3, a3]
    rfl
  have hb := ((hB.setCell (p := ⟨w.heap.size + 1, 0, none⟩) (by simp) a).setCell (p := ⟨w.heap.size + 1 + 1, 0, none⟩) (by simp; omega) b).setCell (p := ⟨w.heap.size + 1 + 1 + 1, 0, none⟩) (by simp; omega) c
  exact ⟨by simp [World.cell?, e1], by simp [World.cell?, e2], by simp [World.cell?, e3], hb.grown (grownBy_putObj' _ D _) hb.size (fun k e => by cases e; exact hl)⟩
theorem boxes_far {w : World} {cs : Array Value} {u1 u2 u3 : Obj} {w1 : World} {vs : List Value} (h : ∀ j u, vs[j]? = some u → (w.alloc (.cells cs 29)).cell? ⟨w.heap.size, j, none⟩ = some u)
    (hb : Below ((((w.alloc (.cells cs 29)).alloc u1).alloc u2).alloc u3).heap.size ((((w.alloc (.cells cs 29)).alloc u1).alloc u2).alloc u3) w1) : ∀ j u, vs[j]? = some u → ∀ o, (w1.alloc o).cell? ⟨w.heap.size, j, none⟩ = some u := fun j u hj o =>
  cell_on ((Below.refl _ _).alloc (Nat.le_refl _) _) <| cell_on hb (cell_on ((Below.refl _ _).alloc (Nat.le_refl _) _) (cell_on ((Below.refl _ _).alloc (Nat.le_refl _) _) (cell_on ((Below.refl _ _).alloc (Nat.le_refl _) _) (h j u hj))))
set_option maxHeartbeats 16000000 in
set_option maxRecDepth 100000 in
theorem wrong_core (o : Ob) (o1 o2 o3 o4 q1 q2 q3 q4 : Option Addr) (c1 c2 c3 c4 d1 d2 d3 d4 : Nat) (w : World) (hT : Hid (TabAt w)) (hL : Hid (ObLen o)) (hK : Hid o.ok)
    (hO : Hid (ObAt w (.slice o1 o.inn.length c1) (.slice o2 o.out.length c2) (.slice o3 o.state.length c3) (.slice o4 o.mem.length c4) (.slice q1 o.deriv.length d1) (.slice q2 o.zero.length d2) (.slice q3 o.step.length d3) (.slice q4 o.at_.length d4) o)) :
    CallsIn Fence.wide 5 Tryd.prog 15 #[.agg (obCells (.slice o1 o.inn.length c1) (.slice o2 o.out.length c2) (.slice o3 o.state.length c3) (.slice o4 o.mem.length c4) o.cross o.flags (.slice q1 o.deriv.length d1) (.slice q2 o.zero.length d2) (.slice q3 o.step.length d3) (.slice q4 o.at_.length d4))] w fun e w' => WrongPost o w e w' := by
  have RR := Lib.hid (fun W => rooms_any o _ _ _ _ _ _ _ _ w W hO.out)
  unfold obCells roomF at RR
  unfold obCells
  have IA := Lib.hid (instr_any (.slice o1 o.inn.length c1) (.slice o2 o.out.length c2) (.slice o3 o.state.length c3) (.slice o4 o.mem.length c4) (.slice q1 o.deriv.length d1) (.slice q2 o.zero.length d2) (.slice q3 o.step.length d3) (.slice q4 o.at_.length d4) o.cross o.flags)
  unfold instrV at IA
  have X0 := Lib.hid (ten_cells w (.slice o1 o.inn.length c1) (.slice o2 o.out.length c2) (.slice o3 o.state.length c3) (.slice o4 o.mem.length c4) (.int .i64 o.cross) (.int .i64 o.flags) (.slice q1 o.deriv.length d1) (.slice q2 o.zero.length d2) (.slice q3 o.step.length d3) (.slice q4 o.at_.length d4))
  refine callsIn_of_wp_marks Tryd.func15 rfl trivial ?_ rfl
  simp only [Tryd.ntmps15, List.size_toArray, List.length_cons, List.length_nil, Nat.reduceAdd, Nat.reduceSub, Array.replicate_succ, Array.replicate_zero, List.push_toArray, List.append_toArray, List.nil_append, List.cons_append]
  gi_wp2_with (first | (refine ⟨trivial, ?_⟩; gi_at_call 23; ((with_reducible refine (callsIn_wide.2 (RR.out _)).mono ?_); rintro e w1 ⟨rfl, hr1, hb1⟩; have HR1 := Lib.hid hr1; have HB1 := Lib.hid hb1; have y := boxes_far X0.out hb1; have y0 := y 0 _ rfl; have y1 := y 1 _ rfl; have y2 := y 2 _ rfl; have y3 := y 3 _ rfl; have y4 := y 4 _ rfl; have y5 := y 5 _ rfl; have y6 := y 6 _ rfl; have y7 := y 7 _ rfl; have y8 := y 8 _ rfl; have y9 := y 9 _ rfl; clear hr1 hb1 y)) | (refine ⟨trivial, ?_⟩; gi_at_call 24; ((with_reducible refine (callsIn_wide.2 (IA.out _)).mono ?_); rintro e w3 ⟨rfl, hw3⟩)))
  have HW3 : Hid (Below w1.heap.size w1 w3) := Lib.hid (by rw [← hw3]; exact ((Below.refl _ _).alloc (Nat.le_refl _) _).alloc (by simp) _)
  have HT3 : Hid (w3.heap[w1.heap.size]? = some (.cells #[roomF (w.heap.size + 1 + 1 + 1 + 1) (w.heap.size + 1 + 1 + 1 + 1 + 1)] 52 (0, 0))) := Lib.hid (by rw [← hw3]; exact (al_old (by simp)).trans (al_new rfl))
  have HO3 : Hid (w3.heap[w1.heap.size + 1]? = some (.cells #[.slice o1 o.inn.length c1, .slice o2 o.out.length c2, .slice o3 o.state.length c3, .slice o4 o.mem.length c4, .int .i64 o.cross, .int .i64 o.flags, .slice q1 o.deriv.length d1, .slice q2 o.zero.length d2, .slice q3 o.step.length d3, .slice q4 o.at_.length d4] 29 (0, 0))) := Lib.hid (by rw [← hw3]; exact al_new (by simp))
  have HS3 : Hid (w3.heap.size = w1.heap.size + 1 + 1) := Lib.hid (by rw [← hw3]; simp)
  clear hw3 y0 y1 y2 y3 y4 y5 y6 y7 y8 y9 IA RR X0
  obtain ⟨wa, hwa⟩ : ∃ wa, wa = w.alloc (.cells #[.slice o1 o.inn.length c1, .slice o2 o.out.length c2, .slice o3 o.state.length c3, .slice o4 o.mem.length c4, .int .i64 o.cross, .int .i64 o.flags, .slice q1 o.deriv.length d1, .slice q2 o.zero.length d2, .slice q3 o.step.length d3, .slice q4 o.at_.length d4] 29) := ⟨_, rfl⟩
  rw [← hwa] at HB1
  have hwas : wa.heap.size = w.heap.size + 1 := by rw [hwa]; simp
  have hb4 : Below w.heap.size w (((wa.alloc (.cells #[.int .i64 0] 3)).alloc (.cells #[.int .i64 0] 3)).alloc (.cells #[.bool false] 4)) := by
    rw [hwa]
    exact ((((Below.refl _ _).alloc (Nat.le_refl _) _).alloc (by simp) _).alloc (by simp; omega) _).alloc (by simp; omega) _
  have hsz1 := HB1.out.size
  simp only [World.size_alloc, hwas] at hsz1
  have HB13 := Lib.hid (HB1.out.trans (HW3.out.mono HB1.out.size))
  have HBW := Lib.hid (hb4.trans (HB13.out.mono hb4.size))
  have HBX : Hid (Boxes w w3 0 0 false) := Lib.hid (by
    refine ⟨(HB13.out.block _ (by simp [hwas])).trans ?_, (HB13.out.block _ (by simp [hwas])).trans ?_, (HB13.out.block _ (by simp [hwas])).trans ?_⟩
    · exact (al_old (by simp [hwas])).trans ((al_old (by simp [hwas])).trans (al_new hwas.symm))
    · exact (al_old (by simp [hwas])).trans (al_new (by simp [hwas]))
    · exact al_new (by simp [hwas]))
  have HRM : Hid (RoomAt w3 (w.heap.size + 1 + 1 + 1 + 1) (w.heap.size + 1 + 1 + 1 + 1 + 1) o) := Lib.hid (by
    have h := HR1.out
    simp only [World.size_alloc] at h
    exact h.below HW3.out)
  have hrl := HRM.out
  have hsz : w.heap.size + 1 + 1 + 1 + 1 + 1 < w3.heap.size := lt_of_heap hrl.2
  clear hrl hb4 hwa HR1 hsz1
  have h3 : Hid (∀ k, k < 4 → (pieceL o k).length ≤ 140737488351232) := Lib.hid fun j hj => by
    have h5 := hL.out.deriv
    have h6 := hL.out.zero
    have h7 := hL.out.step
    have h8 := hL.out.at_
    rcases (show j = 0 ∨ j = 1 ∨ j = 2 ∨ j = 3 by omega) with rfl | rfl | rfl | rfl
    · exact h5
    · exact h6
    · exact h7
    · exact h8
  have hp3 : Hid (∀ k, k < 4 → PieceAt w3 (pieceL o k) ([Value.slice q1 o.deriv.length d1, .slice q2 o.zero.length d2, .slice q3 o.step.length d3, .slice q4 o.at_.length d4].getD k undef)) := Lib.hid fun j hj => by
    have hOb := hO.out.below HBW.out
    have one : ∀ {l : List Six} {s : Value}, SixesAt w3 s l → PieceAt w3 l s := fun h => by
      obtain ⟨q, cap, b, off, rfl, _, _, h4, h5⟩ := h
      exact ⟨q, cap, b, off, rfl, h4, h5⟩
    rcases (show j = 0 ∨ j = 1 ∨ j = 2 ∨ j = 3 by omega) with rfl | rfl | rfl | rfl
    · exact one hOb.deriv
    · exact one hOb.zero
    · exact one hOb.step
    · exact one hOb.at_
  have hinv : Hid (WInv o w (w.heap.size + 1 + 1 + 1 + 1) (w.heap.size + 1 + 1 + 1 + 1 + 1) w1.heap.size w3.heap.size [] w3) := Lib.hid ⟨(fun q h => by simp at h), HBX.out, HT3.out, HRM.out, HBW.out, Nat.le_refl _⟩
  have hTN : w1.heap.size < w3.heap.size := by rw [HS3.out]; omega
  refine wpIn_rangeFunc_ownH (α := PlOf o) rfl (by decide) (gf := 29) (lb := #[.pointer (some ⟨w1.heap.size + 1, 0, none⟩)]) rfl trivial (enters_of Tryd.func29 (by kernel_rfl) rfl)
    (instr_stops 4 (by decide) o o1 o2 o3 o4 q1 q2 q3 q4 _ _ _ _ _ _ _ _ c1 c2 c3 c4 d1 d2 d3 d4 _ _ (w1.heap.size + 1) w3 h3.out HO3.out hp3.out) (fun h k => h.trans k) (fun W l o o' h1 h2 h3 _ => keepA_putObj W l o o' h1 h2 h3) (Below.refl _ _) (fun _ => rfl)
    (WInv o w (w.heap.size + 1 + 1 + 1 + 1) (w.heap.size + 1 + 1 + 1 + 1 + 1) w1.heap.size w3.heap.size) (WLeft o w w3.heap.size) (winv_own o w _ _ _ _ (by omega) hTN (by omega) (by omega)) (wleft_own o w _ (by omega)) hinv.out
    (fun q => WVar o o1 o2 o3 o4 q1 q2 q3 q4 c1 c2 c3 c4 d1 d2 d3 d4 w.heap.size (w.heap.size + 1 + 1 + 1 + 1) (w.heap.size + 1 + 1 + 1 + 1 + 1) w1.heap.size w3.heap.size q.1) (fun q a => wvar_own _ _ _ _ _ _ _ _ _ _ _ _ _ _ _ _ _ _ _ _ _ _ _ _) ?assign ?body ?done ?stop
  case assign =>
    rintro lp pre ⟨⟨kp, kn, op, d, a, b, c, v⟩, hmem⟩ W K hi hK
    dsimp only [encP]
    gi_wp2
    have b1 : Below W.heap.size W ((W.alloc (.cells #[.int .i64 (kp : Int), .int .i64 (kn : Int), .int .i64 (((pieceL o kp).length : Int) - 1 - (kn : Int))] 58)).alloc (.cells #[.int .i64 op, .int .i64 d, .int .i64 a, .int .i64 b, .int .i64 c, .int .i64 v] 39)) := ((Below.refl _ _).alloc (Nat.le_refl _) _).alloc (by simp) _
    have hNW := hi.2.2.2.2.2
    exact hK _ _ (keepsFrom_below b1) (keepA_below b1) ((winv_own o w _ _ _ _ (by omega) hTN (by omega) (by omega)).alloc _ ((winv_own o w _ _ _ _ (by omega) hTN (by omega) (by omega)).alloc _ hi)) ⟨W.heap.size, W.heap.size + 1, hNW, by omega, (al_old (by simp)).trans (al_new rfl), al_new (by simp), rfl⟩
  case body =>
    rintro lp pre ⟨⟨kp, kn, op, d, a, b, c, v⟩, hmem⟩ a' W hlp hrec ⟨hpre, ⟨b1, b2, b3⟩, hTb, hRM, hB, hN⟩ ⟨X, Y, hX, hY, hXh, hYh, rfl⟩ hlt
    obtain ⟨hk4, hx⟩ := ins_mem hmem
    simp only at hk4 hx
    have hlen : kn < (pieceL o kp).length := (List.getElem?_eq_some_iff.1 hx).1
    have hxo : (⟨op, d, a, b, c, v⟩ : Six).ok := six_ok hK.out hk4 hx
    have RA := Lib.hid (right_any o ⟨op, d, a, b, c, v⟩ hxo kp hk4 (kn : Int) (((pieceL o kp).length : Int) - 1 - (kn : Int)) (by omega) (by have := h3.out kp hk4; omega) _ _ W (hT.out.below hB) hRM)
    unfold sixV placeV roomF at RA
    obtain ⟨ok, hok⟩ : ∃ ok, ok = codeOk o kp ⟨op, d, a, b, c, v⟩ (((pieceL o kp).length : Int) - 1 - (kn : Int)) := ⟨_, rfl⟩
    rw [← hok] at RA
    have HOK : Hid (okP o (kp, kn, ⟨op, d, a, b, c, v⟩) = ok) := Lib.hid hok.symm
    obtain ⟨bh, hbh⟩ : ∃ bh, bh = (((pieceL o kp).length : Int) - 1 - (kn : Int)) := ⟨_, rfl⟩
    dsimp only
    rw [← hbh] at RA hXh ⊢
    have x0 : W.cell? ⟨X, 0, none⟩ = some (.int .i64 (kp : Int)) := by simp [World.cell?, hXh]
    have x1 : W.cell? ⟨X, 1, none⟩ = some (.int .i64 (kn : Int)) := by simp [World.cell?, hXh]
    have x2 : W.cell? ⟨X, 2, none⟩ = some (.int .i64 bh) := by simp [World.cell?, hXh]
    have y0 : W.cell? ⟨Y, 0, none⟩ = some (.int .i64 op) := by simp [World.cell?, hYh]
    have y1 : W.cell? ⟨Y, 1, none⟩ = some (.int .i64 d) := by simp [World.cell?, hYh]
    have y2 : W.cell? ⟨Y, 2, none⟩ = some (.int .i64 a) := by simp [World.cell?, hYh]
    have y3 : W.cell? ⟨Y, 3, none⟩ = some (.int .i64 b) := by simp [World.cell?, hYh]
    have y4 : W.cell? ⟨Y, 4, none⟩ = some (.int .i64 c) := by simp [World.cell?, hYh]
    have y5 : W.cell? ⟨Y, 5, none⟩ = some (.int .i64 v) := by simp [World.cell?, hYh]
    have t0 : W.cell? ⟨w1.heap.size, 0, none⟩ = some (.func (.func 28) #[] #[.pointer (some ⟨w.heap.size + 1 + 1 + 1 + 1, 0, none⟩), .pointer (some ⟨w.heap.size + 1 + 1 + 1 + 1 + 1, 0, none⟩)]) := by simp [World.cell?, hTb, roomF]
    have HX := Lib.hid hXh
    have H1 := Lib.hid b1
    have H2 := Lib.hid b2
    have H3 := Lib.hid b3
    have HTB := Lib.hid hTb
    have HRM2 := Lib.hid hRM
    have HB := Lib.hid hB
    have HN := Lib.hid hN
    have HP := Lib.hid hpre
    have HLP := Lib.hid hlp
    have HREC := Lib.hid hrec
    clear hok hbh hXh hYh b1 b2 b3 hTb hRM hB hN hpre hlp hrec hlt hx hlen hxo
    cases ok with
    | true =>
      gi_wp2_with (refine ⟨trivial, ?_⟩; gi_at_call 25; (refine (CallsIn.inRound lp (callsIn_wide.2 RA.out)).mono ?_; rintro e w5 ⟨rfl, hb5⟩; have HB5 := Lib.hid hb5; clear hb5))
      refine ⟨keepsFrom_below HB5.out, keepA_below HB5.out, ?_, ?_, (HB5.out.block _ (lt_of_heap HTB.out)).trans HTB.out, HRM2.out.below HB5.out, HB.out.trans (HB5.out.mono HB.out.size), Nat.le_trans HN.out HB5.out.size⟩
      · intro q hq
        rcases List.mem_append.1 hq with h | h
        · exact HP.out q h
        · obtain rfl := List.mem_singleton.1 h
          exact HOK.out
      · exact ⟨(HB5.out.block _ (lt_of_heap H1.out)).trans H1.out, (HB5.out.block _ (lt_of_heap H2.out)).trans H2.out, (HB5.out.block _ (lt_of_heap H3.out)).trans H3.out⟩
    | false =>
      gi_wp2_with (refine ⟨trivial, ?_⟩; gi_at_call 25; (refine (CallsIn.inRound lp (callsIn_wide.2 RA.out)).mono ?_; rintro e w5 ⟨rfl, hb5⟩; have HB5 := Lib.hid hb5; clear hb5))
      have z0 := cell_on HB5.out x0
      have z1 := cell_on HB5.out x1
      have g1 : w5.heap[w.heap.size + 1]? = some (.cells #[.int .i64 0] 3 (0, 0)) := (HB5.out.block _ (lt_of_heap H1.out)).trans H1.out
      have g2 : w5.heap[w.heap.size + 1 + 1]? = some (.cells #[.int .i64 0] 3 (0, 0)) := (HB5.out.block _ (lt_of_heap H2.out)).trans H2.out
      have g3 : w5.heap[w.heap.size + 1 + 1 + 1]? = some (.cells #[.bool false] 4 (0, 0)) := (HB5.out.block _ (lt_of_heap H3.out)).trans H3.out
      have k1 : w5.cell? ⟨w.heap.size + 1, 0, none⟩ = some (.int .i64 0) := by simp [World.cell?, g1]
      have k2 : w5.cell? ⟨w.heap.size + 1 + 1, 0, none⟩ = some (.int .i64 0) := by simp [World.cell?, g2]
      have k3 : w5.cell? ⟨w.heap.size + 1 + 1 + 1, 0, none⟩ = some (.bool false) := by simp [World.cell?, g3]
      have f1 : w5.frozen? ⟨w.heap.size + 1, 0, none⟩ = false := by simp [World.frozen?, g1]
      have f2 : w5.frozen? ⟨w.heap.size + 1 + 1, 0, none⟩ = false := by simp [World.frozen?, g2]
      have f3 : w5.frozen? ⟨w.heap.size + 1 + 1 + 1, 0, none⟩ = false := by simp [World.frozen?, g3]
      have G1 := Lib.hid g1
      have G2 := Lib.hid g2
      have G3 := Lib.hid g3
      have hmx : Tryd.prog.follows .mixedOrders = true := by kernel_rfl
      clear g1 g2 g3 x0 x1 x2 y0 y1 y2 y3 y4 y5 t0
      gi_region_with_o (fail)
      all_goals gi_wp2
      all_goals
        have a1 := set_heap G1.out 0 (.int .i64 (kp : Int))
        have a2 := set_heap ((set_other (W := w5) (g := w.heap.size + 1) (k := w.heap.size + 1 + 1) (i := 0) (v := .int .i64 (kp : Int)) (by omega)).trans G2.out) 0 (.int .i64 (kn : Int))
        have a3 := set_heap ((set_other (W := w5.setCell ⟨w.heap.size + 1, 0, none⟩ (.int .i64 (kp : Int))) (g := w.heap.size + 1 + 1) (k := w.heap.size + 1 + 1 + 1) (i := 0) (v := .int .i64 (kn : Int)) (by omega)).trans ((set_other (W := w5) (g := w.heap.size + 1) (k := w.heap.size + 1 + 1 + 1) (i := 0) (v := .int .i64 (kp : Int)) (by omega)).trans G3.out)) 0 (.bool true)
        refine ⟨(keepsFrom_below HB5.out).trans ((((KeepsOthers.setCell _ _ _).trans (KeepsOthers.setCell _ _ _)).trans ((KeepsOthers.setCell _ _ _).trans (KeepsOthers.drew _))).from _), rfl, pre, ⟨(kp, kn, ⟨op, d, a, b, c, v⟩), hmem⟩, rfl, HOK.out, ⟨?_, ?_, ?_⟩, ?_, ?_⟩
        · exact (set_other (by omega)).trans ((set_other (by omega)).trans a1)
        · exact (set_other (by omega)).trans a2
        · exact a3
        · exact ((((HB.out.trans (HB5.out.mono HB.out.size)).setCell (p := ⟨w.heap.size + 1, 0, none⟩) (by simp) _).setCell (p := ⟨w.heap.size + 1 + 1, 0, none⟩) (by simp; omega) _).setCell (p := ⟨w.heap.size + 1 + 1 + 1, 0, none⟩) (by simp; omega) _).drew
        · exact Nat.le_trans (Nat.le_trans HN.out HB5.out.size) ((((Below.refl 0 w5).setCell (p := ⟨w.heap.size + 1, 0, none⟩) (Nat.zero_le _) _).setCell (p := ⟨w.heap.size + 1 + 1, 0, none⟩) (Nat.zero_le _) _).setCell (p := ⟨w.heap.size + 1 + 1 + 1, 0, none⟩) (Nat.zero_le _) _).drew.size
  case done =>
    rintro D xs W hD hxs ⟨hpre, ⟨b1, b2, b3⟩, hTb, hRM, hB, hN⟩ hK2
    have k1 : W.cell? ⟨w.heap.size + 1, 0, none⟩ = some (.int .i64 0) := by simp [World.cell?, b1]
    have k2 : W.cell? ⟨w.heap.size + 1 + 1, 0, none⟩ = some (.int .i64 0) := by simp [World.cell?, b2]
    have k3 : W.cell? ⟨w.heap.size + 1 + 1 + 1, 0, none⟩ = some (.bool false) := by simp [World.cell?, b3]
    have f1 : W.frozen? ⟨w.heap.size + 1, 0, none⟩ = false := by simp [World.frozen?, b1]
    have f2 : W.frozen? ⟨w.heap.size + 1 + 1, 0, none⟩ = false := by simp [World.frozen?, b2]
    have f3 : W.frozen? ⟨w.heap.size + 1 + 1 + 1, 0, none⟩ = false := by simp [World.frozen?, b3]
    have hall : Hid (∀ q ∈ insTo o 4, okP o q = true) := Lib.hid fun q hq => by
      rw [← hxs] at hq
      obtain ⟨y, hy, rfl⟩ := List.mem_map.1 hq
      exact hpre y hy
    have G1 := Lib.hid b1
    have G2 := Lib.hid b2
    have G3 := Lib.hid b3
    have HB := Lib.hid hB
    have HD := Lib.hid hD
    have HKD := Lib.hid hK2
    clear hxs hpre b1 b2 b3 hTb hRM hB hN hD hK2
    gi_wp2
    refine ⟨by simp, .inl ⟨_, _, rfl, run_takeDeferred ((((KeepsOthers.setCell _ _ _).trans (KeepsOthers.setCell _ _ _)).trans (KeepsOthers.setCell _ _ _)).same D _ HKD.out rfl), ?_⟩⟩
    obtain ⟨y0, y1, y2, hfb⟩ := fin3_facts G1.out G2.out G3.out HKD.out HB.out (by have := HD.out; omega) (.int .i64 0) (.int .i64 0) (.bool false)
    unfold fin3 at y0 y1 y2 hfb
    exact ⟨.tuple #[.int .i64 0, .int .i64 0, .bool false], by simp [results, Tryd.results15, go_sem, y0, y1, y2], hfb, .inl ⟨rfl, hall.out⟩⟩
  case stop =>
    rintro D c pre W hD hpre ⟨rfl, pre', q, rfl, hq, ⟨b1, b2, b3⟩, hB, hN⟩ hK2
    have n1 : w.heap.size + 1 ≠ D := by intro e; rw [← e, b1] at hK2; cases hK2
    have n2 : w.heap.size + 1 + 1 ≠ D := by intro e; rw [← e, b2] at hK2; cases hK2
    have n3 : w.heap.size + 1 + 1 + 1 ≠ D := by intro e; rw [← e, b3] at hK2; cases hK2
    have y0 : (W.putObj D (.deferred none)).cell? ⟨w.heap.size + 1, 0, none⟩ = some (.int .i64 (q.1.1 : Int)) := by simp [World.cell?, World.putObj_heap_other n1, b1]
    have y1 : (W.putObj D (.deferred none)).cell? ⟨w.heap.size + 1 + 1, 0, none⟩ = some (.int .i64 (q.1.2.1 : Int)) := by simp [World.cell?, World.putObj_heap_other n2, b2]
    have y2 : (W.putObj D (.deferred none)).cell? ⟨w.heap.size + 1 + 1 + 1, 0, none⟩ = some (.bool true) := by simp [World.cell?, World.putObj_heap_other n3, b3]
    have hfin : Hid (WrongPost o w (.returned (.tuple #[.int .i64 (q.1.1 : Int), .int .i64 (q.1.2.1 : Int), .bool true])) (W.putObj D (.deferred none))) := Lib.hid ⟨hB.grown (grownBy_putObj' W D _) hB.size (fun k e => by cases e; omega), .inr ⟨q.1, q.2, hq, rfl⟩⟩
    have HKD := Lib.hid hK2
    clear hK2 n1 n2 n3 b1 b2 b3 hpre hB
    gi_wp2
    refine ⟨by simp, .inl ⟨_, _, rfl, run_takeDeferred HKD.out, ?_⟩⟩
    exact ⟨.tuple #[.int .i64 (q.1.1 : Int), .int .i64 (q.1.2.1 : Int), .bool true], by simp [results, Tryd.results15, go_sem, y0, y1, y2], hfin.out⟩
theorem wrong_any (o : Ob) (s1 s2 s3 s4 t1 t2 t3 t4 : Value) (w : World) (hT : TabAt w) (hO : ObAt w s1 s2 s3 s4 t1 t2 t3 t4 o) (hL : ObLen o) (hK : o.ok) :
    Calls Tryd.prog 15 #[.agg (obCells s1 s2 s3 s4 o.cross o.flags t1 t2 t3 t4)] w fun e w' => WrongPost o w e w' := by
  obtain ⟨o1, c1, o2, c2, o3, c3, o4, c4, q1, d1, q2, d2, q3, d3, q4, d4, rfl, rfl, rfl, rfl, rfl, rfl, rfl, rfl⟩ := obAt_slices hO
  exact callsIn_wide.1 (wrong_core o o1 o2 o3 o4 q1 q2 q3 q4 c1 c2 c3 c4 d1 d2 d3 d4 w (Lib.hid hT) (Lib.hid hL) (Lib.hid hK) (Lib.hid hO))
end Go.Proofs.YtceadfkjknjaoaaDoor
