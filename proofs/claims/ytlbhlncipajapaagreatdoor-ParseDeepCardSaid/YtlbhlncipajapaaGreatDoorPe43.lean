/- Joined: AstMayAt, AstRefMay, AstOnek3. -/
import Derived.Test.YtlbhlncipajapaaGreatDoorPe42
import Derived.StillTailTactics
import Derived.BigQuiet
namespace Go.Proofs.YtlbhlncipajapaaGreatDoor
open Go.RowKit Go.Shelf

attribute [local go_sem] Oper.semAt_some

/-- a part that may be, ahead of i -/
def partOk (i : Nat) (p : Int) : Bool := decide (0 ≤ p) && decide (p < (i : Int))
/-- the rest of what an expression is asked -/
def restE (x : Ex) : Bool := (namedK x.kind == decide (x.name.size ≠ 0)) && (decide (x.kind = 20) == decide (x.state.size ≠ 0)) && (decide (x.kind = 19) || decide (x.args.length = 0)) && decide (0 ≤ x.v) && decide (x.v ≤ mostV x.kind)
theorem mayE_kind {x : Ex} {i : Nat} (h : ¬ (1 ≤ x.kind ∧ x.kind ≤ 21)) : mayE x i = false := by
  unfold mayE
  by_cases h1 : 1 ≤ x.kind
  · rw [decide_eq_false (show ¬ x.kind ≤ 21 by omega)]; simp
  · rw [decide_eq_false h1]; simp
theorem mayE_parts {x : Ex} {i : Nat} {p : Int} (hp : p ∈ partsE x) (h : partOk i p = false) : mayE x i = false := by
  have : (partsE x).all (fun p => decide (0 ≤ p) && decide (p < (i : Int))) = false := by
    rw [List.all_eq_false]; exact ⟨p, hp, by unfold partOk at h; simpa using h⟩
  unfold mayE; rw [this]; simp
theorem mayE_rest {x : Ex} {i : Nat} {p : Int} (hp : p ∈ [x.a, x.b, x.c].drop (manyOf x.kind)) (h : p ≠ 0) : mayE x i = false := by
  have : ([x.a, x.b, x.c].drop (manyOf x.kind)).all (fun p => decide (p = 0)) = false := by
    rw [List.all_eq_false]; exact ⟨p, hp, by simpa using h⟩
  unfold mayE; rw [this]; simp
theorem mayE_last {x : Ex} {i : Nat} (h : 1 ≤ x.kind ∧ x.kind ≤ 21) (hp : ∀ p ∈ partsE x, partOk i p = true) (hr : ∀ p ∈ [x.a, x.b, x.c].drop (manyOf x.kind), p = 0) : mayE x i = restE x := by
  have h1 : (partsE x).all (fun p => decide (0 ≤ p) && decide (p < (i : Int))) = true := by rw [List.all_eq_true]; exact hp
  have h2 : ([x.a, x.b, x.c].drop (manyOf x.kind)).all (fun p => decide (p = 0)) = true := by rw [List.all_eq_true]; intro p hpm; exact decide_eq_true (hr p hpm)
  unfold mayE restE
  rw [h1, h2, decide_eq_true h.1, decide_eq_true h.2]; simp
/-- the three cells, and the frame -/
def MInv (x : Ex) (s : Value) (i : Nat) (w : World) (pre : List (PartOf x)) (W : World) : Prop :=
  (W.heap[w.heap.size]? = some (.cells (exCells x s) 46 (0, 0)) ∧ W.heap[w.heap.size + 1]? = some (.cells #[.int .i64 (i : Int)] 3 (0, 0)) ∧ W.heap[w.heap.size + 2]? = some (.cells #[.bool false] 4 (0, 0))) ∧
  (∀ p ∈ pre, partOk i p.1 = true) ∧ Below w.heap.size w W ∧ w.heap.size + 4 ≤ W.heap.size
def MLeft (x : Ex) (i : Nat) (w : World) (c : Code) (pre : List (PartOf x)) (W : World) : Prop :=
  c = .ret ∧ W.heap[w.heap.size + 2]? = some (.cells #[.bool false] 4 (0, 0)) ∧ (∃ p ∈ pre, partOk i p.1 = false) ∧ Below w.heap.size w W ∧ w.heap.size + 4 ≤ W.heap.size
theorem minv_own (x : Ex) (s : Value) (i : Nat) (w : World) : OwnFrom (w.heap.size + 4) (MInv x s i w) := by
  rintro pre X Y row ⟨⟨h1, h2, h3⟩, h4, h5, h6⟩ hg hrow
  have hne : ∀ b, b < w.heap.size + 4 → some b ≠ row := fun b hb e => by have := (hrow b e.symm).1; omega
  exact ⟨⟨(hg.block _ (lt_of_heap h1) (hne _ (by omega))).trans h1, (hg.block _ (lt_of_heap h2) (hne _ (by omega))).trans h2, (hg.block _ (lt_of_heap h3) (hne _ (by omega))).trans h3⟩, h4,
    h5.grown hg h5.size (fun k e => by have := (hrow k e).1; omega), Nat.le_trans h6 hg.size⟩
theorem mleft_own (x : Ex) (i : Nat) (w : World) (c : Code) : OwnFrom (w.heap.size + 4) (MLeft x i w c) := by
  rintro pre X Y row ⟨hc, h3, h4, h5, h6⟩ hg hrow
  have hne : ∀ b, b < w.heap.size + 4 → some b ≠ row := fun b hb e => by have := (hrow b e.symm).1; omega
  exact ⟨hc, (hg.block _ (lt_of_heap h3) (hne _ (by omega))).trans h3, h4, h5.grown hg h5.size (fun k e => by have := (hrow k e).1; omega), Nat.le_trans h6 hg.size⟩
def MayPost (r : Bool) (w : World) (e : Ending) (w' : World) : Prop := e = .returned (.bool r) ∧ Below w.heap.size w w'
theorem keepM_none {M : Nat → Prop} {N : Nat} (W : World) (l : Nat) (o o' : Obj) (hl : N ≤ l) (h : W.heap[l]? = some o) (hc : o.isCells = false) : KeepM M (fun _ => none) N W (W.putObj l o') := by
  have hg := grownBy_putObj' W l o'
  refine ⟨hg.size, fun k hk _ _ hh => hg.block k hk (fun e => ?_), fun k hk => by cases hk⟩
  cases e
  rcases hh with h1 | ⟨o2, h1, h2⟩
  · omega
  · rw [h] at h1; cases h1; rw [hc] at h2; cases h2
theorem set_heap {W : World} {g : Nat} {cs : Array Value} {T : TypeId} {fr : Nat × Nat} (h : W.heap[g]? = some (.cells cs T fr)) (i : Nat) (v : Value) : (W.setCell ⟨g, i, none⟩ v).heap[g]? = some (.cells (cs.setIfInBounds i v) T fr) := by
  obtain ⟨hlt, hk⟩ := Array.getElem?_eq_some_iff.1 h
  show (W.heap.modify g _)[g]? = _
  rw [Array.getElem?_eq_getElem (by rw [Array.size_modify]; exact hlt), Array.getElem_modify_self, hk]
  rfl
theorem four (w : World) (o1 o2 o3 o4 : Obj) : let W := (((w.alloc o1).alloc o2).alloc o3).alloc o4
    W.heap[w.heap.size]? = some o1 ∧ W.heap[w.heap.size + 1]? = some o2 ∧ W.heap[w.heap.size + 2]? = some o3 ∧ W.heap[w.heap.size + 3]? = some o4 ∧ Below w.heap.size w W ∧ W.heap.size = w.heap.size + 4 := by
  have z1 : (w.alloc o1).heap.size = w.heap.size + 1 := World.size_alloc _ _
  have z2 : ((w.alloc o1).alloc o2).heap.size = w.heap.size + 2 := by rw [World.size_alloc, z1]
  have z3 : (((w.alloc o1).alloc o2).alloc o3).heap.size = w.heap.size + 3 := by rw [World.size_alloc, z2]
  have a1 := World.alloc_heap_new w o1
  have a2 := World.alloc_heap_new (w.alloc o1) o2
  have a3 := World.alloc_heap_new ((w.alloc o1).alloc o2) o3
  have a4 := World.alloc_heap_new (((w.alloc o1).alloc o2).alloc o3) o4
  rw [z1] at a2
  rw [z2] at a3
  rw [z3] at a4
  refine ⟨?_, ?_, ?_, a4, (((((Below.refl _ w).alloc (Nat.le_refl _) o1).alloc (by omega) o2).alloc (by omega) o3).alloc (by omega) o4), by rw [World.size_alloc, z3]⟩
  · rw [heap_old _ _ _ (by omega), heap_old _ _ _ (by omega), heap_old _ _ _ (by omega), a1]
  · rw [heap_old _ _ _ (by omega), heap_old _ _ _ (by omega), a2]
  · rw [heap_old _ _ _ (by omega), a3]
theorem still_tail' {id : Nat} {P : Program} {Q : Exit → Act → World → Prop} {a : Act} {w : World} {l : List Oper} (n : Nat) (hm : P.follows .mixedOrders = true) (hB : Region.lexTailB .any l.toArray n = true)
    (h : wpStill P l.toArray w.drew (fun a' => wpList P l.toArray Q (l.drop n) a' w.drew) (l.take n) a) : (Code.region id l.toArray true).wp P Q a w := wp_region_still_tail n hm hB h
theorem still_of_quiet {P : Program} {ops : Array Oper} {w : World} {Q : Act → Prop} : ∀ (l : List Oper) (a : Act), wpQuiet P ops (fun w' => w' = w) Q l a → wpStill P ops w Q l a
  | [], _, h => h
  | o :: rest, a, h => by
    unfold wpQuiet at h
    unfold wpStill
    by_cases hw : Region.wanted o (yielded ops a.tmps) = true
    · rw [if_pos hw] at h ⊢
      obtain ⟨v, h1, h2⟩ := h
      have h3 := h1 w rfl
      have h4 := still_of_quiet rest _ h2
      unfold Oper.quietAt at h3
      unfold Oper.still
      revert h3
      generalize (execOp a.eval o).run P w = r
      intro h3
      match r, h3 with
      | .ok (.value u) w', ⟨e1, e2⟩ => exact ⟨e1, by rw [e2]; exact h4⟩
      | .ok .skip w', ⟨e1, e2⟩ => exact ⟨e1, by rw [← e2]; exact h4⟩
      | .ok (.enter f args) w', ⟨e1, e2⟩ => exact ⟨e1, v, e2, h4⟩
    · rw [if_neg hw] at h ⊢
      exact still_of_quiet rest _ h
theorem tail_by_quiet {id : Nat} {P : Program} {Q : Exit → Act → World → Prop} {a : Act} {w : World} {l : List Oper} (n : Nat) (hm : P.follows .mixedOrders = true) (hB : Region.lexTailB .any l.toArray n = true)
    (h : wpQuiet P l.toArray (fun w' => w' = w.drew) (fun a' => wpList P l.toArray Q (l.drop n) a' w.drew) (l.take n) a) : (Code.region id l.toArray true).wp P Q a w := wp_region_still_tail n hm hB (still_of_quiet _ _ h)
theorem drop_mem {l : List Int} {m j : Nat} (h : m + j < l.length) : l.getD (m + j) 0 ∈ l.drop m := by
  rw [List.getD_eq_getElem?_getD, List.getElem?_eq_getElem h]
  exact List.mem_iff_getElem.2 ⟨j, by rw [List.length_drop]; omega, by rw [List.getElem_drop]; rfl⟩
theorem empty_size (s : ByteArray) : s.toList.isEmpty = decide (s.size = 0) := by
  rw [Lib.toList_data, Bool.eq_iff_iff, List.isEmpty_iff, decide_eq_true_eq]
  constructor
  · intro h; show s.data.size = 0; rw [← Array.length_toList, h]; rfl
  · intro h; exact List.eq_nil_of_length_eq_zero (by rw [Array.length_toList]; exact h)
/-- the rest, in a walk's words -/
theorem restE_w (x : Ex) (nb q20 q19 ne se ae : Bool) (h1 : namedK x.kind = nb) (h2 : (x.kind == 20) = q20) (h3 : (x.kind == 19) = q19) (h4 : x.name.toList.isEmpty = !ne) (h5 : x.state.toList.isEmpty = !se) (h6 : decide (x.args.length = 0) = ae) :
    restE x = ((nb == ne) && (q20 == se) && (q19 || ae) && decide (0 ≤ x.v) && decide (x.v ≤ mostV x.kind)) := by
  have e4 : decide (x.name.size ≠ 0) = ne := by
    rw [empty_size] at h4
    rw [show decide (x.name.size ≠ 0) = !decide (x.name.size = 0) from by simp, h4]; simp
  have e5 : decide (x.state.size ≠ 0) = se := by
    rw [empty_size] at h5
    rw [show decide (x.state.size ≠ 0) = !decide (x.state.size = 0) from by simp, h5]; simp
  have e2 : decide (x.kind = 20) = q20 := by rw [← h2]; rfl
  have e3 : decide (x.kind = 19) = q19 := by rw [← h3]; rfl
  unfold restE
  rw [h1, e2, e3, e4, e5, h6]
end Go.Proofs.YtlbhlncipajapaaGreatDoor
namespace Go.Proofs.YtlbhlncipajapaaGreatDoor
open Go.RowKit

set_option maxHeartbeats 2000000 in
theorem has_any (k : Int) (w : World) : Calls Tryz.prog 24 #[.int .i64 k] w fun e w' => e = .returned (.tuple #[.bool (hasE k), .bool (hasF k)]) ∧ w' = w := by
  by_cases h : 1 ≤ k ∧ k ≤ 7
  · have h2 : k = 1 ∨ k = 2 ∨ k = 3 ∨ k = 4 ∨ k = 5 ∨ k = 6 ∨ k = 7 := by omega
    clear h
    rcases h2 with rfl | rfl | rfl | rfl | rfl | rfl | rfl
    all_goals
      go_enter Tryz.func24, Tryz.ntmps24
      go_wp2_with fail
      go_ret2
      exact ⟨rfl, rfl⟩
  · have hr1 : hasE k = false := by unfold hasE; rw [decide_eq_false (show ¬ k = 1 by omega), decide_eq_false (show ¬ k = 4 by omega), decide_eq_false (show ¬ k = 2 by omega), decide_eq_false (show ¬ k = 3 by omega), decide_eq_false (show ¬ k = 5 by omega)]; rfl
    have hr2 : hasF k = false := by unfold hasF; rw [decide_eq_false (show ¬ k = 2 by omega), decide_eq_false (show ¬ k = 3 by omega), decide_eq_false (show ¬ k = 5 by omega), decide_eq_false (show ¬ k = 7 by omega)]; rfl
    have e2 : (k == 2) = false := beq_false_of_ne (by omega)
    have e3 : (k == 3) = false := beq_false_of_ne (by omega)
    have e5 : (k == 5) = false := beq_false_of_ne (by omega)
    have e7 : (k == 7) = false := beq_false_of_ne (by omega)
    rw [hr1, hr2]
    clear hr1 hr2
    by_cases h1 : 1 ≤ k
    · have t1 : decide (1 ≤ k) = true := decide_eq_true h1
      have t2 : decide (k ≤ 5) = false := decide_eq_false (by omega)
      clear h h1
      go_enter Tryz.func24, Tryz.ntmps24
      go_wp2_with fail
      go_ret2
      exact ⟨rfl, rfl⟩
    · have t1 : decide (1 ≤ k) = false := decide_eq_false h1
      clear h h1
      go_enter Tryz.func24, Tryz.ntmps24
      go_wp2_with fail
      go_ret2
      exact ⟨rfl, rfl⟩
theorem points_any (has : Bool) (e : Int) (n cap : Nat) (o : Option Addr) (o1 : Option Addr) (m cap1 : Nat) (w : World) :
    Calls Tryz.prog 23 #[.agg #[.slice o1 m cap1, .slice o n cap], .int .i64 e, .bool has] w fun r w' => r = .returned (.bool (standsE n has e)) ∧ Below w.heap.size w w' := by
  unfold standsE
  cases has with
  | false =>
    rw [if_neg Bool.false_ne_true]
    by_cases h0 : e = 0
    · subst h0
      go_enter Tryz.func23, Tryz.ntmps23
      go_wp2_with fail
      go_ret
      exact ⟨rfl, below_al (Below.refl _ _) _⟩
    · have t : (e == 0) = false := beq_false_of_ne h0
      rw [decide_eq_false h0]
      clear h0
      go_enter Tryz.func23, Tryz.ntmps23
      go_wp2_with fail
      go_ret
      exact ⟨by first | rfl | (show Ending.returned (.bool (e == 0)) = _; rw [t]), below_al (Below.refl _ _) _⟩
  | true =>
    rw [if_pos rfl]
    by_cases h0 : 0 ≤ e
    · have t : decide (0 ≤ e) = true := decide_eq_true h0
      by_cases h1 : e < (n : Int)
      · have t1 : decide (e < (n : Int)) = true := decide_eq_true h1
        rw [t, t1]
        clear h0
        go_enter Tryz.func23, Tryz.ntmps23
        go_wp2_with fail
        go_ret
        exact ⟨by first | rfl | simp, below_al (Below.refl _ _) _⟩
      · have t1 : decide (e < (n : Int)) = false := decide_eq_false h1
        rw [t, t1]
        clear h0
        go_enter Tryz.func23, Tryz.ntmps23
        go_wp2_with fail
        go_ret
        exact ⟨by first | rfl | simp, below_al (Below.refl _ _) _⟩
    · have t : decide (0 ≤ e) = false := decide_eq_false h0
      rw [t]
      clear h0
      go_enter Tryz.func23, Tryz.ntmps23
      go_wp2_with fail
      go_ret
      exact ⟨by first | rfl | simp, below_al (Below.refl _ _) _⟩
theorem own_ints {w : World} {base : Nat} {v : Value} {n : Nat} {l : List Int} (h : w.ownsRow base 3 1 v n (l.map intV)) : ∃ g o cap, v = .slice o n cap ∧ (0 < n → o = some ⟨g, 0, none⟩) ∧ ∀ j, j < n → w.cell? ⟨g, j, none⟩ = some (.int .i64 (l.getD j 0)) := by
  have hl : l.length = n := by have := h.1; rwa [List.length_map, Nat.mul_one] at this
  rcases h.2 with ⟨rfl, rfl⟩ | ⟨g, cap, cur, rfl, h3, h4, h5, h6, h7, h8⟩
  · exact ⟨0, none, 0, rfl, by omega, by omega⟩
  · refine ⟨g, _, cap, rfl, fun _ => rfl, fun j hj => ?_⟩
    have := h.cells (g := g) rfl (j := j) (u := .int .i64 (l.getD j 0)) (by rw [List.getElem?_map, List.getElem?_eq_getElem (by omega), List.getD_eq_getElem?_getD, List.getElem?_eq_getElem (by omega)]; rfl)
    rwa [show (⟨g, 0, none⟩ : Addr).add j = ⟨g, j, none⟩ by unfold Addr.add; split <;> simp_all] at this
theorem v_zero (v : Int) : ((true && decide (0 ≤ v)) && decide (v ≤ 0)) = (v == 0) := by
  rw [Bool.eq_iff_iff]; simp; omega
theorem mayE_args {x : Ex} {i : Nat} (h : ¬ x.args.length = 0) (h19 : ¬ x.kind = 19) : mayE x i = false := by
  unfold mayE; rw [decide_eq_false h, decide_eq_false h19]; simp
end Go.Proofs.YtlbhlncipajapaaGreatDoor
namespace Go.Proofs.YtlbhlncipajapaaGreatDoor
open Go.RowKit

set_option maxHeartbeats 8000000 in
set_option maxRecDepth 100000 in
theorem one_k3 (x : Ex) (o : Option Addr) (na cap : Nat) (hna : Hid (x.args.length = na)) (i : Nat) (w : World) (ha : Hid (IntsAt w (.slice o na cap) x.args)) (hp : Hid ((partsE x).length ≤ 40000)) (q1 : decide (x.kind < 1) = false) (q2 : decide (21 < x.kind) = false)
    (hm : Hid (manyR x.kind = 0)) (t3 : (x.kind == 3) = true) (t19 : (x.kind == 19) = false) (t20 : (x.kind == 20) = false) (t2 : decide (2 < x.kind) = true) (t1 : (x.kind == 1) = false) (hmv : Hid (mostV x.kind = 0)) :
    Calls Tryz.prog 22 #[.agg #[.int .i64 x.kind, .int .i64 x.a, .int .i64 x.b, .int .i64 x.c, .string x.name, .string x.state, .int .i64 x.v, .slice o na cap, .int .i64 x.pos], .int .i64 (i : Int)] w fun e w' => MayPost (mayE x i) w e w' := by
  have hkk : Hid (1 ≤ x.kind ∧ x.kind ≤ 21) := Lib.hid ⟨by have := of_decide_eq_false q1; omega, by have := of_decide_eq_false q2; omega⟩
  have T3 := Lib.hid t3
  have T19 := Lib.hid t19
  have T20 := Lib.hid t20
  have T2 := Lib.hid t2
  have T1 := Lib.hid t1
  have hmo : Hid (manyOf x.kind = 0) := Lib.hid (by
    have h := hm.out
    unfold manyR at h
    by_cases h19 : x.kind = 19
    · rw [h19]; first | rfl | (exfalso; rw [h19] at t19; exact absurd t19 (by decide))
    · rw [if_neg h19] at h; first | omega | (exfalso; have t := t19; simp at t; omega))
  have CM : Hid (∀ w1, Calls Tryz.prog 45 #[.int .i64 x.kind] w1 fun e w' => e = .returned (.int .i64 (0)) ∧ w1 = w') := Lib.hid fun w1 => by rw [← hm.out]; exact many_any _ _
  have CP : Hid (∀ w1, Below w.heap.size w w1 → Calls Tryz.prog 46 #[.agg #[.int .i64 x.kind, .int .i64 x.a, .int .i64 x.b, .int .i64 x.c, .string x.name, .string x.state, .int .i64 x.v, .slice o na cap, .int .i64 x.pos]] w1 fun e w' => NewInts (partsE x) w1 e w') := Lib.hid fun w1 h1 => refParts_any x _ w1 (ha.out.below h1) hp.out
  have hb0 := Lib.hid (below_al (Below.refl w.heap.size w) (.cells #[.int .i64 x.kind, .int .i64 x.a, .int .i64 x.b, .int .i64 x.c, .string x.name, .string x.state, .int .i64 x.v, .slice o na cap, .int .i64 x.pos] 46))
  have hB0 := Lib.hid (World.alloc_heap_new w (.cells #[.int .i64 x.kind, .int .i64 x.a, .int .i64 x.b, .int .i64 x.c, .string x.name, .string x.state, .int .i64 x.v, .slice o na cap, .int .i64 x.pos] 46))
  go_enter Tryz.func22, Tryz.ntmps22
  go_wp2_with (first | (go_at_call 45; ((with_reducible refine (CM.out _).mono ?_); rintro e w1 ⟨rfl, rfl⟩)) | (go_at_call 46; ((with_reducible refine (CP.out _ hb0.out).mono ?_); rintro e w2 ⟨v', rfl, hown, hb2⟩; obtain ⟨g, o', cap', rfl, hg1, hg2⟩ := own_ints hown; have HB2 := Lib.hid hb2; have HG1 := Lib.hid hg1; have HG2 := Lib.hid hg2; clear hown hb2 hg1 hg2)))
  have hbw := Lib.hid (hb0.out.trans (HB2.out.mono hb0.out.size))
  have hBx := Lib.hid ((HB2.out.block _ (lt_of_heap hB0.out)).trans hB0.out)
  obtain ⟨pn, hpn⟩ : ∃ pn, pn = (partsE x).length := ⟨_, rfl⟩
  have HPN := Lib.hid hpn
  have hpl : (pn : Int) ≤ 40000 := by have := hp.out; omega
  rw [← hpn] at HG1 HG2 ⊢
  clear hpn CM CP hb0 hB0 HB2
  go_loop [7] (fun t => ∃ j : Nat, t = .int .i64 j ∧ j ≤ pn ∧ Hid (∀ u, u < j → partOk i ((partsE x).getD u 0) = true)) (fun t => pn - litLen t)
  case atStart => exact ⟨0, rfl, Nat.zero_le _, Lib.hid fun u hu => by omega⟩
  case round =>
    obtain ⟨j, rfl, hj, hok⟩ := hrel
    rcases Nat.lt_or_ge j pn with hlt | hge
    · have q3 : (j : Int) < (pn : Int) := by omega
      have ix := ix_ints (off := 0) (cap := cap') HG1.out hlt (by omega)
      unfold Ix at ix
      have cj := HG2.out j hlt
      obtain ⟨z, hz⟩ : ∃ z, z = (partsE x).getD j 0 := ⟨_, rfl⟩
      rw [← hz] at cj
      have HZ := Lib.hid hz
      have hmem : Hid (z ∈ partsE x) := Lib.hid (by rw [hz, List.getD_eq_getElem?_getD, List.getElem?_eq_getElem (by have := HPN.out; omega)]; exact List.getElem_mem _)
      clear hz
      by_cases h1 : z < 0
      · have u1 : decide (z < 0) = true := decide_eq_true h1
        have hbad := Lib.hid (mayE_parts (i := i) hmem.out (by unfold partOk; rw [decide_eq_false (show ¬ 0 ≤ z by omega)]; rfl))
        clear h1
        go_wp2_with fail
        go_ret
        exact ⟨by rw [hbad.out]; rfl, hbw.out⟩
      · have u1 : decide (z < 0) = false := decide_eq_false h1
        by_cases h2 : (i : Int) ≤ z
        · have u2 : decide ((i : Int) ≤ z) = true := decide_eq_true h2
          have hbad := Lib.hid (mayE_parts (i := i) hmem.out (by unfold partOk; rw [decide_eq_false (show ¬ z < (i : Int) by omega)]; simp))
          clear h1 h2
          go_wp2_with fail
          go_ret
          exact ⟨by rw [hbad.out]; rfl, hbw.out⟩
        · have u2 : decide ((i : Int) ≤ z) = false := decide_eq_false h2
          have hgood := Lib.hid (show partOk i z = true by unfold partOk; rw [decide_eq_true (show 0 ≤ z by omega), decide_eq_true (show z < (i : Int) by omega)]; rfl)
          clear h1 h2
          go_wp2_with fail
          go_round
          case rel => exact ⟨j + 1, by first | omega | go_num, by omega, Lib.hid fun u hu => by
            rcases Nat.lt_or_ge u j with h | h
            · exact hok.out u h
            · obtain rfl : u = j := by omega
              rw [← HZ.out]; exact hgood.out⟩
          case measure => simp [litLen]; omega
    · have q3 : decide ((j : Int) < (pn : Int)) = false := decide_eq_false (by omega)
      have hparts : Hid (∀ p ∈ partsE x, partOk i p = true) := Lib.hid (by
        intro p hpm
        obtain ⟨u, hu, rfl⟩ := List.mem_iff_getElem.1 hpm
        have := hok.out u (by have := HPN.out; omega)
        rwa [List.getD_eq_getElem?_getD, List.getElem?_eq_getElem hu] at this)
      have d0 : w2.cell? ⟨w.heap.size, 0, none⟩ = some (.int .i64 x.kind) := by simp [World.cell?, hBx.out]
      have d1 : w2.cell? ⟨w.heap.size, 1, none⟩ = some (.int .i64 x.a) := by simp [World.cell?, hBx.out]
      have d2 : w2.cell? ⟨w.heap.size, 2, none⟩ = some (.int .i64 x.b) := by simp [World.cell?, hBx.out]
      have d3 : w2.cell? ⟨w.heap.size, 3, none⟩ = some (.int .i64 x.c) := by simp [World.cell?, hBx.out]
      have d4 : w2.cell? ⟨w.heap.size, 4, none⟩ = some (.string x.name) := by simp [World.cell?, hBx.out]
      have d5 : w2.cell? ⟨w.heap.size, 5, none⟩ = some (.string x.state) := by simp [World.cell?, hBx.out]
      have d6 : w2.cell? ⟨w.heap.size, 6, none⟩ = some (.int .i64 x.v) := by simp [World.cell?, hBx.out]
      have d7 : w2.cell? ⟨w.heap.size, 7, none⟩ = some (.slice o na cap) := by simp [World.cell?, hBx.out]
      have hnk : Hid (namedK x.kind = true) := Lib.hid (by
        unfold namedK
        rw [show decide (x.kind = 3) = true from T3.out, show decide (x.kind = 19) = false from T19.out, show decide (x.kind = 20) = false from T20.out]; rfl)
      clear hok HG1 HG2
      by_cases za : x.a = 0
      · have ua : (x.a != 0) = false := by rw [za]; rfl
        have Za := Lib.hid za
        clear za
        by_cases zb : x.b = 0
        · have ub : (x.b != 0) = false := by rw [zb]; rfl
          have Zb := Lib.hid zb
          clear zb
          by_cases zc : x.c = 0
          · have uc : (x.c != 0) = false := by rw [zc]; rfl
            have Zc := Lib.hid zc
            clear zc
            by_cases za : na = 0
            · have ua0 : decide (0 < na) = false := decide_eq_false (by omega)
              have ua1 : decide ((0 : Int) < (na : Int)) = false := decide_eq_false (by omega)
              have A2 : Hid (decide (x.args.length = 0) = true) := Lib.hid (decide_eq_true (by rw [hna.out]; exact za))
              clear za
              have hrest : Hid (mayE x i = restE x) := Lib.hid (mayE_last hkk.out hparts.out (by
                rw [hmo.out]
                intro p hpm
                simp at hpm
                rcases hpm with rfl | rfl | rfl
                · exact Za.out
                · exact Zb.out
                · exact Zc.out))
              by_cases hn : x.name.toList = []
              · have n2 : x.name.toList.isEmpty = true := by rw [hn]; rfl
                have N2 : Hid (x.name.toList.isEmpty = !false) := Lib.hid n2
                clear hn
                have S2 : Hid (x.state.toList.isEmpty = !!x.state.toList.isEmpty) := Lib.hid (by simp)
                have HE : Hid (mayE x i = false) := Lib.hid (by rw [hrest.out, restE_w x true false false false (!x.state.toList.isEmpty) (true) hnk.out T20.out T19.out N2.out S2.out A2.out]; rfl)
                clear hrest
                go_wp2_with fail
                go_ret
                exact ⟨by rw [HE.out]; rfl, hbw.out⟩
              · have n2 : x.name.toList.isEmpty = false := by cases h : x.name.toList with | nil => exact absurd h hn | cons _ _ => rfl
                have N2 : Hid (x.name.toList.isEmpty = !true) := Lib.hid n2
                clear hn
                by_cases hst : x.state.toList = []
                · have s2 : x.state.toList.isEmpty = true := by rw [hst]; rfl
                  have S2 : Hid (x.state.toList.isEmpty = !false) := Lib.hid s2
                  clear hst
                  have HE : Hid (mayE x i = (x.v == 0)) := Lib.hid (by rw [hrest.out, restE_w x true false false true false (true) hnk.out T20.out T19.out N2.out S2.out A2.out, hmv.out]; exact v_zero x.v)
                  clear hrest
                  go_wp2_with fail
                  go_ret
                  exact ⟨by rw [HE.out]; rfl, hbw.out⟩
                · have s2 : x.state.toList.isEmpty = false := by cases h : x.state.toList with | nil => exact absurd h hst | cons _ _ => rfl
                  have S2 : Hid (x.state.toList.isEmpty = !true) := Lib.hid s2
                  clear hst
                  have HE : Hid (mayE x i = false) := Lib.hid (by rw [hrest.out, restE_w x true false false true true (true) hnk.out T20.out T19.out N2.out S2.out A2.out]; rfl)
                  clear hrest
                  go_wp2_with fail
                  go_ret
                  exact ⟨by rw [HE.out]; rfl, hbw.out⟩
            · have ua0 : decide (0 < na) = true := decide_eq_true (by omega)
              have ua1 : decide ((0 : Int) < (na : Int)) = true := decide_eq_true (by omega)
              have HE : Hid (mayE x i = false) := Lib.hid (mayE_args (by rw [hna.out]; exact za) (fun h => by have t := T19.out; rw [h] at t; exact absurd t (by decide)))
              clear za
              go_wp2_with fail
              go_ret
              exact ⟨by rw [HE.out]; rfl, hbw.out⟩
          · have uc : (x.c != 0) = true := bne_iff_ne.2 zc
            have HE : Hid (mayE x i = false) := Lib.hid (mayE_rest (p := x.c) (by rw [hmo.out]; simp) zc)
            clear zc
            go_wp2_with fail
            go_ret
            exact ⟨by rw [HE.out]; rfl, hbw.out⟩
        · have ub : (x.b != 0) = true := bne_iff_ne.2 zb
          have HE : Hid (mayE x i = false) := Lib.hid (mayE_rest (p := x.b) (by rw [hmo.out]; simp) zb)
          clear zb
          go_wp2_with fail
          go_ret
          exact ⟨by rw [HE.out]; rfl, hbw.out⟩
      · have ua : (x.a != 0) = true := bne_iff_ne.2 za
        have HE : Hid (mayE x i = false) := Lib.hid (mayE_rest (p := x.a) (by rw [hmo.out]; simp) za)
        clear za
        go_wp2_with fail
        go_ret
        exact ⟨by rw [HE.out]; rfl, hbw.out⟩
end Go.Proofs.YtlbhlncipajapaaGreatDoor
