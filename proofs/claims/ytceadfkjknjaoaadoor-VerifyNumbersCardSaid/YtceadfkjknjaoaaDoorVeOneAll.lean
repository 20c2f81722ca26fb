/- The reference's One of any instruction. -/
import Derived.Test.YtceadfkjknjaoaaDoorVeOneA
import Derived.Test.YtceadfkjknjaoaaDoorVeOneB
import Derived.Test.YtceadfkjknjaoaaDoorVeOneC
import Derived.Test.YtceadfkjknjaoaaDoorVeOneD
namespace Go.Proofs.YtceadfkjknjaoaaDoor
open Go.RowKit Co

attribute [local go_sem] Oper.semAt_some

set_option maxHeartbeats 16000000 in
set_option maxRecDepth 100000 in
theorem one_low (o : Ob) (o1 o2 o3 o4 q1 q2 q3 q4 : Option Addr) (c1 c2 c3 c4 d1 d2 d3 d4 : Nat) (p : Nat) (op d a b c v bh : Int) (h : op < 1) (w : World) :
    Calls Tryd.prog 16 #[obV o o1 o2 o3 o4 q1 q2 q3 q4 c1 c2 c3 c4 d1 d2 d3 d4, .int .i64 (p : Int), six0V op d a b c v, .int .i64 bh] w fun e w' => e = .returned (.bool (oneOk o p ⟨op, d, a, b, c, v⟩ bh)) ∧ Below w.heap.size w w' := by
  have HE : Hid (oneOk o p ⟨op, d, a, b, c, v⟩ bh = false) := Lib.hid (by unfold oneOk opOk; rw [decide_eq_false (show ¬ 1 ≤ op by omega)]; simp)
  unfold obV six0V
  go_enter Tryd.func16, Tryd.ntmps16
  go_wp2_with fail
  go_ret
  exact ⟨by rw [HE.out]; rfl, ((Below.refl w.heap.size w).alloc (Nat.le_refl _) _).alloc (by simp) _⟩
set_option maxHeartbeats 16000000 in
set_option maxRecDepth 100000 in
theorem one_high (o : Ob) (o1 o2 o3 o4 q1 q2 q3 q4 : Option Addr) (c1 c2 c3 c4 d1 d2 d3 d4 : Nat) (p : Nat) (op d a b c v bh : Int) (h : 22 < op) (w : World) :
    Calls Tryd.prog 16 #[obV o o1 o2 o3 o4 q1 q2 q3 q4 c1 c2 c3 c4 d1 d2 d3 d4, .int .i64 (p : Int), six0V op d a b c v, .int .i64 bh] w fun e w' => e = .returned (.bool (oneOk o p ⟨op, d, a, b, c, v⟩ bh)) ∧ Below w.heap.size w w' := by
  have HE : Hid (oneOk o p ⟨op, d, a, b, c, v⟩ bh = false) := Lib.hid (by unfold oneOk opOk; rw [decide_eq_false (show ¬ op ≤ 22 by omega)]; simp)
  have h1 : ¬ op < 1 := by omega
  unfold obV six0V
  go_enter Tryd.func16, Tryd.ntmps16
  go_wp2_with fail
  go_ret
  exact ⟨by rw [HE.out]; rfl, ((Below.refl w.heap.size w).alloc (Nat.le_refl _) _).alloc (by simp) _⟩
theorem one_any (o : Ob) (o1 o2 o3 o4 q1 q2 q3 q4 : Option Addr) (c1 c2 c3 c4 d1 d2 d3 d4 : Nat) (p : Nat) (hp : p < 4) (x : Six) (bh : Int) (h1 : 0 ≤ bh) (h2 : bh ≤ 140737488351232) (w : World) :
    Calls Tryd.prog 16 #[obV o o1 o2 o3 o4 q1 q2 q3 q4 c1 c2 c3 c4 d1 d2 d3 d4, .int .i64 (p : Int), six0V x.op x.d x.a x.b x.c x.v, .int .i64 bh] w fun e w' => e = .returned (.bool (oneOk o p x bh)) ∧ Below w.heap.size w w' := by
  obtain ⟨op, d, a, b, c, v⟩ := x
  by_cases hl : op < 1
  · exact one_low o o1 o2 o3 o4 q1 q2 q3 q4 c1 c2 c3 c4 d1 d2 d3 d4 p op d a b c v bh hl w
  · by_cases hh : 22 < op
    · exact one_high o o1 o2 o3 o4 q1 q2 q3 q4 c1 c2 c3 c4 d1 d2 d3 d4 p op d a b c v bh hh w
    · rcases op_cases (op := op) ⟨by omega, by omega⟩ with rfl | rfl | rfl | rfl | rfl | rfl | rfl | rfl | rfl | rfl | rfl | rfl | rfl | rfl | rfl | rfl | rfl | rfl | rfl | rfl | rfl | rfl | rfl
      · omega
      · exact one_1 o o1 o2 o3 o4 q1 q2 q3 q4 c1 c2 c3 c4 d1 d2 d3 d4 p d a b c v bh w
      · exact one_2 o o1 o2 o3 o4 q1 q2 q3 q4 c1 c2 c3 c4 d1 d2 d3 d4 p d a b c v bh w
      · exact one_3 o o1 o2 o3 o4 q1 q2 q3 q4 c1 c2 c3 c4 d1 d2 d3 d4 p d a b c v bh w
      · exact one_4 o o1 o2 o3 o4 q1 q2 q3 q4 c1 c2 c3 c4 d1 d2 d3 d4 p d a b c v bh w
      · exact one_5 o o1 o2 o3 o4 q1 q2 q3 q4 c1 c2 c3 c4 d1 d2 d3 d4 p hp d a b c v bh w
      · exact one_6 o o1 o2 o3 o4 q1 q2 q3 q4 c1 c2 c3 c4 d1 d2 d3 d4 p d a b c v bh w
      · exact one_7 o o1 o2 o3 o4 q1 q2 q3 q4 c1 c2 c3 c4 d1 d2 d3 d4 p d a b c v bh w
      · exact one_8 o o1 o2 o3 o4 q1 q2 q3 q4 c1 c2 c3 c4 d1 d2 d3 d4 p d a b c v bh w
      · exact one_9 o o1 o2 o3 o4 q1 q2 q3 q4 c1 c2 c3 c4 d1 d2 d3 d4 p d a b c v bh w
      · exact one_10 o o1 o2 o3 o4 q1 q2 q3 q4 c1 c2 c3 c4 d1 d2 d3 d4 p d a b c v bh w
      · exact one_11 o o1 o2 o3 o4 q1 q2 q3 q4 c1 c2 c3 c4 d1 d2 d3 d4 p d a b c v bh w
      · exact one_12 o o1 o2 o3 o4 q1 q2 q3 q4 c1 c2 c3 c4 d1 d2 d3 d4 p d a b c v bh w
      · exact one_13 o o1 o2 o3 o4 q1 q2 q3 q4 c1 c2 c3 c4 d1 d2 d3 d4 p d a b c v bh w
      · exact one_14 o o1 o2 o3 o4 q1 q2 q3 q4 c1 c2 c3 c4 d1 d2 d3 d4 p d a b c v bh w
      · exact one_15 o o1 o2 o3 o4 q1 q2 q3 q4 c1 c2 c3 c4 d1 d2 d3 d4 p d a b c v bh w
      · exact one_16 o o1 o2 o3 o4 q1 q2 q3 q4 c1 c2 c3 c4 d1 d2 d3 d4 p d a b c v bh w
      · exact one_17 o o1 o2 o3 o4 q1 q2 q3 q4 c1 c2 c3 c4 d1 d2 d3 d4 p d a b c v bh w
      · exact one_18 o o1 o2 o3 o4 q1 q2 q3 q4 c1 c2 c3 c4 d1 d2 d3 d4 p d a b c v bh w
      · exact one_19 o o1 o2 o3 o4 q1 q2 q3 q4 c1 c2 c3 c4 d1 d2 d3 d4 p hp d a b c v bh h1 h2 w
      · exact one_20 o o1 o2 o3 o4 q1 q2 q3 q4 c1 c2 c3 c4 d1 d2 d3 d4 p hp d a b c v bh w
      · exact one_21 o o1 o2 o3 o4 q1 q2 q3 q4 c1 c2 c3 c4 d1 d2 d3 d4 p hp d a b c v bh w
      · exact one_22 o o1 o2 o3 o4 q1 q2 q3 q4 c1 c2 c3 c4 d1 d2 d3 d4 p hp d a b c v bh w
end Go.Proofs.YtceadfkjknjaoaaDoor
