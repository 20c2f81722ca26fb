/- The reference's One at each kind of instruction (D). -/
import Derived.Test.YtceadfkjknjaoaaDoorVeOne
namespace Go.Proofs.YtceadfkjknjaoaaDoor
open Go.RowKit Co
set_option linter.unusedSimpArgs false
set_option linter.unusedVariables false

attribute [local go_sem] Oper.semAt_some

set_option maxHeartbeats 16000000 in
set_option maxRecDepth 100000 in
theorem one_19 (o : Ob) (o1 o2 o3 o4 q1 q2 q3 q4 : Option Addr) (c1 c2 c3 c4 d1 d2 d3 d4 : Nat) (p : Nat) (hp : p < 4) (d a b c v bh : Int) (h1 : 0 ≤ bh) (h2 : bh ≤ 140737488351232) (w : World) :
    Calls Tryd.prog 16 #[obV o o1 o2 o3 o4 q1 q2 q3 q4 c1 c2 c3 c4 d1 d2 d3 d4, .int .i64 (p : Int), six0V 19 d a b c v, .int .i64 bh] w fun e w' => e = .returned (.bool (oneOk o p ⟨19, d, a, b, c, v⟩ bh)) ∧ Below w.heap.size w w' := by
  unfold obV six0V
  by_cases hv : v = 0
  rotate_left
  · have qv : (v != 0) = true := bne_iff_ne.2 hv
    go_enter Tryd.func16, Tryd.ntmps16
    go_wp2_with fail
    go_ret
    exact ⟨by unfold oneOk opOk; simp [hv], ((Below.refl w.heap.size w).alloc (Nat.le_refl _) _).alloc (by simp) _⟩
  have qv : (v != 0) = false := by simp [hv]
  have HV := Lib.hid hv
  clear hv
  rcases (show p = 0 ∨ p = 1 ∨ p = 2 ∨ p = 3 by omega) with rfl | rfl | rfl | rfl
  · go_enter Tryd.func16, Tryd.ntmps16
    go_wp2_with fail
    go_ret
    exact ⟨by unfold oneOk opOk onlyStep; simp, ((Below.refl w.heap.size w).alloc (Nat.le_refl _) _).alloc (by simp) _⟩
  · go_enter Tryd.func16, Tryd.ntmps16
    go_wp2_with fail
    go_ret
    exact ⟨by unfold oneOk opOk onlyStep; simp, ((Below.refl w.heap.size w).alloc (Nat.le_refl _) _).alloc (by simp) _⟩
  · have OB := Lib.hid (one_box o o1 o2 o3 o4 q1 q2 q3 q4 c1 c2 c3 c4 d1 d2 d3 d4 19 d a b c v w)
    unfold oneW at OB
    have HE : Hid (oneOk o 2 ⟨19, d, a, b, c, v⟩ bh = ((d == 0) && (inB a 4000 && (inB b (bh + 1) && (c == 0))))) := Lib.hid (by simp [oneOk, opOk, onlyStep, oneD, oneA, oneB, oneC, beq_dec, HV.out])
    go_enter Tryd.func16, Tryd.ntmps16
    go_wp2_with fail
    obtain ⟨w2, hw2⟩ : ∃ w2, w2 = (w.alloc (.cells #[.slice o1 o.inn.length c1, .slice o2 o.out.length c2, .slice o3 o.state.length c3, .slice o4 o.mem.length c4, .int .i64 o.cross, .int .i64 o.flags, .slice q1 o.deriv.length d1, .slice q2 o.zero.length d2, .slice q3 o.step.length d3, .slice q4 o.at_.length d4] 29)).alloc (.cells #[.int .i64 19, .int .i64 d, .int .i64 a, .int .i64 b, .int .i64 c, .int .i64 v] 39) := ⟨_, rfl⟩
    rw [← hw2] at OB ⊢
    clear hw2
    have G1 := fun pr : Regrown => cell_regrown OB.out.y1 pr.d pr.os
    have G2 := fun pr : Regrown => cell_regrown OB.out.y2 pr.d pr.os
    have G3 := fun pr : Regrown => cell_regrown OB.out.y3 pr.d pr.os
    have G4 := fun pr : Regrown => cell_regrown OB.out.y4 pr.d pr.os
    refine wp_region_quiet_below (by kernel_rfl) (by kernel_rfl) ?_
    repeat (go_big_quiet_step (fail))
    refine wpQuiet_nil ?_
    intro w4 hw4
    have HB4 : Hid (OneBox o o1 o2 o3 o4 c1 c2 c3 c4 ⟨19, d, a, b, c, v⟩ w w4) := Lib.hid (by obtain ⟨pr, rfl⟩ := hw4; exact OB.out.on (below_regrown _ _ _))
    clear hw4 G1 G2 G3 G4
    obtain ⟨hb, x0, x1, x2, x3, x4, y1, y2, y3, y4⟩ := id HB4.out
    have HB := Lib.hid hb
    clear hb
    simp only at y1 y2 y3 y4
    go_upto_region 38 with (go_at_call 26; (with_reducible refine (in_any _ _ _).mono ?_); rintro e w9 ⟨rfl, rfl⟩)
    obtain ⟨D, hD⟩ : ∃ D, D = ((d == 0)) := ⟨_, rfl⟩
    obtain ⟨A, hA⟩ : ∃ A, A = (inB a 4000) := ⟨_, rfl⟩
    obtain ⟨B, hB⟩ : ∃ B, B = (inB b (bh + 1)) := ⟨_, rfl⟩
    obtain ⟨C, hC⟩ : ∃ C, C = ((c == 0)) := ⟨_, rfl⟩
    simp only [← hD, ← hA, ← hB, ← hC] at HE ⊢
    clear hD hA hB hC
    cases D <;> cases A <;> cases B <;> (go_wp2_with fail; go_ret; exact ⟨by rw [HE.out]; rfl, HB.out⟩)
  · go_enter Tryd.func16, Tryd.ntmps16
    go_wp2_with fail
    go_ret
    exact ⟨by unfold oneOk opOk onlyStep; simp, ((Below.refl w.heap.size w).alloc (Nat.le_refl _) _).alloc (by simp) _⟩
set_option maxHeartbeats 16000000 in
set_option maxRecDepth 100000 in
theorem one_20 (o : Ob) (o1 o2 o3 o4 q1 q2 q3 q4 : Option Addr) (c1 c2 c3 c4 d1 d2 d3 d4 : Nat) (p : Nat) (hp : p < 4) (d a b c v bh : Int) (w : World) :
    Calls Tryd.prog 16 #[obV o o1 o2 o3 o4 q1 q2 q3 q4 c1 c2 c3 c4 d1 d2 d3 d4, .int .i64 (p : Int), six0V 20 d a b c v, .int .i64 bh] w fun e w' => e = .returned (.bool (oneOk o p ⟨20, d, a, b, c, v⟩ bh)) ∧ Below w.heap.size w w' := by
  unfold obV six0V
  by_cases hv : v = 0
  rotate_left
  · have qv : (v != 0) = true := bne_iff_ne.2 hv
    go_enter Tryd.func16, Tryd.ntmps16
    go_wp2_with fail
    go_ret
    exact ⟨by unfold oneOk opOk; simp [hv], ((Below.refl w.heap.size w).alloc (Nat.le_refl _) _).alloc (by simp) _⟩
  have qv : (v != 0) = false := by simp [hv]
  have HV := Lib.hid hv
  clear hv
  rcases (show p = 0 ∨ p = 1 ∨ p = 2 ∨ p = 3 by omega) with rfl | rfl | rfl | rfl
  · have OB := Lib.hid (one_box o o1 o2 o3 o4 q1 q2 q3 q4 c1 c2 c3 c4 d1 d2 d3 d4 20 d a b c v w)
    unfold oneW at OB
    have HE : Hid (oneOk o 0 ⟨20, d, a, b, c, v⟩ bh = (inB d (o.state.length : Int) && (inB a 4000 && ((b == 0) && (c == 0))))) := Lib.hid (by simp [oneOk, opOk, onlyStep, oneD, oneA, oneB, oneC, beq_dec, HV.out])
    go_enter Tryd.func16, Tryd.ntmps16
    go_wp2_with fail
    obtain ⟨w2, hw2⟩ : ∃ w2, w2 = (w.alloc (.cells #[.slice o1 o.inn.length c1, .slice o2 o.out.length c2, .slice o3 o.state.length c3, .slice o4 o.mem.length c4, .int .i64 o.cross, .int .i64 o.flags, .slice q1 o.deriv.length d1, .slice q2 o.zero.length d2, .slice q3 o.step.length d3, .slice q4 o.at_.length d4] 29)).alloc (.cells #[.int .i64 20, .int .i64 d, .int .i64 a, .int .i64 b, .int .i64 c, .int .i64 v] 39) := ⟨_, rfl⟩
    rw [← hw2] at OB ⊢
    clear hw2
    have G1 := fun pr : Regrown => cell_regrown OB.out.y1 pr.d pr.os
    have G2 := fun pr : Regrown => cell_regrown OB.out.y2 pr.d pr.os
    have G3 := fun pr : Regrown => cell_regrown OB.out.y3 pr.d pr.os
    have G4 := fun pr : Regrown => cell_regrown OB.out.y4 pr.d pr.os
    refine wp_region_quiet_below (by kernel_rfl) (by kernel_rfl) ?_
    repeat (go_big_quiet_step (fail))
    refine wpQuiet_nil ?_
    intro w4 hw4
    have HB4 : Hid (OneBox o o1 o2 o3 o4 c1 c2 c3 c4 ⟨20, d, a, b, c, v⟩ w w4) := Lib.hid (by obtain ⟨pr, rfl⟩ := hw4; exact OB.out.on (below_regrown _ _ _))
    clear hw4 G1 G2 G3 G4
    obtain ⟨hb, x0, x1, x2, x3, x4, y1, y2, y3, y4⟩ := id HB4.out
    have HB := Lib.hid hb
    clear hb
    simp only at y1 y2 y3 y4
    go_upto_region 38 with (go_at_call 26; (with_reducible refine (in_any _ _ _).mono ?_); rintro e w9 ⟨rfl, rfl⟩)
    obtain ⟨D, hD⟩ : ∃ D, D = (inB d (o.state.length : Int)) := ⟨_, rfl⟩
    obtain ⟨A, hA⟩ : ∃ A, A = (inB a 4000) := ⟨_, rfl⟩
    obtain ⟨B, hB⟩ : ∃ B, B = ((b == 0)) := ⟨_, rfl⟩
    obtain ⟨C, hC⟩ : ∃ C, C = ((c == 0)) := ⟨_, rfl⟩
    simp only [← hD, ← hA, ← hB, ← hC] at HE ⊢
    clear hD hA hB hC
    cases D <;> cases A <;> cases B <;> (go_wp2_with fail; go_ret; exact ⟨by rw [HE.out]; rfl, HB.out⟩)
  · have OB := Lib.hid (one_box o o1 o2 o3 o4 q1 q2 q3 q4 c1 c2 c3 c4 d1 d2 d3 d4 20 d a b c v w)
    unfold oneW at OB
    have HE : Hid (oneOk o 1 ⟨20, d, a, b, c, v⟩ bh = (inB d o.cross && (inB a 4000 && ((b == 0) && (c == 0))))) := Lib.hid (by simp [oneOk, opOk, onlyStep, oneD, oneA, oneB, oneC, beq_dec, HV.out])
    go_enter Tryd.func16, Tryd.ntmps16
    go_wp2_with fail
    obtain ⟨w2, hw2⟩ : ∃ w2, w2 = (w.alloc (.cells #[.slice o1 o.inn.length c1, .slice o2 o.out.length c2, .slice o3 o.state.length c3, .slice o4 o.mem.length c4, .int .i64 o.cross, .int .i64 o.flags, .slice q1 o.deriv.length d1, .slice q2 o.zero.length d2, .slice q3 o.step.length d3, .slice q4 o.at_.length d4] 29)).alloc (.cells #[.int .i64 20, .int .i64 d, .int .i64 a, .int .i64 b, .int .i64 c, .int .i64 v] 39) := ⟨_, rfl⟩
    rw [← hw2] at OB ⊢
    clear hw2
    have G1 := fun pr : Regrown => cell_regrown OB.out.y1 pr.d pr.os
    have G2 := fun pr : Regrown => cell_regrown OB.out.y2 pr.d pr.os
    have G3 := fun pr : Regrown => cell_regrown OB.out.y3 pr.d pr.os
    have G4 := fun pr : Regrown => cell_regrown OB.out.y4 pr.d pr.os
    refine wp_region_quiet_below (by kernel_rfl) (by kernel_rfl) ?_
    repeat (go_big_quiet_step (fail))
    refine wpQuiet_nil ?_
    intro w4 hw4
    have HB4 : Hid (OneBox o o1 o2 o3 o4 c1 c2 c3 c4 ⟨20, d, a, b, c, v⟩ w w4) := Lib.hid (by obtain ⟨pr, rfl⟩ := hw4; exact OB.out.on (below_regrown _ _ _))
    clear hw4 G1 G2 G3 G4
    obtain ⟨hb, x0, x1, x2, x3, x4, y1, y2, y3, y4⟩ := id HB4.out
    have HB := Lib.hid hb
    clear hb
    simp only at y1 y2 y3 y4
    go_upto_region 38 with (go_at_call 26; (with_reducible refine (in_any _ _ _).mono ?_); rintro e w9 ⟨rfl, rfl⟩)
    obtain ⟨D, hD⟩ : ∃ D, D = (inB d o.cross) := ⟨_, rfl⟩
    obtain ⟨A, hA⟩ : ∃ A, A = (inB a 4000) := ⟨_, rfl⟩
    obtain ⟨B, hB⟩ : ∃ B, B = ((b == 0)) := ⟨_, rfl⟩
    obtain ⟨C, hC⟩ : ∃ C, C = ((c == 0)) := ⟨_, rfl⟩
    simp only [← hD, ← hA, ← hB, ← hC] at HE ⊢
    clear hD hA hB hC
    cases D <;> cases A <;> cases B <;> (go_wp2_with fail; go_ret; exact ⟨by rw [HE.out]; rfl, HB.out⟩)
  · go_enter Tryd.func16, Tryd.ntmps16
    go_wp2_with fail
    go_ret
    exact ⟨by unfold oneOk opOk onlyStep; simp, ((Below.refl w.heap.size w).alloc (Nat.le_refl _) _).alloc (by simp) _⟩
  · have OB := Lib.hid (one_box o o1 o2 o3 o4 q1 q2 q3 q4 c1 c2 c3 c4 d1 d2 d3 d4 20 d a b c v w)
    unfold oneW at OB
    have HE : Hid (oneOk o 3 ⟨20, d, a, b, c, v⟩ bh = (inB d (o.out.length : Int) && (inB a 4000 && ((b == 0) && (c == 0))))) := Lib.hid (by simp [oneOk, opOk, onlyStep, oneD, oneA, oneB, oneC, beq_dec, HV.out])
    go_enter Tryd.func16, Tryd.ntmps16
    go_wp2_with fail
    obtain ⟨w2, hw2⟩ : ∃ w2, w2 = (w.alloc (.cells #[.slice o1 o.inn.length c1, .slice o2 o.out.length c2, .slice o3 o.state.length c3, .slice o4 o.mem.length c4, .int .i64 o.cross, .int .i64 o.flags, .slice q1 o.deriv.length d1, .slice q2 o.zero.length d2, .slice q3 o.step.length d3, .slice q4 o.at_.length d4] 29)).alloc (.cells #[.int .i64 20, .int .i64 d, .int .i64 a, .int .i64 b, .int .i64 c, .int .i64 v] 39) := ⟨_, rfl⟩
    rw [← hw2] at OB ⊢
    clear hw2
    have G1 := fun pr : Regrown => cell_regrown OB.out.y1 pr.d pr.os
    have G2 := fun pr : Regrown => cell_regrown OB.out.y2 pr.d pr.os
    have G3 := fun pr : Regrown => cell_regrown OB.out.y3 pr.d pr.os
    have G4 := fun pr : Regrown => cell_regrown OB.out.y4 pr.d pr.os
    refine wp_region_quiet_below (by kernel_rfl) (by kernel_rfl) ?_
    repeat (go_big_quiet_step (fail))
    refine wpQuiet_nil ?_
    intro w4 hw4
    have HB4 : Hid (OneBox o o1 o2 o3 o4 c1 c2 c3 c4 ⟨20, d, a, b, c, v⟩ w w4) := Lib.hid (by obtain ⟨pr, rfl⟩ := hw4; exact OB.out.on (below_regrown _ _ _))
    clear hw4 G1 G2 G3 G4
    obtain ⟨hb, x0, x1, x2, x3, x4, y1, y2, y3, y4⟩ := id HB4.out
    have HB := Lib.hid hb
    clear hb
    simp only at y1 y2 y3 y4
    go_upto_region 38 with (go_at_call 26; (with_reducible refine (in_any _ _ _).mono ?_); rintro e w9 ⟨rfl, rfl⟩)
    obtain ⟨D, hD⟩ : ∃ D, D = (inB d (o.out.length : Int)) := ⟨_, rfl⟩
    obtain ⟨A, hA⟩ : ∃ A, A = (inB a 4000) := ⟨_, rfl⟩
    obtain ⟨B, hB⟩ : ∃ B, B = ((b == 0)) := ⟨_, rfl⟩
    obtain ⟨C, hC⟩ : ∃ C, C = ((c == 0)) := ⟨_, rfl⟩
    simp only [← hD, ← hA, ← hB, ← hC] at HE ⊢
    clear hD hA hB hC
    cases D <;> cases A <;> cases B <;> (go_wp2_with fail; go_ret; exact ⟨by rw [HE.out]; rfl, HB.out⟩)
set_option maxHeartbeats 16000000 in
set_option maxRecDepth 100000 in
theorem one_21 (o : Ob) (o1 o2 o3 o4 q1 q2 q3 q4 : Option Addr) (c1 c2 c3 c4 d1 d2 d3 d4 : Nat) (p : Nat) (hp : p < 4) (d a b c v bh : Int) (w : World) :
    Calls Tryd.prog 16 #[obV o o1 o2 o3 o4 q1 q2 q3 q4 c1 c2 c3 c4 d1 d2 d3 d4, .int .i64 (p : Int), six0V 21 d a b c v, .int .i64 bh] w fun e w' => e = .returned (.bool (oneOk o p ⟨21, d, a, b, c, v⟩ bh)) ∧ Below w.heap.size w w' := by
  unfold obV six0V
  by_cases hv : v = 0
  rotate_left
  · have qv : (v != 0) = true := bne_iff_ne.2 hv
    go_enter Tryd.func16, Tryd.ntmps16
    go_wp2_with fail
    go_ret
    exact ⟨by unfold oneOk opOk; simp [hv], ((Below.refl w.heap.size w).alloc (Nat.le_refl _) _).alloc (by simp) _⟩
  have qv : (v != 0) = false := by simp [hv]
  have HV := Lib.hid hv
  clear hv
  rcases (show p = 0 ∨ p = 1 ∨ p = 2 ∨ p = 3 by omega) with rfl | rfl | rfl | rfl
  · go_enter Tryd.func16, Tryd.ntmps16
    go_wp2_with fail
    go_ret
    exact ⟨by unfold oneOk opOk onlyStep; simp, ((Below.refl w.heap.size w).alloc (Nat.le_refl _) _).alloc (by simp) _⟩
  · go_enter Tryd.func16, Tryd.ntmps16
    go_wp2_with fail
    go_ret
    exact ⟨by unfold oneOk opOk onlyStep; simp, ((Below.refl w.heap.size w).alloc (Nat.le_refl _) _).alloc (by simp) _⟩
  · have OB := Lib.hid (one_box o o1 o2 o3 o4 q1 q2 q3 q4 c1 c2 c3 c4 d1 d2 d3 d4 21 d a b c v w)
    unfold oneW at OB
    have HE : Hid (oneOk o 2 ⟨21, d, a, b, c, v⟩ bh = (inB d (o.mem.length : Int) && (inB a 4000 && ((b == 0) && (c == 0))))) := Lib.hid (by simp [oneOk, opOk, onlyStep, oneD, oneA, oneB, oneC, beq_dec, HV.out])
    go_enter Tryd.func16, Tryd.ntmps16
    go_wp2_with fail
    obtain ⟨w2, hw2⟩ : ∃ w2, w2 = (w.alloc (.cells #[.slice o1 o.inn.length c1, .slice o2 o.out.length c2, .slice o3 o.state.length c3, .slice o4 o.mem.length c4, .int .i64 o.cross, .int .i64 o.flags, .slice q1 o.deriv.length d1, .slice q2 o.zero.length d2, .slice q3 o.step.length d3, .slice q4 o.at_.length d4] 29)).alloc (.cells #[.int .i64 21, .int .i64 d, .int .i64 a, .int .i64 b, .int .i64 c, .int .i64 v] 39) := ⟨_, rfl⟩
    rw [← hw2] at OB ⊢
    clear hw2
    have G1 := fun pr : Regrown => cell_regrown OB.out.y1 pr.d pr.os
    have G2 := fun pr : Regrown => cell_regrown OB.out.y2 pr.d pr.os
    have G3 := fun pr : Regrown => cell_regrown OB.out.y3 pr.d pr.os
    have G4 := fun pr : Regrown => cell_regrown OB.out.y4 pr.d pr.os
    refine wp_region_quiet_below (by kernel_rfl) (by kernel_rfl) ?_
    repeat (go_big_quiet_step (fail))
    refine wpQuiet_nil ?_
    intro w4 hw4
    have HB4 : Hid (OneBox o o1 o2 o3 o4 c1 c2 c3 c4 ⟨21, d, a, b, c, v⟩ w w4) := Lib.hid (by obtain ⟨pr, rfl⟩ := hw4; exact OB.out.on (below_regrown _ _ _))
    clear hw4 G1 G2 G3 G4
    obtain ⟨hb, x0, x1, x2, x3, x4, y1, y2, y3, y4⟩ := id HB4.out
    have HB := Lib.hid hb
    clear hb
    simp only at y1 y2 y3 y4
    go_upto_region 38 with (go_at_call 26; (with_reducible refine (in_any _ _ _).mono ?_); rintro e w9 ⟨rfl, rfl⟩)
    obtain ⟨D, hD⟩ : ∃ D, D = (inB d (o.mem.length : Int)) := ⟨_, rfl⟩
    obtain ⟨A, hA⟩ : ∃ A, A = (inB a 4000) := ⟨_, rfl⟩
    obtain ⟨B, hB⟩ : ∃ B, B = ((b == 0)) := ⟨_, rfl⟩
    obtain ⟨C, hC⟩ : ∃ C, C = ((c == 0)) := ⟨_, rfl⟩
    simp only [← hD, ← hA, ← hB, ← hC] at HE ⊢
    clear hD hA hB hC
    cases D <;> cases A <;> cases B <;> (go_wp2_with fail; go_ret; exact ⟨by rw [HE.out]; rfl, HB.out⟩)
  · go_enter Tryd.func16, Tryd.ntmps16
    go_wp2_with fail
    go_ret
    exact ⟨by unfold oneOk opOk onlyStep; simp, ((Below.refl w.heap.size w).alloc (Nat.le_refl _) _).alloc (by simp) _⟩
set_option maxHeartbeats 16000000 in
set_option maxRecDepth 100000 in
theorem one_22 (o : Ob) (o1 o2 o3 o4 q1 q2 q3 q4 : Option Addr) (c1 c2 c3 c4 d1 d2 d3 d4 : Nat) (p : Nat) (hp : p < 4) (d a b c v bh : Int) (w : World) :
    Calls Tryd.prog 16 #[obV o o1 o2 o3 o4 q1 q2 q3 q4 c1 c2 c3 c4 d1 d2 d3 d4, .int .i64 (p : Int), six0V 22 d a b c v, .int .i64 bh] w fun e w' => e = .returned (.bool (oneOk o p ⟨22, d, a, b, c, v⟩ bh)) ∧ Below w.heap.size w w' := by
  unfold obV six0V
  by_cases hv : v = 0
  rotate_left
  · have qv : (v != 0) = true := bne_iff_ne.2 hv
    go_enter Tryd.func16, Tryd.ntmps16
    go_wp2_with fail
    go_ret
    exact ⟨by unfold oneOk opOk; simp [hv], ((Below.refl w.heap.size w).alloc (Nat.le_refl _) _).alloc (by simp) _⟩
  have qv : (v != 0) = false := by simp [hv]
  have HV := Lib.hid hv
  clear hv
  rcases (show p = 0 ∨ p = 1 ∨ p = 2 ∨ p = 3 by omega) with rfl | rfl | rfl | rfl
  · go_enter Tryd.func16, Tryd.ntmps16
    go_wp2_with fail
    go_ret
    exact ⟨by unfold oneOk opOk onlyStep; simp, ((Below.refl w.heap.size w).alloc (Nat.le_refl _) _).alloc (by simp) _⟩
  · go_enter Tryd.func16, Tryd.ntmps16
    go_wp2_with fail
    go_ret
    exact ⟨by unfold oneOk opOk onlyStep; simp, ((Below.refl w.heap.size w).alloc (Nat.le_refl _) _).alloc (by simp) _⟩
  · have OB := Lib.hid (one_box o o1 o2 o3 o4 q1 q2 q3 q4 c1 c2 c3 c4 d1 d2 d3 d4 22 d a b c v w)
    unfold oneW at OB
    have HE : Hid (oneOk o 2 ⟨22, d, a, b, c, v⟩ bh = (inB d (o.state.length : Int) && (inB a 4000 && ((b == 0) && (c == 0))))) := Lib.hid (by simp [oneOk, opOk, onlyStep, oneD, oneA, oneB, oneC, beq_dec, HV.out])
    go_enter Tryd.func16, Tryd.ntmps16
    go_wp2_with fail
    obtain ⟨w2, hw2⟩ : ∃ w2, w2 = (w.alloc (.cells #[.slice o1 o.inn.length c1, .slice o2 o.out.length c2, .slice o3 o.state.length c3, .slice o4 o.mem.length c4, .int .i64 o.cross, .int .i64 o.flags, .slice q1 o.deriv.length d1, .slice q2 o.zero.length d2, .slice q3 o.step.length d3, .slice q4 o.at_.length d4] 29)).alloc (.cells #[.int .i64 22, .int .i64 d, .int .i64 a, .int .i64 b, .int .i64 c, .int .i64 v] 39) := ⟨_, rfl⟩
    rw [← hw2] at OB ⊢
    clear hw2
    have G1 := fun pr : Regrown => cell_regrown OB.out.y1 pr.d pr.os
    have G2 := fun pr : Regrown => cell_regrown OB.out.y2 pr.d pr.os
    have G3 := fun pr : Regrown => cell_regrown OB.out.y3 pr.d pr.os
    have G4 := fun pr : Regrown => cell_regrown OB.out.y4 pr.d pr.os
    refine wp_region_quiet_below (by kernel_rfl) (by kernel_rfl) ?_
    repeat (go_big_quiet_step (fail))
    refine wpQuiet_nil ?_
    intro w4 hw4
    have HB4 : Hid (OneBox o o1 o2 o3 o4 c1 c2 c3 c4 ⟨22, d, a, b, c, v⟩ w w4) := Lib.hid (by obtain ⟨pr, rfl⟩ := hw4; exact OB.out.on (below_regrown _ _ _))
    clear hw4 G1 G2 G3 G4
    obtain ⟨hb, x0, x1, x2, x3, x4, y1, y2, y3, y4⟩ := id HB4.out
    have HB := Lib.hid hb
    clear hb
    simp only at y1 y2 y3 y4
    go_upto_region 38 with (go_at_call 26; (with_reducible refine (in_any _ _ _).mono ?_); rintro e w9 ⟨rfl, rfl⟩)
    obtain ⟨D, hD⟩ : ∃ D, D = (inB d (o.state.length : Int)) := ⟨_, rfl⟩
    obtain ⟨A, hA⟩ : ∃ A, A = (inB a 4000) := ⟨_, rfl⟩
    obtain ⟨B, hB⟩ : ∃ B, B = ((b == 0)) := ⟨_, rfl⟩
    obtain ⟨C, hC⟩ : ∃ C, C = ((c == 0)) := ⟨_, rfl⟩
    simp only [← hD, ← hA, ← hB, ← hC] at HE ⊢
    clear hD hA hB hC
    cases D <;> cases A <;> cases B <;> (go_wp2_with fail; go_ret; exact ⟨by rw [HE.out]; rfl, HB.out⟩)
  · go_enter Tryd.func16, Tryd.ntmps16
    go_wp2_with fail
    go_ret
    exact ⟨by unfold oneOk opOk onlyStep; simp, ((Below.refl w.heap.size w).alloc (Nat.le_refl _) _).alloc (by simp) _⟩
end Go.Proofs.YtceadfkjknjaoaaDoor
