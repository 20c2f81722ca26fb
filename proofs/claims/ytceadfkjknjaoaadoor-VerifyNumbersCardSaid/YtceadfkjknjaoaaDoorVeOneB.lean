/- The reference's One at each kind of instruction (B). -/
import Derived.Test.YtceadfkjknjaoaaDoorVeOne
namespace Go.Proofs.YtceadfkjknjaoaaDoor
open Go.RowKit Co
set_option linter.unusedSimpArgs false
set_option linter.unusedVariables false

attribute [local go_sem] Oper.semAt_some

set_option maxHeartbeats 16000000 in
set_option maxRecDepth 100000 in
theorem one_7 (o : Ob) (o1 o2 o3 o4 q1 q2 q3 q4 : Option Addr) (c1 c2 c3 c4 d1 d2 d3 d4 : Nat) (p : Nat) (d a b c v bh : Int) (w : World) :
    Calls Tryd.prog 16 #[obV o o1 o2 o3 o4 q1 q2 q3 q4 c1 c2 c3 c4 d1 d2 d3 d4, .int .i64 (p : Int), six0V 7 d a b c v, .int .i64 bh] w fun e w' => e = .returned (.bool (oneOk o p ⟨7, d, a, b, c, v⟩ bh)) ∧ Below w.heap.size w w' := by
  unfold obV six0V
  by_cases hv : v = 0
  rotate_left
  · have qv : (v != 0) = true := bne_iff_ne.2 hv
    go_enter Tryd.func16, Tryd.ntmps16
    go_wp2_with fail
    go_ret
    exact ⟨by unfold oneOk opOk; simp [hv], ((Below.refl w.heap.size w).alloc (Nat.le_refl _) _).alloc (by simp) _⟩
  have qv : (v != 0) = false := by simp [hv]
  have HV := Lib.hid hv
  clear hv
  have OB := Lib.hid (one_box o o1 o2 o3 o4 q1 q2 q3 q4 c1 c2 c3 c4 d1 d2 d3 d4 7 d a b c v w)
  unfold oneW at OB
  have HE : Hid (oneOk o p ⟨7, d, a, b, c, v⟩ bh = (inB d 4000 && (inB a 4000 && ((b == 0) && (c == 0))))) := Lib.hid (by simp [oneOk, opOk, onlyStep, oneD, oneA, oneB, oneC, beq_dec, HV.out])
  go_enter Tryd.func16, Tryd.ntmps16
  go_wp2_with fail
  obtain ⟨w2, hw2⟩ : ∃ w2, w2 = (w.alloc (.cells #[.slice o1 o.inn.length c1, .slice o2 o.out.length c2, .slice o3 o.state.length c3, .slice o4 o.mem.length c4, .int .i64 o.cross, .int .i64 o.flags, .slice q1 o.deriv.length d1, .slice q2 o.zero.length d2, .slice q3 o.step.length d3, .slice q4 o.at_.length d4] 29)).alloc (.cells #[.int .i64 7, .int .i64 d, .int .i64 a, .int .i64 b, .int .i64 c, .int .i64 v] 39) := ⟨_, rfl⟩
  rw [← hw2] at OB ⊢
  clear hw2
  have G1 := fun pr : Regrown => cell_regrown OB.out.y1 pr.d pr.os
  have G2 := fun pr : Regrown => cell_regrown OB.out.y2 pr.d pr.os
  have G3 := fun pr : Regrown => cell_regrown OB.out.y3 pr.d pr.os
  have G4 := fun pr : Regrown => cell_regrown OB.out.y4 pr.d pr.os
  refine wp_region_quiet_below (by kernel_rfl) (by kernel_rfl) ?_
  repeat (go_big_quiet_step (fail))
  refine wpQuiet_nil ?_
  intro w4 hw4
  have HB4 : Hid (OneBox o o1 o2 o3 o4 c1 c2 c3 c4 ⟨7, d, a, b, c, v⟩ w w4) := Lib.hid (by obtain ⟨pr, rfl⟩ := hw4; exact OB.out.on (below_regrown _ _ _))
  clear hw4 G1 G2 G3 G4
  obtain ⟨hb, x0, x1, x2, x3, x4, y1, y2, y3, y4⟩ := id HB4.out
  have HB := Lib.hid hb
  clear hb
  simp only at y1 y2 y3 y4
  go_upto_region 38 with (go_at_call 26; (with_reducible refine (in_any _ _ _).mono ?_); rintro e w9 ⟨rfl, rfl⟩)
  obtain ⟨D, hD⟩ : ∃ D, D = (inB d 4000) := ⟨_, rfl⟩
  obtain ⟨A, hA⟩ : ∃ A, A = (inB a 4000) := ⟨_, rfl⟩
  obtain ⟨B, hB⟩ : ∃ B, B = ((b == 0)) := ⟨_, rfl⟩
  obtain ⟨C, hC⟩ : ∃ C, C = ((c == 0)) := ⟨_, rfl⟩
  simp only [← hD, ← hA, ← hB, ← hC] at HE ⊢
  clear hD hA hB hC
  cases D <;> cases A <;> cases B <;> (go_wp2_with fail; go_ret; exact ⟨by rw [HE.out]; rfl, HB.out⟩)
set_option maxHeartbeats 16000000 in
set_option maxRecDepth 100000 in
theorem one_8 (o : Ob) (o1 o2 o3 o4 q1 q2 q3 q4 : Option Addr) (c1 c2 c3 c4 d1 d2 d3 d4 : Nat) (p : Nat) (d a b c v bh : Int) (w : World) :
    Calls Tryd.prog 16 #[obV o o1 o2 o3 o4 q1 q2 q3 q4 c1 c2 c3 c4 d1 d2 d3 d4, .int .i64 (p : Int), six0V 8 d a b c v, .int .i64 bh] w fun e w' => e = .returned (.bool (oneOk o p ⟨8, d, a, b, c, v⟩ bh)) ∧ Below w.heap.size w w' := by
  unfold obV six0V
  by_cases hv : v = 0
  rotate_left
  · have qv : (v != 0) = true := bne_iff_ne.2 hv
    go_enter Tryd.func16, Tryd.ntmps16
    go_wp2_with fail
    go_ret
    exact ⟨by unfold oneOk opOk; simp [hv], ((Below.refl w.heap.size w).alloc (Nat.le_refl _) _).alloc (by simp) _⟩
  have qv : (v != 0) = false := by simp [hv]
  have HV := Lib.hid hv
  clear hv
  have OB := Lib.hid (one_box o o1 o2 o3 o4 q1 q2 q3 q4 c1 c2 c3 c4 d1 d2 d3 d4 8 d a b c v w)
  unfold oneW at OB
  have HE : Hid (oneOk o p ⟨8, d, a, b, c, v⟩ bh = (inB d 4000 && (inB a 4000 && ((b == 0) && (c == 0))))) := Lib.hid (by simp [oneOk, opOk, onlyStep, oneD, oneA, oneB, oneC, beq_dec, HV.out])
  go_enter Tryd.func16, Tryd.ntmps16
  go_wp2_with fail
  obtain ⟨w2, hw2⟩ : ∃ w2, w2 = (w.alloc (.cells #[.slice o1 o.inn.length c1, .slice o2 o.out.length c2, .slice o3 o.state.length c3, .slice o4 o.mem.length c4, .int .i64 o.cross, .int .i64 o.flags, .slice q1 o.deriv.length d1, .slice q2 o.zero.length d2, .slice q3 o.step.length d3, .slice q4 o.at_.length d4] 29)).alloc (.cells #[.int .i64 8, .int .i64 d, .int .i64 a, .int .i64 b, .int .i64 c, .int .i64 v] 39) := ⟨_, rfl⟩
  rw [← hw2] at OB ⊢
  clear hw2
  have G1 := fun pr : Regrown => cell_regrown OB.out.y1 pr.d pr.os
  have G2 := fun pr : Regrown => cell_regrown OB.out.y2 pr.d pr.os
  have G3 := fun pr : Regrown => cell_regrown OB.out.y3 pr.d pr.os
  have G4 := fun pr : Regrown => cell_regrown OB.out.y4 pr.d pr.os
  refine wp_region_quiet_below (by kernel_rfl) (by kernel_rfl) ?_
  repeat (go_big_quiet_step (fail))
  refine wpQuiet_nil ?_
  intro w4 hw4
  have HB4 : Hid (OneBox o o1 o2 o3 o4 c1 c2 c3 c4 ⟨8, d, a, b, c, v⟩ w w4) := Lib.hid (by obtain ⟨pr, rfl⟩ := hw4; exact OB.out.on (below_regrown _ _ _))
  clear hw4 G1 G2 G3 G4
  obtain ⟨hb, x0, x1, x2, x3, x4, y1, y2, y3, y4⟩ := id HB4.out
  have HB := Lib.hid hb
  clear hb
  simp only at y1 y2 y3 y4
  go_upto_region 38 with (go_at_call 26; (with_reducible refine (in_any _ _ _).mono ?_); rintro e w9 ⟨rfl, rfl⟩)
  obtain ⟨D, hD⟩ : ∃ D, D = (inB d 4000) := ⟨_, rfl⟩
  obtain ⟨A, hA⟩ : ∃ A, A = (inB a 4000) := ⟨_, rfl⟩
  obtain ⟨B, hB⟩ : ∃ B, B = ((b == 0)) := ⟨_, rfl⟩
  obtain ⟨C, hC⟩ : ∃ C, C = ((c == 0)) := ⟨_, rfl⟩
  simp only [← hD, ← hA, ← hB, ← hC] at HE ⊢
  clear hD hA hB hC
  cases D <;> cases A <;> cases B <;> (go_wp2_with fail; go_ret; exact ⟨by rw [HE.out]; rfl, HB.out⟩)
set_option maxHeartbeats 16000000 in
set_option maxRecDepth 100000 in
theorem one_9 (o : Ob) (o1 o2 o3 o4 q1 q2 q3 q4 : Option Addr) (c1 c2 c3 c4 d1 d2 d3 d4 : Nat) (p : Nat) (d a b c v bh : Int) (w : World) :
    Calls Tryd.prog 16 #[obV o o1 o2 o3 o4 q1 q2 q3 q4 c1 c2 c3 c4 d1 d2 d3 d4, .int .i64 (p : Int), six0V 9 d a b c v, .int .i64 bh] w fun e w' => e = .returned (.bool (oneOk o p ⟨9, d, a, b, c, v⟩ bh)) ∧ Below w.heap.size w w' := by
  unfold obV six0V
  by_cases hv : v = 0
  rotate_left
  · have qv : (v != 0) = true := bne_iff_ne.2 hv
    go_enter Tryd.func16, Tryd.ntmps16
    go_wp2_with fail
    go_ret
    exact ⟨by unfold oneOk opOk; simp [hv], ((Below.refl w.heap.size w).alloc (Nat.le_refl _) _).alloc (by simp) _⟩
  have qv : (v != 0) = false := by simp [hv]
  have HV := Lib.hid hv
  clear hv
  have OB := Lib.hid (one_box o o1 o2 o3 o4 q1 q2 q3 q4 c1 c2 c3 c4 d1 d2 d3 d4 9 d a b c v w)
  unfold oneW at OB
  have HE : Hid (oneOk o p ⟨9, d, a, b, c, v⟩ bh = (inB d 4000 && (inB a 4000 && (inB b 4000 && (c == 0))))) := Lib.hid (by simp [oneOk, opOk, onlyStep, oneD, oneA, oneB, oneC, beq_dec, HV.out])
  go_enter Tryd.func16, Tryd.ntmps16
  go_wp2_with fail
  obtain ⟨w2, hw2⟩ : ∃ w2, w2 = (w.alloc (.cells #[.slice o1 o.inn.length c1, .slice o2 o.out.length c2, .slice o3 o.state.length c3, .slice o4 o.mem.length c4, .int .i64 o.cross, .int .i64 o.flags, .slice q1 o.deriv.length d1, .slice q2 o.zero.length d2, .slice q3 o.step.length d3, .slice q4 o.at_.length d4] 29)).alloc (.cells #[.int .i64 9, .int .i64 d, .int .i64 a, .int .i64 b, .int .i64 c, .int .i64 v] 39) := ⟨_, rfl⟩
  rw [← hw2] at OB ⊢
  clear hw2
  have G1 := fun pr : Regrown => cell_regrown OB.out.y1 pr.d pr.os
  have G2 := fun pr : Regrown => cell_regrown OB.out.y2 pr.d pr.os
  have G3 := fun pr : Regrown => cell_regrown OB.out.y3 pr.d pr.os
  have G4 := fun pr : Regrown => cell_regrown OB.out.y4 pr.d pr.os
  refine wp_region_quiet_below (by kernel_rfl) (by kernel_rfl) ?_
  repeat (go_big_quiet_step (fail))
  refine wpQuiet_nil ?_
  intro w4 hw4
  have HB4 : Hid (OneBox o o1 o2 o3 o4 c1 c2 c3 c4 ⟨9, d, a, b, c, v⟩ w w4) := Lib.hid (by obtain ⟨pr, rfl⟩ := hw4; exact OB.out.on (below_regrown _ _ _))
  clear hw4 G1 G2 G3 G4
  obtain ⟨hb, x0, x1, x2, x3, x4, y1, y2, y3, y4⟩ := id HB4.out
  have HB := Lib.hid hb
  clear hb
  simp only at y1 y2 y3 y4
  go_upto_region 38 with (go_at_call 26; (with_reducible refine (in_any _ _ _).mono ?_); rintro e w9 ⟨rfl, rfl⟩)
  obtain ⟨D, hD⟩ : ∃ D, D = (inB d 4000) := ⟨_, rfl⟩
  obtain ⟨A, hA⟩ : ∃ A, A = (inB a 4000) := ⟨_, rfl⟩
  obtain ⟨B, hB⟩ : ∃ B, B = (inB b 4000) := ⟨_, rfl⟩
  obtain ⟨C, hC⟩ : ∃ C, C = ((c == 0)) := ⟨_, rfl⟩
  simp only [← hD, ← hA, ← hB, ← hC] at HE ⊢
  clear hD hA hB hC
  cases D <;> cases A <;> cases B <;> (go_wp2_with fail; go_ret; exact ⟨by rw [HE.out]; rfl, HB.out⟩)
set_option maxHeartbeats 16000000 in
set_option maxRecDepth 100000 in
theorem one_10 (o : Ob) (o1 o2 o3 o4 q1 q2 q3 q4 : Option Addr) (c1 c2 c3 c4 d1 d2 d3 d4 : Nat) (p : Nat) (d a b c v bh : Int) (w : World) :
    Calls Tryd.prog 16 #[obV o o1 o2 o3 o4 q1 q2 q3 q4 c1 c2 c3 c4 d1 d2 d3 d4, .int .i64 (p : Int), six0V 10 d a b c v, .int .i64 bh] w fun e w' => e = .returned (.bool (oneOk o p ⟨10, d, a, b, c, v⟩ bh)) ∧ Below w.heap.size w w' := by
  unfold obV six0V
  by_cases hv : v = 0
  rotate_left
  · have qv : (v != 0) = true := bne_iff_ne.2 hv
    go_enter Tryd.func16, Tryd.ntmps16
    go_wp2_with fail
    go_ret
    exact ⟨by unfold oneOk opOk; simp [hv], ((Below.refl w.heap.size w).alloc (Nat.le_refl _) _).alloc (by simp) _⟩
  have qv : (v != 0) = false := by simp [hv]
  have HV := Lib.hid hv
  clear hv
  have OB := Lib.hid (one_box o o1 o2 o3 o4 q1 q2 q3 q4 c1 c2 c3 c4 d1 d2 d3 d4 10 d a b c v w)
  unfold oneW at OB
  have HE : Hid (oneOk o p ⟨10, d, a, b, c, v⟩ bh = (inB d 4000 && (inB a 4000 && (inB b 4000 && (c == 0))))) := Lib.hid (by simp [oneOk, opOk, onlyStep, oneD, oneA, oneB, oneC, beq_dec, HV.out])
  go_enter Tryd.func16, Tryd.ntmps16
  go_wp2_with fail
  obtain ⟨w2, hw2⟩ : ∃ w2, w2 = (w.alloc (.cells #[.slice o1 o.inn.length c1, .slice o2 o.out.length c2, .slice o3 o.state.length c3, .slice o4 o.mem.length c4, .int .i64 o.cross, .int .i64 o.flags, .slice q1 o.deriv.length d1, .slice q2 o.zero.length d2, .slice q3 o.step.length d3, .slice q4 o.at_.length d4] 29)).alloc (.cells #[.int .i64 10, .int .i64 d, .int .i64 a, .int .i64 b, .int .i64 c, .int .i64 v] 39) := ⟨_, rfl⟩
  rw [← hw2] at OB ⊢
  clear hw2
  have G1 := fun pr : Regrown => cell_regrown OB.out.y1 pr.d pr.os
  have G2 := fun pr : Regrown => cell_regrown OB.out.y2 pr.d pr.os
  have G3 := fun pr : Regrown => cell_regrown OB.out.y3 pr.d pr.os
  have G4 := fun pr : Regrown => cell_regrown OB.out.y4 pr.d pr.os
  refine wp_region_quiet_below (by kernel_rfl) (by kernel_rfl) ?_
  repeat (go_big_quiet_step (fail))
  refine wpQuiet_nil ?_
  intro w4 hw4
  have HB4 : Hid (OneBox o o1 o2 o3 o4 c1 c2 c3 c4 ⟨10, d, a, b, c, v⟩ w w4) := Lib.hid (by obtain ⟨pr, rfl⟩ := hw4; exact OB.out.on (below_regrown _ _ _))
  clear hw4 G1 G2 G3 G4
  obtain ⟨hb, x0, x1, x2, x3, x4, y1, y2, y3, y4⟩ := id HB4.out
  have HB := Lib.hid hb
  clear hb
  simp only at y1 y2 y3 y4
  go_upto_region 38 with (go_at_call 26; (with_reducible refine (in_any _ _ _).mono ?_); rintro e w9 ⟨rfl, rfl⟩)
  obtain ⟨D, hD⟩ : ∃ D, D = (inB d 4000) := ⟨_, rfl⟩
  obtain ⟨A, hA⟩ : ∃ A, A = (inB a 4000) := ⟨_, rfl⟩
  obtain ⟨B, hB⟩ : ∃ B, B = (inB b 4000) := ⟨_, rfl⟩
  obtain ⟨C, hC⟩ : ∃ C, C = ((c == 0)) := ⟨_, rfl⟩
  simp only [← hD, ← hA, ← hB, ← hC] at HE ⊢
  clear hD hA hB hC
  cases D <;> cases A <;> cases B <;> (go_wp2_with fail; go_ret; exact ⟨by rw [HE.out]; rfl, HB.out⟩)
set_option maxHeartbeats 16000000 in
set_option maxRecDepth 100000 in
theorem one_11 (o : Ob) (o1 o2 o3 o4 q1 q2 q3 q4 : Option Addr) (c1 c2 c3 c4 d1 d2 d3 d4 : Nat) (p : Nat) (d a b c v bh : Int) (w : World) :
    Calls Tryd.prog 16 #[obV o o1 o2 o3 o4 q1 q2 q3 q4 c1 c2 c3 c4 d1 d2 d3 d4, .int .i64 (p : Int), six0V 11 d a b c v, .int .i64 bh] w fun e w' => e = .returned (.bool (oneOk o p ⟨11, d, a, b, c, v⟩ bh)) ∧ Below w.heap.size w w' := by
  unfold obV six0V
  by_cases hv : v = 0
  rotate_left
  · have qv : (v != 0) = true := bne_iff_ne.2 hv
    go_enter Tryd.func16, Tryd.ntmps16
    go_wp2_with fail
    go_ret
    exact ⟨by unfold oneOk opOk; simp [hv], ((Below.refl w.heap.size w).alloc (Nat.le_refl _) _).alloc (by simp) _⟩
  have qv : (v != 0) = false := by simp [hv]
  have HV := Lib.hid hv
  clear hv
  have OB := Lib.hid (one_box o o1 o2 o3 o4 q1 q2 q3 q4 c1 c2 c3 c4 d1 d2 d3 d4 11 d a b c v w)
  unfold oneW at OB
  have HE : Hid (oneOk o p ⟨11, d, a, b, c, v⟩ bh = (inB d 4000 && (inB a 4000 && (inB b 4000 && (c == 0))))) := Lib.hid (by simp [oneOk, opOk, onlyStep, oneD, oneA, oneB, oneC, beq_dec, HV.out])
  go_enter Tryd.func16, Tryd.ntmps16
  go_wp2_with fail
  obtain ⟨w2, hw2⟩ : ∃ w2, w2 = (w.alloc (.cells #[.slice o1 o.inn.length c1, .slice o2 o.out.length c2, .slice o3 o.state.length c3, .slice o4 o.mem.length c4, .int .i64 o.cross, .int .i64 o.flags, .slice q1 o.deriv.length d1, .slice q2 o.zero.length d2, .slice q3 o.step.length d3, .slice q4 o.at_.length d4] 29)).alloc (.cells #[.int .i64 11, .int .i64 d, .int .i64 a, .int .i64 b, .int .i64 c, .int .i64 v] 39) := ⟨_, rfl⟩
  rw [← hw2] at OB ⊢
  clear hw2
  have G1 := fun pr : Regrown => cell_regrown OB.out.y1 pr.d pr.os
  have G2 := fun pr : Regrown => cell_regrown OB.out.y2 pr.d pr.os
  have G3 := fun pr : Regrown => cell_regrown OB.out.y3 pr.d pr.os
  have G4 := fun pr : Regrown => cell_regrown OB.out.y4 pr.d pr.os
  refine wp_region_quiet_below (by kernel_rfl) (by kernel_rfl) ?_
  repeat (go_big_quiet_step (fail))
  refine wpQuiet_nil ?_
  intro w4 hw4
  have HB4 : Hid (OneBox o o1 o2 o3 o4 c1 c2 c3 c4 ⟨11, d, a, b, c, v⟩ w w4) := Lib.hid (by obtain ⟨pr, rfl⟩ := hw4; exact OB.out.on (below_regrown _ _ _))
  clear hw4 G1 G2 G3 G4
  obtain ⟨hb, x0, x1, x2, x3, x4, y1, y2, y3, y4⟩ := id HB4.out
  have HB := Lib.hid hb
  clear hb
  simp only at y1 y2 y3 y4
  go_upto_region 38 with (go_at_call 26; (with_reducible refine (in_any _ _ _).mono ?_); rintro e w9 ⟨rfl, rfl⟩)
  obtain ⟨D, hD⟩ : ∃ D, D = (inB d 4000) := ⟨_, rfl⟩
  obtain ⟨A, hA⟩ : ∃ A, A = (inB a 4000) := ⟨_, rfl⟩
  obtain ⟨B, hB⟩ : ∃ B, B = (inB b 4000) := ⟨_, rfl⟩
  obtain ⟨C, hC⟩ : ∃ C, C = ((c == 0)) := ⟨_, rfl⟩
  simp only [← hD, ← hA, ← hB, ← hC] at HE ⊢
  clear hD hA hB hC
  cases D <;> cases A <;> cases B <;> (go_wp2_with fail; go_ret; exact ⟨by rw [HE.out]; rfl, HB.out⟩)
set_option maxHeartbeats 16000000 in
set_option maxRecDepth 100000 in
theorem one_12 (o : Ob) (o1 o2 o3 o4 q1 q2 q3 q4 : Option Addr) (c1 c2 c3 c4 d1 d2 d3 d4 : Nat) (p : Nat) (d a b c v bh : Int) (w : World) :
    Calls Tryd.prog 16 #[obV o o1 o2 o3 o4 q1 q2 q3 q4 c1 c2 c3 c4 d1 d2 d3 d4, .int .i64 (p : Int), six0V 12 d a b c v, .int .i64 bh] w fun e w' => e = .returned (.bool (oneOk o p ⟨12, d, a, b, c, v⟩ bh)) ∧ Below w.heap.size w w' := by
  unfold obV six0V
  by_cases hv : v = 0
  rotate_left
  · have qv : (v != 0) = true := bne_iff_ne.2 hv
    go_enter Tryd.func16, Tryd.ntmps16
    go_wp2_with fail
    go_ret
    exact ⟨by unfold oneOk opOk; simp [hv], ((Below.refl w.heap.size w).alloc (Nat.le_refl _) _).alloc (by simp) _⟩
  have qv : (v != 0) = false := by simp [hv]
  have HV := Lib.hid hv
  clear hv
  have OB := Lib.hid (one_box o o1 o2 o3 o4 q1 q2 q3 q4 c1 c2 c3 c4 d1 d2 d3 d4 12 d a b c v w)
  unfold oneW at OB
  have HE : Hid (oneOk o p ⟨12, d, a, b, c, v⟩ bh = (inB d 4000 && (inB a 4000 && (inB b 4000 && (c == 0))))) := Lib.hid (by simp [oneOk, opOk, onlyStep, oneD, oneA, oneB, oneC, beq_dec, HV.out])
  go_enter Tryd.func16, Tryd.ntmps16
  go_wp2_with fail
  obtain ⟨w2, hw2⟩ : ∃ w2, w2 = (w.alloc (.cells #[.slice o1 o.inn.length c1, .slice o2 o.out.length c2, .slice o3 o.state.length c3, .slice o4 o.mem.length c4, .int .i64 o.cross, .int .i64 o.flags, .slice q1 o.deriv.length d1, .slice q2 o.zero.length d2, .slice q3 o.step.length d3, .slice q4 o.at_.length d4] 29)).alloc (.cells #[.int .i64 12, .int .i64 d, .int .i64 a, .int .i64 b, .int .i64 c, .int .i64 v] 39) := ⟨_, rfl⟩
  rw [← hw2] at OB ⊢
  clear hw2
  have G1 := fun pr : Regrown => cell_regrown OB.out.y1 pr.d pr.os
  have G2 := fun pr : Regrown => cell_regrown OB.out.y2 pr.d pr.os
  have G3 := fun pr : Regrown => cell_regrown OB.out.y3 pr.d pr.os
  have G4 := fun pr : Regrown => cell_regrown OB.out.y4 pr.d pr.os
  refine wp_region_quiet_below (by kernel_rfl) (by kernel_rfl) ?_
  repeat (go_big_quiet_step (fail))
  refine wpQuiet_nil ?_
  intro w4 hw4
  have HB4 : Hid (OneBox o o1 o2 o3 o4 c1 c2 c3 c4 ⟨12, d, a, b, c, v⟩ w w4) := Lib.hid (by obtain ⟨pr, rfl⟩ := hw4; exact OB.out.on (below_regrown _ _ _))
  clear hw4 G1 G2 G3 G4
  obtain ⟨hb, x0, x1, x2, x3, x4, y1, y2, y3, y4⟩ := id HB4.out
  have HB := Lib.hid hb
  clear hb
  simp only at y1 y2 y3 y4
  go_upto_region 38 with (go_at_call 26; (with_reducible refine (in_any _ _ _).mono ?_); rintro e w9 ⟨rfl, rfl⟩)
  obtain ⟨D, hD⟩ : ∃ D, D = (inB d 4000) := ⟨_, rfl⟩
  obtain ⟨A, hA⟩ : ∃ A, A = (inB a 4000) := ⟨_, rfl⟩
  obtain ⟨B, hB⟩ : ∃ B, B = (inB b 4000) := ⟨_, rfl⟩
  obtain ⟨C, hC⟩ : ∃ C, C = ((c == 0)) := ⟨_, rfl⟩
  simp only [← hD, ← hA, ← hB, ← hC] at HE ⊢
  clear hD hA hB hC
  cases D <;> cases A <;> cases B <;> (go_wp2_with fail; go_ret; exact ⟨by rw [HE.out]; rfl, HB.out⟩)
end Go.Proofs.YtceadfkjknjaoaaDoor
