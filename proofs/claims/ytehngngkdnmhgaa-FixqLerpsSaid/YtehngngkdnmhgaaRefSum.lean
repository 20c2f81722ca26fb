/- What the reference's Sum and Diff answer: the sum and the difference, held. -/
import Derived.Test.YtehngngkdnmhgaaRefHeld
namespace Go.Proofs.Ytehngngkdnmhgaa
open Go.RowKit

theorem sval_abs (a : Int) : sval (decide (a < 0)) a.natAbs = a := by
  unfold sval
  by_cases h : a < 0
  · simp [h]; omega
  · simp [h]; omega
theorem sval_neg (s : Bool) (n : Nat) : sval (!s) n = -sval s n := by unfold sval; cases s <;> simp
set_option maxHeartbeats 1000000 in
theorem sum_ref (a b : Int) (w : World) (ha : fits a) (hb : fits b) :
    Calls Try.prog 14 #[.int .i64 a, .int .i64 b] w fun e w' => HeldPost (a + b) w e w' := by
  have FA := Lib.hid ha; have FB := Lib.hid hb
  clear ha hb
  go_enter Try.func14, Try.ntmps14
  go_wp2_with (first
    | (go_at_call 18; (with_reducible refine (of_any a _ FA.out).mono ?_); rintro e w1 ⟨A1, c1, z1, rfl, hr, hq, hw⟩; have N1 := Lib.hid (show z1.length ≤ 100000 from Nat.le_trans hq.2 (by omega)); have R1 := Lib.hid hr; have Q1 := Lib.hid hq; have B1 := Lib.hid hw; clear hr hq hw)
    | (go_at_call 18; (with_reducible refine (of_any b _ FB.out).mono ?_); rintro e w2 ⟨A2, c2, z2, rfl, hr, hq, hw⟩; have N2 := Lib.hid (show z2.length ≤ 100000 from Nat.le_trans hq.2 (by omega)); have R2 := Lib.hid hr; have Q2 := Lib.hid hq; have R1' := Lib.hid (rb_below R1.out hw); have B2 := Lib.hid hw; clear hr hq hw)
    | (go_at_call 31; (with_reducible refine (add_ref A1 A2 c1 c2 z1 z2 _ _ _ R1'.out R2.out N1.out N2.out).mono ?_); rintro e w3 ⟨A3, c3, z3, s3, rfl, hr, hq, hw⟩; have N3 := Lib.hid (show z3.length ≤ 1000000 from Nat.le_trans hq.2 (by have := N1.out; have := N2.out; omega)); have R3 := Lib.hid hr; have Q3 := Lib.hid hq; have B3 := Lib.hid hw; clear hr hq hw)
    | (go_at_call 16; (with_reducible refine (held_ref A3 c3 z3 s3 _ R3.out N3.out).mono ?_); rintro e w4 ⟨rfl, hw⟩; have B4 := Lib.hid hw; clear hw))
  go_ret2
  have e1 : sval s3 (val z3) = a + b := by rw [Q3.out.1, Q1.out.1, Q2.out.1, sval_abs, sval_abs]
  rw [e1]
  exact ⟨rfl, B1.out.trans ((B2.out.mono B1.out.size).trans ((B3.out.mono (Nat.le_trans B1.out.size B2.out.size)).trans (B4.out.mono (Nat.le_trans B1.out.size (Nat.le_trans B2.out.size B3.out.size)))))⟩
set_option maxHeartbeats 1000000 in
theorem diff_ref (a b : Int) (w : World) (ha : fits a) (hb : fits b) :
    Calls Try.prog 15 #[.int .i64 a, .int .i64 b] w fun e w' => HeldPost (a - b) w e w' := by
  have FA := Lib.hid ha; have FB := Lib.hid hb
  clear ha hb
  go_enter Try.func15, Try.ntmps15
  go_wp2_with (first
    | (go_at_call 18; (with_reducible refine (of_any a _ FA.out).mono ?_); rintro e w1 ⟨A1, c1, z1, rfl, hr, hq, hw⟩; have N1 := Lib.hid (show z1.length ≤ 100000 from Nat.le_trans hq.2 (by omega)); have R1 := Lib.hid hr; have Q1 := Lib.hid hq; have B1 := Lib.hid hw; clear hr hq hw)
    | (go_at_call 18; (with_reducible refine (of_any b _ FB.out).mono ?_); rintro e w2 ⟨A2, c2, z2, rfl, hr, hq, hw⟩; have N2 := Lib.hid (show z2.length ≤ 100000 from Nat.le_trans hq.2 (by omega)); have R2 := Lib.hid hr; have Q2 := Lib.hid hq; have R1' := Lib.hid (rb_below R1.out hw); have B2 := Lib.hid hw; clear hr hq hw)
    | (go_at_call 17; (with_reducible refine (neg_ref A2 c2 z2 _ _ R2.out).mono ?_); rintro e w5 ⟨A5, c5, z5, rfl, hr, rfl, hw⟩; have R5 := Lib.hid hr; have R1'' := Lib.hid (rb_below R1'.out hw); have B5 := Lib.hid hw; clear hr hw)
    | (go_at_call 31; (with_reducible refine (add_ref A1 A5 c1 c5 z1 z5 _ _ _ R1''.out R5.out N1.out N2.out).mono ?_); rintro e w3 ⟨A3, c3, z3, s3, rfl, hr, hq, hw⟩; have N3 := Lib.hid (show z3.length ≤ 1000000 from Nat.le_trans hq.2 (by have := N1.out; have := N2.out; omega)); have R3 := Lib.hid hr; have Q3 := Lib.hid hq; have B3 := Lib.hid hw; clear hr hq hw)
    | (go_at_call 16; (with_reducible refine (held_ref A3 c3 z3 s3 _ R3.out N3.out).mono ?_); rintro e w4 ⟨rfl, hw⟩; have B4 := Lib.hid hw; clear hw))
  go_ret2
  have e1 : sval s3 (val z3) = a - b := by rw [Q3.out.1, Q1.out.1, Q2.out.1, sval_abs, sval_neg, sval_abs]; omega
  rw [e1]
  exact ⟨rfl, B1.out.trans ((B2.out.mono B1.out.size).trans ((B5.out.mono (Nat.le_trans B1.out.size B2.out.size)).trans ((B3.out.mono (Nat.le_trans B1.out.size (Nat.le_trans B2.out.size B5.out.size))).trans (B4.out.mono (Nat.le_trans B1.out.size (Nat.le_trans B2.out.size (Nat.le_trans B5.out.size B3.out.size)))))))⟩
end Go.Proofs.Ytehngngkdnmhgaa
