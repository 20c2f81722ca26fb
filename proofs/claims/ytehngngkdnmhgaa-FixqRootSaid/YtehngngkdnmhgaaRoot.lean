/- FixqRoot, walked at any number. -/
import Derived.Test.YtehngngkdnmhgaaRoots
namespace Go.Proofs.Ytehngngkdnmhgaa
open Go.RowKit

set_option maxHeartbeats 4000000 in
theorem root_any (a : Int) (w : World) (ha : fits a) :
    Calls Try.prog 8 #[.int .i64 a] w fun e w' => e = .returned (.bool true) ∧ Below w.heap.size w w' := by
  by_cases h0 : a < 0
  · have hd : decide (a < 0) = true := decide_eq_true h0
    clear ha
    go_enter Try.func8, Try.ntmps8
    go_wp2_with (go_at_call 10; refine (alive_any _).mono ?_; rintro e w' ⟨rfl, q, rfl⟩)
    go_ret
    exact ⟨rfl, below_drewN (Below.refl _ w) _⟩
  · obtain ⟨k, rfl⟩ := Int.eq_ofNat_of_zero_le (show 0 ≤ a by omega)
    have hk : (k : Int) ≤ 9223372036854775807 := ha.2
    have sq := fun w => sqrt_any (k : Int) w (by omega) hk
    rw [show ((k : Int)).toNat * 4294967296 = 4294967296 * k by omega] at sq
    obtain ⟨s1, s2⟩ := isqrt_spec (4294967296 * k)
    have hsm : isqrt (4294967296 * k) < 281474976710656 := by
      refine Nat.lt_of_not_le fun hge => ?_
      have h2 := Nat.mul_le_mul hge hge
      omega
    obtain ⟨n, hn⟩ : ∃ n : Nat, n = 4294967296 * k := ⟨_, rfl⟩
    rw [← hn] at s1 s2 hsm sq
    generalize isqrt n = r at *
    have r1 : (r : Int) ≤ 281474976710655 := by omega
    have r2 : (r : Int) ≤ 9223372036854775807 := by omega
    have r3 : ((r + 1 : Nat) : Int) ≤ 9223372036854775807 := by omega
    have r4 : ((r : Int) + 1) = ((r + 1 : Nat) : Int) := by omega
    have OR := fun w => of_nat (r + 1) w r3
    rw [← r4] at OR
    have SQ := Lib.hid sq; have NE := Lib.hid hn; have O1 := Lib.hid OR
    have C1 := Lib.hid (show cmpV (r * r) n ≤ 0 by unfold cmpV; split; omega; rw [if_neg (by omega)]; omega)
    have C2 := Lib.hid (show 0 < cmpV ((r + 1) * (r + 1)) n by unfold cmpV; rw [if_neg (by omega), if_pos (by omega)]; omega)
    have hd : decide ((k : Int) < 0) = false := decide_eq_false h0
    have hfield := fieldL
    clear ha sq hn s1 s2 hsm h0 OR r3 r4
    have tok1 : True := trivial
    have tok2 : True := trivial
    go_enter Try.func8, Try.ntmps8
    go_wp2_with (first
      | (go_at_call 10; refine (alive_any _).mono ?_; rintro e w' ⟨rfl, q, rfl⟩)
      | (go_at_call 19; (with_reducible refine (SQ.out _).mono ?_); rintro e w' ⟨rfl, rfl⟩)
      | (go_at_call 18; (with_reducible refine (of_nat k _ hk).mono ?_); rintro e w1 ⟨A1, c1, z1, rfl, hr, hq, hw⟩; have L1 := Lib.hid (show z1.length ≤ 1000 from Nat.le_trans hq.2 (by omega)); have R1 := Lib.hid hr; have Q1 := Lib.hid hq.1; have B1 := Lib.hid (chain (below_drewN (Below.refl _ w) _) hw); clear hr hq hw)
      | (go_at_call 27; (with_reducible refine (up_ref A1 c1 z1 false _ R1.out L1.out).mono ?_); rintro e w2 ⟨A2, c2, z2, rfl, hr, hq, hw⟩; have R2 := Lib.hid hr; have Q2 := Lib.hid (show val z2 = n by (rw [hq.1, Q1.out, NE.out])); have B2 := Lib.hid (chain B1.out hw); clear hr hq hw)
      | (go_at_call 18; have _k := tok1; clear tok1 _k; (with_reducible refine (of_nat r _ r2).mono ?_); rintro e w3 ⟨A3, c3, z3, rfl, hr, hq, hw⟩; have L3 := Lib.hid (show z3.length ≤ 1000 from Nat.le_trans hq.2 (by omega)); have R3 := Lib.hid hr; have Q3 := Lib.hid hq.1; have B3 := Lib.hid (chain B2.out hw); have R23 := Lib.hid (rb_below R2.out hw); clear hr hq hw)
      | (go_at_call 18; (with_reducible refine (of_nat r _ r2).mono ?_); rintro e w4 ⟨A4, c4, z4, rfl, hr, hq, hw⟩; have L4 := Lib.hid (show z4.length ≤ 1000 from Nat.le_trans hq.2 (by omega)); have R4 := Lib.hid hr; have Q4 := Lib.hid hq.1; have B4 := Lib.hid (chain B3.out hw); have R24 := Lib.hid (rb_below R23.out hw); have R34 := Lib.hid (rb_below R3.out hw); clear hr hq hw)
      | (go_at_call 29; (with_reducible refine (mul_ref A3 A4 c3 c4 z3 z4 false false _ R34.out R4.out L3.out L4.out).mono ?_); rintro e w5 ⟨A5, c5, z5, rfl, hr, hq, hw⟩; have R5 := Lib.hid hr; have Q5 := Lib.hid (show val z5 = r * r by (rw [hq.1, Q3.out, Q4.out])); have B5 := Lib.hid (chain B4.out hw); have R25 := Lib.hid (rb_below R24.out hw); clear hr hq hw)
      | (go_at_call 28; (with_reducible refine (cmp_at A5 A2 c5 c2 z5 z2 (r * r) n _ R5.out R25.out Q5.out Q2.out).mono ?_); rintro e w6 ⟨rfl, q6, rfl⟩; have D1 := C1.out; have R26 := Lib.hid (rb_drewN R25.out q6); have B6 := Lib.hid (below_drewN B5.out q6))
      | (go_at_call 18; have _k := tok2; clear tok2 _k; (with_reducible refine (O1.out _).mono ?_); rintro e w7 ⟨A7, c7, z7, rfl, hr, hq, hw⟩; have L7 := Lib.hid (show z7.length ≤ 1000 from Nat.le_trans hq.2 (by omega)); have R7 := Lib.hid hr; have Q7 := Lib.hid hq.1; have B7 := Lib.hid (chain B6.out hw); have R27 := Lib.hid (rb_below R26.out hw); clear hr hq hw)
      | (go_at_call 18; (with_reducible refine (O1.out _).mono ?_); rintro e w8 ⟨A8, c8, z8, rfl, hr, hq, hw⟩; have L8 := Lib.hid (show z8.length ≤ 1000 from Nat.le_trans hq.2 (by omega)); have R8 := Lib.hid hr; have Q8 := Lib.hid hq.1; have B8 := Lib.hid (chain B7.out hw); have R28 := Lib.hid (rb_below R27.out hw); have R78 := Lib.hid (rb_below R7.out hw); clear hr hq hw)
      | (go_at_call 29; (with_reducible refine (mul_ref A7 A8 c7 c8 z7 z8 false false _ R78.out R8.out L7.out L8.out).mono ?_); rintro e w9 ⟨A9, c9, z9, rfl, hr, hq, hw⟩; have R9 := Lib.hid hr; have Q9 := Lib.hid (show val z9 = (r + 1) * (r + 1) by (rw [hq.1, Q7.out, Q8.out])); have B9 := Lib.hid (chain B8.out hw); have R29 := Lib.hid (rb_below R28.out hw); clear hr hq hw)
      | (go_at_call 28; (with_reducible refine (cmp_at A9 A2 c9 c2 z9 z2 ((r + 1) * (r + 1)) n _ R9.out R29.out Q9.out Q2.out).mono ?_); rintro e w10 ⟨rfl, q10, rfl⟩; have D2 := C2.out))
    go_ret
    exact ⟨rfl, below_drewN B9.out _⟩
end Go.Proofs.Ytehngngkdnmhgaa
