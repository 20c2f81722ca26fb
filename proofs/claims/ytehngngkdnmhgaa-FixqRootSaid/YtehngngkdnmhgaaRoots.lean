/- FixqRoots, walked at any number. -/
import Derived.Test.YtehngngkdnmhgaaRefSqrt
import Derived.Test.YtehngngkdnmhgaaSums
namespace Go.Proofs.Ytehngngkdnmhgaa
open Go.RowKit

set_option maxHeartbeats 2000000 in
theorem roots_any (a : Int) (w : World) (ha : fits a) :
    Calls Try.prog 4 #[.int .i64 a] w fun e w' => e = .returned (.bool true) ∧ Below w.heap.size w w' := by
  have AB := fun w => abs_any a w ha
  by_cases h0 : a < 0
  · have FA := Lib.hid ha
    have SQ := Lib.hid fun w => sqrt_below a w h0
    have HF := Lib.hid fun w => half_any a w ha
    rw [if_pos h0, if_pos h0] at AB
    have AH := Lib.hid AB
    have hd : decide (a < 0) = true := decide_eq_true h0
    have lo : -9223372036854775808 ≤ a := ha.1
    clear AB ha
    go_enter Try.func4, Try.ntmps4
    go_wp2_with (first
      | (go_at_call 10; refine (alive_any _).mono ?_; rintro e w' ⟨rfl, q, rfl⟩)
      | (go_at_call 19; (with_reducible refine (SQ.out _).mono ?_); rintro e w' ⟨rfl, rfl⟩)
      | (go_at_call 20; (with_reducible refine (AH.out _).mono ?_); rintro e w' ⟨rfl, rfl⟩)
      | (go_at_call 21; (with_reducible refine (HF.out _).mono ?_); rintro e w' ⟨rfl, rfl⟩)
      | (go_at_call 18; (with_reducible refine (of_any a _ FA.out).mono ?_); rintro e w3 ⟨A1, c1, z1, rfl, hr, hq, hw⟩; have N1 := Lib.hid (show z1.length ≤ 1000000 from Nat.le_trans hq.2 (by omega)); have R1 := Lib.hid hr; have Q1 := Lib.hid hq; have B3 := Lib.hid hw; clear hr hq hw)
      | (go_at_call 17; (with_reducible refine (neg_ref A1 c1 z1 _ _ R1.out).mono ?_); rintro e w4 ⟨A5, c5, z5, rfl, hr, rfl, hw⟩; have HD := Lib.hid (fun s (hs : s = (!decide (a < 0))) => held_at A5 c5 z5 s (-a) _ hr N1.out (by rw [hs, Q1.out.1, sval_neg, sval_abs])); have B4 := Lib.hid hw; clear hr hw)
      | (go_at_call 16; refine (HD.out _ (by rw [decide_eq_true (by assumption)]; rfl)).mono ?_; rintro e w5 ⟨rfl, hw⟩; have B5 := Lib.hid hw; clear hw))
    go_ret
    exact ⟨rfl, chain (chain (chain (below_drewN (Below.refl _ w) _) B3.out) B4.out) B5.out⟩
  · obtain ⟨k, rfl⟩ := Int.eq_ofNat_of_zero_le (show 0 ≤ a by omega)
    have hk : (k : Int) ≤ 9223372036854775807 := ha.2
    have sq := fun w => sqrt_any (k : Int) w (by omega) hk
    have hf := fun w => half_any (k : Int) w ha
    rw [if_neg h0, if_neg h0] at AB
    rw [show ((k : Int)).toNat * 4294967296 = 4294967296 * k by omega] at sq
    rw [show ((k : Int)).tdiv 2 = (k : Int) / 2 from Int.tdiv_eq_ediv_of_nonneg (by omega)] at hf
    have sr := fun w => sqrt_ref k (4294967296 * k) w hk rfl
    obtain ⟨r, hr⟩ : ∃ r : Nat, r = isqrt (4294967296 * k) := ⟨_, rfl⟩
    rw [← hr] at sq sr
    have AH := Lib.hid AB; have SQ := Lib.hid sq; have HF := Lib.hid hf; have SR := Lib.hid sr
    have hd : decide ((k : Int) < 0) = false := decide_eq_false h0
    clear AB ha sq hf sr hr h0
    go_enter Try.func4, Try.ntmps4
    go_wp2_with (first
      | (go_at_call 10; refine (alive_any _).mono ?_; rintro e w' ⟨rfl, q, rfl⟩)
      | (go_at_call 19; (with_reducible refine (SQ.out _).mono ?_); rintro e w' ⟨rfl, rfl⟩)
      | (go_at_call 20; (with_reducible refine (AH.out _).mono ?_); rintro e w' ⟨rfl, rfl⟩)
      | (go_at_call 21; (with_reducible refine (HF.out _).mono ?_); rintro e w' ⟨rfl, rfl⟩)
      | (go_at_call 22; (with_reducible refine (SR.out _).mono ?_); rintro e w3 ⟨rfl, hw⟩; have B3 := Lib.hid hw; clear hw))
    go_ret
    exact ⟨rfl, chain (below_drewN (Below.refl _ w) _) B3.out⟩
end Go.Proofs.Ytehngngkdnmhgaa
