/- FixqLerps, walked at any numbers. -/
import Derived.Test.YtehngngkdnmhgaaRefLerp
namespace Go.Proofs.Ytehngngkdnmhgaa
open Go.RowKit

theorem flag_sum {x y z : Int} (hx : x = 0 ∨ x = 1) (hy : y = 0 ∨ y = 1) (hz : z = 0 ∨ z = 1) : (if decide (0 < x + y + z) then (1 : Int) else 0) = orf (orf x y) z := by
  rcases hx with rfl | rfl <;> rcases hy with rfl | rfl <;> rcases hz with rfl | rfl <;> decide
theorem over_ge (x : Int) : 0 ≤ over x := by rcases over_01 x with h | h <;> omega
theorem over_le (x : Int) : over x ≤ 1 := by rcases over_01 x with h | h <;> omega
theorem lerp_ref (a b m k : Int) (w : World) (ha : fits a) (hb : fits b) :
    Calls Try.prog 24 #[.int .i64 a, .int .i64 b, .int .i64 m, .int .i64 k] w fun e w' => Pair (lerpX a b m k) (lerpF a b m k) w e w' := by
  have hd : fits (held (b - a)) := held_fits (b - a)
  have hway := held_fits (wayOf (held (b - a)) (lerpP m (lerpK k)) (lerpK k))
  have hs : sval (decide (held (b - a) < 0)) ((held (b - a)).natAbs * lerpP m (lerpK k) / 2 ^ lerpK k) = wayOf (held (b - a)) (lerpP m (lerpK k)) (lerpK k) := by
    have h := signed_mul (held (b - a)) (lerpP m (lerpK k) : Int) (2 ^ lerpK k)
    have hz : decide (((lerpP m (lerpK k) : Nat) : Int) < 0) = false := decide_eq_false (by omega)
    rw [hz, Int.natAbs_natCast] at h
    unfold wayOf
    rw [← h]
    cases decide (held (b - a) < 0) <;> rfl
  have RD := Lib.hid fun w => diff_ref b a w hb ha
  have OD := Lib.hid fun w => of_any (held (b - a)) w hd
  have RS := Lib.hid fun w => sum_ref a (held (wayOf (held (b - a)) (lerpP m (lerpK k)) (lerpK k))) w ha hway
  have HE : ∀ A c xs w, RB w A c xs → xs.length ≤ 1000000 → val xs = (held (b - a)).natAbs * lerpP m (lerpK k) / 2 ^ lerpK k →
      Calls Try.prog 16 #[.agg #[.slice A xs.length c, .bool (decide (held (b - a) < 0))]] w fun e w' =>
        Pair (held (wayOf (held (b - a)) (lerpP m (lerpK k)) (lerpK k))) (over (wayOf (held (b - a)) (lerpP m (lerpK k)) (lerpK k))) w e w' :=
    fun A c xs w h1 h2 h3 => held_at A c xs _ _ w h1 h2 (by rw [h3, hs])
  have fl := flag_sum (over_01 (b - a)) (over_01 (wayOf (held (b - a)) (lerpP m (lerpK k)) (lerpK k))) (over_01 (a + held (wayOf (held (b - a)) (lerpP m (lerpK k)) (lerpK k))))
  unfold lerpF lerpX
  rw [← fl]
  by_cases h1 : k < 0
  · have hK : lerpK k = 0 := by unfold lerpK; omega
    rw [hK] at RS HE ⊢
    exact lerp_ref_neg a b m _ _ _ _ _ _ _ _ _ _ k (decide_eq_true h1) w RD OD RS (Lib.hid HE) (Lib.hid rfl) (over_ge _) (over_le _) (over_ge _) (over_le _) (over_ge _) (over_le _) rfl
  · by_cases h2 : 32 < k
    · have hK : lerpK k = 32 := by unfold lerpK; omega
      rw [hK] at RS HE ⊢
      exact lerp_ref_big a b m _ _ _ _ _ _ _ _ _ _ k (decide_eq_false h1) (decide_eq_true h2) w RD OD RS (Lib.hid HE) (Lib.hid rfl) (over_ge _) (over_le _) (over_ge _) (over_le _) (over_ge _) (over_le _) rfl
    · obtain ⟨K, rfl⟩ := Int.eq_ofNat_of_zero_le (show 0 ≤ k by omega)
      have hK : lerpK (K : Int) = K := by unfold lerpK; omega
      rw [hK] at RS HE ⊢
      exact lerp_ref_mid a b m _ _ _ _ _ _ _ _ _ _ K (by omega) w RD OD RS (Lib.hid HE) (Lib.hid rfl) (over_ge _) (over_le _) (over_ge _) (over_le _) (over_ge _) (over_le _) rfl
theorem lerp_start {a b : Int} (k : Int) (ha : fits a) : lerpX a b 0 k = a := by
  have hP : lerpP 0 (lerpK k) = 0 := by
    unfold lerpP
    have h : (2 : Int) ^ lerpK k = ((2 ^ lerpK k : Nat) : Int) := by simp
    rw [h]; omega
  unfold lerpX
  rw [hP]
  have hw : wayOf (held (b - a)) 0 (lerpK k) = 0 := by unfold wayOf; simp
  rw [hw, held_in (x := 0) (by omega) (by omega), Int.add_zero, held_in ha.1 ha.2]
theorem lerp_whole {a b : Int} (k : Int) (hb : fits b) (ho : over (b - a) = 0) : lerpX a b 4294967296 k = b := by
  have hf : -9223372036854775808 ≤ b - a ∧ b - a ≤ 9223372036854775807 := by
    unfold over at ho
    split at ho
    · cases ho
    · omega
  have hpow := pow_le32 (lerpK_le k)
  have hp := Nat.pow_pos (n := lerpK k) (show 0 < 2 by omega)
  have hP : lerpP 4294967296 (lerpK k) = 2 ^ lerpK k := by
    unfold lerpP
    have h : (2 : Int) ^ lerpK k = ((2 ^ lerpK k : Nat) : Int) := by simp
    rw [h]
    generalize 2 ^ lerpK k = q at *
    omega
  unfold lerpX
  rw [hP, held_in hf.1 hf.2]
  have hw : wayOf (b - a) (2 ^ lerpK k) (lerpK k) = b - a := by
    unfold wayOf
    exact Int.mul_tdiv_cancel _ (by omega)
  rw [hw, held_in hf.1 hf.2]
  have e : a + (b - a) = b := by omega
  rw [e, held_in hb.1 hb.2]
set_option maxHeartbeats 4000000 in
theorem lerps_any (a b m k : Int) (w : World) (ha : fits a) (hb : fits b) :
    Calls Try.prog 5 #[.int .i64 a, .int .i64 b, .int .i64 m, .int .i64 k] w fun e w' => e = .returned (.bool true) ∧ Below w.heap.size w w' := by
  have LE := Lib.hid fun w => lerp_any a b m k w ha hb
  have LR := Lib.hid fun w => lerp_ref a b m k w ha hb
  have RD := Lib.hid fun w => diff_ref b a w hb ha
  by_cases ho : over (b - a) = 0
  · have l1 := fun w => lerp_any a b 0 k w ha hb
    have l2 := fun w => lerp_any a b 4294967296 k w ha hb
    rw [lerp_start k ha] at l1
    rw [lerp_whole k hb ho] at l2
    have L1 := Lib.hid l1; have L2 := Lib.hid l2
    have o0 : (over (b - a) != 0) = false := by rw [ho]; rfl
    have OO := Lib.hid ho
    clear l1 l2 ha hb ho
    generalize lerpX a b m k = X at *
    generalize lerpF a b m k = F at *
    generalize lerpF a b 0 k = F1 at *
    generalize lerpF a b 4294967296 k = F2 at *
    have tok : True := trivial
    go_enter Try.func5, Try.ntmps5
    go_wp2_with (first
      | (go_at_call 10; refine (alive_any _).mono ?_; rintro e w' ⟨rfl, q, rfl⟩)
      | (go_at_call 23; have _k := tok; clear tok _k; (with_reducible refine (LE.out _).mono ?_); rintro e w1 ⟨rfl, hw⟩; have B1 := Lib.hid (chain (below_drewN (Below.refl _ w) _) hw); clear hw)
      | (go_at_call 24; (with_reducible refine (LR.out _).mono ?_); rintro e w2 ⟨rfl, hw⟩; have B2 := Lib.hid (chain B1.out hw); clear hw)
      | (go_at_call 15; (with_reducible refine (RD.out _).mono ?_); rintro e w3 ⟨rfl, hw⟩; have B3 := Lib.hid (chain B2.out hw); clear hw)
      | (go_at_call 23; (with_reducible refine (L1.out _).mono ?_); rintro e w4 ⟨rfl, hw⟩; have B4 := Lib.hid (chain B3.out hw); clear hw)
      | (go_at_call 23; (with_reducible refine (L2.out _).mono ?_); rintro e w5 ⟨rfl, hw⟩; have B5 := Lib.hid (chain B4.out hw); clear hw))
    go_ret
    exact ⟨rfl, B5.out⟩
  · have o0 : (over (b - a) != 0) = true := bne_iff_ne.2 ho
    clear ha hb ho
    generalize lerpX a b m k = X at *
    generalize lerpF a b m k = F at *
    go_enter Try.func5, Try.ntmps5
    go_wp2_with (first
      | (go_at_call 10; refine (alive_any _).mono ?_; rintro e w' ⟨rfl, q, rfl⟩)
      | (go_at_call 23; (with_reducible refine (LE.out _).mono ?_); rintro e w1 ⟨rfl, hw⟩; have B1 := Lib.hid (chain (below_drewN (Below.refl _ w) _) hw); clear hw)
      | (go_at_call 24; (with_reducible refine (LR.out _).mono ?_); rintro e w2 ⟨rfl, hw⟩; have B2 := Lib.hid (chain B1.out hw); clear hw)
      | (go_at_call 15; (with_reducible refine (RD.out _).mono ?_); rintro e w3 ⟨rfl, hw⟩; have B3 := Lib.hid (chain B2.out hw); clear hw))
    go_ret
    exact ⟨rfl, B3.out⟩
end Go.Proofs.Ytehngngkdnmhgaa
