/- What the reference's Lerp answers at any numbers: what package fixq's does. -/
import Derived.Test.YtehngngkdnmhgaaRefDown
import Derived.Test.YtehngngkdnmhgaaRefSqrt
import Derived.Test.YtehngngkdnmhgaaSums
import Derived.Test.YtehngngkdnmhgaaLerp
namespace Go.Proofs.Ytehngngkdnmhgaa
open Go.RowKit

theorem mul_pos (A B : Option Addr) (c d : Nat) (xs ys : List Bool) (s : Bool) (w : World) (hx : RB w A c xs) (hy : RB w B d ys) (lx : xs.length ≤ 1000) (ly : ys.length ≤ 1000) :
    Calls Try.prog 29 #[.agg #[.slice A xs.length c, .bool s], .agg #[.slice B ys.length d, .bool false]] w fun e w' => BigPost s (MulQ (val xs * val ys) (xs.length + 2 * ys.length)) w e w' := by
  have h := mul_ref A B c d xs ys s false w hx hy lx ly
  rw [show (s != false) = s by cases s <;> rfl] at h
  exact h
/-- two answers, and a world where what was there is as it was -/
def Pair (x y : Int) (w : World) (e : Ending) (w' : World) : Prop := e = .returned (.tuple #[.int .i64 x, .int .i64 y]) ∧ Below w.heap.size w w'

set_option maxHeartbeats 8000000 in
theorem lerp_ref_mid (a b m D F1 T F2 X F3 : Int) (sd bo : Bool) (nd P : Nat) (K : Nat) (hK : (K : Int) ≤ 32) (w : World)
    (RD : Hid (∀ w, Calls Try.prog 15 #[.int .i64 b, .int .i64 a] w fun e w' => Pair D F1 w e w'))
    (OD : Hid (∀ w, Calls Try.prog 18 #[.int .i64 D] w fun e w' => BigPost sd (OfQ nd) w e w'))
    (RS : Hid (∀ w, Calls Try.prog 14 #[.int .i64 a, .int .i64 T] w fun e w' => Pair X F3 w e w'))
    (HE : Hid (∀ A c xs w, RB w A c xs → xs.length ≤ 1000000 → val xs = nd * P / 2 ^ K → Calls Try.prog 16 #[.agg #[.slice A xs.length c, .bool sd]] w fun e w' => Pair T F2 w e w'))
    (hP : Hid (P = lerpP m K)) (u1 : 0 ≤ F1) (v1 : F1 ≤ 1) (u2 : 0 ≤ F2) (v2 : F2 ≤ 1) (u3 : 0 ≤ F3) (v3 : F3 ≤ 1) (hbo : decide (0 < F1 + F2 + F3) = bo) :
    Calls Try.prog 24 #[.int .i64 a, .int .i64 b, .int .i64 m, .int .i64 (K : Int)] w fun e w' => Pair X (if bo then 1 else 0) w e w' := by
  go_enter Try.func24, Try.ntmps24
  go_wp2_with fail
  go_loop [11, 10] (fun i p => ∃ κ π : Nat, κ ≤ K ∧ Hid (π = 2 ^ κ) ∧ (π : Int) ≤ 4294967296 ∧ i = .int .i64 κ ∧ p = .int .i64 π) (fun i _ => K - (intOf i).toNat)
  case atStart => exact ⟨0, 1, Nat.zero_le _, Lib.hid rfl, by omega, rfl, rfl⟩
  case round =>
    obtain ⟨κ, π, hκ, hπ, hπ2, rfl, rfl⟩ := hrel
    by_cases hlt : κ < K
    · have z1 : decide (κ < K) = true := decide_eq_true hlt
      have z2 : (κ : Int) < (K : Int) := by omega
      have hπ3 : 2 * π = 2 ^ (κ + 1) := by rw [hπ.out, Nat.pow_succ, Nat.mul_comm]
      have hle : 2 ^ (κ + 1) ≤ 2 ^ 32 := Nat.pow_le_pow_right (by omega) (by omega)
      have hπ4 : 2 * (π : Int) ≤ 4294967296 := by rw [← hπ3] at hle; omega
      have P3 := Lib.hid hπ3
      have hκ32 : (κ : Int) ≤ 32 := by omega
      clear hπ3 hle
      go_wp2_with fail
      go_round
      case rel => exact ⟨κ + 1, 2 * π, by omega, P3, by omega, rfl, congrArg (Value.int .i64) (by omega)⟩
      case measure => simp [intOf]; omega
    · have hκ3 : K = κ := by omega
      subst hκ3
      have z1 : decide (K < K) = false := by simp
      have hπ1 : 1 ≤ (π : Int) := by have h1 := hπ.out; have h2 := Nat.pow_pos (n := K) (show 0 < 2 by omega); omega
      have part : ∃ pv : Int, (∀ w, Calls Try.prog 18 #[.int .i64 pv] w fun e w' => BigPost false (OfQ P) w e w') ∧
          ((m < 0 ∧ pv = 0) ∨ (0 ≤ m ∧ (π : Int) < m ∧ pv = π) ∨ (0 ≤ m ∧ m ≤ (π : Int) ∧ pv = m)) := by
        have hp : P = (min (max m 0) (π : Int)).toNat := by rw [hP.out]; unfold lerpP; rw [hπ.out]; simp
        by_cases h1 : m < 0
        · refine ⟨0, ?_, .inl ⟨h1, rfl⟩⟩
          obtain rfl : P = 0 := by omega
          exact fun w => of_nat 0 w (by omega)
        · by_cases h2 : (π : Int) < m
          · refine ⟨π, ?_, .inr (.inl ⟨by omega, h2, rfl⟩)⟩
            obtain rfl : P = π := by omega
            exact fun w => of_nat P w (by omega)
          · refine ⟨m, ?_, .inr (.inr ⟨by omega, by omega, rfl⟩)⟩
            obtain ⟨M, rfl⟩ := Int.eq_ofNat_of_zero_le (show 0 ≤ m by omega)
            obtain rfl : P = M := by omega
            exact fun w => of_nat P w (by omega)
      obtain ⟨pv, hop, hcase⟩ := part
      have OP := Lib.hid hop
      clear hop hlt
      rcases hcase with ⟨h1, rfl⟩ | ⟨h1, h2, rfl⟩ | ⟨h1, h2, rfl⟩
      all_goals
        go_wp2_with (first
          | (go_at_call 15; (with_reducible refine (RD.out _).mono ?_); rintro e w1 ⟨rfl, hw⟩; have B1 := Lib.hid hw; clear hw)
          | (go_at_call 18; (with_reducible refine (OD.out _).mono ?_); rintro e w2 ⟨A2, c2, z2, rfl, hr, hq, hw⟩; have L2 := Lib.hid (show z2.length ≤ 1000 from Nat.le_trans hq.2 (by omega)); have R2 := Lib.hid hr; have Q2 := Lib.hid hq.1; have B2 := Lib.hid (chain B1.out hw); clear hr hq hw)
          | (go_at_call 18; (with_reducible refine (OP.out _).mono ?_); rintro e w3 ⟨A3, c3, z3, rfl, hr, hq, hw⟩; have L3 := Lib.hid (show z3.length ≤ 1000 from Nat.le_trans hq.2 (by omega)); have LM := Lib.hid (show z2.length + 2 * z3.length ≤ 1000000 by (have h2 := L2.out; have h3 := L3.out; omega)); have R3 := Lib.hid hr; have Q3 := Lib.hid hq.1; have B3 := Lib.hid (chain B2.out hw); have R23 := Lib.hid (rb_below R2.out hw); clear hr hq hw)
          | (go_at_call 29; (with_reducible refine (mul_pos A2 A3 c2 c3 z2 z3 sd _ R23.out R3.out L2.out L3.out).mono ?_); rintro e w4 ⟨A4, c4, z4, rfl, hr, hq, hw⟩; have L4 := Lib.hid (Nat.le_trans hq.2 LM.out); have R4 := Lib.hid hr; have Q4 := Lib.hid hq.1; have B4 := Lib.hid (chain B3.out hw); clear hr hq hw)
          | (go_at_call 37; refine (down_ref A4 c4 K z4 sd _ R4.out (by omega)).mono ?_; rintro e w5 ⟨A5, c5, z5, rfl, hr, hq, hw⟩; have H5 := Lib.hid (HE.out A5 c5 z5 _ hr (Nat.le_trans hq.2 L4.out) (by rw [hq.1, Q4.out, Q2.out, Q3.out])); have B5 := Lib.hid (chain B4.out hw); clear hr hq hw)
          | (go_at_call 16; (with_reducible refine H5.out.mono ?_); rintro e w6 ⟨rfl, hw⟩; have B6 := Lib.hid (chain B5.out hw); clear hw)
          | (go_at_call 14; (with_reducible refine (RS.out _).mono ?_); rintro e w7 ⟨rfl, hw⟩; have B7 := Lib.hid (chain B6.out hw); clear hw))
        cases bo
        all_goals
          go_wp2_with fail
          go_ret2
          exact ⟨rfl, B7.out⟩
set_option maxHeartbeats 8000000 in
theorem lerp_ref_neg (a b m D F1 T F2 X F3 : Int) (sd bo : Bool) (nd P : Nat) (k : Int) (zk1 : decide (k < 0) = true) (w : World)
    (RD : Hid (∀ w, Calls Try.prog 15 #[.int .i64 b, .int .i64 a] w fun e w' => Pair D F1 w e w'))
    (OD : Hid (∀ w, Calls Try.prog 18 #[.int .i64 D] w fun e w' => BigPost sd (OfQ nd) w e w'))
    (RS : Hid (∀ w, Calls Try.prog 14 #[.int .i64 a, .int .i64 T] w fun e w' => Pair X F3 w e w'))
    (HE : Hid (∀ A c xs w, RB w A c xs → xs.length ≤ 1000000 → val xs = nd * P / 2 ^ 0 → Calls Try.prog 16 #[.agg #[.slice A xs.length c, .bool sd]] w fun e w' => Pair T F2 w e w'))
    (hP : Hid (P = lerpP m 0)) (u1 : 0 ≤ F1) (v1 : F1 ≤ 1) (u2 : 0 ≤ F2) (v2 : F2 ≤ 1) (u3 : 0 ≤ F3) (v3 : F3 ≤ 1) (hbo : decide (0 < F1 + F2 + F3) = bo) :
    Calls Try.prog 24 #[.int .i64 a, .int .i64 b, .int .i64 m, .int .i64 k] w fun e w' => Pair X (if bo then 1 else 0) w e w' := by
  go_enter Try.func24, Try.ntmps24
  go_wp2_with fail
  go_loop [11, 10] (fun i p => ∃ κ π : Nat, κ ≤ 0 ∧ Hid (π = 2 ^ κ) ∧ (π : Int) ≤ 4294967296 ∧ i = .int .i64 κ ∧ p = .int .i64 π) (fun i _ => 0 - (intOf i).toNat)
  case atStart => exact ⟨0, 1, Nat.zero_le _, Lib.hid rfl, by omega, rfl, rfl⟩
  case round =>
    obtain ⟨κ, π, hκ, hπ, hπ2, rfl, rfl⟩ := hrel
    by_cases hlt : κ < 0
    · have z1 : decide (κ < 0) = true := decide_eq_true hlt
      have z2 : (κ : Int) < 0 := by omega
      have hπ3 : 2 * π = 2 ^ (κ + 1) := by rw [hπ.out, Nat.pow_succ, Nat.mul_comm]
      have hle : 2 ^ (κ + 1) ≤ 2 ^ 32 := Nat.pow_le_pow_right (by omega) (by omega)
      have hπ4 : 2 * (π : Int) ≤ 4294967296 := by rw [← hπ3] at hle; omega
      have P3 := Lib.hid hπ3
      have hκ32 : (κ : Int) ≤ 32 := by omega
      clear hπ3 hle
      go_wp2_with fail
      go_round
      case rel => exact ⟨κ + 1, 2 * π, by omega, P3, by omega, rfl, congrArg (Value.int .i64) (by omega)⟩
      case measure => simp [intOf]; omega
    · have hκ3 : κ = 0 := by omega
      subst hκ3
      have z1 : decide (0 < 0) = false := by simp
      have hπ1 : 1 ≤ (π : Int) := by have h1 := hπ.out; have h2 := Nat.pow_pos (n := 0) (show 0 < 2 by omega); omega
      have part : ∃ pv : Int, (∀ w, Calls Try.prog 18 #[.int .i64 pv] w fun e w' => BigPost false (OfQ P) w e w') ∧
          ((m < 0 ∧ pv = 0) ∨ (0 ≤ m ∧ (π : Int) < m ∧ pv = π) ∨ (0 ≤ m ∧ m ≤ (π : Int) ∧ pv = m)) := by
        have hp : P = (min (max m 0) (π : Int)).toNat := by rw [hP.out]; unfold lerpP; rw [hπ.out]; simp
        by_cases h1 : m < 0
        · refine ⟨0, ?_, .inl ⟨h1, rfl⟩⟩
          obtain rfl : P = 0 := by omega
          exact fun w => of_nat 0 w (by omega)
        · by_cases h2 : (π : Int) < m
          · refine ⟨π, ?_, .inr (.inl ⟨by omega, h2, rfl⟩)⟩
            obtain rfl : P = π := by omega
            exact fun w => of_nat P w (by omega)
          · refine ⟨m, ?_, .inr (.inr ⟨by omega, by omega, rfl⟩)⟩
            obtain ⟨M, rfl⟩ := Int.eq_ofNat_of_zero_le (show 0 ≤ m by omega)
            obtain rfl : P = M := by omega
            exact fun w => of_nat P w (by omega)
      obtain ⟨pv, hop, hcase⟩ := part
      have OP := Lib.hid hop
      clear hop hlt
      rcases hcase with ⟨h1, rfl⟩ | ⟨h1, h2, rfl⟩ | ⟨h1, h2, rfl⟩
      all_goals
        go_wp2_with (first
          | (go_at_call 15; (with_reducible refine (RD.out _).mono ?_); rintro e w1 ⟨rfl, hw⟩; have B1 := Lib.hid hw; clear hw)
          | (go_at_call 18; (with_reducible refine (OD.out _).mono ?_); rintro e w2 ⟨A2, c2, z2, rfl, hr, hq, hw⟩; have L2 := Lib.hid (show z2.length ≤ 1000 from Nat.le_trans hq.2 (by omega)); have R2 := Lib.hid hr; have Q2 := Lib.hid hq.1; have B2 := Lib.hid (chain B1.out hw); clear hr hq hw)
          | (go_at_call 18; (with_reducible refine (OP.out _).mono ?_); rintro e w3 ⟨A3, c3, z3, rfl, hr, hq, hw⟩; have L3 := Lib.hid (show z3.length ≤ 1000 from Nat.le_trans hq.2 (by omega)); have LM := Lib.hid (show z2.length + 2 * z3.length ≤ 1000000 by (have h2 := L2.out; have h3 := L3.out; omega)); have R3 := Lib.hid hr; have Q3 := Lib.hid hq.1; have B3 := Lib.hid (chain B2.out hw); have R23 := Lib.hid (rb_below R2.out hw); clear hr hq hw)
          | (go_at_call 29; (with_reducible refine (mul_pos A2 A3 c2 c3 z2 z3 sd _ R23.out R3.out L2.out L3.out).mono ?_); rintro e w4 ⟨A4, c4, z4, rfl, hr, hq, hw⟩; have L4 := Lib.hid (Nat.le_trans hq.2 LM.out); have R4 := Lib.hid hr; have Q4 := Lib.hid hq.1; have B4 := Lib.hid (chain B3.out hw); clear hr hq hw)
          | (go_at_call 37; refine (down_ref A4 c4 0 z4 sd _ R4.out (by omega)).mono ?_; rintro e w5 ⟨A5, c5, z5, rfl, hr, hq, hw⟩; have H5 := Lib.hid (HE.out A5 c5 z5 _ hr (Nat.le_trans hq.2 L4.out) (by rw [hq.1, Q4.out, Q2.out, Q3.out])); have B5 := Lib.hid (chain B4.out hw); clear hr hq hw)
          | (go_at_call 16; (with_reducible refine H5.out.mono ?_); rintro e w6 ⟨rfl, hw⟩; have B6 := Lib.hid (chain B5.out hw); clear hw)
          | (go_at_call 14; (with_reducible refine (RS.out _).mono ?_); rintro e w7 ⟨rfl, hw⟩; have B7 := Lib.hid (chain B6.out hw); clear hw))
        cases bo
        all_goals
          go_wp2_with fail
          go_ret2
          exact ⟨rfl, B7.out⟩
set_option maxHeartbeats 8000000 in
theorem lerp_ref_big (a b m D F1 T F2 X F3 : Int) (sd bo : Bool) (nd P : Nat) (k : Int) (zk1 : decide (k < 0) = false) (zk2 : decide (32 < k) = true) (w : World)
    (RD : Hid (∀ w, Calls Try.prog 15 #[.int .i64 b, .int .i64 a] w fun e w' => Pair D F1 w e w'))
    (OD : Hid (∀ w, Calls Try.prog 18 #[.int .i64 D] w fun e w' => BigPost sd (OfQ nd) w e w'))
    (RS : Hid (∀ w, Calls Try.prog 14 #[.int .i64 a, .int .i64 T] w fun e w' => Pair X F3 w e w'))
    (HE : Hid (∀ A c xs w, RB w A c xs → xs.length ≤ 1000000 → val xs = nd * P / 2 ^ 32 → Calls Try.prog 16 #[.agg #[.slice A xs.length c, .bool sd]] w fun e w' => Pair T F2 w e w'))
    (hP : Hid (P = lerpP m 32)) (u1 : 0 ≤ F1) (v1 : F1 ≤ 1) (u2 : 0 ≤ F2) (v2 : F2 ≤ 1) (u3 : 0 ≤ F3) (v3 : F3 ≤ 1) (hbo : decide (0 < F1 + F2 + F3) = bo) :
    Calls Try.prog 24 #[.int .i64 a, .int .i64 b, .int .i64 m, .int .i64 k] w fun e w' => Pair X (if bo then 1 else 0) w e w' := by
  go_enter Try.func24, Try.ntmps24
  go_wp2_with fail
  go_loop [11, 10] (fun i p => ∃ κ π : Nat, κ ≤ 32 ∧ Hid (π = 2 ^ κ) ∧ (π : Int) ≤ 4294967296 ∧ i = .int .i64 κ ∧ p = .int .i64 π) (fun i _ => 32 - (intOf i).toNat)
  case atStart => exact ⟨0, 1, Nat.zero_le _, Lib.hid rfl, by omega, rfl, rfl⟩
  case round =>
    obtain ⟨κ, π, hκ, hπ, hπ2, rfl, rfl⟩ := hrel
    by_cases hlt : κ < 32
    · have z1 : decide (κ < 32) = true := decide_eq_true hlt
      have z2 : (κ : Int) < 32 := by omega
      have hπ3 : 2 * π = 2 ^ (κ + 1) := by rw [hπ.out, Nat.pow_succ, Nat.mul_comm]
      have hle : 2 ^ (κ + 1) ≤ 2 ^ 32 := Nat.pow_le_pow_right (by omega) (by omega)
      have hπ4 : 2 * (π : Int) ≤ 4294967296 := by rw [← hπ3] at hle; omega
      have P3 := Lib.hid hπ3
      have hκ32 : (κ : Int) ≤ 32 := by omega
      clear hπ3 hle
      go_wp2_with fail
      go_round
      case rel => exact ⟨κ + 1, 2 * π, by omega, P3, by omega, rfl, congrArg (Value.int .i64) (by omega)⟩
      case measure => simp [intOf]; omega
    · have hκ3 : κ = 32 := by omega
      subst hκ3
      have z1 : decide (32 < 32) = false := by simp
      have hπ1 : 1 ≤ (π : Int) := by have h1 := hπ.out; have h2 := Nat.pow_pos (n := 32) (show 0 < 2 by omega); omega
      have part : ∃ pv : Int, (∀ w, Calls Try.prog 18 #[.int .i64 pv] w fun e w' => BigPost false (OfQ P) w e w') ∧
          ((m < 0 ∧ pv = 0) ∨ (0 ≤ m ∧ (π : Int) < m ∧ pv = π) ∨ (0 ≤ m ∧ m ≤ (π : Int) ∧ pv = m)) := by
        have hp : P = (min (max m 0) (π : Int)).toNat := by rw [hP.out]; unfold lerpP; rw [hπ.out]; simp
        by_cases h1 : m < 0
        · refine ⟨0, ?_, .inl ⟨h1, rfl⟩⟩
          obtain rfl : P = 0 := by omega
          exact fun w => of_nat 0 w (by omega)
        · by_cases h2 : (π : Int) < m
          · refine ⟨π, ?_, .inr (.inl ⟨by omega, h2, rfl⟩)⟩
            obtain rfl : P = π := by omega
            exact fun w => of_nat P w (by omega)
          · refine ⟨m, ?_, .inr (.inr ⟨by omega, by omega, rfl⟩)⟩
            obtain ⟨M, rfl⟩ := Int.eq_ofNat_of_zero_le (show 0 ≤ m by omega)
            obtain rfl : P = M := by omega
            exact fun w => of_nat P w (by omega)
      obtain ⟨pv, hop, hcase⟩ := part
      have OP := Lib.hid hop
      clear hop hlt
      rcases hcase with ⟨h1, rfl⟩ | ⟨h1, h2, rfl⟩ | ⟨h1, h2, rfl⟩
      all_goals
        go_wp2_with (first
          | (go_at_call 15; (with_reducible refine (RD.out _).mono ?_); rintro e w1 ⟨rfl, hw⟩; have B1 := Lib.hid hw; clear hw)
          | (go_at_call 18; (with_reducible refine (OD.out _).mono ?_); rintro e w2 ⟨A2, c2, z2, rfl, hr, hq, hw⟩; have L2 := Lib.hid (show z2.length ≤ 1000 from Nat.le_trans hq.2 (by omega)); have R2 := Lib.hid hr; have Q2 := Lib.hid hq.1; have B2 := Lib.hid (chain B1.out hw); clear hr hq hw)
          | (go_at_call 18; (with_reducible refine (OP.out _).mono ?_); rintro e w3 ⟨A3, c3, z3, rfl, hr, hq, hw⟩; have L3 := Lib.hid (show z3.length ≤ 1000 from Nat.le_trans hq.2 (by omega)); have LM := Lib.hid (show z2.length + 2 * z3.length ≤ 1000000 by (have h2 := L2.out; have h3 := L3.out; omega)); have R3 := Lib.hid hr; have Q3 := Lib.hid hq.1; have B3 := Lib.hid (chain B2.out hw); have R23 := Lib.hid (rb_below R2.out hw); clear hr hq hw)
          | (go_at_call 29; (with_reducible refine (mul_pos A2 A3 c2 c3 z2 z3 sd _ R23.out R3.out L2.out L3.out).mono ?_); rintro e w4 ⟨A4, c4, z4, rfl, hr, hq, hw⟩; have L4 := Lib.hid (Nat.le_trans hq.2 LM.out); have R4 := Lib.hid hr; have Q4 := Lib.hid hq.1; have B4 := Lib.hid (chain B3.out hw); clear hr hq hw)
          | (go_at_call 37; refine (down_ref A4 c4 32 z4 sd _ R4.out (by omega)).mono ?_; rintro e w5 ⟨A5, c5, z5, rfl, hr, hq, hw⟩; have H5 := Lib.hid (HE.out A5 c5 z5 _ hr (Nat.le_trans hq.2 L4.out) (by rw [hq.1, Q4.out, Q2.out, Q3.out])); have B5 := Lib.hid (chain B4.out hw); clear hr hq hw)
          | (go_at_call 16; (with_reducible refine H5.out.mono ?_); rintro e w6 ⟨rfl, hw⟩; have B6 := Lib.hid (chain B5.out hw); clear hw)
          | (go_at_call 14; (with_reducible refine (RS.out _).mono ?_); rintro e w7 ⟨rfl, hw⟩; have B7 := Lib.hid (chain B6.out hw); clear hw))
        cases bo
        all_goals
          go_wp2_with fail
          go_ret2
          exact ⟨rfl, B7.out⟩
end Go.Proofs.Ytehngngkdnmhgaa
