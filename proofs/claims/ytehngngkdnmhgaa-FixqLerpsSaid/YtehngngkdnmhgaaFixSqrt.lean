/- What package fixq's Sqrt answers, at every number. -/
import Derived.Test.YtehngngkdnmhgaaSqrtMath
import Derived.Test.YtehngngkdnmhgaaFix
import Derived.Lib.Hide
namespace Go.Proofs.Ytehngngkdnmhgaa
open Go.RowKit

theorem sqrt_below (a : Int) (w : World) (h : a < 0) : Calls Try.prog 19 #[.int .i64 a] w fun e w' => e = .returned (.tuple #[.int .i64 0, .int .i64 2]) ∧ w = w' := by
  go_enter Try.func19, Try.ntmps19
  go_wp2_with fail
  go_ret2
  exact ⟨rfl, rfl⟩
set_option linter.unusedVariables false in
set_option maxHeartbeats 1000000 in
theorem sqrt_core (a : Int) (n H L s : Nat) (w : World) (h0 : decide (a < 0) = false) (c1 : IntKind.u64.wrap a = a) (c2 : a / 4294967296 = (H : Int)) (c3 : IntKind.u64.wrap (a * 4294967296) = (L : Int))
    (hn : Hid (n = H * 18446744073709551616 + L)) (hL : Hid (L < 18446744073709551616)) (hH : Hid (n < 281474976710656 * 281474976710656)) (hs : Hid (s = isqrt n)) :
    Calls Try.prog 19 #[.int .i64 a] w fun e w' => e = .returned (.tuple #[.int .i64 (s : Int), .int .i64 0]) ∧ w = w' := by
  go_enter Try.func19, Try.ntmps19
  go_wp2_with fail
  go_loop [6, 7] (fun x y => ∃ r B : Nat, Hid (At n r B) ∧ (r : Int) ≤ 281474976710655 ∧ (B : Int) ≤ 140737488355328 ∧ x = .int .u64 r ∧ y = .int .u64 B) (fun _ y => (intOf y).toNat)
  case atStart => exact ⟨0, 140737488355328, Lib.hid (at_start hH.out), by omega, by omega, rfl, rfl⟩
  case round =>
    obtain ⟨r, B, hat, hr, hB, rfl, rfl⟩ := hrel
    by_cases hz : B = 0
    · subst hz
      obtain rfl : r = s := (at_end hat.out).trans hs.out.symm
      go_wp2_with fail
      go_ret2
      exact ⟨rfl, rfl⟩
    · obtain ⟨hor, hlt, hyes, hno⟩ := at_step hat.out hz
      have hpos : 0 < B := by omega
      have z1 : ((B : Int) != 0) = true := bne_iff_ne.2 (by omega)
      have z2 : ((B : Int) == 0) = false := beq_false_of_ne (by omega)
      obtain ⟨t, ht⟩ : ∃ t : Nat, t = r + B := ⟨_, rfl⟩
      rw [← ht] at hor hlt hyes hno
      have z3 : bits .or .u64 (r : Int) (B : Int) = (t : Int) := by rw [bits_or_u64_nat _ _ (by omega) (by omega), hor]
      obtain ⟨D, hD⟩ : ∃ D : Nat, D = B / 2 := ⟨_, rfl⟩
      have z4 : (B : Int) / 2 = (D : Int) := by omega
      rw [← hD] at hyes hno
      have m := mul64_any t t (by omega) (by omega)
      obtain ⟨h, hh⟩ : ∃ h : Nat, h = t * t / 18446744073709551616 := ⟨_, rfl⟩
      obtain ⟨l, hl⟩ : ∃ l : Nat, l = t * t % 18446744073709551616 := ⟨_, rfl⟩
      have htt : t * t = h * 18446744073709551616 + l := by rw [hh, hl]; exact (Nat.div_add_mod' _ _).symm
      have hl2 : l < 18446744073709551616 := by rw [hl]; exact Nat.mod_lt _ (by omega)
      rw [← hh, ← hl] at m
      have M := Lib.hid m
      have E1 := Lib.hid hD
      have bt : (t : Int) ≤ 281474976710655 := by omega
      have bD : (D : Int) ≤ 140737488355328 := by omega
      have Hn := hn.out
      have HL := hL.out
      have lt : D < B := by omega
      by_cases hc : t * t ≤ n
      · have A' := Lib.hid (hyes hc)
        by_cases k : h < H
        · have k1 : decide ((h : Int) < (H : Int)) = true := decide_eq_true (by omega)
          have k2 : decide (h < H) = true := decide_eq_true k
          clear m hor hlt hyes hno ht hD hh hl htt hl2 Hn HL hc hz hat k
          go_wp2_with (go_at_call 33; refine (M.out _).mono ?_; rintro e w' ⟨rfl, rfl⟩)
          go_round
          case rel => exact ⟨t, D, A', bt, bD, rfl, rfl⟩
          case measure => simp [intOf]; omega
        · obtain rfl : h = H := by omega
          have k5 : l ≤ L := by omega
          have k3 : decide (l ≤ L) = true := decide_eq_true k5
          have k4 : decide ((l : Int) ≤ (L : Int)) = true := decide_eq_true (by omega)
          clear m hor hlt hyes hno ht hD hh hl htt hl2 Hn HL hc hz hat k
          go_wp2_with (go_at_call 33; refine (M.out _).mono ?_; rintro e w' ⟨rfl, rfl⟩)
          go_round
          case rel => exact ⟨t, D, A', bt, bD, rfl, rfl⟩
          case measure => simp [intOf]; omega
      · have A' := Lib.hid (hno (by omega))
        by_cases k : h = H
        · subst k
          have k5 : L < l := by omega
          have k3 : decide (l ≤ L) = false := decide_eq_false (by omega)
          have k4 : decide ((l : Int) ≤ (L : Int)) = false := decide_eq_false (by omega)
          clear m hor hlt hyes hno ht hD hh hl htt hl2 Hn HL hc hz hat k5
          go_wp2_with (go_at_call 33; refine (M.out _).mono ?_; rintro e w' ⟨rfl, rfl⟩)
          go_round
          case rel => exact ⟨r, D, A', hr, bD, rfl, rfl⟩
          case measure => simp [intOf]; omega
        · have k1 : decide ((h : Int) < (H : Int)) = false := decide_eq_false (by omega)
          have k2 : decide (h < H) = false := decide_eq_false (by omega)
          have k3 : ((h : Int) == (H : Int)) = false := beq_false_of_ne (by omega)
          have k4 : (h == H) = false := beq_false_of_ne k
          clear m hor hlt hyes hno ht hD hh hl htt hl2 Hn HL hc hz hat k
          go_wp2_with (go_at_call 33; refine (M.out _).mono ?_; rintro e w' ⟨rfl, rfl⟩)
          go_round
          case rel => exact ⟨r, D, A', hr, bD, rfl, rfl⟩
          case measure => simp [intOf]; omega
theorem sqrt_any (a : Int) (w : World) (h : 0 ≤ a) (h2 : a ≤ 9223372036854775807) :
    Calls Try.prog 19 #[.int .i64 a] w fun e w' => e = .returned (.tuple #[.int .i64 (isqrt (a.toNat * 4294967296) : Nat), .int .i64 0]) ∧ w = w' := by
  have h3 : a.toNat < 9223372036854775808 := by omega
  exact sqrt_core a (a.toNat * 4294967296) (a.toNat / 4294967296) (a.toNat * 4294967296 % 18446744073709551616) _ w (decide_eq_false (by omega)) (by rw [IntKind.wrap_u64]; omega) (by omega)
    (by rw [IntKind.wrap_u64]; omega) (Lib.hid (by omega)) (Lib.hid (by omega)) (Lib.hid (by omega)) (Lib.hid rfl)
end Go.Proofs.Ytehngngkdnmhgaa
