/- math/bits.Div64: its quotient, at every dividend of two words whose upper word is below the divisor: the schoolbook division of Go's own text, walked. -/
import Derived.Test.YtehngngkdnmhgaaDivMath
import Derived.Test.YtehngngkdnmhgaaShelf
import Derived.Test.YtehngngkdnmhgaaRows
import Derived.Outline
import Derived.Lib.Hide
import Derived.BigGuardPart
import Derived.Deep.Cut
import Derived.Deep.QuietTactic
import Derived.BigQuiet
namespace Go.Proofs.Ytehngngkdnmhgaa
open Go.RowKit

def SomeRem (x : Int) (w : World) (e : Ending) (w' : World) : Prop := ∃ r : Int, e = .returned (.tuple #[.int .u64 x, .int .u64 r]) ∧ w = w'
set_option linter.unusedVariables false
set_option maxRecDepth 100000 in
set_option maxHeartbeats 2000000 in
theorem div64_core (hi lo y s Y y1 y0 u v v1 v0 q0 r0 Q1 a1 a2 a3 u2 q2 r2 Q2 : Nat) (w : World) (h0 : 0 < hi) (h1 : hi < y) (h2 : (y : Int) ≤ 18446744073709551615) (es : (64 - (Lib.bitLen y : Int)) = (s : Int)) (esb : (s : Int) ≤ 63)
    (e1 : IntKind.u64.wrap ((y : Int) * 2 ^ s) = (Y : Int)) (e2 : bits .and .u64 (Y : Int) 4294967295 = (y0 : Int)) (e3 : (Y : Int) / 4294967296 = (y1 : Int)) (by1 : (2147483648 : Int) ≤ y1) (by1' : (y1 : Int) ≤ 4294967295) (by0 : (y0 : Int) ≤ 4294967295)
    (e4 : bits BinOp.or IntKind.u64 (IntKind.u64.wrap (↑hi * 2 ^ s)) (↑lo / 2 ^ (64 - s)) = (u : Int)) (e5 : IntKind.u64.wrap (↑lo * 2 ^ s) = (v : Int)) (e6 : (v : Int) / 4294967296 = (v1 : Int)) (e7 : bits .and .u64 (v : Int) 4294967295 = (v0 : Int))
    (bv1 : (v1 : Int) ≤ 4294967295) (bv0 : (v0 : Int) ≤ 4294967295)
    (e9 : (u : Int) / y1 = (q0 : Int)) (e10 : IntKind.u64.wrap (q0 : Int) = q0) (e11 : IntKind.u64.wrap (u - IntKind.u64.wrap (q0 * y1)) = (r0 : Int))
    (E1 : Hid (Est u v1 y1 y0 q0 r0)) (bq0 : (q0 : Int) ≤ 4294967297) (br0 : (r0 : Int) ≤ 4294967295) (D1 : Hid (digit u v1 y1 y0 = Q1)) (bQ1 : (Q1 : Int) ≤ 4294967295)
    (f1 : IntKind.u64.wrap ((u : Int) * 4294967296) = (a1 : Int)) (f2 : IntKind.u64.wrap ((a1 : Int) + v1) = (a2 : Int)) (f3 : IntKind.u64.wrap ((Q1 : Int) * Y) = (a3 : Int)) (f4 : IntKind.u64.wrap ((a2 : Int) - a3) = (u2 : Int))
    (g9 : (u2 : Int) / y1 = (q2 : Int)) (g10 : IntKind.u64.wrap (q2 : Int) = q2) (g11 : IntKind.u64.wrap (u2 - IntKind.u64.wrap (q2 * y1)) = (r2 : Int))
    (E2 : Hid (Est u2 v0 y1 y0 q2 r2)) (bq2 : (q2 : Int) ≤ 4294967297) (br2 : (r2 : Int) ≤ 4294967295) (D2 : Hid (digit u2 v0 y1 y0 = Q2)) (bQ2 : (Q2 : Int) ≤ 4294967295) :
    Calls Try.prog 39 #[.int .u64 hi, .int .u64 lo, .int .u64 y] w fun e w' => SomeRem ((Q1 : Int) * 4294967296 + Q2) w e w' := by
  have H := Lib.hid es
  clear es
  go_enter Try.func39, Try.ntmps39
  go_wp2_with (go_at_call 43; refine (Try.bits_LeadingZeros64 _ _ (by omega) (by omega)).mono ?_; rintro e w' ⟨rfl, rfl⟩; rw [Int.toNat_natCast, H.out])
  go_loop [15, 16] (fun a b => ∃ q r : Nat, Est u v1 y1 y0 q r ∧ (q : Int) ≤ 4294967297 ∧ (r : Int) ≤ 4294967295 ∧ a = .int .u64 q ∧ b = .int .u64 r) (fun a _ => (intOf a).toNat)
  case atStart => exact ⟨q0, r0, E1.out, by omega, by omega, rfl, rfl⟩
  case round =>
    obtain ⟨q, r, hinv, hq1, hr, rfl, rfl⟩ := hrel
    obtain ⟨t, ht⟩ : ∃ t : Nat, t = r + y1 := ⟨_, rfl⟩
    have t1 : (r : Int) + (y1 : Int) = (t : Int) := by omega
    have t2 : IntKind.u64.wrap (t : Int) = (t : Int) := by rw [IntKind.wrap_u64]; omega
    rcases Int.lt_or_le (q : Int) 4294967296 with hq | hq
    · have hm0 : q * y0 ≤ 4294967295 * 4294967295 := Nat.mul_le_mul (by omega) (by omega)
      obtain ⟨m, hm⟩ : ∃ m : Nat, m = q * y0 := ⟨_, rfl⟩
      rw [← hm] at hm0
      have m1 : (q : Int) * (y0 : Int) = (m : Int) := by rw [hm]; exact (Int.natCast_mul q y0).symm
      have m2 : IntKind.u64.wrap (m : Int) = (m : Int) := by rw [IntKind.wrap_u64]; omega
      obtain ⟨n, hn⟩ : ∃ n : Nat, n = 4294967296 * r + v1 := ⟨_, rfl⟩
      have n1 : 4294967296 * (r : Int) + (v1 : Int) = (n : Int) := by omega
      have n2 : IntKind.u64.wrap (n : Int) = (n : Int) := by rw [IntKind.wrap_u64]; omega
      have p3 : decide ((4294967296 : Int) ≤ (q : Int)) = false := by simpa using hq
      rcases Nat.lt_or_ge n m with hx | hx
      · have x1 : decide ((n : Int) < (m : Int)) = true := by simpa using hx
        have x2 : decide (n < m) = true := by simpa using hx
        have hq0 : 0 < q := Nat.pos_of_ne_zero (by rintro rfl; rw [Nat.zero_mul] at hm; omega)
        obtain ⟨p, hp⟩ : ∃ p, q = p + 1 := ⟨q - 1, by omega⟩
        have p1 : (q : Int) - 1 = (p : Int) := by omega
        have p2 : (p : Int) ≤ 4294967296 := by omega
        have p4 : IntKind.u64.wrap (p : Int) = (p : Int) := by rw [IntKind.wrap_u64]; omega
        have hnew : Est u v1 y1 y0 p t := by have h := est_yes hinv (by omega) hq0 (by rw [← hm, ← hn]; exact hx); rw [hp, Nat.add_sub_cancel] at h; rw [ht]; exact h
        have I := Lib.hid hnew
        have T := Lib.hid ht
        have P := Lib.hid hp
        clear hp hq ht hinv hm hn hx hm0
        rcases Int.lt_or_le (t : Int) 4294967296 with hb | hb
        · have hb' : decide ((4294967296 : Int) ≤ (t : Int)) = false := by simpa using hb
          have hb2 : (t : Int) ≤ 4294967295 := by omega
          clear hb
          go_wp2_with fail
          go_round
          case rel => exact ⟨p, t, I.out, by omega, hb2, rfl, rfl⟩
          case measure => have := P.out; simp [intOf]; omega
        · have hb' : decide ((4294967296 : Int) ≤ (t : Int)) = true := by simpa using hb
          obtain rfl : p = Q1 := (est_out hnew (by omega) (by omega) (by omega) (by omega)).trans D1.out
          clear hb hnew
          go_upto_region 21 with (fail)
          clear t1 t2 m1 m2 n1 n2 p3 x1 x2 p1 p4 hb'
          go_wp2_with fail
          go_loop [18, 16] (fun a b => ∃ q r : Nat, Est u2 v0 y1 y0 q r ∧ (q : Int) ≤ 4294967297 ∧ (r : Int) ≤ 4294967295 ∧ a = .int .u64 q ∧ b = .int .u64 r) (fun a _ => (intOf a).toNat)
          case atStart => exact ⟨q2, r2, E2.out, by omega, by omega, rfl, rfl⟩
          case round =>
            obtain ⟨q, r, hinv, hq1, hr, rfl, rfl⟩ := hrel
            obtain ⟨t, ht⟩ : ∃ t : Nat, t = r + y1 := ⟨_, rfl⟩
            have t1 : (r : Int) + (y1 : Int) = (t : Int) := by omega
            have t2 : IntKind.u64.wrap (t : Int) = (t : Int) := by rw [IntKind.wrap_u64]; omega
            rcases Int.lt_or_le (q : Int) 4294967296 with hq | hq
            · have hm0 : q * y0 ≤ 4294967295 * 4294967295 := Nat.mul_le_mul (by omega) (by omega)
              obtain ⟨m, hm⟩ : ∃ m : Nat, m = q * y0 := ⟨_, rfl⟩
              rw [← hm] at hm0
              have m1 : (q : Int) * (y0 : Int) = (m : Int) := by rw [hm]; exact (Int.natCast_mul q y0).symm
              have m2 : IntKind.u64.wrap (m : Int) = (m : Int) := by rw [IntKind.wrap_u64]; omega
              obtain ⟨n, hn⟩ : ∃ n : Nat, n = 4294967296 * r + v0 := ⟨_, rfl⟩
              have n1 : 4294967296 * (r : Int) + (v0 : Int) = (n : Int) := by omega
              have n2 : IntKind.u64.wrap (n : Int) = (n : Int) := by rw [IntKind.wrap_u64]; omega
              have p3 : decide ((4294967296 : Int) ≤ (q : Int)) = false := by simpa using hq
              rcases Nat.lt_or_ge n m with hx | hx
              · have x1 : decide ((n : Int) < (m : Int)) = true := by simpa using hx
                have x2 : decide (n < m) = true := by simpa using hx
                have hq0 : 0 < q := Nat.pos_of_ne_zero (by rintro rfl; rw [Nat.zero_mul] at hm; omega)
                obtain ⟨p, hp⟩ : ∃ p, q = p + 1 := ⟨q - 1, by omega⟩
                have p1 : (q : Int) - 1 = (p : Int) := by omega
                have p2 : (p : Int) ≤ 4294967296 := by omega
                have p4 : IntKind.u64.wrap (p : Int) = (p : Int) := by rw [IntKind.wrap_u64]; omega
                have hnew : Est u2 v0 y1 y0 p t := by have h := est_yes hinv (by omega) hq0 (by rw [← hm, ← hn]; exact hx); rw [hp, Nat.add_sub_cancel] at h; rw [ht]; exact h
                have I := Lib.hid hnew
                have T := Lib.hid ht
                have P := Lib.hid hp
                clear hp hq ht hinv hm hn hx hm0
                rcases Int.lt_or_le (t : Int) 4294967296 with hb | hb
                · have hb' : decide ((4294967296 : Int) ≤ (t : Int)) = false := by simpa using hb
                  have hb2 : (t : Int) ≤ 4294967295 := by omega
                  clear hb
                  go_wp2_with fail
                  go_round
                  case rel => exact ⟨p, t, I.out, by omega, hb2, rfl, rfl⟩
                  case measure => have := P.out; simp [intOf]; omega
                · have hb' : decide ((4294967296 : Int) ≤ (t : Int)) = true := by simpa using hb
                  obtain rfl : p = Q2 := (est_out hnew (by omega) (by omega) (by omega) (by omega)).trans D2.out
                  clear hb hnew
                  go_upto_region 28 with (fail)
                  clear t1 t2 m1 m2 n1 n2 p3 x1 x2 p1 p4 hb'
                  go_wp2_with fail
                  exact bodyPost_ret (results_tmp2 rfl _ _ _) rfl ⟨_, rfl, rfl⟩
              · have x1 : decide ((n : Int) < (m : Int)) = false := by simpa using hx
                have x2 : decide (n < m) = false := by simpa using hx
                obtain rfl : q = Q2 := (est_no hinv (by omega) (by rw [← hm, ← hn]; exact hx)).trans D2.out
                clear hq ht hinv hm hn hx hm0
                go_upto_region 28 with (fail)
                clear t1 t2 m1 m2 n1 n2 p3 x1 x2
                go_wp2_with fail
                exact bodyPost_ret (results_tmp2 rfl _ _ _) rfl ⟨_, rfl, rfl⟩
            · have p3 : decide ((4294967296 : Int) ≤ (q : Int)) = true := by simpa using hq
              obtain ⟨p, hp⟩ : ∃ p, q = p + 1 := ⟨q - 1, by omega⟩
              have p1 : (q : Int) - 1 = (p : Int) := by omega
              have p2 : (p : Int) ≤ 4294967296 := by omega
              have p4 : IntKind.u64.wrap (p : Int) = (p : Int) := by rw [IntKind.wrap_u64]; omega
              have hnew : Est u2 v0 y1 y0 p t := by have h := est_big hinv (by rw [D2.out]; omega) (by omega); rw [hp, Nat.add_sub_cancel] at h; rw [ht]; exact h
              have I := Lib.hid hnew
              have T := Lib.hid ht
              have P := Lib.hid hp
              clear hp hq ht hinv
              rcases Int.lt_or_le (t : Int) 4294967296 with hb | hb
              · have hb' : decide ((4294967296 : Int) ≤ (t : Int)) = false := by simpa using hb
                have hb2 : (t : Int) ≤ 4294967295 := by omega
                clear hb
                go_wp2_with fail
                go_round
                case rel => exact ⟨p, t, I.out, by omega, hb2, rfl, rfl⟩
                case measure => have := P.out; simp [intOf]; omega
              · have hb' : decide ((4294967296 : Int) ≤ (t : Int)) = true := by simpa using hb
                obtain rfl : p = Q2 := (est_out hnew (by omega) (by omega) (by omega) (by omega)).trans D2.out
                clear hb hnew
                go_upto_region 28 with (fail)
                clear t1 t2 p3 p1 p4 hb'
                go_wp2_with fail
                exact bodyPost_ret (results_tmp2 rfl _ _ _) rfl ⟨_, rfl, rfl⟩
      · have x1 : decide ((n : Int) < (m : Int)) = false := by simpa using hx
        have x2 : decide (n < m) = false := by simpa using hx
        obtain rfl : q = Q1 := (est_no hinv (by omega) (by rw [← hm, ← hn]; exact hx)).trans D1.out
        clear hq ht hinv hm hn hx hm0
        go_upto_region 21 with (fail)
        clear t1 t2 m1 m2 n1 n2 p3 x1 x2
        go_wp2_with fail
        go_loop [18, 16] (fun a b => ∃ q r : Nat, Est u2 v0 y1 y0 q r ∧ (q : Int) ≤ 4294967297 ∧ (r : Int) ≤ 4294967295 ∧ a = .int .u64 q ∧ b = .int .u64 r) (fun a _ => (intOf a).toNat)
        case atStart => exact ⟨q2, r2, E2.out, by omega, by omega, rfl, rfl⟩
        case round =>
          obtain ⟨q, r, hinv, hq1, hr, rfl, rfl⟩ := hrel
          obtain ⟨t, ht⟩ : ∃ t : Nat, t = r + y1 := ⟨_, rfl⟩
          have t1 : (r : Int) + (y1 : Int) = (t : Int) := by omega
          have t2 : IntKind.u64.wrap (t : Int) = (t : Int) := by rw [IntKind.wrap_u64]; omega
          rcases Int.lt_or_le (q : Int) 4294967296 with hq | hq
          · have hm0 : q * y0 ≤ 4294967295 * 4294967295 := Nat.mul_le_mul (by omega) (by omega)
            obtain ⟨m, hm⟩ : ∃ m : Nat, m = q * y0 := ⟨_, rfl⟩
            rw [← hm] at hm0
            have m1 : (q : Int) * (y0 : Int) = (m : Int) := by rw [hm]; exact (Int.natCast_mul q y0).symm
            have m2 : IntKind.u64.wrap (m : Int) = (m : Int) := by rw [IntKind.wrap_u64]; omega
            obtain ⟨n, hn⟩ : ∃ n : Nat, n = 4294967296 * r + v0 := ⟨_, rfl⟩
            have n1 : 4294967296 * (r : Int) + (v0 : Int) = (n : Int) := by omega
            have n2 : IntKind.u64.wrap (n : Int) = (n : Int) := by rw [IntKind.wrap_u64]; omega
            have p3 : decide ((4294967296 : Int) ≤ (q : Int)) = false := by simpa using hq
            rcases Nat.lt_or_ge n m with hx | hx
            · have x1 : decide ((n : Int) < (m : Int)) = true := by simpa using hx
              have x2 : decide (n < m) = true := by simpa using hx
              have hq0 : 0 < q := Nat.pos_of_ne_zero (by rintro rfl; rw [Nat.zero_mul] at hm; omega)
              obtain ⟨p, hp⟩ : ∃ p, q = p + 1 := ⟨q - 1, by omega⟩
              have p1 : (q : Int) - 1 = (p : Int) := by omega
              have p2 : (p : Int) ≤ 4294967296 := by omega
              have p4 : IntKind.u64.wrap (p : Int) = (p : Int) := by rw [IntKind.wrap_u64]; omega
              have hnew : Est u2 v0 y1 y0 p t := by have h := est_yes hinv (by omega) hq0 (by rw [← hm, ← hn]; exact hx); rw [hp, Nat.add_sub_cancel] at h; rw [ht]; exact h
              have I := Lib.hid hnew
              have T := Lib.hid ht
              have P := Lib.hid hp
              clear hp hq ht hinv hm hn hx hm0
              rcases Int.lt_or_le (t : Int) 4294967296 with hb | hb
              · have hb' : decide ((4294967296 : Int) ≤ (t : Int)) = false := by simpa using hb
                have hb2 : (t : Int) ≤ 4294967295 := by omega
                clear hb
                go_wp2_with fail
                go_round
                case rel => exact ⟨p, t, I.out, by omega, hb2, rfl, rfl⟩
                case measure => have := P.out; simp [intOf]; omega
              · have hb' : decide ((4294967296 : Int) ≤ (t : Int)) = true := by simpa using hb
                obtain rfl : p = Q2 := (est_out hnew (by omega) (by omega) (by omega) (by omega)).trans D2.out
                clear hb hnew
                go_upto_region 28 with (fail)
                clear t1 t2 m1 m2 n1 n2 p3 x1 x2 p1 p4 hb'
                go_wp2_with fail
                exact bodyPost_ret (results_tmp2 rfl _ _ _) rfl ⟨_, rfl, rfl⟩
            · have x1 : decide ((n : Int) < (m : Int)) = false := by simpa using hx
              have x2 : decide (n < m) = false := by simpa using hx
              obtain rfl : q = Q2 := (est_no hinv (by omega) (by rw [← hm, ← hn]; exact hx)).trans D2.out
              clear hq ht hinv hm hn hx hm0
              go_upto_region 28 with (fail)
              clear t1 t2 m1 m2 n1 n2 p3 x1 x2
              go_wp2_with fail
              exact bodyPost_ret (results_tmp2 rfl _ _ _) rfl ⟨_, rfl, rfl⟩
          · have p3 : decide ((4294967296 : Int) ≤ (q : Int)) = true := by simpa using hq
            obtain ⟨p, hp⟩ : ∃ p, q = p + 1 := ⟨q - 1, by omega⟩
            have p1 : (q : Int) - 1 = (p : Int) := by omega
            have p2 : (p : Int) ≤ 4294967296 := by omega
            have p4 : IntKind.u64.wrap (p : Int) = (p : Int) := by rw [IntKind.wrap_u64]; omega
            have hnew : Est u2 v0 y1 y0 p t := by have h := est_big hinv (by rw [D2.out]; omega) (by omega); rw [hp, Nat.add_sub_cancel] at h; rw [ht]; exact h
            have I := Lib.hid hnew
            have T := Lib.hid ht
            have P := Lib.hid hp
            clear hp hq ht hinv
            rcases Int.lt_or_le (t : Int) 4294967296 with hb | hb
            · have hb' : decide ((4294967296 : Int) ≤ (t : Int)) = false := by simpa using hb
              have hb2 : (t : Int) ≤ 4294967295 := by omega
              clear hb
              go_wp2_with fail
              go_round
              case rel => exact ⟨p, t, I.out, by omega, hb2, rfl, rfl⟩
              case measure => have := P.out; simp [intOf]; omega
            · have hb' : decide ((4294967296 : Int) ≤ (t : Int)) = true := by simpa using hb
              obtain rfl : p = Q2 := (est_out hnew (by omega) (by omega) (by omega) (by omega)).trans D2.out
              clear hb hnew
              go_upto_region 28 with (fail)
              clear t1 t2 p3 p1 p4 hb'
              go_wp2_with fail
              exact bodyPost_ret (results_tmp2 rfl _ _ _) rfl ⟨_, rfl, rfl⟩
    · have p3 : decide ((4294967296 : Int) ≤ (q : Int)) = true := by simpa using hq
      obtain ⟨p, hp⟩ : ∃ p, q = p + 1 := ⟨q - 1, by omega⟩
      have p1 : (q : Int) - 1 = (p : Int) := by omega
      have p2 : (p : Int) ≤ 4294967296 := by omega
      have p4 : IntKind.u64.wrap (p : Int) = (p : Int) := by rw [IntKind.wrap_u64]; omega
      have hnew : Est u v1 y1 y0 p t := by have h := est_big hinv (by rw [D1.out]; omega) (by omega); rw [hp, Nat.add_sub_cancel] at h; rw [ht]; exact h
      have I := Lib.hid hnew
      have T := Lib.hid ht
      have P := Lib.hid hp
      clear hp hq ht hinv
      rcases Int.lt_or_le (t : Int) 4294967296 with hb | hb
      · have hb' : decide ((4294967296 : Int) ≤ (t : Int)) = false := by simpa using hb
        have hb2 : (t : Int) ≤ 4294967295 := by omega
        clear hb
        go_wp2_with fail
        go_round
        case rel => exact ⟨p, t, I.out, by omega, hb2, rfl, rfl⟩
        case measure => have := P.out; simp [intOf]; omega
      · have hb' : decide ((4294967296 : Int) ≤ (t : Int)) = true := by simpa using hb
        obtain rfl : p = Q1 := (est_out hnew (by omega) (by omega) (by omega) (by omega)).trans D1.out
        clear hb hnew
        go_upto_region 21 with (fail)
        clear t1 t2 p3 p1 p4 hb'
        go_wp2_with fail
        go_loop [18, 16] (fun a b => ∃ q r : Nat, Est u2 v0 y1 y0 q r ∧ (q : Int) ≤ 4294967297 ∧ (r : Int) ≤ 4294967295 ∧ a = .int .u64 q ∧ b = .int .u64 r) (fun a _ => (intOf a).toNat)
        case atStart => exact ⟨q2, r2, E2.out, by omega, by omega, rfl, rfl⟩
        case round =>
          obtain ⟨q, r, hinv, hq1, hr, rfl, rfl⟩ := hrel
          obtain ⟨t, ht⟩ : ∃ t : Nat, t = r + y1 := ⟨_, rfl⟩
          have t1 : (r : Int) + (y1 : Int) = (t : Int) := by omega
          have t2 : IntKind.u64.wrap (t : Int) = (t : Int) := by rw [IntKind.wrap_u64]; omega
          rcases Int.lt_or_le (q : Int) 4294967296 with hq | hq
          · have hm0 : q * y0 ≤ 4294967295 * 4294967295 := Nat.mul_le_mul (by omega) (by omega)
            obtain ⟨m, hm⟩ : ∃ m : Nat, m = q * y0 := ⟨_, rfl⟩
            rw [← hm] at hm0
            have m1 : (q : Int) * (y0 : Int) = (m : Int) := by rw [hm]; exact (Int.natCast_mul q y0).symm
            have m2 : IntKind.u64.wrap (m : Int) = (m : Int) := by rw [IntKind.wrap_u64]; omega
            obtain ⟨n, hn⟩ : ∃ n : Nat, n = 4294967296 * r + v0 := ⟨_, rfl⟩
            have n1 : 4294967296 * (r : Int) + (v0 : Int) = (n : Int) := by omega
            have n2 : IntKind.u64.wrap (n : Int) = (n : Int) := by rw [IntKind.wrap_u64]; omega
            have p3 : decide ((4294967296 : Int) ≤ (q : Int)) = false := by simpa using hq
            rcases Nat.lt_or_ge n m with hx | hx
            · have x1 : decide ((n : Int) < (m : Int)) = true := by simpa using hx
              have x2 : decide (n < m) = true := by simpa using hx
              have hq0 : 0 < q := Nat.pos_of_ne_zero (by rintro rfl; rw [Nat.zero_mul] at hm; omega)
              obtain ⟨p, hp⟩ : ∃ p, q = p + 1 := ⟨q - 1, by omega⟩
              have p1 : (q : Int) - 1 = (p : Int) := by omega
              have p2 : (p : Int) ≤ 4294967296 := by omega
              have p4 : IntKind.u64.wrap (p : Int) = (p : Int) := by rw [IntKind.wrap_u64]; omega
              have hnew : Est u2 v0 y1 y0 p t := by have h := est_yes hinv (by omega) hq0 (by rw [← hm, ← hn]; exact hx); rw [hp, Nat.add_sub_cancel] at h; rw [ht]; exact h
              have I := Lib.hid hnew
              have T := Lib.hid ht
              have P := Lib.hid hp
              clear hp hq ht hinv hm hn hx hm0
              rcases Int.lt_or_le (t : Int) 4294967296 with hb | hb
              · have hb' : decide ((4294967296 : Int) ≤ (t : Int)) = false := by simpa using hb
                have hb2 : (t : Int) ≤ 4294967295 := by omega
                clear hb
                go_wp2_with fail
                go_round
                case rel => exact ⟨p, t, I.out, by omega, hb2, rfl, rfl⟩
                case measure => have := P.out; simp [intOf]; omega
              · have hb' : decide ((4294967296 : Int) ≤ (t : Int)) = true := by simpa using hb
                obtain rfl : p = Q2 := (est_out hnew (by omega) (by omega) (by omega) (by omega)).trans D2.out
                clear hb hnew
                go_upto_region 28 with (fail)
                clear t1 t2 m1 m2 n1 n2 p3 x1 x2 p1 p4 hb'
                go_wp2_with fail
                exact bodyPost_ret (results_tmp2 rfl _ _ _) rfl ⟨_, rfl, rfl⟩
            · have x1 : decide ((n : Int) < (m : Int)) = false := by simpa using hx
              have x2 : decide (n < m) = false := by simpa using hx
              obtain rfl : q = Q2 := (est_no hinv (by omega) (by rw [← hm, ← hn]; exact hx)).trans D2.out
              clear hq ht hinv hm hn hx hm0
              go_upto_region 28 with (fail)
              clear t1 t2 m1 m2 n1 n2 p3 x1 x2
              go_wp2_with fail
              exact bodyPost_ret (results_tmp2 rfl _ _ _) rfl ⟨_, rfl, rfl⟩
          · have p3 : decide ((4294967296 : Int) ≤ (q : Int)) = true := by simpa using hq
            obtain ⟨p, hp⟩ : ∃ p, q = p + 1 := ⟨q - 1, by omega⟩
            have p1 : (q : Int) - 1 = (p : Int) := by omega
            have p2 : (p : Int) ≤ 4294967296 := by omega
            have p4 : IntKind.u64.wrap (p : Int) = (p : Int) := by rw [IntKind.wrap_u64]; omega
            have hnew : Est u2 v0 y1 y0 p t := by have h := est_big hinv (by rw [D2.out]; omega) (by omega); rw [hp, Nat.add_sub_cancel] at h; rw [ht]; exact h
            have I := Lib.hid hnew
            have T := Lib.hid ht
            have P := Lib.hid hp
            clear hp hq ht hinv
            rcases Int.lt_or_le (t : Int) 4294967296 with hb | hb
            · have hb' : decide ((4294967296 : Int) ≤ (t : Int)) = false := by simpa using hb
              have hb2 : (t : Int) ≤ 4294967295 := by omega
              clear hb
              go_wp2_with fail
              go_round
              case rel => exact ⟨p, t, I.out, by omega, hb2, rfl, rfl⟩
              case measure => have := P.out; simp [intOf]; omega
            · have hb' : decide ((4294967296 : Int) ≤ (t : Int)) = true := by simpa using hb
              obtain rfl : p = Q2 := (est_out hnew (by omega) (by omega) (by omega) (by omega)).trans D2.out
              clear hb hnew
              go_upto_region 28 with (fail)
              clear t1 t2 p3 p1 p4 hb'
              go_wp2_with fail
              exact bodyPost_ret (results_tmp2 rfl _ _ _) rfl ⟨_, rfl, rfl⟩
/-- what Div64 answers: the quotient, and some remainder -/
def QuoRem (x : Int) (w : World) (e : Ending) (w' : World) : Prop := ∃ r : Int, e = .returned (.tuple #[.int .u64 x, .int .u64 r]) ∧ ∃ n, w' = w.drewN n
theorem div64_any (hi lo y : Nat) (w : World) (h1 : hi < y) (h2 : y < 18446744073709551616) (h3 : lo < 18446744073709551616) :
    Calls Try.prog 39 #[.int .u64 hi, .int .u64 lo, .int .u64 y] w fun e w' => QuoRem (((hi * 18446744073709551616 + lo) / y : Nat) : Int) w e w' := by
  by_cases h0 : hi = 0
  · subst h0
    have z7 : (0 * 18446744073709551616 + lo) = lo := by omega
    rw [z7]
    obtain ⟨q, hq⟩ : ∃ q : Nat, q = lo / y := ⟨_, rfl⟩
    have hq2 : q ≤ lo := by rw [hq]; exact Nat.div_le_self lo y
    have z2 : ((lo : Int) / (y : Int)) = (q : Int) := by rw [hq]; exact (Int.natCast_ediv lo y).symm
    rw [← hq]
    have z3 : IntKind.u64.wrap (q : Int) = (q : Int) := by rw [IntKind.wrap_u64]; omega
    have z4 : decide ((y : Int) ≤ 0) = false := decide_eq_false (by omega)
    have z5 : decide (y ≤ 0) = false := decide_eq_false (by omega)
    have z6 : ((y : Int) == 0) = false := beq_false_of_ne (by omega)
    have b3 : (lo : Int) ≤ 18446744073709551615 := by omega
    have b2 : (y : Int) ≤ 18446744073709551615 := by omega
    have z8 : (1 : Int) ≤ y := by omega
    clear h1 h2 h3 z7 hq hq2
    go_enter Try.func39, Try.ntmps39
    go_wp2_with fail
    go_quiet (fail)
    go_wp2_with fail
    exact bodyPost_ret (results_tmp2 rfl _ _ _) rfl ⟨_, rfl, _, rfl⟩
  · obtain ⟨b1, b2, b3, b4⟩ := bitLen_pow 64 y h2 (by omega) (by omega)
    obtain ⟨s, hs⟩ : ∃ s : Nat, s = 64 - Lib.bitLen y := ⟨_, rfl⟩
    have hbl : Lib.bitLen y = 64 - s := by omega
    have hsle : s ≤ 63 := by omega
    have hpow : 2 ^ (64 - s) * 2 ^ s = 18446744073709551616 := by
      rw [← Nat.pow_add]
      have : 64 - s + s = 64 := by omega
      rw [this]
    have hPpos : 0 < 2 ^ s := Nat.pow_pos (by omega)
    rw [hbl] at b1 b2
    obtain ⟨Y, hY⟩ : ∃ Y : Nat, Y = y * 2 ^ s := ⟨_, rfl⟩
    have hYlt : Y < 18446744073709551616 := by rw [hY, ← hpow]; exact Nat.mul_lt_mul_of_pos_right b2 hPpos
    have hYge : 18446744073709551616 ≤ 2 * Y := by rw [hY, ← hpow, ← Nat.mul_assoc]; exact Nat.mul_le_mul_right _ b1
    have hHI : hi * 2 ^ s < Y := by rw [hY]; exact Nat.mul_lt_mul_of_pos_right h1 hPpos
    obtain ⟨u, hu⟩ : ∃ u : Nat, u = hi * 2 ^ s + lo * 2 ^ s / 18446744073709551616 := ⟨_, rfl⟩
    obtain ⟨v, hv⟩ : ∃ v : Nat, v = lo * 2 ^ s % 18446744073709551616 := ⟨_, rfl⟩
    have hU : (hi * 18446744073709551616 + lo) * 2 ^ s = u * 18446744073709551616 + v := by
      rw [Nat.add_mul, Nat.mul_right_comm, hu, hv]; omega
    have huY : u < Y := by
      have hlt : hi * 18446744073709551616 + lo < y * 18446744073709551616 := by omega
      have h5 := Nat.mul_lt_mul_of_pos_right hlt hPpos
      rw [hU, Nat.mul_right_comm, ← hY] at h5
      omega
    obtain ⟨y1, hy1⟩ : ∃ y1 : Nat, y1 = Y / 4294967296 := ⟨_, rfl⟩
    obtain ⟨y0, hy0⟩ : ∃ y0 : Nat, y0 = Y % 4294967296 := ⟨_, rfl⟩
    obtain ⟨v1, hv1⟩ : ∃ v1 : Nat, v1 = v / 4294967296 := ⟨_, rfl⟩
    obtain ⟨v0, hv0⟩ : ∃ v0 : Nat, v0 = v % 4294967296 := ⟨_, rfl⟩
    have hvlt : v < 18446744073709551616 := by rw [hv]; exact Nat.mod_lt _ (by omega)
    have hYs : Y = y1 * 4294967296 + y0 := by omega
    have hposY : 0 < Y := by omega
    have huY' : u < y1 * 4294967296 + y0 := by omega
    obtain ⟨X, hX⟩ : ∃ X : Nat, X = u * 4294967296 + v1 := ⟨_, rfl⟩
    obtain ⟨Q1, hQ1⟩ : ∃ Q1 : Nat, Q1 = digit u v1 y1 y0 := ⟨_, rfl⟩
    have hQ1' : Q1 = X / Y := by rw [hQ1, hX, hYs]; rfl
    obtain ⟨u2, hu2⟩ : ∃ u2 : Nat, u2 = X % Y := ⟨_, rfl⟩
    have hu2Y : u2 < Y := by rw [hu2]; exact Nat.mod_lt _ hposY
    have hdm : Y * Q1 + u2 = X := by rw [hQ1', hu2]; exact Nat.div_add_mod X Y
    have hdm' : Q1 * Y + u2 = X := by rw [Nat.mul_comm]; exact hdm
    obtain ⟨Q2, hQ2⟩ : ∃ Q2 : Nat, Q2 = digit u2 v0 y1 y0 := ⟨_, rfl⟩
    have hquo : (hi * 18446744073709551616 + lo) / y = Q1 * 4294967296 + Q2 := by
      rw [← Nat.mul_div_mul_right _ _ hPpos, ← hY, hQ1, hQ2, hu2, hX]
      exact two_digits _ Y y1 y0 u v1 v0 hYs (by rw [hU]; omega) hposY
    rw [hquo]
    have hq1 : 0 < y1 := by omega
    have e4 : bits BinOp.or IntKind.u64 (IntKind.u64.wrap (↑hi * 2 ^ s)) (↑lo / 2 ^ (64 - s)) = (u : Int) := by
      have w1 : ((hi : Int) * 2 ^ s) = ((hi * 2 ^ s : Nat) : Int) := by simp
      have w2 : ((lo : Int) / 2 ^ (64 - s)) = ((lo / 2 ^ (64 - s) : Nat) : Int) := by simp
      have w3 : IntKind.u64.wrap ((hi * 2 ^ s : Nat) : Int) = ((hi * 2 ^ s : Nat) : Int) := by rw [IntKind.wrap_u64]; omega
      have w4 : lo / 2 ^ (64 - s) < 2 ^ s := by
        rw [Nat.div_lt_iff_lt_mul (Nat.pow_pos (by omega)), Nat.mul_comm, hpow]; exact h3
      have w5 : lo / 2 ^ (64 - s) ≤ lo := Nat.div_le_self _ _
      rw [w1, w3, w2, bits_or_u64_nat _ _ (by omega) (by omega), nat_join s _ _ (Nat.mul_mod_left _ _) w4, hu, shift_lo lo s (by omega)]
    have hd0 : u / y1 ≤ 4294967297 := first_le (by omega) (by omega) huY'
    have hd2 : u2 / y1 ≤ 4294967297 := first_le (y0 := y0) (by omega) (by omega) (by omega)
    have hm1 : u / y1 * y1 + u % y1 = u := by rw [Nat.mul_comm]; exact Nat.div_add_mod u y1
    have hm2 : u2 / y1 * y1 + u2 % y1 = u2 := by rw [Nat.mul_comm]; exact Nat.div_add_mod u2 y1
    have hl1 : u % y1 < y1 := Nat.mod_lt _ hq1
    have hl2 : u2 % y1 < y1 := Nat.mod_lt _ hq1
    have hE1 : Est u v1 y1 y0 (u / y1) (u % y1) := est_start hq1 (by omega)
    have hE2 : Est u2 v0 y1 y0 (u2 / y1) (u2 % y1) := est_start hq1 (by omega)
    have c1 : (u : Int) / (y1 : Int) = ((u / y1 : Nat) : Int) := (Int.natCast_ediv u y1).symm
    have c2 : (u2 : Int) / (y1 : Int) = ((u2 / y1 : Nat) : Int) := (Int.natCast_ediv u2 y1).symm
    have c3 : ((u / y1 : Nat) : Int) * (y1 : Int) = ((u / y1 * y1 : Nat) : Int) := (Int.natCast_mul _ _).symm
    have c4 : ((u2 / y1 : Nat) : Int) * (y1 : Int) = ((u2 / y1 * y1 : Nat) : Int) := (Int.natCast_mul _ _).symm
    have c5 : (Q1 : Int) * (Y : Int) = ((Q1 * Y : Nat) : Int) := (Int.natCast_mul _ _).symm
    have hQ1lt : Q1 < 4294967296 := by rw [hQ1]; exact digit_lt (by omega) huY'
    have hQ2lt : Q2 < 4294967296 := by rw [hQ2]; exact digit_lt (by omega) (by omega)
    generalize hg0 : u / y1 = q0 at *
    generalize hg1 : u % y1 = r0 at *
    generalize hg2 : u2 / y1 = q2 at *
    generalize hg3 : u2 % y1 = r2 at *
    generalize hg4 : q0 * y1 = m0 at *
    generalize hg5 : q2 * y1 = m2 at *
    generalize hg6 : Q1 * Y = m3 at *
    refine (div64_core hi lo y s Y y1 y0 u v v1 v0 q0 r0 Q1 (u * 4294967296 % 18446744073709551616) ((u * 4294967296 % 18446744073709551616 + v1) % 18446744073709551616) (m3 % 18446744073709551616) u2 q2 r2 Q2 w
      (by omega) h1 (by omega) (by omega) (by omega) ?e1 ?e2 (by omega) (by omega) (by omega) (by omega) e4 ?e5 (by omega) ?e7 (by omega) (by omega) c1
      (by rw [IntKind.wrap_u64]; omega) (by rw [c3, IntKind.wrap_u64, IntKind.wrap_u64]; omega) (Lib.hid hE1) (by omega) (by omega) (Lib.hid hQ1.symm) (by omega)
      (by rw [IntKind.wrap_u64]; omega) (by rw [IntKind.wrap_u64]; omega) (by rw [c5, IntKind.wrap_u64]; omega) (by rw [IntKind.wrap_u64]; omega) c2
      (by rw [IntKind.wrap_u64]; omega) (by rw [c4, IntKind.wrap_u64, IntKind.wrap_u64]; omega) (Lib.hid hE2) (by omega) (by omega) (Lib.hid hQ2.symm) (by omega)).mono ?_
    case e1 => rw [show ((y : Int) * 2 ^ s) = ((y * 2 ^ s : Nat) : Int) by simp, ← hY, IntKind.wrap_u64]; omega
    case e5 => rw [show ((lo : Int) * 2 ^ s) = ((lo * 2 ^ s : Nat) : Int) by simp, IntKind.wrap_u64, hv]; omega
    case e2 => have h6 := bits_and_u64_nat Y 4294967295 hYlt (by omega); rw [show Y &&& 4294967295 = Y % 4294967296 from Nat.and_two_pow_sub_one_eq_mod Y 32, ← hy0] at h6; exact h6
    case e7 => have h6 := bits_and_u64_nat v 4294967295 hvlt (by omega); rw [show v &&& 4294967295 = v % 4294967296 from Nat.and_two_pow_sub_one_eq_mod v 32, ← hv0] at h6; exact h6
    intro e w' ⟨r, he, hw⟩
    refine ⟨r, ?_, 0, hw.symm⟩
    rw [he]
    have : ((Q1 * 4294967296 + Q2 : Nat) : Int) = (Q1 : Int) * 4294967296 + Q2 := by omega
    rw [this]
end Go.Proofs.Ytehngngkdnmhgaa
