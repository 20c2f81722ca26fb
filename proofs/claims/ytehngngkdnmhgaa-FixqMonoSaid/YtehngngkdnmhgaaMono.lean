/- FixqMono, walked at any numbers. -/
import Derived.Test.YtehngngkdnmhgaaLaws
namespace Go.Proofs.Ytehngngkdnmhgaa
open Go.RowKit

/-- the root, and the flags, that Sqrt answers -/
def rootOf (a : Int) : Int := if a < 0 then 0 else (isqrt (a.toNat * 4294967296) : Nat)
def rootFlag (a : Int) : Int := if a < 0 then 2 else 0
theorem sqrt_all (a : Int) (w : World) (ha : fits a) : Calls Try.prog 19 #[.int .i64 a] w fun e w' => e = .returned (.tuple #[.int .i64 (rootOf a), .int .i64 (rootFlag a)]) ∧ w = w' := by
  unfold rootOf rootFlag
  by_cases h : a < 0
  · rw [if_pos h, if_pos h]; exact sqrt_below a w h
  · rw [if_neg h, if_neg h]; exact sqrt_any a w (by omega) ha.2
theorem rootOf_mono {a b : Int} (h : a ≤ b) : rootOf a ≤ rootOf b := by
  unfold rootOf
  split <;> split
  · omega
  · omega
  · omega
  · have := isqrt_mono (a := a.toNat * 4294967296) (b := b.toNat * 4294967296) (by omega)
    omega
theorem tdiv_mono {x y c : Int} (hc : 0 < c) (h : x ≤ y) : x.tdiv c ≤ y.tdiv c := by
  have key : ∀ z : Int, z < 0 → z.tdiv c = -((-z) / c) := fun z hz => by
    rw [← Int.tdiv_eq_ediv_of_nonneg (by omega), Int.neg_tdiv, Int.neg_neg]
  by_cases hx : x < 0 <;> by_cases hy : y < 0
  · rw [key x hx, key y hy]
    have := Int.ediv_le_ediv hc (show -y ≤ -x by omega)
    omega
  · rw [key x hx, Int.tdiv_eq_ediv_of_nonneg (by omega)]
    have h1 := Int.ediv_nonneg (show 0 ≤ -x by omega) (show 0 ≤ c by omega)
    have h2 := Int.ediv_nonneg (show 0 ≤ y by omega) (show 0 ≤ c by omega)
    omega
  · omega
  · rw [Int.tdiv_eq_ediv_of_nonneg (by omega), Int.tdiv_eq_ediv_of_nonneg (by omega)]
    exact Int.ediv_le_ediv hc h
theorem mono_core (a b c X Y P Q S T F1 F2 F3 F4 F5 F6 M N : Int) (w : World) (h : a ≤ b)
    (A1 : Hid (∀ w, Calls Try.prog 11 #[.int .i64 a, .int .i64 c] w fun e w' => e = .returned (.tuple #[.int .i64 X, .int .i64 F1]) ∧ w = w'))
    (A2 : Hid (∀ w, Calls Try.prog 11 #[.int .i64 b, .int .i64 c] w fun e w' => e = .returned (.tuple #[.int .i64 Y, .int .i64 F2]) ∧ w = w'))
    (R1 : Hid (∀ w, Calls Try.prog 19 #[.int .i64 a] w fun e w' => e = .returned (.tuple #[.int .i64 P, .int .i64 F3]) ∧ w = w'))
    (R2 : Hid (∀ w, Calls Try.prog 19 #[.int .i64 b] w fun e w' => e = .returned (.tuple #[.int .i64 Q, .int .i64 F4]) ∧ w = w'))
    (H1 : Hid (∀ w, Calls Try.prog 21 #[.int .i64 a] w fun e w' => e = .returned (.int .i64 S) ∧ w = w'))
    (H2 : Hid (∀ w, Calls Try.prog 21 #[.int .i64 b] w fun e w' => e = .returned (.int .i64 T) ∧ w = w'))
    (D1 : Hid (c ≤ 0 ∨ ∀ w, Calls Try.prog 26 #[.int .i64 a, .int .i64 c] w fun e w' => Two M F5 w e w'))
    (D2 : Hid (c ≤ 0 ∨ ∀ w, Calls Try.prog 26 #[.int .i64 b, .int .i64 c] w fun e w' => Two N F6 w e w'))
    (x1 : X ≤ Y) (x2 : P ≤ Q) (x3 : S ≤ T) (x4 : M ≤ N) :
    Calls Try.prog 7 #[.int .i64 a, .int .i64 b, .int .i64 c] w fun e w' => e = .returned (.bool true) ∧ ∃ n, w' = w.drewN n := by
  have z1 : decide (b < a) = false := decide_eq_false (by omega)
  have z2 : decide (Y < X) = false := decide_eq_false (by omega)
  have z3 : decide (Q < P) = false := decide_eq_false (by omega)
  have z4 : decide (T < S) = false := decide_eq_false (by omega)
  have z5 : decide (M ≤ N) = true := decide_eq_true x4
  by_cases hc : c ≤ 0
  · have z6 : decide (c ≤ 0) = true := decide_eq_true hc
    clear D1 D2
    go_enter Try.func7, Try.ntmps7
    go_wp2_with (first | (go_at_call 10; refine (alive_any _).mono ?_; rintro e w' ⟨rfl, n, rfl⟩) | (go_at_call 11; first | (with_reducible refine (A1.out _).mono ?_; rintro e w' ⟨rfl, rfl⟩) | (with_reducible refine (A2.out _).mono ?_; rintro e w' ⟨rfl, rfl⟩)) | (go_at_call 19; first | (with_reducible refine (R1.out _).mono ?_; rintro e w' ⟨rfl, rfl⟩) | (with_reducible refine (R2.out _).mono ?_; rintro e w' ⟨rfl, rfl⟩)) | (go_at_call 21; first | (with_reducible refine (H1.out _).mono ?_; rintro e w' ⟨rfl, rfl⟩) | (with_reducible refine (H2.out _).mono ?_; rintro e w' ⟨rfl, rfl⟩)))
    go_ret
    exact ⟨rfl, _, rfl⟩
  · have z6 : decide (c ≤ 0) = false := decide_eq_false hc
    have E1 := Lib.hid (D1.out.resolve_left hc)
    have E2 := Lib.hid (D2.out.resolve_left hc)
    clear D1 D2
    have hc' : 0 < c := by omega
    clear hc
    go_enter Try.func7, Try.ntmps7
    go_wp2_with (first | (go_at_call 10; refine (alive_any _).mono ?_; rintro e w' ⟨rfl, n, rfl⟩) | (go_at_call 11; first | (with_reducible refine (A1.out _).mono ?_; rintro e w' ⟨rfl, rfl⟩) | (with_reducible refine (A2.out _).mono ?_; rintro e w' ⟨rfl, rfl⟩)) | (go_at_call 19; first | (with_reducible refine (R1.out _).mono ?_; rintro e w' ⟨rfl, rfl⟩) | (with_reducible refine (R2.out _).mono ?_; rintro e w' ⟨rfl, rfl⟩)) | (go_at_call 21; first | (with_reducible refine (H1.out _).mono ?_; rintro e w' ⟨rfl, rfl⟩) | (with_reducible refine (H2.out _).mono ?_; rintro e w' ⟨rfl, rfl⟩)) | (go_at_call 26; first | ((with_reducible refine (E1.out _).mono ?_); rintro e w' ⟨rfl, n, rfl⟩) | ((with_reducible refine (E2.out _).mono ?_); rintro e w' ⟨rfl, n, rfl⟩)))
    go_ret
    exact ⟨rfl, _, rfl⟩
theorem mono_any (a b c : Int) (w : World) (ha : fits a) (hb : fits b) (hc : fits c) :
    Calls Try.prog 7 #[.int .i64 a, .int .i64 b, .int .i64 c] w fun e w' => e = .returned (.bool true) ∧ ∃ n, w' = w.drewN n := by
  by_cases h : a ≤ b
  · refine mono_core a b c _ _ _ _ _ _ _ _ _ _ (over ((a * 4294967296).tdiv c)) (over ((b * 4294967296).tdiv c)) (if 0 < c then held ((a * 4294967296).tdiv c) else 0) (if 0 < c then held ((b * 4294967296).tdiv c) else 0) w h (Lib.hid fun w => add_any a c w ha hc) (Lib.hid fun w => add_any b c w hb hc)
      (Lib.hid fun w => sqrt_all a w ha) (Lib.hid fun w => sqrt_all b w hb) (Lib.hid fun w => half_any a w ha) (Lib.hid fun w => half_any b w hb) ?_ ?_ (held_mono (by omega)) (rootOf_mono h) (tdiv_mono (by omega) h) ?_
    · by_cases h0 : c ≤ 0
      · exact Lib.hid (.inl h0)
      · rw [if_pos (by omega)]; exact Lib.hid (.inr fun w => div_any a c w ha hc (by omega))
    · by_cases h0 : c ≤ 0
      · exact Lib.hid (.inl h0)
      · rw [if_pos (by omega)]; exact Lib.hid (.inr fun w => div_any b c w hb hc (by omega))
    · by_cases h0 : 0 < c
      · rw [if_pos h0, if_pos h0]; exact held_mono (tdiv_mono h0 (by omega))
      · rw [if_neg h0, if_neg h0]; omega
  · have z1 : decide (b < a) = true := decide_eq_true (by omega)
    have h' : b < a := by omega
    clear h
    go_enter Try.func7, Try.ntmps7
    go_wp2_with (first | (go_at_call 10; refine (alive_any _).mono ?_; rintro e w' ⟨rfl, n, rfl⟩))
    go_ret
    exact ⟨rfl, _, rfl⟩
end Go.Proofs.Ytehngngkdnmhgaa
