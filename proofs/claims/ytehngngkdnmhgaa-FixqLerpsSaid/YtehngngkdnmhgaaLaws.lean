/- FixqLaws and FixqMono, walked at any numbers. -/
import Derived.Test.YtehngngkdnmhgaaAlive
namespace Go.Proofs.Ytehngngkdnmhgaa
open Go.RowKit
theorem fits_of_wf {a : Int} (h : (Lit.int .i64 a).wf = true) : fits a := by
  simp only [Lit.wf, IntKind.min, IntKind.max, IntKind.signed, IntKind.bits, Bool.and_eq_true, decide_eq_true_eq, if_true] at h
  unfold fits
  omega
theorem tdiv_one (a : Int) : (a * 4294967296).tdiv 4294967296 = a := Int.mul_tdiv_cancel a (by omega)
theorem laws_core (a b X F P H : Int) (w : World)
    (A1 : Hid (∀ w, Calls Try.prog 11 #[.int .i64 a, .int .i64 b] w fun e w' => e = .returned (.tuple #[.int .i64 X, .int .i64 F]) ∧ w = w'))
    (A2 : Hid (∀ w, Calls Try.prog 11 #[.int .i64 b, .int .i64 a] w fun e w' => e = .returned (.tuple #[.int .i64 X, .int .i64 F]) ∧ w = w'))
    (M1 : Hid (∀ w, Calls Try.prog 25 #[.int .i64 a, .int .i64 b] w fun e w' => Two P H w e w'))
    (M2 : Hid (∀ w, Calls Try.prog 25 #[.int .i64 b, .int .i64 a] w fun e w' => Two P H w e w'))
    (M3 : Hid (∀ w, Calls Try.prog 25 #[.int .i64 a, .int .i64 4294967296] w fun e w' => Two a 0 w e w'))
    (D : Hid (∀ w, Calls Try.prog 26 #[.int .i64 a, .int .i64 4294967296] w fun e w' => Two a 0 w e w'))
    (f0 : (F != 0) = true) :
    Calls Try.prog 6 #[.int .i64 a, .int .i64 b] w fun e w' => e = .returned (.bool true) ∧ ∃ n, w' = w.drewN n := by
  go_enter Try.func6, Try.ntmps6
  go_wp2_with (first | (go_at_call 10; go_loud (refine (alive_any _).mono ?_); rintro e w' ⟨rfl, n, rfl⟩) | (go_at_call 11; first | ((with_reducible refine (A1.out _).mono ?_); rintro e w' ⟨rfl, rfl⟩) | ((with_reducible refine (A2.out _).mono ?_); rintro e w' ⟨rfl, rfl⟩)) | (go_at_call 25; first | ((with_reducible refine (M1.out _).mono ?_); rintro e w' ⟨rfl, n, rfl⟩) | ((with_reducible refine (M2.out _).mono ?_); rintro e w' ⟨rfl, n, rfl⟩) | ((with_reducible refine (M3.out _).mono ?_); rintro e w' ⟨rfl, n, rfl⟩)) | (go_at_call 26; refine (D.out _).mono ?_; rintro e w' ⟨rfl, n, rfl⟩))
  go_ret
  exact ⟨rfl, _, rfl⟩
theorem laws_zero (a b X P H : Int) (w : World)
    (A1 : Hid (∀ w, Calls Try.prog 11 #[.int .i64 a, .int .i64 b] w fun e w' => e = .returned (.tuple #[.int .i64 X, .int .i64 0]) ∧ w = w'))
    (A2 : Hid (∀ w, Calls Try.prog 11 #[.int .i64 b, .int .i64 a] w fun e w' => e = .returned (.tuple #[.int .i64 X, .int .i64 0]) ∧ w = w'))
    (M1 : Hid (∀ w, Calls Try.prog 25 #[.int .i64 a, .int .i64 b] w fun e w' => Two P H w e w'))
    (M2 : Hid (∀ w, Calls Try.prog 25 #[.int .i64 b, .int .i64 a] w fun e w' => Two P H w e w'))
    (M3 : Hid (∀ w, Calls Try.prog 25 #[.int .i64 a, .int .i64 4294967296] w fun e w' => Two a 0 w e w'))
    (D : Hid (∀ w, Calls Try.prog 26 #[.int .i64 a, .int .i64 4294967296] w fun e w' => Two a 0 w e w'))
    (S : Hid (∀ w, Calls Try.prog 12 #[.int .i64 X, .int .i64 b] w fun e w' => e = .returned (.tuple #[.int .i64 a, .int .i64 0]) ∧ w = w')) :
    Calls Try.prog 6 #[.int .i64 a, .int .i64 b] w fun e w' => e = .returned (.bool true) ∧ ∃ n, w' = w.drewN n := by
  go_enter Try.func6, Try.ntmps6
  go_wp2_with (first | (go_at_call 10; go_loud (refine (alive_any _).mono ?_); rintro e w' ⟨rfl, n, rfl⟩) | (go_at_call 11; first | ((with_reducible refine (A1.out _).mono ?_); rintro e w' ⟨rfl, rfl⟩) | ((with_reducible refine (A2.out _).mono ?_); rintro e w' ⟨rfl, rfl⟩)) | (go_at_call 25; first | ((with_reducible refine (M1.out _).mono ?_); rintro e w' ⟨rfl, n, rfl⟩) | ((with_reducible refine (M2.out _).mono ?_); rintro e w' ⟨rfl, n, rfl⟩) | ((with_reducible refine (M3.out _).mono ?_); rintro e w' ⟨rfl, n, rfl⟩)) | (go_at_call 26; refine (D.out _).mono ?_; rintro e w' ⟨rfl, n, rfl⟩) | (go_at_call 12; refine (S.out _).mono ?_; rintro e w' ⟨rfl, rfl⟩))
  go_ret
  exact ⟨rfl, _, rfl⟩
theorem laws_any (a b : Int) (w : World) (ha : fits a) (hb : fits b) :
    Calls Try.prog 6 #[.int .i64 a, .int .i64 b] w fun e w' => e = .returned (.bool true) ∧ ∃ n, w' = w.drewN n := by
  have A1 := fun w => add_any a b w ha hb
  have A2 := fun w => add_any b a w hb ha
  have M1 := fun w => mul_any a b w ha hb
  have M2 := fun w => mul_any b a w hb ha
  have M3 := fun w => mul_any a 4294967296 w ha ⟨by omega, by omega⟩
  have D := fun w => div_any a 4294967296 w ha ⟨by omega, by omega⟩ (by omega)
  rw [Int.add_comm b a] at A2
  rw [Int.mul_comm b a] at M2
  rw [tdiv_one, held_in ha.1 ha.2, over_in ha.1 ha.2] at M3 D
  by_cases ho : a + b < -9223372036854775808 ∨ 9223372036854775807 < a + b
  · have f0 : (over (a + b) != 0) = true := by rw [over_out ho]; rfl
    exact laws_core a b _ _ _ _ w (Lib.hid A1) (Lib.hid A2) (Lib.hid M1) (Lib.hid M2) (Lib.hid M3) (Lib.hid D) f0
  · rw [held_in (by omega) (by omega), over_in (by omega) (by omega)] at A1 A2
    have S := fun w => sub_any (a + b) b w ⟨by omega, by omega⟩ hb
    rw [show a + b - b = a by omega, held_in ha.1 ha.2, over_in ha.1 ha.2] at S
    exact laws_zero a b _ _ _ w (Lib.hid A1) (Lib.hid A2) (Lib.hid M1) (Lib.hid M2) (Lib.hid M3) (Lib.hid D) (Lib.hid S)
end Go.Proofs.Ytehngngkdnmhgaa
