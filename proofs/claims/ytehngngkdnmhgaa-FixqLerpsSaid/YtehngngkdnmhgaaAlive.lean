/- The document's examples of the fixed points hold: the law's own 'alive' answers true. -/
import Derived.Test.YtehngngkdnmhgaaFixSqrt
namespace Go.Proofs.Ytehngngkdnmhgaa
open Go.RowKit

theorem isqrt_two : isqrt ((8589934592 : Int).toNat * 4294967296) = 6074000999 := by
  refine (isqrt_of ?_ ?_).symm <;> decide +kernel
theorem alive_any (w : World) : Calls Try.prog 10 #[] w fun e w' => e = .returned (.bool true) ∧ ∃ n, w' = w.drewN n := by
  have e1 : held ((6442450944 * -10737418240 : Int).tdiv 4294967296) = -16106127360 := by decide +kernel
  have e2 : over ((6442450944 * -10737418240 : Int).tdiv 4294967296) = 0 := by decide +kernel
  have m := fun w => mul_any 6442450944 (-10737418240) w ⟨by omega, by omega⟩ ⟨by omega, by omega⟩
  rw [e1, e2] at m
  have d := fun w => div_zero 4294967296 w
  rw [if_neg (by omega), if_neg (by omega)] at d
  have s := fun w => sqrt_any 8589934592 w (by omega) (by omega)
  rw [isqrt_two] at s
  have M := Lib.hid m; have D := Lib.hid d; have S := Lib.hid s
  clear m d s e1 e2
  go_enter Try.func10, Try.ntmps10
  go_wp2_with (first | (go_at_call 25; refine (M.out _).mono ?_; rintro e w' ⟨rfl, n, rfl⟩) | (go_at_call 26; refine (D.out _).mono ?_; rintro e w' ⟨rfl, n, rfl⟩) | (go_at_call 19; refine (S.out _).mono ?_; rintro e w' ⟨rfl, rfl⟩))
  go_ret
  exact ⟨rfl, _, rfl⟩
end Go.Proofs.Ytehngngkdnmhgaa
