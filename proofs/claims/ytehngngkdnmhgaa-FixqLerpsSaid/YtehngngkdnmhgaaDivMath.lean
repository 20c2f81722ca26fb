/- Plain arithmetic under math/bits.Div64: shifting the dividend and the divisor alike leaves the quotient; two digits make it. -/
import Derived.Test.YtehngngkdnmhgaaFixMath
import Derived.Lib.BitFns
import Derived.Laws.BitsAllLaws
namespace Go.Proofs.Ytehngngkdnmhgaa
open Go.RowKit

theorem bitLen_pow : ∀ (f x : Nat), x < 2 ^ f → f ≤ 64 → 0 < x → 2 ^ Lib.bitLen x ≤ 2 * x ∧ x < 2 ^ Lib.bitLen x ∧ Lib.bitLen x ≤ f ∧ 1 ≤ Lib.bitLen x := by
  intro f
  induction f with
  | zero => intro x h _ h0; simp at h; omega
  | succ f ih =>
    intro x h hf h0
    have h64 : x < 2 ^ 64 := Nat.lt_of_lt_of_le h (Nat.pow_le_pow_right (by omega) hf)
    rw [Lib.bitLen_half x (by omega) h64]
    by_cases h1 : x / 2 = 0
    · have : x = 1 := by omega
      subst this
      have : Lib.bitLen (1 / 2) = 0 := by decide
      rw [this]
      omega
    · have := ih (x / 2) (by rw [Nat.pow_succ] at h; omega) (by omega) (by omega)
      rw [Nat.pow_add]
      omega

/-- the dividend's two words, shifted -/
theorem shift_hi (hi lo s : Nat) : (hi * 18446744073709551616 + lo) * 2 ^ s / 18446744073709551616 = hi * 2 ^ s + lo * 2 ^ s / 18446744073709551616 := by
  rw [Nat.add_mul, Nat.mul_right_comm, Nat.add_comm, Nat.add_mul_div_right _ _ (by omega), Nat.add_comm]
theorem shift_lo (lo s : Nat) (hs : s ≤ 64) : lo * 2 ^ s / 18446744073709551616 = lo / 2 ^ (64 - s) := by
  have e : 18446744073709551616 = 2 ^ (64 - s) * 2 ^ s := by rw [← Nat.pow_add]; have : 64 - s + s = 64 := by omega
                                                             rw [this]
  rw [e, Nat.mul_div_mul_right _ _ (Nat.pow_pos (by omega))]
theorem two_digits_at (B X v0 Y : Nat) (hpos : 0 < Y) : (X * B + v0) / Y = X / Y * B + (X % Y * B + v0) / Y := by
  have h : X * B + v0 = Y * (X / Y * B) + (X % Y * B + v0) := by
    rw [← Nat.mul_assoc, ← Nat.add_assoc, ← Nat.add_mul, Nat.div_add_mod]
  rw [h, Nat.mul_add_div hpos]
/-- two digits, one behind the other, are the quotient -/
theorem two_digits (U Y y1 y0 u v1 v0 : Nat) (hY : Y = y1 * 4294967296 + y0) (hU : U = (u * 4294967296 + v1) * 4294967296 + v0) (hpos : 0 < Y) :
    U / Y = digit u v1 y1 y0 * 4294967296 + digit ((u * 4294967296 + v1) % Y) v0 y1 y0 := by
  unfold digit
  rw [← hY, hU]
  exact two_digits_at _ _ _ _ hpos

/-- two words shifted down by k -/
theorem two_words_down (H L k : Nat) (hk : k ≤ 64) (hL : L < 18446744073709551616) :
    H / 2 ^ k * 18446744073709551616 + ((H * 2 ^ (64 - k) % 18446744073709551616) ||| (L / 2 ^ k)) = (H * 18446744073709551616 + L) / 2 ^ k ∧
    ((H * 2 ^ (64 - k) % 18446744073709551616) ||| (L / 2 ^ k)) < 18446744073709551616 := by
  have hW : 18446744073709551616 = 2 ^ (64 - k) * 2 ^ k := by
    rw [← Nat.pow_add]
    have : 64 - k + k = 64 := by omega
    rw [this]
  have hp : 0 < 2 ^ k := Nat.pow_pos (by omega)
  have hp' : 0 < 2 ^ (64 - k) := Nat.pow_pos (by omega)
  have h2 : L / 2 ^ k < 2 ^ (64 - k) := by rw [Nat.div_lt_iff_lt_mul hp, ← hW]; exact hL
  have h1 : H * 2 ^ (64 - k) % 18446744073709551616 % 2 ^ (64 - k) = 0 := by
    rw [hW, Nat.mod_mul_right_mod, Nat.mul_mod_left]
  have h3 : L / 2 ^ k ≤ L := Nat.div_le_self _ _
  refine ⟨?_, Nat.or_lt_two_pow (n := 64) (Nat.mod_lt _ (by omega)) (by omega)⟩
  rw [nat_join (64 - k) _ _ h1 h2]
  have h4 : H * 2 ^ (64 - k) / 18446744073709551616 = H / 2 ^ k := by
    rw [hW, Nat.mul_comm H, Nat.mul_div_mul_left _ _ hp']
  have h5 : (H * 18446744073709551616 + L) / 2 ^ k = H * 2 ^ (64 - k) + L / 2 ^ k := by
    rw [hW, ← Nat.mul_assoc, Nat.add_comm, Nat.add_mul_div_right _ _ hp, Nat.add_comm]
  rw [h5]
  omega
end Go.Proofs.Ytehngngkdnmhgaa
