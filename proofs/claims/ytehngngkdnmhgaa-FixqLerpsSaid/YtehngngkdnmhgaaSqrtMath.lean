/- Plain arithmetic under fixq.Sqrt: roots, and how one is found bit by bit. Nothing of the program. -/
import Derived.Test.YtehngngkdnmhgaaDivMath
namespace Go.Proofs.Ytehngngkdnmhgaa
open Go.RowKit

/-- the greatest number whose square isn't above n -/
def isqrt : Nat → Nat
  | 0 => 0
  | n + 1 => if (isqrt n + 1) * (isqrt n + 1) ≤ n + 1 then isqrt n + 1 else isqrt n
theorem isqrt_spec (n : Nat) : isqrt n * isqrt n ≤ n ∧ n < (isqrt n + 1) * (isqrt n + 1) := by
  induction n with
  | zero => simp [isqrt]
  | succ n ih =>
    unfold isqrt
    split
    · rename_i h
      refine ⟨h, ?_⟩
      have h2 : (isqrt n + 1) * (isqrt n + 1) < (isqrt n + 1 + 1) * (isqrt n + 1 + 1) := Nat.mul_self_lt_mul_self (by omega)
      omega
    · rename_i h
      omega
theorem isqrt_of {n r : Nat} (h1 : r * r ≤ n) (h2 : n < (r + 1) * (r + 1)) : r = isqrt n := by
  obtain ⟨h3, h4⟩ := isqrt_spec n
  rcases Nat.lt_trichotomy r (isqrt n) with h | h | h
  · have : (r + 1) * (r + 1) ≤ isqrt n * isqrt n := Nat.mul_self_le_mul_self (by omega)
    omega
  · exact h
  · have : (isqrt n + 1) * (isqrt n + 1) ≤ r * r := Nat.mul_self_le_mul_self (by omega)
    omega
theorem isqrt_mono {a b : Nat} (h : a ≤ b) : isqrt a ≤ isqrt b := by
  obtain ⟨h1, h2⟩ := isqrt_spec a
  obtain ⟨h3, h4⟩ := isqrt_spec b
  refine Nat.le_of_not_lt fun hn => ?_
  have : (isqrt b + 1) * (isqrt b + 1) ≤ isqrt a * isqrt a := Nat.mul_self_le_mul_self (by omega)
  omega
/-- on the way: r is what was found of the root of n, P the power of two that all bits still to come are below -/
def Way (n r P : Nat) : Prop := r * r ≤ n ∧ n < (r + P) * (r + P)
theorem way_yes {n r B : Nat} (h : Way n r (B + B)) (ht : (r + B) * (r + B) ≤ n) : Way n (r + B) B := by
  refine ⟨ht, ?_⟩
  rw [Nat.add_assoc]; exact h.2
theorem way_no {n r B : Nat} (h : Way n r (B + B)) (ht : n < (r + B) * (r + B)) : Way n r B := ⟨h.1, ht⟩
/-- the place of the bits: B a power of two, 0 behind the last one -/
def Place (r B : Nat) : Prop := ∃ j, j ≤ 48 ∧ B = 2 ^ j / 2 ∧ r % 2 ^ j = 0 ∧ r + 2 ^ j ≤ 281474976710656
theorem place_end {r : Nat} {n : Nat} (h : ∃ j, j ≤ 48 ∧ 0 = 2 ^ j / 2 ∧ r % 2 ^ j = 0 ∧ r + 2 ^ j ≤ 281474976710656 ∧ Way n r (2 ^ j)) : r = isqrt n := by
  obtain ⟨j, _, h0, _, _, hw⟩ := h
  have : j = 0 := by
    cases j with
    | zero => rfl
    | succ j => rw [Nat.pow_succ] at h0; have := Nat.pow_pos (n := j) (show 0 < 2 by omega); omega
  subst this
  exact isqrt_of hw.1 hw.2
def At (n r B : Nat) : Prop := ∃ j, j ≤ 48 ∧ B = 2 ^ j / 2 ∧ r % 2 ^ j = 0 ∧ r + 2 ^ j ≤ 281474976710656 ∧ Way n r (2 ^ j)
theorem at_end {n r : Nat} (h : At n r 0) : r = isqrt n := place_end h
theorem at_start {n : Nat} (h : n < 281474976710656 * 281474976710656) : At n 0 140737488355328 :=
  ⟨48, by omega, by decide, by simp, by decide, by simp, by rw [Nat.zero_add]; exact h⟩
theorem at_step {n r B : Nat} (h : At n r B) (hB : B ≠ 0) :
    (r ||| B = r + B) ∧ r + B < 281474976710656 ∧ ((r + B) * (r + B) ≤ n → At n (r + B) (B / 2)) ∧ (n < (r + B) * (r + B) → At n r (B / 2)) := by
  obtain ⟨j, hj, hb, hm, hl, hw⟩ := h
  obtain ⟨i, rfl⟩ : ∃ i, j = i + 1 := by
    cases j with
    | zero => simp at hb; omega
    | succ i => exact ⟨i, rfl⟩
  have hp := Nat.pow_pos (n := i) (show 0 < 2 by omega)
  have e : 2 ^ (i + 1) = 2 ^ i + 2 ^ i := by rw [Nat.pow_succ]; omega
  have eb : B = 2 ^ i := by rw [e] at hb; omega
  rw [e] at hw hl
  have hd : r % 2 ^ i = 0 := by
    rw [← Nat.mod_mul_right_mod r (2 ^ i) 2, ← Nat.pow_succ, hm, Nat.zero_mod]
  have hlt : 2 ^ i < 2 ^ (i + 1) := by omega
  refine ⟨by rw [eb]; exact nat_join (i + 1) r (2 ^ i) hm hlt, by omega, fun ht => ⟨i, by omega, by rw [eb], ?_, by omega, ?_⟩, fun ht => ⟨i, by omega, by rw [eb], hd, by omega, ?_⟩⟩
  · rw [eb, Nat.add_mod_right]; exact hd
  · rw [eb] at ht ⊢; exact way_yes hw ht
  · rw [eb] at ht; exact way_no hw ht
end Go.Proofs.Ytehngngkdnmhgaa
