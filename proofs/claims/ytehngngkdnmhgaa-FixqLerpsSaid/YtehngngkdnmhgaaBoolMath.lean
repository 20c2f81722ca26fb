/- Numbers as lists of bits, the lowest first: what they are worth, how they compare, plus, minus, times. Nothing of the program. -/
import Derived.WalkKit
namespace Go.Proofs.Ytehngngkdnmhgaa
open Go.RowKit

def bit (b : Bool) : Nat := if b then 1 else 0
def val : List Bool → Nat
  | [] => 0
  | b :: r => bit b + 2 * val r
theorem bit_le (b : Bool) : bit b ≤ 1 := by cases b <;> simp [bit]
theorem val_lt (xs : List Bool) : val xs < 2 ^ xs.length := by
  induction xs with
  | nil => simp [val]
  | cons b r ih =>
    have := bit_le b
    simp only [val, List.length_cons, Nat.pow_succ]
    omega
theorem val_append (xs ys : List Bool) : val (xs ++ ys) = val xs + 2 ^ xs.length * val ys := by
  induction xs with
  | nil => simp [val]
  | cons b r ih =>
    simp only [List.cons_append, val, ih, List.length_cons, Nat.pow_succ]
    rw [Nat.mul_add, Nat.mul_right_comm, Nat.mul_comm 2 (2 ^ r.length * val ys), Nat.add_assoc]
theorem val_snoc (xs : List Bool) (b : Bool) : val (xs ++ [b]) = val xs + 2 ^ xs.length * bit b := by
  rw [val_append]; simp [val]
theorem val_take_succ {xs : List Bool} {k : Nat} {b : Bool} (h : xs[k]? = some b) : val (xs.take (k + 1)) = val (xs.take k) + 2 ^ k * bit b := by
  obtain ⟨hk, hb⟩ := List.getElem?_eq_some_iff.1 h
  rw [List.take_succ_eq_append_getElem hk, val_snoc, hb, List.length_take, Nat.min_eq_left (by omega)]
theorem val_split (xs : List Bool) (k : Nat) : val xs = val (xs.take k) + 2 ^ min k xs.length * val (xs.drop k) := by
  have h := val_append (xs.take k) (xs.drop k)
  rw [List.take_append_drop, List.length_take] at h
  exact h
theorem val_drop (xs : List Bool) (n : Nat) : val (xs.drop n) = val xs / 2 ^ n := by
  by_cases hn : n ≤ xs.length
  · have h := val_split xs n
    rw [Nat.min_eq_left hn] at h
    have h2 := val_lt (xs.take n)
    rw [List.length_take, Nat.min_eq_left hn] at h2
    rw [h, Nat.add_comm, Nat.mul_add_div (Nat.pow_pos (by omega)), Nat.div_eq_of_lt h2, Nat.add_zero]
  · rw [List.drop_eq_nil_of_le (by omega)]
    have h := val_lt xs
    have h2 : 2 ^ xs.length ≤ 2 ^ n := Nat.pow_le_pow_right (by omega) (by omega)
    rw [Nat.div_eq_of_lt (by omega)]
    rfl
theorem val_zeros (n : Nat) : val (List.replicate n false) = 0 := by
  induction n with
  | zero => rfl
  | succ n ih => rw [List.replicate_succ, val, ih]; rfl
/-- no bit 0 at the top -/
def Tr (xs : List Bool) : Prop := ∀ k, xs[k]? = some false → k + 1 ≠ xs.length
theorem tr_nil : Tr [] := fun k h => by simp at h
theorem tr_ge {xs : List Bool} (h : Tr xs) (hn : xs ≠ []) : 2 ^ (xs.length - 1) ≤ val xs := by
  have hl : 0 < xs.length := List.length_pos_iff.2 hn
  obtain ⟨k, hk⟩ : ∃ k, xs.length = k + 1 := ⟨xs.length - 1, by omega⟩
  have hx : xs[k]? = some xs[k] := List.getElem?_eq_getElem (by omega)
  have hb : xs[k] = true := by
    cases hb : xs[k] with
    | true => rfl
    | false => rw [hb] at hx; exact absurd hk.symm (h k hx)
  rw [hb] at hx
  have h2 := val_take_succ hx
  rw [← hk, List.take_length] at h2
  rw [h2, hk]
  simp [bit]
/-- of trimmed ones the longer is the greater -/
theorem tr_longer {xs ys : List Bool} (h : Tr ys) (hl : xs.length < ys.length) : val xs < val ys := by
  have h1 := val_lt xs
  have h2 := tr_ge h (by intro e; rw [e] at hl; simp at hl)
  have h3 : 2 ^ xs.length ≤ 2 ^ (ys.length - 1) := Nat.pow_le_pow_right (by omega) (by omega)
  omega
/-- of the same length: the topmost bit that differs decides -/
theorem top_decides {xs ys : List Bool} {k : Nat} (hl : xs.length = ys.length) (hs : xs.drop (k + 1) = ys.drop (k + 1)) (hx : xs[k]? = some false) (hy : ys[k]? = some true) : val xs < val ys := by
  obtain ⟨hk, _⟩ := List.getElem?_eq_some_iff.1 hx
  rw [val_split xs (k + 1), val_split ys (k + 1), hs, ← hl, val_take_succ hx, val_take_succ hy]
  have h1 := val_lt (xs.take k)
  rw [List.length_take, Nat.min_eq_left (by omega)] at h1
  simp only [bit]
  simp
  omega
def cmpV (a b : Nat) : Int := if a < b then -1 else if b < a then 1 else 0
theorem cmpV_lt {a b : Nat} (h : a < b) : cmpV a b = -1 := by unfold cmpV; rw [if_pos h]
theorem cmpV_gt {a b : Nat} (h : b < a) : cmpV a b = 1 := by unfold cmpV; rw [if_neg (by omega), if_pos h]
theorem cmpV_eq {a b : Nat} (h : a = b) : cmpV a b = 0 := by unfold cmpV; rw [if_neg (by omega), if_neg (by omega)]
end Go.Proofs.Ytehngngkdnmhgaa
