/- Decimal digits of numbers and of parts of 2^32; zeros at the end cut off. Nothing of the program. -/
import Derived.WalkKit
namespace Go.Proofs.YtnlbfdhhdnapnaaGreat
open Go.RowKit

/-- a decimal digit -/
def dg (n : Nat) : UInt8 := UInt8.ofNat (48 + n)
/-- a number's decimal digits -/
def digs (n : Nat) : List UInt8 := if n < 10 then [dg n] else digs (n / 10) ++ [dg (n % 10)]
termination_by n
decreasing_by omega
theorem digs_small {n : Nat} (h : n < 10) : digs n = [dg n] := by rw [digs, if_pos h]
theorem digs_step {n : Nat} (h : 10 ≤ n) : digs n = digs (n / 10) ++ [dg (n % 10)] := by rw [digs, if_neg (by omega)]
/-- the first n digits behind the point of b parts of 2^32, and what is left of them -/
def frac : Nat → Nat → List UInt8
  | 0, _ => []
  | n + 1, b => dg (b * 10 / 4294967296) :: frac n (b * 10 % 4294967296)
def rest : Nat → Nat → Nat
  | 0, b => b
  | n + 1, b => rest n (b * 10 % 4294967296)
theorem frac_snoc (n b : Nat) : frac (n + 1) b = frac n b ++ [dg (rest n b * 10 / 4294967296)] := by
  induction n generalizing b with
  | zero => rfl
  | succ n ih => rw [frac, ih, frac]; rfl
theorem rest_succ (n b : Nat) : rest (n + 1) b = rest n b * 10 % 4294967296 := by
  induction n generalizing b with
  | zero => rfl
  | succ n ih => rw [rest, ih]; rfl
theorem frac_length (n b : Nat) : (frac n b).length = n := by
  induction n generalizing b with
  | zero => rfl
  | succ n ih => rw [frac, List.length_cons, ih]
theorem rest_lt (n : Nat) {b : Nat} (h : b < 4294967296) : rest n b < 4294967296 := by
  induction n generalizing b with
  | zero => exact h
  | succ n ih => rw [rest]; exact ih (Nat.mod_lt _ (by omega))
/-- without digits 0 at the end -/
def strip (l : List UInt8) : List UInt8 := (l.reverse.dropWhile (· == 48)).reverse
theorem strip_nil : strip [] = [] := rfl
theorem strip_zero (l : List UInt8) : strip (l ++ [48]) = strip l := by unfold strip; simp
theorem strip_other (l : List UInt8) {c : UInt8} (h : c ≠ 48) : strip (l ++ [c]) = l ++ [c] := by
  unfold strip
  have : (c == 48) = false := beq_false_of_ne h
  simp [this]
theorem take_at {l : List UInt8} {k : Nat} {c : UInt8} (h : l[k]? = some c) : l.take (k + 1) = l.take k ++ [c] := by
  obtain ⟨hk, hb⟩ := List.getElem?_eq_some_iff.1 h
  rw [List.take_succ_eq_append_getElem hk, hb]
/-- a number's text, of at most n digits behind the point -/
def tail (f : List UInt8) : List UInt8 := if f = [] then [] else 46 :: f
def clip (n : Int) : Nat := (min (max n 0) 32).toNat
def shortL (q n : Int) : List UInt8 := (if q < 0 then [45] else []) ++ digs (q.natAbs / 4294967296) ++ tail (strip (frac (clip n) (q.natAbs % 4294967296)))
end Go.Proofs.YtnlbfdhhdnapnaaGreat
