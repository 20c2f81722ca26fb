/- Plain arithmetic under the fixed points (package fixq): signs of xor and and, held numbers, roots bit by bit, and the schoolbook division. Nothing of the program. -/
import Derived.WalkKit
namespace Go.Proofs.Ytehngngkdnmhgaa
open Go.RowKit

/-! ### Bits and signs -/
theorem ofInt_toInt64 (a : Int) (h1 : -9223372036854775808 ≤ a) (h2 : a ≤ 9223372036854775807) : (BitVec.ofInt 64 a).toInt = a := by
  rw [BitVec.toInt_ofInt, Int.bmod_def]
  have e : ((2 : Nat) ^ 64 : Nat) = 18446744073709551616 := rfl
  rw [e]
  split <;> omega
theorem wrap_toNat64 (v : BitVec 64) : IntKind.i64.wrap (v.toNat : Int) = v.toInt := by
  rw [IntWalk.i64_left, BitVec.toInt_eq_toNat_bmod, Int.bmod_def]
  have e : ((2 : Nat) ^ 64 : Nat) = 18446744073709551616 := rfl
  have := v.isLt
  unfold wrap64
  rw [e]
  split <;> omega
theorem bits_and_i64 (x y : Int) : bits .and .i64 x y = (BitVec.ofInt 64 x &&& BitVec.ofInt 64 y).toInt := by
  unfold bits; exact wrap_toNat64 _
theorem bits_xor_i64 (x y : Int) : bits .xor .i64 x y = (BitVec.ofInt 64 x ^^^ BitVec.ofInt 64 y).toInt := by
  unfold bits; exact wrap_toNat64 _
theorem lt0_and (v w : BitVec 64) : (v &&& w).toInt < 0 ↔ (v.toInt < 0 ∧ w.toInt < 0) := by
  have h := BitVec.msb_eq_toInt (x := v &&& w); have h1 := BitVec.msb_eq_toInt (x := v); have h2 := BitVec.msb_eq_toInt (x := w)
  rw [BitVec.msb_and, h1, h2] at h
  rw [← decide_eq_true_iff (p := (v &&& w).toInt < 0), ← h, Bool.and_eq_true, decide_eq_true_iff, decide_eq_true_iff]
theorem lt0_xor (v w : BitVec 64) : (v ^^^ w).toInt < 0 ↔ ¬ (v.toInt < 0 ↔ w.toInt < 0) := by
  have h := BitVec.msb_eq_toInt (x := v ^^^ w); have h1 := BitVec.msb_eq_toInt (x := v); have h2 := BitVec.msb_eq_toInt (x := w)
  rw [BitVec.msb_xor, h1, h2] at h
  rw [← decide_eq_true_iff (p := (v ^^^ w).toInt < 0), ← h]
  by_cases c1 : v.toInt < 0 <;> by_cases c2 : w.toInt < 0 <;> simp [c1, c2]
def sgn (a b c d : Int) : Prop := bits .and .i64 (bits .xor .i64 a b) (bits .xor .i64 c d) < 0
theorem sgn_iff (a b c d : Int) (ha : -9223372036854775808 ≤ a ∧ a ≤ 9223372036854775807) (hb : -9223372036854775808 ≤ b ∧ b ≤ 9223372036854775807)
    (hc : -9223372036854775808 ≤ c ∧ c ≤ 9223372036854775807) (hd : -9223372036854775808 ≤ d ∧ d ≤ 9223372036854775807) :
    bits .and .i64 (bits .xor .i64 a b) (bits .xor .i64 c d) < 0 ↔ (¬ (a < 0 ↔ b < 0) ∧ ¬ (c < 0 ↔ d < 0)) := by
  rw [bits_and_i64, bits_xor_i64, bits_xor_i64, lt0_and, BitVec.ofInt_toInt, BitVec.ofInt_toInt, lt0_xor, lt0_xor,
    ofInt_toInt64 a ha.1 ha.2, ofInt_toInt64 b hb.1 hb.2, ofInt_toInt64 c hc.1 hc.2, ofInt_toInt64 d hd.1 hd.2]

/-! ### Held numbers -/
def held (x : Int) : Int := if x < -9223372036854775808 then -9223372036854775808 else if 9223372036854775807 < x then 9223372036854775807 else x
def over (x : Int) : Int := if x < -9223372036854775808 ∨ 9223372036854775807 < x then 1 else 0
def fits (x : Int) : Prop := -9223372036854775808 ≤ x ∧ x ≤ 9223372036854775807
theorem held_in {x : Int} (h1 : -9223372036854775808 ≤ x) (h2 : x ≤ 9223372036854775807) : held x = x := by unfold held; rw [if_neg (by omega), if_neg (by omega)]
theorem held_lo {x : Int} (h : x < -9223372036854775808) : held x = -9223372036854775808 := by unfold held; rw [if_pos h]
theorem held_hi {x : Int} (h : 9223372036854775807 < x) : held x = 9223372036854775807 := by unfold held; rw [if_neg (by omega), if_pos h]
theorem over_in {x : Int} (h1 : -9223372036854775808 ≤ x) (h2 : x ≤ 9223372036854775807) : over x = 0 := by unfold over; rw [if_neg (by omega)]
theorem over_out {x : Int} (h : x < -9223372036854775808 ∨ 9223372036854775807 < x) : over x = 1 := by unfold over; rw [if_pos h]
theorem held_fits (x : Int) : -9223372036854775808 ≤ held x ∧ held x ≤ 9223372036854775807 := by unfold held; (repeat' split) <;> omega
theorem over_01 (x : Int) : over x = 0 ∨ over x = 1 := by unfold over; split <;> simp
theorem held_mono {x y : Int} (h : x ≤ y) : held x ≤ held y := by unfold held; (repeat' split) <;> omega
theorem wrapAdd_lo (a b : Int) (ha : fits a) (hb : fits b) (h : a + b < -9223372036854775808) : wrap64 (a + b) = a + b + 18446744073709551616 := by
  unfold fits at *; unfold wrap64; omega
theorem wrapAdd_hi (a b : Int) (ha : fits a) (hb : fits b) (h : 9223372036854775807 < a + b) : wrap64 (a + b) = a + b - 18446744073709551616 := by
  unfold fits at *; unfold wrap64; omega
theorem wrap64_fits (n : Int) : -9223372036854775808 ≤ wrap64 n ∧ wrap64 n ≤ 9223372036854775807 := by unfold wrap64; omega
/-- the test of Add: it has wrapped round just if its sign is neither part's -/
theorem add_test (a b : Int) (ha : fits a) (hb : fits b) :
    bits .and .i64 (bits .xor .i64 a (wrap64 (a + b))) (bits .xor .i64 b (wrap64 (a + b))) < 0 ↔ (a + b < -9223372036854775808 ∨ 9223372036854775807 < a + b) := by
  rw [sgn_iff _ _ _ _ ha (wrap64_fits _) hb (wrap64_fits _)]
  unfold fits at *; unfold wrap64; omega
theorem sub_test (a b : Int) (ha : fits a) (hb : fits b) :
    bits .and .i64 (bits .xor .i64 a b) (bits .xor .i64 a (wrap64 (a - b))) < 0 ↔ (a - b < -9223372036854775808 ∨ 9223372036854775807 < a - b) := by
  rw [sgn_iff _ _ _ _ ha hb ha (wrap64_fits _)]
  unfold fits at *; unfold wrap64; omega
theorem wrapSize (a : Int) (h1 : -9223372036854775808 ≤ a) (h2 : a < 0) : IntKind.u64.wrap (-IntKind.u64.wrap a) = (a.natAbs : Int) := by
  rw [IntKind.wrap_u64, IntKind.wrap_u64]; omega
theorem wrapSize' (a : Int) (h1 : 0 ≤ a) (h2 : a ≤ 9223372036854775807) : IntKind.u64.wrap a = (a.natAbs : Int) := by
  rw [IntKind.wrap_u64]; omega
/-- the number of a sign and a size -/
def signed (b : Bool) (n : Nat) : Int := if b then -(n : Int) else n
theorem toBackNeg (n : Nat) (h : n ≤ 9223372036854775808) : IntKind.i64.wrap (IntKind.u64.wrap (-(n : Int))) = -(n : Int) := by
  rw [IntWalk.i64_left, IntKind.wrap_u64]; unfold wrap64; omega
/-! ### The schoolbook division of three halves by two -/
/-- one digit's estimate on its way: u is what is left, v the next half, y1 and y0 the divisor's halves, q and r the estimate and what is left of u -/
def Est (u v y1 y0 q r : Nat) : Prop := u = q * y1 + r ∧ (u * 4294967296 + v) / (y1 * 4294967296 + y0) ≤ q
def digit (u v y1 y0 : Nat) : Nat := (u * 4294967296 + v) / (y1 * 4294967296 + y0)
theorem est_start {u v y1 y0 : Nat} (h1 : 0 < y1) (hv : v < 4294967296) : Est u v y1 y0 (u / y1) (u % y1) := by
  refine ⟨by rw [Nat.mul_comm]; exact (Nat.div_add_mod u y1).symm, ?_⟩
  have e1 : (u * 4294967296 + v) / (y1 * 4294967296 + y0) ≤ (u * 4294967296 + v) / (y1 * 4294967296) :=
    Nat.div_le_div_left (by omega) (by omega)
  have e2 : (u * 4294967296 + v) / (y1 * 4294967296) = u / y1 := by
    rw [Nat.mul_comm y1, ← Nat.div_div_eq_div_mul]
    congr 1
    omega
  omega
/-- where the test says no: it is the digit -/
theorem est_no {u v y1 y0 q r : Nat} (h : Est u v y1 y0 q r) (h1 : 0 < y1) (ht : q * y0 ≤ 4294967296 * r + v) : q = digit u v y1 y0 := by
  obtain ⟨rfl, h2⟩ := h
  refine Nat.le_antisymm ?_ h2
  unfold digit
  rw [Nat.le_div_iff_mul_le (by omega), Nat.mul_add, ← Nat.mul_assoc, Nat.add_mul]
  omega
/-- where the test says yes: one less, and still not below the digit -/
theorem est_yes {u v y1 y0 q r : Nat} (h : Est u v y1 y0 q r) (h1 : 0 < y1) (hq : 0 < q) (ht : 4294967296 * r + v < q * y0) : Est u v y1 y0 (q - 1) (r + y1) := by
  obtain ⟨rfl, h2⟩ := h
  obtain ⟨p, rfl⟩ : ∃ p, q = p + 1 := ⟨q - 1, by omega⟩
  refine ⟨by rw [Nat.add_sub_cancel, Nat.add_mul]; omega, ?_⟩
  rw [Nat.add_sub_cancel]
  suffices hs : (((p + 1) * y1 + r) * 4294967296 + v) / (y1 * 4294967296 + y0) < p + 1 by omega
  rw [Nat.div_lt_iff_lt_mul (by omega)]
  rw [Nat.mul_add, ← Nat.mul_assoc]
  have : ((p + 1) * y1 + r) * 4294967296 + v < (p + 1) * y1 * 4294967296 + (p + 1) * y0 := by rw [Nat.add_mul]; omega
  omega
/-- where it isn't below 2^32: one less -/
theorem est_big {u v y1 y0 q r : Nat} (h : Est u v y1 y0 q r) (hd : digit u v y1 y0 < 4294967296) (hq : 4294967296 ≤ q) : Est u v y1 y0 (q - 1) (r + y1) := by
  obtain ⟨rfl, h2⟩ := h
  obtain ⟨p, rfl⟩ : ∃ p, q = p + 1 := ⟨q - 1, by omega⟩
  refine ⟨by rw [Nat.add_sub_cancel, Nat.add_mul]; omega, ?_⟩
  unfold digit at hd
  omega
/-- where what is left isn't below 2^32: it is the digit -/
theorem est_out {u v y1 y0 q r : Nat} (h : Est u v y1 y0 q r) (h1 : 0 < y1) (hq : q ≤ 4294967296) (h0 : y0 < 4294967296) (hr : 4294967296 ≤ r) : q = digit u v y1 y0 := by
  refine est_no h h1 ?_
  have a : q * y0 ≤ 4294967296 * y0 := Nat.mul_le_mul_right _ hq
  have b : 4294967296 * y0 ≤ 4294967296 * r := Nat.mul_le_mul_left _ (by omega)
  omega
theorem digit_lt {u v y1 y0 : Nat} (hv : v < 4294967296) (hu : u < y1 * 4294967296 + y0) : digit u v y1 y0 < 4294967296 := by
  unfold digit
  rw [Nat.div_lt_iff_lt_mul (by omega)]
  omega
theorem first_le {u y1 y0 : Nat} (h1 : 2147483648 ≤ y1) (h0 : y0 < 4294967296) (hu : u < y1 * 4294967296 + y0) : u / y1 ≤ 4294967297 := by
  have h : u / y1 < 4294967298 := by
    rw [Nat.div_lt_iff_lt_mul (by omega)]
    omega
  omega
end Go.Proofs.Ytehngngkdnmhgaa
