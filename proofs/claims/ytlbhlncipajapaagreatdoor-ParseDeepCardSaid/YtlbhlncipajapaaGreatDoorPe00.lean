/- Joined: DigMath, StrKit, ReadMath, LexMath, Row, LexKit. -/
import Derived.WalkKit
import Derived.Test.YtlbhlncipajapaaGreatDoorRows
import Derived.Laws.BytesString
import Derived.Laws.MakeOwn
import Derived.Laws.OwnMore
import Derived.Laws.IdiomStrings
import Derived.Lib.ConvBytes
import Derived.Test.YtlbhlncipajapaaGreatDoorShelf
import Derived.Outline
import Derived.Lib.Hide
import Derived.Lib.Strings
import Derived.Below
import Derived.Deep.Draws
import Derived.WalkSpells
import Derived.WalkLawsBesides
namespace Go.Proofs.YtlbhlncipajapaaGreatDoor
open Go.RowKit

/-- a decimal digit -/
def dg (n : Nat) : UInt8 := UInt8.ofNat (48 + n)
/-- a number's decimal digits -/
def digs (n : Nat) : List UInt8 := if n < 10 then [dg n] else digs (n / 10) ++ [dg (n % 10)]
termination_by n
decreasing_by omega
theorem digs_small {n : Nat} (h : n < 10) : digs n = [dg n] := by rw [digs, if_pos h]
theorem digs_step {n : Nat} (h : 10 ≤ n) : digs n = digs (n / 10) ++ [dg (n % 10)] := by rw [digs, if_neg (by omega)]
/-- the first n digits behind the point of b parts of 2^32, and what is left of them -/
def frac : Nat → Nat → List UInt8
  | 0, _ => []
  | n + 1, b => dg (b * 10 / 4294967296) :: frac n (b * 10 % 4294967296)
def rest : Nat → Nat → Nat
  | 0, b => b
  | n + 1, b => rest n (b * 10 % 4294967296)
theorem frac_snoc (n b : Nat) : frac (n + 1) b = frac n b ++ [dg (rest n b * 10 / 4294967296)] := by
  induction n generalizing b with
  | zero => rfl
  | succ n ih => rw [frac, ih, frac]; rfl
theorem rest_succ (n b : Nat) : rest (n + 1) b = rest n b * 10 % 4294967296 := by
  induction n generalizing b with
  | zero => rfl
  | succ n ih => rw [rest, ih]; rfl
theorem frac_length (n b : Nat) : (frac n b).length = n := by
  induction n generalizing b with
  | zero => rfl
  | succ n ih => rw [frac, List.length_cons, ih]
theorem rest_lt (n : Nat) {b : Nat} (h : b < 4294967296) : rest n b < 4294967296 := by
  induction n generalizing b with
  | zero => exact h
  | succ n ih => rw [rest]; exact ih (Nat.mod_lt _ (by omega))
/-- without digits 0 at the end -/
def strip (l : List UInt8) : List UInt8 := (l.reverse.dropWhile (· == 48)).reverse
theorem strip_nil : strip [] = [] := rfl
theorem strip_zero (l : List UInt8) : strip (l ++ [48]) = strip l := by unfold strip; simp
theorem strip_other (l : List UInt8) {c : UInt8} (h : c ≠ 48) : strip (l ++ [c]) = l ++ [c] := by
  unfold strip
  have : (c == 48) = false := beq_false_of_ne h
  simp [this]
theorem take_at {l : List UInt8} {k : Nat} {c : UInt8} (h : l[k]? = some c) : l.take (k + 1) = l.take k ++ [c] := by
  obtain ⟨hk, hb⟩ := List.getElem?_eq_some_iff.1 h
  rw [List.take_succ_eq_append_getElem hk, hb]
/-- a number's text, of at most n digits behind the point -/
def tail (f : List UInt8) : List UInt8 := if f = [] then [] else 46 :: f
def clip (n : Int) : Nat := (min (max n 0) 32).toNat
def shortL (q n : Int) : List UInt8 := (if q < 0 then [45] else []) ++ digs (q.natAbs / 4294967296) ++ tail (strip (frac (clip n) (q.natAbs % 4294967296)))
end Go.Proofs.YtlbhlncipajapaaGreatDoor
namespace Go.Proofs.YtlbhlncipajapaaGreatDoor
open Go.RowKit

/-- a string of these bytes -/
def str (l : List UInt8) : ByteArray := ⟨l.toArray⟩
theorem str_cat (a b : List UInt8) : str a ++ str b = str (a ++ b) := by unfold str; apply ByteArray.ext; simp
theorem str_nil : str [] = ⟨#[]⟩ := rfl
theorem str_size (l : List UInt8) : (str l).size = l.length := by unfold str; simp [ByteArray.size]
def byteOf (x : Int) : UInt8 := UInt8.ofNat x.toNat
theorem byteOf_dg (n : Nat) : byteOf (48 + (n : Int)) = dg n := by unfold byteOf dg; congr 1
theorem byte_str (w : World) (x : Int) : (convert 130 9 (.slice (some ⟨w.heap.size, 0, none⟩) 1 1)).run Tryz.prog (w.alloc (.cells #[.int .u8 x] 5)) =
    .ok (.string (str [byteOf x])) (w.alloc (.cells #[.int .u8 x] 5)) := by
  rw [run_convert_bytes_string _ _ _ 5 _ _ _ Tryz.underlying130 Tryz.underlying5 Tryz.underlying9, run_bytesToString _ _ _ _ [x]]
  · rfl
  · simp [loadCells, go_sem]
theorem wpList_byte {ops : Array Oper} {rest : List Oper} {o : Oper} {a : Act} {Q : Exit → Act → World → Prop} (w : World) (hgd : o.guard = none) (t : Operand)
    (ho : o.op = .convert 130 9 t) (x : Int) (b : UInt8) (hb : byteOf x = b) (hx : a.eval t = .slice (some ⟨w.heap.size, 0, none⟩) 1 1)
    (h : wpList Tryz.prog ops Q rest (a.put o.dst (.string (str [b]))) (w.alloc (.cells #[.int .u8 x] 5))) : wpList Tryz.prog ops Q (o :: rest) a (w.alloc (.cells #[.int .u8 x] 5)) := by
  subst hb
  refine wpList_plain hgd fun K hK => ?_
  unfold Oper.wp
  simp [execOp, ho, hx, byte_str, Result.andThen]
  exact hK _ _ h
theorem wpList_cat {ops : Array Oper} {rest : List Oper} {o : Oper} {a : Act} {Q : Exit → Act → World → Prop} (w : World) (hgd : o.guard = none) (s t : Operand)
    (ho : o.op = .binOp .add 9 s t 9) (l m : List UInt8) (hs : a.eval s = .string (str l)) (ht : a.eval t = .string (str m)) (hl : l.length + m.length ≤ 9223372036854775807)
    (h : wpList Tryz.prog ops Q rest (a.put o.dst (.string (str (l ++ m)))) w) : wpList Tryz.prog ops Q (o :: rest) a w := by
  refine wpList_plain hgd fun K hK => ?_
  unfold Oper.wp
  have hrun := run_string_add_sum (P := Tryz.prog) (w := w) (str l) (str m) (by rw [str_size, str_size]; omega)
  rw [str_cat] at hrun
  simp only [execOp, ho, hs, ht]
  simp [eqGuard, binOp_string_add, hrun, Result.andThen]
  exact hK _ _ h
end Go.Proofs.YtlbhlncipajapaaGreatDoor
namespace Go.Proofs.YtlbhlncipajapaaGreatDoor

/-- a decimal digit -/
def isDig (c : UInt8) : Bool := decide (48 ≤ c.toNat) && decide (c.toNat ≤ 57)
theorem isDig_iff {c : UInt8} : isDig c = true ↔ 48 ≤ c.toNat ∧ c.toNat ≤ 57 := by unfold isDig; simp
/-- one to most digits -/
def digitsL (l : List UInt8) (most : Nat) : Bool := decide (1 ≤ l.length) && (decide (l.length ≤ most) && l.all isDig)
/-- what is ahead of the first point, and behind it -/
def ahead (l : List UInt8) : List UInt8 := l.takeWhile (· != 46)
def behind (l : List UInt8) : List UInt8 := (l.dropWhile (· != 46)).drop 1
def pointed (l : List UInt8) : Bool := l.contains 46
theorem ahead_point (a b : List UInt8) (h : 46 ∉ a) : ahead (a ++ 46 :: b) = a := by
  unfold ahead
  rw [List.takeWhile_append_of_pos (by intro x hx; simp; rintro rfl; exact h hx)]
  simp
theorem behind_point (a b : List UInt8) (h : 46 ∉ a) : behind (a ++ 46 :: b) = b := by
  unfold behind
  rw [List.dropWhile_append_of_pos (by intro x hx; simp; rintro rfl; exact h hx)]
  simp
theorem ahead_none (a : List UInt8) (h : 46 ∉ a) : ahead a = a := by
  unfold ahead
  have := List.takeWhile_append_of_pos (p := (· != 46)) (l₁ := a) (l₂ := []) (by intro x hx; simp; rintro rfl; exact h hx)
  simpa using this
theorem behind_none (a : List UInt8) (h : 46 ∉ a) : behind a = [] := by
  unfold behind
  have := List.dropWhile_append_of_pos (p := (· != 46)) (l₁ := a) (l₂ := []) (by intro x hx; simp; rintro rfl; exact h hx)
  simp only [List.append_nil] at this
  rw [this]
  rfl
theorem part_cases (l : List UInt8) : (46 ∉ l) ∨ ∃ a b, l = a ++ 46 :: b ∧ 46 ∉ a := by
  induction l with
  | nil => left; simp
  | cons c l ih =>
    by_cases hc : c = 46
    · right; exact ⟨[], l, by rw [hc]; rfl, by simp⟩
    · rcases ih with h | ⟨a, b, rfl, h⟩
      · left; simp [h]; exact fun e => hc e.symm
      · right; exact ⟨c :: a, b, rfl, by simp [h]; exact fun e => hc e.symm⟩
/-- a literal -/
def litL (l : List UInt8) : Bool := digitsL (ahead l) 10 && (!(decide (1 < (ahead l).length) && (ahead l).head? == some 48) && (!pointed l || digitsL (behind l) 40))
/-- what digits say -/
def numL : List UInt8 → Nat
  | [] => 0
  | c :: l => (c.toNat - 48) * 10 ^ l.length + numL l
theorem numL_snoc (l : List UInt8) (c : UInt8) : numL (l ++ [c]) = numL l * 10 + (c.toNat - 48) := by
  induction l with
  | nil => simp [numL]
  | cons d l ih => simp only [List.cons_append, numL, ih, List.length_append, List.length_singleton, Nat.pow_succ, Nat.add_mul, Nat.mul_assoc]; omega
theorem numL_append (l m : List UInt8) : numL (l ++ m) = numL l * 10 ^ m.length + numL m := by
  induction l with
  | nil => simp [numL]
  | cons d l ih => simp only [List.cons_append, numL, ih, List.length_append, Nat.pow_add, Nat.add_mul, Nat.mul_assoc]; omega
theorem numL_lt (l : List UInt8) (h : l.all isDig = true) : numL l < 10 ^ l.length := by
  induction l with
  | nil => simp [numL]
  | cons d l ih =>
    simp only [List.all_cons, Bool.and_eq_true] at h
    have h1 := isDig_iff.1 h.1
    have h2 := ih h.2
    have : (d.toNat - 48) * 10 ^ l.length ≤ 9 * 10 ^ l.length := Nat.mul_le_mul_right _ (by omega)
    simp only [numL, List.length_cons, Nat.pow_succ]
    omega
/-- what digits behind a point say, in bits behind it -/
def bitsL (l : List UInt8) : Nat := numL l * 4294967296 / 10 ^ l.length
theorem bitsL_lt (l : List UInt8) (h : l.all isDig = true) : bitsL l < 4294967296 := by
  unfold bitsL
  rw [Nat.div_lt_iff_lt_mul (Nat.pow_pos (by omega)), Nat.mul_comm]
  exact Nat.mul_lt_mul_of_pos_left (numL_lt l h) (by omega)
/-- the number's size -/
def sizeL (l : List UInt8) : Nat := numL (ahead l) * 4294967296 + bitsL (behind l)
def readL (l : List UInt8) : Nat × Bool := if litL l ∧ numL (ahead l) ≤ 2147483648 then (sizeL l, decide (sizeL l ≤ 9223372036854775808)) else (0, false)

/-- doubled from the last one on: the digit that stays, and what is handed on -/
def cry : List UInt8 → Nat
  | [] => 0
  | c :: l => (2 * (c.toNat - 48) + cry l) / 10
def dbl : List UInt8 → List UInt8
  | [] => []
  | c :: l => dg ((2 * (c.toNat - 48) + cry l) % 10) :: dbl l
theorem dbl_length (l : List UInt8) : (dbl l).length = l.length := by induction l with
  | nil => rfl
  | cons c l ih => simp [dbl, ih]
theorem cry_le (l : List UInt8) (h : l.all isDig = true) : cry l ≤ 1 := by
  induction l with
  | nil => simp [cry]
  | cons d l ih =>
    simp only [List.all_cons, Bool.and_eq_true] at h
    have h1 := isDig_iff.1 h.1
    have h2 := ih h.2
    simp only [cry]
    omega
theorem dg_val {n : Nat} (h : n < 10) : (dg n).toNat = 48 + n := by unfold dg; rw [UInt8.toNat_ofNat_of_lt' (by show 48 + n < 256; omega)]
theorem dg_dig {n : Nat} (h : n < 10) : isDig (dg n) = true := isDig_iff.2 (by rw [dg_val h]; omega)
theorem dbl_dig (l : List UInt8) : (dbl l).all isDig = true := by
  induction l with
  | nil => rfl
  | cons d l ih => simp only [dbl, List.all_cons, ih, Bool.and_true]; exact dg_dig (by omega)
theorem dbl_num (l : List UInt8) : numL (dbl l) + cry l * 10 ^ l.length = 2 * numL l := by
  induction l with
  | nil => rfl
  | cons d l ih =>
    simp only [dbl, cry, numL, dbl_length, List.length_cons, Nat.pow_succ]
    rw [dg_val (Nat.mod_lt _ (by omega)), Nat.add_sub_cancel_left]
    generalize 10 ^ l.length = p at *
    have hd := Nat.div_add_mod (2 * (d.toNat - 48) + cry l) 10
    generalize (2 * (d.toNat - 48) + cry l) % 10 = r at *
    generalize (2 * (d.toNat - 48) + cry l) / 10 = k at *
    have e : (10 * k + r) * p = (2 * (d.toNat - 48) + cry l) * p := by rw [hd]
    rw [Nat.add_mul, Nat.add_mul, Nat.mul_assoc] at e
    have e2 : k * (p * 10) = 10 * (k * p) := by rw [← Nat.mul_assoc, Nat.mul_comm]
    rw [e2, Nat.mul_add]
    rw [Nat.mul_assoc] at e
    omega
/-- after k rounds -/
def DblAt (l0 : List UInt8) (k : Nat) (l : List UInt8) (B : Nat) : Prop := l.all isDig = true ∧ l.length = l0.length ∧ numL l + B * 10 ^ l0.length = numL l0 * 2 ^ k
theorem dblAt_zero (l : List UInt8) (h : l.all isDig = true) : DblAt l 0 l 0 := ⟨h, rfl, by simp⟩
theorem dblAt_next {l0 l : List UInt8} {k B : Nat} (h : DblAt l0 k l B) : DblAt l0 (k + 1) (dbl l) (2 * B + cry l) := by
  obtain ⟨h1, h2, h3⟩ := h
  refine ⟨dbl_dig l, (dbl_length l).trans h2, ?_⟩
  have := dbl_num l
  rw [h2] at this
  rw [Nat.add_mul, Nat.pow_succ, ← Nat.mul_assoc, ← h3, Nat.mul_assoc 2]
  omega
theorem dblAt_end {l0 l : List UInt8} {B : Nat} (h : DblAt l0 32 l B) : B = bitsL l0 := by
  obtain ⟨h1, h2, h3⟩ := h
  have h4 := numL_lt l h1
  rw [h2] at h4
  unfold bitsL
  rw [show (4294967296 : Nat) = 2 ^ 32 by decide, ← h3, Nat.add_mul_div_right _ _ (Nat.pow_pos (by omega)), Nat.div_eq_of_lt h4, Nat.zero_add]
theorem dblAt_lt {l0 l : List UInt8} {k B : Nat} (h : DblAt l0 k l B) (h0 : l0.all isDig = true) : B < 2 ^ k := by
  obtain ⟨h1, h2, h3⟩ := h
  have h4 := numL_lt l0 h0
  have h5 : B * 10 ^ l0.length < 2 ^ k * 10 ^ l0.length := by
    have : numL l0 * 2 ^ k < 10 ^ l0.length * 2 ^ k := Nat.mul_lt_mul_of_pos_right h4 (Nat.pow_pos (by omega))
    rw [Nat.mul_comm (2 ^ k)]
    omega
  exact Nat.lt_of_mul_lt_mul_right h5
end Go.Proofs.YtlbhlncipajapaaGreatDoor
namespace Go.Proofs.YtlbhlncipajapaaGreatDoor.Lx

def isBlank (c : UInt8) : Bool := c == 32 || (c == 9 || (c == 10 || c == 13))
def isComment (c : UInt8) : Bool := !(c == 10)
def isLetter (c : UInt8) : Bool := (decide (97 ≤ c.toNat) && decide (c.toNat ≤ 122)) || ((decide (65 ≤ c.toNat) && decide (c.toNat ≤ 90)) || c == 95)
def isName (c : UInt8) : Bool := isLetter c || isDig c

/-- the first place from a on whose byte isn't of the class, or the text's length -/
def runTo (p : UInt8 → Bool) (l : List UInt8) (a : Nat) : Nat := a + ((l.drop a).takeWhile p).length
theorem drop_cons {l : List UInt8} {k : Nat} {c : UInt8} (h : l[k]? = some c) : l.drop k = c :: l.drop (k + 1) := by
  obtain ⟨h1, rfl⟩ := List.getElem?_eq_some_iff.1 h
  exact List.drop_eq_getElem_cons h1
theorem runTo_step {p : UInt8 → Bool} {l : List UInt8} {a : Nat} {c : UInt8} (h : l[a]? = some c) (hp : p c = true) : runTo p l a = runTo p l (a + 1) := by
  unfold runTo
  rw [drop_cons h, List.takeWhile_cons, if_pos hp, List.length_cons]
  omega
theorem runTo_stop {p : UInt8 → Bool} {l : List UInt8} {a : Nat} {c : UInt8} (h : l[a]? = some c) (hp : p c = false) : runTo p l a = a := by
  unfold runTo
  rw [drop_cons h, List.takeWhile_cons, if_neg (by rw [hp]; simp)]
  rfl
theorem runTo_end {p : UInt8 → Bool} {l : List UInt8} {a : Nat} (h : l.length ≤ a) : runTo p l a = a := by
  unfold runTo
  rw [List.drop_eq_nil_of_le h]
  rfl
theorem runTo_ge (p : UInt8 → Bool) (l : List UInt8) (a : Nat) : a ≤ runTo p l a := by unfold runTo; omega
theorem runTo_le (p : UInt8 → Bool) {l : List UInt8} {a : Nat} (h : a ≤ l.length) : runTo p l a ≤ l.length := by
  unfold runTo
  have := (List.takeWhile_prefix p (l := l.drop a)).length_le
  rw [List.length_drop] at this
  omega

/-- how many bytes are gaps, in a comment or not -/
def gapN : Bool → List UInt8 → Nat
  | _, [] => 0
  | true, c :: l => if c = 10 then gapN false l + 1 else gapN true l + 1
  | false, c :: l => if c = 35 then gapN true l + 1 else if isBlank c = true then gapN false l + 1 else 0
def gapTo (b : Bool) (l : List UInt8) (a : Nat) : Nat := a + gapN b (l.drop a)
theorem gapN_le (b : Bool) (l : List UInt8) : gapN b l ≤ l.length := by
  induction l generalizing b with
  | nil => cases b <;> exact Nat.le_refl _
  | cons c l ih =>
    have h1 := ih true
    have h2 := ih false
    cases b <;> simp only [gapN, List.length_cons]
    · split
      · omega
      · split <;> omega
    · split <;> omega
theorem gapTo_ge (b : Bool) (l : List UInt8) (a : Nat) : a ≤ gapTo b l a := by unfold gapTo; omega
theorem gapTo_le (b : Bool) {l : List UInt8} {a : Nat} (h : a ≤ l.length) : gapTo b l a ≤ l.length := by
  unfold gapTo
  have := gapN_le b (l.drop a)
  rw [List.length_drop] at this
  omega
theorem gapTo_end (b : Bool) {l : List UInt8} {a : Nat} (h : l.length ≤ a) : gapTo b l a = a := by
  unfold gapTo
  rw [List.drop_eq_nil_of_le h]
  cases b <;> rfl
theorem gapTo_line {l : List UInt8} {a : Nat} (h : l[a]? = some 10) : gapTo true l a = gapTo false l (a + 1) := by
  unfold gapTo
  rw [drop_cons h, gapN, if_pos rfl]
  omega
theorem gapTo_comment {l : List UInt8} {a : Nat} {c : UInt8} (h : l[a]? = some c) (hc : c ≠ 10) : gapTo true l a = gapTo true l (a + 1) := by
  unfold gapTo
  rw [drop_cons h, gapN, if_neg hc]
  omega
theorem gapTo_hash {l : List UInt8} {a : Nat} (h : l[a]? = some 35) : gapTo false l a = gapTo true l (a + 1) := by
  unfold gapTo
  rw [drop_cons h, gapN, if_pos rfl]
  omega
theorem blank_hash {c : UInt8} (h : isBlank c = true) : c ≠ 35 := by rintro rfl; revert h; decide
theorem gapTo_blank {l : List UInt8} {a : Nat} {c : UInt8} (h : l[a]? = some c) (hc : isBlank c = true) : gapTo false l a = gapTo false l (a + 1) := by
  unfold gapTo
  rw [drop_cons h, gapN, if_neg (blank_hash hc), if_pos hc]
  omega
theorem gapTo_stop {l : List UInt8} {a : Nat} {c : UInt8} (h : l[a]? = some c) (h1 : c ≠ 35) (h2 : isBlank c = false) : gapTo false l a = a := by
  unfold gapTo
  rw [drop_cons h, gapN, if_neg h1, if_neg (by rw [h2]; simp)]
  rfl
/-- blanks are passed -/
theorem gapTo_blanks (l : List UInt8) (a : Nat) : gapTo false l (runTo isBlank l a) = gapTo false l a := by
  suffices h : ∀ (n a : Nat), l.length - a ≤ n → gapTo false l (runTo isBlank l a) = gapTo false l a from h _ a (Nat.le_refl _)
  intro n
  induction n with
  | zero => intro a h; rw [runTo_end (by omega)]
  | succ n ih =>
    intro a h
    rcases Nat.lt_or_ge a l.length with hlt | hge
    · have hc : l[a]? = some l[a] := List.getElem?_eq_getElem hlt
      cases hb : isBlank l[a] with
      | true => rw [runTo_step hc hb, gapTo_blank hc hb]; exact ih _ (by omega)
      | false => rw [runTo_stop hc hb]
    · rw [runTo_end hge]
theorem gapTo_comments (l : List UInt8) (a : Nat) : gapTo false l (runTo isComment l a) = gapTo true l a := by
  suffices h : ∀ (n a : Nat), l.length - a ≤ n → gapTo false l (runTo isComment l a) = gapTo true l a from h _ a (Nat.le_refl _)
  intro n
  induction n with
  | zero => intro a h; rw [runTo_end (by omega), gapTo_end _ (by omega), gapTo_end _ (by omega)]
  | succ n ih =>
    intro a h
    rcases Nat.lt_or_ge a l.length with hlt | hge
    · have hc : l[a]? = some l[a] := List.getElem?_eq_getElem hlt
      by_cases hb : l[a] = 10
      · rw [hb] at hc
        rw [runTo_stop hc (by decide), gapTo_line hc, gapTo_blank hc (by decide)]
      · rw [runTo_step hc (by unfold isComment; simpa using hb), gapTo_comment hc hb]
        exact ih _ (by omega)
    · rw [runTo_end hge, gapTo_end _ hge, gapTo_end _ hge]
/-- a comment, and the blanks behind it -/
theorem gapTo_hashes {l : List UInt8} {a : Nat} (h : l[a]? = some 35) : gapTo false l (runTo isBlank l (runTo isComment l a)) = gapTo false l a := by
  rw [gapTo_blanks, gapTo_comments, gapTo_comment h (by decide), gapTo_hash h]
theorem runTo_hash {l : List UInt8} {a : Nat} (h : l[a]? = some 35) : a < runTo isBlank l (runTo isComment l a) := by
  have h1 := runTo_ge isBlank l (runTo isComment l a)
  have h2 := runTo_ge isComment l (a + 1)
  rw [runTo_step h (by decide)]
  rw [runTo_step h (by decide)] at h1
  omega
/-- where blanks end, and no comment begins, there gaps end -/
theorem gapTo_here {l : List UInt8} {a : Nat} (h : l[runTo isBlank l a]? ≠ some 35) : gapTo false l (runTo isBlank l a) = runTo isBlank l a := by
  suffices hh : ∀ (n a : Nat), l.length - a ≤ n → l[runTo isBlank l a]? ≠ some 35 → gapTo false l (runTo isBlank l a) = runTo isBlank l a from hh _ a (Nat.le_refl _) h
  intro n
  induction n with
  | zero => intro a h _; rw [runTo_end (by omega), gapTo_end _ (by omega)]
  | succ n ih =>
    intro a h h2
    rcases Nat.lt_or_ge a l.length with hlt | hge
    · have hc : l[a]? = some l[a] := List.getElem?_eq_getElem hlt
      cases hb : isBlank l[a] with
      | true => rw [runTo_step hc hb] at h2 ⊢; exact ih _ (by omega) h2
      | false =>
        rw [runTo_stop hc hb] at h2 ⊢
        exact gapTo_stop hc (fun e => h2 (by rw [hc, e])) hb
    · rw [runTo_end hge, gapTo_end _ hge]

/-- the words -/
def wordsL : List (List UInt8) := [[102, 117, 110], [110, 111, 100, 101], [104, 121, 98, 114, 105, 100], [108, 101, 116], [100, 101, 114], [105, 110, 105, 116], [114, 101, 115, 101, 116], [111, 110], [117, 112], [109, 101, 109], [109, 111, 100, 101], [102, 114, 111, 109], [103, 111, 116, 111], [111, 117, 116], [105, 102], [116, 104, 101, 110], [101, 108, 115, 101], [112, 114, 101], [102, 98, 121], [116, 114, 117, 101], [102, 97, 108, 115, 101], [110, 111, 116], [97, 110, 100], [111, 114], [105, 115], [115, 113, 114, 116], [114, 101, 116, 117, 114, 110], [115, 101, 116], [102, 105, 120], [98, 111, 111, 108]]
def wordL (l : List UInt8) : Bool := wordsL.contains l
/-- the signs, those of two bytes first -/
def signsL : List (List UInt8) := [[45, 62], [60, 61], [61, 61], [40], [41], [123], [125], [44], [59], [58], [61], [43], [45], [42], [47], [60], [46]]
end Go.Proofs.YtlbhlncipajapaaGreatDoor.Lx
namespace Go.Proofs.YtlbhlncipajapaaGreatDoor.Lx
open Go.RowKit

/-- block B holds these bytes, and may be written -/
def Row (w : World) (B : Nat) (l : List UInt8) : Prop :=
  ∀ (j : Nat) (x : UInt8), l[j]? = some x → w.cell? ⟨B, j, none⟩ = some (.int .u8 (x.toNat : Int)) ∧ w.frozen? ⟨B, j, none⟩ = false
theorem row_made (w : World) (n : Nat) (T : TypeId) : Row (w.alloc (.cells (madeCells #[.int .u8 0] n) T)) w.heap.size (List.replicate n 0) := fun j x h => by
  refine ⟨?_, World.frozen?_alloc_new _ _ _ _⟩
  have hj : j < n := by have := (List.getElem?_eq_some_iff.1 h).1; simpa using this
  rw [World.cell?_alloc_new]
  have e : (madeCells #[Value.int .u8 0] n)[j]? = (List.replicate n (Value.int .u8 0))[j]? := by rw [← toList_madeCells_one, Array.getElem?_toList]
  rw [e, List.getElem?_replicate, if_pos hj]
  rw [List.getElem?_replicate, if_pos hj] at h
  cases h
  rfl
theorem row_cell {w : World} {B : Nat} {l : List UInt8} (h : Row w B l) {j : Nat} {x : UInt8} (hx : l[j]? = some x) : w.cell? ⟨B, j, none⟩ = some (.int .u8 (x.toNat : Int)) := (h j x hx).1
theorem row_frozen {w : World} {B : Nat} {l : List UInt8} (h : Row w B l) {j : Nat} {x : UInt8} (hx : l[j]? = some x) : w.frozen? ⟨B, j, none⟩ = false := (h j x hx).2
theorem row_set {w : World} {B : Nat} {l : List UInt8} (h : Row w B l) (j : Nat) (x : UInt8) (hj : j < l.length) : Row (w.setCell ⟨B, j, none⟩ (.int .u8 (x.toNat : Int))) B (l.set j x) := fun i y hy => by
  obtain ⟨x0, h0⟩ : ∃ x0, l[j]? = some x0 := ⟨l[j], List.getElem?_eq_getElem hj⟩
  refine ⟨?_, by
    rw [World.frozen?_setCell]
    exact (h i (l[i]'(by have := (List.getElem?_eq_some_iff.1 hy).1; simpa using this)) (List.getElem?_eq_getElem _)).2⟩
  by_cases e : i = j
  · subst e
    rw [World.cell?_setCell_same _ _ _ (h i x0 h0).1]
    rw [List.getElem?_set_self hj] at hy
    cases hy
    rfl
  · rw [World.cell?_setCell_other _ _ _ _ (by simp)]
    rw [List.getElem?_set_ne (Ne.symm e)] at hy
    exact (h i y hy).1
theorem row_far {w w' : World} {B : Nat} {l : List UInt8} (h : Row w B l) (hb : w'.heap[B]? = w.heap[B]?) : Row w' B l := fun j x hx =>
  ⟨(World.cell?_of_block (w := w) hb).trans (h j x hx).1, (World.frozen?_of_block (w := w) hb).trans (h j x hx).2⟩
theorem u8_info : ∃ i, Tryz.prog.info? 5 = some i ∧ i.zero = some (.int .u8 0) ∧ i.size = 1 ∧ i.bytes = 1 := by
  have h : (Tryz.prog.info? 5).map (fun i => (i.zero, i.size, i.bytes)) = some (some (.int .u8 0), 1, 1) := by kernel_rfl
  obtain ⟨i, h1, h2⟩ := Option.map_eq_some_iff.1 h
  simp only [Prod.mk.injEq] at h2
  exact ⟨i, h1, h2.1, h2.2.1, h2.2.2⟩
theorem make_row (N : Nat) (hN : (N : Int) ≤ 100) (w : World) : (Instr.makeSlice 130 (.int .i64 (N : Int)) (.int .i64 (N : Int))).run Tryz.prog w = .ok (.slice (some ⟨w.heap.size, 0, none⟩) N N) (w.alloc (.cells (madeCells #[.int .u8 0] N) 5)) := by
  obtain ⟨i, h1, h2, h3, h4⟩ := u8_info
  have h := run_makeSlice (P := Tryz.prog) w 130 5 i (.int .u8 0) Tryz.underlying130 h1 h2 .i64 .i64 (N : Int) (N : Int) (by omega) (by omega) (by rw [h3]; omega) (by rw [h4]; omega) (by omega)
  rw [h3] at h
  simpa [Value.cells] using h

end Go.Proofs.YtlbhlncipajapaaGreatDoor.Lx
namespace Go.Proofs.YtlbhlncipajapaaGreatDoor.Lx
open Go.RowKit

def litLen : Value → Nat | .int _ n => n.toNat | _ => 0
theorem str_data (l : List UInt8) : (str l).data.toList = l := by unfold str; simp
theorem str_of (s : ByteArray) : s = str s.data.toList := by unfold str; simp
theorem str_nil_size : (str []).size = 0 := rfl
theorem str_nil_empty : (str []).toList.isEmpty = true := by decide +kernel
theorem str_at (l : List UInt8) {j : Nat} {c : UInt8} (h : l[j]? = some c) (hj : j < (str l).size) : (str l)[j]'hj = c := by
  obtain ⟨h1, h2⟩ := List.getElem?_eq_some_iff.1 h
  rw [← h2]; rfl
theorem str_toList (l : List UInt8) : (str l).toList = l := by rw [Lib.toList_data]; rfl
theorem str_some_empty (l : List UInt8) (h : 0 < l.length) : (str l).toList.isEmpty = false := by
  rw [str_toList]; cases l with
  | nil => simp at h
  | cons x r => rfl
theorem str_extract (l : List UInt8) (j : Nat) : (str l).extract 0 j = str (l.take j) := by rw [Lib.extract_eq]; rfl
theorem str_slice (l : List UInt8) (i j : Nat) : (str l).extract i j = str ((l.take j).drop i) := by
  rw [Lib.extract_eq, str_data]
  unfold str
  rw [List.drop_take]
/-- a text that is returned -/
def StrPost (l : List UInt8) (w : World) (e : Ending) (w' : World) : Prop := e = .returned (.string (str l)) ∧ Below w.heap.size w w'
theorem below_al {a w : World} (h : Below a.heap.size a w) (o : Obj) : Below a.heap.size a (w.alloc o) := h.alloc h.size o
theorem below_dr {B : Nat} {a w : World} (h : Below B a w) (n : Nat) : Below B a (w.drewN n) := ⟨h.os, h.tape, h.output, h.size, h.block⟩
end Go.Proofs.YtlbhlncipajapaaGreatDoor.Lx
