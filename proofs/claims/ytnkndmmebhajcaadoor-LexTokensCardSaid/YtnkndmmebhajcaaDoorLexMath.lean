/- Tokens of a text, in plain words. Nothing of the program. -/
import Derived.Test.YtnkndmmebhajcaaDoorReadMath
namespace Go.Proofs.YtnkndmmebhajcaaDoor

def isBlank (c : UInt8) : Bool := c == 32 || (c == 9 || (c == 10 || c == 13))
def isComment (c : UInt8) : Bool := !(c == 10)
def isLetter (c : UInt8) : Bool := (decide (97 ≤ c.toNat) && decide (c.toNat ≤ 122)) || ((decide (65 ≤ c.toNat) && decide (c.toNat ≤ 90)) || c == 95)
def isName (c : UInt8) : Bool := isLetter c || isDig c

/-- the first place from a on whose byte isn't of the class, or the text's length -/
def runTo (p : UInt8 → Bool) (l : List UInt8) (a : Nat) : Nat := a + ((l.drop a).takeWhile p).length
theorem drop_cons {l : List UInt8} {k : Nat} {c : UInt8} (h : l[k]? = some c) : l.drop k = c :: l.drop (k + 1) := by
  obtain ⟨h1, rfl⟩ := List.getElem?_eq_some_iff.1 h
  exact List.drop_eq_getElem_cons h1
theorem runTo_step {p : UInt8 → Bool} {l : List UInt8} {a : Nat} {c : UInt8} (h : l[a]? = some c) (hp : p c = true) : runTo p l a = runTo p l (a + 1) := by
  unfold runTo
  rw [drop_cons h, List.takeWhile_cons, if_pos hp, List.length_cons]
  omega
theorem runTo_stop {p : UInt8 → Bool} {l : List UInt8} {a : Nat} {c : UInt8} (h : l[a]? = some c) (hp : p c = false) : runTo p l a = a := by
  unfold runTo
  rw [drop_cons h, List.takeWhile_cons, if_neg (by rw [hp]; simp)]
  rfl
theorem runTo_end {p : UInt8 → Bool} {l : List UInt8} {a : Nat} (h : l.length ≤ a) : runTo p l a = a := by
  unfold runTo
  rw [List.drop_eq_nil_of_le h]
  rfl
theorem runTo_ge (p : UInt8 → Bool) (l : List UInt8) (a : Nat) : a ≤ runTo p l a := by unfold runTo; omega
theorem runTo_le (p : UInt8 → Bool) {l : List UInt8} {a : Nat} (h : a ≤ l.length) : runTo p l a ≤ l.length := by
  unfold runTo
  have := (List.takeWhile_prefix p (l := l.drop a)).length_le
  rw [List.length_drop] at this
  omega

/-- how many bytes are gaps, in a comment or not -/
def gapN : Bool → List UInt8 → Nat
  | _, [] => 0
  | true, c :: l => if c = 10 then gapN false l + 1 else gapN true l + 1
  | false, c :: l => if c = 35 then gapN true l + 1 else if isBlank c = true then gapN false l + 1 else 0
def gapTo (b : Bool) (l : List UInt8) (a : Nat) : Nat := a + gapN b (l.drop a)
theorem gapN_le (b : Bool) (l : List UInt8) : gapN b l ≤ l.length := by
  induction l generalizing b with
  | nil => cases b <;> exact Nat.le_refl _
  | cons c l ih =>
    have h1 := ih true
    have h2 := ih false
    cases b <;> simp only [gapN, List.length_cons]
    · split
      · omega
      · split <;> omega
    · split <;> omega
theorem gapTo_ge (b : Bool) (l : List UInt8) (a : Nat) : a ≤ gapTo b l a := by unfold gapTo; omega
theorem gapTo_le (b : Bool) {l : List UInt8} {a : Nat} (h : a ≤ l.length) : gapTo b l a ≤ l.length := by
  unfold gapTo
  have := gapN_le b (l.drop a)
  rw [List.length_drop] at this
  omega
theorem gapTo_end (b : Bool) {l : List UInt8} {a : Nat} (h : l.length ≤ a) : gapTo b l a = a := by
  unfold gapTo
  rw [List.drop_eq_nil_of_le h]
  cases b <;> rfl
theorem gapTo_line {l : List UInt8} {a : Nat} (h : l[a]? = some 10) : gapTo true l a = gapTo false l (a + 1) := by
  unfold gapTo
  rw [drop_cons h, gapN, if_pos rfl]
  omega
theorem gapTo_comment {l : List UInt8} {a : Nat} {c : UInt8} (h : l[a]? = some c) (hc : c ≠ 10) : gapTo true l a = gapTo true l (a + 1) := by
  unfold gapTo
  rw [drop_cons h, gapN, if_neg hc]
  omega
theorem gapTo_hash {l : List UInt8} {a : Nat} (h : l[a]? = some 35) : gapTo false l a = gapTo true l (a + 1) := by
  unfold gapTo
  rw [drop_cons h, gapN, if_pos rfl]
  omega
theorem blank_hash {c : UInt8} (h : isBlank c = true) : c ≠ 35 := by rintro rfl; revert h; decide
theorem gapTo_blank {l : List UInt8} {a : Nat} {c : UInt8} (h : l[a]? = some c) (hc : isBlank c = true) : gapTo false l a = gapTo false l (a + 1) := by
  unfold gapTo
  rw [drop_cons h, gapN, if_neg (blank_hash hc), if_pos hc]
  omega
theorem gapTo_stop {l : List UInt8} {a : Nat} {c : UInt8} (h : l[a]? = some c) (h1 : c ≠ 35) (h2 : isBlank c = false) : gapTo false l a = a := by
  unfold gapTo
  rw [drop_cons h, gapN, if_neg h1, if_neg (by rw [h2]; simp)]
  rfl
/-- blanks are passed -/
theorem gapTo_blanks (l : List UInt8) (a : Nat) : gapTo false l (runTo isBlank l a) = gapTo false l a := by
  suffices h : ∀ (n a : Nat), l.length - a ≤ n → gapTo false l (runTo isBlank l a) = gapTo false l a from h _ a (Nat.le_refl _)
  intro n
  induction n with
  | zero => intro a h; rw [runTo_end (by omega)]
  | succ n ih =>
    intro a h
    rcases Nat.lt_or_ge a l.length with hlt | hge
    · have hc : l[a]? = some l[a] := List.getElem?_eq_getElem hlt
      cases hb : isBlank l[a] with
      | true => rw [runTo_step hc hb, gapTo_blank hc hb]; exact ih _ (by omega)
      | false => rw [runTo_stop hc hb]
    · rw [runTo_end hge]
theorem gapTo_comments (l : List UInt8) (a : Nat) : gapTo false l (runTo isComment l a) = gapTo true l a := by
  suffices h : ∀ (n a : Nat), l.length - a ≤ n → gapTo false l (runTo isComment l a) = gapTo true l a from h _ a (Nat.le_refl _)
  intro n
  induction n with
  | zero => intro a h; rw [runTo_end (by omega), gapTo_end _ (by omega), gapTo_end _ (by omega)]
  | succ n ih =>
    intro a h
    rcases Nat.lt_or_ge a l.length with hlt | hge
    · have hc : l[a]? = some l[a] := List.getElem?_eq_getElem hlt
      by_cases hb : l[a] = 10
      · rw [hb] at hc
        rw [runTo_stop hc (by decide), gapTo_line hc, gapTo_blank hc (by decide)]
      · rw [runTo_step hc (by unfold isComment; simpa using hb), gapTo_comment hc hb]
        exact ih _ (by omega)
    · rw [runTo_end hge, gapTo_end _ hge, gapTo_end _ hge]
/-- a comment, and the blanks behind it -/
theorem gapTo_hashes {l : List UInt8} {a : Nat} (h : l[a]? = some 35) : gapTo false l (runTo isBlank l (runTo isComment l a)) = gapTo false l a := by
  rw [gapTo_blanks, gapTo_comments, gapTo_comment h (by decide), gapTo_hash h]
theorem runTo_hash {l : List UInt8} {a : Nat} (h : l[a]? = some 35) : a < runTo isBlank l (runTo isComment l a) := by
  have h1 := runTo_ge isBlank l (runTo isComment l a)
  have h2 := runTo_ge isComment l (a + 1)
  rw [runTo_step h (by decide)]
  rw [runTo_step h (by decide)] at h1
  omega
/-- where blanks end, and no comment begins, there gaps end -/
theorem gapTo_here {l : List UInt8} {a : Nat} (h : l[runTo isBlank l a]? ≠ some 35) : gapTo false l (runTo isBlank l a) = runTo isBlank l a := by
  suffices hh : ∀ (n a : Nat), l.length - a ≤ n → l[runTo isBlank l a]? ≠ some 35 → gapTo false l (runTo isBlank l a) = runTo isBlank l a from hh _ a (Nat.le_refl _) h
  intro n
  induction n with
  | zero => intro a h _; rw [runTo_end (by omega), gapTo_end _ (by omega)]
  | succ n ih =>
    intro a h h2
    rcases Nat.lt_or_ge a l.length with hlt | hge
    · have hc : l[a]? = some l[a] := List.getElem?_eq_getElem hlt
      cases hb : isBlank l[a] with
      | true => rw [runTo_step hc hb] at h2 ⊢; exact ih _ (by omega) h2
      | false =>
        rw [runTo_stop hc hb] at h2 ⊢
        exact gapTo_stop hc (fun e => h2 (by rw [hc, e])) hb
    · rw [runTo_end hge, gapTo_end _ hge]

/-- the words -/
def wordsL : List (List UInt8) := [[102, 117, 110], [110, 111, 100, 101], [104, 121, 98, 114, 105, 100], [108, 101, 116], [100, 101, 114], [105, 110, 105, 116], [114, 101, 115, 101, 116], [111, 110], [117, 112], [109, 101, 109], [109, 111, 100, 101], [102, 114, 111, 109], [103, 111, 116, 111], [111, 117, 116], [105, 102], [116, 104, 101, 110], [101, 108, 115, 101], [112, 114, 101], [102, 98, 121], [116, 114, 117, 101], [102, 97, 108, 115, 101], [110, 111, 116], [97, 110, 100], [111, 114], [105, 115], [115, 113, 114, 116], [114, 101, 116, 117, 114, 110], [115, 101, 116], [102, 105, 120], [98, 111, 111, 108]]
def wordL (l : List UInt8) : Bool := wordsL.contains l
/-- the signs, those of two bytes first -/
def signsL : List (List UInt8) := [[45, 62], [60, 61], [61, 61], [40], [41], [123], [125], [44], [59], [58], [61], [43], [45], [42], [47], [60], [46]]
end Go.Proofs.YtnkndmmebhajcaaDoor
