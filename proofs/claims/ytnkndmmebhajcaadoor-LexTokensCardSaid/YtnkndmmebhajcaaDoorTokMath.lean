/- One token at the head of a text; all tokens of a text. -/
import Derived.Test.YtnkndmmebhajcaaDoorLexRead
namespace Go.Proofs.YtnkndmmebhajcaaDoor

def nameN (l : List UInt8) : Nat := (l.takeWhile isName).length
def digN (l : List UInt8) : Nat := (l.takeWhile isDig).length
def numN (l : List UInt8) : Nat := if (l.drop (digN l)).head? = some 46 ∧ 0 < digN (l.drop (digN l + 1)) then digN l + 1 + digN (l.drop (digN l + 1)) else digN l
def signOf (l : List UInt8) : Option (List UInt8) := signsL.find? (·.isPrefixOf l)
/-- kind, length and number of the token at a text's head -/
def oneL (l : List UInt8) : Option (Nat × Nat × Int) :=
  match l with
  | [] => none
  | c :: _ =>
    if isLetter c = true then (if nameN l ≤ 16 then some (if wordL (l.take (nameN l)) = true then 3 else 1, nameN l, 0) else none)
    else if isDig c = true then (if (parseL (l.take (numN l))).2 = true then some (2, numN l, ((parseL (l.take (numN l))).1 : Int)) else none)
    else (signOf l).map fun s => (4, s.length, 0)
structure Tok where
  kind : Nat
  text : List UInt8
  v : Int
  at_ : Nat
def tokV (t : Tok) : Value := .agg #[.int .i64 (t.kind : Int), .string (str t.text), .int .i64 t.v, .int .i64 (t.at_ : Int)]
/-- the token at a place, or one of no kind -/
def tokOf (o : Option (Nat × Nat × Int)) (l : List UInt8) (a : Nat) : Tok := match o with
  | none => ⟨0, [], 0, a⟩
  | some (k, n, v) => ⟨k, l.take n, v, a⟩
def tokAt (l : List UInt8) (a : Nat) : Tok := tokOf (oneL (l.drop a)) (l.drop a) a

theorem runTo_name (l : List UInt8) (a : Nat) : runTo isName l a = a + nameN (l.drop a) := rfl
theorem runTo_dig (l : List UInt8) (a : Nat) : runTo isDig l a = a + digN (l.drop a) := rfl
theorem nameN_le (l : List UInt8) : nameN l ≤ l.length := (List.takeWhile_prefix _).length_le
theorem digN_le (l : List UInt8) : digN l ≤ l.length := (List.takeWhile_prefix _).length_le
theorem numN_le (l : List UInt8) : numN l ≤ l.length := by
  unfold numN
  split
  · rename_i h
    have := digN_le (l.drop (digN l + 1))
    rw [List.length_drop] at this
    have h2 := h.2
    omega
  · exact digN_le l
theorem letter_name {c : UInt8} (h : isLetter c = true) : isName c = true := by unfold isName; rw [h]; rfl
theorem nameN_pos {c : UInt8} {l : List UInt8} (h : isLetter c = true) : 0 < nameN (c :: l) := by
  unfold nameN
  rw [List.takeWhile_cons, if_pos (letter_name h), List.length_cons]
  omega
theorem digN_pos {c : UInt8} {l : List UInt8} (h : isDig c = true) : 0 < digN (c :: l) := by
  unfold digN
  rw [List.takeWhile_cons, if_pos h, List.length_cons]
  omega
theorem numN_pos {c : UInt8} {l : List UInt8} (h : isDig c = true) : 0 < numN (c :: l) := by
  have := digN_pos (l := l) h
  unfold numN
  split <;> omega
theorem signOf_mem {l s : List UInt8} (h : signOf l = some s) : s ∈ signsL ∧ s.isPrefixOf l = true := by
  unfold signOf at h
  exact ⟨List.mem_of_find?_eq_some h, by simpa using List.find?_some h⟩
theorem signs_len {s : List UInt8} (h : s ∈ signsL) : 1 ≤ s.length ∧ s.length ≤ 2 := by
  have : ∀ s ∈ signsL, 1 ≤ s.length ∧ s.length ≤ 2 := by decide
  exact this s h
/-- a token is of some kind, and has bytes -/
theorem oneL_some {l : List UInt8} {k n : Nat} {v : Int} (h : oneL l = some (k, n, v)) : 1 ≤ k ∧ k ≤ 4 ∧ 1 ≤ n ∧ n ≤ l.length := by
  cases l with
  | nil => cases h
  | cons c l =>
    unfold oneL at h
    simp only at h
    split at h
    · rename_i hc
      split at h
      · simp only [Option.some.injEq, Prod.mk.injEq] at h
        obtain ⟨rfl, rfl, rfl⟩ := h
        have h1 := nameN_pos (l := l) hc
        have h2 := nameN_le (c :: l)
        split <;> exact ⟨by omega, by omega, h1, h2⟩
      · cases h
    · split at h
      · rename_i hd
        split at h
        · simp only [Option.some.injEq, Prod.mk.injEq] at h
          obtain ⟨rfl, rfl, rfl⟩ := h
          exact ⟨by omega, by omega, numN_pos hd, numN_le _⟩
        · cases h
      · cases hs : signOf (c :: l) with
        | none => rw [hs] at h; cases h
        | some s =>
          rw [hs] at h
          simp only [Option.map_some, Option.some.injEq, Prod.mk.injEq] at h
          obtain ⟨rfl, rfl, rfl⟩ := h
          obtain ⟨h1, h2⟩ := signOf_mem hs
          have h3 := signs_len h1
          exact ⟨by omega, by omega, h3.1, (List.isPrefixOf_iff_prefix.1 h2).length_le⟩
theorem tokAt_kind (l : List UInt8) (a : Nat) : (tokAt l a).kind = 0 ↔ oneL (l.drop a) = none := by
  unfold tokAt
  cases h : oneL (l.drop a) with
  | none => simp [tokOf]
  | some x =>
    obtain ⟨k, n, v⟩ := x
    have := oneL_some h
    simp only [tokOf, reduceCtorEq, iff_false]
    omega
/-- all tokens from a place on, the gaps ahead of it passed; or those ahead of the first place where none is -/
inductive Toks (l : List UInt8) : Nat → List Tok → Option Nat → Prop
  | fin {a : Nat} (h : l.length ≤ a) : Toks l a [] none
  | bad {a : Nat} (h : a < l.length) (h1 : oneL (l.drop a) = none) : Toks l a [] (some a)
  | tok {a : Nat} {ts : List Tok} {r : Option Nat} (h : a < l.length) (h1 : oneL (l.drop a) ≠ none) (h2 : Toks l (gapTo false l (a + (tokAt l a).text.length)) ts r) : Toks l a (tokAt l a :: ts) r
theorem tokAt_len {l : List UInt8} {a : Nat} (h : oneL (l.drop a) ≠ none) : 1 ≤ (tokAt l a).text.length ∧ a + (tokAt l a).text.length ≤ l.length := by
  unfold tokAt
  cases h1 : oneL (l.drop a) with
  | none => exact absurd h1 h
  | some x =>
    obtain ⟨k, n, v⟩ := x
    have h2 := oneL_some h1
    simp only [tokOf, List.length_take]
    rw [List.length_drop] at *
    omega
theorem toks_total (l : List UInt8) (a : Nat) : ∃ ts r, Toks l a ts r := by
  suffices h : ∀ n a, l.length - a ≤ n → ∃ ts r, Toks l a ts r from h _ a (Nat.le_refl _)
  intro n
  induction n with
  | zero => intro a h; exact ⟨_, _, .fin (by omega)⟩
  | succ n ih =>
    intro a h
    rcases Nat.lt_or_ge a l.length with hlt | hge
    · by_cases h1 : oneL (l.drop a) = none
      · exact ⟨_, _, .bad hlt h1⟩
      · have h2 := tokAt_len h1
        have h3 := gapTo_ge false l (a + (tokAt l a).text.length)
        obtain ⟨ts, r, h4⟩ := ih (gapTo false l (a + (tokAt l a).text.length)) (by omega)
        exact ⟨_, _, .tok hlt h1 h4⟩
    · exact ⟨_, _, .fin hge⟩
/-- what is there, and no more -/
theorem toks_one {l : List UInt8} {a : Nat} {ts us : List Tok} {r q : Option Nat} (h : Toks l a ts r) (k : Toks l a us q) : ts = us ∧ r = q := by
  induction h generalizing us q with
  | fin h =>
    cases k with
    | fin => exact ⟨rfl, rfl⟩
    | bad h1 => omega
    | tok h1 => omega
  | bad h h1 =>
    cases k with
    | fin h2 => omega
    | bad => exact ⟨rfl, rfl⟩
    | tok _ h2 => exact absurd h1 h2
  | tok h h1 h2 ih =>
    cases k with
    | fin h3 => omega
    | bad _ h3 => exact absurd h3 h1
    | tok _ _ h3 =>
      obtain ⟨rfl, rfl⟩ := ih h3
      exact ⟨rfl, rfl⟩
/-- a text's tokens, or those ahead of a fault -/
def lexT (l : List UInt8) (ts : List Tok) (r : Option Nat) : Prop := Toks l (gapTo false l 0) ts r
theorem toks_place {l : List UInt8} {a f : Nat} {ts : List Tok} (h : Toks l a ts (some f)) : a ≤ f ∧ f < l.length := by
  generalize hr : some f = r at h
  induction h with
  | fin => cases hr
  | bad h => cases hr; exact ⟨Nat.le_refl _, h⟩
  | @tok a ts r h h1 h2 ih =>
    have h3 := gapTo_ge false l (a + (tokAt l a).text.length)
    have h4 := ih hr
    omega
theorem toks_count {l : List UInt8} {a : Nat} {ts : List Tok} {r : Option Nat} (h : Toks l a ts r) : ts.length + a ≤ max a l.length := by
  induction h with
  | fin h => simp; omega
  | bad h => simp; omega
  | @tok a ts r h h1 h2 ih =>
    have h3 := gapTo_ge false l (a + (tokAt l a).text.length)
    have h4 := tokAt_len h1
    have h5 := gapTo_le false (l := l) (a := a + (tokAt l a).text.length) h4.2
    simp only [List.length_cons]
    omega
end Go.Proofs.YtnkndmmebhajcaaDoor
