/- What is behind a token's end says little of the token. -/
import Derived.Test.YtnkndmmebhajcaaDoorLexLex
namespace Go.Proofs.YtnkndmmebhajcaaDoor

/-- a byte that ends every token -/
def sepB (c : UInt8) : Bool := c == 32 || c == 10
/-- behind the token stands what stood there, or nothing, or a byte that ends every token; and so for the byte behind -/
def Fol (r r' : List UInt8) : Prop :=
  r' = [] ∨ (∃ c x', r' = c :: x' ∧ (sepB c = true ∨ ∃ x, r = c :: x ∧ (x' = [] ∨ ∃ d y', x' = d :: y' ∧ (sepB d = true ∨ ∃ y, x = d :: y))))
theorem sep_name {c : UInt8} (h : sepB c = true) : isName c = false := by
  unfold sepB at h
  simp only [Bool.or_eq_true, beq_iff_eq] at h
  rcases h with rfl | rfl <;> decide
theorem sep_dig {c : UInt8} (h : sepB c = true) : isDig c = false := by
  unfold sepB at h
  simp only [Bool.or_eq_true, beq_iff_eq] at h
  rcases h with rfl | rfl <;> decide
theorem sep_not {c : UInt8} (h : sepB c = true) : c ≠ 62 ∧ c ≠ 61 ∧ c ≠ 46 := by
  unfold sepB at h
  simp only [Bool.or_eq_true, beq_iff_eq] at h
  rcases h with rfl | rfl <;> decide
/-- the head of what follows: as it was, or an end -/
theorem Fol.head {r r' : List UInt8} (h : Fol r r') : r' = [] ∨ ∃ c x', r' = c :: x' ∧ (sepB c = true ∨ r.head? = some c) := by
  rcases h with h | ⟨c, x', h1, h2 | ⟨x, h2, _⟩⟩
  · exact .inl h
  · exact .inr ⟨c, x', h1, .inl h2⟩
  · exact .inr ⟨c, x', h1, .inr (by rw [h2]; rfl)⟩
theorem takeWhile_all (p : UInt8 → Bool) (l : List UInt8) : (l.takeWhile p).all p = true := by
  induction l with
  | nil => rfl
  | cons c l ih =>
    rw [List.takeWhile_cons]
    split
    · rename_i h; simp only [List.all_cons, h, ih, Bool.and_self]
    · rfl
theorem drop_takeWhile (p : UInt8 → Bool) (l : List UInt8) : l.drop (l.takeWhile p).length = l.dropWhile p := by
  induction l with
  | nil => rfl
  | cons c l ih =>
    rw [List.takeWhile_cons, List.dropWhile_cons]
    split <;> simp [ih]
theorem dropWhile_head (p : UInt8 → Bool) (l : List UInt8) (c : UInt8) (h : (l.dropWhile p).head? = some c) : p c = false := by
  induction l with
  | nil => simp at h
  | cons d l ih =>
    rw [List.dropWhile_cons] at h
    split at h
    · exact ih h
    · rename_i hd; simp at h; subst h; simpa using hd
theorem takeWhile_split (p : UInt8 → Bool) (t r : List UInt8) (ht : t.all p = true) (hr : ∀ c, r.head? = some c → p c = false) : (t ++ r).takeWhile p = t := by
  rw [List.takeWhile_append_of_pos (fun a ha => List.all_eq_true.1 ht a ha)]
  cases r with
  | nil => simp
  | cons c r => rw [List.takeWhile_cons, hr c rfl]; simp
/-- a class's bytes, with other things behind them -/
theorem span_stab {p : UInt8 → Bool} (hp : ∀ c, sepB c = true → p c = false) {l r' : List UInt8} (hf : Fol (l.drop (l.takeWhile p).length) r') : ((l.take (l.takeWhile p).length) ++ r').takeWhile p = l.takeWhile p := by
  have h1 : l.take (l.takeWhile p).length = l.takeWhile p := (List.prefix_iff_eq_take.1 (List.takeWhile_prefix p)).symm
  rw [h1]
  refine takeWhile_split p _ _ (takeWhile_all p l) (fun c hc => ?_)
  rcases hf.head with h | ⟨d, x', h2, h3⟩
  · rw [h] at hc; simp at hc
  · rw [h2] at hc
    simp at hc
    subst hc
    rcases h3 with h3 | h3
    · exact hp _ h3
    · rw [drop_takeWhile] at h3
      exact dropWhile_head p l _ h3
theorem name_stab {l r' : List UInt8} (hf : Fol (l.drop (nameN l)) r') : nameN (l.take (nameN l) ++ r') = nameN l := by
  unfold nameN at hf ⊢
  rw [span_stab (fun _ => sep_name) hf]
theorem dig_stab {l r' : List UInt8} (hf : Fol (l.drop (digN l)) r') : digN (l.take (digN l) ++ r') = digN l := by
  unfold digN at hf ⊢
  rw [span_stab (fun _ => sep_dig) hf]
theorem digN_cons_pos {c : UInt8} {l : List UInt8} : 0 < digN (c :: l) ↔ isDig c = true := by
  unfold digN
  rw [List.takeWhile_cons]
  split
  · rename_i h; simp [h]
  · rename_i h; simp at h; simp [h]
theorem num_stab {l r' : List UInt8} (hf : Fol (l.drop (numN l)) r') : numN (l.take (numN l) ++ r') = numN l := by
  by_cases hc : (l.drop (digN l)).head? = some 46 ∧ 0 < digN (l.drop (digN l + 1))
  · have hn : numN l = digN l + 1 + digN (l.drop (digN l + 1)) := by unfold numN; rw [if_pos hc]
    obtain ⟨x, hx⟩ : ∃ x, l.drop (digN l) = 46 :: x := by
      cases h : l.drop (digN l) with
      | nil => rw [h] at hc; simp at hc
      | cons c x => rw [h] at hc; simp at hc; exact ⟨x, by rw [hc.1]⟩
    have hx2 : l.drop (digN l + 1) = x := by
      have := congrArg (List.drop 1) hx
      rw [List.drop_drop] at this
      simpa using this
    have hl : l = l.take (digN l) ++ 46 :: x := by rw [← hx, List.take_append_drop]
    have hlt : (l.take (digN l)).length = digN l := by rw [List.length_take]; have := digN_le l; omega
    have hdx : l.drop (numN l) = x.drop (digN x) := by rw [hn, hx2, ← List.drop_drop, hx2]
    rw [hdx] at hf
    have hn2 : numN l = digN l + 1 + digN x := by rw [hn, hx2]
    have hc2 : 0 < digN x := by rw [hx2] at hc; exact hc.2
    have htake : l.take (numN l) = l.take (digN l) ++ 46 :: x.take (digN x) := by
      have h0 : l.take (digN l + 1 + digN x) = (l.take (digN l) ++ 46 :: x).take (digN l + 1 + digN x) := congrArg (List.take (digN l + 1 + digN x)) hl
      rw [hn2, h0, List.take_append, hlt, List.take_of_length_le (by rw [hlt]; omega), show digN l + 1 + digN x - digN l = digN x + 1 by omega]
      rfl
    rw [htake, List.append_assoc]
    have e1 : digN (l.take (digN l) ++ (46 :: x.take (digN x) ++ r')) = digN l := dig_stab (.inr ⟨46, x.take (digN x) ++ r', rfl, .inr ⟨x, hx, by
      rw [hx2] at hc
      cases x with
      | nil => simp [digN] at hc
      | cons d y =>
        have hd : isDig d = true := digN_cons_pos.1 hc.2
        refine .inr ⟨d, (y.take (digN (d :: y) - 1)) ++ r', ?_, .inr ⟨y, rfl⟩⟩
        obtain ⟨k, hk⟩ : ∃ k, digN (d :: y) = k + 1 := ⟨digN (d :: y) - 1, by omega⟩
        rw [hk]
        simp⟩⟩)
    have e2 : (l.take (digN l) ++ (46 :: x.take (digN x) ++ r')).drop (digN l) = 46 :: x.take (digN x) ++ r' := by
      rw [List.drop_append, hlt, Nat.sub_self, List.drop_zero, List.drop_of_length_le (by rw [hlt]; exact Nat.le_refl _)]
      rfl
    have e3 : (l.take (digN l) ++ (46 :: x.take (digN x) ++ r')).drop (digN l + 1) = x.take (digN x) ++ r' := by
      rw [← List.drop_drop, e2]
      rfl
    have e4 : digN (x.take (digN x) ++ r') = digN x := dig_stab hf
    rw [hn2]
    unfold numN
    rw [e1, e2, e3, e4, if_pos ⟨rfl, hc2⟩]
  · have hn : numN l = digN l := by unfold numN; rw [if_neg hc]
    rw [hn] at hf ⊢
    have hlt : (l.take (digN l)).length = digN l := by rw [List.length_take]; have := digN_le l; omega
    have e1 := dig_stab hf
    have e2 : (l.take (digN l) ++ r').drop (digN l) = r' := by
      rw [List.drop_append, hlt, Nat.sub_self, List.drop_zero, List.drop_of_length_le (by rw [hlt]; exact Nat.le_refl _)]
      rfl
    have e3 : (l.take (digN l) ++ r').drop (digN l + 1) = r'.drop 1 := by rw [← List.drop_drop, e2]
    unfold numN
    rw [e1, e2, e3, if_neg]
    rintro ⟨h1, h2⟩
    rcases hf with h | ⟨c, x', h, h3⟩
    · rw [h] at h1; simp at h1
    · rw [h] at h1 h2
      simp at h1
      subst h1
      rcases h3 with h3 | ⟨x, h3, h4⟩
      · exact (sep_not h3).2.2 rfl
      · refine hc ⟨by rw [h3]; rfl, ?_⟩
        rw [← List.drop_drop, h3]
        rcases h4 with h4 | ⟨d, y', h4, h5⟩
        · rw [h4] at h2; simp [digN] at h2
        · rw [h4] at h2
          have hd : isDig d = true := digN_cons_pos.1 h2
          rcases h5 with h5 | ⟨y, h5⟩
          · rw [sep_dig h5] at hd; cases hd
          · rw [h5]; exact digN_cons_pos.2 hd
theorem beq_some (a c : UInt8) : (a == c) = (some c == some a) := by
  by_cases h : a = c
  · subst h; rw [beq_self_eq_true, beq_self_eq_true]
  · rw [beq_false_of_ne h, beq_false_of_ne (fun e => h (Option.some.inj e).symm)]
theorem find_same {α : Type} (p q : α → Bool) (L : List α) (h : ∀ s ∈ L, p s = q s) : L.find? p = L.find? q := by
  induction L with
  | nil => rfl
  | cons s L ih => rw [List.find?_cons, List.find?_cons, h s (by simp), ih (fun x hx => h x (by simp [hx]))]
theorem prefix_two (a b : UInt8) (l : List UInt8) : [a, b].isPrefixOf l = (l.head? == some a && (l.drop 1).head? == some b) := by
  cases l with
  | nil => rfl
  | cons c l =>
    cases l with
    | nil => simp [List.isPrefixOf]
    | cons d l =>
      simp only [List.isPrefixOf, List.head?_cons, List.drop_succ_cons, List.drop_zero, Bool.and_true]
      rw [beq_some a c, beq_some b d]
theorem prefix_one (a : UInt8) (l : List UInt8) : [a].isPrefixOf l = (l.head? == some a) := by
  cases l with
  | nil => rfl
  | cons c l =>
    simp only [List.isPrefixOf, List.head?_cons, Bool.and_true]
    rw [beq_some a c]
/-- the sign at a text's head, by its first two bytes -/
def signBy (a b : Option UInt8) : Option (List UInt8) := signsL.find? fun s => match s with
  | [x, y] => a == some x && b == some y
  | [x] => a == some x
  | _ => false
theorem signOf_by (l : List UInt8) : signOf l = signBy l.head? (l.drop 1).head? := by
  unfold signOf signBy
  refine find_same _ _ _ fun s hs => ?_
  have : (∃ x, s = [x]) ∨ ∃ x y, s = [x, y] := by
    have h0 : ∀ s ∈ signsL, s.length = 1 ∨ s.length = 2 := by decide
    rcases h0 s hs with h | h
    · rcases s with _ | ⟨x, _ | ⟨y, s⟩⟩
      · simp at h
      · exact .inl ⟨x, rfl⟩
      · simp at h
    · rcases s with _ | ⟨x, _ | ⟨y, _ | ⟨z, s⟩⟩⟩
      · simp at h
      · simp at h
      · exact .inr ⟨x, y, rfl⟩
      · simp at h
  rcases this with ⟨x, rfl⟩ | ⟨x, y, rfl⟩
  · exact prefix_one x l
  · exact prefix_two x y l
/-- what a second byte says of a sign: 62 or 61 alone -/
theorem signBy_tail (a : Option UInt8) (b b' : Option UInt8) (s : List UInt8) (h : signBy a b = some s) (hb : b' = b ∨ (s.length = 1 ∧ b' ≠ some 62 ∧ b' ≠ some 61)) : signBy a b' = some s := by
  rcases hb with rfl | ⟨h1, h2, h3⟩
  · exact h
  · have e62 : (b' == some 62) = false := beq_false_of_ne h2
    have e61 : (b' == some 61) = false := beq_false_of_ne h3
    unfold signBy signsL at h ⊢
    simp only [List.find?_cons, e62, e61, Bool.and_false] at h ⊢
    split at h
    · cases h; simp at h1
    · split at h
      · cases h; simp at h1
      · split at h
        · cases h; simp at h1
        · exact h
theorem sign_stab {l r' s : List UInt8} (h : signOf l = some s) (hf : Fol (l.drop s.length) r') : signOf (l.take s.length ++ r') = some s := by
  obtain ⟨hm, hp⟩ := signOf_mem h
  have ht := prefix_take hp
  have hlen := signs_len hm
  have hs2 : s.length = 1 ∨ s.length = 2 := by omega
  rw [ht]
  rw [signOf_by] at h ⊢
  rcases hs2 with h1 | h1
  · obtain ⟨x, rfl⟩ : ∃ x, s = [x] := by rcases s with _ | ⟨x, _ | ⟨y, s⟩⟩ <;> first | exact ⟨_, rfl⟩ | simp at h1
    obtain ⟨l', rfl⟩ : ∃ l', l = x :: l' := by
      cases l with
      | nil => simp at ht
      | cons c l' => simp at ht; exact ⟨l', by rw [ht]⟩
    simp only [List.cons_append, List.nil_append, List.head?_cons, List.drop_succ_cons, List.drop_zero] at h ⊢
    refine signBy_tail _ _ _ _ h ?_
    have hf' : Fol l' r' := hf
    rcases hf'.head with h2 | ⟨c, x', h2, h3 | h3⟩
    · rw [h2]; exact .inr ⟨rfl, by simp, by simp⟩
    · rw [h2]; have := sep_not h3; exact .inr ⟨rfl, by simpa using this.1, by simpa using this.2.1⟩
    · rw [h2, h3]; exact .inl rfl
  · obtain ⟨x, y, rfl⟩ : ∃ x y, s = [x, y] := by rcases s with _ | ⟨x, _ | ⟨y, _ | ⟨z, s⟩⟩⟩ <;> first | exact ⟨_, _, rfl⟩ | simp at h1
    obtain ⟨l', rfl⟩ : ∃ l', l = x :: y :: l' := by
      rcases l with _ | ⟨c, _ | ⟨d, l'⟩⟩
      · simp at ht
      · simp at ht
      · simp at ht; exact ⟨l', by rw [ht.1, ht.2]⟩
    exact h
/-- THE TOKEN STAYS, whatever such follows -/
theorem one_stab {l r' : List UInt8} {k n : Nat} {v : Int} (h : oneL l = some (k, n, v)) (hf : Fol (l.drop n) r') : oneL (l.take n ++ r') = some (k, n, v) := by
  have hn := oneL_some h
  cases l with
  | nil => cases h
  | cons c l =>
    obtain ⟨m, rfl⟩ : ∃ m, n = m + 1 := ⟨n - 1, by omega⟩
    have hcons : (c :: l).take (m + 1) ++ r' = c :: (l.take m ++ r') := rfl
    unfold oneL at h
    simp only at h
    rw [hcons]
    unfold oneL
    simp only
    rw [← hcons]
    split at h
    · rename_i hc
      rw [if_pos hc]
      split at h
      · rename_i h16
        simp only [Option.some.injEq, Prod.mk.injEq] at h
        obtain ⟨h1, h2, h3⟩ := h
        rw [← h2] at hf ⊢
        have e := name_stab hf
        rw [e, if_pos h16, List.take_left' (by rw [List.length_take]; have := nameN_le (c :: l); omega)]
        rw [h1, h3]
      · cases h
    · rename_i hc
      rw [if_neg hc]
      split at h
      · rename_i hd
        rw [if_pos hd]
        split at h
        · rename_i hp
          simp only [Option.some.injEq, Prod.mk.injEq] at h
          obtain ⟨h1, h2, h3⟩ := h
          rw [← h2] at hf ⊢
          have e := num_stab hf
          rw [e, List.take_left' (by rw [List.length_take]; have := numN_le (c :: l); omega), if_pos hp, h3, h1]
        · cases h
      · rename_i hd
        rw [if_neg hd]
        cases hs : signOf (c :: l) with
        | none => rw [hs] at h; cases h
        | some s =>
          rw [hs] at h
          simp only [Option.map_some, Option.some.injEq, Prod.mk.injEq] at h
          obtain ⟨h1, h2, h3⟩ := h
          rw [← h2] at hf ⊢
          rw [sign_stab hs hf]
          simp only [Option.map_some, Option.some.injEq, Prod.mk.injEq]
          exact ⟨h1, trivial, h3⟩
end Go.Proofs.YtnkndmmebhajcaaDoor
