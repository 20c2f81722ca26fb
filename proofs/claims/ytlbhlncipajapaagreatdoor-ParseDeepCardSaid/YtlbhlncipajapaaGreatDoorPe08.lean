/- Joined: LexAlive, StabMath, ToksMath. -/
import Derived.Test.YtlbhlncipajapaaGreatDoorPe07
namespace Go.Proofs.YtlbhlncipajapaaGreatDoor.Lx
open Go.RowKit

/-- tokens come back -/
def LexOk (l : List UInt8) (ts : List Tok) (w : World) (e : Ending) (w' : World) : Prop :=
  ∃ g cap, e = .returned (.tuple #[.slice (some ⟨g, 0, none⟩) (ts.length + 1) cap, .agg #[.int .i64 0, .int .i64 0]]) ∧ Below w.heap.size w w' ∧ w.heap.size ≤ g ∧ g < w'.heap.size ∧
    (∀ j u, (tokCells (ts ++ [endT l.length]))[j]? = some u → w'.cell? ⟨g, j, none⟩ = some u)
def LexBad (f : Nat) (w : World) (e : Ending) (w' : World) : Prop := e = .returned (.tuple #[.slice none 0 0, .agg #[.int .i64 1, .int .i64 (f : Int)]]) ∧ Below w.heap.size w w'
def LexLong (w : World) (e : Ending) (w' : World) : Prop := e = .returned (.tuple #[.slice none 0 0, .agg #[.int .i64 10, .int .i64 0]]) ∧ Below w.heap.size w w'
theorem row_cells {w : World} {base g n cap : Nat} {xs : List Value} (h : w.ownsRow base 43 4 (.slice (some ⟨g, 0, none⟩) n cap) n xs) (j : Nat) (u : Value) (hu : xs[j]? = some u) : w.cell? ⟨g, j, none⟩ = some u := by
  have := h.cells (g := g) rfl j u hu
  have e : (⟨g, 0, none⟩ : Addr).add j = ⟨g, j, none⟩ := by unfold Addr.add; split <;> simp_all
  rwa [e] at this
theorem lex_ok (l : List UInt8) (ts : List Tok) (ht : lexT l ts none) (hl : l.length ≤ 20000) (w : World) (hS : Signs w) : Calls Tryz.prog 31 #[.string (str l)] w fun e w' => LexOk l ts w e w' :=
  (lex_any l ts none ht w hS).mono fun e w' ⟨v, c, f, he, hb, h⟩ => by
    rcases h with ⟨h1, _⟩ | ⟨_, _, rfl, rfl, h2⟩ | ⟨_, g, h2, _⟩
    · omega
    · obtain ⟨g', cap', rfl⟩ := ownsRow_succ h2
      have hlt := h2.lt g' rfl
      exact ⟨g', cap', he, hb, hlt.1, hlt.2, row_cells h2⟩
    · cases h2
theorem lex_bad (l : List UInt8) (ts : List Tok) (f : Nat) (ht : lexT l ts (some f)) (hl : l.length ≤ 20000) (w : World) (hS : Signs w) : Calls Tryz.prog 31 #[.string (str l)] w fun e w' => LexBad f w e w' :=
  (lex_any l ts (some f) ht w hS).mono fun e w' ⟨v, c, f', he, hb, h⟩ => by
    rcases h with ⟨h1, _⟩ | ⟨_, h2, _⟩ | ⟨_, g, h2, rfl, rfl, rfl⟩
    · omega
    · cases h2
    · cases h2; exact ⟨he, hb⟩
theorem lex_too (l : List UInt8) (hl : 20000 < l.length) (w : World) (hS : Signs w) : Calls Tryz.prog 31 #[.string (str l)] w fun e w' => LexLong w e w' := by
  obtain ⟨ts, r, ht⟩ := toks_total l (gapTo false l 0)
  exact (lex_any l ts r ht w hS).mono fun e w' ⟨v, c, f', he, hb, h⟩ => by
    rcases h with ⟨_, rfl, rfl, rfl⟩ | ⟨h1, _⟩ | ⟨h1, _⟩
    · exact ⟨he, hb⟩
    · omega
    · omega
/-- the example's text -/
def exL : List UInt8 := [120, 49, 32, 61, 32, 49, 46, 53, 59]
def exT : List Tok := [tokAt exL 0, tokAt exL 3, tokAt exL 5, tokAt exL 8]
theorem ex_lex : lexT exL exT none := by
  unfold lexT exT
  rw [show gapTo false exL 0 = 0 by decide +kernel]
  refine .tok (by decide) (by decide +kernel) ?_
  rw [show gapTo false exL (0 + (tokAt exL 0).text.length) = 3 by decide +kernel]
  refine .tok (by decide) (by decide +kernel) ?_
  rw [show gapTo false exL (3 + (tokAt exL 3).text.length) = 5 by decide +kernel]
  refine .tok (by decide) (by decide +kernel) ?_
  rw [show gapTo false exL (5 + (tokAt exL 5).text.length) = 8 by decide +kernel]
  refine .tok (by decide) (by decide +kernel) ?_
  rw [show gapTo false exL (8 + (tokAt exL 8).text.length) = 9 by decide +kernel]
  exact .fin (by decide)
theorem ex_cells : (tokCells (exT ++ [endT exL.length]))[1]? = some (.string (str [120, 49])) ∧ (tokCells (exT ++ [endT exL.length]))[10]? = some (.int .i64 6442450944) ∧ (tokCells (exT ++ [endT exL.length]))[16]? = some (.int .i64 5) := by
  have h1 : (tokAt exL 0).text = [120, 49] := by decide +kernel
  have h2 : (tokAt exL 5).v = 6442450944 := by decide +kernel
  refine ⟨?_, ?_, ?_⟩
  · show some (Value.string (str (tokAt exL 0).text)) = _; rw [h1]
  · show some (Value.int .i64 (tokAt exL 5).v) = _; rw [h2]
  · rfl
end Go.Proofs.YtlbhlncipajapaaGreatDoor.Lx
namespace Go.Proofs.YtlbhlncipajapaaGreatDoor.Lx

/-- a byte that ends every token -/
def sepB (c : UInt8) : Bool := c == 32 || c == 10
/-- behind the token stands what stood there, or nothing, or a byte that ends every token; and so for the byte behind -/
def Fol (r r' : List UInt8) : Prop :=
  r' = [] ∨ (∃ c x', r' = c :: x' ∧ (sepB c = true ∨ ∃ x, r = c :: x ∧ (x' = [] ∨ ∃ d y', x' = d :: y' ∧ (sepB d = true ∨ ∃ y, x = d :: y))))
theorem sep_name {c : UInt8} (h : sepB c = true) : isName c = false := by
  unfold sepB at h
  simp only [Bool.or_eq_true, beq_iff_eq] at h
  rcases h with rfl | rfl <;> decide
theorem sep_dig {c : UInt8} (h : sepB c = true) : isDig c = false := by
  unfold sepB at h
  simp only [Bool.or_eq_true, beq_iff_eq] at h
  rcases h with rfl | rfl <;> decide
theorem sep_not {c : UInt8} (h : sepB c = true) : c ≠ 62 ∧ c ≠ 61 ∧ c ≠ 46 := by
  unfold sepB at h
  simp only [Bool.or_eq_true, beq_iff_eq] at h
  rcases h with rfl | rfl <;> decide
/-- the head of what follows: as it was, or an end -/
theorem Fol.head {r r' : List UInt8} (h : Fol r r') : r' = [] ∨ ∃ c x', r' = c :: x' ∧ (sepB c = true ∨ r.head? = some c) := by
  rcases h with h | ⟨c, x', h1, h2 | ⟨x, h2, _⟩⟩
  · exact .inl h
  · exact .inr ⟨c, x', h1, .inl h2⟩
  · exact .inr ⟨c, x', h1, .inr (by rw [h2]; rfl)⟩
theorem takeWhile_all (p : UInt8 → Bool) (l : List UInt8) : (l.takeWhile p).all p = true := by
  induction l with
  | nil => rfl
  | cons c l ih =>
    rw [List.takeWhile_cons]
    split
    · rename_i h; simp only [List.all_cons, h, ih, Bool.and_self]
    · rfl
theorem drop_takeWhile (p : UInt8 → Bool) (l : List UInt8) : l.drop (l.takeWhile p).length = l.dropWhile p := by
  induction l with
  | nil => rfl
  | cons c l ih =>
    rw [List.takeWhile_cons, List.dropWhile_cons]
    split <;> simp [ih]
theorem dropWhile_head (p : UInt8 → Bool) (l : List UInt8) (c : UInt8) (h : (l.dropWhile p).head? = some c) : p c = false := by
  induction l with
  | nil => simp at h
  | cons d l ih =>
    rw [List.dropWhile_cons] at h
    split at h
    · exact ih h
    · rename_i hd; simp at h; subst h; simpa using hd
theorem takeWhile_split (p : UInt8 → Bool) (t r : List UInt8) (ht : t.all p = true) (hr : ∀ c, r.head? = some c → p c = false) : (t ++ r).takeWhile p = t := by
  rw [List.takeWhile_append_of_pos (fun a ha => List.all_eq_true.1 ht a ha)]
  cases r with
  | nil => simp
  | cons c r => rw [List.takeWhile_cons, hr c rfl]; simp
/-- a class's bytes, with other things behind them -/
theorem span_stab {p : UInt8 → Bool} (hp : ∀ c, sepB c = true → p c = false) {l r' : List UInt8} (hf : Fol (l.drop (l.takeWhile p).length) r') : ((l.take (l.takeWhile p).length) ++ r').takeWhile p = l.takeWhile p := by
  have h1 : l.take (l.takeWhile p).length = l.takeWhile p := (List.prefix_iff_eq_take.1 (List.takeWhile_prefix p)).symm
  rw [h1]
  refine takeWhile_split p _ _ (takeWhile_all p l) (fun c hc => ?_)
  rcases hf.head with h | ⟨d, x', h2, h3⟩
  · rw [h] at hc; simp at hc
  · rw [h2] at hc
    simp at hc
    subst hc
    rcases h3 with h3 | h3
    · exact hp _ h3
    · rw [drop_takeWhile] at h3
      exact dropWhile_head p l _ h3
theorem name_stab {l r' : List UInt8} (hf : Fol (l.drop (nameN l)) r') : nameN (l.take (nameN l) ++ r') = nameN l := by
  unfold nameN at hf ⊢
  rw [span_stab (fun _ => sep_name) hf]
theorem dig_stab {l r' : List UInt8} (hf : Fol (l.drop (digN l)) r') : digN (l.take (digN l) ++ r') = digN l := by
  unfold digN at hf ⊢
  rw [span_stab (fun _ => sep_dig) hf]
theorem digN_cons_pos {c : UInt8} {l : List UInt8} : 0 < digN (c :: l) ↔ isDig c = true := by
  unfold digN
  rw [List.takeWhile_cons]
  split
  · rename_i h; simp [h]
  · rename_i h; simp at h; simp [h]
theorem num_stab {l r' : List UInt8} (hf : Fol (l.drop (numN l)) r') : numN (l.take (numN l) ++ r') = numN l := by
  by_cases hc : (l.drop (digN l)).head? = some 46 ∧ 0 < digN (l.drop (digN l + 1))
  · have hn : numN l = digN l + 1 + digN (l.drop (digN l + 1)) := by unfold numN; rw [if_pos hc]
    obtain ⟨x, hx⟩ : ∃ x, l.drop (digN l) = 46 :: x := by
      cases h : l.drop (digN l) with
      | nil => rw [h] at hc; simp at hc
      | cons c x => rw [h] at hc; simp at hc; exact ⟨x, by rw [hc.1]⟩
    have hx2 : l.drop (digN l + 1) = x := by
      have := congrArg (List.drop 1) hx
      rw [List.drop_drop] at this
      simpa using this
    have hl : l = l.take (digN l) ++ 46 :: x := by rw [← hx, List.take_append_drop]
    have hlt : (l.take (digN l)).length = digN l := by rw [List.length_take]; have := digN_le l; omega
    have hdx : l.drop (numN l) = x.drop (digN x) := by rw [hn, hx2, ← List.drop_drop, hx2]
    rw [hdx] at hf
    have hn2 : numN l = digN l + 1 + digN x := by rw [hn, hx2]
    have hc2 : 0 < digN x := by rw [hx2] at hc; exact hc.2
    have htake : l.take (numN l) = l.take (digN l) ++ 46 :: x.take (digN x) := by
      have h0 : l.take (digN l + 1 + digN x) = (l.take (digN l) ++ 46 :: x).take (digN l + 1 + digN x) := congrArg (List.take (digN l + 1 + digN x)) hl
      rw [hn2, h0, List.take_append, hlt, List.take_of_length_le (by rw [hlt]; omega), show digN l + 1 + digN x - digN l = digN x + 1 by omega]
      rfl
    rw [htake, List.append_assoc]
    have e1 : digN (l.take (digN l) ++ (46 :: x.take (digN x) ++ r')) = digN l := dig_stab (.inr ⟨46, x.take (digN x) ++ r', rfl, .inr ⟨x, hx, by
      rw [hx2] at hc
      cases x with
      | nil => simp [digN] at hc
      | cons d y =>
        have hd : isDig d = true := digN_cons_pos.1 hc.2
        refine .inr ⟨d, (y.take (digN (d :: y) - 1)) ++ r', ?_, .inr ⟨y, rfl⟩⟩
        obtain ⟨k, hk⟩ : ∃ k, digN (d :: y) = k + 1 := ⟨digN (d :: y) - 1, by omega⟩
        rw [hk]
        simp⟩⟩)
    have e2 : (l.take (digN l) ++ (46 :: x.take (digN x) ++ r')).drop (digN l) = 46 :: x.take (digN x) ++ r' := by
      rw [List.drop_append, hlt, Nat.sub_self, List.drop_zero, List.drop_of_length_le (by rw [hlt]; exact Nat.le_refl _)]
      rfl
    have e3 : (l.take (digN l) ++ (46 :: x.take (digN x) ++ r')).drop (digN l + 1) = x.take (digN x) ++ r' := by
      rw [← List.drop_drop, e2]
      rfl
    have e4 : digN (x.take (digN x) ++ r') = digN x := dig_stab hf
    rw [hn2]
    unfold numN
    rw [e1, e2, e3, e4, if_pos ⟨rfl, hc2⟩]
  · have hn : numN l = digN l := by unfold numN; rw [if_neg hc]
    rw [hn] at hf ⊢
    have hlt : (l.take (digN l)).length = digN l := by rw [List.length_take]; have := digN_le l; omega
    have e1 := dig_stab hf
    have e2 : (l.take (digN l) ++ r').drop (digN l) = r' := by
      rw [List.drop_append, hlt, Nat.sub_self, List.drop_zero, List.drop_of_length_le (by rw [hlt]; exact Nat.le_refl _)]
      rfl
    have e3 : (l.take (digN l) ++ r').drop (digN l + 1) = r'.drop 1 := by rw [← List.drop_drop, e2]
    unfold numN
    rw [e1, e2, e3, if_neg]
    rintro ⟨h1, h2⟩
    rcases hf with h | ⟨c, x', h, h3⟩
    · rw [h] at h1; simp at h1
    · rw [h] at h1 h2
      simp at h1
      subst h1
      rcases h3 with h3 | ⟨x, h3, h4⟩
      · exact (sep_not h3).2.2 rfl
      · refine hc ⟨by rw [h3]; rfl, ?_⟩
        rw [← List.drop_drop, h3]
        rcases h4 with h4 | ⟨d, y', h4, h5⟩
        · rw [h4] at h2; simp [digN] at h2
        · rw [h4] at h2
          have hd : isDig d = true := digN_cons_pos.1 h2
          rcases h5 with h5 | ⟨y, h5⟩
          · rw [sep_dig h5] at hd; cases hd
          · rw [h5]; exact digN_cons_pos.2 hd
theorem beq_some (a c : UInt8) : (a == c) = (some c == some a) := by
  by_cases h : a = c
  · subst h; rw [beq_self_eq_true, beq_self_eq_true]
  · rw [beq_false_of_ne h, beq_false_of_ne (fun e => h (Option.some.inj e).symm)]
theorem find_same {α : Type} (p q : α → Bool) (L : List α) (h : ∀ s ∈ L, p s = q s) : L.find? p = L.find? q := by
  induction L with
  | nil => rfl
  | cons s L ih => rw [List.find?_cons, List.find?_cons, h s (by simp), ih (fun x hx => h x (by simp [hx]))]
theorem prefix_two (a b : UInt8) (l : List UInt8) : [a, b].isPrefixOf l = (l.head? == some a && (l.drop 1).head? == some b) := by
  cases l with
  | nil => rfl
  | cons c l =>
    cases l with
    | nil => simp [List.isPrefixOf]
    | cons d l =>
      simp only [List.isPrefixOf, List.head?_cons, List.drop_succ_cons, List.drop_zero, Bool.and_true]
      rw [beq_some a c, beq_some b d]
theorem prefix_one (a : UInt8) (l : List UInt8) : [a].isPrefixOf l = (l.head? == some a) := by
  cases l with
  | nil => rfl
  | cons c l =>
    simp only [List.isPrefixOf, List.head?_cons, Bool.and_true]
    rw [beq_some a c]
/-- the sign at a text's head, by its first two bytes -/
def signBy (a b : Option UInt8) : Option (List UInt8) := signsL.find? fun s => match s with
  | [x, y] => a == some x && b == some y
  | [x] => a == some x
  | _ => false
theorem signOf_by (l : List UInt8) : signOf l = signBy l.head? (l.drop 1).head? := by
  unfold signOf signBy
  refine find_same _ _ _ fun s hs => ?_
  have : (∃ x, s = [x]) ∨ ∃ x y, s = [x, y] := by
    have h0 : ∀ s ∈ signsL, s.length = 1 ∨ s.length = 2 := by decide
    rcases h0 s hs with h | h
    · rcases s with _ | ⟨x, _ | ⟨y, s⟩⟩
      · simp at h
      · exact .inl ⟨x, rfl⟩
      · simp at h
    · rcases s with _ | ⟨x, _ | ⟨y, _ | ⟨z, s⟩⟩⟩
      · simp at h
      · simp at h
      · exact .inr ⟨x, y, rfl⟩
      · simp at h
  rcases this with ⟨x, rfl⟩ | ⟨x, y, rfl⟩
  · exact prefix_one x l
  · exact prefix_two x y l
/-- what a second byte says of a sign: 62 or 61 alone -/
theorem signBy_tail (a : Option UInt8) (b b' : Option UInt8) (s : List UInt8) (h : signBy a b = some s) (hb : b' = b ∨ (s.length = 1 ∧ b' ≠ some 62 ∧ b' ≠ some 61)) : signBy a b' = some s := by
  rcases hb with rfl | ⟨h1, h2, h3⟩
  · exact h
  · have e62 : (b' == some 62) = false := beq_false_of_ne h2
    have e61 : (b' == some 61) = false := beq_false_of_ne h3
    unfold signBy signsL at h ⊢
    simp only [List.find?_cons, e62, e61, Bool.and_false] at h ⊢
    split at h
    · cases h; simp at h1
    · split at h
      · cases h; simp at h1
      · split at h
        · cases h; simp at h1
        · exact h
theorem sign_stab {l r' s : List UInt8} (h : signOf l = some s) (hf : Fol (l.drop s.length) r') : signOf (l.take s.length ++ r') = some s := by
  obtain ⟨hm, hp⟩ := signOf_mem h
  have ht := prefix_take hp
  have hlen := signs_len hm
  have hs2 : s.length = 1 ∨ s.length = 2 := by omega
  rw [ht]
  rw [signOf_by] at h ⊢
  rcases hs2 with h1 | h1
  · obtain ⟨x, rfl⟩ : ∃ x, s = [x] := by rcases s with _ | ⟨x, _ | ⟨y, s⟩⟩ <;> first | exact ⟨_, rfl⟩ | simp at h1
    obtain ⟨l', rfl⟩ : ∃ l', l = x :: l' := by
      cases l with
      | nil => simp at ht
      | cons c l' => simp at ht; exact ⟨l', by rw [ht]⟩
    simp only [List.cons_append, List.nil_append, List.head?_cons, List.drop_succ_cons, List.drop_zero] at h ⊢
    refine signBy_tail _ _ _ _ h ?_
    have hf' : Fol l' r' := hf
    rcases hf'.head with h2 | ⟨c, x', h2, h3 | h3⟩
    · rw [h2]; exact .inr ⟨rfl, by simp, by simp⟩
    · rw [h2]; have := sep_not h3; exact .inr ⟨rfl, by simpa using this.1, by simpa using this.2.1⟩
    · rw [h2, h3]; exact .inl rfl
  · obtain ⟨x, y, rfl⟩ : ∃ x y, s = [x, y] := by rcases s with _ | ⟨x, _ | ⟨y, _ | ⟨z, s⟩⟩⟩ <;> first | exact ⟨_, _, rfl⟩ | simp at h1
    obtain ⟨l', rfl⟩ : ∃ l', l = x :: y :: l' := by
      rcases l with _ | ⟨c, _ | ⟨d, l'⟩⟩
      · simp at ht
      · simp at ht
      · simp at ht; exact ⟨l', by rw [ht.1, ht.2]⟩
    exact h
/-- THE TOKEN STAYS, whatever such follows -/
theorem one_stab {l r' : List UInt8} {k n : Nat} {v : Int} (h : oneL l = some (k, n, v)) (hf : Fol (l.drop n) r') : oneL (l.take n ++ r') = some (k, n, v) := by
  have hn := oneL_some h
  cases l with
  | nil => cases h
  | cons c l =>
    obtain ⟨m, rfl⟩ : ∃ m, n = m + 1 := ⟨n - 1, by omega⟩
    have hcons : (c :: l).take (m + 1) ++ r' = c :: (l.take m ++ r') := rfl
    unfold oneL at h
    simp only at h
    rw [hcons]
    unfold oneL
    simp only
    rw [← hcons]
    split at h
    · rename_i hc
      rw [if_pos hc]
      split at h
      · rename_i h16
        simp only [Option.some.injEq, Prod.mk.injEq] at h
        obtain ⟨h1, h2, h3⟩ := h
        rw [← h2] at hf ⊢
        have e := name_stab hf
        rw [e, if_pos h16, List.take_left' (by rw [List.length_take]; have := nameN_le (c :: l); omega)]
        rw [h1, h3]
      · cases h
    · rename_i hc
      rw [if_neg hc]
      split at h
      · rename_i hd
        rw [if_pos hd]
        split at h
        · rename_i hp
          simp only [Option.some.injEq, Prod.mk.injEq] at h
          obtain ⟨h1, h2, h3⟩ := h
          rw [← h2] at hf ⊢
          have e := num_stab hf
          rw [e, List.take_left' (by rw [List.length_take]; have := numN_le (c :: l); omega), if_pos hp, h3, h1]
        · cases h
      · rename_i hd
        rw [if_neg hd]
        cases hs : signOf (c :: l) with
        | none => rw [hs] at h; cases h
        | some s =>
          rw [hs] at h
          simp only [Option.map_some, Option.some.injEq, Prod.mk.injEq] at h
          obtain ⟨h1, h2, h3⟩ := h
          rw [← h2] at hf ⊢
          rw [sign_stab hs hf]
          simp only [Option.map_some, Option.some.injEq, Prod.mk.injEq]
          exact ⟨h1, trivial, h3⟩
end Go.Proofs.YtlbhlncipajapaaGreatDoor.Lx
namespace Go.Proofs.YtlbhlncipajapaaGreatDoor.Lx

/-! ### cut -/
theorem gapN_take (b : Bool) (l : List UInt8) (m : Nat) : gapN b (l.take m) = min (gapN b l) m := by
  induction l generalizing b m with
  | nil => cases b <;> simp [gapN]
  | cons c l ih =>
    cases m with
    | zero => cases b <;> simp [gapN]
    | succ m =>
      rw [List.take_succ_cons]
      cases b
      · simp only [gapN]
        split
        · rw [ih]; omega
        · split
          · rw [ih]; omega
          · simp
      · simp only [gapN]
        split <;> rw [ih] <;> omega
theorem gapTo_take (b : Bool) {l : List UInt8} {m a : Nat} (ha : a ≤ m) : gapTo b (l.take m) a = min (gapTo b l a) m := by
  unfold gapTo
  rw [List.drop_take, gapN_take]
  omega
theorem fol_take (r : List UInt8) (k : Nat) : Fol r (r.take k) := by
  cases k with
  | zero => left; simp
  | succ k =>
    cases r with
    | nil => left; simp
    | cons c x =>
      refine .inr ⟨c, x.take k, rfl, .inr ⟨x, rfl, ?_⟩⟩
      cases k with
      | zero => left; simp
      | succ k =>
        cases x with
        | nil => left; simp
        | cons d y => exact .inr ⟨d, y.take k, rfl, .inr ⟨y, rfl⟩⟩
theorem one_take {l : List UInt8} {k n : Nat} {v : Int} (h : oneL l = some (k, n, v)) (m : Nat) (hm : n ≤ m) : oneL (l.take m) = some (k, n, v) := by
  have e : l.take m = l.take n ++ (l.drop n).take (m - n) := by
    rw [List.take_drop, show n + (m - n) = m by omega]
    have h2 : (l.take m).take n = l.take n := by rw [List.take_take, Nat.min_eq_left hm]
    rw [← h2, List.take_append_drop]
  rw [e]
  exact one_stab h (fol_take _ _)
theorem toks_cut {l : List UInt8} {a f : Nat} {ts : List Tok} (h : Toks l a ts (some f)) : ∃ us, Toks (l.take f) a us none := by
  have hf := (toks_place h).2
  generalize hr : some f = r at h
  induction h with
  | fin => cases hr
  | bad h h1 => cases hr; exact ⟨_, .fin (by rw [List.length_take]; omega)⟩
  | @tok a ts r h h1 h2 ih =>
    obtain ⟨us, hu⟩ := ih hr
    subst hr
    have hp := (toks_place h2).1
    have hlen := tokAt_len h1
    have hge := gapTo_ge false l (a + (tokAt l a).text.length)
    obtain ⟨⟨k, n, v⟩, ho⟩ := Option.ne_none_iff_exists'.1 h1
    have hn : (tokAt l a).text.length = n := by
      unfold tokAt
      rw [ho]
      show ((l.drop a).take n).length = n
      rw [List.length_take]
      have := (oneL_some ho).2.2.2
      omega
    rw [hn] at hge hp hu
    have ho2 : oneL ((l.take f).drop a) = some (k, n, v) := by
      rw [List.drop_take]
      exact one_take ho _ (by omega)
    have hn2 : (tokAt (l.take f) a).text.length = n := by
      unfold tokAt
      rw [ho2]
      show (((l.take f).drop a).take n).length = n
      rw [List.length_take]
      have := (oneL_some ho2).2.2.2
      omega
    refine ⟨_, .tok (by rw [List.length_take]; omega) (by rw [ho2]; simp) (ts := us) ?_⟩
    rw [hn2, gapTo_take false (by omega), Nat.min_eq_left hp]
    exact hu
theorem lex_cut {l : List UInt8} {f : Nat} {ts : List Tok} (h : lexT l ts (some f)) : ∃ us, lexT (l.take f) us none := by
  obtain ⟨us, hu⟩ := toks_cut h
  refine ⟨us, ?_⟩
  unfold lexT
  rw [gapTo_take false (Nat.zero_le _), Nat.min_eq_left (toks_place h).1]
  exact hu

/-! ### two texts -/
def shiftT (d : Nat) (t : Tok) : Tok := ⟨t.kind, t.text, t.v, t.at_ + d⟩
theorem drop_shift (p l : List UInt8) (a : Nat) : (p ++ l).drop (p.length + a) = l.drop a := by rw [List.drop_append, List.drop_of_length_le (by omega)]; simp
theorem tokAt_shift (p l : List UInt8) (a : Nat) : tokAt (p ++ l) (p.length + a) = shiftT p.length (tokAt l a) := by
  unfold tokAt
  rw [drop_shift]
  cases oneL (l.drop a) with
  | none => simp [tokOf, shiftT]; omega
  | some x => obtain ⟨k, n, v⟩ := x; simp [tokOf, shiftT]; omega
theorem gapTo_shift (b : Bool) (p l : List UInt8) (a : Nat) : gapTo b (p ++ l) (p.length + a) = p.length + gapTo b l a := by
  unfold gapTo
  rw [drop_shift]
  omega
theorem toks_shift {l : List UInt8} {a : Nat} {ts : List Tok} (p : List UInt8) (h : Toks l a ts none) : Toks (p ++ l) (p.length + a) (ts.map (shiftT p.length)) none := by
  generalize hr : none = r at h
  induction h with
  | fin h => exact .fin (by rw [List.length_append]; omega)
  | bad => cases hr
  | @tok a ts r h h1 h2 ih =>
    subst hr
    have h3 := ih rfl
    rw [List.map_cons, ← tokAt_shift]
    refine .tok (by rw [List.length_append]; omega) (by rw [drop_shift]; exact h1) ?_
    rw [tokAt_shift]
    have e : p.length + a + (shiftT p.length (tokAt l a)).text.length = p.length + (a + (tokAt l a).text.length) := by show p.length + a + (tokAt l a).text.length = _; omega
    rw [e, gapTo_shift]
    exact h3
theorem gapN_two (b : Bool) (l q : List UInt8) : gapN b (l ++ 10 :: q) = if gapN b l < l.length then gapN b l else l.length + 1 + gapN false q := by
  induction l generalizing b with
  | nil => cases b <;> simp [gapN, isBlank] <;> omega
  | cons c l ih =>
    rw [List.cons_append]
    cases b
    · simp only [gapN, List.length_cons]
      split
      · rw [ih]; split <;> split <;> omega
      · split
        · rw [ih]; split <;> split <;> omega
        · rw [if_pos (by omega)]
    · simp only [gapN, List.length_cons]
      split
      · rw [ih]; split <;> split <;> omega
      · rw [ih]; split <;> split <;> omega
theorem one_two {l q : List UInt8} {k n : Nat} {v : Int} (h : oneL l = some (k, n, v)) : oneL (l ++ 10 :: q) = some (k, n, v) := by
  have e : l ++ 10 :: q = l.take n ++ (l.drop n ++ 10 :: q) := by rw [← List.append_assoc, List.take_append_drop]
  rw [e]
  refine one_stab h (.inr ?_)
  cases l.drop n with
  | nil => exact ⟨10, q, rfl, .inl rfl⟩
  | cons c x =>
    refine ⟨c, x ++ 10 :: q, rfl, .inr ⟨x, rfl, .inr ?_⟩⟩
    cases x with
    | nil => exact ⟨10, q, rfl, .inl rfl⟩
    | cons d y => exact ⟨d, y ++ 10 :: q, rfl, .inr ⟨y, rfl⟩⟩
theorem toks_two {s q : List UInt8} {us : List Tok} (hq : Toks q (gapTo false q 0) us none) {a : Nat} {ts : List Tok} (h : Toks s a ts none) :
    ∀ e, e ≤ s.length → a = gapTo false s e → Toks (s ++ 10 :: q) (gapTo false (s ++ 10 :: q) e) (ts ++ us.map (shiftT (s.length + 1))) none := by
  have hd : ∀ e, e ≤ s.length → (s ++ 10 :: q).drop e = s.drop e ++ 10 :: q := fun e he => by rw [List.drop_append_of_le_length he]
  generalize hr : none = r at h
  induction h with
  | fin h =>
    intro e he hae
    have h2 : gapN false (s.drop e) = (s.drop e).length := by
      have := gapN_le false (s.drop e)
      unfold gapTo at hae
      rw [List.length_drop] at *
      omega
    have h3 : gapTo false (s ++ 10 :: q) e = (s ++ [10]).length + gapTo false q 0 := by
      unfold gapTo
      rw [hd e he, gapN_two, if_neg (by omega), List.length_drop, List.drop_zero]
      simp only [List.length_append, List.length_singleton]
      omega
    rw [h3]
    have h4 := toks_shift (s ++ [10]) hq
    rw [List.append_assoc] at h4
    simpa using h4
  | bad => cases hr
  | @tok a ts r h h1 h2 ih =>
    subst hr
    intro e he hae
    have hlen := tokAt_len h1
    have hg : gapTo false (s ++ 10 :: q) e = a := by
      rw [hae] at h
      unfold gapTo at h hae ⊢
      rw [hd e he, gapN_two, if_pos (by rw [List.length_drop]; omega), hae]
    obtain ⟨⟨k, n, v⟩, ho⟩ := Option.ne_none_iff_exists'.1 h1
    have ho2 : oneL ((s ++ 10 :: q).drop a) = some (k, n, v) := by rw [hd a (by omega)]; exact one_two ho
    have ht : tokAt (s ++ 10 :: q) a = tokAt s a := by
      unfold tokAt
      rw [ho, ho2]
      show Tok.mk k (((s ++ 10 :: q).drop a).take n) v a = Tok.mk k ((s.drop a).take n) v a
      rw [hd a (by omega), List.take_append_of_le_length (oneL_some ho).2.2.2]
    rw [hg, List.cons_append, ← ht]
    refine .tok (by rw [List.length_append, List.length_cons]; omega) (by rw [ho2]; simp) ?_
    rw [ht]
    exact ih rfl _ hlen.2 rfl
theorem lex_two {s q : List UInt8} {ts us : List Tok} (h1 : lexT s ts none) (h2 : lexT q us none) : lexT (s ++ 10 :: q) (ts ++ us.map (shiftT (s.length + 1))) none := toks_two h2 h1 0 (Nat.zero_le _) rfl

/-! ### joined -/
/-- a token's text is that token -/
def Good (t : Tok) : Prop := oneL t.text = some (t.kind, t.text.length, t.v)
def joinT : List Tok → List UInt8
  | [] => []
  | [t] => t.text
  | t :: u :: ts => t.text ++ 32 :: joinT (u :: ts)
/-- tokens, one behind the other, a blank between each two -/
def placed : Nat → List Tok → List Tok
  | _, [] => []
  | n, t :: ts => ⟨t.kind, t.text, t.v, n⟩ :: placed (n + t.text.length + 1) ts
theorem toks_good {l : List UInt8} {a : Nat} {ts : List Tok} {r : Option Nat} (h : Toks l a ts r) : ∀ t ∈ ts, Good t := by
  induction h with
  | fin => intro t ht; simp at ht
  | bad => intro t ht; simp at ht
  | @tok a ts r h h1 h2 ih =>
    intro t ht
    rcases List.mem_cons.1 ht with rfl | ht
    · obtain ⟨⟨k, n, v⟩, ho⟩ := Option.ne_none_iff_exists'.1 h1
      unfold Good tokAt
      rw [ho]
      show oneL ((l.drop a).take n) = some (k, ((l.drop a).take n).length, v)
      have hn := (oneL_some ho).2.2.2
      rw [List.length_take, Nat.min_eq_left hn]
      have := one_stab ho (r' := []) (.inl rfl)
      rwa [List.append_nil] at this
    · exact ih t ht
theorem one_nogap {l : List UInt8} {k n : Nat} {v : Int} (h : oneL l = some (k, n, v)) (x : List UInt8) : gapN false (l ++ x) = 0 := by
  cases l with
  | nil => cases h
  | cons c l =>
    have key : c ≠ 35 ∧ isBlank c = false := by
      unfold oneL at h
      simp only at h
      split at h
      · rename_i hc
        constructor
        · rintro rfl; revert hc; decide
        · cases hb : isBlank c with
          | false => rfl
          | true =>
            unfold isBlank at hb
            simp only [Bool.or_eq_true, beq_iff_eq] at hb
            rcases hb with rfl | rfl | rfl | rfl <;> (revert hc; decide)
      · split at h
        · rename_i hc
          constructor
          · rintro rfl; revert hc; decide
          · cases hb : isBlank c with
            | false => rfl
            | true =>
              unfold isBlank at hb
              simp only [Bool.or_eq_true, beq_iff_eq] at hb
              rcases hb with rfl | rfl | rfl | rfl <;> (revert hc; decide)
        · cases hs : signOf (c :: l) with
          | none => rw [hs] at h; cases h
          | some s =>
            obtain ⟨h1, h2⟩ := signOf_mem hs
            have h3 : ∀ s ∈ signsL, ∀ d, s.head? = some d → d ≠ 35 ∧ isBlank d = false := by decide
            have h4 := prefix_take h2
            have h5 := signs_len h1
            refine h3 s h1 c ?_
            cases s with
            | nil => simp at h5
            | cons d s => simp at h4; rw [← h4.1]; rfl
    rw [List.cons_append, gapN, if_neg key.1, if_neg (by rw [key.2]; simp)]
/-- what stands behind a token -/
def joinR : List Tok → List UInt8
  | [] => []
  | u :: us => 32 :: joinT (u :: us)
theorem join_cons (t : Tok) (ts : List Tok) : joinT (t :: ts) = t.text ++ joinR ts := by
  cases ts with
  | nil => simp [joinT, joinR]
  | cons u us => rfl
theorem join_nogap {ts : List Tok} (h : ∀ t ∈ ts, Good t) : gapN false (joinT ts) = 0 := by
  cases ts with
  | nil => rfl
  | cons t ts => rw [join_cons]; exact one_nogap (h t (by simp)) _
theorem toks_join (ts : List Tok) (h : ∀ t ∈ ts, Good t) (p : List UInt8) : Toks (p ++ joinT ts) p.length (placed p.length ts) none := by
  induction ts generalizing p with
  | nil => exact .fin (by simp [joinT])
  | cons t ts ih =>
    have hg : Good t := h t (by simp)
    have hdrop : (p ++ joinT (t :: ts)).drop p.length = t.text ++ joinR ts := by
      have := drop_shift p (joinT (t :: ts)) 0
      simp only [Nat.add_zero, List.drop_zero] at this
      rw [this, join_cons]
    have hone : oneL ((p ++ joinT (t :: ts)).drop p.length) = some (t.kind, t.text.length, t.v) := by
      rw [hdrop]
      have := one_stab (l := t.text) hg (r' := joinR ts) (by
        cases ts with
        | nil => exact .inl rfl
        | cons u us => exact .inr ⟨32, _, rfl, .inl rfl⟩)
      rwa [List.take_length] at this
    have htok : tokAt (p ++ joinT (t :: ts)) p.length = ⟨t.kind, t.text, t.v, p.length⟩ := by
      unfold tokAt
      rw [hone]
      show Tok.mk t.kind (((p ++ joinT (t :: ts)).drop p.length).take t.text.length) t.v p.length = _
      rw [hdrop, List.take_left]
    have hpos := (oneL_some hg).2.2.1
    show Toks _ _ (⟨t.kind, t.text, t.v, p.length⟩ :: placed (p.length + t.text.length + 1) ts) none
    rw [← htok]
    refine .tok (by rw [List.length_append, join_cons, List.length_append]; omega) (by rw [hone]; simp) ?_
    rw [htok]
    cases ts with
    | nil =>
      have e : gapTo false (p ++ joinT [t]) (p.length + t.text.length) = p.length + t.text.length := gapTo_end false (by rw [List.length_append]; exact Nat.le_refl _)
      rw [e]
      exact .fin (by rw [List.length_append]; exact Nat.le_refl _)
    | cons u us =>
      have e0 : p ++ joinT (t :: u :: us) = (p ++ t.text ++ [32]) ++ joinT (u :: us) := by rw [join_cons]; simp [joinR]
      have e1 : (p ++ t.text ++ [32]).length = p.length + t.text.length + 1 := by simp; omega
      have e2 : gapTo false (p ++ joinT (t :: u :: us)) (p.length + t.text.length) = p.length + t.text.length + 1 := by
        unfold gapTo
        have e3 : (p ++ joinT (t :: u :: us)).drop (p.length + t.text.length) = 32 :: joinT (u :: us) := by
          rw [drop_shift, join_cons, List.drop_left]; rfl
        rw [e3, gapN, if_neg (by decide), if_pos (by decide), join_nogap (fun x hx => h x (by simp at hx ⊢; exact .inr hx))]
      rw [e2, e0, ← e1]
      exact ih (fun x hx => h x (List.mem_cons_of_mem _ hx)) _
theorem lex_join (ts : List Tok) (h : ∀ t ∈ ts, Good t) : lexT (joinT ts) (placed 0 ts) none := by
  unfold lexT
  have e : gapTo false (joinT ts) 0 = 0 := by unfold gapTo; rw [List.drop_zero, join_nogap h]
  rw [e]
  exact toks_join ts h []
end Go.Proofs.YtlbhlncipajapaaGreatDoor.Lx
