/- Tokens of a text that is cut, of two texts, of a text that was joined. -/
import Derived.Test.YtnkndmmebhajcaaDoorStabMath
namespace Go.Proofs.YtnkndmmebhajcaaDoor

/-! ### cut -/
theorem gapN_take (b : Bool) (l : List UInt8) (m : Nat) : gapN b (l.take m) = min (gapN b l) m := by
  induction l generalizing b m with
  | nil => cases b <;> simp [gapN]
  | cons c l ih =>
    cases m with
    | zero => cases b <;> simp [gapN]
    | succ m =>
      rw [List.take_succ_cons]
      cases b
      · simp only [gapN]
        split
        · rw [ih]; omega
        · split
          · rw [ih]; omega
          · simp
      · simp only [gapN]
        split <;> rw [ih] <;> omega
theorem gapTo_take (b : Bool) {l : List UInt8} {m a : Nat} (ha : a ≤ m) : gapTo b (l.take m) a = min (gapTo b l a) m := by
  unfold gapTo
  rw [List.drop_take, gapN_take]
  omega
theorem fol_take (r : List UInt8) (k : Nat) : Fol r (r.take k) := by
  cases k with
  | zero => left; simp
  | succ k =>
    cases r with
    | nil => left; simp
    | cons c x =>
      refine .inr ⟨c, x.take k, rfl, .inr ⟨x, rfl, ?_⟩⟩
      cases k with
      | zero => left; simp
      | succ k =>
        cases x with
        | nil => left; simp
        | cons d y => exact .inr ⟨d, y.take k, rfl, .inr ⟨y, rfl⟩⟩
theorem one_take {l : List UInt8} {k n : Nat} {v : Int} (h : oneL l = some (k, n, v)) (m : Nat) (hm : n ≤ m) : oneL (l.take m) = some (k, n, v) := by
  have e : l.take m = l.take n ++ (l.drop n).take (m - n) := by
    rw [List.take_drop, show n + (m - n) = m by omega]
    have h2 : (l.take m).take n = l.take n := by rw [List.take_take, Nat.min_eq_left hm]
    rw [← h2, List.take_append_drop]
  rw [e]
  exact one_stab h (fol_take _ _)
theorem toks_cut {l : List UInt8} {a f : Nat} {ts : List Tok} (h : Toks l a ts (some f)) : ∃ us, Toks (l.take f) a us none := by
  have hf := (toks_place h).2
  generalize hr : some f = r at h
  induction h with
  | fin => cases hr
  | bad h h1 => cases hr; exact ⟨_, .fin (by rw [List.length_take]; omega)⟩
  | @tok a ts r h h1 h2 ih =>
    obtain ⟨us, hu⟩ := ih hr
    subst hr
    have hp := (toks_place h2).1
    have hlen := tokAt_len h1
    have hge := gapTo_ge false l (a + (tokAt l a).text.length)
    obtain ⟨⟨k, n, v⟩, ho⟩ := Option.ne_none_iff_exists'.1 h1
    have hn : (tokAt l a).text.length = n := by
      unfold tokAt
      rw [ho]
      show ((l.drop a).take n).length = n
      rw [List.length_take]
      have := (oneL_some ho).2.2.2
      omega
    rw [hn] at hge hp hu
    have ho2 : oneL ((l.take f).drop a) = some (k, n, v) := by
      rw [List.drop_take]
      exact one_take ho _ (by omega)
    have hn2 : (tokAt (l.take f) a).text.length = n := by
      unfold tokAt
      rw [ho2]
      show (((l.take f).drop a).take n).length = n
      rw [List.length_take]
      have := (oneL_some ho2).2.2.2
      omega
    refine ⟨_, .tok (by rw [List.length_take]; omega) (by rw [ho2]; simp) (ts := us) ?_⟩
    rw [hn2, gapTo_take false (by omega), Nat.min_eq_left hp]
    exact hu
theorem lex_cut {l : List UInt8} {f : Nat} {ts : List Tok} (h : lexT l ts (some f)) : ∃ us, lexT (l.take f) us none := by
  obtain ⟨us, hu⟩ := toks_cut h
  refine ⟨us, ?_⟩
  unfold lexT
  rw [gapTo_take false (Nat.zero_le _), Nat.min_eq_left (toks_place h).1]
  exact hu

/-! ### two texts -/
def shiftT (d : Nat) (t : Tok) : Tok := ⟨t.kind, t.text, t.v, t.at_ + d⟩
theorem drop_shift (p l : List UInt8) (a : Nat) : (p ++ l).drop (p.length + a) = l.drop a := by rw [List.drop_append, List.drop_of_length_le (by omega)]; simp
theorem tokAt_shift (p l : List UInt8) (a : Nat) : tokAt (p ++ l) (p.length + a) = shiftT p.length (tokAt l a) := by
  unfold tokAt
  rw [drop_shift]
  cases oneL (l.drop a) with
  | none => simp [tokOf, shiftT]; omega
  | some x => obtain ⟨k, n, v⟩ := x; simp [tokOf, shiftT]; omega
theorem gapTo_shift (b : Bool) (p l : List UInt8) (a : Nat) : gapTo b (p ++ l) (p.length + a) = p.length + gapTo b l a := by
  unfold gapTo
  rw [drop_shift]
  omega
theorem toks_shift {l : List UInt8} {a : Nat} {ts : List Tok} (p : List UInt8) (h : Toks l a ts none) : Toks (p ++ l) (p.length + a) (ts.map (shiftT p.length)) none := by
  generalize hr : none = r at h
  induction h with
  | fin h => exact .fin (by rw [List.length_append]; omega)
  | bad => cases hr
  | @tok a ts r h h1 h2 ih =>
    subst hr
    have h3 := ih rfl
    rw [List.map_cons, ← tokAt_shift]
    refine .tok (by rw [List.length_append]; omega) (by rw [drop_shift]; exact h1) ?_
    rw [tokAt_shift]
    have e : p.length + a + (shiftT p.length (tokAt l a)).text.length = p.length + (a + (tokAt l a).text.length) := by show p.length + a + (tokAt l a).text.length = _; omega
    rw [e, gapTo_shift]
    exact h3
theorem gapN_two (b : Bool) (l q : List UInt8) : gapN b (l ++ 10 :: q) = if gapN b l < l.length then gapN b l else l.length + 1 + gapN false q := by
  induction l generalizing b with
  | nil => cases b <;> simp [gapN, isBlank] <;> omega
  | cons c l ih =>
    rw [List.cons_append]
    cases b
    · simp only [gapN, List.length_cons]
      split
      · rw [ih]; split <;> split <;> omega
      · split
        · rw [ih]; split <;> split <;> omega
        · rw [if_pos (by omega)]
    · simp only [gapN, List.length_cons]
      split
      · rw [ih]; split <;> split <;> omega
      · rw [ih]; split <;> split <;> omega
theorem one_two {l q : List UInt8} {k n : Nat} {v : Int} (h : oneL l = some (k, n, v)) : oneL (l ++ 10 :: q) = some (k, n, v) := by
  have e : l ++ 10 :: q = l.take n ++ (l.drop n ++ 10 :: q) := by rw [← List.append_assoc, List.take_append_drop]
  rw [e]
  refine one_stab h (.inr ?_)
  cases l.drop n with
  | nil => exact ⟨10, q, rfl, .inl rfl⟩
  | cons c x =>
    refine ⟨c, x ++ 10 :: q, rfl, .inr ⟨x, rfl, .inr ?_⟩⟩
    cases x with
    | nil => exact ⟨10, q, rfl, .inl rfl⟩
    | cons d y => exact ⟨d, y ++ 10 :: q, rfl, .inr ⟨y, rfl⟩⟩
theorem toks_two {s q : List UInt8} {us : List Tok} (hq : Toks q (gapTo false q 0) us none) {a : Nat} {ts : List Tok} (h : Toks s a ts none) :
    ∀ e, e ≤ s.length → a = gapTo false s e → Toks (s ++ 10 :: q) (gapTo false (s ++ 10 :: q) e) (ts ++ us.map (shiftT (s.length + 1))) none := by
  have hd : ∀ e, e ≤ s.length → (s ++ 10 :: q).drop e = s.drop e ++ 10 :: q := fun e he => by rw [List.drop_append_of_le_length he]
  generalize hr : none = r at h
  induction h with
  | fin h =>
    intro e he hae
    have h2 : gapN false (s.drop e) = (s.drop e).length := by
      have := gapN_le false (s.drop e)
      unfold gapTo at hae
      rw [List.length_drop] at *
      omega
    have h3 : gapTo false (s ++ 10 :: q) e = (s ++ [10]).length + gapTo false q 0 := by
      unfold gapTo
      rw [hd e he, gapN_two, if_neg (by omega), List.length_drop, List.drop_zero]
      simp only [List.length_append, List.length_singleton]
      omega
    rw [h3]
    have h4 := toks_shift (s ++ [10]) hq
    rw [List.append_assoc] at h4
    simpa using h4
  | bad => cases hr
  | @tok a ts r h h1 h2 ih =>
    subst hr
    intro e he hae
    have hlen := tokAt_len h1
    have hg : gapTo false (s ++ 10 :: q) e = a := by
      rw [hae] at h
      unfold gapTo at h hae ⊢
      rw [hd e he, gapN_two, if_pos (by rw [List.length_drop]; omega), hae]
    obtain ⟨⟨k, n, v⟩, ho⟩ := Option.ne_none_iff_exists'.1 h1
    have ho2 : oneL ((s ++ 10 :: q).drop a) = some (k, n, v) := by rw [hd a (by omega)]; exact one_two ho
    have ht : tokAt (s ++ 10 :: q) a = tokAt s a := by
      unfold tokAt
      rw [ho, ho2]
      show Tok.mk k (((s ++ 10 :: q).drop a).take n) v a = Tok.mk k ((s.drop a).take n) v a
      rw [hd a (by omega), List.take_append_of_le_length (oneL_some ho).2.2.2]
    rw [hg, List.cons_append, ← ht]
    refine .tok (by rw [List.length_append, List.length_cons]; omega) (by rw [ho2]; simp) ?_
    rw [ht]
    exact ih rfl _ hlen.2 rfl
theorem lex_two {s q : List UInt8} {ts us : List Tok} (h1 : lexT s ts none) (h2 : lexT q us none) : lexT (s ++ 10 :: q) (ts ++ us.map (shiftT (s.length + 1))) none := toks_two h2 h1 0 (Nat.zero_le _) rfl

/-! ### joined -/
/-- a token's text is that token -/
def Good (t : Tok) : Prop := oneL t.text = some (t.kind, t.text.length, t.v)
def joinT : List Tok → List UInt8
  | [] => []
  | [t] => t.text
  | t :: u :: ts => t.text ++ 32 :: joinT (u :: ts)
/-- tokens, one behind the other, a blank between each two -/
def placed : Nat → List Tok → List Tok
  | _, [] => []
  | n, t :: ts => ⟨t.kind, t.text, t.v, n⟩ :: placed (n + t.text.length + 1) ts
theorem toks_good {l : List UInt8} {a : Nat} {ts : List Tok} {r : Option Nat} (h : Toks l a ts r) : ∀ t ∈ ts, Good t := by
  induction h with
  | fin => intro t ht; simp at ht
  | bad => intro t ht; simp at ht
  | @tok a ts r h h1 h2 ih =>
    intro t ht
    rcases List.mem_cons.1 ht with rfl | ht
    · obtain ⟨⟨k, n, v⟩, ho⟩ := Option.ne_none_iff_exists'.1 h1
      unfold Good tokAt
      rw [ho]
      show oneL ((l.drop a).take n) = some (k, ((l.drop a).take n).length, v)
      have hn := (oneL_some ho).2.2.2
      rw [List.length_take, Nat.min_eq_left hn]
      have := one_stab ho (r' := []) (.inl rfl)
      rwa [List.append_nil] at this
    · exact ih t ht
theorem one_nogap {l : List UInt8} {k n : Nat} {v : Int} (h : oneL l = some (k, n, v)) (x : List UInt8) : gapN false (l ++ x) = 0 := by
  cases l with
  | nil => cases h
  | cons c l =>
    have key : c ≠ 35 ∧ isBlank c = false := by
      unfold oneL at h
      simp only at h
      split at h
      · rename_i hc
        constructor
        · rintro rfl; revert hc; decide
        · cases hb : isBlank c with
          | false => rfl
          | true =>
            unfold isBlank at hb
            simp only [Bool.or_eq_true, beq_iff_eq] at hb
            rcases hb with rfl | rfl | rfl | rfl <;> (revert hc; decide)
      · split at h
        · rename_i hc
          constructor
          · rintro rfl; revert hc; decide
          · cases hb : isBlank c with
            | false => rfl
            | true =>
              unfold isBlank at hb
              simp only [Bool.or_eq_true, beq_iff_eq] at hb
              rcases hb with rfl | rfl | rfl | rfl <;> (revert hc; decide)
        · cases hs : signOf (c :: l) with
          | none => rw [hs] at h; cases h
          | some s =>
            obtain ⟨h1, h2⟩ := signOf_mem hs
            have h3 : ∀ s ∈ signsL, ∀ d, s.head? = some d → d ≠ 35 ∧ isBlank d = false := by decide
            have h4 := prefix_take h2
            have h5 := signs_len h1
            refine h3 s h1 c ?_
            cases s with
            | nil => simp at h5
            | cons d s => simp at h4; rw [← h4.1]; rfl
    rw [List.cons_append, gapN, if_neg key.1, if_neg (by rw [key.2]; simp)]
/-- what stands behind a token -/
def joinR : List Tok → List UInt8
  | [] => []
  | u :: us => 32 :: joinT (u :: us)
theorem join_cons (t : Tok) (ts : List Tok) : joinT (t :: ts) = t.text ++ joinR ts := by
  cases ts with
  | nil => simp [joinT, joinR]
  | cons u us => rfl
theorem join_nogap {ts : List Tok} (h : ∀ t ∈ ts, Good t) : gapN false (joinT ts) = 0 := by
  cases ts with
  | nil => rfl
  | cons t ts => rw [join_cons]; exact one_nogap (h t (by simp)) _
theorem toks_join (ts : List Tok) (h : ∀ t ∈ ts, Good t) (p : List UInt8) : Toks (p ++ joinT ts) p.length (placed p.length ts) none := by
  induction ts generalizing p with
  | nil => exact .fin (by simp [joinT])
  | cons t ts ih =>
    have hg : Good t := h t (by simp)
    have hdrop : (p ++ joinT (t :: ts)).drop p.length = t.text ++ joinR ts := by
      have := drop_shift p (joinT (t :: ts)) 0
      simp only [Nat.add_zero, List.drop_zero] at this
      rw [this, join_cons]
    have hone : oneL ((p ++ joinT (t :: ts)).drop p.length) = some (t.kind, t.text.length, t.v) := by
      rw [hdrop]
      have := one_stab (l := t.text) hg (r' := joinR ts) (by
        cases ts with
        | nil => exact .inl rfl
        | cons u us => exact .inr ⟨32, _, rfl, .inl rfl⟩)
      rwa [List.take_length] at this
    have htok : tokAt (p ++ joinT (t :: ts)) p.length = ⟨t.kind, t.text, t.v, p.length⟩ := by
      unfold tokAt
      rw [hone]
      show Tok.mk t.kind (((p ++ joinT (t :: ts)).drop p.length).take t.text.length) t.v p.length = _
      rw [hdrop, List.take_left]
    have hpos := (oneL_some hg).2.2.1
    show Toks _ _ (⟨t.kind, t.text, t.v, p.length⟩ :: placed (p.length + t.text.length + 1) ts) none
    rw [← htok]
    refine .tok (by rw [List.length_append, join_cons, List.length_append]; omega) (by rw [hone]; simp) ?_
    rw [htok]
    cases ts with
    | nil =>
      have e : gapTo false (p ++ joinT [t]) (p.length + t.text.length) = p.length + t.text.length := gapTo_end false (by rw [List.length_append]; exact Nat.le_refl _)
      rw [e]
      exact .fin (by rw [List.length_append]; exact Nat.le_refl _)
    | cons u us =>
      have e0 : p ++ joinT (t :: u :: us) = (p ++ t.text ++ [32]) ++ joinT (u :: us) := by rw [join_cons]; simp [joinR]
      have e1 : (p ++ t.text ++ [32]).length = p.length + t.text.length + 1 := by simp; omega
      have e2 : gapTo false (p ++ joinT (t :: u :: us)) (p.length + t.text.length) = p.length + t.text.length + 1 := by
        unfold gapTo
        have e3 : (p ++ joinT (t :: u :: us)).drop (p.length + t.text.length) = 32 :: joinT (u :: us) := by
          rw [drop_shift, join_cons, List.drop_left]; rfl
        rw [e3, gapN, if_neg (by decide), if_pos (by decide), join_nogap (fun x hx => h x (by simp at hx ⊢; exact .inr hx))]
      rw [e2, e0, ← e1]
      exact ih (fun x hx => h x (List.mem_cons_of_mem _ hx)) _
theorem lex_join (ts : List Tok) (h : ∀ t ∈ ts, Good t) : lexT (joinT ts) (placed 0 ts) none := by
  unfold lexT
  have e : gapTo false (joinT ts) 0 = 0 := by unfold gapTo; rw [List.drop_zero, join_nogap h]
  rw [e]
  exact toks_join ts h []
end Go.Proofs.YtnkndmmebhajcaaDoor
