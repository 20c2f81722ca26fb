/- The reference's literal, in plain words; of two literals of one shape the lesser text is no greater number. -/
import Derived.Test.YtfbpdfaofmocaaaDoorBackMath
namespace Go.Proofs.YtfbpdfaofmocaaaDoor
set_option maxRecDepth 100000

/-- digits ahead of the first point, digits behind it, points -/
def step (s : Nat × Nat × Nat) (c : UInt8) : Nat × Nat × Nat := if c = 46 then (s.1, s.2.1, s.2.2 + 1) else if s.2.2 = 0 then (s.1 + 1, s.2.1, s.2.2) else (s.1, s.2.1 + 1, s.2.2)
def st (l : List UInt8) : Nat × Nat × Nat := l.foldl step (0, 0, 0)
def okay (c : UInt8) : Bool := c == 46 || isDig c
theorem st_snoc (l : List UInt8) (c : UInt8) : st (l ++ [c]) = step (st l) c := by unfold st; rw [List.foldl_append]; rfl
theorem st_le (l : List UInt8) : (st l).1 + (st l).2.1 + (st l).2.2 = l.length := by
  suffices h : ∀ (l : List UInt8) (s : Nat × Nat × Nat), (l.foldl step s).1 + (l.foldl step s).2.1 + (l.foldl step s).2.2 = s.1 + s.2.1 + s.2.2 + l.length by
    have := h l (0, 0, 0)
    simp only at this
    unfold st
    omega
  intro l
  induction l with
  | nil => intro s; rfl
  | cons c l ih =>
    intro s
    rw [List.foldl_cons, ih, List.length_cons]
    unfold step
    split
    · show s.1 + s.2.1 + (s.2.2 + 1) + l.length = _; omega
    · split
      · show s.1 + 1 + s.2.1 + s.2.2 + l.length = _; omega
      · show s.1 + (s.2.1 + 1) + s.2.2 + l.length = _; omega
theorem st_plain (l : List UInt8) (h : 46 ∉ l) (a b : Nat) : l.foldl step (a, b, 0) = (a + l.length, b, 0) := by
  induction l generalizing a with
  | nil => rfl
  | cons c l ih =>
    simp only [List.mem_cons, not_or] at h
    rw [List.foldl_cons, show step (a, b, 0) c = (a + 1, b, 0) by unfold step; rw [if_neg (Ne.symm h.1), if_pos rfl], ih h.2, List.length_cons]
    simp only [Prod.mk.injEq, and_true]
    omega
theorem st_behind (l : List UInt8) (a b d : Nat) (hd : 1 ≤ d) (h : (l.foldl step (a, b, d)).2.2 = d) : 46 ∉ l ∧ l.foldl step (a, b, d) = (a, b + l.length, d) := by
  have mono : ∀ (l : List UInt8) (s : Nat × Nat × Nat), s.2.2 ≤ (l.foldl step s).2.2 := by
    intro l
    induction l with
    | nil => intro s; exact Nat.le_refl _
    | cons c l ih =>
      intro s
      rw [List.foldl_cons]
      refine Nat.le_trans ?_ (ih _)
      unfold step
      split
      · exact Nat.le_succ _
      · split <;> exact Nat.le_refl _
  induction l generalizing b with
  | nil => exact ⟨by simp, rfl⟩
  | cons c l ih =>
    rw [List.foldl_cons] at h ⊢
    by_cases hc : c = 46
    · subst hc
      have h1 := mono l (step (a, b, d) 46)
      have h2 : (step (a, b, d) 46).2.2 = d + 1 := rfl
      omega
    · have e : step (a, b, d) c = (a, b + 1, d) := by unfold step; rw [if_neg hc, if_neg (by show ¬ d = 0; omega)]
      rw [e] at h ⊢
      obtain ⟨h1, h2⟩ := ih (b + 1) h
      refine ⟨by simp only [List.mem_cons, not_or]; exact ⟨Ne.symm hc, h1⟩, ?_⟩
      rw [h2, List.length_cons]
      simp only [Prod.mk.injEq, true_and, and_true]
      omega
/-- what the reference answers -/
def litR (l : List UInt8) : Bool :=
  l.all okay && (decide (1 ≤ (st l).1) && (decide ((st l).1 ≤ 10) && (decide ((st l).2.2 ≤ 1) && ((!(decide ((st l).2.2 = 1)) || (decide (1 ≤ (st l).2.1) && decide ((st l).2.1 ≤ 40))) && (decide ((st l).1 = 1) || !(l.head? == some 48))))))
theorem okay_dig {l : List UInt8} (h : l.all okay = true) (hp : 46 ∉ l) : l.all isDig = true := List.all_eq_true.2 fun x hx => by
  have h1 := List.all_eq_true.1 h x hx
  unfold okay at h1
  rw [Bool.or_eq_true] at h1
  rcases h1 with h1 | h1
  · have : x = 46 := by simpa using h1
    subst this
    exact absurd hx hp
  · exact h1
theorem litR_lit {l : List UInt8} (h : litR l = true) : litL l = true := by
  unfold litR at h
  simp only [Bool.and_eq_true, decide_eq_true_eq, Bool.or_eq_true, Bool.not_eq_true', decide_eq_false_iff_not] at h
  obtain ⟨h1, h2, h3, h4, h5, h6⟩ := h
  rcases part_cases l with hp | ⟨a, b, rfl, hp⟩
  · have hs := st_plain l hp 0 0
    have e1 : (st l).1 = l.length := by unfold st; rw [hs]; show 0 + l.length = _; omega
    rw [e1] at h2 h3 h6
    unfold litL digitsL
    rw [ahead_none l hp, okay_dig h1 hp, decide_eq_true h2, decide_eq_true h3, show pointed l = false by unfold pointed; simpa using hp]
    simp only [Bool.and_self, Bool.true_and, Bool.not_false, Bool.true_or, Bool.and_true, Bool.not_eq_true', Bool.and_eq_false_iff, decide_eq_false_iff_not]
    rcases h6 with h6 | h6
    · left; omega
    · right; exact h6
  · have hs := st_plain a hp 0 0
    have e0 : st (a ++ 46 :: b) = b.foldl step (a.length, 0, 1) := by
      unfold st
      rw [List.foldl_append, hs, List.foldl_cons, show step (0 + a.length, 0, 0) 46 = (a.length, 0, 1) by unfold step; rw [if_pos rfl]; simp]
    have hmono : (b.foldl step (a.length, 0, 1)).2.2 = 1 := by
      have := st_le (a ++ 46 :: b)
      rw [e0] at this h4
      rcases Nat.eq_zero_or_pos (b.foldl step (a.length, 0, 1)).2.2 with h0 | h0
      · exfalso
        have hge : ∀ (l : List UInt8) (s : Nat × Nat × Nat), s.2.2 ≤ (l.foldl step s).2.2 := by
          intro l
          induction l with
          | nil => intro s; exact Nat.le_refl _
          | cons c l ih =>
            intro s
            rw [List.foldl_cons]
            refine Nat.le_trans ?_ (ih _)
            unfold step
            split
            · exact Nat.le_succ _
            · split <;> exact Nat.le_refl _
        have := hge b (a.length, 0, 1)
        rw [h0] at this
        exact absurd this (by show ¬ 1 ≤ 0; omega)
      · omega
    obtain ⟨hb, hbs⟩ := st_behind b a.length 0 1 (Nat.le_refl _) hmono
    rw [e0, hbs] at h2 h3 h5 h6
    have h2' : 1 ≤ a.length := h2
    have h3' : a.length ≤ 10 := h3
    have h5' : 1 ≤ b.length ∧ b.length ≤ 40 := by
      rcases h5 with h5 | h5
      · exact absurd rfl h5
      · obtain ⟨p1, p2⟩ := h5
        have p1' : 1 ≤ 0 + b.length := p1
        have p2' : 0 + b.length ≤ 40 := p2
        omega
    rw [List.all_append, List.all_cons, Bool.and_eq_true, Bool.and_eq_true] at h1
    unfold litL digitsL
    rw [ahead_point a b hp, behind_point a b hp, okay_dig h1.1 hp, okay_dig h1.2.2 hb, decide_eq_true h2', decide_eq_true h3', decide_eq_true h5'.1, decide_eq_true h5'.2]
    simp only [Bool.and_self, Bool.true_and, Bool.or_true, Bool.and_true, Bool.not_eq_true', Bool.and_eq_false_iff, decide_eq_false_iff_not]
    rcases h6 with h6 | h6
    · left
      have h6' : a.length = 1 := h6
      omega
    · right
      cases a with
      | nil => simp at h2'
      | cons c a => exact h6

/-! ### order -/
theorem less_num (l m : List UInt8) (hl : l.all isDig = true) (hm : m.all isDig = true) (he : l.length = m.length) (h : Op.bytesLess l m = true) : numL l < numL m := by
  induction l generalizing m with
  | nil => cases m with
    | nil => cases h
    | cons d m => simp at he
  | cons c l ih =>
    cases m with
    | nil => simp at he
    | cons d m =>
      simp only [List.all_cons, Bool.and_eq_true] at hl hm
      have hc := isDig_iff.1 hl.1
      have hd := isDig_iff.1 hm.1
      have he' : l.length = m.length := by simpa using he
      have b1 := numL_lt l hl.2
      unfold Op.bytesLess at h
      rw [Bool.or_eq_true, Bool.and_eq_true] at h
      simp only [numL]
      rw [← he']
      rcases h with h | ⟨h1, h2⟩
      · have hlt : c.toNat < d.toNat := by
          have : c < d := by simpa using h
          exact UInt8.lt_iff_toNat_lt.1 this
        have : (c.toNat - 48 + 1) * 10 ^ l.length ≤ (d.toNat - 48) * 10 ^ l.length := Nat.mul_le_mul_right _ (by omega)
        rw [Nat.add_mul, Nat.one_mul] at this
        omega
      · have : c = d := by simpa using h1
        subst this
        have := ih m hl.2 hm.2 he' h2
        omega
theorem less_append (a b a' b' : List UInt8) (he : a.length = a'.length) (h : Op.bytesLess (a ++ b) (a' ++ b') = true) : Op.bytesLess a a' = true ∨ (a = a' ∧ Op.bytesLess b b' = true) := by
  induction a generalizing a' with
  | nil =>
    cases a' with
    | nil => exact Or.inr ⟨rfl, h⟩
    | cons d a' => simp at he
  | cons c a ih =>
    cases a' with
    | nil => simp at he
    | cons d a' =>
      have he' : a.length = a'.length := by simpa using he
      simp only [List.cons_append] at h
      have e0 : Op.bytesLess (c :: a) (d :: a') = (decide (c < d) || (c == d && Op.bytesLess a a')) := rfl
      rw [e0]
      unfold Op.bytesLess at h
      rw [Bool.or_eq_true, Bool.and_eq_true] at h
      rcases h with h | ⟨h1, h2⟩
      · left; rw [h]; rfl
      · have : c = d := by simpa using h1
        subst this
        rcases ih a' he' h2 with h3 | ⟨rfl, h3⟩
        · left; rw [h3, h1]; simp
        · exact Or.inr ⟨rfl, h3⟩
/-- the places of the points -/
def shape (l : List UInt8) : List Bool := l.map (· == 46)
theorem shape_mem {l m : List UInt8} (h : shape l = shape m) (hl : 46 ∉ l) : 46 ∉ m := fun hm => by
  have h1 : true ∈ shape m := List.mem_map.2 ⟨46, hm, rfl⟩
  rw [← h] at h1
  obtain ⟨x, hx, e⟩ := List.mem_map.1 h1
  have : x = 46 := by simpa using e
  subst this
  exact hl hx
theorem shape_parts {l m : List UInt8} (h : shape l = shape m) : (ahead l).length = (ahead m).length ∧ (behind l).length = (behind m).length ∧
    ((46 ∉ l ∧ 46 ∉ m) ∨ (l = ahead l ++ 46 :: behind l ∧ m = ahead m ++ 46 :: behind m)) := by
  have hlen : l.length = m.length := by have := congrArg List.length h; simpa [shape] using this
  rcases part_cases l with hp | ⟨a, b, rfl, hp⟩
  · have hm := shape_mem h hp
    rw [ahead_none l hp, ahead_none m hm, behind_none l hp, behind_none m hm]
    exact ⟨hlen, rfl, Or.inl ⟨hp, hm⟩⟩
  · unfold shape at h
    rw [List.map_append, List.map_cons] at h
    obtain ⟨a', r, rfl, ha, hr⟩ := List.map_eq_append_iff.1 h.symm
    obtain ⟨y, b', rfl, hy, hb⟩ := List.map_eq_cons_iff.1 hr
    have hy' : y = 46 := by simpa using hy
    subst hy'
    have hp' := shape_mem (l := a) (m := a') ha.symm hp
    rw [ahead_point a b hp, ahead_point a' b' hp', behind_point a b hp, behind_point a' b' hp']
    have l1 : a.length = a'.length := by have := congrArg List.length ha; simpa using this.symm
    have l2 : b.length = b'.length := by have := congrArg List.length hb; simpa using this.symm
    exact ⟨l1, l2, Or.inr ⟨rfl, rfl⟩⟩
theorem bitsL_mono {b b' : List UInt8} (he : b.length = b'.length) (h : numL b ≤ numL b') : bitsL b ≤ bitsL b' := by
  unfold bitsL
  rw [he]
  exact Nat.div_le_div_right (Nat.mul_le_mul_right _ h)
theorem size_order {l m : List UInt8} (hl : litL l = true) (hm : litL m = true) (hs : shape l = shape m) (h : Op.bytesLess l m = true ∨ l = m) : numL (ahead l) ≤ numL (ahead m) ∧ sizeL l ≤ sizeL m := by
  rcases h with h | rfl
  · obtain ⟨l1, l2, l3, l4, l5⟩ := litL_parts hl
    obtain ⟨m1, m2, m3, m4, m5⟩ := litL_parts hm
    obtain ⟨e1, e2, e3⟩ := shape_parts hs
    have hb := bitsL_lt _ l5
    unfold sizeL
    have key : numL (ahead l) < numL (ahead m) ∨ (numL (ahead l) = numL (ahead m) ∧ bitsL (behind l) ≤ bitsL (behind m)) := by
      rcases e3 with ⟨p1, p2⟩ | ⟨p1, p2⟩
      · left
        have := less_num l m (by rw [← ahead_none l p1]; exact l3) (by rw [← ahead_none m p2]; exact m3) (by rw [← ahead_none l p1, ← ahead_none m p2]; exact e1) h
        rw [ahead_none l p1, ahead_none m p2]
        exact this
      · rw [p1, p2] at h
        rcases less_append _ _ _ _ e1 h with h | ⟨h1, h2⟩
        · exact Or.inl (less_num _ _ l3 m3 e1 h)
        · right
          refine ⟨by rw [h1], bitsL_mono e2 ?_⟩
          unfold Op.bytesLess at h2
          rw [Bool.or_eq_true, Bool.and_eq_true] at h2
          rcases h2 with h2 | ⟨_, h2⟩
          · exact absurd h2 (by decide)
          · exact Nat.le_of_lt (less_num _ _ l5 m5 e2 h2)
    rcases key with h | ⟨h1, h2⟩
    · omega
    · rw [h1]; omega
  · exact ⟨Nat.le_refl _, Nat.le_refl _⟩
theorem parse_order {l m : List UInt8} (hl : litL l = true) (hm : litL m = true) (hs : shape l = shape m) (h : Op.bytesLess l m = true ∨ l = m) (hp : (parseL m).2 = true) :
    (parseL l).2 = true ∧ (parseL l).1 ≤ (parseL m).1 := by
  obtain ⟨h1, h2⟩ := size_order hl hm hs h
  unfold parseL at hp ⊢
  split at hp
  · rename_i hh
    rw [if_pos hh]
    obtain ⟨g1, g2⟩ := hh
    unfold readL at g1 g2
    split at g1
    · rename_i gg
      rw [if_pos gg] at g2
      have g2' : sizeL m ≤ 9223372036854775807 := g2
      have hr : readL l = (sizeL l, true) := by
        unfold readL
        rw [if_pos ⟨hl, by omega⟩, decide_eq_true (by omega)]
      have hrm : readL m = (sizeL m, true) := by
        unfold readL
        rw [if_pos gg, decide_eq_true (by omega)]
      rw [hr, hrm]
      rw [if_pos ⟨rfl, by show sizeL l ≤ _; omega⟩]
      exact ⟨rfl, h2⟩
    · cases g1
  · cases hp
end Go.Proofs.YtfbpdfaofmocaaaDoor
