/- The reference's literal, in plain words. -/
import Derived.Test.YtnkndmmebhajcaaDoorLexMath
namespace Go.Proofs.YtnkndmmebhajcaaDoor
set_option maxRecDepth 100000

/-- digits ahead of the first point, digits behind it, points -/
def step (s : Nat × Nat × Nat) (c : UInt8) : Nat × Nat × Nat := if c = 46 then (s.1, s.2.1, s.2.2 + 1) else if s.2.2 = 0 then (s.1 + 1, s.2.1, s.2.2) else (s.1, s.2.1 + 1, s.2.2)
def st (l : List UInt8) : Nat × Nat × Nat := l.foldl step (0, 0, 0)
def okay (c : UInt8) : Bool := c == 46 || isDig c
theorem st_snoc (l : List UInt8) (c : UInt8) : st (l ++ [c]) = step (st l) c := by unfold st; rw [List.foldl_append]; rfl
theorem st_le (l : List UInt8) : (st l).1 + (st l).2.1 + (st l).2.2 = l.length := by
  suffices h : ∀ (l : List UInt8) (s : Nat × Nat × Nat), (l.foldl step s).1 + (l.foldl step s).2.1 + (l.foldl step s).2.2 = s.1 + s.2.1 + s.2.2 + l.length by
    have := h l (0, 0, 0)
    simp only at this
    unfold st
    omega
  intro l
  induction l with
  | nil => intro s; rfl
  | cons c l ih =>
    intro s
    rw [List.foldl_cons, ih, List.length_cons]
    unfold step
    split
    · show s.1 + s.2.1 + (s.2.2 + 1) + l.length = _; omega
    · split
      · show s.1 + 1 + s.2.1 + s.2.2 + l.length = _; omega
      · show s.1 + (s.2.1 + 1) + s.2.2 + l.length = _; omega
theorem st_plain (l : List UInt8) (h : 46 ∉ l) (a b : Nat) : l.foldl step (a, b, 0) = (a + l.length, b, 0) := by
  induction l generalizing a with
  | nil => rfl
  | cons c l ih =>
    simp only [List.mem_cons, not_or] at h
    rw [List.foldl_cons, show step (a, b, 0) c = (a + 1, b, 0) by unfold step; rw [if_neg (Ne.symm h.1), if_pos rfl], ih h.2, List.length_cons]
    simp only [Prod.mk.injEq, and_true]
    omega
theorem st_behind (l : List UInt8) (a b d : Nat) (hd : 1 ≤ d) (h : (l.foldl step (a, b, d)).2.2 = d) : 46 ∉ l ∧ l.foldl step (a, b, d) = (a, b + l.length, d) := by
  have mono : ∀ (l : List UInt8) (s : Nat × Nat × Nat), s.2.2 ≤ (l.foldl step s).2.2 := by
    intro l
    induction l with
    | nil => intro s; exact Nat.le_refl _
    | cons c l ih =>
      intro s
      rw [List.foldl_cons]
      refine Nat.le_trans ?_ (ih _)
      unfold step
      split
      · exact Nat.le_succ _
      · split <;> exact Nat.le_refl _
  induction l generalizing b with
  | nil => exact ⟨by simp, rfl⟩
  | cons c l ih =>
    rw [List.foldl_cons] at h ⊢
    by_cases hc : c = 46
    · subst hc
      have h1 := mono l (step (a, b, d) 46)
      have h2 : (step (a, b, d) 46).2.2 = d + 1 := rfl
      omega
    · have e : step (a, b, d) c = (a, b + 1, d) := by unfold step; rw [if_neg hc, if_neg (by show ¬ d = 0; omega)]
      rw [e] at h ⊢
      obtain ⟨h1, h2⟩ := ih (b + 1) h
      refine ⟨by simp only [List.mem_cons, not_or]; exact ⟨Ne.symm hc, h1⟩, ?_⟩
      rw [h2, List.length_cons]
      simp only [Prod.mk.injEq, true_and, and_true]
      omega
/-- what the reference answers -/
def litR (l : List UInt8) : Bool :=
  l.all okay && (decide (1 ≤ (st l).1) && (decide ((st l).1 ≤ 10) && (decide ((st l).2.2 ≤ 1) && ((!(decide ((st l).2.2 = 1)) || (decide (1 ≤ (st l).2.1) && decide ((st l).2.1 ≤ 40))) && (decide ((st l).1 = 1) || !(l.head? == some 48))))))
theorem okay_dig {l : List UInt8} (h : l.all okay = true) (hp : 46 ∉ l) : l.all isDig = true := List.all_eq_true.2 fun x hx => by
  have h1 := List.all_eq_true.1 h x hx
  unfold okay at h1
  rw [Bool.or_eq_true] at h1
  rcases h1 with h1 | h1
  · have : x = 46 := by simpa using h1
    subst this
    exact absurd hx hp
  · exact h1
end Go.Proofs.YtnkndmmebhajcaaDoor
