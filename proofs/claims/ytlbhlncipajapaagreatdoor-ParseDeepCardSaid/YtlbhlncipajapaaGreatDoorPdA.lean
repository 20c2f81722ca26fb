/- So many brackets, or prefixes, or conditions in one another: what reading them says. -/
import Derived.Test.YtlbhlncipajapaaGreatDoorPe26
namespace Go.Proofs.YtlbhlncipajapaaGreatDoor
open Go.RowKit Lx
set_option linter.unusedVariables false

/-- the tokens of what is left of a text from a place on, if it has no fault -/
def toksF : Nat → List UInt8 → Nat → Option (List Tok)
  | 0, _, _ => none
  | n + 1, r, a => if r.isEmpty = true then some [] else if (oneL r).isSome = true then
      (toksF n ((r.drop (tokOf (oneL r) r a).text.length).drop (gapN false (r.drop (tokOf (oneL r) r a).text.length))) (a + (tokOf (oneL r) r a).text.length + gapN false (r.drop (tokOf (oneL r) r a).text.length))).map fun ts => tokOf (oneL r) r a :: ts else none
theorem toksF_ok {l : List UInt8} : ∀ (n a : Nat) (r : List UInt8) (ts : List Tok), r = l.drop a → toksF n r a = some ts → Toks l a ts none := by
  intro n
  induction n with
  | zero => intro a r ts _ h; cases h
  | succ n ih =>
    intro a r ts hr h
    simp only [toksF] at h
    split at h
    · rename_i he
      obtain rfl := Option.some.inj h
      exact .fin (by rw [hr] at he; simpa using he)
    · rename_i he
      split at h
      · rename_i ho
        obtain ⟨us, h1, h2⟩ := Option.map_eq_some_iff.1 h
        obtain rfl := h2
        have e : tokOf (oneL r) r a = tokAt l a := by unfold tokAt; rw [hr]
        rw [e] at h1 ⊢
        have e3 : gapTo false l (a + (tokAt l a).text.length) = a + (tokAt l a).text.length + gapN false (r.drop (tokAt l a).text.length) := by
          unfold gapTo
          rw [hr, List.drop_drop]
        refine .tok (by rw [hr] at he; simpa using he) (fun e2 => ?_) (ih _ ((r.drop (tokAt l a).text.length).drop (gapN false (r.drop (tokAt l a).text.length))) us ?_ ?_)
        · rw [hr, e2] at ho; cases ho
        · rw [e3, hr, List.drop_drop, List.drop_drop]; congr 1; omega
        · rw [e3]; exact h1
      · cases h
def dOpen (k : Nat) : List UInt8 := if k = 1 then [45, 32] else if k = 2 then [105, 102, 32, 97, 32, 116, 104, 101, 110, 32] else [40]
def dEnd (k : Nat) : List UInt8 := if k = 1 then [] else if k = 2 then [32, 101, 108, 115, 101, 32, 98] else [41]
def dText (k : Nat) : Nat → List UInt8
  | 0 => [120]
  | n + 1 => dOpen k ++ dText k n ++ dEnd k
def dDeep (k n : Nat) : Nat := if k = 0 then 2 + 2 * n else 2 + n
/-- the code of the fault that reading such a text says -/
def dCode (k n : Nat) : Option Int := (toksF 400 ((dText k n).drop (gapTo false (dText k n) 0)) (gapTo false (dText k n) 0)).bind fun ts => (runE (ts ++ [endT (dText k n).length]) 500 .expr rs0).map fun r =>
  if r.2.2.code = 0 then (if (tokL (ts ++ [endT (dText k n).length]) r.2.2.at_).kind = 5 then 0 else 2) else r.2.2.code
def dOk (k n : Nat) : Bool := match dCode k n with | some c => decide (c = 3) == decide (30 < dDeep k n) | none => false
theorem dOk_some {k n : Nat} (h : dOk k n = true) : ∃ c, dCode k n = some c ∧ (c = 3 ↔ 30 < dDeep k n) := by
  unfold dOk at h
  split at h
  · rename_i c hc
    exact ⟨c, hc, by simpa using h⟩
  · cases h
theorem d_0 : ∀ n, n < 60 → dOk 0 n = true := by decide +kernel
theorem d_1 : ∀ n, n < 60 → dOk 1 n = true := by decide +kernel
theorem e2_0 : dOk 2 0 = true := by decide +kernel
theorem e2_1 : dOk 2 1 = true := by decide +kernel
theorem e2_2 : dOk 2 2 = true := by decide +kernel
theorem e2_3 : dOk 2 3 = true := by decide +kernel
theorem e2_4 : dOk 2 4 = true := by decide +kernel
theorem e2_5 : dOk 2 5 = true := by decide +kernel
theorem e2_6 : dOk 2 6 = true := by decide +kernel
theorem e2_7 : dOk 2 7 = true := by decide +kernel
theorem e2_8 : dOk 2 8 = true := by decide +kernel
theorem e2_9 : dOk 2 9 = true := by decide +kernel
theorem e2_10 : dOk 2 10 = true := by decide +kernel
theorem e2_11 : dOk 2 11 = true := by decide +kernel
theorem e2_12 : dOk 2 12 = true := by decide +kernel
theorem e2_13 : dOk 2 13 = true := by decide +kernel
theorem e2_14 : dOk 2 14 = true := by decide +kernel
theorem e2_15 : dOk 2 15 = true := by decide +kernel
theorem e2_16 : dOk 2 16 = true := by decide +kernel
theorem e2_17 : dOk 2 17 = true := by decide +kernel
theorem e2_18 : dOk 2 18 = true := by decide +kernel
theorem e2_19 : dOk 2 19 = true := by decide +kernel
theorem e2_20 : dOk 2 20 = true := by decide +kernel
theorem e2_21 : dOk 2 21 = true := by decide +kernel
theorem e2_22 : dOk 2 22 = true := by decide +kernel
theorem e2_23 : dOk 2 23 = true := by decide +kernel
theorem e2_24 : dOk 2 24 = true := by decide +kernel
theorem e2_25 : dOk 2 25 = true := by decide +kernel
theorem e2_26 : dOk 2 26 = true := by decide +kernel
theorem e2_27 : dOk 2 27 = true := by decide +kernel
theorem e2_28 : dOk 2 28 = true := by decide +kernel
theorem e2_29 : dOk 2 29 = true := by decide +kernel
theorem e2_30 : dOk 2 30 = true := by decide +kernel
theorem e2_31 : dOk 2 31 = true := by decide +kernel
theorem e2_32 : dOk 2 32 = true := by decide +kernel
theorem e2_33 : dOk 2 33 = true := by decide +kernel
theorem e2_34 : dOk 2 34 = true := by decide +kernel
theorem e2_35 : dOk 2 35 = true := by decide +kernel
theorem e2_36 : dOk 2 36 = true := by decide +kernel
theorem e2_37 : dOk 2 37 = true := by decide +kernel
theorem e2_38 : dOk 2 38 = true := by decide +kernel
theorem e2_39 : dOk 2 39 = true := by decide +kernel
theorem e2_40 : dOk 2 40 = true := by decide +kernel
theorem e2_41 : dOk 2 41 = true := by decide +kernel
theorem e2_42 : dOk 2 42 = true := by decide +kernel
theorem e2_43 : dOk 2 43 = true := by decide +kernel
theorem e2_44 : dOk 2 44 = true := by decide +kernel
theorem e2_45 : dOk 2 45 = true := by decide +kernel
theorem e2_46 : dOk 2 46 = true := by decide +kernel
theorem e2_47 : dOk 2 47 = true := by decide +kernel
theorem e2_48 : dOk 2 48 = true := by decide +kernel
theorem e2_49 : dOk 2 49 = true := by decide +kernel
theorem e2_50 : dOk 2 50 = true := by decide +kernel
theorem e2_51 : dOk 2 51 = true := by decide +kernel
theorem e2_52 : dOk 2 52 = true := by decide +kernel
theorem e2_53 : dOk 2 53 = true := by decide +kernel
theorem e2_54 : dOk 2 54 = true := by decide +kernel
theorem e2_55 : dOk 2 55 = true := by decide +kernel
theorem e2_56 : dOk 2 56 = true := by decide +kernel
theorem e2_57 : dOk 2 57 = true := by decide +kernel
theorem e2_58 : dOk 2 58 = true := by decide +kernel
theorem e2_59 : dOk 2 59 = true := by decide +kernel
theorem d_2 : ∀ n, n < 60 → dOk 2 n = true := fun n hn => match n, hn with
  | 0, _ => e2_0
  | 1, _ => e2_1
  | 2, _ => e2_2
  | 3, _ => e2_3
  | 4, _ => e2_4
  | 5, _ => e2_5
  | 6, _ => e2_6
  | 7, _ => e2_7
  | 8, _ => e2_8
  | 9, _ => e2_9
  | 10, _ => e2_10
  | 11, _ => e2_11
  | 12, _ => e2_12
  | 13, _ => e2_13
  | 14, _ => e2_14
  | 15, _ => e2_15
  | 16, _ => e2_16
  | 17, _ => e2_17
  | 18, _ => e2_18
  | 19, _ => e2_19
  | 20, _ => e2_20
  | 21, _ => e2_21
  | 22, _ => e2_22
  | 23, _ => e2_23
  | 24, _ => e2_24
  | 25, _ => e2_25
  | 26, _ => e2_26
  | 27, _ => e2_27
  | 28, _ => e2_28
  | 29, _ => e2_29
  | 30, _ => e2_30
  | 31, _ => e2_31
  | 32, _ => e2_32
  | 33, _ => e2_33
  | 34, _ => e2_34
  | 35, _ => e2_35
  | 36, _ => e2_36
  | 37, _ => e2_37
  | 38, _ => e2_38
  | 39, _ => e2_39
  | 40, _ => e2_40
  | 41, _ => e2_41
  | 42, _ => e2_42
  | 43, _ => e2_43
  | 44, _ => e2_44
  | 45, _ => e2_45
  | 46, _ => e2_46
  | 47, _ => e2_47
  | 48, _ => e2_48
  | 49, _ => e2_49
  | 50, _ => e2_50
  | 51, _ => e2_51
  | 52, _ => e2_52
  | 53, _ => e2_53
  | 54, _ => e2_54
  | 55, _ => e2_55
  | 56, _ => e2_56
  | 57, _ => e2_57
  | 58, _ => e2_58
  | 59, _ => e2_59
  | m + 60, h => absurd h (by omega)
theorem d_len (k : Nat) (hk : k < 3) (n : Nat) (hn : n < 60) : (dText k n).length ≤ 20000 := by
  have h : ∀ m, (dText k m).length ≤ 1 + 20 * m := by
    intro m
    induction m with
    | zero => exact Nat.le_refl _
    | succ m ih =>
      have h1 : (dOpen k).length + (dEnd k).length ≤ 20 := by
        match k, hk with
        | 0, _ => decide
        | 1, _ => decide
        | 2, _ => decide
      simp only [dText, List.length_append]
      omega
  have := h n
  omega
end Go.Proofs.YtlbhlncipajapaaGreatDoor
