/- The reference's One, given what the reference's Signed answers; the law LexTokens, given that. -/
import Derived.Test.YtnkndmmebhajcaaDoorLexOneNum
namespace Go.Proofs.YtnkndmmebhajcaaDoor
open Go.RowKit

/-- what the reference's Signed answers of a text that begins with no minus -/
def RefSigned : Prop := ∀ t : List UInt8, t.length ≤ 30000 → t.head? ≠ some 45 → ∀ W, Calls Tryd.prog 32 #[.string (str t)] W fun e w' => e = .returned (.tuple #[.int .i64 ((parseL t).1 : Int), .bool (parseL t).2]) ∧ Below W.heap.size W w'
theorem ref_one (SG : RefSigned) : RefOne := fun l a ha hl W => by
  obtain ⟨c, hc⟩ : ∃ c, l[a]? = some c := ⟨l[a], List.getElem?_eq_getElem ha⟩
  have hix : ∀ h, (str l)[a]'h = c := fun h => str_at l hc h
  have ho : oneL (l.drop a) = none ↔ (tokAt l a).kind = 0 := (tokAt_kind l a).symm
  cases h1 : isLetter c with
  | true =>
    have ht := tokAt_name hc h1
    have hN := nameN_le (l.drop a)
    have hdl : (l.drop a).length = l.length - a := List.length_drop
    have hx : runTo isName l a = a + nameN (l.drop a) := runTo_name l a
    have e : (str l).extract a (runTo isName l a) = str ((l.drop a).take (nameN (l.drop a))) := by rw [slice_str, hx]; congr 2; omega
    have C : ∀ B, B = decide ((nameN (l.drop a) : Int) ≤ 16) → Calls Tryd.prog 19 #[.string (str l), .int .i64 (a : Int)] W fun e w' => OneRet (if wordL ((l.drop a).take (nameN (l.drop a))) = true then 3 else 1) 0 a (str ((l.drop a).take (nameN (l.drop a)))) B W e w' := fun B hB =>
      one_name l _ (Lib.hid rfl) (by omega) (str_size l) a (by omega) c hix (Lib.hid h1) _ (Lib.hid rfl) (by have := runTo_ge isName l a; omega) (by have := runTo_le isName (Nat.le_of_lt ha); omega) _ e _ (Lib.hid rfl) (nameN (l.drop a)) (by omega) _ _ (Lib.hid rfl) (Lib.hid rfl) B (Lib.hid hB) W
    constructor
    · intro hne
      have h16 : nameN (l.drop a) ≤ 16 := Nat.le_of_not_lt fun hh => hne (ho.2 (by rw [ht, if_neg (by omega)]))
      rw [ht, if_pos h16]
      have := C true (decide_eq_true (by omega)).symm
      split
      · rw [if_pos (by assumption)] at this; exact this
      · rw [if_neg (by assumption)] at this; exact this
    · intro hnone
      have h16 : ¬ nameN (l.drop a) ≤ 16 := fun hh => by
        have := ho.1 hnone
        rw [ht, if_pos hh] at this
        simp only at this
        split at this <;> omega
      exact (C false (decide_eq_false (by omega)).symm).mono fun e w' h => ⟨_, _, _, _, h⟩
  | false =>
    cases h2 : isDig c with
    | true =>
      have ht := tokAt_num hc h1 h2
      have hdl : (l.drop a).length = l.length - a := List.length_drop
      have hN := numN_le (l.drop a)
      have e : (str l).extract a (numTo l a) = str ((l.drop a).take (numN (l.drop a))) := by rw [slice_str]; congr 2; unfold numTo; omega
      have hlen : ((l.drop a).take (numN (l.drop a))).length ≤ 30000 := by rw [List.length_take]; omega
      have hhd : ((l.drop a).take (numN (l.drop a))).head? ≠ some 45 := by
        rw [drop_cons hc]
        have hp := numN_pos (l := l.drop (a + 1)) h2
        cases hk : numN (c :: l.drop (a + 1)) with
        | zero => omega
        | succ k =>
          rw [List.take_succ_cons, List.head?_cons]
          intro hh
          cases hh
          revert h2
          decide
      have C := one_num l _ (Lib.hid rfl) (by omega) (str_size l) a (by omega) c hix (Lib.hid h1) (Lib.hid h2) _ (Lib.hid rfl) _ (Lib.hid rfl) (by unfold numTo; omega) (by unfold numTo; omega) _ e _ _ (Lib.hid fun w => SG _ hlen hhd w) W
      constructor
      · intro hne
        have hp : (parseL ((l.drop a).take (numN (l.drop a)))).2 = true := by
          cases hq : (parseL ((l.drop a).take (numN (l.drop a)))).2 with
          | true => rfl
          | false => exact absurd (ho.2 (by rw [ht, if_neg (by rw [hq]; simp)])) hne
        rw [ht, if_pos hp]
        rw [hp] at C
        exact C
      · intro hnone
        have hp : (parseL ((l.drop a).take (numN (l.drop a)))).2 = false := by
          cases hq : (parseL ((l.drop a).take (numN (l.drop a)))).2 with
          | false => rfl
          | true =>
            have := ho.1 hnone
            rw [ht, if_pos hq] at this
            simp at this
        rw [hp] at C
        exact C.mono fun e w' h => ⟨_, _, _, _, h⟩
    | false =>
      have ht := tokAt_sign hc h1 h2
      have C := one_sign l _ (Lib.hid rfl) (by omega) (str_size l) a (by omega) c hix (Lib.hid h1) (Lib.hid h2) _ (Lib.hid rfl) W
      have hs : oneL (l.drop a) = (signOf (l.drop a)).map fun s => (4, s.length, 0) := by
        unfold oneL
        rw [drop_cons hc]
        simp only [h1, h2, Bool.false_eq_true, if_false]
      constructor
      · intro hne
        cases hq : signOf (l.drop a) with
        | none => exact absurd (by rw [hs, hq]; rfl) hne
        | some s =>
          rw [hq] at C ht
          have htx : (l.drop a).take s.length = s := prefix_take (signOf_mem hq).2
          have ht2 : tokAt l a = ⟨4, s, 0, a⟩ := by rw [ht]; show Tok.mk 4 ((l.drop a).take s.length) 0 a = _; rw [htx]
          rw [ht2]
          exact C.mono fun e w' h => by
            rcases h with ⟨s', h3, h4⟩ | ⟨h3, _⟩
            · cases h3; exact h4
            · cases h3
      · intro hnone
        cases hq : signOf (l.drop a) with
        | some s => rw [hs, hq] at hnone; cases hnone
        | none =>
          rw [hq] at C
          exact C.mono fun e w' h => by
            rcases h with ⟨s', h3, _⟩ | ⟨_, h4⟩
            · cases h3
            · exact ⟨_, _, _, _, h4⟩
theorem tokens_of_signed (SG : RefSigned) (s1 : ByteArray) (w : World) (hS : Signs w) : Calls Tryd.prog 3 #[.string s1] w fun e w' => e = .returned (.bool true) ∧ Below w.heap.size w w' :=
  tokens_holds (ref_lex (ref_one SG)) s1 w hS
end Go.Proofs.YtnkndmmebhajcaaDoor
