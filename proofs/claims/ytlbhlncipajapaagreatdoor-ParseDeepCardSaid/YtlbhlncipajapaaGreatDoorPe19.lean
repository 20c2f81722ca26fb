/- Joined: RdExpr. -/
import Derived.Test.YtlbhlncipajapaaGreatDoorPe18
namespace Go.Proofs.YtlbhlncipajapaaGreatDoor
open Go.RowKit Lx

theorem expr_cases {ts : List Tok} {f : Nat} {σ : RS} {R : Int × List Int × RS} (h : runE ts (f + 1) .expr σ = some R) : okS σ = true ∧
    (((enterS ts σ).code ≠ 0 ∧ R = (0, [], leaveS (enterS ts σ))) ∨
    ((enterS ts σ).code = 0 ∧ isS ts [105, 102] (enterS ts σ) = true ∧ ∃ a la s2 b lb s3 c lc s4, runE ts f .expr (stepS (enterS ts σ)) = some (a, la, s2) ∧ runE ts f .expr (wantS ts [116, 104, 101, 110] s2) = some (b, lb, s3) ∧
      runE ts f .expr (wantS ts [101, 108, 115, 101] s3) = some (c, lc, s4) ∧ okS s4 = true ∧ R = ((s4.exprs.length : Int), [], leaveS (putS { ex0 with kind := 15, a := a, b := b, c := c, pos := ((tokL ts (enterS ts σ).at_).at_ : Int) } s4))) ∨
    ((enterS ts σ).code = 0 ∧ isS ts [105, 102] (enterS ts σ) = false ∧ ∃ o lo y, runE ts f (.bin 1) (enterS ts σ) = some (o, lo, y) ∧
      ((isS ts [45, 62] y = true ∧ ∃ bv lb z, runE ts f .expr (stepS y) = some (bv, lb, z) ∧ okS z = true ∧ R = ((z.exprs.length : Int), [], leaveS (putS (twoE 17 o bv (tokL ts y.at_).at_) z))) ∨
      (isS ts [45, 62] y = false ∧ isS ts [102, 98, 121] y = true ∧ ∃ bv lb z, runE ts f .expr (stepS y) = some (bv, lb, z) ∧ okS z = true ∧ R = ((z.exprs.length : Int), [], leaveS (putS (twoE 18 o bv (tokL ts y.at_).at_) z))) ∨
      (isS ts [45, 62] y = false ∧ isS ts [102, 98, 121] y = false ∧ okS y = true ∧ R = (o, [], leaveS y))))) := by
  simp only [runE] at h
  split at h
  · rename_i hok
    refine ⟨hok, ?_⟩
    unfold exprG at h
    dsimp only at h
    split at h
    · rename_i hc
      split at h
      · rename_i hi
        cases h1 : runE ts f .expr (stepS (enterS ts σ)) with
        | none => rw [h1] at h; cases h
        | some q1 =>
          rw [h1] at h
          simp only [Option.bind_some] at h
          cases h2 : runE ts f .expr (wantS ts [116, 104, 101, 110] q1.2.2) with
          | none => rw [h2] at h; cases h
          | some q2 =>
            rw [h2] at h
            simp only [Option.bind_some] at h
            cases h3 : runE ts f .expr (wantS ts [101, 108, 115, 101] q2.2.2) with
            | none => rw [h3] at h; cases h
            | some q3 =>
              rw [h3] at h
              simp only [Option.bind_some] at h
              unfold putA at h
              split at h
              · rename_i hk
                exact .inr (.inl ⟨hc, hi, q1.1, q1.2.1, q1.2.2, q2.1, q2.2.1, q2.2.2, q3.1, q3.2.1, q3.2.2, rfl, h2, h3, hk, (Option.some.inj h).symm⟩)
              · cases h
      · rename_i hi
        cases h1 : runE ts f (.bin 1) (enterS ts σ) with
        | none => rw [h1] at h; cases h
        | some q1 =>
          rw [h1] at h
          simp only [Option.bind_some] at h
          refine .inr (.inr ⟨hc, by simpa using hi, q1.1, q1.2.1, q1.2.2, rfl, ?_⟩)
          split at h
          · rename_i ha
            cases h2 : runE ts f .expr (stepS q1.2.2) with
            | none => rw [h2] at h; cases h
            | some q2 =>
              rw [h2] at h
              simp only [Option.bind_some] at h
              unfold putA at h
              split at h
              · rename_i hk
                exact .inl ⟨ha, q2.1, q2.2.1, q2.2.2, rfl, hk, (Option.some.inj h).symm⟩
              · cases h
          · rename_i ha
            split at h
            · rename_i hb
              cases h2 : runE ts f .expr (stepS q1.2.2) with
              | none => rw [h2] at h; cases h
              | some q2 =>
                rw [h2] at h
                simp only [Option.bind_some] at h
                unfold putA at h
                split at h
                · rename_i hk
                  exact .inr (.inl ⟨by simpa using ha, hb, q2.1, q2.2.1, q2.2.2, rfl, hk, (Option.some.inj h).symm⟩)
                · cases h
            · rename_i hb
              split at h
              · rename_i hk
                exact .inr (.inr ⟨by simpa using ha, by simpa using hb, hk, (Option.some.inj h).symm⟩)
              · cases h
    · rename_i hc
      exact .inl ⟨hc, (Option.some.inj h).symm⟩
  · cases h
theorem pre_cases {ts : List Tok} {f : Nat} {σ : RS} {R : Int × List Int × RS} (h : runE ts (f + 1) .pre σ = some R) : okS σ = true ∧
    (((enterS ts σ).code ≠ 0 ∧ R = (0, [], leaveS (enterS ts σ))) ∨
    ((enterS ts σ).code = 0 ∧ prefixK ts (enterS ts σ) prefixL = 0 ∧ ∃ v l y, runE ts f .atom (enterS ts σ) = some (v, l, y) ∧ okS y = true ∧ R = (v, [], leaveS y)) ∨
    ((enterS ts σ).code = 0 ∧ prefixK ts (enterS ts σ) prefixL ≠ 0 ∧ ∃ v l y, runE ts f .pre (stepS (enterS ts σ)) = some (v, l, y) ∧ okS y = true ∧
      R = ((y.exprs.length : Int), [], leaveS (putS { ex0 with kind := prefixK ts (enterS ts σ) prefixL, a := v, pos := ((tokL ts (enterS ts σ).at_).at_ : Int) } y)))) := by
  simp only [runE] at h
  split at h
  · rename_i hok
    refine ⟨hok, ?_⟩
    unfold preG at h
    dsimp only at h
    split at h
    · rename_i hc
      split at h
      · rename_i hi
        cases h1 : runE ts f .atom (enterS ts σ) with
        | none => rw [h1] at h; cases h
        | some q1 =>
          rw [h1] at h
          simp only [Option.bind_some] at h
          split at h
          · rename_i hk
            exact .inr (.inl ⟨hc, hi, q1.1, q1.2.1, q1.2.2, rfl, hk, (Option.some.inj h).symm⟩)
          · cases h
      · rename_i hi
        cases h1 : runE ts f .pre (stepS (enterS ts σ)) with
        | none => rw [h1] at h; cases h
        | some q1 =>
          rw [h1] at h
          simp only [Option.bind_some] at h
          unfold putA at h
          split at h
          · rename_i hk
            exact .inr (.inr ⟨hc, hi, q1.1, q1.2.1, q1.2.2, rfl, hk, (Option.some.inj h).symm⟩)
          · cases h
    · rename_i hc
      exact .inl ⟨hc, (Option.some.inj h).symm⟩
  · cases h
end Go.Proofs.YtlbhlncipajapaaGreatDoor
