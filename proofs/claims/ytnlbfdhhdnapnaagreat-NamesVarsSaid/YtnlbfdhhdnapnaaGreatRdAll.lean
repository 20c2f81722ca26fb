/- The reference's reader: all rules for expressions. -/
import Derived.Test.YtnlbfdhhdnapnaaGreatRdArgsW
import Derived.Test.YtnlbfdhhdnapnaaGreatRdPre
import Derived.Test.YtnlbfdhhdnapnaaGreatRdBinW
namespace Go.Proofs.YtnlbfdhhdnapnaaGreat
open Go.RowKit Lx

theorem putA_some {x : Ex} {σ : RS} {K : Int → RS → Ans} {R : Int × List Int × RS} (h : putA x σ K = some R) : okS σ = true ∧ K (σ.exprs.length : Int) (putS x σ) = some R := by
  unfold putA at h
  split at h
  · rename_i hk; exact ⟨hk, h⟩
  · cases h
theorem kind_len (ts : List Tok) (e : Int) (σ : RS) : (failS ts e σ).exprs = σ.exprs := by unfold failS; split <;> rfl
theorem atom_any (b g cap : Nat) (dv : Value) (ts : List Tok) (xb : Nat → Prop) (f : Nat) (IH : ∀ k, k ≤ f → ∀ yb, FC b g cap dv ts yb k) (σ : RS) (v : Int) (l : List Int) (τ : RS) (hr : runE ts (f + 1) .atom σ = some (v, l, τ)) (W : World) (h : Hid (Rd W b g cap dv ts xb σ)) :
    Calls Tryz.prog 134 #[.pointer (some ⟨b, 0, none⟩)] W fun r Y => RdRet b g cap dv ts xb W (.int .i64 v) τ r Y := by
  simp only [runE] at hr
  split at hr
  · unfold atomG at hr
    dsimp only at hr
    split at hr
    · rename_i h2
      obtain ⟨ok, e⟩ := putA_some hr
      cases e
      exact atom_num b g cap dv ts xb σ W h h2 ok
    · rename_i h2
      split at hr
      · rename_i ht
        obtain ⟨ok, e⟩ := putA_some hr
        cases e
        exact atom_true b g cap dv ts xb σ W h h2 ht ok
      · rename_i ht
        have ht : isS ts [116, 114, 117, 101] σ = false := by simpa using ht
        split at hr
        · rename_i hf
          obtain ⟨ok, e⟩ := putA_some hr
          cases e
          exact atom_false b g cap dv ts xb σ W h h2 ht hf ok
        · rename_i hf
          have hf : isS ts [102, 97, 108, 115, 101] σ = false := by simpa using hf
          split at hr
          · rename_i h1
            split at hr
            · rename_i hi
              obtain ⟨ok, e⟩ := putA_some hr
              cases e
              exact atom_is b g cap dv ts xb σ W h h2 ht hf h1 hi ok
            · rename_i hi
              have hi : isS ts [105, 115] (stepS σ) = false := by simpa using hi
              split at hr
              · rename_i hl
                split at hr
                · rename_i hp
                  obtain ⟨ok, e⟩ := putA_some hr
                  cases e
                  exact atom_call0 b g cap dv ts xb σ W h h2 ht hf h1 hi hl hp ok
                · rename_i hp
                  have hp : isS ts [41] (stepS (stepS σ)) = false := by simpa using hp
                  cases h3 : runE ts f .expr (stepS (stepS σ)) with
                  | none => rw [h3] at hr; cases hr
                  | some q1 =>
                    rw [h3] at hr
                    simp only [Option.bind_some] at hr
                    cases h4 : runE ts f (.args [q1.1]) q1.2.2 with
                    | none => rw [h4] at hr; cases hr
                    | some q2 =>
                      rw [h4] at hr
                      simp only [Option.bind_some] at hr
                      obtain ⟨ok, e⟩ := putA_some hr
                      cases e
                      exact atom_args b g cap dv ts xb σ W h f (Lib.hid IH) h2 ht hf h1 hi hl hp q1.1 q1.2.1 q1.2.2 (Lib.hid h3) q2 (Lib.hid h4) (Lib.hid ok)
              · rename_i hl
                have hl : isS ts [40] (stepS σ) = false := by simpa using hl
                obtain ⟨ok, e⟩ := putA_some hr
                cases e
                exact atom_name b g cap dv ts xb σ W h h2 ht hf h1 hi hl ok
          · rename_i h1
            cases h3 : runE ts f .expr (wantS ts [40] σ) with
            | none => rw [h3] at hr; cases hr
            | some q1 =>
              rw [h3] at hr
              simp only [Option.bind_some] at hr
              cases hr
              exact atom_par b g cap dv ts xb σ W h f (Lib.hid (IH f (Nat.le_refl _) xb)) h2 ht hf h1 q1.1 q1.2.1 q1.2.2 (Lib.hid h3)
  · cases hr
/-- all rules for expressions, at every depth -/
theorem fc_all (b g cap : Nat) (dv : Value) (ts : List Tok) (f : Nat) : ∀ xb, FC b g cap dv ts xb f := by
  induction f using Nat.strongRecOn with
  | ind f ih =>
    intro xb
    cases f with
    | zero =>
      refine ⟨?_, ?_, ?_, ?_⟩
      · intro σ v l τ h; cases h
      · intro σ v l τ h; cases h
      · intro σ v l τ _ h; cases h
      · intro least _ _ σ v l τ h; cases h
    | succ f =>
      have IH : ∀ k, k ≤ f → ∀ yb, FC b g cap dv ts yb k := fun k hk => ih k (by omega)
      exact ⟨fun σ v l τ hr W h => expr_any b g cap dv ts xb f (IH f (Nat.le_refl _) xb) σ v l τ hr W h, fun σ v l τ hr W h => pre_any b g cap dv ts xb f (IH f (Nat.le_refl _) xb) σ v l τ hr W h,
        fun σ v l τ _ hr W h => atom_any b g cap dv ts xb f IH σ v l τ hr W h, fun least h1 h6 σ v l τ hr W h => bin_any b g cap dv ts xb f (fun k hk => IH k hk xb) least h1 h6 σ v l τ hr W h⟩
end Go.Proofs.YtnlbfdhhdnapnaaGreat
