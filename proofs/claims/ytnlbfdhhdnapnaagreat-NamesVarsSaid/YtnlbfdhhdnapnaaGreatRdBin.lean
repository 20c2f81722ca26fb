/- The reference's reader: binary. -/
import Derived.Test.YtnlbfdhhdnapnaaGreatRdLevel
import Derived.Test.YtnlbfdhhdnapnaaGreatRdStep
import Derived.Test.YtnlbfdhhdnapnaaGreatRdMore
import Derived.Test.YtnlbfdhhdnapnaaGreatRdPut
namespace Go.Proofs.YtnlbfdhhdnapnaaGreat
open Go.RowKit Lx

/-- the rules' contracts, for so many calls in one another -/
structure FC (b g cap : Nat) (dv : Value) (ts : List Tok) (xb : Nat → Prop) (f : Nat) : Prop where
  expr : ∀ σ v l τ, runE ts f .expr σ = some (v, l, τ) → ∀ W, Hid (Rd W b g cap dv ts xb σ) → Calls Tryz.prog 49 #[.pointer (some ⟨b, 0, none⟩)] W fun r Y => RdRet b g cap dv ts xb W (.int .i64 v) τ r Y
  pre : ∀ σ v l τ, runE ts f .pre σ = some (v, l, τ) → ∀ W, Hid (Rd W b g cap dv ts xb σ) → Calls Tryz.prog 118 #[.pointer (some ⟨b, 0, none⟩)] W fun r Y => RdRet b g cap dv ts xb W (.int .i64 v) τ r Y
  atom : ∀ σ v l τ, σ.code = 0 → runE ts f .atom σ = some (v, l, τ) → ∀ W, Hid (Rd W b g cap dv ts xb σ) → Calls Tryz.prog 134 #[.pointer (some ⟨b, 0, none⟩)] W fun r Y => RdRet b g cap dv ts xb W (.int .i64 v) τ r Y
  bin : ∀ (least : Nat), 1 ≤ least → least ≤ 6 → ∀ σ v l τ, runE ts f (.bin least) σ = some (v, l, τ) → ∀ W, Hid (Rd W b g cap dv ts xb σ) → Calls Tryz.prog 80 #[.pointer (some ⟨b, 0, none⟩), .int .i64 (least : Int)] W fun r Y => RdRet b g cap dv ts xb W (.int .i64 v) τ r Y
theorem okS_iff {σ : RS} : okS σ = true ↔ σ.exprs.length ≤ 40000 ∧ 0 ≤ σ.deep ∧ σ.deep ≤ 30 := by unfold okS; simp
theorem level_kind {ts : List Tok} {σ : RS} {n : Nat} (hn : 1 ≤ n) (h : (levelS ts σ).1 = (n : Int)) : (tokL ts σ.at_).kind ≠ 5 := by
  unfold levelS levelIn at h
  cases hf : levelsL.find? fun p => isS ts p.1 σ with
  | none => rw [hf] at h; simp at h; omega
  | some p => exact (isS_kind (by simpa using List.find?_some hf)).1
theorem level_code {ts : List Tok} {σ : RS} {n : Nat} (hn : 1 ≤ n) (h : (levelS ts σ).1 = (n : Int)) : ∃ s, isS ts s σ = true := by
  unfold levelS levelIn at h
  cases hf : levelsL.find? fun p => isS ts p.1 σ with
  | none => rw [hf] at h; simp at h; omega
  | some p => exact ⟨p.1, by simpa using List.find?_some hf⟩
/-- the expression of two parts -/
def twoE (k a b : Int) (p : Nat) : Ex := { ex0 with kind := k, a := a, b := b, pos := (p : Int) }
theorem loop_cases {ts : List Tok} {n least : Nat} {a : Int} {σ : RS} {R : Int × List Int × RS} (h : runE ts n (.loop least a) σ = some R) :
    ∃ m, n = m + 1 ∧ ((σ.code ≠ 0 ∧ R = (a, [], σ)) ∨ (σ.code = 0 ∧ (levelS ts σ).1 ≠ (least : Int) ∧ R = (a, [], σ)) ∨
      (σ.code = 0 ∧ (levelS ts σ).1 = (least : Int) ∧ ∃ bv lb τ, runE ts m (.bin (least + 1)) (stepS σ) = some (bv, lb, τ) ∧ okS τ = true ∧
        ((least = 3 ∧ R = ((τ.exprs.length : Int), [], putS (twoE (levelS ts σ).2 a bv (tokL ts σ.at_).at_) τ)) ∨ (least ≠ 3 ∧ runE ts m (.loop least (τ.exprs.length : Int)) (putS (twoE (levelS ts σ).2 a bv (tokL ts σ.at_).at_) τ) = some R)))) := by
  cases n with
  | zero => cases h
  | succ m =>
    refine ⟨m, rfl, ?_⟩
    simp only [runE] at h
    split at h
    · unfold loopG at h
      split at h
      · rename_i h0
        split at h
        · rename_i hl
          refine .inr (.inr ⟨h0, hl, ?_⟩)
          cases hb : runE ts m (.bin (least + 1)) (stepS σ) with
          | none => rw [hb] at h; cases h
          | some q =>
            obtain ⟨bv, lb, τ⟩ := q
            rw [hb] at h
            simp only [Option.bind_some] at h
            unfold putA at h
            split at h
            · rename_i hok
              refine ⟨bv, lb, τ, rfl, hok, ?_⟩
              split at h
              · rename_i h3
                exact .inl ⟨h3, (Option.some.inj h).symm⟩
              · rename_i h3
                exact .inr ⟨h3, h⟩
            · cases h
        · rename_i hl
          exact .inr (.inl ⟨h0, hl, (Option.some.inj h).symm⟩)
      · rename_i h0
        exact .inl ⟨h0, (Option.some.inj h).symm⟩
    · cases h
theorem least_of {α : Type} (P : Nat → α → Prop) : ∃ m : α → Nat, ∀ x, (∃ n, P n x) → P (m x) x ∧ ∀ k, P k x → m x ≤ k := by
  have key : ∀ x, ∃ n, (∃ n, P n x) → P n x ∧ ∀ k, P k x → n ≤ k := fun x => by
    by_cases h : ∃ n, P n x
    · obtain ⟨n, hn⟩ := h
      induction n using Nat.strongRecOn with
      | ind n ih =>
        by_cases h2 : ∃ k, k < n ∧ P k x
        · obtain ⟨k, hk, hp⟩ := h2
          exact ih k hk hp
        · exact ⟨n, fun _ => ⟨hn, fun k hk => Nat.le_of_not_lt fun hlt => h2 ⟨k, hlt, hk⟩⟩⟩
    · exact ⟨0, fun h2 => absurd h2 h⟩
  exact ⟨fun x => (key x).choose, fun x => (key x).choose_spec⟩
/-- the value of a put expression without arguments -/
theorem put_two (b g cap : Nat) (dv : Value) (ts : List Tok) (xb : Nat → Prop) (τ : RS) (k x y : Int) (p : Nat) (W : World) (h : Hid (Rd W b g cap dv ts xb τ)) (hok : okS τ = true) :
    Calls Tryz.prog 79 #[.pointer (some ⟨b, 0, none⟩), .agg #[.int .i64 k, .int .i64 x, .int .i64 y, .int .i64 0, .string ⟨#[]⟩, .string ⟨#[]⟩, .int .i64 0, .slice none 0 0, .int .i64 (p : Int)]] W fun r Y => RdRet b g cap dv ts xb W (.int .i64 (τ.exprs.length : Int)) (putS (twoE k x y p) τ) r Y :=
  put_any b g cap dv ts xb τ (twoE k x y p) none 0 0 W h (okS_iff.1 hok).1 (Lib.hid (World.ownsRow_nil _ _ _ _)) (Lib.hid fun k hk => by cases hk)
end Go.Proofs.YtnlbfdhhdnapnaaGreat
