/- The reference's One, whatever the kind. -/
import Derived.Test.YtiilgehdkanmnaaAstOnek3
import Derived.Test.YtiilgehdkanmnaaAstOnek19
import Derived.Test.YtiilgehdkanmnaaAstOnek20
import Derived.Test.YtiilgehdkanmnaaAstOnek1
import Derived.Test.YtiilgehdkanmnaaAstOnek2
import Derived.Test.YtiilgehdkanmnaaAstOnem1
import Derived.Test.YtiilgehdkanmnaaAstOnem2
import Derived.Test.YtiilgehdkanmnaaAstOnem3
namespace Go.Proofs.Ytiilgehdkanmnaa
open Go.RowKit

theorem one_out (x : Ex) (o : Option Addr) (na cap : Nat) (i : Nat) (w : World) (h : ¬ (1 ≤ x.kind ∧ x.kind ≤ 21)) :
    Calls Try.prog 15 #[.agg #[.int .i64 x.kind, .int .i64 x.a, .int .i64 x.b, .int .i64 x.c, .string x.name, .string x.state, .int .i64 x.v, .slice o na cap, .int .i64 x.pos], .int .i64 (i : Int)] w fun e w' => MayPost (mayE x i) w e w' := by
  rw [mayE_kind h]
  by_cases h1 : x.kind < 1
  · have q1 : decide (x.kind < 1) = true := decide_eq_true h1
    clear h h1
    go_enter Try.func15, Try.ntmps15
    go_wp2_with fail
    go_ret
    exact ⟨rfl, below_al (Below.refl _ _) _⟩
  · have q1 : decide (x.kind < 1) = false := decide_eq_false h1
    have q2 : decide (21 < x.kind) = true := decide_eq_true (by omega)
    clear h h1
    go_enter Try.func15, Try.ntmps15
    go_wp2_with fail
    go_ret
    exact ⟨rfl, below_al (Below.refl _ _) _⟩
theorem one_any (x : Ex) (o : Option Addr) (cap : Nat) (i : Nat) (w : World) (ha : IntsAt w (.slice o x.args.length cap) x.args) (hk : ExOk x) (hp : (partsE x).length ≤ 1000) :
    Calls Try.prog 15 #[.agg #[.int .i64 x.kind, .int .i64 x.a, .int .i64 x.b, .int .i64 x.c, .string x.name, .string x.state, .int .i64 x.v, .slice o x.args.length cap, .int .i64 x.pos], .int .i64 (i : Int)] w fun e w' => MayPost (mayE x i) w e w' := by
  by_cases h : 1 ≤ x.kind ∧ x.kind ≤ 21
  · have q1 : decide (x.kind < 1) = false := decide_eq_false (by omega)
    have q2 : decide (21 < x.kind) = false := decide_eq_false (by omega)
    by_cases h3 : x.kind = 3
    · exact one_k3 x o _ cap (Lib.hid rfl) i w (Lib.hid ha) (Lib.hid hp) q1 q2 (Lib.hid (by rw [h3]; rfl)) (by rw [h3]; rfl) (by rw [h3]; rfl) (by rw [h3]; rfl) (by rw [h3]; rfl) (by rw [h3]; rfl) (Lib.hid (by rw [h3]; rfl))
    by_cases h19 : x.kind = 19
    · exact one_k19 x o _ cap (Lib.hid rfl) i w (Lib.hid ha) (Lib.hid hp) q1 q2 (Lib.hid (by rw [h19]; rfl)) (by rw [h19]; rfl) (by rw [h19]; rfl) (by rw [h19]; rfl) (by rw [h19]; rfl) (by rw [h19]; rfl) (Lib.hid (by rw [h19]; rfl))
    by_cases h20 : x.kind = 20
    · exact one_k20 x o _ cap (Lib.hid rfl) i w (Lib.hid ha) (Lib.hid hp) q1 q2 (Lib.hid (by rw [h20]; rfl)) (by rw [h20]; rfl) (by rw [h20]; rfl) (by rw [h20]; rfl) (by rw [h20]; rfl) (by rw [h20]; rfl) (Lib.hid (by rw [h20]; rfl))
    by_cases h1 : x.kind = 1
    · exact one_k1 x o _ cap (Lib.hid rfl) i w (Lib.hid ha) (Lib.hid hp) q1 q2 (Lib.hid (by rw [h1]; rfl)) (by rw [h1]; rfl) (by rw [h1]; rfl) (by rw [h1]; rfl) (by rw [h1]; rfl) (by rw [h1]; rfl) (Lib.hid hk.v.2) (Lib.hid (by rw [h1]; rfl))
    by_cases h2 : x.kind = 2
    · exact one_k2 x o _ cap (Lib.hid rfl) i w (Lib.hid ha) (Lib.hid hp) q1 q2 (Lib.hid (by rw [h2]; rfl)) (by rw [h2]; rfl) (by rw [h2]; rfl) (by rw [h2]; rfl) (by rw [h2]; rfl) (by rw [h2]; rfl) (Lib.hid (by rw [h2]; rfl))
    have e3 : (x.kind == 3) = false := beq_false_of_ne h3
    have e19 : (x.kind == 19) = false := beq_false_of_ne h19
    have e20 : (x.kind == 20) = false := beq_false_of_ne h20
    have e1 : (x.kind == 1) = false := beq_false_of_ne h1
    have e2 : decide (2 < x.kind) = true := decide_eq_true (by omega)
    have hmv : mostV x.kind = 0 := by unfold mostV; rw [if_neg h1, if_neg h2]
    have hR : manyR x.kind = (manyOf x.kind : Int) := by unfold manyR; rw [if_neg h19]
    have hM : manyOf x.kind = 1 ∨ manyOf x.kind = 2 ∨ manyOf x.kind = 3 := by
      unfold manyOf
      by_cases m1 : x.kind = 4 ∨ x.kind = 5 ∨ x.kind = 16 ∨ x.kind = 21
      · rw [if_pos m1]; exact .inl rfl
      · rw [if_neg m1]
        by_cases m2 : (6 ≤ x.kind ∧ x.kind ≤ 14) ∨ x.kind = 17 ∨ x.kind = 18
        · rw [if_pos m2]; exact .inr (.inl rfl)
        · rw [if_neg m2, if_pos (by omega)]; exact .inr (.inr rfl)
    rcases hM with hM | hM | hM
    · exact one_m1 x o _ cap (Lib.hid rfl) i w (Lib.hid ha) (Lib.hid hp) q1 q2 (Lib.hid (by rw [hR, hM]; rfl)) e3 e19 e20 e2 e1 (Lib.hid hmv)
    · exact one_m2 x o _ cap (Lib.hid rfl) i w (Lib.hid ha) (Lib.hid hp) q1 q2 (Lib.hid (by rw [hR, hM]; rfl)) e3 e19 e20 e2 e1 (Lib.hid hmv)
    · exact one_m3 x o _ cap (Lib.hid rfl) i w (Lib.hid ha) (Lib.hid hp) q1 q2 (Lib.hid (by rw [hR, hM]; rfl)) e3 e19 e20 e2 e1 (Lib.hid hmv)
  · exact one_out x o _ cap i w h
end Go.Proofs.Ytiilgehdkanmnaa
