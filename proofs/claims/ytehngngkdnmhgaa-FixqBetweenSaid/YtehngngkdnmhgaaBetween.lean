/- FixqBetween, walked at any numbers. -/
import Derived.Test.YtehngngkdnmhgaaSums
import Derived.Test.YtehngngkdnmhgaaLerp
namespace Go.Proofs.Ytehngngkdnmhgaa
open Go.RowKit

theorem way_pos {d : Int} {P Q : Nat} (hd : 0 ≤ d) (hPQ : P ≤ Q) (hQ : Q ≤ 256) : 0 ≤ wayOf d P 8 ∧ wayOf d P 8 ≤ wayOf d Q 8 ∧ wayOf d Q 8 ≤ d := by
  obtain ⟨D, rfl⟩ := Int.eq_ofNat_of_zero_le hd
  have key : ∀ R : Nat, wayOf (D : Int) R 8 = ((D * R / 256 : Nat) : Int) := fun R => by
    unfold wayOf
    rw [← Int.natCast_mul, Int.tdiv_eq_ediv_of_nonneg (by omega)]
    exact (Int.natCast_ediv _ _).symm
  rw [key, key]
  have h1 : D * P / 256 ≤ D * Q / 256 := Nat.div_le_div_right (Nat.mul_le_mul_left _ hPQ)
  have h2 : D * Q / 256 ≤ D * 256 / 256 := Nat.div_le_div_right (Nat.mul_le_mul_left _ hQ)
  rw [Nat.mul_div_cancel _ (by omega)] at h2
  omega
theorem way_neg (d : Int) (P : Nat) : wayOf (-d) P 8 = -wayOf d P 8 := by unfold wayOf; rw [Int.neg_mul, Int.neg_tdiv]
theorem way_below {d : Int} {P Q : Nat} (hd : d ≤ 0) (hPQ : P ≤ Q) (hQ : Q ≤ 256) : wayOf d P 8 ≤ 0 ∧ wayOf d Q 8 ≤ wayOf d P 8 ∧ d ≤ wayOf d Q 8 := by
  have h := way_pos (d := -d) (by omega) hPQ hQ
  rw [way_neg, way_neg] at h
  omega
theorem lerp_at8 {a b : Int} (m : Int) (P : Nat) (ha : fits a) (hb : fits b) (ho : over (b - a) = 0) (hP : lerpP m 8 = P) (hP2 : P ≤ 256) :
    lerpX a b m 8 = a + wayOf (b - a) P 8 ∧ lerpF a b m 8 = 0 := by
  have hf : -9223372036854775808 ≤ b - a ∧ b - a ≤ 9223372036854775807 := by
    unfold over at ho
    split at ho
    · cases ho
    · omega
  have hK : lerpK 8 = 8 := by decide
  obtain ⟨ha1, ha2⟩ := ha
  obtain ⟨hb1, hb2⟩ := hb
  unfold lerpX lerpF
  rw [hK, hP, held_in hf.1 hf.2, ho]
  have hw : (0 ≤ b - a ∧ 0 ≤ wayOf (b - a) P 8 ∧ wayOf (b - a) P 8 ≤ b - a) ∨ (b - a ≤ 0 ∧ wayOf (b - a) P 8 ≤ 0 ∧ b - a ≤ wayOf (b - a) P 8) := by
    rcases Int.le_total 0 (b - a) with h | h
    · have := way_pos h (Nat.le_refl P) hP2; exact .inl ⟨h, this.1, this.2.2⟩
    · have := way_below h (Nat.le_refl P) hP2; exact .inr ⟨h, this.1, this.2.2⟩
  generalize wayOf (b - a) P 8 = v at *
  rw [held_in (x := v) (by omega) (by omega), over_in (x := v) (by omega) (by omega), held_in (x := a + v) (by omega) (by omega), over_in (x := a + v) (by omega) (by omega)]
  exact ⟨rfl, by decide +kernel⟩
set_option maxHeartbeats 2000000 in
theorem between_any (a b m n : Int) (w : World) (ha : fits a) (hb : fits b) (hm0 : 0 ≤ m) (hm1 : m ≤ 255) (hn0 : 0 ≤ n) (hn1 : n ≤ 255) :
    Calls Try.prog 9 #[.int .i64 a, .int .i64 b, .int .u8 m, .int .u8 n] w fun e w' => e = .returned (.bool true) ∧ Below w.heap.size w w' := by
  have RD := Lib.hid fun w => diff_ref b a w hb ha
  by_cases ho : over (b - a) = 0
  · have O1 : lerpP m 8 = m.toNat := by unfold lerpP; rw [show (2 : Int) ^ 8 = 256 from rfl]; omega
    have O2 : lerpP (m + n) 8 = min (m + n).toNat 256 := by unfold lerpP; rw [show (2 : Int) ^ 8 = 256 from rfl]; omega
    obtain ⟨x1, f1⟩ := lerp_at8 m m.toNat ha hb ho O1 (by omega)
    obtain ⟨x2, f2⟩ := lerp_at8 (m + n) _ ha hb ho O2 (by omega)
    have L1 := fun w => lerp_any a b m 8 w ha hb
    have L2 := fun w => lerp_any a b (m + n) 8 w ha hb
    rw [x1, f1] at L1
    rw [x2, f2] at L2
    have LH1 := Lib.hid L1; have LH2 := Lib.hid L2
    have o0 : (over (b - a) != 0) = false := by rw [ho]; rfl
    have OO := Lib.hid ho
    clear L1 L2 x1 f1 x2 f2 O1 O2 ho
    by_cases hab : a ≤ b
    · have hw := way_pos (d := b - a) (P := m.toNat) (Q := min (m + n).toNat 256) (by omega) (by omega) (by omega)
      generalize wayOf (b - a) m.toNat 8 = v1 at *
      generalize wayOf (b - a) (min (m + n).toNat 256) 8 = v2 at *
      have s1 : decide (a ≤ b) = true := decide_eq_true hab
      obtain ⟨y1, hy1⟩ : ∃ y, y = a + v1 := ⟨_, rfl⟩
      obtain ⟨y2, hy2⟩ : ∃ y, y = a + v2 := ⟨_, rfl⟩
      rw [← hy1] at LH1
      rw [← hy2] at LH2
      have s2 : decide (a ≤ y1) = true := decide_eq_true (by omega)
      have s3 : decide (y1 ≤ y2) = true := decide_eq_true (by omega)
      have s4 : decide (y2 ≤ b) = true := decide_eq_true (by omega)
      clear hy1 hy2 hw ha hb hab
      go_enter Try.func9, Try.ntmps9
      go_wp2_with (first
        | (go_at_call 10; refine (alive_any _).mono ?_; rintro e w' ⟨rfl, q, rfl⟩)
        | (go_at_call 15; (with_reducible refine (RD.out _).mono ?_); rintro e w1 ⟨rfl, hw⟩; have B1 := Lib.hid hw; clear hw)
        | (go_at_call 23; (with_reducible refine (LH1.out _).mono ?_); rintro e w2 ⟨rfl, hw⟩; have B2 := Lib.hid hw; clear hw)
        | (go_at_call 23; (with_reducible refine (LH2.out _).mono ?_); rintro e w3 ⟨rfl, hw⟩; have B3 := Lib.hid hw; clear hw))
      go_ret
      exact ⟨rfl, chain (chain (chain (below_drewN (Below.refl _ w) _) B1.out) B2.out) B3.out⟩
    · have hw := way_below (d := b - a) (P := m.toNat) (Q := min (m + n).toNat 256) (by omega) (by omega) (by omega)
      generalize wayOf (b - a) m.toNat 8 = v1 at *
      generalize wayOf (b - a) (min (m + n).toNat 256) 8 = v2 at *
      have s1 : decide (a ≤ b) = false := decide_eq_false hab
      obtain ⟨y1, hy1⟩ : ∃ y, y = a + v1 := ⟨_, rfl⟩
      obtain ⟨y2, hy2⟩ : ∃ y, y = a + v2 := ⟨_, rfl⟩
      rw [← hy1] at LH1
      rw [← hy2] at LH2
      have s2 : decide (y1 ≤ a) = true := decide_eq_true (by omega)
      have s3 : decide (y2 ≤ y1) = true := decide_eq_true (by omega)
      have s4 : decide (b ≤ y2) = true := decide_eq_true (by omega)
      clear hy1 hy2 hw ha hb hab
      go_enter Try.func9, Try.ntmps9
      go_wp2_with (first
        | (go_at_call 10; refine (alive_any _).mono ?_; rintro e w' ⟨rfl, q, rfl⟩)
        | (go_at_call 15; (with_reducible refine (RD.out _).mono ?_); rintro e w1 ⟨rfl, hw⟩; have B1 := Lib.hid hw; clear hw)
        | (go_at_call 23; (with_reducible refine (LH1.out _).mono ?_); rintro e w2 ⟨rfl, hw⟩; have B2 := Lib.hid hw; clear hw)
        | (go_at_call 23; (with_reducible refine (LH2.out _).mono ?_); rintro e w3 ⟨rfl, hw⟩; have B3 := Lib.hid hw; clear hw))
      go_ret
      exact ⟨rfl, chain (chain (chain (below_drewN (Below.refl _ w) _) B1.out) B2.out) B3.out⟩
  · have o0 : (over (b - a) != 0) = true := bne_iff_ne.2 ho
    clear ha hb ho
    go_enter Try.func9, Try.ntmps9
    go_wp2_with (first
      | (go_at_call 10; refine (alive_any _).mono ?_; rintro e w' ⟨rfl, q, rfl⟩)
      | (go_at_call 15; (with_reducible refine (RD.out _).mono ?_); rintro e w1 ⟨rfl, hw⟩; have B1 := Lib.hid hw; clear hw))
    go_ret
    exact ⟨rfl, chain (below_drewN (Below.refl _ w) _) B1.out⟩
theorem u8_of_wf {a : Int} (h : (Lit.int .u8 a).wf = true) : 0 ≤ a ∧ a ≤ 255 := by
  simp only [Lit.wf, IntKind.min, IntKind.max, IntKind.signed, IntKind.bits, Bool.and_eq_true] at h
  have h1 := h.1
  have h2 := h.2
  simp at h1 h2
  omega
end Go.Proofs.Ytehngngkdnmhgaa
