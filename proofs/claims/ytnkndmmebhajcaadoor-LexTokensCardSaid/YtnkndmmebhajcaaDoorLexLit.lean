/- What the reference's Literal answers. -/
import Derived.Test.YtnkndmmebhajcaaDoorLexKit
import Derived.Test.YtnkndmmebhajcaaDoorLitMath
namespace Go.Proofs.YtnkndmmebhajcaaDoor
open Go.RowKit

theorem st_take {l : List UInt8} {k : Nat} {c : UInt8} (h : l[k]? = some c) : st (l.take (k + 1)) = step (st (l.take k)) c := by rw [take_at h, st_snoc]
theorem not_okay {l : List UInt8} {k : Nat} {c : UInt8} (h : l[k]? = some c) (hc : okay c = false) : litR l = false := by
  have : l.all okay = false := by
    rw [List.all_eq_false]
    exact ⟨c, List.mem_of_getElem? h, by rw [hc]; simp⟩
  unfold litR
  rw [this]
  rfl
set_option maxHeartbeats 8000000 in
set_option maxRecDepth 100000 in
theorem lit_core (l : List UInt8) (n : Nat) (hn : l.length = n) (hl : (n : Int) ≤ 30000) (R : Bool) (hR : R = litR l) (w : World) :
    Calls Tryd.prog 46 #[.string (str l)] w fun e w' => e = .returned (.bool R) ∧ w' = w := by
  have hs := str_size l
  rw [hn] at hs
  have HN := Lib.hid hn
  have HR := Lib.hid hR
  clear hn hR
  go_enter Tryd.func46, Tryd.ntmps46
  go_wp2_with fail
  go_loop [6, 3, 4, 5] (fun i a b d => ∃ k A B D : Nat, k ≤ n ∧ Hid (st (l.take k) = (A, B, D)) ∧ Hid ((l.take k).all okay = true) ∧ (A : Int) ≤ 30000 ∧ (B : Int) ≤ 30000 ∧ (D : Int) ≤ 30000 ∧ i = .int .i64 k ∧ a = .int .i64 A ∧ b = .int .i64 B ∧ d = .int .i64 D) (fun i _ _ _ => n - litLen i)
  case atStart => exact ⟨0, 0, 0, 0, by omega, Lib.hid rfl, Lib.hid rfl, by omega, by omega, by omega, rfl, rfl, rfl, rfl⟩
  case round =>
    obtain ⟨k, A, B, D, hk, hst, hok, hA, hB, hD, rfl, rfl, rfl, rfl⟩ := hrel
    rcases Nat.lt_or_ge k n with hlt | hge
    · obtain ⟨c, hc⟩ : ∃ c, l[k]? = some c := ⟨l[k]'(by have := HN.out; omega), List.getElem?_eq_getElem _⟩
      have hix : ∀ h, (str l)[k]'h = c := fun h => str_at l hc h
      have q3 : decide ((k : Int) < (n : Int)) = true := decide_eq_true (by omega)
      have ST := Lib.hid (st_take hc)
      have T := Lib.hid (take_at hc)
      have C := Lib.hid hc
      have hle := Lib.hid (st_le (l.take (k + 1)))
      have hlen : Hid ((l.take (k + 1)).length ≤ 30000) := Lib.hid (by rw [List.length_take]; have := HN.out; omega)
      have cl : (c.toNat : Int) ≤ 255 := by have := c.toNat_lt; omega
      clear hc
      by_cases c46 : c = 46
      · subst c46
        have e46 : ((46 : UInt8).toNat : Int) = 46 := rfl
        have q4 : decide (((46 : UInt8).toNat : Int) = 46) = true := by decide
        go_wp2_with fail
        have hs2 : st (l.take (k + 1)) = (A, B, D + 1) := by rw [ST.out, hst.out]; rfl
        have hb := hle.out
        rw [hs2] at hb
        have hb' : A + B + (D + 1) = (l.take (k + 1)).length := hb
        have hl2 := hlen.out
        refine ⟨⟨k + 1, A, B, D + 1, by omega, Lib.hid hs2, Lib.hid ?_, by omega, by omega, by omega, rfl, rfl, rfl, rfl⟩, by simp [litLen]; omega⟩
        rw [T.out, List.all_append, hok.out]; rfl
      · have n46 : ¬ (c.toNat : Int) = 46 := fun e => c46 (UInt8.toNat_inj.1 (by show c.toNat = 46; omega))
        have q4 : decide ((c.toNat : Int) = 46) = false := decide_eq_false n46
        by_cases d1 : (c.toNat : Int) < 48
        · have d1' : decide ((c.toNat : Int) < 48) = true := decide_eq_true d1
          go_wp2_with fail
          go_ret
          exact ⟨by rw [HR.out, not_okay C.out (by unfold okay isDig; simp; exact ⟨c46, by omega⟩)]; rfl, rfl⟩
        · have d1' : decide ((c.toNat : Int) < 48) = false := decide_eq_false d1
          by_cases d2 : (57 : Int) < (c.toNat : Int)
          · have d2' : decide ((57 : Int) < (c.toNat : Int)) = true := decide_eq_true d2
            go_wp2_with fail
            go_ret
            exact ⟨by rw [HR.out, not_okay C.out (by unfold okay isDig; simp; exact ⟨c46, by omega⟩)]; rfl, rfl⟩
          · have d2' : decide ((57 : Int) < (c.toNat : Int)) = false := decide_eq_false d2
            have hok2 : (l.take (k + 1)).all okay = true := by rw [T.out, List.all_append, hok.out]; simp [okay]; right; exact isDig_iff.2 (by omega)
            have HOK := Lib.hid hok2
            clear hok2
            by_cases d0 : D = 0
            · subst d0
              go_wp2_with fail
              have hs2 : st (l.take (k + 1)) = (A + 1, B, 0) := by rw [ST.out, hst.out]; unfold step; rw [if_neg c46, if_pos rfl]
              have hb := hle.out
              rw [hs2] at hb
              have hb' : A + 1 + B + 0 = (l.take (k + 1)).length := hb
              have hl2 := hlen.out
              exact ⟨⟨k + 1, A + 1, B, 0, by omega, Lib.hid hs2, HOK, by omega, by omega, by omega, rfl, rfl, rfl, rfl⟩, by simp [litLen]; omega⟩
            · have q5 : decide ((D : Int) = 0) = false := decide_eq_false (by omega)
              have q6 : ¬ (D : Int) = 0 := by omega
              go_wp2_with fail
              have hs2 : st (l.take (k + 1)) = (A, B + 1, D) := by rw [ST.out, hst.out]; unfold step; rw [if_neg c46, if_neg d0]
              have hb := hle.out
              rw [hs2] at hb
              have hb' : A + (B + 1) + D = (l.take (k + 1)).length := hb
              have hl2 := hlen.out
              exact ⟨⟨k + 1, A, B + 1, D, by omega, Lib.hid hs2, HOK, by omega, by omega, by omega, rfl, rfl, rfl, rfl⟩, by simp [litLen]; omega⟩
    · have q3 : decide ((k : Int) < (n : Int)) = false := decide_eq_false (by omega)
      have hst' : st l = (A, B, D) := by have := hst.out; rw [List.take_of_length_le (by rw [HN.out]; exact hge)] at this; exact this
      have hok' : l.all okay = true := by have := hok.out; rw [List.take_of_length_le (by rw [HN.out]; exact hge)] at this; exact this
      have hR : R = (decide (1 ≤ A) && (decide (A ≤ 10) && (decide (D ≤ 1) && ((!(decide (D = 1)) || (decide (1 ≤ B) && decide (B ≤ 40))) && (decide (A = 1) || !(l.head? == some 48)))))) := by
        rw [HR.out]; unfold litR; rw [hst', hok', Bool.true_and]
      have hAn : A + B + D = n := by have := st_le l; rw [hst'] at this; have h2 : A + B + D = l.length := this; rw [h2, HN.out]
      clear HR hst hok hst' hok'
      have RE := Lib.hid hR
      clear hR
      by_cases t1 : (A : Int) < 1
      · have u1 : decide ((A : Int) < 1) = true := decide_eq_true t1
        have hv : R = false := by
          refine Bool.eq_false_iff.2 fun hT => ?_
          rw [RE.out] at hT
          simp only [Bool.and_eq_true, decide_eq_true_eq, Bool.or_eq_true, Bool.not_eq_true', decide_eq_false_iff_not] at hT
          omega
        subst hv
        go_wp2_with fail
        go_ret
        exact ⟨rfl, rfl⟩
      · have u1 : decide ((A : Int) < 1) = false := decide_eq_false t1
        by_cases t2 : (10 : Int) < (A : Int)
        · have u2 : decide ((10 : Int) < (A : Int)) = true := decide_eq_true t2
          have hv : R = false := by
            refine Bool.eq_false_iff.2 fun hT => ?_
            rw [RE.out] at hT
            simp only [Bool.and_eq_true, decide_eq_true_eq, Bool.or_eq_true, Bool.not_eq_true', decide_eq_false_iff_not] at hT
            omega
          subst hv
          go_wp2_with fail
          go_ret
          exact ⟨rfl, rfl⟩
        · have u2 : decide ((10 : Int) < (A : Int)) = false := decide_eq_false t2
          by_cases t3 : (1 : Int) < (D : Int)
          · have u3 : decide ((1 : Int) < (D : Int)) = true := decide_eq_true t3
            have hv : R = false := by
              refine Bool.eq_false_iff.2 fun hT => ?_
              rw [RE.out] at hT
              simp only [Bool.and_eq_true, decide_eq_true_eq, Bool.or_eq_true, Bool.not_eq_true', decide_eq_false_iff_not] at hT
              omega
            subst hv
            go_wp2_with fail
            go_ret
            exact ⟨rfl, rfl⟩
          · have u3 : decide ((1 : Int) < (D : Int)) = false := decide_eq_false t3
            by_cases t4 : (D : Int) = 1
            · have u4 : decide ((D : Int) = 1) = true := decide_eq_true t4
              by_cases t5 : (B : Int) < 1
              · have u5 : decide ((B : Int) < 1) = true := decide_eq_true t5
                have hv : R = false := by
                  refine Bool.eq_false_iff.2 fun hT => ?_
                  rw [RE.out] at hT
                  simp only [Bool.and_eq_true, decide_eq_true_eq, Bool.or_eq_true, Bool.not_eq_true', decide_eq_false_iff_not] at hT
                  omega
                subst hv
                go_wp2_with fail
                go_ret
                exact ⟨rfl, rfl⟩
              · have u5 : decide ((B : Int) < 1) = false := decide_eq_false t5
                by_cases t6 : (40 : Int) < (B : Int)
                · have u6 : decide ((40 : Int) < (B : Int)) = true := decide_eq_true t6
                  have hv : R = false := by
                    refine Bool.eq_false_iff.2 fun hT => ?_
                    rw [RE.out] at hT
                    simp only [Bool.and_eq_true, decide_eq_true_eq, Bool.or_eq_true, Bool.not_eq_true', decide_eq_false_iff_not] at hT
                    omega
                  subst hv
                  go_wp2_with fail
                  go_ret
                  exact ⟨rfl, rfl⟩
                · have u6 : decide ((40 : Int) < (B : Int)) = false := decide_eq_false t6
                  by_cases t7 : (A : Int) = 1
                  · have u7 : decide ((A : Int) = 1) = true := decide_eq_true t7
                    have hv : R = true := by
                      rw [RE.out]
                      simp only [Bool.and_eq_true, decide_eq_true_eq, Bool.or_eq_true, Bool.not_eq_true', decide_eq_false_iff_not]
                      exact ⟨by omega, by omega, by omega, by omega, Or.inl (by omega)⟩
                    subst hv
                    go_wp2_with fail
                    go_ret
                    exact ⟨rfl, rfl⟩
                  · have u7 : decide ((A : Int) = 1) = false := decide_eq_false t7
                    have m7 : ((A : Int) == 1) = false := beq_false_of_ne t7
                    obtain ⟨c, l', hl'⟩ : ∃ c l', l = c :: l' := by
                      cases l with
                      | nil => have := HN.out; simp at this; omega
                      | cons c l' => exact ⟨c, l', rfl⟩
                    have hix : ∀ h, (str l)[0]'h = c := fun h => str_at l (by rw [hl']; rfl) h
                    by_cases h48 : c = 48
                    · have HC := Lib.hid (show (l.head? == some 48) = true by rw [hl', h48]; rfl)
                      clear hl'
                      subst h48
                      have hv : R = false := by
                        refine Bool.eq_false_iff.2 fun hT => ?_
                        rw [RE.out, HC.out] at hT
                        simp only [Bool.not_true, Bool.or_false, Bool.and_eq_true, decide_eq_true_eq] at hT
                        omega
                      subst hv
                      go_wp2_with fail
                      go_ret
                      exact ⟨rfl, rfl⟩
                    · have HC := Lib.hid (show (l.head? == some 48) = false by rw [hl']; simpa using h48)
                      have n48 : ¬ (c.toNat : Int) = 48 := fun e => h48 (UInt8.toNat_inj.1 (by show c.toNat = 48; omega))
                      have m48 : ((c.toNat : Int) != 48) = true := bne_iff_ne.2 n48
                      clear hl'
                      have hv : R = true := by
                        rw [RE.out, HC.out]
                        simp only [Bool.not_false, Bool.or_true, Bool.and_true, Bool.and_eq_true, decide_eq_true_eq, Bool.or_eq_true, Bool.not_eq_true', decide_eq_false_iff_not]
                        exact ⟨by omega, by omega, by omega, by omega⟩
                      subst hv
                      go_wp2_with fail
                      go_ret
                      exact ⟨rfl, rfl⟩
            · have u4 : decide ((D : Int) = 1) = false := decide_eq_false t4
              by_cases t8 : (A : Int) = 1
              · have u8 : decide ((A : Int) = 1) = true := decide_eq_true t8
                have hv : R = true := by
                  rw [RE.out]
                  simp only [Bool.and_eq_true, decide_eq_true_eq, Bool.or_eq_true, Bool.not_eq_true', decide_eq_false_iff_not]
                  exact ⟨by omega, by omega, by omega, by omega, Or.inl (by omega)⟩
                subst hv
                go_wp2_with fail
                go_ret
                exact ⟨rfl, rfl⟩
              · have u8 : decide ((A : Int) = 1) = false := decide_eq_false t8
                have m8 : ((A : Int) == 1) = false := beq_false_of_ne t8
                obtain ⟨c, l', hl'⟩ : ∃ c l', l = c :: l' := by
                  cases l with
                  | nil => have := HN.out; simp at this; omega
                  | cons c l' => exact ⟨c, l', rfl⟩
                have hix : ∀ h, (str l)[0]'h = c := fun h => str_at l (by rw [hl']; rfl) h
                by_cases h48 : c = 48
                · have HC := Lib.hid (show (l.head? == some 48) = true by rw [hl', h48]; rfl)
                  clear hl'
                  subst h48
                  have hv : R = false := by
                    refine Bool.eq_false_iff.2 fun hT => ?_
                    rw [RE.out, HC.out] at hT
                    simp only [Bool.not_true, Bool.or_false, Bool.and_eq_true, decide_eq_true_eq] at hT
                    omega
                  subst hv
                  go_wp2_with fail
                  go_ret
                  exact ⟨rfl, rfl⟩
                · have HC := Lib.hid (show (l.head? == some 48) = false by rw [hl']; simpa using h48)
                  have n48 : ¬ (c.toNat : Int) = 48 := fun e => h48 (UInt8.toNat_inj.1 (by show c.toNat = 48; omega))
                  have m48 : ((c.toNat : Int) != 48) = true := bne_iff_ne.2 n48
                  clear hl'
                  have hv : R = true := by
                    rw [RE.out, HC.out]
                    simp only [Bool.not_false, Bool.or_true, Bool.and_true, Bool.and_eq_true, decide_eq_true_eq, Bool.or_eq_true, Bool.not_eq_true', decide_eq_false_iff_not]
                    exact ⟨by omega, by omega, by omega, by omega⟩
                  subst hv
                  go_wp2_with fail
                  go_ret
                  exact ⟨rfl, rfl⟩
theorem lit_ref (l : List UInt8) (hl : l.length ≤ 30000) (w : World) :
    Calls Tryd.prog 46 #[.string (str l)] w fun e w' => e = .returned (.bool (litR l)) ∧ w' = w := lit_core l _ rfl (by omega) _ rfl w
end Go.Proofs.YtnkndmmebhajcaaDoor
