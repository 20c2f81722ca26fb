/- The reference: letters, digits, gaps. -/
import Derived.Test.YtnkndmmebhajcaaDoorLexAlive
namespace Go.Proofs.YtnkndmmebhajcaaDoor
open Go.RowKit

set_option maxHeartbeats 2000000 in
theorem letter_core (x : Nat) (hx : (x : Int) ≤ 255) (R : Bool) (hR : Hid (R = ((decide (97 ≤ x) && decide (x ≤ 122)) || ((decide (65 ≤ x) && decide (x ≤ 90)) || decide (x = 95))))) (w : World) :
    Calls Tryd.prog 30 #[.int .u8 (x : Int)] w fun e w' => e = .returned (.bool R) ∧ w' = w := by
  by_cases h65 : 65 ≤ x
  · have q65 : decide ((65 : Int) ≤ (x : Int)) = true := decide_eq_true (by omega)
    by_cases h90 : x ≤ 90
    · have q90 : decide ((x : Int) ≤ 90) = true := decide_eq_true (by omega)
      obtain rfl : R = true := by rw [hR.out, decide_eq_true h65, decide_eq_true h90]; simp
      clear hR
      go_enter Tryd.func30, Tryd.ntmps30
      go_wp2_with fail
      go_ret
      exact ⟨rfl, rfl⟩
    · have q90 : decide ((x : Int) ≤ 90) = false := decide_eq_false (by omega)
      by_cases h97 : 97 ≤ x
      · have q97 : decide ((97 : Int) ≤ (x : Int)) = true := decide_eq_true (by omega)
        by_cases h122 : x ≤ 122
        · have q122 : decide ((x : Int) ≤ 122) = true := decide_eq_true (by omega)
          obtain rfl : R = true := by rw [hR.out, decide_eq_true h97, decide_eq_true h122]; simp
          clear hR
          go_enter Tryd.func30, Tryd.ntmps30
          go_wp2_with fail
          go_ret
          exact ⟨rfl, rfl⟩
        · have q122 : decide ((x : Int) ≤ 122) = false := decide_eq_false (by omega)
          have n95 : ¬ (x : Int) = 95 := by omega
          have m95 : ((x : Int) == 95) = false := beq_false_of_ne n95
          obtain rfl : R = false := by rw [hR.out, decide_eq_false h122, decide_eq_false h90, decide_eq_false (show ¬ x = 95 by omega)]; simp
          clear hR
          go_enter Tryd.func30, Tryd.ntmps30
          go_wp2_with fail
          go_ret
          exact ⟨rfl, rfl⟩
      · have q97 : decide ((97 : Int) ≤ (x : Int)) = false := decide_eq_false (by omega)
        by_cases h95 : x = 95
        · subst h95
          obtain rfl : R = true := by rw [hR.out]; rfl
          clear hR
          go_enter Tryd.func30, Tryd.ntmps30
          go_wp2_with fail
          go_ret
          exact ⟨rfl, rfl⟩
        · have n95 : ¬ (x : Int) = 95 := by omega
          have m95 : ((x : Int) == 95) = false := beq_false_of_ne n95
          obtain rfl : R = false := by rw [hR.out, decide_eq_false h97, decide_eq_false h90, decide_eq_false h95]; simp
          clear hR
          go_enter Tryd.func30, Tryd.ntmps30
          go_wp2_with fail
          go_ret
          exact ⟨rfl, rfl⟩
  · have q65 : decide ((65 : Int) ≤ (x : Int)) = false := decide_eq_false (by omega)
    have q97 : decide ((97 : Int) ≤ (x : Int)) = false := decide_eq_false (by omega)
    have n95 : ¬ (x : Int) = 95 := by omega
    have m95 : ((x : Int) == 95) = false := beq_false_of_ne n95
    obtain rfl : R = false := by rw [hR.out, decide_eq_false h65, decide_eq_false (show ¬ 97 ≤ x by omega), decide_eq_false (show ¬ x = 95 by omega)]; simp
    clear hR
    go_enter Tryd.func30, Tryd.ntmps30
    go_wp2_with fail
    go_ret
    exact ⟨rfl, rfl⟩
theorem u8_95 (c : UInt8) : (c == 95) = decide (c.toNat = 95) := by
  rw [Bool.eq_iff_iff]
  simp only [beq_iff_eq, decide_eq_true_eq]
  exact ⟨fun h => by rw [h]; rfl, fun h => UInt8.toNat_inj.1 (by rw [h]; rfl)⟩
theorem letter_ref (c : UInt8) (w : World) : Calls Tryd.prog 30 #[.int .u8 (c.toNat : Int)] w fun e w' => e = .returned (.bool (isLetter c)) ∧ w' = w :=
  letter_core c.toNat (by have := c.toNat_lt; omega) _ (Lib.hid (by unfold isLetter; rw [u8_95])) w
theorem digit_core (x : Nat) (R : Bool) (hR : Hid (R = (decide (48 ≤ x) && decide (x ≤ 57)))) (w : World) :
    Calls Tryd.prog 31 #[.int .u8 (x : Int)] w fun e w' => e = .returned (.bool R) ∧ w' = w := by
  by_cases h48 : 48 ≤ x
  · have q48 : decide ((48 : Int) ≤ (x : Int)) = true := decide_eq_true (by omega)
    by_cases h57 : x ≤ 57
    · have q57 : decide ((x : Int) ≤ 57) = true := decide_eq_true (by omega)
      obtain rfl : R = true := by rw [hR.out, decide_eq_true h48, decide_eq_true h57]; rfl
      clear hR
      go_enter Tryd.func31, Tryd.ntmps31
      go_wp2_with fail
      go_ret
      exact ⟨rfl, rfl⟩
    · have q57 : decide ((x : Int) ≤ 57) = false := decide_eq_false (by omega)
      obtain rfl : R = false := by rw [hR.out, decide_eq_false h57]; simp
      clear hR
      go_enter Tryd.func31, Tryd.ntmps31
      go_wp2_with fail
      go_ret
      exact ⟨rfl, rfl⟩
  · have q48 : decide ((48 : Int) ≤ (x : Int)) = false := decide_eq_false (by omega)
    obtain rfl : R = false := by rw [hR.out, decide_eq_false h48]; rfl
    clear hR
    go_enter Tryd.func31, Tryd.ntmps31
    go_wp2_with fail
    go_ret
    exact ⟨rfl, rfl⟩
theorem digit_ref (c : UInt8) (w : World) : Calls Tryd.prog 31 #[.int .u8 (c.toNat : Int)] w fun e w' => e = .returned (.bool (isDig c)) ∧ w' = w :=
  digit_core c.toNat _ (Lib.hid rfl) w
/-- a byte that isn't k, in all the words of a walk -/
theorem byte_ne {c k : UInt8} (h : c ≠ k) (K : Int) (hK : (k.toNat : Int) = K) : (c == k) = false ∧ (c != k) = true ∧ ¬ (c.toNat : Int) = K ∧ ((c.toNat : Int) == K) = false ∧ ((c.toNat : Int) != K) = true := by
  have h2 : ¬ (c.toNat : Int) = K := fun e => h (UInt8.toNat_inj.1 (by omega))
  exact ⟨beq_false_of_ne h, bne_iff_ne.2 h, h2, beq_false_of_ne h2, bne_iff_ne.2 h2⟩
set_option maxHeartbeats 4000000 in
theorem skip_core (l : List UInt8) (n : Nat) (hn : Hid (l.length = n)) (nl : (n : Int) ≤ 30000) (hs : (str l).size = n) (a : Nat) (ha : a ≤ n) (R : Nat) (hR : Hid (gapTo false l a = R)) (w : World) :
    Calls Tryd.prog 18 #[.string (str l), .int .i64 (a : Int)] w fun e w' => e = .returned (.int .i64 (R : Int)) ∧ w' = w := by
  go_enter Tryd.func18, Tryd.ntmps18
  go_wp2_with fail
  go_loop [1, 5] (fun i b => ∃ (j : Nat) (cm : Bool), j ≤ n ∧ Hid (gapTo cm l j = R) ∧ i = .int .i64 j ∧ b = .bool cm) (fun i _ => n - litLen i)
  case atStart => exact ⟨a, false, ha, hR, rfl, rfl⟩
  case round =>
    obtain ⟨j, cm, hj, hr, rfl, rfl⟩ := hrel
    rcases Nat.lt_or_ge j n with hlt | hge
    · have q3 : decide ((j : Int) < (n : Int)) = true := decide_eq_true (by omega)
      obtain ⟨c, hcj⟩ := isBehind hn.out hlt
      have hix : ∀ h, (str l)[j]'h = c := fun h => str_at l hcj h
      have HC := Lib.hid hcj
      clear hcj
      cases cm with
      | true =>
        by_cases h10 : c = 10
        · subst h10
          go_wp2_with fail
          exact ⟨⟨j + 1, false, by omega, Lib.hid (by rw [← gapTo_line HC.out]; exact hr.out), rfl, rfl⟩, by simp [litLen]; omega⟩
        · obtain ⟨b1, b2, b3, b4, b5⟩ := byte_ne h10 10 rfl
          have HT := Lib.hid h10
          clear h10
          go_wp2_with fail
          exact ⟨⟨j + 1, true, by omega, Lib.hid (by rw [← gapTo_comment HC.out HT.out]; exact hr.out), rfl, rfl⟩, by simp [litLen]; omega⟩
      | false =>
        by_cases h35 : c = 35
        · subst h35
          go_wp2_with fail
          exact ⟨⟨j + 1, true, by omega, Lib.hid (by rw [← gapTo_hash HC.out]; exact hr.out), rfl, rfl⟩, by simp [litLen]; omega⟩
        · obtain ⟨b1, b2, b3, b4, b5⟩ := byte_ne h35 35 rfl
          have H35 := Lib.hid h35
          clear h35
          by_cases h32 : c = 32
          · subst h32
            go_wp2_with fail
            exact ⟨⟨j + 1, false, by omega, Lib.hid (by rw [← gapTo_blank HC.out (by decide)]; exact hr.out), rfl, rfl⟩, by simp [litLen]; omega⟩
          · obtain ⟨c1, c2, c3, c4, c5⟩ := byte_ne h32 32 rfl
            have H32 := Lib.hid h32
            clear h32
            by_cases h9 : c = 9
            · subst h9
              go_wp2_with fail
              exact ⟨⟨j + 1, false, by omega, Lib.hid (by rw [← gapTo_blank HC.out (by decide)]; exact hr.out), rfl, rfl⟩, by simp [litLen]; omega⟩
            · obtain ⟨d1, d2, d3, d4, d5⟩ := byte_ne h9 9 rfl
              have H9 := Lib.hid h9
              clear h9
              by_cases h10 : c = 10
              · subst h10
                go_wp2_with fail
                exact ⟨⟨j + 1, false, by omega, Lib.hid (by rw [← gapTo_blank HC.out (by decide)]; exact hr.out), rfl, rfl⟩, by simp [litLen]; omega⟩
              · obtain ⟨e1, e2, e3, e4, e5⟩ := byte_ne h10 10 rfl
                have H10 := Lib.hid h10
                clear h10
                by_cases h13 : c = 13
                · subst h13
                  go_wp2_with fail
                  exact ⟨⟨j + 1, false, by omega, Lib.hid (by rw [← gapTo_blank HC.out (by decide)]; exact hr.out), rfl, rfl⟩, by simp [litLen]; omega⟩
                · obtain ⟨f1, f2, f3, f4, f5⟩ := byte_ne h13 13 rfl
                  have hst := Lib.hid (gapTo_stop HC.out H35.out (by unfold isBlank; rw [c1, d1, e1, f1]; rfl))
                  clear h13
                  go_wp2_with fail
                  go_ret
                  exact ⟨by rw [← hr.out, hst.out]; rfl, rfl⟩
    · have q3 : decide ((j : Int) < (n : Int)) = false := decide_eq_false (by omega)
      have hst := Lib.hid (gapTo_end cm (l := l) (a := j) (by rw [hn.out]; exact hge))
      go_wp2_with fail
      go_ret
      exact ⟨by rw [← hr.out, hst.out]; rfl, rfl⟩
theorem skip_ref (l : List UInt8) (nl : l.length ≤ 30000) (a : Nat) (ha : a ≤ l.length) (w : World) :
    Calls Tryd.prog 18 #[.string (str l), .int .i64 (a : Int)] w fun e w' => e = .returned (.int .i64 ((gapTo false l a : Nat) : Int)) ∧ w' = w :=
  skip_core l _ (Lib.hid rfl) (by omega) (str_size l) a ha _ (Lib.hid rfl) w
end Go.Proofs.YtnkndmmebhajcaaDoor
