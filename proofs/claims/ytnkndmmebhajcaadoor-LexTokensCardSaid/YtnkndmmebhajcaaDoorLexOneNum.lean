/- The reference's One at a number, given what the reference's Signed answers. -/
import Derived.Test.YtnkndmmebhajcaaDoorLexOneSign
namespace Go.Proofs.YtnkndmmebhajcaaDoor
open Go.RowKit

set_option maxHeartbeats 8000000 in
set_option maxRecDepth 100000 in
theorem one_num (l : List UInt8) (n : Nat) (hn : Hid (l.length = n)) (nl : (n : Int) ≤ 30000) (hs : (str l).size = n) (a : Nat) (han : (a : Int) < (n : Int)) (c : UInt8) (hix : ∀ h, (str l)[a]'h = c) (hcl : Hid (isLetter c = false)) (hcd : Hid (isDig c = true)) (x : Nat) (hx : Hid (runTo isDig l a = x)) (R : Nat) (hR : Hid (numTo l a = R)) (haR : (a : Int) ≤ (R : Int)) (hRn : (R : Int) ≤ (n : Int))
    (T : ByteArray) (hT : (str l).extract a R = T) (V : Int) (O : Bool) (SG : Hid (∀ w, Calls Tryd.prog 32 #[.string T] w fun e w' => e = .returned (.tuple #[.int .i64 V, .bool O]) ∧ Below w.heap.size w w')) (w : World) :
    Calls Tryd.prog 19 #[.string (str l), .int .i64 (a : Int)] w fun e w' => OneRet 2 V (a : Int) T O w e w' := by
  have DT : Hid (∀ (c : UInt8) w, Calls Tryd.prog 31 #[.int .u8 (c.toNat : Int)] w fun e w' => e = .returned (.bool (isDig c)) ∧ w' = w) := Lib.hid digit_ref
  have L0 : Hid (∀ w, Calls Tryd.prog 30 #[.int .u8 (c.toNat : Int)] w fun e w' => e = .returned (.bool false) ∧ w' = w) := Lib.hid fun w => by have := letter_ref c w; rwa [hcl.out] at this
  have D0 : Hid (∀ w, Calls Tryd.prog 31 #[.int .u8 (c.toNat : Int)] w fun e w' => e = .returned (.bool true) ∧ w' = w) := Lib.hid fun w => by have := digit_ref c w; rwa [hcd.out] at this
  have hb0 := Lib.hid ((Below.refl w.heap.size w).alloc (Nat.le_refl _) (.cells #[.int .i64 0, .string ⟨#[]⟩, .int .i64 0, .int .i64 0] 36))
  have hrm := Lib.hid (roomAt_new w 36)
  have HE : Hid (∀ i x j : Nat, runTo isDig l j = x → (n ≤ j ∨ ∃ c, l[j]? = some c ∧ isDig c = false) → j = x) := Lib.hid fun i x j h1 h2 => by
    rcases h2 with h2 | ⟨c, h2, h3⟩
    · rw [runTo_end (by rw [hn.out]; exact h2)] at h1; exact h1
    · rw [runTo_stop h2 h3] at h1; exact h1
  go_enter Tryd.func19, Tryd.ntmps19
  go_wp2_with (first | (go_at_call 30; ((with_reducible refine (L0.out _).mono ?_); rintro e w' ⟨rfl, rfl⟩)) | (go_at_call 31; ((with_reducible refine (D0.out _).mono ?_); rintro e w' ⟨rfl, rfl⟩)))
  go_loop [7] (fun i => ∃ j : Nat, a ≤ j ∧ j ≤ n ∧ Hid (runTo isDig l j = x) ∧ i = .int .i64 j) (fun i => n - litLen i)
  case atStart => exact ⟨a, Nat.le_refl _, by omega, hx, rfl⟩
  case round =>
    obtain ⟨j, haj, hj, hr, rfl⟩ := hrel
    rcases Nat.lt_or_ge j n with hlt | hge
    · have q3 : decide ((j : Int) < (n : Int)) = true := decide_eq_true (by omega)
      have jn : (j : Int) < (n : Int) := by omega
      obtain ⟨d, hdj⟩ := isBehind hn.out hlt
      have hix2 : ∀ h, (str l)[j]'h = d := fun h => str_at l hdj h
      have HD := Lib.hid hdj
      clear hdj
      rcases hb2 : isDig d with _ | _
      · obtain rfl : j = x := HE.out 0 x j hr.out (.inr ⟨d, HD.out, hb2⟩)
        have DD : Hid (∀ w, Calls Tryd.prog 31 #[.int .u8 (d.toNat : Int)] w fun e w' => e = .returned (.bool false) ∧ w' = w) := Lib.hid fun w => by have := digit_ref d w; rwa [hb2] at this
        clear hb2
        obtain ⟨y1, hy1⟩ : ∃ y1, y1 = j + 1 := ⟨_, rfl⟩
        have e1 : (j : Int) + 1 = (y1 : Int) := by omega
        have HY1 := Lib.hid hy1
        clear hy1
        by_cases hyn : (y1 : Int) < (n : Int)
        · have q4 : decide ((y1 : Int) < (n : Int)) = true := decide_eq_true hyn
          have q5 : decide (y1 < n) = true := decide_eq_true (by omega)
          by_cases h46 : d = 46
          · have k1 : (d == 46) = true := by simpa using h46
            have k2 : ((d.toNat : Int) == 46) = true := by rw [h46]; rfl
            have k3 : (d.toNat : Int) = 46 := by rw [h46]; rfl
            have hdot := Lib.hid (numTo_dot (l := l) (a := a) (by rw [hx.out, HD.out, h46]))
            obtain ⟨f, hf⟩ := isBehind hn.out (show y1 < n by omega)
            have hix3 : ∀ h, (str l)[y1]'h = f := fun h => str_at l hf h
            have HF := Lib.hid hf
            have D46 : Hid (∀ w, Calls Tryd.prog 31 #[.int .u8 46] w fun e w' => e = .returned (.bool false) ∧ w' = w) := Lib.hid fun w => by have := DD.out w; rw [h46] at this; exact this
            clear hf h46
            rcases hb3 : isDig f with _ | _
            · have DF : Hid (∀ w, Calls Tryd.prog 31 #[.int .u8 (f.toNat : Int)] w fun e w' => e = .returned (.bool false) ∧ w' = w) := Lib.hid fun w => by have := digit_ref f w; rwa [hb3] at this
              obtain rfl : R = j := by
                have := hdot.out
                rw [hx.out, ← HY1.out, runTo_stop HF.out hb3, if_neg (by omega)] at this
                rw [← hR.out]; exact this
              clear hb3
              go_wp2_with (first | (go_at_call 31; ((with_reducible refine (D46.out _).mono ?_); rintro e w' ⟨rfl, rfl⟩)) | (go_at_call 31; ((with_reducible refine (DD.out _).mono ?_); rintro e w' ⟨rfl, rfl⟩)) | (go_at_call 31; ((with_reducible refine (DF.out _).mono ?_); rintro e w' ⟨rfl, rfl⟩)) | (go_at_call 32; ((with_reducible refine (SG.out _).mono ?_); rintro e w3 ⟨rfl, hb3⟩; obtain ⟨r0, r1, r2, r3, f0, f1, f2, f3⟩ := hrm.out.below hb3 (by simp); have HB3 := Lib.hid hb3; clear hb3)))
              exact bodyPost_ret (v := .tuple #[.agg #[.int .i64 2, .string T, .int .i64 V, .int .i64 (a : Int)], .bool O]) (by simp [results, Tryd.results19, go_sem, r0, r1, r2, r3]) rfl ⟨rfl, below_four (hb0.out.trans (HB3.out.mono hb0.out.size)) (Nat.le_refl _) _ _ _ _⟩
            · have DF : Hid (∀ w, Calls Tryd.prog 31 #[.int .u8 (f.toNat : Int)] w fun e w' => e = .returned (.bool true) ∧ w' = w) := Lib.hid fun w => by have := digit_ref f w; rwa [hb3] at this
              have hRy : Hid (runTo isDig l y1 = R) := Lib.hid (by
                have := hdot.out
                have h2 := runTo_step HF.out hb3
                have h3 := runTo_ge isDig l (y1 + 1)
                rw [hx.out, ← HY1.out, if_pos (by omega)] at this
                rw [← hR.out]; exact this.symm)
              clear hb3
              go_wp2_with (first | (go_at_call 31; ((with_reducible refine (D46.out _).mono ?_); rintro e w' ⟨rfl, rfl⟩)) | (go_at_call 31; ((with_reducible refine (DD.out _).mono ?_); rintro e w' ⟨rfl, rfl⟩)) | (go_at_call 31; ((with_reducible refine (DF.out _).mono ?_); rintro e w' ⟨rfl, rfl⟩)))
              go_loop [7] (fun i => ∃ k : Nat, y1 ≤ k ∧ k ≤ n ∧ Hid (runTo isDig l k = R) ∧ i = .int .i64 k) (fun i => n - litLen i)
              case atStart => exact ⟨y1, Nat.le_refl _, by omega, hRy, rfl⟩
              case round =>
                obtain ⟨k, hyk, hk, hrk, rfl⟩ := hrel
                rcases Nat.lt_or_ge k n with hkt | hkg
                · have q6 : decide ((k : Int) < (n : Int)) = true := decide_eq_true (by omega)
                  have kn : (k : Int) < (n : Int) := by omega
                  obtain ⟨h, hhk⟩ := isBehind hn.out hkt
                  have hix4 : ∀ h', (str l)[k]'h' = h := fun h' => str_at l hhk h'
                  have HH := Lib.hid hhk
                  clear hhk
                  rcases hb4 : isDig h with _ | _
                  · obtain rfl : k = R := HE.out 0 R k hrk.out (.inr ⟨h, HH.out, hb4⟩)
                    have DH : Hid (∀ w, Calls Tryd.prog 31 #[.int .u8 (h.toNat : Int)] w fun e w' => e = .returned (.bool false) ∧ w' = w) := Lib.hid fun w => by have := digit_ref h w; rwa [hb4] at this
                    clear hb4
                    go_wp2_with (first | (go_at_call 31; ((with_reducible refine (DH.out _).mono ?_); rintro e w' ⟨rfl, rfl⟩)) | (go_at_call 32; ((with_reducible refine (SG.out _).mono ?_); rintro e w3 ⟨rfl, hb3⟩; obtain ⟨r0, r1, r2, r3, f0, f1, f2, f3⟩ := hrm.out.below hb3 (by simp); have HB3 := Lib.hid hb3; clear hb3)))
                    exact bodyPost_ret (v := .tuple #[.agg #[.int .i64 2, .string T, .int .i64 V, .int .i64 (a : Int)], .bool O]) (by simp [results, Tryd.results19, go_sem, r0, r1, r2, r3]) rfl ⟨rfl, below_four (hb0.out.trans (HB3.out.mono hb0.out.size)) (Nat.le_refl _) _ _ _ _⟩
                  · have DH : Hid (∀ w, Calls Tryd.prog 31 #[.int .u8 (h.toNat : Int)] w fun e w' => e = .returned (.bool true) ∧ w' = w) := Lib.hid fun w => by have := digit_ref h w; rwa [hb4] at this
                    have HB4 := Lib.hid hb4
                    clear hb4
                    go_wp2_with ((go_at_call 31; ((with_reducible refine (DH.out _).mono ?_); rintro e w' ⟨rfl, rfl⟩)))
                    exact ⟨⟨k + 1, by omega, by omega, Lib.hid (run_next HH.out hrk.out HB4.out), rfl⟩, by simp [litLen]; omega⟩
                · have q6 : decide ((k : Int) < (n : Int)) = false := decide_eq_false (by omega)
                  obtain rfl : k = R := HE.out 0 R k hrk.out (.inl hkg)
                  go_wp2_with (first | (go_at_call 32; ((with_reducible refine (SG.out _).mono ?_); rintro e w3 ⟨rfl, hb3⟩; obtain ⟨r0, r1, r2, r3, f0, f1, f2, f3⟩ := hrm.out.below hb3 (by simp); have HB3 := Lib.hid hb3; clear hb3)))
                  exact bodyPost_ret (v := .tuple #[.agg #[.int .i64 2, .string T, .int .i64 V, .int .i64 (a : Int)], .bool O]) (by simp [results, Tryd.results19, go_sem, r0, r1, r2, r3]) rfl ⟨rfl, below_four (hb0.out.trans (HB3.out.mono hb0.out.size)) (Nat.le_refl _) _ _ _ _⟩
          · obtain ⟨k1, k4, k3, k2, k5⟩ := byte_ne h46 46 rfl
            obtain rfl : R = j := by rw [← hR.out, numTo_end (by rw [hx.out, HD.out]; simpa using h46), hx.out]
            clear h46
            go_wp2_with (first | (go_at_call 31; ((with_reducible refine (DD.out _).mono ?_); rintro e w' ⟨rfl, rfl⟩)) | (go_at_call 32; ((with_reducible refine (SG.out _).mono ?_); rintro e w3 ⟨rfl, hb3⟩; obtain ⟨r0, r1, r2, r3, f0, f1, f2, f3⟩ := hrm.out.below hb3 (by simp); have HB3 := Lib.hid hb3; clear hb3)))
            exact bodyPost_ret (v := .tuple #[.agg #[.int .i64 2, .string T, .int .i64 V, .int .i64 (a : Int)], .bool O]) (by simp [results, Tryd.results19, go_sem, r0, r1, r2, r3]) rfl ⟨rfl, below_four (hb0.out.trans (HB3.out.mono hb0.out.size)) (Nat.le_refl _) _ _ _ _⟩
        · have q4 : decide ((y1 : Int) < (n : Int)) = false := decide_eq_false hyn
          have q5 : decide (y1 < n) = false := decide_eq_false (by omega)
          obtain rfl : R = j := by
            by_cases h46 : d = 46
            · have hdot := numTo_dot (l := l) (a := a) (by rw [hx.out, HD.out, h46])
              rw [hx.out, ← HY1.out, runTo_end (by rw [hn.out]; omega), if_neg (by omega)] at hdot
              rw [← hR.out]; exact hdot
            · rw [← hR.out, numTo_end (by rw [hx.out, HD.out]; simpa using h46), hx.out]
          go_wp2_with (first | (go_at_call 31; ((with_reducible refine (DD.out _).mono ?_); rintro e w' ⟨rfl, rfl⟩)) | (go_at_call 32; ((with_reducible refine (SG.out _).mono ?_); rintro e w3 ⟨rfl, hb3⟩; obtain ⟨r0, r1, r2, r3, f0, f1, f2, f3⟩ := hrm.out.below hb3 (by simp); have HB3 := Lib.hid hb3; clear hb3)))
          exact bodyPost_ret (v := .tuple #[.agg #[.int .i64 2, .string T, .int .i64 V, .int .i64 (a : Int)], .bool O]) (by simp [results, Tryd.results19, go_sem, r0, r1, r2, r3]) rfl ⟨rfl, below_four (hb0.out.trans (HB3.out.mono hb0.out.size)) (Nat.le_refl _) _ _ _ _⟩
      · have DD : Hid (∀ w, Calls Tryd.prog 31 #[.int .u8 (d.toNat : Int)] w fun e w' => e = .returned (.bool true) ∧ w' = w) := Lib.hid fun w => by have := digit_ref d w; rwa [hb2] at this
        have HB2 := Lib.hid hb2
        clear hb2
        go_wp2_with ((go_at_call 31; ((with_reducible refine (DD.out _).mono ?_); rintro e w' ⟨rfl, rfl⟩)))
        exact ⟨⟨j + 1, by omega, by omega, Lib.hid (run_next HD.out hr.out HB2.out), rfl⟩, by simp [litLen]; omega⟩
    · have q3 : decide ((j : Int) < (n : Int)) = false := decide_eq_false (by omega)
      obtain rfl : j = x := HE.out 0 x j hr.out (.inl hge)
      obtain ⟨y1, hy1⟩ : ∃ y1, y1 = j + 1 := ⟨_, rfl⟩
      have e1 : (j : Int) + 1 = (y1 : Int) := by omega
      have q4 : decide ((y1 : Int) < (n : Int)) = false := decide_eq_false (by omega)
      have q5 : decide (y1 < n) = false := decide_eq_false (by omega)
      obtain rfl : R = j := by rw [← hR.out, numTo_end (by rw [hx.out, List.getElem?_eq_none (by rw [hn.out]; exact hge)]; simp), hx.out]
      clear hy1
      go_wp2_with (first | (go_at_call 32; ((with_reducible refine (SG.out _).mono ?_); rintro e w3 ⟨rfl, hb3⟩; obtain ⟨r0, r1, r2, r3, f0, f1, f2, f3⟩ := hrm.out.below hb3 (by simp); have HB3 := Lib.hid hb3; clear hb3)))
      exact bodyPost_ret (v := .tuple #[.agg #[.int .i64 2, .string T, .int .i64 V, .int .i64 (a : Int)], .bool O]) (by simp [results, Tryd.results19, go_sem, r0, r1, r2, r3]) rfl ⟨rfl, below_four (hb0.out.trans (HB3.out.mono hb0.out.size)) (Nat.le_refl _) _ _ _ _⟩
end Go.Proofs.YtnkndmmebhajcaaDoor
