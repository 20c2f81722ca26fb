/- code's reader: one number. -/
import Derived.Test.YtodblepbedhnnaaCoRead
import Derived.Laws.BitsAllLaws
import Derived.Lib.Zigzag
namespace Go.Proofs.Ytodblepbedhnnaa
open Go.RowKit Co

attribute [local go_sem] Oper.semAt_some

/-- between two rounds -/
def NumJ (D : Option (Nat × List UInt8)) (n0 f γ b : Nat) (w0 : World) (R : Nat) (wr : World) : Prop :=
  (D = none ∧ Rd w0 R none wr) ∨ (∃ t, γ < 128 ∧ D = some (f, t) ∧ Rd w0 R (some t) wr) ∨ (∃ t, 128 ≤ γ ∧ D = rdF t b f ∧ b + 7 * t.length = 7 * n0 ∧ (b < 64 → f < 2 ^ b) ∧ Rd w0 R (some t) wr)
def rdD : St → Option (Nat × List UInt8)
  | none => none
  | some l => rdF l 0 0
theorem num_D (s : St) : num s = match rdD s with | some (u, r) => (unfold u, some r) | none => (0, none) := by
  cases s with
  | none => rfl
  | some l => rfl
theorem rd_cells {w0 w : World} {R : Nat} {s : St} (h : Rd w0 R s w) : ∃ v, w.cell? ⟨R, 0, none⟩ = some v ∧ w.cell? ⟨R, 1, none⟩ = some (.bool (lostB s)) ∧ w.frozen? ⟨R, 0, none⟩ = false ∧ w.frozen? ⟨R, 1, none⟩ = false := by
  obtain ⟨v, l, h1, _⟩ := h.box
  obtain ⟨c0, c1, f0, f1⟩ := two_cells h1
  exact ⟨v, c0, c1, f0, f1⟩
theorem and_127 : ∀ n : Fin 256, n.val &&& 127 = n.val % 128 := by decide +kernel
theorem part_byte {δ : Nat} (h : δ < 256) : bits .andNot .u8 (δ : Int) 128 = ((δ % 128 : Nat) : Int) := by
  have h1 := u8_andNot_nat δ 128 h (by omega)
  have h2 := and_127 ⟨δ, h⟩
  simp only at h2
  rw [show ((128 : Nat) : Int) = 128 from rfl] at h1
  rw [h1, h2]
/-- a part that has room, or none -/
theorem part_math {f b P : Nat} (hP : P < 128) (hf : f < 18446744073709551616) (hfb : b < 64 → f < 2 ^ b) {σ φ ρ : Nat} (hσ : σ = P * 2 ^ min b 64 % 18446744073709551616) (hφ : φ = f ||| σ) (hρ : ρ = φ / 2 ^ min b 64) :
    φ < 18446744073709551616 ∧ (P * 2 ^ b < 18446744073709551616 → φ = f + P * 2 ^ b ∧ ρ = P ∧ (b + 7 < 64 → φ < 2 ^ (b + 7))) ∧ (18446744073709551616 ≤ P * 2 ^ b → ρ ≠ P) := by
  have hs : σ < 2 ^ 64 := by rw [hσ]; exact Nat.mod_lt _ (by decide)
  have h0 : φ < 2 ^ 64 := by rw [hφ]; exact Nat.or_lt_two_pow hf hs
  rcases Nat.lt_or_ge b 64 with hb | hb
  · have hm : min b 64 = b := Nat.min_eq_left (by omega)
    rw [hm] at hσ hρ
    have hf2 := hfb hb
    have hp := Nat.two_pow_pos b
    refine ⟨h0, fun h => ?_, fun h => ?_⟩
    · have e1 : σ = P * 2 ^ b := by rw [hσ, Nat.mod_eq_of_lt h]
      have e2 : φ = f + P * 2 ^ b := by
        rw [hφ, e1, Nat.mul_comm P, Nat.or_comm, ← Nat.two_pow_add_eq_or_of_lt hf2]; omega
      refine ⟨e2, ?_, fun _ => ?_⟩
      · rw [hρ, e2, Nat.add_mul_div_right _ _ hp, Nat.div_eq_of_lt hf2, Nat.zero_add]
      · have e3 : 2 ^ (b + 7) = 128 * 2 ^ b := by rw [Nat.pow_add, Nat.mul_comm]
        have e4 : (P + 1) * 2 ^ b ≤ 128 * 2 ^ b := Nat.mul_le_mul_right _ hP
        rw [Nat.add_mul, Nat.one_mul] at e4
        omega
    · have e1 : (18446744073709551616 : Nat) = 2 ^ (64 - b) * 2 ^ b := by rw [← Nat.pow_add, Nat.sub_add_cancel (by omega)]
      have e2 : 2 ^ (64 - b) ≤ P := by
        rw [e1] at h
        exact Nat.le_of_mul_le_mul_right h hp
      have e3 : ρ < 2 ^ (64 - b) := by
        rw [hρ, Nat.div_lt_iff_lt_mul hp, ← e1]
        exact h0
      omega
  · have hm : min b 64 = 64 := Nat.min_eq_right hb
    rw [hm] at hσ hρ
    have hs0 : σ = 0 := by rw [hσ]; exact Nat.mul_mod_left P _
    have hr0 : ρ = 0 := by rw [hρ]; exact Nat.div_eq_of_lt h0
    have hp : 2 ^ 64 ≤ 2 ^ b := Nat.pow_le_pow_right (by omega) hb
    refine ⟨h0, fun h => ?_, fun h => ?_⟩
    · have hP0 : P = 0 := by
        rcases Nat.eq_zero_or_pos P with h1 | h1
        · exact h1
        · have := Nat.mul_le_mul_right (2 ^ b) h1
          omega
      subst hP0
      refine ⟨by rw [hφ, hs0]; simp, hr0, fun h => by omega⟩
    · intro e
      rw [hr0] at e
      rw [← e, Nat.zero_mul] at h
      omega
theorem shl_form (P b σ : Nat) (hσ : σ = P * 2 ^ min b 64 % 18446744073709551616) : IntKind.u64.wrap ((P : Int) * 2 ^ min b 64) = (σ : Int) := by
  rw [IntKind.wrap_u64, hσ, Int.natCast_emod, Int.natCast_mul, Int.natCast_pow]
  rfl
theorem shr_form (φ b ρ : Nat) (hρ : ρ = φ / 2 ^ min b 64) : (φ : Int) / 2 ^ min b 64 = (ρ : Int) := by
  rw [hρ, Int.natCast_ediv, Int.natCast_pow]
  rfl
theorem Rd.still {w0 w : World} {R : Nat} {t : List UInt8} (h : Rd w0 R (some t) w) : Rd w0 R (some t) (w.setCell ⟨R, 1, none⟩ (.bool false)) := by
  obtain ⟨v, l, h1, h2⟩ := h.box
  exact ⟨h.below.setCell (p := ⟨R, 1, none⟩) h.low _, h.low, v, l, set_heap h1 1 _, h2⟩
theorem rdF_bad {c : UInt8} {t : List UInt8} {b f : Nat} (h : 18446744073709551616 ≤ c.toNat % 128 * 2 ^ b) : rdF (c :: t) b f = none := by unfold rdF; rw [if_pos h]
theorem rdF_vain {c : UInt8} {t : List UInt8} {b f : Nat} (h : c.toNat % 128 * 2 ^ b < 18446744073709551616) (h2 : c.toNat = 0) (h3 : 0 < b) : rdF (c :: t) b f = none := by unfold rdF; rw [if_neg (by omega), if_pos ⟨h2, h3⟩]
theorem rdF_last {c : UInt8} {t : List UInt8} {b f : Nat} (h : c.toNat % 128 * 2 ^ b < 18446744073709551616) (h2 : c.toNat ≠ 0 ∨ b = 0) (h3 : c.toNat < 128) : rdF (c :: t) b f = some (f + c.toNat % 128 * 2 ^ b, t) := by unfold rdF; rw [if_neg (by omega), if_neg (by omega), if_neg (by omega)]
theorem rdF_more {c : UInt8} {t : List UInt8} {b f : Nat} (h : c.toNat % 128 * 2 ^ b < 18446744073709551616) (h3 : 128 ≤ c.toNat) : rdF (c :: t) b f = rdF t (b + 7) (f + c.toNat % 128 * 2 ^ b) := by
  conv => lhs; unfold rdF
  rw [if_neg (by omega), if_neg (by omega), if_pos h3]
set_option maxHeartbeats 16000000 in
set_option maxRecDepth 100000 in
theorem number_core (w0 : World) (R : Nat) (s : St) (n0 : Nat) (w : World) (hn : n0 ≤ 1000000) (hs : NumJ (rdD s) n0 0 128 0 w0 R w) :
    Calls Try.prog 52 #[.pointer (some ⟨R, 0, none⟩)] w fun e w' => e = .returned (.int .i64 (num s).1) ∧ Rd w0 R (num s).2 w' ∧ Sm R w w' := by
  have HS := Lib.hid hs
  have HN := Lib.hid hn
  rw [num_D]
  obtain ⟨D, hD⟩ : ∃ D, D = rdD s := ⟨_, rfl⟩
  rw [← hD] at HS ⊢
  clear hs hn hD
  go_enter Try.func52, Try.ntmps52
  go_wp2_with fail
  go_loopw [3, 4, 5] (fun x y z wr => ∃ f γ b : Nat, x = .int .u64 (f : Int) ∧ y = .int .u8 (γ : Int) ∧ z = .int .i64 (b : Int) ∧ f < 18446744073709551616 ∧ γ < 256 ∧ b ≤ 7 * (n0 + 1) ∧ Hid (NumJ D n0 f γ b w0 R wr) ∧ Hid (Sm R w wr)) (fun _ _ z _ => match z with | .int _ q => 7 * (n0 + 2) - q.toNat | _ => 0)
  case atStart => exact ⟨0, 128, 0, rfl, rfl, rfl, by omega, by omega, by omega, HS, Lib.hid (Sm.refl _ _)⟩
  case round =>
    obtain ⟨f, γ, b, rfl, rfl, rfl, hf, hγ, hb, hJ, hS⟩ := hrel
    have f1 : (f : Int) ≤ 18446744073709551615 := by omega
    have g1 : (γ : Int) ≤ 255 := by omega
    have b1 : (b : Int) ≤ 7000007 := by have := HN.out; omega
    rcases hJ.out with ⟨hD, hR⟩ | ⟨t, hg, hD, hR⟩ | ⟨t, hg, hD, hbt, hfb, hR⟩
    · subst hD
      obtain ⟨v, c0, c1, k0, k1⟩ := rd_cells hR
      simp only [lostB] at c1
      have HR := Lib.hid hR
      clear hJ hR
      rcases Nat.lt_or_ge γ 128 with hg | hg
      · have q1 : decide ((128 : Int) ≤ (γ : Int)) = false := decide_eq_false (by omega)
        go_wp2_with fail
        go_ret
        exact ⟨rfl, HR.out, hS.out⟩
      · have q1 : decide ((128 : Int) ≤ (γ : Int)) = true := decide_eq_true (by omega)
        go_wp2_with fail
        go_ret
        exact ⟨rfl, HR.out, hS.out⟩
    · subst hD
      obtain ⟨v, c0, c1, k0, k1⟩ := rd_cells hR
      simp only [lostB] at c1
      have HR := Lib.hid hR
      have q1 : decide ((128 : Int) ≤ (γ : Int)) = false := decide_eq_false (by omega)
      have y1 := Lib.u64_and1 (f : Int) (by omega) (by omega)
      obtain ⟨h, hh⟩ : ∃ h, h = f / 2 := ⟨_, rfl⟩
      have y2 : (f : Int) / 2 = (h : Int) := by omega
      have y3 : (h : Int) ≤ 9223372036854775807 := by omega
      have y4 := Lib.i64_not h (by omega)
      clear hJ hR
      rcases Nat.mod_two_eq_zero_or_one f with hm | hm
      · have y5 : (f : Int) % 2 = 0 := by omega
        have hu : Hid (unfold f = (h : Int)) := Lib.hid (by unfold unfold; rw [if_pos hm, hh])
        clear hh hm
        go_wp2_with fail
        go_ret
        refine ⟨?_, HR.out, hS.out⟩
        show _ = Ending.returned (Value.int .i64 (unfold f))
        rw [hu.out]
        rfl
      · have y5 : (f : Int) % 2 = 1 := by omega
        have hu : Hid (unfold f = -(h : Int) - 1) := Lib.hid (by unfold unfold; rw [if_neg (by omega), hh])
        clear hh hm
        go_wp2_with fail
        go_ret
        refine ⟨?_, HR.out, hS.out⟩
        show _ = Ending.returned (Value.int .i64 (unfold f))
        rw [hu.out]
        rfl
    · have q1 : decide ((128 : Int) ≤ (γ : Int)) = true := decide_eq_true (by omega)
      obtain ⟨v, c0, c1, k0, k1⟩ := rd_cells hR
      simp only [lostB] at c1
      have OC := Lib.hid (octet_any w0 R (some t) wr hR)
      obtain ⟨δ, hδ⟩ : ∃ δ, δ = (oct (some t)).1.toNat := ⟨_, rfl⟩
      rw [← hδ] at OC
      have d1 : (δ : Int) ≤ 255 := by have := ((oct (some t)).1).toNat_lt; omega
      obtain ⟨P, hP⟩ : ∃ P, P = δ % 128 := ⟨_, rfl⟩
      obtain ⟨σ, hσ⟩ : ∃ σ, σ = P * 2 ^ min b 64 % 18446744073709551616 := ⟨_, rfl⟩
      obtain ⟨φ, hφ⟩ : ∃ φ, φ = f ||| σ := ⟨_, rfl⟩
      obtain ⟨ρ, hρ⟩ : ∃ ρ, ρ = φ / 2 ^ min b 64 := ⟨_, rfl⟩
      have PM := Lib.hid (part_math (P := P) (by omega) hf hfb hσ hφ hρ)
      have x1 : IntKind.u64.wrap (bits BinOp.andNot IntKind.u8 (δ : Int) 128) = (P : Int) := by rw [part_byte (by omega), ← hP, IntKind.wrap_u64]; omega
      have x2 := shl_form P b σ hσ
      have x3 : bits BinOp.or IntKind.u64 (f : Int) (σ : Int) = (φ : Int) := by rw [u64_or_nat f σ hf (by rw [hσ]; exact Nat.mod_lt _ (by decide)), hφ]
      have x4 := shr_form φ b ρ hρ
      have p1 : (P : Int) ≤ 127 := by omega
      have HP := Lib.hid hP
      have HB : Hid (b + 7 * t.length = 7 * n0) := Lib.hid hbt
      have HDE := Lib.hid hδ
      have HD := Lib.hid hD
      clear hR hJ hP hσ hφ hρ hδ hD hfb hbt
      rcases t with _ | ⟨c, t⟩
      · obtain rfl : δ = 0 := HDE.out
        have x0 : IntKind.u64.wrap (bits BinOp.andNot IntKind.u8 0 128) = (P : Int) := x1
        have OC2 : Hid (Calls Try.prog 53 #[.pointer (some ⟨R, 0, none⟩)] wr fun e w' => e = .returned (.int .u8 0) ∧ Rd w0 R none w' ∧ Sm R wr w') := OC
        have HDN : Hid (D = none) := Lib.hid (HD.out.trans rfl)
        clear OC x1
        by_cases hb0 : 0 < b
        · go_wp2_with (go_at_call 53; (with_reducible refine OC2.out.mono ?_); rintro e w1 ⟨rfl, hR1, hS1⟩; obtain ⟨v1, e0, e1, k2, k3⟩ := rd_cells hR1; simp only [lostB] at e1; have HR1 := Lib.hid hR1; have HS1 := Lib.hid hS1; clear hR1 hS1)
          all_goals exact ⟨⟨φ, 0, b + 7, rfl, rfl, rfl, PM.out.1, by omega, by have := HB.out; omega, Lib.hid (.inl ⟨HDN.out, HR1.out.lose⟩), Lib.hid ((hS.out.trans HS1.out).trans (Sm.set _ _ _ _))⟩, by simp; omega⟩
        · rw [show min b 64 = b by omega] at x2 x4
          go_wp2_with (go_at_call 53; (with_reducible refine OC2.out.mono ?_); rintro e w1 ⟨rfl, hR1, hS1⟩; obtain ⟨v1, e0, e1, k2, k3⟩ := rd_cells hR1; simp only [lostB] at e1; have HR1 := Lib.hid hR1; have HS1 := Lib.hid hS1; clear hR1 hS1)
          all_goals exact ⟨⟨φ, 0, b + 7, rfl, rfl, rfl, PM.out.1, by omega, by have := HB.out; omega, Lib.hid (.inl ⟨HDN.out, HR1.out.lose⟩), Lib.hid ((hS.out.trans HS1.out).trans (Sm.set _ _ _ _))⟩, by simp; omega⟩
      · have OC2 : Hid (Calls Try.prog 53 #[.pointer (some ⟨R, 0, none⟩)] wr fun e w' => e = .returned (.int .u8 (δ : Int)) ∧ Rd w0 R (some t) w' ∧ Sm R wr w') := OC
        have hde : δ = c.toNat := HDE.out
        have hpe : P = c.toNat % 128 := by rw [← hde]; exact HP.out
        have HPE := Lib.hid hpe
        have HDD := Lib.hid hde
        have hb7 : b + 7 + 7 * t.length = 7 * n0 := by have := HB.out; simp only [List.length_cons] at this; omega
        have HB7 := Lib.hid hb7
        clear OC HDE hb7 hde hpe
        rcases Nat.lt_or_ge (P * 2 ^ b) 18446744073709551616 with hok | hbad
        · obtain ⟨m1, m2, m3⟩ := PM.out.2.1 hok
          have x5 : (φ : Int) / 2 ^ min b 64 = (P : Int) := by rw [x4, m2]
          have HM := Lib.hid (And.intro m1 m3)
          have HOK : Hid (c.toNat % 128 * 2 ^ b < 18446744073709551616) := Lib.hid (by rw [← HPE.out]; exact hok)
          clear m1 m2 m3 hok x4
          by_cases hd0 : δ = 0
          · subst hd0
            have x0 : IntKind.u64.wrap (bits BinOp.andNot IntKind.u8 0 128) = (P : Int) := x1
            have OC3 : Hid (Calls Try.prog 53 #[.pointer (some ⟨R, 0, none⟩)] wr fun e w' => e = .returned (.int .u8 0) ∧ Rd w0 R (some t) w' ∧ Sm R wr w') := OC2
            clear OC2 x1
            by_cases hb0 : 0 < b
            · have HDN : Hid (D = none) := Lib.hid (HD.out.trans (rdF_vain HOK.out HDD.out.symm hb0))
              go_wp2_with (go_at_call 53; (with_reducible refine OC3.out.mono ?_); rintro e w1 ⟨rfl, hR1, hS1⟩; obtain ⟨v1, e0, e1, k2, k3⟩ := rd_cells hR1; simp only [lostB] at e1; have HR1 := Lib.hid hR1; have HS1 := Lib.hid hS1; clear hR1 hS1)
              all_goals exact ⟨⟨φ, 0, b + 7, rfl, rfl, rfl, PM.out.1, by omega, by have := HB7.out; omega, Lib.hid (.inl ⟨HDN.out, HR1.out.lose⟩), Lib.hid ((hS.out.trans HS1.out).trans (Sm.set _ _ _ _))⟩, by simp; omega⟩
            · have HDL : Hid (0 < 128 ∧ D = some (φ, t)) := Lib.hid ⟨by omega, HD.out.trans (by rw [rdF_last HOK.out (.inr (by omega)) (by rw [← HDD.out]; omega), HM.out.1, HPE.out])⟩
              rw [show min b 64 = b by omega] at x2 x5
              go_wp2_with (go_at_call 53; (with_reducible refine OC3.out.mono ?_); rintro e w1 ⟨rfl, hR1, hS1⟩; obtain ⟨v1, e0, e1, k2, k3⟩ := rd_cells hR1; simp only [lostB] at e1; have HR1 := Lib.hid hR1; have HS1 := Lib.hid hS1; clear hR1 hS1)
              all_goals exact ⟨⟨φ, 0, b + 7, rfl, rfl, rfl, PM.out.1, by omega, by have := HB7.out; omega, Lib.hid (.inr (.inl ⟨t, HDL.out.1, HDL.out.2, HR1.out.still⟩)), Lib.hid ((hS.out.trans HS1.out).trans (Sm.set _ _ _ _))⟩, by simp; omega⟩
          · rcases Nat.lt_or_ge δ 128 with hd1 | hd1
            · have HDL : Hid (δ < 128 ∧ D = some (φ, t)) := Lib.hid ⟨hd1, HD.out.trans (by rw [rdF_last HOK.out (.inl (by rw [← HDD.out]; exact hd0)) (by rw [← HDD.out]; omega), HM.out.1, HPE.out])⟩
              clear hd1
              go_wp2_with (go_at_call 53; (with_reducible refine OC2.out.mono ?_); rintro e w1 ⟨rfl, hR1, hS1⟩; obtain ⟨v1, e0, e1, k2, k3⟩ := rd_cells hR1; simp only [lostB] at e1; have HR1 := Lib.hid hR1; have HS1 := Lib.hid hS1; clear hR1 hS1)
              all_goals exact ⟨⟨φ, δ, b + 7, rfl, rfl, rfl, PM.out.1, by omega, by have := HB7.out; omega, Lib.hid (.inr (.inl ⟨t, HDL.out.1, HDL.out.2, HR1.out.still⟩)), Lib.hid ((hS.out.trans HS1.out).trans (Sm.set _ _ _ _))⟩, by simp; omega⟩
            · have HDL : Hid (128 ≤ δ ∧ D = rdF t (b + 7) φ) := Lib.hid ⟨hd1, HD.out.trans (by rw [rdF_more HOK.out (by rw [← HDD.out]; exact hd1), HM.out.1, HPE.out])⟩
              clear hd1
              go_wp2_with (go_at_call 53; (with_reducible refine OC2.out.mono ?_); rintro e w1 ⟨rfl, hR1, hS1⟩; obtain ⟨v1, e0, e1, k2, k3⟩ := rd_cells hR1; simp only [lostB] at e1; have HR1 := Lib.hid hR1; have HS1 := Lib.hid hS1; clear hR1 hS1)
              all_goals exact ⟨⟨φ, δ, b + 7, rfl, rfl, rfl, PM.out.1, by omega, by have := HB7.out; omega, Lib.hid (.inr (.inr ⟨t, HDL.out.1, HDL.out.2, HB7.out, HM.out.2, HR1.out.still⟩)), Lib.hid ((hS.out.trans HS1.out).trans (Sm.set _ _ _ _))⟩, by simp; omega⟩
        · have hne : ¬ ρ = P := PM.out.2.2 hbad
          have HDN : Hid (D = none) := Lib.hid (HD.out.trans (rdF_bad (by rw [← HPE.out]; exact hbad)))
          clear hbad
          by_cases hd0 : δ = 0
          · subst hd0
            have x0 : IntKind.u64.wrap (bits BinOp.andNot IntKind.u8 0 128) = (P : Int) := x1
            have OC3 : Hid (Calls Try.prog 53 #[.pointer (some ⟨R, 0, none⟩)] wr fun e w' => e = .returned (.int .u8 0) ∧ Rd w0 R (some t) w' ∧ Sm R wr w') := OC2
            clear OC2 x1
            by_cases hb0 : 0 < b
            · go_wp2_with (go_at_call 53; (with_reducible refine OC3.out.mono ?_); rintro e w1 ⟨rfl, hR1, hS1⟩; obtain ⟨v1, e0, e1, k2, k3⟩ := rd_cells hR1; simp only [lostB] at e1; have HR1 := Lib.hid hR1; have HS1 := Lib.hid hS1; clear hR1 hS1)
              all_goals exact ⟨⟨φ, 0, b + 7, rfl, rfl, rfl, PM.out.1, by omega, by have := HB7.out; omega, Lib.hid (.inl ⟨HDN.out, HR1.out.lose⟩), Lib.hid ((hS.out.trans HS1.out).trans (Sm.set _ _ _ _))⟩, by simp; omega⟩
            · rw [show min b 64 = b by omega] at x2 x4
              go_wp2_with (go_at_call 53; (with_reducible refine OC3.out.mono ?_); rintro e w1 ⟨rfl, hR1, hS1⟩; obtain ⟨v1, e0, e1, k2, k3⟩ := rd_cells hR1; simp only [lostB] at e1; have HR1 := Lib.hid hR1; have HS1 := Lib.hid hS1; clear hR1 hS1)
              all_goals exact ⟨⟨φ, 0, b + 7, rfl, rfl, rfl, PM.out.1, by omega, by have := HB7.out; omega, Lib.hid (.inl ⟨HDN.out, HR1.out.lose⟩), Lib.hid ((hS.out.trans HS1.out).trans (Sm.set _ _ _ _))⟩, by simp; omega⟩
          · go_wp2_with (go_at_call 53; (with_reducible refine OC2.out.mono ?_); rintro e w1 ⟨rfl, hR1, hS1⟩; obtain ⟨v1, e0, e1, k2, k3⟩ := rd_cells hR1; simp only [lostB] at e1; have HR1 := Lib.hid hR1; have HS1 := Lib.hid hS1; clear hR1 hS1)
            all_goals exact ⟨⟨φ, δ, b + 7, rfl, rfl, rfl, PM.out.1, by omega, by have := HB7.out; omega, Lib.hid (.inl ⟨HDN.out, HR1.out.lose⟩), Lib.hid ((hS.out.trans HS1.out).trans (Sm.set _ _ _ _))⟩, by simp; omega⟩
theorem number_any (w0 : World) (R : Nat) (s : St) (w : World) (h : Rd w0 R s w) :
    Calls Try.prog 52 #[.pointer (some ⟨R, 0, none⟩)] w fun e w' => e = .returned (.int .i64 (num s).1) ∧ Rd w0 R (num s).2 w' ∧ Sm R w w' := by
  cases s with
  | none => exact number_core w0 R none 0 w (by omega) (.inl ⟨rfl, h⟩)
  | some l =>
    obtain ⟨v, l', _, _, h3, h4⟩ := h.box
    obtain rfl : l = l' := by rcases h4 with h4 | h4 <;> cases h4; rfl
    exact number_core w0 R (some l) l.length w h3 (.inr (.inr ⟨l, by omega, rfl, by omega, fun _ => by decide, h⟩))
end Go.Proofs.Ytodblepbedhnnaa
