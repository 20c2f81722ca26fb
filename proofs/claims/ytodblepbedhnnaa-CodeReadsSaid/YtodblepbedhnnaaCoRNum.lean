/- The reference's reader: one number, walked. -/
import Derived.Test.YtodblepbedhnnaaCoRRd
namespace Go.Proofs.Ytodblepbedhnnaa
open Go.RowKit Co

attribute [local go_sem] Oper.semAt_some

/-- the value of a call that reads: the reader is this far, other blocks are as they were -/
def RRPost (w0 : World) (R : Nat) (s : Value) (bad : Bool) (w : World) (N : Int → Nat → Bool → Prop) (e : Ending) (w' : World) : Prop := ∃ v q bd, e = .returned (.int .i64 v) ∧ N v q bd ∧ RR w0 R s q (bad || bd) w' ∧ Sm R w w'
set_option maxHeartbeats 8000000 in
set_option maxRecDepth 100000 in
theorem rrnum_any (w0 : World) (R p : Nat) (s : Value) (B : List UInt8) (bad : Bool) (hs : BytesAt w0 s B) (hl : B.length ≤ 1000000) (hp : p ≤ 1000000) (w : World) (h : RR w0 R s p bad w) :
    Calls Try.prog 33 #[.pointer (some ⟨R, 0, none⟩)] w fun e w' => RRPost w0 R s bad w (NumR B p) e w' := by
  obtain ⟨o, cap, b, off, rfl, _, _, e1, c1⟩ := hs
  obtain ⟨n, hn⟩ : ∃ n, n = B.length := ⟨_, rfl⟩
  rw [← hn] at e1 c1 hl h ⊢
  have HN := Lib.hid hn
  have E1 := Lib.hid e1
  have C1 := Lib.hid c1
  have H := Lib.hid h
  have hnl : (n : Int) ≤ 1000000 := by omega
  have hpl : Hid (p ≤ 1000000) := Lib.hid hp
  clear hn e1 c1 hl h hp
  go_enter Try.func33, Try.ntmps33
  go_wp2_with fail
  go_loopw [3, 4, 5] (fun u m k wr => ∃ (c U P : Nat), u = .int .u64 (U : Int) ∧ m = .int .u64 (P : Int) ∧ k = .int .i64 (c : Int) ∧ c ≤ 10 ∧ Hid (RNum B p U c ∧ (p ≤ B.length → p + c ≤ B.length) ∧ P = 128 ^ c % 18446744073709551616) ∧ Hid (RR w0 R (.slice o n cap) (p + c) bad wr ∧ Sm R w wr)) (fun _ _ k _ => 10 - litLen k)
  case atStart => exact ⟨0, 0, 1, rfl, rfl, rfl, Nat.zero_le _, Lib.hid ⟨rn_start B p, fun h => h, rfl⟩, Lib.hid ⟨H.out, Sm.refl _ _⟩⟩
  case round =>
    obtain ⟨c, U, P, rfl, rfl, rfl, hc, hM, hR⟩ := hrel
    obtain ⟨⟨z0, z1, z2⟩, f0, f1, f2⟩ := rr_cells hR.out.1
    rcases Nat.lt_or_ge c 10 with hlt | hge
    · have hcl : (c : Int) < 10 := by omega
      obtain ⟨q, hq⟩ : ∃ q, q = p + c := ⟨_, rfl⟩
      rw [← hq] at z1
      have ql : (q : Int) ≤ 1000010 := by have := hpl.out; omega
      have HQ := Lib.hid hq
      clear hq
      rcases Nat.lt_or_ge q n with hqn | hqn
      · have hqi : (q : Int) < (n : Int) := by omega
        have hqj : ¬ ((n : Int) ≤ (q : Int)) := by omega
        obtain ⟨x, hx⟩ : ∃ x, B[q]? = some x := ⟨_, List.getElem?_eq_getElem (by rw [← HN.out]; exact hqn)⟩
        have r1 := cell_on hR.out.1.below (C1.out q hqn x hx)
        rw [Nat.mul_one] at r1
        have ix1 := ix_bytes (cap := cap) E1.out hqn (by omega)
        unfold Ix at ix1
        rw [Nat.mul_one] at ix1
        obtain ⟨γ, hγ⟩ : ∃ γ, γ = x.toNat := ⟨_, rfl⟩
        rw [← hγ] at r1
        have γl : γ < 256 := by rw [hγ]; exact x.toNat_lt
        obtain ⟨δ, hδ⟩ : ∃ δ, δ = γ % 128 := ⟨_, rfl⟩
        obtain ⟨K, hK⟩ : ∃ K, K = δ * P % 18446744073709551616 := ⟨_, rfl⟩
        obtain ⟨V, hV⟩ : ∃ V, V = (U + K) % 18446744073709551616 := ⟨_, rfl⟩
        obtain ⟨P2, hP2⟩ : ∃ P2, P2 = P * 128 % 18446744073709551616 := ⟨_, rfl⟩
        have hst := rn_step (u' := V) hM.out.1 (by rw [← HQ.out]; exact hx) (by rw [hV, hK, hδ, hγ, hM.out.2.2])
        rw [← hγ, ← HQ.out] at hst
        have HST := Lib.hid hst
        have HP2 : Hid (P2 = 128 ^ (c + 1) % 18446744073709551616) := Lib.hid (by rw [hP2, hM.out.2.2, Nat.mod_mul_mod, Nat.pow_succ])
        have hPl : P < 18446744073709551616 := by rw [hM.out.2.2]; exact Nat.mod_lt _ (by omega)
        have x0 : (γ : Int) % 128 = (δ : Int) := by omega
        have x1 : IntKind.u64.wrap ((δ : Int) * (P : Int)) = (K : Int) := by rw [IntKind.wrap_u64, hK, Int.natCast_emod, Int.natCast_mul]; rfl
        have x2 : IntKind.u64.wrap ((U : Int) + (K : Int)) = (V : Int) := by rw [IntKind.wrap_u64, hV, Int.natCast_emod, Int.natCast_add]; rfl
        have x3 : IntKind.u64.wrap ((P : Int) * 128) = (P2 : Int) := by rw [IntKind.wrap_u64, hP2, Int.natCast_emod, Int.natCast_mul]; rfl
        have hVl : V < 18446744073709551616 := by rw [hV]; exact Nat.mod_lt _ (by omega)
        have y0 : (γ : Int) ≤ 255 := by omega
        have y1 : (δ : Int) ≤ 127 := by omega
        have y2 : (P : Int) ≤ 18446744073709551615 := by omega
        have y3 : (V : Int) ≤ 18446744073709551615 := by omega
        obtain ⟨h2, hh2⟩ : ∃ h, h = V / 2 := ⟨_, rfl⟩
        have y4 : (h2 : Int) ≤ 9223372036854775807 := by omega
        have y5 : (V : Int).tdiv 2 = (h2 : Int) := by rw [Int.tdiv_eq_ediv_of_nonneg (by omega)]; omega
        have HUN : Hid ((V % 2 = 0 → unfold V = (h2 : Int)) ∧ (V % 2 ≠ 0 → unfold V = -(h2 : Int) - 1)) := Lib.hid ⟨fun h => by unfold unfold; rw [if_pos h, hh2], fun h => by unfold unfold; rw [if_neg h, hh2]⟩
        have HRD : Hid (RR w0 R (.slice o n cap) (q + 1) bad (wr.setCell ⟨R, 1, none⟩ (.int .i64 ((q : Int) + 1))).drew.drew) := Lib.hid (hR.out.1.at_ (q + 1)).drew.drew
        have HRS : Hid (Sm R w (wr.setCell ⟨R, 1, none⟩ (.int .i64 ((q : Int) + 1))).drew.drew) := Lib.hid ((hR.out.2.trans (Sm.set R 1 wr _)).trans ⟨Nat.le_refl _, fun _ _ _ => rfl⟩)
        clear hx hγ hδ hK hV hP2 hst hPl hVl hh2 hR
        rcases Nat.lt_or_ge γ 128 with hg | hg
        · have hgi : (γ : Int) < 128 := by omega
          rcases Nat.mod_two_eq_zero_or_one V with hv | hv
          · have e2 : (V : Int) % 2 = 0 := by omega
            go_wp2_with fail
            go_region_held3 (fun w' => w'.cell? ⟨R, 0, none⟩ = some (.slice o n cap) ∧ w'.cell? ⟨R, 1, none⟩ = some (.int .i64 (q : Int)))
              (first | exact ⟨z0, z1⟩)
              (first | fail)
            all_goals (go_wp2_with fail)
            go_region_held3 (fun w' => w'.cell? ⟨R, 0, none⟩ = some (.slice o n cap) ∧ w'.cell? ⟨R, 1, none⟩ = some (.int .i64 (q : Int)) ∧ w'.cell? ⟨b, off + q, none⟩ = some (.int .u8 (γ : Int)))
              (first | exact ⟨z0, z1, r1⟩)
              (first | fail)
            all_goals (go_wp2_with fail)
            go_ret
            have hN := HST.out.1 hg
            rw [HUN.out.1 hv] at hN
            exact ⟨(h2 : Int), q + 1, false, rfl, hN, by rw [Bool.or_false]; exact HRD.out, HRS.out⟩
          · have e2 : (V : Int) % 2 = 1 := by omega
            go_wp2_with fail
            go_region_held3 (fun w' => w'.cell? ⟨R, 0, none⟩ = some (.slice o n cap) ∧ w'.cell? ⟨R, 1, none⟩ = some (.int .i64 (q : Int)))
              (first | exact ⟨z0, z1⟩)
              (first | fail)
            all_goals (go_wp2_with fail)
            go_region_held3 (fun w' => w'.cell? ⟨R, 0, none⟩ = some (.slice o n cap) ∧ w'.cell? ⟨R, 1, none⟩ = some (.int .i64 (q : Int)) ∧ w'.cell? ⟨b, off + q, none⟩ = some (.int .u8 (γ : Int)))
              (first | exact ⟨z0, z1, r1⟩)
              (first | fail)
            all_goals (go_wp2_with fail)
            go_ret
            have hN := HST.out.1 hg
            rw [HUN.out.2 (by omega)] at hN
            exact ⟨-(h2 : Int) - 1, q + 1, false, rfl, hN, by rw [Bool.or_false]; exact HRD.out, HRS.out⟩
        · have hgi : ¬ (γ : Int) < 128 := by omega
          have HEND : Hid (RR w0 R (.slice o n cap) (p + (c + 1)) bad (wr.setCell ⟨R, 1, none⟩ (.int .i64 ((q : Int) + 1))).drew.drew) := Lib.hid (by have h := HRD.out; rw [HQ.out] at h; rw [HQ.out, ← Nat.add_assoc]; exact h)
          have HLE : Hid (p ≤ B.length → p + (c + 1) ≤ B.length) := Lib.hid fun _ => by have := HN.out; have := HQ.out; omega
          go_wp2_with fail
          go_region_held3 (fun w' => w'.cell? ⟨R, 0, none⟩ = some (.slice o n cap) ∧ w'.cell? ⟨R, 1, none⟩ = some (.int .i64 (q : Int)))
            (first | exact ⟨z0, z1⟩)
            (first | fail)
          all_goals (go_wp2_with fail)
          go_region_held3 (fun w' => w'.cell? ⟨R, 0, none⟩ = some (.slice o n cap) ∧ w'.cell? ⟨R, 1, none⟩ = some (.int .i64 (q : Int)) ∧ w'.cell? ⟨b, off + q, none⟩ = some (.int .u8 (γ : Int)))
            (first | exact ⟨z0, z1, r1⟩)
            (first | fail)
          all_goals (go_wp2_with fail)
          exact ⟨⟨c + 1, V, P2, rfl, rfl, by go_num, by omega, Lib.hid ⟨HST.out.2 hg, HLE.out, HP2.out⟩, Lib.hid ⟨HEND.out, HRS.out⟩⟩, by simp [litLen]; omega⟩
      · have hlq : (n : Int) ≤ (q : Int) := by omega
        have HRD := Lib.hid hR.out.1.spoil.drew
        have HRS : Hid (Sm R w (wr.setCell ⟨R, 2, none⟩ (.bool true)).drew) := Lib.hid ((hR.out.2.trans (Sm.set R 2 wr _)).trans ⟨Nat.le_refl _, fun _ _ _ => rfl⟩)
        go_wp2_with fail
        go_region_held3 (fun w' => w'.cell? ⟨R, 0, none⟩ = some (.slice o n cap) ∧ w'.cell? ⟨R, 1, none⟩ = some (.int .i64 (q : Int)))
          (first | exact ⟨z0, z1⟩)
          (first | fail)
        all_goals (go_wp2_with fail)
        go_ret
        refine ⟨0, p + c, true, rfl, rn_lost hM.out.1 hM.out.2.1 (.inl (by rw [← HN.out, ← HQ.out]; exact hqn)), ?_, HRS.out⟩
        rw [Bool.or_true]
        exact HRD.out
    · obtain rfl : c = 10 := by omega
      have HRD := Lib.hid hR.out.1.spoil
      have HRS : Hid (Sm R w (wr.setCell ⟨R, 2, none⟩ (.bool true))) := Lib.hid (hR.out.2.trans (Sm.set R 2 wr _))
      go_wp2_with fail
      go_ret
      refine ⟨0, p + 10, true, rfl, rn_lost hM.out.1 hM.out.2.1 (.inr (Nat.le_refl _)), ?_, HRS.out⟩
      rw [Bool.or_true]
      exact HRD.out
end Go.Proofs.Ytodblepbedhnnaa
