/- The reference's reader: Took, Want, Name, enter. -/
import Derived.Test.YtnlbfdhhdnapnaaGreatRdSmall
namespace Go.Proofs.YtnlbfdhhdnapnaaGreat
open Go.RowKit Lx

/-- .. and what the next step asks of it -/
def IsRet (b a : Nat) (R : Bool) (W : World) (r : Ending) (Y : World) : Prop := r = .returned (.bool R) ∧ Below W.heap.size W Y ∧ Y.cell? ⟨b, 1, none⟩ = some (.int .i64 (a : Int)) ∧ Y.frozen? ⟨b, 1, none⟩ = false
set_option maxHeartbeats 4000000 in
theorem took_any (b g cap : Nat) (dv : Value) (ts : List Tok) (xb : Nat → Prop) (σ : RS) (s : List UInt8) (W : World) (h : Hid (Rd W b g cap dv ts xb σ)) :
    Calls Tryz.prog 77 #[.pointer (some ⟨b, 0, none⟩), .string (str s)] W fun r Y => RdRet b g cap dv ts xb W (.bool (isS ts s σ)) (tookS ts s σ) r Y := by
  have hI := is_any b g cap dv ts xb σ s W h
  obtain ⟨o, c, ⟨c0, c1, c3, c4, c5, c6, fr⟩, hx⟩ := h.out.cells
  have ht := h.out.tok
  have hgb : g ≠ b := by have := h.out.lt; omega
  have hl := h.out.at_
  have hn := h.out.len
  obtain ⟨t0, t1, t2, t3⟩ := ht
  obtain ⟨n, hnn⟩ : ∃ n, n = ts.length := ⟨_, rfl⟩
  obtain ⟨a, haa⟩ : ∃ a, a = σ.at_ := ⟨_, rfl⟩
  obtain ⟨cd, hcd⟩ : ∃ cd, cd = σ.code := ⟨_, rfl⟩
  obtain ⟨ps, hps⟩ : ∃ ps, ps = σ.pos := ⟨_, rfl⟩
  obtain ⟨dp, hdp⟩ : ∃ dp, dp = σ.deep := ⟨_, rfl⟩
  obtain ⟨kd, hkd⟩ : ∃ kd, kd = (tokL ts σ.at_).kind := ⟨_, rfl⟩
  obtain ⟨tx, htx⟩ : ∃ tx, tx = (tokL ts σ.at_).text := ⟨_, rfl⟩
  obtain ⟨tv, htv⟩ : ∃ tv, tv = (tokL ts σ.at_).v := ⟨_, rfl⟩
  obtain ⟨p, hp⟩ : ∃ p, p = (tokL ts σ.at_).at_ := ⟨_, rfl⟩
  rw [← hnn] at c0 hl hn
  rw [← hkd] at t0
  rw [← htx] at t1
  rw [← htv] at t2
  rw [← hp] at t3
  rw [← haa] at c1 t0 t1 t2 t3 hl
  rw [← hcd] at c5
  rw [← hdp] at c4
  rw [← hps] at c6
  have k0 : ((a : Nat) : Int) < (n : Int) := by omega
  have f1 := fr 1
  have f4 := fr 4
  have f5 := fr 5
  have f6 := fr 6
  have HCD := Lib.hid hcd
  have HPS := Lib.hid hps
  have HDP := Lib.hid hdp
  have HKD := Lib.hid hkd
  have HTX := Lib.hid htx
  have HTV := Lib.hid htv
  have HP := Lib.hid hp
  have HAA := Lib.hid haa
  have HNN := Lib.hid hnn
  clear fr hx hnn haa hcd hps hdp hkd htx htv hp c3
  have ha : (a : Int) ≤ 40000 := by omega
  have hbs : b < W.heap.size := h.out.size
  have C : Hid (Calls Tryz.prog 81 #[.pointer (some ⟨b, 0, none⟩), .string (str s)] W (IsRet b a (isS ts s σ) W)) := Lib.hid (hI.mono fun r Y hY => ⟨hY.1, hY.2, (hY.2.cell (p := ⟨b, 1, none⟩) hbs).trans c1, (hY.2.frozen (p := ⟨b, 1, none⟩) hbs).trans f1⟩)
  clear hI
  cases hR : isS ts s σ with
  | true =>
    rw [hR] at C
    have hk := (isS_kind hR).1
    have HT := Lib.hid (show tookS ts s σ = stepS σ by unfold tookS; rw [if_pos hR])
    clear hR
    go_enter Tryz.func77, Tryz.ntmps77
    go_wp2_with (go_at_call 81; (with_reducible refine C.out.mono ?_); rintro e w1 ⟨rfl, hb, y1, y2⟩; have HB := Lib.hid hb; clear hb)
    go_ret
    have h1 := h.out.below HB.out
    rw [HT.out]
    have h2 := h1.setAt hk
    rw [← HAA.out] at h2
    exact ⟨rfl, h2, (RK.of_below HB.out (Nat.le_of_lt hbs)).trans (RK.set 1 _)⟩
  | false =>
    rw [hR] at C
    have HT := Lib.hid (show tookS ts s σ = σ by unfold tookS; rw [hR]; rfl)
    clear hR
    go_enter Tryz.func77, Tryz.ntmps77
    go_wp2_with (go_at_call 81; (with_reducible refine C.out.mono ?_); rintro e w1 ⟨rfl, hb, y1, y2⟩; have HB := Lib.hid hb; clear hb)
    go_ret
    rw [HT.out]
    exact ⟨rfl, h.out.below HB.out, RK.of_below HB.out (Nat.le_of_lt hbs)⟩
set_option maxHeartbeats 4000000 in
theorem want_any (b g cap : Nat) (dv : Value) (ts : List Tok) (xb : Nat → Prop) (σ : RS) (s : List UInt8) (W : World) (h : Hid (Rd W b g cap dv ts xb σ)) :
    Calls Tryz.prog 78 #[.pointer (some ⟨b, 0, none⟩), .string (str s)] W fun r Y => RdRet b g cap dv ts xb W (.tuple #[]) (wantS ts s σ) r Y := by
  have C := Lib.hid (took_any b g cap dv ts xb σ s W h)
  cases hR : isS ts s σ with
  | true =>
    rw [hR] at C
    have HT := Lib.hid (show wantS ts s σ = tookS ts s σ by unfold tookS wantS; rw [if_pos hR, if_pos hR])
    clear hR
    go_enter Tryz.func78, Tryz.ntmps78
    go_wp2_with (go_at_call 77; (with_reducible refine C.out.mono ?_); rintro e w1 ⟨rfl, hr, hk⟩; have HR := Lib.hid hr; have HK := Lib.hid hk; clear hr hk)
    go_end0
    rw [HT.out]
    exact ⟨rfl, HR.out, HK.out⟩
  | false =>
    rw [hR] at C
    have HT := Lib.hid (show tookS ts s σ = σ by unfold tookS; rw [hR]; rfl)
    have HU := Lib.hid (show wantS ts s σ = failS ts 2 σ by unfold wantS; rw [hR]; rfl)
    rw [HT.out] at C
    clear hR
    go_enter Tryz.func78, Tryz.ntmps78
    go_wp2_with (first | (go_at_call 77; (with_reducible refine C.out.mono ?_); rintro e w1 ⟨rfl, hr, hk⟩; have HR := Lib.hid hr; have HK := Lib.hid hk; clear hr hk) | (go_at_call 51; (with_reducible refine (fail_any b g cap dv ts xb σ 2 w1 HR).mono ?_); rintro e w2 ⟨rfl, hr, hk⟩; have HR2 := Lib.hid hr; have HK2 := Lib.hid hk; clear hr hk))
    go_end0
    rw [HU.out]
    exact ⟨rfl, HR2.out, HK.out.trans HK2.out⟩
set_option maxHeartbeats 8000000 in
theorem name_any (b g cap : Nat) (dv : Value) (ts : List Tok) (xb : Nat → Prop) (σ : RS) (W : World) (h : Hid (Rd W b g cap dv ts xb σ)) :
    Calls Tryz.prog 82 #[.pointer (some ⟨b, 0, none⟩)] W fun r Y => RdRet b g cap dv ts xb W (.string (str (nameV ts σ))) (nameS ts σ) r Y := by
  have F := Lib.hid (fun W h => fail_any b g cap dv ts xb σ 2 W h)
  obtain ⟨o, c, ⟨c0, c1, c3, c4, c5, c6, fr⟩, hx⟩ := h.out.cells
  have ht := h.out.tok
  have hgb : g ≠ b := by have := h.out.lt; omega
  have hl := h.out.at_
  have hn := h.out.len
  obtain ⟨t0, t1, t2, t3⟩ := ht
  obtain ⟨n, hnn⟩ : ∃ n, n = ts.length := ⟨_, rfl⟩
  obtain ⟨a, haa⟩ : ∃ a, a = σ.at_ := ⟨_, rfl⟩
  obtain ⟨cd, hcd⟩ : ∃ cd, cd = σ.code := ⟨_, rfl⟩
  obtain ⟨ps, hps⟩ : ∃ ps, ps = σ.pos := ⟨_, rfl⟩
  obtain ⟨dp, hdp⟩ : ∃ dp, dp = σ.deep := ⟨_, rfl⟩
  obtain ⟨kd, hkd⟩ : ∃ kd, kd = (tokL ts σ.at_).kind := ⟨_, rfl⟩
  obtain ⟨tx, htx⟩ : ∃ tx, tx = (tokL ts σ.at_).text := ⟨_, rfl⟩
  obtain ⟨tv, htv⟩ : ∃ tv, tv = (tokL ts σ.at_).v := ⟨_, rfl⟩
  obtain ⟨p, hp⟩ : ∃ p, p = (tokL ts σ.at_).at_ := ⟨_, rfl⟩
  rw [← hnn] at c0 hl hn
  rw [← hkd] at t0
  rw [← htx] at t1
  rw [← htv] at t2
  rw [← hp] at t3
  rw [← haa] at c1 t0 t1 t2 t3 hl
  rw [← hcd] at c5
  rw [← hdp] at c4
  rw [← hps] at c6
  have k0 : ((a : Nat) : Int) < (n : Int) := by omega
  have f1 := fr 1
  have f4 := fr 4
  have f5 := fr 5
  have f6 := fr 6
  have HCD := Lib.hid hcd
  have HPS := Lib.hid hps
  have HDP := Lib.hid hdp
  have HKD := Lib.hid hkd
  have HTX := Lib.hid htx
  have HTV := Lib.hid htv
  have HP := Lib.hid hp
  have HAA := Lib.hid haa
  have HNN := Lib.hid hnn
  clear fr hx hnn haa hcd hps hdp hkd htx htv hp c3
  have ha : (a : Int) ≤ 40000 := by omega
  have hbs : b < W.heap.size := h.out.size
  by_cases hz : cd = 0
  · subst hz
    by_cases h1 : kd = 1
    · subst h1
      have q1 : ((1 : Int) != 1) = false := by decide
      have HN := Lib.hid (show nameB ts σ = true by unfold nameB; rw [← HCD.out, ← HKD.out]; rfl)
      have HT := Lib.hid (show nameS ts σ = stepS σ by unfold nameS; rw [if_pos HN.out])
      have HV := Lib.hid (show nameV ts σ = tx by unfold nameV; rw [if_pos HN.out, HTX.out])
      go_enter Tryz.func82, Tryz.ntmps82
      go_wp2_with fail
      go_quiet (fail)
      go_wp2_with fail
      have v0 : ((W.drewN nq).setCell ⟨b, 1, none⟩ (.int .i64 ((a : Int) + 1))).cell? ⟨b, 0, none⟩ = some (.slice (some ⟨g, 0, none⟩) n cap) := by rw [World.cell?_setCell_other _ _ _ _ (by simp)]; exact c0
      have v1 : ((W.drewN nq).setCell ⟨b, 1, none⟩ (.int .i64 ((a : Int) + 1))).cell? ⟨b, 1, none⟩ = some (.int .i64 ((a : Int) + 1)) := World.cell?_setCell_same (W.drewN nq) ⟨b, 1, none⟩ _ c1
      have v2 : ((W.drewN nq).setCell ⟨b, 1, none⟩ (.int .i64 ((a : Int) + 1))).cell? ⟨g, a * 4 + 1, none⟩ = some (.string (str tx)) := by rw [World.cell?_setCell_other _ _ _ _ (by intro e; injection e with e1; exact hgb e1.symm)]; exact t1
      have wz : IntKind.i64.wrap ((a : Int) + 1 - 1) = (a : Int) := by rw [IntKind.wrap_i64]; omega
      have HD := Lib.hid (below_dr (Below.refl W.heap.size W) nq)
      have H1 : Hid (Rd ((W.drewN nq).setCell ⟨b, 1, none⟩ (.int .i64 ((a : Int) + 1))) b g cap dv ts xb (stepS σ)) := Lib.hid (by rw [HAA.out]; exact (h.out.below HD.out).setAt (by rw [← HKD.out]; decide))
      have K1 : Hid (RK b W ((W.drewN nq).setCell ⟨b, 1, none⟩ (.int .i64 ((a : Int) + 1)))) := Lib.hid ((RK.of_below HD.out (Nat.le_of_lt hbs)).trans (RK.set 1 _))
      go_quiet (fail)
      go_wp2_with fail
      go_ret
      rw [HT.out, HV.out]
      exact ⟨rfl, H1.out.below (below_dr (Below.refl _ _) _), K1.out.trans (RK.of_below (below_dr (Below.refl _ _) _) (Nat.le_trans (Nat.le_of_lt hbs) K1.out.size))⟩
    · have n1 : ((kd : Int) != 1) = true := by rw [bne_iff_ne]; omega
      have HN := Lib.hid (show nameB ts σ = false by unfold nameB; rw [← HKD.out, decide_eq_false h1, Bool.and_false])
      have HT := Lib.hid (show nameS ts σ = failS ts 2 σ by unfold nameS; rw [HN.out]; rfl)
      have HV := Lib.hid (show nameV ts σ = [] by unfold nameV; rw [HN.out]; rfl)
      go_enter Tryz.func82, Tryz.ntmps82
      go_wp2_with fail
      go_quiet (fail)
      have HD := Lib.hid (below_dr (Below.refl W.heap.size W) nq)
      have FF := Lib.hid (F.out (W.drewN nq) (Lib.hid (h.out.below HD.out)))
      go_wp2_with (go_at_call 51; (with_reducible refine FF.out.mono ?_); rintro e w1 ⟨rfl, hr, hk⟩; have HR := Lib.hid hr; have HK := Lib.hid hk; clear hr hk)
      go_ret
      rw [HT.out, HV.out]
      exact ⟨rfl, HR.out, (RK.of_below HD.out (Nat.le_of_lt hbs)).trans HK.out⟩
  · have n0 : (cd != 0) = true := by rw [bne_iff_ne]; exact hz
    have HN := Lib.hid (show nameB ts σ = false by unfold nameB; rw [← HCD.out, decide_eq_false hz]; rfl)
    have HT := Lib.hid (show nameS ts σ = failS ts 2 σ by unfold nameS; rw [HN.out]; rfl)
    have HV := Lib.hid (show nameV ts σ = [] by unfold nameV; rw [HN.out]; rfl)
    go_enter Tryz.func82, Tryz.ntmps82
    go_wp2_with fail
    go_quiet (fail)
    have HD := Lib.hid (below_dr (Below.refl W.heap.size W) nq)
    have FF := Lib.hid (F.out (W.drewN nq) (Lib.hid (h.out.below HD.out)))
    go_wp2_with (go_at_call 51; (with_reducible refine FF.out.mono ?_); rintro e w1 ⟨rfl, hr, hk⟩; have HR := Lib.hid hr; have HK := Lib.hid hk; clear hr hk)
    go_ret
    rw [HT.out, HV.out]
    exact ⟨rfl, HR.out, (RK.of_below HD.out (Nat.le_of_lt hbs)).trans HK.out⟩
end Go.Proofs.YtnlbfdhhdnapnaaGreat
