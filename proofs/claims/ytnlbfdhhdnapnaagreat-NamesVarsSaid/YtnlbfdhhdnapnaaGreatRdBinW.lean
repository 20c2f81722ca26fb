/- The reference's reader: binary, walked. -/
import Derived.Test.YtnlbfdhhdnapnaaGreatRdBin
namespace Go.Proofs.YtnlbfdhhdnapnaaGreat
open Go.RowKit Lx

/-- what the loop keeps -/
def BinI (ts : List Tok) (xb : Nat → Prop) (b g cap : Nat) (dv : Value) (least f : Nat) (R : Int × List Int × RS) (W : World) (n : Nat) (x : Value × World) : Prop :=
  ∃ (a : Int) (σ : RS), x.1 = .int .i64 a ∧ n ≤ f ∧ runE ts n (.loop least a) σ = some R ∧ Rd x.2 b g cap dv ts xb σ ∧ RK b W x.2
set_option maxHeartbeats 8000000 in
set_option maxRecDepth 100000 in
theorem bin_five (b g cap : Nat) (dv : Value) (ts : List Tok) (xb : Nat → Prop) (f : Nat) (least : Nat) (h1 : 1 ≤ least) (h5 : least ≤ 5) (IH : Hid (∀ k, k ≤ f → FC b g cap dv ts xb k)) (σ σ1 : RS) (a0 : Int) (la : List Int) (R : Int × List Int × RS)
    (ha : Hid (runE ts f (.bin (least + 1)) σ = some (a0, la, σ1))) (hl : Hid (runE ts f (.loop least a0) σ1 = some R)) (W : World) (h : Hid (Rd W b g cap dv ts xb σ)) :
    Calls Tryz.prog 80 #[.pointer (some ⟨b, 0, none⟩), .int .i64 (least : Int)] W fun r Y => RdRet b g cap dv ts xb W (.int .i64 R.1) R.2.2 r Y := by
  obtain ⟨l1, hl1⟩ : ∃ l1 : Nat, l1 = least + 1 := ⟨_, rfl⟩
  have hll : (least : Int) + 1 = (l1 : Int) := by omega
  have q5 : decide ((5 : Int) < (least : Int)) = false := decide_eq_false (by omega)
  have hbs : b < W.heap.size := h.out.size
  have C0 : Hid (Calls Tryz.prog 80 #[.pointer (some ⟨b, 0, none⟩), .int .i64 (l1 : Int)] W fun r Y => RdRet b g cap dv ts xb W (.int .i64 a0) σ1 r Y) :=
    Lib.hid ((IH.out f (Nat.le_refl _)).bin l1 (by omega) (by omega) σ a0 la σ1 (by rw [hl1]; exact ha.out) W h)
  obtain ⟨m, hm⟩ := least_of (BinI ts xb b g cap dv least f R W)
  have HM := Lib.hid hm
  have HL1 := Lib.hid hl1
  clear hl1 hm
  go_enter Tryz.func80, Tryz.ntmps80
  go_wp2_with (go_at_call 80; (with_reducible refine C0.out.mono ?_); rintro e w1 ⟨rfl, hr, hk⟩; have HR := Lib.hid hr; have HK := Lib.hid hk; clear hr hk)
  go_loopw [5] (fun i wr => ∃ a : Int, i = .int .i64 a ∧ Hid (∃ n, BinI ts xb b g cap dv least f R W n (i, wr))) (fun i wr => m (i, wr))
  case atStart => exact ⟨a0, rfl, Lib.hid ⟨f, a0, σ1, rfl, Nat.le_refl _, hl.out, HR.out, HK.out⟩⟩
  case round =>
    obtain ⟨av, rfl, hI⟩ := hrel
    obtain ⟨hm1, hm2⟩ := HM.out _ hI.out
    obtain ⟨a', τ, e, hnf, hrun, hrd, hrk⟩ := hm1
    have e : av = a' := by injection e
    subst e
    obtain ⟨nn, hmn⟩ : ∃ nn, nn = m (.int .i64 av, wr) := ⟨_, rfl⟩
    rw [← hmn] at hnf hrun
    obtain ⟨k, rfl, hcase⟩ := loop_cases hrun
    have HRD := Lib.hid hrd
    have HRK := Lib.hid hrk
    have HMN := Lib.hid hmn
    have HM2 := Lib.hid hm2
    have hbw : b < wr.heap.size := hrd.size
    have hgw : g < wr.heap.size := by have := hrd.lt; omega
    clear hrd hrk hrun hm2 hmn hI
    obtain ⟨o, c, ⟨c0, c1, c3, c4, c5, c6, fr⟩, hx⟩ := HRD.out.cells
    have ht := HRD.out.tok
    have hgb : g ≠ b := by have := HRD.out.lt; omega
    have hl := HRD.out.at_
    have hn := HRD.out.len
    obtain ⟨t0, t1, t2, t3⟩ := ht
    obtain ⟨n, hnn⟩ : ∃ n, n = ts.length := ⟨_, rfl⟩
    obtain ⟨a, haa⟩ : ∃ a, a = τ.at_ := ⟨_, rfl⟩
    obtain ⟨cd, hcd⟩ : ∃ cd, cd = τ.code := ⟨_, rfl⟩
    obtain ⟨ps, hps⟩ : ∃ ps, ps = τ.pos := ⟨_, rfl⟩
    obtain ⟨dp, hdp⟩ : ∃ dp, dp = τ.deep := ⟨_, rfl⟩
    obtain ⟨kd, hkd⟩ : ∃ kd, kd = (tokL ts τ.at_).kind := ⟨_, rfl⟩
    obtain ⟨tx, htx⟩ : ∃ tx, tx = (tokL ts τ.at_).text := ⟨_, rfl⟩
    obtain ⟨tv, htv⟩ : ∃ tv, tv = (tokL ts τ.at_).v := ⟨_, rfl⟩
    obtain ⟨p, hp⟩ : ∃ p, p = (tokL ts τ.at_).at_ := ⟨_, rfl⟩
    rw [← hnn] at c0 hl hn
    rw [← hkd] at t0
    rw [← htx] at t1
    rw [← htv] at t2
    rw [← hp] at t3
    rw [← haa] at c1 t0 t1 t2 t3 hl
    rw [← hcd] at c5
    rw [← hdp] at c4
    rw [← hps] at c6
    have k0 : ((a : Nat) : Int) < (n : Int) := by omega
    have f1 := fr 1
    have f4 := fr 4
    have f5 := fr 5
    have f6 := fr 6
    have HCD := Lib.hid hcd
    have HPS := Lib.hid hps
    have HDP := Lib.hid hdp
    have HKD := Lib.hid hkd
    have HTX := Lib.hid htx
    have HTV := Lib.hid htv
    have HP := Lib.hid hp
    have HAA := Lib.hid haa
    have HNN := Lib.hid hnn
    clear fr hx hnn haa hcd hps hdp hkd htx htv hp c3
    have ha4 : (a : Int) ≤ 40000 := by omega
    by_cases hz : cd = 0
    · subst hz
      have hlv := level_any b g cap dv ts xb τ wr HRD (levelS ts τ).1 (levelS ts τ).2 (Lib.hid rfl)
      obtain ⟨L, hL⟩ : ∃ L, L = (levelS ts τ).1 := ⟨_, rfl⟩
      obtain ⟨K, hK⟩ : ∃ K, K = (levelS ts τ).2 := ⟨_, rfl⟩
      rw [← hL, ← hK] at hlv
      have LV := Lib.hid hlv
      by_cases hle : L = (least : Int)
      · have hke := level_kind h1 (hL.symm.trans hle)
        have HREST : Hid (∃ bv lb y, runE ts k (.bin (least + 1)) (stepS τ) = some (bv, lb, y) ∧ okS y = true ∧
            ((least = 3 ∧ R = ((y.exprs.length : Int), [], putS (twoE (levelS ts τ).2 av bv (tokL ts τ.at_).at_) y)) ∨ (least ≠ 3 ∧ runE ts k (.loop least (y.exprs.length : Int)) (putS (twoE (levelS ts τ).2 av bv (tokL ts τ.at_).at_) y) = some R))) := Lib.hid (by
          rcases hcase with ⟨h0, _⟩ | ⟨_, h0, _⟩ | ⟨_, _, h0⟩
          · exact absurd HCD.out.symm h0
          · exact absurd (hL.symm.trans hle) h0
          · exact h0)
        obtain ⟨bv, lb, y, hrb, hok, hend⟩ := HREST.out
        have HRB := Lib.hid hrb
        have HOK := Lib.hid hok
        have HEND := Lib.hid hend
        have HKK := Lib.hid hK
        have HKE := Lib.hid hke
        have qle : (L != (least : Int)) = false := by rw [hle]; simp
        clear hlv hcase hrb hok hend HREST hL hK hke
        rw [hle] at LV qle
        clear hle
        go_wp2_with (go_at_call 119; (with_reducible refine LV.out.mono ?_); rintro e w2 ⟨rfl, hb⟩; have d0 := (hb.cell (p := ⟨b, 0, none⟩) hbw).trans c0; have d1 := (hb.cell (p := ⟨b, 1, none⟩) hbw).trans c1; have d3 := (hb.cell (p := ⟨g, a * 4 + 3, none⟩) hgw).trans t3; have e1 := (hb.frozen (p := ⟨b, 1, none⟩) hbw).trans f1; have HB := Lib.hid hb; clear hb)
        go_quiet (fail)
        have HD := Lib.hid (below_dr HB.out nq)
        have HV : Hid (Rd ((w2.drewN nq).setCell ⟨b, 1, none⟩ (.int .i64 ((a : Int) + 1))) b g cap dv ts xb (stepS τ)) := Lib.hid (by rw [HAA.out]; exact (HRD.out.below HD.out).setAt HKE.out)
        have HVK : Hid (RK b wr ((w2.drewN nq).setCell ⟨b, 1, none⟩ (.int .i64 ((a : Int) + 1)))) := Lib.hid ((RK.of_below HD.out (Nat.le_of_lt hbw)).trans (RK.set 1 _))
        have CB : Hid (Calls Tryz.prog 80 #[.pointer (some ⟨b, 0, none⟩), .int .i64 (l1 : Int)] ((w2.drewN nq).setCell ⟨b, 1, none⟩ (.int .i64 ((a : Int) + 1))) fun r Y => RdRet b g cap dv ts xb ((w2.drewN nq).setCell ⟨b, 1, none⟩ (.int .i64 ((a : Int) + 1))) (.int .i64 bv) y r Y) :=
          Lib.hid ((IH.out k (by omega)).bin l1 (by omega) (by omega) (stepS τ) bv lb y (by rw [HL1.out]; exact HRB.out) _ HV)
        by_cases h3 : least = 3
        · have q3 : ((least : Int) == 3) = true := by rw [h3]; rfl
          have HRE : Hid (R = ((y.exprs.length : Int), [], putS (twoE K av bv p) y)) := Lib.hid (by
            rw [HKK.out, HP.out]
            rcases HEND.out with ⟨_, h0⟩ | ⟨h0, _⟩
            · exact h0
            · exact absurd h3 h0)
          clear h3
          go_wp2_with (first | (go_at_call 80; (with_reducible refine CB.out.mono ?_); rintro e w3 ⟨rfl, hr, hk⟩; have HR3 := Lib.hid hr; have HK3 := Lib.hid hk; clear hr hk) | (go_at_call 79; (with_reducible refine (put_two b g cap dv ts xb y K av bv p w3 HR3 HOK.out).mono ?_); rintro e w4 ⟨rfl, hr, hk⟩; have HR4 := Lib.hid hr; have HK4 := Lib.hid hk; clear hr hk))
          have HKW := Lib.hid (HRK.out.trans (HVK.out.trans (HK3.out.trans HK4.out)))
          go_ret
          rw [HRE.out]
          exact ⟨rfl, HR4.out, HKW.out⟩
        · have q3 : ((least : Int) == 3) = false := beq_false_of_ne (by omega)
          have HRE : Hid (runE ts k (.loop least (y.exprs.length : Int)) (putS (twoE K av bv p) y) = some R) := Lib.hid (by
            rw [HKK.out, HP.out]
            rcases HEND.out with ⟨h0, _⟩ | ⟨_, h0⟩
            · exact absurd h0 h3
            · exact h0)
          clear h3
          go_wp2_with (first | (go_at_call 80; (with_reducible refine CB.out.mono ?_); rintro e w3 ⟨rfl, hr, hk⟩; have HR3 := Lib.hid hr; have HK3 := Lib.hid hk; clear hr hk) | (go_at_call 79; (with_reducible refine (put_two b g cap dv ts xb y K av bv p w3 HR3 HOK.out).mono ?_); rintro e w4 ⟨rfl, hr, hk⟩; have HR4 := Lib.hid hr; have HK4 := Lib.hid hk; clear hr hk))
          have HKW := Lib.hid (HRK.out.trans (HVK.out.trans (HK3.out.trans HK4.out)))
          have HI : BinI ts xb b g cap dv least f R W k (.int .i64 (y.exprs.length : Int), w4) := ⟨_, _, rfl, by omega, HRE.out, HR4.out, HKW.out⟩
          exact ⟨⟨_, rfl, Lib.hid ⟨k, HI⟩⟩, by have h5 := (HM.out _ ⟨k, HI⟩).2 k HI; have h6 := HMN.out; omega⟩
      · have qle : (L != (least : Int)) = true := by rw [bne_iff_ne]; exact hle
        have HR1 : Hid (R = (av, [], τ)) := Lib.hid (by
          rcases hcase with ⟨h0, _⟩ | ⟨_, _, h0⟩ | ⟨_, h0, _⟩
          · exact absurd HCD.out.symm h0
          · exact h0
          · exact absurd (hL.trans h0) hle)
        clear hlv hcase hL hK
        go_wp2_with (go_at_call 119; (with_reducible refine LV.out.mono ?_); rintro e w2 ⟨rfl, hb⟩; have HB := Lib.hid hb; clear hb)
        go_ret
        rw [HR1.out]
        exact ⟨rfl, HRD.out.below HB.out, HRK.out.trans (RK.of_below HB.out (Nat.le_of_lt hbw))⟩
    · have qz : (cd == 0) = false := beq_false_of_ne hz
      have HR1 : Hid (R = (av, [], τ)) := Lib.hid (by
        rcases hcase with ⟨_, h0⟩ | ⟨h0, _, _⟩ | ⟨h0, _, _⟩
        · exact h0
        · exact absurd (HCD.out.trans h0) hz
        · exact absurd (HCD.out.trans h0) hz)
      clear hcase
      go_wp2_with fail
      go_ret
      rw [HR1.out]
      exact ⟨rfl, HRD.out, HRK.out⟩
set_option maxHeartbeats 4000000 in
theorem bin_six (b g cap : Nat) (dv : Value) (ts : List Tok) (xb : Nat → Prop) (f : Nat) (least : Nat) (h5 : 5 < least) (IH : Hid (FC b g cap dv ts xb f)) (σ : RS) (R : Int × List Int × RS)
    (ha : Hid (runE ts f .pre σ = some R)) (W : World) (h : Hid (Rd W b g cap dv ts xb σ)) :
    Calls Tryz.prog 80 #[.pointer (some ⟨b, 0, none⟩), .int .i64 (least : Int)] W fun r Y => RdRet b g cap dv ts xb W (.int .i64 R.1) R.2.2 r Y := by
  have q5 : decide ((5 : Int) < (least : Int)) = true := decide_eq_true (by omega)
  have C := Lib.hid (IH.out.pre σ R.1 R.2.1 R.2.2 ha.out W h)
  go_enter Tryz.func80, Tryz.ntmps80
  go_wp2_with (go_at_call 118; (with_reducible refine C.out.mono ?_); rintro e w1 ⟨rfl, hr, hk⟩; have HR := Lib.hid hr; have HK := Lib.hid hk; clear hr hk)
  go_ret
  exact ⟨rfl, HR.out, HK.out⟩
theorem bin_any (b g cap : Nat) (dv : Value) (ts : List Tok) (xb : Nat → Prop) (f : Nat) (IH : ∀ k, k ≤ f → FC b g cap dv ts xb k) (least : Nat) (h1 : 1 ≤ least) (h6 : least ≤ 6) (σ : RS) (v : Int) (l : List Int) (τ : RS) (hr : runE ts (f + 1) (.bin least) σ = some (v, l, τ)) (W : World) (h : Hid (Rd W b g cap dv ts xb σ)) :
    Calls Tryz.prog 80 #[.pointer (some ⟨b, 0, none⟩), .int .i64 (least : Int)] W fun r Y => RdRet b g cap dv ts xb W (.int .i64 v) τ r Y := by
  simp only [runE] at hr
  split at hr
  · unfold binG at hr
    split at hr
    · rename_i h5
      exact bin_six b g cap dv ts xb f least h5 (Lib.hid (IH f (Nat.le_refl _))) σ (v, l, τ) (Lib.hid hr) W h
    · rename_i h5
      cases ha : runE ts f (.bin (least + 1)) σ with
      | none => rw [ha] at hr; cases hr
      | some q =>
        obtain ⟨a0, la, σ1⟩ := q
        rw [ha] at hr
        exact bin_five b g cap dv ts xb f least h1 (by omega) (Lib.hid IH) σ σ1 a0 la (v, l, τ) (Lib.hid ha) (Lib.hid hr) W h
  · cases hr
end Go.Proofs.YtnlbfdhhdnapnaaGreat
