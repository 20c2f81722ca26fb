/- Joined: RdBinW, RdAll, RdParse. -/
import Derived.Test.YtlbhlncipajapaaGreatDoorPe18
import Derived.Test.YtlbhlncipajapaaGreatDoorPe24
import Derived.Test.YtlbhlncipajapaaGreatDoorPe25
namespace Go.Proofs.YtlbhlncipajapaaGreatDoor
open Go.RowKit Lx

/-- what the loop keeps -/
def BinI (ts : List Tok) (xb : Nat → Prop) (b g cap : Nat) (dv : Value) (least f : Nat) (R : Int × List Int × RS) (W : World) (n : Nat) (x : Value × World) : Prop :=
  ∃ (a : Int) (σ : RS), x.1 = .int .i64 a ∧ n ≤ f ∧ runE ts n (.loop least a) σ = some R ∧ Rd x.2 b g cap dv ts xb σ ∧ RK b W x.2
set_option maxHeartbeats 8000000 in
set_option maxRecDepth 100000 in
theorem bin_five (b g cap : Nat) (dv : Value) (ts : List Tok) (xb : Nat → Prop) (f : Nat) (least : Nat) (h1 : 1 ≤ least) (h5 : least ≤ 5) (IH : Hid (∀ k, k ≤ f → FC b g cap dv ts xb k)) (σ σ1 : RS) (a0 : Int) (la : List Int) (R : Int × List Int × RS)
    (ha : Hid (runE ts f (.bin (least + 1)) σ = some (a0, la, σ1))) (hl : Hid (runE ts f (.loop least a0) σ1 = some R)) (W : World) (h : Hid (Rd W b g cap dv ts xb σ)) :
    Calls Tryz.prog 39 #[.pointer (some ⟨b, 0, none⟩), .int .i64 (least : Int)] W fun r Y => RdRet b g cap dv ts xb W (.int .i64 R.1) R.2.2 r Y := by
  obtain ⟨l1, hl1⟩ : ∃ l1 : Nat, l1 = least + 1 := ⟨_, rfl⟩
  have hll : (least : Int) + 1 = (l1 : Int) := by omega
  have q5 : decide ((5 : Int) < (least : Int)) = false := decide_eq_false (by omega)
  have hbs : b < W.heap.size := h.out.size
  have C0 : Hid (Calls Tryz.prog 39 #[.pointer (some ⟨b, 0, none⟩), .int .i64 (l1 : Int)] W fun r Y => RdRet b g cap dv ts xb W (.int .i64 a0) σ1 r Y) :=
    Lib.hid ((IH.out f (Nat.le_refl _)).bin l1 (by omega) (by omega) σ a0 la σ1 (by rw [hl1]; exact ha.out) W h)
  obtain ⟨m, hm⟩ := least_of (BinI ts xb b g cap dv least f R W)
  have HM := Lib.hid hm
  have HL1 := Lib.hid hl1
  clear hl1 hm
  go_enter Tryz.func39, Tryz.ntmps39
  go_wp2_with (go_at_call 39; (with_reducible refine C0.out.mono ?_); rintro e w1 ⟨rfl, hr, hk⟩; have HR := Lib.hid hr; have HK := Lib.hid hk; clear hr hk)
  go_loopw [5] (fun i wr => ∃ a : Int, i = .int .i64 a ∧ Hid (∃ n, BinI ts xb b g cap dv least f R W n (i, wr))) (fun i wr => m (i, wr))
  case atStart => exact ⟨a0, rfl, Lib.hid ⟨f, a0, σ1, rfl, Nat.le_refl _, hl.out, HR.out, HK.out⟩⟩
  case round =>
    obtain ⟨av, rfl, hI⟩ := hrel
    obtain ⟨hm1, hm2⟩ := HM.out _ hI.out
    obtain ⟨a', τ, e, hnf, hrun, hrd, hrk⟩ := hm1
    have e : av = a' := by injection e
    subst e
    obtain ⟨nn, hmn⟩ : ∃ nn, nn = m (.int .i64 av, wr) := ⟨_, rfl⟩
    rw [← hmn] at hnf hrun
    obtain ⟨k, rfl, hcase⟩ := loop_cases hrun
    have HRD := Lib.hid hrd
    have HRK := Lib.hid hrk
    have HMN := Lib.hid hmn
    have HM2 := Lib.hid hm2
    have hbw : b < wr.heap.size := hrd.size
    have hgw : g < wr.heap.size := by have := hrd.lt; omega
    clear hrd hrk hrun hm2 hmn hI
    obtain ⟨o, c, ⟨c0, c1, c3, c4, c5, c6, fr⟩, hx⟩ := HRD.out.cells
    have ht := HRD.out.tok
    have hgb : g ≠ b := by have := HRD.out.lt; omega
    have hl := HRD.out.at_
    have hn := HRD.out.len
    obtain ⟨t0, t1, t2, t3⟩ := ht
    obtain ⟨n, hnn⟩ : ∃ n, n = ts.length := ⟨_, rfl⟩
    obtain ⟨a, haa⟩ : ∃ a, a = τ.at_ := ⟨_, rfl⟩
    obtain ⟨cd, hcd⟩ : ∃ cd, cd = τ.code := ⟨_, rfl⟩
    obtain ⟨ps, hps⟩ : ∃ ps, ps = τ.pos := ⟨_, rfl⟩
    obtain ⟨dp, hdp⟩ : ∃ dp, dp = τ.deep := ⟨_, rfl⟩
    obtain ⟨kd, hkd⟩ : ∃ kd, kd = (tokL ts τ.at_).kind := ⟨_, rfl⟩
    obtain ⟨tx, htx⟩ : ∃ tx, tx = (tokL ts τ.at_).text := ⟨_, rfl⟩
    obtain ⟨tv, htv⟩ : ∃ tv, tv = (tokL ts τ.at_).v := ⟨_, rfl⟩
    obtain ⟨p, hp⟩ : ∃ p, p = (tokL ts τ.at_).at_ := ⟨_, rfl⟩
    rw [← hnn] at c0 hl hn
    rw [← hkd] at t0
    rw [← htx] at t1
    rw [← htv] at t2
    rw [← hp] at t3
    rw [← haa] at c1 t0 t1 t2 t3 hl
    rw [← hcd] at c5
    rw [← hdp] at c4
    rw [← hps] at c6
    have k0 : ((a : Nat) : Int) < (n : Int) := by omega
    have f1 := fr 1
    have f4 := fr 4
    have f5 := fr 5
    have f6 := fr 6
    have HCD := Lib.hid hcd
    have HPS := Lib.hid hps
    have HDP := Lib.hid hdp
    have HKD := Lib.hid hkd
    have HTX := Lib.hid htx
    have HTV := Lib.hid htv
    have HP := Lib.hid hp
    have HAA := Lib.hid haa
    have HNN := Lib.hid hnn
    clear fr hx hnn haa hcd hps hdp hkd htx htv hp c3
    have ha4 : (a : Int) ≤ 40000 := by omega
    by_cases hz : cd = 0
    · subst hz
      have hlv := level_any b g cap dv ts xb τ wr HRD (levelS ts τ).1 (levelS ts τ).2 (Lib.hid rfl)
      obtain ⟨L, hL⟩ : ∃ L, L = (levelS ts τ).1 := ⟨_, rfl⟩
      obtain ⟨K, hK⟩ : ∃ K, K = (levelS ts τ).2 := ⟨_, rfl⟩
      rw [← hL, ← hK] at hlv
      have LV := Lib.hid hlv
      by_cases hle : L = (least : Int)
      · have hke := level_kind h1 (hL.symm.trans hle)
        have HREST : Hid (∃ bv lb y, runE ts k (.bin (least + 1)) (stepS τ) = some (bv, lb, y) ∧ okS y = true ∧
            ((least = 3 ∧ R = ((y.exprs.length : Int), [], putS (twoE (levelS ts τ).2 av bv (tokL ts τ.at_).at_) y)) ∨ (least ≠ 3 ∧ runE ts k (.loop least (y.exprs.length : Int)) (putS (twoE (levelS ts τ).2 av bv (tokL ts τ.at_).at_) y) = some R))) := Lib.hid (by
          rcases hcase with ⟨h0, _⟩ | ⟨_, h0, _⟩ | ⟨_, _, h0⟩
          · exact absurd HCD.out.symm h0
          · exact absurd (hL.symm.trans hle) h0
          · exact h0)
        obtain ⟨bv, lb, y, hrb, hok, hend⟩ := HREST.out
        have HRB := Lib.hid hrb
        have HOK := Lib.hid hok
        have HEND := Lib.hid hend
        have HKK := Lib.hid hK
        have HKE := Lib.hid hke
        have qle : (L != (least : Int)) = false := by rw [hle]; simp
        clear hlv hcase hrb hok hend HREST hL hK hke
        rw [hle] at LV qle
        clear hle
        go_wp2_with (go_at_call 72; (with_reducible refine LV.out.mono ?_); rintro e w2 ⟨rfl, hb⟩; have d0 := (hb.cell (p := ⟨b, 0, none⟩) hbw).trans c0; have d1 := (hb.cell (p := ⟨b, 1, none⟩) hbw).trans c1; have d3 := (hb.cell (p := ⟨g, a * 4 + 3, none⟩) hgw).trans t3; have e1 := (hb.frozen (p := ⟨b, 1, none⟩) hbw).trans f1; have HB := Lib.hid hb; clear hb)
        go_quiet (fail)
        have HD := Lib.hid (below_dr HB.out nq)
        have HV : Hid (Rd ((w2.drewN nq).setCell ⟨b, 1, none⟩ (.int .i64 ((a : Int) + 1))) b g cap dv ts xb (stepS τ)) := Lib.hid (by rw [HAA.out]; exact (HRD.out.below HD.out).setAt HKE.out)
        have HVK : Hid (RK b wr ((w2.drewN nq).setCell ⟨b, 1, none⟩ (.int .i64 ((a : Int) + 1)))) := Lib.hid ((RK.of_below HD.out (Nat.le_of_lt hbw)).trans (RK.set 1 _))
        have CB : Hid (Calls Tryz.prog 39 #[.pointer (some ⟨b, 0, none⟩), .int .i64 (l1 : Int)] ((w2.drewN nq).setCell ⟨b, 1, none⟩ (.int .i64 ((a : Int) + 1))) fun r Y => RdRet b g cap dv ts xb ((w2.drewN nq).setCell ⟨b, 1, none⟩ (.int .i64 ((a : Int) + 1))) (.int .i64 bv) y r Y) :=
          Lib.hid ((IH.out k (by omega)).bin l1 (by omega) (by omega) (stepS τ) bv lb y (by rw [HL1.out]; exact HRB.out) _ HV)
        by_cases h3 : least = 3
        · have q3 : ((least : Int) == 3) = true := by rw [h3]; rfl
          have HRE : Hid (R = ((y.exprs.length : Int), [], putS (twoE K av bv p) y)) := Lib.hid (by
            rw [HKK.out, HP.out]
            rcases HEND.out with ⟨_, h0⟩ | ⟨h0, _⟩
            · exact h0
            · exact absurd h3 h0)
          clear h3
          go_wp2_with (first | (go_at_call 39; (with_reducible refine CB.out.mono ?_); rintro e w3 ⟨rfl, hr, hk⟩; have HR3 := Lib.hid hr; have HK3 := Lib.hid hk; clear hr hk) | (go_at_call 38; (with_reducible refine (put_two b g cap dv ts xb y K av bv p w3 HR3 HOK.out).mono ?_); rintro e w4 ⟨rfl, hr, hk⟩; have HR4 := Lib.hid hr; have HK4 := Lib.hid hk; clear hr hk))
          have HKW := Lib.hid (HRK.out.trans (HVK.out.trans (HK3.out.trans HK4.out)))
          go_ret
          rw [HRE.out]
          exact ⟨rfl, HR4.out, HKW.out⟩
        · have q3 : ((least : Int) == 3) = false := beq_false_of_ne (by omega)
          have HRE : Hid (runE ts k (.loop least (y.exprs.length : Int)) (putS (twoE K av bv p) y) = some R) := Lib.hid (by
            rw [HKK.out, HP.out]
            rcases HEND.out with ⟨h0, _⟩ | ⟨_, h0⟩
            · exact absurd h0 h3
            · exact h0)
          clear h3
          go_wp2_with (first | (go_at_call 39; (with_reducible refine CB.out.mono ?_); rintro e w3 ⟨rfl, hr, hk⟩; have HR3 := Lib.hid hr; have HK3 := Lib.hid hk; clear hr hk) | (go_at_call 38; (with_reducible refine (put_two b g cap dv ts xb y K av bv p w3 HR3 HOK.out).mono ?_); rintro e w4 ⟨rfl, hr, hk⟩; have HR4 := Lib.hid hr; have HK4 := Lib.hid hk; clear hr hk))
          have HKW := Lib.hid (HRK.out.trans (HVK.out.trans (HK3.out.trans HK4.out)))
          have HI : BinI ts xb b g cap dv least f R W k (.int .i64 (y.exprs.length : Int), w4) := ⟨_, _, rfl, by omega, HRE.out, HR4.out, HKW.out⟩
          exact ⟨⟨_, rfl, Lib.hid ⟨k, HI⟩⟩, by have h5 := (HM.out _ ⟨k, HI⟩).2 k HI; have h6 := HMN.out; omega⟩
      · have qle : (L != (least : Int)) = true := by rw [bne_iff_ne]; exact hle
        have HR1 : Hid (R = (av, [], τ)) := Lib.hid (by
          rcases hcase with ⟨h0, _⟩ | ⟨_, _, h0⟩ | ⟨_, h0, _⟩
          · exact absurd HCD.out.symm h0
          · exact h0
          · exact absurd (hL.trans h0) hle)
        clear hlv hcase hL hK
        go_wp2_with (go_at_call 72; (with_reducible refine LV.out.mono ?_); rintro e w2 ⟨rfl, hb⟩; have HB := Lib.hid hb; clear hb)
        go_ret
        rw [HR1.out]
        exact ⟨rfl, HRD.out.below HB.out, HRK.out.trans (RK.of_below HB.out (Nat.le_of_lt hbw))⟩
    · have qz : (cd == 0) = false := beq_false_of_ne hz
      have HR1 : Hid (R = (av, [], τ)) := Lib.hid (by
        rcases hcase with ⟨_, h0⟩ | ⟨h0, _, _⟩ | ⟨h0, _, _⟩
        · exact h0
        · exact absurd (HCD.out.trans h0) hz
        · exact absurd (HCD.out.trans h0) hz)
      clear hcase
      go_wp2_with fail
      go_ret
      rw [HR1.out]
      exact ⟨rfl, HRD.out, HRK.out⟩
set_option maxHeartbeats 4000000 in
theorem bin_six (b g cap : Nat) (dv : Value) (ts : List Tok) (xb : Nat → Prop) (f : Nat) (least : Nat) (h5 : 5 < least) (IH : Hid (FC b g cap dv ts xb f)) (σ : RS) (R : Int × List Int × RS)
    (ha : Hid (runE ts f .pre σ = some R)) (W : World) (h : Hid (Rd W b g cap dv ts xb σ)) :
    Calls Tryz.prog 39 #[.pointer (some ⟨b, 0, none⟩), .int .i64 (least : Int)] W fun r Y => RdRet b g cap dv ts xb W (.int .i64 R.1) R.2.2 r Y := by
  have q5 : decide ((5 : Int) < (least : Int)) = true := decide_eq_true (by omega)
  have C := Lib.hid (IH.out.pre σ R.1 R.2.1 R.2.2 ha.out W h)
  go_enter Tryz.func39, Tryz.ntmps39
  go_wp2_with (go_at_call 71; (with_reducible refine C.out.mono ?_); rintro e w1 ⟨rfl, hr, hk⟩; have HR := Lib.hid hr; have HK := Lib.hid hk; clear hr hk)
  go_ret
  exact ⟨rfl, HR.out, HK.out⟩
theorem bin_any (b g cap : Nat) (dv : Value) (ts : List Tok) (xb : Nat → Prop) (f : Nat) (IH : ∀ k, k ≤ f → FC b g cap dv ts xb k) (least : Nat) (h1 : 1 ≤ least) (h6 : least ≤ 6) (σ : RS) (v : Int) (l : List Int) (τ : RS) (hr : runE ts (f + 1) (.bin least) σ = some (v, l, τ)) (W : World) (h : Hid (Rd W b g cap dv ts xb σ)) :
    Calls Tryz.prog 39 #[.pointer (some ⟨b, 0, none⟩), .int .i64 (least : Int)] W fun r Y => RdRet b g cap dv ts xb W (.int .i64 v) τ r Y := by
  simp only [runE] at hr
  split at hr
  · unfold binG at hr
    split at hr
    · rename_i h5
      exact bin_six b g cap dv ts xb f least h5 (Lib.hid (IH f (Nat.le_refl _))) σ (v, l, τ) (Lib.hid hr) W h
    · rename_i h5
      cases ha : runE ts f (.bin (least + 1)) σ with
      | none => rw [ha] at hr; cases hr
      | some q =>
        obtain ⟨a0, la, σ1⟩ := q
        rw [ha] at hr
        exact bin_five b g cap dv ts xb f least h1 (by omega) (Lib.hid IH) σ σ1 a0 la (v, l, τ) (Lib.hid ha) (Lib.hid hr) W h
  · cases hr
end Go.Proofs.YtlbhlncipajapaaGreatDoor
namespace Go.Proofs.YtlbhlncipajapaaGreatDoor
open Go.RowKit Lx

theorem putA_some {x : Ex} {σ : RS} {K : Int → RS → Ans} {R : Int × List Int × RS} (h : putA x σ K = some R) : okS σ = true ∧ K (σ.exprs.length : Int) (putS x σ) = some R := by
  unfold putA at h
  split at h
  · rename_i hk; exact ⟨hk, h⟩
  · cases h
theorem kind_len (ts : List Tok) (e : Int) (σ : RS) : (failS ts e σ).exprs = σ.exprs := by unfold failS; split <;> rfl
theorem atom_any (b g cap : Nat) (dv : Value) (ts : List Tok) (xb : Nat → Prop) (f : Nat) (IH : ∀ k, k ≤ f → ∀ yb, FC b g cap dv ts yb k) (σ : RS) (v : Int) (l : List Int) (τ : RS) (hr : runE ts (f + 1) .atom σ = some (v, l, τ)) (W : World) (h : Hid (Rd W b g cap dv ts xb σ)) :
    Calls Tryz.prog 90 #[.pointer (some ⟨b, 0, none⟩)] W fun r Y => RdRet b g cap dv ts xb W (.int .i64 v) τ r Y := by
  simp only [runE] at hr
  split at hr
  · unfold atomG at hr
    dsimp only at hr
    split at hr
    · rename_i h2
      obtain ⟨ok, e⟩ := putA_some hr
      cases e
      exact atom_num b g cap dv ts xb σ W h h2 ok
    · rename_i h2
      split at hr
      · rename_i ht
        obtain ⟨ok, e⟩ := putA_some hr
        cases e
        exact atom_true b g cap dv ts xb σ W h h2 ht ok
      · rename_i ht
        have ht : isS ts [116, 114, 117, 101] σ = false := by simpa using ht
        split at hr
        · rename_i hf
          obtain ⟨ok, e⟩ := putA_some hr
          cases e
          exact atom_false b g cap dv ts xb σ W h h2 ht hf ok
        · rename_i hf
          have hf : isS ts [102, 97, 108, 115, 101] σ = false := by simpa using hf
          split at hr
          · rename_i h1
            split at hr
            · rename_i hi
              obtain ⟨ok, e⟩ := putA_some hr
              cases e
              exact atom_is b g cap dv ts xb σ W h h2 ht hf h1 hi ok
            · rename_i hi
              have hi : isS ts [105, 115] (stepS σ) = false := by simpa using hi
              split at hr
              · rename_i hl
                split at hr
                · rename_i hp
                  obtain ⟨ok, e⟩ := putA_some hr
                  cases e
                  exact atom_call0 b g cap dv ts xb σ W h h2 ht hf h1 hi hl hp ok
                · rename_i hp
                  have hp : isS ts [41] (stepS (stepS σ)) = false := by simpa using hp
                  cases h3 : runE ts f .expr (stepS (stepS σ)) with
                  | none => rw [h3] at hr; cases hr
                  | some q1 =>
                    rw [h3] at hr
                    simp only [Option.bind_some] at hr
                    cases h4 : runE ts f (.args [q1.1]) q1.2.2 with
                    | none => rw [h4] at hr; cases hr
                    | some q2 =>
                      rw [h4] at hr
                      simp only [Option.bind_some] at hr
                      obtain ⟨ok, e⟩ := putA_some hr
                      cases e
                      exact atom_args b g cap dv ts xb σ W h f (Lib.hid IH) h2 ht hf h1 hi hl hp q1.1 q1.2.1 q1.2.2 (Lib.hid h3) q2 (Lib.hid h4) (Lib.hid ok)
              · rename_i hl
                have hl : isS ts [40] (stepS σ) = false := by simpa using hl
                obtain ⟨ok, e⟩ := putA_some hr
                cases e
                exact atom_name b g cap dv ts xb σ W h h2 ht hf h1 hi hl ok
          · rename_i h1
            cases h3 : runE ts f .expr (wantS ts [40] σ) with
            | none => rw [h3] at hr; cases hr
            | some q1 =>
              rw [h3] at hr
              simp only [Option.bind_some] at hr
              cases hr
              exact atom_par b g cap dv ts xb σ W h f (Lib.hid (IH f (Nat.le_refl _) xb)) h2 ht hf h1 q1.1 q1.2.1 q1.2.2 (Lib.hid h3)
  · cases hr
/-- all rules for expressions, at every depth -/
theorem fc_all (b g cap : Nat) (dv : Value) (ts : List Tok) (f : Nat) : ∀ xb, FC b g cap dv ts xb f := by
  induction f using Nat.strongRecOn with
  | ind f ih =>
    intro xb
    cases f with
    | zero =>
      refine ⟨?_, ?_, ?_, ?_⟩
      · intro σ v l τ h; cases h
      · intro σ v l τ h; cases h
      · intro σ v l τ _ h; cases h
      · intro least _ _ σ v l τ h; cases h
    | succ f =>
      have IH : ∀ k, k ≤ f → ∀ yb, FC b g cap dv ts yb k := fun k hk => ih k (by omega)
      exact ⟨fun σ v l τ hr W h => expr_any b g cap dv ts xb f (IH f (Nat.le_refl _) xb) σ v l τ hr W h, fun σ v l τ hr W h => pre_any b g cap dv ts xb f (IH f (Nat.le_refl _) xb) σ v l τ hr W h,
        fun σ v l τ _ hr W h => atom_any b g cap dv ts xb f IH σ v l τ hr W h, fun least h1 h6 σ v l τ hr W h => bin_any b g cap dv ts xb f (fun k hk => IH k hk xb) least h1 h6 σ v l τ hr W h⟩
end Go.Proofs.YtlbhlncipajapaaGreatDoor
namespace Go.Proofs.YtlbhlncipajapaaGreatDoor
open Go.RowKit Lx

theorem toks_four {l : List UInt8} {a : Nat} {ts : List Tok} {r : Option Nat} (h : Toks l a ts r) : ∀ t ∈ ts, t.kind ≤ 4 := by
  induction h with
  | fin => simp
  | bad => simp
  | tok h1 h2 _ ih =>
    intro t ht
    rcases List.mem_cons.1 ht with rfl | ht
    · unfold tokAt tokOf
      split
      · simp
      · rename_i k n v hk
        exact (oneL_some hk).2.1
    · exact ih t ht
theorem end_ok {l : List UInt8} {ts : List Tok} {r : Option Nat} (h : lexT l ts r) (n : Nat) : EndOk (ts ++ [endT n]) := by
  refine ⟨by simp, fun i t hi => ?_⟩
  rw [List.length_append]
  rcases Nat.lt_or_ge i ts.length with h1 | h1
  · rw [List.getElem?_append_left h1] at hi
    have := toks_four h t (List.mem_of_getElem? hi)
    simp; omega
  · rw [List.getElem?_append_right h1] at hi
    have h2 : i - ts.length = 0 := by
      rcases Nat.eq_zero_or_pos (i - ts.length) with h3 | h3
      · exact h3
      · rw [List.getElem?_eq_none (by simp; omega)] at hi; cases hi
    rw [h2] at hi
    obtain rfl : endT n = t := by simpa using hi
    simp [endT]; omega
theorem ref_lex_any : RefLex := ref_lex (ref_one (ref_signed ref_size))
/-- the reader at first -/
def rs0 : RS := ⟨0, [], 0, 0, 0⟩
theorem rd_new {w : World} {g cap : Nat} {ts : List Tok} (hr : RowAt w g ts) (hl : ts.length ≤ 40000) (he : EndOk ts) :
    Rd (w.alloc (.cells #[.slice (some ⟨g, 0, none⟩) ts.length cap, .int .i64 0, .slice none 0 0, .slice none 0 0, .int .i64 0, .int .i64 0, .int .i64 0] 52)) w.heap.size g cap (.slice none 0 0) ts (fun _ => False) rs0 :=
  ⟨fun k hk => hk.elim, ⟨none, 0, heap_alloc_new w _, [], rfl, World.ownsRow_nil _ _ _ _, fun p hp => by cases hp⟩, hr.below ((Below.refl _ _).alloc (Nat.le_refl _) _), hr.1, he.1, hl, he⟩
theorem ExsOwn.base {W : World} {b B : Nat} {xb : Nat → Prop} {v : Value} {l : List Ex} (h : ExsOwn W b xb v l) (hb : B ≤ b) : ExsOwn W B xb v l := by
  obtain ⟨q, h1, h2, h3⟩ := h
  exact ⟨q, h1, own_base h2 (by omega), fun p hp => ⟨own_base (h3 p hp).1 (by omega), (h3 p hp).2⟩⟩
/-- a program of expressions alone comes back, and one's number -/
def ParsedE (v : Int) (es : List Ex) (W : World) (r : Ending) (Y : World) : Prop :=
  ∃ o c, r = .returned (.tuple #[.agg #[.slice none 0 0, .slice o es.length c], .int .i64 v, .agg #[.int .i64 0, .int .i64 0]]) ∧ ExsOwn Y W.heap.size (fun _ => False) (.slice o es.length c) es ∧ Below W.heap.size W Y
set_option maxHeartbeats 8000000 in
set_option maxRecDepth 100000 in
theorem parse_expr_ok (l : List UInt8) (tl : List Tok) (ht : Hid (lexT l tl none)) (hl : l.length ≤ 20000) (f : Nat) (v : Int) (lx : List Int) (τ : RS) (hr : Hid (runE (tl ++ [endT l.length]) f .expr rs0 = some (v, lx, τ))) (hc0 : Hid (τ.code = 0)) (hk5 : Hid ((tokL (tl ++ [endT l.length]) τ.at_).kind = 5)) (W : World) :
    Calls Tryz.prog 9 #[.string (str l), .bool true] W fun r Y => ParsedE v τ.exprs W r Y := by
  obtain ⟨ts, hus⟩ : ∃ ts, ts = tl ++ [endT l.length] := ⟨_, rfl⟩
  have hcount := toks_count ht.out
  have g1 := gapTo_le false (Nat.zero_le l.length)
  have hul : ts.length = tl.length + 1 := by rw [hus]; simp
  have hu4 : ts.length ≤ 40000 := by omega
  have hend : EndOk ts := by rw [hus]; exact end_ok ht.out _
  obtain ⟨p0, hp0⟩ : ∃ p0, p0 = ts.length := ⟨_, rfl⟩
  have LX : Hid (∀ W, Calls Tryz.prog 13 #[.string (str l)] W fun r Y => SomeRow ts p0 W r Y) := Lib.hid fun W => (ref_lex_any l tl none ht.out W).mono fun e w' h => by
    have := h.2 hl
    rw [hp0, hul, hus]; exact this
  have EX : Hid (∀ b g cap W, Hid (Rd W b g cap (.slice none 0 0) ts (fun _ => False) rs0) → Calls Tryz.prog 18 #[.pointer (some ⟨b, 0, none⟩)] W fun r Y => RdRet b g cap (.slice none 0 0) ts (fun _ => False) W (.int .i64 v) τ r Y) := Lib.hid fun b g cap W h => (fc_all b g cap (.slice none 0 0) ts f _).expr rs0 v lx τ (by rw [hus]; exact hr.out) W h
  have HE := Lib.hid hend
  have HP0 := Lib.hid hp0
  have HU4 := Lib.hid hu4
  have HK5 : Hid ((tokL ts τ.at_).kind = 5) := Lib.hid (by rw [hus]; exact hk5.out)
  clear hcount g1 hul hend hus hp0 hu4 hl hk5
  obtain ⟨W2, hW2⟩ : ∃ W2, W2 = (W.alloc (.cells #[.slice none 0 0, .slice none 0 0] 26)).alloc (.cells #[.int .i64 0, .int .i64 0] 29) := ⟨_, rfl⟩
  have hb2 : Below W.heap.size W W2 := by rw [hW2]; exact ((Below.refl _ _).alloc (Nat.le_refl _) _).alloc (by simp) _
  have hs2 : W2.heap.size = W.heap.size + 2 := by rw [hW2]; simp
  have hP : W2.heap[W.heap.size]? = some (.cells #[.slice none 0 0, .slice none 0 0] 26 (0, 0)) := by
    rw [hW2, heap_alloc_old _ _ (by simp)]; exact heap_alloc_new W _
  have hF : W2.heap[W.heap.size + 1]? = some (.cells #[.int .i64 0, .int .i64 0] 29 (0, 0)) := by
    have := heap_alloc_new (W.alloc (.cells #[.slice none 0 0, .slice none 0 0] 26)) (.cells #[.int .i64 0, .int .i64 0] 29)
    rw [World.size_alloc] at this
    rw [hW2]; exact this
  have HB2 := Lib.hid hb2
  have HS2 := Lib.hid hs2
  have HPF := Lib.hid (show _ ∧ _ from ⟨hP, hF⟩)
  clear hb2 hs2 hP hF
  go_enter Tryz.func9, Tryz.ntmps9
  go_wp2_with (go_at_call 13; rw [← hW2]; clear hW2; (with_reducible refine (LX.out W2).mono ?_); rintro e w3 ⟨g, cap, rfl, hb3, hrow⟩; have HB3 := Lib.hid hb3; have HROW := Lib.hid hrow; clear hb3 hrow)
  have hs3 : W.heap.size + 2 ≤ w3.heap.size := by have := HB3.out.size; have := HS2.out; omega
  obtain ⟨b, hb⟩ : ∃ b, b = w3.heap.size + 1 := ⟨_, rfl⟩
  obtain ⟨W4, hW4⟩ : ∃ W4, W4 = (w3.alloc (.cells #[.int .i64 0, .int .i64 0] 29)).alloc (.cells #[.slice (some ⟨g, 0, none⟩) p0 cap, .int .i64 0, .slice none 0 0, .slice none 0 0, .int .i64 0, .int .i64 0, .int .i64 0] 52) := ⟨_, rfl⟩
  have HR4 : Hid (Rd W4 b g cap (.slice none 0 0) ts (fun _ => False) rs0) := Lib.hid (by
    have h1 := rd_new (w := w3.alloc (.cells #[.int .i64 0, .int .i64 0] 29)) (cap := cap) (HROW.out.below ((Below.refl _ _).alloc (Nat.le_refl _) _)) HU4.out HE.out
    rw [World.size_alloc, ← hb] at h1
    rw [hW4, HP0.out]
    exact h1)
  have HB4 : Hid (Below w3.heap.size w3 W4) := Lib.hid (by rw [hW4]; exact ((Below.refl _ _).alloc (Nat.le_refl _) _).alloc (by simp) _)
  rw [← hW4, ← hb]
  clear hW4
  refine (EX.out b g cap W4 HR4).mono ?_
  rintro e w5 ⟨rfl, hr5, hk5⟩
  dsimp only
  have HR5 := Lib.hid hr5
  have HK5' := Lib.hid hk5
  have hlow : ∀ k, k < W.heap.size + 2 → w5.heap[k]? = W2.heap[k]? := fun k hk => (hk5.low k (by omega)).trans ((HB4.out.block k (by omega)).trans (HB3.out.block k (by have := HS2.out; omega)))
  have hP := (hlow W.heap.size (by omega)).trans HPF.out.1
  have hF := (hlow (W.heap.size + 1) (by omega)).trans HPF.out.2
  obtain ⟨o5, cc5, hblk, hex⟩ := hr5.blk
  have n2 : w5.cell? ⟨b, 2, none⟩ = some (.slice none 0 0) := by simp [World.cell?, hblk]
  have n3 : w5.cell? ⟨b, 3, none⟩ = some (.slice o5 τ.exprs.length cc5) := by simp [World.cell?, hblk]
  have HEX := Lib.hid hex
  clear hr5 hk5 hlow hblk hex
  have p0' : w5.cell? ⟨W.heap.size, 0, none⟩ = some (.slice none 0 0) := by simp [World.cell?, hP]
  have p1' : w5.cell? ⟨W.heap.size, 1, none⟩ = some (.slice none 0 0) := by simp [World.cell?, hP]
  have p2' : w5.frozen? ⟨W.heap.size, 0, none⟩ = false := by simp [World.frozen?, hP]
  have p3' : w5.frozen? ⟨W.heap.size, 1, none⟩ = false := by simp [World.frozen?, hP]
  have u0' : w5.cell? ⟨W.heap.size + 1, 0, none⟩ = some (.int .i64 0) := by simp [World.cell?, hF]
  have u1' : w5.cell? ⟨W.heap.size + 1, 1, none⟩ = some (.int .i64 0) := by simp [World.cell?, hF]
  have u2' : w5.frozen? ⟨W.heap.size + 1, 0, none⟩ = false := by simp [World.frozen?, hF]
  have u3' : w5.frozen? ⟨W.heap.size + 1, 1, none⟩ = false := by simp [World.frozen?, hF]
  obtain ⟨nE, hnE⟩ : ∃ nE, nE = τ.exprs.length := ⟨_, rfl⟩
  rw [← hnE] at n3
  have HNE := Lib.hid hnE
  have HPP := Lib.hid (show _ ∧ _ from ⟨hP, hF⟩)
  clear hP hF hnE
  obtain ⟨o, c, ⟨c0, c1, c3, c4, c5, c6, fr⟩, hx⟩ := HR5.out.cells
  have ht := HR5.out.tok
  have hgb : g ≠ b := by have := HR5.out.lt; omega
  have hl := HR5.out.at_
  have hn := HR5.out.len
  obtain ⟨t0, t1, t2, t3⟩ := ht
  obtain ⟨n, hnn⟩ : ∃ n, n = ts.length := ⟨_, rfl⟩
  obtain ⟨a, haa⟩ : ∃ a, a = τ.at_ := ⟨_, rfl⟩
  obtain ⟨cd, hcd⟩ : ∃ cd, cd = τ.code := ⟨_, rfl⟩
  obtain ⟨ps, hps⟩ : ∃ ps, ps = τ.pos := ⟨_, rfl⟩
  obtain ⟨dp, hdp⟩ : ∃ dp, dp = τ.deep := ⟨_, rfl⟩
  obtain ⟨kd, hkd⟩ : ∃ kd, kd = (tokL ts τ.at_).kind := ⟨_, rfl⟩
  obtain ⟨tx, htx⟩ : ∃ tx, tx = (tokL ts τ.at_).text := ⟨_, rfl⟩
  obtain ⟨tv, htv⟩ : ∃ tv, tv = (tokL ts τ.at_).v := ⟨_, rfl⟩
  obtain ⟨p, hp⟩ : ∃ p, p = (tokL ts τ.at_).at_ := ⟨_, rfl⟩
  rw [← hnn] at c0 hl hn
  rw [← hkd] at t0
  rw [← htx] at t1
  rw [← htv] at t2
  rw [← hp] at t3
  rw [← haa] at c1 t0 t1 t2 t3 hl
  rw [← hcd] at c5
  rw [← hdp] at c4
  rw [← hps] at c6
  have k0 : ((a : Nat) : Int) < (n : Int) := by omega
  have f1 := fr 1
  have f4 := fr 4
  have f5 := fr 5
  have f6 := fr 6
  have HCD := Lib.hid hcd
  have HPS := Lib.hid hps
  have HDP := Lib.hid hdp
  have HKD := Lib.hid hkd
  have HTX := Lib.hid htx
  have HTV := Lib.hid htv
  have HP := Lib.hid hp
  have HAA := Lib.hid haa
  have HNN := Lib.hid hnn
  clear fr hx hnn haa hcd hps hdp hkd htx htv hp c3
  have q1 : (cd == 0) = true := by rw [HCD.out, hc0.out]; rfl
  have q2 : ((kd : Int) != 5) = false := by rw [HKD.out, HK5.out]; rfl
  have q3 : (cd != 0) = false := by rw [HCD.out, hc0.out]; rfl
  have HBB := Lib.hid hb
  clear hb
  go_wp2_with fail
  go_quiet (fail)
  go_wp2_with fail
  obtain ⟨w6, hw6⟩ : ∃ w6, w6 = w5.drewN nq := ⟨_, rfl⟩
  rw [← hw6]
  have hb6 : Below w5.heap.size w5 w6 := by rw [hw6]; exact below_dr (Below.refl _ _) _
  have hP6 : w6.heap[W.heap.size]? = some (.cells #[.slice none 0 0, .slice none 0 0] 26 (0, 0)) := by rw [hw6]; exact HPP.out.1
  have hF6 : w6.heap[W.heap.size + 1]? = some (.cells #[.int .i64 0, .int .i64 0] 29 (0, 0)) := by rw [hw6]; exact HPP.out.2
  obtain ⟨Y, hY⟩ : ∃ Y, Y = (((w6.setCell ⟨W.heap.size, 0, none⟩ (.slice none 0 0)).setCell ⟨W.heap.size, 1, none⟩ (.slice o5 nE cc5)).setCell ⟨W.heap.size + 1, 0, none⟩ (.int .i64 0)).setCell ⟨W.heap.size + 1, 1, none⟩ (.int .i64 0) := ⟨_, rfl⟩
  rw [← hY]
  have k1 : Y.heap[W.heap.size]? = some (.cells #[.slice none 0 0, .slice o5 nE cc5] 26 (0, 0)) := by
    rw [hY, Below.heap_setCell _ _ _ _ (by simp), Below.heap_setCell _ _ _ _ (by simp), set_blk (set_blk hP6 0 _) 1 _]; rfl
  have k2 : Y.heap[W.heap.size + 1]? = some (.cells #[.int .i64 0, .int .i64 0] 29 (0, 0)) := by
    rw [hY, set_blk (set_blk (((Below.heap_setCell _ _ _ _ (by simp)).trans (Below.heap_setCell _ _ _ _ (by simp))).trans hF6) 0 _) 1 _]; rfl
  have hYk : ∀ k, W.heap.size + 1 < k → Y.heap[k]? = w6.heap[k]? := fun k hk => by
    rw [hY, Below.heap_setCell _ _ _ _ (by simp; omega), Below.heap_setCell _ _ _ _ (by simp; omega), Below.heap_setCell _ _ _ _ (by simp; omega), Below.heap_setCell _ _ _ _ (by simp; omega)]
  have r0 : Y.cell? ⟨W.heap.size, 0, none⟩ = some (.slice none 0 0) := by simp [World.cell?, k1]
  have r1 : Y.cell? ⟨W.heap.size, 1, none⟩ = some (.slice o5 nE cc5) := by simp [World.cell?, k1]
  have r2 : Y.cell? ⟨W.heap.size + 1, 0, none⟩ = some (.int .i64 0) := by simp [World.cell?, k2]
  have r3 : Y.cell? ⟨W.heap.size + 1, 1, none⟩ = some (.int .i64 0) := by simp [World.cell?, k2]
  have hb05 : Below W.heap.size W w5 := (HB2.out.trans ((HB3.out.trans (HB4.out.mono HB3.out.size)).mono (by have := HS2.out; omega))).trans (HK5'.out.below (by have := HBB.out; omega))
  have hb06 : Below W.heap.size W w6 := hb05.trans (hb6.mono hb05.size)
  have hbY : Below W.heap.size W Y := by
    rw [hY]
    exact (((hb06.setCell (p := ⟨W.heap.size, 0, none⟩) (Nat.le_refl _) _).setCell (p := ⟨W.heap.size, 1, none⟩) (Nat.le_refl _) _).setCell (p := ⟨W.heap.size + 1, 0, none⟩) (Nat.le_succ _) _).setCell (p := ⟨W.heap.size + 1, 1, none⟩) (Nat.le_succ _) _
  refine bodyPost_ret (v := .tuple #[.agg #[.slice none 0 0, .slice o5 nE cc5], .int .i64 v, .agg #[.int .i64 0, .int .i64 0]]) (by simp [results, Tryz.results9, go_sem, r0, r1, r2, r3]) rfl ⟨o5, cc5, by rw [HNE.out], ?_, hbY⟩
  exact (HEX.out.same fun k hk hk2 => (hYk k (by have := HBB.out; omega)).trans (hb6.block k hk2)).base (by have := HBB.out; omega)
end Go.Proofs.YtlbhlncipajapaaGreatDoor
