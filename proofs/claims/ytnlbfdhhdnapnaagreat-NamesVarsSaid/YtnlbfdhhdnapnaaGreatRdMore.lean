/- The reference's reader: enter, put. -/
import Derived.Test.YtnlbfdhhdnapnaaGreatRdSmall
namespace Go.Proofs.YtnlbfdhhdnapnaaGreat
open Go.RowKit Lx

set_option maxHeartbeats 4000000 in
theorem enter_any (b g cap : Nat) (dv : Value) (ts : List Tok) (xb : Nat → Prop) (σ : RS) (W : World) (h : Hid (Rd W b g cap dv ts xb σ)) (d0 : 0 ≤ σ.deep) (d1 : σ.deep ≤ 30) :
    Calls Tryz.prog 76 #[.pointer (some ⟨b, 0, none⟩)] W fun r Y => RdRet b g cap dv ts xb W (.bool (decide ((enterS ts σ).code = 0))) (enterS ts σ) r Y := by
  have F := Lib.hid (fun W h => fail_any b g cap dv ts xb σ 3 W h)
  obtain ⟨o, c, ⟨c0, c1, c3, c4, c5, c6, fr⟩, hx⟩ := h.out.cells
  have ht := h.out.tok
  have hgb : g ≠ b := by have := h.out.lt; omega
  have hl := h.out.at_
  have hn := h.out.len
  obtain ⟨t0, t1, t2, t3⟩ := ht
  obtain ⟨n, hnn⟩ : ∃ n, n = ts.length := ⟨_, rfl⟩
  obtain ⟨a, haa⟩ : ∃ a, a = σ.at_ := ⟨_, rfl⟩
  obtain ⟨cd, hcd⟩ : ∃ cd, cd = σ.code := ⟨_, rfl⟩
  obtain ⟨ps, hps⟩ : ∃ ps, ps = σ.pos := ⟨_, rfl⟩
  obtain ⟨dp, hdp⟩ : ∃ dp, dp = σ.deep := ⟨_, rfl⟩
  obtain ⟨kd, hkd⟩ : ∃ kd, kd = (tokL ts σ.at_).kind := ⟨_, rfl⟩
  obtain ⟨tx, htx⟩ : ∃ tx, tx = (tokL ts σ.at_).text := ⟨_, rfl⟩
  obtain ⟨tv, htv⟩ : ∃ tv, tv = (tokL ts σ.at_).v := ⟨_, rfl⟩
  obtain ⟨p, hp⟩ : ∃ p, p = (tokL ts σ.at_).at_ := ⟨_, rfl⟩
  rw [← hnn] at c0 hl hn
  rw [← hkd] at t0
  rw [← htx] at t1
  rw [← htv] at t2
  rw [← hp] at t3
  rw [← haa] at c1 t0 t1 t2 t3 hl
  rw [← hcd] at c5
  rw [← hdp] at c4
  rw [← hps] at c6
  have k0 : ((a : Nat) : Int) < (n : Int) := by omega
  have f1 := fr 1
  have f4 := fr 4
  have f5 := fr 5
  have f6 := fr 6
  have HCD := Lib.hid hcd
  have HPS := Lib.hid hps
  have HDP := Lib.hid hdp
  have HKD := Lib.hid hkd
  have HTX := Lib.hid htx
  have HTV := Lib.hid htv
  have HP := Lib.hid hp
  have HAA := Lib.hid haa
  have HNN := Lib.hid hnn
  clear fr hx hnn haa hcd hps hdp hkd htx htv hp c3
  have dd0 : 0 ≤ dp := by rw [HDP.out]; exact d0
  have dd1 : dp ≤ 30 := by rw [HDP.out]; exact d1
  clear d0 d1
  have hbs : b < W.heap.size := h.out.size
  by_cases hz : cd = 0
  · subst hz
    by_cases h30 : dp = 30
    · subst h30
      have HT := Lib.hid (show enterS ts σ = { failS ts 3 σ with deep := 31 } by
        have e : tooDeep σ = true := by unfold tooDeep; rw [← HCD.out, ← HDP.out]; rfl
        have e2 : (failS ts 3 σ).deep = 30 := by unfold failS; split <;> exact HDP.out.symm
        unfold enterS; rw [e]; show { failS ts 3 σ with deep := (failS ts 3 σ).deep + 1 } = _; rw [e2]; rfl)
      have HC := Lib.hid (show (failS ts 3 σ).deep = 30 ∧ (failS ts 3 σ).code = 3 by unfold failS; rw [if_pos HCD.out.symm]; exact ⟨HDP.out.symm, rfl⟩)
      have F1 : Hid (Calls Tryz.prog 51 #[.pointer (some ⟨b, 0, none⟩), .int .i64 3] W fun r Y => r = .returned (.tuple #[]) ∧ Y.cell? ⟨b, 4, none⟩ = some (.int .i64 30) ∧ Y.cell? ⟨b, 5, none⟩ = some (.int .i64 3) ∧ Y.frozen? ⟨b, 4, none⟩ = false ∧ Hid (Rd Y b g cap dv ts xb (failS ts 3 σ)) ∧ Hid (RK b W Y)) := Lib.hid ((F.out W h).mono fun r Y ⟨h1, h2, h3⟩ => by
        obtain ⟨o, c, hc, _⟩ := h2.cells
        exact ⟨h1, hc.c4.trans (by rw [HC.out.1]), hc.c5.trans (by rw [HC.out.2]), hc.fr 4, Lib.hid h2, Lib.hid h3⟩)
      go_enter Tryz.func76, Tryz.ntmps76
      go_wp2_with (go_at_call 51; (with_reducible refine F1.out.mono ?_); rintro e w1 ⟨rfl, y4, y5, z4, HR, HK⟩)
      go_ret
      rw [HT.out]
      exact ⟨by show Ending.returned (Value.bool false) = Ending.returned (.bool (decide ((failS ts 3 σ).code = 0))); rw [HC.out.2]; rfl, HR.out.setDeep 31, HK.out.trans (RK.set 4 _)⟩
    · have q1 : (dp == 30) = false := beq_false_of_ne h30
      have HT := Lib.hid (show enterS ts σ = { σ with deep := dp + 1 } by
        have e : tooDeep σ = false := by unfold tooDeep; rw [← HDP.out, decide_eq_false h30, Bool.and_false]
        unfold enterS; rw [e]; show { σ with deep := σ.deep + 1 } = _; rw [← HDP.out])
      go_enter Tryz.func76, Tryz.ntmps76
      go_wp2_with fail
      go_ret
      rw [HT.out]
      exact ⟨by show _ = Ending.returned (.bool (decide (σ.code = 0))); rw [← HCD.out]; rfl, h.out.setDeep (dp + 1), RK.set 4 _⟩
  · have q1 : (cd == 0) = false := beq_false_of_ne hz
    have HT := Lib.hid (show enterS ts σ = { σ with deep := dp + 1 } by
        have e : tooDeep σ = false := by unfold tooDeep; rw [← HCD.out, decide_eq_false hz, Bool.false_and]
        unfold enterS; rw [e]; show { σ with deep := σ.deep + 1 } = _; rw [← HDP.out])
    go_enter Tryz.func76, Tryz.ntmps76
    go_wp2_with fail
    go_ret
    rw [HT.out]
    exact ⟨by show Ending.returned (Value.bool false) = Ending.returned (.bool (decide (σ.code = 0))); rw [← HCD.out, decide_eq_false hz], h.out.setDeep (dp + 1), RK.set 4 _⟩
end Go.Proofs.YtnlbfdhhdnapnaaGreat
