/- The law of VerifyNumbers. -/
import Derived.Test.YtceadfkjknjaoaaDoorVeRWrong
import Derived.Test.YtceadfkjknjaoaaDoorVeGreat
namespace Go.Proofs.YtceadfkjknjaoaaDoor
open Go.RowKit Co

attribute [local go_sem] Oper.semAt_some

theorem right_all {o : Ob} (h : rightB o = true) : ∀ q ∈ insTo o 4, okP o q = true := by
  unfold rightB at h
  simp only [Bool.and_eq_true] at h
  exact List.all_eq_true.1 h.2
theorem regs_most {o : Ob} (h : rightB o = true) {k : Nat} (hk : k < 4) : regsL (pieceL o k) 0 ≤ 4000 := by
  have ha := right_all h
  have step : ∀ (l : List Six) (n : Int), (∀ x ∈ l, ∃ bh, codeOk o k x bh = true) → n ≤ 4000 → l.foldl (fun m x => regs1 (rowR x.op) x m) n ≤ 4000 := by
    intro l
    induction l with
    | nil => intro n _ hn; exact hn
    | cons x l ih =>
      intro n hx hn
      obtain ⟨bh, hb⟩ := hx x (by simp)
      exact ih _ (fun y hy => hx y (by simp [hy])) (regs1_most hb hn)
  refine step _ 0 (fun x hx => ?_) (by omega)
  obtain ⟨i, hi, hxi⟩ := List.mem_iff_getElem.1 hx
  have hq := ha (k, i, x) (mem_ins hk (List.getElem?_eq_some_iff.2 ⟨hi, hxi⟩))
  exact ⟨_, hq⟩
theorem regs_low {l : List Six} : 0 ≤ regsL l 0 := by
  have step : ∀ (l : List Six) (n : Int), 0 ≤ n → 0 ≤ l.foldl (fun m x => regs1 (rowR x.op) x m) n := by
    intro l
    induction l with
    | nil => intro n hn; exact hn
    | cons x l ih =>
      intro n hn
      refine ih _ ?_
      have r1 : ∀ {is v m : Int}, 0 ≤ m → 0 ≤ reg1 is v m := fun h => by unfold reg1; split <;> omega
      exact r1 (r1 (r1 (r1 hn)))
  exact step l 0 (by omega)
set_option maxHeartbeats 32000000 in
set_option maxRecDepth 100000 in
theorem nums_law (o : Ob) (s1 s2 s3 s4 t1 t2 t3 t4 : Value) (w : World) (hT : TabAt w) (hO : ObAt w s1 s2 s3 s4 t1 t2 t3 t4 o) (hL : ObLen o) (hK : o.ok) :
    Calls Tryd.prog 5 #[.agg (obCells s1 s2 s3 s4 o.cross o.flags t1 t2 t3 t4)] w fun e w' => e = .returned (.bool true) ∧ Below w.heap.size w w' := by
  have h3 : Hid (∀ k, k < 4 → (pieceL o k).length ≤ 140737488351232) := Lib.hid fun j hj => by
    have h5 := hL.deriv
    have h6 := hL.zero
    have h7 := hL.step
    have h8 := hL.at_
    rcases (show j = 0 ∨ j = 1 ∨ j = 2 ∨ j = 3 by omega) with rfl | rfl | rfl | rfl
    · exact h5
    · exact h6
    · exact h7
    · exact h8
  have hS : Hid (∀ k, k < 4 → SixesAt w ([t1, t2, t3, t4].getD k undef) (pieceL o k)) := Lib.hid fun j hj => by
    rcases (show j = 0 ∨ j = 1 ∨ j = 2 ∨ j = 3 by omega) with rfl | rfl | rfl | rfl
    · exact hO.deriv
    · exact hO.zero
    · exact hO.step
    · exact hO.at_
  have hX : Hid (∀ k, k < 4 → ∀ x ∈ pieceL o k, x.ok) := Lib.hid fun k hk x hx => by
    obtain ⟨i, hi, h⟩ := List.mem_iff_getElem.1 hx
    exact six_ok hK hk (List.getElem?_eq_some_iff.2 ⟨hi, h⟩)
  have HT := Lib.hid hT
  have AL := Lib.hid (fun (W : World) (hb : Below w.heap.size w W) => alive_any W (hT.below hb))
  have GR := Lib.hid (fun (W : World) (hb : Below w.heap.size w W) => great_any o s1 s2 s3 s4 t1 t2 t3 t4 W (hO.below hb) hL)
  have RI := Lib.hid (fun (W : World) (hb : Below w.heap.size w W) => rightO_any o s1 s2 s3 s4 t1 t2 t3 t4 W (hT.below hb) (hO.below hb) hL hK)
  have WR := Lib.hid (fun (W : World) (hb : Below w.heap.size w W) => wrong_b o s1 s2 s3 s4 t1 t2 t3 t4 W (hT.below hb) (hO.below hb) hL hK)
  obtain ⟨o1, c1, o2, c2, o3, c3, o4, c4, q1, d1, q2, d2, q3, d3, q4, d4, rfl, rfl, rfl, rfl, rfl, rfl, rfl, rfl⟩ := obAt_slices hO
  clear hT hO hL hK
  have RP := Lib.hid (rpieces_any o1 o2 o3 o4 q1 q2 q3 q4 o.inn.length o.out.length o.state.length o.mem.length o.deriv.length o.zero.length o.step.length o.at_.length c1 c2 c3 c4 d1 d2 d3 d4 o.cross o.flags)
  have PS := Lib.hid (piece_slice (o := o) q1 q2 q3 q4 d1 d2 d3 d4)
  have ON := Lib.hid (one_any o o1 o2 o3 o4 q1 q2 q3 q4 c1 c2 c3 c4 d1 d2 d3 d4)
  unfold obV six0V at ON
  unfold obCells at GR RI WR ⊢
  have X0 := Lib.hid (ten_cells w (.slice o1 o.inn.length c1) (.slice o2 o.out.length c2) (.slice o3 o.state.length c3) (.slice o4 o.mem.length c4) (.int .i64 o.cross) (.int .i64 o.flags) (.slice q1 o.deriv.length d1) (.slice q2 o.zero.length d2) (.slice q3 o.step.length d3) (.slice q4 o.at_.length d4))
  have HA := Lib.hid ((Below.refl w.heap.size w).alloc (Nat.le_refl _) (.cells #[.slice o1 o.inn.length c1, .slice o2 o.out.length c2, .slice o3 o.state.length c3, .slice o4 o.mem.length c4, .int .i64 o.cross, .int .i64 o.flags, .slice q1 o.deriv.length d1, .slice q2 o.zero.length d2, .slice q3 o.step.length d3, .slice q4 o.at_.length d4] 29))
  obtain ⟨RB, hRB⟩ : ∃ RB, RB = rightB o := ⟨_, rfl⟩
  obtain ⟨AB, hAB⟩ : ∃ AB, AB = allB o := ⟨_, rfl⟩
  simp only [← hRB] at RI
  simp only [← hAB] at WR
  have HRB := Lib.hid hRB
  have HAB := Lib.hid hAB
  clear hRB hAB
  go_enter Tryd.func5, Tryd.ntmps5
  go_wp2_with (first
    | (go_at_call 6; (with_reducible refine (AL.out _ HA.out).mono ?_); rintro e w1 ⟨rfl, hb1⟩; have HB1 := Lib.hid (HA.out.trans (hb1.mono HA.out.size)); have y0 := cell_on hb1 (X0.out 0 _ rfl); have y1 := cell_on hb1 (X0.out 1 _ rfl); have y2 := cell_on hb1 (X0.out 2 _ rfl); have y3 := cell_on hb1 (X0.out 3 _ rfl); have y4 := cell_on hb1 (X0.out 4 _ rfl); have y5 := cell_on hb1 (X0.out 5 _ rfl); have y6 := cell_on hb1 (X0.out 6 _ rfl); have y7 := cell_on hb1 (X0.out 7 _ rfl); have y8 := cell_on hb1 (X0.out 8 _ rfl); have y9 := cell_on hb1 (X0.out 9 _ rfl); clear hb1)
    | (go_at_call 10; (with_reducible refine (GR.out _ HB1.out).mono ?_); rintro e w2 ⟨g, rfl, hb2⟩; have HB2 := Lib.hid (HB1.out.trans (hb2.mono HB1.out.size)); have u0 := cell_on hb2 y0; have u1 := cell_on hb2 y1; have u2 := cell_on hb2 y2; have u3 := cell_on hb2 y3; have u4 := cell_on hb2 y4; have u5 := cell_on hb2 y5; have u6 := cell_on hb2 y6; have u7 := cell_on hb2 y7; have u8 := cell_on hb2 y8; have u9 := cell_on hb2 y9; clear hb2 y0 y1 y2 y3 y4 y5 y6 y7 y8 y9; cases g)
    | (go_at_call 14; (with_reducible refine (RP.out _).mono ?_); rintro e w3 ⟨rfl, hrow, hb3⟩; have HROW := Lib.hid hrow; have HB3 := Lib.hid (HB2.out.trans (hb3.mono HB2.out.size)); have v0 := cell_on hb3 u0; have v1 := cell_on hb3 u1; have v2 := cell_on hb3 u2; have v3 := cell_on hb3 u3; have v4 := cell_on hb3 u4; have v5 := cell_on hb3 u5; have v6 := cell_on hb3 u6; have v7 := cell_on hb3 u7; have v8 := cell_on hb3 u8; have v9 := cell_on hb3 u9; clear hrow hb3 u0 u1 u2 u3 u4 u5 u6 u7 u8 u9)
    | (go_at_call 12; (with_reducible refine (RI.out _ HB3.out).mono ?_); rintro e w4 ⟨rfl, hb4⟩; have HB4 := Lib.hid (HB3.out.trans (hb4.mono HB3.out.size)); have HROW2 := Lib.hid ((hb4.block _ (lt_of_heap HROW.out)).trans HROW.out); have z0 := cell_on hb4 v0; have z1 := cell_on hb4 v1; have z2 := cell_on hb4 v2; have z3 := cell_on hb4 v3; have z4 := cell_on hb4 v4; have z5 := cell_on hb4 v5; have z6 := cell_on hb4 v6; have z7 := cell_on hb4 v7; have z8 := cell_on hb4 v8; have z9 := cell_on hb4 v9; clear hb4 v0 v1 v2 v3 v4 v5 v6 v7 v8 v9 HROW; cases RB))
  · have HROW3 : Hid (RowAt w4 (w2.heap.size + 1) (.slice q1 o.deriv.length d1) (.slice q2 o.zero.length d2) (.slice q3 o.step.length d3) (.slice q4 o.at_.length d4)) := Lib.hid HROW2.out
    obtain ⟨P, hP⟩ : ∃ P, P = w2.heap.size + 1 := ⟨_, rfl⟩
    rw [← hP] at HROW3 ⊢
    clear HROW2 hP
    (with_reducible refine (WR.out _ HB4.out).mono ?_)
    rintro e w5 ⟨hb5, ka, nb, rfl, hbad⟩
    have HBAD := Lib.hid hbad
    have HROW5 : Hid (RowAt w5 P (.slice q1 o.deriv.length d1) (.slice q2 o.zero.length d2) (.slice q3 o.step.length d3) (.slice q4 o.at_.length d4)) := Lib.hid ((hb5.block _ (lt_of_heap HROW3.out)).trans HROW3.out)
    have HB5 := Lib.hid (HB4.out.trans (hb5.mono HB4.out.size))
    have v0 := cell_on hb5 z0
    have v1 := cell_on hb5 z1
    have v2 := cell_on hb5 z2
    have v3 := cell_on hb5 z3
    have v4 := cell_on hb5 z4
    have v5 := cell_on hb5 z5
    have v6 := cell_on hb5 z6
    have v7 := cell_on hb5 z7
    have v8 := cell_on hb5 z8
    have v9 := cell_on hb5 z9
    clear hb5 hbad z0 z1 z2 z3 z4 z5 z6 z7 z8 z9
    dsimp only
    cases AB with
    | true =>
      go_wp2_with fail
      go_ret
      exact ⟨rfl, HB5.out⟩
    | false =>
      obtain ⟨x, hmem, hno⟩ := HBAD.out rfl
      obtain ⟨hk4, hx⟩ := ins_mem hmem
      simp only at hk4 hx
      have hlen : nb < (pieceL o ka).length := (List.getElem?_eq_some_iff.1 hx).1
      obtain ⟨q, dq, b, off, hq, hq1, hsix⟩ : ∃ q dq b off, [Value.slice q1 o.deriv.length d1, .slice q2 o.zero.length d2, .slice q3 o.step.length d3, .slice q4 o.at_.length d4].getD ka undef = .slice q (pieceL o ka).length dq ∧ (0 < (pieceL o ka).length → q = some ⟨b, off, none⟩) ∧ SixAt w b (off + nb * 6) x := by
        obtain ⟨q, cap, b, off, h1, _, _, h4, h5⟩ := hS.out ka hk4
        exact ⟨q, cap, b, off, h1, h4, h5 nb hlen x hx⟩
      obtain ⟨z0, z1, z2, z3, z4, z5⟩ := hsix.below HB5.out
      have r0 := HROW5.out.cell hk4
      rw [hq] at r0
      have ixr := ix_row (P := P) hk4
      obtain ⟨m, hm⟩ : ∃ m, m = (pieceL o ka).length := ⟨_, rfl⟩
      have hml := h3.out ka hk4
      have hnR : oneOk o ka x ((m : Int) - (nb : Int) - 1) = false := by
        have h := hno
        rw [okR_same hk4] at h
        unfold okR at h
        simp only at h
        rw [hm, show (((pieceL o ka).length : Nat) : Int) - (nb : Int) - 1 = ((pieceL o ka).length : Int) - 1 - (nb : Int) by omega]
        exact h
      rw [← hm] at r0 hq1 hml hlen
      have ix1 := ix_sixes (cap := dq) hq1 hlen (by omega)
      unfold Ix at ix1
      have CQ := Lib.hid fun pr : Regrown => Calls.regrown_of (ON.out ka hk4 x ((m : Int) - (nb : Int) - 1) (by omega) (by omega) (Go.Sort.grow (redrawn w5 pr.d) pr.os))
      rw [hnR] at CQ
      obtain ⟨op, xd, xa, xb, xc, xv⟩ := x
      simp only at z0 z1 z2 z3 z4 z5 CQ
      have g1 : (ka : Int) < 4 := by omega
      have g2 : (nb : Int) < (m : Int) := by omega
      have g3 : (m : Int) ≤ 140737488351232 := by omega
      clear hmem hno hx hsix hq hq1 hm hml hnR HBAD
      go_wp2_with fail
      have G0 := fun pr : Regrown => cell_regrown v0 pr.d pr.os
      have G1 := fun pr : Regrown => cell_regrown v1 pr.d pr.os
      have G2 := fun pr : Regrown => cell_regrown v2 pr.d pr.os
      have G3 := fun pr : Regrown => cell_regrown v3 pr.d pr.os
      have G4 := fun pr : Regrown => cell_regrown v4 pr.d pr.os
      have G5 := fun pr : Regrown => cell_regrown v5 pr.d pr.os
      have G6 := fun pr : Regrown => cell_regrown v6 pr.d pr.os
      have G7 := fun pr : Regrown => cell_regrown v7 pr.d pr.os
      have G8 := fun pr : Regrown => cell_regrown v8 pr.d pr.os
      have G9 := fun pr : Regrown => cell_regrown v9 pr.d pr.os
      have R0 := fun pr : Regrown => cell_regrown r0 pr.d pr.os
      have Z0 := fun pr : Regrown => cell_regrown z0 pr.d pr.os
      have Z1 := fun pr : Regrown => cell_regrown z1 pr.d pr.os
      have Z2 := fun pr : Regrown => cell_regrown z2 pr.d pr.os
      have Z3 := fun pr : Regrown => cell_regrown z3 pr.d pr.os
      have Z4 := fun pr : Regrown => cell_regrown z4 pr.d pr.os
      have Z5 := fun pr : Regrown => cell_regrown z5 pr.d pr.os
      clear v0 v1 v2 v3 v4 v5 v6 v7 v8 v9 r0 z0 z1 z2 z3 z4 z5
      refine wp_region_quiet_below (by kernel_rfl) (by kernel_rfl) ?_
      repeat (go_big_quiet_step (with_reducible exact CQ.out _))
      refine wpQuiet_nil ?_
      intro w6 hw6
      have HB6 : Hid (Below w5.heap.size w5 w6) := Lib.hid (by obtain ⟨pr, rfl⟩ := hw6; exact below_regrown _ _ _)
      clear hw6 G0 G1 G2 G3 G4 G5 G6 G7 G8 G9 R0 Z0 Z1 Z2 Z3 Z4 Z5 CQ
      go_wp2_with fail
      go_ret
      exact ⟨rfl, HB5.out.trans (HB6.out.mono HB5.out.size)⟩
  · have HROW3 : Hid (RowAt w4 (w2.heap.size + 1) (.slice q1 o.deriv.length d1) (.slice q2 o.zero.length d2) (.slice q3 o.step.length d3) (.slice q4 o.at_.length d4)) := Lib.hid HROW2.out
    obtain ⟨P, hP⟩ : ∃ P, P = w2.heap.size + 1 := ⟨_, rfl⟩
    rw [← hP] at HROW3 ⊢
    clear HROW2 hP z0 z1 z2 z3 z4 z5 z6 z7 z8 z9
    go_loopw [4] (fun i wr => ∃ (k : Nat), i = .int .i64 (k : Int) ∧ k ≤ 4 ∧ Hid (Below w4.heap.size w4 wr)) (fun i _ => match i with | .int _ z => 4 - z.toNat | _ => 0)
    case atStart => exact ⟨0, rfl, Nat.zero_le _, Lib.hid (Below.refl _ _)⟩
    case round =>
      obtain ⟨k, rfl, hk, hB⟩ := hrel
      rcases Nat.lt_or_ge k 4 with hk4 | hk4
      · have hk5 : (k : Int) < 4 := by omega
        have ixr := ix_row (P := P) hk4
        have r0 := cell_on hB.out (HROW3.out.cell hk4)
        have hs := hS.out k hk4
        obtain ⟨q, dq, hq⟩ := PS.out k hk4
        rw [hq] at r0 hs
        have HBW := Lib.hid (HB4.out.trans (hB.out.mono HB4.out.size))
        have RG := Lib.hid (regs_any (pieceL o k) _ wr (HT.out.below HBW.out) (hs.below HBW.out) (hX.out k hk4) (by have := h3.out k hk4; omega))
        have hle := regs_most (o := o) (by rw [← HRB.out]) hk4
        have hge : 0 ≤ regsL (pieceL o k) 0 := regs_low
        obtain ⟨r, hr⟩ : ∃ r, r = regsL (pieceL o k) 0 := ⟨_, rfl⟩
        rw [← hr] at RG hle hge
        clear hr hs hq
        go_wp2_with (go_at_call 8; (with_reducible refine RG.out.mono ?_); rintro e w5 ⟨rfl, hb5⟩; have HB5 := Lib.hid (hB.out.trans (hb5.mono hB.out.size)); clear hb5)
        exact ⟨⟨k + 1, by go_num, by omega, HB5⟩, by simp; omega⟩
      · obtain rfl : k = 4 := by omega
        have hno : ¬ ((4 : Nat) : Int) < 4 := by omega
        go_wp2_with fail
        go_ret
        exact ⟨rfl, HB4.out.trans (hB.out.mono HB4.out.size)⟩
  · go_ret
    exact ⟨rfl, HB2.out⟩
end Go.Proofs.YtceadfkjknjaoaaDoor
