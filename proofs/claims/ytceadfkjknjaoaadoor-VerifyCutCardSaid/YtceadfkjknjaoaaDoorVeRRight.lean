/- The reference's Right: what it calls right is right. -/
import Derived.Test.YtceadfkjknjaoaaDoorVeRWrong
namespace Go.Proofs.YtceadfkjknjaoaaDoor
open Go.RowKit Co

attribute [local go_sem] Oper.semAt_some

def RRPost (o : Ob) (w : World) (e : Ending) (w' : World) : Prop := ∃ r : Bool, e = .returned (.bool r) ∧ (r = true → rightB o = true) ∧ Below w.heap.size w w'
theorem typed_of {l : List Int} (h : l.all oneTwo = true) (hl : (l.length : Int) ≤ 200) : typedL l = true := by
  unfold typedL
  rw [show (l.all fun t => decide (t = 1) || decide (t = 2)) = true from h, Bool.true_and]
  exact decide_eq_true (by omega)
set_option maxHeartbeats 32000000 in
set_option maxRecDepth 100000 in
theorem rright_any (o : Ob) (s1 s2 s3 s4 t1 t2 t3 t4 : Value) (w : World) (hO : ObAt w s1 s2 s3 s4 t1 t2 t3 t4 o) (hL : ObLen o) :
    Calls Tryd.prog 11 #[.agg (obCells s1 s2 s3 s4 o.cross o.flags t1 t2 t3 t4)] w fun e w' => RRPost o w e w' := by
  have h3 : Hid (∀ k, k < 4 → (pieceL o k).length ≤ 140737488351232) := Lib.hid fun j hj => by
    have h5 := hL.deriv
    have h6 := hL.zero
    have h7 := hL.step
    have h8 := hL.at_
    rcases (show j = 0 ∨ j = 1 ∨ j = 2 ∨ j = 3 by omega) with rfl | rfl | rfl | rfl
    · exact h5
    · exact h6
    · exact h7
    · exact h8
  have n1 : (o.inn.length : Int) ≤ 140737488351232 := by have := hL.inn; unfold reachN at this; omega
  have n2 : (o.out.length : Int) ≤ 140737488351232 := by have := hL.out; unfold reachN at this; omega
  have n3 : (o.state.length : Int) ≤ 140737488351232 := by have := hL.state; unfold reachN at this; omega
  have n4 : (o.mem.length : Int) ≤ 140737488351232 := by have := hL.mem; unfold reachN at this; omega
  have RW := Lib.hid (fun (W : World) (hb : Below w.heap.size w W) => rwrong_any o s1 s2 s3 s4 t1 t2 t3 t4 W (hO.below hb) hL)
  obtain ⟨⟨o1, c1, ib, io, e1, _, _, ip, iq⟩, ⟨o2, c2, jb, jo, e2, _, _, jp, jq⟩⟩ := id (⟨hO.inn, hO.out⟩ : IntsAt w s1 o.inn ∧ IntsAt w s2 o.out)
  obtain ⟨o1', c1', o2', c2', o3, c3, o4, c4, q1, d1, q2, d2, q3, d3, q4, d4, e3, e4, rfl, rfl, rfl, rfl, rfl, rfl⟩ := obAt_slices hO
  subst e1
  subst e2
  clear e3 e4 hO hL
  have IP := Lib.hid ip
  have IQ := Lib.hid iq
  have JP := Lib.hid jp
  have JQ := Lib.hid jq
  clear ip iq jp jq
  have RP := Lib.hid (rpieces_any o1 o2 o3 o4 q1 q2 q3 q4 o.inn.length o.out.length o.state.length o.mem.length o.deriv.length o.zero.length o.step.length o.at_.length c1 c2 c3 c4 d1 d2 d3 d4 o.cross o.flags)
  have PS := Lib.hid (piece_slice (o := o) q1 q2 q3 q4 d1 d2 d3 d4)
  unfold obCells at RW ⊢
  have RES : Hid (∀ a : Bool, (!(!a)) = true → a = allR o → o.inn.all oneTwo = true → o.out.all oneTwo = true → (o.inn.length : Int) ≤ 200 → (o.out.length : Int) ≤ 200 → (o.state.length : Int) ≤ 200 → (o.mem.length : Int) ≤ 200 → ¬ o.cross < 0 → o.cross ≤ 200 → ¬ o.flags < 0 → o.flags ≤ 3 → (∀ k, k < 4 → (pieceL o k).length ≤ 4000) → rightB o = true) := Lib.hid (by
    intro a h1 h2 a1 a2 b1 b2 b3 b4 b5 b6 b7 b8 b9
    unfold rightB fitsB
    rw [typed_of a1 b1, typed_of a2 b2, (lens_iff o).2 b9, allR_same, ← h2, decide_eq_true (show o.state.length ≤ 200 by omega), decide_eq_true (show o.mem.length ≤ 200 by omega), decide_eq_true (show 0 ≤ o.cross by omega), decide_eq_true b6, decide_eq_true (show 0 ≤ o.flags by omega), decide_eq_true b8]
    simpa using h1)
  obtain ⟨C, hC⟩ : ∃ C, C = o.cross := ⟨_, rfl⟩
  obtain ⟨F, hF⟩ : ∃ F, F = o.flags := ⟨_, rfl⟩
  rw [← hC, ← hF] at RES RP ⊢
  simp only [← hC, ← hF] at RW
  have X0 := Lib.hid (ten_cells w (.slice o1 o.inn.length c1) (.slice o2 o.out.length c2) (.slice o3 o.state.length c3) (.slice o4 o.mem.length c4) (.int .i64 C) (.int .i64 F) (.slice q1 o.deriv.length d1) (.slice q2 o.zero.length d2) (.slice q3 o.step.length d3) (.slice q4 o.at_.length d4))
  have HA := Lib.hid ((Below.refl w.heap.size w).alloc (Nat.le_refl _) (.cells #[.slice o1 o.inn.length c1, .slice o2 o.out.length c2, .slice o3 o.state.length c3, .slice o4 o.mem.length c4, .int .i64 C, .int .i64 F, .slice q1 o.deriv.length d1, .slice q2 o.zero.length d2, .slice q3 o.step.length d3, .slice q4 o.at_.length d4] 29))
  clear hC hF
  go_enter Tryd.func11, Tryd.ntmps11
  go_wp2_with fail
  obtain ⟨wa, hwa⟩ : ∃ wa, wa = w.alloc (.cells #[.slice o1 o.inn.length c1, .slice o2 o.out.length c2, .slice o3 o.state.length c3, .slice o4 o.mem.length c4, .int .i64 C, .int .i64 F, .slice q1 o.deriv.length d1, .slice q2 o.zero.length d2, .slice q3 o.step.length d3, .slice q4 o.at_.length d4] 29) := ⟨_, rfl⟩
  rw [← hwa] at X0 HA ⊢
  clear hwa
  have x0 := X0.out 0 _ rfl
  have x1 := X0.out 1 _ rfl
  have x2 := X0.out 2 _ rfl
  have x3 := X0.out 3 _ rfl
  have x4 := X0.out 4 _ rfl
  have x5 := X0.out 5 _ rfl
  have x6 := X0.out 6 _ rfl
  have x7 := X0.out 7 _ rfl
  have x8 := X0.out 8 _ rfl
  have x9 := X0.out 9 _ rfl
  go_loopw [3] (fun i wr => ∃ (c : Nat), i = .int .i64 (c : Int) ∧ Hid ((o.inn.take c).all oneTwo = true) ∧ c ≤ o.inn.length ∧ wa = wr) (fun i _ => match i with | .int _ z => o.inn.length - z.toNat | _ => 0)
  case atStart => exact ⟨0, rfl, Lib.hid (by simp), Nat.zero_le _, rfl⟩
  case round =>
    obtain ⟨c, rfl, hI, hc, rfl⟩ := hrel
    rcases Nat.lt_or_ge c o.inn.length with hlt | hge
    · have hcl : (c : Int) < (o.inn.length : Int) := by omega
      obtain ⟨x, hx⟩ : ∃ x, o.inn[c]? = some x := ⟨_, List.getElem?_eq_getElem hlt⟩
      have z0 : wa.cell? ⟨ib, io + c, none⟩ = some (.int .i64 x) := cell_on HA.out (by
        have := IQ.out c hlt
        rw [Nat.mul_one, List.getD_eq_getElem?_getD, hx] at this
        exact this)
      have ix1 := ix_ints (cap := c1) IP.out hlt (by omega)
      unfold Ix at ix1
      rw [Nat.mul_one] at ix1
      have HX := Lib.hid hx
      clear hx
      by_cases h1 : x = 1
      · have q1 : (x != 1) = false := by simp [h1]
        have hI2 := Lib.hid (all_next HX.out hI.out (show oneTwo x = true by unfold oneTwo; simp [h1]))
        clear h1
        go_wp2_with fail
        exact ⟨⟨c + 1, by go_num, hI2, by omega, trivial⟩, by simp; omega⟩
      · have q1 : (x != 1) = true := bne_iff_ne.2 h1
        clear h1
        by_cases h2 : x = 2
        · have q2 : (x != 2) = false := by simp [h2]
          have hI2 := Lib.hid (all_next HX.out hI.out (show oneTwo x = true by unfold oneTwo; simp [h2]))
          clear h2
          go_wp2_with fail
          exact ⟨⟨c + 1, by go_num, hI2, by omega, trivial⟩, by simp; omega⟩
        · have q2 : (x != 2) = true := bne_iff_ne.2 h2
          clear h2
          go_wp2_with fail
          go_ret
          exact ⟨false, rfl, (fun h => by cases h), HA.out⟩
    · have hce : c = o.inn.length := by omega
      have hno : ¬ (c : Int) < (o.inn.length : Int) := by omega
      have A1 : Hid (o.inn.all oneTwo = true) := Lib.hid (by have := hI.out; rwa [hce, List.take_length] at this)
      clear hce hI hge hc
      go_wp2_with fail
      go_loopw [4] (fun i wr => ∃ (c : Nat), i = .int .i64 (c : Int) ∧ Hid ((o.out.take c).all oneTwo = true) ∧ c ≤ o.out.length ∧ wa = wr) (fun i _ => match i with | .int _ z => o.out.length - z.toNat | _ => 0)
      case atStart => exact ⟨0, rfl, Lib.hid (by simp), Nat.zero_le _, rfl⟩
      case round =>
        obtain ⟨c, rfl, hI, hc, rfl⟩ := hrel
        rcases Nat.lt_or_ge c o.out.length with hlt | hge
        · have hcl : (c : Int) < (o.out.length : Int) := by omega
          obtain ⟨x, hx⟩ : ∃ x, o.out[c]? = some x := ⟨_, List.getElem?_eq_getElem hlt⟩
          have z0 : wa.cell? ⟨jb, jo + c, none⟩ = some (.int .i64 x) := cell_on HA.out (by
            have := JQ.out c hlt
            rw [Nat.mul_one, List.getD_eq_getElem?_getD, hx] at this
            exact this)
          have ix1 := ix_ints (cap := c2) JP.out hlt (by omega)
          unfold Ix at ix1
          rw [Nat.mul_one] at ix1
          have HX := Lib.hid hx
          clear hx
          by_cases h1 : x = 1
          · have q1 : (x != 1) = false := by simp [h1]
            have hI2 := Lib.hid (all_next HX.out hI.out (show oneTwo x = true by unfold oneTwo; simp [h1]))
            clear h1
            go_wp2_with fail
            exact ⟨⟨c + 1, by go_num, hI2, by omega, trivial⟩, by simp; omega⟩
          · have q1 : (x != 1) = true := bne_iff_ne.2 h1
            clear h1
            by_cases h2 : x = 2
            · have q2 : (x != 2) = false := by simp [h2]
              have hI2 := Lib.hid (all_next HX.out hI.out (show oneTwo x = true by unfold oneTwo; simp [h2]))
              clear h2
              go_wp2_with fail
              exact ⟨⟨c + 1, by go_num, hI2, by omega, trivial⟩, by simp; omega⟩
            · have q2 : (x != 2) = true := bne_iff_ne.2 h2
              clear h2
              go_wp2_with fail
              go_ret
              exact ⟨false, rfl, (fun h => by cases h), HA.out⟩
        · have hce : c = o.out.length := by omega
          have hno : ¬ (c : Int) < (o.out.length : Int) := by omega
          have A2 : Hid (o.out.all oneTwo = true) := Lib.hid (by have := hI.out; rwa [hce, List.take_length] at this)
          clear hce hI hge hc
          by_cases g0 : (200 : Int) < (o.inn.length : Int)
          · go_wp2_with fail
            go_ret
            exact ⟨false, rfl, (fun h => by cases h), HA.out⟩
          have k0 : (o.inn.length : Int) ≤ 200 := by omega
          by_cases g1 : (200 : Int) < (o.out.length : Int)
          · go_wp2_with fail
            go_ret
            exact ⟨false, rfl, (fun h => by cases h), HA.out⟩
          have k1 : (o.out.length : Int) ≤ 200 := by omega
          by_cases g2 : (200 : Int) < (o.state.length : Int)
          · go_wp2_with fail
            go_ret
            exact ⟨false, rfl, (fun h => by cases h), HA.out⟩
          have k2 : (o.state.length : Int) ≤ 200 := by omega
          by_cases g3 : (200 : Int) < (o.mem.length : Int)
          · go_wp2_with fail
            go_ret
            exact ⟨false, rfl, (fun h => by cases h), HA.out⟩
          have k3 : (o.mem.length : Int) ≤ 200 := by omega
          by_cases g4 : C < 0
          · go_wp2_with fail
            go_ret
            exact ⟨false, rfl, (fun h => by cases h), HA.out⟩
          have k4 : ¬ C < 0 := by omega
          by_cases g5 : (200 : Int) < C
          · go_wp2_with fail
            go_ret
            exact ⟨false, rfl, (fun h => by cases h), HA.out⟩
          have k5 : C ≤ 200 := by omega
          by_cases g6 : F < 0
          · go_wp2_with fail
            go_ret
            exact ⟨false, rfl, (fun h => by cases h), HA.out⟩
          have k6 : ¬ F < 0 := by omega
          by_cases g7 : (3 : Int) < F
          · go_wp2_with fail
            go_ret
            exact ⟨false, rfl, (fun h => by cases h), HA.out⟩
          have k7 : F ≤ 3 := by omega
          have K0 := Lib.hid k0
          have K1 := Lib.hid k1
          have K2 := Lib.hid k2
          have K3 := Lib.hid k3
          have K4 := Lib.hid k4
          have K5 := Lib.hid k5
          have K6 := Lib.hid k6
          have K7 := Lib.hid k7
          go_wp2_with (go_at_call 14; (with_reducible refine (RP.out _).mono ?_); rintro e w1 ⟨rfl, hrow, hb1⟩; have HROW := Lib.hid hrow; have HB1 := Lib.hid hb1; clear hrow hb1)
          have HBW := Lib.hid (HA.out.trans (HB1.out.mono HA.out.size))
          have HROW2 : Hid (RowAt w1 (wa.heap.size + 1) (.slice q1 o.deriv.length d1) (.slice q2 o.zero.length d2) (.slice q3 o.step.length d3) (.slice q4 o.at_.length d4)) := Lib.hid HROW.out
          have y0 := cell_on HB1.out x0
          have y1 := cell_on HB1.out x1
          have y2 := cell_on HB1.out x2
          have y3 := cell_on HB1.out x3
          have y4 := cell_on HB1.out x4
          have y5 := cell_on HB1.out x5
          have y6 := cell_on HB1.out x6
          have y7 := cell_on HB1.out x7
          have y8 := cell_on HB1.out x8
          have y9 := cell_on HB1.out x9
          clear x0 x1 x2 x3 x4 x5 x6 x7 x8 x9 HROW
          obtain ⟨P, hP⟩ : ∃ P, P = wa.heap.size + 1 := ⟨_, rfl⟩
          rw [← hP] at HROW2 ⊢
          clear hP k0 k1 k2 k3 k4 k5 k6 k7 g0 g1 g2 g3 g4 g5 g6 g7
          go_loopw [6] (fun i wr => ∃ (k : Nat), i = .int .i64 (k : Int) ∧ Hid (∀ j, j < k → (pieceL o j).length ≤ 4000) ∧ k ≤ 4 ∧ w1 = wr) (fun i _ => match i with | .int _ z => 4 - z.toNat | _ => 0)
          case atStart => exact ⟨0, rfl, Lib.hid (fun j h => by omega), Nat.zero_le _, rfl⟩
          case round =>
            obtain ⟨k, rfl, hI, hk, rfl⟩ := hrel
            rcases Nat.lt_or_ge k 4 with hk4 | hk4
            · have hk5 : (k : Int) < 4 := by omega
              have ixr := ix_row (P := P) hk4
              have r0 := HROW2.out.cell hk4
              obtain ⟨q, dq, hq⟩ := PS.out k hk4
              rw [hq] at r0
              obtain ⟨m, hm⟩ : ∃ m, m = (pieceL o k).length := ⟨_, rfl⟩
              have hml := h3.out k hk4
              rw [← hm] at r0 hml
              have HM := Lib.hid hm
              have hm2 : (m : Int) ≤ 140737488351232 := by omega
              clear hq hm hml
              by_cases hg : (4000 : Int) < (m : Int)
              · go_wp2_with fail
                go_ret
                exact ⟨false, rfl, (fun h => by cases h), HBW.out⟩
              · have hI2 : Hid (∀ j, j < k + 1 → (pieceL o j).length ≤ 4000) := Lib.hid (fun j hj => by
                  rcases Nat.lt_or_ge j k with h | h
                  · exact hI.out j h
                  · obtain rfl : j = k := by omega
                    have := HM.out
                    omega)
                go_wp2_with fail
                exact ⟨⟨k + 1, by go_num, hI2, by omega, trivial⟩, by simp; omega⟩
            · obtain rfl : k = 4 := by omega
              have hno : ¬ ((4 : Nat) : Int) < 4 := by omega
              obtain ⟨al, hal⟩ : ∃ al, al = allR o := ⟨_, rfl⟩
              simp only [← hal] at RW
              have HAL := Lib.hid hal
              clear hal
              go_wp2_with (go_at_call 20; (with_reducible refine (RW.out _ HBW.out).mono ?_); rintro e w5 ⟨hb5, a, b, rfl⟩; have HB5 := Lib.hid hb5; clear hb5)
              go_ret
              exact ⟨_, rfl, (fun h => RES.out al (by simpa using h) HAL.out A1.out A2.out K0.out K1.out K2.out K3.out K4.out K5.out K6.out K7.out hI.out), HBW.out.trans (HB5.out.mono HBW.out.size)⟩
end Go.Proofs.YtceadfkjknjaoaaDoor
