/- The reference's Wrong and Right. -/
import Derived.Test.YtceadfkjknjaoaaDoorVeOneAll
import Derived.Test.YtceadfkjknjaoaaDoorVeIter
import Derived.Test.YtceadfkjknjaoaaDoorVeRightO
namespace Go.Proofs.YtceadfkjknjaoaaDoor
open Go.RowKit Co

attribute [local go_sem] Oper.semAt_some

def okR (o : Ob) (q : Pl) : Bool := oneOk o q.1 q.2.2 (((pieceL o q.1).length : Int) - 1 - (q.2.1 : Int))
theorem okR_same {o : Ob} {q : Pl} (h : q.1 < 4) : okP o q = okR o q := rows_same o q.1 q.2.2 _ h
def allR (o : Ob) : Bool := (insTo o 4).all (okR o)
theorem allR_same (o : Ob) : allB o = allR o := by
  unfold allB allR
  have : ∀ q ∈ insTo o 4, okP o q = okR o q := fun q hq => okR_same (ins_mem hq).1
  rw [Bool.eq_iff_iff, List.all_eq_true, List.all_eq_true]
  exact ⟨fun h q hq => by rw [← this q hq]; exact h q hq, fun h q hq => by rw [this q hq]; exact h q hq⟩
/-- the four slices, in a row -/
def RowAt (w : World) (P : Nat) (t1 t2 t3 t4 : Value) : Prop := w.heap[P]? = some (.cells #[t1, t2, t3, t4] 22 (0, 0))
theorem RowAt.cell {w : World} {P : Nat} {t1 t2 t3 t4 : Value} (h : RowAt w P t1 t2 t3 t4) {k : Nat} (hk : k < 4) : w.cell? ⟨P, k, none⟩ = some ([t1, t2, t3, t4].getD k undef) := by
  unfold RowAt at h
  rcases (show k = 0 ∨ k = 1 ∨ k = 2 ∨ k = 3 by omega) with rfl | rfl | rfl | rfl <;> simp [World.cell?, h]
theorem ix_row {P k : Nat} (hk : k < 4) : ∀ W, (Instr.indexAt 33 (.slice (some ⟨P, 0, none⟩) 4 4) (.int .i64 (k : Int))).run Tryd.prog W = .ok (.pointer (some ⟨P, k, none⟩)) W := by
  intro W
  rcases (show k = 0 ∨ k = 1 ∨ k = 2 ∨ k = 3 by omega) with rfl | rfl | rfl | rfl
  all_goals go_simp
/-- the first (k, i) places are right -/
def SoFar (o : Ob) (k i : Nat) : Prop := ∀ q ∈ insTo o k ++ (insP o k).take i, okR o q = true
theorem six_form (x : Six) : x = ⟨x.op, x.d, x.a, x.b, x.c, x.v⟩ := rfl
set_option maxHeartbeats 16000000 in
set_option maxRecDepth 100000 in
theorem rwrong_any (o : Ob) (s1 s2 s3 s4 t1 t2 t3 t4 : Value) (w : World) (hO : ObAt w s1 s2 s3 s4 t1 t2 t3 t4 o) (hL : ObLen o) :
    Calls Tryd.prog 20 #[.agg (obCells s1 s2 s3 s4 o.cross o.flags t1 t2 t3 t4)] w fun e w' => Below w.heap.size w w' ∧ ∃ a b : Nat, e = .returned (.tuple #[.int .i64 (a : Int), .int .i64 (b : Int), .bool (!(allR o))]) := by
  have h3 : Hid (∀ k, k < 4 → (pieceL o k).length ≤ 140737488351232) := Lib.hid fun j hj => by
    have h5 := hL.deriv
    have h6 := hL.zero
    have h7 := hL.step
    have h8 := hL.at_
    rcases (show j = 0 ∨ j = 1 ∨ j = 2 ∨ j = 3 by omega) with rfl | rfl | rfl | rfl
    · exact h5
    · exact h6
    · exact h7
    · exact h8
  have hp3 : Hid (∀ k, k < 4 → PieceAt w (pieceL o k) ([t1, t2, t3, t4].getD k undef)) := Lib.hid fun j hj => by
    have one : ∀ {l : List Six} {s : Value}, SixesAt w s l → PieceAt w l s := fun h => by
      obtain ⟨q, cap, b, off, rfl, _, _, h4, h5⟩ := h
      exact ⟨q, cap, b, off, rfl, h4, h5⟩
    rcases (show j = 0 ∨ j = 1 ∨ j = 2 ∨ j = 3 by omega) with rfl | rfl | rfl | rfl
    · exact one hO.deriv
    · exact one hO.zero
    · exact one hO.step
    · exact one hO.at_
  obtain ⟨o1, c1, o2, c2, o3, c3, o4, c4, q1, d1, q2, d2, q3, d3, q4, d4, rfl, rfl, rfl, rfl, rfl, rfl, rfl, rfl⟩ := obAt_slices hO
  clear hO hL
  have RP := Lib.hid (rpieces_any o1 o2 o3 o4 q1 q2 q3 q4 o.inn.length o.out.length o.state.length o.mem.length o.deriv.length o.zero.length o.step.length o.at_.length c1 c2 c3 c4 d1 d2 d3 d4 o.cross o.flags)
  have ON := Lib.hid (one_any o o1 o2 o3 o4 q1 q2 q3 q4 c1 c2 c3 c4 d1 d2 d3 d4)
  unfold obV six0V at ON
  unfold obCells
  have X0 := Lib.hid (ten_cells w (.slice o1 o.inn.length c1) (.slice o2 o.out.length c2) (.slice o3 o.state.length c3) (.slice o4 o.mem.length c4) (.int .i64 o.cross) (.int .i64 o.flags) (.slice q1 o.deriv.length d1) (.slice q2 o.zero.length d2) (.slice q3 o.step.length d3) (.slice q4 o.at_.length d4))
  have HA := Lib.hid ((Below.refl w.heap.size w).alloc (Nat.le_refl _) (.cells #[.slice o1 o.inn.length c1, .slice o2 o.out.length c2, .slice o3 o.state.length c3, .slice o4 o.mem.length c4, .int .i64 o.cross, .int .i64 o.flags, .slice q1 o.deriv.length d1, .slice q2 o.zero.length d2, .slice q3 o.step.length d3, .slice q4 o.at_.length d4] 29))
  go_enter Tryd.func20, Tryd.ntmps20
  go_wp2_with (go_at_call 14; (with_reducible refine (RP.out _).mono ?_); rintro e w1 ⟨rfl, hrow, hb1⟩; have HROW := Lib.hid hrow; have HB1 := Lib.hid (HA.out.trans (hb1.mono HA.out.size)); have HX : Hid (∀ j u, [Value.slice o1 o.inn.length c1, .slice o2 o.out.length c2, .slice o3 o.state.length c3, .slice o4 o.mem.length c4, .int .i64 o.cross, .int .i64 o.flags, .slice q1 o.deriv.length d1, .slice q2 o.zero.length d2, .slice q3 o.step.length d3, .slice q4 o.at_.length d4][j]? = some u → w1.cell? ⟨w.heap.size, j, none⟩ = some u) := Lib.hid (fun j u h => cell_on hb1 (X0.out j u h)); clear hrow hb1)
  have HROW2 : Hid (RowAt w1 (w.heap.size + 1 + 1) (.slice q1 o.deriv.length d1) (.slice q2 o.zero.length d2) (.slice q3 o.step.length d3) (.slice q4 o.at_.length d4)) := Lib.hid (by have h := HROW.out; simp only [World.size_alloc] at h; exact h)
  clear HROW RP X0
  obtain ⟨P, hP⟩ : ∃ P, P = w.heap.size + 1 + 1 := ⟨_, rfl⟩
  rw [← hP] at HROW2 ⊢
  clear hP
  go_loopw [6] (fun i wr => ∃ (k : Nat), i = .int .i64 (k : Int) ∧ Hid (∀ q ∈ insTo o k, okR o q = true) ∧ k ≤ 4 ∧ Hid (Below w1.heap.size w1 wr)) (fun i _ => match i with | .int _ z => 4 - z.toNat | _ => 0)
  case atStart => exact ⟨0, rfl, Lib.hid (fun q h => by simp [insTo] at h), Nat.zero_le _, Lib.hid (Below.refl _ _)⟩
  case round =>
    obtain ⟨k, rfl, hI, hk, hB⟩ := hrel
    rcases Nat.lt_or_ge k 4 with hk4 | hk4
    · have hk5 : (k : Int) < 4 := by omega
      have ixr := ix_row (P := P) hk4
      have hI0 : Hid (SoFar o k 0) := Lib.hid (fun q h => by rw [List.take_zero, List.append_nil] at h; exact hI.out q h)
      obtain ⟨q, dq, b, off, hq, hq1, hq2⟩ := hp3.out k hk4
      have HC := Lib.hid hq
      obtain ⟨m, hm⟩ : ∃ m, m = (pieceL o k).length := ⟨_, rfl⟩
      have hml := h3.out k hk4
      rw [← hm] at HC hq1 hml
      have HM := Lib.hid hm
      have hm2 : (m : Int) ≤ 140737488351232 := by omega
      have HQ1 := Lib.hid hq1
      have HQ2 := Lib.hid hq2
      clear hq hq1 hq2 hm hml
      go_wp2_with fail
      go_loopw [7] (fun i wq => ∃ (c : Nat), i = .int .i64 (c : Int) ∧ Hid (SoFar o k c) ∧ c ≤ m ∧ Hid (Below w1.heap.size w1 wq)) (fun i _ => match i with | .int _ z => m - z.toNat | _ => 0)
      case atStart => exact ⟨0, rfl, hI0, Nat.zero_le _, hB⟩
      case round =>
        obtain ⟨c, rfl, hS, hc, hBc⟩ := hrel
        have r0 := cell_on hBc.out (HROW2.out.cell hk4)
        rw [HC.out] at r0
        rcases Nat.lt_or_ge c m with hlt | hge
        · have hcl : (c : Int) < (m : Int) := by omega
          obtain ⟨x, hx⟩ : ∃ x, (pieceL o k)[c]? = some x := ⟨_, List.getElem?_eq_getElem (by rw [← HM.out]; exact hlt)⟩
          have htk := Lib.hid (insP_take hx)
          obtain ⟨z0, z1, z2, z3, z4, z5⟩ := ((HQ2.out c (by rw [← HM.out]; exact hlt) x hx).below HB1.out).below hBc.out
          have ix1 := ix_sixes (cap := dq) HQ1.out hlt (by omega)
          unfold Ix at ix1
          have CQ := Lib.hid fun pr : Regrown => Calls.regrown_of (ON.out k hk4 x ((m : Int) - (c : Int) - 1) (by omega) (by omega) (Go.Sort.grow (redrawn wr pr.d) pr.os))
          have hok : Hid (okR o (k, c, x) = oneOk o k x ((m : Int) - (c : Int) - 1)) := Lib.hid (by
            unfold okR
            simp only
            rw [← HM.out, show (m : Int) - 1 - (c : Int) = (m : Int) - (c : Int) - 1 by omega])
          have hmem := Lib.hid (mem_ins hk4 hx)
          obtain ⟨ok, hoke⟩ : ∃ ok, ok = oneOk o k x ((m : Int) - (c : Int) - 1) := ⟨_, rfl⟩
          simp only [← hoke] at CQ hok
          obtain ⟨op, d, a, b1, c5, v⟩ := x
          simp only at z0 z1 z2 z3 z4 z5 CQ
          clear hx hoke
          have G := fun (j : Nat) (u : Value) (h : [Value.slice o1 o.inn.length c1, .slice o2 o.out.length c2, .slice o3 o.state.length c3, .slice o4 o.mem.length c4, .int .i64 o.cross, .int .i64 o.flags, .slice q1 o.deriv.length d1, .slice q2 o.zero.length d2, .slice q3 o.step.length d3, .slice q4 o.at_.length d4][j]? = some u) (pr : Regrown) => cell_regrown (cell_on hBc.out (HX.out j u h)) pr.d pr.os
          have G0 := G 0 _ rfl
          have G1 := G 1 _ rfl
          have G2 := G 2 _ rfl
          have G3 := G 3 _ rfl
          have G4 := G 4 _ rfl
          have G5 := G 5 _ rfl
          have G6 := G 6 _ rfl
          have G7 := G 7 _ rfl
          have G8 := G 8 _ rfl
          have G9 := G 9 _ rfl
          have R0 := fun pr : Regrown => cell_regrown r0 pr.d pr.os
          have Z0 := fun pr : Regrown => cell_regrown z0 pr.d pr.os
          have Z1 := fun pr : Regrown => cell_regrown z1 pr.d pr.os
          have Z2 := fun pr : Regrown => cell_regrown z2 pr.d pr.os
          have Z3 := fun pr : Regrown => cell_regrown z3 pr.d pr.os
          have Z4 := fun pr : Regrown => cell_regrown z4 pr.d pr.os
          have Z5 := fun pr : Regrown => cell_regrown z5 pr.d pr.os
          clear G
          go_wp2_with fail
          clear r0 z0 z1 z2 z3 z4 z5
          refine wp_region_quiet_below (by kernel_rfl) (by kernel_rfl) ?_
          repeat (go_big_quiet_step (with_reducible exact CQ.out _))
          refine wpQuiet_nil ?_
          intro w4 hw4
          have HB4 : Hid (Below wr.heap.size wr w4) := Lib.hid (by obtain ⟨pr, rfl⟩ := hw4; exact below_regrown _ _ _)
          clear hw4 G0 G1 G2 G3 G4 G5 G6 G7 G8 G9 R0 Z0 Z1 Z2 Z3 Z4 Z5 CQ
          have HBN := Lib.hid (hBc.out.trans (HB4.out.mono hBc.out.size))
          cases ok with
          | true =>
            have hS2 : Hid (SoFar o k (c + 1)) := Lib.hid (fun q hq => by
              rw [htk.out, ← List.append_assoc] at hq
              rcases List.mem_append.1 hq with h | h
              · exact hS.out q h
              · obtain rfl := List.mem_singleton.1 h
                exact hok.out)
            go_wp2_with fail
            exact ⟨⟨c + 1, by go_num, hS2, by omega, HBN⟩, by simp; omega⟩
          | false =>
            have hno : Hid (allR o = false) := Lib.hid (by
              rw [Bool.eq_false_iff]
              intro h
              have := List.all_eq_true.1 h _ hmem.out
              rw [hok.out] at this
              cases this)
            go_wp2_with fail
            go_ret3
            exact ⟨HB1.out.trans (HBN.out.mono HB1.out.size), k, c, by rw [hno.out]; rfl⟩
        · obtain rfl : m = c := by omega
          have hno : ¬ (m : Int) < (m : Int) := by omega
          have hI2 : Hid (∀ q ∈ insTo o (k + 1), okR o q = true) := Lib.hid (fun q hq => by
            refine hS.out q ?_
            rw [List.take_of_length_le (by rw [insP_len, ← HM.out]; exact Nat.le_refl _), ← insTo_succ]
            exact hq)
          go_wp2_with fail
          exact ⟨⟨k + 1, by go_num, hI2, by omega, hBc⟩, by simp; omega⟩
    · obtain rfl : k = 4 := by omega
      have hno : ¬ ((4 : Nat) : Int) < 4 := by omega
      have hal : Hid (allR o = true) := Lib.hid (List.all_eq_true.2 hI.out)
      go_wp2_with fail
      go_ret3
      exact ⟨HB1.out.trans (hB.out.mono HB1.out.size), 0, 0, by rw [hal.out]; rfl⟩
end Go.Proofs.YtceadfkjknjaoaaDoor
