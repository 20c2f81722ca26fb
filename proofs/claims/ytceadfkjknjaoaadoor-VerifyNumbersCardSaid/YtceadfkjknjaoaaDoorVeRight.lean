/- verify.right: is an instruction right, in its place? -/
import Derived.Test.YtceadfkjknjaoaaDoorVeRoom
namespace Go.Proofs.YtceadfkjknjaoaaDoor
open Go.RowKit Co

attribute [local go_sem] Oper.semAt_some

theorem place_cells (w : World) (p : Nat) (n bh : Int) : ∀ j u, [Value.int .i64 (p : Int), .int .i64 n, .int .i64 bh][j]? = some u → (w.alloc (.cells #[.int .i64 (p : Int), .int .i64 n, .int .i64 bh] 58)).cell? ⟨w.heap.size, j, none⟩ = some u := fun j u hu => by
  rw [World.cell?_alloc_new, ← Array.getElem?_toList]; exact hu
theorem part_cells (w : World) (is u : Int) : ∀ j y, [Value.int .i64 is, .int .i64 u][j]? = some y → (w.alloc (.cells #[.int .i64 is, .int .i64 u] 41)).cell? ⟨w.heap.size, j, none⟩ = some y := fun j y hu => by
  rw [World.cell?_alloc_new, ← Array.getElem?_toList]; exact hu
theorem row_cells (w : World) (d a b c : Int) (v : Bool) (m : Int) : ∀ j u, [Value.int .i64 d, .int .i64 a, .int .i64 b, .int .i64 c, .bool v, .int .u64 m][j]? = some u → (w.alloc (.cells #[.int .i64 d, .int .i64 a, .int .i64 b, .int .i64 c, .bool v, .int .u64 m] 45)).cell? ⟨w.heap.size, j, none⟩ = some u := fun j u hu => by
  rw [World.cell?_alloc_new, ← Array.getElem?_toList]; exact hu
set_option maxHeartbeats 16000000 in
set_option maxRecDepth 100000 in
theorem right_any (o : Ob) (x : Six) (hxo : x.ok) (p : Nat) (hp : p < 4) (n bh : Int) (h1 : 0 ≤ bh) (h2 : bh ≤ 140737488351232) (X M : Nat) (w : World) (hT : TabAt w) (hR : RoomAt w X M o) :
    Calls Tryd.prog 25 #[sixV x, placeV p n bh, roomF X M] w fun e w' => e = .returned (.bool (codeOk o p x bh)) ∧ Below w.heap.size w w' := by
  have RF := Lib.hid (rows_few x.op)
  obtain ⟨op, d, a, b, c, v⟩ := x
  unfold sixV placeV roomF
  have RO := Lib.hid (fun (W : World) (hb : Below w.heap.size w W) => rowOf_any op W (hT.below hb))
  obtain ⟨r, hr⟩ : ∃ r, r = rowR op := ⟨_, rfl⟩
  obtain ⟨D, hD⟩ : ∃ D, D = codeOk o p ⟨op, d, a, b, c, v⟩ bh := ⟨_, rfl⟩
  rw [← hD]
  simp only at RF
  rw [← hr] at RF
  simp only [← hr] at RO
  have HD := Lib.hid hD
  have HR := Lib.hid hr
  clear hD hr
  obtain ⟨rd, ra, rb, rc, rv, rm⟩ := r
  unfold rowV at RO
  have B2 := Lib.hid ((((Below.refl w.heap.size w).alloc (Nat.le_refl _) (.cells #[.int .i64 op, .int .i64 d, .int .i64 a, .int .i64 b, .int .i64 c, .int .i64 v] 39)).alloc (by simp) (.cells #[.int .i64 (p : Int), .int .i64 n, .int .i64 bh] 58)))
  go_enter Tryd.func25, Tryd.ntmps25
  go_wp2_with (go_at_call 17; (with_reducible refine (RO.out _ B2.out).mono ?_); rintro e w1 ⟨rfl, hb1⟩; have HB1 := Lib.hid hb1; clear hb1)
  have xs := six_cells w op d a b c v
  have ps := place_cells (w.alloc (.cells #[.int .i64 op, .int .i64 d, .int .i64 a, .int .i64 b, .int .i64 c, .int .i64 v] 39)) p n bh
  have rs := row_cells w1 rd ra rb rc rv rm
  have hw12 : Below w1.heap.size w1 (w1.alloc (.cells #[.int .i64 rd, .int .i64 ra, .int .i64 rb, .int .i64 rc, .bool rv, .int .u64 rm] 45)) := (Below.refl _ w1).alloc (Nat.le_refl _) _
  obtain ⟨w2, hw2⟩ : ∃ w2, w2 = w1.alloc (.cells #[.int .i64 rd, .int .i64 ra, .int .i64 rb, .int .i64 rc, .bool rv, .int .u64 rm] 45) := ⟨_, rfl⟩
  rw [← hw2] at rs hw12 ⊢
  clear hw2
  have hfar := HB1.out.trans (hw12.mono HB1.out.size)
  have XS : Hid (∀ j u, [Value.int .i64 op, .int .i64 d, .int .i64 a, .int .i64 b, .int .i64 c, .int .i64 v][j]? = some u → w2.cell? ⟨w.heap.size, j, none⟩ = some u) := Lib.hid fun j u h => cell_on (((Below.refl _ _).alloc (Nat.le_refl _) _ |>.trans (hfar.mono (by simp)))) (xs j u h)
  have PS : Hid (∀ j u, [Value.int .i64 (p : Int), .int .i64 n, .int .i64 bh][j]? = some u → w2.cell? ⟨w.heap.size + 1, j, none⟩ = some u) := Lib.hid fun j u h => cell_on hfar (by have := ps j u h; simpa using this)
  have RS := Lib.hid rs
  clear xs ps rs
  have G0 := fun pr : Regrown => cell_regrown (RS.out 4 _ rfl) pr.d pr.os
  have G1 := fun pr : Regrown => cell_regrown (RS.out 5 _ rfl) pr.d pr.os
  have G2 := fun pr : Regrown => cell_regrown (PS.out 0 _ rfl) pr.d pr.os
  have G3 := fun pr : Regrown => cell_regrown (XS.out 5 _ rfl) pr.d pr.os
  have PP := Lib.hid (parts_any ⟨rd, ra, rb, rc, rv, rm⟩ ⟨op, d, a, b, c, v⟩)
  unfold rowV sixV at PP
  have hS : (bits BinOp.and IntKind.u64 rm (IntKind.u64.wrap (2 ^ p)) == 0) = !(stands rm p) := by
    rcases RF.out.1 with h | h | h | h <;> (subst h; rcases (show p = 0 ∨ p = 1 ∨ p = 2 ∨ p = 3 by omega) with rfl | rfl | rfl | rfl <;> decide)
  obtain ⟨S, hSS⟩ : ∃ S, S = stands rm p := ⟨_, rfl⟩
  rw [← hSS] at hS
  have HS := Lib.hid hSS
  clear hSS
  have RM := Lib.hid (fun (W : World) (hb : Below w.heap.size w W) (is : Int) (hi : 0 ≤ is ∧ is ≤ 7) => room_any o is hi p hp n bh h1 h2 X M W (hR.below hb))
  have HFA := Lib.hid (B2.out.trans (hfar.mono B2.out.size))
  clear hT hR
  cases S with
  | false =>
    have HF : Hid (D = false) := Lib.hid (by rw [HD.out]; refine codeOk_says ?_; simp only; rw [← HR.out]; unfold rowSays; simp only; rw [← HS.out]; rfl)
    refine wp_region_quiet_below (by kernel_rfl) (by kernel_rfl) ?_
    repeat (go_big_quiet_step (fail))
    refine wpQuiet_nil ?_
    intro w4 hw4
    have HB4 : Hid (Below w2.heap.size w2 w4) := Lib.hid (by obtain ⟨pr, rfl⟩ := hw4; exact below_regrown _ _ _)
    clear hw4 G0 G1 G2 G3
    go_wp2_with fail
    go_ret
    exact ⟨by rw [HF.out]; rfl, B2.out.trans ((hfar.trans (HB4.out.mono hfar.size)).mono B2.out.size)⟩
  | true =>
    by_cases hv : v = 0
    · have qv : (v != 0) = false := by simp [hv]
      have HW : Hid (rowSays ⟨rd, ra, rb, rc, rv, rm⟩ p v = true) := Lib.hid (by unfold rowSays; simp only; rw [← HS.out]; simp [hv])
      clear hv
      refine wp_region_quiet_below (by kernel_rfl) (by kernel_rfl) ?_
      repeat (go_big_quiet_step (fail))
      refine wpQuiet_nil ?_
      intro w4 hw4
      have HB4 : Hid (Below w2.heap.size w2 w4) := Lib.hid (by obtain ⟨pr, rfl⟩ := hw4; exact below_regrown _ _ _)
      clear hw4 G0 G1 G2 G3
      have a0 := cell_on HB4.out (RS.out 0 _ rfl)
      have a1 := cell_on HB4.out (RS.out 1 _ rfl)
      have a2 := cell_on HB4.out (RS.out 2 _ rfl)
      have a3 := cell_on HB4.out (RS.out 3 _ rfl)
      have a4 := cell_on HB4.out (RS.out 4 _ rfl)
      have a5 := cell_on HB4.out (RS.out 5 _ rfl)
      have b0 := cell_on HB4.out (XS.out 0 _ rfl)
      have b1 := cell_on HB4.out (XS.out 1 _ rfl)
      have b2 := cell_on HB4.out (XS.out 2 _ rfl)
      have b3 := cell_on HB4.out (XS.out 3 _ rfl)
      have b4 := cell_on HB4.out (XS.out 4 _ rfl)
      have b5 := cell_on HB4.out (XS.out 5 _ rfl)
      go_wp2_with (go_at_call 18; (with_reducible refine (PP.out _).mono ?_); rintro e w5 ⟨rfl, hb5⟩; have HB5 := Lib.hid (HB4.out.trans (hb5.mono HB4.out.size)); clear hb5)
      clear a0 a1 a2 a3 a4 a5 b0 b1 b2 b3 b4 b5
      go_loopw [33] (fun i wr => ∃ (j : Nat), i = .int .i64 (j : Int) ∧ Hid (fitTo o ⟨rd, ra, rb, rc, rv, rm⟩ ⟨op, d, a, b, c, v⟩ p bh j) ∧ j ≤ 4 ∧ Hid (Below w2.heap.size w2 wr)) (fun i _ => match i with | .int _ z => 4 - z.toNat | _ => 0)
      case atStart => exact ⟨0, rfl, Lib.hid (fun k hk => by omega), Nat.zero_le _, HB5⟩
      case round =>
        obtain ⟨j, rfl, hI, hj, hB⟩ := hrel
        rcases Nat.lt_or_ge j 4 with hj4 | hj4
        · have hj5 : (j : Int) < 4 := by omega
          have ix := Lib.hid (ix_part ⟨rd, ra, rb, rc, rv, rm⟩ ⟨op, d, a, b, c, v⟩ j hj4 wr)
          have hri := RF.out.2 j hj4
          have hnot : Hid (inB (partN ⟨op, d, a, b, c, v⟩ j) (room o (partIs ⟨rd, ra, rb, rc, rv, rm⟩ j) p bh) = false → D = false) := Lib.hid (fun h => by rw [HD.out]; refine codeOk_not hj4 ?_; simp only; rw [← HR.out]; exact h)
          have hyes : Hid (inB (partN ⟨op, d, a, b, c, v⟩ j) (room o (partIs ⟨rd, ra, rb, rc, rv, rm⟩ j) p bh) = true → fitTo o ⟨rd, ra, rb, rc, rv, rm⟩ ⟨op, d, a, b, c, v⟩ p bh (j + 1)) := Lib.hid (fun h k hk => by
            rcases Nat.lt_or_ge k j with h1 | h1
            · exact hI.out k h1
            · obtain rfl : k = j := by omega
              exact h)
          obtain ⟨is, his⟩ : ∃ is, is = partIs ⟨rd, ra, rb, rc, rv, rm⟩ j := ⟨_, rfl⟩
          obtain ⟨u, hu⟩ : ∃ u, u = partN ⟨op, d, a, b, c, v⟩ j := ⟨_, rfl⟩
          simp only [← his, ← hu] at ix hri hnot hyes
          have RMJ := Lib.hid (fun (W : World) (hb : Below w.heap.size w W) => RM.out W hb is hri)
          obtain ⟨m, hm⟩ : ∃ m, m = room o is p bh := ⟨_, rfl⟩
          simp only [← hm] at hnot hyes RMJ
          unfold placeV at RMJ
          clear his hu hm hri
          go_wp2_with (first | (refine wpList_index _ rfl _ (.tmp 32) (.tmp 33) rfl _ _ _ rfl rfl ix.out ?_) | fail)
          have e01 := part_cells wr is u
          have hba : Below wr.heap.size wr (wr.alloc (.cells #[.int .i64 is, .int .i64 u] 41)) := (Below.refl _ wr).alloc (Nat.le_refl _) _
          obtain ⟨w6, hw6⟩ : ∃ w6, w6 = wr.alloc (.cells #[.int .i64 is, .int .i64 u] 41) := ⟨_, rfl⟩
          rw [← hw6] at e01 hba ⊢
          clear hw6 ix
          have HB6 := Lib.hid (hB.out.trans (hba.mono hB.out.size))
          have HBW := Lib.hid (HFA.out.trans (HB6.out.mono HFA.out.size))
          have E0 := fun pr : Regrown => cell_regrown (e01 0 _ rfl) pr.d pr.os
          have E1 := fun pr : Regrown => cell_regrown (e01 1 _ rfl) pr.d pr.os
          have P0 := fun pr : Regrown => cell_regrown (cell_on HB6.out (PS.out 0 _ rfl)) pr.d pr.os
          have P1 := fun pr : Regrown => cell_regrown (cell_on HB6.out (PS.out 1 _ rfl)) pr.d pr.os
          have P2 := fun pr : Regrown => cell_regrown (cell_on HB6.out (PS.out 2 _ rfl)) pr.d pr.os
          have CQ := Lib.hid fun pr : Regrown => Calls.regrown_of (RMJ.out (Go.Sort.grow (redrawn w6 pr.d) pr.os) (HBW.out.trans ((below_regrown w6 pr.d pr.os).mono HBW.out.size)))
          clear e01 hba
          rcases Int.lt_or_le u 0 with hu0 | hu0
          · have hz : Hid (D = false) := Lib.hid (hnot.out (by unfold inB; rw [decide_eq_false (show ¬ 0 ≤ u by omega)]; rfl))
            refine wp_region_quiet_below (by kernel_rfl) (by kernel_rfl) ?_
            repeat (go_big_quiet_step (with_reducible exact CQ.out _))
            refine wpQuiet_nil ?_
            intro w7 hw7
            have HB7 : Hid (Below w6.heap.size w6 w7) := Lib.hid (by obtain ⟨pr, rfl⟩ := hw7; exact below_regrown _ _ _)
            clear hw7 E0 E1 P0 P1 P2 CQ
            go_wp2_with fail
            go_ret
            exact ⟨by rw [hz.out]; rfl, HBW.out.trans (HB7.out.mono HBW.out.size)⟩
          · have hu1 : ¬ u < 0 := by omega
            rcases Int.lt_or_le u m with hum | hum
            · have hz := Lib.hid (hyes.out (by unfold inB; rw [decide_eq_true hu0, decide_eq_true hum]; rfl))
              have hum2 : ¬ m ≤ u := by omega
              clear hum
              refine wp_region_quiet_below (by kernel_rfl) (by kernel_rfl) ?_
              repeat (go_big_quiet_step (with_reducible exact CQ.out _))
              refine wpQuiet_nil ?_
              intro w7 hw7
              have HB7 : Hid (Below w6.heap.size w6 w7) := Lib.hid (by obtain ⟨pr, rfl⟩ := hw7; exact below_regrown _ _ _)
              clear hw7 E0 E1 P0 P1 P2 CQ
              go_wp2_with fail
              exact ⟨⟨j + 1, by go_num, hz, by omega, Lib.hid (HB6.out.trans (HB7.out.mono HB6.out.size))⟩, by simp; omega⟩
            · have hz : Hid (D = false) := Lib.hid (hnot.out (by unfold inB; rw [decide_eq_false (show ¬ u < m by omega)]; simp))
              refine wp_region_quiet_below (by kernel_rfl) (by kernel_rfl) ?_
              repeat (go_big_quiet_step (with_reducible exact CQ.out _))
              refine wpQuiet_nil ?_
              intro w7 hw7
              have HB7 : Hid (Below w6.heap.size w6 w7) := Lib.hid (by obtain ⟨pr, rfl⟩ := hw7; exact below_regrown _ _ _)
              clear hw7 E0 E1 P0 P1 P2 CQ
              go_wp2_with fail
              go_ret
              exact ⟨by rw [hz.out]; rfl, HBW.out.trans (HB7.out.mono HBW.out.size)⟩
        · obtain rfl : j = 4 := by omega
          have hno : ¬ ((4 : Nat) : Int) < 4 := by omega
          have hz : Hid (D = true) := Lib.hid (by rw [HD.out]; refine codeOk_true ?_ ?_ <;> simp only <;> rw [← HR.out]; exact HW.out; exact hI.out)
          go_wp2_with fail
          go_ret
          exact ⟨by rw [hz.out]; rfl, HFA.out.trans (hB.out.mono HFA.out.size)⟩
    · have qv : (v != 0) = true := bne_iff_ne.2 hv
      cases rv with
      | false =>
        have HF : Hid (D = false) := Lib.hid (by rw [HD.out]; refine codeOk_says ?_; simp only; rw [← HR.out]; unfold rowSays; simp only; rw [← HS.out]; simp [hv])
        clear hv
        refine wp_region_quiet_below (by kernel_rfl) (by kernel_rfl) ?_
        repeat (go_big_quiet_step (fail))
        refine wpQuiet_nil ?_
        intro w4 hw4
        have HB4 : Hid (Below w2.heap.size w2 w4) := Lib.hid (by obtain ⟨pr, rfl⟩ := hw4; exact below_regrown _ _ _)
        clear hw4 G0 G1 G2 G3
        go_wp2_with fail
        go_ret
        exact ⟨by rw [HF.out]; rfl, B2.out.trans ((hfar.trans (HB4.out.mono hfar.size)).mono B2.out.size)⟩
      | true =>
        have HW : Hid (rowSays ⟨rd, ra, rb, rc, true, rm⟩ p v = true) := Lib.hid (by unfold rowSays; simp only; rw [← HS.out]; simp)
        clear hv
        refine wp_region_quiet_below (by kernel_rfl) (by kernel_rfl) ?_
        repeat (go_big_quiet_step (fail))
        refine wpQuiet_nil ?_
        intro w4 hw4
        have HB4 : Hid (Below w2.heap.size w2 w4) := Lib.hid (by obtain ⟨pr, rfl⟩ := hw4; exact below_regrown _ _ _)
        clear hw4 G0 G1 G2 G3
        have a0 := cell_on HB4.out (RS.out 0 _ rfl)
        have a1 := cell_on HB4.out (RS.out 1 _ rfl)
        have a2 := cell_on HB4.out (RS.out 2 _ rfl)
        have a3 := cell_on HB4.out (RS.out 3 _ rfl)
        have a4 := cell_on HB4.out (RS.out 4 _ rfl)
        have a5 := cell_on HB4.out (RS.out 5 _ rfl)
        have b0 := cell_on HB4.out (XS.out 0 _ rfl)
        have b1 := cell_on HB4.out (XS.out 1 _ rfl)
        have b2 := cell_on HB4.out (XS.out 2 _ rfl)
        have b3 := cell_on HB4.out (XS.out 3 _ rfl)
        have b4 := cell_on HB4.out (XS.out 4 _ rfl)
        have b5 := cell_on HB4.out (XS.out 5 _ rfl)
        go_wp2_with (go_at_call 18; (with_reducible refine (PP.out _).mono ?_); rintro e w5 ⟨rfl, hb5⟩; have HB5 := Lib.hid (HB4.out.trans (hb5.mono HB4.out.size)); clear hb5)
        clear a0 a1 a2 a3 a4 a5 b0 b1 b2 b3 b4 b5
        go_loopw [33] (fun i wr => ∃ (j : Nat), i = .int .i64 (j : Int) ∧ Hid (fitTo o ⟨rd, ra, rb, rc, true, rm⟩ ⟨op, d, a, b, c, v⟩ p bh j) ∧ j ≤ 4 ∧ Hid (Below w2.heap.size w2 wr)) (fun i _ => match i with | .int _ z => 4 - z.toNat | _ => 0)
        case atStart => exact ⟨0, rfl, Lib.hid (fun k hk => by omega), Nat.zero_le _, HB5⟩
        case round =>
          obtain ⟨j, rfl, hI, hj, hB⟩ := hrel
          rcases Nat.lt_or_ge j 4 with hj4 | hj4
          · have hj5 : (j : Int) < 4 := by omega
            have ix := Lib.hid (ix_part ⟨rd, ra, rb, rc, true, rm⟩ ⟨op, d, a, b, c, v⟩ j hj4 wr)
            have hri := RF.out.2 j hj4
            have hnot : Hid (inB (partN ⟨op, d, a, b, c, v⟩ j) (room o (partIs ⟨rd, ra, rb, rc, true, rm⟩ j) p bh) = false → D = false) := Lib.hid (fun h => by rw [HD.out]; refine codeOk_not hj4 ?_; simp only; rw [← HR.out]; exact h)
            have hyes : Hid (inB (partN ⟨op, d, a, b, c, v⟩ j) (room o (partIs ⟨rd, ra, rb, rc, true, rm⟩ j) p bh) = true → fitTo o ⟨rd, ra, rb, rc, true, rm⟩ ⟨op, d, a, b, c, v⟩ p bh (j + 1)) := Lib.hid (fun h k hk => by
              rcases Nat.lt_or_ge k j with h1 | h1
              · exact hI.out k h1
              · obtain rfl : k = j := by omega
                exact h)
            obtain ⟨is, his⟩ : ∃ is, is = partIs ⟨rd, ra, rb, rc, true, rm⟩ j := ⟨_, rfl⟩
            obtain ⟨u, hu⟩ : ∃ u, u = partN ⟨op, d, a, b, c, v⟩ j := ⟨_, rfl⟩
            simp only [← his, ← hu] at ix hri hnot hyes
            have RMJ := Lib.hid (fun (W : World) (hb : Below w.heap.size w W) => RM.out W hb is hri)
            obtain ⟨m, hm⟩ : ∃ m, m = room o is p bh := ⟨_, rfl⟩
            simp only [← hm] at hnot hyes RMJ
            unfold placeV at RMJ
            clear his hu hm hri
            go_wp2_with (first | (refine wpList_index _ rfl _ (.tmp 32) (.tmp 33) rfl _ _ _ rfl rfl ix.out ?_) | fail)
            have e01 := part_cells wr is u
            have hba : Below wr.heap.size wr (wr.alloc (.cells #[.int .i64 is, .int .i64 u] 41)) := (Below.refl _ wr).alloc (Nat.le_refl _) _
            obtain ⟨w6, hw6⟩ : ∃ w6, w6 = wr.alloc (.cells #[.int .i64 is, .int .i64 u] 41) := ⟨_, rfl⟩
            rw [← hw6] at e01 hba ⊢
            clear hw6 ix
            have HB6 := Lib.hid (hB.out.trans (hba.mono hB.out.size))
            have HBW := Lib.hid (HFA.out.trans (HB6.out.mono HFA.out.size))
            have E0 := fun pr : Regrown => cell_regrown (e01 0 _ rfl) pr.d pr.os
            have E1 := fun pr : Regrown => cell_regrown (e01 1 _ rfl) pr.d pr.os
            have P0 := fun pr : Regrown => cell_regrown (cell_on HB6.out (PS.out 0 _ rfl)) pr.d pr.os
            have P1 := fun pr : Regrown => cell_regrown (cell_on HB6.out (PS.out 1 _ rfl)) pr.d pr.os
            have P2 := fun pr : Regrown => cell_regrown (cell_on HB6.out (PS.out 2 _ rfl)) pr.d pr.os
            have CQ := Lib.hid fun pr : Regrown => Calls.regrown_of (RMJ.out (Go.Sort.grow (redrawn w6 pr.d) pr.os) (HBW.out.trans ((below_regrown w6 pr.d pr.os).mono HBW.out.size)))
            clear e01 hba
            rcases Int.lt_or_le u 0 with hu0 | hu0
            · have hz : Hid (D = false) := Lib.hid (hnot.out (by unfold inB; rw [decide_eq_false (show ¬ 0 ≤ u by omega)]; rfl))
              refine wp_region_quiet_below (by kernel_rfl) (by kernel_rfl) ?_
              repeat (go_big_quiet_step (with_reducible exact CQ.out _))
              refine wpQuiet_nil ?_
              intro w7 hw7
              have HB7 : Hid (Below w6.heap.size w6 w7) := Lib.hid (by obtain ⟨pr, rfl⟩ := hw7; exact below_regrown _ _ _)
              clear hw7 E0 E1 P0 P1 P2 CQ
              go_wp2_with fail
              go_ret
              exact ⟨by rw [hz.out]; rfl, HBW.out.trans (HB7.out.mono HBW.out.size)⟩
            · have hu1 : ¬ u < 0 := by omega
              rcases Int.lt_or_le u m with hum | hum
              · have hz := Lib.hid (hyes.out (by unfold inB; rw [decide_eq_true hu0, decide_eq_true hum]; rfl))
                have hum2 : ¬ m ≤ u := by omega
                clear hum
                refine wp_region_quiet_below (by kernel_rfl) (by kernel_rfl) ?_
                repeat (go_big_quiet_step (with_reducible exact CQ.out _))
                refine wpQuiet_nil ?_
                intro w7 hw7
                have HB7 : Hid (Below w6.heap.size w6 w7) := Lib.hid (by obtain ⟨pr, rfl⟩ := hw7; exact below_regrown _ _ _)
                clear hw7 E0 E1 P0 P1 P2 CQ
                go_wp2_with fail
                exact ⟨⟨j + 1, by go_num, hz, by omega, Lib.hid (HB6.out.trans (HB7.out.mono HB6.out.size))⟩, by simp; omega⟩
              · have hz : Hid (D = false) := Lib.hid (hnot.out (by unfold inB; rw [decide_eq_false (show ¬ u < m by omega)]; simp))
                refine wp_region_quiet_below (by kernel_rfl) (by kernel_rfl) ?_
                repeat (go_big_quiet_step (with_reducible exact CQ.out _))
                refine wpQuiet_nil ?_
                intro w7 hw7
                have HB7 : Hid (Below w6.heap.size w6 w7) := Lib.hid (by obtain ⟨pr, rfl⟩ := hw7; exact below_regrown _ _ _)
                clear hw7 E0 E1 P0 P1 P2 CQ
                go_wp2_with fail
                go_ret
                exact ⟨by rw [hz.out]; rfl, HBW.out.trans (HB7.out.mono HBW.out.size)⟩
          · obtain rfl : j = 4 := by omega
            have hno : ¬ ((4 : Nat) : Int) < 4 := by omega
            have hz : Hid (D = true) := Lib.hid (by rw [HD.out]; refine codeOk_true ?_ ?_ <;> simp only <;> rw [← HR.out]; exact HW.out; exact hI.out)
            go_wp2_with fail
            go_ret
            exact ⟨by rw [hz.out]; rfl, HFA.out.trans (hB.out.mono HFA.out.size)⟩
end Go.Proofs.YtceadfkjknjaoaaDoor
