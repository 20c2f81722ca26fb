/- verify.Registers: how many registers instructions ask for. -/
import Derived.Test.YtceadfkjknjaoaaDoorVeParts
namespace Go.Proofs.YtceadfkjknjaoaaDoor
open Go.RowKit Co

attribute [local go_sem] Oper.semAt_some

def regP (r : VRow) (x : Six) (n : Int) : Nat → Int
  | 0 => n
  | j + 1 => reg1 (partIs r j) (partN x j) (regP r x n j)
theorem regP_four (r : VRow) (x : Six) (n : Int) : regP r x n 4 = regs1 r x n := rfl
theorem regsL_take {l : List Six} {c : Nat} {x : Six} (h : l[c]? = some x) : regsL (l.take (c + 1)) 0 = regs1 (rowR x.op) x (regsL (l.take c) 0) := by
  unfold regsL; rw [take_next h, List.foldl_append]; rfl
theorem partN_ok {x : Six} (h : x.ok) (j : Nat) (hj : j < 4) : i64 (partN x j) := by
  obtain ⟨_, h1, h2, h3, h4, _⟩ := h
  rcases (show j = 0 ∨ j = 1 ∨ j = 2 ∨ j = 3 by omega) with rfl | rfl | rfl | rfl
  · exact h1
  · exact h2
  · exact h3
  · exact h4
theorem six_cells (w : World) (op d a b c v : Int) : ∀ j u, [Value.int .i64 op, .int .i64 d, .int .i64 a, .int .i64 b, .int .i64 c, .int .i64 v][j]? = some u → (w.alloc (.cells #[.int .i64 op, .int .i64 d, .int .i64 a, .int .i64 b, .int .i64 c, .int .i64 v] 39)).cell? ⟨w.heap.size, j, none⟩ = some u := fun j u hu => by
  rw [World.cell?_alloc_new, ← Array.getElem?_toList]; exact hu
set_option maxHeartbeats 16000000 in
set_option maxRecDepth 100000 in
theorem regs_any (l : List Six) (s : Value) (w : World) (hT : TabAt w) (hs : SixesAt w s l) (hok : ∀ x ∈ l, x.ok) (hl : l.length ≤ 9223372036854775807) :
    Calls Tryd.prog 8 #[s] w fun e w' => e = .returned (.int .i64 (regsL l 0)) ∧ Below w.heap.size w w' := by
  obtain ⟨o, cap, b, off, rfl, _, _, e1, c1⟩ := hs
  obtain ⟨n, hn⟩ : ∃ n, n = l.length := ⟨_, rfl⟩
  rw [← hn] at e1 c1 hl ⊢
  have HN := Lib.hid hn
  have E1 := Lib.hid e1
  have C1 := Lib.hid c1
  have HK := Lib.hid hok
  have HT := Lib.hid hT
  have hnl : (n : Int) ≤ 9223372036854775807 := by omega
  clear hn e1 c1 hl hok hT
  go_enter Tryd.func8, Tryd.ntmps8
  go_wp2_with fail
  go_loopw [10, 3] (fun i t wr => ∃ (c : Nat), i = .int .i64 (c : Int) ∧ t = .int .i64 (regsL (l.take c) 0) ∧ c ≤ n ∧ Hid (Below w.heap.size w wr)) (fun i _ _ => match i with | .int _ z => n - z.toNat | _ => 0)
  case atStart => exact ⟨0, rfl, rfl, Nat.zero_le _, Lib.hid (Below.refl _ _)⟩
  case round =>
    obtain ⟨c, rfl, rfl, hc, hB⟩ := hrel
    rcases Nat.lt_or_ge c n with hlt | hge
    · have hcl : (c : Int) < (n : Int) := by omega
      obtain ⟨x, hx⟩ : ∃ x, l[c]? = some x := ⟨_, List.getElem?_eq_getElem (by rw [← HN.out]; exact hlt)⟩
      have hst := Lib.hid (regsL_take hx)
      have hxo := Lib.hid (HK.out x (List.mem_of_getElem? hx))
      obtain ⟨z0, z1, z2, z3, z4, z5⟩ := (C1.out c hlt x hx).below hB.out
      have ix1 := ix_sixes (cap := cap) E1.out hlt (by omega)
      unfold Ix at ix1
      obtain ⟨m, hm⟩ : ∃ m, m = regsL (l.take c) 0 := ⟨_, rfl⟩
      rw [← hm] at hst ⊢
      obtain ⟨op, d, a, b1, c4, v⟩ := x
      simp only at z0 z1 z2 z3 z4 z5
      clear hx hm
      go_wp2_with fail
      have hc6 := six_cells wr op d a b1 c4 v
      have hba : Below w.heap.size w (wr.alloc (.cells #[.int .i64 op, .int .i64 d, .int .i64 a, .int .i64 b1, .int .i64 c4, .int .i64 v] 39)) := hB.out.alloc hB.out.size _
      obtain ⟨w1, hw1⟩ : ∃ w1, w1 = wr.alloc (.cells #[.int .i64 op, .int .i64 d, .int .i64 a, .int .i64 b1, .int .i64 c4, .int .i64 v] 39) := ⟨_, rfl⟩
      rw [← hw1] at hc6 hba ⊢
      clear hw1 z0 z1 z2 z3 z4 z5
      have G0 := fun pr : Regrown => cell_regrown (hc6 0 _ rfl) pr.d pr.os
      have G1 := fun pr : Regrown => cell_regrown (hc6 1 _ rfl) pr.d pr.os
      have G2 := fun pr : Regrown => cell_regrown (hc6 2 _ rfl) pr.d pr.os
      have G3 := fun pr : Regrown => cell_regrown (hc6 3 _ rfl) pr.d pr.os
      have G4 := fun pr : Regrown => cell_regrown (hc6 4 _ rfl) pr.d pr.os
      have G5 := fun pr : Regrown => cell_regrown (hc6 5 _ rfl) pr.d pr.os
      have HBA := Lib.hid hba
      have CQ1 := Lib.hid fun pr : Regrown => Calls.regrown_of (rowOf_any op (Go.Sort.grow (redrawn w1 pr.d) pr.os) (HT.out.below (HBA.out.trans ((below_regrown w1 pr.d pr.os).mono HBA.out.size))))
      have CQ2 := Lib.hid fun pr : Regrown => Calls.regrown_of (parts_any (rowR op) ⟨op, d, a, b1, c4, v⟩ (Go.Sort.grow (redrawn w1 pr.d) pr.os))
      obtain ⟨R, hR⟩ : ∃ R, R = rowR op := ⟨_, rfl⟩
      simp only [← hR] at CQ1 CQ2 hst
      unfold sixV at CQ2
      have HR := Lib.hid hR
      clear hc6 hba hR
      refine wp_region_quiet_below (by kernel_rfl) (by kernel_rfl) ?_
      repeat (go_big_quiet_step (first | with_reducible exact CQ1.out _ | with_reducible exact CQ2.out _))
      refine wpQuiet_nil ?_
      intro w4 hw4
      have HB4 : Hid (Below w.heap.size w w4) := Lib.hid (by obtain ⟨pr, rfl⟩ := hw4; exact HBA.out.trans ((below_regrown _ _ _).mono HBA.out.size))
      clear hw4 G0 G1 G2 G3 G4 G5 CQ1 CQ2 ix1
      obtain ⟨y, hy⟩ : ∃ y : Six, y = ⟨op, d, a, b1, c4, v⟩ := ⟨_, rfl⟩
      rw [← hy] at hst hxo ⊢
      have hst2 : Hid (regsL (l.take (c + 1)) 0 = regP R y m 4) := Lib.hid (hst.out.trans (regP_four _ _ _).symm)
      clear hy hst
      go_wp2_with fail
      go_loopw [19, 3] (fun i t wq => ∃ (j : Nat), i = .int .i64 (j : Int) ∧ t = .int .i64 (regP R y m j) ∧ j ≤ 4 ∧ Hid (Below w.heap.size w wq)) (fun i _ _ => match i with | .int _ z => 4 - z.toNat | _ => 0)
      case atStart => exact ⟨0, rfl, rfl, by omega, HB4⟩
      case round =>
        obtain ⟨j, rfl, rfl, hj, hB5⟩ := hrel
        rcases Nat.lt_or_ge j 4 with hj4 | hj4
        · have q4 : (j : Int) < 4 := by omega
          have ix := Lib.hid (ix_part R y j hj4 wr)
          have oM := Lib.hid (oneMore_any (partN y j) (partN_ok hxo.out j hj4))
          obtain ⟨is, his⟩ : ∃ is, is = partIs R j := ⟨_, rfl⟩
          obtain ⟨u, hu⟩ : ∃ u, u = partN y j := ⟨_, rfl⟩
          have hn : Hid (regP R y m (j + 1) = reg1 is u (regP R y m j)) := Lib.hid (by rw [his, hu]; rfl)
          obtain ⟨k, hk⟩ : ∃ k, k = regP R y m j := ⟨_, rfl⟩
          rw [← hk] at hn ⊢
          rw [← his, ← hu] at ix
          rw [← hu] at oM
          obtain ⟨t, ht⟩ : ∃ t, t = om u := ⟨_, rfl⟩
          rw [← ht] at oM
          have HT := Lib.hid ht
          clear his hu hk ht
          have HB6 : Hid (Below w.heap.size w (wr.alloc (.cells #[.int .i64 is, .int .i64 u] 41))) := Lib.hid (hB5.out.alloc hB5.out.size _)
          by_cases h1 : is = 1
          · subst h1
            rcases Int.lt_or_le k t with hkt | hkt
            · have hr : Hid (regP R y m (j + 1) = t) := Lib.hid (by rw [hn.out, HT.out]; unfold reg1; rw [if_pos rfl, ← HT.out]; omega)
              go_wp2_with (first | (refine wpList_index _ rfl _ (.tmp 18) (.tmp 19) rfl _ _ _ rfl rfl ix.out ?_) | (go_at_call 19; (with_reducible refine (oM.out _).mono ?_); rintro e w5 ⟨rfl, rfl⟩))
              exact ⟨⟨j + 1, by go_num, by rw [hr.out], by omega, HB6⟩, by simp; omega⟩
            · have hr : Hid (regP R y m (j + 1) = k) := Lib.hid (by rw [hn.out]; unfold reg1; rw [if_pos rfl, ← HT.out]; omega)
              go_wp2_with (first | (refine wpList_index _ rfl _ (.tmp 18) (.tmp 19) rfl _ _ _ rfl rfl ix.out ?_) | (go_at_call 19; (with_reducible refine (oM.out _).mono ?_); rintro e w5 ⟨rfl, rfl⟩))
              exact ⟨⟨j + 1, by go_num, by rw [hr.out], by omega, HB6⟩, by simp; omega⟩
          · have q1 : (is == 1) = false := beq_false_of_ne h1
            have hr : Hid (regP R y m (j + 1) = k) := Lib.hid (by rw [hn.out]; unfold reg1; rw [if_neg h1])
            clear h1
            go_wp2_with (first | (refine wpList_index _ rfl _ (.tmp 18) (.tmp 19) rfl _ _ _ rfl rfl ix.out ?_) | fail)
            exact ⟨⟨j + 1, by go_num, by rw [hr.out], by omega, HB6⟩, by simp; omega⟩
        · obtain rfl : j = 4 := by omega
          have hno : ¬ ((4 : Nat) : Int) < 4 := by omega
          go_wp2_with fail
          exact ⟨⟨c + 1, by go_num, by rw [hst2.out], by omega, hB5⟩, by simp; omega⟩
    · obtain rfl : c = n := by omega
      have hno : ¬ (c : Int) < (c : Int) := by omega
      have hSS : Hid (regsL (l.take c) 0 = regsL l 0) := Lib.hid (by rw [HN.out, List.take_length])
      rw [hSS.out]
      clear hSS
      go_wp2_with fail
      go_ret
      exact ⟨rfl, hB.out⟩
end Go.Proofs.YtceadfkjknjaoaaDoor
