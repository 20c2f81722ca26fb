/- SameAll: declarations. -/
import Derived.Test.YtiilgehdkanmnaaSameM3
import Derived.Test.YtiilgehdkanmnaaSameM1
namespace Go.Proofs.Ytiilgehdkanmnaa
section
open Go.RowKit Go.Shelf

attribute [local go_sem] Oper.semAt_some

def declC (cs ds : List Nat) (x y : De) : Bool := decide (x.kind = y.kind) && decide (x.name = y.name) && decide (x.type = y.type) && sameC cs ds (hasVal x.kind) x.e y.e && samePas x.params y.params && itemsC cs ds x.items y.items
theorem mayD_e {n : Nat} {x : De} (h : mayD n x = true) (he : hasVal x.kind = true) : 0 ≤ x.e ∧ x.e < (n : Int) := by
  unfold mayD standsE at h
  rw [he, Bool.and_eq_true] at h
  simpa using h.1
theorem mayD_items {n : Nat} {x : De} (h : mayD n x = true) : ∀ y ∈ x.items, mayI n y = true := by
  unfold mayD at h
  rw [Bool.and_eq_true, List.all_eq_true] at h
  exact h.2
set_option maxHeartbeats 8000000 in
set_option maxRecDepth 100000 in
theorem decl3_any (B6 B7 B8 B9 q1 q2 n1 n2 : Nat) (cs ds : List Nat) (hn1 : (n1 : Int) ≤ 1000) (hn2 : (n2 : Int) ≤ 1000) (W : World) (E : Hid (SEnv B6 B7 q1 q2 n1 n2 cs ds W)) (h8 : W.cell? ⟨B8, 0, none⟩ = some (sameV B6 B7)) (h9 : W.cell? ⟨B9, 0, none⟩ = some (itemV B8)) (x y : De) (ox oy px py : Option Addr) (capx capy cbpx cbpy : Nat)
    (hpx : Hid (SlAt (.slice ox x.params.length capx) x.params.length 2 fun b o i => ∀ y, x.params[i]? = some y → PaAt W b o y)) (hpy : Hid (SlAt (.slice oy y.params.length capy) y.params.length 2 fun b o i => ∀ z, y.params[i]? = some z → PaAt W b o z))
    (hsx : Hid (SlAt (.slice px x.items.length cbpx) x.items.length 9 fun b o i => ∀ y, x.items[i]? = some y → ItAt W b o y)) (hsy : Hid (SlAt (.slice py y.items.length cbpy) y.items.length 9 fun b o i => ∀ z, y.items[i]? = some z → ItAt W b o z))
    (hx : Hid (DeOk x)) (hy : Hid (DeOk y)) (mx : Hid (mayD n1 x = true)) (my : Hid (mayD n2 y = true)) :
    Calls Try.prog 27 #[.agg #[.int .i64 x.kind, .string x.name, .slice ox x.params.length capx, .slice px x.items.length cbpx, .int .i64 x.type, .int .i64 x.e, .int .i64 x.pos], .agg #[.int .i64 y.kind, .string y.name, .slice oy y.params.length capy, .slice py y.items.length cbpy, .int .i64 y.type, .int .i64 y.e, .int .i64 y.pos], .pointer (some ⟨B8, 0, none⟩), .pointer (some ⟨B9, 0, none⟩)] W fun r Y => r = .returned (.bool (declC cs ds x y)) ∧ Below W.heap.size W Y := by
  obtain ⟨Wb, hWb⟩ : ∃ Wb, Wb = (W.alloc (.cells #[.int .i64 x.kind, .string x.name, .slice ox x.params.length capx, .slice px x.items.length cbpx, .int .i64 x.type, .int .i64 x.e, .int .i64 x.pos] 41)).alloc (.cells #[.int .i64 y.kind, .string y.name, .slice oy y.params.length capy, .slice py y.items.length cbpy, .int .i64 y.type, .int .i64 y.e, .int .i64 y.pos] 41) := ⟨_, rfl⟩
  obtain ⟨f1, f2⟩ := two_alloc W (.cells #[.int .i64 x.kind, .string x.name, .slice ox x.params.length capx, .slice px x.items.length cbpx, .int .i64 x.type, .int .i64 x.e, .int .i64 x.pos] 41) (.cells #[.int .i64 y.kind, .string y.name, .slice oy y.params.length capy, .slice py y.items.length cbpy, .int .i64 y.type, .int .i64 y.e, .int .i64 y.pos] 41)
  have hal : Below W.heap.size W Wb := by rw [hWb]; exact ((Below.refl W.heap.size W).alloc (Nat.le_refl _) _).alloc (by rw [World.size_alloc]; omega) _
  have HAL := Lib.hid hal
  rw [← hWb] at f1 f2
  have x0 : Wb.cell? ⟨W.heap.size, 0, none⟩ = some (.int .i64 x.kind) := by simp only [World.cell?, f1]; rfl
  have x1 : Wb.cell? ⟨W.heap.size, 1, none⟩ = some (.string x.name) := by simp only [World.cell?, f1]; rfl
  have x2 : Wb.cell? ⟨W.heap.size, 2, none⟩ = some (.slice ox x.params.length capx) := by simp only [World.cell?, f1]; rfl
  have x3 : Wb.cell? ⟨W.heap.size, 3, none⟩ = some (.slice px x.items.length cbpx) := by simp only [World.cell?, f1]; rfl
  have x4 : Wb.cell? ⟨W.heap.size, 4, none⟩ = some (.int .i64 x.type) := by simp only [World.cell?, f1]; rfl
  have x5 : Wb.cell? ⟨W.heap.size, 5, none⟩ = some (.int .i64 x.e) := by simp only [World.cell?, f1]; rfl
  have x6 : Wb.cell? ⟨W.heap.size, 6, none⟩ = some (.int .i64 x.pos) := by simp only [World.cell?, f1]; rfl
  have y0 : Wb.cell? ⟨W.heap.size + 1, 0, none⟩ = some (.int .i64 y.kind) := by simp only [World.cell?, f2]; rfl
  have y1 : Wb.cell? ⟨W.heap.size + 1, 1, none⟩ = some (.string y.name) := by simp only [World.cell?, f2]; rfl
  have y2 : Wb.cell? ⟨W.heap.size + 1, 2, none⟩ = some (.slice oy y.params.length capy) := by simp only [World.cell?, f2]; rfl
  have y3 : Wb.cell? ⟨W.heap.size + 1, 3, none⟩ = some (.slice py y.items.length cbpy) := by simp only [World.cell?, f2]; rfl
  have y4 : Wb.cell? ⟨W.heap.size + 1, 4, none⟩ = some (.int .i64 y.type) := by simp only [World.cell?, f2]; rfl
  have y5 : Wb.cell? ⟨W.heap.size + 1, 5, none⟩ = some (.int .i64 y.e) := by simp only [World.cell?, f2]; rfl
  have y6 : Wb.cell? ⟨W.heap.size + 1, 6, none⟩ = some (.int .i64 y.pos) := by simp only [World.cell?, f2]; rfl
  have g8 := cell_on hal h8
  have g9 := cell_on hal h9
  have H8 : Hid (∀ V, Below Wb.heap.size Wb V → V.cell? ⟨B8, 0, none⟩ = some (sameV B6 B7)) := Lib.hid fun V hV => cell_on hV g8
  unfold sameV at g8
  unfold itemV at g9
  have G8 := fun pr : Regrown => cell_regrown g8 pr.d pr.os
  have G9 := fun pr : Regrown => cell_regrown g9 pr.d pr.os
  have Gx0 := fun pr : Regrown => cell_regrown x0 pr.d pr.os
  have Gx1 := fun pr : Regrown => cell_regrown x1 pr.d pr.os
  have Gx2 := fun pr : Regrown => cell_regrown x2 pr.d pr.os
  have Gx3 := fun pr : Regrown => cell_regrown x3 pr.d pr.os
  have Gx4 := fun pr : Regrown => cell_regrown x4 pr.d pr.os
  have Gx5 := fun pr : Regrown => cell_regrown x5 pr.d pr.os
  have Gx6 := fun pr : Regrown => cell_regrown x6 pr.d pr.os
  have Gy0 := fun pr : Regrown => cell_regrown y0 pr.d pr.os
  have Gy1 := fun pr : Regrown => cell_regrown y1 pr.d pr.os
  have Gy2 := fun pr : Regrown => cell_regrown y2 pr.d pr.os
  have Gy3 := fun pr : Regrown => cell_regrown y3 pr.d pr.os
  have Gy4 := fun pr : Regrown => cell_regrown y4 pr.d pr.os
  have Gy5 := fun pr : Regrown => cell_regrown y5 pr.d pr.os
  have Gy6 := fun pr : Regrown => cell_regrown y6 pr.d pr.os
  clear f1 f2 g8 g9 h8 h9 hal
  clear x0 x1 x2 x3 x4 x5 x6 y0 y1 y2 y3 y4 y5 y6
  obtain ⟨he, hhe⟩ : ∃ he, he = hasVal x.kind := ⟨_, rfl⟩
  have HHE := Lib.hid hhe
  have CE : Hid (∀ pr : Regrown, Calls Try.prog 28 #[.agg #[.int .i64 x.kind, .string x.name, .slice ox x.params.length capx, .slice px x.items.length cbpx, .int .i64 x.type, .int .i64 x.e, .int .i64 x.pos]] (Go.Sort.grow (redrawn Wb pr.d) pr.os) fun e w'' => e = .returned (.bool he) ∧ ∃ p : Regrown, w'' = Go.Sort.grow (redrawn Wb p.d) p.os) := Lib.hid fun pr => Calls.regrown_of (by rw [hhe]; exact hasValue_any _ _ _ _ _ _ _ _)
  have HE : Hid (SEnv B6 B7 q1 q2 n1 n2 cs ds Wb) := Lib.hid (E.out.below HAL.out)
  obtain ⟨v1, hv1⟩ : ∃ v, v = sameC cs ds he x.e y.e := ⟨_, rfl⟩
  obtain ⟨v2, hv2⟩ : ∃ v, v = samePas x.params y.params := ⟨_, rfl⟩
  obtain ⟨v3, hv3⟩ : ∃ v, v = itemsC cs ds x.items y.items := ⟨_, rfl⟩
  have CP : Hid (∀ pr : Regrown, Calls Try.prog 29 #[.slice ox x.params.length capx, .slice oy y.params.length capy] (Go.Sort.grow (redrawn Wb pr.d) pr.os) fun e w'' => e = .returned (.bool v2) ∧ ∃ p : Regrown, w'' = Go.Sort.grow (redrawn Wb p.d) p.os) := Lib.hid fun pr => Calls.regrown_of (by
    rw [hv2]
    have hb := HAL.out.trans ((below_regrown Wb pr.d pr.os).mono HAL.out.size)
    exact eqP_any x.params y.params _ _ _ (Lib.hid (hpx.out.mono fun _ _ _ _ h y hy => (h y hy).below hb)) (Lib.hid (hpy.out.mono fun _ _ _ _ h y hy => (h y hy).below hb)) (Lib.hid hx.out.params) (Lib.hid hy.out.params))
  have CI : Hid (∀ pr : Regrown, Calls Try.prog 30 #[.slice px x.items.length cbpx, .slice py y.items.length cbpy, .func (.func 22) #[] #[.pointer (some ⟨B8, 0, none⟩)]] (Go.Sort.grow (redrawn Wb pr.d) pr.os) fun e w'' => e = .returned (.bool v3) ∧ ∃ p : Regrown, w'' = Go.Sort.grow (redrawn Wb p.d) p.os) := Lib.hid fun pr => Calls.regrown_of (by
    rw [hv3]
    have hb := HAL.out.trans ((below_regrown Wb pr.d pr.os).mono HAL.out.size)
    exact eqI_any B6 B7 B8 q1 q2 n1 n2 cs ds hn1 hn2 _ (Lib.hid (HE.out.below (below_regrown _ _ _))) (Lib.hid (H8.out _ (below_regrown _ _ _))) x.items y.items _ _ (Lib.hid (hsx.out.mono fun _ _ _ _ h y hy => (h y hy).below hb)) (Lib.hid (hsy.out.mono fun _ _ _ _ h y hy => (h y hy).below hb)) (Lib.hid hx.out.items) (Lib.hid hy.out.items) (Lib.hid (mayD_items mx.out)) (Lib.hid (mayD_items my.out)))
  have HV1 := Lib.hid hv1
  have HV2 := Lib.hid hv2
  have HV3 := Lib.hid hv3
  clear hhe hv2 hv3 E
  go_enter Try.func27, Try.ntmps27
  by_cases g : ¬ x.kind = y.kind
  · have HV : Hid (declC cs ds x y = false) := Lib.hid (by unfold declC; simp [g])
    have z1 : (x.kind == y.kind) = false := by simpa using g
    clear g
    go_wp2_with (fail)
    rw [← hWb]
    clear hWb
    refine wp_region_quiet_below (by kernel_rfl) (by kernel_rfl) ?_
    repeat (go_big_quiet_step (fail))
    refine wpQuiet_nil ?_
    intro w7 hw7
    have HB3 : Hid (Below Wb.heap.size Wb w7) := Lib.hid (by obtain ⟨pr, rfl⟩ := hw7; exact below_regrown _ _ _)
    clear hw7 Gx0 Gx1 Gx2 Gx3 Gx4 Gx5 Gx6 Gy0 Gy1 Gy2 Gy3 Gy4 Gy5 Gy6 G8 G9
    go_wp2_with fail
    go_ret
    exact ⟨by rw [HV.out]; rfl, HAL.out.trans (HB3.out.mono HAL.out.size)⟩
  have G1 := Lib.hid (Classical.not_not.1 g)
  have z1 : (x.kind == y.kind) = true := by simp [G1.out]
  clear g
  have CS : Hid (∀ pr : Regrown, Calls Try.prog 21 #[.bool he, .int .i64 x.e, .int .i64 y.e, .pointer (some ⟨B6, 0, none⟩), .pointer (some ⟨B7, 0, none⟩)] (Go.Sort.grow (redrawn Wb pr.d) pr.os) fun e w'' => e = .returned (.bool v1) ∧ ∃ p : Regrown, w'' = Go.Sort.grow (redrawn Wb p.d) p.os) := Lib.hid fun pr => Calls.regrown_of (by rw [hv1]; exact same1_any B6 B7 q1 q2 n1 n2 cs ds hn1 hn2 _ (Lib.hid (HE.out.below (below_regrown _ _ _))) he x.e y.e (Lib.hid fun h => ⟨mayD_e mx.out (by rw [← HHE.out]; exact h), mayD_e my.out (by rw [← G1.out, ← HHE.out]; exact h)⟩))
  clear hv1
  by_cases g : ¬ x.name = y.name
  · have HV : Hid (declC cs ds x y = false) := Lib.hid (by unfold declC; simp [g])
    have z2 : (x.name.toList == y.name.toList) = false := by simpa [toList_iff] using g
    clear g
    go_wp2_with (fail)
    rw [← hWb]
    clear hWb
    refine wp_region_quiet_below (by kernel_rfl) (by kernel_rfl) ?_
    repeat (go_big_quiet_step (fail))
    refine wpQuiet_nil ?_
    intro w7 hw7
    have HB3 : Hid (Below Wb.heap.size Wb w7) := Lib.hid (by obtain ⟨pr, rfl⟩ := hw7; exact below_regrown _ _ _)
    clear hw7 Gx0 Gx1 Gx2 Gx3 Gx4 Gx5 Gx6 Gy0 Gy1 Gy2 Gy3 Gy4 Gy5 Gy6 G8 G9
    go_wp2_with fail
    go_ret
    exact ⟨by rw [HV.out]; rfl, HAL.out.trans (HB3.out.mono HAL.out.size)⟩
  have G2 := Lib.hid (Classical.not_not.1 g)
  have z2 : (x.name.toList == y.name.toList) = true := by simp [G2.out]
  clear g
  by_cases g : ¬ x.type = y.type
  · have HV : Hid (declC cs ds x y = false) := Lib.hid (by unfold declC; simp [g])
    have z3 : (x.type == y.type) = false := by simpa using g
    clear g
    go_wp2_with (fail)
    rw [← hWb]
    clear hWb
    refine wp_region_quiet_below (by kernel_rfl) (by kernel_rfl) ?_
    repeat (go_big_quiet_step (fail))
    refine wpQuiet_nil ?_
    intro w7 hw7
    have HB3 : Hid (Below Wb.heap.size Wb w7) := Lib.hid (by obtain ⟨pr, rfl⟩ := hw7; exact below_regrown _ _ _)
    clear hw7 Gx0 Gx1 Gx2 Gx3 Gx4 Gx5 Gx6 Gy0 Gy1 Gy2 Gy3 Gy4 Gy5 Gy6 G8 G9
    go_wp2_with fail
    go_ret
    exact ⟨by rw [HV.out]; rfl, HAL.out.trans (HB3.out.mono HAL.out.size)⟩
  have G3 := Lib.hid (Classical.not_not.1 g)
  have z3 : (x.type == y.type) = true := by simp [G3.out]
  clear g
  cases v1 with
  | false =>
    have HV : Hid (declC cs ds x y = false) := Lib.hid (by unfold declC; rw [← HHE.out, ← HV1.out]; simp)
    go_wp2_with (fail)
    rw [← hWb]
    clear hWb
    refine wp_region_quiet_below (by kernel_rfl) (by kernel_rfl) ?_
    repeat (go_big_quiet_step (first | with_reducible exact CE.out _ | with_reducible exact CS.out _))
    refine wpQuiet_nil ?_
    intro w7 hw7
    have HB3 : Hid (Below Wb.heap.size Wb w7) := Lib.hid (by obtain ⟨pr, rfl⟩ := hw7; exact below_regrown _ _ _)
    clear hw7 Gx0 Gx1 Gx2 Gx3 Gx4 Gx5 Gx6 Gy0 Gy1 Gy2 Gy3 Gy4 Gy5 Gy6 G8 G9
    go_wp2_with fail
    go_ret
    exact ⟨by rw [HV.out]; rfl, HAL.out.trans (HB3.out.mono HAL.out.size)⟩
  | true =>
  cases v2 with
  | false =>
    have HV : Hid (declC cs ds x y = false) := Lib.hid (by unfold declC; rw [← HV2.out]; simp)
    go_wp2_with (fail)
    rw [← hWb]
    clear hWb
    refine wp_region_quiet_below (by kernel_rfl) (by kernel_rfl) ?_
    repeat (go_big_quiet_step (first | with_reducible exact CE.out _ | with_reducible exact CS.out _ | with_reducible exact CP.out _))
    refine wpQuiet_nil ?_
    intro w7 hw7
    have HB3 : Hid (Below Wb.heap.size Wb w7) := Lib.hid (by obtain ⟨pr, rfl⟩ := hw7; exact below_regrown _ _ _)
    clear hw7 Gx0 Gx1 Gx2 Gx3 Gx4 Gx5 Gx6 Gy0 Gy1 Gy2 Gy3 Gy4 Gy5 Gy6 G8 G9
    go_wp2_with fail
    go_ret
    exact ⟨by rw [HV.out]; rfl, HAL.out.trans (HB3.out.mono HAL.out.size)⟩
  | true =>
    have HV : Hid (declC cs ds x y = v3) := Lib.hid (by unfold declC; rw [← HHE.out, ← HV1.out, ← HV2.out, ← HV3.out, G1.out, G2.out, G3.out]; simp)
    go_wp2_with (fail)
    rw [← hWb]
    clear hWb
    refine wp_region_quiet_below (by kernel_rfl) (by kernel_rfl) ?_
    repeat (go_big_quiet_step (first | with_reducible exact CE.out _ | with_reducible exact CS.out _ | with_reducible exact CP.out _ | with_reducible exact CI.out _))
    refine wpQuiet_nil ?_
    intro w7 hw7
    have HB3 : Hid (Below Wb.heap.size Wb w7) := Lib.hid (by obtain ⟨pr, rfl⟩ := hw7; exact below_regrown _ _ _)
    clear hw7 Gx0 Gx1 Gx2 Gx3 Gx4 Gx5 Gx6 Gy0 Gy1 Gy2 Gy3 Gy4 Gy5 Gy6 G8 G9
    go_wp2_with fail
    go_ret
    exact ⟨by rw [HV.out]; rfl, HAL.out.trans (HB3.out.mono HAL.out.size)⟩
end
section
open Go.RowKit Go.Shelf

attribute [local go_sem] Oper.semAt_some

def declsC (cs ds : List Nat) (xs ys : List De) : Bool := decide (xs.length = ys.length) && (xs.zip ys).all fun z => declC cs ds z.1 z.2
theorem declsC_bad {cs ds : List Nat} {xs ys : List De} {c : Nat} {x y : De} (hx : xs[c]? = some x) (hy : ys[c]? = some y) (h : declC cs ds x y = false) : declsC cs ds xs ys = false := by
  unfold declsC
  have hz : ((xs.zip ys).all fun z => declC cs ds z.1 z.2) = false := by
    rw [List.all_eq_false]
    obtain ⟨l1, e1⟩ := List.getElem?_eq_some_iff.1 hx
    obtain ⟨l2, e2⟩ := List.getElem?_eq_some_iff.1 hy
    refine ⟨(x, y), List.mem_iff_getElem.2 ⟨c, by rw [List.length_zip]; omega, by rw [List.getElem_zip, e1, e2]⟩, fun h3 => by have h4 := h.symm.trans h3; cases h4⟩
  rw [hz, Bool.and_false]
theorem declsC_good {cs ds : List Nat} {xs ys : List De} (h1 : xs.length = ys.length) (h : ∀ j, j < xs.length → ∀ x y, xs[j]? = some x → ys[j]? = some y → declC cs ds x y = true) : declsC cs ds xs ys = true := by
  unfold declsC
  rw [Bool.and_eq_true, decide_eq_true_eq]
  refine ⟨h1, List.all_eq_true.2 fun z hz => ?_⟩
  obtain ⟨i, hi, he⟩ := List.mem_iff_getElem.1 hz
  rw [List.length_zip] at hi
  rw [← he, List.getElem_zip]
  exact h i (by omega) _ _ (List.getElem?_eq_getElem _) (List.getElem?_eq_getElem _)
set_option maxHeartbeats 8000000 in
set_option maxRecDepth 100000 in
theorem eqD_any (B6 B7 B8 B9 q1 q2 n1 n2 : Nat) (cs ds : List Nat) (hn1 : (n1 : Int) ≤ 1000) (hn2 : (n2 : Int) ≤ 1000) (W : World) (E : Hid (SEnv B6 B7 q1 q2 n1 n2 cs ds W)) (h8 : Hid (W.cell? ⟨B8, 0, none⟩ = some (sameV B6 B7))) (h9 : Hid (W.cell? ⟨B9, 0, none⟩ = some (itemV B8)))
    (xs ys : List De) (s t : Value) (hs : Hid (SlAt s xs.length 7 fun b o i => ∀ y, xs[i]? = some y → DeAt W b o y)) (ht : Hid (SlAt t ys.length 7 fun b o i => ∀ y, ys[i]? = some y → DeAt W b o y))
    (lx : Hid (xs.length ≤ reachN)) (ly : Hid (ys.length ≤ reachN)) (mx : Hid (∀ x ∈ xs, mayD n1 x = true)) (my : Hid (∀ y ∈ ys, mayD n2 y = true)) :
    Calls Try.prog 26 #[s, t, declV B8 B9] W fun r Y => r = .returned (.bool (declsC cs ds xs ys)) ∧ Below W.heap.size W Y := by
  obtain ⟨o1, cap1, b1, f1, rfl, _, _, e1, c1⟩ := hs.out
  obtain ⟨o2, cap2, b2, f2, rfl, _, _, e2, c2⟩ := ht.out
  obtain ⟨n, hn⟩ : ∃ n, n = xs.length := ⟨_, rfl⟩
  obtain ⟨m, hm⟩ : ∃ m, m = ys.length := ⟨_, rfl⟩
  rw [← hn] at e1 c1 ⊢
  rw [← hm] at e2 c2 ⊢
  have HN := Lib.hid hn
  have HM := Lib.hid hm
  have E1 := Lib.hid e1
  have E2 := Lib.hid e2
  have C1 := Lib.hid c1
  have C2 := Lib.hid c2
  have hnl : (n : Int) ≤ 140737488351232 := by have := lx.out; unfold reachN at this; omega
  have hml : (m : Int) ≤ 140737488351232 := by have := ly.out; unfold reachN at this; omega
  clear hn hm e1 e2 c1 c2 hs ht lx ly
  unfold declV
  go_enter Try.func26, Try.ntmps26
  by_cases g1 : ¬ n = m
  · have G1 := Lib.hid g1
    have z1 : ((n : Int) != (m : Int)) = true := by simp; omega
    have HF : Hid (declsC cs ds xs ys = false) := Lib.hid (by
      have := G1.out
      rw [HN.out, HM.out] at this
      unfold declsC
      simp [this])
    clear g1
    go_wp2_with (fail)
    go_ret
    exact ⟨by rw [HF.out]; rfl, Below.refl _ _⟩
  have G1 := Lib.hid (Classical.not_not.1 g1)
  have z1 : ((n : Int) != (m : Int)) = false := by simp [G1.out]
  clear g1
  go_wp2_with (fail)
  clear z1
  go_loopw [17] (fun i wr => ∃ (c : Nat), i = .int .i64 (c : Int) ∧ c ≤ n ∧ Hid (∀ j, j < c → ∀ x y, xs[j]? = some x → ys[j]? = some y → declC cs ds x y = true) ∧ Hid (Below W.heap.size W wr)) (fun i _ => n - litLen i)
  case atStart => exact ⟨0, rfl, Nat.zero_le _, Lib.hid fun j hj => by omega, Lib.hid (Below.refl _ _)⟩
  case round =>
    obtain ⟨c, rfl, hc, hP, hWr⟩ := hrel
    rcases Nat.lt_or_ge c n with hlt | hge
    · have hl : (c : Int) < (n : Int) := by omega
      have hl2 : c < m := by rw [← G1.out]; exact hlt
      have ix1 := ix_des (cap := cap1) E1.out hlt (by omega)
      have ix2 := ix_des (cap := cap2) E2.out hl2 (by omega)
      unfold Ix at ix1 ix2
      obtain ⟨x, hxk⟩ : ∃ x, xs[c]? = some x := ⟨_, List.getElem?_eq_getElem (by have := HN.out; omega)⟩
      obtain ⟨y, hyk⟩ : ∃ y, ys[c]? = some y := ⟨_, List.getElem?_eq_getElem (by have := HM.out; omega)⟩
      obtain ⟨_, _, i0, i1, i2, i3, i4, i5, i6, hpx, hsx, hokx⟩ := (C1.out c hlt x hxk).below hWr.out
      obtain ⟨_, _, j0, j1, j2, j3, j4, j5, j6, hpy, hsy, hoky⟩ := (C2.out c hl2 y hyk).below hWr.out
      have HPX := Lib.hid hpx
      have HPY := Lib.hid hpy
      have HSX := Lib.hid hsx
      have HSY := Lib.hid hsy
      obtain ⟨ox, capx, bpx, fpx, rfl, _⟩ := hpx
      obtain ⟨oy, capy, bpy, fpy, rfl, _⟩ := hpy
      obtain ⟨px, cbpx, bsx, fsx, rfl, _⟩ := hsx
      obtain ⟨py, cbpy, bsy, fsy, rfl, _⟩ := hsy
      have HXK := Lib.hid hxk
      have HYK := Lib.hid hyk
      have HOX := Lib.hid hokx
      have HOY := Lib.hid hoky
      clear hxk hyk hokx hoky
      have hx1 := below_al (Below.refl wr.heap.size wr) (.cells #[.int .i64 x.kind, .string x.name, .slice ox x.params.length capx, .slice px x.items.length cbpx, .int .i64 x.type, .int .i64 x.e, .int .i64 x.pos] 41)
      have J0 : (wr.alloc (.cells #[.int .i64 x.kind, .string x.name, .slice ox x.params.length capx, .slice px x.items.length cbpx, .int .i64 x.type, .int .i64 x.e, .int .i64 x.pos] 41)).cell? ⟨b2, f2 + c * 7, none⟩ = some (.int .i64 y.kind) := cell_on hx1 j0
      have J1 : (wr.alloc (.cells #[.int .i64 x.kind, .string x.name, .slice ox x.params.length capx, .slice px x.items.length cbpx, .int .i64 x.type, .int .i64 x.e, .int .i64 x.pos] 41)).cell? ⟨b2, f2 + c * 7 + 1, none⟩ = some (.string y.name) := cell_on hx1 j1
      have J2 : (wr.alloc (.cells #[.int .i64 x.kind, .string x.name, .slice ox x.params.length capx, .slice px x.items.length cbpx, .int .i64 x.type, .int .i64 x.e, .int .i64 x.pos] 41)).cell? ⟨b2, f2 + c * 7 + 2, none⟩ = some (.slice oy y.params.length capy) := cell_on hx1 j2
      have J3 : (wr.alloc (.cells #[.int .i64 x.kind, .string x.name, .slice ox x.params.length capx, .slice px x.items.length cbpx, .int .i64 x.type, .int .i64 x.e, .int .i64 x.pos] 41)).cell? ⟨b2, f2 + c * 7 + 3, none⟩ = some (.slice py y.items.length cbpy) := cell_on hx1 j3
      have J4 : (wr.alloc (.cells #[.int .i64 x.kind, .string x.name, .slice ox x.params.length capx, .slice px x.items.length cbpx, .int .i64 x.type, .int .i64 x.e, .int .i64 x.pos] 41)).cell? ⟨b2, f2 + c * 7 + 4, none⟩ = some (.int .i64 y.type) := cell_on hx1 j4
      have J5 : (wr.alloc (.cells #[.int .i64 x.kind, .string x.name, .slice ox x.params.length capx, .slice px x.items.length cbpx, .int .i64 x.type, .int .i64 x.e, .int .i64 x.pos] 41)).cell? ⟨b2, f2 + c * 7 + 5, none⟩ = some (.int .i64 y.e) := cell_on hx1 j5
      have J6 : (wr.alloc (.cells #[.int .i64 x.kind, .string x.name, .slice ox x.params.length capx, .slice px x.items.length cbpx, .int .i64 x.type, .int .i64 x.e, .int .i64 x.pos] 41)).cell? ⟨b2, f2 + c * 7 + 6, none⟩ = some (.int .i64 y.pos) := cell_on hx1 j6
      have hbc : Below wr.heap.size wr ((wr.alloc (.cells #[.int .i64 x.kind, .string x.name, .slice ox x.params.length capx, .slice px x.items.length cbpx, .int .i64 x.type, .int .i64 x.e, .int .i64 x.pos] 41)).alloc (.cells #[.int .i64 y.kind, .string y.name, .slice oy y.params.length capy, .slice py y.items.length cbpy, .int .i64 y.type, .int .i64 y.e, .int .i64 y.pos] 41)) := below_al hx1 _
      have CC : Hid (∀ Wc, Wc = (wr.alloc (.cells #[.int .i64 x.kind, .string x.name, .slice ox x.params.length capx, .slice px x.items.length cbpx, .int .i64 x.type, .int .i64 x.e, .int .i64 x.pos] 41)).alloc (.cells #[.int .i64 y.kind, .string y.name, .slice oy y.params.length capy, .slice py y.items.length cbpy, .int .i64 y.type, .int .i64 y.e, .int .i64 y.pos] 41) → Calls Try.prog 27 #[.agg #[.int .i64 x.kind, .string x.name, .slice ox x.params.length capx, .slice px x.items.length cbpx, .int .i64 x.type, .int .i64 x.e, .int .i64 x.pos], .agg #[.int .i64 y.kind, .string y.name, .slice oy y.params.length capy, .slice py y.items.length cbpy, .int .i64 y.type, .int .i64 y.e, .int .i64 y.pos], .pointer (some ⟨B8, 0, none⟩), .pointer (some ⟨B9, 0, none⟩)] Wc fun r Y => r = .returned (.bool (declC cs ds x y)) ∧ Below Wc.heap.size Wc Y) := Lib.hid fun Wc hWc => by
        rw [← hWc] at hbc
        exact decl3_any B6 B7 B8 B9 q1 q2 n1 n2 cs ds hn1 hn2 Wc (Lib.hid (E.out.below (hWr.out.trans (hbc.mono hWr.out.size)))) (cell_on hbc (cell_on hWr.out h8.out)) (cell_on hbc (cell_on hWr.out h9.out)) x y ox oy px py capx capy cbpx cbpy (Lib.hid (HPX.out.mono fun _ _ _ _ h y hy => (h y hy).below hbc)) (Lib.hid (HPY.out.mono fun _ _ _ _ h y hy => (h y hy).below hbc)) (Lib.hid (HSX.out.mono fun _ _ _ _ h y hy => (h y hy).below hbc)) (Lib.hid (HSY.out.mono fun _ _ _ _ h y hy => (h y hy).below hbc)) (Lib.hid HOX.out) (Lib.hid HOY.out) (Lib.hid (mx.out x (List.mem_of_getElem? HXK.out))) (Lib.hid (my.out y (List.mem_of_getElem? HYK.out)))
      have CC := Lib.hid (CC.out _ rfl)
      obtain ⟨v, hv⟩ : ∃ v, v = declC cs ds x y := ⟨_, rfl⟩
      rw [← hv] at CC
      have HV := Lib.hid hv
      have HBC := Lib.hid hbc
      clear hv hbc hx1
      cases v with
      | false =>
        have HF : Hid (declsC cs ds xs ys = false) := Lib.hid (declsC_bad HXK.out HYK.out HV.out.symm)
        go_wp2_with (go_at_call 27; ((with_reducible refine CC.out.mono ?_)); rintro e w5 ⟨rfl, hb5⟩; have HB5 := Lib.hid hb5; clear hb5)
        go_ret
        exact ⟨by rw [HF.out]; rfl, (hWr.out.trans (HBC.out.mono hWr.out.size)).trans (HB5.out.mono (Nat.le_trans hWr.out.size HBC.out.size))⟩
      | true =>
        go_wp2_with (go_at_call 27; ((with_reducible refine CC.out.mono ?_)); rintro e w5 ⟨rfl, hb5⟩; have HB5 := Lib.hid hb5; clear hb5)
        refine ⟨⟨c + 1, by go_num, by omega, Lib.hid fun j hj x1 y1 h1 h2 => ?_, Lib.hid ((hWr.out.trans (HBC.out.mono hWr.out.size)).trans (HB5.out.mono (Nat.le_trans hWr.out.size HBC.out.size)))⟩, ?_⟩
        · rcases Nat.lt_or_ge j c with h | h
          · exact hP.out j h x1 y1 h1 h2
          · obtain rfl : j = c := by omega
            have e1 := HXK.out.symm.trans h1
            have e2 := HYK.out.symm.trans h2
            cases e1; cases e2
            exact HV.out.symm
        · simp [litLen]; omega
    · obtain rfl : c = n := by omega
      have hno : ¬ (c : Int) < (c : Int) := by omega
      have HF : Hid (declsC cs ds xs ys = true) := Lib.hid (declsC_good (by rw [← HN.out, ← HM.out]; exact G1.out) fun j hj x y h1 h2 => hP.out j (by rw [HN.out]; exact hj) x y h1 h2)
      go_wp2_with (fail)
      go_ret
      exact ⟨by rw [HF.out]; rfl, hWr.out⟩
end
end Go.Proofs.Ytiilgehdkanmnaa
