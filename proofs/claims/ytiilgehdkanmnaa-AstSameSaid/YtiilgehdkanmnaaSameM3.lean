/- What SameAll finds in its closures; items. -/
import Derived.Test.YtiilgehdkanmnaaSameAst
import Derived.Lib.QuietBelow
import Derived.Test.YtiilgehdkanmnaaSameM1
namespace Go.Proofs.Ytiilgehdkanmnaa
section
open Go.RowKit Go.Shelf

attribute [local go_sem] Oper.semAt_some

def sameV (B6 B7 : Nat) : Value := .func (.func 21) #[] #[.pointer (some ⟨B6, 0, none⟩), .pointer (some ⟨B7, 0, none⟩)]
def itemV (B8 : Nat) : Value := .func (.func 22) #[] #[.pointer (some ⟨B8, 0, none⟩)]
def declV (B8 B9 : Nat) : Value := .func (.func 27) #[] #[.pointer (some ⟨B8, 0, none⟩), .pointer (some ⟨B9, 0, none⟩)]
/-- the classes of both programs -/
structure SEnv (B6 B7 q1 q2 n1 n2 : Nat) (cs ds : List Nat) (W : World) : Prop where
  c6 : W.cell? ⟨B6, 0, none⟩ = some (.slice (some ⟨q1, 0, none⟩) n1 n1)
  c7 : W.cell? ⟨B7, 0, none⟩ = some (.slice (some ⟨q2, 0, none⟩) n2 n2)
  r1 : RowN W q1 n1 (fun j => cs.getD j 0)
  r2 : RowN W q2 n2 (fun j => ds.getD j 0)
theorem SEnv.below {B6 B7 q1 q2 n1 n2 : Nat} {cs ds : List Nat} {W Y : World} (h : SEnv B6 B7 q1 q2 n1 n2 cs ds W) (hb : Below W.heap.size W Y) : SEnv B6 B7 q1 q2 n1 n2 cs ds Y :=
  ⟨cell_on hb h.c6, cell_on hb h.c7, h.r1.same (hb.block _ h.r1.lt), h.r2.same (hb.block _ h.r2.lt)⟩
/-- have two expressions one class, if there are any -/
def sameC (cs ds : List Nat) (has : Bool) (a b : Int) : Bool := !has || decide (cs.getD a.toNat 0 = ds.getD b.toNat 0)
set_option maxHeartbeats 8000000 in
set_option maxRecDepth 100000 in
theorem same1_any (B6 B7 q1 q2 n1 n2 : Nat) (cs ds : List Nat) (hn1 : (n1 : Int) ≤ 1000) (hn2 : (n2 : Int) ≤ 1000) (W : World) (E : Hid (SEnv B6 B7 q1 q2 n1 n2 cs ds W)) (has : Bool) (a b : Int) (h : Hid (has = true → (0 ≤ a ∧ a < (n1 : Int)) ∧ 0 ≤ b ∧ b < (n2 : Int))) :
    Calls Try.prog 21 #[.bool has, .int .i64 a, .int .i64 b, .pointer (some ⟨B6, 0, none⟩), .pointer (some ⟨B7, 0, none⟩)] W fun r Y => r = .returned (.bool (sameC cs ds has a b)) ∧ Below W.heap.size W Y := by
  have g6 := E.out.c6
  have g7 := E.out.c7
  go_enter Try.func21, Try.ntmps21
  cases has with
  | false =>
    have G6 := fun pr : Regrown => cell_regrown g6 pr.d pr.os
    have G7 := fun pr : Regrown => cell_regrown g7 pr.d pr.os
    clear g6 g7
    go_wp2_with (fail)
    refine wp_region_quiet_below (by kernel_rfl) (by kernel_rfl) ?_
    repeat (go_big_quiet_step (fail))
    refine wpQuiet_nil ?_
    intro w7 hw7
    have HB3 : Hid (Below W.heap.size W w7) := Lib.hid (by obtain ⟨pr, rfl⟩ := hw7; exact below_regrown _ _ _)
    clear hw7
    go_wp2_with fail
    go_ret
    exact ⟨rfl, HB3.out⟩
  | true =>
    obtain ⟨⟨a0, a1⟩, b0, b1⟩ := h.out rfl
    obtain ⟨i, rfl⟩ := Int.eq_ofNat_of_zero_le a0
    obtain ⟨j, rfl⟩ := Int.eq_ofNat_of_zero_le b0
    have hi : i < n1 := by omega
    have hj : j < n2 := by omega
    have g1 := E.out.r1.cell hi
    have g2 := E.out.r2.cell hj
    have ix1 := ix_row hi (by omega) (q := q1)
    have ix2 := ix_row hj (by omega) (q := q2)
    unfold Ix at ix1 ix2
    obtain ⟨ca, hca⟩ : ∃ ca, ca = cs.getD i 0 := ⟨_, rfl⟩
    obtain ⟨cb, hcb⟩ : ∃ cb, cb = ds.getD j 0 := ⟨_, rfl⟩
    rw [← hca] at g1
    rw [← hcb] at g2
    have HS : Hid (sameC cs ds true (i : Int) (j : Int) = decide (ca = cb)) := Lib.hid (by unfold sameC; rw [hca, hcb]; simp)
    have G6 := fun pr : Regrown => cell_regrown g6 pr.d pr.os
    have G7 := fun pr : Regrown => cell_regrown g7 pr.d pr.os
    have G1 := fun pr : Regrown => cell_regrown g1 pr.d pr.os
    have G2 := fun pr : Regrown => cell_regrown g2 pr.d pr.os
    clear g6 g7 g1 g2 hca hcb h a0 a1 b0 b1
    by_cases hcc : ca = cb
    · have z1 : ((ca : Int) == (cb : Int)) = true := by simp [hcc]
      have HT : Hid (sameC cs ds true (i : Int) (j : Int) = true) := Lib.hid (by rw [HS.out]; simp [hcc])
      clear hcc
      go_wp2_with (fail)
      refine wp_region_quiet_below (by kernel_rfl) (by kernel_rfl) ?_
      repeat (go_big_quiet_step (fail))
      refine wpQuiet_nil ?_
      intro w7 hw7
      have HB3 : Hid (Below W.heap.size W w7) := Lib.hid (by obtain ⟨pr, rfl⟩ := hw7; exact below_regrown _ _ _)
      clear hw7 G6 G7 G1 G2
      go_wp2_with fail
      go_ret
      exact ⟨by rw [HT.out]; rfl, HB3.out⟩
    · have z1 : ((ca : Int) == (cb : Int)) = false := by simp; omega
      have HT : Hid (sameC cs ds true (i : Int) (j : Int) = false) := Lib.hid (by rw [HS.out]; simp [hcc])
      clear hcc
      go_wp2_with (fail)
      refine wp_region_quiet_below (by kernel_rfl) (by kernel_rfl) ?_
      repeat (go_big_quiet_step (fail))
      refine wpQuiet_nil ?_
      intro w7 hw7
      have HB3 : Hid (Below W.heap.size W w7) := Lib.hid (by obtain ⟨pr, rfl⟩ := hw7; exact below_regrown _ _ _)
      clear hw7 G6 G7 G1 G2
      go_wp2_with fail
      go_ret
      exact ⟨by rw [HT.out]; rfl, HB3.out⟩
end
section
open Go.RowKit Go.Shelf

attribute [local go_sem] Oper.semAt_some

def itemC (cs ds : List Nat) (x y : It) : Bool := headI x y && sameC cs ds (hasE x.kind) x.e y.e && sameC cs ds (hasF x.kind) x.f y.f
set_option maxHeartbeats 8000000 in
set_option maxRecDepth 100000 in
theorem item2_any (B6 B7 B8 q1 q2 n1 n2 : Nat) (cs ds : List Nat) (hn1 : (n1 : Int) ≤ 1000) (hn2 : (n2 : Int) ≤ 1000) (W : World) (E : Hid (SEnv B6 B7 q1 q2 n1 n2 cs ds W)) (h8 : W.cell? ⟨B8, 0, none⟩ = some (sameV B6 B7)) (x y : It) (ox oy : Option Addr) (capx capy : Nat)
    (hs : Hid (StrsAt W (.slice ox x.states.length capx) x.states)) (ht : Hid (StrsAt W (.slice oy y.states.length capy) y.states)) (hx : Hid (ItOk x)) (hy : Hid (ItOk y)) (mx : Hid (mayI n1 x = true)) (my : Hid (mayI n2 y = true)) :
    Calls Try.prog 22 #[.agg #[.int .i64 x.kind, .string x.name, .int .i64 x.type, .int .i64 x.e, .int .i64 x.f, .slice ox x.states.length capx, .string x.state, .string x.next, .int .i64 x.pos], .agg #[.int .i64 y.kind, .string y.name, .int .i64 y.type, .int .i64 y.e, .int .i64 y.f, .slice oy y.states.length capy, .string y.state, .string y.next, .int .i64 y.pos], .pointer (some ⟨B8, 0, none⟩)] W fun r Y => r = .returned (.bool (itemC cs ds x y)) ∧ Below W.heap.size W Y := by
  obtain ⟨Wb, hWb⟩ : ∃ Wb, Wb = (W.alloc (.cells #[.int .i64 x.kind, .string x.name, .int .i64 x.type, .int .i64 x.e, .int .i64 x.f, .slice ox x.states.length capx, .string x.state, .string x.next, .int .i64 x.pos] 43)).alloc (.cells #[.int .i64 y.kind, .string y.name, .int .i64 y.type, .int .i64 y.e, .int .i64 y.f, .slice oy y.states.length capy, .string y.state, .string y.next, .int .i64 y.pos] 43) := ⟨_, rfl⟩
  obtain ⟨f1, f2⟩ := two_alloc W (.cells #[.int .i64 x.kind, .string x.name, .int .i64 x.type, .int .i64 x.e, .int .i64 x.f, .slice ox x.states.length capx, .string x.state, .string x.next, .int .i64 x.pos] 43) (.cells #[.int .i64 y.kind, .string y.name, .int .i64 y.type, .int .i64 y.e, .int .i64 y.f, .slice oy y.states.length capy, .string y.state, .string y.next, .int .i64 y.pos] 43)
  have hal : Below W.heap.size W Wb := by rw [hWb]; exact ((Below.refl W.heap.size W).alloc (Nat.le_refl _) _).alloc (by rw [World.size_alloc]; omega) _
  have HAL := Lib.hid hal
  rw [← hWb] at f1 f2
  have x0 : Wb.cell? ⟨W.heap.size, 0, none⟩ = some (.int .i64 x.kind) := by simp only [World.cell?, f1]; rfl
  have x1 : Wb.cell? ⟨W.heap.size, 1, none⟩ = some (.string x.name) := by simp only [World.cell?, f1]; rfl
  have x2 : Wb.cell? ⟨W.heap.size, 2, none⟩ = some (.int .i64 x.type) := by simp only [World.cell?, f1]; rfl
  have x3 : Wb.cell? ⟨W.heap.size, 3, none⟩ = some (.int .i64 x.e) := by simp only [World.cell?, f1]; rfl
  have x4 : Wb.cell? ⟨W.heap.size, 4, none⟩ = some (.int .i64 x.f) := by simp only [World.cell?, f1]; rfl
  have x5 : Wb.cell? ⟨W.heap.size, 5, none⟩ = some (.slice ox x.states.length capx) := by simp only [World.cell?, f1]; rfl
  have x6 : Wb.cell? ⟨W.heap.size, 6, none⟩ = some (.string x.state) := by simp only [World.cell?, f1]; rfl
  have x7 : Wb.cell? ⟨W.heap.size, 7, none⟩ = some (.string x.next) := by simp only [World.cell?, f1]; rfl
  have x8 : Wb.cell? ⟨W.heap.size, 8, none⟩ = some (.int .i64 x.pos) := by simp only [World.cell?, f1]; rfl
  have y0 : Wb.cell? ⟨W.heap.size + 1, 0, none⟩ = some (.int .i64 y.kind) := by simp only [World.cell?, f2]; rfl
  have y1 : Wb.cell? ⟨W.heap.size + 1, 1, none⟩ = some (.string y.name) := by simp only [World.cell?, f2]; rfl
  have y2 : Wb.cell? ⟨W.heap.size + 1, 2, none⟩ = some (.int .i64 y.type) := by simp only [World.cell?, f2]; rfl
  have y3 : Wb.cell? ⟨W.heap.size + 1, 3, none⟩ = some (.int .i64 y.e) := by simp only [World.cell?, f2]; rfl
  have y4 : Wb.cell? ⟨W.heap.size + 1, 4, none⟩ = some (.int .i64 y.f) := by simp only [World.cell?, f2]; rfl
  have y5 : Wb.cell? ⟨W.heap.size + 1, 5, none⟩ = some (.slice oy y.states.length capy) := by simp only [World.cell?, f2]; rfl
  have y6 : Wb.cell? ⟨W.heap.size + 1, 6, none⟩ = some (.string y.state) := by simp only [World.cell?, f2]; rfl
  have y7 : Wb.cell? ⟨W.heap.size + 1, 7, none⟩ = some (.string y.next) := by simp only [World.cell?, f2]; rfl
  have y8 : Wb.cell? ⟨W.heap.size + 1, 8, none⟩ = some (.int .i64 y.pos) := by simp only [World.cell?, f2]; rfl
  have g8 := cell_on hal h8
  unfold sameV at g8
  have G8 := fun pr : Regrown => cell_regrown g8 pr.d pr.os
  have Gx0 := fun pr : Regrown => cell_regrown x0 pr.d pr.os
  have Gx1 := fun pr : Regrown => cell_regrown x1 pr.d pr.os
  have Gx2 := fun pr : Regrown => cell_regrown x2 pr.d pr.os
  have Gx3 := fun pr : Regrown => cell_regrown x3 pr.d pr.os
  have Gx4 := fun pr : Regrown => cell_regrown x4 pr.d pr.os
  have Gx5 := fun pr : Regrown => cell_regrown x5 pr.d pr.os
  have Gx6 := fun pr : Regrown => cell_regrown x6 pr.d pr.os
  have Gx7 := fun pr : Regrown => cell_regrown x7 pr.d pr.os
  have Gx8 := fun pr : Regrown => cell_regrown x8 pr.d pr.os
  have Gy0 := fun pr : Regrown => cell_regrown y0 pr.d pr.os
  have Gy1 := fun pr : Regrown => cell_regrown y1 pr.d pr.os
  have Gy2 := fun pr : Regrown => cell_regrown y2 pr.d pr.os
  have Gy3 := fun pr : Regrown => cell_regrown y3 pr.d pr.os
  have Gy4 := fun pr : Regrown => cell_regrown y4 pr.d pr.os
  have Gy5 := fun pr : Regrown => cell_regrown y5 pr.d pr.os
  have Gy6 := fun pr : Regrown => cell_regrown y6 pr.d pr.os
  have Gy7 := fun pr : Regrown => cell_regrown y7 pr.d pr.os
  have Gy8 := fun pr : Regrown => cell_regrown y8 pr.d pr.os
  clear f1 f2 g8 h8 hal
  clear x0 x1 x2 x3 x4 x5 x6 x7 x8 y0 y1 y2 y3 y4 y5 y6 y7 y8
  obtain ⟨hh, hhh⟩ : ∃ hh, hh = headI x y := ⟨_, rfl⟩
  obtain ⟨he, hhe⟩ : ∃ he, he = hasE x.kind := ⟨_, rfl⟩
  obtain ⟨hf, hhf⟩ : ∃ hf, hf = hasF x.kind := ⟨_, rfl⟩
  have CH : Hid (∀ pr : Regrown, Calls Try.prog 23 #[.agg #[.int .i64 x.kind, .string x.name, .int .i64 x.type, .int .i64 x.e, .int .i64 x.f, .slice ox x.states.length capx, .string x.state, .string x.next, .int .i64 x.pos], .agg #[.int .i64 y.kind, .string y.name, .int .i64 y.type, .int .i64 y.e, .int .i64 y.f, .slice oy y.states.length capy, .string y.state, .string y.next, .int .i64 y.pos]] (Go.Sort.grow (redrawn Wb pr.d) pr.os) fun e w'' => e = .returned (.bool hh) ∧ ∃ p : Regrown, w'' = Go.Sort.grow (redrawn Wb p.d) p.os) := Lib.hid fun pr => Calls.regrown_of (by rw [hhh]; exact sameHead_any x y ox oy capx capy _ (Lib.hid ((hs.out.below HAL.out).below (below_regrown _ _ _))) (Lib.hid ((ht.out.below HAL.out).below (below_regrown _ _ _))) hx hy)
  have CE : Hid (∀ pr : Regrown, Calls Try.prog 24 #[.agg #[.int .i64 x.kind, .string x.name, .int .i64 x.type, .int .i64 x.e, .int .i64 x.f, .slice ox x.states.length capx, .string x.state, .string x.next, .int .i64 x.pos]] (Go.Sort.grow (redrawn Wb pr.d) pr.os) fun e w'' => e = .returned (.bool he) ∧ ∃ p : Regrown, w'' = Go.Sort.grow (redrawn Wb p.d) p.os) := Lib.hid fun pr => Calls.regrown_of (by rw [hhe]; exact hasE_any _ _ _ _ _ _ _ _ _ _)
  have CF : Hid (∀ pr : Regrown, Calls Try.prog 25 #[.agg #[.int .i64 x.kind, .string x.name, .int .i64 x.type, .int .i64 x.e, .int .i64 x.f, .slice ox x.states.length capx, .string x.state, .string x.next, .int .i64 x.pos]] (Go.Sort.grow (redrawn Wb pr.d) pr.os) fun e w'' => e = .returned (.bool hf) ∧ ∃ p : Regrown, w'' = Go.Sort.grow (redrawn Wb p.d) p.os) := Lib.hid fun pr => Calls.regrown_of (by rw [hhf]; exact hasF_any _ _ _ _ _ _ _ _ _ _)
  have HE : Hid (SEnv B6 B7 q1 q2 n1 n2 cs ds Wb) := Lib.hid (E.out.below HAL.out)
  have HHH := Lib.hid hhh
  have HHE := Lib.hid hhe
  have HHF := Lib.hid hhf
  clear hhh hhe hhf E
  go_enter Try.func22, Try.ntmps22
  cases hh with
  | false =>
    have HV : Hid (itemC cs ds x y = false) := Lib.hid (by unfold itemC; rw [← HHH.out]; rfl)
    go_wp2_with (fail)
    rw [← hWb]
    clear hWb
    refine wp_region_quiet_below (by kernel_rfl) (by kernel_rfl) ?_
    repeat (go_big_quiet_step (first | with_reducible exact CH.out _ | with_reducible exact CE.out _ | with_reducible exact CF.out _))
    refine wpQuiet_nil ?_
    intro w7 hw7
    have HB3 : Hid (Below Wb.heap.size Wb w7) := Lib.hid (by obtain ⟨pr, rfl⟩ := hw7; exact below_regrown _ _ _)
    clear hw7 Gx0 Gx1 Gx2 Gx3 Gx4 Gx5 Gx6 Gx7 Gx8 Gy0 Gy1 Gy2 Gy3 Gy4 Gy5 Gy6 Gy7 Gy8 G8 CH CE CF
    go_wp2_with fail
    go_ret
    exact ⟨by rw [HV.out]; rfl, HAL.out.trans (HB3.out.mono HAL.out.size)⟩
  | true =>
    have hkk : x.kind = y.kind := by
      have h1 := HHH.out.symm
      unfold headI at h1
      simp only [Bool.and_eq_true, decide_eq_true_eq] at h1
      exact h1.1.1.1.1.1
    have HKK := Lib.hid hkk
    clear hkk
    obtain ⟨v1, hv1⟩ : ∃ v, v = sameC cs ds he x.e y.e := ⟨_, rfl⟩
    obtain ⟨v2, hv2⟩ : ∃ v, v = sameC cs ds hf x.f y.f := ⟨_, rfl⟩
    have CS : Hid (∀ pr : Regrown, Calls Try.prog 21 #[.bool he, .int .i64 x.e, .int .i64 y.e, .pointer (some ⟨B6, 0, none⟩), .pointer (some ⟨B7, 0, none⟩)] (Go.Sort.grow (redrawn Wb pr.d) pr.os) fun e w'' => e = .returned (.bool v1) ∧ ∃ p : Regrown, w'' = Go.Sort.grow (redrawn Wb p.d) p.os) := Lib.hid fun pr => Calls.regrown_of (by rw [hv1]; exact same1_any B6 B7 q1 q2 n1 n2 cs ds hn1 hn2 _ (Lib.hid (HE.out.below (below_regrown _ _ _))) he x.e y.e (Lib.hid fun h => ⟨mayI_e mx.out (by rw [← HHE.out]; exact h), mayI_e my.out (by rw [← HKK.out, ← HHE.out]; exact h)⟩))
    have CT : Hid (∀ pr : Regrown, Calls Try.prog 21 #[.bool hf, .int .i64 x.f, .int .i64 y.f, .pointer (some ⟨B6, 0, none⟩), .pointer (some ⟨B7, 0, none⟩)] (Go.Sort.grow (redrawn Wb pr.d) pr.os) fun e w'' => e = .returned (.bool v2) ∧ ∃ p : Regrown, w'' = Go.Sort.grow (redrawn Wb p.d) p.os) := Lib.hid fun pr => Calls.regrown_of (by rw [hv2]; exact same1_any B6 B7 q1 q2 n1 n2 cs ds hn1 hn2 _ (Lib.hid (HE.out.below (below_regrown _ _ _))) hf x.f y.f (Lib.hid fun h => ⟨mayI_f mx.out (by rw [← HHF.out]; exact h), mayI_f my.out (by rw [← HKK.out, ← HHF.out]; exact h)⟩))
    have HV1 := Lib.hid hv1
    have HV2 := Lib.hid hv2
    clear hv1 hv2
    cases v1 with
    | false =>
      have HV : Hid (itemC cs ds x y = false) := Lib.hid (by unfold itemC; rw [← HHH.out, ← HHE.out, ← HV1.out]; rfl)
      go_wp2_with (fail)
      rw [← hWb]
      clear hWb
      refine wp_region_quiet_below (by kernel_rfl) (by kernel_rfl) ?_
      repeat (go_big_quiet_step (first | with_reducible exact CH.out _ | with_reducible exact CE.out _ | with_reducible exact CF.out _ | with_reducible exact CS.out _ | with_reducible exact CT.out _))
      refine wpQuiet_nil ?_
      intro w7 hw7
      have HB3 : Hid (Below Wb.heap.size Wb w7) := Lib.hid (by obtain ⟨pr, rfl⟩ := hw7; exact below_regrown _ _ _)
      clear hw7 Gx0 Gx1 Gx2 Gx3 Gx4 Gx5 Gx6 Gx7 Gx8 Gy0 Gy1 Gy2 Gy3 Gy4 Gy5 Gy6 Gy7 Gy8 G8 CH CE CF
      go_wp2_with fail
      go_ret
      exact ⟨by rw [HV.out]; rfl, HAL.out.trans (HB3.out.mono HAL.out.size)⟩
    | true =>
      have HV : Hid (itemC cs ds x y = v2) := Lib.hid (by unfold itemC; rw [← HHH.out, ← HHE.out, ← HHF.out, ← HV1.out, ← HV2.out]; rfl)
      go_wp2_with (fail)
      rw [← hWb]
      clear hWb
      refine wp_region_quiet_below (by kernel_rfl) (by kernel_rfl) ?_
      repeat (go_big_quiet_step (first | with_reducible exact CH.out _ | with_reducible exact CE.out _ | with_reducible exact CF.out _ | with_reducible exact CS.out _ | with_reducible exact CT.out _))
      refine wpQuiet_nil ?_
      intro w7 hw7
      have HB3 : Hid (Below Wb.heap.size Wb w7) := Lib.hid (by obtain ⟨pr, rfl⟩ := hw7; exact below_regrown _ _ _)
      clear hw7 Gx0 Gx1 Gx2 Gx3 Gx4 Gx5 Gx6 Gx7 Gx8 Gy0 Gy1 Gy2 Gy3 Gy4 Gy5 Gy6 Gy7 Gy8 G8 CH CE CF
      go_wp2_with fail
      go_ret
      exact ⟨by rw [HV.out]; rfl, HAL.out.trans (HB3.out.mono HAL.out.size)⟩
end
section
open Go.RowKit Go.Shelf

attribute [local go_sem] Oper.semAt_some

def itemsC (cs ds : List Nat) (xs ys : List It) : Bool := decide (xs.length = ys.length) && (xs.zip ys).all fun z => itemC cs ds z.1 z.2
theorem itemsC_bad {cs ds : List Nat} {xs ys : List It} {c : Nat} {x y : It} (hx : xs[c]? = some x) (hy : ys[c]? = some y) (h : itemC cs ds x y = false) : itemsC cs ds xs ys = false := by
  unfold itemsC
  have hz : ((xs.zip ys).all fun z => itemC cs ds z.1 z.2) = false := by
    rw [List.all_eq_false]
    obtain ⟨l1, e1⟩ := List.getElem?_eq_some_iff.1 hx
    obtain ⟨l2, e2⟩ := List.getElem?_eq_some_iff.1 hy
    refine ⟨(x, y), List.mem_iff_getElem.2 ⟨c, by rw [List.length_zip]; omega, by rw [List.getElem_zip, e1, e2]⟩, fun h3 => by have h4 := h.symm.trans h3; cases h4⟩
  rw [hz, Bool.and_false]
theorem itemsC_good {cs ds : List Nat} {xs ys : List It} (h1 : xs.length = ys.length) (h : ∀ j, j < xs.length → ∀ x y, xs[j]? = some x → ys[j]? = some y → itemC cs ds x y = true) : itemsC cs ds xs ys = true := by
  unfold itemsC
  rw [Bool.and_eq_true, decide_eq_true_eq]
  refine ⟨h1, List.all_eq_true.2 fun z hz => ?_⟩
  obtain ⟨i, hi, he⟩ := List.mem_iff_getElem.1 hz
  rw [List.length_zip] at hi
  rw [← he, List.getElem_zip]
  exact h i (by omega) _ _ (List.getElem?_eq_getElem _) (List.getElem?_eq_getElem _)
set_option maxHeartbeats 8000000 in
set_option maxRecDepth 100000 in
theorem eqI_any (B6 B7 B8 q1 q2 n1 n2 : Nat) (cs ds : List Nat) (hn1 : (n1 : Int) ≤ 1000) (hn2 : (n2 : Int) ≤ 1000) (W : World) (E : Hid (SEnv B6 B7 q1 q2 n1 n2 cs ds W)) (h8 : Hid (W.cell? ⟨B8, 0, none⟩ = some (sameV B6 B7)))
    (xs ys : List It) (s t : Value) (hs : Hid (SlAt s xs.length 9 fun b o i => ∀ y, xs[i]? = some y → ItAt W b o y)) (ht : Hid (SlAt t ys.length 9 fun b o i => ∀ y, ys[i]? = some y → ItAt W b o y))
    (lx : Hid (xs.length ≤ reachN)) (ly : Hid (ys.length ≤ reachN)) (mx : Hid (∀ x ∈ xs, mayI n1 x = true)) (my : Hid (∀ y ∈ ys, mayI n2 y = true)) :
    Calls Try.prog 30 #[s, t, itemV B8] W fun r Y => r = .returned (.bool (itemsC cs ds xs ys)) ∧ Below W.heap.size W Y := by
  obtain ⟨o1, cap1, b1, f1, rfl, _, _, e1, c1⟩ := hs.out
  obtain ⟨o2, cap2, b2, f2, rfl, _, _, e2, c2⟩ := ht.out
  obtain ⟨n, hn⟩ : ∃ n, n = xs.length := ⟨_, rfl⟩
  obtain ⟨m, hm⟩ : ∃ m, m = ys.length := ⟨_, rfl⟩
  rw [← hn] at e1 c1 ⊢
  rw [← hm] at e2 c2 ⊢
  have HN := Lib.hid hn
  have HM := Lib.hid hm
  have E1 := Lib.hid e1
  have E2 := Lib.hid e2
  have C1 := Lib.hid c1
  have C2 := Lib.hid c2
  have hnl : (n : Int) ≤ 140737488351232 := by have := lx.out; unfold reachN at this; omega
  have hml : (m : Int) ≤ 140737488351232 := by have := ly.out; unfold reachN at this; omega
  clear hn hm e1 e2 c1 c2 hs ht lx ly
  unfold itemV
  go_enter Try.func30, Try.ntmps30
  by_cases g1 : ¬ n = m
  · have G1 := Lib.hid g1
    have z1 : ((n : Int) != (m : Int)) = true := by simp; omega
    have HF : Hid (itemsC cs ds xs ys = false) := Lib.hid (by
      have := G1.out
      rw [HN.out, HM.out] at this
      unfold itemsC
      simp [this])
    clear g1
    go_wp2_with (fail)
    go_ret
    exact ⟨by rw [HF.out]; rfl, Below.refl _ _⟩
  have G1 := Lib.hid (Classical.not_not.1 g1)
  have z1 : ((n : Int) != (m : Int)) = false := by simp [G1.out]
  clear g1
  go_wp2_with (fail)
  clear z1
  go_loopw [17] (fun i wr => ∃ (c : Nat), i = .int .i64 (c : Int) ∧ c ≤ n ∧ Hid (∀ j, j < c → ∀ x y, xs[j]? = some x → ys[j]? = some y → itemC cs ds x y = true) ∧ Hid (Below W.heap.size W wr)) (fun i _ => n - litLen i)
  case atStart => exact ⟨0, rfl, Nat.zero_le _, Lib.hid fun j hj => by omega, Lib.hid (Below.refl _ _)⟩
  case round =>
    obtain ⟨c, rfl, hc, hP, hWr⟩ := hrel
    rcases Nat.lt_or_ge c n with hlt | hge
    · have hl : (c : Int) < (n : Int) := by omega
      have hl2 : c < m := by rw [← G1.out]; exact hlt
      have ix1 := ix_its (cap := cap1) E1.out hlt (by omega)
      have ix2 := ix_its (cap := cap2) E2.out hl2 (by omega)
      unfold Ix at ix1 ix2
      obtain ⟨x, hxk⟩ : ∃ x, xs[c]? = some x := ⟨_, List.getElem?_eq_getElem (by have := HN.out; omega)⟩
      obtain ⟨y, hyk⟩ : ∃ y, ys[c]? = some y := ⟨_, List.getElem?_eq_getElem (by have := HM.out; omega)⟩
      obtain ⟨_, i0, i1, i2, i3, i4, i5, i6, i7, i8, hsx, hokx⟩ := (C1.out c hlt x hxk).below hWr.out
      obtain ⟨_, j0, j1, j2, j3, j4, j5, j6, j7, j8, hsy, hoky⟩ := (C2.out c hl2 y hyk).below hWr.out
      have HSX := Lib.hid hsx
      have HSY := Lib.hid hsy
      obtain ⟨ox, capx, bsx, fsx, rfl, _⟩ := hsx
      obtain ⟨oy, capy, bsy, fsy, rfl, _⟩ := hsy
      have HXK := Lib.hid hxk
      have HYK := Lib.hid hyk
      have HOX := Lib.hid hokx
      have HOY := Lib.hid hoky
      clear hxk hyk hokx hoky
      have hx1 := below_al (Below.refl wr.heap.size wr) (.cells #[.int .i64 x.kind, .string x.name, .int .i64 x.type, .int .i64 x.e, .int .i64 x.f, .slice ox x.states.length capx, .string x.state, .string x.next, .int .i64 x.pos] 43)
      have J0 : (wr.alloc (.cells #[.int .i64 x.kind, .string x.name, .int .i64 x.type, .int .i64 x.e, .int .i64 x.f, .slice ox x.states.length capx, .string x.state, .string x.next, .int .i64 x.pos] 43)).cell? ⟨b2, f2 + c * 9, none⟩ = some (.int .i64 y.kind) := cell_on hx1 j0
      have J1 : (wr.alloc (.cells #[.int .i64 x.kind, .string x.name, .int .i64 x.type, .int .i64 x.e, .int .i64 x.f, .slice ox x.states.length capx, .string x.state, .string x.next, .int .i64 x.pos] 43)).cell? ⟨b2, f2 + c * 9 + 1, none⟩ = some (.string y.name) := cell_on hx1 j1
      have J2 : (wr.alloc (.cells #[.int .i64 x.kind, .string x.name, .int .i64 x.type, .int .i64 x.e, .int .i64 x.f, .slice ox x.states.length capx, .string x.state, .string x.next, .int .i64 x.pos] 43)).cell? ⟨b2, f2 + c * 9 + 2, none⟩ = some (.int .i64 y.type) := cell_on hx1 j2
      have J3 : (wr.alloc (.cells #[.int .i64 x.kind, .string x.name, .int .i64 x.type, .int .i64 x.e, .int .i64 x.f, .slice ox x.states.length capx, .string x.state, .string x.next, .int .i64 x.pos] 43)).cell? ⟨b2, f2 + c * 9 + 3, none⟩ = some (.int .i64 y.e) := cell_on hx1 j3
      have J4 : (wr.alloc (.cells #[.int .i64 x.kind, .string x.name, .int .i64 x.type, .int .i64 x.e, .int .i64 x.f, .slice ox x.states.length capx, .string x.state, .string x.next, .int .i64 x.pos] 43)).cell? ⟨b2, f2 + c * 9 + 4, none⟩ = some (.int .i64 y.f) := cell_on hx1 j4
      have J5 : (wr.alloc (.cells #[.int .i64 x.kind, .string x.name, .int .i64 x.type, .int .i64 x.e, .int .i64 x.f, .slice ox x.states.length capx, .string x.state, .string x.next, .int .i64 x.pos] 43)).cell? ⟨b2, f2 + c * 9 + 5, none⟩ = some (.slice oy y.states.length capy) := cell_on hx1 j5
      have J6 : (wr.alloc (.cells #[.int .i64 x.kind, .string x.name, .int .i64 x.type, .int .i64 x.e, .int .i64 x.f, .slice ox x.states.length capx, .string x.state, .string x.next, .int .i64 x.pos] 43)).cell? ⟨b2, f2 + c * 9 + 6, none⟩ = some (.string y.state) := cell_on hx1 j6
      have J7 : (wr.alloc (.cells #[.int .i64 x.kind, .string x.name, .int .i64 x.type, .int .i64 x.e, .int .i64 x.f, .slice ox x.states.length capx, .string x.state, .string x.next, .int .i64 x.pos] 43)).cell? ⟨b2, f2 + c * 9 + 7, none⟩ = some (.string y.next) := cell_on hx1 j7
      have J8 : (wr.alloc (.cells #[.int .i64 x.kind, .string x.name, .int .i64 x.type, .int .i64 x.e, .int .i64 x.f, .slice ox x.states.length capx, .string x.state, .string x.next, .int .i64 x.pos] 43)).cell? ⟨b2, f2 + c * 9 + 8, none⟩ = some (.int .i64 y.pos) := cell_on hx1 j8
      have hbc : Below wr.heap.size wr ((wr.alloc (.cells #[.int .i64 x.kind, .string x.name, .int .i64 x.type, .int .i64 x.e, .int .i64 x.f, .slice ox x.states.length capx, .string x.state, .string x.next, .int .i64 x.pos] 43)).alloc (.cells #[.int .i64 y.kind, .string y.name, .int .i64 y.type, .int .i64 y.e, .int .i64 y.f, .slice oy y.states.length capy, .string y.state, .string y.next, .int .i64 y.pos] 43)) := below_al hx1 _
      have CC : Hid (∀ Wc, Wc = (wr.alloc (.cells #[.int .i64 x.kind, .string x.name, .int .i64 x.type, .int .i64 x.e, .int .i64 x.f, .slice ox x.states.length capx, .string x.state, .string x.next, .int .i64 x.pos] 43)).alloc (.cells #[.int .i64 y.kind, .string y.name, .int .i64 y.type, .int .i64 y.e, .int .i64 y.f, .slice oy y.states.length capy, .string y.state, .string y.next, .int .i64 y.pos] 43) → Calls Try.prog 22 #[.agg #[.int .i64 x.kind, .string x.name, .int .i64 x.type, .int .i64 x.e, .int .i64 x.f, .slice ox x.states.length capx, .string x.state, .string x.next, .int .i64 x.pos], .agg #[.int .i64 y.kind, .string y.name, .int .i64 y.type, .int .i64 y.e, .int .i64 y.f, .slice oy y.states.length capy, .string y.state, .string y.next, .int .i64 y.pos], .pointer (some ⟨B8, 0, none⟩)] Wc fun r Y => r = .returned (.bool (itemC cs ds x y)) ∧ Below Wc.heap.size Wc Y) := Lib.hid fun Wc hWc => by
        rw [← hWc] at hbc
        exact item2_any B6 B7 B8 q1 q2 n1 n2 cs ds hn1 hn2 Wc (Lib.hid (E.out.below (hWr.out.trans (hbc.mono hWr.out.size)))) (cell_on hbc (cell_on hWr.out h8.out)) x y ox oy capx capy (Lib.hid (HSX.out.below hbc)) (Lib.hid (HSY.out.below hbc)) (Lib.hid HOX.out) (Lib.hid HOY.out) (Lib.hid (mx.out x (List.mem_of_getElem? HXK.out))) (Lib.hid (my.out y (List.mem_of_getElem? HYK.out)))
      have CC := Lib.hid (CC.out _ rfl)
      obtain ⟨v, hv⟩ : ∃ v, v = itemC cs ds x y := ⟨_, rfl⟩
      rw [← hv] at CC
      have HV := Lib.hid hv
      have HBC := Lib.hid hbc
      clear hv hbc hx1
      cases v with
      | false =>
        have HF : Hid (itemsC cs ds xs ys = false) := Lib.hid (itemsC_bad HXK.out HYK.out HV.out.symm)
        go_wp2_with (go_at_call 22; ((with_reducible refine CC.out.mono ?_)); rintro e w5 ⟨rfl, hb5⟩; have HB5 := Lib.hid hb5; clear hb5)
        go_ret
        exact ⟨by rw [HF.out]; rfl, (hWr.out.trans (HBC.out.mono hWr.out.size)).trans (HB5.out.mono (Nat.le_trans hWr.out.size HBC.out.size))⟩
      | true =>
        go_wp2_with (go_at_call 22; ((with_reducible refine CC.out.mono ?_)); rintro e w5 ⟨rfl, hb5⟩; have HB5 := Lib.hid hb5; clear hb5)
        refine ⟨⟨c + 1, by go_num, by omega, Lib.hid fun j hj x1 y1 h1 h2 => ?_, Lib.hid ((hWr.out.trans (HBC.out.mono hWr.out.size)).trans (HB5.out.mono (Nat.le_trans hWr.out.size HBC.out.size)))⟩, ?_⟩
        · rcases Nat.lt_or_ge j c with h | h
          · exact hP.out j h x1 y1 h1 h2
          · obtain rfl : j = c := by omega
            have e1 := HXK.out.symm.trans h1
            have e2 := HYK.out.symm.trans h2
            cases e1; cases e2
            exact HV.out.symm
        · simp [litLen]; omega
    · obtain rfl : c = n := by omega
      have hno : ¬ (c : Int) < (c : Int) := by omega
      have HF : Hid (itemsC cs ds xs ys = true) := Lib.hid (itemsC_good (by rw [← HN.out, ← HM.out]; exact G1.out) fun j hj x y h1 h2 => hP.out j (by rw [HN.out]; exact hj) x y h1 h2)
      go_wp2_with (fail)
      go_ret
      exact ⟨by rw [HF.out]; rfl, hWr.out⟩
end
end Go.Proofs.Ytiilgehdkanmnaa
