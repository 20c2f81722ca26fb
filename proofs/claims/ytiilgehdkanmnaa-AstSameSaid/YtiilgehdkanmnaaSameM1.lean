/- Lists of texts, of parameters, and the heads of items, held against each other. -/
import Derived.Test.YtiilgehdkanmnaaRefSame
import Derived.Test.YtiilgehdkanmnaaAstRefMayP
namespace Go.Proofs.Ytiilgehdkanmnaa
section
open Go.RowKit Go.Shelf

attribute [local go_sem] Oper.semAt_some

theorem ix_str {o : Option Addr} {n cap b off : Nat} (h : 0 < n → o = some ⟨b, off, none⟩) {j : Nat} (hj : j < n) (hn : (n : Int) ≤ 9223372036854775807) : Ix 35 1 (.slice o n cap) b off j := by
  intro W
  rw [h (by omega)]
  have h1 : (j : Int) < (n : Int) := by omega
  have h2 : (j : Int) ≤ 9223372036854775807 := by omega
  go_simp
set_option maxHeartbeats 8000000 in
set_option maxRecDepth 100000 in
theorem refTexts_any (xs ys : List ByteArray) (s t : Value) (w : World) (hs : Hid (StrsAt w s xs)) (ht : Hid (StrsAt w t ys)) (lx : Hid (xs.length ≤ reachN)) (ly : Hid (ys.length ≤ reachN)) :
    Calls Try.prog 46 #[s, t] w fun r Y => r = .returned (.bool (decide (xs = ys))) ∧ Below w.heap.size w Y := by
  obtain ⟨o1, cap1, b1, f1, rfl, _, _, e1, c1⟩ := hs.out
  obtain ⟨o2, cap2, b2, f2, rfl, _, _, e2, c2⟩ := ht.out
  obtain ⟨n, hn⟩ : ∃ n, n = xs.length := ⟨_, rfl⟩
  obtain ⟨m, hm⟩ : ∃ m, m = ys.length := ⟨_, rfl⟩
  rw [← hn] at e1 c1 ⊢
  rw [← hm] at e2 c2 ⊢
  have HN := Lib.hid hn
  have HM := Lib.hid hm
  have E1 := Lib.hid e1
  have E2 := Lib.hid e2
  have C1 := Lib.hid c1
  have C2 := Lib.hid c2
  have hnl : (n : Int) ≤ 140737488351232 := by have := lx.out; unfold reachN at this; omega
  have hml : (m : Int) ≤ 140737488351232 := by have := ly.out; unfold reachN at this; omega
  clear hn hm e1 e2 c1 c2 hs ht lx ly
  go_enter Try.func46, Try.ntmps46
  by_cases g1 : ¬ n = m
  · have G1 := Lib.hid g1
    have z1 : ((n : Int) != (m : Int)) = true := by simp; omega
    have HF : Hid (decide (xs = ys) = false) := Lib.hid (by
      have := G1.out
      rw [HN.out, HM.out] at this
      simpa using fun h : xs = ys => this (by rw [h]))
    clear g1
    go_wp2_with (fail)
    go_ret
    exact ⟨by rw [HF.out]; rfl, Below.refl _ _⟩
  have G1 := Lib.hid (Classical.not_not.1 g1)
  have z1 : ((n : Int) != (m : Int)) = false := by simp [G1.out]
  clear g1
  go_wp2_with (fail)
  clear z1
  go_loopw [5] (fun i wr => ∃ (c : Nat), i = .int .i64 (c : Int) ∧ c ≤ n ∧ Hid (∀ j, j < c → xs.getD j ⟨#[]⟩ = ys.getD j ⟨#[]⟩) ∧ Hid (Below w.heap.size w wr)) (fun i _ => n - litLen i)
  case atStart => exact ⟨0, rfl, Nat.zero_le _, Lib.hid fun j hj => by omega, Lib.hid (Below.refl _ _)⟩
  case round =>
    obtain ⟨c, rfl, hc, hP, hWr⟩ := hrel
    rcases Nat.lt_or_ge c n with hlt | hge
    · have hl : (c : Int) < (n : Int) := by omega
      have hl2 : c < m := by rw [← G1.out]; exact hlt
      have r1 := cell_on hWr.out (C1.out c hlt)
      have r2 := cell_on hWr.out (C2.out c hl2)
      have ix1 := ix_str (cap := cap1) E1.out hlt (by omega)
      have ix2 := ix_str (cap := cap2) E2.out hl2 (by omega)
      unfold Ix at ix1 ix2
      obtain ⟨x, hx⟩ : ∃ x, x = xs.getD c ⟨#[]⟩ := ⟨_, rfl⟩
      obtain ⟨y, hy⟩ : ∃ y, y = ys.getD c ⟨#[]⟩ := ⟨_, rfl⟩
      rw [← hx, Nat.mul_one] at r1
      rw [← hy, Nat.mul_one] at r2
      have HX := Lib.hid hx
      have HY := Lib.hid hy
      have HDR : Hid (Below w.heap.size w wr.drew) := Lib.hid (hWr.out.trans ⟨rfl, rfl, rfl, Nat.le_refl _, fun _ _ => rfl⟩)
      clear hx hy
      by_cases g2 : ¬ x = y
      · have G2 := Lib.hid g2
        have z2 : (x.toList == y.toList) = false := by simpa [toList_iff] using g2
        have HF : Hid (decide (xs = ys) = false) := Lib.hid (by
          have := G2.out
          rw [HX.out, HY.out] at this
          simpa using fun h : xs = ys => this (by rw [h]))
        clear g2
        go_wp2_with (fail)
        go_region_held3 (fun w' => w'.cell? ⟨b1, f1 + c, none⟩ = some (.string x) ∧ w'.cell? ⟨b2, f2 + c, none⟩ = some (.string y))
          (first | exact ⟨r1, r2⟩)
          (first | fail)
        all_goals (go_wp2_with fail)
        go_ret
        exact ⟨by rw [HF.out]; rfl, HDR.out⟩
      have G2 := Lib.hid (Classical.not_not.1 g2)
      have z2 : (x.toList == y.toList) = true := by simp [G2.out]
      clear g2
      go_wp2_with (fail)
      go_region_held3 (fun w' => w'.cell? ⟨b1, f1 + c, none⟩ = some (.string x) ∧ w'.cell? ⟨b2, f2 + c, none⟩ = some (.string y))
        (first | exact ⟨r1, r2⟩)
        (first | fail)
      all_goals (go_wp2_with fail)
      refine ⟨⟨c + 1, by go_num, by omega, Lib.hid fun j hj => ?_, HDR⟩, ?_⟩
      · rcases Nat.lt_or_ge j c with h | h
        · exact hP.out j h
        · obtain rfl : j = c := by omega
          rw [← HX.out, ← HY.out]; exact G2.out
      · simp [litLen]; omega
    · obtain rfl : c = n := by omega
      have hno : ¬ (c : Int) < (c : Int) := by omega
      have HF : Hid (decide (xs = ys) = true) := Lib.hid (by
        rw [decide_eq_true_eq]
        refine List.ext_getElem (by rw [← HN.out, ← HM.out]; exact G1.out) fun i h1 h2 => ?_
        have h3 := hP.out i (by rw [HN.out]; exact h1)
        rw [List.getD_eq_getElem?_getD, List.getD_eq_getElem?_getD, List.getElem?_eq_getElem h1, List.getElem?_eq_getElem h2] at h3
        exact h3)
      go_wp2_with (fail)
      go_ret
      exact ⟨by rw [HF.out]; rfl, hWr.out⟩
end
section
open Go.RowKit Go.Shelf

attribute [local go_sem] Oper.semAt_some

/-- are two items the same -/
def sameIt (l m : List Ex) (x y : It) : Bool :=
  decide (x.kind = y.kind) && decide (x.name = y.name) && decide (x.type = y.type) && decide (x.state = y.state) && decide (x.next = y.next) && decide (x.states = y.states) &&
    (!hasE x.kind || sameL l m x.e.toNat y.e.toNat) && (!hasF x.kind || sameL l m x.f.toNat y.f.toNat)
def sameIts (l m : List Ex) (xs ys : List It) : Bool := decide (xs.length = ys.length) && (xs.zip ys).all fun z => sameIt l m z.1 z.2
def itCells (x : It) (os : Option Addr) (caps : Nat) : Array Value := #[.int .i64 x.kind, .string x.name, .int .i64 x.type, .int .i64 x.e, .int .i64 x.f, .slice os x.states.length caps, .string x.state, .string x.next, .int .i64 x.pos]
theorem mayI_e {n : Nat} {x : It} (h : mayI n x = true) (he : hasE x.kind = true) : 0 ≤ x.e ∧ x.e < (n : Int) := by
  unfold mayI standsE at h
  rw [he, Bool.and_eq_true] at h
  simpa using h.1
theorem mayI_f {n : Nat} {x : It} (h : mayI n x = true) (he : hasF x.kind = true) : 0 ≤ x.f ∧ x.f < (n : Int) := by
  unfold mayI standsE at h
  rw [he, Bool.and_eq_true] at h
  simpa using h.2
end
section
open Go.RowKit Go.Shelf

attribute [local go_sem] Oper.semAt_some

set_option maxHeartbeats 8000000 in
set_option maxRecDepth 100000 in
theorem eqS_any (xs ys : List ByteArray) (s t : Value) (w : World) (hs : Hid (StrsAt w s xs)) (ht : Hid (StrsAt w t ys)) (lx : Hid (xs.length ≤ reachN)) (ly : Hid (ys.length ≤ reachN)) :
    Calls Try.prog 45 #[s, t] w fun r Y => r = .returned (.bool (decide (xs = ys))) ∧ Below w.heap.size w Y := by
  obtain ⟨o1, cap1, b1, f1, rfl, _, _, e1, c1⟩ := hs.out
  obtain ⟨o2, cap2, b2, f2, rfl, _, _, e2, c2⟩ := ht.out
  obtain ⟨n, hn⟩ : ∃ n, n = xs.length := ⟨_, rfl⟩
  obtain ⟨m, hm⟩ : ∃ m, m = ys.length := ⟨_, rfl⟩
  rw [← hn] at e1 c1 ⊢
  rw [← hm] at e2 c2 ⊢
  have HN := Lib.hid hn
  have HM := Lib.hid hm
  have E1 := Lib.hid e1
  have E2 := Lib.hid e2
  have C1 := Lib.hid c1
  have C2 := Lib.hid c2
  have hnl : (n : Int) ≤ 140737488351232 := by have := lx.out; unfold reachN at this; omega
  have hml : (m : Int) ≤ 140737488351232 := by have := ly.out; unfold reachN at this; omega
  clear hn hm e1 e2 c1 c2 hs ht lx ly
  go_enter Try.func45, Try.ntmps45
  by_cases g1 : ¬ n = m
  · have G1 := Lib.hid g1
    have z1 : ((n : Int) != (m : Int)) = true := by simp; omega
    have HF : Hid (decide (xs = ys) = false) := Lib.hid (by
      have := G1.out
      rw [HN.out, HM.out] at this
      simpa using fun h : xs = ys => this (by rw [h]))
    clear g1
    go_wp2_with (fail)
    go_ret
    exact ⟨by rw [HF.out]; rfl, Below.refl _ _⟩
  have G1 := Lib.hid (Classical.not_not.1 g1)
  have z1 : ((n : Int) != (m : Int)) = false := by simp [G1.out]
  clear g1
  go_wp2_with (fail)
  clear z1
  go_loopw [13] (fun i wr => ∃ (c : Nat), i = .int .i64 (c : Int) ∧ c ≤ n ∧ Hid (∀ j, j < c → xs.getD j ⟨#[]⟩ = ys.getD j ⟨#[]⟩) ∧ Hid (Below w.heap.size w wr)) (fun i _ => n - litLen i)
  case atStart => exact ⟨0, rfl, Nat.zero_le _, Lib.hid fun j hj => by omega, Lib.hid (Below.refl _ _)⟩
  case round =>
    obtain ⟨c, rfl, hc, hP, hWr⟩ := hrel
    rcases Nat.lt_or_ge c n with hlt | hge
    · have hl : (c : Int) < (n : Int) := by omega
      have hl2 : c < m := by rw [← G1.out]; exact hlt
      have r1 := cell_on hWr.out (C1.out c hlt)
      have r2 := cell_on hWr.out (C2.out c hl2)
      have ix1 := ix_str (cap := cap1) E1.out hlt (by omega)
      have ix2 := ix_str (cap := cap2) E2.out hl2 (by omega)
      unfold Ix at ix1 ix2
      obtain ⟨x, hx⟩ : ∃ x, x = xs.getD c ⟨#[]⟩ := ⟨_, rfl⟩
      obtain ⟨y, hy⟩ : ∃ y, y = ys.getD c ⟨#[]⟩ := ⟨_, rfl⟩
      rw [← hx, Nat.mul_one] at r1
      rw [← hy, Nat.mul_one] at r2
      have HX := Lib.hid hx
      have HY := Lib.hid hy
      have HDR : Hid (Below w.heap.size w wr.drew) := Lib.hid (hWr.out.trans ⟨rfl, rfl, rfl, Nat.le_refl _, fun _ _ => rfl⟩)
      clear hx hy
      by_cases g2 : ¬ x = y
      · have G2 := Lib.hid g2
        have z2 : (x.toList == y.toList) = false := by simpa [toList_iff] using g2
        have HF : Hid (decide (xs = ys) = false) := Lib.hid (by
          have := G2.out
          rw [HX.out, HY.out] at this
          simpa using fun h : xs = ys => this (by rw [h]))
        clear g2
        go_wp2_with (fail)
        go_region_held3 (fun w' => w'.cell? ⟨b1, f1 + c, none⟩ = some (.string x) ∧ w'.cell? ⟨b2, f2 + c, none⟩ = some (.string y))
          (first | exact ⟨r1, r2⟩)
          (first | fail)
        all_goals (go_wp2_with fail)
        go_ret
        exact ⟨by rw [HF.out]; rfl, HDR.out⟩
      have G2 := Lib.hid (Classical.not_not.1 g2)
      have z2 : (x.toList == y.toList) = true := by simp [G2.out]
      clear g2
      go_wp2_with (fail)
      go_region_held3 (fun w' => w'.cell? ⟨b1, f1 + c, none⟩ = some (.string x) ∧ w'.cell? ⟨b2, f2 + c, none⟩ = some (.string y))
        (first | exact ⟨r1, r2⟩)
        (first | fail)
      all_goals (go_wp2_with fail)
      refine ⟨⟨c + 1, by go_num, by omega, Lib.hid fun j hj => ?_, HDR⟩, ?_⟩
      · rcases Nat.lt_or_ge j c with h | h
        · exact hP.out j h
        · obtain rfl : j = c := by omega
          rw [← HX.out, ← HY.out]; exact G2.out
      · simp [litLen]; omega
    · obtain rfl : c = n := by omega
      have hno : ¬ (c : Int) < (c : Int) := by omega
      have HF : Hid (decide (xs = ys) = true) := Lib.hid (by
        rw [decide_eq_true_eq]
        refine List.ext_getElem (by rw [← HN.out, ← HM.out]; exact G1.out) fun i h1 h2 => ?_
        have h3 := hP.out i (by rw [HN.out]; exact h1)
        rw [List.getD_eq_getElem?_getD, List.getD_eq_getElem?_getD, List.getElem?_eq_getElem h1, List.getElem?_eq_getElem h2] at h3
        exact h3)
      go_wp2_with (fail)
      go_ret
      exact ⟨by rw [HF.out]; rfl, hWr.out⟩
end
section
open Go.RowKit Go.Shelf

attribute [local go_sem] Oper.semAt_some

/-- are two items the same but for their expressions -/
def headI (x y : It) : Bool := decide (x.kind = y.kind) && decide (x.name = y.name) && decide (x.type = y.type) && decide (x.states = y.states) && decide (x.state = y.state) && decide (x.next = y.next)
set_option maxHeartbeats 8000000 in
set_option maxRecDepth 100000 in
theorem sameHead_any (x y : It) (ox oy : Option Addr) (capx capy : Nat) (w : World) (hs : Hid (StrsAt w (.slice ox x.states.length capx) x.states)) (ht : Hid (StrsAt w (.slice oy y.states.length capy) y.states)) (hx : Hid (ItOk x)) (hy : Hid (ItOk y)) :
    Calls Try.prog 23 #[.agg #[.int .i64 x.kind, .string x.name, .int .i64 x.type, .int .i64 x.e, .int .i64 x.f, .slice ox x.states.length capx, .string x.state, .string x.next, .int .i64 x.pos], .agg #[.int .i64 y.kind, .string y.name, .int .i64 y.type, .int .i64 y.e, .int .i64 y.f, .slice oy y.states.length capy, .string y.state, .string y.next, .int .i64 y.pos]] w fun r Y => r = .returned (.bool (headI x y)) ∧ Below w.heap.size w Y := by
  have CT : Hid (∀ V, Below w.heap.size w V → Calls Try.prog 45 #[.slice ox x.states.length capx, .slice oy y.states.length capy] V fun r Y => r = .returned (.bool (decide (x.states = y.states))) ∧ Below V.heap.size V Y) := Lib.hid fun V hV => eqS_any x.states y.states _ _ V (Lib.hid (hs.out.below hV)) (Lib.hid (ht.out.below hV)) (Lib.hid hx.out.states) (Lib.hid hy.out.states)
  obtain ⟨st, hst⟩ : ∃ st, st = decide (x.states = y.states) := ⟨_, rfl⟩
  rw [← hst] at CT
  have HST := Lib.hid hst
  obtain ⟨f1, f2⟩ := two_alloc w (.cells #[.int .i64 x.kind, .string x.name, .int .i64 x.type, .int .i64 x.e, .int .i64 x.f, .slice ox x.states.length capx, .string x.state, .string x.next, .int .i64 x.pos] 43) (.cells #[.int .i64 y.kind, .string y.name, .int .i64 y.type, .int .i64 y.e, .int .i64 y.f, .slice oy y.states.length capy, .string y.state, .string y.next, .int .i64 y.pos] 43)
  have HAL := Lib.hid (((Below.refl w.heap.size w).alloc (Nat.le_refl _) (.cells #[.int .i64 x.kind, .string x.name, .int .i64 x.type, .int .i64 x.e, .int .i64 x.f, .slice ox x.states.length capx, .string x.state, .string x.next, .int .i64 x.pos] 43)).alloc (by rw [World.size_alloc]; omega) (.cells #[.int .i64 y.kind, .string y.name, .int .i64 y.type, .int .i64 y.e, .int .i64 y.f, .slice oy y.states.length capy, .string y.state, .string y.next, .int .i64 y.pos] 43))
  have s6 : ((w.alloc (.cells #[.int .i64 x.kind, .string x.name, .int .i64 x.type, .int .i64 x.e, .int .i64 x.f, .slice ox x.states.length capx, .string x.state, .string x.next, .int .i64 x.pos] 43)).alloc (.cells #[.int .i64 y.kind, .string y.name, .int .i64 y.type, .int .i64 y.e, .int .i64 y.f, .slice oy y.states.length capy, .string y.state, .string y.next, .int .i64 y.pos] 43)).cell? ⟨w.heap.size, 6, none⟩ = some (.string x.state) := by simp only [World.cell?, f1]; rfl
  have s7 : ((w.alloc (.cells #[.int .i64 x.kind, .string x.name, .int .i64 x.type, .int .i64 x.e, .int .i64 x.f, .slice ox x.states.length capx, .string x.state, .string x.next, .int .i64 x.pos] 43)).alloc (.cells #[.int .i64 y.kind, .string y.name, .int .i64 y.type, .int .i64 y.e, .int .i64 y.f, .slice oy y.states.length capy, .string y.state, .string y.next, .int .i64 y.pos] 43)).cell? ⟨w.heap.size, 7, none⟩ = some (.string x.next) := by simp only [World.cell?, f1]; rfl
  have t6 : ((w.alloc (.cells #[.int .i64 x.kind, .string x.name, .int .i64 x.type, .int .i64 x.e, .int .i64 x.f, .slice ox x.states.length capx, .string x.state, .string x.next, .int .i64 x.pos] 43)).alloc (.cells #[.int .i64 y.kind, .string y.name, .int .i64 y.type, .int .i64 y.e, .int .i64 y.f, .slice oy y.states.length capy, .string y.state, .string y.next, .int .i64 y.pos] 43)).cell? ⟨w.heap.size + 1, 6, none⟩ = some (.string y.state) := by simp only [World.cell?, f2]; rfl
  have t7 : ((w.alloc (.cells #[.int .i64 x.kind, .string x.name, .int .i64 x.type, .int .i64 x.e, .int .i64 x.f, .slice ox x.states.length capx, .string x.state, .string x.next, .int .i64 x.pos] 43)).alloc (.cells #[.int .i64 y.kind, .string y.name, .int .i64 y.type, .int .i64 y.e, .int .i64 y.f, .slice oy y.states.length capy, .string y.state, .string y.next, .int .i64 y.pos] 43)).cell? ⟨w.heap.size + 1, 7, none⟩ = some (.string y.next) := by simp only [World.cell?, f2]; rfl
  clear f1 f2 hst
  go_enter Try.func23, Try.ntmps23
  by_cases g : ¬ x.kind = y.kind
  · have HF : Hid (headI x y = false) := Lib.hid (by unfold headI; simp [g])
    have z1 : (x.kind == y.kind) = false := by simpa using g
    clear g
    go_wp2_with (first | (go_at_call 45; ((with_reducible refine (CT.out _ HAL.out).mono ?_)); rintro e w5 ⟨rfl, hb5⟩; have HB5 := Lib.hid hb5; replace s6 := cell_on hb5 s6; replace s7 := cell_on hb5 s7; replace t6 := cell_on hb5 t6; replace t7 := cell_on hb5 t7; clear hb5 CT))
    go_ret
    exact ⟨by rw [HF.out]; rfl, HAL.out⟩
  have G1 := Lib.hid (Classical.not_not.1 g)
  have z1 : (x.kind == y.kind) = true := by simp [G1.out]
  clear g
  by_cases g : ¬ x.name = y.name
  · have HF : Hid (headI x y = false) := Lib.hid (by unfold headI; simp [g])
    have z2 : (x.name.toList == y.name.toList) = false := by simpa [toList_iff] using g
    clear g
    go_wp2_with (first | (go_at_call 45; ((with_reducible refine (CT.out _ HAL.out).mono ?_)); rintro e w5 ⟨rfl, hb5⟩; have HB5 := Lib.hid hb5; replace s6 := cell_on hb5 s6; replace s7 := cell_on hb5 s7; replace t6 := cell_on hb5 t6; replace t7 := cell_on hb5 t7; clear hb5 CT))
    go_ret
    exact ⟨by rw [HF.out]; rfl, HAL.out⟩
  have G2 := Lib.hid (Classical.not_not.1 g)
  have z2 : (x.name.toList == y.name.toList) = true := by simp [G2.out]
  clear g
  by_cases g : ¬ x.type = y.type
  · have HF : Hid (headI x y = false) := Lib.hid (by unfold headI; simp [g])
    have z3 : (x.type == y.type) = false := by simpa using g
    clear g
    go_wp2_with (first | (go_at_call 45; ((with_reducible refine (CT.out _ HAL.out).mono ?_)); rintro e w5 ⟨rfl, hb5⟩; have HB5 := Lib.hid hb5; replace s6 := cell_on hb5 s6; replace s7 := cell_on hb5 s7; replace t6 := cell_on hb5 t6; replace t7 := cell_on hb5 t7; clear hb5 CT))
    go_ret
    exact ⟨by rw [HF.out]; rfl, HAL.out⟩
  have G3 := Lib.hid (Classical.not_not.1 g)
  have z3 : (x.type == y.type) = true := by simp [G3.out]
  clear g
  cases st with
  | false =>
    have HF : Hid (headI x y = false) := Lib.hid (by unfold headI; rw [← HST.out]; simp)
    go_wp2_with (first | (go_at_call 45; ((with_reducible refine (CT.out _ HAL.out).mono ?_)); rintro e w5 ⟨rfl, hb5⟩; have HB5 := Lib.hid hb5; replace s6 := cell_on hb5 s6; replace s7 := cell_on hb5 s7; replace t6 := cell_on hb5 t6; replace t7 := cell_on hb5 t7; clear hb5 CT))
    go_ret
    exact ⟨by rw [HF.out]; rfl, HAL.out.trans (HB5.out.mono HAL.out.size)⟩
  | true =>
  by_cases g : ¬ x.state = y.state
  · have HF : Hid (headI x y = false) := Lib.hid (by unfold headI; simp [g])
    have z5 : (x.state.toList == y.state.toList) = false := by simpa [toList_iff] using g
    clear g
    go_wp2_with (first | (go_at_call 45; ((with_reducible refine (CT.out _ HAL.out).mono ?_)); rintro e w5 ⟨rfl, hb5⟩; have HB5 := Lib.hid hb5; replace s6 := cell_on hb5 s6; replace s7 := cell_on hb5 s7; replace t6 := cell_on hb5 t6; replace t7 := cell_on hb5 t7; clear hb5 CT))
    go_ret
    exact ⟨by rw [HF.out]; rfl, HAL.out.trans (HB5.out.mono HAL.out.size)⟩
  have G5 := Lib.hid (Classical.not_not.1 g)
  have z5 : (x.state.toList == y.state.toList) = true := by simp [G5.out]
  clear g
  by_cases g : ¬ x.next = y.next
  · have HF : Hid (headI x y = false) := Lib.hid (by unfold headI; simp [g])
    have z6 : (x.next.toList == y.next.toList) = false := by simpa [toList_iff] using g
    clear g
    go_wp2_with (first | (go_at_call 45; ((with_reducible refine (CT.out _ HAL.out).mono ?_)); rintro e w5 ⟨rfl, hb5⟩; have HB5 := Lib.hid hb5; replace s6 := cell_on hb5 s6; replace s7 := cell_on hb5 s7; replace t6 := cell_on hb5 t6; replace t7 := cell_on hb5 t7; clear hb5 CT))
    go_ret
    exact ⟨by rw [HF.out]; rfl, HAL.out.trans (HB5.out.mono HAL.out.size)⟩
  have G6 := Lib.hid (Classical.not_not.1 g)
  have z6 : (x.next.toList == y.next.toList) = true := by simp [G6.out]
  clear g
  have HF : Hid (headI x y = true) := Lib.hid (by unfold headI; rw [← HST.out, G1.out, G2.out, G3.out, G5.out, G6.out]; simp)
  go_wp2_with (first | (go_at_call 45; ((with_reducible refine (CT.out _ HAL.out).mono ?_)); rintro e w5 ⟨rfl, hb5⟩; have HB5 := Lib.hid hb5; replace s6 := cell_on hb5 s6; replace s7 := cell_on hb5 s7; replace t6 := cell_on hb5 t6; replace t7 := cell_on hb5 t7; clear hb5 CT))
  go_ret
  exact ⟨by rw [HF.out]; rfl, HAL.out.trans (HB5.out.mono HAL.out.size)⟩
end
section
open Go.RowKit Go.Shelf

attribute [local go_sem] Oper.semAt_some

theorem ix_pas {o : Option Addr} {n cap b off : Nat} (h : 0 < n → o = some ⟨b, off, none⟩) {j : Nat} (hj : j < n) (hn : (n : Int) ≤ 9223372036854775807) : Ix 38 2 (.slice o n cap) b off j := by
  intro W
  rw [h (by omega)]
  have h1 : (j : Int) < (n : Int) := by omega
  have h2 : (j : Int) ≤ 9223372036854775807 := by omega
  go_simp
/-- are two lists of parameters the same -/
def samePa (x y : Pa) : Bool := decide (x.name = y.name) && decide (x.type = y.type)
def samePas (xs ys : List Pa) : Bool := decide (xs.length = ys.length) && (xs.zip ys).all fun z => samePa z.1 z.2
theorem samePas_bad {xs ys : List Pa} {c : Nat} {x y : Pa} (hx : xs[c]? = some x) (hy : ys[c]? = some y) (h : samePa x y = false) : samePas xs ys = false := by
  unfold samePas
  have hz : ((xs.zip ys).all fun z => samePa z.1 z.2) = false := by
    rw [List.all_eq_false]
    obtain ⟨l1, e1⟩ := List.getElem?_eq_some_iff.1 hx
    obtain ⟨l2, e2⟩ := List.getElem?_eq_some_iff.1 hy
    refine ⟨(x, y), List.mem_iff_getElem.2 ⟨c, by rw [List.length_zip]; omega, by rw [List.getElem_zip, e1, e2]⟩, fun h3 => by have h4 := h.symm.trans h3; cases h4⟩
  rw [hz, Bool.and_false]
theorem samePas_good {xs ys : List Pa} (h1 : xs.length = ys.length) (h : ∀ j, j < xs.length → ∀ x y, xs[j]? = some x → ys[j]? = some y → samePa x y = true) : samePas xs ys = true := by
  unfold samePas
  rw [Bool.and_eq_true, decide_eq_true_eq]
  refine ⟨h1, List.all_eq_true.2 fun z hz => ?_⟩
  obtain ⟨i, hi, he⟩ := List.mem_iff_getElem.1 hz
  rw [List.length_zip] at hi
  rw [← he, List.getElem_zip]
  exact h i (by omega) _ _ (List.getElem?_eq_getElem _) (List.getElem?_eq_getElem _)
set_option maxHeartbeats 8000000 in
set_option maxRecDepth 100000 in
theorem eqP_any (xs ys : List Pa) (s t : Value) (w : World) (hs : Hid (SlAt s xs.length 2 fun b o i => ∀ y, xs[i]? = some y → PaAt w b o y)) (ht : Hid (SlAt t ys.length 2 fun b o i => ∀ y, ys[i]? = some y → PaAt w b o y)) (lx : Hid (xs.length ≤ reachN)) (ly : Hid (ys.length ≤ reachN)) :
    Calls Try.prog 29 #[s, t] w fun r Y => r = .returned (.bool (samePas xs ys)) ∧ Below w.heap.size w Y := by
  obtain ⟨o1, cap1, b1, f1, rfl, _, _, e1, c1⟩ := hs.out
  obtain ⟨o2, cap2, b2, f2, rfl, _, _, e2, c2⟩ := ht.out
  obtain ⟨n, hn⟩ : ∃ n, n = xs.length := ⟨_, rfl⟩
  obtain ⟨m, hm⟩ : ∃ m, m = ys.length := ⟨_, rfl⟩
  rw [← hn] at e1 c1 ⊢
  rw [← hm] at e2 c2 ⊢
  have HN := Lib.hid hn
  have HM := Lib.hid hm
  have E1 := Lib.hid e1
  have E2 := Lib.hid e2
  have C1 := Lib.hid c1
  have C2 := Lib.hid c2
  have hnl : (n : Int) ≤ 140737488351232 := by have := lx.out; unfold reachN at this; omega
  have hml : (m : Int) ≤ 140737488351232 := by have := ly.out; unfold reachN at this; omega
  clear hn hm e1 e2 c1 c2 hs ht lx ly
  go_enter Try.func29, Try.ntmps29
  by_cases g1 : ¬ n = m
  · have G1 := Lib.hid g1
    have z1 : ((n : Int) != (m : Int)) = true := by simp; omega
    have HF : Hid (samePas xs ys = false) := Lib.hid (by
      have := G1.out
      rw [HN.out, HM.out] at this
      unfold samePas
      simp [this])
    clear g1
    go_wp2_with (fail)
    go_ret
    exact ⟨by rw [HF.out]; rfl, Below.refl _ _⟩
  have G1 := Lib.hid (Classical.not_not.1 g1)
  have z1 : ((n : Int) != (m : Int)) = false := by simp [G1.out]
  clear g1
  go_wp2_with (fail)
  clear z1
  go_loopw [13] (fun i wr => ∃ (c : Nat), i = .int .i64 (c : Int) ∧ c ≤ n ∧ Hid (∀ j, j < c → ∀ x y, xs[j]? = some x → ys[j]? = some y → samePa x y = true) ∧ Hid (Below w.heap.size w wr)) (fun i _ => n - litLen i)
  case atStart => exact ⟨0, rfl, Nat.zero_le _, Lib.hid fun j hj => by omega, Lib.hid (Below.refl _ _)⟩
  case round =>
    obtain ⟨c, rfl, hc, hP, hWr⟩ := hrel
    rcases Nat.lt_or_ge c n with hlt | hge
    · have hl : (c : Int) < (n : Int) := by omega
      have hl2 : c < m := by rw [← G1.out]; exact hlt
      obtain ⟨x, hxk⟩ : ∃ x, xs[c]? = some x := ⟨_, List.getElem?_eq_getElem (by have := HN.out; omega)⟩
      obtain ⟨y, hyk⟩ : ∃ y, ys[c]? = some y := ⟨_, List.getElem?_eq_getElem (by have := HM.out; omega)⟩
      obtain ⟨p1, p2, p3, p4⟩ := (C1.out c hlt x hxk).below hWr.out
      obtain ⟨q1, q2, q3, q4⟩ := (C2.out c hl2 y hyk).below hWr.out
      have ix1 := ix_pas (cap := cap1) E1.out hlt (by omega)
      have ix2 := ix_pas (cap := cap2) E2.out hl2 (by omega)
      unfold Ix at ix1 ix2
      have HX := Lib.hid hxk
      have HY := Lib.hid hyk
      have HDR : Hid (Below w.heap.size w wr.drew) := Lib.hid (hWr.out.trans ⟨rfl, rfl, rfl, Nat.le_refl _, fun _ _ => rfl⟩)
      clear hxk hyk p3 p4 q3 q4
      by_cases g2 : ¬ x.name = y.name
      · have HF : Hid (samePas xs ys = false) := Lib.hid (samePas_bad HX.out HY.out (by unfold samePa; simp [g2]))
        have z2 : (x.name.toList == y.name.toList) = false := by simpa [toList_iff] using g2
        have z22 : ¬ x.name.toList = y.name.toList := by simpa [toList_iff] using g2
        have z23 : ¬ x.name = y.name := g2
        clear g2
        go_wp2_with (fail)
        go_region_held3 (fun w' => w'.cell? ⟨b1, f1 + c * 2, none⟩ = some (.string x.name) ∧ w'.cell? ⟨b1, f1 + c * 2 + 1, none⟩ = some (.int .i64 x.type) ∧ w'.cell? ⟨b2, f2 + c * 2, none⟩ = some (.string y.name) ∧ w'.cell? ⟨b2, f2 + c * 2 + 1, none⟩ = some (.int .i64 y.type))
          (first | exact ⟨p1, p2, q1, q2⟩)
          (first | fail)
        all_goals (go_wp2_with fail)
        go_ret
        exact ⟨by rw [HF.out]; rfl, HDR.out⟩
      have G2 := Lib.hid (Classical.not_not.1 g2)
      have z2 : (x.name.toList == y.name.toList) = true := by simp [G2.out]
      have z22 : x.name.toList = y.name.toList := by rw [G2.out]
      clear g2
      by_cases g3 : ¬ x.type = y.type
      · have HF : Hid (samePas xs ys = false) := Lib.hid (samePas_bad HX.out HY.out (by unfold samePa; simp [g3]))
        have z3 : (x.type == y.type) = false := by simpa using g3
        have z33 : ¬ x.type = y.type := g3
        clear g3
        go_wp2_with (fail)
        go_region_held3 (fun w' => w'.cell? ⟨b1, f1 + c * 2, none⟩ = some (.string x.name) ∧ w'.cell? ⟨b1, f1 + c * 2 + 1, none⟩ = some (.int .i64 x.type) ∧ w'.cell? ⟨b2, f2 + c * 2, none⟩ = some (.string y.name) ∧ w'.cell? ⟨b2, f2 + c * 2 + 1, none⟩ = some (.int .i64 y.type))
          (first | exact ⟨p1, p2, q1, q2⟩)
          (first | fail)
        all_goals (go_wp2_with fail)
        go_ret
        exact ⟨by rw [HF.out]; rfl, HDR.out⟩
      have G3 := Lib.hid (Classical.not_not.1 g3)
      have z3 : (x.type == y.type) = true := by simp [G3.out]
      clear g3
      go_wp2_with (fail)
      go_region_held3 (fun w' => w'.cell? ⟨b1, f1 + c * 2, none⟩ = some (.string x.name) ∧ w'.cell? ⟨b1, f1 + c * 2 + 1, none⟩ = some (.int .i64 x.type) ∧ w'.cell? ⟨b2, f2 + c * 2, none⟩ = some (.string y.name) ∧ w'.cell? ⟨b2, f2 + c * 2 + 1, none⟩ = some (.int .i64 y.type))
        (first | exact ⟨p1, p2, q1, q2⟩)
        (first | fail)
      all_goals (go_wp2_with fail)
      refine ⟨⟨c + 1, by go_num, by omega, Lib.hid fun j hj x1 y1 h1 h2 => ?_, HDR⟩, ?_⟩
      · rcases Nat.lt_or_ge j c with h | h
        · exact hP.out j h x1 y1 h1 h2
        · obtain rfl : j = c := by omega
          have e1 := HX.out.symm.trans h1
          have e2 := HY.out.symm.trans h2
          cases e1; cases e2
          unfold samePa
          rw [G2.out, G3.out]; simp
      · simp [litLen]; omega
    · obtain rfl : c = n := by omega
      have hno : ¬ (c : Int) < (c : Int) := by omega
      have HF : Hid (samePas xs ys = true) := Lib.hid (samePas_good (by rw [← HN.out, ← HM.out]; exact G1.out) fun j hj x y h1 h2 => hP.out j (by rw [HN.out]; exact hj) x y h1 h2)
      go_wp2_with (fail)
      go_ret
      exact ⟨by rw [HF.out]; rfl, hWr.out⟩
end
end Go.Proofs.Ytiilgehdkanmnaa
