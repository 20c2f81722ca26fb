/- The reference's Same: two expressions of two programs. -/
import Derived.Test.YtiilgehdkanmnaaSameMath
import Derived.Deep.RegionHeld3
import Derived.Deep.CutRange
namespace Go.Proofs.Ytiilgehdkanmnaa
open Go.RowKit Go.Shelf

attribute [local go_sem] Oper.semAt_some

theorem two_alloc (w : World) (o1 o2 : Obj) : ((w.alloc o1).alloc o2).heap[w.heap.size]? = some o1 ∧ ((w.alloc o1).alloc o2).heap[w.heap.size + 1]? = some o2 := by
  refine ⟨?_, ?_⟩
  · rw [heap_old _ _ _ (by rw [World.size_alloc]; omega)]; exact World.alloc_heap_new w _
  · have h := World.alloc_heap_new (w.alloc o1) o2
    rwa [World.size_alloc] at h
set_option maxHeartbeats 8000000 in
set_option maxRecDepth 100000 in
theorem refSame_core (p q : Pr) (o1 o2 : Option Addr) (m1 d1 b1 f1 cap1 n1 m2 d2 b2 f2 cap2 n2 : Nat) (hn1 : Hid (p.exprs.length = n1)) (hn2 : Hid (q.exprs.length = n2)) (nl1 : (n1 : Int) ≤ 300) (nl2 : (n2 : Int) ≤ 300)
    (hm1 : Hid (mayP p = true)) (hm2 : Hid (mayP q = true)) (hS1 : Hid (Small p)) (hS2 : Hid (Small q)) (w0 : World)
    (hc1 : Hid (∀ i, i < n1 → ∀ x, p.exprs[i]? = some x → ExAt w0 b1 (f1 + i * 9) x)) (hc2 : Hid (∀ i, i < n2 → ∀ x, q.exprs[i]? = some x → ExAt w0 b2 (f2 + i * 9) x)) :
    ∀ a : Nat, a < n1 → ∀ (b : Nat), b < n2 → ∀ (W : World), Below w0.heap.size w0 W →
      Calls Try.prog 11 #[.agg #[.slice o1 m1 d1, .slice (some ⟨b1, f1, none⟩) n1 cap1], .int .i64 (a : Int), .agg #[.slice o2 m2 d2, .slice (some ⟨b2, f2, none⟩) n2 cap2], .int .i64 (b : Int)] W fun r Y =>
        r = .returned (.bool (sameL p.exprs q.exprs a b)) ∧ Below W.heap.size W Y := by
  intro a
  induction a using Nat.strongRecOn with
  | _ a ih =>
  intro ha b hb W hW
  have IH := Lib.hid ih
  clear ih
  obtain ⟨x, hxk⟩ : ∃ x, p.exprs[a]? = some x := ⟨_, List.getElem?_eq_getElem (by have := hn1.out; omega)⟩
  obtain ⟨y, hyk⟩ : ∃ y, q.exprs[b]? = some y := ⟨_, List.getElem?_eq_getElem (by have := hn2.out; omega)⟩
  obtain ⟨Wb, hWb⟩ : ∃ Wb, Wb = (W.alloc (.cells #[.slice o1 m1 d1, .slice (some ⟨b1, f1, none⟩) n1 cap1] 25)).alloc (.cells #[.slice o2 m2 d2, .slice (some ⟨b2, f2, none⟩) n2 cap2] 25) := ⟨_, rfl⟩
  have bb : Below W.heap.size W Wb := by rw [hWb]; exact ((Below.refl _ W).alloc (Nat.le_refl _) _).alloc (by rw [World.size_alloc]; omega) _
  have pb : Wb.heap[W.heap.size]? = some (.cells #[.slice o1 m1 d1, .slice (some ⟨b1, f1, none⟩) n1 cap1] 25 (0, 0)) := by
    rw [hWb, heap_old _ _ _ (by rw [World.size_alloc]; omega)]; exact World.alloc_heap_new W _
  have qb : Wb.heap[W.heap.size + 1]? = some (.cells #[.slice o2 m2 d2, .slice (some ⟨b2, f2, none⟩) n2 cap2] 25 (0, 0)) := by
    have h := World.alloc_heap_new (W.alloc (.cells #[.slice o1 m1 d1, .slice (some ⟨b1, f1, none⟩) n1 cap1] 25)) (.cells #[.slice o2 m2 d2, .slice (some ⟨b2, f2, none⟩) n2 cap2] 25)
    rwa [World.size_alloc, ← hWb] at h
  have p0 : Wb.cell? ⟨W.heap.size, 0, none⟩ = some (.slice o1 m1 d1) := by simp [World.cell?, pb]
  have p1 : Wb.cell? ⟨W.heap.size, 1, none⟩ = some (.slice (some ⟨b1, f1, none⟩) n1 cap1) := by simp [World.cell?, pb]
  have q0 : Wb.cell? ⟨W.heap.size + 1, 0, none⟩ = some (.slice o2 m2 d2) := by simp [World.cell?, qb]
  have q1 : Wb.cell? ⟨W.heap.size + 1, 1, none⟩ = some (.slice (some ⟨b2, f2, none⟩) n2 cap2) := by simp [World.cell?, qb]
  have hwb := Lib.hid (hW.trans (bb.mono hW.size))
  obtain ⟨_, c0, c1, c2, c3, c4, c5, c6, c7, c8, hia, hok⟩ := (hc1.out a ha x hxk).below hwb.out
  obtain ⟨_, e0, e1, e2, e3, e4, e5, e6, e7, e8, hib, hok2⟩ := (hc2.out b hb y hyk).below hwb.out
  obtain ⟨oa, capa, ba, offa, rfl, hia2⟩ := id hia
  obtain ⟨ob, capb, bb2, offb, rfl, hib2⟩ := id hib
  have ix := ix_exs (cap := cap1) (o := some ⟨b1, f1, none⟩) (n := n1) (b := b1) (off := f1) (fun _ => rfl) ha (by omega)
  have iy := ix_exs (cap := cap2) (o := some ⟨b2, f2, none⟩) (n := n2) (b := b2) (off := f2) (fun _ => rfl) hb (by omega)
  unfold Ix at ix iy
  have HB := Lib.hid bb
  have HXK := Lib.hid hxk
  have HYK := Lib.hid hyk
  have HIA := Lib.hid hia
  have HIB := Lib.hid hib
  clear hia2 hib2 hia hib hxk hyk bb pb qb
  go_enter Try.func11, Try.ntmps11
  go_wp2_with (fail)
  rw [← hWb]
  clear hWb
  go_cut [9, 10] from 14 to 23 (fun s t wx => ∃ X Y : Nat, s = .pointer (some ⟨X, 0, none⟩) ∧ t = .pointer (some ⟨Y, 0, none⟩) ∧ Hid (Below Wb.heap.size Wb wx) ∧
    Hid (wx.heap[X]? = some (.cells #[.int .i64 x.kind, .int .i64 x.a, .int .i64 x.b, .int .i64 x.c, .string x.name, .string x.state, .int .i64 x.v, .slice oa x.args.length capa, .int .i64 x.pos] 34 (0, 0))) ∧
    Hid (wx.heap[Y]? = some (.cells #[.int .i64 y.kind, .int .i64 y.a, .int .i64 y.b, .int .i64 y.c, .string y.name, .string y.state, .int .i64 y.v, .slice ob y.args.length capb, .int .i64 y.pos] 34 (0, 0))))
  case first =>
    go_region_held3 (fun w' => w'.cell? ⟨W.heap.size, 1, none⟩ = some (.slice (some ⟨b1, f1, none⟩) n1 cap1) ∧ w'.cell? ⟨W.heap.size + 1, 1, none⟩ = some (.slice (some ⟨b2, f2, none⟩) n2 cap2) ∧
        w'.cell? ⟨b1, f1 + a * 9, none⟩ = some (.int .i64 x.kind) ∧ w'.cell? ⟨b1, f1 + a * 9 + 1, none⟩ = some (.int .i64 x.a) ∧ w'.cell? ⟨b1, f1 + a * 9 + 2, none⟩ = some (.int .i64 x.b) ∧ w'.cell? ⟨b1, f1 + a * 9 + 3, none⟩ = some (.int .i64 x.c) ∧ w'.cell? ⟨b1, f1 + a * 9 + 4, none⟩ = some (.string x.name) ∧ w'.cell? ⟨b1, f1 + a * 9 + 5, none⟩ = some (.string x.state) ∧ w'.cell? ⟨b1, f1 + a * 9 + 6, none⟩ = some (.int .i64 x.v) ∧ w'.cell? ⟨b1, f1 + a * 9 + 7, none⟩ = some (.slice oa x.args.length capa) ∧ w'.cell? ⟨b1, f1 + a * 9 + 8, none⟩ = some (.int .i64 x.pos) ∧
        w'.cell? ⟨b2, f2 + b * 9, none⟩ = some (.int .i64 y.kind) ∧ w'.cell? ⟨b2, f2 + b * 9 + 1, none⟩ = some (.int .i64 y.a) ∧ w'.cell? ⟨b2, f2 + b * 9 + 2, none⟩ = some (.int .i64 y.b) ∧ w'.cell? ⟨b2, f2 + b * 9 + 3, none⟩ = some (.int .i64 y.c) ∧ w'.cell? ⟨b2, f2 + b * 9 + 4, none⟩ = some (.string y.name) ∧ w'.cell? ⟨b2, f2 + b * 9 + 5, none⟩ = some (.string y.state) ∧ w'.cell? ⟨b2, f2 + b * 9 + 6, none⟩ = some (.int .i64 y.v) ∧ w'.cell? ⟨b2, f2 + b * 9 + 7, none⟩ = some (.slice ob y.args.length capb) ∧ w'.cell? ⟨b2, f2 + b * 9 + 8, none⟩ = some (.int .i64 y.pos))
      (first | exact ⟨p1, q1, c0, c1, c2, c3, c4, c5, c6, c7, c8, e0, e1, e2, e3, e4, e5, e6, e7, e8⟩ | ((repeat' apply And.intro) <;> first | assumption | go_keep))
      (first | fail)
    all_goals (go_wp2_with fail; go_meet)
    all_goals exact ⟨_, _, rfl, rfl, Lib.hid ((fun h : Below Wb.heap.size Wb ((Wb.alloc _).alloc _) => ⟨h.os, h.tape, h.output, h.size, h.block⟩) (((Below.refl _ Wb).alloc (Nat.le_refl _) _).alloc (by rw [World.size_alloc]; omega) _)), Lib.hid (by first | exact (two_alloc _ _ _).1 | exact (two_alloc _ _ _).2), Lib.hid (by first | exact (two_alloc _ _ _).1 | exact (two_alloc _ _ _).2)⟩
  case rest =>
    obtain ⟨X, Y, rfl, rfl, hbx, hX, hY⟩ := hcut
    obtain ⟨wx, hwx⟩ : ∃ wx, wx = wc := ⟨_, rfl⟩
    rw [← hwx] at hbx hX hY ⊢
    have u0 := cell_on hbx.out p0
    have u1 := cell_on hbx.out p1
    have v0 := cell_on hbx.out q0
    have v1 := cell_on hbx.out q1
    have hxc : ∀ j u, (#[.int .i64 x.kind, .int .i64 x.a, .int .i64 x.b, .int .i64 x.c, .string x.name, .string x.state, .int .i64 x.v, .slice oa x.args.length capa, .int .i64 x.pos] : Array Value)[j]? = some u → wx.cell? ⟨X, j, none⟩ = some u := fun j u hu => by simp only [World.cell?, hX.out]; exact hu
    have hyc : ∀ j u, (#[.int .i64 y.kind, .int .i64 y.a, .int .i64 y.b, .int .i64 y.c, .string y.name, .string y.state, .int .i64 y.v, .slice ob y.args.length capb, .int .i64 y.pos] : Array Value)[j]? = some u → wx.cell? ⟨Y, j, none⟩ = some u := fun j u hu => by simp only [World.cell?, hY.out]; exact hu
    have HWX := Lib.hid (hwb.out.trans (hbx.out.mono hwb.out.size))
    have s0 := hxc 0 _ rfl
    have s1 := hxc 1 _ rfl
    have s2 := hxc 2 _ rfl
    have s3 := hxc 3 _ rfl
    have s4 := hxc 4 _ rfl
    have s5 := hxc 5 _ rfl
    have s6 := hxc 6 _ rfl
    have s7 := hxc 7 _ rfl
    have s8 := hxc 8 _ rfl
    have t0 := hyc 0 _ rfl
    have t1 := hyc 1 _ rfl
    have t2 := hyc 2 _ rfl
    have t3 := hyc 3 _ rfl
    have t4 := hyc 4 _ rfl
    have t5 := hyc 5 _ rfl
    have t6 := hyc 6 _ rfl
    have t7 := hyc 7 _ rfl
    have t8 := hyc 8 _ rfl
    have CPx : Hid (∀ V, Below wx.heap.size wx V → Calls Try.prog 33 #[.agg #[.int .i64 x.kind, .int .i64 x.a, .int .i64 x.b, .int .i64 x.c, .string x.name, .string x.state, .int .i64 x.v, .slice oa x.args.length capa, .int .i64 x.pos]] V fun e w' => NewInts (partsE x) V e w') := Lib.hid fun V h => refParts_any x (.slice oa x.args.length capa) V ((HIA.out.below hbx.out).below h) (parts_small hS1.out HXK.out)
    have CPy : Hid (∀ V, Below wx.heap.size wx V → Calls Try.prog 33 #[.agg #[.int .i64 y.kind, .int .i64 y.a, .int .i64 y.b, .int .i64 y.c, .string y.name, .string y.state, .int .i64 y.v, .slice ob y.args.length capb, .int .i64 y.pos]] V fun e w' => NewInts (partsE y) V e w') := Lib.hid fun V h => refParts_any y (.slice ob y.args.length capb) V ((HIB.out.below hbx.out).below h) (parts_small hS2.out HYK.out)
    clear hwx hxc hyc p0 p1 q0 q1 c0 c1 c2 c3 c4 c5 c6 c7 c8 e0 e1 e2 e3 e4 e5 e6 e7 e8 ix iy hok hok2
    have hbd : Below wx.heap.size wx wx.drew := ⟨rfl, rfl, rfl, Nat.le_refl _, fun _ _ => rfl⟩
    go_wp2_with (fail)
    go_region_held3 (fun w' => w'.cell? ⟨X, 0, none⟩ = some (.int .i64 x.kind) ∧ w'.cell? ⟨X, 1, none⟩ = some (.int .i64 x.a) ∧ w'.cell? ⟨X, 2, none⟩ = some (.int .i64 x.b) ∧ w'.cell? ⟨X, 3, none⟩ = some (.int .i64 x.c) ∧ w'.cell? ⟨X, 4, none⟩ = some (.string x.name) ∧ w'.cell? ⟨X, 5, none⟩ = some (.string x.state) ∧ w'.cell? ⟨X, 6, none⟩ = some (.int .i64 x.v) ∧ w'.cell? ⟨X, 7, none⟩ = some (.slice oa x.args.length capa) ∧ w'.cell? ⟨X, 8, none⟩ = some (.int .i64 x.pos) ∧
        w'.cell? ⟨Y, 0, none⟩ = some (.int .i64 y.kind) ∧ w'.cell? ⟨Y, 1, none⟩ = some (.int .i64 y.a) ∧ w'.cell? ⟨Y, 2, none⟩ = some (.int .i64 y.b) ∧ w'.cell? ⟨Y, 3, none⟩ = some (.int .i64 y.c) ∧ w'.cell? ⟨Y, 4, none⟩ = some (.string y.name) ∧ w'.cell? ⟨Y, 5, none⟩ = some (.string y.state) ∧ w'.cell? ⟨Y, 6, none⟩ = some (.int .i64 y.v) ∧ w'.cell? ⟨Y, 7, none⟩ = some (.slice ob y.args.length capb) ∧ w'.cell? ⟨Y, 8, none⟩ = some (.int .i64 y.pos))
      (first | exact ⟨s0, s1, s2, s3, s4, s5, s6, s7, s8, t0, t1, t2, t3, t4, t5, t6, t7, t8⟩ | exact ⟨cell_on hb3 s0, cell_on hb3 s1, cell_on hb3 s2, cell_on hb3 s3, cell_on hb3 s4, cell_on hb3 s5, cell_on hb3 s6, cell_on hb3 s7, cell_on hb3 s8, cell_on hb3 t0, cell_on hb3 t1, cell_on hb3 t2, cell_on hb3 t3, cell_on hb3 t4, cell_on hb3 t5, cell_on hb3 t6, cell_on hb3 t7, cell_on hb3 t8⟩ | ((repeat' apply And.intro) <;> first | exact cell_on hb4 (cell_on hb3 (by assumption))))
      (first | (go_at_call_of 33 x.name; refine (CPx.out _ hbd).mono ?_; rintro e w3 ⟨va, rfl, hra, hb3⟩)
             | (go_at_call_of 33 y.name; refine (CPy.out _ (hbd.trans hb3)).mono ?_; rintro e w4 ⟨vb, rfl, hrb, hb4⟩))
    skip
    rename_i hK4
    obtain ⟨ka1, ka2, ka3, ka4, ka5, ka6, ka7, ka8, ka9, kb1, kb2, kb3, kb4, kb5, kb6, kb7, kb8, kb9⟩ := hK4
    obtain ⟨oxa, cxa, gxa, rfl, hoxa, hcxa⟩ := own_sl hra
    obtain ⟨oyb, cyb, gyb, rfl, hoyb, hcyb⟩ := own_sl hrb
    obtain ⟨nx, hnx⟩ : ∃ nx, nx = (partsE x).length := ⟨_, rfl⟩
    obtain ⟨ny, hny⟩ : ∃ ny, ny = (partsE y).length := ⟨_, rfl⟩
    have hsx := parts_small hS1.out HXK.out
    have hsy := parts_small hS2.out HYK.out
    rw [← hnx] at hoxa hcxa hsx ⊢
    rw [← hny] at hoyb hcyb hsy ⊢
    have HX1 := Lib.hid fun j hj => cell_on hb4 (hcxa j hj)
    have HY1 := Lib.hid hcyb
    have HX0 := Lib.hid hoxa
    have HY0 := Lib.hid hoyb
    have HNX := Lib.hid hnx
    have HNY := Lib.hid hny
    have hcell : ∀ (g o : Nat) (u : Value), wx.cell? ⟨g, o, none⟩ = some u → w4.cell? ⟨g, o, none⟩ = some u := fun g o u hu => cell_on hb4 (cell_on hb3 hu)
    have U0 := hcell _ _ _ u0
    have U1 := hcell _ _ _ u1
    have V0 := hcell _ _ _ v0
    have V1 := hcell _ _ _ v1
    have HB4 := Lib.hid ((hbd.trans hb3).trans (hb4.mono hb3.size))
    clear hra hrb hb3 hb4 hcell s0 s1 s2 s3 s4 s5 s6 s7 s8 t0 t1 t2 t3 t4 t5 t6 t7 t8 hoxa hcxa hoyb hcyb u0 u1 v0 v1 hnx hny hbd CPx CPy
    have hAL : AheadL p.exprs := fun i z hz => may_part hm1.out hz
    have hAR : AheadL q.exprs := fun i z hz => may_part hm2.out hz
    have HR := Lib.hid (sameL_eq hAL HXK.out HYK.out)
    have HBW := Lib.hid ((HB.out.trans (hbx.out.mono HB.out.size)).trans (HB4.out.mono (Nat.le_trans HB.out.size hbx.out.size)))
    clear hAL hAR ka2 ka3 ka4 ka8 ka9 kb2 kb3 kb4 kb8 kb9
    have HF : Hid (headE x y = false ∨ nx ≠ ny → sameL p.exprs q.exprs a b = false) := Lib.hid fun h => by
      rw [HR.out]
      rcases h with h | h
      · rw [h]; rfl
      · rw [HNX.out, HNY.out] at h
        simp [h]
    by_cases g1 : ¬ x.kind = y.kind
    · have G1 := Lib.hid g1
      have z1 : (x.kind != y.kind) = true := by simp [g1]
      clear g1
      go_wp2_with (fail)
      go_ret
      exact ⟨by rw [HF.out (by left; unfold headE; simp [G1.out])]; rfl, HBW.out⟩
    have G1 := Lib.hid (Classical.not_not.1 g1)
    have z1 : (x.kind != y.kind) = false := by simp [G1.out]
    clear g1
    by_cases g2 : ¬ x.name = y.name
    · have G2 := Lib.hid g2
      have z2 : (x.name.toList == y.name.toList) = false := by simpa [toList_iff] using g2
      clear g2
      go_wp2_with (fail)
      go_ret
      exact ⟨by rw [HF.out (by left; unfold headE; simp [G2.out])]; rfl, HBW.out⟩
    have G2 := Lib.hid (Classical.not_not.1 g2)
    have z2 : (x.name.toList == y.name.toList) = true := by simp [G2.out]
    clear g2
    by_cases g3 : ¬ x.state = y.state
    · have G3 := Lib.hid g3
      have z3 : (x.state.toList == y.state.toList) = false := by simpa [toList_iff] using g3
      clear g3
      go_wp2_with (fail)
      go_ret
      exact ⟨by rw [HF.out (by left; unfold headE; simp [G3.out])]; rfl, HBW.out⟩
    have G3 := Lib.hid (Classical.not_not.1 g3)
    have z3 : (x.state.toList == y.state.toList) = true := by simp [G3.out]
    clear g3
    by_cases g4 : ¬ x.v = y.v
    · have G4 := Lib.hid g4
      have z4 : (x.v != y.v) = true := by simp [g4]
      clear g4
      go_wp2_with (fail)
      go_ret
      exact ⟨by rw [HF.out (by left; unfold headE; simp [G4.out])]; rfl, HBW.out⟩
    have G4 := Lib.hid (Classical.not_not.1 g4)
    have z4 : (x.v != y.v) = false := by simp [G4.out]
    clear g4
    have HH : Hid (headE x y = true) := Lib.hid (by unfold headE; simp [G1.out, G2.out, G3.out, G4.out])
    by_cases g5 : ¬ nx = ny
    · have G5 := Lib.hid g5
      have z5 : ((nx : Int) != (ny : Int)) = true := by simp; omega
      clear g5
      go_wp2_with (fail)
      go_ret
      exact ⟨by rw [HF.out (by right; exact G5.out)]; rfl, HBW.out⟩
    have G5 := Lib.hid (Classical.not_not.1 g5)
    have z5 : ((nx : Int) != (ny : Int)) = false := by simp [G5.out]
    clear g5
    go_wp2_with (fail)
    clear z1 z2 z3 z4 z5 ka1 ka5 ka6 ka7 kb1 kb5 kb6 kb7
    have HMP : Hid (∀ j, j < nx → 0 ≤ (partsE x).getD j 0 ∧ (partsE x).getD j 0 < (a : Int)) := Lib.hid fun j hj => may_part hm1.out HXK.out _ (by rw [List.getD_eq_getElem?_getD, List.getElem?_eq_getElem (by rw [← HNX.out]; exact hj)]; exact List.getElem_mem (by rw [← HNX.out]; exact hj))
    have HMQ : Hid (∀ j, j < ny → 0 ≤ (partsE y).getD j 0 ∧ (partsE y).getD j 0 < (b : Int)) := Lib.hid fun j hj => may_part hm2.out HYK.out _ (by rw [List.getD_eq_getElem?_getD, List.getElem?_eq_getElem (by rw [← HNY.out]; exact hj)]; exact List.getElem_mem (by rw [← HNY.out]; exact hj))
    have HW4 : Hid (Below w0.heap.size w0 w4) := Lib.hid (HWX.out.trans (HB4.out.mono HWX.out.size))
    have HU0 := Lib.hid U0
    have HU1 := Lib.hid U1
    have HV0 := Lib.hid V0
    have HV1 := Lib.hid V1
    clear U0 U1 V0 V1
    go_loopw [13] (fun i wr => ∃ (c : Nat), i = .int .i64 (c : Int) ∧ c ≤ nx ∧ Hid (∀ j, j < c → sameL p.exprs q.exprs ((partsE x).getD j 0).toNat ((partsE y).getD j 0).toNat = true) ∧ Hid (Below w4.heap.size w4 wr)) (fun i _ => nx - litLen i)
    case atStart => exact ⟨0, rfl, Nat.zero_le _, Lib.hid fun j hj => by omega, Lib.hid (Below.refl _ _)⟩
    case round =>
      obtain ⟨c, rfl, hc, hP, hWr⟩ := hrel
      rcases Nat.lt_or_ge c nx with hlt | hge
      · have hl : (c : Int) < (nx : Int) := by omega
        have hl2 : c < ny := by rw [← G5.out]; exact hlt
        have u0 := cell_on hWr.out HU0.out
        have u1 := cell_on hWr.out HU1.out
        have v0 := cell_on hWr.out HV0.out
        have v1 := cell_on hWr.out HV1.out
        have r1 := cell_on hWr.out (HX1.out c hlt)
        have r2 := cell_on hWr.out (HY1.out c hl2)
        have ix1 := ix_il (cap := cxa) HX0.out hlt (by omega)
        have ix2 := ix_il (cap := cyb) HY0.out hl2 (by omega)
        unfold Ix at ix1 ix2
        obtain ⟨m0, m1⟩ := HMP.out c hlt
        obtain ⟨k0, k1⟩ := HMQ.out c hl2
        obtain ⟨e, he⟩ := Int.eq_ofNat_of_zero_le m0
        obtain ⟨f, hf⟩ := Int.eq_ofNat_of_zero_le k0
        have hbd : Below wr.heap.size wr wr.drew := ⟨rfl, rfl, rfl, Nat.le_refl _, fun _ _ => rfl⟩
        have hwr : Below w0.heap.size w0 wr := HW4.out.trans (hWr.out.mono HW4.out.size)
        have C := Lib.hid (IH.out e (by omega) (by omega) f (by omega) wr.drew (hwr.trans (hbd.mono hwr.size)))
        obtain ⟨s, hs⟩ : ∃ s, s = sameL p.exprs q.exprs e f := ⟨_, rfl⟩
        rw [← hs] at C
        have HE : Hid (sameL p.exprs q.exprs ((partsE x).getD c 0).toNat ((partsE y).getD c 0).toNat = s) := Lib.hid (by rw [he, hf, hs]; rfl)
        rw [he] at r1
        rw [hf] at r2
        have HBD := Lib.hid hbd
        clear hs he hf m0 m1 k0 k1 hwr
        go_wp2_with (fail)
        go_region_held3 (fun w' => w'.cell? ⟨W.heap.size, 0, none⟩ = some (.slice o1 m1 d1) ∧ w'.cell? ⟨W.heap.size, 1, none⟩ = some (.slice (some ⟨b1, f1, none⟩) n1 cap1) ∧ w'.cell? ⟨W.heap.size + 1, 0, none⟩ = some (.slice o2 m2 d2) ∧ w'.cell? ⟨W.heap.size + 1, 1, none⟩ = some (.slice (some ⟨b2, f2, none⟩) n2 cap2) ∧ w'.cell? ⟨gxa, c, none⟩ = some (.int .i64 (e : Int)) ∧ w'.cell? ⟨gyb, c, none⟩ = some (.int .i64 (f : Int)))
          (first | exact ⟨u0, u1, v0, v1, r1, r2⟩ | exact ⟨cell_on hb5 u0, cell_on hb5 u1, cell_on hb5 v0, cell_on hb5 v1, cell_on hb5 r1, cell_on hb5 r2⟩)
          (first | (go_at_call 11; refine C.out.mono ?_; rintro r w5 ⟨rfl, hb5⟩))
        have HB5 := Lib.hid hb5
        have HALL : Hid (s = false → sameL p.exprs q.exprs a b = false) := Lib.hid fun h => by
          rw [h] at HE
          rw [HR.out]
          have hz : (((partsE x).zip (partsE y)).all fun z => sameL p.exprs q.exprs z.1.toNat z.2.toNat) = false := by
            rw [List.all_eq_false]
            refine ⟨((partsE x).getD c 0, (partsE y).getD c 0), ?_, fun h3 => by have h4 := HE.out.symm.trans h3; cases h4⟩
            have l1 : c < (partsE x).length := by rw [← HNX.out]; exact hlt
            have l2 : c < (partsE y).length := by rw [← HNY.out]; exact hl2
            rw [List.getD_eq_getElem?_getD, List.getD_eq_getElem?_getD, List.getElem?_eq_getElem l1, List.getElem?_eq_getElem l2, Option.getD_some, Option.getD_some]
            refine List.mem_iff_getElem.2 ⟨c, by rw [List.length_zip]; omega, List.getElem_zip⟩
          rw [hz, Bool.and_false]
        clear hb5 u0 u1 v0 v1 r1 r2 ix1 ix2 C IH
        have HB6 := Lib.hid (hWr.out.trans ((HBD.out.trans HB5.out).mono hWr.out.size))
        cases s with
        | false =>
          go_wp2_with (fail)
          go_ret
          exact ⟨by rw [HALL.out (by first | rfl | trivial)]; rfl, HBW.out.trans (HB6.out.mono HBW.out.size)⟩
        | true =>
          go_wp2_with (fail)
          refine ⟨⟨c + 1, by go_num, by omega, Lib.hid fun j hj => ?_, HB6⟩, ?_⟩
          · rcases Nat.lt_or_ge j c with h | h
            · exact hP.out j h
            · obtain rfl : j = c := by omega
              exact HE.out
          · simp [litLen]; omega
      · obtain rfl : c = nx := by omega
        have hno : ¬ (c : Int) < (c : Int) := by omega
        have HALL : Hid (sameL p.exprs q.exprs a b = true) := Lib.hid (by
          rw [HR.out, HH.out, ← HNX.out, ← HNY.out, Bool.true_and, Bool.and_eq_true, decide_eq_true_eq]
          refine ⟨G5.out, List.all_eq_true.2 fun z hz => ?_⟩
          obtain ⟨i, hi, he⟩ := List.mem_iff_getElem.1 hz
          rw [List.length_zip, ← HNX.out, ← HNY.out] at hi
          have h2 := hP.out i (by omega)
          have l1 : i < (partsE x).length := by rw [← HNX.out]; omega
          have l2 : i < (partsE y).length := by rw [← HNY.out]; omega
          rw [List.getD_eq_getElem?_getD, List.getD_eq_getElem?_getD, List.getElem?_eq_getElem l1, List.getElem?_eq_getElem l2, Option.getD_some, Option.getD_some] at h2
          rw [← he, List.getElem_zip]
          exact h2)
        clear IH hge
        go_wp2_with (fail)
        go_ret
        exact ⟨by rw [HALL.out]; rfl, HBW.out.trans (hWr.out.mono HBW.out.size)⟩
end Go.Proofs.Ytiilgehdkanmnaa
