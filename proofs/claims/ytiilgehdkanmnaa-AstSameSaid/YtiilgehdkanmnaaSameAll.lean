/- ast.SameAll. -/
import Derived.Test.YtiilgehdkanmnaaSameM4
import Derived.Deep.RegionHeld3
namespace Go.Proofs.Ytiilgehdkanmnaa
open Go.RowKit Go.Shelf

attribute [local go_sem] Oper.semAt_some run_store_func

theorem CMem.alloc {W : World} {s last : Nat} {F G : Value → Option Nat} (h : CMem W s last F G) (o : Obj) : CMem (W.alloc o) s last F G :=
  h.same fun k _ hk => heap_old W o k (by have := h.lt; omega)
theorem stay_cell {s : Nat} {V W : World} (h : StaysBut s V W) {k : Nat} {v : Value} (hk : s + 5 < k) (hc : V.cell? ⟨k, 0, none⟩ = some v) : W.cell? ⟨k, 0, none⟩ = some v :=
  (cell_same' (h.block k (World.block_lt_of_cell? _ _ hc) (fun hm => by rcases hm with h3 | h3 | h3 <;> omega)) 0).trans hc
theorem stay_frozen {s : Nat} {V W : World} (h : StaysBut s V W) {k : Nat} (hl : k < V.heap.size) (hk : s + 5 < k) (hc : V.frozen? ⟨k, 0, none⟩ = false) : W.frozen? ⟨k, 0, none⟩ = false := by
  have hb := h.block k hl (fun hm => by rcases hm with h3 | h3 | h3 <;> omega)
  simp only [World.frozen?, hb] at hc ⊢
  exact hc
theorem stay_old {s : Nat} {V W : World} (h : StaysBut s V W) {k j : Nat} {v : Value} (hk : ¬ CM s k) (hc : V.cell? ⟨k, j, none⟩ = some v) : W.cell? ⟨k, j, none⟩ = some v :=
  (cell_same' (h.block k (World.block_lt_of_cell? _ _ hc) hk) j).trans hc
theorem cell_al {W : World} {a : Addr} {v : Value} (h : W.cell? a = some v) (o : Obj) : (W.alloc o).cell? a = some v := cell_on (below_al (Below.refl _ W) o) h
theorem frozen_al {W : World} {k : Nat} {v : Value} (h : W.cell? ⟨k, 0, none⟩ = some v) (hf : W.frozen? ⟨k, 0, none⟩ = false) (o : Obj) : (W.alloc o).frozen? ⟨k, 0, none⟩ = false := by
  have hb := heap_old W o k (World.block_lt_of_cell? _ _ h)
  simp only [World.frozen?, hb] at hf ⊢
  exact hf
theorem set_keep {W : World} {k j g i : Nat} {v u : Value} (h : W.cell? ⟨k, j, none⟩ = some v) (hk : k ≠ g) : (W.setCell ⟨g, i, none⟩ u).cell? ⟨k, j, none⟩ = some v := (cell_same' (set_other W g k i u hk) j).trans h
theorem sb_drew {s : Nat} {V W : World} (h : StaysBut s V.drew W) : StaysBut s V W := ⟨h.os, h.tape, h.output, h.size, h.block⟩
theorem sb_al {s : Nat} {V W : World} {o : Obj} (h : StaysBut s (V.alloc o) W) : StaysBut s V W := (StaysBut.of_below (below_al (Below.refl _ V) o)).trans h
theorem size2 (W : World) (o o' : Obj) : ((W.alloc o).alloc o').heap.size = W.heap.size + 2 := by rw [World.size_alloc, World.size_alloc]
theorem set_same {W : World} {g i : Nat} {v u : Value} (h : W.cell? ⟨g, i, none⟩ = some v) : (W.setCell ⟨g, i, none⟩ u).cell? ⟨g, i, none⟩ = some u := by
  unfold World.cell? at h
  split at h
  · rename_i cs T fr hb
    have hi : i < cs.size := (Array.getElem?_eq_some_iff.1 h).1
    simp only [World.cell?, set_heap hb]
    rw [Array.getElem?_setIfInBounds, if_pos rfl, if_pos hi]
    rfl
  · cases h
theorem setf_keep {W : World} {k g i : Nat} {u : Value} (h : W.frozen? ⟨k, 0, none⟩ = false) (hk : k ≠ g) : (W.setCell ⟨g, i, none⟩ u).frozen? ⟨k, 0, none⟩ = false := by
  have hb := set_other W g k i u hk
  simp only [World.frozen?, hb] at h ⊢
  exact h
theorem new_cell (W : World) (u : Value) (T : TypeId) : (W.alloc (.cells #[u] T)).cell? ⟨W.heap.size, 0, none⟩ = some u := by
  simp only [World.cell?, World.alloc_heap_new]; rfl
theorem new_frozen (W : World) (u : Value) (T : TypeId) : (W.alloc (.cells #[u] T)).frozen? ⟨W.heap.size, 0, none⟩ = false := by
  simp only [World.frozen?, World.alloc_heap_new]; rfl
/-- block k is a box -/
def Bx (W : World) (k : Nat) : Prop := ∃ v, W.heap[k]? = some (.cells #[v] 32 (0, 0))
theorem Bx.al {W : World} {k : Nat} (h : Bx W k) (o : Obj) : Bx (W.alloc o) k := by
  obtain ⟨v, h⟩ := h
  exact ⟨v, (heap_old W o k (lt_of_heap h)).trans h⟩
theorem Bx.new (W : World) (v : Value) : Bx (W.alloc (.cells #[v] 32)) W.heap.size := ⟨v, World.alloc_heap_new W _⟩
theorem Bx.new2 (W : World) (o : Obj) (v : Value) : Bx ((W.alloc o).alloc (.cells #[v] 32)) (W.heap.size + 1) := by
  have h := Bx.new (W.alloc o) v
  rwa [World.size_alloc] at h
theorem Bx.stay {s : Nat} {V W : World} {k : Nat} (hb : Bx V k) (h : StaysBut s V W) (hk : s + 5 < k) : Bx W k := by
  obtain ⟨v, hb⟩ := hb
  exact ⟨v, (h.block k (lt_of_heap hb) (fun hm => by rcases hm with h3 | h3 | h3 <;> omega)).trans hb⟩
theorem Bx.cell {W : World} {k : Nat} (h : Bx W k) : ∃ v, W.cell? ⟨k, 0, none⟩ = some v := by
  obtain ⟨v, h⟩ := h
  exact ⟨v, by simp [World.cell?, h]⟩
theorem lt_bx {W : World} {k : Nat} (h : Bx W k) : k < W.heap.size := by
  obtain ⟨v, h⟩ := h
  exact lt_of_heap h
theorem Bx.frozen {W : World} {k : Nat} (h : Bx W k) : W.frozen? ⟨k, 0, none⟩ = false := by
  obtain ⟨v, h⟩ := h
  simp [World.frozen?, h]
/-- what is written at last, into the two boxes -/
structure FinW (W2 Wf : World) (B6 B7 : Nat) (v1 v2 : Value) : Prop where
  c6 : Wf.cell? ⟨B6, 0, none⟩ = some v1
  c7 : Wf.cell? ⟨B7, 0, none⟩ = some v2
  same : ∀ k, k < W2.heap.size → k ≠ B6 → k ≠ B7 → Wf.heap[k]? = W2.heap[k]?
  os : Wf.os = W2.os
  tape : Wf.tape = W2.tape
  output : Wf.output = W2.output
  size : W2.heap.size ≤ Wf.heap.size
theorem set_size (W : World) (g i : Nat) (v : Value) : (W.setCell ⟨g, i, none⟩ v).heap.size = W.heap.size := show (W.heap.modify g _).size = _ from Array.size_modify ..
theorem leaf1 (W : World) (v1 v2 : Value) (T : TypeId) : FinW W ((W.alloc (.cells #[v1] T)).alloc (.cells #[v2] T)) W.heap.size (W.heap.size + 1) v1 v2 := by
  obtain ⟨f1, f2⟩ := two_alloc W (.cells #[v1] T) (.cells #[v2] T)
  refine ⟨by simp only [World.cell?, f1]; rfl, by simp only [World.cell?, f2]; rfl, fun k h1 h2 h3 => ?_, rfl, rfl, rfl, by rw [size2]; omega⟩
  rw [heap_old _ _ _ (by rw [World.size_alloc]; omega), heap_old _ _ _ h1]
theorem FinW.swap {W2 Wf : World} {B6 B7 : Nat} {v1 v2 : Value} (h : FinW W2 Wf B6 B7 v1 v2) : FinW W2 Wf B7 B6 v2 v1 := ⟨h.c7, h.c6, fun k h1 h2 h3 => h.same k h1 h3 h2, h.os, h.tape, h.output, h.size⟩
theorem leaf2 {W : World} {x : Nat} {u : Value} (hx : W.cell? ⟨x, 0, none⟩ = some u) (u0 v1 v2 : Value) (T : TypeId) : FinW W (((W.alloc (.cells #[u0] T)).setCell ⟨x, 0, none⟩ v1).setCell ⟨W.heap.size, 0, none⟩ v2) x W.heap.size v1 v2 := by
  have hlt : x < W.heap.size := World.block_lt_of_cell? _ _ hx
  refine ⟨set_keep (set_same (cell_al hx _)) (by omega), set_same (set_keep (new_cell W u0 T) (by omega)), fun k h1 h2 h3 => ?_, rfl, rfl, rfl, by rw [set_size, set_size, World.size_alloc]; omega⟩
  rw [set_other _ _ _ _ _ h3, set_other _ _ _ _ _ h2, heap_old _ _ _ h1]
theorem leaf3 {W : World} {x y : Nat} {u t : Value} (hx : W.cell? ⟨x, 0, none⟩ = some u) (hy : W.cell? ⟨y, 0, none⟩ = some t) (hne : x ≠ y) (v1 v2 : Value) : FinW W ((W.setCell ⟨x, 0, none⟩ v1).setCell ⟨y, 0, none⟩ v2) x y v1 v2 := by
  refine ⟨set_keep (set_same hx) hne, set_same (set_keep hy hne.symm), fun k h1 h2 h3 => ?_, rfl, rfl, rfl, by rw [set_size, set_size]; omega⟩
  rw [set_other _ _ _ _ _ h3, set_other _ _ _ _ _ h2]
theorem leaf4 {W : World} {x : Nat} {u : Value} (hx : W.cell? ⟨x, 0, none⟩ = some u) (v1 v2 : Value) (T : TypeId) : FinW W ((W.alloc (.cells #[v1] T)).setCell ⟨x, 0, none⟩ v2) W.heap.size x v1 v2 := by
  have hlt : x < W.heap.size := World.block_lt_of_cell? _ _ hx
  refine ⟨set_keep (new_cell W v1 T) (by omega), set_same (cell_al hx _), fun k h1 h2 h3 => ?_, rfl, rfl, rfl, by rw [set_size, World.size_alloc]; omega⟩
  rw [set_other _ _ _ _ _ h3, heap_old _ _ _ h1]
theorem fin_env {w W2 Wf : World} {B6 B7 r1 r2 n1 n2 : Nat} {cs ds : List Nat} (h : FinW W2 Wf B6 B7 (.slice (some ⟨r1, 0, none⟩) n1 n1) (.slice (some ⟨r2, 0, none⟩) n2 n2)) (h1 : RowN W2 r1 n1 (fun j => cs.getD j 0)) (h2 : RowN W2 r2 n2 (fun j => ds.getD j 0)) (hb : Below w.heap.size w W2)
    (k1 : r1 ≠ B6) (k2 : r1 ≠ B7) (k3 : r2 ≠ B6) (k4 : r2 ≠ B7) (k5 : w.heap.size ≤ B6) (k6 : w.heap.size ≤ B7) : SEnv B6 B7 r1 r2 n1 n2 cs ds Wf ∧ Below w.heap.size w Wf :=
  ⟨⟨h.c6, h.c7, h1.same (h.same r1 h1.lt k1 k2), h2.same (h.same r2 h2.lt k3 k4)⟩, h.os.trans hb.os, h.tape.trans hb.tape, h.output.trans hb.output, Nat.le_trans hb.size h.size, fun k hk => (h.same k (Nat.lt_of_lt_of_le hk hb.size) (by omega) (by omega)).trans (hb.block k hk)⟩
theorem fin_all {w W2 Wf V3 : World} {B6 B7 r1 r2 n1 n2 last s : Nat} {cs ds : List Nat} {F G : Value → Option Nat} {l m : List Ex} (h : FinW W2 Wf B6 B7 (.slice (some ⟨r1, 0, none⟩) n1 n1) (.slice (some ⟨r2, 0, none⟩) n2 n2)) (h1 : RowN W2 r1 n1 (fun j => cs.getD j 0)) (h2 : RowN W2 r2 n2 (fun j => ds.getD j 0)) (hb : Below w.heap.size w W2)
    (k1 : r1 ≠ B6) (k2 : r1 ≠ B7) (k3 : r2 ≠ B6) (k4 : r2 ≠ B7) (k5 : w.heap.size ≤ B6) (k6 : w.heap.size ≤ B7) (c1 : ClsAll F G l cs) (c2 : ClsAll F G m ds) (g : Good F G last) (hS : StaysBut s V3 W2) (j1 : s ≤ V3.heap.size) (j2 : s ≤ B6) (j3 : s ≤ B7) :
    SEnv B6 B7 r1 r2 n1 n2 cs ds Wf ∧ ClsAll F G l cs ∧ ClsAll F G m ds ∧ Good F G last ∧ Below w.heap.size w Wf ∧ ∀ k, k < s → Wf.heap[k]? = V3.heap[k]? :=
  have hfe := fin_env h h1 h2 hb k1 k2 k3 k4 k5 k6
  ⟨hfe.1, c1, c2, g, hfe.2, fun k hk => (h.same k (Nat.lt_of_lt_of_le hk (Nat.le_trans j1 hS.size)) (by omega) (by omega)).trans (hS.block k (Nat.lt_of_lt_of_le hk j1) (fun hm => by rcases hm with h3 | h3 | h3 <;> omega))⟩
theorem mayP_decls {p : Pr} (h : mayP p = true) : ∀ x ∈ p.decls, mayD p.exprs.length x = true := by
  unfold mayP at h
  rw [Bool.and_eq_true, List.all_eq_true, List.all_eq_true] at h
  exact h.2
set_option maxHeartbeats 8000000 in
set_option maxRecDepth 100000 in
theorem sameAll_core (p q : Pr) (o1 o2 oe1 oe2 : Option Addr) (m1 d1 b1 f1 cap1 n1 m2 d2 b2 f2 cap2 n2 : Nat) (ho1 : Hid (0 < n1 → oe1 = some ⟨b1, f1, none⟩)) (ho2 : Hid (0 < n2 → oe2 = some ⟨b2, f2, none⟩)) (hn1 : Hid (p.exprs.length = n1)) (hn2 : Hid (q.exprs.length = n2)) (nl1 : (n1 : Int) ≤ 300) (nl2 : (n2 : Int) ≤ 300) (hk1 : (n1 : Int) ≤ (cap1 : Int)) (hk2 : (n2 : Int) ≤ (cap2 : Int)) (hx1 : (cap1 : Int) ≤ 9223372036854775807) (hx2 : (cap2 : Int) ≤ 9223372036854775807)
    (hm1 : Hid (mayP p = true)) (hm2 : Hid (mayP q = true)) (hS1 : Hid (Small p)) (hS2 : Hid (Small q)) (w : World)
    (hp : Hid (ProgAt w (.slice o1 m1 d1) (.slice oe1 n1 cap1) p)) (hq : Hid (ProgAt w (.slice o2 m2 d2) (.slice oe2 n2 cap2) q))
    (hc1 : Hid (∀ i, i < n1 → ∀ x, p.exprs[i]? = some x → ExAt w b1 (f1 + i * 9) x)) (hc2 : Hid (∀ i, i < n2 → ∀ x, q.exprs[i]? = some x → ExAt w b2 (f2 + i * 9) x)) :
    Calls Try.prog 8 #[.agg #[.slice o1 m1 d1, .slice oe1 n1 cap1], .agg #[.slice o2 m2 d2, .slice oe2 n2 cap2]] w fun r Y =>
      (∃ cs ds F G last, r = .returned (.bool (declsC cs ds p.decls q.decls)) ∧ ClsAll F G p.exprs cs ∧ ClsAll F G q.exprs ds ∧ Good F G last) ∧ Below w.heap.size w Y := by
  obtain ⟨Wb, hWb⟩ : ∃ Wb, Wb = (w.alloc (.cells #[.slice o1 m1 d1, .slice oe1 n1 cap1] 25)).alloc (.cells #[.slice o2 m2 d2, .slice oe2 n2 cap2] 25) := ⟨_, rfl⟩
  have bb : Below w.heap.size w Wb := by rw [hWb]; exact ((Below.refl _ w).alloc (Nat.le_refl _) _).alloc (by rw [World.size_alloc]; omega) _
  have pb : Wb.heap[w.heap.size]? = some (.cells #[.slice o1 m1 d1, .slice oe1 n1 cap1] 25 (0, 0)) := by
    rw [hWb]; exact (two_alloc w _ _).1
  have qb : Wb.heap[w.heap.size + 1]? = some (.cells #[.slice o2 m2 d2, .slice oe2 n2 cap2] 25 (0, 0)) := by
    rw [hWb]; exact (two_alloc w _ _).2
  have CI1 : Hid (∀ V, Below Wb.heap.size Wb V → Calls Try.prog 20 #[.agg #[.slice o1 m1 d1, .slice oe1 n1 cap1]] V fun r w' => MayPost true V r w') := Lib.hid fun V hV => by
    have h := may_any _ _ p V (hp.out.below (bb.trans (hV.mono bb.size))) hS1.out
    rwa [hm1.out] at h
  have CI2 : Hid (∀ V, Below Wb.heap.size Wb V → Calls Try.prog 20 #[.agg #[.slice o2 m2 d2, .slice oe2 n2 cap2]] V fun r w' => MayPost true V r w') := Lib.hid fun V hV => by
    have h := may_any _ _ q V (hq.out.below (bb.trans (hV.mono bb.size))) hS2.out
    rwa [hm2.out] at h
  have p0 : Wb.cell? ⟨w.heap.size, 0, none⟩ = some (.slice o1 m1 d1) := by simp [World.cell?, pb]
  have p1 : Wb.cell? ⟨w.heap.size, 1, none⟩ = some (.slice oe1 n1 cap1) := by simp [World.cell?, pb]
  have q0 : Wb.cell? ⟨w.heap.size + 1, 0, none⟩ = some (.slice o2 m2 d2) := by simp [World.cell?, qb]
  have q1 : Wb.cell? ⟨w.heap.size + 1, 1, none⟩ = some (.slice oe2 n2 cap2) := by simp [World.cell?, qb]
  have HB := Lib.hid bb
  have HZ : Hid (w.heap.size + 1 < Wb.heap.size) := Lib.hid (lt_of_heap qb)
  have tok : True := trivial
  clear bb pb qb
  go_enter Try.func8, Try.ntmps8
  go_wp2_with (fail)
  rw [← hWb]
  clear hWb
  go_wp2_with (first
    | (go_at_call 20; have _k := tok; clear tok _k; ((with_reducible refine (CI1.out _ (Below.refl _ _)).mono ?_)); rintro r V1 ⟨rfl, hV1⟩; have HV1 := Lib.hid hV1; replace p0 := cell_on hV1 p0; replace p1 := cell_on hV1 p1; replace q0 := cell_on hV1 q0; replace q1 := cell_on hV1 q1; clear hV1)
    | (go_at_call 20; ((with_reducible refine (CI2.out _ HV1.out).mono ?_)); rintro r V2 ⟨rfl, hV2⟩; have HV2 := Lib.hid (HV1.out.trans (hV2.mono HV1.out.size)); replace p0 := cell_on hV2 p0; replace p1 := cell_on hV2 p1; replace q0 := cell_on hV2 q0; replace q1 := cell_on hV2 q1; clear hV2)
    | (go_at_call 19; ((with_reducible refine (classifier_any _).mono ?_)); rintro r V3 ⟨rfl, hM3, hV3⟩; have HV3 := Lib.hid (HV2.out.trans (hV3.mono HV2.out.size)); replace p0 := cell_on hV3 p0; replace p1 := cell_on hV3 p1; replace q0 := cell_on hV3 q0; replace q1 := cell_on hV3 q1; have HM3 := Lib.hid hM3; clear hM3 hV3))
  obtain ⟨s, hs⟩ : ∃ s, s = V2.heap.size := ⟨_, rfl⟩
  rw [← hs] at HM3
  unfold clsV
  rw [← hs]
  have hsw : w.heap.size + 1 < s := by have := HZ.out; have := HV2.out.size; omega
  have HV3w := Lib.hid (HB.out.trans (HV3.out.mono HB.out.size))
  clear hs CI1 CI2
  have hA1 := ahead_of_may hm1.out
  have hA2 := ahead_of_may hm2.out
  have CL1 : Hid (∀ V, Below V3.heap.size V3 V → Calls Try.prog 40 #[.slice oe1 n1 cap1, .pointer (some ⟨s + 2, 0, none⟩), .pointer (some ⟨s + 5, 0, none⟩), .pointer (some ⟨s + 3, 0, none⟩)] V fun r Y => ClsPost p.exprs n1 s 0 (fun _ => none) (fun _ => none) V r Y) := Lib.hid fun V hV =>
    callsIn_wide.1 (cls_core oe1 b1 f1 n1 cap1 p.exprs hn1 nl1 hk1 hx1 ho1 (Lib.hid hA1) (Lib.hid fun x hx => parts_600 hS1.out hx) w V
      (Lib.hid (HV3w.out.trans (hV.mono HV3w.out.size))) s (Lib.hid (by omega)) hc1 0 _ _ (Lib.hid (HM3.out.same fun k _ hk => hV.block k (by have := HM3.out.lt; omega))) (Lib.hid (by omega)))
  have CL2 : Hid (∀ V last F G, CMem V s last F G → last ≤ 300000 → Below w.heap.size w V → Calls Try.prog 40 #[.slice oe2 n2 cap2, .pointer (some ⟨s + 2, 0, none⟩), .pointer (some ⟨s + 5, 0, none⟩), .pointer (some ⟨s + 3, 0, none⟩)] V fun r Y => ClsPost q.exprs n2 s last F G V r Y) := Lib.hid fun V last F G hM hl hV =>
    callsIn_wide.1 (cls_core oe2 b2 f2 n2 cap2 q.exprs hn2 nl2 hk2 hx2 ho2 (Lib.hid hA2) (Lib.hid fun x hx => parts_600 hS2.out hx) w V
      (Lib.hid hV) s (Lib.hid (by omega)) hc2 last _ _ (Lib.hid hM) (Lib.hid (by omega)))
  have hbd : Below V3.heap.size V3 V3.drew := ⟨rfl, rfl, rfl, Nat.le_refl _, fun _ _ => rfl⟩
  have hz3 := HM3.out.lt
  have HNC : Hid (∀ k, k < s → ¬ CM s k) := Lib.hid fun k hk hm => by rcases hm with h3 | h3 | h3 <;> omega
  have HNC2 : Hid (∀ k, s + 5 < k → ¬ CM s k) := Lib.hid fun k hk hm => by rcases hm with h3 | h3 | h3 <;> omega
  clear hA1 hA2
  have hz5 : w.heap.size ≤ s := by omega
  have p1d : V3.drew.cell? ⟨w.heap.size, 1, none⟩ = some (.slice oe1 n1 cap1) := p1
  have q1d : V3.drew.cell? ⟨w.heap.size + 1, 1, none⟩ = some (.slice oe2 n2 cap2) := q1
  have hb1 : ∀ o, Below V3.heap.size V3 (V3.alloc o).drew := fun o => (fun h : Below V3.heap.size V3 (V3.alloc o) => ⟨h.os, h.tape, h.output, h.size, h.block⟩) (below_al (Below.refl _ V3) o)
  have hb2 : ∀ o o', Below V3.heap.size V3 ((V3.alloc o).alloc o').drew := fun o o' => (fun h : Below V3.heap.size V3 ((V3.alloc o).alloc o') => ⟨h.os, h.tape, h.output, h.size, h.block⟩) (below_al (below_al (Below.refl _ V3) o) o')
  have pa1 : ∀ o, (V3.alloc o).drew.cell? ⟨w.heap.size, 1, none⟩ = some (.slice oe1 n1 cap1) := fun o => cell_al p1 o
  have qa1 : ∀ o, (V3.alloc o).drew.cell? ⟨w.heap.size + 1, 1, none⟩ = some (.slice oe2 n2 cap2) := fun o => cell_al q1 o
  have pa2 : ∀ o o', ((V3.alloc o).alloc o').drew.cell? ⟨w.heap.size, 1, none⟩ = some (.slice oe1 n1 cap1) := fun o o' => cell_al (cell_al p1 o) o'
  have qa2 : ∀ o o', ((V3.alloc o).alloc o').drew.cell? ⟨w.heap.size + 1, 1, none⟩ = some (.slice oe2 n2 cap2) := fun o o' => cell_al (cell_al q1 o) o'
  go_cut [6, 7] from 19 to 26 (fun s6 s7 wx => ∃ B6 B7 q1 q2 cs ds F G last, s6 = .pointer (some ⟨B6, 0, none⟩) ∧ s7 = .pointer (some ⟨B7, 0, none⟩) ∧ Hid (SEnv B6 B7 q1 q2 n1 n2 cs ds wx ∧ ClsAll F G p.exprs cs ∧ ClsAll F G q.exprs ds ∧ Good F G last ∧ Below w.heap.size w wx ∧ ∀ k, k < s → wx.heap[k]? = V3.heap[k]?))
  case first =>
    go_region_held3 (fun w' => w'.cell? ⟨w.heap.size, 1, none⟩ = some (.slice oe1 n1 cap1) ∧ w'.cell? ⟨w.heap.size + 1, 1, none⟩ = some (.slice oe2 n2 cap2))
      (first | with_reducible exact ⟨p1d, q1d⟩ | with_reducible exact ⟨pa1 _, qa1 _⟩ | with_reducible exact ⟨pa2 _ _, qa2 _ _⟩ | with_reducible exact ⟨k0, k1⟩ | with_reducible exact ⟨(cell_al k0 _), (cell_al k1 _)⟩ | with_reducible exact ⟨(cell_al (cell_al k0 _) _), (cell_al (cell_al k1 _) _)⟩ | with_reducible exact ⟨l0, l1⟩ | with_reducible exact ⟨(cell_al l0 _), (cell_al l1 _)⟩ | with_reducible exact ⟨(cell_al (cell_al l0 _) _), (cell_al (cell_al l1 _) _)⟩ | with_reducible exact ⟨set_keep l0 (by omega), set_keep l1 (by omega)⟩ | with_reducible exact ⟨set_keep (cell_al l0 _) (by omega), set_keep (cell_al l1 _) (by omega)⟩ | with_reducible exact ⟨set_keep (cell_al (cell_al l0 _) _) (by omega), set_keep (cell_al (cell_al l1 _) _) (by omega)⟩ | with_reducible exact ⟨set_keep (set_keep l0 (by omega)) (by omega), set_keep (set_keep l1 (by omega)) (by omega)⟩ | with_reducible exact ⟨set_keep (set_keep (cell_al l0 _) (by omega)) (by omega), set_keep (set_keep (cell_al l1 _) (by omega)) (by omega)⟩ | with_reducible exact ⟨set_keep (set_keep (cell_al (cell_al l0 _) _) (by omega)) (by omega), set_keep (set_keep (cell_al (cell_al l1 _) _) (by omega)) (by omega)⟩)
      (first
        | (go_at_call_of 40 oe1; refine (CL1.out _ ?_).mono ?_; (first | with_reducible exact hbd | with_reducible exact hb1 _ | with_reducible exact hb2 _ _); rintro r W1 ⟨cs, F, G, last, r1, rfl, hr1, hR1, hcs1, hF1, hG1, hM1, hl1, hS1⟩; have HS0 : StaysBut s V3 W1 := (by first | with_reducible exact sb_drew hS1 | with_reducible exact sb_al (sb_drew hS1) | with_reducible exact sb_al (sb_al (sb_drew hS1))); have hzW1 : V3.heap.size ≤ W1.heap.size := HS0.size; have k0 : W1.cell? ⟨w.heap.size, 1, none⟩ = some (.slice oe1 n1 cap1) := stay_old HS0 (HNC.out _ (by omega)) p1; have k1 : W1.cell? ⟨w.heap.size + 1, 1, none⟩ = some (.slice oe2 n2 cap2) := stay_old HS0 (HNC.out _ hsw) q1; (try have xa := (Bx.stay (k := V3.heap.size) (by first | exact Bx.new V3.drew _ | exact (Bx.new V3.drew _).al _) hS1 (by omega))); (try have xb := (Bx.stay (k := V3.heap.size + 1) (by exact Bx.new2 V3.drew _ _) hS1 (by omega))); (try have xan : V3.heap.size + 1 ≤ r1 := Nat.le_trans (Nat.le_of_eq (World.size_alloc V3 _).symm) hr1); (try have xbn : V3.heap.size + 2 ≤ r1 := Nat.le_trans (Nat.le_of_eq (size2 V3 _ _).symm) hr1); (try obtain ⟨xav, xac⟩ := xa.cell); (try have xaf := xa.frozen); (try obtain ⟨xbv, xbc⟩ := xb.cell); (try have xbf := xb.frozen); have xal : V3.heap.size ≤ r1 := (by first | exact hr1 | omega); have xar := hR1.lt; have HR1 := Lib.hid hR1; have HM1 := Lib.hid hM1; have HCS1 := Lib.hid hcs1; have HL1 := Lib.hid hl1; have HBW1 : Hid (Below w.heap.size w W1) := Lib.hid (HS0.below HV3w.out hz5); have HS01 := Lib.hid HS0; clear hR1 hM1 hcs1 hS1 hF1 hG1 hl1 hr1 HS0)
        | (go_at_call_of 40 oe2; refine (CL2.out _ last F G ?_ (Nat.le_trans HL1.out (by decide)) ?_).mono ?_; (first | with_reducible exact HM1.out | with_reducible exact HM1.out.alloc _ | with_reducible exact (HM1.out.alloc _).alloc _); (first | with_reducible exact HBW1.out | with_reducible exact below_al HBW1.out _ | with_reducible exact below_al (below_al HBW1.out _) _); rintro r W2 ⟨ds, F2, G2, last2, r2, rfl, hr2, hR2, hcs2, hF2, hG2, hM2, hl2, hS2⟩; have HS12 : StaysBut s W1 W2 := (by first | with_reducible exact hS2 | with_reducible exact sb_al hS2 | with_reducible exact sb_al (sb_al hS2)); have hzW2 : W1.heap.size ≤ W2.heap.size := HS12.size; have l0 : W2.cell? ⟨w.heap.size, 1, none⟩ = some (.slice oe1 n1 cap1) := stay_old HS12 (HNC.out _ (by omega)) k0; have l1 : W2.cell? ⟨w.heap.size + 1, 1, none⟩ = some (.slice oe2 n2 cap2) := stay_old HS12 (HNC.out _ hsw) k1; (try have ya := (Bx.stay (k := V3.heap.size) (by first | exact xa | exact xa.al _) hS2 (by omega))); (try have yb := (Bx.stay (k := V3.heap.size + 1) (by exact xb) hS2 (by omega))); (try have yc := (Bx.stay (k := W1.heap.size) (by first | exact Bx.new W1 _ | exact (Bx.new W1 _).al _) hS2 (by omega))); (try have yd := (Bx.stay (k := W1.heap.size + 1) (by exact Bx.new2 W1 _ _) hS2 (by omega))); have yal : W1.heap.size ≤ r2 := (by have h := hr2; (try simp only [World.size_alloc] at h); omega); (try have ycn : W1.heap.size + 1 ≤ r2 := (by have h := hr2; simp only [World.size_alloc] at h; omega)); (try have ydn : W1.heap.size + 2 ≤ r2 := (by have h := hr2; simp only [World.size_alloc] at h; omega)); have yar := hR2.lt; (try obtain ⟨yav, yac⟩ := ya.cell); (try have yaf := ya.frozen); (try have zac := fun o => cell_al yac o); (try have zaf := fun o => frozen_al yac yaf o); (try obtain ⟨ybv, ybc⟩ := yb.cell); (try have ybf := yb.frozen); (try have zbc := fun o => cell_al ybc o); (try have zbf := fun o => frozen_al ybc ybf o); (try obtain ⟨ycv, ycc⟩ := yc.cell); (try have ycf := yc.frozen); (try have zcc := fun o => cell_al ycc o); (try have zcf := fun o => frozen_al ycc ycf o); (try obtain ⟨ydv, ydc⟩ := yd.cell); (try have ydf := yd.frozen); (try have zdc := fun o => cell_al ydc o); (try have zdf := fun o => frozen_al ydc ydf o); (try have sabc := fun v => set_keep (g := V3.heap.size) (i := 0) (u := v) ybc (by omega)); (try have sabf := fun v => setf_keep (g := V3.heap.size) (i := 0) (u := v) ybf (by omega)); (try have sbac := fun v => set_keep (g := V3.heap.size + 1) (i := 0) (u := v) yac (by omega)); (try have sbaf := fun v => setf_keep (g := V3.heap.size + 1) (i := 0) (u := v) yaf (by omega)); (try have scdc := fun v => set_keep (g := W1.heap.size) (i := 0) (u := v) ydc (by omega)); (try have scdf := fun v => setf_keep (g := W1.heap.size) (i := 0) (u := v) ydf (by omega)); (try have sdcc := fun v => set_keep (g := W1.heap.size + 1) (i := 0) (u := v) ycc (by omega)); (try have sdcf := fun v => setf_keep (g := W1.heap.size + 1) (i := 0) (u := v) ycf (by omega)); (try have sacc := fun v => set_keep (g := V3.heap.size) (i := 0) (u := v) ycc (by omega)); (try have sacf := fun v => setf_keep (g := V3.heap.size) (i := 0) (u := v) ycf (by omega)); (try have scac := fun v => set_keep (g := W1.heap.size) (i := 0) (u := v) yac (by omega)); (try have scaf := fun v => setf_keep (g := W1.heap.size) (i := 0) (u := v) yaf (by omega)); (try have nac := fun u T v => set_keep (g := V3.heap.size) (i := 0) (u := v) (new_cell W2 u T) (by have := lt_bx ya; omega)); (try have naf := fun u T v => setf_keep (g := V3.heap.size) (i := 0) (u := v) (new_frozen W2 u T) (by have := lt_bx ya; omega)); (try have nbc := fun u T v => set_keep (g := V3.heap.size + 1) (i := 0) (u := v) (new_cell W2 u T) (by have := lt_bx yb; omega)); (try have nbf := fun u T v => setf_keep (g := V3.heap.size + 1) (i := 0) (u := v) (new_frozen W2 u T) (by have := lt_bx yb; omega)); (try have ncc := fun u T v => set_keep (g := W1.heap.size) (i := 0) (u := v) (new_cell W2 u T) (by have := lt_bx yc; omega)); (try have ncf := fun u T v => setf_keep (g := W1.heap.size) (i := 0) (u := v) (new_frozen W2 u T) (by have := lt_bx yc; omega)); (try have ndc := fun u T v => set_keep (g := W1.heap.size + 1) (i := 0) (u := v) (new_cell W2 u T) (by have := lt_bx yd; omega)); (try have ndf := fun u T v => setf_keep (g := W1.heap.size + 1) (i := 0) (u := v) (new_frozen W2 u T) (by have := lt_bx yd; omega)); have HR12 : Hid (RowN W2 r1 n1 (fun j => cs.getD j 0)) := Lib.hid (HR1.out.same (HS12.block r1 xar (HNC2.out _ (by omega)))); have HS02 := Lib.hid (HS01.out.trans HS12); have HR2 := Lib.hid hR2; have HM2 := Lib.hid hM2; have HCS2 := Lib.hid (⟨hcs2, HCS1.out.ext hF2 hG2⟩ : ClsAll F2 G2 q.exprs ds ∧ ClsAll F2 G2 p.exprs cs); have HBW2 : Hid (Below w.heap.size w W2) := Lib.hid (HS12.below HBW1.out hz5); clear hR2 hM2 hcs2 hF2 hG2 hS2 hl2 hr2 HS12))
    all_goals (go_wp2_with fail; go_meet)
    all_goals
      refine ⟨_, _, r1, r2, cs, ds, F2, G2, last2, rfl, rfl, Lib.hid (fin_all (W2 := W2) ?_ HR12.out HR2.out HBW2.out (by omega) (by omega) (by omega) (by omega) (by omega) (by omega) HCS2.out.2 HCS2.out.1 HM2.out.good HS02.out (by omega) (by omega) (by omega))⟩
      first
        | with_reducible exact leaf1 W2 _ _ _
        | with_reducible exact (leaf1 W2 _ _ _).swap
        | with_reducible exact leaf2 yac _ _ _ _
        | with_reducible exact leaf2 ycc _ _ _ _
        | with_reducible exact leaf3 yac ybc (by omega) _ _
        | with_reducible exact leaf3 ybc yac (by omega) _ _
        | with_reducible exact leaf3 ycc ydc (by omega) _ _
        | with_reducible exact leaf3 ydc ycc (by omega) _ _
        | with_reducible exact leaf3 yac ycc (by omega) _ _
        | with_reducible exact leaf3 ycc yac (by omega) _ _
        | with_reducible exact leaf4 yac _ _ _
        | with_reducible exact leaf4 ycc _ _ _
  case rest =>
    obtain ⟨B6, B7, q1x, q2x, cs, ds, F, G, last, rfl, rfl, hcut⟩ := hcut
    obtain ⟨wx, hwx⟩ : ∃ wx, wx = wc := ⟨_, rfl⟩
    rw [← hwx] at hcut ⊢
    have HE := Lib.hid hcut.out.1
    have HBW := Lib.hid hcut.out.2.2.2.2.1
    have HCL := Lib.hid (⟨hcut.out.2.1, hcut.out.2.2.1, hcut.out.2.2.2.1⟩ : ClsAll F G p.exprs cs ∧ ClsAll F G q.exprs ds ∧ Good F G last)
    have x0 : wx.cell? ⟨w.heap.size, 0, none⟩ = some (.slice o1 m1 d1) := (cell_same' (hcut.out.2.2.2.2.2 _ (by omega)) 0).trans p0
    have y0 : wx.cell? ⟨w.heap.size + 1, 0, none⟩ = some (.slice o2 m2 d2) := (cell_same' (hcut.out.2.2.2.2.2 _ hsw) 0).trans q0
    have hzx : w.heap.size + 1 < wx.heap.size := World.block_lt_of_cell? _ _ y0
    clear hwx hcut p0 p1 q0 q1 p1d q1d hb1 hb2 pa1 qa1 pa2 qa2 CL1 CL2
    obtain ⟨f1, f2⟩ := two_alloc wx (.cells #[sameV B6 B7] 51) (.cells #[itemV wx.heap.size] 52)
    have hal : Below wx.heap.size wx ((wx.alloc (.cells #[sameV B6 B7] 51)).alloc (.cells #[itemV wx.heap.size] 52)) := below_al (below_al (Below.refl _ wx) _) _
    have CD := Lib.hid (eqD_any B6 B7 wx.heap.size (wx.heap.size + 1) q1x q2x n1 n2 cs ds (by omega) (by omega) ((wx.alloc (.cells #[sameV B6 B7] 51)).alloc (.cells #[itemV wx.heap.size] 52)) (Lib.hid (HE.out.below hal)) (Lib.hid (by simp only [World.cell?, f1]; rfl)) (Lib.hid (by simp only [World.cell?, f2]; rfl))
      p.decls q.decls (.slice o1 m1 d1) (.slice o2 m2 d2) (Lib.hid ((hp.out.below (HBW.out.trans (hal.mono HBW.out.size))).1)) (Lib.hid ((hq.out.below (HBW.out.trans (hal.mono HBW.out.size))).1)) (Lib.hid hp.out.2.2.1) (Lib.hid hq.out.2.2.1) (Lib.hid (by rw [← hn1.out]; exact mayP_decls hm1.out)) (Lib.hid (by rw [← hn2.out]; exact mayP_decls hm2.out)))
    have HAL := Lib.hid (HBW.out.trans (hal.mono HBW.out.size))
    have y0b : ((wx.alloc (.cells #[sameV B6 B7] 51)).alloc (.cells #[itemV wx.heap.size] 52)).cell? ⟨w.heap.size + 1, 0, none⟩ = some (.slice o2 m2 d2) := cell_on hal y0
    have x0b : ((wx.alloc (.cells #[sameV B6 B7] 51)).alloc (.cells #[itemV wx.heap.size] 52)).cell? ⟨w.heap.size, 0, none⟩ = some (.slice o1 m1 d1) := cell_on hal x0
    unfold sameV itemV at x0b y0b
    unfold sameV itemV declV at CD
    clear f1 f2 hal
    go_wp2_with (go_at_call 26; ((with_reducible refine CD.out.mono ?_)); rintro r w9 ⟨rfl, hb9⟩; have HB9 := Lib.hid hb9; clear hb9)
    go_ret
    exact ⟨⟨cs, ds, F, G, last, rfl, HCL.out.1, HCL.out.2.1, HCL.out.2.2⟩, HAL.out.trans (HB9.out.mono HAL.out.size)⟩
end Go.Proofs.Ytiilgehdkanmnaa
