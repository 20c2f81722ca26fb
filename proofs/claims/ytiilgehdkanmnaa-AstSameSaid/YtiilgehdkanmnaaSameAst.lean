/- ast.Same. -/
import Derived.Test.YtiilgehdkanmnaaSameM2
import Derived.Deep.RegionWith
namespace Go.Proofs.Ytiilgehdkanmnaa
open Go.RowKit Go.Shelf

attribute [local go_sem] Oper.semAt_some

theorem parts_600 {p : Pr} (h : Small p) {x : Ex} (hx : x ∈ p.exprs) : (partsE x).length ≤ 900 := by
  by_cases h19 : x.kind = 19
  · rw [partsE_19 h19]
    have := h.ex x hx
    unfold wEx at this
    omega
  · rw [partsE_len h19]
    have := manyOf_le x.kind
    omega
theorem take_get {l : List Ex} {k i : Nat} {x : Ex} (h : (l.take k)[i]? = some x) : l[i]? = some x := by
  rw [List.getElem?_take] at h
  split at h
  · exact h
  · cases h
theorem wrap_succ (a : Nat) (h : (a : Int) ≤ 1000) : IntKind.i64.wrap ((a : Int) + 1) = (a : Int) + 1 := by
  rw [IntKind.wrap_i64]
  omega
theorem slice_run (b off n cap a : Nat) (h1 : (a : Int) + 1 ≤ (cap : Int)) (W : World) : (Instr.sliceAt 23 (.slice (some ⟨b, off, none⟩) n cap) none (some (.int .i64 ((a : Int) + 1))) none).run Try.prog W = .ok (.slice (some ⟨b, off, none⟩) (a + 1) cap) W := by
  have h3 : (0 : Int) ≤ (a : Int) + 1 := by omega
  have h4 : ¬ (a : Int) + 1 < 0 := by omega
  go_simp
theorem ahead_take {l : List Ex} (h : AheadL l) (k : Nat) : AheadL (l.take k) := fun i x hx z hz => by
  rw [List.getElem?_take] at hx
  split at hx
  · exact h i x hx z hz
  · cases hx
theorem sameL_take {l m : List Ex} (hl : AheadL l) (hm : AheadL m) (k j : Nat) : ∀ (a : Nat), a < k → a < l.length → ∀ b : Nat, b < j → b < m.length → sameL (l.take k) (m.take j) a b = sameL l m a b := by
  intro a
  induction a using Nat.strongRecOn with
  | _ a ih =>
  intro ha hal b hb hbl
  have hx := List.getElem?_eq_getElem hal
  have hy := List.getElem?_eq_getElem hbl
  rw [sameL_eq hl hx hy, sameL_eq (ahead_take hl k) (x := l[a]) (y := m[b]) (by rw [List.getElem?_take, if_pos ha]; exact hx) (by rw [List.getElem?_take, if_pos hb]; exact hy)]
  congr 1
  refine zip_all_congr _ _ _ _ fun z hz => ?_
  have h1 := hl a _ hx z.1 (List.of_mem_zip hz).1
  have h2 := hm b _ hy z.2 (List.of_mem_zip hz).2
  exact ih z.1.toNat (by omega) (by omega) (by omega) z.2.toNat (by omega) (by omega)
/-- are two expressions of two programs the same -/
def sameA (p : Pr) (a : Int) (q : Pr) (b : Int) : Bool := inP p a && inP q b && sameL p.exprs q.exprs a.toNat b.toNat
theorem ahead_of_may {p : Pr} (h : mayP p = true) : AheadL p.exprs := fun _ _ hx => may_part h hx
/-- what a classifier's closure answers -/
def ClsPost (l : List Ex) (n s last0 : Nat) (F0 G0 : Value → Option Nat) (w : World) (r : Ending) (Y : World) : Prop :=
  ∃ (cs : List Nat) (F G : Value → Option Nat) (last q : Nat), r = .returned (.slice (some ⟨q, 0, none⟩) n n) ∧ w.heap.size ≤ q ∧ RowN Y q n (fun j => cs.getD j 0) ∧ ClsAll F G l cs ∧ ExtF F0 F ∧ ExtF G0 G ∧ CMem Y s last F G ∧ last ≤ last0 + 300000 ∧ StaysBut s w Y
theorem ix_row {q n : Nat} {j : Nat} (hj : j < n) (hn : (n : Int) ≤ 1000000) : Ix 32 1 (.slice (some ⟨q, 0, none⟩) n n) q 0 j := ix_il (fun _ => rfl) hj (by omega)
set_option maxHeartbeats 8000000 in
set_option maxRecDepth 100000 in
theorem same_core (p q : Pr) (o1 o2 : Option Addr) (m1 d1 b1 f1 cap1 n1 m2 d2 b2 f2 cap2 n2 : Nat) (hn1 : Hid (p.exprs.length = n1)) (hn2 : Hid (q.exprs.length = n2)) (nl1 : (n1 : Int) ≤ 300) (nl2 : (n2 : Int) ≤ 300) (hk1 : (n1 : Int) ≤ (cap1 : Int)) (hk2 : (n2 : Int) ≤ (cap2 : Int)) (hx1 : (cap1 : Int) ≤ 9223372036854775807) (hx2 : (cap2 : Int) ≤ 9223372036854775807)
    (hm1 : Hid (mayP p = true)) (hm2 : Hid (mayP q = true)) (hS1 : Hid (Small p)) (hS2 : Hid (Small q)) (w : World)
    (hp : Hid (ProgAt w (.slice o1 m1 d1) (.slice (some ⟨b1, f1, none⟩) n1 cap1) p)) (hq : Hid (ProgAt w (.slice o2 m2 d2) (.slice (some ⟨b2, f2, none⟩) n2 cap2) q))
    (hc1 : Hid (∀ i, i < n1 → ∀ x, p.exprs[i]? = some x → ExAt w b1 (f1 + i * 9) x)) (hc2 : Hid (∀ i, i < n2 → ∀ x, q.exprs[i]? = some x → ExAt w b2 (f2 + i * 9) x)) (a b : Nat) (ha : a < n1) (hb : b < n2) :
    Calls Try.prog 7 #[.agg #[.slice o1 m1 d1, .slice (some ⟨b1, f1, none⟩) n1 cap1], .int .i64 (a : Int), .agg #[.slice o2 m2 d2, .slice (some ⟨b2, f2, none⟩) n2 cap2], .int .i64 (b : Int)] w fun r Y =>
      r = .returned (.bool (sameL p.exprs q.exprs a b)) ∧ Below w.heap.size w Y := by
  obtain ⟨Wb, hWb⟩ : ∃ Wb, Wb = (w.alloc (.cells #[.slice o1 m1 d1, .slice (some ⟨b1, f1, none⟩) n1 cap1] 25)).alloc (.cells #[.slice o2 m2 d2, .slice (some ⟨b2, f2, none⟩) n2 cap2] 25) := ⟨_, rfl⟩
  have bb : Below w.heap.size w Wb := by rw [hWb]; exact ((Below.refl _ w).alloc (Nat.le_refl _) _).alloc (by rw [World.size_alloc]; omega) _
  have pb : Wb.heap[w.heap.size]? = some (.cells #[.slice o1 m1 d1, .slice (some ⟨b1, f1, none⟩) n1 cap1] 25 (0, 0)) := by
    rw [hWb]; exact (two_alloc w _ _).1
  have qb : Wb.heap[w.heap.size + 1]? = some (.cells #[.slice o2 m2 d2, .slice (some ⟨b2, f2, none⟩) n2 cap2] 25 (0, 0)) := by
    rw [hWb]; exact (two_alloc w _ _).2
  have CI1 : Hid (∀ V, Below Wb.heap.size Wb V → Calls Try.prog 18 #[.agg #[.slice o1 m1 d1, .slice (some ⟨b1, f1, none⟩) n1 cap1], .int .i64 (a : Int)] V fun r w' => MayPost true V r w') := Lib.hid fun V hV => by
    have h := isIn_any _ _ p (a : Int) V (hp.out.below (bb.trans (hV.mono bb.size))) hS1.out
    rwa [show inP p (a : Int) = true by unfold inP; rw [hm1.out, decide_eq_true (show (0 : Int) ≤ a by omega), decide_eq_true (show (a : Int) < (p.exprs.length : Int) by rw [hn1.out]; omega)]; rfl] at h
  have CI2 : Hid (∀ V, Below Wb.heap.size Wb V → Calls Try.prog 18 #[.agg #[.slice o2 m2 d2, .slice (some ⟨b2, f2, none⟩) n2 cap2], .int .i64 (b : Int)] V fun r w' => MayPost true V r w') := Lib.hid fun V hV => by
    have h := isIn_any _ _ q (b : Int) V (hq.out.below (bb.trans (hV.mono bb.size))) hS2.out
    rwa [show inP q (b : Int) = true by unfold inP; rw [hm2.out, decide_eq_true (show (0 : Int) ≤ b by omega), decide_eq_true (show (b : Int) < (q.exprs.length : Int) by rw [hn2.out]; omega)]; rfl] at h
  have p0 : Wb.cell? ⟨w.heap.size, 0, none⟩ = some (.slice o1 m1 d1) := by simp [World.cell?, pb]
  have p1 : Wb.cell? ⟨w.heap.size, 1, none⟩ = some (.slice (some ⟨b1, f1, none⟩) n1 cap1) := by simp [World.cell?, pb]
  have q0 : Wb.cell? ⟨w.heap.size + 1, 0, none⟩ = some (.slice o2 m2 d2) := by simp [World.cell?, qb]
  have q1 : Wb.cell? ⟨w.heap.size + 1, 1, none⟩ = some (.slice (some ⟨b2, f2, none⟩) n2 cap2) := by simp [World.cell?, qb]
  have HB := Lib.hid bb
  have HZ : Hid (w.heap.size + 1 < Wb.heap.size) := Lib.hid (lt_of_heap qb)
  have tok : True := trivial
  clear bb pb qb
  go_enter Try.func7, Try.ntmps7
  go_wp2_with (fail)
  rw [← hWb]
  clear hWb
  go_wp2_with (first
    | (go_at_call 18; have _k := tok; clear tok _k; ((with_reducible refine (CI1.out _ (Below.refl _ _)).mono ?_)); rintro r V1 ⟨rfl, hV1⟩; have HV1 := Lib.hid hV1; replace p0 := cell_on hV1 p0; replace p1 := cell_on hV1 p1; replace q0 := cell_on hV1 q0; replace q1 := cell_on hV1 q1; clear hV1)
    | (go_at_call 18; ((with_reducible refine (CI2.out _ HV1.out).mono ?_)); rintro r V2 ⟨rfl, hV2⟩; have HV2 := Lib.hid (HV1.out.trans (hV2.mono HV1.out.size)); replace p0 := cell_on hV2 p0; replace p1 := cell_on hV2 p1; replace q0 := cell_on hV2 q0; replace q1 := cell_on hV2 q1; clear hV2)
    | (go_at_call 19; ((with_reducible refine (classifier_any _).mono ?_)); rintro r V3 ⟨rfl, hM3, hV3⟩; have HV3 := Lib.hid (HV2.out.trans (hV3.mono HV2.out.size)); replace p0 := cell_on hV3 p0; replace p1 := cell_on hV3 p1; replace q0 := cell_on hV3 q0; replace q1 := cell_on hV3 q1; have HM3 := Lib.hid hM3; clear hM3 hV3))
  obtain ⟨s, hs⟩ : ∃ s, s = V2.heap.size := ⟨_, rfl⟩
  rw [← hs] at HM3
  unfold clsV
  rw [← hs]
  have hsw : w.heap.size + 1 < s := by have := HZ.out; have := HV2.out.size; omega
  have HWS := Lib.hid hsw
  have HV3w := Lib.hid (HB.out.trans (HV3.out.mono HB.out.size))
  clear hs CI1 CI2
  have hA1 := ahead_of_may hm1.out
  have hA2 := ahead_of_may hm2.out
  have CL1 : Hid (∀ V, Below V3.heap.size V3 V → Calls Try.prog 40 #[.slice (some ⟨b1, f1, none⟩) (a + 1) cap1, .pointer (some ⟨s + 2, 0, none⟩), .pointer (some ⟨s + 5, 0, none⟩), .pointer (some ⟨s + 3, 0, none⟩)] V fun r Y => ClsPost (p.exprs.take (a + 1)) (a + 1) s 0 (fun _ => none) (fun _ => none) V r Y) := Lib.hid fun V hV =>
    callsIn_wide.1 (cls_core (some ⟨b1, f1, none⟩) b1 f1 (a + 1) cap1 (p.exprs.take (a + 1)) (Lib.hid (by rw [List.length_take]; have := hn1.out; omega)) (by omega) (by omega) hx1 (Lib.hid fun _ => rfl) (Lib.hid (ahead_take hA1 _)) (Lib.hid fun x hx => parts_600 hS1.out (List.mem_of_mem_take hx)) w V
      (Lib.hid (HV3w.out.trans (hV.mono HV3w.out.size))) s (Lib.hid (by omega)) (Lib.hid fun i hi x hx => hc1.out i (by omega) x (take_get hx)) 0 _ _ (Lib.hid (HM3.out.same fun k _ hk => hV.block k (by have := HM3.out.lt; omega))) (Lib.hid (by omega)))
  have CL2 : Hid (∀ V last F G, CMem V s last F G → last ≤ 300000 → Below w.heap.size w V → Calls Try.prog 40 #[.slice (some ⟨b2, f2, none⟩) (b + 1) cap2, .pointer (some ⟨s + 2, 0, none⟩), .pointer (some ⟨s + 5, 0, none⟩), .pointer (some ⟨s + 3, 0, none⟩)] V fun r Y => ClsPost (q.exprs.take (b + 1)) (b + 1) s last F G V r Y) := Lib.hid fun V last F G hM hl hV =>
    callsIn_wide.1 (cls_core (some ⟨b2, f2, none⟩) b2 f2 (b + 1) cap2 (q.exprs.take (b + 1)) (Lib.hid (by rw [List.length_take]; have := hn2.out; omega)) (by omega) (by omega) hx2 (Lib.hid fun _ => rfl) (Lib.hid (ahead_take hA2 _)) (Lib.hid fun x hx => parts_600 hS2.out (List.mem_of_mem_take hx)) w V
      (Lib.hid hV) s (Lib.hid (by omega)) (Lib.hid fun i hi x hx => hc2.out i (by omega) x (take_get hx)) last _ _ (Lib.hid hM) (Lib.hid (by omega)))
  have hSa : Hid (∀ (cs ds : List Nat) (F G : Value → Option Nat), ClsAll F G (p.exprs.take (a + 1)) cs → ClsAll F G (q.exprs.take (b + 1)) ds → (∃ last, Good F G last) → ((cs.getD a 0 = ds.getD b 0) ↔ sameL p.exprs q.exprs a b = true)) := Lib.hid fun cs ds F G h1 h2 ⟨last, hg⟩ => by
    rw [cls_same hg (ahead_take hA1 _) (ahead_take hA2 _) h1 h2 a b (by rw [List.length_take]; have := hn1.out; omega) (by rw [List.length_take]; have := hn2.out; omega), sameL_take hA1 hA2 (a + 1) (b + 1) a (by omega) (by have := hn1.out; omega) b (by omega) (by have := hn2.out; omega)]
  have hbd : Below V3.heap.size V3 V3.drew := ⟨rfl, rfl, rfl, Nat.le_refl _, fun _ _ => rfl⟩
  have hz3 := HM3.out.lt
  have hnc : ∀ k, k < s → ¬ CM s k := fun k hk hm => by rcases hm with h3 | h3 | h3 <;> omega
  have hnc2 : ∀ k, s + 5 < k → ¬ CM s k := fun k hk hm => by rcases hm with h3 | h3 | h3 <;> omega
  have HNC := Lib.hid hnc
  have HNC2 := Lib.hid hnc2
  have ha1 : (a : Int) < (n1 : Int) := by omega
  have hb1 : (b : Int) < (n2 : Int) := by omega
  have ha2 : (a : Int) + 1 ≤ (cap1 : Int) := by omega
  have hb2 : (b : Int) + 1 ≤ (cap2 : Int) := by omega
  clear hA1 hA2 hnc hnc2
  have hw1 : IntKind.i64.wrap ((a : Int) + 1) = (a : Int) + 1 := wrap_succ a (by omega)
  have hw2 : IntKind.i64.wrap ((b : Int) + 1) = (b : Int) + 1 := wrap_succ b (by omega)
  have hix1 : Hid (∀ q1 : Nat, Ix 32 1 (.slice (some ⟨q1, 0, none⟩) (a + 1) (a + 1)) q1 0 a) := Lib.hid fun q1 => ix_row (by omega) (by omega)
  have hix2 : Hid (∀ q1 : Nat, Ix 32 1 (.slice (some ⟨q1, 0, none⟩) (b + 1) (b + 1)) q1 0 b) := Lib.hid fun q1 => ix_row (by omega) (by omega)
  have hz4 : w.heap.size + 1 < V3.heap.size := by omega
  have hz5 : w.heap.size ≤ s := by omega
  have haa : a < a + 1 := Nat.lt_succ_self a
  have hbb : b < b + 1 := Nat.lt_succ_self b
  have hsl1 := slice_run b1 f1 n1 cap1 a (by omega)
  have hsl2 := slice_run b2 f2 n2 cap2 b (by omega)
  go_region_with (first
    | (go_at_call_of 40 b1; refine (CL1.out _ hbd).mono ?_; rintro r W1 ⟨cs, F, G, last, r1, rfl, hr1, hR1, hcs1, hF1, hG1, hM1, hl1, hS1⟩; obtain ⟨ca, hca⟩ : ∃ ca, ca = cs.getD a 0 := ⟨_, rfl⟩; have y1 : W1.cell? ⟨r1, a, none⟩ = some (.int .i64 (ca : Int)) := (by rw [hca]; exact hR1.cell (j := a) haa); have ix1 := hix1.out r1; unfold Ix at ix1; have k1 : W1.cell? ⟨w.heap.size + 1, 1, none⟩ = some (.slice (some ⟨b2, f2, none⟩) n2 cap2) := (cell_same' (hS1.block (w.heap.size + 1) hz4 (HNC.out _ hsw)) 1).trans q1; have HR1 := Lib.hid hR1; have HM1 := Lib.hid hM1; have HCS1 := Lib.hid hcs1; have HS1 := Lib.hid hS1; have HCA := Lib.hid hca; have hr1' : V3.heap.size ≤ r1 := hr1; clear hR1 hM1 hcs1 hS1 hF1 hG1 hca hr1)
    | (go_at_call_of 40 b2; refine (CL2.out _ last F G HM1.out (Nat.le_trans hl1 (by decide)) ((HS1.out.below (HV3w.out.trans (hbd.mono HV3w.out.size)) hz5))).mono ?_; rintro r W2 ⟨ds, F2, G2, last2, r2, rfl, hr2, hR2, hcs2, hF2, hG2, hM2, hl2, hS2⟩; obtain ⟨cb, hcb⟩ : ∃ cb, cb = ds.getD b 0 := ⟨_, rfl⟩; have y2 : W2.cell? ⟨r2, b, none⟩ = some (.int .i64 (cb : Int)) := (by rw [hcb]; exact hR2.cell (j := b) hbb); have ix2 := hix2.out r2; unfold Ix at ix2; have y3 : W2.cell? ⟨r1, a, none⟩ = some (.int .i64 (ca : Int)) := (cell_same' (hS2.block r1 (HR1.out.lt) (HNC2.out _ (Nat.lt_of_lt_of_le hz3 hr1'))) a).trans y1; have HCA2 := Lib.hid (⟨hcs2, HCS1.out.ext hF2 hG2, hM2.good, hS2⟩ : ClsAll F2 G2 (q.exprs.take (b + 1)) ds ∧ ClsAll F2 G2 (p.exprs.take (a + 1)) cs ∧ Good F2 G2 last2 ∧ StaysBut s W1 W2); have HCB := Lib.hid hcb; clear hR2 hM2 hcs2 hS2 hF2 hG2 hcb hr2))
  all_goals
    have hfin : Hid (Below w.heap.size w W2) := Lib.hid ((HS1.out.trans HCA2.out.2.2.2).below (HV3w.out.trans (hbd.mono HV3w.out.size)) hz5)
    have hval : Hid ((ca = cb) ↔ sameL p.exprs q.exprs a b = true) := Lib.hid (by
      rw [HCA.out, HCB.out]
      exact hSa.out cs ds _ _ HCA2.out.2.1 HCA2.out.1 ⟨_, HCA2.out.2.2.1⟩)
    by_cases hcc : ca = cb
    · have HV := Lib.hid (hval.out.1 hcc)
      have z1 : ((ca : Int) == (cb : Int)) = true := by simp [hcc]
      clear hcc
      go_wp2_with (fail)
      go_ret
      exact ⟨by rw [HV.out]; show Ending.returned (.bool ((ca : Int) == (cb : Int))) = _; rw [z1], hfin.out⟩
    · have HV : Hid (sameL p.exprs q.exprs a b = false) := Lib.hid (by
        cases h : sameL p.exprs q.exprs a b
        · rfl
        · exact absurd (hval.out.2 h) hcc)
      have z1 : ((ca : Int) == (cb : Int)) = false := by simp; omega
      clear hcc
      go_wp2_with (fail)
      go_ret
      exact ⟨by rw [HV.out]; show Ending.returned (.bool ((ca : Int) == (cb : Int))) = _; rw [z1], hfin.out⟩
end Go.Proofs.Ytiilgehdkanmnaa
