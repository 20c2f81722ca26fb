/- code.Object: the object of bytes. -/
import Derived.Test.YtodblepbedhnnaaCoWithin
namespace Go.Proofs.Ytodblepbedhnnaa
open Go.RowKit Co

attribute [local go_sem] Oper.semAt_some

theorem results_two {fn : Func} {t s : Tmp} {ty : TypeId} {P : Program} {w : World} {v u : Value} (h : fn.results = #[.cell t ty, .tmp s]) (tmps : Array Value) (a : Addr) (ha : tmps.getD t undef = .pointer (some a)) (hl : (loadVar ty a).run P w = .ok v w) (hu : tmps.getD s undef = u) : (results fn tmps).run P w = .ok (.tuple #[v, u]) w := by
  have ha' : tmps[t]?.getD undef = .pointer (some a) := by simpa [Array.getD_eq_getD_getElem?] using ha
  have hu' : tmps[s]?.getD undef = u := by simpa [Array.getD_eq_getD_getElem?] using hu
  simp [results, h, ha', hu', hl, asAddr]
def nilV : Value := .slice none 0 0
/-- what is told, and what lies there -/
def ObjPost (w : World) (r : Option Ob) (e : Ending) (w' : World) : Prop :=
  Below w.heap.size w w' ∧ match r with
    | some o => ∃ s1 s2 s3 s4 t1 t2 t3 t4, e = .returned (.tuple #[.agg (obCells s1 s2 s3 s4 o.cross o.flags t1 t2 t3 t4), .bool true]) ∧ ObAt w' s1 s2 s3 s4 t1 t2 t3 t4 o
    | none => e = .returned (.tuple #[.agg (obCells (.slice none 0 0) (.slice none 0 0) (.slice none 0 0) (.slice none 0 0) 0 0 (.slice none 0 0) (.slice none 0 0) (.slice none 0 0) (.slice none 0 0)), .bool false])
theorem objOf_none {l : List UInt8} {o : Ob} (h : rdO (inside l) = (o, none)) : objOf l = none := by unfold objOf; rw [h]
theorem objOf_end {l : List UInt8} {o : Ob} (h : rdO (inside l) = (o, some [])) : objOf l = some o := by unfold objOf; rw [h]
theorem objOf_more {l : List UInt8} {o : Ob} {c : UInt8} {t : List UInt8} (h : rdO (inside l) = (o, some (c :: t))) : objOf l = none := by unfold objOf; rw [h]
theorem ten_below {w W : World} {k : Nat} (h : Below w.heap.size w W) (hk : w.heap.size ≤ k) (v0 v1 v2 v3 v4 v5 v6 v7 v8 v9 : Value) : Below w.heap.size w ((((((((((W.setCell ⟨k, 0, none⟩ v0).setCell ⟨k, 1, none⟩ v1).setCell ⟨k, 2, none⟩ v2).setCell ⟨k, 3, none⟩ v3).setCell ⟨k, 4, none⟩ v4).setCell ⟨k, 5, none⟩ v5).setCell ⟨k, 6, none⟩ v6).setCell ⟨k, 7, none⟩ v7).setCell ⟨k, 8, none⟩ v8).setCell ⟨k, 9, none⟩ v9) := by
  refine Below.setCell (p := ⟨k, 9, none⟩) ?_ hk v9
  refine Below.setCell (p := ⟨k, 8, none⟩) ?_ hk v8
  refine Below.setCell (p := ⟨k, 7, none⟩) ?_ hk v7
  refine Below.setCell (p := ⟨k, 6, none⟩) ?_ hk v6
  refine Below.setCell (p := ⟨k, 5, none⟩) ?_ hk v5
  refine Below.setCell (p := ⟨k, 4, none⟩) ?_ hk v4
  refine Below.setCell (p := ⟨k, 3, none⟩) ?_ hk v3
  refine Below.setCell (p := ⟨k, 2, none⟩) ?_ hk v2
  refine Below.setCell (p := ⟨k, 1, none⟩) ?_ hk v1
  exact Below.setCell (p := ⟨k, 0, none⟩) h hk v0
theorem ten_frozen {W : World} {B : Nat} {a0 a1 a2 a3 a4 a5 a6 a7 a8 a9 : Value} {T : TypeId} (h : W.heap[B]? = some (.cells #[a0, a1, a2, a3, a4, a5, a6, a7, a8, a9] T (0, 0))) : W.frozen? ⟨B, 0, none⟩ = false ∧ W.frozen? ⟨B, 1, none⟩ = false ∧ W.frozen? ⟨B, 2, none⟩ = false ∧ W.frozen? ⟨B, 3, none⟩ = false ∧ W.frozen? ⟨B, 4, none⟩ = false ∧ W.frozen? ⟨B, 5, none⟩ = false ∧ W.frozen? ⟨B, 6, none⟩ = false ∧ W.frozen? ⟨B, 7, none⟩ = false ∧ W.frozen? ⟨B, 8, none⟩ = false ∧ W.frozen? ⟨B, 9, none⟩ = false :=
  ⟨by simp [World.frozen?, h], by simp [World.frozen?, h], by simp [World.frozen?, h], by simp [World.frozen?, h], by simp [World.frozen?, h], by simp [World.frozen?, h], by simp [World.frozen?, h], by simp [World.frozen?, h], by simp [World.frozen?, h], by simp [World.frozen?, h]⟩
set_option maxHeartbeats 16000000 in
set_option maxRecDepth 100000 in
theorem obj_lost (v : Value) (l : List UInt8) (w : World) (hv : BytesAt w v l) (hl : l.length ≤ 1000000) (oo : Ob) (hrd : rdO (inside l) = (oo, none)) :
    Calls Try.prog 9 #[v] w fun e w' => ObjPost w (objOf l) e w' := by
  have hb0 : Below w.heap.size w (w.alloc (.cells #[.slice none 0 0, .slice none 0 0, .slice none 0 0, .slice none 0 0, .int .i64 0, .int .i64 0, .slice none 0 0, .slice none 0 0, .slice none 0 0, .slice none 0 0] 26)) := (Below.refl _ w).alloc (Nat.le_refl _) _
  have HX0 := Lib.hid (heap_alloc_new w (.cells #[.slice none 0 0, .slice none 0 0, .slice none 0 0, .slice none 0 0, .int .i64 0, .int .i64 0, .slice none 0 0, .slice none 0 0, .slice none 0 0, .slice none 0 0] 26))
  have WI := Lib.hid (within_any v l _ (hv.below hb0) hl)
  have HB0 := Lib.hid hb0
  obtain ⟨o, cap, b, off, rfl, _, _, _, _⟩ := hv
  obtain ⟨n, hn⟩ : ∃ n, n = l.length := ⟨_, rfl⟩
  rw [← hn] at WI hl ⊢
  obtain ⟨x, hx⟩ : ∃ x, x = oo.cross := ⟨_, rfl⟩
  obtain ⟨y, hy⟩ : ∃ y, y = oo.flags := ⟨_, rfl⟩
  have HOC := Lib.hid (And.intro hx.symm hy.symm)
  have HRD := Lib.hid hrd
  clear hb0 hn hx hy hrd
  go_enter Try.func9, Try.ntmps9
  go_wp2_with (first
    | (go_at_call 18; (with_reducible refine WI.out.mono ?_); rintro e w1 ⟨R, rfl, hR⟩; have HW1 := Lib.hid (Nat.le_trans HB0.out.size hR.below.size); have RA := read_any _ R _ w1 hR; rw [HRD.out] at RA; simp only [HOC.out.1, HOC.out.2] at RA; have RA := Lib.hid RA; clear hR)
    | (go_at_call 19; (with_reducible refine RA.out.mono ?_); rintro e w2 ⟨s1, s2, s3, s4, t1, t2, t3, t4, rfl, hO, hR2, hS⟩; obtain ⟨o1, n1, c1, o2, n2, c2, o3, n3, c3, o4, n4, c4, q1, m1, d1, q2, m2, d2, q3, m3, d3, q4, m4, d4, rfl, rfl, rfl, rfl, rfl, rfl, rfl, rfl⟩ := obAt_slices (hO w2 ⟨Nat.le_refl _, fun _ _ _ => rfl⟩); unfold obCells; have HO := Lib.hid hO; have HR2 := Lib.hid hR2; have hX2 := (hR2.below.block _ (lt_of_heap HX0.out)).trans HX0.out; have hX3 := (Below.heap_alloc w2 (.cells #[.slice o1 n1 c1, .slice o2 n2 c2, .slice o3 n3 c3, .slice o4 n4 c4, .int .i64 x, .int .i64 y, .slice q1 m1 d1, .slice q2 m2 d2, .slice q3 m3 d3, .slice q4 m4 d4] 26) _ (lt_of_heap hX2)).trans hX2; have HX3 := Lib.hid hX3; obtain ⟨f0, f1, f2, f3, f4, f5, f6, f7, f8, f9⟩ := ten_frozen hX3; obtain ⟨g0, g1, g2, g3, g4, g5, g6, g7, g8, g9⟩ := ten_cells hX3; obtain ⟨rv, r0, r1, _, _⟩ := rd_cells (hR2.alloc (.cells #[.slice o1 n1 c1, .slice o2 n2 c2, .slice o3 n3 c3, .slice o4 n4 c4, .int .i64 x, .int .i64 y, .slice q1 m1 d1, .slice q2 m2 d2, .slice q3 m3 d3, .slice q4 m4 d4] 26)); simp only [lostB] at r1;  clear hO hR2 hS hX2 hX3))
  refine bodyPost_ret (results_two rfl _ ⟨w.heap.size, 0, none⟩ rfl (ten_end (ten_box HX3.out)) rfl) rfl ?_
  rw [objOf_none HRD.out]
  exact ⟨ten_below (HB0.out.trans ((HR2.out.below.alloc HR2.out.below.size _).mono HB0.out.size)) (Nat.le_refl _) _ _ _ _ _ _ _ _ _ _, rfl⟩
set_option maxHeartbeats 16000000 in
set_option maxRecDepth 100000 in
theorem obj_more (v : Value) (l : List UInt8) (w : World) (hv : BytesAt w v l) (hl : l.length ≤ 1000000) (oo : Ob) (c : UInt8) (t : List UInt8) (hrd : rdO (inside l) = (oo, some (c :: t))) :
    Calls Try.prog 9 #[v] w fun e w' => ObjPost w (objOf l) e w' := by
  have hb0 : Below w.heap.size w (w.alloc (.cells #[.slice none 0 0, .slice none 0 0, .slice none 0 0, .slice none 0 0, .int .i64 0, .int .i64 0, .slice none 0 0, .slice none 0 0, .slice none 0 0, .slice none 0 0] 26)) := (Below.refl _ w).alloc (Nat.le_refl _) _
  have HX0 := Lib.hid (heap_alloc_new w (.cells #[.slice none 0 0, .slice none 0 0, .slice none 0 0, .slice none 0 0, .int .i64 0, .int .i64 0, .slice none 0 0, .slice none 0 0, .slice none 0 0, .slice none 0 0] 26))
  have WI := Lib.hid (within_any v l _ (hv.below hb0) hl)
  have HB0 := Lib.hid hb0
  obtain ⟨o, cap, b, off, rfl, _, _, _, _⟩ := hv
  obtain ⟨n, hn⟩ : ∃ n, n = l.length := ⟨_, rfl⟩
  rw [← hn] at WI hl ⊢
  obtain ⟨x, hx⟩ : ∃ x, x = oo.cross := ⟨_, rfl⟩
  obtain ⟨y, hy⟩ : ∃ y, y = oo.flags := ⟨_, rfl⟩
  have HOC := Lib.hid (And.intro hx.symm hy.symm)
  have HRD := Lib.hid hrd
  clear hb0 hn hx hy hrd
  go_enter Try.func9, Try.ntmps9
  go_wp2_with (first
    | (go_at_call 18; (with_reducible refine WI.out.mono ?_); rintro e w1 ⟨R, rfl, hR⟩; have HW1 := Lib.hid (Nat.le_trans HB0.out.size hR.below.size); have RA := read_any _ R _ w1 hR; rw [HRD.out] at RA; simp only [HOC.out.1, HOC.out.2] at RA; have RA := Lib.hid RA; clear hR)
    | (go_at_call 19; (with_reducible refine RA.out.mono ?_); rintro e w2 ⟨s1, s2, s3, s4, t1, t2, t3, t4, rfl, hO, hR2, hS⟩; obtain ⟨o1, n1, c1, o2, n2, c2, o3, n3, c3, o4, n4, c4, q1, m1, d1, q2, m2, d2, q3, m3, d3, q4, m4, d4, rfl, rfl, rfl, rfl, rfl, rfl, rfl, rfl⟩ := obAt_slices (hO w2 ⟨Nat.le_refl _, fun _ _ _ => rfl⟩); unfold obCells; have HO := Lib.hid hO; have HR2 := Lib.hid hR2; have hX2 := (hR2.below.block _ (lt_of_heap HX0.out)).trans HX0.out; have hX3 := (Below.heap_alloc w2 (.cells #[.slice o1 n1 c1, .slice o2 n2 c2, .slice o3 n3 c3, .slice o4 n4 c4, .int .i64 x, .int .i64 y, .slice q1 m1 d1, .slice q2 m2 d2, .slice q3 m3 d3, .slice q4 m4 d4] 26) _ (lt_of_heap hX2)).trans hX2; have HX3 := Lib.hid hX3; obtain ⟨f0, f1, f2, f3, f4, f5, f6, f7, f8, f9⟩ := ten_frozen hX3; obtain ⟨g0, g1, g2, g3, g4, g5, g6, g7, g8, g9⟩ := ten_cells hX3; obtain ⟨rv, r0, r1, _, _⟩ := rd_cells (hR2.alloc (.cells #[.slice o1 n1 c1, .slice o2 n2 c2, .slice o3 n3 c3, .slice o4 n4 c4, .int .i64 x, .int .i64 y, .slice q1 m1 d1, .slice q2 m2 d2, .slice q3 m3 d3, .slice q4 m4 d4] 26)); simp only [lostB] at r1; obtain ⟨ro, rc, r00, hrl⟩ := rd_slice (hR2.alloc (.cells #[.slice o1 n1 c1, .slice o2 n2 c2, .slice o3 n3 c3, .slice o4 n4 c4, .int .i64 x, .int .i64 y, .slice q1 m1 d1, .slice q2 m2 d2, .slice q3 m3 d3, .slice q4 m4 d4] 26)); obtain ⟨m, hm⟩ : ∃ m, m = (c :: t).length := ⟨_, rfl⟩; rw [← hm] at r00 hrl; have hm0 : (0 : Int) < (m : Int) := (by rw [hm]; simp only [List.length_cons]; omega); have hm1 : (m : Int) ≤ 1000000 := (by omega); clear r0 hm; clear hO hR2 hS hX2 hX3))
  refine bodyPost_ret (results_two rfl _ ⟨w.heap.size, 0, none⟩ rfl (ten_end (ten_box HX3.out)) rfl) rfl ?_
  rw [objOf_more HRD.out]
  exact ⟨ten_below (HB0.out.trans ((HR2.out.below.alloc HR2.out.below.size _).mono HB0.out.size)) (Nat.le_refl _) _ _ _ _ _ _ _ _ _ _, rfl⟩
set_option maxHeartbeats 16000000 in
set_option maxRecDepth 100000 in
theorem obj_end (v : Value) (l : List UInt8) (w : World) (hv : BytesAt w v l) (hl : l.length ≤ 1000000) (oo : Ob) (hrd : rdO (inside l) = (oo, some [])) :
    Calls Try.prog 9 #[v] w fun e w' => ObjPost w (objOf l) e w' := by
  have hb0 : Below w.heap.size w (w.alloc (.cells #[.slice none 0 0, .slice none 0 0, .slice none 0 0, .slice none 0 0, .int .i64 0, .int .i64 0, .slice none 0 0, .slice none 0 0, .slice none 0 0, .slice none 0 0] 26)) := (Below.refl _ w).alloc (Nat.le_refl _) _
  have HX0 := Lib.hid (heap_alloc_new w (.cells #[.slice none 0 0, .slice none 0 0, .slice none 0 0, .slice none 0 0, .int .i64 0, .int .i64 0, .slice none 0 0, .slice none 0 0, .slice none 0 0, .slice none 0 0] 26))
  have WI := Lib.hid (within_any v l _ (hv.below hb0) hl)
  have HB0 := Lib.hid hb0
  obtain ⟨o, cap, b, off, rfl, _, _, _, _⟩ := hv
  obtain ⟨n, hn⟩ : ∃ n, n = l.length := ⟨_, rfl⟩
  rw [← hn] at WI hl ⊢
  obtain ⟨x, hx⟩ : ∃ x, x = oo.cross := ⟨_, rfl⟩
  obtain ⟨y, hy⟩ : ∃ y, y = oo.flags := ⟨_, rfl⟩
  have HOC := Lib.hid (And.intro hx.symm hy.symm)
  have HRD := Lib.hid hrd
  clear hb0 hn hx hy hrd
  go_enter Try.func9, Try.ntmps9
  go_wp2_with (first
    | (go_at_call 18; (with_reducible refine WI.out.mono ?_); rintro e w1 ⟨R, rfl, hR⟩; have HW1 := Lib.hid (Nat.le_trans HB0.out.size hR.below.size); have RA := read_any _ R _ w1 hR; rw [HRD.out] at RA; simp only [HOC.out.1, HOC.out.2] at RA; have RA := Lib.hid RA; clear hR)
    | (go_at_call 19; (with_reducible refine RA.out.mono ?_); rintro e w2 ⟨s1, s2, s3, s4, t1, t2, t3, t4, rfl, hO, hR2, hS⟩; obtain ⟨o1, n1, c1, o2, n2, c2, o3, n3, c3, o4, n4, c4, q1, m1, d1, q2, m2, d2, q3, m3, d3, q4, m4, d4, rfl, rfl, rfl, rfl, rfl, rfl, rfl, rfl⟩ := obAt_slices (hO w2 ⟨Nat.le_refl _, fun _ _ _ => rfl⟩); unfold obCells; have HO := Lib.hid hO; have HR2 := Lib.hid hR2; have hX2 := (hR2.below.block _ (lt_of_heap HX0.out)).trans HX0.out; have hX3 := (Below.heap_alloc w2 (.cells #[.slice o1 n1 c1, .slice o2 n2 c2, .slice o3 n3 c3, .slice o4 n4 c4, .int .i64 x, .int .i64 y, .slice q1 m1 d1, .slice q2 m2 d2, .slice q3 m3 d3, .slice q4 m4 d4] 26) _ (lt_of_heap hX2)).trans hX2; have HX3 := Lib.hid hX3; obtain ⟨f0, f1, f2, f3, f4, f5, f6, f7, f8, f9⟩ := ten_frozen hX3; obtain ⟨g0, g1, g2, g3, g4, g5, g6, g7, g8, g9⟩ := ten_cells hX3; obtain ⟨rv, r0, r1, _, _⟩ := rd_cells (hR2.alloc (.cells #[.slice o1 n1 c1, .slice o2 n2 c2, .slice o3 n3 c3, .slice o4 n4 c4, .int .i64 x, .int .i64 y, .slice q1 m1 d1, .slice q2 m2 d2, .slice q3 m3 d3, .slice q4 m4 d4] 26)); simp only [lostB] at r1; obtain ⟨ro, rc, r00, hrl⟩ := rd_slice (hR2.alloc (.cells #[.slice o1 n1 c1, .slice o2 n2 c2, .slice o3 n3 c3, .slice o4 n4 c4, .int .i64 x, .int .i64 y, .slice q1 m1 d1, .slice q2 m2 d2, .slice q3 m3 d3, .slice q4 m4 d4] 26)); simp only [List.length_nil] at r00; clear r0 hrl; clear hO hR2 hS hX2 hX3))
  refine bodyPost_ret (results_two rfl _ ⟨w.heap.size, 0, none⟩ rfl (ten_end (ten_box HX3.out)) rfl) rfl ?_
  rw [objOf_end HRD.out]
  refine ⟨ten_below (HB0.out.trans ((HR2.out.below.alloc HR2.out.below.size _).mono HB0.out.size)) (Nat.le_refl _) _ _ _ _ _ _ _ _ _ _, .slice o1 n1 c1, .slice o2 n2 c2, .slice o3 n3 c3, .slice o4 n4 c4, .slice q1 m1 d1, .slice q2 m2 d2, .slice q3 m3 d3, .slice q4 m4 d4, by unfold obCells; rw [HOC.out.1, HOC.out.2]; rfl, HO.out _ ?_⟩
  have hw1 : w.heap.size < w1.heap.size + 2 := by have := HW1.out; omega
  exact Kp.trans ⟨by rw [World.size_alloc]; omega, fun k _ hk => Below.heap_alloc w2 _ k hk⟩ (ten_kp _ hw1 _ _ _ _ _ _ _ _ _ _)
theorem obj_any (v : Value) (l : List UInt8) (w : World) (hv : BytesAt w v l) (hl : l.length ≤ 1000000) :
    Calls Try.prog 9 #[v] w fun e w' => ObjPost w (objOf l) e w' := by
  rcases hrd : rdO (inside l) with ⟨oo, _ | _ | ⟨c, t⟩⟩
  · exact obj_lost v l w hv hl oo hrd
  · exact obj_end v l w hv hl oo hrd
  · exact obj_more v l w hv hl oo c t hrd
end Go.Proofs.Ytodblepbedhnnaa
