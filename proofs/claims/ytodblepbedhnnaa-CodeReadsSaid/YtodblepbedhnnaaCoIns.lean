/- code.readIns: an instruction is read. -/
import Derived.Test.YtodblepbedhnnaaCoCount
namespace Go.Proofs.Ytodblepbedhnnaa
open Go.RowKit Co

attribute [local go_sem] Oper.semAt_some

theorem six_froz {W : World} {B : Nat} {a b c d e f : Value} {T : TypeId} (h : W.heap[B]? = some (.cells #[a, b, c, d, e, f] T (0, 0))) : (∀ j, W.frozen? ⟨B, j, none⟩ = false) ∧ W.cell? ⟨B, 0, none⟩ = some a ∧ W.cell? ⟨B, 1, none⟩ = some b ∧ W.cell? ⟨B, 2, none⟩ = some c ∧ W.cell? ⟨B, 3, none⟩ = some d ∧ W.cell? ⟨B, 4, none⟩ = some e ∧ W.cell? ⟨B, 5, none⟩ = some f :=
  ⟨fun j => by simp [World.frozen?, h], by simp [World.cell?, h], by simp [World.cell?, h], by simp [World.cell?, h], by simp [World.cell?, h], by simp [World.cell?, h], by simp [World.cell?, h]⟩
theorem six_box {W : World} {B : Nat} {T : TypeId} {v0 v1 v2 v3 v4 v5 u0 u1 u2 u3 u4 u5 : Value} (h : W.heap[B]? = some (.cells #[u0, u1, u2, u3, u4, u5] T (0, 0))) : ((((((W.setCell ⟨B, 0, none⟩ v0).setCell ⟨B, 1, none⟩ v1).setCell ⟨B, 2, none⟩ v2).setCell ⟨B, 3, none⟩ v3).setCell ⟨B, 4, none⟩ v4).setCell ⟨B, 5, none⟩ v5).heap[B]? = some (.cells #[v0, v1, v2, v3, v4, v5] T (0, 0)) := by
  have e : ((((((#[u0, u1, u2, u3, u4, u5] : Array Value).setIfInBounds 0 v0).setIfInBounds 1 v1).setIfInBounds 2 v2).setIfInBounds 3 v3).setIfInBounds 4 v4).setIfInBounds 5 v5 = #[v0, v1, v2, v3, v4, v5] := by simp
  rw [← e]
  exact set_heap (set_heap (set_heap (set_heap (set_heap (set_heap h 0 v0) 1 v1) 2 v2) 3 v3) 4 v4) 5 v5
theorem six_end {W : World} {B : Nat} {v0 v1 v2 v3 v4 v5 : Value} (h : W.heap[B]? = some (.cells #[v0, v1, v2, v3, v4, v5] 59 (0, 0))) : (loadVar 59 ⟨B, 0, none⟩).run Try.prog W = .ok (.agg #[v0, v1, v2, v3, v4, v5]) W :=
  run_loadVar_row _ _ _ _ _ _ _ h Try.underlying59 rfl (by kernel_rfl)
theorem Sm.own {R k i : Nat} {w w' : World} (h : Sm R w w') (hk : w.heap.size ≤ k) (v : Value) : Sm R w (w'.setCell ⟨k, i, none⟩ v) := ⟨by simp only [World.setCell, Array.size_modify]; exact h.size, fun j hj hR => (set_other (by omega)).trans (h.same j hj hR)⟩
/-- the boxes in readIns -/
structure InJ (w0 : World) (R : Nat) (s : St) (cs : Array Value) (w wr : World) : Prop where
  rd : Rd w0 R s wr
  res : wr.heap[w.heap.size]? = some (.cells #[.int .i64 0, .int .i64 0, .int .i64 0, .int .i64 0, .int .i64 0, .int .i64 0] 59 (0, 0))
  box : wr.heap[w.heap.size + 1]? = some (.cells cs 59 (0, 0))
  sm : Sm R w wr
theorem InJ.step {w0 w wr w1 : World} {R : Nat} {s s' : St} {cs : Array Value} (h : InJ w0 R s cs w wr) (hR : R < w.heap.size) (hl : w0.heap.size ≤ w.heap.size) (h1 : Rd w0 R s' w1) (h2 : Sm R wr w1) :
    w1.heap[w.heap.size + 1]? = some (.cells cs 59 (0, 0)) ∧ ∀ (i : Nat) (v : Value), InJ w0 R s' (cs.setIfInBounds i v) w (w1.setCell ⟨w.heap.size + 1, i, none⟩ v) := by
  have hb := (h2.same _ (lt_of_heap h.box) (by omega)).trans h.box
  have hr := (h2.same _ (lt_of_heap h.res) (by omega)).trans h.res
  exact ⟨hb, fun i v => ⟨h1.other (by omega) (by omega) v, (set_other (by omega)).trans hr, set_heap hb i v, (h.sm.trans h2).own (by omega) v⟩⟩
theorem inJ_start {w0 w : World} {R : Nat} {s : St} (h : Rd w0 R s w) {z : Array Value} : InJ w0 R s z w ((w.alloc (.cells #[.int .i64 0, .int .i64 0, .int .i64 0, .int .i64 0, .int .i64 0, .int .i64 0] 59)).alloc (.cells z 59)) := by
  have z1 : (w.alloc (.cells #[.int .i64 0, .int .i64 0, .int .i64 0, .int .i64 0, .int .i64 0, .int .i64 0] 59)).heap.size = w.heap.size + 1 := World.size_alloc _ _
  refine ⟨(h.alloc _).alloc _, ?_, ?_, (Sm.alloc R w _).trans (Sm.alloc R _ _)⟩
  · rw [Below.heap_alloc _ _ _ (by rw [z1]; omega)]; exact heap_alloc_new w _
  · have h1 := heap_alloc_new (w.alloc (.cells #[.int .i64 0, .int .i64 0, .int .i64 0, .int .i64 0, .int .i64 0, .int .i64 0] 59)) (.cells z 59)
    rw [z1] at h1
    exact h1
def insC (s : St) : Nat → Array Value
  | 0 => #[.int .i64 0, .int .i64 0, .int .i64 0, .int .i64 0, .int .i64 0, .int .i64 0]
  | 1 => #[.int .i64 (num s).1, .int .i64 0, .int .i64 0, .int .i64 0, .int .i64 0, .int .i64 0]
  | 2 => #[.int .i64 (num s).1, .int .i64 (num (num s).2).1, .int .i64 0, .int .i64 0, .int .i64 0, .int .i64 0]
  | 3 => #[.int .i64 (num s).1, .int .i64 (num (num s).2).1, .int .i64 (num (num (num s).2).2).1, .int .i64 0, .int .i64 0, .int .i64 0]
  | 4 => #[.int .i64 (num s).1, .int .i64 (num (num s).2).1, .int .i64 (num (num (num s).2).2).1, .int .i64 (num (num (num (num s).2).2).2).1, .int .i64 0, .int .i64 0]
  | _ => #[.int .i64 (num s).1, .int .i64 (num (num s).2).1, .int .i64 (num (num (num s).2).2).1, .int .i64 (num (num (num (num s).2).2).2).1, .int .i64 (num (num (num (num (num s).2).2).2).2).1, .int .i64 0]
def insS (s : St) : Nat → St
  | 0 => s
  | n + 1 => (num (insS s n)).2
/-- an instruction as a value -/
def sixV (x : Six) : Array Value := #[.int .i64 x.op, .int .i64 x.d, .int .i64 x.a, .int .i64 x.b, .int .i64 x.c, .int .i64 x.v]
set_option maxHeartbeats 16000000 in
set_option maxRecDepth 100000 in
theorem rins_any (w0 : World) (R : Nat) (s : St) (w : World) (h : Rd w0 R s w) :
    Calls Try.prog 46 #[.pointer (some ⟨R, 0, none⟩)] w fun e w' => e = .returned (.agg (sixV (six s).1)) ∧ Rd w0 R (six s).2 w' ∧ Sm R w w' := by
  have HRL := Lib.hid h.lt
  have HWL := Lib.hid h.below.size
  have HST := Lib.hid (inJ_start (z := #[.int .i64 0, .int .i64 0, .int .i64 0, .int .i64 0, .int .i64 0, .int .i64 0]) h)
  clear h
  go_enter Try.func46, Try.ntmps46
  go_wp2_with fail
  go_loopw [12] (fun i wr => ∃ c : Nat, i = .int .i64 (c : Int) ∧ c ≤ 5 ∧ Hid (InJ w0 R (insS s c) (insC s c) w wr)) (fun i _ => match i with | .int _ z => 5 - z.toNat | _ => 0)
  case atStart => exact ⟨0, rfl, by omega, HST⟩
  case round =>
    obtain ⟨c, rfl, hc, hJ⟩ := hrel
    rcases Nat.lt_or_ge c 5 with hlt | hge
    · obtain ⟨x, hx⟩ : ∃ x, x = (num (insS s c)).1 := ⟨_, rfl⟩
      have C := Lib.hid (rnum_int w0 R (insS s c) wr hJ.out.rd)
      rw [← hx] at C
      have HX := Lib.hid hx
      clear hx
      rcases (show c = 0 ∨ c = 1 ∨ c = 2 ∨ c = 3 ∨ c = 4 by omega) with rfl | rfl | rfl | rfl | rfl
      · have ix := Lib.hid (run_index_agg (cs := #[.pointer (some ⟨w.heap.size + 1, 0, none⟩), .pointer (some ⟨w.heap.size + 1, 1, none⟩), .pointer (some ⟨w.heap.size + 1, 2, none⟩), .pointer (some ⟨w.heap.size + 1, 3, none⟩), .pointer (some ⟨w.heap.size + 1, 4, none⟩)]) Try.underlying93 Try.sizeOf84 Try.isAgg84 (c := 0) (by omega) rfl wr)
        go_wp2_with (first | (refine wpList_index _ rfl _ (.tmp 11) (.tmp 12) rfl _ _ _ rfl rfl ix.out ?_) | (go_at_call 42; (with_reducible refine C.out.mono ?_); rintro e w1 ⟨rfl, h2, h3⟩; have HS := Lib.hid (hJ.out.step HRL.out HWL.out h2 h3); obtain ⟨g0, e0, e1, e2, e3, e4, e5⟩ := six_froz HS.out.1; have g1 := g0 0; clear h2 h3 g0))
        refine ⟨⟨1, rfl, by omega, ?_⟩, by simp⟩
        have hf := HS.out.2 0 (.int .i64 x)
        have he : (insC s 0).setIfInBounds 0 (.int .i64 x) = insC s 1 := by rw [HX.out]; rfl
        rw [he] at hf
        exact Lib.hid hf
      · have ix := Lib.hid (run_index_agg (cs := #[.pointer (some ⟨w.heap.size + 1, 0, none⟩), .pointer (some ⟨w.heap.size + 1, 1, none⟩), .pointer (some ⟨w.heap.size + 1, 2, none⟩), .pointer (some ⟨w.heap.size + 1, 3, none⟩), .pointer (some ⟨w.heap.size + 1, 4, none⟩)]) Try.underlying93 Try.sizeOf84 Try.isAgg84 (c := 1) (by omega) rfl wr)
        go_wp2_with (first | (refine wpList_index _ rfl _ (.tmp 11) (.tmp 12) rfl _ _ _ rfl rfl ix.out ?_) | (go_at_call 42; (with_reducible refine C.out.mono ?_); rintro e w1 ⟨rfl, h2, h3⟩; have HS := Lib.hid (hJ.out.step HRL.out HWL.out h2 h3); obtain ⟨g0, e0, e1, e2, e3, e4, e5⟩ := six_froz HS.out.1; have g1 := g0 1; clear h2 h3 g0))
        refine ⟨⟨2, rfl, by omega, ?_⟩, by simp⟩
        have hf := HS.out.2 1 (.int .i64 x)
        have he : (insC s 1).setIfInBounds 1 (.int .i64 x) = insC s 2 := by rw [HX.out]; rfl
        rw [he] at hf
        exact Lib.hid hf
      · have ix := Lib.hid (run_index_agg (cs := #[.pointer (some ⟨w.heap.size + 1, 0, none⟩), .pointer (some ⟨w.heap.size + 1, 1, none⟩), .pointer (some ⟨w.heap.size + 1, 2, none⟩), .pointer (some ⟨w.heap.size + 1, 3, none⟩), .pointer (some ⟨w.heap.size + 1, 4, none⟩)]) Try.underlying93 Try.sizeOf84 Try.isAgg84 (c := 2) (by omega) rfl wr)
        go_wp2_with (first | (refine wpList_index _ rfl _ (.tmp 11) (.tmp 12) rfl _ _ _ rfl rfl ix.out ?_) | (go_at_call 42; (with_reducible refine C.out.mono ?_); rintro e w1 ⟨rfl, h2, h3⟩; have HS := Lib.hid (hJ.out.step HRL.out HWL.out h2 h3); obtain ⟨g0, e0, e1, e2, e3, e4, e5⟩ := six_froz HS.out.1; have g1 := g0 2; clear h2 h3 g0))
        refine ⟨⟨3, rfl, by omega, ?_⟩, by simp⟩
        have hf := HS.out.2 2 (.int .i64 x)
        have he : (insC s 2).setIfInBounds 2 (.int .i64 x) = insC s 3 := by rw [HX.out]; rfl
        rw [he] at hf
        exact Lib.hid hf
      · have ix := Lib.hid (run_index_agg (cs := #[.pointer (some ⟨w.heap.size + 1, 0, none⟩), .pointer (some ⟨w.heap.size + 1, 1, none⟩), .pointer (some ⟨w.heap.size + 1, 2, none⟩), .pointer (some ⟨w.heap.size + 1, 3, none⟩), .pointer (some ⟨w.heap.size + 1, 4, none⟩)]) Try.underlying93 Try.sizeOf84 Try.isAgg84 (c := 3) (by omega) rfl wr)
        go_wp2_with (first | (refine wpList_index _ rfl _ (.tmp 11) (.tmp 12) rfl _ _ _ rfl rfl ix.out ?_) | (go_at_call 42; (with_reducible refine C.out.mono ?_); rintro e w1 ⟨rfl, h2, h3⟩; have HS := Lib.hid (hJ.out.step HRL.out HWL.out h2 h3); obtain ⟨g0, e0, e1, e2, e3, e4, e5⟩ := six_froz HS.out.1; have g1 := g0 3; clear h2 h3 g0))
        refine ⟨⟨4, rfl, by omega, ?_⟩, by simp⟩
        have hf := HS.out.2 3 (.int .i64 x)
        have he : (insC s 3).setIfInBounds 3 (.int .i64 x) = insC s 4 := by rw [HX.out]; rfl
        rw [he] at hf
        exact Lib.hid hf
      · have ix := Lib.hid (run_index_agg (cs := #[.pointer (some ⟨w.heap.size + 1, 0, none⟩), .pointer (some ⟨w.heap.size + 1, 1, none⟩), .pointer (some ⟨w.heap.size + 1, 2, none⟩), .pointer (some ⟨w.heap.size + 1, 3, none⟩), .pointer (some ⟨w.heap.size + 1, 4, none⟩)]) Try.underlying93 Try.sizeOf84 Try.isAgg84 (c := 4) (by omega) rfl wr)
        go_wp2_with (first | (refine wpList_index _ rfl _ (.tmp 11) (.tmp 12) rfl _ _ _ rfl rfl ix.out ?_) | (go_at_call 42; (with_reducible refine C.out.mono ?_); rintro e w1 ⟨rfl, h2, h3⟩; have HS := Lib.hid (hJ.out.step HRL.out HWL.out h2 h3); obtain ⟨g0, e0, e1, e2, e3, e4, e5⟩ := six_froz HS.out.1; have g1 := g0 4; clear h2 h3 g0))
        refine ⟨⟨5, rfl, by omega, ?_⟩, by simp⟩
        have hf := HS.out.2 4 (.int .i64 x)
        have he : (insC s 4).setIfInBounds 4 (.int .i64 x) = insC s 5 := by rw [HX.out]; rfl
        rw [he] at hf
        exact Lib.hid hf
    · obtain rfl : c = 5 := by omega
      have C := Lib.hid (rnum_int64 w0 R (insS s 5) wr hJ.out.rd)
      obtain ⟨x, hx⟩ : ∃ x, x = (num (insS s 5)).1 := ⟨_, rfl⟩
      rw [← hx] at C
      have HX := Lib.hid hx
      obtain ⟨y0, y1, y2, y3, y4, hy⟩ : ∃ y0 y1 y2 y3 y4 : Int, insC s 5 = #[.int .i64 y0, .int .i64 y1, .int .i64 y2, .int .i64 y3, .int .i64 y4, .int .i64 0] ∧ six s = (⟨y0, y1, y2, y3, y4, x⟩, (num (insS s 5)).2) := ⟨_, _, _, _, _, rfl, by rw [hx]; rfl⟩
      have HY := Lib.hid hy.2
      have hJ2 : Hid (InJ w0 R (insS s 5) #[.int .i64 y0, .int .i64 y1, .int .i64 y2, .int .i64 y3, .int .i64 y4, .int .i64 0] w wr) := by rw [← hy.1]; exact hJ
      clear hx hy hJ
      go_wp2_with (go_at_call 44; (with_reducible refine C.out.mono ?_); rintro e w1 ⟨rfl, h2, h3⟩; have HS := Lib.hid (hJ2.out.step HRL.out HWL.out h2 h3); have hb2 := (h3.same _ (lt_of_heap hJ2.out.res) (by have := HRL.out; omega)).trans hJ2.out.res; obtain ⟨g0, e0, e1, e2, e3, e4, e5⟩ := six_froz HS.out.1; have g1 := g0 5; obtain ⟨p0, r0, r1, r2, r3, r4, r5⟩ := six_froz hb2; have p1 := p0 0; have p2 := p0 1; have p3 := p0 2; have p4 := p0 3; have p5 := p0 4; have p6 := p0 5; have HB2 := Lib.hid hb2; clear h2 h3 hb2 g0 p0)
      have HF := HS.out.2 5 (.int .i64 x)
      refine bodyPost_ret (results_cell rfl _ ⟨w.heap.size, 0, none⟩ rfl (six_end (six_box ((set_other (by omega)).trans HB2.out)))) rfl ⟨?_, ?_, ?_⟩
      · rw [HY.out]; rfl
      · rw [HY.out]
        have hne : w.heap.size ≠ R := by have := HRL.out; omega
        have hl := HWL.out
        exact (((((HF.rd.other hne hl _).other hne hl _).other hne hl _).other hne hl _).other hne hl _).other hne hl _
      · have hl := Nat.le_refl w.heap.size
        exact (((((HF.sm.own hl _).own hl _).own hl _).own hl _).own hl _).own hl _
end Go.Proofs.Ytodblepbedhnnaa
