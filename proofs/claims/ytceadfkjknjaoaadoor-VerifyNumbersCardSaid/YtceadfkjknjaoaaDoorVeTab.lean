/- verify.rowOf, row.parts, oneMore; the table in memory. -/
import Derived.Test.YtceadfkjknjaoaaDoorVeMath
import Derived.WalkKit
import Derived.Lib.Hide
import Derived.Lib.QuietBelow
import Derived.Deep.RegionLaw
import Derived.StillTailTactics
import Derived.BigQuiet
import Derived.RangeFuncBox
import Derived.RangeFuncNested
import Derived.RangeFuncBound
import Derived.RangeFuncCalls
import Derived.RangeFuncLeaves
namespace Go.Proofs.YtceadfkjknjaoaaDoor
open Go.RowKit Co

attribute [local go_sem] Oper.semAt_some

def rowC (r : VRow) : List Value := [.int .i64 r.d, .int .i64 r.a, .int .i64 r.b, .int .i64 r.c, .bool r.v, .int .u64 r.m]
def rowV (r : VRow) : Value := .agg #[.int .i64 r.d, .int .i64 r.a, .int .i64 r.b, .int .i64 r.c, .bool r.v, .int .u64 r.m]
def tabCells : Array Value := (tabR.flatMap rowC).toArray
/-- the table lies there -/
def TabAt (w : World) : Prop := ∃ T fr, w.heap[0]? = some (.cells tabCells T fr)
theorem TabAt.below {w w' : World} (h : TabAt w) (hb : Below w.heap.size w w') : TabAt w' := by
  obtain ⟨T, fr, h⟩ := h
  exact ⟨T, fr, (hb.block _ (Array.getElem?_eq_some_iff.1 h).1).trans h⟩
theorem flat_get {α : Type} {f : α → List Value} {k : Nat} (hf : ∀ x, (f x).length = k) : ∀ (l : List α) (i j : Nat) (x : α) (v : Value), l[i]? = some x → (f x)[j]? = some v → (l.flatMap f)[i * k + j]? = some v
  | [], _, _, _, _, h, _ => by simp at h
  | y :: l, 0, j, x, v, h, hv => by
    obtain rfl : y = x := by simpa using h
    rw [List.flatMap_cons, Nat.zero_mul, Nat.zero_add, List.getElem?_append_left (List.getElem?_eq_some_iff.1 hv).1]
    exact hv
  | y :: l, i + 1, j, x, v, h, hv => by
    have h' : l[i]? = some x := by simpa using h
    rw [List.flatMap_cons, List.getElem?_append_right (by rw [hf, Nat.add_mul]; omega), hf, show (i + 1) * k + j - k = i * k + j by rw [Nat.add_mul]; omega]
    exact flat_get hf l i j x v h' hv
theorem tab_cell {w : World} (h : TabAt w) {n : Nat} (hn : n < 23) {j : Nat} {v : Value} (hv : (rowC (rowR n))[j]? = some v) : w.cell? ⟨0, n * 6 + j, none⟩ = some v := by
  obtain ⟨T, fr, h⟩ := h
  have hl : tabR[n]? = some (tabR.getD n noRow) := by rw [List.getD_eq_getElem?_getD, List.getElem?_eq_getElem (show n < tabR.length from hn)]; rfl
  have hr : rowR (n : Int) = tabR.getD n noRow := by unfold rowR; rw [if_pos ⟨by omega, by omega⟩, Int.toNat_natCast]
  rw [hr] at hv
  have := flat_get (k := 6) (f := rowC) (fun _ => rfl) tabR n j _ v hl hv
  unfold World.cell?
  rw [h]
  show tabCells[n * 6 + j]? = some v
  unfold tabCells
  rw [List.getElem?_toArray]
  exact this
theorem lt_of_heap {w : World} {k : Nat} {o : Obj} (h : w.heap[k]? = some o) : k < w.heap.size := (Array.getElem?_eq_some_iff.1 h).1
theorem set_heap {W : World} {g : Nat} {cs : Array Value} {T : TypeId} {fr : Nat × Nat} (h : W.heap[g]? = some (.cells cs T fr)) (i : Nat) (v : Value) : (W.setCell ⟨g, i, none⟩ v).heap[g]? = some (.cells (cs.setIfInBounds i v) T fr) := by
  simp [World.setCell, Array.getElem?_modify, h]
theorem set_other {W : World} {g k i : Nat} {v : Value} (h : k ≠ g) : (W.setCell ⟨g, i, none⟩ v).heap[k]? = W.heap[k]? := Below.heap_setCell W ⟨g, i, none⟩ v k h
theorem results_cell {fn : Func} {t : Tmp} {ty : TypeId} {P : Program} {w : World} {v : Value} (h : fn.results = #[.cell t ty]) (tmps : Array Value) (a : Addr) (ha : tmps.getD t undef = .pointer (some a)) (hl : (loadVar ty a).run P w = .ok v w) : (results fn tmps).run P w = .ok v w := by
  have ha' : tmps[t]?.getD undef = .pointer (some a) := by simpa [Array.getD_eq_getD_getElem?] using ha
  simp [results, h, ha', hl, asAddr]
theorem six_box {W : World} {B : Nat} {T : TypeId} {v0 v1 v2 v3 v4 v5 u0 u1 u2 u3 u4 u5 : Value} (h : W.heap[B]? = some (.cells #[u0, u1, u2, u3, u4, u5] T (0, 0))) : ((((((W.setCell ⟨B, 0, none⟩ v0).setCell ⟨B, 1, none⟩ v1).setCell ⟨B, 2, none⟩ v2).setCell ⟨B, 3, none⟩ v3).setCell ⟨B, 4, none⟩ v4).setCell ⟨B, 5, none⟩ v5).heap[B]? = some (.cells #[v0, v1, v2, v3, v4, v5] T (0, 0)) := by
  have e : ((((((#[u0, u1, u2, u3, u4, u5] : Array Value).setIfInBounds 0 v0).setIfInBounds 1 v1).setIfInBounds 2 v2).setIfInBounds 3 v3).setIfInBounds 4 v4).setIfInBounds 5 v5 = #[v0, v1, v2, v3, v4, v5] := by simp
  rw [← e]
  exact set_heap (set_heap (set_heap (set_heap (set_heap (set_heap h 0 v0) 1 v1) 2 v2) 3 v3) 4 v4) 5 v5
theorem row_end {W : World} {B : Nat} {v0 v1 v2 v3 v4 v5 : Value} (h : W.heap[B]? = some (.cells #[v0, v1, v2, v3, v4, v5] 45 (0, 0))) : (loadVar 45 ⟨B, 0, none⟩).run Tryd.prog W = .ok (.agg #[v0, v1, v2, v3, v4, v5]) W :=
  run_loadVar_row _ _ _ _ _ _ _ h Tryd.underlying45 rfl (by kernel_rfl)
theorem six_below {w W : World} {n B : Nat} (h : Below n w W) (hB : n ≤ B) (v0 v1 v2 v3 v4 v5 : Value) : Below n w ((((((W.setCell ⟨B, 0, none⟩ v0).setCell ⟨B, 1, none⟩ v1).setCell ⟨B, 2, none⟩ v2).setCell ⟨B, 3, none⟩ v3).setCell ⟨B, 4, none⟩ v4).setCell ⟨B, 5, none⟩ v5) :=
  (((((h.setCell (p := ⟨B, 0, none⟩) hB _).setCell (p := ⟨B, 1, none⟩) hB _).setCell (p := ⟨B, 2, none⟩) hB _).setCell (p := ⟨B, 3, none⟩) hB _).setCell (p := ⟨B, 4, none⟩) hB _).setCell (p := ⟨B, 5, none⟩) hB _
set_option maxHeartbeats 8000000 in
set_option maxRecDepth 100000 in
theorem rowOf_in (n : Nat) (hn : (n : Int) ≤ 22) (d a b1 c m : Int) (v : Bool) (w : World) (h0 : w.cell? ⟨0, n * 6 + 0, none⟩ = some (.int .i64 d)) (h1 : w.cell? ⟨0, n * 6 + 1, none⟩ = some (.int .i64 a)) (h2 : w.cell? ⟨0, n * 6 + 2, none⟩ = some (.int .i64 b1)) (h3 : w.cell? ⟨0, n * 6 + 3, none⟩ = some (.int .i64 c)) (h4 : w.cell? ⟨0, n * 6 + 4, none⟩ = some (.bool v)) (h5 : w.cell? ⟨0, n * 6 + 5, none⟩ = some (.int .u64 m)) :
    Calls Tryd.prog 17 #[.int .i64 (n : Int)] w fun e w' => e = .returned (.agg #[.int .i64 d, .int .i64 a, .int .i64 b1, .int .i64 c, .bool v, .int .u64 m]) ∧ Below w.heap.size w w' := by
  have q0 : decide ((n : Int) < 0) = false := decide_eq_false (by omega)
  have q1 : decide ((23 : Int) ≤ (n : Int)) = false := decide_eq_false (by omega)
  have hb : Below w.heap.size w (w.alloc (.cells #[.int .i64 0, .int .i64 0, .int .i64 0, .int .i64 0, .bool false, .int .u64 0] 45)) := (Below.refl _ w).alloc (Nat.le_refl _) _
  have x0 := cell_on hb h0
  have x1 := cell_on hb h1
  have x2 := cell_on hb h2
  have x3 := cell_on hb h3
  have x4 := cell_on hb h4
  have x5 := cell_on hb h5
  rw [Nat.add_zero] at x0
  have HB := Lib.hid hb
  clear hb h0 h1 h2 h3 h4 h5
  go_enter Tryd.func17, Tryd.ntmps17
  go_wp2_with fail
  refine bodyPost_ret (results_cell rfl _ ⟨w.heap.size, 0, none⟩ rfl (row_end (World.alloc_heap_new w _))) rfl ⟨rfl, (Below.refl _ _).alloc (Nat.le_refl _) _⟩
set_option maxHeartbeats 8000000 in
set_option maxRecDepth 100000 in
theorem rowOf_low (n : Int) (hn : n < 0) (w : World) : Calls Tryd.prog 17 #[.int .i64 n] w fun e w' => e = .returned (rowV noRow) ∧ Below w.heap.size w w' := by
  have q0 : decide (n < 0) = true := decide_eq_true hn
  go_enter Tryd.func17, Tryd.ntmps17
  go_wp2_with fail
  refine bodyPost_ret (results_cell rfl _ ⟨w.heap.size, 0, none⟩ rfl (row_end (World.alloc_heap_new w _))) rfl ⟨rfl, (Below.refl _ _).alloc (Nat.le_refl _) _⟩
set_option maxHeartbeats 8000000 in
set_option maxRecDepth 100000 in
theorem rowOf_high (n : Int) (hn : 23 ≤ n) (w : World) : Calls Tryd.prog 17 #[.int .i64 n] w fun e w' => e = .returned (rowV noRow) ∧ Below w.heap.size w w' := by
  have q0 : decide (n < 0) = false := decide_eq_false (by omega)
  have q1 : decide (23 ≤ n) = true := decide_eq_true hn
  go_enter Tryd.func17, Tryd.ntmps17
  go_wp2_with fail
  refine bodyPost_ret (results_cell rfl _ ⟨w.heap.size, 0, none⟩ rfl (row_end (World.alloc_heap_new w _))) rfl ⟨rfl, (Below.refl _ _).alloc (Nat.le_refl _) _⟩
theorem rowOf_any (op : Int) (w : World) (hT : TabAt w) : Calls Tryd.prog 17 #[.int .i64 op] w fun e w' => e = .returned (rowV (rowR op)) ∧ Below w.heap.size w w' := by
  by_cases h : 0 ≤ op ∧ op < 23
  · obtain ⟨n, rfl⟩ : ∃ n : Nat, op = n := ⟨op.toNat, by omega⟩
    have hn : n < 23 := by omega
    exact rowOf_in n (by omega) _ _ _ _ _ _ w (tab_cell hT hn (j := 0) rfl) (tab_cell hT hn (j := 1) rfl) (tab_cell hT hn (j := 2) rfl) (tab_cell hT hn (j := 3) rfl) (tab_cell hT hn (j := 4) rfl) (tab_cell hT hn (j := 5) rfl)
  · have e : rowR op = noRow := by unfold rowR; rw [if_neg h]
    rw [e]
    by_cases h1 : op < 0
    · exact rowOf_low op h1 w
    · exact rowOf_high op (by omega) w
end Go.Proofs.YtceadfkjknjaoaaDoor
