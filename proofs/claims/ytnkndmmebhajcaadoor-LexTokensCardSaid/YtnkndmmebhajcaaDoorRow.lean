/- A row of bytes of the call's own. -/
import Derived.Test.YtnkndmmebhajcaaDoorStrKit
import Derived.Test.YtnkndmmebhajcaaDoorReadMath
import Derived.Laws.MakeOwn
import Derived.Laws.OwnMore
import Derived.Laws.IdiomStrings
import Derived.Lib.ConvBytes
namespace Go.Proofs.YtnkndmmebhajcaaDoor
open Go.RowKit

/-- block B holds these bytes, and may be written -/
def Row (w : World) (B : Nat) (l : List UInt8) : Prop :=
  ∀ (j : Nat) (x : UInt8), l[j]? = some x → w.cell? ⟨B, j, none⟩ = some (.int .u8 (x.toNat : Int)) ∧ w.frozen? ⟨B, j, none⟩ = false
theorem row_made (w : World) (n : Nat) (T : TypeId) : Row (w.alloc (.cells (madeCells #[.int .u8 0] n) T)) w.heap.size (List.replicate n 0) := fun j x h => by
  refine ⟨?_, World.frozen?_alloc_new _ _ _ _⟩
  have hj : j < n := by have := (List.getElem?_eq_some_iff.1 h).1; simpa using this
  rw [World.cell?_alloc_new]
  have e : (madeCells #[Value.int .u8 0] n)[j]? = (List.replicate n (Value.int .u8 0))[j]? := by rw [← toList_madeCells_one, Array.getElem?_toList]
  rw [e, List.getElem?_replicate, if_pos hj]
  rw [List.getElem?_replicate, if_pos hj] at h
  cases h
  rfl
theorem row_cell {w : World} {B : Nat} {l : List UInt8} (h : Row w B l) {j : Nat} {x : UInt8} (hx : l[j]? = some x) : w.cell? ⟨B, j, none⟩ = some (.int .u8 (x.toNat : Int)) := (h j x hx).1
theorem row_frozen {w : World} {B : Nat} {l : List UInt8} (h : Row w B l) {j : Nat} {x : UInt8} (hx : l[j]? = some x) : w.frozen? ⟨B, j, none⟩ = false := (h j x hx).2
theorem row_set {w : World} {B : Nat} {l : List UInt8} (h : Row w B l) (j : Nat) (x : UInt8) (hj : j < l.length) : Row (w.setCell ⟨B, j, none⟩ (.int .u8 (x.toNat : Int))) B (l.set j x) := fun i y hy => by
  obtain ⟨x0, h0⟩ : ∃ x0, l[j]? = some x0 := ⟨l[j], List.getElem?_eq_getElem hj⟩
  refine ⟨?_, by
    rw [World.frozen?_setCell]
    exact (h i (l[i]'(by have := (List.getElem?_eq_some_iff.1 hy).1; simpa using this)) (List.getElem?_eq_getElem _)).2⟩
  by_cases e : i = j
  · subst e
    rw [World.cell?_setCell_same _ _ _ (h i x0 h0).1]
    rw [List.getElem?_set_self hj] at hy
    cases hy
    rfl
  · rw [World.cell?_setCell_other _ _ _ _ (by simp)]
    rw [List.getElem?_set_ne (Ne.symm e)] at hy
    exact (h i y hy).1
theorem row_far {w w' : World} {B : Nat} {l : List UInt8} (h : Row w B l) (hb : w'.heap[B]? = w.heap[B]?) : Row w' B l := fun j x hx =>
  ⟨(World.cell?_of_block (w := w) hb).trans (h j x hx).1, (World.frozen?_of_block (w := w) hb).trans (h j x hx).2⟩
theorem u8_info : ∃ i, Tryd.prog.info? 5 = some i ∧ i.zero = some (.int .u8 0) ∧ i.size = 1 ∧ i.bytes = 1 := by
  have h : (Tryd.prog.info? 5).map (fun i => (i.zero, i.size, i.bytes)) = some (some (.int .u8 0), 1, 1) := by kernel_rfl
  obtain ⟨i, h1, h2⟩ := Option.map_eq_some_iff.1 h
  simp only [Prod.mk.injEq] at h2
  exact ⟨i, h1, h2.1, h2.2.1, h2.2.2⟩
theorem make_row (N : Nat) (hN : (N : Int) ≤ 100) (w : World) : (Instr.makeSlice 53 (.int .i64 (N : Int)) (.int .i64 (N : Int))).run Tryd.prog w = .ok (.slice (some ⟨w.heap.size, 0, none⟩) N N) (w.alloc (.cells (madeCells #[.int .u8 0] N) 5)) := by
  obtain ⟨i, h1, h2, h3, h4⟩ := u8_info
  have h := run_makeSlice (P := Tryd.prog) w 53 5 i (.int .u8 0) Tryd.underlying53 h1 h2 .i64 .i64 (N : Int) (N : Int) (by omega) (by omega) (by rw [h3]; omega) (by rw [h4]; omega) (by omega)
  rw [h3] at h
  simpa [Value.cells] using h

end Go.Proofs.YtnkndmmebhajcaaDoor
