/- The keys of ast.classifier's maps. -/
import Derived.Test.YtiilgehdkanmnaaNamesKit
import Derived.DeepKeys4
namespace Go.Proofs.Ytiilgehdkanmnaa
open Go.RowKit Go.Shelf Go.Maps

theorem laidOutP : laidOutB Try.prog = true := by kernel_rfl
theorem head_keyed : Keyed Try.prog 78 := Keyed.of_law (deep_law_laid laidOutP (m := 5) (by omega) (of_decide_eq_true (by kernel_rfl)) (by kernel_rfl) (by rw [Try.underlying78]))
theorem link_keyed : Keyed Try.prog 81 := Keyed.of_law (deep_law_laid laidOutP (m := 5) (by omega) (of_decide_eq_true (by kernel_rfl)) (by kernel_rfl) (by rw [Try.underlying81]))
theorem two_more : ∃ d, Try.prog.types.size + 1 = d + 2 := ⟨Try.prog.types.size - 1, by
  have h : 1 ≤ Try.prog.types.size := of_decide_eq_true (by kernel_rfl)
  omega⟩
theorem i64_wf {n : Int} (h : i64ok n) : (Lit.int .i64 n).wf = true := by
  unfold i64ok at h
  simp [Lit.wf, IntKind.min, IntKind.max, IntKind.signed, IntKind.bits]
  omega
def linkV (c z : Nat) : Value := .agg #[.int .i64 (c : Int), .int .i64 (z : Int)]
theorem link_key (c z : Nat) (hc : c ≤ 1000000) (hz : z ≤ 1000000) : ∃ l, keyOf Try.prog 81 (linkV c z) = some l := by
  have h1 : (Lit.int .i64 (c : Int)).wf = true := i64_wf ⟨by omega, by omega⟩
  have h2 : (Lit.int .i64 (z : Int)).wf = true := i64_wf ⟨by omega, by omega⟩
  have hk : Try.prog.keyType 81 = true := by kernel_rfl
  have hl : Try.prog.cellsOf 81 = 2 := by kernel_rfl
  have hi : Try.prog.cellsOf 3 = 1 := by kernel_rfl
  obtain ⟨d, hs⟩ := two_more
  refine ⟨.string (keyBytes [.int .i64 (c : Int), .int .i64 (z : Int)]), ?_⟩
  unfold keyOf linkV
  simp only [Try.underlying81, hk, Value.formed, hl, Bool.true_and]
  rw [hs]
  simp [Program.keyLits, Try.underlying81, Try.underlying3, hl, hi, h1, h2, Value.cells]
def headV (x : Ex) : Value := .agg #[.int .i64 x.kind, .string x.name, .string x.state, .int .i64 x.v]
theorem head_key (x : Ex) (hx : ExOk x) : ∃ l, keyOf Try.prog 78 (headV x) = some l := by
  have h1 := i64_wf hx.kind
  have h2 := i64_wf hx.v
  have h3 : x.name.size ≤ maxLen := by have := hx.name; unfold reachN at this; unfold maxLen; omega
  have h4 : x.state.size ≤ maxLen := by have := hx.state; unfold reachN at this; unfold maxLen; omega
  have hk : Try.prog.keyType 78 = true := by kernel_rfl
  have hl : Try.prog.cellsOf 78 = 4 := by kernel_rfl
  have hi : Try.prog.cellsOf 3 = 1 := by kernel_rfl
  have hj : Try.prog.cellsOf 2 = 1 := by kernel_rfl
  have hq : Try.prog.cellsOf 9 = 1 := by kernel_rfl
  obtain ⟨d, hs⟩ := two_more
  refine ⟨.string (keyBytes [.int .i64 x.kind, .string x.name.data.toList, .string x.state.data.toList, .int .i64 x.v]), ?_⟩
  unfold keyOf headV
  simp only [Try.underlying78, hk, Value.formed, hl, Bool.true_and]
  rw [hs]
  simp [Program.keyLits, Try.underlying78, Try.underlying3, Try.underlying2, Try.underlying9, hl, hi, hj, hq, h1, h2, h3, h4, Value.cells]
end Go.Proofs.Ytiilgehdkanmnaa
