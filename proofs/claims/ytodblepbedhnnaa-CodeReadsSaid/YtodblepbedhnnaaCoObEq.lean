/- Are two objects the same? -/
import Derived.Test.YtodblepbedhnnaaCoSix
namespace Go.Proofs.Ytodblepbedhnnaa
open Go.RowKit Co
instance decOb : DecidableEq Ob := fun a b =>
  if h : a.inn = b.inn ∧ a.out = b.out ∧ a.state = b.state ∧ a.mem = b.mem ∧ a.cross = b.cross ∧ a.flags = b.flags ∧ a.deriv = b.deriv ∧ a.zero = b.zero ∧ a.step = b.step ∧ a.at_ = b.at_ then isTrue (by cases a; cases b; simp_all) else isFalse (fun e => h (by subst e; simp))
theorem decOb_and (a b : Ob) : decide (a = b) = (decide (a.inn = b.inn) && (decide (a.out = b.out) && (decide (a.state = b.state) && (decide (a.mem = b.mem) && ((a.cross == b.cross) && ((a.flags == b.flags) && (decide (a.deriv = b.deriv) && (decide (a.zero = b.zero) && (decide (a.step = b.step) && decide (a.at_ = b.at_)))))))))) := by
  rw [Bool.eq_iff_iff]
  simp only [decide_eq_true_eq, Bool.and_eq_true, beq_iff_eq]
  exact ⟨fun e => by subst e; simp, fun h => by cases a; cases b; simp_all⟩
theorem box_cells {W : World} {B : Nat} {a0 a1 a2 a3 a4 a5 a6 a7 a8 a9 : Value} {T : TypeId} (h : W.heap[B]? = some (.cells #[a0, a1, a2, a3, a4, a5, a6, a7, a8, a9] T (0, 0))) {Z : World} (hb : Below W.heap.size W Z) : Z.cell? ⟨B, 0, none⟩ = some a0 ∧ Z.cell? ⟨B, 1, none⟩ = some a1 ∧ Z.cell? ⟨B, 2, none⟩ = some a2 ∧ Z.cell? ⟨B, 3, none⟩ = some a3 ∧ Z.cell? ⟨B, 4, none⟩ = some a4 ∧ Z.cell? ⟨B, 5, none⟩ = some a5 ∧ Z.cell? ⟨B, 6, none⟩ = some a6 ∧ Z.cell? ⟨B, 7, none⟩ = some a7 ∧ Z.cell? ⟨B, 8, none⟩ = some a8 ∧ Z.cell? ⟨B, 9, none⟩ = some a9 :=
  ten_cells ((hb.block _ (lt_of_heap h)).trans h)
end Go.Proofs.Ytodblepbedhnnaa
