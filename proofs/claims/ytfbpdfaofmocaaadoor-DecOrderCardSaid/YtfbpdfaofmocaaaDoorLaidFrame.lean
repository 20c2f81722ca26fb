/- What the listed tables give: the powers of ten. -/
import Derived.Test.YtfbpdfaofmocaaaDoorFormatUint
import Derived.Test.YtfbpdfaofmocaaaDoorPost
import Derived.ProofKit
import Derived.OpenShut
import Derived.LaidMore
import Derived.Lay
import Derived.SevenTiedAt
import Derived.Stop.Joined
import Derived.Stop.LaidErr
namespace Go.Proofs.YtfbpdfaofmocaaaDoor
open Go.ChangeShapes Go.WideShapes Go.ChangeAt Go.RowKit

theorem own : ownKnob Tryd.prog.godebug = none := by kernel_rfl
theorem bounds_of_wf {a : Int} (h : (Lit.int .i64 a).wf = true) : -9223372036854775808 ≤ a ∧ a ≤ 9223372036854775807 := by
  simp only [Lit.wf, IntKind.min, IntKind.max, IntKind.signed, IntKind.bits, Bool.and_eq_true, decide_eq_true_eq, if_true] at h
  omega
theorem tab_of_laid {W : World} (h : laidMetH Tryd.prog Rows.decBackRow.laid W) : Tab W := by
  rw [MakeChecks.laidMetH_plain _ _ _ (by kernel_rfl)] at h
  have h2 := laidMet.tail (laidMet.tail h)
  exact Lib.tabIs_of_head (k := .u64) (zs := Lib.pow10Tab) (t := 80) (e := 33) (n := 20) glob_pow (by kernel_rfl) Tryd.underlying80 Tryd.underlying33 (by kernel_rfl) (by kernel_rfl) h2
end Go.Proofs.YtfbpdfaofmocaaaDoor
