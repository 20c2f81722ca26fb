/- What the listed table gives: the signs. -/
import Derived.Test.YtpfmlfcaadnnpaaDoorBrBase
import Derived.Test.YtpfmlfcaadnnpaaDoorPost
import Derived.ProofKit
import Derived.OpenShut
import Derived.LaidMore
import Derived.Lay
import Derived.SevenTiedAt
import Derived.Stop.Joined
import Derived.Stop.LaidErr
import Derived.Lib.LaidU8
namespace Go.Proofs.YtpfmlfcaadnnpaaDoor.Lx
open Go.ChangeShapes Go.WideShapes Go.ChangeAt Go.RowKit

theorem own : ownKnob Tryd.prog.godebug = none := by kernel_rfl
theorem glob_signs : Tryd.prog.globalNamed "astrolabe/lex.signs" = some 0 := by kernel_rfl
theorem type_signs : (Tryd.prog.globals[0]?).map (·.type) = some 112 := by kernel_rfl
theorem bounds_of_wf {a : Int} (h : (Lit.int .i64 a).wf = true) : -9223372036854775808 ≤ a ∧ a ≤ 9223372036854775807 := by
  simp only [Lit.wf, IntKind.min, IntKind.max, IntKind.signed, IntKind.bits, Bool.and_eq_true, decide_eq_true_eq, if_true] at h
  omega
/-- an array of strings that reads as these texts holds them -/
theorem cells_of_texts {P : Program} {w : World} {fuel : Nat} {t e : TypeId} {n : Nat} {cs : List Value} {xs : List (List UInt8)} {p : List MemPlace}
    (ht : P.underlying t = some (.array n e)) (he : P.underlying e = some .string) (hce : P.cellsOf e = 1) (hct : P.cellsOf t = n)
    (h : DataW.trod (fun _ => ()) P w 0 (fun _ => true) false fuel t cs = some (.agg (xs.map fun x => .lit (.string x)), p)) : cs = xs.map fun x => Value.string (str x) := by
  cases fuel with
  | zero => simp [DataW.trod] at h
  | succ fuel =>
    simp only [DataW.trod, ht, hce, hct, Nat.mul_one] at h
    split at h
    · obtain ⟨ys, hm, hx⟩ := Option.map_eq_some_iff.1 h
      have hxs : ys.map (·.1) = xs.map fun x => (DataW.lit (.string x) : DataW Unit) := by
        have := congrArg Prod.fst hx
        simpa using this
      have hyl : ys.length = n := by simpa using Lib.mapM_length hm
      have hxl : xs.length = n := by
        have := congrArg List.length hxs
        simp at this
        omega
      rename_i hl
      apply List.ext_getElem?
      intro i
      by_cases hi : i < n
      · obtain ⟨b, hb, hf⟩ := Lib.mapM_at hm i i (by simp [hi])
        obtain ⟨s, hc, rfl, _⟩ := DataW.trod_string he hf
        have h1 : cs[i]? = some (.string s) := by
          have := congrArg (·[0]?) hc
          simpa [List.getElem?_take, List.getElem?_drop] using this
        have h2 : (ys.map (·.1))[i]? = some (DataW.lit (.string s.data.toList) : DataW Unit) := by simp [hb]
        rw [hxs] at h2
        simp only [List.getElem?_map, Option.map_eq_some_iff, DataW.lit.injEq, Lit.string.injEq] at h2
        obtain ⟨x, hx', h3⟩ := h2
        rw [h1, List.getElem?_map, hx', h3]
        simp [str]
      · rw [List.getElem?_eq_none (by omega), List.getElem?_eq_none (by simp; omega)]
    · cases h
theorem tab_of_laid {W : World} (h : laidMetH Tryd.prog [("astrolabe/lex.signs", Rows.laid_astrolabe_lex_signs)] W) : Signs W := by
  rw [MakeChecks.laidMetH_plain _ _ _ (by kernel_rfl)] at h
  obtain ⟨g', t', cs, fuel, p, hg', ht', hvar, hd⟩ := Lib.laidMet.reads h (n := "astrolabe/lex.signs") (d := Rows.laid_astrolabe_lex_signs) (by simp)
  obtain rfl := Option.some.inj (glob_signs.symm.trans hg')
  obtain rfl := Option.some.inj (type_signs.symm.trans ht')
  have hcs := cells_of_texts (xs := signsL) Tryd.underlying112 Tryd.underlying9 (by kernel_rfl) (by kernel_rfl) hd
  unfold World.var? at hvar
  rw [glob_signs, Option.bind_some] at hvar
  split at hvar
  · rename_i c T fr hh
    cases hvar
    refine ⟨T, fr, ?_⟩
    rw [hh]
    congr 2
    apply Array.toList_inj.1
    rw [hcs]
    simp [signCells]
  · cases hvar
end Go.Proofs.YtpfmlfcaadnnpaaDoor.Lx
