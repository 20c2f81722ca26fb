/- What the listed table gives: the rows. -/
import Derived.Test.YtceadfkjknjaoaaDoorVeTab
import Derived.Test.YtceadfkjknjaoaaDoorRows
import Derived.ProofKit
import Derived.OpenShut
import Derived.LaidMore
import Derived.Lay
import Derived.SevenTiedAt
import Derived.Stop.Joined
import Derived.Stop.LaidErr
import Derived.Lib.LaidU8
import Derived.Lib.LaidCase
namespace Go.Proofs.YtceadfkjknjaoaaDoor
open Go.ChangeShapes Go.WideShapes Go.ChangeAt Go.RowKit

theorem own : ownKnob Tryd.prog.godebug = none := by kernel_rfl
theorem glob_rows : Tryd.prog.globalNamed "astrolabe/verify.rows" = some 0 := by kernel_rfl
theorem type_rows : (Tryd.prog.globals[0]?).map (·.type) = some 61 := by kernel_rfl
def rowD (r : VRow) : DataW Unit := .agg [.lit (.int .i64 r.d), .lit (.int .i64 r.a), .lit (.int .i64 r.b), .lit (.int .i64 r.c), .lit (.bool r.v), .lit (.int .u64 r.m)]
theorem laid_rows : (Rows.laid_astrolabe_verify_rows : DataW Unit) = .agg (tabR.map rowD) := rfl
theorem row_of_reads {w : World} {fuel : Nat} {cs : List Value} {r : VRow} {p : List MemPlace} (h : DataW.trod (fun _ => ()) Tryd.prog w 0 (fun _ => true) false fuel 45 cs = some (rowD r, p)) : cs = rowC r := by
  obtain ⟨xs, n, rfl, hx, hl, hxl, hall⟩ := DataW.trod_struct Tryd.underlying45 h
  rw [show Tryd.prog.cellsOf 45 = 6 by kernel_rfl] at hl
  have hx3 : xs.map (·.1) = [.lit (.int .i64 r.d), .lit (.int .i64 r.a), .lit (.int .i64 r.b), .lit (.int .i64 r.c), .lit (.bool r.v), .lit (.int .u64 r.m)] := by
    have := congrArg Prod.fst hx
    simpa [rowD] using this.symm
  obtain ⟨x0, x1, x2, x3, x4, x5, rfl⟩ : ∃ x0 x1 x2 x3 x4 x5, xs = [x0, x1, x2, x3, x4, x5] := by
    match xs, hx3 with
    | [x0, x1, x2, x3, x4, x5], _ => exact ⟨x0, x1, x2, x3, x4, x5, rfl⟩
  simp only [List.map_cons, List.map_nil, List.cons.injEq, and_true] at hx3
  obtain ⟨e0, e1, e2, e3, e4, e5⟩ := hx3
  have f0 := hall 0 _ rfl
  have f1 := hall 1 _ rfl
  have f2 := hall 2 _ rfl
  have f3 := hall 3 _ rfl
  have f4 := hall 4 _ rfl
  have f5 := hall 5 _ rfl
  change DataW.trod _ _ _ _ _ _ _ 3 ((cs.drop 0).take 1) = some x0 at f0
  change DataW.trod _ _ _ _ _ _ _ 3 ((cs.drop 1).take 1) = some x1 at f1
  change DataW.trod _ _ _ _ _ _ _ 3 ((cs.drop 2).take 1) = some x2 at f2
  change DataW.trod _ _ _ _ _ _ _ 3 ((cs.drop 3).take 1) = some x3 at f3
  change DataW.trod _ _ _ _ _ _ _ 4 ((cs.drop 4).take 1) = some x4 at f4
  change DataW.trod _ _ _ _ _ _ _ 43 ((cs.drop 5).take 1) = some x5 at f5
  have gi : ∀ {k : Nat} {v : Int} {x : DataW Unit × List MemPlace}, DataW.trod (fun _ => ()) Tryd.prog w 0 (fun _ => true) false n 3 ((cs.drop k).take 1) = some x → x.1 = .lit (.int .i64 v) → cs[k]? = some (.int .i64 v) := fun hf he => by
    obtain ⟨z, hz, hx', _⟩ := DataW.trod_int Tryd.underlying3 hf
    rw [hx'] at he
    cases he
    exact at_of_take hz
  have g0 := gi f0 e0
  have g1 := gi f1 e1
  have g2 := gi f2 e2
  have g3 := gi f3 e3
  have g4 : cs[4]? = some (.bool r.v) := by
    obtain ⟨z, hz, hx'⟩ := DataW.trod_bool Tryd.underlying4 f4
    rw [hx'] at e4
    cases e4
    exact at_of_take hz
  have g5 : cs[5]? = some (.int .u64 r.m) := by
    obtain ⟨z, hz, hx', _⟩ := DataW.trod_int Tryd.underlying43 f5
    rw [hx'] at e5
    cases e5
    exact at_of_take hz
  match cs, hl, g0, g1, g2, g3, g4, g5 with
  | [c0, c1, c2, c3, c4, c5], _, g0, g1, g2, g3, g4, g5 =>
    simp at g0 g1 g2 g3 g4 g5
    subst g0 g1 g2 g3 g4 g5
    rfl
theorem flat_len {α : Type} {f : α → List Value} {k : Nat} (hf : ∀ x, (f x).length = k) : ∀ (l : List α), (l.flatMap f).length = l.length * k
  | [] => by simp
  | x :: l => by rw [List.flatMap_cons, List.length_append, hf, flat_len hf l, List.length_cons, Nat.add_mul]; omega
theorem cells_of_rows {w : World} {fuel : Nat} {cs : List Value} {p : List MemPlace} (h : DataW.trod (fun _ => ()) Tryd.prog w 0 (fun _ => true) false fuel 61 cs = some (.agg (tabR.map rowD), p)) (hl : cs.length = 138) : cs = tabR.flatMap rowC := by
  have hfl : (tabR.flatMap rowC).length = 138 := by rw [flat_len (k := 6) (fun _ => rfl)]; rfl
  apply List.ext_getElem?
  intro k
  by_cases hk : k < 138
  · have hi : k / 6 < 23 := by omega
    have hj : k % 6 < 6 := Nat.mod_lt _ (by omega)
    have hkk : k = k / 6 * 6 + k % 6 := by omega
    obtain ⟨fuel', d, q, hd, ht⟩ := Lib.array_elem Tryd.underlying61 h (k / 6) hi
    rw [show Tryd.prog.cellsOf 45 = 6 by kernel_rfl] at ht
    obtain ⟨r, hr, rfl⟩ : ∃ r, tabR[k / 6]? = some r ∧ rowD r = d := by
      rw [List.getElem?_map] at hd
      obtain ⟨r, hr, e⟩ := Option.map_eq_some_iff.1 hd
      exact ⟨r, hr, e⟩
    have hrow := row_of_reads ht
    obtain ⟨v, hv⟩ : ∃ v, (rowC r)[k % 6]? = some v := ⟨_, List.getElem?_eq_getElem (show k % 6 < (rowC r).length from hj)⟩
    have h1 := flat_get (k := 6) (f := rowC) (fun _ => rfl) tabR (k / 6) (k % 6) r v hr hv
    rw [← hkk] at h1
    rw [h1]
    have h2 : ((cs.drop (k / 6 * 6)).take 6)[k % 6]? = some v := by rw [hrow]; exact hv
    rw [List.getElem?_take, if_pos hj, List.getElem?_drop, ← hkk] at h2
    exact h2
  · rw [List.getElem?_eq_none (by omega), List.getElem?_eq_none (by omega)]
theorem trod_len {w : World} {fuel : Nat} {cs : List Value} {d : DataW Unit} {p : List MemPlace} (h : DataW.trod (fun _ => ()) Tryd.prog w 0 (fun _ => true) false fuel 61 cs = some (d, p)) : cs.length = 138 := by
  cases fuel with
  | zero => simp [DataW.trod] at h
  | succ fuel =>
    simp only [DataW.trod, Tryd.underlying61, show Tryd.prog.cellsOf 61 = 138 by kernel_rfl] at h
    split at h
    · assumption
    · cases h
theorem tab_of_laid {W : World} (h : laidMetH Tryd.prog [("astrolabe/verify.rows", Rows.laid_astrolabe_verify_rows)] W) : TabAt W := by
  rw [MakeChecks.laidMetH_plain _ _ _ (by kernel_rfl)] at h
  obtain ⟨g', t', cs, fuel, p, hg', ht', hvar, hd⟩ := Lib.laidMet.reads h (n := "astrolabe/verify.rows") (d := Rows.laid_astrolabe_verify_rows) (by simp)
  obtain rfl := Option.some.inj (glob_rows.symm.trans hg')
  obtain rfl := Option.some.inj (type_rows.symm.trans ht')
  rw [laid_rows] at hd
  have hcs := cells_of_rows hd (trod_len hd)
  unfold World.var? at hvar
  rw [glob_rows, Option.bind_some] at hvar
  split at hvar
  · rename_i c T fr hh
    cases hvar
    refine ⟨T, fr, ?_⟩
    rw [hh]
    congr 2
    apply Array.toList_inj.1
    rw [hcs]
    simp [tabCells]
  · cases hvar
end Go.Proofs.YtceadfkjknjaoaaDoor
