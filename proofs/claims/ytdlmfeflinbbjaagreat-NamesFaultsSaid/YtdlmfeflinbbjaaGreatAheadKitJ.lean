import Derived.Test.YtdlmfeflinbbjaaGreatAstKitJ
import Derived.Test.YtdlmfeflinbbjaaGreatMetMath
import Derived.Test.YtdlmfeflinbbjaaGreatOwnKit
namespace Go.Proofs.YtdlmfeflinbbjaaGreat
theorem may_part {p:Pr} (h:mayP p = true) {k:Nat} {x:Ex} (hx:p.exprs[k]? = some x):∀ z∈partsE x,0≤z∧z < (k:Int):=by
  unfold mayP at h
  rw [Bool.and_eq_true,List.all_eq_true] at h
  have h1:=h.1 k (List.mem_range.2 (List.getElem?_eq_some_iff.1 hx).1)
  unfold mayX at h1
  rw [hx] at h1
  replace h1:mayE x k = true:=h1
  intro z hz
  by_cases hc:0≤z∧z < (k:Int)
  · exact hc
  · have:=mayE_parts (i:=k) hz (by
      unfold partOk
      by_cases h0:0≤z
      · rw [decide_eq_false (show ¬ z < (k:Int) from fun h=>hc ⟨h0,h⟩)];simp
      · rw [decide_eq_false h0];rfl)
    rw [this] at h1;cases h1
theorem ahead_of {p:Pr} (h:mayP p = true):Ahead p:=by
  intro e z hz
  unfold partsN at hz
  cases hx:p.exprs[e]? with
  | none=>rw [hx] at hz;cases hz
  | some x =>
    rw [hx] at hz
    obtain ⟨y,hy,rfl⟩:=List.mem_map.1 hz
    have:=may_part h hx y hy
    omega
theorem parts_nat {p:Pr} (h:mayP p = true) {k:Nat} {x:Ex} (hx:p.exprs[k]? = some x):(partsE x).map intV = (partsN p k).map natV:=by
  unfold partsN
  rw [hx]
  show _ = ((partsE x).map Int.toNat).map natV
  rw [List.map_map]
  apply List.map_congr_left
  intro z hz
  have:=may_part h hx z hz
  show Value.int .i64 z = Value.int .i64 ((z.toNat:Nat):Int)
  rw [Int.toNat_of_nonneg this.1]
end Go.Proofs.YtdlmfeflinbbjaaGreat
