/- Rows of a call's own, read. -/
import Derived.Test.YtiilgehdkanmnaaAstAlive
import Derived.Test.YtiilgehdkanmnaaAstRefMayP
import Derived.Deep.RegionHeld3
import Derived.Deep.CutRange
import Derived.Outline
namespace Go.Proofs.Ytiilgehdkanmnaa
open Go.RowKit Go.Shelf

attribute [local go_sem] Oper.semAt_some

theorem ix_il {o : Option Addr} {n cap g : Nat} (h : 0 < n → o = some ⟨g, 0, none⟩) {j : Nat} (hj : j < n) (hn : n ≤ 9223372036854775807) : Ix 32 1 (.slice o n cap) g 0 j := by
  intro W
  rw [h (by omega)]
  have h1 : (j : Int) < (n : Int) := by omega
  have h2 : (j : Int) ≤ 9223372036854775807 := by omega
  go_simp
theorem own_sl {w : World} {base : Nat} {v : Value} {l : List Int} (h : w.ownsRow base 3 1 v l.length (l.map intV)) :
    ∃ o cap g, v = .slice o l.length cap ∧ (0 < l.length → o = some ⟨g, 0, none⟩) ∧ ∀ j, j < l.length → w.cell? ⟨g, j, none⟩ = some (.int .i64 (l.getD j 0)) := by
  rcases Nat.eq_zero_or_pos l.length with h0 | h0
  · have hl : l = [] := List.length_eq_zero_iff.1 h0
    subst hl
    rcases h.2 with ⟨rfl, _⟩ | ⟨g, cap, cur, rfl, _⟩
    · exact ⟨none, 0, 0, rfl, by simp, by simp⟩
    · exact ⟨some ⟨g, 0, none⟩, cap, g, rfl, fun _ => rfl, by simp⟩
  · obtain ⟨m, hm⟩ : ∃ m, l.length = m + 1 := ⟨l.length - 1, by omega⟩
    rw [hm] at h
    obtain ⟨g, cap, rfl⟩ := ownsRow_succ h
    refine ⟨some ⟨g, 0, none⟩, cap, g, by rw [hm], fun _ => rfl, fun j hj => ?_⟩
    have h2 := h.cells (g := g) rfl j (intV (l.getD j 0)) (by rw [List.getElem?_map, List.getElem?_eq_getElem hj, List.getD_eq_getElem?_getD, List.getElem?_eq_getElem hj]; rfl)
    have e : (⟨g, 0, none⟩ : Addr).add j = ⟨g, j, none⟩ := by unfold Addr.add; split <;> simp_all
    rw [e] at h2
    exact h2
end Go.Proofs.Ytiilgehdkanmnaa
