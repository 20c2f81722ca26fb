/- Lists of a call's own, read. -/
import Derived.Test.YtiilgehdkanmnaaRefTree
import Derived.Outline
import Derived.Deep.CutRange
namespace Go.Proofs.Ytiilgehdkanmnaa
open Go.RowKit Go.Shelf
open Classical

attribute [local go_sem] Oper.semAt_some

theorem toList_iff (a b : ByteArray) : a.toList = b.toList ↔ a = b := ⟨fun h => by rw [ByteArray.toList_eq, ByteArray.toList_eq] at h; exact ByteArray.ext (Array.toList_inj.1 h), fun h => h ▸ rfl⟩
theorem ix_strs {o : Option Addr} {n cap g : Nat} (h : 0 < n → o = some ⟨g, 0, none⟩) {j : Nat} (hj : j < n) (hn : n ≤ 9223372036854775807) : Ix 35 1 (.slice o n cap) g 0 j := by
  intro W
  rw [h (by omega)]
  have h1 : (j : Int) < (n : Int) := by omega
  have h2 : (j : Int) ≤ 9223372036854775807 := by omega
  go_simp
theorem own_elems {w : World} {base : Nat} {e : TypeId} {v : Value} {l : List Value} (h : w.ownsRow base e 1 v l.length l) :
    ∃ o cap g, v = .slice o l.length cap ∧ (0 < l.length → o = some ⟨g, 0, none⟩) ∧ ∀ j u, l[j]? = some u → w.cell? ⟨g, j, none⟩ = some u := by
  rcases Nat.eq_zero_or_pos l.length with h0 | h0
  · have hl : l = [] := List.length_eq_zero_iff.1 h0
    subst hl
    rcases h.2 with ⟨rfl, _⟩ | ⟨g, cap, cur, rfl, _⟩
    · exact ⟨none, 0, 0, rfl, by simp, by simp⟩
    · exact ⟨some ⟨g, 0, none⟩, cap, g, rfl, fun _ => rfl, by simp⟩
  · obtain ⟨m, hm⟩ : ∃ m, l.length = m + 1 := ⟨l.length - 1, by omega⟩
    rw [hm] at h
    obtain ⟨g, cap, rfl⟩ := ownsRow_succ h
    refine ⟨some ⟨g, 0, none⟩, cap, g, by rw [hm], fun _ => rfl, fun j u hj => ?_⟩
    have h2 := h.cells (g := g) rfl j u hj
    have e : (⟨g, 0, none⟩ : Addr).add j = ⟨g, j, none⟩ := by unfold Addr.add; split <;> simp_all
    rw [e] at h2
    exact h2
theorem own_strs {w : World} {base : Nat} {v : Value} {l : List ByteArray} (h : w.ownsRow base 9 1 v l.length (l.map Value.string)) :
    ∃ o cap g, v = .slice o l.length cap ∧ (0 < l.length → o = some ⟨g, 0, none⟩) ∧ ∀ j, j < l.length → w.cell? ⟨g, j, none⟩ = some (.string (l.getD j ByteArray.empty)) := by
  obtain ⟨o, cap, g, h1, h2, h3⟩ := own_elems (l := l.map Value.string) (by rw [List.length_map]; exact h)
  rw [List.length_map] at h1 h2
  exact ⟨o, cap, g, h1, h2, fun j hj => h3 j _ (by rw [List.getElem?_map, List.getElem?_eq_getElem hj, List.getD_eq_getElem?_getD, List.getElem?_eq_getElem hj]; rfl)⟩
theorem own_nats {w : World} {base : Nat} {v : Value} {l : List Nat} (h : w.ownsRow base 3 1 v l.length (l.map natV)) :
    ∃ o cap g, v = .slice o l.length cap ∧ (0 < l.length → o = some ⟨g, 0, none⟩) ∧ ∀ j, j < l.length → w.cell? ⟨g, j, none⟩ = some (.int .i64 ((l.getD j 0 : Nat) : Int)) := by
  obtain ⟨o, cap, g, h1, h2, h3⟩ := own_elems (l := l.map natV) (by rw [List.length_map]; exact h)
  rw [List.length_map] at h1 h2
  exact ⟨o, cap, g, h1, h2, fun j hj => h3 j _ (by rw [List.getElem?_map, List.getElem?_eq_getElem hj, List.getD_eq_getElem?_getD, List.getElem?_eq_getElem hj]; rfl)⟩
end Go.Proofs.Ytiilgehdkanmnaa
