/- What the walk of met keeps in memory. -/
import Derived.Test.YtiilgehdkanmnaaMetMath
import Derived.Test.YtiilgehdkanmnaaAstDeep
namespace Go.Proofs.Ytiilgehdkanmnaa
open Go.RowKit Go.Shelf

theorem setCells_heap (g : Nat) (T : TypeId) : ∀ (vs : List Value) (o : Nat) (X : World) (cur : Array Value), X.heap[g]? = some (.cells cur T (0, 0)) → o + vs.length ≤ cur.size →
    ∃ cur' : Array Value, (X.setCells g o vs).heap[g]? = some (.cells cur' T (0, 0)) ∧ cur'.toList = cur.toList.take o ++ vs ++ cur.toList.drop (o + vs.length)
  | [], o, X, cur, h, _ => ⟨cur, h, by simp⟩
  | v :: vs, o, X, cur, h, hl => by
    simp only [List.length_cons] at hl
    obtain ⟨cur', h1, h2⟩ := setCells_heap g T vs (o + 1) (X.setCell ⟨g, o, none⟩ v) _ (set_heap h o v) (by rw [Array.size_setIfInBounds]; omega)
    refine ⟨cur', h1, ?_⟩
    rw [h2, Array.toList_setIfInBounds, List.length_cons, List.drop_set_of_lt (by omega), show o + 1 + vs.length = o + (vs.length + 1) by omega]
    have ho : o < cur.toList.length := by rw [Array.length_toList]; omega
    have : (cur.toList.set o v).take (o + 1) = cur.toList.take o ++ [v] := by
      rw [List.take_succ_eq_append_getElem (by rw [List.length_set]; exact ho), List.getElem_set_self, List.take_set_of_le (Nat.le_refl o)]
    rw [this]; simp
theorem setCells_size (g : Nat) : ∀ (vs : List Value) (o : Nat) (X : World), (X.setCells g o vs).heap.size = X.heap.size
  | [], _, _ => rfl
  | _ :: vs, o, X => (setCells_size g vs (o + 1) _).trans (show (X.heap.modify g _).size = _ from Array.size_modify ..)
theorem setCells_other (g k : Nat) (hk : k ≠ g) : ∀ (vs : List Value) (o : Nat) (X : World), (X.setCells g o vs).heap[k]? = X.heap[k]?
  | [], _, _ => rfl
  | v :: vs, o, X => (setCells_other g k hk vs (o + 1) _).trans (set_other X g k o v hk)
def natV (z : Nat) : Value := .int .i64 (z : Int)
/-- what is written by another, while the walk goes on -/
structure Aside (M : Nat → Prop) (rw : World → Option Nat) (w : World) : Prop where
  old : ∀ k, M k → k < w.heap.size
  row : ∀ k, rw w = some k → k < w.heap.size
  same : ∀ X Y : World, (∀ k, k < w.heap.size → Y.heap[k]? = X.heap[k]?) → rw Y = rw X
/-- the marks of those that are met, in block s0, and the stack, its top at the end -/
structure MetMem (M : Nat → Prop) (rw : World → Option Nat) (w : World) (s0 e : Nat) (S L : List Nat) (v : Value) (X : World) : Prop where
  hs0 : w.heap.size ≤ s0
  size : s0 < X.heap.size
  base : ∀ k, k < w.heap.size → ¬ M k → rw w ≠ some k → X.heap[k]? = w.heap[k]?
  rown : RowNew rw w (s0 + 1) X
  rlt : ∀ k, rw X = some k → k < X.heap.size
  seen : ∃ cs : Array Value, X.heap[s0]? = some (.cells cs 4 (0, 0)) ∧ cs.size = e + 1 ∧ ∀ j, j < e + 1 → cs[j]? = some (.bool (decide (j ∈ S)))
  left : X.ownsRow (s0 + 1) 3 1 v L.length (L.map natV)
  lrow : ∀ g, v.ownBlock = some g → rw X ≠ some g
theorem own_lt {X : World} {base sz k : Nat} {T : TypeId} {v : Value} {xs : List Value} (h : X.ownsRow base T sz v k xs) {g : Nat} (hg : v.ownBlock = some g) : base ≤ g ∧ ∃ cur : Array Value, X.heap[g]? = some (.cells cur T (0, 0)) := by
  rcases h.2 with ⟨rfl, _⟩ | ⟨g', cap, cur, rfl, hb, hgb, _⟩
  · simp [Value.ownBlock] at hg
  · have : g' = g := by simpa [Value.ownBlock] using hg
    subst this; exact ⟨hb, cur, hgb⟩
theorem own_same {X Y : World} {base sz k : Nat} {T : TypeId} {v : Value} {xs : List Value} (h : X.ownsRow base T sz v k xs) (hs : ∀ g, v.ownBlock = some g → Y.heap[g]? = X.heap[g]?) : Y.ownsRow base T sz v k xs := by
  refine ⟨h.1, ?_⟩
  rcases h.2 with h1 | ⟨g, cap, cur, rfl, hb, hgb, hr⟩
  · exact .inl h1
  · exact .inr ⟨g, cap, cur, rfl, hb, (hs g rfl).trans hgb, hr⟩
namespace MetMem
variable {M : Nat → Prop} {rw : World → Option Nat} {w : World} {s0 e : Nat} {S L : List Nat} {v : Value} {X Y : World}
theorem row_s0 (h : MetMem M rw w s0 e S L v X) (ha : Aside M rw w) : rw X ≠ some s0 := fun hk => by
  rcases h.rown _ hk with h1 | h1
  · have := ha.row _ h1; have := h.hs0; omega
  · omega
/-- another wrote -/
theorem keep (h : MetMem M rw w s0 e S L v X) (ha : Aside M rw w) (hk : KeepM M rw w.heap.size X Y) : MetMem M rw w s0 e S L v Y := by
  have hs0 := h.hs0
  have hsz := h.size
  have hsame : ∀ k, k < X.heap.size → rw X ≠ some k → w.heap.size ≤ k → (∃ o, X.heap[k]? = some o ∧ o.isCells = true) → Y.heap[k]? = X.heap[k]? := fun k h1 h2 h3 h4 =>
    hk.2.1 k h1 (fun hm => by have := ha.old _ hm; omega) h2 (.inr h4)
  have hrow := h.row_s0 ha
  refine ⟨hs0, Nat.lt_of_lt_of_le hsz hk.1, fun k h1 h2 h3 => ?_, h.rown.keep hsz hk, fun k h1 => ?_, ?_, ?_, fun g h1 h2 => ?_⟩
  · refine (hk.2.1 k (by omega) h2 (fun hr => ?_) (.inl h1)).trans (h.base k h1 h2 h3)
    rcases h.rown _ hr with h4 | h4
    · exact h3 h4
    · omega
  · rcases hk.2.2 k h1 with h2 | h2
    · exact Nat.lt_of_lt_of_le (h.rlt k h2) hk.1
    · exact h2.2
  · obtain ⟨cs, h1, h2⟩ := h.seen
    exact ⟨cs, (hsame s0 hsz hrow hs0 ⟨_, h1, rfl⟩).trans h1, h2⟩
  · refine own_same h.left fun g hg => ?_
    obtain ⟨h1, cur, h2⟩ := own_lt h.left hg
    exact hsame g (Array.getElem?_eq_some_iff.1 h2).1 (h.lrow g hg) (by omega) ⟨_, h2, rfl⟩
  · obtain ⟨_, cur, h4⟩ := own_lt h.left h1
    have hlt := (Array.getElem?_eq_some_iff.1 h4).1
    rcases hk.2.2 g h2 with h3 | h3
    · exact h.lrow g h1 h3
    · omega
/-- nothing of what lay there is another -/
theorem same (h : MetMem M rw w s0 e S L v X) (ha : Aside M rw w) (hs : X.heap.size ≤ Y.heap.size) (hb : ∀ k, k < X.heap.size → Y.heap[k]? = X.heap[k]?) : MetMem M rw w s0 e S L v Y := by
  have hs0 := h.hs0
  have hsz := h.size
  have hr : rw Y = rw X := ha.same X Y fun k hk => hb k (by omega)
  refine ⟨hs0, Nat.lt_of_lt_of_le hsz hs, fun k h1 h2 h3 => (hb k (by omega)).trans (h.base k h1 h2 h3), fun k hk => h.rown k (hr ▸ hk), fun k hk => Nat.lt_of_lt_of_le (h.rlt k (hr ▸ hk)) hs, ?_, ?_, fun g h1 h2 => h.lrow g h1 (hr ▸ h2)⟩
  · obtain ⟨cs, h1, h2⟩ := h.seen
    exact ⟨cs, (hb s0 hsz).trans h1, h2⟩
  · refine own_same h.left fun g hg => ?_
    obtain ⟨h1, cur, h2⟩ := own_lt h.left hg
    exact hb g (Array.getElem?_eq_some_iff.1 h2).1
/-- the top of the stack -/
theorem top {n : Nat} (h : MetMem M rw w s0 e S (L ++ [n]) v X) : ∃ g cap, v = .slice (some ⟨g, 0, none⟩) (L.length + 1) cap ∧ L.length + 1 ≤ cap ∧ cap ≤ maxLen ∧ s0 + 1 ≤ g ∧ X.cell? ⟨g, L.length, none⟩ = some (.int .i64 (n : Int)) ∧
    MetMem M rw w s0 e S L (.slice (some ⟨g, 0, none⟩) L.length cap) X := by
  have hl := h.left
  rw [List.length_append, List.length_singleton, List.map_append] at hl
  rcases hl.2 with ⟨_, h0⟩ | ⟨g, cap, cur, rfl, hb, hgb, hnc, hcm, hcs, htk⟩
  · omega
  · rw [Nat.mul_one] at hcs htk
    refine ⟨g, cap, rfl, hnc, hcm, hb, ?_, h.hs0, h.size, h.base, h.rown, h.rlt, h.seen, ⟨by simp, .inr ⟨g, cap, cur, rfl, hb, hgb, by omega, hcm, by omega, ?_⟩⟩, fun g' h1 => h.lrow g' h1⟩
    · have h1 : (cur.toList.take (L.length + 1))[L.length]? = some (natV n) := by
        rw [htk, List.getElem?_append_right (by simp)]; simp
      rw [List.getElem?_take_of_lt (by omega), Array.getElem?_toList] at h1
      simp [World.cell?, hgb, h1, natV]
    · have h1 := congrArg (List.take L.length) htk
      rw [List.take_take, Nat.min_eq_left (by omega)] at h1
      rw [Nat.mul_one, h1, List.take_append_of_le_length (by simp), List.take_of_length_le (by simp)]
/-- a number is met -/
theorem mark (h : MetMem M rw w s0 e S L v X) (ha : Aside M rw w) {n : Nat} : MetMem M rw w s0 e (n :: S) L v (X.setCell ⟨s0, n, none⟩ (.bool true)) := by
  have hs0 := h.hs0
  have hsz := h.size
  have hb : ∀ k, k ≠ s0 → (X.setCell ⟨s0, n, none⟩ (.bool true)).heap[k]? = X.heap[k]? := fun k hk => set_other X s0 k n _ hk
  have hs : X.heap.size ≤ (X.setCell ⟨s0, n, none⟩ (.bool true)).heap.size := ((Below.refl 0 X).setCell (p := ⟨s0, n, none⟩) (Nat.zero_le _) _).size
  have hr : rw (X.setCell ⟨s0, n, none⟩ (.bool true)) = rw X := ha.same X _ fun k hk => hb k (by omega)
  refine ⟨hs0, Nat.lt_of_lt_of_le hsz hs, fun k h1 h2 h3 => (hb k (by omega)).trans (h.base k h1 h2 h3), fun k hk => h.rown k (hr ▸ hk), fun k hk => Nat.lt_of_lt_of_le (h.rlt k (hr ▸ hk)) hs, ?_, ?_, fun g h1 h2 => h.lrow g h1 (hr ▸ h2)⟩
  · obtain ⟨cs, h1, h2, h3⟩ := h.seen
    refine ⟨_, set_heap h1 n _, by simp [h2], fun j hj => ?_⟩
    rw [Array.getElem?_setIfInBounds]
    by_cases hji : n = j
    · subst hji; rw [if_pos rfl, if_pos (by omega)]; simp
    · rw [if_neg hji, h3 j hj]; simp [Ne.symm hji]
  · refine own_same h.left fun g hg => ?_
    obtain ⟨h1, cur, h2⟩ := own_lt h.left hg
    exact hb g (by omega)
/-- numbers are put on the stack -/
theorem push (h : MetMem M rw w s0 e S L v X) (ha : Aside M rw w) {ps : List Nat} {r : Ending} (hp : AppPost (s0 + 1) L.length v (L.map natV) (ps.map natV) X r Y) : ∃ v', r = .returned v' ∧ MetMem M rw w s0 e S (L ++ ps) v' Y := by
  obtain ⟨v', rfl, hown, hg, hsr⟩ := hp
  have hs0 := h.hs0
  have hsz := h.size
  have hb : ∀ k, k < X.heap.size → v.ownBlock ≠ some k → Y.heap[k]? = X.heap[k]? := fun k h1 h2 => hg.block k h1 (Ne.symm h2)
  have hlow : ∀ k, k < s0 + 1 → v.ownBlock ≠ some k := fun k hk hv => by have := (own_lt h.left hv).1; omega
  have hr : rw Y = rw X := ha.same X Y fun k hk => hb k (by omega) (hlow k (by omega))
  refine ⟨v', rfl, hs0, Nat.lt_of_lt_of_le hsz hg.size, fun k h1 h2 h3 => (hb k (by omega) (hlow k (by omega))).trans (h.base k h1 h2 h3), fun k hk => h.rown k (hr ▸ hk), fun k hk => Nat.lt_of_lt_of_le (h.rlt k (hr ▸ hk)) hg.size, ?_, ?_, fun g h1 h2 => ?_⟩
  · obtain ⟨cs, h1, h2⟩ := h.seen
    exact ⟨cs, (hb s0 hsz (hlow s0 (by omega))).trans h1, h2⟩
  · rw [List.length_append, List.map_append]; rwa [List.length_map] at hown
  · rw [hr] at h2
    rcases hsr with h3 | ⟨g', h3, h4⟩
    · exact h.lrow g (h3 ▸ h1) h2
    · rw [h3] at h1
      cases h1
      have := h.rlt _ h2
      omega
/-- what was put is turned round -/
theorem turned {ps : List Nat} {g cap q : Nat} (h : MetMem M rw w s0 e S (L ++ ps) (.slice (some ⟨g, 0, none⟩) (L.length + ps.length) cap) X) (ha : Aside M rw w) :
    MetMem M rw w s0 e S (L ++ ps.reverse) (.slice (some ⟨g, 0, none⟩) (L.length + ps.length) cap) ((X.drewN q).setCells g L.length (ps.reverse.map natV)) := by
  have hs0 := h.hs0
  have hsz := h.size
  obtain ⟨hg1, _⟩ := own_lt h.left (g := g) rfl
  have hb : ∀ k, k ≠ g → ((X.drewN q).setCells g L.length (ps.reverse.map natV)).heap[k]? = X.heap[k]? := fun k hk => setCells_other g k hk _ _ _
  have hs : ((X.drewN q).setCells g L.length (ps.reverse.map natV)).heap.size = X.heap.size := setCells_size g _ _ _
  have hr : rw ((X.drewN q).setCells g L.length (ps.reverse.map natV)) = rw X := ha.same X _ fun k hk => hb k (by omega)
  refine ⟨hs0, by rw [hs]; exact hsz, fun k h1 h2 h3 => (hb k (by omega)).trans (h.base k h1 h2 h3), fun k hk => h.rown k (hr ▸ hk), fun k hk => by rw [hs]; exact h.rlt k (hr ▸ hk), ?_, ?_, fun g h1 h2 => h.lrow g h1 (hr ▸ h2)⟩
  · obtain ⟨cs, h1, h2⟩ := h.seen
    exact ⟨cs, (hb s0 (by omega)).trans h1, h2⟩
  · have hl := h.left
    rw [List.length_append, List.map_append] at hl
    rw [List.length_append, List.length_reverse, List.map_append]
    rcases hl.2 with ⟨h0, _⟩ | ⟨g', cap', cur, hv, hbg, hgb, hnc, hcm, hcs, htk⟩
    · cases h0
    · obtain ⟨rfl, rfl⟩ : g = g' ∧ cap = cap' := by cases hv; exact ⟨rfl, rfl⟩
      rw [Nat.mul_one] at hcs htk
      obtain ⟨cur', h1, h2⟩ := setCells_heap g 3 (ps.reverse.map natV) L.length (X.drewN q) cur hgb (by simp; omega)
      refine ⟨by simp, .inr ⟨g, cap, cur', rfl, hbg, h1, hnc, hcm, ?_, ?_⟩⟩
      · rw [← Array.length_toList, h2, Nat.mul_one, ← hcs, ← Array.length_toList]; simp; omega
      · rw [h2, Nat.mul_one]
        have h3 := congrArg (List.take L.length) htk
        rw [List.take_take, Nat.min_eq_left (by omega), List.take_append_of_le_length (by simp), show List.take L.length (L.map natV) = L.map natV from List.take_of_length_le (by simp)] at h3
        rw [h3]
        exact List.take_left' (by simp)
end MetMem
/-- an expression whose cells are as they were -/
theorem srcs_at {w W : World} {x : Ex} {s : Value} {B : Nat} {no : Nat → Prop} (ha : IntsAt w s x.args) (hk : ExOk x) (hb : ∀ k, k < w.heap.size → W.heap[k]? = w.heap[k]?) (hB : W.heap[B]? = some (.cells (exCells x s) 34 (0, 0))) (hn : ∀ k, no k → w.heap.size ≤ k) (hnB : ¬ no B) : Srcs W x B no := by
  obtain ⟨o, cap, ba, offa, rfl, h1, h2, h3, h4⟩ := ha
  have h5 : ∀ j, j < x.args.length → w.cell? ⟨ba, offa + j, none⟩ = some (.int .i64 (x.args.getD j 0)) := fun j hj => by have := h4 j hj; rwa [Nat.mul_one] at this
  refine ⟨o, cap, ba, offa, hB, hk.args, h3, fun j hj => (cell_same' (hb ba (World.block_lt_of_cell? _ _ (h5 j hj))) _).trans (h5 j hj), hnB, fun hp hno => ?_⟩
  have := hn _ hno
  have : ba < w.heap.size := World.block_lt_of_cell? _ _ (h5 0 hp)
  omega
end Go.Proofs.Ytiilgehdkanmnaa
