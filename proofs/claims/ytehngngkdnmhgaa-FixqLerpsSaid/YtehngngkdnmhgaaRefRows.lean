/- Rows of bits that a call makes and appends to; what they read as; what is left of them in later worlds. -/
import Derived.Test.YtehngngkdnmhgaaRefCmp
import Derived.Laws.OwnMore
import Derived.Maps.AppendAt
import Derived.Laws.AppendOwnNone
namespace Go.Proofs.Ytehngngkdnmhgaa
open Go.RowKit

theorem boolInfo : (Try.prog.info? 4).map (fun i => (i.zero, i.size, i.bytes)) = some (some (.bool false), 1, 1) := by kernel_rfl
/-- the value owns the bits, in a block from B on -/
def OB (w : World) (B : Nat) (v : Value) (xs : List Bool) : Prop := w.ownsRow B 4 1 v xs.length (xs.map Value.bool)
theorem ob_nil (w : World) (B : Nat) : OB w B (.slice none 0 0) [] := ⟨by simp, .inl ⟨rfl, rfl⟩⟩
theorem ob_drewN {w : World} {B : Nat} {v : Value} {xs : List Bool} (h : OB w B v xs) (n : Nat) : OB (w.drewN n) B v xs := h
theorem rb_drewN {w : World} {A : Option Addr} {c : Nat} {xs : List Bool} (h : RB w A c xs) (n : Nat) : RB (w.drewN n) A c xs := h
theorem below_drewN {B : Nat} {a w : World} (h : Below B a w) (n : Nat) : Below B a (w.drewN n) := ⟨h.os, h.tape, h.output, h.size, h.block⟩
theorem ob_rb {w : World} {B : Nat} {v : Value} {xs : List Bool} (h : OB w B v xs) : ∃ A c, v = .slice A xs.length c ∧ RB w A c xs := by
  obtain ⟨h1, ⟨rfl, h0⟩ | ⟨g, cap, cur, rfl, hb, hg, hn, hc, hs, ht⟩⟩ := h
  · have : xs = [] := List.eq_nil_of_length_eq_zero h0
    subst this
    exact ⟨none, 0, rfl, rb_nil w⟩
  · refine ⟨some ⟨g, 0, none⟩, cap, rfl, ⟨hn, fun e => by cases e⟩, by unfold maxLen at hc; omega, fun _ => ⟨_, rfl, ?_, fun j u hu => ?_⟩⟩
    · show g < w.heap.size
      rcases Nat.lt_or_ge g w.heap.size with hlt | hge
      · exact hlt
      · rw [Array.getElem?_eq_none hge] at hg; cases hg
    · have hown : w.ownsRow B 4 1 (.slice (some ⟨g, 0, none⟩) xs.length cap) xs.length (xs.map Value.bool) := ⟨h1, .inr ⟨g, cap, cur, rfl, hb, hg, hn, hc, hs, ht⟩⟩
      exact hown.cells (g := g) rfl j (.bool u) (by rw [List.getElem?_map, hu]; rfl)
theorem ob_below {w w' : World} {B : Nat} {v : Value} {xs : List Bool} (h : OB w B v xs) (hb : Below w.heap.size w w') : OB w' B v xs := by
  obtain ⟨h1, ⟨rfl, h0⟩ | ⟨g, cap, cur, rfl, hg0, hg, hn, hc, hs, ht⟩⟩ := h
  · exact ⟨h1, .inl ⟨rfl, h0⟩⟩
  · have hlt : g < w.heap.size := by
      rcases Nat.lt_or_ge g w.heap.size with hlt | hge
      · exact hlt
      · rw [Array.getElem?_eq_none hge] at hg; cases hg
    exact ⟨h1, .inr ⟨g, cap, cur, rfl, hg0, (hb.block g hlt).trans hg, hn, hc, hs, ht⟩⟩
/-- one bit more, appended to a row of the call's own -/
theorem wpList_push {ops : Array Oper} {rest : List Oper} {o : Oper} {a : Act} {Q : Exit → Act → World → Prop} (wr : World) (hgd : o.guard = none) (s x : Operand)
    (ho : o.op = .call { callee := .builtin .append, args := #[s, x], argTypes := #[27, 27] })
    (B : Nat) (v : Value) (xs : List Bool) (b : Bool) (hs : a.eval s = v) (hx : a.eval x = .slice (some ⟨wr.heap.size, 0, none⟩) 1 1)
    (hown : OB wr B v xs) (hlen : xs.length ≤ 1000000) (hB : B ≤ wr.heap.size)
    (h : ∀ v' w', OB w' B v' (xs ++ [b]) → Below B wr w' → wpList Try.prog ops Q rest (a.put o.dst v') w') :
    wpList Try.prog ops Q (o :: rest) a (wr.alloc (.cells #[.bool b] 4)) := by
  obtain ⟨i0, hi, hz0, hz1, hz2⟩ := info_parts boolInfo
  refine wpList_append_own _ hgd s x 27 ho B 4 i0 (.bool false) 1 1 Try.underlying27 hi hz0 hz1 hz2 rfl (by decide) v xs.length (xs.map Value.bool) hs
    (hown.alloc _) ⟨wr.heap.size, 0, none⟩ 1 1 [.bool b] hx rfl (cell_one_new _ _ _) (by simp [Value.oneCell']) (by unfold maxLen; omega) (by omega) (by simp; omega) fun v' w' h1 h2 _ => ?_
  refine h v' w' ?_ ?_
  · unfold OB
    rw [List.map_append, List.length_append]
    exact h1
  · refine ((Below.refl B wr).alloc hB _).grown h2 (by simp; omega) fun k hk => ?_
    exact (hown.lt k hk).1
/-- a list that is read, appended to a row of the call's own -/
theorem wp_cat {o : Oper} {a : Act} {K : Act → World → Prop} {Q : Exit → Act → World → Prop} (w : World) (s x : Operand)
    (ho : o.op = .call { callee := .builtin .append, args := #[s, x], argTypes := #[27, 27] })
    (B : Nat) (v : Value) (xs : List Bool) (A : Option Addr) (c : Nat) (zs : List Bool) (hs : a.eval s = v) (hx : a.eval x = .slice A zs.length c)
    (hown : OB w B v xs) (hr : RB w A c zs) (l1 : xs.length ≤ 1000000) (l2 : zs.length ≤ 1000000) (hB : B ≤ w.heap.size)
    (h : ∀ v' w', OB w' B v' (xs ++ zs) → Below B w w' → K (a.put o.dst v') w') : o.wp Try.prog a w K Q := by
  obtain ⟨i0, hi, hz0, hz1, hz2⟩ := info_parts boolInfo
  rcases A with _ | ad
  · obtain rfl : zs = [] := by
      cases zs with
      | nil => rfl
      | cons y r => obtain ⟨ad, e, _⟩ := hr.2.2 (by simp); cases e
    obtain rfl := hr.1.2 rfl
    have hrun := run_append_owned_none (P := Try.prog) (w := w) B 27 o.type 4 i0 1 Try.underlying27 hi v xs.length (xs.map Value.bool) hown
    unfold Oper.wp
    simp [execOp, ho, resolve, invoke, builtin, hs, hx, hrun, Result.andThen]
    exact h v w (by simpa using hown) (Below.refl _ _)
  · refine wp_append_own w s x 27 ho B 4 i0 (.bool false) 1 1 Try.underlying27 hi hz0 hz1 hz2 rfl (by decide) v xs.length (xs.map Value.bool) hs hown
      ad zs.length c (zs.map Value.bool) hx (by simp) ?_ ?_ (by unfold maxLen; omega) (by omega) hB fun v' w' h1 h2 _ => ?_
    · intro j u hu
      rw [List.getElem?_map] at hu
      cases hj : zs[j]? with
      | none => rw [hj] at hu; cases hu
      | some y =>
        rw [hj] at hu
        injection hu with hu
        subst hu
        obtain ⟨ad', e, _, hc⟩ := hr.2.2 (by rintro rfl; simp at hj)
        injection e with e
        subst e
        exact hc j y hj
    · intro u hu
      obtain ⟨y, _, rfl⟩ := List.mem_map.1 hu
      rfl
    · refine h v' w' ?_ ?_
      · unfold OB
        rw [List.map_append, List.length_append]
        exact h1
      · exact (Below.refl B w).grown h2 hB fun k hk => (hown.lt k hk).1
theorem step_cat {ops : Array Oper} {o : Oper} {a : Act} {K : Act → World → Prop} {Q : Exit → Act → World → Prop} {E : Prop} (w : World) (hgd : o.guard = none) (s x : Operand)
    (ho : o.op = .call { callee := .builtin .append, args := #[s, x], argTypes := #[27, 27] })
    (B : Nat) (v : Value) (xs : List Bool) (A : Option Addr) (c : Nat) (zs : List Bool) (hs : a.eval s = v) (hx : a.eval x = .slice A zs.length c)
    (hown : OB w B v xs) (hr : RB w A c zs) (l1 : xs.length ≤ 1000000) (l2 : zs.length ≤ 1000000) (hB : B ≤ w.heap.size)
    (h : ∀ v' w', OB w' B v' (xs ++ zs) → Below B w w' → K (a.put o.dst v') w') : if Region.wanted o (yielded ops a.tmps) = true then Oper.wp Try.prog o a w K Q else E := by
  rw [if_pos (by simp [Region.wanted, hgd])]
  exact wp_cat w s x ho B v xs A c zs hs hx hown hr l1 l2 hB h
theorem ob_made (w : World) (n : Nat) (hn : n ≤ 1000000) : OB (w.alloc (.cells (Array.replicate n (.bool false)) 4)) w.heap.size (.slice (some ⟨w.heap.size, 0, none⟩) n n) (List.replicate n false) := by
  refine ⟨by simp, .inr ⟨w.heap.size, n, Array.replicate n (.bool false), by rw [List.length_replicate], Nat.le_refl _, heap_alloc_new w _, by rw [List.length_replicate]; omega, by unfold maxLen; omega, by simp, ?_⟩⟩
  simp
/-- a list of bits that is returned, and what is left of the world -/
def SlicePost (Q : List Bool → Prop) (w : World) (e : Ending) (w' : World) : Prop := ∃ A c zs, e = .returned (.slice A zs.length c) ∧ RB w' A c zs ∧ Q zs ∧ Below w.heap.size w w' ∧ ∀ ad, A = some ad → w.heap.size ≤ ad.block
/-- a number in bits with a sign that is returned -/
def BigPost (s : Bool) (Q : List Bool → Prop) (w : World) (e : Ending) (w' : World) : Prop := ∃ A c zs, e = .returned (.agg #[.slice A zs.length c, .bool s]) ∧ RB w' A c zs ∧ Q zs ∧ Below w.heap.size w w'
theorem ob_fresh {w : World} {B c n : Nat} {A : Option Addr} {xs : List Bool} (h : OB w B (.slice A n c) xs) : ∀ ad, A = some ad → B ≤ ad.block := by
  rintro ad rfl
  exact (h.lt ad.block rfl).1
theorem slicePost_of {Q : List Bool → Prop} {w w' : World} {v : Value} {zs : List Bool} (h : OB w' w.heap.size v zs) (hQ : Q zs) (hb : Below w.heap.size w w') : SlicePost Q w (.returned v) w' := by
  obtain ⟨A, c, rfl, hr⟩ := ob_rb h
  exact ⟨A, c, zs, rfl, hr, hQ, hb, ob_fresh h⟩
def boolOf : Value → Nat | .bool b => bit b | _ => 0
end Go.Proofs.Ytehngngkdnmhgaa
