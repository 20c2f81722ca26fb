/- row.parts: the four numbers of an instruction. -/
import Derived.Test.YtceadfkjknjaoaaDoorVeTab
namespace Go.Proofs.YtceadfkjknjaoaaDoor
open Go.RowKit Co

attribute [local go_sem] Oper.semAt_some

def sixV (x : Six) : Value := .agg #[.int .i64 x.op, .int .i64 x.d, .int .i64 x.a, .int .i64 x.b, .int .i64 x.c, .int .i64 x.v]
theorem al_new {W : World} {o : Obj} {k : Nat} (h : k = W.heap.size) : (W.alloc o).heap[k]? = some o := by subst h; exact World.alloc_heap_new W o
theorem al_old {W : World} {o : Obj} {k : Nat} (h : k < W.heap.size) : (W.alloc o).heap[k]? = W.heap[k]? := ((Below.refl W.heap.size W).alloc (Nat.le_refl _) o).block k h
/-- the four numbers of an instruction, and what they are -/
def partsA (r : VRow) (x : Six) : Array Value := #[.int .i64 r.d, .int .i64 x.d, .int .i64 r.a, .int .i64 x.a, .int .i64 r.b, .int .i64 x.b, .int .i64 r.c, .int .i64 x.c]
theorem eight_box {W : World} {B : Nat} {T : TypeId} {v0 v1 v2 v3 v4 v5 v6 v7 u0 u1 u2 u3 u4 u5 u6 u7 : Value} (h : W.heap[B]? = some (.cells #[u0, u1, u2, u3, u4, u5, u6, u7] T (0, 0))) : ((((((((W.setCell ⟨B, 0, none⟩ v0).setCell ⟨B, 1, none⟩ v1).setCell ⟨B, 2, none⟩ v2).setCell ⟨B, 3, none⟩ v3).setCell ⟨B, 4, none⟩ v4).setCell ⟨B, 5, none⟩ v5).setCell ⟨B, 6, none⟩ v6).setCell ⟨B, 7, none⟩ v7).heap[B]? = some (.cells #[v0, v1, v2, v3, v4, v5, v6, v7] T (0, 0)) := by
  have e : ((((((((#[u0, u1, u2, u3, u4, u5, u6, u7] : Array Value).setIfInBounds 0 v0).setIfInBounds 1 v1).setIfInBounds 2 v2).setIfInBounds 3 v3).setIfInBounds 4 v4).setIfInBounds 5 v5).setIfInBounds 6 v6).setIfInBounds 7 v7 = #[v0, v1, v2, v3, v4, v5, v6, v7] := by simp
  rw [← e]
  exact set_heap (set_heap (set_heap (set_heap (set_heap (set_heap (set_heap (set_heap h 0 v0) 1 v1) 2 v2) 3 v3) 4 v4) 5 v5) 6 v6) 7 v7
theorem parts_end {W : World} {B : Nat} {v0 v1 v2 v3 v4 v5 v6 v7 : Value} (h : W.heap[B]? = some (.cells #[v0, v1, v2, v3, v4, v5, v6, v7] 42 (0, 0))) : (loadVar 42 ⟨B, 0, none⟩).run Tryd.prog W = .ok (.agg #[v0, v1, v2, v3, v4, v5, v6, v7]) W :=
  run_loadVar_row _ _ _ _ _ _ _ h Tryd.underlying42 rfl (by kernel_rfl)
set_option maxHeartbeats 8000000 in
set_option maxRecDepth 100000 in
theorem parts_any (r : VRow) (x : Six) (w : World) : Calls Tryd.prog 18 #[rowV r, sixV x] w fun e w' => e = .returned (.agg (partsA r x)) ∧ Below w.heap.size w w' := by
  obtain ⟨rd, ra, rb, rc, rv, rm⟩ := r
  obtain ⟨op, d, a, b, c, v⟩ := x
  unfold rowV sixV partsA
  go_enter Tryd.func18, Tryd.ntmps18
  go_wp2_with fail
  refine bodyPost_ret (results_cell rfl _ ⟨w.heap.size + 1 + 1, 0, none⟩ rfl (parts_end (al_new (by simp)))) rfl ⟨rfl, (((Below.refl w.heap.size w).alloc (Nat.le_refl _) _).alloc (by simp) _).alloc (by simp; omega) _⟩
set_option maxHeartbeats 8000000 in
set_option maxRecDepth 100000 in
theorem oneMore_any (n : Int) (h : i64 n) (w : World) : Calls Tryd.prog 19 #[.int .i64 n] w fun e w' => e = .returned (.int .i64 (om n)) ∧ w = w' := by
  obtain ⟨h1, h2⟩ := h
  unfold om
  by_cases hn : n = 9223372036854775807
  · rw [if_pos hn]
    have q : (n == 9223372036854775807) = true := beq_iff_eq.2 hn
    clear hn h1 h2
    go_enter Tryd.func19, Tryd.ntmps19
    go_wp2_with fail
    go_ret
    exact ⟨rfl, rfl⟩
  · rw [if_neg hn]
    have q : (n == 9223372036854775807) = false := beq_false_of_ne hn
    have h3 : n ≤ 9223372036854775806 := by omega
    clear hn h2
    go_enter Tryd.func19, Tryd.ntmps19
    go_wp2_with fail
    go_ret
    exact ⟨rfl, rfl⟩
/-- the j-th of the four -/
def partIs (r : VRow) (j : Nat) : Int := [r.d, r.a, r.b, r.c].getD j 0
def partN (x : Six) (j : Nat) : Int := [x.d, x.a, x.b, x.c].getD j 0
theorem ix_part (r : VRow) (x : Six) (j : Nat) (hj : j < 4) (w : World) : (Instr.index 42 (.agg (partsA r x)) (.int .i64 (j : Int))).run Tryd.prog w = .ok (.agg #[.int .i64 (partIs r j), .int .i64 (partN x j)]) w := by
  rcases (show j = 0 ∨ j = 1 ∨ j = 2 ∨ j = 3 by omega) with rfl | rfl | rfl | rfl
  all_goals (unfold partsA; kernel_rfl)
theorem wpList_index {ops : Array Oper} {rest : List Oper} {o : Oper} {a : Act} {Q : Exit → Act → World → Prop} (w : World) (hgd : o.guard = none) (t : TypeId) (x i : Operand) (ho : o.op = .index t x i) (cs : Array Value) (c : Nat) (v : Value)
    (hx : a.eval x = .agg cs) (hi : a.eval i = .int .i64 (c : Int)) (hrun : (Instr.index t (.agg cs) (.int .i64 (c : Int))).run Tryd.prog w = .ok v w) (h : wpList Tryd.prog ops Q rest (a.put o.dst v) w) : wpList Tryd.prog ops Q (o :: rest) a w := by
  refine wpList_plain hgd fun K hK => ?_
  unfold Oper.wp
  simp [execOp, ho, hx, hi, hrun, Result.andThen]
  exact hK _ _ h
/-- slice s is read by index -/
def Ix (t sz : Nat) (s : Value) (b off : Nat) (j : Nat) : Prop := ∀ W, (Instr.indexAt t s (.int .i64 (j : Int))).run Tryd.prog W = .ok (.pointer (some ⟨b, off + j * sz, none⟩)) W
theorem ix_ints {o : Option Addr} {n cap b off : Nat} (h : 0 < n → o = some ⟨b, off, none⟩) {j : Nat} (hj : j < n) (hn : n ≤ 9223372036854775807) : Ix 26 1 (.slice o n cap) b off j := by
  intro W
  rw [h (by omega)]
  have h1 : (j : Int) < (n : Int) := by omega
  have h2 : (j : Int) ≤ 9223372036854775807 := by omega
  go_simp
theorem ix_sixes {o : Option Addr} {n cap b off : Nat} (h : 0 < n → o = some ⟨b, off, none⟩) {j : Nat} (hj : j < n) (hn : n ≤ 9223372036854775807) : Ix 22 6 (.slice o n cap) b off j := by
  intro W
  rw [h (by omega)]
  have h1 : (j : Int) < (n : Int) := by omega
  have h2 : (j : Int) ≤ 9223372036854775807 := by omega
  go_simp
theorem take_next {α : Type} {l : List α} {c : Nat} {x : α} (h : l[c]? = some x) : l.take (c + 1) = l.take c ++ [x] := by
  obtain ⟨h1, rfl⟩ := List.getElem?_eq_some_iff.1 h
  rw [List.take_succ_eq_append_getElem h1]
end Go.Proofs.YtceadfkjknjaoaaDoor
