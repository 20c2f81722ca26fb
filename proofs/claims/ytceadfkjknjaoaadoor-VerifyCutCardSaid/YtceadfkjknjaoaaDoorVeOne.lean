/- The reference's One, at each kind of instruction. -/
import Derived.Test.YtceadfkjknjaoaaDoorVePieces
import Derived.Deep.Cut
namespace Go.Proofs.YtceadfkjknjaoaaDoor
open Go.RowKit Co

attribute [local go_sem] Oper.semAt_some

set_option maxHeartbeats 8000000 in
set_option maxRecDepth 100000 in
theorem in_any (n m : Int) (w : World) : Calls Tryd.prog 26 #[.int .i64 n, .int .i64 m] w fun e w' => e = .returned (.bool (inB n m)) ∧ w = w' := by
  unfold inB
  by_cases h : 0 ≤ n
  · rw [decide_eq_true h, Bool.true_and]
    go_enter Tryd.func26, Tryd.ntmps26
    go_wp2_with fail
    go_ret
    exact ⟨rfl, rfl⟩
  · rw [decide_eq_false h, Bool.false_and]
    go_enter Tryd.func26, Tryd.ntmps26
    go_wp2_with fail
    go_ret
    exact ⟨rfl, rfl⟩
theorem beq_dec (n m : Int) : (n == m) = decide (n = m) := by by_cases h : n = m <;> simp [h]
/-- an object's value, its lengths told -/
def obV (o : Ob) (o1 o2 o3 o4 q1 q2 q3 q4 : Option Addr) (c1 c2 c3 c4 d1 d2 d3 d4 : Nat) : Value := .agg #[.slice o1 o.inn.length c1, .slice o2 o.out.length c2, .slice o3 o.state.length c3, .slice o4 o.mem.length c4, .int .i64 o.cross, .int .i64 o.flags, .slice q1 o.deriv.length d1, .slice q2 o.zero.length d2, .slice q3 o.step.length d3, .slice q4 o.at_.length d4]
def six0V (op d a b c v : Int) : Value := .agg #[.int .i64 op, .int .i64 d, .int .i64 a, .int .i64 b, .int .i64 c, .int .i64 v]
theorem six0_cells (w : World) (op d a b c v : Int) : ∀ j u, [Value.int .i64 op, .int .i64 d, .int .i64 a, .int .i64 b, .int .i64 c, .int .i64 v][j]? = some u → (w.alloc (.cells #[.int .i64 op, .int .i64 d, .int .i64 a, .int .i64 b, .int .i64 c, .int .i64 v] 39)).cell? ⟨w.heap.size, j, none⟩ = some u := fun j u hu => by
  rw [World.cell?_alloc_new, ← Array.getElem?_toList]; exact hu
theorem ten0_cells (w : World) (a0 a1 a2 a3 a4 a5 a6 a7 a8 a9 : Value) : ∀ j u, [a0, a1, a2, a3, a4, a5, a6, a7, a8, a9][j]? = some u → (w.alloc (.cells #[a0, a1, a2, a3, a4, a5, a6, a7, a8, a9] 29)).cell? ⟨w.heap.size, j, none⟩ = some u := fun j u hu => by
  rw [World.cell?_alloc_new, ← Array.getElem?_toList]; exact hu
/-- the two boxes -/
structure OneBox (o : Ob) (o1 o2 o3 o4 : Option Addr) (c1 c2 c3 c4 : Nat) (x : Six) (w W : World) : Prop where
  below : Below w.heap.size w W
  x0 : W.cell? ⟨w.heap.size, 0, none⟩ = some (.slice o1 o.inn.length c1)
  x1 : W.cell? ⟨w.heap.size, 1, none⟩ = some (.slice o2 o.out.length c2)
  x2 : W.cell? ⟨w.heap.size, 2, none⟩ = some (.slice o3 o.state.length c3)
  x3 : W.cell? ⟨w.heap.size, 3, none⟩ = some (.slice o4 o.mem.length c4)
  x4 : W.cell? ⟨w.heap.size, 4, none⟩ = some (.int .i64 o.cross)
  y1 : W.cell? ⟨w.heap.size + 1, 1, none⟩ = some (.int .i64 x.d)
  y2 : W.cell? ⟨w.heap.size + 1, 2, none⟩ = some (.int .i64 x.a)
  y3 : W.cell? ⟨w.heap.size + 1, 3, none⟩ = some (.int .i64 x.b)
  y4 : W.cell? ⟨w.heap.size + 1, 4, none⟩ = some (.int .i64 x.c)
def oneW (o : Ob) (o1 o2 o3 o4 q1 q2 q3 q4 : Option Addr) (c1 c2 c3 c4 d1 d2 d3 d4 : Nat) (op d a b c v : Int) (w : World) : World := (w.alloc (.cells #[.slice o1 o.inn.length c1, .slice o2 o.out.length c2, .slice o3 o.state.length c3, .slice o4 o.mem.length c4, .int .i64 o.cross, .int .i64 o.flags, .slice q1 o.deriv.length d1, .slice q2 o.zero.length d2, .slice q3 o.step.length d3, .slice q4 o.at_.length d4] 29)).alloc (.cells #[.int .i64 op, .int .i64 d, .int .i64 a, .int .i64 b, .int .i64 c, .int .i64 v] 39)
theorem one_box (o : Ob) (o1 o2 o3 o4 q1 q2 q3 q4 : Option Addr) (c1 c2 c3 c4 d1 d2 d3 d4 : Nat) (op d a b c v : Int) (w : World) : OneBox o o1 o2 o3 o4 c1 c2 c3 c4 ⟨op, d, a, b, c, v⟩ w (oneW o o1 o2 o3 o4 q1 q2 q3 q4 c1 c2 c3 c4 d1 d2 d3 d4 op d a b c v w) := by
  have hx := ten0_cells w (.slice o1 o.inn.length c1) (.slice o2 o.out.length c2) (.slice o3 o.state.length c3) (.slice o4 o.mem.length c4) (.int .i64 o.cross) (.int .i64 o.flags) (.slice q1 o.deriv.length d1) (.slice q2 o.zero.length d2) (.slice q3 o.step.length d3) (.slice q4 o.at_.length d4)
  have hy := six0_cells (w.alloc (.cells #[.slice o1 o.inn.length c1, .slice o2 o.out.length c2, .slice o3 o.state.length c3, .slice o4 o.mem.length c4, .int .i64 o.cross, .int .i64 o.flags, .slice q1 o.deriv.length d1, .slice q2 o.zero.length d2, .slice q3 o.step.length d3, .slice q4 o.at_.length d4] 29)) op d a b c v
  rw [World.size_alloc] at hy
  have st : ∀ {u : Obj} {a : Addr} {v : Value}, (w.alloc (.cells #[.slice o1 o.inn.length c1, .slice o2 o.out.length c2, .slice o3 o.state.length c3, .slice o4 o.mem.length c4, .int .i64 o.cross, .int .i64 o.flags, .slice q1 o.deriv.length d1, .slice q2 o.zero.length d2, .slice q3 o.step.length d3, .slice q4 o.at_.length d4] 29)).cell? a = some v → ((w.alloc (.cells #[.slice o1 o.inn.length c1, .slice o2 o.out.length c2, .slice o3 o.state.length c3, .slice o4 o.mem.length c4, .int .i64 o.cross, .int .i64 o.flags, .slice q1 o.deriv.length d1, .slice q2 o.zero.length d2, .slice q3 o.step.length d3, .slice q4 o.at_.length d4] 29)).alloc u).cell? a = some v := fun h => cell_on ((Below.refl _ _).alloc (Nat.le_refl _) _) h
  exact ⟨((Below.refl _ _).alloc (Nat.le_refl _) _).alloc (by simp) _, st (hx 0 _ rfl), st (hx 1 _ rfl), st (hx 2 _ rfl), st (hx 3 _ rfl), st (hx 4 _ rfl), hy 1 _ rfl, hy 2 _ rfl, hy 3 _ rfl, hy 4 _ rfl⟩
theorem OneBox.on {o : Ob} {o1 o2 o3 o4 : Option Addr} {c1 c2 c3 c4 : Nat} {x : Six} {w W W' : World} (h : OneBox o o1 o2 o3 o4 c1 c2 c3 c4 x w W) (hb : Below W.heap.size W W') : OneBox o o1 o2 o3 o4 c1 c2 c3 c4 x w W' :=
  ⟨h.below.trans (hb.mono h.below.size), cell_on hb h.x0, cell_on hb h.x1, cell_on hb h.x2, cell_on hb h.x3, cell_on hb h.x4, cell_on hb h.y1, cell_on hb h.y2, cell_on hb h.y3, cell_on hb h.y4⟩
end Go.Proofs.YtceadfkjknjaoaaDoor
