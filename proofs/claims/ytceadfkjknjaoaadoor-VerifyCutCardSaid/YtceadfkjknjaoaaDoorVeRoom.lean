/- verify.rooms and what it hands back; verify.right. -/
import Derived.Test.YtceadfkjknjaoaaDoorVePieces
namespace Go.Proofs.YtceadfkjknjaoaaDoor
open Go.RowKit Co

attribute [local go_sem] Oper.semAt_some

/-- what the closure has caught -/
def RoomAt (w : World) (X M : Nat) (o : Ob) : Prop := (∃ s1 s2 s3 s4 t1 t2 t3 t4, w.heap[X]? = some (.cells (obCells s1 s2 s3 s4 o.cross o.flags t1 t2 t3 t4) 29 (0, 0)) ∧ (∃ q c, s1 = .slice q o.inn.length c) ∧ (∃ q c, s3 = .slice q o.state.length c) ∧ (∃ q c, s4 = .slice q o.mem.length c)) ∧
  w.heap[M]? = some (.cells #[.int .i64 (o.state.length : Int), .int .i64 o.cross, .int .i64 0, .int .i64 (o.out.length : Int)] 63 (0, 0))
theorem RoomAt.below {w w' : World} {X M : Nat} {o : Ob} (h : RoomAt w X M o) (hb : Below w.heap.size w w') : RoomAt w' X M o := by
  obtain ⟨⟨s1, s2, s3, s4, t1, t2, t3, t4, h1, h2⟩, h3⟩ := h
  exact ⟨⟨s1, s2, s3, s4, t1, t2, t3, t4, (hb.block _ (lt_of_heap h1)).trans h1, h2⟩, (hb.block _ (lt_of_heap h3)).trans h3⟩
def placeV (p : Nat) (n bh : Int) : Value := .agg #[.int .i64 (p : Int), .int .i64 n, .int .i64 bh]
def roomF (X M : Nat) : Value := .func (.func 28) #[] #[.pointer (some ⟨X, 0, none⟩), .pointer (some ⟨M, 0, none⟩)]
set_option maxHeartbeats 16000000 in
set_option maxRecDepth 100000 in
theorem room_any (o : Ob) (is : Int) (h : 0 ≤ is ∧ is ≤ 7) (p : Nat) (hp : p < 4) (n bh : Int) (h1 : 0 ≤ bh) (h2 : bh ≤ 140737488351232) (X M : Nat) (w : World) (hR : RoomAt w X M o) :
    Calls Tryd.prog 28 #[.int .i64 is, placeV p n bh, .pointer (some ⟨X, 0, none⟩), .pointer (some ⟨M, 0, none⟩)] w fun e w' => e = .returned (.int .i64 (room o is p bh)) ∧ Below w.heap.size w w' := by
  obtain ⟨⟨s1, s2, s3, s4, t1, t2, t3, t4, hx, ⟨q1, c1, rfl⟩, ⟨q3, c3, rfl⟩, ⟨q4, c4, rfl⟩⟩, hm⟩ := hR
  have hb : ∀ u, Below w.heap.size w (w.alloc (.cells u 58)) := fun u => (Below.refl _ w).alloc (Nat.le_refl _) _
  have HB := Lib.hid hb
  have x0 : ∀ u, (w.alloc (.cells u 58)).cell? ⟨X, 0, none⟩ = some (.slice q1 o.inn.length c1) := fun u => cell_on (hb u) (by simp [World.cell?, hx, obCells])
  have x2 : ∀ u, (w.alloc (.cells u 58)).cell? ⟨X, 2, none⟩ = some (.slice q3 o.state.length c3) := fun u => cell_on (hb u) (by simp [World.cell?, hx, obCells])
  have x3 : ∀ u, (w.alloc (.cells u 58)).cell? ⟨X, 3, none⟩ = some (.slice q4 o.mem.length c4) := fun u => cell_on (hb u) (by simp [World.cell?, hx, obCells])
  have x4 : ∀ u, (w.alloc (.cells u 58)).cell? ⟨X, 4, none⟩ = some (.int .i64 o.cross) := fun u => cell_on (hb u) (by simp [World.cell?, hx, obCells])
  have y0 : ∀ u, (w.alloc (.cells u 58)).cell? ⟨M, 0, none⟩ = some (.int .i64 (o.state.length : Int)) := fun u => cell_on (hb u) (by simp [World.cell?, hm])
  have y1 : ∀ u, (w.alloc (.cells u 58)).cell? ⟨M, 1, none⟩ = some (.int .i64 o.cross) := fun u => cell_on (hb u) (by simp [World.cell?, hm])
  have y2 : ∀ u, (w.alloc (.cells u 58)).cell? ⟨M, 2, none⟩ = some (.int .i64 0) := fun u => cell_on (hb u) (by simp [World.cell?, hm])
  have y3 : ∀ u, (w.alloc (.cells u 58)).cell? ⟨M, 3, none⟩ = some (.int .i64 (o.out.length : Int)) := fun u => cell_on (hb u) (by simp [World.cell?, hm])
  clear hx hm hb
  obtain ⟨h3, h4⟩ := h
  unfold placeV
  rcases (show is = 0 ∨ is = 1 ∨ is = 2 ∨ is = 3 ∨ is = 4 ∨ is = 5 ∨ is = 6 ∨ is = 7 by omega) with rfl | rfl | rfl | rfl | rfl | rfl | rfl | rfl
  · go_enter Tryd.func28, Tryd.ntmps28
    go_wp2_with fail
    go_ret
    exact ⟨rfl, HB.out _⟩
  · go_enter Tryd.func28, Tryd.ntmps28
    go_wp2_with fail
    go_ret
    exact ⟨rfl, HB.out _⟩
  · go_enter Tryd.func28, Tryd.ntmps28
    go_wp2_with fail
    go_ret
    exact ⟨rfl, HB.out _⟩
  · go_enter Tryd.func28, Tryd.ntmps28
    go_wp2_with fail
    go_ret
    exact ⟨rfl, HB.out _⟩
  · go_enter Tryd.func28, Tryd.ntmps28
    go_wp2_with fail
    go_ret
    exact ⟨rfl, HB.out _⟩
  · go_enter Tryd.func28, Tryd.ntmps28
    go_wp2_with fail
    go_ret
    exact ⟨rfl, HB.out _⟩
  · rcases (show p = 0 ∨ p = 1 ∨ p = 2 ∨ p = 3 by omega) with rfl | rfl | rfl | rfl
    all_goals (
      go_enter Tryd.func28, Tryd.ntmps28
      go_wp2_with fail
      go_ret
      exact ⟨rfl, HB.out _⟩)
  · go_enter Tryd.func28, Tryd.ntmps28
    go_wp2_with fail
    go_ret
    exact ⟨rfl, HB.out _⟩
set_option maxHeartbeats 16000000 in
set_option maxRecDepth 100000 in
theorem rooms_any (o : Ob) (s1 s2 s3 s4 t1 t2 t3 t4 : Value) (w0 w : World) (hO : ObAt w0 s1 s2 s3 s4 t1 t2 t3 t4 o) :
    Calls Tryd.prog 23 #[.agg (obCells s1 s2 s3 s4 o.cross o.flags t1 t2 t3 t4)] w fun e w' => e = .returned (roomF w.heap.size (w.heap.size + 1)) ∧ RoomAt w' w.heap.size (w.heap.size + 1) o ∧ Below w.heap.size w w' := by
  obtain ⟨o1, c1, o2, c2, o3, c3, o4, c4, q1, d1, q2, d2, q3, d3, q4, d4, rfl, rfl, rfl, rfl, rfl, rfl, rfl, rfl⟩ := obAt_slices hO
  clear hO
  unfold obCells
  go_enter Tryd.func23, Tryd.ntmps23
  go_wp2_with fail
  go_ret
  exact ⟨rfl, ⟨⟨_, _, _, _, _, _, _, _, (al_old (by simp)).trans (al_new rfl), ⟨_, _, rfl⟩, ⟨_, _, rfl⟩, ⟨_, _, rfl⟩⟩, al_new (by simp)⟩, ((Below.refl w.heap.size w).alloc (Nat.le_refl _) _).alloc (by simp) _⟩
/-- what the row says of the piece, and of V -/
def rowSays (r : VRow) (p : Nat) (v : Int) : Bool := stands r.m p && (decide (v = 0) || r.v)
theorem rows_few (op : Int) : ((rowR op).m = 0 ∨ (rowR op).m = 15 ∨ (rowR op).m = 4 ∨ (rowR op).m = 11) ∧ ∀ j, j < 4 → 0 ≤ partIs (rowR op) j ∧ partIs (rowR op) j ≤ 7 := by
  by_cases h : 0 ≤ op ∧ op < 23
  · rcases op_cases h with rfl | rfl | rfl | rfl | rfl | rfl | rfl | rfl | rfl | rfl | rfl | rfl | rfl | rfl | rfl | rfl | rfl | rfl | rfl | rfl | rfl | rfl | rfl
    all_goals (refine ⟨by simp [rowR, tabR], fun j hj => ?_⟩; rcases (show j = 0 ∨ j = 1 ∨ j = 2 ∨ j = 3 by omega) with rfl | rfl | rfl | rfl <;> simp [rowR, tabR, partIs])
  · have e : rowR op = noRow := by unfold rowR; rw [if_neg h]
    rw [e]
    exact ⟨.inl rfl, fun j hj => by rcases (show j = 0 ∨ j = 1 ∨ j = 2 ∨ j = 3 by omega) with rfl | rfl | rfl | rfl <;> simp [noRow, partIs]⟩
/-- the first j numbers fit -/
def fitTo (o : Ob) (r : VRow) (x : Six) (p : Nat) (bh : Int) (j : Nat) : Prop := ∀ k, k < j → inB (partN x k) (room o (partIs r k) p bh) = true
theorem codeOk_says {o : Ob} {p : Nat} {x : Six} {bh : Int} (h : rowSays (rowR x.op) p x.v = false) : codeOk o p x bh = false := by
  unfold rowSays at h
  unfold codeOk
  rw [h, Bool.false_and]
theorem codeOk_true {o : Ob} {p : Nat} {x : Six} {bh : Int} (h : rowSays (rowR x.op) p x.v = true) (hf : fitTo o (rowR x.op) x p bh 4) : codeOk o p x bh = true := by
  unfold rowSays at h
  unfold codeOk
  have h0 := hf 0 (by omega)
  have h1 := hf 1 (by omega)
  have h2 := hf 2 (by omega)
  have h3 := hf 3 (by omega)
  simp only [partN, partIs, List.getD_cons_zero, List.getD_cons_succ] at h0 h1 h2 h3
  rw [h, h0, h1, h2, h3]
  rfl
theorem codeOk_not {o : Ob} {p : Nat} {x : Six} {bh : Int} {j : Nat} (hj : j < 4) (hf : inB (partN x j) (room o (partIs (rowR x.op) j) p bh) = false) : codeOk o p x bh = false := by
  unfold codeOk
  rcases (show j = 0 ∨ j = 1 ∨ j = 2 ∨ j = 3 by omega) with rfl | rfl | rfl | rfl
  all_goals (
    simp only [partN, partIs, List.getD_cons_zero, List.getD_cons_succ] at hf
    rw [hf]
    simp)
end Go.Proofs.YtceadfkjknjaoaaDoor
