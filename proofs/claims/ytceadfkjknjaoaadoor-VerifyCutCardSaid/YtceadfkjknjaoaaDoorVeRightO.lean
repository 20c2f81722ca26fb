/- verify.Right; the document's examples. -/
import Derived.Test.YtceadfkjknjaoaaDoorVeWrong
namespace Go.Proofs.YtceadfkjknjaoaaDoor
open Go.RowKit Co

attribute [local go_sem] Oper.semAt_some

def allB (o : Ob) : Bool := (insTo o 4).all (okP o)
def rightB (o : Ob) : Bool := (lensB o && fitsB o) && allB o
theorem wrong_b (o : Ob) (s1 s2 s3 s4 t1 t2 t3 t4 : Value) (w : World) (hT : TabAt w) (hO : ObAt w s1 s2 s3 s4 t1 t2 t3 t4 o) (hL : ObLen o) (hK : o.ok) :
    Calls Tryd.prog 15 #[.agg (obCells s1 s2 s3 s4 o.cross o.flags t1 t2 t3 t4)] w fun e w' => Below w.heap.size w w' ∧ ∃ a b : Nat, e = .returned (.tuple #[.int .i64 (a : Int), .int .i64 (b : Int), .bool (!(allB o))]) ∧ (allB o = false → ∃ x, (a, b, x) ∈ insTo o 4 ∧ okP o (a, b, x) = false) := by
  refine (wrong_any o s1 s2 s3 s4 t1 t2 t3 t4 w hT hO hL hK).mono ?_
  rintro e w' ⟨hb, ⟨rfl, hall⟩ | ⟨⟨a, b, x⟩, hq, hno, rfl⟩⟩
  · have : allB o = true := List.all_eq_true.2 hall
    exact ⟨hb, 0, 0, by rw [this]; rfl, fun h => by rw [this] at h; cases h⟩
  · have : allB o = false := by
      rw [Bool.eq_false_iff]
      intro h
      have := List.all_eq_true.1 h _ hq
      rw [hno] at this
      cases this
    exact ⟨hb, a, b, by rw [this]; rfl, fun _ => ⟨x, hq, hno⟩⟩
set_option maxHeartbeats 16000000 in
set_option maxRecDepth 100000 in
theorem rightO_any (o : Ob) (s1 s2 s3 s4 t1 t2 t3 t4 : Value) (w : World) (hT : TabAt w) (hO : ObAt w s1 s2 s3 s4 t1 t2 t3 t4 o) (hL : ObLen o) (hK : o.ok) :
    Calls Tryd.prog 12 #[.agg (obCells s1 s2 s3 s4 o.cross o.flags t1 t2 t3 t4)] w fun e w' => e = .returned (.bool (rightB o)) ∧ Below w.heap.size w w' := by
  have WR := Lib.hid (fun (W : World) (hb : Below w.heap.size w W) => wrong_b o s1 s2 s3 s4 t1 t2 t3 t4 W (hT.below hb) (hO.below hb) hL hK)
  have FI := Lib.hid (fun (W : World) (hb : Below w.heap.size w W) => fits_any o s1 s2 s3 s4 t1 t2 t3 t4 W (hO.below hb) hL)
  obtain ⟨o1, c1, o2, c2, o3, c3, o4, c4, q1, d1, q2, d2, q3, d3, q4, d4, rfl, rfl, rfl, rfl, rfl, rfl, rfl, rfl⟩ := obAt_slices hO
  clear hT hO hL hK
  unfold obCells at WR FI ⊢
  obtain ⟨R, hR⟩ : ∃ R, R = rightB o := ⟨_, rfl⟩
  rw [← hR]
  unfold rightB at hR
  obtain ⟨F, hF⟩ : ∃ F, F = (lensB o && fitsB o) := ⟨_, rfl⟩
  obtain ⟨A, hA⟩ : ∃ A, A = allB o := ⟨_, rfl⟩
  simp only [← hF] at FI hR
  simp only [← hA] at WR hR
  clear hF hA
  have X0 := Lib.hid (ten_cells w (.slice o1 o.inn.length c1) (.slice o2 o.out.length c2) (.slice o3 o.state.length c3) (.slice o4 o.mem.length c4) (.int .i64 o.cross) (.int .i64 o.flags) (.slice q1 o.deriv.length d1) (.slice q2 o.zero.length d2) (.slice q3 o.step.length d3) (.slice q4 o.at_.length d4))
  have HA := Lib.hid ((Below.refl w.heap.size w).alloc (Nat.le_refl _) (.cells #[.slice o1 o.inn.length c1, .slice o2 o.out.length c2, .slice o3 o.state.length c3, .slice o4 o.mem.length c4, .int .i64 o.cross, .int .i64 o.flags, .slice q1 o.deriv.length d1, .slice q2 o.zero.length d2, .slice q3 o.step.length d3, .slice q4 o.at_.length d4] 29))
  have HR := Lib.hid hR
  clear hR
  go_enter Tryd.func12, Tryd.ntmps12
  go_wp2_with (first | (go_at_call 15; (with_reducible refine (WR.out _ HA.out).mono ?_); rintro e w1 ⟨hb1, a, b, rfl, _⟩; have HB1 := Lib.hid (HA.out.trans (hb1.mono HA.out.size)); have y0 := cell_on hb1 (X0.out 0 _ rfl); have y1 := cell_on hb1 (X0.out 1 _ rfl); have y2 := cell_on hb1 (X0.out 2 _ rfl); have y3 := cell_on hb1 (X0.out 3 _ rfl); have y4 := cell_on hb1 (X0.out 4 _ rfl); have y5 := cell_on hb1 (X0.out 5 _ rfl); have y6 := cell_on hb1 (X0.out 6 _ rfl); have y7 := cell_on hb1 (X0.out 7 _ rfl); have y8 := cell_on hb1 (X0.out 8 _ rfl); have y9 := cell_on hb1 (X0.out 9 _ rfl); clear hb1) | (go_at_call 21; (with_reducible refine (FI.out _ HB1.out).mono ?_); rintro e w2 ⟨rfl, hb2⟩; have HB2 := Lib.hid (HB1.out.trans (hb2.mono HB1.out.size)); clear hb2; cases F))
  · go_ret
    exact ⟨by rw [HR.out]; rfl, HB2.out⟩
  · go_ret
    exact ⟨by rw [HR.out, Bool.true_and]; rfl, HB2.out⟩
/-! ### The document's examples -/
def exNo : Ob := ⟨[], [], [], [], 0, 0, [], [], [], []⟩
def exPut : Ob := ⟨[], [], [0], [], 0, 0, [], [], [⟨1, 0, 0, 0, 0, 0⟩, ⟨20, 0, 0, 0, 0, 0⟩], []⟩
theorem exNo_right : rightB exNo = true := by decide +kernel
theorem exPut_right : rightB exPut = false := by decide +kernel
theorem small_ok (n : Int) (h1 : -100 ≤ n) (h2 : n ≤ 100) : i64 n := ⟨by omega, by omega⟩
theorem six_small (op d a b c v : Int) (h : ∀ n ∈ [op, d, a, b, c, v], -100 ≤ n ∧ n ≤ 100) : (⟨op, d, a, b, c, v⟩ : Six).ok := by
  have g : ∀ n ∈ [op, d, a, b, c, v], i64 n := fun n hn => small_ok n (h n hn).1 (h n hn).2
  exact ⟨g _ (by simp), g _ (by simp), g _ (by simp), g _ (by simp), g _ (by simp), g _ (by simp)⟩
theorem ints_none : intsOk [] := ⟨by simp, by simp⟩
theorem six_none : sixOk [] := ⟨by simp, by simp⟩
theorem exNo_ok : exNo.ok := ⟨ints_none, ints_none, ints_none, ints_none, ⟨by decide, by decide⟩, ⟨by decide, by decide⟩, six_none, six_none, six_none, six_none⟩
theorem exPut_ok : exPut.ok := by
  refine ⟨ints_none, ints_none, ⟨by simp [exPut], ?_⟩, ints_none, ⟨by decide, by decide⟩, ⟨by decide, by decide⟩, six_none, six_none, ⟨by simp [exPut], ?_⟩, six_none⟩
  · intro x hx
    simp [exPut] at hx
    subst hx
    exact ⟨by omega, by omega⟩
  · intro x hx
    simp only [exPut, List.mem_cons, List.mem_nil_iff, or_false] at hx
    rcases hx with rfl | rfl
    · exact six_small _ _ _ _ _ _ (by simp)
    · exact six_small _ _ _ _ _ _ (by simp)
theorem exNo_len : ObLen exNo := ⟨by simp [exNo], by simp [exNo], by simp [exNo], by simp [exNo], by simp [exNo], by simp [exNo], by simp [exNo], by simp [exNo]⟩
theorem exPut_len : ObLen exPut := ⟨by simp [exPut], by simp [exPut], by simp [exPut, reachN], by simp [exPut], by simp [exPut], by simp [exPut], by simp [exPut, reachN], by simp [exPut]⟩
theorem ints_at_none (w : World) : IntsAt w (.slice none 0 0) [] := slAt_none _ _ _ _ _ ⟨Nat.zero_le _, fun _ => rfl⟩ rfl
theorem six_at_none (w : World) : SixesAt w (.slice none 0 0) [] := slAt_none _ _ _ _ _ ⟨Nat.zero_le _, fun _ => rfl⟩ rfl
theorem exNo_at (w : World) : ObAt w (.slice none 0 0) (.slice none 0 0) (.slice none 0 0) (.slice none 0 0) (.slice none 0 0) (.slice none 0 0) (.slice none 0 0) (.slice none 0 0) exNo :=
  ⟨ints_at_none w, ints_at_none w, ints_at_none w, ints_at_none w, six_at_none w, six_at_none w, six_at_none w, six_at_none w⟩
def exW (w : World) : World := (w.alloc (.cells #[.int .i64 0] 2)).alloc (.cells #[.int .i64 1, .int .i64 0, .int .i64 0, .int .i64 0, .int .i64 0, .int .i64 0, .int .i64 20, .int .i64 0, .int .i64 0, .int .i64 0, .int .i64 0, .int .i64 0] 39)
theorem exPut_at (w : World) : ObAt (exW w) (.slice none 0 0) (.slice none 0 0) (.slice (some ⟨w.heap.size, 0, none⟩) 1 1) (.slice none 0 0) (.slice none 0 0) (.slice none 0 0) (.slice (some ⟨w.heap.size + 1, 0, none⟩) 2 2) (.slice none 0 0) exPut := by
  have h1 : (exW w).heap[w.heap.size]? = some (.cells #[.int .i64 0] 2 (0, 0)) := (al_old (by simp)).trans (al_new rfl)
  have h2 : (exW w).heap[w.heap.size + 1]? = some (.cells #[.int .i64 1, .int .i64 0, .int .i64 0, .int .i64 0, .int .i64 0, .int .i64 0, .int .i64 20, .int .i64 0, .int .i64 0, .int .i64 0, .int .i64 0, .int .i64 0] 39 (0, 0)) := al_new (by simp)
  refine ⟨ints_at_none _, ints_at_none _, slAt_some (Nat.le_refl _) (by decide) fun i hi => ?_, ints_at_none _, six_at_none _, six_at_none _, slAt_some (Nat.le_refl _) (by decide) fun i hi x hx => ?_, six_at_none _⟩
  · obtain rfl : i = 0 := by have h9 : i < 1 := hi; omega
    simp [World.cell?, h1, exPut]
  · have hi2 : i < 2 := hi
    match i, hi2 with
    | 0, _ =>
      obtain rfl : (⟨1, 0, 0, 0, 0, 0⟩ : Six) = x := by simpa [exPut] using hx
      exact ⟨by simp [World.cell?, h2], by simp [World.cell?, h2], by simp [World.cell?, h2], by simp [World.cell?, h2], by simp [World.cell?, h2], by simp [World.cell?, h2]⟩
    | 1, _ =>
      obtain rfl : (⟨20, 0, 0, 0, 0, 0⟩ : Six) = x := by simpa [exPut] using hx
      exact ⟨by simp [World.cell?, h2], by simp [World.cell?, h2], by simp [World.cell?, h2], by simp [World.cell?, h2], by simp [World.cell?, h2], by simp [World.cell?, h2]⟩
set_option maxHeartbeats 16000000 in
set_option maxRecDepth 100000 in
theorem alive_any (w : World) (hT : TabAt w) : Calls Tryd.prog 6 #[] w fun e w' => e = .returned (.bool true) ∧ Below w.heap.size w w' := by
  have R1 := Lib.hid (rightO_any exNo _ _ _ _ _ _ _ _ w hT (exNo_at w) exNo_len exNo_ok)
  have R2 := Lib.hid (fun (W : World) (hb : Below w.heap.size w W) => rightO_any exPut _ _ _ _ _ _ _ _ (exW W) (hT.below (hb.trans ((((Below.refl _ W).alloc (Nat.le_refl _) _).alloc (by simp) _).mono hb.size))) (exPut_at W) exPut_len exPut_ok)
  have e1 : exNo.cross = 0 := rfl
  have e2 : exNo.flags = 0 := rfl
  have e3 : exPut.cross = 0 := rfl
  have e4 : exPut.flags = 0 := rfl
  rw [exNo_right, e1, e2] at R1
  simp only [exPut_right, e3, e4] at R2
  unfold obCells at R1 R2
  clear hT e1 e2 e3 e4
  unfold exW at R2
  go_enter Tryd.func6, Tryd.ntmps6
  go_wp2_with (go_at_call 12; first | ((with_reducible refine R1.out.mono ?_); rintro e w1 ⟨rfl, hb1⟩; have HB1 := Lib.hid hb1; clear hb1) | ((with_reducible refine (R2.out _ HB1.out).mono ?_); rintro e w2 ⟨rfl, hb2⟩; have HB2 := Lib.hid (HB1.out.trans (((((Below.refl _ _).alloc (Nat.le_refl _) _).alloc (by simp) _).trans (hb2.mono (by simp; omega))).mono HB1.out.size)); clear hb2))
  go_ret
  exact ⟨rfl, HB2.out⟩
end Go.Proofs.YtceadfkjknjaoaaDoor
