/- The reference's Great. -/
import Derived.Test.YtceadfkjknjaoaaDoorVePieces
namespace Go.Proofs.YtceadfkjknjaoaaDoor
open Go.RowKit Co

attribute [local go_sem] Oper.semAt_some

set_option maxHeartbeats 8000000 in
set_option maxRecDepth 100000 in
theorem great_any (o : Ob) (s1 s2 s3 s4 t1 t2 t3 t4 : Value) (w : World) (hO : ObAt w s1 s2 s3 s4 t1 t2 t3 t4 o) (hl : ObLen o) :
    Calls Tryd.prog 10 #[.agg (obCells s1 s2 s3 s4 o.cross o.flags t1 t2 t3 t4)] w fun e w' => ∃ g : Bool, e = .returned (.bool g) ∧ Below w.heap.size w w' := by
  obtain ⟨l1, l2, l3, l4, l5, l6, l7, l8⟩ := hl
  unfold reachN at l1 l2 l3 l4 l5 l6 l7 l8
  obtain ⟨o1, c1, o2, c2, o3, c3, o4, c4, q1, d1, q2, d2, q3, d3, q4, d4, rfl, rfl, rfl, rfl, rfl, rfl, rfl, rfl⟩ := obAt_slices hO
  clear hO
  unfold obCells
  generalize o.inn.length = n1 at l1 ⊢
  generalize o.out.length = n2 at l2 ⊢
  generalize o.state.length = n3 at l3 ⊢
  generalize o.mem.length = n4 at l4 ⊢
  generalize o.deriv.length = m1 at l5 ⊢
  generalize o.zero.length = m2 at l6 ⊢
  generalize o.step.length = m3 at l7 ⊢
  generalize o.at_.length = m4 at l8 ⊢
  have h1 : (n1 : Int) ≤ 140737488351232 := by omega
  have h2 : (n2 : Int) ≤ 140737488351232 := by omega
  have h3 : (n3 : Int) ≤ 140737488351232 := by omega
  have h4 : (n4 : Int) ≤ 140737488351232 := by omega
  have h5 : (m1 : Int) ≤ 140737488351232 := by omega
  have h6 : (m2 : Int) ≤ 140737488351232 := by omega
  have h7 : (m3 : Int) ≤ 140737488351232 := by omega
  have h8 : (m4 : Int) ≤ 140737488351232 := by omega
  clear l1 l2 l3 l4 l5 l6 l7 l8
  rcases Int.lt_or_le 400 ((n1 : Int) + n2 + n3 + n4) with hs | hs
  · have g1 : decide ((400 : Int) < ((n1 : Int) + n2 + n3 + n4)) = true := decide_eq_true hs
    go_enter Tryd.func10, Tryd.ntmps10
    go_wp2_with fail
    go_ret
    exact ⟨true, rfl, (Below.refl _ _).alloc (Nat.le_refl _) _⟩
  · have g1 : decide ((400 : Int) < ((n1 : Int) + n2 + n3 + n4)) = false := decide_eq_false (by omega)
    rcases Int.lt_or_le 3000 ((m1 : Int) + m2 + m3 + m4) with ht | ht
    · have g2 : decide ((3000 : Int) < ((m1 : Int) + m2 + m3 + m4)) = true := decide_eq_true ht
      go_enter Tryd.func10, Tryd.ntmps10
      go_wp2_with fail
      go_ret
      exact ⟨true, rfl, (Below.refl _ _).alloc (Nat.le_refl _) _⟩
    · have g2 : decide ((3000 : Int) < ((m1 : Int) + m2 + m3 + m4)) = false := decide_eq_false (by omega)
      go_enter Tryd.func10, Tryd.ntmps10
      go_wp2_with fail
      go_ret
      exact ⟨false, rfl, (Below.refl _ _).alloc (Nat.le_refl _) _⟩
end Go.Proofs.YtceadfkjknjaoaaDoor
