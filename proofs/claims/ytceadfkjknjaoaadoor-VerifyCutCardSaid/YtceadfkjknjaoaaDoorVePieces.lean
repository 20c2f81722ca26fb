/- verify.pieces, typed, Most; the reference's Pieces. -/
import Derived.Test.YtceadfkjknjaoaaDoorVeRegs
namespace Go.Proofs.YtceadfkjknjaoaaDoor
open Go.RowKit Co

attribute [local go_sem] Oper.semAt_some

theorem obAt_slices {w : World} {s1 s2 s3 s4 t1 t2 t3 t4 : Value} {o : Ob} (h : ObAt w s1 s2 s3 s4 t1 t2 t3 t4 o) :
    ∃ o1 c1 o2 c2 o3 c3 o4 c4 q1 d1 q2 d2 q3 d3 q4 d4, s1 = .slice o1 o.inn.length c1 ∧ s2 = .slice o2 o.out.length c2 ∧ s3 = .slice o3 o.state.length c3 ∧ s4 = .slice o4 o.mem.length c4 ∧ t1 = .slice q1 o.deriv.length d1 ∧ t2 = .slice q2 o.zero.length d2 ∧ t3 = .slice q3 o.step.length d3 ∧ t4 = .slice q4 o.at_.length d4 := by
  obtain ⟨_, _, _, _, rfl, _⟩ := h.inn
  obtain ⟨_, _, _, _, rfl, _⟩ := h.out
  obtain ⟨_, _, _, _, rfl, _⟩ := h.state
  obtain ⟨_, _, _, _, rfl, _⟩ := h.mem
  obtain ⟨_, _, _, _, rfl, _⟩ := h.deriv
  obtain ⟨_, _, _, _, rfl, _⟩ := h.zero
  obtain ⟨_, _, _, _, rfl, _⟩ := h.step
  obtain ⟨_, _, _, _, rfl, _⟩ := h.at_
  exact ⟨_, _, _, _, _, _, _, _, _, _, _, _, _, _, _, _, rfl, rfl, rfl, rfl, rfl, rfl, rfl, rfl⟩
theorem four_end {W : World} {B : Nat} {v0 v1 v2 v3 : Value} (h : W.heap[B]? = some (.cells #[v0, v1, v2, v3] 49 (0, 0))) : (loadVar 49 ⟨B, 0, none⟩).run Tryd.prog W = .ok (.agg #[v0, v1, v2, v3]) W :=
  run_loadVar_row _ _ _ _ _ _ _ h Tryd.underlying49 rfl (by kernel_rfl)
set_option maxHeartbeats 8000000 in
set_option maxRecDepth 100000 in
theorem pieces_any (o1 o2 o3 o4 q1 q2 q3 q4 : Option Addr) (n1 n2 n3 n4 m1 m2 m3 m4 c1 c2 c3 c4 d1 d2 d3 d4 : Nat) (x y : Int) (w : World) : Calls Tryd.prog 22 #[.agg #[.slice o1 n1 c1, .slice o2 n2 c2, .slice o3 n3 c3, .slice o4 n4 c4, .int .i64 x, .int .i64 y, .slice q1 m1 d1, .slice q2 m2 d2, .slice q3 m3 d3, .slice q4 m4 d4]] w fun e w' => e = .returned (.agg #[.slice q1 m1 d1, .slice q2 m2 d2, .slice q3 m3 d3, .slice q4 m4 d4]) ∧ Below w.heap.size w w' := by
  go_enter Tryd.func22, Tryd.ntmps22
  go_wp2_with fail
  exact bodyPost_ret (results_cell rfl _ ⟨w.heap.size + 1, 0, none⟩ rfl (four_end (al_new (by simp)))) rfl ⟨rfl, ((Below.refl w.heap.size w).alloc (Nat.le_refl _) _).alloc (by simp) _⟩
set_option maxHeartbeats 8000000 in
set_option maxRecDepth 100000 in
theorem rpieces_any (o1 o2 o3 o4 q1 q2 q3 q4 : Option Addr) (n1 n2 n3 n4 m1 m2 m3 m4 c1 c2 c3 c4 d1 d2 d3 d4 : Nat) (x y : Int) (w : World) : Calls Tryd.prog 14 #[.agg #[.slice o1 n1 c1, .slice o2 n2 c2, .slice o3 n3 c3, .slice o4 n4 c4, .int .i64 x, .int .i64 y, .slice q1 m1 d1, .slice q2 m2 d2, .slice q3 m3 d3, .slice q4 m4 d4]] w fun e w' => e = .returned (.slice (some ⟨w.heap.size + 1, 0, none⟩) 4 4) ∧ w'.heap[w.heap.size + 1]? = some (.cells #[.slice q1 m1 d1, .slice q2 m2 d2, .slice q3 m3 d3, .slice q4 m4 d4] 22 (0, 0)) ∧ Below w.heap.size w w' := by
  go_enter Tryd.func14, Tryd.ntmps14
  go_wp2_with fail
  go_ret
  exact ⟨rfl, al_new (by simp), ((Below.refl w.heap.size w).alloc (Nat.le_refl _) _).alloc (by simp) _⟩
theorem all_next {l : List Int} {c : Nat} {x : Int} {p : Int → Bool} (h : l[c]? = some x) (hc : (l.take c).all p = true) (hx : p x = true) : (l.take (c + 1)).all p = true := by
  rw [take_next h, List.all_append, hc]; simp [hx]
theorem all_stop {l : List Int} {c : Nat} {x : Int} {p : Int → Bool} (h : l[c]? = some x) (hx : p x = false) : l.all p = false := by
  rw [Bool.eq_false_iff]
  intro ha
  have := List.all_eq_true.1 ha x (List.mem_of_getElem? h)
  rw [hx] at this
  cases this
def oneTwo (t : Int) : Bool := decide (t = 1) || decide (t = 2)
set_option maxHeartbeats 8000000 in
set_option maxRecDepth 100000 in
theorem typed_any (l : List Int) (s : Value) (w : World) (hs : IntsAt w s l) (hl : l.length ≤ 9223372036854775807) :
    Calls Tryd.prog 27 #[s] w fun e w' => e = .returned (.bool (typedL l)) ∧ w = w' := by
  obtain ⟨o, cap, b, off, rfl, _, _, e1, c1⟩ := hs
  obtain ⟨n, hn⟩ : ∃ n, n = l.length := ⟨_, rfl⟩
  rw [← hn] at e1 c1 hl ⊢
  obtain ⟨T, hT⟩ : ∃ T, T = typedL l := ⟨_, rfl⟩
  rw [← hT]
  have HT := Lib.hid hT
  have HN := Lib.hid hn
  have E1 := Lib.hid e1
  have C1 := Lib.hid c1
  have hnl : (n : Int) ≤ 9223372036854775807 := by omega
  clear hn e1 c1 hl hT
  go_enter Tryd.func27, Tryd.ntmps27
  go_wp2_with fail
  go_loopw [7] (fun i wr => ∃ (c : Nat), i = .int .i64 (c : Int) ∧ Hid ((l.take c).all oneTwo = true) ∧ c ≤ n ∧ Hid (w = wr)) (fun i _ => match i with | .int _ z => n - z.toNat | _ => 0)
  case atStart => exact ⟨0, rfl, Lib.hid (by simp), Nat.zero_le _, Lib.hid rfl⟩
  case round =>
    obtain ⟨c, rfl, hI, hc, hB⟩ := hrel
    rcases Nat.lt_or_ge c n with hlt | hge
    · have hcl : (c : Int) < (n : Int) := by omega
      obtain ⟨x, hx⟩ : ∃ x, l[c]? = some x := ⟨_, List.getElem?_eq_getElem (by rw [← HN.out]; exact hlt)⟩
      have z0 : wr.cell? ⟨b, off + c, none⟩ = some (.int .i64 x) := by
        have := C1.out c hlt
        rw [Nat.mul_one, List.getD_eq_getElem?_getD, hx] at this
        rw [← hB.out]; exact this
      have ix1 := ix_ints (cap := cap) E1.out hlt (by omega)
      unfold Ix at ix1
      rw [Nat.mul_one] at ix1
      have HX := Lib.hid hx
      clear hx
      by_cases h1 : x = 1
      · have q1 : (x != 1) = false := by simp [h1]
        have hI2 := Lib.hid (all_next HX.out hI.out (show oneTwo x = true by unfold oneTwo; simp [h1]))
        clear h1
        go_wp2_with fail
        exact ⟨⟨c + 1, by go_num, hI2, by omega, hB⟩, by simp; omega⟩
      · have q1 : (x != 1) = true := bne_iff_ne.2 h1
        have H1 := Lib.hid h1
        clear h1
        by_cases h2 : x = 2
        · have q2 : (x != 2) = false := by simp [h2]
          have hI2 := Lib.hid (all_next HX.out hI.out (show oneTwo x = true by unfold oneTwo; simp [h2]))
          clear h2
          go_wp2_with fail
          exact ⟨⟨c + 1, by go_num, hI2, by omega, hB⟩, by simp; omega⟩
        · have q2 : (x != 2) = true := bne_iff_ne.2 h2
          have hI2 := Lib.hid (all_stop HX.out (show oneTwo x = false by unfold oneTwo; simp [H1.out, h2]))
          clear h2
          go_wp2_with fail
          go_ret
          refine ⟨?_, hB.out⟩
          rw [HT.out]
          unfold typedL
          rw [show (l.all fun t => decide (t = 1) || decide (t = 2)) = false from hI2.out]
          rfl
    · obtain rfl : c = n := by omega
      have hno : ¬ (c : Int) < (c : Int) := by omega
      have hT2 : Hid (T = decide (l.length ≤ 200)) := Lib.hid (by
        rw [HT.out]
        unfold typedL
        have := hI.out
        rw [HN.out, List.take_length] at this
        rw [show (l.all fun t => decide (t = 1) || decide (t = 2)) = true from this, Bool.true_and])
      rcases Nat.lt_or_ge 200 c with h | h
      · have q : ¬ (c : Int) ≤ 200 := by omega
        go_wp2_with fail
        go_ret
        exact ⟨by rw [hT2.out, ← HN.out, decide_eq_false (by omega)]; rfl, hB.out⟩
      · have q : (c : Int) ≤ 200 := by omega
        go_wp2_with fail
        go_ret
        exact ⟨by rw [hT2.out, ← HN.out, decide_eq_true (by omega)]; rfl, hB.out⟩
end Go.Proofs.YtceadfkjknjaoaaDoor
