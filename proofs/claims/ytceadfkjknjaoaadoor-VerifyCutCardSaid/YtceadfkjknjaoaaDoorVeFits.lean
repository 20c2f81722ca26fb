/- verify.fits, Most: what an object has besides instructions. -/
import Derived.Test.YtceadfkjknjaoaaDoorVePieces
namespace Go.Proofs.YtceadfkjknjaoaaDoor
open Go.RowKit Co

attribute [local go_sem] Oper.semAt_some

/-- the j-th of four values -/
theorem ix_four (a b c d : Value) (ha : ∃ o n m, a = .slice o n m) (hb : ∃ o n m, b = .slice o n m) (hc : ∃ o n m, c = .slice o n m) (hd : ∃ o n m, d = .slice o n m) (j : Nat) (hj : j < 4) (w : World) : (Instr.index 49 (.agg #[a, b, c, d]) (.int .i64 (j : Int))).run Tryd.prog w = .ok ([a, b, c, d].getD j undef) w := by
  obtain ⟨_, _, _, rfl⟩ := ha
  obtain ⟨_, _, _, rfl⟩ := hb
  obtain ⟨_, _, _, rfl⟩ := hc
  obtain ⟨_, _, _, rfl⟩ := hd
  rcases (show j = 0 ∨ j = 1 ∨ j = 2 ∨ j = 3 by omega) with rfl | rfl | rfl | rfl
  all_goals kernel_rfl
theorem pieceL_len (o : Ob) (j : Nat) : ((pieceL o j).length : Nat) = [o.deriv.length, o.zero.length, o.step.length, o.at_.length].getD j 0 := by
  unfold pieceL
  match j with
  | 0 => rfl
  | 1 => rfl
  | 2 => rfl
  | 3 => rfl
  | n + 4 => rfl
theorem piece_slice {o : Ob} (q1 q2 q3 q4 : Option Addr) (d1 d2 d3 d4 : Nat) (j : Nat) (hj : j < 4) : ∃ q d, [Value.slice q1 o.deriv.length d1, .slice q2 o.zero.length d2, .slice q3 o.step.length d3, .slice q4 o.at_.length d4].getD j undef = .slice q (pieceL o j).length d := by
  rcases (show j = 0 ∨ j = 1 ∨ j = 2 ∨ j = 3 by omega) with rfl | rfl | rfl | rfl
  · exact ⟨_, _, rfl⟩
  · exact ⟨_, _, rfl⟩
  · exact ⟨_, _, rfl⟩
  · exact ⟨_, _, rfl⟩
theorem ten_cells (w : World) (a0 a1 a2 a3 a4 a5 a6 a7 a8 a9 : Value) : ∀ j u, [a0, a1, a2, a3, a4, a5, a6, a7, a8, a9][j]? = some u → (w.alloc (.cells #[a0, a1, a2, a3, a4, a5, a6, a7, a8, a9] 29)).cell? ⟨w.heap.size, j, none⟩ = some u := fun j u hu => by
  rw [World.cell?_alloc_new, ← Array.getElem?_toList]; exact hu
/-- what an object has besides its pieces -/
def fitsB (o : Ob) : Bool := typedL o.inn && (typedL o.out && (decide (o.state.length ≤ 200) && (decide (o.mem.length ≤ 200) && (decide (0 ≤ o.cross) && (decide (o.cross ≤ 200) && (decide (0 ≤ o.flags) && decide (o.flags ≤ 3)))))))
def lensB (o : Ob) : Bool := [0, 1, 2, 3].all fun k => decide ((pieceL o k).length ≤ 4000)
theorem lens_iff (o : Ob) : lensB o = true ↔ ∀ k, k < 4 → (pieceL o k).length ≤ 4000 := by
  unfold lensB
  rw [List.all_eq_true]
  constructor
  · intro h k hk
    exact of_decide_eq_true (h k (by rcases (show k = 0 ∨ k = 1 ∨ k = 2 ∨ k = 3 by omega) with rfl | rfl | rfl | rfl <;> simp))
  · intro h k hk
    refine decide_eq_true (h k ?_)
    simp at hk
    omega
theorem fits_iff (o : Ob) : (lensB o && fitsB o) = true ↔ Fits o := by
  unfold fitsB Fits
  simp only [Bool.and_eq_true, decide_eq_true_eq, lens_iff]
  constructor
  · rintro ⟨h9, h1, h2, h3, h4, h5, h6, h7, h8⟩; exact ⟨h1, h2, h3, h4, h5, h6, h7, h8, h9⟩
  · rintro ⟨h1, h2, h3, h4, h5, h6, h7, h8, h9⟩; exact ⟨h9, h1, h2, h3, h4, h5, h6, h7, h8⟩
set_option maxHeartbeats 16000000 in
set_option maxRecDepth 100000 in
theorem fits_any (o : Ob) (s1 s2 s3 s4 t1 t2 t3 t4 : Value) (w : World) (hO : ObAt w s1 s2 s3 s4 t1 t2 t3 t4 o) (hl : ObLen o) :
    Calls Tryd.prog 21 #[.agg (obCells s1 s2 s3 s4 o.cross o.flags t1 t2 t3 t4)] w fun e w' => e = .returned (.bool (lensB o && fitsB o)) ∧ Below w.heap.size w w' := by
  have hr : reachN ≤ 140737488351232 := Nat.le_refl _
  have l1 := hl.inn
  have l2 := hl.out
  have l3 := hl.state
  have l4 := hl.mem
  have hl5 : Hid (∀ j, j < 4 → (pieceL o j).length ≤ 140737488351232) := Lib.hid fun j hj => by
    have h5 := hl.deriv
    have h6 := hl.zero
    have h7 := hl.step
    have h8 := hl.at_
    rcases (show j = 0 ∨ j = 1 ∨ j = 2 ∨ j = 3 by omega) with rfl | rfl | rfl | rfl
    · exact h5
    · exact h6
    · exact h7
    · exact h8
  have T1 := Lib.hid fun (W : World) (hb : Below w.heap.size w W) => typed_any o.inn s1 W (hO.inn.below hb) (by omega)
  have T2 := Lib.hid fun (W : World) (hb : Below w.heap.size w W) => typed_any o.out s2 W (hO.out.below hb) (by omega)
  obtain ⟨o1, c1, o2, c2, o3, c3, o4, c4, q1, d1, q2, d2, q3, d3, q4, d4, rfl, rfl, rfl, rfl, rfl, rfl, rfl, rfl⟩ := obAt_slices hO
  have PC := Lib.hid (pieces_any o1 o2 o3 o4 q1 q2 q3 q4 o.inn.length o.out.length o.state.length o.mem.length o.deriv.length o.zero.length o.step.length o.at_.length c1 c2 c3 c4 d1 d2 d3 d4 o.cross o.flags)
  have PS := Lib.hid (piece_slice (o := o) q1 q2 q3 q4 d1 d2 d3 d4)
  obtain ⟨A, hA⟩ : ∃ A, A = typedL o.inn := ⟨_, rfl⟩
  obtain ⟨B, hB⟩ : ∃ B, B = typedL o.out := ⟨_, rfl⟩
  rw [← hA] at T1
  rw [← hB] at T2
  have HF : Hid (fitsB o = (A && (B && (decide (o.state.length ≤ 200) && (decide (o.mem.length ≤ 200) && (decide (0 ≤ o.cross) && (decide (o.cross ≤ 200) && (decide (0 ≤ o.flags) && decide (o.flags ≤ 3))))))))) := Lib.hid (by rw [hA, hB]; rfl)
  have HLB : Hid (lensB o = true ↔ ∀ k, k < 4 → (pieceL o k).length ≤ 4000) := Lib.hid (lens_iff o)
  obtain ⟨FB, hFB⟩ : ∃ FB, FB = fitsB o := ⟨_, rfl⟩
  obtain ⟨LB, hLB⟩ : ∃ LB, LB = lensB o := ⟨_, rfl⟩
  have HLE := Lib.hid hLB
  rw [← hFB] at HF ⊢
  rw [← hLB]
  obtain ⟨C, hC⟩ : ∃ C, C = o.cross := ⟨_, rfl⟩
  obtain ⟨F, hF⟩ : ∃ F, F = o.flags := ⟨_, rfl⟩
  rw [← hC, ← hF] at HF PC ⊢
  have y1 : (o.state.length : Int) ≤ 140737488351232 := by unfold reachN at *; omega
  have y2 : (o.mem.length : Int) ≤ 140737488351232 := by unfold reachN at *; omega
  clear hA hB hFB hLB hC hF l1 l2 l3 l4 hr hl hO
  obtain ⟨ns, hns⟩ : ∃ ns, ns = o.state.length := ⟨_, rfl⟩
  obtain ⟨nm, hnm⟩ : ∃ nm, nm = o.mem.length := ⟨_, rfl⟩
  rw [← hns] at HF PC y1 ⊢
  rw [← hnm] at HF PC y2 ⊢
  clear hns hnm
  unfold obCells
  have hx0 := ten_cells w (.slice o1 o.inn.length c1) (.slice o2 o.out.length c2) (.slice o3 ns c3) (.slice o4 nm c4) (.int .i64 C) (.int .i64 F) (.slice q1 o.deriv.length d1) (.slice q2 o.zero.length d2) (.slice q3 o.step.length d3) (.slice q4 o.at_.length d4)
  have HX := Lib.hid hx0
  clear hx0
  go_enter Tryd.func21, Tryd.ntmps21
  go_wp2_with (go_at_call 22; (with_reducible refine (PC.out _).mono ?_); rintro e w1 ⟨rfl, hb1⟩; have HB1 := Lib.hid (((Below.refl w.heap.size w).alloc (Nat.le_refl _) _).trans (hb1.mono (by simp))); have x0 := cell_on hb1 (HX.out 0 _ rfl); have x1 := cell_on hb1 (HX.out 1 _ rfl); have x2 := cell_on hb1 (HX.out 2 _ rfl); have x3 := cell_on hb1 (HX.out 3 _ rfl); have x4 := cell_on hb1 (HX.out 4 _ rfl); have x5 := cell_on hb1 (HX.out 5 _ rfl); clear hb1)
  go_loopw [7] (fun i wr => ∃ (j : Nat), i = .int .i64 (j : Int) ∧ Hid (∀ k, k < j → (pieceL o k).length ≤ 4000) ∧ j ≤ 4 ∧ w1 = wr) (fun i _ => match i with | .int _ z => 4 - z.toNat | _ => 0)
  case atStart => exact ⟨0, rfl, Lib.hid (by omega), Nat.zero_le _, rfl⟩
  case round =>
    obtain ⟨j, rfl, hI, hj, rfl⟩ := hrel
    rcases Nat.lt_or_ge j 4 with hj4 | hj4
    · have hj5 : (j : Int) < 4 := by omega
      have ix := Lib.hid (ix_four _ _ _ _ ⟨q1, o.deriv.length, d1, rfl⟩ ⟨q2, o.zero.length, d2, rfl⟩ ⟨q3, o.step.length, d3, rfl⟩ ⟨q4, o.at_.length, d4, rfl⟩ j hj4 w1)
      obtain ⟨q, dq, hq⟩ := PS.out j hj4
      rw [hq] at ix
      have HLL := Lib.hid (hl5.out j hj4)
      obtain ⟨k, hk⟩ : ∃ k, k = (pieceL o j).length := ⟨_, rfl⟩
      rw [← hk] at ix HLL
      have HK := Lib.hid hk
      clear hq hk
      rcases Int.lt_or_le 4000 (k : Int) with hk1 | hk1
      · have hno : Hid (lensB o = false) := Lib.hid (by
          rw [Bool.eq_false_iff]
          intro h
          have := (lens_iff o).1 h j hj4
          have := HK.out
          omega)
        have hk2 : (4000 : Int) < (k : Int) := hk1
        go_wp2_with (first | (refine wpList_index _ rfl _ (.tmp 6) (.tmp 7) rfl _ _ _ rfl rfl ix.out ?_) | fail)
        go_ret
        exact ⟨by rw [HLE.out, hno.out]; rfl, HB1.out⟩
      · have hI2 : Hid (∀ i, i < j + 1 → (pieceL o i).length ≤ 4000) := Lib.hid fun i hi => by
          rcases Nat.lt_or_ge i j with h | h
          · exact hI.out i h
          · obtain rfl : i = j := by omega
            have := HK.out
            omega
        go_wp2_with (first | (refine wpList_index _ rfl _ (.tmp 6) (.tmp 7) rfl _ _ _ rfl rfl ix.out ?_) | fail)
        exact ⟨⟨j + 1, by go_num, hI2, by omega, trivial⟩, by simp; omega⟩
    · obtain rfl : j = 4 := by omega
      have hno : ¬ ((4 : Nat) : Int) < 4 := by omega
      have hL : Hid (LB = true) := Lib.hid (by rw [HLE.out]; exact (lens_iff o).2 hI.out)
      have Fin : Hid (FB = (A && (B && (decide (ns ≤ 200) && (decide (nm ≤ 200) && (decide (0 ≤ C) && (decide (C ≤ 200) && (decide (0 ≤ F) && decide (F ≤ 3))))))))) := HF
      rcases Bool.eq_false_or_eq_true A with hh | hh
      rotate_left
      · subst hh
        go_wp2_with (go_at_call 27; first | ((with_reducible refine (T1.out _ HB1.out).mono ?_); rintro e w2 ⟨rfl, rfl⟩) | ((with_reducible refine (T2.out _ HB1.out).mono ?_); rintro e w2 ⟨rfl, rfl⟩))
        go_ret
        exact ⟨by rw [hL.out, Fin.out]; first | (simp; done) | (simp; omega) | (simp; intros; omega) | (rw [show decide (ns ≤ 200) = true from decide_eq_true (by omega), show decide (nm ≤ 200) = true from decide_eq_true (by omega), show decide (0 ≤ C) = true from decide_eq_true (by omega), show decide (C ≤ 200) = true from decide_eq_true (by omega), show decide (0 ≤ F) = true from decide_eq_true (by omega)]; rfl), HB1.out⟩
      subst hh
      rcases Bool.eq_false_or_eq_true B with hh | hh
      rotate_left
      · subst hh
        go_wp2_with (go_at_call 27; first | ((with_reducible refine (T1.out _ HB1.out).mono ?_); rintro e w2 ⟨rfl, rfl⟩) | ((with_reducible refine (T2.out _ HB1.out).mono ?_); rintro e w2 ⟨rfl, rfl⟩))
        go_ret
        exact ⟨by rw [hL.out, Fin.out]; first | (simp; done) | (simp; omega) | (simp; intros; omega) | (rw [show decide (ns ≤ 200) = true from decide_eq_true (by omega), show decide (nm ≤ 200) = true from decide_eq_true (by omega), show decide (0 ≤ C) = true from decide_eq_true (by omega), show decide (C ≤ 200) = true from decide_eq_true (by omega), show decide (0 ≤ F) = true from decide_eq_true (by omega)]; rfl), HB1.out⟩
      subst hh
      by_cases h2 : (ns : Int) ≤ 200
      rotate_left
      · go_wp2_with (go_at_call 27; first | ((with_reducible refine (T1.out _ HB1.out).mono ?_); rintro e w2 ⟨rfl, rfl⟩) | ((with_reducible refine (T2.out _ HB1.out).mono ?_); rintro e w2 ⟨rfl, rfl⟩))
        go_ret
        exact ⟨by rw [hL.out, Fin.out]; first | (simp; done) | (simp; omega) | (simp; intros; omega) | (rw [show decide (ns ≤ 200) = true from decide_eq_true (by omega), show decide (nm ≤ 200) = true from decide_eq_true (by omega), show decide (0 ≤ C) = true from decide_eq_true (by omega), show decide (C ≤ 200) = true from decide_eq_true (by omega), show decide (0 ≤ F) = true from decide_eq_true (by omega)]; rfl), HB1.out⟩
      by_cases h3 : (nm : Int) ≤ 200
      rotate_left
      · go_wp2_with (go_at_call 27; first | ((with_reducible refine (T1.out _ HB1.out).mono ?_); rintro e w2 ⟨rfl, rfl⟩) | ((with_reducible refine (T2.out _ HB1.out).mono ?_); rintro e w2 ⟨rfl, rfl⟩))
        go_ret
        exact ⟨by rw [hL.out, Fin.out]; first | (simp; done) | (simp; omega) | (simp; intros; omega) | (rw [show decide (ns ≤ 200) = true from decide_eq_true (by omega), show decide (nm ≤ 200) = true from decide_eq_true (by omega), show decide (0 ≤ C) = true from decide_eq_true (by omega), show decide (C ≤ 200) = true from decide_eq_true (by omega), show decide (0 ≤ F) = true from decide_eq_true (by omega)]; rfl), HB1.out⟩
      by_cases h4 : 0 ≤ C
      rotate_left
      · go_wp2_with (go_at_call 27; first | ((with_reducible refine (T1.out _ HB1.out).mono ?_); rintro e w2 ⟨rfl, rfl⟩) | ((with_reducible refine (T2.out _ HB1.out).mono ?_); rintro e w2 ⟨rfl, rfl⟩))
        go_ret
        exact ⟨by rw [hL.out, Fin.out]; first | (simp; done) | (simp; omega) | (simp; intros; omega) | (rw [show decide (ns ≤ 200) = true from decide_eq_true (by omega), show decide (nm ≤ 200) = true from decide_eq_true (by omega), show decide (0 ≤ C) = true from decide_eq_true (by omega), show decide (C ≤ 200) = true from decide_eq_true (by omega), show decide (0 ≤ F) = true from decide_eq_true (by omega)]; rfl), HB1.out⟩
      by_cases h5 : C ≤ 200
      rotate_left
      · go_wp2_with (go_at_call 27; first | ((with_reducible refine (T1.out _ HB1.out).mono ?_); rintro e w2 ⟨rfl, rfl⟩) | ((with_reducible refine (T2.out _ HB1.out).mono ?_); rintro e w2 ⟨rfl, rfl⟩))
        go_ret
        exact ⟨by rw [hL.out, Fin.out]; first | (simp; done) | (simp; omega) | (simp; intros; omega) | (rw [show decide (ns ≤ 200) = true from decide_eq_true (by omega), show decide (nm ≤ 200) = true from decide_eq_true (by omega), show decide (0 ≤ C) = true from decide_eq_true (by omega), show decide (C ≤ 200) = true from decide_eq_true (by omega), show decide (0 ≤ F) = true from decide_eq_true (by omega)]; rfl), HB1.out⟩
      by_cases h6 : 0 ≤ F
      rotate_left
      · go_wp2_with (go_at_call 27; first | ((with_reducible refine (T1.out _ HB1.out).mono ?_); rintro e w2 ⟨rfl, rfl⟩) | ((with_reducible refine (T2.out _ HB1.out).mono ?_); rintro e w2 ⟨rfl, rfl⟩))
        go_ret
        exact ⟨by rw [hL.out, Fin.out]; first | (simp; done) | (simp; omega) | (simp; intros; omega) | (rw [show decide (ns ≤ 200) = true from decide_eq_true (by omega), show decide (nm ≤ 200) = true from decide_eq_true (by omega), show decide (0 ≤ C) = true from decide_eq_true (by omega), show decide (C ≤ 200) = true from decide_eq_true (by omega), show decide (0 ≤ F) = true from decide_eq_true (by omega)]; rfl), HB1.out⟩
      go_wp2_with (go_at_call 27; first | ((with_reducible refine (T1.out _ HB1.out).mono ?_); rintro e w2 ⟨rfl, rfl⟩) | ((with_reducible refine (T2.out _ HB1.out).mono ?_); rintro e w2 ⟨rfl, rfl⟩))
      go_ret
      exact ⟨by rw [hL.out, Fin.out]; first | (simp; done) | (simp; omega) | (simp; intros; omega) | (rw [show decide (ns ≤ 200) = true from decide_eq_true (by omega), show decide (nm ≤ 200) = true from decide_eq_true (by omega), show decide (0 ≤ C) = true from decide_eq_true (by omega), show decide (C ≤ 200) = true from decide_eq_true (by omega), show decide (0 ≤ F) = true from decide_eq_true (by omega)]; rfl), HB1.out⟩
/-- verify.Most: no more than all pieces have -/
def mostO (o : Ob) : Int := (o.deriv.length : Int) + o.zero.length + o.step.length + o.at_.length
def sumTo (o : Ob) : Nat → Int
  | 0 => 0
  | j + 1 => sumTo o j + (pieceL o j).length
theorem sumTo_four (o : Ob) : sumTo o 4 = mostO o := by
  unfold sumTo sumTo sumTo sumTo sumTo mostO pieceL
  simp
theorem sumTo_le {o : Ob} (h : ∀ j, j < 4 → (pieceL o j).length ≤ 140737488351232) : ∀ j, j ≤ 4 → 0 ≤ sumTo o j ∧ sumTo o j ≤ j * 140737488351232
  | 0, _ => ⟨Int.le_refl _, by simp [sumTo]⟩
  | j + 1, hj => by
    obtain ⟨h1, h2⟩ := sumTo_le h j (by omega)
    have := h j (by omega)
    unfold sumTo
    omega
set_option maxHeartbeats 16000000 in
set_option maxRecDepth 100000 in
theorem most_any (o : Ob) (s1 s2 s3 s4 t1 t2 t3 t4 : Value) (w : World) (hO : ObAt w s1 s2 s3 s4 t1 t2 t3 t4 o) (hl : ObLen o) :
    Calls Tryd.prog 13 #[.agg (obCells s1 s2 s3 s4 o.cross o.flags t1 t2 t3 t4)] w fun e w' => e = .returned (.int .i64 (mostO o)) ∧ Below w.heap.size w w' := by
  have hl5 : Hid (∀ j, j < 4 → (pieceL o j).length ≤ 140737488351232) := Lib.hid fun j hj => by
    have h5 := hl.deriv
    have h6 := hl.zero
    have h7 := hl.step
    have h8 := hl.at_
    rcases (show j = 0 ∨ j = 1 ∨ j = 2 ∨ j = 3 by omega) with rfl | rfl | rfl | rfl
    · exact h5
    · exact h6
    · exact h7
    · exact h8
  obtain ⟨o1, c1, o2, c2, o3, c3, o4, c4, q1, d1, q2, d2, q3, d3, q4, d4, rfl, rfl, rfl, rfl, rfl, rfl, rfl, rfl⟩ := obAt_slices hO
  have PC := Lib.hid (pieces_any o1 o2 o3 o4 q1 q2 q3 q4 o.inn.length o.out.length o.state.length o.mem.length o.deriv.length o.zero.length o.step.length o.at_.length c1 c2 c3 c4 d1 d2 d3 d4 o.cross o.flags)
  have PS := Lib.hid (piece_slice (o := o) q1 q2 q3 q4 d1 d2 d3 d4)
  clear hO hl
  unfold obCells
  go_enter Tryd.func13, Tryd.ntmps13
  go_wp2_with (go_at_call 22; (with_reducible refine (PC.out _).mono ?_); rintro e w1 ⟨rfl, hb1⟩; have HB1 := Lib.hid (((Below.refl w.heap.size w).alloc (Nat.le_refl _) _).trans (hb1.mono (by simp))); clear hb1)
  go_loopw [8, 3] (fun i t wr => ∃ (j : Nat), i = .int .i64 (j : Int) ∧ t = .int .i64 (sumTo o j) ∧ j ≤ 4 ∧ w1 = wr) (fun i _ _ => match i with | .int _ z => 4 - z.toNat | _ => 0)
  case atStart => exact ⟨0, rfl, rfl, Nat.zero_le _, rfl⟩
  case round =>
    obtain ⟨j, rfl, rfl, hj, rfl⟩ := hrel
    rcases Nat.lt_or_ge j 4 with hj4 | hj4
    · have hj5 : (j : Int) < 4 := by omega
      have ix := Lib.hid (ix_four _ _ _ _ ⟨q1, o.deriv.length, d1, rfl⟩ ⟨q2, o.zero.length, d2, rfl⟩ ⟨q3, o.step.length, d3, rfl⟩ ⟨q4, o.at_.length, d4, rfl⟩ j hj4 w1)
      obtain ⟨q, dq, hq⟩ := PS.out j hj4
      rw [hq] at ix
      obtain ⟨p1, p2⟩ := sumTo_le hl5.out j hj
      have p3 := hl5.out j hj4
      obtain ⟨k, hk⟩ : ∃ k, k = (pieceL o j).length := ⟨_, rfl⟩
      obtain ⟨t, ht⟩ : ∃ t, t = sumTo o j := ⟨_, rfl⟩
      rw [← hk] at ix p3
      rw [← ht] at p1 p2 ⊢
      have p4 : t ≤ 562949953404928 := by omega
      have p5 : (k : Int) ≤ 140737488351232 := by omega
      have HS : Hid (sumTo o (j + 1) = t + (k : Int)) := Lib.hid (by rw [ht, hk]; rfl)
      clear hq hk ht p2 p3
      go_wp2_with (first | (refine wpList_index _ rfl _ (.tmp 7) (.tmp 8) rfl _ _ _ rfl rfl ix.out ?_) | fail)
      exact ⟨⟨j + 1, by go_num, by rw [HS.out], by omega, trivial⟩, by simp; omega⟩
    · obtain rfl : j = 4 := by omega
      have hno : ¬ ((4 : Nat) : Int) < 4 := by omega
      rw [sumTo_four]
      go_wp2_with fail
      go_ret
      exact ⟨rfl, HB1.out⟩
end Go.Proofs.YtceadfkjknjaoaaDoor
