/- code.read: what is read is what the bytes tell. -/
import Derived.Test.YtodblepbedhnnaaCoReadO
namespace Go.Proofs.Ytodblepbedhnnaa
open Go.RowKit Co

/-- what is told of bytes that are read -/
theorem rdO_rs (s : St) : rdO (rs s 0) = (⟨(lst 1 num (rs s 0)).1, (lst 1 num (rs s 1)).1, (lst 1 num (rs s 2)).1, (lst 1 num (rs s 3)).1, (num (rs s 4)).1, (num (rs s 5)).1, (lst 6 six (rs s 6)).1, (lst 6 six (rs s 7)).1, (lst 6 six (rs s 8)).1, (lst 6 six (rs s 9)).1⟩, rs s 10) := by
  have h0 : lst 1 num (rs s 0) = ((lst 1 num (rs s 0)).1, rs s 1) := pair_eta _ (rs_lt4 (s := s) (n := 0) (by omega)).symm
  have h1 : lst 1 num (rs s 1) = ((lst 1 num (rs s 1)).1, rs s 2) := pair_eta _ (rs_lt4 (s := s) (n := 1) (by omega)).symm
  have h2 : lst 1 num (rs s 2) = ((lst 1 num (rs s 2)).1, rs s 3) := pair_eta _ (rs_lt4 (s := s) (n := 2) (by omega)).symm
  have h3 : lst 1 num (rs s 3) = ((lst 1 num (rs s 3)).1, rs s 4) := pair_eta _ (rs_lt4 (s := s) (n := 3) (by omega)).symm
  have h4 : num (rs s 4) = ((num (rs s 4)).1, rs s 5) := pair_eta _ (rs_lt6 (s := s) (n := 4) (by omega) (by omega)).symm
  have h5 : num (rs s 5) = ((num (rs s 5)).1, rs s 6) := pair_eta _ (rs_lt6 (s := s) (n := 5) (by omega) (by omega)).symm
  have h6 : lst 6 six (rs s 6) = ((lst 6 six (rs s 6)).1, rs s 7) := pair_eta _ (rs_ge6 (s := s) (n := 6) (by omega)).symm
  have h7 : lst 6 six (rs s 7) = ((lst 6 six (rs s 7)).1, rs s 8) := pair_eta _ (rs_ge6 (s := s) (n := 7) (by omega)).symm
  have h8 : lst 6 six (rs s 8) = ((lst 6 six (rs s 8)).1, rs s 9) := pair_eta _ (rs_ge6 (s := s) (n := 8) (by omega)).symm
  have h9 : lst 6 six (rs s 9) = ((lst 6 six (rs s 9)).1, rs s 10) := pair_eta _ (rs_ge6 (s := s) (n := 9) (by omega)).symm
  have h := rdO_chain h0 h1 h2 h3 h4 h5 h6 h7 h8 h9
  exact h
theorem slot_ints {s : St} {B j : Nat} {v : Value} {w : World} (h : slotOk s B j v w) (hj : j < 4) : IntsAt w v (lst 1 num (rs s j)).1 := by
  unfold slotOk at h
  rw [if_pos hj] at h
  exact h.ints
theorem slot_sixes {s : St} {B j : Nat} {v : Value} {w : World} (h : slotOk s B j v w) (hj : 6 ≤ j) : SixesAt w v (lst 6 six (rs s j)).1 := by
  unfold slotOk at h
  rw [if_neg (by omega), if_neg (by omega)] at h
  exact h.sixes
theorem ten_kp {B k : Nat} (W : World) (hk : k < B) (v0 v1 v2 v3 v4 v5 v6 v7 v8 v9 : Value) : Kp B W ((((((((((W.setCell ⟨k, 0, none⟩ v0).setCell ⟨k, 1, none⟩ v1).setCell ⟨k, 2, none⟩ v2).setCell ⟨k, 3, none⟩ v3).setCell ⟨k, 4, none⟩ v4).setCell ⟨k, 5, none⟩ v5).setCell ⟨k, 6, none⟩ v6).setCell ⟨k, 7, none⟩ v7).setCell ⟨k, 8, none⟩ v8).setCell ⟨k, 9, none⟩ v9) := by
  refine Kp.trans ?_ (Kp.set _ hk v9)
  refine Kp.trans ?_ (Kp.set _ hk v8)
  refine Kp.trans ?_ (Kp.set _ hk v7)
  refine Kp.trans ?_ (Kp.set _ hk v6)
  refine Kp.trans ?_ (Kp.set _ hk v5)
  refine Kp.trans ?_ (Kp.set _ hk v4)
  refine Kp.trans ?_ (Kp.set _ hk v3)
  refine Kp.trans ?_ (Kp.set _ hk v2)
  refine Kp.trans ?_ (Kp.set _ hk v1)
  exact Kp.set _ hk v0
theorem ten_rd {w0 W : World} {R k : Nat} {s : St} (h : Rd w0 R s W) (hk : k ≠ R) (hl : w0.heap.size ≤ k) (v0 v1 v2 v3 v4 v5 v6 v7 v8 v9 : Value) : Rd w0 R s ((((((((((W.setCell ⟨k, 0, none⟩ v0).setCell ⟨k, 1, none⟩ v1).setCell ⟨k, 2, none⟩ v2).setCell ⟨k, 3, none⟩ v3).setCell ⟨k, 4, none⟩ v4).setCell ⟨k, 5, none⟩ v5).setCell ⟨k, 6, none⟩ v6).setCell ⟨k, 7, none⟩ v7).setCell ⟨k, 8, none⟩ v8).setCell ⟨k, 9, none⟩ v9) := by
  refine Rd.other ?_ hk hl v9
  refine Rd.other ?_ hk hl v8
  refine Rd.other ?_ hk hl v7
  refine Rd.other ?_ hk hl v6
  refine Rd.other ?_ hk hl v5
  refine Rd.other ?_ hk hl v4
  refine Rd.other ?_ hk hl v3
  refine Rd.other ?_ hk hl v2
  refine Rd.other ?_ hk hl v1
  exact Rd.other h hk hl v0
theorem ten_sm {w W : World} {R k : Nat} (h : Sm R w W) (hk : w.heap.size ≤ k) (v0 v1 v2 v3 v4 v5 v6 v7 v8 v9 : Value) : Sm R w ((((((((((W.setCell ⟨k, 0, none⟩ v0).setCell ⟨k, 1, none⟩ v1).setCell ⟨k, 2, none⟩ v2).setCell ⟨k, 3, none⟩ v3).setCell ⟨k, 4, none⟩ v4).setCell ⟨k, 5, none⟩ v5).setCell ⟨k, 6, none⟩ v6).setCell ⟨k, 7, none⟩ v7).setCell ⟨k, 8, none⟩ v8).setCell ⟨k, 9, none⟩ v9) := by
  refine Sm.own ?_ hk v9
  refine Sm.own ?_ hk v8
  refine Sm.own ?_ hk v7
  refine Sm.own ?_ hk v6
  refine Sm.own ?_ hk v5
  refine Sm.own ?_ hk v4
  refine Sm.own ?_ hk v3
  refine Sm.own ?_ hk v2
  refine Sm.own ?_ hk v1
  exact Sm.own h hk v0
theorem rs_zero (s : St) : rs s 0 = s := rfl
set_option maxHeartbeats 1000000 in
theorem read_any (w0 : World) (R : Nat) (s : St) (w : World) (h : Rd w0 R s w) :
    Calls Try.prog 19 #[.pointer (some ⟨R, 0, none⟩)] w fun e w' => ∃ s1 s2 s3 s4 t1 t2 t3 t4, e = .returned (.agg (obCells s1 s2 s3 s4 (rdO s).1.cross (rdO s).1.flags t1 t2 t3 t4)) ∧ (∀ W', Kp (w.heap.size + 2) w' W' → ObAt W' s1 s2 s3 s4 t1 t2 t3 t4 (rdO s).1) ∧ Rd w0 R (rdO s).2 w' ∧ Sm R w w' := by
  refine (read_core w0 R s w h).mono fun e w' ⟨vs, wr, hJ, he, hw⟩ => ?_
  have hR := h.lt
  have hl := h.below.size
  have kp : Kp (w.heap.size + 2) wr w' := by
    rw [hw]
    exact ten_kp wr (by omega) _ _ _ _ _ _ _ _ _ _
  have hne : w.heap.size ≠ R := by omega
  have hrd : Rd w0 R (rs s 10) w' := by
    rw [hw]
    exact ten_rd hJ.rd hne hl _ _ _ _ _ _ _ _ _ _
  have hle := Nat.le_refl w.heap.size
  have hsm : Sm R w w' := by
    rw [hw]
    exact ten_sm hJ.sm hle _ _ _ _ _ _ _ _ _ _
  have D : ∀ j, j < 10 → ∀ W', Kp (w.heap.size + 2) w' W' → slotOk s (w.heap.size + 2) j (vs j) W' := fun j hj W' hk => slot_kp (hJ.done j hj) (kp.trans hk)
  have kr : Kp (w.heap.size + 2) w' w' := ⟨Nat.le_refl _, fun _ _ _ => rfl⟩
  have i0 := fun W' hk => slot_ints (D 0 (by omega) W' hk) (by omega)
  have i1 := fun W' hk => slot_ints (D 1 (by omega) W' hk) (by omega)
  have i2 := fun W' hk => slot_ints (D 2 (by omega) W' hk) (by omega)
  have i3 := fun W' hk => slot_ints (D 3 (by omega) W' hk) (by omega)
  have i6 := fun W' hk => slot_sixes (D 6 (by omega) W' hk) (by omega)
  have i7 := fun W' hk => slot_sixes (D 7 (by omega) W' hk) (by omega)
  have i8 := fun W' hk => slot_sixes (D 8 (by omega) W' hk) (by omega)
  have i9 := fun W' hk => slot_sixes (D 9 (by omega) W' hk) (by omega)
  have d4 := slot_num (D 4 (by omega) w' kr) (by omega) (by omega)
  have d5 := slot_num (D 5 (by omega) w' kr) (by omega) (by omega)
  clear D
  have e0 := rdO_rs s
  rw [rs_zero] at e0
  rw [rs_zero] at i0
  generalize (lst 1 num s).1 = x0 at i0 e0
  generalize (lst 1 num (rs s 1)).1 = x1 at i1 e0
  generalize (lst 1 num (rs s 2)).1 = x2 at i2 e0
  generalize (lst 1 num (rs s 3)).1 = x3 at i3 e0
  generalize (num (rs s 4)).1 = x4 at d4 e0
  generalize (num (rs s 5)).1 = x5 at d5 e0
  generalize (lst 6 six (rs s 6)).1 = x6 at i6 e0
  generalize (lst 6 six (rs s 7)).1 = x7 at i7 e0
  generalize (lst 6 six (rs s 8)).1 = x8 at i8 e0
  generalize (lst 6 six (rs s 9)).1 = x9 at i9 e0
  generalize rs s 10 = s10 at hrd e0
  rw [e0]
  clear e0
  exact ⟨vs 0, vs 1, vs 2, vs 3, vs 6, vs 7, vs 8, vs 9, by rw [he]; unfold tenV obCells; rw [d4, d5], fun W' hk => ⟨i0 W' hk, i1 W' hk, i2 W' hk, i3 W' hk, i6 W' hk, i7 W' hk, i8 W' hk, i9 W' hk⟩, hrd, hsm⟩
end Go.Proofs.Ytodblepbedhnnaa
