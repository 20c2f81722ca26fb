/- The reference's Equal of layer 16. -/
import Derived.Test.YtodblepbedhnnaaCoEqO
import Derived.Test.YtodblepbedhnnaaCoSeqO
namespace Go.Proofs.Ytodblepbedhnnaa
open Go.RowKit Co
set_option maxHeartbeats 8000000 in
theorem req_any (a b : Ob) (s1 s2 s3 s4 t1 t2 t3 t4 u1 u2 u3 u4 v1 v2 v3 v4 : Value) (w : World) (hA : ObAt w s1 s2 s3 s4 t1 t2 t3 t4 a) (hB : ObAt w u1 u2 u3 u4 v1 v2 v3 v4 b) (ka : a.ok) (kb : b.ok) :
    Calls Try.prog 11 #[.agg (obCells s1 s2 s3 s4 a.cross a.flags t1 t2 t3 t4), .agg (obCells u1 u2 u3 u4 b.cross b.flags v1 v2 v3 v4)] w fun e w' => e = .returned (.bool (decide (a = b))) ∧ Below w.heap.size w w' := by
  obtain ⟨W0, hW⟩ : ∃ W, W = (w.alloc (.cells (obCells s1 s2 s3 s4 a.cross a.flags t1 t2 t3 t4) 26)).alloc (.cells (obCells u1 u2 u3 u4 b.cross b.flags v1 v2 v3 v4) 26) := ⟨_, rfl⟩
  have hb : Below w.heap.size w W0 := by
    rw [hW]
    refine ((Below.refl _ w).alloc (Nat.le_refl _) _).alloc ?_ _
    rw [World.size_alloc]
    omega
  have E := eqOb_any a b s1 s2 s3 s4 t1 t2 t3 t4 u1 u2 u3 u4 v1 v2 v3 v4 W0 (hA.below hb) (hB.below hb) ka kb
  obtain ⟨D, hD⟩ : ∃ D, D = decide (a = b) := ⟨_, rfl⟩
  rw [← hD] at E ⊢
  obtain ⟨ao1, an1, ac1, ao2, an2, ac2, ao3, an3, ac3, ao4, an4, ac4, aq1, am1, ad1, aq2, am2, ad2, aq3, am3, ad3, aq4, am4, ad4, rfl, rfl, rfl, rfl, rfl, rfl, rfl, rfl⟩ := obAt_slices hA
  obtain ⟨bo1, bn1, bc1, bo2, bn2, bc2, bo3, bn3, bc3, bo4, bn4, bc4, bq1, bm1, bd1, bq2, bm2, bd2, bq3, bm3, bd3, bq4, bm4, bd4, rfl, rfl, rfl, rfl, rfl, rfl, rfl, rfl⟩ := obAt_slices hB
  unfold obCells at E hW ⊢
  subst hW
  have HE := Lib.hid E
  have HB := Lib.hid hb
  clear E hb hA hB ka kb hD
  go_enter Try.func11, Try.ntmps11
  go_wp2_with (go_at_call 25; (with_reducible refine HE.out.mono ?_); rintro e w1 ⟨rfl, hb⟩; have HB1 := Lib.hid (HB.out.trans (hb.mono HB.out.size)); clear hb)
  go_ret
  exact ⟨rfl, HB1.out⟩
end Go.Proofs.Ytodblepbedhnnaa
