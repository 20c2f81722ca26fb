/- What the reference's Up (by 32 bits) and Down answer of a number in bits: times, and by, a power of two. -/
import Derived.Test.YtehngngkdnmhgaaRefMul
namespace Go.Proofs.Ytehngngkdnmhgaa
open Go.RowKit

theorem far_10 (w : World) (g o o2 o' : Nat) (u u2 : Value) : ((w.setCell ⟨g + 1, o, none⟩ u).setCell ⟨g + 1, o2, none⟩ u2).cell? ⟨g, o', none⟩ = w.cell? ⟨g, o', none⟩ :=
  (far_set u2 (by show g + 1 ≠ g; omega)).trans (far_set u (by show g + 1 ≠ g; omega))
theorem far_10d (w : World) (g o o2 o' : Nat) (u u2 : Value) : (((w.setCell ⟨g + 1, o, none⟩ u).setCell ⟨g + 1, o2, none⟩ u2).drew).cell? ⟨g, o', none⟩ = w.cell? ⟨g, o', none⟩ := far_10 w g o o2 o' u u2
def UpQ (xs zs : List Bool) : Prop := val zs = 4294967296 * val xs ∧ zs.length = 32 + xs.length
set_option maxHeartbeats 2000000 in
theorem up_ref (A : Option Addr) (c : Nat) (xs : List Bool) (s : Bool) (w : World) (h : RB w A c xs) (hl : xs.length ≤ 1000) :
    Calls Try.prog 27 #[.agg #[.slice A xs.length c, .bool s], .int .i64 32] w fun e w' => BigPost s (UpQ xs) w e w' := by
  have H := Lib.hid h
  have L := Lib.hid (show xs.length ≤ 1000000 by omega)
  clear h hl
  have hmk : ∀ w, (Instr.makeSlice 27 (.int .i64 32) (.int .i64 32)).run Try.prog w = .ok (.slice (some ⟨w.heap.size, 0, none⟩) 32 32) (w.alloc (.cells (Array.replicate 32 (.bool false)) 4)) := fun _ => by kernel_rfl
  go_enter Try.func27, Try.ntmps27
  go_upto_region 1 with (fail)
  obtain ⟨W2, hW2⟩ : ∃ W2 : World, W2 = (w.alloc (.cells #[.slice A xs.length c, .bool s] 29)).alloc (.cells #[.slice none 0 0, .bool false] 29) := ⟨_, rfl⟩
  rw [← hW2]
  have hz2 : W2.heap.size = w.heap.size + 2 := by rw [hW2]; simp
  have hbel : Below w.heap.size w W2 := by rw [hW2]; exact ((Below.refl _ w).alloc (Nat.le_refl _) _).alloc (by simp) _
  have c0 : W2.cell? ⟨w.heap.size, 0, none⟩ = some (.slice A xs.length c) := by rw [hW2]; go_simp
  have c1 : W2.cell? ⟨w.heap.size, 1, none⟩ = some (.bool s) := by rw [hW2]; go_simp
  have c4 : W2.cell? ⟨w.heap.size + 1, 0, none⟩ = some (.slice none 0 0) := by rw [hW2]; go_simp
  have c5 : W2.cell? ⟨w.heap.size + 1, 1, none⟩ = some (.bool false) := by rw [hW2]; go_simp
  have f4 : W2.frozen? ⟨w.heap.size + 1, 0, none⟩ = false := by rw [hW2]; go_simp
  have f5 : W2.frozen? ⟨w.heap.size + 1, 1, none⟩ = false := by rw [hW2]; go_simp
  have BL := Lib.hid hbel
  have Z2 := Lib.hid hz2
  clear hW2 hbel hz2
  go_region_held3 (fun w' => w'.cell? ⟨w.heap.size, 0, none⟩ = some (.slice A xs.length c) ∧ w'.cell? ⟨w.heap.size, 1, none⟩ = some (.bool s))
    ((repeat' apply And.intro) <;> first | assumption | exact (far_10d _ _ _ _ _ _ _).trans k0 | exact (far_10d _ _ _ _ _ _ _).trans k1 | exact (far_10 _ _ _ _ _ _ _).trans k0 | exact (far_10 _ _ _ _ _ _ _).trans k1 | go_keep)
    (first | (refine step_cat _ (by rfl) (.tmp 6) (.tmp 8) (by rfl) W2.heap.size _ (List.replicate 32 false) A c xs (by rfl) (by rfl) (by exact ob_made W2 32 (by omega)) (by exact rb_below H.out (BL.out.alloc BL.out.size _).drew) (by simp) L.out (by simp) ?_; intro v1 w1 ho1 hb1; have hb2 : Below W2.heap.size W2 w1 := ((Below.refl _ W2).alloc (Nat.le_refl _) _).drew.trans hb1; have k0 : w1.cell? ⟨w.heap.size, 0, none⟩ = some (.slice A xs.length c) := keep_cell (g := w.heap.size) (i := 0) hb2 (by rw [Z2.out]; omega) c0; have k1 : w1.cell? ⟨w.heap.size, 1, none⟩ = some (.bool s) := keep_cell (g := w.heap.size) (i := 0) hb2 (by rw [Z2.out]; omega) c1; have k4 : w1.cell? ⟨w.heap.size + 1, 0, none⟩ = some (.slice none 0 0) := keep_cell (g := w.heap.size) (i := 1) hb2 (by rw [Z2.out]; omega) c4; have k5 : w1.cell? ⟨w.heap.size + 1, 1, none⟩ = some (.bool false) := keep_cell (g := w.heap.size) (i := 1) hb2 (by rw [Z2.out]; omega) c5; have k6 : w1.frozen? ⟨w.heap.size + 1, 0, none⟩ = false := (hb2.frozen (p := ⟨w.heap.size + 1, 0, none⟩) (by have := Z2.out; show w.heap.size + 1 < W2.heap.size; omega)).trans f4; have k7 : w1.frozen? ⟨w.heap.size + 1, 1, none⟩ = false := (hb2.frozen (p := ⟨w.heap.size + 1, 1, none⟩) (by have := Z2.out; show w.heap.size + 1 < W2.heap.size; omega)).trans f5; obtain ⟨z1, hz1⟩ : ∃ z1, z1 = List.replicate 32 false ++ xs := ⟨_, rfl⟩; rw [← hz1] at ho1; obtain ⟨A1, c1', rfl, hr1⟩ := ob_rb ho1; have O1 := Lib.hid ho1; have B1 := Lib.hid hb2; have HZ := Lib.hid hz1; clear ho1 hb1 hb2 hz1 hr1))
  go_wp2_with fail
  refine bodyPost_ret (v := .agg #[.slice A1 z1.length c1', .bool s]) (by simp [results, Try.results27, go_sem, k4, k5]) rfl ⟨A1, c1', z1, rfl, ?_, ?_, ?_⟩
  · have hne : ∀ ad, A1 = some ad → ad.block ≠ w.heap.size + 1 := fun ad e => by have h1 := ob_fresh O1.out ad e; have h2 := Z2.out; omega
    exact rb_set_far (rb_set_far (ob_rb' O1.out) hne _) hne _
  · rw [HZ.out]
    refine ⟨?_, by rw [List.length_append, List.length_replicate]⟩
    rw [val_append, val_zeros, List.length_replicate, Nat.zero_add]
  · exact (((BL.out.trans (B1.out.mono (by rw [Z2.out]; omega))).setCell (p := ⟨w.heap.size + 1, 0, none⟩) (by show w.heap.size ≤ w.heap.size + 1; omega) (.slice A1 z1.length c1')).setCell (p := ⟨w.heap.size + 1, 1, none⟩) (by show w.heap.size ≤ w.heap.size + 1; omega) (.bool s))
end Go.Proofs.Ytehngngkdnmhgaa
