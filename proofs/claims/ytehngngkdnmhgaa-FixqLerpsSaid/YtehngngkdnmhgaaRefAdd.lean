/- What the reference's Neg and Add answer of numbers in bits with signs. -/
import Derived.Test.YtehngngkdnmhgaaRefOf
import Derived.Deep.RegionHeld3
namespace Go.Proofs.Ytehngngkdnmhgaa
open Go.RowKit

theorem neg_ref (A : Option Addr) (c : Nat) (xs : List Bool) (b : Bool) (w : World) (h : RB w A c xs) :
    Calls Try.prog 17 #[.agg #[.slice A xs.length c, .bool b]] w fun e w' => BigPost (!b) (fun zs => zs = xs) w e w' := by
  have H := Lib.hid h
  clear h
  go_enter Try.func17, Try.ntmps17
  go_wp2_with fail
  have hb : Below w.heap.size w ((w.alloc (.cells #[.slice A xs.length c, .bool b] 29)).alloc (.cells #[.slice A xs.length c, .bool !b] 29)) := ((Below.refl _ w).alloc (Nat.le_refl _) _).alloc (by simp) _
  exact bodyPost_ret (v := .agg #[.slice A xs.length c, .bool (!b)]) (by simp [results, Try.results17, go_sem]) rfl ⟨A, c, xs, rfl, rb_below H.out hb, rfl, hb⟩

theorem below_drew0 {B : Nat} {a w : World} (h : Below B a.drew w) : Below B a w := ⟨h.os, h.tape, h.output, h.size, h.block⟩
theorem rb_drew {w : World} {A : Option Addr} {c : Nat} {xs : List Bool} (h : RB w A c xs) : RB w.drew A c xs := h
/-- what was laid below a world's end is there behind a call -/
theorem keep_cells {g n : Nat} {W w1 : World} (hz : W.heap.size = g + n) (hb : Below W.drew.heap.size W.drew w1) :
    (∀ (i j : Nat) (v : Value), i < n → W.cell? ⟨g + i, j, none⟩ = some v → w1.cell? ⟨g + i, j, none⟩ = some v) ∧ (∀ (i j : Nat), i < n → W.frozen? ⟨g + i, j, none⟩ = false → w1.frozen? ⟨g + i, j, none⟩ = false) := by
  have hz' : W.drew.heap.size = g + n := hz
  exact ⟨fun i j v hi hv => (hb.cell (p := ⟨g + i, j, none⟩) (by simp; omega)).trans hv, fun i j hi hv => (hb.frozen (p := ⟨g + i, j, none⟩) (by simp; omega)).trans hv⟩
theorem far_set {w : World} {p q : Addr} (u : Value) (h : p.block ≠ q.block) : (w.setCell p u).cell? q = w.cell? q :=
  World.cell?_setCell_other w p q u (fun e => h (by rw [e]))
theorem far_20 (w : World) (g o o' : Nat) (u : Value) : (w.setCell ⟨g + 1 + 1, o, none⟩ u).cell? ⟨g, o', none⟩ = w.cell? ⟨g, o', none⟩ := far_set u (by show g + 1 + 1 ≠ g; omega)
theorem far_21 (w : World) (g o o' : Nat) (u : Value) : (w.setCell ⟨g + 1 + 1, o, none⟩ u).cell? ⟨g + 1, o', none⟩ = w.cell? ⟨g + 1, o', none⟩ := far_set u (by show g + 1 + 1 ≠ g + 1; omega)
theorem rb_set_far {w : World} {A : Option Addr} {c : Nat} {xs : List Bool} (h : RB w A c xs) {p : Addr} (hp : ∀ ad, A = some ad → ad.block ≠ p.block) (u : Value) : RB (w.setCell p u) A c xs := by
  obtain ⟨h1, h2, h3⟩ := h
  refine ⟨h1, h2, fun hn => ?_⟩
  obtain ⟨ad, e, hb, hc⟩ := h3 hn
  refine ⟨ad, e, by simpa [World.setCell] using hb, fun j u hu => ?_⟩
  rw [far_set _ (by rw [add_block]; exact (hp ad e).symm)]
  exact hc j u hu
/-- the number of a sign and bits -/
def sval (s : Bool) (n : Nat) : Int := if s then -(n : Int) else n
theorem sval_same (s : Bool) (a b : Nat) : sval s (a + b) = sval s a + sval s b := by unfold sval; cases s <;> simp <;> omega
theorem sval_diff {s t : Bool} (h : s ≠ t) {a b : Nat} (hle : b ≤ a) : sval s (a - b) = sval s a + sval t b := by unfold sval; cases s <;> cases t <;> simp at h ⊢ <;> omega
def AddQ (x : Int) (l : Nat) (s : Bool) (zs : List Bool) : Prop := sval s (val zs) = x ∧ zs.length ≤ l
/-- a number in bits, of a sign that isn't told, that is returned -/
def NumPost (Q : Bool → List Bool → Prop) (w : World) (e : Ending) (w' : World) : Prop := ∃ A c zs s, e = .returned (.agg #[.slice A zs.length c, .bool s]) ∧ RB w' A c zs ∧ Q s zs ∧ Below w.heap.size w w'
set_option maxHeartbeats 2000000 in
theorem add_ref (A B : Option Addr) (c d : Nat) (xs ys : List Bool) (s t : Bool) (w : World) (hx : RB w A c xs) (hy : RB w B d ys) (lx : xs.length ≤ 100000) (ly : ys.length ≤ 100000) :
    Calls Try.prog 31 #[.agg #[.slice A xs.length c, .bool s], .agg #[.slice B ys.length d, .bool t]] w fun e w' => NumPost (AddQ (sval s (val xs) + sval t (val ys)) (max xs.length ys.length + 1)) w e w' := by
  have HX := Lib.hid hx; have HY := Lib.hid hy; have LX := Lib.hid lx; have LY := Lib.hid ly
  obtain ⟨X, hX⟩ : ∃ X : Int, X = sval s (val xs) + sval t (val ys) := ⟨_, rfl⟩
  obtain ⟨L, hL⟩ : ∃ L : Nat, L = max xs.length ys.length + 1 := ⟨_, rfl⟩
  rw [← hX, ← hL]
  have XE := Lib.hid hX; have LE := Lib.hid hL
  clear hx hy lx ly hX hL
  by_cases hst : s = t
  · subst hst
    go_enter Try.func31, Try.ntmps31
    go_wp2_with fail
    obtain ⟨W2, hW2⟩ : ∃ W2 : World, W2 = ((w.alloc (.cells #[.slice A xs.length c, .bool s] 29)).alloc (.cells #[.slice B ys.length d, .bool s] 29)).alloc (.cells #[.slice none 0 0, .bool false] 29) := ⟨_, rfl⟩
    rw [← hW2]
    have hz2 : W2.heap.size = w.heap.size + 3 := by rw [hW2]; simp
    have hbel : Below w.heap.size w W2 := by rw [hW2]; exact (((Below.refl _ w).alloc (Nat.le_refl _) _).alloc (by simp) _).alloc (by simp; omega) _
    have c0 : W2.cell? ⟨w.heap.size, 0, none⟩ = some (.slice A xs.length c) := by rw [hW2]; go_simp
    have c1 : W2.cell? ⟨w.heap.size, 1, none⟩ = some (.bool s) := by rw [hW2]; go_simp
    have c2 : W2.cell? ⟨w.heap.size + 1, 0, none⟩ = some (.slice B ys.length d) := by rw [hW2]; go_simp
    have c3 : W2.cell? ⟨w.heap.size + 1, 1, none⟩ = some (.bool s) := by rw [hW2]; go_simp
    have c4 : W2.cell? ⟨w.heap.size + 1 + 1, 0, none⟩ = some (.slice none 0 0) := by rw [hW2]; go_simp
    have c5 : W2.cell? ⟨w.heap.size + 1 + 1, 1, none⟩ = some (.bool false) := by rw [hW2]; go_simp
    have f4 : W2.frozen? ⟨w.heap.size + 1 + 1, 0, none⟩ = false := by rw [hW2]; go_simp
    have f5 : W2.frozen? ⟨w.heap.size + 1 + 1, 1, none⟩ = false := by rw [hW2]; go_simp
    have BL := Lib.hid hbel
    have Z2 := Lib.hid hz2
    clear hW2 hbel hz2
    go_region_held3 (fun w' => w'.cell? ⟨w.heap.size, 0, none⟩ = some (.slice A xs.length c) ∧ w'.cell? ⟨w.heap.size, 1, none⟩ = some (.bool s) ∧ w'.cell? ⟨w.heap.size + 1, 0, none⟩ = some (.slice B ys.length d) ∧ w'.cell? ⟨w.heap.size + 1, 1, none⟩ = some (.bool s))
      ((repeat' apply And.intro) <;> first | assumption | go_keep | (simp only [far_20]; assumption))
      (first | (go_at_call 41; refine (plus_any A B c d xs ys _ (rb_drew (rb_below HX.out BL.out)) (rb_drew (rb_below HY.out BL.out)) LX.out LY.out).mono ?_; rintro e w1 ⟨A1, c1', zs, rfl, hr, hq, hb1, hfr⟩; have kk := keep_cells Z2.out hb1; have k0 : w1.cell? ⟨w.heap.size, 0, none⟩ = some (.slice A xs.length c) := kk.1 0 0 _ (by omega) c0; have k1 : w1.cell? ⟨w.heap.size, 1, none⟩ = some (.bool s) := kk.1 0 1 _ (by omega) c1; have k2 : w1.cell? ⟨w.heap.size + 1, 0, none⟩ = some (.slice B ys.length d) := kk.1 1 0 _ (by omega) c2; have k3 : w1.cell? ⟨w.heap.size + 1, 1, none⟩ = some (.bool s) := kk.1 1 1 _ (by omega) c3; have k4 : w1.cell? ⟨w.heap.size + 1 + 1, 0, none⟩ = some (.slice none 0 0) := kk.1 2 0 _ (by omega) c4; have k5 : w1.cell? ⟨w.heap.size + 1 + 1, 1, none⟩ = some (.bool false) := kk.1 2 1 _ (by omega) c5; have k6 : w1.frozen? ⟨w.heap.size + 1 + 1, 0, none⟩ = false := kk.2 2 0 (by omega) f4; have k7 : w1.frozen? ⟨w.heap.size + 1 + 1, 1, none⟩ = false := kk.2 2 1 (by omega) f5; have R1 := Lib.hid hr; have Q1 := Lib.hid hq; have B1 := Lib.hid hb1; have F1 := Lib.hid hfr; clear kk hr hq hb1 hfr))
    go_wp2_with fail
    refine bodyPost_ret (v := .agg #[.slice A1 zs.length c1', .bool s]) (by simp [results, Try.results31, go_sem, k4, k5]) rfl ⟨A1, c1', zs, s, rfl, ?_, ?_, ?_⟩
    · have hne : ∀ ad, A1 = some ad → ad.block ≠ w.heap.size + 1 + 1 := fun ad e => by have h1 := F1.out ad e; have h2 : W2.drew.heap.size = w.heap.size + 3 := Z2.out; omega
      exact rb_set_far (rb_set_far R1.out hne _) hne _
    · exact ⟨by rw [XE.out, Q1.out.1, sval_same], by rw [LE.out]; exact Q1.out.2.1⟩
    · exact ((BL.out.trans ((below_drew0 B1.out).mono (by have h2 : W2.drew.heap.size = w.heap.size + 3 := Z2.out; omega))).setCell (by show w.heap.size ≤ w.heap.size + 1 + 1; omega) _).setCell (by show w.heap.size ≤ w.heap.size + 1 + 1; omega) _
  · have ne := Lib.hid hst
    have hst2 : (s == t) = false := beq_false_of_ne hst
    clear hst
    go_enter Try.func31, Try.ntmps31
    go_upto_region 3 with (fail)
    obtain ⟨W2, hW2⟩ : ∃ W2 : World, W2 = ((w.alloc (.cells #[.slice A xs.length c, .bool s] 29)).alloc (.cells #[.slice B ys.length d, .bool t] 29)).alloc (.cells #[.slice none 0 0, .bool false] 29) := ⟨_, rfl⟩
    rw [← hW2]
    have hz2 : W2.heap.size = w.heap.size + 3 := by rw [hW2]; simp
    have hbel : Below w.heap.size w W2 := by rw [hW2]; exact (((Below.refl _ w).alloc (Nat.le_refl _) _).alloc (by simp) _).alloc (by simp; omega) _
    have c0 : W2.cell? ⟨w.heap.size, 0, none⟩ = some (.slice A xs.length c) := by rw [hW2]; go_simp
    have c1 : W2.cell? ⟨w.heap.size, 1, none⟩ = some (.bool s) := by rw [hW2]; go_simp
    have c2 : W2.cell? ⟨w.heap.size + 1, 0, none⟩ = some (.slice B ys.length d) := by rw [hW2]; go_simp
    have c3 : W2.cell? ⟨w.heap.size + 1, 1, none⟩ = some (.bool t) := by rw [hW2]; go_simp
    have c4 : W2.cell? ⟨w.heap.size + 1 + 1, 0, none⟩ = some (.slice none 0 0) := by rw [hW2]; go_simp
    have c5 : W2.cell? ⟨w.heap.size + 1 + 1, 1, none⟩ = some (.bool false) := by rw [hW2]; go_simp
    have f4 : W2.frozen? ⟨w.heap.size + 1 + 1, 0, none⟩ = false := by rw [hW2]; go_simp
    have f5 : W2.frozen? ⟨w.heap.size + 1 + 1, 1, none⟩ = false := by rw [hW2]; go_simp
    have BL := Lib.hid hbel
    have Z2 := Lib.hid hz2
    clear hW2 hbel hz2
    have CM := Lib.hid (cmp_any A B c d xs ys W2 (rb_below HX.out BL.out) (rb_below HY.out BL.out))
    by_cases hle : val ys ≤ val xs
    · have hcv : ∃ z : Int, 0 ≤ z ∧ z = cmpV (val xs) (val ys) := ⟨_, by unfold cmpV; rw [if_neg (by omega)]; split <;> omega, rfl⟩
      obtain ⟨z, hz0, hz1⟩ := hcv
      rw [← hz1] at CM
      have HLE := Lib.hid hle
      clear hz1 hle
      go_wp2_with (go_at_call 28; refine CM.out.mono ?_; rintro e w' ⟨rfl, n, rfl⟩)
      obtain ⟨W3, hW3⟩ : ∃ W3 : World, W3 = W2.drewN n := ⟨_, rfl⟩
      rw [← hW3]
      have BL3 : Below w.heap.size w W3 := by rw [hW3]; exact below_drewN BL.out n
      replace c0 : W3.cell? ⟨w.heap.size, 0, none⟩ = some (.slice A xs.length c) := by rw [hW3]; exact c0
      replace c1 : W3.cell? ⟨w.heap.size, 1, none⟩ = some (.bool s) := by rw [hW3]; exact c1
      replace c2 : W3.cell? ⟨w.heap.size + 1, 0, none⟩ = some (.slice B ys.length d) := by rw [hW3]; exact c2
      replace c3 : W3.cell? ⟨w.heap.size + 1, 1, none⟩ = some (.bool t) := by rw [hW3]; exact c3
      replace c4 : W3.cell? ⟨w.heap.size + 1 + 1, 0, none⟩ = some (.slice none 0 0) := by rw [hW3]; exact c4
      replace c5 : W3.cell? ⟨w.heap.size + 1 + 1, 1, none⟩ = some (.bool false) := by rw [hW3]; exact c5
      replace f4 : W3.frozen? ⟨w.heap.size + 1 + 1, 0, none⟩ = false := by rw [hW3]; exact f4
      replace f5 : W3.frozen? ⟨w.heap.size + 1 + 1, 1, none⟩ = false := by rw [hW3]; exact f5
      replace Z2 := Lib.hid (show W3.heap.size = w.heap.size + 3 by rw [hW3]; exact Z2.out)
      replace BL := Lib.hid BL3
      clear hW3 BL3 CM
      go_region_held3 (fun w' => w'.cell? ⟨w.heap.size, 0, none⟩ = some (.slice A xs.length c) ∧ w'.cell? ⟨w.heap.size, 1, none⟩ = some (.bool s) ∧ w'.cell? ⟨w.heap.size + 1, 0, none⟩ = some (.slice B ys.length d) ∧ w'.cell? ⟨w.heap.size + 1, 1, none⟩ = some (.bool t))
        ((repeat' apply And.intro) <;> first | assumption | go_keep | (simp only [far_20]; assumption))
        (first | (go_at_call 42; refine (minus_any A B c d xs ys _ (rb_drew (rb_below HX.out BL.out)) (rb_drew (rb_below HY.out BL.out)) LX.out LY.out HLE.out).mono ?_; rintro e w1 ⟨A1, c1', zs, rfl, hr, hq, hb1, hfr⟩; have kk := keep_cells Z2.out hb1; have k0 : w1.cell? ⟨w.heap.size, 0, none⟩ = some (.slice A xs.length c) := kk.1 0 0 _ (by omega) c0; have k1 : w1.cell? ⟨w.heap.size, 1, none⟩ = some (.bool s) := kk.1 0 1 _ (by omega) c1; have k2 : w1.cell? ⟨w.heap.size + 1, 0, none⟩ = some (.slice B ys.length d) := kk.1 1 0 _ (by omega) c2; have k3 : w1.cell? ⟨w.heap.size + 1, 1, none⟩ = some (.bool t) := kk.1 1 1 _ (by omega) c3; have k4 : w1.cell? ⟨w.heap.size + 1 + 1, 0, none⟩ = some (.slice none 0 0) := kk.1 2 0 _ (by omega) c4; have k5 : w1.cell? ⟨w.heap.size + 1 + 1, 1, none⟩ = some (.bool false) := kk.1 2 1 _ (by omega) c5; have k6 : w1.frozen? ⟨w.heap.size + 1 + 1, 0, none⟩ = false := kk.2 2 0 (by omega) f4; have k7 : w1.frozen? ⟨w.heap.size + 1 + 1, 1, none⟩ = false := kk.2 2 1 (by omega) f5; have R1 := Lib.hid hr; have Q1 := Lib.hid hq; have B1 := Lib.hid hb1; have F1 := Lib.hid hfr; clear kk hr hq hb1 hfr))
      go_wp2_with fail
      refine bodyPost_ret (v := .agg #[.slice A1 zs.length c1', .bool s]) (by simp [results, Try.results31, go_sem, k4, k5]) rfl ⟨A1, c1', zs, s, rfl, ?_, ?_, ?_⟩
      · have hne : ∀ ad, A1 = some ad → ad.block ≠ w.heap.size + 1 + 1 := fun ad e => by have h1 := F1.out ad e; have h2 : W3.drew.heap.size = w.heap.size + 3 := Z2.out; omega
        exact rb_set_far (rb_set_far R1.out hne _) hne _
      · exact ⟨by rw [XE.out, Q1.out.1, sval_diff ne.out HLE.out], by rw [LE.out]; have := Q1.out.2.2; omega⟩
      · exact ((BL.out.trans ((below_drew0 B1.out).mono (by have h2 : W3.drew.heap.size = w.heap.size + 3 := Z2.out; omega))).setCell (by show w.heap.size ≤ w.heap.size + 1 + 1; omega) _).setCell (by show w.heap.size ≤ w.heap.size + 1 + 1; omega) _
    · have hcv : ∃ z : Int, z < 0 ∧ z = cmpV (val xs) (val ys) := ⟨_, by rw [cmpV_lt (by omega)]; omega, rfl⟩
      obtain ⟨z, hz0, hz1⟩ := hcv
      rw [← hz1] at CM
      have HLE := Lib.hid (show val xs ≤ val ys by omega)
      clear hz1 hle
      go_wp2_with (go_at_call 28; refine CM.out.mono ?_; rintro e w' ⟨rfl, n, rfl⟩)
      obtain ⟨W3, hW3⟩ : ∃ W3 : World, W3 = W2.drewN n := ⟨_, rfl⟩
      rw [← hW3]
      have BL3 : Below w.heap.size w W3 := by rw [hW3]; exact below_drewN BL.out n
      replace c0 : W3.cell? ⟨w.heap.size, 0, none⟩ = some (.slice A xs.length c) := by rw [hW3]; exact c0
      replace c1 : W3.cell? ⟨w.heap.size, 1, none⟩ = some (.bool s) := by rw [hW3]; exact c1
      replace c2 : W3.cell? ⟨w.heap.size + 1, 0, none⟩ = some (.slice B ys.length d) := by rw [hW3]; exact c2
      replace c3 : W3.cell? ⟨w.heap.size + 1, 1, none⟩ = some (.bool t) := by rw [hW3]; exact c3
      replace c4 : W3.cell? ⟨w.heap.size + 1 + 1, 0, none⟩ = some (.slice none 0 0) := by rw [hW3]; exact c4
      replace c5 : W3.cell? ⟨w.heap.size + 1 + 1, 1, none⟩ = some (.bool false) := by rw [hW3]; exact c5
      replace f4 : W3.frozen? ⟨w.heap.size + 1 + 1, 0, none⟩ = false := by rw [hW3]; exact f4
      replace f5 : W3.frozen? ⟨w.heap.size + 1 + 1, 1, none⟩ = false := by rw [hW3]; exact f5
      replace Z2 := Lib.hid (show W3.heap.size = w.heap.size + 3 by rw [hW3]; exact Z2.out)
      replace BL := Lib.hid BL3
      clear hW3 BL3 CM
      go_region_held3 (fun w' => w'.cell? ⟨w.heap.size, 0, none⟩ = some (.slice A xs.length c) ∧ w'.cell? ⟨w.heap.size, 1, none⟩ = some (.bool s) ∧ w'.cell? ⟨w.heap.size + 1, 0, none⟩ = some (.slice B ys.length d) ∧ w'.cell? ⟨w.heap.size + 1, 1, none⟩ = some (.bool t))
        ((repeat' apply And.intro) <;> first | assumption | go_keep | (simp only [far_20]; assumption))
        (first | (go_at_call 42; refine (minus_any B A d c ys xs _ (rb_drew (rb_below HY.out BL.out)) (rb_drew (rb_below HX.out BL.out)) LY.out LX.out HLE.out).mono ?_; rintro e w1 ⟨A1, c1', zs, rfl, hr, hq, hb1, hfr⟩; have kk := keep_cells Z2.out hb1; have k0 : w1.cell? ⟨w.heap.size, 0, none⟩ = some (.slice A xs.length c) := kk.1 0 0 _ (by omega) c0; have k1 : w1.cell? ⟨w.heap.size, 1, none⟩ = some (.bool s) := kk.1 0 1 _ (by omega) c1; have k2 : w1.cell? ⟨w.heap.size + 1, 0, none⟩ = some (.slice B ys.length d) := kk.1 1 0 _ (by omega) c2; have k3 : w1.cell? ⟨w.heap.size + 1, 1, none⟩ = some (.bool t) := kk.1 1 1 _ (by omega) c3; have k4 : w1.cell? ⟨w.heap.size + 1 + 1, 0, none⟩ = some (.slice none 0 0) := kk.1 2 0 _ (by omega) c4; have k5 : w1.cell? ⟨w.heap.size + 1 + 1, 1, none⟩ = some (.bool false) := kk.1 2 1 _ (by omega) c5; have k6 : w1.frozen? ⟨w.heap.size + 1 + 1, 0, none⟩ = false := kk.2 2 0 (by omega) f4; have k7 : w1.frozen? ⟨w.heap.size + 1 + 1, 1, none⟩ = false := kk.2 2 1 (by omega) f5; have R1 := Lib.hid hr; have Q1 := Lib.hid hq; have B1 := Lib.hid hb1; have F1 := Lib.hid hfr; clear kk hr hq hb1 hfr))
      go_wp2_with fail
      refine bodyPost_ret (v := .agg #[.slice A1 zs.length c1', .bool t]) (by simp [results, Try.results31, go_sem, k4, k5]) rfl ⟨A1, c1', zs, t, rfl, ?_, ?_, ?_⟩
      · have hne : ∀ ad, A1 = some ad → ad.block ≠ w.heap.size + 1 + 1 := fun ad e => by have h1 := F1.out ad e; have h2 : W3.drew.heap.size = w.heap.size + 3 := Z2.out; omega
        exact rb_set_far (rb_set_far R1.out hne _) hne _
      · exact ⟨by rw [XE.out, Q1.out.1, sval_diff (Ne.symm ne.out) HLE.out, Int.add_comm], by rw [LE.out]; have := Q1.out.2.2; omega⟩
      · exact ((BL.out.trans ((below_drew0 B1.out).mono (by have h2 : W3.drew.heap.size = w.heap.size + 3 := Z2.out; omega))).setCell (by show w.heap.size ≤ w.heap.size + 1 + 1; omega) _).setCell (by show w.heap.size ≤ w.heap.size + 1 + 1; omega) _
end Go.Proofs.Ytehngngkdnmhgaa
