/- The law of an expression in brackets, walked. -/
import Derived.Test.YtpfmlfcaadnnpaaDoorBrBase
namespace Go.Proofs.YtpfmlfcaadnnpaaDoor
open Go.RowKit Lx
set_option linter.unusedVariables false

set_option maxHeartbeats 4000000 in
theorem brack_long (S : ByteArray) (n : Nat) (hs : S.size = n) (hl : (400 : Int) < (n : Int)) (w : World) (hS : Hid (Signs w)) :
    Calls Tryd.prog 3 #[.string S] w fun r Y => r = .returned (.bool true) ∧ Below w.heap.size w Y := by
  have q : decide ((400 : Int) < (n : Int)) = true := decide_eq_true hl
  have AL : Hid (Calls Tryd.prog 5 #[] w fun r Y => r = .returned (.bool true) ∧ Hid (Below w.heap.size w Y)) := Lib.hid ((alive_px w hS.out).mono fun r Y h => ⟨h.1, Lib.hid h.2⟩)
  go_enter Tryd.func3, Tryd.ntmps3
  go_wp2_with (go_at_call 5; ((with_reducible refine AL.out.mono ?_); rintro e w1 ⟨rfl, hb1⟩))
  go_ret
  exact ⟨rfl, hb1.out⟩
theorem br_two_boxes (w : World) (c d : Array Value) (S T : Nat) : ((w.alloc (.cells c S)).alloc (.cells d T)).heap[w.heap.size]? = some (.cells c S (0, 0)) ∧ ((w.alloc (.cells c S)).alloc (.cells d T)).heap[w.heap.size + 1]? = some (.cells d T (0, 0)) := by
  constructor
  · rw [heap_alloc_old _ _ (by simp)]; exact heap_alloc_new w _
  · have := heap_alloc_new (w.alloc (.cells c S)) (.cells d T)
    rw [World.size_alloc] at this
    exact this
set_option maxHeartbeats 4000000 in
theorem brack_fault (S T2 T3 : ByteArray) (n : Nat) (hs : S.size = n) (hl : (n : Int) ≤ 400) (U : ByteArray) (n1' : Nat) (hus : U.size = n1') (hl1 : (n1' : Int) ≤ 401) (hU : ⟨#[40]⟩ ++ S = U) (hT2 : U ++ ⟨#[10, 41]⟩ = T2) (hT3 : S ++ ⟨#[10, 41]⟩ = T3) (L1 L2 L3 : Nat) (a1 a2 a3 c1 f1 c2 f2 c3 f3 : Int) (PP1 PP2 PP3 : World → Value → Prop) (w : World) (hS : Hid (Signs w))
    (C1 : Hid (∀ W, Below w.heap.size w W → Calls Tryd.prog 6 #[.string S] W fun r Y => ∃ o c, r = .returned (.tuple #[.agg #[.slice none 0 0, .slice o L1 c], .int .i64 a1, .agg #[.int .i64 c1, .int .i64 f1]]) ∧ Hid (PP1 Y (.slice o L1 c) ∧ Below W.heap.size W Y)))
    (C2 : Hid (∀ W, Below w.heap.size w W → Calls Tryd.prog 6 #[.string T2] W fun r Y => ∃ o c, r = .returned (.tuple #[.agg #[.slice none 0 0, .slice o L2 c], .int .i64 a2, .agg #[.int .i64 c2, .int .i64 f2]]) ∧ Hid (PP2 Y (.slice o L2 c) ∧ Below W.heap.size W Y)))
    (k : ¬ c1 = 0) :
    Calls Tryd.prog 3 #[.string S] w fun r Y => r = .returned (.bool true) ∧ Below w.heap.size w Y := by
  have q : decide ((400 : Int) < (n : Int)) = false := decide_eq_false (by omega)
  have AL : Hid (Calls Tryd.prog 5 #[] w fun r Y => r = .returned (.bool true) ∧ Hid (Below w.heap.size w Y)) := Lib.hid ((alive_px w hS.out).mono fun r Y h => ⟨h.1, Lib.hid h.2⟩)
  have tok : True := trivial
  have tok2 : True := trivial
  have q0 : (c1 != 0) = true := by simp [k]
  go_enter Tryd.func3, Tryd.ntmps3
  go_wp2_with (first
      | (go_at_call 5; (with_reducible refine AL.out.mono ?_); rintro e w1 ⟨rfl, hb1⟩)
      | (go_at_call 6; have _k := tok; clear tok _k; (with_reducible refine (C1.out w1 hb1.out).mono ?_); rintro e w2 ⟨o, c, rfl, h2⟩)
      | (go_at_call 6; have _k := tok2; clear tok2 _k;
            obtain ⟨V2, hV2⟩ : ∃ V2, V2 = (w2.alloc (.cells #[.slice none 0 0, .slice o L1 c] 26)).alloc (.cells #[.int .i64 c1, .int .i64 f1] 29) := ⟨_, rfl⟩;
            obtain ⟨v1, v2⟩ := br_two_boxes w2 #[.slice none 0 0, .slice o L1 c] #[.int .i64 c1, .int .i64 f1] 26 29;
            have hbv : Below w2.heap.size w2 V2 := (by rw [hV2]; exact ((Below.refl _ _).alloc (Nat.le_refl _) _).alloc (by simp) _);
            have hbV := hb1.out.trans ((h2.out.2.trans (hbv.mono h2.out.2.size)).mono hb1.out.size);
            rw [← hV2] at v1 v2; rw [← hV2]; clear hV2;
            (with_reducible refine (C2.out V2 hbV).mono ?_); rintro e w3 ⟨po, kc, rfl, h3⟩;
            have x1 := (h3.out.2.block _ (heap_lt v1)).trans v1;
            have x2 := (h3.out.2.block _ (heap_lt v2)).trans v2;
            have p0 : w3.cell? ⟨w2.heap.size, 0, none⟩ = some (.slice none 0 0) := (by simp [World.cell?, x1]);
            have p1 : w3.cell? ⟨w2.heap.size, 1, none⟩ = some (.slice o L1 c) := (by simp [World.cell?, x1]);
            have u0 : w3.cell? ⟨w2.heap.size + 1, 0, none⟩ = some (.int .i64 c1) := (by simp [World.cell?, x2]);
            have u1 : w3.cell? ⟨w2.heap.size + 1, 1, none⟩ = some (.int .i64 f1) := (by simp [World.cell?, x2]);
            have n1 := heap_lt x1; have n2 := heap_lt x2;
            have X1 := Lib.hid x1;
            have HB := Lib.hid (hbV.trans (h3.out.2.mono hbV.size));
            have HB23 := Lib.hid (hbv.trans (h3.out.2.mono hbv.size));
            clear hbv hbV x1 x2 v1 v2))
  go_ret
  exact ⟨rfl, (HB.out.alloc HB.out.size _).alloc (HB.out.alloc HB.out.size _).size _⟩
set_option maxHeartbeats 4000000 in
theorem brack_deep (S T2 T3 : ByteArray) (n : Nat) (hs : S.size = n) (hl : (n : Int) ≤ 400) (U : ByteArray) (n1' : Nat) (hus : U.size = n1') (hl1 : (n1' : Int) ≤ 401) (hU : ⟨#[40]⟩ ++ S = U) (hT2 : U ++ ⟨#[10, 41]⟩ = T2) (hT3 : S ++ ⟨#[10, 41]⟩ = T3) (L1 L2 L3 : Nat) (a1 a2 a3 c1 f1 c2 f2 c3 f3 : Int) (PP1 PP2 PP3 : World → Value → Prop) (w : World) (hS : Hid (Signs w))
    (C1 : Hid (∀ W, Below w.heap.size w W → Calls Tryd.prog 6 #[.string S] W fun r Y => ∃ o c, r = .returned (.tuple #[.agg #[.slice none 0 0, .slice o L1 c], .int .i64 a1, .agg #[.int .i64 c1, .int .i64 f1]]) ∧ Hid (PP1 Y (.slice o L1 c) ∧ Below W.heap.size W Y)))
    (C2 : Hid (∀ W, Below w.heap.size w W → Calls Tryd.prog 6 #[.string T2] W fun r Y => ∃ o c, r = .returned (.tuple #[.agg #[.slice none 0 0, .slice o L2 c], .int .i64 a2, .agg #[.int .i64 c2, .int .i64 f2]]) ∧ Hid (PP2 Y (.slice o L2 c) ∧ Below W.heap.size W Y)))
    (k : c1 = 0) (k2 : c2 = 3) :
    Calls Tryd.prog 3 #[.string S] w fun r Y => r = .returned (.bool true) ∧ Below w.heap.size w Y := by
  have q : decide ((400 : Int) < (n : Int)) = false := decide_eq_false (by omega)
  have AL : Hid (Calls Tryd.prog 5 #[] w fun r Y => r = .returned (.bool true) ∧ Hid (Below w.heap.size w Y)) := Lib.hid ((alive_px w hS.out).mono fun r Y h => ⟨h.1, Lib.hid h.2⟩)
  have tok : True := trivial
  have tok2 : True := trivial
  have q0 : (c1 != 0) = false := by simp [k]
  have q1 : (c2 == 3) = true := by simp [k2]
  clear k k2
  go_enter Tryd.func3, Tryd.ntmps3
  go_wp2_with (first
      | (go_at_call 5; (with_reducible refine AL.out.mono ?_); rintro e w1 ⟨rfl, hb1⟩)
      | (go_at_call 6; have _k := tok; clear tok _k; (with_reducible refine (C1.out w1 hb1.out).mono ?_); rintro e w2 ⟨o, c, rfl, h2⟩)
      | (go_at_call 6; have _k := tok2; clear tok2 _k;
            obtain ⟨V2, hV2⟩ : ∃ V2, V2 = (w2.alloc (.cells #[.slice none 0 0, .slice o L1 c] 26)).alloc (.cells #[.int .i64 c1, .int .i64 f1] 29) := ⟨_, rfl⟩;
            obtain ⟨v1, v2⟩ := br_two_boxes w2 #[.slice none 0 0, .slice o L1 c] #[.int .i64 c1, .int .i64 f1] 26 29;
            have hbv : Below w2.heap.size w2 V2 := (by rw [hV2]; exact ((Below.refl _ _).alloc (Nat.le_refl _) _).alloc (by simp) _);
            have hbV := hb1.out.trans ((h2.out.2.trans (hbv.mono h2.out.2.size)).mono hb1.out.size);
            rw [← hV2] at v1 v2; rw [← hV2]; clear hV2;
            (with_reducible refine (C2.out V2 hbV).mono ?_); rintro e w3 ⟨po, kc, rfl, h3⟩;
            have x1 := (h3.out.2.block _ (heap_lt v1)).trans v1;
            have x2 := (h3.out.2.block _ (heap_lt v2)).trans v2;
            have p0 : w3.cell? ⟨w2.heap.size, 0, none⟩ = some (.slice none 0 0) := (by simp [World.cell?, x1]);
            have p1 : w3.cell? ⟨w2.heap.size, 1, none⟩ = some (.slice o L1 c) := (by simp [World.cell?, x1]);
            have u0 : w3.cell? ⟨w2.heap.size + 1, 0, none⟩ = some (.int .i64 c1) := (by simp [World.cell?, x2]);
            have u1 : w3.cell? ⟨w2.heap.size + 1, 1, none⟩ = some (.int .i64 f1) := (by simp [World.cell?, x2]);
            have n1 := heap_lt x1; have n2 := heap_lt x2;
            have X1 := Lib.hid x1;
            have HB := Lib.hid (hbV.trans (h3.out.2.mono hbV.size));
            have HB23 := Lib.hid (hbv.trans (h3.out.2.mono hbv.size));
            clear hbv hbV x1 x2 v1 v2))
  go_ret
  exact ⟨rfl, (HB.out.alloc HB.out.size _).alloc (HB.out.alloc HB.out.size _).size _⟩
set_option maxHeartbeats 8000000 in
theorem brack_good (S T2 T3 : ByteArray) (n : Nat) (hs : S.size = n) (hl : (n : Int) ≤ 400) (U : ByteArray) (n1' : Nat) (hus : U.size = n1') (hl1 : (n1' : Int) ≤ 401) (hU : ⟨#[40]⟩ ++ S = U) (hT2 : U ++ ⟨#[10, 41]⟩ = T2) (hT3 : S ++ ⟨#[10, 41]⟩ = T3) (L1 L2 L3 : Nat) (a1 a2 a3 c1 f1 c2 f2 c3 f3 : Int) (PP1 PP2 PP3 : World → Value → Prop) (w : World) (hS : Hid (Signs w))
    (C1 : Hid (∀ W, Below w.heap.size w W → Calls Tryd.prog 6 #[.string S] W fun r Y => ∃ o c, r = .returned (.tuple #[.agg #[.slice none 0 0, .slice o L1 c], .int .i64 a1, .agg #[.int .i64 c1, .int .i64 f1]]) ∧ Hid (PP1 Y (.slice o L1 c) ∧ Below W.heap.size W Y)))
    (C2 : Hid (∀ W, Below w.heap.size w W → Calls Tryd.prog 6 #[.string T2] W fun r Y => ∃ o c, r = .returned (.tuple #[.agg #[.slice none 0 0, .slice o L2 c], .int .i64 a2, .agg #[.int .i64 c2, .int .i64 f2]]) ∧ Hid (PP2 Y (.slice o L2 c) ∧ Below W.heap.size W Y)))
    (C3 : Hid (∀ W, Below w.heap.size w W → Calls Tryd.prog 6 #[.string T3] W fun r Y => ∃ o c, r = .returned (.tuple #[.agg #[.slice none 0 0, .slice o L3 c], .int .i64 a3, .agg #[.int .i64 c3, .int .i64 f3]]) ∧ Hid (PP3 Y (.slice o L3 c) ∧ Below W.heap.size W Y)))
    (SM : Hid (∀ (w2 : World) (o : Option Addr) (c : Nat) (w3 : World) (po : Option Addr) (kc : Nat) (V : World), PP1 w2 (.slice o L1 c) → PP2 w3 (.slice po L2 kc) → Below w2.heap.size w2 V → Below w3.heap.size w3 V → Calls Tryd.prog 7 #[.agg #[.slice none 0 0, .slice o L1 c], .int .i64 a1, .agg #[.slice none 0 0, .slice po L2 kc], .int .i64 a2] V fun r Y => r = .returned (.bool true) ∧ Hid (Below V.heap.size V Y)))
    (k : c1 = 0) (k2 : c2 = 0) (k3 : c3 = 2) (k4 : f3 = (n : Int) + 1) :
    Calls Tryd.prog 3 #[.string S] w fun r Y => r = .returned (.bool true) ∧ Below w.heap.size w Y := by
  have q : decide ((400 : Int) < (n : Int)) = false := decide_eq_false (by omega)
  have AL : Hid (Calls Tryd.prog 5 #[] w fun r Y => r = .returned (.bool true) ∧ Hid (Below w.heap.size w Y)) := Lib.hid ((alive_px w hS.out).mono fun r Y h => ⟨h.1, Lib.hid h.2⟩)
  have tok : True := trivial
  have tok2 : True := trivial
  have q0 : (c1 != 0) = false := by simp [k]
  have q1 : (c2 == 3) = false := by simp [k2]
  have q2 : (c2 == 0) = true := by simp [k2]
  have q3 : (c3 == 2) = true := by simp [k3]
  have q4 : (f3 == (n : Int) + 1) = true := by simp [k4]
  clear k k2 k3 k4
  go_enter Tryd.func3, Tryd.ntmps3
  go_wp2_with (first
      | (go_at_call 5; (with_reducible refine AL.out.mono ?_); rintro e w1 ⟨rfl, hb1⟩)
      | (go_at_call 6; have _k := tok; clear tok _k; (with_reducible refine (C1.out w1 hb1.out).mono ?_); rintro e w2 ⟨o, c, rfl, h2⟩)
      | (go_at_call 6; have _k := tok2; clear tok2 _k;
            obtain ⟨V2, hV2⟩ : ∃ V2, V2 = (w2.alloc (.cells #[.slice none 0 0, .slice o L1 c] 26)).alloc (.cells #[.int .i64 c1, .int .i64 f1] 29) := ⟨_, rfl⟩;
            obtain ⟨v1, v2⟩ := br_two_boxes w2 #[.slice none 0 0, .slice o L1 c] #[.int .i64 c1, .int .i64 f1] 26 29;
            have hbv : Below w2.heap.size w2 V2 := (by rw [hV2]; exact ((Below.refl _ _).alloc (Nat.le_refl _) _).alloc (by simp) _);
            have hbV := hb1.out.trans ((h2.out.2.trans (hbv.mono h2.out.2.size)).mono hb1.out.size);
            rw [← hV2] at v1 v2; rw [← hV2]; clear hV2;
            (with_reducible refine (C2.out V2 hbV).mono ?_); rintro e w3 ⟨po, kc, rfl, h3⟩;
            have x1 := (h3.out.2.block _ (heap_lt v1)).trans v1;
            have x2 := (h3.out.2.block _ (heap_lt v2)).trans v2;
            have p0 : w3.cell? ⟨w2.heap.size, 0, none⟩ = some (.slice none 0 0) := (by simp [World.cell?, x1]);
            have p1 : w3.cell? ⟨w2.heap.size, 1, none⟩ = some (.slice o L1 c) := (by simp [World.cell?, x1]);
            have u0 : w3.cell? ⟨w2.heap.size + 1, 0, none⟩ = some (.int .i64 c1) := (by simp [World.cell?, x2]);
            have u1 : w3.cell? ⟨w2.heap.size + 1, 1, none⟩ = some (.int .i64 f1) := (by simp [World.cell?, x2]);
            have n1 := heap_lt x1; have n2 := heap_lt x2;
            have X1 := Lib.hid x1;
            have HB := Lib.hid (hbV.trans (h3.out.2.mono hbV.size));
            have HB23 := Lib.hid (hbv.trans (h3.out.2.mono hbv.size));
            clear hbv hbV x1 x2 v1 v2)
      | (go_at_call 6;
            obtain ⟨V3, hV3⟩ : ∃ V3, V3 = (w3.alloc (.cells #[.slice none 0 0, .slice po L2 kc] 26)).alloc (.cells #[.int .i64 c2, .int .i64 f2] 29) := ⟨_, rfl⟩;
            obtain ⟨v1, v2⟩ := br_two_boxes w3 #[.slice none 0 0, .slice po L2 kc] #[.int .i64 c2, .int .i64 f2] 26 29;
            have hbv : Below w3.heap.size w3 V3 := (by rw [hV3]; exact ((Below.refl _ _).alloc (Nat.le_refl _) _).alloc (by simp) _);
            have hbV := HB.out.trans (hbv.mono HB.out.size);
            rw [← hV3] at v1 v2; rw [← hV3]; clear hV3;
            (with_reducible refine (C3.out V3 hbV).mono ?_); rintro e w4 ⟨ro, rc, rfl, h4⟩;
            have hb34 := hbv.trans (h4.out.2.mono hbv.size);
            have x1 := (h4.out.2.block _ (heap_lt v1)).trans v1;
            have x2 := (h4.out.2.block _ (heap_lt v2)).trans v2;
            have P0 := cell_on hb34 p0; have P1 := cell_on hb34 p1;
            have g0 : w4.cell? ⟨w3.heap.size, 0, none⟩ = some (.slice none 0 0) := (by simp [World.cell?, x1]);
            have g1 : w4.cell? ⟨w3.heap.size, 1, none⟩ = some (.slice po L2 kc) := (by simp [World.cell?, x1]);
            have k0 : w4.cell? ⟨w3.heap.size + 1, 0, none⟩ = some (.int .i64 c2) := (by simp [World.cell?, x2]);
            have k1 : w4.cell? ⟨w3.heap.size + 1, 1, none⟩ = some (.int .i64 f2) := (by simp [World.cell?, x2]);
            have n3 := heap_lt x1; have n4 := heap_lt x2; have n5 := Nat.lt_of_lt_of_le n1 hb34.size; have n6 := Nat.lt_of_lt_of_le n2 hb34.size;
            have HB4 := Lib.hid (hbV.trans (h4.out.2.mono hbV.size));
            have HB24 := Lib.hid (HB23.out.trans (hb34.mono HB23.out.size));
            have HB34 := Lib.hid hb34;
            clear hbv hbV x1 x2 v1 v2 hb34)
      | (go_at_call 7;
            have hb4f := ((Below.refl w4.heap.size w4).alloc (Nat.le_refl _) (.cells #[.slice none 0 0, .slice ro L3 rc] 26)).alloc (by simp) (.cells #[.int .i64 c3, .int .i64 f3] 29);
            have HBF := Lib.hid hb4f;
            have m0 := (br_two_boxes w4 #[.slice none 0 0, .slice ro L3 rc] #[.int .i64 c3, .int .i64 f3] 26 29).2;
            (with_reducible refine (SM.out w2 _ _ w3 _ _ _ h2.out.1 h3.out.1 (HB24.out.trans (hb4f.mono HB24.out.size)) (HB34.out.trans (hb4f.mono HB34.out.size))).mono ?_); rintro e w5 ⟨rfl, hb5⟩;
            have m1 := (hb5.out.block _ (heap_lt m0)).trans m0;
            have y0 : w5.cell? ⟨w4.heap.size + 1, 0, none⟩ = some (.int .i64 c3) := (by simp [World.cell?, m1]);
            have y1 : w5.cell? ⟨w4.heap.size + 1, 1, none⟩ = some (.int .i64 f3) := (by simp [World.cell?, m1]);
            clear m0 m1 hb4f))
  go_ret
  exact ⟨rfl, HB4.out.trans ((HBF.out.trans (hb5.out.mono HBF.out.size)).mono HB4.out.size)⟩
theorem br_cat (a b : List UInt8) : str a ++ str b = str (a ++ b) := by unfold str; apply ByteArray.ext; simp
theorem ExprX.br {p : List Ex} {cd f : Int} {W : World} {r : Ending} {Y : World} (P : World → Value → Prop) (hP : ∀ v, ExsOwn Y W.heap.size (fun _ => False) v p → P Y v) (h : ExprX p cd f W r Y) :
    ∃ o c, r = .returned (.tuple #[.agg #[.slice none 0 0, .slice o p.length c], .int .i64 ((p.length - 1 : Nat) : Int), .agg #[.int .i64 cd, .int .i64 f]]) ∧ Hid (P Y (.slice o p.length c) ∧ Below W.heap.size W Y) := by
  obtain ⟨o, c, h1, h2, h3⟩ := h
  exact ⟨o, c, h1, Lib.hid ⟨hP _ h2, h3⟩⟩
theorem brackets_law (s : ByteArray) (w : World) (hS : Signs w) : Calls Tryd.prog 3 #[.string s] w fun r Y => r = .returned (.bool true) ∧ Below w.heap.size w Y := by
  obtain ⟨l, rfl⟩ : ∃ l, s = str l := ⟨s.data.toList, by cases s; simp [str]⟩
  rcases Nat.lt_or_ge 400 l.length with h | h
  · exact brack_long _ _ (str_size l) (by omega) w (Lib.hid hS)
  · obtain ⟨p, q, r, c1, f1, c2, f2, c3, f3, h1, h2, h3, h4⟩ := brack_calls l h
    have e1 : str [40] ++ str l = str (40 :: l) := br_cat [40] l
    have e2 : str (40 :: l) ++ str [10, 41] = str (40 :: (l ++ [10, 41])) := br_cat (40 :: l) [10, 41]
    have e3 : str l ++ str [10, 41] = str (l ++ [10, 41]) := br_cat l [10, 41]
    have T : ∀ (t : List UInt8) (p : List Ex) (cd f : Int) (P : World → Value → Prop), (∀ W Y v, ExsOwn Y W (fun _ => False) v p → P Y v) → (∀ W, Signs W → Calls Tryd.prog 6 #[.string (str t)] W fun e Y => ExprX p cd f W e Y) →
        Hid (∀ W, Below w.heap.size w W → Calls Tryd.prog 6 #[.string (str t)] W fun r Y => ∃ o c, r = .returned (.tuple #[.agg #[.slice none 0 0, .slice o p.length c], .int .i64 ((p.length - 1 : Nat) : Int), .agg #[.int .i64 cd, .int .i64 f]]) ∧ Hid (P Y (.slice o p.length c) ∧ Below W.heap.size W Y)) :=
      fun t p cd f P hP hC => Lib.hid fun W hb => (hC W (hS.below hb)).mono fun r Y h => h.br P (fun v => hP _ _ v)
    rcases h4 with k | ⟨k, k2⟩ | ⟨k, k2, k3, k4, k5, k6, k7, k8, k9, k10⟩
    · exact brack_fault (str l) _ _ l.length (str_size l) (by omega) _ (l.length + 1) (str_size _) (by omega) e1 e2 e3 p.length q.length 0 _ _ 0 c1 f1 c2 f2 0 0 (fun _ _ => True) (fun _ _ => True) (fun _ _ => True) w (Lib.hid hS) (T _ _ _ _ _ (fun _ _ _ _ => trivial) h1) (T _ _ _ _ _ (fun _ _ _ _ => trivial) h2) k
    · exact brack_deep (str l) _ _ l.length (str_size l) (by omega) _ (l.length + 1) (str_size _) (by omega) e1 e2 e3 p.length q.length 0 _ _ 0 c1 f1 c2 f2 0 0 (fun _ _ => True) (fun _ _ => True) (fun _ _ => True) w (Lib.hid hS) (T _ _ _ _ _ (fun _ _ _ _ => trivial) h1) (T _ _ _ _ _ (fun _ _ _ _ => trivial) h2) k k2
    · have hql := k10.1
      exact brack_good (str l) _ _ l.length (str_size l) (by omega) _ (l.length + 1) (str_size _) (by omega) e1 e2 e3 p.length q.length r.length _ _ _ c1 f1 c2 f2 c3 f3 (fun Y v => ExsAt Y v p) (fun Y v => ExsAt Y v q) (fun _ _ => True) w (Lib.hid hS)
        (T _ _ _ _ _ (fun _ _ _ ho => exs_own ho k7) h1) (T _ _ _ _ _ (fun _ _ _ ho => exs_own ho k8) h2) (T _ _ _ _ _ (fun _ _ _ _ => trivial) h3)
        (Lib.hid fun w2 o c w3 po kc V g1 g2 b1 b2 => by
          rw [hql]
          replace g2 : ExsAt w3 (.slice po q.length kc) q := g2
          rw [hql] at g2
          exact same_er p q none none 0 0 0 0 _ _ V (g1.below b1) (g2.below b2) k10 (fun i x hi => (k7 i x hi).1) k9 (by unfold reachN; omega) (p.length - 1) (by omega) V (Below.refl _ _)) k k2 k3 k4
end Go.Proofs.YtpfmlfcaadnnpaaDoor
