/- The law of spoiled texts. -/
import Derived.Test.YtlbhlncipajapaaDoorSpBase
namespace Go.Proofs.YtlbhlncipajapaaDoor
open Go.RowKit Lx
set_option linter.unusedVariables false

set_option maxHeartbeats 4000000 in
theorem spoiled_long (S : ByteArray) (n : Nat) (hs : S.size = n) (hl : (4000 : Int) < (n : Int)) (w : World) (hS : Hid (Signs w)) :
    Calls Tryd.prog 4 #[.string S] w fun r Y => r = .returned (.bool true) ∧ Below w.heap.size w Y := by
  have q : decide ((4000 : Int) < (n : Int)) = true := decide_eq_true hl
  have AL : Hid (Calls Tryd.prog 5 #[] w fun r Y => r = .returned (.bool true) ∧ Hid (Below w.heap.size w Y)) := Lib.hid ((alive_px w hS.out).mono fun r Y h => ⟨h.1, Lib.hid h.2⟩)
  go_enter Tryd.func4, Tryd.ntmps4
  go_wp2_with (go_at_call 5; ((with_reducible refine AL.out.mono ?_); rintro e w1 ⟨rfl, hb1⟩))
  go_ret
  exact ⟨rfl, hb1.out⟩
/-- what parse.Parse answers, by the lengths and the fault -/
def SpRet (W : World) (D L : Nat) (cd f : Int) (r : Ending) (Y : World) : Prop :=
  ∃ od c1 o c, r = .returned (.tuple #[.agg #[.slice od D c1, .slice o L c], .agg #[.int .i64 cd, .int .i64 f]]) ∧ Hid (Below W.heap.size W Y)
theorem ParseX.sp {p : Pr} {cd f : Int} {W : World} {r : Ending} {Y : World} (h : ParseX p cd f W r Y) : SpRet W p.decls.length p.exprs.length cd f r Y := by
  obtain ⟨sd, se, h1, ⟨⟨o1, dcap, db, doff, rfl, _⟩, ⟨o2, cap, b, off, rfl, _⟩, _⟩, h3⟩ := h
  exact ⟨_, _, _, _, h1, Lib.hid h3⟩
theorem sp_two_boxes (w : World) (c d : Array Value) (S T : Nat) : ((w.alloc (.cells c S)).alloc (.cells d T)).heap[w.heap.size]? = some (.cells c S (0, 0)) ∧ ((w.alloc (.cells c S)).alloc (.cells d T)).heap[w.heap.size + 1]? = some (.cells d T (0, 0)) := by
  constructor
  · rw [heap_alloc_old _ _ (by simp)]; exact heap_alloc_new w _
  · have := heap_alloc_new (w.alloc (.cells c S)) (.cells d T)
    rw [World.size_alloc] at this
    exact this
set_option maxHeartbeats 4000000 in
theorem spoiled_core (S T : ByteArray) (n : Nat) (hs : S.size = n) (hl : (n : Int) ≤ 4000) (hT : S ++ ⟨#[32, 64]⟩ = T) (D L D2 L2 : Nat) (cd f cd2 f2 : Int) (w : World) (hS : Hid (Signs w))
    (C1 : Hid (∀ W, Below w.heap.size w W → Calls Tryd.prog 8 #[.string S] W fun r Y => ∃ od c1 o c, r = .returned (.tuple #[.agg #[.slice od D c1, .slice o L c], .agg #[.int .i64 cd, .int .i64 f]]) ∧ Hid (Below W.heap.size W Y)))
    (C2 : Hid (∀ W, Below w.heap.size w W → Calls Tryd.prog 8 #[.string T] W fun r Y => ∃ od c1 o c, r = .returned (.tuple #[.agg #[.slice od D2 c1, .slice o L2 c], .agg #[.int .i64 cd2, .int .i64 f2]]) ∧ Hid (Below W.heap.size W Y)))
    (k : Hid ((cd = 0 ∧ cd2 = 1 ∧ f2 = (n : Int) + 1) ∨ (cd = 0 ∧ cd2 = 0) ∨ (¬cd = 0 ∧ 0 ≤ f ∧ f ≤ (n : Int) ∧ D = 0 ∧ L = 0))) :
    Calls Tryd.prog 4 #[.string S] w fun r Y => r = .returned (.bool true) ∧ Below w.heap.size w Y := by
  have q : decide ((4000 : Int) < (n : Int)) = false := decide_eq_false (by omega)
  have AL : Hid (Calls Tryd.prog 5 #[] w fun r Y => r = .returned (.bool true) ∧ Hid (Below w.heap.size w Y)) := Lib.hid ((alive_px w hS.out).mono fun r Y h => ⟨h.1, Lib.hid h.2⟩)
  have tok : True := trivial
  rcases k.out with ⟨h0, h1, h2⟩ | ⟨h0, h1⟩ | ⟨h0, h1, h2, h3, h4⟩
  · clear k
    have q0 : (cd == 0) = true := by simp [h0]
    have q1 : (cd2 == 1) = true := by simp [h1]
    have q2 : (f2 == (n : Int) + 1) = true := by simp [h2]
    clear h0 h1 h2
    go_enter Tryd.func4, Tryd.ntmps4
    go_wp2_with (first
      | (go_at_call 5; (with_reducible refine AL.out.mono ?_); rintro e w1 ⟨rfl, hb1⟩)
      | (go_at_call 8; have _k := tok; clear tok _k; (with_reducible refine (C1.out w1 hb1.out).mono ?_); rintro e w2 ⟨od, c1, o, c, rfl, h2⟩)
      | (go_at_call 8;
            obtain ⟨V2, hV2⟩ : ∃ V2, V2 = (w2.alloc (.cells #[.slice od D c1, .slice o L c] 26)).alloc (.cells #[.int .i64 cd, .int .i64 f] 29) := ⟨_, rfl⟩;
            obtain ⟨v1, v2⟩ := sp_two_boxes w2 #[.slice od D c1, .slice o L c] #[.int .i64 cd, .int .i64 f] 26 29;
            have hbv : Below w2.heap.size w2 V2 := (by rw [hV2]; exact ((Below.refl _ _).alloc (Nat.le_refl _) _).alloc (by simp) _);
            have hbV := hb1.out.trans ((h2.out.trans (hbv.mono h2.out.size)).mono hb1.out.size);
            rw [← hV2] at v1 v2; rw [← hV2]; clear hV2;
            (with_reducible refine (C2.out V2 hbV).mono ?_); rintro e w3 ⟨pd, k1, po, kc, rfl, h3⟩;
            have x1 := (h3.out.block _ (heap_lt v1)).trans v1;
            have x2 := (h3.out.block _ (heap_lt v2)).trans v2;
            have p0 : w3.cell? ⟨w2.heap.size, 0, none⟩ = some (.slice od D c1) := (by simp [World.cell?, x1]);
            have p1 : w3.cell? ⟨w2.heap.size, 1, none⟩ = some (.slice o L c) := (by simp [World.cell?, x1]);
            have u0 : w3.cell? ⟨w2.heap.size + 1, 0, none⟩ = some (.int .i64 cd) := (by simp [World.cell?, x2]);
            have u1 : w3.cell? ⟨w2.heap.size + 1, 1, none⟩ = some (.int .i64 f) := (by simp [World.cell?, x2]);
            have n1 := heap_lt x1; have n2 := heap_lt x2;
            have HB := Lib.hid (hbV.trans (h3.out.mono hbV.size));
            clear hbv hbV x1 x2 v1 v2))
    go_ret
    exact ⟨rfl, (HB.out.alloc HB.out.size _).alloc (HB.out.alloc HB.out.size _).size _⟩
  · clear k
    have q0 : (cd == 0) = true := by simp [h0]
    have q1 : (cd2 == 1) = false := by simp [h1]
    have q2 : (cd2 == 0) = true := by simp [h1]
    have q3 : decide ((0 : Int) ≤ (D : Int)) = true := decide_eq_true (by omega)
    clear h0 h1
    go_enter Tryd.func4, Tryd.ntmps4
    go_wp2_with (first
      | (go_at_call 5; (with_reducible refine AL.out.mono ?_); rintro e w1 ⟨rfl, hb1⟩)
      | (go_at_call 8; have _k := tok; clear tok _k; (with_reducible refine (C1.out w1 hb1.out).mono ?_); rintro e w2 ⟨od, c1, o, c, rfl, h2⟩)
      | (go_at_call 8;
            obtain ⟨V2, hV2⟩ : ∃ V2, V2 = (w2.alloc (.cells #[.slice od D c1, .slice o L c] 26)).alloc (.cells #[.int .i64 cd, .int .i64 f] 29) := ⟨_, rfl⟩;
            obtain ⟨v1, v2⟩ := sp_two_boxes w2 #[.slice od D c1, .slice o L c] #[.int .i64 cd, .int .i64 f] 26 29;
            have hbv : Below w2.heap.size w2 V2 := (by rw [hV2]; exact ((Below.refl _ _).alloc (Nat.le_refl _) _).alloc (by simp) _);
            have hbV := hb1.out.trans ((h2.out.trans (hbv.mono h2.out.size)).mono hb1.out.size);
            rw [← hV2] at v1 v2; rw [← hV2]; clear hV2;
            (with_reducible refine (C2.out V2 hbV).mono ?_); rintro e w3 ⟨pd, k1, po, kc, rfl, h3⟩;
            have x1 := (h3.out.block _ (heap_lt v1)).trans v1;
            have x2 := (h3.out.block _ (heap_lt v2)).trans v2;
            have p0 : w3.cell? ⟨w2.heap.size, 0, none⟩ = some (.slice od D c1) := (by simp [World.cell?, x1]);
            have p1 : w3.cell? ⟨w2.heap.size, 1, none⟩ = some (.slice o L c) := (by simp [World.cell?, x1]);
            have u0 : w3.cell? ⟨w2.heap.size + 1, 0, none⟩ = some (.int .i64 cd) := (by simp [World.cell?, x2]);
            have u1 : w3.cell? ⟨w2.heap.size + 1, 1, none⟩ = some (.int .i64 f) := (by simp [World.cell?, x2]);
            have n1 := heap_lt x1; have n2 := heap_lt x2;
            have HB := Lib.hid (hbV.trans (h3.out.mono hbV.size));
            clear hbv hbV x1 x2 v1 v2))
    go_ret
    exact ⟨rfl, (HB.out.alloc HB.out.size _).alloc (HB.out.alloc HB.out.size _).size _⟩
  · clear k
    subst h3 h4
    have q0 : (cd == 0) = false := by simp [h0]
    have q1 : decide ((0 : Int) ≤ f) = true := decide_eq_true h1
    have q2 : decide (f ≤ (n : Int)) = true := decide_eq_true h2
    clear h0 h1 h2
    go_enter Tryd.func4, Tryd.ntmps4
    go_wp2_with (first
      | (go_at_call 5; (with_reducible refine AL.out.mono ?_); rintro e w1 ⟨rfl, hb1⟩)
      | (go_at_call 8; have _k := tok; clear tok _k; (with_reducible refine (C1.out w1 hb1.out).mono ?_); rintro e w2 ⟨od, c1, o, c, rfl, h2⟩)
      | (go_at_call 8;
            obtain ⟨V2, hV2⟩ : ∃ V2, V2 = (w2.alloc (.cells #[.slice od 0 c1, .slice o 0 c] 26)).alloc (.cells #[.int .i64 cd, .int .i64 f] 29) := ⟨_, rfl⟩;
            obtain ⟨v1, v2⟩ := sp_two_boxes w2 #[.slice od 0 c1, .slice o 0 c] #[.int .i64 cd, .int .i64 f] 26 29;
            have hbv : Below w2.heap.size w2 V2 := (by rw [hV2]; exact ((Below.refl _ _).alloc (Nat.le_refl _) _).alloc (by simp) _);
            have hbV := hb1.out.trans ((h2.out.trans (hbv.mono h2.out.size)).mono hb1.out.size);
            rw [← hV2] at v1 v2; rw [← hV2]; clear hV2;
            (with_reducible refine (C2.out V2 hbV).mono ?_); rintro e w3 ⟨pd, k1, po, kc, rfl, h3⟩;
            have x1 := (h3.out.block _ (heap_lt v1)).trans v1;
            have x2 := (h3.out.block _ (heap_lt v2)).trans v2;
            have p0 : w3.cell? ⟨w2.heap.size, 0, none⟩ = some (.slice od 0 c1) := (by simp [World.cell?, x1]);
            have p1 : w3.cell? ⟨w2.heap.size, 1, none⟩ = some (.slice o 0 c) := (by simp [World.cell?, x1]);
            have u0 : w3.cell? ⟨w2.heap.size + 1, 0, none⟩ = some (.int .i64 cd) := (by simp [World.cell?, x2]);
            have u1 : w3.cell? ⟨w2.heap.size + 1, 1, none⟩ = some (.int .i64 f) := (by simp [World.cell?, x2]);
            have n1 := heap_lt x1; have n2 := heap_lt x2;
            have HB := Lib.hid (hbV.trans (h3.out.mono hbV.size));
            clear hbv hbV x1 x2 v1 v2))
    go_ret
    exact ⟨rfl, (HB.out.alloc HB.out.size _).alloc (HB.out.alloc HB.out.size _).size _⟩
theorem sp_cat (a b : List UInt8) : str a ++ str b = str (a ++ b) := by unfold str; apply ByteArray.ext; simp
theorem spoiled_law (s : ByteArray) (w : World) (hS : Signs w) : Calls Tryd.prog 4 #[.string s] w fun r Y => r = .returned (.bool true) ∧ Below w.heap.size w Y := by
  obtain ⟨l, rfl⟩ : ∃ l, s = str l := ⟨s.data.toList, by cases s; simp [str]⟩
  rcases Nat.lt_or_ge 4000 l.length with h | h
  · exact spoiled_long _ _ (str_size l) (by omega) w (Lib.hid hS)
  · obtain ⟨p, q, cd, f, cd2, f2, h1, h2, h3, h4⟩ := spoil_calls l h
    refine spoiled_core (str l) (str (l ++ [32, 64])) l.length (str_size l) (by omega) (sp_cat l [32, 64]) p.decls.length p.exprs.length q.decls.length q.exprs.length cd f cd2 f2 w (Lib.hid hS)
      (Lib.hid fun W hb => (h1 W (hS.below hb)).mono fun r Y h => h.sp) (Lib.hid fun W hb => (h2 W (hS.below hb)).mono fun r Y h => h.sp) (Lib.hid ?_)
    by_cases h0 : cd = 0
    · rcases h3 h0 with ⟨e1, e2⟩ | ⟨_, e1⟩
      · exact .inl ⟨h0, e1, e2⟩
      · exact .inr (.inl ⟨h0, e1⟩)
    · obtain ⟨e1, e2, e3, e4⟩ := h4 h0
      exact .inr (.inr ⟨h0, e1, e2, by rw [e3]; rfl, by rw [e4]; rfl⟩)
end Go.Proofs.YtlbhlncipajapaaDoor
