/- The reference: one token at a place: names. -/
import Derived.Test.YtnkndmmebhajcaaDoorLexRef
import Derived.Test.YtnkndmmebhajcaaDoorLexWordsLaw
namespace Go.Proofs.YtnkndmmebhajcaaDoor
open Go.RowKit

/-- a token lies in block g, and may be written -/
def Tok4 (w : World) (g : Nat) (k v a : Int) (S : ByteArray) : Prop :=
  w.cell? ⟨g, 0, none⟩ = some (.int .i64 k) ∧ w.cell? ⟨g, 1, none⟩ = some (.string S) ∧ w.cell? ⟨g, 2, none⟩ = some (.int .i64 v) ∧ w.cell? ⟨g, 3, none⟩ = some (.int .i64 a) ∧
  w.frozen? ⟨g, 0, none⟩ = false ∧ w.frozen? ⟨g, 1, none⟩ = false ∧ w.frozen? ⟨g, 2, none⟩ = false ∧ w.frozen? ⟨g, 3, none⟩ = false
theorem Tok4.below {w w' : World} {g B : Nat} {k v a : Int} {S : ByteArray} (h : Tok4 w g k v a S) (hb : Below B w w') (hg : g < B) : Tok4 w' g k v a S :=
  ⟨(hb.cell (p := ⟨g, 0, none⟩) hg).trans h.1, (hb.cell (p := ⟨g, 1, none⟩) hg).trans h.2.1, (hb.cell (p := ⟨g, 2, none⟩) hg).trans h.2.2.1, (hb.cell (p := ⟨g, 3, none⟩) hg).trans h.2.2.2.1,
   (hb.frozen (p := ⟨g, 0, none⟩) hg).trans h.2.2.2.2.1, (hb.frozen (p := ⟨g, 1, none⟩) hg).trans h.2.2.2.2.2.1, (hb.frozen (p := ⟨g, 2, none⟩) hg).trans h.2.2.2.2.2.2.1, (hb.frozen (p := ⟨g, 3, none⟩) hg).trans h.2.2.2.2.2.2.2⟩
theorem tok4_new (w : World) (k v a : Int) (S : ByteArray) (T : TypeId) : Tok4 (w.alloc (.cells #[.int .i64 k, .string S, .int .i64 v, .int .i64 a] T)) w.heap.size k v a S :=
  ⟨by rw [World.cell?_alloc_new]; rfl, by rw [World.cell?_alloc_new]; rfl, by rw [World.cell?_alloc_new]; rfl, by rw [World.cell?_alloc_new]; rfl,
   World.frozen?_alloc_new _ _ _ _, World.frozen?_alloc_new _ _ _ _, World.frozen?_alloc_new _ _ _ _, World.frozen?_alloc_new _ _ _ _⟩
/-- what One answers -/
def OneRet (k v a : Int) (S : ByteArray) (ok : Bool) (w : World) (e : Ending) (w' : World) : Prop := e = .returned (.tuple #[.agg #[.int .i64 k, .string S, .int .i64 v, .int .i64 a], .bool ok]) ∧ Below w.heap.size w w'
theorem run_next {p : UInt8 → Bool} {l : List UInt8} {j x : Nat} {c : UInt8} (h : l[j]? = some c) (hr : runTo p l j = x) (hp : p c = true) : runTo p l (j + 1) = x := by rw [← runTo_step h hp]; exact hr
set_option maxHeartbeats 8000000 in
set_option maxRecDepth 100000 in
theorem one_name (l : List UInt8) (n : Nat) (hn : Hid (l.length = n)) (nl : (n : Int) ≤ 30000) (hs : (str l).size = n) (a : Nat) (han : (a : Int) < (n : Int)) (c : UInt8) (hix : ∀ h, (str l)[a]'h = c) (hcl : Hid (isLetter c = true)) (x : Nat) (hx : Hid (runTo isName l a = x)) (hax : (a : Int) ≤ (x : Int)) (hxn : (x : Int) ≤ (n : Int))
    (T : ByteArray) (hT : (str l).extract a x = T) (t : List UInt8) (hTt : Hid (T = str t)) (m : Nat) (hm : (x : Int) - (a : Int) = (m : Int)) (K : Int) (Wb : Bool) (hWb : Hid (Wb = wordL t)) (hK : Hid (K = if Wb = true then 3 else 1)) (B : Bool) (hB : Hid (B = decide ((m : Int) ≤ 16))) (w : World) :
    Calls Tryd.prog 19 #[.string (str l), .int .i64 (a : Int)] w fun e w' => OneRet K 0 a T B w e w' := by
  have LT : Hid (∀ (c : UInt8) w, Calls Tryd.prog 30 #[.int .u8 (c.toNat : Int)] w fun e w' => e = .returned (.bool (isLetter c)) ∧ w' = w) := Lib.hid letter_ref
  have DT : Hid (∀ (c : UInt8) w, Calls Tryd.prog 31 #[.int .u8 (c.toNat : Int)] w fun e w' => e = .returned (.bool (isDig c)) ∧ w' = w) := Lib.hid digit_ref
  have L0 : Hid (∀ w, Calls Tryd.prog 30 #[.int .u8 (c.toNat : Int)] w fun e w' => e = .returned (.bool true) ∧ w' = w) := Lib.hid fun w => by have := letter_ref c w; rwa [hcl.out] at this
  have CW : Hid (∀ w, Calls Tryd.prog 14 #[.string T] w fun e w' => e = .returned (.bool Wb) ∧ Below w.heap.size w w') := Lib.hid fun w => by rw [hTt.out]; exact word_ref t Wb hWb w
  have hb0 := Lib.hid ((Below.refl w.heap.size w).alloc (Nat.le_refl _) (.cells #[.int .i64 0, .string ⟨#[]⟩, .int .i64 0, .int .i64 0] 36))
  have hrm := Lib.hid (roomAt_new w 36)
  have hbx := Lib.hid (by have := tok4_new (w.alloc (.cells #[.int .i64 0, .string ⟨#[]⟩, .int .i64 0, .int .i64 0] 36)) 1 0 a T 36; rwa [World.size_alloc] at this)
  have a0 : (0 : Int) ≤ (a : Int) := by omega
  have HE : Hid (∀ j : Nat, runTo isName l j = x → (n ≤ j ∨ ∃ c, l[j]? = some c ∧ isName c = false) → j = x) := Lib.hid fun j h1 h2 => by
    rcases h2 with h2 | ⟨c, h2, h3⟩
    · rw [runTo_end (by rw [hn.out]; exact h2)] at h1; exact h1
    · rw [runTo_stop h2 h3] at h1; exact h1
  go_enter Tryd.func19, Tryd.ntmps19
  go_wp2_with (go_at_call 30; ((with_reducible refine (L0.out _).mono ?_); rintro e w' ⟨rfl, rfl⟩))
  go_loop [7] (fun i => ∃ j : Nat, a ≤ j ∧ j ≤ n ∧ Hid (runTo isName l j = x) ∧ i = .int .i64 j) (fun i => n - litLen i)
  case atStart => exact ⟨a, Nat.le_refl _, by omega, hx, rfl⟩
  case round =>
    obtain ⟨j, haj, hj, hr, rfl⟩ := hrel
    rcases Nat.lt_or_ge j n with hlt | hge
    · have q3 : decide ((j : Int) < (n : Int)) = true := decide_eq_true (by omega)
      have jn : (j : Int) < (n : Int) := by omega
      obtain ⟨d, hdj⟩ := isBehind hn.out hlt
      have hix2 : ∀ h, (str l)[j]'h = d := fun h => str_at l hdj h
      have HD := Lib.hid hdj
      clear hdj
      obtain ⟨b1, hb1⟩ : ∃ b, b = isLetter d := ⟨_, rfl⟩
      obtain ⟨b2, hb2⟩ : ∃ b, b = isDig d := ⟨_, rfl⟩
      have LD := Lib.hid (LT.out d)
      have DD := Lib.hid (DT.out d)
      rw [← hb1] at LD
      rw [← hb2] at DD
      have H1 := Lib.hid hb1
      have H2 := Lib.hid hb2
      clear hb1 hb2
      cases b1 with
      | true =>
        go_wp2_with (go_at_call 30; ((with_reducible refine (LD.out _).mono ?_); rintro e w' ⟨rfl, rfl⟩))
        exact ⟨⟨j + 1, by omega, by omega, Lib.hid (run_next HD.out hr.out (by unfold isName; rw [← H1.out]; rfl)), rfl⟩, by simp [litLen]; omega⟩
      | false =>
        cases b2 with
        | true =>
          go_wp2_with (first | (go_at_call 30; ((with_reducible refine (LD.out _).mono ?_); rintro e w' ⟨rfl, rfl⟩)) | (go_at_call 31; ((with_reducible refine (DD.out _).mono ?_); rintro e w' ⟨rfl, rfl⟩)))
          exact ⟨⟨j + 1, by omega, by omega, Lib.hid (run_next HD.out hr.out (by unfold isName; rw [← H2.out]; simp)), rfl⟩, by simp [litLen]; omega⟩
        | false =>
          obtain rfl : j = x := HE.out j hr.out (.inr ⟨d, HD.out, by unfold isName; rw [← H1.out, ← H2.out]; rfl⟩)
          have hb0' := Lib.hid ((Below.refl (w.heap.size + 1) (w.alloc (.cells #[.int .i64 0, .string ⟨#[]⟩, .int .i64 0, .int .i64 0] 36))).alloc (by simp) (.cells #[.int .i64 1, .string T, .int .i64 0, .int .i64 (a : Int)] 36))
          have hbb := Lib.hid (hb0.out.alloc hb0.out.size (.cells #[.int .i64 1, .string T, .int .i64 0, .int .i64 (a : Int)] 36))
          rcases Wb with _ | _
          · obtain rfl : K = 1 := by rw [hK.out]; rfl
            by_cases h16 : (m : Int) ≤ 16
            · have q16 : decide ((m : Int) ≤ 16) = true := decide_eq_true h16
              obtain rfl : B = true := by rw [hB.out, q16]
              go_wp2_with (first | (go_at_call 30; ((with_reducible refine (LD.out _).mono ?_); rintro e w' ⟨rfl, rfl⟩)) | (go_at_call 31; ((with_reducible refine (DD.out _).mono ?_); rintro e w' ⟨rfl, rfl⟩)) | (go_at_call 14; ((with_reducible refine (CW.out _).mono ?_); rintro e w3 ⟨rfl, hb3⟩; obtain ⟨x0, x1, x2, x3, y0, y1, y2, y3⟩ := hbx.out.below hb3 (by simp); obtain ⟨r0, r1, r2, r3, f0, f1, f2, f3⟩ := hrm.out.below (hb0'.out.trans (hb3.mono (by simp))) (Nat.lt_succ_self _); have HB3 := Lib.hid hb3; clear hb3)))
              exact bodyPost_ret (v := .tuple #[.agg #[.int .i64 1, .string T, .int .i64 0, .int .i64 (a : Int)], .bool true]) (by simp [results, Tryd.results19, go_sem, r0, r1, r2, r3]) rfl ⟨rfl, below_four (hbb.out.trans (HB3.out.mono hbb.out.size)) (Nat.le_refl _) _ _ _ _⟩
            · have q16 : decide ((m : Int) ≤ 16) = false := decide_eq_false h16
              obtain rfl : B = false := by rw [hB.out, q16]
              go_wp2_with (first | (go_at_call 30; ((with_reducible refine (LD.out _).mono ?_); rintro e w' ⟨rfl, rfl⟩)) | (go_at_call 31; ((with_reducible refine (DD.out _).mono ?_); rintro e w' ⟨rfl, rfl⟩)) | (go_at_call 14; ((with_reducible refine (CW.out _).mono ?_); rintro e w3 ⟨rfl, hb3⟩; obtain ⟨x0, x1, x2, x3, y0, y1, y2, y3⟩ := hbx.out.below hb3 (by simp); obtain ⟨r0, r1, r2, r3, f0, f1, f2, f3⟩ := hrm.out.below (hb0'.out.trans (hb3.mono (by simp))) (Nat.lt_succ_self _); have HB3 := Lib.hid hb3; clear hb3)))
              exact bodyPost_ret (v := .tuple #[.agg #[.int .i64 1, .string T, .int .i64 0, .int .i64 (a : Int)], .bool false]) (by simp [results, Tryd.results19, go_sem, r0, r1, r2, r3]) rfl ⟨rfl, below_four (hbb.out.trans (HB3.out.mono hbb.out.size)) (Nat.le_refl _) _ _ _ _⟩
          · obtain rfl : K = 3 := by rw [hK.out]; rfl
            by_cases h16 : (m : Int) ≤ 16
            · have q16 : decide ((m : Int) ≤ 16) = true := decide_eq_true h16
              obtain rfl : B = true := by rw [hB.out, q16]
              go_wp2_with (first | (go_at_call 30; ((with_reducible refine (LD.out _).mono ?_); rintro e w' ⟨rfl, rfl⟩)) | (go_at_call 31; ((with_reducible refine (DD.out _).mono ?_); rintro e w' ⟨rfl, rfl⟩)) | (go_at_call 14; ((with_reducible refine (CW.out _).mono ?_); rintro e w3 ⟨rfl, hb3⟩; obtain ⟨x0, x1, x2, x3, y0, y1, y2, y3⟩ := hbx.out.below hb3 (by simp); obtain ⟨r0, r1, r2, r3, f0, f1, f2, f3⟩ := hrm.out.below (hb0'.out.trans (hb3.mono (by simp))) (Nat.lt_succ_self _); have HB3 := Lib.hid hb3; clear hb3)))
              exact bodyPost_ret (v := .tuple #[.agg #[.int .i64 3, .string T, .int .i64 0, .int .i64 (a : Int)], .bool true]) (by simp [results, Tryd.results19, go_sem, r0, r1, r2, r3]) rfl ⟨rfl, below_four ((hbb.out.trans (HB3.out.mono hbb.out.size)).setCell (p := ⟨w.heap.size + 1, 0, none⟩) (Nat.le_succ _) _) (Nat.le_refl _) _ _ _ _⟩
            · have q16 : decide ((m : Int) ≤ 16) = false := decide_eq_false h16
              obtain rfl : B = false := by rw [hB.out, q16]
              go_wp2_with (first | (go_at_call 30; ((with_reducible refine (LD.out _).mono ?_); rintro e w' ⟨rfl, rfl⟩)) | (go_at_call 31; ((with_reducible refine (DD.out _).mono ?_); rintro e w' ⟨rfl, rfl⟩)) | (go_at_call 14; ((with_reducible refine (CW.out _).mono ?_); rintro e w3 ⟨rfl, hb3⟩; obtain ⟨x0, x1, x2, x3, y0, y1, y2, y3⟩ := hbx.out.below hb3 (by simp); obtain ⟨r0, r1, r2, r3, f0, f1, f2, f3⟩ := hrm.out.below (hb0'.out.trans (hb3.mono (by simp))) (Nat.lt_succ_self _); have HB3 := Lib.hid hb3; clear hb3)))
              exact bodyPost_ret (v := .tuple #[.agg #[.int .i64 3, .string T, .int .i64 0, .int .i64 (a : Int)], .bool false]) (by simp [results, Tryd.results19, go_sem, r0, r1, r2, r3]) rfl ⟨rfl, below_four ((hbb.out.trans (HB3.out.mono hbb.out.size)).setCell (p := ⟨w.heap.size + 1, 0, none⟩) (Nat.le_succ _) _) (Nat.le_refl _) _ _ _ _⟩
    · have q3 : decide ((j : Int) < (n : Int)) = false := decide_eq_false (by omega)
      obtain rfl : j = x := HE.out j hr.out (.inl hge)
      have hb0' := Lib.hid ((Below.refl (w.heap.size + 1) (w.alloc (.cells #[.int .i64 0, .string ⟨#[]⟩, .int .i64 0, .int .i64 0] 36))).alloc (by simp) (.cells #[.int .i64 1, .string T, .int .i64 0, .int .i64 (a : Int)] 36))
      have hbb := Lib.hid (hb0.out.alloc hb0.out.size (.cells #[.int .i64 1, .string T, .int .i64 0, .int .i64 (a : Int)] 36))
      rcases Wb with _ | _
      · obtain rfl : K = 1 := by rw [hK.out]; rfl
        by_cases h16 : (m : Int) ≤ 16
        · have q16 : decide ((m : Int) ≤ 16) = true := decide_eq_true h16
          obtain rfl : B = true := by rw [hB.out, q16]
          go_wp2_with (first | (go_at_call 14; ((with_reducible refine (CW.out _).mono ?_); rintro e w3 ⟨rfl, hb3⟩; obtain ⟨x0, x1, x2, x3, y0, y1, y2, y3⟩ := hbx.out.below hb3 (by simp); obtain ⟨r0, r1, r2, r3, f0, f1, f2, f3⟩ := hrm.out.below (hb0'.out.trans (hb3.mono (by simp))) (Nat.lt_succ_self _); have HB3 := Lib.hid hb3; clear hb3)))
          exact bodyPost_ret (v := .tuple #[.agg #[.int .i64 1, .string T, .int .i64 0, .int .i64 (a : Int)], .bool true]) (by simp [results, Tryd.results19, go_sem, r0, r1, r2, r3]) rfl ⟨rfl, below_four (hbb.out.trans (HB3.out.mono hbb.out.size)) (Nat.le_refl _) _ _ _ _⟩
        · have q16 : decide ((m : Int) ≤ 16) = false := decide_eq_false h16
          obtain rfl : B = false := by rw [hB.out, q16]
          go_wp2_with (first | (go_at_call 14; ((with_reducible refine (CW.out _).mono ?_); rintro e w3 ⟨rfl, hb3⟩; obtain ⟨x0, x1, x2, x3, y0, y1, y2, y3⟩ := hbx.out.below hb3 (by simp); obtain ⟨r0, r1, r2, r3, f0, f1, f2, f3⟩ := hrm.out.below (hb0'.out.trans (hb3.mono (by simp))) (Nat.lt_succ_self _); have HB3 := Lib.hid hb3; clear hb3)))
          exact bodyPost_ret (v := .tuple #[.agg #[.int .i64 1, .string T, .int .i64 0, .int .i64 (a : Int)], .bool false]) (by simp [results, Tryd.results19, go_sem, r0, r1, r2, r3]) rfl ⟨rfl, below_four (hbb.out.trans (HB3.out.mono hbb.out.size)) (Nat.le_refl _) _ _ _ _⟩
      · obtain rfl : K = 3 := by rw [hK.out]; rfl
        by_cases h16 : (m : Int) ≤ 16
        · have q16 : decide ((m : Int) ≤ 16) = true := decide_eq_true h16
          obtain rfl : B = true := by rw [hB.out, q16]
          go_wp2_with (first | (go_at_call 14; ((with_reducible refine (CW.out _).mono ?_); rintro e w3 ⟨rfl, hb3⟩; obtain ⟨x0, x1, x2, x3, y0, y1, y2, y3⟩ := hbx.out.below hb3 (by simp); obtain ⟨r0, r1, r2, r3, f0, f1, f2, f3⟩ := hrm.out.below (hb0'.out.trans (hb3.mono (by simp))) (Nat.lt_succ_self _); have HB3 := Lib.hid hb3; clear hb3)))
          exact bodyPost_ret (v := .tuple #[.agg #[.int .i64 3, .string T, .int .i64 0, .int .i64 (a : Int)], .bool true]) (by simp [results, Tryd.results19, go_sem, r0, r1, r2, r3]) rfl ⟨rfl, below_four ((hbb.out.trans (HB3.out.mono hbb.out.size)).setCell (p := ⟨w.heap.size + 1, 0, none⟩) (Nat.le_succ _) _) (Nat.le_refl _) _ _ _ _⟩
        · have q16 : decide ((m : Int) ≤ 16) = false := decide_eq_false h16
          obtain rfl : B = false := by rw [hB.out, q16]
          go_wp2_with (first | (go_at_call 14; ((with_reducible refine (CW.out _).mono ?_); rintro e w3 ⟨rfl, hb3⟩; obtain ⟨x0, x1, x2, x3, y0, y1, y2, y3⟩ := hbx.out.below hb3 (by simp); obtain ⟨r0, r1, r2, r3, f0, f1, f2, f3⟩ := hrm.out.below (hb0'.out.trans (hb3.mono (by simp))) (Nat.lt_succ_self _); have HB3 := Lib.hid hb3; clear hb3)))
          exact bodyPost_ret (v := .tuple #[.agg #[.int .i64 3, .string T, .int .i64 0, .int .i64 (a : Int)], .bool false]) (by simp [results, Tryd.results19, go_sem, r0, r1, r2, r3]) rfl ⟨rfl, below_four ((hbb.out.trans (HB3.out.mono hbb.out.size)).setCell (p := ⟨w.heap.size + 1, 0, none⟩) (Nat.le_succ _) _) (Nat.le_refl _) _ _ _ _⟩
end Go.Proofs.YtnkndmmebhajcaaDoor
