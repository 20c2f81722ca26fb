/- The law LexTokens, given what the reference's Lex answers. -/
import Derived.Test.YtnkndmmebhajcaaDoorLexSame
namespace Go.Proofs.YtnkndmmebhajcaaDoor
open Go.RowKit

/-- no tokens, a fault -/
def NoRow (c f : Int) (w : World) (e : Ending) (w' : World) : Prop := e = .returned (.tuple #[.slice none 0 0, .agg #[.int .i64 c, .int .i64 f]]) ∧ Below w.heap.size w w'
set_option maxHeartbeats 8000000 in
theorem tokens_none (l : List UInt8) (c f : Int) (w : World) (hS : Hid (Signs w)) (A : Hid (∀ W, Signs W → Calls Tryd.prog 9 #[.string (str l)] W fun e w' => NoRow c f W e w')) (B : Hid (∀ W, Calls Tryd.prog 10 #[.string (str l)] W fun e w' => NoRow c f W e w')) :
    Calls Tryd.prog 3 #[.string (str l)] w fun e w' => e = .returned (.bool true) ∧ Below w.heap.size w w' := by
  have q1 : (c == c) = true := by simp
  have q2 : (f == f) = true := by simp
  go_enter Tryd.func3, Tryd.ntmps3
  go_wp2_with (first | (go_at_call 8; ((with_reducible refine (alive_any _ hS.out).mono ?_); rintro e w1 ⟨rfl, hb⟩; have HB := Lib.hid hb; clear hb)) | (go_at_call 9; ((with_reducible refine (A.out _ (hS.out.below HB.out)).mono ?_); rintro e w2 ⟨rfl, hb2⟩; have HB2 := Lib.hid ((HB.out.trans (hb2.mono HB.out.size)).alloc (HB.out.trans (hb2.mono HB.out.size)).size (.cells #[.int .i64 c, .int .i64 f] 26)); clear hb2)) | (go_at_call 10; ((with_reducible refine (B.out _).mono ?_); rintro e w3 ⟨rfl, hb3⟩; have y0 : w3.cell? ⟨w2.heap.size, 0, none⟩ = some (.int .i64 c) := (hb3.cell (p := ⟨w2.heap.size, 0, none⟩) (by simp)).trans (by rw [World.cell?_alloc_new]; rfl); have z0 : w3.cell? ⟨w2.heap.size, 1, none⟩ = some (.int .i64 f) := (hb3.cell (p := ⟨w2.heap.size, 1, none⟩) (by simp)).trans (by rw [World.cell?_alloc_new]; rfl); have y1 : (w3.alloc (.cells #[.int .i64 c, .int .i64 f] 26)).cell? ⟨w2.heap.size, 0, none⟩ = some (.int .i64 c) := (World.cell?_alloc_old _ _ _ (by have := hb3.size; simp at this ⊢; omega)).trans y0; have z1 : (w3.alloc (.cells #[.int .i64 c, .int .i64 f] 26)).cell? ⟨w2.heap.size, 1, none⟩ = some (.int .i64 f) := (World.cell?_alloc_old _ _ _ (by have := hb3.size; simp at this ⊢; omega)).trans z0; have HB3 := Lib.hid ((HB2.out.trans (hb3.mono HB2.out.size)).alloc (HB2.out.trans (hb3.mono HB2.out.size)).size (.cells #[.int .i64 c, .int .i64 f] 26)); clear hb3)) | (go_at_call 11; ((with_reducible refine (same_nil _).mono ?_); rintro e w4 ⟨rfl, hb4⟩; have HB4 := Lib.hid (HB3.out.trans (hb4.mono HB3.out.size)); clear hb4)))
  go_ret
  exact ⟨rfl, HB4.out⟩
/-- a row of tokens, no fault -/
def SomeRow (us : List Tok) (p : Nat) (w : World) (e : Ending) (w' : World) : Prop := ∃ g cap, e = .returned (.tuple #[.slice (some ⟨g, 0, none⟩) p cap, .agg #[.int .i64 0, .int .i64 0]]) ∧ Below w.heap.size w w' ∧ RowAt w' g us
set_option maxHeartbeats 8000000 in
theorem tokens_some (l : List UInt8) (us : List Tok) (p : Nat) (hp : Hid (us.length = p)) (pl : (p : Int) ≤ 40000) (w : World) (hS : Hid (Signs w)) (A : Hid (∀ W, Signs W → Calls Tryd.prog 9 #[.string (str l)] W fun e w' => SomeRow us p W e w')) (B : Hid (∀ W, Calls Tryd.prog 10 #[.string (str l)] W fun e w' => SomeRow us p W e w')) :
    Calls Tryd.prog 3 #[.string (str l)] w fun e w' => e = .returned (.bool true) ∧ Below w.heap.size w w' := by
  go_enter Tryd.func3, Tryd.ntmps3
  go_wp2_with (first | (go_at_call 8; ((with_reducible refine (alive_any _ hS.out).mono ?_); rintro e w1 ⟨rfl, hb⟩; have HB := Lib.hid hb; clear hb)) | (go_at_call 9; ((with_reducible refine (A.out _ (hS.out.below HB.out)).mono ?_); rintro e w2 ⟨g1, cap1, rfl, hb2, hr1⟩; have HB2 := Lib.hid ((HB.out.trans (hb2.mono HB.out.size)).alloc (HB.out.trans (hb2.mono HB.out.size)).size (.cells #[.int .i64 0, .int .i64 0] 26)); have R1 := Lib.hid (hr1.below ((Below.refl w2.heap.size w2).alloc (Nat.le_refl _) (.cells #[.int .i64 0, .int .i64 0] 26))); clear hb2 hr1)) | (go_at_call 10; ((with_reducible refine (B.out _).mono ?_); rintro e w3 ⟨g3, cap3, rfl, hb3, hr3⟩; have y0 : w3.cell? ⟨w2.heap.size, 0, none⟩ = some (.int .i64 0) := (hb3.cell (p := ⟨w2.heap.size, 0, none⟩) (by simp)).trans (by rw [World.cell?_alloc_new]; rfl); have z0 : w3.cell? ⟨w2.heap.size, 1, none⟩ = some (.int .i64 0) := (hb3.cell (p := ⟨w2.heap.size, 1, none⟩) (by simp)).trans (by rw [World.cell?_alloc_new]; rfl); have y1 : (w3.alloc (.cells #[.int .i64 0, .int .i64 0] 26)).cell? ⟨w2.heap.size, 0, none⟩ = some (.int .i64 0) := (World.cell?_alloc_old _ _ _ (by have := hb3.size; simp at this ⊢; omega)).trans y0; have z1 : (w3.alloc (.cells #[.int .i64 0, .int .i64 0] 26)).cell? ⟨w2.heap.size, 1, none⟩ = some (.int .i64 0) := (World.cell?_alloc_old _ _ _ (by have := hb3.size; simp at this ⊢; omega)).trans z0; have HB3 := Lib.hid ((HB2.out.trans (hb3.mono HB2.out.size)).alloc (HB2.out.trans (hb3.mono HB2.out.size)).size (.cells #[.int .i64 0, .int .i64 0] 26)); have ha3 := (Below.refl w3.heap.size w3).alloc (Nat.le_refl _) (.cells #[.int .i64 0, .int .i64 0] 26); have R3 := Lib.hid (hr3.below ha3); have R1' := Lib.hid ((R1.out.below hb3).below ha3); clear hb3 hr3 ha3)) | (go_at_call 11; ((with_reducible refine (same_row us p hp pl g1 g3 cap1 cap3 _ R1' R3).mono ?_); rintro e w4 ⟨rfl, hb4⟩; have HB4 := Lib.hid (HB3.out.trans (hb4.mono HB3.out.size)); clear hb4)))
  go_ret
  exact ⟨rfl, HB4.out⟩
/-- what the reference's Lex answers -/
def RefLex : Prop := ∀ (l : List UInt8) (ts : List Tok) (r : Option Nat), lexT l ts r → ∀ W, Calls Tryd.prog 10 #[.string (str l)] W fun e w' =>
  (20000 < l.length → NoRow 10 0 W e w') ∧ (l.length ≤ 20000 → match r with | some f => NoRow 1 (f : Int) W e w' | none => SomeRow (ts ++ [endT l.length]) (ts.length + 1) W e w')
theorem tokens_holds (R : RefLex) (s1 : ByteArray) (w : World) (hS : Signs w) : Calls Tryd.prog 3 #[.string s1] w fun e w' => e = .returned (.bool true) ∧ Below w.heap.size w w' := by
  rw [str_of s1]
  generalize s1.data.toList = l
  obtain ⟨ts, r, ht⟩ := toks_total l (gapTo false l 0)
  rcases Nat.lt_or_ge 20000 l.length with h | h
  · exact tokens_none l 10 0 w (Lib.hid hS) (Lib.hid fun W hW => lex_too l h W hW) (Lib.hid fun W => (R l ts r ht W).mono fun e w' h2 => h2.1 h)
  · cases r with
    | some f => exact tokens_none l 1 f w (Lib.hid hS) (Lib.hid fun W hW => lex_bad l ts f ht h W hW) (Lib.hid fun W => (R l ts _ ht W).mono fun e w' h2 => h2.2 h)
    | none =>
      have c1 := toks_count ht
      have g1 := gapTo_le false (Nat.zero_le l.length)
      exact tokens_some l (ts ++ [endT l.length]) (ts.length + 1) (Lib.hid (by simp)) (by omega) w (Lib.hid hS) (Lib.hid fun W hW => (lex_row l ts ht h W hW).mono fun e w' ⟨g, cap, h1, h2, _, h3⟩ => ⟨g, cap, h1, h2, h3⟩) (Lib.hid fun W => (R l ts _ ht W).mono fun e w' h2 => h2.2 h)
end Go.Proofs.YtnkndmmebhajcaaDoor
