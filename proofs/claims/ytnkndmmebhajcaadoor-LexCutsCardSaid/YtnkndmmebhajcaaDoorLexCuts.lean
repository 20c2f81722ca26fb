/- The law LexCuts: where a text has a token's fault, the text ahead of it has tokens. -/
import Derived.Test.YtnkndmmebhajcaaDoorLexAlive
import Derived.Test.YtnkndmmebhajcaaDoorToksMath
namespace Go.Proofs.YtnkndmmebhajcaaDoor
open Go.RowKit

set_option maxHeartbeats 4000000 in
theorem cuts_long (l : List UInt8) (n : Nat) (hs : (str l).size = n) (hl : (3000 : Int) < (n : Int)) (w : World) (hS : Hid (Signs w)) :
    Calls Tryd.prog 7 #[.string (str l)] w fun e w' => e = .returned (.bool true) ∧ Below w.heap.size w w' := by
  have q : decide ((3000 : Int) < (n : Int)) = true := decide_eq_true hl
  go_enter Tryd.func7, Tryd.ntmps7
  go_wp2_with (go_at_call 8; ((with_reducible refine (alive_any _ hS.out).mono ?_); rintro e w1 ⟨rfl, hb⟩; have HB := Lib.hid hb; clear hb))
  go_ret
  exact ⟨rfl, HB.out⟩
set_option maxHeartbeats 4000000 in
theorem cuts_ok (l : List UInt8) (ts : List Tok) (ht : Hid (lexT l ts none)) (n : Nat) (hn : Hid (l.length = n)) (hs : (str l).size = n) (hl : (n : Int) ≤ 3000) (w : World) (hS : Hid (Signs w)) :
    Calls Tryd.prog 7 #[.string (str l)] w fun e w' => e = .returned (.bool true) ∧ Below w.heap.size w w' := by
  have q : decide ((3000 : Int) < (n : Int)) = false := decide_eq_false (by omega)
  have C : Hid (∀ W, Below w.heap.size w W → Calls Tryd.prog 9 #[.string (str l)] W fun e w' => LexOk l ts W e w') := Lib.hid fun W hb => lex_ok l ts ht.out (by have := hn.out; omega) W (hS.out.below hb)
  go_enter Tryd.func7, Tryd.ntmps7
  go_wp2_with (first | (go_at_call 8; ((with_reducible refine (alive_any _ hS.out).mono ?_); rintro e w1 ⟨rfl, hb⟩; have HB := Lib.hid hb; clear hb)) | (go_at_call 9; ((with_reducible refine (C.out _ HB.out).mono ?_); rintro e w2 ⟨g, cap, rfl, hb2, _, _, _⟩; have HB2 := Lib.hid (HB.out.trans (hb2.mono HB.out.size)); clear hb2)))
  go_ret
  exact ⟨rfl, HB2.out.alloc HB2.out.size _⟩
set_option maxHeartbeats 4000000 in
theorem cuts_bad (l : List UInt8) (ts : List Tok) (f : Nat) (ht : Hid (lexT l ts (some f))) (us : List Tok) (hu : Hid (lexT (l.take f) us none)) (n : Nat) (hn : Hid (l.length = n)) (hs : (str l).size = n) (hl : (n : Int) ≤ 3000) (hf : (f : Int) < (n : Int))
    (T : ByteArray) (hT : (str l).extract 0 f = T) (hTE : Hid (T = str (l.take f))) (w : World) (hS : Hid (Signs w)) :
    Calls Tryd.prog 7 #[.string (str l)] w fun e w' => e = .returned (.bool true) ∧ Below w.heap.size w w' := by
  have q : decide ((3000 : Int) < (n : Int)) = false := decide_eq_false (by omega)
  have q2 : decide ((f : Int) < (n : Int)) = true := decide_eq_true hf
  have f0 : (0 : Int) ≤ (f : Int) := by omega
  have f1 : (f : Int) ≤ (n : Int) := by omega
  have C : Hid (∀ W, Below w.heap.size w W → Calls Tryd.prog 9 #[.string (str l)] W fun e w' => LexBad f W e w') := Lib.hid fun W hb => lex_bad l ts f ht.out (by have := hn.out; omega) W (hS.out.below hb)
  have C2 : Hid (∀ W, Below w.heap.size w W → Calls Tryd.prog 9 #[.string T] W fun e w' => LexOk (l.take f) us W e w') := Lib.hid fun W hb => by rw [hTE.out]; exact lex_ok (l.take f) us hu.out (by rw [List.length_take]; have := hn.out; omega) W (hS.out.below hb)
  obtain ⟨m, hm⟩ : ∃ m, m = us.length + 1 := ⟨_, rfl⟩
  have C3 : Hid (∀ W, Below w.heap.size w W → Calls Tryd.prog 9 #[.string T] W fun e w' => ∃ g cap, e = .returned (.tuple #[.slice (some ⟨g, 0, none⟩) m cap, .agg #[.int .i64 0, .int .i64 0]]) ∧ Below W.heap.size W w') :=
    Lib.hid fun W hb => (C2.out W hb).mono fun e w' ⟨g, cap, h1, h2, _⟩ => ⟨g, cap, by rw [hm]; exact h1, h2⟩
  have m0 : (0 : Int) < (m : Int) := by omega
  have q3 : decide ((0 : Int) < (m : Int)) = true := decide_eq_true m0
  have q4 : decide (0 < m) = true := decide_eq_true (by omega)
  clear hm C2
  go_enter Tryd.func7, Tryd.ntmps7
  go_wp2_with (first | (go_at_call 8; ((with_reducible refine (alive_any _ hS.out).mono ?_); rintro e w1 ⟨rfl, hb⟩; have HB := Lib.hid hb; clear hb)) | (go_at_call 9; ((with_reducible refine (C.out _ HB.out).mono ?_); rintro e w2 ⟨rfl, hb2⟩; have HB2 := Lib.hid (HB.out.trans (hb2.mono HB.out.size)); clear hb2)) | (go_at_call 9; ((with_reducible refine (C3.out _ (by exact HB2.out.alloc HB2.out.size _)).mono ?_); rintro e w3 ⟨g, cap, rfl, hb3⟩; have HB3 := Lib.hid hb3; have y1 : w3.cell? ⟨w2.heap.size, 1, none⟩ = some (.int .i64 (f : Int)) := (hb3.cell (p := ⟨w2.heap.size, 1, none⟩) (by simp)).trans (by rw [World.cell?_alloc_new]; rfl); have y2 : (w3.alloc (.cells #[.int .i64 0, .int .i64 0] 26)).cell? ⟨w2.heap.size, 1, none⟩ = some (.int .i64 (f : Int)) := (World.cell?_alloc_old _ _ _ (by have := hb3.size; simp at this ⊢; omega)).trans y1; clear hb3)))
  go_ret
  have hbw := HB2.out.alloc HB2.out.size (.cells #[.int .i64 1, .int .i64 (f : Int)] 26)
  have hbw3 := hbw.trans (HB3.out.mono hbw.size)
  exact ⟨rfl, hbw3.alloc hbw3.size _⟩
theorem cuts_holds (s : ByteArray) (w : World) (hS : Signs w) : Calls Tryd.prog 7 #[.string s] w fun e w' => e = .returned (.bool true) ∧ Below w.heap.size w w' := by
  rw [str_of s]
  generalize s.data.toList = l
  rcases Nat.lt_or_ge 3000 l.length with h | h
  · exact cuts_long l _ (str_size l) (by omega) w (Lib.hid hS)
  · obtain ⟨ts, r, ht⟩ := toks_total l (gapTo false l 0)
    cases r with
    | none => exact cuts_ok l ts (Lib.hid ht) _ (Lib.hid rfl) (str_size l) (by omega) w (Lib.hid hS)
    | some f =>
      obtain ⟨us, hu⟩ := lex_cut ht
      exact cuts_bad l ts f (Lib.hid ht) us (Lib.hid hu) _ (Lib.hid rfl) (str_size l) (by omega) (by have := (toks_place ht).2; omega) _ (str_extract l f) (Lib.hid rfl) w (Lib.hid hS)
end Go.Proofs.YtnkndmmebhajcaaDoor
