/- The law LexTwo: two texts that have tokens have, with a byte 10 between, the tokens of both. -/
import Derived.Test.YtnkndmmebhajcaaDoorLexAlive
import Derived.Test.YtnkndmmebhajcaaDoorToksMath
import Derived.Deep.QuietTactic
import Derived.BigQuiet
namespace Go.Proofs.YtnkndmmebhajcaaDoor
open Go.RowKit

/-- some answer of Lex's -/
def LexAny (w : World) (e : Ending) (w' : World) : Prop := ∃ (v : Value) (c f : Int), e = .returned (.tuple #[v, .agg #[.int .i64 c, .int .i64 f]]) ∧ Below w.heap.size w w'
theorem lex_some (l : List UInt8) (w : World) (hS : Signs w) : Calls Tryd.prog 9 #[.string (str l)] w fun e w' => LexAny w e w' := by
  obtain ⟨ts, r, ht⟩ := toks_total l (gapTo false l 0)
  exact (lex_any l ts r ht w hS).mono fun e w' ⟨v, c, f', he, hb, _⟩ => ⟨v, c, f', he, hb⟩
/-- a token's cells -/
def CellsAt (w : World) (g i : Nat) (t : Tok) : Prop := w.cell? ⟨g, i * 4, none⟩ = some (.int .i64 (t.kind : Int)) ∧ w.cell? ⟨g, i * 4 + 1, none⟩ = some (.string (str t.text)) ∧ w.cell? ⟨g, i * 4 + 2, none⟩ = some (.int .i64 t.v) ∧ w.cell? ⟨g, i * 4 + 3, none⟩ = some (.int .i64 (t.at_ : Int))
theorem tokCells_cons (t : Tok) (ts : List Tok) : tokCells (t :: ts) = [.int .i64 (t.kind : Int), .string (str t.text), .int .i64 t.v, .int .i64 (t.at_ : Int)] ++ tokCells ts := rfl
theorem tokCells_at {ts : List Tok} {i : Nat} {t : Tok} (h : ts[i]? = some t) : (tokCells ts)[i * 4]? = some (.int .i64 (t.kind : Int)) ∧ (tokCells ts)[i * 4 + 1]? = some (.string (str t.text)) ∧ (tokCells ts)[i * 4 + 2]? = some (.int .i64 t.v) ∧ (tokCells ts)[i * 4 + 3]? = some (.int .i64 (t.at_ : Int)) := by
  induction ts generalizing i with
  | nil => simp at h
  | cons u ts ih =>
    rw [tokCells_cons]
    cases i with
    | zero => simp at h; subst h; exact ⟨rfl, rfl, rfl, rfl⟩
    | succ i =>
      have h2 := ih (i := i) (by simpa using h)
      have e : ∀ k, ([Value.int .i64 (u.kind : Int), .string (str u.text), .int .i64 u.v, .int .i64 (u.at_ : Int)] ++ tokCells ts)[(i + 1) * 4 + k]? = (tokCells ts)[i * 4 + k]? := fun k => by
        rw [List.getElem?_append_right (by simp; omega)]
        congr 1
        simp
        omega
      exact ⟨(e 0).trans h2.1, (e 1).trans h2.2.1, (e 2).trans h2.2.2.1, (e 3).trans h2.2.2.2⟩
/-- a row of tokens -/
def RowAt (w : World) (g : Nat) (ts : List Tok) : Prop := g < w.heap.size ∧ ∀ i t, ts[i]? = some t → CellsAt w g i t
theorem RowAt.below {w w' : World} {g : Nat} {ts : List Tok} (h : RowAt w g ts) (hb : Below w.heap.size w w') : RowAt w' g ts :=
  ⟨Nat.lt_of_lt_of_le h.1 hb.size, fun i t ht => by
    obtain ⟨h1, h2, h3, h4⟩ := h.2 i t ht
    exact ⟨(hb.cell (p := ⟨g, i * 4, none⟩) h.1).trans h1, (hb.cell (p := ⟨g, i * 4 + 1, none⟩) h.1).trans h2, (hb.cell (p := ⟨g, i * 4 + 2, none⟩) h.1).trans h3, (hb.cell (p := ⟨g, i * 4 + 3, none⟩) h.1).trans h4⟩⟩
/-- tokens come back, as a row -/
def LexRow (l : List UInt8) (ts : List Tok) (w : World) (e : Ending) (w' : World) : Prop :=
  ∃ g cap, e = .returned (.tuple #[.slice (some ⟨g, 0, none⟩) (ts.length + 1) cap, .agg #[.int .i64 0, .int .i64 0]]) ∧ Below w.heap.size w w' ∧ w.heap.size ≤ g ∧ RowAt w' g (ts ++ [endT l.length])
theorem lex_row (l : List UInt8) (ts : List Tok) (ht : lexT l ts none) (hl : l.length ≤ 20000) (w : World) (hS : Signs w) : Calls Tryd.prog 9 #[.string (str l)] w fun e w' => LexRow l ts w e w' :=
  (lex_ok l ts ht hl w hS).mono fun e w' ⟨g, cap, he, hb, hg1, hg2, hc⟩ => ⟨g, cap, he, hb, hg1, hg2, fun i t hi => by
    obtain ⟨h1, h2, h3, h4⟩ := tokCells_at hi
    exact ⟨hc _ _ h1, hc _ _ h2, hc _ _ h3, hc _ _ h4⟩⟩
set_option maxHeartbeats 4000000 in
theorem two_long1 (l m : List UInt8) (n : Nat) (hs : (str l).size = n) (hl : (3000 : Int) < (n : Int)) (w : World) (hS : Hid (Signs w)) :
    Calls Tryd.prog 6 #[.string (str l), .string (str m)] w fun e w' => e = .returned (.bool true) ∧ Below w.heap.size w w' := by
  have q : decide ((3000 : Int) < (n : Int)) = true := decide_eq_true hl
  go_enter Tryd.func6, Tryd.ntmps6
  go_wp2_with (go_at_call 8; ((with_reducible refine (alive_any _ hS.out).mono ?_); rintro e w1 ⟨rfl, hb⟩; have HB := Lib.hid hb; clear hb))
  go_ret
  exact ⟨rfl, HB.out⟩
set_option maxHeartbeats 4000000 in
theorem two_long2 (l m : List UInt8) (n k : Nat) (hs : (str l).size = n) (hsm : (str m).size = k) (hl : (n : Int) ≤ 3000) (hm : (3000 : Int) < (k : Int)) (w : World) (hS : Hid (Signs w)) :
    Calls Tryd.prog 6 #[.string (str l), .string (str m)] w fun e w' => e = .returned (.bool true) ∧ Below w.heap.size w w' := by
  have q : decide ((3000 : Int) < (n : Int)) = false := decide_eq_false (by omega)
  have q2 : decide ((3000 : Int) < (k : Int)) = true := decide_eq_true hm
  go_enter Tryd.func6, Tryd.ntmps6
  go_wp2_with (go_at_call 8; ((with_reducible refine (alive_any _ hS.out).mono ?_); rintro e w1 ⟨rfl, hb⟩; have HB := Lib.hid hb; clear hb))
  go_ret
  exact ⟨rfl, HB.out⟩
set_option maxHeartbeats 4000000 in
theorem two_bad1 (l m : List UInt8) (n k : Nat) (hn : Hid (l.length = n)) (hs : (str l).size = n) (hsm : (str m).size = k) (hl : (n : Int) ≤ 3000) (hm : (k : Int) ≤ 3000) (ts : List Tok) (f : Nat) (ht : Hid (lexT l ts (some f))) (w : World) (hS : Hid (Signs w)) :
    Calls Tryd.prog 6 #[.string (str l), .string (str m)] w fun e w' => e = .returned (.bool true) ∧ Below w.heap.size w w' := by
  have q : decide ((3000 : Int) < (n : Int)) = false := decide_eq_false (by omega)
  have q2 : decide ((3000 : Int) < (k : Int)) = false := decide_eq_false (by omega)
  have C : Hid (∀ W, Below w.heap.size w W → Calls Tryd.prog 9 #[.string (str l)] W fun e w' => LexBad f W e w') := Lib.hid fun W hb => lex_bad l ts f ht.out (by have := hn.out; omega) W (hS.out.below hb)
  have D : Hid (∀ W, Below w.heap.size w W → Calls Tryd.prog 9 #[.string (str m)] W fun e w' => LexAny W e w') := Lib.hid fun W hb => lex_some m W (hS.out.below hb)
  have tok : True := trivial
  go_enter Tryd.func6, Tryd.ntmps6
  go_wp2_with (first | (go_at_call 8; ((with_reducible refine (alive_any _ hS.out).mono ?_); rintro e w1 ⟨rfl, hb⟩; have HB := Lib.hid hb; clear hb)) | (go_at_call 9; have _k := tok; clear tok _k; ((with_reducible refine (C.out _ HB.out).mono ?_); rintro e w2 ⟨rfl, hb2⟩; have HB2 := Lib.hid (HB.out.trans (hb2.mono HB.out.size)); clear hb2)) | (go_at_call 9; ((with_reducible refine (D.out _ (by exact HB2.out.alloc HB2.out.size _)).mono ?_); rintro e w3 ⟨v, c3, f3, rfl, hb3⟩; have HB3 := Lib.hid hb3; have y0 : w3.cell? ⟨w2.heap.size, 0, none⟩ = some (.int .i64 1) := (hb3.cell (p := ⟨w2.heap.size, 0, none⟩) (by simp)).trans (by rw [World.cell?_alloc_new]; rfl); have y1 : (w3.alloc (.cells #[.int .i64 c3, .int .i64 f3] 26)).cell? ⟨w2.heap.size, 0, none⟩ = some (.int .i64 1) := (World.cell?_alloc_old _ _ _ (by have := hb3.size; simp at this ⊢; omega)).trans y0; clear hb3)))
  go_ret
  have hbw := HB2.out.alloc HB2.out.size (.cells #[.int .i64 1, .int .i64 (f : Int)] 26)
  have hbw3 := hbw.trans (HB3.out.mono hbw.size)
  exact ⟨rfl, hbw3.alloc hbw3.size _⟩
set_option maxHeartbeats 4000000 in
theorem two_bad2 (l m : List UInt8) (n k : Nat) (hn : Hid (l.length = n)) (hk : Hid (m.length = k)) (hs : (str l).size = n) (hsm : (str m).size = k) (hl : (n : Int) ≤ 3000) (hm : (k : Int) ≤ 3000) (ts us : List Tok) (f : Nat) (ht : Hid (lexT l ts none)) (hu : Hid (lexT m us (some f))) (w : World) (hS : Hid (Signs w)) :
    Calls Tryd.prog 6 #[.string (str l), .string (str m)] w fun e w' => e = .returned (.bool true) ∧ Below w.heap.size w w' := by
  have q : decide ((3000 : Int) < (n : Int)) = false := decide_eq_false (by omega)
  have q2 : decide ((3000 : Int) < (k : Int)) = false := decide_eq_false (by omega)
  have C : Hid (∀ W, Below w.heap.size w W → Calls Tryd.prog 9 #[.string (str l)] W fun e w' => LexRow l ts W e w') := Lib.hid fun W hb => lex_row l ts ht.out (by have := hn.out; omega) W (hS.out.below hb)
  have D : Hid (∀ W, Below w.heap.size w W → Calls Tryd.prog 9 #[.string (str m)] W fun e w' => LexBad f W e w') := Lib.hid fun W hb => lex_bad m us f hu.out (by have := hk.out; omega) W (hS.out.below hb)
  have tok : True := trivial
  go_enter Tryd.func6, Tryd.ntmps6
  go_wp2_with (first | (go_at_call 8; ((with_reducible refine (alive_any _ hS.out).mono ?_); rintro e w1 ⟨rfl, hb⟩; have HB := Lib.hid hb; clear hb)) | (go_at_call 9; have _k := tok; clear tok _k; ((with_reducible refine (C.out _ HB.out).mono ?_); rintro e w2 ⟨g, cap, rfl, hb2, _, _⟩; have HB2 := Lib.hid (HB.out.trans (hb2.mono HB.out.size)); clear hb2)) | (go_at_call 9; ((with_reducible refine (D.out _ (by exact HB2.out.alloc HB2.out.size _)).mono ?_); rintro e w3 ⟨rfl, hb3⟩; have HB3 := Lib.hid hb3; have y0 : w3.cell? ⟨w2.heap.size, 0, none⟩ = some (.int .i64 0) := (hb3.cell (p := ⟨w2.heap.size, 0, none⟩) (by simp)).trans (by rw [World.cell?_alloc_new]; rfl); have y1 : (w3.alloc (.cells #[.int .i64 1, .int .i64 (f : Int)] 26)).cell? ⟨w2.heap.size, 0, none⟩ = some (.int .i64 0) := (World.cell?_alloc_old _ _ _ (by have := hb3.size; simp at this ⊢; omega)).trans y0; clear hb3)))
  go_ret
  have hbw := HB2.out.alloc HB2.out.size (.cells #[.int .i64 0, .int .i64 0] 26)
  have hbw3 := hbw.trans (HB3.out.mono hbw.size)
  exact ⟨rfl, hbw3.alloc hbw3.size _⟩
theorem toks_at {l : List UInt8} {a : Nat} {ts : List Tok} {r : Option Nat} (h : Toks l a ts r) : ∀ t ∈ ts, t.at_ ≤ l.length := by
  induction h with
  | fin => intro t ht; simp at ht
  | bad => intro t ht; simp at ht
  | @tok a ts r h h1 h2 ih =>
    intro t ht
    rcases List.mem_cons.1 ht with rfl | ht
    · have : (tokAt l a).at_ = a := by unfold tokAt; cases oneL (l.drop a) <;> rfl
      omega
    · exact ih t ht
/-- the row's token at i, at one of two texts -/
theorem two_at {ts us : List Tok} {nl ml : Nat} {i : Nat} : ((ts ++ us.map (shiftT (nl + 1))) ++ [endT (nl + 1 + ml)])[i]? = if i < ts.length then ts[i]? else ((us ++ [endT ml])[i - ts.length]?).map (shiftT (nl + 1)) := by
  by_cases h : i < ts.length
  · rw [if_pos h, List.append_assoc, List.getElem?_append_left h]
  · rw [if_neg h, List.append_assoc, List.getElem?_append_right (by omega), ← List.getElem?_map, List.map_append]
    congr 2
    show [endT (nl + 1 + ml)] = [shiftT (nl + 1) (endT ml)]
    congr 1
    unfold endT shiftT
    simp
    omega
set_option maxHeartbeats 16000000 in
set_option maxRecDepth 100000 in
theorem two_ok (l m : List UInt8) (n k : Nat) (hn : Hid (l.length = n)) (hk : Hid (m.length = k)) (hs : (str l).size = n) (hsm : (str m).size = k) (hl : (n : Int) ≤ 3000) (hm : (k : Int) ≤ 3000) (ts us : List Tok) (ht : Hid (lexT l ts none)) (hu : Hid (lexT m us none))
    (p q r : Nat) (hp : Hid (ts.length + 1 = p)) (hq : Hid (us.length + 1 = q)) (hr : Hid ((ts ++ us.map (shiftT (l.length + 1))).length + 1 = r)) (pl : (p : Int) ≤ 40000) (ql : (q : Int) ≤ 40000) (p0 : (1 : Int) ≤ (p : Int)) (q0 : (1 : Int) ≤ (q : Int)) (er : (p : Int) + (q : Int) - 1 = (r : Int))
    (T T2 : ByteArray) (hT : str l ++ ⟨#[10]⟩ = T) (hT2 : T ++ str m = T2) (hTE : Hid (T2 = str (l ++ 10 :: m))) (ne : Nat) (hTs : T.size = ne) (nel : (ne : Int) ≤ 3001) (w : World) (hS : Hid (Signs w)) :
    Calls Tryd.prog 6 #[.string (str l), .string (str m)] w fun e w' => e = .returned (.bool true) ∧ Below w.heap.size w w' := by
  have q1 : decide ((3000 : Int) < (n : Int)) = false := decide_eq_false (by omega)
  have q2 : decide ((3000 : Int) < (k : Int)) = false := decide_eq_false (by omega)
  have C1 : Hid (∀ W, Below w.heap.size w W → Calls Tryd.prog 9 #[.string (str l)] W fun e w' => ∃ g cap, e = .returned (.tuple #[.slice (some ⟨g, 0, none⟩) p cap, .agg #[.int .i64 0, .int .i64 0]]) ∧ Below W.heap.size W w' ∧ RowAt w' g (ts ++ [endT l.length])) :=
    Lib.hid fun W hb => (lex_row l ts ht.out (by have := hn.out; omega) W (hS.out.below hb)).mono fun e w' ⟨g, cap, h1, h2, _, h3⟩ => ⟨g, cap, by rw [← hp.out]; exact h1, h2, h3⟩
  have C2 : Hid (∀ W, Below w.heap.size w W → Calls Tryd.prog 9 #[.string (str m)] W fun e w' => ∃ g cap, e = .returned (.tuple #[.slice (some ⟨g, 0, none⟩) q cap, .agg #[.int .i64 0, .int .i64 0]]) ∧ Below W.heap.size W w' ∧ RowAt w' g (us ++ [endT m.length])) :=
    Lib.hid fun W hb => (lex_row m us hu.out (by have := hk.out; omega) W (hS.out.below hb)).mono fun e w' ⟨g, cap, h1, h2, _, h3⟩ => ⟨g, cap, by rw [← hq.out]; exact h1, h2, h3⟩
  have C3 : Hid (∀ W, Below w.heap.size w W → Calls Tryd.prog 9 #[.string T2] W fun e w' => ∃ g cap, e = .returned (.tuple #[.slice (some ⟨g, 0, none⟩) r cap, .agg #[.int .i64 0, .int .i64 0]]) ∧ Below W.heap.size W w' ∧ RowAt w' g ((ts ++ us.map (shiftT (l.length + 1))) ++ [endT (l.length + 1 + m.length)])) :=
    Lib.hid fun W hb => by
      rw [hTE.out]
      exact (lex_row (l ++ 10 :: m) _ (lex_two ht.out hu.out) (by have := hn.out; have := hk.out; simp; omega) W (hS.out.below hb)).mono fun e w' ⟨g, cap, h1, h2, _, h3⟩ => ⟨g, cap, by rw [← hr.out]; exact h1, h2, by rw [show l.length + 1 + m.length = (l ++ 10 :: m).length by simp; omega]; exact h3⟩
  have hp1 : decide ((p : Int) < 1) = false := decide_eq_false (by omega)
  have hrr : ((r : Int) != (r : Int)) = false := by simp
  have tok : True := trivial
  have tok2 : True := trivial
  go_enter Tryd.func6, Tryd.ntmps6
  go_wp2_with (first | (go_at_call 8; ((with_reducible refine (alive_any _ hS.out).mono ?_); rintro e w1 ⟨rfl, hb⟩; have HB := Lib.hid hb; clear hb)) | (go_at_call 9; have _k := tok; clear tok _k; ((with_reducible refine (C1.out _ HB.out).mono ?_); rintro e w2 ⟨g1, cap1, rfl, hb2, hr1⟩; have HB2 := Lib.hid (HB.out.trans (hb2.mono HB.out.size)); have R1 := Lib.hid hr1; clear hb2 hr1)) | (go_at_call 9; have _k := tok2; clear tok2 _k; ((with_reducible refine (C2.out _ (by exact HB2.out.alloc HB2.out.size _)).mono ?_); rintro e w3 ⟨g2, cap2, rfl, hb3, hr2⟩; have HB3 := Lib.hid hb3; have HB3' := Lib.hid ((HB2.out.alloc HB2.out.size (.cells #[.int .i64 0, .int .i64 0] 26)).trans (hb3.mono (HB2.out.alloc HB2.out.size (.cells #[.int .i64 0, .int .i64 0] 26)).size)); have R2 := Lib.hid hr2; have y0 : w3.cell? ⟨w2.heap.size, 0, none⟩ = some (.int .i64 0) := (hb3.cell (p := ⟨w2.heap.size, 0, none⟩) (by simp)).trans (by rw [World.cell?_alloc_new]; rfl); have y1 : (w3.alloc (.cells #[.int .i64 0, .int .i64 0] 26)).cell? ⟨w2.heap.size, 0, none⟩ = some (.int .i64 0) := (World.cell?_alloc_old _ _ _ (by have := hb3.size; simp at this ⊢; omega)).trans y0; clear hb3 hr2)) | (go_at_call 9; ((with_reducible refine (C3.out _ (by exact HB3'.out.alloc HB3'.out.size _)).mono ?_); rintro e w4 ⟨g3, cap3, rfl, hb4, hr3⟩; have HB4 := Lib.hid hb4; have R3 := Lib.hid hr3; clear hb4 hr3)))
  have hbw4 := Lib.hid ((HB3'.out.alloc HB3'.out.size (.cells #[.int .i64 0, .int .i64 0] 26)).trans (HB4.out.mono (HB3'.out.alloc HB3'.out.size (.cells #[.int .i64 0, .int .i64 0] 26)).size))
  go_loopw [11] (fun i wr => ∃ j : Nat, j ≤ r ∧ i = .int .i64 j ∧ Hid (RowAt wr g1 (ts ++ [endT l.length]) ∧ RowAt wr g2 (us ++ [endT m.length]) ∧ RowAt wr g3 ((ts ++ us.map (shiftT (l.length + 1))) ++ [endT (l.length + 1 + m.length)]) ∧ Below w.heap.size w wr)) (fun i _ => r - litLen i)
  case atStart =>
    have z3 := (Below.refl w3.heap.size w3).alloc (Nat.le_refl _) (.cells #[.int .i64 0, .int .i64 0] 26)
    have z4 := (Below.refl w4.heap.size w4).alloc (Nat.le_refl _) (.cells #[.int .i64 0, .int .i64 0] 26)
    have z2 := (Below.refl w2.heap.size w2).alloc (Nat.le_refl _) (.cells #[.int .i64 0, .int .i64 0] 26)
    exact ⟨0, by omega, rfl, Lib.hid ⟨((((R1.out.below z2).below HB3.out).below z3).below HB4.out).below z4, ((R2.out.below z3).below HB4.out).below z4, R3.out.below z4, hbw4.out.alloc hbw4.out.size _⟩⟩
  case round =>
    obtain ⟨j, hj, rfl, hrows⟩ := hrel
    rcases Nat.lt_or_ge j r with hlt | hge
    · have q3 : decide ((j : Int) < (r : Int)) = true := decide_eq_true (by omega)
      have jr : (j : Int) < (r : Int) := by omega
      by_cases hjp : (j : Int) < (p : Int) - 1
      · have q4 : decide ((j : Int) < (p : Int) - 1) = true := decide_eq_true hjp
        have jp : (j : Int) < (p : Int) := by omega
        obtain ⟨t, htj⟩ : ∃ t, ts[j]? = some t := ⟨ts[j]'(by have := hp.out; omega), List.getElem?_eq_getElem _⟩
        have a1 := hrows.out.1.2 j t (by rw [List.getElem?_append_left (by have := hp.out; omega)]; exact htj)
        have a3 := hrows.out.2.2.1.2 j t (by rw [two_at, if_pos (by have := hp.out; omega)]; exact htj)
        obtain ⟨kk, tx, vv, aa⟩ := t
        obtain ⟨x0, x1, x2, x3⟩ := a1
        obtain ⟨z0, z1, z2, z3⟩ := a3
        clear htj
        go_wp2_with fail
        go_quiet (fail)
        go_wp2_with fail
        have hdr : Below wr.heap.size wr (wr.drewN nq) := below_dr (Below.refl _ wr) nq
        exact ⟨⟨j + 1, by omega, rfl, Lib.hid ⟨hrows.out.1.below hdr, hrows.out.2.1.below hdr, hrows.out.2.2.1.below hdr, hrows.out.2.2.2.trans (hdr.mono hrows.out.2.2.2.size)⟩⟩, by simp [litLen]; omega⟩
      · have q4 : decide ((j : Int) < (p : Int) - 1) = false := decide_eq_false hjp
        obtain ⟨y, hy⟩ : ∃ y, y = j - ts.length := ⟨_, rfl⟩
        have hj2 : ts.length ≤ j := by have := hp.out; omega
        have e1 : (j : Int) - (p : Int) + 1 = (y : Int) := by have := hp.out; omega
        have yq : (y : Int) < (q : Int) := by have := hp.out; omega
        have y0 : (0 : Int) ≤ (y : Int) := by omega
        obtain ⟨t, htj⟩ : ∃ t, (us ++ [endT m.length])[y]? = some t := ⟨(us ++ [endT m.length])[y]'(by have := hq.out; simp; omega), List.getElem?_eq_getElem _⟩
        have hta : (t.at_ : Int) ≤ 3000 := by
          have hmem := List.mem_of_getElem? htj
          have := hk.out
          rcases List.mem_append.1 hmem with h | h
          · have := toks_at hu.out t h; omega
          · rw [List.mem_singleton] at h; rw [h]; show ((m.length : Nat) : Int) ≤ 3000; omega
        have a2 := hrows.out.2.1.2 y t htj
        have a3 := hrows.out.2.2.1.2 j (shiftT (l.length + 1) t) (by rw [two_at, if_neg (by omega), ← hy, htj]; rfl)
        obtain ⟨kk, tx, vv, aa⟩ := t
        have ta : (aa : Int) ≤ 3000 := hta
        obtain ⟨x0, x1, x2, x3⟩ := a2
        have eat : ((aa + (l.length + 1) : Nat) : Int) = (aa : Int) + (n : Int) + 1 := by have := hn.out; omega
        obtain ⟨z0, z1, z2, z3⟩ := (show CellsAt wr g3 j ⟨kk, tx, vv, aa + (l.length + 1)⟩ from a3)
        simp only [eat] at z3
        have hal : Below wr.heap.size wr (wr.alloc (.cells #[.int .i64 (kk : Int), .string (str tx), .int .i64 vv, .int .i64 ((aa : Int) + (n : Int) + 1)] 36)) := (Below.refl _ _).alloc (Nat.le_refl _) _
        have gl := hrows.out.2.2.1.1
        have s0 := (hal.cell (p := ⟨g3, j * 4, none⟩) gl).trans z0
        have s1 := (hal.cell (p := ⟨g3, j * 4 + 1, none⟩) gl).trans z1
        have s2 := (hal.cell (p := ⟨g3, j * 4 + 2, none⟩) gl).trans z2
        have s3 := (hal.cell (p := ⟨g3, j * 4 + 3, none⟩) gl).trans z3
        have HAL := Lib.hid hal
        have HY := Lib.hid hy
        clear htj hta eat hy hal gl a3
        go_wp2_with fail
        go_quiet (fail)
        go_wp2_with fail
        have hdr := below_dr HAL.out nq
        exact ⟨⟨j + 1, by omega, rfl, Lib.hid ⟨hrows.out.1.below hdr, hrows.out.2.1.below hdr, hrows.out.2.2.1.below hdr, hrows.out.2.2.2.trans (hdr.mono hrows.out.2.2.2.size)⟩⟩, by simp [litLen]; omega⟩
    · have q3 : decide ((j : Int) < (r : Int)) = false := decide_eq_false (by omega)
      go_wp2_with fail
      go_ret
      exact ⟨rfl, hrows.out.2.2.2⟩
theorem two_holds (s1 s2 : ByteArray) (w : World) (hS : Signs w) : Calls Tryd.prog 6 #[.string s1, .string s2] w fun e w' => e = .returned (.bool true) ∧ Below w.heap.size w w' := by
  rw [str_of s1, str_of s2]
  generalize s1.data.toList = l
  generalize s2.data.toList = m
  rcases Nat.lt_or_ge 3000 l.length with h | h
  · exact two_long1 l m _ (str_size l) (by omega) w (Lib.hid hS)
  · rcases Nat.lt_or_ge 3000 m.length with h2 | h2
    · exact two_long2 l m _ _ (str_size l) (str_size m) (by omega) (by omega) w (Lib.hid hS)
    · obtain ⟨ts, r, ht⟩ := toks_total l (gapTo false l 0)
      obtain ⟨us, r2, hu⟩ := toks_total m (gapTo false m 0)
      cases r with
      | some f => exact two_bad1 l m _ _ (Lib.hid rfl) (str_size l) (str_size m) (by omega) (by omega) ts f (Lib.hid ht) w (Lib.hid hS)
      | none =>
        cases r2 with
        | some f => exact two_bad2 l m _ _ (Lib.hid rfl) (Lib.hid rfl) (str_size l) (str_size m) (by omega) (by omega) ts us f (Lib.hid ht) (Lib.hid hu) w (Lib.hid hS)
        | none =>
          have c1 := toks_count ht
          have c2 := toks_count hu
          have g1 := gapTo_le false (Nat.zero_le l.length)
          have g2 := gapTo_le false (Nat.zero_le m.length)
          exact two_ok l m _ _ (Lib.hid rfl) (Lib.hid rfl) (str_size l) (str_size m) (by omega) (by omega) ts us (Lib.hid ht) (Lib.hid hu) (ts.length + 1) (us.length + 1) (ts.length + us.length + 1) (Lib.hid rfl) (Lib.hid rfl) (Lib.hid (by simp)) (by omega) (by omega) (by omega) (by omega) (by omega)
            (str (l ++ [10])) (str (l ++ 10 :: m)) (str_cat l [10]) (by rw [str_cat]; simp) (Lib.hid rfl) (l.length + 1) (by rw [str_size]; simp) (by omega) w (Lib.hid hS)
end Go.Proofs.YtnkndmmebhajcaaDoor
