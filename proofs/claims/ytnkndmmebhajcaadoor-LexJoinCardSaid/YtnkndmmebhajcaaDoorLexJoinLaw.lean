/- The law LexJoin: a text's tokens, joined, are those tokens again. -/
import Derived.Test.YtnkndmmebhajcaaDoorLexJoin
namespace Go.Proofs.YtnkndmmebhajcaaDoor
open Go.RowKit

def placeN (ts : List Tok) (j : Nat) : Nat := ((ts.take j).map fun t => t.text.length + 1).sum
theorem placeN_succ {ts : List Tok} {j : Nat} {t : Tok} (h : ts[j]? = some t) : placeN ts (j + 1) = placeN ts j + t.text.length + 1 := by
  unfold placeN
  rw [List.take_add_one, h]
  simp
  omega
theorem placed_at {ts : List Tok} {j : Nat} {t : Tok} (h : ts[j]? = some t) (a : Nat) : (placed a ts)[j]? = some ⟨t.kind, t.text, t.v, a + placeN ts j⟩ := by
  induction ts generalizing j a with
  | nil => simp at h
  | cons u ts ih =>
    cases j with
    | zero => simp at h; subst h; simp [placed, placeN]
    | succ j =>
      have h2 := ih (j := j) (by simpa using h) (a + u.text.length + 1)
      show (placed (a + u.text.length + 1) ts)[j]? = _
      rw [h2]
      congr 2
      unfold placeN
      simp
      omega
theorem placed_len (ts : List Tok) (a : Nat) : (placed a ts).length = ts.length := by
  induction ts generalizing a with
  | nil => rfl
  | cons t ts ih => simp [placed, ih]
theorem placeN_le (ts : List Tok) (j : Nat) : placeN ts j ≤ (ts.map fun t => t.text.length).sum + ts.length := by
  have key : ∀ us : List Tok, (us.map fun t => t.text.length + 1).sum = (us.map fun t => t.text.length).sum + us.length := by
    intro us
    induction us with
    | nil => rfl
    | cons u us ih => simp [ih]; omega
  unfold placeN
  rw [key]
  have h2 : ((ts.take j).map fun t => t.text.length).sum ≤ (ts.map fun t => t.text.length).sum := by
    conv => rhs; rw [← List.take_append_drop j ts]
    rw [List.map_append, List.sum_append]
    omega
  have h3 : (ts.take j).length ≤ ts.length := by rw [List.length_take]; omega
  omega
theorem text_le_sum {ts : List Tok} {t : Tok} (h : t ∈ ts) : t.text.length ≤ (ts.map fun t => t.text.length).sum := by
  induction ts with
  | nil => simp at h
  | cons u ts ih =>
    rcases List.mem_cons.1 h with rfl | h
    · simp
    · have := ih h; simp; omega
set_option maxHeartbeats 4000000 in
theorem joinlaw_long (l : List UInt8) (n : Nat) (hs : (str l).size = n) (hl : (5000 : Int) < (n : Int)) (w : World) (hS : Hid (Signs w)) :
    Calls Tryd.prog 5 #[.string (str l)] w fun e w' => e = .returned (.bool true) ∧ Below w.heap.size w w' := by
  have q : decide ((5000 : Int) < (n : Int)) = true := decide_eq_true hl
  go_enter Tryd.func5, Tryd.ntmps5
  go_wp2_with (go_at_call 8; ((with_reducible refine (alive_any _ hS.out).mono ?_); rintro e w1 ⟨rfl, hb⟩; have HB := Lib.hid hb; clear hb))
  go_ret
  exact ⟨rfl, HB.out⟩
set_option maxHeartbeats 4000000 in
theorem joinlaw_bad (l : List UInt8) (n : Nat) (hn : Hid (l.length = n)) (hs : (str l).size = n) (hl : (n : Int) ≤ 5000) (ts : List Tok) (f : Nat) (ht : Hid (lexT l ts (some f))) (w : World) (hS : Hid (Signs w)) :
    Calls Tryd.prog 5 #[.string (str l)] w fun e w' => e = .returned (.bool true) ∧ Below w.heap.size w w' := by
  have q : decide ((5000 : Int) < (n : Int)) = false := decide_eq_false (by omega)
  have C : Hid (∀ W, Below w.heap.size w W → Calls Tryd.prog 9 #[.string (str l)] W fun e w' => LexBad f W e w') := Lib.hid fun W hb => lex_bad l ts f ht.out (by have := hn.out; omega) W (hS.out.below hb)
  go_enter Tryd.func5, Tryd.ntmps5
  go_wp2_with (first | (go_at_call 8; ((with_reducible refine (alive_any _ hS.out).mono ?_); rintro e w1 ⟨rfl, hb⟩; have HB := Lib.hid hb; clear hb)) | (go_at_call 9; ((with_reducible refine (C.out _ HB.out).mono ?_); rintro e w2 ⟨rfl, hb2⟩; have HB2 := Lib.hid (HB.out.trans (hb2.mono HB.out.size)); clear hb2)))
  go_ret
  exact ⟨rfl, HB2.out.alloc HB2.out.size _⟩
set_option maxHeartbeats 16000000 in
set_option maxRecDepth 100000 in
theorem joinlaw_ok (l : List UInt8) (n : Nat) (hn : Hid (l.length = n)) (hs : (str l).size = n) (hl : (n : Int) ≤ 5000) (ts : List Tok) (ht : Hid (lexT l ts none))
    (c p jl : Nat) (hc : Hid (ts.length = c)) (hp : Hid (ts.length + 1 = p)) (ep : (p : Int) - 1 = (c : Int)) (c0 : (0 : Int) ≤ (c : Int)) (cp : (c : Int) < (p : Int)) (pl : (p : Int) ≤ 40000) (hpc : Hid (p = c + 1)) (_p0 : decide ((0 : Int) < (p : Int)) = true)
    (J : ByteArray) (hJ : Hid (J = str (joinT ts))) (hjs : J.size = jl) (hjl : Hid ((joinT ts).length = jl)) (jll : (jl : Int) ≤ 20000) (hplace : Hid (∀ j, placeN ts j ≤ 20000)) (hlen : Hid (∀ j, (joinT (ts.take j)).length ≤ 100000)) (hq : Hid (∀ t ∈ ts, t.text.length ≤ 10000)) (w : World) (hS : Hid (Signs w)) :
    Calls Tryd.prog 5 #[.string (str l)] w fun e w' => e = .returned (.bool true) ∧ Below w.heap.size w w' := by
  have q1 : decide ((5000 : Int) < (n : Int)) = false := decide_eq_false (by omega)
  have C1 : Hid (∀ W, Below w.heap.size w W → Calls Tryd.prog 9 #[.string (str l)] W fun e w' => ∃ g cap, e = .returned (.tuple #[.slice (some ⟨g, 0, none⟩) p cap, .agg #[.int .i64 0, .int .i64 0]]) ∧ Below W.heap.size W w' ∧ RowAt w' g (ts ++ [endT n])) :=
    Lib.hid fun W hb => (lex_row l ts ht.out (by have := hn.out; omega) W (hS.out.below hb)).mono fun e w' ⟨g, cap, h1, h2, _, h3⟩ => ⟨g, cap, by rw [← hp.out]; exact h1, h2, by rw [← hn.out]; exact h3⟩
  have C2 : Hid (∀ W g cap, RowAt W g (ts ++ [endT n]) → Calls Tryd.prog 15 #[.slice (some ⟨g, 0, none⟩) p cap] W fun e w' => e = .returned (.string J) ∧ Below W.heap.size W w') :=
    Lib.hid fun W g cap hr => by
      rw [hJ.out, ← hp.out]
      exact join_any ts n _ (Lib.hid rfl) (Lib.hid (kind_ne ht.out)) hlen (Lib.hid fun t h => by have := hq.out t h; omega) (by have := hp.out; omega) g cap W (Lib.hid hr)
  have C3 : Hid (∀ W, Below w.heap.size w W → Calls Tryd.prog 9 #[.string J] W fun e w' => ∃ g cap, e = .returned (.tuple #[.slice (some ⟨g, 0, none⟩) p cap, .agg #[.int .i64 0, .int .i64 0]]) ∧ Below W.heap.size W w' ∧ RowAt w' g (placed 0 ts ++ [endT jl])) :=
    Lib.hid fun W hb => by
      rw [hJ.out]
      exact (lex_row (joinT ts) _ (lex_join ts (toks_good ht.out)) (by have := hjl.out; omega) W (hS.out.below hb)).mono fun e w' ⟨g, cap, h1, h2, _, h3⟩ => ⟨g, cap, by rw [← hp.out]; rw [placed_len] at h1; exact h1, h2, by rw [← hjl.out]; exact h3⟩
  have hrr : ((p : Int) != (p : Int)) = false := by simp
  have tok : True := trivial
  go_enter Tryd.func5, Tryd.ntmps5
  go_wp2_with (first | (go_at_call 8; ((with_reducible refine (alive_any _ hS.out).mono ?_); rintro e w1 ⟨rfl, hb⟩; have HB := Lib.hid hb; clear hb)) | (go_at_call 15; ((with_reducible refine (C2.out _ _ _ (R1.out.below ((Below.refl _ _).alloc (Nat.le_refl _) _))).mono ?_); rintro e w3 ⟨rfl, hb3⟩; have HB3 := Lib.hid (HB2.out.alloc HB2.out.size (.cells #[.int .i64 0, .int .i64 0] 26)); have HB3' := Lib.hid (HB3.out.trans (hb3.mono HB3.out.size)); have R1' := Lib.hid ((R1.out.below ((Below.refl _ _).alloc (Nat.le_refl _) (.cells #[.int .i64 0, .int .i64 0] 26))).below hb3); clear hb3)) | (go_at_call 9; have _k := tok; clear tok _k; ((with_reducible refine (C1.out _ HB.out).mono ?_); rintro e w2 ⟨g1, cap1, rfl, hb2, hr1⟩; have HB2 := Lib.hid (HB.out.trans (hb2.mono HB.out.size)); have R1 := Lib.hid hr1; clear hb2 hr1)) | (go_at_call 9; ((with_reducible refine (C3.out _ HB3'.out).mono ?_); rintro e w4 ⟨g3, cap3, rfl, hb4, hr3⟩; have HB4 := Lib.hid (HB3'.out.trans (hb4.mono HB3'.out.size)); have R3 := Lib.hid hr3; have R4 := Lib.hid (R1'.out.below hb4); clear hb4 hr3)))
  have ha4 := Lib.hid ((Below.refl w4.heap.size w4).alloc (Nat.le_refl _) (.cells #[.int .i64 0, .int .i64 0] 26))
  go_loopw [9, 8] (fun i v wr => ∃ j x : Nat, j ≤ p ∧ i = .int .i64 j ∧ v = .int .i64 x ∧ (x : Int) ≤ 100000 ∧ Hid (j ≤ c → x = placeN ts j) ∧ Hid (RowAt wr g1 (ts ++ [endT n]) ∧ RowAt wr g3 (placed 0 ts ++ [endT jl]) ∧ Below w.heap.size w wr)) (fun i _ _ => p - litLen i)
  case atStart => exact ⟨0, 0, by omega, rfl, rfl, by omega, Lib.hid fun _ => rfl, Lib.hid ⟨R4.out.below ha4.out, R3.out.below ha4.out, HB4.out.alloc HB4.out.size _⟩⟩
  case round =>
    obtain ⟨j, x, hj, rfl, rfl, hx, hxj, hrows⟩ := hrel
    rcases Nat.lt_or_ge j p with hlt | hge
    · have q3 : decide ((j : Int) < (p : Int)) = true := decide_eq_true (by omega)
      have jr : (j : Int) < (p : Int) := by omega
      by_cases hjc : j < c
      · obtain ⟨t, htj⟩ : ∃ t, ts[j]? = some t := ⟨ts[j]'(by have := hc.out; omega), List.getElem?_eq_getElem _⟩
        have a1 := hrows.out.1.2 j t (by rw [List.getElem?_append_left (by have := hc.out; omega)]; exact htj)
        have a3 := hrows.out.2.1.2 j _ (by rw [List.getElem?_append_left (by rw [placed_len]; have := hc.out; omega)]; exact placed_at htj 0)
        have hpn := Lib.hid (placeN_succ htj)
        have hpl := Lib.hid (hplace.out (j + 1))
        have htl := hq.out t (List.mem_of_getElem? htj)
        have hxe := Lib.hid (hxj.out (by omega))
        obtain ⟨kk, tx, vv, aa⟩ := t
        obtain ⟨x0, x1, x2, x3⟩ := a1
        obtain ⟨z0, z1, z2, z3⟩ := a3
        simp only [Nat.zero_add, ← hxe.out] at z0 z1 z2 z3
        have hsz : (str tx).size = tx.length := str_size tx
        have htl2 : (tx.length : Int) ≤ 10000 := by simp only at htl; omega
        have HSZ := Lib.hid hsz
        generalize hL : tx.length = L at *
        have HL := Lib.hid hL
        clear htj htl hL
        go_wp2_with fail
        go_quiet (fail)
        go_wp2_with fail
        have hdr : Below wr.heap.size wr (wr.drewN nq) := below_dr (Below.refl _ wr) nq
        exact ⟨⟨j + 1, x + L + 1, by omega, rfl, rfl, by have := hpl.out; have := hpn.out; simp only [hxe.out, HL.out] at *; omega, Lib.hid fun _ => by have := hpn.out; simp only [hxe.out, HL.out] at *; omega, Lib.hid ⟨hrows.out.1.below hdr, hrows.out.2.1.below hdr, hrows.out.2.2.trans (hdr.mono hrows.out.2.2.size)⟩⟩, by simp [litLen]; omega⟩
      · have a1 := hrows.out.1.2 j (endT n) (by rw [List.getElem?_append_right (by have := hc.out; omega), show j - ts.length = 0 by have := hc.out; have := hpc.out; omega]; rfl)
        have a3 := hrows.out.2.1.2 j (endT jl) (by rw [List.getElem?_append_right (by rw [placed_len]; have := hc.out; omega), placed_len, show j - ts.length = 0 by have := hc.out; have := hpc.out; omega]; rfl)
        obtain ⟨o0, o1, o2, o3⟩ := a1
        obtain ⟨m0, m1, m2, m3⟩ := a3
        obtain ⟨E, L, hE, hL, hL2, HL⟩ : ∃ (E : ByteArray) (L : Nat), Value.string ⟨#[]⟩ = Value.string E ∧ E.size = L ∧ (L : Int) ≤ 0 ∧ Hid (L = 0) := ⟨⟨#[]⟩, 0, rfl, rfl, by omega, Lib.hid rfl⟩
        have x0 : wr.cell? ⟨g1, j * 4, none⟩ = some (.int .i64 5) := o0
        have x1 : wr.cell? ⟨g1, j * 4 + 1, none⟩ = some (.string E) := by rw [← hE]; exact o1
        have x2 : wr.cell? ⟨g1, j * 4 + 2, none⟩ = some (.int .i64 0) := o2
        have z0 : wr.cell? ⟨g3, j * 4, none⟩ = some (.int .i64 5) := m0
        have z1 : wr.cell? ⟨g3, j * 4 + 1, none⟩ = some (.string E) := by rw [← hE]; exact m1
        have z2 : wr.cell? ⟨g3, j * 4 + 2, none⟩ = some (.int .i64 0) := m2
        have z3 : wr.cell? ⟨g3, j * 4 + 3, none⟩ = some (.int .i64 (jl : Int)) := m3
        clear hE o0 o1 o2 o3 m0 m1 m2 m3
        have hxs : (x : Int) ≤ 30000 := by have := hxj.out (by have := hpc.out; omega); have := hplace.out j; omega
        rcases (show ((jl : Int) != (x : Int)) = true ∨ ((jl : Int) != (x : Int)) = false by cases ((jl : Int) != (x : Int)) <;> simp) with q5 | q5
        all_goals
          go_wp2_with fail
          go_quiet (fail)
          go_wp2_with fail
          have hdr : Below wr.heap.size wr (wr.drewN nq) := below_dr (Below.refl _ wr) nq
          exact ⟨⟨j + 1, x + L + 1, by omega, rfl, rfl, by omega, Lib.hid fun h => absurd h (by have := hpc.out; omega), Lib.hid ⟨hrows.out.1.below hdr, hrows.out.2.1.below hdr, hrows.out.2.2.trans (hdr.mono hrows.out.2.2.size)⟩⟩, by simp [litLen]; omega⟩
    · have q3 : decide ((j : Int) < (p : Int)) = false := decide_eq_false (by omega)
      have z3 : wr.cell? ⟨g3, c * 4 + 3, none⟩ = some (.int .i64 (jl : Int)) := (hrows.out.2.1.2 c (endT jl) (by rw [List.getElem?_append_right (by rw [placed_len]; have := hc.out; omega), placed_len, show c - ts.length = 0 by have := hc.out; omega]; rfl)).2.2.2
      go_wp2_with fail
      go_ret
      exact ⟨rfl, hrows.out.2.2⟩
theorem joinlaw_holds (s1 : ByteArray) (w : World) (hS : Signs w) : Calls Tryd.prog 5 #[.string s1] w fun e w' => e = .returned (.bool true) ∧ Below w.heap.size w w' := by
  rw [str_of s1]
  generalize s1.data.toList = l
  rcases Nat.lt_or_ge 5000 l.length with h | h
  · exact joinlaw_long l _ (str_size l) (by omega) w (Lib.hid hS)
  · obtain ⟨ts, r, ht⟩ := toks_total l (gapTo false l 0)
    cases r with
    | some f => exact joinlaw_bad l _ (Lib.hid rfl) (str_size l) (by omega) ts f (Lib.hid ht) w (Lib.hid hS)
    | none =>
      have c1 := toks_count ht
      have c2 := toks_sum ht
      have g1 := gapTo_le false (Nat.zero_le l.length)
      have s1 : (ts.map fun t => t.text.length).sum + ts.length ≤ 10000 := by omega
      have j1 := join_le ts
      exact joinlaw_ok l _ (Lib.hid rfl) (str_size l) (by omega) ts (Lib.hid ht) ts.length (ts.length + 1) (joinT ts).length (Lib.hid rfl) (Lib.hid rfl) (by omega) (by omega) (by omega) (by omega) (Lib.hid rfl) (decide_eq_true (by omega))
        (str (joinT ts)) (Lib.hid rfl) (str_size _) (Lib.hid rfl) (by omega) (Lib.hid fun j => by have := placeN_le ts j; omega) (Lib.hid fun j => by have := join_take_le ts j; omega) (Lib.hid fun t h => by have := text_le_sum h; omega) w (Lib.hid hS)
end Go.Proofs.YtnkndmmebhajcaaDoor
