/- Joined: LexTwo, LexSame, LexTokensLaw, LexRef, LexWordsLaw. -/
import Derived.Test.YtlbhlncipajapaaGreatDoorPe08
import Derived.Deep.QuietTactic
import Derived.BigQuiet
import Derived.Lib.LastIndexByte
namespace Go.Proofs.YtlbhlncipajapaaGreatDoor.Lx
open Go.RowKit

/-- some answer of Lex's -/
def LexAny (w : World) (e : Ending) (w' : World) : Prop := ∃ (v : Value) (c f : Int), e = .returned (.tuple #[v, .agg #[.int .i64 c, .int .i64 f]]) ∧ Below w.heap.size w w'
theorem lex_some (l : List UInt8) (w : World) (hS : Signs w) : Calls Tryz.prog 31 #[.string (str l)] w fun e w' => LexAny w e w' := by
  obtain ⟨ts, r, ht⟩ := toks_total l (gapTo false l 0)
  exact (lex_any l ts r ht w hS).mono fun e w' ⟨v, c, f', he, hb, _⟩ => ⟨v, c, f', he, hb⟩
/-- a token's cells -/
def CellsAt (w : World) (g i : Nat) (t : Tok) : Prop := w.cell? ⟨g, i * 4, none⟩ = some (.int .i64 (t.kind : Int)) ∧ w.cell? ⟨g, i * 4 + 1, none⟩ = some (.string (str t.text)) ∧ w.cell? ⟨g, i * 4 + 2, none⟩ = some (.int .i64 t.v) ∧ w.cell? ⟨g, i * 4 + 3, none⟩ = some (.int .i64 (t.at_ : Int))
theorem tokCells_cons (t : Tok) (ts : List Tok) : tokCells (t :: ts) = [.int .i64 (t.kind : Int), .string (str t.text), .int .i64 t.v, .int .i64 (t.at_ : Int)] ++ tokCells ts := rfl
theorem tokCells_at {ts : List Tok} {i : Nat} {t : Tok} (h : ts[i]? = some t) : (tokCells ts)[i * 4]? = some (.int .i64 (t.kind : Int)) ∧ (tokCells ts)[i * 4 + 1]? = some (.string (str t.text)) ∧ (tokCells ts)[i * 4 + 2]? = some (.int .i64 t.v) ∧ (tokCells ts)[i * 4 + 3]? = some (.int .i64 (t.at_ : Int)) := by
  induction ts generalizing i with
  | nil => simp at h
  | cons u ts ih =>
    rw [tokCells_cons]
    cases i with
    | zero => simp at h; subst h; exact ⟨rfl, rfl, rfl, rfl⟩
    | succ i =>
      have h2 := ih (i := i) (by simpa using h)
      have e : ∀ k, ([Value.int .i64 (u.kind : Int), .string (str u.text), .int .i64 u.v, .int .i64 (u.at_ : Int)] ++ tokCells ts)[(i + 1) * 4 + k]? = (tokCells ts)[i * 4 + k]? := fun k => by
        rw [List.getElem?_append_right (by simp; omega)]
        congr 1
        simp
        omega
      exact ⟨(e 0).trans h2.1, (e 1).trans h2.2.1, (e 2).trans h2.2.2.1, (e 3).trans h2.2.2.2⟩
/-- a row of tokens -/
def RowAt (w : World) (g : Nat) (ts : List Tok) : Prop := g < w.heap.size ∧ ∀ i t, ts[i]? = some t → CellsAt w g i t
theorem RowAt.below {w w' : World} {g : Nat} {ts : List Tok} (h : RowAt w g ts) (hb : Below w.heap.size w w') : RowAt w' g ts :=
  ⟨Nat.lt_of_lt_of_le h.1 hb.size, fun i t ht => by
    obtain ⟨h1, h2, h3, h4⟩ := h.2 i t ht
    exact ⟨(hb.cell (p := ⟨g, i * 4, none⟩) h.1).trans h1, (hb.cell (p := ⟨g, i * 4 + 1, none⟩) h.1).trans h2, (hb.cell (p := ⟨g, i * 4 + 2, none⟩) h.1).trans h3, (hb.cell (p := ⟨g, i * 4 + 3, none⟩) h.1).trans h4⟩⟩
/-- tokens come back, as a row -/
def LexRow (l : List UInt8) (ts : List Tok) (w : World) (e : Ending) (w' : World) : Prop :=
  ∃ g cap, e = .returned (.tuple #[.slice (some ⟨g, 0, none⟩) (ts.length + 1) cap, .agg #[.int .i64 0, .int .i64 0]]) ∧ Below w.heap.size w w' ∧ w.heap.size ≤ g ∧ RowAt w' g (ts ++ [endT l.length])
theorem lex_row (l : List UInt8) (ts : List Tok) (ht : lexT l ts none) (hl : l.length ≤ 20000) (w : World) (hS : Signs w) : Calls Tryz.prog 31 #[.string (str l)] w fun e w' => LexRow l ts w e w' :=
  (lex_ok l ts ht hl w hS).mono fun e w' ⟨g, cap, he, hb, hg1, hg2, hc⟩ => ⟨g, cap, he, hb, hg1, hg2, fun i t hi => by
    obtain ⟨h1, h2, h3, h4⟩ := tokCells_at hi
    exact ⟨hc _ _ h1, hc _ _ h2, hc _ _ h3, hc _ _ h4⟩⟩
theorem toks_at {l : List UInt8} {a : Nat} {ts : List Tok} {r : Option Nat} (h : Toks l a ts r) : ∀ t ∈ ts, t.at_ ≤ l.length := by
  induction h with
  | fin => intro t ht; simp at ht
  | bad => intro t ht; simp at ht
  | @tok a ts r h h1 h2 ih =>
    intro t ht
    rcases List.mem_cons.1 ht with rfl | ht
    · have : (tokAt l a).at_ = a := by unfold tokAt; cases oneL (l.drop a) <;> rfl
      omega
    · exact ih t ht
/-- the row's token at i, at one of two texts -/
theorem two_at {ts us : List Tok} {nl ml : Nat} {i : Nat} : ((ts ++ us.map (shiftT (nl + 1))) ++ [endT (nl + 1 + ml)])[i]? = if i < ts.length then ts[i]? else ((us ++ [endT ml])[i - ts.length]?).map (shiftT (nl + 1)) := by
  by_cases h : i < ts.length
  · rw [if_pos h, List.append_assoc, List.getElem?_append_left h]
  · rw [if_neg h, List.append_assoc, List.getElem?_append_right (by omega), ← List.getElem?_map, List.map_append]
    congr 2
    show [endT (nl + 1 + ml)] = [shiftT (nl + 1) (endT ml)]
    congr 1
    unfold endT shiftT
    simp
    omega
end Go.Proofs.YtlbhlncipajapaaGreatDoor.Lx
namespace Go.Proofs.YtlbhlncipajapaaGreatDoor.Lx
open Go.RowKit

end Go.Proofs.YtlbhlncipajapaaGreatDoor.Lx
namespace Go.Proofs.YtlbhlncipajapaaGreatDoor.Lx
open Go.RowKit

/-- no tokens, a fault -/
def NoRow (c f : Int) (w : World) (e : Ending) (w' : World) : Prop := e = .returned (.tuple #[.slice none 0 0, .agg #[.int .i64 c, .int .i64 f]]) ∧ Below w.heap.size w w'
/-- a row of tokens, no fault -/
def SomeRow (us : List Tok) (p : Nat) (w : World) (e : Ending) (w' : World) : Prop := ∃ g cap, e = .returned (.tuple #[.slice (some ⟨g, 0, none⟩) p cap, .agg #[.int .i64 0, .int .i64 0]]) ∧ Below w.heap.size w w' ∧ RowAt w' g us
/-- what the reference's Lex answers -/
def RefLex : Prop := ∀ (l : List UInt8) (ts : List Tok) (r : Option Nat), lexT l ts r → ∀ W, Calls Tryz.prog 13 #[.string (str l)] W fun e w' =>
  (20000 < l.length → NoRow 10 0 W e w') ∧ (l.length ≤ 20000 → match r with | some f => NoRow 1 (f : Int) W e w' | none => SomeRow (ts ++ [endT l.length]) (ts.length + 1) W e w')
end Go.Proofs.YtlbhlncipajapaaGreatDoor.Lx
namespace Go.Proofs.YtlbhlncipajapaaGreatDoor.Lx
open Go.RowKit

set_option maxHeartbeats 2000000 in
theorem letter_core (x : Nat) (hx : (x : Int) ≤ 255) (R : Bool) (hR : Hid (R = ((decide (97 ≤ x) && decide (x ≤ 122)) || ((decide (65 ≤ x) && decide (x ≤ 90)) || decide (x = 95))))) (w : World) :
    Calls Tryz.prog 53 #[.int .u8 (x : Int)] w fun e w' => e = .returned (.bool R) ∧ w' = w := by
  by_cases h65 : 65 ≤ x
  · have q65 : decide ((65 : Int) ≤ (x : Int)) = true := decide_eq_true (by omega)
    by_cases h90 : x ≤ 90
    · have q90 : decide ((x : Int) ≤ 90) = true := decide_eq_true (by omega)
      obtain rfl : R = true := by rw [hR.out, decide_eq_true h65, decide_eq_true h90]; simp
      clear hR
      go_enter Tryz.func53, Tryz.ntmps53
      go_wp2_with fail
      go_ret
      exact ⟨rfl, rfl⟩
    · have q90 : decide ((x : Int) ≤ 90) = false := decide_eq_false (by omega)
      by_cases h97 : 97 ≤ x
      · have q97 : decide ((97 : Int) ≤ (x : Int)) = true := decide_eq_true (by omega)
        by_cases h122 : x ≤ 122
        · have q122 : decide ((x : Int) ≤ 122) = true := decide_eq_true (by omega)
          obtain rfl : R = true := by rw [hR.out, decide_eq_true h97, decide_eq_true h122]; simp
          clear hR
          go_enter Tryz.func53, Tryz.ntmps53
          go_wp2_with fail
          go_ret
          exact ⟨rfl, rfl⟩
        · have q122 : decide ((x : Int) ≤ 122) = false := decide_eq_false (by omega)
          have n95 : ¬ (x : Int) = 95 := by omega
          have m95 : ((x : Int) == 95) = false := beq_false_of_ne n95
          obtain rfl : R = false := by rw [hR.out, decide_eq_false h122, decide_eq_false h90, decide_eq_false (show ¬ x = 95 by omega)]; simp
          clear hR
          go_enter Tryz.func53, Tryz.ntmps53
          go_wp2_with fail
          go_ret
          exact ⟨rfl, rfl⟩
      · have q97 : decide ((97 : Int) ≤ (x : Int)) = false := decide_eq_false (by omega)
        by_cases h95 : x = 95
        · subst h95
          obtain rfl : R = true := by rw [hR.out]; rfl
          clear hR
          go_enter Tryz.func53, Tryz.ntmps53
          go_wp2_with fail
          go_ret
          exact ⟨rfl, rfl⟩
        · have n95 : ¬ (x : Int) = 95 := by omega
          have m95 : ((x : Int) == 95) = false := beq_false_of_ne n95
          obtain rfl : R = false := by rw [hR.out, decide_eq_false h97, decide_eq_false h90, decide_eq_false h95]; simp
          clear hR
          go_enter Tryz.func53, Tryz.ntmps53
          go_wp2_with fail
          go_ret
          exact ⟨rfl, rfl⟩
  · have q65 : decide ((65 : Int) ≤ (x : Int)) = false := decide_eq_false (by omega)
    have q97 : decide ((97 : Int) ≤ (x : Int)) = false := decide_eq_false (by omega)
    have n95 : ¬ (x : Int) = 95 := by omega
    have m95 : ((x : Int) == 95) = false := beq_false_of_ne n95
    obtain rfl : R = false := by rw [hR.out, decide_eq_false h65, decide_eq_false (show ¬ 97 ≤ x by omega), decide_eq_false (show ¬ x = 95 by omega)]; simp
    clear hR
    go_enter Tryz.func53, Tryz.ntmps53
    go_wp2_with fail
    go_ret
    exact ⟨rfl, rfl⟩
theorem u8_95 (c : UInt8) : (c == 95) = decide (c.toNat = 95) := by
  rw [Bool.eq_iff_iff]
  simp only [beq_iff_eq, decide_eq_true_eq]
  exact ⟨fun h => by rw [h]; rfl, fun h => UInt8.toNat_inj.1 (by rw [h]; rfl)⟩
theorem letter_ref (c : UInt8) (w : World) : Calls Tryz.prog 53 #[.int .u8 (c.toNat : Int)] w fun e w' => e = .returned (.bool (isLetter c)) ∧ w' = w :=
  letter_core c.toNat (by have := c.toNat_lt; omega) _ (Lib.hid (by unfold isLetter; rw [u8_95])) w
theorem digit_core (x : Nat) (R : Bool) (hR : Hid (R = (decide (48 ≤ x) && decide (x ≤ 57)))) (w : World) :
    Calls Tryz.prog 54 #[.int .u8 (x : Int)] w fun e w' => e = .returned (.bool R) ∧ w' = w := by
  by_cases h48 : 48 ≤ x
  · have q48 : decide ((48 : Int) ≤ (x : Int)) = true := decide_eq_true (by omega)
    by_cases h57 : x ≤ 57
    · have q57 : decide ((x : Int) ≤ 57) = true := decide_eq_true (by omega)
      obtain rfl : R = true := by rw [hR.out, decide_eq_true h48, decide_eq_true h57]; rfl
      clear hR
      go_enter Tryz.func54, Tryz.ntmps54
      go_wp2_with fail
      go_ret
      exact ⟨rfl, rfl⟩
    · have q57 : decide ((x : Int) ≤ 57) = false := decide_eq_false (by omega)
      obtain rfl : R = false := by rw [hR.out, decide_eq_false h57]; simp
      clear hR
      go_enter Tryz.func54, Tryz.ntmps54
      go_wp2_with fail
      go_ret
      exact ⟨rfl, rfl⟩
  · have q48 : decide ((48 : Int) ≤ (x : Int)) = false := decide_eq_false (by omega)
    obtain rfl : R = false := by rw [hR.out, decide_eq_false h48]; rfl
    clear hR
    go_enter Tryz.func54, Tryz.ntmps54
    go_wp2_with fail
    go_ret
    exact ⟨rfl, rfl⟩
theorem digit_ref (c : UInt8) (w : World) : Calls Tryz.prog 54 #[.int .u8 (c.toNat : Int)] w fun e w' => e = .returned (.bool (isDig c)) ∧ w' = w :=
  digit_core c.toNat _ (Lib.hid rfl) w
/-- a byte that isn't k, in all the words of a walk -/
theorem byte_ne {c k : UInt8} (h : c ≠ k) (K : Int) (hK : (k.toNat : Int) = K) : (c == k) = false ∧ (c != k) = true ∧ ¬ (c.toNat : Int) = K ∧ ((c.toNat : Int) == K) = false ∧ ((c.toNat : Int) != K) = true := by
  have h2 : ¬ (c.toNat : Int) = K := fun e => h (UInt8.toNat_inj.1 (by omega))
  exact ⟨beq_false_of_ne h, bne_iff_ne.2 h, h2, beq_false_of_ne h2, bne_iff_ne.2 h2⟩
set_option maxHeartbeats 4000000 in
theorem skip_core (l : List UInt8) (n : Nat) (hn : Hid (l.length = n)) (nl : (n : Int) ≤ 30000) (hs : (str l).size = n) (a : Nat) (ha : a ≤ n) (R : Nat) (hR : Hid (gapTo false l a = R)) (w : World) :
    Calls Tryz.prog 27 #[.string (str l), .int .i64 (a : Int)] w fun e w' => e = .returned (.int .i64 (R : Int)) ∧ w' = w := by
  go_enter Tryz.func27, Tryz.ntmps27
  go_wp2_with fail
  go_loop [1, 5] (fun i b => ∃ (j : Nat) (cm : Bool), j ≤ n ∧ Hid (gapTo cm l j = R) ∧ i = .int .i64 j ∧ b = .bool cm) (fun i _ => n - litLen i)
  case atStart => exact ⟨a, false, ha, hR, rfl, rfl⟩
  case round =>
    obtain ⟨j, cm, hj, hr, rfl, rfl⟩ := hrel
    rcases Nat.lt_or_ge j n with hlt | hge
    · have q3 : decide ((j : Int) < (n : Int)) = true := decide_eq_true (by omega)
      obtain ⟨c, hcj⟩ := isBehind hn.out hlt
      have hix : ∀ h, (str l)[j]'h = c := fun h => str_at l hcj h
      have HC := Lib.hid hcj
      clear hcj
      cases cm with
      | true =>
        by_cases h10 : c = 10
        · subst h10
          go_wp2_with fail
          exact ⟨⟨j + 1, false, by omega, Lib.hid (by rw [← gapTo_line HC.out]; exact hr.out), rfl, rfl⟩, by simp [litLen]; omega⟩
        · obtain ⟨b1, b2, b3, b4, b5⟩ := byte_ne h10 10 rfl
          have HT := Lib.hid h10
          clear h10
          go_wp2_with fail
          exact ⟨⟨j + 1, true, by omega, Lib.hid (by rw [← gapTo_comment HC.out HT.out]; exact hr.out), rfl, rfl⟩, by simp [litLen]; omega⟩
      | false =>
        by_cases h35 : c = 35
        · subst h35
          go_wp2_with fail
          exact ⟨⟨j + 1, true, by omega, Lib.hid (by rw [← gapTo_hash HC.out]; exact hr.out), rfl, rfl⟩, by simp [litLen]; omega⟩
        · obtain ⟨b1, b2, b3, b4, b5⟩ := byte_ne h35 35 rfl
          have H35 := Lib.hid h35
          clear h35
          by_cases h32 : c = 32
          · subst h32
            go_wp2_with fail
            exact ⟨⟨j + 1, false, by omega, Lib.hid (by rw [← gapTo_blank HC.out (by decide)]; exact hr.out), rfl, rfl⟩, by simp [litLen]; omega⟩
          · obtain ⟨c1, c2, c3, c4, c5⟩ := byte_ne h32 32 rfl
            have H32 := Lib.hid h32
            clear h32
            by_cases h9 : c = 9
            · subst h9
              go_wp2_with fail
              exact ⟨⟨j + 1, false, by omega, Lib.hid (by rw [← gapTo_blank HC.out (by decide)]; exact hr.out), rfl, rfl⟩, by simp [litLen]; omega⟩
            · obtain ⟨d1, d2, d3, d4, d5⟩ := byte_ne h9 9 rfl
              have H9 := Lib.hid h9
              clear h9
              by_cases h10 : c = 10
              · subst h10
                go_wp2_with fail
                exact ⟨⟨j + 1, false, by omega, Lib.hid (by rw [← gapTo_blank HC.out (by decide)]; exact hr.out), rfl, rfl⟩, by simp [litLen]; omega⟩
              · obtain ⟨e1, e2, e3, e4, e5⟩ := byte_ne h10 10 rfl
                have H10 := Lib.hid h10
                clear h10
                by_cases h13 : c = 13
                · subst h13
                  go_wp2_with fail
                  exact ⟨⟨j + 1, false, by omega, Lib.hid (by rw [← gapTo_blank HC.out (by decide)]; exact hr.out), rfl, rfl⟩, by simp [litLen]; omega⟩
                · obtain ⟨f1, f2, f3, f4, f5⟩ := byte_ne h13 13 rfl
                  have hst := Lib.hid (gapTo_stop HC.out H35.out (by unfold isBlank; rw [c1, d1, e1, f1]; rfl))
                  clear h13
                  go_wp2_with fail
                  go_ret
                  exact ⟨by rw [← hr.out, hst.out]; rfl, rfl⟩
    · have q3 : decide ((j : Int) < (n : Int)) = false := decide_eq_false (by omega)
      have hst := Lib.hid (gapTo_end cm (l := l) (a := j) (by rw [hn.out]; exact hge))
      go_wp2_with fail
      go_ret
      exact ⟨by rw [← hr.out, hst.out]; rfl, rfl⟩
theorem skip_ref (l : List UInt8) (nl : l.length ≤ 30000) (a : Nat) (ha : a ≤ l.length) (w : World) :
    Calls Tryz.prog 27 #[.string (str l), .int .i64 (a : Int)] w fun e w' => e = .returned (.int .i64 ((gapTo false l a : Nat) : Int)) ∧ w' = w :=
  skip_core l _ (Lib.hid rfl) (by omega) (str_size l) a ha _ (Lib.hid rfl) w
end Go.Proofs.YtlbhlncipajapaaGreatDoor.Lx
namespace Go.Proofs.YtlbhlncipajapaaGreatDoor.Lx
open Go.RowKit

/-! ### the reference's words -/
def wordCells : Array Value := (wordsL.map fun s => Value.string (str s)).toArray
theorem bytes_eq (a b : List UInt8) : ((str a).toList == (str b).toList) = (a == b) := by rw [str_toList, str_toList]
set_option maxHeartbeats 4000000 in
set_option maxRecDepth 100000 in
theorem word_ref (l : List UInt8) (R : Bool) (hR : Hid (R = wordL l)) (w : World) : Calls Tryz.prog 55 #[.string (str l)] w fun e w' => e = .returned (.bool R) ∧ Below w.heap.size w w' := by
  have hcell : Hid (∀ (j : Nat) s, wordsL[j]? = some s → (w.alloc (.cells wordCells 9)).cell? ⟨w.heap.size, j, none⟩ = some (.string (str s))) := Lib.hid fun j s hs => by
    rw [World.cell?_alloc_new]
    unfold wordCells
    rw [List.getElem?_toArray, List.getElem?_map, hs]
    rfl
  have hb := Lib.hid ((Below.refl w.heap.size w).alloc (Nat.le_refl _) (.cells wordCells 9))
  go_enter Tryz.func55, Tryz.ntmps55
  go_wp2_with fail
  obtain ⟨W1, hW1⟩ : ∃ W1, W1 = w.alloc (.cells wordCells 9) := ⟨_, rfl⟩
  rw [← hW1] at hcell hb
  change Code.wp _ _ _ _ (w.alloc (.cells wordCells 9))
  rw [← hW1]
  have HW := Lib.hid hW1
  clear hW1
  go_loop [4] (fun i => ∃ j : Nat, j ≤ 30 ∧ Hid ((wordsL.take j).contains l = false) ∧ i = .int .i64 j) (fun i => 30 - litLen i)
  case atStart => exact ⟨0, by omega, Lib.hid rfl, rfl⟩
  case round =>
    obtain ⟨j, hj, hno, rfl⟩ := hrel
    rcases Nat.lt_or_ge j 30 with hlt | hge
    · have q3 : decide ((j : Int) < 30) = true := decide_eq_true (by omega)
      obtain ⟨s, hsj⟩ : ∃ s, wordsL[j]? = some s := ⟨wordsL[j]'(by show j < 30; exact hlt), List.getElem?_eq_getElem _⟩
      have hc := hcell.out j s hsj
      have HJ := Lib.hid hsj
      have HM := Lib.hid (List.mem_of_getElem? hsj)
      have HT := Lib.hid (show wordsL.take (j + 1) = wordsL.take j ++ [s] by
        obtain ⟨h1, rfl⟩ := List.getElem?_eq_some_iff.1 hsj
        exact List.take_succ_eq_append_getElem h1)
      clear hsj
      by_cases he : s = l
      · have hq : ((str s).toList == (str l).toList) = true := by rw [bytes_eq]; simpa using he
        obtain rfl : R = true := by rw [hR.out]; unfold wordL; rw [List.contains_iff_mem, ← he]; exact HM.out
        clear hR he
        go_wp2_with fail
        go_ret
        exact ⟨rfl, hb.out⟩
      · have hq : ((str s).toList == (str l).toList) = false := by rw [bytes_eq]; exact beq_false_of_ne he
        have HE := Lib.hid he
        clear he
        go_wp2_with fail
        exact ⟨⟨j + 1, by omega, Lib.hid (by
          have h1 := hno.out
          rw [HT.out]
          rw [Bool.eq_false_iff] at h1 ⊢
          intro h2
          rw [List.contains_iff_mem, List.mem_append] at h2
          rcases h2 with h2 | h2
          · exact h1 (by rw [List.contains_iff_mem]; exact h2)
          · rw [List.mem_singleton] at h2; exact HE.out h2.symm), rfl⟩, by simp [litLen]; omega⟩
    · have q3 : decide ((j : Int) < 30) = false := decide_eq_false (by omega)
      obtain rfl : R = false := by rw [hR.out]; unfold wordL; have := hno.out; rwa [List.take_of_length_le (by show 30 ≤ j; exact hge)] at this
      clear hR
      go_wp2_with fail
      go_ret
      exact ⟨rfl, hb.out⟩

/-! ### lines and columns -/
/-- the last byte 10 of the first i stands at r, or r is -1 -/
def LastAt (l : List UInt8) (i : Nat) (r : Int) : Prop := (r = -1 ∧ ∀ j : Nat, j < i → l[j]? ≠ some 10) ∨ ∃ p : Nat, p < i ∧ r = p ∧ l[p]? = some 10 ∧ ∀ j : Nat, p < j → j < i → l[j]? ≠ some 10
theorem LastAt.one {l : List UInt8} {i : Nat} {r r' : Int} (h : LastAt l i r) (k : LastAt l i r') : r = r' := by
  rcases h with ⟨rfl, h⟩ | ⟨p, hp, rfl, h1, h2⟩
  · rcases k with ⟨rfl, _⟩ | ⟨q, hq, rfl, h3, _⟩
    · rfl
    · exact absurd h3 (h q hq)
  · rcases k with ⟨rfl, k⟩ | ⟨q, hq, rfl, h3, h4⟩
    · exact absurd h1 (k p hp)
    · rcases Nat.lt_trichotomy p q with h | h | h
      · exact absurd h3 (h2 q h hq)
      · rw [h]
      · exact absurd h1 (h4 p h hp)
theorem LastAt.hit {l : List UInt8} {i : Nat} (h : l[i]? = some 10) : LastAt l (i + 1) i := .inr ⟨i, by omega, rfl, h, fun j h1 h2 => by omega⟩
theorem LastAt.miss {l : List UInt8} {i : Nat} {r : Int} {c : UInt8} (h : LastAt l i r) (hc : l[i]? = some c) (h10 : c ≠ 10) : LastAt l (i + 1) r := by
  have hi : l[i]? ≠ some 10 := by rw [hc]; simpa using h10
  rcases h with ⟨rfl, h⟩ | ⟨p, hp, rfl, h1, h2⟩
  · exact .inl ⟨rfl, fun j hj => by rcases Nat.lt_succ_iff_lt_or_eq.1 hj with h3 | rfl; exact h j h3; exact hi⟩
  · exact .inr ⟨p, by omega, rfl, h1, fun j h3 h4 => by rcases Nat.lt_succ_iff_lt_or_eq.1 h4 with h5 | rfl; exact h2 j h3 h5; exact hi⟩
theorem last_is (l : List UInt8) (k : Nat) (hk : k ≤ l.length) : LastAt l k (Lib.lastIndexByte (str (l.take k)) 10) := by
  have hsz : (str (l.take k)).size = k := by rw [str_size, List.length_take]; omega
  have hd : ∀ j : Nat, j < k → ∀ c : UInt8, l[j]? = some c → (str (l.take k)).data[j]! = c := fun j hj c hc => by
    unfold str
    have : (l.take k)[j]? = some c := by rw [List.getElem?_take, if_pos hj, hc]
    simp [getElem!_def, this]
  have key := Lib.lastIdx_spec (str (l.take k)) 10 k
  unfold Lib.lastIndexByte
  rw [hsz]
  have hten : ∀ j : Nat, j < k → (l[j]? = some 10 ↔ (((str (l.take k)).data[j]!).toNat : Int) = 10) := fun j hj => by
    obtain ⟨c, hc⟩ : ∃ c, l[j]? = some c := ⟨l[j]'(by omega), List.getElem?_eq_getElem _⟩
    rw [hd j hj c hc, hc]
    constructor
    · intro h; cases h; rfl
    · intro h; rw [show c = 10 from UInt8.toNat_inj.1 (by show c.toNat = 10; omega)]
  rcases key with ⟨h1, h2⟩ | ⟨i, h1, h2, h3, h4⟩
  · exact .inl ⟨h1, fun j hj h => h2 j hj ((hten j hj).1 h)⟩
  · exact .inr ⟨i, h1, h2, (hten i h1).2 h3, fun j h5 h6 h => h4 j h5 h6 ((hten j h6).1 h)⟩
theorem LastAt.bounds {l : List UInt8} {i : Nat} {r : Int} (h : LastAt l i r) : -1 ≤ r ∧ r < i := by
  rcases h with ⟨rfl, _⟩ | ⟨p, hp, rfl, _⟩ <;> omega
theorem count_snoc {l : List UInt8} {i : Nat} {c : UInt8} (h : l[i]? = some c) : (l.take (i + 1)).count 10 = (l.take i).count 10 + if c = 10 then 1 else 0 := by
  rw [take_at h, List.count_append, List.count_singleton]
  simp
end Go.Proofs.YtlbhlncipajapaaGreatDoor.Lx
