/- The law LexWords: words, lines and columns. -/
import Derived.Test.YtnkndmmebhajcaaDoorLexAlive
import Derived.Lib.LastIndexByte
namespace Go.Proofs.YtnkndmmebhajcaaDoor
open Go.RowKit

/-! ### the reference's words -/
def wordCells : Array Value := (wordsL.map fun s => Value.string (str s)).toArray
theorem bytes_eq (a b : List UInt8) : ((str a).toList == (str b).toList) = (a == b) := by rw [str_toList, str_toList]
set_option maxHeartbeats 4000000 in
set_option maxRecDepth 100000 in
theorem word_ref (l : List UInt8) (R : Bool) (hR : Hid (R = wordL l)) (w : World) : Calls Tryd.prog 14 #[.string (str l)] w fun e w' => e = .returned (.bool R) ∧ Below w.heap.size w w' := by
  have hcell : Hid (∀ (j : Nat) s, wordsL[j]? = some s → (w.alloc (.cells wordCells 9)).cell? ⟨w.heap.size, j, none⟩ = some (.string (str s))) := Lib.hid fun j s hs => by
    rw [World.cell?_alloc_new]
    unfold wordCells
    rw [List.getElem?_toArray, List.getElem?_map, hs]
    rfl
  have hb := Lib.hid ((Below.refl w.heap.size w).alloc (Nat.le_refl _) (.cells wordCells 9))
  go_enter Tryd.func14, Tryd.ntmps14
  go_wp2_with fail
  obtain ⟨W1, hW1⟩ : ∃ W1, W1 = w.alloc (.cells wordCells 9) := ⟨_, rfl⟩
  rw [← hW1] at hcell hb
  change Code.wp _ _ _ _ (w.alloc (.cells wordCells 9))
  rw [← hW1]
  have HW := Lib.hid hW1
  clear hW1
  go_loop [4] (fun i => ∃ j : Nat, j ≤ 30 ∧ Hid ((wordsL.take j).contains l = false) ∧ i = .int .i64 j) (fun i => 30 - litLen i)
  case atStart => exact ⟨0, by omega, Lib.hid rfl, rfl⟩
  case round =>
    obtain ⟨j, hj, hno, rfl⟩ := hrel
    rcases Nat.lt_or_ge j 30 with hlt | hge
    · have q3 : decide ((j : Int) < 30) = true := decide_eq_true (by omega)
      obtain ⟨s, hsj⟩ : ∃ s, wordsL[j]? = some s := ⟨wordsL[j]'(by show j < 30; exact hlt), List.getElem?_eq_getElem _⟩
      have hc := hcell.out j s hsj
      have HJ := Lib.hid hsj
      have HM := Lib.hid (List.mem_of_getElem? hsj)
      have HT := Lib.hid (show wordsL.take (j + 1) = wordsL.take j ++ [s] by
        obtain ⟨h1, rfl⟩ := List.getElem?_eq_some_iff.1 hsj
        exact List.take_succ_eq_append_getElem h1)
      clear hsj
      by_cases he : s = l
      · have hq : ((str s).toList == (str l).toList) = true := by rw [bytes_eq]; simpa using he
        obtain rfl : R = true := by rw [hR.out]; unfold wordL; rw [List.contains_iff_mem, ← he]; exact HM.out
        clear hR he
        go_wp2_with fail
        go_ret
        exact ⟨rfl, hb.out⟩
      · have hq : ((str s).toList == (str l).toList) = false := by rw [bytes_eq]; exact beq_false_of_ne he
        have HE := Lib.hid he
        clear he
        go_wp2_with fail
        exact ⟨⟨j + 1, by omega, Lib.hid (by
          have h1 := hno.out
          rw [HT.out]
          rw [Bool.eq_false_iff] at h1 ⊢
          intro h2
          rw [List.contains_iff_mem, List.mem_append] at h2
          rcases h2 with h2 | h2
          · exact h1 (by rw [List.contains_iff_mem]; exact h2)
          · rw [List.mem_singleton] at h2; exact HE.out h2.symm), rfl⟩, by simp [litLen]; omega⟩
    · have q3 : decide ((j : Int) < 30) = false := decide_eq_false (by omega)
      obtain rfl : R = false := by rw [hR.out]; unfold wordL; have := hno.out; rwa [List.take_of_length_le (by show 30 ≤ j; exact hge)] at this
      clear hR
      go_wp2_with fail
      go_ret
      exact ⟨rfl, hb.out⟩

/-! ### lines and columns -/
/-- the last byte 10 of the first i stands at r, or r is -1 -/
def LastAt (l : List UInt8) (i : Nat) (r : Int) : Prop := (r = -1 ∧ ∀ j : Nat, j < i → l[j]? ≠ some 10) ∨ ∃ p : Nat, p < i ∧ r = p ∧ l[p]? = some 10 ∧ ∀ j : Nat, p < j → j < i → l[j]? ≠ some 10
theorem LastAt.one {l : List UInt8} {i : Nat} {r r' : Int} (h : LastAt l i r) (k : LastAt l i r') : r = r' := by
  rcases h with ⟨rfl, h⟩ | ⟨p, hp, rfl, h1, h2⟩
  · rcases k with ⟨rfl, _⟩ | ⟨q, hq, rfl, h3, _⟩
    · rfl
    · exact absurd h3 (h q hq)
  · rcases k with ⟨rfl, k⟩ | ⟨q, hq, rfl, h3, h4⟩
    · exact absurd h1 (k p hp)
    · rcases Nat.lt_trichotomy p q with h | h | h
      · exact absurd h3 (h2 q h hq)
      · rw [h]
      · exact absurd h1 (h4 p h hp)
theorem LastAt.hit {l : List UInt8} {i : Nat} (h : l[i]? = some 10) : LastAt l (i + 1) i := .inr ⟨i, by omega, rfl, h, fun j h1 h2 => by omega⟩
theorem LastAt.miss {l : List UInt8} {i : Nat} {r : Int} {c : UInt8} (h : LastAt l i r) (hc : l[i]? = some c) (h10 : c ≠ 10) : LastAt l (i + 1) r := by
  have hi : l[i]? ≠ some 10 := by rw [hc]; simpa using h10
  rcases h with ⟨rfl, h⟩ | ⟨p, hp, rfl, h1, h2⟩
  · exact .inl ⟨rfl, fun j hj => by rcases Nat.lt_succ_iff_lt_or_eq.1 hj with h3 | rfl; exact h j h3; exact hi⟩
  · exact .inr ⟨p, by omega, rfl, h1, fun j h3 h4 => by rcases Nat.lt_succ_iff_lt_or_eq.1 h4 with h5 | rfl; exact h2 j h3 h5; exact hi⟩
theorem last_is (l : List UInt8) (k : Nat) (hk : k ≤ l.length) : LastAt l k (Lib.lastIndexByte (str (l.take k)) 10) := by
  have hsz : (str (l.take k)).size = k := by rw [str_size, List.length_take]; omega
  have hd : ∀ j : Nat, j < k → ∀ c : UInt8, l[j]? = some c → (str (l.take k)).data[j]! = c := fun j hj c hc => by
    unfold str
    have : (l.take k)[j]? = some c := by rw [List.getElem?_take, if_pos hj, hc]
    simp [getElem!_def, this]
  have key := Lib.lastIdx_spec (str (l.take k)) 10 k
  unfold Lib.lastIndexByte
  rw [hsz]
  have hten : ∀ j : Nat, j < k → (l[j]? = some 10 ↔ (((str (l.take k)).data[j]!).toNat : Int) = 10) := fun j hj => by
    obtain ⟨c, hc⟩ : ∃ c, l[j]? = some c := ⟨l[j]'(by omega), List.getElem?_eq_getElem _⟩
    rw [hd j hj c hc, hc]
    constructor
    · intro h; cases h; rfl
    · intro h; rw [show c = 10 from UInt8.toNat_inj.1 (by show c.toNat = 10; omega)]
  rcases key with ⟨h1, h2⟩ | ⟨i, h1, h2, h3, h4⟩
  · exact .inl ⟨h1, fun j hj h => h2 j hj ((hten j hj).1 h)⟩
  · exact .inr ⟨i, h1, h2, (hten i h1).2 h3, fun j h5 h6 h => h4 j h5 h6 ((hten j h6).1 h)⟩
theorem LastAt.bounds {l : List UInt8} {i : Nat} {r : Int} (h : LastAt l i r) : -1 ≤ r ∧ r < i := by
  rcases h with ⟨rfl, _⟩ | ⟨p, hp, rfl, _⟩ <;> omega
theorem count_snoc {l : List UInt8} {i : Nat} {c : UInt8} (h : l[i]? = some c) : (l.take (i + 1)).count 10 = (l.take i).count 10 + if c = 10 then 1 else 0 := by
  rw [take_at h, List.count_append, List.count_singleton]
  simp
set_option maxHeartbeats 2000000 in
theorem line_any (l : List UInt8) (n : Nat) (hn : Hid (l.length = n)) (nl : (n : Int) ≤ 30000) (hs : (str l).size = n) (at_ : Int) (k : Nat) (e1 : min (max at_ 0) (n : Int) = (k : Int)) (kl : (k : Int) ≤ (n : Int)) (L : Nat) (hL : Hid (L = (l.take k).count 10)) (Ll : (L : Int) ≤ 30000)
    (r : Int) (hr : Hid (LastAt l k r)) (r0 : -1 ≤ r) (r1 : r ≤ (k : Int)) (w : World) :
    Calls Tryd.prog 12 #[.string (str l), .int .i64 at_] w fun e w' => e = .returned (.tuple #[.int .i64 ((L : Int) + 1), .int .i64 ((k : Int) - r)]) ∧ w' = w := by
  obtain ⟨T, hT⟩ : ∃ T, T = str (l.take k) := ⟨_, rfl⟩
  have hex : (str l).extract 0 k = T := by rw [str_extract, hT]
  have hts : T.size = k := by rw [hT, str_size, List.length_take]; have := hn.out; omega
  have C1 : Hid (Calls Tryd.prog 20 #[.string T, .string ⟨#[10]⟩] w fun e w' => e = .returned (.int .i64 (L : Int)) ∧ w' = w) := Lib.hid (by
    have h := Tryd.strings_Count_one T 10 w
    rw [hT, str_data] at h
    rw [hT, hL.out]
    exact h)
  have C2 : Hid (Calls Tryd.prog 21 #[.string T, .int .u8 10] w fun e w' => e = .returned (.int .i64 r) ∧ w' = w) := Lib.hid (by
    have h := Tryd.strings_LastIndexByte T 10 (by rw [hts]; omega) w
    rw [show r = Lib.lastIndexByte T 10 from hr.out.one (by rw [hT]; exact last_is l k (by have := hn.out; omega))]
    exact h)
  have k0 : (0 : Int) ≤ (k : Int) := by omega
  clear hT
  go_enter Tryd.func12, Tryd.ntmps12
  go_wp2_with (first | (go_at_call 20; ((with_reducible refine C1.out.mono ?_); rintro e w' ⟨rfl, rfl⟩)) | (go_at_call 21; ((with_reducible refine C2.out.mono ?_); rintro e w' ⟨rfl, rfl⟩)))
  go_ret2
  exact ⟨rfl, rfl⟩
set_option maxHeartbeats 8000000 in
set_option maxRecDepth 100000 in
theorem words_low (l : List UInt8) (n : Nat) (hn : Hid (l.length = n)) (nl : (n : Int) ≤ 30000) (hs : (str l).size = n) (at_ : Int) (hat : at_ < 0) (k : Nat) (hk0 : k = 0) (e1 : min (max at_ 0) (n : Int) = (k : Int)) (kl : (k : Int) ≤ (n : Int)) (R : Bool) (hR : Hid (R = wordL l)) (w : World) (hS : Hid (Signs w)) :
    Calls Tryd.prog 4 #[.string (str l), .int .i64 at_] w fun e w' => e = .returned (.bool true) ∧ Below w.heap.size w w' := by
  have q : decide ((30000 : Int) < (n : Int)) = false := decide_eq_false (by omega)
  have CW : Hid (∀ w, Calls Tryd.prog 13 #[.string (str l)] w fun e w' => e = .returned (.bool R) ∧ Below w.heap.size w w') := Lib.hid fun w => by
    have h := word_lex (str l) (by unfold maxLen; omega) w
    rw [hR.out]
    unfold wordIn at h
    rwa [str_data] at h
  have CR : Hid (∀ w, Calls Tryd.prog 14 #[.string (str l)] w fun e w' => e = .returned (.bool R) ∧ Below w.heap.size w w') := Lib.hid fun w => word_ref l R hR w
  subst hk0
  have u1 : decide (at_ < 0) = true := decide_eq_true hat
  have u2 : decide ((n : Int) < 0) = false := decide_eq_false (by omega)
  obtain ⟨k, hk⟩ : ∃ k : Nat, k = 0 := ⟨0, rfl⟩
  rw [show ((0 : Nat) : Int) = (k : Int) by rw [hk]] at e1 kl
  have hkz := Lib.hid hk
  have hk00 : (0 : Int) = (k : Int) := by rw [hk]; rfl
  clear hk
  go_enter Tryd.func4, Tryd.ntmps4
  go_wp2_with (go_at_call 8; ((with_reducible refine (alive_any _ hS.out).mono ?_); rintro e w1 ⟨rfl, hb⟩; have HB := Lib.hid hb; clear hb))
  clear hk00
  go_loop [8, 6, 7] (fun i a c => ∃ (j L : Nat) (cc r : Int), j ≤ k ∧ Hid (L = (l.take j).count 10) ∧ (L : Int) ≤ (j : Int) ∧ Hid (LastAt l j r) ∧ Hid (cc = (j : Int) - r) ∧ cc ≤ (j : Int) + 1 ∧ 1 ≤ cc ∧ i = .int .i64 j ∧ a = .int .i64 ((L : Int) + 1) ∧ c = .int .i64 cc) (fun i _ _ => k - litLen i)
  case atStart => exact ⟨0, 0, 1, -1, by omega, Lib.hid rfl, by omega, Lib.hid (.inl ⟨rfl, fun j hj => by omega⟩), Lib.hid rfl, by omega, by omega, rfl, rfl, rfl⟩
  case round =>
    obtain ⟨j, L, cc, r, hj, hL, hLj, hr, hcc, hcc1, hcc0, rfl, rfl, rfl⟩ := hrel
    rcases Nat.lt_or_ge j k with hlt | hge
    · have q3 : decide ((j : Int) < 0) = true := decide_eq_true (by have := hkz.out; omega)
      have jn : (j : Int) < (n : Int) := by omega
      obtain ⟨c, hcj⟩ := isBehind hn.out (show j < n by omega)
      have hix : ∀ h, (str l)[j]'h = c := fun h => str_at l hcj h
      have HC := Lib.hid hcj
      clear hcj
      by_cases h10 : c = 10
      · subst h10
        have hcs := Lib.hid (count_snoc HC.out)
        go_wp2_with fail
        exact ⟨⟨j + 1, L + 1, 1, j, by omega, Lib.hid (by rw [hcs.out, ← hL.out]; rfl), by omega, Lib.hid (LastAt.hit HC.out), Lib.hid (by omega), by omega, by omega, rfl, by simp, rfl⟩, by simp [litLen]; omega⟩
      · have n10 : (c == 10) = false := beq_false_of_ne h10
        have m10 : ¬ (c.toNat : Int) = 10 := fun e => h10 (UInt8.toNat_inj.1 (by show c.toNat = 10; omega))
        have k10 : ((c.toNat : Int) == 10) = false := beq_false_of_ne m10
        have hcs := Lib.hid (count_snoc HC.out)
        have H10 := Lib.hid h10
        clear h10
        go_wp2_with fail
        exact ⟨⟨j + 1, L, cc + 1, r, by omega, Lib.hid (by rw [hcs.out, ← hL.out, if_neg H10.out]; rfl), by omega, Lib.hid (hr.out.miss HC.out H10.out), Lib.hid (by have := hcc.out; omega), by omega, by omega, rfl, rfl, rfl⟩, by simp [litLen]; omega⟩
    · have q3 : decide ((j : Int) < 0) = false := decide_eq_false (by have := hkz.out; omega)
      obtain rfl : j = k := by omega
      have hrb := hr.out.bounds
      have CL := Lib.hid (line_any l n hn (by omega) hs at_ j e1 (by omega) L hL (by omega) r hr (by omega) (by omega))
      obtain rfl : cc = (j : Int) - r := hcc.out
      clear hcc
      go_wp2_with (first | (go_at_call 12; ((with_reducible refine (CL.out _).mono ?_); rintro e w2 ⟨rfl, rfl⟩)) | (go_at_call 13; ((with_reducible refine (CW.out _).mono ?_); rintro e w3 ⟨rfl, hb3⟩; have HB3 := Lib.hid hb3; clear hb3)) | (go_at_call 14; ((with_reducible refine (CR.out _).mono ?_); rintro e w4 ⟨rfl, hb4⟩; have HB4 := Lib.hid hb4; clear hb4)))
      go_ret
      have hbw := HB.out.trans (HB3.out.mono HB.out.size)
      exact ⟨by simp, hbw.trans (HB4.out.mono hbw.size)⟩
set_option maxHeartbeats 8000000 in
set_option maxRecDepth 100000 in
theorem words_high (l : List UInt8) (n : Nat) (hn : Hid (l.length = n)) (nl : (n : Int) ≤ 30000) (hs : (str l).size = n) (at_ : Int) (hat : (n : Int) < at_) (k : Nat) (hkn : k = n) (e1 : min (max at_ 0) (n : Int) = (k : Int)) (kl : (k : Int) ≤ (n : Int)) (R : Bool) (hR : Hid (R = wordL l)) (w : World) (hS : Hid (Signs w)) :
    Calls Tryd.prog 4 #[.string (str l), .int .i64 at_] w fun e w' => e = .returned (.bool true) ∧ Below w.heap.size w w' := by
  have q : decide ((30000 : Int) < (n : Int)) = false := decide_eq_false (by omega)
  have CW : Hid (∀ w, Calls Tryd.prog 13 #[.string (str l)] w fun e w' => e = .returned (.bool R) ∧ Below w.heap.size w w') := Lib.hid fun w => by
    have h := word_lex (str l) (by unfold maxLen; omega) w
    rw [hR.out]
    unfold wordIn at h
    rwa [str_data] at h
  have CR : Hid (∀ w, Calls Tryd.prog 14 #[.string (str l)] w fun e w' => e = .returned (.bool R) ∧ Below w.heap.size w w') := Lib.hid fun w => word_ref l R hR w
  subst hkn
  have u1 : decide (at_ < 0) = false := decide_eq_false (by omega)
  have u2 : decide ((k : Int) < at_) = true := decide_eq_true hat
  go_enter Tryd.func4, Tryd.ntmps4
  go_wp2_with (go_at_call 8; ((with_reducible refine (alive_any _ hS.out).mono ?_); rintro e w1 ⟨rfl, hb⟩; have HB := Lib.hid hb; clear hb))
  go_loop [8, 6, 7] (fun i a c => ∃ (j L : Nat) (cc r : Int), j ≤ k ∧ Hid (L = (l.take j).count 10) ∧ (L : Int) ≤ (j : Int) ∧ Hid (LastAt l j r) ∧ Hid (cc = (j : Int) - r) ∧ cc ≤ (j : Int) + 1 ∧ 1 ≤ cc ∧ i = .int .i64 j ∧ a = .int .i64 ((L : Int) + 1) ∧ c = .int .i64 cc) (fun i _ _ => k - litLen i)
  case atStart => exact ⟨0, 0, 1, -1, by omega, Lib.hid rfl, by omega, Lib.hid (.inl ⟨rfl, fun j hj => by omega⟩), Lib.hid rfl, by omega, by omega, rfl, rfl, rfl⟩
  case round =>
    obtain ⟨j, L, cc, r, hj, hL, hLj, hr, hcc, hcc1, hcc0, rfl, rfl, rfl⟩ := hrel
    rcases Nat.lt_or_ge j k with hlt | hge
    · have q3 : decide ((j : Int) < (k : Int)) = true := decide_eq_true (by omega)
      have jn : (j : Int) < (k : Int) := by omega
      obtain ⟨c, hcj⟩ := isBehind hn.out (show j < k by omega)
      have hix : ∀ h, (str l)[j]'h = c := fun h => str_at l hcj h
      have HC := Lib.hid hcj
      clear hcj
      by_cases h10 : c = 10
      · subst h10
        have hcs := Lib.hid (count_snoc HC.out)
        go_wp2_with fail
        exact ⟨⟨j + 1, L + 1, 1, j, by omega, Lib.hid (by rw [hcs.out, ← hL.out]; rfl), by omega, Lib.hid (LastAt.hit HC.out), Lib.hid (by omega), by omega, by omega, rfl, by simp, rfl⟩, by simp [litLen]; omega⟩
      · have n10 : (c == 10) = false := beq_false_of_ne h10
        have m10 : ¬ (c.toNat : Int) = 10 := fun e => h10 (UInt8.toNat_inj.1 (by show c.toNat = 10; omega))
        have k10 : ((c.toNat : Int) == 10) = false := beq_false_of_ne m10
        have hcs := Lib.hid (count_snoc HC.out)
        have H10 := Lib.hid h10
        clear h10
        go_wp2_with fail
        exact ⟨⟨j + 1, L, cc + 1, r, by omega, Lib.hid (by rw [hcs.out, ← hL.out, if_neg H10.out]; rfl), by omega, Lib.hid (hr.out.miss HC.out H10.out), Lib.hid (by have := hcc.out; omega), by omega, by omega, rfl, rfl, rfl⟩, by simp [litLen]; omega⟩
    · have q3 : decide ((j : Int) < (k : Int)) = false := decide_eq_false (by omega)
      obtain rfl : j = k := by omega
      have hrb := hr.out.bounds
      have CL := Lib.hid (line_any l _ hn (by omega) hs at_ j e1 (by omega) L hL (by omega) r hr (by omega) (by omega))
      obtain rfl : cc = (j : Int) - r := hcc.out
      clear hcc
      go_wp2_with (first | (go_at_call 12; ((with_reducible refine (CL.out _).mono ?_); rintro e w2 ⟨rfl, rfl⟩)) | (go_at_call 13; ((with_reducible refine (CW.out _).mono ?_); rintro e w3 ⟨rfl, hb3⟩; have HB3 := Lib.hid hb3; clear hb3)) | (go_at_call 14; ((with_reducible refine (CR.out _).mono ?_); rintro e w4 ⟨rfl, hb4⟩; have HB4 := Lib.hid hb4; clear hb4)))
      go_ret
      have hbw := HB.out.trans (HB3.out.mono HB.out.size)
      exact ⟨by simp, hbw.trans (HB4.out.mono hbw.size)⟩
set_option maxHeartbeats 8000000 in
set_option maxRecDepth 100000 in
theorem words_mid (l : List UInt8) (n : Nat) (hn : Hid (l.length = n)) (nl : (n : Int) ≤ 30000) (hs : (str l).size = n) (at_ : Int) (k : Nat) (hat : at_ = (k : Int)) (e1 : min (max at_ 0) (n : Int) = (k : Int)) (kl : (k : Int) ≤ (n : Int)) (R : Bool) (hR : Hid (R = wordL l)) (w : World) (hS : Hid (Signs w)) :
    Calls Tryd.prog 4 #[.string (str l), .int .i64 at_] w fun e w' => e = .returned (.bool true) ∧ Below w.heap.size w w' := by
  have q : decide ((30000 : Int) < (n : Int)) = false := decide_eq_false (by omega)
  have CW : Hid (∀ w, Calls Tryd.prog 13 #[.string (str l)] w fun e w' => e = .returned (.bool R) ∧ Below w.heap.size w w') := Lib.hid fun w => by
    have h := word_lex (str l) (by unfold maxLen; omega) w
    rw [hR.out]
    unfold wordIn at h
    rwa [str_data] at h
  have CR : Hid (∀ w, Calls Tryd.prog 14 #[.string (str l)] w fun e w' => e = .returned (.bool R) ∧ Below w.heap.size w w') := Lib.hid fun w => word_ref l R hR w
  subst hat
  have u1 : decide ((k : Int) < 0) = false := decide_eq_false (by omega)
  have u2 : decide ((n : Int) < (k : Int)) = false := decide_eq_false (by omega)
  go_enter Tryd.func4, Tryd.ntmps4
  go_wp2_with (go_at_call 8; ((with_reducible refine (alive_any _ hS.out).mono ?_); rintro e w1 ⟨rfl, hb⟩; have HB := Lib.hid hb; clear hb))
  go_loop [8, 6, 7] (fun i a c => ∃ (j L : Nat) (cc r : Int), j ≤ k ∧ Hid (L = (l.take j).count 10) ∧ (L : Int) ≤ (j : Int) ∧ Hid (LastAt l j r) ∧ Hid (cc = (j : Int) - r) ∧ cc ≤ (j : Int) + 1 ∧ 1 ≤ cc ∧ i = .int .i64 j ∧ a = .int .i64 ((L : Int) + 1) ∧ c = .int .i64 cc) (fun i _ _ => k - litLen i)
  case atStart => exact ⟨0, 0, 1, -1, by omega, Lib.hid rfl, by omega, Lib.hid (.inl ⟨rfl, fun j hj => by omega⟩), Lib.hid rfl, by omega, by omega, rfl, rfl, rfl⟩
  case round =>
    obtain ⟨j, L, cc, r, hj, hL, hLj, hr, hcc, hcc1, hcc0, rfl, rfl, rfl⟩ := hrel
    rcases Nat.lt_or_ge j k with hlt | hge
    · have q3 : decide ((j : Int) < (k : Int)) = true := decide_eq_true (by omega)
      have jn : (j : Int) < (n : Int) := by omega
      obtain ⟨c, hcj⟩ := isBehind hn.out (show j < n by omega)
      have hix : ∀ h, (str l)[j]'h = c := fun h => str_at l hcj h
      have HC := Lib.hid hcj
      clear hcj
      by_cases h10 : c = 10
      · subst h10
        have hcs := Lib.hid (count_snoc HC.out)
        go_wp2_with fail
        exact ⟨⟨j + 1, L + 1, 1, j, by omega, Lib.hid (by rw [hcs.out, ← hL.out]; rfl), by omega, Lib.hid (LastAt.hit HC.out), Lib.hid (by omega), by omega, by omega, rfl, by simp, rfl⟩, by simp [litLen]; omega⟩
      · have n10 : (c == 10) = false := beq_false_of_ne h10
        have m10 : ¬ (c.toNat : Int) = 10 := fun e => h10 (UInt8.toNat_inj.1 (by show c.toNat = 10; omega))
        have k10 : ((c.toNat : Int) == 10) = false := beq_false_of_ne m10
        have hcs := Lib.hid (count_snoc HC.out)
        have H10 := Lib.hid h10
        clear h10
        go_wp2_with fail
        exact ⟨⟨j + 1, L, cc + 1, r, by omega, Lib.hid (by rw [hcs.out, ← hL.out, if_neg H10.out]; rfl), by omega, Lib.hid (hr.out.miss HC.out H10.out), Lib.hid (by have := hcc.out; omega), by omega, by omega, rfl, rfl, rfl⟩, by simp [litLen]; omega⟩
    · have q3 : decide ((j : Int) < (k : Int)) = false := decide_eq_false (by omega)
      obtain rfl : j = k := by omega
      have hrb := hr.out.bounds
      have CL := Lib.hid (line_any l n hn (by omega) hs (j : Int) j e1 (by omega) L hL (by omega) r hr (by omega) (by omega))
      obtain rfl : cc = (j : Int) - r := hcc.out
      clear hcc
      go_wp2_with (first | (go_at_call 12; ((with_reducible refine (CL.out _).mono ?_); rintro e w2 ⟨rfl, rfl⟩)) | (go_at_call 13; ((with_reducible refine (CW.out _).mono ?_); rintro e w3 ⟨rfl, hb3⟩; have HB3 := Lib.hid hb3; clear hb3)) | (go_at_call 14; ((with_reducible refine (CR.out _).mono ?_); rintro e w4 ⟨rfl, hb4⟩; have HB4 := Lib.hid hb4; clear hb4)))
      go_ret
      have hbw := HB.out.trans (HB3.out.mono HB.out.size)
      exact ⟨by simp, hbw.trans (HB4.out.mono hbw.size)⟩
theorem words_long (l : List UInt8) (n : Nat) (hs : (str l).size = n) (at_ : Int) (hl : (30000 : Int) < (n : Int)) (w : World) (hS : Hid (Signs w)) :
    Calls Tryd.prog 4 #[.string (str l), .int .i64 at_] w fun e w' => e = .returned (.bool true) ∧ Below w.heap.size w w' := by
  have q : decide ((30000 : Int) < (n : Int)) = true := decide_eq_true hl
  go_enter Tryd.func4, Tryd.ntmps4
  go_wp2_with (go_at_call 8; ((with_reducible refine (alive_any _ hS.out).mono ?_); rintro e w1 ⟨rfl, hb⟩; have HB := Lib.hid hb; clear hb))
  go_ret
  exact ⟨rfl, HB.out⟩
theorem words_holds (s : ByteArray) (_ : s.size ≤ maxLen) (at_ : Int) (_ : (Lit.int .i64 at_).wf = true) (w : World) (hS : Signs w) : Calls Tryd.prog 4 #[.string s, .int .i64 at_] w fun e w' => e = .returned (.bool true) ∧ Below w.heap.size w w' := by
  rw [str_of s]
  generalize s.data.toList = l
  rcases Nat.lt_or_ge 30000 l.length with h | h
  · exact words_long l _ (str_size l) at_ (by omega) w (Lib.hid hS)
  · by_cases h1 : at_ < 0
    · exact words_low l _ (Lib.hid rfl) (by omega) (str_size l) at_ h1 0 rfl (by omega) (by omega) _ (Lib.hid rfl) w (Lib.hid hS)
    · by_cases h2 : (l.length : Int) < at_
      · exact words_high l _ (Lib.hid rfl) (by omega) (str_size l) at_ h2 _ rfl (by omega) (by omega) _ (Lib.hid rfl) w (Lib.hid hS)
      · exact words_mid l _ (Lib.hid rfl) (by omega) (str_size l) at_ at_.toNat (by omega) (by omega) (by omega) _ (Lib.hid rfl) w (Lib.hid hS)
end Go.Proofs.YtnkndmmebhajcaaDoor
