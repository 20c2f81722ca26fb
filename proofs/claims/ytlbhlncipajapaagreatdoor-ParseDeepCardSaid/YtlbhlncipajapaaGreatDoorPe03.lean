/- Joined: LexRead, TokMath, LexTok. -/
import Derived.Test.YtlbhlncipajapaaGreatDoorPe02
import Derived.Test.YtlbhlncipajapaaGreatDoorPe01
import Derived.Deep.RegionHeld3
import Derived.Deep.QuietTactic
import Derived.BigQuiet
namespace Go.Proofs.YtlbhlncipajapaaGreatDoor.Lx
open Go.RowKit

theorem litL_parts {l : List UInt8} (h : litL l = true) : 1 ≤ (ahead l).length ∧ (ahead l).length ≤ 10 ∧ (ahead l).all isDig = true ∧ (behind l).length ≤ 40 ∧ (behind l).all isDig = true := by
  unfold litL digitsL at h
  simp only [Bool.and_eq_true, decide_eq_true_eq, Bool.or_eq_true, Bool.not_eq_true'] at h
  obtain ⟨⟨h1, h2, h3⟩, _, h4⟩ := h
  refine ⟨h1, h2, h3, ?_⟩
  rcases h4 with h4 | ⟨_, h4, h5⟩
  · have : behind l = [] := behind_none l (by unfold pointed at h4; simpa using h4)
    rw [this]; simp
  · exact ⟨h4, h5⟩
theorem numL_le (l : List UInt8) (h : l.all isDig = true) (hl : l.length ≤ 10) : numL l < 10000000000 := by
  have h1 := numL_lt l h
  have h2 : 10 ^ l.length ≤ 10 ^ 10 := Nat.pow_le_pow_right (by omega) hl
  omega
theorem all_take {l : List UInt8} (h : l.all isDig = true) (k : Nat) : (l.take k).all isDig = true := List.all_eq_true.2 fun y hy => List.all_eq_true.1 h y (List.mem_of_mem_take hy)

set_option maxHeartbeats 4000000 in
theorem read_none (l : List UInt8) (A B : ByteArray) (w : World) (C : Hid (Calls Tryz.prog 121 #[.string (str l)] w fun e w' => e = .returned (.tuple #[.string A, .string B, .bool false]) ∧ Below w.heap.size w w')) :
    Calls Tryz.prog 117 #[.string (str l)] w fun e w' => e = .returned (.tuple #[.int .u64 0, .bool false]) ∧ Below w.heap.size w w' := by
  go_enter Tryz.func117, Tryz.ntmps117
  go_wp2_with (go_at_call 121; refine C.out.mono ?_; rintro e w' ⟨rfl, hb⟩)
  go_ret2
  exact ⟨rfl, hb⟩
set_option maxHeartbeats 4000000 in
theorem read_some (l a b : List UInt8) (n : Nat) (hn : a.length = n) (hn1 : (n : Int) ≤ 10) (hd : a.all isDig = true) (V P : Nat) (hV : V = numL a) (w : World)
    (C : Hid (Calls Tryz.prog 121 #[.string (str l)] w fun e w' => e = .returned (.tuple #[.string (str a), .string (str b), .bool true]) ∧ Below w.heap.size w w'))
    (D : Hid (∀ w, Calls Tryz.prog 122 #[.string (str b)] w fun e w' => e = .returned (.int .u64 (P : Int)) ∧ Below w.heap.size w w')) (hP : (P : Int) ≤ 4294967295) :
    Calls Tryz.prog 117 #[.string (str l)] w fun e w' =>
      e = .returned (.tuple #[.int .u64 (if V ≤ 2147483648 then ((V * 4294967296 + P : Nat) : Int) else 0), .bool (decide (V ≤ 2147483648 ∧ V * 4294967296 + P ≤ 9223372036854775808))]) ∧ Below w.heap.size w w' := by
  have hs := str_size a
  rw [hn] at hs
  have HN := Lib.hid hn
  have HD := Lib.hid hd
  have HV := Lib.hid hV
  have hV1 : V < 10000000000 := by rw [hV]; exact numL_le a hd (by omega)
  clear hn hd hV
  obtain ⟨Z, hZ⟩ : ∃ Z, Z = (if V ≤ 2147483648 then ((V * 4294967296 + P : Nat) : Int) else 0) := ⟨_, rfl⟩
  obtain ⟨O, hO⟩ : ∃ O, O = decide (V ≤ 2147483648 ∧ V * 4294967296 + P ≤ 9223372036854775808) := ⟨_, rfl⟩
  rw [← hZ, ← hO]
  have ZE := Lib.hid hZ
  have OE := Lib.hid hO
  clear hZ hO
  go_enter Tryz.func117, Tryz.ntmps117
  go_wp2_with (go_at_call 121; refine C.out.mono ?_; rintro e w1 ⟨rfl, hb⟩; have HB := Lib.hid hb; clear hb)
  go_loop [20, 7] (fun x y => ∃ k : Nat, k ≤ n ∧ x = .int .i64 k ∧ y = .int .u64 (numL (a.take k) : Nat)) (fun x _ => n - litLen x)
  case atStart => exact ⟨0, by omega, rfl, rfl⟩
  case round =>
    obtain ⟨k, hk, rfl, rfl⟩ := hrel
    rcases Nat.lt_or_ge k n with hlt | hge
    · obtain ⟨c, hc⟩ : ∃ c, a[k]? = some c := ⟨a[k]'(by have := HN.out; omega), List.getElem?_eq_getElem _⟩
      have hix : ∀ h, (str a)[k]'h = c := fun h => str_at a hc h
      have q3 : decide ((k : Int) < (n : Int)) = true := decide_eq_true (by omega)
      have hcd := isDig_iff.1 (List.all_eq_true.1 HD.out c (List.mem_of_getElem? hc))
      have hnx : numL (a.take (k + 1)) = numL (a.take k) * 10 + (c.toNat - 48) := by rw [take_at hc, numL_snoc]
      have h1 := numL_le _ (all_take HD.out k) (by rw [List.length_take]; omega)
      have h2 := numL_le _ (all_take HD.out (k + 1)) (by rw [List.length_take]; omega)
      have NX := Lib.hid hnx
      obtain ⟨X, hX⟩ : ∃ X, X = c.toNat := ⟨_, rfl⟩
      rw [← hX] at hcd hnx
      obtain ⟨y, hy⟩ : ∃ y, y = X - 48 := ⟨_, rfl⟩
      rw [← hy] at hnx
      obtain ⟨v, hv⟩ : ∃ v, v = numL (a.take k) := ⟨_, rfl⟩
      rw [← hv] at hnx h1 ⊢
      obtain ⟨v2, hv2⟩ : ∃ v2, v2 = numL (a.take (k + 1)) := ⟨_, rfl⟩
      rw [← hv2] at hnx h2
      have V2 := Lib.hid hv2
      have e0 : (X : Int) - 48 = (y : Int) := by omega
      have e1 : (v : Int) * 10 + (y : Int) = (v2 : Int) := by omega
      have b0 : (48 : Int) ≤ (X : Int) := by omega
      have b1 : (X : Int) ≤ 57 := by omega
      have b2 : (v : Int) ≤ 9999999999 := by omega
      have b3 : (v2 : Int) ≤ 9999999999 := by omega
      have b4 : (y : Int) ≤ 9 := by omega
      have hX2 : c.toNat = X := hX.symm
      clear hX hy hv hv2 hnx h1 h2 hcd hc NX
      go_wp2_with fail
      exact ⟨⟨k + 1, by omega, rfl, by rw [V2.out]⟩, by simp [litLen]; omega⟩
    · have q3 : decide ((k : Int) < (n : Int)) = false := decide_eq_false (by omega)
      have hv : numL (a.take k) = V := by rw [show k = a.length by rw [HN.out]; omega, List.take_length, HV.out]
      rw [hv]
      by_cases hg : (2147483648 : Int) < (V : Int)
      · have q5 : decide ((2147483648 : Int) < (V : Int)) = true := decide_eq_true hg
        go_wp2_with fail
        go_ret2
        have e1 := ZE.out; have e2 := OE.out
        rw [if_neg (by omega)] at e1; rw [decide_eq_false (by omega)] at e2
        exact ⟨by rw [e1, e2]; rfl, HB.out⟩
      · have q5 : decide ((2147483648 : Int) < (V : Int)) = false := decide_eq_false hg
        obtain ⟨H, hH⟩ : ∃ H : Nat, H = 2 ^ 32 * V := ⟨_, rfl⟩
        obtain ⟨S, hS⟩ : ∃ S : Nat, S = V * 4294967296 + P := ⟨_, rfl⟩
        have w1 : IntKind.u64.wrap ((V : Int) * 4294967296) = (H : Int) := by rw [IntKind.wrap_u64]; omega
        have o1 : bits .or .u64 (H : Int) (P : Int) = (S : Int) := by rw [hH, or_low 32 V P (by omega) (by omega) (by omega)]; omega
        have e1 := ZE.out; have e2 := OE.out
        rw [if_pos (by omega), ← hS] at e1
        rw [← hS] at e2
        have E1 := Lib.hid e1
        clear e1 hH ZE
        by_cases hq : (S : Int) ≤ 9223372036854775808
        · have q6 : decide ((S : Int) ≤ 9223372036854775808) = true := decide_eq_true hq
          rw [decide_eq_true (by omega)] at e2
          have E2 := Lib.hid e2
          clear e2 OE hS
          go_wp2_with (go_at_call 122; refine (D.out _).mono ?_; rintro e w2 ⟨rfl, hb2⟩)
          go_ret2
          exact ⟨by rw [E1.out, E2.out]; rfl, HB.out.trans (hb2.mono HB.out.size)⟩
        · have q6 : decide ((S : Int) ≤ 9223372036854775808) = false := decide_eq_false hq
          rw [decide_eq_false (by omega)] at e2
          have E2 := Lib.hid e2
          clear e2 OE hS
          go_wp2_with (go_at_call 122; refine (D.out _).mono ?_; rintro e w2 ⟨rfl, hb2⟩)
          go_ret2
          exact ⟨by rw [E1.out, E2.out]; rfl, HB.out.trans (hb2.mono HB.out.size)⟩

theorem read_dec (l : List UInt8) (w : World) (hl : (l.length : Int) ≤ 9223372036854775807) :
    Calls Tryz.prog 117 #[.string (str l)] w fun e w' => e = .returned (.tuple #[.int .u64 ((readL l).1 : Int), .bool (readL l).2]) ∧ Below w.heap.size w w' := by
  have C := cut_dec l w hl
  by_cases h : litL l = true
  · obtain ⟨h1, h2, h3, h4, h5⟩ := litL_parts h
    refine (read_some l (ahead l) (behind l) _ rfl (by omega) h3 _ (bitsL (behind l)) rfl w (Lib.hid (C.mono fun e w' ⟨he, hb⟩ => ⟨by rw [he, h]; rfl, hb⟩)) (Lib.hid fun w => bits_behind (behind l) (by omega) h5 w) (by have := bitsL_lt _ h5; omega)).mono fun e w' ⟨he, hb⟩ => ⟨?_, hb⟩
    rw [he]
    unfold readL sizeL
    by_cases hv : numL (ahead l) ≤ 2147483648
    · rw [if_pos hv, if_pos ⟨h, hv⟩]; simp [hv]
    · rw [if_neg hv, if_neg (fun hh => hv hh.2)]; simp [hv]
  · have h' : litL l = false := by simpa using h
    refine (read_none l _ _ w (Lib.hid (C.mono fun e w' ⟨he, hb⟩ => ⟨by rw [he, h'], hb⟩))).mono fun e w' ⟨he, hb⟩ => ⟨?_, hb⟩
    rw [he]
    unfold readL
    rw [if_neg (fun hh => h hh.1)]
    rfl

/-- what Parse answers -/
def parseL (l : List UInt8) : Nat × Bool := if (readL l).2 = true ∧ (readL l).1 ≤ 9223372036854775807 then ((readL l).1, true) else (0, false)
theorem parse_core (S : ByteArray) (z : Nat) (o : Bool) (Z : Nat) (O : Bool) (hz : (z : Int) ≤ 18446744073709551615) (hr : (Z, O) = if o = true ∧ z ≤ 9223372036854775807 then (z, true) else (0, false)) (w : World)
    (C : Hid (Calls Tryz.prog 117 #[.string S] w fun e w' => e = .returned (.tuple #[.int .u64 (z : Int), .bool o]) ∧ Below w.heap.size w w')) :
    Calls Tryz.prog 112 #[.string S] w fun e w' => e = .returned (.tuple #[.int .i64 (Z : Int), .bool O]) ∧ Below w.heap.size w w' := by
  cases o with
  | false =>
    simp only [Bool.false_eq_true, false_and, if_false, Prod.mk.injEq] at hr
    obtain ⟨rfl, rfl⟩ := hr
    go_enter Tryz.func112, Tryz.ntmps112
    go_wp2_with (go_at_call 117; refine C.out.mono ?_; rintro e w' ⟨rfl, hb⟩)
    go_ret2
    exact ⟨rfl, hb⟩
  | true =>
    by_cases h : (9223372036854775807 : Int) < (z : Int)
    · have q1 : decide ((9223372036854775807 : Int) < (z : Int)) = true := decide_eq_true h
      rw [if_neg (by omega)] at hr
      simp only [Prod.mk.injEq] at hr
      obtain ⟨rfl, rfl⟩ := hr
      go_enter Tryz.func112, Tryz.ntmps112
      go_wp2_with (go_at_call 117; refine C.out.mono ?_; rintro e w' ⟨rfl, hb⟩)
      go_ret2
      exact ⟨rfl, hb⟩
    · have q1 : decide ((9223372036854775807 : Int) < (z : Int)) = false := decide_eq_false h
      have q2 : (z : Int) ≤ 9223372036854775807 := by omega
      rw [if_pos ⟨rfl, by omega⟩] at hr
      simp only [Prod.mk.injEq] at hr
      obtain ⟨rfl, rfl⟩ := hr
      go_enter Tryz.func112, Tryz.ntmps112
      go_wp2_with (go_at_call 117; refine C.out.mono ?_; rintro e w' ⟨rfl, hb⟩)
      go_ret2
      exact ⟨rfl, hb⟩
theorem readL_le (l : List UInt8) : (readL l).1 < 18446744073709551616 := by
  unfold readL
  split
  · rename_i h
    have := bitsL_lt _ (litL_parts h.1).2.2.2.2
    show sizeL l < _
    unfold sizeL
    omega
  · show 0 < _
    omega
theorem parse_dec (l : List UInt8) (w : World) (hl : (l.length : Int) ≤ 9223372036854775807) :
    Calls Tryz.prog 112 #[.string (str l)] w fun e w' => e = .returned (.tuple #[.int .i64 ((parseL l).1 : Int), .bool (parseL l).2]) ∧ Below w.heap.size w w' :=
  parse_core (str l) _ _ _ _ (by have := readL_le l; omega) rfl w (Lib.hid (read_dec l w hl))
end Go.Proofs.YtlbhlncipajapaaGreatDoor.Lx
namespace Go.Proofs.YtlbhlncipajapaaGreatDoor.Lx

def nameN (l : List UInt8) : Nat := (l.takeWhile isName).length
def digN (l : List UInt8) : Nat := (l.takeWhile isDig).length
def numN (l : List UInt8) : Nat := if (l.drop (digN l)).head? = some 46 ∧ 0 < digN (l.drop (digN l + 1)) then digN l + 1 + digN (l.drop (digN l + 1)) else digN l
def signOf (l : List UInt8) : Option (List UInt8) := signsL.find? (·.isPrefixOf l)
/-- kind, length and number of the token at a text's head -/
def oneL (l : List UInt8) : Option (Nat × Nat × Int) :=
  match l with
  | [] => none
  | c :: _ =>
    if isLetter c = true then (if nameN l ≤ 16 then some (if wordL (l.take (nameN l)) = true then 3 else 1, nameN l, 0) else none)
    else if isDig c = true then (if (parseL (l.take (numN l))).2 = true then some (2, numN l, ((parseL (l.take (numN l))).1 : Int)) else none)
    else (signOf l).map fun s => (4, s.length, 0)
structure Tok where
  kind : Nat
  text : List UInt8
  v : Int
  at_ : Nat
def tokV (t : Tok) : Value := .agg #[.int .i64 (t.kind : Int), .string (str t.text), .int .i64 t.v, .int .i64 (t.at_ : Int)]
/-- the token at a place, or one of no kind -/
def tokOf (o : Option (Nat × Nat × Int)) (l : List UInt8) (a : Nat) : Tok := match o with
  | none => ⟨0, [], 0, a⟩
  | some (k, n, v) => ⟨k, l.take n, v, a⟩
def tokAt (l : List UInt8) (a : Nat) : Tok := tokOf (oneL (l.drop a)) (l.drop a) a

theorem runTo_name (l : List UInt8) (a : Nat) : runTo isName l a = a + nameN (l.drop a) := rfl
theorem runTo_dig (l : List UInt8) (a : Nat) : runTo isDig l a = a + digN (l.drop a) := rfl
theorem nameN_le (l : List UInt8) : nameN l ≤ l.length := (List.takeWhile_prefix _).length_le
theorem digN_le (l : List UInt8) : digN l ≤ l.length := (List.takeWhile_prefix _).length_le
theorem numN_le (l : List UInt8) : numN l ≤ l.length := by
  unfold numN
  split
  · rename_i h
    have := digN_le (l.drop (digN l + 1))
    rw [List.length_drop] at this
    have h2 := h.2
    omega
  · exact digN_le l
theorem letter_name {c : UInt8} (h : isLetter c = true) : isName c = true := by unfold isName; rw [h]; rfl
theorem nameN_pos {c : UInt8} {l : List UInt8} (h : isLetter c = true) : 0 < nameN (c :: l) := by
  unfold nameN
  rw [List.takeWhile_cons, if_pos (letter_name h), List.length_cons]
  omega
theorem digN_pos {c : UInt8} {l : List UInt8} (h : isDig c = true) : 0 < digN (c :: l) := by
  unfold digN
  rw [List.takeWhile_cons, if_pos h, List.length_cons]
  omega
theorem numN_pos {c : UInt8} {l : List UInt8} (h : isDig c = true) : 0 < numN (c :: l) := by
  have := digN_pos (l := l) h
  unfold numN
  split <;> omega
theorem signOf_mem {l s : List UInt8} (h : signOf l = some s) : s ∈ signsL ∧ s.isPrefixOf l = true := by
  unfold signOf at h
  exact ⟨List.mem_of_find?_eq_some h, by simpa using List.find?_some h⟩
theorem signs_len {s : List UInt8} (h : s ∈ signsL) : 1 ≤ s.length ∧ s.length ≤ 2 := by
  have : ∀ s ∈ signsL, 1 ≤ s.length ∧ s.length ≤ 2 := by decide
  exact this s h
/-- a token is of some kind, and has bytes -/
theorem oneL_some {l : List UInt8} {k n : Nat} {v : Int} (h : oneL l = some (k, n, v)) : 1 ≤ k ∧ k ≤ 4 ∧ 1 ≤ n ∧ n ≤ l.length := by
  cases l with
  | nil => cases h
  | cons c l =>
    unfold oneL at h
    simp only at h
    split at h
    · rename_i hc
      split at h
      · simp only [Option.some.injEq, Prod.mk.injEq] at h
        obtain ⟨rfl, rfl, rfl⟩ := h
        have h1 := nameN_pos (l := l) hc
        have h2 := nameN_le (c :: l)
        split <;> exact ⟨by omega, by omega, h1, h2⟩
      · cases h
    · split at h
      · rename_i hd
        split at h
        · simp only [Option.some.injEq, Prod.mk.injEq] at h
          obtain ⟨rfl, rfl, rfl⟩ := h
          exact ⟨by omega, by omega, numN_pos hd, numN_le _⟩
        · cases h
      · cases hs : signOf (c :: l) with
        | none => rw [hs] at h; cases h
        | some s =>
          rw [hs] at h
          simp only [Option.map_some, Option.some.injEq, Prod.mk.injEq] at h
          obtain ⟨rfl, rfl, rfl⟩ := h
          obtain ⟨h1, h2⟩ := signOf_mem hs
          have h3 := signs_len h1
          exact ⟨by omega, by omega, h3.1, (List.isPrefixOf_iff_prefix.1 h2).length_le⟩
theorem tokAt_kind (l : List UInt8) (a : Nat) : (tokAt l a).kind = 0 ↔ oneL (l.drop a) = none := by
  unfold tokAt
  cases h : oneL (l.drop a) with
  | none => simp [tokOf]
  | some x =>
    obtain ⟨k, n, v⟩ := x
    have := oneL_some h
    simp only [tokOf, reduceCtorEq, iff_false]
    omega
/-- all tokens from a place on, the gaps ahead of it passed; or those ahead of the first place where none is -/
inductive Toks (l : List UInt8) : Nat → List Tok → Option Nat → Prop
  | fin {a : Nat} (h : l.length ≤ a) : Toks l a [] none
  | bad {a : Nat} (h : a < l.length) (h1 : oneL (l.drop a) = none) : Toks l a [] (some a)
  | tok {a : Nat} {ts : List Tok} {r : Option Nat} (h : a < l.length) (h1 : oneL (l.drop a) ≠ none) (h2 : Toks l (gapTo false l (a + (tokAt l a).text.length)) ts r) : Toks l a (tokAt l a :: ts) r
theorem tokAt_len {l : List UInt8} {a : Nat} (h : oneL (l.drop a) ≠ none) : 1 ≤ (tokAt l a).text.length ∧ a + (tokAt l a).text.length ≤ l.length := by
  unfold tokAt
  cases h1 : oneL (l.drop a) with
  | none => exact absurd h1 h
  | some x =>
    obtain ⟨k, n, v⟩ := x
    have h2 := oneL_some h1
    simp only [tokOf, List.length_take]
    rw [List.length_drop] at *
    omega
theorem toks_total (l : List UInt8) (a : Nat) : ∃ ts r, Toks l a ts r := by
  suffices h : ∀ n a, l.length - a ≤ n → ∃ ts r, Toks l a ts r from h _ a (Nat.le_refl _)
  intro n
  induction n with
  | zero => intro a h; exact ⟨_, _, .fin (by omega)⟩
  | succ n ih =>
    intro a h
    rcases Nat.lt_or_ge a l.length with hlt | hge
    · by_cases h1 : oneL (l.drop a) = none
      · exact ⟨_, _, .bad hlt h1⟩
      · have h2 := tokAt_len h1
        have h3 := gapTo_ge false l (a + (tokAt l a).text.length)
        obtain ⟨ts, r, h4⟩ := ih (gapTo false l (a + (tokAt l a).text.length)) (by omega)
        exact ⟨_, _, .tok hlt h1 h4⟩
    · exact ⟨_, _, .fin hge⟩
/-- what is there, and no more -/
theorem toks_one {l : List UInt8} {a : Nat} {ts us : List Tok} {r q : Option Nat} (h : Toks l a ts r) (k : Toks l a us q) : ts = us ∧ r = q := by
  induction h generalizing us q with
  | fin h =>
    cases k with
    | fin => exact ⟨rfl, rfl⟩
    | bad h1 => omega
    | tok h1 => omega
  | bad h h1 =>
    cases k with
    | fin h2 => omega
    | bad => exact ⟨rfl, rfl⟩
    | tok _ h2 => exact absurd h1 h2
  | tok h h1 h2 ih =>
    cases k with
    | fin h3 => omega
    | bad _ h3 => exact absurd h3 h1
    | tok _ _ h3 =>
      obtain ⟨rfl, rfl⟩ := ih h3
      exact ⟨rfl, rfl⟩
/-- a text's tokens, or those ahead of a fault -/
def lexT (l : List UInt8) (ts : List Tok) (r : Option Nat) : Prop := Toks l (gapTo false l 0) ts r
theorem toks_place {l : List UInt8} {a f : Nat} {ts : List Tok} (h : Toks l a ts (some f)) : a ≤ f ∧ f < l.length := by
  generalize hr : some f = r at h
  induction h with
  | fin => cases hr
  | bad h => cases hr; exact ⟨Nat.le_refl _, h⟩
  | @tok a ts r h h1 h2 ih =>
    have h3 := gapTo_ge false l (a + (tokAt l a).text.length)
    have h4 := ih hr
    omega
theorem toks_count {l : List UInt8} {a : Nat} {ts : List Tok} {r : Option Nat} (h : Toks l a ts r) : ts.length + a ≤ max a l.length := by
  induction h with
  | fin h => simp; omega
  | bad h => simp; omega
  | @tok a ts r h h1 h2 ih =>
    have h3 := gapTo_ge false l (a + (tokAt l a).text.length)
    have h4 := tokAt_len h1
    have h5 := gapTo_le false (l := l) (a := a + (tokAt l a).text.length) h4.2
    simp only [List.length_cons]
    omega
end Go.Proofs.YtlbhlncipajapaaGreatDoor.Lx
namespace Go.Proofs.YtlbhlncipajapaaGreatDoor.Lx
open Go.RowKit

/-- a reader's words and classes -/
def Reader (w : World) (b : Nat) (v1 v2 v3 v4 v5 : Value) : Prop :=
  WordMap w b ∧ ClassAt w v1 isBlank ∧ ClassAt w v2 isComment ∧ ClassAt w v3 isDig ∧ ClassAt w v4 isLetter ∧ ClassAt w v5 isName
theorem Reader.mono {w w' : World} {b : Nat} {v1 v2 v3 v4 v5 : Value} (h : Reader w b v1 v2 v3 v4 v5) (hb : Below w.heap.size w w') : Reader w' b v1 v2 v3 v4 v5 :=
  ⟨h.1.below hb h.1.1, h.2.1.mono hb, h.2.2.1.mono hb, h.2.2.2.1.mono hb, h.2.2.2.2.1.mono hb, h.2.2.2.2.2.mono hb⟩
theorem ReadAt.drew {w : World} {g : Nat} {s m v1 v2 v3 v4 v5 : Value} (h : ReadAt w g s m v1 v2 v3 v4 v5) : ReadAt w.drew g s m v1 v2 v3 v4 v5 := h
/-- a token comes back -/
def TokPost (t : Tok) (w : World) (e : Ending) (w' : World) : Prop := e = .returned (tokV t) ∧ Below w.heap.size w w'
theorem slice_str (l : List UInt8) (a b : Nat) : (str l).extract a b = str ((l.drop a).take (b - a)) := by
  rw [str_slice]
  congr 1
  rw [List.take_drop]
  by_cases h : a ≤ b
  · rw [show a + (b - a) = b by omega]
  · rw [List.drop_eq_nil_of_le (by rw [List.length_take]; omega), List.drop_eq_nil_of_le (by rw [List.length_take]; omega)]
/-- a place for a token lies in block g, and may be written -/
def RoomAt (w : World) (g : Nat) : Prop :=
  w.cell? ⟨g, 0, none⟩ = some (.int .i64 0) ∧ w.cell? ⟨g, 1, none⟩ = some (.string ⟨#[]⟩) ∧ w.cell? ⟨g, 2, none⟩ = some (.int .i64 0) ∧ w.cell? ⟨g, 3, none⟩ = some (.int .i64 0) ∧
  w.frozen? ⟨g, 0, none⟩ = false ∧ w.frozen? ⟨g, 1, none⟩ = false ∧ w.frozen? ⟨g, 2, none⟩ = false ∧ w.frozen? ⟨g, 3, none⟩ = false
theorem RoomAt.below {w w' : World} {g B : Nat} (h : RoomAt w g) (hb : Below B w w') (hg : g < B) : RoomAt w' g :=
  ⟨(hb.cell (p := ⟨g, 0, none⟩) hg).trans h.1, (hb.cell (p := ⟨g, 1, none⟩) hg).trans h.2.1, (hb.cell (p := ⟨g, 2, none⟩) hg).trans h.2.2.1, (hb.cell (p := ⟨g, 3, none⟩) hg).trans h.2.2.2.1,
   (hb.frozen (p := ⟨g, 0, none⟩) hg).trans h.2.2.2.2.1, (hb.frozen (p := ⟨g, 1, none⟩) hg).trans h.2.2.2.2.2.1, (hb.frozen (p := ⟨g, 2, none⟩) hg).trans h.2.2.2.2.2.2.1, (hb.frozen (p := ⟨g, 3, none⟩) hg).trans h.2.2.2.2.2.2.2⟩
theorem roomAt_new (w : World) (T : TypeId) : RoomAt (w.alloc (.cells #[.int .i64 0, .string ⟨#[]⟩, .int .i64 0, .int .i64 0] T)) w.heap.size :=
  ⟨by rw [World.cell?_alloc_new]; rfl, by rw [World.cell?_alloc_new]; rfl, by rw [World.cell?_alloc_new]; rfl, by rw [World.cell?_alloc_new]; rfl,
   World.frozen?_alloc_new _ _ _ _, World.frozen?_alloc_new _ _ _ _, World.frozen?_alloc_new _ _ _ _, World.frozen?_alloc_new _ _ _ _⟩
theorem RoomAt.drew {w : World} {g : Nat} (h : RoomAt w g) : RoomAt w.drew g := h
theorem below_four {B g : Nat} {w w1 : World} (h : Below B w w1) (hg : B ≤ g) (x0 x1 x2 x3 : Value) : Below B w ((((w1.setCell ⟨g, 0, none⟩ x0).setCell ⟨g, 1, none⟩ x1).setCell ⟨g, 2, none⟩ x2).setCell ⟨g, 3, none⟩ x3) :=
  (((h.setCell (p := ⟨g, 0, none⟩) hg _).setCell (p := ⟨g, 1, none⟩) hg _).setCell (p := ⟨g, 2, none⟩) hg _).setCell (p := ⟨g, 3, none⟩) hg _
set_option maxHeartbeats 4000000 in
theorem name_core (l : List UInt8) (n : Nat) (hn : Hid (l.length = n)) (nl : (n : Int) ≤ 30000) (hs : (str l).size = n) (b : Nat) (v1 v2 v3 v4 v5 : Value) (a : Nat) (ha : a ≤ n) (w : World) (hr : Hid (Reader w b v1 v2 v3 v4 v5))
    (x : Nat) (hx : Hid (runTo isName l a = x)) (hax : a ≤ x) (hxn : x ≤ n) (T : ByteArray) (hT : (str l).extract a x = T) (m : Nat) (hm : T.size = m) (hmE : Hid (m = x - a ∧ T = str ((l.drop a).take m))) (ml : (m : Int) ≤ 30000) (TN : Hid (16 < m → tokAt l a = ⟨0, [], 0, a⟩)) (TW : Hid (m ≤ 16 → tokAt l a = ⟨if wordIn T = true then 3 else 1, (l.drop a).take m, 0, a⟩)) :
    Calls Tryz.prog 99 #[.agg #[.string (str l), .map (some b), v1, v2, v3, v4, v5], .int .i64 (a : Int)] w fun e w' => TokPost (tokAt l a) w e w' := by
  have B1 : Hid (∀ (w' : World), Below w.heap.size w w' → Calls Tryz.prog 98 #[.agg #[.string (str l), .map (some b), v1, v2, v3, v4, v5], .int .i64 (a : Int), v5] w' fun e w'' => NumPost x w' e w'') :=
    Lib.hid fun w' hb => by have := behind_any l (by have := hn.out; omega) (.map (some b)) v1 v2 v3 v4 v5 v5 isName a (by have := hn.out; omega) w' (hr.out.2.2.2.2.2.mono hb); rwa [hx.out] at this
  have hTE := Lib.hid hT
  have x1 : (0 : Int) ≤ (a : Int) := by omega
  have x2 : (a : Int) ≤ (x : Int) := by omega
  have x3 : (x : Int) ≤ (n : Int) := by omega
  have hb0 := Lib.hid (((Below.refl w.heap.size w).alloc (Nat.le_refl _) (.cells #[.string (str l), .map (some b), v1, v2, v3, v4, v5] 118)).alloc (by simp) (.cells #[.int .i64 0, .string ⟨#[]⟩, .int .i64 0, .int .i64 0] 43))
  have hR0 := Lib.hid (ReadAt.drew <| (readAt_new w (.string (str l)) (.map (some b)) v1 v2 v3 v4 v5 118).below ((Below.refl (w.heap.size + 1) _).alloc (by simp) (.cells #[.int .i64 0, .string ⟨#[]⟩, .int .i64 0, .int .i64 0] 43)) (Nat.lt_succ_self _))
  have hM0 := Lib.hid (RoomAt.drew (by have := roomAt_new (w.alloc (.cells #[.string (str l), .map (some b), v1, v2, v3, v4, v5] 118)) 43; rwa [World.size_alloc] at this))
  go_enter Tryz.func99, Tryz.ntmps99
  go_wp2_with fail
  go_region_held3 (fun w' => w'.cell? ⟨w.heap.size, 0, none⟩ = some (.string (str l)) ∧ w'.cell? ⟨w.heap.size, 1, none⟩ = some (.map (some b)) ∧ w'.cell? ⟨w.heap.size, 2, none⟩ = some v1 ∧ w'.cell? ⟨w.heap.size, 3, none⟩ = some v2 ∧ w'.cell? ⟨w.heap.size, 4, none⟩ = some v3 ∧ w'.cell? ⟨w.heap.size, 5, none⟩ = some v4 ∧ w'.cell? ⟨w.heap.size, 6, none⟩ = some v5)
    ((repeat' apply And.intro) <;> first | assumption | go_keep)
    (first | (go_at_call 98; (with_reducible refine (B1.out _ (by exact hb0.out.drew)).mono ?_); rintro e w1 ⟨rfl, hb1⟩; obtain ⟨dS, d1, d2, d3, d4, d5, d6⟩ := hR0.out.below hb1 (by simp; omega); obtain ⟨r0, r1, r2, r3, f0, f1, f2, f3⟩ := hM0.out.below hb1 (by simp); have HB1 := Lib.hid hb1; clear hb1))
  by_cases h16 : (16 : Int) < (m : Int)
  · have q1 : decide ((16 : Int) < (m : Int)) = true := decide_eq_true h16
    go_wp2_with fail
    rw [TN.out (by omega)]
    exact bodyPost_ret (v := tokV ⟨0, [], 0, a⟩) (by simp [results, Tryz.results99, go_sem, r0, r1, r2, r3, tokV, str_nil]) rfl ⟨rfl, below_four (hb0.out.drew.trans (HB1.out.mono (by simp; omega))) (Nat.le_succ _) _ _ _ _⟩
  · have q1 : decide ((16 : Int) < (m : Int)) = false := decide_eq_false h16
    have hbw := Lib.hid (hb0.out.drew.trans (HB1.out.mono (by simp; omega)))
    obtain ⟨hlt, nD, D, hD, hh⟩ := hr.out.1.below hbw.out hr.out.1.1
    have HD := Lib.hid hD
    have HH := Lib.hid (show Maps.has D (.string T.data.toList) = wordIn T from hh T.data.toList)
    have hkey := Lib.hid (key_str T (by unfold maxLen; omega))
    clear hh hD hlt
    have hsz : Hid (w.heap.size + 1 < w1.heap.size) := Lib.hid (by have := HB1.out.size; simp at this; omega)
    have hTW := Lib.hid (TW.out (by omega))
    have hba := Lib.hid (hbw.out.alloc hbw.out.size (.cells #[] 137))
    obtain ⟨s0, s1, s2, s3, g0, g1, g2, g3⟩ := (show RoomAt w1 (w.heap.size + 1) from ⟨r0, r1, r2, r3, f0, f1, f2, f3⟩).below ((Below.refl w1.heap.size w1).alloc (Nat.le_refl _) (.cells #[] 137)) hsz.out
    cases hW : wordIn T with
    | true =>
      rw [hW] at HH
      have HWt := Lib.hid (show tokAt l a = ⟨3, (l.drop a).take m, 0, a⟩ by rw [hTW.out, hW]; rfl)
      clear hW hTW
      go_wp2_with (at_lookup; refine wpList_lookup_own_unit _ rfl _ _ 115 rfl 9 137 str_keyed Tryz.underlying115 (zero_unit _) b nD D rfl HD.out _ _ rfl hkey.out ?_; rw [HH.out])
      rw [HWt.out]
      refine bodyPost_ret (v := tokV ⟨3, (l.drop a).take m, 0, a⟩) (by simp [results, Tryz.results99, go_sem, s0, s1, s2, s3, tokV, hmE.out.2]) rfl ⟨rfl, ?_⟩
      exact below_four hba.out (Nat.le_succ _) _ _ _ _
    | false =>
      rw [hW] at HH
      have HWt := Lib.hid (show tokAt l a = ⟨1, (l.drop a).take m, 0, a⟩ by rw [hTW.out, hW]; rfl)
      clear hW hTW
      go_wp2_with (at_lookup; refine wpList_lookup_own_unit _ rfl _ _ 115 rfl 9 137 str_keyed Tryz.underlying115 (zero_unit _) b nD D rfl HD.out _ _ rfl hkey.out ?_; rw [HH.out])
      rw [HWt.out]
      refine bodyPost_ret (v := tokV ⟨1, (l.drop a).take m, 0, a⟩) (by simp [results, Tryz.results99, go_sem, s0, s1, s2, s3, tokV, hmE.out.2]) rfl ⟨rfl, ?_⟩
      exact below_four hba.out (Nat.le_succ _) _ _ _ _
theorem tokAt_name {l : List UInt8} {a : Nat} {c : UInt8} (hc : l[a]? = some c) (h : isLetter c = true) :
    tokAt l a = if nameN (l.drop a) ≤ 16 then ⟨if wordL ((l.drop a).take (nameN (l.drop a))) = true then 3 else 1, (l.drop a).take (nameN (l.drop a)), 0, a⟩ else ⟨0, [], 0, a⟩ := by
  unfold tokAt oneL
  rw [drop_cons hc]
  simp only [h, if_true]
  split <;> rfl
theorem name_any (l : List UInt8) (nl : l.length ≤ 30000) (b : Nat) (v1 v2 v3 v4 v5 : Value) (a : Nat) (c : UInt8) (hc : l[a]? = some c) (h : isLetter c = true) (w : World) (hr : Reader w b v1 v2 v3 v4 v5) :
    Calls Tryz.prog 99 #[.agg #[.string (str l), .map (some b), v1, v2, v3, v4, v5], .int .i64 (a : Int)] w fun e w' => TokPost (tokAt l a) w e w' := by
  have ha : a < l.length := (List.getElem?_eq_some_iff.1 hc).1
  have ht := tokAt_name hc h
  have hl : ((l.drop a).take (nameN (l.drop a))).length = nameN (l.drop a) := by rw [List.length_take]; have := nameN_le (l.drop a); omega
  have hle := runTo_le isName (Nat.le_of_lt ha)
  have e : (str l).extract a (runTo isName l a) = str ((l.drop a).take (nameN (l.drop a))) := by
    rw [slice_str, runTo_name]; congr 2; omega
  refine name_core l _ (Lib.hid rfl) (by omega) (str_size l) b v1 v2 v3 v4 v5 a (by omega) w (Lib.hid hr) _ (Lib.hid rfl) (runTo_ge _ _ _) hle _ e (nameN (l.drop a)) (by rw [str_size, hl]) (Lib.hid ⟨by rw [runTo_name]; omega, rfl⟩) (by have := nameN_le (l.drop a); rw [List.length_drop] at this; omega) (Lib.hid fun hh => ?_) (Lib.hid fun hh => ?_)
  · rw [ht, if_neg (by omega)]
  · rw [ht, if_pos hh]; unfold wordIn; rw [str_data]
end Go.Proofs.YtlbhlncipajapaaGreatDoor.Lx
