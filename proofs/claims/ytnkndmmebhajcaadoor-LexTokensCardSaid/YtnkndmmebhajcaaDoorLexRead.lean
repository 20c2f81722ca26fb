/- dec.read, dec.Parse, dec.Signed. -/
import Derived.Test.YtnkndmmebhajcaaDoorLexBits
namespace Go.Proofs.YtnkndmmebhajcaaDoor
open Go.RowKit

theorem litL_parts {l : List UInt8} (h : litL l = true) : 1 ≤ (ahead l).length ∧ (ahead l).length ≤ 10 ∧ (ahead l).all isDig = true ∧ (behind l).length ≤ 40 ∧ (behind l).all isDig = true := by
  unfold litL digitsL at h
  simp only [Bool.and_eq_true, decide_eq_true_eq, Bool.or_eq_true, Bool.not_eq_true'] at h
  obtain ⟨⟨h1, h2, h3⟩, _, h4⟩ := h
  refine ⟨h1, h2, h3, ?_⟩
  rcases h4 with h4 | ⟨_, h4, h5⟩
  · have : behind l = [] := behind_none l (by unfold pointed at h4; simpa using h4)
    rw [this]; simp
  · exact ⟨h4, h5⟩
theorem numL_le (l : List UInt8) (h : l.all isDig = true) (hl : l.length ≤ 10) : numL l < 10000000000 := by
  have h1 := numL_lt l h
  have h2 : 10 ^ l.length ≤ 10 ^ 10 := Nat.pow_le_pow_right (by omega) hl
  omega
theorem all_take {l : List UInt8} (h : l.all isDig = true) (k : Nat) : (l.take k).all isDig = true := List.all_eq_true.2 fun y hy => List.all_eq_true.1 h y (List.mem_of_mem_take hy)

set_option maxHeartbeats 4000000 in
theorem read_none (l : List UInt8) (A B : ByteArray) (w : World) (C : Hid (Calls Tryd.prog 66 #[.string (str l)] w fun e w' => e = .returned (.tuple #[.string A, .string B, .bool false]) ∧ Below w.heap.size w w')) :
    Calls Tryd.prog 62 #[.string (str l)] w fun e w' => e = .returned (.tuple #[.int .u64 0, .bool false]) ∧ Below w.heap.size w w' := by
  go_enter Tryd.func62, Tryd.ntmps62
  go_wp2_with (go_at_call 66; refine C.out.mono ?_; rintro e w' ⟨rfl, hb⟩)
  go_ret2
  exact ⟨rfl, hb⟩
set_option maxHeartbeats 4000000 in
theorem read_some (l a b : List UInt8) (n : Nat) (hn : a.length = n) (hn1 : (n : Int) ≤ 10) (hd : a.all isDig = true) (V P : Nat) (hV : V = numL a) (w : World)
    (C : Hid (Calls Tryd.prog 66 #[.string (str l)] w fun e w' => e = .returned (.tuple #[.string (str a), .string (str b), .bool true]) ∧ Below w.heap.size w w'))
    (D : Hid (∀ w, Calls Tryd.prog 67 #[.string (str b)] w fun e w' => e = .returned (.int .u64 (P : Int)) ∧ Below w.heap.size w w')) (hP : (P : Int) ≤ 4294967295) :
    Calls Tryd.prog 62 #[.string (str l)] w fun e w' =>
      e = .returned (.tuple #[.int .u64 (if V ≤ 2147483648 then ((V * 4294967296 + P : Nat) : Int) else 0), .bool (decide (V ≤ 2147483648 ∧ V * 4294967296 + P ≤ 9223372036854775808))]) ∧ Below w.heap.size w w' := by
  have hs := str_size a
  rw [hn] at hs
  have HN := Lib.hid hn
  have HD := Lib.hid hd
  have HV := Lib.hid hV
  have hV1 : V < 10000000000 := by rw [hV]; exact numL_le a hd (by omega)
  clear hn hd hV
  obtain ⟨Z, hZ⟩ : ∃ Z, Z = (if V ≤ 2147483648 then ((V * 4294967296 + P : Nat) : Int) else 0) := ⟨_, rfl⟩
  obtain ⟨O, hO⟩ : ∃ O, O = decide (V ≤ 2147483648 ∧ V * 4294967296 + P ≤ 9223372036854775808) := ⟨_, rfl⟩
  rw [← hZ, ← hO]
  have ZE := Lib.hid hZ
  have OE := Lib.hid hO
  clear hZ hO
  go_enter Tryd.func62, Tryd.ntmps62
  go_wp2_with (go_at_call 66; refine C.out.mono ?_; rintro e w1 ⟨rfl, hb⟩; have HB := Lib.hid hb; clear hb)
  go_loop [20, 7] (fun x y => ∃ k : Nat, k ≤ n ∧ x = .int .i64 k ∧ y = .int .u64 (numL (a.take k) : Nat)) (fun x _ => n - litLen x)
  case atStart => exact ⟨0, by omega, rfl, rfl⟩
  case round =>
    obtain ⟨k, hk, rfl, rfl⟩ := hrel
    rcases Nat.lt_or_ge k n with hlt | hge
    · obtain ⟨c, hc⟩ : ∃ c, a[k]? = some c := ⟨a[k]'(by have := HN.out; omega), List.getElem?_eq_getElem _⟩
      have hix : ∀ h, (str a)[k]'h = c := fun h => str_at a hc h
      have q3 : decide ((k : Int) < (n : Int)) = true := decide_eq_true (by omega)
      have hcd := isDig_iff.1 (List.all_eq_true.1 HD.out c (List.mem_of_getElem? hc))
      have hnx : numL (a.take (k + 1)) = numL (a.take k) * 10 + (c.toNat - 48) := by rw [take_at hc, numL_snoc]
      have h1 := numL_le _ (all_take HD.out k) (by rw [List.length_take]; omega)
      have h2 := numL_le _ (all_take HD.out (k + 1)) (by rw [List.length_take]; omega)
      have NX := Lib.hid hnx
      obtain ⟨X, hX⟩ : ∃ X, X = c.toNat := ⟨_, rfl⟩
      rw [← hX] at hcd hnx
      obtain ⟨y, hy⟩ : ∃ y, y = X - 48 := ⟨_, rfl⟩
      rw [← hy] at hnx
      obtain ⟨v, hv⟩ : ∃ v, v = numL (a.take k) := ⟨_, rfl⟩
      rw [← hv] at hnx h1 ⊢
      obtain ⟨v2, hv2⟩ : ∃ v2, v2 = numL (a.take (k + 1)) := ⟨_, rfl⟩
      rw [← hv2] at hnx h2
      have V2 := Lib.hid hv2
      have e0 : (X : Int) - 48 = (y : Int) := by omega
      have e1 : (v : Int) * 10 + (y : Int) = (v2 : Int) := by omega
      have b0 : (48 : Int) ≤ (X : Int) := by omega
      have b1 : (X : Int) ≤ 57 := by omega
      have b2 : (v : Int) ≤ 9999999999 := by omega
      have b3 : (v2 : Int) ≤ 9999999999 := by omega
      have b4 : (y : Int) ≤ 9 := by omega
      have hX2 : c.toNat = X := hX.symm
      clear hX hy hv hv2 hnx h1 h2 hcd hc NX
      go_wp2_with fail
      exact ⟨⟨k + 1, by omega, rfl, by rw [V2.out]⟩, by simp [litLen]; omega⟩
    · have q3 : decide ((k : Int) < (n : Int)) = false := decide_eq_false (by omega)
      have hv : numL (a.take k) = V := by rw [show k = a.length by rw [HN.out]; omega, List.take_length, HV.out]
      rw [hv]
      by_cases hg : (2147483648 : Int) < (V : Int)
      · have q5 : decide ((2147483648 : Int) < (V : Int)) = true := decide_eq_true hg
        go_wp2_with fail
        go_ret2
        have e1 := ZE.out; have e2 := OE.out
        rw [if_neg (by omega)] at e1; rw [decide_eq_false (by omega)] at e2
        exact ⟨by rw [e1, e2]; rfl, HB.out⟩
      · have q5 : decide ((2147483648 : Int) < (V : Int)) = false := decide_eq_false hg
        obtain ⟨H, hH⟩ : ∃ H : Nat, H = 2 ^ 32 * V := ⟨_, rfl⟩
        obtain ⟨S, hS⟩ : ∃ S : Nat, S = V * 4294967296 + P := ⟨_, rfl⟩
        have w1 : IntKind.u64.wrap ((V : Int) * 4294967296) = (H : Int) := by rw [IntKind.wrap_u64]; omega
        have o1 : bits .or .u64 (H : Int) (P : Int) = (S : Int) := by rw [hH, or_low 32 V P (by omega) (by omega) (by omega)]; omega
        have e1 := ZE.out; have e2 := OE.out
        rw [if_pos (by omega), ← hS] at e1
        rw [← hS] at e2
        have E1 := Lib.hid e1
        clear e1 hH ZE
        by_cases hq : (S : Int) ≤ 9223372036854775808
        · have q6 : decide ((S : Int) ≤ 9223372036854775808) = true := decide_eq_true hq
          rw [decide_eq_true (by omega)] at e2
          have E2 := Lib.hid e2
          clear e2 OE hS
          go_wp2_with (go_at_call 67; refine (D.out _).mono ?_; rintro e w2 ⟨rfl, hb2⟩)
          go_ret2
          exact ⟨by rw [E1.out, E2.out]; rfl, HB.out.trans (hb2.mono HB.out.size)⟩
        · have q6 : decide ((S : Int) ≤ 9223372036854775808) = false := decide_eq_false hq
          rw [decide_eq_false (by omega)] at e2
          have E2 := Lib.hid e2
          clear e2 OE hS
          go_wp2_with (go_at_call 67; refine (D.out _).mono ?_; rintro e w2 ⟨rfl, hb2⟩)
          go_ret2
          exact ⟨by rw [E1.out, E2.out]; rfl, HB.out.trans (hb2.mono HB.out.size)⟩

theorem read_dec (l : List UInt8) (w : World) (hl : (l.length : Int) ≤ 9223372036854775807) :
    Calls Tryd.prog 62 #[.string (str l)] w fun e w' => e = .returned (.tuple #[.int .u64 ((readL l).1 : Int), .bool (readL l).2]) ∧ Below w.heap.size w w' := by
  have C := cut_dec l w hl
  by_cases h : litL l = true
  · obtain ⟨h1, h2, h3, h4, h5⟩ := litL_parts h
    refine (read_some l (ahead l) (behind l) _ rfl (by omega) h3 _ (bitsL (behind l)) rfl w (Lib.hid (C.mono fun e w' ⟨he, hb⟩ => ⟨by rw [he, h]; rfl, hb⟩)) (Lib.hid fun w => bits_behind (behind l) (by omega) h5 w) (by have := bitsL_lt _ h5; omega)).mono fun e w' ⟨he, hb⟩ => ⟨?_, hb⟩
    rw [he]
    unfold readL sizeL
    by_cases hv : numL (ahead l) ≤ 2147483648
    · rw [if_pos hv, if_pos ⟨h, hv⟩]; simp [hv]
    · rw [if_neg hv, if_neg (fun hh => hv hh.2)]; simp [hv]
  · have h' : litL l = false := by simpa using h
    refine (read_none l _ _ w (Lib.hid (C.mono fun e w' ⟨he, hb⟩ => ⟨by rw [he, h'], hb⟩))).mono fun e w' ⟨he, hb⟩ => ⟨?_, hb⟩
    rw [he]
    unfold readL
    rw [if_neg (fun hh => h hh.1)]
    rfl

/-- what Parse answers -/
def parseL (l : List UInt8) : Nat × Bool := if (readL l).2 = true ∧ (readL l).1 ≤ 9223372036854775807 then ((readL l).1, true) else (0, false)
theorem parse_core (S : ByteArray) (z : Nat) (o : Bool) (Z : Nat) (O : Bool) (hz : (z : Int) ≤ 18446744073709551615) (hr : (Z, O) = if o = true ∧ z ≤ 9223372036854775807 then (z, true) else (0, false)) (w : World)
    (C : Hid (Calls Tryd.prog 62 #[.string S] w fun e w' => e = .returned (.tuple #[.int .u64 (z : Int), .bool o]) ∧ Below w.heap.size w w')) :
    Calls Tryd.prog 56 #[.string S] w fun e w' => e = .returned (.tuple #[.int .i64 (Z : Int), .bool O]) ∧ Below w.heap.size w w' := by
  cases o with
  | false =>
    simp only [Bool.false_eq_true, false_and, if_false, Prod.mk.injEq] at hr
    obtain ⟨rfl, rfl⟩ := hr
    go_enter Tryd.func56, Tryd.ntmps56
    go_wp2_with (go_at_call 62; refine C.out.mono ?_; rintro e w' ⟨rfl, hb⟩)
    go_ret2
    exact ⟨rfl, hb⟩
  | true =>
    by_cases h : (9223372036854775807 : Int) < (z : Int)
    · have q1 : decide ((9223372036854775807 : Int) < (z : Int)) = true := decide_eq_true h
      rw [if_neg (by omega)] at hr
      simp only [Prod.mk.injEq] at hr
      obtain ⟨rfl, rfl⟩ := hr
      go_enter Tryd.func56, Tryd.ntmps56
      go_wp2_with (go_at_call 62; refine C.out.mono ?_; rintro e w' ⟨rfl, hb⟩)
      go_ret2
      exact ⟨rfl, hb⟩
    · have q1 : decide ((9223372036854775807 : Int) < (z : Int)) = false := decide_eq_false h
      have q2 : (z : Int) ≤ 9223372036854775807 := by omega
      rw [if_pos ⟨rfl, by omega⟩] at hr
      simp only [Prod.mk.injEq] at hr
      obtain ⟨rfl, rfl⟩ := hr
      go_enter Tryd.func56, Tryd.ntmps56
      go_wp2_with (go_at_call 62; refine C.out.mono ?_; rintro e w' ⟨rfl, hb⟩)
      go_ret2
      exact ⟨rfl, hb⟩
theorem readL_le (l : List UInt8) : (readL l).1 < 18446744073709551616 := by
  unfold readL
  split
  · rename_i h
    have := bitsL_lt _ (litL_parts h.1).2.2.2.2
    show sizeL l < _
    unfold sizeL
    omega
  · show 0 < _
    omega
theorem parse_dec (l : List UInt8) (w : World) (hl : (l.length : Int) ≤ 9223372036854775807) :
    Calls Tryd.prog 56 #[.string (str l)] w fun e w' => e = .returned (.tuple #[.int .i64 ((parseL l).1 : Int), .bool (parseL l).2]) ∧ Below w.heap.size w w' :=
  parse_core (str l) _ _ _ _ (by have := readL_le l; omega) rfl w (Lib.hid (read_dec l w hl))
end Go.Proofs.YtnkndmmebhajcaaDoor
