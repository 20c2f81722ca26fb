/- dec.digits, strings.Cut at a point, dec.cut. -/
import Derived.Test.YtnkndmmebhajcaaDoorLexKit
namespace Go.Proofs.YtnkndmmebhajcaaDoor
open Go.RowKit

theorem no_dig {l : List UInt8} {k : Nat} {c : UInt8} (h : l[k]? = some c) (hc : isDig c = false) : l.all isDig = false := by
  rw [List.all_eq_false]
  exact ⟨c, List.mem_of_getElem? h, by rw [hc]; simp⟩
set_option maxHeartbeats 4000000 in
theorem digits_dec (l : List UInt8) (most : Nat) (w : World) (hl : (l.length : Int) ≤ 9223372036854775807) (hm : (most : Int) ≤ 100) :
    Calls Tryd.prog 69 #[.string (str l), .int .i64 (most : Int)] w fun e w' => e = .returned (.bool (digitsL l most)) ∧ w' = w := by
  have hs := str_size l
  obtain ⟨n, hn⟩ : ∃ n, n = l.length := ⟨_, rfl⟩
  rw [← hn] at hs hl
  have N := Lib.hid hn
  have S := Lib.hid hs
  obtain ⟨R, hR⟩ : ∃ R, R = digitsL l most := ⟨_, rfl⟩
  rw [← hR]
  have RE := Lib.hid hR
  clear hR hn
  by_cases h1 : (n : Int) < 1
  · have q1 : decide ((n : Int) < 1) = true := decide_eq_true h1
    go_enter Tryd.func69, Tryd.ntmps69
    go_wp2_with fail
    go_ret
    exact ⟨by rw [RE.out]; unfold digitsL; rw [decide_eq_false (by have := N.out; omega)]; rfl, rfl⟩
  · have q1 : decide ((n : Int) < 1) = false := decide_eq_false h1
    by_cases h2 : (most : Int) < (n : Int)
    · have q2 : decide ((most : Int) < (n : Int)) = true := decide_eq_true h2
      go_enter Tryd.func69, Tryd.ntmps69
      go_wp2_with fail
      go_ret
      exact ⟨by rw [RE.out]; unfold digitsL; rw [decide_eq_false (p := l.length ≤ most) (by have := N.out; omega)]; simp, rfl⟩
    · have q2 : decide ((most : Int) < (n : Int)) = false := decide_eq_false h2
      have hR : R = l.all isDig := by rw [RE.out]; unfold digitsL; rw [decide_eq_true (p := l.length ≤ most) (by have := N.out; omega), decide_eq_true (by have := N.out; omega)]; simp
      have RE2 := Lib.hid hR
      clear hR RE
      go_enter Tryd.func69, Tryd.ntmps69
      go_wp2_with fail
      go_loop [17] (fun x => ∃ k : Nat, k ≤ n ∧ Hid ((l.take k).all isDig = true) ∧ x = .int .i64 k) (fun x => n - litLen x)
      case atStart => exact ⟨0, by omega, Lib.hid rfl, rfl⟩
      case round =>
        obtain ⟨k, hk, hd, rfl⟩ := hrel
        rcases Nat.lt_or_ge k n with hlt | hge
        · obtain ⟨c, hc⟩ : ∃ c, l[k]? = some c := ⟨l[k]'(by have := N.out; omega), List.getElem?_eq_getElem _⟩
          have hix : ∀ h, (str l)[k]'h = c := fun h => str_at l hc h
          have T := Lib.hid (take_at hc)
          have C := Lib.hid hc
          clear hc
          have q3 : decide ((k : Int) < (n : Int)) = true := decide_eq_true (by omega)
          have cl : (c.toNat : Int) ≤ 255 := by have := c.toNat_lt; omega
          by_cases d1 : (c.toNat : Int) < 48
          · have d1' : decide ((c.toNat : Int) < 48) = true := decide_eq_true d1
            go_wp2_with fail
            go_ret
            exact ⟨by rw [RE2.out, no_dig C.out (by unfold isDig; simp; omega)]; rfl, rfl⟩
          · have d1' : decide ((c.toNat : Int) < 48) = false := decide_eq_false d1
            by_cases d2 : (57 : Int) < (c.toNat : Int)
            · have d2' : decide ((57 : Int) < (c.toNat : Int)) = true := decide_eq_true d2
              go_wp2_with fail
              go_ret
              exact ⟨by rw [RE2.out, no_dig C.out (by unfold isDig; simp; omega)]; rfl, rfl⟩
            · have d2' : decide ((57 : Int) < (c.toNat : Int)) = false := decide_eq_false d2
              go_wp2_with fail
              exact ⟨⟨k + 1, by omega, Lib.hid (by rw [T.out, List.all_append, hd.out]; simp; exact isDig_iff.2 (by omega)), rfl⟩, by simp [litLen]; omega⟩
        · have q3 : decide ((k : Int) < (n : Int)) = false := decide_eq_false (by omega)
          go_wp2_with fail
          go_ret
          exact ⟨by rw [RE2.out, ← hd.out, show k = l.length by rw [← N.out]; omega, List.take_length]; rfl, rfl⟩

/-! ### strings.Cut at a point -/
theorem index_point (a b : List UInt8) (h : 46 ∉ a) : Lib.indexByte (a ++ 46 :: b) 46 = (a.length : Int) := by
  induction a with
  | nil => rfl
  | cons c a ih =>
    simp only [List.mem_cons, not_or] at h
    have hc : (c == 46) = false := beq_false_of_ne (fun e => h.1 e.symm)
    simp only [List.cons_append, Lib.indexByte, hc, ih h.2]
    have : ((a.length : Int) == -1) = false := beq_false_of_ne (by omega)
    simp [this]
theorem index_none (a : List UInt8) (h : 46 ∉ a) : Lib.indexByte a 46 = -1 := by
  induction a with
  | nil => rfl
  | cons c a ih =>
    simp only [List.mem_cons, not_or] at h
    have hc : (c == 46) = false := beq_false_of_ne (fun e => h.1 e.symm)
    simp [Lib.indexByte, hc, ih h.2]
set_option maxHeartbeats 4000000 in
theorem cut_inner (l : List UInt8) (w : World) (hl : (l.length : Int) ≤ 9223372036854775807) :
    Calls Tryd.prog 71 #[.string (str l), .string ⟨#[46]⟩] w fun e w' => e = .returned (.tuple #[.string (str (ahead l)), .string (str (behind l)), .bool (pointed l)]) ∧ Below w.heap.size w w' := by
  rcases part_cases l with h | ⟨a, b, rfl, h⟩
  · have hI := Tryd.stringslite_Index_one (str l) 46 w
    rw [str_data, index_none l h] at hI
    rw [ahead_none l h, behind_none l h, show pointed l = false by unfold pointed; simpa using h]
    have H := Lib.hid hI
    clear hI
    go_enter Tryd.func71, Tryd.ntmps71
    go_wp2_with (go_at_call 48; refine H.out.mono ?_; rintro e w' ⟨rfl, rfl⟩)
    go_ret3
    exact ⟨rfl, Below.refl _ _⟩
  · have hI := Tryd.stringslite_Index_one (str (a ++ 46 :: b)) 46 w
    rw [str_data, index_point a b h] at hI
    rw [ahead_point a b h, behind_point a b h, show pointed (a ++ 46 :: b) = true by unfold pointed; simp]
    have H := Lib.hid hI
    clear hI
    obtain ⟨S, hS⟩ : ∃ S, S = str (a ++ 46 :: b) := ⟨_, rfl⟩
    have hz : S.size = a.length + 1 + b.length := by rw [hS, str_size]; simp; omega
    have e1 : S.extract 0 a.length = str a := by rw [hS, str_extract]; simp
    have e2 : S.extract (a.length + 1) S.size = str b := by
      rw [hz, hS, Lib.extract_eq, str_data]; unfold str; congr 2
      rw [List.drop_append, List.drop_eq_nil_of_le (by omega)]; simp
    rw [← hS] at H ⊢
    obtain ⟨i, hi⟩ : ∃ i, i = a.length := ⟨_, rfl⟩
    rw [← hi] at H e1 e2 hz
    have il : (i : Int) ≤ 9223372036854775806 := by simp at hl; omega
    have c1 : (0 : Int) ≤ (i : Int) := by omega
    have c2 : (i : Int) ≤ (S.size : Int) := by omega
    have c3 : (0 : Int) ≤ (i : Int) + 1 := by omega
    have c4 : (i : Int) + 1 ≤ (S.size : Int) := by omega
    have c5 : IntKind.i64.wrap ((i : Int) + 1) = (i : Int) + 1 := by rw [IntKind.wrap_i64]; omega
    have mixed : Tryd.prog.follows Departure.mixedOrders = true := by kernel_rfl
    have E1 := Lib.hid e1
    have E2 := Lib.hid e2
    clear hS hz e1 e2 hi
    go_enter Tryd.func71, Tryd.ntmps71
    go_wp2_with (go_at_call 48; refine H.out.mono ?_; rintro e w' ⟨rfl, rfl⟩)
    go_region_o
    go_wp2_with fail
    go_ret3
    rw [← E1.out, ← E2.out]
    exact ⟨rfl, (Below.refl _ _).drew⟩
theorem cut_point (l : List UInt8) (w : World) (hl : (l.length : Int) ≤ 9223372036854775807) :
    Calls Tryd.prog 68 #[.string (str l), .string ⟨#[46]⟩] w fun e w' => e = .returned (.tuple #[.string (str (ahead l)), .string (str (behind l)), .bool (pointed l)]) ∧ Below w.heap.size w w' := by
  go_enter Tryd.func68, Tryd.ntmps68
  go_wp2_with (go_at_call 71; refine (cut_inner l w hl).mono ?_; rintro e w' ⟨rfl, hb⟩)
  go_ret3
  exact ⟨rfl, hb⟩

/-! ### dec.cut -/
def CutPost (R : Bool) (a b : List UInt8) (w : World) (e : Ending) (w' : World) : Prop :=
  e = .returned (.tuple #[.string (str (if R then a else [])), .string (str (if R then b else [])), .bool R]) ∧ Below w.heap.size w w'
set_option maxHeartbeats 4000000 in
theorem cut_core (l a b : List UInt8) (p D1 D2 R : Bool) (n : Nat) (hn : a.length = n) (hb0 : (n : Int) ≤ 9223372036854775807) (w : World) (hR : R = (D1 && (!(decide (1 < n) && a.head? == some 48) && (!p || D2))))
    (C : Hid (Calls Tryd.prog 68 #[.string (str l), .string ⟨#[46]⟩] w fun e w' => e = .returned (.tuple #[.string (str a), .string (str b), .bool p]) ∧ Below w.heap.size w w'))
    (A1 : Hid (∀ w, Calls Tryd.prog 69 #[.string (str a), .int .i64 10] w fun e w' => e = .returned (.bool D1) ∧ w' = w))
    (B1 : Hid (∀ w, Calls Tryd.prog 69 #[.string (str b), .int .i64 40] w fun e w' => e = .returned (.bool D2) ∧ w' = w)) :
    Calls Tryd.prog 66 #[.string (str l)] w fun e w' => CutPost R a b w e w' := by
  have hs := str_size a
  rw [hn] at hs
  have HN := Lib.hid hn
  clear hn
  cases D1 with
  | false =>
    obtain rfl : R = false := by rw [hR]; rfl
    clear hR
    go_enter Tryd.func66, Tryd.ntmps66
    go_wp2_with (first | (go_at_call 68; refine C.out.mono ?_; rintro e w1 ⟨rfl, b1⟩; have W1 := Lib.hid b1; clear b1) | (go_at_call 69; refine (A1.out _).mono ?_; rintro e w2 ⟨rfl, rfl⟩))
    go_ret3
    exact ⟨rfl, W1.out⟩
  | true =>
    have pd : p = false ∨ (p = true ∧ D2 = true) ∨ (p = true ∧ D2 = false) := by cases p <;> cases D2 <;> simp
    by_cases h1 : (1 : Int) < (n : Int)
    · have q1 : decide ((1 : Int) < (n : Int)) = true := decide_eq_true h1
      obtain ⟨c, a', ha⟩ : ∃ c a', a = c :: a' := by
        cases a with
        | nil => have := HN.out; simp at this; omega
        | cons c a' => exact ⟨c, a', rfl⟩
      have hix : ∀ h, (str a)[0]'h = c := fun h => str_at a (by rw [ha]; rfl) h
      have hR' : R = (!(c == 48) && (!p || D2)) := by rw [hR, ha, decide_eq_true (by omega)]; simp
      clear hR ha
      by_cases hc : c = 48
      · obtain rfl : R = false := by rw [hR', hc]; rfl
        subst hc
        clear hR'
        go_enter Tryd.func66, Tryd.ntmps66
        go_wp2_with (first | (go_at_call 68; refine C.out.mono ?_; rintro e w1 ⟨rfl, b1⟩; have W1 := Lib.hid b1; clear b1) | (go_at_call 69; refine (A1.out _).mono ?_; rintro e w2 ⟨rfl, rfl⟩))
        go_ret3
        exact ⟨rfl, W1.out⟩
      · have hc' : (c == 48) = false := beq_false_of_ne hc
        have hc2 : ¬ (c.toNat : Int) = 48 := fun e => hc (UInt8.toNat_inj.1 (by show c.toNat = 48; omega))
        rw [hc'] at hR'
        rcases pd with rfl | ⟨rfl, rfl⟩ | ⟨rfl, rfl⟩
        · obtain rfl : R = true := by rw [hR']; rfl
          clear hR'
          go_enter Tryd.func66, Tryd.ntmps66
          go_wp2_with (first | (go_at_call 68; refine C.out.mono ?_; rintro e w1 ⟨rfl, b1⟩; have W1 := Lib.hid b1; clear b1) | (go_at_call 69; ((with_reducible refine (A1.out _).mono ?_); rintro e w2 ⟨rfl, rfl⟩)) | (go_at_call 69; ((with_reducible refine (B1.out _).mono ?_); rintro e w2 ⟨rfl, rfl⟩)))
          go_ret3
          exact ⟨rfl, W1.out⟩
        · obtain rfl : R = true := by rw [hR']; rfl
          clear hR'
          go_enter Tryd.func66, Tryd.ntmps66
          go_wp2_with (first | (go_at_call 68; refine C.out.mono ?_; rintro e w1 ⟨rfl, b1⟩; have W1 := Lib.hid b1; clear b1) | (go_at_call 69; ((with_reducible refine (A1.out _).mono ?_); rintro e w2 ⟨rfl, rfl⟩)) | (go_at_call 69; ((with_reducible refine (B1.out _).mono ?_); rintro e w2 ⟨rfl, rfl⟩)))
          go_ret3
          exact ⟨rfl, W1.out⟩
        · obtain rfl : R = false := by rw [hR']; rfl
          clear hR'
          go_enter Tryd.func66, Tryd.ntmps66
          go_wp2_with (first | (go_at_call 68; refine C.out.mono ?_; rintro e w1 ⟨rfl, b1⟩; have W1 := Lib.hid b1; clear b1) | (go_at_call 69; ((with_reducible refine (A1.out _).mono ?_); rintro e w2 ⟨rfl, rfl⟩)) | (go_at_call 69; ((with_reducible refine (B1.out _).mono ?_); rintro e w2 ⟨rfl, rfl⟩)))
          go_ret3
          exact ⟨rfl, W1.out⟩
    · have q1 : decide ((1 : Int) < (n : Int)) = false := decide_eq_false h1
      have hR' : R = (!p || D2) := by rw [hR, decide_eq_false (by omega)]; simp
      clear hR
      rcases pd with rfl | ⟨rfl, rfl⟩ | ⟨rfl, rfl⟩
      · obtain rfl : R = true := by rw [hR']; rfl
        clear hR'
        go_enter Tryd.func66, Tryd.ntmps66
        go_wp2_with (first | (go_at_call 68; refine C.out.mono ?_; rintro e w1 ⟨rfl, b1⟩; have W1 := Lib.hid b1; clear b1) | (go_at_call 69; ((with_reducible refine (A1.out _).mono ?_); rintro e w2 ⟨rfl, rfl⟩)) | (go_at_call 69; ((with_reducible refine (B1.out _).mono ?_); rintro e w2 ⟨rfl, rfl⟩)))
        go_ret3
        exact ⟨rfl, W1.out⟩
      · obtain rfl : R = true := by rw [hR']; rfl
        clear hR'
        go_enter Tryd.func66, Tryd.ntmps66
        go_wp2_with (first | (go_at_call 68; refine C.out.mono ?_; rintro e w1 ⟨rfl, b1⟩; have W1 := Lib.hid b1; clear b1) | (go_at_call 69; ((with_reducible refine (A1.out _).mono ?_); rintro e w2 ⟨rfl, rfl⟩)) | (go_at_call 69; ((with_reducible refine (B1.out _).mono ?_); rintro e w2 ⟨rfl, rfl⟩)))
        go_ret3
        exact ⟨rfl, W1.out⟩
      · obtain rfl : R = false := by rw [hR']; rfl
        clear hR'
        go_enter Tryd.func66, Tryd.ntmps66
        go_wp2_with (first | (go_at_call 68; refine C.out.mono ?_; rintro e w1 ⟨rfl, b1⟩; have W1 := Lib.hid b1; clear b1) | (go_at_call 69; ((with_reducible refine (A1.out _).mono ?_); rintro e w2 ⟨rfl, rfl⟩)) | (go_at_call 69; ((with_reducible refine (B1.out _).mono ?_); rintro e w2 ⟨rfl, rfl⟩)))
        go_ret3
        exact ⟨rfl, W1.out⟩
theorem cut_dec (l : List UInt8) (w : World) (hl : (l.length : Int) ≤ 9223372036854775807) :
    Calls Tryd.prog 66 #[.string (str l)] w fun e w' => CutPost (litL l) (ahead l) (behind l) w e w' := by
  have ha : (ahead l).length ≤ l.length := (List.takeWhile_prefix _).length_le
  have hb : (behind l).length ≤ l.length := by
    unfold behind
    rw [List.length_drop]
    have := (List.dropWhile_suffix (l := l) (· != 46)).length_le
    omega
  exact cut_core l (ahead l) (behind l) (pointed l) _ _ (litL l) _ rfl (by omega) w rfl (Lib.hid (cut_point l w hl)) (Lib.hid fun w => digits_dec (ahead l) 10 w (by omega) (by omega)) (Lib.hid fun w => digits_dec (behind l) 40 w (by omega) (by omega))
end Go.Proofs.YtnkndmmebhajcaaDoor
