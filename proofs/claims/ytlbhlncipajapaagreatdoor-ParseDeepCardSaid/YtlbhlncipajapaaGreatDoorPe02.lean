/- Joined: LexCut, LexBits. -/
import Derived.Test.YtlbhlncipajapaaGreatDoorPe00
import Derived.Laws.BitsAllLaws
namespace Go.Proofs.YtlbhlncipajapaaGreatDoor.Lx
open Go.RowKit

theorem no_dig {l : List UInt8} {k : Nat} {c : UInt8} (h : l[k]? = some c) (hc : isDig c = false) : l.all isDig = false := by
  rw [List.all_eq_false]
  exact ⟨c, List.mem_of_getElem? h, by rw [hc]; simp⟩
set_option maxHeartbeats 4000000 in
theorem digits_dec (l : List UInt8) (most : Nat) (w : World) (hl : (l.length : Int) ≤ 9223372036854775807) (hm : (most : Int) ≤ 100) :
    Calls Tryz.prog 127 #[.string (str l), .int .i64 (most : Int)] w fun e w' => e = .returned (.bool (digitsL l most)) ∧ w' = w := by
  have hs := str_size l
  obtain ⟨n, hn⟩ : ∃ n, n = l.length := ⟨_, rfl⟩
  rw [← hn] at hs hl
  have N := Lib.hid hn
  have S := Lib.hid hs
  obtain ⟨R, hR⟩ : ∃ R, R = digitsL l most := ⟨_, rfl⟩
  rw [← hR]
  have RE := Lib.hid hR
  clear hR hn
  by_cases h1 : (n : Int) < 1
  · have q1 : decide ((n : Int) < 1) = true := decide_eq_true h1
    go_enter Tryz.func127, Tryz.ntmps127
    go_wp2_with fail
    go_ret
    exact ⟨by rw [RE.out]; unfold digitsL; rw [decide_eq_false (by have := N.out; omega)]; rfl, rfl⟩
  · have q1 : decide ((n : Int) < 1) = false := decide_eq_false h1
    by_cases h2 : (most : Int) < (n : Int)
    · have q2 : decide ((most : Int) < (n : Int)) = true := decide_eq_true h2
      go_enter Tryz.func127, Tryz.ntmps127
      go_wp2_with fail
      go_ret
      exact ⟨by rw [RE.out]; unfold digitsL; rw [decide_eq_false (p := l.length ≤ most) (by have := N.out; omega)]; simp, rfl⟩
    · have q2 : decide ((most : Int) < (n : Int)) = false := decide_eq_false h2
      have hR : R = l.all isDig := by rw [RE.out]; unfold digitsL; rw [decide_eq_true (p := l.length ≤ most) (by have := N.out; omega), decide_eq_true (by have := N.out; omega)]; simp
      have RE2 := Lib.hid hR
      clear hR RE
      go_enter Tryz.func127, Tryz.ntmps127
      go_wp2_with fail
      go_loop [17] (fun x => ∃ k : Nat, k ≤ n ∧ Hid ((l.take k).all isDig = true) ∧ x = .int .i64 k) (fun x => n - litLen x)
      case atStart => exact ⟨0, by omega, Lib.hid rfl, rfl⟩
      case round =>
        obtain ⟨k, hk, hd, rfl⟩ := hrel
        rcases Nat.lt_or_ge k n with hlt | hge
        · obtain ⟨c, hc⟩ : ∃ c, l[k]? = some c := ⟨l[k]'(by have := N.out; omega), List.getElem?_eq_getElem _⟩
          have hix : ∀ h, (str l)[k]'h = c := fun h => str_at l hc h
          have T := Lib.hid (take_at hc)
          have C := Lib.hid hc
          clear hc
          have q3 : decide ((k : Int) < (n : Int)) = true := decide_eq_true (by omega)
          have cl : (c.toNat : Int) ≤ 255 := by have := c.toNat_lt; omega
          by_cases d1 : (c.toNat : Int) < 48
          · have d1' : decide ((c.toNat : Int) < 48) = true := decide_eq_true d1
            go_wp2_with fail
            go_ret
            exact ⟨by rw [RE2.out, no_dig C.out (by unfold isDig; simp; omega)]; rfl, rfl⟩
          · have d1' : decide ((c.toNat : Int) < 48) = false := decide_eq_false d1
            by_cases d2 : (57 : Int) < (c.toNat : Int)
            · have d2' : decide ((57 : Int) < (c.toNat : Int)) = true := decide_eq_true d2
              go_wp2_with fail
              go_ret
              exact ⟨by rw [RE2.out, no_dig C.out (by unfold isDig; simp; omega)]; rfl, rfl⟩
            · have d2' : decide ((57 : Int) < (c.toNat : Int)) = false := decide_eq_false d2
              go_wp2_with fail
              exact ⟨⟨k + 1, by omega, Lib.hid (by rw [T.out, List.all_append, hd.out]; simp; exact isDig_iff.2 (by omega)), rfl⟩, by simp [litLen]; omega⟩
        · have q3 : decide ((k : Int) < (n : Int)) = false := decide_eq_false (by omega)
          go_wp2_with fail
          go_ret
          exact ⟨by rw [RE2.out, ← hd.out, show k = l.length by rw [← N.out]; omega, List.take_length]; rfl, rfl⟩

/-! ### strings.Cut at a point -/
theorem index_point (a b : List UInt8) (h : 46 ∉ a) : Lib.indexByte (a ++ 46 :: b) 46 = (a.length : Int) := by
  induction a with
  | nil => rfl
  | cons c a ih =>
    simp only [List.mem_cons, not_or] at h
    have hc : (c == 46) = false := beq_false_of_ne (fun e => h.1 e.symm)
    simp only [List.cons_append, Lib.indexByte, hc, ih h.2]
    have : ((a.length : Int) == -1) = false := beq_false_of_ne (by omega)
    simp [this]
theorem index_none (a : List UInt8) (h : 46 ∉ a) : Lib.indexByte a 46 = -1 := by
  induction a with
  | nil => rfl
  | cons c a ih =>
    simp only [List.mem_cons, not_or] at h
    have hc : (c == 46) = false := beq_false_of_ne (fun e => h.1 e.symm)
    simp [Lib.indexByte, hc, ih h.2]
set_option maxHeartbeats 4000000 in
theorem cut_inner (l : List UInt8) (w : World) (hl : (l.length : Int) ≤ 9223372036854775807) :
    Calls Tryz.prog 130 #[.string (str l), .string ⟨#[46]⟩] w fun e w' => e = .returned (.tuple #[.string (str (ahead l)), .string (str (behind l)), .bool (pointed l)]) ∧ Below w.heap.size w w' := by
  rcases part_cases l with h | ⟨a, b, rfl, h⟩
  · have hI := Tryz.stringslite_Index_one (str l) 46 w
    rw [str_data, index_none l h] at hI
    rw [ahead_none l h, behind_none l h, show pointed l = false by unfold pointed; simpa using h]
    have H := Lib.hid hI
    clear hI
    go_enter Tryz.func130, Tryz.ntmps130
    go_wp2_with (go_at_call 132; refine H.out.mono ?_; rintro e w' ⟨rfl, rfl⟩)
    go_ret3
    exact ⟨rfl, Below.refl _ _⟩
  · have hI := Tryz.stringslite_Index_one (str (a ++ 46 :: b)) 46 w
    rw [str_data, index_point a b h] at hI
    rw [ahead_point a b h, behind_point a b h, show pointed (a ++ 46 :: b) = true by unfold pointed; simp]
    have H := Lib.hid hI
    clear hI
    obtain ⟨S, hS⟩ : ∃ S, S = str (a ++ 46 :: b) := ⟨_, rfl⟩
    have hz : S.size = a.length + 1 + b.length := by rw [hS, str_size]; simp; omega
    have e1 : S.extract 0 a.length = str a := by rw [hS, str_extract]; simp
    have e2 : S.extract (a.length + 1) S.size = str b := by
      rw [hz, hS, Lib.extract_eq, str_data]; unfold str; congr 2
      rw [List.drop_append, List.drop_eq_nil_of_le (by omega)]; simp
    rw [← hS] at H ⊢
    obtain ⟨i, hi⟩ : ∃ i, i = a.length := ⟨_, rfl⟩
    rw [← hi] at H e1 e2 hz
    have il : (i : Int) ≤ 9223372036854775806 := by simp at hl; omega
    have c1 : (0 : Int) ≤ (i : Int) := by omega
    have c2 : (i : Int) ≤ (S.size : Int) := by omega
    have c3 : (0 : Int) ≤ (i : Int) + 1 := by omega
    have c4 : (i : Int) + 1 ≤ (S.size : Int) := by omega
    have c5 : IntKind.i64.wrap ((i : Int) + 1) = (i : Int) + 1 := by rw [IntKind.wrap_i64]; omega
    have mixed : Tryz.prog.follows Departure.mixedOrders = true := by kernel_rfl
    have E1 := Lib.hid e1
    have E2 := Lib.hid e2
    clear hS hz e1 e2 hi
    go_enter Tryz.func130, Tryz.ntmps130
    go_wp2_with (go_at_call 132; refine H.out.mono ?_; rintro e w' ⟨rfl, rfl⟩)
    go_region_o
    go_wp2_with fail
    go_ret3
    rw [← E1.out, ← E2.out]
    exact ⟨rfl, (Below.refl _ _).drew⟩
theorem cut_point (l : List UInt8) (w : World) (hl : (l.length : Int) ≤ 9223372036854775807) :
    Calls Tryz.prog 126 #[.string (str l), .string ⟨#[46]⟩] w fun e w' => e = .returned (.tuple #[.string (str (ahead l)), .string (str (behind l)), .bool (pointed l)]) ∧ Below w.heap.size w w' := by
  go_enter Tryz.func126, Tryz.ntmps126
  go_wp2_with (go_at_call 130; refine (cut_inner l w hl).mono ?_; rintro e w' ⟨rfl, hb⟩)
  go_ret3
  exact ⟨rfl, hb⟩

/-! ### dec.cut -/
def CutPost (R : Bool) (a b : List UInt8) (w : World) (e : Ending) (w' : World) : Prop :=
  e = .returned (.tuple #[.string (str (if R then a else [])), .string (str (if R then b else [])), .bool R]) ∧ Below w.heap.size w w'
set_option maxHeartbeats 4000000 in
theorem cut_core (l a b : List UInt8) (p D1 D2 R : Bool) (n : Nat) (hn : a.length = n) (hb0 : (n : Int) ≤ 9223372036854775807) (w : World) (hR : R = (D1 && (!(decide (1 < n) && a.head? == some 48) && (!p || D2))))
    (C : Hid (Calls Tryz.prog 126 #[.string (str l), .string ⟨#[46]⟩] w fun e w' => e = .returned (.tuple #[.string (str a), .string (str b), .bool p]) ∧ Below w.heap.size w w'))
    (A1 : Hid (∀ w, Calls Tryz.prog 127 #[.string (str a), .int .i64 10] w fun e w' => e = .returned (.bool D1) ∧ w' = w))
    (B1 : Hid (∀ w, Calls Tryz.prog 127 #[.string (str b), .int .i64 40] w fun e w' => e = .returned (.bool D2) ∧ w' = w)) :
    Calls Tryz.prog 121 #[.string (str l)] w fun e w' => CutPost R a b w e w' := by
  have hs := str_size a
  rw [hn] at hs
  have HN := Lib.hid hn
  clear hn
  cases D1 with
  | false =>
    obtain rfl : R = false := by rw [hR]; rfl
    clear hR
    go_enter Tryz.func121, Tryz.ntmps121
    go_wp2_with (first | (go_at_call 126; refine C.out.mono ?_; rintro e w1 ⟨rfl, b1⟩; have W1 := Lib.hid b1; clear b1) | (go_at_call 127; refine (A1.out _).mono ?_; rintro e w2 ⟨rfl, rfl⟩))
    go_ret3
    exact ⟨rfl, W1.out⟩
  | true =>
    have pd : p = false ∨ (p = true ∧ D2 = true) ∨ (p = true ∧ D2 = false) := by cases p <;> cases D2 <;> simp
    by_cases h1 : (1 : Int) < (n : Int)
    · have q1 : decide ((1 : Int) < (n : Int)) = true := decide_eq_true h1
      obtain ⟨c, a', ha⟩ : ∃ c a', a = c :: a' := by
        cases a with
        | nil => have := HN.out; simp at this; omega
        | cons c a' => exact ⟨c, a', rfl⟩
      have hix : ∀ h, (str a)[0]'h = c := fun h => str_at a (by rw [ha]; rfl) h
      have hR' : R = (!(c == 48) && (!p || D2)) := by rw [hR, ha, decide_eq_true (by omega)]; simp
      clear hR ha
      by_cases hc : c = 48
      · obtain rfl : R = false := by rw [hR', hc]; rfl
        subst hc
        clear hR'
        go_enter Tryz.func121, Tryz.ntmps121
        go_wp2_with (first | (go_at_call 126; refine C.out.mono ?_; rintro e w1 ⟨rfl, b1⟩; have W1 := Lib.hid b1; clear b1) | (go_at_call 127; refine (A1.out _).mono ?_; rintro e w2 ⟨rfl, rfl⟩))
        go_ret3
        exact ⟨rfl, W1.out⟩
      · have hc' : (c == 48) = false := beq_false_of_ne hc
        have hc2 : ¬ (c.toNat : Int) = 48 := fun e => hc (UInt8.toNat_inj.1 (by show c.toNat = 48; omega))
        rw [hc'] at hR'
        rcases pd with rfl | ⟨rfl, rfl⟩ | ⟨rfl, rfl⟩
        · obtain rfl : R = true := by rw [hR']; rfl
          clear hR'
          go_enter Tryz.func121, Tryz.ntmps121
          go_wp2_with (first | (go_at_call 126; refine C.out.mono ?_; rintro e w1 ⟨rfl, b1⟩; have W1 := Lib.hid b1; clear b1) | (go_at_call 127; ((with_reducible refine (A1.out _).mono ?_); rintro e w2 ⟨rfl, rfl⟩)) | (go_at_call 127; ((with_reducible refine (B1.out _).mono ?_); rintro e w2 ⟨rfl, rfl⟩)))
          go_ret3
          exact ⟨rfl, W1.out⟩
        · obtain rfl : R = true := by rw [hR']; rfl
          clear hR'
          go_enter Tryz.func121, Tryz.ntmps121
          go_wp2_with (first | (go_at_call 126; refine C.out.mono ?_; rintro e w1 ⟨rfl, b1⟩; have W1 := Lib.hid b1; clear b1) | (go_at_call 127; ((with_reducible refine (A1.out _).mono ?_); rintro e w2 ⟨rfl, rfl⟩)) | (go_at_call 127; ((with_reducible refine (B1.out _).mono ?_); rintro e w2 ⟨rfl, rfl⟩)))
          go_ret3
          exact ⟨rfl, W1.out⟩
        · obtain rfl : R = false := by rw [hR']; rfl
          clear hR'
          go_enter Tryz.func121, Tryz.ntmps121
          go_wp2_with (first | (go_at_call 126; refine C.out.mono ?_; rintro e w1 ⟨rfl, b1⟩; have W1 := Lib.hid b1; clear b1) | (go_at_call 127; ((with_reducible refine (A1.out _).mono ?_); rintro e w2 ⟨rfl, rfl⟩)) | (go_at_call 127; ((with_reducible refine (B1.out _).mono ?_); rintro e w2 ⟨rfl, rfl⟩)))
          go_ret3
          exact ⟨rfl, W1.out⟩
    · have q1 : decide ((1 : Int) < (n : Int)) = false := decide_eq_false h1
      have hR' : R = (!p || D2) := by rw [hR, decide_eq_false (by omega)]; simp
      clear hR
      rcases pd with rfl | ⟨rfl, rfl⟩ | ⟨rfl, rfl⟩
      · obtain rfl : R = true := by rw [hR']; rfl
        clear hR'
        go_enter Tryz.func121, Tryz.ntmps121
        go_wp2_with (first | (go_at_call 126; refine C.out.mono ?_; rintro e w1 ⟨rfl, b1⟩; have W1 := Lib.hid b1; clear b1) | (go_at_call 127; ((with_reducible refine (A1.out _).mono ?_); rintro e w2 ⟨rfl, rfl⟩)) | (go_at_call 127; ((with_reducible refine (B1.out _).mono ?_); rintro e w2 ⟨rfl, rfl⟩)))
        go_ret3
        exact ⟨rfl, W1.out⟩
      · obtain rfl : R = true := by rw [hR']; rfl
        clear hR'
        go_enter Tryz.func121, Tryz.ntmps121
        go_wp2_with (first | (go_at_call 126; refine C.out.mono ?_; rintro e w1 ⟨rfl, b1⟩; have W1 := Lib.hid b1; clear b1) | (go_at_call 127; ((with_reducible refine (A1.out _).mono ?_); rintro e w2 ⟨rfl, rfl⟩)) | (go_at_call 127; ((with_reducible refine (B1.out _).mono ?_); rintro e w2 ⟨rfl, rfl⟩)))
        go_ret3
        exact ⟨rfl, W1.out⟩
      · obtain rfl : R = false := by rw [hR']; rfl
        clear hR'
        go_enter Tryz.func121, Tryz.ntmps121
        go_wp2_with (first | (go_at_call 126; refine C.out.mono ?_; rintro e w1 ⟨rfl, b1⟩; have W1 := Lib.hid b1; clear b1) | (go_at_call 127; ((with_reducible refine (A1.out _).mono ?_); rintro e w2 ⟨rfl, rfl⟩)) | (go_at_call 127; ((with_reducible refine (B1.out _).mono ?_); rintro e w2 ⟨rfl, rfl⟩)))
        go_ret3
        exact ⟨rfl, W1.out⟩
theorem cut_dec (l : List UInt8) (w : World) (hl : (l.length : Int) ≤ 9223372036854775807) :
    Calls Tryz.prog 121 #[.string (str l)] w fun e w' => CutPost (litL l) (ahead l) (behind l) w e w' := by
  have ha : (ahead l).length ≤ l.length := (List.takeWhile_prefix _).length_le
  have hb : (behind l).length ≤ l.length := by
    unfold behind
    rw [List.length_drop]
    have := (List.dropWhile_suffix (l := l) (· != 46)).length_le
    omega
  exact cut_core l (ahead l) (behind l) (pointed l) _ _ (litL l) _ rfl (by omega) w rfl (Lib.hid (cut_point l w hl)) (Lib.hid fun w => digits_dec (ahead l) 10 w (by omega) (by omega)) (Lib.hid fun w => digits_dec (behind l) 40 w (by omega) (by omega))
end Go.Proofs.YtlbhlncipajapaaGreatDoor.Lx
namespace Go.Proofs.YtlbhlncipajapaaGreatDoor.Lx
open Go.RowKit

theorem or_low (i a b : Nat) (hb : b < 2 ^ i) (h1 : 2 ^ i * a < 18446744073709551616) (h2 : b < 18446744073709551616) : bits .or .u64 ((2 ^ i * a : Nat) : Int) (b : Int) = ((2 ^ i * a + b : Nat) : Int) := by
  rw [u64_or_nat _ _ h1 h2, Nat.two_pow_add_eq_or_of_lt hb]

set_option maxHeartbeats 4000000 in
theorem double_any (x c C : Nat) (w : World) (x1 : (48 : Int) ≤ (x : Int)) (x2 : (x : Int) ≤ 57) (c1 : (c : Int) ≤ 1) (hc : w.cell? ⟨C, 0, none⟩ = some (.int .u8 (c : Int))) (hf : w.frozen? ⟨C, 0, none⟩ = false) :
    Calls Tryz.prog 128 #[.int .u8 (x : Int), .pointer (some ⟨C, 0, none⟩)] w fun e w' =>
      e = .returned (.int .u8 ((48 + (2 * (x - 48) + c) % 10 : Nat) : Int)) ∧ w' = w.setCell ⟨C, 0, none⟩ (.int .u8 (((2 * (x - 48) + c) / 10 : Nat) : Int)) := by
  obtain ⟨T, hT⟩ : ∃ T : Nat, T = 2 * (x - 48) + c := ⟨_, rfl⟩
  obtain ⟨y, hy⟩ : ∃ y : Nat, y = x - 48 := ⟨_, rfl⟩
  obtain ⟨t, ht⟩ : ∃ t : Nat, t = T / 10 := ⟨_, rfl⟩
  obtain ⟨r, hr⟩ : ∃ r : Nat, r = T % 10 := ⟨_, rfl⟩
  rw [← hT, ← ht, ← hr]
  have e1 : (x : Int) - 48 = (y : Int) := by omega
  have e2 : 2 * (y : Int) + (c : Int) = (T : Int) := by omega
  have e3 : (T : Int) / 10 = (t : Int) := by omega
  have e4 : (T : Int) % 10 = (r : Int) := by omega
  have e5 : ((48 + r : Nat) : Int) = (r : Int) + 48 := by omega
  have y1 : (y : Int) ≤ 9 := by omega
  have t1 : (T : Int) ≤ 19 := by omega
  have r1 : (r : Int) ≤ 9 := by omega
  rw [e5]
  clear hT hy ht hr e5
  go_enter Tryz.func128, Tryz.ntmps128
  go_wp2_with fail
  go_ret
  exact ⟨rfl, rfl⟩

/-- inside a round: the digits from j on are doubled -/
def InRow (w : World) (R C : Nat) (m : List UInt8) (j : Nat) : Prop := Row w R (m.take j ++ dbl (m.drop j)) ∧ Row w C [UInt8.ofNat (cry (m.drop j))]
theorem drop_at {l : List UInt8} {k : Nat} {c : UInt8} (h : l[k]? = some c) : l.drop k = c :: l.drop (k + 1) := by
  obtain ⟨h1, rfl⟩ := List.getElem?_eq_some_iff.1 h
  exact List.drop_eq_getElem_cons h1
theorem row_other {w : World} {B D o : Nat} {v : Value} {l : List UInt8} (h : Row w B l) (hne : B ≠ D) : Row (w.setCell ⟨D, o, none⟩ v) B l :=
  row_far h (Below.heap_setCell w ⟨D, o, none⟩ v B hne)
theorem byte_val {n : Nat} (h : n < 256) : (UInt8.ofNat n).toNat = n := UInt8.toNat_ofNat_of_lt' h
theorem inRow_start {w : World} {R C : Nat} {m : List UInt8} (h : Row w R m) (hc : ∃ x, Row w C [x]) (hne : R ≠ C) : InRow (w.setCell ⟨C, 0, none⟩ (.int .u8 0)) R C m m.length := by
  obtain ⟨x, hx⟩ := hc
  unfold InRow
  rw [List.take_length, List.drop_length]
  refine ⟨?_, row_set hx 0 0 (by simp)⟩
  rw [show dbl [] = [] from rfl, List.append_nil]
  exact row_other h hne
theorem inRow_next {w : World} {R C : Nat} {m : List UInt8} {j : Nat} {x : UInt8} (h : InRow w R C m (j + 1)) (hx : m[j]? = some x) (hne : R ≠ C) (hm : m.all isDig = true) :
    InRow ((w.setCell ⟨C, 0, none⟩ (.int .u8 (((2 * (x.toNat - 48) + cry (m.drop (j + 1))) / 10 : Nat) : Int))).setCell ⟨R, j, none⟩ (.int .u8 ((48 + (2 * (x.toNat - 48) + cry (m.drop (j + 1))) % 10 : Nat) : Int))) R C m j := by
  obtain ⟨h1, h2⟩ := h
  have hj : j < m.length := (List.getElem?_eq_some_iff.1 hx).1
  have hd := drop_at hx
  have hxd := isDig_iff.1 (List.all_eq_true.1 hm x (List.mem_of_getElem? hx))
  have hc1 : cry (m.drop (j + 1)) ≤ 1 := cry_le _ (List.all_eq_true.2 fun y hy => List.all_eq_true.1 hm y (List.mem_of_mem_drop hy))
  have h3 := row_other (D := C) (o := 0) (v := .int .u8 (((2 * (x.toNat - 48) + cry (m.drop (j + 1))) / 10 : Nat) : Int)) h1 hne
  have h4 := row_set h3 j (dg ((2 * (x.toNat - 48) + cry (m.drop (j + 1))) % 10)) (by simp; omega)
  rw [dg_val (by omega)] at h4
  have h5 := row_set h2 0 (UInt8.ofNat ((2 * (x.toNat - 48) + cry (m.drop (j + 1))) / 10)) (by simp)
  rw [byte_val (by omega)] at h5
  have e1 : (m.take (j + 1) ++ dbl (m.drop (j + 1))).set j (dg ((2 * (x.toNat - 48) + cry (m.drop (j + 1))) % 10)) = m.take j ++ dbl (m.drop j) := by
    rw [take_at hx, List.append_assoc, List.set_append_right _ _ (by simp; omega), hd]
    have : j - (m.take j).length = 0 := by simp; omega
    rw [this]
    rfl
  rw [e1] at h4
  refine ⟨h4, ?_⟩
  have e2 : cry (m.drop j) = (2 * (x.toNat - 48) + cry (m.drop (j + 1))) / 10 := by rw [hd]; rfl
  rw [e2]
  exact row_other h5 (Ne.symm hne)
theorem row_new0 (w : World) (T : TypeId) : Row (w.alloc (.cells #[.int .u8 0] T)) w.heap.size [0] := fun j x h => by
  have e : j = 0 := by have := (List.getElem?_eq_some_iff.1 h).1; simp at this; omega
  subst e
  cases h
  exact ⟨by rw [World.cell?_alloc_new]; rfl, World.frozen?_alloc_new _ _ _ _⟩
set_option maxHeartbeats 4000000 in
set_option maxRecDepth 100000 in
theorem bits_core (l : List UInt8) (n : Nat) (hn : l.length = n) (hl : (n : Int) ≤ 100) (hd : l.all isDig = true) (w W1 : World) (K : Nat)
    (hcv : (convert 9 130 (.string (str l))).run Tryz.prog w = .ok (.slice (some ⟨w.heap.size, 0, none⟩) n K) W1) (hr : Hid (Row W1 w.heap.size l)) (hb : Hid (Below w.heap.size w W1)) (hz : Hid (W1.heap.size = w.heap.size + 1))
    (P : Nat) (hP : Hid (P = bitsL l)) :
    Calls Tryz.prog 122 #[.string (str l)] w fun e w' => e = .returned (.int .u64 (P : Int)) ∧ Below w.heap.size w w' := by
  have HN := Lib.hid hn
  have HD := Lib.hid hd
  clear hn hd
  obtain ⟨R, hR⟩ : ∃ R, R = w.heap.size := ⟨_, rfl⟩
  rw [← hR] at hcv hr hz
  have RE := Lib.hid hR
  clear hR
  go_enter Tryz.func122, Tryz.ntmps122
  go_wp2_with fail
  go_loopw [11, 6] (fun i b wr => ∃ (k B : Nat) (m : List UInt8), k ≤ 32 ∧ i = .int .i64 k ∧ b = .int .u64 B ∧ Hid (DblAt l k m B) ∧ Hid (Row wr R m) ∧ Hid (∃ x, Row wr W1.heap.size [x]) ∧ Hid (Below w.heap.size w wr)) (fun i _ _ => 32 - litLen i)
  case atStart => exact ⟨0, 0, l, by omega, rfl, rfl, Lib.hid (dblAt_zero l HD.out), Lib.hid (row_far hr.out (Below.heap_alloc _ _ _ (by rw [hz.out]; omega))), Lib.hid ⟨0, row_new0 _ _⟩, Lib.hid (hb.out.alloc hb.out.size _)⟩
  case round =>
    obtain ⟨k, B, m, hk, rfl, rfl, hD, hRow, hC, hBel⟩ := hrel
    rcases Nat.lt_or_ge k 32 with hlt | hge
    · obtain ⟨x, hx⟩ := hC.out
      have q3 : decide ((k : Int) < 32) = true := decide_eq_true (by omega)
      have c0 := row_cell hx (j := 0) rfl
      have f0 := row_frozen hx (j := 0) rfl
      have hne : Hid (R ≠ W1.heap.size) := Lib.hid (by rw [hz.out]; omega)
      have hml : Hid (m.length = n) := Lib.hid (by rw [hD.out.2.1]; exact HN.out)
      have hmd : Hid (m.all isDig = true) := Lib.hid hD.out.1
      have hst := Lib.hid (inRow_start hRow.out ⟨x, hx⟩ hne.out)
      rw [hml.out] at hst
      clear hx
      go_wp2_with fail
      go_loopw [7] (fun t wi => ∃ j : Nat, j ≤ n ∧ t = .int .i64 ((j : Int) - 1) ∧ Hid (InRow wi R W1.heap.size m j) ∧ Hid (Below w.heap.size w wi)) (fun t _ => (intOf t + 1).toNat)
      case atStart => exact ⟨n, by omega, rfl, hst, Lib.hid (hBel.out.setCell (by show w.heap.size ≤ W1.heap.size; exact hb.out.size) _)⟩
      case round =>
        obtain ⟨j, hj, rfl, hI, hBi⟩ := hrel
        rcases j with _ | j
        · have c1 := row_cell hI.out.2 (j := 0) rfl
          go_wp2_with fail
          have h1 := cry_le m hmd.out
          have hBk := dblAt_lt hD.out HD.out
          have hBk2 : 2 ^ k ≤ 2 ^ 31 := Nat.pow_le_pow_right (by omega) (by omega)
          have hor := or_low 1 B (cry m) (by omega) (by omega) (by omega)
          have e1 : bits BinOp.or IntKind.u64 (IntKind.u64.wrap ((B : Int) * 2)) ((cry m : Int) % 256) = ((2 * B + cry m : Nat) : Int) := by
            rw [show IntKind.u64.wrap ((B : Int) * 2) = ((2 ^ 1 * B : Nat) : Int) by rw [IntKind.wrap_u64]; omega, show (cry m : Int) % 256 = (cry m : Int) by omega, hor]
          rw [e1]
          refine ⟨⟨k + 1, 2 * B + cry m, dbl m, by omega, rfl, rfl, Lib.hid (dblAt_next hD.out), ?_, Lib.hid ⟨_, hI.out.2⟩, hBi⟩, by simp [litLen]; omega⟩
          have := hI.out.1
          rw [List.take_zero, List.drop_zero, List.nil_append] at this
          exact Lib.hid this
        · have hj2 : j < m.length := by rw [hml.out]; omega
          obtain ⟨x, hx⟩ : ∃ x, m[j]? = some x := ⟨m[j], List.getElem?_eq_getElem hj2⟩
          have hxd := isDig_iff.1 (List.all_eq_true.1 hmd.out x (List.mem_of_getElem? hx))
          have hcy : cry (m.drop (j + 1)) ≤ 1 := cry_le _ (List.all_eq_true.2 fun y hy => List.all_eq_true.1 hmd.out y (List.mem_of_mem_drop hy))
          have hxr : (m.take (j + 1) ++ dbl (m.drop (j + 1)))[j]? = some x := by
            rw [List.getElem?_append_left (by simp; omega), List.getElem?_take, if_pos (by omega), hx]
          have c1 := row_cell hI.out.1 hxr
          have f1 := row_frozen hI.out.1 hxr
          have c2 := row_cell hI.out.2 (j := 0) rfl
          have f2 := row_frozen hI.out.2 (j := 0) rfl
          rw [byte_val (by omega)] at c2
          have hnx := inRow_next hI.out hx hne.out hmd.out
          obtain ⟨X, hX⟩ : ∃ X, X = x.toNat := ⟨_, rfl⟩
          obtain ⟨c, hc⟩ : ∃ c, c = cry (m.drop (j + 1)) := ⟨_, rfl⟩
          rw [← hX] at c1 hnx hxd
          rw [← hc] at c2 hnx hcy
          have D := Lib.hid (double_any X c W1.heap.size wr (by omega) (by omega) (by omega) c2 f2)
          have hneb : R ≠ W1.heap.size := hne.out
          obtain ⟨v1, hv1⟩ : ∃ v1, v1 = (2 * (X - 48) + c) / 10 := ⟨_, rfl⟩
          obtain ⟨v2, hv2⟩ : ∃ v2, v2 = 48 + (2 * (X - 48) + c) % 10 := ⟨_, rfl⟩
          rw [← hv1, ← hv2] at D hnx
          have c3 : (wr.setCell ⟨W1.heap.size, 0, none⟩ (.int .u8 (v1 : Int))).cell? ⟨R, j, none⟩ = some (.int .u8 (X : Int)) := by rw [World.cell?_setCell_other _ _ _ _ (by simp)]; exact c1
          have f3 : (wr.setCell ⟨W1.heap.size, 0, none⟩ (.int .u8 (v1 : Int))).frozen? ⟨R, j, none⟩ = false := by rw [World.frozen?_setCell]; exact f1
          have q4 : decide ((0 : Int) ≤ (j : Int)) = true := decide_eq_true (by omega)
          have HNX := Lib.hid hnx
          have jn : (j : Int) < (n : Int) := by omega
          clear hv1 hv2 hX hc hnx hxr hx hxd hcy hneb
          go_wp2_with (go_at_call 128; refine D.out.mono ?_; rintro e w2 ⟨rfl, rfl⟩)
          exact ⟨⟨j, by omega, rfl, HNX, Lib.hid ((hBi.out.setCell (p := ⟨W1.heap.size, 0, none⟩) hb.out.size _).setCell (p := ⟨R, j, none⟩) (by show w.heap.size ≤ R; rw [RE.out]; exact Nat.le_refl _) _)⟩, by simp [intOf]⟩
    · have q3 : decide ((k : Int) < 32) = false := decide_eq_false (by omega)
      obtain rfl : k = 32 := by omega
      have hBP : B = P := by rw [hP.out]; exact dblAt_end hD.out
      go_wp2_with fail
      go_ret
      exact ⟨by rw [hBP]; rfl, hBel.out⟩

theorem bits_behind (l : List UInt8) (hl : l.length ≤ 100) (hd : l.all isDig = true) (w : World) :
    Calls Tryz.prog 122 #[.string (str l)] w fun e w' => e = .returned (.int .u64 ((bitsL l : Nat) : Int)) ∧ Below w.heap.size w w' := by
  have hcv := Lib.run_convert_string_bytes (P := Tryz.prog) w 9 130 5 (str l) Tryz.underlying9 Tryz.underlying130 Tryz.underlying5
  rw [str_size] at hcv
  have hrow : Row (Lib.bytesWorld w 5 (str l)) w.heap.size l := fun j x hx => by
    obtain ⟨hj, rfl⟩ := List.getElem?_eq_some_iff.1 hx
    refine ⟨?_, ?_⟩
    · rw [Lib.bytesWorld_cell w _ _ j (by rw [str_size]; exact hj), str_data]
      simp [List.getD, hj]
    · have hsz : (Lib.bytesCells w 5 (str l)).size ≥ l.length := by unfold Lib.bytesCells; simp [str]
      unfold World.frozen?
      rw [Lib.bytesWorld_at_new]
      simp
      omega
  exact bits_core l l.length rfl (by omega) hd w _ _ hcv (Lib.hid hrow) (Lib.hid ⟨rfl, rfl, rfl, by rw [Lib.bytesWorld_size]; omega, fun k hk => Lib.bytesWorld_at_old w _ _ k hk⟩) (Lib.hid (Lib.bytesWorld_size w _ _)) _ (Lib.hid rfl)
end Go.Proofs.YtlbhlncipajapaaGreatDoor.Lx
