/- What package fixq's functions answer, each at every number: contracts over this seat's translation. -/
import Derived.Test.YtehngngkdnmhgaaDiv64
import Derived.Test.YtehngngkdnmhgaaRows
import Derived.Outline
import Derived.Lib.Hide
import Derived.Deep.QuietTactic
import Derived.BigQuiet
namespace Go.Proofs.Ytehngngkdnmhgaa
open Go.RowKit

theorem end_any (b : Bool) (w : World) : Calls Try.prog 30 #[.bool b] w fun e w' => e = .returned (.int .i64 (if b then -9223372036854775808 else 9223372036854775807)) ∧ w = w' := by
  cases b
  all_goals
    go_enter Try.func30, Try.ntmps30
    go_wp2
    go_ret
    exact ⟨rfl, rfl⟩

theorem add_any (a b : Int) (w : World) (ha : fits a) (hb : fits b) :
    Calls Try.prog 11 #[.int .i64 a, .int .i64 b] w fun e w' => e = .returned (.tuple #[.int .i64 (held (a + b)), .int .i64 (over (a + b))]) ∧ w = w' := by
  by_cases ht : a + b < -9223372036854775808 ∨ 9223372036854775807 < a + b
  · have hq := (add_test a b ha hb).2 ht
    rcases ht with ht | ht
    · have h0 : a < 0 := by unfold fits at *; omega
      rw [held_lo ht, over_out (.inl ht)]
      have eb : decide (a < 0) = true := decide_eq_true h0
      go_enter Try.func11, Try.ntmps11
      go_wp2_with (go_at_call 30; refine (end_any _ _).mono ?_; rintro e w' ⟨rfl, rfl⟩)
      go_ret2
      exact ⟨by simp, rfl⟩
    · have h0 : ¬ a < 0 := by unfold fits at *; omega
      rw [held_hi ht, over_out (.inr ht)]
      have eb : decide (a < 0) = false := decide_eq_false h0
      go_enter Try.func11, Try.ntmps11
      go_wp2_with (go_at_call 30; refine (end_any _ _).mono ?_; rintro e w' ⟨rfl, rfl⟩)
      go_ret2
      exact ⟨by simp, rfl⟩
  · have hq : ¬ _ := fun h => ht ((add_test a b ha hb).1 h)
    rw [held_in (by omega) (by omega), over_in (by omega) (by omega)]
    have h1 : -9223372036854775808 ≤ a + b := by omega
    have h2 : a + b ≤ 9223372036854775807 := by omega
    rw [IntWalk.wrap64_in _ ⟨h1, h2⟩] at hq
    clear ht
    go_enter Try.func11, Try.ntmps11
    go_wp2_with fail
    go_ret2
    exact ⟨rfl, rfl⟩

theorem sub_any (a b : Int) (w : World) (ha : fits a) (hb : fits b) :
    Calls Try.prog 12 #[.int .i64 a, .int .i64 b] w fun e w' => e = .returned (.tuple #[.int .i64 (held (a - b)), .int .i64 (over (a - b))]) ∧ w = w' := by
  by_cases ht : a - b < -9223372036854775808 ∨ 9223372036854775807 < a - b
  · have hq := (sub_test a b ha hb).2 ht
    rcases ht with ht | ht
    · have h0 : a < 0 := by unfold fits at *; omega
      rw [held_lo ht, over_out (.inl ht)]
      have eb : decide (a < 0) = true := decide_eq_true h0
      go_enter Try.func12, Try.ntmps12
      go_wp2_with (go_at_call 30; refine (end_any _ _).mono ?_; rintro e w' ⟨rfl, rfl⟩)
      go_ret2
      exact ⟨by simp, rfl⟩
    · have h0 : ¬ a < 0 := by unfold fits at *; omega
      rw [held_hi ht, over_out (.inr ht)]
      have eb : decide (a < 0) = false := decide_eq_false h0
      go_enter Try.func12, Try.ntmps12
      go_wp2_with (go_at_call 30; refine (end_any _ _).mono ?_; rintro e w' ⟨rfl, rfl⟩)
      go_ret2
      exact ⟨by simp, rfl⟩
  · have hq : ¬ _ := fun h => ht ((sub_test a b ha hb).1 h)
    rw [held_in (by omega) (by omega), over_in (by omega) (by omega)]
    have h1 : -9223372036854775808 ≤ a - b := by omega
    have h2 : a - b ≤ 9223372036854775807 := by omega
    rw [IntWalk.wrap64_in _ ⟨h1, h2⟩] at hq
    clear ht
    go_enter Try.func12, Try.ntmps12
    go_wp2_with fail
    go_ret2
    exact ⟨rfl, rfl⟩

theorem neg_any (a : Int) (w : World) (ha : fits a) :
    Calls Try.prog 13 #[.int .i64 a] w fun e w' => e = .returned (.tuple #[.int .i64 (held (-a)), .int .i64 (over (-a))]) ∧ w = w' := by
  have e0 : (0 : Int) - a = -a := by omega
  have c := sub_any 0 a w ⟨by omega, by omega⟩ ha
  rw [e0] at c
  have C := Lib.hid c
  clear c e0 
  go_enter Try.func13, Try.ntmps13
  go_wp2_with (go_at_call 12; refine C.out.mono ?_; rintro e w' ⟨rfl, rfl⟩)
  go_ret2
  exact ⟨rfl, rfl⟩

theorem size_any (a : Int) (w : World) (ha : fits a) :
    Calls Try.prog 36 #[.int .i64 a] w fun e w' => e = .returned (.int .u64 (a.natAbs : Int)) ∧ w = w' := by
  obtain ⟨h1, h2⟩ := ha
  by_cases h0 : a < 0
  · have e1 := wrapSize a h1 h0
    clear h1 h2
    go_enter Try.func36, Try.ntmps36
    go_wp2_with fail
    go_ret
    exact ⟨rfl, rfl⟩
  · have e1 := wrapSize' a (by omega) h2
    have h0' : 0 ≤ a := by omega
    clear h1 h2 h0
    go_enter Try.func36, Try.ntmps36
    go_wp2_with fail
    go_ret
    exact ⟨rfl, rfl⟩

theorem half_any (a : Int) (w : World) (ha : fits a) :
    Calls Try.prog 21 #[.int .i64 a] w fun e w' => e = .returned (.int .i64 (a.tdiv 2)) ∧ w = w' := by
  obtain ⟨h1, h2⟩ := ha
  go_enter Try.func21, Try.ntmps21
  go_wp2_with fail
  go_ret
  exact ⟨rfl, rfl⟩

theorem abs_any (a : Int) (w : World) (ha : fits a) :
    Calls Try.prog 20 #[.int .i64 a] w fun e w' => e = .returned (.tuple #[.int .i64 (if a < 0 then held (-a) else a), .int .i64 (if a < 0 then over (-a) else 0)]) ∧ w = w' := by
  by_cases h0 : a < 0
  · rw [if_pos h0, if_pos h0]
    have C := Lib.hid (neg_any a w ha)
    go_enter Try.func20, Try.ntmps20
    go_wp2_with (go_at_call 13; refine C.out.mono ?_; rintro e w' ⟨rfl, rfl⟩)
    go_ret2
    exact ⟨rfl, rfl⟩
  · rw [if_neg h0, if_neg h0]
    go_enter Try.func20, Try.ntmps20
    go_wp2_with fail
    go_ret2
    exact ⟨rfl, rfl⟩

/-- the number of a sign and of a size of two words -/
def signedOf (b : Bool) (n : Nat) : Int := if b then -(n : Int) else n
theorem held_any (b : Bool) (hi lo : Nat) (w : World) (_h1 : (hi : Int) ≤ 18446744073709551615) (h2 : (lo : Int) ≤ 18446744073709551615) :
    Calls Try.prog 40 #[.bool b, .int .u64 hi, .int .u64 lo] w fun e w' => e = .returned (.tuple #[.int .i64 (held (signedOf b (hi * 18446744073709551616 + lo))), .int .i64 (over (signedOf b (hi * 18446744073709551616 + lo)))]) ∧ w = w' := by
  have lows : ∀ w : World, Calls Try.prog 36 #[.int .i64 (-9223372036854775808)] w fun e w' => e = .returned (.int .u64 9223372036854775808) ∧ w = w' :=
    fun w => size_any _ w ⟨by omega, by omega⟩
  have highs : ∀ w : World, Calls Try.prog 36 #[.int .i64 9223372036854775807] w fun e w' => e = .returned (.int .u64 9223372036854775807) ∧ w = w' :=
    fun w => size_any _ w ⟨by omega, by omega⟩
  have L := Lib.hid lows
  have U := Lib.hid highs
  clear lows highs
  by_cases h0 : hi = 0
  · subst h0
    have e0 : 0 * 18446744073709551616 + lo = lo := by omega
    rw [e0]
    clear e0
    cases b
    · unfold signedOf
      rw [if_neg (by simp)]
      rcases Int.lt_or_le 9223372036854775807 (lo : Int) with h | h
      · rw [held_hi (by omega), over_out (.inr (by omega))]
        have d1 : decide ((9223372036854775807 : Int) < (lo : Int)) = true := decide_eq_true h
        clear h
        go_enter Try.func40, Try.ntmps40
        go_wp2_with (first | (go_at_call 30; refine (end_any _ _).mono ?_; rintro e w' ⟨rfl, rfl⟩) | (go_at_call 36; refine (U.out _).mono ?_; rintro e w' ⟨rfl, rfl⟩))
        go_ret2
        exact ⟨rfl, rfl⟩
      · rw [held_in (by omega) (by omega), over_in (by omega) (by omega)]
        have d1 : decide ((9223372036854775807 : Int) < (lo : Int)) = false := decide_eq_false (by omega)
        go_enter Try.func40, Try.ntmps40
        go_wp2_with (first | (go_at_call 30; refine (end_any _ _).mono ?_; rintro e w' ⟨rfl, rfl⟩) | (go_at_call 36; refine (U.out _).mono ?_; rintro e w' ⟨rfl, rfl⟩))
        go_ret2
        exact ⟨rfl, rfl⟩
    · unfold signedOf
      rw [if_pos rfl]
      rcases Int.lt_or_le 9223372036854775808 (lo : Int) with h | h
      · rw [held_lo (by omega), over_out (.inl (by omega))]
        have d1 : decide ((9223372036854775808 : Int) < (lo : Int)) = true := decide_eq_true h
        clear h
        go_enter Try.func40, Try.ntmps40
        go_wp2_with (first | (go_at_call 30; refine (end_any _ _).mono ?_; rintro e w' ⟨rfl, rfl⟩) | (go_at_call 36; refine (L.out _).mono ?_; rintro e w' ⟨rfl, rfl⟩))
        go_ret2
        exact ⟨rfl, rfl⟩
      · rw [held_in (by omega) (by omega), over_in (by omega) (by omega)]
        have d1 : decide ((9223372036854775808 : Int) < (lo : Int)) = false := decide_eq_false (by omega)
        have b1 := toBackNeg lo (by omega)
        rw [IntWalk.i64_left] at b1
        have B := Lib.hid b1
        clear h2 b1
        go_enter Try.func40, Try.ntmps40
        go_wp2_with (first | (go_at_call 30; refine (end_any _ _).mono ?_; rintro e w' ⟨rfl, rfl⟩) | (go_at_call 36; refine (L.out _).mono ?_; rintro e w' ⟨rfl, rfl⟩))
        go_ret2
        refine ⟨?_, rfl⟩
        show Ending.returned (.tuple #[.int .i64 (wrap64 (IntKind.u64.wrap (-(lo : Int)))), .int .i64 0]) = _
        rw [B.out]
  · have hbig : 18446744073709551616 ≤ hi * 18446744073709551616 + lo := by omega
    have d1 : ((hi : Int) != 0) = true := bne_iff_ne.2 (by omega)
    have d2 : ((hi : Int) == 0) = false := beq_false_of_ne (by omega)
    generalize hi * 18446744073709551616 + lo = x at *
    clear h0 h2
    cases b
    · unfold signedOf
      rw [if_neg (by simp)]
      rw [held_hi (by omega), over_out (.inr (by omega))]
      clear hbig
      go_enter Try.func40, Try.ntmps40
      go_wp2_with (first | (go_at_call 30; refine (end_any _ _).mono ?_; rintro e w' ⟨rfl, rfl⟩) | (go_at_call 36; refine (U.out _).mono ?_; rintro e w' ⟨rfl, rfl⟩))
      go_ret2
      exact ⟨rfl, rfl⟩
    · unfold signedOf
      rw [if_pos rfl]
      rw [held_lo (by omega), over_out (.inl (by omega))]
      clear hbig
      go_enter Try.func40, Try.ntmps40
      go_wp2_with (first | (go_at_call 30; refine (end_any _ _).mono ?_; rintro e w' ⟨rfl, rfl⟩) | (go_at_call 36; refine (L.out _).mono ?_; rintro e w' ⟨rfl, rfl⟩))
      go_ret2
      exact ⟨rfl, rfl⟩

theorem divByZero_any (a : Int) (w : World) :
    Calls Try.prog 38 #[.int .i64 a] w fun e w' => e = .returned (.int .i64 (if a = 0 then 0 else if a < 0 then -9223372036854775808 else 9223372036854775807)) ∧ w = w' := by
  rcases Int.lt_trichotomy a 0 with h | h | h
  · have h1 : (a == 0) = false := beq_false_of_ne (by omega)
    have h2 : decide (a < 0) = true := decide_eq_true h
    rw [if_neg (by omega), if_pos h]
    clear h
    go_enter Try.func38, Try.ntmps38
    go_wp2_with (go_at_call 30; refine (end_any _ _).mono ?_; rintro e w' ⟨rfl, rfl⟩)
    go_ret
    exact ⟨rfl, rfl⟩
  · subst h
    go_enter Try.func38, Try.ntmps38
    go_wp2_with fail
    go_ret
    exact ⟨rfl, rfl⟩
  · have h1 : (a == 0) = false := beq_false_of_ne (by omega)
    have h2 : decide (a < 0) = false := decide_eq_false (by omega)
    rw [if_neg (by omega), if_neg (by omega)]
    clear h
    go_enter Try.func38, Try.ntmps38
    go_wp2_with (go_at_call 30; refine (end_any _ _).mono ?_; rintro e w' ⟨rfl, rfl⟩)
    go_ret
    exact ⟨rfl, rfl⟩

theorem mul64_any (x y : Nat) (hx : x < 18446744073709551616) (hy : y < 18446744073709551616) (w : World) :
    Calls Try.prog 33 #[.int .u64 x, .int .u64 y] w fun e w' => e = .returned (.tuple #[.int .u64 ((x * y / 18446744073709551616 : Nat) : Int), .int .u64 ((x * y % 18446744073709551616 : Nat) : Int)]) ∧ w = w' :=
  (Try.bits_Mul64 x y hx hy w).mono fun _ _ ⟨h, k⟩ => ⟨h, k.symm⟩

/-- two answers, and the world but for draws -/
def Two (x y : Int) (w : World) (e : Ending) (w' : World) : Prop := e = .returned (.tuple #[.int .i64 x, .int .i64 y]) ∧ ∃ n, w' = w.drewN n
theorem quiet_is {P : Program} {f : FuncId} {args : Array Value} {w : World} {n : Nat} {v : Value}
    (h : Calls P f args (w.drewN n) fun e w' => e = .returned v ∧ w.drewN n = w') : Calls P f args (w.drewN n) fun e w'' => e = .returned v ∧ ∃ m, w'' = w.drewN m :=
  h.mono fun _ _ ⟨he, hm⟩ => ⟨he, n, hm.symm⟩
theorem scaled_core (b : Bool) (x y k H L h1 l1 l2 l3 : Nat) (hk : (k : Int) ≤ 32) (w : World)
    (M : Hid (∀ w, Calls Try.prog 33 #[.int .u64 x, .int .u64 y] w fun e w' => e = .returned (.tuple #[.int .u64 (H : Int), .int .u64 (L : Int)]) ∧ w = w'))
    (r1 : (H : Int) / 2 ^ k = (h1 : Int)) (r2 : IntKind.u64.wrap ((H : Int) * 2 ^ (64 - k)) = (l1 : Int)) (r3 : (L : Int) / 2 ^ k = (l2 : Int)) (r4 : bits .or .u64 (l1 : Int) (l2 : Int) = (l3 : Int))
    (A B : Int) (C : Hid (∀ w, Calls Try.prog 40 #[.bool b, .int .u64 h1, .int .u64 l3] w fun e w' => e = .returned (.tuple #[.int .i64 A, .int .i64 B]) ∧ w = w')) :
    Calls Try.prog 35 #[.bool b, .int .u64 x, .int .u64 y, .int .i64 k] w fun e w' => Two A B w e w' := by
  go_enter Try.func35, Try.ntmps35
  go_wp2_with (go_at_call 33; refine (M.out _).mono ?_; rintro e w' ⟨rfl, rfl⟩)
  go_quiet ((go_at_call 40; exact quiet_is (C.out _)))
  go_wp2_with fail
  exact bodyPost_ret (results_tmp2 rfl _ _ _) rfl ⟨rfl, _, rfl⟩

theorem scaled_any (b : Bool) (x y k : Nat) (hx : x < 18446744073709551616) (hy : y < 18446744073709551616) (hk : k ≤ 32) (w : World) :
    Calls Try.prog 35 #[.bool b, .int .u64 x, .int .u64 y, .int .i64 k] w fun e w' => Two (held (signedOf b (x * y / 2 ^ k))) (over (signedOf b (x * y / 2 ^ k))) w e w' := by
  obtain ⟨h1, h2⟩ := two_words_down (x * y / 18446744073709551616) (x * y % 18446744073709551616) k (by omega) (Nat.mod_lt _ (by omega))
  have hP : x * y / 18446744073709551616 * 18446744073709551616 + x * y % 18446744073709551616 = x * y := Nat.div_add_mod' _ _
  rw [hP] at h1
  have M := mul64_any x y hx hy
  have hH : x * y / 18446744073709551616 < 18446744073709551616 := by
    rw [Nat.div_lt_iff_lt_mul (by omega)]
    exact Nat.mul_lt_mul'' hx hy
  have hL : x * y % 18446744073709551616 < 18446744073709551616 := Nat.mod_lt _ (by omega)
  rw [← h1]
  generalize x * y / 18446744073709551616 = H at *
  generalize x * y % 18446744073709551616 = L at *
  have g1 : H / 2 ^ k ≤ H := Nat.div_le_self _ _
  have g2 : L / 2 ^ k ≤ L := Nat.div_le_self _ _
  have g3 : H * 2 ^ (64 - k) % 18446744073709551616 < 18446744073709551616 := Nat.mod_lt _ (by omega)
  refine scaled_core b x y k H L (H / 2 ^ k) (H * 2 ^ (64 - k) % 18446744073709551616) (L / 2 ^ k) _ (by omega) w (Lib.hid M) (by simp) ?_ (by simp) (bits_or_u64_nat _ _ (by omega) (by omega)) _ _ (Lib.hid fun w => ?_)
  · rw [show ((H : Int) * 2 ^ (64 - k)) = ((H * 2 ^ (64 - k) : Nat) : Int) by simp, IntKind.wrap_u64]; omega
  · exact held_any b _ _ w (by omega) (by omega)

theorem fits_abs {a : Int} (h : fits a) : a.natAbs < 18446744073709551616 := by unfold fits at h; omega
theorem signed_mul (a b : Int) (m : Nat) : signedOf (!(decide (a < 0) == decide (b < 0))) (a.natAbs * b.natAbs / m) = (a * b).tdiv m := by
  have key : ∀ n k : Nat, ((n / k : Nat) : Int) = (n : Int).tdiv (k : Int) := fun n k => by rw [Int.tdiv_eq_ediv_of_nonneg (by omega)]; exact Int.natCast_ediv n k
  unfold signedOf
  rw [key, Int.natCast_mul]
  by_cases ha : a < 0 <;> by_cases hb : b < 0
  · have e1 : (a.natAbs : Int) = -a := by omega
    have e2 : (b.natAbs : Int) = -b := by omega
    simp [ha, hb, e1, e2, Int.neg_mul, Int.mul_neg]
  · have e1 : (a.natAbs : Int) = -a := by omega
    have e2 : (b.natAbs : Int) = b := by omega
    simp [ha, hb, e1, e2, Int.neg_mul]
  · have e1 : (a.natAbs : Int) = a := by omega
    have e2 : (b.natAbs : Int) = -b := by omega
    simp [ha, hb, e1, e2, Int.mul_neg]
  · have e1 : (a.natAbs : Int) = a := by omega
    have e2 : (b.natAbs : Int) = b := by omega
    simp [ha, hb, e1, e2]
theorem mul_core (a b X : Int) (na nb : Nat) (sa sb sx : Bool) (w : World) (s1 : decide (a < 0) = sa) (s2 : decide (b < 0) = sb) (s3 : (!(sa == sb)) = sx)
    (Sa : Hid (∀ w, Calls Try.prog 36 #[.int .i64 a] w fun e w' => e = .returned (.int .u64 na) ∧ w = w'))
    (Sb : Hid (∀ w, Calls Try.prog 36 #[.int .i64 b] w fun e w' => e = .returned (.int .u64 nb) ∧ w = w'))
    (C : Hid (∀ w, Calls Try.prog 35 #[.bool sx, .int .u64 na, .int .u64 nb, .int .i64 32] w fun e w' => Two (held X) (over X) w e w')) :
    Calls Try.prog 25 #[.int .i64 a, .int .i64 b] w fun e w' => Two (held X) (over X) w e w' := by
  go_enter Try.func25, Try.ntmps25
  go_wp2_with (first | (go_at_call 36; first | (with_reducible refine (Sa.out _).mono ?_; rintro e w' ⟨rfl, rfl⟩) | (with_reducible refine (Sb.out _).mono ?_; rintro e w' ⟨rfl, rfl⟩)) | (go_at_call 35; refine (C.out _).mono ?_; rintro e w' ⟨rfl, n, rfl⟩))
  exact bodyPost_ret (results_tmp2 rfl _ _ _) rfl ⟨rfl, _, rfl⟩
theorem mul_any (a b : Int) (w : World) (ha : fits a) (hb : fits b) :
    Calls Try.prog 25 #[.int .i64 a, .int .i64 b] w fun e w' => Two (held ((a * b).tdiv 4294967296)) (over ((a * b).tdiv 4294967296)) w e w' := by
  rw [show (4294967296 : Int) = ((2 ^ 32 : Nat) : Int) from rfl, ← signed_mul]
  exact mul_core a b _ a.natAbs b.natAbs _ _ _ w rfl rfl rfl (Lib.hid fun w => size_any a w ha) (Lib.hid fun w => size_any b w hb)
    (Lib.hid (scaled_any _ a.natAbs b.natAbs 32 (fits_abs ha) (fits_abs hb) (by omega)))

/-- Div where it divides -/
theorem div_core (a b X : Int) (na nb hi lo q : Nat) (sa sb sx : Bool) (w : World) (s0 : (b == 0) = false) (s1 : decide (a < 0) = sa) (s2 : decide (b < 0) = sb) (s3 : (!(sa == sb)) = sx)
    (Sa : Hid (∀ w, Calls Try.prog 36 #[.int .i64 a] w fun e w' => e = .returned (.int .u64 na) ∧ w = w'))
    (Sb : Hid (∀ w, Calls Try.prog 36 #[.int .i64 b] w fun e w' => e = .returned (.int .u64 nb) ∧ w = w'))
    (h1 : (na : Int) / 4294967296 = (hi : Int)) (h2 : IntKind.u64.wrap ((na : Int) * 4294967296) = (lo : Int)) (h4 : decide (nb ≤ hi) = false)
    (D : Hid (∀ w, Calls Try.prog 39 #[.int .u64 hi, .int .u64 lo, .int .u64 nb] w fun e w' => QuoRem (q : Int) w e w'))
    (C : Hid (∀ w, Calls Try.prog 40 #[.bool sx, .int .u64 0, .int .u64 q] w fun e w' => e = .returned (.tuple #[.int .i64 (held X), .int .i64 (over X)]) ∧ w = w')) :
    Calls Try.prog 26 #[.int .i64 a, .int .i64 b] w fun e w' => Two (held X) (over X) w e w' := by
  go_enter Try.func26, Try.ntmps26
  go_wp2_with (first | (go_at_call 36; first | (with_reducible refine (Sa.out _).mono ?_; rintro e w' ⟨rfl, rfl⟩) | (with_reducible refine (Sb.out _).mono ?_; rintro e w' ⟨rfl, rfl⟩)) | (go_at_call 39; refine (D.out _).mono ?_; rintro e w' ⟨r, rfl, n, rfl⟩) | (go_at_call 40; refine (C.out _).mono ?_; rintro e w' ⟨rfl, rfl⟩))
  exact bodyPost_ret (results_tmp2 rfl _ _ _) rfl ⟨rfl, _, rfl⟩
theorem div_over (a b : Int) (na nb hi lo : Nat) (sa sb sx : Bool) (w : World) (s0 : (b == 0) = false) (s1 : decide (a < 0) = sa) (s2 : decide (b < 0) = sb) (s3 : (!(sa == sb)) = sx)
    (Sa : Hid (∀ w, Calls Try.prog 36 #[.int .i64 a] w fun e w' => e = .returned (.int .u64 na) ∧ w = w'))
    (Sb : Hid (∀ w, Calls Try.prog 36 #[.int .i64 b] w fun e w' => e = .returned (.int .u64 nb) ∧ w = w'))
    (h1 : (na : Int) / 4294967296 = (hi : Int)) (h2 : IntKind.u64.wrap ((na : Int) * 4294967296) = (lo : Int)) (h4 : nb ≤ hi) (V : Int)
    (E : Hid (∀ w, Calls Try.prog 30 #[.bool sx] w fun e w' => e = .returned (.int .i64 V) ∧ w = w')) :
    Calls Try.prog 26 #[.int .i64 a, .int .i64 b] w fun e w' => Two V 1 w e w' := by
  go_enter Try.func26, Try.ntmps26
  go_wp2_with (first | (go_at_call 36; first | (with_reducible refine (Sa.out _).mono ?_; rintro e w' ⟨rfl, rfl⟩) | (with_reducible refine (Sb.out _).mono ?_; rintro e w' ⟨rfl, rfl⟩)) | (go_at_call 30; refine (E.out _).mono ?_; rintro e w' ⟨rfl, rfl⟩))
  exact bodyPost_ret (results_tmp2 rfl _ _ _) rfl ⟨rfl, 0, rfl⟩
theorem div_zero (a : Int) (w : World) :
    Calls Try.prog 26 #[.int .i64 a, .int .i64 0] w fun e w' => Two (if a = 0 then 0 else if a < 0 then -9223372036854775808 else 9223372036854775807) 2 w e w' := by
  have E := Lib.hid (divByZero_any a)
  generalize (if a = 0 then (0 : Int) else if a < 0 then -9223372036854775808 else 9223372036854775807) = V at *
  go_enter Try.func26, Try.ntmps26
  go_wp2_with (go_at_call 38; refine (E.out _).mono ?_; rintro e w' ⟨rfl, rfl⟩)
  exact bodyPost_ret (results_tmp2 rfl _ _ _) rfl ⟨rfl, 0, rfl⟩
/-- the quotient, held, of any number by one that isn't 0 -/
theorem div_any (a b : Int) (w : World) (ha : fits a) (hb : fits b) (h0 : b ≠ 0) :
    Calls Try.prog 26 #[.int .i64 a, .int .i64 b] w fun e w' => Two (held ((a * 4294967296).tdiv b)) (over ((a * 4294967296).tdiv b)) w e w' := by
  have hna := fits_abs ha
  have hnb := fits_abs hb
  have hn0 : 0 < b.natAbs := by omega
  have hX : (a * 4294967296).tdiv b = signedOf (!(decide (a < 0) == decide (b < 0))) (a.natAbs * 4294967296 / b.natAbs) := by
    have key : ((a.natAbs * 4294967296 / b.natAbs : Nat) : Int) = ((a.natAbs * 4294967296 : Nat) : Int).tdiv (b.natAbs : Int) := by
      rw [Int.tdiv_eq_ediv_of_nonneg (by omega)]; exact Int.natCast_ediv _ _
    unfold signedOf
    rw [key, Int.natCast_mul]
    show _ = if (!(decide (a < 0) == decide (b < 0))) = true then -((a.natAbs : Int) * 4294967296).tdiv (b.natAbs : Int) else ((a.natAbs : Int) * 4294967296).tdiv (b.natAbs : Int)
    by_cases ca : a < 0 <;> by_cases cb : b < 0
    · have e1 : (a.natAbs : Int) = -a := by omega
      have e2 : (b.natAbs : Int) = -b := by omega
      simp [ca, cb, e1, e2, Int.neg_mul]
    · have e1 : (a.natAbs : Int) = -a := by omega
      have e2 : (b.natAbs : Int) = b := by omega
      simp [ca, cb, e1, e2, Int.neg_mul]
    · have e1 : (a.natAbs : Int) = a := by omega
      have e2 : (b.natAbs : Int) = -b := by omega
      simp [ca, cb, e1, e2]
    · have e1 : (a.natAbs : Int) = a := by omega
      have e2 : (b.natAbs : Int) = b := by omega
      simp [ca, cb, e1, e2]
  rw [hX]
  clear hX
  have Sa := fun w => size_any a w ha
  have Sb := fun w => size_any b w hb
  have s0 : (b == 0) = false := beq_false_of_ne h0
  generalize hsa : decide (a < 0) = sa
  generalize hsb : decide (b < 0) = sb
  generalize hna' : a.natAbs = na at *
  generalize hnb' : b.natAbs = nb at *
  by_cases hh : nb ≤ na / 4294967296
  · have hbig : 18446744073709551616 ≤ na * 4294967296 / nb := by
      rw [Nat.le_div_iff_mul_le hn0]
      have h5 : nb * 18446744073709551616 ≤ na / 4294967296 * 18446744073709551616 := Nat.mul_le_mul_right _ hh
      omega
    have c := div_over a b na nb (na / 4294967296) (na * 4294967296 % 18446744073709551616) sa sb _ w s0 hsa hsb rfl (Lib.hid Sa) (Lib.hid Sb) (by omega) (by rw [IntKind.wrap_u64]; omega) hh _ (Lib.hid fun w => end_any _ w)
    refine c.mono fun e w' h => ?_
    generalize (!(sa == sb)) = sx at *
    generalize na * 4294967296 / nb = x at *
    unfold signedOf
    cases sx
    · rw [if_neg (by simp)] at h ⊢
      rw [held_hi (by omega), over_out (.inr (by omega))]
      exact h
    · rw [if_pos rfl] at h ⊢
      rw [held_lo (by omega), over_out (.inl (by omega))]
      exact h
  · have hq : na * 4294967296 / nb < 18446744073709551616 := by
      rw [Nat.div_lt_iff_lt_mul hn0]
      have h5 : na / 4294967296 * 18446744073709551616 + 18446744073709551616 ≤ nb * 18446744073709551616 := by omega
      omega
    have D := fun w => div64_any (na / 4294967296) (na * 4294967296 % 18446744073709551616) nb w (by omega) hnb (Nat.mod_lt _ (by omega))
    have hU : na / 4294967296 * 18446744073709551616 + na * 4294967296 % 18446744073709551616 = na * 4294967296 := by omega
    rw [hU] at D
    generalize na * 4294967296 / nb = x at *
    have e0 : 0 * 18446744073709551616 + x = x := by rw [Nat.zero_mul, Nat.zero_add]
    have hx : (x : Int) ≤ 18446744073709551615 := by clear hU hh D; omega
    have hz : ((0 : Nat) : Int) ≤ 18446744073709551615 := by simp
    have C := fun w => held_any (!(sa == sb)) 0 x w hz hx
    rw [e0] at C
    exact div_core a b _ na nb (na / 4294967296) (na * 4294967296 % 18446744073709551616) _ sa sb _ w s0 hsa hsb rfl (Lib.hid Sa) (Lib.hid Sb) (by omega) (by rw [IntKind.wrap_u64]; omega) (decide_eq_false hh) (Lib.hid D) (Lib.hid C)
end Go.Proofs.Ytehngngkdnmhgaa
