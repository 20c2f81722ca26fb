/- What the reference's Down answers of a number in bits: it, divided by a power of two, nearer to 0. -/
import Derived.Test.YtehngngkdnmhgaaRefUp
namespace Go.Proofs.Ytehngngkdnmhgaa
open Go.RowKit

def DownQ (xs : List Bool) (n : Nat) (zs : List Bool) : Prop := val zs = val xs / 2 ^ n ∧ zs.length ≤ xs.length
theorem rb_drop {w : World} {ad : Addr} {c n : Nat} {xs : List Bool} (h : RB w (some ad) c xs) (_hn : n ≤ xs.length) : RB w (some (ad.add n)) (c - n) (xs.drop n) := by
  obtain ⟨⟨h1, _⟩, h2, h3⟩ := h
  refine ⟨⟨by rw [List.length_drop]; omega, fun e => by cases e⟩, by omega, fun hne => ?_⟩
  obtain ⟨ad', e, hb, hc⟩ := h3 (by rintro rfl; simp at hne)
  injection e with e
  subst e
  refine ⟨_, rfl, by rw [add_block]; exact hb, fun j u hu => ?_⟩
  rw [List.getElem?_drop] at hu
  have e2 : (ad.add n).add j = ad.add (n + j) := by
    unfold Addr.add
    by_cases hi : n = 0 <;> by_cases hj : j = 0 <;> simp [hi, hj, Nat.add_assoc]
  rw [e2]
  exact hc _ u hu
theorem down_long (A : Option Addr) (c n : Nat) (xs : List Bool) (s : Bool) (w : World) (hn : xs.length < n) :
    Calls Try.prog 37 #[.agg #[.slice A xs.length c, .bool s], .int .i64 n] w fun e w' => BigPost s (DownQ xs n) w e w' := by
  have H := Lib.hid hn
  have z1 : decide (xs.length < n) = true := decide_eq_true hn
  clear hn
  go_enter Try.func37, Try.ntmps37
  go_wp2_with fail
  have hb : Below w.heap.size w ((w.alloc (.cells #[.slice A xs.length c, .bool s] 29)).alloc (.cells #[.slice none 0 0, .bool s] 29)) := ((Below.refl _ w).alloc (Nat.le_refl _) _).alloc (by simp) _
  refine bodyPost_ret (v := .agg #[.slice none 0 0, .bool s]) (by simp [results, Try.results37, go_sem]) rfl ⟨none, 0, [], rfl, rb_nil _, ⟨?_, by simp⟩, hb⟩
  have h1 := val_lt xs
  have h2 : 2 ^ xs.length ≤ 2 ^ n := Nat.pow_le_pow_right (by omega) (Nat.le_of_lt H.out)
  rw [Nat.div_eq_of_lt (by omega)]
  rfl
theorem down_some (ad : Addr) (c n : Nat) (xs : List Bool) (s : Bool) (w : World) (h : RB w (some ad) c xs) (hn : n ≤ xs.length) (hn2 : (n : Int) ≤ 32) (hc : c ≠ n) :
    Calls Try.prog 37 #[.agg #[.slice (some ad) xs.length c, .bool s], .int .i64 n] w fun e w' => BigPost s (DownQ xs n) w e w' := by
  have H := Lib.hid h
  have HN := Lib.hid hn
  have z1 : decide (xs.length < n) = false := decide_eq_false (by omega)
  have z2 : (n : Int) ≤ (xs.length : Int) := by omega
  have z3 : (xs.length : Int) ≤ (c : Int) := by have := h.1.1; omega
  have z4 : (c == n) = false := beq_false_of_ne hc
  have z5 : (c : Int) ≤ 9223372036854775807 := by have := h.2.1; omega
  clear h hn
  go_enter Try.func37, Try.ntmps37
  go_wp2_with fail
  go_region
  go_wp2_with fail
  have hb : Below w.heap.size w ((w.alloc (.cells #[.slice (some ad) xs.length c, .bool s] 29)).alloc (.cells #[.slice (some (ad.add n)) (xs.length - n) (c - n), .bool s] 29)) := ((Below.refl _ w).alloc (Nat.le_refl _) _).alloc (by simp) _
  refine bodyPost_ret (v := .agg #[.slice (some (ad.add n)) (xs.length - n) (c - n), .bool s]) (by simp [results, Try.results37, go_sem]) rfl ⟨some (ad.add n), c - n, xs.drop n, by rw [List.length_drop], rb_below (rb_drop H.out HN.out) hb.drew, ⟨val_drop xs n, by rw [List.length_drop]; omega⟩, hb.drew⟩
theorem down_all (ad : Addr) (n : Nat) (xs : List Bool) (s : Bool) (w : World) (hn : n = xs.length) :
    Calls Try.prog 37 #[.agg #[.slice (some ad) xs.length n, .bool s], .int .i64 n] w fun e w' => BigPost s (DownQ xs n) w e w' := by
  have HN := Lib.hid hn
  rw [← hn]
  clear hn
  go_enter Try.func37, Try.ntmps37
  go_wp2_with fail
  go_region
  go_wp2_with fail
  have hb : Below w.heap.size w ((w.alloc (.cells #[.slice (some ad) n n, .bool s] 29)).alloc (.cells #[.slice (some ad) 0 0, .bool s] 29)) := ((Below.refl _ w).alloc (Nat.le_refl _) _).alloc (by simp) _
  refine bodyPost_ret (v := .agg #[.slice (some ad) 0 0, .bool s]) (by simp [results, Try.results37, go_sem]) rfl ⟨some ad, 0, [], rfl, ⟨⟨by simp, fun e => by cases e⟩, by omega, fun h => absurd rfl h⟩, ⟨?_, by simp⟩, hb.drew⟩
  have h1 := val_lt xs
  rw [← HN.out] at h1
  rw [Nat.div_eq_of_lt h1]
  rfl
theorem down_none (s : Bool) (w : World) :
    Calls Try.prog 37 #[.agg #[.slice none 0 0, .bool s], .int .i64 0] w fun e w' => BigPost s (DownQ [] 0) w e w' := by
  go_enter Try.func37, Try.ntmps37
  go_wp2_with fail
  go_region
  go_wp2_with fail
  have hb : Below w.heap.size w ((w.alloc (.cells #[.slice none 0 0, .bool s] 29)).alloc (.cells #[.slice none 0 0, .bool s] 29)) := ((Below.refl _ w).alloc (Nat.le_refl _) _).alloc (by simp) _
  exact bodyPost_ret (v := .agg #[.slice none 0 0, .bool s]) (by simp [results, Try.results37, go_sem]) rfl ⟨none, 0, [], rfl, rb_nil _, ⟨rfl, by simp⟩, hb.drew⟩
theorem down_ref (A : Option Addr) (c n : Nat) (xs : List Bool) (s : Bool) (w : World) (h : RB w A c xs) (hn : n ≤ 32) :
    Calls Try.prog 37 #[.agg #[.slice A xs.length c, .bool s], .int .i64 n] w fun e w' => BigPost s (DownQ xs n) w e w' := by
  by_cases hl : xs.length < n
  · exact down_long A c n xs s w hl
  · cases A with
    | none =>
      obtain rfl := h.1.2 rfl
      obtain rfl : xs = [] := List.eq_nil_of_length_eq_zero (by have := h.1.1; omega)
      obtain rfl : n = 0 := by simp at hl; exact hl
      exact down_none s w
    | some ad =>
      by_cases hc : c = n
      · subst hc
        exact down_all ad c xs s w (by have := h.1.1; omega)
      · exact down_some ad c n xs s w h (by omega) (by omega) hc
end Go.Proofs.Ytehngngkdnmhgaa
