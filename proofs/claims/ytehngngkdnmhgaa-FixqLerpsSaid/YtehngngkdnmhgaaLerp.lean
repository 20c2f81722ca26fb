/- What package fixq's Lerp answers at any numbers. -/
import Derived.Test.YtehngngkdnmhgaaFix
import Derived.WalkLawsBesides
import Derived.Deep.Cut
namespace Go.Proofs.Ytehngngkdnmhgaa
open Go.RowKit

def KeepRel (w : World) (p : Addr) (o : Int) (i : Value) (wr : World) : Prop := (i = .int .i64 0 ∧ wr = w) ∨ (i = .int .i64 1 ∧ wr = w.setCell p (.int .i64 o))
theorem keep_any (q r f : Int) (g : Nat) (p : Addr) (w : World) (hr : w.cell? ⟨g, 0, none⟩ = some (.int .i64 r)) (hf : w.cell? p = some (.int .i64 f)) (hz : w.frozen? p = false) (o : Int) (ho : bits .or .i64 f r = o) :
    Calls Try.prog 34 #[.int .i64 q, .slice (some ⟨g, 0, none⟩) 1 1, .pointer (some p)] w fun e w' => e = .returned (.int .i64 q) ∧ w.setCell p (.int .i64 o) = w' := by
  go_enter Try.func34, Try.ntmps34
  go_wp2_with fail
  go_loopw [10] (fun i wr => KeepRel w p o i wr) (fun i _ => (2 - intOf i).toNat)
  case atStart => exact .inl ⟨rfl, rfl⟩
  case round =>
    rcases hrel with ⟨rfl, rfl⟩ | ⟨rfl, rfl⟩
    · go_wp2_with fail
      go_roundw
      case rel => first | exact .inr ⟨rfl, rfl⟩ | (unfold KeepRel; simp)
      case measure => simp [intOf]
    · go_wp2_with fail
      go_ret
      exact ⟨rfl, rfl⟩
theorem below_dr {B : Nat} {a w : World} (h : Below B a w) (n : Nat) : Below B a (w.drewN n) := ⟨h.os, h.tape, h.output, h.size, h.block⟩
theorem below_al {a w : World} (h : Below a.heap.size a w) (o : Obj) : Below a.heap.size a (w.alloc o) := h.alloc h.size o
/-- two answers, and a world where what was there is as it was -/
def LerpPost (x y : Int) (w : World) (e : Ending) (w' : World) : Prop := e = .returned (.tuple #[.int .i64 x, .int .i64 y]) ∧ Below w.heap.size w w'
set_option maxHeartbeats 2000000 in
theorem lerp_core (a b m k d f1 t f2 x f3 o1 o2 o3 : Int) (K P nd : Nat) (sd : Bool) (w : World) (e1 : min (max k 0) 32 = (K : Int)) (e1b : (K : Int) ≤ 32)
    (SU : Hid (∀ w, Calls Try.prog 12 #[.int .i64 b, .int .i64 a] w fun e w' => e = .returned (.tuple #[.int .i64 d, .int .i64 f1]) ∧ w = w'))
    (AD : Hid (∀ w, Calls Try.prog 11 #[.int .i64 a, .int .i64 t] w fun e w' => e = .returned (.tuple #[.int .i64 x, .int .i64 f3]) ∧ w = w'))
    (SZ : Hid (∀ w, Calls Try.prog 36 #[.int .i64 d] w fun e w' => e = .returned (.int .u64 nd) ∧ w = w'))
    (SC : Hid (∀ w, Calls Try.prog 35 #[.bool sd, .int .u64 nd, .int .u64 P, .int .i64 K] w fun e w' => Two t f2 w e w'))
    (h1 : Hid (bits .or .i64 0 f1 = o1)) (h2 : Hid (bits .or .i64 o1 f2 = o2)) (h3 : Hid (bits .or .i64 o2 f3 = o3)) (hsd : decide (d < 0) = sd) (e2 : IntKind.u64.wrap (min (max m 0) (wrap64 (2 ^ K))) = (P : Int)) :
    Calls Try.prog 23 #[.int .i64 a, .int .i64 b, .int .i64 m, .int .i64 k] w fun e w' => LerpPost x o3 w e w' := by
  go_enter Try.func23, Try.ntmps23
  go_wp2_with (first
    | (go_at_call 12; (with_reducible refine (SU.out _).mono ?_); rintro e w' ⟨rfl, rfl⟩)
    | (go_at_call 11; (with_reducible refine (AD.out _).mono ?_); rintro e w' ⟨rfl, rfl⟩)
    | (go_at_call 36; (with_reducible refine (SZ.out _).mono ?_); rintro e w' ⟨rfl, rfl⟩)
    | (go_at_call 35; (with_reducible refine (SC.out _).mono ?_); rintro e w' ⟨rfl, n, rfl⟩)
    | (go_at_call 34; (with_reducible refine (keep_any d f1 0 (w.heap.size + 1) ⟨w.heap.size, 0, none⟩ _ ?_ ?_ ?_ o1 h1.out).mono ?_); (focus (go_simp; done)); (focus (go_simp; done)); (focus (go_simp; done)); rintro e w' ⟨rfl, rfl⟩)
    | (go_at_call 34; (with_reducible refine (keep_any t f2 o1 (w.heap.size + 1 + 1) ⟨w.heap.size, 0, none⟩ _ ?_ ?_ ?_ o2 h2.out).mono ?_); (focus (go_simp; done)); (focus (go_simp; done)); (focus (go_simp; done)); rintro e w' ⟨rfl, rfl⟩)
    | (go_at_call 34; (with_reducible refine (keep_any x f3 o2 (w.heap.size + 1 + 1 + 1) ⟨w.heap.size, 0, none⟩ _ ?_ ?_ ?_ o3 h3.out).mono ?_); (focus (go_simp; done)); (focus (go_simp; done)); (focus (go_simp; done)); rintro e w' ⟨rfl, rfl⟩))
  go_quiet (fail)
  go_wp2_with fail
  exact bodyPost_ret (results_tmp2 rfl _ _ _) rfl ⟨rfl, below_dr (below_al (below_al ((((below_dr (below_al (below_al (Below.refl _ w) _) _) _).setCell (Nat.le_refl _) _).setCell (Nat.le_refl _) _)) _) _) _⟩
/-- flags together -/
def orf (u v : Int) : Int := if u = 0 ∧ v = 0 then 0 else 1
theorem or_flags {u v : Int} (hu : u = 0 ∨ u = 1) (hv : v = 0 ∨ v = 1) : bits .or .i64 u v = orf u v := by
  rcases hu with rfl | rfl <;> rcases hv with rfl | rfl <;> decide +kernel
theorem orf_01 (u v : Int) : orf u v = 0 ∨ orf u v = 1 := by unfold orf; split <;> simp
def lerpK (k : Int) : Nat := (min (max k 0) 32).toNat
def lerpP (m : Int) (K : Nat) : Nat := (min (max m 0) (2 ^ K)).toNat
theorem lerpK_le (k : Int) : lerpK k ≤ 32 := by unfold lerpK; omega
theorem pow_le32 {K : Nat} (h : K ≤ 32) : 2 ^ K ≤ 4294967296 := Nat.le_trans (Nat.pow_le_pow_right (show 0 < 2 by omega) h) (by decide)
theorem lerpP_le (m : Int) (K : Nat) : lerpP m K ≤ 2 ^ K := by
  unfold lerpP
  have h : (2 : Int) ^ K = ((2 ^ K : Nat) : Int) := by simp
  rw [h]
  generalize 2 ^ K = q
  rw [Int.min_def, Int.max_def]
  split <;> split <;> omega
/-- how far along: a part of a difference -/
def wayOf (d : Int) (P K : Nat) : Int := (d * P).tdiv ((2 ^ K : Nat) : Int)
def lerpX (a b m k : Int) : Int := held (a + held (wayOf (held (b - a)) (lerpP m (lerpK k)) (lerpK k)))
def lerpF (a b m k : Int) : Int := orf (orf (over (b - a)) (over (wayOf (held (b - a)) (lerpP m (lerpK k)) (lerpK k)))) (over (a + held (wayOf (held (b - a)) (lerpP m (lerpK k)) (lerpK k))))
theorem lerp_any (a b m k : Int) (w : World) (ha : fits a) (hb : fits b) :
    Calls Try.prog 23 #[.int .i64 a, .int .i64 b, .int .i64 m, .int .i64 k] w fun e w' => LerpPost (lerpX a b m k) (lerpF a b m k) w e w' := by
  have hd := held_fits (b - a)
  have hK := lerpK_le k
  have hPow := pow_le32 hK
  have hP := lerpP_le m (lerpK k)
  have hd2 : fits (held (b - a)) := hd
  have hway := held_fits (wayOf (held (b - a)) (lerpP m (lerpK k)) (lerpK k))
  have hs : signedOf (decide (held (b - a) < 0)) ((held (b - a)).natAbs * lerpP m (lerpK k) / 2 ^ lerpK k) = wayOf (held (b - a)) (lerpP m (lerpK k)) (lerpK k) := by
    have h := signed_mul (held (b - a)) (lerpP m (lerpK k) : Int) (2 ^ lerpK k)
    have hz : decide (((lerpP m (lerpK k) : Nat) : Int) < 0) = false := decide_eq_false (by omega)
    rw [hz, Int.natAbs_natCast] at h
    unfold wayOf
    rw [← h]
    cases decide (held (b - a) < 0) <;> rfl
  have SC := fun w => scaled_any (decide (held (b - a) < 0)) (held (b - a)).natAbs (lerpP m (lerpK k)) (lerpK k) (fits_abs hd2) (by omega) hK w
  rw [hs] at SC
  unfold lerpX lerpF
  have h1 : bits .or .i64 0 (over (b - a)) = over (b - a) := by rcases over_01 (b - a) with h | h <;> rw [h] <;> decide +kernel
  refine lerp_core a b m k _ _ _ _ _ _ _ _ _ (lerpK k) (lerpP m (lerpK k)) _ _ w (by unfold lerpK; omega) (by omega) (Lib.hid fun w => sub_any b a w hb ha)
    (Lib.hid fun w => add_any a _ w ha hway) (Lib.hid fun w => size_any _ w hd2) (Lib.hid SC) (Lib.hid h1) (Lib.hid (or_flags (over_01 _) (over_01 _))) (Lib.hid (or_flags (orf_01 _ _) (over_01 _))) rfl ?_
  have e : (2 : Int) ^ lerpK k = ((2 ^ lerpK k : Nat) : Int) := by simp
  rw [e, IntWalk.wrap64_in _ ⟨by omega, by omega⟩, IntKind.wrap_u64]
  unfold lerpP
  rw [e]
  generalize 2 ^ lerpK k = q at *
  rw [Int.min_def, Int.max_def]
  split <;> split <;> omega
end Go.Proofs.Ytehngngkdnmhgaa
