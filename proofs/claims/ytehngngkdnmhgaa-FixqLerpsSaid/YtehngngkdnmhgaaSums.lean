/- FixqSums, walked at any numbers. -/
import Derived.Test.YtehngngkdnmhgaaRefSum
import Derived.Test.YtehngngkdnmhgaaLaws
namespace Go.Proofs.Ytehngngkdnmhgaa
open Go.RowKit

theorem held_at (A : Option Addr) (c : Nat) (xs : List Bool) (s : Bool) (X : Int) (w : World) (h : RB w A c xs) (hl : xs.length ≤ 1000000) (hX : sval s (val xs) = X) :
    Calls Try.prog 16 #[.agg #[.slice A xs.length c, .bool s]] w fun e w' => HeldPost X w e w' := by subst hX; exact held_ref A c xs s w h hl
/-- one call more -/
theorem chain {w a b : World} (h : Below w.heap.size w a) (k : Below a.heap.size a b) : Below w.heap.size w b := h.trans (k.mono h.size)
set_option maxHeartbeats 2000000 in
theorem sums_any (a b : Int) (w : World) (ha : fits a) (hb : fits b) :
    Calls Try.prog 3 #[.int .i64 a, .int .i64 b] w fun e w' => e = .returned (.bool true) ∧ Below w.heap.size w w' := by
  have FA := Lib.hid ha; have FB := Lib.hid hb
  have AD := Lib.hid fun w => add_any a b w ha hb
  have SU := Lib.hid fun w => sub_any a b w ha hb
  have NE := Lib.hid fun w => neg_any a w ha
  have RS := Lib.hid fun w => sum_ref a b w ha hb
  have RD := Lib.hid fun w => diff_ref a b w ha hb
  clear ha hb
  go_enter Try.func3, Try.ntmps3
  go_wp2_with (first
    | (go_at_call 10; refine (alive_any _).mono ?_; rintro e w' ⟨rfl, n, rfl⟩)
    | (go_at_call 11; refine (AD.out _).mono ?_; rintro e w' ⟨rfl, rfl⟩)
    | (go_at_call 12; refine (SU.out _).mono ?_; rintro e w' ⟨rfl, rfl⟩)
    | (go_at_call 13; refine (NE.out _).mono ?_; rintro e w' ⟨rfl, rfl⟩)
    | (go_at_call 14; refine (RS.out _).mono ?_; rintro e w1 ⟨rfl, hw⟩; have B1 := Lib.hid hw; clear hw)
    | (go_at_call 15; refine (RD.out _).mono ?_; rintro e w2 ⟨rfl, hw⟩; have B2 := Lib.hid hw; clear hw)
    | (go_at_call 18; (with_reducible refine (of_any a _ FA.out).mono ?_); rintro e w3 ⟨A1, c1, z1, rfl, hr, hq, hw⟩; have N1 := Lib.hid (show z1.length ≤ 1000000 from Nat.le_trans hq.2 (by omega)); have R1 := Lib.hid hr; have Q1 := Lib.hid hq; have B3 := Lib.hid hw; clear hr hq hw)
    | (go_at_call 17; (with_reducible refine (neg_ref A1 c1 z1 _ _ R1.out).mono ?_); rintro e w4 ⟨A5, c5, z5, rfl, hr, rfl, hw⟩; have HD := Lib.hid (held_at A5 c5 z5 (!decide (a < 0)) (-a) _ hr N1.out (by rw [Q1.out.1, sval_neg, sval_abs])); have B4 := Lib.hid hw; clear hr hw)
    | (go_at_call 16; (with_reducible refine HD.out.mono ?_); rintro e w5 ⟨rfl, hw⟩; have B5 := Lib.hid hw; clear hw))
  go_ret
  exact ⟨rfl, chain (chain (chain (chain (chain (below_drewN (Below.refl _ w) _) B1.out) B2.out) B3.out) B4.out) B5.out⟩
end Go.Proofs.Ytehngngkdnmhgaa
