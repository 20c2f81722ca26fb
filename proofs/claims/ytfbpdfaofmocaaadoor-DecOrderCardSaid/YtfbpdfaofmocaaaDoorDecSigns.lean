/- The law DecSigns. -/
import Derived.Test.YtfbpdfaofmocaaaDoorDecAlive
namespace Go.Proofs.YtfbpdfaofmocaaaDoor
open Go.RowKit

theorem str_of (s : ByteArray) : s = str s.data.toList := by unfold str; simp
set_option maxHeartbeats 4000000 in
theorem signs_long (S : ByteArray) (z : Nat) (e1 : S.size = z) (hz : decide ((100 : Int) < (z : Int)) = true) (w : World) (A : Hid (Calls Tryd.prog 8 #[] w fun e w' => AlivePost w e w')) :
    Calls Tryd.prog 7 #[.string S] w fun e w' => AlivePost w e w' := by
  go_enter Tryd.func7, Tryd.ntmps7
  go_wp2_with (first
    | (go_at_call 8; refine A.out.mono ?_; rintro e w1 ⟨rfl, b1⟩; have B1 := Lib.hid b1; clear b1))
  go_ret
  exact ⟨rfl, B1.out⟩
set_option maxHeartbeats 1000000 in
theorem signs_law (S S1 S2 : ByteArray) (z : Nat) (e1 : S.size = z) (hz : decide ((100 : Int) < (z : Int)) = false) (h1 : ⟨#[45]⟩ ++ S = S1) (h2 : ⟨#[45, 45]⟩ ++ S = S2) (p s : Int) (ok : Bool) (pb : -9223372036854775807 ≤ p ∧ p ≤ 9223372036854775807) (is : Bool) (Z : Int) (hs : ok = true → is = true ∧ s = -p) (w : World) (A : Hid (Calls Tryd.prog 8 #[] w fun e w' => AlivePost w e w'))
    (P : Hid (∀ w', Calls Tryd.prog 15 #[.string S] w' fun e w'' => e = .returned (.tuple #[.int .i64 p, .bool ok]) ∧ Below w'.heap.size w' w''))
    (Q : Hid (∀ w', Calls Tryd.prog 10 #[.string S1] w' fun e w'' => e = .returned (.tuple #[.int .i64 s, .bool is]) ∧ Below w'.heap.size w' w''))
    (R : Hid (∀ w', Calls Tryd.prog 10 #[.string S2] w' fun e w'' => e = .returned (.tuple #[.int .i64 Z, .bool false]) ∧ Below w'.heap.size w' w'')) :
    Calls Tryd.prog 7 #[.string S] w fun e w' => AlivePost w e w' := by
  have tok : True := trivial
  have a1 : ∀ w, (Op.stringOp .add ⟨#[45]⟩ S).run Tryd.prog w = .ok (.string S1) w := fun w => by
    rw [run_string_add_sum (P := Tryd.prog) (w := w) ⟨#[45]⟩ S (by rw [e1]; simp at hz; show 1 + z ≤ _; omega), h1]
  have a2 : ∀ w, (Op.stringOp .add ⟨#[45, 45]⟩ S).run Tryd.prog w = .ok (.string S2) w := fun w => by
    rw [run_string_add_sum (P := Tryd.prog) (w := w) ⟨#[45, 45]⟩ S (by rw [e1]; simp at hz; show 2 + z ≤ _; omega), h2]
  clear h1 h2
  cases ok with
  | false =>
    clear hs
    go_enter Tryd.func7, Tryd.ntmps7
    go_wp2_with (first
      | (go_at_call 8; refine A.out.mono ?_; rintro e w1 ⟨rfl, b1⟩; have B1 := Lib.hid b1; clear b1)
      | (go_at_call 15; refine (P.out _).mono ?_; rintro e w2 ⟨rfl, b2⟩; have B2 := Lib.hid (B1.out.trans (b2.mono B1.out.size)); clear b2)
      | (go_at_call 10; have _k := tok; clear tok _k; ((with_reducible refine (Q.out _).mono ?_); rintro e w3 ⟨rfl, b3⟩; have B3 := Lib.hid (B2.out.trans (b3.mono B2.out.size)); clear b3))
      | (go_at_call 10; ((with_reducible refine (R.out _).mono ?_); rintro e w4 ⟨rfl, b4⟩; have B4 := Lib.hid (B3.out.trans (b4.mono B3.out.size)); clear b4)))
    go_ret
    exact ⟨rfl, B4.out⟩
  | true =>
    obtain ⟨rfl, rfl⟩ := hs rfl
    clear hs
    have ew : IntKind.i64.wrap (-p) = -p := by rw [IntKind.wrap_i64]; omega
    go_enter Tryd.func7, Tryd.ntmps7
    go_wp2_with (first
      | (go_at_call 8; refine A.out.mono ?_; rintro e w1 ⟨rfl, b1⟩; have B1 := Lib.hid b1; clear b1)
      | (go_at_call 15; refine (P.out _).mono ?_; rintro e w2 ⟨rfl, b2⟩; have B2 := Lib.hid (B1.out.trans (b2.mono B1.out.size)); clear b2)
      | (go_at_call 10; have _k := tok; clear tok _k; ((with_reducible refine (Q.out _).mono ?_); rintro e w3 ⟨rfl, b3⟩; have B3 := Lib.hid (B2.out.trans (b3.mono B2.out.size)); clear b3))
      | (go_at_call 10; ((with_reducible refine (R.out _).mono ?_); rintro e w4 ⟨rfl, b4⟩; have B4 := Lib.hid (B3.out.trans (b4.mono B3.out.size)); clear b4)))
    go_ret
    exact ⟨rfl, B4.out⟩
theorem parseL_true {l : List UInt8} (h : (parseL l).2 = true) : (readL l).2 = true ∧ (parseL l).1 = (readL l).1 := by
  unfold parseL at h ⊢
  split at h
  · rename_i hh
    rw [if_pos hh]
    exact ⟨hh.1, rfl⟩
  · cases h
theorem parseL_le (l : List UInt8) : (parseL l).1 ≤ 9223372036854775807 := by
  unfold parseL
  split
  · rename_i hh; exact hh.2
  · show 0 ≤ _; omega
theorem signs_holds (S : ByteArray) (w : World) (tab : Tab w) :
    Calls Tryd.prog 7 #[.string S] w fun e w' => AlivePost w e w' := by
  by_cases hz : (100 : Int) < (S.size : Int)
  · exact signs_long S _ rfl (decide_eq_true hz) w (Lib.hid (alive_any w tab))
  · obtain ⟨l, rfl⟩ : ∃ l, S = str l := ⟨_, str_of S⟩
    have hl : l.length ≤ 100 := by rw [str_size] at hz; omega
    have e1 : (⟨#[45]⟩ : ByteArray) ++ str l = str (45 :: l) := str_cat [45] l
    have e2 : (⟨#[45, 45]⟩ : ByteArray) ++ str l = str (45 :: 45 :: l) := str_cat [45, 45] l
    have hr : readL (45 :: l) = (0, false) := by unfold readL; rw [if_neg (fun h => by rw [lit_minus] at h; exact absurd h.1 (by decide))]
    have hs2 : signedL (45 :: 45 :: l) = (0, false) := by rw [signedL_minus, hr]; rfl
    have h2 := fun w' => signed_dec (45 :: 45 :: l) w' (by simp; omega)
    rw [hs2] at h2
    refine signs_law (str l) _ _ _ rfl (decide_eq_false hz) e1 e2 ((parseL l).1 : Int) (signedL (45 :: l)).1 (parseL l).2 ⟨by omega, by have := parseL_le l; omega⟩ (signedL (45 :: l)).2 0 (fun h => ?_) w (Lib.hid (alive_any w tab))
      (Lib.hid fun w' => parse_dec l w' (by omega)) (Lib.hid fun w' => signed_dec (45 :: l) w' (by simp; omega)) (Lib.hid h2)
    obtain ⟨h1, h3⟩ := parseL_true h
    rw [signedL_minus, if_pos h1, h3]
    exact ⟨rfl, rfl⟩
end Go.Proofs.YtfbpdfaofmocaaaDoor
