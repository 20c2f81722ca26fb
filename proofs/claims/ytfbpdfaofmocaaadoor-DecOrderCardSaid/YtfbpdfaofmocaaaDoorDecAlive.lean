/- The examples of the document, and the laws DecBack, DecShort, DecCut. -/
import Derived.Test.YtfbpdfaofmocaaaDoorBackMath
import Derived.Test.YtfbpdfaofmocaaaDoorRefShort
namespace Go.Proofs.YtfbpdfaofmocaaaDoor
open Go.RowKit

theorem parse_example : parseL [48, 46, 49] = (429496729, true) := by decide +kernel
def exampleText : List UInt8 := [48, 46, 48, 57, 57, 57, 57, 57, 57, 57, 57, 56, 54, 48, 51, 48, 49, 54, 49, 51, 56, 48, 55, 54, 55, 56, 50, 50, 50, 54, 53, 54, 50, 53]
theorem print_example : shortL 429496729 32 = exampleText := by
  rw [shortL_plain, clip_32]
  show [] ++ (digs (429496729 / 4294967296) ++ _) = _
  rw [digs_small (by decide)]
  decide +kernel
def AlivePost (w : World) (e : Ending) (w' : World) : Prop := e = .returned (.bool true) ∧ Below w.heap.size w w'
theorem alive_any (w : World) (tab : Tab w) : Calls Tryd.prog 8 #[] w fun e w' => AlivePost w e w' := by
  have P : Hid (Calls Tryd.prog 15 #[.string ⟨#[48, 46, 49]⟩] w fun e w' => e = .returned (.tuple #[.int .i64 429496729, .bool true]) ∧ Below w.heap.size w w') := by
    have h := parse_dec [48, 46, 49] w (by decide)
    rw [parse_example] at h
    exact Lib.hid h
  have Q : Hid (∀ w', Below w.heap.size w w' → Calls Tryd.prog 9 #[.int .i64 429496729] w' fun e w'' => StrPost exampleText w' e w'') := Lib.hid fun w' hb => by
    have h := print_dec 429496729 w' (tab_below tab hb) (by decide) (by decide)
    rw [print_example] at h
    exact h
  go_enter Tryd.func8, Tryd.ntmps8
  go_wp2_with (first
    | (go_at_call 15; refine P.out.mono ?_; rintro e w1 ⟨rfl, b1⟩; have B1 := Lib.hid b1; clear b1)
    | (go_at_call 9; refine (Q.out _ B1.out).mono ?_; rintro e w2 ⟨rfl, b2⟩; have B2 := Lib.hid b2; clear b2))
  go_ret
  exact ⟨by simp only [str_toList]; rfl, B1.out.trans (B2.out.mono B1.out.size)⟩

set_option maxHeartbeats 4000000 in
theorem short_law (q n : Int) (S : ByteArray) (w : World) (A : Hid (Calls Tryd.prog 8 #[] w fun e w' => AlivePost w e w'))
    (D : Hid (∀ w', Below w.heap.size w w' → Calls Tryd.prog 13 #[.int .i64 q, .int .i64 n] w' fun e w'' => e = .returned (.string S) ∧ Below w'.heap.size w' w''))
    (R : Hid (∀ w', Calls Tryd.prog 11 #[.int .i64 q, .int .i64 n] w' fun e w'' => e = .returned (.string S) ∧ Below w'.heap.size w' w'')) :
    Calls Tryd.prog 4 #[.int .i64 q, .int .i64 n] w fun e w' => AlivePost w e w' := by
  go_enter Tryd.func4, Tryd.ntmps4
  go_wp2_with (first
    | (go_at_call 8; refine A.out.mono ?_; rintro e w1 ⟨rfl, b1⟩; have B1 := Lib.hid b1; clear b1)
    | (go_at_call 13; refine (D.out _ B1.out).mono ?_; rintro e w2 ⟨rfl, b2⟩; have B2 := Lib.hid b2; clear b2)
    | (go_at_call 11; refine (R.out _).mono ?_; rintro e w3 ⟨rfl, b3⟩; have B3 := Lib.hid b3; clear b3))
  go_ret
  exact ⟨rfl, (B1.out.trans (B2.out.mono B1.out.size)).trans (B3.out.mono (Nat.le_trans B1.out.size B2.out.size))⟩
theorem short_holds (q n : Int) (h1 : -9223372036854775808 ≤ q) (h2 : q ≤ 9223372036854775807) (w : World) (tab : Tab w) :
    Calls Tryd.prog 4 #[.int .i64 q, .int .i64 n] w fun e w' => AlivePost w e w' :=
  short_law q n _ w (Lib.hid (alive_any w tab)) (Lib.hid fun w' hb => short_dec q n w' (tab_below tab hb) h1 h2) (Lib.hid fun w' => short_ref q n w' h1 h2)

theorem short_length (q n : Int) (h1 : -9223372036854775808 ≤ q) (h2 : q ≤ 9223372036854775807) : (shortL q n).length ≤ 60 := by
  have a1 := digs_length (q.natAbs / 4294967296) (by omega)
  have a2 := strip_length (frac (clip n) (q.natAbs % 4294967296))
  have a3 : clip n ≤ 32 := by unfold clip; omega
  rw [frac_length] at a2
  rw [shortL_plain]
  unfold plainL tail
  simp only [List.length_append]
  split <;> split <;> simp <;> omega
set_option maxHeartbeats 4000000 in
theorem back_law (q : Int) (S : ByteArray) (b : Bool) (w : World) (hb0 : decide (0 ≤ q) = b) (A : Hid (Calls Tryd.prog 8 #[] w fun e w' => AlivePost w e w'))
    (D : Hid (∀ w', Below w.heap.size w w' → Calls Tryd.prog 9 #[.int .i64 q] w' fun e w'' => e = .returned (.string S) ∧ Below w'.heap.size w' w''))
    (G : Hid (∀ w', Calls Tryd.prog 10 #[.string S] w' fun e w'' => e = .returned (.tuple #[.int .i64 q, .bool true]) ∧ Below w'.heap.size w' w''))
    (R : Hid (∀ w', Calls Tryd.prog 11 #[.int .i64 q, .int .i64 32] w' fun e w'' => e = .returned (.string S) ∧ Below w'.heap.size w' w''))
    (L : Hid (∀ w', Calls Tryd.prog 12 #[.string S] w' fun e w'' => e = .returned (.bool b) ∧ Below w'.heap.size w' w'')) :
    Calls Tryd.prog 3 #[.int .i64 q] w fun e w' => AlivePost w e w' := by
  go_enter Tryd.func3, Tryd.ntmps3
  go_wp2_with (first
    | (go_at_call 8; refine A.out.mono ?_; rintro e w1 ⟨rfl, b1⟩; have B1 := Lib.hid b1; clear b1)
    | (go_at_call 9; refine (D.out _ B1.out).mono ?_; rintro e w2 ⟨rfl, b2⟩; have B2 := Lib.hid (B1.out.trans (b2.mono B1.out.size)); clear b2)
    | (go_at_call 10; refine (G.out _).mono ?_; rintro e w3 ⟨rfl, b3⟩; have B3 := Lib.hid (B2.out.trans (b3.mono B2.out.size)); clear b3)
    | (go_at_call 11; refine (R.out _).mono ?_; rintro e w4 ⟨rfl, b4⟩; have B4 := Lib.hid (B3.out.trans (b4.mono B3.out.size)); clear b4)
    | (go_at_call 12; refine (L.out _).mono ?_; rintro e w5 ⟨rfl, b5⟩; have B5 := Lib.hid (B4.out.trans (b5.mono B4.out.size)); clear b5))
  go_ret
  exact ⟨rfl, B5.out⟩
theorem back_holds (q : Int) (h1 : -9223372036854775808 ≤ q) (h2 : q ≤ 9223372036854775807) (w : World) (tab : Tab w) :
    Calls Tryd.prog 3 #[.int .i64 q] w fun e w' => AlivePost w e w' := by
  have hl : ((shortL q 32).length : Int) ≤ 9223372036854775807 := by have := short_length q 32 h1 h2; omega
  have hs := signed_back q h1 h2
  have hlit := lit_back q h1 h2
  refine back_law q (str (shortL q 32)) (litL (shortL q 32)) w hlit.symm (Lib.hid (alive_any w tab)) (Lib.hid fun w' hb => print_dec q w' (tab_below tab hb) h1 h2) (Lib.hid fun w' => ?_) (Lib.hid fun w' => short_ref q 32 w' h1 h2) (Lib.hid fun w' => literal_dec _ w' hl)
  have h := signed_dec (shortL q 32) w' hl
  rw [hs] at h
  exact h

set_option maxHeartbeats 4000000 in
theorem cut_law (q n : Int) (S T : ByteArray) (z1 z2 : Nat) (e1 : S.size = z1) (e2 : T.size = z2) (le : (z2 : Int) ≤ (z1 : Int)) (_zb : (z1 : Int) ≤ 9223372036854775807) (hx : S.extract 0 z2 = T) (w : World) (A : Hid (Calls Tryd.prog 8 #[] w fun e w' => AlivePost w e w'))
    (D : Hid (∀ w', Below w.heap.size w w' → Calls Tryd.prog 9 #[.int .i64 q] w' fun e w'' => e = .returned (.string S) ∧ Below w'.heap.size w' w''))
    (G : Hid (∀ w', Below w.heap.size w w' → Calls Tryd.prog 13 #[.int .i64 q, .int .i64 n] w' fun e w'' => e = .returned (.string T) ∧ Below w'.heap.size w' w''))
    (H : Hid (∀ w', Below w.heap.size w w' → Calls Tryd.prog 13 #[.int .i64 q, .int .i64 32] w' fun e w'' => e = .returned (.string S) ∧ Below w'.heap.size w' w'')) :
    Calls Tryd.prog 5 #[.int .i64 q, .int .i64 n] w fun e w' => AlivePost w e w' := by
  have tok : True := trivial
  have q1 : decide ((z2 : Int) ≤ (z1 : Int)) = true := decide_eq_true le
  have hsl : ∀ w, (Instr.slice 9 (.string S) none (some (.int .i64 (z2 : Int))) none).run Tryd.prog w = .ok (.string T) w := fun w => by
    rw [run_slice_string_h w 9 S Tryd.underlying9 .i64 (z2 : Int) (by omega) (by omega), show ((z2 : Int)).toNat = z2 by omega, hx]
  clear hx
  go_enter Tryd.func5, Tryd.ntmps5
  go_wp2_with (first
    | (go_at_call 8; refine A.out.mono ?_; rintro e w1 ⟨rfl, b1⟩; have B1 := Lib.hid b1; clear b1)
    | (go_at_call 9; refine (D.out _ B1.out).mono ?_; rintro e w2 ⟨rfl, b2⟩; have B2 := Lib.hid (B1.out.trans (b2.mono B1.out.size)); clear b2)
    | (go_at_call 13; have _k := tok; clear tok _k; refine (G.out _ B2.out).mono ?_; rintro e w3 ⟨rfl, b3⟩; have B3 := Lib.hid (B2.out.trans (b3.mono B2.out.size)); clear b3)
    | (go_at_call 13; refine (H.out _ B3.out).mono ?_; rintro e w4 ⟨rfl, b4⟩; have B4 := Lib.hid (B3.out.trans (b4.mono B3.out.size)); clear b4))
  go_ret
  exact ⟨rfl, B4.out⟩
theorem cut_holds (q n : Int) (h1 : -9223372036854775808 ≤ q) (h2 : q ≤ 9223372036854775807) (w : World) (tab : Tab w) :
    Calls Tryd.prog 5 #[.int .i64 q, .int .i64 n] w fun e w' => AlivePost w e w' := by
  have hp := short_prefix q n
  have hl := short_length q 32 h1 h2
  refine cut_law q n (str (shortL q 32)) (str (shortL q n)) _ _ (str_size _) (str_size _) (by have := hp.length_le; omega) (by omega) ?_ w (Lib.hid (alive_any w tab)) (Lib.hid fun w' hb => print_dec q w' (tab_below tab hb) h1 h2) (Lib.hid fun w' hb => short_dec q n w' (tab_below tab hb) h1 h2) (Lib.hid fun w' hb => short_dec q 32 w' (tab_below tab hb) h1 h2)
  rw [str_extract]
  congr 1
  exact (List.prefix_iff_eq_take.1 hp).symm
end Go.Proofs.YtfbpdfaofmocaaaDoor
