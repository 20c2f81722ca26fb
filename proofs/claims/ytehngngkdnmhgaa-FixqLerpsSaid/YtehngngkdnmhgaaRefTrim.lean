/- What the reference's trim and Cmp answer: lists of bits in memory, read. -/
import Derived.Test.YtehngngkdnmhgaaBoolMath
import Derived.Test.YtehngngkdnmhgaaRows
import Derived.WalkKit
import Derived.Outline
import Derived.Lib.Hide
import Derived.Deep.QuietTactic
import Derived.BigQuiet
import Derived.BigGuardPart
import Derived.Deep.Cut
namespace Go.Proofs.Ytehngngkdnmhgaa
open Go.RowKit

/-- the slice value at address A, of capacity c, holds the bits xs, in blocks that are there -/
def RB (w : World) (A : Option Addr) (c : Nat) (xs : List Bool) : Prop :=
  (xs.length ≤ c ∧ (A = none → c = 0)) ∧ c ≤ 9223372036854775807 ∧ (xs ≠ [] → ∃ ad, A = some ad ∧ ad.block < w.heap.size ∧ ∀ (j : Nat) (u : Bool), xs[j]? = some u → w.cell? (ad.add j) = some (.bool u))
theorem rb_nil (w : World) : RB w none 0 [] := ⟨⟨by simp, fun _ => rfl⟩, by omega, fun h => absurd rfl h⟩
theorem rb_take {w : World} {A : Option Addr} {c : Nat} {xs : List Bool} (h : RB w A c xs) (n : Nat) : RB w A c (xs.take n) := by
  obtain ⟨h1, h2, h3⟩ := h
  refine ⟨⟨by rw [List.length_take]; omega, h1.2⟩, h2, fun hn => ?_⟩
  obtain ⟨ad, e, hb, hc⟩ := h3 (by rintro rfl; simp at hn)
  refine ⟨ad, e, hb, fun j u hu => hc j u ?_⟩
  rw [List.getElem?_take] at hu
  split at hu
  · exact hu
  · cases hu
theorem add_block (a : Addr) (n : Nat) : (a.add n).block = a.block := by unfold Addr.add; split <;> rfl
theorem rb_below {w w' : World} {A : Option Addr} {c : Nat} {xs : List Bool} (h : RB w A c xs) (hb : Below w.heap.size w w') : RB w' A c xs := by
  obtain ⟨h1, h2, h3⟩ := h
  refine ⟨h1, h2, fun hn => ?_⟩
  obtain ⟨ad, e, hbl, hc⟩ := h3 hn
  exact ⟨ad, e, Nat.lt_of_lt_of_le hbl hb.size, fun j u hu => (hb.cell (by rw [add_block]; exact hbl)).trans (hc j u hu)⟩
def lenOf : Value → Nat | .slice _ n _ => n | _ => 0
/-- what trim leaves of a list: so much that it is worth the same, and has no 0 at its top -/
def TrimPost (A : Option Addr) (c : Nat) (xs : List Bool) (w : World) (e : Ending) (w' : World) : Prop :=
  ∃ n, n ≤ xs.length ∧ e = .returned (.slice A n c) ∧ val (xs.take n) = val xs ∧ Tr (xs.take n) ∧ w = w'
theorem trim_any (A : Option Addr) (c : Nat) (xs : List Bool) (w : World) (h : RB w A c xs) :
    Calls Try.prog 32 #[.slice A xs.length c] w fun e w' => TrimPost A c xs w e w' := by
  obtain ⟨hlc, hcm, hcell⟩ := h
  obtain ⟨n0, hn0⟩ : ∃ n0 : Nat, n0 = xs.length := ⟨_, rfl⟩
  rw [← hn0]
  rw [← hn0] at hlc
  replace hlc := hlc.1
  have N := Lib.hid hn0
  have C := Lib.hid hcell
  clear hn0 hcell
  have hlc' : (n0 : Int) ≤ 9223372036854775807 := by omega
  have hcc : n0 ≤ c := hlc
  clear hcm hlc
  go_enter Try.func32, Try.ntmps32
  go_wp2_with fail
  go_loop [0] (fun x => ∃ n : Nat, n ≤ n0 ∧ val (xs.take n) = val xs ∧ x = .slice A n c) (fun x => lenOf x)
  case atStart => exact ⟨n0, Nat.le_refl _, by rw [N.out, List.take_length], rfl⟩
  case round =>
    obtain ⟨n, hn, hv, rfl⟩ := hrel
    have V := Lib.hid hv
    clear hv
    have hn' : (n : Int) ≤ 9223372036854775807 := by omega
    rcases n with _ | k
    · go_wp2_with fail
      go_ret
      exact ⟨0, by omega, rfl, V.out, by rw [List.take_zero]; exact tr_nil, rfl⟩
    · have hk : k < xs.length := by have := N.out; omega
      obtain ⟨ad, rfl, hbl, hc⟩ := C.out (by rintro rfl; simp at hk)
      obtain ⟨b, hb⟩ : ∃ b, xs[k]? = some b := ⟨_, List.getElem?_eq_getElem hk⟩
      have hcell := hc k b hb
      have HC := Lib.hid hc
      have HB := Lib.hid hb
      have hlen : (xs.take (k + 1)).length = k + 1 := by rw [List.length_take]; omega
      have HL := Lib.hid hlen
      clear hc hb hbl hlen
      cases b
      · have hv2 : val (xs.take k) = val xs := by rw [← V.out, val_take_succ HB.out]; simp [bit]
        have V2 := Lib.hid hv2
        clear hv2
        go_wp2_with fail
        go_round
        case rel => exact ⟨k, by omega, V2.out, rfl⟩
        case measure => simp [lenOf]
      · go_wp2_with fail
        go_ret
        refine ⟨k + 1, by have := N.out; omega, rfl, V.out, fun j hj => ?_, rfl⟩
        rw [HL.out]
        rintro e
        obtain rfl : j = k := by omega
        rw [List.getElem?_take, if_pos (by omega), HB.out] at hj
        cases hj
end Go.Proofs.Ytehngngkdnmhgaa
