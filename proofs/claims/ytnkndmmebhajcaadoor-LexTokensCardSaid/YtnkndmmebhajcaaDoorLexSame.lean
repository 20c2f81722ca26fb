/- The reference's Same, and the law over both lexers' answers. -/
import Derived.Test.YtnkndmmebhajcaaDoorLexTwo
namespace Go.Proofs.YtnkndmmebhajcaaDoor
open Go.RowKit

set_option maxHeartbeats 4000000 in
theorem same_nil (w : World) : Calls Tryd.prog 11 #[.slice none 0 0, .slice none 0 0] w fun e w' => e = .returned (.bool true) ∧ Below w.heap.size w w' := by
  go_enter Tryd.func11, Tryd.ntmps11
  go_wp2_with fail
  go_loop [5] (fun i => i = .int .i64 0) (fun _ => 0)
  case atStart => rfl
  case round =>
    obtain rfl := hrel
    go_wp2_with fail
    go_ret
    exact ⟨rfl, Below.refl _ _⟩
set_option maxHeartbeats 8000000 in
theorem same_row (us : List Tok) (p : Nat) (hp : Hid (us.length = p)) (pl : (p : Int) ≤ 40000) (g1 g3 cap1 cap3 : Nat) (w : World) (h1 : Hid (RowAt w g1 us)) (h3 : Hid (RowAt w g3 us)) :
    Calls Tryd.prog 11 #[.slice (some ⟨g1, 0, none⟩) p cap1, .slice (some ⟨g3, 0, none⟩) p cap3] w fun e w' => e = .returned (.bool true) ∧ Below w.heap.size w w' := by
  have hrr : ((p : Int) != (p : Int)) = false := by simp
  go_enter Tryd.func11, Tryd.ntmps11
  go_wp2_with fail
  go_loopw [5] (fun i wr => ∃ j : Nat, j ≤ p ∧ i = .int .i64 j ∧ Hid (Below w.heap.size w wr)) (fun i _ => p - litLen i)
  case atStart => exact ⟨0, by omega, rfl, Lib.hid (Below.refl _ _)⟩
  case round =>
    obtain ⟨j, hj, rfl, hB⟩ := hrel
    rcases Nat.lt_or_ge j p with hlt | hge
    · have q3 : decide ((j : Int) < (p : Int)) = true := decide_eq_true (by omega)
      have jr : (j : Int) < (p : Int) := by omega
      obtain ⟨t, htj⟩ : ∃ t, us[j]? = some t := ⟨us[j]'(by have := hp.out; omega), List.getElem?_eq_getElem _⟩
      obtain ⟨x0, x1, x2, x3⟩ := (h1.out.below hB.out).2 j t htj
      obtain ⟨z0, z1, z2, z3⟩ := (h3.out.below hB.out).2 j t htj
      obtain ⟨kk, tx, vv, aa⟩ := t
      clear htj
      go_wp2_with fail
      go_quiet (fail)
      go_wp2_with fail
      have hdr : Below wr.heap.size wr (wr.drewN nq) := below_dr (Below.refl _ wr) nq
      exact ⟨⟨j + 1, by omega, rfl, Lib.hid (hB.out.trans (hdr.mono hB.out.size))⟩, by simp [litLen]; omega⟩
    · have q3 : decide ((j : Int) < (p : Int)) = false := decide_eq_false (by omega)
      go_wp2_with fail
      go_ret
      exact ⟨rfl, hB.out⟩
end Go.Proofs.YtnkndmmebhajcaaDoor
