/- The law of VerifyRegisters. -/
import Derived.Test.YtceadfkjknjaoaaDoorVeRightO
import Derived.Test.YtceadfkjknjaoaaDoorVeRRegs
namespace Go.Proofs.YtceadfkjknjaoaaDoor
open Go.RowKit Co

attribute [local go_sem] Oper.semAt_some

set_option maxHeartbeats 16000000 in
set_option maxRecDepth 100000 in
theorem regs_law (l : List Six) (s : Value) (w : World) (hT : TabAt w) (hs : SixesAt w s l) (hok : ∀ x ∈ l, x.ok) (hl : l.length ≤ reachN) :
    Calls Tryd.prog 3 #[s] w fun e w' => e = .returned (.bool true) ∧ Below w.heap.size w w' := by
  have hl2 : (l.length : Int) ≤ 140737488351232 := by unfold reachN at hl; omega
  have AL := Lib.hid (alive_any w hT)
  have TP := Lib.hid (fun (W : World) (hb : Below w.heap.size w W) => top_any l s W (hs.below hb) (by omega))
  have RC := Lib.hid (fun (W : World) (hb : Below w.heap.size w W) => regs_any l s W (hT.below hb) (hs.below hb) hok (by omega))
  have RR := Lib.hid (fun (W : World) (hb : Below w.heap.size w W) (ht : ∀ x ∈ l, NoTop x) => rregs_any l s W (hs.below hb) hok ht (by omega))
  have EQ : Hid ((∀ x ∈ l, NoTop x) → regsRL l = regsL l 0) := Lib.hid (fun h => (regsRL_same l 0 h).symm)
  obtain ⟨o, cap, b, off, rfl, _⟩ := hs
  clear hT hok hl
  obtain ⟨n, hn⟩ : ∃ n, n = l.length := ⟨_, rfl⟩
  simp only [← hn] at TP RC RR hl2 ⊢
  clear hn
  unfold TopPost at TP
  by_cases h5 : (500 : Int) < (n : Int)
  · go_enter Tryd.func3, Tryd.ntmps3
    go_wp2_with (go_at_call 6; (with_reducible refine AL.out.mono ?_); rintro e w1 ⟨rfl, hb1⟩; have HB1 := Lib.hid hb1; clear hb1)
    go_ret
    exact ⟨rfl, HB1.out⟩
  · obtain ⟨r, hr⟩ : ∃ r, r = regsL l 0 := ⟨_, rfl⟩
    simp only [← hr] at RC EQ
    clear hr
    go_enter Tryd.func3, Tryd.ntmps3
    go_wp2_with (first
      | (go_at_call 6; (with_reducible refine AL.out.mono ?_); rintro e w1 ⟨rfl, hb1⟩; have HB1 := Lib.hid hb1; clear hb1)
      | (go_at_call 7; (with_reducible refine (TP.out _ HB1.out).mono ?_); rintro e w2 ⟨t, rfl, ht, rfl⟩; have HT := Lib.hid ht; clear ht; cases t)
      | (go_at_call 8; (with_reducible refine (RC.out _ HB1.out).mono ?_); rintro e w3 ⟨rfl, hb3⟩; have HB3 := Lib.hid (HB1.out.trans (hb3.mono HB1.out.size)); clear hb3)
      | (go_at_call 9; (with_reducible refine (RR.out _ HB3.out (HT.out (by trivial))).mono ?_); rintro e w4 ⟨rfl, hb4⟩; have HB4 := Lib.hid (HB3.out.trans (hb4.mono HB3.out.size)); rw [EQ.out (HT.out (by trivial))]; clear hb4))
    all_goals go_ret
    · exact ⟨rfl, HB4.out⟩
    · exact ⟨rfl, HB1.out⟩
end Go.Proofs.YtceadfkjknjaoaaDoor
