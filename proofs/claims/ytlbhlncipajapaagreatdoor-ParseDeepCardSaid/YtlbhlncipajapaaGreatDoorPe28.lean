/- Joined: CdBetw, CdPair, CdDeeper. -/
import Derived.Test.YtlbhlncipajapaaGreatDoorPe27
import Derived.Test.YtlbhlncipajapaaGreatDoorPe18
import Derived.Deep.QuietTactic
import Derived.Deep.RegionHeld3
import Derived.Deep.RegionWith
namespace Go.Proofs.YtlbhlncipajapaaGreatDoor
open Go.RowKit Lx
set_option linter.unusedVariables false

/-- what stands between two parts -/
def betweenL : List (List UInt8 × Int) := [([45, 62], 17), ([102, 98, 121], 18), ([111, 114], 14), ([97, 110, 100], 13), ([60], 10), ([60, 61], 11), ([61, 61], 12), ([43], 6), ([45], 7), ([42], 8), ([47], 9)]
set_option maxHeartbeats 4000000 in
theorem between_0 (W : World) : Calls Tryz.prog 76 #[.string (str [45, 62])] W fun r Y => r = .returned (.int .i64 17) ∧ Y = W := by
  have q0 : ((str [45, 62]).toList == [45, 62]) = true := by decide +kernel
  go_enter Tryz.func76, Tryz.ntmps76
  go_wp2_with fail
  go_ret
  exact ⟨rfl, rfl⟩
set_option maxHeartbeats 4000000 in
theorem between_1 (W : World) : Calls Tryz.prog 76 #[.string (str [102, 98, 121])] W fun r Y => r = .returned (.int .i64 18) ∧ Y = W := by
  have q0 : ((str [102, 98, 121]).toList == [45, 62]) = false := by decide +kernel
  have q1 : ((str [102, 98, 121]).toList == [102, 98, 121]) = true := by decide +kernel
  go_enter Tryz.func76, Tryz.ntmps76
  go_wp2_with fail
  go_ret
  exact ⟨rfl, rfl⟩
set_option maxHeartbeats 4000000 in
theorem between_2 (W : World) : Calls Tryz.prog 76 #[.string (str [111, 114])] W fun r Y => r = .returned (.int .i64 14) ∧ Y = W := by
  have q0 : ((str [111, 114]).toList == [45, 62]) = false := by decide +kernel
  have q1 : ((str [111, 114]).toList == [102, 98, 121]) = false := by decide +kernel
  have q2 : ((str [111, 114]).toList == [111, 114]) = true := by decide +kernel
  go_enter Tryz.func76, Tryz.ntmps76
  go_wp2_with fail
  go_ret
  exact ⟨rfl, rfl⟩
set_option maxHeartbeats 4000000 in
theorem between_3 (W : World) : Calls Tryz.prog 76 #[.string (str [97, 110, 100])] W fun r Y => r = .returned (.int .i64 13) ∧ Y = W := by
  have q0 : ((str [97, 110, 100]).toList == [45, 62]) = false := by decide +kernel
  have q1 : ((str [97, 110, 100]).toList == [102, 98, 121]) = false := by decide +kernel
  have q2 : ((str [97, 110, 100]).toList == [111, 114]) = false := by decide +kernel
  have q3 : ((str [97, 110, 100]).toList == [97, 110, 100]) = true := by decide +kernel
  go_enter Tryz.func76, Tryz.ntmps76
  go_wp2_with fail
  go_ret
  exact ⟨rfl, rfl⟩
set_option maxHeartbeats 4000000 in
theorem between_4 (W : World) : Calls Tryz.prog 76 #[.string (str [60])] W fun r Y => r = .returned (.int .i64 10) ∧ Y = W := by
  have q0 : ((str [60]).toList == [45, 62]) = false := by decide +kernel
  have q1 : ((str [60]).toList == [102, 98, 121]) = false := by decide +kernel
  have q2 : ((str [60]).toList == [111, 114]) = false := by decide +kernel
  have q3 : ((str [60]).toList == [97, 110, 100]) = false := by decide +kernel
  have q4 : ((str [60]).toList == [60]) = true := by decide +kernel
  go_enter Tryz.func76, Tryz.ntmps76
  go_wp2_with fail
  go_ret
  exact ⟨rfl, rfl⟩
set_option maxHeartbeats 4000000 in
theorem between_5 (W : World) : Calls Tryz.prog 76 #[.string (str [60, 61])] W fun r Y => r = .returned (.int .i64 11) ∧ Y = W := by
  have q0 : ((str [60, 61]).toList == [45, 62]) = false := by decide +kernel
  have q1 : ((str [60, 61]).toList == [102, 98, 121]) = false := by decide +kernel
  have q2 : ((str [60, 61]).toList == [111, 114]) = false := by decide +kernel
  have q3 : ((str [60, 61]).toList == [97, 110, 100]) = false := by decide +kernel
  have q4 : ((str [60, 61]).toList == [60]) = false := by decide +kernel
  have q5 : ((str [60, 61]).toList == [60, 61]) = true := by decide +kernel
  go_enter Tryz.func76, Tryz.ntmps76
  go_wp2_with fail
  go_ret
  exact ⟨rfl, rfl⟩
set_option maxHeartbeats 4000000 in
theorem between_6 (W : World) : Calls Tryz.prog 76 #[.string (str [61, 61])] W fun r Y => r = .returned (.int .i64 12) ∧ Y = W := by
  have q0 : ((str [61, 61]).toList == [45, 62]) = false := by decide +kernel
  have q1 : ((str [61, 61]).toList == [102, 98, 121]) = false := by decide +kernel
  have q2 : ((str [61, 61]).toList == [111, 114]) = false := by decide +kernel
  have q3 : ((str [61, 61]).toList == [97, 110, 100]) = false := by decide +kernel
  have q4 : ((str [61, 61]).toList == [60]) = false := by decide +kernel
  have q5 : ((str [61, 61]).toList == [60, 61]) = false := by decide +kernel
  have q6 : ((str [61, 61]).toList == [61, 61]) = true := by decide +kernel
  go_enter Tryz.func76, Tryz.ntmps76
  go_wp2_with fail
  go_ret
  exact ⟨rfl, rfl⟩
set_option maxHeartbeats 4000000 in
theorem between_7 (W : World) : Calls Tryz.prog 76 #[.string (str [43])] W fun r Y => r = .returned (.int .i64 6) ∧ Y = W := by
  have q0 : ((str [43]).toList == [45, 62]) = false := by decide +kernel
  have q1 : ((str [43]).toList == [102, 98, 121]) = false := by decide +kernel
  have q2 : ((str [43]).toList == [111, 114]) = false := by decide +kernel
  have q3 : ((str [43]).toList == [97, 110, 100]) = false := by decide +kernel
  have q4 : ((str [43]).toList == [60]) = false := by decide +kernel
  have q5 : ((str [43]).toList == [60, 61]) = false := by decide +kernel
  have q6 : ((str [43]).toList == [61, 61]) = false := by decide +kernel
  have q7 : ((str [43]).toList == [43]) = true := by decide +kernel
  go_enter Tryz.func76, Tryz.ntmps76
  go_wp2_with fail
  go_ret
  exact ⟨rfl, rfl⟩
set_option maxHeartbeats 4000000 in
theorem between_8 (W : World) : Calls Tryz.prog 76 #[.string (str [45])] W fun r Y => r = .returned (.int .i64 7) ∧ Y = W := by
  have q0 : ((str [45]).toList == [45, 62]) = false := by decide +kernel
  have q1 : ((str [45]).toList == [102, 98, 121]) = false := by decide +kernel
  have q2 : ((str [45]).toList == [111, 114]) = false := by decide +kernel
  have q3 : ((str [45]).toList == [97, 110, 100]) = false := by decide +kernel
  have q4 : ((str [45]).toList == [60]) = false := by decide +kernel
  have q5 : ((str [45]).toList == [60, 61]) = false := by decide +kernel
  have q6 : ((str [45]).toList == [61, 61]) = false := by decide +kernel
  have q7 : ((str [45]).toList == [43]) = false := by decide +kernel
  have q8 : ((str [45]).toList == [45]) = true := by decide +kernel
  go_enter Tryz.func76, Tryz.ntmps76
  go_wp2_with fail
  go_ret
  exact ⟨rfl, rfl⟩
set_option maxHeartbeats 4000000 in
theorem between_9 (W : World) : Calls Tryz.prog 76 #[.string (str [42])] W fun r Y => r = .returned (.int .i64 8) ∧ Y = W := by
  have q0 : ((str [42]).toList == [45, 62]) = false := by decide +kernel
  have q1 : ((str [42]).toList == [102, 98, 121]) = false := by decide +kernel
  have q2 : ((str [42]).toList == [111, 114]) = false := by decide +kernel
  have q3 : ((str [42]).toList == [97, 110, 100]) = false := by decide +kernel
  have q4 : ((str [42]).toList == [60]) = false := by decide +kernel
  have q5 : ((str [42]).toList == [60, 61]) = false := by decide +kernel
  have q6 : ((str [42]).toList == [61, 61]) = false := by decide +kernel
  have q7 : ((str [42]).toList == [43]) = false := by decide +kernel
  have q8 : ((str [42]).toList == [45]) = false := by decide +kernel
  have q9 : ((str [42]).toList == [42]) = true := by decide +kernel
  go_enter Tryz.func76, Tryz.ntmps76
  go_wp2_with fail
  go_ret
  exact ⟨rfl, rfl⟩
set_option maxHeartbeats 4000000 in
theorem between_10 (W : World) : Calls Tryz.prog 76 #[.string (str [47])] W fun r Y => r = .returned (.int .i64 9) ∧ Y = W := by
  have q0 : ((str [47]).toList == [45, 62]) = false := by decide +kernel
  have q1 : ((str [47]).toList == [102, 98, 121]) = false := by decide +kernel
  have q2 : ((str [47]).toList == [111, 114]) = false := by decide +kernel
  have q3 : ((str [47]).toList == [97, 110, 100]) = false := by decide +kernel
  have q4 : ((str [47]).toList == [60]) = false := by decide +kernel
  have q5 : ((str [47]).toList == [60, 61]) = false := by decide +kernel
  have q6 : ((str [47]).toList == [61, 61]) = false := by decide +kernel
  have q7 : ((str [47]).toList == [43]) = false := by decide +kernel
  have q8 : ((str [47]).toList == [45]) = false := by decide +kernel
  have q9 : ((str [47]).toList == [42]) = false := by decide +kernel
  have q10 : ((str [47]).toList == [47]) = true := by decide +kernel
  go_enter Tryz.func76, Tryz.ntmps76
  go_wp2_with fail
  go_ret
  exact ⟨rfl, rfl⟩
set_option maxHeartbeats 4000000 in
theorem ahead_0 (W : World) : Calls Tryz.prog 124 #[.string (str [45])] W fun r Y => r = .returned (.int .i64 4) ∧ Y = W := by
  have q0 : ((str [45]).toList == [45]) = true := by decide +kernel
  go_enter Tryz.func124, Tryz.ntmps124
  go_wp2_with fail
  go_ret
  exact ⟨rfl, rfl⟩
set_option maxHeartbeats 4000000 in
theorem ahead_1 (W : World) : Calls Tryz.prog 124 #[.string (str [110, 111, 116])] W fun r Y => r = .returned (.int .i64 5) ∧ Y = W := by
  have q0 : ((str [110, 111, 116]).toList == [45]) = false := by decide +kernel
  have q1 : ((str [110, 111, 116]).toList == [110, 111, 116]) = true := by decide +kernel
  go_enter Tryz.func124, Tryz.ntmps124
  go_wp2_with fail
  go_ret
  exact ⟨rfl, rfl⟩
set_option maxHeartbeats 4000000 in
theorem ahead_2 (W : World) : Calls Tryz.prog 124 #[.string (str [112, 114, 101])] W fun r Y => r = .returned (.int .i64 16) ∧ Y = W := by
  have q0 : ((str [112, 114, 101]).toList == [45]) = false := by decide +kernel
  have q1 : ((str [112, 114, 101]).toList == [110, 111, 116]) = false := by decide +kernel
  have q2 : ((str [112, 114, 101]).toList == [112, 114, 101]) = true := by decide +kernel
  go_enter Tryz.func124, Tryz.ntmps124
  go_wp2_with fail
  go_ret
  exact ⟨rfl, rfl⟩
set_option maxHeartbeats 4000000 in
theorem ahead_3 (W : World) : Calls Tryz.prog 124 #[.string (str [115, 113, 114, 116])] W fun r Y => r = .returned (.int .i64 21) ∧ Y = W := by
  have q0 : ((str [115, 113, 114, 116]).toList == [45]) = false := by decide +kernel
  have q1 : ((str [115, 113, 114, 116]).toList == [110, 111, 116]) = false := by decide +kernel
  have q2 : ((str [115, 113, 114, 116]).toList == [112, 114, 101]) = false := by decide +kernel
  have q3 : ((str [115, 113, 114, 116]).toList == [115, 113, 114, 116]) = true := by decide +kernel
  go_enter Tryz.func124, Tryz.ntmps124
  go_wp2_with fail
  go_ret
  exact ⟨rfl, rfl⟩
theorem between_of {s : List UInt8} {k : Int} (h : (s, k) ∈ betweenL) (W : World) : Calls Tryz.prog 76 #[.string (str s)] W fun r Y => r = .returned (.int .i64 k) ∧ Y = W := by
  unfold betweenL at h
  simp only [List.mem_cons, List.not_mem_nil, or_false, Prod.mk.injEq] at h
  rcases h with ⟨rfl, rfl⟩ | ⟨rfl, rfl⟩ | ⟨rfl, rfl⟩ | ⟨rfl, rfl⟩ | ⟨rfl, rfl⟩ | ⟨rfl, rfl⟩ | ⟨rfl, rfl⟩ | ⟨rfl, rfl⟩ | ⟨rfl, rfl⟩ | ⟨rfl, rfl⟩ | ⟨rfl, rfl⟩
  · exact between_0 W
  · exact between_1 W
  · exact between_2 W
  · exact between_3 W
  · exact between_4 W
  · exact between_5 W
  · exact between_6 W
  · exact between_7 W
  · exact between_8 W
  · exact between_9 W
  · exact between_10 W
theorem ahead_of {s : List UInt8} {k : Int} (h : (s, k) ∈ prefixL) (W : World) : Calls Tryz.prog 124 #[.string (str s)] W fun r Y => r = .returned (.int .i64 k) ∧ Y = W := by
  unfold prefixL at h
  simp only [List.mem_cons, List.not_mem_nil, or_false, Prod.mk.injEq] at h
  rcases h with ⟨rfl, rfl⟩ | ⟨rfl, rfl⟩ | ⟨rfl, rfl⟩ | ⟨rfl, rfl⟩
  · exact ahead_0 W
  · exact ahead_1 W
  · exact ahead_2 W
  · exact ahead_3 W
set_option maxHeartbeats 4000000 in
theorem ahead_zero (s : List UInt8) (h0 : s ≠ [45]) (h1 : s ≠ [110, 111, 116]) (h2 : s ≠ [112, 114, 101]) (h3 : s ≠ [115, 113, 114, 116]) (W : World) : Calls Tryz.prog 124 #[.string (str s)] W fun r Y => r = .returned (.int .i64 0) ∧ Y = W := by
  have q0 : ((str s).toList == [45]) = false := by rw [str_toList]; exact beq_false_of_ne h0
  have q1 : ((str s).toList == [110, 111, 116]) = false := by rw [str_toList]; exact beq_false_of_ne h1
  have q2 : ((str s).toList == [112, 114, 101]) = false := by rw [str_toList]; exact beq_false_of_ne h2
  have q3 : ((str s).toList == [115, 113, 114, 116]) = false := by rw [str_toList]; exact beq_false_of_ne h3
  clear h0 h1 h2 h3
  go_enter Tryz.func124, Tryz.ntmps124
  go_wp2_with fail
  go_ret
  exact ⟨rfl, rfl⟩
theorem between_sg {s : List UInt8} {k : Int} (h : (s, k) ∈ betweenL) : s ∈ sgL := by
  have : betweenL.all (fun p => decide (p.1 ∈ sgL)) = true := by decide +kernel
  exact of_decide_eq_true (List.all_eq_true.1 this (s, k) h)
theorem prefix_sg {s : List UInt8} {k : Int} (h : (s, k) ∈ prefixL) : s ∈ sgL := by
  have : prefixL.all (fun p => decide (p.1 ∈ sgL)) = true := by decide +kernel
  exact of_decide_eq_true (List.all_eq_true.1 this (s, k) h)
end Go.Proofs.YtlbhlncipajapaaGreatDoor
namespace Go.Proofs.YtlbhlncipajapaaGreatDoor
open Go.RowKit Lx
set_option linter.unusedVariables false

set_option maxHeartbeats 4000000 in
theorem pair_no (b g cap : Nat) (dv : Value) (ts : List Tok) (xb : Nat → Prop) (σ : RS) (a : Int) (nx : Value) (k n : Nat) (L : List (List UInt8)) (W : World) (h : Hid (Cd W b g cap dv ts xb σ)) (hc : σ.code = 0) (hL : ∀ s ∈ L, s ∈ sgL) (hn : n = L.length) (hn9 : (n : Int) ≤ 9) (hk : Hid (StrsIn W k L)) (hno : fitsB ts L σ = false) :
    Calls Tryz.prog 51 #[.pointer (some ⟨b, 0, none⟩), .int .i64 a, nx, .slice (some ⟨k, 0, none⟩) n n] W fun r Y => r = .returned (.tuple #[.int .i64 a, .bool false]) ∧ Y = W := by
  have F := Lib.hid (fits_any b g cap dv ts xb σ k n L W h hc hL hn hn9 hk)
  rw [hno] at F
  clear hno hk hn hL
  go_enter Tryz.func51, Tryz.ntmps51
  go_wp2_with (go_at_call 49; (with_reducible refine F.out.mono ?_); rintro e w1 ⟨rfl, rfl⟩)
  exact bodyPost_ret (v := .tuple #[.int .i64 a, .bool false]) (by simp [results, Tryz.results51, go_sem]) rfl ⟨rfl, rfl⟩
set_option maxHeartbeats 8000000 in
theorem pair_yes (b g cap : Nat) (dv : Value) (ts : List Tok) (xb : Nat → Prop) (σ : RS) (a : Int) (F : Nat) (k n : Nat) (L : List (List UInt8)) (W : World) (h : Hid (Cd W b g cap dv ts xb σ)) (hc : σ.code = 0) (hL : ∀ s ∈ L, s ∈ sgL) (hn : n = L.length) (hn9 : (n : Int) ≤ 9) (hk : Hid (StrsIn W k L))
    (s : List UInt8) (kd : Int) (hs : isS ts s σ = true) (hsL : s ∈ L) (hb : (s, kd) ∈ betweenL) (hF : ∀ args w, (callFunc F args).run Tryz.prog w = .ok (.enter F args) w) (bv : Int) (τ : RS) (ok : okS τ = true)
    (C : ∀ W, Hid (Cd W b g cap dv ts xb (stepS σ)) → Calls Tryz.prog F #[.pointer (some ⟨b, 0, none⟩)] W fun r Y => CdRet b g cap dv ts xb W (.int .i64 bv) τ r Y) :
    Calls Tryz.prog 51 #[.pointer (some ⟨b, 0, none⟩), .int .i64 a, .func (.func F) #[.pointer (some ⟨b, 0, none⟩)] #[], .slice (some ⟨k, 0, none⟩) n n] W fun r Y => CdRet b g cap dv ts xb W (.tuple #[.int .i64 (τ.exprs.length : Int), .bool true]) (putS (twoE kd a bv (tokL ts σ.at_).at_) τ) r Y := by
  have hfit : fitsB ts L σ = true := by unfold fitsB; exact List.any_eq_true.2 ⟨s, hsL, hs⟩
  have FI := Lib.hid (fits_any b g cap dv ts xb σ k n L W h hc hL hn hn9 hk)
  rw [hfit] at FI
  have T := Lib.hid (take_any b g cap dv ts xb σ W h (isS_kind hs).1)
  have htx : (tokL ts σ.at_).text = s := by
    have := isS_text h.out.tx (between_sg hb) hc
    rw [hs] at this; exact eq_of_beq this.symm
  have BT : Hid (∀ w, Calls Tryz.prog 76 #[.string (str s)] w fun r Y => r = .returned (.int .i64 kd) ∧ Y = w) := Lib.hid fun w => between_of hb w
  have HC := Lib.hid C
  unfold TakeRet tokV at T
  rw [htx] at T
  obtain ⟨K, hK⟩ : ∃ K, K = (tokL ts σ.at_).kind := ⟨_, rfl⟩
  obtain ⟨V, hV⟩ : ∃ V, V = (tokL ts σ.at_).v := ⟨_, rfl⟩
  obtain ⟨P, hP⟩ : ∃ P, P = (tokL ts σ.at_).at_ := ⟨_, rfl⟩
  rw [← hK, ← hV, ← hP] at T
  rw [← hP]
  have hbs := h.out.size
  have HFI := Lib.hid hF
  clear hK hV hP htx hfit hsL hs hL hn hn9 hk C hb
  by_cases hτ : τ.code = 0
  · have C2 : Hid (∀ W, Hid (Cd W b g cap dv ts xb (stepS σ)) → Calls Tryz.prog F #[.pointer (some ⟨b, 0, none⟩)] W fun r Y => CdOk b g cap dv ts xb W (.int .i64 bv) τ r Y) := Lib.hid fun W h => (HC.out W h).mono fun r Y hh => hh.ok hτ
    have PU : Hid (∀ W, Hid (Cd W b g cap dv ts xb τ) → Calls Tryz.prog 75 #[.pointer (some ⟨b, 0, none⟩), .agg #[.int .i64 kd, .int .i64 a, .int .i64 bv, .int .i64 0, .string ⟨#[]⟩, .string ⟨#[]⟩, .int .i64 0, .slice none 0 0, .int .i64 (P : Int)]] W fun r Y => CdOk b g cap dv ts xb W (.int .i64 (τ.exprs.length : Int)) (putS (twoE kd a bv P) τ) r Y) := Lib.hid fun W h =>
      (cput_any b g cap dv ts xb τ (twoE kd a bv P) none 0 0 W h hτ (okS_iff.1 ok).1 (Lib.hid (World.ownsRow_nil _ _ _ _)) (Lib.hid fun k hk => by cases hk)).mono fun r Y hh => hh.ok hτ
    have HT := Lib.hid hτ
    clear HC hτ
    go_enter Tryz.func51, Tryz.ntmps51
    go_wp2_with (first
      | (go_at_call 49; (with_reducible refine FI.out.mono ?_); rintro e w1 ⟨rfl, hw1⟩; obtain rfl := hw1.symm)
      | (go_at_call 61; (with_reducible refine T.out.mono ?_); rintro e w2 ⟨rfl, hr, hk⟩))
    obtain ⟨W3, hW3⟩ : ∃ W3, W3 = w2.alloc (.cells #[.int .i64 (K : Int), .string (str s), .int .i64 V, .int .i64 (P : Int)] 43) := ⟨_, rfl⟩
    have hb3 : Below w2.heap.size w2 W3 := by rw [hW3]; exact (Below.refl _ _).alloc (Nat.le_refl _) _
    have hp3 : W3.heap[w2.heap.size]? = some (.cells #[.int .i64 (K : Int), .string (str s), .int .i64 V, .int .i64 (P : Int)] 43 (0, 0)) := by rw [hW3]; exact heap_alloc_new w2 _
    have HR3 : Hid (Cd W3.drew b g cap dv ts xb (stepS σ)) := Lib.hid (hr.out.below (below_dr hb3 1))
    have HK3 : Hid (RX b xb W W3.drew) := Lib.hid (hk.out.trans (RX.of_below (below_dr hb3 1) (Nat.le_of_lt hr.out.size) hr.out.xlt))
    obtain ⟨⟨x0, x1, x2, x3⟩, xf⟩ := four_of hp3
    have hbw : b < w2.heap.size := hr.out.size
    have HP3 := Lib.hid (show W3.drew.heap[w2.heap.size]? = _ from hp3)
    rw [← hW3]
    clear hW3 hb3 hp3 xf hr hk
    go_region_held3 (fun w' => w'.cell? ⟨w2.heap.size, 1, none⟩ = some (.string (str s)) ∧ w'.cell? ⟨w2.heap.size, 3, none⟩ = some (.int .i64 (P : Int)))
      ((repeat' apply And.intro) <;> first | assumption | go_keep)
      (first
        | (go_at_call 76; (with_reducible refine (BT.out _).mono ?_); rintro e w4 ⟨rfl, rfl⟩)
        | (go_at_call 75; (with_reducible refine (PU.out _ ?_).mono ?_); (focus with_reducible exact hr5); rintro e w6 ⟨rfl, hr6, hk6⟩; obtain ⟨⟨v0, v1, v2, v3⟩, -⟩ := four_of (hk6.out.keep _ _ HP5.out (Nat.ne_of_gt hbw) (fun cs e => by cases e)))
        | ((with_reducible refine (C2.out _ ?_).mono ?_); (focus with_reducible exact HR3); rintro e w5 ⟨rfl, hr5, hk5⟩; have HP5 := Lib.hid (hk5.out.keep _ _ HP3.out (Nat.ne_of_gt hbw) (fun cs e => by cases e)); obtain ⟨⟨y0, y1, y2, y3⟩, -⟩ := four_of HP5.out))
    go_wp2_with fail
    go_ret2
    exact ⟨HK3.out.trans (hk5.out.trans hk6.out), .inl ⟨HT.out, rfl, hr6.out⟩⟩
  · have C2 : Hid (∀ W, Hid (Cd W b g cap dv ts xb (stepS σ)) → Calls Tryz.prog F #[.pointer (some ⟨b, 0, none⟩)] W fun r Y => CdBad b xb W τ.code τ.pos r Y) := Lib.hid fun W h => (HC.out W h).mono fun r Y hh => hh.bad hτ
    have HT := Lib.hid hτ
    clear HC hτ
    go_enter Tryz.func51, Tryz.ntmps51
    go_wp2_with (first
      | (go_at_call 49; (with_reducible refine FI.out.mono ?_); rintro e w1 ⟨rfl, hw1⟩; obtain rfl := hw1.symm)
      | (go_at_call 61; (with_reducible refine T.out.mono ?_); rintro e w2 ⟨rfl, hr, hk⟩))
    obtain ⟨W3, hW3⟩ : ∃ W3, W3 = w2.alloc (.cells #[.int .i64 (K : Int), .string (str s), .int .i64 V, .int .i64 (P : Int)] 43) := ⟨_, rfl⟩
    have hb3 : Below w2.heap.size w2 W3 := by rw [hW3]; exact (Below.refl _ _).alloc (Nat.le_refl _) _
    have hp3 : W3.heap[w2.heap.size]? = some (.cells #[.int .i64 (K : Int), .string (str s), .int .i64 V, .int .i64 (P : Int)] 43 (0, 0)) := by rw [hW3]; exact heap_alloc_new w2 _
    have HR3 : Hid (Cd W3.drew b g cap dv ts xb (stepS σ)) := Lib.hid (hr.out.below (below_dr hb3 1))
    have HK3 : Hid (RX b xb W W3.drew) := Lib.hid (hk.out.trans (RX.of_below (below_dr hb3 1) (Nat.le_of_lt hr.out.size) hr.out.xlt))
    obtain ⟨⟨x0, x1, x2, x3⟩, xf⟩ := four_of hp3
    have hbw : b < w2.heap.size := hr.out.size
    have HP3 := Lib.hid (show W3.drew.heap[w2.heap.size]? = _ from hp3)
    rw [← hW3]
    clear hW3 hb3 hp3 xf hr hk
    go_region_with (first
      | (go_at_call 76; (with_reducible refine (BT.out _).mono ?_); rintro e w4 ⟨rfl, rfl⟩)
      | ((with_reducible refine (C2.out _ ?_).mono ?_); (focus with_reducible exact HR3); rintro e w5 ⟨rfl, hk5⟩; refine dummyAny Tryz.prog w5 ⟨rfl, HK3.out.trans hk5.out, .inr ⟨HT.out, rfl⟩⟩ ?_))
    all_goals trivial
end Go.Proofs.YtlbhlncipajapaaGreatDoor
namespace Go.Proofs.YtlbhlncipajapaaGreatDoor
open Go.RowKit Lx
set_option linter.unusedVariables false

set_option maxHeartbeats 4000000 in
theorem deeper_deep (b g cap : Nat) (dv : Value) (ts : List Tok) (xb : Nat → Prop) (σ : RS) (F : Value) (W : World) (h : Hid (Cd W b g cap dv ts xb σ)) (hc : σ.code = 0) (hd : σ.deep = 30) :
    Calls Tryz.prog 47 #[.pointer (some ⟨b, 0, none⟩), F] W fun r Y => CdBad b xb W 3 ((tokL ts σ.at_).at_ : Int) r Y := by
  have RF := Lib.hid (refusal_any b g cap dv ts xb σ 3 W h)
  obtain ⟨o, c, ⟨c0, c1, c2, c3, fr⟩, hx⟩ := h.out.cells
  rw [hd] at c3
  clear c0 c1 c2 fr hx hd hc
  go_enter Tryz.func47, Tryz.ntmps47
  go_wp2_with (go_at_call 60; (with_reducible refine RF.out.mono ?_); rintro e w3 ⟨rfl, hb3⟩)
  exact ⟨rfl, rfl, Lib.hid (RX.of_below hb3 (Nat.le_of_lt h.out.size) h.out.xlt)⟩
set_option maxHeartbeats 4000000 in
theorem deeper_go (b g cap : Nat) (dv : Value) (ts : List Tok) (xb : Nat → Prop) (σ : RS) (F : Nat) (bx : Value) (v : Int) (τ : RS) (W : World) (h : Hid (Cd W b g cap dv ts xb σ)) (hc : σ.code = 0) (hd : σ.deep ≠ 30) (d0 : 0 ≤ σ.deep) (d30 : σ.deep ≤ 30) (t0 : 0 ≤ τ.deep) (t30 : τ.deep ≤ 31)
    (hF : ∀ args w, (callFunc F args).run Tryz.prog w = .ok (.enter F args) w)
    (C : ∀ W', Hid (Cd W' b g cap dv ts xb { σ with deep := σ.deep + 1 }) → Hid (RX b xb W W') → Calls Tryz.prog F #[bx] W' fun r Y => CdRet b g cap dv ts xb W' (.int .i64 v) τ r Y) :
    Calls Tryz.prog 47 #[.pointer (some ⟨b, 0, none⟩), .func (.func F) #[] #[bx]] W fun r Y => CdRet b g cap dv ts xb W (.int .i64 v) (leaveS τ) r Y := by
  obtain ⟨o, c, ⟨c0, c1, c2, c3, fr⟩, hx⟩ := h.out.cells
  have f3 := fr 3
  obtain ⟨d, hdd⟩ : ∃ d, d = σ.deep := ⟨_, rfl⟩
  rw [← hdd] at c3 hd d0 d30
  have HD := Lib.hid hdd
  obtain ⟨W1, hW1⟩ : ∃ W1, W1 = W.setCell ⟨b, 3, none⟩ (.int .i64 (d + 1)) := ⟨_, rfl⟩
  have H1 : Hid (Cd W1 b g cap dv ts xb { σ with deep := σ.deep + 1 }) := Lib.hid (by rw [hW1, HD.out]; exact h.out.setDeep (σ.deep + 1))
  have HR1 : Hid (RX b xb W W1) := Lib.hid (by rw [hW1]; exact RX.set h.out.xnb 3 _)
  have q1 : (d == 30) = false := beq_false_of_ne hd
  have C1 := Lib.hid (C W1 H1 HR1)
  clear C c0 c1 c2 fr hx hdd
  by_cases hτ : τ.code = 0
  · have C2 := Lib.hid (C1.out.mono fun r Y hh => hh.ok hτ)
    have HT := Lib.hid hτ
    have HTD := Lib.hid (show _ ∧ _ from ⟨t0, t30⟩)
    clear C1 hτ t0 t30 hc
    go_enter Tryz.func47, Tryz.ntmps47
    go_wp2_with fail
    rw [← hW1]
    clear hW1
    refine C2.out.mono ?_
    rintro e w2 ⟨rfl, hr, hk⟩
    obtain ⟨oo, cc, ⟨y0, y1, y2, y3, yf⟩, yx⟩ := hr.out.cells
    have yf3 := yf 3
    obtain ⟨td, htd⟩ : ∃ td, td = τ.deep := ⟨_, rfl⟩
    rw [← htd] at y3
    have e0 : 0 ≤ td := by rw [htd]; exact HTD.out.1
    have e1 : td ≤ 31 := by rw [htd]; exact HTD.out.2
    have HTE := Lib.hid htd
    clear y0 y1 y2 yf yx htd
    dsimp only
    go_wp2_with fail
    go_ret
    have hcd := hr.out.setDeep (td - 1)
    exact ⟨HR1.out.trans (hk.out.trans (RX.set h.out.xnb 3 _)), .inl ⟨HT.out, rfl, by unfold leaveS; rw [← HTE.out]; exact hcd⟩⟩
  · have C2 := Lib.hid (C1.out.mono fun r Y hh => hh.bad hτ)
    have HT := Lib.hid hτ
    clear C1 hτ t0 t30 hc
    go_enter Tryz.func47, Tryz.ntmps47
    go_wp2_with fail
    rw [← hW1]
    clear hW1
    refine C2.out.mono ?_
    rintro e w2 ⟨rfl, hk⟩
    exact ⟨rfl, HR1.out.trans hk.out, .inr ⟨HT.out, rfl⟩⟩
end Go.Proofs.YtlbhlncipajapaaGreatDoor
