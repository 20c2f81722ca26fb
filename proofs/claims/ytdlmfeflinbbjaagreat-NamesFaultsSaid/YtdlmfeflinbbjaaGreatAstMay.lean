import Derived.Test.YtdlmfeflinbbjaaGreatAstMayE
namespace Go.Proofs.YtdlmfeflinbbjaaGreat
open Go.RowKit
theorem hasValue_any (k t e p:Int) (nm:ByteArray) (a b:Value) (w:World):Calls Tryz.prog 100 #[.agg #[.int .i64 k,.string nm,a,b,.int .i64 t,.int .i64 e,.int .i64 p]] w fun r w'=>r = .returned (.bool (hasVal k))∧Below w.heap.size w w':=by
  unfold hasVal
  by_cases h1:k = 1
  · subst h1
    go_enter Tryz.func100,Tryz.ntmps100
    go_wp2_with fail
    go_ret
    exact ⟨rfl,below_al (Below.refl _ _) _⟩
  · have e1:(k == 1) = false:=beq_false_of_ne h1
    rw [decide_eq_false h1]
    clear h1
    go_enter Tryz.func100,Tryz.ntmps100
    go_wp2_with fail
    go_ret
    exact ⟨rfl,below_al (Below.refl _ _) _⟩
theorem hasE_any (k t e f p:Int) (nm st nx:ByteArray) (a:Value) (w:World):Calls Tryz.prog 101 #[.agg #[.int .i64 k,.string nm,.int .i64 t,.int .i64 e,.int .i64 f,a,.string st,.string nx,.int .i64 p]] w fun r w'=>r = .returned (.bool (hasE k))∧Below w.heap.size w w':=by
  by_cases h:k = 1∨k = 2∨k = 3∨k = 4∨k = 5
  · rcases h with rfl | rfl | rfl | rfl | rfl
    all_goals
      go_enter Tryz.func101,Tryz.ntmps101
      go_wp2_with fail
      go_ret
      exact ⟨rfl,below_al (Below.refl _ _) _⟩
  · have hr:hasE k = false:=by unfold hasE;rw [decide_eq_false (show ¬ k = 1 by omega),decide_eq_false (show ¬ k = 4 by omega),decide_eq_false (show ¬ k = 2 by omega),decide_eq_false (show ¬ k = 3 by omega),decide_eq_false (show ¬ k = 5 by omega)];rfl
    have e1:(k == 1) = false:=beq_false_of_ne (by omega)
    have e4:(k == 4) = false:=beq_false_of_ne (by omega)
    have e2:(k == 2) = false:=beq_false_of_ne (by omega)
    have e3:(k == 3) = false:=beq_false_of_ne (by omega)
    have e5:(k == 5) = false:=beq_false_of_ne (by omega)
    rw [hr]
    clear h hr
    go_enter Tryz.func101,Tryz.ntmps101
    go_wp2_with fail
    go_ret
    exact ⟨rfl,below_al (Below.refl _ _) _⟩
theorem hasF_any (k t e f p:Int) (nm st nx:ByteArray) (a:Value) (w:World):Calls Tryz.prog 102 #[.agg #[.int .i64 k,.string nm,.int .i64 t,.int .i64 e,.int .i64 f,a,.string st,.string nx,.int .i64 p]] w fun r w'=>r = .returned (.bool (hasF k))∧Below w.heap.size w w':=by
  by_cases h:k = 2∨k = 3∨k = 5∨k = 7
  · rcases h with rfl | rfl | rfl | rfl
    all_goals
      go_enter Tryz.func102,Tryz.ntmps102
      go_wp2_with fail
      go_ret
      exact ⟨rfl,below_al (Below.refl _ _) _⟩
  · have hr:hasF k = false:=by unfold hasF;rw [decide_eq_false (show ¬ k = 2 by omega),decide_eq_false (show ¬ k = 3 by omega),decide_eq_false (show ¬ k = 5 by omega),decide_eq_false (show ¬ k = 7 by omega)];rfl
    have e2:(k == 2) = false:=beq_false_of_ne (by omega)
    have e3:(k == 3) = false:=beq_false_of_ne (by omega)
    have e5:(k == 5) = false:=beq_false_of_ne (by omega)
    have e7:(k == 7) = false:=beq_false_of_ne (by omega)
    rw [hr]
    clear h hr
    go_enter Tryz.func102,Tryz.ntmps102
    go_wp2_with fail
    go_ret
    exact ⟨rfl,below_al (Below.refl _ _) _⟩
theorem stands_any (has:Bool) (e:Int) (B n cap:Nat) (o:Option Addr) (w:World) (hc:w.cell? ⟨B,1,none⟩ = some (.slice o n cap)) :
    Calls Tryz.prog 99 #[.bool has,.int .i64 e,.pointer (some ⟨B,0,none⟩)] w fun r w'=>r = .returned (.bool (standsE n has e))∧w' = w:=by
  unfold standsE
  cases has with
  | false =>
    rw [if_neg Bool.false_ne_true]
    by_cases h0:e = 0
    · subst h0
      go_enter Tryz.func99,Tryz.ntmps99
      go_wp2_with fail
      go_ret
      exact ⟨rfl,rfl⟩
    · have t:(e == 0) = false:=beq_false_of_ne h0
      rw [decide_eq_false h0]
      clear h0
      go_enter Tryz.func99,Tryz.ntmps99
      go_wp2_with fail
      go_ret
      exact ⟨by first | rfl | (show Ending.returned (.bool (e == 0)) = _;rw [t]),rfl⟩
  | true =>
    rw [if_pos rfl]
    by_cases h0:0≤e
    · have t:decide (0≤e) = true:=decide_eq_true h0
      rw [t]
      clear h0
      go_enter Tryz.func99,Tryz.ntmps99
      go_wp2_with fail
      go_ret
      exact ⟨by first | rfl | simp,rfl⟩
    · have t:decide (0≤e) = false:=decide_eq_false h0
      rw [t]
      clear h0
      go_enter Tryz.func99,Tryz.ntmps99
      go_wp2_with fail
      go_ret
      exact ⟨by first | rfl | simp,rfl⟩
end Go.Proofs.YtdlmfeflinbbjaaGreat
