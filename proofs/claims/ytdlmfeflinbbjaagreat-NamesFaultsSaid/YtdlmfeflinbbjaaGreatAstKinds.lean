import Derived.Test.YtdlmfeflinbbjaaGreatAstGreat
namespace Go.Proofs.YtdlmfeflinbbjaaGreat
open Go.RowKit
theorem manyOf_out {k:Int} (h:¬ (1≤k∧k≤21)):manyOf k = 0:=by
  unfold manyOf;rw [if_neg (by omega),if_neg (by omega),if_neg (by omega)]
theorem manyOf_le (k:Int):manyOf k≤3:=by unfold manyOf;(repeat' split) <;> omega
def manyR (k:Int):Int:=if k = 19 then -1 else (manyOf k:Int)
set_option maxHeartbeats 4000000 in
theorem fixed_any (k:Int) (w:World):Calls Tryz.prog 125 #[.int .i64 k] w fun e w'=>e = .returned (.int .i64 ((manyOf k:Nat):Int))∧w = w':=by
  by_cases h:1≤k∧k≤21
  · have h2:k = 1∨k = 2∨k = 3∨k = 4∨k = 5∨k = 6∨k = 7∨k = 8∨k = 9∨k = 10∨k = 11∨k = 12∨k = 13∨k = 14∨k = 15∨k = 16∨k = 17∨k = 18∨k = 19∨k = 20∨k = 21:=by omega
    clear h
    rcases h2 with rfl | rfl | rfl | rfl | rfl | rfl | rfl | rfl | rfl | rfl | rfl | rfl | rfl | rfl | rfl | rfl | rfl | rfl | rfl | rfl | rfl
    all_goals
      go_enter Tryz.func125,Tryz.ntmps125
      go_wp2_with fail
      go_ret
      exact ⟨rfl,rfl⟩
  · have hr:((manyOf k:Nat):Int) = 0:=by rw [manyOf_out h];rfl
    have e4:(k == 4) = false:=beq_false_of_ne (by omega)
    have e5:(k == 5) = false:=beq_false_of_ne (by omega)
    have e16:(k == 16) = false:=beq_false_of_ne (by omega)
    have e21:(k == 21) = false:=beq_false_of_ne (by omega)
    have e6:(k == 6) = false:=beq_false_of_ne (by omega)
    have e7:(k == 7) = false:=beq_false_of_ne (by omega)
    have e8:(k == 8) = false:=beq_false_of_ne (by omega)
    have e9:(k == 9) = false:=beq_false_of_ne (by omega)
    have e10:(k == 10) = false:=beq_false_of_ne (by omega)
    have e11:(k == 11) = false:=beq_false_of_ne (by omega)
    have e12:(k == 12) = false:=beq_false_of_ne (by omega)
    have e13:(k == 13) = false:=beq_false_of_ne (by omega)
    have e14:(k == 14) = false:=beq_false_of_ne (by omega)
    have e17:(k == 17) = false:=beq_false_of_ne (by omega)
    have e18:(k == 18) = false:=beq_false_of_ne (by omega)
    have e15:(k == 15) = false:=beq_false_of_ne (by omega)
    rw [hr]
    clear h hr
    go_enter Tryz.func125,Tryz.ntmps125
    go_wp2_with fail
    go_ret
    exact ⟨rfl,rfl⟩
set_option maxHeartbeats 4000000 in
theorem many_any (k:Int) (w:World):Calls Tryz.prog 86 #[.int .i64 k] w fun e w'=>e = .returned (.int .i64 (manyR k))∧w = w':=by
  by_cases h:1≤k∧k≤21
  · have h2:k = 1∨k = 2∨k = 3∨k = 4∨k = 5∨k = 6∨k = 7∨k = 8∨k = 9∨k = 10∨k = 11∨k = 12∨k = 13∨k = 14∨k = 15∨k = 16∨k = 17∨k = 18∨k = 19∨k = 20∨k = 21:=by omega
    clear h
    rcases h2 with rfl | rfl | rfl | rfl | rfl | rfl | rfl | rfl | rfl | rfl | rfl | rfl | rfl | rfl | rfl | rfl | rfl | rfl | rfl | rfl | rfl
    all_goals
      go_enter Tryz.func86,Tryz.ntmps86
      go_wp2_with fail
      go_ret
      exact ⟨rfl,rfl⟩
  · have hr:(manyR k) = 0:=by unfold manyR;rw [if_neg (by omega),manyOf_out h];rfl
    have e4:(k == 4) = false:=beq_false_of_ne (by omega)
    have e5:(k == 5) = false:=beq_false_of_ne (by omega)
    have e16:(k == 16) = false:=beq_false_of_ne (by omega)
    have e21:(k == 21) = false:=beq_false_of_ne (by omega)
    have e6:(k == 6) = false:=beq_false_of_ne (by omega)
    have e7:(k == 7) = false:=beq_false_of_ne (by omega)
    have e8:(k == 8) = false:=beq_false_of_ne (by omega)
    have e9:(k == 9) = false:=beq_false_of_ne (by omega)
    have e10:(k == 10) = false:=beq_false_of_ne (by omega)
    have e11:(k == 11) = false:=beq_false_of_ne (by omega)
    have e12:(k == 12) = false:=beq_false_of_ne (by omega)
    have e13:(k == 13) = false:=beq_false_of_ne (by omega)
    have e14:(k == 14) = false:=beq_false_of_ne (by omega)
    have e17:(k == 17) = false:=beq_false_of_ne (by omega)
    have e18:(k == 18) = false:=beq_false_of_ne (by omega)
    have e15:(k == 15) = false:=beq_false_of_ne (by omega)
    have e19:(k == 19) = false:=beq_false_of_ne (by omega)
    rw [hr]
    clear h hr
    go_enter Tryz.func86,Tryz.ntmps86
    go_wp2_with fail
    go_ret
    exact ⟨rfl,rfl⟩
set_option maxHeartbeats 4000000 in
theorem mostV_any (k:Int) (w:World):Calls Tryz.prog 126 #[.int .i64 k] w fun e w'=>e = .returned (.int .i64 (mostV k))∧w = w':=by
  by_cases h1:k = 1
  · subst h1
    go_enter Tryz.func126,Tryz.ntmps126
    go_wp2_with fail
    go_ret
    exact ⟨rfl,rfl⟩
  · by_cases h2:k = 2
    · subst h2
      go_enter Tryz.func126,Tryz.ntmps126
      go_wp2_with fail
      go_ret
      exact ⟨rfl,rfl⟩
    · have e1:(k == 1) = false:=beq_false_of_ne h1
      have e2:(k == 2) = false:=beq_false_of_ne h2
      have hr:mostV k = 0:=by unfold mostV;rw [if_neg h1,if_neg h2]
      rw [hr]
      clear hr h1 h2
      go_enter Tryz.func126,Tryz.ntmps126
      go_wp2_with fail
      go_ret
      exact ⟨rfl,rfl⟩
end Go.Proofs.YtdlmfeflinbbjaaGreat
