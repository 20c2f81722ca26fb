import Derived.Test.YtdlmfeflinbbjaaGreatAstMayAt
namespace Go.Proofs.YtdlmfeflinbbjaaGreat
open Go.RowKit
set_option maxHeartbeats 2000000 in
theorem has_any (k:Int) (w:World):Calls Tryz.prog 40 #[.int .i64 k] w fun e w'=>e = .returned (.tuple #[.bool (hasE k),.bool (hasF k)])∧w' = w:=by
  by_cases h:1≤k∧k≤7
  · have h2:k = 1∨k = 2∨k = 3∨k = 4∨k = 5∨k = 6∨k = 7:=by omega
    clear h
    rcases h2 with rfl | rfl | rfl | rfl | rfl | rfl | rfl
    all_goals
      go_enter Tryz.func40,Tryz.ntmps40
      go_wp2_with fail
      go_ret2
      exact ⟨rfl,rfl⟩
  · have hr1:hasE k = false:=by unfold hasE;rw [decide_eq_false (show ¬ k = 1 by omega),decide_eq_false (show ¬ k = 4 by omega),decide_eq_false (show ¬ k = 2 by omega),decide_eq_false (show ¬ k = 3 by omega),decide_eq_false (show ¬ k = 5 by omega)];rfl
    have hr2:hasF k = false:=by unfold hasF;rw [decide_eq_false (show ¬ k = 2 by omega),decide_eq_false (show ¬ k = 3 by omega),decide_eq_false (show ¬ k = 5 by omega),decide_eq_false (show ¬ k = 7 by omega)];rfl
    have e2:(k == 2) = false:=beq_false_of_ne (by omega)
    have e3:(k == 3) = false:=beq_false_of_ne (by omega)
    have e5:(k == 5) = false:=beq_false_of_ne (by omega)
    have e7:(k == 7) = false:=beq_false_of_ne (by omega)
    rw [hr1,hr2]
    clear hr1 hr2
    by_cases h1:1≤k
    · have t1:decide (1≤k) = true:=decide_eq_true h1
      have t2:decide (k≤5) = false:=decide_eq_false (by omega)
      clear h h1
      go_enter Tryz.func40,Tryz.ntmps40
      go_wp2_with fail
      go_ret2
      exact ⟨rfl,rfl⟩
    · have t1:decide (1≤k) = false:=decide_eq_false h1
      clear h h1
      go_enter Tryz.func40,Tryz.ntmps40
      go_wp2_with fail
      go_ret2
      exact ⟨rfl,rfl⟩
theorem points_any (has:Bool) (e:Int) (n cap:Nat) (o:Option Addr) (o1:Option Addr) (m cap1:Nat) (w:World) :
    Calls Tryz.prog 53 #[.agg #[.slice o1 m cap1,.slice o n cap],.int .i64 e,.bool has] w fun r w'=>r = .returned (.bool (standsE n has e))∧Below w.heap.size w w':=by
  unfold standsE
  cases has with
  | false =>
    rw [if_neg Bool.false_ne_true]
    by_cases h0:e = 0
    · subst h0
      go_enter Tryz.func53,Tryz.ntmps53
      go_wp2_with fail
      go_ret
      exact ⟨rfl,below_al (Below.refl _ _) _⟩
    · have t:(e == 0) = false:=beq_false_of_ne h0
      rw [decide_eq_false h0]
      clear h0
      go_enter Tryz.func53,Tryz.ntmps53
      go_wp2_with fail
      go_ret
      exact ⟨by first | rfl | (show Ending.returned (.bool (e == 0)) = _;rw [t]),below_al (Below.refl _ _) _⟩
  | true =>
    rw [if_pos rfl]
    by_cases h0:0≤e
    · have t:decide (0≤e) = true:=decide_eq_true h0
      by_cases h1:e < (n:Int)
      · have t1:decide (e < (n:Int)) = true:=decide_eq_true h1
        rw [t,t1]
        clear h0
        go_enter Tryz.func53,Tryz.ntmps53
        go_wp2_with fail
        go_ret
        exact ⟨by first | rfl | simp,below_al (Below.refl _ _) _⟩
      · have t1:decide (e < (n:Int)) = false:=decide_eq_false h1
        rw [t,t1]
        clear h0
        go_enter Tryz.func53,Tryz.ntmps53
        go_wp2_with fail
        go_ret
        exact ⟨by first | rfl | simp,below_al (Below.refl _ _) _⟩
    · have t:decide (0≤e) = false:=decide_eq_false h0
      rw [t]
      clear h0
      go_enter Tryz.func53,Tryz.ntmps53
      go_wp2_with fail
      go_ret
      exact ⟨by first | rfl | simp,below_al (Below.refl _ _) _⟩
theorem own_ints {w:World} {base:Nat} {v:Value} {n:Nat} {l:List Int} (h:w.ownsRow base 3 1 v n (l.map intV)):∃ g o cap,v = .slice o n cap∧(0 < n→o = some ⟨g,0,none⟩)∧∀ j,j < n→w.cell? ⟨g,j,none⟩ = some (.int .i64 (l.getD j 0)):=by
  have hl:l.length = n:=by have:=h.1;rwa [List.length_map,Nat.mul_one] at this
  rcases h.2 with ⟨rfl,rfl⟩ | ⟨g,cap,cur,rfl,h3,h4,h5,h6,h7,h8⟩
  · exact ⟨0,none,0,rfl,by omega,by omega⟩
  · refine ⟨g,_,cap,rfl,fun _=>rfl,fun j hj=>?_⟩
    have:=h.cells (g:=g) rfl (j:=j) (u:=.int .i64 (l.getD j 0)) (by rw [List.getElem?_map,List.getElem?_eq_getElem (by omega),List.getD_eq_getElem?_getD,List.getElem?_eq_getElem (by omega)];rfl)
    rwa [show (⟨g,0,none⟩:Addr).add j = ⟨g,j,none⟩ by unfold Addr.add;split <;> simp_all] at this
theorem v_zero (v:Int):((true && decide (0≤v)) && decide (v≤0)) = (v == 0):=by
  rw [Bool.eq_iff_iff];simp;omega
theorem mayE_args {x:Ex} {i:Nat} (h:¬ x.args.length = 0) (h19:¬ x.kind = 19):mayE x i = false:=by
  unfold mayE;rw [decide_eq_false h,decide_eq_false h19];simp
end Go.Proofs.YtdlmfeflinbbjaaGreat
