/- Joined: AstMayk20, AstMayk0, AstMayE, AstMay, AstMayP, AstMayAny, OwnKit, TailIn, AstAppend, AstRefMay, AstOnesJ, AstRefMayPJ, AstKitJ, MetMath, AheadKitJ. -/
import Derived.Test.YtknbghjoncomiaaGreatKA0
import Derived.Lib.QuietBelow
import Derived.StillTailTactics
import Derived.BigQuiet
import Derived.OrdersIn
import Derived.OwnWalkIn
import Derived.RangeFuncCalls
import Derived.RangeFuncBox
import Derived.Maps.AppendAt
import Derived.Deep.RegionHeld3
import Derived.Deep.CutRange
import Derived.Outline
namespace Go.Proofs.YtknbghjoncomiaaGreat
section
open Go.Lib (hid)
open Go.RowKit Go.Shelf
attribute [local go_sem] Oper.semAt_some
set_option maxHeartbeats 8000000 in
set_option maxRecDepth 100000 in
theorem QM2 (x:Ex) (s:Value) (i:Nat) (q1:decide (x.kind < 1) = false) (q2:decide (21 < x.kind) = false) (w:World) (ha:Hid (IntsAt w s x.args)) (hk:Hid (ExOk x)) (o:Option Addr) (na cap:Nat) (hs:Hid (s = .slice o na cap)) (hna:Hid (x.args.length = na)) (t3:Hid ((x.kind == 3) = false)) (t19:Hid ((x.kind == 19) = false)) (t20:Hid ((x.kind == 20) = true)) :
  CallsIn Fence.wide 5 Tryz.prog 80 #[exV x s,.int .i64 (i:Int)] w fun e w'=>QBa (QCJ x i) w e w':=by
 unfold exV
 have hkk:1≤x.kind∧x.kind≤21:=⟨by have:=of_decide_eq_false q1;omega,by have:=of_decide_eq_false q2;omega⟩
 have HKK:=hid hkk
 clear hkk
 unfold QA4
 refine callsIn_of_wp_marks Tryz.func80 rfl trivial ?_ rfl
 simp only [Tryz.ntmps80,List.size_toArray,List.length_cons,List.length_nil,Nat.reduceAdd,Nat.reduceSub,Array.replicate_succ,Array.replicate_zero,List.push_toArray,List.append_toArray,List.nil_append,List.cons_append]
 gi_wp2_with (refine ⟨trivial,?_⟩;gi_at_call 92;((with_reducible refine (callsIn_wide.2 (QCr _ _ _ _ _ _ _ _ _ _)).mono ?_);rintro e w2 ⟨rfl,rfl⟩))
 obtain ⟨f1,f2,f3,f4,fb,fz⟩:=four w (.cells (QA4 x s) 54) (.cells #[.int .i64 (i:Int)] 3) (.cells #[.bool false] 4) (.cells (QA4 x s) 54)
 unfold QA4 at f1 f2 f3 f4 fb fz
 have FZ:=hid fz
 have hAr:Hid (Around (fun j=>j = w.heap.size+2) (fun _=>none) ((((w.alloc (.cells (QA4 x s) 54)).alloc (.cells #[.int .i64 (i:Int)] 3)).alloc (.cells #[.bool false] 4)).alloc (.cells (QA4 x s) 54))) :=
  hid ⟨fun j hj=>by subst hj;unfold QA4;rw [fz];omega,fun j hj=>(by cases hj),fun W hW=>rfl⟩
 have hSr:Hid (QL4 ((((w.alloc (.cells (QA4 x s) 54)).alloc (.cells #[.int .i64 (i:Int)] 3)).alloc (.cells #[.bool false] 4)).alloc (.cells (QA4 x s) 54)) x (w.heap.size+1+1+1) (fun j=>j = w.heap.size+2∨(none:Option Nat) = some j)) :=
  hid (QFT ha.out hk.out fb f4 (fun k hk=>by rcases hk with rfl | h;omega;cases h) (fun h=>by rcases h with h | h;omega;cases h))
 have hinv:Hid (QMy x s i w [] ((((w.alloc (.cells (QA4 x s) 54)).alloc (.cells #[.int .i64 (i:Int)] 3)).alloc (.cells #[.bool false] 4)).alloc (.cells (QA4 x s) 54))) :=
  hid ⟨⟨f1,f2,f3⟩,(fun p h=>by simp at h),fb,by unfold QA4;rw [fz];exact Nat.le_refl _⟩
 have hIo:=hid (QEk x s i w)
 have hLo:=hid (QDl x i w)
 unfold QA4 at hAr hSr hinv
 rw [← fz] at hIo hLo
 clear f1 f2 f3 f4 fb fz
 unfold QDq
 refine wpIn_rangeFunc_ownG (α:=QBY x) rfl (by decide) (gf:=110) (lb:=#[.pointer (some ⟨w.heap.size+1+1+1,0,none⟩)]) rfl trivial (enters_of Tryz.func110 (by kernel_rfl) rfl)
  (QBb 4 (by decide) x _ _ _ _ hAr.out hSr.out) (fun h k=>h.trans k) (fun W l o o' h1 h2 h3 _=>QD1 W l o o' h1 h2 h3) (Below.refl _ _) (fun _=>rfl)
  (QMy x s i w) (QGH x i w) hIo.out hLo.out hinv.out
  (fun p=>{ tmps:=#[.agg #[.int .i64 x.kind,.int .i64 x.a,.int .i64 x.b,.int .i64 x.c,.string x.name,.string x.state,.int .i64 x.v,s,.int .i64 x.pos],.int .i64 (i:Int),.pointer (some ⟨w.heap.size,0,none⟩),.pointer (some ⟨w.heap.size+1,0,none⟩),.pointer (some ⟨w.heap.size+1+1,0,none⟩),.int .i64 p.1,undef,undef,undef,undef,.pointer (some ⟨w.heap.size,0,none⟩),.int .i64 x.kind,.bool false,.bool false,.pointer (some ⟨w.heap.size,0,none⟩),.int .i64 x.kind,.bool false,.bool false,.agg #[.int .i64 x.kind,.int .i64 x.a,.int .i64 x.b,.int .i64 x.c,.string x.name,.string x.state,.int .i64 x.v,s,.int .i64 x.pos],.func (.func 110) #[] #[.pointer (some ⟨w.heap.size+1+1+1,0,none⟩)],.int .i64 p.1,undef,undef,undef,undef,undef,undef,undef,undef,undef,undef,undef,undef,undef,undef,undef,undef,undef,undef,undef,undef,undef,undef,undef,undef,undef,undef,undef,undef,undef,undef,undef,undef,undef,undef,undef,undef,undef,undef,undef,undef,undef,undef,undef,undef,undef,undef,undef,undef,undef,undef,undef,undef,undef,undef,undef,undef,undef,undef,undef,undef,undef,undef,undef,undef,undef,undef,undef,undef,undef,undef,undef,undef,undef,undef,undef,undef,undef],defers:=[] }) ?assign ?body ?done ?stop
 case assign =>
  rintro lp p W K hK
  gi_wp2
  exact hK
 case body =>
  rintro lp pre p W ⟨⟨m1,m2,m3⟩,hg,hb,hz⟩ hlt
  have cI:W.cell? ⟨w.heap.size+1,0,none⟩ = some (.int .i64 (i:Int)):=by simp [World.cell?,m2]
  have cR:W.cell? ⟨w.heap.size+1+1,0,none⟩ = some (.bool false):=by simp [World.cell?,m3]
  have fR:W.frozen? ⟨w.heap.size+1+1,0,none⟩ = false:=by simp [World.frozen?,m3]
  obtain ⟨p,hpm⟩:=p
  dsimp only
  have M1:=hid m1
  have M2:=hid m2
  have M3:=hid m3
  have HG:=hid hg
  have HB:=hid hb
  have HZ:=hid hz
  clear m1 m2 m3 hg hb hz hlt
  have left:QAx i p = false→QGH x i w .ret (pre ++ [⟨p,hpm⟩]) (W.setCell ⟨w.heap.size+1+1,0,none⟩ (.bool false)):=fun hp =>
   ⟨rfl,set_heap M3.out 0 _,⟨⟨p,hpm⟩,by simp,hp⟩,HB.out.setCell (p:=⟨w.heap.size+1+1,0,none⟩) (Nat.le_trans (Nat.le_succ _) (Nat.le_succ _)) _,Nat.le_trans HZ.out ((Below.refl 0 W).setCell (p:=⟨w.heap.size+1+1,0,none⟩) (Nat.zero_le _) _).size⟩
  by_cases h1:p < 0
  ·have t1:decide (p < 0) = true:=decide_eq_true h1
   gi_wp2
   exact ⟨(KeepsOthers.setCell _ _ _).from _,left (by unfold QAx;rw [decide_eq_false (show ¬ 0≤p by omega)];rfl)⟩
  ·have t1:decide (p < 0) = false:=decide_eq_false h1
   by_cases h2:(i:Int)≤p
   ·have t2:decide ((i:Int)≤p) = true:=decide_eq_true h2
    gi_wp2
    exact ⟨(KeepsOthers.setCell _ _ _).from _,left (by unfold QAx;rw [decide_eq_false (show ¬ p < (i:Int) by omega)];simp)⟩
   ·have t2:decide ((i:Int)≤p) = false:=decide_eq_false h2
    clear left
    gi_wp2
    refine ⟨(KeepsOthers.refl W).from _,⟨Nat.le_refl _,fun _ _ _ _ _=>rfl,fun _ h=>.inl h⟩,⟨M1.out,M2.out,M3.out⟩,fun y hy=>?_,HB.out,HZ.out⟩
    rcases List.mem_append.1 hy with h | h
    ·exact HG.out y h
    ·rw [List.mem_singleton] at h;subst h;unfold QAx;rw [decide_eq_true (show 0≤p by omega),decide_eq_true (show p < (i:Int) by omega)];rfl
 case done =>
  rintro D ys W hD hys ⟨⟨m1,m2,m3⟩,hg,hb,hz⟩ hK
  have d0:W.cell? ⟨w.heap.size,0,none⟩ = some (.int .i64 x.kind):=by simp [World.cell?,m1,QA4]
  have d1:W.cell? ⟨w.heap.size,1,none⟩ = some (.int .i64 x.a):=by simp [World.cell?,m1,QA4]
  have d2:W.cell? ⟨w.heap.size,2,none⟩ = some (.int .i64 x.b):=by simp [World.cell?,m1,QA4]
  have d3:W.cell? ⟨w.heap.size,3,none⟩ = some (.int .i64 x.c):=by simp [World.cell?,m1,QA4]
  have hmn:=QBk x.kind
  have hparts:Hid (∀ p∈QAB x,QAx i p = true):=hid (by
   intro p hp
   rw [← hys] at hp
   obtain ⟨y,hy,rfl⟩:=List.mem_map.1 hp
   exact hg y hy)
  obtain ⟨m,hm⟩:∃ m,m = QAL x.kind:=⟨_,rfl⟩
  obtain ⟨o3,ho3⟩:∃ o3,o3 = (if m = 3 then 0 else m):=⟨_,rfl⟩
  rw [← hm] at hmn
  have hsl:=QDB W.heap.size m hmn
  obtain ⟨r,hr⟩:∃ r,r = 3 - m:=⟨_,rfl⟩
  rw [← ho3,← hr] at hsl
  have hr3:r+m≤3:=by omega
  have hr4:3≤r+m:=by omega
  have hrl:(r:Int)≤3:=by omega
  have cR:W.cell? ⟨w.heap.size+1+1,0,none⟩ = some (.bool false):=by simp [World.cell?,m3]
  have fR:W.frozen? ⟨w.heap.size+1+1,0,none⟩ = false:=by simp [World.frozen?,m3]
  have d4:W.cell? ⟨w.heap.size,4,none⟩ = some (.string x.name):=by simp [World.cell?,m1,QA4]
  have d5:W.cell? ⟨w.heap.size,5,none⟩ = some (.string x.state):=by simp [World.cell?,m1,QA4]
  have d6:W.cell? ⟨w.heap.size,6,none⟩ = some (.int .i64 x.v):=by simp [World.cell?,m1,QA4]
  have D7:W.cell? ⟨w.heap.size,7,none⟩ = some s:=by simp [World.cell?,m1,QA4]
  have hfin:Hid (∀ b:Bool,b = QCJ x i→QGz x i w D W b):=hid fun b hb1=>QGa x i w D W b hb1 hb (by have:w.heap.size+4 = _:=rfl;rw [World.size_alloc,World.size_alloc,World.size_alloc,World.size_alloc] at hD;omega) m3 hK
  have HM:=hid hm
  have HO3:=hid ho3
  have M1:=hid m1
  have M3:=hid m3
  have HB:=hid hb
  have HZ:=hid hz
  have HK:=hid hK
  have HD:=hid hD
  have HF:Hid (∀ w',Calls Tryz.prog 108 #[.int .i64 x.kind] w' fun e w''=>e = .returned (.int .i64 (m:Int))∧w' = w''):=hid fun w'=>by rw [hm];exact QCN _ _
  have z0:w.heap.size < W.heap.size:=by omega
  have z2:w.heap.size+1+1 < W.heap.size:=by omega
  clear m1 m2 m3 hb hz hK hg hys hm ho3 hD hr
  gi_wp2_with (refine ⟨trivial,?_⟩;gi_at_call 108;((with_reducible refine (callsIn_wide.2 (HF.out _)).mono ?_);rintro e w1 ⟨rfl,rfl⟩))
  rw [hs.out] at D7
  have D7':=hid D7
  clear D7
  refine wpIn_wide.2 ?_
  go_loop [40] (fun t=>∃ j:Nat,t = .int .i64 j∧j≤r∧Hid (∀ u,u < j→[x.a,x.b,x.c].getD (m+u) 0 = 0)) (fun t=>r - QA2 t)
  case atStart=>exact ⟨0,rfl,Nat.zero_le _,hid fun u hu=>by omega⟩
  case round =>
   obtain ⟨j,rfl,hj,hz⟩:=hrel
   rcases Nat.lt_or_ge j r with hlt | hge
   ·have q3:(j:Int) < (r:Int):=by omega
    obtain ⟨z,hz1⟩:∃ z,z = [x.a,x.b,x.c].getD (m+j) 0:=⟨_,rfl⟩
    have xj:(W.alloc (.cells #[.int .i64 x.a,.int .i64 x.b,.int .i64 x.c] 160)).cell? ⟨W.heap.size,o3+j,none⟩ = some (.int .i64 z):=by
     rw [World.cell?_alloc_new,HO3.out,if_neg (by omega),hz1]
     match m+j,(show m+j < 3 by omega) with
     | 0,_=>rfl
     | 1,_=>rfl
     | 2,_=>rfl
    have HZ1:=hid hz1
    clear hz1
    by_cases hz0:z = 0
    ·subst hz0
     go_wp2_with fail
     go_round
     case rel=>exact ⟨j+1,by first | omega | go_num,by omega,hid fun u hu=>by
      rcases Nat.lt_or_ge u j with h | h
      ·exact hz.out u h
      ·obtain rfl:u = j:=by omega
       exact HZ1.out.symm⟩
     case measure=>simp [QA2];omega
    ·have t1:(z != 0) = true:=bne_iff_ne.2 hz0
     have hbad:QCJ x i = false:=QDj (p:=z) (by rw [← HM.out,HZ1.out];exact QEd (by show m+j < 3;omega)) hz0
     have HF2:=hid (hfin.out false hbad.symm)
     clear hbad
     go_wp2_with fail
     obtain ⟨y0,y1,y2⟩:=HF2.out 0
     have y0' : (((W.setCell ⟨w.heap.size+1+1,0,none⟩ (.bool false)).alloc (.cells #[.int .i64 x.a,.int .i64 x.b,.int .i64 x.c] 160)).putObj D (.deferred none)).cell? ⟨w.heap.size+1+1,0,none⟩ = some (.bool false):=y0
     exact ⟨by simp,.inl ⟨_,_,rfl,run_takeDeferred y1,.bool false,by simp [results,Tryz.results80,go_sem,y0'],y2⟩⟩
   ·have q3:decide ((j:Int) < (r:Int)) = false:=decide_eq_false (by omega)
    have hrest:Hid (QCJ x i = QHj x):=hid (QDi HKK.out hparts.out (by
     intro p hp
     have hz' : ∀ u,u < j→[x.a,x.b,x.c].getD (QAL x.kind+u) 0 = 0:=by rw [← HM.out];exact hz.out
     have hj2:3≤j+QAL x.kind:=by rw [← HM.out];omega
     obtain ⟨t,ht,rfl⟩:=List.mem_iff_getElem.1 hp
     rw [List.length_drop] at ht
     have ht3:t < 3 - QAL x.kind:=ht
     have h1:=hz' t (by omega)
     rw [List.getD_eq_getElem?_getD,List.getElem?_eq_getElem (by show _ < 3;omega)] at h1
     rw [List.getElem_drop]
     exact h1))
    have d7:=D7'.out
    have T3:=t3.out
    have T19:=t19.out
    have T20:=t20.out
    have hnk:Hid (QBP x.kind = true):=hid (by
     unfold QBP
     rw [show decide (x.kind = 3) = false from t3.out,show decide (x.kind = 19) = false from t19.out,show decide (x.kind = 20) = true from t20.out];rfl)
    clear hsl hAr hSr hinv hIo hLo FZ HD HZ HB M1 M3 HF HM HO3 hparts hz HKK hr3 hr4 hmn d1 d2 d3
    by_cases hn:x.name.toList = []
    ·have n2:x.name.toList.isEmpty = true:=by rw [hn];rfl
     have N2:Hid (x.name.toList.isEmpty = !false):=hid n2
     clear hn
     have S2:Hid (x.state.toList.isEmpty = !!x.state.toList.isEmpty):=hid (by simp)
     have A2:Hid (decide (x.args.length = 0) = decide (x.args.length = 0)):=hid rfl
     have HE:=hid (hfin.out (false) (by rw [hrest.out,QB0 x true true false (false) (!x.state.toList.isEmpty) (decide (x.args.length = 0)) hnk.out t20.out t19.out N2.out S2.out A2.out];rfl))
     clear hfin hrest
     go_wp2_with fail
     refine wpIn_wide.2 ?_
     go_wp2_with fail
     refine QAD 38 (by kernel_rfl) (by kernel_rfl) ?_
     simp only [List.take_succ_cons,List.take_zero,List.drop_succ_cons,List.drop_zero]
     repeat (go_big_quiet_step (fail))
     refine wpQuiet_nil ?_
     go_wp2_with fail
     obtain ⟨y0,y1,y2⟩:=HE.out 1
     have y0' : ((((W.setCell ⟨w.heap.size+1+1,0,none⟩ (.bool (false))).alloc (.cells #[.int .i64 x.a,.int .i64 x.b,.int .i64 x.c] 160)).drew).putObj D (.deferred none)).cell? ⟨w.heap.size+1+1,0,none⟩ = some (.bool (false)):=y0
     exact ⟨by simp,.inl ⟨_,_,rfl,run_takeDeferred y1,.bool (false),by simp [results,Tryz.results80,go_sem,y0'],y2⟩⟩
    ·have n2:x.name.toList.isEmpty = false:=by cases h:x.name.toList with | nil=>exact absurd h hn | cons _ _=>rfl
     have N2:Hid (x.name.toList.isEmpty = !true):=hid n2
     clear hn
     by_cases hst:x.state.toList = []
     ·have s2:x.state.toList.isEmpty = true:=by rw [hst];rfl
      have S2:Hid (x.state.toList.isEmpty = !false):=hid s2
      clear hst
      have A2:Hid (decide (x.args.length = 0) = decide (x.args.length = 0)):=hid rfl
      have HE:=hid (hfin.out (false) (by rw [hrest.out,QB0 x true true false (true) (false) (decide (x.args.length = 0)) hnk.out t20.out t19.out N2.out S2.out A2.out];rfl))
      clear hfin hrest
      go_wp2_with fail
      refine wpIn_wide.2 ?_
      go_wp2_with fail
      refine QAD 38 (by kernel_rfl) (by kernel_rfl) ?_
      simp only [List.take_succ_cons,List.take_zero,List.drop_succ_cons,List.drop_zero]
      repeat (go_big_quiet_step (fail))
      refine wpQuiet_nil ?_
      go_wp2_with fail
      obtain ⟨y0,y1,y2⟩:=HE.out 1
      have y0' : ((((W.setCell ⟨w.heap.size+1+1,0,none⟩ (.bool (false))).alloc (.cells #[.int .i64 x.a,.int .i64 x.b,.int .i64 x.c] 160)).drew).putObj D (.deferred none)).cell? ⟨w.heap.size+1+1,0,none⟩ = some (.bool (false)):=y0
      exact ⟨by simp,.inl ⟨_,_,rfl,run_takeDeferred y1,.bool (false),by simp [results,Tryz.results80,go_sem,y0'],y2⟩⟩
     ·have s2:x.state.toList.isEmpty = false:=by cases h:x.state.toList with | nil=>exact absurd h hst | cons _ _=>rfl
      have S2:Hid (x.state.toList.isEmpty = !true):=hid s2
      clear hst
      by_cases ha0:na = 0
      ·have a2:((na:Int) == 0) = true:=by rw [ha0];rfl
       have A2:Hid (decide (x.args.length = 0) = true):=hid (decide_eq_true (by rw [hna.out];exact ha0))
       clear ha0
       by_cases hv:0≤x.v
       ·have v2:decide (0≤x.v) = true:=decide_eq_true hv
        have V2:=hid v2
        clear hv
        have HE:=hid (hfin.out (decide (x.v≤mostV x.kind)) (by rw [hrest.out,QB0 x true true false (true) (true) (true) hnk.out t20.out t19.out N2.out S2.out A2.out];rw [V2.out];simp))
        clear hfin hrest
        go_wp2_with fail
        refine wpIn_wide.2 ?_
        go_wp2_with fail
        refine QAD 38 (by kernel_rfl) (by kernel_rfl) ?_
        simp only [List.take_succ_cons,List.take_zero,List.drop_succ_cons,List.drop_zero]
        repeat (go_big_quiet_step (fail))
        go_big_quiet_want
        go_big_quiet_op
        apply Exists.intro
        refine ⟨by exact (QDm x.kind _).mono fun e w'' h=>⟨h.1,h.2.symm⟩,?_⟩
        go_big_quiet_on
        repeat (go_big_quiet_step (fail))
        refine wpQuiet_nil ?_
        go_wp2_with fail
        obtain ⟨y0,y1,y2⟩:=HE.out 1
        have y0' : ((((W.setCell ⟨w.heap.size+1+1,0,none⟩ (.bool (decide (x.v≤mostV x.kind)))).alloc (.cells #[.int .i64 x.a,.int .i64 x.b,.int .i64 x.c] 160)).drew).putObj D (.deferred none)).cell? ⟨w.heap.size+1+1,0,none⟩ = some (.bool (decide (x.v≤mostV x.kind))):=y0
        exact ⟨by simp,.inl ⟨_,_,rfl,run_takeDeferred y1,.bool (decide (x.v≤mostV x.kind)),by simp [results,Tryz.results80,go_sem,y0'],y2⟩⟩
       ·have v2:decide (0≤x.v) = false:=decide_eq_false hv
        have V2:=hid v2
        clear hv
        have HE:=hid (hfin.out (false) (by rw [hrest.out,QB0 x true true false (true) (true) (true) hnk.out t20.out t19.out N2.out S2.out A2.out];rw [V2.out];simp))
        clear hfin hrest
        go_wp2_with fail
        refine wpIn_wide.2 ?_
        go_wp2_with fail
        refine QAD 38 (by kernel_rfl) (by kernel_rfl) ?_
        simp only [List.take_succ_cons,List.take_zero,List.drop_succ_cons,List.drop_zero]
        repeat (go_big_quiet_step (fail))
        refine wpQuiet_nil ?_
        go_wp2_with fail
        obtain ⟨y0,y1,y2⟩:=HE.out 1
        have y0' : ((((W.setCell ⟨w.heap.size+1+1,0,none⟩ (.bool (false))).alloc (.cells #[.int .i64 x.a,.int .i64 x.b,.int .i64 x.c] 160)).drew).putObj D (.deferred none)).cell? ⟨w.heap.size+1+1,0,none⟩ = some (.bool (false)):=y0
        exact ⟨by simp,.inl ⟨_,_,rfl,run_takeDeferred y1,.bool (false),by simp [results,Tryz.results80,go_sem,y0'],y2⟩⟩
      ·have a2:((na:Int) == 0) = false:=beq_false_of_ne (by omega)
       have A2:Hid (decide (x.args.length = 0) = false):=hid (decide_eq_false (by rw [hna.out];exact ha0))
       clear ha0
       have HE:=hid (hfin.out (false) (by rw [hrest.out,QB0 x true true false (true) (true) (false) hnk.out t20.out t19.out N2.out S2.out A2.out];simp))
       clear hfin hrest
       go_wp2_with fail
       refine wpIn_wide.2 ?_
       go_wp2_with fail
       refine QAD 38 (by kernel_rfl) (by kernel_rfl) ?_
       simp only [List.take_succ_cons,List.take_zero,List.drop_succ_cons,List.drop_zero]
       repeat (go_big_quiet_step (fail))
       refine wpQuiet_nil ?_
       go_wp2_with fail
       obtain ⟨y0,y1,y2⟩:=HE.out 1
       have y0' : ((((W.setCell ⟨w.heap.size+1+1,0,none⟩ (.bool (false))).alloc (.cells #[.int .i64 x.a,.int .i64 x.b,.int .i64 x.c] 160)).drew).putObj D (.deferred none)).cell? ⟨w.heap.size+1+1,0,none⟩ = some (.bool (false)):=y0
       exact ⟨by simp,.inl ⟨_,_,rfl,run_takeDeferred y1,.bool (false),by simp [results,Tryz.results80,go_sem,y0'],y2⟩⟩
 case stop =>
  rintro D c pre W hD hpre ⟨rfl,hres,⟨p,hp,hbad⟩,hb,hz⟩ hK
  gi_wp2
  refine ⟨by simp,.inl ⟨_,_,rfl,run_takeDeferred hK,?_⟩⟩
  have hDr:w.heap.size+2≠D:=by rintro rfl;rw [hres] at hK;cases hK
  have y0:(W.putObj D (.deferred none)).cell? ⟨w.heap.size+1+1,0,none⟩ = some (.bool false):=by
   have h:(W.putObj D (.deferred none)).heap[w.heap.size+2]? = _:=(World.putObj_heap_other hDr).trans hres
   simp [World.cell?,h]
  rw [QCQ p.2 hbad]
  refine ⟨.bool false,by simp [results,Tryz.results80,go_sem,y0],rfl,hb.trans ?_⟩
  exact (belowK_b (w:=w) (Nat.le_refl _) W D _ _ (by rw [World.size_alloc,World.size_alloc,World.size_alloc,World.size_alloc] at hD;omega) hK rfl rfl)
end
section
open Go.Lib (hid)
open Go.RowKit Go.Shelf
attribute [local go_sem] Oper.semAt_some
set_option maxHeartbeats 8000000 in
set_option maxRecDepth 100000 in
theorem QNj (x:Ex) (s:Value) (i:Nat) (q1:decide (x.kind < 1) = false) (q2:decide (21 < x.kind) = false) (w:World) (ha:Hid (IntsAt w s x.args)) (hk:Hid (ExOk x)) (o:Option Addr) (na cap:Nat) (hs:Hid (s = .slice o na cap)) (hna:Hid (x.args.length = na)) (t3:Hid ((x.kind == 3) = false)) (t19:Hid ((x.kind == 19) = false)) (t20:Hid ((x.kind == 20) = false)) :
  CallsIn Fence.wide 5 Tryz.prog 80 #[exV x s,.int .i64 (i:Int)] w fun e w'=>QBa (QCJ x i) w e w':=by
 unfold exV
 have hkk:1≤x.kind∧x.kind≤21:=⟨by have:=of_decide_eq_false q1;omega,by have:=of_decide_eq_false q2;omega⟩
 have HKK:=hid hkk
 clear hkk
 unfold QA4
 refine callsIn_of_wp_marks Tryz.func80 rfl trivial ?_ rfl
 simp only [Tryz.ntmps80,List.size_toArray,List.length_cons,List.length_nil,Nat.reduceAdd,Nat.reduceSub,Array.replicate_succ,Array.replicate_zero,List.push_toArray,List.append_toArray,List.nil_append,List.cons_append]
 gi_wp2_with (refine ⟨trivial,?_⟩;gi_at_call 92;((with_reducible refine (callsIn_wide.2 (QCr _ _ _ _ _ _ _ _ _ _)).mono ?_);rintro e w2 ⟨rfl,rfl⟩))
 obtain ⟨f1,f2,f3,f4,fb,fz⟩:=four w (.cells (QA4 x s) 54) (.cells #[.int .i64 (i:Int)] 3) (.cells #[.bool false] 4) (.cells (QA4 x s) 54)
 unfold QA4 at f1 f2 f3 f4 fb fz
 have FZ:=hid fz
 have hAr:Hid (Around (fun j=>j = w.heap.size+2) (fun _=>none) ((((w.alloc (.cells (QA4 x s) 54)).alloc (.cells #[.int .i64 (i:Int)] 3)).alloc (.cells #[.bool false] 4)).alloc (.cells (QA4 x s) 54))) :=
  hid ⟨fun j hj=>by subst hj;unfold QA4;rw [fz];omega,fun j hj=>(by cases hj),fun W hW=>rfl⟩
 have hSr:Hid (QL4 ((((w.alloc (.cells (QA4 x s) 54)).alloc (.cells #[.int .i64 (i:Int)] 3)).alloc (.cells #[.bool false] 4)).alloc (.cells (QA4 x s) 54)) x (w.heap.size+1+1+1) (fun j=>j = w.heap.size+2∨(none:Option Nat) = some j)) :=
  hid (QFT ha.out hk.out fb f4 (fun k hk=>by rcases hk with rfl | h;omega;cases h) (fun h=>by rcases h with h | h;omega;cases h))
 have hinv:Hid (QMy x s i w [] ((((w.alloc (.cells (QA4 x s) 54)).alloc (.cells #[.int .i64 (i:Int)] 3)).alloc (.cells #[.bool false] 4)).alloc (.cells (QA4 x s) 54))) :=
  hid ⟨⟨f1,f2,f3⟩,(fun p h=>by simp at h),fb,by unfold QA4;rw [fz];exact Nat.le_refl _⟩
 have hIo:=hid (QEk x s i w)
 have hLo:=hid (QDl x i w)
 unfold QA4 at hAr hSr hinv
 rw [← fz] at hIo hLo
 clear f1 f2 f3 f4 fb fz
 unfold QDq
 refine wpIn_rangeFunc_ownG (α:=QBY x) rfl (by decide) (gf:=110) (lb:=#[.pointer (some ⟨w.heap.size+1+1+1,0,none⟩)]) rfl trivial (enters_of Tryz.func110 (by kernel_rfl) rfl)
  (QBb 4 (by decide) x _ _ _ _ hAr.out hSr.out) (fun h k=>h.trans k) (fun W l o o' h1 h2 h3 _=>QD1 W l o o' h1 h2 h3) (Below.refl _ _) (fun _=>rfl)
  (QMy x s i w) (QGH x i w) hIo.out hLo.out hinv.out
  (fun p=>{ tmps:=#[.agg #[.int .i64 x.kind,.int .i64 x.a,.int .i64 x.b,.int .i64 x.c,.string x.name,.string x.state,.int .i64 x.v,s,.int .i64 x.pos],.int .i64 (i:Int),.pointer (some ⟨w.heap.size,0,none⟩),.pointer (some ⟨w.heap.size+1,0,none⟩),.pointer (some ⟨w.heap.size+1+1,0,none⟩),.int .i64 p.1,undef,undef,undef,undef,.pointer (some ⟨w.heap.size,0,none⟩),.int .i64 x.kind,.bool false,.bool false,.pointer (some ⟨w.heap.size,0,none⟩),.int .i64 x.kind,.bool false,.bool false,.agg #[.int .i64 x.kind,.int .i64 x.a,.int .i64 x.b,.int .i64 x.c,.string x.name,.string x.state,.int .i64 x.v,s,.int .i64 x.pos],.func (.func 110) #[] #[.pointer (some ⟨w.heap.size+1+1+1,0,none⟩)],.int .i64 p.1,undef,undef,undef,undef,undef,undef,undef,undef,undef,undef,undef,undef,undef,undef,undef,undef,undef,undef,undef,undef,undef,undef,undef,undef,undef,undef,undef,undef,undef,undef,undef,undef,undef,undef,undef,undef,undef,undef,undef,undef,undef,undef,undef,undef,undef,undef,undef,undef,undef,undef,undef,undef,undef,undef,undef,undef,undef,undef,undef,undef,undef,undef,undef,undef,undef,undef,undef,undef,undef,undef,undef,undef,undef,undef,undef,undef,undef],defers:=[] }) ?assign ?body ?done ?stop
 case assign =>
  rintro lp p W K hK
  gi_wp2
  exact hK
 case body =>
  rintro lp pre p W ⟨⟨m1,m2,m3⟩,hg,hb,hz⟩ hlt
  have cI:W.cell? ⟨w.heap.size+1,0,none⟩ = some (.int .i64 (i:Int)):=by simp [World.cell?,m2]
  have cR:W.cell? ⟨w.heap.size+1+1,0,none⟩ = some (.bool false):=by simp [World.cell?,m3]
  have fR:W.frozen? ⟨w.heap.size+1+1,0,none⟩ = false:=by simp [World.frozen?,m3]
  obtain ⟨p,hpm⟩:=p
  dsimp only
  have M1:=hid m1
  have M2:=hid m2
  have M3:=hid m3
  have HG:=hid hg
  have HB:=hid hb
  have HZ:=hid hz
  clear m1 m2 m3 hg hb hz hlt
  have left:QAx i p = false→QGH x i w .ret (pre ++ [⟨p,hpm⟩]) (W.setCell ⟨w.heap.size+1+1,0,none⟩ (.bool false)):=fun hp =>
   ⟨rfl,set_heap M3.out 0 _,⟨⟨p,hpm⟩,by simp,hp⟩,HB.out.setCell (p:=⟨w.heap.size+1+1,0,none⟩) (Nat.le_trans (Nat.le_succ _) (Nat.le_succ _)) _,Nat.le_trans HZ.out ((Below.refl 0 W).setCell (p:=⟨w.heap.size+1+1,0,none⟩) (Nat.zero_le _) _).size⟩
  by_cases h1:p < 0
  ·have t1:decide (p < 0) = true:=decide_eq_true h1
   gi_wp2
   exact ⟨(KeepsOthers.setCell _ _ _).from _,left (by unfold QAx;rw [decide_eq_false (show ¬ 0≤p by omega)];rfl)⟩
  ·have t1:decide (p < 0) = false:=decide_eq_false h1
   by_cases h2:(i:Int)≤p
   ·have t2:decide ((i:Int)≤p) = true:=decide_eq_true h2
    gi_wp2
    exact ⟨(KeepsOthers.setCell _ _ _).from _,left (by unfold QAx;rw [decide_eq_false (show ¬ p < (i:Int) by omega)];simp)⟩
   ·have t2:decide ((i:Int)≤p) = false:=decide_eq_false h2
    clear left
    gi_wp2
    refine ⟨(KeepsOthers.refl W).from _,⟨Nat.le_refl _,fun _ _ _ _ _=>rfl,fun _ h=>.inl h⟩,⟨M1.out,M2.out,M3.out⟩,fun y hy=>?_,HB.out,HZ.out⟩
    rcases List.mem_append.1 hy with h | h
    ·exact HG.out y h
    ·rw [List.mem_singleton] at h;subst h;unfold QAx;rw [decide_eq_true (show 0≤p by omega),decide_eq_true (show p < (i:Int) by omega)];rfl
 case done =>
  rintro D ys W hD hys ⟨⟨m1,m2,m3⟩,hg,hb,hz⟩ hK
  have d0:W.cell? ⟨w.heap.size,0,none⟩ = some (.int .i64 x.kind):=by simp [World.cell?,m1,QA4]
  have d1:W.cell? ⟨w.heap.size,1,none⟩ = some (.int .i64 x.a):=by simp [World.cell?,m1,QA4]
  have d2:W.cell? ⟨w.heap.size,2,none⟩ = some (.int .i64 x.b):=by simp [World.cell?,m1,QA4]
  have d3:W.cell? ⟨w.heap.size,3,none⟩ = some (.int .i64 x.c):=by simp [World.cell?,m1,QA4]
  have hmn:=QBk x.kind
  have hparts:Hid (∀ p∈QAB x,QAx i p = true):=hid (by
   intro p hp
   rw [← hys] at hp
   obtain ⟨y,hy,rfl⟩:=List.mem_map.1 hp
   exact hg y hy)
  obtain ⟨m,hm⟩:∃ m,m = QAL x.kind:=⟨_,rfl⟩
  obtain ⟨o3,ho3⟩:∃ o3,o3 = (if m = 3 then 0 else m):=⟨_,rfl⟩
  rw [← hm] at hmn
  have hsl:=QDB W.heap.size m hmn
  obtain ⟨r,hr⟩:∃ r,r = 3 - m:=⟨_,rfl⟩
  rw [← ho3,← hr] at hsl
  have hr3:r+m≤3:=by omega
  have hr4:3≤r+m:=by omega
  have hrl:(r:Int)≤3:=by omega
  have cR:W.cell? ⟨w.heap.size+1+1,0,none⟩ = some (.bool false):=by simp [World.cell?,m3]
  have fR:W.frozen? ⟨w.heap.size+1+1,0,none⟩ = false:=by simp [World.frozen?,m3]
  have d4:W.cell? ⟨w.heap.size,4,none⟩ = some (.string x.name):=by simp [World.cell?,m1,QA4]
  have d5:W.cell? ⟨w.heap.size,5,none⟩ = some (.string x.state):=by simp [World.cell?,m1,QA4]
  have d6:W.cell? ⟨w.heap.size,6,none⟩ = some (.int .i64 x.v):=by simp [World.cell?,m1,QA4]
  have D7:W.cell? ⟨w.heap.size,7,none⟩ = some s:=by simp [World.cell?,m1,QA4]
  have hfin:Hid (∀ b:Bool,b = QCJ x i→QGz x i w D W b):=hid fun b hb1=>QGa x i w D W b hb1 hb (by have:w.heap.size+4 = _:=rfl;rw [World.size_alloc,World.size_alloc,World.size_alloc,World.size_alloc] at hD;omega) m3 hK
  have HM:=hid hm
  have HO3:=hid ho3
  have M1:=hid m1
  have M3:=hid m3
  have HB:=hid hb
  have HZ:=hid hz
  have HK:=hid hK
  have HD:=hid hD
  have HF:Hid (∀ w',Calls Tryz.prog 108 #[.int .i64 x.kind] w' fun e w''=>e = .returned (.int .i64 (m:Int))∧w' = w''):=hid fun w'=>by rw [hm];exact QCN _ _
  have z0:w.heap.size < W.heap.size:=by omega
  have z2:w.heap.size+1+1 < W.heap.size:=by omega
  clear m1 m2 m3 hb hz hK hg hys hm ho3 hD hr
  gi_wp2_with (refine ⟨trivial,?_⟩;gi_at_call 108;((with_reducible refine (callsIn_wide.2 (HF.out _)).mono ?_);rintro e w1 ⟨rfl,rfl⟩))
  rw [hs.out] at D7
  have D7':=hid D7
  clear D7
  refine wpIn_wide.2 ?_
  go_loop [40] (fun t=>∃ j:Nat,t = .int .i64 j∧j≤r∧Hid (∀ u,u < j→[x.a,x.b,x.c].getD (m+u) 0 = 0)) (fun t=>r - QA2 t)
  case atStart=>exact ⟨0,rfl,Nat.zero_le _,hid fun u hu=>by omega⟩
  case round =>
   obtain ⟨j,rfl,hj,hz⟩:=hrel
   rcases Nat.lt_or_ge j r with hlt | hge
   ·have q3:(j:Int) < (r:Int):=by omega
    obtain ⟨z,hz1⟩:∃ z,z = [x.a,x.b,x.c].getD (m+j) 0:=⟨_,rfl⟩
    have xj:(W.alloc (.cells #[.int .i64 x.a,.int .i64 x.b,.int .i64 x.c] 160)).cell? ⟨W.heap.size,o3+j,none⟩ = some (.int .i64 z):=by
     rw [World.cell?_alloc_new,HO3.out,if_neg (by omega),hz1]
     match m+j,(show m+j < 3 by omega) with
     | 0,_=>rfl
     | 1,_=>rfl
     | 2,_=>rfl
    have HZ1:=hid hz1
    clear hz1
    by_cases hz0:z = 0
    ·subst hz0
     go_wp2_with fail
     go_round
     case rel=>exact ⟨j+1,by first | omega | go_num,by omega,hid fun u hu=>by
      rcases Nat.lt_or_ge u j with h | h
      ·exact hz.out u h
      ·obtain rfl:u = j:=by omega
       exact HZ1.out.symm⟩
     case measure=>simp [QA2];omega
    ·have t1:(z != 0) = true:=bne_iff_ne.2 hz0
     have hbad:QCJ x i = false:=QDj (p:=z) (by rw [← HM.out,HZ1.out];exact QEd (by show m+j < 3;omega)) hz0
     have HF2:=hid (hfin.out false hbad.symm)
     clear hbad
     go_wp2_with fail
     obtain ⟨y0,y1,y2⟩:=HF2.out 0
     have y0' : (((W.setCell ⟨w.heap.size+1+1,0,none⟩ (.bool false)).alloc (.cells #[.int .i64 x.a,.int .i64 x.b,.int .i64 x.c] 160)).putObj D (.deferred none)).cell? ⟨w.heap.size+1+1,0,none⟩ = some (.bool false):=y0
     exact ⟨by simp,.inl ⟨_,_,rfl,run_takeDeferred y1,.bool false,by simp [results,Tryz.results80,go_sem,y0'],y2⟩⟩
   ·have q3:decide ((j:Int) < (r:Int)) = false:=decide_eq_false (by omega)
    have hrest:Hid (QCJ x i = QHj x):=hid (QDi HKK.out hparts.out (by
     intro p hp
     have hz' : ∀ u,u < j→[x.a,x.b,x.c].getD (QAL x.kind+u) 0 = 0:=by rw [← HM.out];exact hz.out
     have hj2:3≤j+QAL x.kind:=by rw [← HM.out];omega
     obtain ⟨t,ht,rfl⟩:=List.mem_iff_getElem.1 hp
     rw [List.length_drop] at ht
     have ht3:t < 3 - QAL x.kind:=ht
     have h1:=hz' t (by omega)
     rw [List.getD_eq_getElem?_getD,List.getElem?_eq_getElem (by show _ < 3;omega)] at h1
     rw [List.getElem_drop]
     exact h1))
    have d7:=D7'.out
    have T3:=t3.out
    have T19:=t19.out
    have T20:=t20.out
    have hnk:Hid (QBP x.kind = false):=hid (by
     unfold QBP
     rw [show decide (x.kind = 3) = false from t3.out,show decide (x.kind = 19) = false from t19.out,show decide (x.kind = 20) = false from t20.out];rfl)
    clear hsl hAr hSr hinv hIo hLo FZ HD HZ HB M1 M3 HF HM HO3 hparts hz HKK hr3 hr4 hmn d1 d2 d3
    by_cases hn:x.name.toList = []
    ·have n2:x.name.toList.isEmpty = true:=by rw [hn];rfl
     have N2:Hid (x.name.toList.isEmpty = !false):=hid n2
     clear hn
     by_cases hst:x.state.toList = []
     ·have s2:x.state.toList.isEmpty = true:=by rw [hst];rfl
      have S2:Hid (x.state.toList.isEmpty = !false):=hid s2
      clear hst
      by_cases ha0:na = 0
      ·have a2:((na:Int) == 0) = true:=by rw [ha0];rfl
       have A2:Hid (decide (x.args.length = 0) = true):=hid (decide_eq_true (by rw [hna.out];exact ha0))
       clear ha0
       by_cases hv:0≤x.v
       ·have v2:decide (0≤x.v) = true:=decide_eq_true hv
        have V2:=hid v2
        clear hv
        have HE:=hid (hfin.out (decide (x.v≤mostV x.kind)) (by rw [hrest.out,QB0 x false false false (false) (false) (true) hnk.out t20.out t19.out N2.out S2.out A2.out];rw [V2.out];simp))
        clear hfin hrest
        go_wp2_with fail
        refine wpIn_wide.2 ?_
        go_wp2_with fail
        refine QAD 38 (by kernel_rfl) (by kernel_rfl) ?_
        simp only [List.take_succ_cons,List.take_zero,List.drop_succ_cons,List.drop_zero]
        repeat (go_big_quiet_step (fail))
        go_big_quiet_want
        go_big_quiet_op
        apply Exists.intro
        refine ⟨by exact (QDm x.kind _).mono fun e w'' h=>⟨h.1,h.2.symm⟩,?_⟩
        go_big_quiet_on
        repeat (go_big_quiet_step (fail))
        refine wpQuiet_nil ?_
        go_wp2_with fail
        obtain ⟨y0,y1,y2⟩:=HE.out 1
        have y0' : ((((W.setCell ⟨w.heap.size+1+1,0,none⟩ (.bool (decide (x.v≤mostV x.kind)))).alloc (.cells #[.int .i64 x.a,.int .i64 x.b,.int .i64 x.c] 160)).drew).putObj D (.deferred none)).cell? ⟨w.heap.size+1+1,0,none⟩ = some (.bool (decide (x.v≤mostV x.kind))):=y0
        exact ⟨by simp,.inl ⟨_,_,rfl,run_takeDeferred y1,.bool (decide (x.v≤mostV x.kind)),by simp [results,Tryz.results80,go_sem,y0'],y2⟩⟩
       ·have v2:decide (0≤x.v) = false:=decide_eq_false hv
        have V2:=hid v2
        clear hv
        have HE:=hid (hfin.out (false) (by rw [hrest.out,QB0 x false false false (false) (false) (true) hnk.out t20.out t19.out N2.out S2.out A2.out];rw [V2.out];simp))
        clear hfin hrest
        go_wp2_with fail
        refine wpIn_wide.2 ?_
        go_wp2_with fail
        refine QAD 38 (by kernel_rfl) (by kernel_rfl) ?_
        simp only [List.take_succ_cons,List.take_zero,List.drop_succ_cons,List.drop_zero]
        repeat (go_big_quiet_step (fail))
        refine wpQuiet_nil ?_
        go_wp2_with fail
        obtain ⟨y0,y1,y2⟩:=HE.out 1
        have y0' : ((((W.setCell ⟨w.heap.size+1+1,0,none⟩ (.bool (false))).alloc (.cells #[.int .i64 x.a,.int .i64 x.b,.int .i64 x.c] 160)).drew).putObj D (.deferred none)).cell? ⟨w.heap.size+1+1,0,none⟩ = some (.bool (false)):=y0
        exact ⟨by simp,.inl ⟨_,_,rfl,run_takeDeferred y1,.bool (false),by simp [results,Tryz.results80,go_sem,y0'],y2⟩⟩
      ·have a2:((na:Int) == 0) = false:=beq_false_of_ne (by omega)
       have A2:Hid (decide (x.args.length = 0) = false):=hid (decide_eq_false (by rw [hna.out];exact ha0))
       clear ha0
       have HE:=hid (hfin.out (false) (by rw [hrest.out,QB0 x false false false (false) (false) (false) hnk.out t20.out t19.out N2.out S2.out A2.out];simp))
       clear hfin hrest
       go_wp2_with fail
       refine wpIn_wide.2 ?_
       go_wp2_with fail
       refine QAD 38 (by kernel_rfl) (by kernel_rfl) ?_
       simp only [List.take_succ_cons,List.take_zero,List.drop_succ_cons,List.drop_zero]
       repeat (go_big_quiet_step (fail))
       refine wpQuiet_nil ?_
       go_wp2_with fail
       obtain ⟨y0,y1,y2⟩:=HE.out 1
       have y0' : ((((W.setCell ⟨w.heap.size+1+1,0,none⟩ (.bool (false))).alloc (.cells #[.int .i64 x.a,.int .i64 x.b,.int .i64 x.c] 160)).drew).putObj D (.deferred none)).cell? ⟨w.heap.size+1+1,0,none⟩ = some (.bool (false)):=y0
       exact ⟨by simp,.inl ⟨_,_,rfl,run_takeDeferred y1,.bool (false),by simp [results,Tryz.results80,go_sem,y0'],y2⟩⟩
     ·have s2:x.state.toList.isEmpty = false:=by cases h:x.state.toList with | nil=>exact absurd h hst | cons _ _=>rfl
      have S2:Hid (x.state.toList.isEmpty = !true):=hid s2
      clear hst
      have A2:Hid (decide (x.args.length = 0) = decide (x.args.length = 0)):=hid rfl
      have HE:=hid (hfin.out (false) (by rw [hrest.out,QB0 x false false false (false) (true) (decide (x.args.length = 0)) hnk.out t20.out t19.out N2.out S2.out A2.out];rfl))
      clear hfin hrest
      go_wp2_with fail
      refine wpIn_wide.2 ?_
      go_wp2_with fail
      refine QAD 38 (by kernel_rfl) (by kernel_rfl) ?_
      simp only [List.take_succ_cons,List.take_zero,List.drop_succ_cons,List.drop_zero]
      repeat (go_big_quiet_step (fail))
      refine wpQuiet_nil ?_
      go_wp2_with fail
      obtain ⟨y0,y1,y2⟩:=HE.out 1
      have y0' : ((((W.setCell ⟨w.heap.size+1+1,0,none⟩ (.bool (false))).alloc (.cells #[.int .i64 x.a,.int .i64 x.b,.int .i64 x.c] 160)).drew).putObj D (.deferred none)).cell? ⟨w.heap.size+1+1,0,none⟩ = some (.bool (false)):=y0
      exact ⟨by simp,.inl ⟨_,_,rfl,run_takeDeferred y1,.bool (false),by simp [results,Tryz.results80,go_sem,y0'],y2⟩⟩
    ·have n2:x.name.toList.isEmpty = false:=by cases h:x.name.toList with | nil=>exact absurd h hn | cons _ _=>rfl
     have N2:Hid (x.name.toList.isEmpty = !true):=hid n2
     clear hn
     have S2:Hid (x.state.toList.isEmpty = !!x.state.toList.isEmpty):=hid (by simp)
     have A2:Hid (decide (x.args.length = 0) = decide (x.args.length = 0)):=hid rfl
     have HE:=hid (hfin.out (false) (by rw [hrest.out,QB0 x false false false (true) (!x.state.toList.isEmpty) (decide (x.args.length = 0)) hnk.out t20.out t19.out N2.out S2.out A2.out];rfl))
     clear hfin hrest
     go_wp2_with fail
     refine wpIn_wide.2 ?_
     go_wp2_with fail
     refine QAD 38 (by kernel_rfl) (by kernel_rfl) ?_
     simp only [List.take_succ_cons,List.take_zero,List.drop_succ_cons,List.drop_zero]
     repeat (go_big_quiet_step (fail))
     refine wpQuiet_nil ?_
     go_wp2_with fail
     obtain ⟨y0,y1,y2⟩:=HE.out 1
     have y0' : ((((W.setCell ⟨w.heap.size+1+1,0,none⟩ (.bool (false))).alloc (.cells #[.int .i64 x.a,.int .i64 x.b,.int .i64 x.c] 160)).drew).putObj D (.deferred none)).cell? ⟨w.heap.size+1+1,0,none⟩ = some (.bool (false)):=y0
     exact ⟨by simp,.inl ⟨_,_,rfl,run_takeDeferred y1,.bool (false),by simp [results,Tryz.results80,go_sem,y0'],y2⟩⟩
 case stop =>
  rintro D c pre W hD hpre ⟨rfl,hres,⟨p,hp,hbad⟩,hb,hz⟩ hK
  gi_wp2
  refine ⟨by simp,.inl ⟨_,_,rfl,run_takeDeferred hK,?_⟩⟩
  have hDr:w.heap.size+2≠D:=by rintro rfl;rw [hres] at hK;cases hK
  have y0:(W.putObj D (.deferred none)).cell? ⟨w.heap.size+1+1,0,none⟩ = some (.bool false):=by
   have h:(W.putObj D (.deferred none)).heap[w.heap.size+2]? = _:=(World.putObj_heap_other hDr).trans hres
   simp [World.cell?,h]
  rw [QCQ p.2 hbad]
  refine ⟨.bool false,by simp [results,Tryz.results80,go_sem,y0],rfl,hb.trans ?_⟩
  exact (belowK_b (w:=w) (Nat.le_refl _) W D _ _ (by rw [World.size_alloc,World.size_alloc,World.size_alloc,World.size_alloc] at hD;omega) hK rfl rfl)
end
section
open Go.Lib (hid)
open Go.RowKit Go.Shelf
theorem QM0 (x:Ex) (s:Value) (i:Nat) (w:World) (ha:IntsAt w s x.args) (hk:ExOk x) :
  Calls Tryz.prog 80 #[exV x s,.int .i64 (i:Int)] w fun e w'=>QBa (QCJ x i) w e w':=by
 by_cases h:1≤x.kind∧x.kind≤21
 ·have q1:decide (x.kind < 1) = false:=decide_eq_false (by omega)
  have q2:decide (21 < x.kind) = false:=decide_eq_false (by omega)
  obtain ⟨o,cap,b,off,hs,_⟩:=id ha
  by_cases h3:x.kind = 3
  ·exact callsIn_wide.1 (QNk x s i q1 q2 w (hid ha) (hid hk) o _ cap (hid hs) (hid rfl) (hid (by rw [h3];rfl)) (hid (by rw [h3];rfl)) (hid (by rw [h3];rfl)))
  ·by_cases h19:x.kind = 19
   ·exact callsIn_wide.1 (QM1 x s i q1 q2 w (hid ha) (hid hk) o _ cap (hid hs) (hid rfl) (hid (by rw [h19];rfl)) (hid (by rw [h19];rfl)) (hid (by rw [h19];rfl)))
   ·by_cases h20:x.kind = 20
    ·exact callsIn_wide.1 (QM2 x s i q1 q2 w (hid ha) (hid hk) o _ cap (hid hs) (hid rfl) (hid (by rw [h20];rfl)) (hid (by rw [h20];rfl)) (hid (by rw [h20];rfl)))
    ·exact callsIn_wide.1 (QNj x s i q1 q2 w (hid ha) (hid hk) o _ cap (hid hs) (hid rfl) (hid (beq_false_of_ne h3)) (hid (beq_false_of_ne h19)) (hid (beq_false_of_ne h20)))
 ·exact QKG x s i h w
end
section
open Go.RowKit
theorem QEK (k t e p:Int) (nm:ByteArray) (a b:Value) (w:World):Calls Tryz.prog 82 #[.agg #[.int .i64 k,.string nm,a,b,.int .i64 t,.int .i64 e,.int .i64 p]] w fun r w'=>r = .returned (.bool (QCA k))∧Below w.heap.size w w':=by
 unfold QCA
 by_cases h1:k = 1
 ·subst h1
  go_enter Tryz.func82,Tryz.ntmps82
  go_wp2_with fail
  go_ret
  exact ⟨rfl,QA5 (Below.refl _ _) _⟩
 ·have e1:(k == 1) = false:=beq_false_of_ne h1
  rw [decide_eq_false h1]
  clear h1
  go_enter Tryz.func82,Tryz.ntmps82
  go_wp2_with fail
  go_ret
  exact ⟨rfl,QA5 (Below.refl _ _) _⟩
theorem QGU (k t e f p:Int) (nm st nx:ByteArray) (a:Value) (w:World):Calls Tryz.prog 83 #[.agg #[.int .i64 k,.string nm,.int .i64 t,.int .i64 e,.int .i64 f,a,.string st,.string nx,.int .i64 p]] w fun r w'=>r = .returned (.bool (hasE k))∧Below w.heap.size w w':=by
 by_cases h:k = 1∨k = 2∨k = 3∨k = 4∨k = 5
 ·rcases h with rfl | rfl | rfl | rfl | rfl
  all_goals
   go_enter Tryz.func83,Tryz.ntmps83
   go_wp2_with fail
   go_ret
   exact ⟨rfl,QA5 (Below.refl _ _) _⟩
 ·have hr:hasE k = false:=by unfold hasE;rw [decide_eq_false (show ¬ k = 1 by omega),decide_eq_false (show ¬ k = 4 by omega),decide_eq_false (show ¬ k = 2 by omega),decide_eq_false (show ¬ k = 3 by omega),decide_eq_false (show ¬ k = 5 by omega)];rfl
  have e1:(k == 1) = false:=beq_false_of_ne (by omega)
  have e4:(k == 4) = false:=beq_false_of_ne (by omega)
  have e2:(k == 2) = false:=beq_false_of_ne (by omega)
  have e3:(k == 3) = false:=beq_false_of_ne (by omega)
  have e5:(k == 5) = false:=beq_false_of_ne (by omega)
  rw [hr]
  clear h hr
  go_enter Tryz.func83,Tryz.ntmps83
  go_wp2_with fail
  go_ret
  exact ⟨rfl,QA5 (Below.refl _ _) _⟩
theorem QIz (k t e f p:Int) (nm st nx:ByteArray) (a:Value) (w:World):Calls Tryz.prog 84 #[.agg #[.int .i64 k,.string nm,.int .i64 t,.int .i64 e,.int .i64 f,a,.string st,.string nx,.int .i64 p]] w fun r w'=>r = .returned (.bool (hasF k))∧Below w.heap.size w w':=by
 by_cases h:k = 2∨k = 3∨k = 5∨k = 7
 ·rcases h with rfl | rfl | rfl | rfl
  all_goals
   go_enter Tryz.func84,Tryz.ntmps84
   go_wp2_with fail
   go_ret
   exact ⟨rfl,QA5 (Below.refl _ _) _⟩
 ·have hr:hasF k = false:=by unfold hasF;rw [decide_eq_false (show ¬ k = 2 by omega),decide_eq_false (show ¬ k = 3 by omega),decide_eq_false (show ¬ k = 5 by omega),decide_eq_false (show ¬ k = 7 by omega)];rfl
  have e2:(k == 2) = false:=beq_false_of_ne (by omega)
  have e3:(k == 3) = false:=beq_false_of_ne (by omega)
  have e5:(k == 5) = false:=beq_false_of_ne (by omega)
  have e7:(k == 7) = false:=beq_false_of_ne (by omega)
  rw [hr]
  clear h hr
  go_enter Tryz.func84,Tryz.ntmps84
  go_wp2_with fail
  go_ret
  exact ⟨rfl,QA5 (Below.refl _ _) _⟩
theorem QKY (has:Bool) (e:Int) (B n cap:Nat) (o:Option Addr) (w:World) (hc:w.cell? ⟨B,1,none⟩ = some (.slice o n cap)) :
  Calls Tryz.prog 81 #[.bool has,.int .i64 e,.pointer (some ⟨B,0,none⟩)] w fun r w'=>r = .returned (.bool (QAg n has e))∧w' = w:=by
 unfold QAg
 cases has with
 | false =>
  rw [if_neg Bool.false_ne_true]
  by_cases h0:e = 0
  ·subst h0
   go_enter Tryz.func81,Tryz.ntmps81
   go_wp2_with fail
   go_ret
   exact ⟨rfl,rfl⟩
  ·have t:(e == 0) = false:=beq_false_of_ne h0
   rw [decide_eq_false h0]
   clear h0
   go_enter Tryz.func81,Tryz.ntmps81
   go_wp2_with fail
   go_ret
   exact ⟨by first | rfl | (show Ending.returned (.bool (e == 0)) = _;rw [t]),rfl⟩
 | true =>
  rw [if_pos rfl]
  by_cases h0:0≤e
  ·have t:decide (0≤e) = true:=decide_eq_true h0
   rw [t]
   clear h0
   go_enter Tryz.func81,Tryz.ntmps81
   go_wp2_with fail
   go_ret
   exact ⟨by first | rfl | simp,rfl⟩
  ·have t:decide (0≤e) = false:=decide_eq_false h0
   rw [t]
   clear h0
   go_enter Tryz.func81,Tryz.ntmps81
   go_wp2_with fail
   go_ret
   exact ⟨by first | rfl | simp,rfl⟩
end
section
open Go.Lib (hid)
open Go.RowKit
theorem QIw {w:World} {b o:Nat} {x:Ex} (h:ExAt w b o x):∃ oa capa,IntsAt w (.slice oa x.args.length capa) x.args∧ExOk x∧w.cell? ⟨b,o,none⟩ = some (.int .i64 x.kind)∧w.cell? ⟨b,o+1,none⟩ = some (.int .i64 x.a)∧w.cell? ⟨b,o+2,none⟩ = some (.int .i64 x.b) ∧
 w.cell? ⟨b,o+3,none⟩ = some (.int .i64 x.c)∧w.cell? ⟨b,o+4,none⟩ = some (.string x.name)∧w.cell? ⟨b,o+5,none⟩ = some (.string x.state)∧w.cell? ⟨b,o+6,none⟩ = some (.int .i64 x.v) ∧
 w.cell? ⟨b,o+7,none⟩ = some (.slice oa x.args.length capa)∧w.cell? ⟨b,o+8,none⟩ = some (.int .i64 x.pos):=by
 obtain ⟨s,h0,h1,h2,h3,h4,h5,h6,h7,h8,h9,hk⟩:=h
 obtain ⟨oa,capa,ba,offa,rfl,_⟩:=id h9
 exact ⟨oa,capa,h9,hk,h0,h1,h2,h3,h4,h5,h6,h7,h8⟩
theorem QGO {w:World} {b o:Nat} {x:De} (h:DeAt w b o x):∃ op capp oi capi bi offi,DeOk x∧w.cell? ⟨b,o,none⟩ = some (.int .i64 x.kind)∧w.cell? ⟨b,o+1,none⟩ = some (.string x.name)∧w.cell? ⟨b,o+2,none⟩ = some (.slice op x.params.length capp) ∧
 w.cell? ⟨b,o+3,none⟩ = some (.slice oi x.items.length capi)∧w.cell? ⟨b,o+4,none⟩ = some (.int .i64 x.type)∧w.cell? ⟨b,o+5,none⟩ = some (.int .i64 x.e)∧w.cell? ⟨b,o+6,none⟩ = some (.int .i64 x.pos) ∧
 (0 < x.items.length→oi = some ⟨bi,offi,none⟩)∧(∀ i,i < x.items.length→∀ y,x.items[i]? = some y→ItAt w bi (offi+i*9) y):=by
 obtain ⟨s,t,h0,h1,h2,h3,h4,h5,h6,⟨op,capp,bp,offp,rfl,hp1,hp2,hp3,hp4⟩,⟨oi,capi,bi,offi,rfl,hi1,hi2,hi3,hi4⟩,hk⟩:=h
 exact ⟨op,capp,oi,capi,bi,offi,hk,h0,h1,h2,h3,h4,h5,h6,hi3,hi4⟩
theorem de_cells' {w W:World} {b o:Nat} {x:De} (h:DeAt w b o x) (hb:Below w.heap.size w W):∃ op capp oi capi bi offi,DeOk x∧W.cell? ⟨b,o,none⟩ = some (.int .i64 x.kind)∧W.cell? ⟨b,o+1,none⟩ = some (.string x.name)∧W.cell? ⟨b,o+2,none⟩ = some (.slice op x.params.length capp) ∧
 W.cell? ⟨b,o+3,none⟩ = some (.slice oi x.items.length capi)∧W.cell? ⟨b,o+4,none⟩ = some (.int .i64 x.type)∧W.cell? ⟨b,o+5,none⟩ = some (.int .i64 x.e)∧W.cell? ⟨b,o+6,none⟩ = some (.int .i64 x.pos) ∧
 (0 < x.items.length→oi = some ⟨bi,offi,none⟩)∧(∀ i,i < x.items.length→∀ y,x.items[i]? = some y→ItAt w bi (offi+i*9) y):=by
 obtain ⟨op,capp,oi,capi,bi,offi,h0,h1,h2,h3,h4,h5,h6,h7,h8,h9⟩:=QGO h
 exact ⟨op,capp,oi,capi,bi,offi,h0,QA1 hb h1,QA1 hb h2,QA1 hb h3,QA1 hb h4,QA1 hb h5,QA1 hb h6,QA1 hb h7,h8,h9⟩
theorem QCf {w:World} {b o:Nat} {x:It} (h:ItAt w b o x):∃ os caps,ItOk x∧w.cell? ⟨b,o,none⟩ = some (.int .i64 x.kind)∧w.cell? ⟨b,o+1,none⟩ = some (.string x.name)∧w.cell? ⟨b,o+2,none⟩ = some (.int .i64 x.type) ∧
 w.cell? ⟨b,o+3,none⟩ = some (.int .i64 x.e)∧w.cell? ⟨b,o+4,none⟩ = some (.int .i64 x.f)∧w.cell? ⟨b,o+5,none⟩ = some (.slice os x.states.length caps)∧w.cell? ⟨b,o+6,none⟩ = some (.string x.state) ∧
 w.cell? ⟨b,o+7,none⟩ = some (.string x.next)∧w.cell? ⟨b,o+8,none⟩ = some (.int .i64 x.pos):=by
 obtain ⟨s,h0,h1,h2,h3,h4,h5,h6,h7,h8,⟨os,caps,bs,offs,rfl,_⟩,hk⟩:=h
 exact ⟨os,caps,hk,h0,h1,h2,h3,h4,h5,h6,h7,h8⟩
theorem QNo {l:List Ex} {k:Nat}:(∀ i,i < k→QNn l i = true)→l.length≤k→(List.range l.length).all (QNn l) = true:=fun h hk=>by
 rw [List.all_eq_true];intro i hi;exact h i (Nat.lt_of_lt_of_le (List.mem_range.1 hi) hk)
theorem mayP_ex {p:Pr} {i:Nat} {x:Ex} (h:p.exprs[i]? = some x) (hm:QCJ x i = false):QFE p = false:=by
 have:(List.range p.exprs.length).all (QNn p.exprs) = false:=by
  rw [List.all_eq_false]
  exact ⟨i,List.mem_range.2 (List.getElem?_eq_some_iff.1 h).1,by unfold QNn;rw [h];simp [hm]⟩
 unfold QFE;rw [this];rfl
theorem QBB (has:Bool) (e:Int) (B n cap:Nat) (o:Option Addr) (w:World) (hc:w.cell? ⟨B,1,none⟩ = some (.slice o n cap)) :
  Calls Tryz.prog 81 #[.bool has,.int .i64 e,.pointer (some ⟨B,0,none⟩)] w fun r w'=>r = .returned (.bool (QAg n has e))∧Below w.heap.size w w' :=
 (QKY has e B n cap o w hc).mono fun _ _ ⟨h1,h2⟩=>⟨h1,by rw [h2];exact Below.refl _ _⟩
theorem QNm {n k:Nat} {l:List It} (h:∀ i,i < k→∀ y,l[i]? = some y→QFZ n y = true) (hk:l.length≤k):l.all (QFZ n) = true:=by
 rw [List.all_eq_true];intro y hy
 obtain ⟨i,hi,rfl⟩:=List.mem_iff_getElem.1 hy
 exact h i (by omega) _ (List.getElem?_eq_getElem hi)
theorem QNl {n k:Nat} {l:List De} (h:∀ i,i < k→∀ y,l[i]? = some y→QJ8 n y = true) (hk:l.length≤k):l.all (QJ8 n) = true:=by
 rw [List.all_eq_true];intro y hy
 obtain ⟨i,hi,rfl⟩:=List.mem_iff_getElem.1 hy
 exact h i (by omega) _ (List.getElem?_eq_getElem hi)
theorem QM3 {n i:Nat} {d:De} {y:It} (h:d.items[i]? = some y) (hm:QFZ n y = false):QJ8 n d = false:=by
 have:d.items.all (QFZ n) = false:=by rw [List.all_eq_false];exact ⟨y,List.mem_of_getElem? h,by simp [hm]⟩
 unfold QJ8;rw [this];simp
theorem QIN {p:Pr} {i:Nat} {d:De} (h:p.decls[i]? = some d) (hm:QJ8 p.exprs.length d = false):QFE p = false:=by
 have:p.decls.all (QJ8 p.exprs.length) = false:=by
  rw [List.all_eq_false]
  exact ⟨d,List.mem_of_getElem? h,by simp [hm]⟩
 unfold QFE;rw [this];simp
set_option maxHeartbeats 8000000 in
set_option maxRecDepth 100000 in
theorem QNp (o1 o2:Option Addr) (b off cap db doff dcap:Nat) (p:Pr) (n m:Nat) (hn:Hid (p.exprs.length = n)) (hm:Hid (p.decls.length = m)) (nl:(n:Int)≤300) (ml:(m:Int)≤60) (w:World)
  (hS:Hid (Small p)) (he:Hid (0 < n→o2 = some ⟨b,off,none⟩)) (hd:Hid (0 < m→o1 = some ⟨db,doff,none⟩))
  (hc:Hid (∀ i,i < n→∀ x,p.exprs[i]? = some x→ExAt w b (off+i*9) x)) (hdc:Hid (∀ i,i < m→∀ x,p.decls[i]? = some x→DeAt w db (doff+i*7) x)) :
  Calls Tryz.prog 52 #[.agg #[(.slice o1 m dcap),(.slice o2 n cap)]] w fun e w'=>QBa (QFE p) w e w':=by
 have hW0:=hid (QA5 (Below.refl w.heap.size w) (.cells #[(.slice o1 m dcap),(.slice o2 n cap)] 26))
 have hB0:Hid ((w.alloc (.cells #[(.slice o1 m dcap),(.slice o2 n cap)] 26)).heap[w.heap.size]? = some (.cells #[(.slice o1 m dcap),(.slice o2 n cap)] 26 (0,0))):=hid (World.alloc_heap_new w _)
 go_enter Tryz.func52,Tryz.ntmps52
 go_wp2_with fail
 go_loopw [13] (fun i wr=>∃ (k:Nat),i = .int .i64 k∧k≤n∧Hid (∀ i,i < k→QNn p.exprs i = true)∧Hid (Below w.heap.size w wr)∧Hid (wr.heap[w.heap.size]? = some (.cells #[(.slice o1 m dcap),(.slice o2 n cap)] 26 (0,0)))) (fun i _=>n - QA2 i)
 case atStart=>exact ⟨0,rfl,Nat.zero_le _,hid fun i hi=>by omega,hW0,hB0⟩
 case round =>
  clear hW0 hB0
  obtain ⟨k,rfl,hk,hX,hW,hB⟩:=hrel
  have g1:wr.cell? ⟨w.heap.size,0,none⟩ = some (.slice o1 m dcap):=by simp [World.cell?,hB.out]
  have g2:wr.cell? ⟨w.heap.size,1,none⟩ = some (.slice o2 n cap):=by simp [World.cell?,hB.out]
  rcases Nat.lt_or_ge k n with hlt | hge
  ·have hl:(k:Int) < (n:Int):=by omega
   obtain ⟨x,hxk⟩:∃ x,p.exprs[k]? = some x:=⟨_,List.getElem?_eq_getElem (by have:=hn.out;omega)⟩
   obtain ⟨oa,capa,hargs,hok,c0,c1,c2,c3,c4,c5,c6,c7,c8⟩:=QIw ((hc.out k hlt x hxk).below hW.out)
   have HA:=hid hargs
   have HO:=hid hok
   have HX:=hid hxk
   have ix:=QHP (cap:=cap) he.out hlt (by omega)
   unfold Ix at ix
   clear hargs hok hxk
   have C:Hid (∀ w1,Below wr.heap.size wr w1→Calls Tryz.prog 80 #[.agg #[.int .i64 x.kind,.int .i64 x.a,.int .i64 x.b,.int .i64 x.c,.string x.name,.string x.state,.int .i64 x.v,.slice oa x.args.length capa,.int .i64 x.pos],.int .i64 (k:Int)] w1 fun e w'=>QBa (QCJ x k) w1 e w') :=
    hid fun w1 h1=>QM0 x _ k w1 (HA.out.below h1) HO.out
   have hal:=hid (QA5 (Below.refl wr.heap.size wr) (.cells #[.int .i64 x.kind,.int .i64 x.a,.int .i64 x.b,.int .i64 x.c,.string x.name,.string x.state,.int .i64 x.v,.slice oa x.args.length capa,.int .i64 x.pos] 54))
   cases hme:QCJ x k with
   | true =>
    rw [hme] at C
    have HM:=hid hme
    clear hme
    go_wp2_with (go_at_call 80;((with_reducible refine (C.out _ hal.out).mono ?_);rintro e w1 ⟨rfl,hb1⟩;have HB1:=hid hb1;clear hb1))
    go_roundw
    case rel =>
     have hb2:=hal.out.trans (HB1.out.mono hal.out.size)
     refine ⟨k+1,by go_num,by omega,hid fun i hi=>?_,hid (hW.out.trans (hb2.mono hW.out.size)),hid ((hb2.block _ (lt_of_heap hB.out)).trans hB.out)⟩
     rcases Nat.lt_or_ge i k with h | h
     ·exact hX.out i h
     ·obtain rfl:i = k:=by omega
      unfold QNn;rw [HX.out];exact HM.out
    case measure=>simp [QA2];omega
   | false =>
    rw [hme] at C
    have HM:=hid (mayP_ex HX.out hme)
    clear hme
    go_wp2_with (go_at_call 80;((with_reducible refine (C.out _ hal.out).mono ?_);rintro e w1 ⟨rfl,hb1⟩;have HB1:=hid hb1;clear hb1))
    go_ret
    have hb2:=hal.out.trans (HB1.out.mono hal.out.size)
    exact ⟨by rw [HM.out];rfl,hW.out.trans (hb2.mono hW.out.size)⟩
  ·obtain rfl:k = n:=by omega
   have hEX:=hid (QNo hX.out (by rw [hn.out];exact Nat.le_refl _))
   clear hX
   go_wp2_with fail
   clear g1 g2
   go_loopw [27] (fun i wr=>∃ (j:Nat),i = .int .i64 j∧j≤m∧Hid (∀ i,i < j→∀ d,p.decls[i]? = some d→QJ8 k d = true)∧Hid (Below w.heap.size w wr)∧Hid (wr.heap[w.heap.size]? = some (.cells #[(.slice o1 m dcap),(.slice o2 k cap)] 26 (0,0)))) (fun i _=>m - QA2 i)
   case atStart=>exact ⟨0,rfl,Nat.zero_le _,hid fun i hi=>by omega,hW,hB⟩
   case round =>
    clear hW hB
    obtain ⟨j,rfl,hj,hX,hW,hB⟩:=hrel
    have g1:wr.cell? ⟨w.heap.size,0,none⟩ = some (.slice o1 m dcap):=by simp [World.cell?,hB.out]
    have g2:wr.cell? ⟨w.heap.size,1,none⟩ = some (.slice o2 k cap):=by simp [World.cell?,hB.out]
    rcases Nat.lt_or_ge j m with hlt | hge
    ·have hl:(j:Int) < (m:Int):=by omega
     obtain ⟨d,hdj⟩:∃ x,p.decls[j]? = some x:=⟨_,List.getElem?_eq_getElem (by have:=hm.out;omega)⟩
     obtain ⟨op,capp,oi,capi,bi,offi,hok,c0,c1,c2,c3,c4,c5,c6,hi3,hi4⟩:=de_cells' (hdc.out j hlt d hdj) hW.out
     have ix:=QCh (cap:=dcap) hd.out hlt (by omega)
     unfold Ix at ix
     obtain ⟨ni,hni⟩:∃ ni,ni = d.items.length:=⟨_,rfl⟩
     rw [← hni] at c3 hi3 hi4
     have HN:=hid hni
     clear hni
     have HI3:=hid hi3
     have HI4:=hid hi4
     have HDJ:=hid hdj
     clear hi3 hi4 hok hdj
     cases hst:QAg k (QCA d.kind) d.e with
     | false =>
      have HST:=hid hst
      have HM:=hid (QIN HDJ.out (show QJ8 p.exprs.length d = false by rw [hn.out];unfold QJ8;rw [hst];rfl))
      clear hst
      go_wp2_with fail
      obtain ⟨W2,hW2⟩:∃ W2,W2 = wr.alloc (.cells #[.int .i64 d.kind,.string d.name,.slice op d.params.length capp,.slice oi ni capi,.int .i64 d.type,.int .i64 d.e,.int .i64 d.pos] 36):=⟨_,rfl⟩
      rw [← hW2]
      have hb2:=hid (show Below wr.heap.size wr W2 by rw [hW2];exact QA5 (Below.refl _ _) _)
      have e2:W2.cell? ⟨w.heap.size,1,none⟩ = some (.slice o2 k cap):=QA1 hb2.out g2
      have e3:W2.cell? ⟨w.heap.size,0,none⟩ = some (.slice o1 m dcap):=QA1 hb2.out g1
      have d0:W2.cell? ⟨wr.heap.size,0,none⟩ = some (.int .i64 d.kind):=by rw [hW2];go_simp
      have d1:W2.cell? ⟨wr.heap.size,1,none⟩ = some (.string d.name):=by rw [hW2];go_simp
      have d2:W2.cell? ⟨wr.heap.size,2,none⟩ = some (.slice op d.params.length capp):=by rw [hW2];go_simp
      have d3:W2.cell? ⟨wr.heap.size,3,none⟩ = some (.slice oi ni capi):=by rw [hW2];go_simp
      have d4:W2.cell? ⟨wr.heap.size,4,none⟩ = some (.int .i64 d.type):=by rw [hW2];go_simp
      have d5:W2.cell? ⟨wr.heap.size,5,none⟩ = some (.int .i64 d.e):=by rw [hW2];go_simp
      have d6:W2.cell? ⟨wr.heap.size,6,none⟩ = some (.int .i64 d.pos):=by rw [hW2];go_simp
      clear hW2 c0 c1 c2 c3 c4 c5 c6 ix g1 g2
      have Ge2:=fun pr:Regrown=>cell_regrown e2 pr.d pr.os
      have Gd0:=fun pr:Regrown=>cell_regrown d0 pr.d pr.os
      have Gd1:=fun pr:Regrown=>cell_regrown d1 pr.d pr.os
      have Gd2:=fun pr:Regrown=>cell_regrown d2 pr.d pr.os
      have Gd3:=fun pr:Regrown=>cell_regrown d3 pr.d pr.os
      have Gd4:=fun pr:Regrown=>cell_regrown d4 pr.d pr.os
      have Gd5:=fun pr:Regrown=>cell_regrown d5 pr.d pr.os
      have Gd6:=fun pr:Regrown=>cell_regrown d6 pr.d pr.os
      have D3:=hid d3
      clear e2 d0 d1 d2 d3 d4 d5 d6 e3
      have cV:∀ pr:Regrown,Calls Tryz.prog 82 #[.agg #[.int .i64 d.kind,.string d.name,.slice op d.params.length capp,.slice oi ni capi,.int .i64 d.type,.int .i64 d.e,.int .i64 d.pos]] (Go.Sort.grow (redrawn W2 pr.d) pr.os) fun e w''=>e = .returned (.bool (QCA d.kind))∧∃ p:Regrown,w'' = Go.Sort.grow (redrawn W2 p.d) p.os:=fun pr=>Calls.regrown_of (QEK _ _ _ _ _ _ _ _)
      have cS:∀ pr:Regrown,Calls Tryz.prog 81 #[.bool (QCA d.kind),.int .i64 d.e,.pointer (some ⟨w.heap.size,0,none⟩)] (Go.Sort.grow (redrawn W2 pr.d) pr.os) fun e w''=>e = .returned (.bool false)∧∃ p:Regrown,w'' = Go.Sort.grow (redrawn W2 p.d) p.os:=fun pr=>Calls.regrown_of (by rw [← HST.out];exact QBB _ _ _ _ _ _ _ (Ge2 pr))
      have CV:=hid cV
      have CS:=hid cS
      clear cV cS
      refine wp_region_quiet_below (by kernel_rfl) (by kernel_rfl) ?_
      repeat (go_big_quiet_step (first | with_reducible exact CV.out _ | with_reducible exact CS.out _))
      refine wpQuiet_nil ?_
      intro w4 hw4
      have HB3:Hid (Below W2.heap.size W2 w4):=hid (by obtain ⟨pr,rfl⟩:=hw4;exact below_regrown _ _ _)
      clear hw4 Ge2 Gd0 Gd1 Gd2 Gd3 Gd4 Gd5 Gd6 CV CS
      go_wp2_with fail
      go_ret
      exact ⟨by rw [HM.out];rfl,hW.out.trans ((hb2.out.trans (HB3.out.mono hb2.out.size)).mono hW.out.size)⟩
     | true =>
      have HST:=hid hst
      clear hst
      go_wp2_with fail
      obtain ⟨W2,hW2⟩:∃ W2,W2 = wr.alloc (.cells #[.int .i64 d.kind,.string d.name,.slice op d.params.length capp,.slice oi ni capi,.int .i64 d.type,.int .i64 d.e,.int .i64 d.pos] 36):=⟨_,rfl⟩
      rw [← hW2]
      have hb2:=hid (show Below wr.heap.size wr W2 by rw [hW2];exact QA5 (Below.refl _ _) _)
      have e2:W2.cell? ⟨w.heap.size,1,none⟩ = some (.slice o2 k cap):=QA1 hb2.out g2
      have e3:W2.cell? ⟨w.heap.size,0,none⟩ = some (.slice o1 m dcap):=QA1 hb2.out g1
      have d0:W2.cell? ⟨wr.heap.size,0,none⟩ = some (.int .i64 d.kind):=by rw [hW2];go_simp
      have d1:W2.cell? ⟨wr.heap.size,1,none⟩ = some (.string d.name):=by rw [hW2];go_simp
      have d2:W2.cell? ⟨wr.heap.size,2,none⟩ = some (.slice op d.params.length capp):=by rw [hW2];go_simp
      have d3:W2.cell? ⟨wr.heap.size,3,none⟩ = some (.slice oi ni capi):=by rw [hW2];go_simp
      have d4:W2.cell? ⟨wr.heap.size,4,none⟩ = some (.int .i64 d.type):=by rw [hW2];go_simp
      have d5:W2.cell? ⟨wr.heap.size,5,none⟩ = some (.int .i64 d.e):=by rw [hW2];go_simp
      have d6:W2.cell? ⟨wr.heap.size,6,none⟩ = some (.int .i64 d.pos):=by rw [hW2];go_simp
      clear hW2 c0 c1 c2 c3 c4 c5 c6 ix g1 g2
      have Ge2:=fun pr:Regrown=>cell_regrown e2 pr.d pr.os
      have Gd0:=fun pr:Regrown=>cell_regrown d0 pr.d pr.os
      have Gd1:=fun pr:Regrown=>cell_regrown d1 pr.d pr.os
      have Gd2:=fun pr:Regrown=>cell_regrown d2 pr.d pr.os
      have Gd3:=fun pr:Regrown=>cell_regrown d3 pr.d pr.os
      have Gd4:=fun pr:Regrown=>cell_regrown d4 pr.d pr.os
      have Gd5:=fun pr:Regrown=>cell_regrown d5 pr.d pr.os
      have Gd6:=fun pr:Regrown=>cell_regrown d6 pr.d pr.os
      have D3:=hid d3
      clear e2 d0 d1 d2 d3 d4 d5 d6 e3
      have cV:∀ pr:Regrown,Calls Tryz.prog 82 #[.agg #[.int .i64 d.kind,.string d.name,.slice op d.params.length capp,.slice oi ni capi,.int .i64 d.type,.int .i64 d.e,.int .i64 d.pos]] (Go.Sort.grow (redrawn W2 pr.d) pr.os) fun e w''=>e = .returned (.bool (QCA d.kind))∧∃ p:Regrown,w'' = Go.Sort.grow (redrawn W2 p.d) p.os:=fun pr=>Calls.regrown_of (QEK _ _ _ _ _ _ _ _)
      have cS:∀ pr:Regrown,Calls Tryz.prog 81 #[.bool (QCA d.kind),.int .i64 d.e,.pointer (some ⟨w.heap.size,0,none⟩)] (Go.Sort.grow (redrawn W2 pr.d) pr.os) fun e w''=>e = .returned (.bool true)∧∃ p:Regrown,w'' = Go.Sort.grow (redrawn W2 p.d) p.os:=fun pr=>Calls.regrown_of (by rw [← HST.out];exact QBB _ _ _ _ _ _ _ (Ge2 pr))
      have CV:=hid cV
      have CS:=hid cS
      clear cV cS
      refine wp_region_quiet_below (by kernel_rfl) (by kernel_rfl) ?_
      repeat (go_big_quiet_step (first | with_reducible exact CV.out _ | with_reducible exact CS.out _))
      refine wpQuiet_nil ?_
      intro w4 hw4
      have HB3:Hid (Below W2.heap.size W2 w4):=hid (by obtain ⟨pr,rfl⟩:=hw4;exact below_regrown _ _ _)
      clear hw4 Ge2 Gd0 Gd1 Gd2 Gd3 Gd4 Gd5 Gd6 CV CS
      have y4:w4.cell? ⟨wr.heap.size,3,none⟩ = some (.slice oi ni capi):=QA1 HB3.out D3.out
      have hW4:=hid (hW.out.trans ((hb2.out.trans (HB3.out.mono hb2.out.size)).mono hW.out.size))
      have hB4:Hid (w4.heap[w.heap.size]? = some (.cells #[(.slice o1 m dcap),(.slice o2 k cap)] 26 (0,0))):=hid (((hb2.out.trans (HB3.out.mono hb2.out.size)).block _ (lt_of_heap hB.out)).trans hB.out)
      have hnl:(ni:Int)≤600:=by have:=(hS.out.de d (List.mem_of_getElem? HDJ.out)).2.1;have:=HN.out;omega
      clear hW hB
      go_wp2_with fail
      clear y4 HB3 hb2
      go_loopw [41] (fun i wr=>∃ (l:Nat),i = .int .i64 l∧l≤ni∧Hid (∀ i,i < l→∀ y,d.items[i]? = some y→QFZ k y = true)∧Hid (Below w.heap.size w wr)∧Hid (wr.heap[w.heap.size]? = some (.cells #[(.slice o1 m dcap),(.slice o2 k cap)] 26 (0,0)))) (fun i _=>ni - QA2 i)
      case atStart=>exact ⟨0,rfl,Nat.zero_le _,hid fun i hi=>by omega,hW4,hB4⟩
      case round =>
       clear hW4 hB4
       obtain ⟨l,rfl,hl1,hY,hW,hB⟩:=hrel
       have g1:wr.cell? ⟨w.heap.size,0,none⟩ = some (.slice o1 m dcap):=by simp [World.cell?,hB.out]
       have g2:wr.cell? ⟨w.heap.size,1,none⟩ = some (.slice o2 k cap):=by simp [World.cell?,hB.out]
       rcases Nat.lt_or_ge l ni with hlt2 | hge2
       ·have hl2:(l:Int) < (ni:Int):=by omega
        obtain ⟨y,hyl⟩:∃ x,d.items[l]? = some x:=⟨_,List.getElem?_eq_getElem (by have:=HN.out;omega)⟩
        obtain ⟨os,caps,hok,i0,i1,i2,i3,i4,i5,i6,i7,i8⟩:=QCf ((HI4.out l hlt2 y hyl).below hW.out)
        have ix:=QEL (cap:=capi) HI3.out hlt2 (by omega)
        unfold Ix at ix
        have HYL:=hid hyl
        clear hok hyl
        cases hs1:QAg k (hasE y.kind) y.e with
        | false =>
         have S1:=hid hs1
         have HM:=hid (QIN HDJ.out (QM3 HYL.out (show QFZ p.exprs.length y = false by rw [hn.out];unfold QFZ;rw [hs1];rfl)))
         clear hs1
         go_wp2_with fail
         obtain ⟨W5,hW5⟩:∃ W5,W5 = wr.alloc (.cells #[.int .i64 y.kind,.string y.name,.int .i64 y.type,.int .i64 y.e,.int .i64 y.f,.slice os y.states.length caps,.string y.state,.string y.next,.int .i64 y.pos] 57):=⟨_,rfl⟩
         rw [← hW5]
         have hb5:=hid (show Below wr.heap.size wr W5 by rw [hW5];exact QA5 (Below.refl _ _) _)
         have q9:W5.cell? ⟨w.heap.size,1,none⟩ = some (.slice o2 k cap):=QA1 hb5.out g2
         have q0:W5.cell? ⟨wr.heap.size,0,none⟩ = some (.int .i64 y.kind):=by rw [hW5];go_simp
         have q1:W5.cell? ⟨wr.heap.size,1,none⟩ = some (.string y.name):=by rw [hW5];go_simp
         have q2:W5.cell? ⟨wr.heap.size,2,none⟩ = some (.int .i64 y.type):=by rw [hW5];go_simp
         have q3:W5.cell? ⟨wr.heap.size,3,none⟩ = some (.int .i64 y.e):=by rw [hW5];go_simp
         have q4:W5.cell? ⟨wr.heap.size,4,none⟩ = some (.int .i64 y.f):=by rw [hW5];go_simp
         have q5:W5.cell? ⟨wr.heap.size,5,none⟩ = some (.slice os y.states.length caps):=by rw [hW5];go_simp
         have q6:W5.cell? ⟨wr.heap.size,6,none⟩ = some (.string y.state):=by rw [hW5];go_simp
         have q7:W5.cell? ⟨wr.heap.size,7,none⟩ = some (.string y.next):=by rw [hW5];go_simp
         have q8:W5.cell? ⟨wr.heap.size,8,none⟩ = some (.int .i64 y.pos):=by rw [hW5];go_simp
         clear hW5 i0 i1 i2 i3 i4 i5 i6 i7 i8 ix g1 g2
         have Gq9:=fun pr:Regrown=>cell_regrown q9 pr.d pr.os
         have Gq0:=fun pr:Regrown=>cell_regrown q0 pr.d pr.os
         have Gq1:=fun pr:Regrown=>cell_regrown q1 pr.d pr.os
         have Gq2:=fun pr:Regrown=>cell_regrown q2 pr.d pr.os
         have Gq3:=fun pr:Regrown=>cell_regrown q3 pr.d pr.os
         have Gq4:=fun pr:Regrown=>cell_regrown q4 pr.d pr.os
         have Gq5:=fun pr:Regrown=>cell_regrown q5 pr.d pr.os
         have Gq6:=fun pr:Regrown=>cell_regrown q6 pr.d pr.os
         have Gq7:=fun pr:Regrown=>cell_regrown q7 pr.d pr.os
         have Gq8:=fun pr:Regrown=>cell_regrown q8 pr.d pr.os
         clear q9 q0 q1 q2 q3 q4 q5 q6 q7 q8
         have CE:Hid (∀ pr:Regrown,Calls Tryz.prog 83 #[.agg #[.int .i64 y.kind,.string y.name,.int .i64 y.type,.int .i64 y.e,.int .i64 y.f,.slice os y.states.length caps,.string y.state,.string y.next,.int .i64 y.pos]] (Go.Sort.grow (redrawn W5 pr.d) pr.os) fun e w''=>e = .returned (.bool (hasE y.kind))∧∃ p:Regrown,w'' = Go.Sort.grow (redrawn W5 p.d) p.os):=hid fun pr=>Calls.regrown_of (QGU _ _ _ _ _ _ _ _ _ _)
         have CS:Hid (∀ pr:Regrown,Calls Tryz.prog 81 #[.bool (hasE y.kind),.int .i64 y.e,.pointer (some ⟨w.heap.size,0,none⟩)] (Go.Sort.grow (redrawn W5 pr.d) pr.os) fun e w''=>e = .returned (.bool (false))∧∃ p:Regrown,w'' = Go.Sort.grow (redrawn W5 p.d) p.os):=hid fun pr=>Calls.regrown_of (by rw [← S1.out];exact QBB _ _ _ _ _ _ _ (Gq9 pr))
         refine wp_region_quiet_below (by kernel_rfl) (by kernel_rfl) ?_
         repeat (go_big_quiet_step (first | with_reducible exact CE.out _ | with_reducible exact CS.out _))
         refine wpQuiet_nil ?_
         intro w7 hw7
         have HB3:Hid (Below W5.heap.size W5 w7):=hid (by obtain ⟨pr,rfl⟩:=hw7;exact below_regrown _ _ _)
         clear hw7 Gq9 Gq0 Gq1 Gq2 Gq3 Gq4 Gq5 Gq6 Gq7 Gq8 CE CS
         go_wp2_with fail
         go_ret
         exact ⟨by rw [HM.out];rfl,hW.out.trans ((hb5.out.trans (HB3.out.mono hb5.out.size)).mono hW.out.size)⟩
        | true =>
         have S1:=hid hs1
         clear hs1
         cases hs2:QAg k (hasF y.kind) y.f with
         | false =>
          have S2:=hid hs2
          have HM:=hid (QIN HDJ.out (QM3 HYL.out (show QFZ p.exprs.length y = false by rw [hn.out];unfold QFZ;rw [S1.out,hs2];rfl)))
          clear hs2
          go_wp2_with fail
          obtain ⟨W5,hW5⟩:∃ W5,W5 = wr.alloc (.cells #[.int .i64 y.kind,.string y.name,.int .i64 y.type,.int .i64 y.e,.int .i64 y.f,.slice os y.states.length caps,.string y.state,.string y.next,.int .i64 y.pos] 57):=⟨_,rfl⟩
          rw [← hW5]
          have hb5:=hid (show Below wr.heap.size wr W5 by rw [hW5];exact QA5 (Below.refl _ _) _)
          have q9:W5.cell? ⟨w.heap.size,1,none⟩ = some (.slice o2 k cap):=QA1 hb5.out g2
          have q0:W5.cell? ⟨wr.heap.size,0,none⟩ = some (.int .i64 y.kind):=by rw [hW5];go_simp
          have q1:W5.cell? ⟨wr.heap.size,1,none⟩ = some (.string y.name):=by rw [hW5];go_simp
          have q2:W5.cell? ⟨wr.heap.size,2,none⟩ = some (.int .i64 y.type):=by rw [hW5];go_simp
          have q3:W5.cell? ⟨wr.heap.size,3,none⟩ = some (.int .i64 y.e):=by rw [hW5];go_simp
          have q4:W5.cell? ⟨wr.heap.size,4,none⟩ = some (.int .i64 y.f):=by rw [hW5];go_simp
          have q5:W5.cell? ⟨wr.heap.size,5,none⟩ = some (.slice os y.states.length caps):=by rw [hW5];go_simp
          have q6:W5.cell? ⟨wr.heap.size,6,none⟩ = some (.string y.state):=by rw [hW5];go_simp
          have q7:W5.cell? ⟨wr.heap.size,7,none⟩ = some (.string y.next):=by rw [hW5];go_simp
          have q8:W5.cell? ⟨wr.heap.size,8,none⟩ = some (.int .i64 y.pos):=by rw [hW5];go_simp
          clear hW5 i0 i1 i2 i3 i4 i5 i6 i7 i8 ix g1 g2
          have Gq9:=fun pr:Regrown=>cell_regrown q9 pr.d pr.os
          have Gq0:=fun pr:Regrown=>cell_regrown q0 pr.d pr.os
          have Gq1:=fun pr:Regrown=>cell_regrown q1 pr.d pr.os
          have Gq2:=fun pr:Regrown=>cell_regrown q2 pr.d pr.os
          have Gq3:=fun pr:Regrown=>cell_regrown q3 pr.d pr.os
          have Gq4:=fun pr:Regrown=>cell_regrown q4 pr.d pr.os
          have Gq5:=fun pr:Regrown=>cell_regrown q5 pr.d pr.os
          have Gq6:=fun pr:Regrown=>cell_regrown q6 pr.d pr.os
          have Gq7:=fun pr:Regrown=>cell_regrown q7 pr.d pr.os
          have Gq8:=fun pr:Regrown=>cell_regrown q8 pr.d pr.os
          clear q9 q0 q1 q2 q3 q4 q5 q6 q7 q8
          have CE:Hid (∀ pr:Regrown,Calls Tryz.prog 83 #[.agg #[.int .i64 y.kind,.string y.name,.int .i64 y.type,.int .i64 y.e,.int .i64 y.f,.slice os y.states.length caps,.string y.state,.string y.next,.int .i64 y.pos]] (Go.Sort.grow (redrawn W5 pr.d) pr.os) fun e w''=>e = .returned (.bool (hasE y.kind))∧∃ p:Regrown,w'' = Go.Sort.grow (redrawn W5 p.d) p.os):=hid fun pr=>Calls.regrown_of (QGU _ _ _ _ _ _ _ _ _ _)
          have CS:Hid (∀ pr:Regrown,Calls Tryz.prog 81 #[.bool (hasE y.kind),.int .i64 y.e,.pointer (some ⟨w.heap.size,0,none⟩)] (Go.Sort.grow (redrawn W5 pr.d) pr.os) fun e w''=>e = .returned (.bool (true))∧∃ p:Regrown,w'' = Go.Sort.grow (redrawn W5 p.d) p.os):=hid fun pr=>Calls.regrown_of (by rw [← S1.out];exact QBB _ _ _ _ _ _ _ (Gq9 pr))
          have CF:Hid (∀ pr:Regrown,Calls Tryz.prog 84 #[.agg #[.int .i64 y.kind,.string y.name,.int .i64 y.type,.int .i64 y.e,.int .i64 y.f,.slice os y.states.length caps,.string y.state,.string y.next,.int .i64 y.pos]] (Go.Sort.grow (redrawn W5 pr.d) pr.os) fun e w''=>e = .returned (.bool (hasF y.kind))∧∃ p:Regrown,w'' = Go.Sort.grow (redrawn W5 p.d) p.os):=hid fun pr=>Calls.regrown_of (QIz _ _ _ _ _ _ _ _ _ _)
          have CT:Hid (∀ pr:Regrown,Calls Tryz.prog 81 #[.bool (hasF y.kind),.int .i64 y.f,.pointer (some ⟨w.heap.size,0,none⟩)] (Go.Sort.grow (redrawn W5 pr.d) pr.os) fun e w''=>e = .returned (.bool (false))∧∃ p:Regrown,w'' = Go.Sort.grow (redrawn W5 p.d) p.os):=hid fun pr=>Calls.regrown_of (by rw [← S2.out];exact QBB _ _ _ _ _ _ _ (Gq9 pr))
          refine wp_region_quiet_below (by kernel_rfl) (by kernel_rfl) ?_
          repeat (go_big_quiet_step (first | with_reducible exact CE.out _ | with_reducible exact CS.out _ | with_reducible exact CF.out _ | with_reducible exact CT.out _))
          refine wpQuiet_nil ?_
          intro w7 hw7
          have HB3:Hid (Below W5.heap.size W5 w7):=hid (by obtain ⟨pr,rfl⟩:=hw7;exact below_regrown _ _ _)
          clear hw7 Gq9 Gq0 Gq1 Gq2 Gq3 Gq4 Gq5 Gq6 Gq7 Gq8 CE CS CF CT
          go_wp2_with fail
          go_ret
          exact ⟨by rw [HM.out];rfl,hW.out.trans ((hb5.out.trans (HB3.out.mono hb5.out.size)).mono hW.out.size)⟩
         | true =>
          have S2:=hid hs2
          clear hs2
          go_wp2_with fail
          obtain ⟨W5,hW5⟩:∃ W5,W5 = wr.alloc (.cells #[.int .i64 y.kind,.string y.name,.int .i64 y.type,.int .i64 y.e,.int .i64 y.f,.slice os y.states.length caps,.string y.state,.string y.next,.int .i64 y.pos] 57):=⟨_,rfl⟩
          rw [← hW5]
          have hb5:=hid (show Below wr.heap.size wr W5 by rw [hW5];exact QA5 (Below.refl _ _) _)
          have q9:W5.cell? ⟨w.heap.size,1,none⟩ = some (.slice o2 k cap):=QA1 hb5.out g2
          have q0:W5.cell? ⟨wr.heap.size,0,none⟩ = some (.int .i64 y.kind):=by rw [hW5];go_simp
          have q1:W5.cell? ⟨wr.heap.size,1,none⟩ = some (.string y.name):=by rw [hW5];go_simp
          have q2:W5.cell? ⟨wr.heap.size,2,none⟩ = some (.int .i64 y.type):=by rw [hW5];go_simp
          have q3:W5.cell? ⟨wr.heap.size,3,none⟩ = some (.int .i64 y.e):=by rw [hW5];go_simp
          have q4:W5.cell? ⟨wr.heap.size,4,none⟩ = some (.int .i64 y.f):=by rw [hW5];go_simp
          have q5:W5.cell? ⟨wr.heap.size,5,none⟩ = some (.slice os y.states.length caps):=by rw [hW5];go_simp
          have q6:W5.cell? ⟨wr.heap.size,6,none⟩ = some (.string y.state):=by rw [hW5];go_simp
          have q7:W5.cell? ⟨wr.heap.size,7,none⟩ = some (.string y.next):=by rw [hW5];go_simp
          have q8:W5.cell? ⟨wr.heap.size,8,none⟩ = some (.int .i64 y.pos):=by rw [hW5];go_simp
          clear hW5 i0 i1 i2 i3 i4 i5 i6 i7 i8 ix g1 g2
          have Gq9:=fun pr:Regrown=>cell_regrown q9 pr.d pr.os
          have Gq0:=fun pr:Regrown=>cell_regrown q0 pr.d pr.os
          have Gq1:=fun pr:Regrown=>cell_regrown q1 pr.d pr.os
          have Gq2:=fun pr:Regrown=>cell_regrown q2 pr.d pr.os
          have Gq3:=fun pr:Regrown=>cell_regrown q3 pr.d pr.os
          have Gq4:=fun pr:Regrown=>cell_regrown q4 pr.d pr.os
          have Gq5:=fun pr:Regrown=>cell_regrown q5 pr.d pr.os
          have Gq6:=fun pr:Regrown=>cell_regrown q6 pr.d pr.os
          have Gq7:=fun pr:Regrown=>cell_regrown q7 pr.d pr.os
          have Gq8:=fun pr:Regrown=>cell_regrown q8 pr.d pr.os
          clear q9 q0 q1 q2 q3 q4 q5 q6 q7 q8
          have CE:Hid (∀ pr:Regrown,Calls Tryz.prog 83 #[.agg #[.int .i64 y.kind,.string y.name,.int .i64 y.type,.int .i64 y.e,.int .i64 y.f,.slice os y.states.length caps,.string y.state,.string y.next,.int .i64 y.pos]] (Go.Sort.grow (redrawn W5 pr.d) pr.os) fun e w''=>e = .returned (.bool (hasE y.kind))∧∃ p:Regrown,w'' = Go.Sort.grow (redrawn W5 p.d) p.os):=hid fun pr=>Calls.regrown_of (QGU _ _ _ _ _ _ _ _ _ _)
          have CS:Hid (∀ pr:Regrown,Calls Tryz.prog 81 #[.bool (hasE y.kind),.int .i64 y.e,.pointer (some ⟨w.heap.size,0,none⟩)] (Go.Sort.grow (redrawn W5 pr.d) pr.os) fun e w''=>e = .returned (.bool (true))∧∃ p:Regrown,w'' = Go.Sort.grow (redrawn W5 p.d) p.os):=hid fun pr=>Calls.regrown_of (by rw [← S1.out];exact QBB _ _ _ _ _ _ _ (Gq9 pr))
          have CF:Hid (∀ pr:Regrown,Calls Tryz.prog 84 #[.agg #[.int .i64 y.kind,.string y.name,.int .i64 y.type,.int .i64 y.e,.int .i64 y.f,.slice os y.states.length caps,.string y.state,.string y.next,.int .i64 y.pos]] (Go.Sort.grow (redrawn W5 pr.d) pr.os) fun e w''=>e = .returned (.bool (hasF y.kind))∧∃ p:Regrown,w'' = Go.Sort.grow (redrawn W5 p.d) p.os):=hid fun pr=>Calls.regrown_of (QIz _ _ _ _ _ _ _ _ _ _)
          have CT:Hid (∀ pr:Regrown,Calls Tryz.prog 81 #[.bool (hasF y.kind),.int .i64 y.f,.pointer (some ⟨w.heap.size,0,none⟩)] (Go.Sort.grow (redrawn W5 pr.d) pr.os) fun e w''=>e = .returned (.bool (true))∧∃ p:Regrown,w'' = Go.Sort.grow (redrawn W5 p.d) p.os):=hid fun pr=>Calls.regrown_of (by rw [← S2.out];exact QBB _ _ _ _ _ _ _ (Gq9 pr))
          refine wp_region_quiet_below (by kernel_rfl) (by kernel_rfl) ?_
          repeat (go_big_quiet_step (first | with_reducible exact CE.out _ | with_reducible exact CS.out _ | with_reducible exact CF.out _ | with_reducible exact CT.out _))
          refine wpQuiet_nil ?_
          intro w7 hw7
          have HB3:Hid (Below W5.heap.size W5 w7):=hid (by obtain ⟨pr,rfl⟩:=hw7;exact below_regrown _ _ _)
          clear hw7 Gq9 Gq0 Gq1 Gq2 Gq3 Gq4 Gq5 Gq6 Gq7 Gq8 CE CS CF CT
          go_wp2_with fail
          go_roundw
          case rel =>
           have hb8:=hb5.out.trans (HB3.out.mono hb5.out.size)
           refine ⟨l+1,by go_num,by omega,hid fun i hi y2 hy2=>?_,hid (hW.out.trans (hb8.mono hW.out.size)),hid ((hb8.block _ (lt_of_heap hB.out)).trans hB.out)⟩
           rcases Nat.lt_or_ge i l with h | h
           ·exact hY.out i h y2 hy2
           ·obtain rfl:i = l:=by omega
            rw [HYL.out] at hy2
            obtain rfl:=Option.some.inj hy2
            unfold QFZ;rw [S1.out,S2.out];rfl
          case measure=>simp [QA2];omega
       ·obtain rfl:l = ni:=by omega
        have hdd:Hid (QJ8 k d = true):=hid (by unfold QJ8;rw [HST.out,QNm hY.out (by rw [HN.out];exact Nat.le_refl _)];rfl)
        go_wp2_with fail
        go_roundw
        case rel =>
         refine ⟨j+1,by go_num,by omega,hid fun i hi d2 hd2=>?_,hW,hB⟩
         rcases Nat.lt_or_ge i j with h | h
         ·exact hX.out i h d2 hd2
         ·obtain rfl:i = j:=by omega
          rw [HDJ.out] at hd2
          obtain rfl:=Option.some.inj hd2
          exact hdd.out
        case measure=>simp [QA2];omega
    ·obtain rfl:j = m:=by omega
     have hP:Hid (QFE p = true):=hid (by unfold QFE;rw [hEX.out,hn.out,QNl hX.out (by rw [hm.out];exact Nat.le_refl _)];rfl)
     go_wp2_with fail
     go_ret
     exact ⟨by rw [hP.out];rfl,hW.out⟩
end
section
open Go.Lib (hid)
open Go.RowKit
theorem may_any (sd se:Value) (p:Pr) (w:World) (h:ProgAt w sd se p) (hs:Small p):Calls Tryz.prog 52 #[.agg #[sd,se]] w fun e w'=>QBa (QFE p) w e w':=by
 obtain ⟨⟨o1,dcap,db,doff,rfl,hd1,hd2,hd3,hd4⟩,⟨o2,cap,b,off,rfl,he1,he2,he3,he4⟩,h3,h4⟩:=h
 exact QNp o1 o2 b off cap db doff dcap p _ _ (hid rfl) (hid rfl) (by have:=hs.exprs;omega) (by have:=hs.decls;omega) w (hid hs) (hid he3) (hid hd3) (hid he4) (hid hd4)
end
section
def QNs (z:Nat):Value:=.int .i64 (z:Int)
theorem QBT {X:World} {base sz k:Nat} {T:TypeId} {v:Value} {xs:List Value} (h:X.ownsRow base T sz v k xs) {g:Nat} (hg:v.ownBlock = some g):base≤g∧∃ cur:Array Value,X.heap[g]? = some (.cells cur T (0,0)):=by
 rcases h.2 with ⟨rfl,_⟩ | ⟨g',cap,cur,rfl,hb,hgb,_⟩
 ·simp [Value.ownBlock] at hg
 ·have:g' = g:=by simpa [Value.ownBlock] using hg
  subst this;exact ⟨hb,cur,hgb⟩
theorem QD8 {X Y:World} {base sz k:Nat} {T:TypeId} {v:Value} {xs:List Value} (h:X.ownsRow base T sz v k xs) (hs:∀ g,v.ownBlock = some g→Y.heap[g]? = X.heap[g]?):Y.ownsRow base T sz v k xs:=by
 refine ⟨h.1,?_⟩
 rcases h.2 with h1 | ⟨g,cap,cur,rfl,hb,hgb,hr⟩
 ·exact .inl h1
 ·exact .inr ⟨g,cap,cur,rfl,hb,(hs g rfl).trans hgb,hr⟩
end
section
open Go.RowKit
section
variable {n:Nat} {P:Program} {ops:Array Oper} {Q:Exit→Act→World→Prop} {md:Region.Mode} {lp:Nat} {w:World}
end
end
section
open Go.Lib (hid)
open Go.RowKit Go.Shelf
attribute [local go_sem] Oper.semAt_some
set_option maxHeartbeats 8000000 in
set_option maxRecDepth 100000 in
theorem QHy (x:Ex) (B base k:Nat) (v:Value) (xs:List Value) (w:World) (hown:Hid (w.ownsRow base 3 1 v k xs)) (hbase:Hid (base≤w.heap.size)) (hk:Hid (k≤100000000)) (hp:Hid ((QAB x).length≤1000)) (hs:Hid (QL4 w x B (fun k=>v.ownBlock = some k))) :
  CallsIn Fence.wide 5 Tryz.prog 88 #[v,QDq B] w fun e w'=>QKv base k v xs ((QAB x).map QGv) w e w':=by
 have hrow:Hid (∀ r,v.ownBlock = some r→r < w.heap.size):=hid fun r hr=>(hown.out.lt r hr).2
 refine callsIn_of_wp_marks Tryz.func88 rfl trivial ?_ rfl
 simp only [Tryz.ntmps88,List.size_toArray,List.length_cons,List.length_nil,Nat.reduceAdd,Nat.reduceSub,Array.replicate_succ,Array.replicate_zero,List.push_toArray,List.append_toArray,List.nil_append,List.cons_append]
 unfold QDq
 rcases hown.out.2 with ⟨rfl,hk0⟩ | ⟨g,cap,cur,rfl,hk0⟩
 ·clear hk0
  gi_wp2
  have bL:=hid (Boxed.new w 52 (.slice none 0 0))
  have hAr:Around (fun j=>j = w.heap.size) (QCv w.heap.size) (w.alloc (.cells #[.slice none 0 0] 52)):=by
   refine ⟨fun j hj=>?_,fun j hj=>?_,fun W hW=>?_⟩
   ·subst hj;simp
   ·rw [QAM bL.out] at hj
    have:=hrow.out j hj
    simp;omega
   ·exact QCT (hW.block _ (by simp))
  have hSr:QL4 (w.alloc (.cells #[.slice none 0 0] 52)) x B (fun j=>j = w.heap.size∨QCv w.heap.size (w.alloc (.cells #[.slice none 0 0] 52)) = some j):=by
   obtain ⟨o,cp,ba,offa,s1,s2,s3,s4,s5,s6⟩:=hs.out
   refine ⟨o,cp,ba,offa,(QAq _ _ _ (lt_of_heap s1)).trans s1,s2,s3,fun j hj=>QA1 ((Below.refl _ _).alloc (Nat.le_refl _) _) (s4 j hj),?_,fun hp=>?_⟩
   ·rw [QAM bL.out]
    rintro (h | h)
    ·have:=lt_of_heap s1;omega
    ·exact s5 h
   ·rw [QAM bL.out]
    rintro (h | h)
    ·have:=World.block_lt_of_cell? _ _ (s4 0 hp);simp only at this;omega
    ·exact s6 hp h
  have hinv:AInv (x:=x) w base k (.slice none 0 0) xs [] (w.alloc (.cells #[.slice none 0 0] 52)) :=
   ⟨⟨_,bL.out,by simpa using hown.out.alloc _,.inl rfl⟩,World.grownBy_alloc _ _ _,by simp⟩
  refine wpIn_rangeFunc_ownG (α:=QBY x) rfl (by decide) (gf:=110) (lb:=#[.pointer (some ⟨B,0,none⟩)]) rfl trivial (enters_of Tryz.func110 (by kernel_rfl) rfl)
   (QBb 4 (by decide) x B _ _ _ hAr hSr) (fun h k=>h.trans k) (fun W l o o' h1 h2 h3 _=>QCo (by simp) W l o o' h1 h2 h3) (Below.refl _ _) (fun _=>rfl)
   (AInv w base k (.slice none 0 0) xs) (fun _ _ _=>False) (by have:=QIq (x:=x) w base k (.slice none 0 0) xs;simpa using this) (fun _ _ _ _ _ hs _ _=>hs) hinv
   (fun p=>{ tmps:=#[.slice none 0 0,.func (.func 110) #[] #[.pointer (some ⟨B,0,none⟩)],.pointer (some ⟨w.heap.size,0,none⟩),undef,.slice none 0 0,.int .i64 p.1,.func (.func 110) #[] #[.pointer (some ⟨B,0,none⟩)],.int .i64 p.1,undef,undef,undef,undef,undef],defers:=[] }) ?assign ?body ?done ?stop
  case assign =>
   rintro lp p W K hK
   gi_wp2
   exact hK
  case body =>
   rintro lp pre p W ⟨⟨v',hv,hr,hsr⟩,hg0,hN⟩ hlt
   have hc:=hv.cell
   have HV:=hid hv
   have HR:=hid hr
   have HS:=hid hsr
   have HG:=hid hg0
   have HN:=hid hN
   have HL:=hid hlt
   clear hv hr hsr hg0 hN hlt
   gi_wp2_with (gi_at_builtin;refine QBO _ rfl _ _ rfl base v' (k+pre.length) _ rfl (HR.out.alloc _) ⟨W.heap.size,0,none⟩ [.int .i64 p.1] rfl rfl (cell_one_new _ _ _) (by simp [Value.oneCell']) (by have:=HL.out;have:=hk.out;have:=hp.out;omega) (by have:=HN.out;have:=hbase.out;simp;omega) ?_;intro v2 w3 hown' hgrow hr3;obtain ⟨g',cap',rfl⟩:=ownsRow_succ hown';obtain ⟨hv1,hv2,hr2,hk2,hb2⟩:=HV.out.appended (by decide) HR.out (by have:=HN.out;have:=hbase.out;omega) hbase.out hown' hgrow;have hc1:=hv1.cell;have hf1:=hv1.frozen;have G2:=hid hgrow;have G3:=hid hr3;have G4:=hid hv2;have G5:=hid hr2;have G6:=hid hk2;have G7:=hid hb2;clear hown' hgrow hr3 hv1 hv2 hr2 hk2 hb2)
   have hsame:∀ j,j < W.heap.size→j≠w.heap.size→some j≠v'.ownBlock→(w3.setCell ⟨w.heap.size,0,none⟩ (.slice (some ⟨g',0,none⟩) (k+pre.length+1) cap')).heap[j]? = W.heap[j]?:=fun j hj hB hr =>
    (QBA _ _ _ _ _ hB).trans ((G2.out.block j (by simp;omega) hr).trans (QAq _ _ _ hj))
   have hsz:=G7.out.size
   refine ⟨G6.out.from _,⟨hsz,fun j hj hB hr _=>hsame j hj hB (by rw [QAM HV.out] at hr;exact Ne.symm hr),fun j hj=>?_⟩,⟨⟨_,G4.out,?_,?_⟩,?_,Nat.le_trans HN.out hsz⟩⟩
   ·rw [QAM HV.out]
    have hlt:=(G5.out.lt j (by rw [QAM G4.out] at hj;exact hj)).2
    rw [QAM G4.out] at hj
    rcases G3.out with h | h
    ·rw [h] at hj;exact .inl hj
    ·rw [h] at hj
     cases hj
     exact .inr ⟨by simp,hlt⟩
   ·have:=G5.out
    rw [List.length_append,List.length_singleton,List.map_append,← List.append_assoc,← Nat.add_assoc]
    exact this
   ·rcases G3.out with h | h
    ·rcases HS.out with h2 | ⟨r,h2,h3⟩
     ·exact .inl (h.trans h2)
     ·exact .inr ⟨r,h.trans h2,h3⟩
    ·exact .inr ⟨_,h,by have:=HN.out;simp;omega⟩
   ·refine ⟨G7.out.os.trans HG.out.os,G7.out.tape.trans HG.out.tape,G7.out.output.trans HG.out.output,Nat.le_trans HG.out.size hsz,fun j hj hr=>(hsame j (by have:=HN.out;omega) (by omega) (fun e=>?_)).trans (HG.out.block j hj hr)⟩
    rcases HS.out with h2 | ⟨r,h2,h3⟩
    ·rw [h2] at e;exact hr e
    ·rw [h2] at e;cases e;omega
  case done =>
   rintro D ys W hD hys ⟨⟨v',hv,hr,hsr⟩,hg0,hN⟩ hK
   have hc:=hv.cell
   have HR:=hid hr
   have HS:=hid hsr
   have HG:=hid hg0
   have HK:=hid hK
   have hD' : w.heap.size≤D:=by simp at hD;omega
   clear hv hr hsr hg0 hN hD hK
   gi_wp2
   refine ⟨by simp,.inl ⟨_,_,rfl,run_takeDeferred HK.out,?_⟩⟩
   refine ⟨_,results_tmp rfl _ _ _,v',rfl,?_,grown_trans' HG.out (grownBy_putObj' W D _) hD',HS.out⟩
   have:=ownsRow_putObj HR.out (.deferred none) HK.out rfl
   rw [← hys,List.length_map,List.length_map,List.map_map]
   exact this
  case stop =>
   rintro D c pre W _ _ h _
   exact h.elim
 ·clear hk0
  gi_wp2
  have bL:=hid (Boxed.new w 52 (.slice (some ⟨g,0,none⟩) k cap))
  have hAr:Around (fun j=>j = w.heap.size) (QCv w.heap.size) (w.alloc (.cells #[.slice (some ⟨g,0,none⟩) k cap] 52)):=by
   refine ⟨fun j hj=>?_,fun j hj=>?_,fun W hW=>?_⟩
   ·subst hj;simp
   ·rw [QAM bL.out] at hj
    have:=hrow.out j hj
    simp;omega
   ·exact QCT (hW.block _ (by simp))
  have hSr:QL4 (w.alloc (.cells #[.slice (some ⟨g,0,none⟩) k cap] 52)) x B (fun j=>j = w.heap.size∨QCv w.heap.size (w.alloc (.cells #[.slice (some ⟨g,0,none⟩) k cap] 52)) = some j):=by
   obtain ⟨o,cp,ba,offa,s1,s2,s3,s4,s5,s6⟩:=hs.out
   refine ⟨o,cp,ba,offa,(QAq _ _ _ (lt_of_heap s1)).trans s1,s2,s3,fun j hj=>QA1 ((Below.refl _ _).alloc (Nat.le_refl _) _) (s4 j hj),?_,fun hp=>?_⟩
   ·rw [QAM bL.out]
    rintro (h | h)
    ·have:=lt_of_heap s1;omega
    ·exact s5 h
   ·rw [QAM bL.out]
    rintro (h | h)
    ·have:=World.block_lt_of_cell? _ _ (s4 0 hp);simp only at this;omega
    ·exact s6 hp h
  have hinv:AInv (x:=x) w base k (.slice (some ⟨g,0,none⟩) k cap) xs [] (w.alloc (.cells #[.slice (some ⟨g,0,none⟩) k cap] 52)) :=
   ⟨⟨_,bL.out,by simpa using hown.out.alloc _,.inl rfl⟩,World.grownBy_alloc _ _ _,by simp⟩
  refine wpIn_rangeFunc_ownG (α:=QBY x) rfl (by decide) (gf:=110) (lb:=#[.pointer (some ⟨B,0,none⟩)]) rfl trivial (enters_of Tryz.func110 (by kernel_rfl) rfl)
   (QBb 4 (by decide) x B _ _ _ hAr hSr) (fun h k=>h.trans k) (fun W l o o' h1 h2 h3 _=>QCo (by simp) W l o o' h1 h2 h3) (Below.refl _ _) (fun _=>rfl)
   (AInv w base k (.slice (some ⟨g,0,none⟩) k cap) xs) (fun _ _ _=>False) (by have:=QIq (x:=x) w base k (.slice (some ⟨g,0,none⟩) k cap) xs;simpa using this) (fun _ _ _ _ _ hs _ _=>hs) hinv
   (fun p=>{ tmps:=#[.slice (some ⟨g,0,none⟩) k cap,.func (.func 110) #[] #[.pointer (some ⟨B,0,none⟩)],.pointer (some ⟨w.heap.size,0,none⟩),undef,.slice none 0 0,.int .i64 p.1,.func (.func 110) #[] #[.pointer (some ⟨B,0,none⟩)],.int .i64 p.1,undef,undef,undef,undef,undef],defers:=[] }) ?assign ?body ?done ?stop
  case assign =>
   rintro lp p W K hK
   gi_wp2
   exact hK
  case body =>
   rintro lp pre p W ⟨⟨v',hv,hr,hsr⟩,hg0,hN⟩ hlt
   have hc:=hv.cell
   have HV:=hid hv
   have HR:=hid hr
   have HS:=hid hsr
   have HG:=hid hg0
   have HN:=hid hN
   have HL:=hid hlt
   clear hv hr hsr hg0 hN hlt
   gi_wp2_with (gi_at_builtin;refine QBO _ rfl _ _ rfl base v' (k+pre.length) _ rfl (HR.out.alloc _) ⟨W.heap.size,0,none⟩ [.int .i64 p.1] rfl rfl (cell_one_new _ _ _) (by simp [Value.oneCell']) (by have:=HL.out;have:=hk.out;have:=hp.out;omega) (by have:=HN.out;have:=hbase.out;simp;omega) ?_;intro v2 w3 hown' hgrow hr3;obtain ⟨g',cap',rfl⟩:=ownsRow_succ hown';obtain ⟨hv1,hv2,hr2,hk2,hb2⟩:=HV.out.appended (by decide) HR.out (by have:=HN.out;have:=hbase.out;omega) hbase.out hown' hgrow;have hc1:=hv1.cell;have hf1:=hv1.frozen;have G2:=hid hgrow;have G3:=hid hr3;have G4:=hid hv2;have G5:=hid hr2;have G6:=hid hk2;have G7:=hid hb2;clear hown' hgrow hr3 hv1 hv2 hr2 hk2 hb2)
   have hsame:∀ j,j < W.heap.size→j≠w.heap.size→some j≠v'.ownBlock→(w3.setCell ⟨w.heap.size,0,none⟩ (.slice (some ⟨g',0,none⟩) (k+pre.length+1) cap')).heap[j]? = W.heap[j]?:=fun j hj hB hr =>
    (QBA _ _ _ _ _ hB).trans ((G2.out.block j (by simp;omega) hr).trans (QAq _ _ _ hj))
   have hsz:=G7.out.size
   refine ⟨G6.out.from _,⟨hsz,fun j hj hB hr _=>hsame j hj hB (by rw [QAM HV.out] at hr;exact Ne.symm hr),fun j hj=>?_⟩,⟨⟨_,G4.out,?_,?_⟩,?_,Nat.le_trans HN.out hsz⟩⟩
   ·rw [QAM HV.out]
    have hlt:=(G5.out.lt j (by rw [QAM G4.out] at hj;exact hj)).2
    rw [QAM G4.out] at hj
    rcases G3.out with h | h
    ·rw [h] at hj;exact .inl hj
    ·rw [h] at hj
     cases hj
     exact .inr ⟨by simp,hlt⟩
   ·have:=G5.out
    rw [List.length_append,List.length_singleton,List.map_append,← List.append_assoc,← Nat.add_assoc]
    exact this
   ·rcases G3.out with h | h
    ·rcases HS.out with h2 | ⟨r,h2,h3⟩
     ·exact .inl (h.trans h2)
     ·exact .inr ⟨r,h.trans h2,h3⟩
    ·exact .inr ⟨_,h,by have:=HN.out;simp;omega⟩
   ·refine ⟨G7.out.os.trans HG.out.os,G7.out.tape.trans HG.out.tape,G7.out.output.trans HG.out.output,Nat.le_trans HG.out.size hsz,fun j hj hr=>(hsame j (by have:=HN.out;omega) (by omega) (fun e=>?_)).trans (HG.out.block j hj hr)⟩
    rcases HS.out with h2 | ⟨r,h2,h3⟩
    ·rw [h2] at e;exact hr e
    ·rw [h2] at e;cases e;omega
  case done =>
   rintro D ys W hD hys ⟨⟨v',hv,hr,hsr⟩,hg0,hN⟩ hK
   have hc:=hv.cell
   have HR:=hid hr
   have HS:=hid hsr
   have HG:=hid hg0
   have HK:=hid hK
   have hD' : w.heap.size≤D:=by simp at hD;omega
   clear hv hr hsr hg0 hN hD hK
   gi_wp2
   refine ⟨by simp,.inl ⟨_,_,rfl,run_takeDeferred HK.out,?_⟩⟩
   refine ⟨_,results_tmp rfl _ _ _,v',rfl,?_,grown_trans' HG.out (grownBy_putObj' W D _) hD',HS.out⟩
   have:=ownsRow_putObj HR.out (.deferred none) HK.out rfl
   rw [← hys,List.length_map,List.length_map,List.map_map]
   exact this
  case stop =>
   rintro D c pre W _ _ h _
   exact h.elim
theorem QJe (x:Ex) (B base k:Nat) (v:Value) (xs:List Value) (w:World) (hown:w.ownsRow base 3 1 v k xs) (hbase:base≤w.heap.size) (hk:k≤100000000) (hp:(QAB x).length≤1000) (hs:QL4 w x B (fun k=>v.ownBlock = some k)) :
  Calls Tryz.prog 88 #[v,QDq B] w fun e w'=>QKv base k v xs ((QAB x).map QGv) w e w' :=
 callsIn_wide.1 (QHy x B base k v xs w (hid hown) (hid hbase) (hid hk) (hid hp) (hid hs))
theorem QI1 (x:Ex) (B:Nat) (w:World) (hp:(QAB x).length≤1000) (hs:QL4 w x B (fun _=>False)) :
  Calls Tryz.prog 63 #[QDq B] w fun e w'=>QEp (QAB x) w e w':=by
 have C:=hid (QJe x B w.heap.size 0 (.slice none 0 0) [] w (World.ownsRow_nil _ _ _ _) (Nat.le_refl _) (by omega) hp (by
  obtain ⟨o,cp,ba,offa,s1,s2,s3,s4,s5,s6⟩:=hs
  exact ⟨o,cp,ba,offa,s1,s2,s3,s4,(fun h=>by simp [Value.ownBlock] at h),fun _ h=>by simp [Value.ownBlock] at h⟩))
 clear hs
 go_enter Tryz.func63,Tryz.ntmps63
 go_wp2_with (go_at_call 88;((with_reducible refine C.out.mono ?_);rintro e w1 ⟨v',rfl,hown,hg,_⟩;have H1:=hid hown;have H2:=hid hg;clear hown hg))
 go_ret
 refine ⟨v',rfl,?_,QF3 H2.out⟩
 have:=H1.out
 rwa [Nat.zero_add,List.nil_append,List.length_map] at this
theorem QO0 (x:Ex) (s:Value) (w:World) (ha:IntsAt w s x.args) (hk:ExOk x) (hp:(QAB x).length≤1000) :
  Calls Tryz.prog 65 #[exV x s] w fun e w'=>QEp (QAB x) w e w':=by
 have hb1:=hid (QA5 (Below.refl w.heap.size w) (.cells (QA4 x s) 54))
 obtain ⟨w1,hw1⟩:∃ w1,w1 = w.alloc (.cells (QA4 x s) 54):=⟨_,rfl⟩
 have hb2:=hid (QA5 (Below.refl w1.heap.size w1) (.cells (QA4 x s) 54))
 have C:=hid (QI1 x w1.heap.size (w1.alloc (.cells (QA4 x s) 54)) hp (QFT ha hk (hb1.out.trans (by rw [← hw1];exact hb2.out.mono (by rw [hw1];simp))) (QNF w1 x s) (fun _ h=>h.elim) (fun h=>h)))
 rw [hw1,World.size_alloc] at C
 rw [hw1] at hb2
 clear hw1 ha hk
 unfold exV QA4 at *
 go_enter Tryz.func65,Tryz.ntmps65
 go_wp2_with (first | (go_at_call 92;((with_reducible refine (QCr _ _ _ _ _ _ _ _ _ _).mono ?_);rintro e w2 ⟨rfl,rfl⟩)) | (go_at_call 63;((with_reducible refine C.out.mono ?_);rintro e w3 ⟨v',rfl,hown,hb⟩;have H1:=hid hown;have H2:=hid hb;clear hown hb)))
 go_ret
 have hbb:=hb1.out.trans (hb2.out.mono (by simp))
 refine ⟨v',rfl,?_,hbb.trans (H2.out.mono hbb.size)⟩
 exact QNy H1.out (by simp;omega)
end
section
open Go.RowKit
end
section
section
open Go.RowKit
end
section
open Go.RowKit
end
section
open Go.RowKit
end
section
open Go.RowKit
end
section
open Go.RowKit
end
section
open Go.RowKit
end
section
open Go.RowKit
end
section
open Go.RowKit
end
section
open Go.RowKit
end
end
section
open Go.RowKit
theorem QBz {p:Pr} (h:Small p) {i:Nat} {x:Ex} (hx:p.exprs[i]? = some x):(QAB x).length≤1000:=by
 by_cases h19:x.kind = 19
 ·rw [QCq h19]
  have:=h.ex x (List.mem_of_getElem? hx)
  unfold wEx at this
  omega
 ·rw [QE9 h19];have:=QBk x.kind;omega
end
section
open Go.RowKit Go.Shelf
attribute [local go_sem] Oper.semAt_some
end
section
def QAn (p:Pr) (e:Nat):List Nat:=match p.exprs[e]? with
 | some x=>(QAB x).map Int.toNat
 | none=>[]
def treeN (p:Pr):Nat→Nat→List Nat
 | 0,_=>[]
 | f+1,e=>e :: (QAn p e).flatMap (treeN p f)
def tree (p:Pr) (e:Nat):List Nat:=treeN p (e+1) e
def Ahead (p:Pr):Prop:=∀ e,∀ z∈QAn p e,z < e
def QLX:List Nat→List Nat→List Nat
 | _,[]=>[]
 | s,a :: l=>if a∈s then QLX s l else a :: QLX (a :: s) l
def still (p:Pr) (s l:List Nat):List Nat:=QLX s (l.flatMap (tree p))
end
section
theorem QJ9 {p:Pr} (h:QFE p = true) {k:Nat} {x:Ex} (hx:p.exprs[k]? = some x):∀ z∈QAB x,0≤z∧z < (k:Int):=by
 unfold QFE at h
 rw [Bool.and_eq_true,List.all_eq_true] at h
 have h1:=h.1 k (List.mem_range.2 (List.getElem?_eq_some_iff.1 hx).1)
 unfold QNn at h1
 rw [hx] at h1
 replace h1:QCJ x k = true:=h1
 intro z hz
 by_cases hc:0≤z∧z < (k:Int)
 ·exact hc
 ·have:=QCQ (i:=k) hz (by
   unfold QAx
   by_cases h0:0≤z
   ·rw [decide_eq_false (show ¬ z < (k:Int) from fun h=>hc ⟨h0,h⟩)];simp
   ·rw [decide_eq_false h0];rfl)
  rw [this] at h1;cases h1
theorem QGM {p:Pr} (h:QFE p = true):Ahead p:=by
 intro e z hz
 unfold QAn at hz
 cases hx:p.exprs[e]? with
 | none=>rw [hx] at hz;cases hz
 | some x =>
  rw [hx] at hz
  obtain ⟨y,hy,rfl⟩:=List.mem_map.1 hz
  have:=QJ9 h hx y hy
  omega
theorem QFI {p:Pr} (h:QFE p = true) {k:Nat} {x:Ex} (hx:p.exprs[k]? = some x):(QAB x).map QGv = (QAn p k).map QNs:=by
 unfold QAn
 rw [hx]
 show _ = ((QAB x).map Int.toNat).map QNs
 rw [List.map_map]
 apply List.map_congr_left
 intro z hz
 have:=QJ9 h hx z hz
 show Value.int .i64 z = Value.int .i64 ((z.toNat:Nat):Int)
 rw [Int.toNat_of_nonneg this.1]
end
end Go.Proofs.YtknbghjoncomiaaGreat
