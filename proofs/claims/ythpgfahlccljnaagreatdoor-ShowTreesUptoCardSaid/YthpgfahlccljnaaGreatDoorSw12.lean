import Derived.Test.YthpgfahlccljnaaGreatDoorSw11
set_option maxHeartbeats 16000000
set_option maxRecDepth 100000
open Go.Proofs.Tryz(prog)
namespace Go.Proofs.YthpgfahlccljnaaGreatDoor
open Go.RowKit
theorem one_k3 (x:Ex) (o:Option Addr) (na cap:Nat) (hna:Hid (x.args.length=na)) (i:Nat) (w:World) (ha:Hid (IntsAt w (.slice o na cap) x.args)) (hp:Hid ((partsE x).length≤1000)) (q1:decide (x.kind<1)=false) (q2:decide (21<x.kind)=false)
  (hm:Hid (manyR x.kind=0)) (t3:(x.kind ==3)=true) (t19:(x.kind ==19)=false) (t20:(x.kind ==20)=false) (t2:decide (2<x.kind)=true) (t1:(x.kind ==1)=false) (hmv:Hid (mostV x.kind=0)) :
  Calls prog 14 #[.agg #[.int .i64 x.kind,.int .i64 x.a,.int .i64 x.b,.int .i64 x.c,.string x.name,.string x.state,.int .i64 x.v,.slice o na cap,.int .i64 x.pos],.int .i64 (i:Int)] w fun e w'=>MayPost (mayE x i) w e w':=by
 have hkk:Hid (1≤x.kind∧x.kind≤21):=Hd ⟨by have:=of_decide_eq_false q1;omega,by have:=of_decide_eq_false q2;omega⟩
 have T3:=Hd t3
 have T19:=Hd t19
 have T20:=Hd t20
 have T2:=Hd t2
 have T1:=Hd t1
 have hmo:Hid (manyOf x.kind=0):=Hd (by
  have h:=hm.out
  unfold manyR at h
  by_cases h19:x.kind=19
  ·rw[h19];first | rfl | (exfalso;rw[h19] at t19;exact absurd t19 (by decide))
  ·rw[if_neg h19] at h;first | omega | (exfalso;have t:=t19;simp at t;omega))
 have CM:Hid (∀w1,Calls prog 30 #[.int .i64 x.kind] w1 fun e w'=>e=.returned (.int .i64 (0))∧w1=w'):=Hd fun w1=>by rw[←hm.out];exact many_any _ _
 have CP:Hid (∀w1,Below w.heap.size w w1→Calls prog 29 #[.agg #[.int .i64 x.kind,.int .i64 x.a,.int .i64 x.b,.int .i64 x.c,.string x.name,.string x.state,.int .i64 x.v,.slice o na cap,.int .i64 x.pos]] w1 fun e w'=>NewInts (partsE x) w1 e w'):=Hd fun w1 h1=>refParts_any x _ w1 (ha.out.below h1) hp.out
 have hb0:=Hd (below_al (qB w.heap.size w) (.cells #[.int .i64 x.kind,.int .i64 x.a,.int .i64 x.b,.int .i64 x.c,.string x.name,.string x.state,.int .i64 x.v,.slice o na cap,.int .i64 x.pos] 48))
 have hB0:=Hd (World.alloc_heap_new w (.cells #[.int .i64 x.kind,.int .i64 x.a,.int .i64 x.b,.int .i64 x.c,.string x.name,.string x.state,.int .i64 x.v,.slice o na cap,.int .i64 x.pos] 48))
 go_enter Tryz.func14,Tryz.ntmps14
 go_wp2_with (first | (go_at_call 30;((with_reducible refine(CM.out _).mono ?_);rintro e w1 ⟨rfl,rfl⟩)) | (go_at_call 29;((with_reducible refine(CP.out _ hb0.out).mono ?_);rintro e w2 ⟨v',rfl,hown,hb2⟩;obtain⟨g,o',cap',rfl,hg1,hg2⟩:=own_ints hown;have HB2:=Hd hb2;have HG1:=Hd hg1;have HG2:=Hd hg2;clear hown hb2 hg1 hg2)))
 have hbw:=Hd (hb0.out.trans (HB2.out.mono hb0.out.size))
 have hBx:=Hd ((HB2.out.block _ (lt_of_heap hB0.out)).trans hB0.out)
 obtain⟨pn,hpn⟩:∃pn,pn=(partsE x).length:=⟨_,rfl⟩
 have HPN:=Hd hpn
 have hpl:(pn:Int)≤1000:=by have:=hp.out;omega
 rw[←hpn] at HG1 HG2 ⊢
 clear hpn CM CP hb0 hB0 HB2
 go_loop [7] (fun t=>∃j:Nat,t=.int .i64 j∧j≤pn∧Hid (∀u,u<j→partOk i ((partsE x).getD u 0)=true)) (fun t=>pn-litLen t)
 case atStart=>exact⟨0,rfl,Nat.zero_le _,Hd fun u hu=>by omega⟩
 case round =>
  obtain⟨j,rfl,hj,hok⟩:=hrel
  rcases Nat.lt_or_ge j pn with hlt | hge
  ·have q3:(j:Int)<(pn:Int):=by omega
   have ix:=ix_ints (off:=0) (cap:=cap') HG1.out hlt (by omega)
   unfold Ix at ix
   have cj:=HG2.out j hlt
   obtain⟨z,hz⟩:∃z,z=(partsE x).getD j 0:=⟨_,rfl⟩
   rw[←hz] at cj
   have HZ:=Hd hz
   have hmem:Hid (z ∈ partsE x):=Hd (by rw[hz,List.getD_eq_getElem?_getD,List.getElem?_eq_getElem (by have:=HPN.out;omega)];exact List.getElem_mem _)
   clear hz
   by_cases h1:z<0
   ·have u1:decide (z<0)=true:=qT h1
    have hbad:=Hd (mayE_parts (i:=i) hmem.out (by unfold partOk;rw[qF (show ¬0≤z by omega)];rfl))
    clear h1
    go_wp2_with fail
    go_ret
    exact⟨by rw[hbad.out];rfl,hbw.out⟩
   ·have u1:decide (z<0)=false:=qF h1
    by_cases h2:(i:Int)≤z
    ·have u2:decide ((i:Int)≤z)=true:=qT h2
     have hbad:=Hd (mayE_parts (i:=i) hmem.out (by unfold partOk;rw[qF (show ¬z<(i:Int) by omega)];simp))
     clear h1 h2
     go_wp2_with fail
     go_ret
     exact⟨by rw[hbad.out];rfl,hbw.out⟩
    ·have u2:decide ((i:Int)≤z)=false:=qF h2
     have hgood:=Hd (show partOk i z=true by unfold partOk;rw[qT (show 0≤z by omega),qT (show z<(i:Int) by omega)];rfl)
     clear h1 h2
     go_wp2_with fail
     go_round
     case rel=>exact⟨j+1,by first | omega | go_num,by omega,Hd fun u hu=>by
      rcases Nat.lt_or_ge u j with h | h
      ·exact hok.out u h
      ·obtain rfl:u=j:=by omega
       rw[←HZ.out];exact hgood.out⟩
     case measure=>simp[litLen];omega
  ·have q3:decide ((j:Int)<(pn:Int))=false:=qF (by omega)
   have hparts:Hid (∀p ∈ partsE x,partOk i p=true):=Hd (by
    intro p hpm
    obtain⟨u,hu,rfl⟩:=List.mem_iff_getElem.1 hpm
    have:=hok.out u (by have:=HPN.out;omega)
    rwa [List.getD_eq_getElem?_getD,List.getElem?_eq_getElem hu] at this)
   have d0:w2.cell? ⟨w.heap.size,0,none⟩=some (.int .i64 x.kind):=by simp[World.cell?,hBx.out]
   have d1:w2.cell? ⟨w.heap.size,1,none⟩=some (.int .i64 x.a):=by simp[World.cell?,hBx.out]
   have d2:w2.cell? ⟨w.heap.size,2,none⟩=some (.int .i64 x.b):=by simp[World.cell?,hBx.out]
   have d3:w2.cell? ⟨w.heap.size,3,none⟩=some (.int .i64 x.c):=by simp[World.cell?,hBx.out]
   have d4:w2.cell? ⟨w.heap.size,4,none⟩=some (.string x.name):=by simp[World.cell?,hBx.out]
   have d5:w2.cell? ⟨w.heap.size,5,none⟩=some (.string x.state):=by simp[World.cell?,hBx.out]
   have d6:w2.cell? ⟨w.heap.size,6,none⟩=some (.int .i64 x.v):=by simp[World.cell?,hBx.out]
   have d7:w2.cell? ⟨w.heap.size,7,none⟩=some (.slice o na cap):=by simp[World.cell?,hBx.out]
   have hnk:Hid (namedK x.kind=true):=Hd (by
    unfold namedK
    rw[show decide (x.kind=3)=true from T3.out,show decide (x.kind=19)=false from T19.out,show decide (x.kind=20)=false from T20.out];rfl)
   clear hok HG1 HG2
   by_cases za:x.a=0
   ·have ua:(x.a !=0)=false:=by rw[za];rfl
    have Za:=Hd za
    clear za
    by_cases zb:x.b=0
    ·have ub:(x.b !=0)=false:=by rw[zb];rfl
     have Zb:=Hd zb
     clear zb
     by_cases zc:x.c=0
     ·have uc:(x.c !=0)=false:=by rw[zc];rfl
      have Zc:=Hd zc
      clear zc
      by_cases za:na=0
      ·have ua0:decide (0<na)=false:=qF (by omega)
       have ua1:decide ((0:Int)<(na:Int))=false:=qF (by omega)
       have A2:Hid (decide (x.args.length=0)=true):=Hd (qT (by rw[hna.out];exact za))
       clear za
       have hrest:Hid (mayE x i=restE x):=Hd (mayE_last hkk.out hparts.out (by
        rw[hmo.out]
        intro p hpm
        simp at hpm
        rcases hpm with rfl | rfl | rfl
        ·exact Za.out
        ·exact Zb.out
        ·exact Zc.out))
       by_cases hn:x.name.toList=[]
       ·have n2:x.name.toList.isEmpty=true:=by rw[hn];rfl
        have N2:Hid (x.name.toList.isEmpty=!false):=Hd n2
        clear hn
        have S2:Hid (x.state.toList.isEmpty=!!x.state.toList.isEmpty):=Hd (by simp)
        have HE:Hid (mayE x i=false):=Hd (by rw[hrest.out,restE_w x true false false false (!x.state.toList.isEmpty) (true) hnk.out T20.out T19.out N2.out S2.out A2.out];rfl)
        clear hrest
        go_wp2_with fail
        go_ret
        exact⟨by rw[HE.out];rfl,hbw.out⟩
       ·have n2:x.name.toList.isEmpty=false:=by cases h:x.name.toList with | nil=>exact absurd h hn | cons _ _=>rfl
        have N2:Hid (x.name.toList.isEmpty=!true):=Hd n2
        clear hn
        by_cases hst:x.state.toList=[]
        ·have s2:x.state.toList.isEmpty=true:=by rw[hst];rfl
         have S2:Hid (x.state.toList.isEmpty=!false):=Hd s2
         clear hst
         have HE:Hid (mayE x i=(x.v ==0)):=Hd (by rw[hrest.out,restE_w x true false false true false (true) hnk.out T20.out T19.out N2.out S2.out A2.out,hmv.out];exact v_zero x.v)
         clear hrest
         go_wp2_with fail
         go_ret
         exact⟨by rw[HE.out];rfl,hbw.out⟩
        ·have s2:x.state.toList.isEmpty=false:=by cases h:x.state.toList with | nil=>exact absurd h hst | cons _ _=>rfl
         have S2:Hid (x.state.toList.isEmpty=!true):=Hd s2
         clear hst
         have HE:Hid (mayE x i=false):=Hd (by rw[hrest.out,restE_w x true false false true true (true) hnk.out T20.out T19.out N2.out S2.out A2.out];rfl)
         clear hrest
         go_wp2_with fail
         go_ret
         exact⟨by rw[HE.out];rfl,hbw.out⟩
      ·have ua0:decide (0<na)=true:=qT (by omega)
       have ua1:decide ((0:Int)<(na:Int))=true:=qT (by omega)
       have HE:Hid (mayE x i=false):=Hd (mayE_args (by rw[hna.out];exact za) (fun h=>by have t:=T19.out;rw[h] at t;exact absurd t (by decide)))
       clear za
       go_wp2_with fail
       go_ret
       exact⟨by rw[HE.out];rfl,hbw.out⟩
     ·have uc:(x.c !=0)=true:=bne_iff_ne.2 zc
      have HE:Hid (mayE x i=false):=Hd (mayE_rest (p:=x.c) (by rw[hmo.out];simp) zc)
      clear zc
      go_wp2_with fail
      go_ret
      exact⟨by rw[HE.out];rfl,hbw.out⟩
    ·have ub:(x.b !=0)=true:=bne_iff_ne.2 zb
     have HE:Hid (mayE x i=false):=Hd (mayE_rest (p:=x.b) (by rw[hmo.out];simp) zb)
     clear zb
     go_wp2_with fail
     go_ret
     exact⟨by rw[HE.out];rfl,hbw.out⟩
   ·have ua:(x.a !=0)=true:=bne_iff_ne.2 za
    have HE:Hid (mayE x i=false):=Hd (mayE_rest (p:=x.a) (by rw[hmo.out];simp) za)
    clear za
    go_wp2_with fail
    go_ret
    exact⟨by rw[HE.out];rfl,hbw.out⟩
theorem one_k19 (x:Ex) (o:Option Addr) (na cap:Nat) (hna:Hid (x.args.length=na)) (i:Nat) (w:World) (ha:Hid (IntsAt w (.slice o na cap) x.args)) (hp:Hid ((partsE x).length≤1000)) (q1:decide (x.kind<1)=false) (q2:decide (21<x.kind)=false)
  (hm:Hid (manyR x.kind=-1)) (t3:(x.kind ==3)=false) (t19:(x.kind ==19)=true) (t20:(x.kind ==20)=false) (t2:decide (2<x.kind)=true) (t1:(x.kind ==1)=false) (hmv:Hid (mostV x.kind=0)) :
  Calls prog 14 #[.agg #[.int .i64 x.kind,.int .i64 x.a,.int .i64 x.b,.int .i64 x.c,.string x.name,.string x.state,.int .i64 x.v,.slice o na cap,.int .i64 x.pos],.int .i64 (i:Int)] w fun e w'=>MayPost (mayE x i) w e w':=by
 have hkk:Hid (1≤x.kind∧x.kind≤21):=Hd ⟨by have:=of_decide_eq_false q1;omega,by have:=of_decide_eq_false q2;omega⟩
 have T3:=Hd t3
 have T19:=Hd t19
 have T20:=Hd t20
 have T2:=Hd t2
 have T1:=Hd t1
 have hmo:Hid (manyOf x.kind=0):=Hd (by
  have h:=hm.out
  unfold manyR at h
  by_cases h19:x.kind=19
  ·rw[h19];first | rfl | (exfalso;rw[h19] at t19;exact absurd t19 (by decide))
  ·rw[if_neg h19] at h;first | omega | (exfalso;have t:=t19;simp at t;omega))
 have CM:Hid (∀w1,Calls prog 30 #[.int .i64 x.kind] w1 fun e w'=>e=.returned (.int .i64 (-1))∧w1=w'):=Hd fun w1=>by rw[←hm.out];exact many_any _ _
 have CP:Hid (∀w1,Below w.heap.size w w1→Calls prog 29 #[.agg #[.int .i64 x.kind,.int .i64 x.a,.int .i64 x.b,.int .i64 x.c,.string x.name,.string x.state,.int .i64 x.v,.slice o na cap,.int .i64 x.pos]] w1 fun e w'=>NewInts (partsE x) w1 e w'):=Hd fun w1 h1=>refParts_any x _ w1 (ha.out.below h1) hp.out
 have hb0:=Hd (below_al (qB w.heap.size w) (.cells #[.int .i64 x.kind,.int .i64 x.a,.int .i64 x.b,.int .i64 x.c,.string x.name,.string x.state,.int .i64 x.v,.slice o na cap,.int .i64 x.pos] 48))
 have hB0:=Hd (World.alloc_heap_new w (.cells #[.int .i64 x.kind,.int .i64 x.a,.int .i64 x.b,.int .i64 x.c,.string x.name,.string x.state,.int .i64 x.v,.slice o na cap,.int .i64 x.pos] 48))
 go_enter Tryz.func14,Tryz.ntmps14
 go_wp2_with (first | (go_at_call 30;((with_reducible refine(CM.out _).mono ?_);rintro e w1 ⟨rfl,rfl⟩)) | (go_at_call 29;((with_reducible refine(CP.out _ hb0.out).mono ?_);rintro e w2 ⟨v',rfl,hown,hb2⟩;obtain⟨g,o',cap',rfl,hg1,hg2⟩:=own_ints hown;have HB2:=Hd hb2;have HG1:=Hd hg1;have HG2:=Hd hg2;clear hown hb2 hg1 hg2)))
 have hbw:=Hd (hb0.out.trans (HB2.out.mono hb0.out.size))
 have hBx:=Hd ((HB2.out.block _ (lt_of_heap hB0.out)).trans hB0.out)
 obtain⟨pn,hpn⟩:∃pn,pn=(partsE x).length:=⟨_,rfl⟩
 have HPN:=Hd hpn
 have hpl:(pn:Int)≤1000:=by have:=hp.out;omega
 rw[←hpn] at HG1 HG2 ⊢
 clear hpn CM CP hb0 hB0 HB2
 go_loop [7] (fun t=>∃j:Nat,t=.int .i64 j∧j≤pn∧Hid (∀u,u<j→partOk i ((partsE x).getD u 0)=true)) (fun t=>pn-litLen t)
 case atStart=>exact⟨0,rfl,Nat.zero_le _,Hd fun u hu=>by omega⟩
 case round =>
  obtain⟨j,rfl,hj,hok⟩:=hrel
  rcases Nat.lt_or_ge j pn with hlt | hge
  ·have q3:(j:Int)<(pn:Int):=by omega
   have ix:=ix_ints (off:=0) (cap:=cap') HG1.out hlt (by omega)
   unfold Ix at ix
   have cj:=HG2.out j hlt
   obtain⟨z,hz⟩:∃z,z=(partsE x).getD j 0:=⟨_,rfl⟩
   rw[←hz] at cj
   have HZ:=Hd hz
   have hmem:Hid (z ∈ partsE x):=Hd (by rw[hz,List.getD_eq_getElem?_getD,List.getElem?_eq_getElem (by have:=HPN.out;omega)];exact List.getElem_mem _)
   clear hz
   by_cases h1:z<0
   ·have u1:decide (z<0)=true:=qT h1
    have hbad:=Hd (mayE_parts (i:=i) hmem.out (by unfold partOk;rw[qF (show ¬0≤z by omega)];rfl))
    clear h1
    go_wp2_with fail
    go_ret
    exact⟨by rw[hbad.out];rfl,hbw.out⟩
   ·have u1:decide (z<0)=false:=qF h1
    by_cases h2:(i:Int)≤z
    ·have u2:decide ((i:Int)≤z)=true:=qT h2
     have hbad:=Hd (mayE_parts (i:=i) hmem.out (by unfold partOk;rw[qF (show ¬z<(i:Int) by omega)];simp))
     clear h1 h2
     go_wp2_with fail
     go_ret
     exact⟨by rw[hbad.out];rfl,hbw.out⟩
    ·have u2:decide ((i:Int)≤z)=false:=qF h2
     have hgood:=Hd (show partOk i z=true by unfold partOk;rw[qT (show 0≤z by omega),qT (show z<(i:Int) by omega)];rfl)
     clear h1 h2
     go_wp2_with fail
     go_round
     case rel=>exact⟨j+1,by first | omega | go_num,by omega,Hd fun u hu=>by
      rcases Nat.lt_or_ge u j with h | h
      ·exact hok.out u h
      ·obtain rfl:u=j:=by omega
       rw[←HZ.out];exact hgood.out⟩
     case measure=>simp[litLen];omega
  ·have q3:decide ((j:Int)<(pn:Int))=false:=qF (by omega)
   have hparts:Hid (∀p ∈ partsE x,partOk i p=true):=Hd (by
    intro p hpm
    obtain⟨u,hu,rfl⟩:=List.mem_iff_getElem.1 hpm
    have:=hok.out u (by have:=HPN.out;omega)
    rwa [List.getD_eq_getElem?_getD,List.getElem?_eq_getElem hu] at this)
   have d0:w2.cell? ⟨w.heap.size,0,none⟩=some (.int .i64 x.kind):=by simp[World.cell?,hBx.out]
   have d1:w2.cell? ⟨w.heap.size,1,none⟩=some (.int .i64 x.a):=by simp[World.cell?,hBx.out]
   have d2:w2.cell? ⟨w.heap.size,2,none⟩=some (.int .i64 x.b):=by simp[World.cell?,hBx.out]
   have d3:w2.cell? ⟨w.heap.size,3,none⟩=some (.int .i64 x.c):=by simp[World.cell?,hBx.out]
   have d4:w2.cell? ⟨w.heap.size,4,none⟩=some (.string x.name):=by simp[World.cell?,hBx.out]
   have d5:w2.cell? ⟨w.heap.size,5,none⟩=some (.string x.state):=by simp[World.cell?,hBx.out]
   have d6:w2.cell? ⟨w.heap.size,6,none⟩=some (.int .i64 x.v):=by simp[World.cell?,hBx.out]
   have d7:w2.cell? ⟨w.heap.size,7,none⟩=some (.slice o na cap):=by simp[World.cell?,hBx.out]
   have hnk:Hid (namedK x.kind=true):=Hd (by
    unfold namedK
    rw[show decide (x.kind=3)=false from T3.out,show decide (x.kind=19)=true from T19.out,show decide (x.kind=20)=false from T20.out];rfl)
   clear hok HG1 HG2
   by_cases za:x.a=0
   ·have ua:(x.a !=0)=false:=by rw[za];rfl
    have Za:=Hd za
    clear za
    by_cases zb:x.b=0
    ·have ub:(x.b !=0)=false:=by rw[zb];rfl
     have Zb:=Hd zb
     clear zb
     by_cases zc:x.c=0
     ·have uc:(x.c !=0)=false:=by rw[zc];rfl
      have Zc:=Hd zc
      clear zc
      have hu:=hna.out
      clear hu
      have A2:Hid (decide (x.args.length=0)=decide (x.args.length=0)):=Hd rfl
      have hrest:Hid (mayE x i=restE x):=Hd (mayE_last hkk.out hparts.out (by
       rw[hmo.out]
       intro p hpm
       simp at hpm
       rcases hpm with rfl | rfl | rfl
       ·exact Za.out
       ·exact Zb.out
       ·exact Zc.out))
      by_cases hn:x.name.toList=[]
      ·have n2:x.name.toList.isEmpty=true:=by rw[hn];rfl
       have N2:Hid (x.name.toList.isEmpty=!false):=Hd n2
       clear hn
       have S2:Hid (x.state.toList.isEmpty=!!x.state.toList.isEmpty):=Hd (by simp)
       have HE:Hid (mayE x i=false):=Hd (by rw[hrest.out,restE_w x true false true false (!x.state.toList.isEmpty) (decide (x.args.length=0)) hnk.out T20.out T19.out N2.out S2.out A2.out];rfl)
       clear hrest
       go_wp2_with fail
       go_ret
       exact⟨by rw[HE.out];rfl,hbw.out⟩
      ·have n2:x.name.toList.isEmpty=false:=by cases h:x.name.toList with | nil=>exact absurd h hn | cons _ _=>rfl
       have N2:Hid (x.name.toList.isEmpty=!true):=Hd n2
       clear hn
       by_cases hst:x.state.toList=[]
       ·have s2:x.state.toList.isEmpty=true:=by rw[hst];rfl
        have S2:Hid (x.state.toList.isEmpty=!false):=Hd s2
        clear hst
        have HE:Hid (mayE x i=(x.v ==0)):=Hd (by rw[hrest.out,restE_w x true false true true false (decide (x.args.length=0)) hnk.out T20.out T19.out N2.out S2.out A2.out,hmv.out];exact v_zero x.v)
        clear hrest
        go_wp2_with fail
        go_ret
        exact⟨by rw[HE.out];rfl,hbw.out⟩
       ·have s2:x.state.toList.isEmpty=false:=by cases h:x.state.toList with | nil=>exact absurd h hst | cons _ _=>rfl
        have S2:Hid (x.state.toList.isEmpty=!true):=Hd s2
        clear hst
        have HE:Hid (mayE x i=false):=Hd (by rw[hrest.out,restE_w x true false true true true (decide (x.args.length=0)) hnk.out T20.out T19.out N2.out S2.out A2.out];rfl)
        clear hrest
        go_wp2_with fail
        go_ret
        exact⟨by rw[HE.out];rfl,hbw.out⟩
     ·have uc:(x.c !=0)=true:=bne_iff_ne.2 zc
      have HE:Hid (mayE x i=false):=Hd (mayE_rest (p:=x.c) (by rw[hmo.out];simp) zc)
      clear zc
      go_wp2_with fail
      go_ret
      exact⟨by rw[HE.out];rfl,hbw.out⟩
    ·have ub:(x.b !=0)=true:=bne_iff_ne.2 zb
     have HE:Hid (mayE x i=false):=Hd (mayE_rest (p:=x.b) (by rw[hmo.out];simp) zb)
     clear zb
     go_wp2_with fail
     go_ret
     exact⟨by rw[HE.out];rfl,hbw.out⟩
   ·have ua:(x.a !=0)=true:=bne_iff_ne.2 za
    have HE:Hid (mayE x i=false):=Hd (mayE_rest (p:=x.a) (by rw[hmo.out];simp) za)
    clear za
    go_wp2_with fail
    go_ret
    exact⟨by rw[HE.out];rfl,hbw.out⟩
theorem one_k20 (x:Ex) (o:Option Addr) (na cap:Nat) (hna:Hid (x.args.length=na)) (i:Nat) (w:World) (ha:Hid (IntsAt w (.slice o na cap) x.args)) (hp:Hid ((partsE x).length≤1000)) (q1:decide (x.kind<1)=false) (q2:decide (21<x.kind)=false)
  (hm:Hid (manyR x.kind=0)) (t3:(x.kind ==3)=false) (t19:(x.kind ==19)=false) (t20:(x.kind ==20)=true) (t2:decide (2<x.kind)=true) (t1:(x.kind ==1)=false) (hmv:Hid (mostV x.kind=0)) :
  Calls prog 14 #[.agg #[.int .i64 x.kind,.int .i64 x.a,.int .i64 x.b,.int .i64 x.c,.string x.name,.string x.state,.int .i64 x.v,.slice o na cap,.int .i64 x.pos],.int .i64 (i:Int)] w fun e w'=>MayPost (mayE x i) w e w':=by
 have hkk:Hid (1≤x.kind∧x.kind≤21):=Hd ⟨by have:=of_decide_eq_false q1;omega,by have:=of_decide_eq_false q2;omega⟩
 have T3:=Hd t3
 have T19:=Hd t19
 have T20:=Hd t20
 have T2:=Hd t2
 have T1:=Hd t1
 have hmo:Hid (manyOf x.kind=0):=Hd (by
  have h:=hm.out
  unfold manyR at h
  by_cases h19:x.kind=19
  ·rw[h19];first | rfl | (exfalso;rw[h19] at t19;exact absurd t19 (by decide))
  ·rw[if_neg h19] at h;first | omega | (exfalso;have t:=t19;simp at t;omega))
 have CM:Hid (∀w1,Calls prog 30 #[.int .i64 x.kind] w1 fun e w'=>e=.returned (.int .i64 (0))∧w1=w'):=Hd fun w1=>by rw[←hm.out];exact many_any _ _
 have CP:Hid (∀w1,Below w.heap.size w w1→Calls prog 29 #[.agg #[.int .i64 x.kind,.int .i64 x.a,.int .i64 x.b,.int .i64 x.c,.string x.name,.string x.state,.int .i64 x.v,.slice o na cap,.int .i64 x.pos]] w1 fun e w'=>NewInts (partsE x) w1 e w'):=Hd fun w1 h1=>refParts_any x _ w1 (ha.out.below h1) hp.out
 have hb0:=Hd (below_al (qB w.heap.size w) (.cells #[.int .i64 x.kind,.int .i64 x.a,.int .i64 x.b,.int .i64 x.c,.string x.name,.string x.state,.int .i64 x.v,.slice o na cap,.int .i64 x.pos] 48))
 have hB0:=Hd (World.alloc_heap_new w (.cells #[.int .i64 x.kind,.int .i64 x.a,.int .i64 x.b,.int .i64 x.c,.string x.name,.string x.state,.int .i64 x.v,.slice o na cap,.int .i64 x.pos] 48))
 go_enter Tryz.func14,Tryz.ntmps14
 go_wp2_with (first | (go_at_call 30;((with_reducible refine(CM.out _).mono ?_);rintro e w1 ⟨rfl,rfl⟩)) | (go_at_call 29;((with_reducible refine(CP.out _ hb0.out).mono ?_);rintro e w2 ⟨v',rfl,hown,hb2⟩;obtain⟨g,o',cap',rfl,hg1,hg2⟩:=own_ints hown;have HB2:=Hd hb2;have HG1:=Hd hg1;have HG2:=Hd hg2;clear hown hb2 hg1 hg2)))
 have hbw:=Hd (hb0.out.trans (HB2.out.mono hb0.out.size))
 have hBx:=Hd ((HB2.out.block _ (lt_of_heap hB0.out)).trans hB0.out)
 obtain⟨pn,hpn⟩:∃pn,pn=(partsE x).length:=⟨_,rfl⟩
 have HPN:=Hd hpn
 have hpl:(pn:Int)≤1000:=by have:=hp.out;omega
 rw[←hpn] at HG1 HG2 ⊢
 clear hpn CM CP hb0 hB0 HB2
 go_loop [7] (fun t=>∃j:Nat,t=.int .i64 j∧j≤pn∧Hid (∀u,u<j→partOk i ((partsE x).getD u 0)=true)) (fun t=>pn-litLen t)
 case atStart=>exact⟨0,rfl,Nat.zero_le _,Hd fun u hu=>by omega⟩
 case round =>
  obtain⟨j,rfl,hj,hok⟩:=hrel
  rcases Nat.lt_or_ge j pn with hlt | hge
  ·have q3:(j:Int)<(pn:Int):=by omega
   have ix:=ix_ints (off:=0) (cap:=cap') HG1.out hlt (by omega)
   unfold Ix at ix
   have cj:=HG2.out j hlt
   obtain⟨z,hz⟩:∃z,z=(partsE x).getD j 0:=⟨_,rfl⟩
   rw[←hz] at cj
   have HZ:=Hd hz
   have hmem:Hid (z ∈ partsE x):=Hd (by rw[hz,List.getD_eq_getElem?_getD,List.getElem?_eq_getElem (by have:=HPN.out;omega)];exact List.getElem_mem _)
   clear hz
   by_cases h1:z<0
   ·have u1:decide (z<0)=true:=qT h1
    have hbad:=Hd (mayE_parts (i:=i) hmem.out (by unfold partOk;rw[qF (show ¬0≤z by omega)];rfl))
    clear h1
    go_wp2_with fail
    go_ret
    exact⟨by rw[hbad.out];rfl,hbw.out⟩
   ·have u1:decide (z<0)=false:=qF h1
    by_cases h2:(i:Int)≤z
    ·have u2:decide ((i:Int)≤z)=true:=qT h2
     have hbad:=Hd (mayE_parts (i:=i) hmem.out (by unfold partOk;rw[qF (show ¬z<(i:Int) by omega)];simp))
     clear h1 h2
     go_wp2_with fail
     go_ret
     exact⟨by rw[hbad.out];rfl,hbw.out⟩
    ·have u2:decide ((i:Int)≤z)=false:=qF h2
     have hgood:=Hd (show partOk i z=true by unfold partOk;rw[qT (show 0≤z by omega),qT (show z<(i:Int) by omega)];rfl)
     clear h1 h2
     go_wp2_with fail
     go_round
     case rel=>exact⟨j+1,by first | omega | go_num,by omega,Hd fun u hu=>by
      rcases Nat.lt_or_ge u j with h | h
      ·exact hok.out u h
      ·obtain rfl:u=j:=by omega
       rw[←HZ.out];exact hgood.out⟩
     case measure=>simp[litLen];omega
  ·have q3:decide ((j:Int)<(pn:Int))=false:=qF (by omega)
   have hparts:Hid (∀p ∈ partsE x,partOk i p=true):=Hd (by
    intro p hpm
    obtain⟨u,hu,rfl⟩:=List.mem_iff_getElem.1 hpm
    have:=hok.out u (by have:=HPN.out;omega)
    rwa [List.getD_eq_getElem?_getD,List.getElem?_eq_getElem hu] at this)
   have d0:w2.cell? ⟨w.heap.size,0,none⟩=some (.int .i64 x.kind):=by simp[World.cell?,hBx.out]
   have d1:w2.cell? ⟨w.heap.size,1,none⟩=some (.int .i64 x.a):=by simp[World.cell?,hBx.out]
   have d2:w2.cell? ⟨w.heap.size,2,none⟩=some (.int .i64 x.b):=by simp[World.cell?,hBx.out]
   have d3:w2.cell? ⟨w.heap.size,3,none⟩=some (.int .i64 x.c):=by simp[World.cell?,hBx.out]
   have d4:w2.cell? ⟨w.heap.size,4,none⟩=some (.string x.name):=by simp[World.cell?,hBx.out]
   have d5:w2.cell? ⟨w.heap.size,5,none⟩=some (.string x.state):=by simp[World.cell?,hBx.out]
   have d6:w2.cell? ⟨w.heap.size,6,none⟩=some (.int .i64 x.v):=by simp[World.cell?,hBx.out]
   have d7:w2.cell? ⟨w.heap.size,7,none⟩=some (.slice o na cap):=by simp[World.cell?,hBx.out]
   have hnk:Hid (namedK x.kind=true):=Hd (by
    unfold namedK
    rw[show decide (x.kind=3)=false from T3.out,show decide (x.kind=19)=false from T19.out,show decide (x.kind=20)=true from T20.out];rfl)
   clear hok HG1 HG2
   by_cases za:x.a=0
   ·have ua:(x.a !=0)=false:=by rw[za];rfl
    have Za:=Hd za
    clear za
    by_cases zb:x.b=0
    ·have ub:(x.b !=0)=false:=by rw[zb];rfl
     have Zb:=Hd zb
     clear zb
     by_cases zc:x.c=0
     ·have uc:(x.c !=0)=false:=by rw[zc];rfl
      have Zc:=Hd zc
      clear zc
      by_cases za:na=0
      ·have ua0:decide (0<na)=false:=qF (by omega)
       have ua1:decide ((0:Int)<(na:Int))=false:=qF (by omega)
       have A2:Hid (decide (x.args.length=0)=true):=Hd (qT (by rw[hna.out];exact za))
       clear za
       have hrest:Hid (mayE x i=restE x):=Hd (mayE_last hkk.out hparts.out (by
        rw[hmo.out]
        intro p hpm
        simp at hpm
        rcases hpm with rfl | rfl | rfl
        ·exact Za.out
        ·exact Zb.out
        ·exact Zc.out))
       by_cases hn:x.name.toList=[]
       ·have n2:x.name.toList.isEmpty=true:=by rw[hn];rfl
        have N2:Hid (x.name.toList.isEmpty=!false):=Hd n2
        clear hn
        have S2:Hid (x.state.toList.isEmpty=!!x.state.toList.isEmpty):=Hd (by simp)
        have HE:Hid (mayE x i=false):=Hd (by rw[hrest.out,restE_w x true true false false (!x.state.toList.isEmpty) (true) hnk.out T20.out T19.out N2.out S2.out A2.out];rfl)
        clear hrest
        go_wp2_with fail
        go_ret
        exact⟨by rw[HE.out];rfl,hbw.out⟩
       ·have n2:x.name.toList.isEmpty=false:=by cases h:x.name.toList with | nil=>exact absurd h hn | cons _ _=>rfl
        have N2:Hid (x.name.toList.isEmpty=!true):=Hd n2
        clear hn
        by_cases hst:x.state.toList=[]
        ·have s2:x.state.toList.isEmpty=true:=by rw[hst];rfl
         have S2:Hid (x.state.toList.isEmpty=!false):=Hd s2
         clear hst
         have HE:Hid (mayE x i=false):=Hd (by rw[hrest.out,restE_w x true true false true false (true) hnk.out T20.out T19.out N2.out S2.out A2.out];rfl)
         clear hrest
         go_wp2_with fail
         go_ret
         exact⟨by rw[HE.out];rfl,hbw.out⟩
        ·have s2:x.state.toList.isEmpty=false:=by cases h:x.state.toList with | nil=>exact absurd h hst | cons _ _=>rfl
         have S2:Hid (x.state.toList.isEmpty=!true):=Hd s2
         clear hst
         have HE:Hid (mayE x i=(x.v ==0)):=Hd (by rw[hrest.out,restE_w x true true false true true (true) hnk.out T20.out T19.out N2.out S2.out A2.out,hmv.out];exact v_zero x.v)
         clear hrest
         go_wp2_with fail
         go_ret
         exact⟨by rw[HE.out];rfl,hbw.out⟩
      ·have ua0:decide (0<na)=true:=qT (by omega)
       have ua1:decide ((0:Int)<(na:Int))=true:=qT (by omega)
       have HE:Hid (mayE x i=false):=Hd (mayE_args (by rw[hna.out];exact za) (fun h=>by have t:=T19.out;rw[h] at t;exact absurd t (by decide)))
       clear za
       go_wp2_with fail
       go_ret
       exact⟨by rw[HE.out];rfl,hbw.out⟩
     ·have uc:(x.c !=0)=true:=bne_iff_ne.2 zc
      have HE:Hid (mayE x i=false):=Hd (mayE_rest (p:=x.c) (by rw[hmo.out];simp) zc)
      clear zc
      go_wp2_with fail
      go_ret
      exact⟨by rw[HE.out];rfl,hbw.out⟩
    ·have ub:(x.b !=0)=true:=bne_iff_ne.2 zb
     have HE:Hid (mayE x i=false):=Hd (mayE_rest (p:=x.b) (by rw[hmo.out];simp) zb)
     clear zb
     go_wp2_with fail
     go_ret
     exact⟨by rw[HE.out];rfl,hbw.out⟩
   ·have ua:(x.a !=0)=true:=bne_iff_ne.2 za
    have HE:Hid (mayE x i=false):=Hd (mayE_rest (p:=x.a) (by rw[hmo.out];simp) za)
    clear za
    go_wp2_with fail
    go_ret
    exact⟨by rw[HE.out];rfl,hbw.out⟩
theorem one_k1 (x:Ex) (o:Option Addr) (na cap:Nat) (hna:Hid (x.args.length=na)) (i:Nat) (w:World) (ha:Hid (IntsAt w (.slice o na cap) x.args)) (hp:Hid ((partsE x).length≤1000)) (q1:decide (x.kind<1)=false) (q2:decide (21<x.kind)=false)
  (hm:Hid (manyR x.kind=0)) (t3:(x.kind ==3)=false) (t19:(x.kind ==19)=false) (t20:(x.kind ==20)=false) (t2:decide (2<x.kind)=false) (t1:(x.kind ==1)=true) (hv63:Hid (x.v≤9223372036854775807)) (hmv:Hid (mostV x.kind=9223372036854775807)) :
  Calls prog 14 #[.agg #[.int .i64 x.kind,.int .i64 x.a,.int .i64 x.b,.int .i64 x.c,.string x.name,.string x.state,.int .i64 x.v,.slice o na cap,.int .i64 x.pos],.int .i64 (i:Int)] w fun e w'=>MayPost (mayE x i) w e w':=by
 have hkk:Hid (1≤x.kind∧x.kind≤21):=Hd ⟨by have:=of_decide_eq_false q1;omega,by have:=of_decide_eq_false q2;omega⟩
 have T3:=Hd t3
 have T19:=Hd t19
 have T20:=Hd t20
 have T2:=Hd t2
 have T1:=Hd t1
 have hmo:Hid (manyOf x.kind=0):=Hd (by
  have h:=hm.out
  unfold manyR at h
  by_cases h19:x.kind=19
  ·rw[h19];first | rfl | (exfalso;rw[h19] at t19;exact absurd t19 (by decide))
  ·rw[if_neg h19] at h;first | omega | (exfalso;have t:=t19;simp at t;omega))
 have CM:Hid (∀w1,Calls prog 30 #[.int .i64 x.kind] w1 fun e w'=>e=.returned (.int .i64 (0))∧w1=w'):=Hd fun w1=>by rw[←hm.out];exact many_any _ _
 have CP:Hid (∀w1,Below w.heap.size w w1→Calls prog 29 #[.agg #[.int .i64 x.kind,.int .i64 x.a,.int .i64 x.b,.int .i64 x.c,.string x.name,.string x.state,.int .i64 x.v,.slice o na cap,.int .i64 x.pos]] w1 fun e w'=>NewInts (partsE x) w1 e w'):=Hd fun w1 h1=>refParts_any x _ w1 (ha.out.below h1) hp.out
 have hb0:=Hd (below_al (qB w.heap.size w) (.cells #[.int .i64 x.kind,.int .i64 x.a,.int .i64 x.b,.int .i64 x.c,.string x.name,.string x.state,.int .i64 x.v,.slice o na cap,.int .i64 x.pos] 48))
 have hB0:=Hd (World.alloc_heap_new w (.cells #[.int .i64 x.kind,.int .i64 x.a,.int .i64 x.b,.int .i64 x.c,.string x.name,.string x.state,.int .i64 x.v,.slice o na cap,.int .i64 x.pos] 48))
 go_enter Tryz.func14,Tryz.ntmps14
 go_wp2_with (first | (go_at_call 30;((with_reducible refine(CM.out _).mono ?_);rintro e w1 ⟨rfl,rfl⟩)) | (go_at_call 29;((with_reducible refine(CP.out _ hb0.out).mono ?_);rintro e w2 ⟨v',rfl,hown,hb2⟩;obtain⟨g,o',cap',rfl,hg1,hg2⟩:=own_ints hown;have HB2:=Hd hb2;have HG1:=Hd hg1;have HG2:=Hd hg2;clear hown hb2 hg1 hg2)))
 have hbw:=Hd (hb0.out.trans (HB2.out.mono hb0.out.size))
 have hBx:=Hd ((HB2.out.block _ (lt_of_heap hB0.out)).trans hB0.out)
 obtain⟨pn,hpn⟩:∃pn,pn=(partsE x).length:=⟨_,rfl⟩
 have HPN:=Hd hpn
 have hpl:(pn:Int)≤1000:=by have:=hp.out;omega
 rw[←hpn] at HG1 HG2 ⊢
 clear hpn CM CP hb0 hB0 HB2
 go_loop [7] (fun t=>∃j:Nat,t=.int .i64 j∧j≤pn∧Hid (∀u,u<j→partOk i ((partsE x).getD u 0)=true)) (fun t=>pn-litLen t)
 case atStart=>exact⟨0,rfl,Nat.zero_le _,Hd fun u hu=>by omega⟩
 case round =>
  obtain⟨j,rfl,hj,hok⟩:=hrel
  rcases Nat.lt_or_ge j pn with hlt | hge
  ·have q3:(j:Int)<(pn:Int):=by omega
   have ix:=ix_ints (off:=0) (cap:=cap') HG1.out hlt (by omega)
   unfold Ix at ix
   have cj:=HG2.out j hlt
   obtain⟨z,hz⟩:∃z,z=(partsE x).getD j 0:=⟨_,rfl⟩
   rw[←hz] at cj
   have HZ:=Hd hz
   have hmem:Hid (z ∈ partsE x):=Hd (by rw[hz,List.getD_eq_getElem?_getD,List.getElem?_eq_getElem (by have:=HPN.out;omega)];exact List.getElem_mem _)
   clear hz
   by_cases h1:z<0
   ·have u1:decide (z<0)=true:=qT h1
    have hbad:=Hd (mayE_parts (i:=i) hmem.out (by unfold partOk;rw[qF (show ¬0≤z by omega)];rfl))
    clear h1
    go_wp2_with fail
    go_ret
    exact⟨by rw[hbad.out];rfl,hbw.out⟩
   ·have u1:decide (z<0)=false:=qF h1
    by_cases h2:(i:Int)≤z
    ·have u2:decide ((i:Int)≤z)=true:=qT h2
     have hbad:=Hd (mayE_parts (i:=i) hmem.out (by unfold partOk;rw[qF (show ¬z<(i:Int) by omega)];simp))
     clear h1 h2
     go_wp2_with fail
     go_ret
     exact⟨by rw[hbad.out];rfl,hbw.out⟩
    ·have u2:decide ((i:Int)≤z)=false:=qF h2
     have hgood:=Hd (show partOk i z=true by unfold partOk;rw[qT (show 0≤z by omega),qT (show z<(i:Int) by omega)];rfl)
     clear h1 h2
     go_wp2_with fail
     go_round
     case rel=>exact⟨j+1,by first | omega | go_num,by omega,Hd fun u hu=>by
      rcases Nat.lt_or_ge u j with h | h
      ·exact hok.out u h
      ·obtain rfl:u=j:=by omega
       rw[←HZ.out];exact hgood.out⟩
     case measure=>simp[litLen];omega
  ·have q3:decide ((j:Int)<(pn:Int))=false:=qF (by omega)
   have hparts:Hid (∀p ∈ partsE x,partOk i p=true):=Hd (by
    intro p hpm
    obtain⟨u,hu,rfl⟩:=List.mem_iff_getElem.1 hpm
    have:=hok.out u (by have:=HPN.out;omega)
    rwa [List.getD_eq_getElem?_getD,List.getElem?_eq_getElem hu] at this)
   have d0:w2.cell? ⟨w.heap.size,0,none⟩=some (.int .i64 x.kind):=by simp[World.cell?,hBx.out]
   have d1:w2.cell? ⟨w.heap.size,1,none⟩=some (.int .i64 x.a):=by simp[World.cell?,hBx.out]
   have d2:w2.cell? ⟨w.heap.size,2,none⟩=some (.int .i64 x.b):=by simp[World.cell?,hBx.out]
   have d3:w2.cell? ⟨w.heap.size,3,none⟩=some (.int .i64 x.c):=by simp[World.cell?,hBx.out]
   have d4:w2.cell? ⟨w.heap.size,4,none⟩=some (.string x.name):=by simp[World.cell?,hBx.out]
   have d5:w2.cell? ⟨w.heap.size,5,none⟩=some (.string x.state):=by simp[World.cell?,hBx.out]
   have d6:w2.cell? ⟨w.heap.size,6,none⟩=some (.int .i64 x.v):=by simp[World.cell?,hBx.out]
   have d7:w2.cell? ⟨w.heap.size,7,none⟩=some (.slice o na cap):=by simp[World.cell?,hBx.out]
   have hnk:Hid (namedK x.kind=false):=Hd (by
    unfold namedK
    rw[show decide (x.kind=3)=false from T3.out,show decide (x.kind=19)=false from T19.out,show decide (x.kind=20)=false from T20.out];rfl)
   clear hok HG1 HG2
   by_cases za:x.a=0
   ·have ua:(x.a !=0)=false:=by rw[za];rfl
    have Za:=Hd za
    clear za
    by_cases zb:x.b=0
    ·have ub:(x.b !=0)=false:=by rw[zb];rfl
     have Zb:=Hd zb
     clear zb
     by_cases zc:x.c=0
     ·have uc:(x.c !=0)=false:=by rw[zc];rfl
      have Zc:=Hd zc
      clear zc
      by_cases za:na=0
      ·have ua0:decide (0<na)=false:=qF (by omega)
       have ua1:decide ((0:Int)<(na:Int))=false:=qF (by omega)
       have A2:Hid (decide (x.args.length=0)=true):=Hd (qT (by rw[hna.out];exact za))
       clear za
       have hrest:Hid (mayE x i=restE x):=Hd (mayE_last hkk.out hparts.out (by
        rw[hmo.out]
        intro p hpm
        simp at hpm
        rcases hpm with rfl | rfl | rfl
        ·exact Za.out
        ·exact Zb.out
        ·exact Zc.out))
       by_cases hn:x.name.toList=[]
       ·have n2:x.name.toList.isEmpty=true:=by rw[hn];rfl
        have N2:Hid (x.name.toList.isEmpty=!false):=Hd n2
        clear hn
        by_cases hst:x.state.toList=[]
        ·have s2:x.state.toList.isEmpty=true:=by rw[hst];rfl
         have S2:Hid (x.state.toList.isEmpty=!false):=Hd s2
         clear hst
         by_cases hv:0≤x.v
         ·have v2:decide (0≤x.v)=true:=qT hv
          have HE:Hid (mayE x i=true):=Hd (by rw[hrest.out,restE_w x false false false false false (true) hnk.out T20.out T19.out N2.out S2.out A2.out,hmv.out,v2,qT hv63.out];rfl)
          clear hrest hv
          go_wp2_with fail
          go_ret
          exact⟨by rw[HE.out];rfl,hbw.out⟩
         ·have v2:decide (0≤x.v)=false:=qF hv
          have HE:Hid (mayE x i=false):=Hd (by rw[hrest.out,restE_w x false false false false false (true) hnk.out T20.out T19.out N2.out S2.out A2.out,v2];simp)
          clear hrest hv
          go_wp2_with fail
          go_ret
          exact⟨by rw[HE.out];rfl,hbw.out⟩
        ·have s2:x.state.toList.isEmpty=false:=by cases h:x.state.toList with | nil=>exact absurd h hst | cons _ _=>rfl
         have S2:Hid (x.state.toList.isEmpty=!true):=Hd s2
         clear hst
         have HE:Hid (mayE x i=false):=Hd (by rw[hrest.out,restE_w x false false false false true (true) hnk.out T20.out T19.out N2.out S2.out A2.out];rfl)
         clear hrest
         go_wp2_with fail
         go_ret
         exact⟨by rw[HE.out];rfl,hbw.out⟩
       ·have n2:x.name.toList.isEmpty=false:=by cases h:x.name.toList with | nil=>exact absurd h hn | cons _ _=>rfl
        have N2:Hid (x.name.toList.isEmpty=!true):=Hd n2
        clear hn
        have S2:Hid (x.state.toList.isEmpty=!!x.state.toList.isEmpty):=Hd (by simp)
        have HE:Hid (mayE x i=false):=Hd (by rw[hrest.out,restE_w x false false false true (!x.state.toList.isEmpty) (true) hnk.out T20.out T19.out N2.out S2.out A2.out];rfl)
        clear hrest
        go_wp2_with fail
        go_ret
        exact⟨by rw[HE.out];rfl,hbw.out⟩
      ·have ua0:decide (0<na)=true:=qT (by omega)
       have ua1:decide ((0:Int)<(na:Int))=true:=qT (by omega)
       have HE:Hid (mayE x i=false):=Hd (mayE_args (by rw[hna.out];exact za) (fun h=>by have t:=T19.out;rw[h] at t;exact absurd t (by decide)))
       clear za
       go_wp2_with fail
       go_ret
       exact⟨by rw[HE.out];rfl,hbw.out⟩
     ·have uc:(x.c !=0)=true:=bne_iff_ne.2 zc
      have HE:Hid (mayE x i=false):=Hd (mayE_rest (p:=x.c) (by rw[hmo.out];simp) zc)
      clear zc
      go_wp2_with fail
      go_ret
      exact⟨by rw[HE.out];rfl,hbw.out⟩
    ·have ub:(x.b !=0)=true:=bne_iff_ne.2 zb
     have HE:Hid (mayE x i=false):=Hd (mayE_rest (p:=x.b) (by rw[hmo.out];simp) zb)
     clear zb
     go_wp2_with fail
     go_ret
     exact⟨by rw[HE.out];rfl,hbw.out⟩
   ·have ua:(x.a !=0)=true:=bne_iff_ne.2 za
    have HE:Hid (mayE x i=false):=Hd (mayE_rest (p:=x.a) (by rw[hmo.out];simp) za)
    clear za
    go_wp2_with fail
    go_ret
    exact⟨by rw[HE.out];rfl,hbw.out⟩
theorem one_k2 (x:Ex) (o:Option Addr) (na cap:Nat) (hna:Hid (x.args.length=na)) (i:Nat) (w:World) (ha:Hid (IntsAt w (.slice o na cap) x.args)) (hp:Hid ((partsE x).length≤1000)) (q1:decide (x.kind<1)=false) (q2:decide (21<x.kind)=false)
  (hm:Hid (manyR x.kind=0)) (t3:(x.kind ==3)=false) (t19:(x.kind ==19)=false) (t20:(x.kind ==20)=false) (t2:decide (2<x.kind)=false) (t1:(x.kind ==1)=false) (hmv:Hid (mostV x.kind=1)) :
  Calls prog 14 #[.agg #[.int .i64 x.kind,.int .i64 x.a,.int .i64 x.b,.int .i64 x.c,.string x.name,.string x.state,.int .i64 x.v,.slice o na cap,.int .i64 x.pos],.int .i64 (i:Int)] w fun e w'=>MayPost (mayE x i) w e w':=by
 have hkk:Hid (1≤x.kind∧x.kind≤21):=Hd ⟨by have:=of_decide_eq_false q1;omega,by have:=of_decide_eq_false q2;omega⟩
 have T3:=Hd t3
 have T19:=Hd t19
 have T20:=Hd t20
 have T2:=Hd t2
 have T1:=Hd t1
 have hmo:Hid (manyOf x.kind=0):=Hd (by
  have h:=hm.out
  unfold manyR at h
  by_cases h19:x.kind=19
  ·rw[h19];first | rfl | (exfalso;rw[h19] at t19;exact absurd t19 (by decide))
  ·rw[if_neg h19] at h;first | omega | (exfalso;have t:=t19;simp at t;omega))
 have CM:Hid (∀w1,Calls prog 30 #[.int .i64 x.kind] w1 fun e w'=>e=.returned (.int .i64 (0))∧w1=w'):=Hd fun w1=>by rw[←hm.out];exact many_any _ _
 have CP:Hid (∀w1,Below w.heap.size w w1→Calls prog 29 #[.agg #[.int .i64 x.kind,.int .i64 x.a,.int .i64 x.b,.int .i64 x.c,.string x.name,.string x.state,.int .i64 x.v,.slice o na cap,.int .i64 x.pos]] w1 fun e w'=>NewInts (partsE x) w1 e w'):=Hd fun w1 h1=>refParts_any x _ w1 (ha.out.below h1) hp.out
 have hb0:=Hd (below_al (qB w.heap.size w) (.cells #[.int .i64 x.kind,.int .i64 x.a,.int .i64 x.b,.int .i64 x.c,.string x.name,.string x.state,.int .i64 x.v,.slice o na cap,.int .i64 x.pos] 48))
 have hB0:=Hd (World.alloc_heap_new w (.cells #[.int .i64 x.kind,.int .i64 x.a,.int .i64 x.b,.int .i64 x.c,.string x.name,.string x.state,.int .i64 x.v,.slice o na cap,.int .i64 x.pos] 48))
 go_enter Tryz.func14,Tryz.ntmps14
 go_wp2_with (first | (go_at_call 30;((with_reducible refine(CM.out _).mono ?_);rintro e w1 ⟨rfl,rfl⟩)) | (go_at_call 29;((with_reducible refine(CP.out _ hb0.out).mono ?_);rintro e w2 ⟨v',rfl,hown,hb2⟩;obtain⟨g,o',cap',rfl,hg1,hg2⟩:=own_ints hown;have HB2:=Hd hb2;have HG1:=Hd hg1;have HG2:=Hd hg2;clear hown hb2 hg1 hg2)))
 have hbw:=Hd (hb0.out.trans (HB2.out.mono hb0.out.size))
 have hBx:=Hd ((HB2.out.block _ (lt_of_heap hB0.out)).trans hB0.out)
 obtain⟨pn,hpn⟩:∃pn,pn=(partsE x).length:=⟨_,rfl⟩
 have HPN:=Hd hpn
 have hpl:(pn:Int)≤1000:=by have:=hp.out;omega
 rw[←hpn] at HG1 HG2 ⊢
 clear hpn CM CP hb0 hB0 HB2
 go_loop [7] (fun t=>∃j:Nat,t=.int .i64 j∧j≤pn∧Hid (∀u,u<j→partOk i ((partsE x).getD u 0)=true)) (fun t=>pn-litLen t)
 case atStart=>exact⟨0,rfl,Nat.zero_le _,Hd fun u hu=>by omega⟩
 case round =>
  obtain⟨j,rfl,hj,hok⟩:=hrel
  rcases Nat.lt_or_ge j pn with hlt | hge
  ·have q3:(j:Int)<(pn:Int):=by omega
   have ix:=ix_ints (off:=0) (cap:=cap') HG1.out hlt (by omega)
   unfold Ix at ix
   have cj:=HG2.out j hlt
   obtain⟨z,hz⟩:∃z,z=(partsE x).getD j 0:=⟨_,rfl⟩
   rw[←hz] at cj
   have HZ:=Hd hz
   have hmem:Hid (z ∈ partsE x):=Hd (by rw[hz,List.getD_eq_getElem?_getD,List.getElem?_eq_getElem (by have:=HPN.out;omega)];exact List.getElem_mem _)
   clear hz
   by_cases h1:z<0
   ·have u1:decide (z<0)=true:=qT h1
    have hbad:=Hd (mayE_parts (i:=i) hmem.out (by unfold partOk;rw[qF (show ¬0≤z by omega)];rfl))
    clear h1
    go_wp2_with fail
    go_ret
    exact⟨by rw[hbad.out];rfl,hbw.out⟩
   ·have u1:decide (z<0)=false:=qF h1
    by_cases h2:(i:Int)≤z
    ·have u2:decide ((i:Int)≤z)=true:=qT h2
     have hbad:=Hd (mayE_parts (i:=i) hmem.out (by unfold partOk;rw[qF (show ¬z<(i:Int) by omega)];simp))
     clear h1 h2
     go_wp2_with fail
     go_ret
     exact⟨by rw[hbad.out];rfl,hbw.out⟩
    ·have u2:decide ((i:Int)≤z)=false:=qF h2
     have hgood:=Hd (show partOk i z=true by unfold partOk;rw[qT (show 0≤z by omega),qT (show z<(i:Int) by omega)];rfl)
     clear h1 h2
     go_wp2_with fail
     go_round
     case rel=>exact⟨j+1,by first | omega | go_num,by omega,Hd fun u hu=>by
      rcases Nat.lt_or_ge u j with h | h
      ·exact hok.out u h
      ·obtain rfl:u=j:=by omega
       rw[←HZ.out];exact hgood.out⟩
     case measure=>simp[litLen];omega
  ·have q3:decide ((j:Int)<(pn:Int))=false:=qF (by omega)
   have hparts:Hid (∀p ∈ partsE x,partOk i p=true):=Hd (by
    intro p hpm
    obtain⟨u,hu,rfl⟩:=List.mem_iff_getElem.1 hpm
    have:=hok.out u (by have:=HPN.out;omega)
    rwa [List.getD_eq_getElem?_getD,List.getElem?_eq_getElem hu] at this)
   have d0:w2.cell? ⟨w.heap.size,0,none⟩=some (.int .i64 x.kind):=by simp[World.cell?,hBx.out]
   have d1:w2.cell? ⟨w.heap.size,1,none⟩=some (.int .i64 x.a):=by simp[World.cell?,hBx.out]
   have d2:w2.cell? ⟨w.heap.size,2,none⟩=some (.int .i64 x.b):=by simp[World.cell?,hBx.out]
   have d3:w2.cell? ⟨w.heap.size,3,none⟩=some (.int .i64 x.c):=by simp[World.cell?,hBx.out]
   have d4:w2.cell? ⟨w.heap.size,4,none⟩=some (.string x.name):=by simp[World.cell?,hBx.out]
   have d5:w2.cell? ⟨w.heap.size,5,none⟩=some (.string x.state):=by simp[World.cell?,hBx.out]
   have d6:w2.cell? ⟨w.heap.size,6,none⟩=some (.int .i64 x.v):=by simp[World.cell?,hBx.out]
   have d7:w2.cell? ⟨w.heap.size,7,none⟩=some (.slice o na cap):=by simp[World.cell?,hBx.out]
   have hnk:Hid (namedK x.kind=false):=Hd (by
    unfold namedK
    rw[show decide (x.kind=3)=false from T3.out,show decide (x.kind=19)=false from T19.out,show decide (x.kind=20)=false from T20.out];rfl)
   clear hok HG1 HG2
   by_cases za:x.a=0
   ·have ua:(x.a !=0)=false:=by rw[za];rfl
    have Za:=Hd za
    clear za
    by_cases zb:x.b=0
    ·have ub:(x.b !=0)=false:=by rw[zb];rfl
     have Zb:=Hd zb
     clear zb
     by_cases zc:x.c=0
     ·have uc:(x.c !=0)=false:=by rw[zc];rfl
      have Zc:=Hd zc
      clear zc
      by_cases za:na=0
      ·have ua0:decide (0<na)=false:=qF (by omega)
       have ua1:decide ((0:Int)<(na:Int))=false:=qF (by omega)
       have A2:Hid (decide (x.args.length=0)=true):=Hd (qT (by rw[hna.out];exact za))
       clear za
       have hrest:Hid (mayE x i=restE x):=Hd (mayE_last hkk.out hparts.out (by
        rw[hmo.out]
        intro p hpm
        simp at hpm
        rcases hpm with rfl | rfl | rfl
        ·exact Za.out
        ·exact Zb.out
        ·exact Zc.out))
       by_cases hn:x.name.toList=[]
       ·have n2:x.name.toList.isEmpty=true:=by rw[hn];rfl
        have N2:Hid (x.name.toList.isEmpty=!false):=Hd n2
        clear hn
        by_cases hst:x.state.toList=[]
        ·have s2:x.state.toList.isEmpty=true:=by rw[hst];rfl
         have S2:Hid (x.state.toList.isEmpty=!false):=Hd s2
         clear hst
         by_cases hv:0≤x.v
         ·have v2:decide (0≤x.v)=true:=qT hv
          by_cases hv1:x.v≤1
          ·have v3:decide (x.v≤1)=true:=qT hv1
           have HE:Hid (mayE x i=true):=Hd (by rw[hrest.out,restE_w x false false false false false (true) hnk.out T20.out T19.out N2.out S2.out A2.out,hmv.out,v2,v3];rfl)
           clear hrest hv hv1
           go_wp2_with fail
           go_ret
           exact⟨by rw[HE.out];rfl,hbw.out⟩
          ·have v3:decide (x.v≤1)=false:=qF hv1
           have HE:Hid (mayE x i=false):=Hd (by rw[hrest.out,restE_w x false false false false false (true) hnk.out T20.out T19.out N2.out S2.out A2.out,hmv.out,v2,v3];rfl)
           clear hrest hv hv1
           go_wp2_with fail
           go_ret
           exact⟨by rw[HE.out];rfl,hbw.out⟩
         ·have v2:decide (0≤x.v)=false:=qF hv
          have HE:Hid (mayE x i=false):=Hd (by rw[hrest.out,restE_w x false false false false false (true) hnk.out T20.out T19.out N2.out S2.out A2.out,v2];simp)
          clear hrest hv
          go_wp2_with fail
          go_ret
          exact⟨by rw[HE.out];rfl,hbw.out⟩
        ·have s2:x.state.toList.isEmpty=false:=by cases h:x.state.toList with | nil=>exact absurd h hst | cons _ _=>rfl
         have S2:Hid (x.state.toList.isEmpty=!true):=Hd s2
         clear hst
         have HE:Hid (mayE x i=false):=Hd (by rw[hrest.out,restE_w x false false false false true (true) hnk.out T20.out T19.out N2.out S2.out A2.out];rfl)
         clear hrest
         go_wp2_with fail
         go_ret
         exact⟨by rw[HE.out];rfl,hbw.out⟩
       ·have n2:x.name.toList.isEmpty=false:=by cases h:x.name.toList with | nil=>exact absurd h hn | cons _ _=>rfl
        have N2:Hid (x.name.toList.isEmpty=!true):=Hd n2
        clear hn
        have S2:Hid (x.state.toList.isEmpty=!!x.state.toList.isEmpty):=Hd (by simp)
        have HE:Hid (mayE x i=false):=Hd (by rw[hrest.out,restE_w x false false false true (!x.state.toList.isEmpty) (true) hnk.out T20.out T19.out N2.out S2.out A2.out];rfl)
        clear hrest
        go_wp2_with fail
        go_ret
        exact⟨by rw[HE.out];rfl,hbw.out⟩
      ·have ua0:decide (0<na)=true:=qT (by omega)
       have ua1:decide ((0:Int)<(na:Int))=true:=qT (by omega)
       have HE:Hid (mayE x i=false):=Hd (mayE_args (by rw[hna.out];exact za) (fun h=>by have t:=T19.out;rw[h] at t;exact absurd t (by decide)))
       clear za
       go_wp2_with fail
       go_ret
       exact⟨by rw[HE.out];rfl,hbw.out⟩
     ·have uc:(x.c !=0)=true:=bne_iff_ne.2 zc
      have HE:Hid (mayE x i=false):=Hd (mayE_rest (p:=x.c) (by rw[hmo.out];simp) zc)
      clear zc
      go_wp2_with fail
      go_ret
      exact⟨by rw[HE.out];rfl,hbw.out⟩
    ·have ub:(x.b !=0)=true:=bne_iff_ne.2 zb
     have HE:Hid (mayE x i=false):=Hd (mayE_rest (p:=x.b) (by rw[hmo.out];simp) zb)
     clear zb
     go_wp2_with fail
     go_ret
     exact⟨by rw[HE.out];rfl,hbw.out⟩
   ·have ua:(x.a !=0)=true:=bne_iff_ne.2 za
    have HE:Hid (mayE x i=false):=Hd (mayE_rest (p:=x.a) (by rw[hmo.out];simp) za)
    clear za
    go_wp2_with fail
    go_ret
    exact⟨by rw[HE.out];rfl,hbw.out⟩
end Go.Proofs.YthpgfahlccljnaaGreatDoor
