import Derived.Test.YthpgfahlccljnaaGreatDoorSw12
set_option maxHeartbeats 16000000
set_option maxRecDepth 100000
open Go.Proofs.Tryz(prog)
namespace Go.Proofs.YthpgfahlccljnaaGreatDoor
open Go.RowKit
theorem one_m1 (x:Ex) (o:Option Addr) (na cap:Nat) (hna:Hid (x.args.length=na)) (i:Nat) (w:World) (ha:Hid (IntsAt w (.slice o na cap) x.args)) (hp:Hid ((partsE x).length≤1000)) (q1:decide (x.kind<1)=false) (q2:decide (21<x.kind)=false)
  (hm:Hid (manyR x.kind=1)) (t3:(x.kind ==3)=false) (t19:(x.kind ==19)=false) (t20:(x.kind ==20)=false) (t2:decide (2<x.kind)=true) (t1:(x.kind ==1)=false) (hmv:Hid (mostV x.kind=0)) :
  Calls prog 14 #[.agg #[.int .i64 x.kind,.int .i64 x.a,.int .i64 x.b,.int .i64 x.c,.string x.name,.string x.state,.int .i64 x.v,.slice o na cap,.int .i64 x.pos],.int .i64 (i:Int)] w fun e w'=>MayPost (mayE x i) w e w':=by
 have hkk:Hid (1≤x.kind∧x.kind≤21):=Hd ⟨by have:=of_decide_eq_false q1;omega,by have:=of_decide_eq_false q2;omega⟩
 have T3:=Hd t3
 have T19:=Hd t19
 have T20:=Hd t20
 have T2:=Hd t2
 have T1:=Hd t1
 have hmo:Hid (manyOf x.kind=1):=Hd (by
  have h:=hm.out
  unfold manyR at h
  by_cases h19:x.kind=19
  ·rw[h19];first | rfl | (exfalso;rw[h19] at t19;exact absurd t19 (by decide))
  ·rw[if_neg h19] at h;first | omega | (exfalso;have t:=t19;simp at t;omega))
 have CM:Hid (∀w1,Calls prog 30 #[.int .i64 x.kind] w1 fun e w'=>e=.returned (.int .i64 (1))∧w1=w'):=Hd fun w1=>by rw[←hm.out];exact many_any _ _
 have CP:Hid (∀w1,Below w.heap.size w w1→Calls prog 29 #[.agg #[.int .i64 x.kind,.int .i64 x.a,.int .i64 x.b,.int .i64 x.c,.string x.name,.string x.state,.int .i64 x.v,.slice o na cap,.int .i64 x.pos]] w1 fun e w'=>NewInts (partsE x) w1 e w'):=Hd fun w1 h1=>refParts_any x _ w1 (ha.out.below h1) hp.out
 have hb0:=Hd (below_al (qB w.heap.size w) (.cells #[.int .i64 x.kind,.int .i64 x.a,.int .i64 x.b,.int .i64 x.c,.string x.name,.string x.state,.int .i64 x.v,.slice o na cap,.int .i64 x.pos] 48))
 have hB0:=Hd (World.alloc_heap_new w (.cells #[.int .i64 x.kind,.int .i64 x.a,.int .i64 x.b,.int .i64 x.c,.string x.name,.string x.state,.int .i64 x.v,.slice o na cap,.int .i64 x.pos] 48))
 go_enter Tryz.func14,Tryz.ntmps14
 go_wp2_with (first | (go_at_call 30;((with_reducible refine(CM.out _).mono ?_);rintro e w1 ⟨rfl,rfl⟩)) | (go_at_call 29;((with_reducible refine(CP.out _ hb0.out).mono ?_);rintro e w2 ⟨v',rfl,hown,hb2⟩;obtain⟨g,o',cap',rfl,hg1,hg2⟩:=own_ints hown;have HB2:=Hd hb2;have HG1:=Hd hg1;have HG2:=Hd hg2;clear hown hb2 hg1 hg2)))
 have hbw:=Hd (hb0.out.trans (HB2.out.mono hb0.out.size))
 have hBx:=Hd ((HB2.out.block _ (lt_of_heap hB0.out)).trans hB0.out)
 obtain⟨pn,hpn⟩:∃pn,pn=(partsE x).length:=⟨_,rfl⟩
 have HPN:=Hd hpn
 have hpl:(pn:Int)≤1000:=by have:=hp.out;omega
 rw[←hpn] at HG1 HG2 ⊢
 clear hpn CM CP hb0 hB0 HB2
 go_loop [7] (fun t=>∃j:Nat,t=.int .i64 j∧j≤pn∧Hid (∀u,u<j→partOk i ((partsE x).getD u 0)=true)) (fun t=>pn-litLen t)
 case atStart=>exact⟨0,rfl,Nat.zero_le _,Hd fun u hu=>by omega⟩
 case round =>
  obtain⟨j,rfl,hj,hok⟩:=hrel
  rcases Nat.lt_or_ge j pn with hlt | hge
  ·have q3:(j:Int)<(pn:Int):=by omega
   have ix:=ix_ints (off:=0) (cap:=cap') HG1.out hlt (by omega)
   unfold Ix at ix
   have cj:=HG2.out j hlt
   obtain⟨z,hz⟩:∃z,z=(partsE x).getD j 0:=⟨_,rfl⟩
   rw[←hz] at cj
   have HZ:=Hd hz
   have hmem:Hid (z ∈ partsE x):=Hd (by rw[hz,List.getD_eq_getElem?_getD,List.getElem?_eq_getElem (by have:=HPN.out;omega)];exact List.getElem_mem _)
   clear hz
   by_cases h1:z<0
   ·have u1:decide (z<0)=true:=qT h1
    have hbad:=Hd (mayE_parts (i:=i) hmem.out (by unfold partOk;rw[qF (show ¬0≤z by omega)];rfl))
    clear h1
    go_wp2_with fail
    go_ret
    exact⟨by rw[hbad.out];rfl,hbw.out⟩
   ·have u1:decide (z<0)=false:=qF h1
    by_cases h2:(i:Int)≤z
    ·have u2:decide ((i:Int)≤z)=true:=qT h2
     have hbad:=Hd (mayE_parts (i:=i) hmem.out (by unfold partOk;rw[qF (show ¬z<(i:Int) by omega)];simp))
     clear h1 h2
     go_wp2_with fail
     go_ret
     exact⟨by rw[hbad.out];rfl,hbw.out⟩
    ·have u2:decide ((i:Int)≤z)=false:=qF h2
     have hgood:=Hd (show partOk i z=true by unfold partOk;rw[qT (show 0≤z by omega),qT (show z<(i:Int) by omega)];rfl)
     clear h1 h2
     go_wp2_with fail
     go_round
     case rel=>exact⟨j+1,by first | omega | go_num,by omega,Hd fun u hu=>by
      rcases Nat.lt_or_ge u j with h | h
      ·exact hok.out u h
      ·obtain rfl:u=j:=by omega
       rw[←HZ.out];exact hgood.out⟩
     case measure=>simp[litLen];omega
  ·have q3:decide ((j:Int)<(pn:Int))=false:=qF (by omega)
   have hparts:Hid (∀p ∈ partsE x,partOk i p=true):=Hd (by
    intro p hpm
    obtain⟨u,hu,rfl⟩:=List.mem_iff_getElem.1 hpm
    have:=hok.out u (by have:=HPN.out;omega)
    rwa [List.getD_eq_getElem?_getD,List.getElem?_eq_getElem hu] at this)
   have d0:w2.cell? ⟨w.heap.size,0,none⟩=some (.int .i64 x.kind):=by simp[World.cell?,hBx.out]
   have d1:w2.cell? ⟨w.heap.size,1,none⟩=some (.int .i64 x.a):=by simp[World.cell?,hBx.out]
   have d2:w2.cell? ⟨w.heap.size,2,none⟩=some (.int .i64 x.b):=by simp[World.cell?,hBx.out]
   have d3:w2.cell? ⟨w.heap.size,3,none⟩=some (.int .i64 x.c):=by simp[World.cell?,hBx.out]
   have d4:w2.cell? ⟨w.heap.size,4,none⟩=some (.string x.name):=by simp[World.cell?,hBx.out]
   have d5:w2.cell? ⟨w.heap.size,5,none⟩=some (.string x.state):=by simp[World.cell?,hBx.out]
   have d6:w2.cell? ⟨w.heap.size,6,none⟩=some (.int .i64 x.v):=by simp[World.cell?,hBx.out]
   have d7:w2.cell? ⟨w.heap.size,7,none⟩=some (.slice o na cap):=by simp[World.cell?,hBx.out]
   have hnk:Hid (namedK x.kind=false):=Hd (by
    unfold namedK
    rw[show decide (x.kind=3)=false from T3.out,show decide (x.kind=19)=false from T19.out,show decide (x.kind=20)=false from T20.out];rfl)
   clear hok HG1 HG2
   by_cases zb:x.b=0
   ·have ub:(x.b !=0)=false:=by rw[zb];rfl
    have Zb:=Hd zb
    clear zb
    by_cases zc:x.c=0
    ·have uc:(x.c !=0)=false:=by rw[zc];rfl
     have Zc:=Hd zc
     clear zc
     by_cases za:na=0
     ·have ua0:decide (0<na)=false:=qF (by omega)
      have ua1:decide ((0:Int)<(na:Int))=false:=qF (by omega)
      have A2:Hid (decide (x.args.length=0)=true):=Hd (qT (by rw[hna.out];exact za))
      clear za
      have hrest:Hid (mayE x i=restE x):=Hd (mayE_last hkk.out hparts.out (by
       rw[hmo.out]
       intro p hpm
       simp at hpm
       rcases hpm with rfl | rfl
       ·exact Zb.out
       ·exact Zc.out))
      by_cases hn:x.name.toList=[]
      ·have n2:x.name.toList.isEmpty=true:=by rw[hn];rfl
       have N2:Hid (x.name.toList.isEmpty=!false):=Hd n2
       clear hn
       by_cases hst:x.state.toList=[]
       ·have s2:x.state.toList.isEmpty=true:=by rw[hst];rfl
        have S2:Hid (x.state.toList.isEmpty=!false):=Hd s2
        clear hst
        have HE:Hid (mayE x i=(x.v ==0)):=Hd (by rw[hrest.out,restE_w x false false false false false (true) hnk.out T20.out T19.out N2.out S2.out A2.out,hmv.out];exact v_zero x.v)
        clear hrest
        go_wp2_with fail
        go_ret
        exact⟨by rw[HE.out];rfl,hbw.out⟩
       ·have s2:x.state.toList.isEmpty=false:=by cases h:x.state.toList with | nil=>exact absurd h hst | cons _ _=>rfl
        have S2:Hid (x.state.toList.isEmpty=!true):=Hd s2
        clear hst
        have HE:Hid (mayE x i=false):=Hd (by rw[hrest.out,restE_w x false false false false true (true) hnk.out T20.out T19.out N2.out S2.out A2.out];rfl)
        clear hrest
        go_wp2_with fail
        go_ret
        exact⟨by rw[HE.out];rfl,hbw.out⟩
      ·have n2:x.name.toList.isEmpty=false:=by cases h:x.name.toList with | nil=>exact absurd h hn | cons _ _=>rfl
       have N2:Hid (x.name.toList.isEmpty=!true):=Hd n2
       clear hn
       have S2:Hid (x.state.toList.isEmpty=!!x.state.toList.isEmpty):=Hd (by simp)
       have HE:Hid (mayE x i=false):=Hd (by rw[hrest.out,restE_w x false false false true (!x.state.toList.isEmpty) (true) hnk.out T20.out T19.out N2.out S2.out A2.out];rfl)
       clear hrest
       go_wp2_with fail
       go_ret
       exact⟨by rw[HE.out];rfl,hbw.out⟩
     ·have ua0:decide (0<na)=true:=qT (by omega)
      have ua1:decide ((0:Int)<(na:Int))=true:=qT (by omega)
      have HE:Hid (mayE x i=false):=Hd (mayE_args (by rw[hna.out];exact za) (fun h=>by have t:=T19.out;rw[h] at t;exact absurd t (by decide)))
      clear za
      go_wp2_with fail
      go_ret
      exact⟨by rw[HE.out];rfl,hbw.out⟩
    ·have uc:(x.c !=0)=true:=bne_iff_ne.2 zc
     have HE:Hid (mayE x i=false):=Hd (mayE_rest (p:=x.c) (by rw[hmo.out];simp) zc)
     clear zc
     go_wp2_with fail
     go_ret
     exact⟨by rw[HE.out];rfl,hbw.out⟩
   ·have ub:(x.b !=0)=true:=bne_iff_ne.2 zb
    have HE:Hid (mayE x i=false):=Hd (mayE_rest (p:=x.b) (by rw[hmo.out];simp) zb)
    clear zb
    go_wp2_with fail
    go_ret
    exact⟨by rw[HE.out];rfl,hbw.out⟩
theorem one_m2 (x:Ex) (o:Option Addr) (na cap:Nat) (hna:Hid (x.args.length=na)) (i:Nat) (w:World) (ha:Hid (IntsAt w (.slice o na cap) x.args)) (hp:Hid ((partsE x).length≤1000)) (q1:decide (x.kind<1)=false) (q2:decide (21<x.kind)=false)
  (hm:Hid (manyR x.kind=2)) (t3:(x.kind ==3)=false) (t19:(x.kind ==19)=false) (t20:(x.kind ==20)=false) (t2:decide (2<x.kind)=true) (t1:(x.kind ==1)=false) (hmv:Hid (mostV x.kind=0)) :
  Calls prog 14 #[.agg #[.int .i64 x.kind,.int .i64 x.a,.int .i64 x.b,.int .i64 x.c,.string x.name,.string x.state,.int .i64 x.v,.slice o na cap,.int .i64 x.pos],.int .i64 (i:Int)] w fun e w'=>MayPost (mayE x i) w e w':=by
 have hkk:Hid (1≤x.kind∧x.kind≤21):=Hd ⟨by have:=of_decide_eq_false q1;omega,by have:=of_decide_eq_false q2;omega⟩
 have T3:=Hd t3
 have T19:=Hd t19
 have T20:=Hd t20
 have T2:=Hd t2
 have T1:=Hd t1
 have hmo:Hid (manyOf x.kind=2):=Hd (by
  have h:=hm.out
  unfold manyR at h
  by_cases h19:x.kind=19
  ·rw[h19];first | rfl | (exfalso;rw[h19] at t19;exact absurd t19 (by decide))
  ·rw[if_neg h19] at h;first | omega | (exfalso;have t:=t19;simp at t;omega))
 have CM:Hid (∀w1,Calls prog 30 #[.int .i64 x.kind] w1 fun e w'=>e=.returned (.int .i64 (2))∧w1=w'):=Hd fun w1=>by rw[←hm.out];exact many_any _ _
 have CP:Hid (∀w1,Below w.heap.size w w1→Calls prog 29 #[.agg #[.int .i64 x.kind,.int .i64 x.a,.int .i64 x.b,.int .i64 x.c,.string x.name,.string x.state,.int .i64 x.v,.slice o na cap,.int .i64 x.pos]] w1 fun e w'=>NewInts (partsE x) w1 e w'):=Hd fun w1 h1=>refParts_any x _ w1 (ha.out.below h1) hp.out
 have hb0:=Hd (below_al (qB w.heap.size w) (.cells #[.int .i64 x.kind,.int .i64 x.a,.int .i64 x.b,.int .i64 x.c,.string x.name,.string x.state,.int .i64 x.v,.slice o na cap,.int .i64 x.pos] 48))
 have hB0:=Hd (World.alloc_heap_new w (.cells #[.int .i64 x.kind,.int .i64 x.a,.int .i64 x.b,.int .i64 x.c,.string x.name,.string x.state,.int .i64 x.v,.slice o na cap,.int .i64 x.pos] 48))
 go_enter Tryz.func14,Tryz.ntmps14
 go_wp2_with (first | (go_at_call 30;((with_reducible refine(CM.out _).mono ?_);rintro e w1 ⟨rfl,rfl⟩)) | (go_at_call 29;((with_reducible refine(CP.out _ hb0.out).mono ?_);rintro e w2 ⟨v',rfl,hown,hb2⟩;obtain⟨g,o',cap',rfl,hg1,hg2⟩:=own_ints hown;have HB2:=Hd hb2;have HG1:=Hd hg1;have HG2:=Hd hg2;clear hown hb2 hg1 hg2)))
 have hbw:=Hd (hb0.out.trans (HB2.out.mono hb0.out.size))
 have hBx:=Hd ((HB2.out.block _ (lt_of_heap hB0.out)).trans hB0.out)
 obtain⟨pn,hpn⟩:∃pn,pn=(partsE x).length:=⟨_,rfl⟩
 have HPN:=Hd hpn
 have hpl:(pn:Int)≤1000:=by have:=hp.out;omega
 rw[←hpn] at HG1 HG2 ⊢
 clear hpn CM CP hb0 hB0 HB2
 go_loop [7] (fun t=>∃j:Nat,t=.int .i64 j∧j≤pn∧Hid (∀u,u<j→partOk i ((partsE x).getD u 0)=true)) (fun t=>pn-litLen t)
 case atStart=>exact⟨0,rfl,Nat.zero_le _,Hd fun u hu=>by omega⟩
 case round =>
  obtain⟨j,rfl,hj,hok⟩:=hrel
  rcases Nat.lt_or_ge j pn with hlt | hge
  ·have q3:(j:Int)<(pn:Int):=by omega
   have ix:=ix_ints (off:=0) (cap:=cap') HG1.out hlt (by omega)
   unfold Ix at ix
   have cj:=HG2.out j hlt
   obtain⟨z,hz⟩:∃z,z=(partsE x).getD j 0:=⟨_,rfl⟩
   rw[←hz] at cj
   have HZ:=Hd hz
   have hmem:Hid (z ∈ partsE x):=Hd (by rw[hz,List.getD_eq_getElem?_getD,List.getElem?_eq_getElem (by have:=HPN.out;omega)];exact List.getElem_mem _)
   clear hz
   by_cases h1:z<0
   ·have u1:decide (z<0)=true:=qT h1
    have hbad:=Hd (mayE_parts (i:=i) hmem.out (by unfold partOk;rw[qF (show ¬0≤z by omega)];rfl))
    clear h1
    go_wp2_with fail
    go_ret
    exact⟨by rw[hbad.out];rfl,hbw.out⟩
   ·have u1:decide (z<0)=false:=qF h1
    by_cases h2:(i:Int)≤z
    ·have u2:decide ((i:Int)≤z)=true:=qT h2
     have hbad:=Hd (mayE_parts (i:=i) hmem.out (by unfold partOk;rw[qF (show ¬z<(i:Int) by omega)];simp))
     clear h1 h2
     go_wp2_with fail
     go_ret
     exact⟨by rw[hbad.out];rfl,hbw.out⟩
    ·have u2:decide ((i:Int)≤z)=false:=qF h2
     have hgood:=Hd (show partOk i z=true by unfold partOk;rw[qT (show 0≤z by omega),qT (show z<(i:Int) by omega)];rfl)
     clear h1 h2
     go_wp2_with fail
     go_round
     case rel=>exact⟨j+1,by first | omega | go_num,by omega,Hd fun u hu=>by
      rcases Nat.lt_or_ge u j with h | h
      ·exact hok.out u h
      ·obtain rfl:u=j:=by omega
       rw[←HZ.out];exact hgood.out⟩
     case measure=>simp[litLen];omega
  ·have q3:decide ((j:Int)<(pn:Int))=false:=qF (by omega)
   have hparts:Hid (∀p ∈ partsE x,partOk i p=true):=Hd (by
    intro p hpm
    obtain⟨u,hu,rfl⟩:=List.mem_iff_getElem.1 hpm
    have:=hok.out u (by have:=HPN.out;omega)
    rwa [List.getD_eq_getElem?_getD,List.getElem?_eq_getElem hu] at this)
   have d0:w2.cell? ⟨w.heap.size,0,none⟩=some (.int .i64 x.kind):=by simp[World.cell?,hBx.out]
   have d1:w2.cell? ⟨w.heap.size,1,none⟩=some (.int .i64 x.a):=by simp[World.cell?,hBx.out]
   have d2:w2.cell? ⟨w.heap.size,2,none⟩=some (.int .i64 x.b):=by simp[World.cell?,hBx.out]
   have d3:w2.cell? ⟨w.heap.size,3,none⟩=some (.int .i64 x.c):=by simp[World.cell?,hBx.out]
   have d4:w2.cell? ⟨w.heap.size,4,none⟩=some (.string x.name):=by simp[World.cell?,hBx.out]
   have d5:w2.cell? ⟨w.heap.size,5,none⟩=some (.string x.state):=by simp[World.cell?,hBx.out]
   have d6:w2.cell? ⟨w.heap.size,6,none⟩=some (.int .i64 x.v):=by simp[World.cell?,hBx.out]
   have d7:w2.cell? ⟨w.heap.size,7,none⟩=some (.slice o na cap):=by simp[World.cell?,hBx.out]
   have hnk:Hid (namedK x.kind=false):=Hd (by
    unfold namedK
    rw[show decide (x.kind=3)=false from T3.out,show decide (x.kind=19)=false from T19.out,show decide (x.kind=20)=false from T20.out];rfl)
   clear hok HG1 HG2
   by_cases zc:x.c=0
   ·have uc:(x.c !=0)=false:=by rw[zc];rfl
    have Zc:=Hd zc
    clear zc
    by_cases za:na=0
    ·have ua0:decide (0<na)=false:=qF (by omega)
     have ua1:decide ((0:Int)<(na:Int))=false:=qF (by omega)
     have A2:Hid (decide (x.args.length=0)=true):=Hd (qT (by rw[hna.out];exact za))
     clear za
     have hrest:Hid (mayE x i=restE x):=Hd (mayE_last hkk.out hparts.out (by
      rw[hmo.out]
      intro p hpm
      simp at hpm
      rcases hpm with rfl
      ·exact Zc.out))
     by_cases hn:x.name.toList=[]
     ·have n2:x.name.toList.isEmpty=true:=by rw[hn];rfl
      have N2:Hid (x.name.toList.isEmpty=!false):=Hd n2
      clear hn
      by_cases hst:x.state.toList=[]
      ·have s2:x.state.toList.isEmpty=true:=by rw[hst];rfl
       have S2:Hid (x.state.toList.isEmpty=!false):=Hd s2
       clear hst
       have HE:Hid (mayE x i=(x.v ==0)):=Hd (by rw[hrest.out,restE_w x false false false false false (true) hnk.out T20.out T19.out N2.out S2.out A2.out,hmv.out];exact v_zero x.v)
       clear hrest
       go_wp2_with fail
       go_ret
       exact⟨by rw[HE.out];rfl,hbw.out⟩
      ·have s2:x.state.toList.isEmpty=false:=by cases h:x.state.toList with | nil=>exact absurd h hst | cons _ _=>rfl
       have S2:Hid (x.state.toList.isEmpty=!true):=Hd s2
       clear hst
       have HE:Hid (mayE x i=false):=Hd (by rw[hrest.out,restE_w x false false false false true (true) hnk.out T20.out T19.out N2.out S2.out A2.out];rfl)
       clear hrest
       go_wp2_with fail
       go_ret
       exact⟨by rw[HE.out];rfl,hbw.out⟩
     ·have n2:x.name.toList.isEmpty=false:=by cases h:x.name.toList with | nil=>exact absurd h hn | cons _ _=>rfl
      have N2:Hid (x.name.toList.isEmpty=!true):=Hd n2
      clear hn
      have S2:Hid (x.state.toList.isEmpty=!!x.state.toList.isEmpty):=Hd (by simp)
      have HE:Hid (mayE x i=false):=Hd (by rw[hrest.out,restE_w x false false false true (!x.state.toList.isEmpty) (true) hnk.out T20.out T19.out N2.out S2.out A2.out];rfl)
      clear hrest
      go_wp2_with fail
      go_ret
      exact⟨by rw[HE.out];rfl,hbw.out⟩
    ·have ua0:decide (0<na)=true:=qT (by omega)
     have ua1:decide ((0:Int)<(na:Int))=true:=qT (by omega)
     have HE:Hid (mayE x i=false):=Hd (mayE_args (by rw[hna.out];exact za) (fun h=>by have t:=T19.out;rw[h] at t;exact absurd t (by decide)))
     clear za
     go_wp2_with fail
     go_ret
     exact⟨by rw[HE.out];rfl,hbw.out⟩
   ·have uc:(x.c !=0)=true:=bne_iff_ne.2 zc
    have HE:Hid (mayE x i=false):=Hd (mayE_rest (p:=x.c) (by rw[hmo.out];simp) zc)
    clear zc
    go_wp2_with fail
    go_ret
    exact⟨by rw[HE.out];rfl,hbw.out⟩
theorem one_m3 (x:Ex) (o:Option Addr) (na cap:Nat) (hna:Hid (x.args.length=na)) (i:Nat) (w:World) (ha:Hid (IntsAt w (.slice o na cap) x.args)) (hp:Hid ((partsE x).length≤1000)) (q1:decide (x.kind<1)=false) (q2:decide (21<x.kind)=false)
  (hm:Hid (manyR x.kind=3)) (t3:(x.kind ==3)=false) (t19:(x.kind ==19)=false) (t20:(x.kind ==20)=false) (t2:decide (2<x.kind)=true) (t1:(x.kind ==1)=false) (hmv:Hid (mostV x.kind=0)) :
  Calls prog 14 #[.agg #[.int .i64 x.kind,.int .i64 x.a,.int .i64 x.b,.int .i64 x.c,.string x.name,.string x.state,.int .i64 x.v,.slice o na cap,.int .i64 x.pos],.int .i64 (i:Int)] w fun e w'=>MayPost (mayE x i) w e w':=by
 have hkk:Hid (1≤x.kind∧x.kind≤21):=Hd ⟨by have:=of_decide_eq_false q1;omega,by have:=of_decide_eq_false q2;omega⟩
 have T3:=Hd t3
 have T19:=Hd t19
 have T20:=Hd t20
 have T2:=Hd t2
 have T1:=Hd t1
 have hmo:Hid (manyOf x.kind=3):=Hd (by
  have h:=hm.out
  unfold manyR at h
  by_cases h19:x.kind=19
  ·rw[h19];first | rfl | (exfalso;rw[h19] at t19;exact absurd t19 (by decide))
  ·rw[if_neg h19] at h;first | omega | (exfalso;have t:=t19;simp at t;omega))
 have CM:Hid (∀w1,Calls prog 30 #[.int .i64 x.kind] w1 fun e w'=>e=.returned (.int .i64 (3))∧w1=w'):=Hd fun w1=>by rw[←hm.out];exact many_any _ _
 have CP:Hid (∀w1,Below w.heap.size w w1→Calls prog 29 #[.agg #[.int .i64 x.kind,.int .i64 x.a,.int .i64 x.b,.int .i64 x.c,.string x.name,.string x.state,.int .i64 x.v,.slice o na cap,.int .i64 x.pos]] w1 fun e w'=>NewInts (partsE x) w1 e w'):=Hd fun w1 h1=>refParts_any x _ w1 (ha.out.below h1) hp.out
 have hb0:=Hd (below_al (qB w.heap.size w) (.cells #[.int .i64 x.kind,.int .i64 x.a,.int .i64 x.b,.int .i64 x.c,.string x.name,.string x.state,.int .i64 x.v,.slice o na cap,.int .i64 x.pos] 48))
 have hB0:=Hd (World.alloc_heap_new w (.cells #[.int .i64 x.kind,.int .i64 x.a,.int .i64 x.b,.int .i64 x.c,.string x.name,.string x.state,.int .i64 x.v,.slice o na cap,.int .i64 x.pos] 48))
 go_enter Tryz.func14,Tryz.ntmps14
 go_wp2_with (first | (go_at_call 30;((with_reducible refine(CM.out _).mono ?_);rintro e w1 ⟨rfl,rfl⟩)) | (go_at_call 29;((with_reducible refine(CP.out _ hb0.out).mono ?_);rintro e w2 ⟨v',rfl,hown,hb2⟩;obtain⟨g,o',cap',rfl,hg1,hg2⟩:=own_ints hown;have HB2:=Hd hb2;have HG1:=Hd hg1;have HG2:=Hd hg2;clear hown hb2 hg1 hg2)))
 have hbw:=Hd (hb0.out.trans (HB2.out.mono hb0.out.size))
 have hBx:=Hd ((HB2.out.block _ (lt_of_heap hB0.out)).trans hB0.out)
 obtain⟨pn,hpn⟩:∃pn,pn=(partsE x).length:=⟨_,rfl⟩
 have HPN:=Hd hpn
 have hpl:(pn:Int)≤1000:=by have:=hp.out;omega
 rw[←hpn] at HG1 HG2 ⊢
 clear hpn CM CP hb0 hB0 HB2
 go_loop [7] (fun t=>∃j:Nat,t=.int .i64 j∧j≤pn∧Hid (∀u,u<j→partOk i ((partsE x).getD u 0)=true)) (fun t=>pn-litLen t)
 case atStart=>exact⟨0,rfl,Nat.zero_le _,Hd fun u hu=>by omega⟩
 case round =>
  obtain⟨j,rfl,hj,hok⟩:=hrel
  rcases Nat.lt_or_ge j pn with hlt | hge
  ·have q3:(j:Int)<(pn:Int):=by omega
   have ix:=ix_ints (off:=0) (cap:=cap') HG1.out hlt (by omega)
   unfold Ix at ix
   have cj:=HG2.out j hlt
   obtain⟨z,hz⟩:∃z,z=(partsE x).getD j 0:=⟨_,rfl⟩
   rw[←hz] at cj
   have HZ:=Hd hz
   have hmem:Hid (z ∈ partsE x):=Hd (by rw[hz,List.getD_eq_getElem?_getD,List.getElem?_eq_getElem (by have:=HPN.out;omega)];exact List.getElem_mem _)
   clear hz
   by_cases h1:z<0
   ·have u1:decide (z<0)=true:=qT h1
    have hbad:=Hd (mayE_parts (i:=i) hmem.out (by unfold partOk;rw[qF (show ¬0≤z by omega)];rfl))
    clear h1
    go_wp2_with fail
    go_ret
    exact⟨by rw[hbad.out];rfl,hbw.out⟩
   ·have u1:decide (z<0)=false:=qF h1
    by_cases h2:(i:Int)≤z
    ·have u2:decide ((i:Int)≤z)=true:=qT h2
     have hbad:=Hd (mayE_parts (i:=i) hmem.out (by unfold partOk;rw[qF (show ¬z<(i:Int) by omega)];simp))
     clear h1 h2
     go_wp2_with fail
     go_ret
     exact⟨by rw[hbad.out];rfl,hbw.out⟩
    ·have u2:decide ((i:Int)≤z)=false:=qF h2
     have hgood:=Hd (show partOk i z=true by unfold partOk;rw[qT (show 0≤z by omega),qT (show z<(i:Int) by omega)];rfl)
     clear h1 h2
     go_wp2_with fail
     go_round
     case rel=>exact⟨j+1,by first | omega | go_num,by omega,Hd fun u hu=>by
      rcases Nat.lt_or_ge u j with h | h
      ·exact hok.out u h
      ·obtain rfl:u=j:=by omega
       rw[←HZ.out];exact hgood.out⟩
     case measure=>simp[litLen];omega
  ·have q3:decide ((j:Int)<(pn:Int))=false:=qF (by omega)
   have hparts:Hid (∀p ∈ partsE x,partOk i p=true):=Hd (by
    intro p hpm
    obtain⟨u,hu,rfl⟩:=List.mem_iff_getElem.1 hpm
    have:=hok.out u (by have:=HPN.out;omega)
    rwa [List.getD_eq_getElem?_getD,List.getElem?_eq_getElem hu] at this)
   have d0:w2.cell? ⟨w.heap.size,0,none⟩=some (.int .i64 x.kind):=by simp[World.cell?,hBx.out]
   have d1:w2.cell? ⟨w.heap.size,1,none⟩=some (.int .i64 x.a):=by simp[World.cell?,hBx.out]
   have d2:w2.cell? ⟨w.heap.size,2,none⟩=some (.int .i64 x.b):=by simp[World.cell?,hBx.out]
   have d3:w2.cell? ⟨w.heap.size,3,none⟩=some (.int .i64 x.c):=by simp[World.cell?,hBx.out]
   have d4:w2.cell? ⟨w.heap.size,4,none⟩=some (.string x.name):=by simp[World.cell?,hBx.out]
   have d5:w2.cell? ⟨w.heap.size,5,none⟩=some (.string x.state):=by simp[World.cell?,hBx.out]
   have d6:w2.cell? ⟨w.heap.size,6,none⟩=some (.int .i64 x.v):=by simp[World.cell?,hBx.out]
   have d7:w2.cell? ⟨w.heap.size,7,none⟩=some (.slice o na cap):=by simp[World.cell?,hBx.out]
   have hnk:Hid (namedK x.kind=false):=Hd (by
    unfold namedK
    rw[show decide (x.kind=3)=false from T3.out,show decide (x.kind=19)=false from T19.out,show decide (x.kind=20)=false from T20.out];rfl)
   clear hok HG1 HG2
   by_cases za:na=0
   ·have ua0:decide (0<na)=false:=qF (by omega)
    have ua1:decide ((0:Int)<(na:Int))=false:=qF (by omega)
    have A2:Hid (decide (x.args.length=0)=true):=Hd (qT (by rw[hna.out];exact za))
    clear za
    have hrest:Hid (mayE x i=restE x):=Hd (mayE_last hkk.out hparts.out (by
     rw[hmo.out]
     intro p hpm
     simp at hpm))
    by_cases hn:x.name.toList=[]
    ·have n2:x.name.toList.isEmpty=true:=by rw[hn];rfl
     have N2:Hid (x.name.toList.isEmpty=!false):=Hd n2
     clear hn
     by_cases hst:x.state.toList=[]
     ·have s2:x.state.toList.isEmpty=true:=by rw[hst];rfl
      have S2:Hid (x.state.toList.isEmpty=!false):=Hd s2
      clear hst
      have HE:Hid (mayE x i=(x.v ==0)):=Hd (by rw[hrest.out,restE_w x false false false false false (true) hnk.out T20.out T19.out N2.out S2.out A2.out,hmv.out];exact v_zero x.v)
      clear hrest
      go_wp2_with fail
      go_ret
      exact⟨by rw[HE.out];rfl,hbw.out⟩
     ·have s2:x.state.toList.isEmpty=false:=by cases h:x.state.toList with | nil=>exact absurd h hst | cons _ _=>rfl
      have S2:Hid (x.state.toList.isEmpty=!true):=Hd s2
      clear hst
      have HE:Hid (mayE x i=false):=Hd (by rw[hrest.out,restE_w x false false false false true (true) hnk.out T20.out T19.out N2.out S2.out A2.out];rfl)
      clear hrest
      go_wp2_with fail
      go_ret
      exact⟨by rw[HE.out];rfl,hbw.out⟩
    ·have n2:x.name.toList.isEmpty=false:=by cases h:x.name.toList with | nil=>exact absurd h hn | cons _ _=>rfl
     have N2:Hid (x.name.toList.isEmpty=!true):=Hd n2
     clear hn
     have S2:Hid (x.state.toList.isEmpty=!!x.state.toList.isEmpty):=Hd (by simp)
     have HE:Hid (mayE x i=false):=Hd (by rw[hrest.out,restE_w x false false false true (!x.state.toList.isEmpty) (true) hnk.out T20.out T19.out N2.out S2.out A2.out];rfl)
     clear hrest
     go_wp2_with fail
     go_ret
     exact⟨by rw[HE.out];rfl,hbw.out⟩
   ·have ua0:decide (0<na)=true:=qT (by omega)
    have ua1:decide ((0:Int)<(na:Int))=true:=qT (by omega)
    have HE:Hid (mayE x i=false):=Hd (mayE_args (by rw[hna.out];exact za) (fun h=>by have t:=T19.out;rw[h] at t;exact absurd t (by decide)))
    clear za
    go_wp2_with fail
    go_ret
    exact⟨by rw[HE.out];rfl,hbw.out⟩
theorem one_out (x:Ex) (o:Option Addr) (na cap:Nat) (i:Nat) (w:World) (h:¬(1≤x.kind∧x.kind≤21)) :
  Calls prog 14 #[.agg #[.int .i64 x.kind,.int .i64 x.a,.int .i64 x.b,.int .i64 x.c,.string x.name,.string x.state,.int .i64 x.v,.slice o na cap,.int .i64 x.pos],.int .i64 (i:Int)] w fun e w'=>MayPost (mayE x i) w e w':=by
 rw[mayE_kind h]
 by_cases h1:x.kind<1
 ·have q1:decide (x.kind<1)=true:=qT h1
  clear h h1
  go_enter Tryz.func14,Tryz.ntmps14
  go_wp2_with fail
  go_ret
  exact⟨rfl,below_al (qB _ _) _⟩
 ·have q1:decide (x.kind<1)=false:=qF h1
  have q2:decide (21<x.kind)=true:=qT (by omega)
  clear h h1
  go_enter Tryz.func14,Tryz.ntmps14
  go_wp2_with fail
  go_ret
  exact⟨rfl,below_al (qB _ _) _⟩
theorem one_any (x:Ex) (o:Option Addr) (cap:Nat) (i:Nat) (w:World) (ha:IntsAt w (.slice o x.args.length cap) x.args) (hk:ExOk x) (hp:(partsE x).length≤1000) :
  Calls prog 14 #[.agg #[.int .i64 x.kind,.int .i64 x.a,.int .i64 x.b,.int .i64 x.c,.string x.name,.string x.state,.int .i64 x.v,.slice o x.args.length cap,.int .i64 x.pos],.int .i64 (i:Int)] w fun e w'=>MayPost (mayE x i) w e w':=by
 by_cases h:1≤x.kind∧x.kind≤21
 ·have q1:decide (x.kind<1)=false:=qF (by omega)
  have q2:decide (21<x.kind)=false:=qF (by omega)
  by_cases h3:x.kind=3
  ·exact one_k3 x o _ cap (Hd rfl) i w (Hd ha) (Hd hp) q1 q2 (Hd (by rw[h3];rfl)) (by rw[h3];rfl) (by rw[h3];rfl) (by rw[h3];rfl) (by rw[h3];rfl) (by rw[h3];rfl) (Hd (by rw[h3];rfl))
  by_cases h19:x.kind=19
  ·exact one_k19 x o _ cap (Hd rfl) i w (Hd ha) (Hd hp) q1 q2 (Hd (by rw[h19];rfl)) (by rw[h19];rfl) (by rw[h19];rfl) (by rw[h19];rfl) (by rw[h19];rfl) (by rw[h19];rfl) (Hd (by rw[h19];rfl))
  by_cases h20:x.kind=20
  ·exact one_k20 x o _ cap (Hd rfl) i w (Hd ha) (Hd hp) q1 q2 (Hd (by rw[h20];rfl)) (by rw[h20];rfl) (by rw[h20];rfl) (by rw[h20];rfl) (by rw[h20];rfl) (by rw[h20];rfl) (Hd (by rw[h20];rfl))
  by_cases h1:x.kind=1
  ·exact one_k1 x o _ cap (Hd rfl) i w (Hd ha) (Hd hp) q1 q2 (Hd (by rw[h1];rfl)) (by rw[h1];rfl) (by rw[h1];rfl) (by rw[h1];rfl) (by rw[h1];rfl) (by rw[h1];rfl) (Hd hk.v.2) (Hd (by rw[h1];rfl))
  by_cases h2:x.kind=2
  ·exact one_k2 x o _ cap (Hd rfl) i w (Hd ha) (Hd hp) q1 q2 (Hd (by rw[h2];rfl)) (by rw[h2];rfl) (by rw[h2];rfl) (by rw[h2];rfl) (by rw[h2];rfl) (by rw[h2];rfl) (Hd (by rw[h2];rfl))
  have e3:(x.kind ==3)=false:=beq_false_of_ne h3
  have e19:(x.kind ==19)=false:=beq_false_of_ne h19
  have e20:(x.kind ==20)=false:=beq_false_of_ne h20
  have e1:(x.kind ==1)=false:=beq_false_of_ne h1
  have e2:decide (2<x.kind)=true:=qT (by omega)
  have hmv:mostV x.kind=0:=by unfold mostV;rw[if_neg h1,if_neg h2]
  have hR:manyR x.kind=(manyOf x.kind:Int):=by unfold manyR;rw[if_neg h19]
  have hM:manyOf x.kind=1∨manyOf x.kind=2∨manyOf x.kind=3:=by
   unfold manyOf
   by_cases m1:x.kind=4∨x.kind=5∨x.kind=16∨x.kind=21
   ·rw[if_pos m1];exact .inl rfl
   ·rw[if_neg m1]
    by_cases m2:(6≤x.kind∧x.kind≤14)∨x.kind=17∨x.kind=18
    ·rw[if_pos m2];exact .inr (.inl rfl)
    ·rw[if_neg m2,if_pos (by omega)];exact .inr (.inr rfl)
  rcases hM with hM | hM | hM
  ·exact one_m1 x o _ cap (Hd rfl) i w (Hd ha) (Hd hp) q1 q2 (Hd (by rw[hR,hM];rfl)) e3 e19 e20 e2 e1 (Hd hmv)
  ·exact one_m2 x o _ cap (Hd rfl) i w (Hd ha) (Hd hp) q1 q2 (Hd (by rw[hR,hM];rfl)) e3 e19 e20 e2 e1 (Hd hmv)
  ·exact one_m3 x o _ cap (Hd rfl) i w (Hd ha) (Hd hp) q1 q2 (Hd (by rw[hR,hM];rfl)) e3 e19 e20 e2 e1 (Hd hmv)
 ·exact one_out x o _ cap i w h
end Go.Proofs.YthpgfahlccljnaaGreatDoor
namespace Go.Proofs.YthpgfahlccljnaaGreatDoor
open Go.RowKit Go.Shelf
attribute [local go_sem] Oper.semAt_some
theorem mayAt_k3 (x:Ex) (s:Value) (i:Nat) (q1:decide (x.kind<1)=false) (q2:decide (21<x.kind)=false) (w:World) (ha:Hid (IntsAt w s x.args)) (hk:Hid (ExOk x)) (o:Option Addr) (na cap:Nat) (hs:Hid (s=.slice o na cap)) (hna:Hid (x.args.length=na)) (t3:Hid ((x.kind ==3)=true)) (t19:Hid ((x.kind ==19)=false)) (t20:Hid ((x.kind ==20)=false)) :
  CallsIn Fence.wide 5 prog 31 #[exV x s,.int .i64 (i:Int)] w fun e w'=>MayPost (mayE x i) w e w':=by
 unfold exV
 have hkk:1≤x.kind∧x.kind≤21:=⟨by have:=of_decide_eq_false q1;omega,by have:=of_decide_eq_false q2;omega⟩
 have HKK:=Hd hkk
 clear hkk
 unfold exCells
 refine callsIn_of_wp_marks Tryz.func31 rfl trivial ?_ rfl
 simp only[Tryz.ntmps31,List.size_toArray,List.length_cons,List.length_nil,Nat.reduceAdd,Nat.reduceSub,Array.replicate_succ,Array.replicate_zero,List.push_toArray,List.append_toArray,List.nil_append,List.cons_append]
 gi_wp2_with (refine⟨trivial,?_⟩;gi_at_call 57;((with_reducible refine(callsIn_wide.2 (parts_any _ _ _ _ _ _ _ _ _ _)).mono ?_);rintro e w2 ⟨rfl,rfl⟩))
 obtain⟨f1,f2,f3,f4,fb,fz⟩:=four w (.cells (exCells x s) 48) (.cells #[.int .i64 (i:Int)] 3) (.cells #[.bool false] 4) (.cells (exCells x s) 48)
 unfold exCells at f1 f2 f3 f4 fb fz
 have FZ:=Hd fz
 have hAr:Hid (Around (fun j=>j=w.heap.size+2) (fun _=>none) ((((w.alloc (.cells (exCells x s) 48)).alloc (.cells #[.int .i64 (i:Int)] 3)).alloc (.cells #[.bool false] 4)).alloc (.cells (exCells x s) 48))) :=
  Hd ⟨fun j hj=>by subst hj;unfold exCells;rw[fz];omega,fun j hj=>(by cases hj),fun W hW=>rfl⟩
 have hSr:Hid (Srcs ((((w.alloc (.cells (exCells x s) 48)).alloc (.cells #[.int .i64 (i:Int)] 3)).alloc (.cells #[.bool false] 4)).alloc (.cells (exCells x s) 48)) x (w.heap.size+1+1+1) (fun j=>j=w.heap.size+2∨(none:Option Nat)=some j)) :=
  Hd (srcs_of ha.out hk.out fb f4 (fun k hk=>by rcases hk with rfl | h;omega;cases h) (fun h=>by rcases h with h | h;omega;cases h))
 have hinv:Hid (MInv x s i w [] ((((w.alloc (.cells (exCells x s) 48)).alloc (.cells #[.int .i64 (i:Int)] 3)).alloc (.cells #[.bool false] 4)).alloc (.cells (exCells x s) 48))) :=
  Hd ⟨⟨f1,f2,f3⟩,(fun p h=>by simp at h),fb,by unfold exCells;rw[fz];exact qL _⟩
 have hIo:=Hd (minv_own x s i w)
 have hLo:=Hd (mleft_own x i w)
 unfold exCells at hAr hSr hinv
 rw[←fz] at hIo hLo
 clear f1 f2 f3 f4 fb fz
 unfold partsV
 refine wpIn_rangeFunc_ownG (α:=PartOf x) rfl (by decide) (gf:=75) (lb:=#[.pointer (some ⟨w.heap.size+1+1+1,0,none⟩)]) rfl trivial (enters_of Tryz.func75 (by kernel_rfl) rfl)
  (parts_stops 4 (by decide) x _ _ _ _ hAr.out hSr.out) (fun h k=>h.trans k) (fun W l o o' h1 h2 h3 _=>keepM_none W l o o' h1 h2 h3) (qB _ _) (fun _=>rfl)
  (MInv x s i w) (MLeft x i w) hIo.out hLo.out hinv.out
  (fun p=>{ tmps:=#[.agg #[.int .i64 x.kind,.int .i64 x.a,.int .i64 x.b,.int .i64 x.c,.string x.name,.string x.state,.int .i64 x.v,s,.int .i64 x.pos],.int .i64 (i:Int),.pointer (some ⟨w.heap.size,0,none⟩),.pointer (some ⟨w.heap.size+1,0,none⟩),.pointer (some ⟨w.heap.size+1+1,0,none⟩),.int .i64 p.1,undef,undef,undef,undef,.pointer (some ⟨w.heap.size,0,none⟩),.int .i64 x.kind,.bool false,.bool false,.pointer (some ⟨w.heap.size,0,none⟩),.int .i64 x.kind,.bool false,.bool false,.agg #[.int .i64 x.kind,.int .i64 x.a,.int .i64 x.b,.int .i64 x.c,.string x.name,.string x.state,.int .i64 x.v,s,.int .i64 x.pos],.func (.func 75) #[] #[.pointer (some ⟨w.heap.size+1+1+1,0,none⟩)],.int .i64 p.1,undef,undef,undef,undef,undef,undef,undef,undef,undef,undef,undef,undef,undef,undef,undef,undef,undef,undef,undef,undef,undef,undef,undef,undef,undef,undef,undef,undef,undef,undef,undef,undef,undef,undef,undef,undef,undef,undef,undef,undef,undef,undef,undef,undef,undef,undef,undef,undef,undef,undef,undef,undef,undef,undef,undef,undef,undef,undef,undef,undef,undef,undef,undef,undef,undef,undef,undef,undef,undef,undef,undef,undef,undef,undef,undef,undef,undef],defers:=[] }) ?assign ?body ?done ?stop
 case assign =>
  rintro lp p W K hK
  gi_wp2
  exact hK
 case body =>
  rintro lp pre p W ⟨⟨m1,m2,m3⟩,hg,hb,hz⟩ hlt
  have cI:W.cell? ⟨w.heap.size+1,0,none⟩=some (.int .i64 (i:Int)):=by simp[World.cell?,m2]
  have cR:W.cell? ⟨w.heap.size+1+1,0,none⟩=some (.bool false):=by simp[World.cell?,m3]
  have fR:W.frozen? ⟨w.heap.size+1+1,0,none⟩=false:=by simp[World.frozen?,m3]
  obtain⟨p,hpm⟩:=p
  dsimp only
  have M1:=Hd m1
  have M2:=Hd m2
  have M3:=Hd m3
  have HG:=Hd hg
  have HB:=Hd hb
  have HZ:=Hd hz
  clear m1 m2 m3 hg hb hz hlt
  have left:partOk i p=false→MLeft x i w .ret (pre++[⟨p,hpm⟩]) (W.setCell ⟨w.heap.size+1+1,0,none⟩ (.bool false)):=fun hp =>
   ⟨rfl,set_heap M3.out 0 _,⟨⟨p,hpm⟩,by simp,hp⟩,HB.out.setCell (p:=⟨w.heap.size+1+1,0,none⟩) (Nat.le_trans (Nat.le_succ _) (Nat.le_succ _)) _,Nat.le_trans HZ.out ((qB 0 W).setCell (p:=⟨w.heap.size+1+1,0,none⟩) (Nat.zero_le _) _).size⟩
  by_cases h1:p<0
  ·have t1:decide (p<0)=true:=qT h1
   gi_wp2
   exact⟨(KeepsOthers.setCell _ _ _).from _,left (by unfold partOk;rw[qF (show ¬0≤p by omega)];rfl)⟩
  ·have t1:decide (p<0)=false:=qF h1
   by_cases h2:(i:Int)≤p
   ·have t2:decide ((i:Int)≤p)=true:=qT h2
    gi_wp2
    exact⟨(KeepsOthers.setCell _ _ _).from _,left (by unfold partOk;rw[qF (show ¬p<(i:Int) by omega)];simp)⟩
   ·have t2:decide ((i:Int)≤p)=false:=qF h2
    clear left
    gi_wp2
    refine⟨(KeepsOthers.refl W).from _,⟨qL _,fun _ _ _ _ _=>rfl,fun _ h=>.inl h⟩,⟨M1.out,M2.out,M3.out⟩,fun y hy=>?_,HB.out,HZ.out⟩
    rcases List.mem_append.1 hy with h | h
    ·exact HG.out y h
    ·rw[List.mem_singleton] at h;subst h;unfold partOk;rw[qT (show 0≤p by omega),qT (show p<(i:Int) by omega)];rfl
 case done =>
  rintro D ys W hD hys ⟨⟨m1,m2,m3⟩,hg,hb,hz⟩ hK
  have d0:W.cell? ⟨w.heap.size,0,none⟩=some (.int .i64 x.kind):=by simp[World.cell?,m1,exCells]
  have d1:W.cell? ⟨w.heap.size,1,none⟩=some (.int .i64 x.a):=by simp[World.cell?,m1,exCells]
  have d2:W.cell? ⟨w.heap.size,2,none⟩=some (.int .i64 x.b):=by simp[World.cell?,m1,exCells]
  have d3:W.cell? ⟨w.heap.size,3,none⟩=some (.int .i64 x.c):=by simp[World.cell?,m1,exCells]
  have hmn:=manyOf_le x.kind
  have hparts:Hid (∀p ∈ partsE x,partOk i p=true):=Hd (by
   intro p hp
   rw[←hys] at hp
   obtain⟨y,hy,rfl⟩:=List.mem_map.1 hp
   exact hg y hy)
  obtain⟨m,hm⟩:∃m,m=manyOf x.kind:=⟨_,rfl⟩
  obtain⟨o3,ho3⟩:∃o3,o3=(if m=3 then 0 else m):=⟨_,rfl⟩
  rw[←hm] at hmn
  have hsl:=slice_from W.heap.size m hmn
  obtain⟨r,hr⟩:∃r,r=3-m:=⟨_,rfl⟩
  rw[←ho3,←hr] at hsl
  have hr3:r+m≤3:=by omega
  have hr4:3≤r+m:=by omega
  have hrl:(r:Int)≤3:=by omega
  have cR:W.cell? ⟨w.heap.size+1+1,0,none⟩=some (.bool false):=by simp[World.cell?,m3]
  have fR:W.frozen? ⟨w.heap.size+1+1,0,none⟩=false:=by simp[World.frozen?,m3]
  have d4:W.cell? ⟨w.heap.size,4,none⟩=some (.string x.name):=by simp[World.cell?,m1,exCells]
  have d5:W.cell? ⟨w.heap.size,5,none⟩=some (.string x.state):=by simp[World.cell?,m1,exCells]
  have d6:W.cell? ⟨w.heap.size,6,none⟩=some (.int .i64 x.v):=by simp[World.cell?,m1,exCells]
  have D7:W.cell? ⟨w.heap.size,7,none⟩=some s:=by simp[World.cell?,m1,exCells]
  have hfin:Hid (∀b:Bool,b=mayE x i→MayEnd x i w D W b):=Hd fun b hb1=>may_end x i w D W b hb1 hb (by have:w.heap.size+4=_:=rfl;rw[World.size_alloc,World.size_alloc,World.size_alloc,World.size_alloc] at hD;omega) m3 hK
  have HM:=Hd hm
  have HO3:=Hd ho3
  have M1:=Hd m1
  have M3:=Hd m3
  have HB:=Hd hb
  have HZ:=Hd hz
  have HK:=Hd hK
  have HD:=Hd hD
  have HF:Hid (∀w',Calls prog 58 #[.int .i64 x.kind] w' fun e w''=>e=.returned (.int .i64 (m:Int))∧w'=w''):=Hd fun w'=>by rw[hm];exact fixed_any _ _
  have z0:w.heap.size<W.heap.size:=by omega
  have z2:w.heap.size+1+1<W.heap.size:=by omega
  clear m1 m2 m3 hb hz hK hg hys hm ho3 hD hr
  gi_wp2_with (refine⟨trivial,?_⟩;gi_at_call 58;((with_reducible refine(callsIn_wide.2 (HF.out _)).mono ?_);rintro e w1 ⟨rfl,rfl⟩))
  rw[hs.out] at D7
  have D7':=Hd D7
  clear D7
  refine wpIn_wide.2 ?_
  go_loop [40] (fun t=>∃j:Nat,t=.int .i64 j∧j≤r∧Hid (∀u,u<j→[x.a,x.b,x.c].getD (m+u) 0=0)) (fun t=>r-litLen t)
  case atStart=>exact⟨0,rfl,Nat.zero_le _,Hd fun u hu=>by omega⟩
  case round =>
   obtain⟨j,rfl,hj,hz⟩:=hrel
   rcases Nat.lt_or_ge j r with hlt | hge
   ·have q3:(j:Int)<(r:Int):=by omega
    obtain⟨z,hz1⟩:∃z,z=[x.a,x.b,x.c].getD (m+j) 0:=⟨_,rfl⟩
    have xj:(W.alloc (.cells #[.int .i64 x.a,.int .i64 x.b,.int .i64 x.c] 104)).cell? ⟨W.heap.size,o3+j,none⟩=some (.int .i64 z):=by
     rw[World.cell?_alloc_new,HO3.out,if_neg (by omega),hz1]
     match m+j,(show m+j<3 by omega) with
     | 0,_=>rfl
     | 1,_=>rfl
     | 2,_=>rfl
    have HZ1:=Hd hz1
    clear hz1
    by_cases hz0:z=0
    ·subst hz0
     go_wp2_with fail
     go_round
     case rel=>exact⟨j+1,by first | omega | go_num,by omega,Hd fun u hu=>by
      rcases Nat.lt_or_ge u j with h | h
      ·exact hz.out u h
      ·obtain rfl:u=j:=by omega
       exact HZ1.out.symm⟩
     case measure=>simp[litLen];omega
    ·have t1:(z !=0)=true:=bne_iff_ne.2 hz0
     have hbad:mayE x i=false:=mayE_rest (p:=z) (by rw[←HM.out,HZ1.out];exact drop_mem (by show m+j<3;omega)) hz0
     have HF2:=Hd (hfin.out false hbad.symm)
     clear hbad
     go_wp2_with fail
     obtain⟨y0,y1,y2⟩:=HF2.out 0
     have y0':(((W.setCell ⟨w.heap.size+1+1,0,none⟩ (.bool false)).alloc (.cells #[.int .i64 x.a,.int .i64 x.b,.int .i64 x.c] 104)).putObj D (.deferred none)).cell? ⟨w.heap.size+1+1,0,none⟩=some (.bool false):=y0
     exact⟨by simp,.inl ⟨_,_,rfl,run_takeDeferred y1,.bool false,by simp[results,Tryz.results31,go_sem,y0'],y2⟩⟩
   ·have q3:decide ((j:Int)<(r:Int))=false:=qF (by omega)
    have hrest:Hid (mayE x i=restE x):=Hd (mayE_last HKK.out hparts.out (by
     intro p hp
     have hz':∀u,u<j→[x.a,x.b,x.c].getD (manyOf x.kind+u) 0=0:=by rw[←HM.out];exact hz.out
     have hj2:3≤j+manyOf x.kind:=by rw[←HM.out];omega
     obtain⟨t,ht,rfl⟩:=List.mem_iff_getElem.1 hp
     rw[List.length_drop] at ht
     have ht3:t<3-manyOf x.kind:=ht
     have h1:=hz' t (by omega)
     rw[List.getD_eq_getElem?_getD,List.getElem?_eq_getElem (by show _<3;omega)] at h1
     rw[List.getElem_drop]
     exact h1))
    have d7:=D7'.out
    have T3:=t3.out
    have T19:=t19.out
    have T20:=t20.out
    have hnk:Hid (namedK x.kind=true):=Hd (by
     unfold namedK
     rw[show decide (x.kind=3)=true from t3.out,show decide (x.kind=19)=false from t19.out,show decide (x.kind=20)=false from t20.out];rfl)
    clear hsl hAr hSr hinv hIo hLo FZ HD HZ HB M1 M3 HF HM HO3 hparts hz HKK hr3 hr4 hmn d1 d2 d3
    by_cases hn:x.name.toList=[]
    ·have n2:x.name.toList.isEmpty=true:=by rw[hn];rfl
     have N2:Hid (x.name.toList.isEmpty=!false):=Hd n2
     clear hn
     have S2:Hid (x.state.toList.isEmpty=!!x.state.toList.isEmpty):=Hd (by simp)
     have A2:Hid (decide (x.args.length=0)=decide (x.args.length=0)):=Hd rfl
     have HE:=Hd (hfin.out (false) (by rw[hrest.out,restE_w x true false false (false) (!x.state.toList.isEmpty) (decide (x.args.length=0)) hnk.out t20.out t19.out N2.out S2.out A2.out];rfl))
     clear hfin hrest
     go_wp2_with fail
     refine wpIn_wide.2 ?_
     go_wp2_with fail
     refine tail_by_quiet 38 (by kernel_rfl) (by kernel_rfl) ?_
     simp only[List.take_succ_cons,List.take_zero,List.drop_succ_cons,List.drop_zero]
     repeat (go_big_quiet_step (fail))
     refine wpQuiet_nil ?_
     go_wp2_with fail
     obtain⟨y0,y1,y2⟩:=HE.out 1
     have y0':((((W.setCell ⟨w.heap.size+1+1,0,none⟩ (.bool (false))).alloc (.cells #[.int .i64 x.a,.int .i64 x.b,.int .i64 x.c] 104)).drew).putObj D (.deferred none)).cell? ⟨w.heap.size+1+1,0,none⟩=some (.bool (false)):=y0
     exact⟨by simp,.inl ⟨_,_,rfl,run_takeDeferred y1,.bool (false),by simp[results,Tryz.results31,go_sem,y0'],y2⟩⟩
    ·have n2:x.name.toList.isEmpty=false:=by cases h:x.name.toList with | nil=>exact absurd h hn | cons _ _=>rfl
     have N2:Hid (x.name.toList.isEmpty=!true):=Hd n2
     clear hn
     by_cases hst:x.state.toList=[]
     ·have s2:x.state.toList.isEmpty=true:=by rw[hst];rfl
      have S2:Hid (x.state.toList.isEmpty=!false):=Hd s2
      clear hst
      by_cases ha0:na=0
      ·have a2:((na:Int) ==0)=true:=by rw[ha0];rfl
       have A2:Hid (decide (x.args.length=0)=true):=Hd (qT (by rw[hna.out];exact ha0))
       clear ha0
       by_cases hv:0≤x.v
       ·have v2:decide (0≤x.v)=true:=qT hv
        have V2:=Hd v2
        clear hv
        have HE:=Hd (hfin.out (decide (x.v≤mostV x.kind)) (by rw[hrest.out,restE_w x true false false (true) (false) (true) hnk.out t20.out t19.out N2.out S2.out A2.out];rw[V2.out];simp))
        clear hfin hrest
        go_wp2_with fail
        refine wpIn_wide.2 ?_
        go_wp2_with fail
        refine tail_by_quiet 38 (by kernel_rfl) (by kernel_rfl) ?_
        simp only[List.take_succ_cons,List.take_zero,List.drop_succ_cons,List.drop_zero]
        repeat (go_big_quiet_step (fail))
        go_big_quiet_want
        go_big_quiet_op
        apply Exists.intro
        refine⟨by exact(mostV_any x.kind _).mono fun e w'' h=>⟨h.1,h.2.symm⟩,?_⟩
        go_big_quiet_on
        repeat (go_big_quiet_step (fail))
        refine wpQuiet_nil ?_
        go_wp2_with fail
        obtain⟨y0,y1,y2⟩:=HE.out 1
        have y0':((((W.setCell ⟨w.heap.size+1+1,0,none⟩ (.bool (decide (x.v≤mostV x.kind)))).alloc (.cells #[.int .i64 x.a,.int .i64 x.b,.int .i64 x.c] 104)).drew).putObj D (.deferred none)).cell? ⟨w.heap.size+1+1,0,none⟩=some (.bool (decide (x.v≤mostV x.kind))):=y0
        exact⟨by simp,.inl ⟨_,_,rfl,run_takeDeferred y1,.bool (decide (x.v≤mostV x.kind)),by simp[results,Tryz.results31,go_sem,y0'],y2⟩⟩
       ·have v2:decide (0≤x.v)=false:=qF hv
        have V2:=Hd v2
        clear hv
        have HE:=Hd (hfin.out (false) (by rw[hrest.out,restE_w x true false false (true) (false) (true) hnk.out t20.out t19.out N2.out S2.out A2.out];rw[V2.out];simp))
        clear hfin hrest
        go_wp2_with fail
        refine wpIn_wide.2 ?_
        go_wp2_with fail
        refine tail_by_quiet 38 (by kernel_rfl) (by kernel_rfl) ?_
        simp only[List.take_succ_cons,List.take_zero,List.drop_succ_cons,List.drop_zero]
        repeat (go_big_quiet_step (fail))
        refine wpQuiet_nil ?_
        go_wp2_with fail
        obtain⟨y0,y1,y2⟩:=HE.out 1
        have y0':((((W.setCell ⟨w.heap.size+1+1,0,none⟩ (.bool (false))).alloc (.cells #[.int .i64 x.a,.int .i64 x.b,.int .i64 x.c] 104)).drew).putObj D (.deferred none)).cell? ⟨w.heap.size+1+1,0,none⟩=some (.bool (false)):=y0
        exact⟨by simp,.inl ⟨_,_,rfl,run_takeDeferred y1,.bool (false),by simp[results,Tryz.results31,go_sem,y0'],y2⟩⟩
      ·have a2:((na:Int) ==0)=false:=beq_false_of_ne (by omega)
       have A2:Hid (decide (x.args.length=0)=false):=Hd (qF (by rw[hna.out];exact ha0))
       clear ha0
       have HE:=Hd (hfin.out (false) (by rw[hrest.out,restE_w x true false false (true) (false) (false) hnk.out t20.out t19.out N2.out S2.out A2.out];simp))
       clear hfin hrest
       go_wp2_with fail
       refine wpIn_wide.2 ?_
       go_wp2_with fail
       refine tail_by_quiet 38 (by kernel_rfl) (by kernel_rfl) ?_
       simp only[List.take_succ_cons,List.take_zero,List.drop_succ_cons,List.drop_zero]
       repeat (go_big_quiet_step (fail))
       refine wpQuiet_nil ?_
       go_wp2_with fail
       obtain⟨y0,y1,y2⟩:=HE.out 1
       have y0':((((W.setCell ⟨w.heap.size+1+1,0,none⟩ (.bool (false))).alloc (.cells #[.int .i64 x.a,.int .i64 x.b,.int .i64 x.c] 104)).drew).putObj D (.deferred none)).cell? ⟨w.heap.size+1+1,0,none⟩=some (.bool (false)):=y0
       exact⟨by simp,.inl ⟨_,_,rfl,run_takeDeferred y1,.bool (false),by simp[results,Tryz.results31,go_sem,y0'],y2⟩⟩
     ·have s2:x.state.toList.isEmpty=false:=by cases h:x.state.toList with | nil=>exact absurd h hst | cons _ _=>rfl
      have S2:Hid (x.state.toList.isEmpty=!true):=Hd s2
      clear hst
      have A2:Hid (decide (x.args.length=0)=decide (x.args.length=0)):=Hd rfl
      have HE:=Hd (hfin.out (false) (by rw[hrest.out,restE_w x true false false (true) (true) (decide (x.args.length=0)) hnk.out t20.out t19.out N2.out S2.out A2.out];rfl))
      clear hfin hrest
      go_wp2_with fail
      refine wpIn_wide.2 ?_
      go_wp2_with fail
      refine tail_by_quiet 38 (by kernel_rfl) (by kernel_rfl) ?_
      simp only[List.take_succ_cons,List.take_zero,List.drop_succ_cons,List.drop_zero]
      repeat (go_big_quiet_step (fail))
      refine wpQuiet_nil ?_
      go_wp2_with fail
      obtain⟨y0,y1,y2⟩:=HE.out 1
      have y0':((((W.setCell ⟨w.heap.size+1+1,0,none⟩ (.bool (false))).alloc (.cells #[.int .i64 x.a,.int .i64 x.b,.int .i64 x.c] 104)).drew).putObj D (.deferred none)).cell? ⟨w.heap.size+1+1,0,none⟩=some (.bool (false)):=y0
      exact⟨by simp,.inl ⟨_,_,rfl,run_takeDeferred y1,.bool (false),by simp[results,Tryz.results31,go_sem,y0'],y2⟩⟩
 case stop =>
  rintro D c pre W hD hpre ⟨rfl,hres,⟨p,hp,hbad⟩,hb,hz⟩ hK
  gi_wp2
  refine⟨by simp,.inl ⟨_,_,rfl,run_takeDeferred hK,?_⟩⟩
  have hDr:w.heap.size+2≠D:=by rintro rfl;rw[hres] at hK;cases hK
  have y0:(W.putObj D (.deferred none)).cell? ⟨w.heap.size+1+1,0,none⟩=some (.bool false):=by
   have h:(W.putObj D (.deferred none)).heap[w.heap.size+2]?=_:=(World.putObj_heap_other hDr).trans hres
   simp[World.cell?,h]
  rw[mayE_parts p.2 hbad]
  refine⟨.bool false,by simp[results,Tryz.results31,go_sem,y0],rfl,hb.trans ?_⟩
  exact(belowK_b (w:=w) (qL _) W D _ _ (by rw[World.size_alloc,World.size_alloc,World.size_alloc,World.size_alloc] at hD;omega) hK rfl rfl)
end Go.Proofs.YthpgfahlccljnaaGreatDoor
