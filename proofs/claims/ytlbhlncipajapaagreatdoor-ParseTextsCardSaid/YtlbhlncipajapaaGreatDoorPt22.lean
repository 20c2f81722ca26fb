import Derived.Test.YtlbhlncipajapaaGreatDoorPt21
import Derived.Lib.QuietBelow
set_option maxHeartbeats 16000000
set_option maxRecDepth 100000
open Go.Proofs.Tryz(prog)
namespace Go.Proofs.YtlbhlncipajapaaGreatDoor
open Go.RowKit
theorem one_m1 (x:Ex) (o:Option Addr) (na cap:Nat) (hna:Hid (x.args.length=na)) (i:Nat) (w:World) (ha:Hid (IntsAt w (.slice o na cap) x.args)) (hp:Hid ((partsE x).length≤40000)) (q1:decide (x.kind<1)=false) (q2:decide (21<x.kind)=false)
  (hm:Hid (manyR x.kind=1)) (t3:(x.kind ==3)=false) (t19:(x.kind ==19)=false) (t20:(x.kind ==20)=false) (t2:decide (2<x.kind)=true) (t1:(x.kind ==1)=false) (hmv:Hid (mostV x.kind=0)) :
  Calls prog 22 #[.agg #[.int .i64 x.kind,.int .i64 x.a,.int .i64 x.b,.int .i64 x.c,.string x.name,.string x.state,.int .i64 x.v,.slice o na cap,.int .i64 x.pos],.int .i64 (i:Int)] w fun e w'=>MayPost (mayE x i) w e w':=by
 have hkk:Hid (1≤x.kind∧x.kind≤21):=Hd ⟨by have:=of_decide_eq_false q1;omega,by have:=of_decide_eq_false q2;omega⟩
 have T3:=Hd t3
 have T19:=Hd t19
 have T20:=Hd t20
 have T2:=Hd t2
 have T1:=Hd t1
 have hmo:Hid (manyOf x.kind=1):=Hd (by
  have h:=hm.out
  unfold manyR at h
  by_cases h19:x.kind=19
  ·rw[h19];first | rfl | (exfalso;rw[h19] at t19;exact absurd t19 (by decide))
  ·rw[if_neg h19] at h;first | omega | (exfalso;have t:=t19;simp at t;omega))
 have CM:Hid (∀w1,Calls prog 45 #[.int .i64 x.kind] w1 fun e w'=>e=.returned (.int .i64 (1))∧w1=w'):=Hd fun w1=>by rw[←hm.out];exact many_any _ _
 have CP:Hid (∀w1,Below w.heap.size w w1→Calls prog 46 #[.agg #[.int .i64 x.kind,.int .i64 x.a,.int .i64 x.b,.int .i64 x.c,.string x.name,.string x.state,.int .i64 x.v,.slice o na cap,.int .i64 x.pos]] w1 fun e w'=>NewInts (partsE x) w1 e w'):=Hd fun w1 h1=>refParts_any x _ w1 (ha.out.below h1) hp.out
 have hb0:=Hd (below_al (qB w.heap.size w) (.cells #[.int .i64 x.kind,.int .i64 x.a,.int .i64 x.b,.int .i64 x.c,.string x.name,.string x.state,.int .i64 x.v,.slice o na cap,.int .i64 x.pos] 46))
 have hB0:=Hd (World.alloc_heap_new w (.cells #[.int .i64 x.kind,.int .i64 x.a,.int .i64 x.b,.int .i64 x.c,.string x.name,.string x.state,.int .i64 x.v,.slice o na cap,.int .i64 x.pos] 46))
 go_enter Tryz.func22,Tryz.ntmps22
 go_wp2_with (first | (go_at_call 45;((with_reducible refine(CM.out _).mono ?_);rintro e w1 ⟨rfl,rfl⟩)) | (go_at_call 46;((with_reducible refine(CP.out _ hb0.out).mono ?_);rintro e w2 ⟨v',rfl,hown,hb2⟩;obtain⟨g,o',cap',rfl,hg1,hg2⟩:=own_ints hown;have HB2:=Hd hb2;have HG1:=Hd hg1;have HG2:=Hd hg2;clear hown hb2 hg1 hg2)))
 have hbw:=Hd (hb0.out.trans (HB2.out.mono hb0.out.size))
 have hBx:=Hd ((HB2.out.block _ (lt_of_heap hB0.out)).trans hB0.out)
 obtain⟨pn,hpn⟩:∃pn,pn=(partsE x).length:=⟨_,rfl⟩
 have HPN:=Hd hpn
 have hpl:(pn:Int)≤40000:=by have:=hp.out;omega
 rw[←hpn] at HG1 HG2 ⊢
 clear hpn CM CP hb0 hB0 HB2
 go_loop [7] (fun t=>∃j:Nat,t=.int .i64 j∧j≤pn∧Hid (∀u,u<j→partOk i ((partsE x).getD u 0)=true)) (fun t=>pn-litLen t)
 case atStart=>exact⟨0,rfl,Nat.zero_le _,Hd fun u hu=>by omega⟩
 case round =>
  obtain⟨j,rfl,hj,hok⟩:=hrel
  rcases Nat.lt_or_ge j pn with hlt | hge
  ·have q3:(j:Int)<(pn:Int):=by omega
   have ix:=ix_ints (off:=0) (cap:=cap') HG1.out hlt (by omega)
   unfold Ix at ix
   have cj:=HG2.out j hlt
   obtain⟨z,hz⟩:∃z,z=(partsE x).getD j 0:=⟨_,rfl⟩
   rw[←hz] at cj
   have HZ:=Hd hz
   have hmem:Hid (z ∈ partsE x):=Hd (by rw[hz,List.getD_eq_getElem?_getD,List.getElem?_eq_getElem (by have:=HPN.out;omega)];exact List.getElem_mem _)
   clear hz
   by_cases h1:z<0
   ·have u1:decide (z<0)=true:=qT h1
    have hbad:=Hd (mayE_parts (i:=i) hmem.out (by unfold partOk;rw[qF (show ¬0≤z by omega)];rfl))
    clear h1
    go_wp2_with fail
    go_ret
    exact⟨by rw[hbad.out];rfl,hbw.out⟩
   ·have u1:decide (z<0)=false:=qF h1
    by_cases h2:(i:Int)≤z
    ·have u2:decide ((i:Int)≤z)=true:=qT h2
     have hbad:=Hd (mayE_parts (i:=i) hmem.out (by unfold partOk;rw[qF (show ¬z<(i:Int) by omega)];simp))
     clear h1 h2
     go_wp2_with fail
     go_ret
     exact⟨by rw[hbad.out];rfl,hbw.out⟩
    ·have u2:decide ((i:Int)≤z)=false:=qF h2
     have hgood:=Hd (show partOk i z=true by unfold partOk;rw[qT (show 0≤z by omega),qT (show z<(i:Int) by omega)];rfl)
     clear h1 h2
     go_wp2_with fail
     go_round
     case rel=>exact⟨j+1,by first | omega | go_num,by omega,Hd fun u hu=>by
      rcases Nat.lt_or_ge u j with h | h
      ·exact hok.out u h
      ·obtain rfl:u=j:=by omega
       rw[←HZ.out];exact hgood.out⟩
     case measure=>simp[litLen];omega
  ·have q3:decide ((j:Int)<(pn:Int))=false:=qF (by omega)
   have hparts:Hid (∀p ∈ partsE x,partOk i p=true):=Hd (by
    intro p hpm
    obtain⟨u,hu,rfl⟩:=List.mem_iff_getElem.1 hpm
    have:=hok.out u (by have:=HPN.out;omega)
    rwa [List.getD_eq_getElem?_getD,List.getElem?_eq_getElem hu] at this)
   have d0:w2.cell? ⟨w.heap.size,0,none⟩=some (.int .i64 x.kind):=by simp[World.cell?,hBx.out]
   have d1:w2.cell? ⟨w.heap.size,1,none⟩=some (.int .i64 x.a):=by simp[World.cell?,hBx.out]
   have d2:w2.cell? ⟨w.heap.size,2,none⟩=some (.int .i64 x.b):=by simp[World.cell?,hBx.out]
   have d3:w2.cell? ⟨w.heap.size,3,none⟩=some (.int .i64 x.c):=by simp[World.cell?,hBx.out]
   have d4:w2.cell? ⟨w.heap.size,4,none⟩=some (.string x.name):=by simp[World.cell?,hBx.out]
   have d5:w2.cell? ⟨w.heap.size,5,none⟩=some (.string x.state):=by simp[World.cell?,hBx.out]
   have d6:w2.cell? ⟨w.heap.size,6,none⟩=some (.int .i64 x.v):=by simp[World.cell?,hBx.out]
   have d7:w2.cell? ⟨w.heap.size,7,none⟩=some (.slice o na cap):=by simp[World.cell?,hBx.out]
   have hnk:Hid (namedK x.kind=false):=Hd (by
    unfold namedK
    rw[show decide (x.kind=3)=false from T3.out,show decide (x.kind=19)=false from T19.out,show decide (x.kind=20)=false from T20.out];rfl)
   clear hok HG1 HG2
   by_cases zb:x.b=0
   ·have ub:(x.b !=0)=false:=by rw[zb];rfl
    have Zb:=Hd zb
    clear zb
    by_cases zc:x.c=0
    ·have uc:(x.c !=0)=false:=by rw[zc];rfl
     have Zc:=Hd zc
     clear zc
     by_cases za:na=0
     ·have ua0:decide (0<na)=false:=qF (by omega)
      have ua1:decide ((0:Int)<(na:Int))=false:=qF (by omega)
      have A2:Hid (decide (x.args.length=0)=true):=Hd (qT (by rw[hna.out];exact za))
      clear za
      have hrest:Hid (mayE x i=restE x):=Hd (mayE_last hkk.out hparts.out (by
       rw[hmo.out]
       intro p hpm
       simp at hpm
       rcases hpm with rfl | rfl
       ·exact Zb.out
       ·exact Zc.out))
      by_cases hn:x.name.toList=[]
      ·have n2:x.name.toList.isEmpty=true:=by rw[hn];rfl
       have N2:Hid (x.name.toList.isEmpty=!false):=Hd n2
       clear hn
       by_cases hst:x.state.toList=[]
       ·have s2:x.state.toList.isEmpty=true:=by rw[hst];rfl
        have S2:Hid (x.state.toList.isEmpty=!false):=Hd s2
        clear hst
        have HE:Hid (mayE x i=(x.v ==0)):=Hd (by rw[hrest.out,restE_w x false false false false false (true) hnk.out T20.out T19.out N2.out S2.out A2.out,hmv.out];exact v_zero x.v)
        clear hrest
        go_wp2_with fail
        go_ret
        exact⟨by rw[HE.out];rfl,hbw.out⟩
       ·have s2:x.state.toList.isEmpty=false:=by cases h:x.state.toList with | nil=>exact absurd h hst | cons _ _=>rfl
        have S2:Hid (x.state.toList.isEmpty=!true):=Hd s2
        clear hst
        have HE:Hid (mayE x i=false):=Hd (by rw[hrest.out,restE_w x false false false false true (true) hnk.out T20.out T19.out N2.out S2.out A2.out];rfl)
        clear hrest
        go_wp2_with fail
        go_ret
        exact⟨by rw[HE.out];rfl,hbw.out⟩
      ·have n2:x.name.toList.isEmpty=false:=by cases h:x.name.toList with | nil=>exact absurd h hn | cons _ _=>rfl
       have N2:Hid (x.name.toList.isEmpty=!true):=Hd n2
       clear hn
       have S2:Hid (x.state.toList.isEmpty=!!x.state.toList.isEmpty):=Hd (by simp)
       have HE:Hid (mayE x i=false):=Hd (by rw[hrest.out,restE_w x false false false true (!x.state.toList.isEmpty) (true) hnk.out T20.out T19.out N2.out S2.out A2.out];rfl)
       clear hrest
       go_wp2_with fail
       go_ret
       exact⟨by rw[HE.out];rfl,hbw.out⟩
     ·have ua0:decide (0<na)=true:=qT (by omega)
      have ua1:decide ((0:Int)<(na:Int))=true:=qT (by omega)
      have HE:Hid (mayE x i=false):=Hd (mayE_args (by rw[hna.out];exact za) (fun h=>by have t:=T19.out;rw[h] at t;exact absurd t (by decide)))
      clear za
      go_wp2_with fail
      go_ret
      exact⟨by rw[HE.out];rfl,hbw.out⟩
    ·have uc:(x.c !=0)=true:=bne_iff_ne.2 zc
     have HE:Hid (mayE x i=false):=Hd (mayE_rest (p:=x.c) (by rw[hmo.out];simp) zc)
     clear zc
     go_wp2_with fail
     go_ret
     exact⟨by rw[HE.out];rfl,hbw.out⟩
   ·have ub:(x.b !=0)=true:=bne_iff_ne.2 zb
    have HE:Hid (mayE x i=false):=Hd (mayE_rest (p:=x.b) (by rw[hmo.out];simp) zb)
    clear zb
    go_wp2_with fail
    go_ret
    exact⟨by rw[HE.out];rfl,hbw.out⟩
theorem one_m2 (x:Ex) (o:Option Addr) (na cap:Nat) (hna:Hid (x.args.length=na)) (i:Nat) (w:World) (ha:Hid (IntsAt w (.slice o na cap) x.args)) (hp:Hid ((partsE x).length≤40000)) (q1:decide (x.kind<1)=false) (q2:decide (21<x.kind)=false)
  (hm:Hid (manyR x.kind=2)) (t3:(x.kind ==3)=false) (t19:(x.kind ==19)=false) (t20:(x.kind ==20)=false) (t2:decide (2<x.kind)=true) (t1:(x.kind ==1)=false) (hmv:Hid (mostV x.kind=0)) :
  Calls prog 22 #[.agg #[.int .i64 x.kind,.int .i64 x.a,.int .i64 x.b,.int .i64 x.c,.string x.name,.string x.state,.int .i64 x.v,.slice o na cap,.int .i64 x.pos],.int .i64 (i:Int)] w fun e w'=>MayPost (mayE x i) w e w':=by
 have hkk:Hid (1≤x.kind∧x.kind≤21):=Hd ⟨by have:=of_decide_eq_false q1;omega,by have:=of_decide_eq_false q2;omega⟩
 have T3:=Hd t3
 have T19:=Hd t19
 have T20:=Hd t20
 have T2:=Hd t2
 have T1:=Hd t1
 have hmo:Hid (manyOf x.kind=2):=Hd (by
  have h:=hm.out
  unfold manyR at h
  by_cases h19:x.kind=19
  ·rw[h19];first | rfl | (exfalso;rw[h19] at t19;exact absurd t19 (by decide))
  ·rw[if_neg h19] at h;first | omega | (exfalso;have t:=t19;simp at t;omega))
 have CM:Hid (∀w1,Calls prog 45 #[.int .i64 x.kind] w1 fun e w'=>e=.returned (.int .i64 (2))∧w1=w'):=Hd fun w1=>by rw[←hm.out];exact many_any _ _
 have CP:Hid (∀w1,Below w.heap.size w w1→Calls prog 46 #[.agg #[.int .i64 x.kind,.int .i64 x.a,.int .i64 x.b,.int .i64 x.c,.string x.name,.string x.state,.int .i64 x.v,.slice o na cap,.int .i64 x.pos]] w1 fun e w'=>NewInts (partsE x) w1 e w'):=Hd fun w1 h1=>refParts_any x _ w1 (ha.out.below h1) hp.out
 have hb0:=Hd (below_al (qB w.heap.size w) (.cells #[.int .i64 x.kind,.int .i64 x.a,.int .i64 x.b,.int .i64 x.c,.string x.name,.string x.state,.int .i64 x.v,.slice o na cap,.int .i64 x.pos] 46))
 have hB0:=Hd (World.alloc_heap_new w (.cells #[.int .i64 x.kind,.int .i64 x.a,.int .i64 x.b,.int .i64 x.c,.string x.name,.string x.state,.int .i64 x.v,.slice o na cap,.int .i64 x.pos] 46))
 go_enter Tryz.func22,Tryz.ntmps22
 go_wp2_with (first | (go_at_call 45;((with_reducible refine(CM.out _).mono ?_);rintro e w1 ⟨rfl,rfl⟩)) | (go_at_call 46;((with_reducible refine(CP.out _ hb0.out).mono ?_);rintro e w2 ⟨v',rfl,hown,hb2⟩;obtain⟨g,o',cap',rfl,hg1,hg2⟩:=own_ints hown;have HB2:=Hd hb2;have HG1:=Hd hg1;have HG2:=Hd hg2;clear hown hb2 hg1 hg2)))
 have hbw:=Hd (hb0.out.trans (HB2.out.mono hb0.out.size))
 have hBx:=Hd ((HB2.out.block _ (lt_of_heap hB0.out)).trans hB0.out)
 obtain⟨pn,hpn⟩:∃pn,pn=(partsE x).length:=⟨_,rfl⟩
 have HPN:=Hd hpn
 have hpl:(pn:Int)≤40000:=by have:=hp.out;omega
 rw[←hpn] at HG1 HG2 ⊢
 clear hpn CM CP hb0 hB0 HB2
 go_loop [7] (fun t=>∃j:Nat,t=.int .i64 j∧j≤pn∧Hid (∀u,u<j→partOk i ((partsE x).getD u 0)=true)) (fun t=>pn-litLen t)
 case atStart=>exact⟨0,rfl,Nat.zero_le _,Hd fun u hu=>by omega⟩
 case round =>
  obtain⟨j,rfl,hj,hok⟩:=hrel
  rcases Nat.lt_or_ge j pn with hlt | hge
  ·have q3:(j:Int)<(pn:Int):=by omega
   have ix:=ix_ints (off:=0) (cap:=cap') HG1.out hlt (by omega)
   unfold Ix at ix
   have cj:=HG2.out j hlt
   obtain⟨z,hz⟩:∃z,z=(partsE x).getD j 0:=⟨_,rfl⟩
   rw[←hz] at cj
   have HZ:=Hd hz
   have hmem:Hid (z ∈ partsE x):=Hd (by rw[hz,List.getD_eq_getElem?_getD,List.getElem?_eq_getElem (by have:=HPN.out;omega)];exact List.getElem_mem _)
   clear hz
   by_cases h1:z<0
   ·have u1:decide (z<0)=true:=qT h1
    have hbad:=Hd (mayE_parts (i:=i) hmem.out (by unfold partOk;rw[qF (show ¬0≤z by omega)];rfl))
    clear h1
    go_wp2_with fail
    go_ret
    exact⟨by rw[hbad.out];rfl,hbw.out⟩
   ·have u1:decide (z<0)=false:=qF h1
    by_cases h2:(i:Int)≤z
    ·have u2:decide ((i:Int)≤z)=true:=qT h2
     have hbad:=Hd (mayE_parts (i:=i) hmem.out (by unfold partOk;rw[qF (show ¬z<(i:Int) by omega)];simp))
     clear h1 h2
     go_wp2_with fail
     go_ret
     exact⟨by rw[hbad.out];rfl,hbw.out⟩
    ·have u2:decide ((i:Int)≤z)=false:=qF h2
     have hgood:=Hd (show partOk i z=true by unfold partOk;rw[qT (show 0≤z by omega),qT (show z<(i:Int) by omega)];rfl)
     clear h1 h2
     go_wp2_with fail
     go_round
     case rel=>exact⟨j+1,by first | omega | go_num,by omega,Hd fun u hu=>by
      rcases Nat.lt_or_ge u j with h | h
      ·exact hok.out u h
      ·obtain rfl:u=j:=by omega
       rw[←HZ.out];exact hgood.out⟩
     case measure=>simp[litLen];omega
  ·have q3:decide ((j:Int)<(pn:Int))=false:=qF (by omega)
   have hparts:Hid (∀p ∈ partsE x,partOk i p=true):=Hd (by
    intro p hpm
    obtain⟨u,hu,rfl⟩:=List.mem_iff_getElem.1 hpm
    have:=hok.out u (by have:=HPN.out;omega)
    rwa [List.getD_eq_getElem?_getD,List.getElem?_eq_getElem hu] at this)
   have d0:w2.cell? ⟨w.heap.size,0,none⟩=some (.int .i64 x.kind):=by simp[World.cell?,hBx.out]
   have d1:w2.cell? ⟨w.heap.size,1,none⟩=some (.int .i64 x.a):=by simp[World.cell?,hBx.out]
   have d2:w2.cell? ⟨w.heap.size,2,none⟩=some (.int .i64 x.b):=by simp[World.cell?,hBx.out]
   have d3:w2.cell? ⟨w.heap.size,3,none⟩=some (.int .i64 x.c):=by simp[World.cell?,hBx.out]
   have d4:w2.cell? ⟨w.heap.size,4,none⟩=some (.string x.name):=by simp[World.cell?,hBx.out]
   have d5:w2.cell? ⟨w.heap.size,5,none⟩=some (.string x.state):=by simp[World.cell?,hBx.out]
   have d6:w2.cell? ⟨w.heap.size,6,none⟩=some (.int .i64 x.v):=by simp[World.cell?,hBx.out]
   have d7:w2.cell? ⟨w.heap.size,7,none⟩=some (.slice o na cap):=by simp[World.cell?,hBx.out]
   have hnk:Hid (namedK x.kind=false):=Hd (by
    unfold namedK
    rw[show decide (x.kind=3)=false from T3.out,show decide (x.kind=19)=false from T19.out,show decide (x.kind=20)=false from T20.out];rfl)
   clear hok HG1 HG2
   by_cases zc:x.c=0
   ·have uc:(x.c !=0)=false:=by rw[zc];rfl
    have Zc:=Hd zc
    clear zc
    by_cases za:na=0
    ·have ua0:decide (0<na)=false:=qF (by omega)
     have ua1:decide ((0:Int)<(na:Int))=false:=qF (by omega)
     have A2:Hid (decide (x.args.length=0)=true):=Hd (qT (by rw[hna.out];exact za))
     clear za
     have hrest:Hid (mayE x i=restE x):=Hd (mayE_last hkk.out hparts.out (by
      rw[hmo.out]
      intro p hpm
      simp at hpm
      rcases hpm with rfl
      ·exact Zc.out))
     by_cases hn:x.name.toList=[]
     ·have n2:x.name.toList.isEmpty=true:=by rw[hn];rfl
      have N2:Hid (x.name.toList.isEmpty=!false):=Hd n2
      clear hn
      by_cases hst:x.state.toList=[]
      ·have s2:x.state.toList.isEmpty=true:=by rw[hst];rfl
       have S2:Hid (x.state.toList.isEmpty=!false):=Hd s2
       clear hst
       have HE:Hid (mayE x i=(x.v ==0)):=Hd (by rw[hrest.out,restE_w x false false false false false (true) hnk.out T20.out T19.out N2.out S2.out A2.out,hmv.out];exact v_zero x.v)
       clear hrest
       go_wp2_with fail
       go_ret
       exact⟨by rw[HE.out];rfl,hbw.out⟩
      ·have s2:x.state.toList.isEmpty=false:=by cases h:x.state.toList with | nil=>exact absurd h hst | cons _ _=>rfl
       have S2:Hid (x.state.toList.isEmpty=!true):=Hd s2
       clear hst
       have HE:Hid (mayE x i=false):=Hd (by rw[hrest.out,restE_w x false false false false true (true) hnk.out T20.out T19.out N2.out S2.out A2.out];rfl)
       clear hrest
       go_wp2_with fail
       go_ret
       exact⟨by rw[HE.out];rfl,hbw.out⟩
     ·have n2:x.name.toList.isEmpty=false:=by cases h:x.name.toList with | nil=>exact absurd h hn | cons _ _=>rfl
      have N2:Hid (x.name.toList.isEmpty=!true):=Hd n2
      clear hn
      have S2:Hid (x.state.toList.isEmpty=!!x.state.toList.isEmpty):=Hd (by simp)
      have HE:Hid (mayE x i=false):=Hd (by rw[hrest.out,restE_w x false false false true (!x.state.toList.isEmpty) (true) hnk.out T20.out T19.out N2.out S2.out A2.out];rfl)
      clear hrest
      go_wp2_with fail
      go_ret
      exact⟨by rw[HE.out];rfl,hbw.out⟩
    ·have ua0:decide (0<na)=true:=qT (by omega)
     have ua1:decide ((0:Int)<(na:Int))=true:=qT (by omega)
     have HE:Hid (mayE x i=false):=Hd (mayE_args (by rw[hna.out];exact za) (fun h=>by have t:=T19.out;rw[h] at t;exact absurd t (by decide)))
     clear za
     go_wp2_with fail
     go_ret
     exact⟨by rw[HE.out];rfl,hbw.out⟩
   ·have uc:(x.c !=0)=true:=bne_iff_ne.2 zc
    have HE:Hid (mayE x i=false):=Hd (mayE_rest (p:=x.c) (by rw[hmo.out];simp) zc)
    clear zc
    go_wp2_with fail
    go_ret
    exact⟨by rw[HE.out];rfl,hbw.out⟩
theorem one_m3 (x:Ex) (o:Option Addr) (na cap:Nat) (hna:Hid (x.args.length=na)) (i:Nat) (w:World) (ha:Hid (IntsAt w (.slice o na cap) x.args)) (hp:Hid ((partsE x).length≤40000)) (q1:decide (x.kind<1)=false) (q2:decide (21<x.kind)=false)
  (hm:Hid (manyR x.kind=3)) (t3:(x.kind ==3)=false) (t19:(x.kind ==19)=false) (t20:(x.kind ==20)=false) (t2:decide (2<x.kind)=true) (t1:(x.kind ==1)=false) (hmv:Hid (mostV x.kind=0)) :
  Calls prog 22 #[.agg #[.int .i64 x.kind,.int .i64 x.a,.int .i64 x.b,.int .i64 x.c,.string x.name,.string x.state,.int .i64 x.v,.slice o na cap,.int .i64 x.pos],.int .i64 (i:Int)] w fun e w'=>MayPost (mayE x i) w e w':=by
 have hkk:Hid (1≤x.kind∧x.kind≤21):=Hd ⟨by have:=of_decide_eq_false q1;omega,by have:=of_decide_eq_false q2;omega⟩
 have T3:=Hd t3
 have T19:=Hd t19
 have T20:=Hd t20
 have T2:=Hd t2
 have T1:=Hd t1
 have hmo:Hid (manyOf x.kind=3):=Hd (by
  have h:=hm.out
  unfold manyR at h
  by_cases h19:x.kind=19
  ·rw[h19];first | rfl | (exfalso;rw[h19] at t19;exact absurd t19 (by decide))
  ·rw[if_neg h19] at h;first | omega | (exfalso;have t:=t19;simp at t;omega))
 have CM:Hid (∀w1,Calls prog 45 #[.int .i64 x.kind] w1 fun e w'=>e=.returned (.int .i64 (3))∧w1=w'):=Hd fun w1=>by rw[←hm.out];exact many_any _ _
 have CP:Hid (∀w1,Below w.heap.size w w1→Calls prog 46 #[.agg #[.int .i64 x.kind,.int .i64 x.a,.int .i64 x.b,.int .i64 x.c,.string x.name,.string x.state,.int .i64 x.v,.slice o na cap,.int .i64 x.pos]] w1 fun e w'=>NewInts (partsE x) w1 e w'):=Hd fun w1 h1=>refParts_any x _ w1 (ha.out.below h1) hp.out
 have hb0:=Hd (below_al (qB w.heap.size w) (.cells #[.int .i64 x.kind,.int .i64 x.a,.int .i64 x.b,.int .i64 x.c,.string x.name,.string x.state,.int .i64 x.v,.slice o na cap,.int .i64 x.pos] 46))
 have hB0:=Hd (World.alloc_heap_new w (.cells #[.int .i64 x.kind,.int .i64 x.a,.int .i64 x.b,.int .i64 x.c,.string x.name,.string x.state,.int .i64 x.v,.slice o na cap,.int .i64 x.pos] 46))
 go_enter Tryz.func22,Tryz.ntmps22
 go_wp2_with (first | (go_at_call 45;((with_reducible refine(CM.out _).mono ?_);rintro e w1 ⟨rfl,rfl⟩)) | (go_at_call 46;((with_reducible refine(CP.out _ hb0.out).mono ?_);rintro e w2 ⟨v',rfl,hown,hb2⟩;obtain⟨g,o',cap',rfl,hg1,hg2⟩:=own_ints hown;have HB2:=Hd hb2;have HG1:=Hd hg1;have HG2:=Hd hg2;clear hown hb2 hg1 hg2)))
 have hbw:=Hd (hb0.out.trans (HB2.out.mono hb0.out.size))
 have hBx:=Hd ((HB2.out.block _ (lt_of_heap hB0.out)).trans hB0.out)
 obtain⟨pn,hpn⟩:∃pn,pn=(partsE x).length:=⟨_,rfl⟩
 have HPN:=Hd hpn
 have hpl:(pn:Int)≤40000:=by have:=hp.out;omega
 rw[←hpn] at HG1 HG2 ⊢
 clear hpn CM CP hb0 hB0 HB2
 go_loop [7] (fun t=>∃j:Nat,t=.int .i64 j∧j≤pn∧Hid (∀u,u<j→partOk i ((partsE x).getD u 0)=true)) (fun t=>pn-litLen t)
 case atStart=>exact⟨0,rfl,Nat.zero_le _,Hd fun u hu=>by omega⟩
 case round =>
  obtain⟨j,rfl,hj,hok⟩:=hrel
  rcases Nat.lt_or_ge j pn with hlt | hge
  ·have q3:(j:Int)<(pn:Int):=by omega
   have ix:=ix_ints (off:=0) (cap:=cap') HG1.out hlt (by omega)
   unfold Ix at ix
   have cj:=HG2.out j hlt
   obtain⟨z,hz⟩:∃z,z=(partsE x).getD j 0:=⟨_,rfl⟩
   rw[←hz] at cj
   have HZ:=Hd hz
   have hmem:Hid (z ∈ partsE x):=Hd (by rw[hz,List.getD_eq_getElem?_getD,List.getElem?_eq_getElem (by have:=HPN.out;omega)];exact List.getElem_mem _)
   clear hz
   by_cases h1:z<0
   ·have u1:decide (z<0)=true:=qT h1
    have hbad:=Hd (mayE_parts (i:=i) hmem.out (by unfold partOk;rw[qF (show ¬0≤z by omega)];rfl))
    clear h1
    go_wp2_with fail
    go_ret
    exact⟨by rw[hbad.out];rfl,hbw.out⟩
   ·have u1:decide (z<0)=false:=qF h1
    by_cases h2:(i:Int)≤z
    ·have u2:decide ((i:Int)≤z)=true:=qT h2
     have hbad:=Hd (mayE_parts (i:=i) hmem.out (by unfold partOk;rw[qF (show ¬z<(i:Int) by omega)];simp))
     clear h1 h2
     go_wp2_with fail
     go_ret
     exact⟨by rw[hbad.out];rfl,hbw.out⟩
    ·have u2:decide ((i:Int)≤z)=false:=qF h2
     have hgood:=Hd (show partOk i z=true by unfold partOk;rw[qT (show 0≤z by omega),qT (show z<(i:Int) by omega)];rfl)
     clear h1 h2
     go_wp2_with fail
     go_round
     case rel=>exact⟨j+1,by first | omega | go_num,by omega,Hd fun u hu=>by
      rcases Nat.lt_or_ge u j with h | h
      ·exact hok.out u h
      ·obtain rfl:u=j:=by omega
       rw[←HZ.out];exact hgood.out⟩
     case measure=>simp[litLen];omega
  ·have q3:decide ((j:Int)<(pn:Int))=false:=qF (by omega)
   have hparts:Hid (∀p ∈ partsE x,partOk i p=true):=Hd (by
    intro p hpm
    obtain⟨u,hu,rfl⟩:=List.mem_iff_getElem.1 hpm
    have:=hok.out u (by have:=HPN.out;omega)
    rwa [List.getD_eq_getElem?_getD,List.getElem?_eq_getElem hu] at this)
   have d0:w2.cell? ⟨w.heap.size,0,none⟩=some (.int .i64 x.kind):=by simp[World.cell?,hBx.out]
   have d1:w2.cell? ⟨w.heap.size,1,none⟩=some (.int .i64 x.a):=by simp[World.cell?,hBx.out]
   have d2:w2.cell? ⟨w.heap.size,2,none⟩=some (.int .i64 x.b):=by simp[World.cell?,hBx.out]
   have d3:w2.cell? ⟨w.heap.size,3,none⟩=some (.int .i64 x.c):=by simp[World.cell?,hBx.out]
   have d4:w2.cell? ⟨w.heap.size,4,none⟩=some (.string x.name):=by simp[World.cell?,hBx.out]
   have d5:w2.cell? ⟨w.heap.size,5,none⟩=some (.string x.state):=by simp[World.cell?,hBx.out]
   have d6:w2.cell? ⟨w.heap.size,6,none⟩=some (.int .i64 x.v):=by simp[World.cell?,hBx.out]
   have d7:w2.cell? ⟨w.heap.size,7,none⟩=some (.slice o na cap):=by simp[World.cell?,hBx.out]
   have hnk:Hid (namedK x.kind=false):=Hd (by
    unfold namedK
    rw[show decide (x.kind=3)=false from T3.out,show decide (x.kind=19)=false from T19.out,show decide (x.kind=20)=false from T20.out];rfl)
   clear hok HG1 HG2
   by_cases za:na=0
   ·have ua0:decide (0<na)=false:=qF (by omega)
    have ua1:decide ((0:Int)<(na:Int))=false:=qF (by omega)
    have A2:Hid (decide (x.args.length=0)=true):=Hd (qT (by rw[hna.out];exact za))
    clear za
    have hrest:Hid (mayE x i=restE x):=Hd (mayE_last hkk.out hparts.out (by
     rw[hmo.out]
     intro p hpm
     simp at hpm))
    by_cases hn:x.name.toList=[]
    ·have n2:x.name.toList.isEmpty=true:=by rw[hn];rfl
     have N2:Hid (x.name.toList.isEmpty=!false):=Hd n2
     clear hn
     by_cases hst:x.state.toList=[]
     ·have s2:x.state.toList.isEmpty=true:=by rw[hst];rfl
      have S2:Hid (x.state.toList.isEmpty=!false):=Hd s2
      clear hst
      have HE:Hid (mayE x i=(x.v ==0)):=Hd (by rw[hrest.out,restE_w x false false false false false (true) hnk.out T20.out T19.out N2.out S2.out A2.out,hmv.out];exact v_zero x.v)
      clear hrest
      go_wp2_with fail
      go_ret
      exact⟨by rw[HE.out];rfl,hbw.out⟩
     ·have s2:x.state.toList.isEmpty=false:=by cases h:x.state.toList with | nil=>exact absurd h hst | cons _ _=>rfl
      have S2:Hid (x.state.toList.isEmpty=!true):=Hd s2
      clear hst
      have HE:Hid (mayE x i=false):=Hd (by rw[hrest.out,restE_w x false false false false true (true) hnk.out T20.out T19.out N2.out S2.out A2.out];rfl)
      clear hrest
      go_wp2_with fail
      go_ret
      exact⟨by rw[HE.out];rfl,hbw.out⟩
    ·have n2:x.name.toList.isEmpty=false:=by cases h:x.name.toList with | nil=>exact absurd h hn | cons _ _=>rfl
     have N2:Hid (x.name.toList.isEmpty=!true):=Hd n2
     clear hn
     have S2:Hid (x.state.toList.isEmpty=!!x.state.toList.isEmpty):=Hd (by simp)
     have HE:Hid (mayE x i=false):=Hd (by rw[hrest.out,restE_w x false false false true (!x.state.toList.isEmpty) (true) hnk.out T20.out T19.out N2.out S2.out A2.out];rfl)
     clear hrest
     go_wp2_with fail
     go_ret
     exact⟨by rw[HE.out];rfl,hbw.out⟩
   ·have ua0:decide (0<na)=true:=qT (by omega)
    have ua1:decide ((0:Int)<(na:Int))=true:=qT (by omega)
    have HE:Hid (mayE x i=false):=Hd (mayE_args (by rw[hna.out];exact za) (fun h=>by have t:=T19.out;rw[h] at t;exact absurd t (by decide)))
    clear za
    go_wp2_with fail
    go_ret
    exact⟨by rw[HE.out];rfl,hbw.out⟩
theorem one_out (x:Ex) (o:Option Addr) (na cap:Nat) (i:Nat) (w:World) (h:¬(1≤x.kind∧x.kind≤21)) :
  Calls prog 22 #[.agg #[.int .i64 x.kind,.int .i64 x.a,.int .i64 x.b,.int .i64 x.c,.string x.name,.string x.state,.int .i64 x.v,.slice o na cap,.int .i64 x.pos],.int .i64 (i:Int)] w fun e w'=>MayPost (mayE x i) w e w':=by
 rw[mayE_kind h]
 by_cases h1:x.kind<1
 ·have q1:decide (x.kind<1)=true:=qT h1
  clear h h1
  go_enter Tryz.func22,Tryz.ntmps22
  go_wp2_with fail
  go_ret
  exact⟨rfl,below_al (qB _ _) _⟩
 ·have q1:decide (x.kind<1)=false:=qF h1
  have q2:decide (21<x.kind)=true:=qT (by omega)
  clear h h1
  go_enter Tryz.func22,Tryz.ntmps22
  go_wp2_with fail
  go_ret
  exact⟨rfl,below_al (qB _ _) _⟩
theorem one_any (x:Ex) (o:Option Addr) (cap:Nat) (i:Nat) (w:World) (ha:IntsAt w (.slice o x.args.length cap) x.args) (hk:ExOk x) (hp:(partsE x).length≤40000) :
  Calls prog 22 #[.agg #[.int .i64 x.kind,.int .i64 x.a,.int .i64 x.b,.int .i64 x.c,.string x.name,.string x.state,.int .i64 x.v,.slice o x.args.length cap,.int .i64 x.pos],.int .i64 (i:Int)] w fun e w'=>MayPost (mayE x i) w e w':=by
 by_cases h:1≤x.kind∧x.kind≤21
 ·have q1:decide (x.kind<1)=false:=qF (by omega)
  have q2:decide (21<x.kind)=false:=qF (by omega)
  by_cases h3:x.kind=3
  ·exact one_k3 x o _ cap (Hd rfl) i w (Hd ha) (Hd hp) q1 q2 (Hd (by rw[h3];rfl)) (by rw[h3];rfl) (by rw[h3];rfl) (by rw[h3];rfl) (by rw[h3];rfl) (by rw[h3];rfl) (Hd (by rw[h3];rfl))
  by_cases h19:x.kind=19
  ·exact one_k19 x o _ cap (Hd rfl) i w (Hd ha) (Hd hp) q1 q2 (Hd (by rw[h19];rfl)) (by rw[h19];rfl) (by rw[h19];rfl) (by rw[h19];rfl) (by rw[h19];rfl) (by rw[h19];rfl) (Hd (by rw[h19];rfl))
  by_cases h20:x.kind=20
  ·exact one_k20 x o _ cap (Hd rfl) i w (Hd ha) (Hd hp) q1 q2 (Hd (by rw[h20];rfl)) (by rw[h20];rfl) (by rw[h20];rfl) (by rw[h20];rfl) (by rw[h20];rfl) (by rw[h20];rfl) (Hd (by rw[h20];rfl))
  by_cases h1:x.kind=1
  ·exact one_k1 x o _ cap (Hd rfl) i w (Hd ha) (Hd hp) q1 q2 (Hd (by rw[h1];rfl)) (by rw[h1];rfl) (by rw[h1];rfl) (by rw[h1];rfl) (by rw[h1];rfl) (by rw[h1];rfl) (Hd hk.v.2) (Hd (by rw[h1];rfl))
  by_cases h2:x.kind=2
  ·exact one_k2 x o _ cap (Hd rfl) i w (Hd ha) (Hd hp) q1 q2 (Hd (by rw[h2];rfl)) (by rw[h2];rfl) (by rw[h2];rfl) (by rw[h2];rfl) (by rw[h2];rfl) (by rw[h2];rfl) (Hd (by rw[h2];rfl))
  have e3:(x.kind ==3)=false:=beq_false_of_ne h3
  have e19:(x.kind ==19)=false:=beq_false_of_ne h19
  have e20:(x.kind ==20)=false:=beq_false_of_ne h20
  have e1:(x.kind ==1)=false:=beq_false_of_ne h1
  have e2:decide (2<x.kind)=true:=qT (by omega)
  have hmv:mostV x.kind=0:=by unfold mostV;rw[if_neg h1,if_neg h2]
  have hR:manyR x.kind=(manyOf x.kind:Int):=by unfold manyR;rw[if_neg h19]
  have hM:manyOf x.kind=1∨manyOf x.kind=2∨manyOf x.kind=3:=by
   unfold manyOf
   by_cases m1:x.kind=4∨x.kind=5∨x.kind=16∨x.kind=21
   ·rw[if_pos m1];exact .inl rfl
   ·rw[if_neg m1]
    by_cases m2:(6≤x.kind∧x.kind≤14)∨x.kind=17∨x.kind=18
    ·rw[if_pos m2];exact .inr (.inl rfl)
    ·rw[if_neg m2,if_pos (by omega)];exact .inr (.inr rfl)
  rcases hM with hM | hM | hM
  ·exact one_m1 x o _ cap (Hd rfl) i w (Hd ha) (Hd hp) q1 q2 (Hd (by rw[hR,hM];rfl)) e3 e19 e20 e2 e1 (Hd hmv)
  ·exact one_m2 x o _ cap (Hd rfl) i w (Hd ha) (Hd hp) q1 q2 (Hd (by rw[hR,hM];rfl)) e3 e19 e20 e2 e1 (Hd hmv)
  ·exact one_m3 x o _ cap (Hd rfl) i w (Hd ha) (Hd hp) q1 q2 (Hd (by rw[hR,hM];rfl)) e3 e19 e20 e2 e1 (Hd hmv)
 ·exact one_out x o _ cap i w h
end Go.Proofs.YtlbhlncipajapaaGreatDoor
namespace Go.Proofs.YtlbhlncipajapaaGreatDoor
open Go.RowKit Go.Shelf
attribute [local go_sem] Oper.semAt_some
end Go.Proofs.YtlbhlncipajapaaGreatDoor
namespace Go.Proofs.YtlbhlncipajapaaGreatDoor
open Go.RowKit Go.Shelf
attribute [local go_sem] Oper.semAt_some
end Go.Proofs.YtlbhlncipajapaaGreatDoor
namespace Go.Proofs.YtlbhlncipajapaaGreatDoor
open Go.RowKit Go.Shelf
attribute [local go_sem] Oper.semAt_some
end Go.Proofs.YtlbhlncipajapaaGreatDoor
namespace Go.Proofs.YtlbhlncipajapaaGreatDoor
open Go.RowKit Go.Shelf
attribute [local go_sem] Oper.semAt_some
end Go.Proofs.YtlbhlncipajapaaGreatDoor
namespace Go.Proofs.YtlbhlncipajapaaGreatDoor
open Go.RowKit Go.Shelf

end Go.Proofs.YtlbhlncipajapaaGreatDoor
namespace Go.Proofs.YtlbhlncipajapaaGreatDoor
open Go.RowKit
theorem ex_cells {w:World} {b o:Nat} {x:Ex} (h:ExAt w b o x):∃oa capa,IntsAt w (.slice oa x.args.length capa) x.args∧ExOk x∧w.cell? ⟨b,o,none⟩=some (.int .i64 x.kind)∧w.cell? ⟨b,o+1,none⟩=some (.int .i64 x.a)∧w.cell? ⟨b,o+2,none⟩=some (.int .i64 x.b) ∧
 w.cell? ⟨b,o+3,none⟩=some (.int .i64 x.c)∧w.cell? ⟨b,o+4,none⟩=some (.string x.name)∧w.cell? ⟨b,o+5,none⟩=some (.string x.state)∧w.cell? ⟨b,o+6,none⟩=some (.int .i64 x.v) ∧
 w.cell? ⟨b,o+7,none⟩=some (.slice oa x.args.length capa)∧w.cell? ⟨b,o+8,none⟩=some (.int .i64 x.pos):=by
 obtain⟨s,h0,h1,h2,h3,h4,h5,h6,h7,h8,h9,hk⟩:=h
 obtain⟨oa,capa,ba,offa,rfl,_⟩:=id h9
 exact⟨oa,capa,h9,hk,h0,h1,h2,h3,h4,h5,h6,h7,h8⟩
theorem de_cells {w:World} {b o:Nat} {x:De} (h:DeAt w b o x):∃op capp oi capi bi offi,DeOk x∧w.cell? ⟨b,o,none⟩=some (.int .i64 x.kind)∧w.cell? ⟨b,o+1,none⟩=some (.string x.name)∧w.cell? ⟨b,o+2,none⟩=some (.slice op x.params.length capp) ∧
 w.cell? ⟨b,o+3,none⟩=some (.slice oi x.items.length capi)∧w.cell? ⟨b,o+4,none⟩=some (.int .i64 x.type)∧w.cell? ⟨b,o+5,none⟩=some (.int .i64 x.e)∧w.cell? ⟨b,o+6,none⟩=some (.int .i64 x.pos) ∧
 (0<x.items.length→oi=some ⟨bi,offi,none⟩)∧(∀i,i<x.items.length→∀y,x.items[i]?=some y→ItAt w bi (offi+i*9) y):=by
 obtain⟨s,t,h0,h1,h2,h3,h4,h5,h6,⟨op,capp,bp,offp,rfl,hp1,hp2,hp3,hp4⟩,⟨oi,capi,bi,offi,rfl,hi1,hi2,hi3,hi4⟩,hk⟩:=h
 exact⟨op,capp,oi,capi,bi,offi,hk,h0,h1,h2,h3,h4,h5,h6,hi3,hi4⟩
theorem de_cells' {w W:World} {b o:Nat} {x:De} (h:DeAt w b o x) (hb:Below w.heap.size w W):∃op capp oi capi bi offi,DeOk x∧W.cell? ⟨b,o,none⟩=some (.int .i64 x.kind)∧W.cell? ⟨b,o+1,none⟩=some (.string x.name)∧W.cell? ⟨b,o+2,none⟩=some (.slice op x.params.length capp) ∧
 W.cell? ⟨b,o+3,none⟩=some (.slice oi x.items.length capi)∧W.cell? ⟨b,o+4,none⟩=some (.int .i64 x.type)∧W.cell? ⟨b,o+5,none⟩=some (.int .i64 x.e)∧W.cell? ⟨b,o+6,none⟩=some (.int .i64 x.pos) ∧
 (0<x.items.length→oi=some ⟨bi,offi,none⟩)∧(∀i,i<x.items.length→∀y,x.items[i]?=some y→ItAt w bi (offi+i*9) y):=by
 obtain⟨op,capp,oi,capi,bi,offi,h0,h1,h2,h3,h4,h5,h6,h7,h8,h9⟩:=de_cells h
 exact⟨op,capp,oi,capi,bi,offi,h0,cell_on hb h1,cell_on hb h2,cell_on hb h3,cell_on hb h4,cell_on hb h5,cell_on hb h6,cell_on hb h7,h8,h9⟩
theorem it_cells {w:World} {b o:Nat} {x:It} (h:ItAt w b o x):∃os caps,ItOk x∧w.cell? ⟨b,o,none⟩=some (.int .i64 x.kind)∧w.cell? ⟨b,o+1,none⟩=some (.string x.name)∧w.cell? ⟨b,o+2,none⟩=some (.int .i64 x.type) ∧
 w.cell? ⟨b,o+3,none⟩=some (.int .i64 x.e)∧w.cell? ⟨b,o+4,none⟩=some (.int .i64 x.f)∧w.cell? ⟨b,o+5,none⟩=some (.slice os x.states.length caps)∧w.cell? ⟨b,o+6,none⟩=some (.string x.state) ∧
 w.cell? ⟨b,o+7,none⟩=some (.string x.next)∧w.cell? ⟨b,o+8,none⟩=some (.int .i64 x.pos):=by
 obtain⟨s,h0,h1,h2,h3,h4,h5,h6,h7,h8,⟨os,caps,bs,offs,rfl,_⟩,hk⟩:=h
 exact⟨os,caps,hk,h0,h1,h2,h3,h4,h5,h6,h7,h8⟩
theorem mayX_all {l:List Ex} {k:Nat}:(∀i,i<k→mayX l i=true)→l.length≤k→(List.range l.length).all (mayX l)=true:=fun h hk=>by
 rw[List.all_eq_true];intro i hi;exact h i (Nat.lt_of_lt_of_le (List.mem_range.1 hi) hk)
theorem mayP_ex {p:Pr} {i:Nat} {x:Ex} (h:p.exprs[i]?=some x) (hm:mayE x i=false):mayP p=false:=by
 have:(List.range p.exprs.length).all (mayX p.exprs)=false:=by
  rw[List.all_eq_false]
  exact⟨i,List.mem_range.2 (List.getElem?_eq_some_iff.1 h).1,by unfold mayX;rw[h];simp[hm]⟩
 unfold mayP;rw[this];rfl
theorem mayI_all {n k:Nat} {l:List It} (h:∀i,i<k→∀y,l[i]?=some y→mayI n y=true) (hk:l.length≤k):l.all (mayI n)=true:=by
 rw[List.all_eq_true];intro y hy
 obtain⟨i,hi,rfl⟩:=List.mem_iff_getElem.1 hy
 exact h i (by omega) _ (List.getElem?_eq_getElem hi)
theorem mayD_all {n k:Nat} {l:List De} (h:∀i,i<k→∀y,l[i]?=some y→mayD n y=true) (hk:l.length≤k):l.all (mayD n)=true:=by
 rw[List.all_eq_true];intro y hy
 obtain⟨i,hi,rfl⟩:=List.mem_iff_getElem.1 hy
 exact h i (by omega) _ (List.getElem?_eq_getElem hi)
theorem mayD_it {n i:Nat} {d:De} {y:It} (h:d.items[i]?=some y) (hm:mayI n y=false):mayD n d=false:=by
 have:d.items.all (mayI n)=false:=by rw[List.all_eq_false];exact⟨y,List.mem_of_getElem? h,by simp[hm]⟩
 unfold mayD;rw[this];simp
theorem mayP_de {p:Pr} {i:Nat} {d:De} (h:p.decls[i]?=some d) (hm:mayD p.exprs.length d=false):mayP p=false:=by
 have:p.decls.all (mayD p.exprs.length)=false:=by
  rw[List.all_eq_false]
  exact⟨d,List.mem_of_getElem? h,by simp[hm]⟩
 unfold mayP;rw[this];simp
end Go.Proofs.YtlbhlncipajapaaGreatDoor
