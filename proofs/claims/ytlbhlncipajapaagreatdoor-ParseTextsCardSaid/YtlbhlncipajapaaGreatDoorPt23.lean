import Derived.Test.YtlbhlncipajapaaGreatDoorPt22
import Derived.Lib.QuietBelow
set_option maxHeartbeats 16000000
set_option maxRecDepth 100000
set_option linter.unusedVariables false
open Go.Proofs.Tryz(prog)
namespace Go.Proofs.YtlbhlncipajapaaGreatDoor
open Go.RowKit
structure Fits (p:Pr):Prop where
 exprs:p.exprs.length≤140737488351232
 decls:p.decls.length≤140737488351232
 ex:∀x ∈ p.exprs,(partsE x).length≤40000
 de:∀d ∈ p.decls,d.items.length≤140737488351232
theorem refMay_core (o1 o2:Option Addr) (b off cap db doff dcap:Nat) (p:Pr) (n m:Nat) (hn:Hid (p.exprs.length=n)) (hm:Hid (p.decls.length=m)) (nl:(n:Int)≤140737488351232) (ml:(m:Int)≤140737488351232) (w:World)
  (hS:Hid (Fits p)) (he:Hid (0<n→o2=some ⟨b,off,none⟩)) (hd:Hid (0<m→o1=some ⟨db,doff,none⟩))
  (hc:Hid (∀i,i<n→∀x,p.exprs[i]?=some x→ExAt w b (off+i*9) x)) (hdc:Hid (∀i,i<m→∀x,p.decls[i]?=some x→DeAt w db (doff+i*7) x)) :
  Calls prog 11 #[.agg #[(.slice o1 m dcap),(.slice o2 n cap)]] w fun e w'=>MayPost (mayP p) w e w':=by
 have hW0:=Hd (below_al (qB w.heap.size w) (.cells #[(.slice o1 m dcap),(.slice o2 n cap)] 26))
 have hB0:Hid ((w.alloc (.cells #[(.slice o1 m dcap),(.slice o2 n cap)] 26)).heap[w.heap.size]?=some (.cells #[(.slice o1 m dcap),(.slice o2 n cap)] 26 (0,0))):=Hd (World.alloc_heap_new w _)
 go_enter Tryz.func11,Tryz.ntmps11
 go_wp2_with fail
 go_loopw [3] (fun i wr=>∃(k:Nat),i=.int .i64 k∧k≤n∧Hid (∀i,i<k→mayX p.exprs i=true)∧Hid (Below w.heap.size w wr)∧Hid (wr.heap[w.heap.size]?=some (.cells #[(.slice o1 m dcap),(.slice o2 n cap)] 26 (0,0)))) (fun i _=>n-litLen i)
 case atStart=>exact⟨0,rfl,Nat.zero_le _,Hd fun i hi=>by omega,hW0,hB0⟩
 case round =>
  clear hW0 hB0
  obtain⟨k,rfl,hk,hX,hW,hB⟩:=hrel
  have g1:wr.cell? ⟨w.heap.size,0,none⟩=some (.slice o1 m dcap):=by simp[World.cell?,hB.out]
  have g2:wr.cell? ⟨w.heap.size,1,none⟩=some (.slice o2 n cap):=by simp[World.cell?,hB.out]
  rcases Nat.lt_or_ge k n with hlt | hge
  ·have hl:(k:Int)<(n:Int):=by omega
   obtain⟨x,hxk⟩:∃x,p.exprs[k]?=some x:=⟨_,List.getElem?_eq_getElem (by have:=hn.out;omega)⟩
   obtain⟨oa,capa,hargs,hok,c0,c1,c2,c3,c4,c5,c6,c7,c8⟩:=ex_cells ((hc.out k hlt x hxk).below hW.out)
   have HA:=Hd hargs
   have HO:=Hd hok
   have HX:=Hd hxk
   have hpl:=Hd (hS.out.ex _ (List.mem_of_getElem? hxk))
   have ix:=ix_exs (cap:=cap) he.out hlt (by omega)
   unfold Ix at ix
   clear hargs hok hxk
   have C:Hid (Calls prog 22 #[.agg #[.int .i64 x.kind,.int .i64 x.a,.int .i64 x.b,.int .i64 x.c,.string x.name,.string x.state,.int .i64 x.v,.slice oa x.args.length capa,.int .i64 x.pos],.int .i64 (k:Int)] wr fun e w'=>MayPost (mayE x k) wr e w') :=
    Hd (one_any x oa capa k wr HA.out HO.out hpl.out)
   cases hme:mayE x k with
   | true =>
    rw[hme] at C
    have HM:=Hd hme
    clear hme
    go_wp2_with (go_at_call 22;((with_reducible refine C.out.mono ?_);rintro e w1 ⟨rfl,hb1⟩;have HB1:=Hd hb1;clear hb1))
    go_roundw
    case rel =>
     refine⟨k+1,by go_num,by omega,Hd fun i hi=>?_,Hd (hW.out.trans (HB1.out.mono hW.out.size)),Hd ((HB1.out.block _ (lt_of_heap hB.out)).trans hB.out)⟩
     rcases Nat.lt_or_ge i k with h | h
     ·exact hX.out i h
     ·obtain rfl:i=k:=by omega
      unfold mayX;rw[HX.out];exact HM.out
    case measure=>simp[litLen];omega
   | false =>
    rw[hme] at C
    have HM:=Hd (mayP_ex HX.out hme)
    clear hme
    go_wp2_with (go_at_call 22;((with_reducible refine C.out.mono ?_);rintro e w1 ⟨rfl,hb1⟩;have HB1:=Hd hb1;clear hb1))
    go_ret
    exact⟨by rw[HM.out];rfl,hW.out.trans (HB1.out.mono hW.out.size)⟩
  ·obtain rfl:k=n:=by omega
   have hEX:=Hd (mayX_all hX.out (by rw[hn.out];exact qL _))
   clear hX
   go_wp2_with fail
   clear g1 g2
   go_loopw [4] (fun i wr=>∃(j:Nat),i=.int .i64 j∧j≤m∧Hid (∀i,i<j→∀d,p.decls[i]?=some d→mayD k d=true)∧Hid (Below w.heap.size w wr)∧Hid (wr.heap[w.heap.size]?=some (.cells #[(.slice o1 m dcap),(.slice o2 k cap)] 26 (0,0)))) (fun i _=>m-litLen i)
   case atStart=>exact⟨0,rfl,Nat.zero_le _,Hd fun i hi=>by omega,hW,hB⟩
   case round =>
    clear hW hB
    obtain⟨j,rfl,hj,hX,hW,hB⟩:=hrel
    have g1:wr.cell? ⟨w.heap.size,0,none⟩=some (.slice o1 m dcap):=by simp[World.cell?,hB.out]
    have g2:wr.cell? ⟨w.heap.size,1,none⟩=some (.slice o2 k cap):=by simp[World.cell?,hB.out]
    have hz0:w.heap.size<wr.heap.size:=lt_of_heap hB.out
    rcases Nat.lt_or_ge j m with hlt | hge
    ·have hl:(j:Int)<(m:Int):=by omega
     obtain⟨d,hdj⟩:∃x,p.decls[j]?=some x:=⟨_,List.getElem?_eq_getElem (by have:=hm.out;omega)⟩
     obtain⟨op,capp,oi,capi,bi,offi,hok,c0,c1,c2,c3,c4,c5,c6,hi3,hi4⟩:=de_cells' (hdc.out j hlt d hdj) hW.out
     have ix:=ix_des (cap:=dcap) hd.out hlt (by omega)
     unfold Ix at ix
     obtain⟨ni,hni⟩:∃ni,ni=d.items.length:=⟨_,rfl⟩
     rw[←hni] at c3 hi3 hi4
     have HN:=Hd hni
     clear hni
     have HI3:=Hd hi3
     have HI4:=Hd hi4
     have HDJ:=Hd hdj
     clear hi3 hi4 hok hdj
     have hnl:(ni:Int)≤140737488351232:=by have:=hS.out.de d (List.mem_of_getElem? HDJ.out);have:=HN.out;omega
     have hal:=Hd (below_al (qB wr.heap.size wr) (.cells #[.int .i64 d.kind,.string d.name,.slice op d.params.length capp,.slice oi ni capi,.int .i64 d.type,.int .i64 d.e,.int .i64 d.pos] 57))
     have hBn:=Hd (World.alloc_heap_new wr (.cells #[.int .i64 d.kind,.string d.name,.slice op d.params.length capp,.slice oi ni capi,.int .i64 d.type,.int .i64 d.e,.int .i64 d.pos] 57))
     obtain⟨sv,hsv⟩:∃sv,sv=standsE k (hasVal d.kind) d.e:=⟨_,rfl⟩
     obtain⟨hv,hhv⟩:∃hv,hv=hasVal d.kind:=⟨_,rfl⟩
     have CP:Hid (∀W,Calls prog 23 #[.agg #[.slice o1 m dcap,.slice o2 k cap],.int .i64 d.e,.bool hv] W fun r w'=>r=.returned (.bool sv)∧Below W.heap.size W w'):=Hd fun W=>by rw[hsv,hhv];exact points_any _ _ _ _ _ _ _ _ _
     have HSV:=Hd hsv
     have hthree:((d.kind ==1)=true∧hv=true)∨((d.kind ==1)=false∧(d.kind ==2)=true∧hv=true)∨((d.kind ==1)=false∧(d.kind ==2)=false∧hv=false):=by
      rw[hhv]
      by_cases k1:d.kind=1
      ·exact .inl ⟨by rw[k1];rfl,by rw[k1];rfl⟩
      ·by_cases k2:d.kind=2
       ·exact .inr (.inl ⟨beq_false_of_ne k1,by rw[k2];rfl,by rw[k2];rfl⟩)
       ·exact .inr (.inr ⟨beq_false_of_ne k1,beq_false_of_ne k2,by unfold hasVal;rw[qF k1,qF k2];rfl⟩)
     clear hsv hhv
     cases sv with
     | false =>
      have HM:=Hd (mayP_de HDJ.out (show mayD p.exprs.length d=false by rw[hn.out];unfold mayD;rw[←HSV.out];rfl))
      rcases hthree with ⟨t1,rfl⟩ | ⟨t1,t2,rfl⟩ | ⟨t1,t2,rfl⟩
      all_goals
       go_wp2_with (go_at_call 23;((with_reducible refine(CP.out _).mono ?_);rintro e w1 ⟨rfl,hb1⟩;have HB1:=Hd hb1;clear hb1))
       go_ret
       exact⟨by rw[HM.out];rfl,hW.out.trans ((hal.out.trans (HB1.out.mono hal.out.size)).mono hW.out.size)⟩
     | true =>
      have CP':Hid (∀(W:World) (has:Bool) (q:Int),Calls prog 23 #[.agg #[.slice o1 m dcap,.slice o2 k cap],.int .i64 q,.bool has] W fun r w'=>r=.returned (.bool (standsE k has q))∧Below W.heap.size W w'):=Hd fun W has q=>points_any _ _ _ _ _ _ _ _ _
      rcases hthree with ⟨t1,rfl⟩ | ⟨t1,t2,rfl⟩ | ⟨t1,t2,rfl⟩
      all_goals
       go_wp2_with (go_at_call 23;((with_reducible refine(CP.out _).mono ?_);rintro e w1 ⟨rfl,hb1⟩;have HB1:=Hd hb1;clear hb1))
       have hbb:=Hd (hal.out.trans (HB1.out.mono hal.out.size))
       have hW4:=Hd (hW.out.trans (hbb.out.mono hW.out.size))
       have hB4:Hid (w1.heap[w.heap.size]?=some (.cells #[(.slice o1 m dcap),(.slice o2 k cap)] 26 (0,0))):=Hd ((hbb.out.block _ (lt_of_heap hB.out)).trans hB.out)
       have hD4:Hid (w1.heap[wr.heap.size]?=some (.cells #[.int .i64 d.kind,.string d.name,.slice op d.params.length capp,.slice oi ni capi,.int .i64 d.type,.int .i64 d.e,.int .i64 d.pos] 57 (0,0))):=Hd ((HB1.out.block _ (lt_of_heap hBn.out)).trans hBn.out)
       clear hW hB hal hBn HB1 hbb c0 c1 c2 c3 c4 c5 c6 ix g1 g2 CP t1
       obtain⟨q,hq⟩:∃q,q=wr.heap.size:=⟨_,rfl⟩
       rw[←hq] at hD4 ⊢
       clear hq
       go_loopw [6] (fun i wr=>∃(l:Nat),i=.int .i64 l∧l≤ni∧Hid (∀i,i<l→∀y,d.items[i]?=some y→mayI k y=true)∧Hid (Below w.heap.size w wr)∧Hid (wr.heap[w.heap.size]?=some (.cells #[(.slice o1 m dcap),(.slice o2 k cap)] 26 (0,0)))∧Hid (wr.heap[q]?=some (.cells #[.int .i64 d.kind,.string d.name,.slice op d.params.length capp,.slice oi ni capi,.int .i64 d.type,.int .i64 d.e,.int .i64 d.pos] 57 (0,0)))) (fun i _=>ni-litLen i)
       case atStart=>exact⟨0,rfl,Nat.zero_le _,Hd fun i hi=>by omega,hW4,hB4,hD4⟩
       case round =>
        clear hW4 hB4 hD4
        obtain⟨l,rfl,hl1,hY,hW,hB,hD⟩:=hrel
        have g1:wr.cell? ⟨w.heap.size,0,none⟩=some (.slice o1 m dcap):=by simp[World.cell?,hB.out]
        have g2:wr.cell? ⟨w.heap.size,1,none⟩=some (.slice o2 k cap):=by simp[World.cell?,hB.out]
        have g3:wr.cell? ⟨q,3,none⟩=some (.slice oi ni capi):=by simp[World.cell?,hD.out]
        rcases Nat.lt_or_ge l ni with hlt2 | hge2
        ·have hl2:(l:Int)<(ni:Int):=by omega
         obtain⟨y,hyl⟩:∃x,d.items[l]?=some x:=⟨_,List.getElem?_eq_getElem (by have:=HN.out;omega)⟩
         obtain⟨os,caps,hok,i0,i1,i2,i3,i4,i5,i6,i7,i8⟩:=it_cells ((HI4.out l hlt2 y hyl).below hW.out)
         have ix:=ix_its (cap:=capi) HI3.out hlt2 (by omega)
         unfold Ix at ix
         have HYL:=Hd hyl
         clear hok hyl i1 i2 i5 i6 i7 i8
         obtain⟨he1,hhe⟩:∃h,h=hasE y.kind:=⟨_,rfl⟩
         obtain⟨hf1,hhf⟩:∃h,h=hasF y.kind:=⟨_,rfl⟩
         have CH:Hid (∀W,Calls prog 24 #[.int .i64 y.kind] W fun e w'=>e=.returned (.tuple #[.bool he1,.bool hf1])∧W=w'):=Hd fun W=>by rw[hhe,hhf];exact(has_any _ W).mono fun _ _ h=>⟨h.1,h.2.symm⟩
         have HHE:=Hd hhe
         have HHF:=Hd hhf
         clear hhe hhf
         cases hs1:standsE k he1 y.e with
         | false =>
          have S1:=Hd hs1
          have HM:=Hd (mayP_de HDJ.out (mayD_it HYL.out (show mayI p.exprs.length y=false by rw[hn.out];unfold mayI;rw[←HHE.out,hs1];rfl)))
          clear hs1
          go_wp2_with (go_at_call 24;((with_reducible refine(CH.out _).mono ?_);rintro e w9 ⟨rfl,rfl⟩))
          have Gg1:=fun pr:Regrown=>cell_regrown g1 pr.d pr.os
          have Gg2:=fun pr:Regrown=>cell_regrown g2 pr.d pr.os
          have Gg3:=fun pr:Regrown=>cell_regrown g3 pr.d pr.os
          have Gi3:=fun pr:Regrown=>cell_regrown i3 pr.d pr.os
          have Gi4:=fun pr:Regrown=>cell_regrown i4 pr.d pr.os
          clear g1 g2 g3 i0 i3 i4
          have CE:Hid (∀pr:Regrown,Calls prog 23 #[.agg #[.slice o1 m dcap,.slice o2 k cap],.int .i64 (y.e),.bool he1] (Go.Sort.grow (redrawn wr pr.d) pr.os) fun e w''=>e=.returned (.bool false)∧∃p:Regrown,w''=Go.Sort.grow (redrawn wr p.d) p.os):=Hd fun pr=>Calls.regrown_of (by rw[←S1.out];exact CP'.out _ he1 y.e)
          refine wp_region_quiet_below (by kernel_rfl) (by kernel_rfl) ?_
          repeat (go_big_quiet_step (with_reducible exact CE.out _))
          refine wpQuiet_nil ?_
          intro w7 hw7
          have HB3:Hid (Below wr.heap.size wr w7):=Hd (by obtain⟨pr,rfl⟩:=hw7;exact below_regrown _ _ _)
          clear hw7 Gg1 Gg2 Gg3 Gi3 Gi4 CE
          go_wp2_with fail
          go_ret
          exact⟨by rw[HM.out];rfl,hW.out.trans (HB3.out.mono hW.out.size)⟩
         | true =>
          have S1:=Hd hs1
          clear hs1
          cases hs2:standsE k hf1 y.f with
          | false =>
           have S2:=Hd hs2
           have HM:=Hd (mayP_de HDJ.out (mayD_it HYL.out (show mayI p.exprs.length y=false by rw[hn.out];unfold mayI;rw[←HHE.out,S1.out,←HHF.out,hs2];rfl)))
           clear hs2
           go_wp2_with (go_at_call 24;((with_reducible refine(CH.out _).mono ?_);rintro e w9 ⟨rfl,rfl⟩))
           have Gg1:=fun pr:Regrown=>cell_regrown g1 pr.d pr.os
           have Gg2:=fun pr:Regrown=>cell_regrown g2 pr.d pr.os
           have Gg3:=fun pr:Regrown=>cell_regrown g3 pr.d pr.os
           have Gi3:=fun pr:Regrown=>cell_regrown i3 pr.d pr.os
           have Gi4:=fun pr:Regrown=>cell_regrown i4 pr.d pr.os
           clear g1 g2 g3 i0 i3 i4
           have CE:Hid (∀pr:Regrown,Calls prog 23 #[.agg #[.slice o1 m dcap,.slice o2 k cap],.int .i64 (y.e),.bool he1] (Go.Sort.grow (redrawn wr pr.d) pr.os) fun e w''=>e=.returned (.bool true)∧∃p:Regrown,w''=Go.Sort.grow (redrawn wr p.d) p.os):=Hd fun pr=>Calls.regrown_of (by rw[←S1.out];exact CP'.out _ he1 y.e)
           have CF:Hid (∀pr:Regrown,Calls prog 23 #[.agg #[.slice o1 m dcap,.slice o2 k cap],.int .i64 (y.f),.bool hf1] (Go.Sort.grow (redrawn wr pr.d) pr.os) fun e w''=>e=.returned (.bool false)∧∃p:Regrown,w''=Go.Sort.grow (redrawn wr p.d) p.os):=Hd fun pr=>Calls.regrown_of (by rw[←S2.out];exact CP'.out _ hf1 y.f)
           refine wp_region_quiet_below (by kernel_rfl) (by kernel_rfl) ?_
           repeat (go_big_quiet_step (first | with_reducible exact CE.out _ | with_reducible exact CF.out _))
           refine wpQuiet_nil ?_
           intro w7 hw7
           have HB3:Hid (Below wr.heap.size wr w7):=Hd (by obtain⟨pr,rfl⟩:=hw7;exact below_regrown _ _ _)
           clear hw7 Gg1 Gg2 Gg3 Gi3 Gi4 CE CF
           go_wp2_with fail
           go_ret
           exact⟨by rw[HM.out];rfl,hW.out.trans (HB3.out.mono hW.out.size)⟩
          | true =>
           have S2:=Hd hs2
           clear hs2
           go_wp2_with (go_at_call 24;((with_reducible refine(CH.out _).mono ?_);rintro e w9 ⟨rfl,rfl⟩))
           have Gg1:=fun pr:Regrown=>cell_regrown g1 pr.d pr.os
           have Gg2:=fun pr:Regrown=>cell_regrown g2 pr.d pr.os
           have Gg3:=fun pr:Regrown=>cell_regrown g3 pr.d pr.os
           have Gi3:=fun pr:Regrown=>cell_regrown i3 pr.d pr.os
           have Gi4:=fun pr:Regrown=>cell_regrown i4 pr.d pr.os
           clear g1 g2 g3 i0 i3 i4
           have CE:Hid (∀pr:Regrown,Calls prog 23 #[.agg #[.slice o1 m dcap,.slice o2 k cap],.int .i64 (y.e),.bool he1] (Go.Sort.grow (redrawn wr pr.d) pr.os) fun e w''=>e=.returned (.bool true)∧∃p:Regrown,w''=Go.Sort.grow (redrawn wr p.d) p.os):=Hd fun pr=>Calls.regrown_of (by rw[←S1.out];exact CP'.out _ he1 y.e)
           have CF:Hid (∀pr:Regrown,Calls prog 23 #[.agg #[.slice o1 m dcap,.slice o2 k cap],.int .i64 (y.f),.bool hf1] (Go.Sort.grow (redrawn wr pr.d) pr.os) fun e w''=>e=.returned (.bool true)∧∃p:Regrown,w''=Go.Sort.grow (redrawn wr p.d) p.os):=Hd fun pr=>Calls.regrown_of (by rw[←S2.out];exact CP'.out _ hf1 y.f)
           refine wp_region_quiet_below (by kernel_rfl) (by kernel_rfl) ?_
           repeat (go_big_quiet_step (first | with_reducible exact CE.out _ | with_reducible exact CF.out _))
           refine wpQuiet_nil ?_
           intro w7 hw7
           have HB3:Hid (Below wr.heap.size wr w7):=Hd (by obtain⟨pr,rfl⟩:=hw7;exact below_regrown _ _ _)
           clear hw7 Gg1 Gg2 Gg3 Gi3 Gi4 CE CF
           go_wp2_with fail
           go_roundw
           case rel =>
            have hb8:=HB3.out
            refine⟨l+1,by go_num,by omega,Hd fun i hi y2 hy2=>?_,Hd (hW.out.trans (hb8.mono hW.out.size)),Hd ((hb8.block _ (lt_of_heap hB.out)).trans hB.out),Hd ((hb8.block _ (lt_of_heap hD.out)).trans hD.out)⟩
            rcases Nat.lt_or_ge i l with h | h
            ·exact hY.out i h y2 hy2
            ·obtain rfl:i=l:=by omega
             rw[HYL.out] at hy2
             obtain rfl:=qI hy2
             unfold mayI;rw[←HHE.out,S1.out,←HHF.out,S2.out];rfl
           case measure=>simp[litLen];omega
        ·obtain rfl:l=ni:=by omega
         have hdd:Hid (mayD k d=true):=Hd (by unfold mayD;rw[←HSV.out,mayI_all hY.out (by rw[HN.out];exact qL _)];rfl)
         go_wp2_with fail
         go_roundw
         case rel =>
          refine⟨j+1,by go_num,by omega,Hd fun i hi d2 hd2=>?_,hW,hB⟩
          rcases Nat.lt_or_ge i j with h | h
          ·exact hX.out i h d2 hd2
          ·obtain rfl:i=j:=by omega
           rw[HDJ.out] at hd2
           obtain rfl:=qI hd2
           exact hdd.out
         case measure=>simp[litLen];omega
    ·obtain rfl:j=m:=by omega
     have hP:Hid (mayP p=true):=Hd (by unfold mayP;rw[hEX.out,hn.out,mayD_all hX.out (by rw[hm.out];exact qL _)];rfl)
     go_wp2_with fail
     go_ret
     exact⟨by rw[hP.out];rfl,hW.out⟩
theorem refMay_any (sd se:Value) (p:Pr) (w:World) (h:ProgAt w sd se p) (hs:Fits p):Calls prog 11 #[.agg #[sd,se]] w fun e w'=>MayPost (mayP p) w e w':=by
 obtain⟨⟨o1,dcap,db,doff,rfl,hd1,hd2,hd3,hd4⟩,⟨o2,cap,b,off,rfl,he1,he2,he3,he4⟩,h3,h4⟩:=h
 exact refMay_core o1 o2 b off cap db doff dcap p _ _ (Hd rfl) (Hd rfl) (by have:=hs.exprs;omega) (by have:=hs.decls;omega) w (Hd hs) (Hd he3) (Hd hd3) (Hd he4) (Hd hd4)
end Go.Proofs.YtlbhlncipajapaaGreatDoor
namespace Go.Proofs.YtlbhlncipajapaaGreatDoor
open Go.RowKit Lx
theorem item_let (b g cap:Nat) (dv:Value) (ts:List Tok) (xb:Nat→Prop) (f:Nat) (all:Bool) (σ0 σ1 σ2 σ3 σ4 σ5 σ6 τ:RS) (p0:Nat) (hp:p0=(tokL ts σ0.at_).at_) (v0:List UInt8) (v2:Int) (v4:Int) (ht:isS ts [108,101,116] σ0=true) (h1:σ1=stepS σ0) (g0:v0=nameV ts σ1) (h2:σ2=nameS ts σ1) (h3:σ3=wantS ts [58] σ2) (g2:v2=kindV ts σ3) (h4:σ4=kindS ts σ3) (h5:σ5=wantS ts [61] σ4) (l4:List Int) (g4:runE ts f .expr σ5=some (v4,l4,σ6)) (hτ:τ=wantS ts [59] σ6) (W:World) (h:Hid (Rd W b g cap dv ts xb σ0)) :
  Calls prog 73 #[.pointer (some ⟨b,0,none⟩),.bool all] W fun r Y=>ItRetG b g cap dv ts xb W { it0 with kind:=1,name:=str v0,type:=v2,e:=v4,pos:=(p0:Int) } (decide (τ.code=0)) τ r Y:=by
 have TT:Hid (∀W,Hid (Rd W b g cap dv ts xb σ0)→Calls prog 36 #[.pointer (some ⟨b,0,none⟩),.string ⟨#[108,101,116]⟩] W fun r Y=>RdRet b g cap dv ts xb W (.bool true) σ1 r Y):=Hd fun W h=>by rw[h1];exact took_true [108,101,116] ht W h
 have C0:Hid (∀W,Hid (Rd W b g cap dv ts xb σ1)→Calls prog 41 #[.pointer (some ⟨b,0,none⟩)] W fun r Y=>RdRet b g cap dv ts xb W (.string (str v0)) σ2 r Y):=Hd fun W h=>by rw[g0,h2];exact name_any b g cap dv ts xb σ1 W h
 have C1:Hid (∀W,Hid (Rd W b g cap dv ts xb σ2)→Calls prog 37 #[.pointer (some ⟨b,0,none⟩),.string ⟨#[58]⟩] W fun r Y=>RdRet b g cap dv ts xb W (.tuple #[]) σ3 r Y):=Hd fun W h=>by rw[h3];exact want_any b g cap dv ts xb σ2 [58] W h
 have C2:Hid (∀W,Hid (Rd W b g cap dv ts xb σ3)→Calls prog 44 #[.pointer (some ⟨b,0,none⟩)] W fun r Y=>RdRet b g cap dv ts xb W (.int .i64 v2) σ4 r Y):=Hd fun W h=>by rw[g2,h4];exact kind_any b g cap dv ts xb σ3 W h
 have C3:Hid (∀W,Hid (Rd W b g cap dv ts xb σ4)→Calls prog 37 #[.pointer (some ⟨b,0,none⟩),.string ⟨#[61]⟩] W fun r Y=>RdRet b g cap dv ts xb W (.tuple #[]) σ5 r Y):=Hd fun W h=>by rw[h5];exact want_any b g cap dv ts xb σ4 [61] W h
 have C4:Hid (∀W,Hid (Rd W b g cap dv ts xb σ5)→Calls prog 18 #[.pointer (some ⟨b,0,none⟩)] W fun r Y=>RdRet b g cap dv ts xb W (.int .i64 v4) σ6 r Y):=Hd fun W h=>(fc_all b g cap dv ts f xb).expr σ5 v4 l4 σ6 g4 W h
 have HT:=Hd hτ
 refine item_pre b g cap dv ts xb σ0 all W h _ (Hd ?_)
 intro V A _ _ _ _ _ _ _ _ _ _ _ _ _ _ _ _ _ _ _ _ _ _ _ _ _ _ _ _ _ _ _ _ _ _ _ _ _ _ _ _ _ _ _ _ _ _ _ _ _ _ _ _ _ _ _ _ _ _ _ _ _ _ _ _ _ _ _ _ _ _ _ _ _ _ _ _ _ _ _ _ _ _ _ _ _ _ _ _ _ _ _ _ _ _ _ _ _ _ _ _ _ _ _ _ _ _ _ _ _ _ _ _ _ _ _ _ _ _ _ _ _ _ _ _ _ _ _ _ _ _ _ _ _ _ _ _ _ _ _ _ _ _ _ _ _ _ _ _ _ _ _ _ _ _ _ _ _ _ _ _ _ _ _ _ _ _ _ _ _ _ _ _ _ _ _ _ _ _ _ _ _ _ _ _ _ _ HS0
 obtain⟨Q,hQ⟩:∃Q,Q=bodyPost prog Tryz.f73 (ItRetG b g cap dv ts xb W { it0 with kind:=1,name:=str v0,type:=v2,e:=v4,pos:=(p0:Int) } (decide (τ.code=0)) τ):=⟨_,rfl⟩
 rw[←hQ]
 have HQ:=Hd hQ
 clear hQ
 simp only[sqhOf,sqh,headR,Tryz.f73]
 simp only[Option.some.injEq,Nat.reduceEqDiff,if_true,if_false]
 refine wp_seq_k fun K hK=>?_
 have HK:Hid (∀a w,(sqhOf Tryz.f73 59).wp prog Q a w→K a w):=Hd hK
 have HR:=Hd HS0.rd
 have HS:=Hd HS0
 have hbA:b<A:=by have:=HS0.hA;have:=HS0.hb;omega
 clear hK HS0
 rw[←hp] at HS
 clear ht h1 h2 h3 h4 h5 g0 g2 g4 hτ hp
 go_wp2_with (go_at_call 36;(with_reducible refine Calls.mono (TT.out _ HR) ?_);(rintro e w2 ⟨rfl,hr,hk⟩);have HX:=HS;clear HR HS;have HS:=Hd (HX.out.call hr hk);clear hr hk HX;obtain⟨⟨x0,x1,x2,x3,x4,x5,x6,x7,x8⟩,xf⟩:=rgCells HS.out.box;have f0:=xf 0;clear xf)
 obtain⟨u0,hw⟩:∃w',w'=w2.setCell ⟨A+1,0,none⟩ (.int .i64 1):=⟨_,rfl⟩
 have HX:=HS
 clear HS
 have HS:Hid (IB W u0 b g cap dv ts xb σ1 A #[.int .i64 1,.string ⟨#[]⟩,.int .i64 0,.int .i64 0,.int .i64 0,.slice none 0 0,.string ⟨#[]⟩,.string ⟨#[]⟩,.int .i64 (p0:Int)]):=Hd (by rw[hw];exact HX.out.set 0 _ rfl)
 rw[←hw]
 clear hw HX x0 x1 x2 x3 x4 x5 x6 x7 x8 f0
 have HR:=Hd HS.out.rd
 refine(C0.out u0 HR).mono ?_
 rintro e z0 ⟨rfl,hr,hk⟩
 dsimp only
 have HX:=HS
 clear HS HR
 have HS:=Hd (HX.out.call hr hk)
 clear hr hk HX
 obtain⟨⟨x0,x1,x2,x3,x4,x5,x6,x7,x8⟩,xf⟩:=rgCells HS.out.box;have f0:=xf 1;clear xf
 go_wp2_with fail
 obtain⟨u1,hw⟩:∃w',w'=z0.setCell ⟨A+1,1,none⟩ (.string (str v0)):=⟨_,rfl⟩
 have HX:=HS
 clear HS
 have HS:Hid (IB W u1 b g cap dv ts xb σ2 A #[.int .i64 1,.string (str v0),.int .i64 0,.int .i64 0,.int .i64 0,.slice none 0 0,.string ⟨#[]⟩,.string ⟨#[]⟩,.int .i64 (p0:Int)]):=Hd (by rw[hw];exact HX.out.set 1 _ rfl)
 rw[←hw]
 clear hw HX x0 x1 x2 x3 x4 x5 x6 x7 x8 f0
 have HR:=Hd HS.out.rd
 refine(C1.out u1 HR).mono ?_
 rintro e z1 ⟨rfl,hr,hk⟩
 dsimp only
 have HX:=HS
 clear HS HR
 have HS:=Hd (HX.out.call hr hk)
 clear hr hk HX
 go_wp2_with fail
 have HR:=Hd HS.out.rd
 refine(C2.out z1 HR).mono ?_
 rintro e z2 ⟨rfl,hr,hk⟩
 dsimp only
 have HX:=HS
 clear HS HR
 have HS:=Hd (HX.out.call hr hk)
 clear hr hk HX
 obtain⟨⟨x0,x1,x2,x3,x4,x5,x6,x7,x8⟩,xf⟩:=rgCells HS.out.box;have f0:=xf 2;clear xf
 go_wp2_with fail
 obtain⟨u3,hw⟩:∃w',w'=z2.setCell ⟨A+1,2,none⟩ (.int .i64 v2):=⟨_,rfl⟩
 have HX:=HS
 clear HS
 have HS:Hid (IB W u3 b g cap dv ts xb σ4 A #[.int .i64 1,.string (str v0),.int .i64 v2,.int .i64 0,.int .i64 0,.slice none 0 0,.string ⟨#[]⟩,.string ⟨#[]⟩,.int .i64 (p0:Int)]):=Hd (by rw[hw];exact HX.out.set 2 _ rfl)
 rw[←hw]
 clear hw HX x0 x1 x2 x3 x4 x5 x6 x7 x8 f0
 have HR:=Hd HS.out.rd
 refine(C3.out u3 HR).mono ?_
 rintro e z3 ⟨rfl,hr,hk⟩
 dsimp only
 have HX:=HS
 clear HS HR
 have HS:=Hd (HX.out.call hr hk)
 clear hr hk HX
 go_wp2_with fail
 have HR:=Hd HS.out.rd
 refine(C4.out z3 HR).mono ?_
 rintro e z4 ⟨rfl,hr,hk⟩
 dsimp only
 have HX:=HS
 clear HS HR
 have HS:=Hd (HX.out.call hr hk)
 clear hr hk HX
 obtain⟨⟨x0,x1,x2,x3,x4,x5,x6,x7,x8⟩,xf⟩:=rgCells HS.out.box;have f0:=xf 3;clear xf
 go_wp2_with fail
 obtain⟨u5,hw⟩:∃w',w'=z4.setCell ⟨A+1,3,none⟩ (.int .i64 v4):=⟨_,rfl⟩
 have HX:=HS
 clear HS
 have HS:Hid (IB W u5 b g cap dv ts xb σ6 A #[.int .i64 1,.string (str v0),.int .i64 v2,.int .i64 v4,.int .i64 0,.slice none 0 0,.string ⟨#[]⟩,.string ⟨#[]⟩,.int .i64 (p0:Int)]):=Hd (by rw[hw];exact HX.out.set 3 _ rfl)
 rw[←hw]
 clear hw HX x0 x1 x2 x3 x4 x5 x6 x7 x8 f0
 refine HK.out _ _ ?_
 rw[HQ.out]
 refine item_end b g cap dv ts xb σ6 τ HT W u5 A _ _ _ _ _ _ _ _ _ _ _ _ HS _ (Hd ?_)
 intro Z Y hr hk hb hk0
 exact⟨none,0,0,rfl,hr,hk0,qO _ _ _ _⟩
theorem item_der (b g cap:Nat) (dv:Value) (ts:List Tok) (xb:Nat→Prop) (f:Nat) (σ0 σ1 σ2 σ3 σ4 σ5 σ6 τ:RS) (p0:Nat) (hp:p0=(tokL ts σ0.at_).at_) (v0:List UInt8) (v2:Int) (v4:Int) (ht:isS ts [100,101,114] σ0=true) (h1:σ1=stepS σ0) (g0:v0=nameV ts σ1) (h2:σ2=nameS ts σ1) (h3:σ3=wantS ts [61] σ2) (l2:List Int) (g2:runE ts f .expr σ3=some (v2,l2,σ4)) (h5:σ5=wantS ts [105,110,105,116] σ4) (l4:List Int) (g4:runE ts f .expr σ5=some (v4,l4,σ6)) (hτ:τ=wantS ts [59] σ6) (W:World) (h:Hid (Rd W b g cap dv ts xb σ0)) :
  Calls prog 73 #[.pointer (some ⟨b,0,none⟩),.bool true] W fun r Y=>ItRetG b g cap dv ts xb W { it0 with kind:=2,name:=str v0,e:=v2,f:=v4,pos:=(p0:Int) } (decide (τ.code=0)) τ r Y:=by
 have TF:Hid (∀(d:Array UInt8) W,d.toList≠[100,101,114]→Hid (Rd W b g cap dv ts xb σ0)→Calls prog 36 #[.pointer (some ⟨b,0,none⟩),.string ⟨d⟩] W fun r Y=>RdRet b g cap dv ts xb W (.bool false) σ0 r Y):=Hd fun d W hd h=>by
  have:=took_false (b:=b) (g:=g) (cap:=cap) (dv:=dv) (xb:=xb) d.toList (isS_one ht (Ne.symm hd)) W h
  simpa [str] using this
 have TT:Hid (∀W,Hid (Rd W b g cap dv ts xb σ0)→Calls prog 36 #[.pointer (some ⟨b,0,none⟩),.string ⟨#[100,101,114]⟩] W fun r Y=>RdRet b g cap dv ts xb W (.bool true) σ1 r Y):=Hd fun W h=>by rw[h1];exact took_true [100,101,114] ht W h
 have C0:Hid (∀W,Hid (Rd W b g cap dv ts xb σ1)→Calls prog 41 #[.pointer (some ⟨b,0,none⟩)] W fun r Y=>RdRet b g cap dv ts xb W (.string (str v0)) σ2 r Y):=Hd fun W h=>by rw[g0,h2];exact name_any b g cap dv ts xb σ1 W h
 have C1:Hid (∀W,Hid (Rd W b g cap dv ts xb σ2)→Calls prog 37 #[.pointer (some ⟨b,0,none⟩),.string ⟨#[61]⟩] W fun r Y=>RdRet b g cap dv ts xb W (.tuple #[]) σ3 r Y):=Hd fun W h=>by rw[h3];exact want_any b g cap dv ts xb σ2 [61] W h
 have C2:Hid (∀W,Hid (Rd W b g cap dv ts xb σ3)→Calls prog 18 #[.pointer (some ⟨b,0,none⟩)] W fun r Y=>RdRet b g cap dv ts xb W (.int .i64 v2) σ4 r Y):=Hd fun W h=>(fc_all b g cap dv ts f xb).expr σ3 v2 l2 σ4 g2 W h
 have C3:Hid (∀W,Hid (Rd W b g cap dv ts xb σ4)→Calls prog 37 #[.pointer (some ⟨b,0,none⟩),.string ⟨#[105,110,105,116]⟩] W fun r Y=>RdRet b g cap dv ts xb W (.tuple #[]) σ5 r Y):=Hd fun W h=>by rw[h5];exact want_any b g cap dv ts xb σ4 [105,110,105,116] W h
 have C4:Hid (∀W,Hid (Rd W b g cap dv ts xb σ5)→Calls prog 18 #[.pointer (some ⟨b,0,none⟩)] W fun r Y=>RdRet b g cap dv ts xb W (.int .i64 v4) σ6 r Y):=Hd fun W h=>(fc_all b g cap dv ts f xb).expr σ5 v4 l4 σ6 g4 W h
 have HT:=Hd hτ
 refine item_pre b g cap dv ts xb σ0 true W h _ (Hd ?_)
 intro V A _ _ _ _ _ _ _ _ _ _ _ _ _ _ _ _ _ _ _ _ _ _ _ _ _ _ _ _ _ _ _ _ _ _ _ _ _ _ _ _ _ _ _ _ _ _ _ _ _ _ _ _ _ _ _ _ _ _ _ _ _ _ _ _ _ _ _ _ _ _ _ _ _ _ _ _ _ _ _ _ _ _ _ _ _ _ _ _ _ _ _ _ _ _ _ _ _ _ _ _ _ _ _ _ _ _ _ _ _ _ _ _ _ _ _ _ _ _ _ _ _ _ _ _ _ _ _ _ _ _ _ _ _ _ _ _ _ _ _ _ _ _ _ _ _ _ _ _ _ _ _ _ _ _ _ _ _ _ _ _ _ _ _ _ _ _ _ _ _ _ _ _ _ _ _ _ _ _ _ _ _ _ _ _ _ _ HS0
 obtain⟨Q,hQ⟩:∃Q,Q=bodyPost prog Tryz.f73 (ItRetG b g cap dv ts xb W { it0 with kind:=2,name:=str v0,e:=v2,f:=v4,pos:=(p0:Int) } (decide (τ.code=0)) τ):=⟨_,rfl⟩
 rw[←hQ]
 have HQ:=Hd hQ
 clear hQ
 simp only[sqhOf,sqh,headR,Tryz.f73]
 simp only[Option.some.injEq,Nat.reduceEqDiff,if_true,if_false]
 refine wp_seq_k fun K hK=>?_
 have HK:Hid (∀a w,(sqhOf Tryz.f73 59).wp prog Q a w→K a w):=Hd hK
 have HR:=Hd HS0.rd
 have HS:=Hd HS0
 have hbA:b<A:=by have:=HS0.hA;have:=HS0.hb;omega
 clear hK HS0
 rw[←hp] at HS
 clear ht h1 h2 h3 h5 g0 g2 g4 hτ hp
 go_wp2_with (first
  | (go_at_call 36;(with_reducible refine Calls.mono (TF.out _ _ ?_ HR) ?_);(focus exact(by decide));(rintro e w1 ⟨rfl,hr,hk⟩);have HX:=HS;clear HR HS;have HS:=Hd (HX.out.call hr hk);have HR:=Hd hr;clear hr hk HX)
  | (go_at_call 36;(with_reducible refine Calls.mono (TT.out _ HR) ?_);(rintro e w2 ⟨rfl,hr,hk⟩);have HX:=HS;clear HR HS;have HS:=Hd (HX.out.call hr hk);clear hr hk HX;obtain⟨⟨x0,x1,x2,x3,x4,x5,x6,x7,x8⟩,xf⟩:=rgCells HS.out.box;have f0:=xf 0;clear xf))
 obtain⟨u0,hw⟩:∃w',w'=w2.setCell ⟨A+1,0,none⟩ (.int .i64 2):=⟨_,rfl⟩
 have HX:=HS
 clear HS
 have HS:Hid (IB W u0 b g cap dv ts xb σ1 A #[.int .i64 2,.string ⟨#[]⟩,.int .i64 0,.int .i64 0,.int .i64 0,.slice none 0 0,.string ⟨#[]⟩,.string ⟨#[]⟩,.int .i64 (p0:Int)]):=Hd (by rw[hw];exact HX.out.set 0 _ rfl)
 rw[←hw]
 clear hw HX x0 x1 x2 x3 x4 x5 x6 x7 x8 f0
 have HR:=Hd HS.out.rd
 refine(C0.out u0 HR).mono ?_
 rintro e z0 ⟨rfl,hr,hk⟩
 dsimp only
 have HX:=HS
 clear HS HR
 have HS:=Hd (HX.out.call hr hk)
 clear hr hk HX
 obtain⟨⟨x0,x1,x2,x3,x4,x5,x6,x7,x8⟩,xf⟩:=rgCells HS.out.box;have f0:=xf 1;clear xf
 go_wp2_with fail
 obtain⟨u1,hw⟩:∃w',w'=z0.setCell ⟨A+1,1,none⟩ (.string (str v0)):=⟨_,rfl⟩
 have HX:=HS
 clear HS
 have HS:Hid (IB W u1 b g cap dv ts xb σ2 A #[.int .i64 2,.string (str v0),.int .i64 0,.int .i64 0,.int .i64 0,.slice none 0 0,.string ⟨#[]⟩,.string ⟨#[]⟩,.int .i64 (p0:Int)]):=Hd (by rw[hw];exact HX.out.set 1 _ rfl)
 rw[←hw]
 clear hw HX x0 x1 x2 x3 x4 x5 x6 x7 x8 f0
 have HR:=Hd HS.out.rd
 refine(C1.out u1 HR).mono ?_
 rintro e z1 ⟨rfl,hr,hk⟩
 dsimp only
 have HX:=HS
 clear HS HR
 have HS:=Hd (HX.out.call hr hk)
 clear hr hk HX
 go_wp2_with fail
 have HR:=Hd HS.out.rd
 refine(C2.out z1 HR).mono ?_
 rintro e z2 ⟨rfl,hr,hk⟩
 dsimp only
 have HX:=HS
 clear HS HR
 have HS:=Hd (HX.out.call hr hk)
 clear hr hk HX
 obtain⟨⟨x0,x1,x2,x3,x4,x5,x6,x7,x8⟩,xf⟩:=rgCells HS.out.box;have f0:=xf 3;clear xf
 go_wp2_with fail
 obtain⟨u3,hw⟩:∃w',w'=z2.setCell ⟨A+1,3,none⟩ (.int .i64 v2):=⟨_,rfl⟩
 have HX:=HS
 clear HS
 have HS:Hid (IB W u3 b g cap dv ts xb σ4 A #[.int .i64 2,.string (str v0),.int .i64 0,.int .i64 v2,.int .i64 0,.slice none 0 0,.string ⟨#[]⟩,.string ⟨#[]⟩,.int .i64 (p0:Int)]):=Hd (by rw[hw];exact HX.out.set 3 _ rfl)
 rw[←hw]
 clear hw HX x0 x1 x2 x3 x4 x5 x6 x7 x8 f0
 have HR:=Hd HS.out.rd
 refine(C3.out u3 HR).mono ?_
 rintro e z3 ⟨rfl,hr,hk⟩
 dsimp only
 have HX:=HS
 clear HS HR
 have HS:=Hd (HX.out.call hr hk)
 clear hr hk HX
 go_wp2_with fail
 have HR:=Hd HS.out.rd
 refine(C4.out z3 HR).mono ?_
 rintro e z4 ⟨rfl,hr,hk⟩
 dsimp only
 have HX:=HS
 clear HS HR
 have HS:=Hd (HX.out.call hr hk)
 clear hr hk HX
 obtain⟨⟨x0,x1,x2,x3,x4,x5,x6,x7,x8⟩,xf⟩:=rgCells HS.out.box;have f0:=xf 4;clear xf
 go_wp2_with fail
 obtain⟨u5,hw⟩:∃w',w'=z4.setCell ⟨A+1,4,none⟩ (.int .i64 v4):=⟨_,rfl⟩
 have HX:=HS
 clear HS
 have HS:Hid (IB W u5 b g cap dv ts xb σ6 A #[.int .i64 2,.string (str v0),.int .i64 0,.int .i64 v2,.int .i64 v4,.slice none 0 0,.string ⟨#[]⟩,.string ⟨#[]⟩,.int .i64 (p0:Int)]):=Hd (by rw[hw];exact HX.out.set 4 _ rfl)
 rw[←hw]
 clear hw HX x0 x1 x2 x3 x4 x5 x6 x7 x8 f0
 refine HK.out _ _ ?_
 rw[HQ.out]
 refine item_end b g cap dv ts xb σ6 τ HT W u5 A _ _ _ _ _ _ _ _ _ _ _ _ HS _ (Hd ?_)
 intro Z Y hr hk hb hk0
 exact⟨none,0,0,rfl,hr,hk0,qO _ _ _ _⟩
theorem item_reset (b g cap:Nat) (dv:Value) (ts:List Tok) (xb:Nat→Prop) (f:Nat) (σ0 σ1 σ2 σ3 σ4 σ5 σ6 τ:RS) (p0:Nat) (hp:p0=(tokL ts σ0.at_).at_) (v0:List UInt8) (v2:Int) (v4:Int) (ht:isS ts [114,101,115,101,116] σ0=true) (h1:σ1=stepS σ0) (g0:v0=nameV ts σ1) (h2:σ2=nameS ts σ1) (h3:σ3=wantS ts [111,110] σ2) (l2:List Int) (g2:runE ts f .expr σ3=some (v2,l2,σ4)) (h5:σ5=wantS ts [61] σ4) (l4:List Int) (g4:runE ts f .expr σ5=some (v4,l4,σ6)) (hτ:τ=wantS ts [59] σ6) (W:World) (h:Hid (Rd W b g cap dv ts xb σ0)) :
  Calls prog 73 #[.pointer (some ⟨b,0,none⟩),.bool true] W fun r Y=>ItRetG b g cap dv ts xb W { it0 with kind:=3,name:=str v0,e:=v4,f:=v2,pos:=(p0:Int) } (decide (τ.code=0)) τ r Y:=by
 have TF:Hid (∀(d:Array UInt8) W,d.toList≠[114,101,115,101,116]→Hid (Rd W b g cap dv ts xb σ0)→Calls prog 36 #[.pointer (some ⟨b,0,none⟩),.string ⟨d⟩] W fun r Y=>RdRet b g cap dv ts xb W (.bool false) σ0 r Y):=Hd fun d W hd h=>by
  have:=took_false (b:=b) (g:=g) (cap:=cap) (dv:=dv) (xb:=xb) d.toList (isS_one ht (Ne.symm hd)) W h
  simpa [str] using this
 have TT:Hid (∀W,Hid (Rd W b g cap dv ts xb σ0)→Calls prog 36 #[.pointer (some ⟨b,0,none⟩),.string ⟨#[114,101,115,101,116]⟩] W fun r Y=>RdRet b g cap dv ts xb W (.bool true) σ1 r Y):=Hd fun W h=>by rw[h1];exact took_true [114,101,115,101,116] ht W h
 have C0:Hid (∀W,Hid (Rd W b g cap dv ts xb σ1)→Calls prog 41 #[.pointer (some ⟨b,0,none⟩)] W fun r Y=>RdRet b g cap dv ts xb W (.string (str v0)) σ2 r Y):=Hd fun W h=>by rw[g0,h2];exact name_any b g cap dv ts xb σ1 W h
 have C1:Hid (∀W,Hid (Rd W b g cap dv ts xb σ2)→Calls prog 37 #[.pointer (some ⟨b,0,none⟩),.string ⟨#[111,110]⟩] W fun r Y=>RdRet b g cap dv ts xb W (.tuple #[]) σ3 r Y):=Hd fun W h=>by rw[h3];exact want_any b g cap dv ts xb σ2 [111,110] W h
 have C2:Hid (∀W,Hid (Rd W b g cap dv ts xb σ3)→Calls prog 18 #[.pointer (some ⟨b,0,none⟩)] W fun r Y=>RdRet b g cap dv ts xb W (.int .i64 v2) σ4 r Y):=Hd fun W h=>(fc_all b g cap dv ts f xb).expr σ3 v2 l2 σ4 g2 W h
 have C3:Hid (∀W,Hid (Rd W b g cap dv ts xb σ4)→Calls prog 37 #[.pointer (some ⟨b,0,none⟩),.string ⟨#[61]⟩] W fun r Y=>RdRet b g cap dv ts xb W (.tuple #[]) σ5 r Y):=Hd fun W h=>by rw[h5];exact want_any b g cap dv ts xb σ4 [61] W h
 have C4:Hid (∀W,Hid (Rd W b g cap dv ts xb σ5)→Calls prog 18 #[.pointer (some ⟨b,0,none⟩)] W fun r Y=>RdRet b g cap dv ts xb W (.int .i64 v4) σ6 r Y):=Hd fun W h=>(fc_all b g cap dv ts f xb).expr σ5 v4 l4 σ6 g4 W h
 have HT:=Hd hτ
 refine item_pre b g cap dv ts xb σ0 true W h _ (Hd ?_)
 intro V A _ _ _ _ _ _ _ _ _ _ _ _ _ _ _ _ _ _ _ _ _ _ _ _ _ _ _ _ _ _ _ _ _ _ _ _ _ _ _ _ _ _ _ _ _ _ _ _ _ _ _ _ _ _ _ _ _ _ _ _ _ _ _ _ _ _ _ _ _ _ _ _ _ _ _ _ _ _ _ _ _ _ _ _ _ _ _ _ _ _ _ _ _ _ _ _ _ _ _ _ _ _ _ _ _ _ _ _ _ _ _ _ _ _ _ _ _ _ _ _ _ _ _ _ _ _ _ _ _ _ _ _ _ _ _ _ _ _ _ _ _ _ _ _ _ _ _ _ _ _ _ _ _ _ _ _ _ _ _ _ _ _ _ _ _ _ _ _ _ _ _ _ _ _ _ _ _ _ _ _ _ _ _ _ _ _ HS0
 obtain⟨Q,hQ⟩:∃Q,Q=bodyPost prog Tryz.f73 (ItRetG b g cap dv ts xb W { it0 with kind:=3,name:=str v0,e:=v4,f:=v2,pos:=(p0:Int) } (decide (τ.code=0)) τ):=⟨_,rfl⟩
 rw[←hQ]
 have HQ:=Hd hQ
 clear hQ
 simp only[sqhOf,sqh,headR,Tryz.f73]
 simp only[Option.some.injEq,Nat.reduceEqDiff,if_true,if_false]
 refine wp_seq_k fun K hK=>?_
 have HK:Hid (∀a w,(sqhOf Tryz.f73 59).wp prog Q a w→K a w):=Hd hK
 have HR:=Hd HS0.rd
 have HS:=Hd HS0
 have hbA:b<A:=by have:=HS0.hA;have:=HS0.hb;omega
 clear hK HS0
 rw[←hp] at HS
 clear ht h1 h2 h3 h5 g0 g2 g4 hτ hp
 go_wp2_with (first
  | (go_at_call 36;(with_reducible refine Calls.mono (TF.out _ _ ?_ HR) ?_);(focus exact(by decide));(rintro e w1 ⟨rfl,hr,hk⟩);have HX:=HS;clear HR HS;have HS:=Hd (HX.out.call hr hk);have HR:=Hd hr;clear hr hk HX)
  | (go_at_call 36;(with_reducible refine Calls.mono (TT.out _ HR) ?_);(rintro e w2 ⟨rfl,hr,hk⟩);have HX:=HS;clear HR HS;have HS:=Hd (HX.out.call hr hk);clear hr hk HX;obtain⟨⟨x0,x1,x2,x3,x4,x5,x6,x7,x8⟩,xf⟩:=rgCells HS.out.box;have f0:=xf 0;clear xf))
 obtain⟨u0,hw⟩:∃w',w'=w2.setCell ⟨A+1,0,none⟩ (.int .i64 3):=⟨_,rfl⟩
 have HX:=HS
 clear HS
 have HS:Hid (IB W u0 b g cap dv ts xb σ1 A #[.int .i64 3,.string ⟨#[]⟩,.int .i64 0,.int .i64 0,.int .i64 0,.slice none 0 0,.string ⟨#[]⟩,.string ⟨#[]⟩,.int .i64 (p0:Int)]):=Hd (by rw[hw];exact HX.out.set 0 _ rfl)
 rw[←hw]
 clear hw HX x0 x1 x2 x3 x4 x5 x6 x7 x8 f0
 have HR:=Hd HS.out.rd
 refine(C0.out u0 HR).mono ?_
 rintro e z0 ⟨rfl,hr,hk⟩
 dsimp only
 have HX:=HS
 clear HS HR
 have HS:=Hd (HX.out.call hr hk)
 clear hr hk HX
 obtain⟨⟨x0,x1,x2,x3,x4,x5,x6,x7,x8⟩,xf⟩:=rgCells HS.out.box;have f0:=xf 1;clear xf
 go_wp2_with fail
 obtain⟨u1,hw⟩:∃w',w'=z0.setCell ⟨A+1,1,none⟩ (.string (str v0)):=⟨_,rfl⟩
 have HX:=HS
 clear HS
 have HS:Hid (IB W u1 b g cap dv ts xb σ2 A #[.int .i64 3,.string (str v0),.int .i64 0,.int .i64 0,.int .i64 0,.slice none 0 0,.string ⟨#[]⟩,.string ⟨#[]⟩,.int .i64 (p0:Int)]):=Hd (by rw[hw];exact HX.out.set 1 _ rfl)
 rw[←hw]
 clear hw HX x0 x1 x2 x3 x4 x5 x6 x7 x8 f0
 have HR:=Hd HS.out.rd
 refine(C1.out u1 HR).mono ?_
 rintro e z1 ⟨rfl,hr,hk⟩
 dsimp only
 have HX:=HS
 clear HS HR
 have HS:=Hd (HX.out.call hr hk)
 clear hr hk HX
 go_wp2_with fail
 have HR:=Hd HS.out.rd
 refine(C2.out z1 HR).mono ?_
 rintro e z2 ⟨rfl,hr,hk⟩
 dsimp only
 have HX:=HS
 clear HS HR
 have HS:=Hd (HX.out.call hr hk)
 clear hr hk HX
 obtain⟨⟨x0,x1,x2,x3,x4,x5,x6,x7,x8⟩,xf⟩:=rgCells HS.out.box;have f0:=xf 4;clear xf
 go_wp2_with fail
 obtain⟨u3,hw⟩:∃w',w'=z2.setCell ⟨A+1,4,none⟩ (.int .i64 v2):=⟨_,rfl⟩
 have HX:=HS
 clear HS
 have HS:Hid (IB W u3 b g cap dv ts xb σ4 A #[.int .i64 3,.string (str v0),.int .i64 0,.int .i64 0,.int .i64 v2,.slice none 0 0,.string ⟨#[]⟩,.string ⟨#[]⟩,.int .i64 (p0:Int)]):=Hd (by rw[hw];exact HX.out.set 4 _ rfl)
 rw[←hw]
 clear hw HX x0 x1 x2 x3 x4 x5 x6 x7 x8 f0
 have HR:=Hd HS.out.rd
 refine(C3.out u3 HR).mono ?_
 rintro e z3 ⟨rfl,hr,hk⟩
 dsimp only
 have HX:=HS
 clear HS HR
 have HS:=Hd (HX.out.call hr hk)
 clear hr hk HX
 go_wp2_with fail
 have HR:=Hd HS.out.rd
 refine(C4.out z3 HR).mono ?_
 rintro e z4 ⟨rfl,hr,hk⟩
 dsimp only
 have HX:=HS
 clear HS HR
 have HS:=Hd (HX.out.call hr hk)
 clear hr hk HX
 obtain⟨⟨x0,x1,x2,x3,x4,x5,x6,x7,x8⟩,xf⟩:=rgCells HS.out.box;have f0:=xf 3;clear xf
 go_wp2_with fail
 obtain⟨u5,hw⟩:∃w',w'=z4.setCell ⟨A+1,3,none⟩ (.int .i64 v4):=⟨_,rfl⟩
 have HX:=HS
 clear HS
 have HS:Hid (IB W u5 b g cap dv ts xb σ6 A #[.int .i64 3,.string (str v0),.int .i64 0,.int .i64 v4,.int .i64 v2,.slice none 0 0,.string ⟨#[]⟩,.string ⟨#[]⟩,.int .i64 (p0:Int)]):=Hd (by rw[hw];exact HX.out.set 3 _ rfl)
 rw[←hw]
 clear hw HX x0 x1 x2 x3 x4 x5 x6 x7 x8 f0
 refine HK.out _ _ ?_
 rw[HQ.out]
 refine item_end b g cap dv ts xb σ6 τ HT W u5 A _ _ _ _ _ _ _ _ _ _ _ _ HS _ (Hd ?_)
 intro Z Y hr hk hb hk0
 exact⟨none,0,0,rfl,hr,hk0,qO _ _ _ _⟩
theorem item_mem (b g cap:Nat) (dv:Value) (ts:List Tok) (xb:Nat→Prop) (f:Nat) (σ0 σ1 σ2 σ3 σ4 σ5 σ6 τ:RS) (p0:Nat) (hp:p0=(tokL ts σ0.at_).at_) (v0:List UInt8) (v2:Int) (v4:Int) (ht:isS ts [109,101,109] σ0=true) (h1:σ1=stepS σ0) (g0:v0=nameV ts σ1) (h2:σ2=nameS ts σ1) (h3:σ3=wantS ts [58] σ2) (g2:v2=kindV ts σ3) (h4:σ4=kindS ts σ3) (h5:σ5=wantS ts [105,110,105,116] σ4) (l4:List Int) (g4:runE ts f .expr σ5=some (v4,l4,σ6)) (hτ:τ=wantS ts [59] σ6) (W:World) (h:Hid (Rd W b g cap dv ts xb σ0)) :
  Calls prog 73 #[.pointer (some ⟨b,0,none⟩),.bool true] W fun r Y=>ItRetG b g cap dv ts xb W { it0 with kind:=4,name:=str v0,type:=v2,e:=v4,pos:=(p0:Int) } (decide (τ.code=0)) τ r Y:=by
 have TF:Hid (∀(d:Array UInt8) W,d.toList≠[109,101,109]→Hid (Rd W b g cap dv ts xb σ0)→Calls prog 36 #[.pointer (some ⟨b,0,none⟩),.string ⟨d⟩] W fun r Y=>RdRet b g cap dv ts xb W (.bool false) σ0 r Y):=Hd fun d W hd h=>by
  have:=took_false (b:=b) (g:=g) (cap:=cap) (dv:=dv) (xb:=xb) d.toList (isS_one ht (Ne.symm hd)) W h
  simpa [str] using this
 have TT:Hid (∀W,Hid (Rd W b g cap dv ts xb σ0)→Calls prog 36 #[.pointer (some ⟨b,0,none⟩),.string ⟨#[109,101,109]⟩] W fun r Y=>RdRet b g cap dv ts xb W (.bool true) σ1 r Y):=Hd fun W h=>by rw[h1];exact took_true [109,101,109] ht W h
 have C0:Hid (∀W,Hid (Rd W b g cap dv ts xb σ1)→Calls prog 41 #[.pointer (some ⟨b,0,none⟩)] W fun r Y=>RdRet b g cap dv ts xb W (.string (str v0)) σ2 r Y):=Hd fun W h=>by rw[g0,h2];exact name_any b g cap dv ts xb σ1 W h
 have C1:Hid (∀W,Hid (Rd W b g cap dv ts xb σ2)→Calls prog 37 #[.pointer (some ⟨b,0,none⟩),.string ⟨#[58]⟩] W fun r Y=>RdRet b g cap dv ts xb W (.tuple #[]) σ3 r Y):=Hd fun W h=>by rw[h3];exact want_any b g cap dv ts xb σ2 [58] W h
 have C2:Hid (∀W,Hid (Rd W b g cap dv ts xb σ3)→Calls prog 44 #[.pointer (some ⟨b,0,none⟩)] W fun r Y=>RdRet b g cap dv ts xb W (.int .i64 v2) σ4 r Y):=Hd fun W h=>by rw[g2,h4];exact kind_any b g cap dv ts xb σ3 W h
 have C3:Hid (∀W,Hid (Rd W b g cap dv ts xb σ4)→Calls prog 37 #[.pointer (some ⟨b,0,none⟩),.string ⟨#[105,110,105,116]⟩] W fun r Y=>RdRet b g cap dv ts xb W (.tuple #[]) σ5 r Y):=Hd fun W h=>by rw[h5];exact want_any b g cap dv ts xb σ4 [105,110,105,116] W h
 have C4:Hid (∀W,Hid (Rd W b g cap dv ts xb σ5)→Calls prog 18 #[.pointer (some ⟨b,0,none⟩)] W fun r Y=>RdRet b g cap dv ts xb W (.int .i64 v4) σ6 r Y):=Hd fun W h=>(fc_all b g cap dv ts f xb).expr σ5 v4 l4 σ6 g4 W h
 have HT:=Hd hτ
 refine item_pre b g cap dv ts xb σ0 true W h _ (Hd ?_)
 intro V A _ _ _ _ _ _ _ _ _ _ _ _ _ _ _ _ _ _ _ _ _ _ _ _ _ _ _ _ _ _ _ _ _ _ _ _ _ _ _ _ _ _ _ _ _ _ _ _ _ _ _ _ _ _ _ _ _ _ _ _ _ _ _ _ _ _ _ _ _ _ _ _ _ _ _ _ _ _ _ _ _ _ _ _ _ _ _ _ _ _ _ _ _ _ _ _ _ _ _ _ _ _ _ _ _ _ _ _ _ _ _ _ _ _ _ _ _ _ _ _ _ _ _ _ _ _ _ _ _ _ _ _ _ _ _ _ _ _ _ _ _ _ _ _ _ _ _ _ _ _ _ _ _ _ _ _ _ _ _ _ _ _ _ _ _ _ _ _ _ _ _ _ _ _ _ _ _ _ _ _ _ _ _ _ _ _ HS0
 obtain⟨Q,hQ⟩:∃Q,Q=bodyPost prog Tryz.f73 (ItRetG b g cap dv ts xb W { it0 with kind:=4,name:=str v0,type:=v2,e:=v4,pos:=(p0:Int) } (decide (τ.code=0)) τ):=⟨_,rfl⟩
 rw[←hQ]
 have HQ:=Hd hQ
 clear hQ
 simp only[sqhOf,sqh,headR,Tryz.f73]
 simp only[Option.some.injEq,Nat.reduceEqDiff,if_true,if_false]
 refine wp_seq_k fun K hK=>?_
 have HK:Hid (∀a w,(sqhOf Tryz.f73 59).wp prog Q a w→K a w):=Hd hK
 have HR:=Hd HS0.rd
 have HS:=Hd HS0
 have hbA:b<A:=by have:=HS0.hA;have:=HS0.hb;omega
 clear hK HS0
 rw[←hp] at HS
 clear ht h1 h2 h3 h4 h5 g0 g2 g4 hτ hp
 go_wp2_with (first
  | (go_at_call 36;(with_reducible refine Calls.mono (TF.out _ _ ?_ HR) ?_);(focus exact(by decide));(rintro e w1 ⟨rfl,hr,hk⟩);have HX:=HS;clear HR HS;have HS:=Hd (HX.out.call hr hk);have HR:=Hd hr;clear hr hk HX)
  | (go_at_call 36;(with_reducible refine Calls.mono (TT.out _ HR) ?_);(rintro e w2 ⟨rfl,hr,hk⟩);have HX:=HS;clear HR HS;have HS:=Hd (HX.out.call hr hk);clear hr hk HX;obtain⟨⟨x0,x1,x2,x3,x4,x5,x6,x7,x8⟩,xf⟩:=rgCells HS.out.box;have f0:=xf 0;clear xf))
 obtain⟨u0,hw⟩:∃w',w'=w2.setCell ⟨A+1,0,none⟩ (.int .i64 4):=⟨_,rfl⟩
 have HX:=HS
 clear HS
 have HS:Hid (IB W u0 b g cap dv ts xb σ1 A #[.int .i64 4,.string ⟨#[]⟩,.int .i64 0,.int .i64 0,.int .i64 0,.slice none 0 0,.string ⟨#[]⟩,.string ⟨#[]⟩,.int .i64 (p0:Int)]):=Hd (by rw[hw];exact HX.out.set 0 _ rfl)
 rw[←hw]
 clear hw HX x0 x1 x2 x3 x4 x5 x6 x7 x8 f0
 have HR:=Hd HS.out.rd
 refine(C0.out u0 HR).mono ?_
 rintro e z0 ⟨rfl,hr,hk⟩
 dsimp only
 have HX:=HS
 clear HS HR
 have HS:=Hd (HX.out.call hr hk)
 clear hr hk HX
 obtain⟨⟨x0,x1,x2,x3,x4,x5,x6,x7,x8⟩,xf⟩:=rgCells HS.out.box;have f0:=xf 1;clear xf
 go_wp2_with fail
 obtain⟨u1,hw⟩:∃w',w'=z0.setCell ⟨A+1,1,none⟩ (.string (str v0)):=⟨_,rfl⟩
 have HX:=HS
 clear HS
 have HS:Hid (IB W u1 b g cap dv ts xb σ2 A #[.int .i64 4,.string (str v0),.int .i64 0,.int .i64 0,.int .i64 0,.slice none 0 0,.string ⟨#[]⟩,.string ⟨#[]⟩,.int .i64 (p0:Int)]):=Hd (by rw[hw];exact HX.out.set 1 _ rfl)
 rw[←hw]
 clear hw HX x0 x1 x2 x3 x4 x5 x6 x7 x8 f0
 have HR:=Hd HS.out.rd
 refine(C1.out u1 HR).mono ?_
 rintro e z1 ⟨rfl,hr,hk⟩
 dsimp only
 have HX:=HS
 clear HS HR
 have HS:=Hd (HX.out.call hr hk)
 clear hr hk HX
 go_wp2_with fail
 have HR:=Hd HS.out.rd
 refine(C2.out z1 HR).mono ?_
 rintro e z2 ⟨rfl,hr,hk⟩
 dsimp only
 have HX:=HS
 clear HS HR
 have HS:=Hd (HX.out.call hr hk)
 clear hr hk HX
 obtain⟨⟨x0,x1,x2,x3,x4,x5,x6,x7,x8⟩,xf⟩:=rgCells HS.out.box;have f0:=xf 2;clear xf
 go_wp2_with fail
 obtain⟨u3,hw⟩:∃w',w'=z2.setCell ⟨A+1,2,none⟩ (.int .i64 v2):=⟨_,rfl⟩
 have HX:=HS
 clear HS
 have HS:Hid (IB W u3 b g cap dv ts xb σ4 A #[.int .i64 4,.string (str v0),.int .i64 v2,.int .i64 0,.int .i64 0,.slice none 0 0,.string ⟨#[]⟩,.string ⟨#[]⟩,.int .i64 (p0:Int)]):=Hd (by rw[hw];exact HX.out.set 2 _ rfl)
 rw[←hw]
 clear hw HX x0 x1 x2 x3 x4 x5 x6 x7 x8 f0
 have HR:=Hd HS.out.rd
 refine(C3.out u3 HR).mono ?_
 rintro e z3 ⟨rfl,hr,hk⟩
 dsimp only
 have HX:=HS
 clear HS HR
 have HS:=Hd (HX.out.call hr hk)
 clear hr hk HX
 go_wp2_with fail
 have HR:=Hd HS.out.rd
 refine(C4.out z3 HR).mono ?_
 rintro e z4 ⟨rfl,hr,hk⟩
 dsimp only
 have HX:=HS
 clear HS HR
 have HS:=Hd (HX.out.call hr hk)
 clear hr hk HX
 obtain⟨⟨x0,x1,x2,x3,x4,x5,x6,x7,x8⟩,xf⟩:=rgCells HS.out.box;have f0:=xf 3;clear xf
 go_wp2_with fail
 obtain⟨u5,hw⟩:∃w',w'=z4.setCell ⟨A+1,3,none⟩ (.int .i64 v4):=⟨_,rfl⟩
 have HX:=HS
 clear HS
 have HS:Hid (IB W u5 b g cap dv ts xb σ6 A #[.int .i64 4,.string (str v0),.int .i64 v2,.int .i64 v4,.int .i64 0,.slice none 0 0,.string ⟨#[]⟩,.string ⟨#[]⟩,.int .i64 (p0:Int)]):=Hd (by rw[hw];exact HX.out.set 3 _ rfl)
 rw[←hw]
 clear hw HX x0 x1 x2 x3 x4 x5 x6 x7 x8 f0
 refine HK.out _ _ ?_
 rw[HQ.out]
 refine item_end b g cap dv ts xb σ6 τ HT W u5 A _ _ _ _ _ _ _ _ _ _ _ _ HS _ (Hd ?_)
 intro Z Y hr hk hb hk0
 exact⟨none,0,0,rfl,hr,hk0,qO _ _ _ _⟩
end Go.Proofs.YtlbhlncipajapaaGreatDoor
