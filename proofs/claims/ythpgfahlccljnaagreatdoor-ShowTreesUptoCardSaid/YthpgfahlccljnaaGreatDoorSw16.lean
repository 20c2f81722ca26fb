import Derived.Test.YthpgfahlccljnaaGreatDoorSw15
import Derived.Lib.QuietBelow
set_option maxHeartbeats 16000000
set_option maxRecDepth 100000
open Go.Proofs.Tryz(prog)
namespace Go.Proofs.YthpgfahlccljnaaGreatDoor
open Go.RowKit
theorem ex_cells {w:World} {b o:Nat} {x:Ex} (h:ExAt w b o x):∃oa capa,IntsAt w (.slice oa x.args.length capa) x.args∧ExOk x∧w.cell? ⟨b,o,none⟩=some (.int .i64 x.kind)∧w.cell? ⟨b,o+1,none⟩=some (.int .i64 x.a)∧w.cell? ⟨b,o+2,none⟩=some (.int .i64 x.b) ∧
 w.cell? ⟨b,o+3,none⟩=some (.int .i64 x.c)∧w.cell? ⟨b,o+4,none⟩=some (.string x.name)∧w.cell? ⟨b,o+5,none⟩=some (.string x.state)∧w.cell? ⟨b,o+6,none⟩=some (.int .i64 x.v) ∧
 w.cell? ⟨b,o+7,none⟩=some (.slice oa x.args.length capa)∧w.cell? ⟨b,o+8,none⟩=some (.int .i64 x.pos):=by
 obtain⟨s,h0,h1,h2,h3,h4,h5,h6,h7,h8,h9,hk⟩:=h
 obtain⟨oa,capa,ba,offa,rfl,_⟩:=id h9
 exact⟨oa,capa,h9,hk,h0,h1,h2,h3,h4,h5,h6,h7,h8⟩
theorem de_cells {w:World} {b o:Nat} {x:De} (h:DeAt w b o x):∃op capp oi capi bi offi,DeOk x∧w.cell? ⟨b,o,none⟩=some (.int .i64 x.kind)∧w.cell? ⟨b,o+1,none⟩=some (.string x.name)∧w.cell? ⟨b,o+2,none⟩=some (.slice op x.params.length capp) ∧
 w.cell? ⟨b,o+3,none⟩=some (.slice oi x.items.length capi)∧w.cell? ⟨b,o+4,none⟩=some (.int .i64 x.type)∧w.cell? ⟨b,o+5,none⟩=some (.int .i64 x.e)∧w.cell? ⟨b,o+6,none⟩=some (.int .i64 x.pos) ∧
 (0<x.items.length→oi=some ⟨bi,offi,none⟩)∧(∀i,i<x.items.length→∀y,x.items[i]?=some y→ItAt w bi (offi+i*9) y):=by
 obtain⟨s,t,h0,h1,h2,h3,h4,h5,h6,⟨op,capp,bp,offp,rfl,hp1,hp2,hp3,hp4⟩,⟨oi,capi,bi,offi,rfl,hi1,hi2,hi3,hi4⟩,hk⟩:=h
 exact⟨op,capp,oi,capi,bi,offi,hk,h0,h1,h2,h3,h4,h5,h6,hi3,hi4⟩
theorem de_cells' {w W:World} {b o:Nat} {x:De} (h:DeAt w b o x) (hb:Below w.heap.size w W):∃op capp oi capi bi offi,DeOk x∧W.cell? ⟨b,o,none⟩=some (.int .i64 x.kind)∧W.cell? ⟨b,o+1,none⟩=some (.string x.name)∧W.cell? ⟨b,o+2,none⟩=some (.slice op x.params.length capp) ∧
 W.cell? ⟨b,o+3,none⟩=some (.slice oi x.items.length capi)∧W.cell? ⟨b,o+4,none⟩=some (.int .i64 x.type)∧W.cell? ⟨b,o+5,none⟩=some (.int .i64 x.e)∧W.cell? ⟨b,o+6,none⟩=some (.int .i64 x.pos) ∧
 (0<x.items.length→oi=some ⟨bi,offi,none⟩)∧(∀i,i<x.items.length→∀y,x.items[i]?=some y→ItAt w bi (offi+i*9) y):=by
 obtain⟨op,capp,oi,capi,bi,offi,h0,h1,h2,h3,h4,h5,h6,h7,h8,h9⟩:=de_cells h
 exact⟨op,capp,oi,capi,bi,offi,h0,cell_on hb h1,cell_on hb h2,cell_on hb h3,cell_on hb h4,cell_on hb h5,cell_on hb h6,cell_on hb h7,h8,h9⟩
theorem it_cells {w:World} {b o:Nat} {x:It} (h:ItAt w b o x):∃os caps,ItOk x∧w.cell? ⟨b,o,none⟩=some (.int .i64 x.kind)∧w.cell? ⟨b,o+1,none⟩=some (.string x.name)∧w.cell? ⟨b,o+2,none⟩=some (.int .i64 x.type) ∧
 w.cell? ⟨b,o+3,none⟩=some (.int .i64 x.e)∧w.cell? ⟨b,o+4,none⟩=some (.int .i64 x.f)∧w.cell? ⟨b,o+5,none⟩=some (.slice os x.states.length caps)∧w.cell? ⟨b,o+6,none⟩=some (.string x.state) ∧
 w.cell? ⟨b,o+7,none⟩=some (.string x.next)∧w.cell? ⟨b,o+8,none⟩=some (.int .i64 x.pos):=by
 obtain⟨s,h0,h1,h2,h3,h4,h5,h6,h7,h8,⟨os,caps,bs,offs,rfl,_⟩,hk⟩:=h
 exact⟨os,caps,hk,h0,h1,h2,h3,h4,h5,h6,h7,h8⟩
theorem mayX_all {l:List Ex} {k:Nat}:(∀i,i<k→mayX l i=true)→l.length≤k→(List.range l.length).all (mayX l)=true:=fun h hk=>by
 rw[List.all_eq_true];intro i hi;exact h i (Nat.lt_of_lt_of_le (List.mem_range.1 hi) hk)
theorem mayP_ex {p:Pr} {i:Nat} {x:Ex} (h:p.exprs[i]?=some x) (hm:mayE x i=false):mayP p=false:=by
 have:(List.range p.exprs.length).all (mayX p.exprs)=false:=by
  rw[List.all_eq_false]
  exact⟨i,List.mem_range.2 (List.getElem?_eq_some_iff.1 h).1,by unfold mayX;rw[h];simp[hm]⟩
 unfold mayP;rw[this];rfl
theorem stands_below (has:Bool) (e:Int) (B n cap:Nat) (o:Option Addr) (w:World) (hc:w.cell? ⟨B,1,none⟩=some (.slice o n cap)) :
  Calls prog 32 #[.bool has,.int .i64 e,.pointer (some ⟨B,0,none⟩)] w fun r w'=>r=.returned (.bool (standsE n has e))∧Below w.heap.size w w' :=
 (stands_any has e B n cap o w hc).mono fun _ _ ⟨h1,h2⟩=>⟨h1,by rw[h2];exact qB _ _⟩
theorem mayI_all {n k:Nat} {l:List It} (h:∀i,i<k→∀y,l[i]?=some y→mayI n y=true) (hk:l.length≤k):l.all (mayI n)=true:=by
 rw[List.all_eq_true];intro y hy
 obtain⟨i,hi,rfl⟩:=List.mem_iff_getElem.1 hy
 exact h i (by omega) _ (List.getElem?_eq_getElem hi)
theorem mayD_all {n k:Nat} {l:List De} (h:∀i,i<k→∀y,l[i]?=some y→mayD n y=true) (hk:l.length≤k):l.all (mayD n)=true:=by
 rw[List.all_eq_true];intro y hy
 obtain⟨i,hi,rfl⟩:=List.mem_iff_getElem.1 hy
 exact h i (by omega) _ (List.getElem?_eq_getElem hi)
theorem mayD_it {n i:Nat} {d:De} {y:It} (h:d.items[i]?=some y) (hm:mayI n y=false):mayD n d=false:=by
 have:d.items.all (mayI n)=false:=by rw[List.all_eq_false];exact⟨y,List.mem_of_getElem? h,by simp[hm]⟩
 unfold mayD;rw[this];simp
theorem mayP_de {p:Pr} {i:Nat} {d:De} (h:p.decls[i]?=some d) (hm:mayD p.exprs.length d=false):mayP p=false:=by
 have:p.decls.all (mayD p.exprs.length)=false:=by
  rw[List.all_eq_false]
  exact⟨d,List.mem_of_getElem? h,by simp[hm]⟩
 unfold mayP;rw[this];simp
theorem may_core (o1 o2:Option Addr) (b off cap db doff dcap:Nat) (p:Pr) (n m:Nat) (hn:Hid (p.exprs.length=n)) (hm:Hid (p.decls.length=m)) (nl:(n:Int)≤300) (ml:(m:Int)≤60) (w:World)
  (hS:Hid (Small p)) (he:Hid (0<n→o2=some ⟨b,off,none⟩)) (hd:Hid (0<m→o1=some ⟨db,doff,none⟩))
  (hc:Hid (∀i,i<n→∀x,p.exprs[i]?=some x→ExAt w b (off+i*9) x)) (hdc:Hid (∀i,i<m→∀x,p.decls[i]?=some x→DeAt w db (doff+i*7) x)) :
  Calls prog 17 #[.agg #[(.slice o1 m dcap),(.slice o2 n cap)]] w fun e w'=>MayPost (mayP p) w e w':=by
 have hW0:=Hd (below_al (qB w.heap.size w) (.cells #[(.slice o1 m dcap),(.slice o2 n cap)] 25))
 have hB0:Hid ((w.alloc (.cells #[(.slice o1 m dcap),(.slice o2 n cap)] 25)).heap[w.heap.size]?=some (.cells #[(.slice o1 m dcap),(.slice o2 n cap)] 25 (0,0))):=Hd (World.alloc_heap_new w _)
 go_enter Tryz.func17,Tryz.ntmps17
 go_wp2_with fail
 go_loopw [13] (fun i wr=>∃(k:Nat),i=.int .i64 k∧k≤n∧Hid (∀i,i<k→mayX p.exprs i=true)∧Hid (Below w.heap.size w wr)∧Hid (wr.heap[w.heap.size]?=some (.cells #[(.slice o1 m dcap),(.slice o2 n cap)] 25 (0,0)))) (fun i _=>n-litLen i)
 case atStart=>exact⟨0,rfl,Nat.zero_le _,Hd fun i hi=>by omega,hW0,hB0⟩
 case round =>
  clear hW0 hB0
  obtain⟨k,rfl,hk,hX,hW,hB⟩:=hrel
  have g1:wr.cell? ⟨w.heap.size,0,none⟩=some (.slice o1 m dcap):=by simp[World.cell?,hB.out]
  have g2:wr.cell? ⟨w.heap.size,1,none⟩=some (.slice o2 n cap):=by simp[World.cell?,hB.out]
  rcases Nat.lt_or_ge k n with hlt | hge
  ·have hl:(k:Int)<(n:Int):=by omega
   obtain⟨x,hxk⟩:∃x,p.exprs[k]?=some x:=⟨_,List.getElem?_eq_getElem (by have:=hn.out;omega)⟩
   obtain⟨oa,capa,hargs,hok,c0,c1,c2,c3,c4,c5,c6,c7,c8⟩:=ex_cells ((hc.out k hlt x hxk).below hW.out)
   have HA:=Hd hargs
   have HO:=Hd hok
   have HX:=Hd hxk
   have ix:=ix_exs (cap:=cap) he.out hlt (by omega)
   unfold Ix at ix
   clear hargs hok hxk
   have C:Hid (∀w1,Below wr.heap.size wr w1→Calls prog 31 #[.agg #[.int .i64 x.kind,.int .i64 x.a,.int .i64 x.b,.int .i64 x.c,.string x.name,.string x.state,.int .i64 x.v,.slice oa x.args.length capa,.int .i64 x.pos],.int .i64 (k:Int)] w1 fun e w'=>MayPost (mayE x k) w1 e w') :=
    Hd fun w1 h1=>mayAt_any x _ k w1 (HA.out.below h1) HO.out
   have hal:=Hd (below_al (qB wr.heap.size wr) (.cells #[.int .i64 x.kind,.int .i64 x.a,.int .i64 x.b,.int .i64 x.c,.string x.name,.string x.state,.int .i64 x.v,.slice oa x.args.length capa,.int .i64 x.pos] 48))
   cases hme:mayE x k with
   | true =>
    rw[hme] at C
    have HM:=Hd hme
    clear hme
    go_wp2_with (go_at_call 31;((with_reducible refine(C.out _ hal.out).mono ?_);rintro e w1 ⟨rfl,hb1⟩;have HB1:=Hd hb1;clear hb1))
    go_roundw
    case rel =>
     have hb2:=hal.out.trans (HB1.out.mono hal.out.size)
     refine⟨k+1,by go_num,by omega,Hd fun i hi=>?_,Hd (hW.out.trans (hb2.mono hW.out.size)),Hd ((hb2.block _ (lt_of_heap hB.out)).trans hB.out)⟩
     rcases Nat.lt_or_ge i k with h | h
     ·exact hX.out i h
     ·obtain rfl:i=k:=by omega
      unfold mayX;rw[HX.out];exact HM.out
    case measure=>simp[litLen];omega
   | false =>
    rw[hme] at C
    have HM:=Hd (mayP_ex HX.out hme)
    clear hme
    go_wp2_with (go_at_call 31;((with_reducible refine(C.out _ hal.out).mono ?_);rintro e w1 ⟨rfl,hb1⟩;have HB1:=Hd hb1;clear hb1))
    go_ret
    have hb2:=hal.out.trans (HB1.out.mono hal.out.size)
    exact⟨by rw[HM.out];rfl,hW.out.trans (hb2.mono hW.out.size)⟩
  ·obtain rfl:k=n:=by omega
   have hEX:=Hd (mayX_all hX.out (by rw[hn.out];exact qL _))
   clear hX
   go_wp2_with fail
   clear g1 g2
   go_loopw [27] (fun i wr=>∃(j:Nat),i=.int .i64 j∧j≤m∧Hid (∀i,i<j→∀d,p.decls[i]?=some d→mayD k d=true)∧Hid (Below w.heap.size w wr)∧Hid (wr.heap[w.heap.size]?=some (.cells #[(.slice o1 m dcap),(.slice o2 k cap)] 25 (0,0)))) (fun i _=>m-litLen i)
   case atStart=>exact⟨0,rfl,Nat.zero_le _,Hd fun i hi=>by omega,hW,hB⟩
   case round =>
    clear hW hB
    obtain⟨j,rfl,hj,hX,hW,hB⟩:=hrel
    have g1:wr.cell? ⟨w.heap.size,0,none⟩=some (.slice o1 m dcap):=by simp[World.cell?,hB.out]
    have g2:wr.cell? ⟨w.heap.size,1,none⟩=some (.slice o2 k cap):=by simp[World.cell?,hB.out]
    rcases Nat.lt_or_ge j m with hlt | hge
    ·have hl:(j:Int)<(m:Int):=by omega
     obtain⟨d,hdj⟩:∃x,p.decls[j]?=some x:=⟨_,List.getElem?_eq_getElem (by have:=hm.out;omega)⟩
     obtain⟨op,capp,oi,capi,bi,offi,hok,c0,c1,c2,c3,c4,c5,c6,hi3,hi4⟩:=de_cells' (hdc.out j hlt d hdj) hW.out
     have ix:=ix_des (cap:=dcap) hd.out hlt (by omega)
     unfold Ix at ix
     obtain⟨ni,hni⟩:∃ni,ni=d.items.length:=⟨_,rfl⟩
     rw[←hni] at c3 hi3 hi4
     have HN:=Hd hni
     clear hni
     have HI3:=Hd hi3
     have HI4:=Hd hi4
     have HDJ:=Hd hdj
     clear hi3 hi4 hok hdj
     cases hst:standsE k (hasVal d.kind) d.e with
     | false =>
      have HST:=Hd hst
      have HM:=Hd (mayP_de HDJ.out (show mayD p.exprs.length d=false by rw[hn.out];unfold mayD;rw[hst];rfl))
      clear hst
      go_wp2_with fail
      obtain⟨W2,hW2⟩:∃W2,W2=wr.alloc (.cells #[.int .i64 d.kind,.string d.name,.slice op d.params.length capp,.slice oi ni capi,.int .i64 d.type,.int .i64 d.e,.int .i64 d.pos] 33):=⟨_,rfl⟩
      rw[←hW2]
      have hb2:=Hd (show Below wr.heap.size wr W2 by rw[hW2];exact below_al (qB _ _) _)
      have e2:W2.cell? ⟨w.heap.size,1,none⟩=some (.slice o2 k cap):=cell_on hb2.out g2
      have e3:W2.cell? ⟨w.heap.size,0,none⟩=some (.slice o1 m dcap):=cell_on hb2.out g1
      have d0:W2.cell? ⟨wr.heap.size,0,none⟩=some (.int .i64 d.kind):=by rw[hW2];go_simp
      have d1:W2.cell? ⟨wr.heap.size,1,none⟩=some (.string d.name):=by rw[hW2];go_simp
      have d2:W2.cell? ⟨wr.heap.size,2,none⟩=some (.slice op d.params.length capp):=by rw[hW2];go_simp
      have d3:W2.cell? ⟨wr.heap.size,3,none⟩=some (.slice oi ni capi):=by rw[hW2];go_simp
      have d4:W2.cell? ⟨wr.heap.size,4,none⟩=some (.int .i64 d.type):=by rw[hW2];go_simp
      have d5:W2.cell? ⟨wr.heap.size,5,none⟩=some (.int .i64 d.e):=by rw[hW2];go_simp
      have d6:W2.cell? ⟨wr.heap.size,6,none⟩=some (.int .i64 d.pos):=by rw[hW2];go_simp
      clear hW2 c0 c1 c2 c3 c4 c5 c6 ix g1 g2
      have Ge2:=fun pr:Regrown=>cell_regrown e2 pr.d pr.os
      have Gd0:=fun pr:Regrown=>cell_regrown d0 pr.d pr.os
      have Gd1:=fun pr:Regrown=>cell_regrown d1 pr.d pr.os
      have Gd2:=fun pr:Regrown=>cell_regrown d2 pr.d pr.os
      have Gd3:=fun pr:Regrown=>cell_regrown d3 pr.d pr.os
      have Gd4:=fun pr:Regrown=>cell_regrown d4 pr.d pr.os
      have Gd5:=fun pr:Regrown=>cell_regrown d5 pr.d pr.os
      have Gd6:=fun pr:Regrown=>cell_regrown d6 pr.d pr.os
      have D3:=Hd d3
      clear e2 d0 d1 d2 d3 d4 d5 d6 e3
      have cV:∀pr:Regrown,Calls prog 33 #[.agg #[.int .i64 d.kind,.string d.name,.slice op d.params.length capp,.slice oi ni capi,.int .i64 d.type,.int .i64 d.e,.int .i64 d.pos]] (Go.Sort.grow (redrawn W2 pr.d) pr.os) fun e w''=>e=.returned (.bool (hasVal d.kind))∧∃p:Regrown,w''=Go.Sort.grow (redrawn W2 p.d) p.os:=fun pr=>Calls.regrown_of (hasValue_any _ _ _ _ _ _ _ _)
      have cS:∀pr:Regrown,Calls prog 32 #[.bool (hasVal d.kind),.int .i64 d.e,.pointer (some ⟨w.heap.size,0,none⟩)] (Go.Sort.grow (redrawn W2 pr.d) pr.os) fun e w''=>e=.returned (.bool false)∧∃p:Regrown,w''=Go.Sort.grow (redrawn W2 p.d) p.os:=fun pr=>Calls.regrown_of (by rw[←HST.out];exact stands_below _ _ _ _ _ _ _ (Ge2 pr))
      have CV:=Hd cV
      have CS:=Hd cS
      clear cV cS
      refine wp_region_quiet_below (by kernel_rfl) (by kernel_rfl) ?_
      repeat (go_big_quiet_step (first | with_reducible exact CV.out _ | with_reducible exact CS.out _))
      refine wpQuiet_nil ?_
      intro w4 hw4
      have HB3:Hid (Below W2.heap.size W2 w4):=Hd (by obtain⟨pr,rfl⟩:=hw4;exact below_regrown _ _ _)
      clear hw4 Ge2 Gd0 Gd1 Gd2 Gd3 Gd4 Gd5 Gd6 CV CS
      go_wp2_with fail
      go_ret
      exact⟨by rw[HM.out];rfl,hW.out.trans ((hb2.out.trans (HB3.out.mono hb2.out.size)).mono hW.out.size)⟩
     | true =>
      have HST:=Hd hst
      clear hst
      go_wp2_with fail
      obtain⟨W2,hW2⟩:∃W2,W2=wr.alloc (.cells #[.int .i64 d.kind,.string d.name,.slice op d.params.length capp,.slice oi ni capi,.int .i64 d.type,.int .i64 d.e,.int .i64 d.pos] 33):=⟨_,rfl⟩
      rw[←hW2]
      have hb2:=Hd (show Below wr.heap.size wr W2 by rw[hW2];exact below_al (qB _ _) _)
      have e2:W2.cell? ⟨w.heap.size,1,none⟩=some (.slice o2 k cap):=cell_on hb2.out g2
      have e3:W2.cell? ⟨w.heap.size,0,none⟩=some (.slice o1 m dcap):=cell_on hb2.out g1
      have d0:W2.cell? ⟨wr.heap.size,0,none⟩=some (.int .i64 d.kind):=by rw[hW2];go_simp
      have d1:W2.cell? ⟨wr.heap.size,1,none⟩=some (.string d.name):=by rw[hW2];go_simp
      have d2:W2.cell? ⟨wr.heap.size,2,none⟩=some (.slice op d.params.length capp):=by rw[hW2];go_simp
      have d3:W2.cell? ⟨wr.heap.size,3,none⟩=some (.slice oi ni capi):=by rw[hW2];go_simp
      have d4:W2.cell? ⟨wr.heap.size,4,none⟩=some (.int .i64 d.type):=by rw[hW2];go_simp
      have d5:W2.cell? ⟨wr.heap.size,5,none⟩=some (.int .i64 d.e):=by rw[hW2];go_simp
      have d6:W2.cell? ⟨wr.heap.size,6,none⟩=some (.int .i64 d.pos):=by rw[hW2];go_simp
      clear hW2 c0 c1 c2 c3 c4 c5 c6 ix g1 g2
      have Ge2:=fun pr:Regrown=>cell_regrown e2 pr.d pr.os
      have Gd0:=fun pr:Regrown=>cell_regrown d0 pr.d pr.os
      have Gd1:=fun pr:Regrown=>cell_regrown d1 pr.d pr.os
      have Gd2:=fun pr:Regrown=>cell_regrown d2 pr.d pr.os
      have Gd3:=fun pr:Regrown=>cell_regrown d3 pr.d pr.os
      have Gd4:=fun pr:Regrown=>cell_regrown d4 pr.d pr.os
      have Gd5:=fun pr:Regrown=>cell_regrown d5 pr.d pr.os
      have Gd6:=fun pr:Regrown=>cell_regrown d6 pr.d pr.os
      have D3:=Hd d3
      clear e2 d0 d1 d2 d3 d4 d5 d6 e3
      have cV:∀pr:Regrown,Calls prog 33 #[.agg #[.int .i64 d.kind,.string d.name,.slice op d.params.length capp,.slice oi ni capi,.int .i64 d.type,.int .i64 d.e,.int .i64 d.pos]] (Go.Sort.grow (redrawn W2 pr.d) pr.os) fun e w''=>e=.returned (.bool (hasVal d.kind))∧∃p:Regrown,w''=Go.Sort.grow (redrawn W2 p.d) p.os:=fun pr=>Calls.regrown_of (hasValue_any _ _ _ _ _ _ _ _)
      have cS:∀pr:Regrown,Calls prog 32 #[.bool (hasVal d.kind),.int .i64 d.e,.pointer (some ⟨w.heap.size,0,none⟩)] (Go.Sort.grow (redrawn W2 pr.d) pr.os) fun e w''=>e=.returned (.bool true)∧∃p:Regrown,w''=Go.Sort.grow (redrawn W2 p.d) p.os:=fun pr=>Calls.regrown_of (by rw[←HST.out];exact stands_below _ _ _ _ _ _ _ (Ge2 pr))
      have CV:=Hd cV
      have CS:=Hd cS
      clear cV cS
      refine wp_region_quiet_below (by kernel_rfl) (by kernel_rfl) ?_
      repeat (go_big_quiet_step (first | with_reducible exact CV.out _ | with_reducible exact CS.out _))
      refine wpQuiet_nil ?_
      intro w4 hw4
      have HB3:Hid (Below W2.heap.size W2 w4):=Hd (by obtain⟨pr,rfl⟩:=hw4;exact below_regrown _ _ _)
      clear hw4 Ge2 Gd0 Gd1 Gd2 Gd3 Gd4 Gd5 Gd6 CV CS
      have y4:w4.cell? ⟨wr.heap.size,3,none⟩=some (.slice oi ni capi):=cell_on HB3.out D3.out
      have hW4:=Hd (hW.out.trans ((hb2.out.trans (HB3.out.mono hb2.out.size)).mono hW.out.size))
      have hB4:Hid (w4.heap[w.heap.size]?=some (.cells #[(.slice o1 m dcap),(.slice o2 k cap)] 25 (0,0))):=Hd (((hb2.out.trans (HB3.out.mono hb2.out.size)).block _ (lt_of_heap hB.out)).trans hB.out)
      have hnl:(ni:Int)≤600:=by have:=(hS.out.de d (List.mem_of_getElem? HDJ.out)).2.1;have:=HN.out;omega
      clear hW hB
      go_wp2_with fail
      clear y4 HB3 hb2
      go_loopw [41] (fun i wr=>∃(l:Nat),i=.int .i64 l∧l≤ni∧Hid (∀i,i<l→∀y,d.items[i]?=some y→mayI k y=true)∧Hid (Below w.heap.size w wr)∧Hid (wr.heap[w.heap.size]?=some (.cells #[(.slice o1 m dcap),(.slice o2 k cap)] 25 (0,0)))) (fun i _=>ni-litLen i)
      case atStart=>exact⟨0,rfl,Nat.zero_le _,Hd fun i hi=>by omega,hW4,hB4⟩
      case round =>
       clear hW4 hB4
       obtain⟨l,rfl,hl1,hY,hW,hB⟩:=hrel
       have g1:wr.cell? ⟨w.heap.size,0,none⟩=some (.slice o1 m dcap):=by simp[World.cell?,hB.out]
       have g2:wr.cell? ⟨w.heap.size,1,none⟩=some (.slice o2 k cap):=by simp[World.cell?,hB.out]
       rcases Nat.lt_or_ge l ni with hlt2 | hge2
       ·have hl2:(l:Int)<(ni:Int):=by omega
        obtain⟨y,hyl⟩:∃x,d.items[l]?=some x:=⟨_,List.getElem?_eq_getElem (by have:=HN.out;omega)⟩
        obtain⟨os,caps,hok,i0,i1,i2,i3,i4,i5,i6,i7,i8⟩:=it_cells ((HI4.out l hlt2 y hyl).below hW.out)
        have ix:=ix_its (cap:=capi) HI3.out hlt2 (by omega)
        unfold Ix at ix
        have HYL:=Hd hyl
        clear hok hyl
        cases hs1:standsE k (hasE y.kind) y.e with
        | false =>
         have S1:=Hd hs1
         have HM:=Hd (mayP_de HDJ.out (mayD_it HYL.out (show mayI p.exprs.length y=false by rw[hn.out];unfold mayI;rw[hs1];rfl)))
         clear hs1
         go_wp2_with fail
         obtain⟨W5,hW5⟩:∃W5,W5=wr.alloc (.cells #[.int .i64 y.kind,.string y.name,.int .i64 y.type,.int .i64 y.e,.int .i64 y.f,.slice os y.states.length caps,.string y.state,.string y.next,.int .i64 y.pos] 36):=⟨_,rfl⟩
         rw[←hW5]
         have hb5:=Hd (show Below wr.heap.size wr W5 by rw[hW5];exact below_al (qB _ _) _)
         have q9:W5.cell? ⟨w.heap.size,1,none⟩=some (.slice o2 k cap):=cell_on hb5.out g2
         have q0:W5.cell? ⟨wr.heap.size,0,none⟩=some (.int .i64 y.kind):=by rw[hW5];go_simp
         have q1:W5.cell? ⟨wr.heap.size,1,none⟩=some (.string y.name):=by rw[hW5];go_simp
         have q2:W5.cell? ⟨wr.heap.size,2,none⟩=some (.int .i64 y.type):=by rw[hW5];go_simp
         have q3:W5.cell? ⟨wr.heap.size,3,none⟩=some (.int .i64 y.e):=by rw[hW5];go_simp
         have q4:W5.cell? ⟨wr.heap.size,4,none⟩=some (.int .i64 y.f):=by rw[hW5];go_simp
         have q5:W5.cell? ⟨wr.heap.size,5,none⟩=some (.slice os y.states.length caps):=by rw[hW5];go_simp
         have q6:W5.cell? ⟨wr.heap.size,6,none⟩=some (.string y.state):=by rw[hW5];go_simp
         have q7:W5.cell? ⟨wr.heap.size,7,none⟩=some (.string y.next):=by rw[hW5];go_simp
         have q8:W5.cell? ⟨wr.heap.size,8,none⟩=some (.int .i64 y.pos):=by rw[hW5];go_simp
         clear hW5 i0 i1 i2 i3 i4 i5 i6 i7 i8 ix g1 g2
         have Gq9:=fun pr:Regrown=>cell_regrown q9 pr.d pr.os
         have Gq0:=fun pr:Regrown=>cell_regrown q0 pr.d pr.os
         have Gq1:=fun pr:Regrown=>cell_regrown q1 pr.d pr.os
         have Gq2:=fun pr:Regrown=>cell_regrown q2 pr.d pr.os
         have Gq3:=fun pr:Regrown=>cell_regrown q3 pr.d pr.os
         have Gq4:=fun pr:Regrown=>cell_regrown q4 pr.d pr.os
         have Gq5:=fun pr:Regrown=>cell_regrown q5 pr.d pr.os
         have Gq6:=fun pr:Regrown=>cell_regrown q6 pr.d pr.os
         have Gq7:=fun pr:Regrown=>cell_regrown q7 pr.d pr.os
         have Gq8:=fun pr:Regrown=>cell_regrown q8 pr.d pr.os
         clear q9 q0 q1 q2 q3 q4 q5 q6 q7 q8
         have CE:Hid (∀pr:Regrown,Calls prog 34 #[.agg #[.int .i64 y.kind,.string y.name,.int .i64 y.type,.int .i64 y.e,.int .i64 y.f,.slice os y.states.length caps,.string y.state,.string y.next,.int .i64 y.pos]] (Go.Sort.grow (redrawn W5 pr.d) pr.os) fun e w''=>e=.returned (.bool (hasE y.kind))∧∃p:Regrown,w''=Go.Sort.grow (redrawn W5 p.d) p.os):=Hd fun pr=>Calls.regrown_of (hasE_any _ _ _ _ _ _ _ _ _ _)
         have CS:Hid (∀pr:Regrown,Calls prog 32 #[.bool (hasE y.kind),.int .i64 y.e,.pointer (some ⟨w.heap.size,0,none⟩)] (Go.Sort.grow (redrawn W5 pr.d) pr.os) fun e w''=>e=.returned (.bool (false))∧∃p:Regrown,w''=Go.Sort.grow (redrawn W5 p.d) p.os):=Hd fun pr=>Calls.regrown_of (by rw[←S1.out];exact stands_below _ _ _ _ _ _ _ (Gq9 pr))
         refine wp_region_quiet_below (by kernel_rfl) (by kernel_rfl) ?_
         repeat (go_big_quiet_step (first | with_reducible exact CE.out _ | with_reducible exact CS.out _))
         refine wpQuiet_nil ?_
         intro w7 hw7
         have HB3:Hid (Below W5.heap.size W5 w7):=Hd (by obtain⟨pr,rfl⟩:=hw7;exact below_regrown _ _ _)
         clear hw7 Gq9 Gq0 Gq1 Gq2 Gq3 Gq4 Gq5 Gq6 Gq7 Gq8 CE CS
         go_wp2_with fail
         go_ret
         exact⟨by rw[HM.out];rfl,hW.out.trans ((hb5.out.trans (HB3.out.mono hb5.out.size)).mono hW.out.size)⟩
        | true =>
         have S1:=Hd hs1
         clear hs1
         cases hs2:standsE k (hasF y.kind) y.f with
         | false =>
          have S2:=Hd hs2
          have HM:=Hd (mayP_de HDJ.out (mayD_it HYL.out (show mayI p.exprs.length y=false by rw[hn.out];unfold mayI;rw[S1.out,hs2];rfl)))
          clear hs2
          go_wp2_with fail
          obtain⟨W5,hW5⟩:∃W5,W5=wr.alloc (.cells #[.int .i64 y.kind,.string y.name,.int .i64 y.type,.int .i64 y.e,.int .i64 y.f,.slice os y.states.length caps,.string y.state,.string y.next,.int .i64 y.pos] 36):=⟨_,rfl⟩
          rw[←hW5]
          have hb5:=Hd (show Below wr.heap.size wr W5 by rw[hW5];exact below_al (qB _ _) _)
          have q9:W5.cell? ⟨w.heap.size,1,none⟩=some (.slice o2 k cap):=cell_on hb5.out g2
          have q0:W5.cell? ⟨wr.heap.size,0,none⟩=some (.int .i64 y.kind):=by rw[hW5];go_simp
          have q1:W5.cell? ⟨wr.heap.size,1,none⟩=some (.string y.name):=by rw[hW5];go_simp
          have q2:W5.cell? ⟨wr.heap.size,2,none⟩=some (.int .i64 y.type):=by rw[hW5];go_simp
          have q3:W5.cell? ⟨wr.heap.size,3,none⟩=some (.int .i64 y.e):=by rw[hW5];go_simp
          have q4:W5.cell? ⟨wr.heap.size,4,none⟩=some (.int .i64 y.f):=by rw[hW5];go_simp
          have q5:W5.cell? ⟨wr.heap.size,5,none⟩=some (.slice os y.states.length caps):=by rw[hW5];go_simp
          have q6:W5.cell? ⟨wr.heap.size,6,none⟩=some (.string y.state):=by rw[hW5];go_simp
          have q7:W5.cell? ⟨wr.heap.size,7,none⟩=some (.string y.next):=by rw[hW5];go_simp
          have q8:W5.cell? ⟨wr.heap.size,8,none⟩=some (.int .i64 y.pos):=by rw[hW5];go_simp
          clear hW5 i0 i1 i2 i3 i4 i5 i6 i7 i8 ix g1 g2
          have Gq9:=fun pr:Regrown=>cell_regrown q9 pr.d pr.os
          have Gq0:=fun pr:Regrown=>cell_regrown q0 pr.d pr.os
          have Gq1:=fun pr:Regrown=>cell_regrown q1 pr.d pr.os
          have Gq2:=fun pr:Regrown=>cell_regrown q2 pr.d pr.os
          have Gq3:=fun pr:Regrown=>cell_regrown q3 pr.d pr.os
          have Gq4:=fun pr:Regrown=>cell_regrown q4 pr.d pr.os
          have Gq5:=fun pr:Regrown=>cell_regrown q5 pr.d pr.os
          have Gq6:=fun pr:Regrown=>cell_regrown q6 pr.d pr.os
          have Gq7:=fun pr:Regrown=>cell_regrown q7 pr.d pr.os
          have Gq8:=fun pr:Regrown=>cell_regrown q8 pr.d pr.os
          clear q9 q0 q1 q2 q3 q4 q5 q6 q7 q8
          have CE:Hid (∀pr:Regrown,Calls prog 34 #[.agg #[.int .i64 y.kind,.string y.name,.int .i64 y.type,.int .i64 y.e,.int .i64 y.f,.slice os y.states.length caps,.string y.state,.string y.next,.int .i64 y.pos]] (Go.Sort.grow (redrawn W5 pr.d) pr.os) fun e w''=>e=.returned (.bool (hasE y.kind))∧∃p:Regrown,w''=Go.Sort.grow (redrawn W5 p.d) p.os):=Hd fun pr=>Calls.regrown_of (hasE_any _ _ _ _ _ _ _ _ _ _)
          have CS:Hid (∀pr:Regrown,Calls prog 32 #[.bool (hasE y.kind),.int .i64 y.e,.pointer (some ⟨w.heap.size,0,none⟩)] (Go.Sort.grow (redrawn W5 pr.d) pr.os) fun e w''=>e=.returned (.bool (true))∧∃p:Regrown,w''=Go.Sort.grow (redrawn W5 p.d) p.os):=Hd fun pr=>Calls.regrown_of (by rw[←S1.out];exact stands_below _ _ _ _ _ _ _ (Gq9 pr))
          have CF:Hid (∀pr:Regrown,Calls prog 35 #[.agg #[.int .i64 y.kind,.string y.name,.int .i64 y.type,.int .i64 y.e,.int .i64 y.f,.slice os y.states.length caps,.string y.state,.string y.next,.int .i64 y.pos]] (Go.Sort.grow (redrawn W5 pr.d) pr.os) fun e w''=>e=.returned (.bool (hasF y.kind))∧∃p:Regrown,w''=Go.Sort.grow (redrawn W5 p.d) p.os):=Hd fun pr=>Calls.regrown_of (hasF_any _ _ _ _ _ _ _ _ _ _)
          have CT:Hid (∀pr:Regrown,Calls prog 32 #[.bool (hasF y.kind),.int .i64 y.f,.pointer (some ⟨w.heap.size,0,none⟩)] (Go.Sort.grow (redrawn W5 pr.d) pr.os) fun e w''=>e=.returned (.bool (false))∧∃p:Regrown,w''=Go.Sort.grow (redrawn W5 p.d) p.os):=Hd fun pr=>Calls.regrown_of (by rw[←S2.out];exact stands_below _ _ _ _ _ _ _ (Gq9 pr))
          refine wp_region_quiet_below (by kernel_rfl) (by kernel_rfl) ?_
          repeat (go_big_quiet_step (first | with_reducible exact CE.out _ | with_reducible exact CS.out _ | with_reducible exact CF.out _ | with_reducible exact CT.out _))
          refine wpQuiet_nil ?_
          intro w7 hw7
          have HB3:Hid (Below W5.heap.size W5 w7):=Hd (by obtain⟨pr,rfl⟩:=hw7;exact below_regrown _ _ _)
          clear hw7 Gq9 Gq0 Gq1 Gq2 Gq3 Gq4 Gq5 Gq6 Gq7 Gq8 CE CS CF CT
          go_wp2_with fail
          go_ret
          exact⟨by rw[HM.out];rfl,hW.out.trans ((hb5.out.trans (HB3.out.mono hb5.out.size)).mono hW.out.size)⟩
         | true =>
          have S2:=Hd hs2
          clear hs2
          go_wp2_with fail
          obtain⟨W5,hW5⟩:∃W5,W5=wr.alloc (.cells #[.int .i64 y.kind,.string y.name,.int .i64 y.type,.int .i64 y.e,.int .i64 y.f,.slice os y.states.length caps,.string y.state,.string y.next,.int .i64 y.pos] 36):=⟨_,rfl⟩
          rw[←hW5]
          have hb5:=Hd (show Below wr.heap.size wr W5 by rw[hW5];exact below_al (qB _ _) _)
          have q9:W5.cell? ⟨w.heap.size,1,none⟩=some (.slice o2 k cap):=cell_on hb5.out g2
          have q0:W5.cell? ⟨wr.heap.size,0,none⟩=some (.int .i64 y.kind):=by rw[hW5];go_simp
          have q1:W5.cell? ⟨wr.heap.size,1,none⟩=some (.string y.name):=by rw[hW5];go_simp
          have q2:W5.cell? ⟨wr.heap.size,2,none⟩=some (.int .i64 y.type):=by rw[hW5];go_simp
          have q3:W5.cell? ⟨wr.heap.size,3,none⟩=some (.int .i64 y.e):=by rw[hW5];go_simp
          have q4:W5.cell? ⟨wr.heap.size,4,none⟩=some (.int .i64 y.f):=by rw[hW5];go_simp
          have q5:W5.cell? ⟨wr.heap.size,5,none⟩=some (.slice os y.states.length caps):=by rw[hW5];go_simp
          have q6:W5.cell? ⟨wr.heap.size,6,none⟩=some (.string y.state):=by rw[hW5];go_simp
          have q7:W5.cell? ⟨wr.heap.size,7,none⟩=some (.string y.next):=by rw[hW5];go_simp
          have q8:W5.cell? ⟨wr.heap.size,8,none⟩=some (.int .i64 y.pos):=by rw[hW5];go_simp
          clear hW5 i0 i1 i2 i3 i4 i5 i6 i7 i8 ix g1 g2
          have Gq9:=fun pr:Regrown=>cell_regrown q9 pr.d pr.os
          have Gq0:=fun pr:Regrown=>cell_regrown q0 pr.d pr.os
          have Gq1:=fun pr:Regrown=>cell_regrown q1 pr.d pr.os
          have Gq2:=fun pr:Regrown=>cell_regrown q2 pr.d pr.os
          have Gq3:=fun pr:Regrown=>cell_regrown q3 pr.d pr.os
          have Gq4:=fun pr:Regrown=>cell_regrown q4 pr.d pr.os
          have Gq5:=fun pr:Regrown=>cell_regrown q5 pr.d pr.os
          have Gq6:=fun pr:Regrown=>cell_regrown q6 pr.d pr.os
          have Gq7:=fun pr:Regrown=>cell_regrown q7 pr.d pr.os
          have Gq8:=fun pr:Regrown=>cell_regrown q8 pr.d pr.os
          clear q9 q0 q1 q2 q3 q4 q5 q6 q7 q8
          have CE:Hid (∀pr:Regrown,Calls prog 34 #[.agg #[.int .i64 y.kind,.string y.name,.int .i64 y.type,.int .i64 y.e,.int .i64 y.f,.slice os y.states.length caps,.string y.state,.string y.next,.int .i64 y.pos]] (Go.Sort.grow (redrawn W5 pr.d) pr.os) fun e w''=>e=.returned (.bool (hasE y.kind))∧∃p:Regrown,w''=Go.Sort.grow (redrawn W5 p.d) p.os):=Hd fun pr=>Calls.regrown_of (hasE_any _ _ _ _ _ _ _ _ _ _)
          have CS:Hid (∀pr:Regrown,Calls prog 32 #[.bool (hasE y.kind),.int .i64 y.e,.pointer (some ⟨w.heap.size,0,none⟩)] (Go.Sort.grow (redrawn W5 pr.d) pr.os) fun e w''=>e=.returned (.bool (true))∧∃p:Regrown,w''=Go.Sort.grow (redrawn W5 p.d) p.os):=Hd fun pr=>Calls.regrown_of (by rw[←S1.out];exact stands_below _ _ _ _ _ _ _ (Gq9 pr))
          have CF:Hid (∀pr:Regrown,Calls prog 35 #[.agg #[.int .i64 y.kind,.string y.name,.int .i64 y.type,.int .i64 y.e,.int .i64 y.f,.slice os y.states.length caps,.string y.state,.string y.next,.int .i64 y.pos]] (Go.Sort.grow (redrawn W5 pr.d) pr.os) fun e w''=>e=.returned (.bool (hasF y.kind))∧∃p:Regrown,w''=Go.Sort.grow (redrawn W5 p.d) p.os):=Hd fun pr=>Calls.regrown_of (hasF_any _ _ _ _ _ _ _ _ _ _)
          have CT:Hid (∀pr:Regrown,Calls prog 32 #[.bool (hasF y.kind),.int .i64 y.f,.pointer (some ⟨w.heap.size,0,none⟩)] (Go.Sort.grow (redrawn W5 pr.d) pr.os) fun e w''=>e=.returned (.bool (true))∧∃p:Regrown,w''=Go.Sort.grow (redrawn W5 p.d) p.os):=Hd fun pr=>Calls.regrown_of (by rw[←S2.out];exact stands_below _ _ _ _ _ _ _ (Gq9 pr))
          refine wp_region_quiet_below (by kernel_rfl) (by kernel_rfl) ?_
          repeat (go_big_quiet_step (first | with_reducible exact CE.out _ | with_reducible exact CS.out _ | with_reducible exact CF.out _ | with_reducible exact CT.out _))
          refine wpQuiet_nil ?_
          intro w7 hw7
          have HB3:Hid (Below W5.heap.size W5 w7):=Hd (by obtain⟨pr,rfl⟩:=hw7;exact below_regrown _ _ _)
          clear hw7 Gq9 Gq0 Gq1 Gq2 Gq3 Gq4 Gq5 Gq6 Gq7 Gq8 CE CS CF CT
          go_wp2_with fail
          go_roundw
          case rel =>
           have hb8:=hb5.out.trans (HB3.out.mono hb5.out.size)
           refine⟨l+1,by go_num,by omega,Hd fun i hi y2 hy2=>?_,Hd (hW.out.trans (hb8.mono hW.out.size)),Hd ((hb8.block _ (lt_of_heap hB.out)).trans hB.out)⟩
           rcases Nat.lt_or_ge i l with h | h
           ·exact hY.out i h y2 hy2
           ·obtain rfl:i=l:=by omega
            rw[HYL.out] at hy2
            obtain rfl:=qI hy2
            unfold mayI;rw[S1.out,S2.out];rfl
          case measure=>simp[litLen];omega
       ·obtain rfl:l=ni:=by omega
        have hdd:Hid (mayD k d=true):=Hd (by unfold mayD;rw[HST.out,mayI_all hY.out (by rw[HN.out];exact qL _)];rfl)
        go_wp2_with fail
        go_roundw
        case rel =>
         refine⟨j+1,by go_num,by omega,Hd fun i hi d2 hd2=>?_,hW,hB⟩
         rcases Nat.lt_or_ge i j with h | h
         ·exact hX.out i h d2 hd2
         ·obtain rfl:i=j:=by omega
          rw[HDJ.out] at hd2
          obtain rfl:=qI hd2
          exact hdd.out
        case measure=>simp[litLen];omega
    ·obtain rfl:j=m:=by omega
     have hP:Hid (mayP p=true):=Hd (by unfold mayP;rw[hEX.out,hn.out,mayD_all hX.out (by rw[hm.out];exact qL _)];rfl)
     go_wp2_with fail
     go_ret
     exact⟨by rw[hP.out];rfl,hW.out⟩
theorem parts_small {p:Pr} (h:Small p) {i:Nat} {x:Ex} (hx:p.exprs[i]?=some x):(partsE x).length≤1000:=by
 by_cases h19:x.kind=19
 ·rw[partsE_19 h19]
  have:=h.ex x (List.mem_of_getElem? hx)
  unfold wEx at this
  omega
 ·rw[partsE_len h19];have:=manyOf_le x.kind;omega
theorem refMay_core (o1 o2:Option Addr) (b off cap db doff dcap:Nat) (p:Pr) (n m:Nat) (hn:Hid (p.exprs.length=n)) (hm:Hid (p.decls.length=m)) (nl:(n:Int)≤300) (ml:(m:Int)≤60) (w:World)
  (hS:Hid (Small p)) (he:Hid (0<n→o2=some ⟨b,off,none⟩)) (hd:Hid (0<m→o1=some ⟨db,doff,none⟩))
  (hc:Hid (∀i,i<n→∀x,p.exprs[i]?=some x→ExAt w b (off+i*9) x)) (hdc:Hid (∀i,i<m→∀x,p.decls[i]?=some x→DeAt w db (doff+i*7) x)) :
  Calls prog 6 #[.agg #[(.slice o1 m dcap),(.slice o2 n cap)]] w fun e w'=>MayPost (mayP p) w e w':=by
 have hW0:=Hd (below_al (qB w.heap.size w) (.cells #[(.slice o1 m dcap),(.slice o2 n cap)] 25))
 have hB0:Hid ((w.alloc (.cells #[(.slice o1 m dcap),(.slice o2 n cap)] 25)).heap[w.heap.size]?=some (.cells #[(.slice o1 m dcap),(.slice o2 n cap)] 25 (0,0))):=Hd (World.alloc_heap_new w _)
 go_enter Tryz.func6,Tryz.ntmps6
 go_wp2_with fail
 go_loopw [3] (fun i wr=>∃(k:Nat),i=.int .i64 k∧k≤n∧Hid (∀i,i<k→mayX p.exprs i=true)∧Hid (Below w.heap.size w wr)∧Hid (wr.heap[w.heap.size]?=some (.cells #[(.slice o1 m dcap),(.slice o2 n cap)] 25 (0,0)))) (fun i _=>n-litLen i)
 case atStart=>exact⟨0,rfl,Nat.zero_le _,Hd fun i hi=>by omega,hW0,hB0⟩
 case round =>
  clear hW0 hB0
  obtain⟨k,rfl,hk,hX,hW,hB⟩:=hrel
  have g1:wr.cell? ⟨w.heap.size,0,none⟩=some (.slice o1 m dcap):=by simp[World.cell?,hB.out]
  have g2:wr.cell? ⟨w.heap.size,1,none⟩=some (.slice o2 n cap):=by simp[World.cell?,hB.out]
  rcases Nat.lt_or_ge k n with hlt | hge
  ·have hl:(k:Int)<(n:Int):=by omega
   obtain⟨x,hxk⟩:∃x,p.exprs[k]?=some x:=⟨_,List.getElem?_eq_getElem (by have:=hn.out;omega)⟩
   obtain⟨oa,capa,hargs,hok,c0,c1,c2,c3,c4,c5,c6,c7,c8⟩:=ex_cells ((hc.out k hlt x hxk).below hW.out)
   have HA:=Hd hargs
   have HO:=Hd hok
   have HX:=Hd hxk
   have hpl:=Hd (parts_small hS.out hxk)
   have ix:=ix_exs (cap:=cap) he.out hlt (by omega)
   unfold Ix at ix
   clear hargs hok hxk
   have C:Hid (Calls prog 14 #[.agg #[.int .i64 x.kind,.int .i64 x.a,.int .i64 x.b,.int .i64 x.c,.string x.name,.string x.state,.int .i64 x.v,.slice oa x.args.length capa,.int .i64 x.pos],.int .i64 (k:Int)] wr fun e w'=>MayPost (mayE x k) wr e w') :=
    Hd (one_any x oa capa k wr HA.out HO.out hpl.out)
   cases hme:mayE x k with
   | true =>
    rw[hme] at C
    have HM:=Hd hme
    clear hme
    go_wp2_with (go_at_call 14;((with_reducible refine C.out.mono ?_);rintro e w1 ⟨rfl,hb1⟩;have HB1:=Hd hb1;clear hb1))
    go_roundw
    case rel =>
     refine⟨k+1,by go_num,by omega,Hd fun i hi=>?_,Hd (hW.out.trans (HB1.out.mono hW.out.size)),Hd ((HB1.out.block _ (lt_of_heap hB.out)).trans hB.out)⟩
     rcases Nat.lt_or_ge i k with h | h
     ·exact hX.out i h
     ·obtain rfl:i=k:=by omega
      unfold mayX;rw[HX.out];exact HM.out
    case measure=>simp[litLen];omega
   | false =>
    rw[hme] at C
    have HM:=Hd (mayP_ex HX.out hme)
    clear hme
    go_wp2_with (go_at_call 14;((with_reducible refine C.out.mono ?_);rintro e w1 ⟨rfl,hb1⟩;have HB1:=Hd hb1;clear hb1))
    go_ret
    exact⟨by rw[HM.out];rfl,hW.out.trans (HB1.out.mono hW.out.size)⟩
  ·obtain rfl:k=n:=by omega
   have hEX:=Hd (mayX_all hX.out (by rw[hn.out];exact qL _))
   clear hX
   go_wp2_with fail
   clear g1 g2
   go_loopw [4] (fun i wr=>∃(j:Nat),i=.int .i64 j∧j≤m∧Hid (∀i,i<j→∀d,p.decls[i]?=some d→mayD k d=true)∧Hid (Below w.heap.size w wr)∧Hid (wr.heap[w.heap.size]?=some (.cells #[(.slice o1 m dcap),(.slice o2 k cap)] 25 (0,0)))) (fun i _=>m-litLen i)
   case atStart=>exact⟨0,rfl,Nat.zero_le _,Hd fun i hi=>by omega,hW,hB⟩
   case round =>
    clear hW hB
    obtain⟨j,rfl,hj,hX,hW,hB⟩:=hrel
    have g1:wr.cell? ⟨w.heap.size,0,none⟩=some (.slice o1 m dcap):=by simp[World.cell?,hB.out]
    have g2:wr.cell? ⟨w.heap.size,1,none⟩=some (.slice o2 k cap):=by simp[World.cell?,hB.out]
    have hz0:w.heap.size<wr.heap.size:=lt_of_heap hB.out
    rcases Nat.lt_or_ge j m with hlt | hge
    ·have hl:(j:Int)<(m:Int):=by omega
     obtain⟨d,hdj⟩:∃x,p.decls[j]?=some x:=⟨_,List.getElem?_eq_getElem (by have:=hm.out;omega)⟩
     obtain⟨op,capp,oi,capi,bi,offi,hok,c0,c1,c2,c3,c4,c5,c6,hi3,hi4⟩:=de_cells' (hdc.out j hlt d hdj) hW.out
     have ix:=ix_des (cap:=dcap) hd.out hlt (by omega)
     unfold Ix at ix
     obtain⟨ni,hni⟩:∃ni,ni=d.items.length:=⟨_,rfl⟩
     rw[←hni] at c3 hi3 hi4
     have HN:=Hd hni
     clear hni
     have HI3:=Hd hi3
     have HI4:=Hd hi4
     have HDJ:=Hd hdj
     clear hi3 hi4 hok hdj
     have hnl:(ni:Int)≤600:=by have:=(hS.out.de d (List.mem_of_getElem? HDJ.out)).2.1;have:=HN.out;omega
     have hal:=Hd (below_al (qB wr.heap.size wr) (.cells #[.int .i64 d.kind,.string d.name,.slice op d.params.length capp,.slice oi ni capi,.int .i64 d.type,.int .i64 d.e,.int .i64 d.pos] 33))
     have hBn:=Hd (World.alloc_heap_new wr (.cells #[.int .i64 d.kind,.string d.name,.slice op d.params.length capp,.slice oi ni capi,.int .i64 d.type,.int .i64 d.e,.int .i64 d.pos] 33))
     obtain⟨sv,hsv⟩:∃sv,sv=standsE k (hasVal d.kind) d.e:=⟨_,rfl⟩
     obtain⟨hv,hhv⟩:∃hv,hv=hasVal d.kind:=⟨_,rfl⟩
     have CP:Hid (∀W,Calls prog 15 #[.agg #[.slice o1 m dcap,.slice o2 k cap],.int .i64 d.e,.bool hv] W fun r w'=>r=.returned (.bool sv)∧Below W.heap.size W w'):=Hd fun W=>by rw[hsv,hhv];exact points_any _ _ _ _ _ _ _ _ _
     have HSV:=Hd hsv
     have hthree:((d.kind ==1)=true∧hv=true)∨((d.kind ==1)=false∧(d.kind ==2)=true∧hv=true)∨((d.kind ==1)=false∧(d.kind ==2)=false∧hv=false):=by
      rw[hhv]
      by_cases k1:d.kind=1
      ·exact .inl ⟨by rw[k1];rfl,by rw[k1];rfl⟩
      ·by_cases k2:d.kind=2
       ·exact .inr (.inl ⟨beq_false_of_ne k1,by rw[k2];rfl,by rw[k2];rfl⟩)
       ·exact .inr (.inr ⟨beq_false_of_ne k1,beq_false_of_ne k2,by unfold hasVal;rw[qF k1,qF k2];rfl⟩)
     clear hsv hhv
     cases sv with
     | false =>
      have HM:=Hd (mayP_de HDJ.out (show mayD p.exprs.length d=false by rw[hn.out];unfold mayD;rw[←HSV.out];rfl))
      rcases hthree with ⟨t1,rfl⟩ | ⟨t1,t2,rfl⟩ | ⟨t1,t2,rfl⟩
      all_goals
       go_wp2_with (go_at_call 15;((with_reducible refine(CP.out _).mono ?_);rintro e w1 ⟨rfl,hb1⟩;have HB1:=Hd hb1;clear hb1))
       go_ret
       exact⟨by rw[HM.out];rfl,hW.out.trans ((hal.out.trans (HB1.out.mono hal.out.size)).mono hW.out.size)⟩
     | true =>
      have CP':Hid (∀(W:World) (has:Bool) (q:Int),Calls prog 15 #[.agg #[.slice o1 m dcap,.slice o2 k cap],.int .i64 q,.bool has] W fun r w'=>r=.returned (.bool (standsE k has q))∧Below W.heap.size W w'):=Hd fun W has q=>points_any _ _ _ _ _ _ _ _ _
      rcases hthree with ⟨t1,rfl⟩ | ⟨t1,t2,rfl⟩ | ⟨t1,t2,rfl⟩
      all_goals
       go_wp2_with (go_at_call 15;((with_reducible refine(CP.out _).mono ?_);rintro e w1 ⟨rfl,hb1⟩;have HB1:=Hd hb1;clear hb1))
       have hbb:=Hd (hal.out.trans (HB1.out.mono hal.out.size))
       have hW4:=Hd (hW.out.trans (hbb.out.mono hW.out.size))
       have hB4:Hid (w1.heap[w.heap.size]?=some (.cells #[(.slice o1 m dcap),(.slice o2 k cap)] 25 (0,0))):=Hd ((hbb.out.block _ (lt_of_heap hB.out)).trans hB.out)
       have hD4:Hid (w1.heap[wr.heap.size]?=some (.cells #[.int .i64 d.kind,.string d.name,.slice op d.params.length capp,.slice oi ni capi,.int .i64 d.type,.int .i64 d.e,.int .i64 d.pos] 33 (0,0))):=Hd ((HB1.out.block _ (lt_of_heap hBn.out)).trans hBn.out)
       clear hW hB hal hBn HB1 hbb c0 c1 c2 c3 c4 c5 c6 ix g1 g2 CP t1
       obtain⟨q,hq⟩:∃q,q=wr.heap.size:=⟨_,rfl⟩
       rw[←hq] at hD4 ⊢
       clear hq
       go_loopw [6] (fun i wr=>∃(l:Nat),i=.int .i64 l∧l≤ni∧Hid (∀i,i<l→∀y,d.items[i]?=some y→mayI k y=true)∧Hid (Below w.heap.size w wr)∧Hid (wr.heap[w.heap.size]?=some (.cells #[(.slice o1 m dcap),(.slice o2 k cap)] 25 (0,0)))∧Hid (wr.heap[q]?=some (.cells #[.int .i64 d.kind,.string d.name,.slice op d.params.length capp,.slice oi ni capi,.int .i64 d.type,.int .i64 d.e,.int .i64 d.pos] 33 (0,0)))) (fun i _=>ni-litLen i)
       case atStart=>exact⟨0,rfl,Nat.zero_le _,Hd fun i hi=>by omega,hW4,hB4,hD4⟩
       case round =>
        clear hW4 hB4 hD4
        obtain⟨l,rfl,hl1,hY,hW,hB,hD⟩:=hrel
        have g1:wr.cell? ⟨w.heap.size,0,none⟩=some (.slice o1 m dcap):=by simp[World.cell?,hB.out]
        have g2:wr.cell? ⟨w.heap.size,1,none⟩=some (.slice o2 k cap):=by simp[World.cell?,hB.out]
        have g3:wr.cell? ⟨q,3,none⟩=some (.slice oi ni capi):=by simp[World.cell?,hD.out]
        rcases Nat.lt_or_ge l ni with hlt2 | hge2
        ·have hl2:(l:Int)<(ni:Int):=by omega
         obtain⟨y,hyl⟩:∃x,d.items[l]?=some x:=⟨_,List.getElem?_eq_getElem (by have:=HN.out;omega)⟩
         obtain⟨os,caps,hok,i0,i1,i2,i3,i4,i5,i6,i7,i8⟩:=it_cells ((HI4.out l hlt2 y hyl).below hW.out)
         have ix:=ix_its (cap:=capi) HI3.out hlt2 (by omega)
         unfold Ix at ix
         have HYL:=Hd hyl
         clear hok hyl i1 i2 i5 i6 i7 i8
         obtain⟨he1,hhe⟩:∃h,h=hasE y.kind:=⟨_,rfl⟩
         obtain⟨hf1,hhf⟩:∃h,h=hasF y.kind:=⟨_,rfl⟩
         have CH:Hid (∀W,Calls prog 16 #[.int .i64 y.kind] W fun e w'=>e=.returned (.tuple #[.bool he1,.bool hf1])∧W=w'):=Hd fun W=>by rw[hhe,hhf];exact(has_any _ W).mono fun _ _ h=>⟨h.1,h.2.symm⟩
         have HHE:=Hd hhe
         have HHF:=Hd hhf
         clear hhe hhf
         cases hs1:standsE k he1 y.e with
         | false =>
          have S1:=Hd hs1
          have HM:=Hd (mayP_de HDJ.out (mayD_it HYL.out (show mayI p.exprs.length y=false by rw[hn.out];unfold mayI;rw[←HHE.out,hs1];rfl)))
          clear hs1
          go_wp2_with (go_at_call 16;((with_reducible refine(CH.out _).mono ?_);rintro e w9 ⟨rfl,rfl⟩))
          have Gg1:=fun pr:Regrown=>cell_regrown g1 pr.d pr.os
          have Gg2:=fun pr:Regrown=>cell_regrown g2 pr.d pr.os
          have Gg3:=fun pr:Regrown=>cell_regrown g3 pr.d pr.os
          have Gi3:=fun pr:Regrown=>cell_regrown i3 pr.d pr.os
          have Gi4:=fun pr:Regrown=>cell_regrown i4 pr.d pr.os
          clear g1 g2 g3 i0 i3 i4
          have CE:Hid (∀pr:Regrown,Calls prog 15 #[.agg #[.slice o1 m dcap,.slice o2 k cap],.int .i64 (y.e),.bool he1] (Go.Sort.grow (redrawn wr pr.d) pr.os) fun e w''=>e=.returned (.bool false)∧∃p:Regrown,w''=Go.Sort.grow (redrawn wr p.d) p.os):=Hd fun pr=>Calls.regrown_of (by rw[←S1.out];exact CP'.out _ he1 y.e)
          refine wp_region_quiet_below (by kernel_rfl) (by kernel_rfl) ?_
          repeat (go_big_quiet_step (with_reducible exact CE.out _))
          refine wpQuiet_nil ?_
          intro w7 hw7
          have HB3:Hid (Below wr.heap.size wr w7):=Hd (by obtain⟨pr,rfl⟩:=hw7;exact below_regrown _ _ _)
          clear hw7 Gg1 Gg2 Gg3 Gi3 Gi4 CE
          go_wp2_with fail
          go_ret
          exact⟨by rw[HM.out];rfl,hW.out.trans (HB3.out.mono hW.out.size)⟩
         | true =>
          have S1:=Hd hs1
          clear hs1
          cases hs2:standsE k hf1 y.f with
          | false =>
           have S2:=Hd hs2
           have HM:=Hd (mayP_de HDJ.out (mayD_it HYL.out (show mayI p.exprs.length y=false by rw[hn.out];unfold mayI;rw[←HHE.out,S1.out,←HHF.out,hs2];rfl)))
           clear hs2
           go_wp2_with (go_at_call 16;((with_reducible refine(CH.out _).mono ?_);rintro e w9 ⟨rfl,rfl⟩))
           have Gg1:=fun pr:Regrown=>cell_regrown g1 pr.d pr.os
           have Gg2:=fun pr:Regrown=>cell_regrown g2 pr.d pr.os
           have Gg3:=fun pr:Regrown=>cell_regrown g3 pr.d pr.os
           have Gi3:=fun pr:Regrown=>cell_regrown i3 pr.d pr.os
           have Gi4:=fun pr:Regrown=>cell_regrown i4 pr.d pr.os
           clear g1 g2 g3 i0 i3 i4
           have CE:Hid (∀pr:Regrown,Calls prog 15 #[.agg #[.slice o1 m dcap,.slice o2 k cap],.int .i64 (y.e),.bool he1] (Go.Sort.grow (redrawn wr pr.d) pr.os) fun e w''=>e=.returned (.bool true)∧∃p:Regrown,w''=Go.Sort.grow (redrawn wr p.d) p.os):=Hd fun pr=>Calls.regrown_of (by rw[←S1.out];exact CP'.out _ he1 y.e)
           have CF:Hid (∀pr:Regrown,Calls prog 15 #[.agg #[.slice o1 m dcap,.slice o2 k cap],.int .i64 (y.f),.bool hf1] (Go.Sort.grow (redrawn wr pr.d) pr.os) fun e w''=>e=.returned (.bool false)∧∃p:Regrown,w''=Go.Sort.grow (redrawn wr p.d) p.os):=Hd fun pr=>Calls.regrown_of (by rw[←S2.out];exact CP'.out _ hf1 y.f)
           refine wp_region_quiet_below (by kernel_rfl) (by kernel_rfl) ?_
           repeat (go_big_quiet_step (first | with_reducible exact CE.out _ | with_reducible exact CF.out _))
           refine wpQuiet_nil ?_
           intro w7 hw7
           have HB3:Hid (Below wr.heap.size wr w7):=Hd (by obtain⟨pr,rfl⟩:=hw7;exact below_regrown _ _ _)
           clear hw7 Gg1 Gg2 Gg3 Gi3 Gi4 CE CF
           go_wp2_with fail
           go_ret
           exact⟨by rw[HM.out];rfl,hW.out.trans (HB3.out.mono hW.out.size)⟩
          | true =>
           have S2:=Hd hs2
           clear hs2
           go_wp2_with (go_at_call 16;((with_reducible refine(CH.out _).mono ?_);rintro e w9 ⟨rfl,rfl⟩))
           have Gg1:=fun pr:Regrown=>cell_regrown g1 pr.d pr.os
           have Gg2:=fun pr:Regrown=>cell_regrown g2 pr.d pr.os
           have Gg3:=fun pr:Regrown=>cell_regrown g3 pr.d pr.os
           have Gi3:=fun pr:Regrown=>cell_regrown i3 pr.d pr.os
           have Gi4:=fun pr:Regrown=>cell_regrown i4 pr.d pr.os
           clear g1 g2 g3 i0 i3 i4
           have CE:Hid (∀pr:Regrown,Calls prog 15 #[.agg #[.slice o1 m dcap,.slice o2 k cap],.int .i64 (y.e),.bool he1] (Go.Sort.grow (redrawn wr pr.d) pr.os) fun e w''=>e=.returned (.bool true)∧∃p:Regrown,w''=Go.Sort.grow (redrawn wr p.d) p.os):=Hd fun pr=>Calls.regrown_of (by rw[←S1.out];exact CP'.out _ he1 y.e)
           have CF:Hid (∀pr:Regrown,Calls prog 15 #[.agg #[.slice o1 m dcap,.slice o2 k cap],.int .i64 (y.f),.bool hf1] (Go.Sort.grow (redrawn wr pr.d) pr.os) fun e w''=>e=.returned (.bool true)∧∃p:Regrown,w''=Go.Sort.grow (redrawn wr p.d) p.os):=Hd fun pr=>Calls.regrown_of (by rw[←S2.out];exact CP'.out _ hf1 y.f)
           refine wp_region_quiet_below (by kernel_rfl) (by kernel_rfl) ?_
           repeat (go_big_quiet_step (first | with_reducible exact CE.out _ | with_reducible exact CF.out _))
           refine wpQuiet_nil ?_
           intro w7 hw7
           have HB3:Hid (Below wr.heap.size wr w7):=Hd (by obtain⟨pr,rfl⟩:=hw7;exact below_regrown _ _ _)
           clear hw7 Gg1 Gg2 Gg3 Gi3 Gi4 CE CF
           go_wp2_with fail
           go_roundw
           case rel =>
            have hb8:=HB3.out
            refine⟨l+1,by go_num,by omega,Hd fun i hi y2 hy2=>?_,Hd (hW.out.trans (hb8.mono hW.out.size)),Hd ((hb8.block _ (lt_of_heap hB.out)).trans hB.out),Hd ((hb8.block _ (lt_of_heap hD.out)).trans hD.out)⟩
            rcases Nat.lt_or_ge i l with h | h
            ·exact hY.out i h y2 hy2
            ·obtain rfl:i=l:=by omega
             rw[HYL.out] at hy2
             obtain rfl:=qI hy2
             unfold mayI;rw[←HHE.out,S1.out,←HHF.out,S2.out];rfl
           case measure=>simp[litLen];omega
        ·obtain rfl:l=ni:=by omega
         have hdd:Hid (mayD k d=true):=Hd (by unfold mayD;rw[←HSV.out,mayI_all hY.out (by rw[HN.out];exact qL _)];rfl)
         go_wp2_with fail
         go_roundw
         case rel =>
          refine⟨j+1,by go_num,by omega,Hd fun i hi d2 hd2=>?_,hW,hB⟩
          rcases Nat.lt_or_ge i j with h | h
          ·exact hX.out i h d2 hd2
          ·obtain rfl:i=j:=by omega
           rw[HDJ.out] at hd2
           obtain rfl:=qI hd2
           exact hdd.out
         case measure=>simp[litLen];omega
    ·obtain rfl:j=m:=by omega
     have hP:Hid (mayP p=true):=Hd (by unfold mayP;rw[hEX.out,hn.out,mayD_all hX.out (by rw[hm.out];exact qL _)];rfl)
     go_wp2_with fail
     go_ret
     exact⟨by rw[hP.out];rfl,hW.out⟩
theorem refMay_any (sd se:Value) (p:Pr) (w:World) (h:ProgAt w sd se p) (hs:Small p):Calls prog 6 #[.agg #[sd,se]] w fun e w'=>MayPost (mayP p) w e w':=by
 obtain⟨⟨o1,dcap,db,doff,rfl,hd1,hd2,hd3,hd4⟩,⟨o2,cap,b,off,rfl,he1,he2,he3,he4⟩,h3,h4⟩:=h
 exact refMay_core o1 o2 b off cap db doff dcap p _ _ (Hd rfl) (Hd rfl) (by have:=hs.exprs;omega) (by have:=hs.decls;omega) w (Hd hs) (Hd he3) (Hd hd3) (Hd he4) (Hd hd4)
end Go.Proofs.YthpgfahlccljnaaGreatDoor
