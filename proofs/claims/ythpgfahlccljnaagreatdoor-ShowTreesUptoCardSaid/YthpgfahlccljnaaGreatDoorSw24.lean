import Derived.CallsIn
import Derived.Test.YthpgfahlccljnaaGreatDoorSw23
set_option maxHeartbeats 16000000
set_option maxRecDepth 100000
open Go.Proofs.Tryz(prog)
namespace Go.Proofs.YthpgfahlccljnaaGreatDoor
open Go.RowKit
attribute [local go_sem] Oper.semAt_some
def TreesSmall (p:Pr):Prop:=∀i,i<p.exprs.length→(tree p i).length<400
def GrPost (p:Pr) (w:World) (r:Ending) (Y:World):Prop:=∃g:Bool,r=.returned (.bool g)∧Hid ((g=false→Small p∧(mayP p=true→TreesSmall p))∧Below w.heap.size w Y)
theorem tree_call (p:Pr) (od oe:Option Addr) (nd cd n cap:Nat) (w:World) (hp:Hid (ProgAt w (.slice od nd cd) (.slice oe n cap) p)) (hn:Hid (p.exprs.length=n)) (hns:n≤300) (hm:mayP p=true) (HS:Hid (Small p)) (c:Nat) (hlt:c<n) (wr:World) (hb:Below w.heap.size w wr) :
  Calls prog 13 #[.agg #[.slice od nd cd,.slice oe n cap],.int .i64 (c:Int),.slice none 0 0,.int .i64 400] wr fun r Y=>∃o cap k,r=.returned (.slice o k cap)∧Hid ((tree p c).length<400↔k<400)∧Hid (Below wr.heap.size wr Y):=by
 obtain⟨_,⟨o2,cap2,b2,off2,hse,_,_,he3,he4⟩,_,_⟩:=hp.out
 injection hse with e1 e2 e3
 subst e1 e2 e3
 have ho:=he3 (by omega)
 subst ho
 have h:=callsIn_wide.1 (refTree_core p od nd cd b2 off2 cap p.exprs.length (Hd rfl) (by omega) (Hd hm) HS w (Hd fun i hi x hx=>he4 i hi x hx) 400 (by omega) c hlt [] (.slice none 0 0) wr (by simp) hb (qO _ _ _ _))
 refine h.mono fun r Y h=>?_
 obtain⟨v,h1,h2,h3⟩:=h
 obtain⟨o,ca,rfl⟩:=own_slice h2
 refine⟨o,ca,_,h1,Hd ?_,Hd ⟨h3.1.os,h3.1.tape,h3.1.output,h3.1.size,fun k hk=>h3.1.block k hk (fun e=>by cases e)⟩⟩
 unfold cutL
 rw[List.nil_append,List.length_take,List.length_nil]
 omega
theorem grt_core (p:Pr) (od oe:Option Addr) (nd cd n cap:Nat) (w:World) (hp:Hid (ProgAt w (.slice od nd cd) (.slice oe n cap) p)) (hn:Hid (p.exprs.length=n)) :
  Calls prog 5 #[.agg #[.slice od nd cd,.slice oe n cap]] w fun r Y=>GrPost p w r Y:=by
 obtain⟨Wb,hWb⟩:∃Wb,Wb=w.alloc (.cells #[.slice od nd cd,.slice oe n cap] 25):=⟨_,rfl⟩
 have HB:Hid (Below w.heap.size w Wb):=Hd (by rw[hWb];exact(qB _ _).alloc (qL _) _)
 have b0:Wb.cell? ⟨w.heap.size,0,none⟩=some (.slice od nd cd):=by rw[hWb,World.cell?_alloc_new];rfl
 have b1:Wb.cell? ⟨w.heap.size,1,none⟩=some (.slice oe n cap):=by rw[hWb,World.cell?_alloc_new];rfl
 have CG:Hid (Calls prog 12 #[.agg #[.slice od nd cd,.slice oe n cap]] Wb fun r Y=>∃g:Bool,r=.returned (.bool g)∧Hid ((g=false→Small p)∧Below Wb.heap.size Wb Y)):=Hd ((great_any _ _ p Wb (hp.out.below HB.out)).mono fun r Y h=>by
  obtain⟨g,h1,h2,h3⟩:=h
  exact⟨g,h1,Hd ⟨h2,h3⟩⟩)
 go_enter Tryz.func5,Tryz.ntmps5
 go_upto_region 1 with (fail)
 rw[←hWb]
 clear hWb
 go_wp2_with fail
 (with_reducible refine CG.out.mono ?_)
 rintro r w1 ⟨g,rfl,h1⟩
 dsimp only
 have c0:=cell_on h1.out.2 b0
 have c1:=cell_on h1.out.2 b1
 have HB1:=Hd (HB.out.trans (h1.out.2.mono HB.out.size))
 cases g with
 | true =>
  go_wp2_with fail
  go_ret
  exact⟨true,rfl,Hd ⟨(fun h=>by cases h),HB1.out⟩⟩
 | false =>
  have HS:=Hd (h1.out.1 rfl)
  have hns:n≤300:=by have:=HS.out.exprs;have:=hn.out;omega
  have CM:Hid (∀Y,Below w.heap.size w Y→Calls prog 6 #[.agg #[.slice od nd cd,.slice oe n cap]] Y fun r Z=>r=.returned (.bool (mayP p))∧Hid (Below Y.heap.size Y Z)):=Hd fun Y hY=>(refMay_any _ _ p Y (hp.out.below hY) HS.out).mono fun r Z h=>⟨h.1,Hd h.2⟩
  obtain⟨mp,hmp⟩:∃mp,mp=mayP p:=⟨_,rfl⟩
  rw[←hmp] at CM
  have HMP:=Hd hmp
  have CMM:=Hd (CM.out w1 HB1.out)
  clear hmp h1 b0 b1 CG CM
  cases mp with
  | false =>
   go_wp2_with (go_at_call 6;(with_reducible refine CMM.out.mono ?_);rintro r w2 ⟨rfl,h2⟩)
   go_ret
   exact⟨false,rfl,Hd ⟨fun _=>⟨HS.out,fun h=>by rw[←HMP.out] at h;cases h⟩,HB1.out.trans (h2.out.mono HB1.out.size)⟩⟩
  | true =>
   go_wp2_with (go_at_call 6;(with_reducible refine CMM.out.mono ?_);rintro r w2 ⟨rfl,h2⟩)
   have HB2:=Hd (HB1.out.trans (h2.out.mono HB1.out.size))
   have d0:=cell_on h2.out c0
   have d1:=cell_on h2.out c1
   have HC:=Hd (show _∧_ from⟨d0,d1⟩)
   clear c0 c1 d0 d1
   go_loopw [3] (fun i wr=>∃c:Nat,i=.int .i64 (c:Int)∧c≤n∧Hid ((∀i,i<c→(tree p i).length<400)∧Below w2.heap.size w2 wr)) (fun i _=>n-litLen i)
   case atStart=>exact⟨0,rfl,Nat.zero_le _,Hd ⟨fun i hi=>by omega,qB _ _⟩⟩
   case round =>
    obtain⟨c,rfl,hc,hI⟩:=hrel
    have d0:=cell_on hI.out.2 HC.out.1
    have d1:=cell_on hI.out.2 HC.out.2
    have HBI:=Hd (HB2.out.trans (hI.out.2.mono HB2.out.size))
    rcases Nat.lt_or_ge c n with hlt | hge
    ·have q1:decide ((c:Int)<(n:Int))=true:=qT (by omega)
     have CT:Hid (Calls prog 13 #[.agg #[.slice od nd cd,.slice oe n cap],.int .i64 (c:Int),.slice none 0 0,.int .i64 400] wr fun r Y=>∃o cap k,r=.returned (.slice o k cap)∧Hid ((tree p c).length<400↔k<400)∧Hid (Below wr.heap.size wr Y)):=Hd (tree_call p od oe nd cd n cap w hp hn hns HMP.out.symm HS c hlt wr HBI.out)
     have hl:(c:Int)<(n:Int):=by omega
     by_cases ht:(tree p c).length<400
     ·have CT2:Hid (Calls prog 13 #[.agg #[.slice od nd cd,.slice oe n cap],.int .i64 (c:Int),.slice none 0 0,.int .i64 400] wr fun r Y=>∃o cap k,r=.returned (.slice o k cap)∧(decide ((400:Int)≤(k:Int))=false∧decide (400≤k)=false)∧Hid (Below wr.heap.size wr Y)):=Hd (CT.out.mono fun r Y h=>by
       obtain⟨o,ca,k,h1,h2,h3⟩:=h
       exact⟨o,ca,k,h1,⟨qF (by have:=h2.out.1 ht;omega),qF (by have:=h2.out.1 ht;omega)⟩,h3⟩)
      have HT:=Hd ht
      clear CT ht
      go_wp2_with (go_at_call 13;(with_reducible refine CT2.out.mono ?_);rintro r w3 ⟨o3,ca3,k3,rfl,⟨hk3,hk4⟩,h3⟩)
      refine⟨⟨c+1,by go_num,by omega,Hd ⟨fun i hi=>?_,hI.out.2.trans (h3.out.mono hI.out.2.size)⟩⟩,by simp[litLen];omega⟩
      rcases Nat.lt_or_ge i c with h | h
      ·exact hI.out.1 i h
      ·obtain rfl:i=c:=by omega
       exact HT.out
     ·have CT2:Hid (Calls prog 13 #[.agg #[.slice od nd cd,.slice oe n cap],.int .i64 (c:Int),.slice none 0 0,.int .i64 400] wr fun r Y=>∃o cap k,r=.returned (.slice o k cap)∧(decide ((400:Int)≤(k:Int))=true∧decide (400≤k)=true)∧Hid (Below wr.heap.size wr Y)):=Hd (CT.out.mono fun r Y h=>by
       obtain⟨o,ca,k,h1,h2,h3⟩:=h
       exact⟨o,ca,k,h1,⟨qT (by have h9:¬k<400:=fun h=>ht (h2.out.2 h);omega),qT (by have h9:¬k<400:=fun h=>ht (h2.out.2 h);omega)⟩,h3⟩)
      clear CT ht
      go_wp2_with (go_at_call 13;(with_reducible refine CT2.out.mono ?_);rintro r w3 ⟨o3,ca3,k3,rfl,⟨hk3,hk4⟩,h3⟩)
      go_ret
      exact⟨true,rfl,Hd ⟨fun h=>(by cases h),HBI.out.trans (h3.out.mono HBI.out.size)⟩⟩
    ·obtain rfl:c=n:=by omega
     have hno:¬(c:Int)<(c:Int):=by omega
     clear hge
     go_wp2_with fail
     go_ret
     exact⟨false,rfl,Hd ⟨fun _=>⟨HS.out,fun _ i hi=>hI.out.1 i (by have:=hn.out;omega)⟩,HBI.out⟩⟩
end Go.Proofs.YthpgfahlccljnaaGreatDoor
namespace Go.Proofs.YthpgfahlccljnaaGreatDoor
open Go.RowKit
theorem ix_paL {o:Option Addr} {n cap b off:Nat} (h:0<n→o=some ⟨b,off,none⟩) {j:Nat} (hj:j<n) (hn:n≤9223372036854775807):Ix 30 2 (.slice o n cap) b off j:=by
 intro W
 rw[h (by omega)]
 have h1:(j:Int)<(n:Int):=by omega
 have h2:(j:Int)≤9223372036854775807:=by omega
 go_simp
theorem refProg_any (p:Pr) (od:Option Addr) (nd cd bd fd:Nat) (p1:Value) (w0:World) (T:Int→Int→ByteArray) (n:Nat) (CE:Hid (PartC (.agg #[.slice od nd cd,p1]) w0 T n)) (hnd:Hid (p.decls.length=nd)) (ndl:(nd:Int)≤60) (hod:0<nd→od=some ⟨bd,fd,none⟩)
  (hc:Hid (∀i d,p.decls[i]?=some d→DeAt w0 bd (fd+i*7) d)) (hm:Hid (∀d ∈ p.decls,mayD n d=true∧1≤d.kind∧d.kind≤3∧∀y ∈ d.items,1≤y.kind∧y.kind≤8)) (hS:Hid (∀d ∈ p.decls,d.params.length≤1000∧d.items.length≤1000∧d.name.size≤1000000000000000∧(∀z ∈ d.params,z.name.size≤1000000000000000)∧∀y ∈ d.items,y.states.length≤1000∧y.name.size≤1000000000000000∧y.state.size≤1000000000000000∧y.next.size≤1000000000000000∧(∀z ∈ y.states,z.size≤1000000000000000)))
  (hM:Hid (∀i,i≤nd→(progB (fun a=>T a 0) p.decls i).size≤1000000000000000)) (W:World) (hW:Hid (Below w0.heap.size w0 W)) :
  Calls prog 9 #[.agg #[.slice od nd cd,p1]] W fun r Y=>r=.returned (.string (progB (fun a=>T a 0) p.decls nd))∧Below W.heap.size W Y:=by
 obtain⟨Wb,hWb⟩:∃Wb,Wb=W.alloc (.cells #[.slice od nd cd,p1] 25):=⟨_,rfl⟩
 have hbb:Below W.heap.size W Wb:=by rw[hWb];exact(qB _ _).alloc (qL _) _
 have b0:Wb.cell? ⟨W.heap.size,0,none⟩=some (.slice od nd cd):=by rw[hWb];exact box_cells rfl
 have b1:Wb.cell? ⟨W.heap.size,1,none⟩=some p1:=by rw[hWb];exact box_cells rfl
 have hsz:Wb.heap.size=W.heap.size+1:=by rw[hWb,World.size_alloc]
 have HBB:=Hd hbb
 have HWB:=Hd (hW.out.trans (hbb.mono hW.out.size))
 clear hbb
 go_enter Tryz.func9,Tryz.ntmps9
 go_wp2_with fail
 rw[←hWb]
 clear hWb
 go_loopw [3,4] (fun sv iv wr=>∃i:Nat,i≤nd∧sv=.string (progB (fun a=>T a 0) p.decls i)∧iv=.int .i64 (i:Int)∧Hid (Below Wb.heap.size Wb wr)) (fun _ iv _=>nd-litLen iv)
 case atStart=>exact⟨0,by omega,rfl,rfl,Hd (qB _ _)⟩
 case round =>
  obtain⟨i,hi,rfl,rfl,hB⟩:=hrel
  have HBw:=Hd (HWB.out.trans (hB.out.mono HWB.out.size))
  have y0:=cell_below hB.out b0
  have y1:=cell_below hB.out b1
  obtain⟨S,hSe⟩:∃S,S=progB (fun a=>T a 0) p.decls i:=⟨_,rfl⟩
  have hSz:S.size≤1000000000000000:=by rw[hSe];exact hM.out i hi
  rw[←hSe]
  have HS:=Hd hSe
  clear hSe
  rcases Nat.lt_or_ge i nd with hlt | hge
  ·have q':decide ((i:Int)<(nd:Int))=true:=qT (by omega)
   have ir:(i:Int)<(nd:Int):=by omega
   obtain⟨d,hd⟩:∃d,p.decls[i]?=some d:=⟨_,List.getElem?_eq_getElem (by have:=hnd.out;omega)⟩
   have hdm:=List.mem_of_getElem? hd
   have hdD:p.decls.getD i deZ=d:=by rw[List.getD_eq_getElem?_getD,hd];rfl
   have HNEXT:Hid (progB (fun a=>T a 0) p.decls (i+1)=declB (fun a=>T a 0) S d):=Hd (by show declB _ (progB _ _ i) (p.decls.getD i deZ)=_;rw[hdD,←HS.out])
   have hfit:=hM.out (i+1) (by omega)
   rw[HNEXT.out] at hfit
   have hge3:=declB_ge (fun a=>T a 0) S d
   obtain⟨hmd,hk1,hk3,hik⟩:=hm.out d hdm
   obtain⟨hs1,hs2,hs3,hs4,hs5⟩:=hS.out d hdm
   obtain⟨sp,st,d0,d1,d2,d3,d4,d5,d6,hsp,hst,hok⟩:=hc.out i d hd
   obtain⟨op,cp,bp,fp,rfl,_,_,hpo,hpc⟩:=hsp
   obtain⟨oi,ci,bi,fi,rfl,_,_,hio,hic⟩:=hst
   have c0:=cell_below HBw.out d0
   have c1:=cell_below HBw.out d1
   have c2:=cell_below HBw.out d2
   have c3:=cell_below HBw.out d3
   have c4:=cell_below HBw.out d4
   have c5:=cell_below HBw.out d5
   have c6:=cell_below HBw.out d6
   have HPC:=Hd hpc
   have HIC:=Hd hic
   have HD:=Hd hd
   have HMD:=Hd hmd
   have HIK:=Hd hik
   have HS4:=Hd hs4
   have HS5:=Hd hs5
   have HGE:=Hd hge3
   have HFIT:=Hd hfit
   have HK:=Hd (show 1≤d.kind∧d.kind≤3 from⟨hk1,hk3⟩)
   have ix:=ix_des (cap:=cd) hod hlt (by omega)
   unfold Ix at ix
   obtain⟨np,hnp⟩:∃np,np=d.params.length:=⟨_,rfl⟩
   obtain⟨ni,hni⟩:∃ni,ni=d.items.length:=⟨_,rfl⟩
   rw[←hnp] at c2 hpo hs1
   rw[←hni] at c3 hio hs2
   have HNP:=Hd hnp
   have HNI:=Hd hni
   have npl:(np:Int)≤1000:=by omega
   have nil':(ni:Int)≤1000:=by omega
   clear hpc hic hd hmd hik hs4 hs5 hge3 hfit hk1 hk3 d0 d1 d2 d3 d4 d5 d6 hok hdm hdD hnp hni hs1 hs2
   obtain⟨k,hk⟩:∃k,k=d.kind:=⟨_,rfl⟩
   obtain⟨nm,hnm⟩:∃nm,nm=d.name:=⟨_,rfl⟩
   obtain⟨ty,hty⟩:∃ty,ty=d.type:=⟨_,rfl⟩
   obtain⟨de,hde⟩:∃de,de=d.e:=⟨_,rfl⟩
   obtain⟨po,hpos⟩:∃po,po=d.pos:=⟨_,rfl⟩
   rw[←hk] at c0
   rw[←hnm] at c1 hs3
   rw[←hty] at c4
   rw[←hde] at c5
   rw[←hpos] at c6
   have HKD:=Hd hk
   have HNM:=Hd hnm
   have HTY:=Hd hty
   have HDE:=Hd hde
   clear hk hnm hty hde hpos
   obtain⟨Wd,hWd⟩:∃Wd,Wd=wr.alloc (.cells #[.int .i64 k,.string nm,.slice op np cp,.slice oi ni ci,.int .i64 ty,.int .i64 de,.int .i64 po] 33):=⟨_,rfl⟩
   have hbd:Below wr.heap.size wr Wd:=by rw[hWd];exact(qB _ _).alloc (qL _) _
   have z0:Wd.cell? ⟨wr.heap.size,0,none⟩=some (.int .i64 k):=by rw[hWd];exact box_cells rfl
   have z1:Wd.cell? ⟨wr.heap.size,1,none⟩=some (.string nm):=by rw[hWd];exact box_cells rfl
   have z2:Wd.cell? ⟨wr.heap.size,2,none⟩=some (.slice op np cp):=by rw[hWd];exact box_cells rfl
   have z3:Wd.cell? ⟨wr.heap.size,3,none⟩=some (.slice oi ni ci):=by rw[hWd];exact box_cells rfl
   have z4:Wd.cell? ⟨wr.heap.size,4,none⟩=some (.int .i64 ty):=by rw[hWd];exact box_cells rfl
   have z5:Wd.cell? ⟨wr.heap.size,5,none⟩=some (.int .i64 de):=by rw[hWd];exact box_cells rfl
   have v0:=cell_below hbd y0
   have v1:=cell_below hbd y1
   have HBD:=Hd (hB.out.trans (hbd.mono hB.out.size))
   have HWD:=Hd (HBw.out.trans (hbd.mono HBw.out.size))
   have HPAR:Hid (∀j,j≤np→(paB ⟨#[40]⟩ d.params j).size≤1000000000000000):=Hd fun j hj=>by
    have h1:=paB_le ⟨#[40]⟩ d.params j d.params.length (by have:=HNP.out;omega)
    have h2:=HGE.out.2.1
    have h3:(parB d).size=(paB ⟨#[40]⟩ d.params d.params.length).size+1:=by unfold parB;rw[ByteArray.size_append];rfl
    have h4:=HFIT.out
    omega
   clear hbd
   go_wp2_with fail
   rw[←hWd]
   clear hWd c0 c1 c2 c3 c4 c5 c6 ix y0 y1
   go_loopw [6,7] (fun sv jv wq=>∃j:Nat,j≤np∧sv=.string (paB ⟨#[40]⟩ d.params j)∧jv=.int .i64 (j:Int)∧Hid (Below Wd.heap.size Wd wq)) (fun _ jv _=>np-litLen jv)
   case atStart=>exact⟨0,by omega,rfl,rfl,Hd (qB _ _)⟩
   case round =>
    obtain⟨j,hj,rfl,rfl,hBq⟩:=hrel
    obtain⟨P,hPe⟩:∃P,P=paB ⟨#[40]⟩ d.params j:=⟨_,rfl⟩
    have hPz:P.size≤1000000000000000:=by rw[hPe];exact HPAR.out j hj
    rw[←hPe]
    have HP:=Hd hPe
    clear hPe
    have u0:=cell_below hBq.out z0
    have u1:=cell_below hBq.out z1
    have u2:=cell_below hBq.out z2
    have u3:=cell_below hBq.out z3
    have u4:=cell_below hBq.out z4
    have u5:=cell_below hBq.out z5
    have t0:=cell_below hBq.out v0
    have t1:=cell_below hBq.out v1
    rcases Nat.lt_or_ge j np with hltj | hgej
    ·have qj:decide ((j:Int)<(np:Int))=true:=qT (by omega)
     have jr:(j:Int)<(np:Int):=by omega
     obtain⟨x,hx⟩:∃x,d.params[j]?=some x:=⟨_,List.getElem?_eq_getElem (by have:=HNP.out;omega)⟩
     have hxD:d.params.getD j ⟨⟨#[]⟩,0⟩=x:=by rw[List.getD_eq_getElem?_getD,hx];rfl
     have hxz:=HS4.out x (List.mem_of_getElem? hx)
     obtain⟨e0,e1,_,_⟩:=HPC.out j (by have:=HNP.out;omega) x hx
     have g0:=cell_below (HWD.out.trans (hBq.out.mono HWD.out.size)) e0
     have g1:=cell_below (HWD.out.trans (hBq.out.mono HWD.out.size)) e1
     have ixp:=ix_paL (cap:=cp) hpo hltj (by omega)
     unfold Ix at ixp
     have hTY:=type_size x.type
     obtain⟨TY,hTYe⟩:∃TY,TY=typeB x.type:=⟨_,rfl⟩
     rw[←hTYe] at hTY
     have HSTEP:Hid (paB ⟨#[40]⟩ d.params (j+1)=(((if 0<j then P++⟨#[44,32]⟩ else P)++x.name)++⟨#[58,32]⟩)++TY):=Hd (by
      show((((if 0<j then paB ⟨#[40]⟩ d.params j++⟨#[44,32]⟩ else paB ⟨#[40]⟩ d.params j)++(d.params.getD j ⟨⟨#[]⟩,0⟩).name)++⟨#[58,32]⟩)++typeB (d.params.getD j ⟨⟨#[]⟩,0⟩).type)=_
      rw[hxD,←HP.out,hTYe])
     obtain⟨xn,hxn⟩:∃xn,xn=x.name:=⟨_,rfl⟩
     obtain⟨xt,hxt⟩:∃xt,xt=x.type:=⟨_,rfl⟩
     rw[←hxn] at g0 hxz HSTEP
     rw[←hxt] at g1 hTYe
     have CT:Hid (∀pr:Regrown,Calls prog 21 #[.int .i64 xt] (Go.Sort.grow (redrawn wr pr.d) pr.os) fun e w''=>e=.returned (.string TY)∧∃p:Regrown,w''=Go.Sort.grow (redrawn wr p.d) p.os):=Hd fun pr=>by
      rw[hTYe];exact Calls.regrown_of (type_any xt _)
     have Gu2:=cell_regrown u2
     have Gg0:=cell_regrown g0
     have Gg1:=cell_regrown g1
     clear hx hxD e0 e1 hTYe hxn hxt
     rcases Nat.eq_zero_or_pos j with hj0 | hj0
     ·have q0':decide ((0:Int)<(j:Int))=false:=qF (by omega)
      have q0m:¬0<j:=by omega
      have HJ:=Hd hj0
      clear hj0
      go_wp2_with fail
      refine wp_region_quiet_below (by kernel_rfl) (by kernel_rfl) ?_
      repeat (go_big_quiet_step (first | with_reducible exact CT.out _))
      refine wpQuiet_nil ?_
      intro w7 hw7
      have HB3:Hid (Below wr.heap.size wr w7):=Hd (by obtain⟨pr,rfl⟩:=hw7;exact below_regrown _ _ _)
      clear hw7 Gu2 Gg0 Gg1
      go_wp2_with fail
      exact⟨⟨j+1,by omega,by rw[HSTEP.out,if_neg (by have:=HJ.out;omega)],rfl,Hd (hBq.out.trans (HB3.out.mono hBq.out.size))⟩,by simp[litLen];omega⟩
     ·have q0':decide ((0:Int)<(j:Int))=true:=qT (by omega)
      go_wp2_with fail
      refine wp_region_quiet_below (by kernel_rfl) (by kernel_rfl) ?_
      repeat (go_big_quiet_step (first | with_reducible exact CT.out _))
      refine wpQuiet_nil ?_
      intro w7 hw7
      have HB3:Hid (Below wr.heap.size wr w7):=Hd (by obtain⟨pr,rfl⟩:=hw7;exact below_regrown _ _ _)
      clear hw7 Gu2 Gg0 Gg1
      go_wp2_with fail
      exact⟨⟨j+1,by omega,by rw[HSTEP.out,if_pos hj0],rfl,Hd (hBq.out.trans (HB3.out.mono hBq.out.size))⟩,by simp[litLen];omega⟩
    ·have qj:decide ((j:Int)<(np:Int))=false:=qF (by omega)
     have qjn:decide (j<np)=false:=qF (by omega)
     have qjm:(j<np)=False:=by simp;omega
     have HJN:Hid (np=j):=Hd (by omega)
     have HPAR2:Hid (P++⟨#[41]⟩=parB d):=Hd (by rw[HP.out,←HJN.out,HNP.out];rfl)
     have HWI:=Hd (HWD.out.trans (hBq.out.mono HWD.out.size))
     have HBI:=Hd (HBD.out.trans (hBq.out.mono HBD.out.size))
     have hTY:=type_size ty
     obtain⟨TY,hTYe⟩:∃TY,TY=typeB ty:=⟨_,rfl⟩
     rw[←hTYe] at hTY
     have HTYE:Hid (TY=typeB d.type):=Hd (by rw[hTYe,HTY.out])
     have CT:Hid (∀pr:Regrown,Calls prog 21 #[.int .i64 ty] (Go.Sort.grow (redrawn wr pr.d) pr.os) fun e w''=>e=.returned (.string TY)∧∃p:Regrown,w''=Go.Sort.grow (redrawn wr p.d) p.os):=Hd fun pr=>by
      rw[hTYe];exact Calls.regrown_of (type_any ty _)
     have HNAT:Hid (k=1∨k=2→∃a:Nat,de=(a:Int)∧a<n):=Hd fun hk=>by
      have h1:=HMD.out
      unfold mayD at h1
      rw[Bool.and_eq_true] at h1
      have h2:hasVal d.kind=true:=by rw[←HKD.out];unfold hasVal;rcases hk with hk | hk <;> rw[hk] <;> decide
      have h3:=h1.1
      rw[h2] at h3
      unfold standsE at h3
      simp only[if_true,Bool.and_eq_true,decide_eq_true_eq] at h3
      rw[←HDE.out] at h3
      exact⟨de.toNat,by omega,by omega⟩
     have HTE2:Hid (∀a:Nat,de=(a:Int)→a<n→(T de 0).size≤1000000000000000∧∀W,Below w0.heap.size w0 W→Calls prog 10 #[.agg #[.slice od nd cd,p1],.int .i64 de,.int .i64 0] W fun r Y=>r=.returned (.string (T de 0))∧Below W.heap.size W Y):=Hd fun a ha han=>by
      rw[ha];exact⟨(CE.out a 0 han (by omega) (by omega) wr HWI.out).2,fun W hW=>(CE.out a 0 han (by omega) (by omega) W hW).1⟩
     clear hTYe
     have hPz':(P++⟨#[41]⟩:ByteArray).size≤1000000000000001:=by rw[ByteArray.size_append];have h1:(⟨#[41]⟩:ByteArray).size=1:=rfl;omega
     by_cases hk1:k=1
     ·have r1:(k ==1)=true:=by rw[hk1];rfl
      obtain⟨a,hda,han⟩:=HNAT.out (.inl hk1)
      obtain⟨hTE,hCE⟩:=HTE2.out a hda han
      obtain⟨TE,hTEe⟩:∃TE,TE=T de 0:=⟨_,rfl⟩
      rw[←hTEe] at hTE hCE
      have CEq:Hid (∀pr:Regrown,Calls prog 10 #[.agg #[.slice od nd cd,p1],.int .i64 de,.int .i64 0] (Go.Sort.grow (redrawn wr pr.d) pr.os) fun e w''=>e=.returned (.string TE)∧∃p:Regrown,w''=Go.Sort.grow (redrawn wr p.d) p.os):=Hd fun pr=>Calls.regrown_of (hCE _ (HWI.out.trans ((below_regrown wr pr.d pr.os).mono HWI.out.size)))
      have HV:Hid (declB (fun a=>T a 0) S d=(((((((S++⟨#[102,117,110,32]⟩)++nm)++(P++⟨#[41]⟩))++⟨#[58,32]⟩)++TY)++⟨#[32,61,32]⟩)++TE)++⟨#[59,10]⟩):=Hd (by
       unfold declB
       rw[if_pos (by rw[←HKD.out];exact hk1),←HNM.out,←HPAR2.out,←HTYE.out,←HDE.out]
       dsimp only
       rw[←hTEe])
      have G1:=cell_regrown u1
      have G4:=cell_regrown u4
      have G5:=cell_regrown u5
      have K0:=cell_regrown t0
      have K1:=cell_regrown t1
      clear hk1 hda han hTEe hCE
      go_wp2_with fail
      refine wp_region_quiet_below (by kernel_rfl) (by kernel_rfl) ?_
      repeat (go_big_quiet_step (first | with_reducible exact CT.out _ | with_reducible exact CEq.out _))
      refine wpQuiet_nil ?_
      intro w7 hw7
      have HB3:Hid (Below wr.heap.size wr w7):=Hd (by obtain⟨pr,rfl⟩:=hw7;exact below_regrown _ _ _)
      clear hw7 G1 G4 G5 K0 K1
      go_wp2_with fail
      exact⟨⟨i+1,by omega,by rw[HNEXT.out,HV.out],rfl,Hd (HBI.out.trans (HB3.out.mono HBI.out.size))⟩,by simp[litLen];omega⟩
     ·have r1:(k ==1)=false:=beq_false_of_ne hk1
      have HK1:=Hd hk1
      have HITS:Hid (∀m,m≤ni→(itsB (fun a=>T a 0) (headB S d) d.items m).size≤1000000000000000):=Hd fun m hm=>by
       have h1:=itsB_le (fun a=>T a 0) (headB S d) d.items m d.items.length (by have:=HNI.out;omega)
       have h2:=HGE.out.2.2 (by rw[←HKD.out];exact HK1.out)
       have h3:=HFIT.out
       omega
      clear hk1
      by_cases hk2:k=2
      ·have r2:(k ==2)=true:=by rw[hk2];rfl
       have HHEAD:Hid (headB S d=(((((S++⟨#[110,111,100,101,32]⟩)++nm)++(P++⟨#[41]⟩))++⟨#[58,32]⟩)++TY)++⟨#[32,123,10]⟩):=Hd (by
        unfold headB
        rw[if_pos (by rw[←HKD.out];exact hk2),←HNM.out,←HPAR2.out,←HTYE.out])
       obtain⟨a,hda,han⟩:=HNAT.out (.inr hk2)
       obtain⟨hTE,hCE⟩:=HTE2.out a hda han
       obtain⟨TE,hTEe⟩:∃TE,TE=T de 0:=⟨_,rfl⟩
       rw[←hTEe] at hTE hCE
       have HCE:=Hd hCE
       have HV:Hid (declB (fun a=>T a 0) S d=(((itsB (fun a=>T a 0) (headB S d) d.items ni++⟨#[32,32,114,101,116,117,114,110,32]⟩)++TE)++⟨#[59,10]⟩)++⟨#[125,10]⟩):=Hd (by
        unfold declB
        rw[if_neg (by rw[←HKD.out];exact HK1.out),if_pos (by rw[←HKD.out];exact hk2),←HDE.out,HNI.out]
        dsimp only
        rw[←hTEe])
       have G1:=cell_regrown u1
       have G4:=cell_regrown u4
       clear hk2 hda han hTEe hCE
       go_wp2_with fail
       refine wp_region_quiet_below (by kernel_rfl) (by kernel_rfl) ?_
       repeat (go_big_quiet_step (first | with_reducible exact CT.out _))
       refine wpQuiet_nil ?_
       intro w7 hw7
       have HB3:Hid (Below wr.heap.size wr w7):=Hd (by obtain⟨pr,rfl⟩:=hw7;exact below_regrown _ _ _)
       have HW7:=Hd (HWI.out.trans (HB3.out.mono HWI.out.size))
       have HB7:=Hd (HBI.out.trans (HB3.out.mono HBI.out.size))
       have s0:=cell_below HB3.out u0
       have s3:=cell_below HB3.out u3
       have s5:=cell_below HB3.out u5
       have o0:=cell_below HB3.out t0
       have o1:=cell_below HB3.out t1
       clear hw7 G1 G4 u0 u1 u2 u3 u4 u5 t0 t1
       go_wp2_with fail
       rw[←HHEAD.out]
       go_loopw [3,8] (fun sv mv wz=>∃m:Nat,m≤ni∧sv=.string (itsB (fun a=>T a 0) (headB S d) d.items m)∧mv=.int .i64 (m:Int)∧Hid (Below w7.heap.size w7 wz)) (fun _ mv _=>ni-litLen mv)
       case atStart=>exact⟨0,by omega,rfl,rfl,Hd (qB _ _)⟩
       case round =>
        obtain⟨m,hm',rfl,rfl,hBz⟩:=hrel
        obtain⟨Q,hQe⟩:∃Q,Q=itsB (fun a=>T a 0) (headB S d) d.items m:=⟨_,rfl⟩
        have hQz:Q.size≤1000000000000000:=by rw[hQe];exact HITS.out m hm'
        rw[←hQe]
        have HQ:=Hd hQe
        clear hQe
        have HWr:=Hd (HW7.out.trans (hBz.out.mono HW7.out.size))
        have HBr:=Hd (HB7.out.trans (hBz.out.mono HB7.out.size))
        have s0':=cell_below hBz.out s0
        have s3':=cell_below hBz.out s3
        have s5':=cell_below hBz.out s5
        have o0':=cell_below hBz.out o0
        have o1':=cell_below hBz.out o1
        rcases Nat.lt_or_ge m ni with hltm | hgem
        ·have qm:decide ((m:Int)<(ni:Int))=true:=qT (by omega)
         have mr:(m:Int)<(ni:Int):=by omega
         obtain⟨y,hy⟩:∃y,d.items[m]?=some y:=⟨_,List.getElem?_eq_getElem (by have:=HNI.out;omega)⟩
         have hyD:d.items.getD m itZ=y:=by rw[List.getD_eq_getElem?_getD,hy];rfl
         have hym:=List.mem_of_getElem? hy
         obtain⟨m1,m2,m3,m4,m5⟩:=HS5.out y hym
         obtain⟨n1,n2⟩:=HIK.out y hym
         have hmy:mayI n y=true:=by
          have h1:=HMD.out
          unfold mayD at h1
          rw[Bool.and_eq_true,List.all_eq_true] at h1
          exact h1.2 y hym
         obtain⟨sx,e0,e1,e2,e3,e4,e5,e6,e7,e8,hsx,_⟩:=HIC.out m (by have:=HNI.out;omega) y hy
         have HSTEP:Hid (itsB (fun a=>T a 0) (headB S d) d.items (m+1)=Q++itemB (fun a=>T a 0) y):=Hd (by
          show itsB (fun a=>T a 0) (headB S d) d.items m++itemB (fun a=>T a 0) (d.items.getD m itZ)=_
          rw[hyD,←HQ.out])
         have hTI:(itemB (fun a=>T a 0) y).size≤1000000000000000:=by
          have h1:=HITS.out (m+1) (by omega)
          rw[HSTEP.out,ByteArray.size_append] at h1
          omega
         have hIT:=fun W hW=>item_any (.slice od nd cd) p1 w0 T n CE.out y sx hmy n1 n2 hsx m1 m2 m3 m4 m5 (fun h6=>by
          have h1:=hTI
          unfold itemB at h1
          rw[if_neg (show ¬y.kind=1 by omega),if_neg (show ¬y.kind=2 by omega),if_neg (show ¬y.kind=3 by omega),if_neg (show ¬y.kind=4 by omega),if_neg (show ¬y.kind=5 by omega),if_pos h6,ByteArray.size_append] at h1
          omega) W hW
         obtain⟨os,cs,bs,fs,rfl,_⟩:=hsx
         obtain⟨TI,hTIe⟩:∃TI,TI=itemB (fun a=>T a 0) y:=⟨_,rfl⟩
         rw[←hTIe] at hTI hIT HSTEP
         have g0:=cell_below HWr.out e0
         have g1:=cell_below HWr.out e1
         have g2:=cell_below HWr.out e2
         have g3:=cell_below HWr.out e3
         have g4:=cell_below HWr.out e4
         have g5:=cell_below HWr.out e5
         have g6:=cell_below HWr.out e6
         have g7:=cell_below HWr.out e7
         have g8:=cell_below HWr.out e8
         have ixi:=ix_its (cap:=ci) hio hltm (by omega)
         unfold Ix at ixi
         unfold itVal at hIT
         obtain⟨yk,yn,yt,ye,yf,ys,yst,ynx,ypos⟩:=y
         dsimp only at g0 g1 g2 g3 g4 g5 g6 g7 g8 hIT
         have CI:Hid (∀pr:Regrown,Calls prog 22 #[.agg #[.slice od nd cd,p1],.agg #[.int .i64 yk,.string yn,.int .i64 yt,.int .i64 ye,.int .i64 yf,.slice os ys.length cs,.string yst,.string ynx,.int .i64 ypos]] (Go.Sort.grow (redrawn wr pr.d) pr.os) fun e w''=>e=.returned (.string TI)∧∃p:Regrown,w''=Go.Sort.grow (redrawn wr p.d) p.os):=Hd fun pr=>Calls.regrown_of (hIT _ (HWr.out.trans ((below_regrown wr pr.d pr.os).mono HWr.out.size)))
         have Go0:=cell_regrown o0'
         have Go1:=cell_regrown o1'
         have Gs3:=cell_regrown s3'
         have Gg0:=cell_regrown g0
         have Gg1:=cell_regrown g1
         have Gg2:=cell_regrown g2
         have Gg3:=cell_regrown g3
         have Gg4:=cell_regrown g4
         have Gg5:=cell_regrown g5
         have Gg6:=cell_regrown g6
         have Gg7:=cell_regrown g7
         have Gg8:=cell_regrown g8
         clear hy hyD hym m1 m2 m3 m4 m5 n1 n2 hmy e0 e1 e2 e3 e4 e5 e6 e7 e8 hIT hTIe
         go_wp2_with fail
         refine wp_region_quiet_below (by kernel_rfl) (by kernel_rfl) ?_
         repeat (go_big_quiet_step (first | with_reducible exact CI.out _))
         refine wpQuiet_nil ?_
         intro w9 hw9
         have HB9:Hid (Below wr.heap.size wr w9):=Hd (by obtain⟨pr,rfl⟩:=hw9;exact below_regrown _ _ _)
         clear hw9 Go0 Go1 Gs3 Gg0 Gg1 Gg2 Gg3 Gg4 Gg5 Gg6 Gg7 Gg8
         go_wp2_with fail
         exact⟨⟨m+1,by omega,by rw[HSTEP.out],rfl,Hd (hBz.out.trans (HB9.out.mono hBz.out.size))⟩,by simp[litLen];omega⟩
        ·have qm:decide ((m:Int)<(ni:Int))=false:=qF (by omega)
         have HMN:Hid (ni=m):=Hd (by omega)
         go_wp2_with fail
         refine(HCE.out _ HWr.out).mono ?_
         rintro r w8 ⟨rfl,hb8⟩
         dsimp only
         have HB8:=Hd (HBr.out.trans (hb8.mono HBr.out.size))
         clear hb8
         go_wp2_with fail
         exact⟨⟨i+1,by omega,by rw[HNEXT.out,HV.out,HQ.out,HMN.out],rfl,HB8⟩,by simp[litLen];omega⟩
      ·have r2:(k ==2)=false:=beq_false_of_ne hk2
       have HHEAD:Hid (headB S d=(((S++⟨#[104,121,98,114,105,100,32]⟩)++nm)++(P++⟨#[41]⟩))++⟨#[32,123,10]⟩):=Hd (by
        unfold headB
        rw[if_neg (by rw[←HKD.out];exact hk2),←HNM.out,←HPAR2.out])
       have HV:Hid (declB (fun a=>T a 0) S d=itsB (fun a=>T a 0) (headB S d) d.items ni++⟨#[125,10]⟩):=Hd (by
        unfold declB
        rw[if_neg (by rw[←HKD.out];exact HK1.out),if_neg (by rw[←HKD.out];exact hk2),HNI.out])
       obtain⟨w7,hw7⟩:∃w7,w7=wr:=⟨_,rfl⟩
       have HW7:Hid (Below w0.heap.size w0 w7):=Hd (by rw[hw7];exact HWI.out)
       have HB7:Hid (Below Wb.heap.size Wb w7):=Hd (by rw[hw7];exact HBI.out)
       clear hk2
       go_wp2_with fail
       rw[←HHEAD.out]
       rw[←hw7] at u0 u3 u5 t0 t1 ⊢
       have s0:=u0
       have s3:=u3
       have s5:=u5
       have o0:=t0
       have o1:=t1
       clear hw7 u0 u1 u2 u3 u4 u5 t0 t1
       go_loopw [3,8] (fun sv mv wz=>∃m:Nat,m≤ni∧sv=.string (itsB (fun a=>T a 0) (headB S d) d.items m)∧mv=.int .i64 (m:Int)∧Hid (Below w7.heap.size w7 wz)) (fun _ mv _=>ni-litLen mv)
       case atStart=>exact⟨0,by omega,rfl,rfl,Hd (qB _ _)⟩
       case round =>
        obtain⟨m,hm',rfl,rfl,hBz⟩:=hrel
        obtain⟨Q,hQe⟩:∃Q,Q=itsB (fun a=>T a 0) (headB S d) d.items m:=⟨_,rfl⟩
        have hQz:Q.size≤1000000000000000:=by rw[hQe];exact HITS.out m hm'
        rw[←hQe]
        have HQ:=Hd hQe
        clear hQe
        have HWr:=Hd (HW7.out.trans (hBz.out.mono HW7.out.size))
        have HBr:=Hd (HB7.out.trans (hBz.out.mono HB7.out.size))
        have s0':=cell_below hBz.out s0
        have s3':=cell_below hBz.out s3
        have s5':=cell_below hBz.out s5
        have o0':=cell_below hBz.out o0
        have o1':=cell_below hBz.out o1
        rcases Nat.lt_or_ge m ni with hltm | hgem
        ·have qm:decide ((m:Int)<(ni:Int))=true:=qT (by omega)
         have mr:(m:Int)<(ni:Int):=by omega
         obtain⟨y,hy⟩:∃y,d.items[m]?=some y:=⟨_,List.getElem?_eq_getElem (by have:=HNI.out;omega)⟩
         have hyD:d.items.getD m itZ=y:=by rw[List.getD_eq_getElem?_getD,hy];rfl
         have hym:=List.mem_of_getElem? hy
         obtain⟨m1,m2,m3,m4,m5⟩:=HS5.out y hym
         obtain⟨n1,n2⟩:=HIK.out y hym
         have hmy:mayI n y=true:=by
          have h1:=HMD.out
          unfold mayD at h1
          rw[Bool.and_eq_true,List.all_eq_true] at h1
          exact h1.2 y hym
         obtain⟨sx,e0,e1,e2,e3,e4,e5,e6,e7,e8,hsx,_⟩:=HIC.out m (by have:=HNI.out;omega) y hy
         have HSTEP:Hid (itsB (fun a=>T a 0) (headB S d) d.items (m+1)=Q++itemB (fun a=>T a 0) y):=Hd (by
          show itsB (fun a=>T a 0) (headB S d) d.items m++itemB (fun a=>T a 0) (d.items.getD m itZ)=_
          rw[hyD,←HQ.out])
         have hTI:(itemB (fun a=>T a 0) y).size≤1000000000000000:=by
          have h1:=HITS.out (m+1) (by omega)
          rw[HSTEP.out,ByteArray.size_append] at h1
          omega
         have hIT:=fun W hW=>item_any (.slice od nd cd) p1 w0 T n CE.out y sx hmy n1 n2 hsx m1 m2 m3 m4 m5 (fun h6=>by
          have h1:=hTI
          unfold itemB at h1
          rw[if_neg (show ¬y.kind=1 by omega),if_neg (show ¬y.kind=2 by omega),if_neg (show ¬y.kind=3 by omega),if_neg (show ¬y.kind=4 by omega),if_neg (show ¬y.kind=5 by omega),if_pos h6,ByteArray.size_append] at h1
          omega) W hW
         obtain⟨os,cs,bs,fs,rfl,_⟩:=hsx
         obtain⟨TI,hTIe⟩:∃TI,TI=itemB (fun a=>T a 0) y:=⟨_,rfl⟩
         rw[←hTIe] at hTI hIT HSTEP
         have g0:=cell_below HWr.out e0
         have g1:=cell_below HWr.out e1
         have g2:=cell_below HWr.out e2
         have g3:=cell_below HWr.out e3
         have g4:=cell_below HWr.out e4
         have g5:=cell_below HWr.out e5
         have g6:=cell_below HWr.out e6
         have g7:=cell_below HWr.out e7
         have g8:=cell_below HWr.out e8
         have ixi:=ix_its (cap:=ci) hio hltm (by omega)
         unfold Ix at ixi
         unfold itVal at hIT
         obtain⟨yk,yn,yt,ye,yf,ys,yst,ynx,ypos⟩:=y
         dsimp only at g0 g1 g2 g3 g4 g5 g6 g7 g8 hIT
         have CI:Hid (∀pr:Regrown,Calls prog 22 #[.agg #[.slice od nd cd,p1],.agg #[.int .i64 yk,.string yn,.int .i64 yt,.int .i64 ye,.int .i64 yf,.slice os ys.length cs,.string yst,.string ynx,.int .i64 ypos]] (Go.Sort.grow (redrawn wr pr.d) pr.os) fun e w''=>e=.returned (.string TI)∧∃p:Regrown,w''=Go.Sort.grow (redrawn wr p.d) p.os):=Hd fun pr=>Calls.regrown_of (hIT _ (HWr.out.trans ((below_regrown wr pr.d pr.os).mono HWr.out.size)))
         have Go0:=cell_regrown o0'
         have Go1:=cell_regrown o1'
         have Gs3:=cell_regrown s3'
         have Gg0:=cell_regrown g0
         have Gg1:=cell_regrown g1
         have Gg2:=cell_regrown g2
         have Gg3:=cell_regrown g3
         have Gg4:=cell_regrown g4
         have Gg5:=cell_regrown g5
         have Gg6:=cell_regrown g6
         have Gg7:=cell_regrown g7
         have Gg8:=cell_regrown g8
         clear hy hyD hym m1 m2 m3 m4 m5 n1 n2 hmy e0 e1 e2 e3 e4 e5 e6 e7 e8 hIT hTIe
         go_wp2_with fail
         refine wp_region_quiet_below (by kernel_rfl) (by kernel_rfl) ?_
         repeat (go_big_quiet_step (first | with_reducible exact CI.out _))
         refine wpQuiet_nil ?_
         intro w9 hw9
         have HB9:Hid (Below wr.heap.size wr w9):=Hd (by obtain⟨pr,rfl⟩:=hw9;exact below_regrown _ _ _)
         clear hw9 Go0 Go1 Gs3 Gg0 Gg1 Gg2 Gg3 Gg4 Gg5 Gg6 Gg7 Gg8
         go_wp2_with fail
         exact⟨⟨m+1,by omega,by rw[HSTEP.out],rfl,Hd (hBz.out.trans (HB9.out.mono hBz.out.size))⟩,by simp[litLen];omega⟩
        ·have qm:decide ((m:Int)<(ni:Int))=false:=qF (by omega)
         have HMN:Hid (ni=m):=Hd (by omega)
         go_wp2_with fail
         exact⟨⟨i+1,by omega,by rw[HNEXT.out,HV.out,HQ.out,HMN.out],rfl,HBr⟩,by simp[litLen];omega⟩
  ·have q':decide ((i:Int)<(nd:Int))=false:=qF (by omega)
   have HJ:Hid (nd=i):=Hd (by omega)
   go_wp2_with fail
   go_ret
   rw[HS.out]
   have hh:=HJ.out
   subst hh
   exact⟨rfl,HBB.out.trans (hB.out.mono HBB.out.size)⟩
structure Bulk (p:Pr):Prop where
 it:∀d ∈ p.decls,∀y ∈ d.items,itLet y≤1048576
 pa:∀d ∈ p.decls,(d.params.map (·.name.size)).sum≤1048576
def KindsOk (p:Pr):Prop:=∀d ∈ p.decls,(1≤d.kind∧d.kind≤3)∧∀y ∈ d.items,1≤y.kind∧y.kind≤8
theorem mem_le_sum {α:Type} (f:α→Nat):∀{l:List α} {a:α},a ∈ l→f a≤(l.map f).sum
 | b :: l,a,h=>by
  rw[List.map_cons,List.sum_cons]
  rcases List.mem_cons.1 h with rfl | h
  ·omega
  ·have:=mem_le_sum f h
   omega
theorem sh_short (q n:Int) (h1:-9223372036854775808≤q) (h2:q≤9223372036854775807):(shortL q n).length≤60:=by
 have a1:=digs_length (q.natAbs / 4294967296) (by omega)
 have a2:=strip_length (frac (clip n) (q.natAbs % 4294967296))
 have a3:clip n≤32:=by unfold clip;omega
 rw[frac_length] at a2
 unfold shortL tail
 simp only[List.length_append]
 split <;> split <;> simp <;> omega
section
variable {p:Pr} (hS:Small p) (hm:mayP p=true) (ht:TreesSmall p)
include hm in
theorem ex_may:∀i x,p.exprs[i]?=some x→mayE x i=true:=fun i x hx=>by
 unfold mayP at hm
 rw[Bool.and_eq_true,List.all_eq_true] at hm
 have h:=hm.1 i (List.mem_range.2 (List.getElem?_eq_some_iff.1 hx).1)
 unfold mayX at h
 rw[hx] at h
 exact h
include hm in
theorem de_may:∀d ∈ p.decls,mayD p.exprs.length d=true:=fun d hd=>by
 unfold mayP at hm
 rw[Bool.and_eq_true,List.all_eq_true,List.all_eq_true] at hm
 exact hm.2 d hd
include hS hm ht in
theorem sh_txt (hv:∀x ∈ p.exprs,(shortL x.v 32).length≤60) (f e:Nat) (w:Int) (he:e<p.exprs.length):(txtB p.exprs f (e:Int) w).size≤28000000:=by
 have h:=txt_size p.exprs (tlen p) 70000 (ex_may hm) (fun x hx w=>by
  have h1:=pcT_pieces x w 60 (fun _=>by rw[str_size];exact hv x hx)
  have h2:=hS.ex x hx
  unfold wEx at h2
  omega) (tlen_eq p hm) f e w he
 have h2:=ht e he
 have h3:tlen p (e:Int)≤400:=by unfold tlen;rw[Int.toNat_natCast];omega
 have h4:=Nat.mul_le_mul_right 70000 h3
 omega
include hS hm ht in
theorem sh_cst (f e:Nat) (w:Int) (he:e<p.exprs.length):costE p.exprs f (e:Int) w≤1000000:=by
 have h:=cost_size p.exprs (tlen p) 2006 (ex_may hm) (fun x hx w=>by
  have h1:=piecesP_len (x:=x) (by have:=hS.ex x hx;unfold wEx at this;omega) w
  omega) (tlen_eq p hm) f e w he
 have h2:=ht e he
 have h3:tlen p (e:Int)≤400:=by unfold tlen;rw[Int.toNat_natCast];omega
 have h4:=Nat.mul_le_mul_right 2006 h3
 omega
include hS hm ht in
theorem sh_prog (hb:Bulk p) (hk:KindsOk p) (hv:∀x ∈ p.exprs,(shortL x.v 32).length≤60) (i:Nat) (hi:i≤p.decls.length):(progB (fun a=>txtB p.exprs p.exprs.length a 0) p.decls i).size≤10000000000000:=by
 have h:=progB_size (fun a=>txtB p.exprs p.exprs.length a 0) p.exprs.length 28000000 60000000 40000000000 (fun a ha=>sh_txt hS hm ht hv _ a 0 ha) p.decls (fun d hd=>by
  have hmd:=de_may hm d hd
  obtain⟨w1,w2,w3⟩:=hS.de d hd
  refine⟨hmd,(hk d hd).1.1,(hk d hd).1.2,fun y hy=>?_,?_⟩
  ·have hmy:mayI p.exprs.length y=true:=by
    unfold mayD at hmd
    rw[Bool.and_eq_true,List.all_eq_true] at hmd
    exact hmd.2 y hy
   have h1:=itemB_size (fun a=>txtB p.exprs p.exprs.length a 0) p.exprs.length 28000000 (fun a ha=>sh_txt hS hm ht hv _ a 0 ha) y hmy
   have h2:=hb.it d hd y hy
   have h3:=w3 y hy
   omega
  ·have h1:=hb.pa d hd
   unfold wDe at w1
   unfold deLet
   have h2:=Nat.mul_le_mul_right 60000000 w2
   omega) i hi
 have h2:=Nat.mul_le_mul_right 40000000000 (Nat.le_trans hi hS.decls)
 omega
end
theorem sh_texts (p:Pr) (od oe:Option Addr) (nd cd n cap:Nat) (w:World) (hn:n=p.exprs.length) (_hnd:nd=p.decls.length) (hp:ProgAt w (.slice od nd cd) (.slice oe n cap) p) (hS:Small p) (hm:mayP p=true) (ht:TreesSmall p) (hSg:SgnAt w) (hT:Tab w) :
  (∀x ∈ p.exprs,(shortL x.v 32).length≤60) ∧
  (∀e:Nat,e<n→∀Y,Below w.heap.size w Y→Calls prog 18 #[.slice oe n cap,.int .i64 (e:Int)] Y fun r Z=>r=.returned (.string (txtB p.exprs n (e:Int) 0))∧Below Y.heap.size Y Z) ∧
  ((0<n→∀e:Nat,e<n→∀wt:Int,0≤wt→wt≤7→∀Y,Below w.heap.size w Y→Calls prog 10 #[.agg #[.slice od nd cd,.slice oe n cap],.int .i64 (e:Int),.int .i64 wt] Y fun r Z=>r=.returned (.string (txtB p.exprs n (e:Int) wt))∧Below Y.heap.size Y Z)):=by
 subst hn
 obtain⟨hd,⟨oe',ce,be,fe,hse,hle,hce,hoe,hxe⟩,hl1,hl2⟩:=hp
 injection hse with e1 e2 e3
 subst e1 e3
 have hok:∀x ∈ p.exprs,ExOk x:=fun x hx=>by
  obtain⟨i,hi⟩:=List.getElem?_of_mem hx
  obtain⟨_,_,_,_,_,_,_,_,_,_,_,hk⟩:=hxe i (List.getElem?_eq_some_iff.1 hi).1 x hi
  exact hk
 have hv:∀x ∈ p.exprs,(shortL x.v 32).length≤60:=fun x hx=>sh_short x.v 32 (hok x hx).v.1 (hok x hx).v.2
 have hal:∀x ∈ p.exprs,x.args.length≤600∧x.name.size≤60100∧x.state.size≤60100:=fun x hx=>by
  have h:=hS.ex x hx
  unfold wEx at h
  exact⟨by omega,by omega,by omega⟩
 refine⟨hv,fun e he Y hY=>?_,fun h0 e he wt w0 w7 Y hY=>?_⟩
 ·exact textOf_core p.exprs p.exprs.length (Hd rfl) (by have:=hS.exprs;omega) (Hd (ex_may hm)) (Hd fun x hx=>by have:=(hal x hx).1;omega) oe cap be fe Y (Hd hoe) (Hd fun i hi x hx=>(hxe i hi x hx).below hY) (Hd fun k hk=>cell_below hY (hSg k hk))
   (Hd fun x hx _ Z hZ=>(print_dec x.v Z (tab_below hT (hY.trans (hZ.mono hY.size))) (hok x hx).v.1 (hok x hx).v.2).mono fun r U h=>⟨h.1,h.2⟩) e he _ (Hd rfl) (by have:=sh_txt hS hm ht hv p.exprs.length e 0 he;omega) _ (Hd rfl) (by have:=sh_cst hS hm ht p.exprs.length e 0 he;omega)
 ·have ho:=hoe h0
  subst ho
  exact refExpr_any _ be fe cap p.exprs.length p.exprs (Hd rfl) (by have:=hS.exprs;omega) (Hd (ex_may hm)) (Hd fun x hx=>by have:=hal x hx;exact⟨by omega,by omega,by omega⟩) w (Hd fun i x hx=>hxe i (List.getElem?_eq_some_iff.1 hx).1 x hx) p.exprs.length (Hd fun k _ e w he=>by have:=sh_txt hS hm ht hv k e w he;omega) ⟨_,_,_,rfl⟩ p.exprs.length (qL _) e he he wt w0 w7 Y hY
theorem sh_mays (p:Pr) (sd se:Value) (w:World) (hp:ProgAt w sd se p) (hS:Small p) (b:Bool) (hb:mayP p=b):∀Y,Below w.heap.size w Y→Calls prog 17 #[.agg #[sd,se]] Y fun r Z=>r=.returned (.bool b)∧Hid (Below Y.heap.size Y Z):=fun Y hY =>
 (may_any sd se p Y (hp.below hY) hS).mono fun r Z h=>⟨by rw[←hb];exact h.1,Hd h.2⟩
theorem sh_progs (p:Pr) (od oe:Option Addr) (nd cd n cap:Nat) (w:World) (hn:n=p.exprs.length) (hnd:nd=p.decls.length) (hp:ProgAt w (.slice od nd cd) (.slice oe n cap) p) (hS:Small p) (hm:mayP p=true) (ht:TreesSmall p) (hSg:SgnAt w) (hT:Tab w) (hb:Bulk p) (hk:KindsOk p) :
  ∃R,(∀Y,Below w.heap.size w Y→Calls prog 8 #[.agg #[.slice od nd cd,.slice oe n cap]] Y fun r Z=>r=.returned (.string R)∧Hid (Below Y.heap.size Y Z)) ∧
   (∀Y,Below w.heap.size w Y→Calls prog 9 #[.agg #[.slice od nd cd,.slice oe n cap]] Y fun r Z=>r=.returned (.string R)∧Hid (Below Y.heap.size Y Z)):=by
 obtain⟨hv,TX,RX⟩:=sh_texts p od oe nd cd n cap w hn hnd hp hS hm ht hSg hT
 have hM:=sh_mays p _ _ w hp hS true hm
 obtain⟨⟨od',cd',bd,fd,hsd,_,_,hod,hc⟩,_,hl1,hl2⟩:=hp
 injection hsd with e1 e2 e3
 subst e1 e3
 rw[←hnd] at hod hc
 have hsz:∀i,i≤nd→(progB (fun a=>txtB p.exprs n a 0) p.decls i).size≤10000000000000:=fun i hi=>by
  have h:=sh_prog hS hm ht hb hk hv i (by omega)
  rw[←hn] at h
  exact h
 have hdm:=de_may hm
 rw[←hn] at hdm
 refine⟨progB (fun a=>txtB p.exprs n a 0) p.decls nd,fun Y hY=>?_,fun Y hY=>?_⟩
 ·refine(program_any p od oe nd cd n cap bd fd (Hd hnd.symm) (by have:=hS.decls;omega) Y (Hd fun Z hZ=>hM Z (hY.trans (hZ.mono hY.size))) (fun a=>txtB p.exprs n a 0) n (Hd fun e he Z hZ=>TX e he Z (hY.trans (hZ.mono hY.size))) (Hd hod) (Hd fun i hi d hd=>(hc i hi d hd).below hY)
   (Hd fun d hd=>⟨hdm d hd,(hk d hd).1.1,(hk d hd).1.2,(hk d hd).2,by have:=(hS.de d hd).2.1;omega,by have:=(hS.de d hd).1;unfold wDe at this;omega⟩) _ (Hd rfl) (Hd (hsz nd (qL _)))).mono fun r Z h=>⟨h.1,Hd h.2⟩
 ·refine(refProg_any p od nd cd bd fd (.slice oe n cap) w (txtB p.exprs n) n (Hd fun a wt ha h0 h7 Z hZ=>⟨RX (by omega) a ha wt h0 h7 Z hZ,?_⟩) (Hd hnd.symm) (by have:=hS.decls;omega) hod (Hd fun i d hd=>hc i (by have:=(List.getElem?_eq_some_iff.1 hd).1;omega) d hd)
   (Hd fun d hd=>⟨hdm d hd,(hk d hd).1.1,(hk d hd).1.2,(hk d hd).2⟩) (Hd fun d hd=>?_) (Hd fun i hi=>by have:=hsz i hi;omega) Y (Hd hY)).mono fun r Z h=>⟨h.1,Hd h.2⟩
  ·have h:=sh_txt hS hm ht hv n a wt (by omega)
   omega
  ·obtain⟨w1,w2,w3⟩:=hS.de d hd
   unfold wDe at w1
   refine⟨by omega,by omega,by omega,fun z hz=>?_,fun y hy=>?_⟩
   ·have h1:=mem_le_sum (fun z:Pa=>z.name.size) hz
    have h2:=hb.pa d hd
    omega
   ·have h1:=hb.it d hd y hy
    unfold itLet at h1
    refine⟨by have:=w3 y hy;omega,by omega,by omega,by omega,fun z hz=>?_⟩
    have h2:=mem_le_sum (fun z:ByteArray=>z.size) hz
    omega
theorem sh_exprs (p:Pr) (od oe:Option Addr) (nd cd n cap:Nat) (w:World) (hn:n=p.exprs.length) (hnd:nd=p.decls.length) (hp:ProgAt w (.slice od nd cd) (.slice oe n cap) p) (hS:Small p) (hm:mayP p=true) (ht:TreesSmall p) (hSg:SgnAt w) (hT:Tab w) (e:Nat) (he:e<n) :
  ∃t,(∀Y,Below w.heap.size w Y→Calls prog 7 #[.agg #[.slice od nd cd,.slice oe n cap],.int .i64 (e:Int)] Y fun r Z=>r=.returned (.string t)∧Hid (Below Y.heap.size Y Z)) ∧
   (∀Y,Below w.heap.size w Y→Calls prog 10 #[.agg #[.slice od nd cd,.slice oe n cap],.int .i64 (e:Int),.int .i64 0] Y fun r Z=>r=.returned (.string t)∧Hid (Below Y.heap.size Y Z)):=by
 obtain⟨hv,TX,RX⟩:=sh_texts p od oe nd cd n cap w hn hnd hp hS hm ht hSg hT
 have hM:=sh_mays p _ _ w hp hS true hm
 refine⟨txtB p.exprs n (e:Int) 0,fun Y hY=>?_,fun Y hY=>?_⟩
 ·exact(expr_some od oe nd cd n cap e he Y _ (Hd fun Z hZ=>hM Z (hY.trans (hZ.mono hY.size))) (Hd fun Z hZ=>(TX e he Z (hY.trans (hZ.mono hY.size))).mono fun r U h=>⟨h.1,Hd h.2⟩)).mono fun r Z h=>⟨h.1,Hd h.2⟩
 ·exact(RX (by omega) e he 0 (by omega) (by omega) Y hY).mono fun r Z h=>⟨h.1,Hd h.2⟩
end Go.Proofs.YthpgfahlccljnaaGreatDoor
