import Derived.Test.YtpfmlfcaadnnpaaGreatDoorPg21
import Derived.Deep.RegionHeld3
import Derived.Deep.CutRange
set_option maxHeartbeats 16000000
set_option maxRecDepth 100000
set_option linter.unusedVariables false
open Go.Proofs.Tryz(prog)
namespace Go.Proofs.YtpfmlfcaadnnpaaGreatDoor
open Go.RowKit
attribute [local go_sem] Oper.semAt_some
def ErL (l m:List Ex):Prop:=m.length=l.length∧∀(i:Nat) (x:Ex),l[i]?=some x→∃z:Int,m[i]?=some ({ x with pos:=z }:Ex)
theorem ex_at_er {w:World} {b o:Nat} {x:Ex} {z:Int} (h:ExAt w b o { x with pos:=z }):∃s,w.cell? ⟨b,o,none⟩=some (.int .i64 x.kind)∧w.cell? ⟨b,o+1,none⟩=some (.int .i64 x.a)∧w.cell? ⟨b,o+2,none⟩=some (.int .i64 x.b) ∧
 w.cell? ⟨b,o+3,none⟩=some (.int .i64 x.c)∧w.cell? ⟨b,o+4,none⟩=some (.string x.name)∧w.cell? ⟨b,o+5,none⟩=some (.string x.state)∧w.cell? ⟨b,o+6,none⟩=some (.int .i64 x.v) ∧
 w.cell? ⟨b,o+7,none⟩=some s∧w.cell? ⟨b,o+8,none⟩=some (.int .i64 z)∧IntsAt w s x.args:=by
 obtain⟨s,h0,h1,h2,h3,h4,h5,h6,h7,h8,h9,_⟩:=h
 exact⟨s,h0,h1,h2,h3,h4,h5,h6,h7,h8,h9⟩
theorem two_allocE (w:World) (o1 o2:Obj):((w.alloc o1).alloc o2).heap[w.heap.size]?=some o1∧((w.alloc o1).alloc o2).heap[w.heap.size+1]?=some o2:=by
 refine⟨?_,?_⟩
 ·rw[heap_alloc_old _ _ (by simp)];exact World.alloc_heap_new w _
 ·have h:=World.alloc_heap_new (w.alloc o1) o2
  rwa [World.size_alloc] at h
theorem mayE_at {x:Ex} {i:Nat} (h:mayE x i=true) {j:Nat} (hj:j<(partsE x).length):0≤(partsE x).getD j 0∧(partsE x).getD j 0<(i:Int):=by
 unfold mayE at h
 simp only[Bool.and_eq_true,List.all_eq_true,decide_eq_true_eq] at h
 refine h.1.1.1.1.1.1.2 _ ?_
 rw[List.getD_eq_getElem?_getD,List.getElem?_eq_getElem hj]
 exact List.getElem_mem hj
theorem same_er_core (l m:List Ex) (o1 o2:Option Addr) (m1 d1 b1 f1 cap1 n m2 d2 b2 f2 cap2:Nat) (hn1:Hid (l.length=n)) (nl1:(n:Int)≤140737488351232)
  (hE:Hid (ErL l m)) (hm1:Hid (∀i x,l[i]?=some x→mayE x i=true)) (hS1:Hid (∀x ∈ l,(partsE x).length≤40000)) (w0:World)
  (hc1:Hid (∀i,i<n→∀x,l[i]?=some x→ExAt w0 b1 (f1+i*9) x)) (hc2:Hid (∀i,i<n→∀x,m[i]?=some x→ExAt w0 b2 (f2+i*9) x)) :
  ∀a:Nat,a<n→∀(W:World),Below w0.heap.size w0 W →
   Calls prog 30 #[.agg #[.slice o1 m1 d1,.slice (some ⟨b1,f1,none⟩) n cap1],.int .i64 (a:Int),.agg #[.slice o2 m2 d2,.slice (some ⟨b2,f2,none⟩) n cap2],.int .i64 (a:Int)] W fun r Y =>
    r=.returned (.bool true)∧Hid (Below W.heap.size W Y):=by
 intro a
 induction a using Nat.strongRecOn with
 | _ a ih =>
 intro ha W hW
 have IH:=Hd ih
 clear ih
 obtain⟨x,hxk⟩:∃x,l[a]?=some x:=⟨_,List.getElem?_eq_getElem (by have:=hn1.out;omega)⟩
 obtain⟨z,hyk⟩:=hE.out.2 a x hxk
 obtain⟨Wb,hWb⟩:∃Wb,Wb=(W.alloc (.cells #[.slice o1 m1 d1,.slice (some ⟨b1,f1,none⟩) n cap1] 26)).alloc (.cells #[.slice o2 m2 d2,.slice (some ⟨b2,f2,none⟩) n cap2] 26):=⟨_,rfl⟩
 have bb:Below W.heap.size W Wb:=by rw[hWb];exact((qB _ W).alloc (qL _) _).alloc (by rw[World.size_alloc];omega) _
 have pb:Wb.heap[W.heap.size]?=some (.cells #[.slice o1 m1 d1,.slice (some ⟨b1,f1,none⟩) n cap1] 26 (0,0)):=by rw[hWb];exact(two_boxes W _ _ _ _).1
 have qb:Wb.heap[W.heap.size+1]?=some (.cells #[.slice o2 m2 d2,.slice (some ⟨b2,f2,none⟩) n cap2] 26 (0,0)):=by rw[hWb];exact(two_boxes W _ _ _ _).2
 have p0:Wb.cell? ⟨W.heap.size,0,none⟩=some (.slice o1 m1 d1):=by simp[World.cell?,pb]
 have p1:Wb.cell? ⟨W.heap.size,1,none⟩=some (.slice (some ⟨b1,f1,none⟩) n cap1):=by simp[World.cell?,pb]
 have q0:Wb.cell? ⟨W.heap.size+1,0,none⟩=some (.slice o2 m2 d2):=by simp[World.cell?,qb]
 have q1:Wb.cell? ⟨W.heap.size+1,1,none⟩=some (.slice (some ⟨b2,f2,none⟩) n cap2):=by simp[World.cell?,qb]
 have hwb:=Hd (hW.trans (bb.mono hW.size))
 obtain⟨_,c0,c1,c2,c3,c4,c5,c6,c7,c8,hia,hok⟩:=(hc1.out a ha x hxk).below hwb.out
 obtain⟨_,e0,e1,e2,e3,e4,e5,e6,e7,e8,hib⟩:=ex_at_er ((hc2.out a ha _ hyk).below hwb.out)
 obtain⟨oa,capa,ba,offa,rfl,hia2⟩:=id hia
 obtain⟨ob,capb,bb2,offb,rfl,hib2⟩:=id hib
 have ix:=ix_exs (cap:=cap1) (o:=some ⟨b1,f1,none⟩) (n:=n) (b:=b1) (off:=f1) (fun _=>rfl) ha (by omega)
 have iy:=ix_exs (cap:=cap2) (o:=some ⟨b2,f2,none⟩) (n:=n) (b:=b2) (off:=f2) (fun _=>rfl) ha (by omega)
 unfold Ix at ix iy
 have HB:=Hd bb
 have HXK:=Hd hxk
 have HIA:=Hd hia
 have HIB:=Hd hib
 have HPS:=Hd (hS1.out x (List.mem_of_getElem? hxk))
 have HMX:=Hd (hm1.out a x hxk)
 clear hia2 hib2 hia hib hxk hyk bb pb qb
 go_enter Tryz.func30,Tryz.ntmps30
 go_wp2_with (fail)
 rw[←hWb]
 clear hWb
 go_cut [9,10] from 14 to 23 (fun s t wx=>∃X Y:Nat,s=.pointer (some ⟨X,0,none⟩)∧t=.pointer (some ⟨Y,0,none⟩)∧Hid (Below Wb.heap.size Wb wx) ∧
  Hid (wx.heap[X]?=some (.cells #[.int .i64 x.kind,.int .i64 x.a,.int .i64 x.b,.int .i64 x.c,.string x.name,.string x.state,.int .i64 x.v,.slice oa x.args.length capa,.int .i64 x.pos] 46 (0,0))) ∧
  Hid (wx.heap[Y]?=some (.cells #[.int .i64 x.kind,.int .i64 x.a,.int .i64 x.b,.int .i64 x.c,.string x.name,.string x.state,.int .i64 x.v,.slice ob x.args.length capb,.int .i64 z] 46 (0,0))))
 case first =>
  go_region_held3 (fun w'=>w'.cell? ⟨W.heap.size,1,none⟩=some (.slice (some ⟨b1,f1,none⟩) n cap1)∧w'.cell? ⟨W.heap.size+1,1,none⟩=some (.slice (some ⟨b2,f2,none⟩) n cap2) ∧
    w'.cell? ⟨b1,f1+a*9,none⟩=some (.int .i64 x.kind)∧w'.cell? ⟨b1,f1+a*9+1,none⟩=some (.int .i64 x.a)∧w'.cell? ⟨b1,f1+a*9+2,none⟩=some (.int .i64 x.b)∧w'.cell? ⟨b1,f1+a*9+3,none⟩=some (.int .i64 x.c)∧w'.cell? ⟨b1,f1+a*9+4,none⟩=some (.string x.name)∧w'.cell? ⟨b1,f1+a*9+5,none⟩=some (.string x.state)∧w'.cell? ⟨b1,f1+a*9+6,none⟩=some (.int .i64 x.v)∧w'.cell? ⟨b1,f1+a*9+7,none⟩=some (.slice oa x.args.length capa)∧w'.cell? ⟨b1,f1+a*9+8,none⟩=some (.int .i64 x.pos) ∧
    w'.cell? ⟨b2,f2+a*9,none⟩=some (.int .i64 x.kind)∧w'.cell? ⟨b2,f2+a*9+1,none⟩=some (.int .i64 x.a)∧w'.cell? ⟨b2,f2+a*9+2,none⟩=some (.int .i64 x.b)∧w'.cell? ⟨b2,f2+a*9+3,none⟩=some (.int .i64 x.c)∧w'.cell? ⟨b2,f2+a*9+4,none⟩=some (.string x.name)∧w'.cell? ⟨b2,f2+a*9+5,none⟩=some (.string x.state)∧w'.cell? ⟨b2,f2+a*9+6,none⟩=some (.int .i64 x.v)∧w'.cell? ⟨b2,f2+a*9+7,none⟩=some (.slice ob x.args.length capb)∧w'.cell? ⟨b2,f2+a*9+8,none⟩=some (.int .i64 z))
   (first | exact⟨p1,q1,c0,c1,c2,c3,c4,c5,c6,c7,c8,e0,e1,e2,e3,e4,e5,e6,e7,e8⟩ | ((repeat' apply And.intro) <;> first | assumption | go_keep))
   (first | fail)
  all_goals (go_wp2_with fail;go_meet)
  all_goals exact⟨_,_,rfl,rfl,Hd ((fun h:Below Wb.heap.size Wb ((Wb.alloc _).alloc _)=>⟨h.os,h.tape,h.output,h.size,h.block⟩) (((qB _ Wb).alloc (qL _) _).alloc (by rw[World.size_alloc];omega) _)),Hd (by first | exact(two_allocE _ _ _).1 | exact(two_allocE _ _ _).2),Hd (by first | exact(two_allocE _ _ _).1 | exact(two_allocE _ _ _).2)⟩
 case rest =>
  obtain⟨X,Y,rfl,rfl,hbx,hX,hY⟩:=hcut
  obtain⟨wx,hwx⟩:∃wx,wx=wc:=⟨_,rfl⟩
  rw[←hwx] at hbx hX hY ⊢
  have u0:=cell_on hbx.out p0
  have u1:=cell_on hbx.out p1
  have v0:=cell_on hbx.out q0
  have v1:=cell_on hbx.out q1
  have hxc:∀j u,(#[.int .i64 x.kind,.int .i64 x.a,.int .i64 x.b,.int .i64 x.c,.string x.name,.string x.state,.int .i64 x.v,.slice oa x.args.length capa,.int .i64 x.pos]:Array Value)[j]?=some u→wx.cell? ⟨X,j,none⟩=some u:=fun j u hu=>by simp only[World.cell?,hX.out];exact hu
  have hyc:∀j u,(#[.int .i64 x.kind,.int .i64 x.a,.int .i64 x.b,.int .i64 x.c,.string x.name,.string x.state,.int .i64 x.v,.slice ob x.args.length capb,.int .i64 z]:Array Value)[j]?=some u→wx.cell? ⟨Y,j,none⟩=some u:=fun j u hu=>by simp only[World.cell?,hY.out];exact hu
  have HWX:=Hd (hwb.out.trans (hbx.out.mono hwb.out.size))
  have s0:=hxc 0 _ rfl
  have s1:=hxc 1 _ rfl
  have s2:=hxc 2 _ rfl
  have s3:=hxc 3 _ rfl
  have s4:=hxc 4 _ rfl
  have s5:=hxc 5 _ rfl
  have s6:=hxc 6 _ rfl
  have s7:=hxc 7 _ rfl
  have s8:=hxc 8 _ rfl
  have t0:=hyc 0 _ rfl
  have t1:=hyc 1 _ rfl
  have t2:=hyc 2 _ rfl
  have t3:=hyc 3 _ rfl
  have t4:=hyc 4 _ rfl
  have t5:=hyc 5 _ rfl
  have t6:=hyc 6 _ rfl
  have t7:=hyc 7 _ rfl
  have t8:=hyc 8 _ rfl
  have CPx:Hid (∀V,Below wx.heap.size wx V→Calls prog 46 #[.agg #[.int .i64 x.kind,.int .i64 x.a,.int .i64 x.b,.int .i64 x.c,.string x.name,.string x.state,.int .i64 x.v,.slice oa x.args.length capa,.int .i64 x.pos]] V fun e w'=>NewInts (partsE x) V e w'):=Hd fun V h=>refParts_any x (.slice oa x.args.length capa) V ((HIA.out.below hbx.out).below h) HPS.out
  have CPy:Hid (∀V,Below wx.heap.size wx V→Calls prog 46 #[.agg #[.int .i64 x.kind,.int .i64 x.a,.int .i64 x.b,.int .i64 x.c,.string x.name,.string x.state,.int .i64 x.v,.slice ob x.args.length capb,.int .i64 z]] V fun e w'=>NewInts (partsE x) V e w'):=Hd fun V h=>refParts_any { x with pos:=z } (.slice ob x.args.length capb) V ((HIB.out.below hbx.out).below h) HPS.out
  clear hwx hxc hyc p0 p1 q0 q1 c0 c1 c2 c3 c4 c5 c6 c7 c8 e0 e1 e2 e3 e4 e5 e6 e7 e8 ix iy hok
  have hbd:Below wx.heap.size wx wx.drew:=⟨rfl,rfl,rfl,qL _,fun _ _=>rfl⟩
  go_wp2_with (fail)
  go_region_held3 (fun w'=>w'.cell? ⟨X,0,none⟩=some (.int .i64 x.kind)∧w'.cell? ⟨X,1,none⟩=some (.int .i64 x.a)∧w'.cell? ⟨X,2,none⟩=some (.int .i64 x.b)∧w'.cell? ⟨X,3,none⟩=some (.int .i64 x.c)∧w'.cell? ⟨X,4,none⟩=some (.string x.name)∧w'.cell? ⟨X,5,none⟩=some (.string x.state)∧w'.cell? ⟨X,6,none⟩=some (.int .i64 x.v)∧w'.cell? ⟨X,7,none⟩=some (.slice oa x.args.length capa)∧w'.cell? ⟨X,8,none⟩=some (.int .i64 x.pos) ∧
    w'.cell? ⟨Y,0,none⟩=some (.int .i64 x.kind)∧w'.cell? ⟨Y,1,none⟩=some (.int .i64 x.a)∧w'.cell? ⟨Y,2,none⟩=some (.int .i64 x.b)∧w'.cell? ⟨Y,3,none⟩=some (.int .i64 x.c)∧w'.cell? ⟨Y,4,none⟩=some (.string x.name)∧w'.cell? ⟨Y,5,none⟩=some (.string x.state)∧w'.cell? ⟨Y,6,none⟩=some (.int .i64 x.v)∧w'.cell? ⟨Y,7,none⟩=some (.slice ob x.args.length capb)∧w'.cell? ⟨Y,8,none⟩=some (.int .i64 z))
   (first | exact⟨s0,s1,s2,s3,s4,s5,s6,s7,s8,t0,t1,t2,t3,t4,t5,t6,t7,t8⟩ | exact⟨cell_on hb3 s0,cell_on hb3 s1,cell_on hb3 s2,cell_on hb3 s3,cell_on hb3 s4,cell_on hb3 s5,cell_on hb3 s6,cell_on hb3 s7,cell_on hb3 s8,cell_on hb3 t0,cell_on hb3 t1,cell_on hb3 t2,cell_on hb3 t3,cell_on hb3 t4,cell_on hb3 t5,cell_on hb3 t6,cell_on hb3 t7,cell_on hb3 t8⟩ | ((repeat' apply And.intro) <;> first | exact cell_on hb4 (cell_on hb3 (by assumption))))
   (first | (go_at_call_of 46 oa;refine(CPx.out _ hbd).mono ?_;rintro e w3 ⟨va,rfl,hra,hb3⟩) | (go_at_call_of 46 ob;refine(CPy.out _ (hbd.trans hb3)).mono ?_;rintro e w4 ⟨vb,rfl,hrb,hb4⟩))
  skip
  rename_i hK4
  obtain⟨ka1,ka2,ka3,ka4,ka5,ka6,ka7,ka8,ka9,kb1,kb2,kb3,kb4,kb5,kb6,kb7,kb8,kb9⟩:=hK4
  obtain⟨oxa,cxa,gxa,rfl,hoxa,hcxa⟩:=own_sl hra
  obtain⟨oyb,cyb,gyb,rfl,hoyb,hcyb⟩:=own_sl hrb
  obtain⟨nx,hnx⟩:∃nx,nx=(partsE x).length:=⟨_,rfl⟩
  have hsx:=HPS.out
  rw[←hnx] at hoxa hcxa hoyb hcyb hsx ⊢
  have HX1:=Hd fun j hj=>cell_on hb4 (hcxa j hj)
  have HY1:=Hd hcyb
  have HX0:=Hd hoxa
  have HY0:=Hd hoyb
  have HNX:=Hd hnx
  have hcell:∀(g o:Nat) (u:Value),wx.cell? ⟨g,o,none⟩=some u→w4.cell? ⟨g,o,none⟩=some u:=fun g o u hu=>cell_on hb4 (cell_on hb3 hu)
  have U0:=hcell _ _ _ u0
  have U1:=hcell _ _ _ u1
  have V0:=hcell _ _ _ v0
  have V1:=hcell _ _ _ v1
  have HB4:=Hd ((hbd.trans hb3).trans (hb4.mono hb3.size))
  clear hra hrb hb3 hb4 hcell s0 s1 s2 s3 s4 s5 s6 s7 s8 t0 t1 t2 t3 t4 t5 t6 t7 t8 hoxa hcxa hoyb hcyb u0 u1 v0 v1 hnx hbd CPx CPy
  have HBW:=Hd ((HB.out.trans (hbx.out.mono HB.out.size)).trans (HB4.out.mono (Nat.le_trans HB.out.size hbx.out.size)))
  clear ka2 ka3 ka4 ka8 ka9 kb2 kb3 kb4 kb8 kb9
  have z1:(x.kind !=x.kind)=false:=by simp
  have z2:(x.name.toList ==x.name.toList)=true:=by simp
  have z3:(x.state.toList ==x.state.toList)=true:=by simp
  have z4:(x.v !=x.v)=false:=by simp
  have z5:((nx:Int) !=(nx:Int))=false:=by simp
  go_wp2_with (fail)
  clear z1 z2 z3 z4 z5 ka1 ka5 ka6 ka7 kb1 kb5 kb6 kb7
  have HMP:Hid (∀j,j<nx→0≤(partsE x).getD j 0∧(partsE x).getD j 0<(a:Int)):=Hd fun j hj=>mayE_at HMX.out (by rw[←HNX.out];exact hj)
  have HW4:Hid (Below w0.heap.size w0 w4):=Hd (HWX.out.trans (HB4.out.mono HWX.out.size))
  have HU0:=Hd U0
  have HU1:=Hd U1
  have HV0:=Hd V0
  have HV1:=Hd V1
  clear U0 U1 V0 V1
  go_loopw [13] (fun i wr=>∃(c:Nat),i=.int .i64 (c:Int)∧c≤nx∧Hid (Below w4.heap.size w4 wr)) (fun i _=>nx-litLen i)
  case atStart=>exact⟨0,rfl,Nat.zero_le _,Hd (qB _ _)⟩
  case round =>
   obtain⟨c,rfl,hc,hWr⟩:=hrel
   rcases Nat.lt_or_ge c nx with hlt | hge
   ·have hl:(c:Int)<(nx:Int):=by omega
    have u0:=cell_on hWr.out HU0.out
    have u1:=cell_on hWr.out HU1.out
    have v0:=cell_on hWr.out HV0.out
    have v1:=cell_on hWr.out HV1.out
    have r1:=cell_on hWr.out (HX1.out c hlt)
    have r2:=cell_on hWr.out (HY1.out c hlt)
    have ix1:=ix_il (cap:=cxa) HX0.out hlt (by omega)
    have ix2:=ix_il (cap:=cyb) HY0.out hlt (by omega)
    unfold Ix at ix1 ix2
    obtain⟨m0,m1⟩:=HMP.out c hlt
    obtain⟨e,he⟩:=Int.eq_ofNat_of_zero_le m0
    have hbd:Below wr.heap.size wr wr.drew:=⟨rfl,rfl,rfl,qL _,fun _ _=>rfl⟩
    have hwr:Below w0.heap.size w0 wr:=HW4.out.trans (hWr.out.mono HW4.out.size)
    have C:=Hd (IH.out e (by omega) (by omega) wr.drew (hwr.trans (hbd.mono hwr.size)))
    rw[he] at r1 r2
    have HBD:=Hd hbd
    clear he m0 m1 hwr
    go_wp2_with (fail)
    go_region_held3 (fun w'=>w'.cell? ⟨W.heap.size,0,none⟩=some (.slice o1 m1 d1)∧w'.cell? ⟨W.heap.size,1,none⟩=some (.slice (some ⟨b1,f1,none⟩) n cap1)∧w'.cell? ⟨W.heap.size+1,0,none⟩=some (.slice o2 m2 d2)∧w'.cell? ⟨W.heap.size+1,1,none⟩=some (.slice (some ⟨b2,f2,none⟩) n cap2)∧w'.cell? ⟨gxa,c,none⟩=some (.int .i64 (e:Int))∧w'.cell? ⟨gyb,c,none⟩=some (.int .i64 (e:Int)))
     (first | exact⟨u0,u1,v0,v1,r1,r2⟩ | exact⟨cell_on hb5.out u0,cell_on hb5.out u1,cell_on hb5.out v0,cell_on hb5.out v1,cell_on hb5.out r1,cell_on hb5.out r2⟩)
     (first | (go_at_call 30;refine C.out.mono ?_;rintro r w5 ⟨rfl,hb5⟩))
    clear u0 u1 v0 v1 r1 r2 ix1 ix2 C IH
    have HB6:=Hd (hWr.out.trans ((HBD.out.trans hb5.out).mono hWr.out.size))
    go_wp2_with (fail)
    exact⟨⟨c+1,by go_num,by omega,HB6⟩,by simp[litLen];omega⟩
   ·obtain rfl:c=nx:=by omega
    have hno:¬(c:Int)<(c:Int):=by omega
    clear IH hge
    go_wp2_with (fail)
    go_ret
    exact⟨rfl,Hd (HBW.out.trans (hWr.out.mono HBW.out.size))⟩
theorem same_er (l m:List Ex) (o1 o2:Option Addr) (m1 d1 m2 d2:Nat) (s t:Value) (w0:World) (hs:ExsAt w0 s l) (ht:ExsAt w0 t m) (hE:ErL l m) (hg:∀i x,l[i]?=some x→mayE x i=true) (hS:∀x ∈ l,(partsE x).length≤40000) (hl:l.length≤reachN)
  (a:Nat) (ha:a<l.length) (W:World) (hW:Below w0.heap.size w0 W) :
  Calls prog 30 #[.agg #[.slice o1 m1 d1,s],.int .i64 (a:Int),.agg #[.slice o2 m2 d2,t],.int .i64 (a:Int)] W fun r Y=>r=.returned (.bool true)∧Hid (Below W.heap.size W Y):=by
 obtain⟨ox,capx,bx,fx,rfl,_,_,e1,c1⟩:=hs
 obtain⟨oy,capy,yb,fy,rfl,_,_,e2,c2⟩:=ht
 have hn:=hE.1
 rw[hn] at e2 c2 ⊢
 obtain rfl:=e1 (by omega)
 obtain rfl:=e2 (by omega)
 exact same_er_core l m o1 o2 m1 d1 bx fx capx l.length m2 d2 yb fy capy (Hd rfl) (by unfold reachN at hl;omega) (Hd hE) (Hd hg) (Hd hS) w0 (Hd c1) (Hd c2) a ha W hW
end Go.Proofs.YtpfmlfcaadnnpaaGreatDoor
namespace Go.Proofs.YtpfmlfcaadnnpaaGreatDoor
open Go.RowKit Lx
theorem er_of_map {p q:List Ex} (h:p.map (mX fun _=>0)=q.map (mX fun _=>0)):ErL p q:=by
 have hl:q.length=p.length:=by have:=congrArg List.length h;simpa using this.symm
 refine⟨hl,fun i x hx=>?_⟩
 have h1:(p.map (mX fun _=>0))[i]?=some (mX (fun _=>0) x):=by rw[List.getElem?_map,hx];rfl
 rw[h,List.getElem?_map] at h1
 cases hy:q[i]? with
 | none=>rw[hy] at h1;cases h1
 | some y =>
  rw[hy] at h1
  have h2:mX (fun _=>0) y=mX (fun _=>0) x:=qI h1
  refine⟨y.pos,?_⟩
  cases x
  cases y
  simp only[mX,Ex.mk.injEq] at h2
  simp[h2]
end Go.Proofs.YtpfmlfcaadnnpaaGreatDoor
namespace Go.Proofs.YtpfmlfcaadnnpaaGreatDoor
open Go.RowKit
attribute [local go_sem] Oper.semAt_some
theorem ix_paG {o:Option Addr} {n cap b off:Nat} (h:0<n→o=some ⟨b,off,none⟩) {j:Nat} (hj:j<n) (hn:n≤9223372036854775807):Ix 54 2 (.slice o n cap) b off j:=by
 intro W
 rw[h (by omega)]
 have h1:(j:Int)<(n:Int):=by omega
 have h2:(j:Int)≤9223372036854775807:=by omega
 go_simp
theorem ix_strG {o:Option Addr} {n cap b off:Nat} (h:0<n→o=some ⟨b,off,none⟩) {j:Nat} (hj:j<n) (hn:n≤9223372036854775807):Ix 63 1 (.slice o n cap) b off j:=by
 intro W
 rw[h (by omega)]
 have h1:(j:Int)<(n:Int):=by omega
 have h2:(j:Int)≤9223372036854775807:=by omega
 go_simp
theorem texts_er (xs:List ByteArray) (s t:Value) (w:World) (hs:Hid (StrsAt w s xs)) (ht:Hid (StrsAt w t xs)) (lx:Hid (xs.length≤reachN)) :
  Calls prog 57 #[s,t] w fun r Y=>r=.returned (.bool true)∧Hid (Below w.heap.size w Y):=by
 obtain⟨o1,cap1,b1,f1,rfl,_,_,e1,c1⟩:=hs.out
 obtain⟨o2,cap2,b2,f2,rfl,_,_,e2,c2⟩:=ht.out
 obtain⟨n,hn⟩:∃n,n=xs.length:=⟨_,rfl⟩
 rw[←hn] at e1 c1 e2 c2 ⊢
 have E1:=Hd e1
 have E2:=Hd e2
 have C1:=Hd c1
 have C2:=Hd c2
 have hnl:(n:Int)≤140737488351232:=by have:=lx.out;unfold reachN at this;omega
 clear hn e1 e2 c1 c2 hs ht lx
 go_enter Tryz.func57,Tryz.ntmps57
 have z1:((n:Int) !=(n:Int))=false:=by simp
 go_wp2_with (fail)
 clear z1
 go_loopw [5] (fun i wr=>∃(c:Nat),i=.int .i64 (c:Int)∧c≤n∧Hid (Below w.heap.size w wr)) (fun i _=>n-litLen i)
 case atStart=>exact⟨0,rfl,Nat.zero_le _,Hd (qB _ _)⟩
 case round =>
  obtain⟨c,rfl,hc,hWr⟩:=hrel
  rcases Nat.lt_or_ge c n with hlt | hge
  ·have hl:(c:Int)<(n:Int):=by omega
   have r1:=cell_on hWr.out (C1.out c hlt)
   have r2:=cell_on hWr.out (C2.out c hlt)
   have ix1:=ix_strG (cap:=cap1) E1.out hlt (by omega)
   have ix2:=ix_strG (cap:=cap2) E2.out hlt (by omega)
   unfold Ix at ix1 ix2
   obtain⟨x,hx⟩:∃x,x=xs.getD c ⟨#[]⟩:=⟨_,rfl⟩
   rw[←hx,Nat.mul_one] at r1 r2
   have HDR:Hid (Below w.heap.size w wr.drew):=Hd (hWr.out.trans ⟨rfl,rfl,rfl,qL _,fun _ _=>rfl⟩)
   clear hx
   have z2:(x.toList ==x.toList)=true:=by simp
   go_wp2_with (fail)
   go_region_held3 (fun w'=>w'.cell? ⟨b1,f1+c,none⟩=some (.string x)∧w'.cell? ⟨b2,f2+c,none⟩=some (.string x))
    (first | exact⟨r1,r2⟩)
    (first | fail)
   all_goals (go_wp2_with fail)
   exact⟨⟨c+1,by go_num,by omega,HDR⟩,by simp[litLen];omega⟩
  ·obtain rfl:c=n:=by omega
   have hno:¬(c:Int)<(c:Int):=by omega
   go_wp2_with (fail)
   go_ret
   exact⟨rfl,hWr⟩
end Go.Proofs.YtpfmlfcaadnnpaaGreatDoor
namespace Go.Proofs.YtpfmlfcaadnnpaaGreatDoor
open Go.RowKit
attribute [local go_sem] Oper.semAt_some
theorem mayI_e2 {n:Nat} {x:It} (h:mayI n x=true) (he:hasE x.kind=true):0≤x.e∧x.e<(n:Int):=by
 unfold mayI standsE at h
 rw[he,Bool.and_eq_true] at h
 simpa using h.1
theorem mayI_f2 {n:Nat} {x:It} (h:mayI n x=true) (he:hasF x.kind=true):0≤x.f∧x.f<(n:Int):=by
 unfold mayI standsE at h
 rw[he,Bool.and_eq_true] at h
 simpa using h.2
theorem it_at_er {w:World} {b o:Nat} {x:It} {z:Int} (h:ItAt w b o { x with pos:=z }):∃s,w.cell? ⟨b,o,none⟩=some (.int .i64 x.kind)∧w.cell? ⟨b,o+1,none⟩=some (.string x.name)∧w.cell? ⟨b,o+2,none⟩=some (.int .i64 x.type) ∧
 w.cell? ⟨b,o+3,none⟩=some (.int .i64 x.e)∧w.cell? ⟨b,o+4,none⟩=some (.int .i64 x.f)∧w.cell? ⟨b,o+5,none⟩=some s∧w.cell? ⟨b,o+6,none⟩=some (.string x.state) ∧
 w.cell? ⟨b,o+7,none⟩=some (.string x.next)∧w.cell? ⟨b,o+8,none⟩=some (.int .i64 z)∧StrsAt w s x.states:=by
 obtain⟨s,h0,h1,h2,h3,h4,h5,h6,h7,h8,h9,_⟩:=h
 exact⟨s,h0,h1,h2,h3,h4,h5,h6,h7,h8,h9⟩
def ErI (l m:List It):Prop:=m.length=l.length∧∀(i:Nat) (x:It),l[i]?=some x→∃z:Int,m[i]?=some ({ x with pos:=z }:It)
theorem items_er (o1 o2 oe1 oe2:Option Addr) (m1 d1 cap1 n1 m2 d2 cap2:Nat) (w0:World) (SE:Hid (∀a:Nat,a<n1→∀W:World,Below w0.heap.size w0 W→Calls prog 30 #[.agg #[.slice o1 m1 d1,.slice oe1 n1 cap1],.int .i64 (a:Int),.agg #[.slice o2 m2 d2,.slice oe2 n1 cap2],.int .i64 (a:Int)] W fun r Y=>r=.returned (.bool true)∧Hid (Below W.heap.size W Y)))
  (xs ys:List It) (s t:Value) (hs:Hid (SlAt s xs.length 9 fun b o i=>∀y,xs[i]?=some y→ItAt w0 b o y)) (ht:Hid (SlAt t ys.length 9 fun b o i=>∀y,ys[i]?=some y→ItAt w0 b o y)) (hE:Hid (ErI xs ys))
  (lx:Hid (xs.length≤reachN)) (mx:Hid (∀x ∈ xs,mayI n1 x=true)) (W:World) (hW:Hid (Below w0.heap.size w0 W)) :
  Calls prog 29 #[.agg #[.slice o1 m1 d1,.slice oe1 n1 cap1],s,.agg #[.slice o2 m2 d2,.slice oe2 n1 cap2],t] W fun r Y=>r=.returned (.bool true)∧Hid (Below W.heap.size W Y):=by
 obtain⟨ox,capx,bx,fx,rfl,_,_,e1,c1⟩:=hs.out
 obtain⟨oy,capy,yb,fy,rfl,_,_,e2,c2⟩:=ht.out
 have hyl:=hE.out.1
 rw[hyl] at e2 c2 ⊢
 obtain⟨n,hn⟩:∃n,n=xs.length:=⟨_,rfl⟩
 rw[←hn] at e1 c1 e2 c2 ⊢
 have HN:=Hd hn
 have E1:=Hd e1
 have E2:=Hd e2
 have C1:=Hd c1
 have C2:=Hd c2
 have hnl:(n:Int)≤140737488351232:=by have:=lx.out;unfold reachN at this;omega
 clear hn e1 e2 c1 c2 hs ht lx hyl
 obtain⟨Wb,hWb⟩:∃Wb,Wb=(W.alloc (.cells #[.slice o1 m1 d1,.slice oe1 n1 cap1] 26)).alloc (.cells #[.slice o2 m2 d2,.slice oe2 n1 cap2] 26):=⟨_,rfl⟩
 have HB:Hid (Below W.heap.size W Wb):=Hd (by rw[hWb];exact((qB _ W).alloc (qL _) _).alloc (by rw[World.size_alloc];omega) _)
 have PB:Hid (Wb.heap[W.heap.size]?=some (.cells #[.slice o1 m1 d1,.slice oe1 n1 cap1] 26 (0,0))):=Hd (by rw[hWb];exact(two_boxes W _ _ _ _).1)
 have QB:Hid (Wb.heap[W.heap.size+1]?=some (.cells #[.slice o2 m2 d2,.slice oe2 n1 cap2] 26 (0,0))):=Hd (by rw[hWb];exact(two_boxes W _ _ _ _).2)
 have hwb:=Hd (hW.out.trans (HB.out.mono hW.out.size))
 go_enter Tryz.func29,Tryz.ntmps29
 have z1:((n:Int) !=(n:Int))=false:=by simp
 go_wp2_with (fail)
 rw[←hWb]
 clear z1 hWb
 go_loopw [9] (fun i wr=>∃(c:Nat),i=.int .i64 (c:Int)∧c≤n∧Hid (Below Wb.heap.size Wb wr)) (fun i _=>n-litLen i)
 case atStart=>exact⟨0,rfl,Nat.zero_le _,Hd (qB _ _)⟩
 case round =>
  obtain⟨c,rfl,hc,hWr⟩:=hrel
  rcases Nat.lt_or_ge c n with hlt | hge
  ·have hl:(c:Int)<(n:Int):=by omega
   have ix1:=ix_its (cap:=capx) E1.out hlt (by omega)
   have ix2:=ix_its (cap:=capy) E2.out hlt (by omega)
   unfold Ix at ix1 ix2
   obtain⟨x,hxk⟩:∃x,xs[c]?=some x:=⟨_,List.getElem?_eq_getElem (by have:=HN.out;omega)⟩
   obtain⟨z,hyk⟩:=hE.out.2 c x hxk
   have hwr:=Hd (hwb.out.trans (hWr.out.mono hwb.out.size))
   obtain⟨_,i0,i1,i2,i3,i4,i5,i6,i7,i8,hsx,hokx⟩:=(C1.out c hlt x hxk).below hwr.out
   obtain⟨_,j0,j1,j2,j3,j4,j5,j6,j7,j8,hsy⟩:=it_at_er ((C2.out c hlt _ hyk).below hwr.out)
   have HSX:=Hd hsx
   have HSY:=Hd hsy
   obtain⟨osx,capsx,bsx,fsx,rfl,_⟩:=hsx
   obtain⟨osy,capsy,bsy,fsy,rfl,_⟩:=hsy
   have HOX:=Hd hokx
   have HMX:=Hd (mx.out x (List.mem_of_getElem? hxk))
   clear hxk hyk hokx
   go_upto_region 6 with (fail)
   go_cut [10,11] from 25 to 32 (fun s t wx=>∃X Y:Nat,s=.pointer (some ⟨X,0,none⟩)∧t=.pointer (some ⟨Y,0,none⟩)∧Hid (Below wr.heap.size wr wx) ∧
    Hid (wx.heap[X]?=some (.cells #[.int .i64 x.kind,.string x.name,.int .i64 x.type,.int .i64 x.e,.int .i64 x.f,.slice osx x.states.length capsx,.string x.state,.string x.next,.int .i64 x.pos] 65 (0,0))) ∧
    Hid (wx.heap[Y]?=some (.cells #[.int .i64 x.kind,.string x.name,.int .i64 x.type,.int .i64 x.e,.int .i64 x.f,.slice osy x.states.length capsy,.string x.state,.string x.next,.int .i64 z] 65 (0,0))))
   case first =>
    go_region_held3 (fun w'=>w'.cell? ⟨bx,fx+c*9,none⟩=some (.int .i64 x.kind)∧w'.cell? ⟨bx,fx+c*9+1,none⟩=some (.string x.name)∧w'.cell? ⟨bx,fx+c*9+2,none⟩=some (.int .i64 x.type)∧w'.cell? ⟨bx,fx+c*9+3,none⟩=some (.int .i64 x.e)∧w'.cell? ⟨bx,fx+c*9+4,none⟩=some (.int .i64 x.f)∧w'.cell? ⟨bx,fx+c*9+5,none⟩=some (.slice osx x.states.length capsx)∧w'.cell? ⟨bx,fx+c*9+6,none⟩=some (.string x.state)∧w'.cell? ⟨bx,fx+c*9+7,none⟩=some (.string x.next)∧w'.cell? ⟨bx,fx+c*9+8,none⟩=some (.int .i64 x.pos)∧w'.cell? ⟨yb,fy+c*9,none⟩=some (.int .i64 x.kind)∧w'.cell? ⟨yb,fy+c*9+1,none⟩=some (.string x.name)∧w'.cell? ⟨yb,fy+c*9+2,none⟩=some (.int .i64 x.type)∧w'.cell? ⟨yb,fy+c*9+3,none⟩=some (.int .i64 x.e)∧w'.cell? ⟨yb,fy+c*9+4,none⟩=some (.int .i64 x.f)∧w'.cell? ⟨yb,fy+c*9+5,none⟩=some (.slice osy x.states.length capsy)∧w'.cell? ⟨yb,fy+c*9+6,none⟩=some (.string x.state)∧w'.cell? ⟨yb,fy+c*9+7,none⟩=some (.string x.next)∧w'.cell? ⟨yb,fy+c*9+8,none⟩=some (.int .i64 z))
     (first | exact⟨i0,i1,i2,i3,i4,i5,i6,i7,i8,j0,j1,j2,j3,j4,j5,j6,j7,j8⟩ | ((repeat' apply And.intro) <;> first | assumption | go_keep))
     (first | fail)
    all_goals (go_wp2_with fail;go_meet)
    all_goals exact⟨_,_,rfl,rfl,Hd ((fun h:Below wr.heap.size wr ((wr.alloc _).alloc _)=>⟨h.os,h.tape,h.output,h.size,h.block⟩) (((qB _ wr).alloc (qL _) _).alloc (by rw[World.size_alloc];omega) _)),Hd (by first | exact(two_boxes' _ _ _ _ _).1 | exact(two_boxes' _ _ _ _ _).2),Hd (by first | exact(two_boxes' _ _ _ _ _).1 | exact(two_boxes' _ _ _ _ _).2)⟩
   case rest =>
    obtain⟨X,Y,rfl,rfl,hbx,hX,hY⟩:=hcut
    obtain⟨wx,hwx⟩:∃wx,wx=wc:=⟨_,rfl⟩
    rw[←hwx] at hbx hX hY ⊢
    have P0:wx.cell? ⟨W.heap.size,0,none⟩=some (.slice o1 m1 d1):=cell_on hbx.out (cell_on hWr.out (by simp[World.cell?,PB.out]))
    have P1:wx.cell? ⟨W.heap.size,1,none⟩=some (.slice oe1 n1 cap1):=cell_on hbx.out (cell_on hWr.out (by simp[World.cell?,PB.out]))
    have Q0:wx.cell? ⟨W.heap.size+1,0,none⟩=some (.slice o2 m2 d2):=cell_on hbx.out (cell_on hWr.out (by simp[World.cell?,QB.out]))
    have Q1:wx.cell? ⟨W.heap.size+1,1,none⟩=some (.slice oe2 n1 cap2):=cell_on hbx.out (cell_on hWr.out (by simp[World.cell?,QB.out]))
    have hxc:∀j u,(#[.int .i64 x.kind,.string x.name,.int .i64 x.type,.int .i64 x.e,.int .i64 x.f,.slice osx x.states.length capsx,.string x.state,.string x.next,.int .i64 x.pos]:Array Value)[j]?=some u→wx.cell? ⟨X,j,none⟩=some u:=fun j u hu=>by simp only[World.cell?,hX.out];exact hu
    have hyc:∀j u,(#[.int .i64 x.kind,.string x.name,.int .i64 x.type,.int .i64 x.e,.int .i64 x.f,.slice osy x.states.length capsy,.string x.state,.string x.next,.int .i64 z]:Array Value)[j]?=some u→wx.cell? ⟨Y,j,none⟩=some u:=fun j u hu=>by simp only[World.cell?,hY.out];exact hu
    have HWX:=Hd (hwr.out.trans (hbx.out.mono hwr.out.size))
    have HBR:=Hd (hWr.out.trans (hbx.out.mono hWr.out.size))
    have s0:wx.cell? ⟨X,0,none⟩=some (.int .i64 x.kind):=hxc 0 _ rfl
    have s1:wx.cell? ⟨X,1,none⟩=some (.string x.name):=hxc 1 _ rfl
    have s2:wx.cell? ⟨X,2,none⟩=some (.int .i64 x.type):=hxc 2 _ rfl
    have s3:wx.cell? ⟨X,3,none⟩=some (.int .i64 x.e):=hxc 3 _ rfl
    have s4:wx.cell? ⟨X,4,none⟩=some (.int .i64 x.f):=hxc 4 _ rfl
    have s5:wx.cell? ⟨X,5,none⟩=some (.slice osx x.states.length capsx):=hxc 5 _ rfl
    have s6:wx.cell? ⟨X,6,none⟩=some (.string x.state):=hxc 6 _ rfl
    have s7:wx.cell? ⟨X,7,none⟩=some (.string x.next):=hxc 7 _ rfl
    have t0:wx.cell? ⟨Y,0,none⟩=some (.int .i64 x.kind):=hyc 0 _ rfl
    have t1:wx.cell? ⟨Y,1,none⟩=some (.string x.name):=hyc 1 _ rfl
    have t2:wx.cell? ⟨Y,2,none⟩=some (.int .i64 x.type):=hyc 2 _ rfl
    have t3:wx.cell? ⟨Y,3,none⟩=some (.int .i64 x.e):=hyc 3 _ rfl
    have t4:wx.cell? ⟨Y,4,none⟩=some (.int .i64 x.f):=hyc 4 _ rfl
    have t5:wx.cell? ⟨Y,5,none⟩=some (.slice osy x.states.length capsy):=hyc 5 _ rfl
    have t6:wx.cell? ⟨Y,6,none⟩=some (.string x.state):=hyc 6 _ rfl
    have t7:wx.cell? ⟨Y,7,none⟩=some (.string x.next):=hyc 7 _ rfl
    obtain⟨he,hhe⟩:∃h,h=hasE x.kind:=⟨_,rfl⟩
    obtain⟨hf,hhf⟩:∃h,h=hasF x.kind:=⟨_,rfl⟩
    have CH:Hid (∀V,Calls prog 24 #[.int .i64 x.kind] V fun e w'=>e=.returned (.tuple #[.bool he,.bool hf])∧V=w'):=Hd fun V=>by rw[hhe,hhf];exact(has_any _ V).mono fun _ _ h=>⟨h.1,h.2.symm⟩
    have CT:=Hd (texts_er x.states _ _ wx (Hd (HSX.out.below hbx.out)) (Hd (HSY.out.below hbx.out)) (Hd HOX.out.states))
    have HHE:=Hd hhe
    have HHF:=Hd hhf
    clear hwx hxc hyc ix1 ix2 i0 i1 i2 i3 i4 i5 i6 i7 i8 j0 j1 j2 j3 j4 j5 j6 j7 j8 hX hY hhe hhf
    have z1:(x.kind !=x.kind)=false:=by simp
    have z2:(x.name.toList ==x.name.toList)=true:=by simp
    have z3:(x.type !=x.type)=false:=by simp
    have z4:(x.state.toList ==x.state.toList)=true:=by simp
    have z5:(x.next.toList ==x.next.toList)=true:=by simp
    cases he with
    | true =>
     obtain⟨u0,u1⟩:=mayI_e2 HMX.out HHE.out.symm
     obtain⟨e1,he1⟩:=Int.eq_ofNat_of_zero_le u0
     have CSE:=Hd fun V (hV:Below wx.heap.size wx V)=>SE.out e1 (by omega) V (HWX.out.trans (hV.mono HWX.out.size))
     rw[he1] at s3 t3
     clear u0 u1 he1
     cases hf with
     | true =>
      obtain⟨u0,u1⟩:=mayI_f2 HMX.out HHF.out.symm
      obtain⟨f1,he1⟩:=Int.eq_ofNat_of_zero_le u0
      have CSF:=Hd fun V (hV:Below wx.heap.size wx V)=>SE.out f1 (by omega) V (HWX.out.trans (hV.mono HWX.out.size))
      rw[he1] at s4 t4
      clear u0 u1 he1
      go_wp2_with (first
        | (go_at_call 24;((with_reducible refine(CH.out _).mono ?_);rintro e w9 ⟨rfl,rfl⟩))
        | (go_at_call 57;((with_reducible refine CT.out.mono ?_);rintro e w5 ⟨rfl,hb5'⟩);have hb5:=hb5'.out;have HBN:=Hd hb5;replace P0:=cell_on hb5 P0;replace P1:=cell_on hb5 P1;replace Q0:=cell_on hb5 Q0;replace Q1:=cell_on hb5 Q1;replace s0:=cell_on hb5 s0;replace s1:=cell_on hb5 s1;replace s2:=cell_on hb5 s2;replace s3:=cell_on hb5 s3;replace s4:=cell_on hb5 s4;replace s5:=cell_on hb5 s5;replace s6:=cell_on hb5 s6;replace s7:=cell_on hb5 s7;replace t0:=cell_on hb5 t0;replace t1:=cell_on hb5 t1;replace t2:=cell_on hb5 t2;replace t3:=cell_on hb5 t3;replace t4:=cell_on hb5 t4;replace t5:=cell_on hb5 t5;replace t6:=cell_on hb5 t6;replace t7:=cell_on hb5 t7;clear hb5 CT)
        | (go_at_call 30;((with_reducible refine(CSE.out _ HBN.out).mono ?_);rintro e w6 ⟨rfl,hb6'⟩);have hb6:=hb6'.out;replace HBN:=Hd (HBN.out.trans (hb6.mono HBN.out.size));replace P0:=cell_on hb6 P0;replace P1:=cell_on hb6 P1;replace Q0:=cell_on hb6 Q0;replace Q1:=cell_on hb6 Q1;replace s0:=cell_on hb6 s0;replace s1:=cell_on hb6 s1;replace s2:=cell_on hb6 s2;replace s3:=cell_on hb6 s3;replace s4:=cell_on hb6 s4;replace s5:=cell_on hb6 s5;replace s6:=cell_on hb6 s6;replace s7:=cell_on hb6 s7;replace t0:=cell_on hb6 t0;replace t1:=cell_on hb6 t1;replace t2:=cell_on hb6 t2;replace t3:=cell_on hb6 t3;replace t4:=cell_on hb6 t4;replace t5:=cell_on hb6 t5;replace t6:=cell_on hb6 t6;replace t7:=cell_on hb6 t7;clear hb6 CSE)
        | (go_at_call 30;((with_reducible refine(CSF.out _ HBN.out).mono ?_);rintro e w7 ⟨rfl,hb7'⟩);have hb7:=hb7'.out;replace HBN:=Hd (HBN.out.trans (hb7.mono HBN.out.size));replace P0:=cell_on hb7 P0;replace P1:=cell_on hb7 P1;replace Q0:=cell_on hb7 Q0;replace Q1:=cell_on hb7 Q1;replace s0:=cell_on hb7 s0;replace s1:=cell_on hb7 s1;replace s2:=cell_on hb7 s2;replace s3:=cell_on hb7 s3;replace s4:=cell_on hb7 s4;replace s5:=cell_on hb7 s5;replace s6:=cell_on hb7 s6;replace s7:=cell_on hb7 s7;replace t0:=cell_on hb7 t0;replace t1:=cell_on hb7 t1;replace t2:=cell_on hb7 t2;replace t3:=cell_on hb7 t3;replace t4:=cell_on hb7 t4;replace t5:=cell_on hb7 t5;replace t6:=cell_on hb7 t6;replace t7:=cell_on hb7 t7;clear hb7 CSF))
      exact⟨⟨c+1,by go_num,by omega,Hd (HBR.out.trans (HBN.out.mono HBR.out.size))⟩,by simp[litLen];omega⟩
     | false =>
      go_wp2_with (first
        | (go_at_call 24;((with_reducible refine(CH.out _).mono ?_);rintro e w9 ⟨rfl,rfl⟩))
        | (go_at_call 57;((with_reducible refine CT.out.mono ?_);rintro e w5 ⟨rfl,hb5'⟩);have hb5:=hb5'.out;have HBN:=Hd hb5;replace P0:=cell_on hb5 P0;replace P1:=cell_on hb5 P1;replace Q0:=cell_on hb5 Q0;replace Q1:=cell_on hb5 Q1;replace s0:=cell_on hb5 s0;replace s1:=cell_on hb5 s1;replace s2:=cell_on hb5 s2;replace s3:=cell_on hb5 s3;replace s4:=cell_on hb5 s4;replace s5:=cell_on hb5 s5;replace s6:=cell_on hb5 s6;replace s7:=cell_on hb5 s7;replace t0:=cell_on hb5 t0;replace t1:=cell_on hb5 t1;replace t2:=cell_on hb5 t2;replace t3:=cell_on hb5 t3;replace t4:=cell_on hb5 t4;replace t5:=cell_on hb5 t5;replace t6:=cell_on hb5 t6;replace t7:=cell_on hb5 t7;clear hb5 CT)
        | (go_at_call 30;((with_reducible refine(CSE.out _ HBN.out).mono ?_);rintro e w6 ⟨rfl,hb6'⟩);have hb6:=hb6'.out;replace HBN:=Hd (HBN.out.trans (hb6.mono HBN.out.size));replace P0:=cell_on hb6 P0;replace P1:=cell_on hb6 P1;replace Q0:=cell_on hb6 Q0;replace Q1:=cell_on hb6 Q1;replace s0:=cell_on hb6 s0;replace s1:=cell_on hb6 s1;replace s2:=cell_on hb6 s2;replace s3:=cell_on hb6 s3;replace s4:=cell_on hb6 s4;replace s5:=cell_on hb6 s5;replace s6:=cell_on hb6 s6;replace s7:=cell_on hb6 s7;replace t0:=cell_on hb6 t0;replace t1:=cell_on hb6 t1;replace t2:=cell_on hb6 t2;replace t3:=cell_on hb6 t3;replace t4:=cell_on hb6 t4;replace t5:=cell_on hb6 t5;replace t6:=cell_on hb6 t6;replace t7:=cell_on hb6 t7;clear hb6 CSE))
      exact⟨⟨c+1,by go_num,by omega,Hd (HBR.out.trans (HBN.out.mono HBR.out.size))⟩,by simp[litLen];omega⟩
    | false =>
     cases hf with
     | true =>
      obtain⟨u0,u1⟩:=mayI_f2 HMX.out HHF.out.symm
      obtain⟨f1,he1⟩:=Int.eq_ofNat_of_zero_le u0
      have CSF:=Hd fun V (hV:Below wx.heap.size wx V)=>SE.out f1 (by omega) V (HWX.out.trans (hV.mono HWX.out.size))
      rw[he1] at s4 t4
      clear u0 u1 he1
      go_wp2_with (first
        | (go_at_call 24;((with_reducible refine(CH.out _).mono ?_);rintro e w9 ⟨rfl,rfl⟩))
        | (go_at_call 57;((with_reducible refine CT.out.mono ?_);rintro e w5 ⟨rfl,hb5'⟩);have hb5:=hb5'.out;have HBN:=Hd hb5;replace P0:=cell_on hb5 P0;replace P1:=cell_on hb5 P1;replace Q0:=cell_on hb5 Q0;replace Q1:=cell_on hb5 Q1;replace s0:=cell_on hb5 s0;replace s1:=cell_on hb5 s1;replace s2:=cell_on hb5 s2;replace s3:=cell_on hb5 s3;replace s4:=cell_on hb5 s4;replace s5:=cell_on hb5 s5;replace s6:=cell_on hb5 s6;replace s7:=cell_on hb5 s7;replace t0:=cell_on hb5 t0;replace t1:=cell_on hb5 t1;replace t2:=cell_on hb5 t2;replace t3:=cell_on hb5 t3;replace t4:=cell_on hb5 t4;replace t5:=cell_on hb5 t5;replace t6:=cell_on hb5 t6;replace t7:=cell_on hb5 t7;clear hb5 CT)
        | (go_at_call 30;((with_reducible refine(CSF.out _ HBN.out).mono ?_);rintro e w7 ⟨rfl,hb7'⟩);have hb7:=hb7'.out;replace HBN:=Hd (HBN.out.trans (hb7.mono HBN.out.size));replace P0:=cell_on hb7 P0;replace P1:=cell_on hb7 P1;replace Q0:=cell_on hb7 Q0;replace Q1:=cell_on hb7 Q1;replace s0:=cell_on hb7 s0;replace s1:=cell_on hb7 s1;replace s2:=cell_on hb7 s2;replace s3:=cell_on hb7 s3;replace s4:=cell_on hb7 s4;replace s5:=cell_on hb7 s5;replace s6:=cell_on hb7 s6;replace s7:=cell_on hb7 s7;replace t0:=cell_on hb7 t0;replace t1:=cell_on hb7 t1;replace t2:=cell_on hb7 t2;replace t3:=cell_on hb7 t3;replace t4:=cell_on hb7 t4;replace t5:=cell_on hb7 t5;replace t6:=cell_on hb7 t6;replace t7:=cell_on hb7 t7;clear hb7 CSF))
      exact⟨⟨c+1,by go_num,by omega,Hd (HBR.out.trans (HBN.out.mono HBR.out.size))⟩,by simp[litLen];omega⟩
     | false =>
      go_wp2_with (first
        | (go_at_call 24;((with_reducible refine(CH.out _).mono ?_);rintro e w9 ⟨rfl,rfl⟩))
        | (go_at_call 57;((with_reducible refine CT.out.mono ?_);rintro e w5 ⟨rfl,hb5'⟩);have hb5:=hb5'.out;have HBN:=Hd hb5;replace P0:=cell_on hb5 P0;replace P1:=cell_on hb5 P1;replace Q0:=cell_on hb5 Q0;replace Q1:=cell_on hb5 Q1;replace s0:=cell_on hb5 s0;replace s1:=cell_on hb5 s1;replace s2:=cell_on hb5 s2;replace s3:=cell_on hb5 s3;replace s4:=cell_on hb5 s4;replace s5:=cell_on hb5 s5;replace s6:=cell_on hb5 s6;replace s7:=cell_on hb5 s7;replace t0:=cell_on hb5 t0;replace t1:=cell_on hb5 t1;replace t2:=cell_on hb5 t2;replace t3:=cell_on hb5 t3;replace t4:=cell_on hb5 t4;replace t5:=cell_on hb5 t5;replace t6:=cell_on hb5 t6;replace t7:=cell_on hb5 t7;clear hb5 CT))
      exact⟨⟨c+1,by go_num,by omega,Hd (HBR.out.trans (HBN.out.mono HBR.out.size))⟩,by simp[litLen];omega⟩
  ·obtain rfl:c=n:=by omega
   have hno:¬(c:Int)<(c:Int):=by omega
   go_wp2_with (fail)
   go_ret
   exact⟨rfl,Hd (HB.out.trans (hWr.out.mono HB.out.size))⟩
end Go.Proofs.YtpfmlfcaadnnpaaGreatDoor
