import Derived.Test.YtpfmlfcaadnnpaaGreatDoorPg22
import Derived.Deep.RegionHeld3
import Derived.Deep.CutRange
import Derived.Below
import Derived.ChangeSame
import Derived.ProofKit
import Derived.OpenShut
import Derived.LaidMore
import Derived.Lay
import Derived.SevenTiedAt
import Derived.Stop.Joined
import Derived.Stop.LaidErr
import Derived.Lib.LaidU8
set_option maxHeartbeats 16000000
set_option maxRecDepth 100000
set_option linter.unusedVariables false
open Go.Proofs.Tryz(prog)
namespace Go.Proofs.YtpfmlfcaadnnpaaGreatDoor
open Go.RowKit
attribute [local go_sem] Oper.semAt_some
theorem de_at_er {w:World} {b o:Nat} {x:De} {l:List It} {z:Int} (h:DeAt w b o { x with items:=l,pos:=z }):∃s t,w.cell? ⟨b,o,none⟩=some (.int .i64 x.kind)∧w.cell? ⟨b,o+1,none⟩=some (.string x.name)∧w.cell? ⟨b,o+2,none⟩=some s ∧
 w.cell? ⟨b,o+3,none⟩=some t∧w.cell? ⟨b,o+4,none⟩=some (.int .i64 x.type)∧w.cell? ⟨b,o+5,none⟩=some (.int .i64 x.e)∧w.cell? ⟨b,o+6,none⟩=some (.int .i64 z) ∧
 SlAt s x.params.length 2 (fun b o i=>∀y,x.params[i]?=some y→PaAt w b o y)∧SlAt t l.length 9 (fun b o i=>∀y,l[i]?=some y→ItAt w b o y):=by
 obtain⟨s,t,h0,h1,h2,h3,h4,h5,h6,h7,h8,_⟩:=h
 exact⟨s,t,h0,h1,h2,h3,h4,h5,h6,h7,h8⟩
def ErD (l m:List De):Prop:=m.length=l.length∧∀(i:Nat) (x:De),l[i]?=some x→∃(t:List It) (z:Int),m[i]?=some ({ x with items:=t,pos:=z }:De)∧ErI x.items t
theorem de_e {n:Nat} {x:De} (h:GoodD x n) (hk:hasVal x.kind=true):0≤x.e∧x.e<(n:Int):=by
 have h:=h.val
 unfold standsE at h
 rw[hk] at h
 simpa using h
theorem all_er_core (o1 o2 oe1 oe2:Option Addr) (m1 d1 cap1 n1 d2 cap2 e1 g1 e2 g2:Nat) (w0:World) (SE:Hid (∀a:Nat,a<n1→∀W:World,Below w0.heap.size w0 W→Calls prog 30 #[.agg #[.slice o1 m1 d1,.slice oe1 n1 cap1],.int .i64 (a:Int),.agg #[.slice o2 m1 d2,.slice oe2 n1 cap2],.int .i64 (a:Int)] W fun r Y=>r=.returned (.bool true)∧Hid (Below W.heap.size W Y)))
  (pd qd:List De) (M1:Hid (pd.length=m1)) (ml1:(m1:Int)≤140737488351232) (E1:Hid (0<m1→o1=some ⟨e1,g1,none⟩)) (E2:Hid (0<m1→o2=some ⟨e2,g2,none⟩)) (hE:Hid (ErD pd qd)) (hG:Hid (∀d ∈ pd,GoodD d n1))
  (C1:Hid (∀i,i<m1→∀x,pd[i]?=some x→DeAt w0 e1 (g1+i*7) x)) (C2:Hid (∀i,i<m1→∀x,qd[i]?=some x→DeAt w0 e2 (g2+i*7) x)) :
  Calls prog 14 #[.agg #[.slice o1 m1 d1,.slice oe1 n1 cap1],.agg #[.slice o2 m1 d2,.slice oe2 n1 cap2]] w0 fun r Y=>r=.returned (.bool true)∧Hid (Below w0.heap.size w0 Y):=by
 obtain⟨Wb,hWb⟩:∃Wb,Wb=(w0.alloc (.cells #[.slice o1 m1 d1,.slice oe1 n1 cap1] 26)).alloc (.cells #[.slice o2 m1 d2,.slice oe2 n1 cap2] 26):=⟨_,rfl⟩
 have HB:Hid (Below w0.heap.size w0 Wb):=Hd (by rw[hWb];exact((qB _ w0).alloc (qL _) _).alloc (by rw[World.size_alloc];omega) _)
 have PB:Hid (Wb.heap[w0.heap.size]?=some (.cells #[.slice o1 m1 d1,.slice oe1 n1 cap1] 26 (0,0))):=Hd (by rw[hWb];exact(two_boxes w0 _ _ _ _).1)
 have QB:Hid (Wb.heap[w0.heap.size+1]?=some (.cells #[.slice o2 m1 d2,.slice oe2 n1 cap2] 26 (0,0))):=Hd (by rw[hWb];exact(two_boxes w0 _ _ _ _).2)
 have B0:Wb.cell? ⟨w0.heap.size,0,none⟩=some (.slice o1 m1 d1):=by simp[World.cell?,PB.out]
 have B1:Wb.cell? ⟨w0.heap.size+1,0,none⟩=some (.slice o2 m1 d2):=by simp[World.cell?,QB.out]
 go_enter Tryz.func14,Tryz.ntmps14
 have z1:((m1:Int) !=(m1:Int))=false:=by simp
 go_wp2_with (fail)
 rw[←hWb]
 clear hWb
 go_wp2_with (fail)
 clear z1 B0 B1
 go_loopw [5] (fun i wr=>∃(c:Nat),i=.int .i64 (c:Int)∧c≤m1∧Hid (Below Wb.heap.size Wb wr)) (fun i _=>m1-litLen i)
 case atStart=>exact⟨0,rfl,Nat.zero_le _,Hd (qB _ _)⟩
 case round =>
  obtain⟨c,rfl,hc,hWr⟩:=hrel
  have D0:wr.cell? ⟨w0.heap.size,0,none⟩=some (.slice o1 m1 d1):=cell_on hWr.out (by simp[World.cell?,PB.out])
  have D1:wr.cell? ⟨w0.heap.size+1,0,none⟩=some (.slice o2 m1 d2):=cell_on hWr.out (by simp[World.cell?,QB.out])
  rcases Nat.lt_or_ge c m1 with hlt | hge
  ·have hl:(c:Int)<(m1:Int):=by omega
   have ix1:=ix_des (cap:=d1) E1.out hlt (by omega)
   have ix2:=ix_des (cap:=d2) E2.out hlt (by omega)
   unfold Ix at ix1 ix2
   obtain⟨x,hxk⟩:∃x,pd[c]?=some x:=⟨_,List.getElem?_eq_getElem (by have:=M1.out;omega)⟩
   obtain⟨yt,z,hyk,hyi⟩:=hE.out.2 c x hxk
   have hwr:=Hd (HB.out.trans (hWr.out.mono HB.out.size))
   obtain⟨_,vt0,i0,i1,i2,i3,i4,i5,i6,hpx,hsx,hokx⟩:=C1.out c hlt x hxk
   obtain⟨_,vt1,j0,j1,j2,j3,j4,j5,j6,hpy,hsy⟩:=de_at_er (C2.out c hlt _ hyk)
   have HSX:=Hd hsx
   have HSY:=Hd hsy
   have HYI:=Hd hyi
   have HMX:=Hd (hG.out x (List.mem_of_getElem? hxk))
   have hyl:=hyi.1
   obtain⟨ox,capx,bpx,fpx,rfl,_,_,epx,cpx⟩:=hpx
   obtain⟨oy,capy,bpy,fpy,rfl,_,_,epy,cpy⟩:=hpy
   obtain⟨px,cbpx,bsx,fsx,rfl,_⟩:=hsx
   obtain⟨py,cbpy,bsy,fsy,rfl,_⟩:=hsy
   rw[hyl] at j3
   replace i0:=cell_on hwr.out i0;replace i1:=cell_on hwr.out i1;replace i2:=cell_on hwr.out i2;replace i3:=cell_on hwr.out i3;replace i4:=cell_on hwr.out i4;replace i5:=cell_on hwr.out i5;replace i6:=cell_on hwr.out i6
   replace j0:=cell_on hwr.out j0;replace j1:=cell_on hwr.out j1;replace j2:=cell_on hwr.out j2;replace j3:=cell_on hwr.out j3;replace j4:=cell_on hwr.out j4;replace j5:=cell_on hwr.out j5;replace j6:=cell_on hwr.out j6
   have HYL:=Hd hyl
   have HOX:=Hd hokx
   have EPX:=Hd epx
   have EPY:=Hd epy
   have CPX:=Hd cpx
   have CPY:=Hd cpy
   clear hxk hyk hyi hyl hokx epx epy cpx cpy
   go_upto_region 6 with (fail)
   go_cut [6,7] from 23 to 32 (fun s t wx=>∃X Y:Nat,s=.pointer (some ⟨X,0,none⟩)∧t=.pointer (some ⟨Y,0,none⟩)∧Hid (Below wr.heap.size wr wx) ∧
    Hid (wx.heap[X]?=some (.cells #[.int .i64 x.kind,.string x.name,.slice ox x.params.length capx,.slice px x.items.length cbpx,.int .i64 x.type,.int .i64 x.e,.int .i64 x.pos] 57 (0,0))) ∧
    Hid (wx.heap[Y]?=some (.cells #[.int .i64 x.kind,.string x.name,.slice oy x.params.length capy,.slice py x.items.length cbpy,.int .i64 x.type,.int .i64 x.e,.int .i64 z] 57 (0,0))))
   case first =>
    go_region_held3 (fun w'=>w'.cell? ⟨w0.heap.size,0,none⟩=some (.slice o1 m1 d1)∧w'.cell? ⟨w0.heap.size+1,0,none⟩=some (.slice o2 m1 d2)∧w'.cell? ⟨e1,g1+c*7,none⟩=some (.int .i64 x.kind)∧w'.cell? ⟨e1,g1+c*7+1,none⟩=some (.string x.name)∧w'.cell? ⟨e1,g1+c*7+2,none⟩=some (.slice ox x.params.length capx)∧w'.cell? ⟨e1,g1+c*7+3,none⟩=some (.slice px x.items.length cbpx)∧w'.cell? ⟨e1,g1+c*7+4,none⟩=some (.int .i64 x.type)∧w'.cell? ⟨e1,g1+c*7+5,none⟩=some (.int .i64 x.e)∧w'.cell? ⟨e1,g1+c*7+6,none⟩=some (.int .i64 x.pos)∧w'.cell? ⟨e2,g2+c*7,none⟩=some (.int .i64 x.kind)∧w'.cell? ⟨e2,g2+c*7+1,none⟩=some (.string x.name)∧w'.cell? ⟨e2,g2+c*7+2,none⟩=some (.slice oy x.params.length capy)∧w'.cell? ⟨e2,g2+c*7+3,none⟩=some (.slice py x.items.length cbpy)∧w'.cell? ⟨e2,g2+c*7+4,none⟩=some (.int .i64 x.type)∧w'.cell? ⟨e2,g2+c*7+5,none⟩=some (.int .i64 x.e)∧w'.cell? ⟨e2,g2+c*7+6,none⟩=some (.int .i64 z))
     (first | exact⟨D0,D1,i0,i1,i2,i3,i4,i5,i6,j0,j1,j2,j3,j4,j5,j6⟩ | ((repeat' apply And.intro) <;> first | assumption | go_keep))
     (first | fail)
    all_goals (go_wp2_with fail;go_meet)
    all_goals exact⟨_,_,rfl,rfl,Hd ((fun h:Below wr.heap.size wr ((wr.alloc _).alloc _)=>⟨h.os,h.tape,h.output,h.size,h.block⟩) (((qB _ wr).alloc (qL _) _).alloc (by rw[World.size_alloc];omega) _)),Hd (by first | exact(two_boxes' _ _ _ _ _).1 | exact(two_boxes' _ _ _ _ _).2),Hd (by first | exact(two_boxes' _ _ _ _ _).1 | exact(two_boxes' _ _ _ _ _).2)⟩
   case rest =>
    obtain⟨X,Y,rfl,rfl,hbx,hX,hY⟩:=hcut
    obtain⟨wx,hwx⟩:∃wx,wx=wc:=⟨_,rfl⟩
    rw[←hwx] at hbx hX hY ⊢
    have P0:wx.cell? ⟨w0.heap.size,0,none⟩=some (.slice o1 m1 d1):=cell_on hbx.out D0
    have P1:wx.cell? ⟨w0.heap.size,1,none⟩=some (.slice oe1 n1 cap1):=cell_on hbx.out (cell_on hWr.out (by simp[World.cell?,PB.out]))
    have Q0:wx.cell? ⟨w0.heap.size+1,0,none⟩=some (.slice o2 m1 d2):=cell_on hbx.out D1
    have Q1:wx.cell? ⟨w0.heap.size+1,1,none⟩=some (.slice oe2 n1 cap2):=cell_on hbx.out (cell_on hWr.out (by simp[World.cell?,QB.out]))
    have hxc:∀j u,(#[.int .i64 x.kind,.string x.name,.slice ox x.params.length capx,.slice px x.items.length cbpx,.int .i64 x.type,.int .i64 x.e,.int .i64 x.pos]:Array Value)[j]?=some u→wx.cell? ⟨X,j,none⟩=some u:=fun j u hu=>by simp only[World.cell?,hX.out];exact hu
    have hyc:∀j u,(#[.int .i64 x.kind,.string x.name,.slice oy x.params.length capy,.slice py x.items.length cbpy,.int .i64 x.type,.int .i64 x.e,.int .i64 z]:Array Value)[j]?=some u→wx.cell? ⟨Y,j,none⟩=some u:=fun j u hu=>by simp only[World.cell?,hY.out];exact hu
    have HWX:=Hd (hwr.out.trans (hbx.out.mono hwr.out.size))
    have HBR:=Hd (hWr.out.trans (hbx.out.mono hWr.out.size))
    have s0:wx.cell? ⟨X,0,none⟩=some (.int .i64 x.kind):=hxc 0 _ rfl
    have s1:wx.cell? ⟨X,1,none⟩=some (.string x.name):=hxc 1 _ rfl
    have s2:wx.cell? ⟨X,2,none⟩=some (.slice ox x.params.length capx):=hxc 2 _ rfl
    have s3:wx.cell? ⟨X,3,none⟩=some (.slice px x.items.length cbpx):=hxc 3 _ rfl
    have s4:wx.cell? ⟨X,4,none⟩=some (.int .i64 x.type):=hxc 4 _ rfl
    have s5:wx.cell? ⟨X,5,none⟩=some (.int .i64 x.e):=hxc 5 _ rfl
    have s6:wx.cell? ⟨X,6,none⟩=some (.int .i64 x.pos):=hxc 6 _ rfl
    have t0:wx.cell? ⟨Y,0,none⟩=some (.int .i64 x.kind):=hyc 0 _ rfl
    have t1:wx.cell? ⟨Y,1,none⟩=some (.string x.name):=hyc 1 _ rfl
    have t2:wx.cell? ⟨Y,2,none⟩=some (.slice oy x.params.length capy):=hyc 2 _ rfl
    have t3:wx.cell? ⟨Y,3,none⟩=some (.slice py x.items.length cbpy):=hyc 3 _ rfl
    have t4:wx.cell? ⟨Y,4,none⟩=some (.int .i64 x.type):=hyc 4 _ rfl
    have t5:wx.cell? ⟨Y,5,none⟩=some (.int .i64 x.e):=hyc 5 _ rfl
    have t6:wx.cell? ⟨Y,6,none⟩=some (.int .i64 z):=hyc 6 _ rfl
    have CI:Hid (Calls prog 29 #[.agg #[.slice o1 m1 d1,.slice oe1 n1 cap1],.slice px x.items.length cbpx,.agg #[.slice o2 m1 d2,.slice oe2 n1 cap2],.slice py x.items.length cbpy] wx fun r Y=>r=.returned (.bool true)∧Hid (Below wx.heap.size wx Y)):=Hd (by
     have:=items_er o1 o2 oe1 oe2 m1 d1 cap1 n1 m1 d2 cap2 w0 SE x.items yt (.slice px x.items.length cbpx) (.slice py yt.length cbpy) HSX HSY HYI (Hd HOX.out.items) (Hd fun y hy=>(HMX.out.it y hy).may) wx HWX
     rw[HYL.out] at this
     exact this)
    clear hwx hxc hyc ix1 ix2 i0 j0 i1 j1 i2 j2 i3 j3 i4 j4 i5 j5 i6 j6 hX hY D0 D1
    have z1:(x.kind !=x.kind)=false:=by simp
    have z2:(x.name.toList ==x.name.toList)=true:=by simp
    have z3:(x.type !=x.type)=false:=by simp
    have z4:(((x.params.length:Nat):Int) !=((x.params.length:Nat):Int))=false:=by simp
    go_wp2_with (go_at_call 29;((with_reducible refine CI.out.mono ?_));rintro e w5 ⟨rfl,hb5'⟩;have hb5:=hb5'.out;have HB5:=Hd hb5;replace P0:=cell_on hb5 P0;replace P1:=cell_on hb5 P1;replace Q0:=cell_on hb5 Q0;replace Q1:=cell_on hb5 Q1;replace s0:=cell_on hb5 s0;replace s1:=cell_on hb5 s1;replace s2:=cell_on hb5 s2;replace s3:=cell_on hb5 s3;replace s4:=cell_on hb5 s4;replace s5:=cell_on hb5 s5;replace s6:=cell_on hb5 s6;replace t0:=cell_on hb5 t0;replace t1:=cell_on hb5 t1;replace t2:=cell_on hb5 t2;replace t3:=cell_on hb5 t3;replace t4:=cell_on hb5 t4;replace t5:=cell_on hb5 t5;replace t6:=cell_on hb5 t6;clear hb5 CI)
    obtain⟨nx,hnx⟩:∃nx,nx=x.params.length:=⟨_,rfl⟩
    have hnxl:(nx:Int)≤140737488351232:=by have:=HOX.out.params;unfold reachN at this;omega
    rw[←hnx] at s2 t2 z4
    have HNX:=Hd hnx
    clear z1 z2 z3 z4 hnx
    have HWR5:=Hd (hbx.out.trans (HB5.out.mono hbx.out.size))
    go_loopw [8] (fun i wp=>∃(k:Nat),i=.int .i64 (k:Int)∧k≤nx∧Hid (Below w5.heap.size w5 wp)) (fun i _=>nx-litLen i)
    case atStart=>exact⟨0,rfl,Nat.zero_le _,Hd (qB _ _)⟩
    case round =>
     obtain⟨k,rfl,hk,hWp⟩:=hrel
     replace P0:=cell_on hWp.out P0;replace P1:=cell_on hWp.out P1;replace Q0:=cell_on hWp.out Q0;replace Q1:=cell_on hWp.out Q1;replace s0:=cell_on hWp.out s0;replace s1:=cell_on hWp.out s1;replace s2:=cell_on hWp.out s2;replace s3:=cell_on hWp.out s3;replace s4:=cell_on hWp.out s4;replace s5:=cell_on hWp.out s5;replace s6:=cell_on hWp.out s6;replace t0:=cell_on hWp.out t0;replace t1:=cell_on hWp.out t1;replace t2:=cell_on hWp.out t2;replace t3:=cell_on hWp.out t3;replace t4:=cell_on hWp.out t4;replace t5:=cell_on hWp.out t5;replace t6:=cell_on hWp.out t6;
     have HWWP:=Hd ((HWX.out.trans (HB5.out.mono HWX.out.size)).trans (hWp.out.mono (Nat.le_trans HWX.out.size HB5.out.size)))
     have HBRP:=Hd ((HBR.out.trans (HB5.out.mono HBR.out.size)).trans (hWp.out.mono (Nat.le_trans HBR.out.size HB5.out.size)))
     rcases Nat.lt_or_ge k nx with hlk | hgk
     ·have hl3:(k:Int)<(nx:Int):=by omega
      obtain⟨pa,hpa⟩:∃pa,x.params[k]?=some pa:=⟨_,List.getElem?_eq_getElem (by rw[←HNX.out];exact hlk)⟩
      obtain⟨u1,u2,u3,u4'⟩:=(CPX.out k (by rw[←HNX.out];exact hlk) pa hpa).below HWWP.out
      obtain⟨v1,v2,v3,v4'⟩:=(CPY.out k (by rw[←HNX.out];exact hlk) pa hpa).below HWWP.out
      have iy1:=ix_paG (cap:=capx) (n:=nx) (by rw[HNX.out];exact EPX.out) hlk (by omega)
      have iy2:=ix_paG (cap:=capy) (n:=nx) (by rw[HNX.out];exact EPY.out) hlk (by omega)
      unfold Ix at iy1 iy2
      have HBD5:Hid (Below w5.heap.size w5 wr.drew):=Hd (hWp.out.trans ⟨rfl,rfl,rfl,qL _,fun _ _=>rfl⟩)
      clear hpa u3 u4' v3 v4'
      have z2:(pa.name.toList ==pa.name.toList)=true:=by simp
      have z3:(pa.type ==pa.type)=true:=by simp
      go_wp2_with (fail)
      go_region_held3 (fun w'=>w'.cell? ⟨X,2,none⟩=some (.slice ox nx capx)∧w'.cell? ⟨Y,2,none⟩=some (.slice oy nx capy)∧w'.cell? ⟨bpx,fpx+k*2,none⟩=some (.string pa.name)∧w'.cell? ⟨bpx,fpx+k*2+1,none⟩=some (.int .i64 pa.type)∧w'.cell? ⟨bpy,fpy+k*2,none⟩=some (.string pa.name)∧w'.cell? ⟨bpy,fpy+k*2+1,none⟩=some (.int .i64 pa.type))
       (first | exact⟨s2,t2,u1,u2,v1,v2⟩)
       (first | fail)
      all_goals (go_wp2_with fail)
      exact⟨⟨k+1,by go_num,by omega,HBD5⟩,by simp[litLen];omega⟩
     ·obtain rfl:k=nx:=by omega
      have hno2:¬(k:Int)<(k:Int):=by omega
      by_cases hkk:x.kind=1
      ·have y1:(x.kind ==1)=true:=by simp[hkk]
       obtain⟨a0,a1⟩:=de_e HMX.out (by unfold hasVal;simp[hkk])
       obtain⟨na,hna⟩:=Int.eq_ofNat_of_zero_le a0
       have CS:=Hd (SE.out na (by omega) wr HWWP.out)
       rw[hna] at s5 t5
       clear a0 a1 hna hkk
       go_wp2_with (go_at_call 30;((with_reducible refine CS.out.mono ?_));rintro e w7 ⟨rfl,hb7⟩;have HB7:=Hd hb7.out;clear hb7 CS)
       exact⟨⟨c+1,by go_num,by omega,Hd (HBRP.out.trans (HB7.out.mono HBRP.out.size))⟩,by simp[litLen];omega⟩
      have y11:(x.kind ==1)=false:=by simpa using hkk
      clear hkk
      by_cases hkk:x.kind=2
      ·have y1:(x.kind ==2)=true:=by simp[hkk]
       obtain⟨a0,a1⟩:=de_e HMX.out (by unfold hasVal;simp[hkk])
       obtain⟨na,hna⟩:=Int.eq_ofNat_of_zero_le a0
       have CS:=Hd (SE.out na (by omega) wr HWWP.out)
       rw[hna] at s5 t5
       clear a0 a1 hna hkk
       go_wp2_with (go_at_call 30;((with_reducible refine CS.out.mono ?_));rintro e w7 ⟨rfl,hb7⟩;have HB7:=Hd hb7.out;clear hb7 CS)
       exact⟨⟨c+1,by go_num,by omega,Hd (HBRP.out.trans (HB7.out.mono HBRP.out.size))⟩,by simp[litLen];omega⟩
      have y12:(x.kind ==2)=false:=by simpa using hkk
      clear hkk
      go_wp2_with (fail)
      exact⟨⟨c+1,by go_num,by omega,Hd (HBRP.out)⟩,by simp[litLen];omega⟩
  ·obtain rfl:c=m1:=by omega
   have hno:¬(c:Int)<(c:Int):=by omega
   go_wp2_with (fail)
   go_ret
   exact⟨rfl,Hd (HB.out.trans (hWr.out.mono HB.out.size))⟩
theorem all_er (p q:Pr) (sd se td te:Value) (w:World) (hp:ProgAt w sd se p) (hq:ProgAt w td te q) (hx:ErL p.exprs q.exprs) (hd:ErD p.decls q.decls) (hg:GoodP p) (hS:∀x ∈ p.exprs,(partsE x).length≤40000) :
  Calls prog 14 #[.agg #[sd,se],.agg #[td,te]] w fun r Y=>r=.returned (.bool true)∧Hid (Below w.heap.size w Y):=by
 obtain⟨⟨o1,dc1,b1,f1,rfl,a1,a2,a3,a4⟩,hes,ld,le⟩:=hp
 obtain⟨⟨o2,dc2,b2,f2,rfl,c1,c2,c3,c4⟩,het,_,_⟩:=hq
 rw[hd.1] at c3 c4 ⊢
 have hes':=hes
 have het':=het
 obtain⟨oe1,ec1,g1,k1,rfl,_⟩:=hes
 obtain⟨oe2,ec2,g2,k2,rfl,_⟩:=het
 have SE:∀a:Nat,a<p.exprs.length→∀W:World,Below w.heap.size w W→Calls prog 30 #[.agg #[.slice o1 p.decls.length dc1,.slice oe1 p.exprs.length ec1],.int .i64 (a:Int),.agg #[.slice o2 p.decls.length dc2,.slice oe2 q.exprs.length ec2],.int .i64 (a:Int)] W fun r Y=>r=.returned (.bool true)∧Hid (Below W.heap.size W Y) :=
  fun a ha W hW=>same_er p.exprs q.exprs o1 o2 _ _ _ _ _ _ w hes' het' hx (fun i x hi=>(hg.ex i x hi).1) hS le a ha W hW
 rw[hx.1] at SE ⊢
 exact all_er_core o1 o2 oe1 oe2 p.decls.length dc1 ec1 p.exprs.length dc2 ec2 b1 f1 b2 f2 w (Hd SE) p.decls q.decls (Hd rfl) (by unfold reachN at ld;omega) (Hd a3) (Hd c3) (Hd hd) (Hd hg.de) (Hd a4) (Hd c4)
end Go.Proofs.YtpfmlfcaadnnpaaGreatDoor
namespace Go.Proofs.YtpfmlfcaadnnpaaGreatDoor
open Go.RowKit Lx
def alL:List UInt8:=[49,32,43,32,50,32,42,32,120]
def alT:List Lx.Tok:=[tokAt alL 0,tokAt alL 2,tokAt alL 4,tokAt alL 6,tokAt alL 8]
def alU:List Lx.Tok:=[⟨2,[49],4294967296,0⟩,⟨4,[43],0,2⟩,⟨2,[50],8589934592,4⟩,⟨4,[42],0,6⟩,⟨1,[120],0,8⟩]
theorem al_lex:lexT alL alT none:=by
 unfold lexT alT
 rw[show gapTo false alL 0=0 by decide +kernel]
 refine .tok (by decide) (by decide +kernel) ?_
 rw[show gapTo false alL (0+(tokAt alL 0).text.length)=2 by decide +kernel]
 refine .tok (by decide) (by decide +kernel) ?_
 rw[show gapTo false alL (2+(tokAt alL 2).text.length)=4 by decide +kernel]
 refine .tok (by decide) (by decide +kernel) ?_
 rw[show gapTo false alL (4+(tokAt alL 4).text.length)=6 by decide +kernel]
 refine .tok (by decide) (by decide +kernel) ?_
 rw[show gapTo false alL (6+(tokAt alL 6).text.length)=8 by decide +kernel]
 refine .tok (by decide) (by decide +kernel) ?_
 rw[show gapTo false alL (8+(tokAt alL 8).text.length)=9 by decide +kernel]
 exact .fin (by decide)
theorem al_toks:alT=alU:=by
 have h0:tokAt alL 0=⟨2,[49],4294967296,0⟩:=by kernel_rfl
 have h1:tokAt alL 2=⟨4,[43],0,2⟩:=by kernel_rfl
 have h2:tokAt alL 4=⟨2,[50],8589934592,4⟩:=by kernel_rfl
 have h3:tokAt alL 6=⟨4,[42],0,6⟩:=by kernel_rfl
 have h4:tokAt alL 8=⟨1,[120],0,8⟩:=by kernel_rfl
 unfold alT alU
 rw[h0,h1,h2,h3,h4]
def alX:List Ex:=[{ ex0 with kind:=1,v:=4294967296,pos:=0 },{ ex0 with kind:=1,v:=8589934592,pos:=4 },{ ex0 with kind:=3,name:=str [120],pos:=8 },{ ex0 with kind:=8,a:=1,b:=2,pos:=6 },{ ex0 with kind:=6,a:=0,b:=3,pos:=2 }]
theorem al_run:∃lx,runE (alT++[endT alL.length]) 20 .expr rs0=some (4,lx,⟨5,alX,0,0,0⟩):=by
 rw[al_toks]
 exact⟨[],by kernel_rfl⟩
end Go.Proofs.YtpfmlfcaadnnpaaGreatDoor
namespace Go.Proofs.YtpfmlfcaadnnpaaGreatDoor
open Go.RowKit Lx
def AlAt (w:World) (r:Ending) (Y:World):Prop :=
 ∃b off c,r=.returned (.tuple #[.agg #[.slice none 0 0,.slice (some ⟨b,off,none⟩) 5 c],.int .i64 4,.agg #[.int .i64 0,.int .i64 0]])∧Hid (Below w.heap.size w Y∧Y.cell? ⟨b,off+2*9+4,none⟩=some (.string ⟨#[120]⟩)∧Y.cell? ⟨b,off+3*9,none⟩=some (.int .i64 8))
theorem al_good:AllGood alX:=by
 intro i x hx
 have hi:i<5:=by
  rcases Nat.lt_or_ge i 5 with h | h
  ·exact h
  ·rw[List.getElem?_eq_none (by exact h)] at hx;cases hx
 have hm:∀y,mayE y i=true→ExOk y→GoodX y i:=fun y h1 h2=>⟨h1,h2⟩
 match i,hi with
 | 0,_=>cases hx;exact hm _ (by decide) ⟨by unfold i64ok;decide,by unfold i64ok;decide,by unfold i64ok;decide,by unfold i64ok;decide,by unfold i64ok;decide,by decide,by decide,by decide,fun n hn=>by cases hn⟩
 | 1,_=>cases hx;exact hm _ (by decide) ⟨by unfold i64ok;decide,by unfold i64ok;decide,by unfold i64ok;decide,by unfold i64ok;decide,by unfold i64ok;decide,by decide,by decide,by decide,fun n hn=>by cases hn⟩
 | 2,_=>cases hx;exact hm _ (by decide) ⟨by unfold i64ok;decide,by unfold i64ok;decide,by unfold i64ok;decide,by unfold i64ok;decide,by unfold i64ok;decide,by decide,by decide,by decide,fun n hn=>by cases hn⟩
 | 3,_=>cases hx;exact hm _ (by decide) ⟨by unfold i64ok;decide,by unfold i64ok;decide,by unfold i64ok;decide,by unfold i64ok;decide,by unfold i64ok;decide,by decide,by decide,by decide,fun n hn=>by cases hn⟩
 | 4,_=>cases hx;exact hm _ (by decide) ⟨by unfold i64ok;decide,by unfold i64ok;decide,by unfold i64ok;decide,by unfold i64ok;decide,by unfold i64ok;decide,by decide,by decide,by decide,fun n hn=>by cases hn⟩
theorem al_expr (w:World) (hS:Signs w):Calls prog 12 #[.string ⟨#[49,32,43,32,50,32,42,32,120]⟩] w fun r Y=>AlAt w r Y:=by
 obtain⟨lx,hr⟩:=al_run
 refine(expr_run al_lex (by decide) hr rfl (by rw[al_toks];decide) (by decide) w hS).mono fun r Y ⟨o,c,h1,h2,h3⟩=>?_
 obtain⟨o',cap,b,off,e0,e1,_,e2,e3⟩:=exs_own h2 al_good
 cases e0
 have e4:=e2 (by decide)
 subst e4
 obtain⟨_,_,_,_,_,a4,_⟩:=e3 2 (by decide) _ rfl
 obtain⟨_,b0,_⟩:=e3 3 (by decide) _ rfl
 exact⟨b,off,c,h1,Hd ⟨h3,a4,b0⟩⟩
theorem alive_px (w:World) (hS:Signs w):Calls prog 7 #[] w fun r Y=>r=.returned (.bool true)∧Below w.heap.size w Y:=by
 have C:=Hd (al_expr w hS)
 unfold AlAt at C
 go_enter Tryz.func7,Tryz.ntmps7
 go_wp2_with (go_at_call 12;(with_reducible refine C.out.mono ?_);rintro e w2 ⟨b,off,c,rfl,h2⟩;have a4:=h2.out.2.1;have b0:=h2.out.2.2;have hb:=World.block_lt_of_cell? _ _ a4)
 go_ret
 exact⟨rfl,(h2.out.1.alloc h2.out.1.size _).alloc (h2.out.1.alloc h2.out.1.size _).size _⟩
theorem erI_of_map {p q:List It} (h:p.map (mIt fun _=>0)=q.map (mIt fun _=>0)):ErI p q:=by
 have hl:q.length=p.length:=by have:=congrArg List.length h;simpa using this.symm
 refine⟨hl,fun i x hx=>?_⟩
 have h1:(p.map (mIt fun _=>0))[i]?=some (mIt (fun _=>0) x):=by rw[List.getElem?_map,hx];rfl
 rw[h,List.getElem?_map] at h1
 cases hy:q[i]? with
 | none=>rw[hy] at h1;cases h1
 | some y =>
  rw[hy] at h1
  have h2:mIt (fun _=>0) y=mIt (fun _=>0) x:=qI h1
  refine⟨y.pos,?_⟩
  cases x
  cases y
  simp only[mIt,It.mk.injEq] at h2
  simp[h2]
theorem erD_of_map {p q:List De} (h:p.map (mDe fun _=>0)=q.map (mDe fun _=>0)):ErD p q:=by
 have hl:q.length=p.length:=by have:=congrArg List.length h;simpa using this.symm
 refine⟨hl,fun i x hx=>?_⟩
 have h1:(p.map (mDe fun _=>0))[i]?=some (mDe (fun _=>0) x):=by rw[List.getElem?_map,hx];rfl
 rw[h,List.getElem?_map] at h1
 cases hy:q[i]? with
 | none=>rw[hy] at h1;cases h1
 | some y =>
  rw[hy] at h1
  have h2:mDe (fun _=>0) y=mDe (fun _=>0) x:=qI h1
  refine⟨y.items,y.pos,?_,?_⟩
  ·cases x
   cases y
   simp only[mDe,De.mk.injEq] at h2
   simp[h2]
  ·cases x
   cases y
   simp only[mDe,De.mk.injEq] at h2
   exact erI_of_map (by simp[h2])
theorem gaps_next {ts:List Lx.Tok} {c:Nat} {t:Lx.Tok} (h:ts[c]?=some t):str (gapsT (ts.take c))++str t.text++(⟨#[32]⟩:ByteArray)=str (gapsT (ts.take (c+1))):=by
 have e:gapsT (ts.take (c+1))=gapsT (ts.take c)++t.text++[32]:=by
  unfold gapsT
  rw[List.take_add_one,h,List.flatMap_append]
  simp
 rw[e]
 show str (gapsT (ts.take c))++str t.text++str [32]=_
 unfold str
 apply ByteArray.ext
 simp
theorem gaps_take (ts:List Lx.Tok) (j:Nat):(gapsT (ts.take j)).length≤(gapsT ts).length:=by
 have e:gapsT ts=gapsT (ts.take j)++gapsT (ts.drop j):=by
  unfold gapsT
  rw[←List.flatMap_append,List.take_append_drop]
 rw[e,List.length_append]
 omega
theorem gaps_text {ts:List Lx.Tok} {t:Lx.Tok} (h:t ∈ ts):t.text.length≤(gapsT ts).length:=by
 obtain⟨a,b,rfl⟩:=List.append_of_mem h
 unfold gapsT
 simp
 omega
theorem gl_two_boxes (w:World) (c d:Array Value) (S T:Nat):((w.alloc (.cells c S)).alloc (.cells d T)).heap[w.heap.size]?=some (.cells c S (0,0))∧((w.alloc (.cells c S)).alloc (.cells d T)).heap[w.heap.size+1]?=some (.cells d T (0,0)):=by
 constructor
 ·rw[heap_alloc_old _ _ (by simp)];exact heap_alloc_new w _
 ·have:=heap_alloc_new (w.alloc (.cells c S)) (.cells d T)
  rw[World.size_alloc] at this
  exact this
theorem gaps_long (S:ByteArray) (n:Nat) (hs:S.size=n) (hl:(4000:Int)<(n:Int)) (w:World) (hS:Hid (Signs w)) :
  Calls prog 6 #[.string S] w fun r Y=>r=.returned (.bool true)∧Below w.heap.size w Y:=by
 have q:decide ((4000:Int)<(n:Int))=true:=qT hl
 have AL:Hid (Calls prog 7 #[] w fun r Y=>r=.returned (.bool true)∧Hid (Below w.heap.size w Y)):=Hd ((alive_px w hS.out).mono fun r Y h=>⟨h.1,Hd h.2⟩)
 go_enter Tryz.func6,Tryz.ntmps6
 go_wp2_with (go_at_call 7;((with_reducible refine AL.out.mono ?_);rintro e w1 ⟨rfl,hb1⟩))
 go_ret
 exact⟨rfl,hb1.out⟩
theorem gaps_fault (S:ByteArray) (n:Nat) (hs:S.size=n) (hl:(n:Int)≤4000) (D1 L1:Nat) (cd1 f1:Int) (PP1:World→Value→Value→Prop) (w:World) (hS:Hid (Signs w))
  (C1:Hid (∀W,Below w.heap.size w W→Calls prog 8 #[.string S] W fun r Y=>∃od c1 o c,r=.returned (.tuple #[.agg #[.slice od D1 c1,.slice o L1 c],.agg #[.int .i64 cd1,.int .i64 f1]])∧Hid (PP1 Y (.slice od D1 c1) (.slice o L1 c)∧Below W.heap.size W Y)))
  (CL:Hid (∀W,Calls prog 13 #[.string S] W fun r Y=>∃o p c k g,r=.returned (.tuple #[.slice o p c,.agg #[.int .i64 k,.int .i64 g]])∧Hid (Below W.heap.size W Y)))
  (k:¬cd1=0) :
  Calls prog 6 #[.string S] w fun r Y=>r=.returned (.bool true)∧Below w.heap.size w Y:=by
 have q:decide ((4000:Int)<(n:Int))=false:=qF (by omega)
 have AL:Hid (Calls prog 7 #[] w fun r Y=>r=.returned (.bool true)∧Hid (Below w.heap.size w Y)):=Hd ((alive_px w hS.out).mono fun r Y h=>⟨h.1,Hd h.2⟩)
 have tok:True:=trivial
 have q0:(cd1 !=0)=true:=by simp[k]
 go_enter Tryz.func6,Tryz.ntmps6
 go_wp2_with (first
   | (go_at_call 7;(with_reducible refine AL.out.mono ?_);rintro e w1 ⟨rfl,hb1⟩)
   | (go_at_call 8;have _k:=tok;clear tok _k;(with_reducible refine(C1.out w1 hb1.out).mono ?_);rintro e w2 ⟨od,c1,o,c,rfl,h2⟩)
   | (go_at_call 13;
      obtain⟨V2,hV2⟩:∃V2,V2=(w2.alloc (.cells #[.slice od D1 c1,.slice o L1 c] 26)).alloc (.cells #[.int .i64 cd1,.int .i64 f1] 29):=⟨_,rfl⟩;
      obtain⟨v1,v2⟩:=gl_two_boxes w2 #[.slice od D1 c1,.slice o L1 c] #[.int .i64 cd1,.int .i64 f1] 26 29;
      have hbv:Below w2.heap.size w2 V2:=(by rw[hV2];exact((qB _ _).alloc (qL _) _).alloc (by simp) _);
      have hbV:=hb1.out.trans ((h2.out.2.trans (hbv.mono h2.out.2.size)).mono hb1.out.size);
      rw[←hV2] at v1 v2;rw[←hV2];clear hV2;
      (with_reducible refine(CL.out V2).mono ?_);rintro e w3 ⟨lo,lp,lc,lk,lg,rfl,h3⟩;
      have x1:=(h3.out.block _ (heap_lt v1)).trans v1;
      have x2:=(h3.out.block _ (heap_lt v2)).trans v2;
      have p0:w3.cell? ⟨w2.heap.size,0,none⟩=some (.slice od D1 c1):=(by simp[World.cell?,x1]);
      have p1:w3.cell? ⟨w2.heap.size,1,none⟩=some (.slice o L1 c):=(by simp[World.cell?,x1]);
      have u0:w3.cell? ⟨w2.heap.size+1,0,none⟩=some (.int .i64 cd1):=(by simp[World.cell?,x2]);
      have u1:w3.cell? ⟨w2.heap.size+1,1,none⟩=some (.int .i64 f1):=(by simp[World.cell?,x2]);
      have n1:=heap_lt x1;have n2:=heap_lt x2;
      have HB:=Hd (hbV.trans (h3.out.mono hbV.size));
      have HB23:=Hd (hbv.trans (h3.out.mono hbv.size));
      clear hbv hbV x1 x2 v1 v2))
 go_ret
 exact⟨rfl,HB.out.alloc HB.out.size _⟩
theorem gaps_good (S:ByteArray) (n:Nat) (hs:S.size=n) (hl:(n:Int)≤4000) (ts:List Lx.Tok) (m p:Nat) (hm:Hid (ts.length=m)) (hmp:(p:Int)=(m:Int)+1) (ml:(m:Int)≤20000) (D1 L1 D2 L2:Nat) (cd1 f1 cd2 f2:Int) (PP1 PP2:World→Value→Value→Prop) (w:World) (hS:Hid (Signs w))
  (G:ByteArray) (hG:Hid (str (gapsT ts)=G)) (hgl:Hid (∀j,(gapsT (ts.take j)).length≤20000)) (hgt:Hid (∀t ∈ ts,t.text.length≤20000))
  (C1:Hid (∀W,Below w.heap.size w W→Calls prog 8 #[.string S] W fun r Y=>∃od c1 o c,r=.returned (.tuple #[.agg #[.slice od D1 c1,.slice o L1 c],.agg #[.int .i64 cd1,.int .i64 f1]])∧Hid (PP1 Y (.slice od D1 c1) (.slice o L1 c)∧Below W.heap.size W Y)))
  (CL:Hid (∀W,Calls prog 13 #[.string S] W fun r Y=>∃g c,r=.returned (.tuple #[.slice (some ⟨g,0,none⟩) p c,.agg #[.int .i64 0,.int .i64 0]])∧Hid (Below W.heap.size W Y)∧Hid (RowAt Y g (ts++[endT n]))))
  (C2:Hid (∀W,Below w.heap.size w W→Calls prog 8 #[.string G] W fun r Y=>∃od c1 o c,r=.returned (.tuple #[.agg #[.slice od D2 c1,.slice o L2 c],.agg #[.int .i64 cd2,.int .i64 f2]])∧Hid (PP2 Y (.slice od D2 c1) (.slice o L2 c)∧Below W.heap.size W Y)))
  (SM:Hid (∀(w2:World) (od:Option Addr) (c1:Nat) (o:Option Addr) (c:Nat) (w4:World) (pd:Option Addr) (k1:Nat) (po:Option Addr) (kc:Nat) (V:World),PP1 w2 (.slice od D1 c1) (.slice o L1 c)→PP2 w4 (.slice pd D2 k1) (.slice po L2 kc)→Below w2.heap.size w2 V→Below w4.heap.size w4 V→Calls prog 14 #[.agg #[.slice od D1 c1,.slice o L1 c],.agg #[.slice pd D2 k1,.slice po L2 kc]] V fun r Y=>r=.returned (.bool true)∧Hid (Below V.heap.size V Y)))
  (k:cd1=0) (k2:cd2=0) :
  Calls prog 6 #[.string S] w fun r Y=>r=.returned (.bool true)∧Below w.heap.size w Y:=by
 have q:decide ((4000:Int)<(n:Int))=false:=qF (by omega)
 have AL:Hid (Calls prog 7 #[] w fun r Y=>r=.returned (.bool true)∧Hid (Below w.heap.size w Y)):=Hd ((alive_px w hS.out).mono fun r Y h=>⟨h.1,Hd h.2⟩)
 have tok:True:=trivial
 have q0:(cd1 !=0)=false:=by simp[k]
 have q1:(cd2 ==0)=true:=by simp[k2]
 clear k k2
 go_enter Tryz.func6,Tryz.ntmps6
 go_wp2_with (first
   | (go_at_call 7;(with_reducible refine AL.out.mono ?_);rintro e w1 ⟨rfl,hb1⟩)
   | (go_at_call 8;have _k:=tok;clear tok _k;(with_reducible refine(C1.out w1 hb1.out).mono ?_);rintro e w2 ⟨od,c1,o,c,rfl,h2⟩)
   | (go_at_call 13;
      obtain⟨V2,hV2⟩:∃V2,V2=(w2.alloc (.cells #[.slice od D1 c1,.slice o L1 c] 26)).alloc (.cells #[.int .i64 cd1,.int .i64 f1] 29):=⟨_,rfl⟩;
      obtain⟨v1,v2⟩:=gl_two_boxes w2 #[.slice od D1 c1,.slice o L1 c] #[.int .i64 cd1,.int .i64 f1] 26 29;
      have hbv:Below w2.heap.size w2 V2:=(by rw[hV2];exact((qB _ _).alloc (qL _) _).alloc (by simp) _);
      have hbV:=hb1.out.trans ((h2.out.2.trans (hbv.mono h2.out.2.size)).mono hb1.out.size);
      rw[←hV2] at v1 v2;rw[←hV2];clear hV2;
      (with_reducible refine(CL.out V2).mono ?_);rintro e w3 ⟨lg,lc,rfl,h3,hrow⟩;
      have x1:=(h3.out.block _ (heap_lt v1)).trans v1;
      have x2:=(h3.out.block _ (heap_lt v2)).trans v2;
      have p0:w3.cell? ⟨w2.heap.size,0,none⟩=some (.slice od D1 c1):=(by simp[World.cell?,x1]);
      have p1:w3.cell? ⟨w2.heap.size,1,none⟩=some (.slice o L1 c):=(by simp[World.cell?,x1]);
      have u0:w3.cell? ⟨w2.heap.size+1,0,none⟩=some (.int .i64 cd1):=(by simp[World.cell?,x2]);
      have u1:w3.cell? ⟨w2.heap.size+1,1,none⟩=some (.int .i64 f1):=(by simp[World.cell?,x2]);
      have n1:=heap_lt x1;have n2:=heap_lt x2;
      have HB:=Hd (hbV.trans (h3.out.mono hbV.size));
      have HB23:=Hd (hbv.trans (h3.out.mono hbv.size));
      clear hbv hbV x1 x2 v1 v2))
 go_loopw [7,8] (fun t i wr=>∃(c:Nat),i=.int .i64 (c:Int)∧c≤m∧t=.string (str (gapsT (ts.take c)))∧wr=w3.alloc (.cells #[.int .i64 0,.int .i64 0] 29)) (fun _ i _=>m-litLen i)
 case atStart=>exact⟨0,rfl,Nat.zero_le _,rfl,rfl⟩
 case round =>
  obtain⟨c,rfl,hc,rfl,rfl⟩:=hrel
  rcases Nat.lt_or_ge c m with hlt | hge
  ·have hl:(c:Int)+1<(p:Int):=by omega
   have jr:(c:Int)<(p:Int):=by omega
   obtain⟨t,htj⟩:∃t,ts[c]?=some t:=⟨ts[c]'(by have:=hm.out;omega),List.getElem?_eq_getElem _⟩
   have a1:=hrow.out.2 c t (by rw[List.getElem?_append_left (by have:=hm.out;omega)];exact htj)
   have hx:(w3.alloc (.cells #[.int .i64 0,.int .i64 0] 29)).cell? ⟨lg,c*4+1,none⟩=some (.string (str t.text)):=cell_on ((qB w3.heap.size w3).alloc (qL _) _) a1.2.1
   obtain⟨tx,htx⟩:∃tx,tx=str t.text:=⟨_,rfl⟩
   obtain⟨G0,hG0⟩:∃G0,G0=str (gapsT (ts.take c)):=⟨_,rfl⟩
   have h1:=hgl.out c
   have h2':=hgt.out t (List.mem_of_getElem? htj)
   have s1:G0.size≤20000:=by rw[hG0,str_size];exact h1
   have s2:tx.size≤20000:=by rw[htx,str_size];exact h2'
   have g1:¬9223372036854775807<G0.size+tx.size:=by omega
   have g2:¬9223372036854775807<G0.size+tx.size+1:=by omega
   have HN:Hid (G0++tx++(⟨#[32]⟩:ByteArray)=str (gapsT (ts.take (c+1)))):=Hd (by rw[hG0,htx];exact gaps_next htj)
   rw[←hG0]
   rw[←htx] at hx
   clear a1 htj htx hG0 h1 h2'
   go_wp2_with (fail)
   exact⟨⟨c+1,by go_num,by omega,by rw[HN.out],by first | rfl | trivial⟩,by simp[litLen];omega⟩
  ·obtain rfl:c=m:=by omega
   have hno:¬(c:Int)+1<(p:Int):=by omega
   have hGe:str (gapsT (ts.take c))=G:=by rw[←hG.out,←hm.out,List.take_length]
   rw[hGe]
   clear hGe hge
   go_wp2_with (first
    | (go_at_call 8;
        have hb36:=(qB w3.heap.size w3).alloc (qL _) (.cells #[.int .i64 0,.int .i64 0] 29);
        have hbV:=HB.out.trans (hb36.mono HB.out.size);
        (with_reducible refine(C2.out _ hbV).mono ?_);rintro e w4 ⟨pd,k1,po,kc,rfl,h4⟩;
        have hb34:=hb36.trans (h4.out.2.mono hb36.size);
        have P0:=cell_on hb34 p0;have P1:=cell_on hb34 p1;
        have n5:=Nat.lt_of_lt_of_le n1 hb34.size;have n6:=Nat.lt_of_lt_of_le n2 hb34.size;
        have HB4:=Hd (hbV.trans (h4.out.2.mono hbV.size));
        have HB24:=Hd (HB23.out.trans (hb34.mono HB23.out.size));
        clear hb36 hbV hb34)
    | (go_at_call 14;
        have hbv:=((qB w4.heap.size w4).alloc (qL _) (.cells #[.slice pd D2 k1,.slice po L2 kc] 26)).alloc (by simp) (.cells #[.int .i64 cd2,.int .i64 f2] 29);
        have HBV:=Hd hbv;
        (with_reducible refine(SM.out w2 _ _ _ _ w4 _ _ _ _ _ h2.out.1 h4.out.1 (HB24.out.trans (hbv.mono HB24.out.size)) hbv).mono ?_);rintro e w5 ⟨rfl,hb5⟩;
        clear hbv))
   go_ret
   exact⟨rfl,HB4.out.trans ((HBV.out.trans (hb5.out.mono HBV.out.size)).mono HB4.out.size)⟩
theorem ParseX.gl {p:Pr} {cd f:Int} {W:World} {r:Ending} {Y:World} (h:ParseX p cd f W r Y) :
  ∃od c1 o c,r=.returned (.tuple #[.agg #[.slice od p.decls.length c1,.slice o p.exprs.length c],.agg #[.int .i64 cd,.int .i64 f]])∧Hid (ProgAt Y (.slice od p.decls.length c1) (.slice o p.exprs.length c) p∧Below W.heap.size W Y):=by
 obtain⟨sd,se,h1,h2,h3⟩:=h
 obtain⟨od,c1,o,c,rfl,rfl⟩:∃od c1 o c,sd=.slice od p.decls.length c1∧se=.slice o p.exprs.length c:=by
  obtain⟨⟨o1,dcap,db,doff,rfl,_⟩,⟨o2,cap,b,off,rfl,_⟩,_⟩:=h2
  exact⟨_,_,_,_,rfl,rfl⟩
 exact⟨_,_,_,_,h1,Hd ⟨h2,h3⟩⟩
theorem progAt_mono {w V:World} {sd se:Value} {p:Pr} (h:ProgAt w sd se p) (hb:Below w.heap.size w V):ProgAt V sd se p:=h.below hb
theorem gaps_law (s:ByteArray) (w:World) (hS:Signs w):Calls prog 6 #[.string s] w fun r Y=>r=.returned (.bool true)∧Below w.heap.size w Y:=by
 obtain⟨l,rfl⟩:∃l,s=str l:=⟨s.data.toList,by cases s;simp[str]⟩
 rcases Nat.lt_or_ge 4000 l.length with h | h
 ·exact gaps_long _ _ (str_size l) (by omega) w (Hd hS)
 ·have T:∀(t:List UInt8) (p:Pr) (cd f:Int),(∀W,Signs W→Calls prog 8 #[.string (str t)] W fun e Y=>ParseX p cd f W e Y) →
    Hid (∀W,Below w.heap.size w W→Calls prog 8 #[.string (str t)] W fun r Y=>∃od c1 o c,r=.returned (.tuple #[.agg #[.slice od p.decls.length c1,.slice o p.exprs.length c],.agg #[.int .i64 cd,.int .i64 f]])∧Hid (ProgAt Y (.slice od p.decls.length c1) (.slice o p.exprs.length c) p∧Below W.heap.size W Y)) :=
   fun t p cd f hC=>Hd fun W hb=>(hC W (hS.below hb)).mono fun r Y h=>h.gl
  obtain⟨ts,r,ht⟩:∃ts r,lexT l ts r:=toks_all l _
  have RL:Hid (∀W,Calls prog 13 #[.string (str l)] W fun r Y=>∃o p c k g,r=.returned (.tuple #[.slice o p c,.agg #[.int .i64 k,.int .i64 g]])∧Hid (Below W.heap.size W Y)):=Hd fun W=>(ref_lex_any l ts r ht W).mono fun e w' h=>by
   have h2:=h.2 (by omega)
   cases r with
   | some f=>exact⟨_,_,_,_,_,h2.1,Hd h2.2⟩
   | none=>obtain⟨g,cap,h3,h4,_⟩:=h2;exact⟨_,_,_,_,_,h3,Hd h4⟩
  cases r with
  | some f =>
   exact gaps_fault (str l) l.length (str_size l) (by omega) 0 0 1 (f:Int) (fun Y sd se=>ProgAt Y sd se ⟨[],[]⟩) w (Hd hS) (T l ⟨[],[]⟩ 1 (f:Int) fun W hS=>parse_badlex l ts f ht (by omega) W hS) RL (by decide)
  | none =>
   obtain⟨p,q,cd,f,cd2,f2,h1,h2,h3⟩:=gaps_calls l h ts ht
   by_cases h0:cd=0
   ·obtain⟨e0,gp,gq,ap,_,ld,le,ed,ee⟩:=h3 h0
    have hlen:=gaps_len ht
    exact gaps_good (str l) l.length (str_size l) (by omega) ts ts.length (ts.length+1) (Hd rfl) (by omega) (by have:=toks_count ht;have:=gapTo_le false (Nat.zero_le l.length);omega) p.decls.length p.exprs.length q.decls.length q.exprs.length cd f cd2 f2
     (fun Y sd se=>ProgAt Y sd se p) (fun Y sd se=>ProgAt Y sd se q) w (Hd hS) _ (Hd rfl) (Hd fun j=>Nat.le_trans (gaps_take ts j) (by omega)) (Hd fun t ht'=>Nat.le_trans (gaps_text ht') (by omega)) (T _ _ _ _ h1)
     (Hd fun W=>(ref_lex_any l ts none ht W).mono fun e w' h5=>by obtain⟨g,cap,h6,h7,h8⟩:=h5.2 (by omega);exact⟨g,cap,h6,Hd h7,Hd h8⟩)
     (T _ _ _ _ h2) (Hd fun w2 od c1 o c w4 pd k1 po kc V g1 g2 b1 b2=>all_er p q _ _ _ _ V (progAt_mono g1 b1) (progAt_mono g2 b2) (er_of_map ee) (erD_of_map ed) gp ap) h0 e0
   ·exact gaps_fault (str l) l.length (str_size l) (by omega) p.decls.length p.exprs.length cd f (fun Y sd se=>ProgAt Y sd se p) w (Hd hS) (T _ _ _ _ h1) RL h0
end Go.Proofs.YtpfmlfcaadnnpaaGreatDoor
namespace Go.Proofs.YtpfmlfcaadnnpaaGreatDoor
open Go.RowKit Go.WideShapes Go.ChangeShapes
section
variable {H:Type} {enc:TypeId×Value→H} {P:Program}
theorem post_by_below {f:Func} {s:ChangeSpec} {apart fresh handsOn again:Bool} {W W':World} {args:Array Value} {v:Value} {ds gs:List (DataW H)} {before pa pv:List MemPlace}
  (hW:DataW.Whole enc P f.params.toList s.vars apart W args.toList ds gs before)
  (hres:∀(b:Nat) (sp:Nat→Bool) (hd:Bool),DataW.TrodAll enc P W' b sp hd f.resultTypes.toList (v.resultList f.resultTypes.size) (s.fn H (ds++gs)).results [])
  (hargs:∀sp:Nat→Bool,(∀p ∈ before,sp p.block=true)→DataW.TrodAll enc P W' 0 sp true f.params.toList args.toList (s.fn H (ds++gs)).args pa)
  (hvars:∀sp:Nat→Bool,(∀p ∈ before,sp p.block=true)→DataW.TrodVars enc P W' sp s.vars (s.fn H (ds++gs)).vars pv)
  (hps:before=pa++pv) (hb:Below W.heap.size W W')
  (hok:∀(j:Nat) (t:TypeId) (r:Value),f.resultTypes[j]?=some t→(v.resultList f.resultTypes.size)[j]?=some r→Value.okWide P W' .any 0 t r) :
  s.post enc P f apart fresh handsOn again W args v W':=by
 have blocks:∀p ∈ before,p.block<W.heap.size:=fun p hp=>hW.lt p hp
 have old:∀p ∈ before,(fun b=>decide (b<W.heap.size)) p.block=true:=fun p hp=>qT (blocks p hp)
 have both:∀p,p ∈ before→p ∈ pa∨p ∈ pv:=fun p hp=>by rw[hps] at hp;exact List.mem_append.1 hp
 have frame:W.keptBut W' (fun p=>p ∈ before∧(p ∈ ([]:List MemPlace)∨p ∈ pa∨p ∈ pv)) :=
  World.keptBut_mono (fun p hp=>⟨hp,.inr (both p hp)⟩) (hb.frame (· ∈ before))
 have whole:DataW.Whole enc P f.params.toList s.vars apart W args.toList ds gs before:=hW
 obtain⟨_,_,_,_,_,cold,once⟩:=hW
 have cold':∀b off,MemPlace.cell b off ∈ before→W'.frozen? ⟨b,off,none⟩=false:=fun b off hp=>by
  rw[hb.frozen (p:=⟨b,off,none⟩) (blocks _ hp)]
  exact cold b off hp
 have behind:DataW.Whole enc P (f.resultTypes.toList++f.params.toList) s.vars apart W' (v.resultList f.resultTypes.size++args.toList)
   ((s.fn H (ds++gs)).results++(s.fn H (ds++gs)).args) (s.fn H (ds++gs)).vars (pa++pv):=by
  have h:=trodAll_append (hargs (fun _=>true) fun _ _=>rfl) (hres 0 (fun _=>true) true)
  exact⟨pa,pv,h,hvars _ fun _ _=>rfl,rfl,fun b off hp=>cold' b off (by rw[hps];exact hp),fun ha=>by rw[←hps];exact once ha⟩
 exact⟨ds,gs,before,[],pa,pv,whole,hres _ _ _,hargs _ old,hvars _ old,frame,fun _=>⟨hok,_,_,_,behind,fun p hp _=>by rw[hps];exact hp⟩⟩
end
end Go.Proofs.YtpfmlfcaadnnpaaGreatDoor
namespace Go.Proofs.YtpfmlfcaadnnpaaGreatDoor.Lx
open Go.ChangeShapes Go.WideShapes Go.ChangeAt Go.RowKit
theorem own:ownKnob prog.godebug=none:=by kernel_rfl
theorem glob_signs:prog.globalNamed "astrolabe/lex.signs"=some 0:=by kernel_rfl
theorem type_signs:(prog.globals[0]?).map (·.type)=some 139:=by kernel_rfl
theorem cells_of_texts {P:Program} {w:World} {fuel:Nat} {t e:TypeId} {n:Nat} {cs:List Value} {xs:List (List UInt8)} {p:List MemPlace}
  (ht:P.underlying t=some (.array n e)) (he:P.underlying e=some .string) (hce:P.cellsOf e=1) (hct:P.cellsOf t=n)
  (h:DataW.trod (fun _=>()) P w 0 (fun _=>true) false fuel t cs=some (.agg (xs.map fun x=>.lit (.string x)),p)):cs=xs.map fun x=>Value.string (str x):=by
 cases fuel with
 | zero=>simp[DataW.trod] at h
 | succ fuel =>
  simp only[DataW.trod,ht,hce,hct,Nat.mul_one] at h
  split at h
  ·obtain⟨ys,hm,hx⟩:=Option.map_eq_some_iff.1 h
   have hxs:ys.map (·.1)=xs.map fun x=>(DataW.lit (.string x):DataW Unit):=by
    have:=congrArg Prod.fst hx
    simpa using this
   have hyl:ys.length=n:=by simpa using Lib.mapM_length hm
   have hxl:xs.length=n:=by
    have:=congrArg List.length hxs
    simp at this
    omega
   rename_i hl
   apply List.ext_getElem?
   intro i
   by_cases hi:i<n
   ·obtain⟨b,hb,hf⟩:=Lib.mapM_at hm i i (by simp[hi])
    obtain⟨s,hc,rfl,_⟩:=DataW.trod_string he hf
    have h1:cs[i]?=some (.string s):=by
     have:=congrArg (·[0]?) hc
     simpa [List.getElem?_take,List.getElem?_drop] using this
    have h2:(ys.map (·.1))[i]?=some (DataW.lit (.string s.data.toList):DataW Unit):=by simp[hb]
    rw[hxs] at h2
    simp only[List.getElem?_map,Option.map_eq_some_iff,DataW.lit.injEq,Lit.string.injEq] at h2
    obtain⟨x,hx',h3⟩:=h2
    rw[h1,List.getElem?_map,hx',h3]
    simp[str]
   ·rw[List.getElem?_eq_none (by omega),List.getElem?_eq_none (by simp;omega)]
  ·cases h
theorem tab_of_laid {W:World} (h:laidMetH prog [("astrolabe/lex.signs",Rows.laid_astrolabe_lex_signs)] W):Signs W:=by
 rw[MakeChecks.laidMetH_plain _ _ _ (by kernel_rfl)] at h
 obtain⟨g',t',cs,fuel,p,hg',ht',hvar,hd⟩:=Lib.laidMet.reads h (n:="astrolabe/lex.signs") (d:=Rows.laid_astrolabe_lex_signs) (by simp)
 obtain rfl:=qI (glob_signs.symm.trans hg')
 obtain rfl:=qI (type_signs.symm.trans ht')
 have hcs:=cells_of_texts (xs:=signsL) Tryz.underlying139 Tryz.underlying9 (by kernel_rfl) (by kernel_rfl) hd
 unfold World.var? at hvar
 rw[glob_signs,Option.bind_some] at hvar
 split at hvar
 ·rename_i c T fr hh
  cases hvar
  refine⟨T,fr,?_⟩
  rw[hh]
  congr 2
  apply Array.toList_inj.1
  rw[hcs]
  simp[signCells]
 ·cases hvar
end Go.Proofs.YtpfmlfcaadnnpaaGreatDoor.Lx
