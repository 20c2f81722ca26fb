import Derived.Test.YtlbhlncipajapaaGreatDoorPt19
import Derived.RangeFuncBox
import Derived.Maps.AppendAt
import Derived.Laws.AppendOwnNone
import Derived.StillTailTactics
import Derived.BigQuiet
set_option maxHeartbeats 16000000
set_option maxRecDepth 100000
open Go.Proofs.Tryz(prog)
namespace Go.Proofs.YtlbhlncipajapaaGreatDoor
open Go.RowKit
attribute [local go_sem] Oper.semAt_some
theorem ix_paE {o:Option Addr} {n cap b off:Nat} (h:0<n→o=some ⟨b,off,none⟩) {j:Nat} (hj:j<n) (hn:n≤9223372036854775807):Ix 54 2 (.slice o n cap) b off j:=by
 intro W
 rw[h (by omega)]
 have h1:(j:Int)<(n:Int):=by omega
 have h2:(j:Int)≤9223372036854775807:=by omega
 go_simp
theorem ix_strE {o:Option Addr} {n cap b off:Nat} (h:0<n→o=some ⟨b,off,none⟩) {j:Nat} (hj:j<n) (hn:n≤9223372036854775807):Ix 63 1 (.slice o n cap) b off j:=by
 intro W
 rw[h (by omega)]
 have h1:(j:Int)<(n:Int):=by omega
 have h2:(j:Int)≤9223372036854775807:=by omega
 go_simp
theorem equal_prog (dl:List De) (l:List Ex) (s t sd td:Value) (W:World) (hs:Hid (ExsAt W s l)) (ht:Hid (ExsAt W t l)) (ll:Hid (l.length≤reachN)) (hsd:Hid (DesAt W sd dl)) (htd:Hid (DesAt W td dl)) (ldl:Hid (dl.length≤reachN)) :
  Calls prog 10 #[.agg #[sd,s],.agg #[td,t]] W fun r Y=>r=.returned (.bool true)∧Below W.heap.size W Y:=by
 obtain⟨ox,capx,bx,fx,rfl,_,_,e1,c1⟩:=hs.out
 obtain⟨oy,capy,yb,fy,rfl,_,_,e2,c2⟩:=ht.out
 obtain⟨od,capd,bd,fd,rfl,_,_,ed1,cd1⟩:=hsd.out
 obtain⟨oe,cape,be,fe,rfl,_,_,ed2,cd2⟩:=htd.out
 obtain⟨nd,hnd⟩:∃n,n=dl.length:=⟨_,rfl⟩
 rw[←hnd] at ed1 cd1 ed2 cd2 ⊢
 have HND:=Hd hnd
 have ED1:=Hd ed1
 have ED2:=Hd ed2
 have CD1:=Hd cd1
 have CD2:=Hd cd2
 have hndl:(nd:Int)≤140737488351232:=by have:=ldl.out;unfold reachN at this;omega
 clear hnd ed1 ed2 cd1 cd2 hsd htd ldl
 obtain⟨n,hn⟩:∃n,n=l.length:=⟨_,rfl⟩
 rw[←hn] at e1 c1 e2 c2 ⊢
 have HN:=Hd hn
 have E1:=Hd e1
 have E2:=Hd e2
 have C1:=Hd c1
 have C2:=Hd c2
 have hnl:(n:Int)≤140737488351232:=by have:=ll.out;unfold reachN at this;omega
 clear hn e1 e2 c1 c2 hs ht ll
 obtain⟨Wb,hWb⟩:∃Wb,Wb=(W.alloc (.cells #[.slice od nd capd,.slice ox n capx] 26)).alloc (.cells #[.slice oe nd cape,.slice oy n capy] 26):=⟨_,rfl⟩
 have HB:Hid (Below W.heap.size W Wb):=Hd (by rw[hWb];exact((qB _ W).alloc (qL _) _).alloc (by rw[World.size_alloc];omega) _)
 have PB:Hid (Wb.heap[W.heap.size]?=some (.cells #[.slice od nd capd,.slice ox n capx] 26 (0,0))):=Hd (by rw[hWb];exact(two_boxes W _ _ _ _).1)
 have QB:Hid (Wb.heap[W.heap.size+1]?=some (.cells #[.slice oe nd cape,.slice oy n capy] 26 (0,0))):=Hd (by rw[hWb];exact(two_boxes W _ _ _ _).2)
 have z1:((n:Int) !=(n:Int))=false:=by simp
 have z2:((nd:Int) !=(nd:Int))=false:=by simp
 go_enter Tryz.func10,Tryz.ntmps10
 go_wp2_with (fail)
 rw[←hWb]
 clear z1 z2 hWb
 go_loopw [5] (fun i wr=>∃(c:Nat),i=.int .i64 (c:Int)∧c≤n∧Hid (Below Wb.heap.size Wb wr)) (fun i _=>n-litLen i)
 case atStart=>exact⟨0,rfl,Nat.zero_le _,Hd (qB _ _)⟩
 case round =>
  obtain⟨c,rfl,hc,hWr⟩:=hrel
  have hwr:=Hd (HB.out.trans (hWr.out.mono HB.out.size))
  have P0:wr.cell? ⟨W.heap.size,0,none⟩=some (.slice od nd capd):=cell_on hWr.out (by simp[World.cell?,PB.out])
  have P1:wr.cell? ⟨W.heap.size,1,none⟩=some (.slice ox n capx):=cell_on hWr.out (by simp[World.cell?,PB.out])
  have Q0:wr.cell? ⟨W.heap.size+1,0,none⟩=some (.slice oe nd cape):=cell_on hWr.out (by simp[World.cell?,QB.out])
  have Q1:wr.cell? ⟨W.heap.size+1,1,none⟩=some (.slice oy n capy):=cell_on hWr.out (by simp[World.cell?,QB.out])
  rcases Nat.lt_or_ge c n with hlt | hge
  ·have hl:(c:Int)<(n:Int):=by omega
   have ix1:=ix_exs (cap:=capx) E1.out hlt (by omega)
   have ix2:=ix_exs (cap:=capy) E2.out hlt (by omega)
   unfold Ix at ix1 ix2
   obtain⟨x,hxk⟩:∃x,l[c]?=some x:=⟨_,List.getElem?_eq_getElem (by have:=HN.out;omega)⟩
   obtain⟨_,i0,i1,i2,i3,i4,i5,i6,i7,i8,hsx,hokx⟩:=(C1.out c hlt x hxk).below hwr.out
   obtain⟨_,j0,j1,j2,j3,j4,j5,j6,j7,j8,hsy,_⟩:=(C2.out c hlt x hxk).below hwr.out
   have HSX:=Hd hsx
   have HSY:=Hd hsy
   have HOX:=Hd hokx
   obtain⟨osx,capsx,bsx,fsx,rfl,_⟩:=hsx
   obtain⟨osy,capsy,bsy,fsy,rfl,_⟩:=hsy
   clear hxk hokx
   go_upto_region 6 with (fail)
   go_cut [6,7] from 39 to 48 (fun s t wx=>∃X Y:Nat,s=.pointer (some ⟨X,0,none⟩)∧t=.pointer (some ⟨Y,0,none⟩)∧Hid (Below wr.heap.size wr wx) ∧
    Hid (wx.heap[X]?=some (.cells #[.int .i64 x.kind,.int .i64 x.a,.int .i64 x.b,.int .i64 x.c,.string x.name,.string x.state,.int .i64 x.v,.slice osx x.args.length capsx,.int .i64 x.pos] 46 (0,0))) ∧
    Hid (wx.heap[Y]?=some (.cells #[.int .i64 x.kind,.int .i64 x.a,.int .i64 x.b,.int .i64 x.c,.string x.name,.string x.state,.int .i64 x.v,.slice osy x.args.length capsy,.int .i64 x.pos] 46 (0,0))))
   case first =>
    go_region_held3 (fun w'=>w'.cell? ⟨W.heap.size,1,none⟩=some (.slice ox n capx)∧w'.cell? ⟨W.heap.size+1,1,none⟩=some (.slice oy n capy)∧w'.cell? ⟨bx,fx+c*9,none⟩=some (.int .i64 x.kind)∧w'.cell? ⟨bx,fx+c*9+1,none⟩=some (.int .i64 x.a)∧w'.cell? ⟨bx,fx+c*9+2,none⟩=some (.int .i64 x.b)∧w'.cell? ⟨bx,fx+c*9+3,none⟩=some (.int .i64 x.c)∧w'.cell? ⟨bx,fx+c*9+4,none⟩=some (.string x.name)∧w'.cell? ⟨bx,fx+c*9+5,none⟩=some (.string x.state)∧w'.cell? ⟨bx,fx+c*9+6,none⟩=some (.int .i64 x.v)∧w'.cell? ⟨bx,fx+c*9+7,none⟩=some (.slice osx x.args.length capsx)∧w'.cell? ⟨bx,fx+c*9+8,none⟩=some (.int .i64 x.pos) ∧
      w'.cell? ⟨yb,fy+c*9,none⟩=some (.int .i64 x.kind)∧w'.cell? ⟨yb,fy+c*9+1,none⟩=some (.int .i64 x.a)∧w'.cell? ⟨yb,fy+c*9+2,none⟩=some (.int .i64 x.b)∧w'.cell? ⟨yb,fy+c*9+3,none⟩=some (.int .i64 x.c)∧w'.cell? ⟨yb,fy+c*9+4,none⟩=some (.string x.name)∧w'.cell? ⟨yb,fy+c*9+5,none⟩=some (.string x.state)∧w'.cell? ⟨yb,fy+c*9+6,none⟩=some (.int .i64 x.v)∧w'.cell? ⟨yb,fy+c*9+7,none⟩=some (.slice osy x.args.length capsy)∧w'.cell? ⟨yb,fy+c*9+8,none⟩=some (.int .i64 x.pos))
     (first | exact⟨P1,Q1,i0,i1,i2,i3,i4,i5,i6,i7,i8,j0,j1,j2,j3,j4,j5,j6,j7,j8⟩ | ((repeat' apply And.intro) <;> first | assumption | go_keep))
     (first | fail)
    all_goals (go_wp2_with fail;go_meet)
    all_goals exact⟨_,_,rfl,rfl,Hd ((fun h:Below wr.heap.size wr ((wr.alloc _).alloc _)=>⟨h.os,h.tape,h.output,h.size,h.block⟩) (((qB _ wr).alloc (qL _) _).alloc (by rw[World.size_alloc];omega) _)),Hd (by first | exact(two_boxes' _ _ _ _ _).1 | exact(two_boxes' _ _ _ _ _).2),Hd (by first | exact(two_boxes' _ _ _ _ _).1 | exact(two_boxes' _ _ _ _ _).2)⟩
   case rest =>
    obtain⟨X,Y,rfl,rfl,hbx,hX,hY⟩:=hcut
    obtain⟨wx,hwx⟩:∃wx,wx=wc:=⟨_,rfl⟩
    rw[←hwx] at hbx hX hY ⊢
    have HBR:=Hd (hWr.out.trans (hbx.out.mono hWr.out.size))
    obtain⟨⟨s0,s1,s2,s3,s4,s5,s6,s7,s8⟩,_⟩:=(⟨⟨by simp[World.cell?,hX.out],by simp[World.cell?,hX.out],by simp[World.cell?,hX.out],by simp[World.cell?,hX.out],by simp[World.cell?,hX.out],by simp[World.cell?,hX.out],by simp[World.cell?,hX.out],by simp[World.cell?,hX.out],by simp[World.cell?,hX.out]⟩,trivial⟩:(wx.cell? ⟨X,0,none⟩=some (.int .i64 x.kind)∧wx.cell? ⟨X,1,none⟩=some (.int .i64 x.a)∧wx.cell? ⟨X,2,none⟩=some (.int .i64 x.b)∧wx.cell? ⟨X,3,none⟩=some (.int .i64 x.c)∧wx.cell? ⟨X,4,none⟩=some (.string x.name)∧wx.cell? ⟨X,5,none⟩=some (.string x.state)∧wx.cell? ⟨X,6,none⟩=some (.int .i64 x.v)∧wx.cell? ⟨X,7,none⟩=some (.slice osx x.args.length capsx)∧wx.cell? ⟨X,8,none⟩=some (.int .i64 x.pos))∧True)
    obtain⟨⟨t0,t1,t2,t3,t4,t5,t6,t7,t8⟩,_⟩:=(⟨⟨by simp[World.cell?,hY.out],by simp[World.cell?,hY.out],by simp[World.cell?,hY.out],by simp[World.cell?,hY.out],by simp[World.cell?,hY.out],by simp[World.cell?,hY.out],by simp[World.cell?,hY.out],by simp[World.cell?,hY.out],by simp[World.cell?,hY.out]⟩,trivial⟩:(wx.cell? ⟨Y,0,none⟩=some (.int .i64 x.kind)∧wx.cell? ⟨Y,1,none⟩=some (.int .i64 x.a)∧wx.cell? ⟨Y,2,none⟩=some (.int .i64 x.b)∧wx.cell? ⟨Y,3,none⟩=some (.int .i64 x.c)∧wx.cell? ⟨Y,4,none⟩=some (.string x.name)∧wx.cell? ⟨Y,5,none⟩=some (.string x.state)∧wx.cell? ⟨Y,6,none⟩=some (.int .i64 x.v)∧wx.cell? ⟨Y,7,none⟩=some (.slice osy x.args.length capsy)∧wx.cell? ⟨Y,8,none⟩=some (.int .i64 x.pos))∧True)
    have CI:=Hd (eqInts_any x.args _ _ wx (Hd (HSX.out.below hbx.out)) (Hd (HSY.out.below hbx.out)) (Hd HOX.out.args))
    have CI2:Hid (Calls prog 21 #[.slice osx x.args.length capsx,.slice osy x.args.length capsy] wx fun r Y=>r=.returned (.bool true)∧Hid (Below wx.heap.size wx Y)):=Hd (CI.out.mono fun r Y h=>⟨h.1,Hd h.2⟩)
    clear CI hX hY hwx
    obtain⟨k,a,b,cc,nm,st,v,p,ks⟩:∃k a b cc nm st v p,k=x.kind∧a=x.a∧b=x.b∧cc=x.c∧nm=x.name∧st=x.state∧v=x.v∧p=x.pos:=⟨_,_,_,_,_,_,_,_,rfl,rfl,rfl,rfl,rfl,rfl,rfl,rfl⟩
    have y0:(x.kind !=x.kind)=false:=by simp
    have y1:(x.a !=x.a)=false:=by simp
    have y2:(x.b !=x.b)=false:=by simp
    have y3:(x.c !=x.c)=false:=by simp
    have y4:(x.name.toList ==x.name.toList)=true:=by simp
    have y5:(x.state.toList ==x.state.toList)=true:=by simp
    have y6:(x.v !=x.v)=false:=by simp
    have y8:(x.pos !=x.pos)=false:=by simp
    go_wp2_with (go_at_call 21;(with_reducible refine CI2.out.mono ?_);rintro e w2 ⟨rfl,hb2⟩)
    have HBN:=Hd (HBR.out.trans (hb2.out.mono HBR.out.size))
    exact⟨⟨c+1,by go_num,by omega,HBN⟩,by simp[litLen];omega⟩
  ·obtain rfl:c=n:=by omega
   have hno:¬(c:Int)<(c:Int):=by omega
   go_wp2_with (fail)
   go_loopw [8] (fun i w2=>∃(c:Nat),i=.int .i64 (c:Int)∧c≤nd∧Hid (Below Wb.heap.size Wb w2)) (fun i _=>nd-litLen i)
   case atStart=>exact⟨0,rfl,Nat.zero_le _,Hd hWr.out⟩
   case round =>
    clear P0 P1 Q0 Q1 hno hwr hWr
    obtain⟨c,rfl,hc,hWr⟩:=hrel
    have hwr:=Hd (HB.out.trans (hWr.out.mono HB.out.size))
    have P0:wr.cell? ⟨W.heap.size,0,none⟩=some (.slice od nd capd):=cell_on hWr.out (by simp[World.cell?,PB.out])
    have Q0:wr.cell? ⟨W.heap.size+1,0,none⟩=some (.slice oe nd cape):=cell_on hWr.out (by simp[World.cell?,QB.out])
    rcases Nat.lt_or_ge c nd with hlt | hge
    ·have hl:(c:Int)<(nd:Int):=by omega
     have ix1:=ix_des (cap:=capd) ED1.out hlt (by omega)
     have ix2:=ix_des (cap:=cape) ED2.out hlt (by omega)
     unfold Ix at ix1 ix2
     obtain⟨d,hdk⟩:∃d,dl[c]?=some d:=⟨_,List.getElem?_eq_getElem (by have:=HND.out;omega)⟩
     obtain⟨_,_,i0,i1',i2',i3,i4,i5,i6,hpx,hix,hok⟩:=(CD1.out c hlt d hdk).below hwr.out
     obtain⟨_,_,j0,j1',j2',j3,j4,j5,j6,hpy,hiy,_⟩:=(CD2.out c hlt d hdk).below hwr.out
     have HPX:=Hd hpx
     have HPY:=Hd hpy
     have HIX:=Hd hix
     have HIY:=Hd hiy
     have HOK:=Hd hok
     obtain⟨p1,k1,bp1,fp1,rfl,_,_,eo1,cp1⟩:=hpx
     obtain⟨p2,k2,bp2,fp2,rfl,_,_,eo2,cp2⟩:=hpy
     obtain⟨i1,j1,bi1,fi1,rfl,_,_,ei1,ci1⟩:=hix
     obtain⟨i2,j2,bi2,fi2,rfl,_,_,ei2,ci2⟩:=hiy
     have EO1:=Hd eo1
     have EO2:=Hd eo2
     have CP1:=Hd cp1
     have CP2:=Hd cp2
     have EI1:=Hd ei1
     have EI2:=Hd ei2
     have CI1:=Hd ci1
     have CI2:=Hd ci2
     have hdp:(d.params.length:Int)≤140737488351232:=by have:=HOK.out.params;unfold reachN at this;omega
     have hdi:(d.items.length:Int)≤140737488351232:=by have:=HOK.out.items;unfold reachN at this;omega
     clear hdk hok HPX HPY HIX HIY eo1 eo2 cp1 cp2 ei1 ei2 ci1 ci2
     go_upto_region 12 with (fail)
     go_cut [9,10] from 118 to 127 (fun s t wx=>∃X Y:Nat,s=.pointer (some ⟨X,0,none⟩)∧t=.pointer (some ⟨Y,0,none⟩)∧Hid (Below wr.heap.size wr wx)∧Hid (wx.heap[X]?=some (.cells #[.int .i64 d.kind,.string d.name,.slice p1 d.params.length k1,.slice i1 d.items.length j1,.int .i64 d.type,.int .i64 d.e,.int .i64 d.pos] 57 (0,0)))∧Hid (wx.heap[Y]?=some (.cells #[.int .i64 d.kind,.string d.name,.slice p2 d.params.length k2,.slice i2 d.items.length j2,.int .i64 d.type,.int .i64 d.e,.int .i64 d.pos] 57 (0,0))))
     case first =>
      go_region_held3 (fun w'=>w'.cell? ⟨W.heap.size,0,none⟩=some (.slice od nd capd)∧w'.cell? ⟨W.heap.size+1,0,none⟩=some (.slice oe nd cape)∧w'.cell? ⟨bd,fd+c*7,none⟩=some (.int .i64 d.kind)∧w'.cell? ⟨bd,fd+c*7+1,none⟩=some (.string d.name)∧w'.cell? ⟨bd,fd+c*7+2,none⟩=some (.slice p1 d.params.length k1)∧w'.cell? ⟨bd,fd+c*7+3,none⟩=some (.slice i1 d.items.length j1)∧w'.cell? ⟨bd,fd+c*7+4,none⟩=some (.int .i64 d.type)∧w'.cell? ⟨bd,fd+c*7+5,none⟩=some (.int .i64 d.e)∧w'.cell? ⟨bd,fd+c*7+6,none⟩=some (.int .i64 d.pos)∧w'.cell? ⟨be,fe+c*7,none⟩=some (.int .i64 d.kind)∧w'.cell? ⟨be,fe+c*7+1,none⟩=some (.string d.name)∧w'.cell? ⟨be,fe+c*7+2,none⟩=some (.slice p2 d.params.length k2)∧w'.cell? ⟨be,fe+c*7+3,none⟩=some (.slice i2 d.items.length j2)∧w'.cell? ⟨be,fe+c*7+4,none⟩=some (.int .i64 d.type)∧w'.cell? ⟨be,fe+c*7+5,none⟩=some (.int .i64 d.e)∧w'.cell? ⟨be,fe+c*7+6,none⟩=some (.int .i64 d.pos))
       (first | exact⟨P0,Q0,i0,i1',i2',i3,i4,i5,i6,j0,j1',j2',j3,j4,j5,j6⟩ | ((repeat' apply And.intro) <;> first | assumption | go_keep))
       (first | fail)
      all_goals (go_wp2_with fail;go_meet)
      all_goals exact⟨_,_,rfl,rfl,Hd ((fun h:Below wr.heap.size wr ((wr.alloc _).alloc _)=>⟨h.os,h.tape,h.output,h.size,h.block⟩) (((qB _ wr).alloc (qL _) _).alloc (by rw[World.size_alloc];omega) _)),Hd (by first | exact(two_boxes' _ _ _ _ _).1 | exact(two_boxes' _ _ _ _ _).2),Hd (by first | exact(two_boxes' _ _ _ _ _).1 | exact(two_boxes' _ _ _ _ _).2)⟩
     case rest =>
      obtain⟨X,Y,rfl,rfl,hbx,hX,hY⟩:=hcut
      obtain⟨wx,hwx⟩:∃wx,wx=wc:=⟨_,rfl⟩
      rw[←hwx] at hbx hX hY ⊢
      clear ix1 ix2 P0 Q0 i0 i1' i2' i3 i4 i5 i6 j0 j1' j2' j3 j4 j5 j6 hwx
      have HBR:=Hd (hWr.out.trans (hbx.out.mono hWr.out.size))
      obtain⟨a0,a1,a2,a3,a4,a5,a6⟩:wx.cell? ⟨X,0,none⟩=some (.int .i64 d.kind)∧wx.cell? ⟨X,1,none⟩=some (.string d.name)∧wx.cell? ⟨X,2,none⟩=some (.slice p1 d.params.length k1)∧wx.cell? ⟨X,3,none⟩=some (.slice i1 d.items.length j1)∧wx.cell? ⟨X,4,none⟩=some (.int .i64 d.type)∧wx.cell? ⟨X,5,none⟩=some (.int .i64 d.e)∧wx.cell? ⟨X,6,none⟩=some (.int .i64 d.pos):=⟨by simp[World.cell?,hX.out],by simp[World.cell?,hX.out],by simp[World.cell?,hX.out],by simp[World.cell?,hX.out],by simp[World.cell?,hX.out],by simp[World.cell?,hX.out],by simp[World.cell?,hX.out]⟩
      obtain⟨b0,b1,b2,b3,b4,b5,b6⟩:wx.cell? ⟨Y,0,none⟩=some (.int .i64 d.kind)∧wx.cell? ⟨Y,1,none⟩=some (.string d.name)∧wx.cell? ⟨Y,2,none⟩=some (.slice p2 d.params.length k2)∧wx.cell? ⟨Y,3,none⟩=some (.slice i2 d.items.length j2)∧wx.cell? ⟨Y,4,none⟩=some (.int .i64 d.type)∧wx.cell? ⟨Y,5,none⟩=some (.int .i64 d.e)∧wx.cell? ⟨Y,6,none⟩=some (.int .i64 d.pos):=⟨by simp[World.cell?,hY.out],by simp[World.cell?,hY.out],by simp[World.cell?,hY.out],by simp[World.cell?,hY.out],by simp[World.cell?,hY.out],by simp[World.cell?,hY.out],by simp[World.cell?,hY.out]⟩
      have y0:(d.kind !=d.kind)=false:=by simp
      have y1:(d.name.toList ==d.name.toList)=true:=by simp
      have y4:(d.type !=d.type)=false:=by simp
      have y5:(d.e !=d.e)=false:=by simp
      have y6:(d.pos !=d.pos)=false:=by simp
      have y2:(((d.params.length:Nat):Int) !=((d.params.length:Nat):Int))=false:=by simp
      have y3:(((d.items.length:Nat):Int) !=((d.items.length:Nat):Int))=false:=by simp
      go_wp2_with (fail)
      clear y0 y1 y2 y3 y4 y5 y6 a0 a1 a2 a3 a4 a5 a6 b0 b1 b2 b3 b4 b5 b6
      go_loopw [11] (fun i wp=>∃(k:Nat),i=.int .i64 (k:Int)∧k≤d.params.length∧Hid (Below wx.heap.size wx wp)) (fun i _=>d.params.length-litLen i)
      case atStart=>exact⟨0,rfl,Nat.zero_le _,Hd (qB _ _)⟩
      case round =>
       obtain⟨k,rfl,hk,hWp⟩:=hrel
       have a2:wr.cell? ⟨X,2,none⟩=some (.slice p1 d.params.length k1):=cell_on hWp.out (by simp[World.cell?,hX.out])
       have b2:wr.cell? ⟨Y,2,none⟩=some (.slice p2 d.params.length k2):=cell_on hWp.out (by simp[World.cell?,hY.out])
       rcases Nat.lt_or_ge k d.params.length with hlt2 | hge2
       ·have hl2:(k:Int)<(d.params.length:Int):=by omega
        have hpn:d.params.length≤reachN:=HOK.out.params
        have ix1:=ix_paE (cap:=k1) EO1.out hlt2 (by unfold reachN at hpn;omega)
        have ix2:=ix_paE (cap:=k2) EO2.out hlt2 (by unfold reachN at hpn;omega)
        unfold Ix at ix1 ix2
        obtain⟨pp,hpk⟩:∃pp,d.params[k]?=some pp:=⟨_,List.getElem?_eq_getElem hlt2⟩
        obtain⟨i0,i1',_⟩:=CP1.out k hlt2 pp hpk
        obtain⟨j0,j1',_⟩:=CP2.out k hlt2 pp hpk
        have m0:=cell_on hWp.out (cell_on hbx.out i0)
        have m1:=cell_on hWp.out (cell_on hbx.out i1')
        have n0:=cell_on hWp.out (cell_on hbx.out j0)
        have n1:=cell_on hWp.out (cell_on hbx.out j1')
        have HDR:Hid (Below wx.heap.size wx wr.drew):=Hd (hWp.out.trans ⟨rfl,rfl,rfl,qL _,fun _ _=>rfl⟩)
        have y0:(pp.name.toList ==pp.name.toList)=true:=by simp
        have y1:(pp.type ==pp.type)=true:=by simp
        clear i0 i1' j0 j1' hpk hpn
        go_wp2_with (fail)
        go_region_held3 (fun w'=>w'.cell? ⟨X,2,none⟩=some (.slice p1 d.params.length k1)∧w'.cell? ⟨Y,2,none⟩=some (.slice p2 d.params.length k2)∧w'.cell? ⟨bp1,fp1+k*2,none⟩=some (.string pp.name)∧w'.cell? ⟨bp1,fp1+k*2+1,none⟩=some (.int .i64 pp.type)∧w'.cell? ⟨bp2,fp2+k*2,none⟩=some (.string pp.name)∧w'.cell? ⟨bp2,fp2+k*2+1,none⟩=some (.int .i64 pp.type))
         (first | exact⟨a2,b2,m0,m1,n0,n1⟩)
         (first | fail)
        all_goals (go_wp2_with fail)
        exact⟨⟨k+1,by go_num,by omega,HDR⟩,by simp[litLen];omega⟩
       ·obtain rfl:k=d.params.length:=by omega
        have hno2:¬((d.params.length:Nat):Int)<((d.params.length:Nat):Int):=by omega
        have a3:wr.cell? ⟨X,3,none⟩=some (.slice i1 d.items.length j1):=cell_on hWp.out (by simp[World.cell?,hX.out])
        have HWP:=hWp
        clear hk hge2
        go_wp2_with (fail)
        clear a2 b2 a3 hno2
        go_loopw [12] (fun i wp=>∃(k:Nat),i=.int .i64 (k:Int)∧k≤d.items.length∧Hid (Below wx.heap.size wx wp)) (fun i _=>d.items.length-litLen i)
        case atStart=>exact⟨0,rfl,Nat.zero_le _,hWp⟩
        case round =>
         clear hWp HWP
         obtain⟨k,rfl,hk,hWp⟩:=hrel
         have a3:wr.cell? ⟨X,3,none⟩=some (.slice i1 d.items.length j1):=cell_on hWp.out (by simp[World.cell?,hX.out])
         have b3:wr.cell? ⟨Y,3,none⟩=some (.slice i2 d.items.length j2):=cell_on hWp.out (by simp[World.cell?,hY.out])
         rcases Nat.lt_or_ge k d.items.length with hlt2 | hge2
         ·have hl2:(k:Int)<(d.items.length:Int):=by omega
          have hpn:d.items.length≤reachN:=HOK.out.items
          have ix1:=ix_its (cap:=j1) EI1.out hlt2 (by unfold reachN at hpn;omega)
          have ix2:=ix_its (cap:=j2) EI2.out hlt2 (by unfold reachN at hpn;omega)
          unfold Ix at ix1 ix2
          obtain⟨y,hyk⟩:∃y,d.items[k]?=some y:=⟨_,List.getElem?_eq_getElem hlt2⟩
          obtain⟨_,e0,e1',e2',e3,e4,e5,e6,e7,e8,hsx,hoky⟩:=((CI1.out k hlt2 y hyk).below hbx.out).below hWp.out
          obtain⟨_,g0,g1',g2',g3,g4,g5,g6,g7,g8,hsy,_⟩:=((CI2.out k hlt2 y hyk).below hbx.out).below hWp.out
          obtain⟨s1,t1,bs1,fs1,rfl,_,_,es1,cs1⟩:=hsx
          obtain⟨s2,t2,bs2,fs2,rfl,_,_,es2,cs2⟩:=hsy
          have ES1:=Hd es1
          have ES2:=Hd es2
          have CS1:=Hd cs1
          have CS2:=Hd cs2
          have HOY:=Hd hoky
          have hys:(y.states.length:Int)≤140737488351232:=by have:=HOY.out.states;unfold reachN at this;omega
          have hA1:=World.block_lt_of_cell? _ _ a3
          have hB1:=World.block_lt_of_cell? _ _ b3
          clear hyk hoky hpn es1 es2 cs1 cs2
          obtain⟨wi,hwi⟩:∃wi,wi=wr:=⟨_,rfl⟩
          rw[←hwi] at hWp a3 b3 e0 e1' e2' e3 e4 e5 e6 e7 e8 g0 g1' g2' g3 g4 g5 g6 g7 g8 CS1 CS2 hA1 hB1 ⊢
          clear hwi
          go_upto_region 23 with (fail)
          go_cut [13,14] from 204 to 213 (fun s t wz=>∃U V:Nat,s=.pointer (some ⟨U,0,none⟩)∧t=.pointer (some ⟨V,0,none⟩)∧Hid (Below wi.heap.size wi wz)∧Hid (wz.heap[U]?=some (.cells #[.int .i64 y.kind,.string y.name,.int .i64 y.type,.int .i64 y.e,.int .i64 y.f,.slice s1 y.states.length t1,.string y.state,.string y.next,.int .i64 y.pos] 65 (0,0)))∧Hid (wz.heap[V]?=some (.cells #[.int .i64 y.kind,.string y.name,.int .i64 y.type,.int .i64 y.e,.int .i64 y.f,.slice s2 y.states.length t2,.string y.state,.string y.next,.int .i64 y.pos] 65 (0,0))))
          case first =>
           go_region_held3 (fun w'=>w'.cell? ⟨X,3,none⟩=some (.slice i1 d.items.length j1)∧w'.cell? ⟨Y,3,none⟩=some (.slice i2 d.items.length j2)∧w'.cell? ⟨bi1,fi1+k*9,none⟩=some (.int .i64 y.kind)∧w'.cell? ⟨bi1,fi1+k*9+1,none⟩=some (.string y.name)∧w'.cell? ⟨bi1,fi1+k*9+2,none⟩=some (.int .i64 y.type)∧w'.cell? ⟨bi1,fi1+k*9+3,none⟩=some (.int .i64 y.e)∧w'.cell? ⟨bi1,fi1+k*9+4,none⟩=some (.int .i64 y.f)∧w'.cell? ⟨bi1,fi1+k*9+5,none⟩=some (.slice s1 y.states.length t1)∧w'.cell? ⟨bi1,fi1+k*9+6,none⟩=some (.string y.state)∧w'.cell? ⟨bi1,fi1+k*9+7,none⟩=some (.string y.next)∧w'.cell? ⟨bi1,fi1+k*9+8,none⟩=some (.int .i64 y.pos)∧w'.cell? ⟨bi2,fi2+k*9,none⟩=some (.int .i64 y.kind)∧w'.cell? ⟨bi2,fi2+k*9+1,none⟩=some (.string y.name)∧w'.cell? ⟨bi2,fi2+k*9+2,none⟩=some (.int .i64 y.type)∧w'.cell? ⟨bi2,fi2+k*9+3,none⟩=some (.int .i64 y.e)∧w'.cell? ⟨bi2,fi2+k*9+4,none⟩=some (.int .i64 y.f)∧w'.cell? ⟨bi2,fi2+k*9+5,none⟩=some (.slice s2 y.states.length t2)∧w'.cell? ⟨bi2,fi2+k*9+6,none⟩=some (.string y.state)∧w'.cell? ⟨bi2,fi2+k*9+7,none⟩=some (.string y.next)∧w'.cell? ⟨bi2,fi2+k*9+8,none⟩=some (.int .i64 y.pos))
            (first | exact⟨a3,b3,e0,e1',e2',e3,e4,e5,e6,e7,e8,g0,g1',g2',g3,g4,g5,g6,g7,g8⟩ | ((repeat' apply And.intro) <;> first | assumption | go_keep))
            (first | fail)
           all_goals (go_wp2_with fail;go_meet)
           all_goals exact⟨_,_,rfl,rfl,Hd ((fun h:Below wi.heap.size wi ((wi.alloc _).alloc _)=>⟨h.os,h.tape,h.output,h.size,h.block⟩) (((qB _ wi).alloc (qL _) _).alloc (by rw[World.size_alloc];omega) _)),Hd (by first | exact(two_boxes' _ _ _ _ _).1 | exact(two_boxes' _ _ _ _ _).2),Hd (by first | exact(two_boxes' _ _ _ _ _).1 | exact(two_boxes' _ _ _ _ _).2)⟩
          case rest =>
           obtain⟨U,V,rfl,rfl,hbz,hU,hV⟩:=hcut
           obtain⟨wz,hwz⟩:∃wz,wz=wc:=⟨_,rfl⟩
           rw[←hwz] at hbz hU hV ⊢
           clear ix1 ix2 a3 b3 e0 e1' e2' e3 e4 e5 e6 e7 e8 g0 g1' g2' g3 g4 g5 g6 g7 g8 hwz
           have HBZ:=Hd (hWp.out.trans (hbz.out.mono hWp.out.size))
           obtain⟨a0,a1,a2,a3,a4,a5,a6,a7,a8⟩:wz.cell? ⟨U,0,none⟩=some (.int .i64 y.kind)∧wz.cell? ⟨U,1,none⟩=some (.string y.name)∧wz.cell? ⟨U,2,none⟩=some (.int .i64 y.type)∧wz.cell? ⟨U,3,none⟩=some (.int .i64 y.e)∧wz.cell? ⟨U,4,none⟩=some (.int .i64 y.f)∧wz.cell? ⟨U,5,none⟩=some (.slice s1 y.states.length t1)∧wz.cell? ⟨U,6,none⟩=some (.string y.state)∧wz.cell? ⟨U,7,none⟩=some (.string y.next)∧wz.cell? ⟨U,8,none⟩=some (.int .i64 y.pos):=⟨by simp[World.cell?,hU.out],by simp[World.cell?,hU.out],by simp[World.cell?,hU.out],by simp[World.cell?,hU.out],by simp[World.cell?,hU.out],by simp[World.cell?,hU.out],by simp[World.cell?,hU.out],by simp[World.cell?,hU.out],by simp[World.cell?,hU.out]⟩
           obtain⟨b0,b1,b2,b3,b4,b5,b6,b7,b8⟩:wz.cell? ⟨V,0,none⟩=some (.int .i64 y.kind)∧wz.cell? ⟨V,1,none⟩=some (.string y.name)∧wz.cell? ⟨V,2,none⟩=some (.int .i64 y.type)∧wz.cell? ⟨V,3,none⟩=some (.int .i64 y.e)∧wz.cell? ⟨V,4,none⟩=some (.int .i64 y.f)∧wz.cell? ⟨V,5,none⟩=some (.slice s2 y.states.length t2)∧wz.cell? ⟨V,6,none⟩=some (.string y.state)∧wz.cell? ⟨V,7,none⟩=some (.string y.next)∧wz.cell? ⟨V,8,none⟩=some (.int .i64 y.pos):=⟨by simp[World.cell?,hV.out],by simp[World.cell?,hV.out],by simp[World.cell?,hV.out],by simp[World.cell?,hV.out],by simp[World.cell?,hV.out],by simp[World.cell?,hV.out],by simp[World.cell?,hV.out],by simp[World.cell?,hV.out],by simp[World.cell?,hV.out]⟩
           have y0:(y.kind !=y.kind)=false:=by simp
           have y1:(y.name.toList ==y.name.toList)=true:=by simp
           have y2:(y.type !=y.type)=false:=by simp
           have y3:(y.e !=y.e)=false:=by simp
           have y4:(y.f !=y.f)=false:=by simp
           have y5:(((y.states.length:Nat):Int) !=((y.states.length:Nat):Int))=false:=by simp
           have y6:(y.state.toList ==y.state.toList)=true:=by simp
           have y7:(y.next.toList ==y.next.toList)=true:=by simp
           have y8:(y.pos !=y.pos)=false:=by simp
           go_wp2_with (fail)
           clear y0 y1 y2 y3 y4 y5 y6 y7 y8 a0 a1 a2 a3 a4 a5 a6 a7 a8 b0 b1 b2 b3 b4 b5 b6 b7 b8
           go_loopw [15] (fun i wp=>∃(m:Nat),i=.int .i64 (m:Int)∧m≤y.states.length∧Hid (Below wz.heap.size wz wp)) (fun i _=>y.states.length-litLen i)
           case atStart=>exact⟨0,rfl,Nat.zero_le _,Hd (qB _ _)⟩
           case round =>
            obtain⟨m,rfl,hm,hWs⟩:=hrel
            have a5:wr.cell? ⟨U,5,none⟩=some (.slice s1 y.states.length t1):=cell_on hWs.out (by simp[World.cell?,hU.out])
            have b5:wr.cell? ⟨V,5,none⟩=some (.slice s2 y.states.length t2):=cell_on hWs.out (by simp[World.cell?,hV.out])
            rcases Nat.lt_or_ge m y.states.length with hlt3 | hge3
            ·have hl3:(m:Int)<(y.states.length:Int):=by omega
             have hsn:y.states.length≤reachN:=HOY.out.states
             have ix1:=ix_strE (cap:=t1) ES1.out hlt3 (by unfold reachN at hsn;omega)
             have ix2:=ix_strE (cap:=t2) ES2.out hlt3 (by unfold reachN at hsn;omega)
             unfold Ix at ix1 ix2
             obtain⟨sx,hsx⟩:∃sx,sx=y.states.getD m ⟨#[]⟩:=⟨_,rfl⟩
             have m0:=cell_on hWs.out (cell_on hbz.out (CS1.out m hlt3))
             have n0:=cell_on hWs.out (cell_on hbz.out (CS2.out m hlt3))
             rw[←hsx,Nat.mul_one] at m0 n0
             have HDR:Hid (Below wz.heap.size wz wr.drew):=Hd (hWs.out.trans ⟨rfl,rfl,rfl,qL _,fun _ _=>rfl⟩)
             have y0:(sx.toList ==sx.toList)=true:=by simp
             clear hsx hsn
             go_wp2_with (fail)
             go_region_held3 (fun w'=>w'.cell? ⟨U,5,none⟩=some (.slice s1 y.states.length t1)∧w'.cell? ⟨V,5,none⟩=some (.slice s2 y.states.length t2)∧w'.cell? ⟨bs1,fs1+m,none⟩=some (.string sx)∧w'.cell? ⟨bs2,fs2+m,none⟩=some (.string sx))
              (first | exact⟨a5,b5,m0,n0⟩)
              (first | fail)
             all_goals (go_wp2_with fail)
             exact⟨⟨m+1,by go_num,by omega,HDR⟩,by simp[litLen];omega⟩
            ·obtain rfl:m=y.states.length:=by omega
             have hno3:¬((y.states.length:Nat):Int)<((y.states.length:Nat):Int):=by omega
             have HN:=Hd (HBZ.out.trans (hWs.out.mono HBZ.out.size))
             go_wp2_with (fail)
             exact⟨⟨k+1,by go_num,by omega,HN⟩,by simp[litLen];omega⟩
         ·obtain rfl:k=d.items.length:=by omega
          have hno2:¬((d.items.length:Nat):Int)<((d.items.length:Nat):Int):=by omega
          have HN:=Hd (HBR.out.trans (hWp.out.mono HBR.out.size))
          go_wp2_with (fail)
          exact⟨⟨c+1,by go_num,by omega,HN⟩,by simp[litLen];omega⟩
    ·obtain rfl:c=nd:=by omega
     have hno2:¬(c:Int)<(c:Int):=by omega
     go_wp2_with (fail)
     go_ret
     exact⟨rfl,hwr.out⟩
end Go.Proofs.YtlbhlncipajapaaGreatDoor
namespace Go.Proofs.YtlbhlncipajapaaGreatDoor
open Go.RowKit Go.Shelf
attribute [local go_sem] Oper.semAt_some
theorem aint_info:(prog.info? 3).map (fun i=>(i.zero,i.size,i.bytes))=some (some (.int .i64 0),1,8):=by kernel_rfl
theorem lt_of_heap {W:World} {k:Nat} {o:Obj} (h:W.heap[k]?=some o):k<W.heap.size:=(Array.getElem?_eq_some_iff.1 h).1
def intV (p:Int):Value:=.int .i64 p
def NewInts (l:List Int) (w:World) (e:Ending) (w':World):Prop:=∃v,e=.returned v∧w'.ownsRow w.heap.size 3 1 v l.length (l.map intV)∧Below w.heap.size w w'
def exV (x:Ex) (s:Value):Value:=.agg (exCells x s)
end Go.Proofs.YtlbhlncipajapaaGreatDoor
namespace Go.Proofs.YtlbhlncipajapaaGreatDoor
open Go.RowKit
theorem wpList_append_ints (w:World) {ops:Array Oper} {rest:List Oper} {o:Oper} {a:Act} {Q:Exit→Act→World→Prop}
  (hg:o.guard=none) (s x:Operand) (hop:o.op=Op.call { callee:=Callee.builtin Builtin.append,args:=#[s,x],argTypes:=#[44,44] })
  (base:Nat) (v:Value) (k:Nat) (xs:List Value) (hs:a.eval s=v) (hown:w.ownsRow base 3 1 v k xs) (oa:Option Addr) (m cap b off:Nat) (hx:a.eval x=.slice oa m cap) (hcap:CapOk oa cap) (ho:0<m→oa=some ⟨b,off,none⟩)
  (l:List Int) (hl:l.length=m) (hc:∀j,j<m→w.cell? ⟨b,off+j,none⟩=some (.int .i64 (l.getD j 0))) (hk:k+m≤1000000000) (b3:base≤w.heap.size)
  (hK:∀v' w',w'.ownsRow base 3 1 v' (k+m) (xs++l.map intV)→w.grownBy w' v.ownBlock→wpList prog ops Q rest (a.put o.dst v') w') :
  wpList prog ops Q (o :: rest) a w:=by
 obtain⟨i,h2,h3,h4,h5⟩:=info_parts aint_info
 cases oa with
 | none =>
  obtain rfl:m=0:=by rcases Nat.eq_zero_or_pos m with h | h;exact h;exact absurd (ho h) (by simp)
  obtain rfl:cap=0:=hcap.2 rfl
  refine wpList_append_own_none hg s x 44 hop base 3 i 1 Tryz.underlying44 h2 v k xs hs hown hx (hK _ _ ?_ ⟨rfl,rfl,rfl,qL _,fun _ _ _=>rfl⟩)
  obtain rfl:l=[]:=List.eq_nil_of_length_eq_zero hl
  simpa using hown
 | some ad =>
  refine wpList_append_own _ hg s x 44 hop base 3 i _ 1 8 Tryz.underlying44 h2 h3 h4 h5 rfl (by decide) v k xs hs hown ad m cap (l.map intV) hx (by rw[List.length_map,hl,Nat.mul_one]) ?_ ?_ (by unfold maxLen;omega) (by omega) b3 (fun v' w' r1 r2 _=>hK v' w' r1 r2)
  ·intro j u hj
   rw[List.getElem?_map,Option.map_eq_some_iff] at hj
   obtain⟨z,hz,rfl⟩:=hj
   have hjl:=(List.getElem?_eq_some_iff.1 hz).1
   obtain rfl:ad=⟨b,off,none⟩:=qI (ho (by omega))
   have:=hc j (by omega)
   rw[List.getD_eq_getElem?_getD,hz] at this
   rw[show(⟨b,off,none⟩:Addr).add j=⟨b,off+j,none⟩ by unfold Addr.add;split <;> simp_all,this]
   rfl
  ·intro u hu
   obtain⟨z,_,rfl⟩:=List.mem_map.1 hu
   rfl
theorem empty_row (W:World) (B base:Nat) (hB:W.heap[B]?=some (.cells #[] 3 (0,0))) (hb:base≤B):W.ownsRow base 3 1 (.slice (some ⟨B,0,none⟩) 0 0) 0 [] :=
 ⟨rfl,.inr ⟨B,0,#[],rfl,hb,hB,qL _,by unfold maxLen;omega,rfl,rfl⟩⟩
theorem heap_new2 (w:World) (o o':Obj):((w.alloc o).alloc o').heap[w.heap.size+1]?=some o':=by have:=World.alloc_heap_new (w.alloc o) o';rwa [World.size_alloc] at this
theorem Below.alloc2 (w:World) (o o':Obj):Below w.heap.size w ((w.alloc o).alloc o'):=((qB _ _).alloc (qL _) _).alloc (by simp) _
theorem refParts_args (x:Ex) (hk:x.kind=19) (o:Option Addr) (cap b off n:Nat) (hn:Hid (x.args.length=n)) (nl:n≤40000) (hcap:Hid (CapOk o cap)) (ho:Hid (0<n→o=some ⟨b,off,none⟩)) (w:World) (hc:Hid (∀j,j<n→w.cell? ⟨b,off+j,none⟩=some (.int .i64 (x.args.getD j 0)))) :
  Calls prog 46 #[.agg #[.int .i64 x.kind,.int .i64 x.a,.int .i64 x.b,.int .i64 x.c,.string x.name,.string x.state,.int .i64 x.v,.slice o n cap,.int .i64 x.pos]] w fun e w'=>NewInts (partsE x) w e w':=by
 have hpl:=Hd (partsE_19 hk)
 have hm:manyR x.kind=-1:=by unfold manyR;rw[if_pos hk]
 rw[hk] at hm ⊢
 have HM:=Hd hm
 clear hm hk
 go_enter Tryz.func46,Tryz.ntmps46
 go_wp2_with (first | (go_at_call 45;((with_reducible refine(many_any _ _).mono ?_);rintro e w1 ⟨rfl,rfl⟩;rw[HM.out])) | (at_builtin;refine wpList_append_ints _ rfl _ _ rfl w.heap.size (.slice (some ⟨w.heap.size+1,0,none⟩) 0 0) 0 [] rfl (empty_row _ _ _ (heap_new2 _ _ _) (by omega)) o n cap b off rfl hcap.out ho.out x.args hn.out (fun j hj=>cell_on (Below.alloc2 _ _ _) (hc.out j hj)) (by omega) (by simp;omega) ?_;intro v' w2 hown hg;have H1:=Hd hown;have H2:=Hd hg;clear hown hg))
 go_ret
 refine⟨_,rfl,?_,?_⟩
 ·rw[hpl.out,hn.out]
  have:=H1.out
  rwa [Nat.zero_add,List.nil_append] at this
 ·refine⟨H2.out.os,H2.out.tape,H2.out.output,Nat.le_trans (by simp;omega) H2.out.size,fun k hk=>(H2.out.block k (by simp;omega) (fun e=>by simp[Value.ownBlock] at e;omega)).trans ((Below.alloc2 w _ _).block k hk)⟩
theorem refParts_abc (x:Ex) (hk:¬x.kind=19) (s:Value) (w:World) :
  Calls prog 46 #[.agg #[.int .i64 x.kind,.int .i64 x.a,.int .i64 x.b,.int .i64 x.c,.string x.name,.string x.state,.int .i64 x.v,s,.int .i64 x.pos]] w fun e w'=>NewInts (partsE x) w e w':=by
 have hpl:=Hd (partsE_abc hk)
 have hln:=Hd (partsE_len hk)
 have hmn:=manyOf_le x.kind
 obtain⟨m,hm⟩:∃m,m=manyOf x.kind:=⟨_,rfl⟩
 have hm2:manyR x.kind=(m:Int):=by unfold manyR;rw[if_neg hk,hm]
 have HM:=Hd hm2
 rw[←hm] at hmn hpl hln
 clear hm2 hk hm
 have q0:(m:Int)≤3:=by omega
 go_enter Tryz.func46,Tryz.ntmps46
 go_wp2_with (first | (go_at_call 45;((with_reducible refine(many_any _ _).mono ?_);rintro e w1 ⟨rfl,rfl⟩;rw[HM.out])))
 go_ret
 refine⟨_,rfl,?_,Below.alloc2 _ _ _⟩
 rw[hln.out]
 refine⟨by rw[List.length_map,hln.out,Nat.mul_one],.inr ⟨w.heap.size+1,3,#[.int .i64 x.a,.int .i64 x.b,.int .i64 x.c],rfl,by omega,heap_new2 _ _ _,by omega,by unfold maxLen;omega,rfl,?_⟩⟩
 rw[hpl.out,Nat.mul_one,List.map_take]
 rfl
theorem refParts_any (x:Ex) (s:Value) (w:World) (ha:IntsAt w s x.args) (hp:(partsE x).length≤40000):Calls prog 46 #[exV x s] w fun e w'=>NewInts (partsE x) w e w':=by
 by_cases h19:x.kind=19
 ·obtain⟨o,cap,b,off,rfl,h1,h2,h3,h4⟩:=ha
  exact refParts_args x h19 o cap b off _ (Hd rfl) (by rw[partsE_19 h19] at hp;exact hp) (Hd h2) (Hd h3) w (Hd fun j hj=>by have:=h4 j hj;rwa [Nat.mul_one] at this)
 ·exact refParts_abc x h19 s w
end Go.Proofs.YtlbhlncipajapaaGreatDoor
namespace Go.Proofs.YtlbhlncipajapaaGreatDoor
open Go.RowKit Go.Shelf
attribute [local go_sem] Oper.semAt_some
def partOk (i:Nat) (p:Int):Bool:=decide (0≤p)&&decide (p<(i:Int))
def restE (x:Ex):Bool:=(namedK x.kind ==decide (x.name.size≠0))&&(decide (x.kind=20) ==decide (x.state.size≠0))&&(decide (x.kind=19)||decide (x.args.length=0))&&decide (0≤x.v)&&decide (x.v≤mostV x.kind)
theorem mayE_kind {x:Ex} {i:Nat} (h:¬(1≤x.kind∧x.kind≤21)):mayE x i=false:=by
 unfold mayE
 by_cases h1:1≤x.kind
 ·rw[qF (show ¬x.kind≤21 by omega)];simp
 ·rw[qF h1];simp
theorem mayE_parts {x:Ex} {i:Nat} {p:Int} (hp:p ∈ partsE x) (h:partOk i p=false):mayE x i=false:=by
 have:(partsE x).all (fun p=>decide (0≤p)&&decide (p<(i:Int)))=false:=by
  rw[List.all_eq_false];exact⟨p,hp,by unfold partOk at h;simpa using h⟩
 unfold mayE;rw[this];simp
theorem mayE_rest {x:Ex} {i:Nat} {p:Int} (hp:p ∈ [x.a,x.b,x.c].drop (manyOf x.kind)) (h:p≠0):mayE x i=false:=by
 have:([x.a,x.b,x.c].drop (manyOf x.kind)).all (fun p=>decide (p=0))=false:=by
  rw[List.all_eq_false];exact⟨p,hp,by simpa using h⟩
 unfold mayE;rw[this];simp
theorem mayE_last {x:Ex} {i:Nat} (h:1≤x.kind∧x.kind≤21) (hp:∀p ∈ partsE x,partOk i p=true) (hr:∀p ∈ [x.a,x.b,x.c].drop (manyOf x.kind),p=0):mayE x i=restE x:=by
 have h1:(partsE x).all (fun p=>decide (0≤p)&&decide (p<(i:Int)))=true:=by rw[List.all_eq_true];exact hp
 have h2:([x.a,x.b,x.c].drop (manyOf x.kind)).all (fun p=>decide (p=0))=true:=by rw[List.all_eq_true];intro p hpm;exact qT (hr p hpm)
 unfold mayE restE
 rw[h1,h2,qT h.1,qT h.2];simp
def MayPost (r:Bool) (w:World) (e:Ending) (w':World):Prop:=e=.returned (.bool r)∧Below w.heap.size w w'
theorem empty_size (s:ByteArray):s.toList.isEmpty=decide (s.size=0):=by
 rw[Lib.toList_data,Bool.eq_iff_iff,List.isEmpty_iff,decide_eq_true_eq]
 constructor
 ·intro h;show s.data.size=0;rw[←Array.length_toList,h];rfl
 ·intro h;exact List.eq_nil_of_length_eq_zero (by rw[Array.length_toList];exact h)
theorem restE_w (x:Ex) (nb q20 q19 ne se ae:Bool) (h1:namedK x.kind=nb) (h2:(x.kind ==20)=q20) (h3:(x.kind ==19)=q19) (h4:x.name.toList.isEmpty=!ne) (h5:x.state.toList.isEmpty=!se) (h6:decide (x.args.length=0)=ae) :
  restE x=((nb ==ne)&&(q20 ==se)&&(q19||ae)&&decide (0≤x.v)&&decide (x.v≤mostV x.kind)):=by
 have e4:decide (x.name.size≠0)=ne:=by
  rw[empty_size] at h4
  rw[show decide (x.name.size≠0)=!decide (x.name.size=0) from by simp,h4];simp
 have e5:decide (x.state.size≠0)=se:=by
  rw[empty_size] at h5
  rw[show decide (x.state.size≠0)=!decide (x.state.size=0) from by simp,h5];simp
 have e2:decide (x.kind=20)=q20:=by rw[←h2];rfl
 have e3:decide (x.kind=19)=q19:=by rw[←h3];rfl
 unfold restE
 rw[h1,e2,e3,e4,e5,h6]
end Go.Proofs.YtlbhlncipajapaaGreatDoor
namespace Go.Proofs.YtlbhlncipajapaaGreatDoor
open Go.RowKit
theorem has_any (k:Int) (w:World):Calls prog 24 #[.int .i64 k] w fun e w'=>e=.returned (.tuple #[.bool (hasE k),.bool (hasF k)])∧w'=w:=by
 by_cases h:1≤k∧k≤7
 ·have h2:k=1∨k=2∨k=3∨k=4∨k=5∨k=6∨k=7:=by omega
  clear h
  rcases h2 with rfl | rfl | rfl | rfl | rfl | rfl | rfl
  all_goals
   go_enter Tryz.func24,Tryz.ntmps24
   go_wp2_with fail
   go_ret2
   exact⟨rfl,rfl⟩
 ·have hr1:hasE k=false:=by unfold hasE;rw[qF (show ¬k=1 by omega),qF (show ¬k=4 by omega),qF (show ¬k=2 by omega),qF (show ¬k=3 by omega),qF (show ¬k=5 by omega)];rfl
  have hr2:hasF k=false:=by unfold hasF;rw[qF (show ¬k=2 by omega),qF (show ¬k=3 by omega),qF (show ¬k=5 by omega),qF (show ¬k=7 by omega)];rfl
  have e2:(k ==2)=false:=beq_false_of_ne (by omega)
  have e3:(k ==3)=false:=beq_false_of_ne (by omega)
  have e5:(k ==5)=false:=beq_false_of_ne (by omega)
  have e7:(k ==7)=false:=beq_false_of_ne (by omega)
  rw[hr1,hr2]
  clear hr1 hr2
  by_cases h1:1≤k
  ·have t1:decide (1≤k)=true:=qT h1
   have t2:decide (k≤5)=false:=qF (by omega)
   clear h h1
   go_enter Tryz.func24,Tryz.ntmps24
   go_wp2_with fail
   go_ret2
   exact⟨rfl,rfl⟩
  ·have t1:decide (1≤k)=false:=qF h1
   clear h h1
   go_enter Tryz.func24,Tryz.ntmps24
   go_wp2_with fail
   go_ret2
   exact⟨rfl,rfl⟩
theorem points_any (has:Bool) (e:Int) (n cap:Nat) (o:Option Addr) (o1:Option Addr) (m cap1:Nat) (w:World) :
  Calls prog 23 #[.agg #[.slice o1 m cap1,.slice o n cap],.int .i64 e,.bool has] w fun r w'=>r=.returned (.bool (standsE n has e))∧Below w.heap.size w w':=by
 unfold standsE
 cases has with
 | false =>
  rw[if_neg Bool.false_ne_true]
  by_cases h0:e=0
  ·subst h0
   go_enter Tryz.func23,Tryz.ntmps23
   go_wp2_with fail
   go_ret
   exact⟨rfl,below_al (qB _ _) _⟩
  ·have t:(e ==0)=false:=beq_false_of_ne h0
   rw[qF h0]
   clear h0
   go_enter Tryz.func23,Tryz.ntmps23
   go_wp2_with fail
   go_ret
   exact⟨by first | rfl | (show Ending.returned (.bool (e ==0))=_;rw[t]),below_al (qB _ _) _⟩
 | true =>
  rw[if_pos rfl]
  by_cases h0:0≤e
  ·have t:decide (0≤e)=true:=qT h0
   by_cases h1:e<(n:Int)
   ·have t1:decide (e<(n:Int))=true:=qT h1
    rw[t,t1]
    clear h0
    go_enter Tryz.func23,Tryz.ntmps23
    go_wp2_with fail
    go_ret
    exact⟨by first | rfl | simp,below_al (qB _ _) _⟩
   ·have t1:decide (e<(n:Int))=false:=qF h1
    rw[t,t1]
    clear h0
    go_enter Tryz.func23,Tryz.ntmps23
    go_wp2_with fail
    go_ret
    exact⟨by first | rfl | simp,below_al (qB _ _) _⟩
  ·have t:decide (0≤e)=false:=qF h0
   rw[t]
   clear h0
   go_enter Tryz.func23,Tryz.ntmps23
   go_wp2_with fail
   go_ret
   exact⟨by first | rfl | simp,below_al (qB _ _) _⟩
theorem own_ints {w:World} {base:Nat} {v:Value} {n:Nat} {l:List Int} (h:w.ownsRow base 3 1 v n (l.map intV)):∃g o cap,v=.slice o n cap∧(0<n→o=some ⟨g,0,none⟩)∧∀j,j<n→w.cell? ⟨g,j,none⟩=some (.int .i64 (l.getD j 0)):=by
 have hl:l.length=n:=by have:=h.1;rwa [List.length_map,Nat.mul_one] at this
 rcases h.2 with ⟨rfl,rfl⟩ | ⟨g,cap,cur,rfl,h3,h4,h5,h6,h7,h8⟩
 ·exact⟨0,none,0,rfl,by omega,by omega⟩
 ·refine⟨g,_,cap,rfl,fun _=>rfl,fun j hj=>?_⟩
  have:=h.cells (g:=g) rfl (j:=j) (u:=.int .i64 (l.getD j 0)) (by rw[List.getElem?_map,List.getElem?_eq_getElem (by omega),List.getD_eq_getElem?_getD,List.getElem?_eq_getElem (by omega)];rfl)
  rwa [show(⟨g,0,none⟩:Addr).add j=⟨g,j,none⟩ by unfold Addr.add;split <;> simp_all] at this
theorem v_zero (v:Int):((true&&decide (0≤v))&&decide (v≤0))=(v ==0):=by
 rw[Bool.eq_iff_iff];simp;omega
theorem mayE_args {x:Ex} {i:Nat} (h:¬x.args.length=0) (h19:¬x.kind=19):mayE x i=false:=by
 unfold mayE;rw[qF h,qF h19];simp
end Go.Proofs.YtlbhlncipajapaaGreatDoor
