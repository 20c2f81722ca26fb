import Derived.Test.YtpfmlfcaadnnpaaDoorPb13
import Derived.Laws.AppendOwnNone
import Derived.StillTailTactics
import Derived.BigQuiet
import Derived.Lib.QuietBelow
import Derived.Deep.RegionHeld3
import Derived.Deep.CutRange
import Derived.Outline
set_option maxHeartbeats 16000000
set_option maxRecDepth 100000
set_option linter.unusedVariables false
open Go.Proofs.Tryd(prog)
namespace Go.Proofs.YtpfmlfcaadnnpaaDoor
open Go.RowKit
theorem wpList_append_ints (w:World) {ops:Array Oper} {rest:List Oper} {o:Oper} {a:Act} {Q:Exit→Act→World→Prop}
  (hg:o.guard=none) (s x:Operand) (hop:o.op=Op.call { callee:=Callee.builtin Builtin.append,args:=#[s,x],argTypes:=#[36,36] })
  (base:Nat) (v:Value) (k:Nat) (xs:List Value) (hs:a.eval s=v) (hown:w.ownsRow base 3 1 v k xs) (oa:Option Addr) (m cap b off:Nat) (hx:a.eval x=.slice oa m cap) (hcap:CapOk oa cap) (ho:0<m→oa=some ⟨b,off,none⟩)
  (l:List Int) (hl:l.length=m) (hc:∀j,j<m→w.cell? ⟨b,off+j,none⟩=some (.int .i64 (l.getD j 0))) (hk:k+m≤1000000000) (b3:base≤w.heap.size)
  (hK:∀v' w',w'.ownsRow base 3 1 v' (k+m) (xs++l.map intV)→w.grownBy w' v.ownBlock→wpList prog ops Q rest (a.put o.dst v') w') :
  wpList prog ops Q (o :: rest) a w:=by
 obtain⟨i,h2,h3,h4,h5⟩:=info_parts aint_info
 cases oa with
 | none =>
  obtain rfl:m=0:=by rcases Nat.eq_zero_or_pos m with h | h;exact h;exact absurd (ho h) (by simp)
  obtain rfl:cap=0:=hcap.2 rfl
  refine wpList_append_own_none hg s x 36 hop base 3 i 1 Tryd.underlying36 h2 v k xs hs hown hx (hK _ _ ?_ ⟨rfl,rfl,rfl,qL _,fun _ _ _=>rfl⟩)
  obtain rfl:l=[]:=List.eq_nil_of_length_eq_zero hl
  simpa using hown
 | some ad =>
  refine wpList_append_own _ hg s x 36 hop base 3 i _ 1 8 Tryd.underlying36 h2 h3 h4 h5 rfl (by decide) v k xs hs hown ad m cap (l.map intV) hx (by rw[List.length_map,hl,Nat.mul_one]) ?_ ?_ (by unfold maxLen;omega) (by omega) b3 (fun v' w' r1 r2 _=>hK v' w' r1 r2)
  ·intro j u hj
   rw[List.getElem?_map,Option.map_eq_some_iff] at hj
   obtain⟨z,hz,rfl⟩:=hj
   have hjl:=(List.getElem?_eq_some_iff.1 hz).1
   obtain rfl:ad=⟨b,off,none⟩:=qI (ho (by omega))
   have:=hc j (by omega)
   rw[List.getD_eq_getElem?_getD,hz] at this
   rw[show(⟨b,off,none⟩:Addr).add j=⟨b,off+j,none⟩ by unfold Addr.add;split <;> simp_all,this]
   rfl
  ·intro u hu
   obtain⟨z,_,rfl⟩:=List.mem_map.1 hu
   rfl
theorem empty_row (W:World) (B base:Nat) (hB:W.heap[B]?=some (.cells #[] 3 (0,0))) (hb:base≤B):W.ownsRow base 3 1 (.slice (some ⟨B,0,none⟩) 0 0) 0 [] :=
 ⟨rfl,.inr ⟨B,0,#[],rfl,hb,hB,qL _,by unfold maxLen;omega,rfl,rfl⟩⟩
theorem heap_new2 (w:World) (o o':Obj):((w.alloc o).alloc o').heap[w.heap.size+1]?=some o':=by have:=World.alloc_heap_new (w.alloc o) o';rwa [World.size_alloc] at this
theorem Below.alloc2 (w:World) (o o':Obj):Below w.heap.size w ((w.alloc o).alloc o'):=((qB _ _).alloc (qL _) _).alloc (by simp) _
theorem refParts_args (x:Ex) (hk:x.kind=19) (o:Option Addr) (cap b off n:Nat) (hn:Hid (x.args.length=n)) (nl:n≤40000) (hcap:Hid (CapOk o cap)) (ho:Hid (0<n→o=some ⟨b,off,none⟩)) (w:World) (hc:Hid (∀j,j<n→w.cell? ⟨b,off+j,none⟩=some (.int .i64 (x.args.getD j 0)))) :
  Calls prog 12 #[.agg #[.int .i64 x.kind,.int .i64 x.a,.int .i64 x.b,.int .i64 x.c,.string x.name,.string x.state,.int .i64 x.v,.slice o n cap,.int .i64 x.pos]] w fun e w'=>NewInts (partsE x) w e w':=by
 have hpl:=Hd (partsE_19 hk)
 have hm:manyR x.kind=-1:=by unfold manyR;rw[if_pos hk]
 rw[hk] at hm ⊢
 have HM:=Hd hm
 clear hm hk
 go_enter Tryd.func12,Tryd.ntmps12
 go_wp2_with (first | (go_at_call 24;((with_reducible refine(many_any _ _).mono ?_);rintro e w1 ⟨rfl,rfl⟩;rw[HM.out])) | (at_builtin;refine wpList_append_ints _ rfl _ _ rfl w.heap.size (.slice (some ⟨w.heap.size+1,0,none⟩) 0 0) 0 [] rfl (empty_row _ _ _ (heap_new2 _ _ _) (by omega)) o n cap b off rfl hcap.out ho.out x.args hn.out (fun j hj=>cell_on (Below.alloc2 _ _ _) (hc.out j hj)) (by omega) (by simp;omega) ?_;intro v' w2 hown hg;have H1:=Hd hown;have H2:=Hd hg;clear hown hg))
 go_ret
 refine⟨_,rfl,?_,?_⟩
 ·rw[hpl.out,hn.out]
  have:=H1.out
  rwa [Nat.zero_add,List.nil_append] at this
 ·refine⟨H2.out.os,H2.out.tape,H2.out.output,Nat.le_trans (by simp;omega) H2.out.size,fun k hk=>(H2.out.block k (by simp;omega) (fun e=>by simp[Value.ownBlock] at e;omega)).trans ((Below.alloc2 w _ _).block k hk)⟩
theorem refParts_abc (x:Ex) (hk:¬x.kind=19) (s:Value) (w:World) :
  Calls prog 12 #[.agg #[.int .i64 x.kind,.int .i64 x.a,.int .i64 x.b,.int .i64 x.c,.string x.name,.string x.state,.int .i64 x.v,s,.int .i64 x.pos]] w fun e w'=>NewInts (partsE x) w e w':=by
 have hpl:=Hd (partsE_abc hk)
 have hln:=Hd (partsE_len hk)
 have hmn:=manyOf_le x.kind
 obtain⟨m,hm⟩:∃m,m=manyOf x.kind:=⟨_,rfl⟩
 have hm2:manyR x.kind=(m:Int):=by unfold manyR;rw[if_neg hk,hm]
 have HM:=Hd hm2
 rw[←hm] at hmn hpl hln
 clear hm2 hk hm
 have q0:(m:Int)≤3:=by omega
 go_enter Tryd.func12,Tryd.ntmps12
 go_wp2_with (first | (go_at_call 24;((with_reducible refine(many_any _ _).mono ?_);rintro e w1 ⟨rfl,rfl⟩;rw[HM.out])))
 go_ret
 refine⟨_,rfl,?_,Below.alloc2 _ _ _⟩
 rw[hln.out]
 refine⟨by rw[List.length_map,hln.out,Nat.mul_one],.inr ⟨w.heap.size+1,3,#[.int .i64 x.a,.int .i64 x.b,.int .i64 x.c],rfl,by omega,heap_new2 _ _ _,by omega,by unfold maxLen;omega,rfl,?_⟩⟩
 rw[hpl.out,Nat.mul_one,List.map_take]
 rfl
theorem refParts_any (x:Ex) (s:Value) (w:World) (ha:IntsAt w s x.args) (hp:(partsE x).length≤40000):Calls prog 12 #[exV x s] w fun e w'=>NewInts (partsE x) w e w':=by
 by_cases h19:x.kind=19
 ·obtain⟨o,cap,b,off,rfl,h1,h2,h3,h4⟩:=ha
  exact refParts_args x h19 o cap b off _ (Hd rfl) (by rw[partsE_19 h19] at hp;exact hp) (Hd h2) (Hd h3) w (Hd fun j hj=>by have:=h4 j hj;rwa [Nat.mul_one] at this)
 ·exact refParts_abc x h19 s w
end Go.Proofs.YtpfmlfcaadnnpaaDoor
namespace Go.Proofs.YtpfmlfcaadnnpaaDoor
open Go.RowKit Go.Shelf
attribute [local go_sem] Oper.semAt_some
end Go.Proofs.YtpfmlfcaadnnpaaDoor
namespace Go.Proofs.YtpfmlfcaadnnpaaDoor
open Go.RowKit

end Go.Proofs.YtpfmlfcaadnnpaaDoor
namespace Go.Proofs.YtpfmlfcaadnnpaaDoor
open Go.RowKit Go.Shelf
attribute [local go_sem] Oper.semAt_some
end Go.Proofs.YtpfmlfcaadnnpaaDoor
namespace Go.Proofs.YtpfmlfcaadnnpaaDoor
open Go.RowKit Go.Shelf
attribute [local go_sem] Oper.semAt_some
end Go.Proofs.YtpfmlfcaadnnpaaDoor
namespace Go.Proofs.YtpfmlfcaadnnpaaDoor
open Go.RowKit Go.Shelf
attribute [local go_sem] Oper.semAt_some
end Go.Proofs.YtpfmlfcaadnnpaaDoor
namespace Go.Proofs.YtpfmlfcaadnnpaaDoor
open Go.RowKit Go.Shelf
attribute [local go_sem] Oper.semAt_some
end Go.Proofs.YtpfmlfcaadnnpaaDoor
namespace Go.Proofs.YtpfmlfcaadnnpaaDoor
open Go.RowKit Go.Shelf

end Go.Proofs.YtpfmlfcaadnnpaaDoor
namespace Go.Proofs.YtpfmlfcaadnnpaaDoor
open Go.RowKit

end Go.Proofs.YtpfmlfcaadnnpaaDoor
namespace Go.Proofs.YtpfmlfcaadnnpaaDoor
open Go.RowKit Go.Shelf
attribute [local go_sem] Oper.semAt_some
theorem ix_il {o:Option Addr} {n cap g:Nat} (h:0<n→o=some ⟨g,0,none⟩) {j:Nat} (hj:j<n) (hn:n≤9223372036854775807):Ix 36 1 (.slice o n cap) g 0 j:=by
 intro W
 rw[h (by omega)]
 have h1:(j:Int)<(n:Int):=by omega
 have h2:(j:Int)≤9223372036854775807:=by omega
 go_simp
theorem own_sl {w:World} {base:Nat} {v:Value} {l:List Int} (h:w.ownsRow base 3 1 v l.length (l.map intV)) :
  ∃o cap g,v=.slice o l.length cap∧(0<l.length→o=some ⟨g,0,none⟩)∧∀j,j<l.length→w.cell? ⟨g,j,none⟩=some (.int .i64 (l.getD j 0)):=by
 rcases Nat.eq_zero_or_pos l.length with h0 | h0
 ·have hl:l=[]:=List.length_eq_zero_iff.1 h0
  subst hl
  rcases h.2 with ⟨rfl,_⟩ | ⟨g,cap,cur,rfl,_⟩
  ·exact⟨none,0,0,rfl,by simp,by simp⟩
  ·exact⟨some ⟨g,0,none⟩,cap,g,rfl,fun _=>rfl,by simp⟩
 ·obtain⟨m,hm⟩:∃m,l.length=m+1:=⟨l.length-1,by omega⟩
  rw[hm] at h
  obtain⟨g,cap,rfl⟩:=ownsRow_succ h
  refine⟨some ⟨g,0,none⟩,cap,g,by rw[hm],fun _=>rfl,fun j hj=>?_⟩
  have h2:=h.cells (g:=g) rfl j (intV (l.getD j 0)) (by rw[List.getElem?_map,List.getElem?_eq_getElem hj,List.getD_eq_getElem?_getD,List.getElem?_eq_getElem hj];rfl)
  have e:(⟨g,0,none⟩:Addr).add j=⟨g,j,none⟩:=by unfold Addr.add;split <;> simp_all
  rw[e] at h2
  exact h2
end Go.Proofs.YtpfmlfcaadnnpaaDoor
namespace Go.Proofs.YtpfmlfcaadnnpaaDoor
open Go.RowKit
attribute [local go_sem] Oper.semAt_some
def ErL (l m:List Ex):Prop:=m.length=l.length∧∀(i:Nat) (x:Ex),l[i]?=some x→∃z:Int,m[i]?=some ({ x with pos:=z }:Ex)
theorem ex_at_er {w:World} {b o:Nat} {x:Ex} {z:Int} (h:ExAt w b o { x with pos:=z }):∃s,w.cell? ⟨b,o,none⟩=some (.int .i64 x.kind)∧w.cell? ⟨b,o+1,none⟩=some (.int .i64 x.a)∧w.cell? ⟨b,o+2,none⟩=some (.int .i64 x.b) ∧
 w.cell? ⟨b,o+3,none⟩=some (.int .i64 x.c)∧w.cell? ⟨b,o+4,none⟩=some (.string x.name)∧w.cell? ⟨b,o+5,none⟩=some (.string x.state)∧w.cell? ⟨b,o+6,none⟩=some (.int .i64 x.v) ∧
 w.cell? ⟨b,o+7,none⟩=some s∧w.cell? ⟨b,o+8,none⟩=some (.int .i64 z)∧IntsAt w s x.args:=by
 obtain⟨s,h0,h1,h2,h3,h4,h5,h6,h7,h8,h9,_⟩:=h
 exact⟨s,h0,h1,h2,h3,h4,h5,h6,h7,h8,h9⟩
theorem two_allocE (w:World) (o1 o2:Obj):((w.alloc o1).alloc o2).heap[w.heap.size]?=some o1∧((w.alloc o1).alloc o2).heap[w.heap.size+1]?=some o2:=by
 refine⟨?_,?_⟩
 ·rw[heap_alloc_old _ _ (by simp)];exact World.alloc_heap_new w _
 ·have h:=World.alloc_heap_new (w.alloc o1) o2
  rwa [World.size_alloc] at h
theorem mayE_at {x:Ex} {i:Nat} (h:mayE x i=true) {j:Nat} (hj:j<(partsE x).length):0≤(partsE x).getD j 0∧(partsE x).getD j 0<(i:Int):=by
 unfold mayE at h
 simp only[Bool.and_eq_true,List.all_eq_true,decide_eq_true_eq] at h
 refine h.1.1.1.1.1.1.2 _ ?_
 rw[List.getD_eq_getElem?_getD,List.getElem?_eq_getElem hj]
 exact List.getElem_mem hj
theorem same_er_core (l m:List Ex) (o1 o2:Option Addr) (m1 d1 b1 f1 cap1 n m2 d2 b2 f2 cap2:Nat) (hn1:Hid (l.length=n)) (nl1:(n:Int)≤140737488351232)
  (hE:Hid (ErL l m)) (hm1:Hid (∀i x,l[i]?=some x→mayE x i=true)) (hS1:Hid (∀x ∈ l,(partsE x).length≤40000)) (w0:World)
  (hc1:Hid (∀i,i<n→∀x,l[i]?=some x→ExAt w0 b1 (f1+i*9) x)) (hc2:Hid (∀i,i<n→∀x,m[i]?=some x→ExAt w0 b2 (f2+i*9) x)) :
  ∀a:Nat,a<n→∀(W:World),Below w0.heap.size w0 W →
   Calls prog 7 #[.agg #[.slice o1 m1 d1,.slice (some ⟨b1,f1,none⟩) n cap1],.int .i64 (a:Int),.agg #[.slice o2 m2 d2,.slice (some ⟨b2,f2,none⟩) n cap2],.int .i64 (a:Int)] W fun r Y =>
    r=.returned (.bool true)∧Hid (Below W.heap.size W Y):=by
 intro a
 induction a using Nat.strongRecOn with
 | _ a ih =>
 intro ha W hW
 have IH:=Hd ih
 clear ih
 obtain⟨x,hxk⟩:∃x,l[a]?=some x:=⟨_,List.getElem?_eq_getElem (by have:=hn1.out;omega)⟩
 obtain⟨z,hyk⟩:=hE.out.2 a x hxk
 obtain⟨Wb,hWb⟩:∃Wb,Wb=(W.alloc (.cells #[.slice o1 m1 d1,.slice (some ⟨b1,f1,none⟩) n cap1] 26)).alloc (.cells #[.slice o2 m2 d2,.slice (some ⟨b2,f2,none⟩) n cap2] 26):=⟨_,rfl⟩
 have bb:Below W.heap.size W Wb:=by rw[hWb];exact((qB _ W).alloc (qL _) _).alloc (by rw[World.size_alloc];omega) _
 have pb:Wb.heap[W.heap.size]?=some (.cells #[.slice o1 m1 d1,.slice (some ⟨b1,f1,none⟩) n cap1] 26 (0,0)):=by rw[hWb];exact(two_boxes W _ _ _ _).1
 have qb:Wb.heap[W.heap.size+1]?=some (.cells #[.slice o2 m2 d2,.slice (some ⟨b2,f2,none⟩) n cap2] 26 (0,0)):=by rw[hWb];exact(two_boxes W _ _ _ _).2
 have p0:Wb.cell? ⟨W.heap.size,0,none⟩=some (.slice o1 m1 d1):=by simp[World.cell?,pb]
 have p1:Wb.cell? ⟨W.heap.size,1,none⟩=some (.slice (some ⟨b1,f1,none⟩) n cap1):=by simp[World.cell?,pb]
 have q0:Wb.cell? ⟨W.heap.size+1,0,none⟩=some (.slice o2 m2 d2):=by simp[World.cell?,qb]
 have q1:Wb.cell? ⟨W.heap.size+1,1,none⟩=some (.slice (some ⟨b2,f2,none⟩) n cap2):=by simp[World.cell?,qb]
 have hwb:=Hd (hW.trans (bb.mono hW.size))
 obtain⟨_,c0,c1,c2,c3,c4,c5,c6,c7,c8,hia,hok⟩:=(hc1.out a ha x hxk).below hwb.out
 obtain⟨_,e0,e1,e2,e3,e4,e5,e6,e7,e8,hib⟩:=ex_at_er ((hc2.out a ha _ hyk).below hwb.out)
 obtain⟨oa,capa,ba,offa,rfl,hia2⟩:=id hia
 obtain⟨ob,capb,bb2,offb,rfl,hib2⟩:=id hib
 have ix:=ix_exs (cap:=cap1) (o:=some ⟨b1,f1,none⟩) (n:=n) (b:=b1) (off:=f1) (fun _=>rfl) ha (by omega)
 have iy:=ix_exs (cap:=cap2) (o:=some ⟨b2,f2,none⟩) (n:=n) (b:=b2) (off:=f2) (fun _=>rfl) ha (by omega)
 unfold Ix at ix iy
 have HB:=Hd bb
 have HXK:=Hd hxk
 have HIA:=Hd hia
 have HIB:=Hd hib
 have HPS:=Hd (hS1.out x (List.mem_of_getElem? hxk))
 have HMX:=Hd (hm1.out a x hxk)
 clear hia2 hib2 hia hib hxk hyk bb pb qb
 go_enter Tryd.func7,Tryd.ntmps7
 go_wp2_with (fail)
 rw[←hWb]
 clear hWb
 go_cut [9,10] from 14 to 23 (fun s t wx=>∃X Y:Nat,s=.pointer (some ⟨X,0,none⟩)∧t=.pointer (some ⟨Y,0,none⟩)∧Hid (Below Wb.heap.size Wb wx) ∧
  Hid (wx.heap[X]?=some (.cells #[.int .i64 x.kind,.int .i64 x.a,.int .i64 x.b,.int .i64 x.c,.string x.name,.string x.state,.int .i64 x.v,.slice oa x.args.length capa,.int .i64 x.pos] 38 (0,0))) ∧
  Hid (wx.heap[Y]?=some (.cells #[.int .i64 x.kind,.int .i64 x.a,.int .i64 x.b,.int .i64 x.c,.string x.name,.string x.state,.int .i64 x.v,.slice ob x.args.length capb,.int .i64 z] 38 (0,0))))
 case first =>
  go_region_held3 (fun w'=>w'.cell? ⟨W.heap.size,1,none⟩=some (.slice (some ⟨b1,f1,none⟩) n cap1)∧w'.cell? ⟨W.heap.size+1,1,none⟩=some (.slice (some ⟨b2,f2,none⟩) n cap2) ∧
    w'.cell? ⟨b1,f1+a*9,none⟩=some (.int .i64 x.kind)∧w'.cell? ⟨b1,f1+a*9+1,none⟩=some (.int .i64 x.a)∧w'.cell? ⟨b1,f1+a*9+2,none⟩=some (.int .i64 x.b)∧w'.cell? ⟨b1,f1+a*9+3,none⟩=some (.int .i64 x.c)∧w'.cell? ⟨b1,f1+a*9+4,none⟩=some (.string x.name)∧w'.cell? ⟨b1,f1+a*9+5,none⟩=some (.string x.state)∧w'.cell? ⟨b1,f1+a*9+6,none⟩=some (.int .i64 x.v)∧w'.cell? ⟨b1,f1+a*9+7,none⟩=some (.slice oa x.args.length capa)∧w'.cell? ⟨b1,f1+a*9+8,none⟩=some (.int .i64 x.pos) ∧
    w'.cell? ⟨b2,f2+a*9,none⟩=some (.int .i64 x.kind)∧w'.cell? ⟨b2,f2+a*9+1,none⟩=some (.int .i64 x.a)∧w'.cell? ⟨b2,f2+a*9+2,none⟩=some (.int .i64 x.b)∧w'.cell? ⟨b2,f2+a*9+3,none⟩=some (.int .i64 x.c)∧w'.cell? ⟨b2,f2+a*9+4,none⟩=some (.string x.name)∧w'.cell? ⟨b2,f2+a*9+5,none⟩=some (.string x.state)∧w'.cell? ⟨b2,f2+a*9+6,none⟩=some (.int .i64 x.v)∧w'.cell? ⟨b2,f2+a*9+7,none⟩=some (.slice ob x.args.length capb)∧w'.cell? ⟨b2,f2+a*9+8,none⟩=some (.int .i64 z))
   (first | exact⟨p1,q1,c0,c1,c2,c3,c4,c5,c6,c7,c8,e0,e1,e2,e3,e4,e5,e6,e7,e8⟩ | ((repeat' apply And.intro) <;> first | assumption | go_keep))
   (first | fail)
  all_goals (go_wp2_with fail;go_meet)
  all_goals exact⟨_,_,rfl,rfl,Hd ((fun h:Below Wb.heap.size Wb ((Wb.alloc _).alloc _)=>⟨h.os,h.tape,h.output,h.size,h.block⟩) (((qB _ Wb).alloc (qL _) _).alloc (by rw[World.size_alloc];omega) _)),Hd (by first | exact(two_allocE _ _ _).1 | exact(two_allocE _ _ _).2),Hd (by first | exact(two_allocE _ _ _).1 | exact(two_allocE _ _ _).2)⟩
 case rest =>
  obtain⟨X,Y,rfl,rfl,hbx,hX,hY⟩:=hcut
  obtain⟨wx,hwx⟩:∃wx,wx=wc:=⟨_,rfl⟩
  rw[←hwx] at hbx hX hY ⊢
  have u0:=cell_on hbx.out p0
  have u1:=cell_on hbx.out p1
  have v0:=cell_on hbx.out q0
  have v1:=cell_on hbx.out q1
  have hxc:∀j u,(#[.int .i64 x.kind,.int .i64 x.a,.int .i64 x.b,.int .i64 x.c,.string x.name,.string x.state,.int .i64 x.v,.slice oa x.args.length capa,.int .i64 x.pos]:Array Value)[j]?=some u→wx.cell? ⟨X,j,none⟩=some u:=fun j u hu=>by simp only[World.cell?,hX.out];exact hu
  have hyc:∀j u,(#[.int .i64 x.kind,.int .i64 x.a,.int .i64 x.b,.int .i64 x.c,.string x.name,.string x.state,.int .i64 x.v,.slice ob x.args.length capb,.int .i64 z]:Array Value)[j]?=some u→wx.cell? ⟨Y,j,none⟩=some u:=fun j u hu=>by simp only[World.cell?,hY.out];exact hu
  have HWX:=Hd (hwb.out.trans (hbx.out.mono hwb.out.size))
  have s0:=hxc 0 _ rfl
  have s1:=hxc 1 _ rfl
  have s2:=hxc 2 _ rfl
  have s3:=hxc 3 _ rfl
  have s4:=hxc 4 _ rfl
  have s5:=hxc 5 _ rfl
  have s6:=hxc 6 _ rfl
  have s7:=hxc 7 _ rfl
  have s8:=hxc 8 _ rfl
  have t0:=hyc 0 _ rfl
  have t1:=hyc 1 _ rfl
  have t2:=hyc 2 _ rfl
  have t3:=hyc 3 _ rfl
  have t4:=hyc 4 _ rfl
  have t5:=hyc 5 _ rfl
  have t6:=hyc 6 _ rfl
  have t7:=hyc 7 _ rfl
  have t8:=hyc 8 _ rfl
  have CPx:Hid (∀V,Below wx.heap.size wx V→Calls prog 12 #[.agg #[.int .i64 x.kind,.int .i64 x.a,.int .i64 x.b,.int .i64 x.c,.string x.name,.string x.state,.int .i64 x.v,.slice oa x.args.length capa,.int .i64 x.pos]] V fun e w'=>NewInts (partsE x) V e w'):=Hd fun V h=>refParts_any x (.slice oa x.args.length capa) V ((HIA.out.below hbx.out).below h) HPS.out
  have CPy:Hid (∀V,Below wx.heap.size wx V→Calls prog 12 #[.agg #[.int .i64 x.kind,.int .i64 x.a,.int .i64 x.b,.int .i64 x.c,.string x.name,.string x.state,.int .i64 x.v,.slice ob x.args.length capb,.int .i64 z]] V fun e w'=>NewInts (partsE x) V e w'):=Hd fun V h=>refParts_any { x with pos:=z } (.slice ob x.args.length capb) V ((HIB.out.below hbx.out).below h) HPS.out
  clear hwx hxc hyc p0 p1 q0 q1 c0 c1 c2 c3 c4 c5 c6 c7 c8 e0 e1 e2 e3 e4 e5 e6 e7 e8 ix iy hok
  have hbd:Below wx.heap.size wx wx.drew:=⟨rfl,rfl,rfl,qL _,fun _ _=>rfl⟩
  go_wp2_with (fail)
  go_region_held3 (fun w'=>w'.cell? ⟨X,0,none⟩=some (.int .i64 x.kind)∧w'.cell? ⟨X,1,none⟩=some (.int .i64 x.a)∧w'.cell? ⟨X,2,none⟩=some (.int .i64 x.b)∧w'.cell? ⟨X,3,none⟩=some (.int .i64 x.c)∧w'.cell? ⟨X,4,none⟩=some (.string x.name)∧w'.cell? ⟨X,5,none⟩=some (.string x.state)∧w'.cell? ⟨X,6,none⟩=some (.int .i64 x.v)∧w'.cell? ⟨X,7,none⟩=some (.slice oa x.args.length capa)∧w'.cell? ⟨X,8,none⟩=some (.int .i64 x.pos) ∧
    w'.cell? ⟨Y,0,none⟩=some (.int .i64 x.kind)∧w'.cell? ⟨Y,1,none⟩=some (.int .i64 x.a)∧w'.cell? ⟨Y,2,none⟩=some (.int .i64 x.b)∧w'.cell? ⟨Y,3,none⟩=some (.int .i64 x.c)∧w'.cell? ⟨Y,4,none⟩=some (.string x.name)∧w'.cell? ⟨Y,5,none⟩=some (.string x.state)∧w'.cell? ⟨Y,6,none⟩=some (.int .i64 x.v)∧w'.cell? ⟨Y,7,none⟩=some (.slice ob x.args.length capb)∧w'.cell? ⟨Y,8,none⟩=some (.int .i64 z))
   (first | exact⟨s0,s1,s2,s3,s4,s5,s6,s7,s8,t0,t1,t2,t3,t4,t5,t6,t7,t8⟩ | exact⟨cell_on hb3 s0,cell_on hb3 s1,cell_on hb3 s2,cell_on hb3 s3,cell_on hb3 s4,cell_on hb3 s5,cell_on hb3 s6,cell_on hb3 s7,cell_on hb3 s8,cell_on hb3 t0,cell_on hb3 t1,cell_on hb3 t2,cell_on hb3 t3,cell_on hb3 t4,cell_on hb3 t5,cell_on hb3 t6,cell_on hb3 t7,cell_on hb3 t8⟩ | ((repeat' apply And.intro) <;> first | exact cell_on hb4 (cell_on hb3 (by assumption))))
   (first | (go_at_call_of 12 oa;refine(CPx.out _ hbd).mono ?_;rintro e w3 ⟨va,rfl,hra,hb3⟩) | (go_at_call_of 12 ob;refine(CPy.out _ (hbd.trans hb3)).mono ?_;rintro e w4 ⟨vb,rfl,hrb,hb4⟩))
  skip
  rename_i hK4
  obtain⟨ka1,ka2,ka3,ka4,ka5,ka6,ka7,ka8,ka9,kb1,kb2,kb3,kb4,kb5,kb6,kb7,kb8,kb9⟩:=hK4
  obtain⟨oxa,cxa,gxa,rfl,hoxa,hcxa⟩:=own_sl hra
  obtain⟨oyb,cyb,gyb,rfl,hoyb,hcyb⟩:=own_sl hrb
  obtain⟨nx,hnx⟩:∃nx,nx=(partsE x).length:=⟨_,rfl⟩
  have hsx:=HPS.out
  rw[←hnx] at hoxa hcxa hoyb hcyb hsx ⊢
  have HX1:=Hd fun j hj=>cell_on hb4 (hcxa j hj)
  have HY1:=Hd hcyb
  have HX0:=Hd hoxa
  have HY0:=Hd hoyb
  have HNX:=Hd hnx
  have hcell:∀(g o:Nat) (u:Value),wx.cell? ⟨g,o,none⟩=some u→w4.cell? ⟨g,o,none⟩=some u:=fun g o u hu=>cell_on hb4 (cell_on hb3 hu)
  have U0:=hcell _ _ _ u0
  have U1:=hcell _ _ _ u1
  have V0:=hcell _ _ _ v0
  have V1:=hcell _ _ _ v1
  have HB4:=Hd ((hbd.trans hb3).trans (hb4.mono hb3.size))
  clear hra hrb hb3 hb4 hcell s0 s1 s2 s3 s4 s5 s6 s7 s8 t0 t1 t2 t3 t4 t5 t6 t7 t8 hoxa hcxa hoyb hcyb u0 u1 v0 v1 hnx hbd CPx CPy
  have HBW:=Hd ((HB.out.trans (hbx.out.mono HB.out.size)).trans (HB4.out.mono (Nat.le_trans HB.out.size hbx.out.size)))
  clear ka2 ka3 ka4 ka8 ka9 kb2 kb3 kb4 kb8 kb9
  have z1:(x.kind !=x.kind)=false:=by simp
  have z2:(x.name.toList ==x.name.toList)=true:=by simp
  have z3:(x.state.toList ==x.state.toList)=true:=by simp
  have z4:(x.v !=x.v)=false:=by simp
  have z5:((nx:Int) !=(nx:Int))=false:=by simp
  go_wp2_with (fail)
  clear z1 z2 z3 z4 z5 ka1 ka5 ka6 ka7 kb1 kb5 kb6 kb7
  have HMP:Hid (∀j,j<nx→0≤(partsE x).getD j 0∧(partsE x).getD j 0<(a:Int)):=Hd fun j hj=>mayE_at HMX.out (by rw[←HNX.out];exact hj)
  have HW4:Hid (Below w0.heap.size w0 w4):=Hd (HWX.out.trans (HB4.out.mono HWX.out.size))
  have HU0:=Hd U0
  have HU1:=Hd U1
  have HV0:=Hd V0
  have HV1:=Hd V1
  clear U0 U1 V0 V1
  go_loopw [13] (fun i wr=>∃(c:Nat),i=.int .i64 (c:Int)∧c≤nx∧Hid (Below w4.heap.size w4 wr)) (fun i _=>nx-litLen i)
  case atStart=>exact⟨0,rfl,Nat.zero_le _,Hd (qB _ _)⟩
  case round =>
   obtain⟨c,rfl,hc,hWr⟩:=hrel
   rcases Nat.lt_or_ge c nx with hlt | hge
   ·have hl:(c:Int)<(nx:Int):=by omega
    have u0:=cell_on hWr.out HU0.out
    have u1:=cell_on hWr.out HU1.out
    have v0:=cell_on hWr.out HV0.out
    have v1:=cell_on hWr.out HV1.out
    have r1:=cell_on hWr.out (HX1.out c hlt)
    have r2:=cell_on hWr.out (HY1.out c hlt)
    have ix1:=ix_il (cap:=cxa) HX0.out hlt (by omega)
    have ix2:=ix_il (cap:=cyb) HY0.out hlt (by omega)
    unfold Ix at ix1 ix2
    obtain⟨m0,m1⟩:=HMP.out c hlt
    obtain⟨e,he⟩:=Int.eq_ofNat_of_zero_le m0
    have hbd:Below wr.heap.size wr wr.drew:=⟨rfl,rfl,rfl,qL _,fun _ _=>rfl⟩
    have hwr:Below w0.heap.size w0 wr:=HW4.out.trans (hWr.out.mono HW4.out.size)
    have C:=Hd (IH.out e (by omega) (by omega) wr.drew (hwr.trans (hbd.mono hwr.size)))
    rw[he] at r1 r2
    have HBD:=Hd hbd
    clear he m0 m1 hwr
    go_wp2_with (fail)
    go_region_held3 (fun w'=>w'.cell? ⟨W.heap.size,0,none⟩=some (.slice o1 m1 d1)∧w'.cell? ⟨W.heap.size,1,none⟩=some (.slice (some ⟨b1,f1,none⟩) n cap1)∧w'.cell? ⟨W.heap.size+1,0,none⟩=some (.slice o2 m2 d2)∧w'.cell? ⟨W.heap.size+1,1,none⟩=some (.slice (some ⟨b2,f2,none⟩) n cap2)∧w'.cell? ⟨gxa,c,none⟩=some (.int .i64 (e:Int))∧w'.cell? ⟨gyb,c,none⟩=some (.int .i64 (e:Int)))
     (first | exact⟨u0,u1,v0,v1,r1,r2⟩ | exact⟨cell_on hb5.out u0,cell_on hb5.out u1,cell_on hb5.out v0,cell_on hb5.out v1,cell_on hb5.out r1,cell_on hb5.out r2⟩)
     (first | (go_at_call 7;refine C.out.mono ?_;rintro r w5 ⟨rfl,hb5⟩))
    clear u0 u1 v0 v1 r1 r2 ix1 ix2 C IH
    have HB6:=Hd (hWr.out.trans ((HBD.out.trans hb5.out).mono hWr.out.size))
    go_wp2_with (fail)
    exact⟨⟨c+1,by go_num,by omega,HB6⟩,by simp[litLen];omega⟩
   ·obtain rfl:c=nx:=by omega
    have hno:¬(c:Int)<(c:Int):=by omega
    clear IH hge
    go_wp2_with (fail)
    go_ret
    exact⟨rfl,Hd (HBW.out.trans (hWr.out.mono HBW.out.size))⟩
theorem same_er (l m:List Ex) (o1 o2:Option Addr) (m1 d1 m2 d2:Nat) (s t:Value) (w0:World) (hs:ExsAt w0 s l) (ht:ExsAt w0 t m) (hE:ErL l m) (hg:∀i x,l[i]?=some x→mayE x i=true) (hS:∀x ∈ l,(partsE x).length≤40000) (hl:l.length≤reachN)
  (a:Nat) (ha:a<l.length) (W:World) (hW:Below w0.heap.size w0 W) :
  Calls prog 7 #[.agg #[.slice o1 m1 d1,s],.int .i64 (a:Int),.agg #[.slice o2 m2 d2,t],.int .i64 (a:Int)] W fun r Y=>r=.returned (.bool true)∧Hid (Below W.heap.size W Y):=by
 obtain⟨ox,capx,bx,fx,rfl,_,_,e1,c1⟩:=hs
 obtain⟨oy,capy,yb,fy,rfl,_,_,e2,c2⟩:=ht
 have hn:=hE.1
 rw[hn] at e2 c2 ⊢
 obtain rfl:=e1 (by omega)
 obtain rfl:=e2 (by omega)
 exact same_er_core l m o1 o2 m1 d1 bx fx capx l.length m2 d2 yb fy capy (Hd rfl) (by unfold reachN at hl;omega) (Hd hE) (Hd hg) (Hd hS) w0 (Hd c1) (Hd c2) a ha W hW
end Go.Proofs.YtpfmlfcaadnnpaaDoor
namespace Go.Proofs.YtpfmlfcaadnnpaaDoor
open Go.RowKit Lx
theorem er_of_map {p q:List Ex} (h:p.map (mX fun _=>0)=q.map (mX fun _=>0)):ErL p q:=by
 have hl:q.length=p.length:=by have:=congrArg List.length h;simpa using this.symm
 refine⟨hl,fun i x hx=>?_⟩
 have h1:(p.map (mX fun _=>0))[i]?=some (mX (fun _=>0) x):=by rw[List.getElem?_map,hx];rfl
 rw[h,List.getElem?_map] at h1
 cases hy:q[i]? with
 | none=>rw[hy] at h1;cases h1
 | some y =>
  rw[hy] at h1
  have h2:mX (fun _=>0) y=mX (fun _=>0) x:=qI h1
  refine⟨y.pos,?_⟩
  cases x
  cases y
  simp only[mX,Ex.mk.injEq] at h2
  simp[h2]
theorem brack_calls (l:List UInt8) (hl:l.length≤400):∃(p q r:List Ex) (c1 f1 c2 f2 c3 f3:Int),
  (∀W,Signs W→Calls prog 6 #[.string (str l)] W fun e Y=>ExprX p c1 f1 W e Y) ∧
  (∀W,Signs W→Calls prog 6 #[.string (str (40 :: (l++[10,41])))] W fun e Y=>ExprX q c2 f2 W e Y) ∧
  (∀W,Signs W→Calls prog 6 #[.string (str (l++[10,41]))] W fun e Y=>ExprX r c3 f3 W e Y) ∧
  (¬c1=0∨(c1=0∧c2=3)∨(c1=0∧c2=0∧c3=2∧f3=(l.length:Int)+1∧0<p.length∧p.length≤20001∧AllGood p∧AllGood q∧(∀x ∈ p,(partsE x).length≤40000)∧ErL p q)):=by
 obtain⟨q2,cd2,g2,h2⟩:=exprs_some (40 :: (l++[10,41])) (by simp;omega)
 obtain⟨q3,cd3,g3,h3⟩:=exprs_some (l++[10,41]) (by simp;omega)
 obtain⟨ts,r,ht⟩:∃ts r,lexT l ts r:=toks_all l _
 cases r with
 | some f =>
  exact⟨[],q2,q3,1,(f:Int),cd2,g2,cd3,g3,fun W hS=>expr_call _ _ _ _ (by simp) W (Hd fun W2 hb=>(read_lex (str l) _ 1 f (by decide) W2 (Hd fun W3 hb3=>(lex_bad l ts f ht (by omega) W3 ((hS.below hb).below hb3)).mono fun e w' h=>h)).mono fun r Y h=>readX_none h),
   h2,h3,.inl (by decide)⟩
 | none =>
  obtain⟨f,v,lx,τ,hr,hlt,a1,a2,a3⟩:=expr_text l ts ht (by omega)
  by_cases h0:τ.code=0
  ·by_cases h5:(tokL (ts++[endT l.length]) τ.at_).kind=5
   ·obtain⟨b1,b2,_,b4,b5,b6⟩:=a1 h0 h5
    rcases expr_brackets ht (by omega) hr h0 hlt h5 with ⟨p,hp⟩ | ⟨es,he,hel,hg,hpa,hc⟩
    ·exact⟨_,_,q3,_,_,_,_,cd3,g3,b6,hp,h3,.inr (.inl ⟨rfl,rfl⟩)⟩
    ·exact⟨_,_,_,_,_,_,_,_,_,b6,hc,fun W hS=>expr_behind ht (by omega) hr h0 hlt h5 W hS,.inr (.inr ⟨rfl,rfl,rfl,rfl,b2,b1,b4,hg,b5,er_of_map he.symm⟩)⟩
   ·exact⟨_,q2,q3,_,_,cd2,g2,cd3,g3,a2 h0 h5,h2,h3,.inl (by decide)⟩
  ·exact⟨_,q2,q3,_,_,cd2,g2,cd3,g3,a3 h0,h2,h3,.inl h0⟩
end Go.Proofs.YtpfmlfcaadnnpaaDoor
namespace Go.Proofs.YtpfmlfcaadnnpaaDoor
open Go.RowKit Lx
def alL:List UInt8:=[49,32,43,32,50,32,42,32,120]
def alT:List Tok:=[tokAt alL 0,tokAt alL 2,tokAt alL 4,tokAt alL 6,tokAt alL 8]
def alU:List Tok:=[⟨2,[49],4294967296,0⟩,⟨4,[43],0,2⟩,⟨2,[50],8589934592,4⟩,⟨4,[42],0,6⟩,⟨1,[120],0,8⟩]
theorem al_lex:lexT alL alT none:=by
 unfold lexT alT
 rw[show gapTo false alL 0=0 by decide +kernel]
 refine .tok (by decide) (by decide +kernel) ?_
 rw[show gapTo false alL (0+(tokAt alL 0).text.length)=2 by decide +kernel]
 refine .tok (by decide) (by decide +kernel) ?_
 rw[show gapTo false alL (2+(tokAt alL 2).text.length)=4 by decide +kernel]
 refine .tok (by decide) (by decide +kernel) ?_
 rw[show gapTo false alL (4+(tokAt alL 4).text.length)=6 by decide +kernel]
 refine .tok (by decide) (by decide +kernel) ?_
 rw[show gapTo false alL (6+(tokAt alL 6).text.length)=8 by decide +kernel]
 refine .tok (by decide) (by decide +kernel) ?_
 rw[show gapTo false alL (8+(tokAt alL 8).text.length)=9 by decide +kernel]
 exact .fin (by decide)
theorem al_toks:alT=alU:=by
 have h0:tokAt alL 0=⟨2,[49],4294967296,0⟩:=by kernel_rfl
 have h1:tokAt alL 2=⟨4,[43],0,2⟩:=by kernel_rfl
 have h2:tokAt alL 4=⟨2,[50],8589934592,4⟩:=by kernel_rfl
 have h3:tokAt alL 6=⟨4,[42],0,6⟩:=by kernel_rfl
 have h4:tokAt alL 8=⟨1,[120],0,8⟩:=by kernel_rfl
 unfold alT alU
 rw[h0,h1,h2,h3,h4]
def alX:List Ex:=[{ ex0 with kind:=1,v:=4294967296,pos:=0 },{ ex0 with kind:=1,v:=8589934592,pos:=4 },{ ex0 with kind:=3,name:=str [120],pos:=8 },{ ex0 with kind:=8,a:=1,b:=2,pos:=6 },{ ex0 with kind:=6,a:=0,b:=3,pos:=2 }]
theorem al_run:∃lx,runE (alT++[endT alL.length]) 20 .expr rs0=some (4,lx,⟨5,alX,0,0,0⟩):=by
 rw[al_toks]
 exact⟨[],by kernel_rfl⟩
end Go.Proofs.YtpfmlfcaadnnpaaDoor
namespace Go.Proofs.YtpfmlfcaadnnpaaDoor
open Go.RowKit Lx
theorem flatMap_get {α:Type} {enc:α→List Value} {s:Nat} (hs:∀x,(enc x).length=s):∀(l:List α) (i:Nat) (x:α) (j:Nat) (u:Value),l[i]?=some x→(enc x)[j]?=some u→(l.flatMap enc)[i*s+j]?=some u
 | [],i,x,j,u,h,_=>by cases h
 | y :: l,0,x,j,u,h,hu=>by
  cases h
  have hj:j<(enc y).length:=(List.getElem?_eq_some_iff.1 hu).1
  rw[List.flatMap_cons,Nat.zero_mul,Nat.zero_add,List.getElem?_append_left hj];exact hu
 | y :: l,i+1,x,j,u,h,hu=>by
  have h2:l[i]?=some x:=by simpa using h
  have hy:=hs y
  rw[List.flatMap_cons,List.getElem?_append_right (by rw[hy,Nat.add_mul];omega),hy]
  have:=flatMap_get hs l i x j u h2 hu
  rw[show(i+1)*s+j-s=i*s+j by rw[Nat.add_mul];omega]
  exact this
theorem own_slAt {α:Type} {W:World} {B:Nat} {T:TypeId} {s:Nat} {v:Value} {l:List α} {enc:α→List Value} (hs:∀x,(enc x).length=s) (h:W.ownsRow B T s v l.length (l.flatMap enc)) :
  SlAt v l.length s fun b o i=>∀x,l[i]?=some x→∀j u,(enc x)[j]?=some u→W.cell? ⟨b,o+j,none⟩=some u:=by
 rcases h.2 with ⟨rfl,h0⟩ | ⟨g,cap,cur,rfl,hb,hg,hnc,hcm,hcs,htk⟩
 ·rw[h0];exact slAt_none _ _ _ _ _ ⟨Nat.zero_le _,fun _=>rfl⟩ rfl
 ·refine slAt_some hnc hcm fun i hi x hx j u hu=>?_
  have h1:=flatMap_get hs l i x j u hx hu
  rw[←htk,List.getElem?_take] at h1
  split at h1
  ·rw[Array.getElem?_toList] at h1
   simp[World.cell?,hg,h1]
  ·cases h1
theorem ints_own {W:World} {B:Nat} {v:Value} {l:List Int} (h:W.ownsRow B 3 1 v l.length (l.map intC)):IntsAt W v l:=by
 rw[List.map_eq_flatMap] at h
 exact(own_slAt (enc:=fun n=>[intC n]) (fun _=>rfl) h).mono fun b o i hi hx=>by
  obtain⟨x,hx'⟩:∃x,l[i]?=some x:=⟨_,List.getElem?_eq_getElem hi⟩
  have:=hx x hx' 0 _ rfl
  rw[List.getD_eq_getElem?_getD,hx'];exact this
theorem exs_own {W:World} {b:Nat} {xb:Nat→Prop} {v:Value} {l:List Ex} (h:ExsOwn W b xb v l) (hg:AllGood l):ExsAt W v l:=by
 obtain⟨q,rfl,h2,h3⟩:=h
 rw[List.length_map] at h2
 unfold ExsAt
 rw[List.length_map]
 refine(own_slAt (enc:=fun p:Ex×Value=>exC p.1 p.2) (fun _=>rfl) h2).mono fun b o i hi hx x hx2=>?_
 rw[List.getElem?_map] at hx2
 obtain⟨p,hp,rfl⟩:=Option.map_eq_some_iff.1 hx2
 have c:=hx p hp
 refine⟨p.2,c 0 _ rfl,c 1 _ rfl,c 2 _ rfl,c 3 _ rfl,c 4 _ rfl,c 5 _ rfl,c 6 _ rfl,c 7 _ rfl,c 8 _ rfl,ints_own (h3 p (List.mem_of_getElem? hp)).1,?_⟩
 exact(hg i p.1 (by rw[List.getElem?_map,hp];rfl)).2
def AlAt (w:World) (r:Ending) (Y:World):Prop :=
 ∃b off c,r=.returned (.tuple #[.agg #[.slice none 0 0,.slice (some ⟨b,off,none⟩) 5 c],.int .i64 4,.agg #[.int .i64 0,.int .i64 0]])∧Hid (Below w.heap.size w Y∧Y.cell? ⟨b,off+2*9+4,none⟩=some (.string ⟨#[120]⟩)∧Y.cell? ⟨b,off+3*9,none⟩=some (.int .i64 8))
theorem al_good:AllGood alX:=by
 intro i x hx
 have hi:i<5:=by
  rcases Nat.lt_or_ge i 5 with h | h
  ·exact h
  ·rw[List.getElem?_eq_none (by exact h)] at hx;cases hx
 have hm:∀y,mayE y i=true→ExOk y→GoodX y i:=fun y h1 h2=>⟨h1,h2⟩
 match i,hi with
 | 0,_=>cases hx;exact hm _ (by decide) ⟨by unfold i64ok;decide,by unfold i64ok;decide,by unfold i64ok;decide,by unfold i64ok;decide,by unfold i64ok;decide,by decide,by decide,by decide,fun n hn=>by cases hn⟩
 | 1,_=>cases hx;exact hm _ (by decide) ⟨by unfold i64ok;decide,by unfold i64ok;decide,by unfold i64ok;decide,by unfold i64ok;decide,by unfold i64ok;decide,by decide,by decide,by decide,fun n hn=>by cases hn⟩
 | 2,_=>cases hx;exact hm _ (by decide) ⟨by unfold i64ok;decide,by unfold i64ok;decide,by unfold i64ok;decide,by unfold i64ok;decide,by unfold i64ok;decide,by decide,by decide,by decide,fun n hn=>by cases hn⟩
 | 3,_=>cases hx;exact hm _ (by decide) ⟨by unfold i64ok;decide,by unfold i64ok;decide,by unfold i64ok;decide,by unfold i64ok;decide,by unfold i64ok;decide,by decide,by decide,by decide,fun n hn=>by cases hn⟩
 | 4,_=>cases hx;exact hm _ (by decide) ⟨by unfold i64ok;decide,by unfold i64ok;decide,by unfold i64ok;decide,by unfold i64ok;decide,by unfold i64ok;decide,by decide,by decide,by decide,fun n hn=>by cases hn⟩
theorem al_expr (w:World) (hS:Signs w):Calls prog 6 #[.string ⟨#[49,32,43,32,50,32,42,32,120]⟩] w fun r Y=>AlAt w r Y:=by
 obtain⟨lx,hr⟩:=al_run
 refine(expr_run al_lex (by decide) hr rfl (by rw[al_toks];decide) (by decide) w hS).mono fun r Y ⟨o,c,h1,h2,h3⟩=>?_
 obtain⟨o',cap,b,off,e0,e1,_,e2,e3⟩:=exs_own h2 al_good
 cases e0
 have e4:=e2 (by decide)
 subst e4
 obtain⟨_,_,_,_,_,a4,_⟩:=e3 2 (by decide) _ rfl
 obtain⟨_,b0,_⟩:=e3 3 (by decide) _ rfl
 exact⟨b,off,c,h1,Hd ⟨h3,a4,b0⟩⟩
theorem alive_px (w:World) (hS:Signs w):Calls prog 5 #[] w fun r Y=>r=.returned (.bool true)∧Below w.heap.size w Y:=by
 have C:=Hd (al_expr w hS)
 unfold AlAt at C
 go_enter Tryd.func5,Tryd.ntmps5
 go_wp2_with (go_at_call 6;(with_reducible refine C.out.mono ?_);rintro e w2 ⟨b,off,c,rfl,h2⟩;have a4:=h2.out.2.1;have b0:=h2.out.2.2;have hb:=World.block_lt_of_cell? _ _ a4)
 go_ret
 exact⟨rfl,(h2.out.1.alloc h2.out.1.size _).alloc (h2.out.1.alloc h2.out.1.size _).size _⟩
end Go.Proofs.YtpfmlfcaadnnpaaDoor
