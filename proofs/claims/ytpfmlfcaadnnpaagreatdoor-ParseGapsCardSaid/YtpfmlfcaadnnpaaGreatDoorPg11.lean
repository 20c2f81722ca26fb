import Derived.Test.YtpfmlfcaadnnpaaGreatDoorPg10
import Derived.Deep.RegionHeld2
import Derived.Deep.CutRange
import Derived.Deep.CutBlock
import Derived.Deep.RegionHeld3
set_option maxHeartbeats 16000000
set_option maxRecDepth 100000
set_option linter.unusedVariables false
open Go.Proofs.Tryz(prog)
namespace Go.Proofs.YtpfmlfcaadnnpaaGreatDoor
open Go.RowKit Lx
theorem Cd.butX {W Y:World} {b g cap:Nat} {dv:Value} {ts:List Tok} {xb:Nat→Prop} {σ:RS} (h:Cd W b g cap dv ts xb σ) {A:Nat} (hA:xb A) (hb:b<A) (hy:But A W Y):Cd Y b g cap dv ts xb σ:=by
 have hs:=h.size
 obtain⟨o,c,hc,⟨q,q1,q2,q3⟩,h3⟩:=h.blk
 exact⟨fun k hk=>Nat.lt_of_lt_of_le (h.xlt k hk) hy.size,⟨o,c,(hy.block b (by omega) hs).trans hc,⟨q,q1,rd_own_same q2 fun k e=>hy.block k (fun e2=>h3 k e (by rw[e2];exact hA)) (q2.lt k e).2,fun p hp=>⟨rd_own_same (q3 p hp).1 fun k e=>hy.block k (fun e2=>(q3 p hp).2 k e (by rw[e2];exact hA)) ((q3 p hp).1.lt k e).2,(q3 p hp).2⟩⟩,h3⟩,h.xnb,row_low h.row (hy.block g (by have:=h.lt;omega) (by have:=h.lt;omega)),h.lt,h.at_,h.len,h.cp,h.ends,h.tx⟩
def xbA (xb:Nat→Prop) (A:Nat):Nat→Prop:=fun k=>xb k∨k=A
theorem Cd.newX {W:World} {b g cap:Nat} {dv:Value} {ts:List Tok} {xb:Nat→Prop} {σ:RS} (h:Cd W b g cap dv ts xb σ) (o:Obj):Cd (W.alloc o) b g cap dv ts (xbA xb W.heap.size) σ:=by
 have hs:=h.size
 have h':=h.alloc o
 obtain⟨oo,c,hc,⟨q,q1,q2,q3⟩,h3⟩:=h.blk
 have hb:Below W.heap.size W (W.alloc o):=(qB _ _).alloc (qL _) o
 refine⟨fun k hk=>?_,⟨oo,c,(hb.block b hs).trans hc,⟨q,q1,rd_own_same q2 fun k e=>hb.block k (q2.lt k e).2,fun p hp=>⟨rd_own_same (q3 p hp).1 fun k e=>hb.block k ((q3 p hp).1.lt k e).2,fun k e hx=>?_⟩⟩,fun k e hx=>?_⟩,fun hx=>?_,h'.row,h.lt,h.at_,h.len,h.cp,h.ends,h.tx⟩
 ·rcases hk with hk | hk
  ·exact h'.xlt k hk
  ·rw[hk];simp
 ·rcases hx with hx | hx
  ·exact(q3 p hp).2 k e hx
  ·have:=((q3 p hp).1.lt k e).2;omega
 ·rcases hx with hx | hx
  ·exact h3 k e hx
  ·have:=(q2.lt k e).2;omega
 ·rcases hx with hx | hx
  ·exact h.xnb hx
  ·omega
theorem Cd.less {W:World} {b g cap:Nat} {dv:Value} {ts:List Tok} {xb xb':Nat→Prop} {σ:RS} (h:Cd W b g cap dv ts xb' σ) (hx:∀k,xb k→xb' k):Cd W b g cap dv ts xb σ:=by
 obtain⟨o,c,hc,⟨q,q1,q2,q3⟩,h3⟩:=h.blk
 exact⟨fun k hk=>h.xlt k (hx k hk),⟨o,c,hc,⟨q,q1,q2,fun p hp=>⟨(q3 p hp).1,fun k e hk=>(q3 p hp).2 k e (hx k hk)⟩⟩,fun k e hk=>h3 k e (hx k hk)⟩,fun hk=>h.xnb (hx b hk),h.row,h.lt,h.at_,h.len,h.cp,h.ends,h.tx⟩
theorem RX.less {b:Nat} {xb xb':Nat→Prop} {W Y:World} (h:RX b xb' W Y) (hx:∀k,xb k→xb' k):RX b xb W Y:=⟨h.rk,fun k hk=>h.xs k (hx k hk)⟩
theorem xbA_le (xb:Nat→Prop) (A:Nat):∀k,xb k→xbA xb A k:=fun k hk=>.inl hk
theorem behind_rule (b g cap:Nat) (dv:Value) (ts:List Tok) (xb:Nat→Prop) (F f:Nat) (j:Job) (hF:∀args w,(callFunc F args).run prog w=.ok (.enter F args) w) (I:RuleC b g cap dv ts xb F f j) (σ:RS) (hc:σ.code=0) (s:List UInt8) (hs:s ∈ sgL) (v:Int) (l:List Int) (τ:RS) (hr:runE ts f j (wantS ts s σ)=some (v,l,τ)) (W:World) (h:Hid (Cd W b g cap dv ts xb σ)) :
  Calls prog 65 #[.pointer (some ⟨b,0,none⟩),.string (str s),.func (.func F) #[.pointer (some ⟨b,0,none⟩)] #[]] W fun r Y=>CdRet b g cap dv ts xb W (.int .i64 v) τ r Y:=by
 refine behind_int b g cap dv ts xb σ s F _ W h hc hs hF (fun hw r Y hh=>hh.ret hw (stuck ts f j _ _ hr)) fun hw W' h' hk=>?_
 exact(I (wantS ts s σ) v l τ hw hr W' h').mono fun r Y hh=>⟨hk.out.trans hh.1,hh.2⟩
theorem nine_of {W:World} {k:Nat} {x0 x1 x2 x3 x4 x5 x6 x7 x8:Value} {T:TypeId} (h:W.heap[k]?=some (.cells #[x0,x1,x2,x3,x4,x5,x6,x7,x8] T (0,0))) :
  (W.cell? ⟨k,0,none⟩=some x0∧W.cell? ⟨k,1,none⟩=some x1∧W.cell? ⟨k,2,none⟩=some x2∧W.cell? ⟨k,3,none⟩=some x3∧W.cell? ⟨k,4,none⟩=some x4∧W.cell? ⟨k,5,none⟩=some x5∧W.cell? ⟨k,6,none⟩=some x6∧W.cell? ⟨k,7,none⟩=some x7∧W.cell? ⟨k,8,none⟩=some x8)∧∀i,W.frozen? ⟨k,i,none⟩=false :=
 ⟨⟨by simp[World.cell?,h],by simp[World.cell?,h],by simp[World.cell?,h],by simp[World.cell?,h],by simp[World.cell?,h],by simp[World.cell?,h],by simp[World.cell?,h],by simp[World.cell?,h],by simp[World.cell?,h]⟩,fun i=>by simp[World.frozen?,h]⟩
theorem choice_any (b g cap:Nat) (dv:Value) (ts:List Tok) (xb:Nat→Prop) (f:Nat) (IE:∀xb,RuleC b g cap dv ts xb 26 f .expr) (x:RS) (hc:x.code=0) (hi:isS ts [105,102] x=true)
  (va vb vc:Int) (la lb lc:List Int) (s2 s3 s4:RS) (r1:runE ts f .expr (stepS x)=some (va,la,s2)) (r2:runE ts f .expr (wantS ts [116,104,101,110] s2)=some (vb,lb,s3)) (r3:runE ts f .expr (wantS ts [101,108,115,101] s3)=some (vc,lc,s4)) (ok:okS s4=true)
  (W:World) (h:Hid (Cd W b g cap dv ts xb x)) :
  Calls prog 50 #[.pointer (some ⟨b,0,none⟩)] W fun r Y=>CdRet b g cap dv ts xb W (.int .i64 (s4.exprs.length:Int)) (putS { ex0 with kind:=15,a:=va,b:=vb,c:=vc,pos:=((tokL ts x.at_).at_:Int) } s4) r Y:=by
 obtain⟨o,c,⟨c0,c1,c2,c3,fr⟩,hx⟩:=h.out.cells
 obtain⟨t0,t1,t2,t3⟩:=h.out.tok
 have hl:=h.out.at_
 have hbs:=h.out.size
 have hgs:g<W.heap.size:=by have:=h.out.lt;omega
 have S2:=Hd ((stuck ts f .expr _ _ r2))
 have S3:=Hd ((stuck ts f .expr _ _ r3))
 have SW2:=Hd (stays_want ts [116,104,101,110] s2)
 have SW3:=Hd (stays_want ts [101,108,115,101] s3)
 obtain⟨P,hP⟩:∃P,P=(tokL ts x.at_).at_:=⟨_,rfl⟩
 obtain⟨m,hmm⟩:∃m,m=ts.length-x.at_:=⟨_,rfl⟩
 obtain⟨a4,haa⟩:∃a4,a4=x.at_*4:=⟨_,rfl⟩
 rw[←hmm,←haa] at c0
 rw[←hP,←haa] at t3
 rw[←hP]
 have k0:(0:Int)<(m:Int):=by omega
 obtain⟨xb',hxb'⟩:∃xb',xb'=xbA xb W.heap.size:=⟨_,rfl⟩
 obtain⟨W1,hW1⟩:∃W1,W1=W.alloc (.cells #[.int .i64 15,.int .i64 0,.int .i64 0,.int .i64 0,.string ⟨#[]⟩,.string ⟨#[]⟩,.int .i64 0,.slice none 0 0,.int .i64 (P:Int)] 46):=⟨_,rfl⟩
 have H1:Hid (Cd W1 b g cap dv ts xb' x):=Hd (by rw[hW1,hxb'];exact h.out.newX _)
 have HA:Hid (W1.heap[W.heap.size]?=some (.cells #[.int .i64 15,.int .i64 0,.int .i64 0,.int .i64 0,.string ⟨#[]⟩,.string ⟨#[]⟩,.int .i64 0,.slice none 0 0,.int .i64 (P:Int)] 46 (0,0))):=Hd (by rw[hW1];exact heap_alloc_new W _)
 have HB1:Hid (RX b xb W W1):=Hd (RX.of_below (by rw[hW1];exact(qB _ _).alloc (qL _) _) (ql hbs) h.out.xlt)
 have HXA:Hid (xb' W.heap.size∧∀k,xb k→xb' k):=Hd (by rw[hxb'];exact⟨.inr rfl,xbA_le xb _⟩)
 have B1:Hid (∀W,Hid (Cd W b g cap dv ts xb' x)→Calls prog 65 #[.pointer (some ⟨b,0,none⟩),.string ⟨#[105,102]⟩,.func (.func 26) #[.pointer (some ⟨b,0,none⟩)] #[]] W fun r Y=>CdRet b g cap dv ts xb' W (.int .i64 va) s2 r Y):=Hd fun W h =>
  behind_rule b g cap dv ts xb' _ f .expr enters_expr (IE xb') x hc [105,102] (by decide) va la s2 (by unfold wantS;rw[if_pos hi];exact r1) W h
 have B2:Hid (s2.code=0→∀W,Hid (Cd W b g cap dv ts xb' s2)→Calls prog 65 #[.pointer (some ⟨b,0,none⟩),.string ⟨#[116,104,101,110]⟩,.func (.func 26) #[.pointer (some ⟨b,0,none⟩)] #[]] W fun r Y=>CdRet b g cap dv ts xb' W (.int .i64 vb) s3 r Y):=Hd fun hc W h =>
  behind_rule b g cap dv ts xb' _ f .expr enters_expr (IE xb') s2 hc [116,104,101,110] (by decide) vb lb s3 r2 W h
 have B3:Hid (s3.code=0→∀W,Hid (Cd W b g cap dv ts xb' s3)→Calls prog 65 #[.pointer (some ⟨b,0,none⟩),.string ⟨#[101,108,115,101]⟩,.func (.func 26) #[.pointer (some ⟨b,0,none⟩)] #[]] W fun r Y=>CdRet b g cap dv ts xb' W (.int .i64 vc) s4 r Y):=Hd fun hc W h =>
  behind_rule b g cap dv ts xb' _ f .expr enters_expr (IE xb') s3 hc [101,108,115,101] (by decide) vc lc s4 r3 W h
 obtain⟨τ,hτ⟩:∃τ,τ=putS { ex0 with kind:=15,a:=va,b:=vb,c:=vc,pos:=(P:Int) } s4:=⟨_,rfl⟩
 rw[←hτ]
 have HTAU:=Hd hτ
 have HS4:Hid (Stays s4 τ):=Hd (by rw[hτ];exact stays_put _ _)
 have MF:=runF
 clear hmm haa t0 t1 t2 hl hx c1 c2 c3 fr r1 r2 r3 hi hxb' hP hτ
 by_cases h2:s2.code=0
 ·have B1':Hid (∀W,Hid (Cd W b g cap dv ts xb' x)→Calls prog 65 #[.pointer (some ⟨b,0,none⟩),.string ⟨#[105,102]⟩,.func (.func 26) #[.pointer (some ⟨b,0,none⟩)] #[]] W fun r Y=>CdOk b g cap dv ts xb' W (.int .i64 va) s2 r Y):=Hd fun W h=>(B1.out W h).mono fun r Y hh=>hh.ok h2
  have B2a:=Hd (B2.out h2)
  have H2:=Hd h2
  clear B1 B2 h2
  by_cases h3:s3.code=0
  ·have B2':Hid (∀W,Hid (Cd W b g cap dv ts xb' s2)→Calls prog 65 #[.pointer (some ⟨b,0,none⟩),.string ⟨#[116,104,101,110]⟩,.func (.func 26) #[.pointer (some ⟨b,0,none⟩)] #[]] W fun r Y=>CdOk b g cap dv ts xb' W (.int .i64 vb) s3 r Y):=Hd fun W h=>(B2a.out W h).mono fun r Y hh=>hh.ok h3
   have B3a:=Hd (B3.out h3)
   have H3:=Hd h3
   clear B2a B3 h3
   by_cases h4:s4.code=0
   ·have B3':Hid (∀W,Hid (Cd W b g cap dv ts xb' s3)→Calls prog 65 #[.pointer (some ⟨b,0,none⟩),.string ⟨#[101,108,115,101]⟩,.func (.func 26) #[.pointer (some ⟨b,0,none⟩)] #[]] W fun r Y=>CdOk b g cap dv ts xb' W (.int .i64 vc) s4 r Y):=Hd fun W h=>(B3a.out W h).mono fun r Y hh=>hh.ok h4
    have PU:Hid (∀W,Hid (Cd W b g cap dv ts xb s4)→Calls prog 75 #[.pointer (some ⟨b,0,none⟩),.agg #[.int .i64 15,.int .i64 va,.int .i64 vb,.int .i64 vc,.string ⟨#[]⟩,.string ⟨#[]⟩,.int .i64 0,.slice none 0 0,.int .i64 (P:Int)]] W fun r Y=>CdOk b g cap dv ts xb W (.int .i64 (s4.exprs.length:Int)) τ r Y):=Hd fun W h=>by
     rw[HTAU.out]
     exact(cput_any b g cap dv ts xb s4 { ex0 with kind:=15,a:=va,b:=vb,c:=vc,pos:=(P:Int) } none 0 0 W h h4 (okS_iff.1 ok).1 (Hd (qO _ _ _ _)) (Hd fun k hk=>by cases hk)).mono fun r Y hh=>hh.ok h4
    have H4:=Hd h4
    clear B3a h4
    go_enter Tryz.func50,Tryz.ntmps50
    go_wp2_with (first
     | (go_at_call 65;rw[←hW1];clear hW1;(with_reducible refine(B1'.out _ H1).mono ?_);rintro e w2 ⟨rfl,hr2,hk2⟩)
     | (go_at_call 65;(with_reducible refine(B2'.out _ hr2).mono ?_);rintro e w3 ⟨rfl,hr3,hk3⟩)
     | (go_at_call 65;(with_reducible refine(B3'.out _ hr3).mono ?_);rintro e w4 ⟨rfl,hr4,hk4⟩;have HK:=Hd (hk2.out.trans (hk3.out.trans hk4.out));have HA4:=Hd ((HK.out.xs _ HXA.out.1).trans HA.out);obtain⟨⟨y0,y1,y2,y3,y4,y5,y6,y7,y8⟩,yf⟩:=nine_of HA4.out;have f1:=yf 1;have f2:=yf 2;have f3:=yf 3;clear yf))
    obtain⟨W5,hW5⟩:∃W5,W5=((w4.setCell ⟨W.heap.size,1,none⟩ (.int .i64 va)).setCell ⟨W.heap.size,2,none⟩ (.int .i64 vb)).setCell ⟨W.heap.size,3,none⟩ (.int .i64 vc):=⟨_,rfl⟩
    have hbut:But W.heap.size w4 W5:=by rw[hW5];exact(((But.refl _ _).set 1 _).set 2 _).set 3 _
    have HR5:Hid (Cd W5 b g cap dv ts xb s4):=Hd ((hr4.out.butX HXA.out.1 hbs hbut).less HXA.out.2)
    have HK5:Hid (RX b xb W W5):=Hd ((HB1.out.trans (HK.out.less HXA.out.2)).but h.out.xlt (qL _) hbs hbs hbut)
    rw[←hW5]
    clear hW5 hbut y0 y1 y2 y3 y4 y5 y6 y7 y8 f1 f2 f3
    refine(PU.out _ HR5).mono ?_
    rintro e w6 ⟨rfl,hr6,hk6⟩
    dsimp only
    go_wp2_with fail
    go_ret
    exact⟨HK5.out.trans hk6.out,.inl ⟨by rw[HTAU.out];exact H4.out,rfl,hr6.out⟩⟩
   ·have B3':Hid (∀W,Hid (Cd W b g cap dv ts xb' s3)→Calls prog 65 #[.pointer (some ⟨b,0,none⟩),.string ⟨#[101,108,115,101]⟩,.func (.func 26) #[.pointer (some ⟨b,0,none⟩)] #[]] W fun r Y=>CdBad b xb' W s4.code s4.pos r Y):=Hd fun W h=>(B3a.out W h).mono fun r Y hh=>hh.bad h4
    have H4:=Hd h4
    clear B3a h4
    go_enter Tryz.func50,Tryz.ntmps50
    go_wp2_with (first
     | (go_at_call 65;rw[←hW1];clear hW1;(with_reducible refine(B1'.out _ H1).mono ?_);rintro e w2 ⟨rfl,hr2,hk2⟩)
     | (go_at_call 65;(with_reducible refine(B2'.out _ hr2).mono ?_);rintro e w3 ⟨rfl,hr3,hk3⟩)
     | (go_at_call 65;(with_reducible refine(B3'.out _ hr3).mono ?_);rintro e w4 ⟨rfl,hk4⟩))
    exact⟨rfl,CdBad.ret (g:=g) (cap:=cap) (dv:=dv) (ts:=ts) ⟨rfl,Hd (HB1.out.trans ((hk2.out.trans (hk3.out.trans hk4.out)).less HXA.out.2))⟩ H4.out HS4.out⟩
  ·have B2':Hid (∀W,Hid (Cd W b g cap dv ts xb' s2)→Calls prog 65 #[.pointer (some ⟨b,0,none⟩),.string ⟨#[116,104,101,110]⟩,.func (.func 26) #[.pointer (some ⟨b,0,none⟩)] #[]] W fun r Y=>CdBad b xb' W s3.code s3.pos r Y):=Hd fun W h=>(B2a.out W h).mono fun r Y hh=>hh.bad h3
   have H3:=Hd h3
   clear B2a B3 h3
   go_enter Tryz.func50,Tryz.ntmps50
   go_wp2_with (first
    | (go_at_call 65;rw[←hW1];clear hW1;(with_reducible refine(B1'.out _ H1).mono ?_);rintro e w2 ⟨rfl,hr2,hk2⟩)
    | (go_at_call 65;(with_reducible refine(B2'.out _ hr2).mono ?_);rintro e w3 ⟨rfl,hk3⟩))
   exact⟨rfl,CdBad.ret (g:=g) (cap:=cap) (dv:=dv) (ts:=ts) ⟨rfl,Hd (HB1.out.trans ((hk2.out.trans hk3.out).less HXA.out.2))⟩ H3.out (SW3.out.trans (S3.out.trans HS4.out))⟩
 ·have B1':Hid (∀W,Hid (Cd W b g cap dv ts xb' x)→Calls prog 65 #[.pointer (some ⟨b,0,none⟩),.string ⟨#[105,102]⟩,.func (.func 26) #[.pointer (some ⟨b,0,none⟩)] #[]] W fun r Y=>CdBad b xb' W s2.code s2.pos r Y):=Hd fun W h=>(B1.out W h).mono fun r Y hh=>hh.bad h2
  have H2:=Hd h2
  clear B1 B2 B3 h2
  go_enter Tryz.func50,Tryz.ntmps50
  go_wp2_with (go_at_call 65;rw[←hW1];clear hW1;(with_reducible refine(B1'.out _ H1).mono ?_);rintro e w2 ⟨rfl,hk2⟩)
  exact⟨rfl,CdBad.ret (g:=g) (cap:=cap) (dv:=dv) (ts:=ts) ⟨rfl,Hd (HB1.out.trans (hk2.out.less HXA.out.2))⟩ H2.out (SW2.out.trans (S2.out.trans (SW3.out.trans (S3.out.trans HS4.out))))⟩
theorem two_ways {P:Program} {f:Nat} {args:Array Value} {w:World} {R:Ending→World→Prop} {c:List PanicEntry} {P0:World→Prop} (C:Calls P f args w fun r Y=>r=.panicked c∧P0 Y) (h1:∀Y,P0 Y→R (.panicked c) Y) (v:Value) (_h2:Hid False→R (.returned v) w):Calls P f args w R :=
 C.mono fun r Y h=>by rw[h.1];exact h1 Y h.2
def arL:List (List UInt8):=[[45,62],[102,98,121]]
theorem ar_sg:∀s ∈ arL,s ∈ sgL:=fun s hs=>by
 have:arL.all (fun s=>decide (s ∈ sgL))=true:=by decide +kernel
 exact of_decide_eq_true (List.all_eq_true.1 this s hs)
theorem expr1_if (b g cap:Nat) (dv:Value) (ts:List Tok) (xb:Nat→Prop) (x:RS) (hc:x.code=0) (hi:isS ts [105,102] x=true) (v:Int) (τ:RS)
  (C:∀W,Hid (Cd W b g cap dv ts xb x)→Calls prog 50 #[.pointer (some ⟨b,0,none⟩)] W fun r Y=>CdRet b g cap dv ts xb W (.int .i64 v) τ r Y)
  (k:Nat) (hkb:k≠b) (W:World) (h:Hid (Cd W b g cap dv ts xb x)) (hk:Hid (BoxR W k b)) :
  Calls prog 48 #[.pointer (some ⟨k,0,none⟩)] W fun r Y=>CdRet b g cap dv ts xb W (.int .i64 v) τ r Y:=by
 obtain⟨W1,hW1⟩:∃W1,W1=W.alloc (.cells #[.string ⟨#[105,102]⟩] 9):=⟨_,rfl⟩
 have hb1:Below W.heap.size W W1:=by rw[hW1];exact(qB _ _).alloc (qL _) _
 have hbs:=h.out.size
 have hks:=heap_lt hk.out
 have H1:Hid (Cd W1 b g cap dv ts xb x):=Hd (h.out.below hb1)
 have HB:=Hd (RX.of_below (xb:=xb) hb1 (ql hbs) h.out.xlt)
 have bx:=hk.out.cell
 have bx1:W1.cell? ⟨k,0,none⟩=some (.pointer (some ⟨b,0,none⟩)):=(hk.out.keep hkb HB.out).cell
 have F:=Hd (fits_any b g cap dv ts xb x W.heap.size 1 [[105,102]] W1 H1 hc (by decide) rfl (by decide) (Hd (by rw[hW1];exact strs_new W [[105,102]] _)))
 have e:fitsB ts [[105,102]] x=true:=by unfold fitsB;simp[hi]
 rw[e] at F
 have C0:=Hd (C W1 H1)
 clear C e hi hb1 hkb
 by_cases h0:τ.code=0
 ·have C1:=Hd (C0.out.mono fun r Y hh=>hh.ok h0)
  have H0:=Hd h0
  clear C0 h0 hc
  go_enter Tryz.func48,Tryz.ntmps48
  go_wp2_with (first
   | (go_at_call 49;rw[←hW1];clear hW1;(with_reducible refine F.out.mono ?_);rintro e w1 ⟨rfl,hw1⟩;obtain rfl:=hw1.symm)
   | (go_at_call 50;(with_reducible refine C1.out.mono ?_);rintro e w2 ⟨rfl,hr,hk2⟩))
  go_ret
  exact⟨HB.out.trans hk2.out,.inl ⟨H0.out,rfl,hr.out⟩⟩
 ·have C1:=Hd (C0.out.mono fun r Y hh=>hh.bad h0)
  have H0:=Hd h0
  clear C0 h0 hc
  go_enter Tryz.func48,Tryz.ntmps48
  go_wp2_with (first
   | (go_at_call 49;rw[←hW1];clear hW1;(with_reducible refine F.out.mono ?_);rintro e w1 ⟨rfl,hw1⟩;obtain rfl:=hw1.symm)
   | (go_at_call 50;(with_reducible refine C1.out.mono ?_);rintro e w2 ⟨rfl,hk2⟩))
  exact⟨rfl,HB.out.trans hk2.out,.inr ⟨H0.out,rfl⟩⟩
theorem expr1_or (b g cap:Nat) (dv:Value) (ts:List Tok) (xb:Nat→Prop) (x:RS) (hc:x.code=0) (hi:isS ts [105,102] x=false) (o:Int) (y:RS)
  (CO:∀W,Hid (Cd W b g cap dv ts xb x)→Calls prog 52 #[.pointer (some ⟨b,0,none⟩)] W fun r Y=>CdRet b g cap dv ts xb W (.int .i64 o) y r Y)
  (v:Int) (m:Bool) (τ:RS) (hst:Stays y τ)
  (CP:y.code=0→∀k W,Hid (Cd W b g cap dv ts xb y)→Hid (StrsIn W k arL)→Calls prog 51 #[.pointer (some ⟨b,0,none⟩),.int .i64 o,.func (.func 26) #[.pointer (some ⟨b,0,none⟩)] #[],.slice (some ⟨k,0,none⟩) 2 2] W fun r Y=>CdRet b g cap dv ts xb W (.tuple #[.int .i64 v,.bool m]) τ r Y)
  (k:Nat) (hkb:k≠b) (W:World) (h:Hid (Cd W b g cap dv ts xb x)) (hk:Hid (BoxR W k b)) :
  Calls prog 48 #[.pointer (some ⟨k,0,none⟩)] W fun r Y=>CdRet b g cap dv ts xb W (.int .i64 v) τ r Y:=by
 obtain⟨W1,hW1⟩:∃W1,W1=W.alloc (.cells #[.string ⟨#[105,102]⟩] 9):=⟨_,rfl⟩
 have hb1:Below W.heap.size W W1:=by rw[hW1];exact(qB _ _).alloc (qL _) _
 have hbs:=h.out.size
 have hks:=heap_lt hk.out
 have H1:Hid (Cd W1 b g cap dv ts xb x):=Hd (h.out.below hb1)
 have HB:=Hd (RX.of_below (xb:=xb) hb1 (ql hbs) h.out.xlt)
 have bx:=hk.out.cell
 have HK1:Hid (BoxR W1 k b):=Hd (hk.out.keep hkb HB.out)
 have bx1:=HK1.out.cell
 have F:=Hd (fits_any b g cap dv ts xb x W.heap.size 1 [[105,102]] W1 H1 hc (by decide) rfl (by decide) (Hd (by rw[hW1];exact strs_new W [[105,102]] _)))
 have e:fitsB ts [[105,102]] x=false:=by unfold fitsB;simp[hi]
 rw[e] at F
 have HKB:=Hd hkb
 have MF:=runF
 have HCO:=Hd CO
 have HCP:=Hd CP
 have HST:=Hd hst
 clear e hi hb1 hkb hst CO CP hc
 have HRa:Hid (Cd W1.drew b g cap dv ts xb x):=Hd (H1.out.below (below_dr (qB _ _) 1))
 have hba:Below W1.heap.size W1 (W1.alloc (.cells #[.string ⟨#[45,62]⟩,.string ⟨#[102,98,121]⟩] 9)).drew:=below_dr ((qB _ _).alloc (qL _) _) 1
 have HRb:Hid (Cd (W1.alloc (.cells #[.string ⟨#[45,62]⟩,.string ⟨#[102,98,121]⟩] 9)).drew b g cap dv ts xb x):=Hd (H1.out.below hba)
 have HSb:Hid ((W1.alloc (.cells #[.string ⟨#[45,62]⟩,.string ⟨#[102,98,121]⟩] 9)).drew.heap[W1.heap.size]?=some (.cells (arL.map fun s=>Value.string (str s)).toArray 9 (0,0))):=Hd (heap_alloc_new W1 _)
 have HXa:Hid (RX b xb W1 W1.drew):=Hd (RX.of_below (below_dr (qB _ _) 1) (ql H1.out.size) H1.out.xlt)
 have HXb:Hid (RX b xb W1 (W1.alloc (.cells #[.string ⟨#[45,62]⟩,.string ⟨#[102,98,121]⟩] 9)).drew):=Hd (RX.of_below hba (ql H1.out.size) H1.out.xlt)
 have hb1s:=H1.out.size
 have hk1s:=heap_lt HK1.out
 have SN:Hid (∀w:World,StrsIn (w.alloc (.cells #[.string ⟨#[45,62]⟩,.string ⟨#[102,98,121]⟩] 9)) w.heap.size arL):=Hd fun w=>strs_new w arL _
 clear hba
 by_cases hy:y.code=0
 ·have CO1:Hid (∀W,Hid (Cd W b g cap dv ts xb x)→Calls prog 52 #[.pointer (some ⟨b,0,none⟩)] W fun r Y=>CdOk b g cap dv ts xb W (.int .i64 o) y r Y):=Hd fun W h=>(HCO.out W h).mono fun r Y hh=>hh.ok hy
  have CP0:=Hd (HCP.out hy)
  have HY:=Hd hy
  clear HCO HCP hy
  by_cases h0:τ.code=0
  ·have CP1:Hid (∀k W,Hid (Cd W b g cap dv ts xb y)→Hid (StrsIn W k arL)→Calls prog 51 #[.pointer (some ⟨b,0,none⟩),.int .i64 o,.func (.func 26) #[.pointer (some ⟨b,0,none⟩)] #[],.slice (some ⟨k,0,none⟩) 2 2] W fun r Y=>CdOk b g cap dv ts xb W (.tuple #[.int .i64 v,.bool m]) τ r Y):=Hd fun k W h hs=>(CP0.out k W h hs).mono fun r Y hh=>hh.ok h0
   have H0:=Hd h0
   clear CP0 h0
   go_enter Tryz.func48,Tryz.ntmps48
   go_wp2_with (go_at_call 49;rw[←hW1];clear hW1;(with_reducible refine F.out.mono ?_);rintro e w1 ⟨rfl,hw1⟩;obtain rfl:=hw1.symm)
   go_region_held3 (fun w'=>w'.cell? ⟨k,0,none⟩=some (.pointer (some ⟨b,0,none⟩)))
    (first | assumption | go_keep)
    (first
     | (go_at_call 52;(with_reducible refine(CO1.out _ ?_).mono ?_);(focus (first | with_reducible exact HRa | with_reducible exact HRb));rintro e w5 ⟨rfl,hr5,hk5⟩;(first | (have HSK:=Hd (strs_of (hk5.out.keep _ _ HSb.out (Nat.ne_of_gt hb1s) noex_str));have HXX:=HXb) | (have HXX:=HXa));have HB5:=Hd (HK1.out.keep HKB.out (HXX.out.trans hk5.out));have z5:=HB5.out.cell;have HX5:=Hd (HXX.out.trans hk5.out);have HR5a:=Hd (hr5.out.below ((qB w5.heap.size w5).alloc (qL _) (.cells #[.string ⟨#[45,62]⟩,.string ⟨#[102,98,121]⟩] 9)));have HX5a:=Hd (HX5.out.trans (RX.of_below ((qB w5.heap.size w5).alloc (qL _) (.cells #[.string ⟨#[45,62]⟩,.string ⟨#[102,98,121]⟩] 9)) (ql hr5.out.size) hr5.out.xlt));have HB5a:=Hd (HK1.out.keep HKB.out HX5a.out);have HS5a:=Hd (SN.out w5))
     | (go_at_call 51;(with_reducible refine(CP1.out _ _ ?_ ?_).mono ?_);(focus (first | with_reducible exact hr5 | with_reducible exact HR5a));(focus (first | with_reducible exact HSK | with_reducible exact HS5a));rintro e w6 ⟨rfl,hr6,hk6⟩;(first | (have HX6:=Hd (HX5.out.trans hk6.out)) | (have HX6:=Hd (HX5a.out.trans hk6.out)));have z6:=(HK1.out.keep HKB.out HX6.out).cell))
   all_goals (
    go_wp2_with fail
    go_ret
    exact⟨HB.out.trans HX6.out,.inl ⟨H0.out,rfl,hr6.out⟩⟩)
  ·have CP1:Hid (∀k W,Hid (Cd W b g cap dv ts xb y)→Hid (StrsIn W k arL)→Calls prog 51 #[.pointer (some ⟨b,0,none⟩),.int .i64 o,.func (.func 26) #[.pointer (some ⟨b,0,none⟩)] #[],.slice (some ⟨k,0,none⟩) 2 2] W fun r Y=>CdBad b xb W τ.code τ.pos r Y):=Hd fun k W h hs=>(CP0.out k W h hs).mono fun r Y hh=>hh.bad h0
   have H0:=Hd h0
   clear CP0 h0
   go_enter Tryz.func48,Tryz.ntmps48
   go_wp2_with (go_at_call 49;rw[←hW1];clear hW1;(with_reducible refine F.out.mono ?_);rintro e w1 ⟨rfl,hw1⟩;obtain rfl:=hw1.symm)
   go_region_held2 (fun w'=>w'.cell? ⟨k,0,none⟩=some (.pointer (some ⟨b,0,none⟩)))
    (first | assumption | go_keep)
    (first
     | (go_at_call 52;(with_reducible refine(CO1.out _ ?_).mono ?_);(focus (first | with_reducible exact HRa | with_reducible exact HRb));rintro e w5 ⟨rfl,hr5,hk5⟩;(first | (have HSK:=Hd (strs_of (hk5.out.keep _ _ HSb.out (Nat.ne_of_gt hb1s) noex_str));have HXX:=HXb) | (have HXX:=HXa));have HB5:=Hd (HK1.out.keep HKB.out (HXX.out.trans hk5.out));have z5:=HB5.out.cell;have HX5:=Hd (HXX.out.trans hk5.out);have HR5a:=Hd (hr5.out.below ((qB w5.heap.size w5).alloc (qL _) (.cells #[.string ⟨#[45,62]⟩,.string ⟨#[102,98,121]⟩] 9)));have HX5a:=Hd (HX5.out.trans (RX.of_below ((qB w5.heap.size w5).alloc (qL _) (.cells #[.string ⟨#[45,62]⟩,.string ⟨#[102,98,121]⟩] 9)) (ql hr5.out.size) hr5.out.xlt));have HB5a:=Hd (HK1.out.keep HKB.out HX5a.out);have HS5a:=Hd (SN.out w5))
     | (go_at_call 51;(with_reducible refine two_ways (CP1.out _ _ ?_ ?_) ?_ (.tuple #[.int .i64 0,.bool false]) ?_);(focus (first | with_reducible exact hr5 | with_reducible exact HR5a));(focus (first | with_reducible exact HSK | with_reducible exact HS5a));(focus (intro Y hY;(first | (have HX6:=Hd (HX5.out.trans hY.out)) | (have HX6:=Hd (HX5a.out.trans hY.out)));exact⟨rfl,HB.out.trans HX6.out,.inr ⟨H0.out,rfl⟩⟩));intro hf;have z6:=HB5a.out.cell))
   all_goals exact hf.out.elim
 ·have CO1:Hid (∀W,Hid (Cd W b g cap dv ts xb x)→Calls prog 52 #[.pointer (some ⟨b,0,none⟩)] W fun r Y=>CdBad b xb W y.code y.pos r Y):=Hd fun W h=>(HCO.out W h).mono fun r Y hh=>hh.bad hy
  have HY:=Hd hy
  clear HCO HCP hy
  go_enter Tryz.func48,Tryz.ntmps48
  go_wp2_with (go_at_call 49;rw[←hW1];clear hW1;(with_reducible refine F.out.mono ?_);rintro e w1 ⟨rfl,hw1⟩;obtain rfl:=hw1.symm)
  go_region_held2 (fun w'=>w'.cell? ⟨k,0,none⟩=some (.pointer (some ⟨b,0,none⟩)))
   (first | assumption | go_keep)
   (first
    | (go_at_call 52;(with_reducible refine two_ways (CO1.out _ ?_) ?_ (.int .i64 0) ?_);(focus (first | with_reducible exact HRa | with_reducible exact HRb));(focus (intro Y hY;(first | (have HX5:=Hd (HXb.out.trans hY.out)) | (have HX5:=Hd (HXa.out.trans hY.out)));exact⟨rfl,CdBad.ret (g:=g) (cap:=cap) (dv:=dv) (ts:=ts) ⟨rfl,Hd (HB.out.trans HX5.out)⟩ HY.out HST.out⟩));intro hf)
    | (go_at_call 51;refine two_ways (c:=[]) (P0:=fun _=>False) hf.out.elim (fun Y hY=>hY.elim) (.tuple #[.int .i64 0,.bool false]) (fun hf2=>?_)))
  all_goals exact hf.out.elim
theorem expr_rule (b g cap:Nat) (dv:Value) (ts:List Tok) (f:Nat) (IO:∀xb,RuleC b g cap dv ts xb 52 f (.bin 1)) (IE:∀xb,RuleC b g cap dv ts xb 26 f .expr) (xb:Nat→Prop):RuleC b g cap dv ts xb 26 (f+1) .expr:=by
 intro σ v l τ hc hr W h
 obtain⟨hok,hcase⟩:=expr_cases hr
 have hbs:=h.out.size
 have D:Hid (∀(k:Nat),k≠b→∀W,Hid (Cd W b g cap dv ts xb σ)→Hid (BoxR W k b)→Calls prog 47 #[.pointer (some ⟨b,0,none⟩),.func (.func 48) #[] #[.pointer (some ⟨k,0,none⟩)]] W fun r Y=>CdRet b g cap dv ts xb W (.int .i64 v) τ r Y):=Hd (by
  refine deep_rule b g cap dv ts xb _ enters_expr1 σ hc hok v τ ?_
  rcases hcase with ⟨h1,h2⟩ | ⟨h1,h2,va,la,s2,vb,lb,s3,vc,lc,s4,r1,r2,r3,h4,h5⟩ | ⟨h1,h2,o,lo,y,r1,h3⟩
  ·injection h2 with e1 e2;injection e2 with e2 e3
   exact .inl ⟨h1,e3⟩
  ·injection h5 with e1 e2;injection e2 with e2 e3
   obtain⟨k1,k2,k3⟩:=okS_iff.1 h4
   refine .inr ⟨h1,_,e3,k2,(show s4.deep≤31 by omega),fun k hk W h hb=>?_⟩
   refine expr1_if b g cap dv ts xb (enterS ts σ) h1 h2 v _ (fun W h=>?_) k hk W h hb
   rw[e1]
   exact choice_any b g cap dv ts xb f IE (enterS ts σ) h1 h2 va vb vc la lb lc s2 s3 s4 r1 r2 r3 h4 W h
  ·rcases h3 with ⟨ha,bv,lb,z,r2,hz,h5⟩ | ⟨ha,hb2,bv,lb,z,r2,hz,h5⟩ | ⟨ha,hb2,hy,h5⟩
   ·injection h5 with e1 e2;injection e2 with e2 e3
    obtain⟨k1,k2,k3⟩:=okS_iff.1 hz
    refine .inr ⟨h1,_,e3,k2,(show z.deep≤31 by omega),fun k hk W h hb=>?_⟩
    refine expr1_or b g cap dv ts xb (enterS ts σ) h1 h2 o y (fun W h=>IO xb (enterS ts σ) o lo y h1 r1 W h) v true _ ((stays_step y).trans ((stuck ts f .expr _ _ r2).trans (stays_put _ _))) (fun hyc k W h hs=>?_) k hk W h hb
    rw[e1]
    exact pair_yes b g cap dv ts xb y o _ k 2 arL W h hyc ar_sg rfl (by decide) hs [45,62] 17 ha (by decide) (by decide) enters_expr bv z hz fun W h=>IE xb (stepS y) bv lb z hyc r2 W h
   ·injection h5 with e1 e2;injection e2 with e2 e3
    obtain⟨k1,k2,k3⟩:=okS_iff.1 hz
    refine .inr ⟨h1,_,e3,k2,(show z.deep≤31 by omega),fun k hk W h hb=>?_⟩
    refine expr1_or b g cap dv ts xb (enterS ts σ) h1 h2 o y (fun W h=>IO xb (enterS ts σ) o lo y h1 r1 W h) v true _ ((stays_step y).trans ((stuck ts f .expr _ _ r2).trans (stays_put _ _))) (fun hyc k W h hs=>?_) k hk W h hb
    rw[e1]
    exact pair_yes b g cap dv ts xb y o _ k 2 arL W h hyc ar_sg rfl (by decide) hs [102,98,121] 18 hb2 (by decide) (by decide) enters_expr bv z hz fun W h=>IE xb (stepS y) bv lb z hyc r2 W h
   ·injection h5 with e1 e2;injection e2 with e2 e3
    obtain⟨k1,k2,k3⟩:=okS_iff.1 hy
    refine .inr ⟨h1,y,e3,k2,by omega,fun k hk W h hb=>?_⟩
    refine expr1_or b g cap dv ts xb (enterS ts σ) h1 h2 o y (fun W h=>IO xb (enterS ts σ) o lo y h1 r1 W h) v false y (Stays.refl y) (fun hyc k W h hs=>?_) k hk W h hb
    rw[e1]
    have hno:fitsB ts arL y=false:=by unfold fitsB arL;simp[ha,hb2]
    exact(pair_no b g cap dv ts xb y o _ k 2 arL W h hyc ar_sg rfl (by decide) hs hno).mono fun r Y hh=>⟨by rw[hh.2];exact RX.refl _ _ _,.inl ⟨hyc,hh.1,by rw[hh.2];exact h.out⟩⟩)
 have MF:=runF
 clear hcase hr hok
 obtain⟨W1,hW1⟩:∃W1,W1=W.alloc (.cells #[.pointer (some ⟨b,0,none⟩)] 48):=⟨_,rfl⟩
 have hb1:Below W.heap.size W W1:=by rw[hW1];exact(qB _ _).alloc (qL _) _
 have C:=Hd (D.out W.heap.size (by omega) W1 (Hd (h.out.below hb1)) (Hd (by rw[hW1];exact boxR_new W b)))
 have HB:=Hd (RX.of_below (xb:=xb) hb1 (ql hbs) h.out.xlt)
 clear D hb1
 by_cases h0:τ.code=0
 ·have C1:=Hd (C.out.mono fun r Y hh=>hh.ok h0)
  have H0:=Hd h0
  clear C h0 hc
  go_enter Tryz.func26,Tryz.ntmps26
  go_wp2_with (go_at_call 47;rw[←hW1];clear hW1;(with_reducible refine C1.out.mono ?_);rintro e w2 ⟨rfl,hr,hk⟩)
  go_ret
  exact⟨HB.out.trans hk.out,.inl ⟨H0.out,rfl,hr.out⟩⟩
 ·have C1:=Hd (C.out.mono fun r Y hh=>hh.bad h0)
  have H0:=Hd h0
  clear C h0 hc
  go_enter Tryz.func26,Tryz.ntmps26
  go_wp2_with (go_at_call 47;rw[←hW1];clear hW1;(with_reducible refine C1.out.mono ?_);rintro e w2 ⟨rfl,hk⟩)
  exact⟨rfl,HB.out.trans hk.out,.inr ⟨H0.out,rfl⟩⟩
inductive LR {α:Type} (one:α→RS→α→RS→Prop) (ts:List Tok):Nat→α→RS→α→RS→Prop where
 | stop {a:α} {σ:RS} (h:isS ts [44] σ=false):LR one ts 0 a σ a σ
 | more {n:Nat} {a a' a'':α} {σ σ' σ'':RS} (h:isS ts [44] σ=true) (h1:one a (stepS σ) a' σ') (h2:LR one ts n a' σ' a'' σ''):LR one ts (n+1) a σ a'' σ''
theorem LR.stays {α:Type} {one:α→RS→α→RS→Prop} {ts:List Tok} (hs:∀a σ a' σ',one a σ a' σ'→Stays σ σ') {n:Nat} {a a':α} {σ σ':RS} (h:LR one ts n a σ a' σ'):Stays σ σ':=by
 induction h with
 | stop=>exact Stays.refl _
 | more h h1 h2 ih=>exact(stays_step _).trans ((hs _ _ _ _ h1).trans ih)
def LsRet {α:Type} (b:Nat) (xb:Nat→Prop) (W0:World) (I:α→RS→World→Prop) (a:α) (σ:RS) (r:Ending) (Y:World):Prop :=
 (σ.code=0∧r=.returned (.tuple #[])∧I a σ Y)∨(σ.code≠0∧r=.panicked [{ v:=refusalV σ.code σ.pos,recovered:=false }]∧RX b xb W0 Y)
def LsI {α:Type} (ts:List Tok) (I:α→RS→World→Prop) (one:α→RS→α→RS→Prop) (a2:α) (σ2:RS) (n:Nat) (W:World):Prop :=
 ∃a σ,σ.code=0∧I a σ W∧LR one ts n a σ a2 σ2
theorem list_any {α:Type} (b g cap:Nat) (dv:Value) (ts:List Tok) (xb:Nat→Prop) (W0:World) (I:α→RS→World→Prop) (one:α→RS→α→RS→Prop)
  (hI:∀a σ W,I a σ W→∃xs:Nat→Prop,(∀k,xb k→xs k)∧Cd W b g cap dv ts xs σ∧RX b xb W0 W∧∀σ' Y,Cd Y b g cap dv ts xs σ'→RX b xs W Y→I a σ' Y) (hst:∀a σ a' σ',one a σ a' σ'→Stays σ σ')
  (K:Nat) (q1 q2:Value) (hK:∀args w,(callFunc K args).run prog w=.ok (.enter K args) w)
  (C:∀a σ a' σ',σ.code=0→one a σ a' σ'→∀W,Hid (I a σ W)→Calls prog K #[q1,q2] W fun r Y=>LsRet b xb W0 I a' σ' r Y)
  (s:List UInt8) (hs:s ∈ sgL) (a0 a1 a2:α) (σ σ1 σ2:RS) (n:Nat) (hc:σ.code=0) (h1:one a0 σ a1 σ1) (h2:LR one ts n a1 σ1 a2 σ2) (W:World) (h:Hid (I a0 σ W)) :
  Calls prog 86 #[.pointer (some ⟨b,0,none⟩),.string (str s),.func (.func K) #[] #[q1,q2]] W fun r Y=>LsRet b xb W0 I a2 (wantS ts s σ2) r Y:=by
 have C0:=Hd (C a0 σ a1 σ1 hc h1 W h)
 have HC:=Hd C
 have HLR:=Hd h2
 have HI:=Hd hI
 have HST:=Hd hst
 have HSG:=Hd hs
 have H10:=Hd (h2.stays hst)
 clear C h1 h2 hI hst hs hc
 by_cases hz:σ1.code=0
 ·have C1:Hid (Calls prog K #[q1,q2] W fun r Y=>r=.returned (.tuple #[])∧Hid (I a1 σ1 Y)):=Hd (C0.out.mono fun r Y hh=>by
   rcases hh with ⟨_,e,h4⟩ | ⟨h3,_⟩
   ·exact⟨e,Hd h4⟩
   ·exact absurd hz h3)
  have HZ:=Hd hz
  obtain⟨m,hm⟩:=least_of (LsI ts I one a2 σ2)
  have HM:=Hd hm
  clear C0 hz hm
  go_enter Tryz.func86,Tryz.ntmps86
  go_wp2_with ((with_reducible refine C1.out.mono ?_);rintro e w1 ⟨rfl,hj1⟩)
  go_loopw [9] (fun _ wr=>Hid (∃n,LsI ts I one a2 σ2 n wr)) (fun _ wr=>m wr)
  case atStart=>exact Hd ⟨n,a1,σ1,HZ.out,hj1.out,HLR.out⟩
  case round =>
   obtain⟨hm1,hm2⟩:=HM.out _ hrel.out
   obtain⟨a,τ,hcode,hja,hlr⟩:=hm1
   obtain⟨nn,hmn⟩:∃nn,nn=m wr:=⟨_,rfl⟩
   rw[←hmn] at hlr
   obtain⟨xs,hxs,hcd,hrx,hsta⟩:=HI.out a τ wr hja
   have HMN:=Hd hmn
   have HCD:=Hd hcd
   have HCO:=Hd hcode
   have HXS:=Hd hxs
   have HRX:=Hd hrx
   have HSTA:=Hd hsta
   clear hcd hcode hja hmn hm2 hrel hxs hrx hsta
   have TK:=Hd (takes_any b g cap dv ts xs τ [44] wr HCD HCO.out (by decide))
   cases hlr with
   | stop hi =>
    have TK2:Hid (Calls prog 62 #[.pointer (some ⟨b,0,none⟩),.string ⟨#[44]⟩] wr fun r Y=>r=.returned (.bool false)∧Hid (Cd Y b g cap dv ts xs σ2)∧Hid (RX b xs wr Y)):=Hd (TK.out.mono fun r Y hh=>by unfold TakesRet tookS at hh;rw[hi] at hh;exact hh)
    clear TK hi
    by_cases hw:(wantS ts s σ2).code=0
    ·have WA:Hid (∀w,Hid (Cd w b g cap dv ts xs σ2)→Calls prog 67 #[.pointer (some ⟨b,0,none⟩),.slice (some ⟨w.heap.size,0,none⟩) 1 1] (w.alloc (.cells #[.string (str s)] 9)) fun r Y=>CdOk b g cap dv ts xs w (.tuple #[]) (wantS ts s σ2) r Y):=Hd fun w h=>(wants_one b g cap dv ts xs σ2 s w h HCO.out HSG.out).mono fun r Y hh=>hh.ok hw
     have HW:=Hd hw
     clear hw
     go_wp2_with (first
      | (go_at_call 62;(with_reducible refine TK2.out.mono ?_);rintro e w2 ⟨rfl,hr2,hk2⟩)
      | (go_at_call 67;(with_reducible refine(WA.out _ hr2).mono ?_);rintro e w3 ⟨rfl,hr3,hk3⟩))
     go_end0
     exact .inl ⟨HW.out,rfl,HSTA.out _ _ hr3.out (hk2.out.trans hk3.out)⟩
    ·have WA:Hid (∀w,Hid (Cd w b g cap dv ts xs σ2)→Calls prog 67 #[.pointer (some ⟨b,0,none⟩),.slice (some ⟨w.heap.size,0,none⟩) 1 1] (w.alloc (.cells #[.string (str s)] 9)) fun r Y=>CdBad b xs w (wantS ts s σ2).code (wantS ts s σ2).pos r Y):=Hd fun w h=>(wants_one b g cap dv ts xs σ2 s w h HCO.out HSG.out).mono fun r Y hh=>hh.bad hw
     have HW:=Hd hw
     clear hw
     go_wp2_with (first
      | (go_at_call 62;(with_reducible refine TK2.out.mono ?_);rintro e w2 ⟨rfl,hr2,hk2⟩)
      | (go_at_call 67;(with_reducible refine(WA.out _ hr2).mono ?_);rintro e w3 ⟨rfl,hk3⟩))
     exact⟨rfl,.inr ⟨HW.out,rfl,HRX.out.trans ((hk2.out.trans hk3.out).less HXS.out)⟩⟩
   | more hi h3 h4 =>
    rename_i nk a' σ'
    have TK2:Hid (Calls prog 62 #[.pointer (some ⟨b,0,none⟩),.string ⟨#[44]⟩] wr fun r Y=>r=.returned (.bool true)∧Hid (I a (stepS τ) Y)):=Hd (TK.out.mono fun r Y hh=>by unfold TakesRet tookS at hh;rw[hi] at hh;exact⟨hh.1,Hd (HSTA.out _ _ hh.2.1.out hh.2.2.out)⟩)
    have H3:=Hd h3
    have H4:=Hd h4
    clear TK hi h3 h4
    by_cases hz2:σ'.code=0
    ·have C2:Hid (∀w,Hid (I a (stepS τ) w)→Calls prog K #[q1,q2] w fun r Y=>r=.returned (.tuple #[])∧Hid (I a' σ' Y)):=Hd fun w hcw=>(HC.out a (stepS τ) a' σ' HCO.out H3.out w hcw).mono fun r Y hh=>by
      rcases hh with ⟨_,e,h4⟩ | ⟨h3,_⟩
      ·exact⟨e,Hd h4⟩
      ·exact absurd hz2 h3
     have HZ2:=Hd hz2
     clear hz2
     go_wp2_with (first
      | (go_at_call 62;(with_reducible refine TK2.out.mono ?_);rintro e w2 ⟨rfl,hr2⟩)
      | ((with_reducible refine(C2.out _ hr2).mono ?_);rintro e w3 ⟨rfl,hj3⟩))
     have HI3:LsI ts I one a2 σ2 nk w3:=⟨a',σ',HZ2.out,hj3.out,H4.out⟩
     exact⟨Hd ⟨nk,HI3⟩,by have h5:=(HM.out _ ⟨nk,HI3⟩).2 nk HI3;have h6:=HMN.out;omega⟩
    ·have C2:Hid (∀w,Hid (I a (stepS τ) w)→Calls prog K #[q1,q2] w fun r Y=>r=.panicked [{ v:=refusalV σ'.code σ'.pos,recovered:=false }]∧RX b xb W0 Y):=Hd fun w hcw=>(HC.out a (stepS τ) a' σ' HCO.out H3.out w hcw).mono fun r Y hh=>by
      rcases hh with ⟨h3,_⟩ | ⟨_,h3⟩
      ·exact absurd h3 hz2
      ·exact h3
     have HZ2:=Hd hz2
     have HS2:Hid (Stays σ' (wantS ts s σ2)):=Hd ((H4.out.stays HST.out).trans (stays_want _ _ _))
     clear hz2
     go_wp2_with (first
      | (go_at_call 62;(with_reducible refine TK2.out.mono ?_);rintro e w2 ⟨rfl,hr2⟩)
      | ((with_reducible refine(C2.out _ hr2).mono ?_);rintro e w3 ⟨rfl,hr3⟩))
     obtain⟨s1,s2⟩:=HS2.out HZ2.out
     exact⟨rfl,.inr ⟨by rw[s1];exact HZ2.out,by rw[s1,s2],hr3⟩⟩
 ·have C1:Hid (Calls prog K #[q1,q2] W fun r Y=>r=.panicked [{ v:=refusalV σ1.code σ1.pos,recovered:=false }]∧RX b xb W0 Y):=Hd (C0.out.mono fun r Y hh=>by
   rcases hh with ⟨h3,_⟩ | ⟨_,h3⟩
   ·exact absurd h3 hz
   ·exact h3)
  have HZ:=Hd hz
  clear C0 hz
  go_enter Tryz.func86,Tryz.ntmps86
  go_wp2_with ((with_reducible refine C1.out.mono ?_);rintro e w1 ⟨rfl,hr1⟩)
  obtain⟨s1,s2⟩:=(H10.out.trans (stays_want ts s σ2)) HZ.out
  exact⟨rfl,.inr ⟨by rw[s1];exact HZ.out,by rw[s1,s2],hr1⟩⟩
def kindV (ts:List Tok) (σ:RS):Int:=if isS ts [98,111,111,108] σ=true then 2 else 1
def kindS (ts:List Tok) (σ:RS):RS:=if isS ts [98,111,111,108] σ=true then stepS σ else wantS ts [102,105,120] σ
def it0:It:=⟨0,⟨#[]⟩,0,0,0,[],⟨#[]⟩,⟨#[]⟩,0⟩
def statesL (ts:List Tok):Nat→List ByteArray→RS→Option (List ByteArray×RS)
 | 0,_,_=>none
 | f+1,acc,σ=>if acc.length≤40000 then(if isS ts [44] σ=true then statesL ts f (acc++[str (nameV ts (stepS σ))]) (nameS ts (stepS σ)) else some (acc,σ)) else none
theorem str_info:(prog.info? 9).map (fun i=>(i.zero,i.size,i.bytes))=some (some (.string ⟨#[]⟩),1,16):=by kernel_rfl
theorem step_strs {ops:Array Oper} {o:Oper} {a:Act} {K:Act→World→Prop} {Q:Exit→Act→World→Prop} {E:Prop} (w:World) (hgd:o.guard=none) (s x:Operand)
  (ho:o.op=Op.call { callee:=Callee.builtin Builtin.append,args:=#[s,x],argTypes:=#[63,63] }) (B:Nat) (v:Value) (n:Nat) (xs:List Value) (hs:a.eval s=v) (hown:w.ownsRow B 9 1 v n xs)
  (kb:Nat) (u:Value) (hx:a.eval x=.slice (some ⟨kb,0,none⟩) 1 1) (hc:w.cell? ⟨kb,0,none⟩=some u) (h1c:u.oneCell'=true) (hk:n≤40000) (hB:B≤w.heap.size)
  (h:∀g cap w',w'.ownsRow B 9 1 (.slice (some ⟨g,0,none⟩) (n+1) cap) (n+1) (xs++[u])→w.grownBy w' v.ownBlock→K (a.put o.dst (.slice (some ⟨g,0,none⟩) (n+1) cap)) w'):if Region.wanted o (yielded ops a.tmps)=true then Oper.wp prog o a w K Q else E:=by
 rw[if_pos (by simp[Region.wanted,hgd])]
 obtain⟨i,h2,h3,h4,h5⟩:=info_parts str_info
 refine wp_append_own w s x 63 ho B 9 i _ 1 16 Tryz.underlying63 h2 h3 h4 h5 rfl (by decide) v n xs hs hown ⟨kb,0,none⟩ 1 1 [u] hx rfl (fun j v hj=>?_) (by simpa using h1c) (by unfold maxLen;omega) (by omega) hB fun v' w' r1 r2 _=>?_
 ·cases j with
  | zero =>
   cases hj
   have e:(⟨kb,0,none⟩:Addr).add 0=⟨kb,0,none⟩:=by unfold Addr.add;split <;> simp_all
   rw[e];exact hc
  | succ j=>simp at hj
 ·obtain⟨g,cap,rfl⟩:=ownsRow_succ r1
  exact h g cap w' r1 r2
theorem step_call1 {ops:Array Oper} {o:Oper} {a:Act} {K:Act→World→Prop} {Q:Exit→Act→World→Prop} {E:Prop} (w:World) (hgd:o.guard=none) (f:FuncId) (args:Array Value) (hr:(execOp a.eval o).run prog w=.ok (.enter f args) w) (P:Ending→World→Prop) (C:Calls prog f args w P)
  (h:∀e w',P e w'→∃val,e=.returned val∧K (a.put o.dst val) w'):if Region.wanted o (yielded ops a.tmps)=true then Oper.wp prog o a w K Q else E:=by
 rw[if_pos (by simp[Region.wanted,hgd])]
 unfold Oper.wp
 rw[hr,Oper.upon_enter]
 refine C.mono fun e w' hp=>?_
 obtain⟨val,rfl,hk⟩:=h e w' hp
 exact hk
theorem new_cell1 (W:World) (v:Value) (T:TypeId):(W.alloc (.cells #[v] T)).cell? ⟨W.heap.size,0,none⟩=some v:=by
 rw[World.cell?_alloc_new];rfl
def onlyN (Q:Exit→Act→World→Prop):Exit→Act→World→Prop
 | .normal,a,w=>Q .normal a w
 | _,_,_=>False
theorem wp_onlyN {P:Program} {c:Code} {Q:Exit→Act→World→Prop} {a:Act} {w:World} (h:c.wp P (onlyN Q) a w):c.wp P Q a w:=by
 intro b k cs
 obtain⟨e,a₁,w₁,hq,harr⟩:=h b k cs
 refine⟨e,a₁,w₁,?_,harr⟩
 cases e with
 | normal=>exact hq
 | _=>exact hq.elim
end Go.Proofs.YtpfmlfcaadnnpaaGreatDoor
