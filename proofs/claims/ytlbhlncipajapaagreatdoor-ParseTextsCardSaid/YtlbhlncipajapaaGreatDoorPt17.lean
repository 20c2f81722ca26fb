import Derived.Test.YtlbhlncipajapaaGreatDoorPt16
set_option maxHeartbeats 16000000
set_option maxRecDepth 100000
set_option linter.unusedVariables false
open Go.Proofs.Tryz(prog)
namespace Go.Proofs.YtlbhlncipajapaaGreatDoor
open Go.RowKit Lx
theorem named_is (b g cap:Nat) (dv:Value) (ts:List Tok) (xb:Nat→Prop) (σ:RS) (hc:σ.code=0) (hk:(tokL ts σ.at_).kind=1) (ok:okS (nameS ts (stepS (stepS σ)))=true) (h40:isS ts [40] (stepS σ)=false) (his:isS ts [105,115] (stepS σ)=true) (W:World) (h:Hid (Cd W b g cap dv ts xb σ)) :
  Calls prog 129 #[.pointer (some ⟨b,0,none⟩)] W fun r Y=>CdRet b g cap dv ts xb W (.int .i64 ((nameS ts (stepS (stepS σ))).exprs.length:Int)) (putS { ex0 with kind:=20,name:=str (tokL ts σ.at_).text,state:=str (nameV ts (stepS (stepS σ))),pos:=((tokL ts σ.at_).at_:Int) } (nameS ts (stepS (stepS σ)))) r Y:=by
 obtain⟨o,c,⟨c0,c1,c2,c3,fr⟩,hx⟩:=h.out.cells
 obtain⟨t0,t1,t2,t3⟩:=h.out.tok
 have hl:=h.out.at_
 have hbs:=h.out.size
 have hgs:g<W.heap.size:=by have:=h.out.lt;omega
 obtain⟨P,hP⟩:∃P,P=(tokL ts σ.at_).at_:=⟨_,rfl⟩
 obtain⟨m,hmm⟩:∃m,m=ts.length - σ.at_:=⟨_,rfl⟩
 obtain⟨a4,haa⟩:∃a4,a4=σ.at_*4:=⟨_,rfl⟩
 rw[←hmm,←haa] at c0
 rw[←hP,←haa] at t3
 rw[←hP]
 have k0:(0:Int)<(m:Int):=by omega
 obtain⟨xb',hxb'⟩:∃xb',xb'=xbA xb W.heap.size:=⟨_,rfl⟩
 obtain⟨W1,hW1⟩:∃W1,W1=W.alloc (.cells #[.int .i64 3,.int .i64 0,.int .i64 0,.int .i64 0,.string ⟨#[]⟩,.string ⟨#[]⟩,.int .i64 0,.slice none 0 0,.int .i64 (P:Int)] 46):=⟨_,rfl⟩
 have H1:Hid (Cd W1 b g cap dv ts xb' σ):=Hd (by rw[hW1,hxb'];exact h.out.newX _)
 have HA:Hid (W1.heap[W.heap.size]?=some (.cells #[.int .i64 3,.int .i64 0,.int .i64 0,.int .i64 0,.string ⟨#[]⟩,.string ⟨#[]⟩,.int .i64 0,.slice none 0 0,.int .i64 (P:Int)] 46 (0,0))):=Hd (by rw[hW1];exact heap_alloc_new W _)
 have HB1:Hid (RX b xb W W1):=Hd (RX.of_below (by rw[hW1];exact(qB _ _).alloc (qL _) _) (ql hbs) h.out.xlt)
 have HXA:Hid (xb' W.heap.size∧∀k,xb k→xb' k):=Hd (by rw[hxb'];exact⟨.inr rfl,xbA_le xb _⟩)
 have hnb:nameB ts σ=true:=by unfold nameB;rw[qT hc,qT hk];rfl
 have en:nameS ts σ=stepS σ:=by unfold nameS;rw[if_pos hnb]
 have ev:nameV ts σ=(tokL ts σ.at_).text:=by unfold nameV;rw[if_pos hnb]
 obtain⟨X,hX⟩:∃X,X=str (tokL ts σ.at_).text:=⟨_,rfl⟩
 rw[←hX]
 have NM:Hid (Calls prog 63 #[.pointer (some ⟨b,0,none⟩)] W1 fun r Y=>CdOk b g cap dv ts xb' W1 (.string X) (stepS σ) r Y):=Hd ((cname_any b g cap dv ts xb' σ W1 H1 hc).mono fun r Y hh=>by rw[en,ev,←hX] at hh;exact hh.ok hc)
 have TK:Hid (∀w,Hid (Cd w b g cap dv ts xb' (stepS σ))→Calls prog 62 #[.pointer (some ⟨b,0,none⟩),.string ⟨#[40]⟩] w fun r Y=>r=.returned (.bool false)∧Hid (Cd Y b g cap dv ts xb' (stepS σ))∧Hid (RX b xb' w Y)):=Hd fun w hw=>(takes_any b g cap dv ts xb' (stepS σ) [40] w hw hc (by decide)).mono fun r Y hh=>by unfold TakesRet tookS at hh;rw[h40] at hh;exact hh
 have TI:Hid (∀w,Hid (Cd w b g cap dv ts xb' (stepS σ))→Calls prog 62 #[.pointer (some ⟨b,0,none⟩),.string ⟨#[105,115]⟩] w fun r Y=>r=.returned (.bool true)∧Hid (Cd Y b g cap dv ts xb' (stepS (stepS σ)))∧Hid (RX b xb' w Y)):=Hd fun w hw=>(takes_any b g cap dv ts xb' (stepS σ) [105,115] w hw hc (by decide)).mono fun r Y hh=>by unfold TakesRet tookS at hh;rw[his] at hh;exact hh
 obtain⟨y,hy⟩:∃y,y=nameS ts (stepS (stepS σ)):=⟨_,rfl⟩
 obtain⟨S,hS⟩:∃S,S=str (nameV ts (stepS (stepS σ))):=⟨_,rfl⟩
 rw[←hy] at ok ⊢
 rw[←hS]
 have N2:Hid (∀w,Hid (Cd w b g cap dv ts xb' (stepS (stepS σ)))→Calls prog 63 #[.pointer (some ⟨b,0,none⟩)] w fun r Y=>CdRet b g cap dv ts xb' w (.string S) y r Y):=Hd fun w hw=>by
  have:=cname_any b g cap dv ts xb' (stepS (stepS σ)) w hw hc
  rw[←hy,←hS] at this
  exact this
 have HC:=Hd hc
 clear hmm haa t0 t1 t2 hl hx c1 c2 c3 fr hxb' hP hX hk hnb en ev h40 his hc hy hS
 by_cases hz:y.code=0
 ·have M2:Hid (∀w,Hid (Cd w b g cap dv ts xb' (stepS (stepS σ)))→Calls prog 63 #[.pointer (some ⟨b,0,none⟩)] w fun r Y=>CdOk b g cap dv ts xb' w (.string S) y r Y):=Hd fun w hw=>(N2.out w hw).mono fun r Y hh=>hh.ok hz
  have PU:Hid (∀W,Hid (Cd W b g cap dv ts xb y)→Calls prog 75 #[.pointer (some ⟨b,0,none⟩),.agg #[.int .i64 20,.int .i64 0,.int .i64 0,.int .i64 0,.string X,.string S,.int .i64 0,.slice none 0 0,.int .i64 (P:Int)]] W fun r Y=>CdOk b g cap dv ts xb W (.int .i64 (y.exprs.length:Int)) (putS { ex0 with kind:=20,name:=X,state:=S,pos:=(P:Int) } y) r Y):=Hd fun W h =>
   (cput_any b g cap dv ts xb y { ex0 with kind:=20,name:=X,state:=S,pos:=(P:Int) } none 0 0 W h hz (okS_iff.1 ok).1 (Hd (qO _ _ _ _)) (Hd fun k hk=>by cases hk)).mono fun r Y hh=>hh.ok hz
  have HZ:=Hd hz
  clear N2 hz
  go_enter Tryz.func129,Tryz.ntmps129
  go_wp2_with (first
   | (go_at_call 63;rw[←hW1];clear hW1;(with_reducible refine NM.out.mono ?_);rintro e w2 ⟨rfl,hr2,hk2⟩;have HA2:=Hd ((hk2.out.xs _ HXA.out.1).trans HA.out);obtain⟨⟨y0,y1,y2,y3,y4,y5,y6,y7,y8⟩,yf⟩:=nine_of HA2.out;have f4:=yf 4;clear yf;have HR3:=Hd (hr2.out.butX HXA.out.1 hbs ((But.refl _ _).set 4 (.string X)));have HA3:=Hd (set_blk HA2.out 4 (.string X)))
   | (go_at_call 62;(with_reducible refine(TK.out _ HR3).mono ?_);rintro e w4 ⟨rfl,hr4,hk4⟩;have HA4:=Hd ((hk4.out.xs _ HXA.out.1).trans HA3.out))
   | (go_at_call 62;(with_reducible refine(TI.out _ hr4).mono ?_);rintro e w5 ⟨rfl,hr5,hk5⟩;have HA5:=Hd (show w5.heap[W.heap.size]?=some (.cells #[.int .i64 3,.int .i64 0,.int .i64 0,.int .i64 0,.string X,.string ⟨#[]⟩,.int .i64 0,.slice none 0 0,.int .i64 (P:Int)] 46 (0,0)) by simpa using (hk5.out.xs _ HXA.out.1).trans HA4.out);obtain⟨⟨z0,z1,z2,z3,z4,z5,z6,z7,z8⟩,zf⟩:=nine_of HA5.out;have f0:=zf 0;clear zf;have HR5:=Hd (hr5.out.butX HXA.out.1 hbs ((But.refl _ _).set 0 (.int .i64 20)));have HA6:=Hd (set_blk HA5.out 0 (.int .i64 20)))
   | (go_at_call 63;(with_reducible refine(M2.out _ HR5).mono ?_);rintro e w6 ⟨rfl,hr6,hk6⟩;have HA7:=Hd (show w6.heap[W.heap.size]?=some (.cells #[.int .i64 20,.int .i64 0,.int .i64 0,.int .i64 0,.string X,.string ⟨#[]⟩,.int .i64 0,.slice none 0 0,.int .i64 (P:Int)] 46 (0,0)) by simpa using (hk6.out.xs _ HXA.out.1).trans HA6.out);obtain⟨⟨v0,v1,v2,v3,v4,v5,v6,v7,v8⟩,vf⟩:=nine_of HA7.out;have g5:=vf 5;clear vf;have HR7:=Hd ((hr6.out.butX HXA.out.1 hbs ((But.refl _ _).set 5 (.string S))).less HXA.out.2))
   | (go_at_call 75;(with_reducible refine(PU.out _ HR7).mono ?_);rintro e w8 ⟨rfl,hr8,hk8⟩))
  go_ret
  have K3:RX b xb W (w2.setCell ⟨W.heap.size,4,none⟩ (.string X)):=(HB1.out.trans (hk2.out.less HXA.out.2)).but h.out.xlt (qL _) hbs hbs ((But.refl _ _).set 4 _)
  have K5:=(K3.trans ((hk4.out.trans hk5.out).less HXA.out.2)).but h.out.xlt (qL _) hbs hbs ((But.refl W.heap.size w5).set 0 (.int .i64 20))
  have K7:=(K5.trans (hk6.out.less HXA.out.2)).but h.out.xlt (qL _) hbs hbs ((But.refl W.heap.size w6).set 5 (.string S))
  exact⟨K7.trans hk8.out,.inl ⟨HZ.out,rfl,hr8.out⟩⟩
 ·have M2:Hid (∀w,Hid (Cd w b g cap dv ts xb' (stepS (stepS σ)))→Calls prog 63 #[.pointer (some ⟨b,0,none⟩)] w fun r Y=>CdBad b xb' w y.code y.pos r Y):=Hd fun w hw=>(N2.out w hw).mono fun r Y hh=>hh.bad hz
  have HZ:=Hd hz
  clear N2 hz
  go_enter Tryz.func129,Tryz.ntmps129
  go_wp2_with (first
   | (go_at_call 63;rw[←hW1];clear hW1;(with_reducible refine NM.out.mono ?_);rintro e w2 ⟨rfl,hr2,hk2⟩;have HA2:=Hd ((hk2.out.xs _ HXA.out.1).trans HA.out);obtain⟨⟨y0,y1,y2,y3,y4,y5,y6,y7,y8⟩,yf⟩:=nine_of HA2.out;have f4:=yf 4;clear yf;have HR3:=Hd (hr2.out.butX HXA.out.1 hbs ((But.refl _ _).set 4 (.string X)));have HA3:=Hd (set_blk HA2.out 4 (.string X)))
   | (go_at_call 62;(with_reducible refine(TK.out _ HR3).mono ?_);rintro e w4 ⟨rfl,hr4,hk4⟩;have HA4:=Hd ((hk4.out.xs _ HXA.out.1).trans HA3.out))
   | (go_at_call 62;(with_reducible refine(TI.out _ hr4).mono ?_);rintro e w5 ⟨rfl,hr5,hk5⟩;have HA5:=Hd (show w5.heap[W.heap.size]?=some (.cells #[.int .i64 3,.int .i64 0,.int .i64 0,.int .i64 0,.string X,.string ⟨#[]⟩,.int .i64 0,.slice none 0 0,.int .i64 (P:Int)] 46 (0,0)) by simpa using (hk5.out.xs _ HXA.out.1).trans HA4.out);obtain⟨⟨z0,z1,z2,z3,z4,z5,z6,z7,z8⟩,zf⟩:=nine_of HA5.out;have f0:=zf 0;clear zf;have HR5:=Hd (hr5.out.butX HXA.out.1 hbs ((But.refl _ _).set 0 (.int .i64 20)));have HA6:=Hd (set_blk HA5.out 0 (.int .i64 20)))
   | (go_at_call 63;(with_reducible refine(M2.out _ HR5).mono ?_);rintro e w6 ⟨rfl,hk6⟩))
  have K3:RX b xb W (w2.setCell ⟨W.heap.size,4,none⟩ (.string X)):=(HB1.out.trans (hk2.out.less HXA.out.2)).but h.out.xlt (qL _) hbs hbs ((But.refl _ _).set 4 _)
  have K5:=(K3.trans ((hk4.out.trans hk5.out).less HXA.out.2)).but h.out.xlt (qL _) hbs hbs ((But.refl W.heap.size w5).set 0 (.int .i64 20))
  exact⟨rfl,K5.trans (hk6.out.less HXA.out.2),.inr ⟨HZ.out,rfl⟩⟩
theorem named_call (b g cap:Nat) (dv:Value) (ts:List Tok) (xb:Nat→Prop) (σ:RS) (hc:σ.code=0) (hk:(tokL ts σ.at_).kind=1) (τ:RS) (acc:List Int) (ok:okS τ=true) (h40:isS ts [40] (stepS σ)=true) (AR:∀xb w,Hid (Cd w b g cap dv ts xb (stepS (stepS σ)))→Calls prog 131 #[.pointer (some ⟨b,0,none⟩)] w fun r Y=>ArgsRet b g cap dv ts xb w acc τ r Y) (W:World) (h:Hid (Cd W b g cap dv ts xb σ)) :
  Calls prog 129 #[.pointer (some ⟨b,0,none⟩)] W fun r Y=>CdRet b g cap dv ts xb W (.int .i64 (τ.exprs.length:Int)) (putS { ex0 with kind:=19,name:=str (tokL ts σ.at_).text,args:=acc,pos:=((tokL ts σ.at_).at_:Int) } τ) r Y:=by
 obtain⟨o,c,⟨c0,c1,c2,c3,fr⟩,hx⟩:=h.out.cells
 obtain⟨t0,t1,t2,t3⟩:=h.out.tok
 have hl:=h.out.at_
 have hbs:=h.out.size
 have hgs:g<W.heap.size:=by have:=h.out.lt;omega
 obtain⟨P,hP⟩:∃P,P=(tokL ts σ.at_).at_:=⟨_,rfl⟩
 obtain⟨m,hmm⟩:∃m,m=ts.length - σ.at_:=⟨_,rfl⟩
 obtain⟨a4,haa⟩:∃a4,a4=σ.at_*4:=⟨_,rfl⟩
 rw[←hmm,←haa] at c0
 rw[←hP,←haa] at t3
 rw[←hP]
 have k0:(0:Int)<(m:Int):=by omega
 obtain⟨xb',hxb'⟩:∃xb',xb'=xbA xb W.heap.size:=⟨_,rfl⟩
 obtain⟨W1,hW1⟩:∃W1,W1=W.alloc (.cells #[.int .i64 3,.int .i64 0,.int .i64 0,.int .i64 0,.string ⟨#[]⟩,.string ⟨#[]⟩,.int .i64 0,.slice none 0 0,.int .i64 (P:Int)] 46):=⟨_,rfl⟩
 have H1:Hid (Cd W1 b g cap dv ts xb' σ):=Hd (by rw[hW1,hxb'];exact h.out.newX _)
 have HA:Hid (W1.heap[W.heap.size]?=some (.cells #[.int .i64 3,.int .i64 0,.int .i64 0,.int .i64 0,.string ⟨#[]⟩,.string ⟨#[]⟩,.int .i64 0,.slice none 0 0,.int .i64 (P:Int)] 46 (0,0))):=Hd (by rw[hW1];exact heap_alloc_new W _)
 have HB1:Hid (RX b xb W W1):=Hd (RX.of_below (by rw[hW1];exact(qB _ _).alloc (qL _) _) (ql hbs) h.out.xlt)
 have HXA:Hid (xb' W.heap.size∧∀k,xb k→xb' k):=Hd (by rw[hxb'];exact⟨.inr rfl,xbA_le xb _⟩)
 have hnb:nameB ts σ=true:=by unfold nameB;rw[qT hc,qT hk];rfl
 have en:nameS ts σ=stepS σ:=by unfold nameS;rw[if_pos hnb]
 have ev:nameV ts σ=(tokL ts σ.at_).text:=by unfold nameV;rw[if_pos hnb]
 obtain⟨X,hX⟩:∃X,X=str (tokL ts σ.at_).text:=⟨_,rfl⟩
 rw[←hX]
 have NM:Hid (Calls prog 63 #[.pointer (some ⟨b,0,none⟩)] W1 fun r Y=>CdOk b g cap dv ts xb' W1 (.string X) (stepS σ) r Y):=Hd ((cname_any b g cap dv ts xb' σ W1 H1 hc).mono fun r Y hh=>by rw[en,ev,←hX] at hh;exact hh.ok hc)
 have TK:Hid (∀w,Hid (Cd w b g cap dv ts xb' (stepS σ))→Calls prog 62 #[.pointer (some ⟨b,0,none⟩),.string ⟨#[40]⟩] w fun r Y=>r=.returned (.bool true)∧Hid (Cd Y b g cap dv ts xb' (stepS (stepS σ)))∧Hid (RX b xb' w Y)):=Hd fun w hw=>(takes_any b g cap dv ts xb' (stepS σ) [40] w hw hc (by decide)).mono fun r Y hh=>by unfold TakesRet tookS at hh;rw[h40] at hh;exact hh
 have HAR:=Hd (AR xb')
 have HX0:=Hd h.out.xlt
 obtain⟨n,hn⟩:∃n,n=acc.length:=⟨_,rfl⟩
 have HN:=Hd hn
 have HC:=Hd hc
 clear hmm haa t0 t1 t2 hl hx c1 c2 c3 fr hxb' hP hX hk hnb en ev h40 hc hn AR
 by_cases hz:τ.code=0
 ·have A2:Hid (∀w,Hid (Cd w b g cap dv ts xb' (stepS (stepS σ)))→Calls prog 131 #[.pointer (some ⟨b,0,none⟩)] w fun r Y=>∃o c,r=.returned (.slice o n c)∧Hid (∃xs:Nat→Prop,(∀k,xb' k→xs k)∧Cd Y b g cap dv ts xs τ)∧Hid (RX b xb' w Y)∧Hid (Y.ownsRow w.heap.size 3 1 (.slice o n c) acc.length (acc.map intC))):=Hd fun w hw=>(HAR.out w hw).mono fun r Y hh=>by
   rcases hh with ⟨_,o,c,h1,h2,h3,h4⟩ | ⟨h1,_⟩
   ·exact⟨o,c,by rw[HN.out];exact h1,h2,h3,Hd (by rw[HN.out];exact h4.out)⟩
   ·exact absurd hz h1
  have PU:Hid (∀W o c,Hid (Cd W b g cap dv ts xb τ)→Hid (W.ownsRow (b+1) 3 1 (.slice o n c) acc.length (acc.map intC))→Hid (∀k,(Value.slice o n c).ownBlock=some k→¬xb k)→Calls prog 75 #[.pointer (some ⟨b,0,none⟩),.agg #[.int .i64 19,.int .i64 0,.int .i64 0,.int .i64 0,.string X,.string ⟨#[]⟩,.int .i64 0,.slice o n c,.int .i64 (P:Int)]] W fun r Y=>CdOk b g cap dv ts xb W (.int .i64 (τ.exprs.length:Int)) (putS { ex0 with kind:=19,name:=X,args:=acc,pos:=(P:Int) } τ) r Y):=Hd fun W o c h h1 h2 =>
   (cput_any b g cap dv ts xb τ { ex0 with kind:=19,name:=X,args:=acc,pos:=(P:Int) } o n c W h hz (okS_iff.1 ok).1 h1 h2).mono fun r Y hh=>hh.ok hz
  have HZ:=Hd hz
  clear HAR hz
  go_enter Tryz.func129,Tryz.ntmps129
  go_wp2_with (first
   | (go_at_call 63;rw[←hW1];clear hW1;(with_reducible refine NM.out.mono ?_);rintro e w2 ⟨rfl,hr2,hk2⟩;have HA2:=Hd ((hk2.out.xs _ HXA.out.1).trans HA.out);obtain⟨⟨y0,y1,y2,y3,y4,y5,y6,y7,y8⟩,yf⟩:=nine_of HA2.out;have f4:=yf 4;clear yf;have HR3:=Hd (hr2.out.butX HXA.out.1 hbs ((But.refl _ _).set 4 (.string X)));have HA3:=Hd (set_blk HA2.out 4 (.string X)))
   | (go_at_call 62;(with_reducible refine(TK.out _ HR3).mono ?_);rintro e w5 ⟨rfl,hr5,hk5⟩;have HA5:=Hd (show w5.heap[W.heap.size]?=some (.cells #[.int .i64 3,.int .i64 0,.int .i64 0,.int .i64 0,.string X,.string ⟨#[]⟩,.int .i64 0,.slice none 0 0,.int .i64 (P:Int)] 46 (0,0)) by simpa using (hk5.out.xs _ HXA.out.1).trans HA3.out);obtain⟨⟨z0,z1,z2,z3,z4,z5,z6,z7,z8⟩,zf⟩:=nine_of HA5.out;have f0:=zf 0;clear zf;have HR5:=Hd (hr5.out.butX HXA.out.1 hbs ((But.refl _ _).set 0 (.int .i64 19)));have HA6:=Hd (set_blk HA5.out 0 (.int .i64 19)))
   | (go_at_call 131;(with_reducible refine(A2.out _ HR5).mono ?_);rintro e w6 ⟨oo,cc,rfl,hxs6,hk6,ho6⟩;have HA7:=Hd (show w6.heap[W.heap.size]?=some (.cells #[.int .i64 19,.int .i64 0,.int .i64 0,.int .i64 0,.string X,.string ⟨#[]⟩,.int .i64 0,.slice none 0 0,.int .i64 (P:Int)] 46 (0,0)) by simpa using (hk6.out.xs _ HXA.out.1).trans HA6.out);obtain⟨⟨v0,v1,v2,v3,v4,v5,v6,v7,v8⟩,vf⟩:=nine_of HA7.out;have g7:=vf 7;clear vf))
  have K3:RX b xb W (w2.setCell ⟨W.heap.size,4,none⟩ (.string X)):=(HB1.out.trans (hk2.out.less HXA.out.2)).but h.out.xlt (qL _) hbs hbs ((But.refl _ _).set 4 _)
  have K5:=(K3.trans (hk5.out.less HXA.out.2)).but h.out.xlt (qL _) hbs hbs ((But.refl W.heap.size w5).set 0 (.int .i64 19))
  have hsz:W.heap.size<w6.heap.size:=heap_lt HA7.out
  have hsz5:W.heap.size<w5.heap.size:=heap_lt HA5.out
  have K7:=(K5.trans (hk6.out.less HXA.out.2)).but h.out.xlt (qL _) hbs hbs ((But.refl W.heap.size w6).set 7 (.slice oo n cc))
  obtain⟨W7,hW7⟩:∃W7,W7=w6.setCell ⟨W.heap.size,7,none⟩ (.slice oo n cc):=⟨_,rfl⟩
  have HR7:Hid (Cd W7 b g cap dv ts xb τ):=Hd (by
   obtain⟨xs,hx1,hx2⟩:=hxs6.out
   rw[hW7]
   exact(hx2.butX (hx1 _ HXA.out.1) hbs ((But.refl _ _).set 7 _)).less fun k hk=>hx1 k (HXA.out.2 k hk))
  have own_ge:∀k,(Value.slice oo n cc).ownBlock=some k→w5.heap.size≤k:=fun k hk=>by have:=(ho6.out.lt k hk).1;simpa using this
  have HO7:Hid (W7.ownsRow (b+1) 3 1 (.slice oo n cc) acc.length (acc.map intC)):=Hd (by
   rw[hW7]
   exact own_base (rd_own_same ho6.out fun k e=>Below.heap_setCell w6 ⟨W.heap.size,7,none⟩ _ k (by have:=own_ge k e;intro e2;have:k=W.heap.size:=e2;omega)) (by simp;omega))
  have HX7:Hid (∀k,(Value.slice oo n cc).ownBlock=some k→¬xb k):=Hd fun k e hx=>by have:=own_ge k e;have:=HX0.out k hx;omega
  have HK7:=Hd K7
  rw[←hW7] at HK7 ⊢
  clear hW7 K3 K5 K7
  refine(PU.out _ _ _ HR7 HO7 HX7).mono ?_
  rintro e w8 ⟨rfl,hr8,hk8⟩
  dsimp only
  go_wp2_with fail
  go_ret
  exact⟨HK7.out.trans hk8.out,.inl ⟨HZ.out,rfl,hr8.out⟩⟩
 ·have A2:Hid (∀w,Hid (Cd w b g cap dv ts xb' (stepS (stepS σ)))→Calls prog 131 #[.pointer (some ⟨b,0,none⟩)] w fun r Y=>r=.panicked [{ v:=refusalV τ.code τ.pos,recovered:=false }]∧Hid (RX b xb' w Y)):=Hd fun w hw=>(HAR.out w hw).mono fun r Y hh=>by
   rcases hh with ⟨h1,_⟩ | ⟨_,h1,h2⟩
   ·exact absurd h1 hz
   ·exact⟨h1,h2⟩
  have HZ:=Hd hz
  clear HAR hz
  go_enter Tryz.func129,Tryz.ntmps129
  go_wp2_with (first
   | (go_at_call 63;rw[←hW1];clear hW1;(with_reducible refine NM.out.mono ?_);rintro e w2 ⟨rfl,hr2,hk2⟩;have HA2:=Hd ((hk2.out.xs _ HXA.out.1).trans HA.out);obtain⟨⟨y0,y1,y2,y3,y4,y5,y6,y7,y8⟩,yf⟩:=nine_of HA2.out;have f4:=yf 4;clear yf;have HR3:=Hd (hr2.out.butX HXA.out.1 hbs ((But.refl _ _).set 4 (.string X)));have HA3:=Hd (set_blk HA2.out 4 (.string X)))
   | (go_at_call 62;(with_reducible refine(TK.out _ HR3).mono ?_);rintro e w5 ⟨rfl,hr5,hk5⟩;have HA5:=Hd (show w5.heap[W.heap.size]?=some (.cells #[.int .i64 3,.int .i64 0,.int .i64 0,.int .i64 0,.string X,.string ⟨#[]⟩,.int .i64 0,.slice none 0 0,.int .i64 (P:Int)] 46 (0,0)) by simpa using (hk5.out.xs _ HXA.out.1).trans HA3.out);obtain⟨⟨z0,z1,z2,z3,z4,z5,z6,z7,z8⟩,zf⟩:=nine_of HA5.out;have f0:=zf 0;clear zf;have HR5:=Hd (hr5.out.butX HXA.out.1 hbs ((But.refl _ _).set 0 (.int .i64 19)));have HA6:=Hd (set_blk HA5.out 0 (.int .i64 19)))
   | (go_at_call 131;(with_reducible refine(A2.out _ HR5).mono ?_);rintro e w6 ⟨rfl,hk6⟩))
  have K3:RX b xb W (w2.setCell ⟨W.heap.size,4,none⟩ (.string X)):=(HB1.out.trans (hk2.out.less HXA.out.2)).but h.out.xlt (qL _) hbs hbs ((But.refl _ _).set 4 _)
  have K5:=(K3.trans (hk5.out.less HXA.out.2)).but h.out.xlt (qL _) hbs hbs ((But.refl W.heap.size w5).set 0 (.int .i64 19))
  exact⟨rfl,K5.trans (hk6.out.less HXA.out.2),.inr ⟨HZ.out,rfl⟩⟩
theorem catom_num (b g cap:Nat) (dv:Value) (ts:List Tok) (xb:Nat→Prop) (σ:RS) (hc:σ.code=0) (hk:(tokL ts σ.at_).kind=2) (ok:okS (stepS σ)=true) (W:World) (h:Hid (Cd W b g cap dv ts xb σ)) :
  Calls prog 125 #[.pointer (some ⟨b,0,none⟩)] W fun r Y=>CdRet b g cap dv ts xb W (.int .i64 (σ.exprs.length:Int)) (putS { ex0 with kind:=1,v:=(tokL ts σ.at_).v,pos:=((tokL ts σ.at_).at_:Int) } (stepS σ)) r Y:=by
 obtain⟨o,c,⟨c0,c1,c2,c3,fr⟩,hx⟩:=h.out.cells
 obtain⟨t0,t1,t2,t3⟩:=h.out.tok
 have hl:=h.out.at_
 have hbs:=h.out.size
 have hgs:g<W.heap.size:=by have:=h.out.lt;omega
 obtain⟨K,hK⟩:∃K:Int,K=((tokL ts σ.at_).kind:Int):=⟨_,rfl⟩
 obtain⟨X,hX⟩:∃X,X=str (tokL ts σ.at_).text:=⟨_,rfl⟩
 obtain⟨V,hV⟩:∃V,V=(tokL ts σ.at_).v:=⟨_,rfl⟩
 obtain⟨P,hP⟩:∃P:Int,P=((tokL ts σ.at_).at_:Int):=⟨_,rfl⟩
 obtain⟨m,hmm⟩:∃m,m=ts.length - σ.at_:=⟨_,rfl⟩
 obtain⟨a4,haa⟩:∃a4,a4=σ.at_*4:=⟨_,rfl⟩
 rw[←hmm,←haa] at c0
 rw[←hK,←haa] at t0
 rw[←hX,←haa] at t1
 rw[←hV,←haa] at t2
 rw[←hP,←haa] at t3
 have k0:(0:Int)<(m:Int):=by omega
 obtain⟨W1,hW1⟩:∃W1,W1=W.alloc (.cells #[.int .i64 K,.string X,.int .i64 V,.int .i64 P] 43):=⟨_,rfl⟩
 have hb1:Below W.heap.size W W1:=by rw[hW1];exact(qB _ _).alloc (qL _) _
 have H1:Hid (Cd W1 b g cap dv ts xb σ):=Hd (h.out.below hb1)
 have HA:Hid (W1.heap[W.heap.size]?=some (.cells #[.int .i64 K,.string X,.int .i64 V,.int .i64 P] 43 (0,0))):=Hd (by rw[hW1];exact heap_alloc_new W _)
 have HB1:Hid (RX b xb W W1):=Hd (RX.of_below hb1 (ql hbs) h.out.xlt)
 have hne:W.heap.size≠b:=by omega
 rw[←hV,←hP]
 have q2:(K ==2)=true:=by rw[hK,hk];rfl
 have TA:=Hd (take_any b g cap dv ts xb σ W1 H1 (by omega))
 unfold TakeRet tokV at TA
 rw[←hK,←hX,←hV,←hP] at TA
 have PU:Hid (∀W,Hid (Cd W b g cap dv ts xb (stepS σ))→Calls prog 75 #[.pointer (some ⟨b,0,none⟩),.agg #[.int .i64 1,.int .i64 0,.int .i64 0,.int .i64 0,.string ⟨#[]⟩,.string ⟨#[]⟩,.int .i64 V,.slice none 0 0,.int .i64 P]] W fun r Y=>CdOk b g cap dv ts xb W (.int .i64 (σ.exprs.length:Int)) (putS { ex0 with kind:=1,v:=V,pos:=P } (stepS σ)) r Y):=Hd fun W h =>
  (cput_any b g cap dv ts xb (stepS σ) { ex0 with kind:=1,v:=V,pos:=P } none 0 0 W h hc (okS_iff.1 ok).1 (Hd (qO _ _ _ _)) (Hd fun k hk=>by cases hk)).mono fun r Y hh=>hh.ok hc
 have HC:=Hd hc
 clear hmm haa hl hx c1 c2 c3 fr hK hX hV hP hb1 hc hk ok
 go_enter Tryz.func125,Tryz.ntmps125
 go_wp2_with (first
  | (go_at_call 61;rw[←hW1];clear hW1;(with_reducible refine TA.out.mono ?_);rintro e w2 ⟨rfl,hr2,hk2⟩;have HA2:=Hd (hk2.out.keep W.heap.size _ HA.out hne NoEx.tok);obtain⟨⟨x20,x21,x22,x23⟩,xf2⟩:=four_of HA2.out;clear xf2)
  | (go_at_call 75;(with_reducible refine(PU.out _ hr2).mono ?_);rintro e w3 ⟨rfl,hr3,hk3⟩))
 go_ret
 exact⟨(HB1.out.trans hk2.out).trans hk3.out,.inl ⟨HC.out,rfl,hr3.out⟩⟩
theorem catom_true (b g cap:Nat) (dv:Value) (ts:List Tok) (xb:Nat→Prop) (σ:RS) (hc:σ.code=0) (hk:(tokL ts σ.at_).kind≠2) (hi:isS ts [116,114,117,101] σ=true) (ok:okS (stepS σ)=true) (W:World) (h:Hid (Cd W b g cap dv ts xb σ)) :
  Calls prog 125 #[.pointer (some ⟨b,0,none⟩)] W fun r Y=>CdRet b g cap dv ts xb W (.int .i64 (σ.exprs.length:Int)) (putS { ex0 with kind:=2,v:=1,pos:=((tokL ts σ.at_).at_:Int) } (stepS σ)) r Y:=by
 obtain⟨o,c,⟨c0,c1,c2,c3,fr⟩,hx⟩:=h.out.cells
 obtain⟨t0,t1,t2,t3⟩:=h.out.tok
 have hl:=h.out.at_
 have hbs:=h.out.size
 have hgs:g<W.heap.size:=by have:=h.out.lt;omega
 obtain⟨K,hK⟩:∃K:Int,K=((tokL ts σ.at_).kind:Int):=⟨_,rfl⟩
 obtain⟨X,hX⟩:∃X,X=str (tokL ts σ.at_).text:=⟨_,rfl⟩
 obtain⟨V,hV⟩:∃V,V=(tokL ts σ.at_).v:=⟨_,rfl⟩
 obtain⟨P,hP⟩:∃P:Int,P=((tokL ts σ.at_).at_:Int):=⟨_,rfl⟩
 obtain⟨m,hmm⟩:∃m,m=ts.length - σ.at_:=⟨_,rfl⟩
 obtain⟨a4,haa⟩:∃a4,a4=σ.at_*4:=⟨_,rfl⟩
 rw[←hmm,←haa] at c0
 rw[←hK,←haa] at t0
 rw[←hX,←haa] at t1
 rw[←hV,←haa] at t2
 rw[←hP,←haa] at t3
 have k0:(0:Int)<(m:Int):=by omega
 obtain⟨W1,hW1⟩:∃W1,W1=W.alloc (.cells #[.int .i64 K,.string X,.int .i64 V,.int .i64 P] 43):=⟨_,rfl⟩
 have hb1:Below W.heap.size W W1:=by rw[hW1];exact(qB _ _).alloc (qL _) _
 have H1:Hid (Cd W1 b g cap dv ts xb σ):=Hd (h.out.below hb1)
 have HA:Hid (W1.heap[W.heap.size]?=some (.cells #[.int .i64 K,.string X,.int .i64 V,.int .i64 P] 43 (0,0))):=Hd (by rw[hW1];exact heap_alloc_new W _)
 have HB1:Hid (RX b xb W W1):=Hd (RX.of_below hb1 (ql hbs) h.out.xlt)
 have hne:W.heap.size≠b:=by omega
 rw[←hP]
 have q2:(K ==2)=false:=beq_false_of_ne (by omega)
 have TT:Hid (∀w,Hid (Cd w b g cap dv ts xb σ)→Calls prog 62 #[.pointer (some ⟨b,0,none⟩),.string ⟨#[116,114,117,101]⟩] w fun r Y=>r=.returned (.bool true)∧Hid (Cd Y b g cap dv ts xb (stepS σ))∧Hid (RX b xb w Y)):=Hd fun w hw=>(takes_any b g cap dv ts xb σ [116,114,117,101] w hw hc (by decide)).mono fun r Y hh=>by unfold TakesRet tookS at hh;rw[hi] at hh;exact hh
 have PU:Hid (∀W,Hid (Cd W b g cap dv ts xb (stepS σ))→Calls prog 75 #[.pointer (some ⟨b,0,none⟩),.agg #[.int .i64 2,.int .i64 0,.int .i64 0,.int .i64 0,.string ⟨#[]⟩,.string ⟨#[]⟩,.int .i64 1,.slice none 0 0,.int .i64 P]] W fun r Y=>CdOk b g cap dv ts xb W (.int .i64 (σ.exprs.length:Int)) (putS { ex0 with kind:=2,v:=1,pos:=P } (stepS σ)) r Y):=Hd fun W h =>
  (cput_any b g cap dv ts xb (stepS σ) { ex0 with kind:=2,v:=1,pos:=P } none 0 0 W h hc (okS_iff.1 ok).1 (Hd (qO _ _ _ _)) (Hd fun k hk=>by cases hk)).mono fun r Y hh=>hh.ok hc
 have HC:=Hd hc
 clear hmm haa hl hx c1 c2 c3 fr hK hX hV hP hb1 hc hk ok hi
 go_enter Tryz.func125,Tryz.ntmps125
 go_wp2_with (first
  | (go_at_call 62;rw[←hW1];clear hW1;(with_reducible refine(TT.out _ H1).mono ?_);rintro e w2 ⟨rfl,hr2,hk2⟩;have HA2:=Hd (hk2.out.keep W.heap.size _ HA.out hne NoEx.tok);obtain⟨⟨x20,x21,x22,x23⟩,xf2⟩:=four_of HA2.out;clear xf2)
  | (go_at_call 75;(with_reducible refine(PU.out _ hr2).mono ?_);rintro e w3 ⟨rfl,hr3,hk3⟩))
 go_ret
 exact⟨(HB1.out.trans hk2.out).trans hk3.out,.inl ⟨HC.out,rfl,hr3.out⟩⟩
theorem catom_false (b g cap:Nat) (dv:Value) (ts:List Tok) (xb:Nat→Prop) (σ:RS) (hc:σ.code=0) (hk:(tokL ts σ.at_).kind≠2) (h1:isS ts [116,114,117,101] σ=false) (hi:isS ts [102,97,108,115,101] σ=true) (ok:okS (stepS σ)=true) (W:World) (h:Hid (Cd W b g cap dv ts xb σ)) :
  Calls prog 125 #[.pointer (some ⟨b,0,none⟩)] W fun r Y=>CdRet b g cap dv ts xb W (.int .i64 (σ.exprs.length:Int)) (putS { ex0 with kind:=2,pos:=((tokL ts σ.at_).at_:Int) } (stepS σ)) r Y:=by
 obtain⟨o,c,⟨c0,c1,c2,c3,fr⟩,hx⟩:=h.out.cells
 obtain⟨t0,t1,t2,t3⟩:=h.out.tok
 have hl:=h.out.at_
 have hbs:=h.out.size
 have hgs:g<W.heap.size:=by have:=h.out.lt;omega
 obtain⟨K,hK⟩:∃K:Int,K=((tokL ts σ.at_).kind:Int):=⟨_,rfl⟩
 obtain⟨X,hX⟩:∃X,X=str (tokL ts σ.at_).text:=⟨_,rfl⟩
 obtain⟨V,hV⟩:∃V,V=(tokL ts σ.at_).v:=⟨_,rfl⟩
 obtain⟨P,hP⟩:∃P:Int,P=((tokL ts σ.at_).at_:Int):=⟨_,rfl⟩
 obtain⟨m,hmm⟩:∃m,m=ts.length - σ.at_:=⟨_,rfl⟩
 obtain⟨a4,haa⟩:∃a4,a4=σ.at_*4:=⟨_,rfl⟩
 rw[←hmm,←haa] at c0
 rw[←hK,←haa] at t0
 rw[←hX,←haa] at t1
 rw[←hV,←haa] at t2
 rw[←hP,←haa] at t3
 have k0:(0:Int)<(m:Int):=by omega
 obtain⟨W1,hW1⟩:∃W1,W1=W.alloc (.cells #[.int .i64 K,.string X,.int .i64 V,.int .i64 P] 43):=⟨_,rfl⟩
 have hb1:Below W.heap.size W W1:=by rw[hW1];exact(qB _ _).alloc (qL _) _
 have H1:Hid (Cd W1 b g cap dv ts xb σ):=Hd (h.out.below hb1)
 have HA:Hid (W1.heap[W.heap.size]?=some (.cells #[.int .i64 K,.string X,.int .i64 V,.int .i64 P] 43 (0,0))):=Hd (by rw[hW1];exact heap_alloc_new W _)
 have HB1:Hid (RX b xb W W1):=Hd (RX.of_below hb1 (ql hbs) h.out.xlt)
 have hne:W.heap.size≠b:=by omega
 rw[←hP]
 have q2:(K ==2)=false:=beq_false_of_ne (by omega)
 have TT:Hid (∀w,Hid (Cd w b g cap dv ts xb σ)→Calls prog 62 #[.pointer (some ⟨b,0,none⟩),.string ⟨#[116,114,117,101]⟩] w fun r Y=>r=.returned (.bool false)∧Hid (Cd Y b g cap dv ts xb σ)∧Hid (RX b xb w Y)):=Hd fun w hw=>(takes_any b g cap dv ts xb σ [116,114,117,101] w hw hc (by decide)).mono fun r Y hh=>by unfold TakesRet tookS at hh;rw[h1] at hh;exact hh
 have TF:Hid (∀w,Hid (Cd w b g cap dv ts xb σ)→Calls prog 62 #[.pointer (some ⟨b,0,none⟩),.string ⟨#[102,97,108,115,101]⟩] w fun r Y=>r=.returned (.bool true)∧Hid (Cd Y b g cap dv ts xb (stepS σ))∧Hid (RX b xb w Y)):=Hd fun w hw=>(takes_any b g cap dv ts xb σ [102,97,108,115,101] w hw hc (by decide)).mono fun r Y hh=>by unfold TakesRet tookS at hh;rw[hi] at hh;exact hh
 have PU:Hid (∀W,Hid (Cd W b g cap dv ts xb (stepS σ))→Calls prog 75 #[.pointer (some ⟨b,0,none⟩),.agg #[.int .i64 2,.int .i64 0,.int .i64 0,.int .i64 0,.string ⟨#[]⟩,.string ⟨#[]⟩,.int .i64 0,.slice none 0 0,.int .i64 P]] W fun r Y=>CdOk b g cap dv ts xb W (.int .i64 (σ.exprs.length:Int)) (putS { ex0 with kind:=2,pos:=P } (stepS σ)) r Y):=Hd fun W h =>
  (cput_any b g cap dv ts xb (stepS σ) { ex0 with kind:=2,pos:=P } none 0 0 W h hc (okS_iff.1 ok).1 (Hd (qO _ _ _ _)) (Hd fun k hk=>by cases hk)).mono fun r Y hh=>hh.ok hc
 have HC:=Hd hc
 clear hmm haa hl hx c1 c2 c3 fr hK hX hV hP hb1 hc hk ok hi h1
 go_enter Tryz.func125,Tryz.ntmps125
 go_wp2_with (first
  | (go_at_call 62;rw[←hW1];clear hW1;(with_reducible refine(TT.out _ H1).mono ?_);rintro e w2 ⟨rfl,hr2,hk2⟩;have HA2:=Hd (hk2.out.keep W.heap.size _ HA.out hne NoEx.tok);obtain⟨⟨x20,x21,x22,x23⟩,xf2⟩:=four_of HA2.out;clear xf2)
  | (go_at_call 62;(with_reducible refine(TF.out _ hr2).mono ?_);rintro e w3 ⟨rfl,hr3,hk3⟩;have HA3:=Hd (hk3.out.keep W.heap.size _ HA2.out hne NoEx.tok);obtain⟨⟨x30,x31,x32,x33⟩,xf3⟩:=four_of HA3.out;clear xf3)
  | (go_at_call 75;(with_reducible refine(PU.out _ hr3).mono ?_);rintro e w4 ⟨rfl,hr4,hk4⟩))
 go_ret
 exact⟨((HB1.out.trans hk2.out).trans hk3.out).trans hk4.out,.inl ⟨HC.out,rfl,hr4.out⟩⟩
theorem catom_name (b g cap:Nat) (dv:Value) (ts:List Tok) (xb:Nat→Prop) (σ:RS) (hc:σ.code=0) (hk:(tokL ts σ.at_).kind=1) (h1:isS ts [116,114,117,101] σ=false) (h2:isS ts [102,97,108,115,101] σ=false) (v:Int) (τ:RS) (C:∀W,Hid (Cd W b g cap dv ts xb σ)→Calls prog 129 #[.pointer (some ⟨b,0,none⟩)] W fun r Y=>CdRet b g cap dv ts xb W (.int .i64 v) τ r Y) (W:World) (h:Hid (Cd W b g cap dv ts xb σ)) :
  Calls prog 125 #[.pointer (some ⟨b,0,none⟩)] W fun r Y=>CdRet b g cap dv ts xb W (.int .i64 v) τ r Y:=by
 obtain⟨o,c,⟨c0,c1,c2,c3,fr⟩,hx⟩:=h.out.cells
 obtain⟨t0,t1,t2,t3⟩:=h.out.tok
 have hl:=h.out.at_
 have hbs:=h.out.size
 have hgs:g<W.heap.size:=by have:=h.out.lt;omega
 obtain⟨K,hK⟩:∃K:Int,K=((tokL ts σ.at_).kind:Int):=⟨_,rfl⟩
 obtain⟨X,hX⟩:∃X,X=str (tokL ts σ.at_).text:=⟨_,rfl⟩
 obtain⟨V,hV⟩:∃V,V=(tokL ts σ.at_).v:=⟨_,rfl⟩
 obtain⟨P,hP⟩:∃P:Int,P=((tokL ts σ.at_).at_:Int):=⟨_,rfl⟩
 obtain⟨m,hmm⟩:∃m,m=ts.length - σ.at_:=⟨_,rfl⟩
 obtain⟨a4,haa⟩:∃a4,a4=σ.at_*4:=⟨_,rfl⟩
 rw[←hmm,←haa] at c0
 rw[←hK,←haa] at t0
 rw[←hX,←haa] at t1
 rw[←hV,←haa] at t2
 rw[←hP,←haa] at t3
 have k0:(0:Int)<(m:Int):=by omega
 obtain⟨W1,hW1⟩:∃W1,W1=W.alloc (.cells #[.int .i64 K,.string X,.int .i64 V,.int .i64 P] 43):=⟨_,rfl⟩
 have hb1:Below W.heap.size W W1:=by rw[hW1];exact(qB _ _).alloc (qL _) _
 have H1:Hid (Cd W1 b g cap dv ts xb σ):=Hd (h.out.below hb1)
 have HA:Hid (W1.heap[W.heap.size]?=some (.cells #[.int .i64 K,.string X,.int .i64 V,.int .i64 P] 43 (0,0))):=Hd (by rw[hW1];exact heap_alloc_new W _)
 have HB1:Hid (RX b xb W W1):=Hd (RX.of_below hb1 (ql hbs) h.out.xlt)
 have hne:W.heap.size≠b:=by omega
 have q2:(K ==2)=false:=beq_false_of_ne (by omega)
 have q1:(K ==1)=true:=by rw[hK,hk];rfl
 have TT:Hid (∀w,Hid (Cd w b g cap dv ts xb σ)→Calls prog 62 #[.pointer (some ⟨b,0,none⟩),.string ⟨#[116,114,117,101]⟩] w fun r Y=>r=.returned (.bool false)∧Hid (Cd Y b g cap dv ts xb σ)∧Hid (RX b xb w Y)):=Hd fun w hw=>(takes_any b g cap dv ts xb σ [116,114,117,101] w hw hc (by decide)).mono fun r Y hh=>by unfold TakesRet tookS at hh;rw[h1] at hh;exact hh
 have TF:Hid (∀w,Hid (Cd w b g cap dv ts xb σ)→Calls prog 62 #[.pointer (some ⟨b,0,none⟩),.string ⟨#[102,97,108,115,101]⟩] w fun r Y=>r=.returned (.bool false)∧Hid (Cd Y b g cap dv ts xb σ)∧Hid (RX b xb w Y)):=Hd fun w hw=>(takes_any b g cap dv ts xb σ [102,97,108,115,101] w hw hc (by decide)).mono fun r Y hh=>by unfold TakesRet tookS at hh;rw[h2] at hh;exact hh
 have HCC:=Hd C
 have HC:=Hd hc
 clear hmm haa hl hx c1 c2 c3 fr hK hX hV hP hb1 hc hk h1 h2 C
 by_cases hz:τ.code=0
 ·have C1:Hid (∀W,Hid (Cd W b g cap dv ts xb σ)→Calls prog 129 #[.pointer (some ⟨b,0,none⟩)] W fun r Y=>CdOk b g cap dv ts xb W (.int .i64 v) τ r Y):=Hd fun W h=>(HCC.out W h).mono fun r Y hh=>hh.ok hz
  have HZ:=Hd hz
  clear HCC hz
  go_enter Tryz.func125,Tryz.ntmps125
  go_wp2_with (first
   | (go_at_call 62;rw[←hW1];clear hW1;(with_reducible refine(TT.out _ H1).mono ?_);rintro e w2 ⟨rfl,hr2,hk2⟩;have HA2:=Hd (hk2.out.keep W.heap.size _ HA.out hne NoEx.tok);obtain⟨⟨x20,x21,x22,x23⟩,xf2⟩:=four_of HA2.out;clear xf2)
   | (go_at_call 62;(with_reducible refine(TF.out _ hr2).mono ?_);rintro e w3 ⟨rfl,hr3,hk3⟩;have HA3:=Hd (hk3.out.keep W.heap.size _ HA2.out hne NoEx.tok);obtain⟨⟨x30,x31,x32,x33⟩,xf3⟩:=four_of HA3.out;clear xf3)
   | (go_at_call 129;(with_reducible refine(C1.out _ hr3).mono ?_);rintro e w4 ⟨rfl,hr4,hk4⟩))
  go_ret
  exact⟨((HB1.out.trans hk2.out).trans hk3.out).trans hk4.out,.inl ⟨HZ.out,rfl,hr4.out⟩⟩
 ·have C1:Hid (∀W,Hid (Cd W b g cap dv ts xb σ)→Calls prog 129 #[.pointer (some ⟨b,0,none⟩)] W fun r Y=>CdBad b xb W τ.code τ.pos r Y):=Hd fun W h=>(HCC.out W h).mono fun r Y hh=>hh.bad hz
  have HZ:=Hd hz
  clear HCC hz
  go_enter Tryz.func125,Tryz.ntmps125
  go_wp2_with (first
   | (go_at_call 62;rw[←hW1];clear hW1;(with_reducible refine(TT.out _ H1).mono ?_);rintro e w2 ⟨rfl,hr2,hk2⟩;have HA2:=Hd (hk2.out.keep W.heap.size _ HA.out hne NoEx.tok);obtain⟨⟨x20,x21,x22,x23⟩,xf2⟩:=four_of HA2.out;clear xf2)
   | (go_at_call 62;(with_reducible refine(TF.out _ hr2).mono ?_);rintro e w3 ⟨rfl,hr3,hk3⟩;have HA3:=Hd (hk3.out.keep W.heap.size _ HA2.out hne NoEx.tok);obtain⟨⟨x30,x31,x32,x33⟩,xf3⟩:=four_of HA3.out;clear xf3)
   | (go_at_call 129;(with_reducible refine(C1.out _ hr3).mono ?_);rintro e w4 ⟨rfl,hk4⟩))
  exact⟨rfl,((HB1.out.trans hk2.out).trans hk3.out).trans hk4.out,.inr ⟨HZ.out,rfl⟩⟩
theorem catom_par (b g cap:Nat) (dv:Value) (ts:List Tok) (xb:Nat→Prop) (σ:RS) (hc:σ.code=0) (hk1:(tokL ts σ.at_).kind≠1) (hk2:(tokL ts σ.at_).kind≠2) (h1:isS ts [116,114,117,101] σ=false) (h2:isS ts [102,97,108,115,101] σ=false) (h3:isS ts [40] σ=true) (v:Int) (τ:RS) (C:∀W,Hid (Cd W b g cap dv ts xb (stepS σ))→Calls prog 26 #[.pointer (some ⟨b,0,none⟩)] W fun r Y=>CdRet b g cap dv ts xb W (.int .i64 v) τ r Y) (hst:τ.code≠0→wantS ts [41] τ=τ) (W:World) (h:Hid (Cd W b g cap dv ts xb σ)) :
  Calls prog 125 #[.pointer (some ⟨b,0,none⟩)] W fun r Y=>CdRet b g cap dv ts xb W (.int .i64 v) (wantS ts [41] τ) r Y:=by
 obtain⟨o,c,⟨c0,c1,c2,c3,fr⟩,hx⟩:=h.out.cells
 obtain⟨t0,t1,t2,t3⟩:=h.out.tok
 have hl:=h.out.at_
 have hbs:=h.out.size
 have hgs:g<W.heap.size:=by have:=h.out.lt;omega
 obtain⟨K,hK⟩:∃K:Int,K=((tokL ts σ.at_).kind:Int):=⟨_,rfl⟩
 obtain⟨X,hX⟩:∃X,X=str (tokL ts σ.at_).text:=⟨_,rfl⟩
 obtain⟨V,hV⟩:∃V,V=(tokL ts σ.at_).v:=⟨_,rfl⟩
 obtain⟨P,hP⟩:∃P:Int,P=((tokL ts σ.at_).at_:Int):=⟨_,rfl⟩
 obtain⟨m,hmm⟩:∃m,m=ts.length - σ.at_:=⟨_,rfl⟩
 obtain⟨a4,haa⟩:∃a4,a4=σ.at_*4:=⟨_,rfl⟩
 rw[←hmm,←haa] at c0
 rw[←hK,←haa] at t0
 rw[←hX,←haa] at t1
 rw[←hV,←haa] at t2
 rw[←hP,←haa] at t3
 have k0:(0:Int)<(m:Int):=by omega
 obtain⟨W1,hW1⟩:∃W1,W1=W.alloc (.cells #[.int .i64 K,.string X,.int .i64 V,.int .i64 P] 43):=⟨_,rfl⟩
 have hb1:Below W.heap.size W W1:=by rw[hW1];exact(qB _ _).alloc (qL _) _
 have H1:Hid (Cd W1 b g cap dv ts xb σ):=Hd (h.out.below hb1)
 have HA:Hid (W1.heap[W.heap.size]?=some (.cells #[.int .i64 K,.string X,.int .i64 V,.int .i64 P] 43 (0,0))):=Hd (by rw[hW1];exact heap_alloc_new W _)
 have HB1:Hid (RX b xb W W1):=Hd (RX.of_below hb1 (ql hbs) h.out.xlt)
 have hne:W.heap.size≠b:=by omega
 have q2:(K ==2)=false:=beq_false_of_ne (by omega)
 have q1:(K ==1)=false:=beq_false_of_ne (by omega)
 have TT:Hid (∀w,Hid (Cd w b g cap dv ts xb σ)→Calls prog 62 #[.pointer (some ⟨b,0,none⟩),.string ⟨#[116,114,117,101]⟩] w fun r Y=>r=.returned (.bool false)∧Hid (Cd Y b g cap dv ts xb σ)∧Hid (RX b xb w Y)):=Hd fun w hw=>(takes_any b g cap dv ts xb σ [116,114,117,101] w hw hc (by decide)).mono fun r Y hh=>by unfold TakesRet tookS at hh;rw[h1] at hh;exact hh
 have TF:Hid (∀w,Hid (Cd w b g cap dv ts xb σ)→Calls prog 62 #[.pointer (some ⟨b,0,none⟩),.string ⟨#[102,97,108,115,101]⟩] w fun r Y=>r=.returned (.bool false)∧Hid (Cd Y b g cap dv ts xb σ)∧Hid (RX b xb w Y)):=Hd fun w hw=>(takes_any b g cap dv ts xb σ [102,97,108,115,101] w hw hc (by decide)).mono fun r Y hh=>by unfold TakesRet tookS at hh;rw[h2] at hh;exact hh
 have TP:Hid (∀w,Hid (Cd w b g cap dv ts xb σ)→Calls prog 62 #[.pointer (some ⟨b,0,none⟩),.string ⟨#[40]⟩] w fun r Y=>r=.returned (.bool true)∧Hid (Cd Y b g cap dv ts xb (stepS σ))∧Hid (RX b xb w Y)):=Hd fun w hw=>(takes_any b g cap dv ts xb σ [40] w hw hc (by decide)).mono fun r Y hh=>by unfold TakesRet tookS at hh;rw[h3] at hh;exact hh
 have HCC:=Hd C
 have HST:=Hd hst
 have HC:=Hd hc
 clear hmm haa hl hx c1 c2 c3 fr hK hX hV hP hb1 hc hk1 hk2 h1 h2 h3 C hst
 by_cases hz:τ.code=0
 ·have C1:Hid (∀W,Hid (Cd W b g cap dv ts xb (stepS σ))→Calls prog 26 #[.pointer (some ⟨b,0,none⟩)] W fun r Y=>CdOk b g cap dv ts xb W (.int .i64 v) τ r Y):=Hd fun W h=>(HCC.out W h).mono fun r Y hh=>hh.ok hz
  by_cases hw:(wantS ts [41] τ).code=0
  ·have WA:Hid (∀w,Hid (Cd w b g cap dv ts xb τ)→Calls prog 67 #[.pointer (some ⟨b,0,none⟩),.slice (some ⟨w.heap.size,0,none⟩) 1 1] (w.alloc (.cells #[.string ⟨#[41]⟩] 9)) fun r Y=>CdOk b g cap dv ts xb w (.tuple #[]) (wantS ts [41] τ) r Y):=Hd fun w h=>(wants_one b g cap dv ts xb τ [41] w h hz (by decide)).mono fun r Y hh=>hh.ok hw
   have HW:=Hd hw
   clear HCC HST hz hw
   go_enter Tryz.func125,Tryz.ntmps125
   go_wp2_with (first
   | (go_at_call 62;rw[←hW1];clear hW1;(with_reducible refine(TT.out _ H1).mono ?_);rintro e w2 ⟨rfl,hr2,hk2⟩;have HA2:=Hd (hk2.out.keep W.heap.size _ HA.out hne NoEx.tok);obtain⟨⟨x20,x21,x22,x23⟩,xf2⟩:=four_of HA2.out;clear xf2)
   | (go_at_call 62;(with_reducible refine(TF.out _ hr2).mono ?_);rintro e w3 ⟨rfl,hr3,hk3⟩;have HA3:=Hd (hk3.out.keep W.heap.size _ HA2.out hne NoEx.tok);obtain⟨⟨x30,x31,x32,x33⟩,xf3⟩:=four_of HA3.out;clear xf3)
   | (go_at_call 62;(with_reducible refine(TP.out _ hr3).mono ?_);rintro e w4 ⟨rfl,hr4,hk4⟩)
   | (go_at_call 26;(with_reducible refine(C1.out _ hr4).mono ?_);rintro e w5 ⟨rfl,hr5,hk5⟩)
   | (go_at_call 67;(with_reducible refine(WA.out _ hr5).mono ?_);rintro e w6 ⟨rfl,hr6,hk6⟩))
   go_ret
   exact⟨((((HB1.out.trans hk2.out).trans hk3.out).trans hk4.out).trans hk5.out).trans hk6.out,.inl ⟨HW.out,rfl,hr6.out⟩⟩
  ·have WA:Hid (∀w,Hid (Cd w b g cap dv ts xb τ)→Calls prog 67 #[.pointer (some ⟨b,0,none⟩),.slice (some ⟨w.heap.size,0,none⟩) 1 1] (w.alloc (.cells #[.string ⟨#[41]⟩] 9)) fun r Y=>CdBad b xb w (wantS ts [41] τ).code (wantS ts [41] τ).pos r Y):=Hd fun w h=>(wants_one b g cap dv ts xb τ [41] w h hz (by decide)).mono fun r Y hh=>hh.bad hw
   have HW:=Hd hw
   clear HCC HST hz hw
   go_enter Tryz.func125,Tryz.ntmps125
   go_wp2_with (first
   | (go_at_call 62;rw[←hW1];clear hW1;(with_reducible refine(TT.out _ H1).mono ?_);rintro e w2 ⟨rfl,hr2,hk2⟩;have HA2:=Hd (hk2.out.keep W.heap.size _ HA.out hne NoEx.tok);obtain⟨⟨x20,x21,x22,x23⟩,xf2⟩:=four_of HA2.out;clear xf2)
   | (go_at_call 62;(with_reducible refine(TF.out _ hr2).mono ?_);rintro e w3 ⟨rfl,hr3,hk3⟩;have HA3:=Hd (hk3.out.keep W.heap.size _ HA2.out hne NoEx.tok);obtain⟨⟨x30,x31,x32,x33⟩,xf3⟩:=four_of HA3.out;clear xf3)
   | (go_at_call 62;(with_reducible refine(TP.out _ hr3).mono ?_);rintro e w4 ⟨rfl,hr4,hk4⟩)
   | (go_at_call 26;(with_reducible refine(C1.out _ hr4).mono ?_);rintro e w5 ⟨rfl,hr5,hk5⟩)
   | (go_at_call 67;(with_reducible refine(WA.out _ hr5).mono ?_);rintro e w6 ⟨rfl,hk6⟩))
   exact⟨rfl,((((HB1.out.trans hk2.out).trans hk3.out).trans hk4.out).trans hk5.out).trans hk6.out,.inr ⟨HW.out,rfl⟩⟩
 ·have C1:Hid (∀W,Hid (Cd W b g cap dv ts xb (stepS σ))→Calls prog 26 #[.pointer (some ⟨b,0,none⟩)] W fun r Y=>CdBad b xb W τ.code τ.pos r Y):=Hd fun W h=>(HCC.out W h).mono fun r Y hh=>hh.bad hz
  have HZ:=Hd hz
  rw[HST.out hz]
  clear HCC HST hz
  go_enter Tryz.func125,Tryz.ntmps125
  go_wp2_with (first
   | (go_at_call 62;rw[←hW1];clear hW1;(with_reducible refine(TT.out _ H1).mono ?_);rintro e w2 ⟨rfl,hr2,hk2⟩;have HA2:=Hd (hk2.out.keep W.heap.size _ HA.out hne NoEx.tok);obtain⟨⟨x20,x21,x22,x23⟩,xf2⟩:=four_of HA2.out;clear xf2)
   | (go_at_call 62;(with_reducible refine(TF.out _ hr2).mono ?_);rintro e w3 ⟨rfl,hr3,hk3⟩;have HA3:=Hd (hk3.out.keep W.heap.size _ HA2.out hne NoEx.tok);obtain⟨⟨x30,x31,x32,x33⟩,xf3⟩:=four_of HA3.out;clear xf3)
   | (go_at_call 62;(with_reducible refine(TP.out _ hr3).mono ?_);rintro e w4 ⟨rfl,hr4,hk4⟩)
   | (go_at_call 26;(with_reducible refine(C1.out _ hr4).mono ?_);rintro e w5 ⟨rfl,hk5⟩))
  exact⟨rfl,(((HB1.out.trans hk2.out).trans hk3.out).trans hk4.out).trans hk5.out,.inr ⟨HZ.out,rfl⟩⟩
theorem catom_no (b g cap:Nat) (dv:Value) (ts:List Tok) (xb:Nat→Prop) (σ:RS) (hc:σ.code=0) (hk1:(tokL ts σ.at_).kind≠1) (hk2:(tokL ts σ.at_).kind≠2) (h1:isS ts [116,114,117,101] σ=false) (h2:isS ts [102,97,108,115,101] σ=false) (h3:isS ts [40] σ=false) (v:Int) (τ:RS) (hτ:τ.code=2∧τ.pos=((tokL ts σ.at_).at_:Int)) (W:World) (h:Hid (Cd W b g cap dv ts xb σ)) :
  Calls prog 125 #[.pointer (some ⟨b,0,none⟩)] W fun r Y=>CdRet b g cap dv ts xb W (.int .i64 v) τ r Y:=by
 obtain⟨o,c,⟨c0,c1,c2,c3,fr⟩,hx⟩:=h.out.cells
 obtain⟨t0,t1,t2,t3⟩:=h.out.tok
 have hl:=h.out.at_
 have hbs:=h.out.size
 have hgs:g<W.heap.size:=by have:=h.out.lt;omega
 obtain⟨K,hK⟩:∃K:Int,K=((tokL ts σ.at_).kind:Int):=⟨_,rfl⟩
 obtain⟨X,hX⟩:∃X,X=str (tokL ts σ.at_).text:=⟨_,rfl⟩
 obtain⟨V,hV⟩:∃V,V=(tokL ts σ.at_).v:=⟨_,rfl⟩
 obtain⟨P,hP⟩:∃P:Int,P=((tokL ts σ.at_).at_:Int):=⟨_,rfl⟩
 obtain⟨m,hmm⟩:∃m,m=ts.length - σ.at_:=⟨_,rfl⟩
 obtain⟨a4,haa⟩:∃a4,a4=σ.at_*4:=⟨_,rfl⟩
 rw[←hmm,←haa] at c0
 rw[←hK,←haa] at t0
 rw[←hX,←haa] at t1
 rw[←hV,←haa] at t2
 rw[←hP,←haa] at t3
 have k0:(0:Int)<(m:Int):=by omega
 obtain⟨W1,hW1⟩:∃W1,W1=W.alloc (.cells #[.int .i64 K,.string X,.int .i64 V,.int .i64 P] 43):=⟨_,rfl⟩
 have hb1:Below W.heap.size W W1:=by rw[hW1];exact(qB _ _).alloc (qL _) _
 have H1:Hid (Cd W1 b g cap dv ts xb σ):=Hd (h.out.below hb1)
 have HA:Hid (W1.heap[W.heap.size]?=some (.cells #[.int .i64 K,.string X,.int .i64 V,.int .i64 P] 43 (0,0))):=Hd (by rw[hW1];exact heap_alloc_new W _)
 have HB1:Hid (RX b xb W W1):=Hd (RX.of_below hb1 (ql hbs) h.out.xlt)
 have hne:W.heap.size≠b:=by omega
 have q2:(K ==2)=false:=beq_false_of_ne (by omega)
 have q1:(K ==1)=false:=beq_false_of_ne (by omega)
 have TT:Hid (∀w,Hid (Cd w b g cap dv ts xb σ)→Calls prog 62 #[.pointer (some ⟨b,0,none⟩),.string ⟨#[116,114,117,101]⟩] w fun r Y=>r=.returned (.bool false)∧Hid (Cd Y b g cap dv ts xb σ)∧Hid (RX b xb w Y)):=Hd fun w hw=>(takes_any b g cap dv ts xb σ [116,114,117,101] w hw hc (by decide)).mono fun r Y hh=>by unfold TakesRet tookS at hh;rw[h1] at hh;exact hh
 have TF:Hid (∀w,Hid (Cd w b g cap dv ts xb σ)→Calls prog 62 #[.pointer (some ⟨b,0,none⟩),.string ⟨#[102,97,108,115,101]⟩] w fun r Y=>r=.returned (.bool false)∧Hid (Cd Y b g cap dv ts xb σ)∧Hid (RX b xb w Y)):=Hd fun w hw=>(takes_any b g cap dv ts xb σ [102,97,108,115,101] w hw hc (by decide)).mono fun r Y hh=>by unfold TakesRet tookS at hh;rw[h2] at hh;exact hh
 have TP:Hid (∀w,Hid (Cd w b g cap dv ts xb σ)→Calls prog 62 #[.pointer (some ⟨b,0,none⟩),.string ⟨#[40]⟩] w fun r Y=>r=.returned (.bool false)∧Hid (Cd Y b g cap dv ts xb σ)∧Hid (RX b xb w Y)):=Hd fun w hw=>(takes_any b g cap dv ts xb σ [40] w hw hc (by decide)).mono fun r Y hh=>by unfold TakesRet tookS at hh;rw[h3] at hh;exact hh
 have RF:Hid (∀w,Hid (Cd w b g cap dv ts xb σ)→Calls prog 60 #[.pointer (some ⟨b,0,none⟩),.int .i64 2] w fun r Y=>r=.returned (.agg #[.int .i64 2,.int .i64 P])∧Hid (RX b xb w Y)):=Hd fun w hw=>(refusal_any b g cap dv ts xb σ 2 w hw).mono fun r Y hh=>by rw[hP];exact⟨hh.1,Hd (RX.of_below hh.2 (ql hw.out.size) hw.out.xlt)⟩
 have HT:Hid (τ.code=2∧τ.pos=P):=Hd (by rw[hP];exact hτ)
 have HC:=Hd hc
 clear hmm haa hl hx c1 c2 c3 fr hK hX hV hP hb1 hc hk1 hk2 h1 h2 h3 hτ
 go_enter Tryz.func125,Tryz.ntmps125
 go_wp2_with (first
   | (go_at_call 62;rw[←hW1];clear hW1;(with_reducible refine(TT.out _ H1).mono ?_);rintro e w2 ⟨rfl,hr2,hk2⟩;have HA2:=Hd (hk2.out.keep W.heap.size _ HA.out hne NoEx.tok);obtain⟨⟨x20,x21,x22,x23⟩,xf2⟩:=four_of HA2.out;clear xf2)
   | (go_at_call 62;(with_reducible refine(TF.out _ hr2).mono ?_);rintro e w3 ⟨rfl,hr3,hk3⟩;have HA3:=Hd (hk3.out.keep W.heap.size _ HA2.out hne NoEx.tok);obtain⟨⟨x30,x31,x32,x33⟩,xf3⟩:=four_of HA3.out;clear xf3)
   | (go_at_call 62;(with_reducible refine(TP.out _ hr3).mono ?_);rintro e w4 ⟨rfl,hr4,hk4⟩)
   | (go_at_call 60;(with_reducible refine(RF.out _ hr4).mono ?_);rintro e w5 ⟨rfl,hk5⟩))
 exact⟨rfl,(((HB1.out.trans hk2.out).trans hk3.out).trans hk4.out).trans hk5.out,.inr ⟨by rw[HT.out.1];decide,by rw[HT.out.1,HT.out.2];rfl⟩⟩
end Go.Proofs.YtlbhlncipajapaaGreatDoor
