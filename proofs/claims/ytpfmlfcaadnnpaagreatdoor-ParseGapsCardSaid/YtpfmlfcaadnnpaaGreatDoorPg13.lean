import Derived.Test.YtpfmlfcaadnnpaaGreatDoorPg12
set_option maxHeartbeats 16000000
set_option maxRecDepth 100000
set_option linter.unusedVariables false
open Go.Proofs.Tryz(prog)
namespace Go.Proofs.YtpfmlfcaadnnpaaGreatDoor
open Go.RowKit Lx
theorem catom_true (b g cap:Nat) (dv:Value) (ts:List Tok) (xb:Nat→Prop) (σ:RS) (hc:σ.code=0) (hk:(tokL ts σ.at_).kind≠2) (hi:isS ts [116,114,117,101] σ=true) (ok:okS (stepS σ)=true) (W:World) (h:Hid (Cd W b g cap dv ts xb σ)) :
  Calls prog 125 #[.pointer (some ⟨b,0,none⟩)] W fun r Y=>CdRet b g cap dv ts xb W (.int .i64 (σ.exprs.length:Int)) (putS { ex0 with kind:=2,v:=1,pos:=((tokL ts σ.at_).at_:Int) } (stepS σ)) r Y:=by
 obtain⟨o,c,⟨c0,c1,c2,c3,fr⟩,hx⟩:=h.out.cells
 obtain⟨t0,t1,t2,t3⟩:=h.out.tok
 have hl:=h.out.at_
 have hbs:=h.out.size
 have hgs:g<W.heap.size:=by have:=h.out.lt;omega
 obtain⟨K,hK⟩:∃K:Int,K=((tokL ts σ.at_).kind:Int):=⟨_,rfl⟩
 obtain⟨X,hX⟩:∃X,X=str (tokL ts σ.at_).text:=⟨_,rfl⟩
 obtain⟨V,hV⟩:∃V,V=(tokL ts σ.at_).v:=⟨_,rfl⟩
 obtain⟨P,hP⟩:∃P:Int,P=((tokL ts σ.at_).at_:Int):=⟨_,rfl⟩
 obtain⟨m,hmm⟩:∃m,m=ts.length - σ.at_:=⟨_,rfl⟩
 obtain⟨a4,haa⟩:∃a4,a4=σ.at_*4:=⟨_,rfl⟩
 rw[←hmm,←haa] at c0
 rw[←hK,←haa] at t0
 rw[←hX,←haa] at t1
 rw[←hV,←haa] at t2
 rw[←hP,←haa] at t3
 have k0:(0:Int)<(m:Int):=by omega
 obtain⟨W1,hW1⟩:∃W1,W1=W.alloc (.cells #[.int .i64 K,.string X,.int .i64 V,.int .i64 P] 43):=⟨_,rfl⟩
 have hb1:Below W.heap.size W W1:=by rw[hW1];exact(qB _ _).alloc (qL _) _
 have H1:Hid (Cd W1 b g cap dv ts xb σ):=Hd (h.out.below hb1)
 have HA:Hid (W1.heap[W.heap.size]?=some (.cells #[.int .i64 K,.string X,.int .i64 V,.int .i64 P] 43 (0,0))):=Hd (by rw[hW1];exact heap_alloc_new W _)
 have HB1:Hid (RX b xb W W1):=Hd (RX.of_below hb1 (ql hbs) h.out.xlt)
 have hne:W.heap.size≠b:=by omega
 rw[←hP]
 have q2:(K ==2)=false:=beq_false_of_ne (by omega)
 have TT:Hid (∀w,Hid (Cd w b g cap dv ts xb σ)→Calls prog 62 #[.pointer (some ⟨b,0,none⟩),.string ⟨#[116,114,117,101]⟩] w fun r Y=>r=.returned (.bool true)∧Hid (Cd Y b g cap dv ts xb (stepS σ))∧Hid (RX b xb w Y)):=Hd fun w hw=>(takes_any b g cap dv ts xb σ [116,114,117,101] w hw hc (by decide)).mono fun r Y hh=>by unfold TakesRet tookS at hh;rw[hi] at hh;exact hh
 have PU:Hid (∀W,Hid (Cd W b g cap dv ts xb (stepS σ))→Calls prog 75 #[.pointer (some ⟨b,0,none⟩),.agg #[.int .i64 2,.int .i64 0,.int .i64 0,.int .i64 0,.string ⟨#[]⟩,.string ⟨#[]⟩,.int .i64 1,.slice none 0 0,.int .i64 P]] W fun r Y=>CdOk b g cap dv ts xb W (.int .i64 (σ.exprs.length:Int)) (putS { ex0 with kind:=2,v:=1,pos:=P } (stepS σ)) r Y):=Hd fun W h =>
  (cput_any b g cap dv ts xb (stepS σ) { ex0 with kind:=2,v:=1,pos:=P } none 0 0 W h hc (okS_iff.1 ok).1 (Hd (qO _ _ _ _)) (Hd fun k hk=>by cases hk)).mono fun r Y hh=>hh.ok hc
 have HC:=Hd hc
 clear hmm haa hl hx c1 c2 c3 fr hK hX hV hP hb1 hc hk ok hi
 go_enter Tryz.func125,Tryz.ntmps125
 go_wp2_with (first
  | (go_at_call 62;rw[←hW1];clear hW1;(with_reducible refine(TT.out _ H1).mono ?_);rintro e w2 ⟨rfl,hr2,hk2⟩;have HA2:=Hd (hk2.out.keep W.heap.size _ HA.out hne NoEx.tok);obtain⟨⟨x20,x21,x22,x23⟩,xf2⟩:=four_of HA2.out;clear xf2)
  | (go_at_call 75;(with_reducible refine(PU.out _ hr2).mono ?_);rintro e w3 ⟨rfl,hr3,hk3⟩))
 go_ret
 exact⟨(HB1.out.trans hk2.out).trans hk3.out,.inl ⟨HC.out,rfl,hr3.out⟩⟩
theorem catom_false (b g cap:Nat) (dv:Value) (ts:List Tok) (xb:Nat→Prop) (σ:RS) (hc:σ.code=0) (hk:(tokL ts σ.at_).kind≠2) (h1:isS ts [116,114,117,101] σ=false) (hi:isS ts [102,97,108,115,101] σ=true) (ok:okS (stepS σ)=true) (W:World) (h:Hid (Cd W b g cap dv ts xb σ)) :
  Calls prog 125 #[.pointer (some ⟨b,0,none⟩)] W fun r Y=>CdRet b g cap dv ts xb W (.int .i64 (σ.exprs.length:Int)) (putS { ex0 with kind:=2,pos:=((tokL ts σ.at_).at_:Int) } (stepS σ)) r Y:=by
 obtain⟨o,c,⟨c0,c1,c2,c3,fr⟩,hx⟩:=h.out.cells
 obtain⟨t0,t1,t2,t3⟩:=h.out.tok
 have hl:=h.out.at_
 have hbs:=h.out.size
 have hgs:g<W.heap.size:=by have:=h.out.lt;omega
 obtain⟨K,hK⟩:∃K:Int,K=((tokL ts σ.at_).kind:Int):=⟨_,rfl⟩
 obtain⟨X,hX⟩:∃X,X=str (tokL ts σ.at_).text:=⟨_,rfl⟩
 obtain⟨V,hV⟩:∃V,V=(tokL ts σ.at_).v:=⟨_,rfl⟩
 obtain⟨P,hP⟩:∃P:Int,P=((tokL ts σ.at_).at_:Int):=⟨_,rfl⟩
 obtain⟨m,hmm⟩:∃m,m=ts.length - σ.at_:=⟨_,rfl⟩
 obtain⟨a4,haa⟩:∃a4,a4=σ.at_*4:=⟨_,rfl⟩
 rw[←hmm,←haa] at c0
 rw[←hK,←haa] at t0
 rw[←hX,←haa] at t1
 rw[←hV,←haa] at t2
 rw[←hP,←haa] at t3
 have k0:(0:Int)<(m:Int):=by omega
 obtain⟨W1,hW1⟩:∃W1,W1=W.alloc (.cells #[.int .i64 K,.string X,.int .i64 V,.int .i64 P] 43):=⟨_,rfl⟩
 have hb1:Below W.heap.size W W1:=by rw[hW1];exact(qB _ _).alloc (qL _) _
 have H1:Hid (Cd W1 b g cap dv ts xb σ):=Hd (h.out.below hb1)
 have HA:Hid (W1.heap[W.heap.size]?=some (.cells #[.int .i64 K,.string X,.int .i64 V,.int .i64 P] 43 (0,0))):=Hd (by rw[hW1];exact heap_alloc_new W _)
 have HB1:Hid (RX b xb W W1):=Hd (RX.of_below hb1 (ql hbs) h.out.xlt)
 have hne:W.heap.size≠b:=by omega
 rw[←hP]
 have q2:(K ==2)=false:=beq_false_of_ne (by omega)
 have TT:Hid (∀w,Hid (Cd w b g cap dv ts xb σ)→Calls prog 62 #[.pointer (some ⟨b,0,none⟩),.string ⟨#[116,114,117,101]⟩] w fun r Y=>r=.returned (.bool false)∧Hid (Cd Y b g cap dv ts xb σ)∧Hid (RX b xb w Y)):=Hd fun w hw=>(takes_any b g cap dv ts xb σ [116,114,117,101] w hw hc (by decide)).mono fun r Y hh=>by unfold TakesRet tookS at hh;rw[h1] at hh;exact hh
 have TF:Hid (∀w,Hid (Cd w b g cap dv ts xb σ)→Calls prog 62 #[.pointer (some ⟨b,0,none⟩),.string ⟨#[102,97,108,115,101]⟩] w fun r Y=>r=.returned (.bool true)∧Hid (Cd Y b g cap dv ts xb (stepS σ))∧Hid (RX b xb w Y)):=Hd fun w hw=>(takes_any b g cap dv ts xb σ [102,97,108,115,101] w hw hc (by decide)).mono fun r Y hh=>by unfold TakesRet tookS at hh;rw[hi] at hh;exact hh
 have PU:Hid (∀W,Hid (Cd W b g cap dv ts xb (stepS σ))→Calls prog 75 #[.pointer (some ⟨b,0,none⟩),.agg #[.int .i64 2,.int .i64 0,.int .i64 0,.int .i64 0,.string ⟨#[]⟩,.string ⟨#[]⟩,.int .i64 0,.slice none 0 0,.int .i64 P]] W fun r Y=>CdOk b g cap dv ts xb W (.int .i64 (σ.exprs.length:Int)) (putS { ex0 with kind:=2,pos:=P } (stepS σ)) r Y):=Hd fun W h =>
  (cput_any b g cap dv ts xb (stepS σ) { ex0 with kind:=2,pos:=P } none 0 0 W h hc (okS_iff.1 ok).1 (Hd (qO _ _ _ _)) (Hd fun k hk=>by cases hk)).mono fun r Y hh=>hh.ok hc
 have HC:=Hd hc
 clear hmm haa hl hx c1 c2 c3 fr hK hX hV hP hb1 hc hk ok hi h1
 go_enter Tryz.func125,Tryz.ntmps125
 go_wp2_with (first
  | (go_at_call 62;rw[←hW1];clear hW1;(with_reducible refine(TT.out _ H1).mono ?_);rintro e w2 ⟨rfl,hr2,hk2⟩;have HA2:=Hd (hk2.out.keep W.heap.size _ HA.out hne NoEx.tok);obtain⟨⟨x20,x21,x22,x23⟩,xf2⟩:=four_of HA2.out;clear xf2)
  | (go_at_call 62;(with_reducible refine(TF.out _ hr2).mono ?_);rintro e w3 ⟨rfl,hr3,hk3⟩;have HA3:=Hd (hk3.out.keep W.heap.size _ HA2.out hne NoEx.tok);obtain⟨⟨x30,x31,x32,x33⟩,xf3⟩:=four_of HA3.out;clear xf3)
  | (go_at_call 75;(with_reducible refine(PU.out _ hr3).mono ?_);rintro e w4 ⟨rfl,hr4,hk4⟩))
 go_ret
 exact⟨((HB1.out.trans hk2.out).trans hk3.out).trans hk4.out,.inl ⟨HC.out,rfl,hr4.out⟩⟩
theorem catom_name (b g cap:Nat) (dv:Value) (ts:List Tok) (xb:Nat→Prop) (σ:RS) (hc:σ.code=0) (hk:(tokL ts σ.at_).kind=1) (h1:isS ts [116,114,117,101] σ=false) (h2:isS ts [102,97,108,115,101] σ=false) (v:Int) (τ:RS) (C:∀W,Hid (Cd W b g cap dv ts xb σ)→Calls prog 129 #[.pointer (some ⟨b,0,none⟩)] W fun r Y=>CdRet b g cap dv ts xb W (.int .i64 v) τ r Y) (W:World) (h:Hid (Cd W b g cap dv ts xb σ)) :
  Calls prog 125 #[.pointer (some ⟨b,0,none⟩)] W fun r Y=>CdRet b g cap dv ts xb W (.int .i64 v) τ r Y:=by
 obtain⟨o,c,⟨c0,c1,c2,c3,fr⟩,hx⟩:=h.out.cells
 obtain⟨t0,t1,t2,t3⟩:=h.out.tok
 have hl:=h.out.at_
 have hbs:=h.out.size
 have hgs:g<W.heap.size:=by have:=h.out.lt;omega
 obtain⟨K,hK⟩:∃K:Int,K=((tokL ts σ.at_).kind:Int):=⟨_,rfl⟩
 obtain⟨X,hX⟩:∃X,X=str (tokL ts σ.at_).text:=⟨_,rfl⟩
 obtain⟨V,hV⟩:∃V,V=(tokL ts σ.at_).v:=⟨_,rfl⟩
 obtain⟨P,hP⟩:∃P:Int,P=((tokL ts σ.at_).at_:Int):=⟨_,rfl⟩
 obtain⟨m,hmm⟩:∃m,m=ts.length - σ.at_:=⟨_,rfl⟩
 obtain⟨a4,haa⟩:∃a4,a4=σ.at_*4:=⟨_,rfl⟩
 rw[←hmm,←haa] at c0
 rw[←hK,←haa] at t0
 rw[←hX,←haa] at t1
 rw[←hV,←haa] at t2
 rw[←hP,←haa] at t3
 have k0:(0:Int)<(m:Int):=by omega
 obtain⟨W1,hW1⟩:∃W1,W1=W.alloc (.cells #[.int .i64 K,.string X,.int .i64 V,.int .i64 P] 43):=⟨_,rfl⟩
 have hb1:Below W.heap.size W W1:=by rw[hW1];exact(qB _ _).alloc (qL _) _
 have H1:Hid (Cd W1 b g cap dv ts xb σ):=Hd (h.out.below hb1)
 have HA:Hid (W1.heap[W.heap.size]?=some (.cells #[.int .i64 K,.string X,.int .i64 V,.int .i64 P] 43 (0,0))):=Hd (by rw[hW1];exact heap_alloc_new W _)
 have HB1:Hid (RX b xb W W1):=Hd (RX.of_below hb1 (ql hbs) h.out.xlt)
 have hne:W.heap.size≠b:=by omega
 have q2:(K ==2)=false:=beq_false_of_ne (by omega)
 have q1:(K ==1)=true:=by rw[hK,hk];rfl
 have TT:Hid (∀w,Hid (Cd w b g cap dv ts xb σ)→Calls prog 62 #[.pointer (some ⟨b,0,none⟩),.string ⟨#[116,114,117,101]⟩] w fun r Y=>r=.returned (.bool false)∧Hid (Cd Y b g cap dv ts xb σ)∧Hid (RX b xb w Y)):=Hd fun w hw=>(takes_any b g cap dv ts xb σ [116,114,117,101] w hw hc (by decide)).mono fun r Y hh=>by unfold TakesRet tookS at hh;rw[h1] at hh;exact hh
 have TF:Hid (∀w,Hid (Cd w b g cap dv ts xb σ)→Calls prog 62 #[.pointer (some ⟨b,0,none⟩),.string ⟨#[102,97,108,115,101]⟩] w fun r Y=>r=.returned (.bool false)∧Hid (Cd Y b g cap dv ts xb σ)∧Hid (RX b xb w Y)):=Hd fun w hw=>(takes_any b g cap dv ts xb σ [102,97,108,115,101] w hw hc (by decide)).mono fun r Y hh=>by unfold TakesRet tookS at hh;rw[h2] at hh;exact hh
 have HCC:=Hd C
 have HC:=Hd hc
 clear hmm haa hl hx c1 c2 c3 fr hK hX hV hP hb1 hc hk h1 h2 C
 by_cases hz:τ.code=0
 ·have C1:Hid (∀W,Hid (Cd W b g cap dv ts xb σ)→Calls prog 129 #[.pointer (some ⟨b,0,none⟩)] W fun r Y=>CdOk b g cap dv ts xb W (.int .i64 v) τ r Y):=Hd fun W h=>(HCC.out W h).mono fun r Y hh=>hh.ok hz
  have HZ:=Hd hz
  clear HCC hz
  go_enter Tryz.func125,Tryz.ntmps125
  go_wp2_with (first
   | (go_at_call 62;rw[←hW1];clear hW1;(with_reducible refine(TT.out _ H1).mono ?_);rintro e w2 ⟨rfl,hr2,hk2⟩;have HA2:=Hd (hk2.out.keep W.heap.size _ HA.out hne NoEx.tok);obtain⟨⟨x20,x21,x22,x23⟩,xf2⟩:=four_of HA2.out;clear xf2)
   | (go_at_call 62;(with_reducible refine(TF.out _ hr2).mono ?_);rintro e w3 ⟨rfl,hr3,hk3⟩;have HA3:=Hd (hk3.out.keep W.heap.size _ HA2.out hne NoEx.tok);obtain⟨⟨x30,x31,x32,x33⟩,xf3⟩:=four_of HA3.out;clear xf3)
   | (go_at_call 129;(with_reducible refine(C1.out _ hr3).mono ?_);rintro e w4 ⟨rfl,hr4,hk4⟩))
  go_ret
  exact⟨((HB1.out.trans hk2.out).trans hk3.out).trans hk4.out,.inl ⟨HZ.out,rfl,hr4.out⟩⟩
 ·have C1:Hid (∀W,Hid (Cd W b g cap dv ts xb σ)→Calls prog 129 #[.pointer (some ⟨b,0,none⟩)] W fun r Y=>CdBad b xb W τ.code τ.pos r Y):=Hd fun W h=>(HCC.out W h).mono fun r Y hh=>hh.bad hz
  have HZ:=Hd hz
  clear HCC hz
  go_enter Tryz.func125,Tryz.ntmps125
  go_wp2_with (first
   | (go_at_call 62;rw[←hW1];clear hW1;(with_reducible refine(TT.out _ H1).mono ?_);rintro e w2 ⟨rfl,hr2,hk2⟩;have HA2:=Hd (hk2.out.keep W.heap.size _ HA.out hne NoEx.tok);obtain⟨⟨x20,x21,x22,x23⟩,xf2⟩:=four_of HA2.out;clear xf2)
   | (go_at_call 62;(with_reducible refine(TF.out _ hr2).mono ?_);rintro e w3 ⟨rfl,hr3,hk3⟩;have HA3:=Hd (hk3.out.keep W.heap.size _ HA2.out hne NoEx.tok);obtain⟨⟨x30,x31,x32,x33⟩,xf3⟩:=four_of HA3.out;clear xf3)
   | (go_at_call 129;(with_reducible refine(C1.out _ hr3).mono ?_);rintro e w4 ⟨rfl,hk4⟩))
  exact⟨rfl,((HB1.out.trans hk2.out).trans hk3.out).trans hk4.out,.inr ⟨HZ.out,rfl⟩⟩
theorem catom_par (b g cap:Nat) (dv:Value) (ts:List Tok) (xb:Nat→Prop) (σ:RS) (hc:σ.code=0) (hk1:(tokL ts σ.at_).kind≠1) (hk2:(tokL ts σ.at_).kind≠2) (h1:isS ts [116,114,117,101] σ=false) (h2:isS ts [102,97,108,115,101] σ=false) (h3:isS ts [40] σ=true) (v:Int) (τ:RS) (C:∀W,Hid (Cd W b g cap dv ts xb (stepS σ))→Calls prog 26 #[.pointer (some ⟨b,0,none⟩)] W fun r Y=>CdRet b g cap dv ts xb W (.int .i64 v) τ r Y) (hst:τ.code≠0→wantS ts [41] τ=τ) (W:World) (h:Hid (Cd W b g cap dv ts xb σ)) :
  Calls prog 125 #[.pointer (some ⟨b,0,none⟩)] W fun r Y=>CdRet b g cap dv ts xb W (.int .i64 v) (wantS ts [41] τ) r Y:=by
 obtain⟨o,c,⟨c0,c1,c2,c3,fr⟩,hx⟩:=h.out.cells
 obtain⟨t0,t1,t2,t3⟩:=h.out.tok
 have hl:=h.out.at_
 have hbs:=h.out.size
 have hgs:g<W.heap.size:=by have:=h.out.lt;omega
 obtain⟨K,hK⟩:∃K:Int,K=((tokL ts σ.at_).kind:Int):=⟨_,rfl⟩
 obtain⟨X,hX⟩:∃X,X=str (tokL ts σ.at_).text:=⟨_,rfl⟩
 obtain⟨V,hV⟩:∃V,V=(tokL ts σ.at_).v:=⟨_,rfl⟩
 obtain⟨P,hP⟩:∃P:Int,P=((tokL ts σ.at_).at_:Int):=⟨_,rfl⟩
 obtain⟨m,hmm⟩:∃m,m=ts.length - σ.at_:=⟨_,rfl⟩
 obtain⟨a4,haa⟩:∃a4,a4=σ.at_*4:=⟨_,rfl⟩
 rw[←hmm,←haa] at c0
 rw[←hK,←haa] at t0
 rw[←hX,←haa] at t1
 rw[←hV,←haa] at t2
 rw[←hP,←haa] at t3
 have k0:(0:Int)<(m:Int):=by omega
 obtain⟨W1,hW1⟩:∃W1,W1=W.alloc (.cells #[.int .i64 K,.string X,.int .i64 V,.int .i64 P] 43):=⟨_,rfl⟩
 have hb1:Below W.heap.size W W1:=by rw[hW1];exact(qB _ _).alloc (qL _) _
 have H1:Hid (Cd W1 b g cap dv ts xb σ):=Hd (h.out.below hb1)
 have HA:Hid (W1.heap[W.heap.size]?=some (.cells #[.int .i64 K,.string X,.int .i64 V,.int .i64 P] 43 (0,0))):=Hd (by rw[hW1];exact heap_alloc_new W _)
 have HB1:Hid (RX b xb W W1):=Hd (RX.of_below hb1 (ql hbs) h.out.xlt)
 have hne:W.heap.size≠b:=by omega
 have q2:(K ==2)=false:=beq_false_of_ne (by omega)
 have q1:(K ==1)=false:=beq_false_of_ne (by omega)
 have TT:Hid (∀w,Hid (Cd w b g cap dv ts xb σ)→Calls prog 62 #[.pointer (some ⟨b,0,none⟩),.string ⟨#[116,114,117,101]⟩] w fun r Y=>r=.returned (.bool false)∧Hid (Cd Y b g cap dv ts xb σ)∧Hid (RX b xb w Y)):=Hd fun w hw=>(takes_any b g cap dv ts xb σ [116,114,117,101] w hw hc (by decide)).mono fun r Y hh=>by unfold TakesRet tookS at hh;rw[h1] at hh;exact hh
 have TF:Hid (∀w,Hid (Cd w b g cap dv ts xb σ)→Calls prog 62 #[.pointer (some ⟨b,0,none⟩),.string ⟨#[102,97,108,115,101]⟩] w fun r Y=>r=.returned (.bool false)∧Hid (Cd Y b g cap dv ts xb σ)∧Hid (RX b xb w Y)):=Hd fun w hw=>(takes_any b g cap dv ts xb σ [102,97,108,115,101] w hw hc (by decide)).mono fun r Y hh=>by unfold TakesRet tookS at hh;rw[h2] at hh;exact hh
 have TP:Hid (∀w,Hid (Cd w b g cap dv ts xb σ)→Calls prog 62 #[.pointer (some ⟨b,0,none⟩),.string ⟨#[40]⟩] w fun r Y=>r=.returned (.bool true)∧Hid (Cd Y b g cap dv ts xb (stepS σ))∧Hid (RX b xb w Y)):=Hd fun w hw=>(takes_any b g cap dv ts xb σ [40] w hw hc (by decide)).mono fun r Y hh=>by unfold TakesRet tookS at hh;rw[h3] at hh;exact hh
 have HCC:=Hd C
 have HST:=Hd hst
 have HC:=Hd hc
 clear hmm haa hl hx c1 c2 c3 fr hK hX hV hP hb1 hc hk1 hk2 h1 h2 h3 C hst
 by_cases hz:τ.code=0
 ·have C1:Hid (∀W,Hid (Cd W b g cap dv ts xb (stepS σ))→Calls prog 26 #[.pointer (some ⟨b,0,none⟩)] W fun r Y=>CdOk b g cap dv ts xb W (.int .i64 v) τ r Y):=Hd fun W h=>(HCC.out W h).mono fun r Y hh=>hh.ok hz
  by_cases hw:(wantS ts [41] τ).code=0
  ·have WA:Hid (∀w,Hid (Cd w b g cap dv ts xb τ)→Calls prog 67 #[.pointer (some ⟨b,0,none⟩),.slice (some ⟨w.heap.size,0,none⟩) 1 1] (w.alloc (.cells #[.string ⟨#[41]⟩] 9)) fun r Y=>CdOk b g cap dv ts xb w (.tuple #[]) (wantS ts [41] τ) r Y):=Hd fun w h=>(wants_one b g cap dv ts xb τ [41] w h hz (by decide)).mono fun r Y hh=>hh.ok hw
   have HW:=Hd hw
   clear HCC HST hz hw
   go_enter Tryz.func125,Tryz.ntmps125
   go_wp2_with (first
   | (go_at_call 62;rw[←hW1];clear hW1;(with_reducible refine(TT.out _ H1).mono ?_);rintro e w2 ⟨rfl,hr2,hk2⟩;have HA2:=Hd (hk2.out.keep W.heap.size _ HA.out hne NoEx.tok);obtain⟨⟨x20,x21,x22,x23⟩,xf2⟩:=four_of HA2.out;clear xf2)
   | (go_at_call 62;(with_reducible refine(TF.out _ hr2).mono ?_);rintro e w3 ⟨rfl,hr3,hk3⟩;have HA3:=Hd (hk3.out.keep W.heap.size _ HA2.out hne NoEx.tok);obtain⟨⟨x30,x31,x32,x33⟩,xf3⟩:=four_of HA3.out;clear xf3)
   | (go_at_call 62;(with_reducible refine(TP.out _ hr3).mono ?_);rintro e w4 ⟨rfl,hr4,hk4⟩)
   | (go_at_call 26;(with_reducible refine(C1.out _ hr4).mono ?_);rintro e w5 ⟨rfl,hr5,hk5⟩)
   | (go_at_call 67;(with_reducible refine(WA.out _ hr5).mono ?_);rintro e w6 ⟨rfl,hr6,hk6⟩))
   go_ret
   exact⟨((((HB1.out.trans hk2.out).trans hk3.out).trans hk4.out).trans hk5.out).trans hk6.out,.inl ⟨HW.out,rfl,hr6.out⟩⟩
  ·have WA:Hid (∀w,Hid (Cd w b g cap dv ts xb τ)→Calls prog 67 #[.pointer (some ⟨b,0,none⟩),.slice (some ⟨w.heap.size,0,none⟩) 1 1] (w.alloc (.cells #[.string ⟨#[41]⟩] 9)) fun r Y=>CdBad b xb w (wantS ts [41] τ).code (wantS ts [41] τ).pos r Y):=Hd fun w h=>(wants_one b g cap dv ts xb τ [41] w h hz (by decide)).mono fun r Y hh=>hh.bad hw
   have HW:=Hd hw
   clear HCC HST hz hw
   go_enter Tryz.func125,Tryz.ntmps125
   go_wp2_with (first
   | (go_at_call 62;rw[←hW1];clear hW1;(with_reducible refine(TT.out _ H1).mono ?_);rintro e w2 ⟨rfl,hr2,hk2⟩;have HA2:=Hd (hk2.out.keep W.heap.size _ HA.out hne NoEx.tok);obtain⟨⟨x20,x21,x22,x23⟩,xf2⟩:=four_of HA2.out;clear xf2)
   | (go_at_call 62;(with_reducible refine(TF.out _ hr2).mono ?_);rintro e w3 ⟨rfl,hr3,hk3⟩;have HA3:=Hd (hk3.out.keep W.heap.size _ HA2.out hne NoEx.tok);obtain⟨⟨x30,x31,x32,x33⟩,xf3⟩:=four_of HA3.out;clear xf3)
   | (go_at_call 62;(with_reducible refine(TP.out _ hr3).mono ?_);rintro e w4 ⟨rfl,hr4,hk4⟩)
   | (go_at_call 26;(with_reducible refine(C1.out _ hr4).mono ?_);rintro e w5 ⟨rfl,hr5,hk5⟩)
   | (go_at_call 67;(with_reducible refine(WA.out _ hr5).mono ?_);rintro e w6 ⟨rfl,hk6⟩))
   exact⟨rfl,((((HB1.out.trans hk2.out).trans hk3.out).trans hk4.out).trans hk5.out).trans hk6.out,.inr ⟨HW.out,rfl⟩⟩
 ·have C1:Hid (∀W,Hid (Cd W b g cap dv ts xb (stepS σ))→Calls prog 26 #[.pointer (some ⟨b,0,none⟩)] W fun r Y=>CdBad b xb W τ.code τ.pos r Y):=Hd fun W h=>(HCC.out W h).mono fun r Y hh=>hh.bad hz
  have HZ:=Hd hz
  rw[HST.out hz]
  clear HCC HST hz
  go_enter Tryz.func125,Tryz.ntmps125
  go_wp2_with (first
   | (go_at_call 62;rw[←hW1];clear hW1;(with_reducible refine(TT.out _ H1).mono ?_);rintro e w2 ⟨rfl,hr2,hk2⟩;have HA2:=Hd (hk2.out.keep W.heap.size _ HA.out hne NoEx.tok);obtain⟨⟨x20,x21,x22,x23⟩,xf2⟩:=four_of HA2.out;clear xf2)
   | (go_at_call 62;(with_reducible refine(TF.out _ hr2).mono ?_);rintro e w3 ⟨rfl,hr3,hk3⟩;have HA3:=Hd (hk3.out.keep W.heap.size _ HA2.out hne NoEx.tok);obtain⟨⟨x30,x31,x32,x33⟩,xf3⟩:=four_of HA3.out;clear xf3)
   | (go_at_call 62;(with_reducible refine(TP.out _ hr3).mono ?_);rintro e w4 ⟨rfl,hr4,hk4⟩)
   | (go_at_call 26;(with_reducible refine(C1.out _ hr4).mono ?_);rintro e w5 ⟨rfl,hk5⟩))
  exact⟨rfl,(((HB1.out.trans hk2.out).trans hk3.out).trans hk4.out).trans hk5.out,.inr ⟨HZ.out,rfl⟩⟩
theorem catom_no (b g cap:Nat) (dv:Value) (ts:List Tok) (xb:Nat→Prop) (σ:RS) (hc:σ.code=0) (hk1:(tokL ts σ.at_).kind≠1) (hk2:(tokL ts σ.at_).kind≠2) (h1:isS ts [116,114,117,101] σ=false) (h2:isS ts [102,97,108,115,101] σ=false) (h3:isS ts [40] σ=false) (v:Int) (τ:RS) (hτ:τ.code=2∧τ.pos=((tokL ts σ.at_).at_:Int)) (W:World) (h:Hid (Cd W b g cap dv ts xb σ)) :
  Calls prog 125 #[.pointer (some ⟨b,0,none⟩)] W fun r Y=>CdRet b g cap dv ts xb W (.int .i64 v) τ r Y:=by
 obtain⟨o,c,⟨c0,c1,c2,c3,fr⟩,hx⟩:=h.out.cells
 obtain⟨t0,t1,t2,t3⟩:=h.out.tok
 have hl:=h.out.at_
 have hbs:=h.out.size
 have hgs:g<W.heap.size:=by have:=h.out.lt;omega
 obtain⟨K,hK⟩:∃K:Int,K=((tokL ts σ.at_).kind:Int):=⟨_,rfl⟩
 obtain⟨X,hX⟩:∃X,X=str (tokL ts σ.at_).text:=⟨_,rfl⟩
 obtain⟨V,hV⟩:∃V,V=(tokL ts σ.at_).v:=⟨_,rfl⟩
 obtain⟨P,hP⟩:∃P:Int,P=((tokL ts σ.at_).at_:Int):=⟨_,rfl⟩
 obtain⟨m,hmm⟩:∃m,m=ts.length - σ.at_:=⟨_,rfl⟩
 obtain⟨a4,haa⟩:∃a4,a4=σ.at_*4:=⟨_,rfl⟩
 rw[←hmm,←haa] at c0
 rw[←hK,←haa] at t0
 rw[←hX,←haa] at t1
 rw[←hV,←haa] at t2
 rw[←hP,←haa] at t3
 have k0:(0:Int)<(m:Int):=by omega
 obtain⟨W1,hW1⟩:∃W1,W1=W.alloc (.cells #[.int .i64 K,.string X,.int .i64 V,.int .i64 P] 43):=⟨_,rfl⟩
 have hb1:Below W.heap.size W W1:=by rw[hW1];exact(qB _ _).alloc (qL _) _
 have H1:Hid (Cd W1 b g cap dv ts xb σ):=Hd (h.out.below hb1)
 have HA:Hid (W1.heap[W.heap.size]?=some (.cells #[.int .i64 K,.string X,.int .i64 V,.int .i64 P] 43 (0,0))):=Hd (by rw[hW1];exact heap_alloc_new W _)
 have HB1:Hid (RX b xb W W1):=Hd (RX.of_below hb1 (ql hbs) h.out.xlt)
 have hne:W.heap.size≠b:=by omega
 have q2:(K ==2)=false:=beq_false_of_ne (by omega)
 have q1:(K ==1)=false:=beq_false_of_ne (by omega)
 have TT:Hid (∀w,Hid (Cd w b g cap dv ts xb σ)→Calls prog 62 #[.pointer (some ⟨b,0,none⟩),.string ⟨#[116,114,117,101]⟩] w fun r Y=>r=.returned (.bool false)∧Hid (Cd Y b g cap dv ts xb σ)∧Hid (RX b xb w Y)):=Hd fun w hw=>(takes_any b g cap dv ts xb σ [116,114,117,101] w hw hc (by decide)).mono fun r Y hh=>by unfold TakesRet tookS at hh;rw[h1] at hh;exact hh
 have TF:Hid (∀w,Hid (Cd w b g cap dv ts xb σ)→Calls prog 62 #[.pointer (some ⟨b,0,none⟩),.string ⟨#[102,97,108,115,101]⟩] w fun r Y=>r=.returned (.bool false)∧Hid (Cd Y b g cap dv ts xb σ)∧Hid (RX b xb w Y)):=Hd fun w hw=>(takes_any b g cap dv ts xb σ [102,97,108,115,101] w hw hc (by decide)).mono fun r Y hh=>by unfold TakesRet tookS at hh;rw[h2] at hh;exact hh
 have TP:Hid (∀w,Hid (Cd w b g cap dv ts xb σ)→Calls prog 62 #[.pointer (some ⟨b,0,none⟩),.string ⟨#[40]⟩] w fun r Y=>r=.returned (.bool false)∧Hid (Cd Y b g cap dv ts xb σ)∧Hid (RX b xb w Y)):=Hd fun w hw=>(takes_any b g cap dv ts xb σ [40] w hw hc (by decide)).mono fun r Y hh=>by unfold TakesRet tookS at hh;rw[h3] at hh;exact hh
 have RF:Hid (∀w,Hid (Cd w b g cap dv ts xb σ)→Calls prog 60 #[.pointer (some ⟨b,0,none⟩),.int .i64 2] w fun r Y=>r=.returned (.agg #[.int .i64 2,.int .i64 P])∧Hid (RX b xb w Y)):=Hd fun w hw=>(refusal_any b g cap dv ts xb σ 2 w hw).mono fun r Y hh=>by rw[hP];exact⟨hh.1,Hd (RX.of_below hh.2 (ql hw.out.size) hw.out.xlt)⟩
 have HT:Hid (τ.code=2∧τ.pos=P):=Hd (by rw[hP];exact hτ)
 have HC:=Hd hc
 clear hmm haa hl hx c1 c2 c3 fr hK hX hV hP hb1 hc hk1 hk2 h1 h2 h3 hτ
 go_enter Tryz.func125,Tryz.ntmps125
 go_wp2_with (first
   | (go_at_call 62;rw[←hW1];clear hW1;(with_reducible refine(TT.out _ H1).mono ?_);rintro e w2 ⟨rfl,hr2,hk2⟩;have HA2:=Hd (hk2.out.keep W.heap.size _ HA.out hne NoEx.tok);obtain⟨⟨x20,x21,x22,x23⟩,xf2⟩:=four_of HA2.out;clear xf2)
   | (go_at_call 62;(with_reducible refine(TF.out _ hr2).mono ?_);rintro e w3 ⟨rfl,hr3,hk3⟩;have HA3:=Hd (hk3.out.keep W.heap.size _ HA2.out hne NoEx.tok);obtain⟨⟨x30,x31,x32,x33⟩,xf3⟩:=four_of HA3.out;clear xf3)
   | (go_at_call 62;(with_reducible refine(TP.out _ hr3).mono ?_);rintro e w4 ⟨rfl,hr4,hk4⟩)
   | (go_at_call 60;(with_reducible refine(RF.out _ hr4).mono ?_);rintro e w5 ⟨rfl,hk5⟩))
 exact⟨rfl,(((HB1.out.trans hk2.out).trans hk3.out).trans hk4.out).trans hk5.out,.inr ⟨by rw[HT.out.1];decide,by rw[HT.out.1,HT.out.2];rfl⟩⟩
theorem isS_named {ts:List Tok} {s:List UInt8} {σ:RS} (h:(tokL ts σ.at_).kind=1):isS ts s σ=false:=by
 cases hi:isS ts s σ with
 | false=>rfl
 | true =>
  unfold isS at hi
  simp only[Bool.and_eq_true,Bool.or_eq_true,decide_eq_true_eq] at hi
  rcases hi.2.1 with h1 | h1 <;> omega
theorem cputA_some {x:Ex} {σ:RS} {K:Int→RS→Ans} {R:Int×List Int×RS} (h:putA x σ K=some R):okS σ=true∧K (σ.exprs.length:Int) (putS x σ)=some R:=by
 unfold putA at h
 split at h
 ·exact⟨by assumption,h⟩
 ·cases h
theorem want_stuck {ts:List Tok} {s:List UInt8} {τ:RS} (h:τ.code≠0):wantS ts s τ=τ:=by
 unfold wantS
 rw[if_neg (by unfold isS;simp[h])]
 unfold failS
 rw[if_neg h]
theorem want_fail {ts:List Tok} {s:List UInt8} {σ:RS} (hc:σ.code=0) (h:isS ts s σ=false):(wantS ts s σ).code=2∧(wantS ts s σ).pos=((tokL ts σ.at_).at_:Int):=by
 unfold wantS
 rw[if_neg (by rw[h];simp)]
 unfold failS
 rw[if_pos hc]
 exact⟨rfl,rfl⟩
theorem named_rule (b g cap:Nat) (dv:Value) (ts:List Tok) (f:Nat) (IE:∀xb,RuleC b g cap dv ts xb 26 f .expr) (xb:Nat→Prop) (σ:RS) (hc:σ.code=0) (hk:(tokL ts σ.at_).kind=1) (v:Int) (l:List Int) (τ:RS) (h:runE ts (f+1) .atom σ=some (v,l,τ)) (W:World) (hW:Hid (Cd W b g cap dv ts xb σ)) :
  Calls prog 129 #[.pointer (some ⟨b,0,none⟩)] W fun r Y=>CdRet b g cap dv ts xb W (.int .i64 v) τ r Y:=by
 simp only[runE] at h
 split at h
 ·unfold atomG at h
  dsimp only at h
  rw[if_neg (by omega),if_neg (by rw[isS_named hk];simp),if_neg (by rw[isS_named hk];simp),if_pos hk] at h
  split at h
  ·rename_i his
   obtain⟨ok,h2⟩:=cputA_some h
   obtain⟨rfl,rfl,rfl⟩:=qI h2
   have h40:isS ts [40] (stepS σ)=false:=by
    have e1:=isS_tx his
    cases hi:isS ts [40] (stepS σ) with
    | false=>rfl
    | true=>have e2:=isS_tx hi;rw[e1] at e2;cases e2
   exact named_is b g cap dv ts xb σ hc hk ok h40 his W hW
  ·rename_i his
   have his:isS ts [105,115] (stepS σ)=false:=by simpa using his
   split at h
   ·rename_i h40
    split at h
    ·rename_i h41
     obtain⟨ok,h2⟩:=cputA_some h
     obtain⟨rfl,rfl,rfl⟩:=qI h2
     exact named_call b g cap dv ts xb σ hc hk (stepS (stepS (stepS σ))) [] ok h40 (fun xb w hw=>args_none b g cap dv ts xb (stepS (stepS σ)) hc h41 w hw) W hW
    ·rename_i h41
     obtain⟨⟨e0,l0,s1⟩,r1,h2⟩:=bind_some' h
     obtain⟨⟨v1,acc,s2⟩,r2,h3⟩:=bind_some' h2
     obtain⟨ok,h4⟩:=cputA_some h3
     obtain⟨rfl,rfl,rfl⟩:=qI h4
     exact named_call b g cap dv ts xb σ hc hk (wantS ts [41] s2) acc ok h40 (fun xb w hw=>args_some b g cap dv ts xb f IE (stepS (stepS σ)) s1 s2 hc (by simpa using h41) e0 v1 l0 acc r1 r2 w hw) W hW
   ·rename_i h40
    obtain⟨ok,h2⟩:=cputA_some h
    obtain⟨rfl,rfl,rfl⟩:=qI h2
    exact named_plain b g cap dv ts xb σ hc hk ok (by simpa using h40) his W hW
 ·cases h
theorem atom_rule (b g cap:Nat) (dv:Value) (ts:List Tok) (f:Nat) (IE:∀xb,RuleC b g cap dv ts xb 26 f .expr) (xb:Nat→Prop):RuleC b g cap dv ts xb 125 (f+1) .atom:=by
 intro σ v l τ hc h W hW
 by_cases hk1:(tokL ts σ.at_).kind=1
 ·exact catom_name b g cap dv ts xb σ hc hk1 (isS_named hk1) (isS_named hk1) v τ (fun W hW=>named_rule b g cap dv ts f IE xb σ hc hk1 v l τ h W hW) W hW
 ·simp only[runE] at h
  split at h
  ·unfold atomG at h
   dsimp only at h
   split at h
   ·rename_i hk2
    obtain⟨ok,h2⟩:=cputA_some h
    obtain⟨rfl,rfl,rfl⟩:=qI h2
    exact catom_num b g cap dv ts xb σ hc hk2 ok W hW
   ·rename_i hk2
    split at h
    ·rename_i hi
     obtain⟨ok,h2⟩:=cputA_some h
     obtain⟨rfl,rfl,rfl⟩:=qI h2
     exact catom_true b g cap dv ts xb σ hc hk2 hi ok W hW
    ·rename_i h1
     have h1:isS ts [116,114,117,101] σ=false:=by simpa using h1
     split at h
     ·rename_i hi
      obtain⟨ok,h2⟩:=cputA_some h
      obtain⟨rfl,rfl,rfl⟩:=qI h2
      exact catom_false b g cap dv ts xb σ hc hk2 h1 hi ok W hW
     ·rename_i h2
      have h2:isS ts [102,97,108,115,101] σ=false:=by simpa using h2
      obtain⟨⟨e0,l0,s1⟩,r1,h3⟩:=bind_some' h
      obtain⟨rfl,rfl,rfl⟩:=qI h3
      cases h40:isS ts [40] σ with
      | true =>
       have e:wantS ts [40] σ=stepS σ:=by unfold wantS;rw[if_pos h40]
       rw[e] at r1
       exact catom_par b g cap dv ts xb σ hc hk1 hk2 h1 h2 h40 e0 s1 (fun W hW=>IE xb (stepS σ) e0 l0 s1 hc r1 W hW) (fun hz=>want_stuck hz) W hW
      | false =>
       obtain⟨c1,c2⟩:=want_fail (s:=[40]) hc h40
       have st:=stuck_expr .expr r1
       obtain⟨d1,d2⟩:=st (by rw[c1];decide)
       have hz:s1.code≠0:=by rw[d1,c1];decide
       dsimp only
       rw[want_stuck hz]
       exact catom_no b g cap dv ts xb σ hc hk1 hk2 h1 h2 h40 e0 s1 ⟨d1.trans c1,d2.trans c2⟩ W hW
  ·cases h
structure Rules (b g cap:Nat) (dv:Value) (ts:List Tok) (xb:Nat→Prop) (f:Nat):Prop where
 expr:RuleC b g cap dv ts xb 26 f .expr
 pre:RuleC b g cap dv ts xb 119 f .pre
 atom:RuleC b g cap dv ts xb 125 f .atom
 or:RuleC b g cap dv ts xb 52 f (.bin 1)
 and:RuleC b g cap dv ts xb 78 f (.bin 2)
 rel:RuleC b g cap dv ts xb 92 f (.bin 3)
 sum:RuleC b g cap dv ts xb 105 f (.bin 4)
 term:RuleC b g cap dv ts xb 115 f (.bin 5)
 six:RuleC b g cap dv ts xb 119 f (.bin 6)
theorem rule_zero {b g cap:Nat} {dv:Value} {ts:List Tok} {xb:Nat→Prop} {F:Nat} {j:Job}:RuleC b g cap dv ts xb F 0 j:=fun σ v l τ hc h=>by cases h
theorem cbin_six {ts:List Tok} {f:Nat} {σ:RS} {R:Int×List Int×RS} (h:runE ts (f+1) (.bin 6) σ=some R):runE ts f .pre σ=some R:=by
 simp only[runE] at h
 split at h
 ·unfold binG at h
  rw[if_pos (by decide)] at h
  exact h
 ·cases h
theorem all_rules (b g cap:Nat) (dv:Value) (ts:List Tok):∀(f:Nat) (xb:Nat→Prop),Rules b g cap dv ts xb f:=by
 intro f
 induction f with
 | zero=>exact fun xb=>⟨rule_zero,rule_zero,rule_zero,rule_zero,rule_zero,rule_zero,rule_zero,rule_zero,rule_zero⟩
 | succ f ih =>
  exact fun xb=>⟨expr_rule b g cap dv ts f (fun xb=>(ih xb).or) (fun xb=>(ih xb).expr) xb,pre_rule b g cap dv ts xb f (ih xb).atom (ih xb).pre,atom_rule b g cap dv ts f (fun xb=>(ih xb).expr) xb,
   or_rule b g cap dv ts xb f (ih xb).and,and_rule b g cap dv ts xb f (ih xb).rel,rel_rule b g cap dv ts xb f (ih xb).sum,sum_rule b g cap dv ts xb f (ih xb).term,term_rule b g cap dv ts xb f (ih xb).six,
   fun σ v l τ hc h=>(ih xb).pre σ v l τ hc (cbin_six h)⟩
theorem expr_fn (b g cap:Nat) (dv:Value) (ts:List Tok) (xb:Nat→Prop) (f:Nat) (σ τ:RS) (v:Int) (l:List Int) (hc:σ.code=0) (hr:runE ts f .expr σ=some (v,l,τ)) (W:World) (h:Hid (Cd W b g cap dv ts xb σ)) :
  Calls prog 25 #[.pointer (some ⟨b,0,none⟩)] W fun r Y=>CdRet b g cap dv ts xb W (.tuple #[]) τ r Y:=by
 have C:=Hd ((all_rules b g cap dv ts f xb).expr σ v l τ hc hr W h)
 by_cases hz:τ.code=0
 ·have C1:=Hd (C.out.mono fun r Y hh=>hh.ok hz)
  have HZ:=Hd hz
  clear C hz
  go_enter Tryz.func25,Tryz.ntmps25
  go_wp2_with (go_at_call 26;(with_reducible refine C1.out.mono ?_);rintro e w2 ⟨rfl,hr,hk⟩)
  go_end0
  exact⟨hk.out,.inl ⟨HZ.out,rfl,hr.out⟩⟩
 ·have C1:=Hd (C.out.mono fun r Y hh=>hh.bad hz)
  have HZ:=Hd hz
  clear C hz
  go_enter Tryz.func25,Tryz.ntmps25
  go_wp2_with (go_at_call 26;(with_reducible refine C1.out.mono ?_);rintro e w2 ⟨rfl,hk⟩)
  exact⟨rfl,hk.out,.inr ⟨HZ.out,rfl⟩⟩
theorem below_chain {B q b:Nat} {W W2 w3 X Z w5 w6:World} (h1:Below B W W2) (hB2:B≤W2.heap.size) (h2:Below W2.heap.size W2 w3) (hB:B≤q) (h3:But q w3 X) (hX:B≤X.heap.size) (h4:Below X.heap.size X Z) (hb:B≤b) (h5:RK b Z w5) (h6:But q w5 w6):Below B W w6:=by
 refine⟨h6.os.trans (h5.os.trans (h4.os.trans (h3.os.trans (h2.os.trans h1.os)))),h6.tape.trans (h5.tape.trans (h4.tape.trans (h3.tape.trans (h2.tape.trans h1.tape)))),h6.output.trans (h5.output.trans (h4.output.trans (h3.output.trans (h2.output.trans h1.output)))),Nat.le_trans h1.size (Nat.le_trans h2.size (Nat.le_trans h3.size (Nat.le_trans h4.size (Nat.le_trans h5.size h6.size)))),fun k hk=>?_⟩
 have s2:=h2.size
 have s3:=h3.size
 have s4:=h4.size
 have s5:=h5.size
 rw[h6.block k (by omega) (by omega),h5.low k (by omega),h4.block k (by omega),h3.block k (by omega) (by omega),h2.block k (by omega),h1.block k hk]
theorem capL {w:World} {B g n cap s:Nat} {T:TypeId} {xs:List Value} (h:w.ownsRow B T s (.slice (some ⟨g,0,none⟩) n cap) n xs):n≤cap:=by
 rcases h.2 with ⟨h1,_⟩ | ⟨g',cap',cur,h1,_,_,h3,_⟩
 ·cases h1
 ·cases h1;exact h3
theorem cd_new {X:World} {g cap:Nat} {ts:List Tok} (hr:RowAt X g ts) (hl:ts.length≤40000) (hc:ts.length≤cap) (he:EndOk ts) (ht:TxOk ts) :
  Cd (X.alloc (.cells #[.slice (some ⟨g,0,none⟩) ts.length cap,.slice none 0 0,.slice none 0 0,.int .i64 0] 78)) X.heap.size g cap (.slice none 0 0) ts (fun _=>False) rs0 :=
 ⟨fun _ hk=>hk.elim,⟨none,0,by rw[heap_alloc_new];simp[rs0],⟨[],rfl,qO _ _ _ _,fun p hp=>by cases hp⟩,fun k hk=>by cases hk⟩,fun hk=>hk,hr.below ((qB _ _).alloc (qL _) _),hr.1,he.1,hl,hc,he,ht⟩
theorem read_ok (l:List UInt8) (ts:List Tok) (ht:lexT l ts none) (hl:l.length≤20000) (f:Nat) (τ:RS) (v:Int) (l0:List Int) (hr:runE (ts++[endT l.length]) f .expr rs0=some (v,l0,τ)) (hz:τ.code=0) (h5:(tokL (ts++[endT l.length]) τ.at_).kind=5) (W:World) (hS:Signs W) :
  Calls prog 15 #[.string (str l),.func (.func 25) #[] #[]] W fun r Y=>∃o c,r=.returned (.tuple #[.agg #[.slice none 0 0,.slice o τ.exprs.length c],.agg #[.int .i64 0,.int .i64 0]])∧Below W.heap.size W Y∧ExsOwn Y W.heap.size (fun _=>False) (.slice o τ.exprs.length c) τ.exprs:=by
 obtain⟨L,hL⟩:∃L,L=τ.exprs.length:=⟨_,rfl⟩
 rw[←hL]
 obtain⟨us,hus⟩:∃us,us=ts++[endT l.length]:=⟨_,rfl⟩
 have hlen:us.length=ts.length+1:=by rw[hus,List.length_append];rfl
 obtain⟨n,hn⟩:∃n,n=us.length:=⟨_,rfl⟩
 have hts:ts.length≤20000:=by have hcnt:=toks_count ht;have g1:=gapTo_le false (Nat.zero_le l.length);omega
 have HE:Hid (EndOk us∧TxOk us∧us.length≤40000):=Hd ⟨by rw[hus];exact end_ok ht _,by rw[hus];exact lexed_tx ht _,by omega⟩
 obtain⟨W2,hW2⟩:∃W2,W2=(W.alloc (.cells #[.slice none 0 0,.slice none 0 0] 26)).alloc (.cells #[.int .i64 0,.int .i64 0] 29):=⟨_,rfl⟩
 have hb2:Below W.heap.size W W2:=by rw[hW2];exact((qB _ _).alloc (qL _) _).alloc (by simp) _
 have hs2:W2.heap.size=W.heap.size+2:=by rw[hW2];simp
 have LX:Hid (Calls prog 31 #[.string (str l)] W2 fun r Y=>∃g cap,r=.returned (.tuple #[.slice (some ⟨g,0,none⟩) n cap,.agg #[.int .i64 0,.int .i64 0]])∧Hid (Below W2.heap.size W2 Y∧RowAt Y g us∧W2.heap.size≤g∧n≤cap)):=Hd ((lex_any l ts none ht W2 (hS.below hb2)).mono fun e w' ⟨v,c,f',he,hb,h⟩=>by
  rcases h with ⟨h1,_⟩ | ⟨_,_,rfl,rfl,h2⟩ | ⟨_,g,h2,_⟩
  ·omega
  ·obtain⟨g',cap',rfl⟩:=ownsRow_succ h2
   have hlt:=h2.lt g' rfl
   rw[←hus] at h2
   refine⟨g',cap',by rw[he,hn,hlen],Hd ⟨hb,⟨hlt.2,fun i t hi=>?_⟩,hlt.1,by rw[hn,hlen];exact capL h2⟩⟩
   obtain⟨h1,h3,h4,h5⟩:=tokCells_at hi
   exact⟨row_cells h2 _ _ h1,row_cells h2 _ _ h3,row_cells h2 _ _ h4,row_cells h2 _ _ h5⟩
  ·cases h2)
 have EX:Hid (∀w b g cap,Hid (Cd w b g cap (.slice none 0 0) us (fun _=>False) rs0)→Calls prog 25 #[.pointer (some ⟨b,0,none⟩)] w fun r Y=>CdOk b g cap (.slice none 0 0) us (fun _=>False) w (.tuple #[]) τ r Y):=Hd fun w b g cap h=>(expr_fn b g cap _ us _ f rs0 τ v l0 rfl (by rw[hus];exact hr) w h).mono fun r Y hh=>hh.ok hz
 obtain⟨tv,htv⟩:∃tv,tv=tokV (tokL us τ.at_):=⟨_,rfl⟩
 have WE:Hid (∀w b g cap,Hid (Cd w b g cap (.slice none 0 0) us (fun _=>False) τ)→Calls prog 33 #[.pointer (some ⟨b,0,none⟩),.int .i64 5] w fun r Y=>r=.returned tv∧(∃s d o c,Hid (Y.heap[b]?=some (.cells #[s,.slice none 0 0,.slice o L c,.int .i64 d] 78 (0,0)))∧Hid (ExsOwn Y b (fun _=>False) (.slice o L c) τ.exprs))∧Hid (RX b (fun _=>False) w Y)):=Hd fun w b g cap h=>(want_end b g cap _ us _ τ w h hz).mono fun r Y hh=>by
  rcases hh.2 with ⟨_,e5,s,d,o,c,e6,e7⟩ | ⟨e5,_⟩
  ·exact⟨by rw[htv];exact e5,⟨s,d,o,c,Hd (by rw[hL];exact e6),Hd (by rw[hL];exact e7)⟩,Hd hh.1⟩
  ·rw[hus] at e5;exact absurd h5 e5
 have HA:Hid (W2.heap[W.heap.size+1]?=some (.cells #[.int .i64 0,.int .i64 0] 29 (0,0))):=Hd (by rw[hW2];simpa using heap_alloc_new (W.alloc (.cells #[.slice none 0 0,.slice none 0 0] 26)) (.cells #[.int .i64 0,.int .i64 0] 29))
 have HP:Hid (W2.heap[W.heap.size]?=some (.cells #[.slice none 0 0,.slice none 0 0] 26 (0,0))):=Hd (by
  rw[hW2,((qB _ _).alloc (qL _) _:Below (W.alloc (.cells #[.slice none 0 0,.slice none 0 0] 26)).heap.size _ _).block _ (by simp)]
  exact heap_alloc_new _ _)
 have HB2:=Hd hb2
 have MF:=runF
 clear hr hlen hus hts hS hb2 hz ht h5 htv
 have HL:=Hd hL
 clear hL
 have HN:=Hd hn
 clear hn
 go_enter_defers Tryz.func15,Tryz.ntmps15
 go_wp2_with (first
  | (go_at_call 31;rw[←hW2];clear hW2;(with_reducible refine LX.out.mono ?_);rintro e w3 ⟨g,cap,rfl,h3⟩;have HA3:=Hd ((h3.out.1.block _ (heap_lt HA.out)).trans HA.out);have d0:w3.cell? ⟨W.heap.size+1,0,none⟩=some (.int .i64 0):=(by simp[World.cell?,HA3.out]);have d1:w3.cell? ⟨W.heap.size+1,1,none⟩=some (.int .i64 0):=(by simp[World.cell?,HA3.out]);have z0:w3.frozen? ⟨W.heap.size+1,0,none⟩=false:=(by simp[World.frozen?,HA3.out]);have z1:w3.frozen? ⟨W.heap.size+1,1,none⟩=false:=(by simp[World.frozen?,HA3.out])))
 obtain⟨X,hX⟩:∃X,X=(w3.setCell ⟨W.heap.size+1,0,none⟩ (.int .i64 0)).setCell ⟨W.heap.size+1,1,none⟩ (.int .i64 0):=⟨_,rfl⟩
 have hxs:w3.heap.size=X.heap.size:=by rw[hX];simp
 have hbu:But (W.heap.size+1) w3 X:=by rw[hX];exact((But.refl _ _).set 0 _).set 1 _
 have hfx:X.heap[W.heap.size+1]?=some (.cells #[.int .i64 0,.int .i64 0] 29 (0,0)):=by rw[hX,set_blk (set_blk HA3.out 0 (.int .i64 0)) 1 (.int .i64 0)];rfl
 obtain⟨h31,h32,h33,h34⟩:=h3.out
 have hpx:X.heap[W.heap.size]?=some (.cells #[.slice none 0 0,.slice none 0 0] 26 (0,0)):=(hbu.block _ (by omega) (Nat.lt_of_lt_of_le (heap_lt HP.out) h31.size)).trans ((h31.block _ (heap_lt HP.out)).trans HP.out)
 have hrx:RowAt X g us:=row_low h32 (hbu.block g (by omega) h32.1)
 rw[←hX,hxs]
 obtain⟨Z,hZ⟩:∃Z,Z=X.alloc (.cells #[.slice (some ⟨g,0,none⟩) n cap,.slice none 0 0,.slice none 0 0,.int .i64 0] 78):=⟨_,rfl⟩
 have HZ:Hid (Cd Z X.heap.size g cap (.slice none 0 0) us (fun _=>False) rs0):=Hd (by
  obtain rfl:=HN.out
  rw[hZ];exact cd_new hrx HE.out.2.2 h34 HE.out.1 HE.out.2.1)
 have hbz:Below X.heap.size X Z:=by rw[hZ];exact(qB _ _).alloc (qL _) _
 have hfz:=(hbz.block _ (heap_lt hfx)).trans hfx
 have hpz:=(hbz.block _ (heap_lt hpx)).trans hpx
 have hx1:=heap_lt hfx
 rw[←hZ]
 refine(EX.out Z _ g cap HZ).mono ?_
 rintro e w4 ⟨rfl,hr4,hk4⟩
 dsimp only
 clear hX hxs hZ
 go_wp2_with (go_at_call 33;(with_reducible refine(WE.out _ _ _ _ hr4).mono ?_);rintro e w5 ⟨rfl,⟨s,d,o,c,hb5,hx5⟩,hk4'⟩;have hk5:=Hd (hk4.out.trans hk4'.out);have hf5:=Hd (hk5.out.keep _ _ hfz (by omega) (fun cs e=>by cases e));have hp5:=Hd (hk5.out.keep _ _ hpz (by omega) (fun cs e=>by cases e));obtain⟨⟨b0,b1,b2,b3⟩,bf⟩:=four_of hb5.out;clear b0 b3 bf;have p0:w5.cell? ⟨W.heap.size,0,none⟩=some (.slice none 0 0):=(by simp[World.cell?,hp5.out]);have p1:w5.cell? ⟨W.heap.size,1,none⟩=some (.slice none 0 0):=(by simp[World.cell?,hp5.out]);have f0:w5.cell? ⟨W.heap.size+1,0,none⟩=some (.int .i64 0):=(by simp[World.cell?,hf5.out]);have f1:w5.cell? ⟨W.heap.size+1,1,none⟩=some (.int .i64 0):=(by simp[World.cell?,hf5.out]);have y0:w5.frozen? ⟨W.heap.size,0,none⟩=false:=(by simp[World.frozen?,hp5.out]);have y1:w5.frozen? ⟨W.heap.size,1,none⟩=false:=(by simp[World.frozen?,hp5.out]);have y2:w5.frozen? ⟨W.heap.size+1,0,none⟩=false:=(by simp[World.frozen?,hf5.out]);have y3:w5.frozen? ⟨W.heap.size+1,1,none⟩=false:=(by simp[World.frozen?,hf5.out]))
 obtain⟨V,hV⟩:∃V,V=(((w5.setCell ⟨W.heap.size,0,none⟩ (.slice none 0 0)).setCell ⟨W.heap.size,1,none⟩ (.slice o L c)).setCell ⟨W.heap.size+1,0,none⟩ (.int .i64 0)).setCell ⟨W.heap.size+1,1,none⟩ (.int .i64 0):=⟨_,rfl⟩
 obtain⟨V1,hV1⟩:∃V1,V1=(w5.setCell ⟨W.heap.size,0,none⟩ (.slice none 0 0)).setCell ⟨W.heap.size,1,none⟩ (.slice o L c):=⟨_,rfl⟩
 have n1:But W.heap.size w5 V1:=by rw[hV1];exact((But.refl _ _).set 0 _).set 1 _
 have n2:But (W.heap.size+1) V1 V:=by rw[hV,←hV1];exact((But.refl _ _).set 0 _).set 1 _
 have a1:V1.heap[W.heap.size]?=some (.cells #[.slice none 0 0,.slice o L c] 26 (0,0)):=by rw[hV1,set_blk (set_blk hp5.out 0 (.slice none 0 0)) 1 (.slice o L c)];rfl
 have a2:=(n2.block _ (by omega) (heap_lt a1)).trans a1
 have a3:V1.heap[W.heap.size+1]?=some (.cells #[.int .i64 0,.int .i64 0] 29 (0,0)):=(n1.block _ (by omega) (heap_lt hf5.out)).trans hf5.out
 have a4:V.heap[W.heap.size+1]?=some (.cells #[.int .i64 0,.int .i64 0] 29 (0,0)):=by rw[hV,←hV1,set_blk (set_blk a3 0 (.int .i64 0)) 1 (.int .i64 0)];rfl
 rw[←hV]
 clear hV hV1
 refine leaves_cons (f:=32) (args:=#[.pointer (some ⟨W.heap.size+1,0,none⟩)]) (by simp) (by simp[go_sem]) ?_
 refine(catch_idle (W.heap.size+1) V).mono ?_
 rintro e u' w6 ⟨rfl,rfl,hb6⟩
 have hp6:=(hb6.block _ (heap_lt a2)).trans a2
 have hf6:=(hb6.block _ (heap_lt a4)).trans a4
 have g0:w6.cell? ⟨W.heap.size+1,0,none⟩=some (.int .i64 0):=by simp[World.cell?,hf6]
 have g1:w6.cell? ⟨W.heap.size+1,1,none⟩=some (.int .i64 0):=by simp[World.cell?,hf6]
 have g2:w6.cell? ⟨W.heap.size,0,none⟩=some (.slice none 0 0):=by simp[World.cell?,hp6]
 have g3:w6.cell? ⟨W.heap.size,1,none⟩=some (.slice o L c):=by simp[World.cell?,hp6]
 have h32s:=h31.size
 have s1:=n1.size
 have s2:=n2.size
 have hw5:Below W.heap.size W w5:=below_chain HB2.out (by omega) h31 (by omega) hbu (by omega) hbz (by omega) hk5.out.rk (But.refl _ _)
 have hfin:Below W.heap.size W w6:=by
  have sw:=hw5.size
  refine⟨hb6.os.trans (n2.os.trans (n1.os.trans hw5.os)),hb6.tape.trans (n2.tape.trans (n1.tape.trans hw5.tape)),hb6.output.trans (n2.output.trans (n1.output.trans hw5.output)),by have:=hb6.size;omega,fun k hk=>?_⟩
  rw[hb6.block k (by omega),n2.block k (by omega) (by omega),n1.block k (by omega) (by omega),hw5.block k hk]
 have hown:ExsOwn w6 W.heap.size (fun _=>False) (.slice o L c) τ.exprs:=(hx5.out.same fun k h1 h2=>by
  rw[hb6.block k (by omega),n2.block k (by omega) (by omega),n1.block k (by omega) h2]).base (by omega)
 simp only[Leaves,settle]
 simp[results,Tryz.results15,go_sem,g0,g1,g2,g3]
 exact⟨o,c,⟨rfl,rfl⟩,hfin,hown⟩
theorem read_lex (s:ByteArray) (F:Value) (c f:Int) (hc:c≠0) (W:World) (LX:Hid (∀W2,Below W.heap.size W W2→Calls prog 31 #[.string s] W2 fun r Y=>NoRow c f W2 r Y)) :
  Calls prog 15 #[.string s,F] W fun r Y=>r=.returned (.tuple #[.agg #[.slice none 0 0,.slice none 0 0],.agg #[.int .i64 c,.int .i64 f]])∧Below W.heap.size W Y:=by
 obtain⟨W2,hW2⟩:∃W2,W2=(W.alloc (.cells #[.slice none 0 0,.slice none 0 0] 26)).alloc (.cells #[.int .i64 0,.int .i64 0] 29):=⟨_,rfl⟩
 have hb2:Below W.heap.size W W2:=by rw[hW2];exact((qB _ _).alloc (qL _) _).alloc (by simp) _
 have hs2:W2.heap.size=W.heap.size+2:=by rw[hW2];simp
 have hP:W2.heap[W.heap.size]?=some (.cells #[.slice none 0 0,.slice none 0 0] 26 (0,0)):=by
  rw[hW2,heap_alloc_old _ _ (by simp)];exact heap_alloc_new W _
 have hF:W2.heap[W.heap.size+1]?=some (.cells #[.int .i64 0,.int .i64 0] 29 (0,0)):=by
  have:=heap_alloc_new (W.alloc (.cells #[.slice none 0 0,.slice none 0 0] 26)) (.cells #[.int .i64 0,.int .i64 0] 29)
  rw[World.size_alloc] at this
  rw[hW2];exact this
 have L2:=Hd (LX.out W2 hb2)
 have HB2:=Hd hb2
 have HPF:=Hd (show _∧_ from⟨hP,hF⟩)
 have HS2:=Hd hs2
 have q3:(c !=0)=true:=bne_iff_ne.2 hc
 have q4:(c ==0)=false:=beq_false_of_ne hc
 clear hb2 hs2 hP hF hc LX
 have AT:Hid (∀w3,Below W2.heap.size W2 w3→W.heap.size+1<w3.heap.size∧w3.heap[W.heap.size]?=some (.cells #[.slice none 0 0,.slice none 0 0] 26 (0,0))∧w3.heap[W.heap.size+1]?=some (.cells #[.int .i64 0,.int .i64 0] 29 (0,0))):=by
  refine Hd fun w3 hb3=>?_
  have h2:=HS2.out
  have h3:=hb3.size
  exact⟨by omega,(hb3.block W.heap.size (by omega)).trans HPF.out.1,(hb3.block (W.heap.size+1) (by omega)).trans HPF.out.2⟩
 go_enter_defers Tryz.func15,Tryz.ntmps15
 go_wp2_with (go_at_call 31;rw[←hW2];clear hW2;(with_reducible refine L2.out.mono ?_);rintro e w3 ⟨rfl,hb3⟩;have HB3:=Hd hb3;obtain⟨hlt,hP,hF⟩:=AT.out w3 hb3;have HPP:=Hd (show _∧_ from⟨hP,hF⟩);have HLT:=Hd hlt;have d0:w3.cell? ⟨W.heap.size+1,0,none⟩=some (.int .i64 0):=(by simp[World.cell?,hF]);have d1:w3.cell? ⟨W.heap.size+1,1,none⟩=some (.int .i64 0):=(by simp[World.cell?,hF]);have z0:w3.frozen? ⟨W.heap.size+1,0,none⟩=false:=(by simp[World.frozen?,hF]);have z1:w3.frozen? ⟨W.heap.size+1,1,none⟩=false:=(by simp[World.frozen?,hF]);clear hb3 hP hF hlt)
 have hlt:=HLT.out
 obtain⟨X,hX⟩:∃X,X=(w3.setCell ⟨W.heap.size+1,0,none⟩ (.int .i64 c)).setCell ⟨W.heap.size+1,1,none⟩ (.int .i64 f):=⟨_,rfl⟩
 have hFX:X.heap[W.heap.size+1]?=some (.cells #[.int .i64 c,.int .i64 f] 29 (0,0)):=by rw[hX,set_blk (set_blk HPP.out.2 0 _) 1 _];rfl
 have hPX:X.heap[W.heap.size]?=some (.cells #[.slice none 0 0,.slice none 0 0] 26 (0,0)):=by
  rw[hX,Below.heap_setCell _ _ _ _ (by simp),Below.heap_setCell _ _ _ _ (by simp)];exact HPP.out.1
 have hbX:Below W.heap.size W X:=by
  have h:=HB2.out.trans (HB3.out.mono (by have:=HS2.out;omega))
  rw[hX];exact(h.setCell (p:=⟨W.heap.size+1,0,none⟩) (Nat.le_succ _) _).setCell (p:=⟨W.heap.size+1,1,none⟩) (Nat.le_succ _) _
 rw[←hX]
 have p0':X.cell? ⟨W.heap.size,0,none⟩=some (.slice none 0 0):=by simp[World.cell?,hPX]
 have p1':X.cell? ⟨W.heap.size,1,none⟩=some (.slice none 0 0):=by simp[World.cell?,hPX]
 have p2':X.frozen? ⟨W.heap.size,0,none⟩=false:=by simp[World.frozen?,hPX]
 have p3':X.frozen? ⟨W.heap.size,1,none⟩=false:=by simp[World.frozen?,hPX]
 have u0':X.cell? ⟨W.heap.size+1,0,none⟩=some (.int .i64 c):=by simp[World.cell?,hFX]
 have u1':X.cell? ⟨W.heap.size+1,1,none⟩=some (.int .i64 f):=by simp[World.cell?,hFX]
 have u2':X.frozen? ⟨W.heap.size+1,0,none⟩=false:=by simp[World.frozen?,hFX]
 have u3':X.frozen? ⟨W.heap.size+1,1,none⟩=false:=by simp[World.frozen?,hFX]
 have HX:=Hd (show _∧_∧_ from⟨hPX,hFX,hbX⟩)
 clear hX d0 d1 z0 z1 hFX hPX hbX
 have mixed:prog.follows .mixedOrders=true:=by kernel_rfl
 have late:prog.follows .lateStores=true:=by kernel_rfl
 go_region_o
 go_wp2_with fail
 obtain⟨Y,hY⟩:∃Y,Y=(((X.setCell ⟨W.heap.size,0,none⟩ (.slice none 0 0)).setCell ⟨W.heap.size,1,none⟩ (.slice none 0 0)).setCell ⟨W.heap.size+1,0,none⟩ (.int .i64 c)).setCell ⟨W.heap.size+1,1,none⟩ (.int .i64 f):=⟨_,rfl⟩
 rw[←hY]
 have k1:Y.drew.heap[W.heap.size]?=some (.cells #[.slice none 0 0,.slice none 0 0] 26 (0,0)):=by
  show Y.heap[W.heap.size]?=_
  rw[hY,Below.heap_setCell _ _ _ _ (by simp),Below.heap_setCell _ _ _ _ (by simp),set_blk (set_blk HX.out.1 0 _) 1 _];rfl
 have k2:Y.drew.heap[W.heap.size+1]?=some (.cells #[.int .i64 c,.int .i64 f] 29 (0,0)):=by
  show Y.heap[W.heap.size+1]?=_
  rw[hY,set_blk (set_blk (((Below.heap_setCell _ _ _ _ (by simp)).trans (Below.heap_setCell _ _ _ _ (by simp))).trans HX.out.2.1) 0 _) 1 _];rfl
 have r0:Y.drew.cell? ⟨W.heap.size,0,none⟩=some (.slice none 0 0):=by simp[World.cell?,k1]
 have r1:Y.drew.cell? ⟨W.heap.size,1,none⟩=some (.slice none 0 0):=by simp[World.cell?,k1]
 have r2:Y.drew.cell? ⟨W.heap.size+1,0,none⟩=some (.int .i64 c):=by simp[World.cell?,k2]
 have r3:Y.drew.cell? ⟨W.heap.size+1,1,none⟩=some (.int .i64 f):=by simp[World.cell?,k2]
 have hbX:Below W.heap.size W Y:=by
  rw[hY]
  exact(((HX.out.2.2.setCell (p:=⟨W.heap.size,0,none⟩) (qL _) _).setCell (p:=⟨W.heap.size,1,none⟩) (qL _) _).setCell (p:=⟨W.heap.size+1,0,none⟩) (Nat.le_succ _) _).setCell (p:=⟨W.heap.size+1,1,none⟩) (Nat.le_succ _) _
 have hbY:Below W.heap.size W Y.drew:=hbX.trans (below_dr (qB _ _) 1)
 simp[bodyPostD,Leaves,results,Tryz.results15,go_sem,r0,r1,r2,r3,hbY]
end Go.Proofs.YtpfmlfcaadnnpaaGreatDoor
