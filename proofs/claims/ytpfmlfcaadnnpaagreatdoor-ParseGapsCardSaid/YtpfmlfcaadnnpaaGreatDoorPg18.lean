import Derived.Test.YtpfmlfcaadnnpaaGreatDoorPg17
import Derived.WalkKit
import Derived.Outline
import Derived.Lib.Hide
import Derived.Deep.QuietTactic
import Derived.BigQuiet
import Derived.Deep.Draws
import Derived.IntWalk
import Derived.RangeFuncNested
import Derived.RangeFuncBound
import Derived.RangeFuncCalls
import Derived.RangeFuncLeaves
import Derived.Shelf.Abstract
import Derived.Shelf.RegionOpen
import Derived.OwnWalkIn
import Derived.TacticsInMore
import Derived.LoopNIn
import Derived.LoopIn
set_option maxHeartbeats 16000000
set_option maxRecDepth 100000
set_option linter.unusedVariables false
open Go.Proofs.Tryz(prog)
namespace Go.Proofs.YtpfmlfcaadnnpaaGreatDoor
open Go.RowKit Lx
theorem cde_hybrid (b g cap:Nat) (dv:Value) (ts:List Tok) (xb:Nat→Prop) (f:Nat) (x:RS) (hc:x.code=0) (hi:isS ts [104,121,98,114,105,100] x=true) (v1:List Pa) (t1:RS) (hr1:paramsS ts f (nameS ts (stepS x))=some (v1,t1)) (v2:List It) (t2:RS) (hr2:itsL ts f true f [] (wantS ts [123] t1)=some (v2,t2)) (W:World) (h:Hid (Cd W b g cap dv ts xb x)) :
  Calls prog 34 #[.pointer (some ⟨b,0,none⟩)] W fun r Y=>CdeRet b g cap dv ts xb W ⟨3,str (nameV ts (stepS x)),v1,v2,0,0,((tokL ts x.at_).at_:Int)⟩ (wantS ts [125] t2) r Y:=by
 obtain⟨P,hP⟩:∃P,P=(tokL ts x.at_).at_:=⟨_,rfl⟩
 rw[←hP]
 obtain⟨s0,hs0⟩:∃s0,s0=stepS x:=⟨_,rfl⟩
 try rw[←hs0]
 try rw[←hs0] at hr1
 obtain⟨u0,hu0⟩:∃u:ByteArray,u=str (nameV ts s0):=⟨_,rfl⟩
 obtain⟨s1,hs1⟩:∃s1,s1=nameS ts s0:=⟨_,rfl⟩
 try rw[←hu0]
 try rw[←hs1]
 try rw[←hs1] at hr1
 obtain⟨u1,hu1⟩:∃u:List Pa,u=v1:=⟨_,rfl⟩
 obtain⟨s2,hs2⟩:∃s2,s2=t1:=⟨_,rfl⟩
 try rw[←hu1]
 try rw[←hs2]
 try rw[←hs2] at hr2
 obtain⟨u2,hu2⟩:∃u:List It,u=v2:=⟨_,rfl⟩
 obtain⟨s3,hs3⟩:∃s3,s3=t2:=⟨_,rfl⟩
 try rw[←hu2]
 try rw[←hs3]
 obtain⟨sw,hsw⟩:∃sw,sw=(wantS ts [125] s3):=⟨_,rfl⟩
 rw[←hsw]
 have K3:Hid (Stays s3 sw):=Hd (by rw[hsw];exact stays_want ts [125] _)
 have K2:Hid (Stays s2 sw):=Hd (by have:=(stays_want ts [123] s2).trans (stays_its hr2);rw[hs3] at K3;exact this.trans K3.out)
 have K1:Hid (Stays s1 sw):=Hd (by have:=stays_params hr1;rw[hs2] at K2;exact this.trans K2.out)
 have K0:Hid (Stays s0 sw):=Hd (by have:=stays_name ts s0;rw[←hs1] at this;exact this.trans K1.out)
 obtain⟨o,c,⟨c0,c1,c2,c3,fr⟩,hx⟩:=h.out.cells
 obtain⟨tkA,tkB,tkC,tkD⟩:=h.out.tok
 have hl:=h.out.at_
 have hbs:=h.out.size
 have hgs:g<W.heap.size:=by have:=h.out.lt;omega
 obtain⟨m,hmm⟩:∃m,m=ts.length-x.at_:=⟨_,rfl⟩
 obtain⟨a4,haa⟩:∃a4,a4=x.at_*4:=⟨_,rfl⟩
 rw[←hmm,←haa] at c0
 rw[←hP,←haa] at tkD
 have k0:(0:Int)<(m:Int):=by omega
 obtain⟨W2,hW2⟩:∃W2,W2=(W.alloc (.cells #[.int .i64 0,.string ⟨#[]⟩,.slice none 0 0,.slice none 0 0,.int .i64 0,.int .i64 0,.int .i64 0] 57)).alloc (.cells #[.int .i64 0,.string ⟨#[]⟩,.slice none 0 0,.slice none 0 0,.int .i64 0,.int .i64 0,.int .i64 (P:Int)] 57):=⟨_,rfl⟩
 have HB:Hid (DC W W2 b g cap dv ts xb x W.heap.size (W.heap.size+1) #[.int .i64 0,.string ⟨#[]⟩,.slice none 0 0,.slice none 0 0,.int .i64 0,.int .i64 0,.int .i64 (P:Int)] [] (.slice none 0 0) [] (.slice none 0 0)):=Hd (by rw[hW2];exact DC.new h.out _)
 have T0:=tk_no (b:=b) (g:=g) (cap:=cap) (dv:=dv) (xb:=xb) hc [102,117,110] ⟨#[102,117,110]⟩ rfl (by decide) (isS_one hi (by decide))
 have T1:=tk_no (b:=b) (g:=g) (cap:=cap) (dv:=dv) (xb:=xb) hc [110,111,100,101] ⟨#[110,111,100,101]⟩ rfl (by decide) (isS_one hi (by decide))
 have T2:=tk_yes (b:=b) (g:=g) (cap:=cap) (dv:=dv) (xb:=xb) hc hs0 [104,121,98,114,105,100] ⟨#[104,121,98,114,105,100]⟩ rfl (by decide) hi
 have z0:s0.code=0:=by rw[hs0];exact hc
 have C0:=st_name (b:=b) (g:=g) (cap:=cap) (dv:=dv) (xb:=xb) hu0 hs1
 have C1:Hid (s1.code=0→∀W,Hid (Cd W b g cap dv ts xb s1)→Calls prog 64 #[.pointer (some ⟨b,0,none⟩)] W fun r Y=>CpRet b g cap dv ts xb W u1 s2 r Y):=Hd fun z W h=>by rw[hu1,hs2];exact cparams_any b g cap dv ts xb f _ z (v1,t1) hr1 W h
 have C2:Hid (s2.code=0→∀W,Hid (Cd W b g cap dv ts xb s2)→Calls prog 68 #[.pointer (some ⟨b,0,none⟩),.string ⟨#[123]⟩,.func (.func 70) #[.pointer (some ⟨b,0,none⟩)] #[]] W fun r Y=>CisRet b g cap dv ts xb W u2 s3 (wantS ts [125] s3) r Y):=Hd fun z W h=>by rw[hu2,hs3];exact behind_items b g cap dv ts xb f _ [123] (v2,t2) hr2 W h z (by decide)
 have CW:=wt_one (b:=b) (g:=g) (cap:=cap) (dv:=dv) (xb:=xb) [125] ⟨#[125]⟩ rfl (by decide) hsw
 have HSW:=Hd hsw
 clear hmm haa tkA tkB tkC hl hx c1 c2 c3 fr hP hi hc hsw hs0 hr1 hr2 hu0 hs1 hu1 hs2 hu2 hs3
 go_enter Tryz.func34,Tryz.ntmps34
 go_wp2_with (first
  | (go_at_call 62;rw[←hW2];clear hW2 c0 tkD;(with_reducible refine(T0.out _ (Hd HB.out.cd)).mono ?_);rintro e wt0 ⟨rfl,hr1,hk1⟩;replace HB:=Hd (HB.out.call hr1 hk1);clear hr1 hk1)
  | (go_at_call 62;(with_reducible refine(T1.out _ (Hd HB.out.cd)).mono ?_);rintro e wt1 ⟨rfl,hr1,hk1⟩;replace HB:=Hd (HB.out.call hr1 hk1);clear hr1 hk1)
  | (go_at_call 62;(with_reducible refine(T2.out _ (Hd HB.out.cd)).mono ?_);rintro e wt2 ⟨rfl,hr1,hk1⟩;replace HB:=Hd (HB.out.call hr1 hk1);clear hr1 hk1;obtain⟨⟨y0,y1,y2,y3,y4,y5,y6⟩,yf⟩:=dgCells HB.out.box;have f0:=yf 0;clear yf)
  | (go_at_call 63;obtain⟨V0,hV0⟩:∃V0,V0=wt2.setCell ⟨W.heap.size+1,0,none⟩ (.int .i64 3):=⟨_,rfl⟩;have HV:Hid (DC W V0 b g cap dv ts xb s0 W.heap.size (W.heap.size+1) #[.int .i64 3,.string ⟨#[]⟩,.slice none 0 0,.slice none 0 0,.int .i64 0,.int .i64 0,.int .i64 (P:Int)] [] (.slice none 0 0) [] (.slice none 0 0)):=Hd (by rw[hV0];exact HB.out.set 0 _ rfl);clear HB;have HB:=HV;clear HV;rw[←hV0];clear hV0 y0 y1 y2 y3 y4 y5 y6 f0;(with_reducible refine(C0.out z0 _ (Hd HB.out.cd)).mono ?_);rintro e ws0 hh;rcases hh.two with ⟨z1,rfl,hr1,hk1⟩ | ⟨z1,rfl,hk1⟩;rotate_left;exact⟨rfl,CdeRet.bad (HB.out.rx.trans hk1.out) z1 K1.out⟩;replace HB:=Hd (HB.out.call hr1 hk1);clear hr1 hk1)
  | (go_at_call 64;(with_reducible refine(C1.out z1 _ (Hd HB.out.cd)).mono ?_);rintro e ws1 hh;rcases hh with ⟨z2,po,pc,rfl,hr1,hk1,how⟩ | ⟨z2,rfl,hk1⟩;rotate_left;exact⟨rfl,CdeRet.bad (HB.out.rx.trans hk1.out) z2 K2.out⟩;replace HB:=Hd ((HB.out.call hr1 hk1).pas (own_base how.out HB.out.rx.size));clear hr1 hk1 how)
  | (go_at_call 68;(with_reducible refine(C2.out z2 _ (Hd HB.out.cd)).mono ?_);rintro e ws2 hh;rcases hh with ⟨z3,zb,io,ic,rfl,hsg⟩ | ⟨zb,rfl,hk1⟩;rotate_left;exact⟨rfl,CdeRet.bad (HB.out.rx.trans hk1.out) zb (by rw[HSW.out];exact Stays.refl _)⟩;replace HB:=Hd ((HB.out.call (Hd hsg.out.cd) (Hd hsg.out.rx)).its (hsg.out.own.base HB.out.rx.size));clear hsg;obtain⟨⟨y0,y1,y2,y3,y4,y5,y6⟩,yf⟩:=dgCells HB.out.box;have f1:=yf 1;have f2:=yf 2;have f3:=yf 3;clear yf))
 obtain⟨V,hV⟩:∃V,V=(((ws2.setCell ⟨W.heap.size+1,1,none⟩ (.string u0)).setCell ⟨W.heap.size+1,2,none⟩ (.slice po u1.length pc)).setCell ⟨W.heap.size+1,3,none⟩ (.slice io u2.length ic)):=⟨_,rfl⟩
 have HV:Hid (DC W V b g cap dv ts xb s3 W.heap.size (W.heap.size+1) #[.int .i64 3,.string u0,.slice po u1.length pc,.slice io u2.length ic,.int .i64 0,.int .i64 0,.int .i64 (P:Int)] u1 (.slice po u1.length pc) u2 (.slice io u2.length ic)):=Hd (by rw[hV];exact(((HB.out.set 1 _ rfl).set 2 _ rfl).set 3 _ rfl))
 rw[←hV,show ws2.heap.size=V.heap.size by rw[hV];simp]
 clear hV HB y0 y1 y2 y3 y4 y5 y6 f1 f2 f3
 refine(CW.out z3 V (Hd HV.out.cd)).mono ?_
 rintro e w5 hh
 rcases hh.two with ⟨zz,rfl,hr5,hk5⟩ | ⟨zz,rfl,hk5⟩
 rotate_left
 ·exact⟨rfl,CdeRet.bad (HV.out.rx.trans hk5.out) zz (Stays.refl _)⟩
 dsimp only
 have HE:=Hd (HV.out.call hr5 hk5)
 obtain⟨⟨y0,y1,y2,y3,y4,y5,y6⟩,_⟩:=dgCells HE.out.box
 have hz0:=HE.out.zero
 unfold deZ at hz0
 obtain⟨⟨q0,q1,q2,q3,q4,q5,q6⟩,qf⟩:=dgCells hz0
 have g0:=qf 0;have g1:=qf 1;have g2:=qf 2;have g3:=qf 3;have g4:=qf 4;have g5:=qf 5;have g6:=qf 6
 clear qf hz0
 go_wp2_with fail
 obtain⟨r1,r2,r3,r4,r5⟩:=HE.out.told (.int .i64 3) (.string u0) (.slice po u1.length pc) (.slice io u2.length ic) (.int .i64 0) (.int .i64 0) (.int .i64 (P:Int))
 obtain⟨⟨x0,x1,x2,x3,x4,x5,x6⟩,_⟩:=dgCells r1
 unfold set7 at x0 x1 x2 x3 x4 x5 x6
 exact bodyPost_ret (v:=.agg #[.int .i64 3,.string u0,.slice po u1.length pc,.slice io u2.length ic,.int .i64 0,.int .i64 0,.int .i64 (P:Int)]) (by simp[results,Tryz.results34,go_sem,x0,x1,x2,x3,x4,x5,x6]) rfl ⟨r3,.inl ⟨zz,po,pc,io,ic,rfl,r2,r4,r5⟩⟩
theorem cde_none (b g cap:Nat) (dv:Value) (ts:List Tok) (xb:Nat→Prop) (x:RS) (hc:x.code=0) (h0:isS ts [102,117,110] x=false) (h1:isS ts [110,111,100,101] x=false) (h2:isS ts [104,121,98,114,105,100] x=false) (W:World) (h:Hid (Cd W b g cap dv ts xb x)) :
  Calls prog 34 #[.pointer (some ⟨b,0,none⟩)] W fun r Y=>CdBad b xb W 2 ((tokL ts x.at_).at_:Int) r Y:=by
 obtain⟨P,hP⟩:∃P,P=(tokL ts x.at_).at_:=⟨_,rfl⟩
 rw[←hP]
 obtain⟨o,c,⟨c0,c1,c2,c3,fr⟩,hx⟩:=h.out.cells
 obtain⟨tkA,tkB,tkC,tkD⟩:=h.out.tok
 have hl:=h.out.at_
 have hbs:=h.out.size
 have hgs:g<W.heap.size:=by have:=h.out.lt;omega
 obtain⟨m,hmm⟩:∃m,m=ts.length-x.at_:=⟨_,rfl⟩
 obtain⟨a4,haa⟩:∃a4,a4=x.at_*4:=⟨_,rfl⟩
 rw[←hmm,←haa] at c0
 rw[←hP,←haa] at tkD
 have k0:(0:Int)<(m:Int):=by omega
 obtain⟨W2,hW2⟩:∃W2,W2=(W.alloc (.cells #[.int .i64 0,.string ⟨#[]⟩,.slice none 0 0,.slice none 0 0,.int .i64 0,.int .i64 0,.int .i64 0] 57)).alloc (.cells #[.int .i64 0,.string ⟨#[]⟩,.slice none 0 0,.slice none 0 0,.int .i64 0,.int .i64 0,.int .i64 (P:Int)] 57):=⟨_,rfl⟩
 have HB:Hid (DC W W2 b g cap dv ts xb x W.heap.size (W.heap.size+1) #[.int .i64 0,.string ⟨#[]⟩,.slice none 0 0,.slice none 0 0,.int .i64 0,.int .i64 0,.int .i64 (P:Int)] [] (.slice none 0 0) [] (.slice none 0 0)):=Hd (by rw[hW2];exact DC.new h.out _)
 have T0:=tk_no (b:=b) (g:=g) (cap:=cap) (dv:=dv) (xb:=xb) hc [102,117,110] ⟨#[102,117,110]⟩ rfl (by decide) h0
 have T1:=tk_no (b:=b) (g:=g) (cap:=cap) (dv:=dv) (xb:=xb) hc [110,111,100,101] ⟨#[110,111,100,101]⟩ rfl (by decide) h1
 have T2:=tk_no (b:=b) (g:=g) (cap:=cap) (dv:=dv) (xb:=xb) hc [104,121,98,114,105,100] ⟨#[104,121,98,114,105,100]⟩ rfl (by decide) h2
 have RF:Hid (∀W,Hid (Cd W b g cap dv ts xb x)→Calls prog 60 #[.pointer (some ⟨b,0,none⟩),.int .i64 2] W fun r Y=>r=.returned (.agg #[.int .i64 2,.int .i64 (P:Int)])∧Hid (Below W.heap.size W Y)):=Hd fun W h=>(refusal_any b g cap dv ts xb x 2 W h).mono fun r Y hh=>by rw[hP];exact⟨hh.1,Hd hh.2⟩
 clear hmm haa tkA tkB tkC hl hx c1 c2 c3 fr hP hc h0 h1 h2
 go_enter Tryz.func34,Tryz.ntmps34
 go_wp2_with (first
  | (go_at_call 62;rw[←hW2];clear hW2 c0 tkD;(with_reducible refine(T0.out _ (Hd HB.out.cd)).mono ?_);rintro e wt0 ⟨rfl,hr1,hk1⟩;replace HB:=Hd (HB.out.call hr1 hk1);clear hr1 hk1)
  | (go_at_call 62;(with_reducible refine(T1.out _ (Hd HB.out.cd)).mono ?_);rintro e wt1 ⟨rfl,hr1,hk1⟩;replace HB:=Hd (HB.out.call hr1 hk1);clear hr1 hk1)
  | (go_at_call 62;(with_reducible refine(T2.out _ (Hd HB.out.cd)).mono ?_);rintro e wt2 ⟨rfl,hr1,hk1⟩;replace HB:=Hd (HB.out.call hr1 hk1);clear hr1 hk1)
  | (go_at_call 60;(with_reducible refine(RF.out _ (Hd HB.out.cd)).mono ?_);rintro e w3 ⟨rfl,hb3⟩))
 exact⟨rfl,rfl,Hd (HB.out.rx.trans (RX.of_below hb3.out (ql HB.out.cd.size) HB.out.cd.xlt))⟩
abbrev nox:Nat→Prop:=fun _=>False
theorem cdecl_any (b g cap:Nat) (dv:Value) (ts:List Tok) (xb:Nat→Prop) (f:Nat) (σ:RS) (hc:σ.code=0) (d:De) (τ:RS) (hr:declS ts f σ=some (d,τ)) (W:World) (h:Hid (Cd W b g cap dv ts xb σ)) :
  Calls prog 34 #[.pointer (some ⟨b,0,none⟩)] W fun r Y=>CdeRet b g cap dv ts xb W d τ r Y:=by
 unfold declS at hr
 split at hr
 ·rename_i hi
  obtain⟨⟨p,t1⟩,h1,hr⟩:=Option.bind_eq_some_iff.1 hr
  obtain⟨v2,l2,t2,h2,hr⟩:=exprS_bind hr
  cases hr
  exact cde_fun b g cap dv ts xb f σ hc hi p t1 h1 v2 l2 t2 h2 W h
 rename_i n1
 split at hr
 ·rename_i hi
  obtain⟨⟨p,t1⟩,h1,hr⟩:=Option.bind_eq_some_iff.1 hr
  obtain⟨⟨i,t2⟩,h2,hr⟩:=Option.bind_eq_some_iff.1 hr
  obtain⟨v3,l3,t3,h3,hr⟩:=exprS_bind hr
  cases hr
  exact cde_node b g cap dv ts xb f σ hc hi p t1 h1 i t2 h2 v3 l3 t3 h3 W h
 rename_i n2
 obtain⟨⟨p,t1⟩,h1,hr⟩:=Option.bind_eq_some_iff.1 hr
 obtain⟨⟨i,t2⟩,h2,hr⟩:=Option.bind_eq_some_iff.1 hr
 cases hr
 by_cases hi:isS ts [104,121,98,114,105,100] σ=true
 ·have e:wantS ts [104,121,98,114,105,100] σ=stepS σ:=by unfold wantS;rw[if_pos hi]
  rw[e] at h1 ⊢
  exact cde_hybrid b g cap dv ts xb f σ hc hi p t1 h1 i t2 h2 W h
 ·have hi':=Bool.eq_false_iff.2 hi
  have e1:(wantS ts [104,121,98,114,105,100] σ).code=2:=by unfold wantS failS;rw[if_neg hi,if_pos hc]
  have e2:(wantS ts [104,121,98,114,105,100] σ).pos=((tokL ts σ.at_).at_:Int):=by unfold wantS failS;rw[if_neg hi,if_pos hc]
  have hst:Stays (wantS ts [104,121,98,114,105,100] σ) (wantS ts [125] t2):=(stays_name ts _).trans ((stays_params h1).trans ((stays_want ts [123] _).trans ((stays_its h2).trans (stays_want ts [125] _))))
  refine(cde_none b g cap dv ts xb σ hc (Bool.eq_false_iff.2 n1) (Bool.eq_false_iff.2 n2) hi' W h).mono fun r Y hh=>?_
  obtain⟨k1,k2⟩:=hst (by rw[e1];decide)
  exact⟨hh.2.out,.inr ⟨by rw[k1,e1];decide,by rw[k1,k2,e1,e2];exact hh.1⟩⟩
theorem Cd.setDv {W:World} {b g cap:Nat} {dv:Value} {ts:List Tok} {xb:Nat→Prop} {σ:RS} (h:Cd W b g cap dv ts xb σ) (v:Value):Cd (W.setCell ⟨b,1,none⟩ v) b g cap v ts xb σ:=by
 obtain⟨o,c,h1,h2,h3⟩:=h.blk
 refine⟨fun k hk=>Nat.lt_of_lt_of_le (h.xlt k hk) ((qB b W).setCell (p:=⟨b,1,none⟩) (qL _) v).size,⟨o,c,?_,h2.same fun k hk _=>Below.heap_setCell W ⟨b,1,none⟩ v k (by simp;omega),h3⟩,h.xnb,row_low h.row (Below.heap_setCell W ⟨b,1,none⟩ v g (by have:=h.lt;simp;omega)),h.lt,h.at_,h.len,h.cp,h.ends,h.tx⟩
 rw[set_blk h1];simp
structure PgS (W Y:World) (b g cap:Nat) (ts:List Tok) (σ:RS) (acc:List De) (dv:Value):Prop where
 cd:Cd Y b g cap dv ts nox σ
 rx:RX b nox W Y
 des:DesOwn Y W.heap.size dv acc
theorem PgS.push {W w1 w2 w3:World} {b g cap:Nat} {ts:List Tok} {τ:RS} {acc:List De} {dv pv iv:Value} {x:De} {q:List (De×Value×Value)} (hbs:b<W.heap.size) (hk0:RX b nox W w1) (hr1:Cd w1 b g cap dv ts nox τ) (hb:Below w1.heap.size w1 w2)
  (hq1:q.map Prod.fst=acc) (hq3:∀y ∈ q,w1.ownsRow W.heap.size 62 2 y.2.1 y.1.params.length (paC y.1.params)∧ItsOwn w1 W.heap.size y.2.2 y.1.items) (hp:w1.ownsRow W.heap.size 62 2 pv x.params.length (paC x.params)) (hi:ItsOwn w1 W.heap.size iv x.items) (ho2:w2.ownsRow W.heap.size 57 7 dv acc.length (desGC q)) (hg:w2.grownBy w3 dv.ownBlock) {gg cc:Nat}
  (ho:w3.ownsRow W.heap.size 57 7 (.slice (some ⟨gg,0,none⟩) (acc.length+1) cc) (acc.length+1) (desGC q++deGC x pv iv)) :
  PgS W (w3.setCell ⟨b,1,none⟩ (.slice (some ⟨gg,0,none⟩) (acc.length+1) cc)) b g cap ts τ (acc++[x]) (.slice (some ⟨gg,0,none⟩) (acc.length+1) cc):=by
 have hr3:=(hr1.below hb).grownT ho2 hbs (by decide) (by decide) hg
 have hk3:RX b nox W w3:=(hk0.trans (RX.of_below hb (ql hr1.size) hr1.xlt)).grown (fun _ h=>h.elim) hbs ho2 hg
 have sm:∀k,k≠b→(w3.setCell ⟨b,1,none⟩ (.slice (some ⟨gg,0,none⟩) (acc.length+1) cc)).heap[k]?=w3.heap[k]?:=fun k hk=>Below.heap_setCell w3 ⟨b,1,none⟩ _ k (by simpa using hk)
 have it:∀{v:Value} {l:List It},ItsOwn w1 W.heap.size v l→ItsOwn (w3.setCell ⟨b,1,none⟩ (.slice (some ⟨gg,0,none⟩) (acc.length+1) cc)) W.heap.size v l:=fun h=>its_same (its_past (its_below h hb) ho2 hg) fun k hk _=>sm k (by omega)
 have pt:∀{v:Value} {n:Nat} {xs:List Value},w1.ownsRow W.heap.size 62 2 v n xs→(w3.setCell ⟨b,1,none⟩ (.slice (some ⟨gg,0,none⟩) (acc.length+1) cc)).ownsRow W.heap.size 62 2 v n xs:=fun h=>by
  have h2:=own_past (own_below h hb) ho2 (by decide) hg
  exact rd_own_same h2 fun k e=>sm k (by have:=(h2.lt k e).1;omega)
 refine⟨hr3.setDv _,hk3.trans (RX.set (fun h=>h.elim) 1 _),q++[(x,pv,iv)],by simp[hq1],?_,?_⟩
 ·rw[desGC_snoc,List.length_append,List.length_singleton]
  exact rd_own_same ho fun k e=>sm k (by have:=(ho.lt k e).1;omega)
 ·intro y hy
  rcases List.mem_append.1 hy with hy | hy
  ·exact⟨pt (hq3 y hy).1,it (hq3 y hy).2⟩
  ·obtain rfl:=List.mem_singleton.1 hy
   exact⟨pt hp,it hi⟩
def CPgI (W:World) (b g cap:Nat) (ts:List Tok) (f N:Nat) (R:List De×RS) (n:Nat) (Y:World):Prop :=
 ∃(acc:List De) (σ:RS) (dv:Value),n≤N∧σ.code=0∧declsG ts f n acc σ=some R∧PgS W Y b g cap ts σ acc dv
def CpgRet (b g cap:Nat) (ts:List Tok) (W:World) (l:List De) (τ:RS) (r:Ending) (Y:World):Prop :=
 (τ.code=0∧(tokL ts τ.at_).kind=5∧r=.returned (.tuple #[])∧∃dv,PgS W Y b g cap ts τ l dv)∨(τ.code≠0∧r=.panicked [{ v:=refusalV τ.code τ.pos,recovered:=false }]∧RX b nox W Y)
theorem program_any (b g cap:Nat) (ts:List Tok) (f N:Nat) (σ:RS) (hc:σ.code=0) (R:List De×RS) (hr:declsG ts f N [] σ=some R) (W:World) (h:Hid (Cd W b g cap (.slice none 0 0) ts nox σ)) :
  Calls prog 17 #[.pointer (some ⟨b,0,none⟩)] W fun r Y=>CpgRet b g cap ts W R.1 R.2 r Y:=by
 obtain⟨m,hm⟩:=least_of (CPgI W b g cap ts f N R)
 have HM:=Hd hm
 have hbs:=h.out.size
 have HRUN:=Hd hr
 have HC0:=Hd hc
 have HST:Hid (PgS W W b g cap ts σ [] (.slice none 0 0)):=Hd ⟨h.out,RX.refl _ _ _,[],rfl,qO _ _ _ _,fun x hx=>by cases hx⟩
 have mixed:prog.follows .mixedOrders=true:=by kernel_rfl
 have late:prog.follows .lateStores=true:=by kernel_rfl
 clear hm hr hc
 go_enter Tryz.func17,Tryz.ntmps17
 go_wp2_with fail
 go_loopw [9] (fun _ wr=>Hid (∃n,CPgI W b g cap ts f N R n wr)) (fun _ wr=>m wr)
 case atStart=>exact Hd ⟨N,[],σ,_,qL _,HC0.out,HRUN.out,HST.out⟩
 case round =>
  obtain⟨hm1,hm2⟩:=HM.out _ hrel.out
  obtain⟨acc,τ,dv,hnf,hc,hrun,hst⟩:=hm1
  obtain⟨nn,hmn⟩:∃nn,nn=m wr:=⟨_,rfl⟩
  rw[←hmn] at hnf hrun
  obtain⟨k,rfl,hacc,hcase⟩:=declsG_cases hrun
  have HMN:=Hd hmn
  have HKF:=Hd hnf
  have HS:=Hd hst
  have HC:=Hd hc
  obtain⟨o,c,⟨c0,c1,c2,c3,fr⟩,hx⟩:=hst.cd.cells
  obtain⟨t0,t1,t2,t3⟩:=hst.cd.tok
  have hl:=hst.cd.at_
  have hgs:g<wr.heap.size:=by have:=hst.cd.lt;have:=hst.cd.size;omega
  obtain⟨mm,hmm⟩:∃mm,mm=ts.length - τ.at_:=⟨_,rfl⟩
  obtain⟨a4,haa⟩:∃a4,a4=τ.at_*4:=⟨_,rfl⟩
  obtain⟨kd,hkd⟩:∃kd,kd=(tokL ts τ.at_).kind:=⟨_,rfl⟩
  rw[←hmm,←haa] at c0
  rw[←hkd,←haa] at t0
  have k0:(0:Int)<(mm:Int):=by omega
  clear hrun hmn hm2 hrel hnf hst hmm haa t1 t2 t3 hl hx c2 c3 HST HRUN
  rcases hcase with ⟨_,h5,hR⟩ | ⟨_,h5,d,τ',hd,hgo⟩ | ⟨hz,_⟩
  ·have q2:((kd:Int) !=5)=false:=by rw[hkd,h5];rfl
   have H5:=Hd h5
   have HRR:=Hd hR
   clear h5 hR hkd hc
   go_wp2_with fail
   go_end0
   rw[HRR.out]
   exact .inl ⟨HC.out,H5.out,rfl,dv,HS.out⟩
  ·have q2:((kd:Int) !=5)=true:=by rw[hkd];exact bne_iff_ne.2 (by omega)
   have hbw:b<wr.heap.size:=HS.out.cd.size
   have HSD:Hid (PgS W wr.drew b g cap ts τ acc dv):=Hd ⟨HS.out.cd.below (below_dr (qB _ _) 1),HS.out.rx.trans (RX.of_below (below_dr (qB _ _) 1) (ql hbw) HS.out.cd.xlt),HS.out.des.keep hbs (RK.of_below (below_dr (qB _ _) 1) (ql hbw))⟩
   have HCD:Hid (Cd wr.drew b g cap dv ts nox τ):=Hd HSD.out.cd
   have D0:Hid (Calls prog 34 #[.pointer (some ⟨b,0,none⟩)] wr.drew fun r Y=>CdeRet b g cap dv ts nox wr.drew d τ' r Y):=Hd (cdecl_any b g cap dv ts nox f τ hc d τ' hd wr.drew HCD)
   have HGO:=Hd hgo
   obtain⟨dn,hdn⟩:∃dn,dn=acc.length:=⟨_,rfl⟩
   obtain⟨oe,ce,rfl⟩:∃oe ce,dv=.slice oe dn ce:=by rw[hdn];obtain⟨q,_,h2,_⟩:=HS.out.des;exact own_form h2
   have HDN:=Hd hdn
   have hdn4:dn≤40000:=by omega
   have c1':wr.drew.cell? ⟨b,1,none⟩=some (.slice oe dn ce):=c1
   have f1:=fr 1
   clear h5 hgo hkd hc hd hdn hacc fr
   by_cases hz:τ'.code=0
   ·have D1:Hid (Calls prog 34 #[.pointer (some ⟨b,0,none⟩)] wr.drew fun r Y=>∃po pc io ic,r=.returned (.agg #[.int .i64 d.kind,.string d.name,.slice po d.params.length pc,.slice io d.items.length ic,.int .i64 d.type,.int .i64 d.e,.int .i64 d.pos])∧Hid (RX b nox wr.drew Y∧Cd Y b g cap (.slice oe dn ce) ts nox τ'∧Y.ownsRow wr.drew.heap.size 62 2 (.slice po d.params.length pc) d.params.length (paC d.params)∧ItsOwn Y wr.drew.heap.size (.slice io d.items.length ic) d.items)):=Hd (D0.out.mono fun r Y hh=>by
     rcases hh with ⟨hk,⟨_,po,pc,io,ic,h1,h2,h3,h4⟩ | ⟨h1,_⟩⟩
     ·exact⟨po,pc,io,ic,h1,Hd ⟨hk,h2,h3,h4⟩⟩
     ·exact absurd hz h1)
    have HZ:=Hd hz
    clear D0 hz
    go_wp2_with fail
    refine wp_onlyN ?_
    go_region_law (first
     | (refine step_call1 _ (by rfl) 34 #[.pointer (some ⟨b,0,none⟩)] (by go_simp) _ D1.out ?_;rintro e1 w1 ⟨po,pc,io,ic,rfl,hh⟩;refine⟨_,rfl,?_⟩;have HH:=hh;clear hh;have hsz:=HH.out.1.size;have hbw1:=HH.out.2.1.size;obtain⟨oo1,cc1,⟨_,y1,_,_,yf⟩,_⟩:=HH.out.2.1.cells;have y9:=yf 1;clear yf;have y2:∀ob,(w1.alloc ob).cell? ⟨b,1,none⟩=some (.slice oe dn ce):=fun ob=>cell_on ((qB _ _).alloc (qL _) ob) y1;obtain⟨q,hq1,hq2,hq3⟩:=HSD.out.des.keep hbs HH.out.1.rk;have HQ1:=Hd hq1;have HQ2:=Hd hq2;have HQ3:=Hd hq3;clear hq1 hq2 hq3;have hws:W.heap.size≤w1.heap.size:=Nat.le_trans HSD.out.rx.size hsz)
     | (refine step_de _ (by rfl) (.tmp 15) (.tmp 18) (by rfl) W.heap.size (.slice oe dn ce) dn (desGC q) (by rfl) (by have:=HQ2.out;rw[←HDN.out] at this;exact this.alloc _) ⟨w1.heap.size,0,none⟩ [.int .i64 d.kind,.string d.name,.slice po d.params.length pc,.slice io d.items.length ic,.int .i64 d.type,.int .i64 d.e,.int .i64 d.pos] (by rfl) (by rfl) (by exact seven_at w1 _ rfl _ _ _ _ _ _ _ _) (by simp[Value.oneCell']) (by omega) (by simp;omega) ?_;intro gg cc w3 ho hg;have HO:=Hd ho;have HG:=Hd hg;clear ho hg;have hbA:Below w1.heap.size w1 (w1.alloc (.cells #[.int .i64 d.kind,.string d.name,.slice po d.params.length pc,.slice io d.items.length ic,.int .i64 d.type,.int .i64 d.e,.int .i64 d.pos] 57)):=(qB _ _).alloc (qL _) _;have z3:w3.cell? ⟨b,1,none⟩=some (.slice oe dn ce):=HG.out.cell (by exact y2 _) (fun e=>by have:=(HQ2.out.lt b e.symm).1;omega);have z4:w3.frozen? ⟨b,1,none⟩=false:=(World.frozen?_of_block (a:=⟨b,1,none⟩) (HG.out.block b (by simp;omega) (fun e=>by have:=(HQ2.out.lt b e.symm).1;omega))).trans ((World.frozen?_alloc_old _ _ _ (Nat.ne_of_lt hbw1)).trans y9)))
    all_goals (
     unfold onlyN
     have HI:CPgI W b g cap ts f N R k (w3.setCell ⟨b,1,none⟩ (.slice (some ⟨gg,0,none⟩) (dn+1) cc)):=⟨acc++[d],τ',.slice (some ⟨gg,0,none⟩) (dn+1) cc,by have:=HKF.out;omega,HZ.out,HGO.out,by
      have h7:=HDN.out
      subst h7
      exact PgS.push (x:=d) hbs (HSD.out.rx.trans HH.out.1) HH.out.2.1 hbA HQ1.out HQ3.out (own_base HH.out.2.2.1 HSD.out.rx.size) (HH.out.2.2.2.base HSD.out.rx.size) (HQ2.out.alloc _) HG.out HO.out⟩
     dsimp only
     go_wp2_with fail
     exact⟨Hd ⟨k,HI⟩,by have h5:=(HM.out _ ⟨k,HI⟩).2 k HI;have h6:=HMN.out;omega⟩)
   ·have D1:Hid (Calls prog 34 #[.pointer (some ⟨b,0,none⟩)] wr.drew fun r Y=>r=.panicked [{ v:=refusalV τ'.code τ'.pos,recovered:=false }]∧Hid (RX b nox wr.drew Y)):=Hd (D0.out.mono fun r Y hh=>by
     rcases hh with ⟨hk,⟨h1,_⟩ | ⟨_,h1⟩⟩
     ·exact absurd h1 hz
     ·exact⟨h1,Hd hk⟩)
    have HR2:Hid (R.2.code=τ'.code∧R.2.pos=τ'.pos):=Hd (by
     obtain⟨k',rfl,_,hh⟩:=declsG_cases HGO.out
     rcases hh with ⟨h1,_⟩ | ⟨h1,_⟩ | ⟨_,h1⟩
     ·exact absurd h1 hz
     ·exact absurd h1 hz
     ·rw[h1];exact⟨rfl,rfl⟩)
    have HZ:=Hd hz
    clear D0 hz
    go_wp2_with fail
    go_region_with (go_at_call 34;(with_reducible refine D1.out.mono ?_);rintro e1 w1 ⟨rfl,hk1⟩;refine dummyAny prog w1 ⟨rfl,.inr ⟨by rw[HR2.out.1];exact HZ.out,by rw[HR2.out.1,HR2.out.2],HSD.out.rx.trans hk1.out⟩⟩ ?_)
    all_goals trivial
  ·exact absurd hc hz
theorem parse_fn (b g cap:Nat) (ts:List Tok) (f N:Nat) (σ:RS) (hc:σ.code=0) (R:List De×RS) (hr:declsG ts f N [] σ=some R) (W:World) (h:Hid (Cd W b g cap (.slice none 0 0) ts nox σ)) :
  Calls prog 16 #[.pointer (some ⟨b,0,none⟩)] W fun r Y=>CpgRet b g cap ts W R.1 R.2 r Y:=by
 have C:=Hd (program_any b g cap ts f N σ hc R hr W h)
 clear hr hc
 go_enter Tryz.func16,Tryz.ntmps16
 go_wp2_with (go_at_call 17;(with_reducible refine C.out.mono ?_);rintro e w2 hh;rcases hh with ⟨z,z5,rfl,hg⟩ | ⟨z,rfl,hk⟩;rotate_left;exact⟨rfl,.inr ⟨z,rfl,hk⟩⟩;have HG:=Hd hg;clear hg)
 go_end0
 exact .inl ⟨z,z5,rfl,HG.out⟩
theorem readP_bad (l:List UInt8) (ts:List Tok) (ht:lexT l ts none) (hl:l.length≤20000) (f N:Nat) (ds:List De) (τ:RS) (hr:declsG (ts++[endT l.length]) f N [] rs0=some (ds,τ)) (hz:τ.code≠0) (W:World) (hS:Signs W) :
  Calls prog 15 #[.string (str l),.func (.func 16) #[] #[]] W fun r Y=>r=.returned (.tuple #[.agg #[.slice none 0 0,.slice none 0 0],.agg #[.int .i64 τ.code,.int .i64 τ.pos]])∧Below W.heap.size W Y:=by
 obtain⟨us,hus⟩:∃us,us=ts++[endT l.length]:=⟨_,rfl⟩
 have hlen:us.length=ts.length+1:=by rw[hus,List.length_append];rfl
 obtain⟨n,hn⟩:∃n,n=us.length:=⟨_,rfl⟩
 have hts:ts.length≤20000:=by have hcnt:=toks_count ht;have g1:=gapTo_le false (Nat.zero_le l.length);omega
 have HE:Hid (EndOk us∧TxOk us∧us.length≤40000):=Hd ⟨by rw[hus];exact end_ok ht _,by rw[hus];exact lexed_tx ht _,by omega⟩
 obtain⟨W2,hW2⟩:∃W2,W2=(W.alloc (.cells #[.slice none 0 0,.slice none 0 0] 26)).alloc (.cells #[.int .i64 0,.int .i64 0] 29):=⟨_,rfl⟩
 have hb2:Below W.heap.size W W2:=by rw[hW2];exact((qB _ _).alloc (qL _) _).alloc (by simp) _
 have hs2:W2.heap.size=W.heap.size+2:=by rw[hW2];simp
 have LX:Hid (Calls prog 31 #[.string (str l)] W2 fun r Y=>∃g cap,r=.returned (.tuple #[.slice (some ⟨g,0,none⟩) n cap,.agg #[.int .i64 0,.int .i64 0]])∧Hid (Below W2.heap.size W2 Y∧RowAt Y g us∧W2.heap.size≤g∧n≤cap)):=Hd ((lex_any l ts none ht W2 (hS.below hb2)).mono fun e w' ⟨v,c,f',he,hb,h⟩=>by
  rcases h with ⟨h1,_⟩ | ⟨_,_,rfl,rfl,h2⟩ | ⟨_,g,h2,_⟩
  ·omega
  ·obtain⟨g',cap',rfl⟩:=ownsRow_succ h2
   have hlt:=h2.lt g' rfl
   rw[←hus] at h2
   refine⟨g',cap',by rw[he,hn,hlen],Hd ⟨hb,⟨hlt.2,fun i t hi=>?_⟩,hlt.1,by rw[hn,hlen];exact capL h2⟩⟩
   obtain⟨h1,h3,h4,h5⟩:=tokCells_at hi
   exact⟨row_cells h2 _ _ h1,row_cells h2 _ _ h3,row_cells h2 _ _ h4,row_cells h2 _ _ h5⟩
  ·cases h2)
 have EX:Hid (∀w b g cap,Hid (Cd w b g cap (.slice none 0 0) us (fun _=>False) rs0)→Calls prog 16 #[.pointer (some ⟨b,0,none⟩)] w fun r Y=>CdBad b (fun _=>False) w τ.code τ.pos r Y):=Hd fun w b g cap h=>(parse_fn b g cap us f N rs0 rfl (ds,τ) (by rw[hus];exact hr) w h).mono fun r Y hh=>by
  rcases hh with ⟨h0,_⟩ | ⟨_,h1,h2⟩
  ·exact absurd h0 hz
  ·exact⟨h1,Hd h2⟩
 have HA:Hid (W2.heap[W.heap.size+1]?=some (.cells #[.int .i64 0,.int .i64 0] 29 (0,0))):=Hd (by rw[hW2];simpa using heap_alloc_new (W.alloc (.cells #[.slice none 0 0,.slice none 0 0] 26)) (.cells #[.int .i64 0,.int .i64 0] 29))
 have HP:Hid (W2.heap[W.heap.size]?=some (.cells #[.slice none 0 0,.slice none 0 0] 26 (0,0))):=Hd (by
  rw[hW2,((qB _ _).alloc (qL _) _:Below (W.alloc (.cells #[.slice none 0 0,.slice none 0 0] 26)).heap.size _ _).block _ (by simp)]
  exact heap_alloc_new _ _)
 have HB2:=Hd hb2
 have MF:=runF
 clear hr hlen hus hts hS hb2 hz ht
 have HN:=Hd hn
 clear hn
 go_enter_defers Tryz.func15,Tryz.ntmps15
 go_wp2_with (first
  | (go_at_call 31;rw[←hW2];clear hW2;(with_reducible refine LX.out.mono ?_);rintro e w3 ⟨g,cap,rfl,h3⟩;have HA3:=Hd ((h3.out.1.block _ (heap_lt HA.out)).trans HA.out);have d0:w3.cell? ⟨W.heap.size+1,0,none⟩=some (.int .i64 0):=(by simp[World.cell?,HA3.out]);have d1:w3.cell? ⟨W.heap.size+1,1,none⟩=some (.int .i64 0):=(by simp[World.cell?,HA3.out]);have z0:w3.frozen? ⟨W.heap.size+1,0,none⟩=false:=(by simp[World.frozen?,HA3.out]);have z1:w3.frozen? ⟨W.heap.size+1,1,none⟩=false:=(by simp[World.frozen?,HA3.out])))
 obtain⟨X,hX⟩:∃X,X=(w3.setCell ⟨W.heap.size+1,0,none⟩ (.int .i64 0)).setCell ⟨W.heap.size+1,1,none⟩ (.int .i64 0):=⟨_,rfl⟩
 have hxs:w3.heap.size=X.heap.size:=by rw[hX];simp
 have hbu:But (W.heap.size+1) w3 X:=by rw[hX];exact((But.refl _ _).set 0 _).set 1 _
 have hfx:X.heap[W.heap.size+1]?=some (.cells #[.int .i64 0,.int .i64 0] 29 (0,0)):=by rw[hX,set_blk (set_blk HA3.out 0 (.int .i64 0)) 1 (.int .i64 0)];rfl
 obtain⟨h31,h32,h33,h34⟩:=h3.out
 have hpx:X.heap[W.heap.size]?=some (.cells #[.slice none 0 0,.slice none 0 0] 26 (0,0)):=(hbu.block _ (by omega) (Nat.lt_of_lt_of_le (heap_lt HP.out) h31.size)).trans ((h31.block _ (heap_lt HP.out)).trans HP.out)
 have hrx:RowAt X g us:=row_low h32 (hbu.block g (by omega) h32.1)
 rw[←hX,hxs]
 obtain⟨Z,hZ⟩:∃Z,Z=X.alloc (.cells #[.slice (some ⟨g,0,none⟩) n cap,.slice none 0 0,.slice none 0 0,.int .i64 0] 78):=⟨_,rfl⟩
 have HZ:Hid (Cd Z X.heap.size g cap (.slice none 0 0) us (fun _=>False) rs0):=Hd (by
  obtain rfl:=HN.out
  rw[hZ];exact cd_new hrx HE.out.2.2 h34 HE.out.1 HE.out.2.1)
 have hbz:Below X.heap.size X Z:=by rw[hZ];exact(qB _ _).alloc (qL _) _
 have hfz:=(hbz.block _ (heap_lt hfx)).trans hfx
 have hpz:=(hbz.block _ (heap_lt hpx)).trans hpx
 have hx1:=heap_lt hfx
 rw[←hZ]
 refine(EX.out Z _ g cap HZ).mono ?_
 rintro e w5 ⟨rfl,hk5⟩
 dsimp only
 go_wp2_with fail
 have hf5:=hk5.out.keep _ _ hfz (by omega) (fun cs e=>by cases e)
 have hp5:=hk5.out.keep _ _ hpz (by omega) (fun cs e=>by cases e)
 refine leaves_cons (f:=32) (args:=#[.pointer (some ⟨W.heap.size+1,0,none⟩)]) (by simp) (by simp[go_sem]) ?_
 refine(catch_panicking (W.heap.size+1) τ.code τ.pos _ _ w5 hf5).mono ?_
 rintro e u' w6 ⟨rfl,rfl,hf6,hb6⟩
 have hp6:=(hb6.block _ (by omega) (heap_lt hp5)).trans hp5
 have f0:w6.cell? ⟨W.heap.size+1,0,none⟩=some (.int .i64 τ.code):=by simp[World.cell?,hf6]
 have f1:w6.cell? ⟨W.heap.size+1,1,none⟩=some (.int .i64 τ.pos):=by simp[World.cell?,hf6]
 have p0:w6.cell? ⟨W.heap.size,0,none⟩=some (.slice none 0 0):=by simp[World.cell?,hp6]
 have p1:w6.cell? ⟨W.heap.size,1,none⟩=some (.slice none 0 0):=by simp[World.cell?,hp6]
 have h32s:=h31.size
 have hfin:Below W.heap.size W w6:=below_chain HB2.out (by omega) h31 (by omega) hbu (by omega) hbz (by omega) hk5.out.rk hb6
 simp[Leaves,settle,results,Tryz.results15,go_sem,f0,f1,p0,p1,hfin]
theorem readP_ok (l:List UInt8) (ts:List Tok) (ht:lexT l ts none) (hl:l.length≤20000) (f N:Nat) (ds:List De) (τ:RS) (hr:declsG (ts++[endT l.length]) f N [] rs0=some (ds,τ)) (hz:τ.code=0) (h5:(tokL (ts++[endT l.length]) τ.at_).kind=5) (W:World) (hS:Signs W) :
  Calls prog 15 #[.string (str l),.func (.func 16) #[] #[]] W fun r Y=>∃od cd o c,r=.returned (.tuple #[.agg #[.slice od ds.length cd,.slice o τ.exprs.length c],.agg #[.int .i64 0,.int .i64 0]])∧Below W.heap.size W Y∧DesOwn Y W.heap.size (.slice od ds.length cd) ds∧ExsOwn Y W.heap.size (fun _=>False) (.slice o τ.exprs.length c) τ.exprs:=by
 obtain⟨L,hL⟩:∃L,L=τ.exprs.length:=⟨_,rfl⟩
 obtain⟨DN,hDN⟩:∃DN,DN=ds.length:=⟨_,rfl⟩
 rw[←hL,←hDN]
 obtain⟨us,hus⟩:∃us,us=ts++[endT l.length]:=⟨_,rfl⟩
 have hlen:us.length=ts.length+1:=by rw[hus,List.length_append];rfl
 obtain⟨n,hn⟩:∃n,n=us.length:=⟨_,rfl⟩
 have hts:ts.length≤20000:=by have hcnt:=toks_count ht;have g1:=gapTo_le false (Nat.zero_le l.length);omega
 have HE:Hid (EndOk us∧TxOk us∧us.length≤40000):=Hd ⟨by rw[hus];exact end_ok ht _,by rw[hus];exact lexed_tx ht _,by omega⟩
 obtain⟨W2,hW2⟩:∃W2,W2=(W.alloc (.cells #[.slice none 0 0,.slice none 0 0] 26)).alloc (.cells #[.int .i64 0,.int .i64 0] 29):=⟨_,rfl⟩
 have hb2:Below W.heap.size W W2:=by rw[hW2];exact((qB _ _).alloc (qL _) _).alloc (by simp) _
 have hs2:W2.heap.size=W.heap.size+2:=by rw[hW2];simp
 have LX:Hid (Calls prog 31 #[.string (str l)] W2 fun r Y=>∃g cap,r=.returned (.tuple #[.slice (some ⟨g,0,none⟩) n cap,.agg #[.int .i64 0,.int .i64 0]])∧Hid (Below W2.heap.size W2 Y∧RowAt Y g us∧W2.heap.size≤g∧n≤cap)):=Hd ((lex_any l ts none ht W2 (hS.below hb2)).mono fun e w' ⟨v,c,f',he,hb,h⟩=>by
  rcases h with ⟨h1,_⟩ | ⟨_,_,rfl,rfl,h2⟩ | ⟨_,g,h2,_⟩
  ·omega
  ·obtain⟨g',cap',rfl⟩:=ownsRow_succ h2
   have hlt:=h2.lt g' rfl
   rw[←hus] at h2
   refine⟨g',cap',by rw[he,hn,hlen],Hd ⟨hb,⟨hlt.2,fun i t hi=>?_⟩,hlt.1,by rw[hn,hlen];exact capL h2⟩⟩
   obtain⟨h1,h3,h4,h5⟩:=tokCells_at hi
   exact⟨row_cells h2 _ _ h1,row_cells h2 _ _ h3,row_cells h2 _ _ h4,row_cells h2 _ _ h5⟩
  ·cases h2)
 have EX:Hid (∀w b g cap,Hid (Cd w b g cap (.slice none 0 0) us (fun _=>False) rs0)→Calls prog 16 #[.pointer (some ⟨b,0,none⟩)] w fun r Y=>∃od cd,r=.returned (.tuple #[])∧Hid (Cd Y b g cap (.slice od DN cd) us (fun _=>False) τ)∧Hid (RX b (fun _=>False) w Y)∧Hid (DesOwn Y w.heap.size (.slice od DN cd) ds)):=Hd fun w b g cap h=>(parse_fn b g cap us f N rs0 rfl (ds,τ) (by rw[hus];exact hr) w h).mono fun r Y hh=>by
  rcases hh with ⟨_,_,h1,dv,h2⟩ | ⟨h0,_⟩
  ·obtain⟨od,cd,rfl⟩:∃od cd,dv=.slice od DN cd:=by rw[hDN];obtain⟨q,_,h4,_⟩:=h2.des;exact own_form h4
   exact⟨od,cd,h1,Hd h2.cd,Hd h2.rx,Hd h2.des⟩
  ·exact absurd hz h0
 obtain⟨tv,htv⟩:∃tv,tv=tokV (tokL us τ.at_):=⟨_,rfl⟩
 have WE:Hid (∀w b g cap od cd,Hid (Cd w b g cap (.slice od DN cd) us (fun _=>False) τ)→Calls prog 33 #[.pointer (some ⟨b,0,none⟩),.int .i64 5] w fun r Y=>r=.returned tv∧(∃s d o c,Hid (Y.heap[b]?=some (.cells #[s,.slice od DN cd,.slice o L c,.int .i64 d] 78 (0,0)))∧Hid (ExsOwn Y b (fun _=>False) (.slice o L c) τ.exprs))∧Hid (RX b (fun _=>False) w Y)):=Hd fun w b g cap od cd h=>(want_end b g cap _ us _ τ w h hz).mono fun r Y hh=>by
  rcases hh.2 with ⟨_,e5,s,d,o,c,e6,e7⟩ | ⟨e5,_⟩
  ·exact⟨by rw[htv];exact e5,⟨s,d,o,c,Hd (by rw[hL];exact e6),Hd (by rw[hL];exact e7)⟩,Hd hh.1⟩
  ·rw[hus] at e5;exact absurd h5 e5
 have HA:Hid (W2.heap[W.heap.size+1]?=some (.cells #[.int .i64 0,.int .i64 0] 29 (0,0))):=Hd (by rw[hW2];simpa using heap_alloc_new (W.alloc (.cells #[.slice none 0 0,.slice none 0 0] 26)) (.cells #[.int .i64 0,.int .i64 0] 29))
 have HP:Hid (W2.heap[W.heap.size]?=some (.cells #[.slice none 0 0,.slice none 0 0] 26 (0,0))):=Hd (by
  rw[hW2,((qB _ _).alloc (qL _) _:Below (W.alloc (.cells #[.slice none 0 0,.slice none 0 0] 26)).heap.size _ _).block _ (by simp)]
  exact heap_alloc_new _ _)
 have HB2:=Hd hb2
 have MF:=runF
 clear hr hlen hus hts hS hb2 hz ht h5 htv
 have HL:=Hd hL
 clear hL hDN
 have HN:=Hd hn
 clear hn
 go_enter_defers Tryz.func15,Tryz.ntmps15
 go_wp2_with (first
  | (go_at_call 31;rw[←hW2];clear hW2;(with_reducible refine LX.out.mono ?_);rintro e w3 ⟨g,cap,rfl,h3⟩;have HA3:=Hd ((h3.out.1.block _ (heap_lt HA.out)).trans HA.out);have d0:w3.cell? ⟨W.heap.size+1,0,none⟩=some (.int .i64 0):=(by simp[World.cell?,HA3.out]);have d1:w3.cell? ⟨W.heap.size+1,1,none⟩=some (.int .i64 0):=(by simp[World.cell?,HA3.out]);have z0:w3.frozen? ⟨W.heap.size+1,0,none⟩=false:=(by simp[World.frozen?,HA3.out]);have z1:w3.frozen? ⟨W.heap.size+1,1,none⟩=false:=(by simp[World.frozen?,HA3.out])))
 obtain⟨X,hX⟩:∃X,X=(w3.setCell ⟨W.heap.size+1,0,none⟩ (.int .i64 0)).setCell ⟨W.heap.size+1,1,none⟩ (.int .i64 0):=⟨_,rfl⟩
 have hxs:w3.heap.size=X.heap.size:=by rw[hX];simp
 have hbu:But (W.heap.size+1) w3 X:=by rw[hX];exact((But.refl _ _).set 0 _).set 1 _
 have hfx:X.heap[W.heap.size+1]?=some (.cells #[.int .i64 0,.int .i64 0] 29 (0,0)):=by rw[hX,set_blk (set_blk HA3.out 0 (.int .i64 0)) 1 (.int .i64 0)];rfl
 obtain⟨h31,h32,h33,h34⟩:=h3.out
 have hpx:X.heap[W.heap.size]?=some (.cells #[.slice none 0 0,.slice none 0 0] 26 (0,0)):=(hbu.block _ (by omega) (Nat.lt_of_lt_of_le (heap_lt HP.out) h31.size)).trans ((h31.block _ (heap_lt HP.out)).trans HP.out)
 have hrx:RowAt X g us:=row_low h32 (hbu.block g (by omega) h32.1)
 rw[←hX,hxs]
 obtain⟨Z,hZ⟩:∃Z,Z=X.alloc (.cells #[.slice (some ⟨g,0,none⟩) n cap,.slice none 0 0,.slice none 0 0,.int .i64 0] 78):=⟨_,rfl⟩
 have HZ:Hid (Cd Z X.heap.size g cap (.slice none 0 0) us (fun _=>False) rs0):=Hd (by
  obtain rfl:=HN.out
  rw[hZ];exact cd_new hrx HE.out.2.2 h34 HE.out.1 HE.out.2.1)
 have hbz:Below X.heap.size X Z:=by rw[hZ];exact(qB _ _).alloc (qL _) _
 have hfz:=(hbz.block _ (heap_lt hfx)).trans hfx
 have hpz:=(hbz.block _ (heap_lt hpx)).trans hpx
 have hx1:=heap_lt hfx
 have hzs:Z.heap.size=X.heap.size+1:=by rw[hZ];simp
 rw[←hZ]
 refine(EX.out Z _ g cap HZ).mono ?_
 rintro e w4 ⟨od,cd,rfl,hr4,hk4,hd4⟩
 dsimp only
 clear hX hxs hZ
 go_wp2_with (go_at_call 33;(with_reducible refine(WE.out _ _ _ _ _ _ hr4).mono ?_);rintro e w5 ⟨rfl,⟨s,d,o,c,hb5,hx5⟩,hk4'⟩;have hk5:=Hd (hk4.out.trans hk4'.out);have hf5:=Hd (hk5.out.keep _ _ hfz (by omega) (fun cs e=>by cases e));have hp5:=Hd (hk5.out.keep _ _ hpz (by omega) (fun cs e=>by cases e));obtain⟨⟨b0,b1,b2,b3⟩,bf⟩:=four_of hb5.out;clear b0 b3 bf;have p0:w5.cell? ⟨W.heap.size,0,none⟩=some (.slice none 0 0):=(by simp[World.cell?,hp5.out]);have p1:w5.cell? ⟨W.heap.size,1,none⟩=some (.slice none 0 0):=(by simp[World.cell?,hp5.out]);have f0:w5.cell? ⟨W.heap.size+1,0,none⟩=some (.int .i64 0):=(by simp[World.cell?,hf5.out]);have f1:w5.cell? ⟨W.heap.size+1,1,none⟩=some (.int .i64 0):=(by simp[World.cell?,hf5.out]);have y0:w5.frozen? ⟨W.heap.size,0,none⟩=false:=(by simp[World.frozen?,hp5.out]);have y1:w5.frozen? ⟨W.heap.size,1,none⟩=false:=(by simp[World.frozen?,hp5.out]);have y2:w5.frozen? ⟨W.heap.size+1,0,none⟩=false:=(by simp[World.frozen?,hf5.out]);have y3:w5.frozen? ⟨W.heap.size+1,1,none⟩=false:=(by simp[World.frozen?,hf5.out]))
 obtain⟨V,hV⟩:∃V,V=(((w5.setCell ⟨W.heap.size,0,none⟩ (.slice od DN cd)).setCell ⟨W.heap.size,1,none⟩ (.slice o L c)).setCell ⟨W.heap.size+1,0,none⟩ (.int .i64 0)).setCell ⟨W.heap.size+1,1,none⟩ (.int .i64 0):=⟨_,rfl⟩
 obtain⟨V1,hV1⟩:∃V1,V1=(w5.setCell ⟨W.heap.size,0,none⟩ (.slice od DN cd)).setCell ⟨W.heap.size,1,none⟩ (.slice o L c):=⟨_,rfl⟩
 have n1:But W.heap.size w5 V1:=by rw[hV1];exact((But.refl _ _).set 0 _).set 1 _
 have n2:But (W.heap.size+1) V1 V:=by rw[hV,←hV1];exact((But.refl _ _).set 0 _).set 1 _
 have a1:V1.heap[W.heap.size]?=some (.cells #[.slice od DN cd,.slice o L c] 26 (0,0)):=by rw[hV1,set_blk (set_blk hp5.out 0 (.slice od DN cd)) 1 (.slice o L c)];rfl
 have a2:=(n2.block _ (by omega) (heap_lt a1)).trans a1
 have a3:V1.heap[W.heap.size+1]?=some (.cells #[.int .i64 0,.int .i64 0] 29 (0,0)):=(n1.block _ (by omega) (heap_lt hf5.out)).trans hf5.out
 have a4:V.heap[W.heap.size+1]?=some (.cells #[.int .i64 0,.int .i64 0] 29 (0,0)):=by rw[hV,←hV1,set_blk (set_blk a3 0 (.int .i64 0)) 1 (.int .i64 0)];rfl
 rw[←hV]
 clear hV hV1
 refine leaves_cons (f:=32) (args:=#[.pointer (some ⟨W.heap.size+1,0,none⟩)]) (by simp) (by simp[go_sem]) ?_
 refine(catch_idle (W.heap.size+1) V).mono ?_
 rintro e u' w6 ⟨rfl,rfl,hb6⟩
 have hp6:=(hb6.block _ (heap_lt a2)).trans a2
 have hf6:=(hb6.block _ (heap_lt a4)).trans a4
 have g0:w6.cell? ⟨W.heap.size+1,0,none⟩=some (.int .i64 0):=by simp[World.cell?,hf6]
 have g1:w6.cell? ⟨W.heap.size+1,1,none⟩=some (.int .i64 0):=by simp[World.cell?,hf6]
 have g2:w6.cell? ⟨W.heap.size,0,none⟩=some (.slice od DN cd):=by simp[World.cell?,hp6]
 have g3:w6.cell? ⟨W.heap.size,1,none⟩=some (.slice o L c):=by simp[World.cell?,hp6]
 have h32s:=h31.size
 have s1:=n1.size
 have s2:=n2.size
 have hw5:Below W.heap.size W w5:=below_chain HB2.out (by omega) h31 (by omega) hbu (by omega) hbz (by omega) hk5.out.rk (But.refl _ _)
 have hfin:Below W.heap.size W w6:=by
  have sw:=hw5.size
  refine⟨hb6.os.trans (n2.os.trans (n1.os.trans hw5.os)),hb6.tape.trans (n2.tape.trans (n1.tape.trans hw5.tape)),hb6.output.trans (n2.output.trans (n1.output.trans hw5.output)),by have:=hb6.size;omega,fun k hk=>?_⟩
  rw[hb6.block k (by omega),n2.block k (by omega) (by omega),n1.block k (by omega) (by omega),hw5.block k hk]
 have hown:ExsOwn w6 W.heap.size (fun _=>False) (.slice o L c) τ.exprs:=(hx5.out.same fun k h1 h2=>by
  rw[hb6.block k (by omega),n2.block k (by omega) (by omega),n1.block k (by omega) h2]).base (by omega)
 have hdes:DesOwn w6 W.heap.size (.slice od DN cd) ds:=((hd4.out.keep (by omega) hk4'.out.rk).same fun k h1 h2=>by
  rw[hb6.block k (by omega),n2.block k (by omega) (by omega),n1.block k (by omega) h2]).base (by omega)
 simp only[Leaves,settle]
 simp[results,Tryz.results15,go_sem,g0,g1,g2,g3]
 exact⟨od,cd,o,c,⟨⟨rfl,rfl⟩,rfl,rfl⟩,hfin,hdes,hown⟩
def ReadP (ds:List De) (es:List Ex) (cd f:Int) (W:World) (r:Ending) (Y:World):Prop :=
 ∃od c1 o c,r=.returned (.tuple #[.agg #[.slice od ds.length c1,.slice o es.length c],.agg #[.int .i64 cd,.int .i64 f]])∧Below W.heap.size W Y∧DesOwn Y W.heap.size (.slice od ds.length c1) ds∧ExsOwn Y W.heap.size (fun _=>False) (.slice o es.length c) es
theorem parse_call (s:ByteArray) (ds:List De) (es:List Ex) (cd f:Int) (W:World) (C:Hid (∀W2,Below W.heap.size W W2→Calls prog 15 #[.string s,.func (.func 16) #[] #[]] W2 fun r Y=>ReadP ds es cd f W2 r Y)) :
  Calls prog 8 #[.string s] W fun r Y=>ReadP ds es cd f W r Y:=by
 obtain⟨W2,hW2⟩:∃W2,W2=(W.alloc (.cells #[.slice none 0 0,.slice none 0 0] 26)).alloc (.cells #[.int .i64 0,.int .i64 0] 29):=⟨_,rfl⟩
 have hb2:Below W.heap.size W W2:=by rw[hW2];exact((qB _ _).alloc (qL _) _).alloc (by simp) _
 have hs2:W2.heap.size=W.heap.size+2:=by rw[hW2];simp
 have hP:W2.heap[W.heap.size]?=some (.cells #[.slice none 0 0,.slice none 0 0] 26 (0,0)):=by
  rw[hW2,heap_alloc_old _ _ (by simp)];exact heap_alloc_new W _
 have hF:W2.heap[W.heap.size+1]?=some (.cells #[.int .i64 0,.int .i64 0] 29 (0,0)):=by
  have:=heap_alloc_new (W.alloc (.cells #[.slice none 0 0,.slice none 0 0] 26)) (.cells #[.int .i64 0,.int .i64 0] 29)
  rw[World.size_alloc] at this
  rw[hW2];exact this
 obtain⟨L,hL⟩:∃L,L=es.length:=⟨_,rfl⟩
 obtain⟨D,hD⟩:∃D,D=ds.length:=⟨_,rfl⟩
 have C2:Hid (Calls prog 15 #[.string s,.func (.func 16) #[] #[]] W2 fun r Y=>∃od c1 o c,r=.returned (.tuple #[.agg #[.slice od D c1,.slice o L c],.agg #[.int .i64 cd,.int .i64 f]])∧Hid (Below W2.heap.size W2 Y∧DesOwn Y W2.heap.size (.slice od D c1) ds∧ExsOwn Y W2.heap.size (fun _=>False) (.slice o L c) es)):=Hd ((C.out W2 hb2).mono fun r Y ⟨od,c1,o,c,h1,h2,h3,h4⟩=>⟨od,c1,o,c,by rw[hL,hD];exact h1,Hd ⟨h2,by rw[hD];exact h3,by rw[hL];exact h4⟩⟩)
 have HL:=Hd (show _∧_ from⟨hL,hD⟩)
 have HB2:=Hd hb2
 have HPF:=Hd (show _∧_ from⟨hP,hF⟩)
 have HS2:=Hd hs2
 clear hb2 hs2 hP hF C hL hD
 go_enter Tryz.func8,Tryz.ntmps8
 go_wp2_with (go_at_call 15;rw[←hW2];clear hW2;(with_reducible refine C2.out.mono ?_);rintro e w3 ⟨od,c1,o,c,rfl,h3⟩;have hs3:=h3.out.1.size;have hPV:=(h3.out.1.block W.heap.size (by have:=HS2.out;omega)).trans HPF.out.1;have hFV:=(h3.out.1.block (W.heap.size+1) (by have:=HS2.out;omega)).trans HPF.out.2;have p0':w3.cell? ⟨W.heap.size,0,none⟩=some (.slice none 0 0):=(by simp[World.cell?,hPV]);have p1':w3.cell? ⟨W.heap.size,1,none⟩=some (.slice none 0 0):=(by simp[World.cell?,hPV]);have p2':w3.frozen? ⟨W.heap.size,0,none⟩=false:=(by simp[World.frozen?,hPV]);have p3':w3.frozen? ⟨W.heap.size,1,none⟩=false:=(by simp[World.frozen?,hPV]);have u0':w3.cell? ⟨W.heap.size+1,0,none⟩=some (.int .i64 0):=(by simp[World.cell?,hFV]);have u1':w3.cell? ⟨W.heap.size+1,1,none⟩=some (.int .i64 0):=(by simp[World.cell?,hFV]);have u2':w3.frozen? ⟨W.heap.size+1,0,none⟩=false:=(by simp[World.frozen?,hFV]);have u3':w3.frozen? ⟨W.heap.size+1,1,none⟩=false:=(by simp[World.frozen?,hFV]);have HV:=Hd (show _∧_ from⟨hPV,hFV⟩);clear hPV hFV)
 obtain⟨Y,hY⟩:∃Y,Y=(((w3.setCell ⟨W.heap.size,0,none⟩ (.slice od D c1)).setCell ⟨W.heap.size,1,none⟩ (.slice o L c)).setCell ⟨W.heap.size+1,0,none⟩ (.int .i64 cd)).setCell ⟨W.heap.size+1,1,none⟩ (.int .i64 f):=⟨_,rfl⟩
 rw[←hY]
 have k1:Y.heap[W.heap.size]?=some (.cells #[.slice od D c1,.slice o L c] 26 (0,0)):=by
  rw[hY,Below.heap_setCell _ _ _ _ (by simp),Below.heap_setCell _ _ _ _ (by simp),set_blk (set_blk HV.out.1 0 _) 1 _];rfl
 have k2:Y.heap[W.heap.size+1]?=some (.cells #[.int .i64 cd,.int .i64 f] 29 (0,0)):=by
  rw[hY,set_blk (set_blk (((Below.heap_setCell _ _ _ _ (by simp)).trans (Below.heap_setCell _ _ _ _ (by simp))).trans HV.out.2) 0 _) 1 _];rfl
 have hYk:∀k,W.heap.size+1<k→Y.heap[k]?=w3.heap[k]?:=fun k hk=>by
  rw[hY,Below.heap_setCell _ _ _ _ (by simp;omega),Below.heap_setCell _ _ _ _ (by simp;omega),Below.heap_setCell _ _ _ _ (by simp;omega),Below.heap_setCell _ _ _ _ (by simp;omega)]
 have r0:Y.cell? ⟨W.heap.size,0,none⟩=some (.slice od D c1):=by simp[World.cell?,k1]
 have r1:Y.cell? ⟨W.heap.size,1,none⟩=some (.slice o L c):=by simp[World.cell?,k1]
 have r2:Y.cell? ⟨W.heap.size+1,0,none⟩=some (.int .i64 cd):=by simp[World.cell?,k2]
 have r3:Y.cell? ⟨W.heap.size+1,1,none⟩=some (.int .i64 f):=by simp[World.cell?,k2]
 have hb3:Below W.heap.size W w3:=HB2.out.trans (h3.out.1.mono HB2.out.size)
 have hbY:Below W.heap.size W Y:=by
  rw[hY]
  exact(((hb3.setCell (p:=⟨W.heap.size,0,none⟩) (qL _) _).setCell (p:=⟨W.heap.size,1,none⟩) (qL _) _).setCell (p:=⟨W.heap.size+1,0,none⟩) (Nat.le_succ _) _).setCell (p:=⟨W.heap.size+1,1,none⟩) (Nat.le_succ _) _
 have hown:ExsOwn Y W.heap.size (fun _=>False) (.slice o L c) es:=(h3.out.2.2.same fun k hk hk2=>hYk k (by have:=HS2.out;omega)).base HB2.out.size
 have hdes:DesOwn Y W.heap.size (.slice od D c1) ds:=(h3.out.2.1.same fun k hk hk2=>hYk k (by have:=HS2.out;omega)).base HB2.out.size
 refine bodyPost_ret (v:=.tuple #[.agg #[.slice od D c1,.slice o L c],.agg #[.int .i64 cd,.int .i64 f]]) (by simp[results,Tryz.results8,go_sem,r0,r1,r2,r3]) rfl ?_
 exact⟨od,c1,o,c,by rw[←HL.out.1,←HL.out.2],hbY,by rw[←HL.out.2];exact hdes,by rw[←HL.out.1];exact hown⟩
theorem cwant_exprs (ts:List Tok) (s:List UInt8) (σ:RS):(wantS ts s σ).exprs=σ.exprs:=by unfold wantS failS;split <;> (try split) <;> rfl
end Go.Proofs.YtpfmlfcaadnnpaaGreatDoor
namespace Go.Proofs.YtpfmlfcaadnnpaaGreatDoor
open Go.RowKit
def litLen:Value→Nat | .int _ n=>n.toNat | _=>0
def Ix (t sz:Nat) (s:Value) (b off:Nat) (j:Nat):Prop:=∀W,(Instr.indexAt t s (.int .i64 (j:Int))).run prog W=.ok (.pointer (some ⟨b,off+j*sz,none⟩)) W
theorem ix_exs {o:Option Addr} {n cap b off:Nat} (h:0<n→o=some ⟨b,off,none⟩) {j:Nat} (hj:j<n) (hn:n≤9223372036854775807):Ix 24 9 (.slice o n cap) b off j:=by
 intro W
 rw[h (by omega)]
 have h1:(j:Int)<(n:Int):=by omega
 have h2:(j:Int)≤9223372036854775807:=by omega
 go_simp
theorem ix_des {o:Option Addr} {n cap b off:Nat} (h:0<n→o=some ⟨b,off,none⟩) {j:Nat} (hj:j<n) (hn:n≤9223372036854775807):Ix 23 7 (.slice o n cap) b off j:=by
 intro W
 rw[h (by omega)]
 have h1:(j:Int)<(n:Int):=by omega
 have h2:(j:Int)≤9223372036854775807:=by omega
 go_simp
theorem ix_its {o:Option Addr} {n cap b off:Nat} (h:0<n→o=some ⟨b,off,none⟩) {j:Nat} (hj:j<n) (hn:n≤9223372036854775807):Ix 55 9 (.slice o n cap) b off j:=by
 intro W
 rw[h (by omega)]
 have h1:(j:Int)<(n:Int):=by omega
 have h2:(j:Int)≤9223372036854775807:=by omega
 go_simp
theorem manyOf_out {k:Int} (h:¬(1≤k∧k≤21)):manyOf k=0:=by
 unfold manyOf;rw[if_neg (by omega),if_neg (by omega),if_neg (by omega)]
theorem manyOf_le (k:Int):manyOf k≤3:=by unfold manyOf;(repeat' split) <;> omega
def manyR (k:Int):Int:=if k=19 then -1 else(manyOf k:Int)
theorem many_any (k:Int) (w:World):Calls prog 45 #[.int .i64 k] w fun e w'=>e=.returned (.int .i64 (manyR k))∧w=w':=by
 by_cases h:1≤k∧k≤21
 ·have h2:k=1∨k=2∨k=3∨k=4∨k=5∨k=6∨k=7∨k=8∨k=9∨k=10∨k=11∨k=12∨k=13∨k=14∨k=15∨k=16∨k=17∨k=18∨k=19∨k=20∨k=21:=by omega
  clear h
  rcases h2 with rfl | rfl | rfl | rfl | rfl | rfl | rfl | rfl | rfl | rfl | rfl | rfl | rfl | rfl | rfl | rfl | rfl | rfl | rfl | rfl | rfl
  all_goals
   go_enter Tryz.func45,Tryz.ntmps45
   go_wp2_with fail
   go_ret
   exact⟨rfl,rfl⟩
 ·have hr:(manyR k)=0:=by unfold manyR;rw[if_neg (by omega),manyOf_out h];rfl
  have e4:(k ==4)=false:=beq_false_of_ne (by omega)
  have e5:(k ==5)=false:=beq_false_of_ne (by omega)
  have e16:(k ==16)=false:=beq_false_of_ne (by omega)
  have e21:(k ==21)=false:=beq_false_of_ne (by omega)
  have e6:(k ==6)=false:=beq_false_of_ne (by omega)
  have e7:(k ==7)=false:=beq_false_of_ne (by omega)
  have e8:(k ==8)=false:=beq_false_of_ne (by omega)
  have e9:(k ==9)=false:=beq_false_of_ne (by omega)
  have e10:(k ==10)=false:=beq_false_of_ne (by omega)
  have e11:(k ==11)=false:=beq_false_of_ne (by omega)
  have e12:(k ==12)=false:=beq_false_of_ne (by omega)
  have e13:(k ==13)=false:=beq_false_of_ne (by omega)
  have e14:(k ==14)=false:=beq_false_of_ne (by omega)
  have e17:(k ==17)=false:=beq_false_of_ne (by omega)
  have e18:(k ==18)=false:=beq_false_of_ne (by omega)
  have e15:(k ==15)=false:=beq_false_of_ne (by omega)
  have e19:(k ==19)=false:=beq_false_of_ne (by omega)
  rw[hr]
  clear h hr
  go_enter Tryz.func45,Tryz.ntmps45
  go_wp2_with fail
  go_ret
  exact⟨rfl,rfl⟩
end Go.Proofs.YtpfmlfcaadnnpaaGreatDoor
namespace Go.Proofs.YtpfmlfcaadnnpaaGreatDoor
open Go.RowKit Go.Shelf
attribute [local go_sem] Oper.semAt_some
def exCells (x:Ex) (s:Value):Array Value:=#[.int .i64 x.kind,.int .i64 x.a,.int .i64 x.b,.int .i64 x.c,.string x.name,.string x.state,.int .i64 x.v,s,.int .i64 x.pos]
theorem partsE_19 {x:Ex} (h:x.kind=19):partsE x=x.args:=by unfold partsE;rw[if_pos h]
theorem partsE_abc {x:Ex} (h:¬x.kind=19):partsE x=[x.a,x.b,x.c].take (manyOf x.kind):=by unfold partsE;rw[if_neg h]
theorem partsE_len {x:Ex} (h:¬x.kind=19):(partsE x).length=manyOf x.kind:=by
 rw[partsE_abc h,List.length_take];have:=manyOf_le x.kind;simp;omega
end Go.Proofs.YtpfmlfcaadnnpaaGreatDoor
