import Derived.Test.YtlbhlncipajapaaGreatDoorPt27
set_option maxHeartbeats 16000000
set_option maxRecDepth 100000
set_option linter.unusedVariables false
open Go.Proofs.Tryz(prog)
namespace Go.Proofs.YtlbhlncipajapaaGreatDoor
open Go.RowKit Lx
theorem cit_from (b g cap:Nat) (dv:Value) (ts:List Tok) (xb:Nat→Prop) (f:Nat) (x:RS) (hc:x.code=0) (hi:isS ts [102,114,111,109] x=true) (v2:Int) (l2:List Int) (t2:RS) (hr2:runE ts f .expr (wantS ts [111,110] (nameS ts (wantS ts [46] (nameS ts (stepS x)))))=some (v2,l2,t2)) (W:World) (h:Hid (Cd W b g cap dv ts xb x)) :
  Calls prog 89 #[.pointer (some ⟨b,0,none⟩)] W fun r Y=>CiRet b g cap dv ts xb W { it0 with kind:=7,name:=str (nameV ts (stepS x)),state:=str (nameV ts (wantS ts [46] (nameS ts (stepS x)))),f:=v2,next:=str (nameV ts (wantS ts [103,111,116,111] t2)),pos:=((tokL ts x.at_).at_:Int) } (wantS ts [59] (nameS ts (wantS ts [103,111,116,111] t2))) r Y:=by
 obtain⟨P,hP⟩:∃P,P=(tokL ts x.at_).at_:=⟨_,rfl⟩
 rw[←hP]
 obtain⟨s0,hs0⟩:∃s0,s0=stepS x:=⟨_,rfl⟩
 try rw[←hs0]
 try rw[←hs0] at hr2
 obtain⟨u0,hu0⟩:∃u:ByteArray,u=str (nameV ts s0):=⟨_,rfl⟩
 obtain⟨s1,hs1⟩:∃s1,s1=nameS ts s0:=⟨_,rfl⟩
 try rw[←hu0]
 try rw[←hs1]
 try rw[←hs1] at hr2
 obtain⟨u1,hu1⟩:∃u:ByteArray,u=str (nameV ts (wantS ts [46] s1)):=⟨_,rfl⟩
 obtain⟨s2,hs2⟩:∃s2,s2=nameS ts (wantS ts [46] s1):=⟨_,rfl⟩
 try rw[←hu1]
 try rw[←hs2]
 try rw[←hs2] at hr2
 obtain⟨u2,hu2⟩:∃u:Int,u=v2:=⟨_,rfl⟩
 obtain⟨s3,hs3⟩:∃s3,s3=t2:=⟨_,rfl⟩
 try rw[←hu2]
 try rw[←hs3]
 obtain⟨u3,hu3⟩:∃u:ByteArray,u=str (nameV ts (wantS ts [103,111,116,111] s3)):=⟨_,rfl⟩
 obtain⟨s4,hs4⟩:∃s4,s4=nameS ts (wantS ts [103,111,116,111] s3):=⟨_,rfl⟩
 try rw[←hu3]
 try rw[←hs4]
 obtain⟨sw,hsw⟩:∃sw,sw=wantS ts [59] s4:=⟨_,rfl⟩
 rw[←hsw]
 have K4:Hid (Stays s4 sw):=Hd (by rw[hsw];exact stays_want _ _ _)
 have K3:Hid (Stays s3 sw):=Hd (by have:=(stays_want ts [103,111,116,111] s3).trans (stays_name ts _);rw[←hs4] at this;exact this.trans K4.out)
 have K2:Hid (Stays s2 sw):=Hd (by have:=(stays_want ts [111,110] s2).trans (stuck ts f .expr _ _ hr2);rw[hs3] at K3;exact this.trans K3.out)
 have K1:Hid (Stays s1 sw):=Hd (by have:=(stays_want ts [46] s1).trans (stays_name ts _);rw[←hs2] at this;exact this.trans K2.out)
 have K0:Hid (Stays s0 sw):=Hd (by have:=stays_name ts s0;rw[←hs1] at this;exact this.trans K1.out)
 obtain⟨W1,hW1⟩:∃W1,W1=(W.alloc (.cells #[.int .i64 0,.string ⟨#[]⟩,.int .i64 0,.int .i64 0,.int .i64 0,.slice none 0 0,.string ⟨#[]⟩,.string ⟨#[]⟩,.int .i64 0] 65)).alloc (.cells #[.string ⟨#[108,101,116]⟩] 9):=⟨_,rfl⟩
 have hbe:Below W.heap.size W W1:=by rw[hW1];exact((qB _ _).alloc (qL _) _).alloc (by simp) _
 have hz1:W1.heap[W.heap.size]?=some (.cells itZ 65 (0,0)):=by rw[hW1,heap_alloc_old _ _ (by simp)];exact heap_alloc_new W _
 have H1:Hid (Cd W1 b g cap dv ts xb x):=Hd (h.out.below hbe)
 obtain⟨o,c,⟨c0,c1,c2,c3,fr⟩,hx⟩:=H1.out.cells
 obtain⟨t0,t1,t2,t3⟩:=H1.out.tok
 have hl:=H1.out.at_
 have hbs:=H1.out.size
 have hgs:g<W1.heap.size:=by have:=H1.out.lt;omega
 obtain⟨m,hmm⟩:∃m,m=ts.length-x.at_:=⟨_,rfl⟩
 obtain⟨a4,haa⟩:∃a4,a4=x.at_*4:=⟨_,rfl⟩
 rw[←hmm,←haa] at c0
 rw[←hP,←haa] at t3
 have k0:(0:Int)<(m:Int):=by omega
 have F0:Hid (Calls prog 49 #[.pointer (some ⟨b,0,none⟩),.slice (some ⟨W.heap.size+1,0,none⟩) 1 1] W1 fun r Y=>r=.returned (.bool false)∧W1=Y):=Hd ((fits_any b g cap dv ts xb x (W.heap.size+1) 1 [[108,101,116]] W1 H1 hc (by decide) rfl (by decide) (Hd (by
  rw[hW1,show W.heap.size+1=(W.alloc (.cells #[.int .i64 0,.string ⟨#[]⟩,.int .i64 0,.int .i64 0,.int .i64 0,.slice none 0 0,.string ⟨#[]⟩,.string ⟨#[]⟩,.int .i64 0] 65)).heap.size by simp];exact strs_new _ [[108,101,116]] _))).mono fun r Y hh=>by
  rw[show fitsB ts [[108,101,116]] x=false by unfold fitsB;simp[show isS ts [108,101,116] x=false from isS_one hi (by decide)]] at hh;exact⟨hh.1,hh.2.symm⟩)
 obtain⟨W2,hW2⟩:∃W2,W2=W1.alloc (.cells #[.int .i64 0,.string ⟨#[]⟩,.int .i64 0,.int .i64 0,.int .i64 0,.slice none 0 0,.string ⟨#[]⟩,.string ⟨#[]⟩,.int .i64 (P:Int)] 65):=⟨_,rfl⟩
 have HB:Hid (CB W W2 b g cap dv ts xb x W.heap.size W1.heap.size #[.int .i64 0,.string ⟨#[]⟩,.int .i64 0,.int .i64 0,.int .i64 0,.slice none 0 0,.string ⟨#[]⟩,.string ⟨#[]⟩,.int .i64 (P:Int)]):=Hd (by rw[hW2];exact CB.new2 h.out hbe hz1 _)
 have T0:=tk_no (b:=b) (g:=g) (cap:=cap) (dv:=dv) (xb:=xb) hc [100,101,114] ⟨#[100,101,114]⟩ rfl (by decide) (isS_one hi (by decide))
 have T1:=tk_no (b:=b) (g:=g) (cap:=cap) (dv:=dv) (xb:=xb) hc [114,101,115,101,116] ⟨#[114,101,115,101,116]⟩ rfl (by decide) (isS_one hi (by decide))
 have T2:=tk_no (b:=b) (g:=g) (cap:=cap) (dv:=dv) (xb:=xb) hc [109,101,109] ⟨#[109,101,109]⟩ rfl (by decide) (isS_one hi (by decide))
 have T3:=tk_no (b:=b) (g:=g) (cap:=cap) (dv:=dv) (xb:=xb) hc [111,110] ⟨#[111,110]⟩ rfl (by decide) (isS_one hi (by decide))
 have T4:=tk_no (b:=b) (g:=g) (cap:=cap) (dv:=dv) (xb:=xb) hc [109,111,100,101] ⟨#[109,111,100,101]⟩ rfl (by decide) (isS_one hi (by decide))
 have T5:=tk_yes (b:=b) (g:=g) (cap:=cap) (dv:=dv) (xb:=xb) hc hs0 [102,114,111,109] ⟨#[102,114,111,109]⟩ rfl (by decide) hi
 have z0:s0.code=0:=by rw[hs0];exact hc
 have C0:=st_name (b:=b) (g:=g) (cap:=cap) (dv:=dv) (xb:=xb) hu0 hs1
 have C1:=bh_name (b:=b) (g:=g) (cap:=cap) (dv:=dv) (xb:=xb) [46] ⟨#[46]⟩ rfl (by decide) hu1 hs2
 have C2:=bh_expr (b:=b) (g:=g) (cap:=cap) (dv:=dv) (xb:=xb) [111,110] ⟨#[111,110]⟩ rfl (by decide) hr2 hu2 hs3
 have C3:=bh_name (b:=b) (g:=g) (cap:=cap) (dv:=dv) (xb:=xb) [103,111,116,111] ⟨#[103,111,116,111]⟩ rfl (by decide) hu3 hs4
 have CW:=wt_one (b:=b) (g:=g) (cap:=cap) (dv:=dv) (xb:=xb) [59] ⟨#[59]⟩ rfl (by decide) hsw
 clear hmm haa t0 t1 t2 hl hx c1 c2 c3 fr hP hi hc hsw hbe hz1 hs0 hr2 hu0 hs1 hu1 hs2 hu2 hs3 hu3 hs4
 have z0':=Hd z0
 go_enter Tryz.func89,Tryz.ntmps89
 go_wp2_with (first
  | (go_at_call 49;rw[←hW1];(with_reducible refine F0.out.mono ?_);rintro e w1 ⟨rfl,rfl⟩;clear hW1)
  | (go_at_call 62;rw[←hW2];clear hW2 c0 t3;(with_reducible refine(T0.out _ (Hd HB.out.cd)).mono ?_);rintro e wt0 ⟨rfl,hr1,hk1⟩;replace HB:=Hd (HB.out.call hr1 hk1);clear hr1 hk1)
  | (go_at_call 62;(with_reducible refine(T1.out _ (Hd HB.out.cd)).mono ?_);rintro e wt1 ⟨rfl,hr1,hk1⟩;replace HB:=Hd (HB.out.call hr1 hk1);clear hr1 hk1)
  | (go_at_call 62;(with_reducible refine(T2.out _ (Hd HB.out.cd)).mono ?_);rintro e wt2 ⟨rfl,hr1,hk1⟩;replace HB:=Hd (HB.out.call hr1 hk1);clear hr1 hk1)
  | (go_at_call 62;(with_reducible refine(T3.out _ (Hd HB.out.cd)).mono ?_);rintro e wt3 ⟨rfl,hr1,hk1⟩;replace HB:=Hd (HB.out.call hr1 hk1);clear hr1 hk1)
  | (go_at_call 62;(with_reducible refine(T4.out _ (Hd HB.out.cd)).mono ?_);rintro e wt4 ⟨rfl,hr1,hk1⟩;replace HB:=Hd (HB.out.call hr1 hk1);clear hr1 hk1)
  | (go_at_call 62;(with_reducible refine(T5.out _ (Hd HB.out.cd)).mono ?_);rintro e wt5 ⟨rfl,hr1,hk1⟩;replace HB:=Hd (HB.out.call hr1 hk1);clear hr1 hk1;obtain⟨⟨y0,y1,y2,y3,y4,y5,y6,y7,y8⟩,yf⟩:=rgCells HB.out.box;have f0:=yf 0;clear yf)
  | (go_at_call 63;obtain⟨V0,hV0⟩:∃V0,V0=wt5.setCell ⟨W1.heap.size,0,none⟩ (.int .i64 7):=⟨_,rfl⟩;have HV:Hid (CB W V0 b g cap dv ts xb s0 W.heap.size W1.heap.size #[.int .i64 7,.string ⟨#[]⟩,.int .i64 0,.int .i64 0,.int .i64 0,.slice none 0 0,.string ⟨#[]⟩,.string ⟨#[]⟩,.int .i64 (P:Int)]):=Hd (by rw[hV0];exact HB.out.set 0 _ rfl);clear HB;have HB:=HV;clear HV;rw[←hV0];clear hV0 y0 y1 y2 y3 y4 y5 y6 y7 y8 f0;(with_reducible refine(C0.out z0 _ (Hd HB.out.cd)).mono ?_);rintro e ws0 hh;rcases hh.two with ⟨z1,rfl,hr1,hk1⟩ | ⟨z1,rfl,hk1⟩;rotate_left;exact⟨rfl,CiRet.bad (HB.out.rx.trans hk1.out) z1 K1.out⟩;replace HB:=Hd (HB.out.call hr1 hk1);clear hr1 hk1)
  | (go_at_call 102;(with_reducible refine(C1.out z1 _ (Hd HB.out.cd)).mono ?_);rintro e ws1 hh;rcases hh.two with ⟨z2,rfl,hr1,hk1⟩ | ⟨z2,rfl,hk1⟩;rotate_left;exact⟨rfl,CiRet.bad (HB.out.rx.trans hk1.out) z2 K2.out⟩;replace HB:=Hd (HB.out.call hr1 hk1);clear hr1 hk1)
  | (go_at_call 65;(with_reducible refine(C2.out z2 _ (Hd HB.out.cd)).mono ?_);rintro e ws2 hh;rcases hh.two with ⟨z3,rfl,hr1,hk1⟩ | ⟨z3,rfl,hk1⟩;rotate_left;exact⟨rfl,CiRet.bad (HB.out.rx.trans hk1.out) z3 K3.out⟩;replace HB:=Hd (HB.out.call hr1 hk1);clear hr1 hk1)
  | (go_at_call 102;(with_reducible refine(C3.out z3 _ (Hd HB.out.cd)).mono ?_);rintro e ws3 hh;rcases hh.two with ⟨z4,rfl,hr1,hk1⟩ | ⟨z4,rfl,hk1⟩;rotate_left;exact⟨rfl,CiRet.bad (HB.out.rx.trans hk1.out) z4 K4.out⟩;replace HB:=Hd (HB.out.call hr1 hk1);clear hr1 hk1;obtain⟨⟨y0,y1,y2,y3,y4,y5,y6,y7,y8⟩,yf⟩:=rgCells HB.out.box;have f1:=yf 1;have f6:=yf 6;have f4:=yf 4;have f7:=yf 7;clear yf))
 obtain⟨V,hV⟩:∃V,V=((((ws3.setCell ⟨W1.heap.size,1,none⟩ (.string u0)).setCell ⟨W1.heap.size,6,none⟩ (.string u1)).setCell ⟨W1.heap.size,4,none⟩ (.int .i64 u2)).setCell ⟨W1.heap.size,7,none⟩ (.string u3)):=⟨_,rfl⟩
 have HV:Hid (CB W V b g cap dv ts xb s4 W.heap.size W1.heap.size #[.int .i64 7,.string u0,.int .i64 0,.int .i64 0,.int .i64 u2,.slice none 0 0,.string u1,.string u3,.int .i64 (P:Int)]):=Hd (by rw[hV];exact((((HB.out.set 1 _ rfl).set 6 _ rfl).set 4 _ rfl).set 7 _ rfl))
 rw[←hV,show ws3.heap.size=V.heap.size by rw[hV];simp]
 clear hV HB y0 y1 y2 y3 y4 y5 y6 y7 y8 f1 f6 f4 f7
 refine(CW.out z4 V (Hd HV.out.cd)).mono ?_
 rintro e w5 hh
 rcases hh.two with ⟨z5,rfl,hr5,hk5⟩ | ⟨z5,rfl,hk5⟩
 rotate_left
 ·exact⟨rfl,CiRet.bad (HV.out.rx.trans hk5.out) z5 (Stays.refl _)⟩
 dsimp only
 have HE:=Hd (HV.out.call hr5 hk5)
 obtain⟨⟨y0,y1,y2,y3,y4,y5,y6,y7,y8⟩,_⟩:=rgCells HE.out.box
 obtain⟨⟨q0,q1,q2,q3,q4,q5,q6,q7,q8⟩,qf⟩:=rgCells HE.out.zero
 have g0:=qf 0;have g1:=qf 1;have g2:=qf 2;have g3:=qf 3;have g4:=qf 4;have g5:=qf 5;have g6:=qf 6;have g7:=qf 7;have g8:=qf 8
 clear qf
 go_wp2_with fail
 obtain⟨r1,r2,r3,r4⟩:=HE.out.told (.int .i64 7) (.string u0) (.int .i64 0) (.int .i64 0) (.int .i64 u2) (.slice none 0 0) (.string u1) (.string u3) (.int .i64 (P:Int))
 obtain⟨⟨x0,x1,x2,x3,x4,x5,x6,x7,x8⟩,_⟩:=rgCells r1
 unfold set9 at x0 x1 x2 x3 x4 x5 x6 x7 x8
 exact bodyPost_ret (v:=.agg #[.int .i64 7,.string u0,.int .i64 0,.int .i64 0,.int .i64 u2,.slice none 0 0,.string u1,.string u3,.int .i64 (P:Int)]) (by simp[results,Tryz.results89,go_sem,x0,x1,x2,x3,x4,x5,x6,x7,x8]) rfl ⟨r3,.inl ⟨z5,none,0,0,rfl,r2,qO _ _ _ _⟩⟩
theorem cit_out (b g cap:Nat) (dv:Value) (ts:List Tok) (xb:Nat→Prop) (f:Nat) (x:RS) (hc:x.code=0) (hi:isS ts [111,117,116] x=true) (W:World) (h:Hid (Cd W b g cap dv ts xb x)) :
  Calls prog 89 #[.pointer (some ⟨b,0,none⟩)] W fun r Y=>CiRet b g cap dv ts xb W { it0 with kind:=8,name:=str (nameV ts (stepS x)),pos:=((tokL ts x.at_).at_:Int) } (wantS ts [59] (nameS ts (stepS x))) r Y:=by
 obtain⟨P,hP⟩:∃P,P=(tokL ts x.at_).at_:=⟨_,rfl⟩
 rw[←hP]
 obtain⟨s0,hs0⟩:∃s0,s0=stepS x:=⟨_,rfl⟩
 try rw[←hs0]
 obtain⟨u0,hu0⟩:∃u:ByteArray,u=str (nameV ts s0):=⟨_,rfl⟩
 obtain⟨s1,hs1⟩:∃s1,s1=nameS ts s0:=⟨_,rfl⟩
 try rw[←hu0]
 try rw[←hs1]
 obtain⟨sw,hsw⟩:∃sw,sw=wantS ts [59] s1:=⟨_,rfl⟩
 rw[←hsw]
 have K1:Hid (Stays s1 sw):=Hd (by rw[hsw];exact stays_want _ _ _)
 have K0:Hid (Stays s0 sw):=Hd (by have:=stays_name ts s0;rw[←hs1] at this;exact this.trans K1.out)
 obtain⟨W1,hW1⟩:∃W1,W1=(W.alloc (.cells #[.int .i64 0,.string ⟨#[]⟩,.int .i64 0,.int .i64 0,.int .i64 0,.slice none 0 0,.string ⟨#[]⟩,.string ⟨#[]⟩,.int .i64 0] 65)).alloc (.cells #[.string ⟨#[108,101,116]⟩] 9):=⟨_,rfl⟩
 have hbe:Below W.heap.size W W1:=by rw[hW1];exact((qB _ _).alloc (qL _) _).alloc (by simp) _
 have hz1:W1.heap[W.heap.size]?=some (.cells itZ 65 (0,0)):=by rw[hW1,heap_alloc_old _ _ (by simp)];exact heap_alloc_new W _
 have H1:Hid (Cd W1 b g cap dv ts xb x):=Hd (h.out.below hbe)
 obtain⟨o,c,⟨c0,c1,c2,c3,fr⟩,hx⟩:=H1.out.cells
 obtain⟨t0,t1,t2,t3⟩:=H1.out.tok
 have hl:=H1.out.at_
 have hbs:=H1.out.size
 have hgs:g<W1.heap.size:=by have:=H1.out.lt;omega
 obtain⟨m,hmm⟩:∃m,m=ts.length-x.at_:=⟨_,rfl⟩
 obtain⟨a4,haa⟩:∃a4,a4=x.at_*4:=⟨_,rfl⟩
 rw[←hmm,←haa] at c0
 rw[←hP,←haa] at t3
 have k0:(0:Int)<(m:Int):=by omega
 have F0:Hid (Calls prog 49 #[.pointer (some ⟨b,0,none⟩),.slice (some ⟨W.heap.size+1,0,none⟩) 1 1] W1 fun r Y=>r=.returned (.bool false)∧W1=Y):=Hd ((fits_any b g cap dv ts xb x (W.heap.size+1) 1 [[108,101,116]] W1 H1 hc (by decide) rfl (by decide) (Hd (by
  rw[hW1,show W.heap.size+1=(W.alloc (.cells #[.int .i64 0,.string ⟨#[]⟩,.int .i64 0,.int .i64 0,.int .i64 0,.slice none 0 0,.string ⟨#[]⟩,.string ⟨#[]⟩,.int .i64 0] 65)).heap.size by simp];exact strs_new _ [[108,101,116]] _))).mono fun r Y hh=>by
  rw[show fitsB ts [[108,101,116]] x=false by unfold fitsB;simp[show isS ts [108,101,116] x=false from isS_one hi (by decide)]] at hh;exact⟨hh.1,hh.2.symm⟩)
 obtain⟨W2,hW2⟩:∃W2,W2=W1.alloc (.cells #[.int .i64 0,.string ⟨#[]⟩,.int .i64 0,.int .i64 0,.int .i64 0,.slice none 0 0,.string ⟨#[]⟩,.string ⟨#[]⟩,.int .i64 (P:Int)] 65):=⟨_,rfl⟩
 have HB:Hid (CB W W2 b g cap dv ts xb x W.heap.size W1.heap.size #[.int .i64 0,.string ⟨#[]⟩,.int .i64 0,.int .i64 0,.int .i64 0,.slice none 0 0,.string ⟨#[]⟩,.string ⟨#[]⟩,.int .i64 (P:Int)]):=Hd (by rw[hW2];exact CB.new2 h.out hbe hz1 _)
 have T0:=tk_no (b:=b) (g:=g) (cap:=cap) (dv:=dv) (xb:=xb) hc [100,101,114] ⟨#[100,101,114]⟩ rfl (by decide) (isS_one hi (by decide))
 have T1:=tk_no (b:=b) (g:=g) (cap:=cap) (dv:=dv) (xb:=xb) hc [114,101,115,101,116] ⟨#[114,101,115,101,116]⟩ rfl (by decide) (isS_one hi (by decide))
 have T2:=tk_no (b:=b) (g:=g) (cap:=cap) (dv:=dv) (xb:=xb) hc [109,101,109] ⟨#[109,101,109]⟩ rfl (by decide) (isS_one hi (by decide))
 have T3:=tk_no (b:=b) (g:=g) (cap:=cap) (dv:=dv) (xb:=xb) hc [111,110] ⟨#[111,110]⟩ rfl (by decide) (isS_one hi (by decide))
 have T4:=tk_no (b:=b) (g:=g) (cap:=cap) (dv:=dv) (xb:=xb) hc [109,111,100,101] ⟨#[109,111,100,101]⟩ rfl (by decide) (isS_one hi (by decide))
 have T5:=tk_no (b:=b) (g:=g) (cap:=cap) (dv:=dv) (xb:=xb) hc [102,114,111,109] ⟨#[102,114,111,109]⟩ rfl (by decide) (isS_one hi (by decide))
 have T6:=tk_yes (b:=b) (g:=g) (cap:=cap) (dv:=dv) (xb:=xb) hc hs0 [111,117,116] ⟨#[111,117,116]⟩ rfl (by decide) hi
 have z0:s0.code=0:=by rw[hs0];exact hc
 have C0:=st_name (b:=b) (g:=g) (cap:=cap) (dv:=dv) (xb:=xb) hu0 hs1
 have CW:=wt_one (b:=b) (g:=g) (cap:=cap) (dv:=dv) (xb:=xb) [59] ⟨#[59]⟩ rfl (by decide) hsw
 clear hmm haa t0 t1 t2 hl hx c1 c2 c3 fr hP hi hc hsw hbe hz1 hs0 hu0 hs1
 have z0':=Hd z0
 go_enter Tryz.func89,Tryz.ntmps89
 go_wp2_with (first
  | (go_at_call 49;rw[←hW1];(with_reducible refine F0.out.mono ?_);rintro e w1 ⟨rfl,rfl⟩;clear hW1)
  | (go_at_call 62;rw[←hW2];clear hW2 c0 t3;(with_reducible refine(T0.out _ (Hd HB.out.cd)).mono ?_);rintro e wt0 ⟨rfl,hr1,hk1⟩;replace HB:=Hd (HB.out.call hr1 hk1);clear hr1 hk1)
  | (go_at_call 62;(with_reducible refine(T1.out _ (Hd HB.out.cd)).mono ?_);rintro e wt1 ⟨rfl,hr1,hk1⟩;replace HB:=Hd (HB.out.call hr1 hk1);clear hr1 hk1)
  | (go_at_call 62;(with_reducible refine(T2.out _ (Hd HB.out.cd)).mono ?_);rintro e wt2 ⟨rfl,hr1,hk1⟩;replace HB:=Hd (HB.out.call hr1 hk1);clear hr1 hk1)
  | (go_at_call 62;(with_reducible refine(T3.out _ (Hd HB.out.cd)).mono ?_);rintro e wt3 ⟨rfl,hr1,hk1⟩;replace HB:=Hd (HB.out.call hr1 hk1);clear hr1 hk1)
  | (go_at_call 62;(with_reducible refine(T4.out _ (Hd HB.out.cd)).mono ?_);rintro e wt4 ⟨rfl,hr1,hk1⟩;replace HB:=Hd (HB.out.call hr1 hk1);clear hr1 hk1)
  | (go_at_call 62;(with_reducible refine(T5.out _ (Hd HB.out.cd)).mono ?_);rintro e wt5 ⟨rfl,hr1,hk1⟩;replace HB:=Hd (HB.out.call hr1 hk1);clear hr1 hk1)
  | (go_at_call 62;(with_reducible refine(T6.out _ (Hd HB.out.cd)).mono ?_);rintro e wt6 ⟨rfl,hr1,hk1⟩;replace HB:=Hd (HB.out.call hr1 hk1);clear hr1 hk1;obtain⟨⟨y0,y1,y2,y3,y4,y5,y6,y7,y8⟩,yf⟩:=rgCells HB.out.box;have f0:=yf 0;clear yf)
  | (go_at_call 63;obtain⟨V0,hV0⟩:∃V0,V0=wt6.setCell ⟨W1.heap.size,0,none⟩ (.int .i64 8):=⟨_,rfl⟩;have HV:Hid (CB W V0 b g cap dv ts xb s0 W.heap.size W1.heap.size #[.int .i64 8,.string ⟨#[]⟩,.int .i64 0,.int .i64 0,.int .i64 0,.slice none 0 0,.string ⟨#[]⟩,.string ⟨#[]⟩,.int .i64 (P:Int)]):=Hd (by rw[hV0];exact HB.out.set 0 _ rfl);clear HB;have HB:=HV;clear HV;rw[←hV0];clear hV0 y0 y1 y2 y3 y4 y5 y6 y7 y8 f0;(with_reducible refine(C0.out z0 _ (Hd HB.out.cd)).mono ?_);rintro e ws0 hh;rcases hh.two with ⟨z1,rfl,hr1,hk1⟩ | ⟨z1,rfl,hk1⟩;rotate_left;exact⟨rfl,CiRet.bad (HB.out.rx.trans hk1.out) z1 K1.out⟩;replace HB:=Hd (HB.out.call hr1 hk1);clear hr1 hk1;obtain⟨⟨y0,y1,y2,y3,y4,y5,y6,y7,y8⟩,yf⟩:=rgCells HB.out.box;have f1:=yf 1;clear yf))
 obtain⟨V,hV⟩:∃V,V=(ws0.setCell ⟨W1.heap.size,1,none⟩ (.string u0)):=⟨_,rfl⟩
 have HV:Hid (CB W V b g cap dv ts xb s1 W.heap.size W1.heap.size #[.int .i64 8,.string u0,.int .i64 0,.int .i64 0,.int .i64 0,.slice none 0 0,.string ⟨#[]⟩,.string ⟨#[]⟩,.int .i64 (P:Int)]):=Hd (by rw[hV];exact(HB.out.set 1 _ rfl))
 rw[←hV,show ws0.heap.size=V.heap.size by rw[hV];simp]
 clear hV HB y0 y1 y2 y3 y4 y5 y6 y7 y8 f1
 refine(CW.out z1 V (Hd HV.out.cd)).mono ?_
 rintro e w5 hh
 rcases hh.two with ⟨z5,rfl,hr5,hk5⟩ | ⟨z5,rfl,hk5⟩
 rotate_left
 ·exact⟨rfl,CiRet.bad (HV.out.rx.trans hk5.out) z5 (Stays.refl _)⟩
 dsimp only
 have HE:=Hd (HV.out.call hr5 hk5)
 obtain⟨⟨y0,y1,y2,y3,y4,y5,y6,y7,y8⟩,_⟩:=rgCells HE.out.box
 obtain⟨⟨q0,q1,q2,q3,q4,q5,q6,q7,q8⟩,qf⟩:=rgCells HE.out.zero
 have g0:=qf 0;have g1:=qf 1;have g2:=qf 2;have g3:=qf 3;have g4:=qf 4;have g5:=qf 5;have g6:=qf 6;have g7:=qf 7;have g8:=qf 8
 clear qf
 go_wp2_with fail
 obtain⟨r1,r2,r3,r4⟩:=HE.out.told (.int .i64 8) (.string u0) (.int .i64 0) (.int .i64 0) (.int .i64 0) (.slice none 0 0) (.string ⟨#[]⟩) (.string ⟨#[]⟩) (.int .i64 (P:Int))
 obtain⟨⟨x0,x1,x2,x3,x4,x5,x6,x7,x8⟩,_⟩:=rgCells r1
 unfold set9 at x0 x1 x2 x3 x4 x5 x6 x7 x8
 exact bodyPost_ret (v:=.agg #[.int .i64 8,.string u0,.int .i64 0,.int .i64 0,.int .i64 0,.slice none 0 0,.string ⟨#[]⟩,.string ⟨#[]⟩,.int .i64 (P:Int)]) (by simp[results,Tryz.results89,go_sem,x0,x1,x2,x3,x4,x5,x6,x7,x8]) rfl ⟨r3,.inl ⟨z5,none,0,0,rfl,r2,qO _ _ _ _⟩⟩
theorem cit_let (b g cap:Nat) (dv:Value) (ts:List Tok) (xb:Nat→Prop) (f:Nat) (x:RS) (hc:x.code=0) (hi:isS ts [108,101,116] x=true) (it:It) (τ:RS) (HL:∀W,Hid (Cd W b g cap dv ts xb x)→Calls prog 88 #[.pointer (some ⟨b,0,none⟩)] W fun r Y=>CiRet b g cap dv ts xb W it τ r Y) (W:World) (h:Hid (Cd W b g cap dv ts xb x)) :
  Calls prog 89 #[.pointer (some ⟨b,0,none⟩)] W fun r Y=>CiRet b g cap dv ts xb W it τ r Y:=by
 obtain⟨W1,hW1⟩:∃W1,W1=(W.alloc (.cells #[.int .i64 0,.string ⟨#[]⟩,.int .i64 0,.int .i64 0,.int .i64 0,.slice none 0 0,.string ⟨#[]⟩,.string ⟨#[]⟩,.int .i64 0] 65)).alloc (.cells #[.string ⟨#[108,101,116]⟩] 9):=⟨_,rfl⟩
 have hbe:Below W.heap.size W W1:=by rw[hW1];exact((qB _ _).alloc (qL _) _).alloc (by simp) _
 have hz1:W1.heap[W.heap.size]?=some (.cells itZ 65 (0,0)):=by rw[hW1,heap_alloc_old _ _ (by simp)];exact heap_alloc_new W _
 have H1:Hid (Cd W1 b g cap dv ts xb x):=Hd (h.out.below hbe)
 have F0:Hid (Calls prog 49 #[.pointer (some ⟨b,0,none⟩),.slice (some ⟨W.heap.size+1,0,none⟩) 1 1] W1 fun r Y=>r=.returned (.bool true)∧W1=Y):=Hd ((fits_any b g cap dv ts xb x (W.heap.size+1) 1 [[108,101,116]] W1 H1 hc (by decide) rfl (by decide) (Hd (by
  rw[hW1,show W.heap.size+1=(W.alloc (.cells #[.int .i64 0,.string ⟨#[]⟩,.int .i64 0,.int .i64 0,.int .i64 0,.slice none 0 0,.string ⟨#[]⟩,.string ⟨#[]⟩,.int .i64 0] 65)).heap.size by simp];exact strs_new _ [[108,101,116]] _))).mono fun r Y hh=>by
  rw[show fitsB ts [[108,101,116]] x=true by unfold fitsB;simp[hi]] at hh;exact⟨hh.1,hh.2.symm⟩)
 have L1:=Hd (HL W1 H1)
 have hbs:=h.out.size
 have HX:=Hd (show _∧_∧_ from⟨hbe,hz1,h.out.xlt⟩)
 clear hi hc HL hbe hz1 H1
 go_enter Tryz.func89,Tryz.ntmps89
 go_wp2_with (first
  | (go_at_call 49;rw[←hW1];(with_reducible refine F0.out.mono ?_);rintro e w1 ⟨rfl,rfl⟩;clear hW1)
  | (go_at_call 88;(with_reducible refine L1.out.mono ?_);rintro e w2 hh;rcases hh with ⟨hk,⟨z,so,sn,sc,rfl,hr,how⟩ | ⟨z,rfl⟩⟩;rotate_left;exact⟨rfl,(RX.of_below HX.out.1 (ql hbs) HX.out.2.2).trans hk,.inr ⟨z,rfl⟩⟩;have HK:=Hd hk;have HR:=Hd hr;have HO:=Hd how;have HZ:=Hd (hk.keep _ _ HX.out.2.1 (by omega) (.of (by decide)));clear hk hr how;obtain⟨⟨q0,q1,q2,q3,q4,q5,q6,q7,q8⟩,qf⟩:=rgCells HZ.out;have g0:=qf 0;have g1:=qf 1;have g2:=qf 2;have g3:=qf 3;have g4:=qf 4;have g5:=qf 5;have g6:=qf 6;have g7:=qf 7;have g8:=qf 8;clear qf;unfold itC))
 have hbut:=set9_but w2 W.heap.size (.int .i64 it.kind) (.string it.name) (.int .i64 it.type) (.int .i64 it.e) (.int .i64 it.f) (.slice so sn sc) (.string it.state) (.string it.next) (.int .i64 it.pos)
 obtain⟨⟨x0,x1,x2,x3,x4,x5,x6,x7,x8⟩,_⟩:=rgCells (set9_box HZ.out (.int .i64 it.kind) (.string it.name) (.int .i64 it.type) (.int .i64 it.e) (.int .i64 it.f) (.slice so sn sc) (.string it.state) (.string it.next) (.int .i64 it.pos))
 unfold set9 at x0 x1 x2 x3 x4 x5 x6 x7 x8
 exact bodyPost_ret (v:=.agg (itC it (.slice so sn sc))) (by unfold itC;simp[results,Tryz.results89,go_sem,x0,x1,x2,x3,x4,x5,x6,x7,x8]) rfl ⟨((RX.of_below HX.out.1 (ql hbs) HX.out.2.2).trans HK.out).but HX.out.2.2 (qL _) hbs hbs hbut,.inl ⟨z,so,sn,sc,rfl,HR.out.but HZ.out (by decide) (by decide) hbs hbut,own_but (own_base HO.out HX.out.1.size) HZ.out (by decide) hbut⟩⟩
theorem cit_none (b g cap:Nat) (dv:Value) (ts:List Tok) (xb:Nat→Prop) (x:RS) (hc:x.code=0) (hi:isS ts [108,101,116] x=false) (h0:isS ts [100,101,114] x=false) (h1:isS ts [114,101,115,101,116] x=false) (h2:isS ts [109,101,109] x=false) (h3:isS ts [111,110] x=false) (h4:isS ts [109,111,100,101] x=false) (h5:isS ts [102,114,111,109] x=false) (h6:isS ts [111,117,116] x=false) (W:World) (h:Hid (Cd W b g cap dv ts xb x)) :
  Calls prog 89 #[.pointer (some ⟨b,0,none⟩)] W fun r Y=>CdBad b xb W 2 ((tokL ts x.at_).at_:Int) r Y:=by
 obtain⟨P,hP⟩:∃P,P=(tokL ts x.at_).at_:=⟨_,rfl⟩
 rw[←hP]
 obtain⟨W1,hW1⟩:∃W1,W1=(W.alloc (.cells #[.int .i64 0,.string ⟨#[]⟩,.int .i64 0,.int .i64 0,.int .i64 0,.slice none 0 0,.string ⟨#[]⟩,.string ⟨#[]⟩,.int .i64 0] 65)).alloc (.cells #[.string ⟨#[108,101,116]⟩] 9):=⟨_,rfl⟩
 have hbe:Below W.heap.size W W1:=by rw[hW1];exact((qB _ _).alloc (qL _) _).alloc (by simp) _
 have hz1:W1.heap[W.heap.size]?=some (.cells itZ 65 (0,0)):=by rw[hW1,heap_alloc_old _ _ (by simp)];exact heap_alloc_new W _
 have H1:Hid (Cd W1 b g cap dv ts xb x):=Hd (h.out.below hbe)
 obtain⟨o,c,⟨c0,c1,c2,c3,fr⟩,hx⟩:=H1.out.cells
 obtain⟨t0,t1,t2,t3⟩:=H1.out.tok
 have hl:=H1.out.at_
 have hbs:=H1.out.size
 have hgs:g<W1.heap.size:=by have:=H1.out.lt;omega
 obtain⟨m,hmm⟩:∃m,m=ts.length-x.at_:=⟨_,rfl⟩
 obtain⟨a4,haa⟩:∃a4,a4=x.at_*4:=⟨_,rfl⟩
 rw[←hmm,←haa] at c0
 rw[←hP,←haa] at t3
 have k0:(0:Int)<(m:Int):=by omega
 have F0:Hid (Calls prog 49 #[.pointer (some ⟨b,0,none⟩),.slice (some ⟨W.heap.size+1,0,none⟩) 1 1] W1 fun r Y=>r=.returned (.bool false)∧W1=Y):=Hd ((fits_any b g cap dv ts xb x (W.heap.size+1) 1 [[108,101,116]] W1 H1 hc (by decide) rfl (by decide) (Hd (by
  rw[hW1,show W.heap.size+1=(W.alloc (.cells #[.int .i64 0,.string ⟨#[]⟩,.int .i64 0,.int .i64 0,.int .i64 0,.slice none 0 0,.string ⟨#[]⟩,.string ⟨#[]⟩,.int .i64 0] 65)).heap.size by simp];exact strs_new _ [[108,101,116]] _))).mono fun r Y hh=>by
  rw[show fitsB ts [[108,101,116]] x=false by unfold fitsB;simp[hi]] at hh;exact⟨hh.1,hh.2.symm⟩)
 obtain⟨W2,hW2⟩:∃W2,W2=W1.alloc (.cells #[.int .i64 0,.string ⟨#[]⟩,.int .i64 0,.int .i64 0,.int .i64 0,.slice none 0 0,.string ⟨#[]⟩,.string ⟨#[]⟩,.int .i64 (P:Int)] 65):=⟨_,rfl⟩
 have HB:Hid (CB W W2 b g cap dv ts xb x W.heap.size W1.heap.size #[.int .i64 0,.string ⟨#[]⟩,.int .i64 0,.int .i64 0,.int .i64 0,.slice none 0 0,.string ⟨#[]⟩,.string ⟨#[]⟩,.int .i64 (P:Int)]):=Hd (by rw[hW2];exact CB.new2 h.out hbe hz1 _)
 have T0:=tk_no (b:=b) (g:=g) (cap:=cap) (dv:=dv) (xb:=xb) hc [100,101,114] ⟨#[100,101,114]⟩ rfl (by decide) h0
 have T1:=tk_no (b:=b) (g:=g) (cap:=cap) (dv:=dv) (xb:=xb) hc [114,101,115,101,116] ⟨#[114,101,115,101,116]⟩ rfl (by decide) h1
 have T2:=tk_no (b:=b) (g:=g) (cap:=cap) (dv:=dv) (xb:=xb) hc [109,101,109] ⟨#[109,101,109]⟩ rfl (by decide) h2
 have T3:=tk_no (b:=b) (g:=g) (cap:=cap) (dv:=dv) (xb:=xb) hc [111,110] ⟨#[111,110]⟩ rfl (by decide) h3
 have T4:=tk_no (b:=b) (g:=g) (cap:=cap) (dv:=dv) (xb:=xb) hc [109,111,100,101] ⟨#[109,111,100,101]⟩ rfl (by decide) h4
 have T5:=tk_no (b:=b) (g:=g) (cap:=cap) (dv:=dv) (xb:=xb) hc [102,114,111,109] ⟨#[102,114,111,109]⟩ rfl (by decide) h5
 have T6:=tk_no (b:=b) (g:=g) (cap:=cap) (dv:=dv) (xb:=xb) hc [111,117,116] ⟨#[111,117,116]⟩ rfl (by decide) h6
 have RF:Hid (∀W,Hid (Cd W b g cap dv ts xb x)→Calls prog 60 #[.pointer (some ⟨b,0,none⟩),.int .i64 2] W fun r Y=>r=.returned (.agg #[.int .i64 2,.int .i64 (P:Int)])∧Hid (Below W.heap.size W Y)):=Hd fun W h=>(refusal_any b g cap dv ts xb x 2 W h).mono fun r Y hh=>by rw[hP];exact⟨hh.1,Hd hh.2⟩
 clear hmm haa t0 t1 t2 hl hx c1 c2 c3 fr hP hi hc hbe hz1 h0 h1 h2 h3 h4 h5 h6
 go_enter Tryz.func89,Tryz.ntmps89
 go_wp2_with (first
  | (go_at_call 49;rw[←hW1];(with_reducible refine F0.out.mono ?_);rintro e w1 ⟨rfl,rfl⟩;clear hW1)
  | (go_at_call 62;rw[←hW2];clear hW2 c0 t3;(with_reducible refine(T0.out _ (Hd HB.out.cd)).mono ?_);rintro e wt0 ⟨rfl,hr1,hk1⟩;replace HB:=Hd (HB.out.call hr1 hk1);clear hr1 hk1)
  | (go_at_call 62;(with_reducible refine(T1.out _ (Hd HB.out.cd)).mono ?_);rintro e wt1 ⟨rfl,hr1,hk1⟩;replace HB:=Hd (HB.out.call hr1 hk1);clear hr1 hk1)
  | (go_at_call 62;(with_reducible refine(T2.out _ (Hd HB.out.cd)).mono ?_);rintro e wt2 ⟨rfl,hr1,hk1⟩;replace HB:=Hd (HB.out.call hr1 hk1);clear hr1 hk1)
  | (go_at_call 62;(with_reducible refine(T3.out _ (Hd HB.out.cd)).mono ?_);rintro e wt3 ⟨rfl,hr1,hk1⟩;replace HB:=Hd (HB.out.call hr1 hk1);clear hr1 hk1)
  | (go_at_call 62;(with_reducible refine(T4.out _ (Hd HB.out.cd)).mono ?_);rintro e wt4 ⟨rfl,hr1,hk1⟩;replace HB:=Hd (HB.out.call hr1 hk1);clear hr1 hk1)
  | (go_at_call 62;(with_reducible refine(T5.out _ (Hd HB.out.cd)).mono ?_);rintro e wt5 ⟨rfl,hr1,hk1⟩;replace HB:=Hd (HB.out.call hr1 hk1);clear hr1 hk1)
  | (go_at_call 62;(with_reducible refine(T6.out _ (Hd HB.out.cd)).mono ?_);rintro e wt6 ⟨rfl,hr1,hk1⟩;replace HB:=Hd (HB.out.call hr1 hk1);clear hr1 hk1)
  | (go_at_call 60;(with_reducible refine(RF.out _ (Hd HB.out.cd)).mono ?_);rintro e w3 ⟨rfl,hb3⟩))
 exact⟨rfl,rfl,Hd (HB.out.rx.trans (RX.of_below hb3.out (ql HB.out.cd.size) HB.out.cd.xlt))⟩
def ItDoes (b g cap:Nat) (dv:Value) (ts:List Tok) (xb:Nat→Prop) (F:Nat) (σ:RS) (it:It) (ok:Bool) (τ:RS):Prop :=
 (ok=decide (τ.code=0)∧Stays σ τ∧∀W,Hid (Cd W b g cap dv ts xb σ)→Calls prog F #[.pointer (some ⟨b,0,none⟩)] W fun r Y=>CiRet b g cap dv ts xb W it τ r Y) ∨
 (ok=false∧τ=σ∧∀W,Hid (Cd W b g cap dv ts xb σ)→Calls prog F #[.pointer (some ⟨b,0,none⟩)] W fun r Y=>CdBad b xb W 2 ((tokL ts σ.at_).at_:Int) r Y)
theorem clet_does (b g cap:Nat) (dv:Value) (ts:List Tok) (xb:Nat→Prop) (f:Nat) (σ:RS) (hc:σ.code=0) (hi:isS ts [108,101,116] σ=true) (all:Bool) (it:It) (ok:Bool) (τ:RS) (hr:itemS ts f all σ=some (it,ok,τ)) :
  ok=decide (τ.code=0)∧Stays σ τ∧∀W,Hid (Cd W b g cap dv ts xb σ)→Calls prog 88 #[.pointer (some ⟨b,0,none⟩)] W fun r Y=>CiRet b g cap dv ts xb W it τ r Y:=by
 unfold itemS at hr
 rw[if_pos hi] at hr
 unfold iLet at hr
 obtain⟨v,l,s5,h1,hr⟩:=exprS_bind hr
 cases hr
 exact⟨rfl,fun h=>absurd hc h,fun W h=>clet_any b g cap dv ts xb f σ hc hi v l s5 h1 W h⟩
theorem citem_does (b g cap:Nat) (dv:Value) (ts:List Tok) (xb:Nat→Prop) (f:Nat) (σ:RS) (hc:σ.code=0) (it:It) (ok:Bool) (τ:RS) (hr:itemS ts f true σ=some (it,ok,τ)) :
  ItDoes b g cap dv ts xb 89 σ it ok τ:=by
 have hst:∀υ:RS,Stays σ υ:=fun υ h=>absurd hc h
 by_cases hl:isS ts [108,101,116] σ=true
 ·obtain⟨h1,h2,h3⟩:=clet_does b g cap dv ts xb f σ hc hl true it ok τ hr
  exact .inl ⟨h1,h2,fun W h=>cit_let b g cap dv ts xb f σ hc hl it τ h3 W h⟩
 have hl':=Bool.eq_false_iff.2 hl
 unfold itemS at hr
 rw[if_neg hl,if_pos rfl] at hr
 split at hr
 ·rename_i hi
  unfold iDer at hr
  obtain⟨v1,l1,t1,h1,hr⟩:=exprS_bind hr
  obtain⟨v2,l2,t2,h2,hr⟩:=exprS_bind hr
  cases hr
  exact .inl ⟨rfl,hst _,fun W h=>cit_der b g cap dv ts xb f σ hc hi v1 l1 t1 h1 v2 l2 t2 h2 W h⟩
 rename_i n1
 split at hr
 ·rename_i hi
  unfold iReset at hr
  obtain⟨v1,l1,t1,h1,hr⟩:=exprS_bind hr
  obtain⟨v2,l2,t2,h2,hr⟩:=exprS_bind hr
  cases hr
  exact .inl ⟨rfl,hst _,fun W h=>cit_reset b g cap dv ts xb f σ hc hi v1 l1 t1 h1 v2 l2 t2 h2 W h⟩
 rename_i n2
 split at hr
 ·rename_i hi
  unfold iMem at hr
  obtain⟨v2,l2,t2,h2,hr⟩:=exprS_bind hr
  cases hr
  exact .inl ⟨rfl,hst _,fun W h=>cit_mem b g cap dv ts xb f σ hc hi v2 l2 t2 h2 W h⟩
 rename_i n3
 split at hr
 ·rename_i hi
  unfold iOn at hr
  obtain⟨v1,l1,t1,h1,hr⟩:=exprS_bind hr
  obtain⟨v2,l2,t2,h2,hr⟩:=exprS_bind hr
  cases hr
  exact .inl ⟨rfl,hst _,fun W h=>cit_on b g cap dv ts xb f σ hc hi v1 l1 t1 h1 v2 l2 t2 h2 W h⟩
 rename_i n4
 split at hr
 ·rename_i hi
  unfold iMode at hr
  obtain⟨⟨L,t1⟩,h1,hr⟩:=Option.bind_eq_some_iff.1 hr
  cases hr
  exact .inl ⟨rfl,hst _,fun W h=>cit_mode b g cap dv ts xb f σ hc hi L t1 h1 W h⟩
 rename_i n5
 split at hr
 ·rename_i hi
  unfold iFrom at hr
  obtain⟨v1,l1,t1,h1,hr⟩:=exprS_bind hr
  cases hr
  exact .inl ⟨rfl,hst _,fun W h=>cit_from b g cap dv ts xb f σ hc hi v1 l1 t1 h1 W h⟩
 rename_i n6
 split at hr
 ·rename_i hi
  unfold iOut at hr
  cases hr
  exact .inl ⟨rfl,hst _,fun W h=>cit_out b g cap dv ts xb f σ hc hi W h⟩
 rename_i n7
 cases hr
 exact .inr ⟨rfl,rfl,fun W h=>cit_none b g cap dv ts xb σ hc hl' (Bool.eq_false_iff.2 n1) (Bool.eq_false_iff.2 n2) (Bool.eq_false_iff.2 n3) (Bool.eq_false_iff.2 n4) (Bool.eq_false_iff.2 n5) (Bool.eq_false_iff.2 n6) (Bool.eq_false_iff.2 n7) W h⟩
theorem itemS_end {ts:List Tok} {f:Nat} {all:Bool} {σ:RS} (h:isS ts [125] σ=true):itemS ts f all σ=some ({ it0 with pos:=((tokL ts σ.at_).at_:Int) },false,σ):=by
 have n:∀s:List UInt8,[125]≠s→¬isS ts s σ=true:=fun s hs e=>by rw[isS_one h hs] at e;cases e
 unfold itemS
 rw[if_neg (n _ (by decide)),if_neg (n _ (by decide)),if_neg (n _ (by decide)),if_neg (n _ (by decide)),if_neg (n _ (by decide)),if_neg (n _ (by decide)),if_neg (n _ (by decide)),if_neg (n _ (by decide))]
 split <;> rfl
theorem itemS_let {ts:List Tok} {f:Nat} {σ:RS} (h:isS ts [108,101,116] σ=false):itemS ts f false σ=some ({ it0 with pos:=((tokL ts σ.at_).at_:Int) },false,σ):=by
 unfold itemS
 rw[if_neg (by rw[h];decide),if_neg (by decide)]
structure CiSg (W Y:World) (b g cap:Nat) (dv:Value) (ts:List Tok) (xb:Nat→Prop) (σ:RS) (acc:List It) (v:Value):Prop where
 cd:Cd Y b g cap dv ts xb σ
 rx:RX b xb W Y
 own:ItsOwn Y W.heap.size v acc
theorem CiSg.call {W Y Z:World} {b g cap:Nat} {dv:Value} {ts:List Tok} {xb:Nat→Prop} {σ τ:RS} {acc:List It} {v:Value} (h:CiSg W Y b g cap dv ts xb σ acc v) (hb:b<W.heap.size) (hr:Cd Z b g cap dv ts xb τ) (hk:RX b xb Y Z):CiSg W Z b g cap dv ts xb τ acc v :=
 ⟨hr,h.rx.trans hk,h.own.keep hb hk.rk⟩
theorem CiSg.below {W Y Z:World} {b g cap:Nat} {dv:Value} {ts:List Tok} {xb:Nat→Prop} {σ:RS} {acc:List It} {v:Value} (h:CiSg W Y b g cap dv ts xb σ acc v) (hb:b<W.heap.size) (hz:Below Y.heap.size Y Z):CiSg W Z b g cap dv ts xb σ acc v :=
 h.call hb (h.cd.below hz) (RX.of_below hz (ql h.cd.size) h.cd.xlt)
def CItI (W:World) (b g cap:Nat) (dv:Value) (ts:List Tok) (xb:Nat→Prop) (f:Nat) (all:Bool) (R:List It×RS) (n0 n:Nat) (x:Value×World):Prop :=
 ∃(acc:List It) (τ:RS),n≤n0∧τ.code=0∧itsL ts f all n acc τ=some R∧CiSg W x.2 b g cap dv ts xb τ acc x.1
def CisRet (b g cap:Nat) (dv:Value) (ts:List Tok) (xb:Nat→Prop) (W:World) (l:List It) (σ:RS) (bad:RS) (r:Ending) (Y:World):Prop :=
 (σ.code=0∧bad.code=0∧∃o c,r=.returned (.slice o l.length c)∧Hid (CiSg W Y b g cap dv ts xb σ l (.slice o l.length c)))∨(bad.code≠0∧r=.panicked [{ v:=refusalV bad.code bad.pos,recovered:=false }]∧Hid (RX b xb W Y))
theorem citems_any (b g cap:Nat) (dv:Value) (ts:List Tok) (xb:Nat→Prop) (σ:RS) (hc:σ.code=0) (f n0:Nat) (R:List It×RS) (hr:itsL ts f true n0 [] σ=some R) (W:World) (h:Hid (Cd W b g cap dv ts xb σ)) :
  Calls prog 70 #[.pointer (some ⟨b,0,none⟩)] W fun r Y=>CisRet b g cap dv ts xb W R.1 R.2 (wantS ts [125] R.2) r Y:=by
 obtain⟨m,hm⟩:=least_of (CItI W b g cap dv ts xb f true R n0)
 have HM:=Hd hm
 have hbs:=h.out.size
 have HRUN:=Hd hr
 have HC0:=Hd hc
 have HST:Hid (CiSg W W b g cap dv ts xb σ [] (.slice none 0 0)):=Hd ⟨h.out,RX.refl _ _ _,ItsOwn.nil _ _⟩
 clear hm hr hc
 go_enter Tryz.func70,Tryz.ntmps70
 go_wp2_with fail
 go_loopw [3] (fun v wr=>∃o nn c,v=.slice o nn c∧Hid (∃n,CItI W b g cap dv ts xb f true R n0 n (v,wr))) (fun v wr=>m (v,wr))
 case atStart=>exact⟨_,_,_,rfl,Hd ⟨n0,[],σ,qL _,HC0.out,HRUN.out,HST.out⟩⟩
 case round =>
  obtain⟨ov,nv,cv,rfl,hI⟩:=hrel
  obtain⟨hm1,hm2⟩:=HM.out _ hI.out
  obtain⟨acc,τ,hnf,hc,hrun,hst⟩:=hm1
  obtain⟨nn,hmn⟩:∃nn,nn=m (.slice ov nv cv,wr):=⟨_,rfl⟩
  rw[←hmn] at hnf hrun
  obtain⟨k,rfl,hacc,hcase⟩:=itsL_cases hrun
  have HMN:=Hd hmn
  have HNV:Hid (nv=acc.length):=Hd (by obtain⟨o',c',e⟩:=hst.own.form;injection e)
  have hnv:nv≤40000:=by have:=HNV.out;omega
  have HKF:=Hd hnf
  obtain⟨wA,hwA⟩:∃wA,wA=wr.alloc (.cells #[.string ⟨#[125]⟩] 9):=⟨_,rfl⟩
  have hbA:Below wr.heap.size wr wA:=by rw[hwA];exact(qB _ _).alloc (qL _) _
  have HST':=Hd (hst.below hbs hbA)
  have HCD:Hid (Cd wA b g cap dv ts xb τ):=Hd HST'.out.cd
  have F:=Hd (fits_any b g cap dv ts xb τ wr.heap.size 1 [[125]] wA HCD hc (by decide) rfl (by decide) (Hd (by rw[hwA];exact strs_new wr [[125]] _)))
  have HC:=Hd hc
  clear hrun hmn hm2 hI hst hacc hnf HST HRUN hbA
  by_cases hi:isS ts [125] τ=true
  ·have hR:R=(acc,τ):=by
    rcases hcase with ⟨_,x,τ',h1,_⟩ | ⟨_,x,τ',h1,h2⟩ | ⟨h1,_⟩
    ·rw[itemS_end hi] at h1;cases h1
    ·rw[itemS_end hi] at h1;cases h1;exact h2
    ·exact absurd hc h1
   have F1:Hid (Calls prog 49 #[.pointer (some ⟨b,0,none⟩),.slice (some ⟨wr.heap.size,0,none⟩) 1 1] wA fun r Y=>r=.returned (.bool true)∧wA=Y):=Hd (F.out.mono fun r Y hh=>by rw[show fitsB ts [[125]] τ=true by unfold fitsB;simp[hi]] at hh;exact⟨hh.1,hh.2.symm⟩)
   have HRR:=Hd hR
   have HW:Hid ((wantS ts [125] τ).code=0):=Hd (by unfold wantS;rw[if_pos hi];exact hc)
   clear F hi hcase hR hc
   go_wp2_with (go_at_call 49;rw[←hwA];(with_reducible refine F1.out.mono ?_);rintro e w1 ⟨rfl,rfl⟩;clear hwA)
   go_ret
   rw[HRR.out]
   exact .inl ⟨HC.out,HW.out,ov,cv,by rw[HNV.out];rfl,Hd (by have:=HST'.out;rw[HNV.out] at this;exact this)⟩
  ·have hi':=Bool.eq_false_iff.2 hi
   have F1:Hid (Calls prog 49 #[.pointer (some ⟨b,0,none⟩),.slice (some ⟨wr.heap.size,0,none⟩) 1 1] wA fun r Y=>r=.returned (.bool false)∧wA=Y):=Hd (F.out.mono fun r Y hh=>by rw[show fitsB ts [[125]] τ=false by unfold fitsB;simp[hi']] at hh;exact⟨hh.1,hh.2.symm⟩)
   have HI':=Hd hi'
   obtain⟨x,ok,τ',hit,hrest⟩:∃x ok τ',itemS ts f true τ=some (x,ok,τ')∧((ok=true∧itsL ts f true k (acc++[x]) τ'=some R)∨(ok=false∧R=(acc,τ'))):=by
    rcases hcase with ⟨_,x,τ',h1,h2⟩ | ⟨_,x,τ',h1,h2⟩ | ⟨h1,_⟩
    ·exact⟨x,true,τ',h1,.inl ⟨rfl,h2⟩⟩
    ·exact⟨x,false,τ',h1,.inr ⟨rfl,h2⟩⟩
    ·exact absurd hc h1
   have D:=citem_does b g cap dv ts xb f τ hc x ok τ' hit
   clear F hi hi' hcase hit
   rcases D with ⟨d1,d2,D⟩ | ⟨d1,d2,D⟩
   ·have D1:=Hd (D wA HCD)
    have HR1:=Hd hrest
    have HD1:=Hd d1
    clear D d1 hrest hc
    go_wp2_with (first
     | (go_at_call 49;rw[←hwA];(with_reducible refine F1.out.mono ?_);rintro e w1 ⟨rfl,rfl⟩;clear hwA)
     | (go_at_call 89;(with_reducible refine D1.out.mono ?_);rintro e w1 hh;rcases hh with ⟨hk,⟨z,so,sn,sc,rfl,hr,how⟩ | ⟨z,rfl⟩⟩;rotate_left;(rcases HR1.out with ⟨e1,_⟩ | ⟨_,e2⟩;(exact absurd (of_decide_eq_true (HD1.out.symm.trans e1)) z);(obtain⟨k1,k2⟩:=stays_want ts [125] τ' z;exact⟨rfl,.inr ⟨by rw[e2,k1];exact z,by rw[e2,k1,k2],Hd (HST'.out.rx.trans hk)⟩⟩));have HS1:=Hd (own_base how HST'.out.rx.size);have HSG:=Hd (HST'.out.call hbs hr hk);have HZ:=Hd z;clear hr hk how z;have hsz:=HSG.out.rx.size;obtain⟨q,hq1,hq2,hq3⟩:=HSG.out.own;have HQ1:=Hd hq1;have HQ2:=Hd hq2;have HQ3:=Hd hq3;clear hq1 hq2 hq3;unfold itC)
     | (at_builtin;refine wpList_its _ rfl _ _ rfl W.heap.size (.slice ov nv cv) nv (itsC q) rfl (by have:=(HQ2.out.alloc (.cells #[.int .i64 x.kind,.string x.name,.int .i64 x.type,.int .i64 x.e,.int .i64 x.f,.slice so sn sc,.string x.state,.string x.next,.int .i64 x.pos] 65));rw[←HNV.out] at this;exact this) w1.heap.size 65 (.int .i64 x.kind) (.string x.name) (.int .i64 x.type) (.int .i64 x.e) (.int .i64 x.f) (.slice so sn sc) (.string x.state) (.string x.next) (.int .i64 x.pos) rfl (heap_alloc_new _ _) (by intro u hu;simp only[List.mem_cons,List.not_mem_nil,or_false] at hu;rcases hu with rfl | rfl | rfl | rfl | rfl | rfl | rfl | rfl | rfl <;> rfl) hnv (by simp;omega) ?_;intro gg cc w2 ho hg;have HO2:=Hd ho;have HG:=Hd hg;clear ho hg))
    have hbl:Below w1.heap.size w1 (w1.alloc (.cells #[.int .i64 x.kind,.string x.name,.int .i64 x.type,.int .i64 x.e,.int .i64 x.f,.slice so sn sc,.string x.state,.string x.next,.int .i64 x.pos] 65)):=(qB _ _).alloc (qL _) _
    have HO9:=own_below HQ2.out hbl
    have hql:nv=q.length:=by rw[HNV.out,←HQ1.out,List.length_map]
    have HP:=its_push (n:=nv) HQ3.out HS1.out hbl (by have:=HO9;rw[←HNV.out] at this;exact this) HG.out hql HO2.out
    rw[HQ1.out] at HP
    have hgo:itsL ts f true k (acc++[x]) τ'=some R:=by
     rcases HR1.out with ⟨_,e1⟩ | ⟨e1,_⟩
     ·exact e1
     ·rw[HD1.out,HZ.out] at e1;exact absurd e1 (by decide)
    have HSB:=HSG.out.below hbs hbl
    have HI:CItI W b g cap dv ts xb f true R n0 k (.slice (some ⟨gg,0,none⟩) (nv+1) cc,w2):=⟨acc++[x],τ',by have:=HKF.out;omega,HZ.out,hgo,HSB.cd.grownT HO9 hbs (by decide) (by decide) HG.out,HSB.rx.grown h.out.xlt hbs HO9 HG.out,HP⟩
    exact⟨⟨_,_,_,rfl,Hd ⟨k,HI⟩⟩,by have h5:=(HM.out _ ⟨k,HI⟩).2 k HI;have h6:=HMN.out;omega⟩
   ·have D1:=Hd (D wA HCD)
    have hR:R=(acc,τ):=by
     rcases hrest with ⟨e1,_⟩ | ⟨_,e2⟩
     ·rw[d1] at e1;cases e1
     ·rw[e2,d2]
    have HW:Hid ((wantS ts [125] τ).code=2∧(wantS ts [125] τ).pos=((tokL ts τ.at_).at_:Int)):=Hd (by unfold wantS failS;rw[if_neg (by rw[HI'.out];decide),if_pos hc];exact⟨rfl,rfl⟩)
    have HRR:=Hd hR
    clear D d1 d2 hrest hR hc
    go_wp2_with (first
     | (go_at_call 49;rw[←hwA];(with_reducible refine F1.out.mono ?_);rintro e w1 ⟨rfl,rfl⟩;clear hwA)
     | (go_at_call 89;(with_reducible refine D1.out.mono ?_);rintro e w1 ⟨rfl,hk⟩))
    exact⟨rfl,.inr ⟨by rw[HRR.out,HW.out.1];decide,by rw[HRR.out,HW.out.1,HW.out.2],Hd (HST'.out.rx.trans hk.out)⟩⟩
theorem clets_any (b g cap:Nat) (dv:Value) (ts:List Tok) (xb:Nat→Prop) (σ:RS) (hc:σ.code=0) (f n0:Nat) (R:List It×RS) (hr:itsL ts f false n0 [] σ=some R) (W:World) (h:Hid (Cd W b g cap dv ts xb σ)) :
  Calls prog 69 #[.pointer (some ⟨b,0,none⟩)] W fun r Y=>CisRet b g cap dv ts xb W R.1 R.2 R.2 r Y:=by
 obtain⟨m,hm⟩:=least_of (CItI W b g cap dv ts xb f false R n0)
 have HM:=Hd hm
 have hbs:=h.out.size
 have HRUN:=Hd hr
 have HC0:=Hd hc
 have HST:Hid (CiSg W W b g cap dv ts xb σ [] (.slice none 0 0)):=Hd ⟨h.out,RX.refl _ _ _,ItsOwn.nil _ _⟩
 clear hm hr hc
 go_enter Tryz.func69,Tryz.ntmps69
 go_wp2_with fail
 go_loopw [3] (fun v wr=>∃o nn c,v=.slice o nn c∧Hid (∃n,CItI W b g cap dv ts xb f false R n0 n (v,wr))) (fun v wr=>m (v,wr))
 case atStart=>exact⟨_,_,_,rfl,Hd ⟨n0,[],σ,qL _,HC0.out,HRUN.out,HST.out⟩⟩
 case round =>
  obtain⟨ov,nv,cv,rfl,hI⟩:=hrel
  obtain⟨hm1,hm2⟩:=HM.out _ hI.out
  obtain⟨acc,τ,hnf,hc,hrun,hst⟩:=hm1
  obtain⟨nn,hmn⟩:∃nn,nn=m (.slice ov nv cv,wr):=⟨_,rfl⟩
  rw[←hmn] at hnf hrun
  obtain⟨k,rfl,hacc,hcase⟩:=itsL_cases hrun
  have HMN:=Hd hmn
  have HNV:Hid (nv=acc.length):=Hd (by obtain⟨o',c',e⟩:=hst.own.form;injection e)
  have hnv:nv≤40000:=by have:=HNV.out;omega
  have HKF:=Hd hnf
  obtain⟨wA,hwA⟩:∃wA,wA=wr.alloc (.cells #[.string ⟨#[108,101,116]⟩] 9):=⟨_,rfl⟩
  have hbA:Below wr.heap.size wr wA:=by rw[hwA];exact(qB _ _).alloc (qL _) _
  have HST':=Hd (hst.below hbs hbA)
  have HCD:Hid (Cd wA b g cap dv ts xb τ):=Hd HST'.out.cd
  have F:=Hd (fits_any b g cap dv ts xb τ wr.heap.size 1 [[108,101,116]] wA HCD hc (by decide) rfl (by decide) (Hd (by rw[hwA];exact strs_new wr [[108,101,116]] _)))
  have HC:=Hd hc
  clear hrun hmn hm2 hI hst hacc hnf HST HRUN hbA
  by_cases hi:isS ts [108,101,116] τ=true
  ·have F1:Hid (Calls prog 49 #[.pointer (some ⟨b,0,none⟩),.slice (some ⟨wr.heap.size,0,none⟩) 1 1] wA fun r Y=>r=.returned (.bool true)∧wA=Y):=Hd (F.out.mono fun r Y hh=>by rw[show fitsB ts [[108,101,116]] τ=true by unfold fitsB;simp[hi]] at hh;exact⟨hh.1,hh.2.symm⟩)
   obtain⟨x,ok,τ',hit,hrest⟩:∃x ok τ',itemS ts f false τ=some (x,ok,τ')∧((ok=true∧itsL ts f false k (acc++[x]) τ'=some R)∨(ok=false∧R=(acc,τ'))):=by
    rcases hcase with ⟨_,x,τ',h1,h2⟩ | ⟨_,x,τ',h1,h2⟩ | ⟨h1,_⟩
    ·exact⟨x,true,τ',h1,.inl ⟨rfl,h2⟩⟩
    ·exact⟨x,false,τ',h1,.inr ⟨rfl,h2⟩⟩
    ·exact absurd hc h1
   obtain⟨d1,d2,D⟩:=clet_does b g cap dv ts xb f τ hc hi false x ok τ' hit
   have D1:=Hd (D wA HCD)
   have HR1:=Hd hrest
   have HD1:=Hd d1
   clear F hi hcase hit D d1 hrest hc
   go_wp2_with (first
    | (go_at_call 49;rw[←hwA];(with_reducible refine F1.out.mono ?_);rintro e w1 ⟨rfl,rfl⟩;clear hwA)
    | (go_at_call 88;(with_reducible refine D1.out.mono ?_);rintro e w1 hh;rcases hh with ⟨hk,⟨z,so,sn,sc,rfl,hr,how⟩ | ⟨z,rfl⟩⟩;rotate_left;(rcases HR1.out with ⟨e1,_⟩ | ⟨_,e2⟩;(exact absurd (of_decide_eq_true (HD1.out.symm.trans e1)) z);exact⟨rfl,.inr ⟨by rw[e2];exact z,by rw[e2],Hd (HST'.out.rx.trans hk)⟩⟩);have HS1:=Hd (own_base how HST'.out.rx.size);have HSG:=Hd (HST'.out.call hbs hr hk);have HZ:=Hd z;clear hr hk how z;have hsz:=HSG.out.rx.size;obtain⟨q,hq1,hq2,hq3⟩:=HSG.out.own;have HQ1:=Hd hq1;have HQ2:=Hd hq2;have HQ3:=Hd hq3;clear hq1 hq2 hq3;unfold itC)
    | (at_builtin;refine wpList_its _ rfl _ _ rfl W.heap.size (.slice ov nv cv) nv (itsC q) rfl (by have:=(HQ2.out.alloc (.cells #[.int .i64 x.kind,.string x.name,.int .i64 x.type,.int .i64 x.e,.int .i64 x.f,.slice so sn sc,.string x.state,.string x.next,.int .i64 x.pos] 65));rw[←HNV.out] at this;exact this) w1.heap.size 65 (.int .i64 x.kind) (.string x.name) (.int .i64 x.type) (.int .i64 x.e) (.int .i64 x.f) (.slice so sn sc) (.string x.state) (.string x.next) (.int .i64 x.pos) rfl (heap_alloc_new _ _) (by intro u hu;simp only[List.mem_cons,List.not_mem_nil,or_false] at hu;rcases hu with rfl | rfl | rfl | rfl | rfl | rfl | rfl | rfl | rfl <;> rfl) hnv (by simp;omega) ?_;intro gg cc w2 ho hg;have HO2:=Hd ho;have HG:=Hd hg;clear ho hg))
   have hbl:Below w1.heap.size w1 (w1.alloc (.cells #[.int .i64 x.kind,.string x.name,.int .i64 x.type,.int .i64 x.e,.int .i64 x.f,.slice so sn sc,.string x.state,.string x.next,.int .i64 x.pos] 65)):=(qB _ _).alloc (qL _) _
   have HO9:=own_below HQ2.out hbl
   have hql:nv=q.length:=by rw[HNV.out,←HQ1.out,List.length_map]
   have HP:=its_push (n:=nv) HQ3.out HS1.out hbl (by have:=HO9;rw[←HNV.out] at this;exact this) HG.out hql HO2.out
   rw[HQ1.out] at HP
   have hgo:itsL ts f false k (acc++[x]) τ'=some R:=by
    rcases HR1.out with ⟨_,e1⟩ | ⟨e1,_⟩
    ·exact e1
    ·rw[HD1.out,HZ.out] at e1;exact absurd e1 (by decide)
   have HSB:=HSG.out.below hbs hbl
   have HI:CItI W b g cap dv ts xb f false R n0 k (.slice (some ⟨gg,0,none⟩) (nv+1) cc,w2):=⟨acc++[x],τ',by have:=HKF.out;omega,HZ.out,hgo,HSB.cd.grownT HO9 hbs (by decide) (by decide) HG.out,HSB.rx.grown h.out.xlt hbs HO9 HG.out,HP⟩
   exact⟨⟨_,_,_,rfl,Hd ⟨k,HI⟩⟩,by have h5:=(HM.out _ ⟨k,HI⟩).2 k HI;have h6:=HMN.out;omega⟩
  ·have hi':=Bool.eq_false_iff.2 hi
   have hR:R=(acc,τ):=by
    rcases hcase with ⟨_,x,τ',h1,_⟩ | ⟨_,x,τ',h1,h2⟩ | ⟨h1,_⟩
    ·rw[itemS_let hi'] at h1;cases h1
    ·rw[itemS_let hi'] at h1;cases h1;exact h2
    ·exact absurd hc h1
   have F1:Hid (Calls prog 49 #[.pointer (some ⟨b,0,none⟩),.slice (some ⟨wr.heap.size,0,none⟩) 1 1] wA fun r Y=>r=.returned (.bool false)∧wA=Y):=Hd (F.out.mono fun r Y hh=>by rw[show fitsB ts [[108,101,116]] τ=false by unfold fitsB;simp[hi']] at hh;exact⟨hh.1,hh.2.symm⟩)
   have HRR:=Hd hR
   clear F hi hi' hcase hR hc
   go_wp2_with (go_at_call 49;rw[←hwA];(with_reducible refine F1.out.mono ?_);rintro e w1 ⟨rfl,rfl⟩;clear hwA)
   go_ret
   rw[HRR.out]
   exact .inl ⟨HC.out,HC.out,ov,cv,by rw[HNV.out];rfl,Hd (by have:=HST'.out;rw[HNV.out] at this;exact this)⟩
end Go.Proofs.YtlbhlncipajapaaGreatDoor
