import Derived.Test.YtpfmlfcaadnnpaaGreatDoorPg15
set_option maxHeartbeats 16000000
set_option maxRecDepth 100000
set_option linter.unusedVariables false
open Go.Proofs.Tryz(prog)
namespace Go.Proofs.YtpfmlfcaadnnpaaGreatDoor
open Go.RowKit Lx
theorem cit_on (b g cap:Nat) (dv:Value) (ts:List Tok) (xb:Nat→Prop) (f:Nat) (x:RS) (hc:x.code=0) (hi:isS ts [111,110] x=true) (v0:Int) (l0:List Int) (t0:RS) (hr0:runE ts f .expr (stepS x)=some (v0,l0,t0)) (v2:Int) (l2:List Int) (t2:RS) (hr2:runE ts f .expr (wantS ts [61] (nameS ts (wantS ts [115,101,116] t0)))=some (v2,l2,t2)) (W:World) (h:Hid (Cd W b g cap dv ts xb x)) :
  Calls prog 89 #[.pointer (some ⟨b,0,none⟩)] W fun r Y=>CiRet b g cap dv ts xb W { it0 with kind:=5,f:=v0,name:=str (nameV ts (wantS ts [115,101,116] t0)),e:=v2,pos:=((tokL ts x.at_).at_:Int) } (wantS ts [59] t2) r Y:=by
 obtain⟨P,hP⟩:∃P,P=(tokL ts x.at_).at_:=⟨_,rfl⟩
 rw[←hP]
 obtain⟨s0,hs0⟩:∃s0,s0=stepS x:=⟨_,rfl⟩
 try rw[←hs0]
 try rw[←hs0] at hr0
 obtain⟨u0,hu0⟩:∃u:Int,u=v0:=⟨_,rfl⟩
 obtain⟨s1,hs1⟩:∃s1,s1=t0:=⟨_,rfl⟩
 try rw[←hu0]
 try rw[←hs1]
 try rw[←hs1] at hr2
 obtain⟨u1,hu1⟩:∃u:ByteArray,u=str (nameV ts (wantS ts [115,101,116] s1)):=⟨_,rfl⟩
 obtain⟨s2,hs2⟩:∃s2,s2=nameS ts (wantS ts [115,101,116] s1):=⟨_,rfl⟩
 try rw[←hu1]
 try rw[←hs2]
 try rw[←hs2] at hr2
 obtain⟨u2,hu2⟩:∃u:Int,u=v2:=⟨_,rfl⟩
 obtain⟨s3,hs3⟩:∃s3,s3=t2:=⟨_,rfl⟩
 try rw[←hu2]
 try rw[←hs3]
 obtain⟨sw,hsw⟩:∃sw,sw=wantS ts [59] s3:=⟨_,rfl⟩
 rw[←hsw]
 have K3:Hid (Stays s3 sw):=Hd (by rw[hsw];exact stays_want _ _ _)
 have K2:Hid (Stays s2 sw):=Hd (by have:=(stays_want ts [61] s2).trans (stuck ts f .expr _ _ hr2);rw[hs3] at K3;exact this.trans K3.out)
 have K1:Hid (Stays s1 sw):=Hd (by have:=(stays_want ts [115,101,116] s1).trans (stays_name ts _);rw[←hs2] at this;exact this.trans K2.out)
 have K0:Hid (Stays s0 sw):=Hd (by have:=stuck ts f .expr _ _ hr0;rw[hs1] at K1;exact this.trans K1.out)
 obtain⟨W1,hW1⟩:∃W1,W1=(W.alloc (.cells #[.int .i64 0,.string ⟨#[]⟩,.int .i64 0,.int .i64 0,.int .i64 0,.slice none 0 0,.string ⟨#[]⟩,.string ⟨#[]⟩,.int .i64 0] 65)).alloc (.cells #[.string ⟨#[108,101,116]⟩] 9):=⟨_,rfl⟩
 have hbe:Below W.heap.size W W1:=by rw[hW1];exact((qB _ _).alloc (qL _) _).alloc (by simp) _
 have hz1:W1.heap[W.heap.size]?=some (.cells itZ 65 (0,0)):=by rw[hW1,heap_alloc_old _ _ (by simp)];exact heap_alloc_new W _
 have H1:Hid (Cd W1 b g cap dv ts xb x):=Hd (h.out.below hbe)
 obtain⟨o,c,⟨c0,c1,c2,c3,fr⟩,hx⟩:=H1.out.cells
 obtain⟨t0,t1,t2,t3⟩:=H1.out.tok
 have hl:=H1.out.at_
 have hbs:=H1.out.size
 have hgs:g<W1.heap.size:=by have:=H1.out.lt;omega
 obtain⟨m,hmm⟩:∃m,m=ts.length-x.at_:=⟨_,rfl⟩
 obtain⟨a4,haa⟩:∃a4,a4=x.at_*4:=⟨_,rfl⟩
 rw[←hmm,←haa] at c0
 rw[←hP,←haa] at t3
 have k0:(0:Int)<(m:Int):=by omega
 have F0:Hid (Calls prog 49 #[.pointer (some ⟨b,0,none⟩),.slice (some ⟨W.heap.size+1,0,none⟩) 1 1] W1 fun r Y=>r=.returned (.bool false)∧W1=Y):=Hd ((fits_any b g cap dv ts xb x (W.heap.size+1) 1 [[108,101,116]] W1 H1 hc (by decide) rfl (by decide) (Hd (by
  rw[hW1,show W.heap.size+1=(W.alloc (.cells #[.int .i64 0,.string ⟨#[]⟩,.int .i64 0,.int .i64 0,.int .i64 0,.slice none 0 0,.string ⟨#[]⟩,.string ⟨#[]⟩,.int .i64 0] 65)).heap.size by simp];exact strs_new _ [[108,101,116]] _))).mono fun r Y hh=>by
  rw[show fitsB ts [[108,101,116]] x=false by unfold fitsB;simp[show isS ts [108,101,116] x=false from isS_one hi (by decide)]] at hh;exact⟨hh.1,hh.2.symm⟩)
 obtain⟨W2,hW2⟩:∃W2,W2=W1.alloc (.cells #[.int .i64 0,.string ⟨#[]⟩,.int .i64 0,.int .i64 0,.int .i64 0,.slice none 0 0,.string ⟨#[]⟩,.string ⟨#[]⟩,.int .i64 (P:Int)] 65):=⟨_,rfl⟩
 have HB:Hid (CB W W2 b g cap dv ts xb x W.heap.size W1.heap.size #[.int .i64 0,.string ⟨#[]⟩,.int .i64 0,.int .i64 0,.int .i64 0,.slice none 0 0,.string ⟨#[]⟩,.string ⟨#[]⟩,.int .i64 (P:Int)]):=Hd (by rw[hW2];exact CB.new2 h.out hbe hz1 _)
 have T0:=tk_no (b:=b) (g:=g) (cap:=cap) (dv:=dv) (xb:=xb) hc [100,101,114] ⟨#[100,101,114]⟩ rfl (by decide) (isS_one hi (by decide))
 have T1:=tk_no (b:=b) (g:=g) (cap:=cap) (dv:=dv) (xb:=xb) hc [114,101,115,101,116] ⟨#[114,101,115,101,116]⟩ rfl (by decide) (isS_one hi (by decide))
 have T2:=tk_no (b:=b) (g:=g) (cap:=cap) (dv:=dv) (xb:=xb) hc [109,101,109] ⟨#[109,101,109]⟩ rfl (by decide) (isS_one hi (by decide))
 have T3:=tk_yes (b:=b) (g:=g) (cap:=cap) (dv:=dv) (xb:=xb) hc hs0 [111,110] ⟨#[111,110]⟩ rfl (by decide) hi
 have z0:s0.code=0:=by rw[hs0];exact hc
 have C0:=st_expr (b:=b) (g:=g) (cap:=cap) (dv:=dv) (xb:=xb) hr0 hu0 hs1
 have C1:=bh_name (b:=b) (g:=g) (cap:=cap) (dv:=dv) (xb:=xb) [115,101,116] ⟨#[115,101,116]⟩ rfl (by decide) hu1 hs2
 have C2:=bh_expr (b:=b) (g:=g) (cap:=cap) (dv:=dv) (xb:=xb) [61] ⟨#[61]⟩ rfl (by decide) hr2 hu2 hs3
 have CW:=wt_one (b:=b) (g:=g) (cap:=cap) (dv:=dv) (xb:=xb) [59] ⟨#[59]⟩ rfl (by decide) hsw
 clear hmm haa t0 t1 t2 hl hx c1 c2 c3 fr hP hi hc hsw hbe hz1 hs0 hr0 hr2 hu0 hs1 hu1 hs2 hu2 hs3
 have z0':=Hd z0
 go_enter Tryz.func89,Tryz.ntmps89
 go_wp2_with (first
  | (go_at_call 49;rw[←hW1];(with_reducible refine F0.out.mono ?_);rintro e w1 ⟨rfl,rfl⟩;clear hW1)
  | (go_at_call 62;rw[←hW2];clear hW2 c0 t3;(with_reducible refine(T0.out _ (Hd HB.out.cd)).mono ?_);rintro e wt0 ⟨rfl,hr1,hk1⟩;replace HB:=Hd (HB.out.call hr1 hk1);clear hr1 hk1)
  | (go_at_call 62;(with_reducible refine(T1.out _ (Hd HB.out.cd)).mono ?_);rintro e wt1 ⟨rfl,hr1,hk1⟩;replace HB:=Hd (HB.out.call hr1 hk1);clear hr1 hk1)
  | (go_at_call 62;(with_reducible refine(T2.out _ (Hd HB.out.cd)).mono ?_);rintro e wt2 ⟨rfl,hr1,hk1⟩;replace HB:=Hd (HB.out.call hr1 hk1);clear hr1 hk1)
  | (go_at_call 62;(with_reducible refine(T3.out _ (Hd HB.out.cd)).mono ?_);rintro e wt3 ⟨rfl,hr1,hk1⟩;replace HB:=Hd (HB.out.call hr1 hk1);clear hr1 hk1;obtain⟨⟨y0,y1,y2,y3,y4,y5,y6,y7,y8⟩,yf⟩:=rgCells HB.out.box;have f0:=yf 0;clear yf)
  | (go_at_call 26;obtain⟨V0,hV0⟩:∃V0,V0=wt3.setCell ⟨W1.heap.size,0,none⟩ (.int .i64 5):=⟨_,rfl⟩;have HV:Hid (CB W V0 b g cap dv ts xb s0 W.heap.size W1.heap.size #[.int .i64 5,.string ⟨#[]⟩,.int .i64 0,.int .i64 0,.int .i64 0,.slice none 0 0,.string ⟨#[]⟩,.string ⟨#[]⟩,.int .i64 (P:Int)]):=Hd (by rw[hV0];exact HB.out.set 0 _ rfl);clear HB;have HB:=HV;clear HV;rw[←hV0];clear hV0 y0 y1 y2 y3 y4 y5 y6 y7 y8 f0;(with_reducible refine(C0.out z0 _ (Hd HB.out.cd)).mono ?_);rintro e ws0 hh;rcases hh.two with ⟨z1,rfl,hr1,hk1⟩ | ⟨z1,rfl,hk1⟩;rotate_left;exact⟨rfl,CiRet.bad (HB.out.rx.trans hk1.out) z1 K1.out⟩;replace HB:=Hd (HB.out.call hr1 hk1);clear hr1 hk1)
  | (go_at_call 102;(with_reducible refine(C1.out z1 _ (Hd HB.out.cd)).mono ?_);rintro e ws1 hh;rcases hh.two with ⟨z2,rfl,hr1,hk1⟩ | ⟨z2,rfl,hk1⟩;rotate_left;exact⟨rfl,CiRet.bad (HB.out.rx.trans hk1.out) z2 K2.out⟩;replace HB:=Hd (HB.out.call hr1 hk1);clear hr1 hk1)
  | (go_at_call 65;(with_reducible refine(C2.out z2 _ (Hd HB.out.cd)).mono ?_);rintro e ws2 hh;rcases hh.two with ⟨z3,rfl,hr1,hk1⟩ | ⟨z3,rfl,hk1⟩;rotate_left;exact⟨rfl,CiRet.bad (HB.out.rx.trans hk1.out) z3 K3.out⟩;replace HB:=Hd (HB.out.call hr1 hk1);clear hr1 hk1;obtain⟨⟨y0,y1,y2,y3,y4,y5,y6,y7,y8⟩,yf⟩:=rgCells HB.out.box;have f4:=yf 4;have f1:=yf 1;have f3:=yf 3;clear yf))
 obtain⟨V,hV⟩:∃V,V=(((ws2.setCell ⟨W1.heap.size,4,none⟩ (.int .i64 u0)).setCell ⟨W1.heap.size,1,none⟩ (.string u1)).setCell ⟨W1.heap.size,3,none⟩ (.int .i64 u2)):=⟨_,rfl⟩
 have HV:Hid (CB W V b g cap dv ts xb s3 W.heap.size W1.heap.size #[.int .i64 5,.string u1,.int .i64 0,.int .i64 u2,.int .i64 u0,.slice none 0 0,.string ⟨#[]⟩,.string ⟨#[]⟩,.int .i64 (P:Int)]):=Hd (by rw[hV];exact(((HB.out.set 4 _ rfl).set 1 _ rfl).set 3 _ rfl))
 rw[←hV,show ws2.heap.size=V.heap.size by rw[hV];simp]
 clear hV HB y0 y1 y2 y3 y4 y5 y6 y7 y8 f4 f1 f3
 refine(CW.out z3 V (Hd HV.out.cd)).mono ?_
 rintro e w5 hh
 rcases hh.two with ⟨z5,rfl,hr5,hk5⟩ | ⟨z5,rfl,hk5⟩
 rotate_left
 ·exact⟨rfl,CiRet.bad (HV.out.rx.trans hk5.out) z5 (Stays.refl _)⟩
 dsimp only
 have HE:=Hd (HV.out.call hr5 hk5)
 obtain⟨⟨y0,y1,y2,y3,y4,y5,y6,y7,y8⟩,_⟩:=rgCells HE.out.box
 obtain⟨⟨q0,q1,q2,q3,q4,q5,q6,q7,q8⟩,qf⟩:=rgCells HE.out.zero
 have g0:=qf 0;have g1:=qf 1;have g2:=qf 2;have g3:=qf 3;have g4:=qf 4;have g5:=qf 5;have g6:=qf 6;have g7:=qf 7;have g8:=qf 8
 clear qf
 go_wp2_with fail
 obtain⟨r1,r2,r3,r4⟩:=HE.out.told (.int .i64 5) (.string u1) (.int .i64 0) (.int .i64 u2) (.int .i64 u0) (.slice none 0 0) (.string ⟨#[]⟩) (.string ⟨#[]⟩) (.int .i64 (P:Int))
 obtain⟨⟨x0,x1,x2,x3,x4,x5,x6,x7,x8⟩,_⟩:=rgCells r1
 unfold set9 at x0 x1 x2 x3 x4 x5 x6 x7 x8
 exact bodyPost_ret (v:=.agg #[.int .i64 5,.string u1,.int .i64 0,.int .i64 u2,.int .i64 u0,.slice none 0 0,.string ⟨#[]⟩,.string ⟨#[]⟩,.int .i64 (P:Int)]) (by simp[results,Tryz.results89,go_sem,x0,x1,x2,x3,x4,x5,x6,x7,x8]) rfl ⟨r3,.inl ⟨z5,none,0,0,rfl,r2,qO _ _ _ _⟩⟩
theorem cit_mode (b g cap:Nat) (dv:Value) (ts:List Tok) (xb:Nat→Prop) (f:Nat) (x:RS) (hc:x.code=0) (hi:isS ts [109,111,100,101] x=true) (v1:List ByteArray) (t1:RS) (hr1:statesL ts f [str (nameV ts (wantS ts [123] (nameS ts (stepS x))))] (nameS ts (wantS ts [123] (nameS ts (stepS x))))=some (v1,t1)) (W:World) (h:Hid (Cd W b g cap dv ts xb x)) :
  Calls prog 89 #[.pointer (some ⟨b,0,none⟩)] W fun r Y=>CiRet b g cap dv ts xb W { it0 with kind:=6,name:=str (nameV ts (stepS x)),states:=v1,pos:=((tokL ts x.at_).at_:Int) } (wantS ts [59] (wantS ts [125] t1)) r Y:=by
 obtain⟨P,hP⟩:∃P,P=(tokL ts x.at_).at_:=⟨_,rfl⟩
 rw[←hP]
 obtain⟨s0,hs0⟩:∃s0,s0=stepS x:=⟨_,rfl⟩
 try rw[←hs0]
 try rw[←hs0] at hr1
 obtain⟨u0,hu0⟩:∃u:ByteArray,u=str (nameV ts s0):=⟨_,rfl⟩
 obtain⟨s1,hs1⟩:∃s1,s1=nameS ts s0:=⟨_,rfl⟩
 try rw[←hu0]
 try rw[←hs1]
 try rw[←hs1] at hr1
 obtain⟨u1,hu1⟩:∃u:List ByteArray,u=v1:=⟨_,rfl⟩
 obtain⟨s2,hs2⟩:∃s2,s2=wantS ts [125] t1:=⟨_,rfl⟩
 try rw[←hu1]
 try rw[←hs2]
 obtain⟨sw,hsw⟩:∃sw,sw=wantS ts [59] s2:=⟨_,rfl⟩
 rw[←hsw]
 have K2:Hid (Stays s2 sw):=Hd (by rw[hsw];exact stays_want _ _ _)
 have K1:Hid (Stays s1 sw):=Hd (by have:=(stays_want ts [123] s1).trans ((stays_name ts _).trans ((stays_states _ _ _ _ hr1).trans (stays_want ts [125] _)));rw[hs2] at K2;exact this.trans K2.out)
 have K0:Hid (Stays s0 sw):=Hd (by have:=stays_name ts s0;rw[←hs1] at this;exact this.trans K1.out)
 obtain⟨W1,hW1⟩:∃W1,W1=(W.alloc (.cells #[.int .i64 0,.string ⟨#[]⟩,.int .i64 0,.int .i64 0,.int .i64 0,.slice none 0 0,.string ⟨#[]⟩,.string ⟨#[]⟩,.int .i64 0] 65)).alloc (.cells #[.string ⟨#[108,101,116]⟩] 9):=⟨_,rfl⟩
 have hbe:Below W.heap.size W W1:=by rw[hW1];exact((qB _ _).alloc (qL _) _).alloc (by simp) _
 have hz1:W1.heap[W.heap.size]?=some (.cells itZ 65 (0,0)):=by rw[hW1,heap_alloc_old _ _ (by simp)];exact heap_alloc_new W _
 have H1:Hid (Cd W1 b g cap dv ts xb x):=Hd (h.out.below hbe)
 obtain⟨o,c,⟨c0,c1,c2,c3,fr⟩,hx⟩:=H1.out.cells
 obtain⟨t0,t1,t2,t3⟩:=H1.out.tok
 have hl:=H1.out.at_
 have hbs:=H1.out.size
 have hgs:g<W1.heap.size:=by have:=H1.out.lt;omega
 obtain⟨m,hmm⟩:∃m,m=ts.length-x.at_:=⟨_,rfl⟩
 obtain⟨a4,haa⟩:∃a4,a4=x.at_*4:=⟨_,rfl⟩
 rw[←hmm,←haa] at c0
 rw[←hP,←haa] at t3
 have k0:(0:Int)<(m:Int):=by omega
 have F0:Hid (Calls prog 49 #[.pointer (some ⟨b,0,none⟩),.slice (some ⟨W.heap.size+1,0,none⟩) 1 1] W1 fun r Y=>r=.returned (.bool false)∧W1=Y):=Hd ((fits_any b g cap dv ts xb x (W.heap.size+1) 1 [[108,101,116]] W1 H1 hc (by decide) rfl (by decide) (Hd (by
  rw[hW1,show W.heap.size+1=(W.alloc (.cells #[.int .i64 0,.string ⟨#[]⟩,.int .i64 0,.int .i64 0,.int .i64 0,.slice none 0 0,.string ⟨#[]⟩,.string ⟨#[]⟩,.int .i64 0] 65)).heap.size by simp];exact strs_new _ [[108,101,116]] _))).mono fun r Y hh=>by
  rw[show fitsB ts [[108,101,116]] x=false by unfold fitsB;simp[show isS ts [108,101,116] x=false from isS_one hi (by decide)]] at hh;exact⟨hh.1,hh.2.symm⟩)
 obtain⟨W2,hW2⟩:∃W2,W2=W1.alloc (.cells #[.int .i64 0,.string ⟨#[]⟩,.int .i64 0,.int .i64 0,.int .i64 0,.slice none 0 0,.string ⟨#[]⟩,.string ⟨#[]⟩,.int .i64 (P:Int)] 65):=⟨_,rfl⟩
 have HB:Hid (CB W W2 b g cap dv ts xb x W.heap.size W1.heap.size #[.int .i64 0,.string ⟨#[]⟩,.int .i64 0,.int .i64 0,.int .i64 0,.slice none 0 0,.string ⟨#[]⟩,.string ⟨#[]⟩,.int .i64 (P:Int)]):=Hd (by rw[hW2];exact CB.new2 h.out hbe hz1 _)
 have T0:=tk_no (b:=b) (g:=g) (cap:=cap) (dv:=dv) (xb:=xb) hc [100,101,114] ⟨#[100,101,114]⟩ rfl (by decide) (isS_one hi (by decide))
 have T1:=tk_no (b:=b) (g:=g) (cap:=cap) (dv:=dv) (xb:=xb) hc [114,101,115,101,116] ⟨#[114,101,115,101,116]⟩ rfl (by decide) (isS_one hi (by decide))
 have T2:=tk_no (b:=b) (g:=g) (cap:=cap) (dv:=dv) (xb:=xb) hc [109,101,109] ⟨#[109,101,109]⟩ rfl (by decide) (isS_one hi (by decide))
 have T3:=tk_no (b:=b) (g:=g) (cap:=cap) (dv:=dv) (xb:=xb) hc [111,110] ⟨#[111,110]⟩ rfl (by decide) (isS_one hi (by decide))
 have T4:=tk_yes (b:=b) (g:=g) (cap:=cap) (dv:=dv) (xb:=xb) hc hs0 [109,111,100,101] ⟨#[109,111,100,101]⟩ rfl (by decide) hi
 have z0:s0.code=0:=by rw[hs0];exact hc
 have C0:=st_name (b:=b) (g:=g) (cap:=cap) (dv:=dv) (xb:=xb) hu0 hs1
 have C1:Hid (s1.code=0→∀W,Hid (Cd W b g cap dv ts xb s1)→Calls prog 103 #[.pointer (some ⟨b,0,none⟩),.string ⟨#[123]⟩,.func (.func 104) #[.pointer (some ⟨b,0,none⟩)] #[]] W fun r Y=>SsRet b g cap dv ts xb W u1 s2 r Y):=Hd fun z W h=>by rw[hu1,hs2];exact behind_states b g cap dv ts xb f _ _ [123] v1 hr1 ((stays_name ts _).trans ((stays_states _ _ _ _ hr1).trans (stays_want ts [125] _))) W h z (by decide)
 have CW:=wt_one (b:=b) (g:=g) (cap:=cap) (dv:=dv) (xb:=xb) [59] ⟨#[59]⟩ rfl (by decide) hsw
 clear hmm haa t0 t1 t2 hl hx c1 c2 c3 fr hP hi hc hsw hbe hz1 hs0 hr1 hu0 hs1 hu1 hs2
 have z0':=Hd z0
 go_enter Tryz.func89,Tryz.ntmps89
 go_wp2_with (first
  | (go_at_call 49;rw[←hW1];(with_reducible refine F0.out.mono ?_);rintro e w1 ⟨rfl,rfl⟩;clear hW1)
  | (go_at_call 62;rw[←hW2];clear hW2 c0 t3;(with_reducible refine(T0.out _ (Hd HB.out.cd)).mono ?_);rintro e wt0 ⟨rfl,hr1,hk1⟩;replace HB:=Hd (HB.out.call hr1 hk1);clear hr1 hk1)
  | (go_at_call 62;(with_reducible refine(T1.out _ (Hd HB.out.cd)).mono ?_);rintro e wt1 ⟨rfl,hr1,hk1⟩;replace HB:=Hd (HB.out.call hr1 hk1);clear hr1 hk1)
  | (go_at_call 62;(with_reducible refine(T2.out _ (Hd HB.out.cd)).mono ?_);rintro e wt2 ⟨rfl,hr1,hk1⟩;replace HB:=Hd (HB.out.call hr1 hk1);clear hr1 hk1)
  | (go_at_call 62;(with_reducible refine(T3.out _ (Hd HB.out.cd)).mono ?_);rintro e wt3 ⟨rfl,hr1,hk1⟩;replace HB:=Hd (HB.out.call hr1 hk1);clear hr1 hk1)
  | (go_at_call 62;(with_reducible refine(T4.out _ (Hd HB.out.cd)).mono ?_);rintro e wt4 ⟨rfl,hr1,hk1⟩;replace HB:=Hd (HB.out.call hr1 hk1);clear hr1 hk1;obtain⟨⟨y0,y1,y2,y3,y4,y5,y6,y7,y8⟩,yf⟩:=rgCells HB.out.box;have f0:=yf 0;clear yf)
  | (go_at_call 63;obtain⟨V0,hV0⟩:∃V0,V0=wt4.setCell ⟨W1.heap.size,0,none⟩ (.int .i64 6):=⟨_,rfl⟩;have HV:Hid (CB W V0 b g cap dv ts xb s0 W.heap.size W1.heap.size #[.int .i64 6,.string ⟨#[]⟩,.int .i64 0,.int .i64 0,.int .i64 0,.slice none 0 0,.string ⟨#[]⟩,.string ⟨#[]⟩,.int .i64 (P:Int)]):=Hd (by rw[hV0];exact HB.out.set 0 _ rfl);clear HB;have HB:=HV;clear HV;rw[←hV0];clear hV0 y0 y1 y2 y3 y4 y5 y6 y7 y8 f0;(with_reducible refine(C0.out z0 _ (Hd HB.out.cd)).mono ?_);rintro e ws0 hh;rcases hh.two with ⟨z1,rfl,hr1,hk1⟩ | ⟨z1,rfl,hk1⟩;rotate_left;exact⟨rfl,CiRet.bad (HB.out.rx.trans hk1.out) z1 K1.out⟩;replace HB:=Hd (HB.out.call hr1 hk1);clear hr1 hk1)
  | (go_at_call 103;(with_reducible refine(C1.out z1 _ (Hd HB.out.cd)).mono ?_);rintro e ws1 hh;rcases hh with ⟨z2,o5,c5,rfl,hr1,hk1,how⟩ | ⟨z2,rfl,hk1⟩;rotate_left;exact⟨rfl,CiRet.bad (HB.out.rx.trans hk1.out) z2 K2.out⟩;have HOW:=Hd (own_base how.out HB.out.rx.size);clear how;replace HB:=Hd (HB.out.call hr1 hk1);clear hr1 hk1;obtain⟨⟨y0,y1,y2,y3,y4,y5,y6,y7,y8⟩,yf⟩:=rgCells HB.out.box;have f1:=yf 1;have f5:=yf 5;clear yf))
 obtain⟨V,hV⟩:∃V,V=((ws1.setCell ⟨W1.heap.size,1,none⟩ (.string u0)).setCell ⟨W1.heap.size,5,none⟩ (.slice o5 u1.length c5)):=⟨_,rfl⟩
 have HV:Hid (CB W V b g cap dv ts xb s2 W.heap.size W1.heap.size #[.int .i64 6,.string u0,.int .i64 0,.int .i64 0,.int .i64 0,.slice o5 u1.length c5,.string ⟨#[]⟩,.string ⟨#[]⟩,.int .i64 (P:Int)]):=Hd (by rw[hV];exact((HB.out.set 1 _ rfl).set 5 _ rfl))
 have HO:Hid (V.ownsRow W.heap.size 9 1 (.slice o5 u1.length c5) u1.length (u1.map .string)):=Hd (by rw[hV];exact own_but HOW.out HB.out.box (by decide) (((But.refl _ _).set 1 _).set 5 _))
 rw[←hV,show ws1.heap.size=V.heap.size by rw[hV];simp]
 clear hV HB y0 y1 y2 y3 y4 y5 y6 y7 y8 f1 f5
 refine(CW.out z2 V (Hd HV.out.cd)).mono ?_
 rintro e w5 hh
 rcases hh.two with ⟨z5,rfl,hr5,hk5⟩ | ⟨z5,rfl,hk5⟩
 rotate_left
 ·exact⟨rfl,CiRet.bad (HV.out.rx.trans hk5.out) z5 (Stays.refl _)⟩
 dsimp only
 have HE:=Hd (HV.out.call hr5 hk5)
 obtain⟨⟨y0,y1,y2,y3,y4,y5,y6,y7,y8⟩,_⟩:=rgCells HE.out.box
 obtain⟨⟨q0,q1,q2,q3,q4,q5,q6,q7,q8⟩,qf⟩:=rgCells HE.out.zero
 have g0:=qf 0;have g1:=qf 1;have g2:=qf 2;have g3:=qf 3;have g4:=qf 4;have g5:=qf 5;have g6:=qf 6;have g7:=qf 7;have g8:=qf 8
 clear qf
 go_wp2_with fail
 obtain⟨r1,r2,r3,r4⟩:=HE.out.told (.int .i64 6) (.string u0) (.int .i64 0) (.int .i64 0) (.int .i64 0) (.slice o5 u1.length c5) (.string ⟨#[]⟩) (.string ⟨#[]⟩) (.int .i64 (P:Int))
 obtain⟨⟨x0,x1,x2,x3,x4,x5,x6,x7,x8⟩,_⟩:=rgCells r1
 unfold set9 at x0 x1 x2 x3 x4 x5 x6 x7 x8
 exact bodyPost_ret (v:=.agg #[.int .i64 6,.string u0,.int .i64 0,.int .i64 0,.int .i64 0,.slice o5 u1.length c5,.string ⟨#[]⟩,.string ⟨#[]⟩,.int .i64 (P:Int)]) (by simp[results,Tryz.results89,go_sem,x0,x1,x2,x3,x4,x5,x6,x7,x8]) rfl ⟨r3,.inl ⟨z5,o5,u1.length,c5,rfl,r2,own_but (own_keepT HO.out (by decide) HE.out.hb hk5.out.rk) HE.out.zero (by decide) r4⟩⟩
theorem cit_from (b g cap:Nat) (dv:Value) (ts:List Tok) (xb:Nat→Prop) (f:Nat) (x:RS) (hc:x.code=0) (hi:isS ts [102,114,111,109] x=true) (v2:Int) (l2:List Int) (t2:RS) (hr2:runE ts f .expr (wantS ts [111,110] (nameS ts (wantS ts [46] (nameS ts (stepS x)))))=some (v2,l2,t2)) (W:World) (h:Hid (Cd W b g cap dv ts xb x)) :
  Calls prog 89 #[.pointer (some ⟨b,0,none⟩)] W fun r Y=>CiRet b g cap dv ts xb W { it0 with kind:=7,name:=str (nameV ts (stepS x)),state:=str (nameV ts (wantS ts [46] (nameS ts (stepS x)))),f:=v2,next:=str (nameV ts (wantS ts [103,111,116,111] t2)),pos:=((tokL ts x.at_).at_:Int) } (wantS ts [59] (nameS ts (wantS ts [103,111,116,111] t2))) r Y:=by
 obtain⟨P,hP⟩:∃P,P=(tokL ts x.at_).at_:=⟨_,rfl⟩
 rw[←hP]
 obtain⟨s0,hs0⟩:∃s0,s0=stepS x:=⟨_,rfl⟩
 try rw[←hs0]
 try rw[←hs0] at hr2
 obtain⟨u0,hu0⟩:∃u:ByteArray,u=str (nameV ts s0):=⟨_,rfl⟩
 obtain⟨s1,hs1⟩:∃s1,s1=nameS ts s0:=⟨_,rfl⟩
 try rw[←hu0]
 try rw[←hs1]
 try rw[←hs1] at hr2
 obtain⟨u1,hu1⟩:∃u:ByteArray,u=str (nameV ts (wantS ts [46] s1)):=⟨_,rfl⟩
 obtain⟨s2,hs2⟩:∃s2,s2=nameS ts (wantS ts [46] s1):=⟨_,rfl⟩
 try rw[←hu1]
 try rw[←hs2]
 try rw[←hs2] at hr2
 obtain⟨u2,hu2⟩:∃u:Int,u=v2:=⟨_,rfl⟩
 obtain⟨s3,hs3⟩:∃s3,s3=t2:=⟨_,rfl⟩
 try rw[←hu2]
 try rw[←hs3]
 obtain⟨u3,hu3⟩:∃u:ByteArray,u=str (nameV ts (wantS ts [103,111,116,111] s3)):=⟨_,rfl⟩
 obtain⟨s4,hs4⟩:∃s4,s4=nameS ts (wantS ts [103,111,116,111] s3):=⟨_,rfl⟩
 try rw[←hu3]
 try rw[←hs4]
 obtain⟨sw,hsw⟩:∃sw,sw=wantS ts [59] s4:=⟨_,rfl⟩
 rw[←hsw]
 have K4:Hid (Stays s4 sw):=Hd (by rw[hsw];exact stays_want _ _ _)
 have K3:Hid (Stays s3 sw):=Hd (by have:=(stays_want ts [103,111,116,111] s3).trans (stays_name ts _);rw[←hs4] at this;exact this.trans K4.out)
 have K2:Hid (Stays s2 sw):=Hd (by have:=(stays_want ts [111,110] s2).trans (stuck ts f .expr _ _ hr2);rw[hs3] at K3;exact this.trans K3.out)
 have K1:Hid (Stays s1 sw):=Hd (by have:=(stays_want ts [46] s1).trans (stays_name ts _);rw[←hs2] at this;exact this.trans K2.out)
 have K0:Hid (Stays s0 sw):=Hd (by have:=stays_name ts s0;rw[←hs1] at this;exact this.trans K1.out)
 obtain⟨W1,hW1⟩:∃W1,W1=(W.alloc (.cells #[.int .i64 0,.string ⟨#[]⟩,.int .i64 0,.int .i64 0,.int .i64 0,.slice none 0 0,.string ⟨#[]⟩,.string ⟨#[]⟩,.int .i64 0] 65)).alloc (.cells #[.string ⟨#[108,101,116]⟩] 9):=⟨_,rfl⟩
 have hbe:Below W.heap.size W W1:=by rw[hW1];exact((qB _ _).alloc (qL _) _).alloc (by simp) _
 have hz1:W1.heap[W.heap.size]?=some (.cells itZ 65 (0,0)):=by rw[hW1,heap_alloc_old _ _ (by simp)];exact heap_alloc_new W _
 have H1:Hid (Cd W1 b g cap dv ts xb x):=Hd (h.out.below hbe)
 obtain⟨o,c,⟨c0,c1,c2,c3,fr⟩,hx⟩:=H1.out.cells
 obtain⟨t0,t1,t2,t3⟩:=H1.out.tok
 have hl:=H1.out.at_
 have hbs:=H1.out.size
 have hgs:g<W1.heap.size:=by have:=H1.out.lt;omega
 obtain⟨m,hmm⟩:∃m,m=ts.length-x.at_:=⟨_,rfl⟩
 obtain⟨a4,haa⟩:∃a4,a4=x.at_*4:=⟨_,rfl⟩
 rw[←hmm,←haa] at c0
 rw[←hP,←haa] at t3
 have k0:(0:Int)<(m:Int):=by omega
 have F0:Hid (Calls prog 49 #[.pointer (some ⟨b,0,none⟩),.slice (some ⟨W.heap.size+1,0,none⟩) 1 1] W1 fun r Y=>r=.returned (.bool false)∧W1=Y):=Hd ((fits_any b g cap dv ts xb x (W.heap.size+1) 1 [[108,101,116]] W1 H1 hc (by decide) rfl (by decide) (Hd (by
  rw[hW1,show W.heap.size+1=(W.alloc (.cells #[.int .i64 0,.string ⟨#[]⟩,.int .i64 0,.int .i64 0,.int .i64 0,.slice none 0 0,.string ⟨#[]⟩,.string ⟨#[]⟩,.int .i64 0] 65)).heap.size by simp];exact strs_new _ [[108,101,116]] _))).mono fun r Y hh=>by
  rw[show fitsB ts [[108,101,116]] x=false by unfold fitsB;simp[show isS ts [108,101,116] x=false from isS_one hi (by decide)]] at hh;exact⟨hh.1,hh.2.symm⟩)
 obtain⟨W2,hW2⟩:∃W2,W2=W1.alloc (.cells #[.int .i64 0,.string ⟨#[]⟩,.int .i64 0,.int .i64 0,.int .i64 0,.slice none 0 0,.string ⟨#[]⟩,.string ⟨#[]⟩,.int .i64 (P:Int)] 65):=⟨_,rfl⟩
 have HB:Hid (CB W W2 b g cap dv ts xb x W.heap.size W1.heap.size #[.int .i64 0,.string ⟨#[]⟩,.int .i64 0,.int .i64 0,.int .i64 0,.slice none 0 0,.string ⟨#[]⟩,.string ⟨#[]⟩,.int .i64 (P:Int)]):=Hd (by rw[hW2];exact CB.new2 h.out hbe hz1 _)
 have T0:=tk_no (b:=b) (g:=g) (cap:=cap) (dv:=dv) (xb:=xb) hc [100,101,114] ⟨#[100,101,114]⟩ rfl (by decide) (isS_one hi (by decide))
 have T1:=tk_no (b:=b) (g:=g) (cap:=cap) (dv:=dv) (xb:=xb) hc [114,101,115,101,116] ⟨#[114,101,115,101,116]⟩ rfl (by decide) (isS_one hi (by decide))
 have T2:=tk_no (b:=b) (g:=g) (cap:=cap) (dv:=dv) (xb:=xb) hc [109,101,109] ⟨#[109,101,109]⟩ rfl (by decide) (isS_one hi (by decide))
 have T3:=tk_no (b:=b) (g:=g) (cap:=cap) (dv:=dv) (xb:=xb) hc [111,110] ⟨#[111,110]⟩ rfl (by decide) (isS_one hi (by decide))
 have T4:=tk_no (b:=b) (g:=g) (cap:=cap) (dv:=dv) (xb:=xb) hc [109,111,100,101] ⟨#[109,111,100,101]⟩ rfl (by decide) (isS_one hi (by decide))
 have T5:=tk_yes (b:=b) (g:=g) (cap:=cap) (dv:=dv) (xb:=xb) hc hs0 [102,114,111,109] ⟨#[102,114,111,109]⟩ rfl (by decide) hi
 have z0:s0.code=0:=by rw[hs0];exact hc
 have C0:=st_name (b:=b) (g:=g) (cap:=cap) (dv:=dv) (xb:=xb) hu0 hs1
 have C1:=bh_name (b:=b) (g:=g) (cap:=cap) (dv:=dv) (xb:=xb) [46] ⟨#[46]⟩ rfl (by decide) hu1 hs2
 have C2:=bh_expr (b:=b) (g:=g) (cap:=cap) (dv:=dv) (xb:=xb) [111,110] ⟨#[111,110]⟩ rfl (by decide) hr2 hu2 hs3
 have C3:=bh_name (b:=b) (g:=g) (cap:=cap) (dv:=dv) (xb:=xb) [103,111,116,111] ⟨#[103,111,116,111]⟩ rfl (by decide) hu3 hs4
 have CW:=wt_one (b:=b) (g:=g) (cap:=cap) (dv:=dv) (xb:=xb) [59] ⟨#[59]⟩ rfl (by decide) hsw
 clear hmm haa t0 t1 t2 hl hx c1 c2 c3 fr hP hi hc hsw hbe hz1 hs0 hr2 hu0 hs1 hu1 hs2 hu2 hs3 hu3 hs4
 have z0':=Hd z0
 go_enter Tryz.func89,Tryz.ntmps89
 go_wp2_with (first
  | (go_at_call 49;rw[←hW1];(with_reducible refine F0.out.mono ?_);rintro e w1 ⟨rfl,rfl⟩;clear hW1)
  | (go_at_call 62;rw[←hW2];clear hW2 c0 t3;(with_reducible refine(T0.out _ (Hd HB.out.cd)).mono ?_);rintro e wt0 ⟨rfl,hr1,hk1⟩;replace HB:=Hd (HB.out.call hr1 hk1);clear hr1 hk1)
  | (go_at_call 62;(with_reducible refine(T1.out _ (Hd HB.out.cd)).mono ?_);rintro e wt1 ⟨rfl,hr1,hk1⟩;replace HB:=Hd (HB.out.call hr1 hk1);clear hr1 hk1)
  | (go_at_call 62;(with_reducible refine(T2.out _ (Hd HB.out.cd)).mono ?_);rintro e wt2 ⟨rfl,hr1,hk1⟩;replace HB:=Hd (HB.out.call hr1 hk1);clear hr1 hk1)
  | (go_at_call 62;(with_reducible refine(T3.out _ (Hd HB.out.cd)).mono ?_);rintro e wt3 ⟨rfl,hr1,hk1⟩;replace HB:=Hd (HB.out.call hr1 hk1);clear hr1 hk1)
  | (go_at_call 62;(with_reducible refine(T4.out _ (Hd HB.out.cd)).mono ?_);rintro e wt4 ⟨rfl,hr1,hk1⟩;replace HB:=Hd (HB.out.call hr1 hk1);clear hr1 hk1)
  | (go_at_call 62;(with_reducible refine(T5.out _ (Hd HB.out.cd)).mono ?_);rintro e wt5 ⟨rfl,hr1,hk1⟩;replace HB:=Hd (HB.out.call hr1 hk1);clear hr1 hk1;obtain⟨⟨y0,y1,y2,y3,y4,y5,y6,y7,y8⟩,yf⟩:=rgCells HB.out.box;have f0:=yf 0;clear yf)
  | (go_at_call 63;obtain⟨V0,hV0⟩:∃V0,V0=wt5.setCell ⟨W1.heap.size,0,none⟩ (.int .i64 7):=⟨_,rfl⟩;have HV:Hid (CB W V0 b g cap dv ts xb s0 W.heap.size W1.heap.size #[.int .i64 7,.string ⟨#[]⟩,.int .i64 0,.int .i64 0,.int .i64 0,.slice none 0 0,.string ⟨#[]⟩,.string ⟨#[]⟩,.int .i64 (P:Int)]):=Hd (by rw[hV0];exact HB.out.set 0 _ rfl);clear HB;have HB:=HV;clear HV;rw[←hV0];clear hV0 y0 y1 y2 y3 y4 y5 y6 y7 y8 f0;(with_reducible refine(C0.out z0 _ (Hd HB.out.cd)).mono ?_);rintro e ws0 hh;rcases hh.two with ⟨z1,rfl,hr1,hk1⟩ | ⟨z1,rfl,hk1⟩;rotate_left;exact⟨rfl,CiRet.bad (HB.out.rx.trans hk1.out) z1 K1.out⟩;replace HB:=Hd (HB.out.call hr1 hk1);clear hr1 hk1)
  | (go_at_call 102;(with_reducible refine(C1.out z1 _ (Hd HB.out.cd)).mono ?_);rintro e ws1 hh;rcases hh.two with ⟨z2,rfl,hr1,hk1⟩ | ⟨z2,rfl,hk1⟩;rotate_left;exact⟨rfl,CiRet.bad (HB.out.rx.trans hk1.out) z2 K2.out⟩;replace HB:=Hd (HB.out.call hr1 hk1);clear hr1 hk1)
  | (go_at_call 65;(with_reducible refine(C2.out z2 _ (Hd HB.out.cd)).mono ?_);rintro e ws2 hh;rcases hh.two with ⟨z3,rfl,hr1,hk1⟩ | ⟨z3,rfl,hk1⟩;rotate_left;exact⟨rfl,CiRet.bad (HB.out.rx.trans hk1.out) z3 K3.out⟩;replace HB:=Hd (HB.out.call hr1 hk1);clear hr1 hk1)
  | (go_at_call 102;(with_reducible refine(C3.out z3 _ (Hd HB.out.cd)).mono ?_);rintro e ws3 hh;rcases hh.two with ⟨z4,rfl,hr1,hk1⟩ | ⟨z4,rfl,hk1⟩;rotate_left;exact⟨rfl,CiRet.bad (HB.out.rx.trans hk1.out) z4 K4.out⟩;replace HB:=Hd (HB.out.call hr1 hk1);clear hr1 hk1;obtain⟨⟨y0,y1,y2,y3,y4,y5,y6,y7,y8⟩,yf⟩:=rgCells HB.out.box;have f1:=yf 1;have f6:=yf 6;have f4:=yf 4;have f7:=yf 7;clear yf))
 obtain⟨V,hV⟩:∃V,V=((((ws3.setCell ⟨W1.heap.size,1,none⟩ (.string u0)).setCell ⟨W1.heap.size,6,none⟩ (.string u1)).setCell ⟨W1.heap.size,4,none⟩ (.int .i64 u2)).setCell ⟨W1.heap.size,7,none⟩ (.string u3)):=⟨_,rfl⟩
 have HV:Hid (CB W V b g cap dv ts xb s4 W.heap.size W1.heap.size #[.int .i64 7,.string u0,.int .i64 0,.int .i64 0,.int .i64 u2,.slice none 0 0,.string u1,.string u3,.int .i64 (P:Int)]):=Hd (by rw[hV];exact((((HB.out.set 1 _ rfl).set 6 _ rfl).set 4 _ rfl).set 7 _ rfl))
 rw[←hV,show ws3.heap.size=V.heap.size by rw[hV];simp]
 clear hV HB y0 y1 y2 y3 y4 y5 y6 y7 y8 f1 f6 f4 f7
 refine(CW.out z4 V (Hd HV.out.cd)).mono ?_
 rintro e w5 hh
 rcases hh.two with ⟨z5,rfl,hr5,hk5⟩ | ⟨z5,rfl,hk5⟩
 rotate_left
 ·exact⟨rfl,CiRet.bad (HV.out.rx.trans hk5.out) z5 (Stays.refl _)⟩
 dsimp only
 have HE:=Hd (HV.out.call hr5 hk5)
 obtain⟨⟨y0,y1,y2,y3,y4,y5,y6,y7,y8⟩,_⟩:=rgCells HE.out.box
 obtain⟨⟨q0,q1,q2,q3,q4,q5,q6,q7,q8⟩,qf⟩:=rgCells HE.out.zero
 have g0:=qf 0;have g1:=qf 1;have g2:=qf 2;have g3:=qf 3;have g4:=qf 4;have g5:=qf 5;have g6:=qf 6;have g7:=qf 7;have g8:=qf 8
 clear qf
 go_wp2_with fail
 obtain⟨r1,r2,r3,r4⟩:=HE.out.told (.int .i64 7) (.string u0) (.int .i64 0) (.int .i64 0) (.int .i64 u2) (.slice none 0 0) (.string u1) (.string u3) (.int .i64 (P:Int))
 obtain⟨⟨x0,x1,x2,x3,x4,x5,x6,x7,x8⟩,_⟩:=rgCells r1
 unfold set9 at x0 x1 x2 x3 x4 x5 x6 x7 x8
 exact bodyPost_ret (v:=.agg #[.int .i64 7,.string u0,.int .i64 0,.int .i64 0,.int .i64 u2,.slice none 0 0,.string u1,.string u3,.int .i64 (P:Int)]) (by simp[results,Tryz.results89,go_sem,x0,x1,x2,x3,x4,x5,x6,x7,x8]) rfl ⟨r3,.inl ⟨z5,none,0,0,rfl,r2,qO _ _ _ _⟩⟩
theorem cit_out (b g cap:Nat) (dv:Value) (ts:List Tok) (xb:Nat→Prop) (f:Nat) (x:RS) (hc:x.code=0) (hi:isS ts [111,117,116] x=true) (W:World) (h:Hid (Cd W b g cap dv ts xb x)) :
  Calls prog 89 #[.pointer (some ⟨b,0,none⟩)] W fun r Y=>CiRet b g cap dv ts xb W { it0 with kind:=8,name:=str (nameV ts (stepS x)),pos:=((tokL ts x.at_).at_:Int) } (wantS ts [59] (nameS ts (stepS x))) r Y:=by
 obtain⟨P,hP⟩:∃P,P=(tokL ts x.at_).at_:=⟨_,rfl⟩
 rw[←hP]
 obtain⟨s0,hs0⟩:∃s0,s0=stepS x:=⟨_,rfl⟩
 try rw[←hs0]
 obtain⟨u0,hu0⟩:∃u:ByteArray,u=str (nameV ts s0):=⟨_,rfl⟩
 obtain⟨s1,hs1⟩:∃s1,s1=nameS ts s0:=⟨_,rfl⟩
 try rw[←hu0]
 try rw[←hs1]
 obtain⟨sw,hsw⟩:∃sw,sw=wantS ts [59] s1:=⟨_,rfl⟩
 rw[←hsw]
 have K1:Hid (Stays s1 sw):=Hd (by rw[hsw];exact stays_want _ _ _)
 have K0:Hid (Stays s0 sw):=Hd (by have:=stays_name ts s0;rw[←hs1] at this;exact this.trans K1.out)
 obtain⟨W1,hW1⟩:∃W1,W1=(W.alloc (.cells #[.int .i64 0,.string ⟨#[]⟩,.int .i64 0,.int .i64 0,.int .i64 0,.slice none 0 0,.string ⟨#[]⟩,.string ⟨#[]⟩,.int .i64 0] 65)).alloc (.cells #[.string ⟨#[108,101,116]⟩] 9):=⟨_,rfl⟩
 have hbe:Below W.heap.size W W1:=by rw[hW1];exact((qB _ _).alloc (qL _) _).alloc (by simp) _
 have hz1:W1.heap[W.heap.size]?=some (.cells itZ 65 (0,0)):=by rw[hW1,heap_alloc_old _ _ (by simp)];exact heap_alloc_new W _
 have H1:Hid (Cd W1 b g cap dv ts xb x):=Hd (h.out.below hbe)
 obtain⟨o,c,⟨c0,c1,c2,c3,fr⟩,hx⟩:=H1.out.cells
 obtain⟨t0,t1,t2,t3⟩:=H1.out.tok
 have hl:=H1.out.at_
 have hbs:=H1.out.size
 have hgs:g<W1.heap.size:=by have:=H1.out.lt;omega
 obtain⟨m,hmm⟩:∃m,m=ts.length-x.at_:=⟨_,rfl⟩
 obtain⟨a4,haa⟩:∃a4,a4=x.at_*4:=⟨_,rfl⟩
 rw[←hmm,←haa] at c0
 rw[←hP,←haa] at t3
 have k0:(0:Int)<(m:Int):=by omega
 have F0:Hid (Calls prog 49 #[.pointer (some ⟨b,0,none⟩),.slice (some ⟨W.heap.size+1,0,none⟩) 1 1] W1 fun r Y=>r=.returned (.bool false)∧W1=Y):=Hd ((fits_any b g cap dv ts xb x (W.heap.size+1) 1 [[108,101,116]] W1 H1 hc (by decide) rfl (by decide) (Hd (by
  rw[hW1,show W.heap.size+1=(W.alloc (.cells #[.int .i64 0,.string ⟨#[]⟩,.int .i64 0,.int .i64 0,.int .i64 0,.slice none 0 0,.string ⟨#[]⟩,.string ⟨#[]⟩,.int .i64 0] 65)).heap.size by simp];exact strs_new _ [[108,101,116]] _))).mono fun r Y hh=>by
  rw[show fitsB ts [[108,101,116]] x=false by unfold fitsB;simp[show isS ts [108,101,116] x=false from isS_one hi (by decide)]] at hh;exact⟨hh.1,hh.2.symm⟩)
 obtain⟨W2,hW2⟩:∃W2,W2=W1.alloc (.cells #[.int .i64 0,.string ⟨#[]⟩,.int .i64 0,.int .i64 0,.int .i64 0,.slice none 0 0,.string ⟨#[]⟩,.string ⟨#[]⟩,.int .i64 (P:Int)] 65):=⟨_,rfl⟩
 have HB:Hid (CB W W2 b g cap dv ts xb x W.heap.size W1.heap.size #[.int .i64 0,.string ⟨#[]⟩,.int .i64 0,.int .i64 0,.int .i64 0,.slice none 0 0,.string ⟨#[]⟩,.string ⟨#[]⟩,.int .i64 (P:Int)]):=Hd (by rw[hW2];exact CB.new2 h.out hbe hz1 _)
 have T0:=tk_no (b:=b) (g:=g) (cap:=cap) (dv:=dv) (xb:=xb) hc [100,101,114] ⟨#[100,101,114]⟩ rfl (by decide) (isS_one hi (by decide))
 have T1:=tk_no (b:=b) (g:=g) (cap:=cap) (dv:=dv) (xb:=xb) hc [114,101,115,101,116] ⟨#[114,101,115,101,116]⟩ rfl (by decide) (isS_one hi (by decide))
 have T2:=tk_no (b:=b) (g:=g) (cap:=cap) (dv:=dv) (xb:=xb) hc [109,101,109] ⟨#[109,101,109]⟩ rfl (by decide) (isS_one hi (by decide))
 have T3:=tk_no (b:=b) (g:=g) (cap:=cap) (dv:=dv) (xb:=xb) hc [111,110] ⟨#[111,110]⟩ rfl (by decide) (isS_one hi (by decide))
 have T4:=tk_no (b:=b) (g:=g) (cap:=cap) (dv:=dv) (xb:=xb) hc [109,111,100,101] ⟨#[109,111,100,101]⟩ rfl (by decide) (isS_one hi (by decide))
 have T5:=tk_no (b:=b) (g:=g) (cap:=cap) (dv:=dv) (xb:=xb) hc [102,114,111,109] ⟨#[102,114,111,109]⟩ rfl (by decide) (isS_one hi (by decide))
 have T6:=tk_yes (b:=b) (g:=g) (cap:=cap) (dv:=dv) (xb:=xb) hc hs0 [111,117,116] ⟨#[111,117,116]⟩ rfl (by decide) hi
 have z0:s0.code=0:=by rw[hs0];exact hc
 have C0:=st_name (b:=b) (g:=g) (cap:=cap) (dv:=dv) (xb:=xb) hu0 hs1
 have CW:=wt_one (b:=b) (g:=g) (cap:=cap) (dv:=dv) (xb:=xb) [59] ⟨#[59]⟩ rfl (by decide) hsw
 clear hmm haa t0 t1 t2 hl hx c1 c2 c3 fr hP hi hc hsw hbe hz1 hs0 hu0 hs1
 have z0':=Hd z0
 go_enter Tryz.func89,Tryz.ntmps89
 go_wp2_with (first
  | (go_at_call 49;rw[←hW1];(with_reducible refine F0.out.mono ?_);rintro e w1 ⟨rfl,rfl⟩;clear hW1)
  | (go_at_call 62;rw[←hW2];clear hW2 c0 t3;(with_reducible refine(T0.out _ (Hd HB.out.cd)).mono ?_);rintro e wt0 ⟨rfl,hr1,hk1⟩;replace HB:=Hd (HB.out.call hr1 hk1);clear hr1 hk1)
  | (go_at_call 62;(with_reducible refine(T1.out _ (Hd HB.out.cd)).mono ?_);rintro e wt1 ⟨rfl,hr1,hk1⟩;replace HB:=Hd (HB.out.call hr1 hk1);clear hr1 hk1)
  | (go_at_call 62;(with_reducible refine(T2.out _ (Hd HB.out.cd)).mono ?_);rintro e wt2 ⟨rfl,hr1,hk1⟩;replace HB:=Hd (HB.out.call hr1 hk1);clear hr1 hk1)
  | (go_at_call 62;(with_reducible refine(T3.out _ (Hd HB.out.cd)).mono ?_);rintro e wt3 ⟨rfl,hr1,hk1⟩;replace HB:=Hd (HB.out.call hr1 hk1);clear hr1 hk1)
  | (go_at_call 62;(with_reducible refine(T4.out _ (Hd HB.out.cd)).mono ?_);rintro e wt4 ⟨rfl,hr1,hk1⟩;replace HB:=Hd (HB.out.call hr1 hk1);clear hr1 hk1)
  | (go_at_call 62;(with_reducible refine(T5.out _ (Hd HB.out.cd)).mono ?_);rintro e wt5 ⟨rfl,hr1,hk1⟩;replace HB:=Hd (HB.out.call hr1 hk1);clear hr1 hk1)
  | (go_at_call 62;(with_reducible refine(T6.out _ (Hd HB.out.cd)).mono ?_);rintro e wt6 ⟨rfl,hr1,hk1⟩;replace HB:=Hd (HB.out.call hr1 hk1);clear hr1 hk1;obtain⟨⟨y0,y1,y2,y3,y4,y5,y6,y7,y8⟩,yf⟩:=rgCells HB.out.box;have f0:=yf 0;clear yf)
  | (go_at_call 63;obtain⟨V0,hV0⟩:∃V0,V0=wt6.setCell ⟨W1.heap.size,0,none⟩ (.int .i64 8):=⟨_,rfl⟩;have HV:Hid (CB W V0 b g cap dv ts xb s0 W.heap.size W1.heap.size #[.int .i64 8,.string ⟨#[]⟩,.int .i64 0,.int .i64 0,.int .i64 0,.slice none 0 0,.string ⟨#[]⟩,.string ⟨#[]⟩,.int .i64 (P:Int)]):=Hd (by rw[hV0];exact HB.out.set 0 _ rfl);clear HB;have HB:=HV;clear HV;rw[←hV0];clear hV0 y0 y1 y2 y3 y4 y5 y6 y7 y8 f0;(with_reducible refine(C0.out z0 _ (Hd HB.out.cd)).mono ?_);rintro e ws0 hh;rcases hh.two with ⟨z1,rfl,hr1,hk1⟩ | ⟨z1,rfl,hk1⟩;rotate_left;exact⟨rfl,CiRet.bad (HB.out.rx.trans hk1.out) z1 K1.out⟩;replace HB:=Hd (HB.out.call hr1 hk1);clear hr1 hk1;obtain⟨⟨y0,y1,y2,y3,y4,y5,y6,y7,y8⟩,yf⟩:=rgCells HB.out.box;have f1:=yf 1;clear yf))
 obtain⟨V,hV⟩:∃V,V=(ws0.setCell ⟨W1.heap.size,1,none⟩ (.string u0)):=⟨_,rfl⟩
 have HV:Hid (CB W V b g cap dv ts xb s1 W.heap.size W1.heap.size #[.int .i64 8,.string u0,.int .i64 0,.int .i64 0,.int .i64 0,.slice none 0 0,.string ⟨#[]⟩,.string ⟨#[]⟩,.int .i64 (P:Int)]):=Hd (by rw[hV];exact(HB.out.set 1 _ rfl))
 rw[←hV,show ws0.heap.size=V.heap.size by rw[hV];simp]
 clear hV HB y0 y1 y2 y3 y4 y5 y6 y7 y8 f1
 refine(CW.out z1 V (Hd HV.out.cd)).mono ?_
 rintro e w5 hh
 rcases hh.two with ⟨z5,rfl,hr5,hk5⟩ | ⟨z5,rfl,hk5⟩
 rotate_left
 ·exact⟨rfl,CiRet.bad (HV.out.rx.trans hk5.out) z5 (Stays.refl _)⟩
 dsimp only
 have HE:=Hd (HV.out.call hr5 hk5)
 obtain⟨⟨y0,y1,y2,y3,y4,y5,y6,y7,y8⟩,_⟩:=rgCells HE.out.box
 obtain⟨⟨q0,q1,q2,q3,q4,q5,q6,q7,q8⟩,qf⟩:=rgCells HE.out.zero
 have g0:=qf 0;have g1:=qf 1;have g2:=qf 2;have g3:=qf 3;have g4:=qf 4;have g5:=qf 5;have g6:=qf 6;have g7:=qf 7;have g8:=qf 8
 clear qf
 go_wp2_with fail
 obtain⟨r1,r2,r3,r4⟩:=HE.out.told (.int .i64 8) (.string u0) (.int .i64 0) (.int .i64 0) (.int .i64 0) (.slice none 0 0) (.string ⟨#[]⟩) (.string ⟨#[]⟩) (.int .i64 (P:Int))
 obtain⟨⟨x0,x1,x2,x3,x4,x5,x6,x7,x8⟩,_⟩:=rgCells r1
 unfold set9 at x0 x1 x2 x3 x4 x5 x6 x7 x8
 exact bodyPost_ret (v:=.agg #[.int .i64 8,.string u0,.int .i64 0,.int .i64 0,.int .i64 0,.slice none 0 0,.string ⟨#[]⟩,.string ⟨#[]⟩,.int .i64 (P:Int)]) (by simp[results,Tryz.results89,go_sem,x0,x1,x2,x3,x4,x5,x6,x7,x8]) rfl ⟨r3,.inl ⟨z5,none,0,0,rfl,r2,qO _ _ _ _⟩⟩
theorem cit_let (b g cap:Nat) (dv:Value) (ts:List Tok) (xb:Nat→Prop) (f:Nat) (x:RS) (hc:x.code=0) (hi:isS ts [108,101,116] x=true) (it:It) (τ:RS) (HL:∀W,Hid (Cd W b g cap dv ts xb x)→Calls prog 88 #[.pointer (some ⟨b,0,none⟩)] W fun r Y=>CiRet b g cap dv ts xb W it τ r Y) (W:World) (h:Hid (Cd W b g cap dv ts xb x)) :
  Calls prog 89 #[.pointer (some ⟨b,0,none⟩)] W fun r Y=>CiRet b g cap dv ts xb W it τ r Y:=by
 obtain⟨W1,hW1⟩:∃W1,W1=(W.alloc (.cells #[.int .i64 0,.string ⟨#[]⟩,.int .i64 0,.int .i64 0,.int .i64 0,.slice none 0 0,.string ⟨#[]⟩,.string ⟨#[]⟩,.int .i64 0] 65)).alloc (.cells #[.string ⟨#[108,101,116]⟩] 9):=⟨_,rfl⟩
 have hbe:Below W.heap.size W W1:=by rw[hW1];exact((qB _ _).alloc (qL _) _).alloc (by simp) _
 have hz1:W1.heap[W.heap.size]?=some (.cells itZ 65 (0,0)):=by rw[hW1,heap_alloc_old _ _ (by simp)];exact heap_alloc_new W _
 have H1:Hid (Cd W1 b g cap dv ts xb x):=Hd (h.out.below hbe)
 have F0:Hid (Calls prog 49 #[.pointer (some ⟨b,0,none⟩),.slice (some ⟨W.heap.size+1,0,none⟩) 1 1] W1 fun r Y=>r=.returned (.bool true)∧W1=Y):=Hd ((fits_any b g cap dv ts xb x (W.heap.size+1) 1 [[108,101,116]] W1 H1 hc (by decide) rfl (by decide) (Hd (by
  rw[hW1,show W.heap.size+1=(W.alloc (.cells #[.int .i64 0,.string ⟨#[]⟩,.int .i64 0,.int .i64 0,.int .i64 0,.slice none 0 0,.string ⟨#[]⟩,.string ⟨#[]⟩,.int .i64 0] 65)).heap.size by simp];exact strs_new _ [[108,101,116]] _))).mono fun r Y hh=>by
  rw[show fitsB ts [[108,101,116]] x=true by unfold fitsB;simp[hi]] at hh;exact⟨hh.1,hh.2.symm⟩)
 have L1:=Hd (HL W1 H1)
 have hbs:=h.out.size
 have HX:=Hd (show _∧_∧_ from⟨hbe,hz1,h.out.xlt⟩)
 clear hi hc HL hbe hz1 H1
 go_enter Tryz.func89,Tryz.ntmps89
 go_wp2_with (first
  | (go_at_call 49;rw[←hW1];(with_reducible refine F0.out.mono ?_);rintro e w1 ⟨rfl,rfl⟩;clear hW1)
  | (go_at_call 88;(with_reducible refine L1.out.mono ?_);rintro e w2 hh;rcases hh with ⟨hk,⟨z,so,sn,sc,rfl,hr,how⟩ | ⟨z,rfl⟩⟩;rotate_left;exact⟨rfl,(RX.of_below HX.out.1 (ql hbs) HX.out.2.2).trans hk,.inr ⟨z,rfl⟩⟩;have HK:=Hd hk;have HR:=Hd hr;have HO:=Hd how;have HZ:=Hd (hk.keep _ _ HX.out.2.1 (by omega) (.of (by decide)));clear hk hr how;obtain⟨⟨q0,q1,q2,q3,q4,q5,q6,q7,q8⟩,qf⟩:=rgCells HZ.out;have g0:=qf 0;have g1:=qf 1;have g2:=qf 2;have g3:=qf 3;have g4:=qf 4;have g5:=qf 5;have g6:=qf 6;have g7:=qf 7;have g8:=qf 8;clear qf;unfold itC))
 have hbut:=set9_but w2 W.heap.size (.int .i64 it.kind) (.string it.name) (.int .i64 it.type) (.int .i64 it.e) (.int .i64 it.f) (.slice so sn sc) (.string it.state) (.string it.next) (.int .i64 it.pos)
 obtain⟨⟨x0,x1,x2,x3,x4,x5,x6,x7,x8⟩,_⟩:=rgCells (set9_box HZ.out (.int .i64 it.kind) (.string it.name) (.int .i64 it.type) (.int .i64 it.e) (.int .i64 it.f) (.slice so sn sc) (.string it.state) (.string it.next) (.int .i64 it.pos))
 unfold set9 at x0 x1 x2 x3 x4 x5 x6 x7 x8
 exact bodyPost_ret (v:=.agg (itC it (.slice so sn sc))) (by unfold itC;simp[results,Tryz.results89,go_sem,x0,x1,x2,x3,x4,x5,x6,x7,x8]) rfl ⟨((RX.of_below HX.out.1 (ql hbs) HX.out.2.2).trans HK.out).but HX.out.2.2 (qL _) hbs hbs hbut,.inl ⟨z,so,sn,sc,rfl,HR.out.but HZ.out (by decide) (by decide) hbs hbut,own_but (own_base HO.out HX.out.1.size) HZ.out (by decide) hbut⟩⟩
theorem cit_none (b g cap:Nat) (dv:Value) (ts:List Tok) (xb:Nat→Prop) (x:RS) (hc:x.code=0) (hi:isS ts [108,101,116] x=false) (h0:isS ts [100,101,114] x=false) (h1:isS ts [114,101,115,101,116] x=false) (h2:isS ts [109,101,109] x=false) (h3:isS ts [111,110] x=false) (h4:isS ts [109,111,100,101] x=false) (h5:isS ts [102,114,111,109] x=false) (h6:isS ts [111,117,116] x=false) (W:World) (h:Hid (Cd W b g cap dv ts xb x)) :
  Calls prog 89 #[.pointer (some ⟨b,0,none⟩)] W fun r Y=>CdBad b xb W 2 ((tokL ts x.at_).at_:Int) r Y:=by
 obtain⟨P,hP⟩:∃P,P=(tokL ts x.at_).at_:=⟨_,rfl⟩
 rw[←hP]
 obtain⟨W1,hW1⟩:∃W1,W1=(W.alloc (.cells #[.int .i64 0,.string ⟨#[]⟩,.int .i64 0,.int .i64 0,.int .i64 0,.slice none 0 0,.string ⟨#[]⟩,.string ⟨#[]⟩,.int .i64 0] 65)).alloc (.cells #[.string ⟨#[108,101,116]⟩] 9):=⟨_,rfl⟩
 have hbe:Below W.heap.size W W1:=by rw[hW1];exact((qB _ _).alloc (qL _) _).alloc (by simp) _
 have hz1:W1.heap[W.heap.size]?=some (.cells itZ 65 (0,0)):=by rw[hW1,heap_alloc_old _ _ (by simp)];exact heap_alloc_new W _
 have H1:Hid (Cd W1 b g cap dv ts xb x):=Hd (h.out.below hbe)
 obtain⟨o,c,⟨c0,c1,c2,c3,fr⟩,hx⟩:=H1.out.cells
 obtain⟨t0,t1,t2,t3⟩:=H1.out.tok
 have hl:=H1.out.at_
 have hbs:=H1.out.size
 have hgs:g<W1.heap.size:=by have:=H1.out.lt;omega
 obtain⟨m,hmm⟩:∃m,m=ts.length-x.at_:=⟨_,rfl⟩
 obtain⟨a4,haa⟩:∃a4,a4=x.at_*4:=⟨_,rfl⟩
 rw[←hmm,←haa] at c0
 rw[←hP,←haa] at t3
 have k0:(0:Int)<(m:Int):=by omega
 have F0:Hid (Calls prog 49 #[.pointer (some ⟨b,0,none⟩),.slice (some ⟨W.heap.size+1,0,none⟩) 1 1] W1 fun r Y=>r=.returned (.bool false)∧W1=Y):=Hd ((fits_any b g cap dv ts xb x (W.heap.size+1) 1 [[108,101,116]] W1 H1 hc (by decide) rfl (by decide) (Hd (by
  rw[hW1,show W.heap.size+1=(W.alloc (.cells #[.int .i64 0,.string ⟨#[]⟩,.int .i64 0,.int .i64 0,.int .i64 0,.slice none 0 0,.string ⟨#[]⟩,.string ⟨#[]⟩,.int .i64 0] 65)).heap.size by simp];exact strs_new _ [[108,101,116]] _))).mono fun r Y hh=>by
  rw[show fitsB ts [[108,101,116]] x=false by unfold fitsB;simp[hi]] at hh;exact⟨hh.1,hh.2.symm⟩)
 obtain⟨W2,hW2⟩:∃W2,W2=W1.alloc (.cells #[.int .i64 0,.string ⟨#[]⟩,.int .i64 0,.int .i64 0,.int .i64 0,.slice none 0 0,.string ⟨#[]⟩,.string ⟨#[]⟩,.int .i64 (P:Int)] 65):=⟨_,rfl⟩
 have HB:Hid (CB W W2 b g cap dv ts xb x W.heap.size W1.heap.size #[.int .i64 0,.string ⟨#[]⟩,.int .i64 0,.int .i64 0,.int .i64 0,.slice none 0 0,.string ⟨#[]⟩,.string ⟨#[]⟩,.int .i64 (P:Int)]):=Hd (by rw[hW2];exact CB.new2 h.out hbe hz1 _)
 have T0:=tk_no (b:=b) (g:=g) (cap:=cap) (dv:=dv) (xb:=xb) hc [100,101,114] ⟨#[100,101,114]⟩ rfl (by decide) h0
 have T1:=tk_no (b:=b) (g:=g) (cap:=cap) (dv:=dv) (xb:=xb) hc [114,101,115,101,116] ⟨#[114,101,115,101,116]⟩ rfl (by decide) h1
 have T2:=tk_no (b:=b) (g:=g) (cap:=cap) (dv:=dv) (xb:=xb) hc [109,101,109] ⟨#[109,101,109]⟩ rfl (by decide) h2
 have T3:=tk_no (b:=b) (g:=g) (cap:=cap) (dv:=dv) (xb:=xb) hc [111,110] ⟨#[111,110]⟩ rfl (by decide) h3
 have T4:=tk_no (b:=b) (g:=g) (cap:=cap) (dv:=dv) (xb:=xb) hc [109,111,100,101] ⟨#[109,111,100,101]⟩ rfl (by decide) h4
 have T5:=tk_no (b:=b) (g:=g) (cap:=cap) (dv:=dv) (xb:=xb) hc [102,114,111,109] ⟨#[102,114,111,109]⟩ rfl (by decide) h5
 have T6:=tk_no (b:=b) (g:=g) (cap:=cap) (dv:=dv) (xb:=xb) hc [111,117,116] ⟨#[111,117,116]⟩ rfl (by decide) h6
 have RF:Hid (∀W,Hid (Cd W b g cap dv ts xb x)→Calls prog 60 #[.pointer (some ⟨b,0,none⟩),.int .i64 2] W fun r Y=>r=.returned (.agg #[.int .i64 2,.int .i64 (P:Int)])∧Hid (Below W.heap.size W Y)):=Hd fun W h=>(refusal_any b g cap dv ts xb x 2 W h).mono fun r Y hh=>by rw[hP];exact⟨hh.1,Hd hh.2⟩
 clear hmm haa t0 t1 t2 hl hx c1 c2 c3 fr hP hi hc hbe hz1 h0 h1 h2 h3 h4 h5 h6
 go_enter Tryz.func89,Tryz.ntmps89
 go_wp2_with (first
  | (go_at_call 49;rw[←hW1];(with_reducible refine F0.out.mono ?_);rintro e w1 ⟨rfl,rfl⟩;clear hW1)
  | (go_at_call 62;rw[←hW2];clear hW2 c0 t3;(with_reducible refine(T0.out _ (Hd HB.out.cd)).mono ?_);rintro e wt0 ⟨rfl,hr1,hk1⟩;replace HB:=Hd (HB.out.call hr1 hk1);clear hr1 hk1)
  | (go_at_call 62;(with_reducible refine(T1.out _ (Hd HB.out.cd)).mono ?_);rintro e wt1 ⟨rfl,hr1,hk1⟩;replace HB:=Hd (HB.out.call hr1 hk1);clear hr1 hk1)
  | (go_at_call 62;(with_reducible refine(T2.out _ (Hd HB.out.cd)).mono ?_);rintro e wt2 ⟨rfl,hr1,hk1⟩;replace HB:=Hd (HB.out.call hr1 hk1);clear hr1 hk1)
  | (go_at_call 62;(with_reducible refine(T3.out _ (Hd HB.out.cd)).mono ?_);rintro e wt3 ⟨rfl,hr1,hk1⟩;replace HB:=Hd (HB.out.call hr1 hk1);clear hr1 hk1)
  | (go_at_call 62;(with_reducible refine(T4.out _ (Hd HB.out.cd)).mono ?_);rintro e wt4 ⟨rfl,hr1,hk1⟩;replace HB:=Hd (HB.out.call hr1 hk1);clear hr1 hk1)
  | (go_at_call 62;(with_reducible refine(T5.out _ (Hd HB.out.cd)).mono ?_);rintro e wt5 ⟨rfl,hr1,hk1⟩;replace HB:=Hd (HB.out.call hr1 hk1);clear hr1 hk1)
  | (go_at_call 62;(with_reducible refine(T6.out _ (Hd HB.out.cd)).mono ?_);rintro e wt6 ⟨rfl,hr1,hk1⟩;replace HB:=Hd (HB.out.call hr1 hk1);clear hr1 hk1)
  | (go_at_call 60;(with_reducible refine(RF.out _ (Hd HB.out.cd)).mono ?_);rintro e w3 ⟨rfl,hb3⟩))
 exact⟨rfl,rfl,Hd (HB.out.rx.trans (RX.of_below hb3.out (ql HB.out.cd.size) HB.out.cd.xlt))⟩
def ItDoes (b g cap:Nat) (dv:Value) (ts:List Tok) (xb:Nat→Prop) (F:Nat) (σ:RS) (it:It) (ok:Bool) (τ:RS):Prop :=
 (ok=decide (τ.code=0)∧Stays σ τ∧∀W,Hid (Cd W b g cap dv ts xb σ)→Calls prog F #[.pointer (some ⟨b,0,none⟩)] W fun r Y=>CiRet b g cap dv ts xb W it τ r Y) ∨
 (ok=false∧τ=σ∧∀W,Hid (Cd W b g cap dv ts xb σ)→Calls prog F #[.pointer (some ⟨b,0,none⟩)] W fun r Y=>CdBad b xb W 2 ((tokL ts σ.at_).at_:Int) r Y)
theorem clet_does (b g cap:Nat) (dv:Value) (ts:List Tok) (xb:Nat→Prop) (f:Nat) (σ:RS) (hc:σ.code=0) (hi:isS ts [108,101,116] σ=true) (all:Bool) (it:It) (ok:Bool) (τ:RS) (hr:itemS ts f all σ=some (it,ok,τ)) :
  ok=decide (τ.code=0)∧Stays σ τ∧∀W,Hid (Cd W b g cap dv ts xb σ)→Calls prog 88 #[.pointer (some ⟨b,0,none⟩)] W fun r Y=>CiRet b g cap dv ts xb W it τ r Y:=by
 unfold itemS at hr
 rw[if_pos hi] at hr
 unfold iLet at hr
 obtain⟨v,l,s5,h1,hr⟩:=exprS_bind hr
 cases hr
 exact⟨rfl,fun h=>absurd hc h,fun W h=>clet_any b g cap dv ts xb f σ hc hi v l s5 h1 W h⟩
theorem citem_does (b g cap:Nat) (dv:Value) (ts:List Tok) (xb:Nat→Prop) (f:Nat) (σ:RS) (hc:σ.code=0) (it:It) (ok:Bool) (τ:RS) (hr:itemS ts f true σ=some (it,ok,τ)) :
  ItDoes b g cap dv ts xb 89 σ it ok τ:=by
 have hst:∀υ:RS,Stays σ υ:=fun υ h=>absurd hc h
 by_cases hl:isS ts [108,101,116] σ=true
 ·obtain⟨h1,h2,h3⟩:=clet_does b g cap dv ts xb f σ hc hl true it ok τ hr
  exact .inl ⟨h1,h2,fun W h=>cit_let b g cap dv ts xb f σ hc hl it τ h3 W h⟩
 have hl':=Bool.eq_false_iff.2 hl
 unfold itemS at hr
 rw[if_neg hl,if_pos rfl] at hr
 split at hr
 ·rename_i hi
  unfold iDer at hr
  obtain⟨v1,l1,t1,h1,hr⟩:=exprS_bind hr
  obtain⟨v2,l2,t2,h2,hr⟩:=exprS_bind hr
  cases hr
  exact .inl ⟨rfl,hst _,fun W h=>cit_der b g cap dv ts xb f σ hc hi v1 l1 t1 h1 v2 l2 t2 h2 W h⟩
 rename_i n1
 split at hr
 ·rename_i hi
  unfold iReset at hr
  obtain⟨v1,l1,t1,h1,hr⟩:=exprS_bind hr
  obtain⟨v2,l2,t2,h2,hr⟩:=exprS_bind hr
  cases hr
  exact .inl ⟨rfl,hst _,fun W h=>cit_reset b g cap dv ts xb f σ hc hi v1 l1 t1 h1 v2 l2 t2 h2 W h⟩
 rename_i n2
 split at hr
 ·rename_i hi
  unfold iMem at hr
  obtain⟨v2,l2,t2,h2,hr⟩:=exprS_bind hr
  cases hr
  exact .inl ⟨rfl,hst _,fun W h=>cit_mem b g cap dv ts xb f σ hc hi v2 l2 t2 h2 W h⟩
 rename_i n3
 split at hr
 ·rename_i hi
  unfold iOn at hr
  obtain⟨v1,l1,t1,h1,hr⟩:=exprS_bind hr
  obtain⟨v2,l2,t2,h2,hr⟩:=exprS_bind hr
  cases hr
  exact .inl ⟨rfl,hst _,fun W h=>cit_on b g cap dv ts xb f σ hc hi v1 l1 t1 h1 v2 l2 t2 h2 W h⟩
 rename_i n4
 split at hr
 ·rename_i hi
  unfold iMode at hr
  obtain⟨⟨L,t1⟩,h1,hr⟩:=Option.bind_eq_some_iff.1 hr
  cases hr
  exact .inl ⟨rfl,hst _,fun W h=>cit_mode b g cap dv ts xb f σ hc hi L t1 h1 W h⟩
 rename_i n5
 split at hr
 ·rename_i hi
  unfold iFrom at hr
  obtain⟨v1,l1,t1,h1,hr⟩:=exprS_bind hr
  cases hr
  exact .inl ⟨rfl,hst _,fun W h=>cit_from b g cap dv ts xb f σ hc hi v1 l1 t1 h1 W h⟩
 rename_i n6
 split at hr
 ·rename_i hi
  unfold iOut at hr
  cases hr
  exact .inl ⟨rfl,hst _,fun W h=>cit_out b g cap dv ts xb f σ hc hi W h⟩
 rename_i n7
 cases hr
 exact .inr ⟨rfl,rfl,fun W h=>cit_none b g cap dv ts xb σ hc hl' (Bool.eq_false_iff.2 n1) (Bool.eq_false_iff.2 n2) (Bool.eq_false_iff.2 n3) (Bool.eq_false_iff.2 n4) (Bool.eq_false_iff.2 n5) (Bool.eq_false_iff.2 n6) (Bool.eq_false_iff.2 n7) W h⟩
theorem itemS_end {ts:List Tok} {f:Nat} {all:Bool} {σ:RS} (h:isS ts [125] σ=true):itemS ts f all σ=some ({ it0 with pos:=((tokL ts σ.at_).at_:Int) },false,σ):=by
 have n:∀s:List UInt8,[125]≠s→¬isS ts s σ=true:=fun s hs e=>by rw[isS_one h hs] at e;cases e
 unfold itemS
 rw[if_neg (n _ (by decide)),if_neg (n _ (by decide)),if_neg (n _ (by decide)),if_neg (n _ (by decide)),if_neg (n _ (by decide)),if_neg (n _ (by decide)),if_neg (n _ (by decide)),if_neg (n _ (by decide))]
 split <;> rfl
theorem itemS_let {ts:List Tok} {f:Nat} {σ:RS} (h:isS ts [108,101,116] σ=false):itemS ts f false σ=some ({ it0 with pos:=((tokL ts σ.at_).at_:Int) },false,σ):=by
 unfold itemS
 rw[if_neg (by rw[h];decide),if_neg (by decide)]
end Go.Proofs.YtpfmlfcaadnnpaaGreatDoor
