import Derived.Test.YtlbhlncipajapaaGreatDoorPt26
set_option maxHeartbeats 16000000
set_option maxRecDepth 100000
set_option linter.unusedVariables false
open Go.Proofs.Tryz(prog)
namespace Go.Proofs.YtlbhlncipajapaaGreatDoor
open Go.RowKit Lx
theorem tk_no {b g cap:Nat} {dv:Value} {ts:List Tok} {xb:Nat→Prop} {x:RS} (hc:x.code=0) (s:List UInt8) (S:ByteArray) (hS:S=str s) (hs:s ∈ sgL) (hi:isS ts s x=false) :
  Hid (∀W,Hid (Cd W b g cap dv ts xb x)→Calls prog 62 #[.pointer (some ⟨b,0,none⟩),.string S] W fun r Y=>r=.returned (.bool false)∧Hid (Cd Y b g cap dv ts xb x)∧Hid (RX b xb W Y)):=Hd fun W h=>by
 rw[hS]
 exact(takes_any b g cap dv ts xb x s W h hc hs).mono fun r Y hh=>by unfold TakesRet tookS at hh;rw[hi] at hh;exact hh
theorem tk_yes {b g cap:Nat} {dv:Value} {ts:List Tok} {xb:Nat→Prop} {x y:RS} (hc:x.code=0) (hy:y=stepS x) (s:List UInt8) (S:ByteArray) (hS:S=str s) (hs:s ∈ sgL) (hi:isS ts s x=true) :
  Hid (∀W,Hid (Cd W b g cap dv ts xb x)→Calls prog 62 #[.pointer (some ⟨b,0,none⟩),.string S] W fun r Y=>r=.returned (.bool true)∧Hid (Cd Y b g cap dv ts xb y)∧Hid (RX b xb W Y)):=Hd fun W h=>by
 rw[hS,hy]
 exact(takes_any b g cap dv ts xb x s W h hc hs).mono fun r Y hh=>by unfold TakesRet tookS at hh;rw[hi] at hh;exact hh
theorem st_name {b g cap:Nat} {dv:Value} {ts:List Tok} {xb:Nat→Prop} {x y:RS} {u:ByteArray} (hu:u=str (nameV ts x)) (hy:y=nameS ts x) :
  Hid (x.code=0→∀W,Hid (Cd W b g cap dv ts xb x)→Calls prog 63 #[.pointer (some ⟨b,0,none⟩)] W fun r Y=>CdRet b g cap dv ts xb W (.string u) y r Y):=Hd fun z W h=>by
 rw[hu,hy];exact cname_any b g cap dv ts xb _ W h z
theorem st_expr {b g cap:Nat} {dv:Value} {ts:List Tok} {xb:Nat→Prop} {f:Nat} {x y t:RS} {u v:Int} {l:List Int} (hr:runE ts f .expr x=some (v,l,t)) (hu:u=v) (hy:y=t) :
  Hid (x.code=0→∀W,Hid (Cd W b g cap dv ts xb x)→Calls prog 26 #[.pointer (some ⟨b,0,none⟩)] W fun r Y=>CdRet b g cap dv ts xb W (.int .i64 u) y r Y):=Hd fun z W h=>by
 rw[hu,hy];exact(all_rules b g cap dv ts f xb).expr _ _ _ _ z hr W h
theorem bh_name {b g cap:Nat} {dv:Value} {ts:List Tok} {xb:Nat→Prop} {x y:RS} {u:ByteArray} (s:List UInt8) (S:ByteArray) (hS:S=str s) (hs:s ∈ sgL) (hu:u=str (nameV ts (wantS ts s x))) (hy:y=nameS ts (wantS ts s x)) :
  Hid (x.code=0→∀W,Hid (Cd W b g cap dv ts xb x)→Calls prog 102 #[.pointer (some ⟨b,0,none⟩),.string S,.func (.func 63) #[.pointer (some ⟨b,0,none⟩)] #[]] W fun r Y=>CdRet b g cap dv ts xb W (.string u) y r Y):=Hd fun z W h=>by
 rw[hS,hu,hy];exact behind_name b g cap dv ts xb _ s W h z hs
theorem bh_types {b g cap:Nat} {dv:Value} {ts:List Tok} {xb:Nat→Prop} {x y:RS} {u:Int} (s:List UInt8) (S:ByteArray) (hS:S=str s) (hs:s ∈ sgL) (hu:u=kindV ts (wantS ts s x)) (hy:y=kindS ts (wantS ts s x)) :
  Hid (x.code=0→∀W,Hid (Cd W b g cap dv ts xb x)→Calls prog 65 #[.pointer (some ⟨b,0,none⟩),.string S,.func (.func 66) #[.pointer (some ⟨b,0,none⟩)] #[]] W fun r Y=>CdRet b g cap dv ts xb W (.int .i64 u) y r Y):=Hd fun z W h=>by
 rw[hS,hu,hy];exact behind_types b g cap dv ts xb _ s W h z hs
theorem bh_expr {b g cap:Nat} {dv:Value} {ts:List Tok} {xb:Nat→Prop} {f:Nat} {x y t:RS} {u v:Int} {l:List Int} (s:List UInt8) (S:ByteArray) (hS:S=str s) (hs:s ∈ sgL) (hr:runE ts f .expr (wantS ts s x)=some (v,l,t)) (hu:u=v) (hy:y=t) :
  Hid (x.code=0→∀W,Hid (Cd W b g cap dv ts xb x)→Calls prog 65 #[.pointer (some ⟨b,0,none⟩),.string S,.func (.func 26) #[.pointer (some ⟨b,0,none⟩)] #[]] W fun r Y=>CdRet b g cap dv ts xb W (.int .i64 u) y r Y):=Hd fun z W h=>by
 rw[hS,hu,hy];exact behind_rule b g cap dv ts xb _ f .expr enters_expr (all_rules b g cap dv ts f xb).expr _ z s hs _ _ _ hr W h
theorem wt_one {b g cap:Nat} {dv:Value} {ts:List Tok} {xb:Nat→Prop} {x y:RS} (s:List UInt8) (S:ByteArray) (hS:S=str s) (hs:s ∈ sgL) (hy:y=wantS ts s x) :
  Hid (x.code=0→∀W,Hid (Cd W b g cap dv ts xb x)→Calls prog 67 #[.pointer (some ⟨b,0,none⟩),.slice (some ⟨W.heap.size,0,none⟩) 1 1] (W.alloc (.cells #[.string S] 9)) fun r Y=>CdRet b g cap dv ts xb W (.tuple #[]) y r Y):=Hd fun z W h=>by
 rw[hS,hy];exact wants_one b g cap dv ts xb _ s W h z hs
theorem cit_der (b g cap:Nat) (dv:Value) (ts:List Tok) (xb:Nat→Prop) (f:Nat) (x:RS) (hc:x.code=0) (hi:isS ts [100,101,114] x=true) (v1:Int) (l1:List Int) (t1:RS) (hr1:runE ts f .expr (wantS ts [61] (nameS ts (stepS x)))=some (v1,l1,t1)) (v2:Int) (l2:List Int) (t2:RS) (hr2:runE ts f .expr (wantS ts [105,110,105,116] t1)=some (v2,l2,t2)) (W:World) (h:Hid (Cd W b g cap dv ts xb x)) :
  Calls prog 89 #[.pointer (some ⟨b,0,none⟩)] W fun r Y=>CiRet b g cap dv ts xb W { it0 with kind:=2,name:=str (nameV ts (stepS x)),e:=v1,f:=v2,pos:=((tokL ts x.at_).at_:Int) } (wantS ts [59] t2) r Y:=by
 obtain⟨P,hP⟩:∃P,P=(tokL ts x.at_).at_:=⟨_,rfl⟩
 rw[←hP]
 obtain⟨s0,hs0⟩:∃s0,s0=stepS x:=⟨_,rfl⟩
 try rw[←hs0]
 try rw[←hs0] at hr1
 obtain⟨u0,hu0⟩:∃u:ByteArray,u=str (nameV ts s0):=⟨_,rfl⟩
 obtain⟨s1,hs1⟩:∃s1,s1=nameS ts s0:=⟨_,rfl⟩
 try rw[←hu0]
 try rw[←hs1]
 try rw[←hs1] at hr1
 obtain⟨u1,hu1⟩:∃u:Int,u=v1:=⟨_,rfl⟩
 obtain⟨s2,hs2⟩:∃s2,s2=t1:=⟨_,rfl⟩
 try rw[←hu1]
 try rw[←hs2]
 try rw[←hs2] at hr2
 obtain⟨u2,hu2⟩:∃u:Int,u=v2:=⟨_,rfl⟩
 obtain⟨s3,hs3⟩:∃s3,s3=t2:=⟨_,rfl⟩
 try rw[←hu2]
 try rw[←hs3]
 obtain⟨sw,hsw⟩:∃sw,sw=wantS ts [59] s3:=⟨_,rfl⟩
 rw[←hsw]
 have K3:Hid (Stays s3 sw):=Hd (by rw[hsw];exact stays_want _ _ _)
 have K2:Hid (Stays s2 sw):=Hd (by have:=(stays_want ts [105,110,105,116] s2).trans (stuck ts f .expr _ _ hr2);rw[hs3] at K3;exact this.trans K3.out)
 have K1:Hid (Stays s1 sw):=Hd (by have:=(stays_want ts [61] s1).trans (stuck ts f .expr _ _ hr1);rw[hs2] at K2;exact this.trans K2.out)
 have K0:Hid (Stays s0 sw):=Hd (by have:=stays_name ts s0;rw[←hs1] at this;exact this.trans K1.out)
 obtain⟨W1,hW1⟩:∃W1,W1=(W.alloc (.cells #[.int .i64 0,.string ⟨#[]⟩,.int .i64 0,.int .i64 0,.int .i64 0,.slice none 0 0,.string ⟨#[]⟩,.string ⟨#[]⟩,.int .i64 0] 65)).alloc (.cells #[.string ⟨#[108,101,116]⟩] 9):=⟨_,rfl⟩
 have hbe:Below W.heap.size W W1:=by rw[hW1];exact((qB _ _).alloc (qL _) _).alloc (by simp) _
 have hz1:W1.heap[W.heap.size]?=some (.cells itZ 65 (0,0)):=by rw[hW1,heap_alloc_old _ _ (by simp)];exact heap_alloc_new W _
 have H1:Hid (Cd W1 b g cap dv ts xb x):=Hd (h.out.below hbe)
 obtain⟨o,c,⟨c0,c1,c2,c3,fr⟩,hx⟩:=H1.out.cells
 obtain⟨t0,t1,t2,t3⟩:=H1.out.tok
 have hl:=H1.out.at_
 have hbs:=H1.out.size
 have hgs:g<W1.heap.size:=by have:=H1.out.lt;omega
 obtain⟨m,hmm⟩:∃m,m=ts.length-x.at_:=⟨_,rfl⟩
 obtain⟨a4,haa⟩:∃a4,a4=x.at_*4:=⟨_,rfl⟩
 rw[←hmm,←haa] at c0
 rw[←hP,←haa] at t3
 have k0:(0:Int)<(m:Int):=by omega
 have F0:Hid (Calls prog 49 #[.pointer (some ⟨b,0,none⟩),.slice (some ⟨W.heap.size+1,0,none⟩) 1 1] W1 fun r Y=>r=.returned (.bool false)∧W1=Y):=Hd ((fits_any b g cap dv ts xb x (W.heap.size+1) 1 [[108,101,116]] W1 H1 hc (by decide) rfl (by decide) (Hd (by
  rw[hW1,show W.heap.size+1=(W.alloc (.cells #[.int .i64 0,.string ⟨#[]⟩,.int .i64 0,.int .i64 0,.int .i64 0,.slice none 0 0,.string ⟨#[]⟩,.string ⟨#[]⟩,.int .i64 0] 65)).heap.size by simp];exact strs_new _ [[108,101,116]] _))).mono fun r Y hh=>by
  rw[show fitsB ts [[108,101,116]] x=false by unfold fitsB;simp[show isS ts [108,101,116] x=false from isS_one hi (by decide)]] at hh;exact⟨hh.1,hh.2.symm⟩)
 obtain⟨W2,hW2⟩:∃W2,W2=W1.alloc (.cells #[.int .i64 0,.string ⟨#[]⟩,.int .i64 0,.int .i64 0,.int .i64 0,.slice none 0 0,.string ⟨#[]⟩,.string ⟨#[]⟩,.int .i64 (P:Int)] 65):=⟨_,rfl⟩
 have HB:Hid (CB W W2 b g cap dv ts xb x W.heap.size W1.heap.size #[.int .i64 0,.string ⟨#[]⟩,.int .i64 0,.int .i64 0,.int .i64 0,.slice none 0 0,.string ⟨#[]⟩,.string ⟨#[]⟩,.int .i64 (P:Int)]):=Hd (by rw[hW2];exact CB.new2 h.out hbe hz1 _)
 have T0:=tk_yes (b:=b) (g:=g) (cap:=cap) (dv:=dv) (xb:=xb) hc hs0 [100,101,114] ⟨#[100,101,114]⟩ rfl (by decide) hi
 have z0:s0.code=0:=by rw[hs0];exact hc
 have C0:=st_name (b:=b) (g:=g) (cap:=cap) (dv:=dv) (xb:=xb) hu0 hs1
 have C1:=bh_expr (b:=b) (g:=g) (cap:=cap) (dv:=dv) (xb:=xb) [61] ⟨#[61]⟩ rfl (by decide) hr1 hu1 hs2
 have C2:=bh_expr (b:=b) (g:=g) (cap:=cap) (dv:=dv) (xb:=xb) [105,110,105,116] ⟨#[105,110,105,116]⟩ rfl (by decide) hr2 hu2 hs3
 have CW:=wt_one (b:=b) (g:=g) (cap:=cap) (dv:=dv) (xb:=xb) [59] ⟨#[59]⟩ rfl (by decide) hsw
 clear hmm haa t0 t1 t2 hl hx c1 c2 c3 fr hP hi hc hsw hbe hz1 hs0 hr1 hr2 hu0 hs1 hu1 hs2 hu2 hs3
 have z0':=Hd z0
 go_enter Tryz.func89,Tryz.ntmps89
 go_wp2_with (first
  | (go_at_call 49;rw[←hW1];(with_reducible refine F0.out.mono ?_);rintro e w1 ⟨rfl,rfl⟩;clear hW1)
  | (go_at_call 62;rw[←hW2];clear hW2 c0 t3;(with_reducible refine(T0.out _ (Hd HB.out.cd)).mono ?_);rintro e wt0 ⟨rfl,hr1,hk1⟩;replace HB:=Hd (HB.out.call hr1 hk1);clear hr1 hk1;obtain⟨⟨y0,y1,y2,y3,y4,y5,y6,y7,y8⟩,yf⟩:=rgCells HB.out.box;have f0:=yf 0;clear yf)
  | (go_at_call 63;obtain⟨V0,hV0⟩:∃V0,V0=wt0.setCell ⟨W1.heap.size,0,none⟩ (.int .i64 2):=⟨_,rfl⟩;have HV:Hid (CB W V0 b g cap dv ts xb s0 W.heap.size W1.heap.size #[.int .i64 2,.string ⟨#[]⟩,.int .i64 0,.int .i64 0,.int .i64 0,.slice none 0 0,.string ⟨#[]⟩,.string ⟨#[]⟩,.int .i64 (P:Int)]):=Hd (by rw[hV0];exact HB.out.set 0 _ rfl);clear HB;have HB:=HV;clear HV;rw[←hV0];clear hV0 y0 y1 y2 y3 y4 y5 y6 y7 y8 f0;(with_reducible refine(C0.out z0 _ (Hd HB.out.cd)).mono ?_);rintro e ws0 hh;rcases hh.two with ⟨z1,rfl,hr1,hk1⟩ | ⟨z1,rfl,hk1⟩;rotate_left;exact⟨rfl,CiRet.bad (HB.out.rx.trans hk1.out) z1 K1.out⟩;replace HB:=Hd (HB.out.call hr1 hk1);clear hr1 hk1)
  | (go_at_call 65;(with_reducible refine(C1.out z1 _ (Hd HB.out.cd)).mono ?_);rintro e ws1 hh;rcases hh.two with ⟨z2,rfl,hr1,hk1⟩ | ⟨z2,rfl,hk1⟩;rotate_left;exact⟨rfl,CiRet.bad (HB.out.rx.trans hk1.out) z2 K2.out⟩;replace HB:=Hd (HB.out.call hr1 hk1);clear hr1 hk1)
  | (go_at_call 65;(with_reducible refine(C2.out z2 _ (Hd HB.out.cd)).mono ?_);rintro e ws2 hh;rcases hh.two with ⟨z3,rfl,hr1,hk1⟩ | ⟨z3,rfl,hk1⟩;rotate_left;exact⟨rfl,CiRet.bad (HB.out.rx.trans hk1.out) z3 K3.out⟩;replace HB:=Hd (HB.out.call hr1 hk1);clear hr1 hk1;obtain⟨⟨y0,y1,y2,y3,y4,y5,y6,y7,y8⟩,yf⟩:=rgCells HB.out.box;have f1:=yf 1;have f3:=yf 3;have f4:=yf 4;clear yf))
 obtain⟨V,hV⟩:∃V,V=(((ws2.setCell ⟨W1.heap.size,1,none⟩ (.string u0)).setCell ⟨W1.heap.size,3,none⟩ (.int .i64 u1)).setCell ⟨W1.heap.size,4,none⟩ (.int .i64 u2)):=⟨_,rfl⟩
 have HV:Hid (CB W V b g cap dv ts xb s3 W.heap.size W1.heap.size #[.int .i64 2,.string u0,.int .i64 0,.int .i64 u1,.int .i64 u2,.slice none 0 0,.string ⟨#[]⟩,.string ⟨#[]⟩,.int .i64 (P:Int)]):=Hd (by rw[hV];exact(((HB.out.set 1 _ rfl).set 3 _ rfl).set 4 _ rfl))
 rw[←hV,show ws2.heap.size=V.heap.size by rw[hV];simp]
 clear hV HB y0 y1 y2 y3 y4 y5 y6 y7 y8 f1 f3 f4
 refine(CW.out z3 V (Hd HV.out.cd)).mono ?_
 rintro e w5 hh
 rcases hh.two with ⟨z5,rfl,hr5,hk5⟩ | ⟨z5,rfl,hk5⟩
 rotate_left
 ·exact⟨rfl,CiRet.bad (HV.out.rx.trans hk5.out) z5 (Stays.refl _)⟩
 dsimp only
 have HE:=Hd (HV.out.call hr5 hk5)
 obtain⟨⟨y0,y1,y2,y3,y4,y5,y6,y7,y8⟩,_⟩:=rgCells HE.out.box
 obtain⟨⟨q0,q1,q2,q3,q4,q5,q6,q7,q8⟩,qf⟩:=rgCells HE.out.zero
 have g0:=qf 0;have g1:=qf 1;have g2:=qf 2;have g3:=qf 3;have g4:=qf 4;have g5:=qf 5;have g6:=qf 6;have g7:=qf 7;have g8:=qf 8
 clear qf
 go_wp2_with fail
 obtain⟨r1,r2,r3,r4⟩:=HE.out.told (.int .i64 2) (.string u0) (.int .i64 0) (.int .i64 u1) (.int .i64 u2) (.slice none 0 0) (.string ⟨#[]⟩) (.string ⟨#[]⟩) (.int .i64 (P:Int))
 obtain⟨⟨x0,x1,x2,x3,x4,x5,x6,x7,x8⟩,_⟩:=rgCells r1
 unfold set9 at x0 x1 x2 x3 x4 x5 x6 x7 x8
 exact bodyPost_ret (v:=.agg #[.int .i64 2,.string u0,.int .i64 0,.int .i64 u1,.int .i64 u2,.slice none 0 0,.string ⟨#[]⟩,.string ⟨#[]⟩,.int .i64 (P:Int)]) (by simp[results,Tryz.results89,go_sem,x0,x1,x2,x3,x4,x5,x6,x7,x8]) rfl ⟨r3,.inl ⟨z5,none,0,0,rfl,r2,qO _ _ _ _⟩⟩
theorem cit_reset (b g cap:Nat) (dv:Value) (ts:List Tok) (xb:Nat→Prop) (f:Nat) (x:RS) (hc:x.code=0) (hi:isS ts [114,101,115,101,116] x=true) (v1:Int) (l1:List Int) (t1:RS) (hr1:runE ts f .expr (wantS ts [111,110] (nameS ts (stepS x)))=some (v1,l1,t1)) (v2:Int) (l2:List Int) (t2:RS) (hr2:runE ts f .expr (wantS ts [61] t1)=some (v2,l2,t2)) (W:World) (h:Hid (Cd W b g cap dv ts xb x)) :
  Calls prog 89 #[.pointer (some ⟨b,0,none⟩)] W fun r Y=>CiRet b g cap dv ts xb W { it0 with kind:=3,name:=str (nameV ts (stepS x)),f:=v1,e:=v2,pos:=((tokL ts x.at_).at_:Int) } (wantS ts [59] t2) r Y:=by
 obtain⟨P,hP⟩:∃P,P=(tokL ts x.at_).at_:=⟨_,rfl⟩
 rw[←hP]
 obtain⟨s0,hs0⟩:∃s0,s0=stepS x:=⟨_,rfl⟩
 try rw[←hs0]
 try rw[←hs0] at hr1
 obtain⟨u0,hu0⟩:∃u:ByteArray,u=str (nameV ts s0):=⟨_,rfl⟩
 obtain⟨s1,hs1⟩:∃s1,s1=nameS ts s0:=⟨_,rfl⟩
 try rw[←hu0]
 try rw[←hs1]
 try rw[←hs1] at hr1
 obtain⟨u1,hu1⟩:∃u:Int,u=v1:=⟨_,rfl⟩
 obtain⟨s2,hs2⟩:∃s2,s2=t1:=⟨_,rfl⟩
 try rw[←hu1]
 try rw[←hs2]
 try rw[←hs2] at hr2
 obtain⟨u2,hu2⟩:∃u:Int,u=v2:=⟨_,rfl⟩
 obtain⟨s3,hs3⟩:∃s3,s3=t2:=⟨_,rfl⟩
 try rw[←hu2]
 try rw[←hs3]
 obtain⟨sw,hsw⟩:∃sw,sw=wantS ts [59] s3:=⟨_,rfl⟩
 rw[←hsw]
 have K3:Hid (Stays s3 sw):=Hd (by rw[hsw];exact stays_want _ _ _)
 have K2:Hid (Stays s2 sw):=Hd (by have:=(stays_want ts [61] s2).trans (stuck ts f .expr _ _ hr2);rw[hs3] at K3;exact this.trans K3.out)
 have K1:Hid (Stays s1 sw):=Hd (by have:=(stays_want ts [111,110] s1).trans (stuck ts f .expr _ _ hr1);rw[hs2] at K2;exact this.trans K2.out)
 have K0:Hid (Stays s0 sw):=Hd (by have:=stays_name ts s0;rw[←hs1] at this;exact this.trans K1.out)
 obtain⟨W1,hW1⟩:∃W1,W1=(W.alloc (.cells #[.int .i64 0,.string ⟨#[]⟩,.int .i64 0,.int .i64 0,.int .i64 0,.slice none 0 0,.string ⟨#[]⟩,.string ⟨#[]⟩,.int .i64 0] 65)).alloc (.cells #[.string ⟨#[108,101,116]⟩] 9):=⟨_,rfl⟩
 have hbe:Below W.heap.size W W1:=by rw[hW1];exact((qB _ _).alloc (qL _) _).alloc (by simp) _
 have hz1:W1.heap[W.heap.size]?=some (.cells itZ 65 (0,0)):=by rw[hW1,heap_alloc_old _ _ (by simp)];exact heap_alloc_new W _
 have H1:Hid (Cd W1 b g cap dv ts xb x):=Hd (h.out.below hbe)
 obtain⟨o,c,⟨c0,c1,c2,c3,fr⟩,hx⟩:=H1.out.cells
 obtain⟨t0,t1,t2,t3⟩:=H1.out.tok
 have hl:=H1.out.at_
 have hbs:=H1.out.size
 have hgs:g<W1.heap.size:=by have:=H1.out.lt;omega
 obtain⟨m,hmm⟩:∃m,m=ts.length-x.at_:=⟨_,rfl⟩
 obtain⟨a4,haa⟩:∃a4,a4=x.at_*4:=⟨_,rfl⟩
 rw[←hmm,←haa] at c0
 rw[←hP,←haa] at t3
 have k0:(0:Int)<(m:Int):=by omega
 have F0:Hid (Calls prog 49 #[.pointer (some ⟨b,0,none⟩),.slice (some ⟨W.heap.size+1,0,none⟩) 1 1] W1 fun r Y=>r=.returned (.bool false)∧W1=Y):=Hd ((fits_any b g cap dv ts xb x (W.heap.size+1) 1 [[108,101,116]] W1 H1 hc (by decide) rfl (by decide) (Hd (by
  rw[hW1,show W.heap.size+1=(W.alloc (.cells #[.int .i64 0,.string ⟨#[]⟩,.int .i64 0,.int .i64 0,.int .i64 0,.slice none 0 0,.string ⟨#[]⟩,.string ⟨#[]⟩,.int .i64 0] 65)).heap.size by simp];exact strs_new _ [[108,101,116]] _))).mono fun r Y hh=>by
  rw[show fitsB ts [[108,101,116]] x=false by unfold fitsB;simp[show isS ts [108,101,116] x=false from isS_one hi (by decide)]] at hh;exact⟨hh.1,hh.2.symm⟩)
 obtain⟨W2,hW2⟩:∃W2,W2=W1.alloc (.cells #[.int .i64 0,.string ⟨#[]⟩,.int .i64 0,.int .i64 0,.int .i64 0,.slice none 0 0,.string ⟨#[]⟩,.string ⟨#[]⟩,.int .i64 (P:Int)] 65):=⟨_,rfl⟩
 have HB:Hid (CB W W2 b g cap dv ts xb x W.heap.size W1.heap.size #[.int .i64 0,.string ⟨#[]⟩,.int .i64 0,.int .i64 0,.int .i64 0,.slice none 0 0,.string ⟨#[]⟩,.string ⟨#[]⟩,.int .i64 (P:Int)]):=Hd (by rw[hW2];exact CB.new2 h.out hbe hz1 _)
 have T0:=tk_no (b:=b) (g:=g) (cap:=cap) (dv:=dv) (xb:=xb) hc [100,101,114] ⟨#[100,101,114]⟩ rfl (by decide) (isS_one hi (by decide))
 have T1:=tk_yes (b:=b) (g:=g) (cap:=cap) (dv:=dv) (xb:=xb) hc hs0 [114,101,115,101,116] ⟨#[114,101,115,101,116]⟩ rfl (by decide) hi
 have z0:s0.code=0:=by rw[hs0];exact hc
 have C0:=st_name (b:=b) (g:=g) (cap:=cap) (dv:=dv) (xb:=xb) hu0 hs1
 have C1:=bh_expr (b:=b) (g:=g) (cap:=cap) (dv:=dv) (xb:=xb) [111,110] ⟨#[111,110]⟩ rfl (by decide) hr1 hu1 hs2
 have C2:=bh_expr (b:=b) (g:=g) (cap:=cap) (dv:=dv) (xb:=xb) [61] ⟨#[61]⟩ rfl (by decide) hr2 hu2 hs3
 have CW:=wt_one (b:=b) (g:=g) (cap:=cap) (dv:=dv) (xb:=xb) [59] ⟨#[59]⟩ rfl (by decide) hsw
 clear hmm haa t0 t1 t2 hl hx c1 c2 c3 fr hP hi hc hsw hbe hz1 hs0 hr1 hr2 hu0 hs1 hu1 hs2 hu2 hs3
 have z0':=Hd z0
 go_enter Tryz.func89,Tryz.ntmps89
 go_wp2_with (first
  | (go_at_call 49;rw[←hW1];(with_reducible refine F0.out.mono ?_);rintro e w1 ⟨rfl,rfl⟩;clear hW1)
  | (go_at_call 62;rw[←hW2];clear hW2 c0 t3;(with_reducible refine(T0.out _ (Hd HB.out.cd)).mono ?_);rintro e wt0 ⟨rfl,hr1,hk1⟩;replace HB:=Hd (HB.out.call hr1 hk1);clear hr1 hk1)
  | (go_at_call 62;(with_reducible refine(T1.out _ (Hd HB.out.cd)).mono ?_);rintro e wt1 ⟨rfl,hr1,hk1⟩;replace HB:=Hd (HB.out.call hr1 hk1);clear hr1 hk1;obtain⟨⟨y0,y1,y2,y3,y4,y5,y6,y7,y8⟩,yf⟩:=rgCells HB.out.box;have f0:=yf 0;clear yf)
  | (go_at_call 63;obtain⟨V0,hV0⟩:∃V0,V0=wt1.setCell ⟨W1.heap.size,0,none⟩ (.int .i64 3):=⟨_,rfl⟩;have HV:Hid (CB W V0 b g cap dv ts xb s0 W.heap.size W1.heap.size #[.int .i64 3,.string ⟨#[]⟩,.int .i64 0,.int .i64 0,.int .i64 0,.slice none 0 0,.string ⟨#[]⟩,.string ⟨#[]⟩,.int .i64 (P:Int)]):=Hd (by rw[hV0];exact HB.out.set 0 _ rfl);clear HB;have HB:=HV;clear HV;rw[←hV0];clear hV0 y0 y1 y2 y3 y4 y5 y6 y7 y8 f0;(with_reducible refine(C0.out z0 _ (Hd HB.out.cd)).mono ?_);rintro e ws0 hh;rcases hh.two with ⟨z1,rfl,hr1,hk1⟩ | ⟨z1,rfl,hk1⟩;rotate_left;exact⟨rfl,CiRet.bad (HB.out.rx.trans hk1.out) z1 K1.out⟩;replace HB:=Hd (HB.out.call hr1 hk1);clear hr1 hk1)
  | (go_at_call 65;(with_reducible refine(C1.out z1 _ (Hd HB.out.cd)).mono ?_);rintro e ws1 hh;rcases hh.two with ⟨z2,rfl,hr1,hk1⟩ | ⟨z2,rfl,hk1⟩;rotate_left;exact⟨rfl,CiRet.bad (HB.out.rx.trans hk1.out) z2 K2.out⟩;replace HB:=Hd (HB.out.call hr1 hk1);clear hr1 hk1)
  | (go_at_call 65;(with_reducible refine(C2.out z2 _ (Hd HB.out.cd)).mono ?_);rintro e ws2 hh;rcases hh.two with ⟨z3,rfl,hr1,hk1⟩ | ⟨z3,rfl,hk1⟩;rotate_left;exact⟨rfl,CiRet.bad (HB.out.rx.trans hk1.out) z3 K3.out⟩;replace HB:=Hd (HB.out.call hr1 hk1);clear hr1 hk1;obtain⟨⟨y0,y1,y2,y3,y4,y5,y6,y7,y8⟩,yf⟩:=rgCells HB.out.box;have f1:=yf 1;have f4:=yf 4;have f3:=yf 3;clear yf))
 obtain⟨V,hV⟩:∃V,V=(((ws2.setCell ⟨W1.heap.size,1,none⟩ (.string u0)).setCell ⟨W1.heap.size,4,none⟩ (.int .i64 u1)).setCell ⟨W1.heap.size,3,none⟩ (.int .i64 u2)):=⟨_,rfl⟩
 have HV:Hid (CB W V b g cap dv ts xb s3 W.heap.size W1.heap.size #[.int .i64 3,.string u0,.int .i64 0,.int .i64 u2,.int .i64 u1,.slice none 0 0,.string ⟨#[]⟩,.string ⟨#[]⟩,.int .i64 (P:Int)]):=Hd (by rw[hV];exact(((HB.out.set 1 _ rfl).set 4 _ rfl).set 3 _ rfl))
 rw[←hV,show ws2.heap.size=V.heap.size by rw[hV];simp]
 clear hV HB y0 y1 y2 y3 y4 y5 y6 y7 y8 f1 f4 f3
 refine(CW.out z3 V (Hd HV.out.cd)).mono ?_
 rintro e w5 hh
 rcases hh.two with ⟨z5,rfl,hr5,hk5⟩ | ⟨z5,rfl,hk5⟩
 rotate_left
 ·exact⟨rfl,CiRet.bad (HV.out.rx.trans hk5.out) z5 (Stays.refl _)⟩
 dsimp only
 have HE:=Hd (HV.out.call hr5 hk5)
 obtain⟨⟨y0,y1,y2,y3,y4,y5,y6,y7,y8⟩,_⟩:=rgCells HE.out.box
 obtain⟨⟨q0,q1,q2,q3,q4,q5,q6,q7,q8⟩,qf⟩:=rgCells HE.out.zero
 have g0:=qf 0;have g1:=qf 1;have g2:=qf 2;have g3:=qf 3;have g4:=qf 4;have g5:=qf 5;have g6:=qf 6;have g7:=qf 7;have g8:=qf 8
 clear qf
 go_wp2_with fail
 obtain⟨r1,r2,r3,r4⟩:=HE.out.told (.int .i64 3) (.string u0) (.int .i64 0) (.int .i64 u2) (.int .i64 u1) (.slice none 0 0) (.string ⟨#[]⟩) (.string ⟨#[]⟩) (.int .i64 (P:Int))
 obtain⟨⟨x0,x1,x2,x3,x4,x5,x6,x7,x8⟩,_⟩:=rgCells r1
 unfold set9 at x0 x1 x2 x3 x4 x5 x6 x7 x8
 exact bodyPost_ret (v:=.agg #[.int .i64 3,.string u0,.int .i64 0,.int .i64 u2,.int .i64 u1,.slice none 0 0,.string ⟨#[]⟩,.string ⟨#[]⟩,.int .i64 (P:Int)]) (by simp[results,Tryz.results89,go_sem,x0,x1,x2,x3,x4,x5,x6,x7,x8]) rfl ⟨r3,.inl ⟨z5,none,0,0,rfl,r2,qO _ _ _ _⟩⟩
theorem cit_mem (b g cap:Nat) (dv:Value) (ts:List Tok) (xb:Nat→Prop) (f:Nat) (x:RS) (hc:x.code=0) (hi:isS ts [109,101,109] x=true) (v2:Int) (l2:List Int) (t2:RS) (hr2:runE ts f .expr (wantS ts [105,110,105,116] (kindS ts (wantS ts [58] (nameS ts (stepS x)))))=some (v2,l2,t2)) (W:World) (h:Hid (Cd W b g cap dv ts xb x)) :
  Calls prog 89 #[.pointer (some ⟨b,0,none⟩)] W fun r Y=>CiRet b g cap dv ts xb W { it0 with kind:=4,name:=str (nameV ts (stepS x)),type:=kindV ts (wantS ts [58] (nameS ts (stepS x))),e:=v2,pos:=((tokL ts x.at_).at_:Int) } (wantS ts [59] t2) r Y:=by
 obtain⟨P,hP⟩:∃P,P=(tokL ts x.at_).at_:=⟨_,rfl⟩
 rw[←hP]
 obtain⟨s0,hs0⟩:∃s0,s0=stepS x:=⟨_,rfl⟩
 try rw[←hs0]
 try rw[←hs0] at hr2
 obtain⟨u0,hu0⟩:∃u:ByteArray,u=str (nameV ts s0):=⟨_,rfl⟩
 obtain⟨s1,hs1⟩:∃s1,s1=nameS ts s0:=⟨_,rfl⟩
 try rw[←hu0]
 try rw[←hs1]
 try rw[←hs1] at hr2
 obtain⟨u1,hu1⟩:∃u:Int,u=kindV ts (wantS ts [58] s1):=⟨_,rfl⟩
 obtain⟨s2,hs2⟩:∃s2,s2=kindS ts (wantS ts [58] s1):=⟨_,rfl⟩
 try rw[←hu1]
 try rw[←hs2]
 try rw[←hs2] at hr2
 obtain⟨u2,hu2⟩:∃u:Int,u=v2:=⟨_,rfl⟩
 obtain⟨s3,hs3⟩:∃s3,s3=t2:=⟨_,rfl⟩
 try rw[←hu2]
 try rw[←hs3]
 obtain⟨sw,hsw⟩:∃sw,sw=wantS ts [59] s3:=⟨_,rfl⟩
 rw[←hsw]
 have K3:Hid (Stays s3 sw):=Hd (by rw[hsw];exact stays_want _ _ _)
 have K2:Hid (Stays s2 sw):=Hd (by have:=(stays_want ts [105,110,105,116] s2).trans (stuck ts f .expr _ _ hr2);rw[hs3] at K3;exact this.trans K3.out)
 have K1:Hid (Stays s1 sw):=Hd (by have:=(stays_want ts [58] s1).trans (stays_kind ts _);rw[←hs2] at this;exact this.trans K2.out)
 have K0:Hid (Stays s0 sw):=Hd (by have:=stays_name ts s0;rw[←hs1] at this;exact this.trans K1.out)
 obtain⟨W1,hW1⟩:∃W1,W1=(W.alloc (.cells #[.int .i64 0,.string ⟨#[]⟩,.int .i64 0,.int .i64 0,.int .i64 0,.slice none 0 0,.string ⟨#[]⟩,.string ⟨#[]⟩,.int .i64 0] 65)).alloc (.cells #[.string ⟨#[108,101,116]⟩] 9):=⟨_,rfl⟩
 have hbe:Below W.heap.size W W1:=by rw[hW1];exact((qB _ _).alloc (qL _) _).alloc (by simp) _
 have hz1:W1.heap[W.heap.size]?=some (.cells itZ 65 (0,0)):=by rw[hW1,heap_alloc_old _ _ (by simp)];exact heap_alloc_new W _
 have H1:Hid (Cd W1 b g cap dv ts xb x):=Hd (h.out.below hbe)
 obtain⟨o,c,⟨c0,c1,c2,c3,fr⟩,hx⟩:=H1.out.cells
 obtain⟨t0,t1,t2,t3⟩:=H1.out.tok
 have hl:=H1.out.at_
 have hbs:=H1.out.size
 have hgs:g<W1.heap.size:=by have:=H1.out.lt;omega
 obtain⟨m,hmm⟩:∃m,m=ts.length-x.at_:=⟨_,rfl⟩
 obtain⟨a4,haa⟩:∃a4,a4=x.at_*4:=⟨_,rfl⟩
 rw[←hmm,←haa] at c0
 rw[←hP,←haa] at t3
 have k0:(0:Int)<(m:Int):=by omega
 have F0:Hid (Calls prog 49 #[.pointer (some ⟨b,0,none⟩),.slice (some ⟨W.heap.size+1,0,none⟩) 1 1] W1 fun r Y=>r=.returned (.bool false)∧W1=Y):=Hd ((fits_any b g cap dv ts xb x (W.heap.size+1) 1 [[108,101,116]] W1 H1 hc (by decide) rfl (by decide) (Hd (by
  rw[hW1,show W.heap.size+1=(W.alloc (.cells #[.int .i64 0,.string ⟨#[]⟩,.int .i64 0,.int .i64 0,.int .i64 0,.slice none 0 0,.string ⟨#[]⟩,.string ⟨#[]⟩,.int .i64 0] 65)).heap.size by simp];exact strs_new _ [[108,101,116]] _))).mono fun r Y hh=>by
  rw[show fitsB ts [[108,101,116]] x=false by unfold fitsB;simp[show isS ts [108,101,116] x=false from isS_one hi (by decide)]] at hh;exact⟨hh.1,hh.2.symm⟩)
 obtain⟨W2,hW2⟩:∃W2,W2=W1.alloc (.cells #[.int .i64 0,.string ⟨#[]⟩,.int .i64 0,.int .i64 0,.int .i64 0,.slice none 0 0,.string ⟨#[]⟩,.string ⟨#[]⟩,.int .i64 (P:Int)] 65):=⟨_,rfl⟩
 have HB:Hid (CB W W2 b g cap dv ts xb x W.heap.size W1.heap.size #[.int .i64 0,.string ⟨#[]⟩,.int .i64 0,.int .i64 0,.int .i64 0,.slice none 0 0,.string ⟨#[]⟩,.string ⟨#[]⟩,.int .i64 (P:Int)]):=Hd (by rw[hW2];exact CB.new2 h.out hbe hz1 _)
 have T0:=tk_no (b:=b) (g:=g) (cap:=cap) (dv:=dv) (xb:=xb) hc [100,101,114] ⟨#[100,101,114]⟩ rfl (by decide) (isS_one hi (by decide))
 have T1:=tk_no (b:=b) (g:=g) (cap:=cap) (dv:=dv) (xb:=xb) hc [114,101,115,101,116] ⟨#[114,101,115,101,116]⟩ rfl (by decide) (isS_one hi (by decide))
 have T2:=tk_yes (b:=b) (g:=g) (cap:=cap) (dv:=dv) (xb:=xb) hc hs0 [109,101,109] ⟨#[109,101,109]⟩ rfl (by decide) hi
 have z0:s0.code=0:=by rw[hs0];exact hc
 have C0:=st_name (b:=b) (g:=g) (cap:=cap) (dv:=dv) (xb:=xb) hu0 hs1
 have C1:=bh_types (b:=b) (g:=g) (cap:=cap) (dv:=dv) (xb:=xb) [58] ⟨#[58]⟩ rfl (by decide) hu1 hs2
 have C2:=bh_expr (b:=b) (g:=g) (cap:=cap) (dv:=dv) (xb:=xb) [105,110,105,116] ⟨#[105,110,105,116]⟩ rfl (by decide) hr2 hu2 hs3
 have CW:=wt_one (b:=b) (g:=g) (cap:=cap) (dv:=dv) (xb:=xb) [59] ⟨#[59]⟩ rfl (by decide) hsw
 clear hmm haa t0 t1 t2 hl hx c1 c2 c3 fr hP hi hc hsw hbe hz1 hs0 hr2 hu0 hs1 hu1 hs2 hu2 hs3
 have z0':=Hd z0
 go_enter Tryz.func89,Tryz.ntmps89
 go_wp2_with (first
  | (go_at_call 49;rw[←hW1];(with_reducible refine F0.out.mono ?_);rintro e w1 ⟨rfl,rfl⟩;clear hW1)
  | (go_at_call 62;rw[←hW2];clear hW2 c0 t3;(with_reducible refine(T0.out _ (Hd HB.out.cd)).mono ?_);rintro e wt0 ⟨rfl,hr1,hk1⟩;replace HB:=Hd (HB.out.call hr1 hk1);clear hr1 hk1)
  | (go_at_call 62;(with_reducible refine(T1.out _ (Hd HB.out.cd)).mono ?_);rintro e wt1 ⟨rfl,hr1,hk1⟩;replace HB:=Hd (HB.out.call hr1 hk1);clear hr1 hk1)
  | (go_at_call 62;(with_reducible refine(T2.out _ (Hd HB.out.cd)).mono ?_);rintro e wt2 ⟨rfl,hr1,hk1⟩;replace HB:=Hd (HB.out.call hr1 hk1);clear hr1 hk1;obtain⟨⟨y0,y1,y2,y3,y4,y5,y6,y7,y8⟩,yf⟩:=rgCells HB.out.box;have f0:=yf 0;clear yf)
  | (go_at_call 63;obtain⟨V0,hV0⟩:∃V0,V0=wt2.setCell ⟨W1.heap.size,0,none⟩ (.int .i64 4):=⟨_,rfl⟩;have HV:Hid (CB W V0 b g cap dv ts xb s0 W.heap.size W1.heap.size #[.int .i64 4,.string ⟨#[]⟩,.int .i64 0,.int .i64 0,.int .i64 0,.slice none 0 0,.string ⟨#[]⟩,.string ⟨#[]⟩,.int .i64 (P:Int)]):=Hd (by rw[hV0];exact HB.out.set 0 _ rfl);clear HB;have HB:=HV;clear HV;rw[←hV0];clear hV0 y0 y1 y2 y3 y4 y5 y6 y7 y8 f0;(with_reducible refine(C0.out z0 _ (Hd HB.out.cd)).mono ?_);rintro e ws0 hh;rcases hh.two with ⟨z1,rfl,hr1,hk1⟩ | ⟨z1,rfl,hk1⟩;rotate_left;exact⟨rfl,CiRet.bad (HB.out.rx.trans hk1.out) z1 K1.out⟩;replace HB:=Hd (HB.out.call hr1 hk1);clear hr1 hk1)
  | (go_at_call 65;(with_reducible refine(C1.out z1 _ (Hd HB.out.cd)).mono ?_);rintro e ws1 hh;rcases hh.two with ⟨z2,rfl,hr1,hk1⟩ | ⟨z2,rfl,hk1⟩;rotate_left;exact⟨rfl,CiRet.bad (HB.out.rx.trans hk1.out) z2 K2.out⟩;replace HB:=Hd (HB.out.call hr1 hk1);clear hr1 hk1)
  | (go_at_call 65;(with_reducible refine(C2.out z2 _ (Hd HB.out.cd)).mono ?_);rintro e ws2 hh;rcases hh.two with ⟨z3,rfl,hr1,hk1⟩ | ⟨z3,rfl,hk1⟩;rotate_left;exact⟨rfl,CiRet.bad (HB.out.rx.trans hk1.out) z3 K3.out⟩;replace HB:=Hd (HB.out.call hr1 hk1);clear hr1 hk1;obtain⟨⟨y0,y1,y2,y3,y4,y5,y6,y7,y8⟩,yf⟩:=rgCells HB.out.box;have f1:=yf 1;have f2:=yf 2;have f3:=yf 3;clear yf))
 obtain⟨V,hV⟩:∃V,V=(((ws2.setCell ⟨W1.heap.size,1,none⟩ (.string u0)).setCell ⟨W1.heap.size,2,none⟩ (.int .i64 u1)).setCell ⟨W1.heap.size,3,none⟩ (.int .i64 u2)):=⟨_,rfl⟩
 have HV:Hid (CB W V b g cap dv ts xb s3 W.heap.size W1.heap.size #[.int .i64 4,.string u0,.int .i64 u1,.int .i64 u2,.int .i64 0,.slice none 0 0,.string ⟨#[]⟩,.string ⟨#[]⟩,.int .i64 (P:Int)]):=Hd (by rw[hV];exact(((HB.out.set 1 _ rfl).set 2 _ rfl).set 3 _ rfl))
 rw[←hV,show ws2.heap.size=V.heap.size by rw[hV];simp]
 clear hV HB y0 y1 y2 y3 y4 y5 y6 y7 y8 f1 f2 f3
 refine(CW.out z3 V (Hd HV.out.cd)).mono ?_
 rintro e w5 hh
 rcases hh.two with ⟨z5,rfl,hr5,hk5⟩ | ⟨z5,rfl,hk5⟩
 rotate_left
 ·exact⟨rfl,CiRet.bad (HV.out.rx.trans hk5.out) z5 (Stays.refl _)⟩
 dsimp only
 have HE:=Hd (HV.out.call hr5 hk5)
 obtain⟨⟨y0,y1,y2,y3,y4,y5,y6,y7,y8⟩,_⟩:=rgCells HE.out.box
 obtain⟨⟨q0,q1,q2,q3,q4,q5,q6,q7,q8⟩,qf⟩:=rgCells HE.out.zero
 have g0:=qf 0;have g1:=qf 1;have g2:=qf 2;have g3:=qf 3;have g4:=qf 4;have g5:=qf 5;have g6:=qf 6;have g7:=qf 7;have g8:=qf 8
 clear qf
 go_wp2_with fail
 obtain⟨r1,r2,r3,r4⟩:=HE.out.told (.int .i64 4) (.string u0) (.int .i64 u1) (.int .i64 u2) (.int .i64 0) (.slice none 0 0) (.string ⟨#[]⟩) (.string ⟨#[]⟩) (.int .i64 (P:Int))
 obtain⟨⟨x0,x1,x2,x3,x4,x5,x6,x7,x8⟩,_⟩:=rgCells r1
 unfold set9 at x0 x1 x2 x3 x4 x5 x6 x7 x8
 exact bodyPost_ret (v:=.agg #[.int .i64 4,.string u0,.int .i64 u1,.int .i64 u2,.int .i64 0,.slice none 0 0,.string ⟨#[]⟩,.string ⟨#[]⟩,.int .i64 (P:Int)]) (by simp[results,Tryz.results89,go_sem,x0,x1,x2,x3,x4,x5,x6,x7,x8]) rfl ⟨r3,.inl ⟨z5,none,0,0,rfl,r2,qO _ _ _ _⟩⟩
theorem cit_on (b g cap:Nat) (dv:Value) (ts:List Tok) (xb:Nat→Prop) (f:Nat) (x:RS) (hc:x.code=0) (hi:isS ts [111,110] x=true) (v0:Int) (l0:List Int) (t0:RS) (hr0:runE ts f .expr (stepS x)=some (v0,l0,t0)) (v2:Int) (l2:List Int) (t2:RS) (hr2:runE ts f .expr (wantS ts [61] (nameS ts (wantS ts [115,101,116] t0)))=some (v2,l2,t2)) (W:World) (h:Hid (Cd W b g cap dv ts xb x)) :
  Calls prog 89 #[.pointer (some ⟨b,0,none⟩)] W fun r Y=>CiRet b g cap dv ts xb W { it0 with kind:=5,f:=v0,name:=str (nameV ts (wantS ts [115,101,116] t0)),e:=v2,pos:=((tokL ts x.at_).at_:Int) } (wantS ts [59] t2) r Y:=by
 obtain⟨P,hP⟩:∃P,P=(tokL ts x.at_).at_:=⟨_,rfl⟩
 rw[←hP]
 obtain⟨s0,hs0⟩:∃s0,s0=stepS x:=⟨_,rfl⟩
 try rw[←hs0]
 try rw[←hs0] at hr0
 obtain⟨u0,hu0⟩:∃u:Int,u=v0:=⟨_,rfl⟩
 obtain⟨s1,hs1⟩:∃s1,s1=t0:=⟨_,rfl⟩
 try rw[←hu0]
 try rw[←hs1]
 try rw[←hs1] at hr2
 obtain⟨u1,hu1⟩:∃u:ByteArray,u=str (nameV ts (wantS ts [115,101,116] s1)):=⟨_,rfl⟩
 obtain⟨s2,hs2⟩:∃s2,s2=nameS ts (wantS ts [115,101,116] s1):=⟨_,rfl⟩
 try rw[←hu1]
 try rw[←hs2]
 try rw[←hs2] at hr2
 obtain⟨u2,hu2⟩:∃u:Int,u=v2:=⟨_,rfl⟩
 obtain⟨s3,hs3⟩:∃s3,s3=t2:=⟨_,rfl⟩
 try rw[←hu2]
 try rw[←hs3]
 obtain⟨sw,hsw⟩:∃sw,sw=wantS ts [59] s3:=⟨_,rfl⟩
 rw[←hsw]
 have K3:Hid (Stays s3 sw):=Hd (by rw[hsw];exact stays_want _ _ _)
 have K2:Hid (Stays s2 sw):=Hd (by have:=(stays_want ts [61] s2).trans (stuck ts f .expr _ _ hr2);rw[hs3] at K3;exact this.trans K3.out)
 have K1:Hid (Stays s1 sw):=Hd (by have:=(stays_want ts [115,101,116] s1).trans (stays_name ts _);rw[←hs2] at this;exact this.trans K2.out)
 have K0:Hid (Stays s0 sw):=Hd (by have:=stuck ts f .expr _ _ hr0;rw[hs1] at K1;exact this.trans K1.out)
 obtain⟨W1,hW1⟩:∃W1,W1=(W.alloc (.cells #[.int .i64 0,.string ⟨#[]⟩,.int .i64 0,.int .i64 0,.int .i64 0,.slice none 0 0,.string ⟨#[]⟩,.string ⟨#[]⟩,.int .i64 0] 65)).alloc (.cells #[.string ⟨#[108,101,116]⟩] 9):=⟨_,rfl⟩
 have hbe:Below W.heap.size W W1:=by rw[hW1];exact((qB _ _).alloc (qL _) _).alloc (by simp) _
 have hz1:W1.heap[W.heap.size]?=some (.cells itZ 65 (0,0)):=by rw[hW1,heap_alloc_old _ _ (by simp)];exact heap_alloc_new W _
 have H1:Hid (Cd W1 b g cap dv ts xb x):=Hd (h.out.below hbe)
 obtain⟨o,c,⟨c0,c1,c2,c3,fr⟩,hx⟩:=H1.out.cells
 obtain⟨t0,t1,t2,t3⟩:=H1.out.tok
 have hl:=H1.out.at_
 have hbs:=H1.out.size
 have hgs:g<W1.heap.size:=by have:=H1.out.lt;omega
 obtain⟨m,hmm⟩:∃m,m=ts.length-x.at_:=⟨_,rfl⟩
 obtain⟨a4,haa⟩:∃a4,a4=x.at_*4:=⟨_,rfl⟩
 rw[←hmm,←haa] at c0
 rw[←hP,←haa] at t3
 have k0:(0:Int)<(m:Int):=by omega
 have F0:Hid (Calls prog 49 #[.pointer (some ⟨b,0,none⟩),.slice (some ⟨W.heap.size+1,0,none⟩) 1 1] W1 fun r Y=>r=.returned (.bool false)∧W1=Y):=Hd ((fits_any b g cap dv ts xb x (W.heap.size+1) 1 [[108,101,116]] W1 H1 hc (by decide) rfl (by decide) (Hd (by
  rw[hW1,show W.heap.size+1=(W.alloc (.cells #[.int .i64 0,.string ⟨#[]⟩,.int .i64 0,.int .i64 0,.int .i64 0,.slice none 0 0,.string ⟨#[]⟩,.string ⟨#[]⟩,.int .i64 0] 65)).heap.size by simp];exact strs_new _ [[108,101,116]] _))).mono fun r Y hh=>by
  rw[show fitsB ts [[108,101,116]] x=false by unfold fitsB;simp[show isS ts [108,101,116] x=false from isS_one hi (by decide)]] at hh;exact⟨hh.1,hh.2.symm⟩)
 obtain⟨W2,hW2⟩:∃W2,W2=W1.alloc (.cells #[.int .i64 0,.string ⟨#[]⟩,.int .i64 0,.int .i64 0,.int .i64 0,.slice none 0 0,.string ⟨#[]⟩,.string ⟨#[]⟩,.int .i64 (P:Int)] 65):=⟨_,rfl⟩
 have HB:Hid (CB W W2 b g cap dv ts xb x W.heap.size W1.heap.size #[.int .i64 0,.string ⟨#[]⟩,.int .i64 0,.int .i64 0,.int .i64 0,.slice none 0 0,.string ⟨#[]⟩,.string ⟨#[]⟩,.int .i64 (P:Int)]):=Hd (by rw[hW2];exact CB.new2 h.out hbe hz1 _)
 have T0:=tk_no (b:=b) (g:=g) (cap:=cap) (dv:=dv) (xb:=xb) hc [100,101,114] ⟨#[100,101,114]⟩ rfl (by decide) (isS_one hi (by decide))
 have T1:=tk_no (b:=b) (g:=g) (cap:=cap) (dv:=dv) (xb:=xb) hc [114,101,115,101,116] ⟨#[114,101,115,101,116]⟩ rfl (by decide) (isS_one hi (by decide))
 have T2:=tk_no (b:=b) (g:=g) (cap:=cap) (dv:=dv) (xb:=xb) hc [109,101,109] ⟨#[109,101,109]⟩ rfl (by decide) (isS_one hi (by decide))
 have T3:=tk_yes (b:=b) (g:=g) (cap:=cap) (dv:=dv) (xb:=xb) hc hs0 [111,110] ⟨#[111,110]⟩ rfl (by decide) hi
 have z0:s0.code=0:=by rw[hs0];exact hc
 have C0:=st_expr (b:=b) (g:=g) (cap:=cap) (dv:=dv) (xb:=xb) hr0 hu0 hs1
 have C1:=bh_name (b:=b) (g:=g) (cap:=cap) (dv:=dv) (xb:=xb) [115,101,116] ⟨#[115,101,116]⟩ rfl (by decide) hu1 hs2
 have C2:=bh_expr (b:=b) (g:=g) (cap:=cap) (dv:=dv) (xb:=xb) [61] ⟨#[61]⟩ rfl (by decide) hr2 hu2 hs3
 have CW:=wt_one (b:=b) (g:=g) (cap:=cap) (dv:=dv) (xb:=xb) [59] ⟨#[59]⟩ rfl (by decide) hsw
 clear hmm haa t0 t1 t2 hl hx c1 c2 c3 fr hP hi hc hsw hbe hz1 hs0 hr0 hr2 hu0 hs1 hu1 hs2 hu2 hs3
 have z0':=Hd z0
 go_enter Tryz.func89,Tryz.ntmps89
 go_wp2_with (first
  | (go_at_call 49;rw[←hW1];(with_reducible refine F0.out.mono ?_);rintro e w1 ⟨rfl,rfl⟩;clear hW1)
  | (go_at_call 62;rw[←hW2];clear hW2 c0 t3;(with_reducible refine(T0.out _ (Hd HB.out.cd)).mono ?_);rintro e wt0 ⟨rfl,hr1,hk1⟩;replace HB:=Hd (HB.out.call hr1 hk1);clear hr1 hk1)
  | (go_at_call 62;(with_reducible refine(T1.out _ (Hd HB.out.cd)).mono ?_);rintro e wt1 ⟨rfl,hr1,hk1⟩;replace HB:=Hd (HB.out.call hr1 hk1);clear hr1 hk1)
  | (go_at_call 62;(with_reducible refine(T2.out _ (Hd HB.out.cd)).mono ?_);rintro e wt2 ⟨rfl,hr1,hk1⟩;replace HB:=Hd (HB.out.call hr1 hk1);clear hr1 hk1)
  | (go_at_call 62;(with_reducible refine(T3.out _ (Hd HB.out.cd)).mono ?_);rintro e wt3 ⟨rfl,hr1,hk1⟩;replace HB:=Hd (HB.out.call hr1 hk1);clear hr1 hk1;obtain⟨⟨y0,y1,y2,y3,y4,y5,y6,y7,y8⟩,yf⟩:=rgCells HB.out.box;have f0:=yf 0;clear yf)
  | (go_at_call 26;obtain⟨V0,hV0⟩:∃V0,V0=wt3.setCell ⟨W1.heap.size,0,none⟩ (.int .i64 5):=⟨_,rfl⟩;have HV:Hid (CB W V0 b g cap dv ts xb s0 W.heap.size W1.heap.size #[.int .i64 5,.string ⟨#[]⟩,.int .i64 0,.int .i64 0,.int .i64 0,.slice none 0 0,.string ⟨#[]⟩,.string ⟨#[]⟩,.int .i64 (P:Int)]):=Hd (by rw[hV0];exact HB.out.set 0 _ rfl);clear HB;have HB:=HV;clear HV;rw[←hV0];clear hV0 y0 y1 y2 y3 y4 y5 y6 y7 y8 f0;(with_reducible refine(C0.out z0 _ (Hd HB.out.cd)).mono ?_);rintro e ws0 hh;rcases hh.two with ⟨z1,rfl,hr1,hk1⟩ | ⟨z1,rfl,hk1⟩;rotate_left;exact⟨rfl,CiRet.bad (HB.out.rx.trans hk1.out) z1 K1.out⟩;replace HB:=Hd (HB.out.call hr1 hk1);clear hr1 hk1)
  | (go_at_call 102;(with_reducible refine(C1.out z1 _ (Hd HB.out.cd)).mono ?_);rintro e ws1 hh;rcases hh.two with ⟨z2,rfl,hr1,hk1⟩ | ⟨z2,rfl,hk1⟩;rotate_left;exact⟨rfl,CiRet.bad (HB.out.rx.trans hk1.out) z2 K2.out⟩;replace HB:=Hd (HB.out.call hr1 hk1);clear hr1 hk1)
  | (go_at_call 65;(with_reducible refine(C2.out z2 _ (Hd HB.out.cd)).mono ?_);rintro e ws2 hh;rcases hh.two with ⟨z3,rfl,hr1,hk1⟩ | ⟨z3,rfl,hk1⟩;rotate_left;exact⟨rfl,CiRet.bad (HB.out.rx.trans hk1.out) z3 K3.out⟩;replace HB:=Hd (HB.out.call hr1 hk1);clear hr1 hk1;obtain⟨⟨y0,y1,y2,y3,y4,y5,y6,y7,y8⟩,yf⟩:=rgCells HB.out.box;have f4:=yf 4;have f1:=yf 1;have f3:=yf 3;clear yf))
 obtain⟨V,hV⟩:∃V,V=(((ws2.setCell ⟨W1.heap.size,4,none⟩ (.int .i64 u0)).setCell ⟨W1.heap.size,1,none⟩ (.string u1)).setCell ⟨W1.heap.size,3,none⟩ (.int .i64 u2)):=⟨_,rfl⟩
 have HV:Hid (CB W V b g cap dv ts xb s3 W.heap.size W1.heap.size #[.int .i64 5,.string u1,.int .i64 0,.int .i64 u2,.int .i64 u0,.slice none 0 0,.string ⟨#[]⟩,.string ⟨#[]⟩,.int .i64 (P:Int)]):=Hd (by rw[hV];exact(((HB.out.set 4 _ rfl).set 1 _ rfl).set 3 _ rfl))
 rw[←hV,show ws2.heap.size=V.heap.size by rw[hV];simp]
 clear hV HB y0 y1 y2 y3 y4 y5 y6 y7 y8 f4 f1 f3
 refine(CW.out z3 V (Hd HV.out.cd)).mono ?_
 rintro e w5 hh
 rcases hh.two with ⟨z5,rfl,hr5,hk5⟩ | ⟨z5,rfl,hk5⟩
 rotate_left
 ·exact⟨rfl,CiRet.bad (HV.out.rx.trans hk5.out) z5 (Stays.refl _)⟩
 dsimp only
 have HE:=Hd (HV.out.call hr5 hk5)
 obtain⟨⟨y0,y1,y2,y3,y4,y5,y6,y7,y8⟩,_⟩:=rgCells HE.out.box
 obtain⟨⟨q0,q1,q2,q3,q4,q5,q6,q7,q8⟩,qf⟩:=rgCells HE.out.zero
 have g0:=qf 0;have g1:=qf 1;have g2:=qf 2;have g3:=qf 3;have g4:=qf 4;have g5:=qf 5;have g6:=qf 6;have g7:=qf 7;have g8:=qf 8
 clear qf
 go_wp2_with fail
 obtain⟨r1,r2,r3,r4⟩:=HE.out.told (.int .i64 5) (.string u1) (.int .i64 0) (.int .i64 u2) (.int .i64 u0) (.slice none 0 0) (.string ⟨#[]⟩) (.string ⟨#[]⟩) (.int .i64 (P:Int))
 obtain⟨⟨x0,x1,x2,x3,x4,x5,x6,x7,x8⟩,_⟩:=rgCells r1
 unfold set9 at x0 x1 x2 x3 x4 x5 x6 x7 x8
 exact bodyPost_ret (v:=.agg #[.int .i64 5,.string u1,.int .i64 0,.int .i64 u2,.int .i64 u0,.slice none 0 0,.string ⟨#[]⟩,.string ⟨#[]⟩,.int .i64 (P:Int)]) (by simp[results,Tryz.results89,go_sem,x0,x1,x2,x3,x4,x5,x6,x7,x8]) rfl ⟨r3,.inl ⟨z5,none,0,0,rfl,r2,qO _ _ _ _⟩⟩
theorem cit_mode (b g cap:Nat) (dv:Value) (ts:List Tok) (xb:Nat→Prop) (f:Nat) (x:RS) (hc:x.code=0) (hi:isS ts [109,111,100,101] x=true) (v1:List ByteArray) (t1:RS) (hr1:statesL ts f [str (nameV ts (wantS ts [123] (nameS ts (stepS x))))] (nameS ts (wantS ts [123] (nameS ts (stepS x))))=some (v1,t1)) (W:World) (h:Hid (Cd W b g cap dv ts xb x)) :
  Calls prog 89 #[.pointer (some ⟨b,0,none⟩)] W fun r Y=>CiRet b g cap dv ts xb W { it0 with kind:=6,name:=str (nameV ts (stepS x)),states:=v1,pos:=((tokL ts x.at_).at_:Int) } (wantS ts [59] (wantS ts [125] t1)) r Y:=by
 obtain⟨P,hP⟩:∃P,P=(tokL ts x.at_).at_:=⟨_,rfl⟩
 rw[←hP]
 obtain⟨s0,hs0⟩:∃s0,s0=stepS x:=⟨_,rfl⟩
 try rw[←hs0]
 try rw[←hs0] at hr1
 obtain⟨u0,hu0⟩:∃u:ByteArray,u=str (nameV ts s0):=⟨_,rfl⟩
 obtain⟨s1,hs1⟩:∃s1,s1=nameS ts s0:=⟨_,rfl⟩
 try rw[←hu0]
 try rw[←hs1]
 try rw[←hs1] at hr1
 obtain⟨u1,hu1⟩:∃u:List ByteArray,u=v1:=⟨_,rfl⟩
 obtain⟨s2,hs2⟩:∃s2,s2=wantS ts [125] t1:=⟨_,rfl⟩
 try rw[←hu1]
 try rw[←hs2]
 obtain⟨sw,hsw⟩:∃sw,sw=wantS ts [59] s2:=⟨_,rfl⟩
 rw[←hsw]
 have K2:Hid (Stays s2 sw):=Hd (by rw[hsw];exact stays_want _ _ _)
 have K1:Hid (Stays s1 sw):=Hd (by have:=(stays_want ts [123] s1).trans ((stays_name ts _).trans ((stays_states _ _ _ _ hr1).trans (stays_want ts [125] _)));rw[hs2] at K2;exact this.trans K2.out)
 have K0:Hid (Stays s0 sw):=Hd (by have:=stays_name ts s0;rw[←hs1] at this;exact this.trans K1.out)
 obtain⟨W1,hW1⟩:∃W1,W1=(W.alloc (.cells #[.int .i64 0,.string ⟨#[]⟩,.int .i64 0,.int .i64 0,.int .i64 0,.slice none 0 0,.string ⟨#[]⟩,.string ⟨#[]⟩,.int .i64 0] 65)).alloc (.cells #[.string ⟨#[108,101,116]⟩] 9):=⟨_,rfl⟩
 have hbe:Below W.heap.size W W1:=by rw[hW1];exact((qB _ _).alloc (qL _) _).alloc (by simp) _
 have hz1:W1.heap[W.heap.size]?=some (.cells itZ 65 (0,0)):=by rw[hW1,heap_alloc_old _ _ (by simp)];exact heap_alloc_new W _
 have H1:Hid (Cd W1 b g cap dv ts xb x):=Hd (h.out.below hbe)
 obtain⟨o,c,⟨c0,c1,c2,c3,fr⟩,hx⟩:=H1.out.cells
 obtain⟨t0,t1,t2,t3⟩:=H1.out.tok
 have hl:=H1.out.at_
 have hbs:=H1.out.size
 have hgs:g<W1.heap.size:=by have:=H1.out.lt;omega
 obtain⟨m,hmm⟩:∃m,m=ts.length-x.at_:=⟨_,rfl⟩
 obtain⟨a4,haa⟩:∃a4,a4=x.at_*4:=⟨_,rfl⟩
 rw[←hmm,←haa] at c0
 rw[←hP,←haa] at t3
 have k0:(0:Int)<(m:Int):=by omega
 have F0:Hid (Calls prog 49 #[.pointer (some ⟨b,0,none⟩),.slice (some ⟨W.heap.size+1,0,none⟩) 1 1] W1 fun r Y=>r=.returned (.bool false)∧W1=Y):=Hd ((fits_any b g cap dv ts xb x (W.heap.size+1) 1 [[108,101,116]] W1 H1 hc (by decide) rfl (by decide) (Hd (by
  rw[hW1,show W.heap.size+1=(W.alloc (.cells #[.int .i64 0,.string ⟨#[]⟩,.int .i64 0,.int .i64 0,.int .i64 0,.slice none 0 0,.string ⟨#[]⟩,.string ⟨#[]⟩,.int .i64 0] 65)).heap.size by simp];exact strs_new _ [[108,101,116]] _))).mono fun r Y hh=>by
  rw[show fitsB ts [[108,101,116]] x=false by unfold fitsB;simp[show isS ts [108,101,116] x=false from isS_one hi (by decide)]] at hh;exact⟨hh.1,hh.2.symm⟩)
 obtain⟨W2,hW2⟩:∃W2,W2=W1.alloc (.cells #[.int .i64 0,.string ⟨#[]⟩,.int .i64 0,.int .i64 0,.int .i64 0,.slice none 0 0,.string ⟨#[]⟩,.string ⟨#[]⟩,.int .i64 (P:Int)] 65):=⟨_,rfl⟩
 have HB:Hid (CB W W2 b g cap dv ts xb x W.heap.size W1.heap.size #[.int .i64 0,.string ⟨#[]⟩,.int .i64 0,.int .i64 0,.int .i64 0,.slice none 0 0,.string ⟨#[]⟩,.string ⟨#[]⟩,.int .i64 (P:Int)]):=Hd (by rw[hW2];exact CB.new2 h.out hbe hz1 _)
 have T0:=tk_no (b:=b) (g:=g) (cap:=cap) (dv:=dv) (xb:=xb) hc [100,101,114] ⟨#[100,101,114]⟩ rfl (by decide) (isS_one hi (by decide))
 have T1:=tk_no (b:=b) (g:=g) (cap:=cap) (dv:=dv) (xb:=xb) hc [114,101,115,101,116] ⟨#[114,101,115,101,116]⟩ rfl (by decide) (isS_one hi (by decide))
 have T2:=tk_no (b:=b) (g:=g) (cap:=cap) (dv:=dv) (xb:=xb) hc [109,101,109] ⟨#[109,101,109]⟩ rfl (by decide) (isS_one hi (by decide))
 have T3:=tk_no (b:=b) (g:=g) (cap:=cap) (dv:=dv) (xb:=xb) hc [111,110] ⟨#[111,110]⟩ rfl (by decide) (isS_one hi (by decide))
 have T4:=tk_yes (b:=b) (g:=g) (cap:=cap) (dv:=dv) (xb:=xb) hc hs0 [109,111,100,101] ⟨#[109,111,100,101]⟩ rfl (by decide) hi
 have z0:s0.code=0:=by rw[hs0];exact hc
 have C0:=st_name (b:=b) (g:=g) (cap:=cap) (dv:=dv) (xb:=xb) hu0 hs1
 have C1:Hid (s1.code=0→∀W,Hid (Cd W b g cap dv ts xb s1)→Calls prog 103 #[.pointer (some ⟨b,0,none⟩),.string ⟨#[123]⟩,.func (.func 104) #[.pointer (some ⟨b,0,none⟩)] #[]] W fun r Y=>SsRet b g cap dv ts xb W u1 s2 r Y):=Hd fun z W h=>by rw[hu1,hs2];exact behind_states b g cap dv ts xb f _ _ [123] v1 hr1 ((stays_name ts _).trans ((stays_states _ _ _ _ hr1).trans (stays_want ts [125] _))) W h z (by decide)
 have CW:=wt_one (b:=b) (g:=g) (cap:=cap) (dv:=dv) (xb:=xb) [59] ⟨#[59]⟩ rfl (by decide) hsw
 clear hmm haa t0 t1 t2 hl hx c1 c2 c3 fr hP hi hc hsw hbe hz1 hs0 hr1 hu0 hs1 hu1 hs2
 have z0':=Hd z0
 go_enter Tryz.func89,Tryz.ntmps89
 go_wp2_with (first
  | (go_at_call 49;rw[←hW1];(with_reducible refine F0.out.mono ?_);rintro e w1 ⟨rfl,rfl⟩;clear hW1)
  | (go_at_call 62;rw[←hW2];clear hW2 c0 t3;(with_reducible refine(T0.out _ (Hd HB.out.cd)).mono ?_);rintro e wt0 ⟨rfl,hr1,hk1⟩;replace HB:=Hd (HB.out.call hr1 hk1);clear hr1 hk1)
  | (go_at_call 62;(with_reducible refine(T1.out _ (Hd HB.out.cd)).mono ?_);rintro e wt1 ⟨rfl,hr1,hk1⟩;replace HB:=Hd (HB.out.call hr1 hk1);clear hr1 hk1)
  | (go_at_call 62;(with_reducible refine(T2.out _ (Hd HB.out.cd)).mono ?_);rintro e wt2 ⟨rfl,hr1,hk1⟩;replace HB:=Hd (HB.out.call hr1 hk1);clear hr1 hk1)
  | (go_at_call 62;(with_reducible refine(T3.out _ (Hd HB.out.cd)).mono ?_);rintro e wt3 ⟨rfl,hr1,hk1⟩;replace HB:=Hd (HB.out.call hr1 hk1);clear hr1 hk1)
  | (go_at_call 62;(with_reducible refine(T4.out _ (Hd HB.out.cd)).mono ?_);rintro e wt4 ⟨rfl,hr1,hk1⟩;replace HB:=Hd (HB.out.call hr1 hk1);clear hr1 hk1;obtain⟨⟨y0,y1,y2,y3,y4,y5,y6,y7,y8⟩,yf⟩:=rgCells HB.out.box;have f0:=yf 0;clear yf)
  | (go_at_call 63;obtain⟨V0,hV0⟩:∃V0,V0=wt4.setCell ⟨W1.heap.size,0,none⟩ (.int .i64 6):=⟨_,rfl⟩;have HV:Hid (CB W V0 b g cap dv ts xb s0 W.heap.size W1.heap.size #[.int .i64 6,.string ⟨#[]⟩,.int .i64 0,.int .i64 0,.int .i64 0,.slice none 0 0,.string ⟨#[]⟩,.string ⟨#[]⟩,.int .i64 (P:Int)]):=Hd (by rw[hV0];exact HB.out.set 0 _ rfl);clear HB;have HB:=HV;clear HV;rw[←hV0];clear hV0 y0 y1 y2 y3 y4 y5 y6 y7 y8 f0;(with_reducible refine(C0.out z0 _ (Hd HB.out.cd)).mono ?_);rintro e ws0 hh;rcases hh.two with ⟨z1,rfl,hr1,hk1⟩ | ⟨z1,rfl,hk1⟩;rotate_left;exact⟨rfl,CiRet.bad (HB.out.rx.trans hk1.out) z1 K1.out⟩;replace HB:=Hd (HB.out.call hr1 hk1);clear hr1 hk1)
  | (go_at_call 103;(with_reducible refine(C1.out z1 _ (Hd HB.out.cd)).mono ?_);rintro e ws1 hh;rcases hh with ⟨z2,o5,c5,rfl,hr1,hk1,how⟩ | ⟨z2,rfl,hk1⟩;rotate_left;exact⟨rfl,CiRet.bad (HB.out.rx.trans hk1.out) z2 K2.out⟩;have HOW:=Hd (own_base how.out HB.out.rx.size);clear how;replace HB:=Hd (HB.out.call hr1 hk1);clear hr1 hk1;obtain⟨⟨y0,y1,y2,y3,y4,y5,y6,y7,y8⟩,yf⟩:=rgCells HB.out.box;have f1:=yf 1;have f5:=yf 5;clear yf))
 obtain⟨V,hV⟩:∃V,V=((ws1.setCell ⟨W1.heap.size,1,none⟩ (.string u0)).setCell ⟨W1.heap.size,5,none⟩ (.slice o5 u1.length c5)):=⟨_,rfl⟩
 have HV:Hid (CB W V b g cap dv ts xb s2 W.heap.size W1.heap.size #[.int .i64 6,.string u0,.int .i64 0,.int .i64 0,.int .i64 0,.slice o5 u1.length c5,.string ⟨#[]⟩,.string ⟨#[]⟩,.int .i64 (P:Int)]):=Hd (by rw[hV];exact((HB.out.set 1 _ rfl).set 5 _ rfl))
 have HO:Hid (V.ownsRow W.heap.size 9 1 (.slice o5 u1.length c5) u1.length (u1.map .string)):=Hd (by rw[hV];exact own_but HOW.out HB.out.box (by decide) (((But.refl _ _).set 1 _).set 5 _))
 rw[←hV,show ws1.heap.size=V.heap.size by rw[hV];simp]
 clear hV HB y0 y1 y2 y3 y4 y5 y6 y7 y8 f1 f5
 refine(CW.out z2 V (Hd HV.out.cd)).mono ?_
 rintro e w5 hh
 rcases hh.two with ⟨z5,rfl,hr5,hk5⟩ | ⟨z5,rfl,hk5⟩
 rotate_left
 ·exact⟨rfl,CiRet.bad (HV.out.rx.trans hk5.out) z5 (Stays.refl _)⟩
 dsimp only
 have HE:=Hd (HV.out.call hr5 hk5)
 obtain⟨⟨y0,y1,y2,y3,y4,y5,y6,y7,y8⟩,_⟩:=rgCells HE.out.box
 obtain⟨⟨q0,q1,q2,q3,q4,q5,q6,q7,q8⟩,qf⟩:=rgCells HE.out.zero
 have g0:=qf 0;have g1:=qf 1;have g2:=qf 2;have g3:=qf 3;have g4:=qf 4;have g5:=qf 5;have g6:=qf 6;have g7:=qf 7;have g8:=qf 8
 clear qf
 go_wp2_with fail
 obtain⟨r1,r2,r3,r4⟩:=HE.out.told (.int .i64 6) (.string u0) (.int .i64 0) (.int .i64 0) (.int .i64 0) (.slice o5 u1.length c5) (.string ⟨#[]⟩) (.string ⟨#[]⟩) (.int .i64 (P:Int))
 obtain⟨⟨x0,x1,x2,x3,x4,x5,x6,x7,x8⟩,_⟩:=rgCells r1
 unfold set9 at x0 x1 x2 x3 x4 x5 x6 x7 x8
 exact bodyPost_ret (v:=.agg #[.int .i64 6,.string u0,.int .i64 0,.int .i64 0,.int .i64 0,.slice o5 u1.length c5,.string ⟨#[]⟩,.string ⟨#[]⟩,.int .i64 (P:Int)]) (by simp[results,Tryz.results89,go_sem,x0,x1,x2,x3,x4,x5,x6,x7,x8]) rfl ⟨r3,.inl ⟨z5,o5,u1.length,c5,rfl,r2,own_but (own_keepT HO.out (by decide) HE.out.hb hk5.out.rk) HE.out.zero (by decide) r4⟩⟩
end Go.Proofs.YtlbhlncipajapaaGreatDoor
