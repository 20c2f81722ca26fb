import Derived.Test.YtlbhlncipajapaaGreatDoorPt28
import Derived.Test.YtlbhlncipajapaaGreatDoorPt29
set_option maxHeartbeats 16000000
set_option maxRecDepth 100000
set_option linter.unusedVariables false
open Go.Proofs.Tryz(prog)
namespace Go.Proofs.YtlbhlncipajapaaGreatDoor
open Go.RowKit Lx
def deZ:Array Value:=#[.int .i64 0,.string ⟨#[]⟩,.slice none 0 0,.slice none 0 0,.int .i64 0,.int .i64 0,.int .i64 0]
structure DC (W0 Y:World) (b g cap:Nat) (dv:Value) (ts:List Tok) (xb:Nat→Prop) (σ:RS) (A D:Nat) (c:Array Value) (ps:List Pa) (pv:Value) (is:List It) (iv:Value):Prop where
 cd:Cd Y b g cap dv ts xb σ
 rx:RX b xb W0 Y
 zero:Y.heap[A]?=some (.cells deZ 57 (0,0))
 box:Y.heap[D]?=some (.cells c 57 (0,0))
 hA:W0.heap.size≤A
 hD:W0.heap.size≤D
 hne:A≠D
 hb:b<W0.heap.size
 hx:∀k,xb k→k<W0.heap.size
 pa:Y.ownsRow W0.heap.size 62 2 pv ps.length (paC ps)
 it:ItsOwn Y W0.heap.size iv is
theorem DC.call {W0 Y Z:World} {b g cap:Nat} {dv:Value} {ts:List Tok} {xb:Nat→Prop} {σ τ:RS} {A D:Nat} {c:Array Value} {ps:List Pa} {pv:Value} {is:List It} {iv:Value} (h:DC W0 Y b g cap dv ts xb σ A D c ps pv is iv) (hr:Hid (Cd Z b g cap dv ts xb τ)) (hk:Hid (RX b xb Y Z)):DC W0 Z b g cap dv ts xb τ A D c ps pv is iv :=
 ⟨hr.out,h.rx.trans hk.out,hk.out.keep A _ h.zero (by have:=h.hA;have:=h.hb;omega) (.of (by decide)),hk.out.keep D _ h.box (by have:=h.hD;have:=h.hb;omega) (.of (by decide)),h.hA,h.hD,h.hne,h.hb,h.hx,own_keepT h.pa (by decide) h.hb hk.out.rk,h.it.keep h.hb hk.out.rk⟩
theorem DC.set {W0 Y:World} {b g cap:Nat} {dv:Value} {ts:List Tok} {xb:Nat→Prop} {σ:RS} {A D:Nat} {c:Array Value} {ps:List Pa} {pv:Value} {is:List It} {iv:Value} (h:DC W0 Y b g cap dv ts xb σ A D c ps pv is iv) (i:Nat) (v:Value) {c':Array Value} (he:c.setIfInBounds i v=c'):DC W0 (Y.setCell ⟨D,i,none⟩ v) b g cap dv ts xb σ A D c' ps pv is iv:=by
 have hA:=h.hA
 have hD:=h.hD
 have hb:=h.hb
 have hbut:But D Y (Y.setCell ⟨D,i,none⟩ v):=(But.refl _ _).set i v
 exact⟨h.cd.but h.box (by decide) (by decide) (by omega) hbut,h.rx.but h.hx hD (by omega) hb hbut,(Below.heap_setCell Y ⟨D,i,none⟩ v A (by simpa using h.hne)).trans h.zero,by rw[set_blk h.box,he],h.hA,h.hD,h.hne,h.hb,h.hx,own_but h.pa h.box (by decide) hbut,its_but h.it h.box hbut⟩
theorem DC.pas {W0 Y:World} {b g cap:Nat} {dv:Value} {ts:List Tok} {xb:Nat→Prop} {σ:RS} {A D:Nat} {c:Array Value} {ps ps':List Pa} {pv pv':Value} {is:List It} {iv:Value} (h:DC W0 Y b g cap dv ts xb σ A D c ps pv is iv) (hp:Y.ownsRow W0.heap.size 62 2 pv' ps'.length (paC ps')):DC W0 Y b g cap dv ts xb σ A D c ps' pv' is iv:={ h with pa:=hp }
theorem DC.its {W0 Y:World} {b g cap:Nat} {dv:Value} {ts:List Tok} {xb:Nat→Prop} {σ:RS} {A D:Nat} {c:Array Value} {ps:List Pa} {pv:Value} {is is':List It} {iv iv':Value} (h:DC W0 Y b g cap dv ts xb σ A D c ps pv is iv) (hp:ItsOwn Y W0.heap.size iv' is'):DC W0 Y b g cap dv ts xb σ A D c ps pv is' iv':={ h with it:=hp }
theorem DC.new {W:World} {b g cap:Nat} {dv:Value} {ts:List Tok} {xb:Nat→Prop} {σ:RS} (h:Cd W b g cap dv ts xb σ) (c:Array Value):DC W ((W.alloc (.cells deZ 57)).alloc (.cells c 57)) b g cap dv ts xb σ W.heap.size (W.heap.size+1) c [] (.slice none 0 0) [] (.slice none 0 0):=by
 have hb:Below W.heap.size W ((W.alloc (.cells deZ 57)).alloc (.cells c 57)):=((qB _ _).alloc (qL _) _).alloc (by simp) _
 refine⟨h.below hb,RX.of_below hb (ql h.size) h.xlt,?_,?_,qL _,Nat.le_succ _,by omega,h.size,h.xlt,qO _ _ _ _,ItsOwn.nil _ _⟩
 ·rw[heap_alloc_old _ _ (by simp)];exact heap_alloc_new W _
 ·have:=heap_alloc_new (W.alloc (.cells deZ 57)) (.cells c 57)
  rw[World.size_alloc] at this
  exact this
def CdeRet (b g cap:Nat) (dv:Value) (ts:List Tok) (xb:Nat→Prop) (W:World) (x:De) (σ:RS) (r:Ending) (Y:World):Prop :=
 RX b xb W Y∧((σ.code=0∧(∃po pc io ic,r=.returned (.agg #[.int .i64 x.kind,.string x.name,.slice po x.params.length pc,.slice io x.items.length ic,.int .i64 x.type,.int .i64 x.e,.int .i64 x.pos])∧Cd Y b g cap dv ts xb σ∧Y.ownsRow W.heap.size 62 2 (.slice po x.params.length pc) x.params.length (paC x.params)∧ItsOwn Y W.heap.size (.slice io x.items.length ic) x.items))∨(σ.code≠0∧r=.panicked [{ v:=refusalV σ.code σ.pos,recovered:=false }]))
theorem CdeRet.bad {b g cap:Nat} {dv:Value} {ts:List Tok} {xb:Nat→Prop} {W:World} {x:De} {σ τ:RS} {Y:World} (hk:RX b xb W Y) (hc:σ.code≠0) (hs:Stays σ τ):CdeRet b g cap dv ts xb W x τ (.panicked [{ v:=refusalV σ.code σ.pos,recovered:=false }]) Y:=by
 obtain⟨h1,h2⟩:=hs hc
 exact⟨hk,.inr ⟨by rw[h1];exact hc,by rw[h1,h2]⟩⟩
theorem DC.told {W0 Y:World} {b g cap:Nat} {dv:Value} {ts:List Tok} {xb:Nat→Prop} {σ:RS} {A D:Nat} {c:Array Value} {ps:List Pa} {pv:Value} {is:List It} {iv:Value} (h:DC W0 Y b g cap dv ts xb σ A D c ps pv is iv) (x0 x1 x2 x3 x4 x5 x6:Value) :
  (set7 Y A x0 x1 x2 x3 x4 x5 x6).heap[A]?=some (.cells #[x0,x1,x2,x3,x4,x5,x6] 57 (0,0))∧Cd (set7 Y A x0 x1 x2 x3 x4 x5 x6) b g cap dv ts xb σ∧RX b xb W0 (set7 Y A x0 x1 x2 x3 x4 x5 x6)∧(set7 Y A x0 x1 x2 x3 x4 x5 x6).ownsRow W0.heap.size 62 2 pv ps.length (paC ps)∧ItsOwn (set7 Y A x0 x1 x2 x3 x4 x5 x6) W0.heap.size iv is:=by
 have hA:=h.hA
 have hb:=h.hb
 have hbut:=set7_but Y A x0 x1 x2 x3 x4 x5 x6
 exact⟨set7_box h.zero _ _ _ _ _ _ _,h.cd.but h.zero (by decide) (by decide) (by omega) hbut,h.rx.but h.hx hA (by omega) hb hbut,own_but h.pa h.zero (by decide) hbut,its_but h.it h.zero hbut⟩
theorem stays_its {ts:List Tok} {f:Nat} {all:Bool} {n:Nat} {σ:RS} {R:List It×RS} (h:itsL ts f all n [] σ=some R):Stays σ R.2:=by
 intro hc
 obtain⟨k,rfl,_,hh⟩:=itsL_cases h
 rcases hh with ⟨h1,_⟩ | ⟨h1,_⟩ | ⟨_,h1⟩
 ·exact absurd h1 hc
 ·exact absurd h1 hc
 ·rw[h1];exact⟨rfl,rfl⟩
theorem behind_items (b g cap:Nat) (dv:Value) (ts:List Tok) (xb:Nat→Prop) (f:Nat) (σ:RS) (s:List UInt8) (R:List It×RS) (hr:itsL ts f true f [] (wantS ts s σ)=some R) (W:World) (h:Hid (Cd W b g cap dv ts xb σ)) (hc:σ.code=0) (hs:s ∈ sgL) :
  Calls prog 68 #[.pointer (some ⟨b,0,none⟩),.string (str s),.func (.func 70) #[.pointer (some ⟨b,0,none⟩)] #[]] W fun r Y=>CisRet b g cap dv ts xb W R.1 R.2 (wantS ts [125] R.2) r Y:=by
 refine behind_its b g cap dv ts xb σ s _ _ W h hc hs enters_items (fun hw r Y hh=>?_) fun hw W' h' hk=>?_
 ·obtain⟨h1,h2⟩:=((stays_its hr).trans (stays_want ts [125] _)) hw
  exact .inr ⟨by rw[h1];exact hw,by rw[h1,h2];exact hh.1,hh.2⟩
 ·exact(citems_any b g cap dv ts xb _ hw f f R hr W' h').mono fun r Y hh=>by
   rcases hh with ⟨z,z2,o,c,h1,h2⟩ | ⟨z,h1,h2⟩
   ·exact .inl ⟨z,z2,o,c,h1,Hd ⟨h2.out.cd,hk.out.trans h2.out.rx,h2.out.own.base hk.out.size⟩⟩
   ·exact .inr ⟨z,h1,Hd (hk.out.trans h2.out)⟩
theorem behind_lets (b g cap:Nat) (dv:Value) (ts:List Tok) (xb:Nat→Prop) (f:Nat) (σ:RS) (s:List UInt8) (R:List It×RS) (hr:itsL ts f false f [] (wantS ts s σ)=some R) (W:World) (h:Hid (Cd W b g cap dv ts xb σ)) (hc:σ.code=0) (hs:s ∈ sgL) :
  Calls prog 68 #[.pointer (some ⟨b,0,none⟩),.string (str s),.func (.func 69) #[.pointer (some ⟨b,0,none⟩)] #[]] W fun r Y=>CisRet b g cap dv ts xb W R.1 R.2 R.2 r Y:=by
 refine behind_its b g cap dv ts xb σ s _ _ W h hc hs enters_lets (fun hw r Y hh=>?_) fun hw W' h' hk=>?_
 ·obtain⟨h1,h2⟩:=(stays_its hr) hw
  exact .inr ⟨by rw[h1];exact hw,by rw[h1,h2];exact hh.1,hh.2⟩
 ·exact(clets_any b g cap dv ts xb _ hw f f R hr W' h').mono fun r Y hh=>by
   rcases hh with ⟨z,z2,o,c,h1,h2⟩ | ⟨z,h1,h2⟩
   ·exact .inl ⟨z,z2,o,c,h1,Hd ⟨h2.out.cd,hk.out.trans h2.out.rx,h2.out.own.base hk.out.size⟩⟩
   ·exact .inr ⟨z,h1,Hd (hk.out.trans h2.out)⟩
theorem cde_fun (b g cap:Nat) (dv:Value) (ts:List Tok) (xb:Nat→Prop) (f:Nat) (x:RS) (hc:x.code=0) (hi:isS ts [102,117,110] x=true) (v1:List Pa) (t1:RS) (hr1:paramsS ts f (nameS ts (stepS x))=some (v1,t1)) (v3:Int) (l3:List Int) (t3:RS) (hr3:runE ts f .expr (wantS ts [61] (kindS ts (wantS ts [58] t1)))=some (v3,l3,t3)) (W:World) (h:Hid (Cd W b g cap dv ts xb x)) :
  Calls prog 34 #[.pointer (some ⟨b,0,none⟩)] W fun r Y=>CdeRet b g cap dv ts xb W ⟨1,str (nameV ts (stepS x)),v1,[],kindV ts (wantS ts [58] t1),v3,((tokL ts x.at_).at_:Int)⟩ (wantS ts [59] t3) r Y:=by
 obtain⟨P,hP⟩:∃P,P=(tokL ts x.at_).at_:=⟨_,rfl⟩
 rw[←hP]
 obtain⟨s0,hs0⟩:∃s0,s0=stepS x:=⟨_,rfl⟩
 try rw[←hs0]
 try rw[←hs0] at hr1
 obtain⟨u0,hu0⟩:∃u:ByteArray,u=str (nameV ts s0):=⟨_,rfl⟩
 obtain⟨s1,hs1⟩:∃s1,s1=nameS ts s0:=⟨_,rfl⟩
 try rw[←hu0]
 try rw[←hs1]
 try rw[←hs1] at hr1
 obtain⟨u1,hu1⟩:∃u:List Pa,u=v1:=⟨_,rfl⟩
 obtain⟨s2,hs2⟩:∃s2,s2=t1:=⟨_,rfl⟩
 try rw[←hu1]
 try rw[←hs2]
 try rw[←hs2] at hr3
 obtain⟨u2,hu2⟩:∃u:Int,u=kindV ts (wantS ts [58] s2):=⟨_,rfl⟩
 obtain⟨s3,hs3⟩:∃s3,s3=kindS ts (wantS ts [58] s2):=⟨_,rfl⟩
 try rw[←hu2]
 try rw[←hs3]
 try rw[←hs3] at hr3
 obtain⟨u3,hu3⟩:∃u:Int,u=v3:=⟨_,rfl⟩
 obtain⟨s4,hs4⟩:∃s4,s4=t3:=⟨_,rfl⟩
 try rw[←hu3]
 try rw[←hs4]
 obtain⟨sw,hsw⟩:∃sw,sw=(wantS ts [59] s4):=⟨_,rfl⟩
 rw[←hsw]
 have K4:Hid (Stays s4 sw):=Hd (by rw[hsw];exact stays_want ts [59] _)
 have K3:Hid (Stays s3 sw):=Hd (by have:=(stays_want ts [61] s3).trans (stuck ts f .expr _ _ hr3);rw[hs4] at K4;exact this.trans K4.out)
 have K2:Hid (Stays s2 sw):=Hd (by have:=(stays_want ts [58] s2).trans (stays_kind ts _);rw[←hs3] at this;exact this.trans K3.out)
 have K1:Hid (Stays s1 sw):=Hd (by have:=stays_params hr1;rw[hs2] at K2;exact this.trans K2.out)
 have K0:Hid (Stays s0 sw):=Hd (by have:=stays_name ts s0;rw[←hs1] at this;exact this.trans K1.out)
 obtain⟨o,c,⟨c0,c1,c2,c3,fr⟩,hx⟩:=h.out.cells
 obtain⟨tkA,tkB,tkC,tkD⟩:=h.out.tok
 have hl:=h.out.at_
 have hbs:=h.out.size
 have hgs:g<W.heap.size:=by have:=h.out.lt;omega
 obtain⟨m,hmm⟩:∃m,m=ts.length-x.at_:=⟨_,rfl⟩
 obtain⟨a4,haa⟩:∃a4,a4=x.at_*4:=⟨_,rfl⟩
 rw[←hmm,←haa] at c0
 rw[←hP,←haa] at tkD
 have k0:(0:Int)<(m:Int):=by omega
 obtain⟨W2,hW2⟩:∃W2,W2=(W.alloc (.cells #[.int .i64 0,.string ⟨#[]⟩,.slice none 0 0,.slice none 0 0,.int .i64 0,.int .i64 0,.int .i64 0] 57)).alloc (.cells #[.int .i64 0,.string ⟨#[]⟩,.slice none 0 0,.slice none 0 0,.int .i64 0,.int .i64 0,.int .i64 (P:Int)] 57):=⟨_,rfl⟩
 have HB:Hid (DC W W2 b g cap dv ts xb x W.heap.size (W.heap.size+1) #[.int .i64 0,.string ⟨#[]⟩,.slice none 0 0,.slice none 0 0,.int .i64 0,.int .i64 0,.int .i64 (P:Int)] [] (.slice none 0 0) [] (.slice none 0 0)):=Hd (by rw[hW2];exact DC.new h.out _)
 have T0:=tk_yes (b:=b) (g:=g) (cap:=cap) (dv:=dv) (xb:=xb) hc hs0 [102,117,110] ⟨#[102,117,110]⟩ rfl (by decide) hi
 have z0:s0.code=0:=by rw[hs0];exact hc
 have C0:=st_name (b:=b) (g:=g) (cap:=cap) (dv:=dv) (xb:=xb) hu0 hs1
 have C1:Hid (s1.code=0→∀W,Hid (Cd W b g cap dv ts xb s1)→Calls prog 64 #[.pointer (some ⟨b,0,none⟩)] W fun r Y=>CpRet b g cap dv ts xb W u1 s2 r Y):=Hd fun z W h=>by rw[hu1,hs2];exact cparams_any b g cap dv ts xb f _ z (v1,t1) hr1 W h
 have C2:=bh_types (b:=b) (g:=g) (cap:=cap) (dv:=dv) (xb:=xb) [58] ⟨#[58]⟩ rfl (by decide) hu2 hs3
 have C3:=bh_expr (b:=b) (g:=g) (cap:=cap) (dv:=dv) (xb:=xb) [61] ⟨#[61]⟩ rfl (by decide) hr3 hu3 hs4
 have CW:=wt_one (b:=b) (g:=g) (cap:=cap) (dv:=dv) (xb:=xb) [59] ⟨#[59]⟩ rfl (by decide) hsw
 clear hmm haa tkA tkB tkC hl hx c1 c2 c3 fr hP hi hc hsw hs0 hr1 hr3 hu0 hs1 hu1 hs2 hu2 hs3 hu3 hs4
 go_enter Tryz.func34,Tryz.ntmps34
 go_wp2_with (first
  | (go_at_call 62;rw[←hW2];clear hW2 c0 tkD;(with_reducible refine(T0.out _ (Hd HB.out.cd)).mono ?_);rintro e wt0 ⟨rfl,hr1,hk1⟩;replace HB:=Hd (HB.out.call hr1 hk1);clear hr1 hk1;obtain⟨⟨y0,y1,y2,y3,y4,y5,y6⟩,yf⟩:=dgCells HB.out.box;have f0:=yf 0;clear yf)
  | (go_at_call 63;obtain⟨V0,hV0⟩:∃V0,V0=wt0.setCell ⟨W.heap.size+1,0,none⟩ (.int .i64 1):=⟨_,rfl⟩;have HV:Hid (DC W V0 b g cap dv ts xb s0 W.heap.size (W.heap.size+1) #[.int .i64 1,.string ⟨#[]⟩,.slice none 0 0,.slice none 0 0,.int .i64 0,.int .i64 0,.int .i64 (P:Int)] [] (.slice none 0 0) [] (.slice none 0 0)):=Hd (by rw[hV0];exact HB.out.set 0 _ rfl);clear HB;have HB:=HV;clear HV;rw[←hV0];clear hV0 y0 y1 y2 y3 y4 y5 y6 f0;(with_reducible refine(C0.out z0 _ (Hd HB.out.cd)).mono ?_);rintro e ws0 hh;rcases hh.two with ⟨z1,rfl,hr1,hk1⟩ | ⟨z1,rfl,hk1⟩;rotate_left;exact⟨rfl,CdeRet.bad (HB.out.rx.trans hk1.out) z1 K1.out⟩;replace HB:=Hd (HB.out.call hr1 hk1);clear hr1 hk1)
  | (go_at_call 64;(with_reducible refine(C1.out z1 _ (Hd HB.out.cd)).mono ?_);rintro e ws1 hh;rcases hh with ⟨z2,po,pc,rfl,hr1,hk1,how⟩ | ⟨z2,rfl,hk1⟩;rotate_left;exact⟨rfl,CdeRet.bad (HB.out.rx.trans hk1.out) z2 K2.out⟩;replace HB:=Hd ((HB.out.call hr1 hk1).pas (own_base how.out HB.out.rx.size));clear hr1 hk1 how)
  | (go_at_call 65;(with_reducible refine(C2.out z2 _ (Hd HB.out.cd)).mono ?_);rintro e ws2 hh;rcases hh.two with ⟨z3,rfl,hr1,hk1⟩ | ⟨z3,rfl,hk1⟩;rotate_left;exact⟨rfl,CdeRet.bad (HB.out.rx.trans hk1.out) z3 K3.out⟩;replace HB:=Hd (HB.out.call hr1 hk1);clear hr1 hk1)
  | (go_at_call 65;(with_reducible refine(C3.out z3 _ (Hd HB.out.cd)).mono ?_);rintro e ws3 hh;rcases hh.two with ⟨z4,rfl,hr1,hk1⟩ | ⟨z4,rfl,hk1⟩;rotate_left;exact⟨rfl,CdeRet.bad (HB.out.rx.trans hk1.out) z4 K4.out⟩;replace HB:=Hd (HB.out.call hr1 hk1);clear hr1 hk1;obtain⟨⟨y0,y1,y2,y3,y4,y5,y6⟩,yf⟩:=dgCells HB.out.box;have f1:=yf 1;have f2:=yf 2;have f4:=yf 4;have f5:=yf 5;clear yf))
 obtain⟨V,hV⟩:∃V,V=((((ws3.setCell ⟨W.heap.size+1,1,none⟩ (.string u0)).setCell ⟨W.heap.size+1,2,none⟩ (.slice po u1.length pc)).setCell ⟨W.heap.size+1,4,none⟩ (.int .i64 u2)).setCell ⟨W.heap.size+1,5,none⟩ (.int .i64 u3)):=⟨_,rfl⟩
 have HV:Hid (DC W V b g cap dv ts xb s4 W.heap.size (W.heap.size+1) #[.int .i64 1,.string u0,.slice po u1.length pc,.slice none 0 0,.int .i64 u2,.int .i64 u3,.int .i64 (P:Int)] u1 (.slice po u1.length pc) [] (.slice none 0 0)):=Hd (by rw[hV];exact((((HB.out.set 1 _ rfl).set 2 _ rfl).set 4 _ rfl).set 5 _ rfl))
 rw[←hV,show ws3.heap.size=V.heap.size by rw[hV];simp]
 clear hV HB y0 y1 y2 y3 y4 y5 y6 f1 f2 f4 f5
 refine(CW.out z4 V (Hd HV.out.cd)).mono ?_
 rintro e w5 hh
 rcases hh.two with ⟨zz,rfl,hr5,hk5⟩ | ⟨zz,rfl,hk5⟩
 rotate_left
 ·exact⟨rfl,CdeRet.bad (HV.out.rx.trans hk5.out) zz (Stays.refl _)⟩
 dsimp only
 have HE:=Hd (HV.out.call hr5 hk5)
 obtain⟨⟨y0,y1,y2,y3,y4,y5,y6⟩,_⟩:=dgCells HE.out.box
 have hz0:=HE.out.zero
 unfold deZ at hz0
 obtain⟨⟨q0,q1,q2,q3,q4,q5,q6⟩,qf⟩:=dgCells hz0
 have g0:=qf 0;have g1:=qf 1;have g2:=qf 2;have g3:=qf 3;have g4:=qf 4;have g5:=qf 5;have g6:=qf 6
 clear qf hz0
 go_wp2_with fail
 obtain⟨r1,r2,r3,r4,r5⟩:=HE.out.told (.int .i64 1) (.string u0) (.slice po u1.length pc) (.slice none 0 0) (.int .i64 u2) (.int .i64 u3) (.int .i64 (P:Int))
 obtain⟨⟨x0,x1,x2,x3,x4,x5,x6⟩,_⟩:=dgCells r1
 unfold set7 at x0 x1 x2 x3 x4 x5 x6
 exact bodyPost_ret (v:=.agg #[.int .i64 1,.string u0,.slice po u1.length pc,.slice none 0 0,.int .i64 u2,.int .i64 u3,.int .i64 (P:Int)]) (by simp[results,Tryz.results34,go_sem,x0,x1,x2,x3,x4,x5,x6]) rfl ⟨r3,.inl ⟨zz,po,pc,none,0,rfl,r2,r4,r5⟩⟩
theorem cde_node (b g cap:Nat) (dv:Value) (ts:List Tok) (xb:Nat→Prop) (f:Nat) (x:RS) (hc:x.code=0) (hi:isS ts [110,111,100,101] x=true) (v1:List Pa) (t1:RS) (hr1:paramsS ts f (nameS ts (stepS x))=some (v1,t1)) (v3:List It) (t3:RS) (hr3:itsL ts f false f [] (wantS ts [123] (kindS ts (wantS ts [58] t1)))=some (v3,t3)) (v4:Int) (l4:List Int) (t4:RS) (hr4:runE ts f .expr (wantS ts [114,101,116,117,114,110] t3)=some (v4,l4,t4)) (W:World) (h:Hid (Cd W b g cap dv ts xb x)) :
  Calls prog 34 #[.pointer (some ⟨b,0,none⟩)] W fun r Y=>CdeRet b g cap dv ts xb W ⟨2,str (nameV ts (stepS x)),v1,v3,kindV ts (wantS ts [58] t1),v4,((tokL ts x.at_).at_:Int)⟩ (wantS ts [125] (wantS ts [59] t4)) r Y:=by
 obtain⟨P,hP⟩:∃P,P=(tokL ts x.at_).at_:=⟨_,rfl⟩
 rw[←hP]
 obtain⟨s0,hs0⟩:∃s0,s0=stepS x:=⟨_,rfl⟩
 try rw[←hs0]
 try rw[←hs0] at hr1
 obtain⟨u0,hu0⟩:∃u:ByteArray,u=str (nameV ts s0):=⟨_,rfl⟩
 obtain⟨s1,hs1⟩:∃s1,s1=nameS ts s0:=⟨_,rfl⟩
 try rw[←hu0]
 try rw[←hs1]
 try rw[←hs1] at hr1
 obtain⟨u1,hu1⟩:∃u:List Pa,u=v1:=⟨_,rfl⟩
 obtain⟨s2,hs2⟩:∃s2,s2=t1:=⟨_,rfl⟩
 try rw[←hu1]
 try rw[←hs2]
 try rw[←hs2] at hr3
 obtain⟨u2,hu2⟩:∃u:Int,u=kindV ts (wantS ts [58] s2):=⟨_,rfl⟩
 obtain⟨s3,hs3⟩:∃s3,s3=kindS ts (wantS ts [58] s2):=⟨_,rfl⟩
 try rw[←hu2]
 try rw[←hs3]
 try rw[←hs3] at hr3
 obtain⟨u3,hu3⟩:∃u:List It,u=v3:=⟨_,rfl⟩
 obtain⟨s4,hs4⟩:∃s4,s4=t3:=⟨_,rfl⟩
 try rw[←hu3]
 try rw[←hs4]
 try rw[←hs4] at hr4
 obtain⟨u4,hu4⟩:∃u:Int,u=v4:=⟨_,rfl⟩
 obtain⟨s5,hs5⟩:∃s5,s5=t4:=⟨_,rfl⟩
 try rw[←hu4]
 try rw[←hs5]
 obtain⟨sw,hsw⟩:∃sw,sw=(wantS ts [125] (wantS ts [59] s5)):=⟨_,rfl⟩
 rw[←hsw]
 have K5:Hid (Stays s5 sw):=Hd (by rw[hsw];exact(stays_want ts [59] _).trans (stays_want ts [125] _))
 have K4:Hid (Stays s4 sw):=Hd (by have:=(stays_want ts [114,101,116,117,114,110] s4).trans (stuck ts f .expr _ _ hr4);rw[hs5] at K5;exact this.trans K5.out)
 have K3:Hid (Stays s3 sw):=Hd (by have:=(stays_want ts [123] s3).trans (stays_its hr3);rw[hs4] at K4;exact this.trans K4.out)
 have K2:Hid (Stays s2 sw):=Hd (by have:=(stays_want ts [58] s2).trans (stays_kind ts _);rw[←hs3] at this;exact this.trans K3.out)
 have K1:Hid (Stays s1 sw):=Hd (by have:=stays_params hr1;rw[hs2] at K2;exact this.trans K2.out)
 have K0:Hid (Stays s0 sw):=Hd (by have:=stays_name ts s0;rw[←hs1] at this;exact this.trans K1.out)
 obtain⟨o,c,⟨c0,c1,c2,c3,fr⟩,hx⟩:=h.out.cells
 obtain⟨tkA,tkB,tkC,tkD⟩:=h.out.tok
 have hl:=h.out.at_
 have hbs:=h.out.size
 have hgs:g<W.heap.size:=by have:=h.out.lt;omega
 obtain⟨m,hmm⟩:∃m,m=ts.length-x.at_:=⟨_,rfl⟩
 obtain⟨a4,haa⟩:∃a4,a4=x.at_*4:=⟨_,rfl⟩
 rw[←hmm,←haa] at c0
 rw[←hP,←haa] at tkD
 have k0:(0:Int)<(m:Int):=by omega
 obtain⟨W2,hW2⟩:∃W2,W2=(W.alloc (.cells #[.int .i64 0,.string ⟨#[]⟩,.slice none 0 0,.slice none 0 0,.int .i64 0,.int .i64 0,.int .i64 0] 57)).alloc (.cells #[.int .i64 0,.string ⟨#[]⟩,.slice none 0 0,.slice none 0 0,.int .i64 0,.int .i64 0,.int .i64 (P:Int)] 57):=⟨_,rfl⟩
 have HB:Hid (DC W W2 b g cap dv ts xb x W.heap.size (W.heap.size+1) #[.int .i64 0,.string ⟨#[]⟩,.slice none 0 0,.slice none 0 0,.int .i64 0,.int .i64 0,.int .i64 (P:Int)] [] (.slice none 0 0) [] (.slice none 0 0)):=Hd (by rw[hW2];exact DC.new h.out _)
 have T0:=tk_no (b:=b) (g:=g) (cap:=cap) (dv:=dv) (xb:=xb) hc [102,117,110] ⟨#[102,117,110]⟩ rfl (by decide) (isS_one hi (by decide))
 have T1:=tk_yes (b:=b) (g:=g) (cap:=cap) (dv:=dv) (xb:=xb) hc hs0 [110,111,100,101] ⟨#[110,111,100,101]⟩ rfl (by decide) hi
 have z0:s0.code=0:=by rw[hs0];exact hc
 have C0:=st_name (b:=b) (g:=g) (cap:=cap) (dv:=dv) (xb:=xb) hu0 hs1
 have C1:Hid (s1.code=0→∀W,Hid (Cd W b g cap dv ts xb s1)→Calls prog 64 #[.pointer (some ⟨b,0,none⟩)] W fun r Y=>CpRet b g cap dv ts xb W u1 s2 r Y):=Hd fun z W h=>by rw[hu1,hs2];exact cparams_any b g cap dv ts xb f _ z (v1,t1) hr1 W h
 have C2:=bh_types (b:=b) (g:=g) (cap:=cap) (dv:=dv) (xb:=xb) [58] ⟨#[58]⟩ rfl (by decide) hu2 hs3
 have C3:Hid (s3.code=0→∀W,Hid (Cd W b g cap dv ts xb s3)→Calls prog 68 #[.pointer (some ⟨b,0,none⟩),.string ⟨#[123]⟩,.func (.func 69) #[.pointer (some ⟨b,0,none⟩)] #[]] W fun r Y=>CisRet b g cap dv ts xb W u3 s4 s4 r Y):=Hd fun z W h=>by rw[hu3,hs4];exact behind_lets b g cap dv ts xb f _ [123] (v3,t3) hr3 W h z (by decide)
 have C4:=bh_expr (b:=b) (g:=g) (cap:=cap) (dv:=dv) (xb:=xb) [114,101,116,117,114,110] ⟨#[114,101,116,117,114,110]⟩ rfl (by decide) hr4 hu4 hs5
 have CW:Hid (s5.code=0→∀W,Hid (Cd W b g cap dv ts xb s5)→Calls prog 67 #[.pointer (some ⟨b,0,none⟩),.slice (some ⟨W.heap.size,0,none⟩) 2 2] (W.alloc (.cells #[.string ⟨#[59]⟩,.string ⟨#[125]⟩] 9)) fun r Y=>CdRet b g cap dv ts xb W (.tuple #[]) sw r Y):=Hd fun z W h=>by rw[hsw];exact wants_two b g cap dv ts xb _ [59] [125] W h z (by decide) (by decide)
 clear hmm haa tkA tkB tkC hl hx c1 c2 c3 fr hP hi hc hsw hs0 hr1 hr3 hr4 hu0 hs1 hu1 hs2 hu2 hs3 hu3 hs4 hu4 hs5
 go_enter Tryz.func34,Tryz.ntmps34
 go_wp2_with (first
  | (go_at_call 62;rw[←hW2];clear hW2 c0 tkD;(with_reducible refine(T0.out _ (Hd HB.out.cd)).mono ?_);rintro e wt0 ⟨rfl,hr1,hk1⟩;replace HB:=Hd (HB.out.call hr1 hk1);clear hr1 hk1)
  | (go_at_call 62;(with_reducible refine(T1.out _ (Hd HB.out.cd)).mono ?_);rintro e wt1 ⟨rfl,hr1,hk1⟩;replace HB:=Hd (HB.out.call hr1 hk1);clear hr1 hk1;obtain⟨⟨y0,y1,y2,y3,y4,y5,y6⟩,yf⟩:=dgCells HB.out.box;have f0:=yf 0;clear yf)
  | (go_at_call 63;obtain⟨V0,hV0⟩:∃V0,V0=wt1.setCell ⟨W.heap.size+1,0,none⟩ (.int .i64 2):=⟨_,rfl⟩;have HV:Hid (DC W V0 b g cap dv ts xb s0 W.heap.size (W.heap.size+1) #[.int .i64 2,.string ⟨#[]⟩,.slice none 0 0,.slice none 0 0,.int .i64 0,.int .i64 0,.int .i64 (P:Int)] [] (.slice none 0 0) [] (.slice none 0 0)):=Hd (by rw[hV0];exact HB.out.set 0 _ rfl);clear HB;have HB:=HV;clear HV;rw[←hV0];clear hV0 y0 y1 y2 y3 y4 y5 y6 f0;(with_reducible refine(C0.out z0 _ (Hd HB.out.cd)).mono ?_);rintro e ws0 hh;rcases hh.two with ⟨z1,rfl,hr1,hk1⟩ | ⟨z1,rfl,hk1⟩;rotate_left;exact⟨rfl,CdeRet.bad (HB.out.rx.trans hk1.out) z1 K1.out⟩;replace HB:=Hd (HB.out.call hr1 hk1);clear hr1 hk1)
  | (go_at_call 64;(with_reducible refine(C1.out z1 _ (Hd HB.out.cd)).mono ?_);rintro e ws1 hh;rcases hh with ⟨z2,po,pc,rfl,hr1,hk1,how⟩ | ⟨z2,rfl,hk1⟩;rotate_left;exact⟨rfl,CdeRet.bad (HB.out.rx.trans hk1.out) z2 K2.out⟩;replace HB:=Hd ((HB.out.call hr1 hk1).pas (own_base how.out HB.out.rx.size));clear hr1 hk1 how)
  | (go_at_call 65;(with_reducible refine(C2.out z2 _ (Hd HB.out.cd)).mono ?_);rintro e ws2 hh;rcases hh.two with ⟨z3,rfl,hr1,hk1⟩ | ⟨z3,rfl,hk1⟩;rotate_left;exact⟨rfl,CdeRet.bad (HB.out.rx.trans hk1.out) z3 K3.out⟩;replace HB:=Hd (HB.out.call hr1 hk1);clear hr1 hk1;obtain⟨⟨y0,y1,y2,y3,y4,y5,y6⟩,yf⟩:=dgCells HB.out.box;have f1:=yf 1;have f2:=yf 2;have f4:=yf 4;clear yf)
  | (go_at_call 68;obtain⟨V3,hV3⟩:∃V,V=(((ws2.setCell ⟨W.heap.size+1,1,none⟩ (.string u0)).setCell ⟨W.heap.size+1,2,none⟩ (.slice po u1.length pc)).setCell ⟨W.heap.size+1,4,none⟩ (.int .i64 u2)):=⟨_,rfl⟩;have HV:Hid (DC W V3 b g cap dv ts xb s3 W.heap.size (W.heap.size+1) #[.int .i64 2,.string u0,.slice po u1.length pc,.slice none 0 0,.int .i64 u2,.int .i64 0,.int .i64 (P:Int)] u1 (.slice po u1.length pc) [] (.slice none 0 0)):=Hd (by rw[hV3];exact(((HB.out.set 1 _ rfl).set 2 _ rfl).set 4 _ rfl));clear HB;have HB:=HV;clear HV;rw[←hV3];clear hV3 y0 y1 y2 y3 y4 y5 y6 f1 f2 f4;(with_reducible refine(C3.out z3 _ (Hd HB.out.cd)).mono ?_);rintro e ws3 hh;rcases hh with ⟨z4,zb,io,ic,rfl,hsg⟩ | ⟨zb,rfl,hk1⟩;rotate_left;exact⟨rfl,CdeRet.bad (HB.out.rx.trans hk1.out) zb K4.out⟩;replace HB:=Hd ((HB.out.call (Hd hsg.out.cd) (Hd hsg.out.rx)).its (hsg.out.own.base HB.out.rx.size));clear hsg)
  | (go_at_call 65;(with_reducible refine(C4.out z4 _ (Hd HB.out.cd)).mono ?_);rintro e ws4 hh;rcases hh.two with ⟨z5,rfl,hr1,hk1⟩ | ⟨z5,rfl,hk1⟩;rotate_left;exact⟨rfl,CdeRet.bad (HB.out.rx.trans hk1.out) z5 K5.out⟩;replace HB:=Hd (HB.out.call hr1 hk1);clear hr1 hk1;obtain⟨⟨y0,y1,y2,y3,y4,y5,y6⟩,yf⟩:=dgCells HB.out.box;have f3:=yf 3;have f5:=yf 5;clear yf))
 obtain⟨V,hV⟩:∃V,V=((ws4.setCell ⟨W.heap.size+1,3,none⟩ (.slice io u3.length ic)).setCell ⟨W.heap.size+1,5,none⟩ (.int .i64 u4)):=⟨_,rfl⟩
 have HV:Hid (DC W V b g cap dv ts xb s5 W.heap.size (W.heap.size+1) #[.int .i64 2,.string u0,.slice po u1.length pc,.slice io u3.length ic,.int .i64 u2,.int .i64 u4,.int .i64 (P:Int)] u1 (.slice po u1.length pc) u3 (.slice io u3.length ic)):=Hd (by rw[hV];exact((HB.out.set 3 _ rfl).set 5 _ rfl))
 rw[←hV,show ws4.heap.size=V.heap.size by rw[hV];simp]
 clear hV HB y0 y1 y2 y3 y4 y5 y6 f3 f5
 refine(CW.out z5 V (Hd HV.out.cd)).mono ?_
 rintro e w5 hh
 rcases hh.two with ⟨zz,rfl,hr5,hk5⟩ | ⟨zz,rfl,hk5⟩
 rotate_left
 ·exact⟨rfl,CdeRet.bad (HV.out.rx.trans hk5.out) zz (Stays.refl _)⟩
 dsimp only
 have HE:=Hd (HV.out.call hr5 hk5)
 obtain⟨⟨y0,y1,y2,y3,y4,y5,y6⟩,_⟩:=dgCells HE.out.box
 have hz0:=HE.out.zero
 unfold deZ at hz0
 obtain⟨⟨q0,q1,q2,q3,q4,q5,q6⟩,qf⟩:=dgCells hz0
 have g0:=qf 0;have g1:=qf 1;have g2:=qf 2;have g3:=qf 3;have g4:=qf 4;have g5:=qf 5;have g6:=qf 6
 clear qf hz0
 go_wp2_with fail
 obtain⟨r1,r2,r3,r4,r5⟩:=HE.out.told (.int .i64 2) (.string u0) (.slice po u1.length pc) (.slice io u3.length ic) (.int .i64 u2) (.int .i64 u4) (.int .i64 (P:Int))
 obtain⟨⟨x0,x1,x2,x3,x4,x5,x6⟩,_⟩:=dgCells r1
 unfold set7 at x0 x1 x2 x3 x4 x5 x6
 exact bodyPost_ret (v:=.agg #[.int .i64 2,.string u0,.slice po u1.length pc,.slice io u3.length ic,.int .i64 u2,.int .i64 u4,.int .i64 (P:Int)]) (by simp[results,Tryz.results34,go_sem,x0,x1,x2,x3,x4,x5,x6]) rfl ⟨r3,.inl ⟨zz,po,pc,io,ic,rfl,r2,r4,r5⟩⟩
theorem cde_hybrid (b g cap:Nat) (dv:Value) (ts:List Tok) (xb:Nat→Prop) (f:Nat) (x:RS) (hc:x.code=0) (hi:isS ts [104,121,98,114,105,100] x=true) (v1:List Pa) (t1:RS) (hr1:paramsS ts f (nameS ts (stepS x))=some (v1,t1)) (v2:List It) (t2:RS) (hr2:itsL ts f true f [] (wantS ts [123] t1)=some (v2,t2)) (W:World) (h:Hid (Cd W b g cap dv ts xb x)) :
  Calls prog 34 #[.pointer (some ⟨b,0,none⟩)] W fun r Y=>CdeRet b g cap dv ts xb W ⟨3,str (nameV ts (stepS x)),v1,v2,0,0,((tokL ts x.at_).at_:Int)⟩ (wantS ts [125] t2) r Y:=by
 obtain⟨P,hP⟩:∃P,P=(tokL ts x.at_).at_:=⟨_,rfl⟩
 rw[←hP]
 obtain⟨s0,hs0⟩:∃s0,s0=stepS x:=⟨_,rfl⟩
 try rw[←hs0]
 try rw[←hs0] at hr1
 obtain⟨u0,hu0⟩:∃u:ByteArray,u=str (nameV ts s0):=⟨_,rfl⟩
 obtain⟨s1,hs1⟩:∃s1,s1=nameS ts s0:=⟨_,rfl⟩
 try rw[←hu0]
 try rw[←hs1]
 try rw[←hs1] at hr1
 obtain⟨u1,hu1⟩:∃u:List Pa,u=v1:=⟨_,rfl⟩
 obtain⟨s2,hs2⟩:∃s2,s2=t1:=⟨_,rfl⟩
 try rw[←hu1]
 try rw[←hs2]
 try rw[←hs2] at hr2
 obtain⟨u2,hu2⟩:∃u:List It,u=v2:=⟨_,rfl⟩
 obtain⟨s3,hs3⟩:∃s3,s3=t2:=⟨_,rfl⟩
 try rw[←hu2]
 try rw[←hs3]
 obtain⟨sw,hsw⟩:∃sw,sw=(wantS ts [125] s3):=⟨_,rfl⟩
 rw[←hsw]
 have K3:Hid (Stays s3 sw):=Hd (by rw[hsw];exact stays_want ts [125] _)
 have K2:Hid (Stays s2 sw):=Hd (by have:=(stays_want ts [123] s2).trans (stays_its hr2);rw[hs3] at K3;exact this.trans K3.out)
 have K1:Hid (Stays s1 sw):=Hd (by have:=stays_params hr1;rw[hs2] at K2;exact this.trans K2.out)
 have K0:Hid (Stays s0 sw):=Hd (by have:=stays_name ts s0;rw[←hs1] at this;exact this.trans K1.out)
 obtain⟨o,c,⟨c0,c1,c2,c3,fr⟩,hx⟩:=h.out.cells
 obtain⟨tkA,tkB,tkC,tkD⟩:=h.out.tok
 have hl:=h.out.at_
 have hbs:=h.out.size
 have hgs:g<W.heap.size:=by have:=h.out.lt;omega
 obtain⟨m,hmm⟩:∃m,m=ts.length-x.at_:=⟨_,rfl⟩
 obtain⟨a4,haa⟩:∃a4,a4=x.at_*4:=⟨_,rfl⟩
 rw[←hmm,←haa] at c0
 rw[←hP,←haa] at tkD
 have k0:(0:Int)<(m:Int):=by omega
 obtain⟨W2,hW2⟩:∃W2,W2=(W.alloc (.cells #[.int .i64 0,.string ⟨#[]⟩,.slice none 0 0,.slice none 0 0,.int .i64 0,.int .i64 0,.int .i64 0] 57)).alloc (.cells #[.int .i64 0,.string ⟨#[]⟩,.slice none 0 0,.slice none 0 0,.int .i64 0,.int .i64 0,.int .i64 (P:Int)] 57):=⟨_,rfl⟩
 have HB:Hid (DC W W2 b g cap dv ts xb x W.heap.size (W.heap.size+1) #[.int .i64 0,.string ⟨#[]⟩,.slice none 0 0,.slice none 0 0,.int .i64 0,.int .i64 0,.int .i64 (P:Int)] [] (.slice none 0 0) [] (.slice none 0 0)):=Hd (by rw[hW2];exact DC.new h.out _)
 have T0:=tk_no (b:=b) (g:=g) (cap:=cap) (dv:=dv) (xb:=xb) hc [102,117,110] ⟨#[102,117,110]⟩ rfl (by decide) (isS_one hi (by decide))
 have T1:=tk_no (b:=b) (g:=g) (cap:=cap) (dv:=dv) (xb:=xb) hc [110,111,100,101] ⟨#[110,111,100,101]⟩ rfl (by decide) (isS_one hi (by decide))
 have T2:=tk_yes (b:=b) (g:=g) (cap:=cap) (dv:=dv) (xb:=xb) hc hs0 [104,121,98,114,105,100] ⟨#[104,121,98,114,105,100]⟩ rfl (by decide) hi
 have z0:s0.code=0:=by rw[hs0];exact hc
 have C0:=st_name (b:=b) (g:=g) (cap:=cap) (dv:=dv) (xb:=xb) hu0 hs1
 have C1:Hid (s1.code=0→∀W,Hid (Cd W b g cap dv ts xb s1)→Calls prog 64 #[.pointer (some ⟨b,0,none⟩)] W fun r Y=>CpRet b g cap dv ts xb W u1 s2 r Y):=Hd fun z W h=>by rw[hu1,hs2];exact cparams_any b g cap dv ts xb f _ z (v1,t1) hr1 W h
 have C2:Hid (s2.code=0→∀W,Hid (Cd W b g cap dv ts xb s2)→Calls prog 68 #[.pointer (some ⟨b,0,none⟩),.string ⟨#[123]⟩,.func (.func 70) #[.pointer (some ⟨b,0,none⟩)] #[]] W fun r Y=>CisRet b g cap dv ts xb W u2 s3 (wantS ts [125] s3) r Y):=Hd fun z W h=>by rw[hu2,hs3];exact behind_items b g cap dv ts xb f _ [123] (v2,t2) hr2 W h z (by decide)
 have CW:=wt_one (b:=b) (g:=g) (cap:=cap) (dv:=dv) (xb:=xb) [125] ⟨#[125]⟩ rfl (by decide) hsw
 have HSW:=Hd hsw
 clear hmm haa tkA tkB tkC hl hx c1 c2 c3 fr hP hi hc hsw hs0 hr1 hr2 hu0 hs1 hu1 hs2 hu2 hs3
 go_enter Tryz.func34,Tryz.ntmps34
 go_wp2_with (first
  | (go_at_call 62;rw[←hW2];clear hW2 c0 tkD;(with_reducible refine(T0.out _ (Hd HB.out.cd)).mono ?_);rintro e wt0 ⟨rfl,hr1,hk1⟩;replace HB:=Hd (HB.out.call hr1 hk1);clear hr1 hk1)
  | (go_at_call 62;(with_reducible refine(T1.out _ (Hd HB.out.cd)).mono ?_);rintro e wt1 ⟨rfl,hr1,hk1⟩;replace HB:=Hd (HB.out.call hr1 hk1);clear hr1 hk1)
  | (go_at_call 62;(with_reducible refine(T2.out _ (Hd HB.out.cd)).mono ?_);rintro e wt2 ⟨rfl,hr1,hk1⟩;replace HB:=Hd (HB.out.call hr1 hk1);clear hr1 hk1;obtain⟨⟨y0,y1,y2,y3,y4,y5,y6⟩,yf⟩:=dgCells HB.out.box;have f0:=yf 0;clear yf)
  | (go_at_call 63;obtain⟨V0,hV0⟩:∃V0,V0=wt2.setCell ⟨W.heap.size+1,0,none⟩ (.int .i64 3):=⟨_,rfl⟩;have HV:Hid (DC W V0 b g cap dv ts xb s0 W.heap.size (W.heap.size+1) #[.int .i64 3,.string ⟨#[]⟩,.slice none 0 0,.slice none 0 0,.int .i64 0,.int .i64 0,.int .i64 (P:Int)] [] (.slice none 0 0) [] (.slice none 0 0)):=Hd (by rw[hV0];exact HB.out.set 0 _ rfl);clear HB;have HB:=HV;clear HV;rw[←hV0];clear hV0 y0 y1 y2 y3 y4 y5 y6 f0;(with_reducible refine(C0.out z0 _ (Hd HB.out.cd)).mono ?_);rintro e ws0 hh;rcases hh.two with ⟨z1,rfl,hr1,hk1⟩ | ⟨z1,rfl,hk1⟩;rotate_left;exact⟨rfl,CdeRet.bad (HB.out.rx.trans hk1.out) z1 K1.out⟩;replace HB:=Hd (HB.out.call hr1 hk1);clear hr1 hk1)
  | (go_at_call 64;(with_reducible refine(C1.out z1 _ (Hd HB.out.cd)).mono ?_);rintro e ws1 hh;rcases hh with ⟨z2,po,pc,rfl,hr1,hk1,how⟩ | ⟨z2,rfl,hk1⟩;rotate_left;exact⟨rfl,CdeRet.bad (HB.out.rx.trans hk1.out) z2 K2.out⟩;replace HB:=Hd ((HB.out.call hr1 hk1).pas (own_base how.out HB.out.rx.size));clear hr1 hk1 how)
  | (go_at_call 68;(with_reducible refine(C2.out z2 _ (Hd HB.out.cd)).mono ?_);rintro e ws2 hh;rcases hh with ⟨z3,zb,io,ic,rfl,hsg⟩ | ⟨zb,rfl,hk1⟩;rotate_left;exact⟨rfl,CdeRet.bad (HB.out.rx.trans hk1.out) zb (by rw[HSW.out];exact Stays.refl _)⟩;replace HB:=Hd ((HB.out.call (Hd hsg.out.cd) (Hd hsg.out.rx)).its (hsg.out.own.base HB.out.rx.size));clear hsg;obtain⟨⟨y0,y1,y2,y3,y4,y5,y6⟩,yf⟩:=dgCells HB.out.box;have f1:=yf 1;have f2:=yf 2;have f3:=yf 3;clear yf))
 obtain⟨V,hV⟩:∃V,V=(((ws2.setCell ⟨W.heap.size+1,1,none⟩ (.string u0)).setCell ⟨W.heap.size+1,2,none⟩ (.slice po u1.length pc)).setCell ⟨W.heap.size+1,3,none⟩ (.slice io u2.length ic)):=⟨_,rfl⟩
 have HV:Hid (DC W V b g cap dv ts xb s3 W.heap.size (W.heap.size+1) #[.int .i64 3,.string u0,.slice po u1.length pc,.slice io u2.length ic,.int .i64 0,.int .i64 0,.int .i64 (P:Int)] u1 (.slice po u1.length pc) u2 (.slice io u2.length ic)):=Hd (by rw[hV];exact(((HB.out.set 1 _ rfl).set 2 _ rfl).set 3 _ rfl))
 rw[←hV,show ws2.heap.size=V.heap.size by rw[hV];simp]
 clear hV HB y0 y1 y2 y3 y4 y5 y6 f1 f2 f3
 refine(CW.out z3 V (Hd HV.out.cd)).mono ?_
 rintro e w5 hh
 rcases hh.two with ⟨zz,rfl,hr5,hk5⟩ | ⟨zz,rfl,hk5⟩
 rotate_left
 ·exact⟨rfl,CdeRet.bad (HV.out.rx.trans hk5.out) zz (Stays.refl _)⟩
 dsimp only
 have HE:=Hd (HV.out.call hr5 hk5)
 obtain⟨⟨y0,y1,y2,y3,y4,y5,y6⟩,_⟩:=dgCells HE.out.box
 have hz0:=HE.out.zero
 unfold deZ at hz0
 obtain⟨⟨q0,q1,q2,q3,q4,q5,q6⟩,qf⟩:=dgCells hz0
 have g0:=qf 0;have g1:=qf 1;have g2:=qf 2;have g3:=qf 3;have g4:=qf 4;have g5:=qf 5;have g6:=qf 6
 clear qf hz0
 go_wp2_with fail
 obtain⟨r1,r2,r3,r4,r5⟩:=HE.out.told (.int .i64 3) (.string u0) (.slice po u1.length pc) (.slice io u2.length ic) (.int .i64 0) (.int .i64 0) (.int .i64 (P:Int))
 obtain⟨⟨x0,x1,x2,x3,x4,x5,x6⟩,_⟩:=dgCells r1
 unfold set7 at x0 x1 x2 x3 x4 x5 x6
 exact bodyPost_ret (v:=.agg #[.int .i64 3,.string u0,.slice po u1.length pc,.slice io u2.length ic,.int .i64 0,.int .i64 0,.int .i64 (P:Int)]) (by simp[results,Tryz.results34,go_sem,x0,x1,x2,x3,x4,x5,x6]) rfl ⟨r3,.inl ⟨zz,po,pc,io,ic,rfl,r2,r4,r5⟩⟩
theorem cde_none (b g cap:Nat) (dv:Value) (ts:List Tok) (xb:Nat→Prop) (x:RS) (hc:x.code=0) (h0:isS ts [102,117,110] x=false) (h1:isS ts [110,111,100,101] x=false) (h2:isS ts [104,121,98,114,105,100] x=false) (W:World) (h:Hid (Cd W b g cap dv ts xb x)) :
  Calls prog 34 #[.pointer (some ⟨b,0,none⟩)] W fun r Y=>CdBad b xb W 2 ((tokL ts x.at_).at_:Int) r Y:=by
 obtain⟨P,hP⟩:∃P,P=(tokL ts x.at_).at_:=⟨_,rfl⟩
 rw[←hP]
 obtain⟨o,c,⟨c0,c1,c2,c3,fr⟩,hx⟩:=h.out.cells
 obtain⟨tkA,tkB,tkC,tkD⟩:=h.out.tok
 have hl:=h.out.at_
 have hbs:=h.out.size
 have hgs:g<W.heap.size:=by have:=h.out.lt;omega
 obtain⟨m,hmm⟩:∃m,m=ts.length-x.at_:=⟨_,rfl⟩
 obtain⟨a4,haa⟩:∃a4,a4=x.at_*4:=⟨_,rfl⟩
 rw[←hmm,←haa] at c0
 rw[←hP,←haa] at tkD
 have k0:(0:Int)<(m:Int):=by omega
 obtain⟨W2,hW2⟩:∃W2,W2=(W.alloc (.cells #[.int .i64 0,.string ⟨#[]⟩,.slice none 0 0,.slice none 0 0,.int .i64 0,.int .i64 0,.int .i64 0] 57)).alloc (.cells #[.int .i64 0,.string ⟨#[]⟩,.slice none 0 0,.slice none 0 0,.int .i64 0,.int .i64 0,.int .i64 (P:Int)] 57):=⟨_,rfl⟩
 have HB:Hid (DC W W2 b g cap dv ts xb x W.heap.size (W.heap.size+1) #[.int .i64 0,.string ⟨#[]⟩,.slice none 0 0,.slice none 0 0,.int .i64 0,.int .i64 0,.int .i64 (P:Int)] [] (.slice none 0 0) [] (.slice none 0 0)):=Hd (by rw[hW2];exact DC.new h.out _)
 have T0:=tk_no (b:=b) (g:=g) (cap:=cap) (dv:=dv) (xb:=xb) hc [102,117,110] ⟨#[102,117,110]⟩ rfl (by decide) h0
 have T1:=tk_no (b:=b) (g:=g) (cap:=cap) (dv:=dv) (xb:=xb) hc [110,111,100,101] ⟨#[110,111,100,101]⟩ rfl (by decide) h1
 have T2:=tk_no (b:=b) (g:=g) (cap:=cap) (dv:=dv) (xb:=xb) hc [104,121,98,114,105,100] ⟨#[104,121,98,114,105,100]⟩ rfl (by decide) h2
 have RF:Hid (∀W,Hid (Cd W b g cap dv ts xb x)→Calls prog 60 #[.pointer (some ⟨b,0,none⟩),.int .i64 2] W fun r Y=>r=.returned (.agg #[.int .i64 2,.int .i64 (P:Int)])∧Hid (Below W.heap.size W Y)):=Hd fun W h=>(refusal_any b g cap dv ts xb x 2 W h).mono fun r Y hh=>by rw[hP];exact⟨hh.1,Hd hh.2⟩
 clear hmm haa tkA tkB tkC hl hx c1 c2 c3 fr hP hc h0 h1 h2
 go_enter Tryz.func34,Tryz.ntmps34
 go_wp2_with (first
  | (go_at_call 62;rw[←hW2];clear hW2 c0 tkD;(with_reducible refine(T0.out _ (Hd HB.out.cd)).mono ?_);rintro e wt0 ⟨rfl,hr1,hk1⟩;replace HB:=Hd (HB.out.call hr1 hk1);clear hr1 hk1)
  | (go_at_call 62;(with_reducible refine(T1.out _ (Hd HB.out.cd)).mono ?_);rintro e wt1 ⟨rfl,hr1,hk1⟩;replace HB:=Hd (HB.out.call hr1 hk1);clear hr1 hk1)
  | (go_at_call 62;(with_reducible refine(T2.out _ (Hd HB.out.cd)).mono ?_);rintro e wt2 ⟨rfl,hr1,hk1⟩;replace HB:=Hd (HB.out.call hr1 hk1);clear hr1 hk1)
  | (go_at_call 60;(with_reducible refine(RF.out _ (Hd HB.out.cd)).mono ?_);rintro e w3 ⟨rfl,hb3⟩))
 exact⟨rfl,rfl,Hd (HB.out.rx.trans (RX.of_below hb3.out (ql HB.out.cd.size) HB.out.cd.xlt))⟩
abbrev nox:Nat→Prop:=fun _=>False
theorem cdecl_any (b g cap:Nat) (dv:Value) (ts:List Tok) (xb:Nat→Prop) (f:Nat) (σ:RS) (hc:σ.code=0) (d:De) (τ:RS) (hr:declS ts f σ=some (d,τ)) (W:World) (h:Hid (Cd W b g cap dv ts xb σ)) :
  Calls prog 34 #[.pointer (some ⟨b,0,none⟩)] W fun r Y=>CdeRet b g cap dv ts xb W d τ r Y:=by
 unfold declS at hr
 split at hr
 ·rename_i hi
  obtain⟨⟨p,t1⟩,h1,hr⟩:=Option.bind_eq_some_iff.1 hr
  obtain⟨v2,l2,t2,h2,hr⟩:=exprS_bind hr
  cases hr
  exact cde_fun b g cap dv ts xb f σ hc hi p t1 h1 v2 l2 t2 h2 W h
 rename_i n1
 split at hr
 ·rename_i hi
  obtain⟨⟨p,t1⟩,h1,hr⟩:=Option.bind_eq_some_iff.1 hr
  obtain⟨⟨i,t2⟩,h2,hr⟩:=Option.bind_eq_some_iff.1 hr
  obtain⟨v3,l3,t3,h3,hr⟩:=exprS_bind hr
  cases hr
  exact cde_node b g cap dv ts xb f σ hc hi p t1 h1 i t2 h2 v3 l3 t3 h3 W h
 rename_i n2
 obtain⟨⟨p,t1⟩,h1,hr⟩:=Option.bind_eq_some_iff.1 hr
 obtain⟨⟨i,t2⟩,h2,hr⟩:=Option.bind_eq_some_iff.1 hr
 cases hr
 by_cases hi:isS ts [104,121,98,114,105,100] σ=true
 ·have e:wantS ts [104,121,98,114,105,100] σ=stepS σ:=by unfold wantS;rw[if_pos hi]
  rw[e] at h1 ⊢
  exact cde_hybrid b g cap dv ts xb f σ hc hi p t1 h1 i t2 h2 W h
 ·have hi':=Bool.eq_false_iff.2 hi
  have e1:(wantS ts [104,121,98,114,105,100] σ).code=2:=by unfold wantS failS;rw[if_neg hi,if_pos hc]
  have e2:(wantS ts [104,121,98,114,105,100] σ).pos=((tokL ts σ.at_).at_:Int):=by unfold wantS failS;rw[if_neg hi,if_pos hc]
  have hst:Stays (wantS ts [104,121,98,114,105,100] σ) (wantS ts [125] t2):=(stays_name ts _).trans ((stays_params h1).trans ((stays_want ts [123] _).trans ((stays_its h2).trans (stays_want ts [125] _))))
  refine(cde_none b g cap dv ts xb σ hc (Bool.eq_false_iff.2 n1) (Bool.eq_false_iff.2 n2) hi' W h).mono fun r Y hh=>?_
  obtain⟨k1,k2⟩:=hst (by rw[e1];decide)
  exact⟨hh.2.out,.inr ⟨by rw[k1,e1];decide,by rw[k1,k2,e1,e2];exact hh.1⟩⟩
theorem Cd.setDv {W:World} {b g cap:Nat} {dv:Value} {ts:List Tok} {xb:Nat→Prop} {σ:RS} (h:Cd W b g cap dv ts xb σ) (v:Value):Cd (W.setCell ⟨b,1,none⟩ v) b g cap v ts xb σ:=by
 obtain⟨o,c,h1,h2,h3⟩:=h.blk
 refine⟨fun k hk=>Nat.lt_of_lt_of_le (h.xlt k hk) ((qB b W).setCell (p:=⟨b,1,none⟩) (qL _) v).size,⟨o,c,?_,h2.same fun k hk _=>Below.heap_setCell W ⟨b,1,none⟩ v k (by simp;omega),h3⟩,h.xnb,row_low h.row (Below.heap_setCell W ⟨b,1,none⟩ v g (by have:=h.lt;simp;omega)),h.lt,h.at_,h.len,h.cp,h.ends,h.tx⟩
 rw[set_blk h1];simp
structure PgS (W Y:World) (b g cap:Nat) (ts:List Tok) (σ:RS) (acc:List De) (dv:Value):Prop where
 cd:Cd Y b g cap dv ts nox σ
 rx:RX b nox W Y
 des:DesOwn Y W.heap.size dv acc
theorem PgS.push {W w1 w2 w3:World} {b g cap:Nat} {ts:List Tok} {τ:RS} {acc:List De} {dv pv iv:Value} {x:De} {q:List (De×Value×Value)} (hbs:b<W.heap.size) (hk0:RX b nox W w1) (hr1:Cd w1 b g cap dv ts nox τ) (hb:Below w1.heap.size w1 w2)
  (hq1:q.map Prod.fst=acc) (hq3:∀y ∈ q,w1.ownsRow W.heap.size 62 2 y.2.1 y.1.params.length (paC y.1.params)∧ItsOwn w1 W.heap.size y.2.2 y.1.items) (hp:w1.ownsRow W.heap.size 62 2 pv x.params.length (paC x.params)) (hi:ItsOwn w1 W.heap.size iv x.items) (ho2:w2.ownsRow W.heap.size 57 7 dv acc.length (desGC q)) (hg:w2.grownBy w3 dv.ownBlock) {gg cc:Nat}
  (ho:w3.ownsRow W.heap.size 57 7 (.slice (some ⟨gg,0,none⟩) (acc.length+1) cc) (acc.length+1) (desGC q++deGC x pv iv)) :
  PgS W (w3.setCell ⟨b,1,none⟩ (.slice (some ⟨gg,0,none⟩) (acc.length+1) cc)) b g cap ts τ (acc++[x]) (.slice (some ⟨gg,0,none⟩) (acc.length+1) cc):=by
 have hr3:=(hr1.below hb).grownT ho2 hbs (by decide) (by decide) hg
 have hk3:RX b nox W w3:=(hk0.trans (RX.of_below hb (ql hr1.size) hr1.xlt)).grown (fun _ h=>h.elim) hbs ho2 hg
 have sm:∀k,k≠b→(w3.setCell ⟨b,1,none⟩ (.slice (some ⟨gg,0,none⟩) (acc.length+1) cc)).heap[k]?=w3.heap[k]?:=fun k hk=>Below.heap_setCell w3 ⟨b,1,none⟩ _ k (by simpa using hk)
 have it:∀{v:Value} {l:List It},ItsOwn w1 W.heap.size v l→ItsOwn (w3.setCell ⟨b,1,none⟩ (.slice (some ⟨gg,0,none⟩) (acc.length+1) cc)) W.heap.size v l:=fun h=>its_same (its_past (its_below h hb) ho2 hg) fun k hk _=>sm k (by omega)
 have pt:∀{v:Value} {n:Nat} {xs:List Value},w1.ownsRow W.heap.size 62 2 v n xs→(w3.setCell ⟨b,1,none⟩ (.slice (some ⟨gg,0,none⟩) (acc.length+1) cc)).ownsRow W.heap.size 62 2 v n xs:=fun h=>by
  have h2:=own_past (own_below h hb) ho2 (by decide) hg
  exact rd_own_same h2 fun k e=>sm k (by have:=(h2.lt k e).1;omega)
 refine⟨hr3.setDv _,hk3.trans (RX.set (fun h=>h.elim) 1 _),q++[(x,pv,iv)],by simp[hq1],?_,?_⟩
 ·rw[desGC_snoc,List.length_append,List.length_singleton]
  exact rd_own_same ho fun k e=>sm k (by have:=(ho.lt k e).1;omega)
 ·intro y hy
  rcases List.mem_append.1 hy with hy | hy
  ·exact⟨pt (hq3 y hy).1,it (hq3 y hy).2⟩
  ·obtain rfl:=List.mem_singleton.1 hy
   exact⟨pt hp,it hi⟩
def CPgI (W:World) (b g cap:Nat) (ts:List Tok) (f N:Nat) (R:List De×RS) (n:Nat) (Y:World):Prop :=
 ∃(acc:List De) (σ:RS) (dv:Value),n≤N∧σ.code=0∧declsG ts f n acc σ=some R∧PgS W Y b g cap ts σ acc dv
def CpgRet (b g cap:Nat) (ts:List Tok) (W:World) (l:List De) (τ:RS) (r:Ending) (Y:World):Prop :=
 (τ.code=0∧(tokL ts τ.at_).kind=5∧r=.returned (.tuple #[])∧∃dv,PgS W Y b g cap ts τ l dv)∨(τ.code≠0∧r=.panicked [{ v:=refusalV τ.code τ.pos,recovered:=false }]∧RX b nox W Y)
theorem program_any (b g cap:Nat) (ts:List Tok) (f N:Nat) (σ:RS) (hc:σ.code=0) (R:List De×RS) (hr:declsG ts f N [] σ=some R) (W:World) (h:Hid (Cd W b g cap (.slice none 0 0) ts nox σ)) :
  Calls prog 17 #[.pointer (some ⟨b,0,none⟩)] W fun r Y=>CpgRet b g cap ts W R.1 R.2 r Y:=by
 obtain⟨m,hm⟩:=least_of (CPgI W b g cap ts f N R)
 have HM:=Hd hm
 have hbs:=h.out.size
 have HRUN:=Hd hr
 have HC0:=Hd hc
 have HST:Hid (PgS W W b g cap ts σ [] (.slice none 0 0)):=Hd ⟨h.out,RX.refl _ _ _,[],rfl,qO _ _ _ _,fun x hx=>by cases hx⟩
 have mixed:prog.follows .mixedOrders=true:=by kernel_rfl
 have late:prog.follows .lateStores=true:=by kernel_rfl
 clear hm hr hc
 go_enter Tryz.func17,Tryz.ntmps17
 go_wp2_with fail
 go_loopw [9] (fun _ wr=>Hid (∃n,CPgI W b g cap ts f N R n wr)) (fun _ wr=>m wr)
 case atStart=>exact Hd ⟨N,[],σ,_,qL _,HC0.out,HRUN.out,HST.out⟩
 case round =>
  obtain⟨hm1,hm2⟩:=HM.out _ hrel.out
  obtain⟨acc,τ,dv,hnf,hc,hrun,hst⟩:=hm1
  obtain⟨nn,hmn⟩:∃nn,nn=m wr:=⟨_,rfl⟩
  rw[←hmn] at hnf hrun
  obtain⟨k,rfl,hacc,hcase⟩:=declsG_cases hrun
  have HMN:=Hd hmn
  have HKF:=Hd hnf
  have HS:=Hd hst
  have HC:=Hd hc
  obtain⟨o,c,⟨c0,c1,c2,c3,fr⟩,hx⟩:=hst.cd.cells
  obtain⟨t0,t1,t2,t3⟩:=hst.cd.tok
  have hl:=hst.cd.at_
  have hgs:g<wr.heap.size:=by have:=hst.cd.lt;have:=hst.cd.size;omega
  obtain⟨mm,hmm⟩:∃mm,mm=ts.length - τ.at_:=⟨_,rfl⟩
  obtain⟨a4,haa⟩:∃a4,a4=τ.at_*4:=⟨_,rfl⟩
  obtain⟨kd,hkd⟩:∃kd,kd=(tokL ts τ.at_).kind:=⟨_,rfl⟩
  rw[←hmm,←haa] at c0
  rw[←hkd,←haa] at t0
  have k0:(0:Int)<(mm:Int):=by omega
  clear hrun hmn hm2 hrel hnf hst hmm haa t1 t2 t3 hl hx c2 c3 HST HRUN
  rcases hcase with ⟨_,h5,hR⟩ | ⟨_,h5,d,τ',hd,hgo⟩ | ⟨hz,_⟩
  ·have q2:((kd:Int) !=5)=false:=by rw[hkd,h5];rfl
   have H5:=Hd h5
   have HRR:=Hd hR
   clear h5 hR hkd hc
   go_wp2_with fail
   go_end0
   rw[HRR.out]
   exact .inl ⟨HC.out,H5.out,rfl,dv,HS.out⟩
  ·have q2:((kd:Int) !=5)=true:=by rw[hkd];exact bne_iff_ne.2 (by omega)
   have hbw:b<wr.heap.size:=HS.out.cd.size
   have HSD:Hid (PgS W wr.drew b g cap ts τ acc dv):=Hd ⟨HS.out.cd.below (below_dr (qB _ _) 1),HS.out.rx.trans (RX.of_below (below_dr (qB _ _) 1) (ql hbw) HS.out.cd.xlt),HS.out.des.keep hbs (RK.of_below (below_dr (qB _ _) 1) (ql hbw))⟩
   have HCD:Hid (Cd wr.drew b g cap dv ts nox τ):=Hd HSD.out.cd
   have D0:Hid (Calls prog 34 #[.pointer (some ⟨b,0,none⟩)] wr.drew fun r Y=>CdeRet b g cap dv ts nox wr.drew d τ' r Y):=Hd (cdecl_any b g cap dv ts nox f τ hc d τ' hd wr.drew HCD)
   have HGO:=Hd hgo
   obtain⟨dn,hdn⟩:∃dn,dn=acc.length:=⟨_,rfl⟩
   obtain⟨oe,ce,rfl⟩:∃oe ce,dv=.slice oe dn ce:=by rw[hdn];obtain⟨q,_,h2,_⟩:=HS.out.des;exact own_form h2
   have HDN:=Hd hdn
   have hdn4:dn≤40000:=by omega
   have c1':wr.drew.cell? ⟨b,1,none⟩=some (.slice oe dn ce):=c1
   have f1:=fr 1
   clear h5 hgo hkd hc hd hdn hacc fr
   by_cases hz:τ'.code=0
   ·have D1:Hid (Calls prog 34 #[.pointer (some ⟨b,0,none⟩)] wr.drew fun r Y=>∃po pc io ic,r=.returned (.agg #[.int .i64 d.kind,.string d.name,.slice po d.params.length pc,.slice io d.items.length ic,.int .i64 d.type,.int .i64 d.e,.int .i64 d.pos])∧Hid (RX b nox wr.drew Y∧Cd Y b g cap (.slice oe dn ce) ts nox τ'∧Y.ownsRow wr.drew.heap.size 62 2 (.slice po d.params.length pc) d.params.length (paC d.params)∧ItsOwn Y wr.drew.heap.size (.slice io d.items.length ic) d.items)):=Hd (D0.out.mono fun r Y hh=>by
     rcases hh with ⟨hk,⟨_,po,pc,io,ic,h1,h2,h3,h4⟩ | ⟨h1,_⟩⟩
     ·exact⟨po,pc,io,ic,h1,Hd ⟨hk,h2,h3,h4⟩⟩
     ·exact absurd hz h1)
    have HZ:=Hd hz
    clear D0 hz
    go_wp2_with fail
    refine wp_onlyN ?_
    go_region_law (first
     | (refine step_call1 _ (by rfl) 34 #[.pointer (some ⟨b,0,none⟩)] (by go_simp) _ D1.out ?_;rintro e1 w1 ⟨po,pc,io,ic,rfl,hh⟩;refine⟨_,rfl,?_⟩;have HH:=hh;clear hh;have hsz:=HH.out.1.size;have hbw1:=HH.out.2.1.size;obtain⟨oo1,cc1,⟨_,y1,_,_,yf⟩,_⟩:=HH.out.2.1.cells;have y9:=yf 1;clear yf;have y2:∀ob,(w1.alloc ob).cell? ⟨b,1,none⟩=some (.slice oe dn ce):=fun ob=>cell_on ((qB _ _).alloc (qL _) ob) y1;obtain⟨q,hq1,hq2,hq3⟩:=HSD.out.des.keep hbs HH.out.1.rk;have HQ1:=Hd hq1;have HQ2:=Hd hq2;have HQ3:=Hd hq3;clear hq1 hq2 hq3;have hws:W.heap.size≤w1.heap.size:=Nat.le_trans HSD.out.rx.size hsz)
     | (refine step_de _ (by rfl) (.tmp 15) (.tmp 18) (by rfl) W.heap.size (.slice oe dn ce) dn (desGC q) (by rfl) (by have:=HQ2.out;rw[←HDN.out] at this;exact this.alloc _) ⟨w1.heap.size,0,none⟩ [.int .i64 d.kind,.string d.name,.slice po d.params.length pc,.slice io d.items.length ic,.int .i64 d.type,.int .i64 d.e,.int .i64 d.pos] (by rfl) (by rfl) (by exact seven_at w1 _ rfl _ _ _ _ _ _ _ _) (by simp[Value.oneCell']) (by omega) (by simp;omega) ?_;intro gg cc w3 ho hg;have HO:=Hd ho;have HG:=Hd hg;clear ho hg;have hbA:Below w1.heap.size w1 (w1.alloc (.cells #[.int .i64 d.kind,.string d.name,.slice po d.params.length pc,.slice io d.items.length ic,.int .i64 d.type,.int .i64 d.e,.int .i64 d.pos] 57)):=(qB _ _).alloc (qL _) _;have z3:w3.cell? ⟨b,1,none⟩=some (.slice oe dn ce):=HG.out.cell (by exact y2 _) (fun e=>by have:=(HQ2.out.lt b e.symm).1;omega);have z4:w3.frozen? ⟨b,1,none⟩=false:=(World.frozen?_of_block (a:=⟨b,1,none⟩) (HG.out.block b (by simp;omega) (fun e=>by have:=(HQ2.out.lt b e.symm).1;omega))).trans ((World.frozen?_alloc_old _ _ _ (Nat.ne_of_lt hbw1)).trans y9)))
    all_goals (
     unfold onlyN
     have HI:CPgI W b g cap ts f N R k (w3.setCell ⟨b,1,none⟩ (.slice (some ⟨gg,0,none⟩) (dn+1) cc)):=⟨acc++[d],τ',.slice (some ⟨gg,0,none⟩) (dn+1) cc,by have:=HKF.out;omega,HZ.out,HGO.out,by
      have h7:=HDN.out
      subst h7
      exact PgS.push (x:=d) hbs (HSD.out.rx.trans HH.out.1) HH.out.2.1 hbA HQ1.out HQ3.out (own_base HH.out.2.2.1 HSD.out.rx.size) (HH.out.2.2.2.base HSD.out.rx.size) (HQ2.out.alloc _) HG.out HO.out⟩
     dsimp only
     go_wp2_with fail
     exact⟨Hd ⟨k,HI⟩,by have h5:=(HM.out _ ⟨k,HI⟩).2 k HI;have h6:=HMN.out;omega⟩)
   ·have D1:Hid (Calls prog 34 #[.pointer (some ⟨b,0,none⟩)] wr.drew fun r Y=>r=.panicked [{ v:=refusalV τ'.code τ'.pos,recovered:=false }]∧Hid (RX b nox wr.drew Y)):=Hd (D0.out.mono fun r Y hh=>by
     rcases hh with ⟨hk,⟨h1,_⟩ | ⟨_,h1⟩⟩
     ·exact absurd h1 hz
     ·exact⟨h1,Hd hk⟩)
    have HR2:Hid (R.2.code=τ'.code∧R.2.pos=τ'.pos):=Hd (by
     obtain⟨k',rfl,_,hh⟩:=declsG_cases HGO.out
     rcases hh with ⟨h1,_⟩ | ⟨h1,_⟩ | ⟨_,h1⟩
     ·exact absurd h1 hz
     ·exact absurd h1 hz
     ·rw[h1];exact⟨rfl,rfl⟩)
    have HZ:=Hd hz
    clear D0 hz
    go_wp2_with fail
    go_region_with (go_at_call 34;(with_reducible refine D1.out.mono ?_);rintro e1 w1 ⟨rfl,hk1⟩;refine dummyAny prog w1 ⟨rfl,.inr ⟨by rw[HR2.out.1];exact HZ.out,by rw[HR2.out.1,HR2.out.2],HSD.out.rx.trans hk1.out⟩⟩ ?_)
    all_goals trivial
  ·exact absurd hc hz
end Go.Proofs.YtlbhlncipajapaaGreatDoor
