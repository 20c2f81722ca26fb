import Derived.Test.YtpfmlfcaadnnpaaGreatDoorPg13
set_option maxHeartbeats 16000000
set_option maxRecDepth 100000
set_option linter.unusedVariables false
open Go.Proofs.Tryz(prog)
namespace Go.Proofs.YtpfmlfcaadnnpaaGreatDoor
open Go.RowKit Lx
def exprS (ts:List Tok) (f:Nat) (σ:RS):Option (Int×RS):=(runE ts f .expr σ).map fun r=>(r.1,r.2.2)
theorem exprS_bind {α:Type} {ts:List Tok} {f:Nat} {σ:RS} {k:Int×RS→Option α} {R:α} (h:(exprS ts f σ).bind k=some R):∃v l τ,runE ts f .expr σ=some (v,l,τ)∧k (v,τ)=some R:=by
 unfold exprS at h
 cases hr:runE ts f .expr σ with
 | none=>rw[hr] at h;cases h
 | some r=>obtain⟨v,l,τ⟩:=r;rw[hr] at h;exact⟨v,l,τ,rfl,h⟩
def itemF (ts:List Tok) (i:It) (σ:RS):It×Bool×RS:=(i,decide ((wantS ts [59] σ).code=0),wantS ts [59] σ)
def iLet (ts:List Tok) (f:Nat) (σ:RS):Option (It×Bool×RS):=(exprS ts f (wantS ts [61] (kindS ts (wantS ts [58] (nameS ts (stepS σ)))))).bind fun e1=>some (itemF ts { it0 with kind:=1,name:=str (nameV ts (stepS σ)),type:=kindV ts (wantS ts [58] (nameS ts (stepS σ))),e:=e1.1,pos:=((tokL ts σ.at_).at_:Int) } e1.2)
def iDer (ts:List Tok) (f:Nat) (σ:RS):Option (It×Bool×RS):=(exprS ts f (wantS ts [61] (nameS ts (stepS σ)))).bind fun e1=>(exprS ts f (wantS ts [105,110,105,116] e1.2)).bind fun e2=>some (itemF ts { it0 with kind:=2,name:=str (nameV ts (stepS σ)),e:=e1.1,f:=e2.1,pos:=((tokL ts σ.at_).at_:Int) } e2.2)
def iReset (ts:List Tok) (f:Nat) (σ:RS):Option (It×Bool×RS):=(exprS ts f (wantS ts [111,110] (nameS ts (stepS σ)))).bind fun e1=>(exprS ts f (wantS ts [61] e1.2)).bind fun e2=>some (itemF ts { it0 with kind:=3,name:=str (nameV ts (stepS σ)),e:=e2.1,f:=e1.1,pos:=((tokL ts σ.at_).at_:Int) } e2.2)
def iMem (ts:List Tok) (f:Nat) (σ:RS):Option (It×Bool×RS):=(exprS ts f (wantS ts [105,110,105,116] (kindS ts (wantS ts [58] (nameS ts (stepS σ)))))).bind fun e1=>some (itemF ts { it0 with kind:=4,name:=str (nameV ts (stepS σ)),type:=kindV ts (wantS ts [58] (nameS ts (stepS σ))),e:=e1.1,pos:=((tokL ts σ.at_).at_:Int) } e1.2)
def iOn (ts:List Tok) (f:Nat) (σ:RS):Option (It×Bool×RS):=(exprS ts f (stepS σ)).bind fun e1=>(exprS ts f (wantS ts [61] (nameS ts (wantS ts [115,101,116] e1.2)))).bind fun e2=>some (itemF ts { it0 with kind:=5,name:=str (nameV ts (wantS ts [115,101,116] e1.2)),e:=e2.1,f:=e1.1,pos:=((tokL ts σ.at_).at_:Int) } e2.2)
def iMode (ts:List Tok) (f:Nat) (σ:RS):Option (It×Bool×RS):=(statesL ts f [str (nameV ts (wantS ts [123] (nameS ts (stepS σ))))] (nameS ts (wantS ts [123] (nameS ts (stepS σ))))).bind fun r=>some (itemF ts { it0 with kind:=6,name:=str (nameV ts (stepS σ)),states:=r.1,pos:=((tokL ts σ.at_).at_:Int) } (wantS ts [125] r.2))
def iFrom (ts:List Tok) (f:Nat) (σ:RS):Option (It×Bool×RS):=(exprS ts f (wantS ts [111,110] (nameS ts (wantS ts [46] (nameS ts (stepS σ)))))).bind fun e1=>some (itemF ts { it0 with kind:=7,name:=str (nameV ts (stepS σ)),f:=e1.1,state:=str (nameV ts (wantS ts [46] (nameS ts (stepS σ)))),next:=str (nameV ts (wantS ts [103,111,116,111] e1.2)),pos:=((tokL ts σ.at_).at_:Int) } (nameS ts (wantS ts [103,111,116,111] e1.2)))
def iOut (ts:List Tok) (f:Nat) (σ:RS):Option (It×Bool×RS):=some (itemF ts { it0 with kind:=8,name:=str (nameV ts (stepS σ)),pos:=((tokL ts σ.at_).at_:Int) } (nameS ts (stepS σ)))
def itemS (ts:List Tok) (f:Nat) (all:Bool) (σ:RS):Option (It×Bool×RS) :=
 if isS ts [108,101,116] σ=true then iLet ts f σ else
 if all=true then
  if isS ts [100,101,114] σ=true then iDer ts f σ else
  if isS ts [114,101,115,101,116] σ=true then iReset ts f σ else
  if isS ts [109,101,109] σ=true then iMem ts f σ else
  if isS ts [111,110] σ=true then iOn ts f σ else
  if isS ts [109,111,100,101] σ=true then iMode ts f σ else
  if isS ts [102,114,111,109] σ=true then iFrom ts f σ else
  if isS ts [111,117,116] σ=true then iOut ts f σ else
  some ({ it0 with pos:=((tokL ts σ.at_).at_:Int) },false,σ)
 else some ({ it0 with pos:=((tokL ts σ.at_).at_:Int) },false,σ)
theorem CdRet.two {b g cap:Nat} {dv:Value} {ts:List Tok} {xb:Nat→Prop} {W:World} {v:Value} {σ:RS} {r:Ending} {Y:World} (h:CdRet b g cap dv ts xb W v σ r Y) :
  (σ.code=0∧r=.returned v∧Hid (Cd Y b g cap dv ts xb σ)∧Hid (RX b xb W Y))∨(σ.code≠0∧r=.panicked [{ v:=refusalV σ.code σ.pos,recovered:=false }]∧Hid (RX b xb W Y)):=by
 obtain⟨hk,h | h⟩:=h
 ·exact .inl ⟨h.1,h.2.1,Hd h.2.2,Hd hk⟩
 ·exact .inr ⟨h.1,h.2,Hd hk⟩
theorem stays_kind (ts:List Tok) (σ:RS):Stays σ (kindS ts σ):=fun h=>by unfold kindS;rw[isS_bad h,if_neg (by decide)];exact stays_want ts _ σ h
theorem types_any (b g cap:Nat) (dv:Value) (ts:List Tok) (xb:Nat→Prop) (σ:RS) (W:World) (h:Hid (Cd W b g cap dv ts xb σ)) (hc:σ.code=0) :
  Calls prog 66 #[.pointer (some ⟨b,0,none⟩)] W fun r Y=>CdRet b g cap dv ts xb W (.int .i64 (kindV ts σ)) (kindS ts σ) r Y:=by
 have T1:=Hd (takes_any b g cap dv ts xb σ [102,105,120] W h hc (by decide))
 have T2:=Hd fun W h=>takes_any b g cap dv ts xb σ [98,111,111,108] W h hc (by decide)
 have HC:=Hd hc
 cases hf:isS ts [102,105,120] σ with
 | true =>
  have e1:kindV ts σ=1:=by unfold kindV;rw[isS_one hf (by decide),if_neg (by decide)]
  have e2:kindS ts σ=stepS σ:=by unfold kindS wantS;rw[isS_one hf (by decide),if_neg (by decide),if_pos hf]
  rw[e1,e2]
  have T:Hid (Calls prog 62 #[.pointer (some ⟨b,0,none⟩),.string ⟨#[102,105,120]⟩] W fun r Y=>r=.returned (.bool true)∧Hid (Cd Y b g cap dv ts xb (stepS σ))∧Hid (RX b xb W Y)):=Hd (T1.out.mono fun r Y hh=>by unfold TakesRet tookS at hh;rw[hf] at hh;exact hh)
  clear T1 T2 e1 e2 hf hc
  go_enter Tryz.func66,Tryz.ntmps66
  go_wp2_with (go_at_call 62;(with_reducible refine T.out.mono ?_);rintro e w1 ⟨rfl,hr,hk⟩)
  go_ret
  exact⟨hk.out,.inl ⟨HC.out,rfl,hr.out⟩⟩
 | false =>
  have T:Hid (Calls prog 62 #[.pointer (some ⟨b,0,none⟩),.string ⟨#[102,105,120]⟩] W fun r Y=>r=.returned (.bool false)∧Hid (Cd Y b g cap dv ts xb σ)∧Hid (RX b xb W Y)):=Hd (T1.out.mono fun r Y hh=>by unfold TakesRet tookS at hh;rw[hf] at hh;exact hh)
  cases hb:isS ts [98,111,111,108] σ with
  | true =>
   have e1:kindV ts σ=2:=by unfold kindV;rw[if_pos hb]
   have e2:kindS ts σ=stepS σ:=by unfold kindS;rw[if_pos hb]
   rw[e1,e2]
   have U:Hid (∀W,Hid (Cd W b g cap dv ts xb σ)→Calls prog 62 #[.pointer (some ⟨b,0,none⟩),.string ⟨#[98,111,111,108]⟩] W fun r Y=>r=.returned (.bool true)∧Hid (Cd Y b g cap dv ts xb (stepS σ))∧Hid (RX b xb W Y)):=Hd fun W h=>((T2.out W h).mono fun r Y hh=>by unfold TakesRet tookS at hh;rw[hb] at hh;exact hh)
   clear T1 T2 e1 e2 hf hb hc
   go_enter Tryz.func66,Tryz.ntmps66
   go_wp2_with (first
    | (go_at_call 62;(with_reducible refine T.out.mono ?_);rintro e w1 ⟨rfl,hr,hk⟩)
    | (go_at_call 62;(with_reducible refine(U.out _ hr).mono ?_);rintro e w2 ⟨rfl,hr2,hk2⟩))
   go_ret
   exact⟨hk.out.trans hk2.out,.inl ⟨HC.out,rfl,hr2.out⟩⟩
  | false =>
   have e2:kindS ts σ={ σ with code:=2,pos:=((tokL ts σ.at_).at_:Int) }:=by unfold kindS wantS failS;rw[hb,if_neg (by decide),hf,if_neg (by decide),if_pos hc]
   obtain⟨kv,hkv⟩:∃kv,kv=kindV ts σ:=⟨_,rfl⟩
   rw[e2,←hkv]
   have U:Hid (∀W,Hid (Cd W b g cap dv ts xb σ)→Calls prog 62 #[.pointer (some ⟨b,0,none⟩),.string ⟨#[98,111,111,108]⟩] W fun r Y=>r=.returned (.bool false)∧Hid (Cd Y b g cap dv ts xb σ)∧Hid (RX b xb W Y)):=Hd fun W h=>((T2.out W h).mono fun r Y hh=>by unfold TakesRet tookS at hh;rw[hb] at hh;exact hh)
   obtain⟨P,hP⟩:∃P:Int,P=((tokL ts σ.at_).at_:Int):=⟨_,rfl⟩
   have RF:Hid (∀W,Hid (Cd W b g cap dv ts xb σ)→Calls prog 60 #[.pointer (some ⟨b,0,none⟩),.int .i64 2] W fun r Y=>r=.returned (.agg #[.int .i64 2,.int .i64 P])∧Hid (Below W.heap.size W Y)):=Hd fun W h=>(refusal_any b g cap dv ts xb σ 2 W h).mono fun r Y hh=>by rw[hP];exact⟨hh.1,Hd hh.2⟩
   rw[←hP]
   clear T1 T2 e2 hf hb hc hkv hP
   go_enter Tryz.func66,Tryz.ntmps66
   go_wp2_with (first
    | (go_at_call 62;(with_reducible refine T.out.mono ?_);rintro e w1 ⟨rfl,hr,hk⟩)
    | (go_at_call 62;(with_reducible refine(U.out _ hr).mono ?_);rintro e w2 ⟨rfl,hr2,hk2⟩)
    | (go_at_call 60;(with_reducible refine(RF.out _ hr2).mono ?_);rintro e w3 ⟨rfl,hb3⟩))
   exact⟨rfl,hk.out.trans (hk2.out.trans (RX.of_below hb3.out (ql hr2.out.size) hr2.out.xlt)),.inr ⟨(by decide:(2:Int)≠0),rfl⟩⟩
theorem enters_cname:∀args w,(callFunc 63 args).run prog w=.ok (.enter 63 args) w:=enters_of Tryz.func63 (by kernel_rfl) rfl
theorem behind_types (b g cap:Nat) (dv:Value) (ts:List Tok) (xb:Nat→Prop) (σ:RS) (s:List UInt8) (W:World) (h:Hid (Cd W b g cap dv ts xb σ)) (hc:σ.code=0) (hs:s ∈ sgL) :
  Calls prog 65 #[.pointer (some ⟨b,0,none⟩),.string (str s),.func (.func 66) #[.pointer (some ⟨b,0,none⟩)] #[]] W fun r Y=>CdRet b g cap dv ts xb W (.int .i64 (kindV ts (wantS ts s σ))) (kindS ts (wantS ts s σ)) r Y:=by
 refine behind_int b g cap dv ts xb σ s _ _ W h hc hs enters_types (fun hw r Y hh=>hh.ret hw (stays_kind _ _)) fun hw W' h' hk=>?_
 exact(types_any b g cap dv ts xb _ W' h' hw).mono fun r Y hh=>⟨hk.out.trans hh.1,hh.2⟩
theorem behind_name (b g cap:Nat) (dv:Value) (ts:List Tok) (xb:Nat→Prop) (σ:RS) (s:List UInt8) (W:World) (h:Hid (Cd W b g cap dv ts xb σ)) (hc:σ.code=0) (hs:s ∈ sgL) :
  Calls prog 102 #[.pointer (some ⟨b,0,none⟩),.string (str s),.func (.func 63) #[.pointer (some ⟨b,0,none⟩)] #[]] W fun r Y=>CdRet b g cap dv ts xb W (.string (str (nameV ts (wantS ts s σ)))) (nameS ts (wantS ts s σ)) r Y:=by
 refine behind_str b g cap dv ts xb σ s _ _ W h hc hs enters_cname (fun hw r Y hh=>hh.ret hw (stays_name _ _)) fun hw W' h' hk=>?_
 exact(cname_any b g cap dv ts xb _ W' h' hw).mono fun r Y hh=>⟨hk.out.trans hh.1,hh.2⟩
def CiRet (b g cap:Nat) (dv:Value) (ts:List Tok) (xb:Nat→Prop) (W:World) (x:It) (σ:RS) (r:Ending) (Y:World):Prop :=
 RX b xb W Y∧((σ.code=0∧(∃so sn sc,r=.returned (.agg (itC x (.slice so sn sc)))∧Cd Y b g cap dv ts xb σ∧Y.ownsRow W.heap.size 9 1 (.slice so sn sc) x.states.length (x.states.map .string)))∨(σ.code≠0∧r=.panicked [{ v:=refusalV σ.code σ.pos,recovered:=false }]))
theorem CiRet.bad {b g cap:Nat} {dv:Value} {ts:List Tok} {xb:Nat→Prop} {W:World} {x:It} {σ τ:RS} {Y:World} (hk:RX b xb W Y) (hc:σ.code≠0) (hs:Stays σ τ):CiRet b g cap dv ts xb W x τ (.panicked [{ v:=refusalV σ.code σ.pos,recovered:=false }]) Y:=by
 obtain⟨h1,h2⟩:=hs hc
 exact⟨hk,.inr ⟨by rw[h1];exact hc,by rw[h1,h2]⟩⟩
structure CB (W0 Y:World) (b g cap:Nat) (dv:Value) (ts:List Tok) (xb:Nat→Prop) (σ:RS) (A D:Nat) (c:Array Value):Prop where
 cd:Cd Y b g cap dv ts xb σ
 rx:RX b xb W0 Y
 zero:Y.heap[A]?=some (.cells itZ 65 (0,0))
 box:Y.heap[D]?=some (.cells c 65 (0,0))
 hA:W0.heap.size≤A
 hD:W0.heap.size≤D
 hne:A≠D
 hb:b<W0.heap.size
 hx:∀k,xb k→k<W0.heap.size
theorem CB.call {W0 Y Z:World} {b g cap:Nat} {dv:Value} {ts:List Tok} {xb:Nat→Prop} {σ τ:RS} {A D:Nat} {c:Array Value} (h:CB W0 Y b g cap dv ts xb σ A D c) (hr:Hid (Cd Z b g cap dv ts xb τ)) (hk:Hid (RX b xb Y Z)):CB W0 Z b g cap dv ts xb τ A D c :=
 ⟨hr.out,h.rx.trans hk.out,hk.out.keep A _ h.zero (by have:=h.hA;have:=h.hb;omega) (.of (by decide)),hk.out.keep D _ h.box (by have:=h.hD;have:=h.hb;omega) (.of (by decide)),h.hA,h.hD,h.hne,h.hb,h.hx⟩
theorem CB.set {W0 Y:World} {b g cap:Nat} {dv:Value} {ts:List Tok} {xb:Nat→Prop} {σ:RS} {A D:Nat} {c:Array Value} (h:CB W0 Y b g cap dv ts xb σ A D c) (i:Nat) (v:Value) {c':Array Value} (he:c.setIfInBounds i v=c'):CB W0 (Y.setCell ⟨D,i,none⟩ v) b g cap dv ts xb σ A D c':=by
 have hA:=h.hA
 have hD:=h.hD
 have hb:=h.hb
 have hbut:But D Y (Y.setCell ⟨D,i,none⟩ v):=(But.refl _ _).set i v
 exact⟨h.cd.but h.box (by decide) (by decide) (by omega) hbut,h.rx.but h.hx hD (by omega) hb hbut,(Below.heap_setCell Y ⟨D,i,none⟩ v A (by simpa using h.hne)).trans h.zero,by rw[set_blk h.box,he],h.hA,h.hD,h.hne,h.hb,h.hx⟩
theorem CB.new {W:World} {b g cap:Nat} {dv:Value} {ts:List Tok} {xb:Nat→Prop} {σ:RS} (h:Cd W b g cap dv ts xb σ) (c:Array Value):CB W ((W.alloc (.cells itZ 65)).alloc (.cells c 65)) b g cap dv ts xb σ W.heap.size (W.heap.size+1) c:=by
 have hb:Below W.heap.size W ((W.alloc (.cells itZ 65)).alloc (.cells c 65)):=((qB _ _).alloc (qL _) _).alloc (by simp) _
 refine⟨h.below hb,RX.of_below hb (ql h.size) h.xlt,?_,?_,qL _,Nat.le_succ _,by omega,h.size,h.xlt⟩
 ·rw[heap_alloc_old _ _ (by simp)];exact heap_alloc_new W _
 ·have:=heap_alloc_new (W.alloc (.cells itZ 65)) (.cells c 65)
  rw[World.size_alloc] at this
  exact this
theorem CB.new2 {W W1:World} {b g cap:Nat} {dv:Value} {ts:List Tok} {xb:Nat→Prop} {σ:RS} (h:Cd W b g cap dv ts xb σ) (hb:Below W.heap.size W W1) (hz:W1.heap[W.heap.size]?=some (.cells itZ 65 (0,0))) (c:Array Value):CB W (W1.alloc (.cells c 65)) b g cap dv ts xb σ W.heap.size W1.heap.size c:=by
 have hlt:=heap_lt hz
 have hb2:Below W.heap.size W (W1.alloc (.cells c 65)):=hb.alloc hb.size _
 exact⟨h.below hb2,RX.of_below hb2 (ql h.size) h.xlt,(heap_alloc_old _ _ hlt).trans hz,heap_alloc_new W1 _,qL _,ql hlt,by omega,h.size,h.xlt⟩
theorem CB.told {W0 Y:World} {b g cap:Nat} {dv:Value} {ts:List Tok} {xb:Nat→Prop} {σ:RS} {A D:Nat} {c:Array Value} (h:CB W0 Y b g cap dv ts xb σ A D c) (x0 x1 x2 x3 x4 x5 x6 x7 x8:Value) :
  (set9 Y A x0 x1 x2 x3 x4 x5 x6 x7 x8).heap[A]?=some (.cells #[x0,x1,x2,x3,x4,x5,x6,x7,x8] 65 (0,0))∧Cd (set9 Y A x0 x1 x2 x3 x4 x5 x6 x7 x8) b g cap dv ts xb σ∧RX b xb W0 (set9 Y A x0 x1 x2 x3 x4 x5 x6 x7 x8)∧But A Y (set9 Y A x0 x1 x2 x3 x4 x5 x6 x7 x8):=by
 have hA:=h.hA
 have hb:=h.hb
 have hbut:=set9_but Y A x0 x1 x2 x3 x4 x5 x6 x7 x8
 exact⟨set9_box h.zero _ _ _ _ _ _ _ _ _,h.cd.but h.zero (by decide) (by decide) (by omega) hbut,h.rx.but h.hx hA (by omega) hb hbut,hbut⟩
theorem clet_any (b g cap:Nat) (dv:Value) (ts:List Tok) (xb:Nat→Prop) (f:Nat) (x:RS) (hc:x.code=0) (hi:isS ts [108,101,116] x=true) (v:Int) (l:List Int) (s5:RS)
  (hr:runE ts f .expr (wantS ts [61] (kindS ts (wantS ts [58] (nameS ts (stepS x)))))=some (v,l,s5)) (W:World) (h:Hid (Cd W b g cap dv ts xb x)) :
  Calls prog 88 #[.pointer (some ⟨b,0,none⟩)] W fun r Y=>CiRet b g cap dv ts xb W { it0 with kind:=1,name:=str (nameV ts (stepS x)),type:=kindV ts (wantS ts [58] (nameS ts (stepS x))),e:=v,pos:=((tokL ts x.at_).at_:Int) } (wantS ts [59] s5) r Y:=by
 obtain⟨o,c,⟨c0,c1,c2,c3,fr⟩,hx⟩:=h.out.cells
 obtain⟨t0,t1,t2,t3⟩:=h.out.tok
 have hl:=h.out.at_
 have hbs:=h.out.size
 have hgs:g<W.heap.size:=by have:=h.out.lt;omega
 obtain⟨P,hP⟩:∃P,P=(tokL ts x.at_).at_:=⟨_,rfl⟩
 obtain⟨m,hmm⟩:∃m,m=ts.length-x.at_:=⟨_,rfl⟩
 obtain⟨a4,haa⟩:∃a4,a4=x.at_*4:=⟨_,rfl⟩
 rw[←hmm,←haa] at c0
 rw[←hP,←haa] at t3
 rw[←hP]
 have k0:(0:Int)<(m:Int):=by omega
 obtain⟨N,hN⟩:∃N,N=str (nameV ts (stepS x)):=⟨_,rfl⟩
 obtain⟨s1,hs1⟩:∃s1,s1=nameS ts (stepS x):=⟨_,rfl⟩
 rw[←hs1] at hr
 rw[←hN,←hs1]
 obtain⟨T,hT⟩:∃T,T=kindV ts (wantS ts [58] s1):=⟨_,rfl⟩
 obtain⟨s3,hs3⟩:∃s3,s3=kindS ts (wantS ts [58] s1):=⟨_,rfl⟩
 rw[←hs3] at hr
 rw[←hT]
 obtain⟨s6,hs6⟩:∃s6,s6=wantS ts [59] s5:=⟨_,rfl⟩
 rw[←hs6]
 have K5:Hid (Stays s5 s6):=Hd (by rw[hs6];exact stays_want _ _ _)
 have K3:Hid (Stays s3 s6):=Hd ((stays_want ts [61] s3).trans ((stuck ts f .expr _ _ hr).trans K5.out))
 have K1:Hid (Stays s1 s6):=Hd ((stays_want ts [58] s1).trans ((stays_kind _ _).trans (by rw[←hs3];exact K3.out)))
 obtain⟨W2,hW2⟩:∃W2,W2=(W.alloc (.cells #[.int .i64 0,.string ⟨#[]⟩,.int .i64 0,.int .i64 0,.int .i64 0,.slice none 0 0,.string ⟨#[]⟩,.string ⟨#[]⟩,.int .i64 0] 65)).alloc (.cells #[.int .i64 1,.string ⟨#[]⟩,.int .i64 0,.int .i64 0,.int .i64 0,.slice none 0 0,.string ⟨#[]⟩,.string ⟨#[]⟩,.int .i64 (P:Int)] 65):=⟨_,rfl⟩
 have HB:Hid (CB W W2 b g cap dv ts xb x W.heap.size (W.heap.size+1) #[.int .i64 1,.string ⟨#[]⟩,.int .i64 0,.int .i64 0,.int .i64 0,.slice none 0 0,.string ⟨#[]⟩,.string ⟨#[]⟩,.int .i64 (P:Int)]):=Hd (by rw[hW2];exact CB.new h.out _)
 have C0:Hid (Calls prog 67 #[.pointer (some ⟨b,0,none⟩),.slice (some ⟨W.heap.size+1+1,0,none⟩) 1 1] (W2.alloc (.cells #[.string ⟨#[108,101,116]⟩] 9)) fun r Y=>r=.returned (.tuple #[])∧Hid (Cd Y b g cap dv ts xb (stepS x))∧Hid (RX b xb W2 Y)):=Hd (by rw[←show W2.heap.size=W.heap.size+1+1 by rw[hW2];simp];exact((wants_one b g cap dv ts xb x [108,101,116] W2 (Hd HB.out.cd) hc (by decide)).mono fun r Y hh=>(show CdRet b g cap dv ts xb W2 (.tuple #[]) (stepS x) r Y from by rw[←show wantS ts [108,101,116] x=stepS x by unfold wantS;rw[if_pos hi]];exact hh).ok hc))
 have C1:Hid (∀W,Hid (Cd W b g cap dv ts xb (stepS x))→Calls prog 63 #[.pointer (some ⟨b,0,none⟩)] W fun r Y=>CdRet b g cap dv ts xb W (.string N) s1 r Y):=Hd fun W h=>by rw[hN,hs1];exact cname_any b g cap dv ts xb _ W h hc
 have C2:Hid (s1.code=0→∀W,Hid (Cd W b g cap dv ts xb s1)→Calls prog 65 #[.pointer (some ⟨b,0,none⟩),.string ⟨#[58]⟩,.func (.func 66) #[.pointer (some ⟨b,0,none⟩)] #[]] W fun r Y=>CdRet b g cap dv ts xb W (.int .i64 T) s3 r Y):=Hd fun z W h=>by rw[hT,hs3];exact behind_types b g cap dv ts xb s1 [58] W h z (by decide)
 have C3:Hid (s3.code=0→∀W,Hid (Cd W b g cap dv ts xb s3)→Calls prog 65 #[.pointer (some ⟨b,0,none⟩),.string ⟨#[61]⟩,.func (.func 26) #[.pointer (some ⟨b,0,none⟩)] #[]] W fun r Y=>CdRet b g cap dv ts xb W (.int .i64 v) s5 r Y):=Hd fun z W h=>behind_rule b g cap dv ts xb _ f .expr enters_expr (all_rules b g cap dv ts f xb).expr s3 z [61] (by decide) v l s5 hr W h
 have C4:Hid (s5.code=0→∀W,Hid (Cd W b g cap dv ts xb s5)→Calls prog 67 #[.pointer (some ⟨b,0,none⟩),.slice (some ⟨W.heap.size,0,none⟩) 1 1] (W.alloc (.cells #[.string ⟨#[59]⟩] 9)) fun r Y=>CdRet b g cap dv ts xb W (.tuple #[]) s6 r Y):=Hd fun z W h=>by rw[hs6];exact wants_one b g cap dv ts xb s5 [59] W h z (by decide)
 clear hmm haa t0 t1 t2 hl hx c1 c2 c3 fr hr hP hN hs1 hT hs3 hs6 hi hc
 go_enter Tryz.func88,Tryz.ntmps88
 go_wp2_with (first
  | (go_at_call 67;rw[←hW2];clear hW2 c0 t3;(with_reducible refine C0.out.mono ?_);rintro e w1 ⟨rfl,hr1,hk1⟩)
  | (go_at_call 63;(with_reducible refine(C1.out _ hr1).mono ?_);rintro e w2 hh;rcases hh.two with ⟨z2,rfl,hr2,hk2⟩ | ⟨z2,rfl,hk2⟩;rotate_left;exact⟨rfl,CiRet.bad (HB.out.rx.trans (hk1.out.trans hk2.out)) z2 K1.out⟩)
  | (go_at_call 65;(with_reducible refine(C2.out z2 _ hr2).mono ?_);rintro e w3 hh;rcases hh.two with ⟨z3,rfl,hr3,hk3⟩ | ⟨z3,rfl,hk3⟩;rotate_left;exact⟨rfl,CiRet.bad (HB.out.rx.trans (hk1.out.trans (hk2.out.trans hk3.out))) z3 K3.out⟩)
  | (go_at_call 65;(with_reducible refine(C3.out z3 _ hr3).mono ?_);rintro e w4 hh;rcases hh.two with ⟨z4,rfl,hr4,hk4⟩ | ⟨z4,rfl,hk4⟩;rotate_left;exact⟨rfl,CiRet.bad (HB.out.rx.trans (hk1.out.trans (hk2.out.trans (hk3.out.trans hk4.out)))) z4 K5.out⟩;have HC:=Hd ((((HB.out.call hr1 hk1).call hr2 hk2).call hr3 hk3).call hr4 hk4);obtain⟨⟨y0,y1,y2,y3,y4,y5,y6,y7,y8⟩,yf⟩:=rgCells HC.out.box;have f1:=yf 1;have f2:=yf 2;have f3:=yf 3;clear yf))
 obtain⟨V,hV⟩:∃V,V=((w4.setCell ⟨W.heap.size+1,1,none⟩ (.string N)).setCell ⟨W.heap.size+1,2,none⟩ (.int .i64 T)).setCell ⟨W.heap.size+1,3,none⟩ (.int .i64 v):=⟨_,rfl⟩
 have HV:Hid (CB W V b g cap dv ts xb s5 W.heap.size (W.heap.size+1) #[.int .i64 1,.string N,.int .i64 T,.int .i64 v,.int .i64 0,.slice none 0 0,.string ⟨#[]⟩,.string ⟨#[]⟩,.int .i64 (P:Int)]):=Hd (by rw[hV];exact((HC.out.set 1 _ rfl).set 2 _ rfl).set 3 _ rfl)
 rw[←hV,show w4.heap.size=V.heap.size by rw[hV];simp]
 clear hV y0 y1 y2 y3 y4 y5 y6 y7 y8 f1 f2 f3
 refine(C4.out z4 V (Hd HV.out.cd)).mono ?_
 rintro e w5 hh
 rcases hh.two with ⟨z5,rfl,hr5,hk5⟩ | ⟨z5,rfl,hk5⟩
 rotate_left
 ·exact⟨rfl,CiRet.bad (HV.out.rx.trans hk5.out) z5 (Stays.refl _)⟩
 dsimp only
 have HE:=Hd (HV.out.call hr5 hk5)
 obtain⟨⟨y0,y1,y2,y3,y4,y5,y6,y7,y8⟩,_⟩:=rgCells HE.out.box
 obtain⟨⟨q0,q1,q2,q3,q4,q5,q6,q7,q8⟩,qf⟩:=rgCells HE.out.zero
 have g0:=qf 0;have g1:=qf 1;have g2:=qf 2;have g3:=qf 3;have g4:=qf 4;have g5:=qf 5;have g6:=qf 6;have g7:=qf 7;have g8:=qf 8
 clear qf
 go_wp2_with fail
 obtain⟨r1,r2,r3,r4⟩:=HE.out.told (.int .i64 1) (.string N) (.int .i64 T) (.int .i64 v) (.int .i64 0) (.slice none 0 0) (.string ⟨#[]⟩) (.string ⟨#[]⟩) (.int .i64 (P:Int))
 obtain⟨⟨x0,x1,x2,x3,x4,x5,x6,x7,x8⟩,_⟩:=rgCells r1
 unfold set9 at x0 x1 x2 x3 x4 x5 x6 x7 x8
 exact bodyPost_ret (v:=.agg #[.int .i64 1,.string N,.int .i64 T,.int .i64 v,.int .i64 0,.slice none 0 0,.string ⟨#[]⟩,.string ⟨#[]⟩,.int .i64 (P:Int)]) (by simp[results,Tryz.results88,go_sem,x0,x1,x2,x3,x4,x5,x6,x7,x8]) rfl ⟨r3,.inl ⟨z5,none,0,0,rfl,r2,qO _ _ _ _⟩⟩
theorem RX.grown {b:Nat} {xb:Nat→Prop} {W0 W Y:World} (h:RX b xb W0 W) (hx:∀k,xb k→k<W0.heap.size) (hb:b<W0.heap.size) {T:TypeId} {s:Nat} {v:Value} {n:Nat} {xs:List Value} (ho:W.ownsRow W0.heap.size T s v n xs) (hg:W.grownBy Y v.ownBlock):RX b xb W0 Y:=by
 have hs:=h.size
 cases hk:v.ownBlock with
 | none=>rw[hk] at hg;exact h.trans (RX.of_below (below_grown hg) (by omega) fun k hk=>Nat.lt_of_lt_of_le (hx k hk) hs)
 | some k=>rw[hk] at hg;exact h.but hx (own_type ho hk).1 (by have:=(own_type ho hk).1;omega) hb (but_grown hg)
structure StS (b g cap:Nat) (dv:Value) (ts:List Tok) (xb:Nat→Prop) (W0:World) (lb rb:Nat) (o:Option Addr) (c:Nat) (acc:List ByteArray) (σ:RS) (W:World):Prop where
 cd:Cd W b g cap dv ts xb σ
 rx:RX b xb W0 W
 bx:BoxR W rb b
 lbx:W.heap[lb]?=some (.cells #[.slice o acc.length c] 63 (0,0))
 own:W.ownsRow W0.heap.size 9 1 (.slice o acc.length c) acc.length (acc.map .string)
def StI (b g cap:Nat) (dv:Value) (ts:List Tok) (xb:Nat→Prop) (W0:World) (lb rb:Nat) (acc:List ByteArray) (σ:RS) (W:World):Prop:=∃o c,StS b g cap dv ts xb W0 lb rb o c acc σ W
def stOne (ts:List Tok) (acc:List ByteArray) (σ:RS) (acc':List ByteArray) (σ':RS):Prop:=acc'=acc++[str (nameV ts σ)]∧σ'=nameS ts σ∧acc.length≤40000
theorem stOne_stays {ts:List Tok}:∀a σ a' σ',stOne ts a σ a' σ'→Stays σ σ':=fun a σ a' σ' ⟨_,h,_⟩=>by rw[h];exact stays_name ts σ
theorem StS.on {b g cap:Nat} {dv:Value} {ts:List Tok} {xb:Nat→Prop} {W0:World} {lb rb:Nat} {o:Option Addr} {c:Nat} {acc:List ByteArray} {σ σ':RS} {W Y:World} (h:StS b g cap dv ts xb W0 lb rb o c acc σ W) (hb:b<W0.heap.size) (hlb:lb≠b) (hrb:rb≠b) (hc:Cd Y b g cap dv ts xb σ') (hr:RX b xb W Y):StS b g cap dv ts xb W0 lb rb o c acc σ' Y :=
 ⟨hc,h.rx.trans hr,h.bx.keep hrb hr,hr.keep lb _ h.lbx hlb (NoEx.of (by decide)),own_keepT h.own (by decide) hb hr.rk⟩
theorem stI_in {b g cap:Nat} {dv:Value} {ts:List Tok} {xb:Nat→Prop} {W0:World} {lb rb:Nat} (hb:b<W0.heap.size) (hlb:lb≠b) (hrb:rb≠b):∀(a:List ByteArray) (σ:RS) (W:World),StI b g cap dv ts xb W0 lb rb a σ W→∃xs:Nat→Prop,(∀k,xb k→xs k)∧Cd W b g cap dv ts xs σ∧RX b xb W0 W∧∀σ' Y,Cd Y b g cap dv ts xs σ'→RX b xs W Y→StI b g cap dv ts xb W0 lb rb a σ' Y:=fun a σ W ⟨o,c,h⟩ =>
 ⟨xb,fun _ h=>h,h.cd,h.rx,fun σ' Y hc hr=>⟨o,c,h.on hb hlb hrb hc hr⟩⟩
theorem StS.push {b g cap:Nat} {dv:Value} {ts:List Tok} {xb:Nat→Prop} {W0:World} {lb rb:Nat} {o:Option Addr} {c:Nat} {acc:List ByteArray} {e:ByteArray} {σ:RS} {W W1 W2:World} (h:StS b g cap dv ts xb W0 lb rb o c acc σ W) (hb:b<W0.heap.size) (hlb:W0.heap.size≤lb) (hx0:∀k,xb k→k<W0.heap.size) (hrl:rb≠lb) (hrb2:rb≠b) (hB:Below W.heap.size W W1) (gg cc:Nat)
  (ho:W2.ownsRow W0.heap.size 9 1 (.slice (some ⟨gg,0,none⟩) (acc.length+1) cc) (acc.length+1) (acc.map .string++[.string e])) (hg:W1.grownBy W2 (Value.slice o acc.length c).ownBlock) :
  StI b g cap dv ts xb W0 lb rb (acc++[e]) σ (W2.setCell ⟨lb,0,none⟩ (.slice (some ⟨gg,0,none⟩) (acc.length+1) cc)):=by
 have hw0:W0.heap.size≤W.heap.size:=h.rx.size
 have hs1:=hB.size
 have hs2:=hg.size
 have hlw:=heap_lt h.lbx
 have hrw:=heap_lt h.bx
 have own1:W1.ownsRow W0.heap.size 9 1 (.slice o acc.length c) acc.length (acc.map .string):=rd_own_same h.own fun k e=>hB.block k (h.own.lt k e).2
 have own_ge:∀k,(Value.slice o acc.length c).ownBlock=some k→W0.heap.size≤k∧∃cs,W.heap[k]?=some (.cells cs 9 (0,0)):=fun k hk=>own_type h.own hk
 have same:∀k,k<W.heap.size→(Value.slice o acc.length c).ownBlock≠some k→W2.heap[k]?=W.heap[k]?:=fun k hk hne=>(hg.block k (by omega) (fun e=>hne e.symm)).trans (hB.block k hk)
 have h2:Cd W2 b g cap dv ts xb σ:=(h.cd.below hB).grownT own1 (by omega) (by decide) (by decide) hg
 have r2:RX b xb W0 W2:=(h.rx.trans (RX.of_below hB (by omega) fun k hk=>Nat.lt_of_lt_of_le (hx0 k hk) hw0)).grown hx0 hb own1 hg
 have hlb2:W2.heap[lb]?=some (.cells #[.slice o acc.length c] 63 (0,0)):=(same lb hlw fun e=>by
  obtain⟨_,cs,hc⟩:=own_ge lb e
  rw[h.lbx] at hc;cases hc).trans h.lbx
 have hrb3:W2.heap[rb]?=W.heap[rb]?:=same rb hrw fun e=>by
  obtain⟨_,cs,hc⟩:=own_ge rb e
  have hbx:=h.bx
  unfold BoxR at hbx
  rw[hbx] at hc;cases hc
 have hgl:gg≠lb:=fun e=>by
  obtain⟨_,cs,hc⟩:=own_type ho (k:=gg) rfl
  rw[e,hlb2] at hc;cases hc
 have hbut:But lb W2 (W2.setCell ⟨lb,0,none⟩ (.slice (some ⟨gg,0,none⟩) (acc.length+1) cc)):=(But.refl _ _).set 0 _
 have hlen:(acc++[e]).length=acc.length+1:=by simp
 refine⟨some ⟨gg,0,none⟩,cc,h2.but hlb2 (by decide) (by decide) (by omega) hbut,r2.but hx0 hlb (by omega) hb hbut,?_,?_,?_⟩
 ·unfold BoxR
  rw[Below.heap_setCell W2 ⟨lb,0,none⟩ _ rb hrl,hrb3];exact h.bx
 ·rw[set_blk hlb2,hlen];simp
 ·rw[hlen,List.map_append]
  exact rd_own_same ho fun k e=>by
   obtain rfl:gg=k:=by simpa [Value.ownBlock] using e
   exact Below.heap_setCell W2 ⟨lb,0,none⟩ _ gg hgl
theorem StS.lb2 {b g cap:Nat} {dv:Value} {ts:List Tok} {xb:Nat→Prop} {W0:World} {lb rb:Nat} {o:Option Addr} {c:Nat} {acc:List ByteArray} {σ:RS} {W W1 W2:World} (h:StS b g cap dv ts xb W0 lb rb o c acc σ W) (hB:Below W.heap.size W W1) (hg:W1.grownBy W2 (Value.slice o acc.length c).ownBlock):W2.heap[lb]?=some (.cells #[.slice o acc.length c] 63 (0,0)):=by
 have hlw:=heap_lt h.lbx
 refine((hg.block lb (by have:=hB.size;omega) (fun e=>?_)).trans (hB.block lb hlw)).trans h.lbx
 obtain⟨_,cs,hc⟩:=own_type h.own e.symm
 rw[h.lbx] at hc;cases hc
theorem states1_any (b g cap:Nat) (dv:Value) (ts:List Tok) (xb:Nat→Prop) (W0:World) (lb rb:Nat) (hb:b<W0.heap.size) (hx0:∀k,xb k→k<W0.heap.size) (hlb:W0.heap.size≤lb) (hrl:rb≠lb) (hrb2:rb≠b)
  (acc acc':List ByteArray) (σ σ':RS) (hc:σ.code=0) (h1:stOne ts acc σ acc' σ') (W:World) (h:Hid (StI b g cap dv ts xb W0 lb rb acc σ W)) :
  Calls prog 114 #[.pointer (some ⟨lb,0,none⟩),.pointer (some ⟨rb,0,none⟩)] W fun r Y=>LsRet b xb W0 (StI b g cap dv ts xb W0 lb rb) acc' σ' r Y:=by
 obtain⟨rfl,hs',hlen⟩:=h1
 obtain⟨o,c,hS⟩:=h.out
 have HS:=Hd hS
 have hbW:b<W.heap.size:=hS.cd.size
 obtain⟨l0,l1⟩:=cell_one1 hS.lbx
 have r0:=hS.bx.cell
 have hlb2:lb≠b:=by omega
 obtain⟨e,he⟩:∃e,e=str (nameV ts σ):=⟨_,rfl⟩
 rw[←he]
 obtain⟨n,hn⟩:∃n,n=acc.length:=⟨_,rfl⟩
 rw[←hn] at l0
 have HN:=Hd hn
 have hn5:n≤40000:=by omega
 have HX:=Hd (show _∧_∧_∧_∧_ from⟨hb,hx0,hlb,hrl,hrb2⟩)
 have HSD:Hid (StS b g cap dv ts xb W0 lb rb o c acc σ W.drew):=Hd (hS.on hb hlb2 hrb2 (hS.cd.below (below_dr (qB _ _) 1)) (RX.of_below (below_dr (qB _ _) 1) (ql hbW) hS.cd.xlt))
 have C0:Hid (∀W,Hid (Cd W b g cap dv ts xb σ)→Calls prog 63 #[.pointer (some ⟨b,0,none⟩)] W fun r Y=>CdRet b g cap dv ts xb W (.string e) σ' r Y):=Hd fun W h=>by rw[he,hs'];exact cname_any b g cap dv ts xb σ W h hc
 have HCD:Hid (Cd W.drew b g cap dv ts xb σ):=Hd HSD.out.cd
 have l0':W.drew.cell? ⟨lb,0,none⟩=some (.slice o n c):=l0
 have r0':W.drew.cell? ⟨rb,0,none⟩=some (.pointer (some ⟨b,0,none⟩)):=r0
 have mixed:prog.follows .mixedOrders=true:=by kernel_rfl
 have late:prog.follows .lateStores=true:=by kernel_rfl
 clear hc hS hn h hlen hx0 hrl hrb2 he hs'
 by_cases hz:σ'.code=0
 ·have C1:Hid (∀W,Hid (Cd W b g cap dv ts xb σ)→Calls prog 63 #[.pointer (some ⟨b,0,none⟩)] W fun r Y=>CdOk b g cap dv ts xb W (.string e) σ' r Y):=Hd fun W h=>(C0.out W h).mono fun r Y hh=>hh.ok hz
  have HZ:=Hd hz
  clear C0 hz
  go_enter Tryz.func114,Tryz.ntmps114
  go_wp2_with fail
  refine wp_onlyN ?_
  go_region_law (first
   | (refine step_call1 _ (by rfl) 63 #[.pointer (some ⟨b,0,none⟩)] (by go_simp) _ (C1.out _ HCD) ?_;rintro e1 w1 ⟨rfl,hr1,hk1⟩;refine⟨_,rfl,?_⟩;have HS1:=Hd (HSD.out.on HX.out.1 hlb2 HX.out.2.2.2.2 hr1.out hk1.out);obtain⟨y0,y1⟩:=cell_one1 HS1.out.lbx;rw[←HN.out] at y0;have y2:∀oo,(w1.alloc oo).cell? ⟨lb,0,none⟩=some (.slice o n c):=fun oo=>cell_on ((qB _ _).alloc (qL _) oo) y0;have hw1:=HS1.out.rx.size)
   | (refine step_strs _ (by rfl) (.tmp 2) (.tmp 5) (by rfl) W0.heap.size (.slice o n c) n (acc.map .string) (by rfl) (by have:=HS1.out.own;rw[←HN.out] at this;exact this.alloc _) w1.heap.size (.string e) (by rfl) (by exact new_cell1 _ _ _) (by rfl) (by omega) (by simp;omega) ?_;intro gg cc w2 ho hg;have HO:=Hd ho;have HG:=Hd hg;clear ho hg;have HP:=Hd (HS1.out.push (e:=e) HX.out.1 HX.out.2.2.1 HX.out.2.1 HX.out.2.2.2.1 HX.out.2.2.2.2 ((qB _ _).alloc (qL _) (.cells #[.string e] 9)) gg cc (by have:=HO.out;rw[HN.out] at this;exact this) (by have:=HG.out;rw[HN.out] at this;exact this));obtain⟨z8,z9⟩:=cell_one1 (HS1.out.lb2 ((qB _ _).alloc (qL _) (.cells #[.string e] 9)) (by have:=HG.out;rw[HN.out] at this;exact this));rw[←HN.out] at z8))
  all_goals (
   unfold onlyN
   go_end0
   exact .inl ⟨HZ.out,rfl,by rw[HN.out];exact HP.out⟩)
 ·have C1:Hid (∀W,Hid (Cd W b g cap dv ts xb σ)→Calls prog 63 #[.pointer (some ⟨b,0,none⟩)] W fun r Y=>CdBad b xb W σ'.code σ'.pos r Y):=Hd fun W h=>(C0.out W h).mono fun r Y hh=>hh.bad hz
  have HZ:=Hd hz
  clear C0 hz
  go_enter Tryz.func114,Tryz.ntmps114
  go_wp2_with fail
  go_region_with (go_at_call 63;(with_reducible refine(C1.out _ HCD).mono ?_);rintro e1 w1 ⟨rfl,hk1⟩;refine dummyAny prog w1 ⟨rfl,.inr ⟨HZ.out,rfl,HSD.out.rx.trans hk1.out⟩⟩ ?_)
  all_goals trivial
def itsL (ts:List Tok) (f:Nat) (all:Bool):Nat→List It→RS→Option (List It×RS)
 | 0,_,_=>none
 | n+1,acc,σ=>if acc.length≤40000 then(if σ.code=0 then(itemS ts f all σ).bind fun r=>if r.2.1=true then itsL ts f all n (acc++[r.1]) r.2.2 else some (acc,r.2.2) else some (acc,σ)) else none
def itsC (l:List (It×Value)):List Value:=l.flatMap fun x=>(itC x.1 x.2).toList
theorem itsC_snoc (l:List (It×Value)) (x:It×Value):itsC (l++[x])=itsC l++(itC x.1 x.2).toList:=by unfold itsC;rw[List.flatMap_append];simp
def ItsOwn (W:World) (B:Nat) (v:Value) (l:List It):Prop :=
 ∃q:List (It×Value),q.map Prod.fst=l∧W.ownsRow B 65 9 v l.length (itsC q)∧∀x ∈ q,W.ownsRow B 9 1 x.2 x.1.states.length (x.1.states.map .string)
theorem ItsOwn.nil (W:World) (B:Nat):ItsOwn W B (.slice none 0 0) []:=⟨[],rfl,qO _ _ _ _,fun x hx=>by cases hx⟩
theorem ItsOwn.keep {b:Nat} {W Y:World} {B:Nat} {v:Value} {l:List It} (h:ItsOwn W B v l) (hB:b<B) (hk:RK b W Y):ItsOwn Y B v l:=by
 obtain⟨q,h1,h2,h3⟩:=h
 exact⟨q,h1,own_keepT h2 (by decide) hB hk,fun x hx=>own_keepT (h3 x hx) (by decide) hB hk⟩
theorem ItsOwn.form {W:World} {B:Nat} {v:Value} {l:List It} (h:ItsOwn W B v l):∃o c,v=.slice o l.length c:=by
 obtain⟨q,h1,h2,h3⟩:=h
 exact own_form h2
theorem ItsOwn.base {W:World} {B B':Nat} {v:Value} {l:List It} (h:ItsOwn W B v l) (hb:B'≤B):ItsOwn W B' v l:=by
 obtain⟨q,h1,h2,h3⟩:=h
 exact⟨q,h1,own_base h2 hb,fun x hx=>own_base (h3 x hx) hb⟩
theorem own_past {W Y:World} {B B2:Nat} {T T2:TypeId} {s s2:Nat} {v v2:Value} {n n2:Nat} {xs xs2:List Value} (h:W.ownsRow B T s v n xs) (h2:W.ownsRow B2 T2 s2 v2 n2 xs2) (hT:T≠T2) (hg:W.grownBy Y v2.ownBlock):Y.ownsRow B T s v n xs :=
 rd_own_same h fun k e=>hg.block k (h.lt k e).2 fun e2=>by
  obtain⟨_,cs,hc⟩:=own_type h e
  obtain⟨_,cs2,hc2⟩:=own_type h2 e2.symm
  rw[hc] at hc2;cases hc2;exact hT rfl
theorem own_below {W Y:World} {B:Nat} {T:TypeId} {s:Nat} {v:Value} {n:Nat} {xs:List Value} (h:W.ownsRow B T s v n xs) (hb:Below W.heap.size W Y):Y.ownsRow B T s v n xs:=rd_own_same h fun k e=>hb.block k (h.lt k e).2
theorem its_push {w1 w2 w3:World} {B n:Nat} {v v':Value} {q:List (It×Value)} {x:It} {sv:Value} (hq3:∀y ∈ q,w1.ownsRow B 9 1 y.2 y.1.states.length (y.1.states.map .string)) (hsv:w1.ownsRow B 9 1 sv x.states.length (x.states.map .string))
  (hb:Below w1.heap.size w1 w2) (ho2:w2.ownsRow B 65 9 v n (itsC q)) (hg:w2.grownBy w3 v.ownBlock) (hn:n=q.length) (ho:w3.ownsRow B 65 9 v' (n+1) (itsC q++(itC x sv).toList)):ItsOwn w3 B v' (q.map Prod.fst++[x]):=by
 refine⟨q++[(x,sv)],by simp,?_,fun y hy=>?_⟩
 ·rw[itsC_snoc,List.length_append,List.length_map,←hn];exact ho
 ·rcases List.mem_append.1 hy with hy | hy
  ·exact own_past (own_below (hq3 y hy) hb) ho2 (by decide) hg
  ·obtain rfl:=List.mem_singleton.1 hy
   exact own_past (own_below hsv hb) ho2 (by decide) hg
theorem it_info:(prog.info? 65).map (fun i=>(i.zero,i.size,i.bytes))=some (some (.agg #[.int .i64 0,.string ⟨#[]⟩,.int .i64 0,.int .i64 0,.int .i64 0,.slice none 0 0,.string ⟨#[]⟩,.string ⟨#[]⟩,.int .i64 0]),9,112):=by kernel_rfl
theorem wpList_its (w:World) {ops:Array Oper} {rest:List Oper} {o:Oper} {a:Act} {Q:Exit→Act→World→Prop}
  (hg:o.guard=none) (s x:Operand) (hop:o.op=Op.call { callee:=Callee.builtin Builtin.append,args:=#[s,x],argTypes:=#[55,55] })
  (base:Nat) (v:Value) (k:Nat) (xs:List Value) (hs:a.eval s=v) (hown:w.ownsRow base 65 9 v k xs) (kb:Nat) (T:TypeId) (u0 u1 u2 u3 u4 u5 u6 u7 u8:Value) (hx:a.eval x=.slice (some ⟨kb,0,none⟩) 1 1)
  (hc:w.heap[kb]?=some (.cells #[u0,u1,u2,u3,u4,u5,u6,u7,u8] T (0,0))) (h1c:∀u ∈ [u0,u1,u2,u3,u4,u5,u6,u7,u8],u.oneCell'=true) (hk:k≤40000) (b3:base≤w.heap.size)
  (hK:∀g cap w',w'.ownsRow base 65 9 (.slice (some ⟨g,0,none⟩) (k+1) cap) (k+1) (xs++[u0,u1,u2,u3,u4,u5,u6,u7,u8])→w.grownBy w' v.ownBlock→wpList prog ops Q rest (a.put o.dst (.slice (some ⟨g,0,none⟩) (k+1) cap)) w') :
  wpList prog ops Q (o :: rest) a w:=by
 obtain⟨i,h2,h3,h4,h5⟩:=info_parts it_info
 refine wpList_append_lies (w:=w) hg s x 55 hop base 65 i _ 9 112 Tryz.underlying55 h2 h3 h4 h5 rfl (by decide) v k xs hs hown ⟨kb,0,none⟩ 1 1 [u0,u1,u2,u3,u4,u5,u6,u7,u8] hx rfl (fun j v hj=>?_) h1c (by decide) (by unfold maxLen;omega) (by omega) b3 w.heap.size rfl fun g cap w' h1 h2 _ _=>hK g cap w' h1 h2
 have e:(⟨kb,0,none⟩:Addr).add j=⟨kb,j,none⟩:=by unfold Addr.add;split <;> simp_all
 rw[e]
 simp only[World.cell?,hc]
 rw[←hj]
 rcases j with _ | _ | _ | _ | _ | _ | _ | _ | _ | j <;> simp
theorem itsL_cases {ts:List Tok} {f:Nat} {all:Bool} {n:Nat} {acc:List It} {σ:RS} {R:List It×RS} (h:itsL ts f all n acc σ=some R):∃k,n=k+1∧acc.length≤40000 ∧
  ((σ.code=0∧∃x τ,itemS ts f all σ=some (x,true,τ)∧itsL ts f all k (acc++[x]) τ=some R)∨(σ.code=0∧∃x τ,itemS ts f all σ=some (x,false,τ)∧R=(acc,τ))∨(σ.code≠0∧R=(acc,σ))):=by
 cases n with
 | zero=>cases h
 | succ k =>
  simp only[itsL] at h
  split at h
  ·rename_i hl
   refine⟨k,rfl,hl,?_⟩
   split at h
   ·rename_i hc
    cases hi:itemS ts f all σ with
    | none=>rw[hi] at h;cases h
    | some r =>
     obtain⟨x,ok,τ⟩:=r
     rw[hi] at h
     simp only[Option.bind_some] at h
     cases ok with
     | true=>exact .inl ⟨hc,x,τ,rfl,by simpa using h⟩
     | false=>exact .inr (.inl ⟨hc,x,τ,rfl,by simpa using h.symm⟩)
   ·rename_i hc;exact .inr (.inr ⟨hc,by simpa using h.symm⟩)
  ·cases h
def paC (l:List Pa):List Value:=l.flatMap fun p=>[.string p.name,.int .i64 p.type]
def parsL (ts:List Tok):Nat→List Pa→RS→Option (List Pa×RS)
 | 0,_,_=>none
 | f+1,acc,σ=>if acc.length≤40000 then(if σ.code=0 then(if isS ts [44] (kindS ts (wantS ts [58] (nameS ts σ)))=true then parsL ts f (acc++[⟨str (nameV ts σ),kindV ts (wantS ts [58] (nameS ts σ))⟩]) (stepS (kindS ts (wantS ts [58] (nameS ts σ)))) else some (acc++[⟨str (nameV ts σ),kindV ts (wantS ts [58] (nameS ts σ))⟩],wantS ts [41] (kindS ts (wantS ts [58] (nameS ts σ))))) else some (acc,σ)) else none
def paramsS (ts:List Tok) (f:Nat) (σ:RS):Option (List Pa×RS):=if isS ts [41] (wantS ts [40] σ)=true then some ([],stepS (wantS ts [40] σ)) else parsL ts f [] (wantS ts [40] σ)
theorem pa_info:(prog.info? 62).map (fun i=>(i.zero,i.size,i.bytes))=some (some (.agg #[.string ⟨#[]⟩,.int .i64 0]),2,24):=by kernel_rfl
theorem new_cell2 (W:World) (u v:Value) (T:TypeId):(W.alloc (.cells #[u,v] T)).cell? ⟨W.heap.size,0,none⟩=some u∧(W.alloc (.cells #[u,v] T)).cell? ⟨W.heap.size,1,none⟩=some v:=by
 constructor <;> (rw[World.cell?_alloc_new];rfl)
theorem dgCells {W:World} {B:Nat} {x0 x1 x2 x3 x4 x5 x6:Value} {T:TypeId} (h:W.heap[B]?=some (.cells #[x0,x1,x2,x3,x4,x5,x6] T (0,0))):(W.cell? ⟨B,0,none⟩=some x0∧W.cell? ⟨B,1,none⟩=some x1∧W.cell? ⟨B,2,none⟩=some x2∧W.cell? ⟨B,3,none⟩=some x3∧W.cell? ⟨B,4,none⟩=some x4∧W.cell? ⟨B,5,none⟩=some x5∧W.cell? ⟨B,6,none⟩=some x6)∧∀i,W.frozen? ⟨B,i,none⟩=false :=
 ⟨⟨by simp[World.cell?,h],by simp[World.cell?,h],by simp[World.cell?,h],by simp[World.cell?,h],by simp[World.cell?,h],by simp[World.cell?,h],by simp[World.cell?,h]⟩,fun i=>by simp[World.frozen?,h]⟩
def set7 (W:World) (A:Nat) (x0 x1 x2 x3 x4 x5 x6:Value):World:=((((((W.setCell ⟨A,0,none⟩ x0).setCell ⟨A,1,none⟩ x1).setCell ⟨A,2,none⟩ x2).setCell ⟨A,3,none⟩ x3).setCell ⟨A,4,none⟩ x4).setCell ⟨A,5,none⟩ x5).setCell ⟨A,6,none⟩ x6
theorem set7_box {W:World} {A:Nat} {y0 y1 y2 y3 y4 y5 y6:Value} {T:TypeId} (h:W.heap[A]?=some (.cells #[y0,y1,y2,y3,y4,y5,y6] T (0,0))) (x0 x1 x2 x3 x4 x5 x6:Value) :
  (set7 W A x0 x1 x2 x3 x4 x5 x6).heap[A]?=some (.cells #[x0,x1,x2,x3,x4,x5,x6] T (0,0)):=by
 have h1:=set_blk h 0 x0
 have h2:=set_blk h1 1 x1
 have h3:=set_blk h2 2 x2
 have h4:=set_blk h3 3 x3
 have h5:=set_blk h4 4 x4
 have h6:=set_blk h5 5 x5
 have h7:=set_blk h6 6 x6
 unfold set7
 rw[h7]
 simp
theorem set7_but (W:World) (A:Nat) (x0 x1 x2 x3 x4 x5 x6:Value):But A W (set7 W A x0 x1 x2 x3 x4 x5 x6):=((((((But.refl A W).set 0 _).set 1 _).set 2 _).set 3 _).set 4 _).set 5 _ |>.set 6 _
theorem own_but {W Y:World} {B:Nat} {T T2:TypeId} {s:Nat} {v:Value} {n:Nat} {xs:List Value} (h:W.ownsRow B T s v n xs) {A:Nat} {cs:Array Value} (hA:W.heap[A]?=some (.cells cs T2 (0,0))) (hT:T≠T2) (hb:But A W Y):Y.ownsRow B T s v n xs :=
 rd_own_same h fun k e=>hb.block k (by
  rintro rfl
  obtain⟨_,cs',hc⟩:=own_type h e
  rw[hA] at hc;cases hc;exact hT rfl) (h.lt k e).2
theorem its_but {W Y:World} {B:Nat} {v:Value} {l:List It} (h:ItsOwn W B v l) {A:Nat} {cs:Array Value} (hA:W.heap[A]?=some (.cells cs 57 (0,0))) (hb:But A W Y):ItsOwn Y B v l:=by
 obtain⟨q,h1,h2,h3⟩:=h
 exact⟨q,h1,own_but h2 hA (by decide) hb,fun x hx=>own_but (h3 x hx) hA (by decide) hb⟩
theorem states_LR {ts:List Tok}:∀(n:Nat) (acc:List ByteArray) (σ:RS) (R:List ByteArray×RS),statesL ts n acc σ=some R→∃m,LR (stOne ts) ts m acc σ R.1 R.2:=by
 intro n
 induction n with
 | zero=>intro acc σ R h;cases h
 | succ n ih =>
  intro acc σ R h
  simp only[statesL] at h
  split at h
  ·rename_i hl
   split at h
   ·rename_i hi
    obtain⟨m,hm⟩:=ih _ _ R h
    exact⟨m+1,.more hi ⟨rfl,rfl,hl⟩ hm⟩
   ·rename_i hi
    obtain rfl:=qI h
    exact⟨0,.stop (by simpa using hi)⟩
  ·cases h
def SsRet (b g cap:Nat) (dv:Value) (ts:List Tok) (xb:Nat→Prop) (W:World) (acc:List ByteArray) (τ:RS) (r:Ending) (Y:World):Prop :=
 (τ.code=0∧∃o c,r=.returned (.slice o acc.length c)∧Hid (Cd Y b g cap dv ts xb τ)∧Hid (RX b xb W Y)∧Hid (Y.ownsRow W.heap.size 9 1 (.slice o acc.length c) acc.length (acc.map .string)))∨(τ.code≠0∧r=.panicked [{ v:=refusalV τ.code τ.pos,recovered:=false }]∧Hid (RX b xb W Y))
theorem enters_states1:∀args w,(callFunc 114 args).run prog w=.ok (.enter 114 args) w:=enters_of Tryz.func114 (by kernel_rfl) rfl
theorem states_any (b g cap:Nat) (dv:Value) (ts:List Tok) (xb:Nat→Prop) (f:Nat) (y τ:RS) (hc:y.code=0) (acc:List ByteArray) (hr:statesL ts f [str (nameV ts y)] (nameS ts y)=some (acc,τ)) (W:World) (h:Hid (Cd W b g cap dv ts xb y)) :
  Calls prog 104 #[.pointer (some ⟨b,0,none⟩)] W fun r Y=>SsRet b g cap dv ts xb W acc (wantS ts [125] τ) r Y:=by
 obtain⟨W1,hW1⟩:∃W1,W1=W.alloc (.cells #[.pointer (some ⟨b,0,none⟩)] 48):=⟨_,rfl⟩
 have hb1:Below W.heap.size W W1:=by rw[hW1];exact(qB _ _).alloc (qL _) _
 obtain⟨W2,hW2⟩:∃W2,W2=W1.alloc (.cells #[.slice none 0 0] 63):=⟨_,rfl⟩
 have hb2:Below W1.heap.size W1 W2:=by rw[hW2];exact(qB _ _).alloc (qL _) _
 have hbb:Below W.heap.size W W2:=hb1.trans (hb2.mono hb1.size)
 have hbs:=h.out.size
 have HX0:=h.out.xlt
 have hw1:W1.heap.size=W.heap.size+1:=by rw[hW1];simp
 have hbx:BoxR W1 W.heap.size b:=by rw[hW1];exact boxR_new W b
 have HI:Hid (StI b g cap dv ts xb W (W.heap.size+1) W.heap.size [] y W2):=Hd ⟨none,0,h.out.below hbb,RX.of_below hbb (ql hbs) HX0,(hb2.block _ (by omega)).trans hbx,by rw[hW2,←hw1];exact heap_alloc_new W1 _,qO _ _ _ _⟩
 have HBX:Hid (BoxR W2 W.heap.size b):=Hd ((hb2.block _ (by omega)).trans hbx)
 have b2:=HBX.out.cell
 obtain⟨m,hm⟩:=states_LR f _ _ _ hr
 have HL:Hid (Calls prog 86 #[.pointer (some ⟨b,0,none⟩),.string ⟨#[125]⟩,.func (.func 114) #[] #[.pointer (some ⟨W.heap.size+1,0,none⟩),.pointer (some ⟨W.heap.size,0,none⟩)]] W2 fun r Y=>LsRet b xb W (StI b g cap dv ts xb W (W.heap.size+1) W.heap.size) acc (wantS ts [125] τ) r Y):=Hd (
  list_any b g cap dv ts xb W _ (stOne ts) (stI_in hbs (by omega) (by omega)) stOne_stays _ _ _ enters_states1 (fun a σ a' σ' hc h1 W' h'=>states1_any b g cap dv ts xb W (W.heap.size+1) W.heap.size hbs HX0 (by omega) (by omega) (by omega) a a' σ σ' hc h1 W' h') [125] (by decide) [] [str (nameV ts y)] acc y (nameS ts y) τ m hc ⟨rfl,rfl,by simp⟩ hm W2 HI)
 have MF:=runF
 clear hm hr hb1 hb2 hbb hbx hw1 HI
 go_enter Tryz.func104,Tryz.ntmps104
 go_wp2_with (go_at_call 86;rw[←hW1,←hW2];clear hW1 hW2;(with_reducible refine HL.out.mono ?_);intro e w3 hY;rcases hY with ⟨z,rfl,o,c,hS⟩ | ⟨z,rfl,hk⟩;rotate_left;exact⟨rfl,.inr ⟨z,rfl,Hd hk⟩⟩;have HS:=Hd hS;clear hS;obtain⟨n,hn⟩:∃n,n=acc.length:=⟨_,rfl⟩;have y0:=(cell_one1 HS.out.lbx).1;rw[←hn] at y0;have HN:=Hd hn;clear hn)
 go_ret
 exact .inl ⟨z,o,c,by rw[HN.out];rfl,Hd HS.out.cd,Hd HS.out.rx,Hd HS.out.own⟩
theorem behind_states (b g cap:Nat) (dv:Value) (ts:List Tok) (xb:Nat→Prop) (f:Nat) (σ τ:RS) (s:List UInt8) (acc:List ByteArray) (hr:statesL ts f [str (nameV ts (wantS ts s σ))] (nameS ts (wantS ts s σ))=some (acc,τ)) (hst:Stays (wantS ts s σ) (wantS ts [125] τ)) (W:World) (h:Hid (Cd W b g cap dv ts xb σ)) (hc:σ.code=0) (hs:s ∈ sgL) :
  Calls prog 103 #[.pointer (some ⟨b,0,none⟩),.string (str s),.func (.func 104) #[.pointer (some ⟨b,0,none⟩)] #[]] W fun r Y=>SsRet b g cap dv ts xb W acc (wantS ts [125] τ) r Y:=by
 refine behind_strs b g cap dv ts xb σ s _ _ W h hc hs enters_states (fun hw r Y hh=>?_) fun hw W' h' hk=>?_
 ·obtain⟨h1,h2⟩:=hst hw
  exact .inr ⟨by rw[h1];exact hw,by rw[h1,h2];exact hh.1,hh.2⟩
 ·have hsz:=hk.out.size
  exact(states_any b g cap dv ts xb f _ τ hw acc hr W' h').mono fun r Y hh=>by
   rcases hh with ⟨z,o,c,h1,h2,h3,h4⟩ | ⟨z,h1,h2⟩
   ·exact .inl ⟨z,o,c,h1,h2,Hd (hk.out.trans h3.out),Hd (own_base h4.out hsz)⟩
   ·exact .inr ⟨z,h1,Hd (hk.out.trans h2.out)⟩
theorem stays_states {ts:List Tok}:∀(n:Nat) (acc:List ByteArray) (σ:RS) (R:List ByteArray×RS),statesL ts n acc σ=some R→Stays σ R.2:=fun n acc σ R h=>by
 obtain⟨m,hm⟩:=states_LR n acc σ R h
 exact hm.stays stOne_stays
end Go.Proofs.YtpfmlfcaadnnpaaGreatDoor
