import Derived.Test.YtlbhlncipajapaaGreatDoorPt11
set_option maxHeartbeats 16000000
set_option maxRecDepth 100000
set_option linter.unusedVariables false
open Go.Proofs.Tryz(prog)
namespace Go.Proofs.YtlbhlncipajapaaGreatDoor
open Lx
def FLe (F F':Job→RS→Ans):Prop:=∀j σ r,F j σ=some r→F' j σ=some r
theorem bind_le {α β:Type} {o o':Option α} {k k':α→Option β} {R:β} (h:o.bind k=some R) (ho:∀x,o=some x→o'=some x) (hk:∀x r,k x=some r→k' x=some r):o'.bind k'=some R:=by
 obtain⟨x,h1,h2⟩:=Option.bind_eq_some_iff.1 h
 rw[ho x h1]
 exact hk x R h2
theorem putA_le {x:Ex} {σ:RS} {K K':Int→RS→Ans} {r:Int×List Int×RS} (h:putA x σ K=some r) (hk:∀n y r,K n y=some r→K' n y=some r):putA x σ K'=some r:=by
 unfold putA at h ⊢
 split at h
 ·rename_i ho;rw[if_pos ho];exact hk _ _ _ h
 ·cases h
theorem atomG_le {ts:List Tok} {F F':Job→RS→Ans} (hF:FLe F F') {σ:RS} {r:Int×List Int×RS} (h:atomG ts F σ=some r):atomG ts F' σ=some r:=by
 unfold atomG at h ⊢
 dsimp only at h ⊢
 split at h
 ·rename_i h1;rw[if_pos h1];exact h
 rename_i h1;rw[if_neg h1]
 split at h
 ·rename_i h2;rw[if_pos h2];exact h
 rename_i h2;rw[if_neg h2]
 split at h
 ·rename_i h3;rw[if_pos h3];exact h
 rename_i h3;rw[if_neg h3]
 split at h
 ·rename_i h4;rw[if_pos h4]
  split at h
  ·rename_i h5;rw[if_pos h5];exact h
  rename_i h5;rw[if_neg h5]
  split at h
  ·rename_i h6;rw[if_pos h6]
   split at h
   ·rename_i h7;rw[if_pos h7];exact h
   rename_i h7;rw[if_neg h7]
   exact bind_le h (fun x hx=>hF _ _ _ hx) fun x r h=>bind_le h (fun x hx=>hF _ _ _ hx) fun _ _ h=>h
  ·rename_i h6;rw[if_neg h6];exact h
 ·rename_i h4;rw[if_neg h4]
  exact bind_le h (fun x hx=>hF _ _ _ hx) fun _ _ h=>h
theorem preG_le {ts:List Tok} {F F':Job→RS→Ans} (hF:FLe F F') {σ:RS} {r:Int×List Int×RS} (h:preG ts F σ=some r):preG ts F' σ=some r:=by
 unfold preG at h ⊢
 dsimp only at h ⊢
 split at h
 ·rename_i h1;rw[if_pos h1]
  split at h
  ·rename_i h2;rw[if_pos h2];exact bind_le h (fun x hx=>hF _ _ _ hx) fun _ _ h=>h
  ·rename_i h2;rw[if_neg h2];exact bind_le h (fun x hx=>hF _ _ _ hx) fun _ _ h=>h
 ·rename_i h1;rw[if_neg h1];exact h
theorem exprG_le {ts:List Tok} {F F':Job→RS→Ans} (hF:FLe F F') {σ:RS} {r:Int×List Int×RS} (h:exprG ts F σ=some r):exprG ts F' σ=some r:=by
 unfold exprG at h ⊢
 dsimp only at h ⊢
 split at h
 ·rename_i h1;rw[if_pos h1]
  split at h
  ·rename_i h2;rw[if_pos h2]
   exact bind_le h (fun x hx=>hF _ _ _ hx) fun _ _ h=>bind_le h (fun x hx=>hF _ _ _ hx) fun _ _ h=>bind_le h (fun x hx=>hF _ _ _ hx) fun _ _ h=>h
  ·rename_i h2;rw[if_neg h2]
   refine bind_le h (fun x hx=>hF _ _ _ hx) fun o r h=>?_
   split at h
   ·rename_i h3;rw[if_pos h3];exact bind_le h (fun x hx=>hF _ _ _ hx) fun _ _ h=>h
   ·rename_i h3;rw[if_neg h3]
    split at h
    ·rename_i h4;rw[if_pos h4];exact bind_le h (fun x hx=>hF _ _ _ hx) fun _ _ h=>h
    ·rename_i h4;rw[if_neg h4];exact h
 ·rename_i h1;rw[if_neg h1];exact h
theorem binG_le {F F':Job→RS→Ans} (hF:FLe F F') {least:Nat} {σ:RS} {r:Int×List Int×RS} (h:binG F least σ=some r):binG F' least σ=some r:=by
 unfold binG at h ⊢
 split at h
 ·rename_i h1;rw[if_pos h1];exact hF _ _ _ h
 ·rename_i h1;rw[if_neg h1];exact bind_le h (fun x hx=>hF _ _ _ hx) fun _ _ h=>hF _ _ _ h
theorem loopG_le {ts:List Tok} {F F':Job→RS→Ans} (hF:FLe F F') {least:Nat} {a:Int} {σ:RS} {r:Int×List Int×RS} (h:loopG ts F least a σ=some r):loopG ts F' least a σ=some r:=by
 unfold loopG at h ⊢
 split at h
 ·rename_i h1;rw[if_pos h1]
  split at h
  ·rename_i h2;rw[if_pos h2]
   refine bind_le h (fun x hx=>hF _ _ _ hx) fun b r h=>putA_le h fun n y r h=>?_
   split at h
   ·rename_i h3;rw[if_pos h3];exact h
   ·rename_i h3;rw[if_neg h3];exact hF _ _ _ h
  ·rename_i h2;rw[if_neg h2];exact h
 ·rename_i h1;rw[if_neg h1];exact h
theorem argsG_le {ts:List Tok} {F F':Job→RS→Ans} (hF:FLe F F') {acc:List Int} {σ:RS} {r:Int×List Int×RS} (h:argsG ts F acc σ=some r):argsG ts F' acc σ=some r:=by
 unfold argsG at h ⊢
 split at h
 ·rename_i h1;rw[if_pos h1]
  split at h
  ·rename_i h2;rw[if_pos h2];exact bind_le h (fun x hx=>hF _ _ _ hx) fun _ _ h=>hF _ _ _ h
  ·rename_i h2;rw[if_neg h2];exact h
 ·cases h
theorem runE_succ (ts:List Tok):∀f,FLe (runE ts f) (runE ts (f+1)):=by
 intro f
 induction f with
 | zero=>intro j σ r h;cases h
 | succ f ih =>
  intro j σ r h
  unfold runE at h ⊢
  split at h
  ·rename_i ho
   rw[if_pos ho]
   cases j with
   | expr=>exact exprG_le ih h
   | pre=>exact preG_le ih h
   | atom=>exact atomG_le ih h
   | bin least=>exact binG_le ih h
   | loop least a=>exact loopG_le ih h
   | args acc=>exact argsG_le ih h
  ·cases h
theorem runE_le {ts:List Tok} {f f':Nat} (h:f≤f'):FLe (runE ts f) (runE ts f'):=by
 induction h with
 | refl=>exact fun _ _ _ h=>h
 | step _ ih=>exact fun j σ r h=>runE_succ ts _ j σ r (ih j σ r h)
def TokOk (ts:List Tok):Prop:=∀(i:Nat) (t:Tok),ts[i]?=some t→(t.kind=1→t.text≠[])∧(t.kind=2→0≤t.v∧t.v≤9223372036854775807)∧t.text.length≤20000
def GoodX (x:Ex) (i:Nat):Prop:=mayE x i=true∧ExOk x
def AllGood (l:List Ex):Prop:=∀i x,l[i]?=some x→GoodX x i
structure Go (ts:List Tok) (k:Nat) (σ τ:RS):Prop where
 at_:σ.at_≤τ.at_
 lt:τ.at_<ts.length
 room:τ.exprs.length+σ.at_+k≤σ.exprs.length+τ.at_
 bad:σ.code≠0→τ.code≠0
 more:σ.exprs.length≤τ.exprs.length
 good:τ.code=0→AllGood σ.exprs→AllGood τ.exprs
theorem Go.refl {ts:List Tok} {σ:RS} (h:σ.at_<ts.length):Go ts 0 σ σ:=⟨qL _,h,by omega,id,qL _,fun _ h=>h⟩
theorem Go.trans {ts:List Tok} {k m:Nat} {σ τ υ:RS} (h:Go ts k σ τ) (g:Go ts m τ υ):Go ts (k+m) σ υ :=
 ⟨Nat.le_trans h.at_ g.at_,g.lt,by have:=h.room;have:=g.room;omega,fun h0=>g.bad (h.bad h0),Nat.le_trans h.more g.more,fun h0 ha=>g.good h0 (h.good (by
  by_cases hc:τ.code=0
  ·exact hc
  ·exact absurd h0 (g.bad hc)) ha)⟩
theorem Go.code {ts:List Tok} {k:Nat} {σ τ:RS} (h:Go ts k σ τ) (h0:τ.code=0):σ.code=0:=by
 by_cases hc:σ.code=0
 ·exact hc
 ·exact absurd h0 (h.bad hc)
theorem Go.less {ts:List Tok} {k m:Nat} {σ τ:RS} (h:Go ts k σ τ) (hm:m≤k):Go ts m σ τ:=⟨h.at_,h.lt,by have:=h.room;omega,h.bad,h.more,h.good⟩
theorem go_step' {ts:List Tok} (he:EndOk ts) {σ:RS} (h:σ.at_<ts.length) (hk:(tokL ts σ.at_).kind≠5):Go ts 1 σ (stepS σ):=⟨by unfold stepS;simp,he.next h hk,by unfold stepS;simp;omega,id,qL _,fun _ h=>h⟩
theorem go_fail {ts:List Tok} {σ:RS} (h:σ.at_<ts.length) (e:Int) (h0:e≠0):Go ts 0 σ (failS ts e σ):=by
 unfold failS
 split
 ·exact⟨qL _,h,by simp,fun _=>h0,qL _,fun h1=>absurd h1 h0⟩
 ·exact Go.refl h
theorem go_want {ts:List Tok} (he:EndOk ts) {σ:RS} (h:σ.at_<ts.length) (s:List UInt8):Go ts 0 σ (wantS ts s σ):=by
 unfold wantS
 split
 ·rename_i hi;exact(go_step' he h (isS_kind hi).1).less (Nat.zero_le _)
 ·exact go_fail h 2 (by decide)
theorem go_name {ts:List Tok} (he:EndOk ts) {σ:RS} (h:σ.at_<ts.length):Go ts 0 σ (nameS ts σ):=by
 unfold nameS
 split
 ·rename_i hi
  unfold nameB at hi
  simp only[Bool.and_eq_true,decide_eq_true_eq] at hi
  exact(go_step' he h (by omega)).less (Nat.zero_le _)
 ·exact go_fail h 2 (by decide)
theorem go_enter' {ts:List Tok} {σ:RS} (h:σ.at_<ts.length):Go ts 0 σ (enterS ts σ)∧(enterS ts σ).deep=σ.deep+1∧(enterS ts σ).at_=σ.at_∧(enterS ts σ).exprs=σ.exprs∧((enterS ts σ).code=0→σ.deep≠30):=by
 unfold enterS
 by_cases ht:tooDeep σ=true
 ·rw[if_pos ht]
  unfold tooDeep at ht
  simp only[Bool.and_eq_true,decide_eq_true_eq] at ht
  unfold failS
  rw[if_pos ht.1]
  exact⟨⟨qL _,h,by simp,fun _=>(by decide:(3:Int)≠0),qL _,fun h1=>by cases h1⟩,rfl,rfl,rfl,fun h1=>by cases h1⟩
 ·rw[if_neg ht]
  refine⟨⟨qL _,h,by simp,id,qL _,fun _ h=>h⟩,rfl,rfl,rfl,fun h1 h2=>ht ?_⟩
  unfold tooDeep
  simp only[Bool.and_eq_true,decide_eq_true_eq]
  exact⟨h1,h2⟩
theorem want_deep (ts:List Tok) (s:List UInt8) (σ:RS):(wantS ts s σ).deep=σ.deep:=by unfold wantS failS stepS;(repeat' split) <;> rfl
theorem name_deep (ts:List Tok) (σ:RS):(nameS ts σ).deep=σ.deep:=by unfold nameS failS stepS;(repeat' split) <;> rfl
theorem want_exprs (ts:List Tok) (s:List UInt8) (σ:RS):(wantS ts s σ).exprs=σ.exprs:=by unfold wantS failS stepS;(repeat' split) <;> rfl
theorem go_leave {ts:List Tok} {σ:RS} (h:σ.at_<ts.length):Go ts 0 σ (leaveS σ):=⟨qL _,h,by unfold leaveS;simp,id,qL _,fun _ h=>h⟩
theorem Go.put {ts:List Tok} {k:Nat} {σ τ:RS} (h:Go ts (k+1) σ τ) {x:Ex} (hx:τ.code=0→AllGood σ.exprs→GoodX x τ.exprs.length):Go ts k σ (putS x τ):=by
 refine⟨h.at_,h.lt,by have:=h.room;unfold putS;simp;omega,h.bad,by unfold putS;have:=h.more;simp;omega,fun h0 ha i y hy=>?_⟩
 unfold putS at hy
 dsimp only at hy
 rcases Nat.lt_or_ge i τ.exprs.length with hi | hi
 ·rw[List.getElem?_append_left hi] at hy
  exact h.good h0 ha i y hy
 ·rw[List.getElem?_append_right hi] at hy
  have:i=τ.exprs.length:=by
   by_cases he:i - τ.exprs.length=0
   ·omega
   ·rw[List.getElem?_eq_none (by simp;omega)] at hy;cases hy
  subst this
  simp at hy
  subst hy
  exact hx h0 ha
structure St (ts:List Tok) (σ:RS):Prop where
 lt:σ.at_<ts.length
 room:σ.exprs.length≤σ.at_
 d0:0≤σ.deep
 d30:σ.deep≤30
 len:ts.length≤30000
theorem St.ok {ts:List Tok} {σ:RS} (h:St ts σ):okS σ=true:=by
 unfold okS
 have:=h.room;have:=h.lt;have:=h.len;have:=h.d0;have:=h.d30
 simp only[Bool.and_eq_true,decide_eq_true_eq]
 omega
theorem St.go {ts:List Tok} {k:Nat} {σ τ:RS} (h:St ts σ) (g:Go ts k σ τ) (hd0:0≤τ.deep) (hd:τ.deep≤30):St ts τ:=⟨g.lt,by have:=g.room;have:=h.room;omega,hd0,hd,h.len⟩
def IxOk (τ:RS) (v:Int):Prop:=τ.code=0→0≤v∧v<(τ.exprs.length:Int)
theorem IxOk.go {ts:List Tok} {k:Nat} {σ τ:RS} {v:Int} (h:IxOk σ v) (g:Go ts k σ τ):IxOk τ v:=fun h0=>by
 have:=h (g.code h0)
 have:=g.more
 omega
theorem putA_ok {x:Ex} {σ:RS} {K:Int→RS→Ans} (h:okS σ=true):putA x σ K=K (σ.exprs.length:Int) (putS x σ):=by unfold putA;rw[if_pos h]
end Go.Proofs.YtlbhlncipajapaaGreatDoor
namespace Go.Proofs.YtlbhlncipajapaaGreatDoor
open Go.RowKit Lx
def ArgI (W:World) (b g cap:Nat) (dv:Value) (ts:List Tok) (xb:Nat→Prop) (A kd:Nat) (tx:List UInt8) (tv:Int) (p f:Nat) (R:Int×List Int×RS) (n:Nat) (x:Value×World):Prop :=
 ∃(acc:List Int) (τ:RS),n≤f∧runE ts n (.args acc) τ=some R∧ArgAll W x.2 b g cap dv ts xb A kd tx tv p τ acc x.1
theorem atom_args (b g cap:Nat) (dv:Value) (ts:List Tok) (xb:Nat→Prop) (σ:RS) (W:World) (h:Hid (Rd W b g cap dv ts xb σ)) (f:Nat) (IH:Hid (∀k,k≤f→∀yb,FC b g cap dv ts yb k)) (_:(tokL ts σ.at_).kind≠2) (ht:isS ts [116,114,117,101] σ=false) (hf:isS ts [102,97,108,115,101] σ=false) (h1:(tokL ts σ.at_).kind=1) (hi:isS ts [105,115] (stepS σ)=false) (hl':isS ts [40] (stepS σ)=true) (hr':isS ts [41] (stepS (stepS σ))=false)
  (va:Int) (la:List Int) (s1:RS) (r1:Hid (runE ts f .expr (stepS (stepS σ))=some (va,la,s1))) (R:Int×List Int×RS) (r2:Hid (runE ts f (.args [va]) s1=some R)) (ok:Hid (okS (wantS ts [41] R.2.2)=true)) :
  Calls prog 90 #[.pointer (some ⟨b,0,none⟩)] W fun r Y=>RdRet b g cap dv ts xb W (.int .i64 ((wantS ts [41] R.2.2).exprs.length:Int)) (putS { ex0 with kind:=19,name:=str (tokL ts σ.at_).text,args:=R.2.1,pos:=((tokL ts σ.at_).at_:Int) } (wantS ts [41] R.2.2)) r Y:=by
 obtain⟨o,c,⟨c0,c1,c3,c4,c5,c6,fr⟩,hx⟩:=h.out.cells
 have ht:=h.out.tok
 have hgb:g≠b:=by have:=h.out.lt;omega
 have hl:=h.out.at_
 have hn:=h.out.len
 obtain⟨t0,t1,t2,t3⟩:=ht
 obtain⟨n,hnn⟩:∃n,n=ts.length:=⟨_,rfl⟩
 obtain⟨a,haa⟩:∃a,a=σ.at_:=⟨_,rfl⟩
 obtain⟨cd,hcd⟩:∃cd,cd=σ.code:=⟨_,rfl⟩
 obtain⟨ps,hps⟩:∃ps,ps=σ.pos:=⟨_,rfl⟩
 obtain⟨dp,hdp⟩:∃dp,dp=σ.deep:=⟨_,rfl⟩
 obtain⟨kd,hkd⟩:∃kd,kd=(tokL ts σ.at_).kind:=⟨_,rfl⟩
 obtain⟨tx,htx⟩:∃tx,tx=(tokL ts σ.at_).text:=⟨_,rfl⟩
 obtain⟨tv,htv⟩:∃tv,tv=(tokL ts σ.at_).v:=⟨_,rfl⟩
 obtain⟨p,hp⟩:∃p,p=(tokL ts σ.at_).at_:=⟨_,rfl⟩
 rw[←hnn] at c0 hl hn
 rw[←hkd] at t0
 rw[←htx] at t1
 rw[←htv] at t2
 rw[←hp] at t3
 rw[←haa] at c1 t0 t1 t2 t3 hl
 rw[←hcd] at c5
 rw[←hdp] at c4
 rw[←hps] at c6
 have k0:((a:Nat):Int)<(n:Int):=by omega
 have f1:=fr 1
 have f4:=fr 4
 have f5:=fr 5
 have f6:=fr 6
 have HCD:=Hd hcd
 have HPS:=Hd hps
 have HDP:=Hd hdp
 have HKD:=Hd hkd
 have HTX:=Hd htx
 have HTV:=Hd htv
 have HP:=Hd hp
 have HAA:=Hd haa
 have HNN:=Hd hnn
 clear fr hx hnn haa hcd hps hdp hkd htx htv hp c3
 have hgs:g<W.heap.size:=by have:=h.out.lt;have:=h.out.size;omega
 have hbs:b<W.heap.size:=h.out.size
 have ha4:(a:Int)≤40000:=by omega
 obtain⟨A,hA⟩:∃A,A=W.heap.size:=⟨_,rfl⟩
 obtain⟨W1,hW1⟩:∃W1,W1=(W.alloc (.cells #[.int .i64 (kd:Int),.string (str tx),.int .i64 tv,.int .i64 (p:Int)] 43)).drew:=⟨_,rfl⟩
 have hb1:Below W.heap.size W W1:=by rw[hW1];exact((qB W.heap.size W).alloc (qL _) _).drew
 have HBX:Hid (Box4 W1 A kd tx tv p):=Hd (by rw[hW1,hA];exact heap_alloc_new W _)
 have HR1:Hid (Rd W1 b g cap dv ts xb σ):=Hd (h.out.below hb1)
 have HK1:Hid (RK b W W1):=Hd (RK.of_below hb1 (ql hbs))
 have hbA:b≠A:=by omega
 have q1:=(hb1.cell (p:=⟨b,1,none⟩) hbs).trans c1
 have qf:=(hb1.frozen (p:=⟨b,1,none⟩) hbs).trans f1
 obtain⟨x0,x1,x2,x3⟩:=HBX.out.cells
 have HAW:=Hd hA
 clear hb1
 have q2:((kd:Int) ==2)=false:=beq_false_of_ne (by rw[HKD.out,h1];decide)
 have q1':((kd:Int) ==1)=true:=by rw[HKD.out,h1];rfl
 have hk5:(tokL ts σ.at_).kind≠5:=by rw[h1];decide
 have TK:Hid (∀W,Hid (Rd W b g cap dv ts xb σ)→Hid (Box4 W A kd tx tv p)→Calls prog 36 #[.pointer (some ⟨b,0,none⟩),.string ⟨#[116,114,117,101]⟩] W fun r Y=>RdBox b g cap dv ts xb A kd tx tv p W (.bool false) σ a r Y):=Hd fun W h hx=>(took_false [116,114,117,101] ht W h).mono fun r Y hr=>hr.box (by first | exact HAA.out.symm | (rw[HAA.out];rfl)) hx hbA
 have FK:Hid (∀W,Hid (Rd W b g cap dv ts xb σ)→Hid (Box4 W A kd tx tv p)→Calls prog 36 #[.pointer (some ⟨b,0,none⟩),.string ⟨#[102,97,108,115,101]⟩] W fun r Y=>RdBox b g cap dv ts xb A kd tx tv p W (.bool false) σ a r Y):=Hd fun W h hx=>(took_false [102,97,108,115,101] hf W h).mono fun r Y hr=>hr.box (by first | exact HAA.out.symm | (rw[HAA.out];rfl)) hx hbA
 have IK:Hid (∀W,Hid (Rd W b g cap dv ts xb (stepS σ))→Hid (Box4 W A kd tx tv p)→Calls prog 36 #[.pointer (some ⟨b,0,none⟩),.string ⟨#[105,115]⟩] W fun r Y=>RdBox b g cap dv ts xb A kd tx tv p W (.bool false) (stepS σ) (a+1) r Y):=Hd fun W h hx=>(took_false [105,115] hi W h).mono fun r Y hr=>hr.box (by first | exact HAA.out.symm | (rw[HAA.out];rfl)) hx hbA
 have LK:Hid (∀W,Hid (Rd W b g cap dv ts xb (stepS σ))→Hid (Box4 W A kd tx tv p)→Calls prog 36 #[.pointer (some ⟨b,0,none⟩),.string ⟨#[40]⟩] W fun r Y=>RdBox b g cap dv ts xb A kd tx tv p W (.bool true) (stepS (stepS σ)) (a+1+1) r Y):=Hd fun W h hx=>(took_true [40] hl' W h).mono fun r Y hr=>hr.box (by first | exact HAA.out.symm | (rw[HAA.out];rfl)) hx hbA
 have RP:Hid (∀W,Hid (Rd W b g cap dv ts xb (stepS (stepS σ)))→Hid (Box4 W A kd tx tv p)→Calls prog 36 #[.pointer (some ⟨b,0,none⟩),.string ⟨#[41]⟩] W fun r Y=>RdBox b g cap dv ts xb A kd tx tv p W (.bool false) (stepS (stepS σ)) (a+1+1) r Y):=Hd fun W h hx=>(took_false [41] hr' W h).mono fun r Y hr=>hr.box (by first | exact HAA.out.symm | (rw[HAA.out];rfl)) hx hbA
 have E1:Hid (∀W,Hid (Rd W b g cap dv ts xb (stepS (stepS σ)))→Hid (Box4 W A kd tx tv p)→Calls prog 18 #[.pointer (some ⟨b,0,none⟩)] W fun r Y=>RdBox b g cap dv ts xb A kd tx tv p W (.int .i64 va) s1 s1.at_ r Y):=Hd fun W h hx=>((IH.out f (qL _) xb).expr _ _ _ _ r1.out W h).mono fun r Y hr=>hr.box rfl hx hbA
 obtain⟨m,hm⟩:=least_of (ArgI W b g cap dv ts xb A kd tx tv p f R)
 have HM:=Hd hm
 have hAb:b<A:=by omega
 have XLT:=Hd h.out.xlt
 clear ht hf h1 hi hl' hr' hm
 go_enter Tryz.func90,Tryz.ntmps90
 go_wp2_with fail
 go_region_held3 (fun w'=>w'.cell? ⟨b,0,none⟩=some (.slice (some ⟨g,0,none⟩) n cap)∧w'.cell? ⟨b,1,none⟩=some (.int .i64 (a:Int))∧w'.cell? ⟨g,a*4,none⟩=some (.int .i64 (kd:Int))∧w'.cell? ⟨g,a*4+1,none⟩=some (.string (str tx))∧w'.cell? ⟨g,a*4+2,none⟩=some (.int .i64 tv)∧w'.cell? ⟨g,a*4+3,none⟩=some (.int .i64 (p:Int)))
  ((repeat' apply And.intro) <;> first | assumption | go_keep)
  (fail)
 rw[←hW1,←hA]
 clear hW1 hA t0 t1 t2 t3 c0 c1 c4 c5 c6 f1 f4 f5 f6 k0 hgs
 go_wp2_with (first
  | (go_at_call 36;(with_reducible refine(TK.out W1 HR1 HBX).mono ?_);rintro e w2 ⟨rfl,y0,y1,y3,yb,yf,HR2,HK2,HX2⟩)
  | (go_at_call 36;(with_reducible refine(FK.out w2 HR2 HX2).mono ?_);rintro e w3 ⟨rfl,y0,y1,y3,yb,yf,HR3,HK3,HX3⟩)
  | (go_at_call 36;(with_reducible refine(IK.out _ (rd_step HR3 hk5 HAA) (box_step HX3 hbA _)).mono ?_);rintro e w4 ⟨rfl,y0,y1,y3,yb,yf,HR4,HK4,HX4⟩)
  | (go_at_call 36;(with_reducible refine(LK.out w4 HR4 HX4).mono ?_);rintro e w5 ⟨rfl,y0,y1,y3,yb,yf,HR5,HK5,HX5⟩)
  | (go_at_call 36;(with_reducible refine(RP.out w5 HR5 HX5).mono ?_);rintro e w6 ⟨rfl,y0,y1,y3,yb,yf,HR6,HK6,HX6⟩)
  | (go_at_call 18;(with_reducible refine(E1.out w6 HR6 HX6).mono ?_);rintro e w7 ⟨rfl,y0,y1,y3,yb,yf,HR7,HK7,HX7⟩)
  | (at_builtin;refine wpList_arg _ rfl _ _ rfl (A+1) (.slice none 0 0) 0 [] rfl (qO _ _ _ _) ⟨w7.heap.size,0,none⟩ [.int .i64 va] rfl rfl (one_cell w7 _ _) (by simp[Value.oneCell']) (by omega) (by have:=heap_lt HX7.out;simp;omega) ?_;intro g8 c8 w8 ho8 hg8 hl8 hlt8;have HO8:=Hd ho8;have HG8:=Hd hg8;have HL8:=Hd hl8;have HLT8:=Hd hlt8;clear ho8 hg8 hl8 hlt8))
 have HKW:=Hd (HK1.out.trans (HK2.out.trans (HK3.out.trans ((RK.set 1 _).trans (HK4.out.trans (HK5.out.trans (HK6.out.trans HK7.out)))))))
 have HALL:Hid (ArgAll W w8 b g cap dv ts xb A kd tx tv p s1 [va] (.slice (some ⟨g8,0,none⟩) 1 c8)):=Hd (by
  have h0:ArgAll W w7 b g cap dv ts xb A kd tx tv p s1 [] (.slice none 0 0):=⟨⟨qO _ _ _ _,HR7.out.less fun k hk=>by rcases hk with hk | hk;exact hk;cases hk⟩,HX7.out,HKW.out⟩
  exact h0.push hAb HAW.out HG8.out HO8.out HL8.out HLT8.out)
 clear y0 y1 y3 yb yf q1 qf x0 x1 x2 x3
 go_loopw [4] (fun v wr=>∃o nn c,v=.slice o nn c∧Hid (∃n,ArgI W b g cap dv ts xb A kd tx tv p f R n (v,wr))) (fun v wr=>m (v,wr))
 case atStart=>exact⟨_,_,_,rfl,Hd ⟨f,[va],s1,qL _,r2.out,HALL.out⟩⟩
 case round =>
  obtain⟨ov,nv,cv,rfl,hI⟩:=hrel
  obtain⟨hm1,hm2⟩:=HM.out _ hI.out
  obtain⟨acc,τ,hnf,hrun,hall⟩:=hm1
  obtain⟨nn,hmn⟩:∃nn,nn=m (.slice ov nv cv,wr):=⟨_,rfl⟩
  rw[←hmn] at hnf hrun
  obtain⟨k,rfl,hacc,hcase⟩:=args_cases hrun
  have HALLr:=Hd hall
  have HMN:=Hd hmn
  have HACC:=Hd hacc
  have HNV:Hid (nv=acc.length):=Hd (by obtain⟨o',c',e⟩:=own_form hall.st.own;injection e)
  have HRr:=Hd hall.st.rd
  clear hrun hmn hm2 hI hall hacc
  rcases hcase with ⟨hc,v3,l3,y,r3,r4⟩ | ⟨hc,hR⟩
  ·have TC:=Hd (took_true (b:=b) (g:=g) (cap:=cap) (dv:=dv) (ts:=ts) (xb:=fun k=>xb k∨(Value.slice ov nv cv).ownBlock=some k) (σ:=τ) [44] hc wr HRr)
   have TC':Hid (Calls prog 36 #[.pointer (some ⟨b,0,none⟩),.string ⟨#[44]⟩] wr fun r Y=>RdRet b g cap dv ts (fun k=>xb k∨(Value.slice ov nv cv).ownBlock=some k) wr (.bool true) (stepS τ) r Y):=TC
   have E3:=Hd ((IH.out k (by omega) (fun k=>xb k∨(Value.slice ov nv cv).ownBlock=some k)).expr _ _ _ _ r3)
   have HR4':=Hd r4
   clear TC hc r3 r4
   go_wp2_with (first
    | (go_at_call 36;(with_reducible refine TC'.out.mono ?_);rintro e w9 ⟨rfl,hr,hk⟩;have HR9:=Hd hr;have HK9:=Hd hk;clear hr hk)
    | (go_at_call 18;(with_reducible refine(E3.out w9 HR9).mono ?_);rintro e wa ⟨rfl,hr,hk⟩;have HRa:=Hd hr;have HKa:=Hd hk;clear hr hk;have HALLa:=Hd (HALLr.out.call hAb HRa.out (HK9.out.trans HKa.out)))
    | (at_builtin;refine wpList_arg _ rfl _ _ rfl (A+1) (.slice ov nv cv) nv (acc.map intC) rfl (by have:=HALLa.out.st.own;rw[←HNV.out] at this;exact this.alloc _) ⟨wa.heap.size,0,none⟩ [.int .i64 v3] rfl rfl (one_cell wa _ _) (by simp[Value.oneCell']) (by have:=HACC.out;have:=HNV.out;omega) (by have:=heap_lt HALLa.out.box;simp;omega) ?_;intro gb cb wb hob hgb' hlb hltb;have HOb:=Hd hob;have HGb:=Hd hgb';have HLb:=Hd hlb;have HLTb:=Hd hltb;clear hob hgb' hlb hltb))
   have HI:ArgI W b g cap dv ts xb A kd tx tv p f R k (.slice (some ⟨gb,0,none⟩) (nv+1) cb,wb):=⟨acc++[v3],y,by omega,HR4'.out,by
    have h6:=HOb.out
    have h7:=HNV.out
    subst h7
    exact HALLa.out.push hAb HAW.out HGb.out h6 HLb.out HLTb.out⟩
   exact⟨⟨_,_,_,rfl,Hd ⟨k,HI⟩⟩,by have h5:=(HM.out _ ⟨k,HI⟩).2 k HI;have h6:=HMN.out;omega⟩
  ·have HRE:=Hd hR
   have TC:Hid (Calls prog 36 #[.pointer (some ⟨b,0,none⟩),.string ⟨#[44]⟩] wr fun r Y=>RdRet b g cap dv ts (fun k=>xb k∨(Value.slice ov nv cv).ownBlock=some k) wr (.bool false) τ r Y):=Hd (took_false (b:=b) (g:=g) (cap:=cap) (dv:=dv) (ts:=ts) (xb:=fun k=>xb k∨(Value.slice ov nv cv).ownBlock=some k) (σ:=τ) [44] hc wr HRr)
   have WP:Hid (∀W,Hid (Rd W b g cap dv ts (fun k=>xb k∨(Value.slice ov nv cv).ownBlock=some k) τ)→Calls prog 37 #[.pointer (some ⟨b,0,none⟩),.string ⟨#[41]⟩] W fun r Y=>RdRet b g cap dv ts (fun k=>xb k∨(Value.slice ov nv cv).ownBlock=some k) W (.tuple #[]) (wantS ts [41] τ) r Y):=Hd fun W h=>want_any b g cap dv ts _ τ [41] W h
   have PU:Hid (∀Y,Hid (ArgAll W Y b g cap dv ts xb A kd tx tv p (wantS ts [41] τ) acc (.slice ov nv cv))→Calls prog 38 #[.pointer (some ⟨b,0,none⟩),.agg #[.int .i64 19,.int .i64 0,.int .i64 0,.int .i64 0,.string (str tx),.string ⟨#[]⟩,.int .i64 0,.slice ov nv cv,.int .i64 (p:Int)]] Y fun r Z=>RdRet b g cap dv ts xb Y (.int .i64 ((wantS ts [41] τ).exprs.length:Int)) (putS { ex0 with kind:=19,name:=str tx,args:=acc,pos:=(p:Int) } (wantS ts [41] τ)) r Z):=Hd fun Y hY =>
    put_any b g cap dv ts xb (wantS ts [41] τ) { ex0 with kind:=19,name:=str tx,args:=acc,pos:=(p:Int) } ov nv cv Y (Hd (hY.out.st.rd.less fun k hk=>.inl hk)) (okS_iff.1 (by have h5:=ok.out;rw[HRE.out] at h5;exact h5)).1 (Hd (own_base hY.out.st.own (by omega))) (Hd fun k hk hx=>by
     have h6:=(hY.out.st.own.lt k hk).1
     have h7:=XLT.out k hx
     have h8:=HAW.out
     omega)
   clear hc hR
   go_wp2_with (first
    | (go_at_call 36;(with_reducible refine TC.out.mono ?_);rintro e w9 ⟨rfl,hr,hk⟩;have HR9:=Hd hr;have HK9:=Hd hk;clear hr hk)
    | (go_at_call 37;(with_reducible refine(WP.out w9 HR9).mono ?_);rintro e wa ⟨rfl,hr,hk⟩;have HRa:=Hd hr;have HKa:=Hd hk;clear hr hk;have HALLa:=Hd (HALLr.out.call hAb HRa.out (HK9.out.trans HKa.out));obtain⟨z0,z1,_,z3⟩:=HALLa.out.box.cells)
    | (go_at_call 38;(with_reducible refine(PU.out wa HALLa).mono ?_);rintro e wb ⟨rfl,hr,hk⟩;have HRb:=Hd hr;have HKb:=Hd hk;clear hr hk))
   go_ret
   rw[←HP.out,←HTX.out,HRE.out]
   exact⟨rfl,HRb.out,HALLa.out.rk.trans HKb.out⟩
def preA:Array Value:=(prefixL.map fun p=>Value.string (str p.1)).toArray
def preB:Array Value:=(prefixL.map fun p=>Value.int .i64 p.2).toArray
theorem cell_at {W:World} {k:Nat} {cs:Array Value} {T:TypeId} {fr:Nat×Nat} (h:W.heap[k]?=some (.cells cs T fr)) {j:Nat} {v:Value} (hv:cs[j]?=some v):W.cell? ⟨k,j,none⟩=some v:=by simp[World.cell?,h,hv]
theorem pre_at {α:Type} {l:List α} {f:α→Value} {j:Nat} {x:α} (h:l[j]?=some x):((l.map f).toArray)[j]?=some (f x):=by rw[List.getElem?_toArray,List.getElem?_map,h];rfl
theorem NoEx.str {cs:Array Value}:NoEx (.cells cs 9 (0,0)):=fun cs' h=>by cases h
structure PreL (W:World) (A:Nat):Prop where
 one:W.heap[A]?=some (.cells preA 9 (0,0))
 two:W.heap[A+1]?=some (.cells preB 3 (0,0))
theorem PreL.keep {b A:Nat} {W Y:World} (h:PreL W A) (hk:RK b W Y) (hb:b<A):PreL Y A:=⟨hk.keep A _ h.one (by omega) .str,hk.keep (A+1) _ h.two (by omega) .int⟩
theorem PreL.new (w:World):PreL ((w.alloc (.cells preA 9)).alloc (.cells preB 3)) w.heap.size:=by
 refine⟨?_,?_⟩
 ·rw[heap_alloc_old _ _ (by simp)];exact heap_alloc_new w _
 ·have:=heap_alloc_new (w.alloc (.cells preA 9)) (.cells preB 3);rwa [World.size_alloc] at this
theorem prefix_pos {p:List UInt8×Int} (h:p ∈ prefixL):p.2≠0∧0≤p.2∧p.2≤21:=by
 have:∀p ∈ prefixL,p.2≠0∧0≤p.2∧p.2≤21:=by decide
 exact this p h
theorem pre_bad (b g cap:Nat) (dv:Value) (ts:List Tok) (xb:Nat→Prop) (σ:RS) (hok:okS σ=true) (hc:Hid ((enterS ts σ).code≠0)) (W:World) (h:Hid (Rd W b g cap dv ts xb σ)) :
  Calls prog 71 #[.pointer (some ⟨b,0,none⟩)] W fun r Y=>RdRet b g cap dv ts xb W (.int .i64 0) (leaveS (enterS ts σ)) r Y:=by
 obtain⟨_,d0,d1⟩:=okS_iff.1 hok
 have hd:=enter_deep ts σ
 obtain⟨d,hdd⟩:∃d,d=(enterS ts σ).deep:=⟨_,rfl⟩
 have dd0:0≤d:=by omega
 have dd1:d≤31:=by omega
 have EN:Hid (Calls prog 35 #[.pointer (some ⟨b,0,none⟩)] W fun r Y=>RdDeep b g cap dv ts xb W (.bool false) (enterS ts σ) d r Y):=Hd ((enter_any b g cap dv ts xb σ W h d0 d1).mono fun r Y hr=>by
  rw[qF hc.out] at hr
  exact hr.deep hdd.symm)
 have HD:=Hd hdd
 clear hd hdd hok d0 d1
 go_enter Tryz.func71,Tryz.ntmps71
 go_wp2_with (go_at_call 35;(with_reducible refine EN.out.mono ?_);rintro e w1 ⟨rfl,z4,z5,HR,HK⟩)
 go_ret
 rw[HD.out]
 exact⟨rfl,HR.out.setDeep _,HK.out.trans (RK.set 4 _)⟩
theorem pre_atom (b g cap:Nat) (dv:Value) (ts:List Tok) (xb:Nat→Prop) (f:Nat) (IH:Hid (FC b g cap dv ts xb f)) (σ x:RS) (hx:Hid (x=enterS ts σ)) (hok:okS σ=true) (hc:Hid (x.code=0)) (hK:Hid (prefixK ts x prefixL=0)) (v:Int) (l:List Int) (y:RS)
  (r1:Hid (runE ts f .atom x=some (v,l,y))) (oky:okS y=true) (W:World) (h:Hid (Rd W b g cap dv ts xb σ)) :
  Calls prog 71 #[.pointer (some ⟨b,0,none⟩)] W fun r Y=>RdRet b g cap dv ts xb W (.int .i64 v) (leaveS y) r Y:=by
 obtain⟨_,d0,d1⟩:=okS_iff.1 hok
 obtain⟨k4,e0,e1⟩:=okS_iff.1 oky
 have EN:Hid (Calls prog 35 #[.pointer (some ⟨b,0,none⟩)] W fun r Y=>RdRet b g cap dv ts xb W (.bool true) x r Y):=Hd ((enter_any b g cap dv ts xb σ W h d0 d1).mono fun r Y hr=>by
  rwa [←hx.out,qT hc.out] at hr)
 have TF:=Hd (fun s hs W h=>took_false (b:=b) (g:=g) (cap:=cap) (dv:=dv) (ts:=ts) (xb:=xb) (σ:=x) s hs W h)
 obtain⟨d,hdd⟩:∃d,d=y.deep:=⟨_,rfl⟩
 rw[←hdd] at e0 e1
 have AT:Hid (∀W,Hid (Rd W b g cap dv ts xb x)→Calls prog 90 #[.pointer (some ⟨b,0,none⟩)] W fun r Y=>RdDeep b g cap dv ts xb W (.int .i64 v) y d r Y):=Hd fun W h=>(IH.out.atom _ _ _ _ hc.out r1.out W h).mono fun r Y hr=>hr.deep hdd.symm
 have HNO:Hid (∀p ∈ prefixL,isS ts p.1 x=false):=Hd (by
  intro p hp
  have hk:=hK.out
  unfold prefixK at hk
  cases hf:prefixL.find? fun p=>isS ts p.1 x with
  | none=>simpa using List.find?_eq_none.1 hf p hp
  | some q=>rw[hf] at hk;exact absurd hk (prefix_pos (List.mem_of_find?_eq_some hf)).1)
 have HD:=Hd hdd
 clear hdd hok oky d0 d1 k4
 go_enter Tryz.func71,Tryz.ntmps71
 go_wp2_with (go_at_call 35;(with_reducible refine EN.out.mono ?_);rintro e w1 ⟨rfl,hr,hk⟩;have HR:=Hd hr;have HK:=Hd hk;clear hr hk)
 obtain⟨o,c,⟨c0,c1,c3,c4,c5,c6,fr⟩,hx⟩:=HR.out.cells
 have ht:=HR.out.tok
 have hgb:g≠b:=by have:=HR.out.lt;omega
 have hl:=HR.out.at_
 have hn:=HR.out.len
 obtain⟨t0,t1,t2,t3⟩:=ht
 obtain⟨n,hnn⟩:∃n,n=ts.length:=⟨_,rfl⟩
 obtain⟨a,haa⟩:∃a,a=x.at_:=⟨_,rfl⟩
 obtain⟨cd,hcd⟩:∃cd,cd=x.code:=⟨_,rfl⟩
 obtain⟨ps,hps⟩:∃ps,ps=x.pos:=⟨_,rfl⟩
 obtain⟨dp,hdp⟩:∃dp,dp=x.deep:=⟨_,rfl⟩
 obtain⟨kd,hkd⟩:∃kd,kd=(tokL ts x.at_).kind:=⟨_,rfl⟩
 obtain⟨tx,htx⟩:∃tx,tx=(tokL ts x.at_).text:=⟨_,rfl⟩
 obtain⟨tv,htv⟩:∃tv,tv=(tokL ts x.at_).v:=⟨_,rfl⟩
 obtain⟨p,hp⟩:∃p,p=(tokL ts x.at_).at_:=⟨_,rfl⟩
 rw[←hnn] at c0 hl hn
 rw[←hkd] at t0
 rw[←htx] at t1
 rw[←htv] at t2
 rw[←hp] at t3
 rw[←haa] at c1 t0 t1 t2 t3 hl
 rw[←hcd] at c5
 rw[←hdp] at c4
 rw[←hps] at c6
 have k0:((a:Nat):Int)<(n:Int):=by omega
 have f1:=fr 1
 have f4:=fr 4
 have f5:=fr 5
 have f6:=fr 6
 have HCD:=Hd hcd
 have HPS:=Hd hps
 have HDP:=Hd hdp
 have HKD:=Hd hkd
 have HTX:=Hd htx
 have HTV:=Hd htv
 have HP:=Hd hp
 have HAA:=Hd haa
 have HNN:=Hd hnn
 clear fr hx hnn haa hcd hps hdp hkd htx htv hp c3
 go_quiet (fail)
 have HX:Hid (Rd (w1.drewN nq) b g cap dv ts xb x):=Hd (HR.out.below (below_dr (qB _ _) _))
 have HXK:Hid (RK b W (w1.drewN nq)):=Hd (HK.out.trans (RK.of_below (below_dr (qB _ _) _) (ql HR.out.size)))
 have hbA:b<w1.heap.size:=HR.out.size
 clear HCD HPS HDP HKD HTX HTV HAA HNN
 clear t0 t1 t2 t3 c0 c1 c4 c5 c6 f1 f4 f5 f6 k0 hl hn hgb
 go_wp2_with fail
 change Code.wp _ _ _ _ (((w1.drewN nq).alloc (.cells preA 9)).alloc (.cells preB 3))
 obtain⟨V,hV⟩:∃V,V=((w1.drewN nq).alloc (.cells preA 9)).alloc (.cells preB 3):=⟨_,rfl⟩
 have HPL:Hid (PreL V w1.heap.size):=Hd (by rw[hV];exact PreL.new (w1.drewN nq))
 have HVX:Hid (Rd V b g cap dv ts xb x):=Hd (by rw[hV];exact(HX.out.alloc _).alloc _)
 have HVK:Hid (RK b W V):=Hd (by rw[hV];exact HXK.out.trans (RK.of_below (((qB _ _).alloc (qL _) _).alloc (by simp) _) (ql HX.out.size)))
 rw[←hV]
 clear hV
 go_loopw [7,8] (fun kv i wr=>∃j:Nat,j≤4∧kv=.int .i64 0∧i=.int .i64 (j:Int)∧Hid (Rd wr b g cap dv ts xb x∧RK b V wr)) (fun _ i _=>4-litLen i)
 case atStart=>exact⟨0,by omega,rfl,rfl,Hd ⟨HVX.out,RK.refl _ _⟩⟩
 case round =>
  obtain⟨j,hj,rfl,rfl,hI⟩:=hrel
  rcases Nat.lt_or_ge j 4 with hlt | hge
  ·have q3:decide ((j:Int)<4)=true:=qT (by omega)
   have jr:(j:Int)<4:=by omega
   obtain⟨q,hq⟩:∃q,prefixL[j]?=some q:=⟨prefixL[j]'(by show j<4;exact hlt),List.getElem?_eq_getElem _⟩
   have hPL:=HPL.out.keep hI.out.2 hbA
   have x1:=cell_at hPL.one (pre_at (f:=fun p:List UInt8×Int=>Value.string (str p.1)) hq)
   have C:=Hd (TF.out q.1 (HNO.out q (List.mem_of_getElem? hq)) wr (Hd hI.out.1))
   clear hPL hq
   go_wp2_with (go_at_call 36;(with_reducible refine C.out.mono ?_);rintro e w2 ⟨rfl,hr,hk⟩;have HR2:=Hd hr;have HK2:=Hd hk;clear hr hk)
   exact⟨⟨j+1,by omega,rfl,rfl,Hd ⟨HR2.out,hI.out.2.trans HK2.out⟩⟩,by simp[litLen];omega⟩
  ·have q3:decide ((j:Int)<4)=false:=qF (by omega)
   have C:=Hd (AT.out wr (Hd hI.out.1))
   go_wp2_with (go_at_call 90;(with_reducible refine C.out.mono ?_);rintro e w2 ⟨rfl,z4,z5,HR2,HK2⟩)
   go_ret
   rw[HD.out]
   exact⟨rfl,HR2.out.setDeep _,HVK.out.trans (hI.out.2.trans (HK2.out.trans (RK.set 4 _)))⟩
theorem prefix_index {ts:List Tok} {x:RS}:∀(l:List (List UInt8×Int)),prefixK ts x l≠0→∃(j:Nat) (s:List UInt8),l[j]?=some (s,prefixK ts x l)∧isS ts s x=true∧∀(i:Nat) (q:List UInt8×Int),i<j→l[i]?=some q→isS ts q.1 x=false
 | [],h=>absurd rfl h
 | p :: l,h=>by
  cases hp:isS ts p.1 x with
  | true =>
   have e:prefixK ts x (p :: l)=p.2:=by unfold prefixK;rw[List.find?_cons,hp]
   exact⟨0,p.1,by rw[e];simp,hp,fun i q hi _=>by omega⟩
  | false =>
   have e:prefixK ts x (p :: l)=prefixK ts x l:=by unfold prefixK;rw[List.find?_cons,hp]
   rw[e] at h ⊢
   obtain⟨j,s,h1,h2,h3⟩:=prefix_index l h
   refine⟨j+1,s,by simpa using h1,h2,fun i q hi hq=>?_⟩
   cases i with
   | zero=>
    obtain rfl:p=q:=by simpa using hq
    exact hp
   | succ i=>exact h3 i q (by omega) (by simpa using hq)
theorem pre_some (b g cap:Nat) (dv:Value) (ts:List Tok) (xb:Nat→Prop) (f:Nat) (IH:Hid (FC b g cap dv ts xb f)) (σ x:RS) (hx:Hid (x=enterS ts σ)) (hok:okS σ=true) (hc:Hid (x.code=0)) (K:Int) (hK0:K≠0) (k0':0≤K) (k21:K≤21) (j0:Nat) (s0:List UInt8) (hj0:j0<4) (hs0:Hid (prefixL[j0]?=some (s0,K))) (hit:Hid (isS ts s0 x=true)) (hno:Hid (∀i q,i<j0→prefixL[i]?=some q→isS ts q.1 x=false))
  (v:Int) (l:List Int) (y:RS) (r1:Hid (runE ts f .pre (stepS x)=some (v,l,y))) (oky:okS y=true) (W:World) (h:Hid (Rd W b g cap dv ts xb σ)) :
  Calls prog 71 #[.pointer (some ⟨b,0,none⟩)] W fun r Y=>RdRet b g cap dv ts xb W (.int .i64 (y.exprs.length:Int)) (leaveS (putS { ex0 with kind:=K,a:=v,pos:=((tokL ts x.at_).at_:Int) } y)) r Y:=by
 obtain⟨_,d0,d1⟩:=okS_iff.1 hok
 obtain⟨k4,e0,e1⟩:=okS_iff.1 oky
 have EN:Hid (Calls prog 35 #[.pointer (some ⟨b,0,none⟩)] W fun r Y=>RdRet b g cap dv ts xb W (.bool true) x r Y):=Hd ((enter_any b g cap dv ts xb σ W h d0 d1).mono fun r Y hr=>by
  rwa [←hx.out,qT hc.out] at hr)
 have TF:=Hd (fun s hs W h=>took_false (b:=b) (g:=g) (cap:=cap) (dv:=dv) (ts:=ts) (xb:=xb) (σ:=x) s hs W h)
 obtain⟨d,hdd⟩:∃d,d=y.deep:=⟨_,rfl⟩
 rw[←hdd] at e0 e1
 have TT:=Hd (fun W h=>took_true (b:=b) (g:=g) (cap:=cap) (dv:=dv) (ts:=ts) (xb:=xb) (σ:=x) s0 hit.out W h)
 have PR:=Hd (IH.out.pre _ _ _ _ r1.out)
 have PU:Hid (∀(p:Nat) W,Hid (Rd W b g cap dv ts xb y)→Calls prog 38 #[.pointer (some ⟨b,0,none⟩),.agg #[.int .i64 K,.int .i64 v,.int .i64 0,.int .i64 0,.string ⟨#[]⟩,.string ⟨#[]⟩,.int .i64 0,.slice none 0 0,.int .i64 (p:Int)]] W fun r Y=>RdDeep b g cap dv ts xb W (.int .i64 (y.exprs.length:Int)) (putS { ex0 with kind:=K,a:=v,pos:=(p:Int) } y) d r Y) :=
  Hd fun p W h=>(put_any b g cap dv ts xb y { ex0 with kind:=K,a:=v,pos:=(p:Int) } none 0 0 W h k4 (Hd (qO _ _ _ _)) (Hd fun k hk=>by cases hk)).mono fun r Y hr=>hr.deep hdd.symm
 have HD:=Hd hdd
 have qK:(K ==0)=false:=beq_false_of_ne hK0
 clear hdd hok oky d0 d1 k4 hK0
 go_enter Tryz.func71,Tryz.ntmps71
 go_wp2_with (go_at_call 35;(with_reducible refine EN.out.mono ?_);rintro e w1 ⟨rfl,hr,hk⟩;have HR:=Hd hr;have HK:=Hd hk;clear hr hk)
 obtain⟨o,c,⟨c0,c1,c3,c4,c5,c6,fr⟩,hx⟩:=HR.out.cells
 have ht:=HR.out.tok
 have hgb:g≠b:=by have:=HR.out.lt;omega
 have hl:=HR.out.at_
 have hn:=HR.out.len
 obtain⟨t0,t1,t2,t3⟩:=ht
 obtain⟨n,hnn⟩:∃n,n=ts.length:=⟨_,rfl⟩
 obtain⟨a,haa⟩:∃a,a=x.at_:=⟨_,rfl⟩
 obtain⟨cd,hcd⟩:∃cd,cd=x.code:=⟨_,rfl⟩
 obtain⟨ps,hps⟩:∃ps,ps=x.pos:=⟨_,rfl⟩
 obtain⟨dp,hdp⟩:∃dp,dp=x.deep:=⟨_,rfl⟩
 obtain⟨kd,hkd⟩:∃kd,kd=(tokL ts x.at_).kind:=⟨_,rfl⟩
 obtain⟨tx,htx⟩:∃tx,tx=(tokL ts x.at_).text:=⟨_,rfl⟩
 obtain⟨tv,htv⟩:∃tv,tv=(tokL ts x.at_).v:=⟨_,rfl⟩
 obtain⟨p,hp⟩:∃p,p=(tokL ts x.at_).at_:=⟨_,rfl⟩
 rw[←hnn] at c0 hl hn
 rw[←hkd] at t0
 rw[←htx] at t1
 rw[←htv] at t2
 rw[←hp] at t3
 rw[←haa] at c1 t0 t1 t2 t3 hl
 rw[←hcd] at c5
 rw[←hdp] at c4
 rw[←hps] at c6
 have k0:((a:Nat):Int)<(n:Int):=by omega
 have f1:=fr 1
 have f4:=fr 4
 have f5:=fr 5
 have f6:=fr 6
 have HCD:=Hd hcd
 have HPS:=Hd hps
 have HDP:=Hd hdp
 have HKD:=Hd hkd
 have HTX:=Hd htx
 have HTV:=Hd htv
 have HP:=Hd hp
 have HAA:=Hd haa
 have HNN:=Hd hnn
 clear fr hx hnn haa hcd hps hdp hkd htx htv hp c3
 go_quiet (fail)
 have HX:Hid (Rd (w1.drewN nq) b g cap dv ts xb x):=Hd (HR.out.below (below_dr (qB _ _) _))
 have HXK:Hid (RK b W (w1.drewN nq)):=Hd (HK.out.trans (RK.of_below (below_dr (qB _ _) _) (ql HR.out.size)))
 have hbA:b<w1.heap.size:=HR.out.size
 clear HCD HPS HDP HKD HTX HTV HAA HNN
 clear t0 t1 t2 t3 c0 c1 c4 c5 c6 f1 f4 f5 f6 k0 hl hn hgb
 go_wp2_with fail
 change Code.wp _ _ _ _ (((w1.drewN nq).alloc (.cells preA 9)).alloc (.cells preB 3))
 obtain⟨V,hV⟩:∃V,V=((w1.drewN nq).alloc (.cells preA 9)).alloc (.cells preB 3):=⟨_,rfl⟩
 have HPL:Hid (PreL V w1.heap.size):=Hd (by rw[hV];exact PreL.new (w1.drewN nq))
 have HVX:Hid (Rd V b g cap dv ts xb x):=Hd (by rw[hV];exact(HX.out.alloc _).alloc _)
 have HVK:Hid (RK b W V):=Hd (by rw[hV];exact HXK.out.trans (RK.of_below (((qB _ _).alloc (qL _) _).alloc (by simp) _) (ql HX.out.size)))
 rw[←hV]
 clear hV
 go_loopw [7,8] (fun kv i wr=>∃(j:Nat) (k:Int),j≤4∧kv=.int .i64 k∧i=.int .i64 (j:Int)∧Hid (RK b V wr)∧((j≤j0∧k=0∧Hid (Rd wr b g cap dv ts xb x))∨(j=j0+1∧k=K∧Hid (Rd wr b g cap dv ts xb (stepS x))))) (fun _ i _=>4-litLen i)
 case atStart=>exact⟨0,0,by omega,rfl,rfl,Hd (RK.refl _ _),.inl ⟨by omega,rfl,HVX⟩⟩
 case round =>
  obtain⟨j,k,hj,rfl,rfl,hRK,hcase⟩:=hrel
  rcases hcase with ⟨hjj,rfl,hR⟩ | ⟨hjj,rfl,hR⟩
  ·have q3:decide ((j:Int)<4)=true:=qT (by omega)
   have jr:(j:Int)<4:=by omega
   obtain⟨q,hq⟩:∃q,prefixL[j]?=some q:=⟨prefixL[j]'(by show j<4;omega),List.getElem?_eq_getElem _⟩
   have hPL:=HPL.out.keep hRK.out hbA
   have x1:=cell_at hPL.one (pre_at (f:=fun p:List UInt8×Int=>Value.string (str p.1)) hq)
   have HQ:=Hd hq
   have HPLr:=Hd hPL
   clear hPL hq
   rcases Nat.lt_or_ge j j0 with hlt | hge
   ·have C:=Hd (TF.out q.1 (hno.out j q hlt HQ.out) wr hR)
    go_wp2_with (go_at_call 36;(with_reducible refine C.out.mono ?_);rintro e w2 ⟨rfl,hr,hk⟩;have HR2:=Hd hr;have HK2:=Hd hk;clear hr hk)
    exact⟨⟨j+1,0,by omega,rfl,rfl,Hd (hRK.out.trans HK2.out),.inl ⟨by omega,rfl,HR2⟩⟩,by simp[litLen];omega⟩
   ·have HJ:Hid (j0=j):=Hd (by omega)
    have HQQ:Hid (q=(s0,K)):=Hd (by have h1:=HQ.out;have h2:=hs0.out;rw[HJ.out] at h2;rw[h1] at h2;exact qI h2)
    rw[HQQ.out] at x1
    dsimp only at x1
    have C:Hid (Calls prog 36 #[.pointer (some ⟨b,0,none⟩),.string (str s0)] wr fun r Y=>r=.returned (.bool true)∧Y.cell? ⟨w1.heap.size+1,j,none⟩=some (.int .i64 K)∧Hid (Rd Y b g cap dv ts xb (stepS x))∧Hid (RK b wr Y)):=Hd ((TT.out wr hR).mono fun r Y ⟨e1,e2,e3⟩=>⟨e1,by
      have hp2:=HPLr.out.keep e3 hbA
      have hq2:=HQ.out
      rw[HQQ.out] at hq2
      exact cell_at hp2.two (pre_at (f:=fun p:List UInt8×Int=>Value.int .i64 p.2) hq2),Hd e2,Hd e3⟩)
    go_wp2_with (go_at_call 36;(with_reducible refine C.out.mono ?_);rintro e w2 ⟨rfl,y2,HR2,HK2⟩)
    exact⟨⟨j+1,K,by omega,rfl,rfl,Hd (hRK.out.trans HK2.out),.inr ⟨by have:=HJ.out;omega,rfl,HR2⟩⟩,by simp[litLen];omega⟩
  ·have C:=Hd (PR.out wr hR)
   rcases Nat.lt_or_ge j 4 with hlt | hge
   ·have q3:decide ((j:Int)<4)=true:=qT (by omega)
    clear hjj
    go_wp2_with (first
     | (go_at_call 71;(with_reducible refine C.out.mono ?_);rintro e w2 ⟨rfl,hr,hk⟩;have HR2:=Hd hr;have HK2:=Hd hk;clear hr hk)
     | (go_at_call 38;(with_reducible refine(PU.out p w2 HR2).mono ?_);rintro e w8 ⟨rfl,z4,z5,HR8,HK8⟩))
    go_ret
    rw[←HP.out,HD.out]
    exact⟨rfl,HR8.out.setDeep _,HVK.out.trans (hRK.out.trans (HK2.out.trans (HK8.out.trans (RK.set 4 _))))⟩
   ·have q3:decide ((j:Int)<4)=false:=qF (by omega)
    clear hjj
    go_wp2_with (first
     | (go_at_call 71;(with_reducible refine C.out.mono ?_);rintro e w2 ⟨rfl,hr,hk⟩;have HR2:=Hd hr;have HK2:=Hd hk;clear hr hk)
     | (go_at_call 38;(with_reducible refine(PU.out p w2 HR2).mono ?_);rintro e w8 ⟨rfl,z4,z5,HR8,HK8⟩))
    go_ret
    rw[←HP.out,HD.out]
    exact⟨rfl,HR8.out.setDeep _,HVK.out.trans (hRK.out.trans (HK2.out.trans (HK8.out.trans (RK.set 4 _))))⟩
theorem pre_any (b g cap:Nat) (dv:Value) (ts:List Tok) (xb:Nat→Prop) (f:Nat) (IH:FC b g cap dv ts xb f) (σ:RS) (v:Int) (l:List Int) (τ:RS) (hr:runE ts (f+1) .pre σ=some (v,l,τ)) (W:World) (h:Hid (Rd W b g cap dv ts xb σ)) :
  Calls prog 71 #[.pointer (some ⟨b,0,none⟩)] W fun r Y=>RdRet b g cap dv ts xb W (.int .i64 v) τ r Y:=by
 obtain⟨hok,hcase⟩:=pre_cases hr
 rcases hcase with ⟨hc,e⟩ | ⟨hc,hk,v',l',y,r1,oky,e⟩ | ⟨hc,hk,v',l',y,r1,oky,e⟩
 ·cases e
  exact pre_bad b g cap dv ts xb σ hok (Hd hc) W h
 ·cases e
  exact pre_atom b g cap dv ts xb f (Hd IH) σ _ (Hd rfl) hok (Hd hc) (Hd hk) v l' y (Hd r1) oky W h
 ·obtain⟨j0,s0,h1,h2,h3⟩:=prefix_index prefixL hk
  have hp:=prefix_pos (List.mem_of_getElem? h1)
  have hj:j0<4:=(List.getElem?_eq_some_iff.1 h1).1
  cases e
  exact pre_some b g cap dv ts xb f (Hd IH) σ _ (Hd rfl) hok (Hd hc) _ hp.1 hp.2.1 hp.2.2 j0 s0 hj (Hd h1) (Hd h2) (Hd h3) v' l' y (Hd r1) oky W h
end Go.Proofs.YtlbhlncipajapaaGreatDoor
