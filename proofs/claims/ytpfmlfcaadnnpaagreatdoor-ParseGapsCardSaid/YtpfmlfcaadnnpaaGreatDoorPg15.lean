import Derived.Test.YtpfmlfcaadnnpaaGreatDoorPg14
set_option maxHeartbeats 16000000
set_option maxRecDepth 100000
set_option linter.unusedVariables false
open Go.Proofs.Tryz(prog)
namespace Go.Proofs.YtpfmlfcaadnnpaaGreatDoor
open Go.RowKit Lx
structure PaS (b g cap:Nat) (dv:Value) (ts:List Tok) (xb:Nat→Prop) (W0:World) (lb rb:Nat) (o:Option Addr) (c:Nat) (acc:List Pa) (σ:RS) (W:World):Prop where
 cd:Cd W b g cap dv ts xb σ
 rx:RX b xb W0 W
 bx:BoxR W rb b
 lbx:W.heap[lb]?=some (.cells #[.slice o acc.length c] 54 (0,0))
 own:W.ownsRow W0.heap.size 62 2 (.slice o acc.length c) acc.length (paC acc)
def PaI2 (b g cap:Nat) (dv:Value) (ts:List Tok) (xb:Nat→Prop) (W0:World) (lb rb:Nat) (acc:List Pa) (σ:RS) (W:World):Prop:=∃o c,PaS b g cap dv ts xb W0 lb rb o c acc σ W
def paOne (ts:List Tok) (acc:List Pa) (σ:RS) (acc':List Pa) (σ':RS):Prop:=acc'=acc++[⟨str (nameV ts σ),kindV ts (wantS ts [58] (nameS ts σ))⟩]∧σ'=kindS ts (wantS ts [58] (nameS ts σ))∧acc.length≤40000
theorem paOne_stays {ts:List Tok}:∀a σ a' σ',paOne ts a σ a' σ'→Stays σ σ':=fun a σ a' σ' ⟨_,h,_⟩=>by rw[h];exact(stays_name ts σ).trans ((stays_want ts [58] _).trans (stays_kind ts _))
theorem PaS.on {b g cap:Nat} {dv:Value} {ts:List Tok} {xb:Nat→Prop} {W0:World} {lb rb:Nat} {o:Option Addr} {c:Nat} {acc:List Pa} {σ σ':RS} {W Y:World} (h:PaS b g cap dv ts xb W0 lb rb o c acc σ W) (hb:b<W0.heap.size) (hlb:lb≠b) (hrb:rb≠b) (hc:Cd Y b g cap dv ts xb σ') (hr:RX b xb W Y):PaS b g cap dv ts xb W0 lb rb o c acc σ' Y :=
 ⟨hc,h.rx.trans hr,h.bx.keep hrb hr,hr.keep lb _ h.lbx hlb (NoEx.of (by decide)),own_keepT h.own (by decide) hb hr.rk⟩
theorem paI_in {b g cap:Nat} {dv:Value} {ts:List Tok} {xb:Nat→Prop} {W0:World} {lb rb:Nat} (hb:b<W0.heap.size) (hlb:lb≠b) (hrb:rb≠b):∀(a:List Pa) (σ:RS) (W:World),PaI2 b g cap dv ts xb W0 lb rb a σ W→∃xs:Nat→Prop,(∀k,xb k→xs k)∧Cd W b g cap dv ts xs σ∧RX b xb W0 W∧∀σ' Y,Cd Y b g cap dv ts xs σ'→RX b xs W Y→PaI2 b g cap dv ts xb W0 lb rb a σ' Y:=fun a σ W ⟨o,c,h⟩ =>
 ⟨xb,fun _ h=>h,h.cd,h.rx,fun σ' Y hc hr=>⟨o,c,h.on hb hlb hrb hc hr⟩⟩
theorem PaS.push {b g cap:Nat} {dv:Value} {ts:List Tok} {xb:Nat→Prop} {W0:World} {lb rb:Nat} {o:Option Addr} {c:Nat} {acc:List Pa} {e:Pa} {σ:RS} {W W1 W2:World} (h:PaS b g cap dv ts xb W0 lb rb o c acc σ W) (hb:b<W0.heap.size) (hlb:W0.heap.size≤lb) (hx0:∀k,xb k→k<W0.heap.size) (hrl:rb≠lb) (hrb2:rb≠b) (hB:Below W.heap.size W W1) (gg cc:Nat)
  (ho:W2.ownsRow W0.heap.size 62 2 (.slice (some ⟨gg,0,none⟩) (acc.length+1) cc) (acc.length+1) (paC acc++[.string e.name,.int .i64 e.type])) (hg:W1.grownBy W2 (Value.slice o acc.length c).ownBlock) :
  PaI2 b g cap dv ts xb W0 lb rb (acc++[e]) σ (W2.setCell ⟨lb,0,none⟩ (.slice (some ⟨gg,0,none⟩) (acc.length+1) cc)):=by
 have hw0:W0.heap.size≤W.heap.size:=h.rx.size
 have hs1:=hB.size
 have hs2:=hg.size
 have hlw:=heap_lt h.lbx
 have hrw:=heap_lt h.bx
 have own1:W1.ownsRow W0.heap.size 62 2 (.slice o acc.length c) acc.length (paC acc):=rd_own_same h.own fun k e=>hB.block k (h.own.lt k e).2
 have own_ge:∀k,(Value.slice o acc.length c).ownBlock=some k→W0.heap.size≤k∧∃cs,W.heap[k]?=some (.cells cs 62 (0,0)):=fun k hk=>own_type h.own hk
 have same:∀k,k<W.heap.size→(Value.slice o acc.length c).ownBlock≠some k→W2.heap[k]?=W.heap[k]?:=fun k hk hne=>(hg.block k (by omega) (fun e=>hne e.symm)).trans (hB.block k hk)
 have h2:Cd W2 b g cap dv ts xb σ:=(h.cd.below hB).grownT own1 (by omega) (by decide) (by decide) hg
 have r2:RX b xb W0 W2:=(h.rx.trans (RX.of_below hB (by omega) fun k hk=>Nat.lt_of_lt_of_le (hx0 k hk) hw0)).grown hx0 hb own1 hg
 have hlb2:W2.heap[lb]?=some (.cells #[.slice o acc.length c] 54 (0,0)):=(same lb hlw fun e=>by
  obtain⟨_,cs,hc⟩:=own_ge lb e
  rw[h.lbx] at hc;cases hc).trans h.lbx
 have hrb3:W2.heap[rb]?=W.heap[rb]?:=same rb hrw fun e=>by
  obtain⟨_,cs,hc⟩:=own_ge rb e
  have hbx:=h.bx
  unfold BoxR at hbx
  rw[hbx] at hc;cases hc
 have hgl:gg≠lb:=fun e=>by
  obtain⟨_,cs,hc⟩:=own_type ho (k:=gg) rfl
  rw[e,hlb2] at hc;cases hc
 have hbut:But lb W2 (W2.setCell ⟨lb,0,none⟩ (.slice (some ⟨gg,0,none⟩) (acc.length+1) cc)):=(But.refl _ _).set 0 _
 have hlen:(acc++[e]).length=acc.length+1:=by simp
 refine⟨some ⟨gg,0,none⟩,cc,h2.but hlb2 (by decide) (by decide) (by omega) hbut,r2.but hx0 hlb (by omega) hb hbut,?_,?_,?_⟩
 ·unfold BoxR
  rw[Below.heap_setCell W2 ⟨lb,0,none⟩ _ rb hrl,hrb3];exact h.bx
 ·rw[set_blk hlb2,hlen];simp
 ·rw[hlen,show paC (acc++[e])=paC acc++[.string e.name,.int .i64 e.type] by unfold paC;simp]
  exact rd_own_same ho fun k e=>by
   obtain rfl:gg=k:=by simpa [Value.ownBlock] using e
   exact Below.heap_setCell W2 ⟨lb,0,none⟩ _ gg hgl
theorem PaS.lb2 {b g cap:Nat} {dv:Value} {ts:List Tok} {xb:Nat→Prop} {W0:World} {lb rb:Nat} {o:Option Addr} {c:Nat} {acc:List Pa} {σ:RS} {W W1 W2:World} (h:PaS b g cap dv ts xb W0 lb rb o c acc σ W) (hB:Below W.heap.size W W1) (hg:W1.grownBy W2 (Value.slice o acc.length c).ownBlock):W2.heap[lb]?=some (.cells #[.slice o acc.length c] 54 (0,0)):=by
 have hlw:=heap_lt h.lbx
 refine((hg.block lb (by have:=hB.size;omega) (fun e=>?_)).trans (hB.block lb hlw)).trans h.lbx
 obtain⟨_,cs,hc⟩:=own_type h.own e.symm
 rw[h.lbx] at hc;cases hc
theorem step_pas {ops:Array Oper} {o:Oper} {a:Act} {K:Act→World→Prop} {Q:Exit→Act→World→Prop} {E:Prop} (w:World) (hgd:o.guard=none) (s x:Operand)
  (ho:o.op=Op.call { callee:=Callee.builtin Builtin.append,args:=#[s,x],argTypes:=#[54,54] }) (B:Nat) (v:Value) (n:Nat) (xs:List Value) (hs:a.eval s=v) (hown:w.ownsRow B 62 2 v n xs)
  (kb:Nat) (u1 u2:Value) (hx:a.eval x=.slice (some ⟨kb,0,none⟩) 1 1) (hc:w.cell? ⟨kb,0,none⟩=some u1∧w.cell? ⟨kb,1,none⟩=some u2) (h1c:u1.oneCell'=true∧u2.oneCell'=true) (hk:n≤40000) (hB:B≤w.heap.size)
  (h:∀g cap w',w'.ownsRow B 62 2 (.slice (some ⟨g,0,none⟩) (n+1) cap) (n+1) (xs++[u1,u2])→w.grownBy w' v.ownBlock→K (a.put o.dst (.slice (some ⟨g,0,none⟩) (n+1) cap)) w'):if Region.wanted o (yielded ops a.tmps)=true then Oper.wp prog o a w K Q else E:=by
 rw[if_pos (by simp[Region.wanted,hgd])]
 obtain⟨i,h2,h3,h4,h5⟩:=info_parts pa_info
 have e:∀j,(⟨kb,0,none⟩:Addr).add j=⟨kb,j,none⟩:=fun j=>by unfold Addr.add;split <;> simp_all
 refine wp_append_own w s x 54 ho B 62 i _ 2 24 Tryz.underlying54 h2 h3 h4 h5 rfl (by decide) v n xs hs hown ⟨kb,0,none⟩ 1 1 [u1,u2] hx rfl (fun j v hj=>?_) (by simpa using h1c) (by unfold maxLen;omega) (by omega) hB fun v' w' r1 r2 _=>?_
 ·rw[e]
  rcases j with _ | _ | j
  ·cases hj;exact hc.1
  ·cases hj;exact hc.2
  ·simp at hj
 ·obtain⟨g,cap,rfl⟩:=ownsRow_succ r1
  exact h g cap w' r1 r2
theorem params1_any (b g cap:Nat) (dv:Value) (ts:List Tok) (xb:Nat→Prop) (W0:World) (lb rb:Nat) (hb:b<W0.heap.size) (hx0:∀k,xb k→k<W0.heap.size) (hlb:W0.heap.size≤lb) (hrl:rb≠lb) (hrb2:rb≠b)
  (acc acc':List Pa) (σ σ':RS) (hc:σ.code=0) (h1:paOne ts acc σ acc' σ') (W:World) (h:Hid (PaI2 b g cap dv ts xb W0 lb rb acc σ W)) :
  Calls prog 87 #[.pointer (some ⟨rb,0,none⟩),.pointer (some ⟨lb,0,none⟩)] W fun r Y=>LsRet b xb W0 (PaI2 b g cap dv ts xb W0 lb rb) acc' σ' r Y:=by
 obtain⟨rfl,hs',hlen⟩:=h1
 obtain⟨o,c,hS⟩:=h.out
 have HS:=Hd hS
 have hbW:b<W.heap.size:=hS.cd.size
 have r0:=hS.bx.cell
 have hlb2:lb≠b:=by omega
 obtain⟨nm,hnm⟩:∃e,e=str (nameV ts σ):=⟨_,rfl⟩
 obtain⟨s1,hs1⟩:∃s,s=nameS ts σ:=⟨_,rfl⟩
 rw[←hs1] at hs'
 rw[←hnm,←hs1]
 obtain⟨kv,hkv⟩:∃k,k=kindV ts (wantS ts [58] s1):=⟨_,rfl⟩
 rw[←hkv]
 obtain⟨n,hn⟩:∃n,n=acc.length:=⟨_,rfl⟩
 have HN:=Hd hn
 have hn5:n≤40000:=by omega
 have HX:=Hd (show _∧_∧_∧_∧_ from⟨hb,hx0,hlb,hrl,hrb2⟩)
 have C0:Hid (∀W,Hid (Cd W b g cap dv ts xb σ)→Calls prog 63 #[.pointer (some ⟨b,0,none⟩)] W fun r Y=>CdRet b g cap dv ts xb W (.string nm) s1 r Y):=Hd fun W h=>by rw[hnm,hs1];exact cname_any b g cap dv ts xb σ W h hc
 have CT:Hid (s1.code=0→∀W,Hid (Cd W b g cap dv ts xb s1)→Calls prog 65 #[.pointer (some ⟨b,0,none⟩),.string ⟨#[58]⟩,.func (.func 66) #[.pointer (some ⟨b,0,none⟩)] #[]] W fun r Y=>CdRet b g cap dv ts xb W (.int .i64 kv) σ' r Y):=Hd fun z W h=>by rw[hkv,hs'];exact behind_types b g cap dv ts xb s1 [58] W h z (by decide)
 have K1:Hid (Stays s1 σ'):=Hd (by rw[hs'];exact(stays_want ts [58] s1).trans (stays_kind ts _))
 have HCD:Hid (Cd W b g cap dv ts xb σ):=Hd hS.cd
 have mixed:prog.follows .mixedOrders=true:=by kernel_rfl
 have late:prog.follows .lateStores=true:=by kernel_rfl
 clear hc hS hn h hlen hx0 hrl hrb2 hnm hs' hs1 hkv
 by_cases hz1:s1.code=0
 ·have C1:Hid (∀W,Hid (Cd W b g cap dv ts xb σ)→Calls prog 63 #[.pointer (some ⟨b,0,none⟩)] W fun r Y=>CdOk b g cap dv ts xb W (.string nm) s1 r Y):=Hd fun W h=>(C0.out W h).mono fun r Y hh=>hh.ok hz1
  have CT1:=Hd (CT.out hz1)
  have HZ1:=Hd hz1
  clear C0 hz1 CT
  by_cases hz:σ'.code=0
  ·have C2:Hid (∀W,Hid (Cd W b g cap dv ts xb s1)→Calls prog 65 #[.pointer (some ⟨b,0,none⟩),.string ⟨#[58]⟩,.func (.func 66) #[.pointer (some ⟨b,0,none⟩)] #[]] W fun r Y=>CdOk b g cap dv ts xb W (.int .i64 kv) σ' r Y):=Hd fun W h=>(CT1.out W h).mono fun r Y hh=>hh.ok hz
   have HZ:=Hd hz
   clear CT1 hz
   go_enter Tryz.func87,Tryz.ntmps87
   go_wp2_with (go_at_call 63;(with_reducible refine(C1.out _ HCD).mono ?_);rintro e w1 ⟨rfl,hr1,hk1⟩)
   have HS0:=Hd (HS.out.on HX.out.1 hlb2 HX.out.2.2.2.2 hr1.out hk1.out)
   have HSD:Hid (PaS b g cap dv ts xb W0 lb rb o c acc s1 w1.drew):=Hd (HS0.out.on HX.out.1 hlb2 HX.out.2.2.2.2 (hr1.out.below (below_dr (qB _ _) 1)) (RX.of_below (below_dr (qB _ _) 1) (ql hr1.out.size) hr1.out.xlt))
   have HCD1:Hid (Cd w1.drew b g cap dv ts xb s1):=Hd HSD.out.cd
   obtain⟨l0,l1⟩:=cell_one1 HSD.out.lbx
   rw[←HN.out] at l0
   have r1:=HSD.out.bx.cell
   refine wp_onlyN ?_
   go_region_law (first
    | (refine step_call1 _ (by rfl) 65 #[.pointer (some ⟨b,0,none⟩),.string ⟨#[58]⟩,.func (.func 66) #[.pointer (some ⟨b,0,none⟩)] #[]] (by go_simp) _ (C2.out _ HCD1) ?_;rintro e1 w2 ⟨rfl,hr2,hk2⟩;refine⟨_,rfl,?_⟩;have HS1:=Hd (HSD.out.on HX.out.1 hlb2 HX.out.2.2.2.2 hr2.out hk2.out);obtain⟨y0,y1⟩:=cell_one1 HS1.out.lbx;rw[←HN.out] at y0;have y2:∀oo,(w2.alloc oo).cell? ⟨lb,0,none⟩=some (.slice o n c):=fun oo=>cell_on ((qB _ _).alloc (qL _) oo) y0;have hw2:=HS1.out.rx.size)
    | (refine step_pas _ (by rfl) (.tmp 5) (.tmp 12) (by rfl) W0.heap.size (.slice o n c) n (paC acc) (by rfl) (by have:=HS1.out.own;rw[←HN.out] at this;exact this.alloc _) w2.heap.size (.string nm) (.int .i64 kv) (by rfl) (by exact new_cell2 _ _ _ _) ⟨rfl,rfl⟩ (by omega) (by simp;omega) ?_;intro gg cc w3 ho hg;have HO:=Hd ho;have HG:=Hd hg;clear ho hg;have HP:=Hd (HS1.out.push (e:=⟨nm,kv⟩) HX.out.1 HX.out.2.2.1 HX.out.2.1 HX.out.2.2.2.1 HX.out.2.2.2.2 ((qB _ _).alloc (qL _) (.cells #[.string nm,.int .i64 kv] 62)) gg cc (by have:=HO.out;rw[HN.out] at this;exact this) (by have:=HG.out;rw[HN.out] at this;exact this));obtain⟨z8,z9⟩:=cell_one1 (HS1.out.lb2 ((qB _ _).alloc (qL _) (.cells #[.string nm,.int .i64 kv] 62)) (by have:=HG.out;rw[HN.out] at this;exact this));rw[←HN.out] at z8))
   all_goals (
    unfold onlyN
    go_end0
    exact .inl ⟨HZ.out,rfl,by rw[HN.out];exact HP.out⟩)
  ·have C2:Hid (∀W,Hid (Cd W b g cap dv ts xb s1)→Calls prog 65 #[.pointer (some ⟨b,0,none⟩),.string ⟨#[58]⟩,.func (.func 66) #[.pointer (some ⟨b,0,none⟩)] #[]] W fun r Y=>CdBad b xb W σ'.code σ'.pos r Y):=Hd fun W h=>(CT1.out W h).mono fun r Y hh=>hh.bad hz
   have HZ:=Hd hz
   clear CT1 hz
   go_enter Tryz.func87,Tryz.ntmps87
   go_wp2_with (go_at_call 63;(with_reducible refine(C1.out _ HCD).mono ?_);rintro e w1 ⟨rfl,hr1,hk1⟩)
   have HS0:=Hd (HS.out.on HX.out.1 hlb2 HX.out.2.2.2.2 hr1.out hk1.out)
   have HSD:Hid (PaS b g cap dv ts xb W0 lb rb o c acc s1 w1.drew):=Hd (HS0.out.on HX.out.1 hlb2 HX.out.2.2.2.2 (hr1.out.below (below_dr (qB _ _) 1)) (RX.of_below (below_dr (qB _ _) 1) (ql hr1.out.size) hr1.out.xlt))
   have HCD1:Hid (Cd w1.drew b g cap dv ts xb s1):=Hd HSD.out.cd
   obtain⟨l0,l1⟩:=cell_one1 HSD.out.lbx
   rw[←HN.out] at l0
   have r1:=HSD.out.bx.cell
   go_region_with (go_at_call 65;(with_reducible refine(C2.out _ HCD1).mono ?_);rintro e1 w2 ⟨rfl,hk2⟩;refine dummyAny prog w2 ⟨rfl,.inr ⟨HZ.out,rfl,HSD.out.rx.trans hk2.out⟩⟩ ?_)
   all_goals trivial
 ·have C1:Hid (∀W,Hid (Cd W b g cap dv ts xb σ)→Calls prog 63 #[.pointer (some ⟨b,0,none⟩)] W fun r Y=>CdBad b xb W s1.code s1.pos r Y):=Hd fun W h=>(C0.out W h).mono fun r Y hh=>hh.bad hz1
  have HZ1:=Hd hz1
  clear C0 hz1 CT
  go_enter Tryz.func87,Tryz.ntmps87
  go_wp2_with (go_at_call 63;(with_reducible refine(C1.out _ HCD).mono ?_);rintro e w1 ⟨rfl,hk1⟩)
  obtain⟨k1,k2⟩:=K1.out HZ1.out
  exact⟨rfl,.inr ⟨by rw[k1];exact HZ1.out,by rw[k1,k2],HS.out.rx.trans hk1.out⟩⟩
theorem pars_LR {ts:List Tok}:∀(n:Nat) (acc:List Pa) (σ:RS) (R:List Pa×RS),σ.code=0→parsL ts n acc σ=some R→∃a1 σ1 m a2 σ2,paOne ts acc σ a1 σ1∧LR (paOne ts) ts m a1 σ1 a2 σ2∧R=(a2,wantS ts [41] σ2):=by
 intro n
 induction n with
 | zero=>intro acc σ R _ h;cases h
 | succ n ih =>
  intro acc σ R hc h
  simp only[parsL] at h
  split at h
  ·rename_i hl
   split at h
   ·rename_i hi
    obtain⟨a1,σ1,m,a2,σ2,h1,h2,h3⟩:=ih _ _ R (show(stepS (kindS ts (wantS ts [58] (nameS ts σ)))).code=0 from(isS_kind hi).2) h
    exact⟨_,_,m+1,a2,σ2,⟨rfl,rfl,hl⟩,.more hi h1 h2,h3⟩
   ·rename_i hi
    obtain rfl:=qI h
    exact⟨_,_,0,_,_,⟨rfl,rfl,hl⟩,.stop (by simpa using hi),rfl⟩
  ·cases h
def CpRet (b g cap:Nat) (dv:Value) (ts:List Tok) (xb:Nat→Prop) (W:World) (acc:List Pa) (τ:RS) (r:Ending) (Y:World):Prop :=
 (τ.code=0∧∃o c,r=.returned (.slice o acc.length c)∧Hid (Cd Y b g cap dv ts xb τ)∧Hid (RX b xb W Y)∧Hid (Y.ownsRow W.heap.size 62 2 (.slice o acc.length c) acc.length (paC acc)))∨(τ.code≠0∧r=.panicked [{ v:=refusalV τ.code τ.pos,recovered:=false }]∧Hid (RX b xb W Y))
theorem enters_params1:∀args w,(callFunc 87 args).run prog w=.ok (.enter 87 args) w:=enters_of Tryz.func87 (by kernel_rfl) rfl
theorem stays_params {ts:List Tok} {f:Nat} {σ:RS} {R:List Pa×RS} (hr:paramsS ts f σ=some R):Stays σ R.2:=by
 intro hc
 unfold paramsS at hr
 obtain⟨k1,k2⟩:=stays_want ts [40] σ hc
 rw[isS_bad (by rw[k1];exact hc),if_neg (by decide)] at hr
 cases f with
 | zero=>cases hr
 | succ f =>
  simp only[parsL] at hr
  rw[if_pos (by simp),if_neg (by rw[k1];exact hc)] at hr
  obtain rfl:=qI hr
  exact⟨k1,k2⟩
theorem cparams_any (b g cap:Nat) (dv:Value) (ts:List Tok) (xb:Nat→Prop) (f:Nat) (y:RS) (hc:y.code=0) (R:List Pa×RS) (hr:paramsS ts f y=some R) (W:World) (h:Hid (Cd W b g cap dv ts xb y)) :
  Calls prog 64 #[.pointer (some ⟨b,0,none⟩)] W fun r Y=>CpRet b g cap dv ts xb W R.1 R.2 r Y:=by
 obtain⟨W1,hW1⟩:∃W1,W1=W.alloc (.cells #[.pointer (some ⟨b,0,none⟩)] 48):=⟨_,rfl⟩
 have hb1:Below W.heap.size W W1:=by rw[hW1];exact(qB _ _).alloc (qL _) _
 have H1:Hid (Cd W1 b g cap dv ts xb y):=Hd (h.out.below hb1)
 have HB:=Hd (RX.of_below (xb:=xb) hb1 (ql h.out.size) h.out.xlt)
 have hbs:=h.out.size
 have HX0:=Hd h.out.xlt
 have HBX:Hid (BoxR W1 W.heap.size b):=Hd (by rw[hW1];exact boxR_new W b)
 have b1:=HBX.out.cell
 obtain⟨x,hx⟩:∃x,x=wantS ts [40] y:=⟨_,rfl⟩
 have HS:Hid (Stays x R.2):=Hd (by
  intro hcx
  unfold paramsS at hr
  rw[←hx,isS_bad hcx,if_neg (by decide)] at hr
  cases f with
  | zero=>cases hr
  | succ f =>
   simp only[parsL] at hr
   rw[if_pos (by simp),if_neg hcx] at hr
   obtain rfl:=qI hr
   exact⟨rfl,rfl⟩)
 have CW:Hid (Calls prog 67 #[.pointer (some ⟨b,0,none⟩),.slice (some ⟨W.heap.size+1,0,none⟩) 1 1] (W1.alloc (.cells #[.string ⟨#[40]⟩] 9)) fun r Y=>CdRet b g cap dv ts xb W1 (.tuple #[]) x r Y):=Hd (by rw[hx,←show W1.heap.size=W.heap.size+1 by rw[hW1];simp];exact wants_one b g cap dv ts xb y [40] W1 H1 hc (by decide))
 have MF:=runF
 by_cases hi:isS ts [41] x=true
 ·have hR:R=([],stepS x):=by unfold paramsS at hr;rw[←hx,if_pos hi] at hr;exact(qI hr).symm
  have T2:Hid (∀W,Hid (Cd W b g cap dv ts xb x)→Calls prog 62 #[.pointer (some ⟨b,0,none⟩),.string ⟨#[41]⟩] W fun r Y=>r=.returned (.bool true)∧Hid (Cd Y b g cap dv ts xb (stepS x))∧Hid (RX b xb W Y)):=Hd fun W h=>(takes_any b g cap dv ts xb x [41] W h (isS_kind hi).2 (by decide)).mono fun r Y hh=>by unfold TakesRet tookS at hh;rw[hi] at hh;exact hh
  have HC:=Hd (isS_kind hi).2
  have HRR:=Hd hR
  clear hx hr hi hR hc hb1
  go_enter Tryz.func64,Tryz.ntmps64
  go_wp2_with (first
   | (go_at_call 67;rw[←hW1];clear hW1;(with_reducible refine CW.out.mono ?_);rintro e w1 hh;rcases hh.two with ⟨z,rfl,hr,hk⟩ | ⟨z,rfl,hk⟩;rotate_left;exact absurd HC.out z;have HBw:=Hd (HBX.out.keep (by omega) hk.out);have bw:=HBw.out.cell)
   | (go_at_call 62;(with_reducible refine(T2.out _ hr).mono ?_);rintro e w2 ⟨rfl,hr2,hk2⟩))
  go_ret
  rw[HRR.out]
  exact .inl ⟨HC.out,none,0,rfl,hr2,Hd (HB.out.trans (hk.out.trans hk2.out)),Hd (qO _ _ _ _)⟩
 ·have hi':=Bool.eq_false_iff.2 hi
  by_cases hcx:x.code=0
  ·have hp:parsL ts f [] x=some R:=by unfold paramsS at hr;rw[←hx,if_neg hi] at hr;exact hr
   obtain⟨a1,σ1,m,a2,σ2,g1,g2,g3⟩:=pars_LR f [] x R hcx hp
   have T2:Hid (∀W,Hid (Cd W b g cap dv ts xb x)→Calls prog 62 #[.pointer (some ⟨b,0,none⟩),.string ⟨#[41]⟩] W fun r Y=>r=.returned (.bool false)∧Hid (Cd Y b g cap dv ts xb x)∧Hid (RX b xb W Y)):=Hd fun W h=>(takes_any b g cap dv ts xb x [41] W h hcx (by decide)).mono fun r Y hh=>by unfold TakesRet tookS at hh;rw[hi'] at hh;exact hh
   have HL:Hid (∀lb,W.heap.size≤lb→W.heap.size≠lb→∀w,Hid (PaI2 b g cap dv ts xb W lb W.heap.size [] x w)→Calls prog 86 #[.pointer (some ⟨b,0,none⟩),.string ⟨#[41]⟩,.func (.func 87) #[] #[.pointer (some ⟨W.heap.size,0,none⟩),.pointer (some ⟨lb,0,none⟩)]] w fun r Y=>LsRet b xb W (PaI2 b g cap dv ts xb W lb W.heap.size) R.1 R.2 r Y):=Hd fun lb hl hne w hw=>by
    rw[g3]
    exact list_any b g cap dv ts xb W _ (paOne ts) (paI_in hbs (by omega) (by omega)) paOne_stays _ _ _ enters_params1 (fun a σ a' σ' hc h1 W' h'=>params1_any b g cap dv ts xb W lb W.heap.size hbs HX0.out hl hne (by omega) a a' σ σ' hc h1 W' h') [41] (by decide) [] a1 a2 x σ1 σ2 m hcx g1 g2 w hw
   have HC:=Hd hcx
   clear hx hr hi hi' hc hb1 hp g1 g2 g3 hcx
   go_enter Tryz.func64,Tryz.ntmps64
   go_wp2_with (first
    | (go_at_call 67;rw[←hW1];clear hW1;(with_reducible refine CW.out.mono ?_);rintro e w1 hh;rcases hh.two with ⟨z,rfl,hr,hk⟩ | ⟨z,rfl,hk⟩;rotate_left;exact absurd HC.out z;have HBw:=Hd (HBX.out.keep (by omega) hk.out);have bw:=HBw.out.cell)
    | (go_at_call 62;(with_reducible refine(T2.out _ hr).mono ?_);rintro e w2 ⟨rfl,hr2,hk2⟩;have HK:=Hd (HB.out.trans (hk.out.trans hk2.out));have HBv:=Hd (HBw.out.keep (by omega) hk2.out);have bv:=HBv.out.cell;have hw2:=HK.out.size;have hw2b:=heap_lt HBv.out))
   have hb2:Below w2.heap.size w2 (w2.alloc (.cells #[.slice none 0 0] 54)):=(qB _ _).alloc (qL _) _
   have HI:Hid (PaI2 b g cap dv ts xb W w2.heap.size W.heap.size [] x (w2.alloc (.cells #[.slice none 0 0] 54))):=Hd ⟨none,0,hr2.out.below hb2,HK.out.trans (RX.of_below hb2 (ql hr2.out.size) hr2.out.xlt),(hb2.block _ hw2b).trans HBv.out,heap_alloc_new w2 _,qO _ _ _ _⟩
   refine(HL.out w2.heap.size hw2 (by omega) _ HI).mono ?_
   intro r Y hY
   rcases hY with ⟨z,rfl,o,c,hS⟩ | ⟨z,rfl,hY⟩
   ·have y0:=(cell_one1 hS.lbx).1
    have HS:=Hd hS
    obtain⟨n,hn⟩:∃n,n=R.1.length:=⟨_,rfl⟩
    rw[←hn] at y0
    have HN:=Hd hn
    clear hS hn hb2 HI
    dsimp only
    go_wp2_with fail
    go_ret
    exact .inl ⟨z,o,c,by rw[HN.out];rfl,Hd HS.out.cd,Hd HS.out.rx,Hd HS.out.own⟩
   ·exact⟨rfl,.inr ⟨z,rfl,Hd hY⟩⟩
  ·have HC:=Hd hcx
   clear hx hr hi hi' hc hb1 hcx
   go_enter Tryz.func64,Tryz.ntmps64
   go_wp2_with (go_at_call 67;rw[←hW1];clear hW1;(with_reducible refine CW.out.mono ?_);rintro e w1 hh;rcases hh.two with ⟨z,rfl,hr,hk⟩ | ⟨z,rfl,hk⟩;exact absurd z HC.out;obtain⟨k1,k2⟩:=HS.out z;exact⟨rfl,.inr ⟨by rw[k1];exact z,by rw[k1,k2],Hd (HB.out.trans hk.out)⟩⟩)
theorem tk_no {b g cap:Nat} {dv:Value} {ts:List Tok} {xb:Nat→Prop} {x:RS} (hc:x.code=0) (s:List UInt8) (S:ByteArray) (hS:S=str s) (hs:s ∈ sgL) (hi:isS ts s x=false) :
  Hid (∀W,Hid (Cd W b g cap dv ts xb x)→Calls prog 62 #[.pointer (some ⟨b,0,none⟩),.string S] W fun r Y=>r=.returned (.bool false)∧Hid (Cd Y b g cap dv ts xb x)∧Hid (RX b xb W Y)):=Hd fun W h=>by
 rw[hS]
 exact(takes_any b g cap dv ts xb x s W h hc hs).mono fun r Y hh=>by unfold TakesRet tookS at hh;rw[hi] at hh;exact hh
theorem tk_yes {b g cap:Nat} {dv:Value} {ts:List Tok} {xb:Nat→Prop} {x y:RS} (hc:x.code=0) (hy:y=stepS x) (s:List UInt8) (S:ByteArray) (hS:S=str s) (hs:s ∈ sgL) (hi:isS ts s x=true) :
  Hid (∀W,Hid (Cd W b g cap dv ts xb x)→Calls prog 62 #[.pointer (some ⟨b,0,none⟩),.string S] W fun r Y=>r=.returned (.bool true)∧Hid (Cd Y b g cap dv ts xb y)∧Hid (RX b xb W Y)):=Hd fun W h=>by
 rw[hS,hy]
 exact(takes_any b g cap dv ts xb x s W h hc hs).mono fun r Y hh=>by unfold TakesRet tookS at hh;rw[hi] at hh;exact hh
theorem st_name {b g cap:Nat} {dv:Value} {ts:List Tok} {xb:Nat→Prop} {x y:RS} {u:ByteArray} (hu:u=str (nameV ts x)) (hy:y=nameS ts x) :
  Hid (x.code=0→∀W,Hid (Cd W b g cap dv ts xb x)→Calls prog 63 #[.pointer (some ⟨b,0,none⟩)] W fun r Y=>CdRet b g cap dv ts xb W (.string u) y r Y):=Hd fun z W h=>by
 rw[hu,hy];exact cname_any b g cap dv ts xb _ W h z
theorem st_expr {b g cap:Nat} {dv:Value} {ts:List Tok} {xb:Nat→Prop} {f:Nat} {x y t:RS} {u v:Int} {l:List Int} (hr:runE ts f .expr x=some (v,l,t)) (hu:u=v) (hy:y=t) :
  Hid (x.code=0→∀W,Hid (Cd W b g cap dv ts xb x)→Calls prog 26 #[.pointer (some ⟨b,0,none⟩)] W fun r Y=>CdRet b g cap dv ts xb W (.int .i64 u) y r Y):=Hd fun z W h=>by
 rw[hu,hy];exact(all_rules b g cap dv ts f xb).expr _ _ _ _ z hr W h
theorem bh_name {b g cap:Nat} {dv:Value} {ts:List Tok} {xb:Nat→Prop} {x y:RS} {u:ByteArray} (s:List UInt8) (S:ByteArray) (hS:S=str s) (hs:s ∈ sgL) (hu:u=str (nameV ts (wantS ts s x))) (hy:y=nameS ts (wantS ts s x)) :
  Hid (x.code=0→∀W,Hid (Cd W b g cap dv ts xb x)→Calls prog 102 #[.pointer (some ⟨b,0,none⟩),.string S,.func (.func 63) #[.pointer (some ⟨b,0,none⟩)] #[]] W fun r Y=>CdRet b g cap dv ts xb W (.string u) y r Y):=Hd fun z W h=>by
 rw[hS,hu,hy];exact behind_name b g cap dv ts xb _ s W h z hs
theorem bh_types {b g cap:Nat} {dv:Value} {ts:List Tok} {xb:Nat→Prop} {x y:RS} {u:Int} (s:List UInt8) (S:ByteArray) (hS:S=str s) (hs:s ∈ sgL) (hu:u=kindV ts (wantS ts s x)) (hy:y=kindS ts (wantS ts s x)) :
  Hid (x.code=0→∀W,Hid (Cd W b g cap dv ts xb x)→Calls prog 65 #[.pointer (some ⟨b,0,none⟩),.string S,.func (.func 66) #[.pointer (some ⟨b,0,none⟩)] #[]] W fun r Y=>CdRet b g cap dv ts xb W (.int .i64 u) y r Y):=Hd fun z W h=>by
 rw[hS,hu,hy];exact behind_types b g cap dv ts xb _ s W h z hs
theorem bh_expr {b g cap:Nat} {dv:Value} {ts:List Tok} {xb:Nat→Prop} {f:Nat} {x y t:RS} {u v:Int} {l:List Int} (s:List UInt8) (S:ByteArray) (hS:S=str s) (hs:s ∈ sgL) (hr:runE ts f .expr (wantS ts s x)=some (v,l,t)) (hu:u=v) (hy:y=t) :
  Hid (x.code=0→∀W,Hid (Cd W b g cap dv ts xb x)→Calls prog 65 #[.pointer (some ⟨b,0,none⟩),.string S,.func (.func 26) #[.pointer (some ⟨b,0,none⟩)] #[]] W fun r Y=>CdRet b g cap dv ts xb W (.int .i64 u) y r Y):=Hd fun z W h=>by
 rw[hS,hu,hy];exact behind_rule b g cap dv ts xb _ f .expr enters_expr (all_rules b g cap dv ts f xb).expr _ z s hs _ _ _ hr W h
theorem wt_one {b g cap:Nat} {dv:Value} {ts:List Tok} {xb:Nat→Prop} {x y:RS} (s:List UInt8) (S:ByteArray) (hS:S=str s) (hs:s ∈ sgL) (hy:y=wantS ts s x) :
  Hid (x.code=0→∀W,Hid (Cd W b g cap dv ts xb x)→Calls prog 67 #[.pointer (some ⟨b,0,none⟩),.slice (some ⟨W.heap.size,0,none⟩) 1 1] (W.alloc (.cells #[.string S] 9)) fun r Y=>CdRet b g cap dv ts xb W (.tuple #[]) y r Y):=Hd fun z W h=>by
 rw[hS,hy];exact wants_one b g cap dv ts xb _ s W h z hs
theorem cit_der (b g cap:Nat) (dv:Value) (ts:List Tok) (xb:Nat→Prop) (f:Nat) (x:RS) (hc:x.code=0) (hi:isS ts [100,101,114] x=true) (v1:Int) (l1:List Int) (t1:RS) (hr1:runE ts f .expr (wantS ts [61] (nameS ts (stepS x)))=some (v1,l1,t1)) (v2:Int) (l2:List Int) (t2:RS) (hr2:runE ts f .expr (wantS ts [105,110,105,116] t1)=some (v2,l2,t2)) (W:World) (h:Hid (Cd W b g cap dv ts xb x)) :
  Calls prog 89 #[.pointer (some ⟨b,0,none⟩)] W fun r Y=>CiRet b g cap dv ts xb W { it0 with kind:=2,name:=str (nameV ts (stepS x)),e:=v1,f:=v2,pos:=((tokL ts x.at_).at_:Int) } (wantS ts [59] t2) r Y:=by
 obtain⟨P,hP⟩:∃P,P=(tokL ts x.at_).at_:=⟨_,rfl⟩
 rw[←hP]
 obtain⟨s0,hs0⟩:∃s0,s0=stepS x:=⟨_,rfl⟩
 try rw[←hs0]
 try rw[←hs0] at hr1
 obtain⟨u0,hu0⟩:∃u:ByteArray,u=str (nameV ts s0):=⟨_,rfl⟩
 obtain⟨s1,hs1⟩:∃s1,s1=nameS ts s0:=⟨_,rfl⟩
 try rw[←hu0]
 try rw[←hs1]
 try rw[←hs1] at hr1
 obtain⟨u1,hu1⟩:∃u:Int,u=v1:=⟨_,rfl⟩
 obtain⟨s2,hs2⟩:∃s2,s2=t1:=⟨_,rfl⟩
 try rw[←hu1]
 try rw[←hs2]
 try rw[←hs2] at hr2
 obtain⟨u2,hu2⟩:∃u:Int,u=v2:=⟨_,rfl⟩
 obtain⟨s3,hs3⟩:∃s3,s3=t2:=⟨_,rfl⟩
 try rw[←hu2]
 try rw[←hs3]
 obtain⟨sw,hsw⟩:∃sw,sw=wantS ts [59] s3:=⟨_,rfl⟩
 rw[←hsw]
 have K3:Hid (Stays s3 sw):=Hd (by rw[hsw];exact stays_want _ _ _)
 have K2:Hid (Stays s2 sw):=Hd (by have:=(stays_want ts [105,110,105,116] s2).trans (stuck ts f .expr _ _ hr2);rw[hs3] at K3;exact this.trans K3.out)
 have K1:Hid (Stays s1 sw):=Hd (by have:=(stays_want ts [61] s1).trans (stuck ts f .expr _ _ hr1);rw[hs2] at K2;exact this.trans K2.out)
 have K0:Hid (Stays s0 sw):=Hd (by have:=stays_name ts s0;rw[←hs1] at this;exact this.trans K1.out)
 obtain⟨W1,hW1⟩:∃W1,W1=(W.alloc (.cells #[.int .i64 0,.string ⟨#[]⟩,.int .i64 0,.int .i64 0,.int .i64 0,.slice none 0 0,.string ⟨#[]⟩,.string ⟨#[]⟩,.int .i64 0] 65)).alloc (.cells #[.string ⟨#[108,101,116]⟩] 9):=⟨_,rfl⟩
 have hbe:Below W.heap.size W W1:=by rw[hW1];exact((qB _ _).alloc (qL _) _).alloc (by simp) _
 have hz1:W1.heap[W.heap.size]?=some (.cells itZ 65 (0,0)):=by rw[hW1,heap_alloc_old _ _ (by simp)];exact heap_alloc_new W _
 have H1:Hid (Cd W1 b g cap dv ts xb x):=Hd (h.out.below hbe)
 obtain⟨o,c,⟨c0,c1,c2,c3,fr⟩,hx⟩:=H1.out.cells
 obtain⟨t0,t1,t2,t3⟩:=H1.out.tok
 have hl:=H1.out.at_
 have hbs:=H1.out.size
 have hgs:g<W1.heap.size:=by have:=H1.out.lt;omega
 obtain⟨m,hmm⟩:∃m,m=ts.length-x.at_:=⟨_,rfl⟩
 obtain⟨a4,haa⟩:∃a4,a4=x.at_*4:=⟨_,rfl⟩
 rw[←hmm,←haa] at c0
 rw[←hP,←haa] at t3
 have k0:(0:Int)<(m:Int):=by omega
 have F0:Hid (Calls prog 49 #[.pointer (some ⟨b,0,none⟩),.slice (some ⟨W.heap.size+1,0,none⟩) 1 1] W1 fun r Y=>r=.returned (.bool false)∧W1=Y):=Hd ((fits_any b g cap dv ts xb x (W.heap.size+1) 1 [[108,101,116]] W1 H1 hc (by decide) rfl (by decide) (Hd (by
  rw[hW1,show W.heap.size+1=(W.alloc (.cells #[.int .i64 0,.string ⟨#[]⟩,.int .i64 0,.int .i64 0,.int .i64 0,.slice none 0 0,.string ⟨#[]⟩,.string ⟨#[]⟩,.int .i64 0] 65)).heap.size by simp];exact strs_new _ [[108,101,116]] _))).mono fun r Y hh=>by
  rw[show fitsB ts [[108,101,116]] x=false by unfold fitsB;simp[show isS ts [108,101,116] x=false from isS_one hi (by decide)]] at hh;exact⟨hh.1,hh.2.symm⟩)
 obtain⟨W2,hW2⟩:∃W2,W2=W1.alloc (.cells #[.int .i64 0,.string ⟨#[]⟩,.int .i64 0,.int .i64 0,.int .i64 0,.slice none 0 0,.string ⟨#[]⟩,.string ⟨#[]⟩,.int .i64 (P:Int)] 65):=⟨_,rfl⟩
 have HB:Hid (CB W W2 b g cap dv ts xb x W.heap.size W1.heap.size #[.int .i64 0,.string ⟨#[]⟩,.int .i64 0,.int .i64 0,.int .i64 0,.slice none 0 0,.string ⟨#[]⟩,.string ⟨#[]⟩,.int .i64 (P:Int)]):=Hd (by rw[hW2];exact CB.new2 h.out hbe hz1 _)
 have T0:=tk_yes (b:=b) (g:=g) (cap:=cap) (dv:=dv) (xb:=xb) hc hs0 [100,101,114] ⟨#[100,101,114]⟩ rfl (by decide) hi
 have z0:s0.code=0:=by rw[hs0];exact hc
 have C0:=st_name (b:=b) (g:=g) (cap:=cap) (dv:=dv) (xb:=xb) hu0 hs1
 have C1:=bh_expr (b:=b) (g:=g) (cap:=cap) (dv:=dv) (xb:=xb) [61] ⟨#[61]⟩ rfl (by decide) hr1 hu1 hs2
 have C2:=bh_expr (b:=b) (g:=g) (cap:=cap) (dv:=dv) (xb:=xb) [105,110,105,116] ⟨#[105,110,105,116]⟩ rfl (by decide) hr2 hu2 hs3
 have CW:=wt_one (b:=b) (g:=g) (cap:=cap) (dv:=dv) (xb:=xb) [59] ⟨#[59]⟩ rfl (by decide) hsw
 clear hmm haa t0 t1 t2 hl hx c1 c2 c3 fr hP hi hc hsw hbe hz1 hs0 hr1 hr2 hu0 hs1 hu1 hs2 hu2 hs3
 have z0':=Hd z0
 go_enter Tryz.func89,Tryz.ntmps89
 go_wp2_with (first
  | (go_at_call 49;rw[←hW1];(with_reducible refine F0.out.mono ?_);rintro e w1 ⟨rfl,rfl⟩;clear hW1)
  | (go_at_call 62;rw[←hW2];clear hW2 c0 t3;(with_reducible refine(T0.out _ (Hd HB.out.cd)).mono ?_);rintro e wt0 ⟨rfl,hr1,hk1⟩;replace HB:=Hd (HB.out.call hr1 hk1);clear hr1 hk1;obtain⟨⟨y0,y1,y2,y3,y4,y5,y6,y7,y8⟩,yf⟩:=rgCells HB.out.box;have f0:=yf 0;clear yf)
  | (go_at_call 63;obtain⟨V0,hV0⟩:∃V0,V0=wt0.setCell ⟨W1.heap.size,0,none⟩ (.int .i64 2):=⟨_,rfl⟩;have HV:Hid (CB W V0 b g cap dv ts xb s0 W.heap.size W1.heap.size #[.int .i64 2,.string ⟨#[]⟩,.int .i64 0,.int .i64 0,.int .i64 0,.slice none 0 0,.string ⟨#[]⟩,.string ⟨#[]⟩,.int .i64 (P:Int)]):=Hd (by rw[hV0];exact HB.out.set 0 _ rfl);clear HB;have HB:=HV;clear HV;rw[←hV0];clear hV0 y0 y1 y2 y3 y4 y5 y6 y7 y8 f0;(with_reducible refine(C0.out z0 _ (Hd HB.out.cd)).mono ?_);rintro e ws0 hh;rcases hh.two with ⟨z1,rfl,hr1,hk1⟩ | ⟨z1,rfl,hk1⟩;rotate_left;exact⟨rfl,CiRet.bad (HB.out.rx.trans hk1.out) z1 K1.out⟩;replace HB:=Hd (HB.out.call hr1 hk1);clear hr1 hk1)
  | (go_at_call 65;(with_reducible refine(C1.out z1 _ (Hd HB.out.cd)).mono ?_);rintro e ws1 hh;rcases hh.two with ⟨z2,rfl,hr1,hk1⟩ | ⟨z2,rfl,hk1⟩;rotate_left;exact⟨rfl,CiRet.bad (HB.out.rx.trans hk1.out) z2 K2.out⟩;replace HB:=Hd (HB.out.call hr1 hk1);clear hr1 hk1)
  | (go_at_call 65;(with_reducible refine(C2.out z2 _ (Hd HB.out.cd)).mono ?_);rintro e ws2 hh;rcases hh.two with ⟨z3,rfl,hr1,hk1⟩ | ⟨z3,rfl,hk1⟩;rotate_left;exact⟨rfl,CiRet.bad (HB.out.rx.trans hk1.out) z3 K3.out⟩;replace HB:=Hd (HB.out.call hr1 hk1);clear hr1 hk1;obtain⟨⟨y0,y1,y2,y3,y4,y5,y6,y7,y8⟩,yf⟩:=rgCells HB.out.box;have f1:=yf 1;have f3:=yf 3;have f4:=yf 4;clear yf))
 obtain⟨V,hV⟩:∃V,V=(((ws2.setCell ⟨W1.heap.size,1,none⟩ (.string u0)).setCell ⟨W1.heap.size,3,none⟩ (.int .i64 u1)).setCell ⟨W1.heap.size,4,none⟩ (.int .i64 u2)):=⟨_,rfl⟩
 have HV:Hid (CB W V b g cap dv ts xb s3 W.heap.size W1.heap.size #[.int .i64 2,.string u0,.int .i64 0,.int .i64 u1,.int .i64 u2,.slice none 0 0,.string ⟨#[]⟩,.string ⟨#[]⟩,.int .i64 (P:Int)]):=Hd (by rw[hV];exact(((HB.out.set 1 _ rfl).set 3 _ rfl).set 4 _ rfl))
 rw[←hV,show ws2.heap.size=V.heap.size by rw[hV];simp]
 clear hV HB y0 y1 y2 y3 y4 y5 y6 y7 y8 f1 f3 f4
 refine(CW.out z3 V (Hd HV.out.cd)).mono ?_
 rintro e w5 hh
 rcases hh.two with ⟨z5,rfl,hr5,hk5⟩ | ⟨z5,rfl,hk5⟩
 rotate_left
 ·exact⟨rfl,CiRet.bad (HV.out.rx.trans hk5.out) z5 (Stays.refl _)⟩
 dsimp only
 have HE:=Hd (HV.out.call hr5 hk5)
 obtain⟨⟨y0,y1,y2,y3,y4,y5,y6,y7,y8⟩,_⟩:=rgCells HE.out.box
 obtain⟨⟨q0,q1,q2,q3,q4,q5,q6,q7,q8⟩,qf⟩:=rgCells HE.out.zero
 have g0:=qf 0;have g1:=qf 1;have g2:=qf 2;have g3:=qf 3;have g4:=qf 4;have g5:=qf 5;have g6:=qf 6;have g7:=qf 7;have g8:=qf 8
 clear qf
 go_wp2_with fail
 obtain⟨r1,r2,r3,r4⟩:=HE.out.told (.int .i64 2) (.string u0) (.int .i64 0) (.int .i64 u1) (.int .i64 u2) (.slice none 0 0) (.string ⟨#[]⟩) (.string ⟨#[]⟩) (.int .i64 (P:Int))
 obtain⟨⟨x0,x1,x2,x3,x4,x5,x6,x7,x8⟩,_⟩:=rgCells r1
 unfold set9 at x0 x1 x2 x3 x4 x5 x6 x7 x8
 exact bodyPost_ret (v:=.agg #[.int .i64 2,.string u0,.int .i64 0,.int .i64 u1,.int .i64 u2,.slice none 0 0,.string ⟨#[]⟩,.string ⟨#[]⟩,.int .i64 (P:Int)]) (by simp[results,Tryz.results89,go_sem,x0,x1,x2,x3,x4,x5,x6,x7,x8]) rfl ⟨r3,.inl ⟨z5,none,0,0,rfl,r2,qO _ _ _ _⟩⟩
theorem cit_reset (b g cap:Nat) (dv:Value) (ts:List Tok) (xb:Nat→Prop) (f:Nat) (x:RS) (hc:x.code=0) (hi:isS ts [114,101,115,101,116] x=true) (v1:Int) (l1:List Int) (t1:RS) (hr1:runE ts f .expr (wantS ts [111,110] (nameS ts (stepS x)))=some (v1,l1,t1)) (v2:Int) (l2:List Int) (t2:RS) (hr2:runE ts f .expr (wantS ts [61] t1)=some (v2,l2,t2)) (W:World) (h:Hid (Cd W b g cap dv ts xb x)) :
  Calls prog 89 #[.pointer (some ⟨b,0,none⟩)] W fun r Y=>CiRet b g cap dv ts xb W { it0 with kind:=3,name:=str (nameV ts (stepS x)),f:=v1,e:=v2,pos:=((tokL ts x.at_).at_:Int) } (wantS ts [59] t2) r Y:=by
 obtain⟨P,hP⟩:∃P,P=(tokL ts x.at_).at_:=⟨_,rfl⟩
 rw[←hP]
 obtain⟨s0,hs0⟩:∃s0,s0=stepS x:=⟨_,rfl⟩
 try rw[←hs0]
 try rw[←hs0] at hr1
 obtain⟨u0,hu0⟩:∃u:ByteArray,u=str (nameV ts s0):=⟨_,rfl⟩
 obtain⟨s1,hs1⟩:∃s1,s1=nameS ts s0:=⟨_,rfl⟩
 try rw[←hu0]
 try rw[←hs1]
 try rw[←hs1] at hr1
 obtain⟨u1,hu1⟩:∃u:Int,u=v1:=⟨_,rfl⟩
 obtain⟨s2,hs2⟩:∃s2,s2=t1:=⟨_,rfl⟩
 try rw[←hu1]
 try rw[←hs2]
 try rw[←hs2] at hr2
 obtain⟨u2,hu2⟩:∃u:Int,u=v2:=⟨_,rfl⟩
 obtain⟨s3,hs3⟩:∃s3,s3=t2:=⟨_,rfl⟩
 try rw[←hu2]
 try rw[←hs3]
 obtain⟨sw,hsw⟩:∃sw,sw=wantS ts [59] s3:=⟨_,rfl⟩
 rw[←hsw]
 have K3:Hid (Stays s3 sw):=Hd (by rw[hsw];exact stays_want _ _ _)
 have K2:Hid (Stays s2 sw):=Hd (by have:=(stays_want ts [61] s2).trans (stuck ts f .expr _ _ hr2);rw[hs3] at K3;exact this.trans K3.out)
 have K1:Hid (Stays s1 sw):=Hd (by have:=(stays_want ts [111,110] s1).trans (stuck ts f .expr _ _ hr1);rw[hs2] at K2;exact this.trans K2.out)
 have K0:Hid (Stays s0 sw):=Hd (by have:=stays_name ts s0;rw[←hs1] at this;exact this.trans K1.out)
 obtain⟨W1,hW1⟩:∃W1,W1=(W.alloc (.cells #[.int .i64 0,.string ⟨#[]⟩,.int .i64 0,.int .i64 0,.int .i64 0,.slice none 0 0,.string ⟨#[]⟩,.string ⟨#[]⟩,.int .i64 0] 65)).alloc (.cells #[.string ⟨#[108,101,116]⟩] 9):=⟨_,rfl⟩
 have hbe:Below W.heap.size W W1:=by rw[hW1];exact((qB _ _).alloc (qL _) _).alloc (by simp) _
 have hz1:W1.heap[W.heap.size]?=some (.cells itZ 65 (0,0)):=by rw[hW1,heap_alloc_old _ _ (by simp)];exact heap_alloc_new W _
 have H1:Hid (Cd W1 b g cap dv ts xb x):=Hd (h.out.below hbe)
 obtain⟨o,c,⟨c0,c1,c2,c3,fr⟩,hx⟩:=H1.out.cells
 obtain⟨t0,t1,t2,t3⟩:=H1.out.tok
 have hl:=H1.out.at_
 have hbs:=H1.out.size
 have hgs:g<W1.heap.size:=by have:=H1.out.lt;omega
 obtain⟨m,hmm⟩:∃m,m=ts.length-x.at_:=⟨_,rfl⟩
 obtain⟨a4,haa⟩:∃a4,a4=x.at_*4:=⟨_,rfl⟩
 rw[←hmm,←haa] at c0
 rw[←hP,←haa] at t3
 have k0:(0:Int)<(m:Int):=by omega
 have F0:Hid (Calls prog 49 #[.pointer (some ⟨b,0,none⟩),.slice (some ⟨W.heap.size+1,0,none⟩) 1 1] W1 fun r Y=>r=.returned (.bool false)∧W1=Y):=Hd ((fits_any b g cap dv ts xb x (W.heap.size+1) 1 [[108,101,116]] W1 H1 hc (by decide) rfl (by decide) (Hd (by
  rw[hW1,show W.heap.size+1=(W.alloc (.cells #[.int .i64 0,.string ⟨#[]⟩,.int .i64 0,.int .i64 0,.int .i64 0,.slice none 0 0,.string ⟨#[]⟩,.string ⟨#[]⟩,.int .i64 0] 65)).heap.size by simp];exact strs_new _ [[108,101,116]] _))).mono fun r Y hh=>by
  rw[show fitsB ts [[108,101,116]] x=false by unfold fitsB;simp[show isS ts [108,101,116] x=false from isS_one hi (by decide)]] at hh;exact⟨hh.1,hh.2.symm⟩)
 obtain⟨W2,hW2⟩:∃W2,W2=W1.alloc (.cells #[.int .i64 0,.string ⟨#[]⟩,.int .i64 0,.int .i64 0,.int .i64 0,.slice none 0 0,.string ⟨#[]⟩,.string ⟨#[]⟩,.int .i64 (P:Int)] 65):=⟨_,rfl⟩
 have HB:Hid (CB W W2 b g cap dv ts xb x W.heap.size W1.heap.size #[.int .i64 0,.string ⟨#[]⟩,.int .i64 0,.int .i64 0,.int .i64 0,.slice none 0 0,.string ⟨#[]⟩,.string ⟨#[]⟩,.int .i64 (P:Int)]):=Hd (by rw[hW2];exact CB.new2 h.out hbe hz1 _)
 have T0:=tk_no (b:=b) (g:=g) (cap:=cap) (dv:=dv) (xb:=xb) hc [100,101,114] ⟨#[100,101,114]⟩ rfl (by decide) (isS_one hi (by decide))
 have T1:=tk_yes (b:=b) (g:=g) (cap:=cap) (dv:=dv) (xb:=xb) hc hs0 [114,101,115,101,116] ⟨#[114,101,115,101,116]⟩ rfl (by decide) hi
 have z0:s0.code=0:=by rw[hs0];exact hc
 have C0:=st_name (b:=b) (g:=g) (cap:=cap) (dv:=dv) (xb:=xb) hu0 hs1
 have C1:=bh_expr (b:=b) (g:=g) (cap:=cap) (dv:=dv) (xb:=xb) [111,110] ⟨#[111,110]⟩ rfl (by decide) hr1 hu1 hs2
 have C2:=bh_expr (b:=b) (g:=g) (cap:=cap) (dv:=dv) (xb:=xb) [61] ⟨#[61]⟩ rfl (by decide) hr2 hu2 hs3
 have CW:=wt_one (b:=b) (g:=g) (cap:=cap) (dv:=dv) (xb:=xb) [59] ⟨#[59]⟩ rfl (by decide) hsw
 clear hmm haa t0 t1 t2 hl hx c1 c2 c3 fr hP hi hc hsw hbe hz1 hs0 hr1 hr2 hu0 hs1 hu1 hs2 hu2 hs3
 have z0':=Hd z0
 go_enter Tryz.func89,Tryz.ntmps89
 go_wp2_with (first
  | (go_at_call 49;rw[←hW1];(with_reducible refine F0.out.mono ?_);rintro e w1 ⟨rfl,rfl⟩;clear hW1)
  | (go_at_call 62;rw[←hW2];clear hW2 c0 t3;(with_reducible refine(T0.out _ (Hd HB.out.cd)).mono ?_);rintro e wt0 ⟨rfl,hr1,hk1⟩;replace HB:=Hd (HB.out.call hr1 hk1);clear hr1 hk1)
  | (go_at_call 62;(with_reducible refine(T1.out _ (Hd HB.out.cd)).mono ?_);rintro e wt1 ⟨rfl,hr1,hk1⟩;replace HB:=Hd (HB.out.call hr1 hk1);clear hr1 hk1;obtain⟨⟨y0,y1,y2,y3,y4,y5,y6,y7,y8⟩,yf⟩:=rgCells HB.out.box;have f0:=yf 0;clear yf)
  | (go_at_call 63;obtain⟨V0,hV0⟩:∃V0,V0=wt1.setCell ⟨W1.heap.size,0,none⟩ (.int .i64 3):=⟨_,rfl⟩;have HV:Hid (CB W V0 b g cap dv ts xb s0 W.heap.size W1.heap.size #[.int .i64 3,.string ⟨#[]⟩,.int .i64 0,.int .i64 0,.int .i64 0,.slice none 0 0,.string ⟨#[]⟩,.string ⟨#[]⟩,.int .i64 (P:Int)]):=Hd (by rw[hV0];exact HB.out.set 0 _ rfl);clear HB;have HB:=HV;clear HV;rw[←hV0];clear hV0 y0 y1 y2 y3 y4 y5 y6 y7 y8 f0;(with_reducible refine(C0.out z0 _ (Hd HB.out.cd)).mono ?_);rintro e ws0 hh;rcases hh.two with ⟨z1,rfl,hr1,hk1⟩ | ⟨z1,rfl,hk1⟩;rotate_left;exact⟨rfl,CiRet.bad (HB.out.rx.trans hk1.out) z1 K1.out⟩;replace HB:=Hd (HB.out.call hr1 hk1);clear hr1 hk1)
  | (go_at_call 65;(with_reducible refine(C1.out z1 _ (Hd HB.out.cd)).mono ?_);rintro e ws1 hh;rcases hh.two with ⟨z2,rfl,hr1,hk1⟩ | ⟨z2,rfl,hk1⟩;rotate_left;exact⟨rfl,CiRet.bad (HB.out.rx.trans hk1.out) z2 K2.out⟩;replace HB:=Hd (HB.out.call hr1 hk1);clear hr1 hk1)
  | (go_at_call 65;(with_reducible refine(C2.out z2 _ (Hd HB.out.cd)).mono ?_);rintro e ws2 hh;rcases hh.two with ⟨z3,rfl,hr1,hk1⟩ | ⟨z3,rfl,hk1⟩;rotate_left;exact⟨rfl,CiRet.bad (HB.out.rx.trans hk1.out) z3 K3.out⟩;replace HB:=Hd (HB.out.call hr1 hk1);clear hr1 hk1;obtain⟨⟨y0,y1,y2,y3,y4,y5,y6,y7,y8⟩,yf⟩:=rgCells HB.out.box;have f1:=yf 1;have f4:=yf 4;have f3:=yf 3;clear yf))
 obtain⟨V,hV⟩:∃V,V=(((ws2.setCell ⟨W1.heap.size,1,none⟩ (.string u0)).setCell ⟨W1.heap.size,4,none⟩ (.int .i64 u1)).setCell ⟨W1.heap.size,3,none⟩ (.int .i64 u2)):=⟨_,rfl⟩
 have HV:Hid (CB W V b g cap dv ts xb s3 W.heap.size W1.heap.size #[.int .i64 3,.string u0,.int .i64 0,.int .i64 u2,.int .i64 u1,.slice none 0 0,.string ⟨#[]⟩,.string ⟨#[]⟩,.int .i64 (P:Int)]):=Hd (by rw[hV];exact(((HB.out.set 1 _ rfl).set 4 _ rfl).set 3 _ rfl))
 rw[←hV,show ws2.heap.size=V.heap.size by rw[hV];simp]
 clear hV HB y0 y1 y2 y3 y4 y5 y6 y7 y8 f1 f4 f3
 refine(CW.out z3 V (Hd HV.out.cd)).mono ?_
 rintro e w5 hh
 rcases hh.two with ⟨z5,rfl,hr5,hk5⟩ | ⟨z5,rfl,hk5⟩
 rotate_left
 ·exact⟨rfl,CiRet.bad (HV.out.rx.trans hk5.out) z5 (Stays.refl _)⟩
 dsimp only
 have HE:=Hd (HV.out.call hr5 hk5)
 obtain⟨⟨y0,y1,y2,y3,y4,y5,y6,y7,y8⟩,_⟩:=rgCells HE.out.box
 obtain⟨⟨q0,q1,q2,q3,q4,q5,q6,q7,q8⟩,qf⟩:=rgCells HE.out.zero
 have g0:=qf 0;have g1:=qf 1;have g2:=qf 2;have g3:=qf 3;have g4:=qf 4;have g5:=qf 5;have g6:=qf 6;have g7:=qf 7;have g8:=qf 8
 clear qf
 go_wp2_with fail
 obtain⟨r1,r2,r3,r4⟩:=HE.out.told (.int .i64 3) (.string u0) (.int .i64 0) (.int .i64 u2) (.int .i64 u1) (.slice none 0 0) (.string ⟨#[]⟩) (.string ⟨#[]⟩) (.int .i64 (P:Int))
 obtain⟨⟨x0,x1,x2,x3,x4,x5,x6,x7,x8⟩,_⟩:=rgCells r1
 unfold set9 at x0 x1 x2 x3 x4 x5 x6 x7 x8
 exact bodyPost_ret (v:=.agg #[.int .i64 3,.string u0,.int .i64 0,.int .i64 u2,.int .i64 u1,.slice none 0 0,.string ⟨#[]⟩,.string ⟨#[]⟩,.int .i64 (P:Int)]) (by simp[results,Tryz.results89,go_sem,x0,x1,x2,x3,x4,x5,x6,x7,x8]) rfl ⟨r3,.inl ⟨z5,none,0,0,rfl,r2,qO _ _ _ _⟩⟩
theorem cit_mem (b g cap:Nat) (dv:Value) (ts:List Tok) (xb:Nat→Prop) (f:Nat) (x:RS) (hc:x.code=0) (hi:isS ts [109,101,109] x=true) (v2:Int) (l2:List Int) (t2:RS) (hr2:runE ts f .expr (wantS ts [105,110,105,116] (kindS ts (wantS ts [58] (nameS ts (stepS x)))))=some (v2,l2,t2)) (W:World) (h:Hid (Cd W b g cap dv ts xb x)) :
  Calls prog 89 #[.pointer (some ⟨b,0,none⟩)] W fun r Y=>CiRet b g cap dv ts xb W { it0 with kind:=4,name:=str (nameV ts (stepS x)),type:=kindV ts (wantS ts [58] (nameS ts (stepS x))),e:=v2,pos:=((tokL ts x.at_).at_:Int) } (wantS ts [59] t2) r Y:=by
 obtain⟨P,hP⟩:∃P,P=(tokL ts x.at_).at_:=⟨_,rfl⟩
 rw[←hP]
 obtain⟨s0,hs0⟩:∃s0,s0=stepS x:=⟨_,rfl⟩
 try rw[←hs0]
 try rw[←hs0] at hr2
 obtain⟨u0,hu0⟩:∃u:ByteArray,u=str (nameV ts s0):=⟨_,rfl⟩
 obtain⟨s1,hs1⟩:∃s1,s1=nameS ts s0:=⟨_,rfl⟩
 try rw[←hu0]
 try rw[←hs1]
 try rw[←hs1] at hr2
 obtain⟨u1,hu1⟩:∃u:Int,u=kindV ts (wantS ts [58] s1):=⟨_,rfl⟩
 obtain⟨s2,hs2⟩:∃s2,s2=kindS ts (wantS ts [58] s1):=⟨_,rfl⟩
 try rw[←hu1]
 try rw[←hs2]
 try rw[←hs2] at hr2
 obtain⟨u2,hu2⟩:∃u:Int,u=v2:=⟨_,rfl⟩
 obtain⟨s3,hs3⟩:∃s3,s3=t2:=⟨_,rfl⟩
 try rw[←hu2]
 try rw[←hs3]
 obtain⟨sw,hsw⟩:∃sw,sw=wantS ts [59] s3:=⟨_,rfl⟩
 rw[←hsw]
 have K3:Hid (Stays s3 sw):=Hd (by rw[hsw];exact stays_want _ _ _)
 have K2:Hid (Stays s2 sw):=Hd (by have:=(stays_want ts [105,110,105,116] s2).trans (stuck ts f .expr _ _ hr2);rw[hs3] at K3;exact this.trans K3.out)
 have K1:Hid (Stays s1 sw):=Hd (by have:=(stays_want ts [58] s1).trans (stays_kind ts _);rw[←hs2] at this;exact this.trans K2.out)
 have K0:Hid (Stays s0 sw):=Hd (by have:=stays_name ts s0;rw[←hs1] at this;exact this.trans K1.out)
 obtain⟨W1,hW1⟩:∃W1,W1=(W.alloc (.cells #[.int .i64 0,.string ⟨#[]⟩,.int .i64 0,.int .i64 0,.int .i64 0,.slice none 0 0,.string ⟨#[]⟩,.string ⟨#[]⟩,.int .i64 0] 65)).alloc (.cells #[.string ⟨#[108,101,116]⟩] 9):=⟨_,rfl⟩
 have hbe:Below W.heap.size W W1:=by rw[hW1];exact((qB _ _).alloc (qL _) _).alloc (by simp) _
 have hz1:W1.heap[W.heap.size]?=some (.cells itZ 65 (0,0)):=by rw[hW1,heap_alloc_old _ _ (by simp)];exact heap_alloc_new W _
 have H1:Hid (Cd W1 b g cap dv ts xb x):=Hd (h.out.below hbe)
 obtain⟨o,c,⟨c0,c1,c2,c3,fr⟩,hx⟩:=H1.out.cells
 obtain⟨t0,t1,t2,t3⟩:=H1.out.tok
 have hl:=H1.out.at_
 have hbs:=H1.out.size
 have hgs:g<W1.heap.size:=by have:=H1.out.lt;omega
 obtain⟨m,hmm⟩:∃m,m=ts.length-x.at_:=⟨_,rfl⟩
 obtain⟨a4,haa⟩:∃a4,a4=x.at_*4:=⟨_,rfl⟩
 rw[←hmm,←haa] at c0
 rw[←hP,←haa] at t3
 have k0:(0:Int)<(m:Int):=by omega
 have F0:Hid (Calls prog 49 #[.pointer (some ⟨b,0,none⟩),.slice (some ⟨W.heap.size+1,0,none⟩) 1 1] W1 fun r Y=>r=.returned (.bool false)∧W1=Y):=Hd ((fits_any b g cap dv ts xb x (W.heap.size+1) 1 [[108,101,116]] W1 H1 hc (by decide) rfl (by decide) (Hd (by
  rw[hW1,show W.heap.size+1=(W.alloc (.cells #[.int .i64 0,.string ⟨#[]⟩,.int .i64 0,.int .i64 0,.int .i64 0,.slice none 0 0,.string ⟨#[]⟩,.string ⟨#[]⟩,.int .i64 0] 65)).heap.size by simp];exact strs_new _ [[108,101,116]] _))).mono fun r Y hh=>by
  rw[show fitsB ts [[108,101,116]] x=false by unfold fitsB;simp[show isS ts [108,101,116] x=false from isS_one hi (by decide)]] at hh;exact⟨hh.1,hh.2.symm⟩)
 obtain⟨W2,hW2⟩:∃W2,W2=W1.alloc (.cells #[.int .i64 0,.string ⟨#[]⟩,.int .i64 0,.int .i64 0,.int .i64 0,.slice none 0 0,.string ⟨#[]⟩,.string ⟨#[]⟩,.int .i64 (P:Int)] 65):=⟨_,rfl⟩
 have HB:Hid (CB W W2 b g cap dv ts xb x W.heap.size W1.heap.size #[.int .i64 0,.string ⟨#[]⟩,.int .i64 0,.int .i64 0,.int .i64 0,.slice none 0 0,.string ⟨#[]⟩,.string ⟨#[]⟩,.int .i64 (P:Int)]):=Hd (by rw[hW2];exact CB.new2 h.out hbe hz1 _)
 have T0:=tk_no (b:=b) (g:=g) (cap:=cap) (dv:=dv) (xb:=xb) hc [100,101,114] ⟨#[100,101,114]⟩ rfl (by decide) (isS_one hi (by decide))
 have T1:=tk_no (b:=b) (g:=g) (cap:=cap) (dv:=dv) (xb:=xb) hc [114,101,115,101,116] ⟨#[114,101,115,101,116]⟩ rfl (by decide) (isS_one hi (by decide))
 have T2:=tk_yes (b:=b) (g:=g) (cap:=cap) (dv:=dv) (xb:=xb) hc hs0 [109,101,109] ⟨#[109,101,109]⟩ rfl (by decide) hi
 have z0:s0.code=0:=by rw[hs0];exact hc
 have C0:=st_name (b:=b) (g:=g) (cap:=cap) (dv:=dv) (xb:=xb) hu0 hs1
 have C1:=bh_types (b:=b) (g:=g) (cap:=cap) (dv:=dv) (xb:=xb) [58] ⟨#[58]⟩ rfl (by decide) hu1 hs2
 have C2:=bh_expr (b:=b) (g:=g) (cap:=cap) (dv:=dv) (xb:=xb) [105,110,105,116] ⟨#[105,110,105,116]⟩ rfl (by decide) hr2 hu2 hs3
 have CW:=wt_one (b:=b) (g:=g) (cap:=cap) (dv:=dv) (xb:=xb) [59] ⟨#[59]⟩ rfl (by decide) hsw
 clear hmm haa t0 t1 t2 hl hx c1 c2 c3 fr hP hi hc hsw hbe hz1 hs0 hr2 hu0 hs1 hu1 hs2 hu2 hs3
 have z0':=Hd z0
 go_enter Tryz.func89,Tryz.ntmps89
 go_wp2_with (first
  | (go_at_call 49;rw[←hW1];(with_reducible refine F0.out.mono ?_);rintro e w1 ⟨rfl,rfl⟩;clear hW1)
  | (go_at_call 62;rw[←hW2];clear hW2 c0 t3;(with_reducible refine(T0.out _ (Hd HB.out.cd)).mono ?_);rintro e wt0 ⟨rfl,hr1,hk1⟩;replace HB:=Hd (HB.out.call hr1 hk1);clear hr1 hk1)
  | (go_at_call 62;(with_reducible refine(T1.out _ (Hd HB.out.cd)).mono ?_);rintro e wt1 ⟨rfl,hr1,hk1⟩;replace HB:=Hd (HB.out.call hr1 hk1);clear hr1 hk1)
  | (go_at_call 62;(with_reducible refine(T2.out _ (Hd HB.out.cd)).mono ?_);rintro e wt2 ⟨rfl,hr1,hk1⟩;replace HB:=Hd (HB.out.call hr1 hk1);clear hr1 hk1;obtain⟨⟨y0,y1,y2,y3,y4,y5,y6,y7,y8⟩,yf⟩:=rgCells HB.out.box;have f0:=yf 0;clear yf)
  | (go_at_call 63;obtain⟨V0,hV0⟩:∃V0,V0=wt2.setCell ⟨W1.heap.size,0,none⟩ (.int .i64 4):=⟨_,rfl⟩;have HV:Hid (CB W V0 b g cap dv ts xb s0 W.heap.size W1.heap.size #[.int .i64 4,.string ⟨#[]⟩,.int .i64 0,.int .i64 0,.int .i64 0,.slice none 0 0,.string ⟨#[]⟩,.string ⟨#[]⟩,.int .i64 (P:Int)]):=Hd (by rw[hV0];exact HB.out.set 0 _ rfl);clear HB;have HB:=HV;clear HV;rw[←hV0];clear hV0 y0 y1 y2 y3 y4 y5 y6 y7 y8 f0;(with_reducible refine(C0.out z0 _ (Hd HB.out.cd)).mono ?_);rintro e ws0 hh;rcases hh.two with ⟨z1,rfl,hr1,hk1⟩ | ⟨z1,rfl,hk1⟩;rotate_left;exact⟨rfl,CiRet.bad (HB.out.rx.trans hk1.out) z1 K1.out⟩;replace HB:=Hd (HB.out.call hr1 hk1);clear hr1 hk1)
  | (go_at_call 65;(with_reducible refine(C1.out z1 _ (Hd HB.out.cd)).mono ?_);rintro e ws1 hh;rcases hh.two with ⟨z2,rfl,hr1,hk1⟩ | ⟨z2,rfl,hk1⟩;rotate_left;exact⟨rfl,CiRet.bad (HB.out.rx.trans hk1.out) z2 K2.out⟩;replace HB:=Hd (HB.out.call hr1 hk1);clear hr1 hk1)
  | (go_at_call 65;(with_reducible refine(C2.out z2 _ (Hd HB.out.cd)).mono ?_);rintro e ws2 hh;rcases hh.two with ⟨z3,rfl,hr1,hk1⟩ | ⟨z3,rfl,hk1⟩;rotate_left;exact⟨rfl,CiRet.bad (HB.out.rx.trans hk1.out) z3 K3.out⟩;replace HB:=Hd (HB.out.call hr1 hk1);clear hr1 hk1;obtain⟨⟨y0,y1,y2,y3,y4,y5,y6,y7,y8⟩,yf⟩:=rgCells HB.out.box;have f1:=yf 1;have f2:=yf 2;have f3:=yf 3;clear yf))
 obtain⟨V,hV⟩:∃V,V=(((ws2.setCell ⟨W1.heap.size,1,none⟩ (.string u0)).setCell ⟨W1.heap.size,2,none⟩ (.int .i64 u1)).setCell ⟨W1.heap.size,3,none⟩ (.int .i64 u2)):=⟨_,rfl⟩
 have HV:Hid (CB W V b g cap dv ts xb s3 W.heap.size W1.heap.size #[.int .i64 4,.string u0,.int .i64 u1,.int .i64 u2,.int .i64 0,.slice none 0 0,.string ⟨#[]⟩,.string ⟨#[]⟩,.int .i64 (P:Int)]):=Hd (by rw[hV];exact(((HB.out.set 1 _ rfl).set 2 _ rfl).set 3 _ rfl))
 rw[←hV,show ws2.heap.size=V.heap.size by rw[hV];simp]
 clear hV HB y0 y1 y2 y3 y4 y5 y6 y7 y8 f1 f2 f3
 refine(CW.out z3 V (Hd HV.out.cd)).mono ?_
 rintro e w5 hh
 rcases hh.two with ⟨z5,rfl,hr5,hk5⟩ | ⟨z5,rfl,hk5⟩
 rotate_left
 ·exact⟨rfl,CiRet.bad (HV.out.rx.trans hk5.out) z5 (Stays.refl _)⟩
 dsimp only
 have HE:=Hd (HV.out.call hr5 hk5)
 obtain⟨⟨y0,y1,y2,y3,y4,y5,y6,y7,y8⟩,_⟩:=rgCells HE.out.box
 obtain⟨⟨q0,q1,q2,q3,q4,q5,q6,q7,q8⟩,qf⟩:=rgCells HE.out.zero
 have g0:=qf 0;have g1:=qf 1;have g2:=qf 2;have g3:=qf 3;have g4:=qf 4;have g5:=qf 5;have g6:=qf 6;have g7:=qf 7;have g8:=qf 8
 clear qf
 go_wp2_with fail
 obtain⟨r1,r2,r3,r4⟩:=HE.out.told (.int .i64 4) (.string u0) (.int .i64 u1) (.int .i64 u2) (.int .i64 0) (.slice none 0 0) (.string ⟨#[]⟩) (.string ⟨#[]⟩) (.int .i64 (P:Int))
 obtain⟨⟨x0,x1,x2,x3,x4,x5,x6,x7,x8⟩,_⟩:=rgCells r1
 unfold set9 at x0 x1 x2 x3 x4 x5 x6 x7 x8
 exact bodyPost_ret (v:=.agg #[.int .i64 4,.string u0,.int .i64 u1,.int .i64 u2,.int .i64 0,.slice none 0 0,.string ⟨#[]⟩,.string ⟨#[]⟩,.int .i64 (P:Int)]) (by simp[results,Tryz.results89,go_sem,x0,x1,x2,x3,x4,x5,x6,x7,x8]) rfl ⟨r3,.inl ⟨z5,none,0,0,rfl,r2,qO _ _ _ _⟩⟩
end Go.Proofs.YtpfmlfcaadnnpaaGreatDoor
