import Derived.Test.YtpfmlfcaadnnpaaGreatDoorPg11
set_option maxHeartbeats 16000000
set_option maxRecDepth 100000
set_option linter.unusedVariables false
open Go.Proofs.Tryz(prog)
namespace Go.Proofs.YtpfmlfcaadnnpaaGreatDoor
open Go.RowKit Lx
theorem int_info:(prog.info? 3).map (fun i=>(i.zero,i.size,i.bytes))=some (some (.int .i64 0),1,8):=by kernel_rfl
theorem cstep_int {ops:Array Oper} {o:Oper} {a:Act} {K:Act→World→Prop} {Q:Exit→Act→World→Prop} {E:Prop} (w:World) (hgd:o.guard=none) (s x:Operand)
  (ho:o.op=.call { callee:=.builtin .append,args:=#[s,x],argTypes:=#[44,44] })
  (B:Nat) (v:Value) (n:Nat) (xs:List Value) (hs:a.eval s=v) (hown:w.ownsRow B 3 1 v n xs) (kb:Nat) (u:Value) (hx:a.eval x=.slice (some ⟨kb,0,none⟩) 1 1)
  (hc:w.cell? ⟨kb,0,none⟩=some u) (h1c:u.oneCell'=true) (hk:n≤100000) (hB:B≤w.heap.size)
  (h:∀g cap w',w'.ownsRow B 3 1 (.slice (some ⟨g,0,none⟩) (n+1) cap) (n+1) (xs++[u])→w.grownBy w' v.ownBlock→(some g=v.ownBlock∨g=w.heap.size)→K (a.put o.dst (.slice (some ⟨g,0,none⟩) (n+1) cap)) w'):if Region.wanted o (yielded ops a.tmps)=true then Oper.wp prog o a w K Q else E:=by
 rw[if_pos (by simp[Region.wanted,hgd])]
 obtain⟨i,h2,h3,h4,h5⟩:=info_parts int_info
 have hc':∀j y,[u][j]?=some y→w.cell? ((⟨kb,0,none⟩:Addr).add j)=some y:=fun j y hj=>by
  cases j with
  | zero =>
   have e:(⟨kb,0,none⟩:Addr).add 0=⟨kb,0,none⟩:=by unfold Addr.add;rfl
   rw[e,hc];simpa using hj
  | succ j=>simp at hj
 obtain⟨v',w',hr,r1,r2,_⟩:=run_append_own (P:=prog) w B 44 o.type 3 i _ 1 8 Tryz.underlying44 h2 h3 h4 h5 rfl (by decide) v n xs hown ⟨kb,0,none⟩ 1 1 [u] rfl hc' (by simpa using h1c) (by unfold maxLen;omega) (by omega) hB
 have r3:=row_after 44 3 1 8 Tryz.underlying44 h2 h3 h4 h5 (by decide) v n xs hown ⟨kb,0,none⟩ [u] rfl hc' (by simpa using h1c) hk v' w' hr
 unfold Oper.wp execOp
 simp only[ho,resolve,invoke,builtin,Sem.run_bind,Sem.run_pure,Result.andThen_ok,List.map_toArray,List.map_cons,List.map_nil,hs,hx,hr]
 obtain⟨g,cap,rfl⟩:=ownsRow_succ r1
 refine h g cap w' r1 r2 ?_
 rcases r3 with r3 | r3
 ·exact .inl r3
 ·exact .inr (qI r3)
structure ArS (b g cap:Nat) (dv:Value) (ts:List Tok) (xb:Nat→Prop) (W0:World) (lb rb:Nat) (xs:Nat→Prop) (o:Option Addr) (c:Nat) (acc:List Int) (σ:RS) (W:World):Prop where
 xle:∀k,xb k→xs k
 cd:Cd W b g cap dv ts xs σ
 rx:RX b xb W0 W
 bx:BoxR W rb b
 lbx:W.heap[lb]?=some (.cells #[.slice o acc.length c] 44 (0,0))
 own:W.ownsRow W0.heap.size 3 1 (.slice o acc.length c) acc.length (acc.map intC)
 ox:∀k,(Value.slice o acc.length c).ownBlock=some k→xs k
def ArI (b g cap:Nat) (dv:Value) (ts:List Tok) (xb:Nat→Prop) (W0:World) (lb rb:Nat) (acc:List Int) (σ:RS) (W:World):Prop:=∃xs o c,ArS b g cap dv ts xb W0 lb rb xs o c acc σ W
def arOne (ts:List Tok) (f:Nat) (acc:List Int) (σ:RS) (acc':List Int) (σ':RS):Prop:=∃e l,runE ts f .expr σ=some (e,l,σ')∧acc'=acc++[e]∧acc.length≤50000
theorem ArS.on {b g cap:Nat} {dv:Value} {ts:List Tok} {xb:Nat→Prop} {W0:World} {lb rb:Nat} {xs:Nat→Prop} {o:Option Addr} {c:Nat} {acc:List Int} {σ σ':RS} {W Y:World} (h:ArS b g cap dv ts xb W0 lb rb xs o c acc σ W) (hb:b<W0.heap.size) (hlb:lb≠b) (hrb:rb≠b) (hc:Cd Y b g cap dv ts xs σ') (hr:RX b xs W Y):ArS b g cap dv ts xb W0 lb rb xs o c acc σ' Y :=
 ⟨h.xle,hc,h.rx.trans (hr.less h.xle),h.bx.keep hrb hr,hr.keep lb _ h.lbx hlb (NoEx.of (by decide)),own_keepT h.own (by decide) hb hr.rk,h.ox⟩
theorem arI_in {b g cap:Nat} {dv:Value} {ts:List Tok} {xb:Nat→Prop} {W0:World} {lb rb:Nat} (hb:b<W0.heap.size) (hlb:lb≠b) (hrb:rb≠b):∀(a:List Int) (σ:RS) (W:World),ArI b g cap dv ts xb W0 lb rb a σ W→∃xs:Nat→Prop,(∀k,xb k→xs k)∧Cd W b g cap dv ts xs σ∧RX b xb W0 W∧∀σ' Y,Cd Y b g cap dv ts xs σ'→RX b xs W Y→ArI b g cap dv ts xb W0 lb rb a σ' Y:=fun a σ W ⟨xs,o,c,h⟩ =>
 ⟨xs,h.xle,h.cd,h.rx,fun σ' Y hc hr=>⟨xs,o,c,h.on hb hlb hrb hc hr⟩⟩
theorem Cd.off {W Y:World} {b g cap:Nat} {dv:Value} {ts:List Tok} {xs ys:Nat→Prop} {σ:RS} (h:Cd W b g cap dv ts xs σ) (hs:W.heap.size≤Y.heap.size) (hlow:∀k,k≤b→Y.heap[k]?=W.heap[k]?) (hy:∀k,k<W.heap.size→¬xs k→Y.heap[k]?=W.heap[k]?) (hys:∀k,ys k→xs k∨W.heap.size≤k) (hyl:∀k,ys k→k<Y.heap.size):Cd Y b g cap dv ts ys σ:=by
 have hsz:=h.size
 obtain⟨o,c,hc,⟨q,q1,q2,q3⟩,h3⟩:=h.blk
 have hn:∀k,k<W.heap.size→¬xs k→¬ys k:=fun k hk hx hk2=>by
  rcases hys k hk2 with h1 | h1
  ·exact hx h1
  ·omega
 refine⟨hyl,⟨o,c,(hlow b (qL _)).trans hc,⟨q,q1,rd_own_same q2 fun k e=>hy k (q2.lt k e).2 (h3 k e),fun p hp=>⟨rd_own_same (q3 p hp).1 fun k e=>hy k ((q3 p hp).1.lt k e).2 ((q3 p hp).2 k e),fun k e=>hn k ((q3 p hp).1.lt k e).2 ((q3 p hp).2 k e)⟩⟩,fun k e=>hn k (q2.lt k e).2 (h3 k e)⟩,hn b hsz h.xnb,row_low h.row (hlow g (by have:=h.lt;omega)),h.lt,h.at_,h.len,h.cp,h.ends,h.tx⟩
theorem ArS.push {b g cap:Nat} {dv:Value} {ts:List Tok} {xb:Nat→Prop} {W0:World} {lb rb:Nat} {xs:Nat→Prop} {o:Option Addr} {c:Nat} {acc:List Int} {e:Int} {σ:RS} {W W1 W2:World} (h:ArS b g cap dv ts xb W0 lb rb xs o c acc σ W) (hb:b<W0.heap.size) (hlb:W0.heap.size≤lb) (hx0:∀k,xb k→k<W0.heap.size) (hrb:rb<W0.heap.size+1) (hrl:rb≠lb) (hrb2:rb≠b) (hB:Below W.heap.size W W1) (gg cc:Nat)
  (ho:W2.ownsRow W0.heap.size 3 1 (.slice (some ⟨gg,0,none⟩) (acc.length+1) cc) (acc.length+1) (acc.map intC++[intC e])) (hg:W1.grownBy W2 (Value.slice o acc.length c).ownBlock) (hn:some gg=(Value.slice o acc.length c).ownBlock∨gg=W1.heap.size) :
  ArI b g cap dv ts xb W0 lb rb (acc++[e]) σ (W2.setCell ⟨lb,0,none⟩ (.slice (some ⟨gg,0,none⟩) (acc.length+1) cc)):=by
 have hw0:W0.heap.size≤W.heap.size:=h.rx.size
 have hs1:=hB.size
 have hs2:=hg.size
 have hlw:=heap_lt h.lbx
 have hrw:=heap_lt h.bx
 have own_ge:∀k,(Value.slice o acc.length c).ownBlock=some k→W0.heap.size≤k∧∃cs,W.heap[k]?=some (.cells cs 3 (0,0)):=fun k hk=>own_type h.own hk
 have same:∀k,k<W.heap.size→(Value.slice o acc.length c).ownBlock≠some k→W2.heap[k]?=W.heap[k]?:=fun k hk hne=>(hg.block k (by omega) (fun e=>hne e.symm)).trans (hB.block k hk)
 have h2:Cd W2 b g cap dv ts (fun k=>xs k∨k=gg) σ:=by
  refine h.cd.off (by omega) (fun k hk=>same k (by omega) fun e=>by have:=(own_ge k e).1;omega) (fun k hk hx=>same k hk fun e=>hx (h.ox k e)) (fun k hk=>?_) (fun k hk=>?_)
  ·rcases hk with hk | rfl
   ·exact .inl hk
   ·rcases hn with hn | hn
    ·exact .inl (h.ox _ hn.symm)
    ·exact .inr (by omega)
  ·rcases hk with hk | rfl
   ·exact Nat.lt_of_lt_of_le (h.cd.xlt k hk) (by omega)
   ·exact(ho.lt _ rfl).2
 have hlb2:W2.heap[lb]?=some (.cells #[.slice o acc.length c] 44 (0,0)):=(same lb hlw fun e=>by
  obtain⟨_,cs,hc⟩:=own_ge lb e
  rw[h.lbx] at hc;cases hc).trans h.lbx
 have hrb3:W2.heap[rb]?=W.heap[rb]?:=same rb hrw fun e=>by
  obtain⟨_,cs,hc⟩:=own_ge rb e
  have hbx:=h.bx
  unfold BoxR at hbx
  rw[hbx] at hc;cases hc
 have hgl:gg≠lb:=fun e=>by
  obtain⟨_,cs,hc⟩:=own_type ho (k:=gg) rfl
  rw[e,hlb2] at hc;cases hc
 have hbut:But lb W2 (W2.setCell ⟨lb,0,none⟩ (.slice (some ⟨gg,0,none⟩) (acc.length+1) cc)):=(But.refl _ _).set 0 _
 have hlen:(acc++[e]).length=acc.length+1:=by simp
 have r2:RX b xb W0 W2:=by
  have r1:RX b xb W0 W1:=h.rx.trans (RX.of_below hB (by omega) fun k hk=>Nat.lt_of_lt_of_le (hx0 k hk) hw0)
  cases hk:(Value.slice o acc.length c).ownBlock with
  | none=>rw[hk] at hg;exact r1.trans (RX.of_below (below_grown hg) (by omega) fun k hk=>Nat.lt_of_lt_of_le (hx0 k hk) (by omega))
  | some k=>rw[hk] at hg;exact r1.but hx0 (own_ge k hk).1 (by have:=(own_ge k hk).1;omega) hb (but_grown hg)
 refine⟨fun k=>xs k∨k=gg,some ⟨gg,0,none⟩,cc,fun k hk=>.inl (h.xle k hk),h2.but hlb2 (by decide) (by decide) (by omega) hbut,r2.but hx0 hlb (by omega) hb hbut,?_,?_,?_,?_⟩
 ·unfold BoxR
  rw[Below.heap_setCell W2 ⟨lb,0,none⟩ _ rb hrl,hrb3];exact h.bx
 ·rw[set_blk hlb2,hlen];simp
 ·rw[hlen,List.map_append]
  exact rd_own_same ho fun k e=>by
   obtain rfl:gg=k:=by simpa [Value.ownBlock] using e
   exact Below.heap_setCell W2 ⟨lb,0,none⟩ _ gg hgl
 ·intro k e
  obtain rfl:gg=k:=by simpa [Value.ownBlock] using e
  exact .inr rfl
theorem ArS.lb2 {b g cap:Nat} {dv:Value} {ts:List Tok} {xb:Nat→Prop} {W0:World} {lb rb:Nat} {xs:Nat→Prop} {o:Option Addr} {c:Nat} {acc:List Int} {σ:RS} {W W1 W2:World} (h:ArS b g cap dv ts xb W0 lb rb xs o c acc σ W) (hB:Below W.heap.size W W1) (hg:W1.grownBy W2 (Value.slice o acc.length c).ownBlock):W2.heap[lb]?=some (.cells #[.slice o acc.length c] 44 (0,0)):=by
 have hlw:=heap_lt h.lbx
 refine((hg.block lb (by have:=hB.size;omega) (fun e=>?_)).trans (hB.block lb hlw)).trans h.lbx
 obtain⟨_,cs,hc⟩:=own_type h.own e.symm
 rw[h.lbx] at hc;cases hc
theorem cell_one1 {W:World} {k:Nat} {x:Value} {T:TypeId} (h:W.heap[k]?=some (.cells #[x] T (0,0))):W.cell? ⟨k,0,none⟩=some x∧W.frozen? ⟨k,0,none⟩=false:=⟨by simp[World.cell?,h],by simp[World.frozen?,h]⟩
theorem args1_any (b g cap:Nat) (dv:Value) (ts:List Tok) (xb:Nat→Prop) (f:Nat) (IE:∀xb,RuleC b g cap dv ts xb 26 f .expr) (W0:World) (lb rb:Nat) (hb:b<W0.heap.size) (hx0:∀k,xb k→k<W0.heap.size) (hlb:W0.heap.size≤lb) (hrb:rb<W0.heap.size+1) (hrl:rb≠lb) (hrb2:rb≠b)
  (acc acc':List Int) (σ σ':RS) (hc:σ.code=0) (h1:arOne ts f acc σ acc' σ') (W:World) (h:Hid (ArI b g cap dv ts xb W0 lb rb acc σ W)) :
  Calls prog 133 #[.pointer (some ⟨lb,0,none⟩),.pointer (some ⟨rb,0,none⟩)] W fun r Y=>LsRet b xb W0 (ArI b g cap dv ts xb W0 lb rb) acc' σ' r Y:=by
 obtain⟨e,l,hr,rfl,hlen⟩:=h1
 obtain⟨xs,o,c,hS⟩:=h.out
 have HS:=Hd hS
 have hbW:b<W.heap.size:=hS.cd.size
 obtain⟨l0,l1⟩:=cell_one1 hS.lbx
 have r0:=hS.bx.cell
 have hlb2:lb≠b:=by omega
 obtain⟨n,hn⟩:∃n,n=acc.length:=⟨_,rfl⟩
 rw[←hn] at l0
 have HN:=Hd hn
 have hn5:n≤50000:=by omega
 have HX:=Hd (show _∧_∧_∧_∧_∧_ from⟨hb,hx0,hlb,hrb,hrl,hrb2⟩)
 have HSD:Hid (ArS b g cap dv ts xb W0 lb rb xs o c acc σ W.drew):=Hd (hS.on hb hlb2 hrb2 (hS.cd.below (below_dr (qB _ _) 1)) (RX.of_below (below_dr (qB _ _) 1) (ql hbW) hS.cd.xlt))
 have C0:Hid (∀W,Hid (Cd W b g cap dv ts xs σ)→Calls prog 26 #[.pointer (some ⟨b,0,none⟩)] W fun r Y=>CdRet b g cap dv ts xs W (.int .i64 e) σ' r Y):=Hd fun W h=>IE xs σ e l σ' hc hr W h
 have HCD:Hid (Cd W.drew b g cap dv ts xs σ):=Hd HSD.out.cd
 have l0':W.drew.cell? ⟨lb,0,none⟩=some (.slice o n c):=l0
 have r0':W.drew.cell? ⟨rb,0,none⟩=some (.pointer (some ⟨b,0,none⟩)):=r0
 have mixed:prog.follows .mixedOrders=true:=by kernel_rfl
 have late:prog.follows .lateStores=true:=by kernel_rfl
 clear hr hc hS hn h hlen hx0 hrl hrb2 hrb
 by_cases hz:σ'.code=0
 ·have C1:Hid (∀W,Hid (Cd W b g cap dv ts xs σ)→Calls prog 26 #[.pointer (some ⟨b,0,none⟩)] W fun r Y=>CdOk b g cap dv ts xs W (.int .i64 e) σ' r Y):=Hd fun W h=>(C0.out W h).mono fun r Y hh=>hh.ok hz
  have HZ:=Hd hz
  clear C0 hz
  go_enter Tryz.func133,Tryz.ntmps133
  go_wp2_with fail
  refine wp_onlyN ?_
  go_region_law (first
   | (refine step_call1 _ (by rfl) 26 #[.pointer (some ⟨b,0,none⟩)] (by go_simp) _ (C1.out _ HCD) ?_;rintro e1 w1 ⟨rfl,hr1,hk1⟩;refine⟨_,rfl,?_⟩;have HS1:=Hd (HSD.out.on HX.out.1 hlb2 HX.out.2.2.2.2.2 hr1.out hk1.out);obtain⟨y0,y1⟩:=cell_one1 HS1.out.lbx;rw[←HN.out] at y0;have y2:∀oo,(w1.alloc oo).cell? ⟨lb,0,none⟩=some (.slice o n c):=fun oo=>cell_on ((qB _ _).alloc (qL _) oo) y0;have hw1:=HS1.out.rx.size)
   | (refine cstep_int _ (by rfl) (.tmp 2) (.tmp 5) (by rfl) W0.heap.size (.slice o n c) n (acc.map intC) (by rfl) (by have:=HS1.out.own;rw[←HN.out] at this;exact this.alloc _) w1.heap.size (.int .i64 e) (by rfl) (by exact new_cell1 _ _ _) (by rfl) (by omega) (by simp;omega) ?_;intro gg cc w2 ho hg hgn;have HO:=Hd ho;have HG:=Hd hg;have HGN:=Hd hgn;clear ho hg hgn;have HP:=Hd (HS1.out.push (e:=e) HX.out.1 HX.out.2.2.1 HX.out.2.1 HX.out.2.2.2.1 HX.out.2.2.2.2.1 HX.out.2.2.2.2.2 ((qB _ _).alloc (qL _) (.cells #[.int .i64 e] 3)) gg cc (by have:=HO.out;rw[HN.out] at this;exact this) (by have:=HG.out;rw[HN.out] at this;exact this) (by have:=HGN.out;rw[HN.out] at this;exact this));obtain⟨z8,z9⟩:=cell_one1 (HS1.out.lb2 ((qB _ _).alloc (qL _) (.cells #[.int .i64 e] 3)) (by have:=HG.out;rw[HN.out] at this;exact this));rw[←HN.out] at z8))
  all_goals (
   unfold onlyN
   go_end0
   exact .inl ⟨HZ.out,rfl,by rw[HN.out];exact HP.out⟩)
 ·have C1:Hid (∀W,Hid (Cd W b g cap dv ts xs σ)→Calls prog 26 #[.pointer (some ⟨b,0,none⟩)] W fun r Y=>CdBad b xs W σ'.code σ'.pos r Y):=Hd fun W h=>(C0.out W h).mono fun r Y hh=>hh.bad hz
  have HZ:=Hd hz
  clear C0 hz
  go_enter Tryz.func133,Tryz.ntmps133
  go_wp2_with fail
  go_region_with (go_at_call 26;(with_reducible refine(C1.out _ HCD).mono ?_);rintro e1 w1 ⟨rfl,hk1⟩;refine dummyAny prog w1 ⟨rfl,.inr ⟨HZ.out,rfl,HSD.out.rx.trans (hk1.out.less HSD.out.xle)⟩⟩ ?_)
  all_goals trivial
theorem args_LR {ts:List Tok} {f:Nat}:∀(n:Nat) (acc:List Int) (σ:RS) (R:Int×List Int×RS),n≤f+1→runE ts n (.args acc) σ=some R→∃m,LR (arOne ts f) ts m acc σ R.2.1 R.2.2:=by
 intro n
 induction n with
 | zero=>intro acc σ R _ h;cases h
 | succ n ih =>
  intro acc σ R hn h
  simp only[runE] at h
  split at h
  ·unfold argsG at h
   split at h
   ·rename_i hl
    split at h
    ·rename_i hi
     obtain⟨a,h1,h2⟩:=bind_some' h
     obtain⟨m,hm⟩:=ih (acc++[a.1]) a.2.2 R (by omega) h2
     exact⟨m+1,.more hi ⟨a.1,a.2.1,runE_le (by omega) _ _ _ h1,rfl,by omega⟩ hm⟩
    ·rename_i hi
     obtain rfl:=qI h
     exact⟨0,.stop (by simpa using hi)⟩
   ·cases h
  ·cases h
theorem arOne_stays {ts:List Tok} {f:Nat}:∀a σ a' σ',arOne ts f a σ a' σ'→Stays σ σ':=fun a σ a' σ' ⟨e,l,h,_⟩=>stuck ts f .expr σ _ h
def ArgsRet (b g cap:Nat) (dv:Value) (ts:List Tok) (xb:Nat→Prop) (W:World) (acc:List Int) (τ:RS) (r:Ending) (Y:World):Prop :=
 (τ.code=0∧∃o c,r=.returned (.slice o acc.length c)∧Hid (∃xs:Nat→Prop,(∀k,xb k→xs k)∧Cd Y b g cap dv ts xs τ)∧Hid (RX b xb W Y)∧Hid (Y.ownsRow W.heap.size 3 1 (.slice o acc.length c) acc.length (acc.map intC)))∨(τ.code≠0∧r=.panicked [{ v:=refusalV τ.code τ.pos,recovered:=false }]∧Hid (RX b xb W Y))
theorem enters_args1:∀args w,(callFunc 133 args).run prog w=.ok (.enter 133 args) w:=enters_of Tryz.func133 (by kernel_rfl) rfl
theorem args_none (b g cap:Nat) (dv:Value) (ts:List Tok) (xb:Nat→Prop) (y:RS) (hc:y.code=0) (hi:isS ts [41] y=true) (W:World) (h:Hid (Cd W b g cap dv ts xb y)) :
  Calls prog 131 #[.pointer (some ⟨b,0,none⟩)] W fun r Y=>ArgsRet b g cap dv ts xb W [] (stepS y) r Y:=by
 obtain⟨W1,hW1⟩:∃W1,W1=W.alloc (.cells #[.pointer (some ⟨b,0,none⟩)] 48):=⟨_,rfl⟩
 have hb1:Below W.heap.size W W1:=by rw[hW1];exact(qB _ _).alloc (qL _) _
 have H1:Hid (Cd W1 b g cap dv ts xb y):=Hd (h.out.below hb1)
 have T:=Hd (takes_any b g cap dv ts xb y [41] W1 H1 hc (by decide))
 have T2:Hid (Calls prog 62 #[.pointer (some ⟨b,0,none⟩),.string ⟨#[41]⟩] W1 fun r Y=>r=.returned (.bool true)∧Hid (Cd Y b g cap dv ts xb (stepS y))∧Hid (RX b xb W1 Y)):=Hd (T.out.mono fun r Y hh=>by unfold TakesRet tookS at hh;rw[hi] at hh;exact hh)
 have HB:=Hd (RX.of_below (xb:=xb) hb1 (ql h.out.size) h.out.xlt)
 have HC:=Hd hc
 clear T hb1 hi hc
 go_enter Tryz.func131,Tryz.ntmps131
 go_wp2_with (go_at_call 62;rw[←hW1];clear hW1;(with_reducible refine T2.out.mono ?_);rintro e w1 ⟨rfl,hr,hk⟩)
 go_ret
 exact .inl ⟨HC.out,none,0,rfl,Hd ⟨xb,fun _ h=>h,hr.out⟩,Hd (HB.out.trans hk.out),Hd (qO _ _ _ _)⟩
theorem args_some (b g cap:Nat) (dv:Value) (ts:List Tok) (xb:Nat→Prop) (f:Nat) (IE:∀xb,RuleC b g cap dv ts xb 26 f .expr) (y s1 s2:RS) (hc:y.code=0) (hi:isS ts [41] y=false) (e0 v:Int) (l0 acc:List Int) (r1:runE ts f .expr y=some (e0,l0,s1)) (r2:runE ts f (.args [e0]) s1=some (v,acc,s2)) (W:World) (h:Hid (Cd W b g cap dv ts xb y)) :
  Calls prog 131 #[.pointer (some ⟨b,0,none⟩)] W fun r Y=>ArgsRet b g cap dv ts xb W acc (wantS ts [41] s2) r Y:=by
 obtain⟨W1,hW1⟩:∃W1,W1=W.alloc (.cells #[.pointer (some ⟨b,0,none⟩)] 48):=⟨_,rfl⟩
 have hb1:Below W.heap.size W W1:=by rw[hW1];exact(qB _ _).alloc (qL _) _
 have H1:Hid (Cd W1 b g cap dv ts xb y):=Hd (h.out.below hb1)
 have T:=Hd (takes_any b g cap dv ts xb y [41] W1 H1 hc (by decide))
 have T2:Hid (Calls prog 62 #[.pointer (some ⟨b,0,none⟩),.string ⟨#[41]⟩] W1 fun r Y=>r=.returned (.bool false)∧Hid (Cd Y b g cap dv ts xb y)∧Hid (RX b xb W1 Y)):=Hd (T.out.mono fun r Y hh=>by unfold TakesRet tookS at hh;rw[hi] at hh;exact hh)
 have HB:=Hd (RX.of_below (xb:=xb) hb1 (ql h.out.size) h.out.xlt)
 have hbs:=h.out.size
 have HX0:=Hd h.out.xlt
 have HBX:Hid (BoxR W1 W.heap.size b):=Hd (by rw[hW1];exact boxR_new W b)
 have b1:=HBX.out.cell
 obtain⟨m,hm⟩:=args_LR f [e0] s1 (v,acc,s2) (Nat.le_succ _) r2
 have HL:Hid (∀lb,W.heap.size≤lb→W.heap.size≠lb→∀w,Hid (ArI b g cap dv ts xb W lb W.heap.size [] y w)→Calls prog 86 #[.pointer (some ⟨b,0,none⟩),.string ⟨#[41]⟩,.func (.func 133) #[] #[.pointer (some ⟨lb,0,none⟩),.pointer (some ⟨W.heap.size,0,none⟩)]] w fun r Y=>LsRet b xb W (ArI b g cap dv ts xb W lb W.heap.size) acc (wantS ts [41] s2) r Y):=Hd fun lb hl hne w hw =>
  list_any b g cap dv ts xb W _ (arOne ts f) (arI_in hbs (by omega) (by omega)) arOne_stays _ _ _ enters_args1 (fun a σ a' σ' hc h1 W' h'=>args1_any b g cap dv ts xb f IE W lb W.heap.size hbs HX0.out hl (by omega) hne (by omega) a a' σ σ' hc h1 W' h') [41] (by decide) [] [e0] acc y s1 s2 m hc ⟨e0,l0,r1,rfl,by simp⟩ hm w hw
 have MF:=runF
 clear T hb1 hi r1 r2 hm
 by_cases hz:(wantS ts [41] s2).code=0
 ·have HZ:=Hd hz
  clear hz hc
  go_enter Tryz.func131,Tryz.ntmps131
  go_wp2_with (first
   | (go_at_call 62;rw[←hW1];clear hW1;(with_reducible refine T2.out.mono ?_);rintro e w1 ⟨rfl,hr,hk⟩;have HK:=Hd (HB.out.trans hk.out);have HBw:=Hd (HBX.out.keep (by omega) hk.out);have bw:=HBw.out.cell;have hw1:=HK.out.size;have hw1b:=heap_lt HBw.out))
  have hb2:Below w1.heap.size w1 (w1.alloc (.cells #[.slice none 0 0] 44)):=(qB _ _).alloc (qL _) _
  have HI:Hid (ArI b g cap dv ts xb W w1.heap.size W.heap.size [] y (w1.alloc (.cells #[.slice none 0 0] 44))):=Hd ⟨xb,none,0,fun _ h=>h,hr.out.below hb2,HK.out.trans (RX.of_below hb2 (ql hr.out.size) hr.out.xlt),(hb2.block _ hw1b).trans HBw.out,heap_alloc_new w1 _,qO _ _ _ _,fun k e=>by cases e⟩
  refine(HL.out w1.heap.size hw1 (by omega) _ HI).mono ?_
  intro r Y hY
  rcases hY with ⟨_,rfl,xs,o,c,hS⟩ | ⟨hn,_⟩
  ·obtain⟨y0,y1⟩:=cell_one1 hS.lbx
   have HS:=Hd hS
   obtain⟨n,hn⟩:∃n,n=acc.length:=⟨_,rfl⟩
   rw[←hn] at y0
   have HN:=Hd hn
   clear hS hn hb2 HI
   dsimp only
   go_wp2_with fail
   go_ret
   exact .inl ⟨HZ.out,o,c,by rw[HN.out];rfl,Hd ⟨xs,HS.out.xle,HS.out.cd⟩,Hd HS.out.rx,Hd HS.out.own⟩
  ·exact absurd HZ.out hn
 ·have HZ:=Hd hz
  clear hz hc
  go_enter Tryz.func131,Tryz.ntmps131
  go_wp2_with (first
   | (go_at_call 62;rw[←hW1];clear hW1;(with_reducible refine T2.out.mono ?_);rintro e w1 ⟨rfl,hr,hk⟩;have HK:=Hd (HB.out.trans hk.out);have HBw:=Hd (HBX.out.keep (by omega) hk.out);have bw:=HBw.out.cell;have hw1:=HK.out.size;have hw1b:=heap_lt HBw.out))
  have hb2:Below w1.heap.size w1 (w1.alloc (.cells #[.slice none 0 0] 44)):=(qB _ _).alloc (qL _) _
  have HI:Hid (ArI b g cap dv ts xb W w1.heap.size W.heap.size [] y (w1.alloc (.cells #[.slice none 0 0] 44))):=Hd ⟨xb,none,0,fun _ h=>h,hr.out.below hb2,HK.out.trans (RX.of_below hb2 (ql hr.out.size) hr.out.xlt),(hb2.block _ hw1b).trans HBw.out,heap_alloc_new w1 _,qO _ _ _ _,fun k e=>by cases e⟩
  refine(HL.out w1.heap.size hw1 (by omega) _ HI).mono ?_
  intro r Y hY
  rcases hY with ⟨hn,_⟩ | ⟨_,rfl,hY⟩
  ·exact absurd hn HZ.out
  ·exact⟨rfl,.inr ⟨HZ.out,rfl,Hd hY⟩⟩
theorem named_plain (b g cap:Nat) (dv:Value) (ts:List Tok) (xb:Nat→Prop) (σ:RS) (hc:σ.code=0) (hk:(tokL ts σ.at_).kind=1) (ok:okS (stepS σ)=true) (h40:isS ts [40] (stepS σ)=false) (his:isS ts [105,115] (stepS σ)=false) (W:World) (h:Hid (Cd W b g cap dv ts xb σ)) :
  Calls prog 129 #[.pointer (some ⟨b,0,none⟩)] W fun r Y=>CdRet b g cap dv ts xb W (.int .i64 (σ.exprs.length:Int)) (putS { ex0 with kind:=3,name:=str (tokL ts σ.at_).text,pos:=((tokL ts σ.at_).at_:Int) } (stepS σ)) r Y:=by
 obtain⟨o,c,⟨c0,c1,c2,c3,fr⟩,hx⟩:=h.out.cells
 obtain⟨t0,t1,t2,t3⟩:=h.out.tok
 have hl:=h.out.at_
 have hbs:=h.out.size
 have hgs:g<W.heap.size:=by have:=h.out.lt;omega
 obtain⟨P,hP⟩:∃P,P=(tokL ts σ.at_).at_:=⟨_,rfl⟩
 obtain⟨m,hmm⟩:∃m,m=ts.length - σ.at_:=⟨_,rfl⟩
 obtain⟨a4,haa⟩:∃a4,a4=σ.at_*4:=⟨_,rfl⟩
 rw[←hmm,←haa] at c0
 rw[←hP,←haa] at t3
 rw[←hP]
 have k0:(0:Int)<(m:Int):=by omega
 obtain⟨xb',hxb'⟩:∃xb',xb'=xbA xb W.heap.size:=⟨_,rfl⟩
 obtain⟨W1,hW1⟩:∃W1,W1=W.alloc (.cells #[.int .i64 3,.int .i64 0,.int .i64 0,.int .i64 0,.string ⟨#[]⟩,.string ⟨#[]⟩,.int .i64 0,.slice none 0 0,.int .i64 (P:Int)] 46):=⟨_,rfl⟩
 have H1:Hid (Cd W1 b g cap dv ts xb' σ):=Hd (by rw[hW1,hxb'];exact h.out.newX _)
 have HA:Hid (W1.heap[W.heap.size]?=some (.cells #[.int .i64 3,.int .i64 0,.int .i64 0,.int .i64 0,.string ⟨#[]⟩,.string ⟨#[]⟩,.int .i64 0,.slice none 0 0,.int .i64 (P:Int)] 46 (0,0))):=Hd (by rw[hW1];exact heap_alloc_new W _)
 have HB1:Hid (RX b xb W W1):=Hd (RX.of_below (by rw[hW1];exact(qB _ _).alloc (qL _) _) (ql hbs) h.out.xlt)
 have HXA:Hid (xb' W.heap.size∧∀k,xb k→xb' k):=Hd (by rw[hxb'];exact⟨.inr rfl,xbA_le xb _⟩)
 have hnb:nameB ts σ=true:=by unfold nameB;rw[qT hc,qT hk];rfl
 have en:nameS ts σ=stepS σ:=by unfold nameS;rw[if_pos hnb]
 have ev:nameV ts σ=(tokL ts σ.at_).text:=by unfold nameV;rw[if_pos hnb]
 obtain⟨X,hX⟩:∃X,X=str (tokL ts σ.at_).text:=⟨_,rfl⟩
 rw[←hX]
 have NM:Hid (Calls prog 63 #[.pointer (some ⟨b,0,none⟩)] W1 fun r Y=>CdOk b g cap dv ts xb' W1 (.string X) (stepS σ) r Y):=Hd ((cname_any b g cap dv ts xb' σ W1 H1 hc).mono fun r Y hh=>by rw[en,ev,←hX] at hh;exact hh.ok hc)
 have TK:Hid (∀w,Hid (Cd w b g cap dv ts xb' (stepS σ))→Calls prog 62 #[.pointer (some ⟨b,0,none⟩),.string ⟨#[40]⟩] w fun r Y=>r=.returned (.bool false)∧Hid (Cd Y b g cap dv ts xb' (stepS σ))∧Hid (RX b xb' w Y)):=Hd fun w hw=>(takes_any b g cap dv ts xb' (stepS σ) [40] w hw hc (by decide)).mono fun r Y hh=>by unfold TakesRet tookS at hh;rw[h40] at hh;exact hh
 have TI:Hid (∀w,Hid (Cd w b g cap dv ts xb' (stepS σ))→Calls prog 62 #[.pointer (some ⟨b,0,none⟩),.string ⟨#[105,115]⟩] w fun r Y=>r=.returned (.bool false)∧Hid (Cd Y b g cap dv ts xb' (stepS σ))∧Hid (RX b xb' w Y)):=Hd fun w hw=>(takes_any b g cap dv ts xb' (stepS σ) [105,115] w hw hc (by decide)).mono fun r Y hh=>by unfold TakesRet tookS at hh;rw[his] at hh;exact hh
 have PU:Hid (∀W,Hid (Cd W b g cap dv ts xb (stepS σ))→Calls prog 75 #[.pointer (some ⟨b,0,none⟩),.agg #[.int .i64 3,.int .i64 0,.int .i64 0,.int .i64 0,.string X,.string ⟨#[]⟩,.int .i64 0,.slice none 0 0,.int .i64 (P:Int)]] W fun r Y=>CdOk b g cap dv ts xb W (.int .i64 (σ.exprs.length:Int)) (putS { ex0 with kind:=3,name:=X,pos:=(P:Int) } (stepS σ)) r Y):=Hd fun W h =>
  (cput_any b g cap dv ts xb (stepS σ) { ex0 with kind:=3,name:=X,pos:=(P:Int) } none 0 0 W h hc (okS_iff.1 ok).1 (Hd (qO _ _ _ _)) (Hd fun k hk=>by cases hk)).mono fun r Y hh=>hh.ok hc
 have HC:=Hd hc
 clear hmm haa t0 t1 t2 hl hx c1 c2 c3 fr hxb' hP hX hk hnb en ev h40 his ok hc
 go_enter Tryz.func129,Tryz.ntmps129
 go_wp2_with (first
  | (go_at_call 63;rw[←hW1];clear hW1;(with_reducible refine NM.out.mono ?_);rintro e w2 ⟨rfl,hr2,hk2⟩;have HA2:=Hd ((hk2.out.xs _ HXA.out.1).trans HA.out);obtain⟨⟨y0,y1,y2,y3,y4,y5,y6,y7,y8⟩,yf⟩:=nine_of HA2.out;have f4:=yf 4;clear yf;have HR3:=Hd (hr2.out.butX HXA.out.1 hbs ((But.refl _ _).set 4 (.string X)));have HA3:=Hd (set_blk HA2.out 4 (.string X)))
  | (go_at_call 62;(with_reducible refine(TK.out _ HR3).mono ?_);rintro e w4 ⟨rfl,hr4,hk4⟩;have HA4:=Hd ((hk4.out.xs _ HXA.out.1).trans HA3.out))
  | (go_at_call 62;(with_reducible refine(TI.out _ hr4).mono ?_);rintro e w5 ⟨rfl,hr5,hk5⟩;have HA5:=Hd ((hk5.out.xs _ HXA.out.1).trans HA4.out);obtain⟨⟨z0,z1,z2,z3,z4,z5,z6,z7,z8⟩,zf⟩:=nine_of (show w5.heap[W.heap.size]?=some (.cells #[.int .i64 3,.int .i64 0,.int .i64 0,.int .i64 0,.string X,.string ⟨#[]⟩,.int .i64 0,.slice none 0 0,.int .i64 (P:Int)] 46 (0,0)) by simpa using HA5.out);clear zf)
  | (go_at_call 75;(with_reducible refine(PU.out _ (Hd (hr5.out.less HXA.out.2))).mono ?_);rintro e w6 ⟨rfl,hr6,hk6⟩))
 go_ret
 have K3:RX b xb W (w2.setCell ⟨W.heap.size,4,none⟩ (.string X)):=(HB1.out.trans (hk2.out.less HXA.out.2)).but h.out.xlt (qL _) hbs hbs ((But.refl _ _).set 4 _)
 exact⟨K3.trans (((hk4.out.trans hk5.out).less HXA.out.2).trans hk6.out),.inl ⟨HC.out,rfl,hr6.out⟩⟩
theorem named_is (b g cap:Nat) (dv:Value) (ts:List Tok) (xb:Nat→Prop) (σ:RS) (hc:σ.code=0) (hk:(tokL ts σ.at_).kind=1) (ok:okS (nameS ts (stepS (stepS σ)))=true) (h40:isS ts [40] (stepS σ)=false) (his:isS ts [105,115] (stepS σ)=true) (W:World) (h:Hid (Cd W b g cap dv ts xb σ)) :
  Calls prog 129 #[.pointer (some ⟨b,0,none⟩)] W fun r Y=>CdRet b g cap dv ts xb W (.int .i64 ((nameS ts (stepS (stepS σ))).exprs.length:Int)) (putS { ex0 with kind:=20,name:=str (tokL ts σ.at_).text,state:=str (nameV ts (stepS (stepS σ))),pos:=((tokL ts σ.at_).at_:Int) } (nameS ts (stepS (stepS σ)))) r Y:=by
 obtain⟨o,c,⟨c0,c1,c2,c3,fr⟩,hx⟩:=h.out.cells
 obtain⟨t0,t1,t2,t3⟩:=h.out.tok
 have hl:=h.out.at_
 have hbs:=h.out.size
 have hgs:g<W.heap.size:=by have:=h.out.lt;omega
 obtain⟨P,hP⟩:∃P,P=(tokL ts σ.at_).at_:=⟨_,rfl⟩
 obtain⟨m,hmm⟩:∃m,m=ts.length - σ.at_:=⟨_,rfl⟩
 obtain⟨a4,haa⟩:∃a4,a4=σ.at_*4:=⟨_,rfl⟩
 rw[←hmm,←haa] at c0
 rw[←hP,←haa] at t3
 rw[←hP]
 have k0:(0:Int)<(m:Int):=by omega
 obtain⟨xb',hxb'⟩:∃xb',xb'=xbA xb W.heap.size:=⟨_,rfl⟩
 obtain⟨W1,hW1⟩:∃W1,W1=W.alloc (.cells #[.int .i64 3,.int .i64 0,.int .i64 0,.int .i64 0,.string ⟨#[]⟩,.string ⟨#[]⟩,.int .i64 0,.slice none 0 0,.int .i64 (P:Int)] 46):=⟨_,rfl⟩
 have H1:Hid (Cd W1 b g cap dv ts xb' σ):=Hd (by rw[hW1,hxb'];exact h.out.newX _)
 have HA:Hid (W1.heap[W.heap.size]?=some (.cells #[.int .i64 3,.int .i64 0,.int .i64 0,.int .i64 0,.string ⟨#[]⟩,.string ⟨#[]⟩,.int .i64 0,.slice none 0 0,.int .i64 (P:Int)] 46 (0,0))):=Hd (by rw[hW1];exact heap_alloc_new W _)
 have HB1:Hid (RX b xb W W1):=Hd (RX.of_below (by rw[hW1];exact(qB _ _).alloc (qL _) _) (ql hbs) h.out.xlt)
 have HXA:Hid (xb' W.heap.size∧∀k,xb k→xb' k):=Hd (by rw[hxb'];exact⟨.inr rfl,xbA_le xb _⟩)
 have hnb:nameB ts σ=true:=by unfold nameB;rw[qT hc,qT hk];rfl
 have en:nameS ts σ=stepS σ:=by unfold nameS;rw[if_pos hnb]
 have ev:nameV ts σ=(tokL ts σ.at_).text:=by unfold nameV;rw[if_pos hnb]
 obtain⟨X,hX⟩:∃X,X=str (tokL ts σ.at_).text:=⟨_,rfl⟩
 rw[←hX]
 have NM:Hid (Calls prog 63 #[.pointer (some ⟨b,0,none⟩)] W1 fun r Y=>CdOk b g cap dv ts xb' W1 (.string X) (stepS σ) r Y):=Hd ((cname_any b g cap dv ts xb' σ W1 H1 hc).mono fun r Y hh=>by rw[en,ev,←hX] at hh;exact hh.ok hc)
 have TK:Hid (∀w,Hid (Cd w b g cap dv ts xb' (stepS σ))→Calls prog 62 #[.pointer (some ⟨b,0,none⟩),.string ⟨#[40]⟩] w fun r Y=>r=.returned (.bool false)∧Hid (Cd Y b g cap dv ts xb' (stepS σ))∧Hid (RX b xb' w Y)):=Hd fun w hw=>(takes_any b g cap dv ts xb' (stepS σ) [40] w hw hc (by decide)).mono fun r Y hh=>by unfold TakesRet tookS at hh;rw[h40] at hh;exact hh
 have TI:Hid (∀w,Hid (Cd w b g cap dv ts xb' (stepS σ))→Calls prog 62 #[.pointer (some ⟨b,0,none⟩),.string ⟨#[105,115]⟩] w fun r Y=>r=.returned (.bool true)∧Hid (Cd Y b g cap dv ts xb' (stepS (stepS σ)))∧Hid (RX b xb' w Y)):=Hd fun w hw=>(takes_any b g cap dv ts xb' (stepS σ) [105,115] w hw hc (by decide)).mono fun r Y hh=>by unfold TakesRet tookS at hh;rw[his] at hh;exact hh
 obtain⟨y,hy⟩:∃y,y=nameS ts (stepS (stepS σ)):=⟨_,rfl⟩
 obtain⟨S,hS⟩:∃S,S=str (nameV ts (stepS (stepS σ))):=⟨_,rfl⟩
 rw[←hy] at ok ⊢
 rw[←hS]
 have N2:Hid (∀w,Hid (Cd w b g cap dv ts xb' (stepS (stepS σ)))→Calls prog 63 #[.pointer (some ⟨b,0,none⟩)] w fun r Y=>CdRet b g cap dv ts xb' w (.string S) y r Y):=Hd fun w hw=>by
  have:=cname_any b g cap dv ts xb' (stepS (stepS σ)) w hw hc
  rw[←hy,←hS] at this
  exact this
 have HC:=Hd hc
 clear hmm haa t0 t1 t2 hl hx c1 c2 c3 fr hxb' hP hX hk hnb en ev h40 his hc hy hS
 by_cases hz:y.code=0
 ·have M2:Hid (∀w,Hid (Cd w b g cap dv ts xb' (stepS (stepS σ)))→Calls prog 63 #[.pointer (some ⟨b,0,none⟩)] w fun r Y=>CdOk b g cap dv ts xb' w (.string S) y r Y):=Hd fun w hw=>(N2.out w hw).mono fun r Y hh=>hh.ok hz
  have PU:Hid (∀W,Hid (Cd W b g cap dv ts xb y)→Calls prog 75 #[.pointer (some ⟨b,0,none⟩),.agg #[.int .i64 20,.int .i64 0,.int .i64 0,.int .i64 0,.string X,.string S,.int .i64 0,.slice none 0 0,.int .i64 (P:Int)]] W fun r Y=>CdOk b g cap dv ts xb W (.int .i64 (y.exprs.length:Int)) (putS { ex0 with kind:=20,name:=X,state:=S,pos:=(P:Int) } y) r Y):=Hd fun W h =>
   (cput_any b g cap dv ts xb y { ex0 with kind:=20,name:=X,state:=S,pos:=(P:Int) } none 0 0 W h hz (okS_iff.1 ok).1 (Hd (qO _ _ _ _)) (Hd fun k hk=>by cases hk)).mono fun r Y hh=>hh.ok hz
  have HZ:=Hd hz
  clear N2 hz
  go_enter Tryz.func129,Tryz.ntmps129
  go_wp2_with (first
   | (go_at_call 63;rw[←hW1];clear hW1;(with_reducible refine NM.out.mono ?_);rintro e w2 ⟨rfl,hr2,hk2⟩;have HA2:=Hd ((hk2.out.xs _ HXA.out.1).trans HA.out);obtain⟨⟨y0,y1,y2,y3,y4,y5,y6,y7,y8⟩,yf⟩:=nine_of HA2.out;have f4:=yf 4;clear yf;have HR3:=Hd (hr2.out.butX HXA.out.1 hbs ((But.refl _ _).set 4 (.string X)));have HA3:=Hd (set_blk HA2.out 4 (.string X)))
   | (go_at_call 62;(with_reducible refine(TK.out _ HR3).mono ?_);rintro e w4 ⟨rfl,hr4,hk4⟩;have HA4:=Hd ((hk4.out.xs _ HXA.out.1).trans HA3.out))
   | (go_at_call 62;(with_reducible refine(TI.out _ hr4).mono ?_);rintro e w5 ⟨rfl,hr5,hk5⟩;have HA5:=Hd (show w5.heap[W.heap.size]?=some (.cells #[.int .i64 3,.int .i64 0,.int .i64 0,.int .i64 0,.string X,.string ⟨#[]⟩,.int .i64 0,.slice none 0 0,.int .i64 (P:Int)] 46 (0,0)) by simpa using (hk5.out.xs _ HXA.out.1).trans HA4.out);obtain⟨⟨z0,z1,z2,z3,z4,z5,z6,z7,z8⟩,zf⟩:=nine_of HA5.out;have f0:=zf 0;clear zf;have HR5:=Hd (hr5.out.butX HXA.out.1 hbs ((But.refl _ _).set 0 (.int .i64 20)));have HA6:=Hd (set_blk HA5.out 0 (.int .i64 20)))
   | (go_at_call 63;(with_reducible refine(M2.out _ HR5).mono ?_);rintro e w6 ⟨rfl,hr6,hk6⟩;have HA7:=Hd (show w6.heap[W.heap.size]?=some (.cells #[.int .i64 20,.int .i64 0,.int .i64 0,.int .i64 0,.string X,.string ⟨#[]⟩,.int .i64 0,.slice none 0 0,.int .i64 (P:Int)] 46 (0,0)) by simpa using (hk6.out.xs _ HXA.out.1).trans HA6.out);obtain⟨⟨v0,v1,v2,v3,v4,v5,v6,v7,v8⟩,vf⟩:=nine_of HA7.out;have g5:=vf 5;clear vf;have HR7:=Hd ((hr6.out.butX HXA.out.1 hbs ((But.refl _ _).set 5 (.string S))).less HXA.out.2))
   | (go_at_call 75;(with_reducible refine(PU.out _ HR7).mono ?_);rintro e w8 ⟨rfl,hr8,hk8⟩))
  go_ret
  have K3:RX b xb W (w2.setCell ⟨W.heap.size,4,none⟩ (.string X)):=(HB1.out.trans (hk2.out.less HXA.out.2)).but h.out.xlt (qL _) hbs hbs ((But.refl _ _).set 4 _)
  have K5:=(K3.trans ((hk4.out.trans hk5.out).less HXA.out.2)).but h.out.xlt (qL _) hbs hbs ((But.refl W.heap.size w5).set 0 (.int .i64 20))
  have K7:=(K5.trans (hk6.out.less HXA.out.2)).but h.out.xlt (qL _) hbs hbs ((But.refl W.heap.size w6).set 5 (.string S))
  exact⟨K7.trans hk8.out,.inl ⟨HZ.out,rfl,hr8.out⟩⟩
 ·have M2:Hid (∀w,Hid (Cd w b g cap dv ts xb' (stepS (stepS σ)))→Calls prog 63 #[.pointer (some ⟨b,0,none⟩)] w fun r Y=>CdBad b xb' w y.code y.pos r Y):=Hd fun w hw=>(N2.out w hw).mono fun r Y hh=>hh.bad hz
  have HZ:=Hd hz
  clear N2 hz
  go_enter Tryz.func129,Tryz.ntmps129
  go_wp2_with (first
   | (go_at_call 63;rw[←hW1];clear hW1;(with_reducible refine NM.out.mono ?_);rintro e w2 ⟨rfl,hr2,hk2⟩;have HA2:=Hd ((hk2.out.xs _ HXA.out.1).trans HA.out);obtain⟨⟨y0,y1,y2,y3,y4,y5,y6,y7,y8⟩,yf⟩:=nine_of HA2.out;have f4:=yf 4;clear yf;have HR3:=Hd (hr2.out.butX HXA.out.1 hbs ((But.refl _ _).set 4 (.string X)));have HA3:=Hd (set_blk HA2.out 4 (.string X)))
   | (go_at_call 62;(with_reducible refine(TK.out _ HR3).mono ?_);rintro e w4 ⟨rfl,hr4,hk4⟩;have HA4:=Hd ((hk4.out.xs _ HXA.out.1).trans HA3.out))
   | (go_at_call 62;(with_reducible refine(TI.out _ hr4).mono ?_);rintro e w5 ⟨rfl,hr5,hk5⟩;have HA5:=Hd (show w5.heap[W.heap.size]?=some (.cells #[.int .i64 3,.int .i64 0,.int .i64 0,.int .i64 0,.string X,.string ⟨#[]⟩,.int .i64 0,.slice none 0 0,.int .i64 (P:Int)] 46 (0,0)) by simpa using (hk5.out.xs _ HXA.out.1).trans HA4.out);obtain⟨⟨z0,z1,z2,z3,z4,z5,z6,z7,z8⟩,zf⟩:=nine_of HA5.out;have f0:=zf 0;clear zf;have HR5:=Hd (hr5.out.butX HXA.out.1 hbs ((But.refl _ _).set 0 (.int .i64 20)));have HA6:=Hd (set_blk HA5.out 0 (.int .i64 20)))
   | (go_at_call 63;(with_reducible refine(M2.out _ HR5).mono ?_);rintro e w6 ⟨rfl,hk6⟩))
  have K3:RX b xb W (w2.setCell ⟨W.heap.size,4,none⟩ (.string X)):=(HB1.out.trans (hk2.out.less HXA.out.2)).but h.out.xlt (qL _) hbs hbs ((But.refl _ _).set 4 _)
  have K5:=(K3.trans ((hk4.out.trans hk5.out).less HXA.out.2)).but h.out.xlt (qL _) hbs hbs ((But.refl W.heap.size w5).set 0 (.int .i64 20))
  exact⟨rfl,K5.trans (hk6.out.less HXA.out.2),.inr ⟨HZ.out,rfl⟩⟩
theorem named_call (b g cap:Nat) (dv:Value) (ts:List Tok) (xb:Nat→Prop) (σ:RS) (hc:σ.code=0) (hk:(tokL ts σ.at_).kind=1) (τ:RS) (acc:List Int) (ok:okS τ=true) (h40:isS ts [40] (stepS σ)=true) (AR:∀xb w,Hid (Cd w b g cap dv ts xb (stepS (stepS σ)))→Calls prog 131 #[.pointer (some ⟨b,0,none⟩)] w fun r Y=>ArgsRet b g cap dv ts xb w acc τ r Y) (W:World) (h:Hid (Cd W b g cap dv ts xb σ)) :
  Calls prog 129 #[.pointer (some ⟨b,0,none⟩)] W fun r Y=>CdRet b g cap dv ts xb W (.int .i64 (τ.exprs.length:Int)) (putS { ex0 with kind:=19,name:=str (tokL ts σ.at_).text,args:=acc,pos:=((tokL ts σ.at_).at_:Int) } τ) r Y:=by
 obtain⟨o,c,⟨c0,c1,c2,c3,fr⟩,hx⟩:=h.out.cells
 obtain⟨t0,t1,t2,t3⟩:=h.out.tok
 have hl:=h.out.at_
 have hbs:=h.out.size
 have hgs:g<W.heap.size:=by have:=h.out.lt;omega
 obtain⟨P,hP⟩:∃P,P=(tokL ts σ.at_).at_:=⟨_,rfl⟩
 obtain⟨m,hmm⟩:∃m,m=ts.length - σ.at_:=⟨_,rfl⟩
 obtain⟨a4,haa⟩:∃a4,a4=σ.at_*4:=⟨_,rfl⟩
 rw[←hmm,←haa] at c0
 rw[←hP,←haa] at t3
 rw[←hP]
 have k0:(0:Int)<(m:Int):=by omega
 obtain⟨xb',hxb'⟩:∃xb',xb'=xbA xb W.heap.size:=⟨_,rfl⟩
 obtain⟨W1,hW1⟩:∃W1,W1=W.alloc (.cells #[.int .i64 3,.int .i64 0,.int .i64 0,.int .i64 0,.string ⟨#[]⟩,.string ⟨#[]⟩,.int .i64 0,.slice none 0 0,.int .i64 (P:Int)] 46):=⟨_,rfl⟩
 have H1:Hid (Cd W1 b g cap dv ts xb' σ):=Hd (by rw[hW1,hxb'];exact h.out.newX _)
 have HA:Hid (W1.heap[W.heap.size]?=some (.cells #[.int .i64 3,.int .i64 0,.int .i64 0,.int .i64 0,.string ⟨#[]⟩,.string ⟨#[]⟩,.int .i64 0,.slice none 0 0,.int .i64 (P:Int)] 46 (0,0))):=Hd (by rw[hW1];exact heap_alloc_new W _)
 have HB1:Hid (RX b xb W W1):=Hd (RX.of_below (by rw[hW1];exact(qB _ _).alloc (qL _) _) (ql hbs) h.out.xlt)
 have HXA:Hid (xb' W.heap.size∧∀k,xb k→xb' k):=Hd (by rw[hxb'];exact⟨.inr rfl,xbA_le xb _⟩)
 have hnb:nameB ts σ=true:=by unfold nameB;rw[qT hc,qT hk];rfl
 have en:nameS ts σ=stepS σ:=by unfold nameS;rw[if_pos hnb]
 have ev:nameV ts σ=(tokL ts σ.at_).text:=by unfold nameV;rw[if_pos hnb]
 obtain⟨X,hX⟩:∃X,X=str (tokL ts σ.at_).text:=⟨_,rfl⟩
 rw[←hX]
 have NM:Hid (Calls prog 63 #[.pointer (some ⟨b,0,none⟩)] W1 fun r Y=>CdOk b g cap dv ts xb' W1 (.string X) (stepS σ) r Y):=Hd ((cname_any b g cap dv ts xb' σ W1 H1 hc).mono fun r Y hh=>by rw[en,ev,←hX] at hh;exact hh.ok hc)
 have TK:Hid (∀w,Hid (Cd w b g cap dv ts xb' (stepS σ))→Calls prog 62 #[.pointer (some ⟨b,0,none⟩),.string ⟨#[40]⟩] w fun r Y=>r=.returned (.bool true)∧Hid (Cd Y b g cap dv ts xb' (stepS (stepS σ)))∧Hid (RX b xb' w Y)):=Hd fun w hw=>(takes_any b g cap dv ts xb' (stepS σ) [40] w hw hc (by decide)).mono fun r Y hh=>by unfold TakesRet tookS at hh;rw[h40] at hh;exact hh
 have HAR:=Hd (AR xb')
 have HX0:=Hd h.out.xlt
 obtain⟨n,hn⟩:∃n,n=acc.length:=⟨_,rfl⟩
 have HN:=Hd hn
 have HC:=Hd hc
 clear hmm haa t0 t1 t2 hl hx c1 c2 c3 fr hxb' hP hX hk hnb en ev h40 hc hn AR
 by_cases hz:τ.code=0
 ·have A2:Hid (∀w,Hid (Cd w b g cap dv ts xb' (stepS (stepS σ)))→Calls prog 131 #[.pointer (some ⟨b,0,none⟩)] w fun r Y=>∃o c,r=.returned (.slice o n c)∧Hid (∃xs:Nat→Prop,(∀k,xb' k→xs k)∧Cd Y b g cap dv ts xs τ)∧Hid (RX b xb' w Y)∧Hid (Y.ownsRow w.heap.size 3 1 (.slice o n c) acc.length (acc.map intC))):=Hd fun w hw=>(HAR.out w hw).mono fun r Y hh=>by
   rcases hh with ⟨_,o,c,h1,h2,h3,h4⟩ | ⟨h1,_⟩
   ·exact⟨o,c,by rw[HN.out];exact h1,h2,h3,Hd (by rw[HN.out];exact h4.out)⟩
   ·exact absurd hz h1
  have PU:Hid (∀W o c,Hid (Cd W b g cap dv ts xb τ)→Hid (W.ownsRow (b+1) 3 1 (.slice o n c) acc.length (acc.map intC))→Hid (∀k,(Value.slice o n c).ownBlock=some k→¬xb k)→Calls prog 75 #[.pointer (some ⟨b,0,none⟩),.agg #[.int .i64 19,.int .i64 0,.int .i64 0,.int .i64 0,.string X,.string ⟨#[]⟩,.int .i64 0,.slice o n c,.int .i64 (P:Int)]] W fun r Y=>CdOk b g cap dv ts xb W (.int .i64 (τ.exprs.length:Int)) (putS { ex0 with kind:=19,name:=X,args:=acc,pos:=(P:Int) } τ) r Y):=Hd fun W o c h h1 h2 =>
   (cput_any b g cap dv ts xb τ { ex0 with kind:=19,name:=X,args:=acc,pos:=(P:Int) } o n c W h hz (okS_iff.1 ok).1 h1 h2).mono fun r Y hh=>hh.ok hz
  have HZ:=Hd hz
  clear HAR hz
  go_enter Tryz.func129,Tryz.ntmps129
  go_wp2_with (first
   | (go_at_call 63;rw[←hW1];clear hW1;(with_reducible refine NM.out.mono ?_);rintro e w2 ⟨rfl,hr2,hk2⟩;have HA2:=Hd ((hk2.out.xs _ HXA.out.1).trans HA.out);obtain⟨⟨y0,y1,y2,y3,y4,y5,y6,y7,y8⟩,yf⟩:=nine_of HA2.out;have f4:=yf 4;clear yf;have HR3:=Hd (hr2.out.butX HXA.out.1 hbs ((But.refl _ _).set 4 (.string X)));have HA3:=Hd (set_blk HA2.out 4 (.string X)))
   | (go_at_call 62;(with_reducible refine(TK.out _ HR3).mono ?_);rintro e w5 ⟨rfl,hr5,hk5⟩;have HA5:=Hd (show w5.heap[W.heap.size]?=some (.cells #[.int .i64 3,.int .i64 0,.int .i64 0,.int .i64 0,.string X,.string ⟨#[]⟩,.int .i64 0,.slice none 0 0,.int .i64 (P:Int)] 46 (0,0)) by simpa using (hk5.out.xs _ HXA.out.1).trans HA3.out);obtain⟨⟨z0,z1,z2,z3,z4,z5,z6,z7,z8⟩,zf⟩:=nine_of HA5.out;have f0:=zf 0;clear zf;have HR5:=Hd (hr5.out.butX HXA.out.1 hbs ((But.refl _ _).set 0 (.int .i64 19)));have HA6:=Hd (set_blk HA5.out 0 (.int .i64 19)))
   | (go_at_call 131;(with_reducible refine(A2.out _ HR5).mono ?_);rintro e w6 ⟨oo,cc,rfl,hxs6,hk6,ho6⟩;have HA7:=Hd (show w6.heap[W.heap.size]?=some (.cells #[.int .i64 19,.int .i64 0,.int .i64 0,.int .i64 0,.string X,.string ⟨#[]⟩,.int .i64 0,.slice none 0 0,.int .i64 (P:Int)] 46 (0,0)) by simpa using (hk6.out.xs _ HXA.out.1).trans HA6.out);obtain⟨⟨v0,v1,v2,v3,v4,v5,v6,v7,v8⟩,vf⟩:=nine_of HA7.out;have g7:=vf 7;clear vf))
  have K3:RX b xb W (w2.setCell ⟨W.heap.size,4,none⟩ (.string X)):=(HB1.out.trans (hk2.out.less HXA.out.2)).but h.out.xlt (qL _) hbs hbs ((But.refl _ _).set 4 _)
  have K5:=(K3.trans (hk5.out.less HXA.out.2)).but h.out.xlt (qL _) hbs hbs ((But.refl W.heap.size w5).set 0 (.int .i64 19))
  have hsz:W.heap.size<w6.heap.size:=heap_lt HA7.out
  have hsz5:W.heap.size<w5.heap.size:=heap_lt HA5.out
  have K7:=(K5.trans (hk6.out.less HXA.out.2)).but h.out.xlt (qL _) hbs hbs ((But.refl W.heap.size w6).set 7 (.slice oo n cc))
  obtain⟨W7,hW7⟩:∃W7,W7=w6.setCell ⟨W.heap.size,7,none⟩ (.slice oo n cc):=⟨_,rfl⟩
  have HR7:Hid (Cd W7 b g cap dv ts xb τ):=Hd (by
   obtain⟨xs,hx1,hx2⟩:=hxs6.out
   rw[hW7]
   exact(hx2.butX (hx1 _ HXA.out.1) hbs ((But.refl _ _).set 7 _)).less fun k hk=>hx1 k (HXA.out.2 k hk))
  have own_ge:∀k,(Value.slice oo n cc).ownBlock=some k→w5.heap.size≤k:=fun k hk=>by have:=(ho6.out.lt k hk).1;simpa using this
  have HO7:Hid (W7.ownsRow (b+1) 3 1 (.slice oo n cc) acc.length (acc.map intC)):=Hd (by
   rw[hW7]
   exact own_base (rd_own_same ho6.out fun k e=>Below.heap_setCell w6 ⟨W.heap.size,7,none⟩ _ k (by have:=own_ge k e;intro e2;have:k=W.heap.size:=e2;omega)) (by simp;omega))
  have HX7:Hid (∀k,(Value.slice oo n cc).ownBlock=some k→¬xb k):=Hd fun k e hx=>by have:=own_ge k e;have:=HX0.out k hx;omega
  have HK7:=Hd K7
  rw[←hW7] at HK7 ⊢
  clear hW7 K3 K5 K7
  refine(PU.out _ _ _ HR7 HO7 HX7).mono ?_
  rintro e w8 ⟨rfl,hr8,hk8⟩
  dsimp only
  go_wp2_with fail
  go_ret
  exact⟨HK7.out.trans hk8.out,.inl ⟨HZ.out,rfl,hr8.out⟩⟩
 ·have A2:Hid (∀w,Hid (Cd w b g cap dv ts xb' (stepS (stepS σ)))→Calls prog 131 #[.pointer (some ⟨b,0,none⟩)] w fun r Y=>r=.panicked [{ v:=refusalV τ.code τ.pos,recovered:=false }]∧Hid (RX b xb' w Y)):=Hd fun w hw=>(HAR.out w hw).mono fun r Y hh=>by
   rcases hh with ⟨h1,_⟩ | ⟨_,h1,h2⟩
   ·exact absurd h1 hz
   ·exact⟨h1,h2⟩
  have HZ:=Hd hz
  clear HAR hz
  go_enter Tryz.func129,Tryz.ntmps129
  go_wp2_with (first
   | (go_at_call 63;rw[←hW1];clear hW1;(with_reducible refine NM.out.mono ?_);rintro e w2 ⟨rfl,hr2,hk2⟩;have HA2:=Hd ((hk2.out.xs _ HXA.out.1).trans HA.out);obtain⟨⟨y0,y1,y2,y3,y4,y5,y6,y7,y8⟩,yf⟩:=nine_of HA2.out;have f4:=yf 4;clear yf;have HR3:=Hd (hr2.out.butX HXA.out.1 hbs ((But.refl _ _).set 4 (.string X)));have HA3:=Hd (set_blk HA2.out 4 (.string X)))
   | (go_at_call 62;(with_reducible refine(TK.out _ HR3).mono ?_);rintro e w5 ⟨rfl,hr5,hk5⟩;have HA5:=Hd (show w5.heap[W.heap.size]?=some (.cells #[.int .i64 3,.int .i64 0,.int .i64 0,.int .i64 0,.string X,.string ⟨#[]⟩,.int .i64 0,.slice none 0 0,.int .i64 (P:Int)] 46 (0,0)) by simpa using (hk5.out.xs _ HXA.out.1).trans HA3.out);obtain⟨⟨z0,z1,z2,z3,z4,z5,z6,z7,z8⟩,zf⟩:=nine_of HA5.out;have f0:=zf 0;clear zf;have HR5:=Hd (hr5.out.butX HXA.out.1 hbs ((But.refl _ _).set 0 (.int .i64 19)));have HA6:=Hd (set_blk HA5.out 0 (.int .i64 19)))
   | (go_at_call 131;(with_reducible refine(A2.out _ HR5).mono ?_);rintro e w6 ⟨rfl,hk6⟩))
  have K3:RX b xb W (w2.setCell ⟨W.heap.size,4,none⟩ (.string X)):=(HB1.out.trans (hk2.out.less HXA.out.2)).but h.out.xlt (qL _) hbs hbs ((But.refl _ _).set 4 _)
  have K5:=(K3.trans (hk5.out.less HXA.out.2)).but h.out.xlt (qL _) hbs hbs ((But.refl W.heap.size w5).set 0 (.int .i64 19))
  exact⟨rfl,K5.trans (hk6.out.less HXA.out.2),.inr ⟨HZ.out,rfl⟩⟩
theorem catom_num (b g cap:Nat) (dv:Value) (ts:List Tok) (xb:Nat→Prop) (σ:RS) (hc:σ.code=0) (hk:(tokL ts σ.at_).kind=2) (ok:okS (stepS σ)=true) (W:World) (h:Hid (Cd W b g cap dv ts xb σ)) :
  Calls prog 125 #[.pointer (some ⟨b,0,none⟩)] W fun r Y=>CdRet b g cap dv ts xb W (.int .i64 (σ.exprs.length:Int)) (putS { ex0 with kind:=1,v:=(tokL ts σ.at_).v,pos:=((tokL ts σ.at_).at_:Int) } (stepS σ)) r Y:=by
 obtain⟨o,c,⟨c0,c1,c2,c3,fr⟩,hx⟩:=h.out.cells
 obtain⟨t0,t1,t2,t3⟩:=h.out.tok
 have hl:=h.out.at_
 have hbs:=h.out.size
 have hgs:g<W.heap.size:=by have:=h.out.lt;omega
 obtain⟨K,hK⟩:∃K:Int,K=((tokL ts σ.at_).kind:Int):=⟨_,rfl⟩
 obtain⟨X,hX⟩:∃X,X=str (tokL ts σ.at_).text:=⟨_,rfl⟩
 obtain⟨V,hV⟩:∃V,V=(tokL ts σ.at_).v:=⟨_,rfl⟩
 obtain⟨P,hP⟩:∃P:Int,P=((tokL ts σ.at_).at_:Int):=⟨_,rfl⟩
 obtain⟨m,hmm⟩:∃m,m=ts.length - σ.at_:=⟨_,rfl⟩
 obtain⟨a4,haa⟩:∃a4,a4=σ.at_*4:=⟨_,rfl⟩
 rw[←hmm,←haa] at c0
 rw[←hK,←haa] at t0
 rw[←hX,←haa] at t1
 rw[←hV,←haa] at t2
 rw[←hP,←haa] at t3
 have k0:(0:Int)<(m:Int):=by omega
 obtain⟨W1,hW1⟩:∃W1,W1=W.alloc (.cells #[.int .i64 K,.string X,.int .i64 V,.int .i64 P] 43):=⟨_,rfl⟩
 have hb1:Below W.heap.size W W1:=by rw[hW1];exact(qB _ _).alloc (qL _) _
 have H1:Hid (Cd W1 b g cap dv ts xb σ):=Hd (h.out.below hb1)
 have HA:Hid (W1.heap[W.heap.size]?=some (.cells #[.int .i64 K,.string X,.int .i64 V,.int .i64 P] 43 (0,0))):=Hd (by rw[hW1];exact heap_alloc_new W _)
 have HB1:Hid (RX b xb W W1):=Hd (RX.of_below hb1 (ql hbs) h.out.xlt)
 have hne:W.heap.size≠b:=by omega
 rw[←hV,←hP]
 have q2:(K ==2)=true:=by rw[hK,hk];rfl
 have TA:=Hd (take_any b g cap dv ts xb σ W1 H1 (by omega))
 unfold TakeRet tokV at TA
 rw[←hK,←hX,←hV,←hP] at TA
 have PU:Hid (∀W,Hid (Cd W b g cap dv ts xb (stepS σ))→Calls prog 75 #[.pointer (some ⟨b,0,none⟩),.agg #[.int .i64 1,.int .i64 0,.int .i64 0,.int .i64 0,.string ⟨#[]⟩,.string ⟨#[]⟩,.int .i64 V,.slice none 0 0,.int .i64 P]] W fun r Y=>CdOk b g cap dv ts xb W (.int .i64 (σ.exprs.length:Int)) (putS { ex0 with kind:=1,v:=V,pos:=P } (stepS σ)) r Y):=Hd fun W h =>
  (cput_any b g cap dv ts xb (stepS σ) { ex0 with kind:=1,v:=V,pos:=P } none 0 0 W h hc (okS_iff.1 ok).1 (Hd (qO _ _ _ _)) (Hd fun k hk=>by cases hk)).mono fun r Y hh=>hh.ok hc
 have HC:=Hd hc
 clear hmm haa hl hx c1 c2 c3 fr hK hX hV hP hb1 hc hk ok
 go_enter Tryz.func125,Tryz.ntmps125
 go_wp2_with (first
  | (go_at_call 61;rw[←hW1];clear hW1;(with_reducible refine TA.out.mono ?_);rintro e w2 ⟨rfl,hr2,hk2⟩;have HA2:=Hd (hk2.out.keep W.heap.size _ HA.out hne NoEx.tok);obtain⟨⟨x20,x21,x22,x23⟩,xf2⟩:=four_of HA2.out;clear xf2)
  | (go_at_call 75;(with_reducible refine(PU.out _ hr2).mono ?_);rintro e w3 ⟨rfl,hr3,hk3⟩))
 go_ret
 exact⟨(HB1.out.trans hk2.out).trans hk3.out,.inl ⟨HC.out,rfl,hr3.out⟩⟩
end Go.Proofs.YtpfmlfcaadnnpaaGreatDoor
