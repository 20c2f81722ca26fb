import Derived.Test.YtpfmlfcaadnnpaaGreatDoorPg09
set_option maxHeartbeats 16000000
set_option maxRecDepth 100000
set_option linter.unusedVariables false
open Go.Proofs.Tryz(prog)
namespace Go.Proofs.YtpfmlfcaadnnpaaGreatDoor
open Go.RowKit Lx
def lvL:Nat→List (List UInt8)
 | 1=>[[111,114]]
 | 2=>[[97,110,100]]
 | 3=>[[60],[60,61],[61,61]]
 | 4=>[[43],[45]]
 | 5=>[[42],[47]]
 | _=>[]
theorem isS_tx {ts:List Tok} {s:List UInt8} {σ:RS} (h:isS ts s σ=true):(tokL ts σ.at_).text=s:=by
 unfold isS at h
 simp only[Bool.and_eq_true,beq_iff_eq] at h
 exact h.2.2
theorem lv_all:levelsL.all (fun p=>decide (p.1 ∈ lvL p.2.1.toNat∧(p.1,p.2.2) ∈ betweenL))=true:=by decide +kernel
theorem lv_one:[1,2,3,4,5].all (fun n=>(lvL n).all fun s=>levelsL.all fun p=>!decide (p.1=s)||decide (p.2.1=(n:Int)))=true:=by decide +kernel
theorem lv_in:[1,2,3,4,5].all (fun n=>(lvL n).all fun s=>levelsL.any fun p=>decide (p.1=s))=true:=by decide +kernel
theorem lv_sg:[1,2,3,4,5].all (fun n=>(lvL n).all fun s=>decide (s ∈ sgL))=true:=by decide +kernel
theorem lv_mem {n:Nat} (h1:1≤n) (h5:n≤5):n ∈ [1,2,3,4,5]:=by simp;omega
theorem lv_sgL {n:Nat} (h1:1≤n) (h5:n≤5):∀s ∈ lvL n,s ∈ sgL:=fun s hs=>of_decide_eq_true (List.all_eq_true.1 (List.all_eq_true.1 lv_sg n (lv_mem h1 h5)) s hs)
theorem level_yes {ts:List Tok} {σ:RS} {n:Nat} (h1:1≤n) (h:(levelS ts σ).1=(n:Int)):∃s,isS ts s σ=true∧s ∈ lvL n∧(s,(levelS ts σ).2) ∈ betweenL:=by
 unfold levelS levelIn at h ⊢
 cases hf:levelsL.find? fun p=>isS ts p.1 σ with
 | none=>rw[hf] at h;simp at h;omega
 | some p =>
  rw[hf] at h
  have hp:=of_decide_eq_true (List.all_eq_true.1 lv_all p (List.mem_of_find?_eq_some hf))
  have e:p.2.1=(n:Int):=h
  refine⟨p.1,by simpa using List.find?_some hf,?_,hp.2⟩
  have:=hp.1
  rwa [e,Int.toNat_natCast] at this
theorem level_no {ts:List Tok} {σ:RS} {n:Nat} (h1:1≤n) (h5:n≤5) (h:(levelS ts σ).1≠(n:Int)):fitsB ts (lvL n) σ=false:=by
 cases hb:fitsB ts (lvL n) σ with
 | false=>rfl
 | true =>
  exfalso
  unfold fitsB at hb
  obtain⟨s,hs,hi⟩:=List.any_eq_true.1 hb
  have htx:=isS_tx hi
  obtain⟨q,hq,hqs⟩:=List.any_eq_true.1 (List.all_eq_true.1 (List.all_eq_true.1 lv_in n (lv_mem h1 h5)) s hs)
  have hqs:=of_decide_eq_true hqs
  apply h
  unfold levelS levelIn
  cases hf:levelsL.find? fun p=>isS ts p.1 σ with
  | none =>
   have:=List.find?_eq_none.1 hf q hq
   rw[hqs] at this
   exact absurd hi this
  | some p =>
   have hp:=List.find?_some hf
   have htp:=isS_tx (by simpa using hp)
   have h2:=List.all_eq_true.1 (List.all_eq_true.1 (List.all_eq_true.1 lv_one n (lv_mem h1 h5)) s hs) p (List.mem_of_find?_eq_some hf)
   rw[←htp,htx] at h2
   simpa using h2
def ChI (ts:List Tok) (xb:Nat→Prop) (b g cap:Nat) (dv:Value) (least f:Nat) (R:Int×List Int×RS) (W:World) (n:Nat) (x:Value×Value×World):Prop :=
 ∃(a:Int) (m:Bool) (σ:RS),x.1=.int .i64 a∧x.2.1=.bool m∧Cd x.2.2 b g cap dv ts xb σ∧σ.code=0∧RX b xb W x.2.2∧((m=true∧n≤f∧1≤n∧runE ts n (.loop least a) σ=some R)∨(m=false∧n=0∧R=(a,[],σ)))
theorem chain_any (b g cap:Nat) (dv:Value) (ts:List Tok) (xb:Nat→Prop) (f:Nat) (least:Nat) (h1:1≤least) (h5:least≤5) (h3:least≠3) (F:Nat) (k n:Nat) (hF:∀args w,(callFunc F args).run prog w=.ok (.enter F args) w)
  (IH:Hid (∀σ v l τ,σ.code=0→runE ts f (.bin (least+1)) σ=some (v,l,τ)→∀W,Hid (Cd W b g cap dv ts xb σ)→Calls prog F #[.pointer (some ⟨b,0,none⟩)] W fun r Y=>CdRet b g cap dv ts xb W (.int .i64 v) τ r Y))
  (σ σ1:RS) (hc:σ.code=0) (a0:Int) (la:List Int) (R:Int×List Int×RS)
  (ha:Hid (runE ts f (.bin (least+1)) σ=some (a0,la,σ1))) (hl:Hid (runE ts f (.loop least a0) σ1=some R)) (W:World) (h:Hid (Cd W b g cap dv ts xb σ)) (hn:Hid (n=(lvL least).length)) (hn9:(n:Int)≤9) (hkb:k≠b) (hk:Hid (W.heap[k]?=some (.cells ((lvL least).map fun s=>Value.string (str s)).toArray 9 (0,0)))) :
  Calls prog 77 #[.pointer (some ⟨b,0,none⟩),.func (.func F) #[.pointer (some ⟨b,0,none⟩)] #[],.slice (some ⟨k,0,none⟩) n n] W fun r Y=>CdRet b g cap dv ts xb W (.int .i64 R.1) R.2.2 r Y:=by
 have C0:=Hd (IH.out σ a0 la σ1 hc ha.out W h)
 have HST:=Hd (stuck ts f (.loop least a0) σ1 R hl.out)
 have HKB:=Hd hkb
 have H135:=Hd (show _∧_∧_ from⟨h1,h5,h3⟩)
 have hbs:=h.out.size
 clear hkb h1 h5 h3 hc
 by_cases h0:σ1.code=0
 ·have C1:=Hd (C0.out.mono fun r Y hh=>hh.ok h0)
  have H0:=Hd h0
  obtain⟨m,hm⟩:=least_of (ChI ts xb b g cap dv least f R W)
  have HM:=Hd hm
  clear C0 h0 hm
  go_enter Tryz.func77,Tryz.ntmps77
  go_wp2_with ((with_reducible refine C1.out.mono ?_);rintro e w1 ⟨rfl,hr,hk1⟩)
  go_loopw [7,8] (fun i j wr=>∃(a:Int) (m:Bool),i=.int .i64 a∧j=.bool m∧Hid (∃n,ChI ts xb b g cap dv least f R W n (i,j,wr))) (fun i j wr=>m (i,j,wr))
  case atStart =>
   refine⟨a0,true,rfl,rfl,Hd ⟨f,a0,true,σ1,rfl,rfl,hr.out,H0.out,hk1.out,.inl ⟨rfl,qL _,?_,hl.out⟩⟩⟩
   cases f with
   | zero=>have:=hl.out;cases this
   | succ f=>omega
  case round =>
   obtain⟨av,mv,rfl,rfl,hI⟩:=hrel
   obtain⟨hm1,hm2⟩:=HM.out _ hI.out
   obtain⟨a',m',τ,e1,e2,hcd,hcode,hrx,hor⟩:=hm1
   have e:av=a':=by injection e1
   subst e
   have e:mv=m':=by injection e2
   subst e
   obtain⟨nn,hmn⟩:∃nn,nn=m (.int .i64 av,.bool mv,wr):=⟨_,rfl⟩
   rw[←hmn] at hor
   have HCD:=Hd hcd
   have HCO:=Hd hcode
   have HRX:=Hd hrx
   have HMN:=Hd hmn
   have HSK:=Hd (strs_of (hrx.keep k _ hk.out HKB.out noex_str))
   clear hcd hcode hrx hmn hm2 hI e1 e2
   cases mv with
   | false =>
    have HE:Hid (R=(av,[],τ)):=Hd (by
     rcases hor with ⟨h0,_⟩ | ⟨_,_,h0⟩
     ·cases h0
     ·exact h0)
    clear hor
    go_wp2_with fail
    go_ret
    rw[HE.out]
    exact⟨HRX.out,.inl ⟨HCO.out,rfl,HCD.out⟩⟩
   | true =>
    have HO:Hid (nn≤f∧1≤nn∧runE ts nn (.loop least av) τ=some R):=Hd (by
     rcases hor with ⟨_,h0⟩ | ⟨h0,_⟩
     ·exact h0
     ·cases h0)
    clear hor
    obtain⟨kk,hkk,hcase⟩:=loop_cases HO.out.2.2
    have HKK:=Hd hkk
    by_cases hle:(levelS ts τ).1=(least:Int)
    ·obtain⟨s,hs1,hs2,hs3⟩:=level_yes H135.out.1 hle
     have HREST:Hid (∃bv lb y,runE ts kk (.bin (least+1)) (stepS τ)=some (bv,lb,y)∧okS y=true∧runE ts kk (.loop least (y.exprs.length:Int)) (putS (twoE (levelS ts τ).2 av bv (tokL ts τ.at_).at_) y)=some R):=Hd (by
      rcases hcase with ⟨h0,_⟩ | ⟨_,h0,_⟩ | ⟨_,_,bv,lb,y,r1,r2,h0⟩
      ·exact absurd HCO.out h0
      ·exact absurd hle h0
      ·rcases h0 with ⟨h0,_⟩ | ⟨_,h0⟩
       ·exact absurd h0 H135.out.2.2
       ·exact⟨bv,lb,y,r1,r2,h0⟩)
     obtain⟨bv,lb,y,r1,r2,r3⟩:=HREST.out
     have PY:=Hd (pair_yes b g cap dv ts xb τ av F k n (lvL least) wr HCD HCO.out (lv_sgL H135.out.1 H135.out.2.1) hn.out hn9 HSK s (levelS ts τ).2 hs1 hs2 hs3 hF bv y r2 fun W h=>IH.out (stepS τ) bv lb y HCO.out (runE_le (by have:=HO.out.1;have:=HKK.out;omega) _ _ _ r1) W h)
     have HR3:=Hd r3
     obtain⟨x,hx⟩:∃x,x=putS (twoE (levelS ts τ).2 av bv (tokL ts τ.at_).at_) y:=⟨_,rfl⟩
     rw[←hx] at PY HR3
     have HYC:Hid (x.code=y.code):=Hd (by rw[hx];rfl)
     obtain⟨ln,hln⟩:∃ln,ln=(y.exprs.length:Int):=⟨_,rfl⟩
     rw[←hln] at PY HR3
     clear hs1 hs2 hs3 r1 r2 r3 hx hln hcase hle HREST hkk
     by_cases hxc:x.code=0
     ·have PZ:=Hd (PY.out.mono fun r Y hh=>hh.ok hxc)
      have HXC:=Hd hxc
      clear PY hxc
      go_wp2_with (go_at_call 51;(with_reducible refine PZ.out.mono ?_);rintro e w2 ⟨rfl,hr2,hk2⟩)
      have HI:ChI ts xb b g cap dv least f R W kk (.int .i64 ln,.bool true,w2):=⟨_,_,_,rfl,rfl,hr2.out,HXC.out,HRX.out.trans hk2.out,.inl ⟨rfl,by have:=HO.out.1;have:=HKK.out;omega,by
       cases kk with
       | zero=>have:=HR3.out;cases this
       | succ kk=>omega,HR3.out⟩⟩
      exact⟨⟨_,_,rfl,rfl,Hd ⟨kk,HI⟩⟩,by have h5:=(HM.out _ ⟨kk,HI⟩).2 kk HI;have h6:=HMN.out;have h7:=HKK.out;omega⟩
     ·have PZ:=Hd (PY.out.mono fun r Y hh=>hh.bad hxc)
      have HXC:=Hd hxc
      have HS2:=Hd (stuck ts kk (.loop least ln) x R HR3.out)
      clear PY hxc
      go_wp2_with (go_at_call 51;(with_reducible refine PZ.out.mono ?_);rintro e w2 ⟨rfl,hk2⟩)
      exact⟨rfl,CdBad.ret (v:=.int .i64 R.1) (g:=g) (cap:=cap) (dv:=dv) (ts:=ts) ⟨rfl,Hd (HRX.out.trans hk2.out)⟩ HXC.out HS2.out⟩
    ·have HE:Hid (R=(av,[],τ)):=Hd (by
      rcases hcase with ⟨h0,_⟩ | ⟨_,_,h0⟩ | ⟨_,h0,_⟩
      ·exact absurd HCO.out h0
      ·exact h0
      ·exact absurd h0 hle)
     have PN:=Hd (pair_no b g cap dv ts xb τ av (.func (.func F) #[.pointer (some ⟨b,0,none⟩)] #[]) k n (lvL least) wr HCD HCO.out (lv_sgL H135.out.1 H135.out.2.1) hn.out hn9 HSK (level_no H135.out.1 H135.out.2.1 hle))
     clear hcase hle hkk
     go_wp2_with (go_at_call 51;(with_reducible refine PN.out.mono ?_);rintro e w2 ⟨rfl,hw2⟩;obtain rfl:=hw2.symm)
     have HI:ChI ts xb b g cap dv least f R W 0 (.int .i64 av,.bool false,wr):=⟨_,_,_,rfl,rfl,HCD.out,HCO.out,HRX.out,.inr ⟨rfl,rfl,HE.out⟩⟩
     exact⟨⟨_,_,rfl,rfl,Hd ⟨0,HI⟩⟩,by have h5:=(HM.out _ ⟨0,HI⟩).2 0 HI;have h6:=HMN.out;have h7:=HO.out.2.1;omega⟩
 ·have C1:=Hd (C0.out.mono fun r Y hh=>hh.bad h0)
  have H0:=Hd h0
  clear C0 h0
  go_enter Tryz.func77,Tryz.ntmps77
  go_wp2_with ((with_reducible refine C1.out.mono ?_);rintro e w1 ⟨rfl,hk1⟩)
  exact⟨rfl,CdBad.ret (v:=.int .i64 R.1) (g:=g) (cap:=cap) (dv:=dv) (ts:=ts) ⟨rfl,hk1⟩ H0.out HST.out⟩
theorem bin_cases {ts:List Tok} {f least:Nat} (h5:least≤5) {σ:RS} {R:Int×List Int×RS} (h:runE ts (f+1) (.bin least) σ=some R):∃a la σ1,runE ts f (.bin (least+1)) σ=some (a,la,σ1)∧runE ts f (.loop least a) σ1=some R:=by
 simp only[runE] at h
 split at h
 ·unfold binG at h
  rw[if_neg (by omega)] at h
  obtain⟨a,h1,h2⟩:=bind_some' h
  exact⟨a.1,a.2.1,a.2.2,h1,h2⟩
 ·cases h
def RuleC (b g cap:Nat) (dv:Value) (ts:List Tok) (xb:Nat→Prop) (F:Nat) (f:Nat) (j:Job):Prop:=∀σ v l τ,σ.code=0→runE ts f j σ=some (v,l,τ)→∀W,Hid (Cd W b g cap dv ts xb σ)→Calls prog F #[.pointer (some ⟨b,0,none⟩)] W fun r Y=>CdRet b g cap dv ts xb W (.int .i64 v) τ r Y
theorem runF (fn:Fn) (first cap:Array Value) (w:World):(Instr.makeFunc fn first cap).run prog w=.ok (.func fn first cap) w:=rfl
theorem enters_and:∀args w,(callFunc 78 args).run prog w=.ok (.enter 78 args) w:=enters_of Tryz.func78 (by kernel_rfl) rfl
theorem enters_rel:∀args w,(callFunc 92 args).run prog w=.ok (.enter 92 args) w:=enters_of Tryz.func92 (by kernel_rfl) rfl
theorem enters_sum:∀args w,(callFunc 105 args).run prog w=.ok (.enter 105 args) w:=enters_of Tryz.func105 (by kernel_rfl) rfl
theorem enters_term:∀args w,(callFunc 115 args).run prog w=.ok (.enter 115 args) w:=enters_of Tryz.func115 (by kernel_rfl) rfl
theorem enters_prefix:∀args w,(callFunc 119 args).run prog w=.ok (.enter 119 args) w:=enters_of Tryz.func119 (by kernel_rfl) rfl
theorem enters_expr:∀args w,(callFunc 26 args).run prog w=.ok (.enter 26 args) w:=enters_of Tryz.func26 (by kernel_rfl) rfl
theorem enters_types:∀args w,(callFunc 66 args).run prog w=.ok (.enter 66 args) w:=enters_of Tryz.func66 (by kernel_rfl) rfl
theorem enters_lets:∀args w,(callFunc 69 args).run prog w=.ok (.enter 69 args) w:=enters_of Tryz.func69 (by kernel_rfl) rfl
theorem enters_items:∀args w,(callFunc 70 args).run prog w=.ok (.enter 70 args) w:=enters_of Tryz.func70 (by kernel_rfl) rfl
theorem enters_states:∀args w,(callFunc 104 args).run prog w=.ok (.enter 104 args) w:=enters_of Tryz.func104 (by kernel_rfl) rfl
theorem or_rule (b g cap:Nat) (dv:Value) (ts:List Tok) (xb:Nat→Prop) (f:Nat) (IH:RuleC b g cap dv ts xb 78 f (.bin (1+1))):RuleC b g cap dv ts xb 52 (f+1) (.bin 1):=by
 intro σ v l τ hc hr W h
 obtain⟨a,la,σ1,ha,hl⟩:=bin_cases (by decide) hr
 obtain⟨W1,hW1⟩:∃W1,W1=W.alloc (.cells #[.string ⟨#[111,114]⟩] 9):=⟨_,rfl⟩
 have hb1:Below W.heap.size W W1:=by rw[hW1];exact(qB _ _).alloc (qL _) _
 have hbs:=h.out.size
 have C:=Hd (chain_any b g cap dv ts xb f 1 (by decide) (by decide) (by decide) 78 W.heap.size 1 enters_and (Hd IH) σ σ1 hc a la (v,l,τ) (Hd ha) (Hd hl) W1 (Hd (h.out.below hb1)) (Hd rfl) (by decide) (by omega) (Hd (by rw[hW1];exact heap_alloc_new W _)))
 have HB:=Hd (RX.of_below (xb:=xb) hb1 (ql hbs) h.out.xlt)
 have MF:=runF
 clear ha hl hr hb1
 by_cases h0:τ.code=0
 ·have C1:=Hd (C.out.mono fun r Y hh=>hh.ok h0)
  have H0:=Hd h0
  clear C h0 hc
  go_enter Tryz.func52,Tryz.ntmps52
  go_wp2_with (go_at_call 77;rw[←hW1];clear hW1;(with_reducible refine C1.out.mono ?_);rintro e w2 ⟨rfl,hr,hk⟩)
  go_ret
  exact⟨HB.out.trans hk.out,.inl ⟨H0.out,rfl,hr.out⟩⟩
 ·have C1:=Hd (C.out.mono fun r Y hh=>hh.bad h0)
  have H0:=Hd h0
  clear C h0 hc
  go_enter Tryz.func52,Tryz.ntmps52
  go_wp2_with (go_at_call 77;rw[←hW1];clear hW1;(with_reducible refine C1.out.mono ?_);rintro e w2 ⟨rfl,hk⟩)
  exact⟨rfl,HB.out.trans hk.out,.inr ⟨H0.out,rfl⟩⟩
theorem and_rule (b g cap:Nat) (dv:Value) (ts:List Tok) (xb:Nat→Prop) (f:Nat) (IH:RuleC b g cap dv ts xb 92 f (.bin (2+1))):RuleC b g cap dv ts xb 78 (f+1) (.bin 2):=by
 intro σ v l τ hc hr W h
 obtain⟨a,la,σ1,ha,hl⟩:=bin_cases (by decide) hr
 obtain⟨W1,hW1⟩:∃W1,W1=W.alloc (.cells #[.string ⟨#[97,110,100]⟩] 9):=⟨_,rfl⟩
 have hb1:Below W.heap.size W W1:=by rw[hW1];exact(qB _ _).alloc (qL _) _
 have hbs:=h.out.size
 have C:=Hd (chain_any b g cap dv ts xb f 2 (by decide) (by decide) (by decide) 92 W.heap.size 1 enters_rel (Hd IH) σ σ1 hc a la (v,l,τ) (Hd ha) (Hd hl) W1 (Hd (h.out.below hb1)) (Hd rfl) (by decide) (by omega) (Hd (by rw[hW1];exact heap_alloc_new W _)))
 have HB:=Hd (RX.of_below (xb:=xb) hb1 (ql hbs) h.out.xlt)
 have MF:=runF
 clear ha hl hr hb1
 by_cases h0:τ.code=0
 ·have C1:=Hd (C.out.mono fun r Y hh=>hh.ok h0)
  have H0:=Hd h0
  clear C h0 hc
  go_enter Tryz.func78,Tryz.ntmps78
  go_wp2_with (go_at_call 77;rw[←hW1];clear hW1;(with_reducible refine C1.out.mono ?_);rintro e w2 ⟨rfl,hr,hk⟩)
  go_ret
  exact⟨HB.out.trans hk.out,.inl ⟨H0.out,rfl,hr.out⟩⟩
 ·have C1:=Hd (C.out.mono fun r Y hh=>hh.bad h0)
  have H0:=Hd h0
  clear C h0 hc
  go_enter Tryz.func78,Tryz.ntmps78
  go_wp2_with (go_at_call 77;rw[←hW1];clear hW1;(with_reducible refine C1.out.mono ?_);rintro e w2 ⟨rfl,hk⟩)
  exact⟨rfl,HB.out.trans hk.out,.inr ⟨H0.out,rfl⟩⟩
theorem sum_rule (b g cap:Nat) (dv:Value) (ts:List Tok) (xb:Nat→Prop) (f:Nat) (IH:RuleC b g cap dv ts xb 115 f (.bin (4+1))):RuleC b g cap dv ts xb 105 (f+1) (.bin 4):=by
 intro σ v l τ hc hr W h
 obtain⟨a,la,σ1,ha,hl⟩:=bin_cases (by decide) hr
 obtain⟨W1,hW1⟩:∃W1,W1=W.alloc (.cells #[.string ⟨#[43]⟩,.string ⟨#[45]⟩] 9):=⟨_,rfl⟩
 have hb1:Below W.heap.size W W1:=by rw[hW1];exact(qB _ _).alloc (qL _) _
 have hbs:=h.out.size
 have C:=Hd (chain_any b g cap dv ts xb f 4 (by decide) (by decide) (by decide) 115 W.heap.size 2 enters_term (Hd IH) σ σ1 hc a la (v,l,τ) (Hd ha) (Hd hl) W1 (Hd (h.out.below hb1)) (Hd rfl) (by decide) (by omega) (Hd (by rw[hW1];exact heap_alloc_new W _)))
 have HB:=Hd (RX.of_below (xb:=xb) hb1 (ql hbs) h.out.xlt)
 have MF:=runF
 clear ha hl hr hb1
 by_cases h0:τ.code=0
 ·have C1:=Hd (C.out.mono fun r Y hh=>hh.ok h0)
  have H0:=Hd h0
  clear C h0 hc
  go_enter Tryz.func105,Tryz.ntmps105
  go_wp2_with (go_at_call 77;rw[←hW1];clear hW1;(with_reducible refine C1.out.mono ?_);rintro e w2 ⟨rfl,hr,hk⟩)
  go_ret
  exact⟨HB.out.trans hk.out,.inl ⟨H0.out,rfl,hr.out⟩⟩
 ·have C1:=Hd (C.out.mono fun r Y hh=>hh.bad h0)
  have H0:=Hd h0
  clear C h0 hc
  go_enter Tryz.func105,Tryz.ntmps105
  go_wp2_with (go_at_call 77;rw[←hW1];clear hW1;(with_reducible refine C1.out.mono ?_);rintro e w2 ⟨rfl,hk⟩)
  exact⟨rfl,HB.out.trans hk.out,.inr ⟨H0.out,rfl⟩⟩
theorem term_rule (b g cap:Nat) (dv:Value) (ts:List Tok) (xb:Nat→Prop) (f:Nat) (IH:RuleC b g cap dv ts xb 119 f (.bin (5+1))):RuleC b g cap dv ts xb 115 (f+1) (.bin 5):=by
 intro σ v l τ hc hr W h
 obtain⟨a,la,σ1,ha,hl⟩:=bin_cases (by decide) hr
 obtain⟨W1,hW1⟩:∃W1,W1=W.alloc (.cells #[.string ⟨#[42]⟩,.string ⟨#[47]⟩] 9):=⟨_,rfl⟩
 have hb1:Below W.heap.size W W1:=by rw[hW1];exact(qB _ _).alloc (qL _) _
 have hbs:=h.out.size
 have C:=Hd (chain_any b g cap dv ts xb f 5 (by decide) (by decide) (by decide) 119 W.heap.size 2 enters_prefix (Hd IH) σ σ1 hc a la (v,l,τ) (Hd ha) (Hd hl) W1 (Hd (h.out.below hb1)) (Hd rfl) (by decide) (by omega) (Hd (by rw[hW1];exact heap_alloc_new W _)))
 have HB:=Hd (RX.of_below (xb:=xb) hb1 (ql hbs) h.out.xlt)
 have MF:=runF
 clear ha hl hr hb1
 by_cases h0:τ.code=0
 ·have C1:=Hd (C.out.mono fun r Y hh=>hh.ok h0)
  have H0:=Hd h0
  clear C h0 hc
  go_enter Tryz.func115,Tryz.ntmps115
  go_wp2_with (go_at_call 77;rw[←hW1];clear hW1;(with_reducible refine C1.out.mono ?_);rintro e w2 ⟨rfl,hr,hk⟩)
  go_ret
  exact⟨HB.out.trans hk.out,.inl ⟨H0.out,rfl,hr.out⟩⟩
 ·have C1:=Hd (C.out.mono fun r Y hh=>hh.bad h0)
  have H0:=Hd h0
  clear C h0 hc
  go_enter Tryz.func115,Tryz.ntmps115
  go_wp2_with (go_at_call 77;rw[←hW1];clear hW1;(with_reducible refine C1.out.mono ?_);rintro e w2 ⟨rfl,hk⟩)
  exact⟨rfl,HB.out.trans hk.out,.inr ⟨H0.out,rfl⟩⟩
theorem rel_rule (b g cap:Nat) (dv:Value) (ts:List Tok) (xb:Nat→Prop) (f:Nat) (IH:RuleC b g cap dv ts xb 105 f (.bin (3+1))):RuleC b g cap dv ts xb 92 (f+1) (.bin 3):=by
 intro σ v l τ hc hr W h
 obtain⟨a,la,σ1,ha,hl⟩:=bin_cases (by decide) hr
 have HST:=Hd (stuck ts f (.loop 3 a) σ1 _ hl)
 have C0:=Hd (IH σ a la σ1 hc ha W h)
 have HL:=Hd hl
 have MF:=runF
 have SN:Hid (∀w:World,StrsIn (w.alloc (.cells #[.string ⟨#[60]⟩,.string ⟨#[60,61]⟩,.string ⟨#[61,61]⟩] 9)) w.heap.size (lvL 3)):=Hd fun w=>strs_new w (lvL 3) _
 have hbs:=h.out.size
 clear ha hl hr hc
 by_cases h0:σ1.code=0
 ·have C1:=Hd (C0.out.mono fun r Y hh=>hh.ok h0)
  have H0:=Hd h0
  clear C0 h0
  obtain⟨m,hm,hcase⟩:=loop_cases HL.out
  have HMM:=Hd hm
  by_cases hle:(levelS ts σ1).1=((3:Nat):Int)
  ·obtain⟨s,hs1,hs2,hs3⟩:=level_yes (by decide) hle
   have HREST:Hid (∃bv lb y,runE ts m (.bin (3+1)) (stepS σ1)=some (bv,lb,y)∧okS y=true∧((v,l,τ):Int×List Int×RS)=((y.exprs.length:Int),[],putS (twoE (levelS ts σ1).2 a bv (tokL ts σ1.at_).at_) y)):=Hd (by
    rcases hcase with ⟨h0,_⟩ | ⟨_,h0,_⟩ | ⟨_,_,bv,lb,y,r1,r2,h0⟩
    ·exact absurd H0.out h0
    ·exact absurd hle h0
    ·rcases h0 with ⟨_,h0⟩ | ⟨h0,_⟩
     ·exact⟨bv,lb,y,r1,r2,h0⟩
     ·exact absurd rfl h0)
   obtain⟨bv,lb,y,r1,r2,r3⟩:=HREST.out
   injection r3 with r3 r4
   injection r4 with r4 r5
   have PY:Hid (∀w k,Hid (Cd w b g cap dv ts xb σ1)→Hid (StrsIn w k (lvL 3))→Calls prog 51 #[.pointer (some ⟨b,0,none⟩),.int .i64 a,.func (.func 105) #[.pointer (some ⟨b,0,none⟩)] #[],.slice (some ⟨k,0,none⟩) 3 3] w fun r Y=>CdRet b g cap dv ts xb w (.tuple #[.int .i64 v,.bool true]) τ r Y):=Hd fun w k h hk=>by
    rw[r3,r5]
    exact pair_yes b g cap dv ts xb σ1 a 105 k 3 (lvL 3) w h H0.out (lv_sgL (by decide) (by decide)) rfl (by decide) hk s (levelS ts σ1).2 hs1 hs2 hs3 enters_sum bv y r2 fun W h=>IH (stepS σ1) bv lb y H0.out (runE_le (by have:=HMM.out;omega) _ _ _ r1) W h
   clear hcase r1 r2 r3 r4 r5 hs1 hs2 hs3 HREST hle hm
   by_cases ht:τ.code=0
   ·have PZ:Hid (∀w k,Hid (Cd w b g cap dv ts xb σ1)→Hid (StrsIn w k (lvL 3))→Calls prog 51 #[.pointer (some ⟨b,0,none⟩),.int .i64 a,.func (.func 105) #[.pointer (some ⟨b,0,none⟩)] #[],.slice (some ⟨k,0,none⟩) 3 3] w fun r Y=>CdOk b g cap dv ts xb w (.tuple #[.int .i64 v,.bool true]) τ r Y):=Hd fun w k h hk=>(PY.out w k h hk).mono fun r Y hh=>hh.ok ht
    have HT:=Hd ht
    clear PY ht
    go_enter Tryz.func92,Tryz.ntmps92
    go_wp2_with (first
     | (go_at_call 105;(with_reducible refine C1.out.mono ?_);rintro e w1 ⟨rfl,hr,hk⟩;have HBX:=Hd ((qB w1.heap.size w1).alloc (qL _) (.cells #[.string ⟨#[60]⟩,.string ⟨#[60,61]⟩,.string ⟨#[61,61]⟩] 9)))
     | (go_at_call 51;(with_reducible refine(PZ.out _ _ (Hd (hr.out.below HBX.out)) (Hd (SN.out w1))).mono ?_);rintro e w2 ⟨rfl,hr2,hk2⟩))
    go_ret
    exact⟨hk.out.trans ((RX.of_below HBX.out (ql hr.out.size) hr.out.xlt).trans hk2.out),.inl ⟨HT.out,rfl,hr2.out⟩⟩
   ·have PZ:Hid (∀w k,Hid (Cd w b g cap dv ts xb σ1)→Hid (StrsIn w k (lvL 3))→Calls prog 51 #[.pointer (some ⟨b,0,none⟩),.int .i64 a,.func (.func 105) #[.pointer (some ⟨b,0,none⟩)] #[],.slice (some ⟨k,0,none⟩) 3 3] w fun r Y=>CdBad b xb w τ.code τ.pos r Y):=Hd fun w k h hk=>(PY.out w k h hk).mono fun r Y hh=>hh.bad ht
    have HT:=Hd ht
    clear PY ht
    go_enter Tryz.func92,Tryz.ntmps92
    go_wp2_with (first
     | (go_at_call 105;(with_reducible refine C1.out.mono ?_);rintro e w1 ⟨rfl,hr,hk⟩;have HBX:=Hd ((qB w1.heap.size w1).alloc (qL _) (.cells #[.string ⟨#[60]⟩,.string ⟨#[60,61]⟩,.string ⟨#[61,61]⟩] 9)))
     | (go_at_call 51;(with_reducible refine(PZ.out _ _ (Hd (hr.out.below HBX.out)) (Hd (SN.out w1))).mono ?_);rintro e w2 ⟨rfl,hk2⟩))
    exact⟨rfl,hk.out.trans ((RX.of_below HBX.out (ql hr.out.size) hr.out.xlt).trans hk2.out),.inr ⟨HT.out,rfl⟩⟩
  ·have HE:Hid (((v,l,τ):Int×List Int×RS)=(a,[],σ1)):=Hd (by
    rcases hcase with ⟨h0,_⟩ | ⟨_,_,h0⟩ | ⟨_,h0,_⟩
    ·exact absurd H0.out h0
    ·exact h0
    ·exact absurd h0 hle)
   have PN:Hid (∀w k,Hid (Cd w b g cap dv ts xb σ1)→Hid (StrsIn w k (lvL 3))→Calls prog 51 #[.pointer (some ⟨b,0,none⟩),.int .i64 a,.func (.func 105) #[.pointer (some ⟨b,0,none⟩)] #[],.slice (some ⟨k,0,none⟩) 3 3] w fun r Y=>r=.returned (.tuple #[.int .i64 a,.bool false])∧Y=w):=Hd fun w k h hk =>
    pair_no b g cap dv ts xb σ1 a _ k 3 (lvL 3) w h H0.out (lv_sgL (by decide) (by decide)) rfl (by decide) hk (level_no (by decide) (by decide) hle)
   clear hcase hle hm
   go_enter Tryz.func92,Tryz.ntmps92
   go_wp2_with (first
    | (go_at_call 105;(with_reducible refine C1.out.mono ?_);rintro e w1 ⟨rfl,hr,hk⟩;have HBX:=Hd ((qB w1.heap.size w1).alloc (qL _) (.cells #[.string ⟨#[60]⟩,.string ⟨#[60,61]⟩,.string ⟨#[61,61]⟩] 9)))
    | (go_at_call 51;(with_reducible refine(PN.out _ _ (Hd (hr.out.below HBX.out)) (Hd (SN.out w1))).mono ?_);rintro e w2 ⟨rfl,rfl⟩))
   go_ret
   have HE':=HE.out
   injection HE' with e1 e2
   injection e2 with e2 e3
   rw[e1,e3]
   exact⟨hk.out.trans (RX.of_below HBX.out (ql hr.out.size) hr.out.xlt),.inl ⟨H0.out,rfl,hr.out.below HBX.out⟩⟩
 ·have C1:=Hd (C0.out.mono fun r Y hh=>hh.bad h0)
  have H0:=Hd h0
  clear C0 h0
  go_enter Tryz.func92,Tryz.ntmps92
  go_wp2_with (go_at_call 105;(with_reducible refine C1.out.mono ?_);rintro e w1 ⟨rfl,hk⟩)
  exact⟨rfl,CdBad.ret (v:=.int .i64 v) (g:=g) (cap:=cap) (dv:=dv) (ts:=ts) ⟨rfl,hk⟩ H0.out HST.out⟩
theorem prefix_zero {ts:List Tok} {σ:RS} (h:prefixK ts σ prefixL=0):∀p ∈ prefixL,isS ts p.1 σ=false:=by
 unfold prefixK at h
 cases hf:prefixL.find? fun p=>isS ts p.1 σ with
 | none=>intro p hp;simpa using List.find?_eq_none.1 hf p hp
 | some p =>
  rw[hf] at h
  have hm:=List.mem_of_find?_eq_some hf
  have:prefixL.all (fun p=>decide (p.2≠0))=true:=by decide +kernel
  exact absurd h (of_decide_eq_true (List.all_eq_true.1 this p hm))
theorem prefix_some {ts:List Tok} {σ:RS} (h:prefixK ts σ prefixL≠0):∃s,(s,prefixK ts σ prefixL) ∈ prefixL∧isS ts s σ=true:=by
 unfold prefixK at h ⊢
 cases hf:prefixL.find? fun p=>isS ts p.1 σ with
 | none=>rw[hf] at h;exact absurd rfl h
 | some p=>exact⟨p.1,List.mem_of_find?_eq_some hf,by simpa using List.find?_some hf⟩
def BoxR (W:World) (k b:Nat):Prop:=W.heap[k]?=some (.cells #[.pointer (some ⟨b,0,none⟩)] 48 (0,0))
theorem BoxR.cell {W:World} {k b:Nat} (h:BoxR W k b):W.cell? ⟨k,0,none⟩=some (.pointer (some ⟨b,0,none⟩)):=by unfold BoxR at h;simp[World.cell?,h]
theorem BoxR.keep {W Y:World} {k b:Nat} {xb:Nat→Prop} (h:BoxR W k b) (hk:k≠b) (hr:RX b xb W Y):BoxR Y k b:=hr.keep k _ h hk fun cs e=>by cases e
theorem pre1_any (b g cap:Nat) (dv:Value) (ts:List Tok) (xb:Nat→Prop) (f:Nat) (IA:RuleC b g cap dv ts xb 125 f .atom) (IP:RuleC b g cap dv ts xb 119 f .pre)
  (x:RS) (hc:x.code=0) (v:Int) (l:List Int) (τ y:RS) (hcase:(prefixK ts x prefixL=0∧runE ts f .atom x=some (v,l,τ))∨(prefixK ts x prefixL≠0∧∃v' l',runE ts f .pre (stepS x)=some (v',l',y)∧okS y=true∧v=(y.exprs.length:Int)∧τ=putS { ex0 with kind:=prefixK ts x prefixL,a:=v',pos:=((tokL ts x.at_).at_:Int) } y))
  (k:Nat) (hkb:k≠b) (W:World) (h:Hid (Cd W b g cap dv ts xb x)) (hk:Hid (BoxR W k b)) :
  Calls prog 123 #[.pointer (some ⟨k,0,none⟩)] W fun r Y=>CdRet b g cap dv ts xb W (.int .i64 v) τ r Y:=by
 obtain⟨o,c,⟨c0,c1,c2,c3,fr⟩,hx⟩:=h.out.cells
 obtain⟨t0,t1,t2,t3⟩:=h.out.tok
 have hl:=h.out.at_
 have bx:=hk.out.cell
 have HKB:=Hd hkb
 have HC:=Hd hc
 obtain⟨m,hmm⟩:∃m,m=ts.length-x.at_:=⟨_,rfl⟩
 obtain⟨a4,haa⟩:∃a4,a4=x.at_*4:=⟨_,rfl⟩
 obtain⟨tx,htx⟩:∃tx,tx=(tokL ts x.at_).text:=⟨_,rfl⟩
 rw[←hmm,←haa] at c0
 rw[←htx,←haa] at t1
 have HTX:=Hd htx
 have k0:(0:Int)<(m:Int):=by omega
 clear hmm haa t0 t2 t3 hl hx c1 c2 c3 fr htx hkb hc
 rcases hcase with ⟨hz,hr⟩ | ⟨hz,v',l',hr,ok,rfl,hτ⟩
 ·have hno:=prefix_zero hz
  have ne:∀p ∈ prefixL,tx≠p.1:=fun p hp e=>by
   have h1:=hno p hp
   rw[isS_text h.out.tx (prefix_sg (k:=p.2) (by exact hp)) HC.out,←HTX.out,e] at h1
   simp at h1
  have A:=Hd fun w=>ahead_zero tx (ne ([45],4) (by decide)) (ne ([110,111,116],5) (by decide)) (ne ([112,114,101],16) (by decide)) (ne ([115,113,114,116],21) (by decide)) w
  have C:=Hd (IA x v l τ HC.out hr W h)
  clear hno ne hz hr
  by_cases ht:τ.code=0
  ·have C1:=Hd (C.out.mono fun r Y hh=>hh.ok ht)
   have HT:=Hd ht
   clear C ht
   go_enter Tryz.func123,Tryz.ntmps123
   go_wp2_with (first
    | (go_at_call 124;(with_reducible refine(A.out _).mono ?_);rintro e w1 ⟨rfl,hw1⟩;obtain rfl:=hw1.symm)
    | (go_at_call 125;(with_reducible refine C1.out.mono ?_);rintro e w2 ⟨rfl,hr,hk2⟩))
   go_ret
   exact⟨hk2.out,.inl ⟨HT.out,rfl,hr.out⟩⟩
  ·have C1:=Hd (C.out.mono fun r Y hh=>hh.bad ht)
   have HT:=Hd ht
   clear C ht
   go_enter Tryz.func123,Tryz.ntmps123
   go_wp2_with (first
    | (go_at_call 124;(with_reducible refine(A.out _).mono ?_);rintro e w1 ⟨rfl,hw1⟩;obtain rfl:=hw1.symm)
    | (go_at_call 125;(with_reducible refine C1.out.mono ?_);rintro e w2 ⟨rfl,hk2⟩))
   exact⟨rfl,hk2.out,.inr ⟨HT.out,rfl⟩⟩
 ·obtain⟨s,hs,hi⟩:=prefix_some hz
  have hst:tx=s:=HTX.out.trans (isS_tx hi)
  have A:Hid (∀w,Calls prog 124 #[.string (str tx)] w fun r Y=>r=.returned (.int .i64 (prefixK ts x prefixL))∧Y=w):=Hd fun w=>by rw[hst];exact ahead_of hs w
  have T:=Hd (take_any b g cap dv ts xb x W h (isS_kind hi).1)
  obtain⟨kd,hkd⟩:∃kd,kd=prefixK ts x prefixL:=⟨_,rfl⟩
  have q0:(kd ==0)=false:=beq_false_of_ne (by rw[hkd];exact hz)
  rw[←hkd] at A hτ
  unfold TakeRet tokV at T
  obtain⟨K,hK⟩:∃K,K=(tokL ts x.at_).kind:=⟨_,rfl⟩
  obtain⟨X,hX⟩:∃X,X=str (tokL ts x.at_).text:=⟨_,rfl⟩
  obtain⟨V,hV⟩:∃V,V=(tokL ts x.at_).v:=⟨_,rfl⟩
  obtain⟨P,hP⟩:∃P,P=(tokL ts x.at_).at_:=⟨_,rfl⟩
  rw[←hK,←hX,←hV,←hP] at T
  rw[←hP] at hτ
  have C:Hid (∀W,Hid (Cd W b g cap dv ts xb (stepS x))→Calls prog 119 #[.pointer (some ⟨b,0,none⟩)] W fun r Y=>CdRet b g cap dv ts xb W (.int .i64 v') y r Y):=Hd fun W h=>IP (stepS x) v' l' y HC.out hr W h
  have FA:=field_at
  have hbk:k<W.heap.size:=heap_lt hk.out
  have hbs:=h.out.size
  have HTAU:=Hd hτ
  have HYT:Hid (τ.code=y.code∧τ.pos=y.pos):=Hd (by rw[hτ];exact⟨rfl,rfl⟩)
  clear hs hi hst hkd hz hr hK hX hV hP hτ HTX
  by_cases hy:y.code=0
  ·have C1:Hid (∀W,Hid (Cd W b g cap dv ts xb (stepS x))→Calls prog 119 #[.pointer (some ⟨b,0,none⟩)] W fun r Y=>CdOk b g cap dv ts xb W (.int .i64 v') y r Y):=Hd fun W h=>(C.out W h).mono fun r Y hh=>hh.ok hy
   have PU:Hid (∀W,Hid (Cd W b g cap dv ts xb y)→Calls prog 75 #[.pointer (some ⟨b,0,none⟩),.agg #[.int .i64 kd,.int .i64 v',.int .i64 0,.int .i64 0,.string ⟨#[]⟩,.string ⟨#[]⟩,.int .i64 0,.slice none 0 0,.int .i64 (P:Int)]] W fun r Y=>CdOk b g cap dv ts xb W (.int .i64 (y.exprs.length:Int)) τ r Y):=Hd fun W h=>by
    rw[HTAU.out]
    exact(cput_any b g cap dv ts xb y { ex0 with kind:=kd,a:=v',pos:=(P:Int) } none 0 0 W h hy (okS_iff.1 ok).1 (Hd (qO _ _ _ _)) (Hd fun k hk=>by cases hk)).mono fun r Y hh=>hh.ok hy
   have HY:=Hd hy
   clear C hy
   go_enter Tryz.func123,Tryz.ntmps123
   go_wp2_with (first
    | (go_at_call 124;(with_reducible refine(A.out _).mono ?_);rintro e w1 ⟨rfl,hw1⟩;obtain rfl:=hw1.symm)
    | (go_at_call 61;(with_reducible refine T.out.mono ?_);rintro e w2 ⟨rfl,hr2,hk2⟩;have HB2:=Hd (hk.out.keep HKB.out hk2.out);have z2:=HB2.out.cell))
   have HRD:Hid (Cd w2.drew b g cap dv ts xb (stepS x)):=Hd (hr2.out.below (below_dr (qB _ _) 1))
   go_region_held3 (fun w'=>w'.cell? ⟨k,0,none⟩=some (.pointer (some ⟨b,0,none⟩)))
    (first | assumption | go_keep)
    (first
     | (go_at_call 75;(with_reducible refine(PU.out _ ?_).mono ?_);(focus with_reducible exact hr5);rintro e w6 ⟨rfl,hr6,hk6⟩;have z6:=(HB5.out.keep HKB.out hk6.out).cell)
     | (go_at_call 119;(with_reducible refine(C1.out _ ?_).mono ?_);(focus with_reducible exact HRD);rintro e w5 ⟨rfl,hr5,hk5⟩;have HB5:=Hd (BoxR.keep (W:=w2.drew) HB2.out HKB.out hk5.out);have z5:=HB5.out.cell))
   go_wp2_with fail
   go_ret
   exact⟨hk2.out.trans ((RX.of_below (below_dr (qB _ _) 1) (ql hr2.out.size) hr2.out.xlt).trans (hk5.out.trans hk6.out)),.inl ⟨HYT.out.1.trans HY.out,rfl,hr6.out⟩⟩
  ·have C1:Hid (∀W,Hid (Cd W b g cap dv ts xb (stepS x))→Calls prog 119 #[.pointer (some ⟨b,0,none⟩)] W fun r Y=>CdBad b xb W y.code y.pos r Y):=Hd fun W h=>(C.out W h).mono fun r Y hh=>hh.bad hy
   have HY:=Hd hy
   clear C hy
   go_enter Tryz.func123,Tryz.ntmps123
   go_wp2_with (first
    | (go_at_call 124;(with_reducible refine(A.out _).mono ?_);rintro e w1 ⟨rfl,hw1⟩;obtain rfl:=hw1.symm)
    | (go_at_call 61;(with_reducible refine T.out.mono ?_);rintro e w2 ⟨rfl,hr2,hk2⟩;have HB2:=Hd (hk.out.keep HKB.out hk2.out);have z2:=HB2.out.cell))
   have HRD:Hid (Cd w2.drew b g cap dv ts xb (stepS x)):=Hd (hr2.out.below (below_dr (qB _ _) 1))
   have z3:w2.drew.cell? ⟨k,0,none⟩=some (.pointer (some ⟨b,0,none⟩)):=z2
   go_region_with (go_at_call 119;(with_reducible refine(C1.out _ ?_).mono ?_);(focus with_reducible exact HRD);rintro e w5 ⟨rfl,hk5⟩;refine dummyAny prog w5 ⟨rfl,hk2.out.trans ((RX.of_below (below_dr (qB _ _) 1) (ql hr2.out.size) hr2.out.xlt).trans hk5.out),.inr ⟨by rw[HYT.out.1];exact HY.out,by rw[HYT.out.1,HYT.out.2]⟩⟩ ?_)
   all_goals trivial
theorem enter_too {ts:List Tok} {σ:RS} (hc:σ.code=0) (hd:σ.deep=30):(enterS ts σ).code=3∧(enterS ts σ).pos=((tokL ts σ.at_).at_:Int):=by
 unfold enterS tooDeep failS
 rw[qT hc,qT hd,if_pos hc]
 exact⟨rfl,rfl⟩
theorem enter_go {ts:List Tok} {σ:RS} (hd:σ.deep≠30):enterS ts σ={ σ with deep:=σ.deep+1 }:=by
 unfold enterS tooDeep
 rw[qF hd,Bool.and_false]
 rfl
theorem boxR_new (W:World) (b:Nat):BoxR (W.alloc (.cells #[.pointer (some ⟨b,0,none⟩)] 48)) W.heap.size b:=heap_alloc_new W _
theorem deep_rule (b g cap:Nat) (dv:Value) (ts:List Tok) (xb:Nat→Prop) (F:Nat) (hF:∀args w,(callFunc F args).run prog w=.ok (.enter F args) w) (σ:RS) (hc:σ.code=0) (hok:okS σ=true) (v:Int) (τ:RS)
  (hcase:((enterS ts σ).code≠0∧τ=leaveS (enterS ts σ))∨((enterS ts σ).code=0∧∃y,τ=leaveS y∧0≤y.deep∧y.deep≤31∧∀(k:Nat),k≠b→∀W,Hid (Cd W b g cap dv ts xb (enterS ts σ))→Hid (BoxR W k b)→Calls prog F #[.pointer (some ⟨k,0,none⟩)] W fun r Y=>CdRet b g cap dv ts xb W (.int .i64 v) y r Y))
  (k:Nat) (hkb:k≠b) (W:World) (h:Hid (Cd W b g cap dv ts xb σ)) (hk:Hid (BoxR W k b)) :
  Calls prog 47 #[.pointer (some ⟨b,0,none⟩),.func (.func F) #[] #[.pointer (some ⟨k,0,none⟩)]] W fun r Y=>CdRet b g cap dv ts xb W (.int .i64 v) τ r Y:=by
 obtain⟨ok1,ok2,ok3⟩:=okS_iff.1 hok
 by_cases hd:σ.deep=30
 ·obtain⟨e1,e2⟩:=enter_too (ts:=ts) hc hd
  rcases hcase with ⟨h1,h2⟩ | ⟨h1,_⟩
  ·refine(deeper_deep b g cap dv ts xb σ _ W h hc hd).mono fun r Y hh=>?_
   refine⟨hh.2.out,.inr ⟨?_,?_⟩⟩
   ·rw[h2];show(enterS ts σ).code≠0;rw[e1];decide
   ·rw[h2];show r=.panicked [{ v:=refusalV (enterS ts σ).code (enterS ts σ).pos,recovered:=false }];rw[e1,e2];exact hh.1
  ·rw[e1] at h1;cases h1
 ·have e:=enter_go (ts:=ts) hd
  rcases hcase with ⟨h1,h2⟩ | ⟨h1,y,h2,y0,y1,C⟩
  ·rw[e] at h1;exact absurd hc h1
  ·rw[h2]
   refine deeper_go b g cap dv ts xb σ F (.pointer (some ⟨k,0,none⟩)) v y W h hc hd ok2 ok3 y0 y1 hF fun W' h' hr'=>?_
   exact C k hkb W' (Hd (by rw[e];exact h'.out)) (Hd (hk.out.keep hkb hr'.out))
theorem enters_pre1:∀args w,(callFunc 123 args).run prog w=.ok (.enter 123 args) w:=enters_of Tryz.func123 (by kernel_rfl) rfl
theorem enters_expr1:∀args w,(callFunc 48 args).run prog w=.ok (.enter 48 args) w:=enters_of Tryz.func48 (by kernel_rfl) rfl
theorem pre_rule (b g cap:Nat) (dv:Value) (ts:List Tok) (xb:Nat→Prop) (f:Nat) (IA:RuleC b g cap dv ts xb 125 f .atom) (IP:RuleC b g cap dv ts xb 119 f .pre):RuleC b g cap dv ts xb 119 (f+1) .pre:=by
 intro σ v l τ hc hr W h
 obtain⟨hok,hcase⟩:=pre_cases hr
 have hbs:=h.out.size
 have D:Hid (∀(k:Nat),k≠b→∀W,Hid (Cd W b g cap dv ts xb σ)→Hid (BoxR W k b)→Calls prog 47 #[.pointer (some ⟨b,0,none⟩),.func (.func 123) #[] #[.pointer (some ⟨k,0,none⟩)]] W fun r Y=>CdRet b g cap dv ts xb W (.int .i64 v) τ r Y):=Hd (by
  refine deep_rule b g cap dv ts xb _ enters_pre1 σ hc hok v τ ?_
  rcases hcase with ⟨h1,h2⟩ | ⟨h1,h2,v',l',y,h3,h4,h5⟩ | ⟨h1,h2,v',l',y,h3,h4,h5⟩
  ·injection h2 with e1 e2;injection e2 with e2 e3
   exact .inl ⟨h1,e3⟩
  ·injection h5 with e1 e2;injection e2 with e2 e3
   obtain⟨k1,k2,k3⟩:=okS_iff.1 h4
   exact .inr ⟨h1,y,e3,k2,by omega,fun k hk W h hb=>pre1_any b g cap dv ts xb f IA IP (enterS ts σ) h1 v l' y y (.inl ⟨h2,by rw[e1];exact h3⟩) k hk W h hb⟩
  ·injection h5 with e1 e2;injection e2 with e2 e3
   obtain⟨k1,k2,k3⟩:=okS_iff.1 h4
   exact .inr ⟨h1,_,e3,k2,(show y.deep≤31 by omega),fun k hk W h hb=>pre1_any b g cap dv ts xb f IA IP (enterS ts σ) h1 v l' _ y (.inr ⟨h2,v',l',h3,h4,e1,rfl⟩) k hk W h hb⟩)
 have MF:=runF
 clear hcase hr hok
 obtain⟨W1,hW1⟩:∃W1,W1=W.alloc (.cells #[.pointer (some ⟨b,0,none⟩)] 48):=⟨_,rfl⟩
 have hb1:Below W.heap.size W W1:=by rw[hW1];exact(qB _ _).alloc (qL _) _
 have C:=Hd (D.out W.heap.size (by omega) W1 (Hd (h.out.below hb1)) (Hd (by rw[hW1];exact boxR_new W b)))
 have HB:=Hd (RX.of_below (xb:=xb) hb1 (ql hbs) h.out.xlt)
 clear D hb1
 by_cases h0:τ.code=0
 ·have C1:=Hd (C.out.mono fun r Y hh=>hh.ok h0)
  have H0:=Hd h0
  clear C h0 hc
  go_enter Tryz.func119,Tryz.ntmps119
  go_wp2_with (go_at_call 47;rw[←hW1];clear hW1;(with_reducible refine C1.out.mono ?_);rintro e w2 ⟨rfl,hr,hk⟩)
  go_ret
  exact⟨HB.out.trans hk.out,.inl ⟨H0.out,rfl,hr.out⟩⟩
 ·have C1:=Hd (C.out.mono fun r Y hh=>hh.bad h0)
  have H0:=Hd h0
  clear C h0 hc
  go_enter Tryz.func119,Tryz.ntmps119
  go_wp2_with (go_at_call 47;rw[←hW1];clear hW1;(with_reducible refine C1.out.mono ?_);rintro e w2 ⟨rfl,hk⟩)
  exact⟨rfl,HB.out.trans hk.out,.inr ⟨H0.out,rfl⟩⟩
end Go.Proofs.YtpfmlfcaadnnpaaGreatDoor
