import Derived.Test.YtpfmlfcaadnnpaaGreatDoorPg16
set_option maxHeartbeats 16000000
set_option maxRecDepth 100000
set_option linter.unusedVariables false
open Go.Proofs.Tryz(prog)
namespace Go.Proofs.YtpfmlfcaadnnpaaGreatDoor
open Go.RowKit Lx
structure CiSg (W Y:World) (b g cap:Nat) (dv:Value) (ts:List Tok) (xb:Nat→Prop) (σ:RS) (acc:List It) (v:Value):Prop where
 cd:Cd Y b g cap dv ts xb σ
 rx:RX b xb W Y
 own:ItsOwn Y W.heap.size v acc
theorem CiSg.call {W Y Z:World} {b g cap:Nat} {dv:Value} {ts:List Tok} {xb:Nat→Prop} {σ τ:RS} {acc:List It} {v:Value} (h:CiSg W Y b g cap dv ts xb σ acc v) (hb:b<W.heap.size) (hr:Cd Z b g cap dv ts xb τ) (hk:RX b xb Y Z):CiSg W Z b g cap dv ts xb τ acc v :=
 ⟨hr,h.rx.trans hk,h.own.keep hb hk.rk⟩
theorem CiSg.below {W Y Z:World} {b g cap:Nat} {dv:Value} {ts:List Tok} {xb:Nat→Prop} {σ:RS} {acc:List It} {v:Value} (h:CiSg W Y b g cap dv ts xb σ acc v) (hb:b<W.heap.size) (hz:Below Y.heap.size Y Z):CiSg W Z b g cap dv ts xb σ acc v :=
 h.call hb (h.cd.below hz) (RX.of_below hz (ql h.cd.size) h.cd.xlt)
def CItI (W:World) (b g cap:Nat) (dv:Value) (ts:List Tok) (xb:Nat→Prop) (f:Nat) (all:Bool) (R:List It×RS) (n0 n:Nat) (x:Value×World):Prop :=
 ∃(acc:List It) (τ:RS),n≤n0∧τ.code=0∧itsL ts f all n acc τ=some R∧CiSg W x.2 b g cap dv ts xb τ acc x.1
def CisRet (b g cap:Nat) (dv:Value) (ts:List Tok) (xb:Nat→Prop) (W:World) (l:List It) (σ:RS) (bad:RS) (r:Ending) (Y:World):Prop :=
 (σ.code=0∧bad.code=0∧∃o c,r=.returned (.slice o l.length c)∧Hid (CiSg W Y b g cap dv ts xb σ l (.slice o l.length c)))∨(bad.code≠0∧r=.panicked [{ v:=refusalV bad.code bad.pos,recovered:=false }]∧Hid (RX b xb W Y))
theorem citems_any (b g cap:Nat) (dv:Value) (ts:List Tok) (xb:Nat→Prop) (σ:RS) (hc:σ.code=0) (f n0:Nat) (R:List It×RS) (hr:itsL ts f true n0 [] σ=some R) (W:World) (h:Hid (Cd W b g cap dv ts xb σ)) :
  Calls prog 70 #[.pointer (some ⟨b,0,none⟩)] W fun r Y=>CisRet b g cap dv ts xb W R.1 R.2 (wantS ts [125] R.2) r Y:=by
 obtain⟨m,hm⟩:=least_of (CItI W b g cap dv ts xb f true R n0)
 have HM:=Hd hm
 have hbs:=h.out.size
 have HRUN:=Hd hr
 have HC0:=Hd hc
 have HST:Hid (CiSg W W b g cap dv ts xb σ [] (.slice none 0 0)):=Hd ⟨h.out,RX.refl _ _ _,ItsOwn.nil _ _⟩
 clear hm hr hc
 go_enter Tryz.func70,Tryz.ntmps70
 go_wp2_with fail
 go_loopw [3] (fun v wr=>∃o nn c,v=.slice o nn c∧Hid (∃n,CItI W b g cap dv ts xb f true R n0 n (v,wr))) (fun v wr=>m (v,wr))
 case atStart=>exact⟨_,_,_,rfl,Hd ⟨n0,[],σ,qL _,HC0.out,HRUN.out,HST.out⟩⟩
 case round =>
  obtain⟨ov,nv,cv,rfl,hI⟩:=hrel
  obtain⟨hm1,hm2⟩:=HM.out _ hI.out
  obtain⟨acc,τ,hnf,hc,hrun,hst⟩:=hm1
  obtain⟨nn,hmn⟩:∃nn,nn=m (.slice ov nv cv,wr):=⟨_,rfl⟩
  rw[←hmn] at hnf hrun
  obtain⟨k,rfl,hacc,hcase⟩:=itsL_cases hrun
  have HMN:=Hd hmn
  have HNV:Hid (nv=acc.length):=Hd (by obtain⟨o',c',e⟩:=hst.own.form;injection e)
  have hnv:nv≤40000:=by have:=HNV.out;omega
  have HKF:=Hd hnf
  obtain⟨wA,hwA⟩:∃wA,wA=wr.alloc (.cells #[.string ⟨#[125]⟩] 9):=⟨_,rfl⟩
  have hbA:Below wr.heap.size wr wA:=by rw[hwA];exact(qB _ _).alloc (qL _) _
  have HST':=Hd (hst.below hbs hbA)
  have HCD:Hid (Cd wA b g cap dv ts xb τ):=Hd HST'.out.cd
  have F:=Hd (fits_any b g cap dv ts xb τ wr.heap.size 1 [[125]] wA HCD hc (by decide) rfl (by decide) (Hd (by rw[hwA];exact strs_new wr [[125]] _)))
  have HC:=Hd hc
  clear hrun hmn hm2 hI hst hacc hnf HST HRUN hbA
  by_cases hi:isS ts [125] τ=true
  ·have hR:R=(acc,τ):=by
    rcases hcase with ⟨_,x,τ',h1,_⟩ | ⟨_,x,τ',h1,h2⟩ | ⟨h1,_⟩
    ·rw[itemS_end hi] at h1;cases h1
    ·rw[itemS_end hi] at h1;cases h1;exact h2
    ·exact absurd hc h1
   have F1:Hid (Calls prog 49 #[.pointer (some ⟨b,0,none⟩),.slice (some ⟨wr.heap.size,0,none⟩) 1 1] wA fun r Y=>r=.returned (.bool true)∧wA=Y):=Hd (F.out.mono fun r Y hh=>by rw[show fitsB ts [[125]] τ=true by unfold fitsB;simp[hi]] at hh;exact⟨hh.1,hh.2.symm⟩)
   have HRR:=Hd hR
   have HW:Hid ((wantS ts [125] τ).code=0):=Hd (by unfold wantS;rw[if_pos hi];exact hc)
   clear F hi hcase hR hc
   go_wp2_with (go_at_call 49;rw[←hwA];(with_reducible refine F1.out.mono ?_);rintro e w1 ⟨rfl,rfl⟩;clear hwA)
   go_ret
   rw[HRR.out]
   exact .inl ⟨HC.out,HW.out,ov,cv,by rw[HNV.out];rfl,Hd (by have:=HST'.out;rw[HNV.out] at this;exact this)⟩
  ·have hi':=Bool.eq_false_iff.2 hi
   have F1:Hid (Calls prog 49 #[.pointer (some ⟨b,0,none⟩),.slice (some ⟨wr.heap.size,0,none⟩) 1 1] wA fun r Y=>r=.returned (.bool false)∧wA=Y):=Hd (F.out.mono fun r Y hh=>by rw[show fitsB ts [[125]] τ=false by unfold fitsB;simp[hi']] at hh;exact⟨hh.1,hh.2.symm⟩)
   have HI':=Hd hi'
   obtain⟨x,ok,τ',hit,hrest⟩:∃x ok τ',itemS ts f true τ=some (x,ok,τ')∧((ok=true∧itsL ts f true k (acc++[x]) τ'=some R)∨(ok=false∧R=(acc,τ'))):=by
    rcases hcase with ⟨_,x,τ',h1,h2⟩ | ⟨_,x,τ',h1,h2⟩ | ⟨h1,_⟩
    ·exact⟨x,true,τ',h1,.inl ⟨rfl,h2⟩⟩
    ·exact⟨x,false,τ',h1,.inr ⟨rfl,h2⟩⟩
    ·exact absurd hc h1
   have D:=citem_does b g cap dv ts xb f τ hc x ok τ' hit
   clear F hi hi' hcase hit
   rcases D with ⟨d1,d2,D⟩ | ⟨d1,d2,D⟩
   ·have D1:=Hd (D wA HCD)
    have HR1:=Hd hrest
    have HD1:=Hd d1
    clear D d1 hrest hc
    go_wp2_with (first
     | (go_at_call 49;rw[←hwA];(with_reducible refine F1.out.mono ?_);rintro e w1 ⟨rfl,rfl⟩;clear hwA)
     | (go_at_call 89;(with_reducible refine D1.out.mono ?_);rintro e w1 hh;rcases hh with ⟨hk,⟨z,so,sn,sc,rfl,hr,how⟩ | ⟨z,rfl⟩⟩;rotate_left;(rcases HR1.out with ⟨e1,_⟩ | ⟨_,e2⟩;(exact absurd (of_decide_eq_true (HD1.out.symm.trans e1)) z);(obtain⟨k1,k2⟩:=stays_want ts [125] τ' z;exact⟨rfl,.inr ⟨by rw[e2,k1];exact z,by rw[e2,k1,k2],Hd (HST'.out.rx.trans hk)⟩⟩));have HS1:=Hd (own_base how HST'.out.rx.size);have HSG:=Hd (HST'.out.call hbs hr hk);have HZ:=Hd z;clear hr hk how z;have hsz:=HSG.out.rx.size;obtain⟨q,hq1,hq2,hq3⟩:=HSG.out.own;have HQ1:=Hd hq1;have HQ2:=Hd hq2;have HQ3:=Hd hq3;clear hq1 hq2 hq3;unfold itC)
     | (at_builtin;refine wpList_its _ rfl _ _ rfl W.heap.size (.slice ov nv cv) nv (itsC q) rfl (by have:=(HQ2.out.alloc (.cells #[.int .i64 x.kind,.string x.name,.int .i64 x.type,.int .i64 x.e,.int .i64 x.f,.slice so sn sc,.string x.state,.string x.next,.int .i64 x.pos] 65));rw[←HNV.out] at this;exact this) w1.heap.size 65 (.int .i64 x.kind) (.string x.name) (.int .i64 x.type) (.int .i64 x.e) (.int .i64 x.f) (.slice so sn sc) (.string x.state) (.string x.next) (.int .i64 x.pos) rfl (heap_alloc_new _ _) (by intro u hu;simp only[List.mem_cons,List.not_mem_nil,or_false] at hu;rcases hu with rfl | rfl | rfl | rfl | rfl | rfl | rfl | rfl | rfl <;> rfl) hnv (by simp;omega) ?_;intro gg cc w2 ho hg;have HO2:=Hd ho;have HG:=Hd hg;clear ho hg))
    have hbl:Below w1.heap.size w1 (w1.alloc (.cells #[.int .i64 x.kind,.string x.name,.int .i64 x.type,.int .i64 x.e,.int .i64 x.f,.slice so sn sc,.string x.state,.string x.next,.int .i64 x.pos] 65)):=(qB _ _).alloc (qL _) _
    have HO9:=own_below HQ2.out hbl
    have hql:nv=q.length:=by rw[HNV.out,←HQ1.out,List.length_map]
    have HP:=its_push (n:=nv) HQ3.out HS1.out hbl (by have:=HO9;rw[←HNV.out] at this;exact this) HG.out hql HO2.out
    rw[HQ1.out] at HP
    have hgo:itsL ts f true k (acc++[x]) τ'=some R:=by
     rcases HR1.out with ⟨_,e1⟩ | ⟨e1,_⟩
     ·exact e1
     ·rw[HD1.out,HZ.out] at e1;exact absurd e1 (by decide)
    have HSB:=HSG.out.below hbs hbl
    have HI:CItI W b g cap dv ts xb f true R n0 k (.slice (some ⟨gg,0,none⟩) (nv+1) cc,w2):=⟨acc++[x],τ',by have:=HKF.out;omega,HZ.out,hgo,HSB.cd.grownT HO9 hbs (by decide) (by decide) HG.out,HSB.rx.grown h.out.xlt hbs HO9 HG.out,HP⟩
    exact⟨⟨_,_,_,rfl,Hd ⟨k,HI⟩⟩,by have h5:=(HM.out _ ⟨k,HI⟩).2 k HI;have h6:=HMN.out;omega⟩
   ·have D1:=Hd (D wA HCD)
    have hR:R=(acc,τ):=by
     rcases hrest with ⟨e1,_⟩ | ⟨_,e2⟩
     ·rw[d1] at e1;cases e1
     ·rw[e2,d2]
    have HW:Hid ((wantS ts [125] τ).code=2∧(wantS ts [125] τ).pos=((tokL ts τ.at_).at_:Int)):=Hd (by unfold wantS failS;rw[if_neg (by rw[HI'.out];decide),if_pos hc];exact⟨rfl,rfl⟩)
    have HRR:=Hd hR
    clear D d1 d2 hrest hR hc
    go_wp2_with (first
     | (go_at_call 49;rw[←hwA];(with_reducible refine F1.out.mono ?_);rintro e w1 ⟨rfl,rfl⟩;clear hwA)
     | (go_at_call 89;(with_reducible refine D1.out.mono ?_);rintro e w1 ⟨rfl,hk⟩))
    exact⟨rfl,.inr ⟨by rw[HRR.out,HW.out.1];decide,by rw[HRR.out,HW.out.1,HW.out.2],Hd (HST'.out.rx.trans hk.out)⟩⟩
theorem clets_any (b g cap:Nat) (dv:Value) (ts:List Tok) (xb:Nat→Prop) (σ:RS) (hc:σ.code=0) (f n0:Nat) (R:List It×RS) (hr:itsL ts f false n0 [] σ=some R) (W:World) (h:Hid (Cd W b g cap dv ts xb σ)) :
  Calls prog 69 #[.pointer (some ⟨b,0,none⟩)] W fun r Y=>CisRet b g cap dv ts xb W R.1 R.2 R.2 r Y:=by
 obtain⟨m,hm⟩:=least_of (CItI W b g cap dv ts xb f false R n0)
 have HM:=Hd hm
 have hbs:=h.out.size
 have HRUN:=Hd hr
 have HC0:=Hd hc
 have HST:Hid (CiSg W W b g cap dv ts xb σ [] (.slice none 0 0)):=Hd ⟨h.out,RX.refl _ _ _,ItsOwn.nil _ _⟩
 clear hm hr hc
 go_enter Tryz.func69,Tryz.ntmps69
 go_wp2_with fail
 go_loopw [3] (fun v wr=>∃o nn c,v=.slice o nn c∧Hid (∃n,CItI W b g cap dv ts xb f false R n0 n (v,wr))) (fun v wr=>m (v,wr))
 case atStart=>exact⟨_,_,_,rfl,Hd ⟨n0,[],σ,qL _,HC0.out,HRUN.out,HST.out⟩⟩
 case round =>
  obtain⟨ov,nv,cv,rfl,hI⟩:=hrel
  obtain⟨hm1,hm2⟩:=HM.out _ hI.out
  obtain⟨acc,τ,hnf,hc,hrun,hst⟩:=hm1
  obtain⟨nn,hmn⟩:∃nn,nn=m (.slice ov nv cv,wr):=⟨_,rfl⟩
  rw[←hmn] at hnf hrun
  obtain⟨k,rfl,hacc,hcase⟩:=itsL_cases hrun
  have HMN:=Hd hmn
  have HNV:Hid (nv=acc.length):=Hd (by obtain⟨o',c',e⟩:=hst.own.form;injection e)
  have hnv:nv≤40000:=by have:=HNV.out;omega
  have HKF:=Hd hnf
  obtain⟨wA,hwA⟩:∃wA,wA=wr.alloc (.cells #[.string ⟨#[108,101,116]⟩] 9):=⟨_,rfl⟩
  have hbA:Below wr.heap.size wr wA:=by rw[hwA];exact(qB _ _).alloc (qL _) _
  have HST':=Hd (hst.below hbs hbA)
  have HCD:Hid (Cd wA b g cap dv ts xb τ):=Hd HST'.out.cd
  have F:=Hd (fits_any b g cap dv ts xb τ wr.heap.size 1 [[108,101,116]] wA HCD hc (by decide) rfl (by decide) (Hd (by rw[hwA];exact strs_new wr [[108,101,116]] _)))
  have HC:=Hd hc
  clear hrun hmn hm2 hI hst hacc hnf HST HRUN hbA
  by_cases hi:isS ts [108,101,116] τ=true
  ·have F1:Hid (Calls prog 49 #[.pointer (some ⟨b,0,none⟩),.slice (some ⟨wr.heap.size,0,none⟩) 1 1] wA fun r Y=>r=.returned (.bool true)∧wA=Y):=Hd (F.out.mono fun r Y hh=>by rw[show fitsB ts [[108,101,116]] τ=true by unfold fitsB;simp[hi]] at hh;exact⟨hh.1,hh.2.symm⟩)
   obtain⟨x,ok,τ',hit,hrest⟩:∃x ok τ',itemS ts f false τ=some (x,ok,τ')∧((ok=true∧itsL ts f false k (acc++[x]) τ'=some R)∨(ok=false∧R=(acc,τ'))):=by
    rcases hcase with ⟨_,x,τ',h1,h2⟩ | ⟨_,x,τ',h1,h2⟩ | ⟨h1,_⟩
    ·exact⟨x,true,τ',h1,.inl ⟨rfl,h2⟩⟩
    ·exact⟨x,false,τ',h1,.inr ⟨rfl,h2⟩⟩
    ·exact absurd hc h1
   obtain⟨d1,d2,D⟩:=clet_does b g cap dv ts xb f τ hc hi false x ok τ' hit
   have D1:=Hd (D wA HCD)
   have HR1:=Hd hrest
   have HD1:=Hd d1
   clear F hi hcase hit D d1 hrest hc
   go_wp2_with (first
    | (go_at_call 49;rw[←hwA];(with_reducible refine F1.out.mono ?_);rintro e w1 ⟨rfl,rfl⟩;clear hwA)
    | (go_at_call 88;(with_reducible refine D1.out.mono ?_);rintro e w1 hh;rcases hh with ⟨hk,⟨z,so,sn,sc,rfl,hr,how⟩ | ⟨z,rfl⟩⟩;rotate_left;(rcases HR1.out with ⟨e1,_⟩ | ⟨_,e2⟩;(exact absurd (of_decide_eq_true (HD1.out.symm.trans e1)) z);exact⟨rfl,.inr ⟨by rw[e2];exact z,by rw[e2],Hd (HST'.out.rx.trans hk)⟩⟩);have HS1:=Hd (own_base how HST'.out.rx.size);have HSG:=Hd (HST'.out.call hbs hr hk);have HZ:=Hd z;clear hr hk how z;have hsz:=HSG.out.rx.size;obtain⟨q,hq1,hq2,hq3⟩:=HSG.out.own;have HQ1:=Hd hq1;have HQ2:=Hd hq2;have HQ3:=Hd hq3;clear hq1 hq2 hq3;unfold itC)
    | (at_builtin;refine wpList_its _ rfl _ _ rfl W.heap.size (.slice ov nv cv) nv (itsC q) rfl (by have:=(HQ2.out.alloc (.cells #[.int .i64 x.kind,.string x.name,.int .i64 x.type,.int .i64 x.e,.int .i64 x.f,.slice so sn sc,.string x.state,.string x.next,.int .i64 x.pos] 65));rw[←HNV.out] at this;exact this) w1.heap.size 65 (.int .i64 x.kind) (.string x.name) (.int .i64 x.type) (.int .i64 x.e) (.int .i64 x.f) (.slice so sn sc) (.string x.state) (.string x.next) (.int .i64 x.pos) rfl (heap_alloc_new _ _) (by intro u hu;simp only[List.mem_cons,List.not_mem_nil,or_false] at hu;rcases hu with rfl | rfl | rfl | rfl | rfl | rfl | rfl | rfl | rfl <;> rfl) hnv (by simp;omega) ?_;intro gg cc w2 ho hg;have HO2:=Hd ho;have HG:=Hd hg;clear ho hg))
   have hbl:Below w1.heap.size w1 (w1.alloc (.cells #[.int .i64 x.kind,.string x.name,.int .i64 x.type,.int .i64 x.e,.int .i64 x.f,.slice so sn sc,.string x.state,.string x.next,.int .i64 x.pos] 65)):=(qB _ _).alloc (qL _) _
   have HO9:=own_below HQ2.out hbl
   have hql:nv=q.length:=by rw[HNV.out,←HQ1.out,List.length_map]
   have HP:=its_push (n:=nv) HQ3.out HS1.out hbl (by have:=HO9;rw[←HNV.out] at this;exact this) HG.out hql HO2.out
   rw[HQ1.out] at HP
   have hgo:itsL ts f false k (acc++[x]) τ'=some R:=by
    rcases HR1.out with ⟨_,e1⟩ | ⟨e1,_⟩
    ·exact e1
    ·rw[HD1.out,HZ.out] at e1;exact absurd e1 (by decide)
   have HSB:=HSG.out.below hbs hbl
   have HI:CItI W b g cap dv ts xb f false R n0 k (.slice (some ⟨gg,0,none⟩) (nv+1) cc,w2):=⟨acc++[x],τ',by have:=HKF.out;omega,HZ.out,hgo,HSB.cd.grownT HO9 hbs (by decide) (by decide) HG.out,HSB.rx.grown h.out.xlt hbs HO9 HG.out,HP⟩
   exact⟨⟨_,_,_,rfl,Hd ⟨k,HI⟩⟩,by have h5:=(HM.out _ ⟨k,HI⟩).2 k HI;have h6:=HMN.out;omega⟩
  ·have hi':=Bool.eq_false_iff.2 hi
   have hR:R=(acc,τ):=by
    rcases hcase with ⟨_,x,τ',h1,_⟩ | ⟨_,x,τ',h1,h2⟩ | ⟨h1,_⟩
    ·rw[itemS_let hi'] at h1;cases h1
    ·rw[itemS_let hi'] at h1;cases h1;exact h2
    ·exact absurd hc h1
   have F1:Hid (Calls prog 49 #[.pointer (some ⟨b,0,none⟩),.slice (some ⟨wr.heap.size,0,none⟩) 1 1] wA fun r Y=>r=.returned (.bool false)∧wA=Y):=Hd (F.out.mono fun r Y hh=>by rw[show fitsB ts [[108,101,116]] τ=false by unfold fitsB;simp[hi']] at hh;exact⟨hh.1,hh.2.symm⟩)
   have HRR:=Hd hR
   clear F hi hi' hcase hR hc
   go_wp2_with (go_at_call 49;rw[←hwA];(with_reducible refine F1.out.mono ?_);rintro e w1 ⟨rfl,rfl⟩;clear hwA)
   go_ret
   rw[HRR.out]
   exact .inl ⟨HC.out,HC.out,ov,cv,by rw[HNV.out];rfl,Hd (by have:=HST'.out;rw[HNV.out] at this;exact this)⟩
def declS (ts:List Tok) (f:Nat) (σ:RS):Option (De×RS) :=
 if isS ts [102,117,110] σ=true then(paramsS ts f (nameS ts (stepS σ))).bind fun r=>(exprS ts f (wantS ts [61] (kindS ts (wantS ts [58] r.2)))).bind fun e=>some (⟨1,str (nameV ts (stepS σ)),r.1,[],kindV ts (wantS ts [58] r.2),e.1,((tokL ts σ.at_).at_:Int)⟩,wantS ts [59] e.2)
 else if isS ts [110,111,100,101] σ=true then(paramsS ts f (nameS ts (stepS σ))).bind fun r=>(itsL ts f false f [] (wantS ts [123] (kindS ts (wantS ts [58] r.2)))).bind fun i=>(exprS ts f (wantS ts [114,101,116,117,114,110] i.2)).bind fun e=>some (⟨2,str (nameV ts (stepS σ)),r.1,i.1,kindV ts (wantS ts [58] r.2),e.1,((tokL ts σ.at_).at_:Int)⟩,wantS ts [125] (wantS ts [59] e.2))
 else(paramsS ts f (nameS ts (wantS ts [104,121,98,114,105,100] σ))).bind fun r=>(itsL ts f true f [] (wantS ts [123] r.2)).bind fun i=>some (⟨3,str (nameV ts (wantS ts [104,121,98,114,105,100] σ)),r.1,i.1,0,0,((tokL ts σ.at_).at_:Int)⟩,wantS ts [125] i.2)
def declsG (ts:List Tok) (f:Nat):Nat→List De→RS→Option (List De×RS)
 | 0,_,_=>none
 | n+1,acc,σ=>if acc.length≤40000 then(if σ.code=0 then(if(tokL ts σ.at_).kind=5 then some (acc,σ) else(declS ts f σ).bind fun r=>declsG ts f n (acc++[r.1]) r.2) else some (acc,σ)) else none
theorem declsG_cases {ts:List Tok} {f n:Nat} {acc:List De} {σ:RS} {R:List De×RS} (h:declsG ts f n acc σ=some R):∃k,n=k+1∧acc.length≤40000 ∧
  ((σ.code=0∧(tokL ts σ.at_).kind=5∧R=(acc,σ))∨(σ.code=0∧(tokL ts σ.at_).kind≠5∧∃d τ,declS ts f σ=some (d,τ)∧declsG ts f k (acc++[d]) τ=some R)∨(σ.code≠0∧R=(acc,σ))):=by
 cases n with
 | zero=>cases h
 | succ k =>
  simp only[declsG] at h
  split at h
  ·rename_i hl
   refine⟨k,rfl,hl,?_⟩
   split at h
   ·rename_i hc
    split at h
    ·rename_i h5;exact .inl ⟨hc,h5,by simpa using h.symm⟩
    ·rename_i h5
     obtain⟨⟨d,τ⟩,h1,h2⟩:=Option.bind_eq_some_iff.1 h
     exact .inr (.inl ⟨hc,h5,d,τ,h1,h2⟩)
   ·rename_i hc;exact .inr (.inr ⟨hc,by simpa using h.symm⟩)
  ·cases h
def deGC (x:De) (pv iv:Value):List Value:=[.int .i64 x.kind,.string x.name,pv,iv,.int .i64 x.type,.int .i64 x.e,.int .i64 x.pos]
def desGC (l:List (De×Value×Value)):List Value:=l.flatMap fun x=>deGC x.1 x.2.1 x.2.2
theorem desGC_snoc (l:List (De×Value×Value)) (x:De×Value×Value):desGC (l++[x])=desGC l++deGC x.1 x.2.1 x.2.2:=by unfold desGC;rw[List.flatMap_append];simp
def DesOwn (W:World) (B:Nat) (v:Value) (l:List De):Prop :=
 ∃q:List (De×Value×Value),q.map Prod.fst=l∧W.ownsRow B 57 7 v l.length (desGC q)∧∀x ∈ q,W.ownsRow B 62 2 x.2.1 x.1.params.length (paC x.1.params)∧ItsOwn W B x.2.2 x.1.items
theorem DesOwn.keep {b:Nat} {W Y:World} {B:Nat} {v:Value} {l:List De} (h:DesOwn W B v l) (hB:b<B) (hk:RK b W Y):DesOwn Y B v l:=by
 obtain⟨q,h1,h2,h3⟩:=h
 exact⟨q,h1,own_keepT h2 (by decide) hB hk,fun x hx=>⟨own_keepT (h3 x hx).1 (by decide) hB hk,(h3 x hx).2.keep hB hk⟩⟩
theorem its_same {W Y:World} {B:Nat} {v:Value} {l:List It} (h:ItsOwn W B v l) (hk:∀k,B≤k→k<W.heap.size→Y.heap[k]?=W.heap[k]?):ItsOwn Y B v l:=by
 obtain⟨q,h1,h2,h3⟩:=h
 exact⟨q,h1,rd_own_same h2 fun k e=>hk k (h2.lt k e).1 (h2.lt k e).2,fun x hx=>rd_own_same (h3 x hx) fun k e=>hk k ((h3 x hx).lt k e).1 ((h3 x hx).lt k e).2⟩
theorem DesOwn.same {W Y:World} {B:Nat} {v:Value} {l:List De} (h:DesOwn W B v l) (hk:∀k,B≤k→k<W.heap.size→Y.heap[k]?=W.heap[k]?):DesOwn Y B v l:=by
 obtain⟨q,h1,h2,h3⟩:=h
 exact⟨q,h1,rd_own_same h2 fun k e=>hk k (h2.lt k e).1 (h2.lt k e).2,fun x hx=>⟨rd_own_same (h3 x hx).1 fun k e=>hk k ((h3 x hx).1.lt k e).1 ((h3 x hx).1.lt k e).2,its_same (h3 x hx).2 hk⟩⟩
theorem DesOwn.base {W:World} {B B':Nat} {v:Value} {l:List De} (h:DesOwn W B v l) (hb:B'≤B):DesOwn W B' v l:=by
 obtain⟨q,h1,h2,h3⟩:=h
 exact⟨q,h1,own_base h2 hb,fun x hx=>⟨own_base (h3 x hx).1 hb,(h3 x hx).2.base hb⟩⟩
theorem its_past {W Y:World} {B B2:Nat} {v v2:Value} {l:List It} {s2 n2:Nat} {xs2:List Value} (h:ItsOwn W B v l) (h2:W.ownsRow B2 57 s2 v2 n2 xs2) (hg:W.grownBy Y v2.ownBlock):ItsOwn Y B v l:=by
 obtain⟨q,h1,h3,h4⟩:=h
 exact⟨q,h1,own_past h3 h2 (by decide) hg,fun x hx=>own_past (h4 x hx) h2 (by decide) hg⟩
theorem its_below {W Y:World} {B:Nat} {v:Value} {l:List It} (h:ItsOwn W B v l) (hb:Below W.heap.size W Y):ItsOwn Y B v l:=its_same h fun k _ hk=>hb.block k hk
theorem de_info:(prog.info? 57).map (fun i=>(i.zero,i.size,i.bytes))=some (some (.agg #[.int .i64 0,.string ⟨#[]⟩,.slice none 0 0,.slice none 0 0,.int .i64 0,.int .i64 0,.int .i64 0]),7,96):=by kernel_rfl
theorem step_de {ops:Array Oper} {o:Oper} {a:Act} {K:Act→World→Prop} {Q:Exit→Act→World→Prop} {E:Prop} (w:World) (hgd:o.guard=none) (s x:Operand)
  (ho:o.op=Op.call { callee:=Callee.builtin Builtin.append,args:=#[s,x],argTypes:=#[23,23] }) (B:Nat) (v:Value) (n:Nat) (xs:List Value) (hs:a.eval s=v) (hown:w.ownsRow B 57 7 v n xs)
  (ad:Addr) (news:List Value) (hx:a.eval x=.slice (some ad) 1 1) (hn:news.length=1*7) (hc:∀j u,news[j]?=some u→w.cell? (ad.add j)=some u) (h1c:∀u ∈ news,u.oneCell'=true) (hk:n≤40000) (hB:B≤w.heap.size)
  (h:∀g cap w',w'.ownsRow B 57 7 (.slice (some ⟨g,0,none⟩) (n+1) cap) (n+1) (xs++news)→w.grownBy w' v.ownBlock→K (a.put o.dst (.slice (some ⟨g,0,none⟩) (n+1) cap)) w'):if Region.wanted o (yielded ops a.tmps)=true then Oper.wp prog o a w K Q else E:=by
 rw[if_pos (by simp[Region.wanted,hgd])]
 obtain⟨i,h2,h3,h4,h5⟩:=info_parts de_info
 refine wp_append_own w s x 23 ho B 57 i _ 7 96 Tryz.underlying23 h2 h3 h4 h5 rfl (by decide) v n xs hs hown ad 1 1 news hx hn hc h1c (by unfold maxLen;omega) (by omega) hB fun v' w' r1 r2 _=>?_
 obtain⟨g,cap,rfl⟩:=ownsRow_succ r1
 exact h g cap w' r1 r2
theorem seven_at (W:World) (B:Nat) (hB:B=W.heap.size) (x0 x1 x2 x3 x4 x5 x6:Value) (T:TypeId) (j:Nat) (u:Value) (h:[x0,x1,x2,x3,x4,x5,x6][j]?=some u):(W.alloc (.cells #[x0,x1,x2,x3,x4,x5,x6] T)).cell? ((⟨B,0,none⟩:Addr).add j)=some u:=by
 subst hB
 have e:(⟨W.heap.size,0,none⟩:Addr).add j=⟨W.heap.size,j,none⟩:=by unfold Addr.add;split <;> simp_all
 rw[e,World.cell?_alloc_new,←h,←Array.getElem?_toList]
def deZ:Array Value:=#[.int .i64 0,.string ⟨#[]⟩,.slice none 0 0,.slice none 0 0,.int .i64 0,.int .i64 0,.int .i64 0]
structure DC (W0 Y:World) (b g cap:Nat) (dv:Value) (ts:List Tok) (xb:Nat→Prop) (σ:RS) (A D:Nat) (c:Array Value) (ps:List Pa) (pv:Value) (is:List It) (iv:Value):Prop where
 cd:Cd Y b g cap dv ts xb σ
 rx:RX b xb W0 Y
 zero:Y.heap[A]?=some (.cells deZ 57 (0,0))
 box:Y.heap[D]?=some (.cells c 57 (0,0))
 hA:W0.heap.size≤A
 hD:W0.heap.size≤D
 hne:A≠D
 hb:b<W0.heap.size
 hx:∀k,xb k→k<W0.heap.size
 pa:Y.ownsRow W0.heap.size 62 2 pv ps.length (paC ps)
 it:ItsOwn Y W0.heap.size iv is
theorem DC.call {W0 Y Z:World} {b g cap:Nat} {dv:Value} {ts:List Tok} {xb:Nat→Prop} {σ τ:RS} {A D:Nat} {c:Array Value} {ps:List Pa} {pv:Value} {is:List It} {iv:Value} (h:DC W0 Y b g cap dv ts xb σ A D c ps pv is iv) (hr:Hid (Cd Z b g cap dv ts xb τ)) (hk:Hid (RX b xb Y Z)):DC W0 Z b g cap dv ts xb τ A D c ps pv is iv :=
 ⟨hr.out,h.rx.trans hk.out,hk.out.keep A _ h.zero (by have:=h.hA;have:=h.hb;omega) (.of (by decide)),hk.out.keep D _ h.box (by have:=h.hD;have:=h.hb;omega) (.of (by decide)),h.hA,h.hD,h.hne,h.hb,h.hx,own_keepT h.pa (by decide) h.hb hk.out.rk,h.it.keep h.hb hk.out.rk⟩
theorem DC.set {W0 Y:World} {b g cap:Nat} {dv:Value} {ts:List Tok} {xb:Nat→Prop} {σ:RS} {A D:Nat} {c:Array Value} {ps:List Pa} {pv:Value} {is:List It} {iv:Value} (h:DC W0 Y b g cap dv ts xb σ A D c ps pv is iv) (i:Nat) (v:Value) {c':Array Value} (he:c.setIfInBounds i v=c'):DC W0 (Y.setCell ⟨D,i,none⟩ v) b g cap dv ts xb σ A D c' ps pv is iv:=by
 have hA:=h.hA
 have hD:=h.hD
 have hb:=h.hb
 have hbut:But D Y (Y.setCell ⟨D,i,none⟩ v):=(But.refl _ _).set i v
 exact⟨h.cd.but h.box (by decide) (by decide) (by omega) hbut,h.rx.but h.hx hD (by omega) hb hbut,(Below.heap_setCell Y ⟨D,i,none⟩ v A (by simpa using h.hne)).trans h.zero,by rw[set_blk h.box,he],h.hA,h.hD,h.hne,h.hb,h.hx,own_but h.pa h.box (by decide) hbut,its_but h.it h.box hbut⟩
theorem DC.pas {W0 Y:World} {b g cap:Nat} {dv:Value} {ts:List Tok} {xb:Nat→Prop} {σ:RS} {A D:Nat} {c:Array Value} {ps ps':List Pa} {pv pv':Value} {is:List It} {iv:Value} (h:DC W0 Y b g cap dv ts xb σ A D c ps pv is iv) (hp:Y.ownsRow W0.heap.size 62 2 pv' ps'.length (paC ps')):DC W0 Y b g cap dv ts xb σ A D c ps' pv' is iv:={ h with pa:=hp }
theorem DC.its {W0 Y:World} {b g cap:Nat} {dv:Value} {ts:List Tok} {xb:Nat→Prop} {σ:RS} {A D:Nat} {c:Array Value} {ps:List Pa} {pv:Value} {is is':List It} {iv iv':Value} (h:DC W0 Y b g cap dv ts xb σ A D c ps pv is iv) (hp:ItsOwn Y W0.heap.size iv' is'):DC W0 Y b g cap dv ts xb σ A D c ps pv is' iv':={ h with it:=hp }
theorem DC.new {W:World} {b g cap:Nat} {dv:Value} {ts:List Tok} {xb:Nat→Prop} {σ:RS} (h:Cd W b g cap dv ts xb σ) (c:Array Value):DC W ((W.alloc (.cells deZ 57)).alloc (.cells c 57)) b g cap dv ts xb σ W.heap.size (W.heap.size+1) c [] (.slice none 0 0) [] (.slice none 0 0):=by
 have hb:Below W.heap.size W ((W.alloc (.cells deZ 57)).alloc (.cells c 57)):=((qB _ _).alloc (qL _) _).alloc (by simp) _
 refine⟨h.below hb,RX.of_below hb (ql h.size) h.xlt,?_,?_,qL _,Nat.le_succ _,by omega,h.size,h.xlt,qO _ _ _ _,ItsOwn.nil _ _⟩
 ·rw[heap_alloc_old _ _ (by simp)];exact heap_alloc_new W _
 ·have:=heap_alloc_new (W.alloc (.cells deZ 57)) (.cells c 57)
  rw[World.size_alloc] at this
  exact this
def CdeRet (b g cap:Nat) (dv:Value) (ts:List Tok) (xb:Nat→Prop) (W:World) (x:De) (σ:RS) (r:Ending) (Y:World):Prop :=
 RX b xb W Y∧((σ.code=0∧(∃po pc io ic,r=.returned (.agg #[.int .i64 x.kind,.string x.name,.slice po x.params.length pc,.slice io x.items.length ic,.int .i64 x.type,.int .i64 x.e,.int .i64 x.pos])∧Cd Y b g cap dv ts xb σ∧Y.ownsRow W.heap.size 62 2 (.slice po x.params.length pc) x.params.length (paC x.params)∧ItsOwn Y W.heap.size (.slice io x.items.length ic) x.items))∨(σ.code≠0∧r=.panicked [{ v:=refusalV σ.code σ.pos,recovered:=false }]))
theorem CdeRet.bad {b g cap:Nat} {dv:Value} {ts:List Tok} {xb:Nat→Prop} {W:World} {x:De} {σ τ:RS} {Y:World} (hk:RX b xb W Y) (hc:σ.code≠0) (hs:Stays σ τ):CdeRet b g cap dv ts xb W x τ (.panicked [{ v:=refusalV σ.code σ.pos,recovered:=false }]) Y:=by
 obtain⟨h1,h2⟩:=hs hc
 exact⟨hk,.inr ⟨by rw[h1];exact hc,by rw[h1,h2]⟩⟩
theorem DC.told {W0 Y:World} {b g cap:Nat} {dv:Value} {ts:List Tok} {xb:Nat→Prop} {σ:RS} {A D:Nat} {c:Array Value} {ps:List Pa} {pv:Value} {is:List It} {iv:Value} (h:DC W0 Y b g cap dv ts xb σ A D c ps pv is iv) (x0 x1 x2 x3 x4 x5 x6:Value) :
  (set7 Y A x0 x1 x2 x3 x4 x5 x6).heap[A]?=some (.cells #[x0,x1,x2,x3,x4,x5,x6] 57 (0,0))∧Cd (set7 Y A x0 x1 x2 x3 x4 x5 x6) b g cap dv ts xb σ∧RX b xb W0 (set7 Y A x0 x1 x2 x3 x4 x5 x6)∧(set7 Y A x0 x1 x2 x3 x4 x5 x6).ownsRow W0.heap.size 62 2 pv ps.length (paC ps)∧ItsOwn (set7 Y A x0 x1 x2 x3 x4 x5 x6) W0.heap.size iv is:=by
 have hA:=h.hA
 have hb:=h.hb
 have hbut:=set7_but Y A x0 x1 x2 x3 x4 x5 x6
 exact⟨set7_box h.zero _ _ _ _ _ _ _,h.cd.but h.zero (by decide) (by decide) (by omega) hbut,h.rx.but h.hx hA (by omega) hb hbut,own_but h.pa h.zero (by decide) hbut,its_but h.it h.zero hbut⟩
theorem stays_its {ts:List Tok} {f:Nat} {all:Bool} {n:Nat} {σ:RS} {R:List It×RS} (h:itsL ts f all n [] σ=some R):Stays σ R.2:=by
 intro hc
 obtain⟨k,rfl,_,hh⟩:=itsL_cases h
 rcases hh with ⟨h1,_⟩ | ⟨h1,_⟩ | ⟨_,h1⟩
 ·exact absurd h1 hc
 ·exact absurd h1 hc
 ·rw[h1];exact⟨rfl,rfl⟩
theorem behind_items (b g cap:Nat) (dv:Value) (ts:List Tok) (xb:Nat→Prop) (f:Nat) (σ:RS) (s:List UInt8) (R:List It×RS) (hr:itsL ts f true f [] (wantS ts s σ)=some R) (W:World) (h:Hid (Cd W b g cap dv ts xb σ)) (hc:σ.code=0) (hs:s ∈ sgL) :
  Calls prog 68 #[.pointer (some ⟨b,0,none⟩),.string (str s),.func (.func 70) #[.pointer (some ⟨b,0,none⟩)] #[]] W fun r Y=>CisRet b g cap dv ts xb W R.1 R.2 (wantS ts [125] R.2) r Y:=by
 refine behind_its b g cap dv ts xb σ s _ _ W h hc hs enters_items (fun hw r Y hh=>?_) fun hw W' h' hk=>?_
 ·obtain⟨h1,h2⟩:=((stays_its hr).trans (stays_want ts [125] _)) hw
  exact .inr ⟨by rw[h1];exact hw,by rw[h1,h2];exact hh.1,hh.2⟩
 ·exact(citems_any b g cap dv ts xb _ hw f f R hr W' h').mono fun r Y hh=>by
   rcases hh with ⟨z,z2,o,c,h1,h2⟩ | ⟨z,h1,h2⟩
   ·exact .inl ⟨z,z2,o,c,h1,Hd ⟨h2.out.cd,hk.out.trans h2.out.rx,h2.out.own.base hk.out.size⟩⟩
   ·exact .inr ⟨z,h1,Hd (hk.out.trans h2.out)⟩
theorem behind_lets (b g cap:Nat) (dv:Value) (ts:List Tok) (xb:Nat→Prop) (f:Nat) (σ:RS) (s:List UInt8) (R:List It×RS) (hr:itsL ts f false f [] (wantS ts s σ)=some R) (W:World) (h:Hid (Cd W b g cap dv ts xb σ)) (hc:σ.code=0) (hs:s ∈ sgL) :
  Calls prog 68 #[.pointer (some ⟨b,0,none⟩),.string (str s),.func (.func 69) #[.pointer (some ⟨b,0,none⟩)] #[]] W fun r Y=>CisRet b g cap dv ts xb W R.1 R.2 R.2 r Y:=by
 refine behind_its b g cap dv ts xb σ s _ _ W h hc hs enters_lets (fun hw r Y hh=>?_) fun hw W' h' hk=>?_
 ·obtain⟨h1,h2⟩:=(stays_its hr) hw
  exact .inr ⟨by rw[h1];exact hw,by rw[h1,h2];exact hh.1,hh.2⟩
 ·exact(clets_any b g cap dv ts xb _ hw f f R hr W' h').mono fun r Y hh=>by
   rcases hh with ⟨z,z2,o,c,h1,h2⟩ | ⟨z,h1,h2⟩
   ·exact .inl ⟨z,z2,o,c,h1,Hd ⟨h2.out.cd,hk.out.trans h2.out.rx,h2.out.own.base hk.out.size⟩⟩
   ·exact .inr ⟨z,h1,Hd (hk.out.trans h2.out)⟩
theorem cde_fun (b g cap:Nat) (dv:Value) (ts:List Tok) (xb:Nat→Prop) (f:Nat) (x:RS) (hc:x.code=0) (hi:isS ts [102,117,110] x=true) (v1:List Pa) (t1:RS) (hr1:paramsS ts f (nameS ts (stepS x))=some (v1,t1)) (v3:Int) (l3:List Int) (t3:RS) (hr3:runE ts f .expr (wantS ts [61] (kindS ts (wantS ts [58] t1)))=some (v3,l3,t3)) (W:World) (h:Hid (Cd W b g cap dv ts xb x)) :
  Calls prog 34 #[.pointer (some ⟨b,0,none⟩)] W fun r Y=>CdeRet b g cap dv ts xb W ⟨1,str (nameV ts (stepS x)),v1,[],kindV ts (wantS ts [58] t1),v3,((tokL ts x.at_).at_:Int)⟩ (wantS ts [59] t3) r Y:=by
 obtain⟨P,hP⟩:∃P,P=(tokL ts x.at_).at_:=⟨_,rfl⟩
 rw[←hP]
 obtain⟨s0,hs0⟩:∃s0,s0=stepS x:=⟨_,rfl⟩
 try rw[←hs0]
 try rw[←hs0] at hr1
 obtain⟨u0,hu0⟩:∃u:ByteArray,u=str (nameV ts s0):=⟨_,rfl⟩
 obtain⟨s1,hs1⟩:∃s1,s1=nameS ts s0:=⟨_,rfl⟩
 try rw[←hu0]
 try rw[←hs1]
 try rw[←hs1] at hr1
 obtain⟨u1,hu1⟩:∃u:List Pa,u=v1:=⟨_,rfl⟩
 obtain⟨s2,hs2⟩:∃s2,s2=t1:=⟨_,rfl⟩
 try rw[←hu1]
 try rw[←hs2]
 try rw[←hs2] at hr3
 obtain⟨u2,hu2⟩:∃u:Int,u=kindV ts (wantS ts [58] s2):=⟨_,rfl⟩
 obtain⟨s3,hs3⟩:∃s3,s3=kindS ts (wantS ts [58] s2):=⟨_,rfl⟩
 try rw[←hu2]
 try rw[←hs3]
 try rw[←hs3] at hr3
 obtain⟨u3,hu3⟩:∃u:Int,u=v3:=⟨_,rfl⟩
 obtain⟨s4,hs4⟩:∃s4,s4=t3:=⟨_,rfl⟩
 try rw[←hu3]
 try rw[←hs4]
 obtain⟨sw,hsw⟩:∃sw,sw=(wantS ts [59] s4):=⟨_,rfl⟩
 rw[←hsw]
 have K4:Hid (Stays s4 sw):=Hd (by rw[hsw];exact stays_want ts [59] _)
 have K3:Hid (Stays s3 sw):=Hd (by have:=(stays_want ts [61] s3).trans (stuck ts f .expr _ _ hr3);rw[hs4] at K4;exact this.trans K4.out)
 have K2:Hid (Stays s2 sw):=Hd (by have:=(stays_want ts [58] s2).trans (stays_kind ts _);rw[←hs3] at this;exact this.trans K3.out)
 have K1:Hid (Stays s1 sw):=Hd (by have:=stays_params hr1;rw[hs2] at K2;exact this.trans K2.out)
 have K0:Hid (Stays s0 sw):=Hd (by have:=stays_name ts s0;rw[←hs1] at this;exact this.trans K1.out)
 obtain⟨o,c,⟨c0,c1,c2,c3,fr⟩,hx⟩:=h.out.cells
 obtain⟨tkA,tkB,tkC,tkD⟩:=h.out.tok
 have hl:=h.out.at_
 have hbs:=h.out.size
 have hgs:g<W.heap.size:=by have:=h.out.lt;omega
 obtain⟨m,hmm⟩:∃m,m=ts.length-x.at_:=⟨_,rfl⟩
 obtain⟨a4,haa⟩:∃a4,a4=x.at_*4:=⟨_,rfl⟩
 rw[←hmm,←haa] at c0
 rw[←hP,←haa] at tkD
 have k0:(0:Int)<(m:Int):=by omega
 obtain⟨W2,hW2⟩:∃W2,W2=(W.alloc (.cells #[.int .i64 0,.string ⟨#[]⟩,.slice none 0 0,.slice none 0 0,.int .i64 0,.int .i64 0,.int .i64 0] 57)).alloc (.cells #[.int .i64 0,.string ⟨#[]⟩,.slice none 0 0,.slice none 0 0,.int .i64 0,.int .i64 0,.int .i64 (P:Int)] 57):=⟨_,rfl⟩
 have HB:Hid (DC W W2 b g cap dv ts xb x W.heap.size (W.heap.size+1) #[.int .i64 0,.string ⟨#[]⟩,.slice none 0 0,.slice none 0 0,.int .i64 0,.int .i64 0,.int .i64 (P:Int)] [] (.slice none 0 0) [] (.slice none 0 0)):=Hd (by rw[hW2];exact DC.new h.out _)
 have T0:=tk_yes (b:=b) (g:=g) (cap:=cap) (dv:=dv) (xb:=xb) hc hs0 [102,117,110] ⟨#[102,117,110]⟩ rfl (by decide) hi
 have z0:s0.code=0:=by rw[hs0];exact hc
 have C0:=st_name (b:=b) (g:=g) (cap:=cap) (dv:=dv) (xb:=xb) hu0 hs1
 have C1:Hid (s1.code=0→∀W,Hid (Cd W b g cap dv ts xb s1)→Calls prog 64 #[.pointer (some ⟨b,0,none⟩)] W fun r Y=>CpRet b g cap dv ts xb W u1 s2 r Y):=Hd fun z W h=>by rw[hu1,hs2];exact cparams_any b g cap dv ts xb f _ z (v1,t1) hr1 W h
 have C2:=bh_types (b:=b) (g:=g) (cap:=cap) (dv:=dv) (xb:=xb) [58] ⟨#[58]⟩ rfl (by decide) hu2 hs3
 have C3:=bh_expr (b:=b) (g:=g) (cap:=cap) (dv:=dv) (xb:=xb) [61] ⟨#[61]⟩ rfl (by decide) hr3 hu3 hs4
 have CW:=wt_one (b:=b) (g:=g) (cap:=cap) (dv:=dv) (xb:=xb) [59] ⟨#[59]⟩ rfl (by decide) hsw
 clear hmm haa tkA tkB tkC hl hx c1 c2 c3 fr hP hi hc hsw hs0 hr1 hr3 hu0 hs1 hu1 hs2 hu2 hs3 hu3 hs4
 go_enter Tryz.func34,Tryz.ntmps34
 go_wp2_with (first
  | (go_at_call 62;rw[←hW2];clear hW2 c0 tkD;(with_reducible refine(T0.out _ (Hd HB.out.cd)).mono ?_);rintro e wt0 ⟨rfl,hr1,hk1⟩;replace HB:=Hd (HB.out.call hr1 hk1);clear hr1 hk1;obtain⟨⟨y0,y1,y2,y3,y4,y5,y6⟩,yf⟩:=dgCells HB.out.box;have f0:=yf 0;clear yf)
  | (go_at_call 63;obtain⟨V0,hV0⟩:∃V0,V0=wt0.setCell ⟨W.heap.size+1,0,none⟩ (.int .i64 1):=⟨_,rfl⟩;have HV:Hid (DC W V0 b g cap dv ts xb s0 W.heap.size (W.heap.size+1) #[.int .i64 1,.string ⟨#[]⟩,.slice none 0 0,.slice none 0 0,.int .i64 0,.int .i64 0,.int .i64 (P:Int)] [] (.slice none 0 0) [] (.slice none 0 0)):=Hd (by rw[hV0];exact HB.out.set 0 _ rfl);clear HB;have HB:=HV;clear HV;rw[←hV0];clear hV0 y0 y1 y2 y3 y4 y5 y6 f0;(with_reducible refine(C0.out z0 _ (Hd HB.out.cd)).mono ?_);rintro e ws0 hh;rcases hh.two with ⟨z1,rfl,hr1,hk1⟩ | ⟨z1,rfl,hk1⟩;rotate_left;exact⟨rfl,CdeRet.bad (HB.out.rx.trans hk1.out) z1 K1.out⟩;replace HB:=Hd (HB.out.call hr1 hk1);clear hr1 hk1)
  | (go_at_call 64;(with_reducible refine(C1.out z1 _ (Hd HB.out.cd)).mono ?_);rintro e ws1 hh;rcases hh with ⟨z2,po,pc,rfl,hr1,hk1,how⟩ | ⟨z2,rfl,hk1⟩;rotate_left;exact⟨rfl,CdeRet.bad (HB.out.rx.trans hk1.out) z2 K2.out⟩;replace HB:=Hd ((HB.out.call hr1 hk1).pas (own_base how.out HB.out.rx.size));clear hr1 hk1 how)
  | (go_at_call 65;(with_reducible refine(C2.out z2 _ (Hd HB.out.cd)).mono ?_);rintro e ws2 hh;rcases hh.two with ⟨z3,rfl,hr1,hk1⟩ | ⟨z3,rfl,hk1⟩;rotate_left;exact⟨rfl,CdeRet.bad (HB.out.rx.trans hk1.out) z3 K3.out⟩;replace HB:=Hd (HB.out.call hr1 hk1);clear hr1 hk1)
  | (go_at_call 65;(with_reducible refine(C3.out z3 _ (Hd HB.out.cd)).mono ?_);rintro e ws3 hh;rcases hh.two with ⟨z4,rfl,hr1,hk1⟩ | ⟨z4,rfl,hk1⟩;rotate_left;exact⟨rfl,CdeRet.bad (HB.out.rx.trans hk1.out) z4 K4.out⟩;replace HB:=Hd (HB.out.call hr1 hk1);clear hr1 hk1;obtain⟨⟨y0,y1,y2,y3,y4,y5,y6⟩,yf⟩:=dgCells HB.out.box;have f1:=yf 1;have f2:=yf 2;have f4:=yf 4;have f5:=yf 5;clear yf))
 obtain⟨V,hV⟩:∃V,V=((((ws3.setCell ⟨W.heap.size+1,1,none⟩ (.string u0)).setCell ⟨W.heap.size+1,2,none⟩ (.slice po u1.length pc)).setCell ⟨W.heap.size+1,4,none⟩ (.int .i64 u2)).setCell ⟨W.heap.size+1,5,none⟩ (.int .i64 u3)):=⟨_,rfl⟩
 have HV:Hid (DC W V b g cap dv ts xb s4 W.heap.size (W.heap.size+1) #[.int .i64 1,.string u0,.slice po u1.length pc,.slice none 0 0,.int .i64 u2,.int .i64 u3,.int .i64 (P:Int)] u1 (.slice po u1.length pc) [] (.slice none 0 0)):=Hd (by rw[hV];exact((((HB.out.set 1 _ rfl).set 2 _ rfl).set 4 _ rfl).set 5 _ rfl))
 rw[←hV,show ws3.heap.size=V.heap.size by rw[hV];simp]
 clear hV HB y0 y1 y2 y3 y4 y5 y6 f1 f2 f4 f5
 refine(CW.out z4 V (Hd HV.out.cd)).mono ?_
 rintro e w5 hh
 rcases hh.two with ⟨zz,rfl,hr5,hk5⟩ | ⟨zz,rfl,hk5⟩
 rotate_left
 ·exact⟨rfl,CdeRet.bad (HV.out.rx.trans hk5.out) zz (Stays.refl _)⟩
 dsimp only
 have HE:=Hd (HV.out.call hr5 hk5)
 obtain⟨⟨y0,y1,y2,y3,y4,y5,y6⟩,_⟩:=dgCells HE.out.box
 have hz0:=HE.out.zero
 unfold deZ at hz0
 obtain⟨⟨q0,q1,q2,q3,q4,q5,q6⟩,qf⟩:=dgCells hz0
 have g0:=qf 0;have g1:=qf 1;have g2:=qf 2;have g3:=qf 3;have g4:=qf 4;have g5:=qf 5;have g6:=qf 6
 clear qf hz0
 go_wp2_with fail
 obtain⟨r1,r2,r3,r4,r5⟩:=HE.out.told (.int .i64 1) (.string u0) (.slice po u1.length pc) (.slice none 0 0) (.int .i64 u2) (.int .i64 u3) (.int .i64 (P:Int))
 obtain⟨⟨x0,x1,x2,x3,x4,x5,x6⟩,_⟩:=dgCells r1
 unfold set7 at x0 x1 x2 x3 x4 x5 x6
 exact bodyPost_ret (v:=.agg #[.int .i64 1,.string u0,.slice po u1.length pc,.slice none 0 0,.int .i64 u2,.int .i64 u3,.int .i64 (P:Int)]) (by simp[results,Tryz.results34,go_sem,x0,x1,x2,x3,x4,x5,x6]) rfl ⟨r3,.inl ⟨zz,po,pc,none,0,rfl,r2,r4,r5⟩⟩
theorem cde_node (b g cap:Nat) (dv:Value) (ts:List Tok) (xb:Nat→Prop) (f:Nat) (x:RS) (hc:x.code=0) (hi:isS ts [110,111,100,101] x=true) (v1:List Pa) (t1:RS) (hr1:paramsS ts f (nameS ts (stepS x))=some (v1,t1)) (v3:List It) (t3:RS) (hr3:itsL ts f false f [] (wantS ts [123] (kindS ts (wantS ts [58] t1)))=some (v3,t3)) (v4:Int) (l4:List Int) (t4:RS) (hr4:runE ts f .expr (wantS ts [114,101,116,117,114,110] t3)=some (v4,l4,t4)) (W:World) (h:Hid (Cd W b g cap dv ts xb x)) :
  Calls prog 34 #[.pointer (some ⟨b,0,none⟩)] W fun r Y=>CdeRet b g cap dv ts xb W ⟨2,str (nameV ts (stepS x)),v1,v3,kindV ts (wantS ts [58] t1),v4,((tokL ts x.at_).at_:Int)⟩ (wantS ts [125] (wantS ts [59] t4)) r Y:=by
 obtain⟨P,hP⟩:∃P,P=(tokL ts x.at_).at_:=⟨_,rfl⟩
 rw[←hP]
 obtain⟨s0,hs0⟩:∃s0,s0=stepS x:=⟨_,rfl⟩
 try rw[←hs0]
 try rw[←hs0] at hr1
 obtain⟨u0,hu0⟩:∃u:ByteArray,u=str (nameV ts s0):=⟨_,rfl⟩
 obtain⟨s1,hs1⟩:∃s1,s1=nameS ts s0:=⟨_,rfl⟩
 try rw[←hu0]
 try rw[←hs1]
 try rw[←hs1] at hr1
 obtain⟨u1,hu1⟩:∃u:List Pa,u=v1:=⟨_,rfl⟩
 obtain⟨s2,hs2⟩:∃s2,s2=t1:=⟨_,rfl⟩
 try rw[←hu1]
 try rw[←hs2]
 try rw[←hs2] at hr3
 obtain⟨u2,hu2⟩:∃u:Int,u=kindV ts (wantS ts [58] s2):=⟨_,rfl⟩
 obtain⟨s3,hs3⟩:∃s3,s3=kindS ts (wantS ts [58] s2):=⟨_,rfl⟩
 try rw[←hu2]
 try rw[←hs3]
 try rw[←hs3] at hr3
 obtain⟨u3,hu3⟩:∃u:List It,u=v3:=⟨_,rfl⟩
 obtain⟨s4,hs4⟩:∃s4,s4=t3:=⟨_,rfl⟩
 try rw[←hu3]
 try rw[←hs4]
 try rw[←hs4] at hr4
 obtain⟨u4,hu4⟩:∃u:Int,u=v4:=⟨_,rfl⟩
 obtain⟨s5,hs5⟩:∃s5,s5=t4:=⟨_,rfl⟩
 try rw[←hu4]
 try rw[←hs5]
 obtain⟨sw,hsw⟩:∃sw,sw=(wantS ts [125] (wantS ts [59] s5)):=⟨_,rfl⟩
 rw[←hsw]
 have K5:Hid (Stays s5 sw):=Hd (by rw[hsw];exact(stays_want ts [59] _).trans (stays_want ts [125] _))
 have K4:Hid (Stays s4 sw):=Hd (by have:=(stays_want ts [114,101,116,117,114,110] s4).trans (stuck ts f .expr _ _ hr4);rw[hs5] at K5;exact this.trans K5.out)
 have K3:Hid (Stays s3 sw):=Hd (by have:=(stays_want ts [123] s3).trans (stays_its hr3);rw[hs4] at K4;exact this.trans K4.out)
 have K2:Hid (Stays s2 sw):=Hd (by have:=(stays_want ts [58] s2).trans (stays_kind ts _);rw[←hs3] at this;exact this.trans K3.out)
 have K1:Hid (Stays s1 sw):=Hd (by have:=stays_params hr1;rw[hs2] at K2;exact this.trans K2.out)
 have K0:Hid (Stays s0 sw):=Hd (by have:=stays_name ts s0;rw[←hs1] at this;exact this.trans K1.out)
 obtain⟨o,c,⟨c0,c1,c2,c3,fr⟩,hx⟩:=h.out.cells
 obtain⟨tkA,tkB,tkC,tkD⟩:=h.out.tok
 have hl:=h.out.at_
 have hbs:=h.out.size
 have hgs:g<W.heap.size:=by have:=h.out.lt;omega
 obtain⟨m,hmm⟩:∃m,m=ts.length-x.at_:=⟨_,rfl⟩
 obtain⟨a4,haa⟩:∃a4,a4=x.at_*4:=⟨_,rfl⟩
 rw[←hmm,←haa] at c0
 rw[←hP,←haa] at tkD
 have k0:(0:Int)<(m:Int):=by omega
 obtain⟨W2,hW2⟩:∃W2,W2=(W.alloc (.cells #[.int .i64 0,.string ⟨#[]⟩,.slice none 0 0,.slice none 0 0,.int .i64 0,.int .i64 0,.int .i64 0] 57)).alloc (.cells #[.int .i64 0,.string ⟨#[]⟩,.slice none 0 0,.slice none 0 0,.int .i64 0,.int .i64 0,.int .i64 (P:Int)] 57):=⟨_,rfl⟩
 have HB:Hid (DC W W2 b g cap dv ts xb x W.heap.size (W.heap.size+1) #[.int .i64 0,.string ⟨#[]⟩,.slice none 0 0,.slice none 0 0,.int .i64 0,.int .i64 0,.int .i64 (P:Int)] [] (.slice none 0 0) [] (.slice none 0 0)):=Hd (by rw[hW2];exact DC.new h.out _)
 have T0:=tk_no (b:=b) (g:=g) (cap:=cap) (dv:=dv) (xb:=xb) hc [102,117,110] ⟨#[102,117,110]⟩ rfl (by decide) (isS_one hi (by decide))
 have T1:=tk_yes (b:=b) (g:=g) (cap:=cap) (dv:=dv) (xb:=xb) hc hs0 [110,111,100,101] ⟨#[110,111,100,101]⟩ rfl (by decide) hi
 have z0:s0.code=0:=by rw[hs0];exact hc
 have C0:=st_name (b:=b) (g:=g) (cap:=cap) (dv:=dv) (xb:=xb) hu0 hs1
 have C1:Hid (s1.code=0→∀W,Hid (Cd W b g cap dv ts xb s1)→Calls prog 64 #[.pointer (some ⟨b,0,none⟩)] W fun r Y=>CpRet b g cap dv ts xb W u1 s2 r Y):=Hd fun z W h=>by rw[hu1,hs2];exact cparams_any b g cap dv ts xb f _ z (v1,t1) hr1 W h
 have C2:=bh_types (b:=b) (g:=g) (cap:=cap) (dv:=dv) (xb:=xb) [58] ⟨#[58]⟩ rfl (by decide) hu2 hs3
 have C3:Hid (s3.code=0→∀W,Hid (Cd W b g cap dv ts xb s3)→Calls prog 68 #[.pointer (some ⟨b,0,none⟩),.string ⟨#[123]⟩,.func (.func 69) #[.pointer (some ⟨b,0,none⟩)] #[]] W fun r Y=>CisRet b g cap dv ts xb W u3 s4 s4 r Y):=Hd fun z W h=>by rw[hu3,hs4];exact behind_lets b g cap dv ts xb f _ [123] (v3,t3) hr3 W h z (by decide)
 have C4:=bh_expr (b:=b) (g:=g) (cap:=cap) (dv:=dv) (xb:=xb) [114,101,116,117,114,110] ⟨#[114,101,116,117,114,110]⟩ rfl (by decide) hr4 hu4 hs5
 have CW:Hid (s5.code=0→∀W,Hid (Cd W b g cap dv ts xb s5)→Calls prog 67 #[.pointer (some ⟨b,0,none⟩),.slice (some ⟨W.heap.size,0,none⟩) 2 2] (W.alloc (.cells #[.string ⟨#[59]⟩,.string ⟨#[125]⟩] 9)) fun r Y=>CdRet b g cap dv ts xb W (.tuple #[]) sw r Y):=Hd fun z W h=>by rw[hsw];exact wants_two b g cap dv ts xb _ [59] [125] W h z (by decide) (by decide)
 clear hmm haa tkA tkB tkC hl hx c1 c2 c3 fr hP hi hc hsw hs0 hr1 hr3 hr4 hu0 hs1 hu1 hs2 hu2 hs3 hu3 hs4 hu4 hs5
 go_enter Tryz.func34,Tryz.ntmps34
 go_wp2_with (first
  | (go_at_call 62;rw[←hW2];clear hW2 c0 tkD;(with_reducible refine(T0.out _ (Hd HB.out.cd)).mono ?_);rintro e wt0 ⟨rfl,hr1,hk1⟩;replace HB:=Hd (HB.out.call hr1 hk1);clear hr1 hk1)
  | (go_at_call 62;(with_reducible refine(T1.out _ (Hd HB.out.cd)).mono ?_);rintro e wt1 ⟨rfl,hr1,hk1⟩;replace HB:=Hd (HB.out.call hr1 hk1);clear hr1 hk1;obtain⟨⟨y0,y1,y2,y3,y4,y5,y6⟩,yf⟩:=dgCells HB.out.box;have f0:=yf 0;clear yf)
  | (go_at_call 63;obtain⟨V0,hV0⟩:∃V0,V0=wt1.setCell ⟨W.heap.size+1,0,none⟩ (.int .i64 2):=⟨_,rfl⟩;have HV:Hid (DC W V0 b g cap dv ts xb s0 W.heap.size (W.heap.size+1) #[.int .i64 2,.string ⟨#[]⟩,.slice none 0 0,.slice none 0 0,.int .i64 0,.int .i64 0,.int .i64 (P:Int)] [] (.slice none 0 0) [] (.slice none 0 0)):=Hd (by rw[hV0];exact HB.out.set 0 _ rfl);clear HB;have HB:=HV;clear HV;rw[←hV0];clear hV0 y0 y1 y2 y3 y4 y5 y6 f0;(with_reducible refine(C0.out z0 _ (Hd HB.out.cd)).mono ?_);rintro e ws0 hh;rcases hh.two with ⟨z1,rfl,hr1,hk1⟩ | ⟨z1,rfl,hk1⟩;rotate_left;exact⟨rfl,CdeRet.bad (HB.out.rx.trans hk1.out) z1 K1.out⟩;replace HB:=Hd (HB.out.call hr1 hk1);clear hr1 hk1)
  | (go_at_call 64;(with_reducible refine(C1.out z1 _ (Hd HB.out.cd)).mono ?_);rintro e ws1 hh;rcases hh with ⟨z2,po,pc,rfl,hr1,hk1,how⟩ | ⟨z2,rfl,hk1⟩;rotate_left;exact⟨rfl,CdeRet.bad (HB.out.rx.trans hk1.out) z2 K2.out⟩;replace HB:=Hd ((HB.out.call hr1 hk1).pas (own_base how.out HB.out.rx.size));clear hr1 hk1 how)
  | (go_at_call 65;(with_reducible refine(C2.out z2 _ (Hd HB.out.cd)).mono ?_);rintro e ws2 hh;rcases hh.two with ⟨z3,rfl,hr1,hk1⟩ | ⟨z3,rfl,hk1⟩;rotate_left;exact⟨rfl,CdeRet.bad (HB.out.rx.trans hk1.out) z3 K3.out⟩;replace HB:=Hd (HB.out.call hr1 hk1);clear hr1 hk1;obtain⟨⟨y0,y1,y2,y3,y4,y5,y6⟩,yf⟩:=dgCells HB.out.box;have f1:=yf 1;have f2:=yf 2;have f4:=yf 4;clear yf)
  | (go_at_call 68;obtain⟨V3,hV3⟩:∃V,V=(((ws2.setCell ⟨W.heap.size+1,1,none⟩ (.string u0)).setCell ⟨W.heap.size+1,2,none⟩ (.slice po u1.length pc)).setCell ⟨W.heap.size+1,4,none⟩ (.int .i64 u2)):=⟨_,rfl⟩;have HV:Hid (DC W V3 b g cap dv ts xb s3 W.heap.size (W.heap.size+1) #[.int .i64 2,.string u0,.slice po u1.length pc,.slice none 0 0,.int .i64 u2,.int .i64 0,.int .i64 (P:Int)] u1 (.slice po u1.length pc) [] (.slice none 0 0)):=Hd (by rw[hV3];exact(((HB.out.set 1 _ rfl).set 2 _ rfl).set 4 _ rfl));clear HB;have HB:=HV;clear HV;rw[←hV3];clear hV3 y0 y1 y2 y3 y4 y5 y6 f1 f2 f4;(with_reducible refine(C3.out z3 _ (Hd HB.out.cd)).mono ?_);rintro e ws3 hh;rcases hh with ⟨z4,zb,io,ic,rfl,hsg⟩ | ⟨zb,rfl,hk1⟩;rotate_left;exact⟨rfl,CdeRet.bad (HB.out.rx.trans hk1.out) zb K4.out⟩;replace HB:=Hd ((HB.out.call (Hd hsg.out.cd) (Hd hsg.out.rx)).its (hsg.out.own.base HB.out.rx.size));clear hsg)
  | (go_at_call 65;(with_reducible refine(C4.out z4 _ (Hd HB.out.cd)).mono ?_);rintro e ws4 hh;rcases hh.two with ⟨z5,rfl,hr1,hk1⟩ | ⟨z5,rfl,hk1⟩;rotate_left;exact⟨rfl,CdeRet.bad (HB.out.rx.trans hk1.out) z5 K5.out⟩;replace HB:=Hd (HB.out.call hr1 hk1);clear hr1 hk1;obtain⟨⟨y0,y1,y2,y3,y4,y5,y6⟩,yf⟩:=dgCells HB.out.box;have f3:=yf 3;have f5:=yf 5;clear yf))
 obtain⟨V,hV⟩:∃V,V=((ws4.setCell ⟨W.heap.size+1,3,none⟩ (.slice io u3.length ic)).setCell ⟨W.heap.size+1,5,none⟩ (.int .i64 u4)):=⟨_,rfl⟩
 have HV:Hid (DC W V b g cap dv ts xb s5 W.heap.size (W.heap.size+1) #[.int .i64 2,.string u0,.slice po u1.length pc,.slice io u3.length ic,.int .i64 u2,.int .i64 u4,.int .i64 (P:Int)] u1 (.slice po u1.length pc) u3 (.slice io u3.length ic)):=Hd (by rw[hV];exact((HB.out.set 3 _ rfl).set 5 _ rfl))
 rw[←hV,show ws4.heap.size=V.heap.size by rw[hV];simp]
 clear hV HB y0 y1 y2 y3 y4 y5 y6 f3 f5
 refine(CW.out z5 V (Hd HV.out.cd)).mono ?_
 rintro e w5 hh
 rcases hh.two with ⟨zz,rfl,hr5,hk5⟩ | ⟨zz,rfl,hk5⟩
 rotate_left
 ·exact⟨rfl,CdeRet.bad (HV.out.rx.trans hk5.out) zz (Stays.refl _)⟩
 dsimp only
 have HE:=Hd (HV.out.call hr5 hk5)
 obtain⟨⟨y0,y1,y2,y3,y4,y5,y6⟩,_⟩:=dgCells HE.out.box
 have hz0:=HE.out.zero
 unfold deZ at hz0
 obtain⟨⟨q0,q1,q2,q3,q4,q5,q6⟩,qf⟩:=dgCells hz0
 have g0:=qf 0;have g1:=qf 1;have g2:=qf 2;have g3:=qf 3;have g4:=qf 4;have g5:=qf 5;have g6:=qf 6
 clear qf hz0
 go_wp2_with fail
 obtain⟨r1,r2,r3,r4,r5⟩:=HE.out.told (.int .i64 2) (.string u0) (.slice po u1.length pc) (.slice io u3.length ic) (.int .i64 u2) (.int .i64 u4) (.int .i64 (P:Int))
 obtain⟨⟨x0,x1,x2,x3,x4,x5,x6⟩,_⟩:=dgCells r1
 unfold set7 at x0 x1 x2 x3 x4 x5 x6
 exact bodyPost_ret (v:=.agg #[.int .i64 2,.string u0,.slice po u1.length pc,.slice io u3.length ic,.int .i64 u2,.int .i64 u4,.int .i64 (P:Int)]) (by simp[results,Tryz.results34,go_sem,x0,x1,x2,x3,x4,x5,x6]) rfl ⟨r3,.inl ⟨zz,po,pc,io,ic,rfl,r2,r4,r5⟩⟩
end Go.Proofs.YtpfmlfcaadnnpaaGreatDoor
