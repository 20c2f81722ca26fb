import Derived.Test.YtlbhlncipajapaaGreatDoorPt25
set_option maxHeartbeats 16000000
set_option maxRecDepth 100000
set_option linter.unusedVariables false
open Go.Proofs.Tryz(prog)
namespace Go.Proofs.YtlbhlncipajapaaGreatDoor
open Go.RowKit Lx
def paC (l:List Pa):List Value:=l.flatMap fun p=>[.string p.name,.int .i64 p.type]
theorem paC_snoc (l:List Pa) (p:Pa):paC (l++[p])=paC l++[.string p.name,.int .i64 p.type]:=by unfold paC;rw[List.flatMap_append];simp
def parsL (ts:List Tok):Nat→List Pa→RS→Option (List Pa×RS)
 | 0,_,_=>none
 | f+1,acc,σ=>if acc.length≤40000 then(if σ.code=0 then(if isS ts [44] (kindS ts (wantS ts [58] (nameS ts σ)))=true then parsL ts f (acc++[⟨str (nameV ts σ),kindV ts (wantS ts [58] (nameS ts σ))⟩]) (stepS (kindS ts (wantS ts [58] (nameS ts σ)))) else some (acc++[⟨str (nameV ts σ),kindV ts (wantS ts [58] (nameS ts σ))⟩],wantS ts [41] (kindS ts (wantS ts [58] (nameS ts σ))))) else some (acc,σ)) else none
def paramsS (ts:List Tok) (f:Nat) (σ:RS):Option (List Pa×RS):=if isS ts [41] (wantS ts [40] σ)=true then some ([],stepS (wantS ts [40] σ)) else parsL ts f [] (wantS ts [40] σ)
theorem parsL_cases {ts:List Tok} {n:Nat} {acc:List Pa} {σ:RS} {R:List Pa×RS} (h:parsL ts n acc σ=some R):∃k,n=k+1∧acc.length≤40000 ∧
  ((σ.code=0∧isS ts [44] (kindS ts (wantS ts [58] (nameS ts σ)))=true∧parsL ts k (acc++[⟨str (nameV ts σ),kindV ts (wantS ts [58] (nameS ts σ))⟩]) (stepS (kindS ts (wantS ts [58] (nameS ts σ))))=some R) ∨
   (σ.code=0∧isS ts [44] (kindS ts (wantS ts [58] (nameS ts σ)))=false∧R=(acc++[⟨str (nameV ts σ),kindV ts (wantS ts [58] (nameS ts σ))⟩],wantS ts [41] (kindS ts (wantS ts [58] (nameS ts σ)))))∨(σ.code≠0∧R=(acc,σ))):=by
 cases n with
 | zero=>cases h
 | succ k =>
  simp only[parsL] at h
  split at h
  ·rename_i hl
   refine⟨k,rfl,hl,?_⟩
   split at h
   ·rename_i hc
    split at h
    ·rename_i hi;exact .inl ⟨hc,hi,h⟩
    ·rename_i hi;exact .inr (.inl ⟨hc,Bool.eq_false_iff.2 hi,by simpa using h.symm⟩)
   ·rename_i hc;exact .inr (.inr ⟨hc,by simpa using h.symm⟩)
  ·cases h
theorem pa_info:(prog.info? 62).map (fun i=>(i.zero,i.size,i.bytes))=some (some (.agg #[.string ⟨#[]⟩,.int .i64 0]),2,24):=by kernel_rfl
theorem wpList_pas (w:World) {ops:Array Oper} {rest:List Oper} {o:Oper} {a:Act} {Q:Exit→Act→World→Prop}
  (hg:o.guard=none) (s x:Operand) (hop:o.op=Op.call { callee:=Callee.builtin Builtin.append,args:=#[s,x],argTypes:=#[54,54] })
  (base:Nat) (v:Value) (k:Nat) (xs:List Value) (hs:a.eval s=v) (hown:w.ownsRow base 62 2 v k xs) (kb:Nat) (u1 u2:Value) (hx:a.eval x=.slice (some ⟨kb,0,none⟩) 1 1)
  (hc:w.cell? ⟨kb,0,none⟩=some u1∧w.cell? ⟨kb,1,none⟩=some u2) (h1c:u1.oneCell'=true∧u2.oneCell'=true) (hk:k≤40000) (b3:base≤w.heap.size)
  (hK:∀g cap w',w'.ownsRow base 62 2 (.slice (some ⟨g,0,none⟩) (k+1) cap) (k+1) (xs++[u1,u2])→w.grownBy w' v.ownBlock→wpList prog ops Q rest (a.put o.dst (.slice (some ⟨g,0,none⟩) (k+1) cap)) w') :
  wpList prog ops Q (o :: rest) a w:=by
 obtain⟨i,h2,h3,h4,h5⟩:=info_parts pa_info
 refine wpList_append_lies (w:=w) hg s x 54 hop base 62 i _ 2 24 Tryz.underlying54 h2 h3 h4 h5 rfl (by decide) v k xs hs hown ⟨kb,0,none⟩ 1 1 [u1,u2] hx rfl (fun j v hj=>?_) (by simpa using h1c) (by decide) (by unfold maxLen;omega) (by omega) b3 w.heap.size rfl fun g cap w' h1 h2 _ _=>hK g cap w' h1 h2
 have e:∀j,(⟨kb,0,none⟩:Addr).add j=⟨kb,j,none⟩:=fun j=>by unfold Addr.add;split <;> simp_all
 rw[e]
 rcases j with _ | _ | j
 ·cases hj;exact hc.1
 ·cases hj;exact hc.2
 ·simp at hj
theorem new_cell2 (W:World) (u v:Value) (T:TypeId):(W.alloc (.cells #[u,v] T)).cell? ⟨W.heap.size,0,none⟩=some u∧(W.alloc (.cells #[u,v] T)).cell? ⟨W.heap.size,1,none⟩=some v:=by
 constructor <;> (rw[World.cell?_alloc_new];rfl)
structure PaSg (W Y:World) (b g cap:Nat) (dv:Value) (ts:List Tok) (xb:Nat→Prop) (σ:RS) (acc:List Pa) (v:Value):Prop where
 rd:Rd Y b g cap dv ts xb σ
 rk:RK b W Y
 own:Y.ownsRow W.heap.size 62 2 v acc.length (paC acc)
def PaI (W:World) (b g cap:Nat) (dv:Value) (ts:List Tok) (xb:Nat→Prop) (f:Nat) (R:List Pa×RS) (n:Nat) (x:Value×World):Prop :=
 ∃(acc:List Pa) (τ:RS),n≤f∧parsL ts n acc τ=some R∧PaSg W x.2 b g cap dv ts xb τ acc x.1
def PasRet (b g cap:Nat) (dv:Value) (ts:List Tok) (xb:Nat→Prop) (W:World) (l:List Pa) (σ:RS) (r:Ending) (Y:World):Prop :=
 ∃o c,r=.returned (.slice o l.length c)∧PaSg W Y b g cap dv ts xb σ l (.slice o l.length c)
theorem params_any (b g cap:Nat) (dv:Value) (ts:List Tok) (xb:Nat→Prop) (σ:RS) (f:Nat) (R:List Pa×RS) (hr:paramsS ts f σ=some R) (W:World) (h:Hid (Rd W b g cap dv ts xb σ)) :
  Calls prog 42 #[.pointer (some ⟨b,0,none⟩)] W fun r Y=>PasRet b g cap dv ts xb W R.1 R.2 r Y:=by
 have C1:Hid (Calls prog 37 #[.pointer (some ⟨b,0,none⟩),.string ⟨#[40]⟩] W fun r Y=>RdRet b g cap dv ts xb W (.tuple #[]) (wantS ts [40] σ) r Y):=Hd (want_any b g cap dv ts xb σ [40] W h)
 unfold paramsS at hr
 obtain⟨x,hx⟩:∃x,x=wantS ts [40] σ:=⟨_,rfl⟩
 rw[←hx] at hr C1
 clear hx
 have hbs:=h.out.size
 cases hi:isS ts [41] x with
 | true =>
  rw[if_pos hi] at hr
  have C2:Hid (∀W,Hid (Rd W b g cap dv ts xb x)→Calls prog 36 #[.pointer (some ⟨b,0,none⟩),.string ⟨#[41]⟩] W fun r Y=>RdRet b g cap dv ts xb W (.bool true) (stepS x) r Y):=Hd fun W h=>took_true [41] hi W h
  cases hr
  clear hi
  go_enter Tryz.func42,Tryz.ntmps42
  go_wp2_with (first
   | (go_at_call 37;(with_reducible refine C1.out.mono ?_);rintro e w1 ⟨rfl,hr,hk⟩;have HR:=Hd hr;have HK:=Hd hk;clear hr hk)
   | (go_at_call 36;(with_reducible refine(C2.out w1 HR).mono ?_);rintro e w2 ⟨rfl,hr,hk⟩;have HR2:=Hd hr;have HK2:=Hd hk;clear hr hk))
  go_ret
  exact⟨none,0,rfl,HR2.out,HK.out.trans HK2.out,qO _ _ _ _⟩
 | false =>
  rw[if_neg (by rw[hi];simp)] at hr
  have C2:Hid (∀W,Hid (Rd W b g cap dv ts xb x)→Calls prog 36 #[.pointer (some ⟨b,0,none⟩),.string ⟨#[41]⟩] W fun r Y=>RdRet b g cap dv ts xb W (.bool false) x r Y):=Hd fun W h=>took_false [41] hi W h
  obtain⟨m,hm⟩:=least_of (PaI W b g cap dv ts xb f R)
  have HM:=Hd hm
  have HRUN:=Hd hr
  clear hm hi hr
  go_enter Tryz.func42,Tryz.ntmps42
  go_wp2_with (first
   | (go_at_call 37;(with_reducible refine C1.out.mono ?_);rintro e w1 ⟨rfl,hr,hk⟩;have HR:=Hd hr;have HK:=Hd hk;clear hr hk)
   | (go_at_call 36;(with_reducible refine(C2.out w1 HR).mono ?_);rintro e w2 ⟨rfl,hr,hk⟩;have HR2:=Hd hr;have HK2:=Hd hk;clear hr hk))
  have HST:Hid (PaSg W w2 b g cap dv ts xb x [] (.slice none 0 0)):=Hd ⟨HR2.out,HK.out.trans HK2.out,qO _ _ _ _⟩
  go_loopw [3] (fun v wr=>∃o nn c,v=.slice o nn c∧Hid (∃n,PaI W b g cap dv ts xb f R n (v,wr))) (fun v wr=>m (v,wr))
  case atStart=>exact⟨_,_,_,rfl,Hd ⟨f,[],x,qL _,HRUN.out,HST.out⟩⟩
  case round =>
   obtain⟨ov,nv,cv,rfl,hI⟩:=hrel
   obtain⟨hm1,hm2⟩:=HM.out _ hI.out
   obtain⟨acc,τ,hnf,hrun,hst⟩:=hm1
   obtain⟨nn,hmn⟩:∃nn,nn=m (.slice ov nv cv,wr):=⟨_,rfl⟩
   rw[←hmn] at hnf hrun
   obtain⟨k,rfl,hacc,hcase⟩:=parsL_cases hrun
   have HST':=Hd hst
   have HMN:=Hd hmn
   have HNV:Hid (nv=acc.length):=Hd (by obtain⟨o',c',e⟩:=own_form hst.own;injection e)
   have hnv:nv≤40000:=by have:=HNV.out;omega
   have HKF:=Hd hnf
   have HRr:=Hd hst.rd
   obtain⟨_,_,⟨_,_,_,_,c5,_,_⟩,_⟩:=hst.rd.cells
   obtain⟨cd,hcd⟩:∃cd,cd=τ.code:=⟨_,rfl⟩
   rw[←hcd] at c5
   clear hrun hmn hm2 hI hst hacc hnf HR HR2 HK HK2 HST HRUN
   rcases hcase with ⟨hc,hi,hg2⟩ | ⟨hc,hi,hg2⟩ | ⟨hc,hg1⟩
   ·have q1:(cd ==0)=true:=by rw[hcd,hc];rfl
    have NM:=Hd (name_any b g cap dv ts xb τ wr HRr)
    have HG2:=Hd hg2
    obtain⟨nm,hnm⟩:∃nm,nm=nameV ts τ:=⟨_,rfl⟩
    obtain⟨t1,ht1⟩:∃t1,t1=nameS ts τ:=⟨_,rfl⟩
    rw[←hnm,←ht1] at NM
    rw[←hnm,←ht1] at HG2
    rw[←ht1] at hi
    have WT:Hid (∀W,Hid (Rd W b g cap dv ts xb t1)→Calls prog 37 #[.pointer (some ⟨b,0,none⟩),.string ⟨#[58]⟩] W fun r Y=>RdRet b g cap dv ts xb W (.tuple #[]) (wantS ts [58] t1) r Y):=Hd fun W h=>want_any b g cap dv ts xb t1 [58] W h
    obtain⟨t2,ht2⟩:∃t2,t2=wantS ts [58] t1:=⟨_,rfl⟩
    rw[←ht2] at WT HG2 hi
    have KT:Hid (∀W,Hid (Rd W b g cap dv ts xb t2)→Calls prog 44 #[.pointer (some ⟨b,0,none⟩)] W fun r Y=>RdRet b g cap dv ts xb W (.int .i64 (kindV ts t2)) (kindS ts t2) r Y):=Hd fun W h=>kind_any b g cap dv ts xb t2 W h
    obtain⟨kv,hkv⟩:∃kv,kv=kindV ts t2:=⟨_,rfl⟩
    obtain⟨t3,ht3⟩:∃t3,t3=kindS ts t2:=⟨_,rfl⟩
    rw[←hkv,←ht3] at KT HG2
    rw[←ht3] at hi
    have TK:Hid (∀W,Hid (Rd W b g cap dv ts xb t3)→Calls prog 36 #[.pointer (some ⟨b,0,none⟩),.string ⟨#[44]⟩] W fun r Y=>RdRet b g cap dv ts xb W (.bool true) (stepS t3) r Y):=Hd fun W h=>took_true [44] hi W h
    clear hnm ht1 ht2 hkv ht3 hc hi hg2 hcd
    go_wp2_with (first
     | (go_at_call 41;(with_reducible refine NM.out.mono ?_);rintro e w3 ⟨rfl,hr,hk⟩;have HR3:=Hd hr;have HK3:=Hd (HST'.out.rk.trans hk);have HO3:=Hd (own_keepT HST'.out.own (by decide) (by omega) hk);clear hr hk)
     | (go_at_call 37;(with_reducible refine(WT.out w3 HR3).mono ?_);rintro e w4 ⟨rfl,hr,hk⟩;have HR4:=Hd hr;have HK4:=Hd (HK3.out.trans hk);have HO4:=Hd (own_keepT HO3.out (by decide) (by omega) hk);clear hr hk)
     | (go_at_call 44;(with_reducible refine(KT.out w4 HR4).mono ?_);rintro e w5 ⟨rfl,hr,hk⟩;have HR5:=Hd hr;have HK5:=Hd (HK4.out.trans hk);have HO5:=Hd (own_keepT HO4.out (by decide) (by omega) hk);have hsz5:=HK5.out.size;clear hr hk)
     | (at_builtin;refine wpList_pas _ rfl _ _ rfl W.heap.size (.slice ov nv cv) nv (paC acc) rfl (by have:=HO5.out.alloc (.cells #[.string (str nm),.int .i64 kv] 62);rw[←HNV.out] at this;exact this) w5.heap.size (.string (str nm)) (.int .i64 kv) rfl (new_cell2 _ _ _ _) ⟨rfl,rfl⟩ hnv (by simp;omega) ?_;intro gg cc w6 ho hg;have HO6:=Hd ho;have HX6:=Hd hg;have HA5:=Hd (HO5.out.alloc (.cells #[.string (str nm),.int .i64 kv] 62));have HR6:Hid (Rd w6 b g cap dv ts xb t3):=Hd ((HR5.out.alloc _).grownT HA5.out hbs (by decide) (by decide) (by exact hg));have HK6:Hid (RK b W w6):=Hd ((HK5.out.trans (RK.of_below ((qB _ _).alloc (qL _) (.cells #[.string (str nm),.int .i64 kv] 62)) (ql HR5.out.size))).grownT hbs HA5.out (by exact hg));clear ho hg)
     | (go_at_call 36;(with_reducible refine(TK.out w6 HR6).mono ?_);rintro e w7 ⟨rfl,hr,hk⟩;have HR7:=Hd hr;have HK7:=Hd (HK6.out.trans hk);have HO7:=Hd (own_keepT HO6.out (by decide) (by omega) hk);clear hr hk))
    have HI:PaI W b g cap dv ts xb f R k (.slice (some ⟨gg,0,none⟩) (nv+1) cc,w7):=⟨acc++[⟨str nm,kv⟩],stepS t3,by have:=HKF.out;omega,HG2.out,HR7.out,HK7.out,by
     have h6:=HO7.out
     have h7:=HNV.out
     rw[paC_snoc,List.length_append,List.length_singleton,←h7]
     exact h6⟩
    exact⟨⟨_,_,_,rfl,Hd ⟨k,HI⟩⟩,by have h5:=(HM.out _ ⟨k,HI⟩).2 k HI;have h6:=HMN.out;omega⟩
   ·have q1:(cd ==0)=true:=by rw[hcd,hc];rfl
    have NM:=Hd (name_any b g cap dv ts xb τ wr HRr)
    have HG2:=Hd hg2
    obtain⟨nm,hnm⟩:∃nm,nm=nameV ts τ:=⟨_,rfl⟩
    obtain⟨t1,ht1⟩:∃t1,t1=nameS ts τ:=⟨_,rfl⟩
    rw[←hnm,←ht1] at NM
    rw[←ht1] at hi
    rw[←hnm,←ht1] at HG2
    have WT:Hid (∀W,Hid (Rd W b g cap dv ts xb t1)→Calls prog 37 #[.pointer (some ⟨b,0,none⟩),.string ⟨#[58]⟩] W fun r Y=>RdRet b g cap dv ts xb W (.tuple #[]) (wantS ts [58] t1) r Y):=Hd fun W h=>want_any b g cap dv ts xb t1 [58] W h
    obtain⟨t2,ht2⟩:∃t2,t2=wantS ts [58] t1:=⟨_,rfl⟩
    rw[←ht2] at WT hi HG2
    have KT:Hid (∀W,Hid (Rd W b g cap dv ts xb t2)→Calls prog 44 #[.pointer (some ⟨b,0,none⟩)] W fun r Y=>RdRet b g cap dv ts xb W (.int .i64 (kindV ts t2)) (kindS ts t2) r Y):=Hd fun W h=>kind_any b g cap dv ts xb t2 W h
    obtain⟨kv,hkv⟩:∃kv,kv=kindV ts t2:=⟨_,rfl⟩
    obtain⟨t3,ht3⟩:∃t3,t3=kindS ts t2:=⟨_,rfl⟩
    rw[←hkv,←ht3] at KT
    rw[←ht3] at hi
    rw[←hkv,←ht3] at HG2
    have TK:Hid (∀W,Hid (Rd W b g cap dv ts xb t3)→Calls prog 36 #[.pointer (some ⟨b,0,none⟩),.string ⟨#[44]⟩] W fun r Y=>RdRet b g cap dv ts xb W (.bool false) t3 r Y):=Hd fun W h=>took_false [44] hi W h
    have WE:Hid (∀W,Hid (Rd W b g cap dv ts xb t3)→Calls prog 37 #[.pointer (some ⟨b,0,none⟩),.string ⟨#[41]⟩] W fun r Y=>RdRet b g cap dv ts xb W (.tuple #[]) (wantS ts [41] t3) r Y):=Hd fun W h=>want_any b g cap dv ts xb t3 [41] W h
    clear hnm ht1 ht2 hkv ht3 hc hi hg2 hcd
    go_wp2_with (first
     | (go_at_call 41;(with_reducible refine NM.out.mono ?_);rintro e w3 ⟨rfl,hr,hk⟩;have HR3:=Hd hr;have HK3:=Hd (HST'.out.rk.trans hk);have HO3:=Hd (own_keepT HST'.out.own (by decide) (by omega) hk);clear hr hk)
     | (go_at_call 37;(with_reducible refine(WT.out w3 HR3).mono ?_);rintro e w4 ⟨rfl,hr,hk⟩;have HR4:=Hd hr;have HK4:=Hd (HK3.out.trans hk);have HO4:=Hd (own_keepT HO3.out (by decide) (by omega) hk);clear hr hk)
     | (go_at_call 44;(with_reducible refine(KT.out w4 HR4).mono ?_);rintro e w5 ⟨rfl,hr,hk⟩;have HR5:=Hd hr;have HK5:=Hd (HK4.out.trans hk);have HO5:=Hd (own_keepT HO4.out (by decide) (by omega) hk);have hsz5:=HK5.out.size;clear hr hk)
     | (at_builtin;refine wpList_pas _ rfl _ _ rfl W.heap.size (.slice ov nv cv) nv (paC acc) rfl (by have:=HO5.out.alloc (.cells #[.string (str nm),.int .i64 kv] 62);rw[←HNV.out] at this;exact this) w5.heap.size (.string (str nm)) (.int .i64 kv) rfl (new_cell2 _ _ _ _) ⟨rfl,rfl⟩ hnv (by simp;omega) ?_;intro gg cc w6 ho hg;have HO6:=Hd ho;have HX6:=Hd hg;have HA5:=Hd (HO5.out.alloc (.cells #[.string (str nm),.int .i64 kv] 62));have HR6:Hid (Rd w6 b g cap dv ts xb t3):=Hd ((HR5.out.alloc _).grownT HA5.out hbs (by decide) (by decide) (by exact hg));have HK6:Hid (RK b W w6):=Hd ((HK5.out.trans (RK.of_below ((qB _ _).alloc (qL _) (.cells #[.string (str nm),.int .i64 kv] 62)) (ql HR5.out.size))).grownT hbs HA5.out (by exact hg));clear ho hg)
     | (go_at_call 36;(with_reducible refine(TK.out w6 HR6).mono ?_);rintro e w7 ⟨rfl,hr,hk⟩;have HR7:=Hd hr;have HK7:=Hd (HK6.out.trans hk);have HO7:=Hd (own_keepT HO6.out (by decide) (by omega) hk);clear hr hk)
     | (go_at_call 37;(with_reducible refine(WE.out w7 HR7).mono ?_);rintro e w8 ⟨rfl,hr,hk⟩;have HR8:=Hd hr;have HK8:=Hd (HK7.out.trans hk);have HO8:=Hd (own_keepT HO7.out (by decide) (by omega) hk);clear hr hk))
    go_ret
    rw[HG2.out]
    refine⟨some ⟨gg,0,none⟩,cc,by rw[HNV.out];simp,HR8.out,HK8.out,?_⟩
    have h6:=HO8.out
    rw[paC_snoc,List.length_append,List.length_singleton,←HNV.out]
    exact h6
   ·have q1:(cd ==0)=false:=by rw[hcd];exact beq_false_of_ne hc
    have HG2:=Hd hg1
    clear hg1 hc hcd
    go_wp2_with fail
    go_ret
    rw[HG2.out]
    exact⟨ov,cv,by rw[HNV.out];rfl,HST'.out.rd,HST'.out.rk,by have:=HST'.out.own;rw[HNV.out] at this;exact this⟩
structure DB (W0 Y:World) (b g cap:Nat) (dv:Value) (ts:List Tok) (xb:Nat→Prop) (σ:RS) (A:Nat) (c:Array Value) (ps:List Pa) (pv:Value) (is:List It) (iv:Value):Prop where
 rd:Rd Y b g cap dv ts xb σ
 rk:RK b W0 Y
 zero:Y.heap[A]?=some (.cells #[.int .i64 0,.string ⟨#[]⟩,.slice none 0 0,.slice none 0 0,.int .i64 0,.int .i64 0,.int .i64 0] 57 (0,0))
 box:Y.heap[A+1]?=some (.cells c 57 (0,0))
 hA:W0.heap.size≤A
 hb:b<W0.heap.size
 pa:Y.ownsRow W0.heap.size 62 2 pv ps.length (paC ps)
 it:ItsOwn Y W0.heap.size iv is
theorem DB.call {W0 Y Z:World} {b g cap:Nat} {dv:Value} {ts:List Tok} {xb:Nat→Prop} {σ τ:RS} {A:Nat} {c:Array Value} {ps:List Pa} {pv:Value} {is:List It} {iv:Value} (h:DB W0 Y b g cap dv ts xb σ A c ps pv is iv) (hr:Rd Z b g cap dv ts xb τ) (hk:RK b Y Z):DB W0 Z b g cap dv ts xb τ A c ps pv is iv :=
 ⟨hr,h.rk.trans hk,hk.keep A _ h.zero (by have:=h.hA;have:=h.hb;omega) (.of (by decide)),hk.keep (A+1) _ h.box (by have:=h.hA;have:=h.hb;omega) (.of (by decide)),h.hA,h.hb,own_keepT h.pa (by decide) h.hb hk,h.it.keep h.hb hk⟩
theorem its_set {W:World} {B:Nat} {v:Value} {l:List It} (h:ItsOwn W B v l) {A:Nat} {cs:Array Value} (hA:W.heap[A]?=some (.cells cs 57 (0,0))) (i:Nat) (u:Value):ItsOwn (W.setCell ⟨A,i,none⟩ u) B v l:=by
 obtain⟨q,h1,h2,h3⟩:=h
 exact⟨q,h1,row_set h2 hA i u,fun x hx=>row_set (h3 x hx) hA i u⟩
theorem DB.set {W0 Y:World} {b g cap:Nat} {dv:Value} {ts:List Tok} {xb:Nat→Prop} {σ:RS} {A:Nat} {c:Array Value} {ps:List Pa} {pv:Value} {is:List It} {iv:Value} (h:DB W0 Y b g cap dv ts xb σ A c ps pv is iv) (i:Nat) (v:Value) {c':Array Value} (he:c.setIfInBounds i v=c'):DB W0 (Y.setCell ⟨A+1,i,none⟩ v) b g cap dv ts xb σ A c' ps pv is iv :=
 ⟨h.rd.setBox h.box (by decide) (by decide) (by have:=h.hA;have:=h.hb;omega) i v,h.rk.setNew (by have:=h.hA;omega) (by have:=h.hA;have:=h.hb;omega) i v,(Below.heap_setCell Y ⟨A+1,i,none⟩ v A (by simp)).trans h.zero,by rw[set_blk h.box,he],h.hA,h.hb,row_set h.pa h.box i v,its_set h.it h.box i v⟩
theorem DB.callP {W0 Y Z:World} {b g cap:Nat} {dv:Value} {ts:List Tok} {xb:Nat→Prop} {σ τ:RS} {A:Nat} {c:Array Value} {ps ps':List Pa} {pv pv':Value} {is:List It} {iv:Value} (h:DB W0 Y b g cap dv ts xb σ A c ps pv is iv) (hs:PaSg Y Z b g cap dv ts xb τ ps' pv'):DB W0 Z b g cap dv ts xb τ A c ps' pv' is iv :=
 { h.call hs.rd hs.rk with pa:=own_base hs.own h.rk.size }
theorem DB.callI {W0 Y Z:World} {b g cap:Nat} {dv:Value} {ts:List Tok} {xb:Nat→Prop} {σ τ:RS} {A:Nat} {c:Array Value} {ps:List Pa} {pv:Value} {is is':List It} {iv iv':Value} (h:DB W0 Y b g cap dv ts xb σ A c ps pv is iv) (hs:ItSg Y Z b g cap dv ts xb τ is' iv'):DB W0 Z b g cap dv ts xb τ A c ps pv is' iv' :=
 { h.call hs.rd hs.rk with it:=hs.own.base h.rk.size }
theorem dgCells {W:World} {B:Nat} {x0 x1 x2 x3 x4 x5 x6:Value} {T:TypeId} (h:W.heap[B]?=some (.cells #[x0,x1,x2,x3,x4,x5,x6] T (0,0))):(W.cell? ⟨B,0,none⟩=some x0∧W.cell? ⟨B,1,none⟩=some x1∧W.cell? ⟨B,2,none⟩=some x2∧W.cell? ⟨B,3,none⟩=some x3∧W.cell? ⟨B,4,none⟩=some x4∧W.cell? ⟨B,5,none⟩=some x5∧W.cell? ⟨B,6,none⟩=some x6)∧∀i,W.frozen? ⟨B,i,none⟩=false :=
 ⟨⟨by simp[World.cell?,h],by simp[World.cell?,h],by simp[World.cell?,h],by simp[World.cell?,h],by simp[World.cell?,h],by simp[World.cell?,h],by simp[World.cell?,h]⟩,fun i=>by simp[World.frozen?,h]⟩
def set7 (W:World) (A:Nat) (x0 x1 x2 x3 x4 x5 x6:Value):World:=((((((W.setCell ⟨A,0,none⟩ x0).setCell ⟨A,1,none⟩ x1).setCell ⟨A,2,none⟩ x2).setCell ⟨A,3,none⟩ x3).setCell ⟨A,4,none⟩ x4).setCell ⟨A,5,none⟩ x5).setCell ⟨A,6,none⟩ x6
theorem set7_box {W:World} {A:Nat} {y0 y1 y2 y3 y4 y5 y6:Value} {T:TypeId} (h:W.heap[A]?=some (.cells #[y0,y1,y2,y3,y4,y5,y6] T (0,0))) (x0 x1 x2 x3 x4 x5 x6:Value) :
  (set7 W A x0 x1 x2 x3 x4 x5 x6).heap[A]?=some (.cells #[x0,x1,x2,x3,x4,x5,x6] T (0,0)):=by
 have h1:=set_blk h 0 x0
 have h2:=set_blk h1 1 x1
 have h3:=set_blk h2 2 x2
 have h4:=set_blk h3 3 x3
 have h5:=set_blk h4 4 x4
 have h6:=set_blk h5 5 x5
 have h7:=set_blk h6 6 x6
 unfold set7
 rw[h7]
 simp
theorem set7_but (W:World) (A:Nat) (x0 x1 x2 x3 x4 x5 x6:Value):But A W (set7 W A x0 x1 x2 x3 x4 x5 x6):=((((((But.refl A W).set 0 _).set 1 _).set 2 _).set 3 _).set 4 _).set 5 _ |>.set 6 _
def DeRetG (b g cap:Nat) (dv:Value) (ts:List Tok) (xb:Nat→Prop) (W:World) (d:De) (σ:RS) (r:Ending) (Y:World):Prop :=
 ∃po pc io ic,r=.returned (.agg #[.int .i64 d.kind,.string d.name,.slice po d.params.length pc,.slice io d.items.length ic,.int .i64 d.type,.int .i64 d.e,.int .i64 d.pos])∧Rd Y b g cap dv ts xb σ∧RK b W Y∧Y.ownsRow W.heap.size 62 2 (.slice po d.params.length pc) d.params.length (paC d.params)∧ItsOwn Y W.heap.size (.slice io d.items.length ic) d.items
theorem own_but {W Y:World} {B:Nat} {T T2:TypeId} {s:Nat} {v:Value} {n:Nat} {xs:List Value} (h:W.ownsRow B T s v n xs) {A:Nat} {cs:Array Value} (hA:W.heap[A]?=some (.cells cs T2 (0,0))) (hT:T≠T2) (hb:But A W Y):Y.ownsRow B T s v n xs :=
 rd_own_same h fun k e=>hb.block k (by
  rintro rfl
  obtain⟨_,cs',hc⟩:=own_type h e
  rw[hA] at hc;cases hc;exact hT rfl) (h.lt k e).2
theorem its_but {W Y:World} {B:Nat} {v:Value} {l:List It} (h:ItsOwn W B v l) {A:Nat} {cs:Array Value} (hA:W.heap[A]?=some (.cells cs 57 (0,0))) (hb:But A W Y):ItsOwn Y B v l:=by
 obtain⟨q,h1,h2,h3⟩:=h
 exact⟨q,h1,own_but h2 hA (by decide) hb,fun x hx=>own_but (h3 x hx) hA (by decide) hb⟩
theorem states_LR {ts:List Tok}:∀(n:Nat) (acc:List ByteArray) (σ:RS) (R:List ByteArray×RS),statesL ts n acc σ=some R→∃m,LR (stOne ts) ts m acc σ R.1 R.2:=by
 intro n
 induction n with
 | zero=>intro acc σ R h;cases h
 | succ n ih =>
  intro acc σ R h
  simp only[statesL] at h
  split at h
  ·rename_i hl
   split at h
   ·rename_i hi
    obtain⟨m,hm⟩:=ih _ _ R h
    exact⟨m+1,.more hi ⟨rfl,rfl,hl⟩ hm⟩
   ·rename_i hi
    obtain rfl:=qI h
    exact⟨0,.stop (by simpa using hi)⟩
  ·cases h
def SsRet (b g cap:Nat) (dv:Value) (ts:List Tok) (xb:Nat→Prop) (W:World) (acc:List ByteArray) (τ:RS) (r:Ending) (Y:World):Prop :=
 (τ.code=0∧∃o c,r=.returned (.slice o acc.length c)∧Hid (Cd Y b g cap dv ts xb τ)∧Hid (RX b xb W Y)∧Hid (Y.ownsRow W.heap.size 9 1 (.slice o acc.length c) acc.length (acc.map .string)))∨(τ.code≠0∧r=.panicked [{ v:=refusalV τ.code τ.pos,recovered:=false }]∧Hid (RX b xb W Y))
theorem enters_states1:∀args w,(callFunc 114 args).run prog w=.ok (.enter 114 args) w:=enters_of Tryz.func114 (by kernel_rfl) rfl
theorem states_any (b g cap:Nat) (dv:Value) (ts:List Tok) (xb:Nat→Prop) (f:Nat) (y τ:RS) (hc:y.code=0) (acc:List ByteArray) (hr:statesL ts f [str (nameV ts y)] (nameS ts y)=some (acc,τ)) (W:World) (h:Hid (Cd W b g cap dv ts xb y)) :
  Calls prog 104 #[.pointer (some ⟨b,0,none⟩)] W fun r Y=>SsRet b g cap dv ts xb W acc (wantS ts [125] τ) r Y:=by
 obtain⟨W1,hW1⟩:∃W1,W1=W.alloc (.cells #[.pointer (some ⟨b,0,none⟩)] 48):=⟨_,rfl⟩
 have hb1:Below W.heap.size W W1:=by rw[hW1];exact(qB _ _).alloc (qL _) _
 obtain⟨W2,hW2⟩:∃W2,W2=W1.alloc (.cells #[.slice none 0 0] 63):=⟨_,rfl⟩
 have hb2:Below W1.heap.size W1 W2:=by rw[hW2];exact(qB _ _).alloc (qL _) _
 have hbb:Below W.heap.size W W2:=hb1.trans (hb2.mono hb1.size)
 have hbs:=h.out.size
 have HX0:=h.out.xlt
 have hw1:W1.heap.size=W.heap.size+1:=by rw[hW1];simp
 have hbx:BoxR W1 W.heap.size b:=by rw[hW1];exact boxR_new W b
 have HI:Hid (StI b g cap dv ts xb W (W.heap.size+1) W.heap.size [] y W2):=Hd ⟨none,0,h.out.below hbb,RX.of_below hbb (ql hbs) HX0,(hb2.block _ (by omega)).trans hbx,by rw[hW2,←hw1];exact heap_alloc_new W1 _,qO _ _ _ _⟩
 have HBX:Hid (BoxR W2 W.heap.size b):=Hd ((hb2.block _ (by omega)).trans hbx)
 have b2:=HBX.out.cell
 obtain⟨m,hm⟩:=states_LR f _ _ _ hr
 have HL:Hid (Calls prog 86 #[.pointer (some ⟨b,0,none⟩),.string ⟨#[125]⟩,.func (.func 114) #[] #[.pointer (some ⟨W.heap.size+1,0,none⟩),.pointer (some ⟨W.heap.size,0,none⟩)]] W2 fun r Y=>LsRet b xb W (StI b g cap dv ts xb W (W.heap.size+1) W.heap.size) acc (wantS ts [125] τ) r Y):=Hd (
  list_any b g cap dv ts xb W _ (stOne ts) (stI_in hbs (by omega) (by omega)) stOne_stays _ _ _ enters_states1 (fun a σ a' σ' hc h1 W' h'=>states1_any b g cap dv ts xb W (W.heap.size+1) W.heap.size hbs HX0 (by omega) (by omega) (by omega) a a' σ σ' hc h1 W' h') [125] (by decide) [] [str (nameV ts y)] acc y (nameS ts y) τ m hc ⟨rfl,rfl,by simp⟩ hm W2 HI)
 have MF:=runF
 clear hm hr hb1 hb2 hbb hbx hw1 HI
 go_enter Tryz.func104,Tryz.ntmps104
 go_wp2_with (go_at_call 86;rw[←hW1,←hW2];clear hW1 hW2;(with_reducible refine HL.out.mono ?_);intro e w3 hY;rcases hY with ⟨z,rfl,o,c,hS⟩ | ⟨z,rfl,hk⟩;rotate_left;exact⟨rfl,.inr ⟨z,rfl,Hd hk⟩⟩;have HS:=Hd hS;clear hS;obtain⟨n,hn⟩:∃n,n=acc.length:=⟨_,rfl⟩;have y0:=(cell_one1 HS.out.lbx).1;rw[←hn] at y0;have HN:=Hd hn;clear hn)
 go_ret
 exact .inl ⟨z,o,c,by rw[HN.out];rfl,Hd HS.out.cd,Hd HS.out.rx,Hd HS.out.own⟩
theorem behind_states (b g cap:Nat) (dv:Value) (ts:List Tok) (xb:Nat→Prop) (f:Nat) (σ τ:RS) (s:List UInt8) (acc:List ByteArray) (hr:statesL ts f [str (nameV ts (wantS ts s σ))] (nameS ts (wantS ts s σ))=some (acc,τ)) (hst:Stays (wantS ts s σ) (wantS ts [125] τ)) (W:World) (h:Hid (Cd W b g cap dv ts xb σ)) (hc:σ.code=0) (hs:s ∈ sgL) :
  Calls prog 103 #[.pointer (some ⟨b,0,none⟩),.string (str s),.func (.func 104) #[.pointer (some ⟨b,0,none⟩)] #[]] W fun r Y=>SsRet b g cap dv ts xb W acc (wantS ts [125] τ) r Y:=by
 refine behind_strs b g cap dv ts xb σ s _ _ W h hc hs enters_states (fun hw r Y hh=>?_) fun hw W' h' hk=>?_
 ·obtain⟨h1,h2⟩:=hst hw
  exact .inr ⟨by rw[h1];exact hw,by rw[h1,h2];exact hh.1,hh.2⟩
 ·have hsz:=hk.out.size
  exact(states_any b g cap dv ts xb f _ τ hw acc hr W' h').mono fun r Y hh=>by
   rcases hh with ⟨z,o,c,h1,h2,h3,h4⟩ | ⟨z,h1,h2⟩
   ·exact .inl ⟨z,o,c,h1,h2,Hd (hk.out.trans h3.out),Hd (own_base h4.out hsz)⟩
   ·exact .inr ⟨z,h1,Hd (hk.out.trans h2.out)⟩
theorem stays_states {ts:List Tok}:∀(n:Nat) (acc:List ByteArray) (σ:RS) (R:List ByteArray×RS),statesL ts n acc σ=some R→Stays σ R.2:=fun n acc σ R h=>by
 obtain⟨m,hm⟩:=states_LR n acc σ R h
 exact hm.stays stOne_stays
structure PaS (b g cap:Nat) (dv:Value) (ts:List Tok) (xb:Nat→Prop) (W0:World) (lb rb:Nat) (o:Option Addr) (c:Nat) (acc:List Pa) (σ:RS) (W:World):Prop where
 cd:Cd W b g cap dv ts xb σ
 rx:RX b xb W0 W
 bx:BoxR W rb b
 lbx:W.heap[lb]?=some (.cells #[.slice o acc.length c] 54 (0,0))
 own:W.ownsRow W0.heap.size 62 2 (.slice o acc.length c) acc.length (paC acc)
def PaI2 (b g cap:Nat) (dv:Value) (ts:List Tok) (xb:Nat→Prop) (W0:World) (lb rb:Nat) (acc:List Pa) (σ:RS) (W:World):Prop:=∃o c,PaS b g cap dv ts xb W0 lb rb o c acc σ W
def paOne (ts:List Tok) (acc:List Pa) (σ:RS) (acc':List Pa) (σ':RS):Prop:=acc'=acc++[⟨str (nameV ts σ),kindV ts (wantS ts [58] (nameS ts σ))⟩]∧σ'=kindS ts (wantS ts [58] (nameS ts σ))∧acc.length≤40000
theorem paOne_stays {ts:List Tok}:∀a σ a' σ',paOne ts a σ a' σ'→Stays σ σ':=fun a σ a' σ' ⟨_,h,_⟩=>by rw[h];exact(stays_name ts σ).trans ((stays_want ts [58] _).trans (stays_kind ts _))
theorem PaS.on {b g cap:Nat} {dv:Value} {ts:List Tok} {xb:Nat→Prop} {W0:World} {lb rb:Nat} {o:Option Addr} {c:Nat} {acc:List Pa} {σ σ':RS} {W Y:World} (h:PaS b g cap dv ts xb W0 lb rb o c acc σ W) (hb:b<W0.heap.size) (hlb:lb≠b) (hrb:rb≠b) (hc:Cd Y b g cap dv ts xb σ') (hr:RX b xb W Y):PaS b g cap dv ts xb W0 lb rb o c acc σ' Y :=
 ⟨hc,h.rx.trans hr,h.bx.keep hrb hr,hr.keep lb _ h.lbx hlb (NoEx.of (by decide)),own_keepT h.own (by decide) hb hr.rk⟩
theorem paI_in {b g cap:Nat} {dv:Value} {ts:List Tok} {xb:Nat→Prop} {W0:World} {lb rb:Nat} (hb:b<W0.heap.size) (hlb:lb≠b) (hrb:rb≠b):∀(a:List Pa) (σ:RS) (W:World),PaI2 b g cap dv ts xb W0 lb rb a σ W→∃xs:Nat→Prop,(∀k,xb k→xs k)∧Cd W b g cap dv ts xs σ∧RX b xb W0 W∧∀σ' Y,Cd Y b g cap dv ts xs σ'→RX b xs W Y→PaI2 b g cap dv ts xb W0 lb rb a σ' Y:=fun a σ W ⟨o,c,h⟩ =>
 ⟨xb,fun _ h=>h,h.cd,h.rx,fun σ' Y hc hr=>⟨o,c,h.on hb hlb hrb hc hr⟩⟩
theorem PaS.push {b g cap:Nat} {dv:Value} {ts:List Tok} {xb:Nat→Prop} {W0:World} {lb rb:Nat} {o:Option Addr} {c:Nat} {acc:List Pa} {e:Pa} {σ:RS} {W W1 W2:World} (h:PaS b g cap dv ts xb W0 lb rb o c acc σ W) (hb:b<W0.heap.size) (hlb:W0.heap.size≤lb) (hx0:∀k,xb k→k<W0.heap.size) (hrl:rb≠lb) (hrb2:rb≠b) (hB:Below W.heap.size W W1) (gg cc:Nat)
  (ho:W2.ownsRow W0.heap.size 62 2 (.slice (some ⟨gg,0,none⟩) (acc.length+1) cc) (acc.length+1) (paC acc++[.string e.name,.int .i64 e.type])) (hg:W1.grownBy W2 (Value.slice o acc.length c).ownBlock) :
  PaI2 b g cap dv ts xb W0 lb rb (acc++[e]) σ (W2.setCell ⟨lb,0,none⟩ (.slice (some ⟨gg,0,none⟩) (acc.length+1) cc)):=by
 have hw0:W0.heap.size≤W.heap.size:=h.rx.size
 have hs1:=hB.size
 have hs2:=hg.size
 have hlw:=heap_lt h.lbx
 have hrw:=heap_lt h.bx
 have own1:W1.ownsRow W0.heap.size 62 2 (.slice o acc.length c) acc.length (paC acc):=rd_own_same h.own fun k e=>hB.block k (h.own.lt k e).2
 have own_ge:∀k,(Value.slice o acc.length c).ownBlock=some k→W0.heap.size≤k∧∃cs,W.heap[k]?=some (.cells cs 62 (0,0)):=fun k hk=>own_type h.own hk
 have same:∀k,k<W.heap.size→(Value.slice o acc.length c).ownBlock≠some k→W2.heap[k]?=W.heap[k]?:=fun k hk hne=>(hg.block k (by omega) (fun e=>hne e.symm)).trans (hB.block k hk)
 have h2:Cd W2 b g cap dv ts xb σ:=(h.cd.below hB).grownT own1 (by omega) (by decide) (by decide) hg
 have r2:RX b xb W0 W2:=(h.rx.trans (RX.of_below hB (by omega) fun k hk=>Nat.lt_of_lt_of_le (hx0 k hk) hw0)).grown hx0 hb own1 hg
 have hlb2:W2.heap[lb]?=some (.cells #[.slice o acc.length c] 54 (0,0)):=(same lb hlw fun e=>by
  obtain⟨_,cs,hc⟩:=own_ge lb e
  rw[h.lbx] at hc;cases hc).trans h.lbx
 have hrb3:W2.heap[rb]?=W.heap[rb]?:=same rb hrw fun e=>by
  obtain⟨_,cs,hc⟩:=own_ge rb e
  have hbx:=h.bx
  unfold BoxR at hbx
  rw[hbx] at hc;cases hc
 have hgl:gg≠lb:=fun e=>by
  obtain⟨_,cs,hc⟩:=own_type ho (k:=gg) rfl
  rw[e,hlb2] at hc;cases hc
 have hbut:But lb W2 (W2.setCell ⟨lb,0,none⟩ (.slice (some ⟨gg,0,none⟩) (acc.length+1) cc)):=(But.refl _ _).set 0 _
 have hlen:(acc++[e]).length=acc.length+1:=by simp
 refine⟨some ⟨gg,0,none⟩,cc,h2.but hlb2 (by decide) (by decide) (by omega) hbut,r2.but hx0 hlb (by omega) hb hbut,?_,?_,?_⟩
 ·unfold BoxR
  rw[Below.heap_setCell W2 ⟨lb,0,none⟩ _ rb hrl,hrb3];exact h.bx
 ·rw[set_blk hlb2,hlen];simp
 ·rw[hlen,show paC (acc++[e])=paC acc++[.string e.name,.int .i64 e.type] by unfold paC;simp]
  exact rd_own_same ho fun k e=>by
   obtain rfl:gg=k:=by simpa [Value.ownBlock] using e
   exact Below.heap_setCell W2 ⟨lb,0,none⟩ _ gg hgl
theorem PaS.lb2 {b g cap:Nat} {dv:Value} {ts:List Tok} {xb:Nat→Prop} {W0:World} {lb rb:Nat} {o:Option Addr} {c:Nat} {acc:List Pa} {σ:RS} {W W1 W2:World} (h:PaS b g cap dv ts xb W0 lb rb o c acc σ W) (hB:Below W.heap.size W W1) (hg:W1.grownBy W2 (Value.slice o acc.length c).ownBlock):W2.heap[lb]?=some (.cells #[.slice o acc.length c] 54 (0,0)):=by
 have hlw:=heap_lt h.lbx
 refine((hg.block lb (by have:=hB.size;omega) (fun e=>?_)).trans (hB.block lb hlw)).trans h.lbx
 obtain⟨_,cs,hc⟩:=own_type h.own e.symm
 rw[h.lbx] at hc;cases hc
theorem step_pas {ops:Array Oper} {o:Oper} {a:Act} {K:Act→World→Prop} {Q:Exit→Act→World→Prop} {E:Prop} (w:World) (hgd:o.guard=none) (s x:Operand)
  (ho:o.op=Op.call { callee:=Callee.builtin Builtin.append,args:=#[s,x],argTypes:=#[54,54] }) (B:Nat) (v:Value) (n:Nat) (xs:List Value) (hs:a.eval s=v) (hown:w.ownsRow B 62 2 v n xs)
  (kb:Nat) (u1 u2:Value) (hx:a.eval x=.slice (some ⟨kb,0,none⟩) 1 1) (hc:w.cell? ⟨kb,0,none⟩=some u1∧w.cell? ⟨kb,1,none⟩=some u2) (h1c:u1.oneCell'=true∧u2.oneCell'=true) (hk:n≤40000) (hB:B≤w.heap.size)
  (h:∀g cap w',w'.ownsRow B 62 2 (.slice (some ⟨g,0,none⟩) (n+1) cap) (n+1) (xs++[u1,u2])→w.grownBy w' v.ownBlock→K (a.put o.dst (.slice (some ⟨g,0,none⟩) (n+1) cap)) w'):if Region.wanted o (yielded ops a.tmps)=true then Oper.wp prog o a w K Q else E:=by
 rw[if_pos (by simp[Region.wanted,hgd])]
 obtain⟨i,h2,h3,h4,h5⟩:=info_parts pa_info
 have e:∀j,(⟨kb,0,none⟩:Addr).add j=⟨kb,j,none⟩:=fun j=>by unfold Addr.add;split <;> simp_all
 refine wp_append_own w s x 54 ho B 62 i _ 2 24 Tryz.underlying54 h2 h3 h4 h5 rfl (by decide) v n xs hs hown ⟨kb,0,none⟩ 1 1 [u1,u2] hx rfl (fun j v hj=>?_) (by simpa using h1c) (by unfold maxLen;omega) (by omega) hB fun v' w' r1 r2 _=>?_
 ·rw[e]
  rcases j with _ | _ | j
  ·cases hj;exact hc.1
  ·cases hj;exact hc.2
  ·simp at hj
 ·obtain⟨g,cap,rfl⟩:=ownsRow_succ r1
  exact h g cap w' r1 r2
theorem params1_any (b g cap:Nat) (dv:Value) (ts:List Tok) (xb:Nat→Prop) (W0:World) (lb rb:Nat) (hb:b<W0.heap.size) (hx0:∀k,xb k→k<W0.heap.size) (hlb:W0.heap.size≤lb) (hrl:rb≠lb) (hrb2:rb≠b)
  (acc acc':List Pa) (σ σ':RS) (hc:σ.code=0) (h1:paOne ts acc σ acc' σ') (W:World) (h:Hid (PaI2 b g cap dv ts xb W0 lb rb acc σ W)) :
  Calls prog 87 #[.pointer (some ⟨rb,0,none⟩),.pointer (some ⟨lb,0,none⟩)] W fun r Y=>LsRet b xb W0 (PaI2 b g cap dv ts xb W0 lb rb) acc' σ' r Y:=by
 obtain⟨rfl,hs',hlen⟩:=h1
 obtain⟨o,c,hS⟩:=h.out
 have HS:=Hd hS
 have hbW:b<W.heap.size:=hS.cd.size
 have r0:=hS.bx.cell
 have hlb2:lb≠b:=by omega
 obtain⟨nm,hnm⟩:∃e,e=str (nameV ts σ):=⟨_,rfl⟩
 obtain⟨s1,hs1⟩:∃s,s=nameS ts σ:=⟨_,rfl⟩
 rw[←hs1] at hs'
 rw[←hnm,←hs1]
 obtain⟨kv,hkv⟩:∃k,k=kindV ts (wantS ts [58] s1):=⟨_,rfl⟩
 rw[←hkv]
 obtain⟨n,hn⟩:∃n,n=acc.length:=⟨_,rfl⟩
 have HN:=Hd hn
 have hn5:n≤40000:=by omega
 have HX:=Hd (show _∧_∧_∧_∧_ from⟨hb,hx0,hlb,hrl,hrb2⟩)
 have C0:Hid (∀W,Hid (Cd W b g cap dv ts xb σ)→Calls prog 63 #[.pointer (some ⟨b,0,none⟩)] W fun r Y=>CdRet b g cap dv ts xb W (.string nm) s1 r Y):=Hd fun W h=>by rw[hnm,hs1];exact cname_any b g cap dv ts xb σ W h hc
 have CT:Hid (s1.code=0→∀W,Hid (Cd W b g cap dv ts xb s1)→Calls prog 65 #[.pointer (some ⟨b,0,none⟩),.string ⟨#[58]⟩,.func (.func 66) #[.pointer (some ⟨b,0,none⟩)] #[]] W fun r Y=>CdRet b g cap dv ts xb W (.int .i64 kv) σ' r Y):=Hd fun z W h=>by rw[hkv,hs'];exact behind_types b g cap dv ts xb s1 [58] W h z (by decide)
 have K1:Hid (Stays s1 σ'):=Hd (by rw[hs'];exact(stays_want ts [58] s1).trans (stays_kind ts _))
 have HCD:Hid (Cd W b g cap dv ts xb σ):=Hd hS.cd
 have mixed:prog.follows .mixedOrders=true:=by kernel_rfl
 have late:prog.follows .lateStores=true:=by kernel_rfl
 clear hc hS hn h hlen hx0 hrl hrb2 hnm hs' hs1 hkv
 by_cases hz1:s1.code=0
 ·have C1:Hid (∀W,Hid (Cd W b g cap dv ts xb σ)→Calls prog 63 #[.pointer (some ⟨b,0,none⟩)] W fun r Y=>CdOk b g cap dv ts xb W (.string nm) s1 r Y):=Hd fun W h=>(C0.out W h).mono fun r Y hh=>hh.ok hz1
  have CT1:=Hd (CT.out hz1)
  have HZ1:=Hd hz1
  clear C0 hz1 CT
  by_cases hz:σ'.code=0
  ·have C2:Hid (∀W,Hid (Cd W b g cap dv ts xb s1)→Calls prog 65 #[.pointer (some ⟨b,0,none⟩),.string ⟨#[58]⟩,.func (.func 66) #[.pointer (some ⟨b,0,none⟩)] #[]] W fun r Y=>CdOk b g cap dv ts xb W (.int .i64 kv) σ' r Y):=Hd fun W h=>(CT1.out W h).mono fun r Y hh=>hh.ok hz
   have HZ:=Hd hz
   clear CT1 hz
   go_enter Tryz.func87,Tryz.ntmps87
   go_wp2_with (go_at_call 63;(with_reducible refine(C1.out _ HCD).mono ?_);rintro e w1 ⟨rfl,hr1,hk1⟩)
   have HS0:=Hd (HS.out.on HX.out.1 hlb2 HX.out.2.2.2.2 hr1.out hk1.out)
   have HSD:Hid (PaS b g cap dv ts xb W0 lb rb o c acc s1 w1.drew):=Hd (HS0.out.on HX.out.1 hlb2 HX.out.2.2.2.2 (hr1.out.below (below_dr (qB _ _) 1)) (RX.of_below (below_dr (qB _ _) 1) (ql hr1.out.size) hr1.out.xlt))
   have HCD1:Hid (Cd w1.drew b g cap dv ts xb s1):=Hd HSD.out.cd
   obtain⟨l0,l1⟩:=cell_one1 HSD.out.lbx
   rw[←HN.out] at l0
   have r1:=HSD.out.bx.cell
   refine wp_onlyN ?_
   go_region_law (first
    | (refine step_call1 _ (by rfl) 65 #[.pointer (some ⟨b,0,none⟩),.string ⟨#[58]⟩,.func (.func 66) #[.pointer (some ⟨b,0,none⟩)] #[]] (by go_simp) _ (C2.out _ HCD1) ?_;rintro e1 w2 ⟨rfl,hr2,hk2⟩;refine⟨_,rfl,?_⟩;have HS1:=Hd (HSD.out.on HX.out.1 hlb2 HX.out.2.2.2.2 hr2.out hk2.out);obtain⟨y0,y1⟩:=cell_one1 HS1.out.lbx;rw[←HN.out] at y0;have y2:∀oo,(w2.alloc oo).cell? ⟨lb,0,none⟩=some (.slice o n c):=fun oo=>cell_on ((qB _ _).alloc (qL _) oo) y0;have hw2:=HS1.out.rx.size)
    | (refine step_pas _ (by rfl) (.tmp 5) (.tmp 12) (by rfl) W0.heap.size (.slice o n c) n (paC acc) (by rfl) (by have:=HS1.out.own;rw[←HN.out] at this;exact this.alloc _) w2.heap.size (.string nm) (.int .i64 kv) (by rfl) (by exact new_cell2 _ _ _ _) ⟨rfl,rfl⟩ (by omega) (by simp;omega) ?_;intro gg cc w3 ho hg;have HO:=Hd ho;have HG:=Hd hg;clear ho hg;have HP:=Hd (HS1.out.push (e:=⟨nm,kv⟩) HX.out.1 HX.out.2.2.1 HX.out.2.1 HX.out.2.2.2.1 HX.out.2.2.2.2 ((qB _ _).alloc (qL _) (.cells #[.string nm,.int .i64 kv] 62)) gg cc (by have:=HO.out;rw[HN.out] at this;exact this) (by have:=HG.out;rw[HN.out] at this;exact this));obtain⟨z8,z9⟩:=cell_one1 (HS1.out.lb2 ((qB _ _).alloc (qL _) (.cells #[.string nm,.int .i64 kv] 62)) (by have:=HG.out;rw[HN.out] at this;exact this));rw[←HN.out] at z8))
   all_goals (
    unfold onlyN
    go_end0
    exact .inl ⟨HZ.out,rfl,by rw[HN.out];exact HP.out⟩)
  ·have C2:Hid (∀W,Hid (Cd W b g cap dv ts xb s1)→Calls prog 65 #[.pointer (some ⟨b,0,none⟩),.string ⟨#[58]⟩,.func (.func 66) #[.pointer (some ⟨b,0,none⟩)] #[]] W fun r Y=>CdBad b xb W σ'.code σ'.pos r Y):=Hd fun W h=>(CT1.out W h).mono fun r Y hh=>hh.bad hz
   have HZ:=Hd hz
   clear CT1 hz
   go_enter Tryz.func87,Tryz.ntmps87
   go_wp2_with (go_at_call 63;(with_reducible refine(C1.out _ HCD).mono ?_);rintro e w1 ⟨rfl,hr1,hk1⟩)
   have HS0:=Hd (HS.out.on HX.out.1 hlb2 HX.out.2.2.2.2 hr1.out hk1.out)
   have HSD:Hid (PaS b g cap dv ts xb W0 lb rb o c acc s1 w1.drew):=Hd (HS0.out.on HX.out.1 hlb2 HX.out.2.2.2.2 (hr1.out.below (below_dr (qB _ _) 1)) (RX.of_below (below_dr (qB _ _) 1) (ql hr1.out.size) hr1.out.xlt))
   have HCD1:Hid (Cd w1.drew b g cap dv ts xb s1):=Hd HSD.out.cd
   obtain⟨l0,l1⟩:=cell_one1 HSD.out.lbx
   rw[←HN.out] at l0
   have r1:=HSD.out.bx.cell
   go_region_with (go_at_call 65;(with_reducible refine(C2.out _ HCD1).mono ?_);rintro e1 w2 ⟨rfl,hk2⟩;refine dummyAny prog w2 ⟨rfl,.inr ⟨HZ.out,rfl,HSD.out.rx.trans hk2.out⟩⟩ ?_)
   all_goals trivial
 ·have C1:Hid (∀W,Hid (Cd W b g cap dv ts xb σ)→Calls prog 63 #[.pointer (some ⟨b,0,none⟩)] W fun r Y=>CdBad b xb W s1.code s1.pos r Y):=Hd fun W h=>(C0.out W h).mono fun r Y hh=>hh.bad hz1
  have HZ1:=Hd hz1
  clear C0 hz1 CT
  go_enter Tryz.func87,Tryz.ntmps87
  go_wp2_with (go_at_call 63;(with_reducible refine(C1.out _ HCD).mono ?_);rintro e w1 ⟨rfl,hk1⟩)
  obtain⟨k1,k2⟩:=K1.out HZ1.out
  exact⟨rfl,.inr ⟨by rw[k1];exact HZ1.out,by rw[k1,k2],HS.out.rx.trans hk1.out⟩⟩
theorem pars_LR {ts:List Tok}:∀(n:Nat) (acc:List Pa) (σ:RS) (R:List Pa×RS),σ.code=0→parsL ts n acc σ=some R→∃a1 σ1 m a2 σ2,paOne ts acc σ a1 σ1∧LR (paOne ts) ts m a1 σ1 a2 σ2∧R=(a2,wantS ts [41] σ2):=by
 intro n
 induction n with
 | zero=>intro acc σ R _ h;cases h
 | succ n ih =>
  intro acc σ R hc h
  simp only[parsL] at h
  split at h
  ·rename_i hl
   split at h
   ·rename_i hi
    obtain⟨a1,σ1,m,a2,σ2,h1,h2,h3⟩:=ih _ _ R (show(stepS (kindS ts (wantS ts [58] (nameS ts σ)))).code=0 from(isS_kind hi).2) h
    exact⟨_,_,m+1,a2,σ2,⟨rfl,rfl,hl⟩,.more hi h1 h2,h3⟩
   ·rename_i hi
    obtain rfl:=qI h
    exact⟨_,_,0,_,_,⟨rfl,rfl,hl⟩,.stop (by simpa using hi),rfl⟩
  ·cases h
def CpRet (b g cap:Nat) (dv:Value) (ts:List Tok) (xb:Nat→Prop) (W:World) (acc:List Pa) (τ:RS) (r:Ending) (Y:World):Prop :=
 (τ.code=0∧∃o c,r=.returned (.slice o acc.length c)∧Hid (Cd Y b g cap dv ts xb τ)∧Hid (RX b xb W Y)∧Hid (Y.ownsRow W.heap.size 62 2 (.slice o acc.length c) acc.length (paC acc)))∨(τ.code≠0∧r=.panicked [{ v:=refusalV τ.code τ.pos,recovered:=false }]∧Hid (RX b xb W Y))
theorem enters_params1:∀args w,(callFunc 87 args).run prog w=.ok (.enter 87 args) w:=enters_of Tryz.func87 (by kernel_rfl) rfl
theorem stays_params {ts:List Tok} {f:Nat} {σ:RS} {R:List Pa×RS} (hr:paramsS ts f σ=some R):Stays σ R.2:=by
 intro hc
 unfold paramsS at hr
 obtain⟨k1,k2⟩:=stays_want ts [40] σ hc
 rw[isS_bad (by rw[k1];exact hc),if_neg (by decide)] at hr
 cases f with
 | zero=>cases hr
 | succ f =>
  simp only[parsL] at hr
  rw[if_pos (by simp),if_neg (by rw[k1];exact hc)] at hr
  obtain rfl:=qI hr
  exact⟨k1,k2⟩
theorem cparams_any (b g cap:Nat) (dv:Value) (ts:List Tok) (xb:Nat→Prop) (f:Nat) (y:RS) (hc:y.code=0) (R:List Pa×RS) (hr:paramsS ts f y=some R) (W:World) (h:Hid (Cd W b g cap dv ts xb y)) :
  Calls prog 64 #[.pointer (some ⟨b,0,none⟩)] W fun r Y=>CpRet b g cap dv ts xb W R.1 R.2 r Y:=by
 obtain⟨W1,hW1⟩:∃W1,W1=W.alloc (.cells #[.pointer (some ⟨b,0,none⟩)] 48):=⟨_,rfl⟩
 have hb1:Below W.heap.size W W1:=by rw[hW1];exact(qB _ _).alloc (qL _) _
 have H1:Hid (Cd W1 b g cap dv ts xb y):=Hd (h.out.below hb1)
 have HB:=Hd (RX.of_below (xb:=xb) hb1 (ql h.out.size) h.out.xlt)
 have hbs:=h.out.size
 have HX0:=Hd h.out.xlt
 have HBX:Hid (BoxR W1 W.heap.size b):=Hd (by rw[hW1];exact boxR_new W b)
 have b1:=HBX.out.cell
 obtain⟨x,hx⟩:∃x,x=wantS ts [40] y:=⟨_,rfl⟩
 have HS:Hid (Stays x R.2):=Hd (by
  intro hcx
  unfold paramsS at hr
  rw[←hx,isS_bad hcx,if_neg (by decide)] at hr
  cases f with
  | zero=>cases hr
  | succ f =>
   simp only[parsL] at hr
   rw[if_pos (by simp),if_neg hcx] at hr
   obtain rfl:=qI hr
   exact⟨rfl,rfl⟩)
 have CW:Hid (Calls prog 67 #[.pointer (some ⟨b,0,none⟩),.slice (some ⟨W.heap.size+1,0,none⟩) 1 1] (W1.alloc (.cells #[.string ⟨#[40]⟩] 9)) fun r Y=>CdRet b g cap dv ts xb W1 (.tuple #[]) x r Y):=Hd (by rw[hx,←show W1.heap.size=W.heap.size+1 by rw[hW1];simp];exact wants_one b g cap dv ts xb y [40] W1 H1 hc (by decide))
 have MF:=runF
 by_cases hi:isS ts [41] x=true
 ·have hR:R=([],stepS x):=by unfold paramsS at hr;rw[←hx,if_pos hi] at hr;exact(qI hr).symm
  have T2:Hid (∀W,Hid (Cd W b g cap dv ts xb x)→Calls prog 62 #[.pointer (some ⟨b,0,none⟩),.string ⟨#[41]⟩] W fun r Y=>r=.returned (.bool true)∧Hid (Cd Y b g cap dv ts xb (stepS x))∧Hid (RX b xb W Y)):=Hd fun W h=>(takes_any b g cap dv ts xb x [41] W h (isS_kind hi).2 (by decide)).mono fun r Y hh=>by unfold TakesRet tookS at hh;rw[hi] at hh;exact hh
  have HC:=Hd (isS_kind hi).2
  have HRR:=Hd hR
  clear hx hr hi hR hc hb1
  go_enter Tryz.func64,Tryz.ntmps64
  go_wp2_with (first
   | (go_at_call 67;rw[←hW1];clear hW1;(with_reducible refine CW.out.mono ?_);rintro e w1 hh;rcases hh.two with ⟨z,rfl,hr,hk⟩ | ⟨z,rfl,hk⟩;rotate_left;exact absurd HC.out z;have HBw:=Hd (HBX.out.keep (by omega) hk.out);have bw:=HBw.out.cell)
   | (go_at_call 62;(with_reducible refine(T2.out _ hr).mono ?_);rintro e w2 ⟨rfl,hr2,hk2⟩))
  go_ret
  rw[HRR.out]
  exact .inl ⟨HC.out,none,0,rfl,hr2,Hd (HB.out.trans (hk.out.trans hk2.out)),Hd (qO _ _ _ _)⟩
 ·have hi':=Bool.eq_false_iff.2 hi
  by_cases hcx:x.code=0
  ·have hp:parsL ts f [] x=some R:=by unfold paramsS at hr;rw[←hx,if_neg hi] at hr;exact hr
   obtain⟨a1,σ1,m,a2,σ2,g1,g2,g3⟩:=pars_LR f [] x R hcx hp
   have T2:Hid (∀W,Hid (Cd W b g cap dv ts xb x)→Calls prog 62 #[.pointer (some ⟨b,0,none⟩),.string ⟨#[41]⟩] W fun r Y=>r=.returned (.bool false)∧Hid (Cd Y b g cap dv ts xb x)∧Hid (RX b xb W Y)):=Hd fun W h=>(takes_any b g cap dv ts xb x [41] W h hcx (by decide)).mono fun r Y hh=>by unfold TakesRet tookS at hh;rw[hi'] at hh;exact hh
   have HL:Hid (∀lb,W.heap.size≤lb→W.heap.size≠lb→∀w,Hid (PaI2 b g cap dv ts xb W lb W.heap.size [] x w)→Calls prog 86 #[.pointer (some ⟨b,0,none⟩),.string ⟨#[41]⟩,.func (.func 87) #[] #[.pointer (some ⟨W.heap.size,0,none⟩),.pointer (some ⟨lb,0,none⟩)]] w fun r Y=>LsRet b xb W (PaI2 b g cap dv ts xb W lb W.heap.size) R.1 R.2 r Y):=Hd fun lb hl hne w hw=>by
    rw[g3]
    exact list_any b g cap dv ts xb W _ (paOne ts) (paI_in hbs (by omega) (by omega)) paOne_stays _ _ _ enters_params1 (fun a σ a' σ' hc h1 W' h'=>params1_any b g cap dv ts xb W lb W.heap.size hbs HX0.out hl hne (by omega) a a' σ σ' hc h1 W' h') [41] (by decide) [] a1 a2 x σ1 σ2 m hcx g1 g2 w hw
   have HC:=Hd hcx
   clear hx hr hi hi' hc hb1 hp g1 g2 g3 hcx
   go_enter Tryz.func64,Tryz.ntmps64
   go_wp2_with (first
    | (go_at_call 67;rw[←hW1];clear hW1;(with_reducible refine CW.out.mono ?_);rintro e w1 hh;rcases hh.two with ⟨z,rfl,hr,hk⟩ | ⟨z,rfl,hk⟩;rotate_left;exact absurd HC.out z;have HBw:=Hd (HBX.out.keep (by omega) hk.out);have bw:=HBw.out.cell)
    | (go_at_call 62;(with_reducible refine(T2.out _ hr).mono ?_);rintro e w2 ⟨rfl,hr2,hk2⟩;have HK:=Hd (HB.out.trans (hk.out.trans hk2.out));have HBv:=Hd (HBw.out.keep (by omega) hk2.out);have bv:=HBv.out.cell;have hw2:=HK.out.size;have hw2b:=heap_lt HBv.out))
   have hb2:Below w2.heap.size w2 (w2.alloc (.cells #[.slice none 0 0] 54)):=(qB _ _).alloc (qL _) _
   have HI:Hid (PaI2 b g cap dv ts xb W w2.heap.size W.heap.size [] x (w2.alloc (.cells #[.slice none 0 0] 54))):=Hd ⟨none,0,hr2.out.below hb2,HK.out.trans (RX.of_below hb2 (ql hr2.out.size) hr2.out.xlt),(hb2.block _ hw2b).trans HBv.out,heap_alloc_new w2 _,qO _ _ _ _⟩
   refine(HL.out w2.heap.size hw2 (by omega) _ HI).mono ?_
   intro r Y hY
   rcases hY with ⟨z,rfl,o,c,hS⟩ | ⟨z,rfl,hY⟩
   ·have y0:=(cell_one1 hS.lbx).1
    have HS:=Hd hS
    obtain⟨n,hn⟩:∃n,n=R.1.length:=⟨_,rfl⟩
    rw[←hn] at y0
    have HN:=Hd hn
    clear hS hn hb2 HI
    dsimp only
    go_wp2_with fail
    go_ret
    exact .inl ⟨z,o,c,by rw[HN.out];rfl,Hd HS.out.cd,Hd HS.out.rx,Hd HS.out.own⟩
   ·exact⟨rfl,.inr ⟨z,rfl,Hd hY⟩⟩
  ·have HC:=Hd hcx
   clear hx hr hi hi' hc hb1 hcx
   go_enter Tryz.func64,Tryz.ntmps64
   go_wp2_with (go_at_call 67;rw[←hW1];clear hW1;(with_reducible refine CW.out.mono ?_);rintro e w1 hh;rcases hh.two with ⟨z,rfl,hr,hk⟩ | ⟨z,rfl,hk⟩;exact absurd z HC.out;obtain⟨k1,k2⟩:=HS.out z;exact⟨rfl,.inr ⟨by rw[k1];exact z,by rw[k1,k2],Hd (HB.out.trans hk.out)⟩⟩)
end Go.Proofs.YtlbhlncipajapaaGreatDoor
