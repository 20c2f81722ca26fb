import Derived.Test.YtpfmlfcaadnnpaaGreatDoorPg19
set_option maxHeartbeats 16000000
set_option maxRecDepth 100000
set_option linter.unusedVariables false
namespace Go.Proofs.YtpfmlfcaadnnpaaGreatDoor
open Lx
set_option linter.unusedSectionVars false
set_option linter.unusedSimpArgs false
theorem kind_deep (ts:List Tok) (σ:RS):(kindS ts σ).deep=σ.deep:=by unfold kindS;split;rfl;exact want_deep _ _ _
theorem go_kind {ts:List Tok} (he:EndOk ts) {σ:RS} (h:σ.at_<ts.length):Go ts 0 σ (kindS ts σ):=by
 unfold kindS
 split
 ·rename_i hi;exact go_zero (go_step' he h (isS_kind hi).1)
 ·exact go_want he h _
theorem name_len {ts:List Tok} (ht:TokOk ts) {σ:RS} (h:σ.at_<ts.length):(nameV ts σ).length≤20000:=by
 unfold nameV
 split
 ·exact(ht _ _ (tok_get h)).2.2
 ·simp
theorem kindV_ok (ts:List Tok) (σ:RS):i64ok (kindV ts σ):=by unfold kindV i64ok;split <;> decide
theorem name_ok {ts:List Tok} (ht:TokOk ts) {σ:RS} (h:σ.at_<ts.length):(str (nameV ts σ)).size≤reachN:=by rw[str_sz];have:=name_len ht h;unfold reachN;omega
structure GoodI (x:It) (n:Nat):Prop where
 kind:1≤x.kind∧x.kind≤8
 may:mayI n x=true
 ok:ItOk x
def GoodPa (p:Pa):Prop:=p.name.size≤reachN∧i64ok p.type
theorem stands_mono {n m:Nat} (h:n≤m) {b:Bool} {e:Int} (hs:standsE n b e=true):standsE m b e=true:=by
 unfold standsE at hs ⊢
 split at hs
 ·rename_i hb;rw[if_pos hb]
  simp only[Bool.and_eq_true,decide_eq_true_eq] at hs ⊢
  omega
 ·rename_i hb;rw[if_neg hb];exact hs
theorem GoodI.mono {x:It} {n m:Nat} (h:GoodI x n) (hm:n≤m):GoodI x m:=⟨h.kind,by
 have:=h.may
 unfold mayI at this ⊢
 simp only[Bool.and_eq_true] at this ⊢
 exact⟨stands_mono hm this.1,stands_mono hm this.2⟩,h.ok⟩
theorem itok {k ty e f p:Int} {nm st nx:ByteArray} {ss:List ByteArray} {n:Nat} (hn:n≤30000) (hk:1≤k∧k≤8) (he:0≤e∧e≤(n:Int)) (hf:0≤f∧f≤(n:Int)) (h1:nm.size≤reachN) (h2:st.size≤reachN) (h3:nx.size≤reachN) (h4:ss.length≤reachN) (h5:∀s ∈ ss,s.size≤reachN):ItOk ⟨k,nm,ty,e,f,ss,st,nx,p⟩ :=
 ⟨by unfold i64ok;dsimp only;omega,by unfold i64ok;dsimp only;omega,by unfold i64ok;dsimp only;omega,h1,h2,h3,h4,h5⟩
section
variable {ts:List Tok} (he:EndOk ts) (ht:TokOk ts)
include he ht
theorem expr_ends' {σ:RS} (hs:St ts σ):∃f v τ,exprS ts f σ=some (v,τ)∧Go ts 0 σ τ∧τ.deep=σ.deep∧IxOk τ v:=expr_ends he ht hs
theorem states_ends:∀(M:Nat) (acc:List ByteArray) (σ:RS),ts.length - σ.at_≤M→St ts σ→acc.length≤σ.at_→(∀s ∈ acc,s.size≤reachN)→∃f l τ,statesL ts f acc σ=some (l,τ)∧Go ts 0 σ τ∧τ.deep=σ.deep∧l.length≤τ.at_∧∀s ∈ l,s.size≤reachN:=by
 intro M
 induction M with
 | zero=>intro acc σ hm hs _ _;have:=hs.lt;omega
 | succ M ih =>
  intro acc σ hm hs hl hn
  have hlen:acc.length≤40000:=by have:=hs.lt;have:=hs.len;omega
  by_cases hi:isS ts [44] σ=true
  ·have g1:=go_step' he hs.lt (isS_kind hi).1
   have s1:St ts (stepS σ):=hs.go g1 hs.d0 hs.d30
   have g2:=go_name he s1.lt
   have s2:St ts (nameS ts (stepS σ)):=s1.go g2 (by rw[name_deep];exact s1.d0) (by rw[name_deep];exact s1.d30)
   have hat:σ.at_+1≤(nameS ts (stepS σ)).at_:=g2.at_
   obtain⟨f,l,τ,r,g3,d3,l3,n3⟩:=ih (acc++[str (nameV ts (stepS σ))]) _ (by have:=hs.lt;omega) s2 (by simp;omega) (fun s h=>by
    rcases List.mem_append.1 h with h | h
    ·exact hn s h
    ·obtain rfl:=List.mem_singleton.1 h;exact name_ok ht s1.lt)
   refine⟨f+1,l,τ,?_,go_zero ((g1.trans g2).trans g3),by rw[d3,name_deep];rfl,l3,n3⟩
   simp only[statesL]
   rw[if_pos hlen,if_pos hi,r]
  ·refine⟨1,acc,σ,?_,Go.refl hs.lt,rfl,hl,hn⟩
   simp only[statesL]
   rw[if_pos hlen,if_neg hi]
theorem pars_ends:∀(M:Nat) (acc:List Pa) (σ:RS),ts.length - σ.at_≤M→St ts σ→acc.length≤σ.at_→(∀p ∈ acc,GoodPa p)→∃f l τ,parsL ts f acc σ=some (l,τ)∧Go ts 0 σ τ∧τ.deep=σ.deep∧l.length≤τ.at_+1∧∀p ∈ l,GoodPa p:=by
 intro M
 induction M with
 | zero=>intro acc σ hm hs _ _;have:=hs.lt;omega
 | succ M ih =>
  intro acc σ hm hs hl hn
  have hlen:acc.length≤40000:=by have:=hs.lt;have:=hs.len;omega
  by_cases hc:σ.code=0
  ·have g1:=go_name he hs.lt
   have s1:St ts (nameS ts σ):=hs.go g1 (by rw[name_deep];exact hs.d0) (by rw[name_deep];exact hs.d30)
   have g2:=go_want he s1.lt [58]
   have s2:St ts (wantS ts [58] (nameS ts σ)):=s1.go g2 (by rw[want_deep];exact s1.d0) (by rw[want_deep];exact s1.d30)
   have g3:=go_kind he s2.lt
   have s3:St ts (kindS ts (wantS ts [58] (nameS ts σ))):=s2.go g3 (by rw[kind_deep];exact s2.d0) (by rw[kind_deep];exact s2.d30)
   have hg:∀p ∈ acc++[⟨str (nameV ts σ),kindV ts (wantS ts [58] (nameS ts σ))⟩],GoodPa p:=fun p h=>by
    rcases List.mem_append.1 h with h | h
    ·exact hn p h
    ·obtain rfl:=List.mem_singleton.1 h;exact⟨name_ok ht hs.lt,kindV_ok _ _⟩
   have G:=(g1.trans g2).trans g3
   by_cases hi:isS ts [44] (kindS ts (wantS ts [58] (nameS ts σ)))=true
   ·have g4:=go_step' he s3.lt (isS_kind hi).1
    have s4:St ts (stepS (kindS ts (wantS ts [58] (nameS ts σ)))):=s3.go g4 s3.d0 s3.d30
    have hat:σ.at_+1≤(stepS (kindS ts (wantS ts [58] (nameS ts σ)))).at_:=by have:=G.at_;unfold stepS;dsimp only;omega
    obtain⟨f,l,τ,r,g5,d5,l5,n5⟩:=ih _ _ (by have:=hs.lt;omega) s4 (by simp;omega) hg
    refine⟨f+1,l,τ,?_,go_zero ((G.trans g4).trans g5),by rw[d5];show(kindS ts _).deep=_;rw[kind_deep,want_deep,name_deep],l5,n5⟩
    simp only[parsL]
    rw[if_pos hlen,if_pos hc,if_pos hi,r]
   ·have g4:=go_want he s3.lt [41]
    refine⟨1,_,_,?_,go_zero (G.trans g4),by rw[want_deep,kind_deep,want_deep,name_deep],?_,hg⟩
    ·simp only[parsL]
     rw[if_pos hlen,if_pos hc,if_neg hi]
    ·have:=(G.trans g4).at_;simp;omega
  ·refine⟨1,acc,σ,?_,Go.refl hs.lt,rfl,by omega,hn⟩
   simp only[parsL]
   rw[if_pos hlen,if_neg hc]
theorem params_ends {σ:RS} (hs:St ts σ):∃f l τ,paramsS ts f σ=some (l,τ)∧Go ts 0 σ τ∧τ.deep=σ.deep∧l.length≤40000∧∀p ∈ l,GoodPa p:=by
 have g1:=go_want he hs.lt [40]
 have s1:St ts (wantS ts [40] σ):=hs.go g1 (by rw[want_deep];exact hs.d0) (by rw[want_deep];exact hs.d30)
 by_cases hi:isS ts [41] (wantS ts [40] σ)=true
 ·have g2:=go_step' he s1.lt (isS_kind hi).1
  refine⟨0,[],_,by unfold paramsS;rw[if_pos hi],go_zero (g1.trans g2),want_deep ts _ _,by simp,fun p h=>by cases h⟩
 ·obtain⟨f,l,τ,r,g2,d2,l2,n2⟩:=pars_ends he ht _ [] _ (qL _) s1 (Nat.zero_le _) (fun p h=>by cases h)
  refine⟨f,l,τ,by unfold paramsS;rw[if_neg hi];exact r,go_zero (g1.trans g2),by rw[d2,want_deep],by have:=g2.lt;have:=hs.len;omega,n2⟩
def IRes (ts:List Tok) (all:Bool) (σ:RS):Prop:=∃f x ok τ,itemS ts f all σ=some (x,ok,τ)∧Go ts 0 σ τ∧τ.deep=σ.deep∧(ok=true→σ.at_<τ.at_∧τ.code=0∧GoodI x τ.exprs.length)
theorem iLet_ends {all:Bool} {σ:RS} (hs:St ts σ) (hi:isS ts [108,101,116] σ=true):IRes ts all σ:=by
 have g0:=go_step' he hs.lt (isS_kind hi).1
 have s0:St ts (stepS σ):=hs.go g0 hs.d0 hs.d30
 have e0:(stepS σ).deep=σ.deep:=rfl
 have g1:=go_name he s0.lt
 have n1:=name_ok ht s0.lt
 have e1:(nameS ts (stepS σ)).deep=σ.deep:=(name_deep ts _).trans e0
 have s1:St ts (nameS ts (stepS σ)):=s0.go g1 (by rw[e1];exact hs.d0) (by rw[e1];exact hs.d30)
 have g2:=go_want he s1.lt [58]
 have e2:(wantS ts [58] (nameS ts (stepS σ))).deep=σ.deep:=(want_deep ts _ _).trans e1
 have s2:St ts (wantS ts [58] (nameS ts (stepS σ))):=s1.go g2 (by rw[e2];exact hs.d0) (by rw[e2];exact hs.d30)
 have g3:=go_kind he s2.lt
 have e3:(kindS ts (wantS ts [58] (nameS ts (stepS σ)))).deep=σ.deep:=(kind_deep ts _).trans e2
 have s3:St ts (kindS ts (wantS ts [58] (nameS ts (stepS σ)))):=s2.go g3 (by rw[e3];exact hs.d0) (by rw[e3];exact hs.d30)
 have g4:=go_want he s3.lt [61]
 have e4:(wantS ts [61] (kindS ts (wantS ts [58] (nameS ts (stepS σ))))).deep=σ.deep:=(want_deep ts _ _).trans e3
 have s4:St ts (wantS ts [61] (kindS ts (wantS ts [58] (nameS ts (stepS σ))))):=s3.go g4 (by rw[e4];exact hs.d0) (by rw[e4];exact hs.d30)
 obtain⟨f5,v5,τ5,r5,g5,d5,i5⟩:=expr_ends' he ht s4
 have e5:τ5.deep=σ.deep:=(d5).trans e4
 have s5:St ts τ5:=s4.go g5 (by rw[e5];exact hs.d0) (by rw[e5];exact hs.d30)
 have gE:=go_want he s5.lt [59]
 have G:=((((((g0.trans g1).trans g2).trans g3).trans g4).trans g5).trans gE)
 refine⟨f5,{ it0 with kind:=1,name:=str (nameV ts (stepS σ)),type:=kindV ts (wantS ts [58] (nameS ts (stepS σ))),e:=v5,pos:=((tokL ts σ.at_).at_:Int) },decide ((wantS ts [59] τ5).code=0),wantS ts [59] τ5,?_,go_zero G,(want_deep ts _ _).trans e5,fun hok=>?_⟩
 ·unfold itemS
  rw[if_pos hi]
  unfold iLet
  rw[exprS_le (f:=f5) (by omega) r5]
  simp only[Option.bind_some]
  rfl
 ·have hz:(wantS ts [59] τ5).code=0:=of_decide_eq_true hok
  have hn:(wantS ts [59] τ5).exprs.length≤30000:=by rw[want_exprs];exact s5.small
  have qe:=(IxOk.go i5 gE) hz
  refine⟨?_,hz,⟨by simp[it0],?_,?_⟩⟩
  ·have:=G.at_;have:=G.room;have:=G.more;omega
  ·simp[mayI,standsE,hasE,hasF,it0,qe]
  ·exact itok hn (by omega) (by omega) (zz _) n1 (by decide) (by decide) (by decide) (fun s h=>by cases h)
theorem iDer_ends {all:Bool} {σ:RS} (hs:St ts σ) (hi:isS ts [100,101,114] σ=true) (h0:¬isS ts [108,101,116] σ=true) (ha:all=true):IRes ts all σ:=by
 have g0:=go_step' he hs.lt (isS_kind hi).1
 have s0:St ts (stepS σ):=hs.go g0 hs.d0 hs.d30
 have e0:(stepS σ).deep=σ.deep:=rfl
 have g1:=go_name he s0.lt
 have n1:=name_ok ht s0.lt
 have e1:(nameS ts (stepS σ)).deep=σ.deep:=(name_deep ts _).trans e0
 have s1:St ts (nameS ts (stepS σ)):=s0.go g1 (by rw[e1];exact hs.d0) (by rw[e1];exact hs.d30)
 have g2:=go_want he s1.lt [61]
 have e2:(wantS ts [61] (nameS ts (stepS σ))).deep=σ.deep:=(want_deep ts _ _).trans e1
 have s2:St ts (wantS ts [61] (nameS ts (stepS σ))):=s1.go g2 (by rw[e2];exact hs.d0) (by rw[e2];exact hs.d30)
 obtain⟨f3,v3,τ3,r3,g3,d3,i3⟩:=expr_ends' he ht s2
 have e3:τ3.deep=σ.deep:=(d3).trans e2
 have s3:St ts τ3:=s2.go g3 (by rw[e3];exact hs.d0) (by rw[e3];exact hs.d30)
 have g4:=go_want he s3.lt [105,110,105,116]
 have e4:(wantS ts [105,110,105,116] τ3).deep=σ.deep:=(want_deep ts _ _).trans e3
 have s4:St ts (wantS ts [105,110,105,116] τ3):=s3.go g4 (by rw[e4];exact hs.d0) (by rw[e4];exact hs.d30)
 obtain⟨f5,v5,τ5,r5,g5,d5,i5⟩:=expr_ends' he ht s4
 have e5:τ5.deep=σ.deep:=(d5).trans e4
 have s5:St ts τ5:=s4.go g5 (by rw[e5];exact hs.d0) (by rw[e5];exact hs.d30)
 have gE:=go_want he s5.lt [59]
 have G:=((((((g0.trans g1).trans g2).trans g3).trans g4).trans g5).trans gE)
 refine⟨f3+f5,{ it0 with kind:=2,name:=str (nameV ts (stepS σ)),e:=v3,f:=v5,pos:=((tokL ts σ.at_).at_:Int) },decide ((wantS ts [59] τ5).code=0),wantS ts [59] τ5,?_,go_zero G,(want_deep ts _ _).trans e5,fun hok=>?_⟩
 ·unfold itemS
  rw[if_neg h0,if_pos ha,if_pos hi]
  unfold iDer
  rw[exprS_le (f:=f3) (by omega) r3]
  simp only[Option.bind_some]
  rw[exprS_le (f:=f5) (by omega) r5]
  simp only[Option.bind_some]
  rfl
 ·have hz:(wantS ts [59] τ5).code=0:=of_decide_eq_true hok
  have hn:(wantS ts [59] τ5).exprs.length≤30000:=by rw[want_exprs];exact s5.small
  have qe:=(IxOk.go (IxOk.go (IxOk.go i3 g4) g5) gE) hz
  have qf:=(IxOk.go i5 gE) hz
  refine⟨?_,hz,⟨by simp[it0],?_,?_⟩⟩
  ·have:=G.at_;have:=G.room;have:=G.more;omega
  ·simp[mayI,standsE,hasE,hasF,it0,qe,qf]
  ·exact itok hn (by omega) (by omega) (by omega) n1 (by decide) (by decide) (by decide) (fun s h=>by cases h)
theorem iReset_ends {all:Bool} {σ:RS} (hs:St ts σ) (hi:isS ts [114,101,115,101,116] σ=true) (h0:¬isS ts [108,101,116] σ=true) (h1:¬isS ts [100,101,114] σ=true) (ha:all=true):IRes ts all σ:=by
 have g0:=go_step' he hs.lt (isS_kind hi).1
 have s0:St ts (stepS σ):=hs.go g0 hs.d0 hs.d30
 have e0:(stepS σ).deep=σ.deep:=rfl
 have g1:=go_name he s0.lt
 have n1:=name_ok ht s0.lt
 have e1:(nameS ts (stepS σ)).deep=σ.deep:=(name_deep ts _).trans e0
 have s1:St ts (nameS ts (stepS σ)):=s0.go g1 (by rw[e1];exact hs.d0) (by rw[e1];exact hs.d30)
 have g2:=go_want he s1.lt [111,110]
 have e2:(wantS ts [111,110] (nameS ts (stepS σ))).deep=σ.deep:=(want_deep ts _ _).trans e1
 have s2:St ts (wantS ts [111,110] (nameS ts (stepS σ))):=s1.go g2 (by rw[e2];exact hs.d0) (by rw[e2];exact hs.d30)
 obtain⟨f3,v3,τ3,r3,g3,d3,i3⟩:=expr_ends' he ht s2
 have e3:τ3.deep=σ.deep:=(d3).trans e2
 have s3:St ts τ3:=s2.go g3 (by rw[e3];exact hs.d0) (by rw[e3];exact hs.d30)
 have g4:=go_want he s3.lt [61]
 have e4:(wantS ts [61] τ3).deep=σ.deep:=(want_deep ts _ _).trans e3
 have s4:St ts (wantS ts [61] τ3):=s3.go g4 (by rw[e4];exact hs.d0) (by rw[e4];exact hs.d30)
 obtain⟨f5,v5,τ5,r5,g5,d5,i5⟩:=expr_ends' he ht s4
 have e5:τ5.deep=σ.deep:=(d5).trans e4
 have s5:St ts τ5:=s4.go g5 (by rw[e5];exact hs.d0) (by rw[e5];exact hs.d30)
 have gE:=go_want he s5.lt [59]
 have G:=((((((g0.trans g1).trans g2).trans g3).trans g4).trans g5).trans gE)
 refine⟨f3+f5,{ it0 with kind:=3,name:=str (nameV ts (stepS σ)),e:=v5,f:=v3,pos:=((tokL ts σ.at_).at_:Int) },decide ((wantS ts [59] τ5).code=0),wantS ts [59] τ5,?_,go_zero G,(want_deep ts _ _).trans e5,fun hok=>?_⟩
 ·unfold itemS
  rw[if_neg h0,if_pos ha,if_neg h1,if_pos hi]
  unfold iReset
  rw[exprS_le (f:=f3) (by omega) r3]
  simp only[Option.bind_some]
  rw[exprS_le (f:=f5) (by omega) r5]
  simp only[Option.bind_some]
  rfl
 ·have hz:(wantS ts [59] τ5).code=0:=of_decide_eq_true hok
  have hn:(wantS ts [59] τ5).exprs.length≤30000:=by rw[want_exprs];exact s5.small
  have qf:=(IxOk.go (IxOk.go (IxOk.go i3 g4) g5) gE) hz
  have qe:=(IxOk.go i5 gE) hz
  refine⟨?_,hz,⟨by simp[it0],?_,?_⟩⟩
  ·have:=G.at_;have:=G.room;have:=G.more;omega
  ·simp[mayI,standsE,hasE,hasF,it0,qf,qe]
  ·exact itok hn (by omega) (by omega) (by omega) n1 (by decide) (by decide) (by decide) (fun s h=>by cases h)
theorem iMem_ends {all:Bool} {σ:RS} (hs:St ts σ) (hi:isS ts [109,101,109] σ=true) (h0:¬isS ts [108,101,116] σ=true) (h1:¬isS ts [100,101,114] σ=true) (h2:¬isS ts [114,101,115,101,116] σ=true) (ha:all=true):IRes ts all σ:=by
 have g0:=go_step' he hs.lt (isS_kind hi).1
 have s0:St ts (stepS σ):=hs.go g0 hs.d0 hs.d30
 have e0:(stepS σ).deep=σ.deep:=rfl
 have g1:=go_name he s0.lt
 have n1:=name_ok ht s0.lt
 have e1:(nameS ts (stepS σ)).deep=σ.deep:=(name_deep ts _).trans e0
 have s1:St ts (nameS ts (stepS σ)):=s0.go g1 (by rw[e1];exact hs.d0) (by rw[e1];exact hs.d30)
 have g2:=go_want he s1.lt [58]
 have e2:(wantS ts [58] (nameS ts (stepS σ))).deep=σ.deep:=(want_deep ts _ _).trans e1
 have s2:St ts (wantS ts [58] (nameS ts (stepS σ))):=s1.go g2 (by rw[e2];exact hs.d0) (by rw[e2];exact hs.d30)
 have g3:=go_kind he s2.lt
 have e3:(kindS ts (wantS ts [58] (nameS ts (stepS σ)))).deep=σ.deep:=(kind_deep ts _).trans e2
 have s3:St ts (kindS ts (wantS ts [58] (nameS ts (stepS σ)))):=s2.go g3 (by rw[e3];exact hs.d0) (by rw[e3];exact hs.d30)
 have g4:=go_want he s3.lt [105,110,105,116]
 have e4:(wantS ts [105,110,105,116] (kindS ts (wantS ts [58] (nameS ts (stepS σ))))).deep=σ.deep:=(want_deep ts _ _).trans e3
 have s4:St ts (wantS ts [105,110,105,116] (kindS ts (wantS ts [58] (nameS ts (stepS σ))))):=s3.go g4 (by rw[e4];exact hs.d0) (by rw[e4];exact hs.d30)
 obtain⟨f5,v5,τ5,r5,g5,d5,i5⟩:=expr_ends' he ht s4
 have e5:τ5.deep=σ.deep:=(d5).trans e4
 have s5:St ts τ5:=s4.go g5 (by rw[e5];exact hs.d0) (by rw[e5];exact hs.d30)
 have gE:=go_want he s5.lt [59]
 have G:=((((((g0.trans g1).trans g2).trans g3).trans g4).trans g5).trans gE)
 refine⟨f5,{ it0 with kind:=4,name:=str (nameV ts (stepS σ)),type:=kindV ts (wantS ts [58] (nameS ts (stepS σ))),e:=v5,pos:=((tokL ts σ.at_).at_:Int) },decide ((wantS ts [59] τ5).code=0),wantS ts [59] τ5,?_,go_zero G,(want_deep ts _ _).trans e5,fun hok=>?_⟩
 ·unfold itemS
  rw[if_neg h0,if_pos ha,if_neg h1,if_neg h2,if_pos hi]
  unfold iMem
  rw[exprS_le (f:=f5) (by omega) r5]
  simp only[Option.bind_some]
  rfl
 ·have hz:(wantS ts [59] τ5).code=0:=of_decide_eq_true hok
  have hn:(wantS ts [59] τ5).exprs.length≤30000:=by rw[want_exprs];exact s5.small
  have qe:=(IxOk.go i5 gE) hz
  refine⟨?_,hz,⟨by simp[it0],?_,?_⟩⟩
  ·have:=G.at_;have:=G.room;have:=G.more;omega
  ·simp[mayI,standsE,hasE,hasF,it0,qe]
  ·exact itok hn (by omega) (by omega) (zz _) n1 (by decide) (by decide) (by decide) (fun s h=>by cases h)
theorem iOn_ends {all:Bool} {σ:RS} (hs:St ts σ) (hi:isS ts [111,110] σ=true) (h0:¬isS ts [108,101,116] σ=true) (h1:¬isS ts [100,101,114] σ=true) (h2:¬isS ts [114,101,115,101,116] σ=true) (h3:¬isS ts [109,101,109] σ=true) (ha:all=true):IRes ts all σ:=by
 have g0:=go_step' he hs.lt (isS_kind hi).1
 have s0:St ts (stepS σ):=hs.go g0 hs.d0 hs.d30
 have e0:(stepS σ).deep=σ.deep:=rfl
 obtain⟨f1,v1,τ1,r1,g1,d1,i1⟩:=expr_ends' he ht s0
 have e1:τ1.deep=σ.deep:=(d1).trans e0
 have s1:St ts τ1:=s0.go g1 (by rw[e1];exact hs.d0) (by rw[e1];exact hs.d30)
 have g2:=go_want he s1.lt [115,101,116]
 have e2:(wantS ts [115,101,116] τ1).deep=σ.deep:=(want_deep ts _ _).trans e1
 have s2:St ts (wantS ts [115,101,116] τ1):=s1.go g2 (by rw[e2];exact hs.d0) (by rw[e2];exact hs.d30)
 have g3:=go_name he s2.lt
 have n3:=name_ok ht s2.lt
 have e3:(nameS ts (wantS ts [115,101,116] τ1)).deep=σ.deep:=(name_deep ts _).trans e2
 have s3:St ts (nameS ts (wantS ts [115,101,116] τ1)):=s2.go g3 (by rw[e3];exact hs.d0) (by rw[e3];exact hs.d30)
 have g4:=go_want he s3.lt [61]
 have e4:(wantS ts [61] (nameS ts (wantS ts [115,101,116] τ1))).deep=σ.deep:=(want_deep ts _ _).trans e3
 have s4:St ts (wantS ts [61] (nameS ts (wantS ts [115,101,116] τ1))):=s3.go g4 (by rw[e4];exact hs.d0) (by rw[e4];exact hs.d30)
 obtain⟨f5,v5,τ5,r5,g5,d5,i5⟩:=expr_ends' he ht s4
 have e5:τ5.deep=σ.deep:=(d5).trans e4
 have s5:St ts τ5:=s4.go g5 (by rw[e5];exact hs.d0) (by rw[e5];exact hs.d30)
 have gE:=go_want he s5.lt [59]
 have G:=((((((g0.trans g1).trans g2).trans g3).trans g4).trans g5).trans gE)
 refine⟨f1+f5,{ it0 with kind:=5,name:=str (nameV ts (wantS ts [115,101,116] τ1)),e:=v5,f:=v1,pos:=((tokL ts σ.at_).at_:Int) },decide ((wantS ts [59] τ5).code=0),wantS ts [59] τ5,?_,go_zero G,(want_deep ts _ _).trans e5,fun hok=>?_⟩
 ·unfold itemS
  rw[if_neg h0,if_pos ha,if_neg h1,if_neg h2,if_neg h3,if_pos hi]
  unfold iOn
  rw[exprS_le (f:=f1) (by omega) r1]
  simp only[Option.bind_some]
  rw[exprS_le (f:=f5) (by omega) r5]
  simp only[Option.bind_some]
  rfl
 ·have hz:(wantS ts [59] τ5).code=0:=of_decide_eq_true hok
  have hn:(wantS ts [59] τ5).exprs.length≤30000:=by rw[want_exprs];exact s5.small
  have qf:=(IxOk.go (IxOk.go (IxOk.go (IxOk.go (IxOk.go i1 g2) g3) g4) g5) gE) hz
  have qe:=(IxOk.go i5 gE) hz
  refine⟨?_,hz,⟨by simp[it0],?_,?_⟩⟩
  ·have:=G.at_;have:=G.room;have:=G.more;omega
  ·simp[mayI,standsE,hasE,hasF,it0,qf,qe]
  ·exact itok hn (by omega) (by omega) (by omega) n3 (by decide) (by decide) (by decide) (fun s h=>by cases h)
theorem iFrom_ends {all:Bool} {σ:RS} (hs:St ts σ) (hi:isS ts [102,114,111,109] σ=true) (h0:¬isS ts [108,101,116] σ=true) (h1:¬isS ts [100,101,114] σ=true) (h2:¬isS ts [114,101,115,101,116] σ=true) (h3:¬isS ts [109,101,109] σ=true) (h4:¬isS ts [111,110] σ=true) (h5:¬isS ts [109,111,100,101] σ=true) (ha:all=true):IRes ts all σ:=by
 have g0:=go_step' he hs.lt (isS_kind hi).1
 have s0:St ts (stepS σ):=hs.go g0 hs.d0 hs.d30
 have e0:(stepS σ).deep=σ.deep:=rfl
 have g1:=go_name he s0.lt
 have n1:=name_ok ht s0.lt
 have e1:(nameS ts (stepS σ)).deep=σ.deep:=(name_deep ts _).trans e0
 have s1:St ts (nameS ts (stepS σ)):=s0.go g1 (by rw[e1];exact hs.d0) (by rw[e1];exact hs.d30)
 have g2:=go_want he s1.lt [46]
 have e2:(wantS ts [46] (nameS ts (stepS σ))).deep=σ.deep:=(want_deep ts _ _).trans e1
 have s2:St ts (wantS ts [46] (nameS ts (stepS σ))):=s1.go g2 (by rw[e2];exact hs.d0) (by rw[e2];exact hs.d30)
 have g3:=go_name he s2.lt
 have n3:=name_ok ht s2.lt
 have e3:(nameS ts (wantS ts [46] (nameS ts (stepS σ)))).deep=σ.deep:=(name_deep ts _).trans e2
 have s3:St ts (nameS ts (wantS ts [46] (nameS ts (stepS σ)))):=s2.go g3 (by rw[e3];exact hs.d0) (by rw[e3];exact hs.d30)
 have g4:=go_want he s3.lt [111,110]
 have e4:(wantS ts [111,110] (nameS ts (wantS ts [46] (nameS ts (stepS σ))))).deep=σ.deep:=(want_deep ts _ _).trans e3
 have s4:St ts (wantS ts [111,110] (nameS ts (wantS ts [46] (nameS ts (stepS σ))))):=s3.go g4 (by rw[e4];exact hs.d0) (by rw[e4];exact hs.d30)
 obtain⟨f5,v5,τ5,r5,g5,d5,i5⟩:=expr_ends' he ht s4
 have e5:τ5.deep=σ.deep:=(d5).trans e4
 have s5:St ts τ5:=s4.go g5 (by rw[e5];exact hs.d0) (by rw[e5];exact hs.d30)
 have g6:=go_want he s5.lt [103,111,116,111]
 have e6:(wantS ts [103,111,116,111] τ5).deep=σ.deep:=(want_deep ts _ _).trans e5
 have s6:St ts (wantS ts [103,111,116,111] τ5):=s5.go g6 (by rw[e6];exact hs.d0) (by rw[e6];exact hs.d30)
 have g7:=go_name he s6.lt
 have n7:=name_ok ht s6.lt
 have e7:(nameS ts (wantS ts [103,111,116,111] τ5)).deep=σ.deep:=(name_deep ts _).trans e6
 have s7:St ts (nameS ts (wantS ts [103,111,116,111] τ5)):=s6.go g7 (by rw[e7];exact hs.d0) (by rw[e7];exact hs.d30)
 have gE:=go_want he s7.lt [59]
 have G:=((((((((g0.trans g1).trans g2).trans g3).trans g4).trans g5).trans g6).trans g7).trans gE)
 refine⟨f5,{ it0 with kind:=7,name:=str (nameV ts (stepS σ)),f:=v5,state:=str (nameV ts (wantS ts [46] (nameS ts (stepS σ)))),next:=str (nameV ts (wantS ts [103,111,116,111] τ5)),pos:=((tokL ts σ.at_).at_:Int) },decide ((wantS ts [59] (nameS ts (wantS ts [103,111,116,111] τ5))).code=0),wantS ts [59] (nameS ts (wantS ts [103,111,116,111] τ5)),?_,go_zero G,(want_deep ts _ _).trans e7,fun hok=>?_⟩
 ·unfold itemS
  rw[if_neg h0,if_pos ha,if_neg h1,if_neg h2,if_neg h3,if_neg h4,if_neg h5,if_pos hi]
  unfold iFrom
  rw[exprS_le (f:=f5) (by omega) r5]
  simp only[Option.bind_some]
  rfl
 ·have hz:(wantS ts [59] (nameS ts (wantS ts [103,111,116,111] τ5))).code=0:=of_decide_eq_true hok
  have hn:(wantS ts [59] (nameS ts (wantS ts [103,111,116,111] τ5))).exprs.length≤30000:=by rw[want_exprs];exact s7.small
  have qf:=(IxOk.go (IxOk.go (IxOk.go i5 g6) g7) gE) hz
  refine⟨?_,hz,⟨by simp[it0],?_,?_⟩⟩
  ·have:=G.at_;have:=G.room;have:=G.more;omega
  ·simp[mayI,standsE,hasE,hasF,it0,qf]
  ·exact itok hn (by omega) (zz _) (by omega) n1 n3 n7 (by decide) (fun s h=>by cases h)
theorem iOut_ends {all:Bool} {σ:RS} (hs:St ts σ) (hi:isS ts [111,117,116] σ=true) (h0:¬isS ts [108,101,116] σ=true) (h1:¬isS ts [100,101,114] σ=true) (h2:¬isS ts [114,101,115,101,116] σ=true) (h3:¬isS ts [109,101,109] σ=true) (h4:¬isS ts [111,110] σ=true) (h5:¬isS ts [109,111,100,101] σ=true) (h6:¬isS ts [102,114,111,109] σ=true) (ha:all=true):IRes ts all σ:=by
 have g0:=go_step' he hs.lt (isS_kind hi).1
 have s0:St ts (stepS σ):=hs.go g0 hs.d0 hs.d30
 have e0:(stepS σ).deep=σ.deep:=rfl
 have g1:=go_name he s0.lt
 have n1:=name_ok ht s0.lt
 have e1:(nameS ts (stepS σ)).deep=σ.deep:=(name_deep ts _).trans e0
 have s1:St ts (nameS ts (stepS σ)):=s0.go g1 (by rw[e1];exact hs.d0) (by rw[e1];exact hs.d30)
 have gE:=go_want he s1.lt [59]
 have G:=((g0.trans g1).trans gE)
 refine⟨0,{ it0 with kind:=8,name:=str (nameV ts (stepS σ)),pos:=((tokL ts σ.at_).at_:Int) },decide ((wantS ts [59] (nameS ts (stepS σ))).code=0),wantS ts [59] (nameS ts (stepS σ)),?_,go_zero G,(want_deep ts _ _).trans e1,fun hok=>?_⟩
 ·unfold itemS
  rw[if_neg h0,if_pos ha,if_neg h1,if_neg h2,if_neg h3,if_neg h4,if_neg h5,if_neg h6,if_pos hi]
  unfold iOut
  rfl
 ·have hz:(wantS ts [59] (nameS ts (stepS σ))).code=0:=of_decide_eq_true hok
  have hn:(wantS ts [59] (nameS ts (stepS σ))).exprs.length≤30000:=by rw[want_exprs];exact s1.small
  refine⟨?_,hz,⟨by simp[it0],?_,?_⟩⟩
  ·have:=G.at_;have:=G.room;have:=G.more;omega
  ·simp[mayI,standsE,hasE,hasF,it0]
  ·exact itok hn (by omega) (zz _) (zz _) n1 (by decide) (by decide) (by decide) (fun s h=>by cases h)
theorem iMode_ends {all:Bool} {σ:RS} (hs:St ts σ) (hi:isS ts [109,111,100,101] σ=true) (h0:¬isS ts [108,101,116] σ=true) (h1:¬isS ts [100,101,114] σ=true) (h2:¬isS ts [114,101,115,101,116] σ=true) (h3:¬isS ts [109,101,109] σ=true) (h4:¬isS ts [111,110] σ=true) (ha:all=true):IRes ts all σ:=by
 have g0:=go_step' he hs.lt (isS_kind hi).1
 have s0:St ts (stepS σ):=hs.go g0 hs.d0 hs.d30
 have e0:(stepS σ).deep=σ.deep:=rfl
 have g1:=go_name he s0.lt
 have n1:=name_ok ht s0.lt
 have e1:(nameS ts (stepS σ)).deep=σ.deep:=(name_deep ts _).trans e0
 have s1:St ts (nameS ts (stepS σ)):=s0.go g1 (by rw[e1];exact hs.d0) (by rw[e1];exact hs.d30)
 have g2:=go_want he s1.lt [123]
 have e2:(wantS ts [123] (nameS ts (stepS σ))).deep=σ.deep:=(want_deep ts _ _).trans e1
 have s2:St ts (wantS ts [123] (nameS ts (stepS σ))):=s1.go g2 (by rw[e2];exact hs.d0) (by rw[e2];exact hs.d30)
 have g3:=go_name he s2.lt
 have n3:=name_ok ht s2.lt
 have e3:(nameS ts (wantS ts [123] (nameS ts (stepS σ)))).deep=σ.deep:=(name_deep ts _).trans e2
 have s3:St ts (nameS ts (wantS ts [123] (nameS ts (stepS σ)))):=s2.go g3 (by rw[e3];exact hs.d0) (by rw[e3];exact hs.d30)
 have hat:1≤(nameS ts (wantS ts [123] (nameS ts (stepS σ)))).at_:=by have:=g3.at_;have:=g2.at_;have:=g1.at_;have:(stepS σ).at_=σ.at_+1:=rfl;omega
 obtain⟨f,l,τ,r,g4,d4,l4,n4⟩:=states_ends he ht _ [str (nameV ts (wantS ts [123] (nameS ts (stepS σ))))] _ (qL _) s3 (by simpa using hat) (fun s h=>by obtain rfl:=List.mem_singleton.1 h;exact n3)
 have e4:τ.deep=σ.deep:=d4.trans e3
 have s4:St ts τ:=s3.go g4 (by rw[e4];exact hs.d0) (by rw[e4];exact hs.d30)
 have g5:=go_want he s4.lt [125]
 have e5:(wantS ts [125] τ).deep=σ.deep:=(want_deep ts _ _).trans e4
 have s5:St ts (wantS ts [125] τ):=s4.go g5 (by rw[e5];exact hs.d0) (by rw[e5];exact hs.d30)
 have gE:=go_want he s5.lt [59]
 have G:=(((((g0.trans g1).trans g2).trans g3).trans g4).trans g5).trans gE
 refine⟨f,{ it0 with kind:=6,name:=str (nameV ts (stepS σ)),states:=l,pos:=((tokL ts σ.at_).at_:Int) },decide ((wantS ts [59] (wantS ts [125] τ)).code=0),wantS ts [59] (wantS ts [125] τ),?_,go_zero G,(want_deep ts _ _).trans e5,fun hok=>?_⟩
 ·unfold itemS
  rw[if_neg h0,if_pos ha,if_neg h1,if_neg h2,if_neg h3,if_neg h4,if_pos hi]
  unfold iMode
  rw[r]
  rfl
 ·have hz:(wantS ts [59] (wantS ts [125] τ)).code=0:=of_decide_eq_true hok
  have hn:(wantS ts [59] (wantS ts [125] τ)).exprs.length≤30000:=by rw[want_exprs];exact s5.small
  refine⟨?_,hz,⟨by simp[it0],?_,?_⟩⟩
  ·have:=G.at_;have:=G.room;have:=G.more;omega
  ·simp[mayI,standsE,hasE,hasF,it0]
  ·exact itok hn (by omega) (zz _) (zz _) n1 (by decide) (by decide) (by have:=s4.lt;have:=s4.len;unfold reachN;omega) n4
theorem item_ends (all:Bool) {σ:RS} (hs:St ts σ):IRes ts all σ:=by
 by_cases h0:isS ts [108,101,116] σ=true
 ·exact iLet_ends he ht hs h0
 by_cases ha:all=true
 ·by_cases h1:isS ts [100,101,114] σ=true
  ·exact iDer_ends he ht hs h1 h0 ha
  by_cases h2:isS ts [114,101,115,101,116] σ=true
  ·exact iReset_ends he ht hs h2 h0 h1 ha
  by_cases h3:isS ts [109,101,109] σ=true
  ·exact iMem_ends he ht hs h3 h0 h1 h2 ha
  by_cases h4:isS ts [111,110] σ=true
  ·exact iOn_ends he ht hs h4 h0 h1 h2 h3 ha
  by_cases h5:isS ts [109,111,100,101] σ=true
  ·exact iMode_ends he ht hs h5 h0 h1 h2 h3 h4 ha
  by_cases h6:isS ts [102,114,111,109] σ=true
  ·exact iFrom_ends he ht hs h6 h0 h1 h2 h3 h4 h5 ha
  by_cases h7:isS ts [111,117,116] σ=true
  ·exact iOut_ends he ht hs h7 h0 h1 h2 h3 h4 h5 h6 ha
  refine⟨0,{ it0 with pos:=((tokL ts σ.at_).at_:Int) },false,σ,?_,Go.refl hs.lt,rfl,fun h=>by cases h⟩
  unfold itemS
  rw[if_neg h0,if_pos ha,if_neg h1,if_neg h2,if_neg h3,if_neg h4,if_neg h5,if_neg h6,if_neg h7]
 ·refine⟨0,{ it0 with pos:=((tokL ts σ.at_).at_:Int) },false,σ,?_,Go.refl hs.lt,rfl,fun h=>by cases h⟩
  unfold itemS
  rw[if_neg h0,if_neg ha]
end
set_option linter.unusedSectionVars false
structure GoodD (d:De) (n:Nat):Prop where
 kind:1≤d.kind∧d.kind≤3
 val:standsE n (hasVal d.kind) d.e=true
 ok:DeOk d
 pa:∀p ∈ d.params,GoodPa p
 it:∀x ∈ d.items,GoodI x n
theorem GoodD.mono {d:De} {n m:Nat} (h:GoodD d n) (hm:n≤m):GoodD d m:=⟨h.kind,stands_mono hm h.val,h.ok,h.pa,fun x hx=>(h.it x hx).mono hm⟩
theorem want_prog {ts:List Tok} {s:List UInt8} {σ:RS} (h:(wantS ts s σ).code=0):(wantS ts s σ).at_=σ.at_+1:=by
 unfold wantS at h ⊢
 split
 ·rfl
 ·rename_i hi
  rw[if_neg hi] at h
  unfold failS at h
  split at h
  ·exact absurd (show(2:Int)=0 from h) (by decide)
  ·rename_i hc;exact absurd h hc
section
variable {ts:List Tok} (he:EndOk ts) (ht:TokOk ts)
include he ht
theorem items_ends (all:Bool):∀(M:Nat) (acc:List It) (σ:RS),ts.length - σ.at_≤M→St ts σ→acc.length≤σ.at_→(σ.code=0→∀x ∈ acc,GoodI x σ.exprs.length)→∃f l τ,itsL ts f all f acc σ=some (l,τ)∧Go ts 0 σ τ∧τ.deep=σ.deep∧l.length≤τ.at_∧(τ.code=0→∀x ∈ l,GoodI x τ.exprs.length):=by
 intro M
 induction M with
 | zero=>intro acc σ hm hs _ _;have:=hs.lt;omega
 | succ M ih =>
  intro acc σ hm hs hl hn
  have hlen:acc.length≤40000:=by have:=hs.lt;have:=hs.len;omega
  by_cases hc:σ.code=0
  ·obtain⟨f1,x,ok,τ,r1,g1,d1,p1⟩:=item_ends he ht all hs
   have s1:St ts τ:=hs.go g1 (by rw[d1];exact hs.d0) (by rw[d1];exact hs.d30)
   cases ok with
   | true =>
    obtain⟨hat,hz,hg⟩:=p1 rfl
    obtain⟨f2,l,υ,r2,g2,d2,l2,n2⟩:=ih (acc++[x]) τ (by have:=hs.lt;omega) s1 (by simp;omega) (fun _ y hy=>by
     rcases List.mem_append.1 hy with hy | hy
     ·exact(hn hc y hy).mono g1.more
     ·obtain rfl:=List.mem_singleton.1 hy;exact hg)
    refine⟨f1+f2+1,l,υ,?_,go_zero (g1.trans g2),d2.trans d1,l2,n2⟩
    simp only[itsL]
    rw[if_pos hlen,if_pos hc,itemS_le (f:=f1) (by omega) r1]
    simp only[Option.bind_some,if_true]
    exact itsL_le (f:=f2) (n:=f2) (by omega) (by omega) r2
   | false =>
    refine⟨f1+1,acc,τ,?_,g1,d1,by have:=g1.at_;omega,fun hz y hy=>(hn hc y hy).mono g1.more⟩
    simp only[itsL]
    rw[if_pos hlen,if_pos hc,itemS_le (f:=f1) (by omega) r1]
    simp
  ·refine⟨1,acc,σ,?_,Go.refl hs.lt,rfl,hl,fun hz=>absurd hz hc⟩
   simp only[itsL]
   rw[if_pos hlen,if_neg hc]
theorem items_ends0 (all:Bool) {σ:RS} (hs:St ts σ):∃f l τ,itsL ts f all f [] σ=some (l,τ)∧Go ts 0 σ τ∧τ.deep=σ.deep∧l.length≤τ.at_∧(τ.code=0→∀x ∈ l,GoodI x τ.exprs.length) :=
 items_ends he ht all _ [] σ (qL _) hs (Nat.zero_le _) (fun _ x hx=>by cases hx)
theorem deok {k ty e p:Int} {nm:ByteArray} {pl:List Pa} {il:List It} {n:Nat} (hn:n≤30000) (hk:1≤k∧k≤3) (h1:0≤e∧e≤(n:Int)) (h2:nm.size≤reachN) (h3:pl.length≤40000) (h4:il.length≤40000):DeOk ⟨k,nm,pl,il,ty,e,p⟩ :=
 ⟨by unfold i64ok;dsimp only;omega,by unfold i64ok;dsimp only;omega,h2,by unfold reachN;dsimp only;omega,by unfold reachN;dsimp only;omega⟩
def DRes (ts:List Tok) (σ:RS):Prop:=∃f d τ,declS ts f σ=some (d,τ)∧Go ts 0 σ τ∧τ.deep=σ.deep∧(τ.code=0→σ.at_<τ.at_∧GoodD d τ.exprs.length)
theorem St.want {σ:RS} (h:St ts σ) (s:List UInt8):St ts (wantS ts s σ)∧Go ts 0 σ (wantS ts s σ):=⟨h.go (go_want he h.lt s) (by rw[want_deep];exact h.d0) (by rw[want_deep];exact h.d30),go_want he h.lt s⟩
theorem St.name {σ:RS} (h:St ts σ):St ts (nameS ts σ)∧Go ts 0 σ (nameS ts σ):=⟨h.go (go_name he h.lt) (by rw[name_deep];exact h.d0) (by rw[name_deep];exact h.d30),go_name he h.lt⟩
theorem St.kind {σ:RS} (h:St ts σ):St ts (kindS ts σ)∧Go ts 0 σ (kindS ts σ):=⟨h.go (go_kind he h.lt) (by rw[kind_deep];exact h.d0) (by rw[kind_deep];exact h.d30),go_kind he h.lt⟩
theorem decl_ends {σ:RS} (hs:St ts σ):DRes ts σ:=by
 by_cases hf:isS ts [102,117,110] σ=true
 ·have g0:=go_step' he hs.lt (isS_kind hf).1
  have s0:St ts (stepS σ):=hs.go g0 hs.d0 hs.d30
  obtain⟨s1,g1⟩:=s0.name he ht
  have n1:=name_ok ht s0.lt
  obtain⟨f2,pl,τ2,r2,g2,d2,l2,p2⟩:=params_ends he ht s1
  have s2:St ts τ2:=s1.go g2 (by rw[d2];exact s1.d0) (by rw[d2];exact s1.d30)
  obtain⟨s3,g3⟩:=s2.want he ht [58]
  obtain⟨s4,g4⟩:=s3.kind he ht
  obtain⟨s5,g5⟩:=s4.want he ht [61]
  obtain⟨f6,v,τ6,r6,g6,d6,i6⟩:=expr_ends' he ht s5
  have s6:St ts τ6:=s5.go g6 (by rw[d6];exact s5.d0) (by rw[d6];exact s5.d30)
  have gE:=go_want he s6.lt [59]
  have G:=((((((g0.trans g1).trans g2).trans g3).trans g4).trans g5).trans g6).trans gE
  refine⟨f2+f6,⟨1,str (nameV ts (stepS σ)),pl,[],kindV ts (wantS ts [58] τ2),v,((tokL ts σ.at_).at_:Int)⟩,wantS ts [59] τ6,?_,go_zero G,?_,fun hz=>⟨?_,⟨by dsimp only;omega,?_,?_,p2,fun x hx=>by cases hx⟩⟩⟩
  ·unfold declS
   rw[if_pos hf,paramsS_le (f:=f2) (by omega) r2]
   simp only[Option.bind_some]
   rw[exprS_le (f:=f6) (by omega) r6]
   rfl
  ·rw[want_deep,d6,want_deep,kind_deep,want_deep,d2,name_deep];rfl
  ·have:=G.at_;have:=G.room;have:=G.more;omega
  ·have q:=IxOk.go i6 gE hz
   simp[standsE,hasVal,q]
  ·have q:=IxOk.go i6 gE hz
   exact deok he ht (n:=(wantS ts [59] τ6).exprs.length) (by rw[want_exprs];exact s6.small) (by omega) (by omega) n1 l2 (by simp)
 by_cases hn:isS ts [110,111,100,101] σ=true
 ·have g0:=go_step' he hs.lt (isS_kind hn).1
  have s0:St ts (stepS σ):=hs.go g0 hs.d0 hs.d30
  obtain⟨s1,g1⟩:=s0.name he ht
  have n1:=name_ok ht s0.lt
  obtain⟨f2,pl,τ2,r2,g2,d2,l2,p2⟩:=params_ends he ht s1
  have s2:St ts τ2:=s1.go g2 (by rw[d2];exact s1.d0) (by rw[d2];exact s1.d30)
  obtain⟨s3,g3⟩:=s2.want he ht [58]
  obtain⟨s4,g4⟩:=s3.kind he ht
  obtain⟨s5,g5⟩:=s4.want he ht [123]
  obtain⟨f6,il,τ6,r6,g6,d6,l6,p6⟩:=items_ends0 he ht false s5
  have s6:St ts τ6:=s5.go g6 (by rw[d6];exact s5.d0) (by rw[d6];exact s5.d30)
  obtain⟨s7,g7⟩:=s6.want he ht [114,101,116,117,114,110]
  obtain⟨f8,v,τ8,r8,g8,d8,i8⟩:=expr_ends' he ht s7
  have s8:St ts τ8:=s7.go g8 (by rw[d8];exact s7.d0) (by rw[d8];exact s7.d30)
  obtain⟨s9,g9⟩:=s8.want he ht [59]
  have gE:=go_want he s9.lt [125]
  have G:=(((((((((g0.trans g1).trans g2).trans g3).trans g4).trans g5).trans g6).trans g7).trans g8).trans g9).trans gE
  have gT:=((g7.trans g8).trans g9).trans gE
  refine⟨f2+f6+f8,⟨2,str (nameV ts (stepS σ)),pl,il,kindV ts (wantS ts [58] τ2),v,((tokL ts σ.at_).at_:Int)⟩,wantS ts [125] (wantS ts [59] τ8),?_,go_zero G,?_,fun hz=>⟨?_,⟨by dsimp only;omega,?_,?_,p2,fun x hx=>(p6 (gT.code hz) x hx).mono gT.more⟩⟩⟩
  ·unfold declS
   rw[if_neg hf,if_pos hn,paramsS_le (f:=f2) (by omega) r2]
   simp only[Option.bind_some]
   rw[itsL_le (f:=f6) (n:=f6) (by omega) (by omega) r6]
   simp only[Option.bind_some]
   rw[exprS_le (f:=f8) (by omega) r8]
   rfl
  ·rw[want_deep,want_deep,d8,want_deep,d6,want_deep,kind_deep,want_deep,d2,name_deep];rfl
  ·have:=G.at_;have:=G.room;have:=G.more;omega
  ·have q:=(IxOk.go i8 g9).go gE hz
   simp[standsE,hasVal,q]
  ·have q:=(IxOk.go i8 g9).go gE hz
   exact deok he ht (n:=(wantS ts [125] (wantS ts [59] τ8)).exprs.length) (by rw[want_exprs,want_exprs];exact s8.small) (by omega) (by omega) n1 l2 (by have:=s6.lt;have:=s6.len;omega)
 ·obtain⟨s0,g0⟩:=hs.want he ht [104,121,98,114,105,100]
  obtain⟨s1,g1⟩:=s0.name he ht
  have n1:=name_ok ht s0.lt
  obtain⟨f2,pl,τ2,r2,g2,d2,l2,p2⟩:=params_ends he ht s1
  have s2:St ts τ2:=s1.go g2 (by rw[d2];exact s1.d0) (by rw[d2];exact s1.d30)
  obtain⟨s3,g3⟩:=s2.want he ht [123]
  obtain⟨f6,il,τ6,r6,g6,d6,l6,p6⟩:=items_ends0 he ht true s3
  have s6:St ts τ6:=s3.go g6 (by rw[d6];exact s3.d0) (by rw[d6];exact s3.d30)
  have gE:=go_want he s6.lt [125]
  have G1:=(((g0.trans g1).trans g2).trans g3).trans g6
  have G:=G1.trans gE
  refine⟨f2+f6,⟨3,str (nameV ts (wantS ts [104,121,98,114,105,100] σ)),pl,il,0,0,((tokL ts σ.at_).at_:Int)⟩,wantS ts [125] τ6,?_,go_zero G,?_,fun hz=>⟨?_,⟨by dsimp only;omega,by simp[standsE,hasVal],?_,p2,fun x hx=>(p6 (gE.code hz) x hx).mono gE.more⟩⟩⟩
  ·unfold declS
   rw[if_neg hf,if_neg hn,paramsS_le (f:=f2) (by omega) r2]
   simp only[Option.bind_some]
   rw[itsL_le (f:=f6) (n:=f6) (by omega) (by omega) r6]
   rfl
  ·rw[want_deep,d6,want_deep,d2,name_deep,want_deep]
  ·have:=want_prog hz;have:=G1.at_;omega
  ·exact deok he ht (n:=0) (by omega) (by omega) (by omega) n1 l2 (by have:=s6.lt;have:=s6.len;omega)
theorem decls_ends:∀(M:Nat) (acc:List De) (σ:RS),ts.length - σ.at_≤M→St ts σ→acc.length≤σ.at_→(σ.code=0→∀d ∈ acc,GoodD d σ.exprs.length)→∃f l τ,declsG ts f f acc σ=some (l,τ)∧Go ts 0 σ τ∧(τ.code=0→l.length≤τ.at_∧∀d ∈ l,GoodD d τ.exprs.length):=by
 intro M
 induction M with
 | zero=>intro acc σ hm hs _ _;have:=hs.lt;omega
 | succ M ih =>
  intro acc σ hm hs hl hn
  have hlen:acc.length≤30000:=by have:=hs.lt;have:=hs.len;omega
  by_cases hc:σ.code=0
  ·by_cases h5:(tokL ts σ.at_).kind=5
   ·refine⟨1,acc,σ,?_,Go.refl hs.lt,fun hz=>⟨hl,hn hz⟩⟩
    simp only[declsG]
    rw[if_pos (by omega),if_pos hc,if_pos h5]
   ·obtain⟨f1,d,τ,r1,g1,d1,p1⟩:=decl_ends he ht hs
    have s1:St ts τ:=hs.go g1 (by rw[d1];exact hs.d0) (by rw[d1];exact hs.d30)
    by_cases hz:τ.code=0
    ·obtain⟨hat,hg⟩:=p1 hz
     obtain⟨f2,l,υ,r2,g2,n2⟩:=ih (acc++[d]) τ (by have:=hs.lt;omega) s1 (by simp;omega) (fun _ y hy=>by
      rcases List.mem_append.1 hy with hy | hy
      ·exact(hn hc y hy).mono g1.more
      ·obtain rfl:=List.mem_singleton.1 hy;exact hg)
     refine⟨f1+f2+1,l,υ,?_,go_zero (g1.trans g2),n2⟩
     simp only[declsG]
     rw[if_pos (by omega),if_pos hc,if_neg h5,declS_le (f:=f1) (by omega) r1]
     simp only[Option.bind_some]
     exact declsG_le (f:=f2) (n:=f2) (by omega) (by omega) r2
    ·refine⟨f1+1+1,acc++[d],τ,?_,g1,fun h=>absurd h hz⟩
     rw[declsG,if_pos (by omega),if_pos hc,if_neg h5,declS_le (f:=f1) (by omega) r1]
     simp only[Option.bind_some]
     rw[declsG,if_pos (by simp;omega),if_neg hz]
  ·refine⟨1,acc,σ,?_,Go.refl hs.lt,fun hz=>absurd hz hc⟩
   simp only[declsG]
   rw[if_pos (by omega),if_neg hc]
end
end Go.Proofs.YtpfmlfcaadnnpaaGreatDoor
namespace Go.Proofs.YtpfmlfcaadnnpaaGreatDoor
open Go.RowKit Lx
theorem flatMap_get {α:Type} {enc:α→List Value} {s:Nat} (hs:∀x,(enc x).length=s):∀(l:List α) (i:Nat) (x:α) (j:Nat) (u:Value),l[i]?=some x→(enc x)[j]?=some u→(l.flatMap enc)[i*s+j]?=some u
 | [],i,x,j,u,h,_=>by cases h
 | y :: l,0,x,j,u,h,hu=>by
  cases h
  have hj:j<(enc y).length:=(List.getElem?_eq_some_iff.1 hu).1
  rw[List.flatMap_cons,Nat.zero_mul,Nat.zero_add,List.getElem?_append_left hj];exact hu
 | y :: l,i+1,x,j,u,h,hu=>by
  have h2:l[i]?=some x:=by simpa using h
  have hy:=hs y
  rw[List.flatMap_cons,List.getElem?_append_right (by rw[hy,Nat.add_mul];omega),hy]
  have:=flatMap_get hs l i x j u h2 hu
  rw[show(i+1)*s+j-s=i*s+j by rw[Nat.add_mul];omega]
  exact this
theorem own_slAt {α:Type} {W:World} {B:Nat} {T:TypeId} {s:Nat} {v:Value} {l:List α} {enc:α→List Value} (hs:∀x,(enc x).length=s) (h:W.ownsRow B T s v l.length (l.flatMap enc)) :
  SlAt v l.length s fun b o i=>∀x,l[i]?=some x→∀j u,(enc x)[j]?=some u→W.cell? ⟨b,o+j,none⟩=some u:=by
 rcases h.2 with ⟨rfl,h0⟩ | ⟨g,cap,cur,rfl,hb,hg,hnc,hcm,hcs,htk⟩
 ·rw[h0];exact slAt_none _ _ _ _ _ ⟨Nat.zero_le _,fun _=>rfl⟩ rfl
 ·refine slAt_some hnc hcm fun i hi x hx j u hu=>?_
  have h1:=flatMap_get hs l i x j u hx hu
  rw[←htk,List.getElem?_take] at h1
  split at h1
  ·rw[Array.getElem?_toList] at h1
   simp[World.cell?,hg,h1]
  ·cases h1
theorem ints_own {W:World} {B:Nat} {v:Value} {l:List Int} (h:W.ownsRow B 3 1 v l.length (l.map intC)):IntsAt W v l:=by
 rw[List.map_eq_flatMap] at h
 exact(own_slAt (enc:=fun n=>[intC n]) (fun _=>rfl) h).mono fun b o i hi hx=>by
  obtain⟨x,hx'⟩:∃x,l[i]?=some x:=⟨_,List.getElem?_eq_getElem hi⟩
  have:=hx x hx' 0 _ rfl
  rw[List.getD_eq_getElem?_getD,hx'];exact this
theorem strs_own {W:World} {B:Nat} {v:Value} {l:List ByteArray} (h:W.ownsRow B 9 1 v l.length (l.map .string)):StrsAt W v l:=by
 rw[List.map_eq_flatMap] at h
 exact(own_slAt (enc:=fun n=>[Value.string n]) (fun _=>rfl) h).mono fun b o i hi hx=>by
  obtain⟨x,hx'⟩:∃x,l[i]?=some x:=⟨_,List.getElem?_eq_getElem hi⟩
  have:=hx x hx' 0 _ rfl
  rw[List.getD_eq_getElem?_getD,hx'];exact this
theorem exs_own {W:World} {b:Nat} {xb:Nat→Prop} {v:Value} {l:List Ex} (h:ExsOwn W b xb v l) (hg:AllGood l):ExsAt W v l:=by
 obtain⟨q,rfl,h2,h3⟩:=h
 rw[List.length_map] at h2
 unfold ExsAt
 rw[List.length_map]
 refine(own_slAt (enc:=fun p:Ex×Value=>exC p.1 p.2) (fun _=>rfl) h2).mono fun b o i hi hx x hx2=>?_
 rw[List.getElem?_map] at hx2
 obtain⟨p,hp,rfl⟩:=Option.map_eq_some_iff.1 hx2
 have c:=hx p hp
 refine⟨p.2,c 0 _ rfl,c 1 _ rfl,c 2 _ rfl,c 3 _ rfl,c 4 _ rfl,c 5 _ rfl,c 6 _ rfl,c 7 _ rfl,c 8 _ rfl,ints_own (h3 p (List.mem_of_getElem? hp)).1,?_⟩
 exact(hg i p.1 (by rw[List.getElem?_map,hp];rfl)).2
end Go.Proofs.YtpfmlfcaadnnpaaGreatDoor
namespace Go.Proofs.YtpfmlfcaadnnpaaGreatDoor
open Lx
theorem its_own {W:World} {B:Nat} {v:Value} {l:List It} (h:ItsOwn W B v l) (hg:∀x ∈ l,ItOk x):SlAt v l.length 9 fun b o i=>∀y,l[i]?=some y→ItAt W b o y:=by
 obtain⟨q,rfl,h2,h3⟩:=h
 rw[List.length_map] at h2 ⊢
 refine(own_slAt (enc:=fun p:It×Value=>(itC p.1 p.2).toList) (fun _=>rfl) h2).mono fun b o i hi hx x hx2=>?_
 rw[List.getElem?_map] at hx2
 obtain⟨p,hp,rfl⟩:=Option.map_eq_some_iff.1 hx2
 have c:=hx p hp
 exact⟨p.2,c 0 _ rfl,c 1 _ rfl,c 2 _ rfl,c 3 _ rfl,c 4 _ rfl,c 5 _ rfl,c 6 _ rfl,c 7 _ rfl,c 8 _ rfl,strs_own (h3 p (List.mem_of_getElem? hp)),hg p.1 (List.mem_map.2 ⟨p,List.mem_of_getElem? hp,rfl⟩)⟩
theorem pas_own {W:World} {B:Nat} {v:Value} {l:List Pa} (h:W.ownsRow B 62 2 v l.length (paC l)) (hg:∀x ∈ l,GoodPa x):SlAt v l.length 2 fun b o i=>∀y,l[i]?=some y→PaAt W b o y :=
 (own_slAt (enc:=fun p:Pa=>[.string p.name,.int .i64 p.type]) (fun _=>rfl) h).mono fun b o i hi hx x hx2=>by
  have c:=hx x hx2
  have:=hg x (List.mem_of_getElem? hx2)
  exact⟨c 0 _ rfl,c 1 _ rfl,this.1,this.2⟩
theorem des_own {W:World} {B:Nat} {v:Value} {l:List De} {n:Nat} (h:DesOwn W B v l) (hg:∀d ∈ l,GoodD d n):DesAt W v l:=by
 obtain⟨q,rfl,h2,h3⟩:=h
 rw[List.length_map] at h2
 unfold DesAt
 rw[List.length_map]
 refine(own_slAt (enc:=fun p:De×Value×Value=>deGC p.1 p.2.1 p.2.2) (fun _=>rfl) h2).mono fun b o i hi hx x hx2=>?_
 rw[List.getElem?_map] at hx2
 obtain⟨p,hp,rfl⟩:=Option.map_eq_some_iff.1 hx2
 have c:=hx p hp
 have hm:=List.mem_of_getElem? hp
 have hgd:=hg p.1 (List.mem_map.2 ⟨p,hm,rfl⟩)
 exact⟨p.2.1,p.2.2,c 0 _ rfl,c 1 _ rfl,c 2 _ rfl,c 3 _ rfl,c 4 _ rfl,c 5 _ rfl,c 6 _ rfl,pas_own (h3 p hm).1 hgd.pa,its_own (h3 p hm).2 (fun x hx=>(hgd.it x hx).ok),hgd.ok⟩
structure GoodP (p:Pr):Prop where
 ex:AllGood p.exprs
 de:∀d ∈ p.decls,GoodD d p.exprs.length
end Go.Proofs.YtpfmlfcaadnnpaaGreatDoor
namespace Go.Proofs.YtpfmlfcaadnnpaaGreatDoor
open Go.RowKit Lx
def ParseX (p:Pr) (cd f:Int) (W:World) (r:Ending) (Y:World):Prop :=
 ∃sd se,r=.returned (.tuple #[.agg #[sd,se],.agg #[.int .i64 cd,.int .i64 f]])∧ProgAt Y sd se p∧Below W.heap.size W Y
theorem readP_none {cd f:Int} {W:World} {r:Ending} {Y:World} (h:r=.returned (.tuple #[.agg #[.slice none 0 0,.slice none 0 0],.agg #[.int .i64 cd,.int .i64 f]])∧Below W.heap.size W Y):ReadP [] [] cd f W r Y :=
 ⟨none,0,none,0,h.1,h.2,⟨[],rfl,qO _ _ _ _,fun x hx=>by cases hx⟩,⟨[],rfl,qO _ _ _ _,fun p hp=>by cases hp⟩⟩
theorem parseX_none {cd f:Int} {W:World} {r:Ending} {Y:World} (h:ReadP [] [] cd f W r Y):ParseX ⟨[],[]⟩ cd f W r Y:=by
 obtain⟨od,c1,o,c,h1,h2,h3,h4⟩:=h
 exact⟨_,_,h1,⟨des_own (n:=0) h3 (fun d hd=>by cases hd),exs_own h4 (fun i x hx=>by cases i <;> cases hx),Nat.zero_le _,Nat.zero_le _⟩,h2⟩
end Go.Proofs.YtpfmlfcaadnnpaaGreatDoor
