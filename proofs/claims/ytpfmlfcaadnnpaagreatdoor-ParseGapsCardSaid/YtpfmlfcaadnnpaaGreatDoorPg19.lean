import Derived.Test.YtpfmlfcaadnnpaaGreatDoorPg18
set_option maxHeartbeats 16000000
set_option maxRecDepth 100000
set_option linter.unusedVariables false
namespace Go.Proofs.YtpfmlfcaadnnpaaGreatDoor
open Go.RowKit Lx
def AO (σ:RS):Prop:=∀x ∈ σ.exprs,x.args.length≤40000
theorem AO.of {σ τ:RS} (h:AO σ) (e:τ.exprs=σ.exprs):AO τ:=by unfold AO;rw[e];exact h
theorem ao_want {ts:List Tok} {s:List UInt8} {σ:RS} (h:AO σ):AO (wantS ts s σ):=h.of (cwant_exprs ts s σ)
theorem ao_name {ts:List Tok} {σ:RS} (h:AO σ):AO (nameS ts σ):=h.of (by unfold nameS failS;split <;> (try split) <;> rfl)
theorem ao_step {σ:RS} (h:AO σ):AO (stepS σ):=h.of rfl
theorem ao_leave {σ:RS} (h:AO σ):AO (leaveS σ):=h.of rfl
theorem ao_enter {ts:List Tok} {σ:RS} (h:AO σ):AO (enterS ts σ):=h.of (by unfold enterS failS;dsimp only;split <;> (try split) <;> rfl)
theorem ao_put {x:Ex} {σ:RS} (h:AO σ) (hx:x.args.length≤40000):AO (putS x σ):=fun y hy=>by
 rcases List.mem_append.1 hy with hy | hy
 ·exact h y hy
 ·rw[List.mem_singleton.1 hy];exact hx
def ArgOk (j:Job) (R:Int×List Int×RS):Prop:=match j with
 | .args _=>R.2.1.length≤40000
 | _=>True
theorem args_all (ts:List Tok):∀(f:Nat) (j:Job) (σ:RS) (R:Int×List Int×RS),runE ts f j σ=some R→AO σ→AO R.2.2∧ArgOk j R:=by
 intro f
 induction f with
 | zero=>intro j σ R h;cases h
 | succ f ih =>
  intro j σ R h hs
  simp only[runE] at h
  split at h
  ·cases j with
   | expr =>
    refine⟨?_,trivial⟩
    try dsimp only at h
    unfold exprG at h
    try dsimp only at h
    have e:=ao_enter (ts:=ts) hs
    split at h
    ·split at h
     ·obtain⟨a,h1,h⟩:=bind_some' h
      obtain⟨b,h2,h⟩:=bind_some' h
      obtain⟨c,h3,h⟩:=bind_some' h
      obtain⟨_,h⟩:=sputA_some h
      obtain rfl:=qI h
      exact ao_leave (ao_put (ih _ _ _ h3 (ao_want (ih _ _ _ h2 (ao_want (ih _ _ _ h1 (ao_step e)).1)).1)).1 (Nat.zero_le _))
     ·obtain⟨a,h1,h⟩:=bind_some' h
      try dsimp only at h
      split at h
      ·obtain⟨b,h2,h⟩:=bind_some' h
       obtain⟨_,h⟩:=sputA_some h
       obtain rfl:=qI h
       exact ao_leave (ao_put (ih _ _ _ h2 (ao_step (ih _ _ _ h1 e).1)).1 (Nat.zero_le _))
      ·split at h
       ·obtain⟨b,h2,h⟩:=bind_some' h
        obtain⟨_,h⟩:=sputA_some h
        obtain rfl:=qI h
        exact ao_leave (ao_put (ih _ _ _ h2 (ao_step (ih _ _ _ h1 e).1)).1 (Nat.zero_le _))
       ·split at h
        ·obtain rfl:=qI h
         exact ao_leave (ih _ _ _ h1 e).1
        ·cases h
    ·obtain rfl:=qI h
     exact ao_leave e
   | pre =>
    refine⟨?_,trivial⟩
    try dsimp only at h
    unfold preG at h
    try dsimp only at h
    have e:=ao_enter (ts:=ts) hs
    split at h
    ·split at h
     ·obtain⟨a,h1,h⟩:=bind_some' h
      split at h
      ·obtain rfl:=qI h
       exact ao_leave (ih _ _ _ h1 e).1
      ·cases h
     ·obtain⟨a,h1,h⟩:=bind_some' h
      obtain⟨_,h⟩:=sputA_some h
      obtain rfl:=qI h
      exact ao_leave (ao_put (ih _ _ _ h1 (ao_step e)).1 (Nat.zero_le _))
    ·obtain rfl:=qI h
     exact ao_leave e
   | atom =>
    refine⟨?_,trivial⟩
    try dsimp only at h
    unfold atomG at h
    try dsimp only at h
    split at h
    ·obtain⟨_,h⟩:=sputA_some h
     obtain rfl:=qI h
     exact ao_put (ao_step hs) (Nat.zero_le _)
    ·split at h
     ·obtain⟨_,h⟩:=sputA_some h
      obtain rfl:=qI h
      exact ao_put (ao_step hs) (Nat.zero_le _)
     ·split at h
      ·obtain⟨_,h⟩:=sputA_some h
       obtain rfl:=qI h
       exact ao_put (ao_step hs) (Nat.zero_le _)
      ·split at h
       ·split at h
        ·obtain⟨_,h⟩:=sputA_some h
         obtain rfl:=qI h
         exact ao_put (ao_name (ao_step (ao_step hs))) (Nat.zero_le _)
        ·split at h
         ·split at h
          ·obtain⟨_,h⟩:=sputA_some h
           obtain rfl:=qI h
           exact ao_put (ao_step (ao_step (ao_step hs))) (Nat.zero_le _)
          ·obtain⟨a,h1,h⟩:=bind_some' h
           obtain⟨b,h2,h⟩:=bind_some' h
           obtain⟨_,h⟩:=sputA_some h
           obtain rfl:=qI h
           have hb:=ih _ _ _ h2 (ih _ _ _ h1 (ao_step (ao_step hs))).1
           exact ao_put (ao_want hb.1) hb.2
         ·obtain⟨_,h⟩:=sputA_some h
          obtain rfl:=qI h
          exact ao_put (ao_step hs) (Nat.zero_le _)
       ·obtain⟨a,h1,h⟩:=bind_some' h
        obtain rfl:=qI h
        exact ao_want (ih _ _ _ h1 (ao_want hs)).1
   | bin least =>
    refine⟨?_,trivial⟩
    try dsimp only at h
    unfold binG at h
    split at h
    ·exact(ih _ _ _ h hs).1
    ·obtain⟨a,h1,h⟩:=bind_some' h
     exact(ih _ _ _ h (ih _ _ _ h1 hs).1).1
   | loop least a =>
    refine⟨?_,trivial⟩
    try dsimp only at h
    unfold loopG at h
    split at h
    ·split at h
     ·obtain⟨b,h1,h⟩:=bind_some' h
      obtain⟨_,h⟩:=sputA_some h
      have hp:=ao_put (x:={ ex0 with kind:=(levelS ts σ).2,a:=a,b:=b.1,pos:=((tokL ts σ.at_).at_:Int) }) (ih _ _ _ h1 (ao_step hs)).1 (Nat.zero_le _)
      split at h
      ·obtain rfl:=qI h
       exact hp
      ·exact(ih _ _ _ h hp).1
     ·obtain rfl:=qI h
      exact hs
    ·obtain rfl:=qI h
     exact hs
   | args acc =>
    try dsimp only at h
    unfold argsG at h
    split at h
    ·rename_i hl
     split at h
     ·obtain⟨a,h1,h⟩:=bind_some' h
      have q:=ih _ _ _ h (ih _ _ _ h1 (ao_step hs)).1
      exact⟨q.1,q.2⟩
     ·obtain rfl:=qI h
      exact⟨hs,hl⟩
    ·cases h
  ·cases h
theorem parts_ao {σ:RS} (h:AO σ):∀x ∈ σ.exprs,(partsE x).length≤40000:=fun x hx=>by
 by_cases h19:x.kind=19
 ·rw[partsE_19 h19];exact h x hx
 ·rw[partsE_len h19];have:=manyOf_le x.kind;omega
theorem ao_kind {ts:List Tok} {σ:RS} (h:AO σ):AO (kindS ts σ):=by
 unfold kindS
 split
 ·exact h
 ·exact ao_want h
theorem ao_expr {ts:List Tok} {f:Nat} {σ τ:RS} {v:Int} {l:List Int} (h:AO σ) (hr:runE ts f .expr σ=some (v,l,τ)):AO τ:=(args_all ts f .expr σ _ hr h).1
theorem ao_states {ts:List Tok}:∀(n:Nat) (acc:List ByteArray) (σ:RS) (R:List ByteArray×RS),AO σ→statesL ts n acc σ=some R→AO R.2:=by
 intro n
 induction n with
 | zero=>intro acc σ R _ h;cases h
 | succ n ih =>
  intro acc σ R ha h
  simp only[statesL] at h
  split at h
  ·split at h
   ·exact ih _ _ R (ao_name (ao_step ha)) h
   ·obtain rfl:=qI h
    exact ha
  ·cases h
theorem ao_item {ts:List Tok} {f:Nat} {all:Bool} {σ τ:RS} {x:It} {ok:Bool} (ha:AO σ) (hr:itemS ts f all σ=some (x,ok,τ)):AO τ:=by
 unfold itemS at hr
 split at hr
 ·unfold iLet at hr
  obtain⟨v,l,t,h1,hr⟩:=exprS_bind hr
  cases hr
  exact ao_want (ao_expr (ao_want (ao_kind (ao_want (ao_name (ao_step ha))))) h1)
 split at hr
 ·split at hr
  ·unfold iDer at hr
   obtain⟨v1,l1,t1,h1,hr⟩:=exprS_bind hr
   obtain⟨v2,l2,t2,h2,hr⟩:=exprS_bind hr
   cases hr
   exact ao_want (ao_expr (ao_want (ao_expr (ao_want (ao_name (ao_step ha))) h1)) h2)
  split at hr
  ·unfold iReset at hr
   obtain⟨v1,l1,t1,h1,hr⟩:=exprS_bind hr
   obtain⟨v2,l2,t2,h2,hr⟩:=exprS_bind hr
   cases hr
   exact ao_want (ao_expr (ao_want (ao_expr (ao_want (ao_name (ao_step ha))) h1)) h2)
  split at hr
  ·unfold iMem at hr
   obtain⟨v1,l1,t1,h1,hr⟩:=exprS_bind hr
   cases hr
   exact ao_want (ao_expr (ao_want (ao_kind (ao_want (ao_name (ao_step ha))))) h1)
  split at hr
  ·unfold iOn at hr
   obtain⟨v1,l1,t1,h1,hr⟩:=exprS_bind hr
   obtain⟨v2,l2,t2,h2,hr⟩:=exprS_bind hr
   cases hr
   exact ao_want (ao_expr (ao_want (ao_name (ao_want (ao_expr (ao_step ha) h1)))) h2)
  split at hr
  ·unfold iMode at hr
   obtain⟨⟨L,t1⟩,h1,hr⟩:=Option.bind_eq_some_iff.1 hr
   cases hr
   exact ao_want (ao_want (ao_states _ _ _ _ (ao_name (ao_want (ao_name (ao_step ha)))) h1))
  split at hr
  ·unfold iFrom at hr
   obtain⟨v1,l1,t1,h1,hr⟩:=exprS_bind hr
   cases hr
   exact ao_want (ao_name (ao_want (ao_expr (ao_want (ao_name (ao_want (ao_name (ao_step ha))))) h1)))
  split at hr
  ·unfold iOut at hr
   cases hr
   exact ao_want (ao_name (ao_step ha))
  ·cases hr;exact ha
 ·cases hr;exact ha
theorem ao_its {ts:List Tok} {f:Nat} {all:Bool}:∀(n:Nat) (acc:List It) (σ:RS) (R:List It×RS),AO σ→itsL ts f all n acc σ=some R→AO R.2:=by
 intro n
 induction n with
 | zero=>intro acc σ R _ h;cases h
 | succ n ih =>
  intro acc σ R ha h
  obtain⟨k,hk,_,hh⟩:=itsL_cases h
  obtain rfl:n=k:=by omega
  rcases hh with ⟨_,x,τ,h1,h2⟩ | ⟨_,x,τ,h1,h2⟩ | ⟨_,h1⟩
  ·exact ih _ _ R (ao_item ha h1) h2
  ·rw[h2];exact ao_item ha h1
  ·rw[h1];exact ha
theorem ao_pars {ts:List Tok}:∀(n:Nat) (acc:List Pa) (σ:RS) (R:List Pa×RS),AO σ→parsL ts n acc σ=some R→AO R.2:=by
 intro n
 induction n with
 | zero=>intro acc σ R _ h;cases h
 | succ n ih =>
  intro acc σ R ha h
  simp only[parsL] at h
  have hk:=ao_kind (ts:=ts) (ao_want (ts:=ts) (s:=[58]) (ao_name (ts:=ts) ha))
  split at h
  ·split at h
   ·split at h
    ·exact ih _ _ R (ao_step hk) h
    ·obtain rfl:=qI h
     exact ao_want hk
   ·obtain rfl:=qI h
    exact ha
  ·cases h
theorem ao_params {ts:List Tok} {f:Nat} {σ:RS} {R:List Pa×RS} (ha:AO σ) (hr:paramsS ts f σ=some R):AO R.2:=by
 unfold paramsS at hr
 split at hr
 ·obtain rfl:=qI hr
  exact ao_step (ao_want ha)
 ·exact ao_pars _ _ _ _ (ao_want ha) hr
theorem ao_decl {ts:List Tok} {f:Nat} {σ τ:RS} {d:De} (ha:AO σ) (hr:declS ts f σ=some (d,τ)):AO τ:=by
 unfold declS at hr
 split at hr
 ·obtain⟨⟨p,t1⟩,h1,hr⟩:=Option.bind_eq_some_iff.1 hr
  obtain⟨v2,l2,t2,h2,hr⟩:=exprS_bind hr
  cases hr
  exact ao_want (ao_expr (ao_want (ao_kind (ao_want (ao_params (ao_name (ao_step ha)) h1)))) h2)
 split at hr
 ·obtain⟨⟨p,t1⟩,h1,hr⟩:=Option.bind_eq_some_iff.1 hr
  obtain⟨⟨i,t2⟩,h2,hr⟩:=Option.bind_eq_some_iff.1 hr
  obtain⟨v3,l3,t3,h3,hr⟩:=exprS_bind hr
  cases hr
  exact ao_want (ao_want (ao_expr (ao_want (ao_its _ _ _ _ (ao_want (ao_kind (ao_want (ao_params (ao_name (ao_step ha)) h1)))) h2)) h3))
 ·obtain⟨⟨p,t1⟩,h1,hr⟩:=Option.bind_eq_some_iff.1 hr
  obtain⟨⟨i,t2⟩,h2,hr⟩:=Option.bind_eq_some_iff.1 hr
  cases hr
  exact ao_want (ao_its _ _ _ _ (ao_want (ao_params (ao_name (ao_want ha)) h1)) h2)
theorem ao_decls {ts:List Tok} {f:Nat}:∀(n:Nat) (acc:List De) (σ:RS) (R:List De×RS),AO σ→declsG ts f n acc σ=some R→AO R.2:=by
 intro n
 induction n with
 | zero=>intro acc σ R _ h;cases h
 | succ n ih =>
  intro acc σ R ha h
  obtain⟨k,hk,_,hh⟩:=declsG_cases h
  obtain rfl:n=k:=by omega
  rcases hh with ⟨_,_,h1⟩ | ⟨_,_,d,τ,h1,h2⟩ | ⟨_,h1⟩
  ·rw[h1];exact ha
  ·exact ih _ _ R (ao_decl ha h1) h2
  ·rw[h1];exact ha
theorem decls_five {ts:List Tok} {f:Nat}:∀(n:Nat) (acc:List De) (σ:RS) (R:List De×RS),declsG ts f n acc σ=some R→R.2.code=0→(tokL ts R.2.at_).kind=5:=by
 intro n
 induction n with
 | zero=>intro acc σ R h;cases h
 | succ n ih =>
  intro acc σ R h h0
  obtain⟨k,hk,_,hh⟩:=declsG_cases h
  obtain rfl:n=k:=by omega
  rcases hh with ⟨_,h5,h1⟩ | ⟨_,_,d,τ,h1,h2⟩ | ⟨hz,h1⟩
  ·rw[h1];exact h5
  ·exact ih _ _ R h2 h0
  ·rw[h1] at h0;exact absurd h0 hz
end Go.Proofs.YtpfmlfcaadnnpaaGreatDoor
namespace Go.Proofs.YtpfmlfcaadnnpaaGreatDoor
open Lx
theorem exok_parts {k a b c p v:Int} {n:Nat} (hn:n≤30000) (hk:1≤k∧k≤21) (ha:0≤a∧a≤n) (hb:0≤b∧b≤n) (hc:0≤c∧c≤n) (hv:0≤v∧v≤9223372036854775807) {nm st:ByteArray} (hnm:nm.size≤20000) (hst:st.size≤20000) {l:List Int} (hl:l.length≤30000) (hla:∀x ∈ l,0≤x∧x<(n:Int)):ExOk ⟨k,a,b,c,nm,st,v,l,p⟩:=by
 refine⟨?_,?_,?_,?_,?_,?_,?_,?_,?_⟩
 ·unfold i64ok;dsimp only;omega
 ·unfold i64ok;dsimp only;omega
 ·unfold i64ok;dsimp only;omega
 ·unfold i64ok;dsimp only;omega
 ·unfold i64ok;dsimp only;omega
 ·unfold reachN;dsimp only;omega
 ·unfold reachN;dsimp only;omega
 ·unfold reachN;dsimp only;omega
 ·intro x hx;have:=hla x hx;unfold i64ok;omega
theorem zz (n:Nat):(0:Int)≤0∧(0:Int)≤(n:Int):=by omega
theorem zv:(0:Int)≤0∧(0:Int)≤9223372036854775807:=by omega
theorem sz0:(⟨#[]⟩:ByteArray).size=0:=rfl
theorem good1 {k a p:Int} {n:Nat} (hn:n≤30000) (hk:k=4∨k=5∨k=16∨k=21) (ha:0≤a∧a<(n:Int)):GoodX { ex0 with kind:=k,a:=a,pos:=p } n:=by
 refine⟨?_,exok_parts hn (by first | omega | exact zz _ | exact zv) (by first | omega | exact zz _ | exact zv) (by first | omega | exact zz _ | exact zv) (by first | omega | exact zz _ | exact zv) (by first | omega | exact zz _ | exact zv) (by decide) (by decide) (by decide) (fun x hx=>by cases hx)⟩
 rcases hk with rfl | rfl | rfl | rfl <;> simp[mayE,partsE,manyOf,ex0,namedK,mostV,ha,sz0]
theorem good2 {k a b p:Int} {n:Nat} (hn:n≤30000) (hk:(6≤k∧k≤14)∨k=17∨k=18) (ha:0≤a∧a<(n:Int)) (hb:0≤b∧b<(n:Int)):GoodX { ex0 with kind:=k,a:=a,b:=b,pos:=p } n:=by
 refine⟨?_,exok_parts hn (by first | omega | exact zz _ | exact zv) (by first | omega | exact zz _ | exact zv) (by first | omega | exact zz _ | exact zv) (by first | omega | exact zz _ | exact zv) (by first | omega | exact zz _ | exact zv) (by decide) (by decide) (by decide) (fun x hx=>by cases hx)⟩
 obtain rfl | rfl | rfl | rfl | rfl | rfl | rfl | rfl | rfl | rfl | rfl:k=6∨k=7∨k=8∨k=9∨k=10∨k=11∨k=12∨k=13∨k=14∨k=17∨k=18:=by omega
 all_goals simp[mayE,partsE,manyOf,ex0,namedK,mostV,ha,hb,sz0]
theorem good3 {a b c p:Int} {n:Nat} (hn:n≤30000) (ha:0≤a∧a<(n:Int)) (hb:0≤b∧b<(n:Int)) (hc:0≤c∧c<(n:Int)):GoodX { ex0 with kind:=15,a:=a,b:=b,c:=c,pos:=p } n:=by
 refine⟨?_,exok_parts hn (by first | omega | exact zz _ | exact zv) (by first | omega | exact zz _ | exact zv) (by first | omega | exact zz _ | exact zv) (by first | omega | exact zz _ | exact zv) (by first | omega | exact zz _ | exact zv) (by decide) (by decide) (by decide) (fun x hx=>by cases hx)⟩
 simp[mayE,partsE,manyOf,ex0,namedK,mostV,ha,hb,hc,sz0]
theorem goodN {v p:Int} {n:Nat} (hn:n≤30000) (hv:0≤v∧v≤9223372036854775807):GoodX { ex0 with kind:=1,v:=v,pos:=p } n:=by
 refine⟨?_,exok_parts hn (by first | omega | exact zz _ | exact zv) (by first | omega | exact zz _ | exact zv) (by first | omega | exact zz _ | exact zv) (by first | omega | exact zz _ | exact zv) hv (by decide) (by decide) (by decide) (fun x hx=>by cases hx)⟩
 simp[mayE,partsE,manyOf,ex0,namedK,mostV,hv,sz0]
theorem goodT {p:Int} {n:Nat} (hn:n≤30000):GoodX { ex0 with kind:=2,v:=1,pos:=p } n:=by
 refine⟨?_,exok_parts hn (by first | omega | exact zz _ | exact zv) (by first | omega | exact zz _ | exact zv) (by first | omega | exact zz _ | exact zv) (by first | omega | exact zz _ | exact zv) (by first | omega | exact zz _ | exact zv) (by decide) (by decide) (by decide) (fun x hx=>by cases hx)⟩
 simp[mayE,partsE,manyOf,ex0,namedK,mostV,sz0]
theorem goodF {p:Int} {n:Nat} (hn:n≤30000):GoodX { ex0 with kind:=2,pos:=p } n:=by
 refine⟨?_,exok_parts hn (by first | omega | exact zz _ | exact zv) (by first | omega | exact zz _ | exact zv) (by first | omega | exact zz _ | exact zv) (by first | omega | exact zz _ | exact zv) (by first | omega | exact zz _ | exact zv) (by decide) (by decide) (by decide) (fun x hx=>by cases hx)⟩
 simp[mayE,partsE,manyOf,ex0,namedK,mostV,sz0]
theorem str_sz (l:List UInt8):(str l).size=l.length:=by simp[str,ByteArray.size]
theorem good_nm {l:List UInt8} {p:Int} {n:Nat} (hn:n≤30000) (h0:l≠[]) (h1:l.length≤20000):GoodX { ex0 with kind:=3,name:=str l,pos:=p } n:=by
 have hz:(str l).size≠0:=by rw[str_sz];exact fun h=>h0 (List.length_eq_zero_iff.1 h)
 refine⟨?_,exok_parts hn (by first | omega | exact zz _ | exact zv) (by first | omega | exact zz _ | exact zv) (by first | omega | exact zz _ | exact zv) (by first | omega | exact zz _ | exact zv) (by first | omega | exact zz _ | exact zv) (by rw[str_sz];exact h1) (by decide) (by decide) (fun x hx=>by cases hx)⟩
 simp[mayE,partsE,manyOf,ex0,namedK,mostV,sz0,hz]
theorem good_is {l m:List UInt8} {p:Int} {n:Nat} (hn:n≤30000) (h0:l≠[]) (h1:l.length≤20000) (h2:m≠[]) (h3:m.length≤20000):GoodX { ex0 with kind:=20,name:=str l,state:=str m,pos:=p } n:=by
 have hz:(str l).size≠0:=by rw[str_sz];exact fun h=>h0 (List.length_eq_zero_iff.1 h)
 have hz2:(str m).size≠0:=by rw[str_sz];exact fun h=>h2 (List.length_eq_zero_iff.1 h)
 refine⟨?_,exok_parts hn (by first | omega | exact zz _ | exact zv) (by first | omega | exact zz _ | exact zv) (by first | omega | exact zz _ | exact zv) (by first | omega | exact zz _ | exact zv) (by first | omega | exact zz _ | exact zv) (by rw[str_sz];exact h1) (by rw[str_sz];exact h3) (by decide) (fun x hx=>by cases hx)⟩
 simp[mayE,partsE,manyOf,ex0,namedK,mostV,hz,hz2]
theorem good_call {l:List UInt8} {al:List Int} {p:Int} {n:Nat} (hn:n≤30000) (h0:l≠[]) (h1:l.length≤20000) (ha:al.length≤30000) (hv:∀x ∈ al,0≤x∧x<(n:Int)):GoodX { ex0 with kind:=19,name:=str l,args:=al,pos:=p } n:=by
 have hz:(str l).size≠0:=by rw[str_sz];exact fun h=>h0 (List.length_eq_zero_iff.1 h)
 refine⟨?_,exok_parts hn (by first | omega | exact zz _ | exact zv) (by first | omega | exact zz _ | exact zv) (by first | omega | exact zz _ | exact zv) (by first | omega | exact zz _ | exact zv) (by first | omega | exact zz _ | exact zv) (by rw[str_sz];exact h1) (by decide) ha hv⟩
 simp only[mayE,partsE,manyOf,ex0,namedK,mostV]
 simp[hz,sz0]
 exact fun x hx=>hv x hx
def rankJ:Job→Nat
 | .bin least=>10-least
 | .atom=>1
 | _=>0
def meas (ts:List Tok) (j:Job) (σ:RS):Nat:=(ts.length - σ.at_)*1024+(31 - σ.deep.toNat)*16+rankJ j
def JobOk (σ:RS):Job→Prop
 | .atom=>σ.code=0
 | .bin least=>1≤least∧least≤6
 | .loop least a=>1≤least∧least≤5∧IxOk σ a
 | .args acc=>acc.length≤σ.at_∧∀a ∈ acc,IxOk σ a
 | _=>True
def ResOk (τ:RS) (v:Int) (l:List Int):Job→Prop
 | .args _=>l.length≤τ.at_∧∀a ∈ l,IxOk τ a
 | _=>IxOk τ v
def Res (ts:List Tok) (j:Job) (σ:RS):Prop:=∃f v l τ,runE ts f j σ=some (v,l,τ)∧Go ts 0 σ τ∧τ.deep=σ.deep∧ResOk τ v l j
theorem meas_at {ts:List Tok} {j j':Job} {σ σ':RS} (h:σ.at_<σ'.at_) (hl:σ.at_<ts.length) (hr:rankJ j'≤9):meas ts j' σ'<meas ts j σ:=by
 unfold meas
 have h1:(31 - σ'.deep.toNat)*16≤31*16:=Nat.mul_le_mul_right _ (by omega)
 have h2:(ts.length - σ'.at_)*1024+1024≤(ts.length - σ.at_)*1024:=by
  have:ts.length - σ'.at_+1≤ts.length - σ.at_:=by omega
  have:=Nat.mul_le_mul_right 1024 this
  omega
 omega
theorem meas_deep {ts:List Tok} {j j':Job} {σ σ':RS} (h:σ.at_≤σ'.at_) (hd:σ'.deep=σ.deep+1) (h0:0≤σ.deep) (h30:σ.deep≤30) (hr:rankJ j'≤9):meas ts j' σ'<meas ts j σ:=by
 unfold meas
 have h2:(ts.length - σ'.at_)*1024≤(ts.length - σ.at_)*1024:=Nat.mul_le_mul_right _ (by omega)
 rw[hd]
 omega
theorem meas_rank {ts:List Tok} {j j':Job} {σ σ':RS} (h:σ.at_≤σ'.at_) (hd:σ'.deep=σ.deep) (hr:rankJ j'<rankJ j):meas ts j' σ'<meas ts j σ:=by
 unfold meas
 have h2:(ts.length - σ'.at_)*1024≤(ts.length - σ.at_)*1024:=Nat.mul_le_mul_right _ (by omega)
 rw[hd]
 omega
theorem runE_go {ts:List Tok} {f:Nat} {j:Job} {σ:RS} (h:okS σ=true):runE ts (f+1) j σ=(match j with
  | .expr=>exprG ts (runE ts f) σ
  | .pre=>preG ts (runE ts f) σ
  | .atom=>atomG ts (runE ts f) σ
  | .bin least=>binG (runE ts f) least σ
  | .loop least a=>loopG ts (runE ts f) least a σ
  | .args acc=>argsG ts (runE ts f) acc σ):=by
 unfold runE
 rw[if_pos h]
 cases j <;> rfl
theorem go_zero {ts:List Tok} {k:Nat} {σ τ:RS} (h:Go ts k σ τ):Go ts 0 σ τ:=h.less (Nat.zero_le _)
theorem ix_put (x:Ex) (τ:RS):IxOk (putS x τ) (τ.exprs.length:Int):=fun _=>by unfold putS;simp;omega
theorem leave_ix {τ:RS} {v:Int} (h:IxOk τ v):IxOk (leaveS τ) v:=h
section
variable {ts:List Tok} (he:EndOk ts) (ht:TokOk ts)
include he
theorem tot_expr {σ:RS} (hs:St ts σ) (ih:∀j' σ',meas ts j' σ'<meas ts .expr σ→St ts σ'→JobOk σ' j'→Res ts j' σ'):Res ts .expr σ:=by
 obtain⟨ge,gd,ga,gx,gc⟩:=go_enter' (ts:=ts) hs.lt
 obtain⟨x,hx⟩:∃x,x=enterS ts σ:=⟨_,rfl⟩
 rw[←hx] at ge gd ga gx gc
 have hd0:=hs.d0
 have hd30:=hs.d30
 by_cases h0:x.code=0
 ·have hd:=gc h0
  have sx:St ts x:=hs.go ge (by omega) (by omega)
  cases hi:isS ts [105,102] x with
  | true =>
   have g1:=go_step' he sx.lt (isS_kind hi).1
   have s1:St ts (stepS x):=sx.go g1 (by show 0≤x.deep;omega) (by show x.deep≤30;omega)
   obtain⟨f1,a,l1,τ1,r1,k1,d1,v1⟩:=ih .expr (stepS x) (meas_at (by unfold stepS;simp;omega) hs.lt (by simp[rankJ])) s1 trivial
   have q1:τ1.deep=x.deep:=d1
   have w1:=go_want he k1.lt [116,104,101,110]
   have G2:=(g1.trans k1).trans w1
   have s2:St ts (wantS ts [116,104,101,110] τ1):=sx.go G2 (by rw[want_deep,q1];omega) (by rw[want_deep,q1];omega)
   obtain⟨f2,b,l2,τ2,r2,k2,d2,v2⟩:=ih .expr _ (meas_at (by have:=G2.room;have:=G2.more;omega) hs.lt (by simp[rankJ])) s2 trivial
   have q2:τ2.deep=x.deep:=by rw[d2,want_deep,q1]
   have w2:=go_want he k2.lt [101,108,115,101]
   have G3:=(G2.trans k2).trans w2
   have s3:St ts (wantS ts [101,108,115,101] τ2):=sx.go G3 (by rw[want_deep,q2];omega) (by rw[want_deep,q2];omega)
   obtain⟨f3,c,l3,τ3,r3,k3,d3,v3⟩:=ih .expr _ (meas_at (by have:=G3.room;have:=G3.more;omega) hs.lt (by simp[rankJ])) s3 trivial
   have q3:τ3.deep=x.deep:=by rw[d3,want_deep,q2]
   have G4:=G3.trans k3
   have s4:St ts τ3:=sx.go G4 (by omega) (by omega)
   have hn:τ3.exprs.length≤30000:=by have:=s4.room;have:=s4.lt;have:=s4.len;omega
   obtain⟨X,hX⟩:∃X:Ex,X={ ex0 with kind:=15,a:=a,b:=b,c:=c,pos:=((tokL ts x.at_).at_:Int) }:=⟨_,rfl⟩
   have P:=(G4.less (m:=0+1) (by omega)).put (x:=X) fun hz _=>hX ▸ good3 hn ((((IxOk.go v1 w1).go k2).go w2).go k3 hz) ((IxOk.go v2 w2).go k3 hz) (v3 hz)
   refine⟨f1+f2+f3+1,(τ3.exprs.length:Int),[],leaveS (putS X τ3),?_,?_,?_,leave_ix (ix_put X τ3)⟩
   ·rw[runE_go hs.ok]
    simp only[exprG]
    rw[←hx,if_pos h0,if_pos hi,runE_le (f:=f1) (by omega) _ _ _ r1]
    simp only[Option.bind_some]
    rw[runE_le (f:=f2) (by omega) _ _ _ r2]
    simp only[Option.bind_some]
    rw[runE_le (f:=f3) (by omega) _ _ _ r3]
    simp only[Option.bind_some]
    rw[putA_ok s4.ok,hX]
   ·exact go_zero ((ge.trans P).trans (go_leave P.lt))
   ·show τ3.deep-1=σ.deep;omega
  | false =>
   have hi2:¬isS ts [105,102] x=true:=by rw[hi];simp
   obtain⟨f1,o,l1,y,r1,k1,d1,v1⟩:=ih (.bin 1) x (meas_deep (by omega) gd hd0 hd30 (by simp[rankJ])) sx ⟨by omega,by omega⟩
   have sy:St ts y:=sx.go k1 (by omega) (by omega)
   have arm:∀(s:List UInt8) (k:Int),(k=17∨k=18)→isS ts s y=true→∃f b l3 τ X,X={ ex0 with kind:=k,a:=o,b:=b,pos:=((tokL ts y.at_).at_:Int) }∧runE ts f .expr (stepS y)=some (b,l3,τ)∧okS τ=true∧Go ts 0 y (putS X τ)∧τ.deep=y.deep:=by
    intro s k hk hs2
    have g1:=go_step' he sy.lt (isS_kind hs2).1
    have s1:St ts (stepS y):=sy.go g1 (by show 0≤y.deep;omega) (by show y.deep≤30;omega)
    obtain⟨f2,b,l2,τ,r2,k2,d2,v2⟩:=ih .expr (stepS y) (meas_at (by have:=k1.at_;unfold stepS;simp;omega) hs.lt (by simp[rankJ])) s1 trivial
    have q2:τ.deep=y.deep:=d2
    have G2:=g1.trans k2
    have s2:St ts τ:=sy.go G2 (by omega) (by omega)
    have hn:τ.exprs.length≤30000:=by have:=s2.room;have:=s2.lt;have:=s2.len;omega
    exact⟨f2,b,l2,τ,_,rfl,r2,s2.ok,(G2.less (m:=0+1) (by omega)).put fun hz _=>good2 hn (by omega) ((IxOk.go v1 g1).go k2 hz) (v2 hz),q2⟩
   by_cases h3:isS ts [45,62] y=true
   ·obtain⟨f2,b,l3,τ,X,hX,r2,o2,P,q2⟩:=arm [45,62] 17 (.inl rfl) h3
    refine⟨f1+f2+1,(τ.exprs.length:Int),[],leaveS (putS X τ),?_,go_zero (((ge.trans k1).trans P).trans (go_leave P.lt)),by show τ.deep-1=σ.deep;omega,leave_ix (ix_put X τ)⟩
    rw[runE_go hs.ok]
    simp only[exprG]
    rw[←hx,if_pos h0,if_neg hi2,runE_le (f:=f1) (by omega) _ _ _ r1]
    simp only[Option.bind_some]
    rw[if_pos h3,runE_le (f:=f2) (by omega) _ _ _ r2]
    simp only[Option.bind_some]
    rw[putA_ok o2,hX]
   ·by_cases h4:isS ts [102,98,121] y=true
    ·obtain⟨f2,b,l3,τ,X,hX,r2,o2,P,q2⟩:=arm [102,98,121] 18 (.inr rfl) h4
     refine⟨f1+f2+1,(τ.exprs.length:Int),[],leaveS (putS X τ),?_,go_zero (((ge.trans k1).trans P).trans (go_leave P.lt)),by show τ.deep-1=σ.deep;omega,leave_ix (ix_put X τ)⟩
     rw[runE_go hs.ok]
     simp only[exprG]
     rw[←hx,if_pos h0,if_neg hi2,runE_le (f:=f1) (by omega) _ _ _ r1]
     simp only[Option.bind_some]
     rw[if_neg h3,if_pos h4,runE_le (f:=f2) (by omega) _ _ _ r2]
     simp only[Option.bind_some]
     rw[putA_ok o2,hX]
    ·refine⟨f1+1,o,[],leaveS y,?_,go_zero ((ge.trans k1).trans (go_leave k1.lt)),by show y.deep-1=σ.deep;omega,leave_ix v1⟩
     rw[runE_go hs.ok]
     simp only[exprG]
     rw[←hx,if_pos h0,if_neg hi2,runE_le (f:=f1) (by omega) _ _ _ r1]
     simp only[Option.bind_some]
     rw[if_neg h3,if_neg h4,if_pos sy.ok]
 ·refine⟨1,0,[],leaveS x,?_,go_zero (ge.trans (go_leave ge.lt)),by show x.deep-1=σ.deep;omega,fun hz=>absurd hz h0⟩
  rw[runE_go hs.ok]
  simp only[exprG]
  rw[←hx,if_neg h0]
end
def exprS' (ts:List Tok) (f:Nat) (σ:RS):Option (Int×RS):=(runE ts f .expr σ).map fun r=>(r.1,r.2.2)
theorem prefixK_some {ts:List Tok} {σ:RS} (h:prefixK ts σ prefixL≠0):∃s,isS ts s σ=true∧(prefixK ts σ prefixL=4∨prefixK ts σ prefixL=5∨prefixK ts σ prefixL=16∨prefixK ts σ prefixL=21):=by
 unfold prefixK at h ⊢
 cases hf:prefixL.find? fun p=>isS ts p.1 σ with
 | none=>rw[hf] at h;exact absurd rfl h
 | some p =>
  have h1:=List.find?_some hf
  have h2:=List.mem_of_find?_eq_some hf
  refine⟨p.1,h1,?_⟩
  unfold prefixL at h2
  simp only[List.mem_cons,List.not_mem_nil,or_false] at h2
  rcases h2 with rfl | rfl | rfl | rfl <;> simp
theorem levelS_some {ts:List Tok} {σ:RS} {n:Nat} (hn:1≤n) (h:(levelS ts σ).1=(n:Int)):∃s,isS ts s σ=true∧6≤(levelS ts σ).2∧(levelS ts σ).2≤14:=by
 unfold levelS levelIn at h ⊢
 cases hf:levelsL.find? fun p=>isS ts p.1 σ with
 | none=>rw[hf] at h;dsimp only at h;omega
 | some p =>
  have h1:=List.find?_some hf
  have h2:=List.mem_of_find?_eq_some hf
  refine⟨p.1,h1,?_⟩
  unfold levelsL at h2
  simp only[List.mem_cons,List.not_mem_nil,or_false] at h2
  rcases h2 with rfl | rfl | rfl | rfl | rfl | rfl | rfl | rfl | rfl <;> simp
theorem tok_get {ts:List Tok} {i:Nat} (h:i<ts.length):ts[i]?=some (tokL ts i):=by
 unfold tokL;rw[List.getD_eq_getElem?_getD,List.getElem?_eq_getElem h];rfl
theorem St.small {ts:List Tok} {σ:RS} (h:St ts σ):σ.exprs.length≤30000:=by have:=h.room;have:=h.lt;have:=h.len;omega
section
variable {ts:List Tok} (he:EndOk ts) (ht:TokOk ts)
include he
theorem tot_pre {σ:RS} (hs:St ts σ) (ih:∀j' σ',meas ts j' σ'<meas ts .pre σ→St ts σ'→JobOk σ' j'→Res ts j' σ'):Res ts .pre σ:=by
 obtain⟨ge,gd,ga,gx,gc⟩:=go_enter' (ts:=ts) hs.lt
 obtain⟨x,hx⟩:∃x,x=enterS ts σ:=⟨_,rfl⟩
 rw[←hx] at ge gd ga gx gc
 have hd0:=hs.d0
 have hd30:=hs.d30
 by_cases h0:x.code=0
 ·have hd:=gc h0
  have sx:St ts x:=hs.go ge (by omega) (by omega)
  by_cases hk:prefixK ts x prefixL=0
  ·obtain⟨f1,a,l1,τ,r1,k1,d1,v1⟩:=ih .atom x (meas_deep (by omega) gd hd0 hd30 (by simp[rankJ])) sx h0
   have s1:St ts τ:=sx.go k1 (by omega) (by omega)
   refine⟨f1+1,a,[],leaveS τ,?_,go_zero ((ge.trans k1).trans (go_leave k1.lt)),by show τ.deep-1=σ.deep;omega,leave_ix v1⟩
   rw[runE_go hs.ok]
   simp only[preG]
   rw[←hx,if_pos h0,if_pos hk,runE_le (f:=f1) (by omega) _ _ _ r1]
   simp only[Option.bind_some]
   rw[if_pos s1.ok]
  ·obtain⟨s,hi,hkk⟩:=prefixK_some hk
   have g1:=go_step' he sx.lt (isS_kind hi).1
   have s1:St ts (stepS x):=sx.go g1 (by show 0≤x.deep;omega) (by show x.deep≤30;omega)
   obtain⟨f1,a,l1,τ,r1,k1,d1,v1⟩:=ih .pre (stepS x) (meas_at (by unfold stepS;simp;omega) hs.lt (by simp[rankJ])) s1 trivial
   have q1:τ.deep=x.deep:=d1
   have s2:St ts τ:=s1.go k1 (by omega) (by omega)
   obtain⟨X,hX⟩:∃X:Ex,X={ ex0 with kind:=prefixK ts x prefixL,a:=a,pos:=((tokL ts x.at_).at_:Int) }:=⟨_,rfl⟩
   have P:=((g1.trans k1).less (m:=0+1) (by omega)).put (x:=X) fun hz _=>hX ▸ good1 s2.small hkk (v1 hz)
   refine⟨f1+1,(τ.exprs.length:Int),[],leaveS (putS X τ),?_,go_zero ((ge.trans P).trans (go_leave P.lt)),by show τ.deep-1=σ.deep;omega,leave_ix (ix_put X τ)⟩
   rw[runE_go hs.ok]
   simp only[preG]
   rw[←hx,if_pos h0,if_neg hk,runE_le (f:=f1) (by omega) _ _ _ r1]
   simp only[Option.bind_some]
   rw[putA_ok s2.ok,hX]
 ·refine⟨1,0,[],leaveS x,?_,go_zero (ge.trans (go_leave ge.lt)),by show x.deep-1=σ.deep;omega,fun hz=>absurd hz h0⟩
  rw[runE_go hs.ok]
  simp only[preG]
  rw[←hx,if_neg h0]
omit he in
theorem tot_bin {least:Nat} {σ:RS} (hs:St ts σ) (h1:1≤least) (h6:least≤6) (ih:∀j' σ',meas ts j' σ'<meas ts (.bin least) σ→St ts σ'→JobOk σ' j'→Res ts j' σ'):Res ts (.bin least) σ:=by
 have hd0:=hs.d0
 have hd30:=hs.d30
 by_cases h5:5<least
 ·obtain⟨f1,a,l1,τ,r1,k1,d1,v1⟩:=ih .pre σ (meas_rank (qL _) rfl (by simp[rankJ];omega)) hs trivial
  refine⟨f1+1,a,l1,τ,?_,k1,d1,v1⟩
  rw[runE_go hs.ok]
  simp only[binG]
  rw[if_pos h5,r1]
 ·obtain⟨f1,a,l1,τ,r1,k1,d1,v1⟩:=ih (.bin (least+1)) σ (meas_rank (qL _) rfl (by simp[rankJ];omega)) hs ⟨by omega,by omega⟩
  have s1:St ts τ:=hs.go k1 (by omega) (by omega)
  obtain⟨f2,c,l2,υ,r2,k2,d2,v2⟩:=ih (.loop least a) τ (meas_rank k1.at_ d1 (by simp[rankJ];omega)) s1 ⟨h1,by omega,v1⟩
  refine⟨f1+f2+1,c,l2,υ,?_,go_zero (k1.trans k2),by omega,v2⟩
  rw[runE_go hs.ok]
  simp only[binG]
  rw[if_neg h5,runE_le (f:=f1) (by omega) _ _ _ r1]
  simp only[Option.bind_some]
  rw[runE_le (f:=f2) (by omega) _ _ _ r2]
theorem tot_loop {least:Nat} {a:Int} {σ:RS} (hs:St ts σ) (h1:1≤least) (h5:least≤5) (ha:IxOk σ a) (ih:∀j' σ',meas ts j' σ'<meas ts (.loop least a) σ→St ts σ'→JobOk σ' j'→Res ts j' σ'):Res ts (.loop least a) σ:=by
 have hd0:=hs.d0
 have hd30:=hs.d30
 by_cases h0:σ.code=0
 ·by_cases hl:(levelS ts σ).1=(least:Int)
  ·obtain⟨s,hi,hk1,hk2⟩:=levelS_some h1 hl
   have g1:=go_step' he hs.lt (isS_kind hi).1
   have s1:St ts (stepS σ):=hs.go g1 hd0 hd30
   obtain⟨f1,b,l1,τ,r1,k1,d1,v1⟩:=ih (.bin (least+1)) (stepS σ) (meas_at (by unfold stepS;simp) hs.lt (by simp[rankJ] <;> omega)) s1 ⟨by omega,by omega⟩
   have q1:τ.deep=σ.deep:=d1
   have s2:St ts τ:=s1.go k1 (by omega) (by omega)
   obtain⟨X,hX⟩:∃X:Ex,X={ ex0 with kind:=(levelS ts σ).2,a:=a,b:=b,pos:=((tokL ts σ.at_).at_:Int) }:=⟨_,rfl⟩
   have G:=g1.trans k1
   have P:=(G.less (m:=0+1) (by omega)).put (x:=X) fun hz _=>hX ▸ good2 s2.small (by omega) ((ha.go g1).go k1 hz) (v1 hz)
   have s3:St ts (putS X τ):=hs.go P (by show 0≤τ.deep;omega) (by show τ.deep≤30;omega)
   by_cases h3:least=3
   ·refine⟨f1+1,(τ.exprs.length:Int),[],putS X τ,?_,P,q1,ix_put X τ⟩
    rw[runE_go hs.ok]
    simp only[loopG]
    rw[if_pos h0,if_pos hl,runE_le (f:=f1) (by omega) _ _ _ r1]
    simp only[Option.bind_some]
    rw[putA_ok s2.ok,if_pos h3,hX]
   ·obtain⟨f2,c,l2,υ,r2,k2,d2,v2⟩:=ih (.loop least (τ.exprs.length:Int)) (putS X τ) (meas_at (by have:=G.at_;have:=G.room;have:=G.more;show σ.at_<τ.at_;omega) hs.lt (by simp[rankJ])) s3 ⟨h1,h5,ix_put X τ⟩
    refine⟨f1+f2+1,c,l2,υ,?_,go_zero (P.trans k2),by rw[d2];exact q1,v2⟩
    rw[runE_go hs.ok]
    simp only[loopG]
    rw[if_pos h0,if_pos hl,runE_le (f:=f1) (by omega) _ _ _ r1]
    simp only[Option.bind_some]
    rw[putA_ok s2.ok,if_neg h3,←hX,runE_le (f:=f2) (by omega) _ _ _ r2]
  ·refine⟨1,a,[],σ,?_,Go.refl hs.lt,rfl,ha⟩
   rw[runE_go hs.ok]
   simp only[loopG]
   rw[if_pos h0,if_neg hl]
 ·refine⟨1,a,[],σ,?_,Go.refl hs.lt,rfl,ha⟩
  rw[runE_go hs.ok]
  simp only[loopG]
  rw[if_neg h0]
theorem tot_args {acc:List Int} {σ:RS} (hs:St ts σ) (hl:acc.length≤σ.at_) (ha:∀a ∈ acc,IxOk σ a) (ih:∀j' σ',meas ts j' σ'<meas ts (.args acc) σ→St ts σ'→JobOk σ' j'→Res ts j' σ'):Res ts (.args acc) σ:=by
 have hd0:=hs.d0
 have hd30:=hs.d30
 have hlen:acc.length≤40000:=by have:=hs.lt;have:=hs.len;omega
 by_cases hi:isS ts [44] σ=true
 ·have g1:=go_step' he hs.lt (isS_kind hi).1
  have s1:St ts (stepS σ):=hs.go g1 hd0 hd30
  obtain⟨f1,b,l1,τ,r1,k1,d1,v1⟩:=ih .expr (stepS σ) (meas_at (by unfold stepS;simp) hs.lt (by simp[rankJ])) s1 trivial
  have q1:τ.deep=σ.deep:=d1
  have s2:St ts τ:=s1.go k1 (by omega) (by omega)
  have G:=g1.trans k1
  have hat:σ.at_<τ.at_:=by have:=k1.at_;have:(stepS σ).at_=σ.at_+1:=rfl;omega
  obtain⟨f2,c,l2,υ,r2,k2,d2,v2⟩:=ih (.args (acc++[b])) τ (meas_at hat hs.lt (by simp[rankJ])) s2 ⟨by simp;omega,fun a h=>by
   rcases List.mem_append.1 h with h | h
   ·exact((ha a h).go g1).go k1
   ·obtain rfl:=List.mem_singleton.1 h;exact v1⟩
  refine⟨f1+f2+1,c,l2,υ,?_,go_zero (G.trans k2),by omega,v2⟩
  rw[runE_go hs.ok]
  simp only[argsG]
  rw[if_pos hlen,if_pos hi,runE_le (f:=f1) (by omega) _ _ _ r1]
  simp only[Option.bind_some]
  rw[runE_le (f:=f2) (by omega) _ _ _ r2]
 ·refine⟨1,0,acc,σ,?_,Go.refl hs.lt,rfl,hl,ha⟩
  rw[runE_go hs.ok]
  simp only[argsG]
  rw[if_pos hlen,if_neg hi]
include ht
theorem tot_atom {σ:RS} (hs:St ts σ) (h0:σ.code=0) (ih:∀j' σ',meas ts j' σ'<meas ts .atom σ→St ts σ'→JobOk σ' j'→Res ts j' σ'):Res ts .atom σ:=by
 have hd0:=hs.d0
 have hd30:=hs.d30
 obtain⟨t1,t2,t3⟩:=ht _ _ (tok_get hs.lt)
 have one:∀(X:Ex),(tokL ts σ.at_).kind≠5→GoodX X (stepS σ).exprs.length→Go ts 0 σ (putS X (stepS σ))∧okS (stepS σ)=true:=fun X hk hX =>
  have g1:=go_step' he hs.lt hk
  ⟨(g1.less (m:=0+1) (by omega)).put fun _ _=>hX,(hs.go g1 hd0 hd30).ok⟩
 have sml:(stepS σ).exprs.length≤30000:=hs.small
 by_cases k2:(tokL ts σ.at_).kind=2
 ·obtain⟨P,o⟩:=one { ex0 with kind:=1,v:=(tokL ts σ.at_).v,pos:=((tokL ts σ.at_).at_:Int) } (by omega) (goodN sml (t2 k2))
  refine⟨1,((stepS σ).exprs.length:Int),[],_,?_,P,rfl,ix_put _ _⟩
  rw[runE_go hs.ok]
  simp only[atomG]
  rw[if_pos k2,putA_ok o]
 by_cases i1:isS ts [116,114,117,101] σ=true
 ·obtain⟨P,o⟩:=one { ex0 with kind:=2,v:=1,pos:=((tokL ts σ.at_).at_:Int) } (isS_kind i1).1 (goodT sml)
  refine⟨1,((stepS σ).exprs.length:Int),[],_,?_,P,rfl,ix_put _ _⟩
  rw[runE_go hs.ok]
  simp only[atomG]
  rw[if_neg k2,if_pos i1,putA_ok o]
 by_cases i2:isS ts [102,97,108,115,101] σ=true
 ·obtain⟨P,o⟩:=one { ex0 with kind:=2,pos:=((tokL ts σ.at_).at_:Int) } (isS_kind i2).1 (goodF sml)
  refine⟨1,((stepS σ).exprs.length:Int),[],_,?_,P,rfl,ix_put _ _⟩
  rw[runE_go hs.ok]
  simp only[atomG]
  rw[if_neg k2,if_neg i1,if_pos i2,putA_ok o]
 by_cases k1:(tokL ts σ.at_).kind=1
 ·have g1:=go_step' he hs.lt (by omega)
  have s1:St ts (stepS σ):=hs.go g1 hd0 hd30
  have c1:(stepS σ).code=0:=h0
  by_cases i3:isS ts [105,115] (stepS σ)=true
  ·have g2:=go_step' he s1.lt (isS_kind i3).1
   have s2:St ts (stepS (stepS σ)):=s1.go g2 hd0 hd30
   have g3:=go_name he s2.lt
   have s3:St ts (nameS ts (stepS (stepS σ))):=s2.go g3 (by rw[name_deep];exact hd0) (by rw[name_deep];exact hd30)
   obtain⟨X,hX⟩:∃X:Ex,X={ ex0 with kind:=20,name:=str (tokL ts σ.at_).text,state:=str (nameV ts (stepS (stepS σ))),pos:=((tokL ts σ.at_).at_:Int) }:=⟨_,rfl⟩
   have G:=(g1.trans g2).trans g3
   have P:=(G.less (m:=0+1) (by omega)).put (x:=X) fun hz _=>by
    have hb:nameB ts (stepS (stepS σ))=true:=by
     by_cases hb:nameB ts (stepS (stepS σ))=true
     ·exact hb
     ·exfalso
      unfold nameS at hz
      rw[if_neg hb] at hz
      unfold failS at hz
      rw[if_pos (show(stepS (stepS σ)).code=0 from h0)] at hz
      exact absurd (show(2:Int)=0 from hz) (by decide)
    obtain⟨u1,u2,u3⟩:=ht _ _ (tok_get s2.lt)
    have hv:nameV ts (stepS (stepS σ))=(tokL ts (stepS (stepS σ)).at_).text:=by unfold nameV;rw[if_pos hb]
    have hk:(tokL ts (stepS (stepS σ)).at_).kind=1:=by
     unfold nameB at hb
     simp only[Bool.and_eq_true,decide_eq_true_eq] at hb
     exact hb.2
    rw[hX,hv]
    exact good_is s3.small (t1 k1) t3 (u1 hk) u3
   refine⟨1,((nameS ts (stepS (stepS σ))).exprs.length:Int),[],putS X (nameS ts (stepS (stepS σ))),?_,P,(name_deep ts _).trans rfl,ix_put _ _⟩
   rw[runE_go hs.ok]
   simp only[atomG]
   rw[if_neg k2,if_neg i1,if_neg i2,if_pos k1,if_pos i3,putA_ok s3.ok,hX]
  by_cases i4:isS ts [40] (stepS σ)=true
  ·have g2:=go_step' he s1.lt (isS_kind i4).1
   have s2:St ts (stepS (stepS σ)):=s1.go g2 hd0 hd30
   by_cases i5:isS ts [41] (stepS (stepS σ))=true
   ·have g3:=go_step' he s2.lt (isS_kind i5).1
    have s3:St ts (stepS (stepS (stepS σ))):=s2.go g3 hd0 hd30
    obtain⟨X,hX⟩:∃X:Ex,X={ ex0 with kind:=19,name:=str (tokL ts σ.at_).text,pos:=((tokL ts σ.at_).at_:Int) }:=⟨_,rfl⟩
    have P:=(((g1.trans g2).trans g3).less (m:=0+1) (by omega)).put (x:=X) fun hz _=>hX ▸ good_call (al:=[]) s3.small (t1 k1) t3 (by simp) (fun x hx=>by cases hx)
    refine⟨1,((stepS (stepS (stepS σ))).exprs.length:Int),[],putS X (stepS (stepS (stepS σ))),?_,P,rfl,ix_put _ _⟩
    rw[runE_go hs.ok]
    simp only[atomG]
    rw[if_neg k2,if_neg i1,if_neg i2,if_pos k1,if_neg i3,if_pos i4,if_pos i5,putA_ok s3.ok,hX]
   ·obtain⟨f1,a,l1,τ,r1,m1,d1,v1⟩:=ih .expr (stepS (stepS σ)) (meas_at (by show σ.at_<σ.at_+1+1;omega) hs.lt (by simp[rankJ])) s2 trivial
    have q1:τ.deep=σ.deep:=d1
    have s3:St ts τ:=s2.go m1 (by omega) (by omega)
    have hat:σ.at_+2≤τ.at_:=by have:=m1.at_;have:(stepS (stepS σ)).at_=σ.at_+1+1:=rfl;omega
    obtain⟨f2,c,l2,υ,r2,m2,d2,v2,w2⟩:=ih (.args [a]) τ (meas_at (by omega) hs.lt (by simp[rankJ])) s3 ⟨by simp;omega,fun x hx=>by obtain rfl:=List.mem_singleton.1 hx;exact v1⟩
    have q2:υ.deep=σ.deep:=by omega
    have s4:St ts υ:=s3.go m2 (by omega) (by omega)
    have g4:=go_want he s4.lt [41]
    have s5:St ts (wantS ts [41] υ):=s4.go g4 (by rw[want_deep];omega) (by rw[want_deep];omega)
    obtain⟨X,hX⟩:∃X:Ex,X={ ex0 with kind:=19,name:=str (tokL ts σ.at_).text,args:=l2,pos:=((tokL ts σ.at_).at_:Int) }:=⟨_,rfl⟩
    have G:=(((g1.trans g2).trans m1).trans m2).trans g4
    have P:=(G.less (m:=0+1) (by omega)).put (x:=X) fun hz _=>hX ▸ good_call s5.small (t1 k1) t3 (by have:=s4.lt;have:=s4.len;omega) fun x hx=>(w2 x hx).go g4 hz
    refine⟨f1+f2+1,((wantS ts [41] υ).exprs.length:Int),[],putS X (wantS ts [41] υ),?_,P,(want_deep ts _ _).trans q2,ix_put _ _⟩
    rw[runE_go hs.ok]
    simp only[atomG]
    rw[if_neg k2,if_neg i1,if_neg i2,if_pos k1,if_neg i3,if_pos i4,if_neg i5,runE_le (f:=f1) (by omega) _ _ _ r1]
    simp only[Option.bind_some]
    rw[runE_le (f:=f2) (by omega) _ _ _ r2]
    simp only[Option.bind_some]
    rw[putA_ok s5.ok,hX]
  ·obtain⟨P,o⟩:=one { ex0 with kind:=3,name:=str (tokL ts σ.at_).text,pos:=((tokL ts σ.at_).at_:Int) } (by omega) (good_nm sml (t1 k1) t3)
   refine⟨1,((stepS σ).exprs.length:Int),[],_,?_,P,rfl,ix_put _ _⟩
   rw[runE_go hs.ok]
   simp only[atomG]
   rw[if_neg k2,if_neg i1,if_neg i2,if_pos k1,if_neg i3,if_neg i4,putA_ok o]
 ·have g1:=go_want he hs.lt [40]
  have s1:St ts (wantS ts [40] σ):=hs.go g1 (by rw[want_deep];exact hd0) (by rw[want_deep];exact hd30)
  obtain⟨f1,a,l1,τ,r1,m1,d1,v1⟩:=ih .expr _ (meas_rank g1.at_ (want_deep ts _ _) (by simp[rankJ])) s1 trivial
  have g2:=go_want he m1.lt [41]
  refine⟨f1+1,a,[],wantS ts [41] τ,?_,go_zero ((g1.trans m1).trans g2),by rw[want_deep,d1,want_deep],IxOk.go v1 g2⟩
  rw[runE_go hs.ok]
  simp only[atomG]
  rw[if_neg k2,if_neg i1,if_neg i2,if_neg k1,r1]
  rfl
theorem tot_all:∀(M:Nat) (j:Job) (σ:RS),meas ts j σ≤M→St ts σ→JobOk σ j→Res ts j σ:=by
 intro M
 induction M with
 | zero =>
  intro j σ hm hs hj
  exfalso
  unfold meas at hm
  have:=hs.lt
  have h2:1*1024≤(ts.length - σ.at_)*1024:=Nat.mul_le_mul_right _ (by omega)
  omega
 | succ M ih =>
  intro j σ hm hs hj
  have ih':∀j' σ',meas ts j' σ'<meas ts j σ→St ts σ'→JobOk σ' j'→Res ts j' σ':=fun j' σ' h=>ih j' σ' (by omega)
  cases j with
  | expr=>exact tot_expr he hs ih'
  | pre=>exact tot_pre he hs ih'
  | atom=>exact tot_atom he ht hs hj ih'
  | bin least=>exact tot_bin hs hj.1 hj.2 ih'
  | loop least a=>exact tot_loop he hs hj.1 hj.2.1 hj.2.2 ih'
  | args acc=>exact tot_args he hs hj.1 hj.2 ih'
theorem expr_ends {σ:RS} (hs:St ts σ):∃f v τ,exprS' ts f σ=some (v,τ)∧Go ts 0 σ τ∧τ.deep=σ.deep∧IxOk τ v:=by
 obtain⟨f,v,l,τ,h1,h2,h3,h4⟩:=tot_all he ht _ .expr σ (qL _) hs trivial
 exact⟨f,v,τ,by unfold exprS';rw[h1];rfl,h2,h3,h4⟩
end
theorem exprS_le {ts:List Tok} {f f':Nat} (h:f≤f') {σ:RS} {r:Int×RS} (hr:exprS ts f σ=some r):exprS ts f' σ=some r:=by
 unfold exprS at hr ⊢
 cases h1:runE ts f .expr σ with
 | none=>rw[h1] at hr;cases hr
 | some x=>rw[runE_le h _ _ _ h1];rw[h1] at hr;exact hr
theorem ebind_le {α:Type} {ts:List Tok} {f f':Nat} (h:f≤f') {σ:RS} {k k':Int×RS→Option α} {R:α} (hr:(exprS ts f σ).bind k=some R) (hk:∀x r,k x=some r→k' x=some r):(exprS ts f' σ).bind k'=some R :=
 bind_le hr (fun x hx=>exprS_le h hx) hk
theorem statesL_le {ts:List Tok}:∀{f f':Nat},f≤f'→∀{acc:List ByteArray} {σ:RS} {r:List ByteArray×RS},statesL ts f acc σ=some r→statesL ts f' acc σ=some r:=by
 intro f
 induction f with
 | zero=>intro f' _ acc σ r h;cases h
 | succ f ih =>
  intro f' hf acc σ r h
  obtain⟨g,rfl⟩:∃g,f'=g+1:=⟨f'-1,by omega⟩
  simp only[statesL] at h ⊢
  split at h
  ·rename_i h1;rw[if_pos h1]
   split at h
   ·rename_i h2;rw[if_pos h2];exact ih (by omega) h
   ·rename_i h2;rw[if_neg h2];exact h
  ·cases h
theorem parsL_le {ts:List Tok}:∀{f f':Nat},f≤f'→∀{acc:List Pa} {σ:RS} {r:List Pa×RS},parsL ts f acc σ=some r→parsL ts f' acc σ=some r:=by
 intro f
 induction f with
 | zero=>intro f' _ acc σ r h;cases h
 | succ f ih =>
  intro f' hf acc σ r h
  obtain⟨g,rfl⟩:∃g,f'=g+1:=⟨f'-1,by omega⟩
  simp only[parsL] at h ⊢
  split at h
  ·rename_i h1;rw[if_pos h1]
   split at h
   ·rename_i h2;rw[if_pos h2]
    split at h
    ·rename_i h3;rw[if_pos h3];exact ih (by omega) h
    ·rename_i h3;rw[if_neg h3];exact h
   ·rename_i h2;rw[if_neg h2];exact h
  ·cases h
theorem paramsS_le {ts:List Tok} {f f':Nat} (h:f≤f') {σ:RS} {r:List Pa×RS} (hr:paramsS ts f σ=some r):paramsS ts f' σ=some r:=by
 unfold paramsS at hr ⊢
 split at hr
 ·rename_i h1;rw[if_pos h1];exact hr
 ·rename_i h1;rw[if_neg h1];exact parsL_le h hr
theorem itemS_le {ts:List Tok} {f f':Nat} (h:f≤f') {all:Bool} {σ:RS} {r:It×Bool×RS} (hr:itemS ts f all σ=some r):itemS ts f' all σ=some r:=by
 unfold itemS at hr ⊢
 split at hr
 ·rename_i h1;rw[if_pos h1];unfold iLet at hr ⊢;exact ebind_le h hr fun _ _ h=>h
 rename_i h1;rw[if_neg h1]
 split at hr
 ·rename_i h2;rw[if_pos h2]
  split at hr
  ·rename_i h3;rw[if_pos h3];unfold iDer at hr ⊢;exact ebind_le h hr fun _ _ hr=>ebind_le h hr fun _ _ h=>h
  rename_i h3;rw[if_neg h3]
  split at hr
  ·rename_i h4;rw[if_pos h4];unfold iReset at hr ⊢;exact ebind_le h hr fun _ _ hr=>ebind_le h hr fun _ _ h=>h
  rename_i h4;rw[if_neg h4]
  split at hr
  ·rename_i h5;rw[if_pos h5];unfold iMem at hr ⊢;exact ebind_le h hr fun _ _ h=>h
  rename_i h5;rw[if_neg h5]
  split at hr
  ·rename_i h6;rw[if_pos h6];unfold iOn at hr ⊢;exact ebind_le h hr fun _ _ hr=>ebind_le h hr fun _ _ h=>h
  rename_i h6;rw[if_neg h6]
  split at hr
  ·rename_i h7;rw[if_pos h7];unfold iMode at hr ⊢;exact bind_le hr (fun x hx=>statesL_le h hx) fun _ _ h=>h
  rename_i h7;rw[if_neg h7]
  split at hr
  ·rename_i h8;rw[if_pos h8];unfold iFrom at hr ⊢;exact ebind_le h hr fun _ _ h=>h
  rename_i h8;rw[if_neg h8]
  split at hr
  ·rename_i h9;rw[if_pos h9];exact hr
  rename_i h9;rw[if_neg h9];exact hr
 ·rename_i h2;rw[if_neg h2];exact hr
theorem itsL_le {ts:List Tok} {all:Bool} {f f':Nat} (hf:f≤f'):∀{n n':Nat},n≤n'→∀{acc:List It} {σ:RS} {r:List It×RS},itsL ts f all n acc σ=some r→itsL ts f' all n' acc σ=some r:=by
 intro n
 induction n with
 | zero=>intro n' _ acc σ r h;cases h
 | succ n ih =>
  intro n' hn acc σ r h
  obtain⟨g,rfl⟩:∃g,n'=g+1:=⟨n'-1,by omega⟩
  simp only[itsL] at h ⊢
  split at h
  ·rename_i h1;rw[if_pos h1]
   split at h
   ·rename_i h2;rw[if_pos h2]
    refine bind_le h (fun x hx=>itemS_le hf hx) fun x r h=>?_
    split at h
    ·rename_i h3;rw[if_pos h3];exact ih (by omega) h
    ·rename_i h3;rw[if_neg h3];exact h
   ·rename_i h2;rw[if_neg h2];exact h
  ·cases h
theorem declS_le {ts:List Tok} {f f':Nat} (h:f≤f') {σ:RS} {r:De×RS} (hr:declS ts f σ=some r):declS ts f' σ=some r:=by
 unfold declS at hr ⊢
 split at hr
 ·rename_i h1;rw[if_pos h1];exact bind_le hr (fun _ hx=>paramsS_le h hx) fun _ _ hr=>ebind_le h hr fun _ _ h=>h
 rename_i h1;rw[if_neg h1]
 split at hr
 ·rename_i h2;rw[if_pos h2];exact bind_le hr (fun _ hx=>paramsS_le h hx) fun _ _ hr=>bind_le hr (fun _ hx=>itsL_le h h hx) fun _ _ hr=>ebind_le h hr fun _ _ h=>h
 ·rename_i h2;rw[if_neg h2];exact bind_le hr (fun _ hx=>paramsS_le h hx) fun _ _ hr=>bind_le hr (fun _ hx=>itsL_le h h hx) fun _ _ h=>h
theorem declsG_le {ts:List Tok} {f f':Nat} (hf:f≤f'):∀{n n':Nat},n≤n'→∀{acc:List De} {σ:RS} {r:List De×RS},declsG ts f n acc σ=some r→declsG ts f' n' acc σ=some r:=by
 intro n
 induction n with
 | zero=>intro n' _ acc σ r h;cases h
 | succ n ih =>
  intro n' hn acc σ r h
  obtain⟨g,rfl⟩:∃g,n'=g+1:=⟨n'-1,by omega⟩
  simp only[declsG] at h ⊢
  split at h
  ·rename_i h1;rw[if_pos h1]
   split at h
   ·rename_i h2;rw[if_pos h2]
    split at h
    ·rename_i h3;rw[if_pos h3];exact h
    ·rename_i h3;rw[if_neg h3];exact bind_le h (fun _ hx=>declS_le hf hx) fun _ _ h=>ih (by omega) h
   ·rename_i h2;rw[if_neg h2];exact h
  ·cases h
end Go.Proofs.YtpfmlfcaadnnpaaGreatDoor
