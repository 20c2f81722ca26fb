import Derived.Test.YtpfmlfcaadnnpaaDoorPb12
import Derived.Deep.RegionHeld3
import Derived.Deep.CutRange
import Derived.RangeFuncBox
import Derived.Maps.AppendAt
set_option maxHeartbeats 16000000
set_option maxRecDepth 100000
set_option linter.unusedVariables false
open Go.Proofs.Tryd(prog)
namespace Go.Proofs.YtpfmlfcaadnnpaaDoor
open Go.RowKit Lx
structure Two (n:Nat) (k:Int) (σ σ':RS):Prop where
 at_:σ'.at_=σ.at_
 exprs:σ'.exprs=σ.exprs
 deep:σ'.deep=σ.deep+k
 c0:σ.code=0
 c1:σ'.code=0
 le:σ.at_≤n
theorem dput_some {x:Ex} {σ:RS} {K:Int→RS→Ans} {R:Int×List Int×RS} (h:putA x σ K=some R):okS σ=true∧K (σ.exprs.length:Int) (putS x σ)=some R:=by
 unfold putA at h
 split at h
 ·rename_i hk;exact⟨hk,h⟩
 ·cases h
theorem three {σ τ:RS} (h:Stays σ τ) (h3:σ.code=3):τ.code=3:=(h (by rw[h3];decide)).1.trans h3
theorem zero {σ τ:RS} (h:Stays σ τ) (h0:τ.code=0):σ.code=0:=by
 rcases Int.decEq σ.code 0 with hc | hc
 ·have:=(h hc).1
  rw[h0] at this
  exact absurd this.symm hc
 ·exact hc
def Out (n:Nat) (k:Int) (a a':Int×List Int×RS):Prop:=(a'.2.2.code=3∧k≠0)∨(a'.1=a.1∧a'.2.1=a.2.1∧Two n k a.2.2 a'.2.2)
section
variable {us vs:List Tok} {e c:Tok} (he:e.kind=5) (hk:c.kind=4) (ht:c.text=[41]) {k:Int}
theorem tok_lt {i:Nat} (h:i<us.length):tokL (us++c :: vs) i=tokL (us++[e]) i:=by
 unfold tokL
 rw[List.getD_eq_getElem?_getD,List.getD_eq_getElem?_getD,List.getElem?_append_left h,List.getElem?_append_left h]
theorem tok_e:tokL (us++[e]) us.length=e:=by unfold tokL;simp
theorem tok_c:tokL (us++c :: vs) us.length=c:=by unfold tokL;simp
include he in
theorem lt_of_kind {σ:RS} (h:σ.at_≤us.length) (hn:(tokL (us++[e]) σ.at_).kind≠5):σ.at_<us.length:=by
 rcases Nat.lt_or_ge σ.at_ us.length with h1 | h1
 ·exact h1
 ·have h2:σ.at_=us.length:=by omega
  rw[h2,tok_e] at hn
  exact absurd he hn
include he in
theorem lt_of_isS {s:List UInt8} {σ:RS} (h:σ.at_≤us.length) (hn:isS (us++[e]) s σ=true):σ.at_<us.length:=lt_of_kind he h (isS_kind hn).1
theorem isS_lt {s:List UInt8} {σ σ':RS} (r:Two us.length k σ σ') (h:σ.at_<us.length):isS (us++c :: vs) s σ'=isS (us++[e]) s σ:=by
 unfold isS
 rw[r.at_,tok_lt (e:=e) h,r.c0,r.c1]
include he hk ht in
theorem isS_two {s:List UInt8} (hs:s≠[41]) {σ σ':RS} (r:Two us.length k σ σ'):isS (us++c :: vs) s σ'=isS (us++[e]) s σ:=by
 rcases Nat.lt_or_ge σ.at_ us.length with h | h
 ·exact isS_lt r h
 ·have h2:σ.at_=us.length:=by have:=r.le;omega
  unfold isS
  rw[r.at_,h2,tok_e,tok_c,he,hk,ht,r.c0,r.c1]
  have:([41] ==s)=false:=by simpa using fun h=>hs h.symm
  simp[this]
theorem Two.step {σ σ':RS} (r:Two us.length k σ σ') (h:σ.at_<us.length):Two us.length k (stepS σ) (stepS σ') :=
 ⟨by unfold stepS;show σ'.at_+1=σ.at_+1;rw[r.at_],r.exprs,r.deep,r.c0,r.c1,h⟩
theorem Two.leave {n:Nat} {σ σ':RS} (r:Two n k σ σ'):Two n k (leaveS σ) (leaveS σ') :=
 ⟨r.at_,r.exprs,by unfold leaveS;show σ'.deep-1=σ.deep-1+k;rw[r.deep];omega,r.c0,r.c1,r.le⟩
theorem Two.put {n:Nat} {σ σ':RS} (r:Two n k σ σ') {x x':Ex} (hx:x'=x):Two n k (putS x σ) (putS x' σ') :=
 ⟨r.at_,by subst hx;unfold putS;show σ'.exprs++_=σ.exprs++_;rw[r.exprs],r.deep,r.c0,r.c1,r.le⟩
theorem want_zero {ts:List Tok} {s:List UInt8} {σ:RS} (h:(wantS ts s σ).code=0):isS ts s σ=true∧wantS ts s σ=stepS σ:=by
 unfold wantS at h ⊢
 split at h
 ·rename_i hi;exact⟨hi,by rw[if_pos hi]⟩
 ·unfold failS at h
  split at h
  ·cases h
  ·rename_i hc;exact absurd h hc
include he in
theorem Two.want {s:List UInt8} {σ σ':RS} (r:Two us.length k σ σ') (h:(wantS (us++[e]) s σ).code=0):Two us.length k (wantS (us++[e]) s σ) (wantS (us++c :: vs) s σ'):=by
 obtain⟨hi,e1⟩:=want_zero h
 have hl:=lt_of_isS he r.le hi
 have e2:wantS (us++c :: vs) s σ'=stepS σ':=by unfold wantS;rw[isS_lt r hl (e:=e),if_pos hi]
 rw[e1,e2]
 exact r.step hl
theorem name_zero {ts:List Tok} {σ:RS} (h:(nameS ts σ).code=0):nameB ts σ=true∧nameS ts σ=stepS σ:=by
 unfold nameS at h ⊢
 split at h
 ·rename_i hi;exact⟨hi,by rw[if_pos hi]⟩
 ·unfold failS at h
  split at h
  ·cases h
  ·rename_i hc;exact absurd h hc
include he in
theorem Two.name {σ σ':RS} (r:Two us.length k σ σ') (h:(nameS (us++[e]) σ).code=0):Two us.length k (nameS (us++[e]) σ) (nameS (us++c :: vs) σ')∧nameV (us++c :: vs) σ'=nameV (us++[e]) σ:=by
 obtain⟨hi,e1⟩:=name_zero h
 have hl:σ.at_<us.length:=by
  refine lt_of_kind he r.le ?_
  unfold nameB at hi
  simp only[Bool.and_eq_true,decide_eq_true_eq] at hi
  omega
 have hb:nameB (us++c :: vs) σ'=nameB (us++[e]) σ:=by unfold nameB;rw[r.at_,tok_lt (e:=e) hl,r.c0,r.c1]
 have e2:nameS (us++c :: vs) σ'=stepS σ':=by unfold nameS;rw[hb,if_pos hi]
 refine⟨by rw[e1,e2];exact r.step hl,?_⟩
 unfold nameV
 rw[hb,r.at_,tok_lt (e:=e) hl]
theorem Two.enter {ts ts':List Tok} {n:Nat} {σ σ':RS} (r:Two n k σ σ') (h:(enterS ts σ).code=0):((enterS ts' σ').code=3∧k≠0)∨Two n k (enterS ts σ) (enterS ts' σ'):=by
 unfold enterS at h ⊢
 dsimp only at h ⊢
 by_cases h1:tooDeep σ=true
 ·rw[if_pos h1] at h
  unfold failS at h
  rw[if_pos r.c0] at h
  cases h
 ·rw[if_neg h1]
  by_cases h2:tooDeep σ'=true
  ·left
   refine⟨by rw[if_pos h2];unfold failS;rw[if_pos r.c1],fun h3=>h1 ?_⟩
   have hd:=r.deep
   rw[h3,Int.add_zero] at hd
   unfold tooDeep at h2 ⊢
   rw[hd,r.c1] at h2
   rw[r.c0]
   exact h2
  ·right
   rw[if_neg h2]
   exact⟨r.at_,r.exprs,by show σ'.deep+1=σ.deep+1+k;rw[r.deep];omega,r.c0,r.c1,r.le⟩
include he hk ht in
theorem levelS_two {σ σ':RS} (r:Two us.length k σ σ'):levelS (us++c :: vs) σ'=levelS (us++[e]) σ:=by
 unfold levelS levelIn levelsL
 simp only[List.find?_cons,List.find?_nil,isS_two he hk ht (show([111,114]:List UInt8)≠[41] by decide) r,isS_two he hk ht (show([97,110,100]:List UInt8)≠[41] by decide) r,isS_two he hk ht (show([60]:List UInt8)≠[41] by decide) r,isS_two he hk ht (show([60,61]:List UInt8)≠[41] by decide) r,isS_two he hk ht (show([61,61]:List UInt8)≠[41] by decide) r,isS_two he hk ht (show([43]:List UInt8)≠[41] by decide) r,isS_two he hk ht (show([45]:List UInt8)≠[41] by decide) r,isS_two he hk ht (show([42]:List UInt8)≠[41] by decide) r,isS_two he hk ht (show([47]:List UInt8)≠[41] by decide) r]
include he hk ht in
theorem prefixK_two {σ σ':RS} (r:Two us.length k σ σ'):prefixK (us++c :: vs) σ' prefixL=prefixK (us++[e]) σ prefixL:=by
 unfold prefixK prefixL
 simp only[List.find?_cons,List.find?_nil,isS_two he hk ht (show([45]:List UInt8)≠[41] by decide) r,isS_two he hk ht (show([110,111,116]:List UInt8)≠[41] by decide) r,isS_two he hk ht (show([112,114,101]:List UInt8)≠[41] by decide) r,isS_two he hk ht (show([115,113,114,116]:List UInt8)≠[41] by decide) r]
theorem find_isS {ts:List Tok} {σ:RS} {α:Type}:∀{l:List (List UInt8×α)} {p:List UInt8×α},(l.find? fun p=>isS ts p.1 σ)=some p→isS ts p.1 σ=true:=fun h=>by simpa using List.find?_some h
include he in
theorem lt_of_level {σ:RS} (h:σ.at_≤us.length) (hn:(levelS (us++[e]) σ).1≠0):σ.at_<us.length:=by
 unfold levelS levelIn at hn
 split at hn
 ·rename_i p hp;exact lt_of_isS he h (find_isS hp)
 ·exact absurd rfl hn
include he in
theorem lt_of_prefix {σ:RS} (h:σ.at_≤us.length) (hn:prefixK (us++[e]) σ prefixL≠0):σ.at_<us.length:=by
 unfold prefixK at hn
 split at hn
 ·rename_i p hp;exact lt_of_isS he h (find_isS hp)
 ·exact absurd rfl hn
def JEx:Job→Prop
 | .loop _ _=>False
 | .args _=>False
 | _=>True
include he in
theorem end_isS {σ:RS} (h:σ.at_=us.length) (s:List UInt8):isS (us++[e]) s σ=false:=by
 cases hq:isS (us++[e]) s σ with
 | false=>rfl
 | true=>exact absurd (lt_of_isS he (Nat.le_of_eq h) hq) (by omega)
theorem enter_at (ts:List Tok) (σ:RS):(enterS ts σ).at_=σ.at_:=by unfold enterS failS;dsimp only;split <;> (try split) <;> rfl
include he in
theorem end_bad:∀(f:Nat) (j:Job) (σ:RS) (a:Int×List Int×RS),JEx j→σ.at_=us.length→runE (us++[e]) f j σ=some a→a.2.2.code≠0:=by
 intro f
 induction f with
 | zero=>intro j σ a _ _ h;cases h
 | succ f ih =>
  intro j σ a hj ha h
  simp only[runE] at h
  split at h
  case isFalse=>cases h
  have hx:(enterS (us++[e]) σ).at_=us.length:=by rw[enter_at];exact ha
  cases j with
  | expr =>
   dsimp only at h
   unfold exprG at h
   dsimp only at h
   split at h
   case isFalse hc=>obtain rfl:=qI h;exact hc
   rw[if_neg (by rw[end_isS he hx];decide)] at h
   obtain⟨a1,h1,h⟩:=bind_some' h
   have z1:=ih _ _ _ (by exact True.intro) hx h1
   rw[isS_bad z1,if_neg (by simp),isS_bad z1,if_neg (by simp)] at h
   split at h
   case isFalse=>cases h
   obtain rfl:=qI h
   exact z1
  | pre =>
   dsimp only at h
   unfold preG at h
   dsimp only at h
   split at h
   case isFalse hc=>obtain rfl:=qI h;exact hc
   split at h
   ·obtain⟨a1,h1,h⟩:=bind_some' h
    have z1:=ih _ _ _ (by exact True.intro) hx h1
    split at h
    case isFalse=>cases h
    obtain rfl:=qI h
    exact z1
   ·rename_i hi
    exact absurd (lt_of_prefix he (Nat.le_of_eq hx) hi) (by omega)
  | bin least =>
   dsimp only at h
   unfold binG at h
   split at h
   ·exact ih _ _ _ (by exact True.intro) ha h
   ·obtain⟨a1,h1,h⟩:=bind_some' h
    have z1:=ih _ _ _ (by exact True.intro) ha h1
    intro h0
    exact z1 (zero (stuck _ _ _ _ _ h) h0)
  | loop least v=>exact hj.elim
  | args acc=>exact hj.elim
  | atom =>
   dsimp only at h
   unfold atomG at h
   dsimp only at h
   have hk5:(tokL (us++[e]) σ.at_).kind=5:=by rw[ha,tok_e,he]
   rw[if_neg (by rw[hk5];decide),if_neg (by rw[end_isS he ha];decide),if_neg (by rw[end_isS he ha];decide),if_neg (by rw[hk5];decide)] at h
   obtain⟨a1,h1,h⟩:=bind_some' h
   obtain rfl:=qI h
   intro h0
   have zw:=zero ((stuck _ _ _ _ _ h1).trans (stays_want _ _ _)) h0
   have h2:=(want_zero zw).1
   rw[end_isS he ha] at h2
   cases h2
def JOk:Job→Prop
 | .bin l=>1≤l
 | .loop l _=>1≤l
 | _=>True
theorem Out.mk' {n:Nat} {v v':Int} {l l':List Int} {τ τ':RS} (h1:v'=v) (h2:l'=l) (r:Two n k τ τ'):Out n k (v,l,τ) (v',l',τ'):=.inr ⟨h1,h2,r⟩
theorem Out.bad {n:Nat} {a a':Int×List Int×RS} {σ:RS} (h:Stays σ a'.2.2) (h3:σ.code=3∧k≠0):Out n k a a':=.inl ⟨three h h3.1,h3.2⟩
include he hk ht in
theorem sim_all:∀(f:Nat) (j:Job) (σ:RS) (a:Int×List Int×RS),JOk j→runE (us++[e]) f j σ=some a→a.2.2.code=0→∀(f':Nat) (σ':RS) (a':Int×List Int×RS),Two us.length k σ σ'→runE (us++c :: vs) f' j σ'=some a'→Out us.length k a a':=by
 intro f
 induction f with
 | zero=>intro j σ a _ h;cases h
 | succ f ih =>
  intro j σ a hj h h0 f' σ' a' r h'
  have S0:=stuck (us++[e])
  have S1:=stuck (us++c :: vs)
  cases f' with
  | zero=>cases h'
  | succ f' =>
   simp only[runE] at h h'
   split at h
   case isFalse=>cases h
   split at h'
   case isFalse=>cases h'
   cases j with
   | expr =>
    dsimp only at h h'
    unfold exprG at h h'
    dsimp only at h h'
    split at h
    case isFalse hc =>
     obtain rfl:=qI h
     exact absurd h0 hc
    rename_i hx0
    rcases r.enter (ts':=us++c :: vs) hx0 with h3 | rx
    ·rw[if_neg (by rw[h3.1];decide)] at h'
     obtain rfl:=qI h'
     exact .inl h3
    rw[if_pos rx.c1,isS_two he hk ht (by decide) rx] at h'
    split at h
    ·rename_i hi
     rw[if_pos hi] at h'
     have hl:=lt_of_isS he rx.le hi
     obtain⟨a1,h1,h⟩:=bind_some' h
     obtain⟨a2,h2,h⟩:=bind_some' h
     obtain⟨a3,h4,h⟩:=bind_some' h
     obtain⟨_,h⟩:=dput_some h
     obtain rfl:=qI h
     obtain⟨b1,g1,h'⟩:=bind_some' h'
     obtain⟨b2,g2,h'⟩:=bind_some' h'
     obtain⟨b3,g4,h'⟩:=bind_some' h'
     obtain⟨_,h'⟩:=dput_some h'
     obtain rfl:=qI h'
     have z3:a3.2.2.code=0:=h0
     have zw3:=zero (S0 _ _ _ _ h4) z3
     have z2:=zero (stays_want _ _ _) zw3
     have zw2:=zero (S0 _ _ _ _ h2) z2
     have z1:=zero (stays_want _ _ _) zw2
     have t3:Stays b3.2.2 (leaveS (putS { ex0 with kind:=15,a:=b1.1,b:=b2.1,c:=b3.1,pos:=((tokL (us++c :: vs) (enterS (us++c :: vs) σ').at_).at_:Int) } b3.2.2)):=fun _=>⟨rfl,rfl⟩
     rcases ih _ _ _ (by exact True.intro) h1 z1 _ _ _ (rx.step hl) g1 with x3 | ⟨e1,_,r1⟩
     ·exact .bad ((stays_want _ _ _).trans ((S1 _ _ _ _ g2).trans ((stays_want _ _ _).trans ((S1 _ _ _ _ g4).trans t3)))) x3
     rcases ih _ _ _ (by exact True.intro) h2 z2 _ _ _ (r1.want he zw2) g2 with x3 | ⟨e2,_,r2⟩
     ·exact .bad ((stays_want _ _ _).trans ((S1 _ _ _ _ g4).trans t3)) x3
     rcases ih _ _ _ (by exact True.intro) h4 z3 _ _ _ (r2.want he zw3) g4 with x3 | ⟨e3,_,r3⟩
     ·exact .bad t3 x3
     exact .mk' (by rw[r3.exprs]) rfl (Two.leave (r3.put (by rw[e1,e2,e3,rx.at_,tok_lt (e:=e) hl])))
    ·rename_i hi
     rw[if_neg hi] at h'
     obtain⟨a1,h1,h⟩:=bind_some' h
     obtain⟨b1,g1,h'⟩:=bind_some' h'
     try dsimp only at h h'
     have z1:a1.2.2.code=0:=by
      split at h
      ·obtain⟨a2,h2,h⟩:=bind_some' h
       obtain⟨_,h⟩:=dput_some h
       obtain rfl:=qI h
       exact zero ((stays_step _).trans (S0 _ _ _ _ h2)) h0
      ·split at h
       ·obtain⟨a2,h2,h⟩:=bind_some' h
        obtain⟨_,h⟩:=dput_some h
        obtain rfl:=qI h
        exact zero ((stays_step _).trans (S0 _ _ _ _ h2)) h0
       ·split at h
        ·obtain rfl:=qI h
         exact h0
        ·cases h
     rcases ih _ _ _ (by exact qL 1) h1 z1 _ _ _ rx g1 with x3 | ⟨e1,_,r1⟩
     ·rw[isS_bad (by rw[x3.1];decide),if_neg (by simp),isS_bad (by rw[x3.1];decide),if_neg (by simp)] at h'
      split at h'
      ·obtain rfl:=qI h'
       exact .inl x3
      ·cases h'
     rw[isS_two he hk ht (by decide) r1,isS_two he hk ht (by decide) r1] at h'
     split at h
     ·rename_i ha
      rw[if_pos ha] at h'
      have hl:=lt_of_isS he r1.le ha
      obtain⟨a2,h2,h⟩:=bind_some' h
      obtain⟨_,h⟩:=dput_some h
      obtain rfl:=qI h
      obtain⟨b2,g2,h'⟩:=bind_some' h'
      obtain⟨_,h'⟩:=dput_some h'
      obtain rfl:=qI h'
      rcases ih _ _ _ (by exact True.intro) h2 h0 _ _ _ (r1.step hl) g2 with x3 | ⟨e2,_,r2⟩
      ·exact .inl x3
      exact .mk' (by rw[r2.exprs]) rfl (Two.leave (r2.put (by rw[e1,e2,r1.at_,tok_lt (e:=e) hl])))
     ·rename_i ha
      rw[if_neg ha] at h'
      split at h
      ·rename_i hb
       rw[if_pos hb] at h'
       have hl:=lt_of_isS he r1.le hb
       obtain⟨a2,h2,h⟩:=bind_some' h
       obtain⟨_,h⟩:=dput_some h
       obtain rfl:=qI h
       obtain⟨b2,g2,h'⟩:=bind_some' h'
       obtain⟨_,h'⟩:=dput_some h'
       obtain rfl:=qI h'
       rcases ih _ _ _ (by exact True.intro) h2 h0 _ _ _ (r1.step hl) g2 with x3 | ⟨e2,_,r2⟩
       ·exact .inl x3
       exact .mk' (by rw[r2.exprs]) rfl (Two.leave (r2.put (by rw[e1,e2,r1.at_,tok_lt (e:=e) hl])))
      ·rename_i hb
       rw[if_neg hb] at h'
       split at h
       case isFalse=>cases h
       split at h'
       case isFalse=>cases h'
       obtain rfl:=qI h
       obtain rfl:=qI h'
       exact .mk' e1 rfl r1.leave
   | pre =>
    dsimp only at h h'
    unfold preG at h h'
    dsimp only at h h'
    split at h
    case isFalse hc =>
     obtain rfl:=qI h
     exact absurd h0 hc
    rename_i hx0
    rcases r.enter (ts':=us++c :: vs) hx0 with h3 | rx
    ·rw[if_neg (by rw[h3.1];decide)] at h'
     obtain rfl:=qI h'
     exact .inl h3
    rw[if_pos rx.c1,prefixK_two he hk ht rx] at h'
    split at h
    ·rename_i hi
     rw[if_pos hi] at h'
     obtain⟨a1,h1,h⟩:=bind_some' h
     obtain⟨b1,g1,h'⟩:=bind_some' h'
     split at h
     case isFalse=>cases h
     split at h'
     case isFalse=>cases h'
     obtain rfl:=qI h
     obtain rfl:=qI h'
     rcases ih _ _ _ (by exact True.intro) h1 h0 _ _ _ rx g1 with x3 | ⟨e1,_,r1⟩
     ·exact .inl x3
     exact .mk' e1 rfl r1.leave
    ·rename_i hi
     rw[if_neg hi] at h'
     have hl:=lt_of_prefix he rx.le hi
     obtain⟨a1,h1,h⟩:=bind_some' h
     obtain⟨_,h⟩:=dput_some h
     obtain rfl:=qI h
     obtain⟨b1,g1,h'⟩:=bind_some' h'
     obtain⟨_,h'⟩:=dput_some h'
     obtain rfl:=qI h'
     rcases ih _ _ _ (by exact True.intro) h1 h0 _ _ _ (rx.step hl) g1 with x3 | ⟨e1,_,r1⟩
     ·exact .inl x3
     exact .mk' (by rw[r1.exprs]) rfl (Two.leave (r1.put (by rw[e1,rx.at_,tok_lt (e:=e) hl])))
   | bin least =>
    dsimp only at h h'
    unfold binG at h h'
    split at h
    ·rename_i hi
     rw[if_pos hi] at h'
     exact ih _ _ _ (by exact True.intro) h h0 _ _ _ r h'
    ·rename_i hi
     rw[if_neg hi] at h'
     obtain⟨a1,h1,h⟩:=bind_some' h
     obtain⟨b1,g1,h'⟩:=bind_some' h'
     have z1:=zero (S0 _ _ _ _ h) h0
     rcases ih _ _ _ (by show 1≤least+1;omega) h1 z1 _ _ _ r g1 with x3 | ⟨e1,_,r1⟩
     ·exact .bad (S1 _ _ _ _ h') x3
     rw[e1] at h'
     exact ih _ _ _ (by exact hj) h h0 _ _ _ r1 h'
   | loop least v =>
    dsimp only at h h'
    unfold loopG at h h'
    rw[if_pos r.c0] at h
    rw[if_pos r.c1,levelS_two he hk ht r] at h'
    split at h
    ·rename_i hi
     rw[if_pos hi] at h'
     have hl:=lt_of_level he r.le (by rw[hi];have:1≤least:=hj;omega)
     obtain⟨a1,h1,h⟩:=bind_some' h
     obtain⟨_,h⟩:=dput_some h
     obtain⟨b1,g1,h'⟩:=bind_some' h'
     obtain⟨_,h'⟩:=dput_some h'
     split at h
     ·rename_i h5
      rw[if_pos h5] at h'
      obtain rfl:=qI h
      obtain rfl:=qI h'
      rcases ih _ _ _ (by show 1≤least+1;omega) h1 h0 _ _ _ (r.step hl) g1 with x3 | ⟨e1,_,r1⟩
      ·exact .inl x3
      exact .mk' (by rw[r1.exprs]) rfl (r1.put (by rw[e1,r.at_,tok_lt (e:=e) hl]))
     ·rename_i h5
      rw[if_neg h5] at h'
      have z1:a1.2.2.code=0:=zero ((stays_put _ _).trans (S0 _ _ _ _ h)) h0
      rcases ih _ _ _ (by show 1≤least+1;omega) h1 z1 _ _ _ (r.step hl) g1 with x3 | ⟨e1,_,r1⟩
      ·exact .bad ((stays_put _ _).trans (S1 _ _ _ _ h')) x3
      have e5:(b1.2.2.exprs.length:Int)=(a1.2.2.exprs.length:Int):=by rw[r1.exprs]
      rw[e5] at h'
      exact ih _ _ _ (by exact hj) h h0 _ _ _ (r1.put (by rw[e1,r.at_,tok_lt (e:=e) hl])) h'
    ·rename_i hi
     rw[if_neg hi] at h'
     obtain rfl:=qI h
     obtain rfl:=qI h'
     exact .mk' rfl rfl r
   | args acc =>
    dsimp only at h h'
    unfold argsG at h h'
    split at h
    case isFalse=>cases h
    rename_i hq
    rw[if_pos hq] at h'
    rw[isS_two he hk ht (by decide) r] at h'
    split at h
    ·rename_i hi
     rw[if_pos hi] at h'
     have hl:=lt_of_isS he r.le hi
     obtain⟨a1,h1,h⟩:=bind_some' h
     obtain⟨b1,g1,h'⟩:=bind_some' h'
     have z1:=zero (S0 _ _ _ _ h) h0
     rcases ih _ _ _ (by exact True.intro) h1 z1 _ _ _ (r.step hl) g1 with x3 | ⟨e1,_,r1⟩
     ·exact .bad (S1 _ _ _ _ h') x3
     rw[e1] at h'
     exact ih _ _ _ (by exact True.intro) h h0 _ _ _ r1 h'
    ·rename_i hi
     rw[if_neg hi] at h'
     obtain rfl:=qI h
     obtain rfl:=qI h'
     exact .mk' rfl rfl r
   | atom =>
    dsimp only at h h'
    unfold atomG at h h'
    dsimp only at h h'
    rcases Nat.lt_or_ge σ.at_ us.length with hl | hge
    ·rw[r.at_,tok_lt (e:=e) hl] at h'
     rw[isS_two he hk ht (by decide) r,isS_two he hk ht (by decide) r] at h'
     split at h
     ·rename_i hi
      rw[if_pos hi] at h'
      obtain⟨_,h⟩:=dput_some h
      obtain rfl:=qI h
      obtain⟨_,h'⟩:=dput_some h'
      obtain rfl:=qI h'
      exact .mk' (by rw[(r.step hl).exprs]) rfl ((r.step hl).put rfl)
     rename_i hi
     rw[if_neg hi] at h'
     split at h
     ·rename_i hi
      rw[if_pos hi] at h'
      obtain⟨_,h⟩:=dput_some h
      obtain rfl:=qI h
      obtain⟨_,h'⟩:=dput_some h'
      obtain rfl:=qI h'
      exact .mk' (by rw[(r.step hl).exprs]) rfl ((r.step hl).put rfl)
     rename_i hi
     rw[if_neg hi] at h'
     split at h
     ·rename_i hi
      rw[if_pos hi] at h'
      obtain⟨_,h⟩:=dput_some h
      obtain rfl:=qI h
      obtain⟨_,h'⟩:=dput_some h'
      obtain rfl:=qI h'
      exact .mk' (by rw[(r.step hl).exprs]) rfl ((r.step hl).put rfl)
     rename_i hi
     rw[if_neg hi] at h'
     have rs:=r.step hl
     split at h
     ·rename_i hi
      rw[if_pos hi] at h'
      rw[isS_two he hk ht (by decide) rs,isS_two he hk ht (by decide) rs] at h'
      split at h
      ·rename_i h7
       rw[if_pos h7] at h'
       have hl7:=lt_of_isS he rs.le h7
       obtain⟨_,h⟩:=dput_some h
       obtain rfl:=qI h
       obtain⟨_,h'⟩:=dput_some h'
       obtain rfl:=qI h'
       obtain⟨rn,en⟩:=(rs.step hl7).name he (vs:=vs) (c:=c) h0
       exact .mk' (by rw[rn.exprs]) rfl (rn.put (by rw[en]))
      ·rename_i h7
       rw[if_neg h7] at h'
       split at h
       ·rename_i h8
        rw[if_pos h8] at h'
        have hl8:=lt_of_isS he rs.le h8
        have r2:=rs.step hl8
        split at h
        ·rename_i h9
         have hl9:=lt_of_isS he r2.le h9
         rw[isS_lt r2 hl9 (e:=e),if_pos h9] at h'
         obtain⟨_,h⟩:=dput_some h
         obtain rfl:=qI h
         obtain⟨_,h'⟩:=dput_some h'
         obtain rfl:=qI h'
         exact .mk' (by rw[(r2.step hl9).exprs]) rfl ((r2.step hl9).put rfl)
        ·rename_i h9
         obtain⟨a1,h1,h⟩:=bind_some' h
         obtain⟨a2,h2,h⟩:=bind_some' h
         obtain⟨_,h⟩:=dput_some h
         obtain rfl:=qI h
         have zw:(wantS (us++[e]) [41] a2.2.2).code=0:=h0
         have z2:=zero (stays_want _ _ _) zw
         have z1:=zero (S0 _ _ _ _ h2) z2
         have hl9:(stepS (stepS σ)).at_<us.length:=by
          rcases Nat.lt_or_ge (stepS (stepS σ)).at_ us.length with h10 | h10
          ·exact h10
          ·exfalso
           exact end_bad he _ _ _ _ (by exact True.intro) (by have:=r2.le;omega) h1 z1
         rw[isS_lt r2 hl9 (e:=e),if_neg h9] at h'
         obtain⟨b1,g1,h'⟩:=bind_some' h'
         obtain⟨b2,g2,h'⟩:=bind_some' h'
         obtain⟨_,h'⟩:=dput_some h'
         obtain rfl:=qI h'
         have t2:∀X:Ex,Stays b2.2.2 (putS X (wantS (us++c :: vs) [41] b2.2.2)):=fun X=>(stays_want _ _ _).trans (stays_put _ _)
         rcases ih _ _ _ (by exact True.intro) h1 z1 _ _ _ r2 g1 with x3 | ⟨e1,_,r3⟩
         ·exact .bad ((S1 _ _ _ _ g2).trans (t2 _)) x3
         rw[e1] at g2
         rcases ih _ _ _ (by exact True.intro) h2 z2 _ _ _ r3 g2 with x3 | ⟨_,e2,r4⟩
         ·exact .bad (t2 _) x3
         have r5:=r4.want (vs:=vs) (c:=c) he zw
         exact .mk' (by rw[r5.exprs]) rfl (r5.put (by rw[e2]))
       ·rename_i h8
        rw[if_neg h8] at h'
        obtain⟨_,h⟩:=dput_some h
        obtain rfl:=qI h
        obtain⟨_,h'⟩:=dput_some h'
        obtain rfl:=qI h'
        exact .mk' (by rw[rs.exprs]) rfl (rs.put rfl)
     ·rename_i hi
      rw[if_neg hi] at h'
      obtain⟨a1,h1,h⟩:=bind_some' h
      obtain⟨b1,g1,h'⟩:=bind_some' h'
      obtain rfl:=qI h
      obtain rfl:=qI h'
      have zw:(wantS (us++[e]) [41] a1.2.2).code=0:=h0
      have z1:=zero (stays_want _ _ _) zw
      have zw1:=zero (S0 _ _ _ _ h1) z1
      rcases ih _ _ _ (by exact True.intro) h1 z1 _ _ _ (r.want he zw1) g1 with x3 | ⟨e1,_,r1⟩
      ·exact .bad (stays_want _ _ _) x3
      exact .mk' e1 rfl (r1.want he zw)
    ·exact absurd h0 (end_bad (us:=us) he (f+1) .atom σ a True.intro (by have:=r.le;omega) (by simp only[runE];rw[if_pos (by assumption)];unfold atomG;exact h))
end
def sS (σ:RS):RS:={ σ with at_:=σ.at_+1 }
def sA (r:Int×List Int×RS):Int×List Int×RS:=(r.1,r.2.1,sS r.2.2)
theorem tokL_i (t0:Tok) (ts:List Tok) (i:Nat):tokL (t0 :: ts) (i+1)=tokL ts i:=by unfold tokL;simp
section
variable (t0:Tok) (ts:List Tok)
theorem isS_i (s:List UInt8) (σ:RS):isS (t0 :: ts) s (sS σ)=isS ts s σ:=by
 unfold isS;rw[show(sS σ).at_=σ.at_+1 from rfl,tokL_i];rfl
theorem failS_i (e:Int) (σ:RS):failS (t0 :: ts) e (sS σ)=sS (failS ts e σ):=by
 unfold failS
 by_cases h:σ.code=0
 ·rw[if_pos h,if_pos (show(sS σ).code=0 from h),show(sS σ).at_=σ.at_+1 from rfl,tokL_i]
  rfl
 ·rw[if_neg h,if_neg (show ¬(sS σ).code=0 from h)]
theorem stepS_i (σ:RS):stepS (sS σ)=sS (stepS σ):=rfl
theorem leaveS_i (σ:RS):leaveS (sS σ)=sS (leaveS σ):=rfl
theorem wantS_i (s:List UInt8) (σ:RS):wantS (t0 :: ts) s (sS σ)=sS (wantS ts s σ):=by
 unfold wantS;rw[isS_i t0,failS_i t0,stepS_i];split <;> rfl
theorem nameB_i (σ:RS):nameB (t0 :: ts) (sS σ)=nameB ts σ:=by
 unfold nameB;rw[show(sS σ).at_=σ.at_+1 from rfl,tokL_i];rfl
theorem nameS_i (σ:RS):nameS (t0 :: ts) (sS σ)=sS (nameS ts σ):=by
 unfold nameS;rw[nameB_i t0,failS_i t0,stepS_i];split <;> rfl
theorem nameV_i (σ:RS):nameV (t0 :: ts) (sS σ)=nameV ts σ:=by
 unfold nameV;rw[nameB_i t0,show(sS σ).at_=σ.at_+1 from rfl,tokL_i]
theorem putS_i (x:Ex) (σ:RS):putS x (sS σ)=sS (putS x σ):=rfl
theorem okS_i (σ:RS):okS (sS σ)=okS σ:=by unfold okS;rw[show(sS σ).exprs.length=σ.exprs.length from rfl];rfl
theorem code_i (σ:RS):(sS σ).code=σ.code:=rfl
theorem at_i (σ:RS):(sS σ).at_=σ.at_+1:=rfl
theorem room_i (σ:RS):(sS σ).exprs.length=σ.exprs.length:=rfl
theorem levelS_i (σ:RS):levelS (t0 :: ts) (sS σ)=levelS ts σ:=by
 unfold levelS levelIn
 have e:(fun p:List UInt8×Int×Int=>isS (t0 :: ts) p.1 (sS σ))=fun p=>isS ts p.1 σ:=funext fun p=>isS_i t0 ts _ _
 rw[e]
theorem prefixK_i (σ:RS) (l:List (List UInt8×Int)):prefixK (t0 :: ts) (sS σ) l=prefixK ts σ l:=by
 unfold prefixK
 have e:(fun p:List UInt8×Int=>isS (t0 :: ts) p.1 (sS σ))=fun p=>isS ts p.1 σ:=funext fun p=>isS_i t0 ts _ _
 rw[e]
theorem enterS_i (σ:RS):enterS (t0 :: ts) (sS σ)=sS (enterS ts σ):=by
 unfold enterS
 rw[show tooDeep (sS σ)=tooDeep σ from rfl,failS_i t0]
 split <;> rfl
theorem putA_i {x x':Ex} (hx:x'=x) (σ:RS) {K K':Int→RS→Ans} (hK:∀n y,K' n (sS y)=(K n y).map (sA)):putA x' (sS σ) K'=(putA x σ K).map (sA):=by
 subst hx
 unfold putA
 rw[okS_i,room_i,putS_i]
 split
 ·exact hK _ _
 ·rfl
theorem bind_i {α:Type} {m:α→α} {o o':Ans} (ho:o'=o.map (sA)) {K K':Int×List Int×RS→Option α} (hK:∀r,K' (sA r)=(K r).map m):o'.bind K'=(o.bind K).map m:=by
 subst ho
 cases o with
 | none=>rfl
 | some r=>exact hK r
theorem atomG_i {F F':Job→RS→Ans} (hF:∀j σ,F' j (sS σ)=(F j σ).map (sA)) (σ:RS):atomG (t0 :: ts) F' (sS σ)=(atomG ts F σ).map (sA):=by
 unfold atomG
 dsimp only
 simp only[at_i,tokL_i,stepS_i,isS_i t0,nameS_i t0,nameV_i t0,wantS_i t0,hF]
 repeat' split
 ·refine putA_i ?_ _ (fun n y=>?_) <;> rfl
 ·refine putA_i ?_ _ (fun n y=>?_) <;> rfl
 ·refine putA_i ?_ _ (fun n y=>?_) <;> rfl
 ·refine putA_i ?_ _ (fun n y=>?_) <;> rfl
 ·refine putA_i ?_ _ (fun n y=>?_) <;> rfl
 ·refine bind_i ?_ (fun r=>?_)
  ·rfl
  ·refine bind_i ?_ (fun q=>?_)
   ·exact hF _ _
   ·simp only[sA,wantS_i t0]
    refine putA_i ?_ _ (fun n y=>?_) <;> rfl
 ·refine putA_i ?_ _ (fun n y=>?_) <;> rfl
 ·refine bind_i ?_ (fun r=>?_)
  ·rfl
  ·simp only[sA,wantS_i t0];rfl
theorem preG_i {F F':Job→RS→Ans} (hF:∀j σ,F' j (sS σ)=(F j σ).map (sA)) (σ:RS):preG (t0 :: ts) F' (sS σ)=(preG ts F σ).map (sA):=by
 unfold preG
 dsimp only
 simp only[enterS_i t0,code_i,at_i,prefixK_i t0,tokL_i,stepS_i,leaveS_i,hF]
 repeat' split
 ·refine bind_i ?_ (fun r=>?_)
  ·rfl
  ·simp only[sA,okS_i,leaveS_i]
   split <;> rfl
 ·refine bind_i ?_ (fun r=>?_)
  ·rfl
  ·simp only[sA]
   refine putA_i ?_ _ (fun n y=>?_)
   ·rfl
   ·simp only[leaveS_i];rfl
 ·rfl
theorem exprG_i {F F':Job→RS→Ans} (hF:∀j σ,F' j (sS σ)=(F j σ).map (sA)) (σ:RS):exprG (t0 :: ts) F' (sS σ)=(exprG ts F σ).map (sA):=by
 unfold exprG
 dsimp only
 simp only[enterS_i t0,code_i,at_i,isS_i t0,tokL_i,stepS_i,leaveS_i,hF]
 repeat' split
 ·refine bind_i ?_ (fun r=>?_)
  ·rfl
  ·simp only[sA,wantS_i t0,hF]
   refine bind_i ?_ (fun q=>?_)
   ·rfl
   ·simp only[sA,wantS_i t0,hF]
    refine bind_i ?_ (fun u=>?_)
    ·rfl
    ·simp only[sA]
     refine putA_i ?_ _ (fun n y=>?_)
     ·rfl
     ·simp only[leaveS_i];rfl
 ·refine bind_i ?_ (fun o=>?_)
  ·rfl
  ·simp only[sA,at_i,isS_i t0,stepS_i,hF,okS_i,leaveS_i]
   repeat' split
   ·refine bind_i ?_ (fun r=>?_)
    ·rfl
    ·simp only[sA]
     refine putA_i ?_ _ (fun n y=>?_)
     ·rfl
     ·simp only[leaveS_i];rfl
   ·refine bind_i ?_ (fun r=>?_)
    ·rfl
    ·simp only[sA]
     refine putA_i ?_ _ (fun n y=>?_)
     ·rfl
     ·simp only[leaveS_i];rfl
   ·rfl
   ·rfl
 ·rfl
theorem binG_i {F F':Job→RS→Ans} (hF:∀j σ,F' j (sS σ)=(F j σ).map (sA)) (least:Nat) (σ:RS):binG F' least (sS σ)=(binG F least σ).map (sA):=by
 unfold binG
 simp only[hF]
 split
 ·rfl
 ·refine bind_i ?_ (fun r=>?_)
  ·rfl
  ·exact hF _ _
theorem loopG_i {F F':Job→RS→Ans} (hF:∀j σ,F' j (sS σ)=(F j σ).map (sA)) (least:Nat) (a:Int) (σ:RS):loopG (t0 :: ts) F' least a (sS σ)=(loopG ts F least a σ).map (sA):=by
 unfold loopG
 simp only[code_i,levelS_i t0,at_i,tokL_i,stepS_i,hF]
 repeat' split
 ·refine bind_i ?_ (fun r=>?_)
  ·rfl
  ·simp only[sA]
   refine putA_i ?_ _ (fun n y=>?_)
   ·rfl
   ·rfl
 ·refine bind_i ?_ (fun r=>?_)
  ·rfl
  ·simp only[sA]
   refine putA_i ?_ _ (fun n y=>?_)
   ·rfl
   ·exact hF _ _
 ·rfl
 ·rfl
theorem argsG_i {F F':Job→RS→Ans} (hF:∀j σ,F' j (sS σ)=(F j σ).map (sA)) (acc:List Int) (σ:RS):argsG (t0 :: ts) F' acc (sS σ)=(argsG ts F acc σ).map (sA):=by
 unfold argsG
 simp only[isS_i t0,stepS_i,hF]
 repeat' split
 ·refine bind_i ?_ (fun r=>?_)
  ·rfl
  ·exact hF _ _
 ·rfl
 ·rfl
theorem runE_i (f:Nat):∀(j:Job) (σ:RS),runE (t0 :: ts) f j (sS σ)=(runE ts f j σ).map (sA):=by
 induction f with
 | zero=>intro j σ;rfl
 | succ f ih =>
  intro j σ
  simp only[runE,okS_i]
  split
  ·cases j with
   | expr=>exact exprG_i t0 ts ih σ
   | pre=>exact preG_i t0 ts ih σ
   | atom=>exact atomG_i t0 ts ih σ
   | bin least=>exact binG_i ih least σ
   | loop least a=>exact loopG_i t0 ts ih least a σ
   | args acc=>exact argsG_i t0 ts ih acc σ
  ·rfl
end
end Go.Proofs.YtpfmlfcaadnnpaaDoor
namespace Go.Proofs.YtpfmlfcaadnnpaaDoor.Lx
open Go.RowKit
theorem one_open (l:List UInt8):oneL (40 :: l)=some (4,1,0):=by
 have h:signOf (40 :: l)=some [40]:=by
  simp[signOf,signsL,List.isPrefixOf,List.find?]
 unfold oneL
 dsimp only
 rw[if_neg (by decide),if_neg (by decide),h]
 rfl
theorem lex_close:lexT [41] [⟨4,[41],0,0⟩] none:=by
 have e:tokAt [41] 0=⟨4,[41],0,0⟩:=rfl
 have h:Toks [41] 0 (tokAt [41] 0 :: []) none:=.tok (by decide) (by rw[show oneL (([41]:List UInt8).drop 0)=some (4,1,0) from rfl];simp) (.fin (by decide))
 rw[e] at h
 exact h
theorem lex_behind {s:List UInt8} {ts:List Tok} (h:lexT s ts none):lexT (s++[10,41]) (ts++[⟨4,[41],0,s.length+1⟩]) none:=by
 have e:=lex_two h lex_close
 simpa [shiftT] using e
theorem lex_front {s:List UInt8} {ts:List Tok} (h:lexT s ts none):lexT (40 :: s) (⟨4,[40],0,0⟩ :: ts.map (shiftT 1)) none:=by
 have h1:=toks_shift [40] h
 have e0:tokAt (40 :: s) 0=⟨4,[40],0,0⟩:=by
  unfold tokAt
  rw[List.drop_zero,one_open]
  rfl
 have e1:gapTo false (40 :: s) 0=0:=by unfold gapTo;rw[List.drop_zero];unfold gapN;rw[if_neg (by decide),if_neg (by decide)]
 have e2:gapTo false (40 :: s) 1=1+gapTo false s 0:=by
  have:=gapTo_shift false [40] s 0
  simpa using this
 unfold lexT
 rw[e1,←e0]
 refine .tok (by simp) (by rw[List.drop_zero,one_open];simp) ?_
 rw[e0]
 show Toks (40 :: s) (gapTo false (40 :: s) 1) _ none
 rw[e2]
 exact h1
theorem lex_brackets {s:List UInt8} {ts:List Tok} (h:lexT s ts none):lexT (40 :: (s++[10,41])) (⟨4,[40],0,0⟩ :: (ts.map (shiftT 1)++[⟨4,[41],0,s.length+2⟩])) none:=by
 have e:=lex_front (lex_behind h)
 simpa [shiftT] using e
end Go.Proofs.YtpfmlfcaadnnpaaDoor.Lx
namespace Go.Proofs.YtpfmlfcaadnnpaaDoor
open Go.RowKit Lx
theorem expr_text (l:List UInt8) (ts:List Tok) (ht:lexT l ts none) (hl':l.length≤20000):∃(f:Nat) (v:Int) (lx:List Int) (τ:RS),runE (ts++[endT l.length]) f .expr rs0=some (v,lx,τ)∧τ.at_<(ts++[endT l.length]).length ∧
  (τ.code=0→(tokL (ts++[endT l.length]) τ.at_).kind=5→τ.exprs.length≤20001∧0<τ.exprs.length∧v=((τ.exprs.length-1:Nat):Int)∧AllGood τ.exprs∧(∀x ∈ τ.exprs,(partsE x).length≤40000) ∧
   ∀W,Signs W→Calls prog 6 #[.string (str l)] W fun r Y=>ExprX τ.exprs 0 0 W r Y) ∧
  (τ.code=0→(tokL (ts++[endT l.length]) τ.at_).kind≠5→∀W,Signs W→Calls prog 6 #[.string (str l)] W fun r Y=>ExprX [] 2 ((tokL (ts++[endT l.length]) τ.at_).at_:Int) W r Y) ∧
  (τ.code≠0→∀W,Signs W→Calls prog 6 #[.string (str l)] W fun r Y=>ExprX [] τ.code τ.pos W r Y):=by
 have hno:AllGood []:=fun i x hx=>by cases i <;> cases hx
 have he:=end_ok ht l.length
 have hk:=tok_ok ht hl' l.length
 have hc:=toks_count ht
 have g1:=gapTo_le false (Nat.zero_le l.length)
 have hlen:(ts++[endT l.length]).length≤20001:=by rw[List.length_append];simp only[List.length_cons,List.length_nil];omega
 obtain⟨f,v,lx,τ,hr,hg,_,_⟩:=tot_all he hk _ .expr rs0 (qL _) ⟨he.1,qL _,Int.le_refl _,by decide,by omega⟩ trivial
 refine⟨f,v,lx,τ,hr,hg.lt,fun h0 h5=>?_,fun h0 h5 W hS=>?_,fun h0 W hS=>?_⟩
 ·have hlt:=hg.lt
  have hroom:τ.exprs.length≤τ.at_:=by have:=hg.room;simp only[rs0,List.length_nil] at this;omega
  obtain⟨hv,hpos⟩:=last_expr hr h0
  exact⟨by omega,hpos,hv,hg.good h0 hno,parts_ao (args_all _ _ _ _ _ hr (fun x hx=>by cases hx)).1,fun W hS =>
   expr_call _ _ _ _ (by omega) W (Hd fun W2 hb=>read_ok l ts ht hl' f τ v lx hr h0 h5 W2 (hS.below hb))⟩
 ·exact expr_call _ _ _ _ (by simp) W (Hd fun W2 hb=>(read_more l ts ht hl' f τ v lx hr h0 h5 W2 (hS.below hb)).mono fun r Y h=>readX_none h)
 ·exact expr_call _ _ _ _ (by simp) W (Hd fun W2 hb=>(read_bad l ts ht hl' f τ v lx hr h0 W2 (hS.below hb)).mono fun r Y h=>readX_none h)
theorem expr_behind {l:List UInt8} {ts:List Tok} (ht:lexT l ts none) (hl:l.length≤10000) {f:Nat} {v:Int} {lx:List Int} {τ:RS} (hr:runE (ts++[endT l.length]) f .expr rs0=some (v,lx,τ)) (h0:τ.code=0) (hlt:τ.at_<(ts++[endT l.length]).length) (h5:(tokL (ts++[endT l.length]) τ.at_).kind=5) (W:World) (hS:Signs W) :
  Calls prog 6 #[.string (str (l++[10,41]))] W fun r Y=>ExprX [] 2 ((l.length:Int)+1) W r Y:=by
 have h2:=lex_behind ht
 obtain⟨f',v',lx',τ',hr',_,_,hm,_⟩:=expr_text _ _ h2 (by rw[List.length_append];simp;omega)
 have hat:τ.at_=ts.length:=by
  have e:=(end_ok ht l.length).2 τ.at_ (tokL (ts++[endT l.length]) τ.at_) (by unfold tokL;rw[List.getD_eq_getElem?_getD,List.getElem?_eq_getElem hlt];rfl)
  have:=e.2 h5
  rw[List.length_append] at this
  simp only[List.length_singleton] at this
  omega
 have hr2:runE (ts++(⟨4,[41],0,l.length+1⟩:Tok) :: [endT (l++[10,41]).length]) f' .expr rs0=some (v',lx',τ'):=by
  rw[←hr',List.append_assoc];rfl
 have ho:=sim_all (k:=0) (us:=ts) (vs:=[endT (l++[10,41]).length]) (e:=endT l.length) (c:=⟨4,[41],0,l.length+1⟩) rfl rfl rfl f .expr rs0 (v,lx,τ) trivial hr h0 f' rs0 (v',lx',τ') ⟨rfl,rfl,rfl,rfl,rfl,Nat.zero_le _⟩ hr2
 rcases ho with ⟨_,hn⟩ | ⟨_,_,r⟩
 ·exact absurd rfl hn
 ·have ra:τ'.at_=ts.length:=r.at_.trans hat
  have rt:tokL (ts++[(⟨4,[41],0,l.length+1⟩:Tok)]++[endT (l++[10,41]).length]) τ'.at_=⟨4,[41],0,l.length+1⟩:=by
   rw[ra,List.append_assoc]
   exact tok_c
  have h:=hm r.c1 (by rw[rt];exact(by decide:(4:Nat)≠5)) W hS
  rw[rt] at h
  exact h
theorem isS_end {ts:List Tok} {s:List UInt8} {σ:RS} (h:(tokL ts σ.at_).kind=5):isS ts s σ=false:=by
 cases hq:isS ts s σ with
 | false=>rfl
 | true=>exact absurd h (isS_kind hq).1
theorem level_end {ts:List Tok} {σ:RS} (h:(tokL ts σ.at_).kind=5):(levelS ts σ).1=0:=by
 unfold levelS levelIn
 split
 ·rename_i p hp
  have:=find_isS hp
  rw[isS_end h] at this
  cases this
 ·rfl
def Ends (ts:List Tok) (a R:Int×List Int×RS):Prop:=(a.2.2.code≠0→R.2.2.code=a.2.2.code)∧(a.2.2.code=0→(tokL ts a.2.2.at_).kind=5→R.1=a.1∧R.2.2=a.2.2)
theorem bin_down (ts:List Tok):∀(m least f:Nat) (σ:RS) (R:Int×List Int×RS),least+m=6→1≤least→runE ts f (.bin least) σ=some R→∃f2 a,runE ts f2 .pre σ=some a∧Ends ts a R:=by
 intro m
 induction m with
 | zero =>
  intro least f σ R hm h1 h
  cases f with
  | zero=>cases h
  | succ f =>
   simp only[runE] at h
   split at h
   case isFalse=>cases h
   unfold binG at h
   rw[if_pos (by omega)] at h
   exact⟨f,R,h,fun _=>rfl,fun _ _=>⟨rfl,rfl⟩⟩
 | succ m ih =>
  intro least f σ R hm h1 h
  cases f with
  | zero=>cases h
  | succ f =>
   simp only[runE] at h
   split at h
   case isFalse=>cases h
   unfold binG at h
   rw[if_neg (by omega)] at h
   obtain⟨b,h2,h⟩:=bind_some' h
   obtain⟨f2,a,h3,h4,h5⟩:=ih (least+1) f σ b (by omega) (by omega) h2
   refine⟨f2,a,h3,fun hc=>?_,fun hc hk=>?_⟩
   ·have hb:=h4 hc
    have:=(stuck _ _ _ _ _ h (by rw[hb];exact hc)).1
    rw[this,hb]
   ·obtain⟨e1,e2⟩:=h5 hc hk
    cases f with
    | zero=>cases h
    | succ f =>
     simp only[runE] at h
     split at h
     case isFalse=>cases h
     unfold loopG at h
     rw[e2,if_pos hc,if_neg (by rw[level_end hk];omega)] at h
     obtain rfl:=qI h
     exact⟨e1,rfl⟩
theorem expr_open {t0:Tok} {X:List Tok} (hk:t0.kind=4) (htx:t0.text=[40]) {f:Nat} {R:Int×List Int×RS} (h:runE (t0 :: X) f .expr rs0=some R) :
  ∃f2 b,runE X f2 .expr ⟨0,[],2,0,0⟩=some b∧(b.2.2.code≠0→R.2.2.code=b.2.2.code) ∧
   (b.2.2.code=0→isS X [41] b.2.2=true→(tokL X (b.2.2.at_+1)).kind=5→R.1=b.1∧R.2.2.code=0∧R.2.2.at_=b.2.2.at_+2∧R.2.2.exprs=b.2.2.exprs):=by
 have ht:tokL (t0 :: X) 0=t0:=rfl
 have hS:∀(s:List UInt8) (d:Int),s≠[40]→isS (t0 :: X) s ⟨0,[],d,0,0⟩=false:=fun s d hs=>by
  unfold isS
  show(decide ((0:Int)=0)&&((decide ((tokL (t0 :: X) 0).kind=3)||decide ((tokL (t0 :: X) 0).kind=4))&&(tokL (t0 :: X) 0).text ==s))=false
  rw[ht,htx]
  have:([40] ==s)=false:=by simpa using fun h=>hs h.symm
  simp[this]
 have e1:enterS (t0 :: X) rs0=⟨0,[],1,0,0⟩:=rfl
 have e2:enterS (t0 :: X) ⟨0,[],1,0,0⟩=⟨0,[],2,0,0⟩:=rfl
 have ep:prefixK (t0 :: X) ⟨0,[],2,0,0⟩ prefixL=0:=by
  unfold prefixK prefixL
  simp only[List.find?_cons,List.find?_nil,hS [45] 2 (by decide),hS [110,111,116] 2 (by decide),hS [112,114,101] 2 (by decide),hS [115,113,114,116] 2 (by decide)]
 have ew:wantS (t0 :: X) [40] ⟨0,[],2,0,0⟩=sS ⟨0,[],2,0,0⟩:=by
  have hi:isS (t0 :: X) [40] ⟨0,[],2,0,0⟩=true:=by
   unfold isS
   show(decide ((0:Int)=0)&&((decide ((tokL (t0 :: X) 0).kind=3)||decide ((tokL (t0 :: X) 0).kind=4))&&(tokL (t0 :: X) 0).text ==[40]))=true
   rw[ht,htx,hk];decide
  unfold wantS
  rw[if_pos hi];rfl
 cases f with
 | zero=>cases h
 | succ f =>
  simp only[runE] at h
  split at h
  case isFalse=>cases h
  unfold exprG at h
  dsimp only at h
  rw[e1,if_pos rfl,if_neg (by rw[hS _ 1 (by decide)];decide)] at h
  obtain⟨o,ho,h⟩:=bind_some' h
  obtain⟨f2,a,ha,hd1,hd2⟩:=bin_down _ 5 1 f _ o rfl (qL 1) ho
  have hA:∃f3 b,runE (t0 :: X) f3 .expr (sS ⟨0,[],2,0,0⟩)=some b∧a.1=b.1∧a.2.2=leaveS (wantS (t0 :: X) [41] b.2.2):=by
   cases f2 with
   | zero=>cases ha
   | succ f2 =>
    simp only[runE] at ha
    split at ha
    case isFalse=>cases ha
    unfold preG at ha
    dsimp only at ha
    rw[e2,if_pos rfl,ep,if_pos rfl] at ha
    obtain⟨p,hp,ha⟩:=bind_some' ha
    split at ha
    case isFalse=>cases ha
    obtain rfl:=qI ha
    cases f2 with
    | zero=>cases hp
    | succ f2 =>
     simp only[runE] at hp
     split at hp
     case isFalse=>cases hp
     unfold atomG at hp
     dsimp only at hp
     rw[ht,if_neg (by rw[hk];decide),if_neg (by rw[hS _ 2 (by decide)];decide),if_neg (by rw[hS _ 2 (by decide)];decide),if_neg (by rw[hk];decide),ew] at hp
     obtain⟨b,hb,hp⟩:=bind_some' hp
     obtain rfl:=qI hp
     exact⟨f2,b,hb,rfl,rfl⟩
  obtain⟨f3,b,hb,ea,eb⟩:=hA
  rw[runE_i] at hb
  cases hq:runE X f3 .expr ⟨0,[],2,0,0⟩ with
  | none=>rw[hq] at hb;cases hb
  | some b0 =>
   rw[hq] at hb
   obtain rfl:=qI hb
   have eb2:a.2.2=sS (leaveS (wantS X [41] b0.2.2)):=by rw[eb];show leaveS (wantS (t0 :: X) [41] (sS b0.2.2))=_;rw[wantS_i];rfl
   have fin:∀{y:RS},o.2.2=y→y.code≠0∨(tokL (t0 :: X) y.at_).kind=5→R=(o.1,[],leaveS o.2.2):=fun {y} hy hc=>by
    have hz:∀s,isS (t0 :: X) s o.2.2=false:=fun s=>by
     rw[hy]
     rcases hc with hc | hc
     ·exact isS_bad hc
     ·exact isS_end hc
    try dsimp only at h
    rw[if_neg (by rw[hz];decide),if_neg (by rw[hz];decide)] at h
    split at h
    case isFalse=>cases h
    exact(qI h).symm
   refine⟨f3,b0,hq,fun hc=>?_,fun hc hi h5=>?_⟩
   ·have hac:a.2.2.code=b0.2.2.code:=by rw[eb2];exact(stays_want X [41] b0.2.2 hc).1
    have hoc:=hd1 (by rw[hac];exact hc)
    rw[fin (y:=o.2.2) rfl (.inl (by rw[hoc,hac];exact hc))]
    show o.2.2.code=_
    rw[hoc,hac]
   ·have ew2:wantS X [41] b0.2.2=stepS b0.2.2:=by unfold wantS;rw[if_pos hi]
    rw[ew2] at eb2
    have hac:a.2.2.code=0:=by rw[eb2];exact hc
    have hak:(tokL (t0 :: X) a.2.2.at_).kind=5:=by
     rw[eb2]
     show(tokL (t0 :: X) (b0.2.2.at_+1+1)).kind=5
     rw[tokL_i];exact h5
    obtain⟨o1,o2⟩:=hd2 hac hak
    rw[fin o2 (.inr hak)]
    refine⟨o1.trans ea,?_,?_,?_⟩
    ·show o.2.2.code=0;rw[o2];exact hac
    ·show o.2.2.at_=_;rw[o2,eb2];rfl
    ·show o.2.2.exprs=_;rw[o2,eb2];rfl
theorem exprs_some (l:List UInt8) (hl:l.length≤20000):∃(q:List Ex) (cd f:Int),∀W,Signs W→Calls prog 6 #[.string (str l)] W fun r Y=>ExprX q cd f W r Y:=by
 obtain⟨ts,r,ht⟩:∃ts r,lexT l ts r:=toks_all l _
 cases r with
 | some f =>
  exact⟨[],1,(f:Int),fun W hS=>expr_call _ _ _ _ (by simp) W (Hd fun W2 hb=>(read_lex (str l) _ 1 f (by decide) W2 (Hd fun W3 hb3=>(lex_bad l ts f ht hl W3 ((hS.below hb).below hb3)).mono fun e w' h=>h)).mono fun r Y h=>readX_none h)⟩
 | none =>
  obtain⟨f,v,lx,τ,hr,hlt,h1,h2,h3⟩:=expr_text l ts ht hl
  by_cases h0:τ.code=0
  ·by_cases h5:(tokL (ts++[endT l.length]) τ.at_).kind=5
   ·exact⟨_,_,_,(h1 h0 h5).2.2.2.2.2⟩
   ·exact⟨_,_,_,h2 h0 h5⟩
  ·exact⟨_,_,_,h3 h0⟩
theorem kind_at {l:List UInt8} {ts:List Tok} (ht:lexT l ts none) {i:Nat} (hlt:i<(ts++[endT l.length]).length):i=ts.length↔(tokL (ts++[endT l.length]) i).kind=5:=by
 have e:=(end_ok ht l.length).2 i (tokL (ts++[endT l.length]) i) (by unfold tokL;rw[List.getD_eq_getElem?_getD,List.getElem?_eq_getElem hlt];rfl)
 rw[←e,List.length_append]
 simp only[List.length_singleton]
 omega
theorem expr_brackets {l:List UInt8} {ts:List Tok} (ht:lexT l ts none) (hl:l.length≤10000) {f:Nat} {v:Int} {lx:List Int} {τ:RS} (hr:runE (ts++[endT l.length]) f .expr rs0=some (v,lx,τ)) (h0:τ.code=0) (hlt:τ.at_<(ts++[endT l.length]).length) (h5:(tokL (ts++[endT l.length]) τ.at_).kind=5) :
  (∃p:Int,∀W,Signs W→Calls prog 6 #[.string (str (40 :: (l++[10,41])))] W fun r Y=>ExprX [] 3 p W r Y) ∨
  ∃es:List Ex,es.map (mX fun _=>0)=τ.exprs.map (mX fun _=>0)∧es.length≤20001∧AllGood es∧(∀x ∈ es,(partsE x).length≤40000) ∧
   ∀W,Signs W→Calls prog 6 #[.string (str (40 :: (l++[10,41])))] W fun r Y=>ExprX es 0 0 W r Y:=by
 have hb:=lex_brackets ht
 have hbl:(40 :: (l++[10,41])).length≤20000:=by simp;omega
 obtain⟨f',v',lx',τ',hr',hlt',g1,g2,g3⟩:=expr_text _ _ hb hbl
 have hat:τ.at_=ts.length:=(kind_at ht hlt).2 h5
 have m1:=runE_m (g:=fun _=>0) rfl (ts++[endT l.length]) f .expr rs0
 have m2:=runE_m (g:=fun _=>0) rfl ((⟨4,[40],0,0⟩ :: (ts.map (shiftT 1)++[⟨4,[41],0,l.length+2⟩]))++[endT (40 :: (l++[10,41])).length]) f' .expr rs0
 have er:mS (fun _=>0) rs0=rs0:=rfl
 rw[er,hr] at m1
 rw[er,hr'] at m2
 have hus:(ts.map (shiftT 1)).map (mT fun _=>0)=ts.map (mT fun _=>0):=by rw[List.map_map];rfl
 rw[List.map_append] at m1
 have em:(((⟨4,[40],0,0⟩:Tok) :: (ts.map (shiftT 1)++[(⟨4,[41],0,l.length+2⟩:Tok)]))++[endT (40 :: (l++[10,41])).length]).map (mT fun _=>0) =
   (⟨4,[40],0,0⟩:Tok) :: (ts.map (mT fun _=>0)++(⟨4,[41],0,0⟩:Tok) :: [(⟨5,[],0,0⟩:Tok)]):=by
  simp only[List.cons_append,List.append_assoc,List.map_cons,List.map_append,List.map_nil,hus,List.nil_append]
  rfl
 rw[em] at m2
 obtain⟨f2,b,hq,hd1,hd2⟩:=expr_open rfl rfl m2
 have hn:(ts.map (mT fun _=>0)).length=ts.length:=List.length_map _
 have ho:=sim_all (k:=2) (us:=ts.map (mT fun _=>0)) (vs:=[(⟨5,[],0,0⟩:Tok)]) (e:=⟨5,[],0,0⟩) (c:=⟨4,[41],0,0⟩) rfl rfl rfl f .expr rs0 (v,lx,mS (fun _=>0) τ) trivial m1 h0 f2 ⟨0,[],2,0,0⟩ b ⟨rfl,rfl,rfl,rfl,rfl,Nat.zero_le _⟩ hq
 rcases ho with ⟨h3,_⟩ | ⟨_,_,r⟩
 ·have hc:τ'.code=3:=(hd1 (by rw[h3];decide)).trans h3
  left
  refine⟨τ'.pos,fun W hS=>?_⟩
  have:=g3 (by rw[hc];decide) W hS
  rw[hc] at this
  exact this
 ·have ra:b.2.2.at_=(ts.map (mT fun _=>0)).length:=by rw[r.at_,hn];exact hat
  have hi:isS (ts.map (mT fun _=>0)++(⟨4,[41],0,0⟩:Tok) :: [(⟨5,[],0,0⟩:Tok)]) [41] b.2.2=true:=by
   unfold isS
   rw[ra,tok_c,r.c1]
   decide
  have hk:(tokL (ts.map (mT fun _=>0)++(⟨4,[41],0,0⟩:Tok) :: [(⟨5,[],0,0⟩:Tok)]) (b.2.2.at_+1)).kind=5:=by
   rw[ra]
   unfold tokL
   simp
  obtain⟨_,c0,ca,ce⟩:=hd2 r.c1 hi hk
  have c0':τ'.code=0:=c0
  have ca':τ'.at_=ts.length+2:=by
   have:τ'.at_=b.2.2.at_+2:=ca
   rw[this,ra,hn]
  have k5:(tokL ((⟨4,[40],0,0⟩ :: (ts.map (shiftT 1)++[⟨4,[41],0,l.length+2⟩]))++[endT (40 :: (l++[10,41])).length]) τ'.at_).kind=5:=by
   refine(kind_at hb hlt').1 ?_
   rw[ca']
   simp
  obtain⟨q1,_,_,q4,q5,q6⟩:=g1 c0' k5
  right
  refine⟨τ'.exprs,?_,q1,q4,q5,q6⟩
  have e1:τ'.exprs.map (mX fun _=>0)=b.2.2.exprs:=ce
  rw[e1,r.exprs]
  rfl
end Go.Proofs.YtpfmlfcaadnnpaaDoor
namespace Go.Proofs.YtpfmlfcaadnnpaaDoor
open Go.RowKit
attribute [local go_sem] Oper.semAt_some
end Go.Proofs.YtpfmlfcaadnnpaaDoor
namespace Go.Proofs.YtpfmlfcaadnnpaaDoor
open Go.RowKit
attribute [local go_sem] Oper.semAt_some
theorem two_boxes (w:World) (c d:Array Value) (S T:Nat):((w.alloc (.cells c S)).alloc (.cells d T)).heap[w.heap.size]?=some (.cells c S (0,0))∧((w.alloc (.cells c S)).alloc (.cells d T)).heap[w.heap.size+1]?=some (.cells d T (0,0)):=by
 constructor
 ·rw[heap_alloc_old _ _ (by simp)];exact heap_alloc_new w _
 ·have:=heap_alloc_new (w.alloc (.cells c S)) (.cells d T)
  rw[World.size_alloc] at this
  exact this
end Go.Proofs.YtpfmlfcaadnnpaaDoor
namespace Go.Proofs.YtpfmlfcaadnnpaaDoor
open Go.RowKit Go.Shelf
attribute [local go_sem] Oper.semAt_some
theorem aint_info:(prog.info? 3).map (fun i=>(i.zero,i.size,i.bytes))=some (some (.int .i64 0),1,8):=by kernel_rfl
def intV (p:Int):Value:=.int .i64 p
def NewInts (l:List Int) (w:World) (e:Ending) (w':World):Prop:=∃v,e=.returned v∧w'.ownsRow w.heap.size 3 1 v l.length (l.map intV)∧Below w.heap.size w w'
def exV (x:Ex) (s:Value):Value:=.agg (exCells x s)
end Go.Proofs.YtpfmlfcaadnnpaaDoor
