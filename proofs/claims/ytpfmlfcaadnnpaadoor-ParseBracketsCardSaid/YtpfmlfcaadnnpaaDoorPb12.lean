import Derived.Test.YtpfmlfcaadnnpaaDoorPb11
set_option maxHeartbeats 16000000
set_option maxRecDepth 100000
set_option linter.unusedVariables false
open Go.Proofs.Tryd(prog)
namespace Go.Proofs.YtpfmlfcaadnnpaaDoor
open Lx
def rankJ:Job→Nat
 | .bin least=>10-least
 | .atom=>1
 | _=>0
def meas (ts:List Tok) (j:Job) (σ:RS):Nat:=(ts.length - σ.at_)*1024+(31 - σ.deep.toNat)*16+rankJ j
def JobOk (σ:RS):Job→Prop
 | .atom=>σ.code=0
 | .bin least=>1≤least∧least≤6
 | .loop least a=>1≤least∧least≤5∧IxOk σ a
 | .args acc=>acc.length≤σ.at_∧∀a ∈ acc,IxOk σ a
 | _=>True
def ResOk (τ:RS) (v:Int) (l:List Int):Job→Prop
 | .args _=>l.length≤τ.at_∧∀a ∈ l,IxOk τ a
 | _=>IxOk τ v
def Res (ts:List Tok) (j:Job) (σ:RS):Prop:=∃f v l τ,runE ts f j σ=some (v,l,τ)∧Go ts 0 σ τ∧τ.deep=σ.deep∧ResOk τ v l j
theorem meas_at {ts:List Tok} {j j':Job} {σ σ':RS} (h:σ.at_<σ'.at_) (hl:σ.at_<ts.length) (hr:rankJ j'≤9):meas ts j' σ'<meas ts j σ:=by
 unfold meas
 have h1:(31 - σ'.deep.toNat)*16≤31*16:=Nat.mul_le_mul_right _ (by omega)
 have h2:(ts.length - σ'.at_)*1024+1024≤(ts.length - σ.at_)*1024:=by
  have:ts.length - σ'.at_+1≤ts.length - σ.at_:=by omega
  have:=Nat.mul_le_mul_right 1024 this
  omega
 omega
theorem meas_deep {ts:List Tok} {j j':Job} {σ σ':RS} (h:σ.at_≤σ'.at_) (hd:σ'.deep=σ.deep+1) (h0:0≤σ.deep) (h30:σ.deep≤30) (hr:rankJ j'≤9):meas ts j' σ'<meas ts j σ:=by
 unfold meas
 have h2:(ts.length - σ'.at_)*1024≤(ts.length - σ.at_)*1024:=Nat.mul_le_mul_right _ (by omega)
 rw[hd]
 omega
theorem meas_rank {ts:List Tok} {j j':Job} {σ σ':RS} (h:σ.at_≤σ'.at_) (hd:σ'.deep=σ.deep) (hr:rankJ j'<rankJ j):meas ts j' σ'<meas ts j σ:=by
 unfold meas
 have h2:(ts.length - σ'.at_)*1024≤(ts.length - σ.at_)*1024:=Nat.mul_le_mul_right _ (by omega)
 rw[hd]
 omega
theorem runE_go {ts:List Tok} {f:Nat} {j:Job} {σ:RS} (h:okS σ=true):runE ts (f+1) j σ=(match j with
  | .expr=>exprG ts (runE ts f) σ
  | .pre=>preG ts (runE ts f) σ
  | .atom=>atomG ts (runE ts f) σ
  | .bin least=>binG (runE ts f) least σ
  | .loop least a=>loopG ts (runE ts f) least a σ
  | .args acc=>argsG ts (runE ts f) acc σ):=by
 unfold runE
 rw[if_pos h]
 cases j <;> rfl
theorem go_zero {ts:List Tok} {k:Nat} {σ τ:RS} (h:Go ts k σ τ):Go ts 0 σ τ:=h.less (Nat.zero_le _)
theorem ix_put (x:Ex) (τ:RS):IxOk (putS x τ) (τ.exprs.length:Int):=fun _=>by unfold putS;simp;omega
theorem leave_ix {τ:RS} {v:Int} (h:IxOk τ v):IxOk (leaveS τ) v:=h
section
variable {ts:List Tok} (he:EndOk ts) (ht:TokOk ts)
include he
theorem tot_expr {σ:RS} (hs:St ts σ) (ih:∀j' σ',meas ts j' σ'<meas ts .expr σ→St ts σ'→JobOk σ' j'→Res ts j' σ'):Res ts .expr σ:=by
 obtain⟨ge,gd,ga,gx,gc⟩:=go_enter' (ts:=ts) hs.lt
 obtain⟨x,hx⟩:∃x,x=enterS ts σ:=⟨_,rfl⟩
 rw[←hx] at ge gd ga gx gc
 have hd0:=hs.d0
 have hd30:=hs.d30
 by_cases h0:x.code=0
 ·have hd:=gc h0
  have sx:St ts x:=hs.go ge (by omega) (by omega)
  cases hi:isS ts [105,102] x with
  | true =>
   have g1:=go_step' he sx.lt (isS_kind hi).1
   have s1:St ts (stepS x):=sx.go g1 (by show 0≤x.deep;omega) (by show x.deep≤30;omega)
   obtain⟨f1,a,l1,τ1,r1,k1,d1,v1⟩:=ih .expr (stepS x) (meas_at (by unfold stepS;simp;omega) hs.lt (by simp[rankJ])) s1 trivial
   have q1:τ1.deep=x.deep:=d1
   have w1:=go_want he k1.lt [116,104,101,110]
   have G2:=(g1.trans k1).trans w1
   have s2:St ts (wantS ts [116,104,101,110] τ1):=sx.go G2 (by rw[want_deep,q1];omega) (by rw[want_deep,q1];omega)
   obtain⟨f2,b,l2,τ2,r2,k2,d2,v2⟩:=ih .expr _ (meas_at (by have:=G2.room;have:=G2.more;omega) hs.lt (by simp[rankJ])) s2 trivial
   have q2:τ2.deep=x.deep:=by rw[d2,want_deep,q1]
   have w2:=go_want he k2.lt [101,108,115,101]
   have G3:=(G2.trans k2).trans w2
   have s3:St ts (wantS ts [101,108,115,101] τ2):=sx.go G3 (by rw[want_deep,q2];omega) (by rw[want_deep,q2];omega)
   obtain⟨f3,c,l3,τ3,r3,k3,d3,v3⟩:=ih .expr _ (meas_at (by have:=G3.room;have:=G3.more;omega) hs.lt (by simp[rankJ])) s3 trivial
   have q3:τ3.deep=x.deep:=by rw[d3,want_deep,q2]
   have G4:=G3.trans k3
   have s4:St ts τ3:=sx.go G4 (by omega) (by omega)
   have hn:τ3.exprs.length≤30000:=by have:=s4.room;have:=s4.lt;have:=s4.len;omega
   obtain⟨X,hX⟩:∃X:Ex,X={ ex0 with kind:=15,a:=a,b:=b,c:=c,pos:=((tokL ts x.at_).at_:Int) }:=⟨_,rfl⟩
   have P:=(G4.less (m:=0+1) (by omega)).put (x:=X) fun hz _=>hX ▸ good3 hn ((((IxOk.go v1 w1).go k2).go w2).go k3 hz) ((IxOk.go v2 w2).go k3 hz) (v3 hz)
   refine⟨f1+f2+f3+1,(τ3.exprs.length:Int),[],leaveS (putS X τ3),?_,?_,?_,leave_ix (ix_put X τ3)⟩
   ·rw[runE_go hs.ok]
    simp only[exprG]
    rw[←hx,if_pos h0,if_pos hi,runE_le (f:=f1) (by omega) _ _ _ r1]
    simp only[Option.bind_some]
    rw[runE_le (f:=f2) (by omega) _ _ _ r2]
    simp only[Option.bind_some]
    rw[runE_le (f:=f3) (by omega) _ _ _ r3]
    simp only[Option.bind_some]
    rw[putA_ok s4.ok,hX]
   ·exact go_zero ((ge.trans P).trans (go_leave P.lt))
   ·show τ3.deep-1=σ.deep;omega
  | false =>
   have hi2:¬isS ts [105,102] x=true:=by rw[hi];simp
   obtain⟨f1,o,l1,y,r1,k1,d1,v1⟩:=ih (.bin 1) x (meas_deep (by omega) gd hd0 hd30 (by simp[rankJ])) sx ⟨by omega,by omega⟩
   have sy:St ts y:=sx.go k1 (by omega) (by omega)
   have arm:∀(s:List UInt8) (k:Int),(k=17∨k=18)→isS ts s y=true→∃f b l3 τ X,X={ ex0 with kind:=k,a:=o,b:=b,pos:=((tokL ts y.at_).at_:Int) }∧runE ts f .expr (stepS y)=some (b,l3,τ)∧okS τ=true∧Go ts 0 y (putS X τ)∧τ.deep=y.deep:=by
    intro s k hk hs2
    have g1:=go_step' he sy.lt (isS_kind hs2).1
    have s1:St ts (stepS y):=sy.go g1 (by show 0≤y.deep;omega) (by show y.deep≤30;omega)
    obtain⟨f2,b,l2,τ,r2,k2,d2,v2⟩:=ih .expr (stepS y) (meas_at (by have:=k1.at_;unfold stepS;simp;omega) hs.lt (by simp[rankJ])) s1 trivial
    have q2:τ.deep=y.deep:=d2
    have G2:=g1.trans k2
    have s2:St ts τ:=sy.go G2 (by omega) (by omega)
    have hn:τ.exprs.length≤30000:=by have:=s2.room;have:=s2.lt;have:=s2.len;omega
    exact⟨f2,b,l2,τ,_,rfl,r2,s2.ok,(G2.less (m:=0+1) (by omega)).put fun hz _=>good2 hn (by omega) ((IxOk.go v1 g1).go k2 hz) (v2 hz),q2⟩
   by_cases h3:isS ts [45,62] y=true
   ·obtain⟨f2,b,l3,τ,X,hX,r2,o2,P,q2⟩:=arm [45,62] 17 (.inl rfl) h3
    refine⟨f1+f2+1,(τ.exprs.length:Int),[],leaveS (putS X τ),?_,go_zero (((ge.trans k1).trans P).trans (go_leave P.lt)),by show τ.deep-1=σ.deep;omega,leave_ix (ix_put X τ)⟩
    rw[runE_go hs.ok]
    simp only[exprG]
    rw[←hx,if_pos h0,if_neg hi2,runE_le (f:=f1) (by omega) _ _ _ r1]
    simp only[Option.bind_some]
    rw[if_pos h3,runE_le (f:=f2) (by omega) _ _ _ r2]
    simp only[Option.bind_some]
    rw[putA_ok o2,hX]
   ·by_cases h4:isS ts [102,98,121] y=true
    ·obtain⟨f2,b,l3,τ,X,hX,r2,o2,P,q2⟩:=arm [102,98,121] 18 (.inr rfl) h4
     refine⟨f1+f2+1,(τ.exprs.length:Int),[],leaveS (putS X τ),?_,go_zero (((ge.trans k1).trans P).trans (go_leave P.lt)),by show τ.deep-1=σ.deep;omega,leave_ix (ix_put X τ)⟩
     rw[runE_go hs.ok]
     simp only[exprG]
     rw[←hx,if_pos h0,if_neg hi2,runE_le (f:=f1) (by omega) _ _ _ r1]
     simp only[Option.bind_some]
     rw[if_neg h3,if_pos h4,runE_le (f:=f2) (by omega) _ _ _ r2]
     simp only[Option.bind_some]
     rw[putA_ok o2,hX]
    ·refine⟨f1+1,o,[],leaveS y,?_,go_zero ((ge.trans k1).trans (go_leave k1.lt)),by show y.deep-1=σ.deep;omega,leave_ix v1⟩
     rw[runE_go hs.ok]
     simp only[exprG]
     rw[←hx,if_pos h0,if_neg hi2,runE_le (f:=f1) (by omega) _ _ _ r1]
     simp only[Option.bind_some]
     rw[if_neg h3,if_neg h4,if_pos sy.ok]
 ·refine⟨1,0,[],leaveS x,?_,go_zero (ge.trans (go_leave ge.lt)),by show x.deep-1=σ.deep;omega,fun hz=>absurd hz h0⟩
  rw[runE_go hs.ok]
  simp only[exprG]
  rw[←hx,if_neg h0]
end
theorem prefixK_some {ts:List Tok} {σ:RS} (h:prefixK ts σ prefixL≠0):∃s,isS ts s σ=true∧(prefixK ts σ prefixL=4∨prefixK ts σ prefixL=5∨prefixK ts σ prefixL=16∨prefixK ts σ prefixL=21):=by
 unfold prefixK at h ⊢
 cases hf:prefixL.find? fun p=>isS ts p.1 σ with
 | none=>rw[hf] at h;exact absurd rfl h
 | some p =>
  have h1:=List.find?_some hf
  have h2:=List.mem_of_find?_eq_some hf
  refine⟨p.1,h1,?_⟩
  unfold prefixL at h2
  simp only[List.mem_cons,List.not_mem_nil,or_false] at h2
  rcases h2 with rfl | rfl | rfl | rfl <;> simp
theorem levelS_some {ts:List Tok} {σ:RS} {n:Nat} (hn:1≤n) (h:(levelS ts σ).1=(n:Int)):∃s,isS ts s σ=true∧6≤(levelS ts σ).2∧(levelS ts σ).2≤14:=by
 unfold levelS levelIn at h ⊢
 cases hf:levelsL.find? fun p=>isS ts p.1 σ with
 | none=>rw[hf] at h;dsimp only at h;omega
 | some p =>
  have h1:=List.find?_some hf
  have h2:=List.mem_of_find?_eq_some hf
  refine⟨p.1,h1,?_⟩
  unfold levelsL at h2
  simp only[List.mem_cons,List.not_mem_nil,or_false] at h2
  rcases h2 with rfl | rfl | rfl | rfl | rfl | rfl | rfl | rfl | rfl <;> simp
theorem tok_get {ts:List Tok} {i:Nat} (h:i<ts.length):ts[i]?=some (tokL ts i):=by
 unfold tokL;rw[List.getD_eq_getElem?_getD,List.getElem?_eq_getElem h];rfl
theorem St.small {ts:List Tok} {σ:RS} (h:St ts σ):σ.exprs.length≤30000:=by have:=h.room;have:=h.lt;have:=h.len;omega
section
variable {ts:List Tok} (he:EndOk ts) (ht:TokOk ts)
include he
theorem tot_pre {σ:RS} (hs:St ts σ) (ih:∀j' σ',meas ts j' σ'<meas ts .pre σ→St ts σ'→JobOk σ' j'→Res ts j' σ'):Res ts .pre σ:=by
 obtain⟨ge,gd,ga,gx,gc⟩:=go_enter' (ts:=ts) hs.lt
 obtain⟨x,hx⟩:∃x,x=enterS ts σ:=⟨_,rfl⟩
 rw[←hx] at ge gd ga gx gc
 have hd0:=hs.d0
 have hd30:=hs.d30
 by_cases h0:x.code=0
 ·have hd:=gc h0
  have sx:St ts x:=hs.go ge (by omega) (by omega)
  by_cases hk:prefixK ts x prefixL=0
  ·obtain⟨f1,a,l1,τ,r1,k1,d1,v1⟩:=ih .atom x (meas_deep (by omega) gd hd0 hd30 (by simp[rankJ])) sx h0
   have s1:St ts τ:=sx.go k1 (by omega) (by omega)
   refine⟨f1+1,a,[],leaveS τ,?_,go_zero ((ge.trans k1).trans (go_leave k1.lt)),by show τ.deep-1=σ.deep;omega,leave_ix v1⟩
   rw[runE_go hs.ok]
   simp only[preG]
   rw[←hx,if_pos h0,if_pos hk,runE_le (f:=f1) (by omega) _ _ _ r1]
   simp only[Option.bind_some]
   rw[if_pos s1.ok]
  ·obtain⟨s,hi,hkk⟩:=prefixK_some hk
   have g1:=go_step' he sx.lt (isS_kind hi).1
   have s1:St ts (stepS x):=sx.go g1 (by show 0≤x.deep;omega) (by show x.deep≤30;omega)
   obtain⟨f1,a,l1,τ,r1,k1,d1,v1⟩:=ih .pre (stepS x) (meas_at (by unfold stepS;simp;omega) hs.lt (by simp[rankJ])) s1 trivial
   have q1:τ.deep=x.deep:=d1
   have s2:St ts τ:=s1.go k1 (by omega) (by omega)
   obtain⟨X,hX⟩:∃X:Ex,X={ ex0 with kind:=prefixK ts x prefixL,a:=a,pos:=((tokL ts x.at_).at_:Int) }:=⟨_,rfl⟩
   have P:=((g1.trans k1).less (m:=0+1) (by omega)).put (x:=X) fun hz _=>hX ▸ good1 s2.small hkk (v1 hz)
   refine⟨f1+1,(τ.exprs.length:Int),[],leaveS (putS X τ),?_,go_zero ((ge.trans P).trans (go_leave P.lt)),by show τ.deep-1=σ.deep;omega,leave_ix (ix_put X τ)⟩
   rw[runE_go hs.ok]
   simp only[preG]
   rw[←hx,if_pos h0,if_neg hk,runE_le (f:=f1) (by omega) _ _ _ r1]
   simp only[Option.bind_some]
   rw[putA_ok s2.ok,hX]
 ·refine⟨1,0,[],leaveS x,?_,go_zero (ge.trans (go_leave ge.lt)),by show x.deep-1=σ.deep;omega,fun hz=>absurd hz h0⟩
  rw[runE_go hs.ok]
  simp only[preG]
  rw[←hx,if_neg h0]
omit he in
theorem tot_bin {least:Nat} {σ:RS} (hs:St ts σ) (h1:1≤least) (h6:least≤6) (ih:∀j' σ',meas ts j' σ'<meas ts (.bin least) σ→St ts σ'→JobOk σ' j'→Res ts j' σ'):Res ts (.bin least) σ:=by
 have hd0:=hs.d0
 have hd30:=hs.d30
 by_cases h5:5<least
 ·obtain⟨f1,a,l1,τ,r1,k1,d1,v1⟩:=ih .pre σ (meas_rank (qL _) rfl (by simp[rankJ];omega)) hs trivial
  refine⟨f1+1,a,l1,τ,?_,k1,d1,v1⟩
  rw[runE_go hs.ok]
  simp only[binG]
  rw[if_pos h5,r1]
 ·obtain⟨f1,a,l1,τ,r1,k1,d1,v1⟩:=ih (.bin (least+1)) σ (meas_rank (qL _) rfl (by simp[rankJ];omega)) hs ⟨by omega,by omega⟩
  have s1:St ts τ:=hs.go k1 (by omega) (by omega)
  obtain⟨f2,c,l2,υ,r2,k2,d2,v2⟩:=ih (.loop least a) τ (meas_rank k1.at_ d1 (by simp[rankJ];omega)) s1 ⟨h1,by omega,v1⟩
  refine⟨f1+f2+1,c,l2,υ,?_,go_zero (k1.trans k2),by omega,v2⟩
  rw[runE_go hs.ok]
  simp only[binG]
  rw[if_neg h5,runE_le (f:=f1) (by omega) _ _ _ r1]
  simp only[Option.bind_some]
  rw[runE_le (f:=f2) (by omega) _ _ _ r2]
theorem tot_loop {least:Nat} {a:Int} {σ:RS} (hs:St ts σ) (h1:1≤least) (h5:least≤5) (ha:IxOk σ a) (ih:∀j' σ',meas ts j' σ'<meas ts (.loop least a) σ→St ts σ'→JobOk σ' j'→Res ts j' σ'):Res ts (.loop least a) σ:=by
 have hd0:=hs.d0
 have hd30:=hs.d30
 by_cases h0:σ.code=0
 ·by_cases hl:(levelS ts σ).1=(least:Int)
  ·obtain⟨s,hi,hk1,hk2⟩:=levelS_some h1 hl
   have g1:=go_step' he hs.lt (isS_kind hi).1
   have s1:St ts (stepS σ):=hs.go g1 hd0 hd30
   obtain⟨f1,b,l1,τ,r1,k1,d1,v1⟩:=ih (.bin (least+1)) (stepS σ) (meas_at (by unfold stepS;simp) hs.lt (by simp[rankJ] <;> omega)) s1 ⟨by omega,by omega⟩
   have q1:τ.deep=σ.deep:=d1
   have s2:St ts τ:=s1.go k1 (by omega) (by omega)
   obtain⟨X,hX⟩:∃X:Ex,X={ ex0 with kind:=(levelS ts σ).2,a:=a,b:=b,pos:=((tokL ts σ.at_).at_:Int) }:=⟨_,rfl⟩
   have G:=g1.trans k1
   have P:=(G.less (m:=0+1) (by omega)).put (x:=X) fun hz _=>hX ▸ good2 s2.small (by omega) ((ha.go g1).go k1 hz) (v1 hz)
   have s3:St ts (putS X τ):=hs.go P (by show 0≤τ.deep;omega) (by show τ.deep≤30;omega)
   by_cases h3:least=3
   ·refine⟨f1+1,(τ.exprs.length:Int),[],putS X τ,?_,P,q1,ix_put X τ⟩
    rw[runE_go hs.ok]
    simp only[loopG]
    rw[if_pos h0,if_pos hl,runE_le (f:=f1) (by omega) _ _ _ r1]
    simp only[Option.bind_some]
    rw[putA_ok s2.ok,if_pos h3,hX]
   ·obtain⟨f2,c,l2,υ,r2,k2,d2,v2⟩:=ih (.loop least (τ.exprs.length:Int)) (putS X τ) (meas_at (by have:=G.at_;have:=G.room;have:=G.more;show σ.at_<τ.at_;omega) hs.lt (by simp[rankJ])) s3 ⟨h1,h5,ix_put X τ⟩
    refine⟨f1+f2+1,c,l2,υ,?_,go_zero (P.trans k2),by rw[d2];exact q1,v2⟩
    rw[runE_go hs.ok]
    simp only[loopG]
    rw[if_pos h0,if_pos hl,runE_le (f:=f1) (by omega) _ _ _ r1]
    simp only[Option.bind_some]
    rw[putA_ok s2.ok,if_neg h3,←hX,runE_le (f:=f2) (by omega) _ _ _ r2]
  ·refine⟨1,a,[],σ,?_,Go.refl hs.lt,rfl,ha⟩
   rw[runE_go hs.ok]
   simp only[loopG]
   rw[if_pos h0,if_neg hl]
 ·refine⟨1,a,[],σ,?_,Go.refl hs.lt,rfl,ha⟩
  rw[runE_go hs.ok]
  simp only[loopG]
  rw[if_neg h0]
theorem tot_args {acc:List Int} {σ:RS} (hs:St ts σ) (hl:acc.length≤σ.at_) (ha:∀a ∈ acc,IxOk σ a) (ih:∀j' σ',meas ts j' σ'<meas ts (.args acc) σ→St ts σ'→JobOk σ' j'→Res ts j' σ'):Res ts (.args acc) σ:=by
 have hd0:=hs.d0
 have hd30:=hs.d30
 have hlen:acc.length≤40000:=by have:=hs.lt;have:=hs.len;omega
 by_cases hi:isS ts [44] σ=true
 ·have g1:=go_step' he hs.lt (isS_kind hi).1
  have s1:St ts (stepS σ):=hs.go g1 hd0 hd30
  obtain⟨f1,b,l1,τ,r1,k1,d1,v1⟩:=ih .expr (stepS σ) (meas_at (by unfold stepS;simp) hs.lt (by simp[rankJ])) s1 trivial
  have q1:τ.deep=σ.deep:=d1
  have s2:St ts τ:=s1.go k1 (by omega) (by omega)
  have G:=g1.trans k1
  have hat:σ.at_<τ.at_:=by have:=k1.at_;have:(stepS σ).at_=σ.at_+1:=rfl;omega
  obtain⟨f2,c,l2,υ,r2,k2,d2,v2⟩:=ih (.args (acc++[b])) τ (meas_at hat hs.lt (by simp[rankJ])) s2 ⟨by simp;omega,fun a h=>by
   rcases List.mem_append.1 h with h | h
   ·exact((ha a h).go g1).go k1
   ·obtain rfl:=List.mem_singleton.1 h;exact v1⟩
  refine⟨f1+f2+1,c,l2,υ,?_,go_zero (G.trans k2),by omega,v2⟩
  rw[runE_go hs.ok]
  simp only[argsG]
  rw[if_pos hlen,if_pos hi,runE_le (f:=f1) (by omega) _ _ _ r1]
  simp only[Option.bind_some]
  rw[runE_le (f:=f2) (by omega) _ _ _ r2]
 ·refine⟨1,0,acc,σ,?_,Go.refl hs.lt,rfl,hl,ha⟩
  rw[runE_go hs.ok]
  simp only[argsG]
  rw[if_pos hlen,if_neg hi]
include ht
theorem tot_atom {σ:RS} (hs:St ts σ) (h0:σ.code=0) (ih:∀j' σ',meas ts j' σ'<meas ts .atom σ→St ts σ'→JobOk σ' j'→Res ts j' σ'):Res ts .atom σ:=by
 have hd0:=hs.d0
 have hd30:=hs.d30
 obtain⟨t1,t2,t3⟩:=ht _ _ (tok_get hs.lt)
 have one:∀(X:Ex),(tokL ts σ.at_).kind≠5→GoodX X (stepS σ).exprs.length→Go ts 0 σ (putS X (stepS σ))∧okS (stepS σ)=true:=fun X hk hX =>
  have g1:=go_step' he hs.lt hk
  ⟨(g1.less (m:=0+1) (by omega)).put fun _ _=>hX,(hs.go g1 hd0 hd30).ok⟩
 have sml:(stepS σ).exprs.length≤30000:=hs.small
 by_cases k2:(tokL ts σ.at_).kind=2
 ·obtain⟨P,o⟩:=one { ex0 with kind:=1,v:=(tokL ts σ.at_).v,pos:=((tokL ts σ.at_).at_:Int) } (by omega) (goodN sml (t2 k2))
  refine⟨1,((stepS σ).exprs.length:Int),[],_,?_,P,rfl,ix_put _ _⟩
  rw[runE_go hs.ok]
  simp only[atomG]
  rw[if_pos k2,putA_ok o]
 by_cases i1:isS ts [116,114,117,101] σ=true
 ·obtain⟨P,o⟩:=one { ex0 with kind:=2,v:=1,pos:=((tokL ts σ.at_).at_:Int) } (isS_kind i1).1 (goodT sml)
  refine⟨1,((stepS σ).exprs.length:Int),[],_,?_,P,rfl,ix_put _ _⟩
  rw[runE_go hs.ok]
  simp only[atomG]
  rw[if_neg k2,if_pos i1,putA_ok o]
 by_cases i2:isS ts [102,97,108,115,101] σ=true
 ·obtain⟨P,o⟩:=one { ex0 with kind:=2,pos:=((tokL ts σ.at_).at_:Int) } (isS_kind i2).1 (goodF sml)
  refine⟨1,((stepS σ).exprs.length:Int),[],_,?_,P,rfl,ix_put _ _⟩
  rw[runE_go hs.ok]
  simp only[atomG]
  rw[if_neg k2,if_neg i1,if_pos i2,putA_ok o]
 by_cases k1:(tokL ts σ.at_).kind=1
 ·have g1:=go_step' he hs.lt (by omega)
  have s1:St ts (stepS σ):=hs.go g1 hd0 hd30
  have c1:(stepS σ).code=0:=h0
  by_cases i3:isS ts [105,115] (stepS σ)=true
  ·have g2:=go_step' he s1.lt (isS_kind i3).1
   have s2:St ts (stepS (stepS σ)):=s1.go g2 hd0 hd30
   have g3:=go_name he s2.lt
   have s3:St ts (nameS ts (stepS (stepS σ))):=s2.go g3 (by rw[name_deep];exact hd0) (by rw[name_deep];exact hd30)
   obtain⟨X,hX⟩:∃X:Ex,X={ ex0 with kind:=20,name:=str (tokL ts σ.at_).text,state:=str (nameV ts (stepS (stepS σ))),pos:=((tokL ts σ.at_).at_:Int) }:=⟨_,rfl⟩
   have G:=(g1.trans g2).trans g3
   have P:=(G.less (m:=0+1) (by omega)).put (x:=X) fun hz _=>by
    have hb:nameB ts (stepS (stepS σ))=true:=by
     by_cases hb:nameB ts (stepS (stepS σ))=true
     ·exact hb
     ·exfalso
      unfold nameS at hz
      rw[if_neg hb] at hz
      unfold failS at hz
      rw[if_pos (show(stepS (stepS σ)).code=0 from h0)] at hz
      exact absurd (show(2:Int)=0 from hz) (by decide)
    obtain⟨u1,u2,u3⟩:=ht _ _ (tok_get s2.lt)
    have hv:nameV ts (stepS (stepS σ))=(tokL ts (stepS (stepS σ)).at_).text:=by unfold nameV;rw[if_pos hb]
    have hk:(tokL ts (stepS (stepS σ)).at_).kind=1:=by
     unfold nameB at hb
     simp only[Bool.and_eq_true,decide_eq_true_eq] at hb
     exact hb.2
    rw[hX,hv]
    exact good_is s3.small (t1 k1) t3 (u1 hk) u3
   refine⟨1,((nameS ts (stepS (stepS σ))).exprs.length:Int),[],putS X (nameS ts (stepS (stepS σ))),?_,P,(name_deep ts _).trans rfl,ix_put _ _⟩
   rw[runE_go hs.ok]
   simp only[atomG]
   rw[if_neg k2,if_neg i1,if_neg i2,if_pos k1,if_pos i3,putA_ok s3.ok,hX]
  by_cases i4:isS ts [40] (stepS σ)=true
  ·have g2:=go_step' he s1.lt (isS_kind i4).1
   have s2:St ts (stepS (stepS σ)):=s1.go g2 hd0 hd30
   by_cases i5:isS ts [41] (stepS (stepS σ))=true
   ·have g3:=go_step' he s2.lt (isS_kind i5).1
    have s3:St ts (stepS (stepS (stepS σ))):=s2.go g3 hd0 hd30
    obtain⟨X,hX⟩:∃X:Ex,X={ ex0 with kind:=19,name:=str (tokL ts σ.at_).text,pos:=((tokL ts σ.at_).at_:Int) }:=⟨_,rfl⟩
    have P:=(((g1.trans g2).trans g3).less (m:=0+1) (by omega)).put (x:=X) fun hz _=>hX ▸ good_call (al:=[]) s3.small (t1 k1) t3 (by simp) (fun x hx=>by cases hx)
    refine⟨1,((stepS (stepS (stepS σ))).exprs.length:Int),[],putS X (stepS (stepS (stepS σ))),?_,P,rfl,ix_put _ _⟩
    rw[runE_go hs.ok]
    simp only[atomG]
    rw[if_neg k2,if_neg i1,if_neg i2,if_pos k1,if_neg i3,if_pos i4,if_pos i5,putA_ok s3.ok,hX]
   ·obtain⟨f1,a,l1,τ,r1,m1,d1,v1⟩:=ih .expr (stepS (stepS σ)) (meas_at (by show σ.at_<σ.at_+1+1;omega) hs.lt (by simp[rankJ])) s2 trivial
    have q1:τ.deep=σ.deep:=d1
    have s3:St ts τ:=s2.go m1 (by omega) (by omega)
    have hat:σ.at_+2≤τ.at_:=by have:=m1.at_;have:(stepS (stepS σ)).at_=σ.at_+1+1:=rfl;omega
    obtain⟨f2,c,l2,υ,r2,m2,d2,v2,w2⟩:=ih (.args [a]) τ (meas_at (by omega) hs.lt (by simp[rankJ])) s3 ⟨by simp;omega,fun x hx=>by obtain rfl:=List.mem_singleton.1 hx;exact v1⟩
    have q2:υ.deep=σ.deep:=by omega
    have s4:St ts υ:=s3.go m2 (by omega) (by omega)
    have g4:=go_want he s4.lt [41]
    have s5:St ts (wantS ts [41] υ):=s4.go g4 (by rw[want_deep];omega) (by rw[want_deep];omega)
    obtain⟨X,hX⟩:∃X:Ex,X={ ex0 with kind:=19,name:=str (tokL ts σ.at_).text,args:=l2,pos:=((tokL ts σ.at_).at_:Int) }:=⟨_,rfl⟩
    have G:=(((g1.trans g2).trans m1).trans m2).trans g4
    have P:=(G.less (m:=0+1) (by omega)).put (x:=X) fun hz _=>hX ▸ good_call s5.small (t1 k1) t3 (by have:=s4.lt;have:=s4.len;omega) fun x hx=>(w2 x hx).go g4 hz
    refine⟨f1+f2+1,((wantS ts [41] υ).exprs.length:Int),[],putS X (wantS ts [41] υ),?_,P,(want_deep ts _ _).trans q2,ix_put _ _⟩
    rw[runE_go hs.ok]
    simp only[atomG]
    rw[if_neg k2,if_neg i1,if_neg i2,if_pos k1,if_neg i3,if_pos i4,if_neg i5,runE_le (f:=f1) (by omega) _ _ _ r1]
    simp only[Option.bind_some]
    rw[runE_le (f:=f2) (by omega) _ _ _ r2]
    simp only[Option.bind_some]
    rw[putA_ok s5.ok,hX]
  ·obtain⟨P,o⟩:=one { ex0 with kind:=3,name:=str (tokL ts σ.at_).text,pos:=((tokL ts σ.at_).at_:Int) } (by omega) (good_nm sml (t1 k1) t3)
   refine⟨1,((stepS σ).exprs.length:Int),[],_,?_,P,rfl,ix_put _ _⟩
   rw[runE_go hs.ok]
   simp only[atomG]
   rw[if_neg k2,if_neg i1,if_neg i2,if_pos k1,if_neg i3,if_neg i4,putA_ok o]
 ·have g1:=go_want he hs.lt [40]
  have s1:St ts (wantS ts [40] σ):=hs.go g1 (by rw[want_deep];exact hd0) (by rw[want_deep];exact hd30)
  obtain⟨f1,a,l1,τ,r1,m1,d1,v1⟩:=ih .expr _ (meas_rank g1.at_ (want_deep ts _ _) (by simp[rankJ])) s1 trivial
  have g2:=go_want he m1.lt [41]
  refine⟨f1+1,a,[],wantS ts [41] τ,?_,go_zero ((g1.trans m1).trans g2),by rw[want_deep,d1,want_deep],IxOk.go v1 g2⟩
  rw[runE_go hs.ok]
  simp only[atomG]
  rw[if_neg k2,if_neg i1,if_neg i2,if_neg k1,r1]
  rfl
theorem tot_all:∀(M:Nat) (j:Job) (σ:RS),meas ts j σ≤M→St ts σ→JobOk σ j→Res ts j σ:=by
 intro M
 induction M with
 | zero =>
  intro j σ hm hs hj
  exfalso
  unfold meas at hm
  have:=hs.lt
  have h2:1*1024≤(ts.length - σ.at_)*1024:=Nat.mul_le_mul_right _ (by omega)
  omega
 | succ M ih =>
  intro j σ hm hs hj
  have ih':∀j' σ',meas ts j' σ'<meas ts j σ→St ts σ'→JobOk σ' j'→Res ts j' σ':=fun j' σ' h=>ih j' σ' (by omega)
  cases j with
  | expr=>exact tot_expr he hs ih'
  | pre=>exact tot_pre he hs ih'
  | atom=>exact tot_atom he ht hs hj ih'
  | bin least=>exact tot_bin hs hj.1 hj.2 ih'
  | loop least a=>exact tot_loop he hs hj.1 hj.2.1 hj.2.2 ih'
  | args acc=>exact tot_args he hs hj.1 hj.2 ih'
end
end Go.Proofs.YtpfmlfcaadnnpaaDoor
namespace Go.Proofs.YtpfmlfcaadnnpaaDoor
open Go.RowKit Lx
theorem readX_none {cd f:Int} {W:World} {r:Ending} {Y:World} (h:r=.returned (.tuple #[.agg #[.slice none 0 0,.slice none 0 0],.agg #[.int .i64 cd,.int .i64 f]])∧Below W.heap.size W Y):ReadX [] cd f W r Y :=
 ⟨none,0,h.1,h.2,⟨[],rfl,qO _ _ _ _,fun p hp=>by cases hp⟩⟩
theorem expr_run {l:List UInt8} {ts:List Tok} {f:Nat} {v:Int} {lx:List Int} {τ:RS} (ht:lexT l ts none) (hl:l.length≤20000) (hr:runE (ts++[endT l.length]) f .expr rs0=some (v,lx,τ)) (h0:τ.code=0) (h5:(tokL (ts++[endT l.length]) τ.at_).kind=5) (hn:τ.exprs.length≤40000) (W:World) (hS:Signs W) :
  Calls prog 6 #[.string (str l)] W fun r Y=>ExprX τ.exprs 0 0 W r Y :=
 expr_call _ _ _ _ hn W (Hd fun W2 hb=>read_ok l ts ht hl f τ v lx hr h0 h5 W2 (hS.below hb))
def mT (g:Nat→Nat) (t:Tok):Tok:={ t with at_:=g t.at_ }
def mI (g:Nat→Nat) (z:Int):Int:=(g z.toNat:Int)
def mX (g:Nat→Nat) (x:Ex):Ex:={ x with pos:=mI g x.pos }
def mS (g:Nat→Nat) (σ:RS):RS:={ σ with exprs:=σ.exprs.map (mX g),pos:=mI g σ.pos }
def mA (g:Nat→Nat) (r:Int×List Int×RS):Int×List Int×RS:=(r.1,r.2.1,mS g r.2.2)
theorem mI_nat (g:Nat→Nat) (n:Nat):mI g (n:Int)=(g n:Int):=by simp[mI]
theorem tokL_m {g:Nat→Nat} (h0:g 0=0) (ts:List Tok) (i:Nat):tokL (ts.map (mT g)) i=mT g (tokL ts i):=by
 unfold tokL
 rw[List.getD_eq_getElem?_getD,List.getD_eq_getElem?_getD,List.getElem?_map]
 cases ts[i]? with
 | none=>simp[mT,h0]
 | some t=>rfl
section
variable {g:Nat→Nat} (h0:g 0=0) (ts:List Tok)
include h0
theorem isS_m (s:List UInt8) (σ:RS):isS (ts.map (mT g)) s (mS g σ)=isS ts s σ:=by
 unfold isS;rw[show(mS g σ).at_=σ.at_ from rfl,tokL_m h0];rfl
theorem failS_m (e:Int) (σ:RS):failS (ts.map (mT g)) e (mS g σ)=mS g (failS ts e σ):=by
 unfold failS
 by_cases h:σ.code=0
 ·rw[if_pos h,if_pos (show(mS g σ).code=0 from h),show(mS g σ).at_=σ.at_ from rfl,tokL_m h0]
  simp[mS,mT,mI]
 ·rw[if_neg h,if_neg (show ¬(mS g σ).code=0 from h)]
omit h0 in
theorem stepS_m (σ:RS):stepS (mS g σ)=mS g (stepS σ):=rfl
omit h0 in
theorem leaveS_m (σ:RS):leaveS (mS g σ)=mS g (leaveS σ):=rfl
theorem wantS_m (s:List UInt8) (σ:RS):wantS (ts.map (mT g)) s (mS g σ)=mS g (wantS ts s σ):=by
 unfold wantS;rw[isS_m h0,failS_m h0,stepS_m];split <;> rfl
theorem nameB_m (σ:RS):nameB (ts.map (mT g)) (mS g σ)=nameB ts σ:=by
 unfold nameB;rw[show(mS g σ).at_=σ.at_ from rfl,tokL_m h0];rfl
theorem nameS_m (σ:RS):nameS (ts.map (mT g)) (mS g σ)=mS g (nameS ts σ):=by
 unfold nameS;rw[nameB_m h0,failS_m h0,stepS_m];split <;> rfl
theorem nameV_m (σ:RS):nameV (ts.map (mT g)) (mS g σ)=nameV ts σ:=by
 unfold nameV;rw[nameB_m h0,show(mS g σ).at_=σ.at_ from rfl,tokL_m h0];rfl
omit h0 in
theorem putS_m (x:Ex) (σ:RS):putS (mX g x) (mS g σ)=mS g (putS x σ):=by simp[putS,mS]
omit h0 in
theorem okS_m (σ:RS):okS (mS g σ)=okS σ:=by unfold okS;rw[show(mS g σ).exprs.length=σ.exprs.length by simp[mS]];rfl
omit h0 in
theorem code_m (σ:RS):(mS g σ).code=σ.code:=rfl
omit h0 in
theorem at_m (σ:RS):(mS g σ).at_=σ.at_:=rfl
omit h0 in
theorem room_m (σ:RS):(mS g σ).exprs.length=σ.exprs.length:=by simp[mS]
theorem levelS_m (σ:RS):levelS (ts.map (mT g)) (mS g σ)=levelS ts σ:=by
 unfold levelS levelIn
 have e:(fun p:List UInt8×Int×Int=>isS (ts.map (mT g)) p.1 (mS g σ))=fun p=>isS ts p.1 σ:=funext fun p=>isS_m h0 ts _ _
 rw[e]
theorem prefixK_m (σ:RS) (l:List (List UInt8×Int)):prefixK (ts.map (mT g)) (mS g σ) l=prefixK ts σ l:=by
 unfold prefixK
 have e:(fun p:List UInt8×Int=>isS (ts.map (mT g)) p.1 (mS g σ))=fun p=>isS ts p.1 σ:=funext fun p=>isS_m h0 ts _ _
 rw[e]
theorem enterS_m (σ:RS):enterS (ts.map (mT g)) (mS g σ)=mS g (enterS ts σ):=by
 unfold enterS
 rw[show tooDeep (mS g σ)=tooDeep σ from rfl,failS_m h0]
 split <;> rfl
theorem tokpos_m (i:Nat):((tokL (ts.map (mT g)) i).at_:Int)=mI g ((tokL ts i).at_:Int):=by rw[tokL_m h0,mI_nat];rfl
theorem tokkind_m (i:Nat):(tokL (ts.map (mT g)) i).kind=(tokL ts i).kind:=by rw[tokL_m h0];rfl
theorem toktext_m (i:Nat):(tokL (ts.map (mT g)) i).text=(tokL ts i).text:=by rw[tokL_m h0];rfl
theorem tokv_m (i:Nat):(tokL (ts.map (mT g)) i).v=(tokL ts i).v:=by rw[tokL_m h0];rfl
omit h0 in
theorem putA_m {x x':Ex} (hx:x'=mX g x) (σ:RS) {K K':Int→RS→Ans} (hK:∀n y,K' n (mS g y)=(K n y).map (mA g)):putA x' (mS g σ) K'=(putA x σ K).map (mA g):=by
 subst hx
 unfold putA
 rw[okS_m,room_m,putS_m]
 split
 ·exact hK _ _
 ·rfl
omit h0 in
theorem bind_m {α:Type} {m:α→α} {o o':Ans} (ho:o'=o.map (mA g)) {K K':Int×List Int×RS→Option α} (hK:∀r,K' (mA g r)=(K r).map m):o'.bind K'=(o.bind K).map m:=by
 subst ho
 cases o with
 | none=>rfl
 | some r=>exact hK r
theorem atomG_m {F F':Job→RS→Ans} (hF:∀j σ,F' j (mS g σ)=(F j σ).map (mA g)) (σ:RS):atomG (ts.map (mT g)) F' (mS g σ)=(atomG ts F σ).map (mA g):=by
 unfold atomG
 dsimp only
 simp only[at_m,tokkind_m h0,toktext_m h0,tokv_m h0,tokpos_m h0,stepS_m,isS_m h0,nameS_m h0,nameV_m h0,wantS_m h0,hF]
 repeat' split
 ·refine putA_m (g:=g) ?_ _ (fun n y=>?_) <;> rfl
 ·refine putA_m (g:=g) ?_ _ (fun n y=>?_) <;> rfl
 ·refine putA_m (g:=g) ?_ _ (fun n y=>?_) <;> rfl
 ·refine putA_m (g:=g) ?_ _ (fun n y=>?_) <;> rfl
 ·refine putA_m (g:=g) ?_ _ (fun n y=>?_) <;> rfl
 ·refine bind_m (g:=g) ?_ (fun r=>?_)
  ·rfl
  ·refine bind_m (g:=g) ?_ (fun q=>?_)
   ·exact hF _ _
   ·simp only[mA,wantS_m h0]
    refine putA_m (g:=g) ?_ _ (fun n y=>?_) <;> rfl
 ·refine putA_m (g:=g) ?_ _ (fun n y=>?_) <;> rfl
 ·refine bind_m (g:=g) ?_ (fun r=>?_)
  ·rfl
  ·simp only[mA,wantS_m h0];rfl
theorem preG_m {F F':Job→RS→Ans} (hF:∀j σ,F' j (mS g σ)=(F j σ).map (mA g)) (σ:RS):preG (ts.map (mT g)) F' (mS g σ)=(preG ts F σ).map (mA g):=by
 unfold preG
 dsimp only
 simp only[enterS_m h0,code_m,at_m,prefixK_m h0,tokpos_m h0,stepS_m,leaveS_m,hF]
 repeat' split
 ·refine bind_m (g:=g) ?_ (fun r=>?_)
  ·rfl
  ·simp only[mA,okS_m,leaveS_m]
   split <;> rfl
 ·refine bind_m (g:=g) ?_ (fun r=>?_)
  ·rfl
  ·simp only[mA]
   refine putA_m (g:=g) ?_ _ (fun n y=>?_)
   ·rfl
   ·simp only[leaveS_m];rfl
 ·rfl
theorem exprG_m {F F':Job→RS→Ans} (hF:∀j σ,F' j (mS g σ)=(F j σ).map (mA g)) (σ:RS):exprG (ts.map (mT g)) F' (mS g σ)=(exprG ts F σ).map (mA g):=by
 unfold exprG
 dsimp only
 simp only[enterS_m h0,code_m,at_m,isS_m h0,tokpos_m h0,stepS_m,leaveS_m,hF]
 repeat' split
 ·refine bind_m (g:=g) ?_ (fun r=>?_)
  ·rfl
  ·simp only[mA,wantS_m h0,hF]
   refine bind_m (g:=g) ?_ (fun q=>?_)
   ·rfl
   ·simp only[mA,wantS_m h0,hF]
    refine bind_m (g:=g) ?_ (fun u=>?_)
    ·rfl
    ·simp only[mA]
     refine putA_m (g:=g) ?_ _ (fun n y=>?_)
     ·rfl
     ·simp only[leaveS_m];rfl
 ·refine bind_m (g:=g) ?_ (fun o=>?_)
  ·rfl
  ·simp only[mA,at_m,isS_m h0,stepS_m,hF,okS_m,leaveS_m]
   repeat' split
   ·refine bind_m (g:=g) ?_ (fun r=>?_)
    ·rfl
    ·simp only[mA]
     refine putA_m (g:=g) ?_ _ (fun n y=>?_)
     ·rfl
     ·simp only[leaveS_m];rfl
   ·refine bind_m (g:=g) ?_ (fun r=>?_)
    ·rfl
    ·simp only[mA]
     refine putA_m (g:=g) ?_ _ (fun n y=>?_)
     ·rfl
     ·simp only[leaveS_m];rfl
   ·rfl
   ·rfl
 ·rfl
omit h0 in
theorem binG_m {F F':Job→RS→Ans} (hF:∀j σ,F' j (mS g σ)=(F j σ).map (mA g)) (least:Nat) (σ:RS):binG F' least (mS g σ)=(binG F least σ).map (mA g):=by
 unfold binG
 simp only[hF]
 split
 ·rfl
 ·refine bind_m (g:=g) ?_ (fun r=>?_)
  ·rfl
  ·exact hF _ _
theorem loopG_m {F F':Job→RS→Ans} (hF:∀j σ,F' j (mS g σ)=(F j σ).map (mA g)) (least:Nat) (a:Int) (σ:RS):loopG (ts.map (mT g)) F' least a (mS g σ)=(loopG ts F least a σ).map (mA g):=by
 unfold loopG
 simp only[code_m,levelS_m h0,at_m,tokpos_m h0,stepS_m,hF]
 repeat' split
 ·refine bind_m (g:=g) ?_ (fun r=>?_)
  ·rfl
  ·simp only[mA]
   refine putA_m (g:=g) ?_ _ (fun n y=>?_)
   ·rfl
   ·rfl
 ·refine bind_m (g:=g) ?_ (fun r=>?_)
  ·rfl
  ·simp only[mA]
   refine putA_m (g:=g) ?_ _ (fun n y=>?_)
   ·rfl
   ·exact hF _ _
 ·rfl
 ·rfl
theorem argsG_m {F F':Job→RS→Ans} (hF:∀j σ,F' j (mS g σ)=(F j σ).map (mA g)) (acc:List Int) (σ:RS):argsG (ts.map (mT g)) F' acc (mS g σ)=(argsG ts F acc σ).map (mA g):=by
 unfold argsG
 simp only[isS_m h0,stepS_m,hF]
 repeat' split
 ·refine bind_m (g:=g) ?_ (fun r=>?_)
  ·rfl
  ·exact hF _ _
 ·rfl
 ·rfl
theorem runE_m (f:Nat):∀(j:Job) (σ:RS),runE (ts.map (mT g)) f j (mS g σ)=(runE ts f j σ).map (mA g):=by
 induction f with
 | zero=>intro j σ;rfl
 | succ f ih =>
  intro j σ
  simp only[runE,okS_m]
  split
  ·cases j with
   | expr=>exact exprG_m h0 ts ih σ
   | pre=>exact preG_m h0 ts ih σ
   | atom=>exact atomG_m h0 ts ih σ
   | bin least=>exact binG_m ih least σ
   | loop least a=>exact loopG_m h0 ts ih least a σ
   | args acc=>exact argsG_m h0 ts ih acc σ
  ·rfl
end
end Go.Proofs.YtpfmlfcaadnnpaaDoor
