import Derived.Test.YtlbhlncipajapaaGreatDoorPt18
import Derived.Deep.RegionHeld3
import Derived.Deep.CutRange
set_option maxHeartbeats 16000000
set_option maxRecDepth 100000
set_option linter.unusedVariables false
open Go.Proofs.Tryz(prog)
namespace Go.Proofs.YtlbhlncipajapaaGreatDoor
open Lx
theorem exok_parts {k a b c p v:Int} {n:Nat} (hn:n≤30000) (hk:1≤k∧k≤21) (ha:0≤a∧a≤n) (hb:0≤b∧b≤n) (hc:0≤c∧c≤n) (hv:0≤v∧v≤9223372036854775807) {nm st:ByteArray} (hnm:nm.size≤20000) (hst:st.size≤20000) {l:List Int} (hl:l.length≤30000) (hla:∀x ∈ l,0≤x∧x<(n:Int)):ExOk ⟨k,a,b,c,nm,st,v,l,p⟩:=by
 refine⟨?_,?_,?_,?_,?_,?_,?_,?_,?_⟩
 ·unfold i64ok;dsimp only;omega
 ·unfold i64ok;dsimp only;omega
 ·unfold i64ok;dsimp only;omega
 ·unfold i64ok;dsimp only;omega
 ·unfold i64ok;dsimp only;omega
 ·unfold reachN;dsimp only;omega
 ·unfold reachN;dsimp only;omega
 ·unfold reachN;dsimp only;omega
 ·intro x hx;have:=hla x hx;unfold i64ok;omega
theorem zz (n:Nat):(0:Int)≤0∧(0:Int)≤(n:Int):=by omega
theorem zv:(0:Int)≤0∧(0:Int)≤9223372036854775807:=by omega
theorem sz0:(⟨#[]⟩:ByteArray).size=0:=rfl
theorem good1 {k a p:Int} {n:Nat} (hn:n≤30000) (hk:k=4∨k=5∨k=16∨k=21) (ha:0≤a∧a<(n:Int)):GoodX { ex0 with kind:=k,a:=a,pos:=p } n:=by
 refine⟨?_,exok_parts hn (by first | omega | exact zz _ | exact zv) (by first | omega | exact zz _ | exact zv) (by first | omega | exact zz _ | exact zv) (by first | omega | exact zz _ | exact zv) (by first | omega | exact zz _ | exact zv) (by decide) (by decide) (by decide) (fun x hx=>by cases hx)⟩
 rcases hk with rfl | rfl | rfl | rfl <;> simp[mayE,partsE,manyOf,ex0,namedK,mostV,ha,sz0]
theorem good2 {k a b p:Int} {n:Nat} (hn:n≤30000) (hk:(6≤k∧k≤14)∨k=17∨k=18) (ha:0≤a∧a<(n:Int)) (hb:0≤b∧b<(n:Int)):GoodX { ex0 with kind:=k,a:=a,b:=b,pos:=p } n:=by
 refine⟨?_,exok_parts hn (by first | omega | exact zz _ | exact zv) (by first | omega | exact zz _ | exact zv) (by first | omega | exact zz _ | exact zv) (by first | omega | exact zz _ | exact zv) (by first | omega | exact zz _ | exact zv) (by decide) (by decide) (by decide) (fun x hx=>by cases hx)⟩
 obtain rfl | rfl | rfl | rfl | rfl | rfl | rfl | rfl | rfl | rfl | rfl:k=6∨k=7∨k=8∨k=9∨k=10∨k=11∨k=12∨k=13∨k=14∨k=17∨k=18:=by omega
 all_goals simp[mayE,partsE,manyOf,ex0,namedK,mostV,ha,hb,sz0]
theorem good3 {a b c p:Int} {n:Nat} (hn:n≤30000) (ha:0≤a∧a<(n:Int)) (hb:0≤b∧b<(n:Int)) (hc:0≤c∧c<(n:Int)):GoodX { ex0 with kind:=15,a:=a,b:=b,c:=c,pos:=p } n:=by
 refine⟨?_,exok_parts hn (by first | omega | exact zz _ | exact zv) (by first | omega | exact zz _ | exact zv) (by first | omega | exact zz _ | exact zv) (by first | omega | exact zz _ | exact zv) (by first | omega | exact zz _ | exact zv) (by decide) (by decide) (by decide) (fun x hx=>by cases hx)⟩
 simp[mayE,partsE,manyOf,ex0,namedK,mostV,ha,hb,hc,sz0]
theorem goodN {v p:Int} {n:Nat} (hn:n≤30000) (hv:0≤v∧v≤9223372036854775807):GoodX { ex0 with kind:=1,v:=v,pos:=p } n:=by
 refine⟨?_,exok_parts hn (by first | omega | exact zz _ | exact zv) (by first | omega | exact zz _ | exact zv) (by first | omega | exact zz _ | exact zv) (by first | omega | exact zz _ | exact zv) hv (by decide) (by decide) (by decide) (fun x hx=>by cases hx)⟩
 simp[mayE,partsE,manyOf,ex0,namedK,mostV,hv,sz0]
theorem goodT {p:Int} {n:Nat} (hn:n≤30000):GoodX { ex0 with kind:=2,v:=1,pos:=p } n:=by
 refine⟨?_,exok_parts hn (by first | omega | exact zz _ | exact zv) (by first | omega | exact zz _ | exact zv) (by first | omega | exact zz _ | exact zv) (by first | omega | exact zz _ | exact zv) (by first | omega | exact zz _ | exact zv) (by decide) (by decide) (by decide) (fun x hx=>by cases hx)⟩
 simp[mayE,partsE,manyOf,ex0,namedK,mostV,sz0]
theorem goodF {p:Int} {n:Nat} (hn:n≤30000):GoodX { ex0 with kind:=2,pos:=p } n:=by
 refine⟨?_,exok_parts hn (by first | omega | exact zz _ | exact zv) (by first | omega | exact zz _ | exact zv) (by first | omega | exact zz _ | exact zv) (by first | omega | exact zz _ | exact zv) (by first | omega | exact zz _ | exact zv) (by decide) (by decide) (by decide) (fun x hx=>by cases hx)⟩
 simp[mayE,partsE,manyOf,ex0,namedK,mostV,sz0]
theorem str_sz (l:List UInt8):(str l).size=l.length:=by simp[str,ByteArray.size]
theorem good_nm {l:List UInt8} {p:Int} {n:Nat} (hn:n≤30000) (h0:l≠[]) (h1:l.length≤20000):GoodX { ex0 with kind:=3,name:=str l,pos:=p } n:=by
 have hz:(str l).size≠0:=by rw[str_sz];exact fun h=>h0 (List.length_eq_zero_iff.1 h)
 refine⟨?_,exok_parts hn (by first | omega | exact zz _ | exact zv) (by first | omega | exact zz _ | exact zv) (by first | omega | exact zz _ | exact zv) (by first | omega | exact zz _ | exact zv) (by first | omega | exact zz _ | exact zv) (by rw[str_sz];exact h1) (by decide) (by decide) (fun x hx=>by cases hx)⟩
 simp[mayE,partsE,manyOf,ex0,namedK,mostV,sz0,hz]
theorem good_is {l m:List UInt8} {p:Int} {n:Nat} (hn:n≤30000) (h0:l≠[]) (h1:l.length≤20000) (h2:m≠[]) (h3:m.length≤20000):GoodX { ex0 with kind:=20,name:=str l,state:=str m,pos:=p } n:=by
 have hz:(str l).size≠0:=by rw[str_sz];exact fun h=>h0 (List.length_eq_zero_iff.1 h)
 have hz2:(str m).size≠0:=by rw[str_sz];exact fun h=>h2 (List.length_eq_zero_iff.1 h)
 refine⟨?_,exok_parts hn (by first | omega | exact zz _ | exact zv) (by first | omega | exact zz _ | exact zv) (by first | omega | exact zz _ | exact zv) (by first | omega | exact zz _ | exact zv) (by first | omega | exact zz _ | exact zv) (by rw[str_sz];exact h1) (by rw[str_sz];exact h3) (by decide) (fun x hx=>by cases hx)⟩
 simp[mayE,partsE,manyOf,ex0,namedK,mostV,hz,hz2]
theorem good_call {l:List UInt8} {al:List Int} {p:Int} {n:Nat} (hn:n≤30000) (h0:l≠[]) (h1:l.length≤20000) (ha:al.length≤30000) (hv:∀x ∈ al,0≤x∧x<(n:Int)):GoodX { ex0 with kind:=19,name:=str l,args:=al,pos:=p } n:=by
 have hz:(str l).size≠0:=by rw[str_sz];exact fun h=>h0 (List.length_eq_zero_iff.1 h)
 refine⟨?_,exok_parts hn (by first | omega | exact zz _ | exact zv) (by first | omega | exact zz _ | exact zv) (by first | omega | exact zz _ | exact zv) (by first | omega | exact zz _ | exact zv) (by first | omega | exact zz _ | exact zv) (by rw[str_sz];exact h1) (by decide) ha hv⟩
 simp only[mayE,partsE,manyOf,ex0,namedK,mostV]
 simp[hz,sz0]
 exact fun x hx=>hv x hx
def rankJ:Job→Nat
 | .bin least=>10-least
 | .atom=>1
 | _=>0
def meas (ts:List Tok) (j:Job) (σ:RS):Nat:=(ts.length - σ.at_)*1024+(31 - σ.deep.toNat)*16+rankJ j
def JobOk (σ:RS):Job→Prop
 | .atom=>σ.code=0
 | .bin least=>1≤least∧least≤6
 | .loop least a=>1≤least∧least≤5∧IxOk σ a
 | .args acc=>acc.length≤σ.at_∧∀a ∈ acc,IxOk σ a
 | _=>True
def ResOk (τ:RS) (v:Int) (l:List Int):Job→Prop
 | .args _=>l.length≤τ.at_∧∀a ∈ l,IxOk τ a
 | _=>IxOk τ v
def Res (ts:List Tok) (j:Job) (σ:RS):Prop:=∃f v l τ,runE ts f j σ=some (v,l,τ)∧Go ts 0 σ τ∧τ.deep=σ.deep∧ResOk τ v l j
theorem meas_at {ts:List Tok} {j j':Job} {σ σ':RS} (h:σ.at_<σ'.at_) (hl:σ.at_<ts.length) (hr:rankJ j'≤9):meas ts j' σ'<meas ts j σ:=by
 unfold meas
 have h1:(31 - σ'.deep.toNat)*16≤31*16:=Nat.mul_le_mul_right _ (by omega)
 have h2:(ts.length - σ'.at_)*1024+1024≤(ts.length - σ.at_)*1024:=by
  have:ts.length - σ'.at_+1≤ts.length - σ.at_:=by omega
  have:=Nat.mul_le_mul_right 1024 this
  omega
 omega
theorem meas_deep {ts:List Tok} {j j':Job} {σ σ':RS} (h:σ.at_≤σ'.at_) (hd:σ'.deep=σ.deep+1) (h0:0≤σ.deep) (h30:σ.deep≤30) (hr:rankJ j'≤9):meas ts j' σ'<meas ts j σ:=by
 unfold meas
 have h2:(ts.length - σ'.at_)*1024≤(ts.length - σ.at_)*1024:=Nat.mul_le_mul_right _ (by omega)
 rw[hd]
 omega
theorem meas_rank {ts:List Tok} {j j':Job} {σ σ':RS} (h:σ.at_≤σ'.at_) (hd:σ'.deep=σ.deep) (hr:rankJ j'<rankJ j):meas ts j' σ'<meas ts j σ:=by
 unfold meas
 have h2:(ts.length - σ'.at_)*1024≤(ts.length - σ.at_)*1024:=Nat.mul_le_mul_right _ (by omega)
 rw[hd]
 omega
theorem runE_go {ts:List Tok} {f:Nat} {j:Job} {σ:RS} (h:okS σ=true):runE ts (f+1) j σ=(match j with
  | .expr=>exprG ts (runE ts f) σ
  | .pre=>preG ts (runE ts f) σ
  | .atom=>atomG ts (runE ts f) σ
  | .bin least=>binG (runE ts f) least σ
  | .loop least a=>loopG ts (runE ts f) least a σ
  | .args acc=>argsG ts (runE ts f) acc σ):=by
 unfold runE
 rw[if_pos h]
 cases j <;> rfl
theorem go_zero {ts:List Tok} {k:Nat} {σ τ:RS} (h:Go ts k σ τ):Go ts 0 σ τ:=h.less (Nat.zero_le _)
theorem ix_put (x:Ex) (τ:RS):IxOk (putS x τ) (τ.exprs.length:Int):=fun _=>by unfold putS;simp;omega
theorem leave_ix {τ:RS} {v:Int} (h:IxOk τ v):IxOk (leaveS τ) v:=h
section
variable {ts:List Tok} (he:EndOk ts) (ht:TokOk ts)
include he
theorem tot_expr {σ:RS} (hs:St ts σ) (ih:∀j' σ',meas ts j' σ'<meas ts .expr σ→St ts σ'→JobOk σ' j'→Res ts j' σ'):Res ts .expr σ:=by
 obtain⟨ge,gd,ga,gx,gc⟩:=go_enter' (ts:=ts) hs.lt
 obtain⟨x,hx⟩:∃x,x=enterS ts σ:=⟨_,rfl⟩
 rw[←hx] at ge gd ga gx gc
 have hd0:=hs.d0
 have hd30:=hs.d30
 by_cases h0:x.code=0
 ·have hd:=gc h0
  have sx:St ts x:=hs.go ge (by omega) (by omega)
  cases hi:isS ts [105,102] x with
  | true =>
   have g1:=go_step' he sx.lt (isS_kind hi).1
   have s1:St ts (stepS x):=sx.go g1 (by show 0≤x.deep;omega) (by show x.deep≤30;omega)
   obtain⟨f1,a,l1,τ1,r1,k1,d1,v1⟩:=ih .expr (stepS x) (meas_at (by unfold stepS;simp;omega) hs.lt (by simp[rankJ])) s1 trivial
   have q1:τ1.deep=x.deep:=d1
   have w1:=go_want he k1.lt [116,104,101,110]
   have G2:=(g1.trans k1).trans w1
   have s2:St ts (wantS ts [116,104,101,110] τ1):=sx.go G2 (by rw[want_deep,q1];omega) (by rw[want_deep,q1];omega)
   obtain⟨f2,b,l2,τ2,r2,k2,d2,v2⟩:=ih .expr _ (meas_at (by have:=G2.room;have:=G2.more;omega) hs.lt (by simp[rankJ])) s2 trivial
   have q2:τ2.deep=x.deep:=by rw[d2,want_deep,q1]
   have w2:=go_want he k2.lt [101,108,115,101]
   have G3:=(G2.trans k2).trans w2
   have s3:St ts (wantS ts [101,108,115,101] τ2):=sx.go G3 (by rw[want_deep,q2];omega) (by rw[want_deep,q2];omega)
   obtain⟨f3,c,l3,τ3,r3,k3,d3,v3⟩:=ih .expr _ (meas_at (by have:=G3.room;have:=G3.more;omega) hs.lt (by simp[rankJ])) s3 trivial
   have q3:τ3.deep=x.deep:=by rw[d3,want_deep,q2]
   have G4:=G3.trans k3
   have s4:St ts τ3:=sx.go G4 (by omega) (by omega)
   have hn:τ3.exprs.length≤30000:=by have:=s4.room;have:=s4.lt;have:=s4.len;omega
   obtain⟨X,hX⟩:∃X:Ex,X={ ex0 with kind:=15,a:=a,b:=b,c:=c,pos:=((tokL ts x.at_).at_:Int) }:=⟨_,rfl⟩
   have P:=(G4.less (m:=0+1) (by omega)).put (x:=X) fun hz _=>hX ▸ good3 hn ((((IxOk.go v1 w1).go k2).go w2).go k3 hz) ((IxOk.go v2 w2).go k3 hz) (v3 hz)
   refine⟨f1+f2+f3+1,(τ3.exprs.length:Int),[],leaveS (putS X τ3),?_,?_,?_,leave_ix (ix_put X τ3)⟩
   ·rw[runE_go hs.ok]
    simp only[exprG]
    rw[←hx,if_pos h0,if_pos hi,runE_le (f:=f1) (by omega) _ _ _ r1]
    simp only[Option.bind_some]
    rw[runE_le (f:=f2) (by omega) _ _ _ r2]
    simp only[Option.bind_some]
    rw[runE_le (f:=f3) (by omega) _ _ _ r3]
    simp only[Option.bind_some]
    rw[putA_ok s4.ok,hX]
   ·exact go_zero ((ge.trans P).trans (go_leave P.lt))
   ·show τ3.deep-1=σ.deep;omega
  | false =>
   have hi2:¬isS ts [105,102] x=true:=by rw[hi];simp
   obtain⟨f1,o,l1,y,r1,k1,d1,v1⟩:=ih (.bin 1) x (meas_deep (by omega) gd hd0 hd30 (by simp[rankJ])) sx ⟨by omega,by omega⟩
   have sy:St ts y:=sx.go k1 (by omega) (by omega)
   have arm:∀(s:List UInt8) (k:Int),(k=17∨k=18)→isS ts s y=true→∃f b l3 τ X,X={ ex0 with kind:=k,a:=o,b:=b,pos:=((tokL ts y.at_).at_:Int) }∧runE ts f .expr (stepS y)=some (b,l3,τ)∧okS τ=true∧Go ts 0 y (putS X τ)∧τ.deep=y.deep:=by
    intro s k hk hs2
    have g1:=go_step' he sy.lt (isS_kind hs2).1
    have s1:St ts (stepS y):=sy.go g1 (by show 0≤y.deep;omega) (by show y.deep≤30;omega)
    obtain⟨f2,b,l2,τ,r2,k2,d2,v2⟩:=ih .expr (stepS y) (meas_at (by have:=k1.at_;unfold stepS;simp;omega) hs.lt (by simp[rankJ])) s1 trivial
    have q2:τ.deep=y.deep:=d2
    have G2:=g1.trans k2
    have s2:St ts τ:=sy.go G2 (by omega) (by omega)
    have hn:τ.exprs.length≤30000:=by have:=s2.room;have:=s2.lt;have:=s2.len;omega
    exact⟨f2,b,l2,τ,_,rfl,r2,s2.ok,(G2.less (m:=0+1) (by omega)).put fun hz _=>good2 hn (by omega) ((IxOk.go v1 g1).go k2 hz) (v2 hz),q2⟩
   by_cases h3:isS ts [45,62] y=true
   ·obtain⟨f2,b,l3,τ,X,hX,r2,o2,P,q2⟩:=arm [45,62] 17 (.inl rfl) h3
    refine⟨f1+f2+1,(τ.exprs.length:Int),[],leaveS (putS X τ),?_,go_zero (((ge.trans k1).trans P).trans (go_leave P.lt)),by show τ.deep-1=σ.deep;omega,leave_ix (ix_put X τ)⟩
    rw[runE_go hs.ok]
    simp only[exprG]
    rw[←hx,if_pos h0,if_neg hi2,runE_le (f:=f1) (by omega) _ _ _ r1]
    simp only[Option.bind_some]
    rw[if_pos h3,runE_le (f:=f2) (by omega) _ _ _ r2]
    simp only[Option.bind_some]
    rw[putA_ok o2,hX]
   ·by_cases h4:isS ts [102,98,121] y=true
    ·obtain⟨f2,b,l3,τ,X,hX,r2,o2,P,q2⟩:=arm [102,98,121] 18 (.inr rfl) h4
     refine⟨f1+f2+1,(τ.exprs.length:Int),[],leaveS (putS X τ),?_,go_zero (((ge.trans k1).trans P).trans (go_leave P.lt)),by show τ.deep-1=σ.deep;omega,leave_ix (ix_put X τ)⟩
     rw[runE_go hs.ok]
     simp only[exprG]
     rw[←hx,if_pos h0,if_neg hi2,runE_le (f:=f1) (by omega) _ _ _ r1]
     simp only[Option.bind_some]
     rw[if_neg h3,if_pos h4,runE_le (f:=f2) (by omega) _ _ _ r2]
     simp only[Option.bind_some]
     rw[putA_ok o2,hX]
    ·refine⟨f1+1,o,[],leaveS y,?_,go_zero ((ge.trans k1).trans (go_leave k1.lt)),by show y.deep-1=σ.deep;omega,leave_ix v1⟩
     rw[runE_go hs.ok]
     simp only[exprG]
     rw[←hx,if_pos h0,if_neg hi2,runE_le (f:=f1) (by omega) _ _ _ r1]
     simp only[Option.bind_some]
     rw[if_neg h3,if_neg h4,if_pos sy.ok]
 ·refine⟨1,0,[],leaveS x,?_,go_zero (ge.trans (go_leave ge.lt)),by show x.deep-1=σ.deep;omega,fun hz=>absurd hz h0⟩
  rw[runE_go hs.ok]
  simp only[exprG]
  rw[←hx,if_neg h0]
end
def exprS' (ts:List Tok) (f:Nat) (σ:RS):Option (Int×RS):=(runE ts f .expr σ).map fun r=>(r.1,r.2.2)
theorem prefixK_some {ts:List Tok} {σ:RS} (h:prefixK ts σ prefixL≠0):∃s,isS ts s σ=true∧(prefixK ts σ prefixL=4∨prefixK ts σ prefixL=5∨prefixK ts σ prefixL=16∨prefixK ts σ prefixL=21):=by
 unfold prefixK at h ⊢
 cases hf:prefixL.find? fun p=>isS ts p.1 σ with
 | none=>rw[hf] at h;exact absurd rfl h
 | some p =>
  have h1:=List.find?_some hf
  have h2:=List.mem_of_find?_eq_some hf
  refine⟨p.1,h1,?_⟩
  unfold prefixL at h2
  simp only[List.mem_cons,List.not_mem_nil,or_false] at h2
  rcases h2 with rfl | rfl | rfl | rfl <;> simp
theorem levelS_some {ts:List Tok} {σ:RS} {n:Nat} (hn:1≤n) (h:(levelS ts σ).1=(n:Int)):∃s,isS ts s σ=true∧6≤(levelS ts σ).2∧(levelS ts σ).2≤14:=by
 unfold levelS levelIn at h ⊢
 cases hf:levelsL.find? fun p=>isS ts p.1 σ with
 | none=>rw[hf] at h;dsimp only at h;omega
 | some p =>
  have h1:=List.find?_some hf
  have h2:=List.mem_of_find?_eq_some hf
  refine⟨p.1,h1,?_⟩
  unfold levelsL at h2
  simp only[List.mem_cons,List.not_mem_nil,or_false] at h2
  rcases h2 with rfl | rfl | rfl | rfl | rfl | rfl | rfl | rfl | rfl <;> simp
theorem tok_get {ts:List Tok} {i:Nat} (h:i<ts.length):ts[i]?=some (tokL ts i):=by
 unfold tokL;rw[List.getD_eq_getElem?_getD,List.getElem?_eq_getElem h];rfl
theorem St.small {ts:List Tok} {σ:RS} (h:St ts σ):σ.exprs.length≤30000:=by have:=h.room;have:=h.lt;have:=h.len;omega
section
variable {ts:List Tok} (he:EndOk ts) (ht:TokOk ts)
include he
theorem tot_pre {σ:RS} (hs:St ts σ) (ih:∀j' σ',meas ts j' σ'<meas ts .pre σ→St ts σ'→JobOk σ' j'→Res ts j' σ'):Res ts .pre σ:=by
 obtain⟨ge,gd,ga,gx,gc⟩:=go_enter' (ts:=ts) hs.lt
 obtain⟨x,hx⟩:∃x,x=enterS ts σ:=⟨_,rfl⟩
 rw[←hx] at ge gd ga gx gc
 have hd0:=hs.d0
 have hd30:=hs.d30
 by_cases h0:x.code=0
 ·have hd:=gc h0
  have sx:St ts x:=hs.go ge (by omega) (by omega)
  by_cases hk:prefixK ts x prefixL=0
  ·obtain⟨f1,a,l1,τ,r1,k1,d1,v1⟩:=ih .atom x (meas_deep (by omega) gd hd0 hd30 (by simp[rankJ])) sx h0
   have s1:St ts τ:=sx.go k1 (by omega) (by omega)
   refine⟨f1+1,a,[],leaveS τ,?_,go_zero ((ge.trans k1).trans (go_leave k1.lt)),by show τ.deep-1=σ.deep;omega,leave_ix v1⟩
   rw[runE_go hs.ok]
   simp only[preG]
   rw[←hx,if_pos h0,if_pos hk,runE_le (f:=f1) (by omega) _ _ _ r1]
   simp only[Option.bind_some]
   rw[if_pos s1.ok]
  ·obtain⟨s,hi,hkk⟩:=prefixK_some hk
   have g1:=go_step' he sx.lt (isS_kind hi).1
   have s1:St ts (stepS x):=sx.go g1 (by show 0≤x.deep;omega) (by show x.deep≤30;omega)
   obtain⟨f1,a,l1,τ,r1,k1,d1,v1⟩:=ih .pre (stepS x) (meas_at (by unfold stepS;simp;omega) hs.lt (by simp[rankJ])) s1 trivial
   have q1:τ.deep=x.deep:=d1
   have s2:St ts τ:=s1.go k1 (by omega) (by omega)
   obtain⟨X,hX⟩:∃X:Ex,X={ ex0 with kind:=prefixK ts x prefixL,a:=a,pos:=((tokL ts x.at_).at_:Int) }:=⟨_,rfl⟩
   have P:=((g1.trans k1).less (m:=0+1) (by omega)).put (x:=X) fun hz _=>hX ▸ good1 s2.small hkk (v1 hz)
   refine⟨f1+1,(τ.exprs.length:Int),[],leaveS (putS X τ),?_,go_zero ((ge.trans P).trans (go_leave P.lt)),by show τ.deep-1=σ.deep;omega,leave_ix (ix_put X τ)⟩
   rw[runE_go hs.ok]
   simp only[preG]
   rw[←hx,if_pos h0,if_neg hk,runE_le (f:=f1) (by omega) _ _ _ r1]
   simp only[Option.bind_some]
   rw[putA_ok s2.ok,hX]
 ·refine⟨1,0,[],leaveS x,?_,go_zero (ge.trans (go_leave ge.lt)),by show x.deep-1=σ.deep;omega,fun hz=>absurd hz h0⟩
  rw[runE_go hs.ok]
  simp only[preG]
  rw[←hx,if_neg h0]
omit he in
theorem tot_bin {least:Nat} {σ:RS} (hs:St ts σ) (h1:1≤least) (h6:least≤6) (ih:∀j' σ',meas ts j' σ'<meas ts (.bin least) σ→St ts σ'→JobOk σ' j'→Res ts j' σ'):Res ts (.bin least) σ:=by
 have hd0:=hs.d0
 have hd30:=hs.d30
 by_cases h5:5<least
 ·obtain⟨f1,a,l1,τ,r1,k1,d1,v1⟩:=ih .pre σ (meas_rank (qL _) rfl (by simp[rankJ];omega)) hs trivial
  refine⟨f1+1,a,l1,τ,?_,k1,d1,v1⟩
  rw[runE_go hs.ok]
  simp only[binG]
  rw[if_pos h5,r1]
 ·obtain⟨f1,a,l1,τ,r1,k1,d1,v1⟩:=ih (.bin (least+1)) σ (meas_rank (qL _) rfl (by simp[rankJ];omega)) hs ⟨by omega,by omega⟩
  have s1:St ts τ:=hs.go k1 (by omega) (by omega)
  obtain⟨f2,c,l2,υ,r2,k2,d2,v2⟩:=ih (.loop least a) τ (meas_rank k1.at_ d1 (by simp[rankJ];omega)) s1 ⟨h1,by omega,v1⟩
  refine⟨f1+f2+1,c,l2,υ,?_,go_zero (k1.trans k2),by omega,v2⟩
  rw[runE_go hs.ok]
  simp only[binG]
  rw[if_neg h5,runE_le (f:=f1) (by omega) _ _ _ r1]
  simp only[Option.bind_some]
  rw[runE_le (f:=f2) (by omega) _ _ _ r2]
theorem tot_loop {least:Nat} {a:Int} {σ:RS} (hs:St ts σ) (h1:1≤least) (h5:least≤5) (ha:IxOk σ a) (ih:∀j' σ',meas ts j' σ'<meas ts (.loop least a) σ→St ts σ'→JobOk σ' j'→Res ts j' σ'):Res ts (.loop least a) σ:=by
 have hd0:=hs.d0
 have hd30:=hs.d30
 by_cases h0:σ.code=0
 ·by_cases hl:(levelS ts σ).1=(least:Int)
  ·obtain⟨s,hi,hk1,hk2⟩:=levelS_some h1 hl
   have g1:=go_step' he hs.lt (isS_kind hi).1
   have s1:St ts (stepS σ):=hs.go g1 hd0 hd30
   obtain⟨f1,b,l1,τ,r1,k1,d1,v1⟩:=ih (.bin (least+1)) (stepS σ) (meas_at (by unfold stepS;simp) hs.lt (by simp[rankJ] <;> omega)) s1 ⟨by omega,by omega⟩
   have q1:τ.deep=σ.deep:=d1
   have s2:St ts τ:=s1.go k1 (by omega) (by omega)
   obtain⟨X,hX⟩:∃X:Ex,X={ ex0 with kind:=(levelS ts σ).2,a:=a,b:=b,pos:=((tokL ts σ.at_).at_:Int) }:=⟨_,rfl⟩
   have G:=g1.trans k1
   have P:=(G.less (m:=0+1) (by omega)).put (x:=X) fun hz _=>hX ▸ good2 s2.small (by omega) ((ha.go g1).go k1 hz) (v1 hz)
   have s3:St ts (putS X τ):=hs.go P (by show 0≤τ.deep;omega) (by show τ.deep≤30;omega)
   by_cases h3:least=3
   ·refine⟨f1+1,(τ.exprs.length:Int),[],putS X τ,?_,P,q1,ix_put X τ⟩
    rw[runE_go hs.ok]
    simp only[loopG]
    rw[if_pos h0,if_pos hl,runE_le (f:=f1) (by omega) _ _ _ r1]
    simp only[Option.bind_some]
    rw[putA_ok s2.ok,if_pos h3,hX]
   ·obtain⟨f2,c,l2,υ,r2,k2,d2,v2⟩:=ih (.loop least (τ.exprs.length:Int)) (putS X τ) (meas_at (by have:=G.at_;have:=G.room;have:=G.more;show σ.at_<τ.at_;omega) hs.lt (by simp[rankJ])) s3 ⟨h1,h5,ix_put X τ⟩
    refine⟨f1+f2+1,c,l2,υ,?_,go_zero (P.trans k2),by rw[d2];exact q1,v2⟩
    rw[runE_go hs.ok]
    simp only[loopG]
    rw[if_pos h0,if_pos hl,runE_le (f:=f1) (by omega) _ _ _ r1]
    simp only[Option.bind_some]
    rw[putA_ok s2.ok,if_neg h3,←hX,runE_le (f:=f2) (by omega) _ _ _ r2]
  ·refine⟨1,a,[],σ,?_,Go.refl hs.lt,rfl,ha⟩
   rw[runE_go hs.ok]
   simp only[loopG]
   rw[if_pos h0,if_neg hl]
 ·refine⟨1,a,[],σ,?_,Go.refl hs.lt,rfl,ha⟩
  rw[runE_go hs.ok]
  simp only[loopG]
  rw[if_neg h0]
theorem tot_args {acc:List Int} {σ:RS} (hs:St ts σ) (hl:acc.length≤σ.at_) (ha:∀a ∈ acc,IxOk σ a) (ih:∀j' σ',meas ts j' σ'<meas ts (.args acc) σ→St ts σ'→JobOk σ' j'→Res ts j' σ'):Res ts (.args acc) σ:=by
 have hd0:=hs.d0
 have hd30:=hs.d30
 have hlen:acc.length≤40000:=by have:=hs.lt;have:=hs.len;omega
 by_cases hi:isS ts [44] σ=true
 ·have g1:=go_step' he hs.lt (isS_kind hi).1
  have s1:St ts (stepS σ):=hs.go g1 hd0 hd30
  obtain⟨f1,b,l1,τ,r1,k1,d1,v1⟩:=ih .expr (stepS σ) (meas_at (by unfold stepS;simp) hs.lt (by simp[rankJ])) s1 trivial
  have q1:τ.deep=σ.deep:=d1
  have s2:St ts τ:=s1.go k1 (by omega) (by omega)
  have G:=g1.trans k1
  have hat:σ.at_<τ.at_:=by have:=k1.at_;have:(stepS σ).at_=σ.at_+1:=rfl;omega
  obtain⟨f2,c,l2,υ,r2,k2,d2,v2⟩:=ih (.args (acc++[b])) τ (meas_at hat hs.lt (by simp[rankJ])) s2 ⟨by simp;omega,fun a h=>by
   rcases List.mem_append.1 h with h | h
   ·exact((ha a h).go g1).go k1
   ·obtain rfl:=List.mem_singleton.1 h;exact v1⟩
  refine⟨f1+f2+1,c,l2,υ,?_,go_zero (G.trans k2),by omega,v2⟩
  rw[runE_go hs.ok]
  simp only[argsG]
  rw[if_pos hlen,if_pos hi,runE_le (f:=f1) (by omega) _ _ _ r1]
  simp only[Option.bind_some]
  rw[runE_le (f:=f2) (by omega) _ _ _ r2]
 ·refine⟨1,0,acc,σ,?_,Go.refl hs.lt,rfl,hl,ha⟩
  rw[runE_go hs.ok]
  simp only[argsG]
  rw[if_pos hlen,if_neg hi]
include ht
theorem tot_atom {σ:RS} (hs:St ts σ) (h0:σ.code=0) (ih:∀j' σ',meas ts j' σ'<meas ts .atom σ→St ts σ'→JobOk σ' j'→Res ts j' σ'):Res ts .atom σ:=by
 have hd0:=hs.d0
 have hd30:=hs.d30
 obtain⟨t1,t2,t3⟩:=ht _ _ (tok_get hs.lt)
 have one:∀(X:Ex),(tokL ts σ.at_).kind≠5→GoodX X (stepS σ).exprs.length→Go ts 0 σ (putS X (stepS σ))∧okS (stepS σ)=true:=fun X hk hX =>
  have g1:=go_step' he hs.lt hk
  ⟨(g1.less (m:=0+1) (by omega)).put fun _ _=>hX,(hs.go g1 hd0 hd30).ok⟩
 have sml:(stepS σ).exprs.length≤30000:=hs.small
 by_cases k2:(tokL ts σ.at_).kind=2
 ·obtain⟨P,o⟩:=one { ex0 with kind:=1,v:=(tokL ts σ.at_).v,pos:=((tokL ts σ.at_).at_:Int) } (by omega) (goodN sml (t2 k2))
  refine⟨1,((stepS σ).exprs.length:Int),[],_,?_,P,rfl,ix_put _ _⟩
  rw[runE_go hs.ok]
  simp only[atomG]
  rw[if_pos k2,putA_ok o]
 by_cases i1:isS ts [116,114,117,101] σ=true
 ·obtain⟨P,o⟩:=one { ex0 with kind:=2,v:=1,pos:=((tokL ts σ.at_).at_:Int) } (isS_kind i1).1 (goodT sml)
  refine⟨1,((stepS σ).exprs.length:Int),[],_,?_,P,rfl,ix_put _ _⟩
  rw[runE_go hs.ok]
  simp only[atomG]
  rw[if_neg k2,if_pos i1,putA_ok o]
 by_cases i2:isS ts [102,97,108,115,101] σ=true
 ·obtain⟨P,o⟩:=one { ex0 with kind:=2,pos:=((tokL ts σ.at_).at_:Int) } (isS_kind i2).1 (goodF sml)
  refine⟨1,((stepS σ).exprs.length:Int),[],_,?_,P,rfl,ix_put _ _⟩
  rw[runE_go hs.ok]
  simp only[atomG]
  rw[if_neg k2,if_neg i1,if_pos i2,putA_ok o]
 by_cases k1:(tokL ts σ.at_).kind=1
 ·have g1:=go_step' he hs.lt (by omega)
  have s1:St ts (stepS σ):=hs.go g1 hd0 hd30
  have c1:(stepS σ).code=0:=h0
  by_cases i3:isS ts [105,115] (stepS σ)=true
  ·have g2:=go_step' he s1.lt (isS_kind i3).1
   have s2:St ts (stepS (stepS σ)):=s1.go g2 hd0 hd30
   have g3:=go_name he s2.lt
   have s3:St ts (nameS ts (stepS (stepS σ))):=s2.go g3 (by rw[name_deep];exact hd0) (by rw[name_deep];exact hd30)
   obtain⟨X,hX⟩:∃X:Ex,X={ ex0 with kind:=20,name:=str (tokL ts σ.at_).text,state:=str (nameV ts (stepS (stepS σ))),pos:=((tokL ts σ.at_).at_:Int) }:=⟨_,rfl⟩
   have G:=(g1.trans g2).trans g3
   have P:=(G.less (m:=0+1) (by omega)).put (x:=X) fun hz _=>by
    have hb:nameB ts (stepS (stepS σ))=true:=by
     by_cases hb:nameB ts (stepS (stepS σ))=true
     ·exact hb
     ·exfalso
      unfold nameS at hz
      rw[if_neg hb] at hz
      unfold failS at hz
      rw[if_pos (show(stepS (stepS σ)).code=0 from h0)] at hz
      exact absurd (show(2:Int)=0 from hz) (by decide)
    obtain⟨u1,u2,u3⟩:=ht _ _ (tok_get s2.lt)
    have hv:nameV ts (stepS (stepS σ))=(tokL ts (stepS (stepS σ)).at_).text:=by unfold nameV;rw[if_pos hb]
    have hk:(tokL ts (stepS (stepS σ)).at_).kind=1:=by
     unfold nameB at hb
     simp only[Bool.and_eq_true,decide_eq_true_eq] at hb
     exact hb.2
    rw[hX,hv]
    exact good_is s3.small (t1 k1) t3 (u1 hk) u3
   refine⟨1,((nameS ts (stepS (stepS σ))).exprs.length:Int),[],putS X (nameS ts (stepS (stepS σ))),?_,P,(name_deep ts _).trans rfl,ix_put _ _⟩
   rw[runE_go hs.ok]
   simp only[atomG]
   rw[if_neg k2,if_neg i1,if_neg i2,if_pos k1,if_pos i3,putA_ok s3.ok,hX]
  by_cases i4:isS ts [40] (stepS σ)=true
  ·have g2:=go_step' he s1.lt (isS_kind i4).1
   have s2:St ts (stepS (stepS σ)):=s1.go g2 hd0 hd30
   by_cases i5:isS ts [41] (stepS (stepS σ))=true
   ·have g3:=go_step' he s2.lt (isS_kind i5).1
    have s3:St ts (stepS (stepS (stepS σ))):=s2.go g3 hd0 hd30
    obtain⟨X,hX⟩:∃X:Ex,X={ ex0 with kind:=19,name:=str (tokL ts σ.at_).text,pos:=((tokL ts σ.at_).at_:Int) }:=⟨_,rfl⟩
    have P:=(((g1.trans g2).trans g3).less (m:=0+1) (by omega)).put (x:=X) fun hz _=>hX ▸ good_call (al:=[]) s3.small (t1 k1) t3 (by simp) (fun x hx=>by cases hx)
    refine⟨1,((stepS (stepS (stepS σ))).exprs.length:Int),[],putS X (stepS (stepS (stepS σ))),?_,P,rfl,ix_put _ _⟩
    rw[runE_go hs.ok]
    simp only[atomG]
    rw[if_neg k2,if_neg i1,if_neg i2,if_pos k1,if_neg i3,if_pos i4,if_pos i5,putA_ok s3.ok,hX]
   ·obtain⟨f1,a,l1,τ,r1,m1,d1,v1⟩:=ih .expr (stepS (stepS σ)) (meas_at (by show σ.at_<σ.at_+1+1;omega) hs.lt (by simp[rankJ])) s2 trivial
    have q1:τ.deep=σ.deep:=d1
    have s3:St ts τ:=s2.go m1 (by omega) (by omega)
    have hat:σ.at_+2≤τ.at_:=by have:=m1.at_;have:(stepS (stepS σ)).at_=σ.at_+1+1:=rfl;omega
    obtain⟨f2,c,l2,υ,r2,m2,d2,v2,w2⟩:=ih (.args [a]) τ (meas_at (by omega) hs.lt (by simp[rankJ])) s3 ⟨by simp;omega,fun x hx=>by obtain rfl:=List.mem_singleton.1 hx;exact v1⟩
    have q2:υ.deep=σ.deep:=by omega
    have s4:St ts υ:=s3.go m2 (by omega) (by omega)
    have g4:=go_want he s4.lt [41]
    have s5:St ts (wantS ts [41] υ):=s4.go g4 (by rw[want_deep];omega) (by rw[want_deep];omega)
    obtain⟨X,hX⟩:∃X:Ex,X={ ex0 with kind:=19,name:=str (tokL ts σ.at_).text,args:=l2,pos:=((tokL ts σ.at_).at_:Int) }:=⟨_,rfl⟩
    have G:=(((g1.trans g2).trans m1).trans m2).trans g4
    have P:=(G.less (m:=0+1) (by omega)).put (x:=X) fun hz _=>hX ▸ good_call s5.small (t1 k1) t3 (by have:=s4.lt;have:=s4.len;omega) fun x hx=>(w2 x hx).go g4 hz
    refine⟨f1+f2+1,((wantS ts [41] υ).exprs.length:Int),[],putS X (wantS ts [41] υ),?_,P,(want_deep ts _ _).trans q2,ix_put _ _⟩
    rw[runE_go hs.ok]
    simp only[atomG]
    rw[if_neg k2,if_neg i1,if_neg i2,if_pos k1,if_neg i3,if_pos i4,if_neg i5,runE_le (f:=f1) (by omega) _ _ _ r1]
    simp only[Option.bind_some]
    rw[runE_le (f:=f2) (by omega) _ _ _ r2]
    simp only[Option.bind_some]
    rw[putA_ok s5.ok,hX]
  ·obtain⟨P,o⟩:=one { ex0 with kind:=3,name:=str (tokL ts σ.at_).text,pos:=((tokL ts σ.at_).at_:Int) } (by omega) (good_nm sml (t1 k1) t3)
   refine⟨1,((stepS σ).exprs.length:Int),[],_,?_,P,rfl,ix_put _ _⟩
   rw[runE_go hs.ok]
   simp only[atomG]
   rw[if_neg k2,if_neg i1,if_neg i2,if_pos k1,if_neg i3,if_neg i4,putA_ok o]
 ·have g1:=go_want he hs.lt [40]
  have s1:St ts (wantS ts [40] σ):=hs.go g1 (by rw[want_deep];exact hd0) (by rw[want_deep];exact hd30)
  obtain⟨f1,a,l1,τ,r1,m1,d1,v1⟩:=ih .expr _ (meas_rank g1.at_ (want_deep ts _ _) (by simp[rankJ])) s1 trivial
  have g2:=go_want he m1.lt [41]
  refine⟨f1+1,a,[],wantS ts [41] τ,?_,go_zero ((g1.trans m1).trans g2),by rw[want_deep,d1,want_deep],IxOk.go v1 g2⟩
  rw[runE_go hs.ok]
  simp only[atomG]
  rw[if_neg k2,if_neg i1,if_neg i2,if_neg k1,r1]
  rfl
theorem tot_all:∀(M:Nat) (j:Job) (σ:RS),meas ts j σ≤M→St ts σ→JobOk σ j→Res ts j σ:=by
 intro M
 induction M with
 | zero =>
  intro j σ hm hs hj
  exfalso
  unfold meas at hm
  have:=hs.lt
  have h2:1*1024≤(ts.length - σ.at_)*1024:=Nat.mul_le_mul_right _ (by omega)
  omega
 | succ M ih =>
  intro j σ hm hs hj
  have ih':∀j' σ',meas ts j' σ'<meas ts j σ→St ts σ'→JobOk σ' j'→Res ts j' σ':=fun j' σ' h=>ih j' σ' (by omega)
  cases j with
  | expr=>exact tot_expr he hs ih'
  | pre=>exact tot_pre he hs ih'
  | atom=>exact tot_atom he ht hs hj ih'
  | bin least=>exact tot_bin hs hj.1 hj.2 ih'
  | loop least a=>exact tot_loop he hs hj.1 hj.2.1 hj.2.2 ih'
  | args acc=>exact tot_args he hs hj.1 hj.2 ih'
theorem expr_ends {σ:RS} (hs:St ts σ):∃f v τ,exprS' ts f σ=some (v,τ)∧Go ts 0 σ τ∧τ.deep=σ.deep∧IxOk τ v:=by
 obtain⟨f,v,l,τ,h1,h2,h3,h4⟩:=tot_all he ht _ .expr σ (qL _) hs trivial
 exact⟨f,v,τ,by unfold exprS';rw[h1];rfl,h2,h3,h4⟩
end
end Go.Proofs.YtlbhlncipajapaaGreatDoor
namespace Go.Proofs.YtlbhlncipajapaaGreatDoor
open Go.RowKit Lx
theorem expr_run {l:List UInt8} {ts:List Tok} {f:Nat} {v:Int} {lx:List Int} {τ:RS} (ht:lexT l ts none) (hl:l.length≤20000) (hr:runE (ts++[endT l.length]) f .expr rs0=some (v,lx,τ)) (h0:τ.code=0) (h5:(tokL (ts++[endT l.length]) τ.at_).kind=5) (hn:τ.exprs.length≤40000) (W:World) (hS:Signs W) :
  Calls prog 12 #[.string (str l)] W fun r Y=>ExprX τ.exprs 0 0 W r Y :=
 expr_call _ _ _ _ hn W (Hd fun W2 hb=>read_ok l ts ht hl f τ v lx hr h0 h5 W2 (hS.below hb))
end Go.Proofs.YtlbhlncipajapaaGreatDoor
namespace Go.Proofs.YtlbhlncipajapaaGreatDoor
open Go.RowKit Lx
def alL:List UInt8:=[49,32,43,32,50,32,42,32,120]
def alT:List Tok:=[tokAt alL 0,tokAt alL 2,tokAt alL 4,tokAt alL 6,tokAt alL 8]
def alU:List Tok:=[⟨2,[49],4294967296,0⟩,⟨4,[43],0,2⟩,⟨2,[50],8589934592,4⟩,⟨4,[42],0,6⟩,⟨1,[120],0,8⟩]
theorem al_lex:lexT alL alT none:=by
 unfold lexT alT
 rw[show gapTo false alL 0=0 by decide +kernel]
 refine .tok (by decide) (by decide +kernel) ?_
 rw[show gapTo false alL (0+(tokAt alL 0).text.length)=2 by decide +kernel]
 refine .tok (by decide) (by decide +kernel) ?_
 rw[show gapTo false alL (2+(tokAt alL 2).text.length)=4 by decide +kernel]
 refine .tok (by decide) (by decide +kernel) ?_
 rw[show gapTo false alL (4+(tokAt alL 4).text.length)=6 by decide +kernel]
 refine .tok (by decide) (by decide +kernel) ?_
 rw[show gapTo false alL (6+(tokAt alL 6).text.length)=8 by decide +kernel]
 refine .tok (by decide) (by decide +kernel) ?_
 rw[show gapTo false alL (8+(tokAt alL 8).text.length)=9 by decide +kernel]
 exact .fin (by decide)
theorem al_toks:alT=alU:=by
 have h0:tokAt alL 0=⟨2,[49],4294967296,0⟩:=by kernel_rfl
 have h1:tokAt alL 2=⟨4,[43],0,2⟩:=by kernel_rfl
 have h2:tokAt alL 4=⟨2,[50],8589934592,4⟩:=by kernel_rfl
 have h3:tokAt alL 6=⟨4,[42],0,6⟩:=by kernel_rfl
 have h4:tokAt alL 8=⟨1,[120],0,8⟩:=by kernel_rfl
 unfold alT alU
 rw[h0,h1,h2,h3,h4]
def alX:List Ex:=[{ ex0 with kind:=1,v:=4294967296,pos:=0 },{ ex0 with kind:=1,v:=8589934592,pos:=4 },{ ex0 with kind:=3,name:=str [120],pos:=8 },{ ex0 with kind:=8,a:=1,b:=2,pos:=6 },{ ex0 with kind:=6,a:=0,b:=3,pos:=2 }]
theorem al_run:∃lx,runE (alT++[endT alL.length]) 20 .expr rs0=some (4,lx,⟨5,alX,0,0,0⟩):=by
 rw[al_toks]
 exact⟨[],by kernel_rfl⟩
end Go.Proofs.YtlbhlncipajapaaGreatDoor
namespace Go.Proofs.YtlbhlncipajapaaGreatDoor
open Go.RowKit Lx
theorem flatMap_get {α:Type} {enc:α→List Value} {s:Nat} (hs:∀x,(enc x).length=s):∀(l:List α) (i:Nat) (x:α) (j:Nat) (u:Value),l[i]?=some x→(enc x)[j]?=some u→(l.flatMap enc)[i*s+j]?=some u
 | [],i,x,j,u,h,_=>by cases h
 | y :: l,0,x,j,u,h,hu=>by
  cases h
  have hj:j<(enc y).length:=(List.getElem?_eq_some_iff.1 hu).1
  rw[List.flatMap_cons,Nat.zero_mul,Nat.zero_add,List.getElem?_append_left hj];exact hu
 | y :: l,i+1,x,j,u,h,hu=>by
  have h2:l[i]?=some x:=by simpa using h
  have hy:=hs y
  rw[List.flatMap_cons,List.getElem?_append_right (by rw[hy,Nat.add_mul];omega),hy]
  have:=flatMap_get hs l i x j u h2 hu
  rw[show(i+1)*s+j-s=i*s+j by rw[Nat.add_mul];omega]
  exact this
theorem own_slAt {α:Type} {W:World} {B:Nat} {T:TypeId} {s:Nat} {v:Value} {l:List α} {enc:α→List Value} (hs:∀x,(enc x).length=s) (h:W.ownsRow B T s v l.length (l.flatMap enc)) :
  SlAt v l.length s fun b o i=>∀x,l[i]?=some x→∀j u,(enc x)[j]?=some u→W.cell? ⟨b,o+j,none⟩=some u:=by
 rcases h.2 with ⟨rfl,h0⟩ | ⟨g,cap,cur,rfl,hb,hg,hnc,hcm,hcs,htk⟩
 ·rw[h0];exact slAt_none _ _ _ _ _ ⟨Nat.zero_le _,fun _=>rfl⟩ rfl
 ·refine slAt_some hnc hcm fun i hi x hx j u hu=>?_
  have h1:=flatMap_get hs l i x j u hx hu
  rw[←htk,List.getElem?_take] at h1
  split at h1
  ·rw[Array.getElem?_toList] at h1
   simp[World.cell?,hg,h1]
  ·cases h1
theorem ints_own {W:World} {B:Nat} {v:Value} {l:List Int} (h:W.ownsRow B 3 1 v l.length (l.map intC)):IntsAt W v l:=by
 rw[List.map_eq_flatMap] at h
 exact(own_slAt (enc:=fun n=>[intC n]) (fun _=>rfl) h).mono fun b o i hi hx=>by
  obtain⟨x,hx'⟩:∃x,l[i]?=some x:=⟨_,List.getElem?_eq_getElem hi⟩
  have:=hx x hx' 0 _ rfl
  rw[List.getD_eq_getElem?_getD,hx'];exact this
theorem strs_own {W:World} {B:Nat} {v:Value} {l:List ByteArray} (h:W.ownsRow B 9 1 v l.length (l.map .string)):StrsAt W v l:=by
 rw[List.map_eq_flatMap] at h
 exact(own_slAt (enc:=fun n=>[Value.string n]) (fun _=>rfl) h).mono fun b o i hi hx=>by
  obtain⟨x,hx'⟩:∃x,l[i]?=some x:=⟨_,List.getElem?_eq_getElem hi⟩
  have:=hx x hx' 0 _ rfl
  rw[List.getD_eq_getElem?_getD,hx'];exact this
theorem exs_own {W:World} {b:Nat} {xb:Nat→Prop} {v:Value} {l:List Ex} (h:ExsOwn W b xb v l) (hg:AllGood l):ExsAt W v l:=by
 obtain⟨q,rfl,h2,h3⟩:=h
 rw[List.length_map] at h2
 unfold ExsAt
 rw[List.length_map]
 refine(own_slAt (enc:=fun p:Ex×Value=>exC p.1 p.2) (fun _=>rfl) h2).mono fun b o i hi hx x hx2=>?_
 rw[List.getElem?_map] at hx2
 obtain⟨p,hp,rfl⟩:=Option.map_eq_some_iff.1 hx2
 have c:=hx p hp
 refine⟨p.2,c 0 _ rfl,c 1 _ rfl,c 2 _ rfl,c 3 _ rfl,c 4 _ rfl,c 5 _ rfl,c 6 _ rfl,c 7 _ rfl,c 8 _ rfl,ints_own (h3 p (List.mem_of_getElem? hp)).1,?_⟩
 exact(hg i p.1 (by rw[List.getElem?_map,hp];rfl)).2
def AlAt (w:World) (r:Ending) (Y:World):Prop :=
 ∃b off c,r=.returned (.tuple #[.agg #[.slice none 0 0,.slice (some ⟨b,off,none⟩) 5 c],.int .i64 4,.agg #[.int .i64 0,.int .i64 0]])∧Hid (Below w.heap.size w Y∧Y.cell? ⟨b,off+2*9+4,none⟩=some (.string ⟨#[120]⟩)∧Y.cell? ⟨b,off+3*9,none⟩=some (.int .i64 8))
theorem al_good:AllGood alX:=by
 intro i x hx
 have hi:i<5:=by
  rcases Nat.lt_or_ge i 5 with h | h
  ·exact h
  ·rw[List.getElem?_eq_none (by exact h)] at hx;cases hx
 have hm:∀y,mayE y i=true→ExOk y→GoodX y i:=fun y h1 h2=>⟨h1,h2⟩
 match i,hi with
 | 0,_=>cases hx;exact hm _ (by decide) ⟨by unfold i64ok;decide,by unfold i64ok;decide,by unfold i64ok;decide,by unfold i64ok;decide,by unfold i64ok;decide,by decide,by decide,by decide,fun n hn=>by cases hn⟩
 | 1,_=>cases hx;exact hm _ (by decide) ⟨by unfold i64ok;decide,by unfold i64ok;decide,by unfold i64ok;decide,by unfold i64ok;decide,by unfold i64ok;decide,by decide,by decide,by decide,fun n hn=>by cases hn⟩
 | 2,_=>cases hx;exact hm _ (by decide) ⟨by unfold i64ok;decide,by unfold i64ok;decide,by unfold i64ok;decide,by unfold i64ok;decide,by unfold i64ok;decide,by decide,by decide,by decide,fun n hn=>by cases hn⟩
 | 3,_=>cases hx;exact hm _ (by decide) ⟨by unfold i64ok;decide,by unfold i64ok;decide,by unfold i64ok;decide,by unfold i64ok;decide,by unfold i64ok;decide,by decide,by decide,by decide,fun n hn=>by cases hn⟩
 | 4,_=>cases hx;exact hm _ (by decide) ⟨by unfold i64ok;decide,by unfold i64ok;decide,by unfold i64ok;decide,by unfold i64ok;decide,by unfold i64ok;decide,by decide,by decide,by decide,fun n hn=>by cases hn⟩
theorem al_expr (w:World) (hS:Signs w):Calls prog 12 #[.string ⟨#[49,32,43,32,50,32,42,32,120]⟩] w fun r Y=>AlAt w r Y:=by
 obtain⟨lx,hr⟩:=al_run
 refine(expr_run al_lex (by decide) hr rfl (by rw[al_toks];decide) (by decide) w hS).mono fun r Y ⟨o,c,h1,h2,h3⟩=>?_
 obtain⟨o',cap,b,off,e0,e1,_,e2,e3⟩:=exs_own h2 al_good
 cases e0
 have e4:=e2 (by decide)
 subst e4
 obtain⟨_,_,_,_,_,a4,_⟩:=e3 2 (by decide) _ rfl
 obtain⟨_,b0,_⟩:=e3 3 (by decide) _ rfl
 exact⟨b,off,c,h1,Hd ⟨h3,a4,b0⟩⟩
theorem alive_px (w:World) (hS:Signs w):Calls prog 7 #[] w fun r Y=>r=.returned (.bool true)∧Below w.heap.size w Y:=by
 have C:=Hd (al_expr w hS)
 unfold AlAt at C
 go_enter Tryz.func7,Tryz.ntmps7
 go_wp2_with (go_at_call 12;(with_reducible refine C.out.mono ?_);rintro e w2 ⟨b,off,c,rfl,h2⟩;have a4:=h2.out.2.1;have b0:=h2.out.2.2;have hb:=World.block_lt_of_cell? _ _ a4)
 go_ret
 exact⟨rfl,(h2.out.1.alloc h2.out.1.size _).alloc (h2.out.1.alloc h2.out.1.size _).size _⟩
end Go.Proofs.YtlbhlncipajapaaGreatDoor
namespace Go.Proofs.YtlbhlncipajapaaGreatDoor
open Go.RowKit
attribute [local go_sem] Oper.semAt_some
theorem eqInts_any (xs:List Int) (s t:Value) (w:World) (hs:Hid (IntsAt w s xs)) (ht:Hid (IntsAt w t xs)) (lx:Hid (xs.length≤reachN)) :
  Calls prog 21 #[s,t] w fun r Y=>r=.returned (.bool true)∧Below w.heap.size w Y:=by
 obtain⟨o1,cap1,b1,f1,rfl,_,_,e1,c1⟩:=hs.out
 obtain⟨o2,cap2,b2,f2,rfl,_,_,e2,c2⟩:=ht.out
 obtain⟨n,hn⟩:∃n,n=xs.length:=⟨_,rfl⟩
 rw[←hn] at e1 c1 e2 c2 ⊢
 have HN:=Hd hn
 have E1:=Hd e1
 have E2:=Hd e2
 have C1:=Hd c1
 have C2:=Hd c2
 have hnl:(n:Int)≤140737488351232:=by have:=lx.out;unfold reachN at this;omega
 clear hn e1 e2 c1 c2 hs ht lx
 go_enter Tryz.func21,Tryz.ntmps21
 have z1:((n:Int) !=(n:Int))=false:=by simp
 go_wp2_with (fail)
 clear z1
 go_loopw [5] (fun i wr=>∃(c:Nat),i=.int .i64 (c:Int)∧c≤n∧Hid (Below w.heap.size w wr)) (fun i _=>n-litLen i)
 case atStart=>exact⟨0,rfl,Nat.zero_le _,Hd (qB _ _)⟩
 case round =>
  obtain⟨c,rfl,hc,hWr⟩:=hrel
  rcases Nat.lt_or_ge c n with hlt | hge
  ·have hl:(c:Int)<(n:Int):=by omega
   have r1:=cell_on hWr.out (C1.out c hlt)
   have r2:=cell_on hWr.out (C2.out c hlt)
   have ix1:=ix_ints (cap:=cap1) E1.out hlt (by omega)
   have ix2:=ix_ints (cap:=cap2) E2.out hlt (by omega)
   unfold Ix at ix1 ix2
   obtain⟨x,hx⟩:∃x,x=xs.getD c 0:=⟨_,rfl⟩
   rw[←hx,Nat.mul_one] at r1 r2
   have HDR:Hid (Below w.heap.size w wr.drew):=Hd (hWr.out.trans ⟨rfl,rfl,rfl,qL _,fun _ _=>rfl⟩)
   have z2:(x !=x)=false:=by simp
   clear hx
   go_wp2_with (fail)
   go_region_held3 (fun w'=>w'.cell? ⟨b1,f1+c,none⟩=some (.int .i64 x)∧w'.cell? ⟨b2,f2+c,none⟩=some (.int .i64 x))
    (first | exact⟨r1,r2⟩)
    (first | fail)
   all_goals (go_wp2_with fail)
   exact⟨⟨c+1,by go_num,by omega,HDR⟩,by simp[litLen];omega⟩
  ·obtain rfl:c=n:=by omega
   have hno:¬(c:Int)<(c:Int):=by omega
   go_wp2_with (fail)
   go_ret
   exact⟨rfl,hWr.out⟩
end Go.Proofs.YtlbhlncipajapaaGreatDoor
namespace Go.Proofs.YtlbhlncipajapaaGreatDoor
open Go.RowKit
attribute [local go_sem] Oper.semAt_some
theorem two_boxes (w:World) (c d:Array Value) (S T:Nat):((w.alloc (.cells c S)).alloc (.cells d T)).heap[w.heap.size]?=some (.cells c S (0,0))∧((w.alloc (.cells c S)).alloc (.cells d T)).heap[w.heap.size+1]?=some (.cells d T (0,0)):=by
 constructor
 ·rw[heap_alloc_old _ _ (by simp)];exact heap_alloc_new w _
 ·have:=heap_alloc_new (w.alloc (.cells c S)) (.cells d T)
  rw[World.size_alloc] at this
  exact this
theorem two_boxes' (w:World) (c d:Array Value) (S T:Nat):((w.alloc (.cells c S)).alloc (.cells d T)).drew.heap[w.heap.size]?=some (.cells c S (0,0))∧((w.alloc (.cells c S)).alloc (.cells d T)).drew.heap[w.heap.size+1]?=some (.cells d T (0,0)):=two_boxes w c d S T
end Go.Proofs.YtlbhlncipajapaaGreatDoor
