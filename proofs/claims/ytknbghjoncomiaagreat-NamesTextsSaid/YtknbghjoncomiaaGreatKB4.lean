/- Joined: RgGood, RgRun, RgRun2, RgLe, RgRun3, RgRun4, RgFin, RgBad, RgAll. -/
import Derived.Test.YtknbghjoncomiaaGreatKB3
namespace Go.Proofs.YtknbghjoncomiaaGreat
section
open Lx
set_option linter.unusedVariables false
theorem QBC {k a b c p v:Int} {n:Nat} (hn:n≤30000) (hk:1≤k∧k≤21) (ha:0≤a∧a≤n) (hb:0≤b∧b≤n) (hc:0≤c∧c≤n) (hv:0≤v∧v≤9223372036854775807) {nm st:ByteArray} (hnm:nm.size≤20000) (hst:st.size≤20000) {l:List Int} (hl:l.length≤30000) (hla:∀ x∈l,0≤x∧x < (n:Int)):ExOk ⟨k,a,b,c,nm,st,v,l,p⟩:=by
 refine ⟨?_,?_,?_,?_,?_,?_,?_,?_,?_⟩
 ·unfold QBi;dsimp only;omega
 ·unfold QBi;dsimp only;omega
 ·unfold QBi;dsimp only;omega
 ·unfold QBi;dsimp only;omega
 ·unfold QBi;dsimp only;omega
 ·unfold QAH;dsimp only;omega
 ·unfold QAH;dsimp only;omega
 ·unfold QAH;dsimp only;omega
 ·intro x hx;have:=hla x hx;unfold QBi;omega
theorem zz (n:Nat):(0:Int)≤0∧(0:Int)≤(n:Int):=by omega
theorem zv:(0:Int)≤0∧(0:Int)≤9223372036854775807:=by omega
theorem sz0:(⟨#[]⟩:ByteArray).size = 0:=rfl
theorem good1 {k a p:Int} {n:Nat} (hn:n≤30000) (hk:k = 4∨k = 5∨k = 16∨k = 21) (ha:0≤a∧a < (n:Int)):QER { ex0 with kind:=k,a:=a,pos:=p } n:=by
 refine ⟨?_,QBC hn (by first | omega | exact zz _ | exact zv) (by first | omega | exact zz _ | exact zv) (by first | omega | exact zz _ | exact zv) (by first | omega | exact zz _ | exact zv) (by first | omega | exact zz _ | exact zv) (by decide) (by decide) (by decide) (fun x hx=>by cases hx)⟩
 rcases hk with rfl | rfl | rfl | rfl <;> simp [QCJ,QAB,QAL,ex0,QBP,mostV,ha,sz0]
theorem good2 {k a b p:Int} {n:Nat} (hn:n≤30000) (hk:(6≤k∧k≤14)∨k = 17∨k = 18) (ha:0≤a∧a < (n:Int)) (hb:0≤b∧b < (n:Int)):QER { ex0 with kind:=k,a:=a,b:=b,pos:=p } n:=by
 refine ⟨?_,QBC hn (by first | omega | exact zz _ | exact zv) (by first | omega | exact zz _ | exact zv) (by first | omega | exact zz _ | exact zv) (by first | omega | exact zz _ | exact zv) (by first | omega | exact zz _ | exact zv) (by decide) (by decide) (by decide) (fun x hx=>by cases hx)⟩
 obtain rfl | rfl | rfl | rfl | rfl | rfl | rfl | rfl | rfl | rfl | rfl:k = 6∨k = 7∨k = 8∨k = 9∨k = 10∨k = 11∨k = 12∨k = 13∨k = 14∨k = 17∨k = 18:=by omega
 all_goals simp [QCJ,QAB,QAL,ex0,QBP,mostV,ha,hb,sz0]
theorem good3 {a b c p:Int} {n:Nat} (hn:n≤30000) (ha:0≤a∧a < (n:Int)) (hb:0≤b∧b < (n:Int)) (hc:0≤c∧c < (n:Int)):QER { ex0 with kind:=15,a:=a,b:=b,c:=c,pos:=p } n:=by
 refine ⟨?_,QBC hn (by first | omega | exact zz _ | exact zv) (by first | omega | exact zz _ | exact zv) (by first | omega | exact zz _ | exact zv) (by first | omega | exact zz _ | exact zv) (by first | omega | exact zz _ | exact zv) (by decide) (by decide) (by decide) (fun x hx=>by cases hx)⟩
 simp [QCJ,QAB,QAL,ex0,QBP,mostV,ha,hb,hc,sz0]
theorem goodN {v p:Int} {n:Nat} (hn:n≤30000) (hv:0≤v∧v≤9223372036854775807):QER { ex0 with kind:=1,v:=v,pos:=p } n:=by
 refine ⟨?_,QBC hn (by first | omega | exact zz _ | exact zv) (by first | omega | exact zz _ | exact zv) (by first | omega | exact zz _ | exact zv) (by first | omega | exact zz _ | exact zv) hv (by decide) (by decide) (by decide) (fun x hx=>by cases hx)⟩
 simp [QCJ,QAB,QAL,ex0,QBP,mostV,hv,sz0]
theorem goodT {p:Int} {n:Nat} (hn:n≤30000):QER { ex0 with kind:=2,v:=1,pos:=p } n:=by
 refine ⟨?_,QBC hn (by first | omega | exact zz _ | exact zv) (by first | omega | exact zz _ | exact zv) (by first | omega | exact zz _ | exact zv) (by first | omega | exact zz _ | exact zv) (by first | omega | exact zz _ | exact zv) (by decide) (by decide) (by decide) (fun x hx=>by cases hx)⟩
 simp [QCJ,QAB,QAL,ex0,QBP,mostV,sz0]
theorem goodF {p:Int} {n:Nat} (hn:n≤30000):QER { ex0 with kind:=2,pos:=p } n:=by
 refine ⟨?_,QBC hn (by first | omega | exact zz _ | exact zv) (by first | omega | exact zz _ | exact zv) (by first | omega | exact zz _ | exact zv) (by first | omega | exact zz _ | exact zv) (by first | omega | exact zz _ | exact zv) (by decide) (by decide) (by decide) (fun x hx=>by cases hx)⟩
 simp [QCJ,QAB,QAL,ex0,QBP,mostV,sz0]
theorem QDt (l:List UInt8):(str l).size = l.length:=by simp [str,ByteArray.size]
theorem good_nm {l:List UInt8} {p:Int} {n:Nat} (hn:n≤30000) (h0:l≠[]) (h1:l.length≤20000):QER { ex0 with kind:=3,name:=str l,pos:=p } n:=by
 have hz:(str l).size≠0:=by rw [QDt];exact fun h=>h0 (List.length_eq_zero_iff.1 h)
 refine ⟨?_,QBC hn (by first | omega | exact zz _ | exact zv) (by first | omega | exact zz _ | exact zv) (by first | omega | exact zz _ | exact zv) (by first | omega | exact zz _ | exact zv) (by first | omega | exact zz _ | exact zv) (by rw [QDt];exact h1) (by decide) (by decide) (fun x hx=>by cases hx)⟩
 simp [QCJ,QAB,QAL,ex0,QBP,mostV,sz0,hz]
theorem good_is {l m:List UInt8} {p:Int} {n:Nat} (hn:n≤30000) (h0:l≠[]) (h1:l.length≤20000) (h2:m≠[]) (h3:m.length≤20000):QER { ex0 with kind:=20,name:=str l,state:=str m,pos:=p } n:=by
 have hz:(str l).size≠0:=by rw [QDt];exact fun h=>h0 (List.length_eq_zero_iff.1 h)
 have hz2:(str m).size≠0:=by rw [QDt];exact fun h=>h2 (List.length_eq_zero_iff.1 h)
 refine ⟨?_,QBC hn (by first | omega | exact zz _ | exact zv) (by first | omega | exact zz _ | exact zv) (by first | omega | exact zz _ | exact zv) (by first | omega | exact zz _ | exact zv) (by first | omega | exact zz _ | exact zv) (by rw [QDt];exact h1) (by rw [QDt];exact h3) (by decide) (fun x hx=>by cases hx)⟩
 simp [QCJ,QAB,QAL,ex0,QBP,mostV,hz,hz2]
theorem QHF {l:List UInt8} {al:List Int} {p:Int} {n:Nat} (hn:n≤30000) (h0:l≠[]) (h1:l.length≤20000) (ha:al.length≤30000) (hv:∀ x∈al,0≤x∧x < (n:Int)):QER { ex0 with kind:=19,name:=str l,args:=al,pos:=p } n:=by
 have hz:(str l).size≠0:=by rw [QDt];exact fun h=>h0 (List.length_eq_zero_iff.1 h)
 refine ⟨?_,QBC hn (by first | omega | exact zz _ | exact zv) (by first | omega | exact zz _ | exact zv) (by first | omega | exact zz _ | exact zv) (by first | omega | exact zz _ | exact zv) (by first | omega | exact zz _ | exact zv) (by rw [QDt];exact h1) (by decide) ha hv⟩
 simp only [QCJ,QAB,QAL,ex0,QBP,mostV]
 simp [hz,sz0]
 exact fun x hx=>hv x hx
end
section
open Lx
set_option linter.unusedVariables false
def QC5:Job→Nat
 | .bin least=>10 - least
 | .atom=>1
 | _=>0
def QEV (ts:List Tok) (j:Job) (σ:RS):Nat:=(ts.length - σ.at_)*1024+(31 - σ.deep.toNat)*16+QC5 j
def QGy (σ:RS):Job→Prop
 | .atom=>σ.code = 0
 | .bin least=>1≤least∧least≤6
 | .loop least a=>1≤least∧least≤5∧IxOk σ a
 | .args acc=>acc.length≤σ.at_∧∀ a∈acc,IxOk σ a
 | _=>True
def ResOk (τ:RS) (v:Int) (l:List Int):Job→Prop
 | .args _=>l.length≤τ.at_∧∀ a∈l,IxOk τ a
 | _=>IxOk τ v
def Res (ts:List Tok) (j:Job) (σ:RS):Prop:=∃ f v l τ,QAh ts f j σ = some (v,l,τ)∧Go ts 0 σ τ∧τ.deep = σ.deep∧ResOk τ v l j
theorem QBx {ts:List Tok} {j j' : Job} {σ σ' : RS} (h:σ.at_ < σ'.at_) (hl:σ.at_ < ts.length) (hr:QC5 j'≤9):QEV ts j' σ' < QEV ts j σ:=by
 unfold QEV
 have h1:(31 - σ'.deep.toNat)*16≤31*16:=Nat.mul_le_mul_right _ (by omega)
 have h2:(ts.length - σ'.at_)*1024+1024≤(ts.length - σ.at_)*1024:=by
  have:ts.length - σ'.at_+1≤ts.length - σ.at_:=by omega
  have:=Nat.mul_le_mul_right 1024 this
  omega
 omega
theorem QHT {ts:List Tok} {j j' : Job} {σ σ' : RS} (h:σ.at_≤σ'.at_) (hd:σ'.deep = σ.deep+1) (h0:0≤σ.deep) (h30:σ.deep≤30) (hr:QC5 j'≤9):QEV ts j' σ' < QEV ts j σ:=by
 unfold QEV
 have h2:(ts.length - σ'.at_)*1024≤(ts.length - σ.at_)*1024:=Nat.mul_le_mul_right _ (by omega)
 rw [hd]
 omega
theorem QDk {ts:List Tok} {j j' : Job} {σ σ' : RS} (h:σ.at_≤σ'.at_) (hd:σ'.deep = σ.deep) (hr:QC5 j' < QC5 j):QEV ts j' σ' < QEV ts j σ:=by
 unfold QEV
 have h2:(ts.length - σ'.at_)*1024≤(ts.length - σ.at_)*1024:=Nat.mul_le_mul_right _ (by omega)
 rw [hd]
 omega
theorem QAi {ts:List Tok} {f:Nat} {j:Job} {σ:RS} (h:okS σ = true):QAh ts (f+1) j σ = (match j with
  | .expr=>QEz ts (QAh ts f) σ
  | .pre=>QO1 ts (QAh ts f) σ
  | .atom=>QDa ts (QAh ts f) σ
  | .bin least=>QOi (QAh ts f) least σ
  | .loop least a=>QFd ts (QAh ts f) least a σ
  | .args acc=>QH4 ts (QAh ts f) acc σ):=by
 unfold QAh
 rw [if_pos h]
 cases j <;> rfl
theorem QAW {ts:List Tok} {k:Nat} {σ τ:RS} (h:Go ts k σ τ):Go ts 0 σ τ:=h.less (Nat.zero_le _)
theorem QCP (x:Ex) (τ:RS):IxOk (QBQ x τ) (τ.exprs.length:Int):=fun _=>by unfold QBQ;simp;omega
theorem QD5 {τ:RS} {v:Int} (h:IxOk τ v):IxOk (QAf τ) v:=h
section
variable {ts:List Tok} (he:EndOk ts) (ht:QHx ts)
include he
theorem QOW {σ:RS} (hs:St ts σ) (ih:∀ j' σ',QEV ts j' σ' < QEV ts .expr σ→St ts σ'→QGy σ' j'→Res ts j' σ'):Res ts .expr σ:=by
 obtain ⟨ge,gd,ga,gx,gc⟩:=go_enter' (ts:=ts) hs.lt
 obtain ⟨x,hx⟩:∃ x,x = QAJ ts σ:=⟨_,rfl⟩
 rw [← hx] at ge gd ga gx gc
 have hd0:=hs.d0
 have hd30:=hs.d30
 by_cases h0:x.code = 0
 ·have hd:=gc h0
  have sx:St ts x:=hs.go ge (by omega) (by omega)
  cases hi:isS ts [105,102] x with
  | true =>
   have g1:=go_step' he sx.lt (QAU hi).1
   have s1:St ts (QA0 x):=sx.go g1 (by show 0≤x.deep;omega) (by show x.deep≤30;omega)
   obtain ⟨f1,a,l1,τ1,r1,k1,d1,v1⟩:=ih .expr (QA0 x) (QBx (by unfold QA0;simp;omega) hs.lt (by simp [QC5])) s1 trivial
   have q1:τ1.deep = x.deep:=d1
   have w1:=QAQ he k1.lt [116,104,101,110]
   have G2:=(g1.trans k1).trans w1
   have s2:St ts (QA3 ts [116,104,101,110] τ1):=sx.go G2 (by rw [QA6,q1];omega) (by rw [QA6,q1];omega)
   obtain ⟨f2,b,l2,τ2,r2,k2,d2,v2⟩:=ih .expr _ (QBx (by have:=G2.room;have:=G2.more;omega) hs.lt (by simp [QC5])) s2 trivial
   have q2:τ2.deep = x.deep:=by rw [d2,QA6,q1]
   have w2:=QAQ he k2.lt [101,108,115,101]
   have G3:=(G2.trans k2).trans w2
   have s3:St ts (QA3 ts [101,108,115,101] τ2):=sx.go G3 (by rw [QA6,q2];omega) (by rw [QA6,q2];omega)
   obtain ⟨f3,c,l3,τ3,r3,k3,d3,v3⟩:=ih .expr _ (QBx (by have:=G3.room;have:=G3.more;omega) hs.lt (by simp [QC5])) s3 trivial
   have q3:τ3.deep = x.deep:=by rw [d3,QA6,q2]
   have G4:=G3.trans k3
   have s4:St ts τ3:=sx.go G4 (by omega) (by omega)
   have hn:τ3.exprs.length≤30000:=by have:=s4.room;have:=s4.lt;have:=s4.len;omega
   obtain ⟨X,hX⟩:∃ X:Ex,X = { ex0 with kind:=15,a:=a,b:=b,c:=c,pos:=((QA9 ts x.at_).at_:Int) }:=⟨_,rfl⟩
   have P:=(G4.less (m:=0+1) (by omega)).put (x:=X) fun hz _=>hX ▸ good3 hn ((((IxOk.go v1 w1).go k2).go w2).go k3 hz) ((IxOk.go v2 w2).go k3 hz) (v3 hz)
   refine ⟨f1+f2+f3+1,(τ3.exprs.length:Int),[],QAf (QBQ X τ3),?_,?_,?_,QD5 (QCP X τ3)⟩
   ·rw [QAi hs.ok]
    simp only [QEz]
    rw [← hx,if_pos h0,if_pos hi,QAs (f:=f1) (by omega) _ _ _ r1]
    simp only [Option.bind_some]
    rw [QAs (f:=f2) (by omega) _ _ _ r2]
    simp only [Option.bind_some]
    rw [QAs (f:=f3) (by omega) _ _ _ r3]
    simp only [Option.bind_some]
    rw [QBc s4.ok,hX]
   ·exact QAW ((ge.trans P).trans (QC9 P.lt))
   ·show τ3.deep - 1 = σ.deep;omega
  | false =>
   have hi2:¬ isS ts [105,102] x = true:=by rw [hi];simp
   obtain ⟨f1,o,l1,y,r1,k1,d1,v1⟩:=ih (.bin 1) x (QHT (by omega) gd hd0 hd30 (by simp [QC5])) sx ⟨by omega,by omega⟩
   have sy:St ts y:=sx.go k1 (by omega) (by omega)
   have arm:∀ (s:List UInt8) (k:Int),(k = 17∨k = 18)→isS ts s y = true→∃ f b l3 τ X,X = { ex0 with kind:=k,a:=o,b:=b,pos:=((QA9 ts y.at_).at_:Int) }∧QAh ts f .expr (QA0 y) = some (b,l3,τ)∧okS τ = true∧Go ts 0 y (QBQ X τ)∧τ.deep = y.deep:=by
    intro s k hk hs2
    have g1:=go_step' he sy.lt (QAU hs2).1
    have s1:St ts (QA0 y):=sy.go g1 (by show 0≤y.deep;omega) (by show y.deep≤30;omega)
    obtain ⟨f2,b,l2,τ,r2,k2,d2,v2⟩:=ih .expr (QA0 y) (QBx (by have:=k1.at_;unfold QA0;simp;omega) hs.lt (by simp [QC5])) s1 trivial
    have q2:τ.deep = y.deep:=d2
    have G2:=g1.trans k2
    have s2:St ts τ:=sy.go G2 (by omega) (by omega)
    have hn:τ.exprs.length≤30000:=by have:=s2.room;have:=s2.lt;have:=s2.len;omega
    exact ⟨f2,b,l2,τ,_,rfl,r2,s2.ok,(G2.less (m:=0+1) (by omega)).put fun hz _=>good2 hn (by omega) ((IxOk.go v1 g1).go k2 hz) (v2 hz),q2⟩
   by_cases h3:isS ts [45,62] y = true
   ·obtain ⟨f2,b,l3,τ,X,hX,r2,o2,P,q2⟩:=arm [45,62] 17 (.inl rfl) h3
    refine ⟨f1+f2+1,(τ.exprs.length:Int),[],QAf (QBQ X τ),?_,QAW (((ge.trans k1).trans P).trans (QC9 P.lt)),by show τ.deep - 1 = σ.deep;omega,QD5 (QCP X τ)⟩
    rw [QAi hs.ok]
    simp only [QEz]
    rw [← hx,if_pos h0,if_neg hi2,QAs (f:=f1) (by omega) _ _ _ r1]
    simp only [Option.bind_some]
    rw [if_pos h3,QAs (f:=f2) (by omega) _ _ _ r2]
    simp only [Option.bind_some]
    rw [QBc o2,hX]
   ·by_cases h4:isS ts [102,98,121] y = true
    ·obtain ⟨f2,b,l3,τ,X,hX,r2,o2,P,q2⟩:=arm [102,98,121] 18 (.inr rfl) h4
     refine ⟨f1+f2+1,(τ.exprs.length:Int),[],QAf (QBQ X τ),?_,QAW (((ge.trans k1).trans P).trans (QC9 P.lt)),by show τ.deep - 1 = σ.deep;omega,QD5 (QCP X τ)⟩
     rw [QAi hs.ok]
     simp only [QEz]
     rw [← hx,if_pos h0,if_neg hi2,QAs (f:=f1) (by omega) _ _ _ r1]
     simp only [Option.bind_some]
     rw [if_neg h3,if_pos h4,QAs (f:=f2) (by omega) _ _ _ r2]
     simp only [Option.bind_some]
     rw [QBc o2,hX]
    ·refine ⟨f1+1,o,[],QAf y,?_,QAW ((ge.trans k1).trans (QC9 k1.lt)),by show y.deep - 1 = σ.deep;omega,QD5 v1⟩
     rw [QAi hs.ok]
     simp only [QEz]
     rw [← hx,if_pos h0,if_neg hi2,QAs (f:=f1) (by omega) _ _ _ r1]
     simp only [Option.bind_some]
     rw [if_neg h3,if_neg h4,if_pos sy.ok]
 ·refine ⟨1,0,[],QAf x,?_,QAW (ge.trans (QC9 ge.lt)),by show x.deep - 1 = σ.deep;omega,fun hz=>absurd hz h0⟩
  rw [QAi hs.ok]
  simp only [QEz]
  rw [← hx,if_neg h0]
end
end
section
open Lx
set_option linter.unusedVariables false
def exprS' (ts:List Tok) (f:Nat) (σ:RS):Option (Int × RS):=(QAh ts f .expr σ).map fun r=>(r.1,r.2.2)
theorem QHb {ts:List Tok} {σ:RS} (h:QAo ts σ prefixL≠0):∃ s,isS ts s σ = true∧(QAo ts σ prefixL = 4∨QAo ts σ prefixL = 5∨QAo ts σ prefixL = 16∨QAo ts σ prefixL = 21):=by
 unfold QAo at h ⊢
 cases hf:prefixL.find? fun p=>isS ts p.1 σ with
 | none=>rw [hf] at h;exact absurd rfl h
 | some p =>
  have h1:=List.find?_some hf
  have h2:=List.mem_of_find?_eq_some hf
  refine ⟨p.1,h1,?_⟩
  unfold prefixL at h2
  simp only [List.mem_cons,List.not_mem_nil,or_false] at h2
  rcases h2 with rfl | rfl | rfl | rfl <;> simp
theorem QIJ {ts:List Tok} {σ:RS} {n:Nat} (hn:1≤n) (h:(QB3 ts σ).1 = (n:Int)):∃ s,isS ts s σ = true∧6≤(QB3 ts σ).2∧(QB3 ts σ).2≤14:=by
 unfold QB3 QF9 at h ⊢
 cases hf:levelsL.find? fun p=>isS ts p.1 σ with
 | none=>rw [hf] at h;dsimp only at h;omega
 | some p =>
  have h1:=List.find?_some hf
  have h2:=List.mem_of_find?_eq_some hf
  refine ⟨p.1,h1,?_⟩
  unfold levelsL at h2
  simp only [List.mem_cons,List.not_mem_nil,or_false] at h2
  rcases h2 with rfl | rfl | rfl | rfl | rfl | rfl | rfl | rfl | rfl <;> simp
theorem QIe {ts:List Tok} {i:Nat} (h:i < ts.length):ts[i]? = some (QA9 ts i):=by
 unfold QA9;rw [List.getD_eq_getElem?_getD,List.getElem?_eq_getElem h];rfl
theorem St.small {ts:List Tok} {σ:RS} (h:St ts σ):σ.exprs.length≤30000:=by have:=h.room;have:=h.lt;have:=h.len;omega
section
variable {ts:List Tok} (he:EndOk ts) (ht:QHx ts)
include he
theorem tot_pre {σ:RS} (hs:St ts σ) (ih:∀ j' σ',QEV ts j' σ' < QEV ts .pre σ→St ts σ'→QGy σ' j'→Res ts j' σ'):Res ts .pre σ:=by
 obtain ⟨ge,gd,ga,gx,gc⟩:=go_enter' (ts:=ts) hs.lt
 obtain ⟨x,hx⟩:∃ x,x = QAJ ts σ:=⟨_,rfl⟩
 rw [← hx] at ge gd ga gx gc
 have hd0:=hs.d0
 have hd30:=hs.d30
 by_cases h0:x.code = 0
 ·have hd:=gc h0
  have sx:St ts x:=hs.go ge (by omega) (by omega)
  by_cases hk:QAo ts x prefixL = 0
  ·obtain ⟨f1,a,l1,τ,r1,k1,d1,v1⟩:=ih .atom x (QHT (by omega) gd hd0 hd30 (by simp [QC5])) sx h0
   have s1:St ts τ:=sx.go k1 (by omega) (by omega)
   refine ⟨f1+1,a,[],QAf τ,?_,QAW ((ge.trans k1).trans (QC9 k1.lt)),by show τ.deep - 1 = σ.deep;omega,QD5 v1⟩
   rw [QAi hs.ok]
   simp only [QO1]
   rw [← hx,if_pos h0,if_pos hk,QAs (f:=f1) (by omega) _ _ _ r1]
   simp only [Option.bind_some]
   rw [if_pos s1.ok]
  ·obtain ⟨s,hi,hkk⟩:=QHb hk
   have g1:=go_step' he sx.lt (QAU hi).1
   have s1:St ts (QA0 x):=sx.go g1 (by show 0≤x.deep;omega) (by show x.deep≤30;omega)
   obtain ⟨f1,a,l1,τ,r1,k1,d1,v1⟩:=ih .pre (QA0 x) (QBx (by unfold QA0;simp;omega) hs.lt (by simp [QC5])) s1 trivial
   have q1:τ.deep = x.deep:=d1
   have s2:St ts τ:=s1.go k1 (by omega) (by omega)
   obtain ⟨X,hX⟩:∃ X:Ex,X = { ex0 with kind:=QAo ts x prefixL,a:=a,pos:=((QA9 ts x.at_).at_:Int) }:=⟨_,rfl⟩
   have P:=((g1.trans k1).less (m:=0+1) (by omega)).put (x:=X) fun hz _=>hX ▸ good1 s2.small hkk (v1 hz)
   refine ⟨f1+1,(τ.exprs.length:Int),[],QAf (QBQ X τ),?_,QAW ((ge.trans P).trans (QC9 P.lt)),by show τ.deep - 1 = σ.deep;omega,QD5 (QCP X τ)⟩
   rw [QAi hs.ok]
   simp only [QO1]
   rw [← hx,if_pos h0,if_neg hk,QAs (f:=f1) (by omega) _ _ _ r1]
   simp only [Option.bind_some]
   rw [QBc s2.ok,hX]
 ·refine ⟨1,0,[],QAf x,?_,QAW (ge.trans (QC9 ge.lt)),by show x.deep - 1 = σ.deep;omega,fun hz=>absurd hz h0⟩
  rw [QAi hs.ok]
  simp only [QO1]
  rw [← hx,if_neg h0]
omit he in
theorem tot_bin {least:Nat} {σ:RS} (hs:St ts σ) (h1:1≤least) (h6:least≤6) (ih:∀ j' σ',QEV ts j' σ' < QEV ts (.bin least) σ→St ts σ'→QGy σ' j'→Res ts j' σ'):Res ts (.bin least) σ:=by
 have hd0:=hs.d0
 have hd30:=hs.d30
 by_cases h5:5 < least
 ·obtain ⟨f1,a,l1,τ,r1,k1,d1,v1⟩:=ih .pre σ (QDk (Nat.le_refl _) rfl (by simp [QC5];omega)) hs trivial
  refine ⟨f1+1,a,l1,τ,?_,k1,d1,v1⟩
  rw [QAi hs.ok]
  simp only [QOi]
  rw [if_pos h5,r1]
 ·obtain ⟨f1,a,l1,τ,r1,k1,d1,v1⟩:=ih (.bin (least+1)) σ (QDk (Nat.le_refl _) rfl (by simp [QC5];omega)) hs ⟨by omega,by omega⟩
  have s1:St ts τ:=hs.go k1 (by omega) (by omega)
  obtain ⟨f2,c,l2,υ,r2,k2,d2,v2⟩:=ih (.loop least a) τ (QDk k1.at_ d1 (by simp [QC5];omega)) s1 ⟨h1,by omega,v1⟩
  refine ⟨f1+f2+1,c,l2,υ,?_,QAW (k1.trans k2),by omega,v2⟩
  rw [QAi hs.ok]
  simp only [QOi]
  rw [if_neg h5,QAs (f:=f1) (by omega) _ _ _ r1]
  simp only [Option.bind_some]
  rw [QAs (f:=f2) (by omega) _ _ _ r2]
theorem QOX {least:Nat} {a:Int} {σ:RS} (hs:St ts σ) (h1:1≤least) (h5:least≤5) (ha:IxOk σ a) (ih:∀ j' σ',QEV ts j' σ' < QEV ts (.loop least a) σ→St ts σ'→QGy σ' j'→Res ts j' σ'):Res ts (.loop least a) σ:=by
 have hd0:=hs.d0
 have hd30:=hs.d30
 by_cases h0:σ.code = 0
 ·by_cases hl:(QB3 ts σ).1 = (least:Int)
  ·obtain ⟨s,hi,hk1,hk2⟩:=QIJ h1 hl
   have g1:=go_step' he hs.lt (QAU hi).1
   have s1:St ts (QA0 σ):=hs.go g1 hd0 hd30
   obtain ⟨f1,b,l1,τ,r1,k1,d1,v1⟩:=ih (.bin (least+1)) (QA0 σ) (QBx (by unfold QA0;simp) hs.lt (by simp [QC5] <;> omega)) s1 ⟨by omega,by omega⟩
   have q1:τ.deep = σ.deep:=d1
   have s2:St ts τ:=s1.go k1 (by omega) (by omega)
   obtain ⟨X,hX⟩:∃ X:Ex,X = { ex0 with kind:=(QB3 ts σ).2,a:=a,b:=b,pos:=((QA9 ts σ.at_).at_:Int) }:=⟨_,rfl⟩
   have G:=g1.trans k1
   have P:=(G.less (m:=0+1) (by omega)).put (x:=X) fun hz _=>hX ▸ good2 s2.small (by omega) ((ha.go g1).go k1 hz) (v1 hz)
   have s3:St ts (QBQ X τ):=hs.go P (by show 0≤τ.deep;omega) (by show τ.deep≤30;omega)
   by_cases h3:least = 3
   ·refine ⟨f1+1,(τ.exprs.length:Int),[],QBQ X τ,?_,P,q1,QCP X τ⟩
    rw [QAi hs.ok]
    simp only [QFd]
    rw [if_pos h0,if_pos hl,QAs (f:=f1) (by omega) _ _ _ r1]
    simp only [Option.bind_some]
    rw [QBc s2.ok,if_pos h3,hX]
   ·obtain ⟨f2,c,l2,υ,r2,k2,d2,v2⟩:=ih (.loop least (τ.exprs.length:Int)) (QBQ X τ) (QBx (by have:=G.at_;have:=G.room;have:=G.more;show σ.at_ < τ.at_;omega) hs.lt (by simp [QC5])) s3 ⟨h1,h5,QCP X τ⟩
    refine ⟨f1+f2+1,c,l2,υ,?_,QAW (P.trans k2),by rw [d2];exact q1,v2⟩
    rw [QAi hs.ok]
    simp only [QFd]
    rw [if_pos h0,if_pos hl,QAs (f:=f1) (by omega) _ _ _ r1]
    simp only [Option.bind_some]
    rw [QBc s2.ok,if_neg h3,← hX,QAs (f:=f2) (by omega) _ _ _ r2]
  ·refine ⟨1,a,[],σ,?_,Go.refl hs.lt,rfl,ha⟩
   rw [QAi hs.ok]
   simp only [QFd]
   rw [if_pos h0,if_neg hl]
 ·refine ⟨1,a,[],σ,?_,Go.refl hs.lt,rfl,ha⟩
  rw [QAi hs.ok]
  simp only [QFd]
  rw [if_neg h0]
theorem QOU {acc:List Int} {σ:RS} (hs:St ts σ) (hl:acc.length≤σ.at_) (ha:∀ a∈acc,IxOk σ a) (ih:∀ j' σ',QEV ts j' σ' < QEV ts (.args acc) σ→St ts σ'→QGy σ' j'→Res ts j' σ'):Res ts (.args acc) σ:=by
 have hd0:=hs.d0
 have hd30:=hs.d30
 have hlen:acc.length≤40000:=by have:=hs.lt;have:=hs.len;omega
 by_cases hi:isS ts [44] σ = true
 ·have g1:=go_step' he hs.lt (QAU hi).1
  have s1:St ts (QA0 σ):=hs.go g1 hd0 hd30
  obtain ⟨f1,b,l1,τ,r1,k1,d1,v1⟩:=ih .expr (QA0 σ) (QBx (by unfold QA0;simp) hs.lt (by simp [QC5])) s1 trivial
  have q1:τ.deep = σ.deep:=d1
  have s2:St ts τ:=s1.go k1 (by omega) (by omega)
  have G:=g1.trans k1
  have hat:σ.at_ < τ.at_:=by have:=k1.at_;have:(QA0 σ).at_ = σ.at_+1:=rfl;omega
  obtain ⟨f2,c,l2,υ,r2,k2,d2,v2⟩:=ih (.args (acc ++ [b])) τ (QBx hat hs.lt (by simp [QC5])) s2 ⟨by simp;omega,fun a h=>by
   rcases List.mem_append.1 h with h | h
   ·exact ((ha a h).go g1).go k1
   ·obtain rfl:=List.mem_singleton.1 h;exact v1⟩
  refine ⟨f1+f2+1,c,l2,υ,?_,QAW (G.trans k2),by omega,v2⟩
  rw [QAi hs.ok]
  simp only [QH4]
  rw [if_pos hlen,if_pos hi,QAs (f:=f1) (by omega) _ _ _ r1]
  simp only [Option.bind_some]
  rw [QAs (f:=f2) (by omega) _ _ _ r2]
 ·refine ⟨1,0,acc,σ,?_,Go.refl hs.lt,rfl,hl,ha⟩
  rw [QAi hs.ok]
  simp only [QH4]
  rw [if_pos hlen,if_neg hi]
include ht
theorem QOV {σ:RS} (hs:St ts σ) (h0:σ.code = 0) (ih:∀ j' σ',QEV ts j' σ' < QEV ts .atom σ→St ts σ'→QGy σ' j'→Res ts j' σ'):Res ts .atom σ:=by
 have hd0:=hs.d0
 have hd30:=hs.d30
 obtain ⟨t1,t2,t3⟩:=ht _ _ (QIe hs.lt)
 have one:∀ (X:Ex),(QA9 ts σ.at_).kind≠5→QER X (QA0 σ).exprs.length→Go ts 0 σ (QBQ X (QA0 σ))∧okS (QA0 σ) = true:=fun X hk hX =>
  have g1:=go_step' he hs.lt hk
  ⟨(g1.less (m:=0+1) (by omega)).put fun _ _=>hX,(hs.go g1 hd0 hd30).ok⟩
 have sml:(QA0 σ).exprs.length≤30000:=hs.small
 by_cases k2:(QA9 ts σ.at_).kind = 2
 ·obtain ⟨P,o⟩:=one { ex0 with kind:=1,v:=(QA9 ts σ.at_).v,pos:=((QA9 ts σ.at_).at_:Int) } (by omega) (goodN sml (t2 k2))
  refine ⟨1,((QA0 σ).exprs.length:Int),[],_,?_,P,rfl,QCP _ _⟩
  rw [QAi hs.ok]
  simp only [QDa]
  rw [if_pos k2,QBc o]
 by_cases i1:isS ts [116,114,117,101] σ = true
 ·obtain ⟨P,o⟩:=one { ex0 with kind:=2,v:=1,pos:=((QA9 ts σ.at_).at_:Int) } (QAU i1).1 (goodT sml)
  refine ⟨1,((QA0 σ).exprs.length:Int),[],_,?_,P,rfl,QCP _ _⟩
  rw [QAi hs.ok]
  simp only [QDa]
  rw [if_neg k2,if_pos i1,QBc o]
 by_cases i2:isS ts [102,97,108,115,101] σ = true
 ·obtain ⟨P,o⟩:=one { ex0 with kind:=2,pos:=((QA9 ts σ.at_).at_:Int) } (QAU i2).1 (goodF sml)
  refine ⟨1,((QA0 σ).exprs.length:Int),[],_,?_,P,rfl,QCP _ _⟩
  rw [QAi hs.ok]
  simp only [QDa]
  rw [if_neg k2,if_neg i1,if_pos i2,QBc o]
 by_cases k1:(QA9 ts σ.at_).kind = 1
 ·have g1:=go_step' he hs.lt (by omega)
  have s1:St ts (QA0 σ):=hs.go g1 hd0 hd30
  have c1:(QA0 σ).code = 0:=h0
  by_cases i3:isS ts [105,115] (QA0 σ) = true
  ·have g2:=go_step' he s1.lt (QAU i3).1
   have s2:St ts (QA0 (QA0 σ)):=s1.go g2 hd0 hd30
   have g3:=QBG he s2.lt
   have s3:St ts (QA7 ts (QA0 (QA0 σ))):=s2.go g3 (by rw [QAK];exact hd0) (by rw [QAK];exact hd30)
   obtain ⟨X,hX⟩:∃ X:Ex,X = { ex0 with kind:=20,name:=str (QA9 ts σ.at_).text,state:=str (QAS ts (QA0 (QA0 σ))),pos:=((QA9 ts σ.at_).at_:Int) }:=⟨_,rfl⟩
   have G:=(g1.trans g2).trans g3
   have P:=(G.less (m:=0+1) (by omega)).put (x:=X) fun hz _=>by
    have hb:QEW ts (QA0 (QA0 σ)) = true:=by
     by_cases hb:QEW ts (QA0 (QA0 σ)) = true
     ·exact hb
     ·exfalso
      unfold QA7 at hz
      rw [if_neg hb] at hz
      unfold QBN at hz
      rw [if_pos (show (QA0 (QA0 σ)).code = 0 from h0)] at hz
      exact absurd (show (2:Int) = 0 from hz) (by decide)
    obtain ⟨u1,u2,u3⟩:=ht _ _ (QIe s2.lt)
    have hv:QAS ts (QA0 (QA0 σ)) = (QA9 ts (QA0 (QA0 σ)).at_).text:=by unfold QAS;rw [if_pos hb]
    have hk:(QA9 ts (QA0 (QA0 σ)).at_).kind = 1:=by
     unfold QEW at hb
     simp only [Bool.and_eq_true,decide_eq_true_eq] at hb
     exact hb.2
    rw [hX,hv]
    exact good_is s3.small (t1 k1) t3 (u1 hk) u3
   refine ⟨1,((QA7 ts (QA0 (QA0 σ))).exprs.length:Int),[],QBQ X (QA7 ts (QA0 (QA0 σ))),?_,P,(QAK ts _).trans rfl,QCP _ _⟩
   rw [QAi hs.ok]
   simp only [QDa]
   rw [if_neg k2,if_neg i1,if_neg i2,if_pos k1,if_pos i3,QBc s3.ok,hX]
  by_cases i4:isS ts [40] (QA0 σ) = true
  ·have g2:=go_step' he s1.lt (QAU i4).1
   have s2:St ts (QA0 (QA0 σ)):=s1.go g2 hd0 hd30
   by_cases i5:isS ts [41] (QA0 (QA0 σ)) = true
   ·have g3:=go_step' he s2.lt (QAU i5).1
    have s3:St ts (QA0 (QA0 (QA0 σ))):=s2.go g3 hd0 hd30
    obtain ⟨X,hX⟩:∃ X:Ex,X = { ex0 with kind:=19,name:=str (QA9 ts σ.at_).text,pos:=((QA9 ts σ.at_).at_:Int) }:=⟨_,rfl⟩
    have P:=(((g1.trans g2).trans g3).less (m:=0+1) (by omega)).put (x:=X) fun hz _=>hX ▸ QHF (al:=[]) s3.small (t1 k1) t3 (by simp) (fun x hx=>by cases hx)
    refine ⟨1,((QA0 (QA0 (QA0 σ))).exprs.length:Int),[],QBQ X (QA0 (QA0 (QA0 σ))),?_,P,rfl,QCP _ _⟩
    rw [QAi hs.ok]
    simp only [QDa]
    rw [if_neg k2,if_neg i1,if_neg i2,if_pos k1,if_neg i3,if_pos i4,if_pos i5,QBc s3.ok,hX]
   ·obtain ⟨f1,a,l1,τ,r1,m1,d1,v1⟩:=ih .expr (QA0 (QA0 σ)) (QBx (by show σ.at_ < σ.at_+1+1;omega) hs.lt (by simp [QC5])) s2 trivial
    have q1:τ.deep = σ.deep:=d1
    have s3:St ts τ:=s2.go m1 (by omega) (by omega)
    have hat:σ.at_+2≤τ.at_:=by have:=m1.at_;have:(QA0 (QA0 σ)).at_ = σ.at_+1+1:=rfl;omega
    obtain ⟨f2,c,l2,υ,r2,m2,d2,v2,w2⟩:=ih (.args [a]) τ (QBx (by omega) hs.lt (by simp [QC5])) s3 ⟨by simp;omega,fun x hx=>by obtain rfl:=List.mem_singleton.1 hx;exact v1⟩
    have q2:υ.deep = σ.deep:=by omega
    have s4:St ts υ:=s3.go m2 (by omega) (by omega)
    have g4:=QAQ he s4.lt [41]
    have s5:St ts (QA3 ts [41] υ):=s4.go g4 (by rw [QA6];omega) (by rw [QA6];omega)
    obtain ⟨X,hX⟩:∃ X:Ex,X = { ex0 with kind:=19,name:=str (QA9 ts σ.at_).text,args:=l2,pos:=((QA9 ts σ.at_).at_:Int) }:=⟨_,rfl⟩
    have G:=(((g1.trans g2).trans m1).trans m2).trans g4
    have P:=(G.less (m:=0+1) (by omega)).put (x:=X) fun hz _=>hX ▸ QHF s5.small (t1 k1) t3 (by have:=s4.lt;have:=s4.len;omega) fun x hx=>(w2 x hx).go g4 hz
    refine ⟨f1+f2+1,((QA3 ts [41] υ).exprs.length:Int),[],QBQ X (QA3 ts [41] υ),?_,P,(QA6 ts _ _).trans q2,QCP _ _⟩
    rw [QAi hs.ok]
    simp only [QDa]
    rw [if_neg k2,if_neg i1,if_neg i2,if_pos k1,if_neg i3,if_pos i4,if_neg i5,QAs (f:=f1) (by omega) _ _ _ r1]
    simp only [Option.bind_some]
    rw [QAs (f:=f2) (by omega) _ _ _ r2]
    simp only [Option.bind_some]
    rw [QBc s5.ok,hX]
  ·obtain ⟨P,o⟩:=one { ex0 with kind:=3,name:=str (QA9 ts σ.at_).text,pos:=((QA9 ts σ.at_).at_:Int) } (by omega) (good_nm sml (t1 k1) t3)
   refine ⟨1,((QA0 σ).exprs.length:Int),[],_,?_,P,rfl,QCP _ _⟩
   rw [QAi hs.ok]
   simp only [QDa]
   rw [if_neg k2,if_neg i1,if_neg i2,if_pos k1,if_neg i3,if_neg i4,QBc o]
 ·have g1:=QAQ he hs.lt [40]
  have s1:St ts (QA3 ts [40] σ):=hs.go g1 (by rw [QA6];exact hd0) (by rw [QA6];exact hd30)
  obtain ⟨f1,a,l1,τ,r1,m1,d1,v1⟩:=ih .expr _ (QDk g1.at_ (QA6 ts _ _) (by simp [QC5])) s1 trivial
  have g2:=QAQ he m1.lt [41]
  refine ⟨f1+1,a,[],QA3 ts [41] τ,?_,QAW ((g1.trans m1).trans g2),by rw [QA6,d1,QA6],IxOk.go v1 g2⟩
  rw [QAi hs.ok]
  simp only [QDa]
  rw [if_neg k2,if_neg i1,if_neg i2,if_neg k1,r1]
  rfl
theorem tot_all:∀ (M:Nat) (j:Job) (σ:RS),QEV ts j σ≤M→St ts σ→QGy σ j→Res ts j σ:=by
 intro M
 induction M with
 | zero =>
  intro j σ hm hs hj
  exfalso
  unfold QEV at hm
  have:=hs.lt
  have h2:1*1024≤(ts.length - σ.at_)*1024:=Nat.mul_le_mul_right _ (by omega)
  omega
 | succ M ih =>
  intro j σ hm hs hj
  have ih' : ∀ j' σ',QEV ts j' σ' < QEV ts j σ→St ts σ'→QGy σ' j'→Res ts j' σ':=fun j' σ' h=>ih j' σ' (by omega)
  cases j with
  | expr=>exact QOW he hs ih'
  | pre=>exact tot_pre he hs ih'
  | atom=>exact QOV he ht hs hj ih'
  | bin least=>exact tot_bin hs hj.1 hj.2 ih'
  | loop least a=>exact QOX he hs hj.1 hj.2.1 hj.2.2 ih'
  | args acc=>exact QOU he hs hj.1 hj.2 ih'
theorem QLO {σ:RS} (hs:St ts σ):∃ f v τ,exprS' ts f σ = some (v,τ)∧Go ts 0 σ τ∧τ.deep = σ.deep∧IxOk τ v:=by
 obtain ⟨f,v,l,τ,h1,h2,h3,h4⟩:=tot_all he ht _ .expr σ (Nat.le_refl _) hs trivial
 exact ⟨f,v,τ,by unfold exprS';rw [h1];rfl,h2,h3,h4⟩
end
end
section
open Lx
set_option linter.unusedVariables false
theorem QBM {ts:List Tok} {f f' : Nat} (h:f≤f') {σ:RS} {r:Int × RS} (hr:QCd ts f σ = some r):QCd ts f' σ = some r:=by
 unfold QCd at hr ⊢
 cases h1:QAh ts f .expr σ with
 | none=>rw [h1] at hr;cases hr
 | some x=>rw [QAs h _ _ _ h1];rw [h1] at hr;exact hr
theorem QBS {α:Type} {ts:List Tok} {f f' : Nat} (h:f≤f') {σ:RS} {k k' : Int × RS→Option α} {R:α} (hr:(QCd ts f σ).bind k = some R) (hk:∀ x r,k x = some r→k' x = some r):(QCd ts f' σ).bind k' = some R :=
 QAj hr (fun x hx=>QBM h hx) hk
theorem QKa {ts:List Tok}:∀ {f f' : Nat},f≤f'→∀ {acc:List ByteArray} {σ:RS} {r:List ByteArray × RS},QBV ts f acc σ = some r→QBV ts f' acc σ = some r:=by
 intro f
 induction f with
 | zero=>intro f' _ acc σ r h;cases h
 | succ f ih =>
  intro f' hf acc σ r h
  obtain ⟨g,rfl⟩:∃ g,f' = g+1:=⟨f' - 1,by omega⟩
  simp only [QBV] at h ⊢
  split at h
  ·rename_i h1;rw [if_pos h1]
   split at h
   ·rename_i h2;rw [if_pos h2];exact ih (by omega) h
   ·rename_i h2;rw [if_neg h2];exact h
  ·cases h
theorem QNz {ts:List Tok}:∀ {f f' : Nat},f≤f'→∀ {acc:List Pa} {σ:RS} {r:List Pa × RS},QE6 ts f acc σ = some r→QE6 ts f' acc σ = some r:=by
 intro f
 induction f with
 | zero=>intro f' _ acc σ r h;cases h
 | succ f ih =>
  intro f' hf acc σ r h
  obtain ⟨g,rfl⟩:∃ g,f' = g+1:=⟨f' - 1,by omega⟩
  simp only [QE6] at h ⊢
  split at h
  ·rename_i h1;rw [if_pos h1]
   split at h
   ·rename_i h2;rw [if_pos h2]
    split at h
    ·rename_i h3;rw [if_pos h3];exact ih (by omega) h
    ·rename_i h3;rw [if_neg h3];exact h
   ·rename_i h2;rw [if_neg h2];exact h
  ·cases h
theorem QBp {ts:List Tok} {f f' : Nat} (h:f≤f') {σ:RS} {r:List Pa × RS} (hr:QBU ts f σ = some r):QBU ts f' σ = some r:=by
 unfold QBU at hr ⊢
 split at hr
 ·rename_i h1;rw [if_pos h1];exact hr
 ·rename_i h1;rw [if_neg h1];exact QNz h hr
theorem QGW {ts:List Tok} {f f' : Nat} (h:f≤f') {all:Bool} {σ:RS} {r:It × Bool × RS} (hr:QCO ts f all σ = some r):QCO ts f' all σ = some r:=by
 unfold QCO at hr ⊢
 split at hr
 ·rename_i h1;rw [if_pos h1];unfold iLet at hr ⊢;exact QBS h hr fun _ _ h=>h
 rename_i h1;rw [if_neg h1]
 split at hr
 ·rename_i h2;rw [if_pos h2]
  split at hr
  ·rename_i h3;rw [if_pos h3];unfold iDer at hr ⊢;exact QBS h hr fun _ _ hr=>QBS h hr fun _ _ h=>h
  rename_i h3;rw [if_neg h3]
  split at hr
  ·rename_i h4;rw [if_pos h4];unfold QJ0 at hr ⊢;exact QBS h hr fun _ _ hr=>QBS h hr fun _ _ h=>h
  rename_i h4;rw [if_neg h4]
  split at hr
  ·rename_i h5;rw [if_pos h5];unfold iMem at hr ⊢;exact QBS h hr fun _ _ h=>h
  rename_i h5;rw [if_neg h5]
  split at hr
  ·rename_i h6;rw [if_pos h6];unfold iOn at hr ⊢;exact QBS h hr fun _ _ hr=>QBS h hr fun _ _ h=>h
  rename_i h6;rw [if_neg h6]
  split at hr
  ·rename_i h7;rw [if_pos h7];unfold QNO at hr ⊢;exact QAj hr (fun x hx=>QKa h hx) fun _ _ h=>h
  rename_i h7;rw [if_neg h7]
  split at hr
  ·rename_i h8;rw [if_pos h8];unfold QNN at hr ⊢;exact QBS h hr fun _ _ h=>h
  rename_i h8;rw [if_neg h8]
  split at hr
  ·rename_i h9;rw [if_pos h9];exact hr
  rename_i h9;rw [if_neg h9];exact hr
 ·rename_i h2;rw [if_neg h2];exact hr
theorem QF8 {ts:List Tok} {all:Bool} {f f' : Nat} (hf:f≤f'):∀ {n n' : Nat},n≤n'→∀ {acc:List It} {σ:RS} {r:List It × RS},QGw ts f all n acc σ = some r→QGw ts f' all n' acc σ = some r:=by
 intro n
 induction n with
 | zero=>intro n' _ acc σ r h;cases h
 | succ n ih =>
  intro n' hn acc σ r h
  obtain ⟨g,rfl⟩:∃ g,n' = g+1:=⟨n' - 1,by omega⟩
  simp only [QGw] at h ⊢
  split at h
  ·rename_i h1;rw [if_pos h1]
   split at h
   ·rename_i h2;rw [if_pos h2]
    refine QAj h (fun x hx=>QGW hf hx) fun x r h=>?_
    split at h
    ·rename_i h3;rw [if_pos h3];exact ih (by omega) h
    ·rename_i h3;rw [if_neg h3];exact h
   ·rename_i h2;rw [if_neg h2];exact h
  ·cases h
theorem QGP {ts:List Tok} {f f' : Nat} (h:f≤f') {σ:RS} {r:De × RS} (hr:QEx ts f σ = some r):QEx ts f' σ = some r:=by
 unfold QEx at hr ⊢
 split at hr
 ·rename_i h1;rw [if_pos h1];exact QAj hr (fun _ hx=>QBp h hx) fun _ _ hr=>QBS h hr fun _ _ h=>h
 rename_i h1;rw [if_neg h1]
 split at hr
 ·rename_i h2;rw [if_pos h2];exact QAj hr (fun _ hx=>QBp h hx) fun _ _ hr=>QAj hr (fun _ hx=>QF8 h h hx) fun _ _ hr=>QBS h hr fun _ _ h=>h
 ·rename_i h2;rw [if_neg h2];exact QAj hr (fun _ hx=>QBp h hx) fun _ _ hr=>QAj hr (fun _ hx=>QF8 h h hx) fun _ _ h=>h
theorem QEy {ts:List Tok} {f f' : Nat} (hf:f≤f'):∀ {n n' : Nat},n≤n'→∀ {acc:List De} {σ:RS} {r:List De × RS},QBZ ts f n acc σ = some r→QBZ ts f' n' acc σ = some r:=by
 intro n
 induction n with
 | zero=>intro n' _ acc σ r h;cases h
 | succ n ih =>
  intro n' hn acc σ r h
  obtain ⟨g,rfl⟩:∃ g,n' = g+1:=⟨n' - 1,by omega⟩
  simp only [QBZ] at h ⊢
  split at h
  ·rename_i h1;rw [if_pos h1]
   split at h
   ·rename_i h2;rw [if_pos h2]
    split at h
    ·rename_i h3;rw [if_pos h3];exact h
    ·rename_i h3;rw [if_neg h3];exact QAj h (fun _ hx=>QGP hf hx) fun _ _ h=>ih (by omega) h
   ·rename_i h2;rw [if_neg h2];exact h
  ·cases h
end
section
open Lx
set_option linter.unusedVariables false
set_option linter.unusedSectionVars false
set_option linter.unusedSimpArgs false
theorem QBL (ts:List Tok) (σ:RS):(QAv ts σ).deep = σ.deep:=by unfold QAv;split;rfl;exact QA6 _ _ _
theorem QF2 {ts:List Tok} (he:EndOk ts) {σ:RS} (h:σ.at_ < ts.length):Go ts 0 σ (QAv ts σ):=by
 unfold QAv
 split
 ·rename_i hi;exact QAW (go_step' he h (QAU hi).1)
 ·exact QAQ he h _
theorem QNr {ts:List Tok} (ht:QHx ts) {σ:RS} (h:σ.at_ < ts.length):(QAS ts σ).length≤20000:=by
 unfold QAS
 split
 ·exact (ht _ _ (QIe h)).2.2
 ·simp
theorem QNb (ts:List Tok) (σ:RS):QBi (QBo ts σ):=by unfold QBo QBi;split <;> decide
theorem QBH {ts:List Tok} (ht:QHx ts) {σ:RS} (h:σ.at_ < ts.length):(str (QAS ts σ)).size≤QAH:=by rw [QDt];have:=QNr ht h;unfold QAH;omega
structure GoodI (x:It) (n:Nat):Prop where
 kind:1≤x.kind∧x.kind≤8
 may:QFZ n x = true
 ok:ItOk x
def QFo (p:Pa):Prop:=p.name.size≤QAH∧QBi p.type
theorem QDW {n m:Nat} (h:n≤m) {b:Bool} {e:Int} (hs:QAg n b e = true):QAg m b e = true:=by
 unfold QAg at hs ⊢
 split at hs
 ·rename_i hb;rw [if_pos hb]
  simp only [Bool.and_eq_true,decide_eq_true_eq] at hs ⊢
  omega
 ·rename_i hb;rw [if_neg hb];exact hs
theorem GoodI.mono {x:It} {n m:Nat} (h:GoodI x n) (hm:n≤m):GoodI x m:=⟨h.kind,by
 have:=h.may
 unfold QFZ at this ⊢
 simp only [Bool.and_eq_true] at this ⊢
 exact ⟨QDW hm this.1,QDW hm this.2⟩,h.ok⟩
theorem QOj {k ty e f p:Int} {nm st nx:ByteArray} {ss:List ByteArray} {n:Nat} (hn:n≤30000) (hk:1≤k∧k≤8) (he:0≤e∧e≤(n:Int)) (hf:0≤f∧f≤(n:Int)) (h1:nm.size≤QAH) (h2:st.size≤QAH) (h3:nx.size≤QAH) (h4:ss.length≤QAH) (h5:∀ s∈ss,s.size≤QAH):ItOk ⟨k,nm,ty,e,f,ss,st,nx,p⟩ :=
 ⟨by unfold QBi;dsimp only;omega,by unfold QBi;dsimp only;omega,by unfold QBi;dsimp only;omega,h1,h2,h3,h4,h5⟩
section
variable {ts:List Tok} (he:EndOk ts) (ht:QHx ts)
include he ht
theorem expr_ends' {σ:RS} (hs:St ts σ):∃ f v τ,QCd ts f σ = some (v,τ)∧Go ts 0 σ τ∧τ.deep = σ.deep∧IxOk τ v:=QLO he ht hs
theorem QIa:∀ (M:Nat) (acc:List ByteArray) (σ:RS),ts.length - σ.at_≤M→St ts σ→acc.length≤σ.at_→(∀ s∈acc,s.size≤QAH)→∃ f l τ,QBV ts f acc σ = some (l,τ)∧Go ts 0 σ τ∧τ.deep = σ.deep∧l.length≤τ.at_∧∀ s∈l,s.size≤QAH:=by
 intro M
 induction M with
 | zero=>intro acc σ hm hs _ _;have:=hs.lt;omega
 | succ M ih =>
  intro acc σ hm hs hl hn
  have hlen:acc.length≤40000:=by have:=hs.lt;have:=hs.len;omega
  by_cases hi:isS ts [44] σ = true
  ·have g1:=go_step' he hs.lt (QAU hi).1
   have s1:St ts (QA0 σ):=hs.go g1 hs.d0 hs.d30
   have g2:=QBG he s1.lt
   have s2:St ts (QA7 ts (QA0 σ)):=s1.go g2 (by rw [QAK];exact s1.d0) (by rw [QAK];exact s1.d30)
   have hat:σ.at_+1≤(QA7 ts (QA0 σ)).at_:=g2.at_
   obtain ⟨f,l,τ,r,g3,d3,l3,n3⟩:=ih (acc ++ [str (QAS ts (QA0 σ))]) _ (by have:=hs.lt;omega) s2 (by simp;omega) (fun s h=>by
    rcases List.mem_append.1 h with h | h
    ·exact hn s h
    ·obtain rfl:=List.mem_singleton.1 h;exact QBH ht s1.lt)
   refine ⟨f+1,l,τ,?_,QAW ((g1.trans g2).trans g3),by rw [d3,QAK];rfl,l3,n3⟩
   simp only [QBV]
   rw [if_pos hlen,if_pos hi,r]
  ·refine ⟨1,acc,σ,?_,Go.refl hs.lt,rfl,hl,hn⟩
   simp only [QBV]
   rw [if_pos hlen,if_neg hi]
theorem QME:∀ (M:Nat) (acc:List Pa) (σ:RS),ts.length - σ.at_≤M→St ts σ→acc.length≤σ.at_→(∀ p∈acc,QFo p)→∃ f l τ,QE6 ts f acc σ = some (l,τ)∧Go ts 0 σ τ∧τ.deep = σ.deep∧l.length≤τ.at_+1∧∀ p∈l,QFo p:=by
 intro M
 induction M with
 | zero=>intro acc σ hm hs _ _;have:=hs.lt;omega
 | succ M ih =>
  intro acc σ hm hs hl hn
  have hlen:acc.length≤40000:=by have:=hs.lt;have:=hs.len;omega
  by_cases hc:σ.code = 0
  ·have g1:=QBG he hs.lt
   have s1:St ts (QA7 ts σ):=hs.go g1 (by rw [QAK];exact hs.d0) (by rw [QAK];exact hs.d30)
   have g2:=QAQ he s1.lt [58]
   have s2:St ts (QA3 ts [58] (QA7 ts σ)):=s1.go g2 (by rw [QA6];exact s1.d0) (by rw [QA6];exact s1.d30)
   have g3:=QF2 he s2.lt
   have s3:St ts (QAv ts (QA3 ts [58] (QA7 ts σ))):=s2.go g3 (by rw [QBL];exact s2.d0) (by rw [QBL];exact s2.d30)
   have hg:∀ p∈acc ++ [⟨str (QAS ts σ),QBo ts (QA3 ts [58] (QA7 ts σ))⟩],QFo p:=fun p h=>by
    rcases List.mem_append.1 h with h | h
    ·exact hn p h
    ·obtain rfl:=List.mem_singleton.1 h;exact ⟨QBH ht hs.lt,QNb _ _⟩
   have G:=(g1.trans g2).trans g3
   by_cases hi:isS ts [44] (QAv ts (QA3 ts [58] (QA7 ts σ))) = true
   ·have g4:=go_step' he s3.lt (QAU hi).1
    have s4:St ts (QA0 (QAv ts (QA3 ts [58] (QA7 ts σ)))):=s3.go g4 s3.d0 s3.d30
    have hat:σ.at_+1≤(QA0 (QAv ts (QA3 ts [58] (QA7 ts σ)))).at_:=by have:=G.at_;unfold QA0;dsimp only;omega
    obtain ⟨f,l,τ,r,g5,d5,l5,n5⟩:=ih _ _ (by have:=hs.lt;omega) s4 (by simp;omega) hg
    refine ⟨f+1,l,τ,?_,QAW ((G.trans g4).trans g5),by rw [d5];show (QAv ts _).deep = _;rw [QBL,QA6,QAK],l5,n5⟩
    simp only [QE6]
    rw [if_pos hlen,if_pos hc,if_pos hi,r]
   ·have g4:=QAQ he s3.lt [41]
    refine ⟨1,_,_,?_,QAW (G.trans g4),by rw [QA6,QBL,QA6,QAK],?_,hg⟩
    ·simp only [QE6]
     rw [if_pos hlen,if_pos hc,if_neg hi]
    ·have:=(G.trans g4).at_;simp;omega
  ·refine ⟨1,acc,σ,?_,Go.refl hs.lt,rfl,by omega,hn⟩
   simp only [QE6]
   rw [if_pos hlen,if_neg hc]
theorem QDT {σ:RS} (hs:St ts σ):∃ f l τ,QBU ts f σ = some (l,τ)∧Go ts 0 σ τ∧τ.deep = σ.deep∧l.length≤40000∧∀ p∈l,QFo p:=by
 have g1:=QAQ he hs.lt [40]
 have s1:St ts (QA3 ts [40] σ):=hs.go g1 (by rw [QA6];exact hs.d0) (by rw [QA6];exact hs.d30)
 by_cases hi:isS ts [41] (QA3 ts [40] σ) = true
 ·have g2:=go_step' he s1.lt (QAU hi).1
  refine ⟨0,[],_,by unfold QBU;rw [if_pos hi],QAW (g1.trans g2),QA6 ts _ _,by simp,fun p h=>by cases h⟩
 ·obtain ⟨f,l,τ,r,g2,d2,l2,n2⟩:=QME he ht _ [] _ (Nat.le_refl _) s1 (Nat.zero_le _) (fun p h=>by cases h)
  refine ⟨f,l,τ,by unfold QBU;rw [if_neg hi];exact r,QAW (g1.trans g2),by rw [d2,QA6],by have:=g2.lt;have:=hs.len;omega,n2⟩
def QMx (ts:List Tok) (all:Bool) (σ:RS):Prop:=∃ f x ok τ,QCO ts f all σ = some (x,ok,τ)∧Go ts 0 σ τ∧τ.deep = σ.deep∧(ok = true→σ.at_ < τ.at_∧τ.code = 0∧GoodI x τ.exprs.length)
theorem QLe {all:Bool} {σ:RS} (hs:St ts σ) (hi:isS ts [108,101,116] σ = true):QMx ts all σ:=by
 have g0:=go_step' he hs.lt (QAU hi).1
 have s0:St ts (QA0 σ):=hs.go g0 hs.d0 hs.d30
 have e0:(QA0 σ).deep = σ.deep:=rfl
 have g1:=QBG he s0.lt
 have n1:=QBH ht s0.lt
 have e1:(QA7 ts (QA0 σ)).deep = σ.deep:=(QAK ts _).trans e0
 have s1:St ts (QA7 ts (QA0 σ)):=s0.go g1 (by rw [e1];exact hs.d0) (by rw [e1];exact hs.d30)
 have g2:=QAQ he s1.lt [58]
 have e2:(QA3 ts [58] (QA7 ts (QA0 σ))).deep = σ.deep:=(QA6 ts _ _).trans e1
 have s2:St ts (QA3 ts [58] (QA7 ts (QA0 σ))):=s1.go g2 (by rw [e2];exact hs.d0) (by rw [e2];exact hs.d30)
 have g3:=QF2 he s2.lt
 have e3:(QAv ts (QA3 ts [58] (QA7 ts (QA0 σ)))).deep = σ.deep:=(QBL ts _).trans e2
 have s3:St ts (QAv ts (QA3 ts [58] (QA7 ts (QA0 σ)))):=s2.go g3 (by rw [e3];exact hs.d0) (by rw [e3];exact hs.d30)
 have g4:=QAQ he s3.lt [61]
 have e4:(QA3 ts [61] (QAv ts (QA3 ts [58] (QA7 ts (QA0 σ))))).deep = σ.deep:=(QA6 ts _ _).trans e3
 have s4:St ts (QA3 ts [61] (QAv ts (QA3 ts [58] (QA7 ts (QA0 σ))))):=s3.go g4 (by rw [e4];exact hs.d0) (by rw [e4];exact hs.d30)
 obtain ⟨f5,v5,τ5,r5,g5,d5,i5⟩:=expr_ends' he ht s4
 have e5:τ5.deep = σ.deep:=(d5).trans e4
 have s5:St ts τ5:=s4.go g5 (by rw [e5];exact hs.d0) (by rw [e5];exact hs.d30)
 have gE:=QAQ he s5.lt [59]
 have G:=((((((g0.trans g1).trans g2).trans g3).trans g4).trans g5).trans gE)
 refine ⟨f5,{ it0 with kind:=1,name:=str (QAS ts (QA0 σ)),type:=QBo ts (QA3 ts [58] (QA7 ts (QA0 σ))),e:=v5,pos:=((QA9 ts σ.at_).at_:Int) },decide ((QA3 ts [59] τ5).code = 0),QA3 ts [59] τ5,?_,QAW G,(QA6 ts _ _).trans e5,fun hok=>?_⟩
 ·unfold QCO
  rw [if_pos hi]
  unfold iLet
  rw [QBM (f:=f5) (by omega) r5]
  simp only [Option.bind_some]
  rfl
 ·have hz:(QA3 ts [59] τ5).code = 0:=of_decide_eq_true hok
  have hn:(QA3 ts [59] τ5).exprs.length≤30000:=by rw [QAt];exact s5.small
  have qe:=(IxOk.go i5 gE) hz
  refine ⟨?_,hz,⟨by simp [it0],?_,?_⟩⟩
  ·have:=G.at_;have:=G.room;have:=G.more;omega
  ·simp [QFZ,QAg,hasE,hasF,it0,qe]
  ·exact QOj hn (by omega) (by omega) (zz _) n1 (by decide) (by decide) (by decide) (fun s h=>by cases h)
theorem QLd {all:Bool} {σ:RS} (hs:St ts σ) (hi:isS ts [100,101,114] σ = true) (h0:¬ isS ts [108,101,116] σ = true) (ha:all = true):QMx ts all σ:=by
 have g0:=go_step' he hs.lt (QAU hi).1
 have s0:St ts (QA0 σ):=hs.go g0 hs.d0 hs.d30
 have e0:(QA0 σ).deep = σ.deep:=rfl
 have g1:=QBG he s0.lt
 have n1:=QBH ht s0.lt
 have e1:(QA7 ts (QA0 σ)).deep = σ.deep:=(QAK ts _).trans e0
 have s1:St ts (QA7 ts (QA0 σ)):=s0.go g1 (by rw [e1];exact hs.d0) (by rw [e1];exact hs.d30)
 have g2:=QAQ he s1.lt [61]
 have e2:(QA3 ts [61] (QA7 ts (QA0 σ))).deep = σ.deep:=(QA6 ts _ _).trans e1
 have s2:St ts (QA3 ts [61] (QA7 ts (QA0 σ))):=s1.go g2 (by rw [e2];exact hs.d0) (by rw [e2];exact hs.d30)
 obtain ⟨f3,v3,τ3,r3,g3,d3,i3⟩:=expr_ends' he ht s2
 have e3:τ3.deep = σ.deep:=(d3).trans e2
 have s3:St ts τ3:=s2.go g3 (by rw [e3];exact hs.d0) (by rw [e3];exact hs.d30)
 have g4:=QAQ he s3.lt [105,110,105,116]
 have e4:(QA3 ts [105,110,105,116] τ3).deep = σ.deep:=(QA6 ts _ _).trans e3
 have s4:St ts (QA3 ts [105,110,105,116] τ3):=s3.go g4 (by rw [e4];exact hs.d0) (by rw [e4];exact hs.d30)
 obtain ⟨f5,v5,τ5,r5,g5,d5,i5⟩:=expr_ends' he ht s4
 have e5:τ5.deep = σ.deep:=(d5).trans e4
 have s5:St ts τ5:=s4.go g5 (by rw [e5];exact hs.d0) (by rw [e5];exact hs.d30)
 have gE:=QAQ he s5.lt [59]
 have G:=((((((g0.trans g1).trans g2).trans g3).trans g4).trans g5).trans gE)
 refine ⟨f3+f5,{ it0 with kind:=2,name:=str (QAS ts (QA0 σ)),e:=v3,f:=v5,pos:=((QA9 ts σ.at_).at_:Int) },decide ((QA3 ts [59] τ5).code = 0),QA3 ts [59] τ5,?_,QAW G,(QA6 ts _ _).trans e5,fun hok=>?_⟩
 ·unfold QCO
  rw [if_neg h0,if_pos ha,if_pos hi]
  unfold iDer
  rw [QBM (f:=f3) (by omega) r3]
  simp only [Option.bind_some]
  rw [QBM (f:=f5) (by omega) r5]
  simp only [Option.bind_some]
  rfl
 ·have hz:(QA3 ts [59] τ5).code = 0:=of_decide_eq_true hok
  have hn:(QA3 ts [59] τ5).exprs.length≤30000:=by rw [QAt];exact s5.small
  have qe:=(IxOk.go (IxOk.go (IxOk.go i3 g4) g5) gE) hz
  have qf:=(IxOk.go i5 gE) hz
  refine ⟨?_,hz,⟨by simp [it0],?_,?_⟩⟩
  ·have:=G.at_;have:=G.room;have:=G.more;omega
  ·simp [QFZ,QAg,hasE,hasF,it0,qe,qf]
  ·exact QOj hn (by omega) (by omega) (by omega) n1 (by decide) (by decide) (by decide) (fun s h=>by cases h)
theorem QIC {all:Bool} {σ:RS} (hs:St ts σ) (hi:isS ts [114,101,115,101,116] σ = true) (h0:¬ isS ts [108,101,116] σ = true) (h1:¬ isS ts [100,101,114] σ = true) (ha:all = true):QMx ts all σ:=by
 have g0:=go_step' he hs.lt (QAU hi).1
 have s0:St ts (QA0 σ):=hs.go g0 hs.d0 hs.d30
 have e0:(QA0 σ).deep = σ.deep:=rfl
 have g1:=QBG he s0.lt
 have n1:=QBH ht s0.lt
 have e1:(QA7 ts (QA0 σ)).deep = σ.deep:=(QAK ts _).trans e0
 have s1:St ts (QA7 ts (QA0 σ)):=s0.go g1 (by rw [e1];exact hs.d0) (by rw [e1];exact hs.d30)
 have g2:=QAQ he s1.lt [111,110]
 have e2:(QA3 ts [111,110] (QA7 ts (QA0 σ))).deep = σ.deep:=(QA6 ts _ _).trans e1
 have s2:St ts (QA3 ts [111,110] (QA7 ts (QA0 σ))):=s1.go g2 (by rw [e2];exact hs.d0) (by rw [e2];exact hs.d30)
 obtain ⟨f3,v3,τ3,r3,g3,d3,i3⟩:=expr_ends' he ht s2
 have e3:τ3.deep = σ.deep:=(d3).trans e2
 have s3:St ts τ3:=s2.go g3 (by rw [e3];exact hs.d0) (by rw [e3];exact hs.d30)
 have g4:=QAQ he s3.lt [61]
 have e4:(QA3 ts [61] τ3).deep = σ.deep:=(QA6 ts _ _).trans e3
 have s4:St ts (QA3 ts [61] τ3):=s3.go g4 (by rw [e4];exact hs.d0) (by rw [e4];exact hs.d30)
 obtain ⟨f5,v5,τ5,r5,g5,d5,i5⟩:=expr_ends' he ht s4
 have e5:τ5.deep = σ.deep:=(d5).trans e4
 have s5:St ts τ5:=s4.go g5 (by rw [e5];exact hs.d0) (by rw [e5];exact hs.d30)
 have gE:=QAQ he s5.lt [59]
 have G:=((((((g0.trans g1).trans g2).trans g3).trans g4).trans g5).trans gE)
 refine ⟨f3+f5,{ it0 with kind:=3,name:=str (QAS ts (QA0 σ)),e:=v5,f:=v3,pos:=((QA9 ts σ.at_).at_:Int) },decide ((QA3 ts [59] τ5).code = 0),QA3 ts [59] τ5,?_,QAW G,(QA6 ts _ _).trans e5,fun hok=>?_⟩
 ·unfold QCO
  rw [if_neg h0,if_pos ha,if_neg h1,if_pos hi]
  unfold QJ0
  rw [QBM (f:=f3) (by omega) r3]
  simp only [Option.bind_some]
  rw [QBM (f:=f5) (by omega) r5]
  simp only [Option.bind_some]
  rfl
 ·have hz:(QA3 ts [59] τ5).code = 0:=of_decide_eq_true hok
  have hn:(QA3 ts [59] τ5).exprs.length≤30000:=by rw [QAt];exact s5.small
  have qf:=(IxOk.go (IxOk.go (IxOk.go i3 g4) g5) gE) hz
  have qe:=(IxOk.go i5 gE) hz
  refine ⟨?_,hz,⟨by simp [it0],?_,?_⟩⟩
  ·have:=G.at_;have:=G.room;have:=G.more;omega
  ·simp [QFZ,QAg,hasE,hasF,it0,qf,qe]
  ·exact QOj hn (by omega) (by omega) (by omega) n1 (by decide) (by decide) (by decide) (fun s h=>by cases h)
theorem QLf {all:Bool} {σ:RS} (hs:St ts σ) (hi:isS ts [109,101,109] σ = true) (h0:¬ isS ts [108,101,116] σ = true) (h1:¬ isS ts [100,101,114] σ = true) (h2:¬ isS ts [114,101,115,101,116] σ = true) (ha:all = true):QMx ts all σ:=by
 have g0:=go_step' he hs.lt (QAU hi).1
 have s0:St ts (QA0 σ):=hs.go g0 hs.d0 hs.d30
 have e0:(QA0 σ).deep = σ.deep:=rfl
 have g1:=QBG he s0.lt
 have n1:=QBH ht s0.lt
 have e1:(QA7 ts (QA0 σ)).deep = σ.deep:=(QAK ts _).trans e0
 have s1:St ts (QA7 ts (QA0 σ)):=s0.go g1 (by rw [e1];exact hs.d0) (by rw [e1];exact hs.d30)
 have g2:=QAQ he s1.lt [58]
 have e2:(QA3 ts [58] (QA7 ts (QA0 σ))).deep = σ.deep:=(QA6 ts _ _).trans e1
 have s2:St ts (QA3 ts [58] (QA7 ts (QA0 σ))):=s1.go g2 (by rw [e2];exact hs.d0) (by rw [e2];exact hs.d30)
 have g3:=QF2 he s2.lt
 have e3:(QAv ts (QA3 ts [58] (QA7 ts (QA0 σ)))).deep = σ.deep:=(QBL ts _).trans e2
 have s3:St ts (QAv ts (QA3 ts [58] (QA7 ts (QA0 σ)))):=s2.go g3 (by rw [e3];exact hs.d0) (by rw [e3];exact hs.d30)
 have g4:=QAQ he s3.lt [105,110,105,116]
 have e4:(QA3 ts [105,110,105,116] (QAv ts (QA3 ts [58] (QA7 ts (QA0 σ))))).deep = σ.deep:=(QA6 ts _ _).trans e3
 have s4:St ts (QA3 ts [105,110,105,116] (QAv ts (QA3 ts [58] (QA7 ts (QA0 σ))))):=s3.go g4 (by rw [e4];exact hs.d0) (by rw [e4];exact hs.d30)
 obtain ⟨f5,v5,τ5,r5,g5,d5,i5⟩:=expr_ends' he ht s4
 have e5:τ5.deep = σ.deep:=(d5).trans e4
 have s5:St ts τ5:=s4.go g5 (by rw [e5];exact hs.d0) (by rw [e5];exact hs.d30)
 have gE:=QAQ he s5.lt [59]
 have G:=((((((g0.trans g1).trans g2).trans g3).trans g4).trans g5).trans gE)
 refine ⟨f5,{ it0 with kind:=4,name:=str (QAS ts (QA0 σ)),type:=QBo ts (QA3 ts [58] (QA7 ts (QA0 σ))),e:=v5,pos:=((QA9 ts σ.at_).at_:Int) },decide ((QA3 ts [59] τ5).code = 0),QA3 ts [59] τ5,?_,QAW G,(QA6 ts _ _).trans e5,fun hok=>?_⟩
 ·unfold QCO
  rw [if_neg h0,if_pos ha,if_neg h1,if_neg h2,if_pos hi]
  unfold iMem
  rw [QBM (f:=f5) (by omega) r5]
  simp only [Option.bind_some]
  rfl
 ·have hz:(QA3 ts [59] τ5).code = 0:=of_decide_eq_true hok
  have hn:(QA3 ts [59] τ5).exprs.length≤30000:=by rw [QAt];exact s5.small
  have qe:=(IxOk.go i5 gE) hz
  refine ⟨?_,hz,⟨by simp [it0],?_,?_⟩⟩
  ·have:=G.at_;have:=G.room;have:=G.more;omega
  ·simp [QFZ,QAg,hasE,hasF,it0,qe]
  ·exact QOj hn (by omega) (by omega) (zz _) n1 (by decide) (by decide) (by decide) (fun s h=>by cases h)
theorem QNP {all:Bool} {σ:RS} (hs:St ts σ) (hi:isS ts [111,110] σ = true) (h0:¬ isS ts [108,101,116] σ = true) (h1:¬ isS ts [100,101,114] σ = true) (h2:¬ isS ts [114,101,115,101,116] σ = true) (h3:¬ isS ts [109,101,109] σ = true) (ha:all = true):QMx ts all σ:=by
 have g0:=go_step' he hs.lt (QAU hi).1
 have s0:St ts (QA0 σ):=hs.go g0 hs.d0 hs.d30
 have e0:(QA0 σ).deep = σ.deep:=rfl
 obtain ⟨f1,v1,τ1,r1,g1,d1,i1⟩:=expr_ends' he ht s0
 have e1:τ1.deep = σ.deep:=(d1).trans e0
 have s1:St ts τ1:=s0.go g1 (by rw [e1];exact hs.d0) (by rw [e1];exact hs.d30)
 have g2:=QAQ he s1.lt [115,101,116]
 have e2:(QA3 ts [115,101,116] τ1).deep = σ.deep:=(QA6 ts _ _).trans e1
 have s2:St ts (QA3 ts [115,101,116] τ1):=s1.go g2 (by rw [e2];exact hs.d0) (by rw [e2];exact hs.d30)
 have g3:=QBG he s2.lt
 have n3:=QBH ht s2.lt
 have e3:(QA7 ts (QA3 ts [115,101,116] τ1)).deep = σ.deep:=(QAK ts _).trans e2
 have s3:St ts (QA7 ts (QA3 ts [115,101,116] τ1)):=s2.go g3 (by rw [e3];exact hs.d0) (by rw [e3];exact hs.d30)
 have g4:=QAQ he s3.lt [61]
 have e4:(QA3 ts [61] (QA7 ts (QA3 ts [115,101,116] τ1))).deep = σ.deep:=(QA6 ts _ _).trans e3
 have s4:St ts (QA3 ts [61] (QA7 ts (QA3 ts [115,101,116] τ1))):=s3.go g4 (by rw [e4];exact hs.d0) (by rw [e4];exact hs.d30)
 obtain ⟨f5,v5,τ5,r5,g5,d5,i5⟩:=expr_ends' he ht s4
 have e5:τ5.deep = σ.deep:=(d5).trans e4
 have s5:St ts τ5:=s4.go g5 (by rw [e5];exact hs.d0) (by rw [e5];exact hs.d30)
 have gE:=QAQ he s5.lt [59]
 have G:=((((((g0.trans g1).trans g2).trans g3).trans g4).trans g5).trans gE)
 refine ⟨f1+f5,{ it0 with kind:=5,name:=str (QAS ts (QA3 ts [115,101,116] τ1)),e:=v5,f:=v1,pos:=((QA9 ts σ.at_).at_:Int) },decide ((QA3 ts [59] τ5).code = 0),QA3 ts [59] τ5,?_,QAW G,(QA6 ts _ _).trans e5,fun hok=>?_⟩
 ·unfold QCO
  rw [if_neg h0,if_pos ha,if_neg h1,if_neg h2,if_neg h3,if_pos hi]
  unfold iOn
  rw [QBM (f:=f1) (by omega) r1]
  simp only [Option.bind_some]
  rw [QBM (f:=f5) (by omega) r5]
  simp only [Option.bind_some]
  rfl
 ·have hz:(QA3 ts [59] τ5).code = 0:=of_decide_eq_true hok
  have hn:(QA3 ts [59] τ5).exprs.length≤30000:=by rw [QAt];exact s5.small
  have qf:=(IxOk.go (IxOk.go (IxOk.go (IxOk.go (IxOk.go i1 g2) g3) g4) g5) gE) hz
  have qe:=(IxOk.go i5 gE) hz
  refine ⟨?_,hz,⟨by simp [it0],?_,?_⟩⟩
  ·have:=G.at_;have:=G.room;have:=G.more;omega
  ·simp [QFZ,QAg,hasE,hasF,it0,qf,qe]
  ·exact QOj hn (by omega) (by omega) (by omega) n3 (by decide) (by decide) (by decide) (fun s h=>by cases h)
theorem QK2 {all:Bool} {σ:RS} (hs:St ts σ) (hi:isS ts [102,114,111,109] σ = true) (h0:¬ isS ts [108,101,116] σ = true) (h1:¬ isS ts [100,101,114] σ = true) (h2:¬ isS ts [114,101,115,101,116] σ = true) (h3:¬ isS ts [109,101,109] σ = true) (h4:¬ isS ts [111,110] σ = true) (h5:¬ isS ts [109,111,100,101] σ = true) (ha:all = true):QMx ts all σ:=by
 have g0:=go_step' he hs.lt (QAU hi).1
 have s0:St ts (QA0 σ):=hs.go g0 hs.d0 hs.d30
 have e0:(QA0 σ).deep = σ.deep:=rfl
 have g1:=QBG he s0.lt
 have n1:=QBH ht s0.lt
 have e1:(QA7 ts (QA0 σ)).deep = σ.deep:=(QAK ts _).trans e0
 have s1:St ts (QA7 ts (QA0 σ)):=s0.go g1 (by rw [e1];exact hs.d0) (by rw [e1];exact hs.d30)
 have g2:=QAQ he s1.lt [46]
 have e2:(QA3 ts [46] (QA7 ts (QA0 σ))).deep = σ.deep:=(QA6 ts _ _).trans e1
 have s2:St ts (QA3 ts [46] (QA7 ts (QA0 σ))):=s1.go g2 (by rw [e2];exact hs.d0) (by rw [e2];exact hs.d30)
 have g3:=QBG he s2.lt
 have n3:=QBH ht s2.lt
 have e3:(QA7 ts (QA3 ts [46] (QA7 ts (QA0 σ)))).deep = σ.deep:=(QAK ts _).trans e2
 have s3:St ts (QA7 ts (QA3 ts [46] (QA7 ts (QA0 σ)))):=s2.go g3 (by rw [e3];exact hs.d0) (by rw [e3];exact hs.d30)
 have g4:=QAQ he s3.lt [111,110]
 have e4:(QA3 ts [111,110] (QA7 ts (QA3 ts [46] (QA7 ts (QA0 σ))))).deep = σ.deep:=(QA6 ts _ _).trans e3
 have s4:St ts (QA3 ts [111,110] (QA7 ts (QA3 ts [46] (QA7 ts (QA0 σ))))):=s3.go g4 (by rw [e4];exact hs.d0) (by rw [e4];exact hs.d30)
 obtain ⟨f5,v5,τ5,r5,g5,d5,i5⟩:=expr_ends' he ht s4
 have e5:τ5.deep = σ.deep:=(d5).trans e4
 have s5:St ts τ5:=s4.go g5 (by rw [e5];exact hs.d0) (by rw [e5];exact hs.d30)
 have g6:=QAQ he s5.lt [103,111,116,111]
 have e6:(QA3 ts [103,111,116,111] τ5).deep = σ.deep:=(QA6 ts _ _).trans e5
 have s6:St ts (QA3 ts [103,111,116,111] τ5):=s5.go g6 (by rw [e6];exact hs.d0) (by rw [e6];exact hs.d30)
 have g7:=QBG he s6.lt
 have n7:=QBH ht s6.lt
 have e7:(QA7 ts (QA3 ts [103,111,116,111] τ5)).deep = σ.deep:=(QAK ts _).trans e6
 have s7:St ts (QA7 ts (QA3 ts [103,111,116,111] τ5)):=s6.go g7 (by rw [e7];exact hs.d0) (by rw [e7];exact hs.d30)
 have gE:=QAQ he s7.lt [59]
 have G:=((((((((g0.trans g1).trans g2).trans g3).trans g4).trans g5).trans g6).trans g7).trans gE)
 refine ⟨f5,{ it0 with kind:=7,name:=str (QAS ts (QA0 σ)),f:=v5,state:=str (QAS ts (QA3 ts [46] (QA7 ts (QA0 σ)))),next:=str (QAS ts (QA3 ts [103,111,116,111] τ5)),pos:=((QA9 ts σ.at_).at_:Int) },decide ((QA3 ts [59] (QA7 ts (QA3 ts [103,111,116,111] τ5))).code = 0),QA3 ts [59] (QA7 ts (QA3 ts [103,111,116,111] τ5)),?_,QAW G,(QA6 ts _ _).trans e7,fun hok=>?_⟩
 ·unfold QCO
  rw [if_neg h0,if_pos ha,if_neg h1,if_neg h2,if_neg h3,if_neg h4,if_neg h5,if_pos hi]
  unfold QNN
  rw [QBM (f:=f5) (by omega) r5]
  simp only [Option.bind_some]
  rfl
 ·have hz:(QA3 ts [59] (QA7 ts (QA3 ts [103,111,116,111] τ5))).code = 0:=of_decide_eq_true hok
  have hn:(QA3 ts [59] (QA7 ts (QA3 ts [103,111,116,111] τ5))).exprs.length≤30000:=by rw [QAt];exact s7.small
  have qf:=(IxOk.go (IxOk.go (IxOk.go i5 g6) g7) gE) hz
  refine ⟨?_,hz,⟨by simp [it0],?_,?_⟩⟩
  ·have:=G.at_;have:=G.room;have:=G.more;omega
  ·simp [QFZ,QAg,hasE,hasF,it0,qf]
  ·exact QOj hn (by omega) (zz _) (by omega) n1 n3 n7 (by decide) (fun s h=>by cases h)
theorem QLg {all:Bool} {σ:RS} (hs:St ts σ) (hi:isS ts [111,117,116] σ = true) (h0:¬ isS ts [108,101,116] σ = true) (h1:¬ isS ts [100,101,114] σ = true) (h2:¬ isS ts [114,101,115,101,116] σ = true) (h3:¬ isS ts [109,101,109] σ = true) (h4:¬ isS ts [111,110] σ = true) (h5:¬ isS ts [109,111,100,101] σ = true) (h6:¬ isS ts [102,114,111,109] σ = true) (ha:all = true):QMx ts all σ:=by
 have g0:=go_step' he hs.lt (QAU hi).1
 have s0:St ts (QA0 σ):=hs.go g0 hs.d0 hs.d30
 have e0:(QA0 σ).deep = σ.deep:=rfl
 have g1:=QBG he s0.lt
 have n1:=QBH ht s0.lt
 have e1:(QA7 ts (QA0 σ)).deep = σ.deep:=(QAK ts _).trans e0
 have s1:St ts (QA7 ts (QA0 σ)):=s0.go g1 (by rw [e1];exact hs.d0) (by rw [e1];exact hs.d30)
 have gE:=QAQ he s1.lt [59]
 have G:=((g0.trans g1).trans gE)
 refine ⟨0,{ it0 with kind:=8,name:=str (QAS ts (QA0 σ)),pos:=((QA9 ts σ.at_).at_:Int) },decide ((QA3 ts [59] (QA7 ts (QA0 σ))).code = 0),QA3 ts [59] (QA7 ts (QA0 σ)),?_,QAW G,(QA6 ts _ _).trans e1,fun hok=>?_⟩
 ·unfold QCO
  rw [if_neg h0,if_pos ha,if_neg h1,if_neg h2,if_neg h3,if_neg h4,if_neg h5,if_neg h6,if_pos hi]
  unfold iOut
  rfl
 ·have hz:(QA3 ts [59] (QA7 ts (QA0 σ))).code = 0:=of_decide_eq_true hok
  have hn:(QA3 ts [59] (QA7 ts (QA0 σ))).exprs.length≤30000:=by rw [QAt];exact s1.small
  refine ⟨?_,hz,⟨by simp [it0],?_,?_⟩⟩
  ·have:=G.at_;have:=G.room;have:=G.more;omega
  ·simp [QFZ,QAg,hasE,hasF,it0]
  ·exact QOj hn (by omega) (zz _) (zz _) n1 (by decide) (by decide) (by decide) (fun s h=>by cases h)
theorem QK3 {all:Bool} {σ:RS} (hs:St ts σ) (hi:isS ts [109,111,100,101] σ = true) (h0:¬ isS ts [108,101,116] σ = true) (h1:¬ isS ts [100,101,114] σ = true) (h2:¬ isS ts [114,101,115,101,116] σ = true) (h3:¬ isS ts [109,101,109] σ = true) (h4:¬ isS ts [111,110] σ = true) (ha:all = true):QMx ts all σ:=by
 have g0:=go_step' he hs.lt (QAU hi).1
 have s0:St ts (QA0 σ):=hs.go g0 hs.d0 hs.d30
 have e0:(QA0 σ).deep = σ.deep:=rfl
 have g1:=QBG he s0.lt
 have n1:=QBH ht s0.lt
 have e1:(QA7 ts (QA0 σ)).deep = σ.deep:=(QAK ts _).trans e0
 have s1:St ts (QA7 ts (QA0 σ)):=s0.go g1 (by rw [e1];exact hs.d0) (by rw [e1];exact hs.d30)
 have g2:=QAQ he s1.lt [123]
 have e2:(QA3 ts [123] (QA7 ts (QA0 σ))).deep = σ.deep:=(QA6 ts _ _).trans e1
 have s2:St ts (QA3 ts [123] (QA7 ts (QA0 σ))):=s1.go g2 (by rw [e2];exact hs.d0) (by rw [e2];exact hs.d30)
 have g3:=QBG he s2.lt
 have n3:=QBH ht s2.lt
 have e3:(QA7 ts (QA3 ts [123] (QA7 ts (QA0 σ)))).deep = σ.deep:=(QAK ts _).trans e2
 have s3:St ts (QA7 ts (QA3 ts [123] (QA7 ts (QA0 σ)))):=s2.go g3 (by rw [e3];exact hs.d0) (by rw [e3];exact hs.d30)
 have hat:1≤(QA7 ts (QA3 ts [123] (QA7 ts (QA0 σ)))).at_:=by have:=g3.at_;have:=g2.at_;have:=g1.at_;have:(QA0 σ).at_ = σ.at_+1:=rfl;omega
 obtain ⟨f,l,τ,r,g4,d4,l4,n4⟩:=QIa he ht _ [str (QAS ts (QA3 ts [123] (QA7 ts (QA0 σ))))] _ (Nat.le_refl _) s3 (by simpa using hat) (fun s h=>by obtain rfl:=List.mem_singleton.1 h;exact n3)
 have e4:τ.deep = σ.deep:=d4.trans e3
 have s4:St ts τ:=s3.go g4 (by rw [e4];exact hs.d0) (by rw [e4];exact hs.d30)
 have g5:=QAQ he s4.lt [125]
 have e5:(QA3 ts [125] τ).deep = σ.deep:=(QA6 ts _ _).trans e4
 have s5:St ts (QA3 ts [125] τ):=s4.go g5 (by rw [e5];exact hs.d0) (by rw [e5];exact hs.d30)
 have gE:=QAQ he s5.lt [59]
 have G:=(((((g0.trans g1).trans g2).trans g3).trans g4).trans g5).trans gE
 refine ⟨f,{ it0 with kind:=6,name:=str (QAS ts (QA0 σ)),states:=l,pos:=((QA9 ts σ.at_).at_:Int) },decide ((QA3 ts [59] (QA3 ts [125] τ)).code = 0),QA3 ts [59] (QA3 ts [125] τ),?_,QAW G,(QA6 ts _ _).trans e5,fun hok=>?_⟩
 ·unfold QCO
  rw [if_neg h0,if_pos ha,if_neg h1,if_neg h2,if_neg h3,if_neg h4,if_pos hi]
  unfold QNO
  rw [r]
  rfl
 ·have hz:(QA3 ts [59] (QA3 ts [125] τ)).code = 0:=of_decide_eq_true hok
  have hn:(QA3 ts [59] (QA3 ts [125] τ)).exprs.length≤30000:=by rw [QAt];exact s5.small
  refine ⟨?_,hz,⟨by simp [it0],?_,?_⟩⟩
  ·have:=G.at_;have:=G.room;have:=G.more;omega
  ·simp [QFZ,QAg,hasE,hasF,it0]
  ·exact QOj hn (by omega) (zz _) (zz _) n1 (by decide) (by decide) (by have:=s4.lt;have:=s4.len;unfold QAH;omega) n4
theorem QLn (all:Bool) {σ:RS} (hs:St ts σ):QMx ts all σ:=by
 by_cases h0:isS ts [108,101,116] σ = true
 ·exact QLe he ht hs h0
 by_cases ha:all = true
 ·by_cases h1:isS ts [100,101,114] σ = true
  ·exact QLd he ht hs h1 h0 ha
  by_cases h2:isS ts [114,101,115,101,116] σ = true
  ·exact QIC he ht hs h2 h0 h1 ha
  by_cases h3:isS ts [109,101,109] σ = true
  ·exact QLf he ht hs h3 h0 h1 h2 ha
  by_cases h4:isS ts [111,110] σ = true
  ·exact QNP he ht hs h4 h0 h1 h2 h3 ha
  by_cases h5:isS ts [109,111,100,101] σ = true
  ·exact QK3 he ht hs h5 h0 h1 h2 h3 h4 ha
  by_cases h6:isS ts [102,114,111,109] σ = true
  ·exact QK2 he ht hs h6 h0 h1 h2 h3 h4 h5 ha
  by_cases h7:isS ts [111,117,116] σ = true
  ·exact QLg he ht hs h7 h0 h1 h2 h3 h4 h5 h6 ha
  refine ⟨0,{ it0 with pos:=((QA9 ts σ.at_).at_:Int) },false,σ,?_,Go.refl hs.lt,rfl,fun h=>by cases h⟩
  unfold QCO
  rw [if_neg h0,if_pos ha,if_neg h1,if_neg h2,if_neg h3,if_neg h4,if_neg h5,if_neg h6,if_neg h7]
 ·refine ⟨0,{ it0 with pos:=((QA9 ts σ.at_).at_:Int) },false,σ,?_,Go.refl hs.lt,rfl,fun h=>by cases h⟩
  unfold QCO
  rw [if_neg h0,if_neg ha]
end
end
section
open Lx
set_option linter.unusedVariables false
set_option linter.unusedSectionVars false
structure GoodD (d:De) (n:Nat):Prop where
 kind:1≤d.kind∧d.kind≤3
 val:QAg n (QCA d.kind) d.e = true
 ok:DeOk d
 pa:∀ p∈d.params,QFo p
 it:∀ x∈d.items,GoodI x n
theorem GoodD.mono {d:De} {n m:Nat} (h:GoodD d n) (hm:n≤m):GoodD d m:=⟨h.kind,QDW hm h.val,h.ok,h.pa,fun x hx=>(h.it x hx).mono hm⟩
theorem QMq {ts:List Tok} {s:List UInt8} {σ:RS} (h:(QA3 ts s σ).code = 0):(QA3 ts s σ).at_ = σ.at_+1:=by
 unfold QA3 at h ⊢
 split
 ·rfl
 ·rename_i hi
  rw [if_neg hi] at h
  unfold QBN at h
  split at h
  ·exact absurd (show (2:Int) = 0 from h) (by decide)
  ·rename_i hc;exact absurd h hc
section
variable {ts:List Tok} (he:EndOk ts) (ht:QHx ts)
include he ht
theorem QK7 (all:Bool):∀ (M:Nat) (acc:List It) (σ:RS),ts.length - σ.at_≤M→St ts σ→acc.length≤σ.at_→(σ.code = 0→∀ x∈acc,GoodI x σ.exprs.length)→∃ f l τ,QGw ts f all f acc σ = some (l,τ)∧Go ts 0 σ τ∧τ.deep = σ.deep∧l.length≤τ.at_∧(τ.code = 0→∀ x∈l,GoodI x τ.exprs.length):=by
 intro M
 induction M with
 | zero=>intro acc σ hm hs _ _;have:=hs.lt;omega
 | succ M ih =>
  intro acc σ hm hs hl hn
  have hlen:acc.length≤40000:=by have:=hs.lt;have:=hs.len;omega
  by_cases hc:σ.code = 0
  ·obtain ⟨f1,x,ok,τ,r1,g1,d1,p1⟩:=QLn he ht all hs
   have s1:St ts τ:=hs.go g1 (by rw [d1];exact hs.d0) (by rw [d1];exact hs.d30)
   cases ok with
   | true =>
    obtain ⟨hat,hz,hg⟩:=p1 rfl
    obtain ⟨f2,l,υ,r2,g2,d2,l2,n2⟩:=ih (acc ++ [x]) τ (by have:=hs.lt;omega) s1 (by simp;omega) (fun _ y hy=>by
     rcases List.mem_append.1 hy with hy | hy
     ·exact (hn hc y hy).mono g1.more
     ·obtain rfl:=List.mem_singleton.1 hy;exact hg)
    refine ⟨f1+f2+1,l,υ,?_,QAW (g1.trans g2),d2.trans d1,l2,n2⟩
    simp only [QGw]
    rw [if_pos hlen,if_pos hc,QGW (f:=f1) (by omega) r1]
    simp only [Option.bind_some,if_true]
    exact QF8 (f:=f2) (n:=f2) (by omega) (by omega) r2
   | false =>
    refine ⟨f1+1,acc,τ,?_,g1,d1,by have:=g1.at_;omega,fun hz y hy=>(hn hc y hy).mono g1.more⟩
    simp only [QGw]
    rw [if_pos hlen,if_pos hc,QGW (f:=f1) (by omega) r1]
    simp
  ·refine ⟨1,acc,σ,?_,Go.refl hs.lt,rfl,hl,fun hz=>absurd hz hc⟩
   simp only [QGw]
   rw [if_pos hlen,if_neg hc]
theorem QF7 (all:Bool) {σ:RS} (hs:St ts σ):∃ f l τ,QGw ts f all f [] σ = some (l,τ)∧Go ts 0 σ τ∧τ.deep = σ.deep∧l.length≤τ.at_∧(τ.code = 0→∀ x∈l,GoodI x τ.exprs.length) :=
 QK7 he ht all _ [] σ (Nat.le_refl _) hs (Nat.zero_le _) (fun _ x hx=>by cases hx)
theorem deok {k ty e p:Int} {nm:ByteArray} {pl:List Pa} {il:List It} {n:Nat} (hn:n≤30000) (hk:1≤k∧k≤3) (h1:0≤e∧e≤(n:Int)) (h2:nm.size≤QAH) (h3:pl.length≤40000) (h4:il.length≤40000):DeOk ⟨k,nm,pl,il,ty,e,p⟩ :=
 ⟨by unfold QBi;dsimp only;omega,by unfold QBi;dsimp only;omega,h2,by unfold QAH;dsimp only;omega,by unfold QAH;dsimp only;omega⟩
def DRes (ts:List Tok) (σ:RS):Prop:=∃ f d τ,QEx ts f σ = some (d,τ)∧Go ts 0 σ τ∧τ.deep = σ.deep∧(τ.code = 0→σ.at_ < τ.at_∧GoodD d τ.exprs.length)
theorem St.want {σ:RS} (h:St ts σ) (s:List UInt8):St ts (QA3 ts s σ)∧Go ts 0 σ (QA3 ts s σ):=⟨h.go (QAQ he h.lt s) (by rw [QA6];exact h.d0) (by rw [QA6];exact h.d30),QAQ he h.lt s⟩
theorem St.name {σ:RS} (h:St ts σ):St ts (QA7 ts σ)∧Go ts 0 σ (QA7 ts σ):=⟨h.go (QBG he h.lt) (by rw [QAK];exact h.d0) (by rw [QAK];exact h.d30),QBG he h.lt⟩
theorem St.kind {σ:RS} (h:St ts σ):St ts (QAv ts σ)∧Go ts 0 σ (QAv ts σ):=⟨h.go (QF2 he h.lt) (by rw [QBL];exact h.d0) (by rw [QBL];exact h.d30),QF2 he h.lt⟩
theorem QLH {σ:RS} (hs:St ts σ):DRes ts σ:=by
 by_cases hf:isS ts [102,117,110] σ = true
 ·have g0:=go_step' he hs.lt (QAU hf).1
  have s0:St ts (QA0 σ):=hs.go g0 hs.d0 hs.d30
  obtain ⟨s1,g1⟩:=s0.name he ht
  have n1:=QBH ht s0.lt
  obtain ⟨f2,pl,τ2,r2,g2,d2,l2,p2⟩:=QDT he ht s1
  have s2:St ts τ2:=s1.go g2 (by rw [d2];exact s1.d0) (by rw [d2];exact s1.d30)
  obtain ⟨s3,g3⟩:=s2.want he ht [58]
  obtain ⟨s4,g4⟩:=s3.kind he ht
  obtain ⟨s5,g5⟩:=s4.want he ht [61]
  obtain ⟨f6,v,τ6,r6,g6,d6,i6⟩:=expr_ends' he ht s5
  have s6:St ts τ6:=s5.go g6 (by rw [d6];exact s5.d0) (by rw [d6];exact s5.d30)
  have gE:=QAQ he s6.lt [59]
  have G:=((((((g0.trans g1).trans g2).trans g3).trans g4).trans g5).trans g6).trans gE
  refine ⟨f2+f6,⟨1,str (QAS ts (QA0 σ)),pl,[],QBo ts (QA3 ts [58] τ2),v,((QA9 ts σ.at_).at_:Int)⟩,QA3 ts [59] τ6,?_,QAW G,?_,fun hz=>⟨?_,⟨by dsimp only;omega,?_,?_,p2,fun x hx=>by cases hx⟩⟩⟩
  ·unfold QEx
   rw [if_pos hf,QBp (f:=f2) (by omega) r2]
   simp only [Option.bind_some]
   rw [QBM (f:=f6) (by omega) r6]
   rfl
  ·rw [QA6,d6,QA6,QBL,QA6,d2,QAK];rfl
  ·have:=G.at_;have:=G.room;have:=G.more;omega
  ·have q:=IxOk.go i6 gE hz
   simp [QAg,QCA,q]
  ·have q:=IxOk.go i6 gE hz
   exact deok he ht (n:=(QA3 ts [59] τ6).exprs.length) (by rw [QAt];exact s6.small) (by omega) (by omega) n1 l2 (by simp)
 by_cases hn:isS ts [110,111,100,101] σ = true
 ·have g0:=go_step' he hs.lt (QAU hn).1
  have s0:St ts (QA0 σ):=hs.go g0 hs.d0 hs.d30
  obtain ⟨s1,g1⟩:=s0.name he ht
  have n1:=QBH ht s0.lt
  obtain ⟨f2,pl,τ2,r2,g2,d2,l2,p2⟩:=QDT he ht s1
  have s2:St ts τ2:=s1.go g2 (by rw [d2];exact s1.d0) (by rw [d2];exact s1.d30)
  obtain ⟨s3,g3⟩:=s2.want he ht [58]
  obtain ⟨s4,g4⟩:=s3.kind he ht
  obtain ⟨s5,g5⟩:=s4.want he ht [123]
  obtain ⟨f6,il,τ6,r6,g6,d6,l6,p6⟩:=QF7 he ht false s5
  have s6:St ts τ6:=s5.go g6 (by rw [d6];exact s5.d0) (by rw [d6];exact s5.d30)
  obtain ⟨s7,g7⟩:=s6.want he ht [114,101,116,117,114,110]
  obtain ⟨f8,v,τ8,r8,g8,d8,i8⟩:=expr_ends' he ht s7
  have s8:St ts τ8:=s7.go g8 (by rw [d8];exact s7.d0) (by rw [d8];exact s7.d30)
  obtain ⟨s9,g9⟩:=s8.want he ht [59]
  have gE:=QAQ he s9.lt [125]
  have G:=(((((((((g0.trans g1).trans g2).trans g3).trans g4).trans g5).trans g6).trans g7).trans g8).trans g9).trans gE
  have gT:=((g7.trans g8).trans g9).trans gE
  refine ⟨f2+f6+f8,⟨2,str (QAS ts (QA0 σ)),pl,il,QBo ts (QA3 ts [58] τ2),v,((QA9 ts σ.at_).at_:Int)⟩,QA3 ts [125] (QA3 ts [59] τ8),?_,QAW G,?_,fun hz=>⟨?_,⟨by dsimp only;omega,?_,?_,p2,fun x hx=>(p6 (gT.code hz) x hx).mono gT.more⟩⟩⟩
  ·unfold QEx
   rw [if_neg hf,if_pos hn,QBp (f:=f2) (by omega) r2]
   simp only [Option.bind_some]
   rw [QF8 (f:=f6) (n:=f6) (by omega) (by omega) r6]
   simp only [Option.bind_some]
   rw [QBM (f:=f8) (by omega) r8]
   rfl
  ·rw [QA6,QA6,d8,QA6,d6,QA6,QBL,QA6,d2,QAK];rfl
  ·have:=G.at_;have:=G.room;have:=G.more;omega
  ·have q:=(IxOk.go i8 g9).go gE hz
   simp [QAg,QCA,q]
  ·have q:=(IxOk.go i8 g9).go gE hz
   exact deok he ht (n:=(QA3 ts [125] (QA3 ts [59] τ8)).exprs.length) (by rw [QAt,QAt];exact s8.small) (by omega) (by omega) n1 l2 (by have:=s6.lt;have:=s6.len;omega)
 ·obtain ⟨s0,g0⟩:=hs.want he ht [104,121,98,114,105,100]
  obtain ⟨s1,g1⟩:=s0.name he ht
  have n1:=QBH ht s0.lt
  obtain ⟨f2,pl,τ2,r2,g2,d2,l2,p2⟩:=QDT he ht s1
  have s2:St ts τ2:=s1.go g2 (by rw [d2];exact s1.d0) (by rw [d2];exact s1.d30)
  obtain ⟨s3,g3⟩:=s2.want he ht [123]
  obtain ⟨f6,il,τ6,r6,g6,d6,l6,p6⟩:=QF7 he ht true s3
  have s6:St ts τ6:=s3.go g6 (by rw [d6];exact s3.d0) (by rw [d6];exact s3.d30)
  have gE:=QAQ he s6.lt [125]
  have G1:=(((g0.trans g1).trans g2).trans g3).trans g6
  have G:=G1.trans gE
  refine ⟨f2+f6,⟨3,str (QAS ts (QA3 ts [104,121,98,114,105,100] σ)),pl,il,0,0,((QA9 ts σ.at_).at_:Int)⟩,QA3 ts [125] τ6,?_,QAW G,?_,fun hz=>⟨?_,⟨by dsimp only;omega,by simp [QAg,QCA],?_,p2,fun x hx=>(p6 (gE.code hz) x hx).mono gE.more⟩⟩⟩
  ·unfold QEx
   rw [if_neg hf,if_neg hn,QBp (f:=f2) (by omega) r2]
   simp only [Option.bind_some]
   rw [QF8 (f:=f6) (n:=f6) (by omega) (by omega) r6]
   rfl
  ·rw [QA6,d6,QA6,d2,QAK,QA6]
  ·have:=QMq hz;have:=G1.at_;omega
  ·exact deok he ht (n:=0) (by omega) (by omega) (by omega) n1 l2 (by have:=s6.lt;have:=s6.len;omega)
theorem QFr:∀ (M:Nat) (acc:List De) (σ:RS),ts.length - σ.at_≤M→St ts σ→acc.length≤σ.at_→(σ.code = 0→∀ d∈acc,GoodD d σ.exprs.length)→∃ f l τ,QBZ ts f f acc σ = some (l,τ)∧Go ts 0 σ τ∧(τ.code = 0→l.length≤τ.at_∧∀ d∈l,GoodD d τ.exprs.length):=by
 intro M
 induction M with
 | zero=>intro acc σ hm hs _ _;have:=hs.lt;omega
 | succ M ih =>
  intro acc σ hm hs hl hn
  have hlen:acc.length≤30000:=by have:=hs.lt;have:=hs.len;omega
  by_cases hc:σ.code = 0
  ·by_cases h5:(QA9 ts σ.at_).kind = 5
   ·refine ⟨1,acc,σ,?_,Go.refl hs.lt,fun hz=>⟨hl,hn hz⟩⟩
    simp only [QBZ]
    rw [if_pos (by omega),if_pos hc,if_pos h5]
   ·obtain ⟨f1,d,τ,r1,g1,d1,p1⟩:=QLH he ht hs
    have s1:St ts τ:=hs.go g1 (by rw [d1];exact hs.d0) (by rw [d1];exact hs.d30)
    by_cases hz:τ.code = 0
    ·obtain ⟨hat,hg⟩:=p1 hz
     obtain ⟨f2,l,υ,r2,g2,n2⟩:=ih (acc ++ [d]) τ (by have:=hs.lt;omega) s1 (by simp;omega) (fun _ y hy=>by
      rcases List.mem_append.1 hy with hy | hy
      ·exact (hn hc y hy).mono g1.more
      ·obtain rfl:=List.mem_singleton.1 hy;exact hg)
     refine ⟨f1+f2+1,l,υ,?_,QAW (g1.trans g2),n2⟩
     simp only [QBZ]
     rw [if_pos (by omega),if_pos hc,if_neg h5,QGP (f:=f1) (by omega) r1]
     simp only [Option.bind_some]
     exact QEy (f:=f2) (n:=f2) (by omega) (by omega) r2
    ·refine ⟨f1+1+1,acc ++ [d],τ,?_,g1,fun h=>absurd h hz⟩
     rw [QBZ,if_pos (by omega),if_pos hc,if_neg h5,QGP (f:=f1) (by omega) r1]
     simp only [Option.bind_some]
     rw [QBZ,if_pos (by simp;omega),if_neg hz]
  ·refine ⟨1,acc,σ,?_,Go.refl hs.lt,fun hz=>absurd hz hc⟩
   simp only [QBZ]
   rw [if_pos (by omega),if_neg hc]
end
end
section
open Lx
set_option linter.unusedVariables false
theorem QF0 {α:Type} {enc:α→List Value} {s:Nat} (hs:∀ x,(enc x).length = s):∀ (l:List α) (i:Nat) (x:α) (j:Nat) (u:Value),l[i]? = some x→(enc x)[j]? = some u→(l.flatMap enc)[i*s+j]? = some u
 | [],i,x,j,u,h,_=>by cases h
 | y :: l,0,x,j,u,h,hu=>by
  cases h
  have hj:j < (enc y).length:=(List.getElem?_eq_some_iff.1 hu).1
  rw [List.flatMap_cons,Nat.zero_mul,Nat.zero_add,List.getElem?_append_left hj];exact hu
 | y :: l,i+1,x,j,u,h,hu=>by
  have h2:l[i]? = some x:=by simpa using h
  have hy:=hs y
  rw [List.flatMap_cons,List.getElem?_append_right (by rw [hy,Nat.add_mul];omega),hy]
  have:=QF0 hs l i x j u h2 hu
  rw [show (i+1)*s+j - s = i*s+j by rw [Nat.add_mul];omega]
  exact this
theorem QD9 {α:Type} {W:World} {B:Nat} {T:TypeId} {s:Nat} {v:Value} {l:List α} {enc:α→List Value} (hs:∀ x,(enc x).length = s) (h:W.ownsRow B T s v l.length (l.flatMap enc)) :
  SlAt v l.length s fun b o i=>∀ x,l[i]? = some x→∀ j u,(enc x)[j]? = some u→W.cell? ⟨b,o+j,none⟩ = some u:=by
 rcases h.2 with ⟨rfl,h0⟩ | ⟨g,cap,cur,rfl,hb,hg,hnc,hcm,hcs,htk⟩
 ·rw [h0];exact QCW _ _ _ _ _ ⟨Nat.zero_le _,fun _=>rfl⟩ rfl
 ·refine QCx hnc hcm fun i hi x hx j u hu=>?_
  have h1:=QF0 hs l i x j u hx hu
  rw [← htk,List.getElem?_take] at h1
  split at h1
  ·rw [Array.getElem?_toList] at h1
   simp [World.cell?,hg,h1]
  ·cases h1
theorem QNQ {W:World} {B:Nat} {v:Value} {l:List Int} (h:W.ownsRow B 3 1 v l.length (l.map QLi)):IntsAt W v l:=by
 rw [List.map_eq_flatMap] at h
 exact (QD9 (enc:=fun n=>[QLi n]) (fun _=>rfl) h).mono fun b o i hi hx=>by
  obtain ⟨x,hx'⟩:∃ x,l[i]? = some x:=⟨_,List.getElem?_eq_getElem hi⟩
  have:=hx x hx' 0 _ rfl
  rw [List.getD_eq_getElem?_getD,hx'];exact this
theorem QOO {W:World} {B:Nat} {v:Value} {l:List ByteArray} (h:W.ownsRow B 9 1 v l.length (l.map .string)):StrsAt W v l:=by
 rw [List.map_eq_flatMap] at h
 exact (QD9 (enc:=fun n=>[Value.string n]) (fun _=>rfl) h).mono fun b o i hi hx=>by
  obtain ⟨x,hx'⟩:∃ x,l[i]? = some x:=⟨_,List.getElem?_eq_getElem hi⟩
  have:=hx x hx' 0 _ rfl
  rw [List.getD_eq_getElem?_getD,hx'];exact this
theorem QLP {W:World} {b:Nat} {xb:Nat→Prop} {v:Value} {l:List Ex} (h:ExsOwn W b xb v l) (hg:QDJ l):ExsAt W v l:=by
 obtain ⟨q,rfl,h2,h3⟩:=h
 rw [List.length_map] at h2
 unfold ExsAt
 rw [List.length_map]
 refine (QD9 (enc:=fun p:Ex × Value=>exC p.1 p.2) (fun _=>rfl) h2).mono fun b o i hi hx x hx2=>?_
 rw [List.getElem?_map] at hx2
 obtain ⟨p,hp,rfl⟩:=Option.map_eq_some_iff.1 hx2
 have c:=hx p hp
 refine ⟨p.2,c 0 _ rfl,c 1 _ rfl,c 2 _ rfl,c 3 _ rfl,c 4 _ rfl,c 5 _ rfl,c 6 _ rfl,c 7 _ rfl,c 8 _ rfl,QNQ (h3 p (List.mem_of_getElem? hp)).1,?_⟩
 exact (hg i p.1 (by rw [List.getElem?_map,hp];rfl)).2
theorem its_own {W:World} {B:Nat} {v:Value} {l:List It} (h:ItsOwn W B v l) (hg:∀ x∈l,ItOk x):SlAt v l.length 9 fun b o i=>∀ y,l[i]? = some y→ItAt W b o y:=by
 obtain ⟨q,rfl,h2,h3⟩:=h
 rw [List.length_map] at h2 ⊢
 refine (QD9 (enc:=fun p:It × Value=>(itC p.1 p.2).toList) (fun _=>rfl) h2).mono fun b o i hi hx x hx2=>?_
 rw [List.getElem?_map] at hx2
 obtain ⟨p,hp,rfl⟩:=Option.map_eq_some_iff.1 hx2
 have c:=hx p hp
 exact ⟨p.2,c 0 _ rfl,c 1 _ rfl,c 2 _ rfl,c 3 _ rfl,c 4 _ rfl,c 5 _ rfl,c 6 _ rfl,c 7 _ rfl,c 8 _ rfl,QOO (h3 p (List.mem_of_getElem? hp)),hg p.1 (List.mem_map.2 ⟨p,List.mem_of_getElem? hp,rfl⟩)⟩
theorem pas_own {W:World} {B:Nat} {v:Value} {l:List Pa} (h:W.ownsRow B 65 2 v l.length (paC l)) (hg:∀ x∈l,QFo x):SlAt v l.length 2 fun b o i=>∀ y,l[i]? = some y→PaAt W b o y :=
 (QD9 (enc:=fun p:Pa=>[.string p.name,.int .i64 p.type]) (fun _=>rfl) h).mono fun b o i hi hx x hx2=>by
  have c:=hx x hx2
  have:=hg x (List.mem_of_getElem? hx2)
  exact ⟨c 0 _ rfl,c 1 _ rfl,this.1,this.2⟩
theorem QLJ {W:World} {B:Nat} {v:Value} {l:List De} {n:Nat} (h:DesOwn W B v l) (hg:∀ d∈l,GoodD d n):DesAt W v l:=by
 obtain ⟨q,rfl,h2,h3⟩:=h
 rw [List.length_map] at h2
 unfold DesAt
 rw [List.length_map]
 refine (QD9 (enc:=fun p:De × Value × Value=>deGC p.1 p.2.1 p.2.2) (fun _=>rfl) h2).mono fun b o i hi hx x hx2=>?_
 rw [List.getElem?_map] at hx2
 obtain ⟨p,hp,rfl⟩:=Option.map_eq_some_iff.1 hx2
 have c:=hx p hp
 have hm:=List.mem_of_getElem? hp
 have hgd:=hg p.1 (List.mem_map.2 ⟨p,hm,rfl⟩)
 exact ⟨p.2.1,p.2.2,c 0 _ rfl,c 1 _ rfl,c 2 _ rfl,c 3 _ rfl,c 4 _ rfl,c 5 _ rfl,c 6 _ rfl,pas_own (h3 p hm).1 hgd.pa,its_own (h3 p hm).2 (fun x hx=>(hgd.it x hx).ok),hgd.ok⟩
structure GoodP (p:Pr):Prop where
 ex:QDJ p.exprs
 de:∀ d∈p.decls,GoodD d p.exprs.length
theorem GoodP.may {p:Pr} (h:GoodP p):QFE p = true:=by
 unfold QFE
 simp only [Bool.and_eq_true,List.all_eq_true]
 refine ⟨fun i hi=>?_,fun d hd=>?_⟩
 ·unfold QNn
  cases hx:p.exprs[i]? with
  | none=>rfl
  | some x=>exact (h.ex i x hx).1
 ·unfold QJ8
  simp only [Bool.and_eq_true,List.all_eq_true]
  exact ⟨(h.de d hd).val,fun y hy=>((h.de d hd).it y hy).may⟩
end
section
open Go.Lib (hid)
open Go.RowKit Lx
set_option linter.unusedVariables false
set_option maxHeartbeats 8000000 in
set_option maxRecDepth 100000 in
theorem QEN (s:ByteArray) (q:Bool) (c f:Int) (hc:c≠0) (W:World) (LX:Hid (∀ W,Calls Tryz.prog 11 #[.string s] W fun r Y=>QKz c f W r Y)) :
  Calls Tryz.prog 5 #[.string s,.bool q] W fun r Y=>r = .returned (.tuple #[.agg #[.slice none 0 0,.slice none 0 0],.int .i64 0,.agg #[.int .i64 c,.int .i64 f]])∧Below W.heap.size W Y:=by
 obtain ⟨W2,hW2⟩:∃ W2,W2 = (W.alloc (.cells #[.slice none 0 0,.slice none 0 0] 26)).alloc (.cells #[.int .i64 0,.int .i64 0] 29):=⟨_,rfl⟩
 have hb2:Below W.heap.size W W2:=by rw [hW2];exact ((Below.refl _ _).alloc (Nat.le_refl _) _).alloc (by simp) _
 have hs2:W2.heap.size = W.heap.size+2:=by rw [hW2];simp
 have hP:W2.heap[W.heap.size]? = some (.cells #[.slice none 0 0,.slice none 0 0] 26 (0,0)):=by
  rw [hW2,heap_alloc_old _ _ (by simp)];exact heap_alloc_new W _
 have hF:W2.heap[W.heap.size+1]? = some (.cells #[.int .i64 0,.int .i64 0] 29 (0,0)):=by
  have:=heap_alloc_new (W.alloc (.cells #[.slice none 0 0,.slice none 0 0] 26)) (.cells #[.int .i64 0,.int .i64 0] 29)
  rw [World.size_alloc] at this
  rw [hW2];exact this
 have HB2:=hid hb2
 have HPF:=hid (show _∧_ from ⟨hP,hF⟩)
 have HS2:=hid hs2
 have q3:(c != 0) = true:=bne_iff_ne.2 hc
 have q4:(c == 0) = false:=beq_false_of_ne hc
 clear hb2 hs2 hP hF hc
 have AT:Hid (∀ w3,Below W2.heap.size W2 w3→W.heap.size+1 < w3.heap.size∧w3.heap[W.heap.size]? = some (.cells #[.slice none 0 0,.slice none 0 0] 26 (0,0))∧w3.heap[W.heap.size+1]? = some (.cells #[.int .i64 0,.int .i64 0] 29 (0,0))):=by
  refine hid fun w3 hb3=>?_
  have h2:=HS2.out
  have h3:=hb3.size
  exact ⟨by omega,(hb3.block W.heap.size (by omega)).trans HPF.out.1,(hb3.block (W.heap.size+1) (by omega)).trans HPF.out.2⟩
 have CP:Hid (∀ (w3:World) o (b:Nat) (x y:Value) (t:Nat),w3.heap[b]? = some (.cells #[x,y] t (0,0))→b < w3.heap.size→(w3.alloc o).cell? ⟨b,0,none⟩ = some x∧(w3.alloc o).cell? ⟨b,1,none⟩ = some y∧(w3.alloc o).frozen? ⟨b,0,none⟩ = false∧(w3.alloc o).frozen? ⟨b,1,none⟩ = false):=by
  refine hid fun w3 o b x y t h hl=>?_
  have hne:=Nat.ne_of_lt hl
  exact ⟨(World.cell?_alloc_old _ _ _ hne).trans (by simp [World.cell?,h]),(World.cell?_alloc_old _ _ _ hne).trans (by simp [World.cell?,h]),(World.frozen?_alloc_old _ _ _ hne).trans (by simp [World.frozen?,h]),(World.frozen?_alloc_old _ _ _ hne).trans (by simp [World.frozen?,h])⟩
 go_enter Tryz.func5,Tryz.ntmps5
 go_wp2_with (go_at_call 11;go_loud (rw [← hW2];clear hW2;(with_reducible refine (LX.out W2).mono ?_);rintro e w3 ⟨rfl,hb3⟩;have HB3:=hid hb3;obtain ⟨hlt,hP,hF⟩:=AT.out w3 hb3;have HPP:=hid (show _∧_ from ⟨hP,hF⟩);have HLT:=hid hlt;clear hb3))
 have hlt:=HLT.out
 have hlt0:W.heap.size < w3.heap.size:=by omega
 obtain ⟨wd,hwd⟩:∃ wd,wd = w3.alloc (.cells #[.int .i64 c,.int .i64 f] 29):=⟨_,rfl⟩
 have v:=heap_alloc_new w3 (.cells #[.int .i64 c,.int .i64 f] 29)
 rw [← hwd] at v ⊢
 obtain ⟨p0',p1',p2',p3'⟩:wd.cell? ⟨W.heap.size,0,none⟩ = some (.slice none 0 0)∧wd.cell? ⟨W.heap.size,1,none⟩ = some (.slice none 0 0)∧wd.frozen? ⟨W.heap.size,0,none⟩ = false∧wd.frozen? ⟨W.heap.size,1,none⟩ = false:=by rw [hwd];exact CP.out w3 _ W.heap.size _ _ _ hP hlt0
 obtain ⟨u0',u1',u2',u3'⟩:wd.cell? ⟨W.heap.size+1,0,none⟩ = some (.int .i64 0)∧wd.cell? ⟨W.heap.size+1,1,none⟩ = some (.int .i64 0)∧wd.frozen? ⟨W.heap.size+1,0,none⟩ = false∧wd.frozen? ⟨W.heap.size+1,1,none⟩ = false:=by rw [hwd];exact CP.out w3 _ (W.heap.size+1) _ _ _ hF hlt
 have v0:wd.cell? ⟨w3.heap.size,0,none⟩ = some (.int .i64 c):=by simp [World.cell?,v]
 have v1:wd.cell? ⟨w3.heap.size,1,none⟩ = some (.int .i64 f):=by simp [World.cell?,v]
 have hPd:wd.heap[W.heap.size]? = some (.cells #[.slice none 0 0,.slice none 0 0] 26 (0,0)):=by rw [hwd,heap_alloc_old _ _ hlt0];exact hP
 have hFd:wd.heap[W.heap.size+1]? = some (.cells #[.int .i64 0,.int .i64 0] 29 (0,0)):=by rw [hwd,heap_alloc_old _ _ hlt];exact hF
 have hbd:Below W.heap.size W wd:=by
  have h:=HB2.out.trans (HB3.out.mono (by have:=HS2.out;omega))
  rw [hwd];exact h.alloc h.size _
 have HPD:=hid (show _∧_∧_ from ⟨hPd,hFd,hbd⟩)
 clear hPd hFd hbd hwd v hP hF
 have mixed : Tryz.prog.follows .mixedOrders = true:=by kernel_rfl
 have late : Tryz.prog.follows .lateStores = true:=by kernel_rfl
 go_region_o
 go_wp2_with fail
 obtain ⟨X,hX⟩:∃ X,X = (((wd.setCell ⟨W.heap.size,0,none⟩ (.slice none 0 0)).setCell ⟨W.heap.size,1,none⟩ (.slice none 0 0)).setCell ⟨W.heap.size+1,0,none⟩ (.int .i64 c)).setCell ⟨W.heap.size+1,1,none⟩ (.int .i64 f):=⟨_,rfl⟩
 rw [← hX]
 have k1:X.heap[W.heap.size]? = some (.cells #[.slice none 0 0,.slice none 0 0] 26 (0,0)):=by
  rw [hX,Below.heap_setCell _ _ _ _ (by simp),Below.heap_setCell _ _ _ _ (by simp),QAT (QAT HPD.out.1 0 _) 1 _];rfl
 have k2:X.heap[W.heap.size+1]? = some (.cells #[.int .i64 c,.int .i64 f] 29 (0,0)):=by
  rw [hX,QAT (QAT (((Below.heap_setCell _ _ _ _ (by simp)).trans (Below.heap_setCell _ _ _ _ (by simp))).trans HPD.out.2.1) 0 _) 1 _];rfl
 have hbX:Below W.heap.size W X:=by
  rw [hX]
  exact (((HPD.out.2.2.setCell (p:=⟨W.heap.size,0,none⟩) (Nat.le_refl _) _).setCell (p:=⟨W.heap.size,1,none⟩) (Nat.le_refl _) _).setCell (p:=⟨W.heap.size+1,0,none⟩) (Nat.le_succ _) _).setCell (p:=⟨W.heap.size+1,1,none⟩) (Nat.le_succ _) _
 have k1' : X.drew.heap[W.heap.size]? = some (.cells #[.slice none 0 0,.slice none 0 0] 26 (0,0)):=k1
 have k2' : X.drew.heap[W.heap.size+1]? = some (.cells #[.int .i64 c,.int .i64 f] 29 (0,0)):=k2
 have r0:X.drew.cell? ⟨W.heap.size,0,none⟩ = some (.slice none 0 0):=by simp [World.cell?,k1']
 have r1:X.drew.cell? ⟨W.heap.size,1,none⟩ = some (.slice none 0 0):=by simp [World.cell?,k1']
 have r2:X.drew.cell? ⟨W.heap.size+1,0,none⟩ = some (.int .i64 c):=by simp [World.cell?,k2']
 have r3:X.drew.cell? ⟨W.heap.size+1,1,none⟩ = some (.int .i64 f):=by simp [World.cell?,k2']
 have hbY:Below W.heap.size W X.drew:=hbX.trans (QAE (Below.refl _ _) 1)
 exact bodyPost_ret (v:=.tuple #[.agg #[.slice none 0 0,.slice none 0 0],.int .i64 0,.agg #[.int .i64 c,.int .i64 f]]) (by simp [results,Tryz.results5,go_sem,r0,r1,r2,r3]) rfl ⟨rfl,hbY⟩
end
section
open Go.Lib (hid)
open Go.RowKit Lx
set_option linter.unusedVariables false
theorem QMF (l:List UInt8):((QBy l).1:Int)≤9223372036854775807:=by
 unfold QBy
 split
 ·rename_i h;show (((QCS l).1:Nat):Int)≤_;omega
 ·show ((0:Nat):Int)≤_;omega
theorem oneL_ok {l:List UInt8} {k n:Nat} {v:Int} (h:QEX l = some (k,n,v)):k = 2→0≤v∧v≤9223372036854775807:=by
 intro h2
 cases l with
 | nil=>cases h
 | cons c l =>
  unfold QEX at h
  simp only at h
  split at h
  ·split at h
   ·simp only [Option.some.injEq,Prod.mk.injEq] at h
    obtain ⟨rfl,rfl,rfl⟩:=h
    exact ⟨by omega,by omega⟩
   ·cases h
  ·split at h
   ·split at h
    ·simp only [Option.some.injEq,Prod.mk.injEq] at h
     obtain ⟨rfl,rfl,rfl⟩:=h
     exact ⟨Int.natCast_nonneg _,QMF _⟩
    ·cases h
   ·cases hs:QCE (c :: l) with
    | none=>rw [hs] at h;cases h
    | some s =>
     rw [hs] at h
     simp only [Option.map_some,Option.some.injEq,Prod.mk.injEq] at h
     obtain ⟨rfl,rfl,rfl⟩:=h
     omega
theorem QOR {l:List UInt8} {a:Nat} (h:QEX (l.drop a)≠none):(QAX l a).kind≠5∧(QAX l a).text≠[]∧((QAX l a).kind = 2→0≤(QAX l a).v∧(QAX l a).v≤9223372036854775807)∧(QAX l a).text.length≤l.length:=by
 have hl:=QDu h
 refine ⟨?_,fun h0=>by rw [h0] at hl;simp at hl,?_,by omega⟩
 ·unfold QAX
  cases h1:QEX (l.drop a) with
  | none=>exact absurd h1 h
  | some x=>obtain ⟨k,n,v⟩:=x;have:=QDn h1;simp only [QId];omega
 ·unfold QAX
  cases h1:QEX (l.drop a) with
  | none=>exact absurd h1 h
  | some x=>obtain ⟨k,n,v⟩:=x;exact oneL_ok h1
theorem toks_ok {l:List UInt8} {a:Nat} {ts:List Tok} {r:Option Nat} (h:Toks l a ts r):∀ t∈ts,t.text≠[]∧(t.kind = 2→0≤t.v∧t.v≤9223372036854775807)∧t.text.length≤l.length:=by
 induction h with
 | fin _=>intro t ht;cases ht
 | bad _ _=>intro t ht;cases ht
 | tok _ h1 _ ih =>
  intro t ht
  rcases List.mem_cons.1 ht with rfl | ht
  ·exact (QOR h1).2
  ·exact ih t ht
theorem QOk {l:List UInt8} {ts:List Tok} {r:Option Nat} (h:QNd l ts r) (hl:l.length≤20000) (n:Nat):QHx (ts ++ [QJr n]):=by
 intro i t hi
 have hm:=List.mem_of_getElem? hi
 rcases List.mem_append.1 hm with hm | hm
 ·obtain ⟨h1,h2,h3⟩:=toks_ok h t hm
  exact ⟨fun _=>h1,h2,by omega⟩
 ·obtain rfl:=List.mem_singleton.1 hm
  exact ⟨fun h=>by have:(5:Nat) = 1:=h;omega,fun h=>by have:(5:Nat) = 2:=h;omega,by show (0:Nat)≤_;omega⟩
theorem QOT (l:List UInt8) (a:Nat):∃ ts r,Toks l a ts r:=by
 suffices h:∀ n a,l.length - a≤n→∃ ts r,Toks l a ts r from h _ a (Nat.le_refl _)
 intro n
 induction n with
 | zero=>intro a h;exact ⟨_,_,.fin (by omega)⟩
 | succ n ih =>
  intro a h
  rcases Nat.lt_or_ge a l.length with hlt | hge
  ·by_cases h1:QEX (l.drop a) = none
   ·exact ⟨_,_,.bad hlt h1⟩
   ·have h2:=QDu h1
    have h3:=QGT false l (a+(QAX l a).text.length)
    obtain ⟨ts,r,h4⟩:=ih (QAu false l (a+(QAX l a).text.length)) (by omega)
    exact ⟨_,_,.tok hlt h1 h4⟩
  ·exact ⟨_,_,.fin hge⟩
def QIp (s:ByteArray) (c f:Int):Prop:=∀ W:World,Calls Tryz.prog 5 #[.string s,.bool false] W fun r Y=>r = .returned (.tuple #[.agg #[.slice none 0 0,.slice none 0 0],.int .i64 0,.agg #[.int .i64 c,.int .i64 f]])∧Below W.heap.size W Y
def QGJ (s:ByteArray) (p:Pr):Prop:=∀ W:World,Calls Tryz.prog 5 #[.string s,.bool false] W fun r Y=>∃ sd se,r = .returned (.tuple #[.agg #[sd,se],.int .i64 0,.agg #[.int .i64 0,.int .i64 0]])∧ProgAt Y sd se p∧Below W.heap.size W Y
theorem QMG (s:ByteArray):(∃ c f:Int,c≠0∧QIp s c f)∨(∃ p:Pr,GoodP p∧p.decls.length≤20001∧p.exprs.length≤20001∧QGJ s p):=by
 obtain ⟨l,rfl⟩:∃ l,s = str l:=⟨s.data.toList,by cases s;simp [str]⟩
 obtain ⟨ts,r,ht⟩:∃ ts r,QNd l ts r:=QOT l _
 by_cases hl:20000 < l.length
 ·refine .inl ⟨10,0,by omega,fun W=>QEN (str l) false 10 0 (by omega) W (hid fun W=>(QDU l ts r ht W).mono fun e w' h=>h.1 hl)⟩
 ·have hl' : l.length≤20000:=by omega
  cases r with
  | some f=>exact .inl ⟨1,(f:Int),by omega,fun W=>QEN (str l) false 1 f (by omega) W (hid fun W=>(QDU l ts _ ht W).mono fun e w' h=>h.2 hl')⟩
  | none =>
   have he:=QIv ht l.length
   have hk:=QOk ht hl' l.length
   have hc:=QCX ht
   have g1:=QC8 false (Nat.zero_le l.length)
   have hlen:(ts ++ [QJr l.length]).length≤20001:=by rw [List.length_append];simp only [List.length_cons,List.length_nil];omega
   obtain ⟨f,ds,τ,hr,hg,hd⟩:=QFr he hk _ [] rs0 (Nat.le_refl _) ⟨he.1,Nat.le_refl _,Int.le_refl _,by decide,by omega⟩ (Nat.zero_le _) (fun _ d hd=>by cases hd)
   have P:=fun W=>QDH l ts (hid ht) hl' f f (ds,τ) (hid hr) W
   by_cases h0:τ.code = 0
   ·obtain ⟨h1,h2⟩:=hd h0
    have ha:QDJ τ.exprs:=hg.good h0 (fun i x hx=>by cases i <;> cases hx)
    have hlt:=hg.lt
    have hroom:τ.exprs.length≤τ.at_:=by have:=hg.room;simp only [rs0,List.length_nil] at this;omega
    refine .inr ⟨⟨ds,τ.exprs⟩,⟨ha,h2⟩,by show ds.length≤_;omega,by show τ.exprs.length≤_;omega,fun W=>(P W).mono fun r Y h=>?_⟩
    rcases h with ⟨_,od,cd,o,c,rfl,hd1,hx1,hb⟩ | ⟨hz,_⟩
    ·exact ⟨_,_,rfl,⟨QLJ hd1 h2,QLP hx1 ha,by show ds.length≤_;unfold QAH;omega,by show τ.exprs.length≤_;unfold QAH;omega⟩,hb⟩
    ·exact absurd h0 hz
   ·refine .inl ⟨τ.code,τ.pos,h0,fun W=>(P W).mono fun r Y h=>?_⟩
    rcases h with ⟨hz,_⟩ | ⟨_,h⟩
    ·exact absurd hz h0
    ·exact h
theorem QMj {l:List UInt8} {tl:List Tok} {f:Nat} {ds:List De} {τ:RS} (ht:Hid (QNd l tl none)) (hl:l.length≤20000) (hr:QBZ (tl ++ [QJr l.length]) f f [] rs0 = some (ds,τ)) (h0:τ.code = 0):QGJ (str l) ⟨ds,τ.exprs⟩:=by
 have P:=fun W=>QDH l tl ht hl f f (ds,τ) (hid hr) W
 obtain ⟨f2,ds2,τ2,hr2,hg,hd⟩:=QFr (QIv ht.out l.length) (QOk ht.out hl l.length) _ [] rs0 (Nat.le_refl _) ⟨(QIv ht.out l.length).1,Nat.le_refl _,Int.le_refl _,by decide,by
  have hc:=QCX ht.out
  have g1:=QC8 false (Nat.zero_le l.length)
  rw [List.length_append];simp only [List.length_cons,List.length_nil];omega⟩ (Nat.zero_le _) (fun _ d hd=>by cases hd)
 obtain ⟨rfl,rfl⟩:ds2 = ds∧τ2 = τ:=by
  have h1:=QEy (f':=f+f2) (n':=f+f2) (by omega) (by omega) hr
  have h2:=QEy (f':=f+f2) (n':=f+f2) (by omega) (by omega) hr2
  rw [h1] at h2
  injection h2 with h2
  injection h2 with h3 h4
  exact ⟨h3.symm,h4.symm⟩
 obtain ⟨h1,h2⟩:=hd h0
 have ha:QDJ τ2.exprs:=hg.good h0 (fun i x hx=>by cases i <;> cases hx)
 have hlt:=hg.lt
 have hc:=QCX ht.out
 have g1:=QC8 false (Nat.zero_le l.length)
 have hlen:(tl ++ [QJr l.length]).length≤20001:=by rw [List.length_append];simp only [List.length_cons,List.length_nil];omega
 have hroom:τ2.exprs.length≤τ2.at_:=by have:=hg.room;simp only [rs0,List.length_nil] at this;omega
 intro W
 refine (P W).mono fun r Y h=>?_
 rcases h with ⟨_,od,cd,o,c,rfl,hd1,hx1,hb⟩ | ⟨hz,_⟩
 ·exact ⟨_,_,rfl,⟨QLJ hd1 h2,QLP hx1 ha,by show ds2.length≤_;unfold QAH;omega,by show τ2.exprs.length≤_;unfold QAH;omega⟩,hb⟩
 ·exact absurd h0 hz
end
end Go.Proofs.YtknbghjoncomiaaGreat
