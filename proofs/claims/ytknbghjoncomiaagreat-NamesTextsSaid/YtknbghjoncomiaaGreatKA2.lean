/- Joined: RdMath, RdMem, RdSmall, RdLevel, RdStep, RdMore, RdPut, RdBin, RdExpr, RdExprW. -/
import Derived.Test.YtknbghjoncomiaaGreatRLex
import Derived.Test.YtknbghjoncomiaaGreatKA0
import Derived.RangeFuncBox
import Derived.Lib.QuietBelow
import Derived.WalkKit
import Derived.BigQuiet
import Derived.Deep.QuietTactic
import Derived.Deep.RegionHeld3
import Derived.WalkSpells
import Derived.Deep.AppendLies
import Derived.Deep.RegionLaw
namespace Go.Proofs.YtknbghjoncomiaaGreat
section
open Lx
structure RS where
 at_:Nat
 exprs:List Ex
 deep:Int
 code:Int
 pos:Int
def QA9 (ts:List Tok) (i:Nat):Tok:=ts.getD i ⟨0,[],0,0⟩
def isS (ts:List Tok) (s:List UInt8) (σ:RS):Bool :=
 decide (σ.code = 0) && ((decide ((QA9 ts σ.at_).kind = 3) || decide ((QA9 ts σ.at_).kind = 4)) && (QA9 ts σ.at_).text == s)
def QBN (ts:List Tok) (e:Int) (σ:RS):RS:=if σ.code = 0 then { σ with code:=e,pos:=((QA9 ts σ.at_).at_:Int) } else σ
def QA0 (σ:RS):RS:={ σ with at_:=σ.at_+1 }
def QEF (ts:List Tok) (s:List UInt8) (σ:RS):RS:=if isS ts s σ = true then QA0 σ else σ
def QA3 (ts:List Tok) (s:List UInt8) (σ:RS):RS:=if isS ts s σ = true then QA0 σ else QBN ts 2 σ
def QEW (ts:List Tok) (σ:RS):Bool:=decide (σ.code = 0) && decide ((QA9 ts σ.at_).kind = 1)
def QA7 (ts:List Tok) (σ:RS):RS:=if QEW ts σ = true then QA0 σ else QBN ts 2 σ
def QAS (ts:List Tok) (σ:RS):List UInt8:=if QEW ts σ = true then (QA9 ts σ.at_).text else []
def QBQ (x:Ex) (σ:RS):RS:={ σ with exprs:=σ.exprs ++ [x] }
def levelsL:List (List UInt8 × Int × Int):=[([111,114],1,14),([97,110,100],2,13),([60],3,10),([60,61],3,11),([61,61],3,12),([43],4,6),([45],4,7),([42],5,8),([47],5,9)]
def QF9 (ts:List Tok) (σ:RS) (l:List (List UInt8 × Int × Int)):Int × Int:=match l.find? fun p=>isS ts p.1 σ with | some p=>p.2 | none=>(0,0)
def QB3 (ts:List Tok) (σ:RS):Int × Int:=QF9 ts σ levelsL
def QCM (σ:RS):Bool:=decide (σ.code = 0) && decide (σ.deep = 30)
def QAJ (ts:List Tok) (σ:RS):RS:=let x:=if QCM σ = true then QBN ts 3 σ else σ;{ x with deep:=x.deep+1 }
def QAf (σ:RS):RS:={ σ with deep:=σ.deep - 1 }
def okS (σ:RS):Bool:=decide (σ.exprs.length≤40000) && (decide (0≤σ.deep) && decide (σ.deep≤30))
def prefixL:List (List UInt8 × Int):=[([45],4),([110,111,116],5),([112,114,101],16),([115,113,114,116],21)]
def QAo (ts:List Tok) (σ:RS) (l:List (List UInt8 × Int)):Int:=match l.find? fun p=>isS ts p.1 σ with | some p=>p.2 | none=>0
def ex0:Ex:=⟨0,0,0,0,⟨#[]⟩,⟨#[]⟩,0,[],0⟩
inductive Job where
 | expr
 | pre
 | atom
 | bin (least:Nat)
 | loop (least:Nat) (a:Int)
 | args (acc:List Int)
abbrev Ans:=Option (Int × List Int × RS)
def QEl (x:Ex) (σ:RS) (K:Int→RS→Ans):Ans:=if okS σ = true then K (σ.exprs.length:Int) (QBQ x σ) else none
def QDa (ts:List Tok) (F:Job→RS→Ans) (σ:RS):Ans :=
 let t:=QA9 ts σ.at_
 let p:Int:=(t.at_:Int)
 if t.kind = 2 then QEl { ex0 with kind:=1,v:=t.v,pos:=p } (QA0 σ) fun n y=>some (n,[],y) else
 if isS ts [116,114,117,101] σ = true then QEl { ex0 with kind:=2,v:=1,pos:=p } (QA0 σ) fun n y=>some (n,[],y) else
 if isS ts [102,97,108,115,101] σ = true then QEl { ex0 with kind:=2,pos:=p } (QA0 σ) fun n y=>some (n,[],y) else
 if t.kind = 1 then
  let x:=QA0 σ
  if isS ts [105,115] x = true then QEl { ex0 with kind:=20,name:=str t.text,state:=str (QAS ts (QA0 x)),pos:=p } (QA7 ts (QA0 x)) fun n y=>some (n,[],y) else
  if isS ts [40] x = true then
   let y:=QA0 x
   if isS ts [41] y = true then QEl { ex0 with kind:=19,name:=str t.text,pos:=p } (QA0 y) fun n z=>some (n,[],z) else
   (F .expr y).bind fun r=>(F (.args [r.1]) r.2.2).bind fun q=>QEl { ex0 with kind:=19,name:=str t.text,args:=q.2.1,pos:=p } (QA3 ts [41] q.2.2) fun n z=>some (n,[],z)
  else QEl { ex0 with kind:=3,name:=str t.text,pos:=p } x fun n y=>some (n,[],y)
 else (F .expr (QA3 ts [40] σ)).bind fun r=>some (r.1,[],QA3 ts [41] r.2.2)
def QO1 (ts:List Tok) (F:Job→RS→Ans) (σ:RS):Ans :=
 let x:=QAJ ts σ
 if x.code = 0 then
  let p:Int:=((QA9 ts x.at_).at_:Int)
  let k:=QAo ts x prefixL
  if k = 0 then (F .atom x).bind fun r=>if okS r.2.2 = true then some (r.1,[],QAf r.2.2) else none
  else (F .pre (QA0 x)).bind fun r=>QEl { ex0 with kind:=k,a:=r.1,pos:=p } r.2.2 fun n y=>some (n,[],QAf y)
 else some (0,[],QAf x)
def QEz (ts:List Tok) (F:Job→RS→Ans) (σ:RS):Ans :=
 let x:=QAJ ts σ
 if x.code = 0 then
  let p:Int:=((QA9 ts x.at_).at_:Int)
  if isS ts [105,102] x = true then
   (F .expr (QA0 x)).bind fun a=>(F .expr (QA3 ts [116,104,101,110] a.2.2)).bind fun b=>(F .expr (QA3 ts [101,108,115,101] b.2.2)).bind fun c =>
    QEl { ex0 with kind:=15,a:=a.1,b:=b.1,c:=c.1,pos:=p } c.2.2 fun n y=>some (n,[],QAf y)
  else (F (.bin 1) x).bind fun o =>
   let y:=o.2.2
   let q:Int:=((QA9 ts y.at_).at_:Int)
   if isS ts [45,62] y = true then (F .expr (QA0 y)).bind fun b=>QEl { ex0 with kind:=17,a:=o.1,b:=b.1,pos:=q } b.2.2 fun n z=>some (n,[],QAf z)
   else if isS ts [102,98,121] y = true then (F .expr (QA0 y)).bind fun b=>QEl { ex0 with kind:=18,a:=o.1,b:=b.1,pos:=q } b.2.2 fun n z=>some (n,[],QAf z)
   else if okS y = true then some (o.1,[],QAf y) else none
 else some (0,[],QAf x)
def QOi (F:Job→RS→Ans) (least:Nat) (σ:RS):Ans:=if 5 < least then F .pre σ else (F (.bin (least+1)) σ).bind fun a=>F (.loop least a.1) a.2.2
def QFd (ts:List Tok) (F:Job→RS→Ans) (least:Nat) (a:Int) (σ:RS):Ans :=
 if σ.code = 0 then
  if (QB3 ts σ).1 = (least:Int) then
   (F (.bin (least+1)) (QA0 σ)).bind fun b=>QEl { ex0 with kind:=(QB3 ts σ).2,a:=a,b:=b.1,pos:=((QA9 ts σ.at_).at_:Int) } b.2.2 fun n y =>
    if least = 3 then some (n,[],y) else F (.loop least n) y
  else some (a,[],σ)
 else some (a,[],σ)
def QH4 (ts:List Tok) (F:Job→RS→Ans) (acc:List Int) (σ:RS):Ans :=
 if acc.length≤40000 then if isS ts [44] σ = true then (F .expr (QA0 σ)).bind fun r=>F (.args (acc ++ [r.1])) r.2.2 else some (0,acc,σ) else none
def QAh (ts:List Tok):Nat→Job→RS→Ans
 | 0,_,_=>none
 | f+1,j,σ=>if okS σ = true then match j with
  | .expr=>QEz ts (QAh ts f) σ
  | .pre=>QO1 ts (QAh ts f) σ
  | .atom=>QDa ts (QAh ts f) σ
  | .bin least=>QOi (QAh ts f) least σ
  | .loop least a=>QFd ts (QAh ts f) least a σ
  | .args acc=>QH4 ts (QAh ts f) acc σ else none
def EndOk (ts:List Tok):Prop:=0 < ts.length∧∀ i t,ts[i]? = some t→(i+1 = ts.length↔t.kind = 5)
theorem EndOk.next {ts:List Tok} (h:EndOk ts) {i:Nat} (hi:i < ts.length) (hk:(QA9 ts i).kind≠5):i+1 < ts.length:=by
 have h1:ts[i]? = some (QA9 ts i):=by unfold QA9;rw [List.getD_eq_getElem?_getD,List.getElem?_eq_getElem hi];rfl
 have:=(h.2 i _ h1)
 rcases Nat.lt_or_ge (i+1) ts.length with h2 | h2
 ·exact h2
 ·exact absurd (this.1 (by omega)) hk
theorem QAU {ts:List Tok} {s:List UInt8} {σ:RS} (h:isS ts s σ = true):(QA9 ts σ.at_).kind≠5∧σ.code = 0:=by
 unfold isS at h
 simp only [Bool.and_eq_true,Bool.or_eq_true,decide_eq_true_eq] at h
 refine ⟨?_,h.1⟩
 rcases h.2.1 with h1 | h1 <;> omega
end
section
open Go.RowKit Lx
def QLi (n:Int):Value:=.int .i64 n
def exC (x:Ex) (v:Value):List Value:=[.int .i64 x.kind,.int .i64 x.a,.int .i64 x.b,.int .i64 x.c,.string x.name,.string x.state,.int .i64 x.v,v,.int .i64 x.pos]
def QCt (l:List (Ex × Value)):List Value:=l.flatMap fun p=>exC p.1 p.2
theorem QHc (l:List (Ex × Value)) (p:Ex × Value):QCt (l ++ [p]) = QCt l ++ exC p.1 p.2:=by unfold QCt;rw [List.flatMap_append];simp
def ExsOwn (W:World) (b:Nat) (xb:Nat→Prop) (v:Value) (l:List Ex):Prop :=
 ∃ q:List (Ex × Value),q.map Prod.fst = l∧W.ownsRow (b+1) 54 9 v l.length (QCt q)∧∀ p∈q,W.ownsRow (b+1) 3 1 p.2 p.1.args.length (p.1.args.map QLi)∧∀ k,p.2.ownBlock = some k→¬ xb k
def NoEx (o:Obj):Prop:=∀ cs,o≠.cells cs 54 (0,0)
structure RK (b:Nat) (W Y:World):Prop where
 os:Y.os = W.os
 tape:Y.tape = W.tape
 output:Y.output = W.output
 size:W.heap.size≤Y.heap.size
 low:∀ k,k < b→Y.heap[k]? = W.heap[k]?
 keep:∀ (k:Nat) (o:Obj),W.heap[k]? = some o→k≠b→NoEx o→Y.heap[k]? = some o
theorem QBn {W:World} {k:Nat} {o:Obj} (h:W.heap[k]? = some o):k < W.heap.size:=(Array.getElem?_eq_some_iff.1 h).1
theorem RK.refl (b:Nat) (W:World):RK b W W:=⟨rfl,rfl,rfl,Nat.le_refl _,fun _ _=>rfl,fun _ _ h _ _=>h⟩
theorem RK.trans {b:Nat} {X Y Z:World} (h:RK b X Y) (k:RK b Y Z):RK b X Z :=
 ⟨k.os.trans h.os,k.tape.trans h.tape,k.output.trans h.output,Nat.le_trans h.size k.size,fun j hj=>(k.low j hj).trans (h.low j hj),fun j o hj hb hn=>k.keep j o (h.keep j o hj hb hn) hb hn⟩
theorem RK.of_below {b:Nat} {W Y:World} (h:Below W.heap.size W Y) (hb:b≤W.heap.size):RK b W Y :=
 ⟨h.os,h.tape,h.output,h.size,fun k hk=>h.block k (by omega),fun k o hk _ _=>(h.block k (QBn hk)).trans hk⟩
theorem RK.below {b B:Nat} {W Y:World} (h:RK b W Y) (hb:B≤b):Below B W Y:=⟨h.os,h.tape,h.output,h.size,fun k hk=>h.low k (by omega)⟩
theorem RK.alloc {b:Nat} {W Y:World} (h:RK b W Y) (hb:b≤W.heap.size) (o:Obj):RK b W (Y.alloc o):=h.trans (.of_below ((Below.refl _ _).alloc (Nat.le_refl _) o) (Nat.le_trans hb h.size))
theorem RK.set {b:Nat} {W:World} (i:Nat) (v:Value):RK b W (W.setCell ⟨b,i,none⟩ v):=by
 have hb:=(Below.refl b W).setCell (p:=⟨b,i,none⟩) (Nat.le_refl _) v
 exact ⟨hb.os,hb.tape,hb.output,hb.size,fun k hk=>hb.block k hk,fun k o hk hkb _=>(Below.heap_setCell W ⟨b,i,none⟩ v k hkb).trans hk⟩
structure Rd (W:World) (b g cap:Nat) (dv:Value) (ts:List Tok) (xb:Nat→Prop) (σ:RS):Prop where
 xlt:∀ k,xb k→k < W.heap.size
 blk:∃ o c,W.heap[b]? = some (.cells #[.slice (some ⟨g,0,none⟩) ts.length cap,.int .i64 (σ.at_:Int),dv,.slice o σ.exprs.length c,.int .i64 σ.deep,.int .i64 σ.code,.int .i64 σ.pos] 46 (0,0))∧ExsOwn W b xb (.slice o σ.exprs.length c) σ.exprs
 row:RowAt W g ts
 lt:g < b
 at_:σ.at_ < ts.length
 len:ts.length≤40000
 ends:EndOk ts
theorem NoEx.int {cs:Array Value}:NoEx (.cells cs 3 (0,0)):=fun cs' h=>by cases h
theorem QGf {W Y:World} {b:Nat} {v:Value} {n:Nat} {xs:List Value} {B:Nat} (h:W.ownsRow B 3 1 v n xs) (hB:b < B) (hk:RK b W Y):Y.ownsRow B 3 1 v n xs:=by
 refine ⟨h.1,?_⟩
 rcases h.2 with hn | ⟨g,cap,cur,rfl,hb,hgg,QBd⟩
 ·exact .inl hn
 ·exact .inr ⟨g,cap,cur,rfl,hb,hk.keep g _ hgg (by omega) .int,QBd⟩
theorem QAG {W Y:World} {e:TypeId} {s:Nat} {v:Value} {n:Nat} {xs:List Value} {B:Nat} (h:W.ownsRow B e s v n xs) (hk:∀ k,v.ownBlock = some k→Y.heap[k]? = W.heap[k]?):Y.ownsRow B e s v n xs:=by
 refine ⟨h.1,?_⟩
 rcases h.2 with hn | ⟨g,cap,cur,rfl,hb,hgg,QBd⟩
 ·exact .inl hn
 ·exact .inr ⟨g,cap,cur,rfl,hb,(hk g rfl).trans hgg,QBd⟩
theorem ExsOwn.same {W Y:World} {b:Nat} {xb:Nat→Prop} {v:Value} {l:List Ex} (h:ExsOwn W b xb v l) (hk:∀ k,b < k→k < W.heap.size→Y.heap[k]? = W.heap[k]?):ExsOwn Y b xb v l:=by
 obtain ⟨q,h1,h2,h3⟩:=h
 exact ⟨q,h1,QAG h2 fun k e=>hk k (by have:=(h2.lt k e).1;omega) (h2.lt k e).2,fun p hp=>⟨QAG (h3 p hp).1 fun k e=>hk k (by have:=((h3 p hp).1.lt k e).1;omega) ((h3 p hp).1.lt k e).2,(h3 p hp).2⟩⟩
theorem Rd.size {W:World} {b g cap:Nat} {dv:Value} {ts:List Tok} {xb:Nat→Prop} {σ:RS} (h:Rd W b g cap dv ts xb σ):b < W.heap.size:=by
 obtain ⟨o,c,h1,_⟩:=h.blk;exact QBn h1
theorem QDV {W Y:World} {g:Nat} {ts:List Tok} (h:RowAt W g ts) (hk:Y.heap[g]? = W.heap[g]?):RowAt Y g ts:=by
 have hlt:g < Y.heap.size:=by
  have h1:=h.1
  rcases Nat.lt_or_ge g Y.heap.size with h2 | h2
  ·exact h2
  ·rw [Array.getElem?_eq_none h2,Array.getElem?_eq_getElem h1] at hk;cases hk
 refine ⟨hlt,fun i t hi=>?_⟩
 obtain ⟨h1,h2,h3,h4⟩:=h.2 i t hi
 have hc:∀ (j:Nat),Y.cell? ⟨g,j,none⟩ = W.cell? ⟨g,j,none⟩:=fun j=>World.cell?_of_block (a:=⟨g,j,none⟩) hk
 exact ⟨(hc _).trans h1,(hc _).trans h2,(hc _).trans h3,(hc _).trans h4⟩
theorem Rd.below {W Y:World} {b g cap:Nat} {dv:Value} {ts:List Tok} {xb:Nat→Prop} {σ:RS} (h:Rd W b g cap dv ts xb σ) (hb:Below W.heap.size W Y):Rd Y b g cap dv ts xb σ:=by
 have hs:=h.size
 obtain ⟨o,c,h1,h2⟩:=h.blk
 exact ⟨fun k hk=>Nat.lt_of_lt_of_le (h.xlt k hk) hb.size,⟨o,c,(hb.block b hs).trans h1,h2.same fun k _ hk=>hb.block k hk⟩,QDV h.row (hb.block g (by have:=h.lt;omega)),h.lt,h.at_,h.len,h.ends⟩
theorem Rd.alloc {W:World} {b g cap:Nat} {dv:Value} {ts:List Tok} {xb:Nat→Prop} {σ:RS} (h:Rd W b g cap dv ts xb σ) (o:Obj):Rd (W.alloc o) b g cap dv ts xb σ:=h.below ((Below.refl _ _).alloc (Nat.le_refl _) o)
theorem QAT {W:World} {g:Nat} {cs:Array Value} {T:TypeId} {fr:Nat × Nat} (h:W.heap[g]? = some (.cells cs T fr)) (i:Nat) (v:Value):(W.setCell ⟨g,i,none⟩ v).heap[g]? = some (.cells (cs.setIfInBounds i v) T fr):=Lx.set_heap h i v
theorem Rd.setOne {W:World} {b g cap:Nat} {dv:Value} {ts:List Tok} {xb:Nat→Prop} {σ τ:RS} (h:Rd W b g cap dv ts xb σ) (i:Nat) (v:Value) (he:τ.exprs = σ.exprs) (ht:τ.at_ < ts.length)
  (hc:∀ x,(#[.slice (some ⟨g,0,none⟩) ts.length cap,.int .i64 (σ.at_:Int),dv,x,.int .i64 σ.deep,.int .i64 σ.code,.int .i64 σ.pos]:Array Value).setIfInBounds i v = #[.slice (some ⟨g,0,none⟩) ts.length cap,.int .i64 (τ.at_:Int),dv,x,.int .i64 τ.deep,.int .i64 τ.code,.int .i64 τ.pos]) :
  Rd (W.setCell ⟨b,i,none⟩ v) b g cap dv ts xb τ:=by
 obtain ⟨o,c,h1,h2⟩:=h.blk
 refine ⟨fun k hk=>Nat.lt_of_lt_of_le (h.xlt k hk) ((Below.refl b W).setCell (p:=⟨b,i,none⟩) (Nat.le_refl _) v).size,⟨o,c,?_,?_⟩,QDV h.row (Below.heap_setCell W ⟨b,i,none⟩ v g (by have:=h.lt;simp;omega)),h.lt,ht,h.len,h.ends⟩
 ·rw [he,QAT h1,hc]
 ·rw [he];exact h2.same fun k hk _=>Below.heap_setCell W ⟨b,i,none⟩ v k (by simp;omega)
theorem Rd.setAt {W:World} {b g cap:Nat} {dv:Value} {ts:List Tok} {xb:Nat→Prop} {σ:RS} (h:Rd W b g cap dv ts xb σ) (hk:(QA9 ts σ.at_).kind≠5):Rd (W.setCell ⟨b,1,none⟩ (.int .i64 ((σ.at_:Int)+1))) b g cap dv ts xb (QA0 σ) :=
 h.setOne 1 _ rfl (h.ends.next h.at_ hk) fun x=>by simp [QA0]
theorem Rd.setDeep {W:World} {b g cap:Nat} {dv:Value} {ts:List Tok} {xb:Nat→Prop} {σ:RS} (h:Rd W b g cap dv ts xb σ) (d:Int):Rd (W.setCell ⟨b,4,none⟩ (.int .i64 d)) b g cap dv ts xb { σ with deep:=d } :=
 h.setOne 4 _ rfl h.at_ fun x=>by simp
theorem Rd.setBad {W:World} {b g cap:Nat} {dv:Value} {ts:List Tok} {xb:Nat→Prop} {σ:RS} (h:Rd W b g cap dv ts xb σ) (c p:Int):Rd ((W.setCell ⟨b,5,none⟩ (.int .i64 c)).setCell ⟨b,6,none⟩ (.int .i64 p)) b g cap dv ts xb { σ with code:=c,pos:=p }:=by
 have h1:Rd (W.setCell ⟨b,5,none⟩ (.int .i64 c)) b g cap dv ts xb { σ with code:=c }:=h.setOne 5 _ rfl h.at_ fun x=>by simp
 exact h1.setOne 6 _ rfl h.at_ fun x=>by simp
structure RdCells (W:World) (b g cap:Nat) (ts:List Tok) (at_:Nat) (n:Nat) (o:Option Addr) (c:Nat) (deep code pos:Int):Prop where
 c0:W.cell? ⟨b,0,none⟩ = some (.slice (some ⟨g,0,none⟩) ts.length cap)
 c1:W.cell? ⟨b,1,none⟩ = some (.int .i64 (at_:Int))
 c3:W.cell? ⟨b,3,none⟩ = some (.slice o n c)
 c4:W.cell? ⟨b,4,none⟩ = some (.int .i64 deep)
 c5:W.cell? ⟨b,5,none⟩ = some (.int .i64 code)
 c6:W.cell? ⟨b,6,none⟩ = some (.int .i64 pos)
 fr:∀ i,W.frozen? ⟨b,i,none⟩ = false
theorem Rd.cells {W:World} {b g cap:Nat} {dv:Value} {ts:List Tok} {xb:Nat→Prop} {σ:RS} (h:Rd W b g cap dv ts xb σ):∃ o c,RdCells W b g cap ts σ.at_ σ.exprs.length o c σ.deep σ.code σ.pos∧ExsOwn W b xb (.slice o σ.exprs.length c) σ.exprs:=by
 obtain ⟨o,c,h1,h2⟩:=h.blk
 exact ⟨o,c,⟨by simp [World.cell?,h1],by simp [World.cell?,h1],by simp [World.cell?,h1],by simp [World.cell?,h1],by simp [World.cell?,h1],by simp [World.cell?,h1],fun i=>by simp [World.frozen?,h1]⟩,h2⟩
theorem Rd.tok {W:World} {b g cap:Nat} {dv:Value} {ts:List Tok} {xb:Nat→Prop} {σ:RS} (h:Rd W b g cap dv ts xb σ):QKw W g σ.at_ (QA9 ts σ.at_) :=
 h.row.2 _ _ (by unfold QA9;rw [List.getD_eq_getElem?_getD,List.getElem?_eq_getElem h.at_];rfl)
end
section
open Go.Lib (hid)
open Go.RowKit Lx
set_option maxHeartbeats 8000000
def RdRet (b g cap:Nat) (dv:Value) (ts:List Tok) (xb:Nat→Prop) (W:World) (v:Value) (σ:RS) (r:Ending) (Y:World):Prop:=r = .returned v∧Rd Y b g cap dv ts xb σ∧RK b W Y
abbrev CR (b g cap:Nat) (dv:Value) (ts:List Tok) (xb:Nat→Prop) (f:Nat) (l:Array Value) (v:Value) (σ τ:RS):Prop:=Hid (∀ W,Hid (Rd W b g cap dv ts xb σ)→Calls Tryz.prog f l W fun r Y=>RdRet b g cap dv ts xb W v τ r Y)
theorem cell_set2 {W:World} {b i j c k:Nat} {x y v:Value} (h:W.cell? ⟨c,k,none⟩ = some v) (hn:c≠b∨(k≠i∧k≠j)):((W.setCell ⟨b,i,none⟩ x).setCell ⟨b,j,none⟩ y).drew.cell? ⟨c,k,none⟩ = some v:=by
 show ((W.setCell ⟨b,i,none⟩ x).setCell ⟨b,j,none⟩ y).cell? ⟨c,k,none⟩ = some v
 rw [World.cell?_setCell_other _ _ _ _ (by intro e;injection e with e1 e2;omega),World.cell?_setCell_other _ _ _ _ (by intro e;injection e with e1 e2;omega)]
 exact h
theorem QGQ (b g cap:Nat) (dv:Value) (ts:List Tok) (xb:Nat→Prop) (σ:RS) (e:Int) (W:World) (h:Hid (Rd W b g cap dv ts xb σ)) :
  Calls Tryz.prog 14 #[.pointer (some ⟨b,0,none⟩),.int .i64 e] W fun r Y=>RdRet b g cap dv ts xb W (.tuple #[]) (QBN ts e σ) r Y:=by
 obtain ⟨o,c,⟨c0,c1,c3,c4,c5,c6,fr⟩,hx⟩:=h.out.cells
 have ht:=h.out.tok
 have hgb:g≠b:=by have:=h.out.lt;omega
 have hl:=h.out.at_
 have hn:=h.out.len
 obtain ⟨t0,t1,t2,t3⟩:=ht
 obtain ⟨n,hnn⟩:∃ n,n = ts.length:=⟨_,rfl⟩
 obtain ⟨a,haa⟩:∃ a,a = σ.at_:=⟨_,rfl⟩
 obtain ⟨cd,hcd⟩:∃ cd,cd = σ.code:=⟨_,rfl⟩
 obtain ⟨ps,hps⟩:∃ ps,ps = σ.pos:=⟨_,rfl⟩
 obtain ⟨dp,hdp⟩:∃ dp,dp = σ.deep:=⟨_,rfl⟩
 obtain ⟨kd,hkd⟩:∃ kd,kd = (QA9 ts σ.at_).kind:=⟨_,rfl⟩
 obtain ⟨tx,htx⟩:∃ tx,tx = (QA9 ts σ.at_).text:=⟨_,rfl⟩
 obtain ⟨tv,htv⟩:∃ tv,tv = (QA9 ts σ.at_).v:=⟨_,rfl⟩
 obtain ⟨p,hp⟩:∃ p,p = (QA9 ts σ.at_).at_:=⟨_,rfl⟩
 rw [← hnn] at c0 hl hn
 rw [← hkd] at t0
 rw [← htx] at t1
 rw [← htv] at t2
 rw [← hp] at t3
 rw [← haa] at c1 t0 t1 t2 t3 hl
 rw [← hcd] at c5
 rw [← hdp] at c4
 rw [← hps] at c6
 have k0:((a:Nat):Int) < (n:Int):=by omega
 have f1:=fr 1
 have f4:=fr 4
 have f5:=fr 5
 have f6:=fr 6
 have HCD:=hid hcd
 have HPS:=hid hps
 have HDP:=hid hdp
 have HKD:=hid hkd
 have HTX:=hid htx
 have HTV:=hid htv
 have HP:=hid hp
 have HAA:=hid haa
 have HNN:=hid hnn
 clear fr hx hnn haa hcd hps hdp hkd htx htv hp c3
 by_cases hz:cd = 0
 ·subst hz
  have d5:W.drew.cell? ⟨b,5,none⟩ = some (.int .i64 0):=c5
  have d6:W.drew.cell? ⟨b,6,none⟩ = some (.int .i64 ps):=c6
  have e5:W.drew.frozen? ⟨b,5,none⟩ = false:=f5
  have e6:W.drew.frozen? ⟨b,6,none⟩ = false:=f6
  go_enter Tryz.func14,Tryz.ntmps14
  go_wp2_with fail
  go_region_held3 (fun w'=>w'.cell? ⟨b,0,none⟩ = some (.slice (some ⟨g,0,none⟩) n cap)∧w'.cell? ⟨b,1,none⟩ = some (.int .i64 (a:Int))∧w'.cell? ⟨g,a*4+3,none⟩ = some (.int .i64 (p:Int)))
   ((repeat' apply And.intro) <;> first | assumption | exact cell_set2 (by assumption) (by omega) | go_keep)
   (fail)
  go_wp2_with fail
  go_end0
  have hf:QBN ts e σ = { σ with code:=e,pos:=(p:Int) }:=by unfold QBN;rw [if_pos HCD.out.symm,HP.out]
  rw [hf]
  have hb:=QAE (Below.refl W.heap.size W) 1
  exact ⟨rfl,(h.out.below hb).setBad e p,(RK.of_below hb (Nat.le_of_lt h.out.size)).trans ((RK.set 5 _).trans (RK.set 6 _))⟩
 ·have k1:(cd == 0) = false:=beq_false_of_ne hz
  go_enter Tryz.func14,Tryz.ntmps14
  go_wp2_with fail
  go_end0
  have hf:QBN ts e σ = σ:=by unfold QBN;rw [if_neg (by rw [← HCD.out];exact hz)]
  rw [hf]
  exact ⟨rfl,h.out,RK.refl _ _⟩
theorem QHM (b g cap:Nat) (dv:Value) (ts:List Tok) (xb:Nat→Prop) (σ:RS) (s:List UInt8) (W:World) (h:Hid (Rd W b g cap dv ts xb σ)) :
  Calls Tryz.prog 30 #[.pointer (some ⟨b,0,none⟩),.string (str s)] W fun r Y=>r = .returned (.bool (isS ts s σ))∧Below W.heap.size W Y:=by
 obtain ⟨o,c,⟨c0,c1,c3,c4,c5,c6,fr⟩,hx⟩:=h.out.cells
 have ht:=h.out.tok
 have hgb:g≠b:=by have:=h.out.lt;omega
 have hl:=h.out.at_
 have hn:=h.out.len
 obtain ⟨t0,t1,t2,t3⟩:=ht
 obtain ⟨n,hnn⟩:∃ n,n = ts.length:=⟨_,rfl⟩
 obtain ⟨a,haa⟩:∃ a,a = σ.at_:=⟨_,rfl⟩
 obtain ⟨cd,hcd⟩:∃ cd,cd = σ.code:=⟨_,rfl⟩
 obtain ⟨ps,hps⟩:∃ ps,ps = σ.pos:=⟨_,rfl⟩
 obtain ⟨dp,hdp⟩:∃ dp,dp = σ.deep:=⟨_,rfl⟩
 obtain ⟨kd,hkd⟩:∃ kd,kd = (QA9 ts σ.at_).kind:=⟨_,rfl⟩
 obtain ⟨tx,htx⟩:∃ tx,tx = (QA9 ts σ.at_).text:=⟨_,rfl⟩
 obtain ⟨tv,htv⟩:∃ tv,tv = (QA9 ts σ.at_).v:=⟨_,rfl⟩
 obtain ⟨p,hp⟩:∃ p,p = (QA9 ts σ.at_).at_:=⟨_,rfl⟩
 rw [← hnn] at c0 hl hn
 rw [← hkd] at t0
 rw [← htx] at t1
 rw [← htv] at t2
 rw [← hp] at t3
 rw [← haa] at c1 t0 t1 t2 t3 hl
 rw [← hcd] at c5
 rw [← hdp] at c4
 rw [← hps] at c6
 have k0:((a:Nat):Int) < (n:Int):=by omega
 have f1:=fr 1
 have f4:=fr 4
 have f5:=fr 5
 have f6:=fr 6
 have HCD:=hid hcd
 have HPS:=hid hps
 have HDP:=hid hdp
 have HKD:=hid hkd
 have HTX:=hid htx
 have HTV:=hid htv
 have HP:=hid hp
 have HAA:=hid haa
 have HNN:=hid hnn
 clear fr hx hnn haa hcd hps hdp hkd htx htv hp c3
 have hgs:g < W.heap.size:=by have:=h.out.lt;have:=h.out.size;omega
 have hbs:b < W.heap.size:=h.out.size
 obtain ⟨R,hR⟩:∃ R,R = isS ts s σ:=⟨_,rfl⟩
 rw [← hR]
 have HR:Hid (R = (decide (cd = 0) && ((decide (kd = 3) || decide (kd = 4)) && tx == s))):=hid (by rw [hR,HCD.out,HKD.out,HTX.out];rfl)
 clear hR
 have HB:=hid (((Below.refl W.heap.size W).alloc (Nat.le_refl _) (.cells #[.int .i64 (kd:Int),.string (str tx),.int .i64 tv,.int .i64 (p:Int)] 49)).drew)
 obtain ⟨b5,x0,x1⟩:(W.alloc (.cells #[.int .i64 (kd:Int),.string (str tx),.int .i64 tv,.int .i64 (p:Int)] 49)).drew.cell? ⟨b,5,none⟩ = some (.int .i64 cd) ∧
   (W.alloc (.cells #[.int .i64 (kd:Int),.string (str tx),.int .i64 tv,.int .i64 (p:Int)] 49)).drew.cell? ⟨W.heap.size,0,none⟩ = some (.int .i64 (kd:Int)) ∧
   (W.alloc (.cells #[.int .i64 (kd:Int),.string (str tx),.int .i64 tv,.int .i64 (p:Int)] 49)).drew.cell? ⟨W.heap.size,1,none⟩ = some (.string (str tx)) :=
  ⟨(HB.out.cell (p:=⟨b,5,none⟩) hbs).trans c5,by show (W.alloc _).cell? _ = _;rw [World.cell?_alloc_new];rfl,by show (W.alloc _).cell? _ = _;rw [World.cell?_alloc_new];rfl⟩
 by_cases hz:cd = 0
 ·subst hz
  by_cases h3:kd = 3
  ·subst h3
   by_cases he:tx = s
   ·have hq:((str tx).toList == (str s).toList) = true:=by rw [he];simp
    have HE:=hid he
    clear he
    go_enter Tryz.func30,Tryz.ntmps30
    go_wp2_with fail
    go_region_held3 (fun w'=>w'.cell? ⟨b,0,none⟩ = some (.slice (some ⟨g,0,none⟩) n cap)∧w'.cell? ⟨b,1,none⟩ = some (.int .i64 (a:Int))∧w'.cell? ⟨g,a*4,none⟩ = some (.int .i64 (3:Int))∧w'.cell? ⟨g,a*4+1,none⟩ = some (.string (str tx))∧w'.cell? ⟨g,a*4+2,none⟩ = some (.int .i64 tv)∧w'.cell? ⟨g,a*4+3,none⟩ = some (.int .i64 (p:Int)))
     ((repeat' apply And.intro) <;> first | assumption | go_keep)
     (fail)
    go_wp2_with fail
    go_ret
    exact ⟨by rw [HR.out];simp [HE.out],HB.out⟩
   ·have hq:((str tx).toList == (str s).toList) = false:=by rw [QD0];exact beq_false_of_ne he
    have HE:=hid he
    clear he
    go_enter Tryz.func30,Tryz.ntmps30
    go_wp2_with fail
    go_region_held3 (fun w'=>w'.cell? ⟨b,0,none⟩ = some (.slice (some ⟨g,0,none⟩) n cap)∧w'.cell? ⟨b,1,none⟩ = some (.int .i64 (a:Int))∧w'.cell? ⟨g,a*4,none⟩ = some (.int .i64 (3:Int))∧w'.cell? ⟨g,a*4+1,none⟩ = some (.string (str tx))∧w'.cell? ⟨g,a*4+2,none⟩ = some (.int .i64 tv)∧w'.cell? ⟨g,a*4+3,none⟩ = some (.int .i64 (p:Int)))
     ((repeat' apply And.intro) <;> first | assumption | go_keep)
     (fail)
    go_wp2_with fail
    go_ret
    exact ⟨by rw [HR.out];simp [HE.out],HB.out⟩
  ·have n3:((kd:Int) == 3) = false:=beq_false_of_ne (by omega)
   by_cases h4:kd = 4
   ·subst h4
    by_cases he:tx = s
    ·have hq:((str tx).toList == (str s).toList) = true:=by rw [he];simp
     have HE:=hid he
     clear he
     go_enter Tryz.func30,Tryz.ntmps30
     go_wp2_with fail
     go_region_held3 (fun w'=>w'.cell? ⟨b,0,none⟩ = some (.slice (some ⟨g,0,none⟩) n cap)∧w'.cell? ⟨b,1,none⟩ = some (.int .i64 (a:Int))∧w'.cell? ⟨g,a*4,none⟩ = some (.int .i64 (4:Int))∧w'.cell? ⟨g,a*4+1,none⟩ = some (.string (str tx))∧w'.cell? ⟨g,a*4+2,none⟩ = some (.int .i64 tv)∧w'.cell? ⟨g,a*4+3,none⟩ = some (.int .i64 (p:Int)))
      ((repeat' apply And.intro) <;> first | assumption | go_keep)
      (fail)
     go_wp2_with fail
     go_ret
     exact ⟨by rw [HR.out];simp [HE.out],HB.out⟩
    ·have hq:((str tx).toList == (str s).toList) = false:=by rw [QD0];exact beq_false_of_ne he
     have HE:=hid he
     clear he
     go_enter Tryz.func30,Tryz.ntmps30
     go_wp2_with fail
     go_region_held3 (fun w'=>w'.cell? ⟨b,0,none⟩ = some (.slice (some ⟨g,0,none⟩) n cap)∧w'.cell? ⟨b,1,none⟩ = some (.int .i64 (a:Int))∧w'.cell? ⟨g,a*4,none⟩ = some (.int .i64 (4:Int))∧w'.cell? ⟨g,a*4+1,none⟩ = some (.string (str tx))∧w'.cell? ⟨g,a*4+2,none⟩ = some (.int .i64 tv)∧w'.cell? ⟨g,a*4+3,none⟩ = some (.int .i64 (p:Int)))
      ((repeat' apply And.intro) <;> first | assumption | go_keep)
      (fail)
     go_wp2_with fail
     go_ret
     exact ⟨by rw [HR.out];simp [HE.out],HB.out⟩
   ·have n4:((kd:Int) == 4) = false:=beq_false_of_ne (by omega)
    go_enter Tryz.func30,Tryz.ntmps30
    go_wp2_with fail
    go_region_held3 (fun w'=>w'.cell? ⟨b,0,none⟩ = some (.slice (some ⟨g,0,none⟩) n cap)∧w'.cell? ⟨b,1,none⟩ = some (.int .i64 (a:Int))∧w'.cell? ⟨g,a*4,none⟩ = some (.int .i64 (kd:Int))∧w'.cell? ⟨g,a*4+1,none⟩ = some (.string (str tx))∧w'.cell? ⟨g,a*4+2,none⟩ = some (.int .i64 tv)∧w'.cell? ⟨g,a*4+3,none⟩ = some (.int .i64 (p:Int)))
     ((repeat' apply And.intro) <;> first | assumption | go_keep)
     (fail)
    go_wp2_with fail
    go_ret
    exact ⟨by rw [HR.out];simp [h3,h4],HB.out⟩
 ·have n0:(cd == 0) = false:=beq_false_of_ne hz
  go_enter Tryz.func30,Tryz.ntmps30
  go_wp2_with fail
  go_region_held3 (fun w'=>w'.cell? ⟨b,0,none⟩ = some (.slice (some ⟨g,0,none⟩) n cap)∧w'.cell? ⟨b,1,none⟩ = some (.int .i64 (a:Int))∧w'.cell? ⟨g,a*4,none⟩ = some (.int .i64 (kd:Int))∧w'.cell? ⟨g,a*4+1,none⟩ = some (.string (str tx))∧w'.cell? ⟨g,a*4+2,none⟩ = some (.int .i64 tv)∧w'.cell? ⟨g,a*4+3,none⟩ = some (.int .i64 (p:Int)))
   ((repeat' apply And.intro) <;> first | assumption | go_keep)
   (fail)
  go_wp2_with fail
  go_ret
  exact ⟨by rw [HR.out];simp [hz],HB.out⟩
def levA:Array Value:=(levelsL.map fun p=>Value.string (str p.1)).toArray
def levB:Array Value:=(levelsL.map fun p=>Value.int .i64 p.2.1).toArray
def levC:Array Value:=(levelsL.map fun p=>Value.int .i64 p.2.2).toArray
theorem QGZ {α:Type} (W:World) (l:List α) (f:α→Value) (T:TypeId) (j:Nat) (x:α) (h:l[j]? = some x):(W.alloc (.cells (l.map f).toArray T)).cell? ⟨W.heap.size,j,none⟩ = some (f x):=by
 rw [World.cell?_alloc_new,List.getElem?_toArray,List.getElem?_map,h];rfl
theorem QLx {ts:List Tok} {σ:RS} {j:Nat} {p:List UInt8 × Int × Int} (h:levelsL[j]? = some p) (hno:(levelsL.take j).all (fun q=>!isS ts q.1 σ) = true) (hp:isS ts p.1 σ = true):QB3 ts σ = p.2:=by
 have:levelsL.find? (fun q=>isS ts q.1 σ) = some p:=by
  have hl:=(List.getElem?_eq_some_iff.1 h).1
  have e:levelsL = levelsL.take j ++ p :: levelsL.drop (j+1):=by
   rw [← (List.getElem?_eq_some_iff.1 h).2];simp
  rw [e,List.find?_append,List.find?_eq_none.2 (fun x hx=>by simpa using List.all_eq_true.1 hno x hx),Option.none_or]
  simp [hp]
 unfold QB3 QF9
 rw [this]
theorem QKB {ts:List Tok} {σ:RS} (hno:levelsL.all (fun q=>!isS ts q.1 σ) = true):QB3 ts σ = (0,0):=by
 have:levelsL.find? (fun q=>isS ts q.1 σ) = none:=List.find?_eq_none.2 (fun x hx=>by simpa using List.all_eq_true.1 hno x hx)
 unfold QB3 QF9
 rw [this]
set_option maxRecDepth 100000 in
theorem QLw (b g cap:Nat) (dv:Value) (ts:List Tok) (xb:Nat→Prop) (σ:RS) (W:World) (h:Hid (Rd W b g cap dv ts xb σ)) (L K:Int) (hLK:Hid (QB3 ts σ = (L,K))) :
  Calls Tryz.prog 58 #[.pointer (some ⟨b,0,none⟩)] W fun r Y=>r = .returned (.tuple #[.int .i64 L,.int .i64 K])∧Below W.heap.size W Y:=by
 have IS:=hid (fun s W h=>QHM b g cap dv ts xb σ s W h)
 obtain ⟨W1,hW1⟩:∃ W1,W1 = ((W.alloc (.cells levA 9)).alloc (.cells levB 3)).alloc (.cells levC 3):=⟨_,rfl⟩
 have hb1:Below W.heap.size W W1:=by rw [hW1];exact (((Below.refl _ _).alloc (Nat.le_refl _) _).alloc (by simp) _).alloc (by simp;omega) _
 have hs1:W1.heap.size = W.heap.size+3:=by rw [hW1];simp
 have hcell:∀ (j:Nat) p,levelsL[j]? = some p→W1.cell? ⟨W.heap.size,j,none⟩ = some (.string (str p.1))∧W1.cell? ⟨W.heap.size+1,j,none⟩ = some (.int .i64 p.2.1)∧W1.cell? ⟨W.heap.size+1+1,j,none⟩ = some (.int .i64 p.2.2):=fun j p hp=>by
  have hA:=QGZ W levelsL (fun p=>Value.string (str p.1)) 9 j p hp
  have hB:=QGZ (W.alloc (.cells levA 9)) levelsL (fun p=>Value.int .i64 p.2.1) 3 j p hp
  have hC:=QGZ ((W.alloc (.cells levA 9)).alloc (.cells levB 3)) levelsL (fun p=>Value.int .i64 p.2.2) 3 j p hp
  rw [World.size_alloc] at hB
  rw [World.size_alloc,World.size_alloc] at hC
  refine ⟨?_,?_,?_⟩
  ·rw [hW1,World.cell?_alloc_old _ _ _ (by simp;omega),World.cell?_alloc_old _ _ _ (by simp)];exact hA
  ·rw [hW1,World.cell?_alloc_old _ _ _ (by simp)];exact hB
  ·rw [hW1];exact hC
 have HB1:=hid hb1
 have HS1:=hid hs1
 have HC:=hid hcell
 clear hb1 hs1 hcell
 go_enter Tryz.func58,Tryz.ntmps58
 go_wp2_with fail
 change Code.wp _ _ _ _ (((W.alloc (.cells levA 9)).alloc (.cells levB 3)).alloc (.cells levC 3))
 rw [← hW1]
 clear hW1
 go_loopw [7] (fun i wr=>∃ j:Nat,j≤9∧Hid ((levelsL.take j).all (fun q=>!isS ts q.1 σ) = true)∧i = .int .i64 j∧Hid (Below W1.heap.size W1 wr)) (fun i _=>9 - QA2 i)
 case atStart=>exact ⟨0,by omega,hid rfl,rfl,hid (Below.refl _ _)⟩
 case round =>
  obtain ⟨j,hj,hno,rfl,hB⟩:=hrel
  have HBW:=hid (HB1.out.trans (hB.out.mono HB1.out.size))
  rcases Nat.lt_or_ge j 9 with hlt | hge
  ·have q3:decide ((j:Int) < 9) = true:=decide_eq_true (by omega)
   obtain ⟨p,hp⟩:∃ p,levelsL[j]? = some p:=⟨levelsL[j]'(by show j < 9;exact hlt),List.getElem?_eq_getElem _⟩
   obtain ⟨a1,a2,a3⟩:=HC.out j p hp
   have up:∀ {x i v},x < W.heap.size+3→W1.cell? ⟨x,i,none⟩ = some v→wr.cell? ⟨x,i,none⟩ = some v:=fun {x i v} hx hh=>(hB.out.cell (p:=⟨x,i,none⟩) (by have:=HS1.out;show x < _;omega)).trans hh
   have c1:=up (by omega) a1
   have c2:=up (by omega) a2
   have c3:=up (by omega) a3
   have hsw:Hid (W.heap.size+3≤wr.heap.size):=hid (by have:=hB.out.size;have:=HS1.out;omega)
   obtain ⟨s,L1,K1⟩:=p
   dsimp only at c1 c2 c3
   have HP:=hid hp
   clear a1 a2 a3 up hp
   have hr:=hid (h.out.below HBW.out)
   have jr:(j:Int) < 9:=by omega
   cases hR:isS ts s σ with
   | true =>
    have C:Hid (Calls Tryz.prog 30 #[.pointer (some ⟨b,0,none⟩),.string (str s)] wr fun r Y=>r = .returned (.bool true)∧Below wr.heap.size wr Y∧Y.cell? ⟨W.heap.size+1,j,none⟩ = some (.int .i64 L1)∧Y.cell? ⟨W.heap.size+1+1,j,none⟩ = some (.int .i64 K1)):=hid ((IS.out s wr hr).mono fun r Y ⟨e1,e2⟩=>by
     rw [hR] at e1
     exact ⟨e1,e2,(e2.cell (p:=⟨W.heap.size+1,j,none⟩) (by have:=hsw.out;show W.heap.size+1 < _;omega)).trans c2,(e2.cell (p:=⟨W.heap.size+1+1,j,none⟩) (by have:=hsw.out;show W.heap.size+1+1 < _;omega)).trans c3⟩)
    have hv:=QLx HP.out hno.out hR
    have HV:Hid (L = L1∧K = K1):=hid (by rw [hLK.out] at hv;cases hv;exact ⟨rfl,rfl⟩)
    clear hR hv
    go_wp2_with (go_at_call 30;(with_reducible refine C.out.mono ?_);rintro e w1 ⟨rfl,hb,y2,y3⟩;have HB:=hid hb;clear hb)
    go_quiet (fail)
    go_wp2_with fail
    go_ret2
    obtain ⟨rfl,rfl⟩:=HV.out
    exact ⟨rfl,QAE (HBW.out.trans (HB.out.mono HBW.out.size)) _⟩
   | false =>
    have C:Hid (Calls Tryz.prog 30 #[.pointer (some ⟨b,0,none⟩),.string (str s)] wr fun r Y=>r = .returned (.bool false)∧Below wr.heap.size wr Y):=hid ((IS.out s wr hr).mono fun r Y ⟨e1,e2⟩=>by
     rw [hR] at e1;exact ⟨e1,e2⟩)
    have HN:=hid (QCb (fun q:List UInt8 × Int × Int=>!isS ts q.1 σ) HP.out hno.out (by show (!isS ts s σ) = true;rw [hR];rfl))
    clear hR
    go_wp2_with (go_at_call 30;(with_reducible refine C.out.mono ?_);rintro e w1 ⟨rfl,hb⟩;have HB:=hid hb;clear hb)
    exact ⟨⟨j+1,by omega,HN,rfl,hid (hB.out.trans (HB.out.mono hB.out.size))⟩,by simp [QA2];omega⟩
  ·have q3:decide ((j:Int) < 9) = false:=decide_eq_false (by omega)
   have HV:Hid (L = 0∧K = 0):=hid (by
    have hv:=QKB (ts:=ts) (σ:=σ) (by have:=hno.out;rwa [List.take_of_length_le (show levelsL.length≤j by show 9≤j;omega)] at this)
    rw [hLK.out] at hv;cases hv;exact ⟨rfl,rfl⟩)
   go_wp2_with fail
   go_ret2
   obtain ⟨rfl,rfl⟩:=HV.out
   exact ⟨rfl,HBW.out⟩
def IsRet (b a:Nat) (R:Bool) (W:World) (r:Ending) (Y:World):Prop:=r = .returned (.bool R)∧Below W.heap.size W Y∧Y.cell? ⟨b,1,none⟩ = some (.int .i64 (a:Int))∧Y.frozen? ⟨b,1,none⟩ = false
theorem QGs (b g cap:Nat) (dv:Value) (ts:List Tok) (xb:Nat→Prop) (σ:RS) (s:List UInt8) (W:World) (h:Hid (Rd W b g cap dv ts xb σ)) :
  Calls Tryz.prog 26 #[.pointer (some ⟨b,0,none⟩),.string (str s)] W fun r Y=>RdRet b g cap dv ts xb W (.bool (isS ts s σ)) (QEF ts s σ) r Y:=by
 have hI:=QHM b g cap dv ts xb σ s W h
 obtain ⟨o,c,⟨c0,c1,c3,c4,c5,c6,fr⟩,hx⟩:=h.out.cells
 have ht:=h.out.tok
 have hgb:g≠b:=by have:=h.out.lt;omega
 have hl:=h.out.at_
 have hn:=h.out.len
 obtain ⟨t0,t1,t2,t3⟩:=ht
 obtain ⟨n,hnn⟩:∃ n,n = ts.length:=⟨_,rfl⟩
 obtain ⟨a,haa⟩:∃ a,a = σ.at_:=⟨_,rfl⟩
 obtain ⟨cd,hcd⟩:∃ cd,cd = σ.code:=⟨_,rfl⟩
 obtain ⟨ps,hps⟩:∃ ps,ps = σ.pos:=⟨_,rfl⟩
 obtain ⟨dp,hdp⟩:∃ dp,dp = σ.deep:=⟨_,rfl⟩
 obtain ⟨kd,hkd⟩:∃ kd,kd = (QA9 ts σ.at_).kind:=⟨_,rfl⟩
 obtain ⟨tx,htx⟩:∃ tx,tx = (QA9 ts σ.at_).text:=⟨_,rfl⟩
 obtain ⟨tv,htv⟩:∃ tv,tv = (QA9 ts σ.at_).v:=⟨_,rfl⟩
 obtain ⟨p,hp⟩:∃ p,p = (QA9 ts σ.at_).at_:=⟨_,rfl⟩
 rw [← hnn] at c0 hl hn
 rw [← hkd] at t0
 rw [← htx] at t1
 rw [← htv] at t2
 rw [← hp] at t3
 rw [← haa] at c1 t0 t1 t2 t3 hl
 rw [← hcd] at c5
 rw [← hdp] at c4
 rw [← hps] at c6
 have k0:((a:Nat):Int) < (n:Int):=by omega
 have f1:=fr 1
 have f4:=fr 4
 have f5:=fr 5
 have f6:=fr 6
 have HCD:=hid hcd
 have HPS:=hid hps
 have HDP:=hid hdp
 have HKD:=hid hkd
 have HTX:=hid htx
 have HTV:=hid htv
 have HP:=hid hp
 have HAA:=hid haa
 have HNN:=hid hnn
 clear fr hx hnn haa hcd hps hdp hkd htx htv hp c3
 have ha:(a:Int)≤40000:=by omega
 have hbs:b < W.heap.size:=h.out.size
 have C:Hid (Calls Tryz.prog 30 #[.pointer (some ⟨b,0,none⟩),.string (str s)] W (IsRet b a (isS ts s σ) W)):=hid (hI.mono fun r Y hY=>⟨hY.1,hY.2,(hY.2.cell (p:=⟨b,1,none⟩) hbs).trans c1,(hY.2.frozen (p:=⟨b,1,none⟩) hbs).trans f1⟩)
 clear hI
 cases hR:isS ts s σ with
 | true =>
  rw [hR] at C
  have hk:=(QAU hR).1
  have HT:=hid (show QEF ts s σ = QA0 σ by unfold QEF;rw [if_pos hR])
  clear hR
  go_enter Tryz.func26,Tryz.ntmps26
  go_wp2_with (go_at_call 30;(with_reducible refine C.out.mono ?_);rintro e w1 ⟨rfl,hb,y1,y2⟩;have HB:=hid hb;clear hb)
  go_ret
  have h1:=h.out.below HB.out
  rw [HT.out]
  have h2:=h1.setAt hk
  rw [← HAA.out] at h2
  exact ⟨rfl,h2,(RK.of_below HB.out (Nat.le_of_lt hbs)).trans (RK.set 1 _)⟩
 | false =>
  rw [hR] at C
  have HT:=hid (show QEF ts s σ = σ by unfold QEF;rw [hR];rfl)
  clear hR
  go_enter Tryz.func26,Tryz.ntmps26
  go_wp2_with (go_at_call 30;(with_reducible refine C.out.mono ?_);rintro e w1 ⟨rfl,hb,y1,y2⟩;have HB:=hid hb;clear hb)
  go_ret
  rw [HT.out]
  exact ⟨rfl,h.out.below HB.out,RK.of_below HB.out (Nat.le_of_lt hbs)⟩
theorem QAF (b g cap:Nat) (dv:Value) (ts:List Tok) (xb:Nat→Prop) (σ:RS) (s:List UInt8) (W:World) (h:Hid (Rd W b g cap dv ts xb σ)) :
  Calls Tryz.prog 27 #[.pointer (some ⟨b,0,none⟩),.string (str s)] W fun r Y=>RdRet b g cap dv ts xb W (.tuple #[]) (QA3 ts s σ) r Y:=by
 have C:=hid (QGs b g cap dv ts xb σ s W h)
 cases hR:isS ts s σ with
 | true =>
  rw [hR] at C
  have HT:=hid (show QA3 ts s σ = QEF ts s σ by unfold QEF QA3;rw [if_pos hR,if_pos hR])
  clear hR
  go_enter Tryz.func27,Tryz.ntmps27
  go_wp2_with (go_at_call 26;(with_reducible refine C.out.mono ?_);rintro e w1 ⟨rfl,hr,hk⟩;have HR:=hid hr;have HK:=hid hk;clear hr hk)
  go_end0
  rw [HT.out]
  exact ⟨rfl,HR.out,HK.out⟩
 | false =>
  rw [hR] at C
  have HT:=hid (show QEF ts s σ = σ by unfold QEF;rw [hR];rfl)
  have HU:=hid (show QA3 ts s σ = QBN ts 2 σ by unfold QA3;rw [hR];rfl)
  rw [HT.out] at C
  clear hR
  go_enter Tryz.func27,Tryz.ntmps27
  go_wp2_with (first | (go_at_call 26;(with_reducible refine C.out.mono ?_);rintro e w1 ⟨rfl,hr,hk⟩;have HR:=hid hr;have HK:=hid hk;clear hr hk) | (go_at_call 14;(with_reducible refine (QGQ b g cap dv ts xb σ 2 w1 HR).mono ?_);rintro e w2 ⟨rfl,hr,hk⟩;have HR2:=hid hr;have HK2:=hid hk;clear hr hk))
  go_end0
  rw [HU.out]
  exact ⟨rfl,HR2.out,HK.out.trans HK2.out⟩
theorem QAk (b g cap:Nat) (dv:Value) (ts:List Tok) (xb:Nat→Prop) (σ:RS) (W:World) (h:Hid (Rd W b g cap dv ts xb σ)) :
  Calls Tryz.prog 31 #[.pointer (some ⟨b,0,none⟩)] W fun r Y=>RdRet b g cap dv ts xb W (.string (str (QAS ts σ))) (QA7 ts σ) r Y:=by
 have F:=hid (fun W h=>QGQ b g cap dv ts xb σ 2 W h)
 obtain ⟨o,c,⟨c0,c1,c3,c4,c5,c6,fr⟩,hx⟩:=h.out.cells
 have ht:=h.out.tok
 have hgb:g≠b:=by have:=h.out.lt;omega
 have hl:=h.out.at_
 have hn:=h.out.len
 obtain ⟨t0,t1,t2,t3⟩:=ht
 obtain ⟨n,hnn⟩:∃ n,n = ts.length:=⟨_,rfl⟩
 obtain ⟨a,haa⟩:∃ a,a = σ.at_:=⟨_,rfl⟩
 obtain ⟨cd,hcd⟩:∃ cd,cd = σ.code:=⟨_,rfl⟩
 obtain ⟨ps,hps⟩:∃ ps,ps = σ.pos:=⟨_,rfl⟩
 obtain ⟨dp,hdp⟩:∃ dp,dp = σ.deep:=⟨_,rfl⟩
 obtain ⟨kd,hkd⟩:∃ kd,kd = (QA9 ts σ.at_).kind:=⟨_,rfl⟩
 obtain ⟨tx,htx⟩:∃ tx,tx = (QA9 ts σ.at_).text:=⟨_,rfl⟩
 obtain ⟨tv,htv⟩:∃ tv,tv = (QA9 ts σ.at_).v:=⟨_,rfl⟩
 obtain ⟨p,hp⟩:∃ p,p = (QA9 ts σ.at_).at_:=⟨_,rfl⟩
 rw [← hnn] at c0 hl hn
 rw [← hkd] at t0
 rw [← htx] at t1
 rw [← htv] at t2
 rw [← hp] at t3
 rw [← haa] at c1 t0 t1 t2 t3 hl
 rw [← hcd] at c5
 rw [← hdp] at c4
 rw [← hps] at c6
 have k0:((a:Nat):Int) < (n:Int):=by omega
 have f1:=fr 1
 have f4:=fr 4
 have f5:=fr 5
 have f6:=fr 6
 have HCD:=hid hcd
 have HPS:=hid hps
 have HDP:=hid hdp
 have HKD:=hid hkd
 have HTX:=hid htx
 have HTV:=hid htv
 have HP:=hid hp
 have HAA:=hid haa
 have HNN:=hid hnn
 clear fr hx hnn haa hcd hps hdp hkd htx htv hp c3
 have ha:(a:Int)≤40000:=by omega
 have hbs:b < W.heap.size:=h.out.size
 by_cases hz:cd = 0
 ·subst hz
  by_cases h1:kd = 1
  ·subst h1
   have q1:((1:Int) != 1) = false:=by decide
   have HN:=hid (show QEW ts σ = true by unfold QEW;rw [← HCD.out,← HKD.out];rfl)
   have HT:=hid (show QA7 ts σ = QA0 σ by unfold QA7;rw [if_pos HN.out])
   have HV:=hid (show QAS ts σ = tx by unfold QAS;rw [if_pos HN.out,HTX.out])
   go_enter Tryz.func31,Tryz.ntmps31
   go_wp2_with fail
   go_quiet (fail)
   go_wp2_with fail
   have v0:((W.drewN nq).setCell ⟨b,1,none⟩ (.int .i64 ((a:Int)+1))).cell? ⟨b,0,none⟩ = some (.slice (some ⟨g,0,none⟩) n cap):=by rw [World.cell?_setCell_other _ _ _ _ (by simp)];exact c0
   have v1:((W.drewN nq).setCell ⟨b,1,none⟩ (.int .i64 ((a:Int)+1))).cell? ⟨b,1,none⟩ = some (.int .i64 ((a:Int)+1)):=World.cell?_setCell_same (W.drewN nq) ⟨b,1,none⟩ _ c1
   have v2:((W.drewN nq).setCell ⟨b,1,none⟩ (.int .i64 ((a:Int)+1))).cell? ⟨g,a*4+1,none⟩ = some (.string (str tx)):=by rw [World.cell?_setCell_other _ _ _ _ (by intro e;injection e with e1;exact hgb e1.symm)];exact t1
   have wz:IntKind.i64.wrap ((a:Int)+1 - 1) = (a:Int):=by rw [IntKind.wrap_i64];omega
   have HD:=hid (QAE (Below.refl W.heap.size W) nq)
   have H1:Hid (Rd ((W.drewN nq).setCell ⟨b,1,none⟩ (.int .i64 ((a:Int)+1))) b g cap dv ts xb (QA0 σ)):=hid (by rw [HAA.out];exact (h.out.below HD.out).setAt (by rw [← HKD.out];decide))
   have K1:Hid (RK b W ((W.drewN nq).setCell ⟨b,1,none⟩ (.int .i64 ((a:Int)+1)))):=hid ((RK.of_below HD.out (Nat.le_of_lt hbs)).trans (RK.set 1 _))
   go_quiet (fail)
   go_wp2_with fail
   go_ret
   rw [HT.out,HV.out]
   exact ⟨rfl,H1.out.below (QAE (Below.refl _ _) _),K1.out.trans (RK.of_below (QAE (Below.refl _ _) _) (Nat.le_trans (Nat.le_of_lt hbs) K1.out.size))⟩
  ·have n1:((kd:Int) != 1) = true:=by rw [bne_iff_ne];omega
   have HN:=hid (show QEW ts σ = false by unfold QEW;rw [← HKD.out,decide_eq_false h1,Bool.and_false])
   have HT:=hid (show QA7 ts σ = QBN ts 2 σ by unfold QA7;rw [HN.out];rfl)
   have HV:=hid (show QAS ts σ = [] by unfold QAS;rw [HN.out];rfl)
   go_enter Tryz.func31,Tryz.ntmps31
   go_wp2_with fail
   go_quiet (fail)
   have HD:=hid (QAE (Below.refl W.heap.size W) nq)
   have FF:=hid (F.out (W.drewN nq) (hid (h.out.below HD.out)))
   go_wp2_with (go_at_call 14;(with_reducible refine FF.out.mono ?_);rintro e w1 ⟨rfl,hr,hk⟩;have HR:=hid hr;have HK:=hid hk;clear hr hk)
   go_ret
   rw [HT.out,HV.out]
   exact ⟨rfl,HR.out,(RK.of_below HD.out (Nat.le_of_lt hbs)).trans HK.out⟩
 ·have n0:(cd != 0) = true:=by rw [bne_iff_ne];exact hz
  have HN:=hid (show QEW ts σ = false by unfold QEW;rw [← HCD.out,decide_eq_false hz];rfl)
  have HT:=hid (show QA7 ts σ = QBN ts 2 σ by unfold QA7;rw [HN.out];rfl)
  have HV:=hid (show QAS ts σ = [] by unfold QAS;rw [HN.out];rfl)
  go_enter Tryz.func31,Tryz.ntmps31
  go_wp2_with fail
  go_quiet (fail)
  have HD:=hid (QAE (Below.refl W.heap.size W) nq)
  have FF:=hid (F.out (W.drewN nq) (hid (h.out.below HD.out)))
  go_wp2_with (go_at_call 14;(with_reducible refine FF.out.mono ?_);rintro e w1 ⟨rfl,hr,hk⟩;have HR:=hid hr;have HK:=hid hk;clear hr hk)
  go_ret
  rw [HT.out,HV.out]
  exact ⟨rfl,HR.out,(RK.of_below HD.out (Nat.le_of_lt hbs)).trans HK.out⟩
theorem QBh (b g cap:Nat) (dv:Value) (ts:List Tok) (xb:Nat→Prop) (σ:RS) (W:World) (h:Hid (Rd W b g cap dv ts xb σ)) (d0:0≤σ.deep) (d1:σ.deep≤30) :
  Calls Tryz.prog 25 #[.pointer (some ⟨b,0,none⟩)] W fun r Y=>RdRet b g cap dv ts xb W (.bool (decide ((QAJ ts σ).code = 0))) (QAJ ts σ) r Y:=by
 have F:=hid (fun W h=>QGQ b g cap dv ts xb σ 3 W h)
 obtain ⟨o,c,⟨c0,c1,c3,c4,c5,c6,fr⟩,hx⟩:=h.out.cells
 have ht:=h.out.tok
 have hgb:g≠b:=by have:=h.out.lt;omega
 have hl:=h.out.at_
 have hn:=h.out.len
 obtain ⟨t0,t1,t2,t3⟩:=ht
 obtain ⟨n,hnn⟩:∃ n,n = ts.length:=⟨_,rfl⟩
 obtain ⟨a,haa⟩:∃ a,a = σ.at_:=⟨_,rfl⟩
 obtain ⟨cd,hcd⟩:∃ cd,cd = σ.code:=⟨_,rfl⟩
 obtain ⟨ps,hps⟩:∃ ps,ps = σ.pos:=⟨_,rfl⟩
 obtain ⟨dp,hdp⟩:∃ dp,dp = σ.deep:=⟨_,rfl⟩
 obtain ⟨kd,hkd⟩:∃ kd,kd = (QA9 ts σ.at_).kind:=⟨_,rfl⟩
 obtain ⟨tx,htx⟩:∃ tx,tx = (QA9 ts σ.at_).text:=⟨_,rfl⟩
 obtain ⟨tv,htv⟩:∃ tv,tv = (QA9 ts σ.at_).v:=⟨_,rfl⟩
 obtain ⟨p,hp⟩:∃ p,p = (QA9 ts σ.at_).at_:=⟨_,rfl⟩
 rw [← hnn] at c0 hl hn
 rw [← hkd] at t0
 rw [← htx] at t1
 rw [← htv] at t2
 rw [← hp] at t3
 rw [← haa] at c1 t0 t1 t2 t3 hl
 rw [← hcd] at c5
 rw [← hdp] at c4
 rw [← hps] at c6
 have k0:((a:Nat):Int) < (n:Int):=by omega
 have f1:=fr 1
 have f4:=fr 4
 have f5:=fr 5
 have f6:=fr 6
 have HCD:=hid hcd
 have HPS:=hid hps
 have HDP:=hid hdp
 have HKD:=hid hkd
 have HTX:=hid htx
 have HTV:=hid htv
 have HP:=hid hp
 have HAA:=hid haa
 have HNN:=hid hnn
 clear fr hx hnn haa hcd hps hdp hkd htx htv hp c3
 have dd0:0≤dp:=by rw [HDP.out];exact d0
 have dd1:dp≤30:=by rw [HDP.out];exact d1
 clear d0 d1
 have hbs:b < W.heap.size:=h.out.size
 by_cases hz:cd = 0
 ·subst hz
  by_cases h30:dp = 30
  ·subst h30
   have HT:=hid (show QAJ ts σ = { QBN ts 3 σ with deep:=31 } by
    have e:QCM σ = true:=by unfold QCM;rw [← HCD.out,← HDP.out];rfl
    have e2:(QBN ts 3 σ).deep = 30:=by unfold QBN;split <;> exact HDP.out.symm
    unfold QAJ;rw [e];show { QBN ts 3 σ with deep:=(QBN ts 3 σ).deep+1 } = _;rw [e2];rfl)
   have HC:=hid (show (QBN ts 3 σ).deep = 30∧(QBN ts 3 σ).code = 3 by unfold QBN;rw [if_pos HCD.out.symm];exact ⟨HDP.out.symm,rfl⟩)
   have F1:Hid (Calls Tryz.prog 14 #[.pointer (some ⟨b,0,none⟩),.int .i64 3] W fun r Y=>r = .returned (.tuple #[])∧Y.cell? ⟨b,4,none⟩ = some (.int .i64 30)∧Y.cell? ⟨b,5,none⟩ = some (.int .i64 3)∧Y.frozen? ⟨b,4,none⟩ = false∧Hid (Rd Y b g cap dv ts xb (QBN ts 3 σ))∧Hid (RK b W Y)):=hid ((F.out W h).mono fun r Y ⟨h1,h2,h3⟩=>by
    obtain ⟨o,c,hc,_⟩:=h2.cells
    exact ⟨h1,hc.c4.trans (by rw [HC.out.1]),hc.c5.trans (by rw [HC.out.2]),hc.fr 4,hid h2,hid h3⟩)
   go_enter Tryz.func25,Tryz.ntmps25
   go_wp2_with (go_at_call 14;(with_reducible refine F1.out.mono ?_);rintro e w1 ⟨rfl,y4,y5,z4,HR,HK⟩)
   go_ret
   rw [HT.out]
   exact ⟨by show Ending.returned (Value.bool false) = Ending.returned (.bool (decide ((QBN ts 3 σ).code = 0)));rw [HC.out.2];rfl,HR.out.setDeep 31,HK.out.trans (RK.set 4 _)⟩
  ·have q1:(dp == 30) = false:=beq_false_of_ne h30
   have HT:=hid (show QAJ ts σ = { σ with deep:=dp+1 } by
    have e:QCM σ = false:=by unfold QCM;rw [← HDP.out,decide_eq_false h30,Bool.and_false]
    unfold QAJ;rw [e];show { σ with deep:=σ.deep+1 } = _;rw [← HDP.out])
   go_enter Tryz.func25,Tryz.ntmps25
   go_wp2_with fail
   go_ret
   rw [HT.out]
   exact ⟨by show _ = Ending.returned (.bool (decide (σ.code = 0)));rw [← HCD.out];rfl,h.out.setDeep (dp+1),RK.set 4 _⟩
 ·have q1:(cd == 0) = false:=beq_false_of_ne hz
  have HT:=hid (show QAJ ts σ = { σ with deep:=dp+1 } by
    have e:QCM σ = false:=by unfold QCM;rw [← HCD.out,decide_eq_false hz,Bool.false_and]
    unfold QAJ;rw [e];show { σ with deep:=σ.deep+1 } = _;rw [← HDP.out])
  go_enter Tryz.func25,Tryz.ntmps25
  go_wp2_with fail
  go_ret
  rw [HT.out]
  exact ⟨by show Ending.returned (Value.bool false) = Ending.returned (.bool (decide (σ.code = 0)));rw [← HCD.out,decide_eq_false hz],h.out.setDeep (dp+1),RK.set 4 _⟩
theorem ex_info:(Tryz.prog.info? 54).map (fun i=>(i.zero,i.size,i.bytes)) = some (some (.agg #[.int .i64 0,.int .i64 0,.int .i64 0,.int .i64 0,.string ⟨#[]⟩,.string ⟨#[]⟩,.int .i64 0,.slice none 0 0,.int .i64 0]),9,104):=by kernel_rfl
theorem QOL {ops:Array Oper} {o:Oper} {a:Act} {K:Act→World→Prop} {Q:Exit→Act→World→Prop} {E:Prop} (w:World) (hgd:o.guard = none) (s x:Operand)
  (ho:o.op = .call { callee:=.builtin .append,args:=#[s,x],argTypes:=#[24,24] })
  (B:Nat) (v:Value) (n:Nat) (xs:List Value) (hs:a.eval s = v) (hown:w.ownsRow B 54 9 v n xs) (ad:Addr) (news:List Value) (hx:a.eval x = .slice (some ad) 1 1) (hn:news.length = 1*9)
  (hc:∀ j u,news[j]? = some u→w.cell? (ad.add j) = some u) (h1c:∀ u∈news,u.oneCell' = true) (hk:n≤100000) (hB:B≤w.heap.size)
  (h:∀ g cap w',w'.ownsRow B 54 9 (.slice (some ⟨g,0,none⟩) (n+1) cap) (n+1) (xs ++ news)→w.grownBy w' v.ownBlock→K (a.put o.dst (.slice (some ⟨g,0,none⟩) (n+1) cap)) w'):if Region.wanted o (yielded ops a.tmps) = true then Oper.wp Tryz.prog o a w K Q else E:=by
 rw [if_pos (by simp [Region.wanted,hgd])]
 obtain ⟨i,h2,h3,h4,h5⟩:=info_parts ex_info
 refine wp_append_own w s x 24 ho B 54 i _ 9 104 Tryz.underlying24 h2 h3 h4 h5 rfl (by decide) v n xs hs hown ad 1 1 news hx hn hc h1c (by unfold maxLen;omega) (by omega) hB fun v' w' r1 r2 _=>?_
 obtain ⟨g,cap,rfl⟩:=ownsRow_succ r1
 exact h g cap w' r1 r2
def rdV (x:Ex) (v:Value):Value:=.agg #[.int .i64 x.kind,.int .i64 x.a,.int .i64 x.b,.int .i64 x.c,.string x.name,.string x.state,.int .i64 x.v,v,.int .i64 x.pos]
theorem QKI (W:World) (x0 x1 x2 x3 x4 x5 x6 x7 x8:Value) (T:TypeId) (j:Nat) (u:Value) (h : [x0,x1,x2,x3,x4,x5,x6,x7,x8][j]? = some u):(W.alloc (.cells #[x0,x1,x2,x3,x4,x5,x6,x7,x8] T)).cell? ((⟨W.heap.size,0,none⟩:Addr).add j) = some u:=by
 have e:(⟨W.heap.size,0,none⟩:Addr).add j = ⟨W.heap.size,j,none⟩:=by unfold Addr.add;split <;> simp_all
 rw [e,World.cell?_alloc_new,← h,← Array.getElem?_toList]
theorem RK.grown {b:Nat} {W Y:World} {v:Value} {n:Nat} {xs:List Value} (h:W.ownsRow (b+1) 54 9 v n xs) (hg:W.grownBy Y v.ownBlock) (hb:b≤W.heap.size):RK b W Y :=
 ⟨hg.os,hg.tape,hg.output,hg.size,fun k hk=>hg.block k (by omega) (fun e=>by have:=(h.lt k e.symm).1;omega),fun k o hk hkb hno=>(hg.block k (QBn hk) (fun e=>by
  rcases h.2 with ⟨rfl,_⟩ | ⟨g,cap,cur,rfl,_,hgb,_⟩
  ·simp [Value.ownBlock] at e
  ·obtain rfl:k = g:=by simpa [Value.ownBlock] using e
   rw [hk] at hgb
   injection hgb with hgb
   exact hno cur hgb)).trans hk⟩
theorem put_end {b g cap:Nat} {dv:Value} {ts:List Tok} {xb:Nat→Prop} {σ:RS} {x:Ex} {ov oe:Option Addr} {nv cv ce:Nat} {W w0 w1:World} {q:List (Ex × Value)} (h:Rd W b g cap dv ts xb σ) (hv:W.ownsRow (b+1) 3 1 (.slice ov nv cv) x.args.length (x.args.map QLi)) (hvx:∀ k,(Value.slice ov nv cv).ownBlock = some k→¬ xb k)
  (hq:q.map Prod.fst = σ.exprs∧∀ p∈q,W.ownsRow (b+1) 3 1 p.2 p.1.args.length (p.1.args.map QLi)∧∀ k,p.2.ownBlock = some k→¬ xb k) (hb:Below W.heap.size W w0) (ho:w0.ownsRow (b+1) 54 9 (.slice oe σ.exprs.length ce) σ.exprs.length (QCt q))
  (hg:w0.grownBy w1 (Value.slice oe σ.exprs.length ce).ownBlock) (gg cc:Nat) (ho1:w1.ownsRow (b+1) 54 9 (.slice (some ⟨gg,0,none⟩) (σ.exprs.length+1) cc) (σ.exprs.length+1) (QCt q ++ exC x (.slice ov nv cv))) :
  Rd (w1.setCell ⟨b,3,none⟩ (.slice (some ⟨gg,0,none⟩) (σ.exprs.length+1) cc)) b g cap dv ts xb (QBQ x σ)∧RK b W (w1.setCell ⟨b,3,none⟩ (.slice (some ⟨gg,0,none⟩) (σ.exprs.length+1) cc)):=by
 have hbs:=h.size
 have hs0:=hb.size
 have k1:RK b W w1:=(RK.of_below hb (Nat.le_of_lt hbs)).trans (.grown ho hg (by omega))
 have k2:RK b W (w1.setCell ⟨b,3,none⟩ (.slice (some ⟨gg,0,none⟩) (σ.exprs.length+1) cc)):=k1.trans (RK.set 3 _)
 refine ⟨?_,k2⟩
 obtain ⟨o,c,h1,h2⟩:=h.blk
 have fb:w1.heap[b]? = W.heap[b]?:=(hg.block b (by omega) (fun e=>by have:=(ho.lt b e.symm).1;omega)).trans (hb.block b hbs)
 rw [← fb] at h1
 have hlen:(QBQ x σ).exprs.length = σ.exprs.length+1:=by simp [QBQ]
 refine ⟨fun k hk=>Nat.lt_of_lt_of_le (h.xlt k hk) k2.size,⟨some ⟨gg,0,none⟩,cc,?_,q ++ [(x,.slice ov nv cv)],?_,?_,?_⟩,QDV h.row (k2.low g h.lt),h.lt,h.at_,h.len,h.ends⟩
 ·rw [QAT h1,hlen];simp [QBQ]
 ·simp [QBQ,hq.1]
 ·rw [hlen,QHc]
  exact QAG ho1 fun k e=>Below.heap_setCell w1 ⟨b,3,none⟩ _ k (by have:=(ho1.lt k e).1;simp;omega)
 ·intro p hp
  rcases List.mem_append.1 hp with hp | hp
  ·exact ⟨QGf (hq.2 p hp).1 (Nat.lt_succ_self _) k2,(hq.2 p hp).2⟩
  ·obtain rfl:=List.mem_singleton.1 hp
   exact ⟨QGf hv (Nat.lt_succ_self _) k2,hvx⟩
set_option maxRecDepth 100000 in
theorem QCK (b g cap:Nat) (dv:Value) (ts:List Tok) (xb:Nat→Prop) (σ:RS) (x:Ex) (ov:Option Addr) (nv cv:Nat) (W:World) (h:Hid (Rd W b g cap dv ts xb σ)) (hl:σ.exprs.length≤40000)
  (hv:Hid (W.ownsRow (b+1) 3 1 (.slice ov nv cv) x.args.length (x.args.map QLi))) (hvx:Hid (∀ k,(Value.slice ov nv cv).ownBlock = some k→¬ xb k)) :
  Calls Tryz.prog 28 #[.pointer (some ⟨b,0,none⟩),rdV x (.slice ov nv cv)] W fun r Y=>RdRet b g cap dv ts xb W (.int .i64 (σ.exprs.length:Int)) (QBQ x σ) r Y:=by
 obtain ⟨oe,ce,⟨c0,c1,c3,c4,c5,c6,fr⟩,hx⟩:=h.out.cells
 obtain ⟨q,hq1,hq2,hq3⟩:=hx
 have hbs:b < W.heap.size:=h.out.size
 obtain ⟨n,hn⟩:∃ n,n = σ.exprs.length:=⟨_,rfl⟩
 rw [← hn] at c3 hl hq2
 rw [← hn]
 have f3:=fr 3
 have HQ2:=hid hq2
 have HN:=hid hn
 have HQ:=hid (show q.map Prod.fst = σ.exprs∧∀ p∈q,W.ownsRow (b+1) 3 1 p.2 p.1.args.length (p.1.args.map QLi)∧∀ k,p.2.ownBlock = some k→¬ xb k from ⟨hq1,hq3⟩)
 clear hq1 hq2 hq3 hn c0 c1 c4 c5 c6 fr
 obtain ⟨k,xa,xb,xc,nm,st,vv,ar,ps⟩:=x
 unfold rdV
 dsimp only
 obtain ⟨W2,hW2⟩:∃ W2,W2 = W.alloc (.cells #[.int .i64 k,.int .i64 xa,.int .i64 xb,.int .i64 xc,.string nm,.string st,.int .i64 vv,.slice ov nv cv,.int .i64 ps] 54):=⟨_,rfl⟩
 have hb2:Below W.heap.size W W2:=by rw [hW2];exact (Below.refl _ _).alloc (Nat.le_refl _) _
 have s2:W2.heap.size = W.heap.size+1:=by rw [hW2];simp
 have x9:∀ j u,[Value.int .i64 k,.int .i64 xa,.int .i64 xb,.int .i64 xc,.string nm,.string st,.int .i64 vv,.slice ov nv cv,.int .i64 ps][j]? = some u→W2.cell? ⟨W.heap.size,j,none⟩ = some u:=fun j u hu=>by
  rw [hW2,World.cell?_alloc_new];simpa using hu
 have x0:=x9 0 _ rfl
 have x1:=x9 1 _ rfl
 have x2:=x9 2 _ rfl
 have x3:=x9 3 _ rfl
 have x4:=x9 4 _ rfl
 have x5:=x9 5 _ rfl
 have x6:=x9 6 _ rfl
 have x7:=x9 7 _ rfl
 have x8:=x9 8 _ rfl
 have e3:W2.cell? ⟨b,3,none⟩ = some (.slice oe n ce):=(hb2.cell (p:=⟨b,3,none⟩) hbs).trans c3
 have g3:W2.frozen? ⟨b,3,none⟩ = false:=(hb2.frozen (p:=⟨b,3,none⟩) hbs).trans f3
 have bs2:b < W2.heap.size:=by omega
 have OW:=hid (show W2.ownsRow (b+1) 54 9 (.slice oe n ce) n (QCt q) from QAG HQ2.out fun k hk=>hb2.block k (HQ2.out.lt k hk).2)
 have HB2:=hid hb2
 have S2:=hid s2
 have HBA:=hid ((hb2.alloc hb2.size (.cells #[.int .i64 k,.int .i64 xa,.int .i64 xb,.int .i64 xc,.string nm,.string st,.int .i64 vv,.slice ov nv cv,.int .i64 ps] 54)).drew)
 go_enter Tryz.func28,Tryz.ntmps28
 go_wp2_with fail
 rw [← hW2]
 clear hW2 hb2 s2 x9 c3 f3
 go_region_law (refine QOL _ (by rfl) (.tmp 10) (.tmp 12) (by rfl) (b+1) (.slice oe n ce) n (QCt q) (by rfl) (by exact OW.out.alloc _) ⟨W2.heap.size,0,none⟩ [.int .i64 k,.int .i64 xa,.int .i64 xb,.int .i64 xc,.string nm,.string st,.int .i64 vv,.slice ov nv cv,.int .i64 ps] (by rfl) (by rfl) (by exact QKI W2 _ _ _ _ _ _ _ _ _ _) (by simp [Value.oneCell']) (by omega) (by simp;omega) ?_;intro gg cc w1 ho1 hg1;have z3:w1.cell? ⟨b,3,none⟩ = some (.slice oe n ce):=hg1.cell (by exact (World.cell?_alloc_old _ _ _ (Nat.ne_of_lt bs2)).trans e3) (fun e=>by have:=(OW.out.lt b e.symm).1;omega);have fb:=hg1.block b (by simp;omega) (fun e=>by have:=(OW.out.lt b e.symm).1;omega);have z4:w1.frozen? ⟨b,3,none⟩ = false:=(World.frozen?_of_block (a:=⟨b,3,none⟩) fb).trans (by exact (World.frozen?_alloc_old _ _ _ (Nat.ne_of_lt bs2)).trans g3))
 all_goals (
  go_wp2_with fail
  go_ret
  rw [HN.out] at ho1 hg1 OW
  obtain ⟨r1,r2⟩:=put_end (x:=⟨k,xa,xb,xc,nm,st,vv,ar,ps⟩) h.out hv.out hvx.out HQ.out (HBA.out) (OW.out.alloc _) hg1 gg cc ho1
  exact ⟨rfl,by rw [HN.out];exact r1,by rw [HN.out];exact r2⟩)
structure FC (b g cap:Nat) (dv:Value) (ts:List Tok) (xb:Nat→Prop) (f:Nat):Prop where
 expr:∀ σ v l τ,QAh ts f .expr σ = some (v,l,τ)→∀ W,Hid (Rd W b g cap dv ts xb σ)→Calls Tryz.prog 12 #[.pointer (some ⟨b,0,none⟩)] W fun r Y=>RdRet b g cap dv ts xb W (.int .i64 v) τ r Y
 pre:∀ σ v l τ,QAh ts f .pre σ = some (v,l,τ)→∀ W,Hid (Rd W b g cap dv ts xb σ)→Calls Tryz.prog 57 #[.pointer (some ⟨b,0,none⟩)] W fun r Y=>RdRet b g cap dv ts xb W (.int .i64 v) τ r Y
 atom:∀ σ v l τ,σ.code = 0→QAh ts f .atom σ = some (v,l,τ)→∀ W,Hid (Rd W b g cap dv ts xb σ)→Calls Tryz.prog 87 #[.pointer (some ⟨b,0,none⟩)] W fun r Y=>RdRet b g cap dv ts xb W (.int .i64 v) τ r Y
 bin:∀ (least:Nat),1≤least→least≤6→∀ σ v l τ,QAh ts f (.bin least) σ = some (v,l,τ)→∀ W,Hid (Rd W b g cap dv ts xb σ)→Calls Tryz.prog 29 #[.pointer (some ⟨b,0,none⟩),.int .i64 (least:Int)] W fun r Y=>RdRet b g cap dv ts xb W (.int .i64 v) τ r Y
theorem QAm {σ:RS}:okS σ = true↔σ.exprs.length≤40000∧0≤σ.deep∧σ.deep≤30:=by unfold okS;simp
theorem QKA {ts:List Tok} {σ:RS} {n:Nat} (hn:1≤n) (h:(QB3 ts σ).1 = (n:Int)):(QA9 ts σ.at_).kind≠5:=by
 unfold QB3 QF9 at h
 cases hf:levelsL.find? fun p=>isS ts p.1 σ with
 | none=>rw [hf] at h;simp at h;omega
 | some p=>exact (QAU (by simpa using List.find?_some hf)).1
def QJS (k a b:Int) (p:Nat):Ex:={ ex0 with kind:=k,a:=a,b:=b,pos:=(p:Int) }
theorem QKE {ts:List Tok} {n least:Nat} {a:Int} {σ:RS} {R:Int × List Int × RS} (h:QAh ts n (.loop least a) σ = some R) :
  ∃ m,n = m+1∧((σ.code≠0∧R = (a,[],σ))∨(σ.code = 0∧(QB3 ts σ).1≠(least:Int)∧R = (a,[],σ)) ∨
   (σ.code = 0∧(QB3 ts σ).1 = (least:Int)∧∃ bv lb τ,QAh ts m (.bin (least+1)) (QA0 σ) = some (bv,lb,τ)∧okS τ = true ∧
    ((least = 3∧R = ((τ.exprs.length:Int),[],QBQ (QJS (QB3 ts σ).2 a bv (QA9 ts σ.at_).at_) τ))∨(least≠3∧QAh ts m (.loop least (τ.exprs.length:Int)) (QBQ (QJS (QB3 ts σ).2 a bv (QA9 ts σ.at_).at_) τ) = some R)))):=by
 cases n with
 | zero=>cases h
 | succ m =>
  refine ⟨m,rfl,?_⟩
  simp only [QAh] at h
  split at h
  ·unfold QFd at h
   split at h
   ·rename_i h0
    split at h
    ·rename_i hl
     refine .inr (.inr ⟨h0,hl,?_⟩)
     cases hb:QAh ts m (.bin (least+1)) (QA0 σ) with
     | none=>rw [hb] at h;cases h
     | some q =>
      obtain ⟨bv,lb,τ⟩:=q
      rw [hb] at h
      simp only [Option.bind_some] at h
      unfold QEl at h
      split at h
      ·rename_i hok
       refine ⟨bv,lb,τ,rfl,hok,?_⟩
       split at h
       ·rename_i h3
        exact .inl ⟨h3,(Option.some.inj h).symm⟩
       ·rename_i h3
        exact .inr ⟨h3,h⟩
      ·cases h
    ·rename_i hl
     exact .inr (.inl ⟨h0,hl,(Option.some.inj h).symm⟩)
   ·rename_i h0
    exact .inl ⟨h0,(Option.some.inj h).symm⟩
  ·cases h
theorem QD4 {α:Type} (P:Nat→α→Prop):∃ m:α→Nat,∀ x,(∃ n,P n x)→P (m x) x∧∀ k,P k x→m x≤k:=by
 have key:∀ x,∃ n,(∃ n,P n x)→P n x∧∀ k,P k x→n≤k:=fun x=>by
  by_cases h:∃ n,P n x
  ·obtain ⟨n,hn⟩:=h
   induction n using Nat.strongRecOn with
   | ind n ih =>
    by_cases h2:∃ k,k < n∧P k x
    ·obtain ⟨k,hk,hp⟩:=h2
     exact ih k hk hp
    ·exact ⟨n,fun _=>⟨hn,fun k hk=>Nat.le_of_not_lt fun hlt=>h2 ⟨k,hlt,hk⟩⟩⟩
  ·exact ⟨0,fun h2=>absurd h2 h⟩
 exact ⟨fun x=>(key x).choose,fun x=>(key x).choose_spec⟩
theorem QGh (b g cap:Nat) (dv:Value) (ts:List Tok) (xb:Nat→Prop) (τ:RS) (k x y:Int) (p:Nat) (W:World) (h:Hid (Rd W b g cap dv ts xb τ)) (hok:okS τ = true) :
  Calls Tryz.prog 28 #[.pointer (some ⟨b,0,none⟩),.agg #[.int .i64 k,.int .i64 x,.int .i64 y,.int .i64 0,.string ⟨#[]⟩,.string ⟨#[]⟩,.int .i64 0,.slice none 0 0,.int .i64 (p:Int)]] W fun r Y=>RdRet b g cap dv ts xb W (.int .i64 (τ.exprs.length:Int)) (QBQ (QJS k x y p) τ) r Y :=
 QCK b g cap dv ts xb τ (QJS k x y p) none 0 0 W h (QAm.1 hok).1 (hid (World.ownsRow_nil _ _ _ _)) (hid fun k hk=>by cases hk)
end
section
open Go.RowKit Lx
theorem QJs {ts:List Tok} {f:Nat} {σ:RS} {R:Int × List Int × RS} (h:QAh ts (f+1) .expr σ = some R):okS σ = true ∧
  (((QAJ ts σ).code≠0∧R = (0,[],QAf (QAJ ts σ))) ∨
  ((QAJ ts σ).code = 0∧isS ts [105,102] (QAJ ts σ) = true∧∃ a la s2 b lb s3 c lc s4,QAh ts f .expr (QA0 (QAJ ts σ)) = some (a,la,s2)∧QAh ts f .expr (QA3 ts [116,104,101,110] s2) = some (b,lb,s3) ∧
   QAh ts f .expr (QA3 ts [101,108,115,101] s3) = some (c,lc,s4)∧okS s4 = true∧R = ((s4.exprs.length:Int),[],QAf (QBQ { ex0 with kind:=15,a:=a,b:=b,c:=c,pos:=((QA9 ts (QAJ ts σ).at_).at_:Int) } s4))) ∨
  ((QAJ ts σ).code = 0∧isS ts [105,102] (QAJ ts σ) = false∧∃ o lo y,QAh ts f (.bin 1) (QAJ ts σ) = some (o,lo,y) ∧
   ((isS ts [45,62] y = true∧∃ bv lb z,QAh ts f .expr (QA0 y) = some (bv,lb,z)∧okS z = true∧R = ((z.exprs.length:Int),[],QAf (QBQ (QJS 17 o bv (QA9 ts y.at_).at_) z))) ∨
   (isS ts [45,62] y = false∧isS ts [102,98,121] y = true∧∃ bv lb z,QAh ts f .expr (QA0 y) = some (bv,lb,z)∧okS z = true∧R = ((z.exprs.length:Int),[],QAf (QBQ (QJS 18 o bv (QA9 ts y.at_).at_) z))) ∨
   (isS ts [45,62] y = false∧isS ts [102,98,121] y = false∧okS y = true∧R = (o,[],QAf y))))):=by
 simp only [QAh] at h
 split at h
 ·rename_i hok
  refine ⟨hok,?_⟩
  unfold QEz at h
  dsimp only at h
  split at h
  ·rename_i hc
   split at h
   ·rename_i hi
    cases h1:QAh ts f .expr (QA0 (QAJ ts σ)) with
    | none=>rw [h1] at h;cases h
    | some q1 =>
     rw [h1] at h
     simp only [Option.bind_some] at h
     cases h2:QAh ts f .expr (QA3 ts [116,104,101,110] q1.2.2) with
     | none=>rw [h2] at h;cases h
     | some q2 =>
      rw [h2] at h
      simp only [Option.bind_some] at h
      cases h3:QAh ts f .expr (QA3 ts [101,108,115,101] q2.2.2) with
      | none=>rw [h3] at h;cases h
      | some q3 =>
       rw [h3] at h
       simp only [Option.bind_some] at h
       unfold QEl at h
       split at h
       ·rename_i hk
        exact .inr (.inl ⟨hc,hi,q1.1,q1.2.1,q1.2.2,q2.1,q2.2.1,q2.2.2,q3.1,q3.2.1,q3.2.2,rfl,h2,h3,hk,(Option.some.inj h).symm⟩)
       ·cases h
   ·rename_i hi
    cases h1:QAh ts f (.bin 1) (QAJ ts σ) with
    | none=>rw [h1] at h;cases h
    | some q1 =>
     rw [h1] at h
     simp only [Option.bind_some] at h
     refine .inr (.inr ⟨hc,by simpa using hi,q1.1,q1.2.1,q1.2.2,rfl,?_⟩)
     split at h
     ·rename_i ha
      cases h2:QAh ts f .expr (QA0 q1.2.2) with
      | none=>rw [h2] at h;cases h
      | some q2 =>
       rw [h2] at h
       simp only [Option.bind_some] at h
       unfold QEl at h
       split at h
       ·rename_i hk
        exact .inl ⟨ha,q2.1,q2.2.1,q2.2.2,rfl,hk,(Option.some.inj h).symm⟩
       ·cases h
     ·rename_i ha
      split at h
      ·rename_i hb
       cases h2:QAh ts f .expr (QA0 q1.2.2) with
       | none=>rw [h2] at h;cases h
       | some q2 =>
        rw [h2] at h
        simp only [Option.bind_some] at h
        unfold QEl at h
        split at h
        ·rename_i hk
         exact .inr (.inl ⟨by simpa using ha,hb,q2.1,q2.2.1,q2.2.2,rfl,hk,(Option.some.inj h).symm⟩)
        ·cases h
      ·rename_i hb
       split at h
       ·rename_i hk
        exact .inr (.inr ⟨by simpa using ha,by simpa using hb,hk,(Option.some.inj h).symm⟩)
       ·cases h
  ·rename_i hc
   exact .inl ⟨hc,(Option.some.inj h).symm⟩
 ·cases h
theorem QMJ {ts:List Tok} {f:Nat} {σ:RS} {R:Int × List Int × RS} (h:QAh ts (f+1) .pre σ = some R):okS σ = true ∧
  (((QAJ ts σ).code≠0∧R = (0,[],QAf (QAJ ts σ))) ∨
  ((QAJ ts σ).code = 0∧QAo ts (QAJ ts σ) prefixL = 0∧∃ v l y,QAh ts f .atom (QAJ ts σ) = some (v,l,y)∧okS y = true∧R = (v,[],QAf y)) ∨
  ((QAJ ts σ).code = 0∧QAo ts (QAJ ts σ) prefixL≠0∧∃ v l y,QAh ts f .pre (QA0 (QAJ ts σ)) = some (v,l,y)∧okS y = true ∧
   R = ((y.exprs.length:Int),[],QAf (QBQ { ex0 with kind:=QAo ts (QAJ ts σ) prefixL,a:=v,pos:=((QA9 ts (QAJ ts σ).at_).at_:Int) } y)))):=by
 simp only [QAh] at h
 split at h
 ·rename_i hok
  refine ⟨hok,?_⟩
  unfold QO1 at h
  dsimp only at h
  split at h
  ·rename_i hc
   split at h
   ·rename_i hi
    cases h1:QAh ts f .atom (QAJ ts σ) with
    | none=>rw [h1] at h;cases h
    | some q1 =>
     rw [h1] at h
     simp only [Option.bind_some] at h
     split at h
     ·rename_i hk
      exact .inr (.inl ⟨hc,hi,q1.1,q1.2.1,q1.2.2,rfl,hk,(Option.some.inj h).symm⟩)
     ·cases h
   ·rename_i hi
    cases h1:QAh ts f .pre (QA0 (QAJ ts σ)) with
    | none=>rw [h1] at h;cases h
    | some q1 =>
     rw [h1] at h
     simp only [Option.bind_some] at h
     unfold QEl at h
     split at h
     ·rename_i hk
      exact .inr (.inr ⟨hc,hi,q1.1,q1.2.1,q1.2.2,rfl,hk,(Option.some.inj h).symm⟩)
     ·cases h
  ·rename_i hc
   exact .inl ⟨hc,(Option.some.inj h).symm⟩
 ·cases h
end
section
open Go.Lib (hid)
open Go.RowKit Lx
set_option maxHeartbeats 8000000
def QDZ (b g cap:Nat) (dv:Value) (ts:List Tok) (xb:Nat→Prop) (W:World) (v:Value) (σ:RS) (d:Int) (r:Ending) (Y:World):Prop :=
 r = .returned v∧Y.cell? ⟨b,4,none⟩ = some (.int .i64 d)∧Y.frozen? ⟨b,4,none⟩ = false∧Hid (Rd Y b g cap dv ts xb σ)∧Hid (RK b W Y)
theorem RdRet.deep {b g cap:Nat} {dv:Value} {ts:List Tok} {xb:Nat→Prop} {W:World} {v:Value} {σ:RS} {d:Int} {r:Ending} {Y:World} (h:RdRet b g cap dv ts xb W v σ r Y) (hd:σ.deep = d):QDZ b g cap dv ts xb W v σ d r Y:=by
 obtain ⟨o,c,hc,_⟩:=h.2.1.cells
 exact ⟨h.1,hc.c4.trans (by rw [hd]),hc.fr 4,hid h.2.1,hid h.2.2⟩
theorem QLR (ts:List Tok) (e:Int) (σ:RS):(QBN ts e σ).deep = σ.deep:=by unfold QBN;split <;> rfl
theorem QFt (ts:List Tok) (σ:RS):(QAJ ts σ).deep = σ.deep+1:=by
 unfold QAJ
 dsimp only
 split
 ·rw [QLR]
 ·rfl
theorem QAN {b g cap:Nat} {dv:Value} {ts:List Tok} {xb:Nat→Prop} {σ:RS} (s:List UInt8) (hs:isS ts s σ = true) (W:World) (h:Hid (Rd W b g cap dv ts xb σ)) :
  Calls Tryz.prog 26 #[.pointer (some ⟨b,0,none⟩),.string (str s)] W fun r Y=>RdRet b g cap dv ts xb W (.bool true) (QA0 σ) r Y:=by
 have:=QGs b g cap dv ts xb σ s W h
 have e:QEF ts s σ = QA0 σ:=by unfold QEF;rw [if_pos hs]
 rwa [hs,e] at this
theorem QA8 {b g cap:Nat} {dv:Value} {ts:List Tok} {xb:Nat→Prop} {σ:RS} (s:List UInt8) (hs:isS ts s σ = false) (W:World) (h:Hid (Rd W b g cap dv ts xb σ)) :
  Calls Tryz.prog 26 #[.pointer (some ⟨b,0,none⟩),.string (str s)] W fun r Y=>RdRet b g cap dv ts xb W (.bool false) σ r Y:=by
 have:=QGs b g cap dv ts xb σ s W h
 have e:QEF ts s σ = σ:=by unfold QEF;rw [hs];rfl
 rwa [hs,e] at this
set_option maxRecDepth 100000 in
theorem QNI (b g cap:Nat) (dv:Value) (ts:List Tok) (xb:Nat→Prop) (σ:RS) (hok:okS σ = true) (hc:Hid ((QAJ ts σ).code≠0)) (W:World) (h:Hid (Rd W b g cap dv ts xb σ)) :
  Calls Tryz.prog 12 #[.pointer (some ⟨b,0,none⟩)] W fun r Y=>RdRet b g cap dv ts xb W (.int .i64 0) (QAf (QAJ ts σ)) r Y:=by
 obtain ⟨_,d0,d1⟩:=QAm.1 hok
 have hd:=QFt ts σ
 obtain ⟨d,hdd⟩:∃ d,d = (QAJ ts σ).deep:=⟨_,rfl⟩
 have dd0:0≤d:=by omega
 have dd1:d≤31:=by omega
 have EN:Hid (Calls Tryz.prog 25 #[.pointer (some ⟨b,0,none⟩)] W fun r Y=>QDZ b g cap dv ts xb W (.bool false) (QAJ ts σ) d r Y):=hid ((QBh b g cap dv ts xb σ W h d0 d1).mono fun r Y hr=>by
  rw [decide_eq_false hc.out] at hr
  exact hr.deep hdd.symm)
 have HD:=hid hdd
 clear hd hdd hok d0 d1
 go_enter Tryz.func12,Tryz.ntmps12
 go_wp2_with (go_at_call 25;(with_reducible refine EN.out.mono ?_);rintro e w1 ⟨rfl,z4,z5,HR,HK⟩)
 go_ret
 rw [HD.out]
 exact ⟨rfl,HR.out.setDeep _,HK.out.trans (RK.set 4 _)⟩
set_option maxRecDepth 100000 in
theorem expr_if (b g cap:Nat) (dv:Value) (ts:List Tok) (xb:Nat→Prop) (f:Nat) (IH:Hid (FC b g cap dv ts xb f)) (σ x:RS) (hx:Hid (x = QAJ ts σ)) (hok:okS σ = true) (hc:Hid (x.code = 0)) (hi:Hid (isS ts [105,102] x = true)) (va vb vc:Int) (la lb lc:List Int) (s2 s3 s4:RS)
  (r1:Hid (QAh ts f .expr (QA0 x) = some (va,la,s2))) (r2:Hid (QAh ts f .expr (QA3 ts [116,104,101,110] s2) = some (vb,lb,s3))) (r3:Hid (QAh ts f .expr (QA3 ts [101,108,115,101] s3) = some (vc,lc,s4))) (ok4:okS s4 = true) (W:World) (h:Hid (Rd W b g cap dv ts xb σ)) :
  Calls Tryz.prog 12 #[.pointer (some ⟨b,0,none⟩)] W fun r Y=>RdRet b g cap dv ts xb W (.int .i64 (s4.exprs.length:Int)) (QAf (QBQ { ex0 with kind:=15,a:=va,b:=vb,c:=vc,pos:=((QA9 ts x.at_).at_:Int) } s4)) r Y:=by
 obtain ⟨_,d0,d1⟩:=QAm.1 hok
 obtain ⟨k4,e0,e1⟩:=QAm.1 ok4
 have EN:Hid (Calls Tryz.prog 25 #[.pointer (some ⟨b,0,none⟩)] W fun r Y=>RdRet b g cap dv ts xb W (.bool true) x r Y):=hid ((QBh b g cap dv ts xb σ W h d0 d1).mono fun r Y hr=>by
  rwa [← hx.out,decide_eq_true hc.out] at hr)
 have TK:CR b g cap dv ts xb 26 #[.pointer (some ⟨b,0,none⟩),.string ⟨#[105,102]⟩] (.bool true) x (QA0 x):=hid fun W h=>QAN [105,102] hi.out W h
 have E1:=hid (IH.out.expr _ _ _ _ r1.out)
 have E2:=hid (IH.out.expr _ _ _ _ r2.out)
 have E3:=hid (IH.out.expr _ _ _ _ r3.out)
 have W1:CR b g cap dv ts xb 27 #[.pointer (some ⟨b,0,none⟩),.string ⟨#[116,104,101,110]⟩] (.tuple #[]) s2 (QA3 ts [116,104,101,110] s2):=hid fun W h=>QAF b g cap dv ts xb s2 [116,104,101,110] W h
 have W2:CR b g cap dv ts xb 27 #[.pointer (some ⟨b,0,none⟩),.string ⟨#[101,108,115,101]⟩] (.tuple #[]) s3 (QA3 ts [101,108,115,101] s3):=hid fun W h=>QAF b g cap dv ts xb s3 [101,108,115,101] W h
 obtain ⟨d,hdd⟩:∃ d,d = s4.deep:=⟨_,rfl⟩
 rw [← hdd] at e0 e1
 have PU:Hid (∀ (p:Nat) W,Hid (Rd W b g cap dv ts xb s4)→Calls Tryz.prog 28 #[.pointer (some ⟨b,0,none⟩),.agg #[.int .i64 15,.int .i64 va,.int .i64 vb,.int .i64 vc,.string ⟨#[]⟩,.string ⟨#[]⟩,.int .i64 0,.slice none 0 0,.int .i64 (p:Int)]] W fun r Y=>QDZ b g cap dv ts xb W (.int .i64 (s4.exprs.length:Int)) (QBQ { ex0 with kind:=15,a:=va,b:=vb,c:=vc,pos:=(p:Int) } s4) d r Y) :=
  hid fun p W h=>(QCK b g cap dv ts xb s4 { ex0 with kind:=15,a:=va,b:=vb,c:=vc,pos:=(p:Int) } none 0 0 W h k4 (hid (World.ownsRow_nil _ _ _ _)) (hid fun k hk=>by cases hk)).mono fun r Y hr=>hr.deep hdd.symm
 have HD:=hid hdd
 clear hdd hok ok4 d0 d1 k4
 go_enter Tryz.func12,Tryz.ntmps12
 go_wp2_with (go_at_call 25;(with_reducible refine EN.out.mono ?_);rintro e w1 ⟨rfl,hr,hk⟩;have HR:=hid hr;have HK:=hid hk;clear hr hk)
 obtain ⟨o,c,⟨c0,c1,c3,c4,c5,c6,fr⟩,hx⟩:=HR.out.cells
 have ht:=HR.out.tok
 have hgb:g≠b:=by have:=HR.out.lt;omega
 have hl:=HR.out.at_
 have hn:=HR.out.len
 obtain ⟨t0,t1,t2,t3⟩:=ht
 obtain ⟨n,hnn⟩:∃ n,n = ts.length:=⟨_,rfl⟩
 obtain ⟨a,haa⟩:∃ a,a = x.at_:=⟨_,rfl⟩
 obtain ⟨cd,hcd⟩:∃ cd,cd = x.code:=⟨_,rfl⟩
 obtain ⟨ps,hps⟩:∃ ps,ps = x.pos:=⟨_,rfl⟩
 obtain ⟨dp,hdp⟩:∃ dp,dp = x.deep:=⟨_,rfl⟩
 obtain ⟨kd,hkd⟩:∃ kd,kd = (QA9 ts x.at_).kind:=⟨_,rfl⟩
 obtain ⟨tx,htx⟩:∃ tx,tx = (QA9 ts x.at_).text:=⟨_,rfl⟩
 obtain ⟨tv,htv⟩:∃ tv,tv = (QA9 ts x.at_).v:=⟨_,rfl⟩
 obtain ⟨p,hp⟩:∃ p,p = (QA9 ts x.at_).at_:=⟨_,rfl⟩
 rw [← hnn] at c0 hl hn
 rw [← hkd] at t0
 rw [← htx] at t1
 rw [← htv] at t2
 rw [← hp] at t3
 rw [← haa] at c1 t0 t1 t2 t3 hl
 rw [← hcd] at c5
 rw [← hdp] at c4
 rw [← hps] at c6
 have k0:((a:Nat):Int) < (n:Int):=by omega
 have f1:=fr 1
 have f4:=fr 4
 have f5:=fr 5
 have f6:=fr 6
 have HCD:=hid hcd
 have HPS:=hid hps
 have HDP:=hid hdp
 have HKD:=hid hkd
 have HTX:=hid htx
 have HTV:=hid htv
 have HP:=hid hp
 have HAA:=hid haa
 have HNN:=hid hnn
 clear fr hx hnn haa hcd hps hdp hkd htx htv hp c3
 go_quiet (fail)
 have HX:Hid (Rd (w1.drewN nq) b g cap dv ts xb x):=hid (HR.out.below (QAE (Below.refl _ _) _))
 have HXK:Hid (RK b W (w1.drewN nq)):=hid (HK.out.trans (RK.of_below (QAE (Below.refl _ _) _) (Nat.le_of_lt HR.out.size)))
 go_wp2_with (first
  | (go_at_call 26;(with_reducible refine (TK.out _ HX).mono ?_);rintro e w2 ⟨rfl,hr,hk⟩;have HR2:=hid hr;have HK2:=hid hk;clear hr hk)
  | (go_at_call 12;(with_reducible refine (E1.out w2 HR2).mono ?_);rintro e w3 ⟨rfl,hr,hk⟩;have HR3:=hid hr;have HK3:=hid hk;clear hr hk)
  | (go_at_call 27;(with_reducible refine (W1.out w3 HR3).mono ?_);rintro e w4 ⟨rfl,hr,hk⟩;have HR4:=hid hr;have HK4:=hid hk;clear hr hk)
  | (go_at_call 12;(with_reducible refine (E2.out w4 HR4).mono ?_);rintro e w5 ⟨rfl,hr,hk⟩;have HR5:=hid hr;have HK5:=hid hk;clear hr hk)
  | (go_at_call 27;(with_reducible refine (W2.out w5 HR5).mono ?_);rintro e w6 ⟨rfl,hr,hk⟩;have HR6:=hid hr;have HK6:=hid hk;clear hr hk)
  | (go_at_call 12;(with_reducible refine (E3.out w6 HR6).mono ?_);rintro e w7 ⟨rfl,hr,hk⟩;have HR7:=hid hr;have HK7:=hid hk;clear hr hk)
  | (go_at_call 28;(with_reducible refine (PU.out p w7 HR7).mono ?_);rintro e w8 ⟨rfl,z4,z5,HR8,HK8⟩))
 go_ret
 rw [← HP.out,HD.out]
 exact ⟨rfl,HR8.out.setDeep _,HXK.out.trans (HK2.out.trans (HK3.out.trans (HK4.out.trans (HK5.out.trans (HK6.out.trans (HK7.out.trans (HK8.out.trans (RK.set 4 _))))))))⟩
theorem QCm {ts:List Tok} {s s' : List UInt8} {σ:RS} (h:isS ts s σ = true) (hn:s≠s'):isS ts s' σ = false:=by
 unfold isS at h ⊢
 simp only [Bool.and_eq_true,beq_iff_eq] at h
 rw [h.2.2]
 have:(s == s') = false:=beq_false_of_ne hn
 rw [this,Bool.and_false,Bool.and_false]
set_option maxRecDepth 100000 in
theorem QH9 (b g cap:Nat) (dv:Value) (ts:List Tok) (xb:Nat→Prop) (f:Nat) (IH:Hid (FC b g cap dv ts xb f)) (σ x:RS) (hx:Hid (x = QAJ ts σ)) (hok:okS σ = true) (hc:Hid (x.code = 0)) (hi:Hid (isS ts [105,102] x = false)) (vo:Int) (lo:List Int) (y:RS)
  (r1:Hid (QAh ts f (.bin 1) x = some (vo,lo,y))) (ha:Hid (isS ts [45,62] y = true)) (vb:Int) (lb:List Int) (z:RS) (r2:Hid (QAh ts f .expr (QA0 y) = some (vb,lb,z))) (okz:okS z = true) (W:World) (h:Hid (Rd W b g cap dv ts xb σ)) :
  Calls Tryz.prog 12 #[.pointer (some ⟨b,0,none⟩)] W fun r Y=>RdRet b g cap dv ts xb W (.int .i64 (z.exprs.length:Int)) (QAf (QBQ (QJS 17 vo vb (QA9 ts y.at_).at_) z)) r Y:=by
 obtain ⟨k4,e0,e1⟩:=QAm.1 okz
 obtain ⟨_,d0,d1⟩:=QAm.1 hok
 have EN:Hid (Calls Tryz.prog 25 #[.pointer (some ⟨b,0,none⟩)] W fun r Y=>RdRet b g cap dv ts xb W (.bool true) x r Y):=hid ((QBh b g cap dv ts xb σ W h d0 d1).mono fun r Y hr=>by
  rwa [← hx.out,decide_eq_true hc.out] at hr)
 have TK:CR b g cap dv ts xb 26 #[.pointer (some ⟨b,0,none⟩),.string ⟨#[105,102]⟩] (.bool false) x x:=hid fun W h=>QA8 [105,102] hi.out W h
 have E1:CR b g cap dv ts xb 29 #[.pointer (some ⟨b,0,none⟩),.int .i64 1] (.int .i64 vo) x y:=hid fun W h=>IH.out.bin 1 (by omega) (by omega) x vo lo y r1.out W h
 have IS:Hid (∀ W,Hid (Rd W b g cap dv ts xb y)→Calls Tryz.prog 30 #[.pointer (some ⟨b,0,none⟩),.string ⟨#[102,98,121]⟩] W fun r Y=>r = .returned (.bool false)∧Below W.heap.size W Y):=hid fun W h=>by
  have:=QHM b g cap dv ts xb y [102,98,121] W h
  rwa [show isS ts [102,98,121] y = false from QCm ha.out (by decide)] at this
 have TA:CR b g cap dv ts xb 26 #[.pointer (some ⟨b,0,none⟩),.string ⟨#[45,62]⟩] (.bool true) y (QA0 y):=hid fun W h=>QAN [45,62] ha.out W h
 have E2:=hid (IH.out.expr _ _ _ _ r2.out)
 obtain ⟨d,hdd⟩:∃ d,d = z.deep:=⟨_,rfl⟩
 rw [← hdd] at e0 e1
 have PU:Hid (∀ (p:Nat) W,Hid (Rd W b g cap dv ts xb z)→Calls Tryz.prog 28 #[.pointer (some ⟨b,0,none⟩),.agg #[.int .i64 17,.int .i64 vo,.int .i64 vb,.int .i64 0,.string ⟨#[]⟩,.string ⟨#[]⟩,.int .i64 0,.slice none 0 0,.int .i64 (p:Int)]] W fun r Y=>QDZ b g cap dv ts xb W (.int .i64 (z.exprs.length:Int)) (QBQ (QJS 17 vo vb p) z) d r Y) :=
  hid fun p W h=>(QGh b g cap dv ts xb z 17 vo vb p W h okz).mono fun r Y hr=>hr.deep hdd.symm
 have HD:=hid hdd
 clear hdd hok okz d0 d1 k4
 go_enter Tryz.func12,Tryz.ntmps12
 go_wp2_with (go_at_call 25;(with_reducible refine EN.out.mono ?_);rintro e w1 ⟨rfl,hr,hk⟩;have HR:=hid hr;have HK:=hid hk;clear hr hk)
 have KX:Hid (∃ w0,Rd w0 b g cap dv ts xb x):=hid ⟨w1,HR.out⟩
 obtain ⟨o,c,⟨c0,c1,c3,c4,c5,c6,fr⟩,hx⟩:=HR.out.cells
 have ht:=HR.out.tok
 have hgb:g≠b:=by have:=HR.out.lt;omega
 have hl:=HR.out.at_
 have hn:=HR.out.len
 obtain ⟨t0,t1,t2,t3⟩:=ht
 obtain ⟨n,hnn⟩:∃ n,n = ts.length:=⟨_,rfl⟩
 obtain ⟨a,haa⟩:∃ a,a = x.at_:=⟨_,rfl⟩
 obtain ⟨cd,hcd⟩:∃ cd,cd = x.code:=⟨_,rfl⟩
 obtain ⟨ps,hps⟩:∃ ps,ps = x.pos:=⟨_,rfl⟩
 obtain ⟨dp,hdp⟩:∃ dp,dp = x.deep:=⟨_,rfl⟩
 obtain ⟨kd,hkd⟩:∃ kd,kd = (QA9 ts x.at_).kind:=⟨_,rfl⟩
 obtain ⟨tx,htx⟩:∃ tx,tx = (QA9 ts x.at_).text:=⟨_,rfl⟩
 obtain ⟨tv,htv⟩:∃ tv,tv = (QA9 ts x.at_).v:=⟨_,rfl⟩
 obtain ⟨p,hp⟩:∃ p,p = (QA9 ts x.at_).at_:=⟨_,rfl⟩
 rw [← hnn] at c0 hl hn
 rw [← hkd] at t0
 rw [← htx] at t1
 rw [← htv] at t2
 rw [← hp] at t3
 rw [← haa] at c1 t0 t1 t2 t3 hl
 rw [← hcd] at c5
 rw [← hdp] at c4
 rw [← hps] at c6
 have k0:((a:Nat):Int) < (n:Int):=by omega
 have f1:=fr 1
 have f4:=fr 4
 have f5:=fr 5
 have f6:=fr 6
 have HCD:=hid hcd
 have HPS:=hid hps
 have HDP:=hid hdp
 have HKD:=hid hkd
 have HTX:=hid htx
 have HTV:=hid htv
 have HP:=hid hp
 have HAA:=hid haa
 have HNN:=hid hnn
 clear fr hx hnn haa hcd hps hdp hkd htx htv hp c3
 go_quiet (fail)
 have HX:Hid (Rd (w1.drewN nq) b g cap dv ts xb x):=hid (HR.out.below (QAE (Below.refl _ _) _))
 have HXK:Hid (RK b W (w1.drewN nq)):=hid (HK.out.trans (RK.of_below (QAE (Below.refl _ _) _) (Nat.le_of_lt HR.out.size)))
 clear HCD HPS HDP HKD HTX HTV HP HAA HNN
 clear t0 t1 t2 t3 c0 c1 c4 c5 c6 f1 f4 f5 f6 k0 hl hn hgb
 go_wp2_with (first
  | (go_at_call 26;(with_reducible refine (TK.out _ HX).mono ?_);rintro e w2 ⟨rfl,hr,hk⟩;have HR2:=hid hr;have HK2:=hid hk;clear hr hk)
  | (go_at_call 29;(with_reducible refine (E1.out w2 HR2).mono ?_);rintro e w3 ⟨rfl,hr,hk⟩;have HR3:=hid hr;have HK3:=hid hk;clear hr hk))
 obtain ⟨o,c,⟨c0,c1,c3,c4,c5,c6,fr⟩,hx⟩:=HR3.out.cells
 have ht:=HR3.out.tok
 have hgb:g≠b:=by have:=HR3.out.lt;omega
 have hl:=HR3.out.at_
 have hn:=HR3.out.len
 obtain ⟨t0,t1,t2,t3⟩:=ht
 obtain ⟨n,hnn⟩:∃ n,n = ts.length:=⟨_,rfl⟩
 obtain ⟨a,haa⟩:∃ a,a = y.at_:=⟨_,rfl⟩
 obtain ⟨cd,hcd⟩:∃ cd,cd = y.code:=⟨_,rfl⟩
 obtain ⟨ps,hps⟩:∃ ps,ps = y.pos:=⟨_,rfl⟩
 obtain ⟨dp,hdp⟩:∃ dp,dp = y.deep:=⟨_,rfl⟩
 obtain ⟨kd,hkd⟩:∃ kd,kd = (QA9 ts y.at_).kind:=⟨_,rfl⟩
 obtain ⟨tx,htx⟩:∃ tx,tx = (QA9 ts y.at_).text:=⟨_,rfl⟩
 obtain ⟨tv,htv⟩:∃ tv,tv = (QA9 ts y.at_).v:=⟨_,rfl⟩
 obtain ⟨p,hp⟩:∃ p,p = (QA9 ts y.at_).at_:=⟨_,rfl⟩
 rw [← hnn] at c0 hl hn
 rw [← hkd] at t0
 rw [← htx] at t1
 rw [← htv] at t2
 rw [← hp] at t3
 rw [← haa] at c1 t0 t1 t2 t3 hl
 rw [← hcd] at c5
 rw [← hdp] at c4
 rw [← hps] at c6
 have k0:((a:Nat):Int) < (n:Int):=by omega
 have f1:=fr 1
 have f4:=fr 4
 have f5:=fr 5
 have f6:=fr 6
 have HCD:=hid hcd
 have HPS:=hid hps
 have HDP:=hid hdp
 have HKD:=hid hkd
 have HTX:=hid htx
 have HTV:=hid htv
 have HP:=hid hp
 have HAA:=hid haa
 have HNN:=hid hnn
 clear fr hx hnn haa hcd hps hdp hkd htx htv hp c3
 go_quiet (fail)
 have HY:Hid (Rd (w3.drewN nq) b g cap dv ts xb y):=hid (HR3.out.below (QAE (Below.refl _ _) _))
 have HYK:Hid (RK b w3 (w3.drewN nq)):=hid (RK.of_below (QAE (Below.refl _ _) _) (Nat.le_of_lt HR3.out.size))
 go_wp2_with (first
  | (go_at_call 30;(with_reducible refine (IS.out _ HY).mono ?_);rintro e w4 ⟨rfl,hb⟩;have HR4:=hid (HY.out.below hb);have HK4:=hid (RK.of_below hb (Nat.le_of_lt HY.out.size));clear hb)
  | (go_at_call 26;(with_reducible refine (TA.out w4 HR4).mono ?_);rintro e w6 ⟨rfl,hr,hk⟩;have HR6:=hid hr;have HK6:=hid (HK4.out.trans hk);clear hr hk)
  | (go_at_call 12;(with_reducible refine (E2.out w6 HR6).mono ?_);rintro e w7 ⟨rfl,hr,hk⟩;have HR7:=hid hr;have HK7:=hid hk;clear hr hk)
  | (go_at_call 28;(with_reducible refine (PU.out p w7 HR7).mono ?_);rintro e w8 ⟨rfl,z4,z5,HR8,HK8⟩))
 go_ret
 rw [← HP.out,HD.out]
 exact ⟨rfl,HR8.out.setDeep _,HXK.out.trans (HK2.out.trans (HK3.out.trans (HYK.out.trans (HK6.out.trans (HK7.out.trans (HK8.out.trans (RK.set 4 _)))))))⟩
set_option maxRecDepth 100000 in
theorem QHA (b g cap:Nat) (dv:Value) (ts:List Tok) (xb:Nat→Prop) (f:Nat) (IH:Hid (FC b g cap dv ts xb f)) (σ x:RS) (hx:Hid (x = QAJ ts σ)) (hok:okS σ = true) (hc:Hid (x.code = 0)) (hi:Hid (isS ts [105,102] x = false)) (vo:Int) (lo:List Int) (y:RS)
  (r1:Hid (QAh ts f (.bin 1) x = some (vo,lo,y))) (ha:Hid (isS ts [45,62] y = false)) (hb:Hid (isS ts [102,98,121] y = true)) (vb:Int) (lb:List Int) (z:RS) (r2:Hid (QAh ts f .expr (QA0 y) = some (vb,lb,z))) (okz:okS z = true) (W:World) (h:Hid (Rd W b g cap dv ts xb σ)) :
  Calls Tryz.prog 12 #[.pointer (some ⟨b,0,none⟩)] W fun r Y=>RdRet b g cap dv ts xb W (.int .i64 (z.exprs.length:Int)) (QAf (QBQ (QJS 18 vo vb (QA9 ts y.at_).at_) z)) r Y:=by
 obtain ⟨k4,e0,e1⟩:=QAm.1 okz
 obtain ⟨_,d0,d1⟩:=QAm.1 hok
 have EN:Hid (Calls Tryz.prog 25 #[.pointer (some ⟨b,0,none⟩)] W fun r Y=>RdRet b g cap dv ts xb W (.bool true) x r Y):=hid ((QBh b g cap dv ts xb σ W h d0 d1).mono fun r Y hr=>by
  rwa [← hx.out,decide_eq_true hc.out] at hr)
 have TK:CR b g cap dv ts xb 26 #[.pointer (some ⟨b,0,none⟩),.string ⟨#[105,102]⟩] (.bool false) x x:=hid fun W h=>QA8 [105,102] hi.out W h
 have E1:CR b g cap dv ts xb 29 #[.pointer (some ⟨b,0,none⟩),.int .i64 1] (.int .i64 vo) x y:=hid fun W h=>IH.out.bin 1 (by omega) (by omega) x vo lo y r1.out W h
 have IS:Hid (∀ W,Hid (Rd W b g cap dv ts xb y)→Calls Tryz.prog 30 #[.pointer (some ⟨b,0,none⟩),.string ⟨#[102,98,121]⟩] W fun r Y=>r = .returned (.bool true)∧Below W.heap.size W Y):=hid fun W h=>by
  have:=QHM b g cap dv ts xb y [102,98,121] W h
  rwa [show isS ts [102,98,121] y = true from hb.out] at this
 have TA:CR b g cap dv ts xb 26 #[.pointer (some ⟨b,0,none⟩),.string ⟨#[45,62]⟩] (.bool false) y y:=hid fun W h=>QA8 [45,62] ha.out W h
 have TB:CR b g cap dv ts xb 26 #[.pointer (some ⟨b,0,none⟩),.string ⟨#[102,98,121]⟩] (.bool true) y (QA0 y):=hid fun W h=>QAN [102,98,121] hb.out W h
 have E2:=hid (IH.out.expr _ _ _ _ r2.out)
 obtain ⟨d,hdd⟩:∃ d,d = z.deep:=⟨_,rfl⟩
 rw [← hdd] at e0 e1
 have PU:Hid (∀ (p:Nat) W,Hid (Rd W b g cap dv ts xb z)→Calls Tryz.prog 28 #[.pointer (some ⟨b,0,none⟩),.agg #[.int .i64 18,.int .i64 vo,.int .i64 vb,.int .i64 0,.string ⟨#[]⟩,.string ⟨#[]⟩,.int .i64 0,.slice none 0 0,.int .i64 (p:Int)]] W fun r Y=>QDZ b g cap dv ts xb W (.int .i64 (z.exprs.length:Int)) (QBQ (QJS 18 vo vb p) z) d r Y) :=
  hid fun p W h=>(QGh b g cap dv ts xb z 18 vo vb p W h okz).mono fun r Y hr=>hr.deep hdd.symm
 have HD:=hid hdd
 clear hdd hok okz d0 d1 k4
 go_enter Tryz.func12,Tryz.ntmps12
 go_wp2_with (go_at_call 25;(with_reducible refine EN.out.mono ?_);rintro e w1 ⟨rfl,hr,hk⟩;have HR:=hid hr;have HK:=hid hk;clear hr hk)
 have KX:Hid (∃ w0,Rd w0 b g cap dv ts xb x):=hid ⟨w1,HR.out⟩
 obtain ⟨o,c,⟨c0,c1,c3,c4,c5,c6,fr⟩,hx⟩:=HR.out.cells
 have ht:=HR.out.tok
 have hgb:g≠b:=by have:=HR.out.lt;omega
 have hl:=HR.out.at_
 have hn:=HR.out.len
 obtain ⟨t0,t1,t2,t3⟩:=ht
 obtain ⟨n,hnn⟩:∃ n,n = ts.length:=⟨_,rfl⟩
 obtain ⟨a,haa⟩:∃ a,a = x.at_:=⟨_,rfl⟩
 obtain ⟨cd,hcd⟩:∃ cd,cd = x.code:=⟨_,rfl⟩
 obtain ⟨ps,hps⟩:∃ ps,ps = x.pos:=⟨_,rfl⟩
 obtain ⟨dp,hdp⟩:∃ dp,dp = x.deep:=⟨_,rfl⟩
 obtain ⟨kd,hkd⟩:∃ kd,kd = (QA9 ts x.at_).kind:=⟨_,rfl⟩
 obtain ⟨tx,htx⟩:∃ tx,tx = (QA9 ts x.at_).text:=⟨_,rfl⟩
 obtain ⟨tv,htv⟩:∃ tv,tv = (QA9 ts x.at_).v:=⟨_,rfl⟩
 obtain ⟨p,hp⟩:∃ p,p = (QA9 ts x.at_).at_:=⟨_,rfl⟩
 rw [← hnn] at c0 hl hn
 rw [← hkd] at t0
 rw [← htx] at t1
 rw [← htv] at t2
 rw [← hp] at t3
 rw [← haa] at c1 t0 t1 t2 t3 hl
 rw [← hcd] at c5
 rw [← hdp] at c4
 rw [← hps] at c6
 have k0:((a:Nat):Int) < (n:Int):=by omega
 have f1:=fr 1
 have f4:=fr 4
 have f5:=fr 5
 have f6:=fr 6
 have HCD:=hid hcd
 have HPS:=hid hps
 have HDP:=hid hdp
 have HKD:=hid hkd
 have HTX:=hid htx
 have HTV:=hid htv
 have HP:=hid hp
 have HAA:=hid haa
 have HNN:=hid hnn
 clear fr hx hnn haa hcd hps hdp hkd htx htv hp c3
 go_quiet (fail)
 have HX:Hid (Rd (w1.drewN nq) b g cap dv ts xb x):=hid (HR.out.below (QAE (Below.refl _ _) _))
 have HXK:Hid (RK b W (w1.drewN nq)):=hid (HK.out.trans (RK.of_below (QAE (Below.refl _ _) _) (Nat.le_of_lt HR.out.size)))
 clear HCD HPS HDP HKD HTX HTV HP HAA HNN
 clear t0 t1 t2 t3 c0 c1 c4 c5 c6 f1 f4 f5 f6 k0 hl hn hgb
 go_wp2_with (first
  | (go_at_call 26;(with_reducible refine (TK.out _ HX).mono ?_);rintro e w2 ⟨rfl,hr,hk⟩;have HR2:=hid hr;have HK2:=hid hk;clear hr hk)
  | (go_at_call 29;(with_reducible refine (E1.out w2 HR2).mono ?_);rintro e w3 ⟨rfl,hr,hk⟩;have HR3:=hid hr;have HK3:=hid hk;clear hr hk))
 obtain ⟨o,c,⟨c0,c1,c3,c4,c5,c6,fr⟩,hx⟩:=HR3.out.cells
 have ht:=HR3.out.tok
 have hgb:g≠b:=by have:=HR3.out.lt;omega
 have hl:=HR3.out.at_
 have hn:=HR3.out.len
 obtain ⟨t0,t1,t2,t3⟩:=ht
 obtain ⟨n,hnn⟩:∃ n,n = ts.length:=⟨_,rfl⟩
 obtain ⟨a,haa⟩:∃ a,a = y.at_:=⟨_,rfl⟩
 obtain ⟨cd,hcd⟩:∃ cd,cd = y.code:=⟨_,rfl⟩
 obtain ⟨ps,hps⟩:∃ ps,ps = y.pos:=⟨_,rfl⟩
 obtain ⟨dp,hdp⟩:∃ dp,dp = y.deep:=⟨_,rfl⟩
 obtain ⟨kd,hkd⟩:∃ kd,kd = (QA9 ts y.at_).kind:=⟨_,rfl⟩
 obtain ⟨tx,htx⟩:∃ tx,tx = (QA9 ts y.at_).text:=⟨_,rfl⟩
 obtain ⟨tv,htv⟩:∃ tv,tv = (QA9 ts y.at_).v:=⟨_,rfl⟩
 obtain ⟨p,hp⟩:∃ p,p = (QA9 ts y.at_).at_:=⟨_,rfl⟩
 rw [← hnn] at c0 hl hn
 rw [← hkd] at t0
 rw [← htx] at t1
 rw [← htv] at t2
 rw [← hp] at t3
 rw [← haa] at c1 t0 t1 t2 t3 hl
 rw [← hcd] at c5
 rw [← hdp] at c4
 rw [← hps] at c6
 have k0:((a:Nat):Int) < (n:Int):=by omega
 have f1:=fr 1
 have f4:=fr 4
 have f5:=fr 5
 have f6:=fr 6
 have HCD:=hid hcd
 have HPS:=hid hps
 have HDP:=hid hdp
 have HKD:=hid hkd
 have HTX:=hid htx
 have HTV:=hid htv
 have HP:=hid hp
 have HAA:=hid haa
 have HNN:=hid hnn
 clear fr hx hnn haa hcd hps hdp hkd htx htv hp c3
 go_quiet (fail)
 have HY:Hid (Rd (w3.drewN nq) b g cap dv ts xb y):=hid (HR3.out.below (QAE (Below.refl _ _) _))
 have HYK:Hid (RK b w3 (w3.drewN nq)):=hid (RK.of_below (QAE (Below.refl _ _) _) (Nat.le_of_lt HR3.out.size))
 go_wp2_with (first
  | (go_at_call 30;(with_reducible refine (IS.out _ HY).mono ?_);rintro e w4 ⟨rfl,hb⟩;have HR4:=hid (HY.out.below hb);have HK4:=hid (RK.of_below hb (Nat.le_of_lt HY.out.size));clear hb)
  | (go_at_call 26;(with_reducible refine (TA.out w4 HR4).mono ?_);rintro e w5 ⟨rfl,hr,hk⟩;have HR5:=hid hr;have HK5:=hid hk;clear hr hk)
  | (go_at_call 26;(with_reducible refine (TB.out w5 HR5).mono ?_);rintro e w6 ⟨rfl,hr,hk⟩;have HR6:=hid hr;have HK6:=hid (HK4.out.trans (HK5.out.trans hk));clear hr hk)
  | (go_at_call 12;(with_reducible refine (E2.out w6 HR6).mono ?_);rintro e w7 ⟨rfl,hr,hk⟩;have HR7:=hid hr;have HK7:=hid hk;clear hr hk)
  | (go_at_call 28;(with_reducible refine (PU.out p w7 HR7).mono ?_);rintro e w8 ⟨rfl,z4,z5,HR8,HK8⟩))
 go_ret
 rw [← HP.out,HD.out]
 exact ⟨rfl,HR8.out.setDeep _,HXK.out.trans (HK2.out.trans (HK3.out.trans (HYK.out.trans (HK6.out.trans (HK7.out.trans (HK8.out.trans (RK.set 4 _)))))))⟩
set_option maxRecDepth 100000 in
theorem QJt (b g cap:Nat) (dv:Value) (ts:List Tok) (xb:Nat→Prop) (f:Nat) (IH:Hid (FC b g cap dv ts xb f)) (σ x:RS) (hx:Hid (x = QAJ ts σ)) (hok:okS σ = true) (hc:Hid (x.code = 0)) (hi:Hid (isS ts [105,102] x = false)) (vo:Int) (lo:List Int) (y:RS)
  (r1:Hid (QAh ts f (.bin 1) x = some (vo,lo,y))) (ha:Hid (isS ts [45,62] y = false)) (hb:Hid (isS ts [102,98,121] y = false)) (oky:okS y = true) (W:World) (h:Hid (Rd W b g cap dv ts xb σ)) :
  Calls Tryz.prog 12 #[.pointer (some ⟨b,0,none⟩)] W fun r Y=>RdRet b g cap dv ts xb W (.int .i64 vo) (QAf y) r Y:=by
 obtain ⟨k4,e0,e1⟩:=QAm.1 oky
 obtain ⟨_,d0,d1⟩:=QAm.1 hok
 have EN:Hid (Calls Tryz.prog 25 #[.pointer (some ⟨b,0,none⟩)] W fun r Y=>RdRet b g cap dv ts xb W (.bool true) x r Y):=hid ((QBh b g cap dv ts xb σ W h d0 d1).mono fun r Y hr=>by
  rwa [← hx.out,decide_eq_true hc.out] at hr)
 have TK:CR b g cap dv ts xb 26 #[.pointer (some ⟨b,0,none⟩),.string ⟨#[105,102]⟩] (.bool false) x x:=hid fun W h=>QA8 [105,102] hi.out W h
 have E1:CR b g cap dv ts xb 29 #[.pointer (some ⟨b,0,none⟩),.int .i64 1] (.int .i64 vo) x y:=hid fun W h=>IH.out.bin 1 (by omega) (by omega) x vo lo y r1.out W h
 have IS:Hid (∀ W,Hid (Rd W b g cap dv ts xb y)→Calls Tryz.prog 30 #[.pointer (some ⟨b,0,none⟩),.string ⟨#[102,98,121]⟩] W fun r Y=>r = .returned (.bool false)∧Below W.heap.size W Y):=hid fun W h=>by
  have:=QHM b g cap dv ts xb y [102,98,121] W h
  rwa [hb.out] at this
 have TA:CR b g cap dv ts xb 26 #[.pointer (some ⟨b,0,none⟩),.string ⟨#[45,62]⟩] (.bool false) y y:=hid fun W h=>QA8 [45,62] ha.out W h
 obtain ⟨d,hdd⟩:∃ d,d = y.deep:=⟨_,rfl⟩
 rw [← hdd] at e0 e1
 have TB:Hid (∀ W,Hid (Rd W b g cap dv ts xb y)→Calls Tryz.prog 26 #[.pointer (some ⟨b,0,none⟩),.string ⟨#[102,98,121]⟩] W fun r Y=>QDZ b g cap dv ts xb W (.bool false) y d r Y):=hid fun W h=>(QA8 [102,98,121] hb.out W h).mono fun r Y hr=>hr.deep hdd.symm
 have HD:=hid hdd
 clear hdd hok oky d0 d1 k4
 go_enter Tryz.func12,Tryz.ntmps12
 go_wp2_with (go_at_call 25;(with_reducible refine EN.out.mono ?_);rintro e w1 ⟨rfl,hr,hk⟩;have HR:=hid hr;have HK:=hid hk;clear hr hk)
 have KX:Hid (∃ w0,Rd w0 b g cap dv ts xb x):=hid ⟨w1,HR.out⟩
 obtain ⟨o,c,⟨c0,c1,c3,c4,c5,c6,fr⟩,hx⟩:=HR.out.cells
 have ht:=HR.out.tok
 have hgb:g≠b:=by have:=HR.out.lt;omega
 have hl:=HR.out.at_
 have hn:=HR.out.len
 obtain ⟨t0,t1,t2,t3⟩:=ht
 obtain ⟨n,hnn⟩:∃ n,n = ts.length:=⟨_,rfl⟩
 obtain ⟨a,haa⟩:∃ a,a = x.at_:=⟨_,rfl⟩
 obtain ⟨cd,hcd⟩:∃ cd,cd = x.code:=⟨_,rfl⟩
 obtain ⟨ps,hps⟩:∃ ps,ps = x.pos:=⟨_,rfl⟩
 obtain ⟨dp,hdp⟩:∃ dp,dp = x.deep:=⟨_,rfl⟩
 obtain ⟨kd,hkd⟩:∃ kd,kd = (QA9 ts x.at_).kind:=⟨_,rfl⟩
 obtain ⟨tx,htx⟩:∃ tx,tx = (QA9 ts x.at_).text:=⟨_,rfl⟩
 obtain ⟨tv,htv⟩:∃ tv,tv = (QA9 ts x.at_).v:=⟨_,rfl⟩
 obtain ⟨p,hp⟩:∃ p,p = (QA9 ts x.at_).at_:=⟨_,rfl⟩
 rw [← hnn] at c0 hl hn
 rw [← hkd] at t0
 rw [← htx] at t1
 rw [← htv] at t2
 rw [← hp] at t3
 rw [← haa] at c1 t0 t1 t2 t3 hl
 rw [← hcd] at c5
 rw [← hdp] at c4
 rw [← hps] at c6
 have k0:((a:Nat):Int) < (n:Int):=by omega
 have f1:=fr 1
 have f4:=fr 4
 have f5:=fr 5
 have f6:=fr 6
 have HCD:=hid hcd
 have HPS:=hid hps
 have HDP:=hid hdp
 have HKD:=hid hkd
 have HTX:=hid htx
 have HTV:=hid htv
 have HP:=hid hp
 have HAA:=hid haa
 have HNN:=hid hnn
 clear fr hx hnn haa hcd hps hdp hkd htx htv hp c3
 go_quiet (fail)
 have HX:Hid (Rd (w1.drewN nq) b g cap dv ts xb x):=hid (HR.out.below (QAE (Below.refl _ _) _))
 have HXK:Hid (RK b W (w1.drewN nq)):=hid (HK.out.trans (RK.of_below (QAE (Below.refl _ _) _) (Nat.le_of_lt HR.out.size)))
 clear HCD HPS HDP HKD HTX HTV HP HAA HNN
 clear t0 t1 t2 t3 c0 c1 c4 c5 c6 f1 f4 f5 f6 k0 hl hn hgb
 go_wp2_with (first
  | (go_at_call 26;(with_reducible refine (TK.out _ HX).mono ?_);rintro e w2 ⟨rfl,hr,hk⟩;have HR2:=hid hr;have HK2:=hid hk;clear hr hk)
  | (go_at_call 29;(with_reducible refine (E1.out w2 HR2).mono ?_);rintro e w3 ⟨rfl,hr,hk⟩;have HR3:=hid hr;have HK3:=hid hk;clear hr hk))
 obtain ⟨o,c,⟨c0,c1,c3,c4,c5,c6,fr⟩,hx⟩:=HR3.out.cells
 have ht:=HR3.out.tok
 have hgb:g≠b:=by have:=HR3.out.lt;omega
 have hl:=HR3.out.at_
 have hn:=HR3.out.len
 obtain ⟨t0,t1,t2,t3⟩:=ht
 obtain ⟨n,hnn⟩:∃ n,n = ts.length:=⟨_,rfl⟩
 obtain ⟨a,haa⟩:∃ a,a = y.at_:=⟨_,rfl⟩
 obtain ⟨cd,hcd⟩:∃ cd,cd = y.code:=⟨_,rfl⟩
 obtain ⟨ps,hps⟩:∃ ps,ps = y.pos:=⟨_,rfl⟩
 obtain ⟨dp,hdp⟩:∃ dp,dp = y.deep:=⟨_,rfl⟩
 obtain ⟨kd,hkd⟩:∃ kd,kd = (QA9 ts y.at_).kind:=⟨_,rfl⟩
 obtain ⟨tx,htx⟩:∃ tx,tx = (QA9 ts y.at_).text:=⟨_,rfl⟩
 obtain ⟨tv,htv⟩:∃ tv,tv = (QA9 ts y.at_).v:=⟨_,rfl⟩
 obtain ⟨p,hp⟩:∃ p,p = (QA9 ts y.at_).at_:=⟨_,rfl⟩
 rw [← hnn] at c0 hl hn
 rw [← hkd] at t0
 rw [← htx] at t1
 rw [← htv] at t2
 rw [← hp] at t3
 rw [← haa] at c1 t0 t1 t2 t3 hl
 rw [← hcd] at c5
 rw [← hdp] at c4
 rw [← hps] at c6
 have k0:((a:Nat):Int) < (n:Int):=by omega
 have f1:=fr 1
 have f4:=fr 4
 have f5:=fr 5
 have f6:=fr 6
 have HCD:=hid hcd
 have HPS:=hid hps
 have HDP:=hid hdp
 have HKD:=hid hkd
 have HTX:=hid htx
 have HTV:=hid htv
 have HP:=hid hp
 have HAA:=hid haa
 have HNN:=hid hnn
 clear fr hx hnn haa hcd hps hdp hkd htx htv hp c3
 go_quiet (fail)
 have HY:Hid (Rd (w3.drewN nq) b g cap dv ts xb y):=hid (HR3.out.below (QAE (Below.refl _ _) _))
 have HYK:Hid (RK b w3 (w3.drewN nq)):=hid (RK.of_below (QAE (Below.refl _ _) _) (Nat.le_of_lt HR3.out.size))
 clear HCD HPS HDP HKD HTX HTV HP HAA HNN
 clear t0 t1 t2 t3 c0 c1 c4 c5 c6 f1 f4 f5 f6 k0 hl hn hgb
 go_wp2_with (first
  | (go_at_call 30;(with_reducible refine (IS.out _ HY).mono ?_);rintro e w4 ⟨rfl,hb⟩;have HR4:=hid (HY.out.below hb);have HK4:=hid (RK.of_below hb (Nat.le_of_lt HY.out.size));clear hb)
  | (go_at_call 26;(with_reducible refine (TA.out w4 HR4).mono ?_);rintro e w5 ⟨rfl,hr,hk⟩;have HR5:=hid hr;have HK5:=hid hk;clear hr hk)
  | (go_at_call 26;(with_reducible refine (TB.out w5 HR5).mono ?_);rintro e w6 ⟨rfl,z4,z5,HR6,HK6⟩))
 go_ret
 rw [HD.out]
 exact ⟨rfl,HR6.out.setDeep _,HXK.out.trans (HK2.out.trans (HK3.out.trans (HYK.out.trans (HK4.out.trans (HK5.out.trans (HK6.out.trans (RK.set 4 _)))))))⟩
theorem QNH (b g cap:Nat) (dv:Value) (ts:List Tok) (xb:Nat→Prop) (f:Nat) (IH:FC b g cap dv ts xb f) (σ:RS) (v:Int) (l:List Int) (τ:RS) (hr:QAh ts (f+1) .expr σ = some (v,l,τ)) (W:World) (h:Hid (Rd W b g cap dv ts xb σ)) :
  Calls Tryz.prog 12 #[.pointer (some ⟨b,0,none⟩)] W fun r Y=>RdRet b g cap dv ts xb W (.int .i64 v) τ r Y:=by
 obtain ⟨hok,hcase⟩:=QJs hr
 rcases hcase with ⟨hc,e⟩ | ⟨hc,hi,va,la,s2,vb,lb,s3,vc,lc,s4,r1,r2,r3,ok4,e⟩ | ⟨hc,hi,vo,lo,y,r1,hcase⟩
 ·cases e
  exact QNI b g cap dv ts xb σ hok (hid hc) W h
 ·cases e
  exact expr_if b g cap dv ts xb f (hid IH) σ _ (hid rfl) hok (hid hc) (hid hi) va vb vc la lb lc s2 s3 s4 (hid r1) (hid r2) (hid r3) ok4 W h
 ·rcases hcase with ⟨ha,vb,lb,z,r2,okz,e⟩ | ⟨ha,hb,vb,lb,z,r2,okz,e⟩ | ⟨ha,hb,oky,e⟩
  ·cases e
   exact QH9 b g cap dv ts xb f (hid IH) σ _ (hid rfl) hok (hid hc) (hid hi) vo lo y (hid r1) (hid ha) vb lb z (hid r2) okz W h
  ·cases e
   exact QHA b g cap dv ts xb f (hid IH) σ _ (hid rfl) hok (hid hc) (hid hi) vo lo y (hid r1) (hid ha) (hid hb) vb lb z (hid r2) okz W h
  ·cases e
   exact QJt b g cap dv ts xb f (hid IH) σ _ (hid rfl) hok (hid hc) (hid hi) v lo y (hid r1) (hid ha) (hid hb) oky W h
end
end Go.Proofs.YtknbghjoncomiaaGreat
