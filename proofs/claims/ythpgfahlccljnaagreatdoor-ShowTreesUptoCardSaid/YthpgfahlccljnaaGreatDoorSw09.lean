import Derived.Test.YthpgfahlccljnaaGreatDoorSw08
import Derived.RangeFuncBox
import Derived.Lib.QuietBelow
import Derived.WalkKit
import Derived.BigQuiet
import Derived.Deep.QuietTactic
import Derived.Deep.RegionHeld3
import Derived.WalkSpells
set_option maxHeartbeats 16000000
set_option maxRecDepth 100000
open Go.Proofs.Tryz(prog)
namespace Go.Proofs.YthpgfahlccljnaaGreatDoor
open Lx
structure RS where
 at_:Nat
 exprs:List Ex
 deep:Int
 code:Int
 pos:Int
def tokL (ts:List Tok) (i:Nat):Tok:=ts.getD i ⟨0,[],0,0⟩
def isS (ts:List Tok) (s:List UInt8) (σ:RS):Bool :=
 decide (σ.code=0)&&((decide ((tokL ts σ.at_).kind=3)||decide ((tokL ts σ.at_).kind=4))&&(tokL ts σ.at_).text ==s)
def failS (ts:List Tok) (e:Int) (σ:RS):RS:=if σ.code=0 then { σ with code:=e,pos:=((tokL ts σ.at_).at_:Int) } else σ
def stepS (σ:RS):RS:={ σ with at_:=σ.at_+1 }
def tookS (ts:List Tok) (s:List UInt8) (σ:RS):RS:=if isS ts s σ=true then stepS σ else σ
def wantS (ts:List Tok) (s:List UInt8) (σ:RS):RS:=if isS ts s σ=true then stepS σ else failS ts 2 σ
def nameB (ts:List Tok) (σ:RS):Bool:=decide (σ.code=0)&&decide ((tokL ts σ.at_).kind=1)
def nameS (ts:List Tok) (σ:RS):RS:=if nameB ts σ=true then stepS σ else failS ts 2 σ
def nameV (ts:List Tok) (σ:RS):List UInt8:=if nameB ts σ=true then(tokL ts σ.at_).text else []
def putS (x:Ex) (σ:RS):RS:={ σ with exprs:=σ.exprs++[x] }
def levelsL:List (List UInt8×Int×Int):=[([111,114],1,14),([97,110,100],2,13),([60],3,10),([60,61],3,11),([61,61],3,12),([43],4,6),([45],4,7),([42],5,8),([47],5,9)]
def levelIn (ts:List Tok) (σ:RS) (l:List (List UInt8×Int×Int)):Int×Int:=match l.find? fun p=>isS ts p.1 σ with | some p=>p.2 | none=>(0,0)
def levelS (ts:List Tok) (σ:RS):Int×Int:=levelIn ts σ levelsL
def tooDeep (σ:RS):Bool:=decide (σ.code=0)&&decide (σ.deep=30)
def enterS (ts:List Tok) (σ:RS):RS:=let x:=if tooDeep σ=true then failS ts 3 σ else σ;{ x with deep:=x.deep+1 }
def leaveS (σ:RS):RS:={ σ with deep:=σ.deep-1 }
def okS (σ:RS):Bool:=decide (σ.exprs.length≤40000)&&(decide (0≤σ.deep)&&decide (σ.deep≤30))
def prefixL:List (List UInt8×Int):=[([45],4),([110,111,116],5),([112,114,101],16),([115,113,114,116],21)]
def prefixK (ts:List Tok) (σ:RS) (l:List (List UInt8×Int)):Int:=match l.find? fun p=>isS ts p.1 σ with | some p=>p.2 | none=>0
def ex0:Ex:=⟨0,0,0,0,⟨#[]⟩,⟨#[]⟩,0,[],0⟩
inductive Job where
 | expr
 | pre
 | atom
 | bin (least:Nat)
 | loop (least:Nat) (a:Int)
 | args (acc:List Int)
abbrev Ans:=Option (Int×List Int×RS)
def putA (x:Ex) (σ:RS) (K:Int→RS→Ans):Ans:=if okS σ=true then K (σ.exprs.length:Int) (putS x σ) else none
def atomG (ts:List Tok) (F:Job→RS→Ans) (σ:RS):Ans :=
 let t:=tokL ts σ.at_
 let p:Int:=(t.at_:Int)
 if t.kind=2 then putA { ex0 with kind:=1,v:=t.v,pos:=p } (stepS σ) fun n y=>some (n,[],y) else
 if isS ts [116,114,117,101] σ=true then putA { ex0 with kind:=2,v:=1,pos:=p } (stepS σ) fun n y=>some (n,[],y) else
 if isS ts [102,97,108,115,101] σ=true then putA { ex0 with kind:=2,pos:=p } (stepS σ) fun n y=>some (n,[],y) else
 if t.kind=1 then
  let x:=stepS σ
  if isS ts [105,115] x=true then putA { ex0 with kind:=20,name:=str t.text,state:=str (nameV ts (stepS x)),pos:=p } (nameS ts (stepS x)) fun n y=>some (n,[],y) else
  if isS ts [40] x=true then
   let y:=stepS x
   if isS ts [41] y=true then putA { ex0 with kind:=19,name:=str t.text,pos:=p } (stepS y) fun n z=>some (n,[],z) else
   (F .expr y).bind fun r=>(F (.args [r.1]) r.2.2).bind fun q=>putA { ex0 with kind:=19,name:=str t.text,args:=q.2.1,pos:=p } (wantS ts [41] q.2.2) fun n z=>some (n,[],z)
  else putA { ex0 with kind:=3,name:=str t.text,pos:=p } x fun n y=>some (n,[],y)
 else(F .expr (wantS ts [40] σ)).bind fun r=>some (r.1,[],wantS ts [41] r.2.2)
def preG (ts:List Tok) (F:Job→RS→Ans) (σ:RS):Ans :=
 let x:=enterS ts σ
 if x.code=0 then
  let p:Int:=((tokL ts x.at_).at_:Int)
  let k:=prefixK ts x prefixL
  if k=0 then(F .atom x).bind fun r=>if okS r.2.2=true then some (r.1,[],leaveS r.2.2) else none
  else(F .pre (stepS x)).bind fun r=>putA { ex0 with kind:=k,a:=r.1,pos:=p } r.2.2 fun n y=>some (n,[],leaveS y)
 else some (0,[],leaveS x)
def exprG (ts:List Tok) (F:Job→RS→Ans) (σ:RS):Ans :=
 let x:=enterS ts σ
 if x.code=0 then
  let p:Int:=((tokL ts x.at_).at_:Int)
  if isS ts [105,102] x=true then
   (F .expr (stepS x)).bind fun a=>(F .expr (wantS ts [116,104,101,110] a.2.2)).bind fun b=>(F .expr (wantS ts [101,108,115,101] b.2.2)).bind fun c =>
    putA { ex0 with kind:=15,a:=a.1,b:=b.1,c:=c.1,pos:=p } c.2.2 fun n y=>some (n,[],leaveS y)
  else(F (.bin 1) x).bind fun o =>
   let y:=o.2.2
   let q:Int:=((tokL ts y.at_).at_:Int)
   if isS ts [45,62] y=true then(F .expr (stepS y)).bind fun b=>putA { ex0 with kind:=17,a:=o.1,b:=b.1,pos:=q } b.2.2 fun n z=>some (n,[],leaveS z)
   else if isS ts [102,98,121] y=true then(F .expr (stepS y)).bind fun b=>putA { ex0 with kind:=18,a:=o.1,b:=b.1,pos:=q } b.2.2 fun n z=>some (n,[],leaveS z)
   else if okS y=true then some (o.1,[],leaveS y) else none
 else some (0,[],leaveS x)
def binG (F:Job→RS→Ans) (least:Nat) (σ:RS):Ans:=if 5<least then F .pre σ else(F (.bin (least+1)) σ).bind fun a=>F (.loop least a.1) a.2.2
def loopG (ts:List Tok) (F:Job→RS→Ans) (least:Nat) (a:Int) (σ:RS):Ans :=
 if σ.code=0 then
  if(levelS ts σ).1=(least:Int) then
   (F (.bin (least+1)) (stepS σ)).bind fun b=>putA { ex0 with kind:=(levelS ts σ).2,a:=a,b:=b.1,pos:=((tokL ts σ.at_).at_:Int) } b.2.2 fun n y =>
    if least=3 then some (n,[],y) else F (.loop least n) y
  else some (a,[],σ)
 else some (a,[],σ)
def argsG (ts:List Tok) (F:Job→RS→Ans) (acc:List Int) (σ:RS):Ans :=
 if acc.length≤40000 then if isS ts [44] σ=true then(F .expr (stepS σ)).bind fun r=>F (.args (acc++[r.1])) r.2.2 else some (0,acc,σ) else none
def runE (ts:List Tok):Nat→Job→RS→Ans
 | 0,_,_=>none
 | f+1,j,σ=>if okS σ=true then match j with
  | .expr=>exprG ts (runE ts f) σ
  | .pre=>preG ts (runE ts f) σ
  | .atom=>atomG ts (runE ts f) σ
  | .bin least=>binG (runE ts f) least σ
  | .loop least a=>loopG ts (runE ts f) least a σ
  | .args acc=>argsG ts (runE ts f) acc σ else none
def EndOk (ts:List Tok):Prop:=0<ts.length∧∀i t,ts[i]?=some t→(i+1=ts.length↔t.kind=5)
theorem EndOk.next {ts:List Tok} (h:EndOk ts) {i:Nat} (hi:i<ts.length) (hk:(tokL ts i).kind≠5):i+1<ts.length:=by
 have h1:ts[i]?=some (tokL ts i):=by unfold tokL;rw[List.getD_eq_getElem?_getD,List.getElem?_eq_getElem hi];rfl
 have:=(h.2 i _ h1)
 rcases Nat.lt_or_ge (i+1) ts.length with h2 | h2
 ·exact h2
 ·exact absurd (this.1 (by omega)) hk
theorem isS_kind {ts:List Tok} {s:List UInt8} {σ:RS} (h:isS ts s σ=true):(tokL ts σ.at_).kind≠5∧σ.code=0:=by
 unfold isS at h
 simp only[Bool.and_eq_true,Bool.or_eq_true,decide_eq_true_eq] at h
 refine⟨?_,h.1⟩
 rcases h.2.1 with h1 | h1 <;> omega
end Go.Proofs.YthpgfahlccljnaaGreatDoor
namespace Go.Proofs.YthpgfahlccljnaaGreatDoor
open Go.RowKit Lx
def intC (n:Int):Value:=.int .i64 n
def exC (x:Ex) (v:Value):List Value:=[.int .i64 x.kind,.int .i64 x.a,.int .i64 x.b,.int .i64 x.c,.string x.name,.string x.state,.int .i64 x.v,v,.int .i64 x.pos]
def rdCells (l:List (Ex×Value)):List Value:=l.flatMap fun p=>exC p.1 p.2
theorem rdCells_snoc (l:List (Ex×Value)) (p:Ex×Value):rdCells (l++[p])=rdCells l++exC p.1 p.2:=by unfold rdCells;rw[List.flatMap_append];simp
def ExsOwn (W:World) (b:Nat) (xb:Nat→Prop) (v:Value) (l:List Ex):Prop :=
 ∃q:List (Ex×Value),q.map Prod.fst=l∧W.ownsRow (b+1) 48 9 v l.length (rdCells q)∧∀p ∈ q,W.ownsRow (b+1) 3 1 p.2 p.1.args.length (p.1.args.map intC)∧∀k,p.2.ownBlock=some k→¬xb k
def NoEx (o:Obj):Prop:=∀cs,o≠.cells cs 48 (0,0)
structure RK (b:Nat) (W Y:World):Prop where
 os:Y.os=W.os
 tape:Y.tape=W.tape
 output:Y.output=W.output
 size:W.heap.size≤Y.heap.size
 low:∀k,k<b→Y.heap[k]?=W.heap[k]?
 keep:∀(k:Nat) (o:Obj),W.heap[k]?=some o→k≠b→NoEx o→Y.heap[k]?=some o
theorem heap_lt {W:World} {k:Nat} {o:Obj} (h:W.heap[k]?=some o):k<W.heap.size:=(Array.getElem?_eq_some_iff.1 h).1
theorem RK.refl (b:Nat) (W:World):RK b W W:=⟨rfl,rfl,rfl,qL _,fun _ _=>rfl,fun _ _ h _ _=>h⟩
theorem RK.trans {b:Nat} {X Y Z:World} (h:RK b X Y) (k:RK b Y Z):RK b X Z :=
 ⟨k.os.trans h.os,k.tape.trans h.tape,k.output.trans h.output,Nat.le_trans h.size k.size,fun j hj=>(k.low j hj).trans (h.low j hj),fun j o hj hb hn=>k.keep j o (h.keep j o hj hb hn) hb hn⟩
theorem RK.of_below {b:Nat} {W Y:World} (h:Below W.heap.size W Y) (hb:b≤W.heap.size):RK b W Y :=
 ⟨h.os,h.tape,h.output,h.size,fun k hk=>h.block k (by omega),fun k o hk _ _=>(h.block k (heap_lt hk)).trans hk⟩
theorem RK.below {b B:Nat} {W Y:World} (h:RK b W Y) (hb:B≤b):Below B W Y:=⟨h.os,h.tape,h.output,h.size,fun k hk=>h.low k (by omega)⟩
theorem RK.set {b:Nat} {W:World} (i:Nat) (v:Value):RK b W (W.setCell ⟨b,i,none⟩ v):=by
 have hb:=(qB b W).setCell (p:=⟨b,i,none⟩) (qL _) v
 exact⟨hb.os,hb.tape,hb.output,hb.size,fun k hk=>hb.block k hk,fun k o hk hkb _=>(Below.heap_setCell W ⟨b,i,none⟩ v k hkb).trans hk⟩
structure Rd (W:World) (b g cap:Nat) (dv:Value) (ts:List Tok) (xb:Nat→Prop) (σ:RS):Prop where
 xlt:∀k,xb k→k<W.heap.size
 blk:∃o c,W.heap[b]?=some (.cells #[.slice (some ⟨g,0,none⟩) ts.length cap,.int .i64 (σ.at_:Int),dv,.slice o σ.exprs.length c,.int .i64 σ.deep,.int .i64 σ.code,.int .i64 σ.pos] 73 (0,0))∧ExsOwn W b xb (.slice o σ.exprs.length c) σ.exprs
 row:RowAt W g ts
 lt:g<b
 at_:σ.at_<ts.length
 len:ts.length≤40000
 ends:EndOk ts
theorem NoEx.int {cs:Array Value}:NoEx (.cells cs 3 (0,0)):=fun cs' h=>by cases h
theorem own_keep {W Y:World} {b:Nat} {v:Value} {n:Nat} {xs:List Value} {B:Nat} (h:W.ownsRow B 3 1 v n xs) (hB:b<B) (hk:RK b W Y):Y.ownsRow B 3 1 v n xs:=by
 refine⟨h.1,?_⟩
 rcases h.2 with hn | ⟨g,cap,cur,rfl,hb,hgg,rest⟩
 ·exact .inl hn
 ·exact .inr ⟨g,cap,cur,rfl,hb,hk.keep g _ hgg (by omega) .int,rest⟩
theorem rd_own_same {W Y:World} {e:TypeId} {s:Nat} {v:Value} {n:Nat} {xs:List Value} {B:Nat} (h:W.ownsRow B e s v n xs) (hk:∀k,v.ownBlock=some k→Y.heap[k]?=W.heap[k]?):Y.ownsRow B e s v n xs:=by
 refine⟨h.1,?_⟩
 rcases h.2 with hn | ⟨g,cap,cur,rfl,hb,hgg,rest⟩
 ·exact .inl hn
 ·exact .inr ⟨g,cap,cur,rfl,hb,(hk g rfl).trans hgg,rest⟩
theorem ExsOwn.same {W Y:World} {b:Nat} {xb:Nat→Prop} {v:Value} {l:List Ex} (h:ExsOwn W b xb v l) (hk:∀k,b<k→k<W.heap.size→Y.heap[k]?=W.heap[k]?):ExsOwn Y b xb v l:=by
 obtain⟨q,h1,h2,h3⟩:=h
 exact⟨q,h1,rd_own_same h2 fun k e=>hk k (by have:=(h2.lt k e).1;omega) (h2.lt k e).2,fun p hp=>⟨rd_own_same (h3 p hp).1 fun k e=>hk k (by have:=((h3 p hp).1.lt k e).1;omega) ((h3 p hp).1.lt k e).2,(h3 p hp).2⟩⟩
theorem Rd.size {W:World} {b g cap:Nat} {dv:Value} {ts:List Tok} {xb:Nat→Prop} {σ:RS} (h:Rd W b g cap dv ts xb σ):b<W.heap.size:=by
 obtain⟨o,c,h1,_⟩:=h.blk;exact heap_lt h1
theorem row_low {W Y:World} {g:Nat} {ts:List Tok} (h:RowAt W g ts) (hk:Y.heap[g]?=W.heap[g]?):RowAt Y g ts:=by
 have hlt:g<Y.heap.size:=by
  have h1:=h.1
  rcases Nat.lt_or_ge g Y.heap.size with h2 | h2
  ·exact h2
  ·rw[Array.getElem?_eq_none h2,Array.getElem?_eq_getElem h1] at hk;cases hk
 refine⟨hlt,fun i t hi=>?_⟩
 obtain⟨h1,h2,h3,h4⟩:=h.2 i t hi
 have hc:∀(j:Nat),Y.cell? ⟨g,j,none⟩=W.cell? ⟨g,j,none⟩:=fun j=>World.cell?_of_block (a:=⟨g,j,none⟩) hk
 exact⟨(hc _).trans h1,(hc _).trans h2,(hc _).trans h3,(hc _).trans h4⟩
theorem Rd.below {W Y:World} {b g cap:Nat} {dv:Value} {ts:List Tok} {xb:Nat→Prop} {σ:RS} (h:Rd W b g cap dv ts xb σ) (hb:Below W.heap.size W Y):Rd Y b g cap dv ts xb σ:=by
 have hs:=h.size
 obtain⟨o,c,h1,h2⟩:=h.blk
 exact⟨fun k hk=>Nat.lt_of_lt_of_le (h.xlt k hk) hb.size,⟨o,c,(hb.block b hs).trans h1,h2.same fun k _ hk=>hb.block k hk⟩,row_low h.row (hb.block g (by have:=h.lt;omega)),h.lt,h.at_,h.len,h.ends⟩
theorem Rd.alloc {W:World} {b g cap:Nat} {dv:Value} {ts:List Tok} {xb:Nat→Prop} {σ:RS} (h:Rd W b g cap dv ts xb σ) (o:Obj):Rd (W.alloc o) b g cap dv ts xb σ:=h.below ((qB _ _).alloc (qL _) o)
theorem set_blk {W:World} {g:Nat} {cs:Array Value} {T:TypeId} {fr:Nat×Nat} (h:W.heap[g]?=some (.cells cs T fr)) (i:Nat) (v:Value):(W.setCell ⟨g,i,none⟩ v).heap[g]?=some (.cells (cs.setIfInBounds i v) T fr):=Lx.set_heap h i v
theorem Rd.setOne {W:World} {b g cap:Nat} {dv:Value} {ts:List Tok} {xb:Nat→Prop} {σ τ:RS} (h:Rd W b g cap dv ts xb σ) (i:Nat) (v:Value) (he:τ.exprs=σ.exprs) (ht:τ.at_<ts.length)
  (hc:∀x,(#[.slice (some ⟨g,0,none⟩) ts.length cap,.int .i64 (σ.at_:Int),dv,x,.int .i64 σ.deep,.int .i64 σ.code,.int .i64 σ.pos]:Array Value).setIfInBounds i v=#[.slice (some ⟨g,0,none⟩) ts.length cap,.int .i64 (τ.at_:Int),dv,x,.int .i64 τ.deep,.int .i64 τ.code,.int .i64 τ.pos]) :
  Rd (W.setCell ⟨b,i,none⟩ v) b g cap dv ts xb τ:=by
 obtain⟨o,c,h1,h2⟩:=h.blk
 refine⟨fun k hk=>Nat.lt_of_lt_of_le (h.xlt k hk) ((qB b W).setCell (p:=⟨b,i,none⟩) (qL _) v).size,⟨o,c,?_,?_⟩,row_low h.row (Below.heap_setCell W ⟨b,i,none⟩ v g (by have:=h.lt;simp;omega)),h.lt,ht,h.len,h.ends⟩
 ·rw[he,set_blk h1,hc]
 ·rw[he];exact h2.same fun k hk _=>Below.heap_setCell W ⟨b,i,none⟩ v k (by simp;omega)
theorem Rd.setAt {W:World} {b g cap:Nat} {dv:Value} {ts:List Tok} {xb:Nat→Prop} {σ:RS} (h:Rd W b g cap dv ts xb σ) (hk:(tokL ts σ.at_).kind≠5):Rd (W.setCell ⟨b,1,none⟩ (.int .i64 ((σ.at_:Int)+1))) b g cap dv ts xb (stepS σ) :=
 h.setOne 1 _ rfl (h.ends.next h.at_ hk) fun x=>by simp[stepS]
theorem Rd.setDeep {W:World} {b g cap:Nat} {dv:Value} {ts:List Tok} {xb:Nat→Prop} {σ:RS} (h:Rd W b g cap dv ts xb σ) (d:Int):Rd (W.setCell ⟨b,4,none⟩ (.int .i64 d)) b g cap dv ts xb { σ with deep:=d } :=
 h.setOne 4 _ rfl h.at_ fun x=>by simp
theorem Rd.setBad {W:World} {b g cap:Nat} {dv:Value} {ts:List Tok} {xb:Nat→Prop} {σ:RS} (h:Rd W b g cap dv ts xb σ) (c p:Int):Rd ((W.setCell ⟨b,5,none⟩ (.int .i64 c)).setCell ⟨b,6,none⟩ (.int .i64 p)) b g cap dv ts xb { σ with code:=c,pos:=p }:=by
 have h1:Rd (W.setCell ⟨b,5,none⟩ (.int .i64 c)) b g cap dv ts xb { σ with code:=c }:=h.setOne 5 _ rfl h.at_ fun x=>by simp
 exact h1.setOne 6 _ rfl h.at_ fun x=>by simp
structure RdCells (W:World) (b g cap:Nat) (ts:List Tok) (at_:Nat) (n:Nat) (o:Option Addr) (c:Nat) (deep code pos:Int):Prop where
 c0:W.cell? ⟨b,0,none⟩=some (.slice (some ⟨g,0,none⟩) ts.length cap)
 c1:W.cell? ⟨b,1,none⟩=some (.int .i64 (at_:Int))
 c3:W.cell? ⟨b,3,none⟩=some (.slice o n c)
 c4:W.cell? ⟨b,4,none⟩=some (.int .i64 deep)
 c5:W.cell? ⟨b,5,none⟩=some (.int .i64 code)
 c6:W.cell? ⟨b,6,none⟩=some (.int .i64 pos)
 fr:∀i,W.frozen? ⟨b,i,none⟩=false
theorem Rd.cells {W:World} {b g cap:Nat} {dv:Value} {ts:List Tok} {xb:Nat→Prop} {σ:RS} (h:Rd W b g cap dv ts xb σ):∃o c,RdCells W b g cap ts σ.at_ σ.exprs.length o c σ.deep σ.code σ.pos∧ExsOwn W b xb (.slice o σ.exprs.length c) σ.exprs:=by
 obtain⟨o,c,h1,h2⟩:=h.blk
 exact⟨o,c,⟨by simp[World.cell?,h1],by simp[World.cell?,h1],by simp[World.cell?,h1],by simp[World.cell?,h1],by simp[World.cell?,h1],by simp[World.cell?,h1],fun i=>by simp[World.frozen?,h1]⟩,h2⟩
theorem Rd.tok {W:World} {b g cap:Nat} {dv:Value} {ts:List Tok} {xb:Nat→Prop} {σ:RS} (h:Rd W b g cap dv ts xb σ):CellsAt W g σ.at_ (tokL ts σ.at_) :=
 h.row.2 _ _ (by unfold tokL;rw[List.getD_eq_getElem?_getD,List.getElem?_eq_getElem h.at_];rfl)
def RdRet (b g cap:Nat) (dv:Value) (ts:List Tok) (xb:Nat→Prop) (W:World) (v:Value) (σ:RS) (r:Ending) (Y:World):Prop:=r=.returned v∧Rd Y b g cap dv ts xb σ∧RK b W Y
theorem cell_set2 {W:World} {b i j c k:Nat} {x y v:Value} (h:W.cell? ⟨c,k,none⟩=some v) (hn:c≠b∨(k≠i∧k≠j)):((W.setCell ⟨b,i,none⟩ x).setCell ⟨b,j,none⟩ y).drew.cell? ⟨c,k,none⟩=some v:=by
 show((W.setCell ⟨b,i,none⟩ x).setCell ⟨b,j,none⟩ y).cell? ⟨c,k,none⟩=some v
 rw[World.cell?_setCell_other _ _ _ _ (by intro e;injection e with e1 e2;omega),World.cell?_setCell_other _ _ _ _ (by intro e;injection e with e1 e2;omega)]
 exact h
theorem fail_any (b g cap:Nat) (dv:Value) (ts:List Tok) (xb:Nat→Prop) (σ:RS) (e:Int) (W:World) (h:Hid (Rd W b g cap dv ts xb σ)) :
  Calls prog 28 #[.pointer (some ⟨b,0,none⟩),.int .i64 e] W fun r Y=>RdRet b g cap dv ts xb W (.tuple #[]) (failS ts e σ) r Y:=by
 obtain⟨o,c,⟨c0,c1,c3,c4,c5,c6,fr⟩,hx⟩:=h.out.cells
 have ht:=h.out.tok
 have hgb:g≠b:=by have:=h.out.lt;omega
 have hl:=h.out.at_
 have hn:=h.out.len
 obtain⟨t0,t1,t2,t3⟩:=ht
 obtain⟨n,hnn⟩:∃n,n=ts.length:=⟨_,rfl⟩
 obtain⟨a,haa⟩:∃a,a=σ.at_:=⟨_,rfl⟩
 obtain⟨cd,hcd⟩:∃cd,cd=σ.code:=⟨_,rfl⟩
 obtain⟨ps,hps⟩:∃ps,ps=σ.pos:=⟨_,rfl⟩
 obtain⟨dp,hdp⟩:∃dp,dp=σ.deep:=⟨_,rfl⟩
 obtain⟨kd,hkd⟩:∃kd,kd=(tokL ts σ.at_).kind:=⟨_,rfl⟩
 obtain⟨tx,htx⟩:∃tx,tx=(tokL ts σ.at_).text:=⟨_,rfl⟩
 obtain⟨tv,htv⟩:∃tv,tv=(tokL ts σ.at_).v:=⟨_,rfl⟩
 obtain⟨p,hp⟩:∃p,p=(tokL ts σ.at_).at_:=⟨_,rfl⟩
 rw[←hnn] at c0 hl hn
 rw[←hkd] at t0
 rw[←htx] at t1
 rw[←htv] at t2
 rw[←hp] at t3
 rw[←haa] at c1 t0 t1 t2 t3 hl
 rw[←hcd] at c5
 rw[←hdp] at c4
 rw[←hps] at c6
 have k0:((a:Nat):Int)<(n:Int):=by omega
 have f1:=fr 1
 have f4:=fr 4
 have f5:=fr 5
 have f6:=fr 6
 have HCD:=Hd hcd
 have HPS:=Hd hps
 have HDP:=Hd hdp
 have HKD:=Hd hkd
 have HTX:=Hd htx
 have HTV:=Hd htv
 have HP:=Hd hp
 have HAA:=Hd haa
 have HNN:=Hd hnn
 clear fr hx hnn haa hcd hps hdp hkd htx htv hp c3
 by_cases hz:cd=0
 ·subst hz
  have d5:W.drew.cell? ⟨b,5,none⟩=some (.int .i64 0):=c5
  have d6:W.drew.cell? ⟨b,6,none⟩=some (.int .i64 ps):=c6
  have e5:W.drew.frozen? ⟨b,5,none⟩=false:=f5
  have e6:W.drew.frozen? ⟨b,6,none⟩=false:=f6
  go_enter Tryz.func28,Tryz.ntmps28
  go_wp2_with fail
  go_region_held3 (fun w'=>w'.cell? ⟨b,0,none⟩=some (.slice (some ⟨g,0,none⟩) n cap)∧w'.cell? ⟨b,1,none⟩=some (.int .i64 (a:Int))∧w'.cell? ⟨g,a*4+3,none⟩=some (.int .i64 (p:Int)))
   ((repeat' apply And.intro) <;> first | assumption | exact cell_set2 (by assumption) (by omega) | go_keep)
   (fail)
  go_wp2_with fail
  go_end0
  have hf:failS ts e σ={ σ with code:=e,pos:=(p:Int) }:=by unfold failS;rw[if_pos HCD.out.symm,HP.out]
  rw[hf]
  have hb:=below_dr (qB W.heap.size W) 1
  exact⟨rfl,(h.out.below hb).setBad e p,(RK.of_below hb (ql h.out.size)).trans ((RK.set 5 _).trans (RK.set 6 _))⟩
 ·have k1:(cd ==0)=false:=beq_false_of_ne hz
  go_enter Tryz.func28,Tryz.ntmps28
  go_wp2_with fail
  go_end0
  have hf:failS ts e σ=σ:=by unfold failS;rw[if_neg (by rw[←HCD.out];exact hz)]
  rw[hf]
  exact⟨rfl,h.out,RK.refl _ _⟩
theorem is_any (b g cap:Nat) (dv:Value) (ts:List Tok) (xb:Nat→Prop) (σ:RS) (s:List UInt8) (W:World) (h:Hid (Rd W b g cap dv ts xb σ)) :
  Calls prog 52 #[.pointer (some ⟨b,0,none⟩),.string (str s)] W fun r Y=>r=.returned (.bool (isS ts s σ))∧Below W.heap.size W Y:=by
 obtain⟨o,c,⟨c0,c1,c3,c4,c5,c6,fr⟩,hx⟩:=h.out.cells
 have ht:=h.out.tok
 have hgb:g≠b:=by have:=h.out.lt;omega
 have hl:=h.out.at_
 have hn:=h.out.len
 obtain⟨t0,t1,t2,t3⟩:=ht
 obtain⟨n,hnn⟩:∃n,n=ts.length:=⟨_,rfl⟩
 obtain⟨a,haa⟩:∃a,a=σ.at_:=⟨_,rfl⟩
 obtain⟨cd,hcd⟩:∃cd,cd=σ.code:=⟨_,rfl⟩
 obtain⟨ps,hps⟩:∃ps,ps=σ.pos:=⟨_,rfl⟩
 obtain⟨dp,hdp⟩:∃dp,dp=σ.deep:=⟨_,rfl⟩
 obtain⟨kd,hkd⟩:∃kd,kd=(tokL ts σ.at_).kind:=⟨_,rfl⟩
 obtain⟨tx,htx⟩:∃tx,tx=(tokL ts σ.at_).text:=⟨_,rfl⟩
 obtain⟨tv,htv⟩:∃tv,tv=(tokL ts σ.at_).v:=⟨_,rfl⟩
 obtain⟨p,hp⟩:∃p,p=(tokL ts σ.at_).at_:=⟨_,rfl⟩
 rw[←hnn] at c0 hl hn
 rw[←hkd] at t0
 rw[←htx] at t1
 rw[←htv] at t2
 rw[←hp] at t3
 rw[←haa] at c1 t0 t1 t2 t3 hl
 rw[←hcd] at c5
 rw[←hdp] at c4
 rw[←hps] at c6
 have k0:((a:Nat):Int)<(n:Int):=by omega
 have f1:=fr 1
 have f4:=fr 4
 have f5:=fr 5
 have f6:=fr 6
 have HCD:=Hd hcd
 have HPS:=Hd hps
 have HDP:=Hd hdp
 have HKD:=Hd hkd
 have HTX:=Hd htx
 have HTV:=Hd htv
 have HP:=Hd hp
 have HAA:=Hd haa
 have HNN:=Hd hnn
 clear fr hx hnn haa hcd hps hdp hkd htx htv hp c3
 have hgs:g<W.heap.size:=by have:=h.out.lt;have:=h.out.size;omega
 have hbs:b<W.heap.size:=h.out.size
 obtain⟨R,hR⟩:∃R,R=isS ts s σ:=⟨_,rfl⟩
 rw[←hR]
 have HR:Hid (R=(decide (cd=0)&&((decide (kd=3)||decide (kd=4))&&tx ==s))):=Hd (by rw[hR,HCD.out,HKD.out,HTX.out];rfl)
 clear hR
 have HB:=Hd (((qB W.heap.size W).alloc (qL _) (.cells #[.int .i64 (kd:Int),.string (str tx),.int .i64 tv,.int .i64 (p:Int)] 76)).drew)
 obtain⟨b5,x0,x1⟩:(W.alloc (.cells #[.int .i64 (kd:Int),.string (str tx),.int .i64 tv,.int .i64 (p:Int)] 76)).drew.cell? ⟨b,5,none⟩=some (.int .i64 cd) ∧
   (W.alloc (.cells #[.int .i64 (kd:Int),.string (str tx),.int .i64 tv,.int .i64 (p:Int)] 76)).drew.cell? ⟨W.heap.size,0,none⟩=some (.int .i64 (kd:Int)) ∧
   (W.alloc (.cells #[.int .i64 (kd:Int),.string (str tx),.int .i64 tv,.int .i64 (p:Int)] 76)).drew.cell? ⟨W.heap.size,1,none⟩=some (.string (str tx)) :=
  ⟨(HB.out.cell (p:=⟨b,5,none⟩) hbs).trans c5,by show(W.alloc _).cell? _=_;rw[World.cell?_alloc_new];rfl,by show(W.alloc _).cell? _=_;rw[World.cell?_alloc_new];rfl⟩
 by_cases hz:cd=0
 ·subst hz
  by_cases h3:kd=3
  ·subst h3
   by_cases he:tx=s
   ·have hq:((str tx).toList ==(str s).toList)=true:=by rw[he];simp
    have HE:=Hd he
    clear he
    go_enter Tryz.func52,Tryz.ntmps52
    go_wp2_with fail
    go_region_held3 (fun w'=>w'.cell? ⟨b,0,none⟩=some (.slice (some ⟨g,0,none⟩) n cap)∧w'.cell? ⟨b,1,none⟩=some (.int .i64 (a:Int))∧w'.cell? ⟨g,a*4,none⟩=some (.int .i64 (3:Int))∧w'.cell? ⟨g,a*4+1,none⟩=some (.string (str tx))∧w'.cell? ⟨g,a*4+2,none⟩=some (.int .i64 tv)∧w'.cell? ⟨g,a*4+3,none⟩=some (.int .i64 (p:Int)))
     ((repeat' apply And.intro) <;> first | assumption | go_keep)
     (fail)
    go_wp2_with fail
    go_ret
    exact⟨by rw[HR.out];simp[HE.out],HB.out⟩
   ·have hq:((str tx).toList ==(str s).toList)=false:=by rw[bytes_eq];exact beq_false_of_ne he
    have HE:=Hd he
    clear he
    go_enter Tryz.func52,Tryz.ntmps52
    go_wp2_with fail
    go_region_held3 (fun w'=>w'.cell? ⟨b,0,none⟩=some (.slice (some ⟨g,0,none⟩) n cap)∧w'.cell? ⟨b,1,none⟩=some (.int .i64 (a:Int))∧w'.cell? ⟨g,a*4,none⟩=some (.int .i64 (3:Int))∧w'.cell? ⟨g,a*4+1,none⟩=some (.string (str tx))∧w'.cell? ⟨g,a*4+2,none⟩=some (.int .i64 tv)∧w'.cell? ⟨g,a*4+3,none⟩=some (.int .i64 (p:Int)))
     ((repeat' apply And.intro) <;> first | assumption | go_keep)
     (fail)
    go_wp2_with fail
    go_ret
    exact⟨by rw[HR.out];simp[HE.out],HB.out⟩
  ·have n3:((kd:Int) ==3)=false:=beq_false_of_ne (by omega)
   by_cases h4:kd=4
   ·subst h4
    by_cases he:tx=s
    ·have hq:((str tx).toList ==(str s).toList)=true:=by rw[he];simp
     have HE:=Hd he
     clear he
     go_enter Tryz.func52,Tryz.ntmps52
     go_wp2_with fail
     go_region_held3 (fun w'=>w'.cell? ⟨b,0,none⟩=some (.slice (some ⟨g,0,none⟩) n cap)∧w'.cell? ⟨b,1,none⟩=some (.int .i64 (a:Int))∧w'.cell? ⟨g,a*4,none⟩=some (.int .i64 (4:Int))∧w'.cell? ⟨g,a*4+1,none⟩=some (.string (str tx))∧w'.cell? ⟨g,a*4+2,none⟩=some (.int .i64 tv)∧w'.cell? ⟨g,a*4+3,none⟩=some (.int .i64 (p:Int)))
      ((repeat' apply And.intro) <;> first | assumption | go_keep)
      (fail)
     go_wp2_with fail
     go_ret
     exact⟨by rw[HR.out];simp[HE.out],HB.out⟩
    ·have hq:((str tx).toList ==(str s).toList)=false:=by rw[bytes_eq];exact beq_false_of_ne he
     have HE:=Hd he
     clear he
     go_enter Tryz.func52,Tryz.ntmps52
     go_wp2_with fail
     go_region_held3 (fun w'=>w'.cell? ⟨b,0,none⟩=some (.slice (some ⟨g,0,none⟩) n cap)∧w'.cell? ⟨b,1,none⟩=some (.int .i64 (a:Int))∧w'.cell? ⟨g,a*4,none⟩=some (.int .i64 (4:Int))∧w'.cell? ⟨g,a*4+1,none⟩=some (.string (str tx))∧w'.cell? ⟨g,a*4+2,none⟩=some (.int .i64 tv)∧w'.cell? ⟨g,a*4+3,none⟩=some (.int .i64 (p:Int)))
      ((repeat' apply And.intro) <;> first | assumption | go_keep)
      (fail)
     go_wp2_with fail
     go_ret
     exact⟨by rw[HR.out];simp[HE.out],HB.out⟩
   ·have n4:((kd:Int) ==4)=false:=beq_false_of_ne (by omega)
    go_enter Tryz.func52,Tryz.ntmps52
    go_wp2_with fail
    go_region_held3 (fun w'=>w'.cell? ⟨b,0,none⟩=some (.slice (some ⟨g,0,none⟩) n cap)∧w'.cell? ⟨b,1,none⟩=some (.int .i64 (a:Int))∧w'.cell? ⟨g,a*4,none⟩=some (.int .i64 (kd:Int))∧w'.cell? ⟨g,a*4+1,none⟩=some (.string (str tx))∧w'.cell? ⟨g,a*4+2,none⟩=some (.int .i64 tv)∧w'.cell? ⟨g,a*4+3,none⟩=some (.int .i64 (p:Int)))
     ((repeat' apply And.intro) <;> first | assumption | go_keep)
     (fail)
    go_wp2_with fail
    go_ret
    exact⟨by rw[HR.out];simp[h3,h4],HB.out⟩
 ·have n0:(cd ==0)=false:=beq_false_of_ne hz
  go_enter Tryz.func52,Tryz.ntmps52
  go_wp2_with fail
  go_region_held3 (fun w'=>w'.cell? ⟨b,0,none⟩=some (.slice (some ⟨g,0,none⟩) n cap)∧w'.cell? ⟨b,1,none⟩=some (.int .i64 (a:Int))∧w'.cell? ⟨g,a*4,none⟩=some (.int .i64 (kd:Int))∧w'.cell? ⟨g,a*4+1,none⟩=some (.string (str tx))∧w'.cell? ⟨g,a*4+2,none⟩=some (.int .i64 tv)∧w'.cell? ⟨g,a*4+3,none⟩=some (.int .i64 (p:Int)))
   ((repeat' apply And.intro) <;> first | assumption | go_keep)
   (fail)
  go_wp2_with fail
  go_ret
  exact⟨by rw[HR.out];simp[hz],HB.out⟩
def levA:Array Value:=(levelsL.map fun p=>Value.string (str p.1)).toArray
def levB:Array Value:=(levelsL.map fun p=>Value.int .i64 p.2.1).toArray
def levC:Array Value:=(levelsL.map fun p=>Value.int .i64 p.2.2).toArray
theorem map_cell {α:Type} (W:World) (l:List α) (f:α→Value) (T:TypeId) (j:Nat) (x:α) (h:l[j]?=some x):(W.alloc (.cells (l.map f).toArray T)).cell? ⟨W.heap.size,j,none⟩=some (f x):=by
 rw[World.cell?_alloc_new,List.getElem?_toArray,List.getElem?_map,h];rfl
theorem level_hit {ts:List Tok} {σ:RS} {j:Nat} {p:List UInt8×Int×Int} (h:levelsL[j]?=some p) (hno:(levelsL.take j).all (fun q=>!isS ts q.1 σ)=true) (hp:isS ts p.1 σ=true):levelS ts σ=p.2:=by
 have:levelsL.find? (fun q=>isS ts q.1 σ)=some p:=by
  have hl:=(List.getElem?_eq_some_iff.1 h).1
  have e:levelsL=levelsL.take j++p :: levelsL.drop (j+1):=by
   rw[←(List.getElem?_eq_some_iff.1 h).2];simp
  rw[e,List.find?_append,List.find?_eq_none.2 (fun x hx=>by simpa using List.all_eq_true.1 hno x hx),Option.none_or]
  simp[hp]
 unfold levelS levelIn
 rw[this]
theorem level_none {ts:List Tok} {σ:RS} (hno:levelsL.all (fun q=>!isS ts q.1 σ)=true):levelS ts σ=(0,0):=by
 have:levelsL.find? (fun q=>isS ts q.1 σ)=none:=List.find?_eq_none.2 (fun x hx=>by simpa using List.all_eq_true.1 hno x hx)
 unfold levelS levelIn
 rw[this]
theorem level_any (b g cap:Nat) (dv:Value) (ts:List Tok) (xb:Nat→Prop) (σ:RS) (W:World) (h:Hid (Rd W b g cap dv ts xb σ)) (L K:Int) (hLK:Hid (levelS ts σ=(L,K))) :
  Calls prog 73 #[.pointer (some ⟨b,0,none⟩)] W fun r Y=>r=.returned (.tuple #[.int .i64 L,.int .i64 K])∧Below W.heap.size W Y:=by
 have IS:=Hd (fun s W h=>is_any b g cap dv ts xb σ s W h)
 obtain⟨W1,hW1⟩:∃W1,W1=((W.alloc (.cells levA 9)).alloc (.cells levB 3)).alloc (.cells levC 3):=⟨_,rfl⟩
 have hb1:Below W.heap.size W W1:=by rw[hW1];exact(((qB _ _).alloc (qL _) _).alloc (by simp) _).alloc (by simp;omega) _
 have hs1:W1.heap.size=W.heap.size+3:=by rw[hW1];simp
 have hcell:∀(j:Nat) p,levelsL[j]?=some p→W1.cell? ⟨W.heap.size,j,none⟩=some (.string (str p.1))∧W1.cell? ⟨W.heap.size+1,j,none⟩=some (.int .i64 p.2.1)∧W1.cell? ⟨W.heap.size+1+1,j,none⟩=some (.int .i64 p.2.2):=fun j p hp=>by
  have hA:=map_cell W levelsL (fun p=>Value.string (str p.1)) 9 j p hp
  have hB:=map_cell (W.alloc (.cells levA 9)) levelsL (fun p=>Value.int .i64 p.2.1) 3 j p hp
  have hC:=map_cell ((W.alloc (.cells levA 9)).alloc (.cells levB 3)) levelsL (fun p=>Value.int .i64 p.2.2) 3 j p hp
  rw[World.size_alloc] at hB
  rw[World.size_alloc,World.size_alloc] at hC
  refine⟨?_,?_,?_⟩
  ·rw[hW1,World.cell?_alloc_old _ _ _ (by simp;omega),World.cell?_alloc_old _ _ _ (by simp)];exact hA
  ·rw[hW1,World.cell?_alloc_old _ _ _ (by simp)];exact hB
  ·rw[hW1];exact hC
 have HB1:=Hd hb1
 have HS1:=Hd hs1
 have HC:=Hd hcell
 clear hb1 hs1 hcell
 go_enter Tryz.func73,Tryz.ntmps73
 go_wp2_with fail
 change Code.wp _ _ _ _ (((W.alloc (.cells levA 9)).alloc (.cells levB 3)).alloc (.cells levC 3))
 rw[←hW1]
 clear hW1
 go_loopw [7] (fun i wr=>∃j:Nat,j≤9∧Hid ((levelsL.take j).all (fun q=>!isS ts q.1 σ)=true)∧i=.int .i64 j∧Hid (Below W1.heap.size W1 wr)) (fun i _=>9-litLen i)
 case atStart=>exact⟨0,by omega,Hd rfl,rfl,Hd (qB _ _)⟩
 case round =>
  obtain⟨j,hj,hno,rfl,hB⟩:=hrel
  have HBW:=Hd (HB1.out.trans (hB.out.mono HB1.out.size))
  rcases Nat.lt_or_ge j 9 with hlt | hge
  ·have q3:decide ((j:Int)<9)=true:=qT (by omega)
   obtain⟨p,hp⟩:∃p,levelsL[j]?=some p:=⟨levelsL[j]'(by show j<9;exact hlt),List.getElem?_eq_getElem _⟩
   obtain⟨a1,a2,a3⟩:=HC.out j p hp
   have up:∀{x i v},x<W.heap.size+3→W1.cell? ⟨x,i,none⟩=some v→wr.cell? ⟨x,i,none⟩=some v:=fun {x i v} hx hh=>(hB.out.cell (p:=⟨x,i,none⟩) (by have:=HS1.out;show x<_;omega)).trans hh
   have c1:=up (by omega) a1
   have c2:=up (by omega) a2
   have c3:=up (by omega) a3
   have hsw:Hid (W.heap.size+3≤wr.heap.size):=Hd (by have:=hB.out.size;have:=HS1.out;omega)
   obtain⟨s,L1,K1⟩:=p
   dsimp only at c1 c2 c3
   have HP:=Hd hp
   clear a1 a2 a3 up hp
   have hr:=Hd (h.out.below HBW.out)
   have jr:(j:Int)<9:=by omega
   cases hR:isS ts s σ with
   | true =>
    have C:Hid (Calls prog 52 #[.pointer (some ⟨b,0,none⟩),.string (str s)] wr fun r Y=>r=.returned (.bool true)∧Below wr.heap.size wr Y∧Y.cell? ⟨W.heap.size+1,j,none⟩=some (.int .i64 L1)∧Y.cell? ⟨W.heap.size+1+1,j,none⟩=some (.int .i64 K1)):=Hd ((IS.out s wr hr).mono fun r Y ⟨e1,e2⟩=>by
     rw[hR] at e1
     exact⟨e1,e2,(e2.cell (p:=⟨W.heap.size+1,j,none⟩) (by have:=hsw.out;show W.heap.size+1<_;omega)).trans c2,(e2.cell (p:=⟨W.heap.size+1+1,j,none⟩) (by have:=hsw.out;show W.heap.size+1+1<_;omega)).trans c3⟩)
    have hv:=level_hit HP.out hno.out hR
    have HV:Hid (L=L1∧K=K1):=Hd (by rw[hLK.out] at hv;cases hv;exact⟨rfl,rfl⟩)
    clear hR hv
    go_wp2_with (go_at_call 52;(with_reducible refine C.out.mono ?_);rintro e w1 ⟨rfl,hb,y2,y3⟩;have HB:=Hd hb;clear hb)
    go_quiet (fail)
    go_wp2_with fail
    go_ret2
    obtain⟨rfl,rfl⟩:=HV.out
    exact⟨rfl,below_dr (HBW.out.trans (HB.out.mono HBW.out.size)) _⟩
   | false =>
    have C:Hid (Calls prog 52 #[.pointer (some ⟨b,0,none⟩),.string (str s)] wr fun r Y=>r=.returned (.bool false)∧Below wr.heap.size wr Y):=Hd ((IS.out s wr hr).mono fun r Y ⟨e1,e2⟩=>by
     rw[hR] at e1;exact⟨e1,e2⟩)
    have HN:=Hd (all_take_next (fun q:List UInt8×Int×Int=>!isS ts q.1 σ) HP.out hno.out (by show(!isS ts s σ)=true;rw[hR];rfl))
    clear hR
    go_wp2_with (go_at_call 52;(with_reducible refine C.out.mono ?_);rintro e w1 ⟨rfl,hb⟩;have HB:=Hd hb;clear hb)
    exact⟨⟨j+1,by omega,HN,rfl,Hd (hB.out.trans (HB.out.mono hB.out.size))⟩,by simp[litLen];omega⟩
  ·have q3:decide ((j:Int)<9)=false:=qF (by omega)
   have HV:Hid (L=0∧K=0):=Hd (by
    have hv:=level_none (ts:=ts) (σ:=σ) (by have:=hno.out;rwa [List.take_of_length_le (show levelsL.length≤j by show 9≤j;omega)] at this)
    rw[hLK.out] at hv;cases hv;exact⟨rfl,rfl⟩)
   go_wp2_with fail
   go_ret2
   obtain⟨rfl,rfl⟩:=HV.out
   exact⟨rfl,HBW.out⟩
def IsRet (b a:Nat) (R:Bool) (W:World) (r:Ending) (Y:World):Prop:=r=.returned (.bool R)∧Below W.heap.size W Y∧Y.cell? ⟨b,1,none⟩=some (.int .i64 (a:Int))∧Y.frozen? ⟨b,1,none⟩=false
theorem took_any (b g cap:Nat) (dv:Value) (ts:List Tok) (xb:Nat→Prop) (σ:RS) (s:List UInt8) (W:World) (h:Hid (Rd W b g cap dv ts xb σ)) :
  Calls prog 48 #[.pointer (some ⟨b,0,none⟩),.string (str s)] W fun r Y=>RdRet b g cap dv ts xb W (.bool (isS ts s σ)) (tookS ts s σ) r Y:=by
 have hI:=is_any b g cap dv ts xb σ s W h
 obtain⟨o,c,⟨c0,c1,c3,c4,c5,c6,fr⟩,hx⟩:=h.out.cells
 have ht:=h.out.tok
 have hgb:g≠b:=by have:=h.out.lt;omega
 have hl:=h.out.at_
 have hn:=h.out.len
 obtain⟨t0,t1,t2,t3⟩:=ht
 obtain⟨n,hnn⟩:∃n,n=ts.length:=⟨_,rfl⟩
 obtain⟨a,haa⟩:∃a,a=σ.at_:=⟨_,rfl⟩
 obtain⟨cd,hcd⟩:∃cd,cd=σ.code:=⟨_,rfl⟩
 obtain⟨ps,hps⟩:∃ps,ps=σ.pos:=⟨_,rfl⟩
 obtain⟨dp,hdp⟩:∃dp,dp=σ.deep:=⟨_,rfl⟩
 obtain⟨kd,hkd⟩:∃kd,kd=(tokL ts σ.at_).kind:=⟨_,rfl⟩
 obtain⟨tx,htx⟩:∃tx,tx=(tokL ts σ.at_).text:=⟨_,rfl⟩
 obtain⟨tv,htv⟩:∃tv,tv=(tokL ts σ.at_).v:=⟨_,rfl⟩
 obtain⟨p,hp⟩:∃p,p=(tokL ts σ.at_).at_:=⟨_,rfl⟩
 rw[←hnn] at c0 hl hn
 rw[←hkd] at t0
 rw[←htx] at t1
 rw[←htv] at t2
 rw[←hp] at t3
 rw[←haa] at c1 t0 t1 t2 t3 hl
 rw[←hcd] at c5
 rw[←hdp] at c4
 rw[←hps] at c6
 have k0:((a:Nat):Int)<(n:Int):=by omega
 have f1:=fr 1
 have f4:=fr 4
 have f5:=fr 5
 have f6:=fr 6
 have HCD:=Hd hcd
 have HPS:=Hd hps
 have HDP:=Hd hdp
 have HKD:=Hd hkd
 have HTX:=Hd htx
 have HTV:=Hd htv
 have HP:=Hd hp
 have HAA:=Hd haa
 have HNN:=Hd hnn
 clear fr hx hnn haa hcd hps hdp hkd htx htv hp c3
 have ha:(a:Int)≤40000:=by omega
 have hbs:b<W.heap.size:=h.out.size
 have C:Hid (Calls prog 52 #[.pointer (some ⟨b,0,none⟩),.string (str s)] W (IsRet b a (isS ts s σ) W)):=Hd (hI.mono fun r Y hY=>⟨hY.1,hY.2,(hY.2.cell (p:=⟨b,1,none⟩) hbs).trans c1,(hY.2.frozen (p:=⟨b,1,none⟩) hbs).trans f1⟩)
 clear hI
 cases hR:isS ts s σ with
 | true =>
  rw[hR] at C
  have hk:=(isS_kind hR).1
  have HT:=Hd (show tookS ts s σ=stepS σ by unfold tookS;rw[if_pos hR])
  clear hR
  go_enter Tryz.func48,Tryz.ntmps48
  go_wp2_with (go_at_call 52;(with_reducible refine C.out.mono ?_);rintro e w1 ⟨rfl,hb,y1,y2⟩;have HB:=Hd hb;clear hb)
  go_ret
  have h1:=h.out.below HB.out
  rw[HT.out]
  have h2:=h1.setAt hk
  rw[←HAA.out] at h2
  exact⟨rfl,h2,(RK.of_below HB.out (ql hbs)).trans (RK.set 1 _)⟩
 | false =>
  rw[hR] at C
  have HT:=Hd (show tookS ts s σ=σ by unfold tookS;rw[hR];rfl)
  clear hR
  go_enter Tryz.func48,Tryz.ntmps48
  go_wp2_with (go_at_call 52;(with_reducible refine C.out.mono ?_);rintro e w1 ⟨rfl,hb,y1,y2⟩;have HB:=Hd hb;clear hb)
  go_ret
  rw[HT.out]
  exact⟨rfl,h.out.below HB.out,RK.of_below HB.out (ql hbs)⟩
theorem want_any (b g cap:Nat) (dv:Value) (ts:List Tok) (xb:Nat→Prop) (σ:RS) (s:List UInt8) (W:World) (h:Hid (Rd W b g cap dv ts xb σ)) :
  Calls prog 49 #[.pointer (some ⟨b,0,none⟩),.string (str s)] W fun r Y=>RdRet b g cap dv ts xb W (.tuple #[]) (wantS ts s σ) r Y:=by
 have C:=Hd (took_any b g cap dv ts xb σ s W h)
 cases hR:isS ts s σ with
 | true =>
  rw[hR] at C
  have HT:=Hd (show wantS ts s σ=tookS ts s σ by unfold tookS wantS;rw[if_pos hR,if_pos hR])
  clear hR
  go_enter Tryz.func49,Tryz.ntmps49
  go_wp2_with (go_at_call 48;(with_reducible refine C.out.mono ?_);rintro e w1 ⟨rfl,hr,hk⟩;have HR:=Hd hr;have HK:=Hd hk;clear hr hk)
  go_end0
  rw[HT.out]
  exact⟨rfl,HR.out,HK.out⟩
 | false =>
  rw[hR] at C
  have HT:=Hd (show tookS ts s σ=σ by unfold tookS;rw[hR];rfl)
  have HU:=Hd (show wantS ts s σ=failS ts 2 σ by unfold wantS;rw[hR];rfl)
  rw[HT.out] at C
  clear hR
  go_enter Tryz.func49,Tryz.ntmps49
  go_wp2_with (first | (go_at_call 48;(with_reducible refine C.out.mono ?_);rintro e w1 ⟨rfl,hr,hk⟩;have HR:=Hd hr;have HK:=Hd hk;clear hr hk) | (go_at_call 28;(with_reducible refine(fail_any b g cap dv ts xb σ 2 w1 HR).mono ?_);rintro e w2 ⟨rfl,hr,hk⟩;have HR2:=Hd hr;have HK2:=Hd hk;clear hr hk))
  go_end0
  rw[HU.out]
  exact⟨rfl,HR2.out,HK.out.trans HK2.out⟩
theorem name_any (b g cap:Nat) (dv:Value) (ts:List Tok) (xb:Nat→Prop) (σ:RS) (W:World) (h:Hid (Rd W b g cap dv ts xb σ)) :
  Calls prog 53 #[.pointer (some ⟨b,0,none⟩)] W fun r Y=>RdRet b g cap dv ts xb W (.string (str (nameV ts σ))) (nameS ts σ) r Y:=by
 have F:=Hd (fun W h=>fail_any b g cap dv ts xb σ 2 W h)
 obtain⟨o,c,⟨c0,c1,c3,c4,c5,c6,fr⟩,hx⟩:=h.out.cells
 have ht:=h.out.tok
 have hgb:g≠b:=by have:=h.out.lt;omega
 have hl:=h.out.at_
 have hn:=h.out.len
 obtain⟨t0,t1,t2,t3⟩:=ht
 obtain⟨n,hnn⟩:∃n,n=ts.length:=⟨_,rfl⟩
 obtain⟨a,haa⟩:∃a,a=σ.at_:=⟨_,rfl⟩
 obtain⟨cd,hcd⟩:∃cd,cd=σ.code:=⟨_,rfl⟩
 obtain⟨ps,hps⟩:∃ps,ps=σ.pos:=⟨_,rfl⟩
 obtain⟨dp,hdp⟩:∃dp,dp=σ.deep:=⟨_,rfl⟩
 obtain⟨kd,hkd⟩:∃kd,kd=(tokL ts σ.at_).kind:=⟨_,rfl⟩
 obtain⟨tx,htx⟩:∃tx,tx=(tokL ts σ.at_).text:=⟨_,rfl⟩
 obtain⟨tv,htv⟩:∃tv,tv=(tokL ts σ.at_).v:=⟨_,rfl⟩
 obtain⟨p,hp⟩:∃p,p=(tokL ts σ.at_).at_:=⟨_,rfl⟩
 rw[←hnn] at c0 hl hn
 rw[←hkd] at t0
 rw[←htx] at t1
 rw[←htv] at t2
 rw[←hp] at t3
 rw[←haa] at c1 t0 t1 t2 t3 hl
 rw[←hcd] at c5
 rw[←hdp] at c4
 rw[←hps] at c6
 have k0:((a:Nat):Int)<(n:Int):=by omega
 have f1:=fr 1
 have f4:=fr 4
 have f5:=fr 5
 have f6:=fr 6
 have HCD:=Hd hcd
 have HPS:=Hd hps
 have HDP:=Hd hdp
 have HKD:=Hd hkd
 have HTX:=Hd htx
 have HTV:=Hd htv
 have HP:=Hd hp
 have HAA:=Hd haa
 have HNN:=Hd hnn
 clear fr hx hnn haa hcd hps hdp hkd htx htv hp c3
 have ha:(a:Int)≤40000:=by omega
 have hbs:b<W.heap.size:=h.out.size
 by_cases hz:cd=0
 ·subst hz
  by_cases h1:kd=1
  ·subst h1
   have q1:((1:Int) !=1)=false:=by decide
   have HN:=Hd (show nameB ts σ=true by unfold nameB;rw[←HCD.out,←HKD.out];rfl)
   have HT:=Hd (show nameS ts σ=stepS σ by unfold nameS;rw[if_pos HN.out])
   have HV:=Hd (show nameV ts σ=tx by unfold nameV;rw[if_pos HN.out,HTX.out])
   go_enter Tryz.func53,Tryz.ntmps53
   go_wp2_with fail
   go_quiet (fail)
   go_wp2_with fail
   have v0:((W.drewN nq).setCell ⟨b,1,none⟩ (.int .i64 ((a:Int)+1))).cell? ⟨b,0,none⟩=some (.slice (some ⟨g,0,none⟩) n cap):=by rw[World.cell?_setCell_other _ _ _ _ (by simp)];exact c0
   have v1:((W.drewN nq).setCell ⟨b,1,none⟩ (.int .i64 ((a:Int)+1))).cell? ⟨b,1,none⟩=some (.int .i64 ((a:Int)+1)):=World.cell?_setCell_same (W.drewN nq) ⟨b,1,none⟩ _ c1
   have v2:((W.drewN nq).setCell ⟨b,1,none⟩ (.int .i64 ((a:Int)+1))).cell? ⟨g,a*4+1,none⟩=some (.string (str tx)):=by rw[World.cell?_setCell_other _ _ _ _ (by intro e;injection e with e1;exact hgb e1.symm)];exact t1
   have wz:IntKind.i64.wrap ((a:Int)+1-1)=(a:Int):=by rw[IntKind.wrap_i64];omega
   have HD:=Hd (below_dr (qB W.heap.size W) nq)
   have H1:Hid (Rd ((W.drewN nq).setCell ⟨b,1,none⟩ (.int .i64 ((a:Int)+1))) b g cap dv ts xb (stepS σ)):=Hd (by rw[HAA.out];exact(h.out.below HD.out).setAt (by rw[←HKD.out];decide))
   have K1:Hid (RK b W ((W.drewN nq).setCell ⟨b,1,none⟩ (.int .i64 ((a:Int)+1)))):=Hd ((RK.of_below HD.out (ql hbs)).trans (RK.set 1 _))
   go_quiet (fail)
   go_wp2_with fail
   go_ret
   rw[HT.out,HV.out]
   exact⟨rfl,H1.out.below (below_dr (qB _ _) _),K1.out.trans (RK.of_below (below_dr (qB _ _) _) (Nat.le_trans (ql hbs) K1.out.size))⟩
  ·have n1:((kd:Int) !=1)=true:=by rw[bne_iff_ne];omega
   have HN:=Hd (show nameB ts σ=false by unfold nameB;rw[←HKD.out,qF h1,Bool.and_false])
   have HT:=Hd (show nameS ts σ=failS ts 2 σ by unfold nameS;rw[HN.out];rfl)
   have HV:=Hd (show nameV ts σ=[] by unfold nameV;rw[HN.out];rfl)
   go_enter Tryz.func53,Tryz.ntmps53
   go_wp2_with fail
   go_quiet (fail)
   have HD:=Hd (below_dr (qB W.heap.size W) nq)
   have FF:=Hd (F.out (W.drewN nq) (Hd (h.out.below HD.out)))
   go_wp2_with (go_at_call 28;(with_reducible refine FF.out.mono ?_);rintro e w1 ⟨rfl,hr,hk⟩;have HR:=Hd hr;have HK:=Hd hk;clear hr hk)
   go_ret
   rw[HT.out,HV.out]
   exact⟨rfl,HR.out,(RK.of_below HD.out (ql hbs)).trans HK.out⟩
 ·have n0:(cd !=0)=true:=by rw[bne_iff_ne];exact hz
  have HN:=Hd (show nameB ts σ=false by unfold nameB;rw[←HCD.out,qF hz];rfl)
  have HT:=Hd (show nameS ts σ=failS ts 2 σ by unfold nameS;rw[HN.out];rfl)
  have HV:=Hd (show nameV ts σ=[] by unfold nameV;rw[HN.out];rfl)
  go_enter Tryz.func53,Tryz.ntmps53
  go_wp2_with fail
  go_quiet (fail)
  have HD:=Hd (below_dr (qB W.heap.size W) nq)
  have FF:=Hd (F.out (W.drewN nq) (Hd (h.out.below HD.out)))
  go_wp2_with (go_at_call 28;(with_reducible refine FF.out.mono ?_);rintro e w1 ⟨rfl,hr,hk⟩;have HR:=Hd hr;have HK:=Hd hk;clear hr hk)
  go_ret
  rw[HT.out,HV.out]
  exact⟨rfl,HR.out,(RK.of_below HD.out (ql hbs)).trans HK.out⟩
theorem enter_any (b g cap:Nat) (dv:Value) (ts:List Tok) (xb:Nat→Prop) (σ:RS) (W:World) (h:Hid (Rd W b g cap dv ts xb σ)) (d0:0≤σ.deep) (d1:σ.deep≤30) :
  Calls prog 47 #[.pointer (some ⟨b,0,none⟩)] W fun r Y=>RdRet b g cap dv ts xb W (.bool (decide ((enterS ts σ).code=0))) (enterS ts σ) r Y:=by
 have F:=Hd (fun W h=>fail_any b g cap dv ts xb σ 3 W h)
 obtain⟨o,c,⟨c0,c1,c3,c4,c5,c6,fr⟩,hx⟩:=h.out.cells
 have ht:=h.out.tok
 have hgb:g≠b:=by have:=h.out.lt;omega
 have hl:=h.out.at_
 have hn:=h.out.len
 obtain⟨t0,t1,t2,t3⟩:=ht
 obtain⟨n,hnn⟩:∃n,n=ts.length:=⟨_,rfl⟩
 obtain⟨a,haa⟩:∃a,a=σ.at_:=⟨_,rfl⟩
 obtain⟨cd,hcd⟩:∃cd,cd=σ.code:=⟨_,rfl⟩
 obtain⟨ps,hps⟩:∃ps,ps=σ.pos:=⟨_,rfl⟩
 obtain⟨dp,hdp⟩:∃dp,dp=σ.deep:=⟨_,rfl⟩
 obtain⟨kd,hkd⟩:∃kd,kd=(tokL ts σ.at_).kind:=⟨_,rfl⟩
 obtain⟨tx,htx⟩:∃tx,tx=(tokL ts σ.at_).text:=⟨_,rfl⟩
 obtain⟨tv,htv⟩:∃tv,tv=(tokL ts σ.at_).v:=⟨_,rfl⟩
 obtain⟨p,hp⟩:∃p,p=(tokL ts σ.at_).at_:=⟨_,rfl⟩
 rw[←hnn] at c0 hl hn
 rw[←hkd] at t0
 rw[←htx] at t1
 rw[←htv] at t2
 rw[←hp] at t3
 rw[←haa] at c1 t0 t1 t2 t3 hl
 rw[←hcd] at c5
 rw[←hdp] at c4
 rw[←hps] at c6
 have k0:((a:Nat):Int)<(n:Int):=by omega
 have f1:=fr 1
 have f4:=fr 4
 have f5:=fr 5
 have f6:=fr 6
 have HCD:=Hd hcd
 have HPS:=Hd hps
 have HDP:=Hd hdp
 have HKD:=Hd hkd
 have HTX:=Hd htx
 have HTV:=Hd htv
 have HP:=Hd hp
 have HAA:=Hd haa
 have HNN:=Hd hnn
 clear fr hx hnn haa hcd hps hdp hkd htx htv hp c3
 have dd0:0≤dp:=by rw[HDP.out];exact d0
 have dd1:dp≤30:=by rw[HDP.out];exact d1
 clear d0 d1
 have hbs:b<W.heap.size:=h.out.size
 by_cases hz:cd=0
 ·subst hz
  by_cases h30:dp=30
  ·subst h30
   have HT:=Hd (show enterS ts σ={ failS ts 3 σ with deep:=31 } by
    have e:tooDeep σ=true:=by unfold tooDeep;rw[←HCD.out,←HDP.out];rfl
    have e2:(failS ts 3 σ).deep=30:=by unfold failS;split <;> exact HDP.out.symm
    unfold enterS;rw[e];show { failS ts 3 σ with deep:=(failS ts 3 σ).deep+1 }=_;rw[e2];rfl)
   have HC:=Hd (show(failS ts 3 σ).deep=30∧(failS ts 3 σ).code=3 by unfold failS;rw[if_pos HCD.out.symm];exact⟨HDP.out.symm,rfl⟩)
   have F1:Hid (Calls prog 28 #[.pointer (some ⟨b,0,none⟩),.int .i64 3] W fun r Y=>r=.returned (.tuple #[])∧Y.cell? ⟨b,4,none⟩=some (.int .i64 30)∧Y.cell? ⟨b,5,none⟩=some (.int .i64 3)∧Y.frozen? ⟨b,4,none⟩=false∧Hid (Rd Y b g cap dv ts xb (failS ts 3 σ))∧Hid (RK b W Y)):=Hd ((F.out W h).mono fun r Y ⟨h1,h2,h3⟩=>by
    obtain⟨o,c,hc,_⟩:=h2.cells
    exact⟨h1,hc.c4.trans (by rw[HC.out.1]),hc.c5.trans (by rw[HC.out.2]),hc.fr 4,Hd h2,Hd h3⟩)
   go_enter Tryz.func47,Tryz.ntmps47
   go_wp2_with (go_at_call 28;(with_reducible refine F1.out.mono ?_);rintro e w1 ⟨rfl,y4,y5,z4,HR,HK⟩)
   go_ret
   rw[HT.out]
   exact⟨by show Ending.returned (Value.bool false)=Ending.returned (.bool (decide ((failS ts 3 σ).code=0)));rw[HC.out.2];rfl,HR.out.setDeep 31,HK.out.trans (RK.set 4 _)⟩
  ·have q1:(dp ==30)=false:=beq_false_of_ne h30
   have HT:=Hd (show enterS ts σ={ σ with deep:=dp+1 } by
    have e:tooDeep σ=false:=by unfold tooDeep;rw[←HDP.out,qF h30,Bool.and_false]
    unfold enterS;rw[e];show { σ with deep:=σ.deep+1 }=_;rw[←HDP.out])
   go_enter Tryz.func47,Tryz.ntmps47
   go_wp2_with fail
   go_ret
   rw[HT.out]
   exact⟨by show _=Ending.returned (.bool (decide (σ.code=0)));rw[←HCD.out];rfl,h.out.setDeep (dp+1),RK.set 4 _⟩
 ·have q1:(cd ==0)=false:=beq_false_of_ne hz
  have HT:=Hd (show enterS ts σ={ σ with deep:=dp+1 } by
    have e:tooDeep σ=false:=by unfold tooDeep;rw[←HCD.out,qF hz,Bool.false_and]
    unfold enterS;rw[e];show { σ with deep:=σ.deep+1 }=_;rw[←HDP.out])
  go_enter Tryz.func47,Tryz.ntmps47
  go_wp2_with fail
  go_ret
  rw[HT.out]
  exact⟨by show Ending.returned (Value.bool false)=Ending.returned (.bool (decide (σ.code=0)));rw[←HCD.out,qF hz],h.out.setDeep (dp+1),RK.set 4 _⟩
end Go.Proofs.YthpgfahlccljnaaGreatDoor
