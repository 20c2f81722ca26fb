import Derived.Test.YtpfmlfcaadnnpaaGreatDoorPg06
import Derived.Test.YtpfmlfcaadnnpaaGreatDoorChecked
import Derived.Deep.Slices
import Derived.Deep.Fields
import Derived.Deep.Strs
import Derived.SizedLaws
import Derived.Carry
import Derived.Lib.SmallJoins
import Derived.RangeFuncBox
import Derived.Lib.QuietBelow
import Derived.WalkKit
import Derived.BigQuiet
import Derived.Deep.QuietTactic
import Derived.Deep.RegionHeld3
import Derived.WalkSpells
import Derived.Deep.AppendLies
import Derived.Deep.RegionLaw
import Derived.WalkSmall
set_option maxHeartbeats 16000000
set_option maxRecDepth 100000
set_option linter.unusedVariables false
open Go.Proofs.Tryz(prog)
namespace Go.Proofs.YtpfmlfcaadnnpaaGreatDoor
open Lx
structure RS where
 at_:Nat
 exprs:List Ex
 deep:Int
 code:Int
 pos:Int
def tokL (ts:List Tok) (i:Nat):Tok:=ts.getD i ⟨0,[],0,0⟩
def isS (ts:List Tok) (s:List UInt8) (σ:RS):Bool :=
 decide (σ.code=0)&&((decide ((tokL ts σ.at_).kind=3)||decide ((tokL ts σ.at_).kind=4))&&(tokL ts σ.at_).text ==s)
def failS (ts:List Tok) (e:Int) (σ:RS):RS:=if σ.code=0 then { σ with code:=e,pos:=((tokL ts σ.at_).at_:Int) } else σ
def stepS (σ:RS):RS:={ σ with at_:=σ.at_+1 }
def tookS (ts:List Tok) (s:List UInt8) (σ:RS):RS:=if isS ts s σ=true then stepS σ else σ
def wantS (ts:List Tok) (s:List UInt8) (σ:RS):RS:=if isS ts s σ=true then stepS σ else failS ts 2 σ
def nameB (ts:List Tok) (σ:RS):Bool:=decide (σ.code=0)&&decide ((tokL ts σ.at_).kind=1)
def nameS (ts:List Tok) (σ:RS):RS:=if nameB ts σ=true then stepS σ else failS ts 2 σ
def nameV (ts:List Tok) (σ:RS):List UInt8:=if nameB ts σ=true then(tokL ts σ.at_).text else []
def putS (x:Ex) (σ:RS):RS:={ σ with exprs:=σ.exprs++[x] }
def levelsL:List (List UInt8×Int×Int):=[([111,114],1,14),([97,110,100],2,13),([60],3,10),([60,61],3,11),([61,61],3,12),([43],4,6),([45],4,7),([42],5,8),([47],5,9)]
def levelIn (ts:List Tok) (σ:RS) (l:List (List UInt8×Int×Int)):Int×Int:=match l.find? fun p=>isS ts p.1 σ with | some p=>p.2 | none=>(0,0)
def levelS (ts:List Tok) (σ:RS):Int×Int:=levelIn ts σ levelsL
def tooDeep (σ:RS):Bool:=decide (σ.code=0)&&decide (σ.deep=30)
def enterS (ts:List Tok) (σ:RS):RS:=let x:=if tooDeep σ=true then failS ts 3 σ else σ;{ x with deep:=x.deep+1 }
def leaveS (σ:RS):RS:={ σ with deep:=σ.deep-1 }
def okS (σ:RS):Bool:=decide (σ.exprs.length≤40000)&&(decide (0≤σ.deep)&&decide (σ.deep≤30))
def prefixL:List (List UInt8×Int):=[([45],4),([110,111,116],5),([112,114,101],16),([115,113,114,116],21)]
def prefixK (ts:List Tok) (σ:RS) (l:List (List UInt8×Int)):Int:=match l.find? fun p=>isS ts p.1 σ with | some p=>p.2 | none=>0
def ex0:Ex:=⟨0,0,0,0,⟨#[]⟩,⟨#[]⟩,0,[],0⟩
inductive Job where
 | expr
 | pre
 | atom
 | bin (least:Nat)
 | loop (least:Nat) (a:Int)
 | args (acc:List Int)
abbrev Ans:=Option (Int×List Int×RS)
def putA (x:Ex) (σ:RS) (K:Int→RS→Ans):Ans:=if okS σ=true then K (σ.exprs.length:Int) (putS x σ) else none
def atomG (ts:List Tok) (F:Job→RS→Ans) (σ:RS):Ans :=
 let t:=tokL ts σ.at_
 let p:Int:=(t.at_:Int)
 if t.kind=2 then putA { ex0 with kind:=1,v:=t.v,pos:=p } (stepS σ) fun n y=>some (n,[],y) else
 if isS ts [116,114,117,101] σ=true then putA { ex0 with kind:=2,v:=1,pos:=p } (stepS σ) fun n y=>some (n,[],y) else
 if isS ts [102,97,108,115,101] σ=true then putA { ex0 with kind:=2,pos:=p } (stepS σ) fun n y=>some (n,[],y) else
 if t.kind=1 then
  let x:=stepS σ
  if isS ts [105,115] x=true then putA { ex0 with kind:=20,name:=str t.text,state:=str (nameV ts (stepS x)),pos:=p } (nameS ts (stepS x)) fun n y=>some (n,[],y) else
  if isS ts [40] x=true then
   let y:=stepS x
   if isS ts [41] y=true then putA { ex0 with kind:=19,name:=str t.text,pos:=p } (stepS y) fun n z=>some (n,[],z) else
   (F .expr y).bind fun r=>(F (.args [r.1]) r.2.2).bind fun q=>putA { ex0 with kind:=19,name:=str t.text,args:=q.2.1,pos:=p } (wantS ts [41] q.2.2) fun n z=>some (n,[],z)
  else putA { ex0 with kind:=3,name:=str t.text,pos:=p } x fun n y=>some (n,[],y)
 else(F .expr (wantS ts [40] σ)).bind fun r=>some (r.1,[],wantS ts [41] r.2.2)
def preG (ts:List Tok) (F:Job→RS→Ans) (σ:RS):Ans :=
 let x:=enterS ts σ
 if x.code=0 then
  let p:Int:=((tokL ts x.at_).at_:Int)
  let k:=prefixK ts x prefixL
  if k=0 then(F .atom x).bind fun r=>if okS r.2.2=true then some (r.1,[],leaveS r.2.2) else none
  else(F .pre (stepS x)).bind fun r=>putA { ex0 with kind:=k,a:=r.1,pos:=p } r.2.2 fun n y=>some (n,[],leaveS y)
 else some (0,[],leaveS x)
def exprG (ts:List Tok) (F:Job→RS→Ans) (σ:RS):Ans :=
 let x:=enterS ts σ
 if x.code=0 then
  let p:Int:=((tokL ts x.at_).at_:Int)
  if isS ts [105,102] x=true then
   (F .expr (stepS x)).bind fun a=>(F .expr (wantS ts [116,104,101,110] a.2.2)).bind fun b=>(F .expr (wantS ts [101,108,115,101] b.2.2)).bind fun c =>
    putA { ex0 with kind:=15,a:=a.1,b:=b.1,c:=c.1,pos:=p } c.2.2 fun n y=>some (n,[],leaveS y)
  else(F (.bin 1) x).bind fun o =>
   let y:=o.2.2
   let q:Int:=((tokL ts y.at_).at_:Int)
   if isS ts [45,62] y=true then(F .expr (stepS y)).bind fun b=>putA { ex0 with kind:=17,a:=o.1,b:=b.1,pos:=q } b.2.2 fun n z=>some (n,[],leaveS z)
   else if isS ts [102,98,121] y=true then(F .expr (stepS y)).bind fun b=>putA { ex0 with kind:=18,a:=o.1,b:=b.1,pos:=q } b.2.2 fun n z=>some (n,[],leaveS z)
   else if okS y=true then some (o.1,[],leaveS y) else none
 else some (0,[],leaveS x)
def binG (F:Job→RS→Ans) (least:Nat) (σ:RS):Ans:=if 5<least then F .pre σ else(F (.bin (least+1)) σ).bind fun a=>F (.loop least a.1) a.2.2
def loopG (ts:List Tok) (F:Job→RS→Ans) (least:Nat) (a:Int) (σ:RS):Ans :=
 if σ.code=0 then
  if(levelS ts σ).1=(least:Int) then
   (F (.bin (least+1)) (stepS σ)).bind fun b=>putA { ex0 with kind:=(levelS ts σ).2,a:=a,b:=b.1,pos:=((tokL ts σ.at_).at_:Int) } b.2.2 fun n y =>
    if least=3 then some (n,[],y) else F (.loop least n) y
  else some (a,[],σ)
 else some (a,[],σ)
def argsG (ts:List Tok) (F:Job→RS→Ans) (acc:List Int) (σ:RS):Ans :=
 if acc.length≤40000 then if isS ts [44] σ=true then(F .expr (stepS σ)).bind fun r=>F (.args (acc++[r.1])) r.2.2 else some (0,acc,σ) else none
def runE (ts:List Tok):Nat→Job→RS→Ans
 | 0,_,_=>none
 | f+1,j,σ=>if okS σ=true then match j with
  | .expr=>exprG ts (runE ts f) σ
  | .pre=>preG ts (runE ts f) σ
  | .atom=>atomG ts (runE ts f) σ
  | .bin least=>binG (runE ts f) least σ
  | .loop least a=>loopG ts (runE ts f) least a σ
  | .args acc=>argsG ts (runE ts f) acc σ else none
def EndOk (ts:List Tok):Prop:=0<ts.length∧∀i t,ts[i]?=some t→(i+1=ts.length↔t.kind=5)
theorem EndOk.next {ts:List Tok} (h:EndOk ts) {i:Nat} (hi:i<ts.length) (hk:(tokL ts i).kind≠5):i+1<ts.length:=by
 have h1:ts[i]?=some (tokL ts i):=by unfold tokL;rw[List.getD_eq_getElem?_getD,List.getElem?_eq_getElem hi];rfl
 have:=(h.2 i _ h1)
 rcases Nat.lt_or_ge (i+1) ts.length with h2 | h2
 ·exact h2
 ·exact absurd (this.1 (by omega)) hk
theorem isS_kind {ts:List Tok} {s:List UInt8} {σ:RS} (h:isS ts s σ=true):(tokL ts σ.at_).kind≠5∧σ.code=0:=by
 unfold isS at h
 simp only[Bool.and_eq_true,Bool.or_eq_true,decide_eq_true_eq] at h
 refine⟨?_,h.1⟩
 rcases h.2.1 with h1 | h1 <;> omega
end Go.Proofs.YtpfmlfcaadnnpaaGreatDoor
namespace Go.Proofs.YtpfmlfcaadnnpaaGreatDoor
open Go.ChangeShapes Go.WideShapes Go.Deep Go.RowKit
def reachN:Nat:=140737488351232
def CapOk (o:Option Addr) (cap:Nat):Prop:=cap≤maxLen∧(o=none→cap=0)
def SlAt (s:Value) (n sz:Nat) (el:Nat→Nat→Nat→Prop):Prop :=
 ∃o cap b off,s=.slice o n cap∧n≤cap∧CapOk o cap∧(0<n→o=some ⟨b,off,none⟩)∧∀i,i<n→el b (off+i*sz) i
theorem slAt_none (n sz cap:Nat) (o:Option Addr) (el:Nat→Nat→Nat→Prop) (hc:CapOk o cap) (h:n=0):SlAt (.slice o n cap) n sz el:=by
 subst h;exact⟨o,cap,0,0,rfl,Nat.zero_le _,hc,by omega,by omega⟩
theorem slAt_some {n sz cap b off:Nat} {el:Nat→Nat→Nat→Prop} (h1:n≤cap) (h2:cap≤maxLen) (h:∀i,i<n→el b (off+i*sz) i):SlAt (.slice (some ⟨b,off,none⟩) n cap) n sz el:=⟨_,cap,b,off,rfl,h1,⟨h2,fun h=>by cases h⟩,fun _=>rfl,h⟩
theorem SlAt.mono {s:Value} {n sz:Nat} {p q:Nat→Nat→Nat→Prop} (h:SlAt s n sz p) (hpq:∀b o i,i<n→p b o i→q b o i):SlAt s n sz q:=by
 obtain⟨o,cap,b,off,h1,h2,h3,h4,h5⟩:=h
 exact⟨o,cap,b,off,h1,h2,h3,h4,fun i hi=>hpq _ _ _ hi (h5 i hi)⟩
def IntsAt (w:World) (s:Value) (l:List Int):Prop:=SlAt s l.length 1 fun b o i=>w.cell? ⟨b,o,none⟩=some (.int .i64 (l.getD i 0))
def StrsAt (w:World) (s:Value) (l:List ByteArray):Prop:=SlAt s l.length 1 fun b o i=>w.cell? ⟨b,o,none⟩=some (.string (l.getD i ⟨#[]⟩))
def i64ok (n:Int):Prop:=-9223372036854775808≤n∧n≤9223372036854775807
structure ExOk (x:Ex):Prop where
 kind:i64ok x.kind
 a:i64ok x.a
 b:i64ok x.b
 c:i64ok x.c
 v:i64ok x.v
 name:x.name.size≤reachN
 state:x.state.size≤reachN
 args:x.args.length≤reachN
 argsOk:∀n ∈ x.args,i64ok n
def ExAt (w:World) (b o:Nat) (x:Ex):Prop:=∃s,w.cell? ⟨b,o,none⟩=some (.int .i64 x.kind)∧w.cell? ⟨b,o+1,none⟩=some (.int .i64 x.a)∧w.cell? ⟨b,o+2,none⟩=some (.int .i64 x.b) ∧
 w.cell? ⟨b,o+3,none⟩=some (.int .i64 x.c)∧w.cell? ⟨b,o+4,none⟩=some (.string x.name)∧w.cell? ⟨b,o+5,none⟩=some (.string x.state)∧w.cell? ⟨b,o+6,none⟩=some (.int .i64 x.v) ∧
 w.cell? ⟨b,o+7,none⟩=some s∧w.cell? ⟨b,o+8,none⟩=some (.int .i64 x.pos)∧IntsAt w s x.args∧ExOk x
structure ItOk (x:It):Prop where
 kind:i64ok x.kind
 e:i64ok x.e
 f:i64ok x.f
 name:x.name.size≤reachN
 state:x.state.size≤reachN
 next:x.next.size≤reachN
 states:x.states.length≤reachN
 statesOk:∀s ∈ x.states,s.size≤reachN
def ItAt (w:World) (b o:Nat) (x:It):Prop:=∃s,w.cell? ⟨b,o,none⟩=some (.int .i64 x.kind)∧w.cell? ⟨b,o+1,none⟩=some (.string x.name)∧w.cell? ⟨b,o+2,none⟩=some (.int .i64 x.type) ∧
 w.cell? ⟨b,o+3,none⟩=some (.int .i64 x.e)∧w.cell? ⟨b,o+4,none⟩=some (.int .i64 x.f)∧w.cell? ⟨b,o+5,none⟩=some s∧w.cell? ⟨b,o+6,none⟩=some (.string x.state) ∧
 w.cell? ⟨b,o+7,none⟩=some (.string x.next)∧w.cell? ⟨b,o+8,none⟩=some (.int .i64 x.pos)∧StrsAt w s x.states∧ItOk x
def PaAt (w:World) (b o:Nat) (x:Pa):Prop:=w.cell? ⟨b,o,none⟩=some (.string x.name)∧w.cell? ⟨b,o+1,none⟩=some (.int .i64 x.type)∧x.name.size≤reachN∧i64ok x.type
structure DeOk (x:De):Prop where
 kind:i64ok x.kind
 e:i64ok x.e
 name:x.name.size≤reachN
 params:x.params.length≤reachN
 items:x.items.length≤reachN
def DeAt (w:World) (b o:Nat) (x:De):Prop:=∃s t,w.cell? ⟨b,o,none⟩=some (.int .i64 x.kind)∧w.cell? ⟨b,o+1,none⟩=some (.string x.name)∧w.cell? ⟨b,o+2,none⟩=some s ∧
 w.cell? ⟨b,o+3,none⟩=some t∧w.cell? ⟨b,o+4,none⟩=some (.int .i64 x.type)∧w.cell? ⟨b,o+5,none⟩=some (.int .i64 x.e)∧w.cell? ⟨b,o+6,none⟩=some (.int .i64 x.pos) ∧
 SlAt s x.params.length 2 (fun b o i=>∀y,x.params[i]?=some y→PaAt w b o y)∧SlAt t x.items.length 9 (fun b o i=>∀y,x.items[i]?=some y→ItAt w b o y)∧DeOk x
def ExsAt (w:World) (s:Value) (l:List Ex):Prop:=SlAt s l.length 9 fun b o i=>∀x,l[i]?=some x→ExAt w b o x
def DesAt (w:World) (s:Value) (l:List De):Prop:=SlAt s l.length 7 fun b o i=>∀x,l[i]?=some x→DeAt w b o x
def ProgAt (w:World) (sd se:Value) (p:Pr):Prop:=DesAt w sd p.decls∧ExsAt w se p.exprs∧p.decls.length≤reachN∧p.exprs.length≤reachN
theorem cell_on {w w':World} (hb:Below w.heap.size w w') {a:Addr} {v:Value} (h:w.cell? a=some v):w'.cell? a=some v:=(hb.cell (World.block_lt_of_cell? _ _ h)).trans h
theorem IntsAt.below {w w':World} {s:Value} {l:List Int} (h:IntsAt w s l) (hb:Below w.heap.size w w'):IntsAt w' s l:=h.mono fun _ _ _ _ h=>cell_on hb h
theorem StrsAt.below {w w':World} {s:Value} {l:List ByteArray} (h:StrsAt w s l) (hb:Below w.heap.size w w'):StrsAt w' s l:=h.mono fun _ _ _ _ h=>cell_on hb h
theorem ExAt.below {w w':World} {b o:Nat} {x:Ex} (h:ExAt w b o x) (hb:Below w.heap.size w w'):ExAt w' b o x:=by
 obtain⟨s,h0,h1,h2,h3,h4,h5,h6,h7,h8,h9,hk⟩:=h
 exact⟨s,cell_on hb h0,cell_on hb h1,cell_on hb h2,cell_on hb h3,cell_on hb h4,cell_on hb h5,cell_on hb h6,cell_on hb h7,cell_on hb h8,h9.below hb,hk⟩
theorem ItAt.below {w w':World} {b o:Nat} {x:It} (h:ItAt w b o x) (hb:Below w.heap.size w w'):ItAt w' b o x:=by
 obtain⟨s,h0,h1,h2,h3,h4,h5,h6,h7,h8,h9,hk⟩:=h
 exact⟨s,cell_on hb h0,cell_on hb h1,cell_on hb h2,cell_on hb h3,cell_on hb h4,cell_on hb h5,cell_on hb h6,cell_on hb h7,cell_on hb h8,h9.below hb,hk⟩
theorem PaAt.below {w w':World} {b o:Nat} {x:Pa} (h:PaAt w b o x) (hb:Below w.heap.size w w'):PaAt w' b o x:=⟨cell_on hb h.1,cell_on hb h.2.1,h.2.2⟩
theorem DeAt.below {w w':World} {b o:Nat} {x:De} (h:DeAt w b o x) (hb:Below w.heap.size w w'):DeAt w' b o x:=by
 obtain⟨s,t,h0,h1,h2,h3,h4,h5,h6,h7,h8,hk⟩:=h
 exact⟨s,t,cell_on hb h0,cell_on hb h1,cell_on hb h2,cell_on hb h3,cell_on hb h4,cell_on hb h5,cell_on hb h6,h7.mono fun _ _ _ _ h y hy=>(h y hy).below hb,h8.mono fun _ _ _ _ h y hy=>(h y hy).below hb,hk⟩
theorem ExsAt.below {w w':World} {s:Value} {l:List Ex} (h:ExsAt w s l) (hb:Below w.heap.size w w'):ExsAt w' s l:=h.mono fun _ _ _ _ h x hx=>(h x hx).below hb
theorem DesAt.below {w w':World} {s:Value} {l:List De} (h:DesAt w s l) (hb:Below w.heap.size w w'):DesAt w' s l:=h.mono fun _ _ _ _ h x hx=>(h x hx).below hb
theorem ProgAt.below {w w':World} {sd se:Value} {p:Pr} (h:ProgAt w sd se p) (hb:Below w.heap.size w w'):ProgAt w' sd se p:=⟨h.1.below hb,h.2.1.below hb,h.2.2⟩
section
variable {H:Type} {enc:TypeId×Value→H} {w:World}
instance:Inhabited Ex:=⟨⟨0,0,0,0,⟨#[]⟩,⟨#[]⟩,0,[],0⟩⟩
instance:Inhabited It:=⟨⟨0,⟨#[]⟩,0,0,0,[],⟨#[]⟩,⟨#[]⟩,0⟩⟩
instance:Inhabited Pa:=⟨⟨⟨#[]⟩,0⟩⟩
instance:Inhabited De:=⟨⟨0,⟨#[]⟩,[],[],0,0,0⟩⟩
end
end Go.Proofs.YtpfmlfcaadnnpaaGreatDoor
namespace Go.Proofs.YtpfmlfcaadnnpaaGreatDoor
open Go.RowKit Lx
def intC (n:Int):Value:=.int .i64 n
def exC (x:Ex) (v:Value):List Value:=[.int .i64 x.kind,.int .i64 x.a,.int .i64 x.b,.int .i64 x.c,.string x.name,.string x.state,.int .i64 x.v,v,.int .i64 x.pos]
def rdCells (l:List (Ex×Value)):List Value:=l.flatMap fun p=>exC p.1 p.2
theorem rdCells_snoc (l:List (Ex×Value)) (p:Ex×Value):rdCells (l++[p])=rdCells l++exC p.1 p.2:=by unfold rdCells;rw[List.flatMap_append];simp
def ExsOwn (W:World) (b:Nat) (xb:Nat→Prop) (v:Value) (l:List Ex):Prop :=
 ∃q:List (Ex×Value),q.map Prod.fst=l∧W.ownsRow (b+1) 46 9 v l.length (rdCells q)∧∀p ∈ q,W.ownsRow (b+1) 3 1 p.2 p.1.args.length (p.1.args.map intC)∧∀k,p.2.ownBlock=some k→¬xb k
def NoEx (o:Obj):Prop:=∀cs,o≠.cells cs 46 (0,0)
structure RK (b:Nat) (W Y:World):Prop where
 os:Y.os=W.os
 tape:Y.tape=W.tape
 output:Y.output=W.output
 size:W.heap.size≤Y.heap.size
 low:∀k,k<b→Y.heap[k]?=W.heap[k]?
 keep:∀(k:Nat) (o:Obj),W.heap[k]?=some o→k≠b→NoEx o→Y.heap[k]?=some o
theorem heap_lt {W:World} {k:Nat} {o:Obj} (h:W.heap[k]?=some o):k<W.heap.size:=(Array.getElem?_eq_some_iff.1 h).1
theorem RK.refl (b:Nat) (W:World):RK b W W:=⟨rfl,rfl,rfl,qL _,fun _ _=>rfl,fun _ _ h _ _=>h⟩
theorem RK.trans {b:Nat} {X Y Z:World} (h:RK b X Y) (k:RK b Y Z):RK b X Z :=
 ⟨k.os.trans h.os,k.tape.trans h.tape,k.output.trans h.output,Nat.le_trans h.size k.size,fun j hj=>(k.low j hj).trans (h.low j hj),fun j o hj hb hn=>k.keep j o (h.keep j o hj hb hn) hb hn⟩
theorem RK.of_below {b:Nat} {W Y:World} (h:Below W.heap.size W Y) (hb:b≤W.heap.size):RK b W Y :=
 ⟨h.os,h.tape,h.output,h.size,fun k hk=>h.block k (by omega),fun k o hk _ _=>(h.block k (heap_lt hk)).trans hk⟩
theorem RK.set {b:Nat} {W:World} (i:Nat) (v:Value):RK b W (W.setCell ⟨b,i,none⟩ v):=by
 have hb:=(qB b W).setCell (p:=⟨b,i,none⟩) (qL _) v
 exact⟨hb.os,hb.tape,hb.output,hb.size,fun k hk=>hb.block k hk,fun k o hk hkb _=>(Below.heap_setCell W ⟨b,i,none⟩ v k hkb).trans hk⟩
theorem NoEx.int {cs:Array Value}:NoEx (.cells cs 3 (0,0)):=fun cs' h=>by cases h
theorem own_keep {W Y:World} {b:Nat} {v:Value} {n:Nat} {xs:List Value} {B:Nat} (h:W.ownsRow B 3 1 v n xs) (hB:b<B) (hk:RK b W Y):Y.ownsRow B 3 1 v n xs:=by
 refine⟨h.1,?_⟩
 rcases h.2 with hn | ⟨g,cap,cur,rfl,hb,hgg,rest⟩
 ·exact .inl hn
 ·exact .inr ⟨g,cap,cur,rfl,hb,hk.keep g _ hgg (by omega) .int,rest⟩
theorem rd_own_same {W Y:World} {e:TypeId} {s:Nat} {v:Value} {n:Nat} {xs:List Value} {B:Nat} (h:W.ownsRow B e s v n xs) (hk:∀k,v.ownBlock=some k→Y.heap[k]?=W.heap[k]?):Y.ownsRow B e s v n xs:=by
 refine⟨h.1,?_⟩
 rcases h.2 with hn | ⟨g,cap,cur,rfl,hb,hgg,rest⟩
 ·exact .inl hn
 ·exact .inr ⟨g,cap,cur,rfl,hb,(hk g rfl).trans hgg,rest⟩
theorem ExsOwn.same {W Y:World} {b:Nat} {xb:Nat→Prop} {v:Value} {l:List Ex} (h:ExsOwn W b xb v l) (hk:∀k,b<k→k<W.heap.size→Y.heap[k]?=W.heap[k]?):ExsOwn Y b xb v l:=by
 obtain⟨q,h1,h2,h3⟩:=h
 exact⟨q,h1,rd_own_same h2 fun k e=>hk k (by have:=(h2.lt k e).1;omega) (h2.lt k e).2,fun p hp=>⟨rd_own_same (h3 p hp).1 fun k e=>hk k (by have:=((h3 p hp).1.lt k e).1;omega) ((h3 p hp).1.lt k e).2,(h3 p hp).2⟩⟩
theorem row_low {W Y:World} {g:Nat} {ts:List Tok} (h:RowAt W g ts) (hk:Y.heap[g]?=W.heap[g]?):RowAt Y g ts:=by
 have hlt:g<Y.heap.size:=by
  have h1:=h.1
  rcases Nat.lt_or_ge g Y.heap.size with h2 | h2
  ·exact h2
  ·rw[Array.getElem?_eq_none h2,Array.getElem?_eq_getElem h1] at hk;cases hk
 refine⟨hlt,fun i t hi=>?_⟩
 obtain⟨h1,h2,h3,h4⟩:=h.2 i t hi
 have hc:∀(j:Nat),Y.cell? ⟨g,j,none⟩=W.cell? ⟨g,j,none⟩:=fun j=>World.cell?_of_block (a:=⟨g,j,none⟩) hk
 exact⟨(hc _).trans h1,(hc _).trans h2,(hc _).trans h3,(hc _).trans h4⟩
theorem set_blk {W:World} {g:Nat} {cs:Array Value} {T:TypeId} {fr:Nat×Nat} (h:W.heap[g]?=some (.cells cs T fr)) (i:Nat) (v:Value):(W.setCell ⟨g,i,none⟩ v).heap[g]?=some (.cells (cs.setIfInBounds i v) T fr):=Lx.set_heap h i v
theorem ex_info:(prog.info? 46).map (fun i=>(i.zero,i.size,i.bytes))=some (some (.agg #[.int .i64 0,.int .i64 0,.int .i64 0,.int .i64 0,.string ⟨#[]⟩,.string ⟨#[]⟩,.int .i64 0,.slice none 0 0,.int .i64 0]),9,104):=by kernel_rfl
def rdV (x:Ex) (v:Value):Value:=.agg #[.int .i64 x.kind,.int .i64 x.a,.int .i64 x.b,.int .i64 x.c,.string x.name,.string x.state,.int .i64 x.v,v,.int .i64 x.pos]
theorem nine_cells (W:World) (x0 x1 x2 x3 x4 x5 x6 x7 x8:Value) (T:TypeId) (j:Nat) (u:Value) (h:[x0,x1,x2,x3,x4,x5,x6,x7,x8][j]?=some u):(W.alloc (.cells #[x0,x1,x2,x3,x4,x5,x6,x7,x8] T)).cell? ((⟨W.heap.size,0,none⟩:Addr).add j)=some u:=by
 have e:(⟨W.heap.size,0,none⟩:Addr).add j=⟨W.heap.size,j,none⟩:=by unfold Addr.add;split <;> simp_all
 rw[e,World.cell?_alloc_new,←h,←Array.getElem?_toList]
theorem RK.grown {b:Nat} {W Y:World} {v:Value} {n:Nat} {xs:List Value} (h:W.ownsRow (b+1) 46 9 v n xs) (hg:W.grownBy Y v.ownBlock) (hb:b≤W.heap.size):RK b W Y :=
 ⟨hg.os,hg.tape,hg.output,hg.size,fun k hk=>hg.block k (by omega) (fun e=>by have:=(h.lt k e.symm).1;omega),fun k o hk hkb hno=>(hg.block k (heap_lt hk) (fun e=>by
  rcases h.2 with ⟨rfl,_⟩ | ⟨g,cap,cur,rfl,_,hgb,_⟩
  ·simp[Value.ownBlock] at e
  ·obtain rfl:k=g:=by simpa [Value.ownBlock] using e
   rw[hk] at hgb
   injection hgb with hgb
   exact hno cur hgb)).trans hk⟩
end Go.Proofs.YtpfmlfcaadnnpaaGreatDoor
namespace Go.Proofs.YtpfmlfcaadnnpaaGreatDoor
open Lx
def Stays (σ τ:RS):Prop:=σ.code≠0→τ.code=σ.code∧τ.pos=σ.pos
theorem Stays.refl (σ:RS):Stays σ σ:=fun _=>⟨rfl,rfl⟩
theorem Stays.trans {σ τ υ:RS} (h:Stays σ τ) (k:Stays τ υ):Stays σ υ:=fun hc=>by
 obtain⟨h1,h2⟩:=h hc
 obtain⟨k1,k2⟩:=k (by rw[h1];exact hc)
 exact⟨k1.trans h1,k2.trans h2⟩
theorem isS_bad {ts:List Tok} {s:List UInt8} {σ:RS} (h:σ.code≠0):isS ts s σ=false:=by unfold isS;simp[h]
theorem stays_want (ts:List Tok) (s:List UInt8) (σ:RS):Stays σ (wantS ts s σ):=fun h=>by unfold wantS failS;rw[isS_bad h];simp[h]
theorem stays_name (ts:List Tok) (σ:RS):Stays σ (nameS ts σ):=fun h=>by unfold nameS nameB failS;simp[h]
theorem stays_step (σ:RS):Stays σ (stepS σ):=fun _=>⟨rfl,rfl⟩
theorem stays_put (x:Ex) (σ:RS):Stays σ (putS x σ):=fun _=>⟨rfl,rfl⟩
theorem stays_enter (ts:List Tok) (σ:RS):Stays σ (enterS ts σ):=fun h=>by unfold enterS tooDeep failS;simp[h]
theorem stays_leave (σ:RS):Stays σ (leaveS σ):=fun _=>⟨rfl,rfl⟩
theorem sputA_some {x:Ex} {σ:RS} {K:Int→RS→Ans} {R:Int×List Int×RS} (h:putA x σ K=some R):okS σ=true∧K (σ.exprs.length:Int) (putS x σ)=some R:=by
 unfold putA at h
 split at h
 ·rename_i hk;exact⟨hk,h⟩
 ·cases h
theorem bind_some' {α β:Type} {x:Option α} {K:α→Option β} {R:β} (h:x.bind K=some R):∃a,x=some a∧K a=some R:=by
 cases x with
 | none=>cases h
 | some a=>exact⟨a,rfl,h⟩
theorem stuck (ts:List Tok):∀(f:Nat) (j:Job) (σ:RS) (R:Int×List Int×RS),runE ts f j σ=some R→Stays σ R.2.2:=by
 intro f
 induction f with
 | zero=>intro j σ R h;cases h
 | succ f ih =>
  intro j σ R h
  simp only[runE] at h
  split at h
  ·cases j with
   | expr =>
    try dsimp only at h
    unfold exprG at h
    try dsimp only at h
    have e:=stays_enter ts σ
    split at h
    ·split at h
     ·obtain⟨a,h1,h⟩:=bind_some' h
      obtain⟨b,h2,h⟩:=bind_some' h
      obtain⟨c,h3,h⟩:=bind_some' h
      obtain⟨_,h⟩:=sputA_some h
      obtain rfl:=qI h
      exact e.trans ((stays_step _).trans ((ih _ _ _ h1).trans ((stays_want _ _ _).trans ((ih _ _ _ h2).trans ((stays_want _ _ _).trans ((ih _ _ _ h3).trans ((stays_put _ _).trans (stays_leave _))))))))
     ·obtain⟨a,h1,h⟩:=bind_some' h
      try dsimp only at h
      split at h
      ·obtain⟨b,h2,h⟩:=bind_some' h
       obtain⟨_,h⟩:=sputA_some h
       obtain rfl:=qI h
       exact e.trans ((ih _ _ _ h1).trans ((stays_step _).trans ((ih _ _ _ h2).trans ((stays_put _ _).trans (stays_leave _)))))
      ·split at h
       ·obtain⟨b,h2,h⟩:=bind_some' h
        obtain⟨_,h⟩:=sputA_some h
        obtain rfl:=qI h
        exact e.trans ((ih _ _ _ h1).trans ((stays_step _).trans ((ih _ _ _ h2).trans ((stays_put _ _).trans (stays_leave _)))))
       ·split at h
        ·obtain rfl:=qI h
         exact e.trans ((ih _ _ _ h1).trans (stays_leave _))
        ·cases h
    ·obtain rfl:=qI h
     exact e.trans (stays_leave _)
   | pre =>
    try dsimp only at h
    unfold preG at h
    try dsimp only at h
    have e:=stays_enter ts σ
    split at h
    ·split at h
     ·obtain⟨a,h1,h⟩:=bind_some' h
      split at h
      ·obtain rfl:=qI h
       exact e.trans ((ih _ _ _ h1).trans (stays_leave _))
      ·cases h
     ·obtain⟨a,h1,h⟩:=bind_some' h
      obtain⟨_,h⟩:=sputA_some h
      obtain rfl:=qI h
      exact e.trans ((stays_step _).trans ((ih _ _ _ h1).trans ((stays_put _ _).trans (stays_leave _))))
    ·obtain rfl:=qI h
     exact e.trans (stays_leave _)
   | atom =>
    try dsimp only at h
    unfold atomG at h
    try dsimp only at h
    split at h
    ·obtain⟨_,h⟩:=sputA_some h
     obtain rfl:=qI h
     exact(stays_step _).trans (stays_put _ _)
    ·split at h
     ·obtain⟨_,h⟩:=sputA_some h
      obtain rfl:=qI h
      exact(stays_step _).trans (stays_put _ _)
     ·split at h
      ·obtain⟨_,h⟩:=sputA_some h
       obtain rfl:=qI h
       exact(stays_step _).trans (stays_put _ _)
      ·split at h
       ·split at h
        ·obtain⟨_,h⟩:=sputA_some h
         obtain rfl:=qI h
         exact(stays_step _).trans ((stays_step _).trans ((stays_name _ _).trans (stays_put _ _)))
        ·split at h
         ·split at h
          ·obtain⟨_,h⟩:=sputA_some h
           obtain rfl:=qI h
           exact(stays_step _).trans ((stays_step _).trans ((stays_step _).trans (stays_put _ _)))
          ·obtain⟨a,h1,h⟩:=bind_some' h
           obtain⟨b,h2,h⟩:=bind_some' h
           obtain⟨_,h⟩:=sputA_some h
           obtain rfl:=qI h
           exact(stays_step _).trans ((stays_step _).trans ((ih _ _ _ h1).trans ((ih _ _ _ h2).trans ((stays_want _ _ _).trans (stays_put _ _)))))
         ·obtain⟨_,h⟩:=sputA_some h
          obtain rfl:=qI h
          exact(stays_step _).trans (stays_put _ _)
       ·obtain⟨a,h1,h⟩:=bind_some' h
        obtain rfl:=qI h
        exact(stays_want _ _ _).trans ((ih _ _ _ h1).trans (stays_want _ _ _))
   | bin least =>
    try dsimp only at h
    unfold binG at h
    split at h
    ·exact ih _ _ _ h
    ·obtain⟨a,h1,h⟩:=bind_some' h
     exact(ih _ _ _ h1).trans (ih _ _ _ h)
   | loop least a =>
    try dsimp only at h
    unfold loopG at h
    split at h
    ·rename_i h0
     intro hc
     exact absurd h0 hc
    ·obtain rfl:=qI h
     exact Stays.refl _
   | args acc =>
    try dsimp only at h
    unfold argsG at h
    split at h
    ·split at h
     ·obtain⟨a,h1,h⟩:=bind_some' h
      exact(stays_step _).trans ((ih _ _ _ h1).trans (ih _ _ _ h))
     ·obtain rfl:=qI h
      exact Stays.refl _
    ·cases h
  ·cases h
theorem stuck_expr {ts:List Tok} {f:Nat} {σ τ:RS} {v:Int} {l:List Int} (j:Job) (h:runE ts f j σ=some (v,l,τ)):Stays σ τ:=stuck ts f j σ _ h
end Go.Proofs.YtpfmlfcaadnnpaaGreatDoor
namespace Go.Proofs.YtpfmlfcaadnnpaaGreatDoor
open Go.RowKit Lx
def sgL:List (List UInt8):=wordsL++signsL
def TxOk (ts:List Tok):Prop:=∀i,(tokL ts i).kind≠3→(tokL ts i).kind≠4→∀s ∈ sgL,(tokL ts i).text≠s
structure Cd (W:World) (b g cap:Nat) (dv:Value) (ts:List Tok) (xb:Nat→Prop) (σ:RS):Prop where
 xlt:∀k,xb k→k<W.heap.size
 blk:∃o c,W.heap[b]?=some (.cells #[.slice (some ⟨g,σ.at_*4,none⟩) (ts.length - σ.at_) (cap - σ.at_),dv,.slice o σ.exprs.length c,.int .i64 σ.deep] 78 (0,0))∧ExsOwn W b xb (.slice o σ.exprs.length c) σ.exprs∧∀k,(Value.slice o σ.exprs.length c).ownBlock=some k→¬xb k
 xnb:¬xb b
 row:RowAt W g ts
 lt:g<b
 at_:σ.at_<ts.length
 len:ts.length≤40000
 cp:ts.length≤cap
 ends:EndOk ts
 tx:TxOk ts
theorem Cd.size {W:World} {b g cap:Nat} {dv:Value} {ts:List Tok} {xb:Nat→Prop} {σ:RS} (h:Cd W b g cap dv ts xb σ):b<W.heap.size:=by
 obtain⟨o,c,h1,_⟩:=h.blk;exact heap_lt h1
structure RX (b:Nat) (xb:Nat→Prop) (W Y:World):Prop where
 rk:RK b W Y
 xs:∀k,xb k→Y.heap[k]?=W.heap[k]?
theorem RX.refl (b:Nat) (xb:Nat→Prop) (W:World):RX b xb W W:=⟨RK.refl _ _,fun _ _=>rfl⟩
theorem RX.trans {b:Nat} {xb:Nat→Prop} {X Y Z:World} (h:RX b xb X Y) (k:RX b xb Y Z):RX b xb X Z:=⟨h.rk.trans k.rk,fun j hj=>(k.xs j hj).trans (h.xs j hj)⟩
theorem RX.of_below {b:Nat} {xb:Nat→Prop} {W Y:World} (h:Below W.heap.size W Y) (hb:b≤W.heap.size) (hx:∀k,xb k→k<W.heap.size):RX b xb W Y:=⟨RK.of_below h hb,fun k hk=>h.block k (hx k hk)⟩
theorem RX.set {b:Nat} {xb:Nat→Prop} {W:World} (hn:¬xb b) (i:Nat) (v:Value):RX b xb W (W.setCell ⟨b,i,none⟩ v):=⟨RK.set i v,fun k hk=>Below.heap_setCell W ⟨b,i,none⟩ v k (fun e=>hn (by have:k=b:=e;rw[←this];exact hk))⟩
theorem RX.size {b:Nat} {xb:Nat→Prop} {W Y:World} (h:RX b xb W Y):W.heap.size≤Y.heap.size:=h.rk.size
theorem RX.keep {b:Nat} {xb:Nat→Prop} {W Y:World} (h:RX b xb W Y) (k:Nat) (o:Obj) (hk:W.heap[k]?=some o) (hb:k≠b) (hn:NoEx o):Y.heap[k]?=some o:=h.rk.keep k o hk hb hn
theorem Cd.below {W Y:World} {b g cap:Nat} {dv:Value} {ts:List Tok} {xb:Nat→Prop} {σ:RS} (h:Cd W b g cap dv ts xb σ) (hb:Below W.heap.size W Y):Cd Y b g cap dv ts xb σ:=by
 have hs:=h.size
 obtain⟨o,c,h1,h2,h3⟩:=h.blk
 exact⟨fun k hk=>Nat.lt_of_lt_of_le (h.xlt k hk) hb.size,⟨o,c,(hb.block b hs).trans h1,h2.same fun k _ hk=>hb.block k hk,h3⟩,h.xnb,row_low h.row (hb.block g (by have:=h.lt;omega)),h.lt,h.at_,h.len,h.cp,h.ends,h.tx⟩
theorem Cd.alloc {W:World} {b g cap:Nat} {dv:Value} {ts:List Tok} {xb:Nat→Prop} {σ:RS} (h:Cd W b g cap dv ts xb σ) (o:Obj):Cd (W.alloc o) b g cap dv ts xb σ:=h.below ((qB _ _).alloc (qL _) o)
theorem Cd.setOne {W:World} {b g cap:Nat} {dv:Value} {ts:List Tok} {xb:Nat→Prop} {σ τ:RS} (h:Cd W b g cap dv ts xb σ) (i:Nat) (v:Value) (he:τ.exprs=σ.exprs) (ht:τ.at_<ts.length)
  (hc:∀x,(#[.slice (some ⟨g,σ.at_*4,none⟩) (ts.length - σ.at_) (cap - σ.at_),dv,x,.int .i64 σ.deep]:Array Value).setIfInBounds i v=#[.slice (some ⟨g,τ.at_*4,none⟩) (ts.length - τ.at_) (cap - τ.at_),dv,x,.int .i64 τ.deep]) :
  Cd (W.setCell ⟨b,i,none⟩ v) b g cap dv ts xb τ:=by
 obtain⟨o,c,h1,h2,h3⟩:=h.blk
 refine⟨fun k hk=>Nat.lt_of_lt_of_le (h.xlt k hk) ((qB b W).setCell (p:=⟨b,i,none⟩) (qL _) v).size,⟨o,c,?_,?_,by rw[he];exact h3⟩,h.xnb,row_low h.row (Below.heap_setCell W ⟨b,i,none⟩ v g (by have:=h.lt;simp;omega)),h.lt,ht,h.len,h.cp,h.ends,h.tx⟩
 ·rw[he,set_blk h1,hc]
 ·rw[he];exact h2.same fun k hk _=>Below.heap_setCell W ⟨b,i,none⟩ v k (by simp;omega)
theorem Cd.setAt {W:World} {b g cap:Nat} {dv:Value} {ts:List Tok} {xb:Nat→Prop} {σ:RS} (h:Cd W b g cap dv ts xb σ) (hk:(tokL ts σ.at_).kind≠5):Cd (W.setCell ⟨b,0,none⟩ (.slice (some ⟨g,(σ.at_+1)*4,none⟩) (ts.length-(σ.at_+1)) (cap-(σ.at_+1)))) b g cap dv ts xb (stepS σ) :=
 h.setOne 0 _ rfl (h.ends.next h.at_ hk) fun x=>by simp[stepS]
theorem Cd.setDeep {W:World} {b g cap:Nat} {dv:Value} {ts:List Tok} {xb:Nat→Prop} {σ:RS} (h:Cd W b g cap dv ts xb σ) (d:Int):Cd (W.setCell ⟨b,3,none⟩ (.int .i64 d)) b g cap dv ts xb { σ with deep:=d } :=
 h.setOne 3 _ rfl h.at_ fun x=>by simp
structure CdCells (W:World) (b g:Nat) (at_ ln cp:Nat) (n:Nat) (dv:Value) (o:Option Addr) (c:Nat) (deep:Int):Prop where
 c0:W.cell? ⟨b,0,none⟩=some (.slice (some ⟨g,at_*4,none⟩) ln cp)
 c1:W.cell? ⟨b,1,none⟩=some dv
 c2:W.cell? ⟨b,2,none⟩=some (.slice o n c)
 c3:W.cell? ⟨b,3,none⟩=some (.int .i64 deep)
 fr:∀i,W.frozen? ⟨b,i,none⟩=false
theorem Cd.cells {W:World} {b g cap:Nat} {dv:Value} {ts:List Tok} {xb:Nat→Prop} {σ:RS} (h:Cd W b g cap dv ts xb σ):∃o c,CdCells W b g σ.at_ (ts.length - σ.at_) (cap - σ.at_) σ.exprs.length dv o c σ.deep∧ExsOwn W b xb (.slice o σ.exprs.length c) σ.exprs∧∀k,(Value.slice o σ.exprs.length c).ownBlock=some k→¬xb k:=by
 obtain⟨o,c,h1,h2⟩:=h.blk
 exact⟨o,c,⟨by simp[World.cell?,h1],by simp[World.cell?,h1],by simp[World.cell?,h1],by simp[World.cell?,h1],fun i=>by simp[World.frozen?,h1]⟩,h2⟩
theorem Cd.tok {W:World} {b g cap:Nat} {dv:Value} {ts:List Tok} {xb:Nat→Prop} {σ:RS} (h:Cd W b g cap dv ts xb σ):CellsAt W g σ.at_ (tokL ts σ.at_) :=
 h.row.2 _ _ (by unfold tokL;rw[List.getD_eq_getElem?_getD,List.getElem?_eq_getElem h.at_];rfl)
def refusalV (c p:Int):Value:=.iface 75 (.agg #[.int .i64 c,.int .i64 p])
def CdRet (b g cap:Nat) (dv:Value) (ts:List Tok) (xb:Nat→Prop) (W:World) (v:Value) (σ:RS) (r:Ending) (Y:World):Prop :=
 RX b xb W Y∧((σ.code=0∧r=.returned v∧Cd Y b g cap dv ts xb σ)∨(σ.code≠0∧r=.panicked [{ v:=refusalV σ.code σ.pos,recovered:=false }]))
def CdOk (b g cap:Nat) (dv:Value) (ts:List Tok) (xb:Nat→Prop) (W:World) (v:Value) (σ:RS) (r:Ending) (Y:World):Prop :=
 r=.returned v∧Hid (Cd Y b g cap dv ts xb σ)∧Hid (RX b xb W Y)
def CdBad (b:Nat) (xb:Nat→Prop) (W:World) (c p:Int) (r:Ending) (Y:World):Prop :=
 r=.panicked [{ v:=refusalV c p,recovered:=false }]∧Hid (RX b xb W Y)
theorem CdRet.ok {b g cap:Nat} {dv:Value} {ts:List Tok} {xb:Nat→Prop} {W:World} {v:Value} {σ:RS} {r:Ending} {Y:World} (h:CdRet b g cap dv ts xb W v σ r Y) (hc:σ.code=0):CdOk b g cap dv ts xb W v σ r Y:=by
 obtain⟨hk,h | h⟩:=h
 ·exact⟨h.2.1,Hd h.2.2,Hd hk⟩
 ·exact absurd hc h.1
theorem CdRet.bad {b g cap:Nat} {dv:Value} {ts:List Tok} {xb:Nat→Prop} {W:World} {v:Value} {σ:RS} {r:Ending} {Y:World} (h:CdRet b g cap dv ts xb W v σ r Y) (hc:σ.code≠0):CdBad b xb W σ.code σ.pos r Y:=by
 obtain⟨hk,h | h⟩:=h
 ·exact absurd h.1 hc
 ·exact⟨h.2,Hd hk⟩
theorem CdBad.ret {b g cap:Nat} {dv:Value} {ts:List Tok} {xb:Nat→Prop} {W:World} {v:Value} {σ τ:RS} {r:Ending} {Y:World} (h:CdBad b xb W σ.code σ.pos r Y) (hc:σ.code≠0) (hs:Stays σ τ):CdRet b g cap dv ts xb W v τ r Y:=by
 obtain⟨h1,h2⟩:=hs hc
 exact⟨h.2.out,.inr ⟨by rw[h1];exact hc,by rw[h1,h2];exact h.1⟩⟩
theorem dummyAny {X:Prop} (P:Program) (w:World) (hx:X):wpAny P Region.Mode.any #[] (fun _ _ _=>True) 0 #[] { tmps:=#[],defers:=[] } w→X:=fun _=>hx
theorem refusal_any (b g cap:Nat) (dv:Value) (ts:List Tok) (xb:Nat→Prop) (σ:RS) (e:Int) (W:World) (h:Hid (Cd W b g cap dv ts xb σ)) :
  Calls prog 60 #[.pointer (some ⟨b,0,none⟩),.int .i64 e] W fun r Y=>r=.returned (.agg #[.int .i64 e,.int .i64 ((tokL ts σ.at_).at_:Int)])∧Below W.heap.size W Y:=by
 obtain⟨o,c,⟨c0,c1,c2,c3,fr⟩,hx⟩:=h.out.cells
 obtain⟨t0,t1,t2,t3⟩:=h.out.tok
 have hl:=h.out.at_
 obtain⟨n,hnn⟩:∃n,n=ts.length - σ.at_:=⟨_,rfl⟩
 obtain⟨a4,haa⟩:∃a4,a4=σ.at_*4:=⟨_,rfl⟩
 obtain⟨p,hp⟩:∃p,p=(tokL ts σ.at_).at_:=⟨_,rfl⟩
 rw[←hnn,←haa] at c0
 rw[←hp,←haa] at t3
 rw[←hp]
 have hgs:g<W.heap.size:=by have:=h.out.lt;have:=h.out.size;omega
 have hbs:b<W.heap.size:=h.out.size
 have k0:(0:Int)<(n:Int):=by omega
 have B0:Hid (Below W.heap.size W (W.alloc (.cells #[.int .i64 0,.int .i64 0] 75))):=Hd ((qB _ _).alloc (qL _) _)
 clear hnn haa hp t0 t1 t2 hl hx c1 c2 c3 fr
 go_enter Tryz.func60,Tryz.ntmps60
 go_wp2_with fail
 have r0:(W.alloc (.cells #[.int .i64 e,.int .i64 (p:Int)] 75)).cell? ⟨W.heap.size,0,none⟩=some (.int .i64 e):=by rw[World.cell?_alloc_new];rfl
 have r1:(W.alloc (.cells #[.int .i64 e,.int .i64 (p:Int)] 75)).cell? ⟨W.heap.size,1,none⟩=some (.int .i64 (p:Int)):=by rw[World.cell?_alloc_new];rfl
 exact bodyPost_ret (v:=.agg #[.int .i64 e,.int .i64 (p:Int)]) (by simp[results,Tryz.results60,go_sem,r0,r1]) rfl ⟨rfl,(qB _ _).alloc (qL _) _⟩
theorem box_four (w:World) (a b c d:Value) (T:TypeId) (o:Obj):(((w.alloc (.cells #[a,b,c,d] T)).alloc o).cell? ⟨w.heap.size,0,none⟩=some a∧((w.alloc (.cells #[a,b,c,d] T)).alloc o).cell? ⟨w.heap.size,1,none⟩=some b∧((w.alloc (.cells #[a,b,c,d] T)).alloc o).cell? ⟨w.heap.size,2,none⟩=some c∧((w.alloc (.cells #[a,b,c,d] T)).alloc o).cell? ⟨w.heap.size,3,none⟩=some d)∧True:=by
 have hb:Below (w.alloc (.cells #[a,b,c,d] T)).heap.size (w.alloc (.cells #[a,b,c,d] T)) ((w.alloc (.cells #[a,b,c,d] T)).alloc o):=(qB _ _).alloc (qL _) _
 have e:∀i,((w.alloc (.cells #[a,b,c,d] T)).alloc o).cell? ⟨w.heap.size,i,none⟩=(w.alloc (.cells #[a,b,c,d] T)).cell? ⟨w.heap.size,i,none⟩:=fun i=>hb.cell (p:=⟨w.heap.size,i,none⟩) (by simp)
 simp only[e,World.cell?_alloc_new]
 exact⟨⟨rfl,rfl,rfl,rfl⟩,trivial⟩
def TakeRet (b g cap:Nat) (dv:Value) (ts:List Tok) (xb:Nat→Prop) (W:World) (σ:RS) (r:Ending) (Y:World):Prop:=r=.returned (tokV (tokL ts σ.at_))∧Hid (Cd Y b g cap dv ts xb (stepS σ))∧Hid (RX b xb W Y)
theorem take_any (b g cap:Nat) (dv:Value) (ts:List Tok) (xb:Nat→Prop) (σ:RS) (W:World) (h:Hid (Cd W b g cap dv ts xb σ)) (hk:(tokL ts σ.at_).kind≠5) :
  Calls prog 61 #[.pointer (some ⟨b,0,none⟩)] W fun r Y=>TakeRet b g cap dv ts xb W σ r Y:=by
 obtain⟨o,c,⟨c0,c1,c2,c3,fr⟩,hx⟩:=h.out.cells
 obtain⟨t0,t1,t2,t3⟩:=h.out.tok
 have hl:=h.out.at_
 have hcp:=h.out.cp
 have hnx:=h.out.ends.next h.out.at_ hk
 have HK:=Hd hk
 have f0:=fr 0
 unfold TakeRet tokV
 obtain⟨kd,hkd⟩:∃kd,kd=(tokL ts σ.at_).kind:=⟨_,rfl⟩
 obtain⟨tx,htx⟩:∃tx,tx=(tokL ts σ.at_).text:=⟨_,rfl⟩
 obtain⟨tv,htv⟩:∃tv,tv=(tokL ts σ.at_).v:=⟨_,rfl⟩
 obtain⟨p,hp⟩:∃p,p=(tokL ts σ.at_).at_:=⟨_,rfl⟩
 rw[←hkd] at t0
 rw[←htx] at t1
 rw[←htv] at t2
 rw[←hp] at t3
 rw[←hkd,←htx,←htv,←hp]
 have HS:=Hd (show ts.length - σ.at_-1=ts.length-(σ.at_+1)∧cap - σ.at_-1=cap-(σ.at_+1)∧σ.at_*4+4=(σ.at_+1)*4 by omega)
 obtain⟨n,hnn⟩:∃n,n=ts.length - σ.at_:=⟨_,rfl⟩
 obtain⟨m,hmm⟩:∃m,m=cap - σ.at_:=⟨_,rfl⟩
 obtain⟨a4,haa⟩:∃a4,a4=σ.at_*4:=⟨_,rfl⟩
 have k0:(0:Int)<(n:Int):=by omega
 have k1:(1:Int)≤(n:Int):=by omega
 have k2:(n:Int)≤(m:Int):=by omega
 have k3:¬m=1:=by omega
 rw[←hnn,←hmm,←haa] at c0
 rw[←haa] at t0 t1 t2 t3
 have HE:=Hd (show n=_∧m=_∧a4=_ from⟨hnn,hmm,haa⟩)
 have hgs:g<W.heap.size:=by have:=h.out.lt;have:=h.out.size;omega
 have hbs:b<W.heap.size:=h.out.size
 clear hnn hmm haa hp hkd htx htv hl hx c1 c2 c3 fr hcp hnx hk
 go_enter Tryz.func61,Tryz.ntmps61
 go_wp2_with fail
 obtain⟨W1,hW1⟩:∃W1,W1=W.setCell ⟨b,0,none⟩ (.slice (some ⟨g,a4+4,none⟩) (n-1) (m-1)):=⟨_,rfl⟩
 have HC:Hid (Cd W1 b g cap dv ts xb (stepS σ)):=Hd (by
  have:=h.out.setAt HK.out
  obtain⟨e1,e2,e3⟩:=HE.out
  obtain⟨f1,f2,f3⟩:=HS.out
  rw[hW1,e1,e2,e3,f1,f2,f3];exact this)
 have HR:Hid (RX b xb W W1):=Hd (by rw[hW1];exact RX.set h.out.xnb 0 _)
 have hs:W.heap.size=W1.heap.size:=by rw[hW1];simp
 rw[←hW1]
 have HB:=Hd (((qB W1.heap.size W1).alloc (qL _) (.cells #[.int .i64 (kd:Int),.string (str tx),.int .i64 tv,.int .i64 (p:Int)] 43)).alloc (by simp) (.cells #[.int .i64 (kd:Int),.string (str tx),.int .i64 tv,.int .i64 (p:Int)] 43))
 have hb1:b≤W1.heap.size:=by omega
 clear hW1
 rw[hs]
 obtain⟨⟨r0,r1,r2,r3⟩,-⟩:=box_four W1 (.int .i64 (kd:Int)) (.string (str tx)) (.int .i64 tv) (.int .i64 (p:Int)) 43 (.cells #[.int .i64 (kd:Int),.string (str tx),.int .i64 tv,.int .i64 (p:Int)] 43)
 exact bodyPost_ret (v:=.agg #[.int .i64 (kd:Int),.string (str tx),.int .i64 tv,.int .i64 (p:Int)]) (by simp[results,Tryz.results61,go_sem,r0,r1,r2,r3]) rfl ⟨rfl,Hd (HC.out.below HB.out),Hd (HR.out.trans (RX.of_below HB.out hb1 HC.out.xlt))⟩
theorem isS_text {ts:List Tok} {s:List UInt8} {σ:RS} (ht:TxOk ts) (hs:s ∈ sgL) (hc:σ.code=0):isS ts s σ=((tokL ts σ.at_).text ==s):=by
 unfold isS
 rw[qT hc,Bool.true_and]
 by_cases h3:(tokL ts σ.at_).kind=3
 ·rw[qT h3];simp
 ·by_cases h4:(tokL ts σ.at_).kind=4
  ·rw[qT h4];simp
  ·have:=ht σ.at_ h3 h4 s hs
   rw[qF h3,qF h4,beq_false_of_ne this];rfl
def fitsB (ts:List Tok) (L:List (List UInt8)) (σ:RS):Bool:=L.any fun s=>isS ts s σ
def StrsIn (W:World) (k:Nat) (L:List (List UInt8)):Prop:=∀j s,L[j]?=some s→W.cell? ⟨k,j,none⟩=some (.string (str s))
theorem str_inj {a b:List UInt8} (h:str a=str b):a=b:=by
 have:=congrArg (fun x:ByteArray=>x.data.toList) h
 simpa [str_data] using this
theorem contains_any {ts:List Tok} {L:List (List UInt8)} {σ:RS} (ht:TxOk ts) (hL:∀s ∈ L,s ∈ sgL) (hc:σ.code=0):Lib.containsS (L.map str) (str (tokL ts σ.at_).text)=fitsB ts L σ:=by
 have h:Lib.containsS (L.map str) (str (tokL ts σ.at_).text)=true↔fitsB ts L σ=true:=by
  rw[Lib.containsS_iff]
  unfold fitsB
  rw[List.any_eq_true]
  constructor
  ·intro h
   obtain⟨s,h1,h2⟩:=List.mem_map.1 h
   exact⟨s,h1,by rw[isS_text ht (hL s h1) hc];simp[str_inj h2]⟩
  ·rintro⟨s,h1,h2⟩
   rw[isS_text ht (hL s h1) hc] at h2
   exact List.mem_map.2 ⟨s,h1,by rw[eq_of_beq h2]⟩
 cases h1:Lib.containsS (L.map str) (str (tokL ts σ.at_).text) <;> cases h2:fitsB ts L σ <;> simp_all
theorem fits_any (b g cap:Nat) (dv:Value) (ts:List Tok) (xb:Nat→Prop) (σ:RS) (k n:Nat) (L:List (List UInt8)) (W:World) (h:Hid (Cd W b g cap dv ts xb σ)) (hc:σ.code=0) (hL:∀s ∈ L,s ∈ sgL) (hn:n=L.length) (hn9:(n:Int)≤9) (hk:Hid (StrsIn W k L)) :
  Calls prog 49 #[.pointer (some ⟨b,0,none⟩),.slice (some ⟨k,0,none⟩) n n] W fun r Y=>r=.returned (.bool (fitsB ts L σ))∧Y=W:=by
 obtain⟨o,c,⟨c0,c1,c2,c3,fr⟩,hx⟩:=h.out.cells
 obtain⟨t0,t1,t2,t3⟩:=h.out.tok
 have hl:=h.out.at_
 have C:Hid (∀w,w=W→Calls prog 74 #[.slice (some ⟨k,0,none⟩) n n,.string (str (tokL ts σ.at_).text)] w fun e w'=>e=.returned (.bool (fitsB ts L σ))∧w'=w):=Hd (by
  rintro w rfl
  have:=Tryz.slices_Contains_string k 0 n n (L.map str) (str (tokL ts σ.at_).text) w (by simp;omega) (by omega) (fun j hj=>by
   rw[List.length_map] at hj
   rw[Nat.zero_add,hk.out j L[j] (List.getElem?_eq_getElem hj),List.getD_eq_getElem?_getD,List.getElem?_map,List.getElem?_eq_getElem hj];rfl)
  rw[List.take_of_length_le (by simp;omega),contains_any h.out.tx hL hc] at this
  exact this)
 obtain⟨B,hB⟩:∃B,B=fitsB ts L σ:=⟨_,rfl⟩
 rw[←hB] at C ⊢
 obtain⟨m,hmm⟩:∃m,m=ts.length - σ.at_:=⟨_,rfl⟩
 obtain⟨a4,haa⟩:∃a4,a4=σ.at_*4:=⟨_,rfl⟩
 obtain⟨tx,htx⟩:∃tx,tx=(tokL ts σ.at_).text:=⟨_,rfl⟩
 rw[←hmm,←haa] at c0
 rw[←htx,←haa] at t1
 rw[←htx] at C
 have k0:(0:Int)<(m:Int):=by omega
 clear hmm haa htx t0 t2 t3 hl hx c1 c2 c3 fr hB hL hc hn hk hn9
 go_enter Tryz.func49,Tryz.ntmps49
 go_wp2_with (go_at_call 74;(with_reducible refine(C.out _ rfl).mono ?_);rintro e w1 ⟨rfl,rfl⟩)
 go_ret
 exact⟨rfl,rfl⟩
theorem strs_new (W:World) (L:List (List UInt8)) (T:TypeId):StrsIn (W.alloc (.cells (L.map fun s=>Value.string (str s)).toArray T)) W.heap.size L:=fun j s hj=>by
 rw[World.cell?_alloc_new]
 simp[hj]
def TakesRet (b g cap:Nat) (dv:Value) (ts:List Tok) (xb:Nat→Prop) (W:World) (s:List UInt8) (σ:RS) (r:Ending) (Y:World):Prop:=r=.returned (.bool (isS ts s σ))∧Hid (Cd Y b g cap dv ts xb (tookS ts s σ))∧Hid (RX b xb W Y)
theorem takes_any (b g cap:Nat) (dv:Value) (ts:List Tok) (xb:Nat→Prop) (σ:RS) (s:List UInt8) (W:World) (h:Hid (Cd W b g cap dv ts xb σ)) (hc:σ.code=0) (hs:s ∈ sgL) :
  Calls prog 62 #[.pointer (some ⟨b,0,none⟩),.string (str s)] W fun r Y=>TakesRet b g cap dv ts xb W s σ r Y:=by
 obtain⟨W1,hW1⟩:∃W1,W1=W.alloc (.cells #[.string (str s)] 9):=⟨_,rfl⟩
 have hb1:Below W.heap.size W W1:=by rw[hW1];exact(qB _ _).alloc (qL _) _
 have H1:Hid (Cd W1 b g cap dv ts xb σ):=Hd (h.out.below hb1)
 have F:Hid (Calls prog 49 #[.pointer (some ⟨b,0,none⟩),.slice (some ⟨W.heap.size,0,none⟩) 1 1] W1 fun r Y=>r=.returned (.bool (isS ts s σ))∧Y=W1):=Hd (by
  have:=fits_any b g cap dv ts xb σ W.heap.size 1 [s] W1 H1 hc (by simpa using hs) rfl (by decide) (Hd (by rw[hW1];exact strs_new W [s] _))
  unfold fitsB at this
  simpa using this)
 have HB:=Hd (RX.of_below hb1 (ql h.out.size) h.out.xlt)
 clear hb1
 cases hi:isS ts s σ with
 | true =>
  have T:=Hd (take_any b g cap dv ts xb σ W1 H1 (isS_kind hi).1)
  rw[hi] at F
  have e:tookS ts s σ=stepS σ:=by unfold tookS;rw[if_pos hi]
  unfold TakesRet
  rw[e,hi]
  clear hi e
  go_enter Tryz.func62,Tryz.ntmps62
  go_wp2_with (first
   | (go_at_call 49;rw[←hW1];clear hW1;(with_reducible refine F.out.mono ?_);rintro e w1 ⟨rfl,rfl⟩)
   | (go_at_call 61;(with_reducible refine T.out.mono ?_);rintro e w2 ⟨rfl,hr,hk⟩))
  go_ret
  exact⟨rfl,hr,Hd (HB.out.trans hk.out)⟩
 | false =>
  rw[hi] at F
  have e:tookS ts s σ=σ:=by unfold tookS;rw[hi];rfl
  unfold TakesRet
  rw[e,hi]
  clear hi e
  go_enter Tryz.func62,Tryz.ntmps62
  go_wp2_with (go_at_call 49;rw[←hW1];clear hW1;(with_reducible refine F.out.mono ?_);rintro e w1 ⟨rfl,rfl⟩)
  go_ret
  exact⟨rfl,H1,HB⟩
end Go.Proofs.YtpfmlfcaadnnpaaGreatDoor
namespace Go.Proofs.YtpfmlfcaadnnpaaGreatDoor
open Go.RowKit Lx
theorem okS_iff {σ:RS}:okS σ=true↔σ.exprs.length≤40000∧0≤σ.deep∧σ.deep≤30:=by unfold okS;simp
def twoE (k a b:Int) (p:Nat):Ex:={ ex0 with kind:=k,a:=a,b:=b,pos:=(p:Int) }
theorem loop_cases {ts:List Tok} {n least:Nat} {a:Int} {σ:RS} {R:Int×List Int×RS} (h:runE ts n (.loop least a) σ=some R) :
  ∃m,n=m+1∧((σ.code≠0∧R=(a,[],σ))∨(σ.code=0∧(levelS ts σ).1≠(least:Int)∧R=(a,[],σ)) ∨
   (σ.code=0∧(levelS ts σ).1=(least:Int)∧∃bv lb τ,runE ts m (.bin (least+1)) (stepS σ)=some (bv,lb,τ)∧okS τ=true ∧
    ((least=3∧R=((τ.exprs.length:Int),[],putS (twoE (levelS ts σ).2 a bv (tokL ts σ.at_).at_) τ))∨(least≠3∧runE ts m (.loop least (τ.exprs.length:Int)) (putS (twoE (levelS ts σ).2 a bv (tokL ts σ.at_).at_) τ)=some R)))):=by
 cases n with
 | zero=>cases h
 | succ m =>
  refine⟨m,rfl,?_⟩
  simp only[runE] at h
  split at h
  ·unfold loopG at h
   split at h
   ·rename_i h0
    split at h
    ·rename_i hl
     refine .inr (.inr ⟨h0,hl,?_⟩)
     cases hb:runE ts m (.bin (least+1)) (stepS σ) with
     | none=>rw[hb] at h;cases h
     | some q =>
      obtain⟨bv,lb,τ⟩:=q
      rw[hb] at h
      simp only[Option.bind_some] at h
      unfold putA at h
      split at h
      ·rename_i hok
       refine⟨bv,lb,τ,rfl,hok,?_⟩
       split at h
       ·rename_i h3
        exact .inl ⟨h3,(qI h).symm⟩
       ·rename_i h3
        exact .inr ⟨h3,h⟩
      ·cases h
    ·rename_i hl
     exact .inr (.inl ⟨h0,hl,(qI h).symm⟩)
   ·rename_i h0
    exact .inl ⟨h0,(qI h).symm⟩
  ·cases h
theorem least_of {α:Type} (P:Nat→α→Prop):∃m:α→Nat,∀x,(∃n,P n x)→P (m x) x∧∀k,P k x→m x≤k:=by
 have key:∀x,∃n,(∃n,P n x)→P n x∧∀k,P k x→n≤k:=fun x=>by
  by_cases h:∃n,P n x
  ·obtain⟨n,hn⟩:=h
   induction n using Nat.strongRecOn with
   | ind n ih =>
    by_cases h2:∃k,k<n∧P k x
    ·obtain⟨k,hk,hp⟩:=h2
     exact ih k hk hp
    ·exact⟨n,fun _=>⟨hn,fun k hk=>Nat.le_of_not_lt fun hlt=>h2 ⟨k,hlt,hk⟩⟩⟩
  ·exact⟨0,fun h2=>absurd h2 h⟩
 exact⟨fun x=>(key x).choose,fun x=>(key x).choose_spec⟩
end Go.Proofs.YtpfmlfcaadnnpaaGreatDoor
