import Derived.Test.YthpgfahlccljnaaGreatDoorSwH
import Derived.WalkKit
import Derived.Test.YthpgfahlccljnaaGreatDoorRows
import Derived.Laws.BytesString
import Derived.Deep.Slices
import Derived.Test.YthpgfahlccljnaaGreatDoorChecked
import Derived.Deep.Fields
import Derived.Deep.Strs
import Derived.SizedLaws
import Derived.Carry
import Derived.Lib.SmallJoins
import Derived.Outline
import Derived.Lib.Hide
import Derived.Deep.QuietTactic
import Derived.BigQuiet
import Derived.Deep.Draws
import Derived.IntWalk
set_option maxHeartbeats 16000000
set_option maxRecDepth 100000
open Go.Proofs.Tryz(prog)
namespace Go.Proofs.YthpgfahlccljnaaGreatDoor
open Go.RowKit
def dg (n:Nat):UInt8:=UInt8.ofNat (48+n)
def digs (n:Nat):List UInt8:=if n<10 then [dg n] else digs (n / 10)++[dg (n % 10)]
termination_by n
decreasing_by omega
theorem digs_small {n:Nat} (h:n<10):digs n=[dg n]:=by rw[digs,if_pos h]
theorem digs_step {n:Nat} (h:10≤n):digs n=digs (n / 10)++[dg (n % 10)]:=by rw[digs,if_neg (by omega)]
def frac:Nat→Nat→List UInt8
 | 0,_=>[]
 | n+1,b=>dg (b*10 / 4294967296) :: frac n (b*10 % 4294967296)
def rest:Nat→Nat→Nat
 | 0,b=>b
 | n+1,b=>rest n (b*10 % 4294967296)
theorem frac_snoc (n b:Nat):frac (n+1) b=frac n b++[dg (rest n b*10 / 4294967296)]:=by
 induction n generalizing b with
 | zero=>rfl
 | succ n ih=>rw[frac,ih,frac];rfl
theorem rest_succ (n b:Nat):rest (n+1) b=rest n b*10 % 4294967296:=by
 induction n generalizing b with
 | zero=>rfl
 | succ n ih=>rw[rest,ih];rfl
theorem frac_length (n b:Nat):(frac n b).length=n:=by
 induction n generalizing b with
 | zero=>rfl
 | succ n ih=>rw[frac,List.length_cons,ih]
theorem rest_lt (n:Nat) {b:Nat} (h:b<4294967296):rest n b<4294967296:=by
 induction n generalizing b with
 | zero=>exact h
 | succ n ih=>rw[rest];exact ih (Nat.mod_lt _ (by omega))
def strip (l:List UInt8):List UInt8:=(l.reverse.dropWhile (· ==48)).reverse
theorem strip_nil:strip []=[]:=rfl
theorem strip_zero (l:List UInt8):strip (l++[48])=strip l:=by unfold strip;simp
theorem strip_other (l:List UInt8) {c:UInt8} (h:c≠48):strip (l++[c])=l++[c]:=by
 unfold strip
 have:(c ==48)=false:=beq_false_of_ne h
 simp[this]
theorem take_at {l:List UInt8} {k:Nat} {c:UInt8} (h:l[k]?=some c):l.take (k+1)=l.take k++[c]:=by
 obtain⟨hk,hb⟩:=List.getElem?_eq_some_iff.1 h
 rw[List.take_succ_eq_append_getElem hk,hb]
def tail (f:List UInt8):List UInt8:=if f=[] then [] else 46 :: f
def clip (n:Int):Nat:=(min (max n 0) 32).toNat
def shortL (q n:Int):List UInt8:=(if q<0 then [45] else [])++digs (q.natAbs / 4294967296)++tail (strip (frac (clip n) (q.natAbs % 4294967296)))
def str (l:List UInt8):ByteArray:=⟨l.toArray⟩
theorem str_cat (a b:List UInt8):str a++str b=str (a++b):=by unfold str;apply ByteArray.ext;simp
theorem str_nil:str []=⟨#[]⟩:=rfl
theorem str_size (l:List UInt8):(str l).size=l.length:=by unfold str;simp[ByteArray.size]
def byteOf (x:Int):UInt8:=UInt8.ofNat x.toNat
theorem byteOf_dg (n:Nat):byteOf (48+(n:Int))=dg n:=by unfold byteOf dg;congr 1
theorem byte_str (w:World) (x:Int):(convert 55 9 (.slice (some ⟨w.heap.size,0,none⟩) 1 1)).run prog (w.alloc (.cells #[.int .u8 x] 5)) =
  .ok (.string (str [byteOf x])) (w.alloc (.cells #[.int .u8 x] 5)):=by
 rw[run_convert_bytes_string _ _ _ 5 _ _ _ Tryz.underlying55 Tryz.underlying5 Tryz.underlying9,run_bytesToString _ _ _ _ [x]]
 ·rfl
 ·simp[loadCells,go_sem]
theorem wpList_byte {ops:Array Oper} {rest:List Oper} {o:Oper} {a:Act} {Q:Exit→Act→World→Prop} (w:World) (hgd:o.guard=none) (t:Operand)
  (ho:o.op=.convert 55 9 t) (x:Int) (b:UInt8) (hb:byteOf x=b) (hx:a.eval t=.slice (some ⟨w.heap.size,0,none⟩) 1 1)
  (h:wpList prog ops Q rest (a.put o.dst (.string (str [b]))) (w.alloc (.cells #[.int .u8 x] 5))):wpList prog ops Q (o :: rest) a (w.alloc (.cells #[.int .u8 x] 5)):=by
 subst hb
 refine wpList_plain hgd fun K hK=>?_
 unfold Oper.wp
 simp[execOp,ho,hx,byte_str,Result.andThen]
 exact hK _ _ h
theorem wpList_cat {ops:Array Oper} {rest:List Oper} {o:Oper} {a:Act} {Q:Exit→Act→World→Prop} (w:World) (hgd:o.guard=none) (s t:Operand)
  (ho:o.op=.binOp .add 9 s t 9) (l m:List UInt8) (hs:a.eval s=.string (str l)) (ht:a.eval t=.string (str m)) (hl:l.length+m.length≤9223372036854775807)
  (h:wpList prog ops Q rest (a.put o.dst (.string (str (l++m)))) w):wpList prog ops Q (o :: rest) a w:=by
 refine wpList_plain hgd fun K hK=>?_
 unfold Oper.wp
 have hrun:=run_string_add_sum (P:=prog) (w:=w) (str l) (str m) (by rw[str_size,str_size];omega)
 rw[str_cat] at hrun
 simp only[execOp,ho,hs,ht]
 simp[eqGuard,binOp_string_add,hrun,Result.andThen]
 exact hK _ _ h
end Go.Proofs.YthpgfahlccljnaaGreatDoor
namespace Go.Proofs.YthpgfahlccljnaaGreatDoor
structure Ex where
 kind:Int
 a:Int
 b:Int
 c:Int
 name:ByteArray
 state:ByteArray
 v:Int
 args:List Int
 pos:Int
structure It where
 kind:Int
 name:ByteArray
 type:Int
 e:Int
 f:Int
 states:List ByteArray
 state:ByteArray
 next:ByteArray
 pos:Int
structure Pa where
 name:ByteArray
 type:Int
structure De where
 kind:Int
 name:ByteArray
 params:List Pa
 items:List It
 type:Int
 e:Int
 pos:Int
structure Pr where
 decls:List De
 exprs:List Ex
def manyOf (k:Int):Nat:=if k=4∨k=5∨k=16∨k=21 then 1 else if(6≤k∧k≤14)∨k=17∨k=18 then 2 else if k=15 then 3 else 0
def partsE (x:Ex):List Int:=if x.kind=19 then x.args else [x.a,x.b,x.c].take (manyOf x.kind)
def mostV (k:Int):Int:=if k=1 then 9223372036854775807 else if k=2 then 1 else 0
def namedK (k:Int):Bool:=decide (k=3)||decide (k=19)||decide (k=20)
def mayE (x:Ex) (i:Nat):Bool :=
 decide (1≤x.kind)&&decide (x.kind≤21)&&(partsE x).all (fun p=>decide (0≤p)&&decide (p<(i:Int)))&&([x.a,x.b,x.c].drop (manyOf x.kind)).all (fun p=>decide (p=0)) &&
 (namedK x.kind ==decide (x.name.size≠0))&&(decide (x.kind=20) ==decide (x.state.size≠0))&&(decide (x.kind=19)||decide (x.args.length=0))&&decide (0≤x.v)&&decide (x.v≤mostV x.kind)
def hasVal (k:Int):Bool:=decide (k=1)||decide (k=2)
def hasE (k:Int):Bool:=decide (k=1)||decide (k=4)||decide (k=2)||decide (k=3)||decide (k=5)
def hasF (k:Int):Bool:=decide (k=2)||decide (k=3)||decide (k=5)||decide (k=7)
def standsE (n:Nat) (has:Bool) (e:Int):Bool:=if has then decide (0≤e)&&decide (e<(n:Int)) else decide (e=0)
def mayI (n:Nat) (x:It):Bool:=standsE n (hasE x.kind) x.e&&standsE n (hasF x.kind) x.f
def mayD (n:Nat) (d:De):Bool:=standsE n (hasVal d.kind) d.e&&d.items.all (mayI n)
def mayX (l:List Ex) (i:Nat):Bool:=match l[i]? with | some x=>mayE x i | none=>true
def mayP (p:Pr):Bool:=(List.range p.exprs.length).all (mayX p.exprs)&&p.decls.all (mayD p.exprs.length)
def tightK (k:Int):Int :=
 if k=15∨k=17∨k=18 then 0 else if k=14 then 1 else if k=13 then 2 else if k=10∨k=11∨k=12 then 3 else if k=6∨k=7 then 4 else if k=8∨k=9 then 5 else if k=4∨k=5∨k=16∨k=21 then 6 else 7
def signB (k:Int):ByteArray :=
 if k=6 then⟨#[43]⟩ else if k=7 then⟨#[45]⟩ else if k=8 then⟨#[42]⟩ else if k=9 then⟨#[47]⟩ else if k=10 then⟨#[60]⟩ else if k=11 then⟨#[60,61]⟩ else if k=12 then⟨#[61,61]⟩ else
 if k=13 then⟨#[97,110,100]⟩ else if k=14 then⟨#[111,114]⟩ else if k=17 then⟨#[45,62]⟩ else⟨#[102,98,121]⟩
def wordB (k:Int):ByteArray:=if k=4 then⟨#[45]⟩ else if k=5 then⟨#[110,111,116,32]⟩ else if k=16 then⟨#[112,114,101,32]⟩ else⟨#[115,113,114,116,32]⟩
def typeB (t:Int):ByteArray:=if t=1 then⟨#[102,105,120]⟩ else if t=2 then⟨#[98,111,111,108]⟩ else⟨#[63]⟩
def oneW (k:Int):Int:=if tightK k=3 then 4 else if tightK k=0 then 1 else tightK k
def nextW (k:Int):Int:=if tightK k=3 then 4 else if tightK k=0 then 0 else tightK k+1
def argsB (T:Int→ByteArray) (s:ByteArray) (l:List Int):Nat→ByteArray
 | 0=>s
 | i+1=>(if 0<i then argsB T s l i++⟨#[44,32]⟩ else argsB T s l i)++T (l.getD i 0)
def ownB (T:Int→Int→ByteArray) (x:Ex):ByteArray :=
 if x.kind=1 then str (shortL x.v 32) else
 if x.kind=2 then(if x.v=1 then⟨#[116,114,117,101]⟩ else⟨#[102,97,108,115,101]⟩) else
 if x.kind=3 then x.name else
 if x.kind=4∨x.kind=5∨x.kind=16∨x.kind=21 then wordB x.kind++T x.a 6 else
 if x.kind=15 then((((⟨#[105,102,32]⟩++T x.a 0)++⟨#[32,116,104,101,110,32]⟩)++T x.b 0)++⟨#[32,101,108,115,101,32]⟩)++T x.c 0 else
 if x.kind=19 then argsB (fun a=>T a 0) (x.name++⟨#[40]⟩) x.args x.args.length++⟨#[41]⟩ else
 if x.kind=20 then(x.name++⟨#[32,105,115,32]⟩)++x.state else
 (((T x.a (oneW x.kind)++⟨#[32]⟩)++signB x.kind)++⟨#[32]⟩)++T x.b (nextW x.kind)
def exZ:Ex:=⟨0,0,0,0,⟨#[]⟩,⟨#[]⟩,0,[],0⟩
def txtB (l:List Ex):Nat→Int→Int→ByteArray
 | 0,_,_=>⟨#[]⟩
 | f+1,e,w=>if tightK (l.getD e.toNat exZ).kind<w then(⟨#[40]⟩++ownB (txtB l f) (l.getD e.toNat exZ))++⟨#[41]⟩ else ownB (txtB l f) (l.getD e.toNat exZ)
def FitB (l:List Ex) (f:Nat):Prop:=∀k,k≤f→∀(e:Nat) w,e<l.length→(txtB l k (e:Int) w).size≤1000000000000000
theorem argsB_le (T:Int→ByteArray) (s:ByteArray) (l:List Int) (i j:Nat) (h:i≤j):(argsB T s l i).size≤(argsB T s l j).size:=by
 induction j with
 | zero =>
      obtain rfl:i=0:=by omega
      exact qL _
 | succ j ih =>
  rcases Nat.lt_or_ge i (j+1) with h1 | h1
  ·have h2:=ih (by omega)
   have h3:(argsB T s l j).size≤(argsB T s l (j+1)).size:=by
    show _≤((if 0<j then argsB T s l j++⟨#[44,32]⟩ else argsB T s l j)++T (l.getD j 0)).size
    rw[ByteArray.size_append]
    split
    ·rw[ByteArray.size_append];omega
    ·omega
   omega
  ·obtain rfl:i=j+1:=by omega
   exact qL _
theorem own_le (l:List Ex) (f:Nat) (e w:Int):(ownB (txtB l f) (l.getD e.toNat exZ)).size≤(txtB l (f+1) e w).size:=by
 show _≤(if tightK (l.getD e.toNat exZ).kind<w then(⟨#[40]⟩++ownB (txtB l f) (l.getD e.toNat exZ))++⟨#[41]⟩ else ownB (txtB l f) (l.getD e.toNat exZ)).size
 split
 ·rw[ByteArray.size_append,ByteArray.size_append];omega
 ·exact qL _
end Go.Proofs.YthpgfahlccljnaaGreatDoor
namespace Go.Proofs.YthpgfahlccljnaaGreatDoor
open Go.ChangeShapes Go.WideShapes Go.Deep Go.RowKit
def reachN:Nat:=140737488351232
def CapOk (o:Option Addr) (cap:Nat):Prop:=cap≤maxLen∧(o=none→cap=0)
def SlAt (s:Value) (n sz:Nat) (el:Nat→Nat→Nat→Prop):Prop :=
 ∃o cap b off,s=.slice o n cap∧n≤cap∧CapOk o cap∧(0<n→o=some ⟨b,off,none⟩)∧∀i,i<n→el b (off+i*sz) i
theorem slAt_none (n sz cap:Nat) (o:Option Addr) (el:Nat→Nat→Nat→Prop) (hc:CapOk o cap) (h:n=0):SlAt (.slice o n cap) n sz el:=by
 subst h;exact⟨o,cap,0,0,rfl,Nat.zero_le _,hc,by omega,by omega⟩
theorem slAt_some {n sz cap b off:Nat} {el:Nat→Nat→Nat→Prop} (h1:n≤cap) (h2:cap≤maxLen) (h:∀i,i<n→el b (off+i*sz) i):SlAt (.slice (some ⟨b,off,none⟩) n cap) n sz el:=⟨_,cap,b,off,rfl,h1,⟨h2,fun h=>by cases h⟩,fun _=>rfl,h⟩
theorem SlAt.mono {s:Value} {n sz:Nat} {p q:Nat→Nat→Nat→Prop} (h:SlAt s n sz p) (hpq:∀b o i,i<n→p b o i→q b o i):SlAt s n sz q:=by
 obtain⟨o,cap,b,off,h1,h2,h3,h4,h5⟩:=h
 exact⟨o,cap,b,off,h1,h2,h3,h4,fun i hi=>hpq _ _ _ hi (h5 i hi)⟩
def IntsAt (w:World) (s:Value) (l:List Int):Prop:=SlAt s l.length 1 fun b o i=>w.cell? ⟨b,o,none⟩=some (.int .i64 (l.getD i 0))
def StrsAt (w:World) (s:Value) (l:List ByteArray):Prop:=SlAt s l.length 1 fun b o i=>w.cell? ⟨b,o,none⟩=some (.string (l.getD i ⟨#[]⟩))
def i64ok (n:Int):Prop:=-9223372036854775808≤n∧n≤9223372036854775807
structure ExOk (x:Ex):Prop where
 kind:i64ok x.kind
 a:i64ok x.a
 b:i64ok x.b
 c:i64ok x.c
 v:i64ok x.v
 name:x.name.size≤reachN
 state:x.state.size≤reachN
 args:x.args.length≤reachN
 argsOk:∀n ∈ x.args,i64ok n
def ExAt (w:World) (b o:Nat) (x:Ex):Prop:=∃s,w.cell? ⟨b,o,none⟩=some (.int .i64 x.kind)∧w.cell? ⟨b,o+1,none⟩=some (.int .i64 x.a)∧w.cell? ⟨b,o+2,none⟩=some (.int .i64 x.b) ∧
 w.cell? ⟨b,o+3,none⟩=some (.int .i64 x.c)∧w.cell? ⟨b,o+4,none⟩=some (.string x.name)∧w.cell? ⟨b,o+5,none⟩=some (.string x.state)∧w.cell? ⟨b,o+6,none⟩=some (.int .i64 x.v) ∧
 w.cell? ⟨b,o+7,none⟩=some s∧w.cell? ⟨b,o+8,none⟩=some (.int .i64 x.pos)∧IntsAt w s x.args∧ExOk x
structure ItOk (x:It):Prop where
 kind:i64ok x.kind
 e:i64ok x.e
 f:i64ok x.f
 name:x.name.size≤reachN
 state:x.state.size≤reachN
 next:x.next.size≤reachN
 states:x.states.length≤reachN
 statesOk:∀s ∈ x.states,s.size≤reachN
def ItAt (w:World) (b o:Nat) (x:It):Prop:=∃s,w.cell? ⟨b,o,none⟩=some (.int .i64 x.kind)∧w.cell? ⟨b,o+1,none⟩=some (.string x.name)∧w.cell? ⟨b,o+2,none⟩=some (.int .i64 x.type) ∧
 w.cell? ⟨b,o+3,none⟩=some (.int .i64 x.e)∧w.cell? ⟨b,o+4,none⟩=some (.int .i64 x.f)∧w.cell? ⟨b,o+5,none⟩=some s∧w.cell? ⟨b,o+6,none⟩=some (.string x.state) ∧
 w.cell? ⟨b,o+7,none⟩=some (.string x.next)∧w.cell? ⟨b,o+8,none⟩=some (.int .i64 x.pos)∧StrsAt w s x.states∧ItOk x
def PaAt (w:World) (b o:Nat) (x:Pa):Prop:=w.cell? ⟨b,o,none⟩=some (.string x.name)∧w.cell? ⟨b,o+1,none⟩=some (.int .i64 x.type)∧x.name.size≤reachN∧i64ok x.type
structure DeOk (x:De):Prop where
 kind:i64ok x.kind
 e:i64ok x.e
 name:x.name.size≤reachN
 params:x.params.length≤reachN
 items:x.items.length≤reachN
def DeAt (w:World) (b o:Nat) (x:De):Prop:=∃s t,w.cell? ⟨b,o,none⟩=some (.int .i64 x.kind)∧w.cell? ⟨b,o+1,none⟩=some (.string x.name)∧w.cell? ⟨b,o+2,none⟩=some s ∧
 w.cell? ⟨b,o+3,none⟩=some t∧w.cell? ⟨b,o+4,none⟩=some (.int .i64 x.type)∧w.cell? ⟨b,o+5,none⟩=some (.int .i64 x.e)∧w.cell? ⟨b,o+6,none⟩=some (.int .i64 x.pos) ∧
 SlAt s x.params.length 2 (fun b o i=>∀y,x.params[i]?=some y→PaAt w b o y)∧SlAt t x.items.length 9 (fun b o i=>∀y,x.items[i]?=some y→ItAt w b o y)∧DeOk x
def ExsAt (w:World) (s:Value) (l:List Ex):Prop:=SlAt s l.length 9 fun b o i=>∀x,l[i]?=some x→ExAt w b o x
def DesAt (w:World) (s:Value) (l:List De):Prop:=SlAt s l.length 7 fun b o i=>∀x,l[i]?=some x→DeAt w b o x
def ProgAt (w:World) (sd se:Value) (p:Pr):Prop:=DesAt w sd p.decls∧ExsAt w se p.exprs∧p.decls.length≤reachN∧p.exprs.length≤reachN
theorem cell_on {w w':World} (hb:Below w.heap.size w w') {a:Addr} {v:Value} (h:w.cell? a=some v):w'.cell? a=some v:=(hb.cell (World.block_lt_of_cell? _ _ h)).trans h
theorem IntsAt.below {w w':World} {s:Value} {l:List Int} (h:IntsAt w s l) (hb:Below w.heap.size w w'):IntsAt w' s l:=h.mono fun _ _ _ _ h=>cell_on hb h
theorem StrsAt.below {w w':World} {s:Value} {l:List ByteArray} (h:StrsAt w s l) (hb:Below w.heap.size w w'):StrsAt w' s l:=h.mono fun _ _ _ _ h=>cell_on hb h
theorem ExAt.below {w w':World} {b o:Nat} {x:Ex} (h:ExAt w b o x) (hb:Below w.heap.size w w'):ExAt w' b o x:=by
 obtain⟨s,h0,h1,h2,h3,h4,h5,h6,h7,h8,h9,hk⟩:=h
 exact⟨s,cell_on hb h0,cell_on hb h1,cell_on hb h2,cell_on hb h3,cell_on hb h4,cell_on hb h5,cell_on hb h6,cell_on hb h7,cell_on hb h8,h9.below hb,hk⟩
theorem ItAt.below {w w':World} {b o:Nat} {x:It} (h:ItAt w b o x) (hb:Below w.heap.size w w'):ItAt w' b o x:=by
 obtain⟨s,h0,h1,h2,h3,h4,h5,h6,h7,h8,h9,hk⟩:=h
 exact⟨s,cell_on hb h0,cell_on hb h1,cell_on hb h2,cell_on hb h3,cell_on hb h4,cell_on hb h5,cell_on hb h6,cell_on hb h7,cell_on hb h8,h9.below hb,hk⟩
theorem PaAt.below {w w':World} {b o:Nat} {x:Pa} (h:PaAt w b o x) (hb:Below w.heap.size w w'):PaAt w' b o x:=⟨cell_on hb h.1,cell_on hb h.2.1,h.2.2⟩
theorem DeAt.below {w w':World} {b o:Nat} {x:De} (h:DeAt w b o x) (hb:Below w.heap.size w w'):DeAt w' b o x:=by
 obtain⟨s,t,h0,h1,h2,h3,h4,h5,h6,h7,h8,hk⟩:=h
 exact⟨s,t,cell_on hb h0,cell_on hb h1,cell_on hb h2,cell_on hb h3,cell_on hb h4,cell_on hb h5,cell_on hb h6,h7.mono fun _ _ _ _ h y hy=>(h y hy).below hb,h8.mono fun _ _ _ _ h y hy=>(h y hy).below hb,hk⟩
theorem ExsAt.below {w w':World} {s:Value} {l:List Ex} (h:ExsAt w s l) (hb:Below w.heap.size w w'):ExsAt w' s l:=h.mono fun _ _ _ _ h x hx=>(h x hx).below hb
theorem DesAt.below {w w':World} {s:Value} {l:List De} (h:DesAt w s l) (hb:Below w.heap.size w w'):DesAt w' s l:=h.mono fun _ _ _ _ h x hx=>(h x hx).below hb
theorem ProgAt.below {w w':World} {sd se:Value} {p:Pr} (h:ProgAt w sd se p) (hb:Below w.heap.size w w'):ProgAt w' sd se p:=⟨h.1.below hb,h.2.1.below hb,h.2.2⟩
section
variable {H:Type} {enc:TypeId×Value→H} {w:World}
theorem weights_all {H:Type} {P:Program} {e:TypeId}:∀{l:List (DataW H)} {d:DataW H},d ∈ l→∀n ∈ d.weights P e,n ∈ DataW.weightsAll P e l
 | x :: r,d,hd,n,hn=>by
  simp only[DataW.weightsAll,List.mem_append]
  rcases List.mem_cons.1 hd with rfl | h
  ·exact .inl hn
  ·exact .inr (weights_all h n hn)
theorem spot_none {w:World} {a:Addr} {v:Value} (h:w.cell? a=some v):a=⟨a.block,a.off,none⟩:=by
 obtain⟨b,o,s⟩:=a
 unfold World.cell? at h
 split at h
 ·cases s with
  | none=>rfl
  | some x=>simp at h
 ·cases h
theorem add_none (a:Addr) (h:a=⟨a.block,a.off,none⟩) (i:Nat):a.add i=⟨a.block,a.off+i,none⟩:=by
 rw[h];exact add_plain _ _ _
theorem wf_i64 {n:Int} (h:(Lit.int .i64 n).wf=true):i64ok n:=by
 simp[Lit.wf,IntKind.min,IntKind.max,IntKind.signed,IntKind.bits] at h
 unfold i64ok;omega
theorem reach_le {n:Nat} (h:n≤reachBytes):n≤reachN:=h
theorem open_intsAt {fuel:Nat} {cs:List Value} {x:DataW H×List MemPlace} (h:DataW.trod enc prog w 0 (fun _=>true) true fuel 44 cs=some x) (hw:∀n ∈ x.1.weights prog 44,n≤reachBytes) :
  ∃s l,cs=[s]∧IntsAt w s l∧l.length≤reachN∧∀n ∈ l,i64ok n:=by
 rcases open_ints Tryz.underlying44 Tryz.underlying3 (by kernel_rfl) h with ⟨rfl,rfl⟩ | ⟨a,len,cap,zs,rfl,_,hlc,hcm,hz,rfl,hc,hwf⟩
 ·exact⟨_,[],rfl,slAt_none _ _ _ _ _ ⟨Nat.zero_le _,fun _=>rfl⟩ rfl,Nat.zero_le _,by simp⟩
 ·simp only[if_true] at hz
  have hl:(zs.take len).length=len:=by simp[hz];omega
  have hr:len≤reachN:=by
   have:=hw ((lits .i64 (zs.take len)).length*prog.bytesOf 3+(lits .i64 (zs.drop len):List (DataW H)).length*prog.bytesOf 3) (by
    simp only[DataW.weights,Tryz.underlying44,←Nat.add_mul];exact List.mem_cons_self)
   have hb:prog.bytesOf 3=8:=by kernel_rfl
   rw[hb] at this
   have e1:(lits .i64 (zs.take len):List (DataW H)).length=len:=by simp[lits,hz];omega
   rw[e1] at this
   exact reach_le (by omega)
  refine⟨_,zs.take len,rfl,?_,by rw[hl];exact hr,fun n hn=>wf_i64 (hwf n (List.mem_of_mem_take hn))⟩
  unfold IntsAt
  rw[hl]
  rcases Nat.eq_zero_or_pos len with rfl | hp
  ·exact slAt_none _ _ _ _ _ ⟨hcm,fun h=>by cases h⟩ rfl
  ·have h0:=hc 0 (by omega)
   have ha:=spot_none h0
   have ha':a=⟨a.block,a.off,none⟩:=by
    obtain⟨b,o,s⟩:=a
    simp[Addr.add] at ha
    simp[ha]
   rw[ha']
   refine slAt_some hlc hcm fun i hi=>?_
   have:=hc i (by omega)
   rw[add_none a ha'] at this
   show w.cell? ⟨a.block,a.off+i*1,none⟩=_
   rw[Nat.mul_one,this]
   congr 2
   simp[List.getD,hi]
theorem open_strsAt {fuel:Nat} {cs:List Value} {x:DataW H×List MemPlace} (h:DataW.trod enc prog w 0 (fun _=>true) true fuel 34 cs=some x) (hw:∀n ∈ x.1.weights prog 34,n≤reachBytes) :
  ∃s l,cs=[s]∧StrsAt w s l∧l.length≤reachN∧∀s ∈ l,s.size≤reachN:=by
 rcases open_strs Tryz.underlying34 Tryz.underlying9 (by kernel_rfl) h with ⟨rfl,rfl⟩ | ⟨a,len,cap,m,Sx,rfl,_,hlc,hcm,hm,rfl,hc⟩
 ·exact⟨_,[],rfl,slAt_none _ _ _ _ _ ⟨Nat.zero_le _,fun _=>rfl⟩ rfl,Nat.zero_le _,by simp⟩
 ·simp only[if_true] at hm
  have hb:prog.bytesOf 9=16:=by kernel_rfl
  have hr:len≤reachN:=by
   have:=hw _ (by simp only[DataW.weights,Tryz.underlying34];exact List.mem_cons_self)
   rw[hb] at this
   simp at this
   exact reach_le (by omega)
  have hs:∀i,i<len→(Sx i).size≤reachN:=fun i hi=>reach_le (hw _ (by
   simp only[DataW.weights,Tryz.underlying34]
   refine List.mem_cons_of_mem _ (List.mem_append_left _ (weights_all (List.mem_map.2 ⟨i,List.mem_range.2 hi,rfl⟩) _ ?_))
   simp[DataW.weights]))
  refine⟨_,(List.range len).map Sx,rfl,?_,by simpa using hr,fun s hsm=>by
   obtain⟨i,hi,rfl⟩:=List.mem_map.1 hsm
   exact hs i (List.mem_range.1 hi)⟩
  unfold StrsAt
  rw[List.length_map,List.length_range]
  rcases Nat.eq_zero_or_pos len with rfl | hp
  ·exact slAt_none _ _ _ _ _ ⟨hcm,fun h=>by cases h⟩ rfl
  ·have ha:=spot_none (hc 0 (by omega)).1
   have ha':a=⟨a.block,a.off,none⟩:=by
    obtain⟨b,o,s⟩:=a
    simp[Addr.add] at ha
    simp[ha]
   rw[ha']
   refine slAt_some hlc hcm fun i hi=>?_
   have:=(hc i (by omega)).1
   rw[add_none a ha'] at this
   show w.cell? ⟨a.block,a.off+i*1,none⟩=_
   rw[Nat.mul_one,this]
   simp[List.getD,hi]
theorem open_fieldsAt {t e:TypeId} {fs:Array Field} (ht:prog.underlying t=some (.slice e)) (he:prog.underlying e=some (.struct fs)) (hone:oneCellFields prog fs=true) (hC:prog.cellsOf e=fs.size) (hpos:0<fs.size) (hB:0<prog.bytesOf e)
  {fuel:Nat} {cs:List Value} {x:DataW H×List MemPlace} (h:DataW.trod enc prog w 0 (fun _=>true) true fuel t cs=some x) (hw:∀n ∈ x.1.weights prog t,n≤reachBytes) :
  ∃s n,cs=[s]∧n≤reachN∧SlAt s n fs.size fun b o _=>∃fu,∀(j:Nat) (f:Field),fs[j]?=some f→∃(v:Value) (y:DataW H×List MemPlace),w.cell? ⟨b,o+j,none⟩=some v ∧
   DataW.trod enc prog w 0 (fun _=>true) true fu f.type [v]=some y∧∀n ∈ y.1.weights prog f.type,n≤reachBytes:=by
 rcases open_slice ht h with ⟨rfl,rfl⟩ | ⟨a,len,cap,m,nf,D,Pl,rfl,_,hlc,hcm,hm,rfl,hel⟩
 ·exact⟨_,0,rfl,Nat.zero_le _,slAt_none _ _ _ _ _ ⟨Nat.zero_le _,fun _=>rfl⟩ rfl⟩
 ·simp only[if_true] at hm
  have hr:len≤reachN:=by
   have:=hw _ (by simp only[DataW.weights,ht];exact List.mem_cons_self)
   simp only[List.length_map,List.length_range] at this
   have h2:len≤(len+(m-len))*prog.bytesOf e:=Nat.le_trans (by omega) (Nat.le_mul_of_pos_right _ hB)
   exact reach_le (Nat.le_trans h2 this)
  have one:∀i,i<len→∃fu,∀(j:Nat) (f:Field),fs[j]?=some f→∃(v:Value) (y:DataW H×List MemPlace),w.cell? (a.add (i*fs.size+j))=some v ∧
    DataW.trod enc prog w 0 (fun _=>true) true fu f.type [v]=some y∧∀n ∈ y.1.weights prog f.type,n≤reachBytes:=by
   intro i hi
   obtain⟨cs',hcs,htr⟩:=hel i (by omega)
   rw[hC] at hcs
   obtain⟨ys,fu,hy,hxy,hlen,hyl,hf⟩:=DataW.trod_struct he htr
   obtain⟨_,hcl,hat⟩:=World.cells?_some hcs
   simp only[Prod.mk.injEq] at hxy
   refine⟨fu,fun j f hj=>?_⟩
   obtain⟨ho,hk⟩:=hone_of hone j f hj
   have hjl:j<fs.size:=(Array.getElem?_eq_some_iff.1 hj).1
   have hv:cs'[j]?=some (cs'[j]'(by omega)):=List.getElem?_eq_getElem (by omega)
   have hys:ys[j]?=some (ys[j]'(by omega)):=List.getElem?_eq_getElem (by omega)
   have h1:=hf j f hj
   rw[ho,hk,show(cs'.drop j).take 1=[cs'[j]'(by omega)] by rw[List.drop_eq_getElem_cons (by omega)];rfl,hys] at h1
   refine⟨_,_,by rw[←add_add,hat j hjl,hv],h1,fun n hn=>hw n ?_⟩
   simp only[DataW.weights,ht]
   refine List.mem_cons_of_mem _ (List.mem_append_left _ (weights_all (List.mem_map.2 ⟨i,List.mem_range.2 hi,rfl⟩) _ ?_))
   rw[hxy.1]
   simp only[DataW.weights,he]
   exact DataW.weights_mem_each (j:=j) (by simp[hj]) (by simp[hys]) n hn
  refine⟨_,len,rfl,hr,?_⟩
  rcases Nat.eq_zero_or_pos len with rfl | hp
  ·exact slAt_none _ _ _ _ _ ⟨hcm,fun h=>by cases h⟩ rfl
  ·have ha':a=⟨a.block,a.off,none⟩:=by
    obtain⟨fu,h0⟩:=one 0 hp
    obtain⟨v,y,hv,_⟩:=h0 0 _ (Array.getElem?_eq_getElem hpos)
    have ha:=spot_none hv
    obtain⟨b,o,s⟩:=a
    simp[Addr.add] at ha
    simp[ha]
   rw[ha']
   refine slAt_some hlc hcm fun i hi=>?_
   obtain⟨fu,h0⟩:=one i hi
   refine⟨fu,fun j f hj=>?_⟩
   obtain⟨v,y,hv,h2⟩:=h0 j f hj
   rw[add_none a ha',←Nat.add_assoc] at hv
   exact⟨v,y,hv,h2⟩
theorem list_at {α:Type} [Inhabited α] {n:Nat} {s:Value} {sz:Nat} {q:Nat→Nat→Nat→Prop} {r:Nat→Nat→α→Prop} (h:SlAt s n sz q) (hq:∀b o i,i<n→q b o i→∃x,r b o x) :
  ∃l:List α,l.length=n∧SlAt s n sz fun b o i=>∀x,l[i]?=some x→r b o x:=by
 obtain⟨o,cap,b,off,rfl,h1,h2,h3,h4⟩:=h
 obtain⟨f,hf⟩:=choose_lt (fun i hi=>hq b (off+i*sz) i hi (h4 i hi))
 refine⟨(List.range n).map f,by simp,o,cap,b,off,rfl,h1,h2,h3,fun i hi x hx=>?_⟩
 simp[hi] at hx
 subst hx
 exact hf i hi
instance:Inhabited Ex:=⟨⟨0,0,0,0,⟨#[]⟩,⟨#[]⟩,0,[],0⟩⟩
instance:Inhabited It:=⟨⟨0,⟨#[]⟩,0,0,0,[],⟨#[]⟩,⟨#[]⟩,0⟩⟩
instance:Inhabited Pa:=⟨⟨⟨#[]⟩,0⟩⟩
instance:Inhabited De:=⟨⟨0,⟨#[]⟩,[],[],0,0,0⟩⟩
theorem f_int {fu:Nat} {v:Value} {y:DataW H×List MemPlace} (h:DataW.trod enc prog w 0 (fun _=>true) true fu 3 [v]=some y):∃n,v=.int .i64 n∧i64ok n:=by
 obtain⟨n,h1,_,h3⟩:=DataW.trod_int Tryz.underlying3 h
 exact⟨n,by simpa using h1,wf_i64 h3⟩
theorem f_int64 {fu:Nat} {v:Value} {y:DataW H×List MemPlace} (h:DataW.trod enc prog w 0 (fun _=>true) true fu 2 [v]=some y):∃n,v=.int .i64 n∧i64ok n:=by
 obtain⟨n,h1,_,h3⟩:=DataW.trod_int Tryz.underlying2 h
 exact⟨n,by simpa using h1,wf_i64 h3⟩
theorem f_str {fu:Nat} {v:Value} {y:DataW H×List MemPlace} (h:DataW.trod enc prog w 0 (fun _=>true) true fu 9 [v]=some y) (hw:∀n ∈ y.1.weights prog 9,n≤reachBytes):∃s:ByteArray,v=.string s∧s.size≤reachN:=by
 obtain⟨s,h1,rfl,h3⟩:=DataW.trod_string Tryz.underlying9 h
 refine⟨s,by simpa using h1,reach_le (hw _ ?_)⟩
 simp[DataW.weights]
theorem f_ints {fu:Nat} {v:Value} {y:DataW H×List MemPlace} (h:DataW.trod enc prog w 0 (fun _=>true) true fu 44 [v]=some y) (hw:∀n ∈ y.1.weights prog 44,n≤reachBytes):∃l,IntsAt w v l∧l.length≤reachN∧∀n ∈ l,i64ok n:=by
 obtain⟨s,l,h1,h2⟩:=open_intsAt h hw
 obtain rfl:v=s:=by simpa using h1
 exact⟨l,h2⟩
theorem open_exs {fuel:Nat} {cs:List Value} {x:DataW H×List MemPlace} (h:DataW.trod enc prog w 0 (fun _=>true) true fuel 23 cs=some x) (hw:∀n ∈ x.1.weights prog 23,n≤reachBytes) :
  ∃s l,cs=[s]∧ExsAt w s l∧l.length≤reachN:=by
 obtain⟨s,n,rfl,hn,hs⟩:=open_fieldsAt Tryz.underlying23 Tryz.underlying48 (by kernel_rfl) (by kernel_rfl) (by decide) (of_decide_eq_true (by kernel_rfl)) h hw
 obtain⟨l,rfl,hl⟩:=list_at (r:=ExAt w) hs (fun b o i _ ⟨fu,hf⟩=>by
  obtain⟨v0,y0,c0,t0,w0⟩:=hf 0 _ rfl
  obtain⟨v1,y1,c1,t1,w1⟩:=hf 1 _ rfl
  obtain⟨v2,y2,c2,t2,w2⟩:=hf 2 _ rfl
  obtain⟨v3,y3,c3,t3,w3⟩:=hf 3 _ rfl
  obtain⟨v4,y4,c4,t4,w4⟩:=hf 4 _ rfl
  obtain⟨v5,y5,c5,t5,w5⟩:=hf 5 _ rfl
  obtain⟨v6,y6,c6,t6,w6⟩:=hf 6 _ rfl
  obtain⟨v7,y7,c7,t7,w7⟩:=hf 7 _ rfl
  obtain⟨v8,y8,c8,t8,w8⟩:=hf 8 _ rfl
  obtain⟨n0,rfl,k0⟩:=f_int t0
  obtain⟨n1,rfl,k1⟩:=f_int t1
  obtain⟨n2,rfl,k2⟩:=f_int t2
  obtain⟨n3,rfl,k3⟩:=f_int t3
  obtain⟨n4,rfl,k4⟩:=f_str t4 w4
  obtain⟨n5,rfl,k5⟩:=f_str t5 w5
  obtain⟨n6,rfl,k6⟩:=f_int64 t6
  obtain⟨n7,k7,j7,i7⟩:=f_ints t7 w7
  obtain⟨n8,rfl,k8⟩:=f_int t8
  exact⟨⟨n0,n1,n2,n3,n4,n5,n6,n7,n8⟩,v7,c0,c1,c2,c3,c4,c5,c6,c7,c8,k7,⟨k0,k1,k2,k3,k6,k4,k5,j7,i7⟩⟩)
 exact⟨s,l,rfl,hl,hn⟩
end
end Go.Proofs.YthpgfahlccljnaaGreatDoor
namespace Go.Proofs.YthpgfahlccljnaaGreatDoor
open Go.RowKit
theorem below_al {a w:World} (h:Below a.heap.size a w) (o:Obj):Below a.heap.size a (w.alloc o):=h.alloc h.size o
theorem below_dr {B:Nat} {a w:World} (h:Below B a w) (n:Nat):Below B a (w.drewN n):=⟨h.os,h.tape,h.output,h.size,h.block⟩
def litLen:Value→Nat | .int _ n=>n.toNat | _=>0
def wEx (x:Ex):Nat:=x.args.length+x.name.size / 100+x.state.size / 100
def wDe (d:De):Nat:=d.params.length+d.name.size / 100
def Ix (t sz:Nat) (s:Value) (b off:Nat) (j:Nat):Prop:=∀W,(Instr.indexAt t s (.int .i64 (j:Int))).run prog W=.ok (.pointer (some ⟨b,off+j*sz,none⟩)) W
theorem ix_exs {o:Option Addr} {n cap b off:Nat} (h:0<n→o=some ⟨b,off,none⟩) {j:Nat} (hj:j<n) (hn:n≤9223372036854775807):Ix 23 9 (.slice o n cap) b off j:=by
 intro W
 rw[h (by omega)]
 have h1:(j:Int)<(n:Int):=by omega
 have h2:(j:Int)≤9223372036854775807:=by omega
 go_simp
theorem ix_des {o:Option Addr} {n cap b off:Nat} (h:0<n→o=some ⟨b,off,none⟩) {j:Nat} (hj:j<n) (hn:n≤9223372036854775807):Ix 22 7 (.slice o n cap) b off j:=by
 intro W
 rw[h (by omega)]
 have h1:(j:Int)<(n:Int):=by omega
 have h2:(j:Int)≤9223372036854775807:=by omega
 go_simp
theorem ix_its {o:Option Addr} {n cap b off:Nat} (h:0<n→o=some ⟨b,off,none⟩) {j:Nat} (hj:j<n) (hn:n≤9223372036854775807):Ix 31 9 (.slice o n cap) b off j:=by
 intro W
 rw[h (by omega)]
 have h1:(j:Int)<(n:Int):=by omega
 have h2:(j:Int)≤9223372036854775807:=by omega
 go_simp
theorem ix_ints {o:Option Addr} {n cap b off:Nat} (h:0<n→o=some ⟨b,off,none⟩) {j:Nat} (hj:j<n) (hn:n≤9223372036854775807):Ix 44 1 (.slice o n cap) b off j:=by
 intro W
 rw[h (by omega)]
 have h1:(j:Int)<(n:Int):=by omega
 have h2:(j:Int)≤9223372036854775807:=by omega
 go_simp
structure Small (p:Pr):Prop where
 exprs:p.exprs.length≤300
 decls:p.decls.length≤60
 ex:∀x ∈ p.exprs,wEx x≤600
 de:∀d ∈ p.decls,wDe d≤600∧d.items.length≤600∧∀y ∈ d.items,y.states.length≤600
def GreatPost (p:Pr) (w:World) (e:Ending) (w':World):Prop:=∃g:Bool,e=.returned (.bool g)∧(g=false→Small p)∧Below w.heap.size w w'
def SumEx (p:Pr) (k q:Nat):Prop:=∀i,i<k→∀x,p.exprs[i]?=some x→wEx x≤q
def SumIt (d:De) (k q:Nat):Prop:=k≤q∧∀i,i<k→∀y,d.items[i]?=some y→y.states.length≤q
def SumDe (p:Pr) (k q:Nat):Prop:=∀i,i<k→∀d,p.decls[i]?=some d→wDe d≤q∧(600<q∨SumIt d d.items.length q)
theorem sumEx_succ {p:Pr} {k q:Nat} {x:Ex} (h:SumEx p k q) (hx:p.exprs[k]?=some x):SumEx p (k+1) (q+x.args.length+x.name.size / 100+x.state.size / 100):=by
 intro i hi y hy
 rcases Nat.lt_or_ge i k with h1 | h1
 ·have:=h i h1 y hy;omega
 ·obtain rfl:i=k:=by omega
  rw[hx] at hy
  obtain rfl:=qI hy
  unfold wEx;omega
theorem great_many (o1 o2:Option Addr) (cap dcap n m:Nat) (nl:(301:Int)≤n) (w:World) (p:Pr) :
  Calls prog 12 #[.agg #[(.slice o1 m dcap),(.slice o2 n cap)]] w fun e w'=>GreatPost p w e w':=by
 have g1:decide ((300:Int)<(n:Int))=true:=qT (by omega)
 go_enter Tryz.func12,Tryz.ntmps12
 go_wp2_with fail
 go_ret
 exact⟨_,rfl,fun h=>by simp at h,below_al (qB _ _) _⟩
theorem great_more (o1 o2:Option Addr) (cap dcap n m:Nat) (nl:(n:Int)≤300) (ml:(61:Int)≤m) (w:World) (p:Pr) :
  Calls prog 12 #[.agg #[(.slice o1 m dcap),(.slice o2 n cap)]] w fun e w'=>GreatPost p w e w':=by
 have g1:decide ((300:Int)<(n:Int))=false:=qF (by omega)
 have g2:decide ((60:Int)<(m:Int))=true:=qT (by omega)
 go_enter Tryz.func12,Tryz.ntmps12
 go_wp2_with fail
 go_ret
 exact⟨_,rfl,fun h=>by simp at h,below_al (qB _ _) _⟩
theorem sumIt_succ {d:De} {l z:Nat} {y:It} (h:SumIt d l z) (hy:d.items[l]?=some y):SumIt d (l+1) (z+1+y.states.length):=by
 refine⟨by have:=h.1;omega,fun i hi x hx=>?_⟩
 rcases Nat.lt_or_ge i l with h1 | h1
 ·have:=h.2 i h1 x hx;omega
 ·obtain rfl:i=l:=by omega
  rw[hy] at hx
  obtain rfl:=qI hx
  omega
theorem sumDe_succ {p:Pr} {j r r1 l z:Nat} {d:De} (h:SumDe p j r) (hd:p.decls[j]?=some d) (hr:r1=r+d.params.length+d.name.size / 100) (hI:SumIt d l z) (hz:r1≤z) (hl:l=d.items.length∨l=1000):SumDe p (j+1) z:=by
 intro i hi x hx
 rcases Nat.lt_or_ge i j with h1 | h1
 ·obtain⟨h2,h3⟩:=h i h1 x hx
  refine⟨by omega,?_⟩
  rcases h3 with h3 | h3
  ·exact .inl (by omega)
  ·exact .inr ⟨by have:=h3.1;omega,fun i hi y hy=>by have:=h3.2 i hi y hy;omega⟩
 ·obtain rfl:i=j:=by omega
  rw[hd] at hx
  obtain rfl:=qI hx
  refine⟨by unfold wDe;omega,?_⟩
  rcases hl with rfl | rfl
  ·exact .inr hI
  ·exact .inl (by have:=hI.1;omega)
theorem small_of {p:Pr} {n m q r:Nat} (hn:p.exprs.length=n) (hm:p.decls.length=m) (nl:(n:Int)≤300) (ml:(m:Int)≤60) (h1:SumEx p n q) (h2:SumDe p m r) (hq:q≤r) (hr:(r:Int)≤600):Small p:=by
 refine⟨by omega,by omega,fun x hx=>?_,fun d hd=>?_⟩
 ·obtain⟨i,hi,rfl⟩:=List.mem_iff_getElem.1 hx
  have:=h1 i (by omega) _ (List.getElem?_eq_getElem hi)
  omega
 ·obtain⟨i,hi,rfl⟩:=List.mem_iff_getElem.1 hd
  obtain⟨h3,h4⟩:=h2 i (by omega) _ (List.getElem?_eq_getElem hi)
  have h5:SumIt p.decls[i] p.decls[i].items.length r:=by
   rcases h4 with h4 | h4
   ·omega
   ·exact h4
  refine⟨by omega,by have:=h5.1;omega,fun y hy=>?_⟩
  obtain⟨k,hk,rfl⟩:=List.mem_iff_getElem.1 hy
  have:=h5.2 k hk _ (List.getElem?_eq_getElem hk)
  omega
theorem great_core (o1 o2:Option Addr) (b off cap db doff dcap:Nat) (p:Pr) (n m:Nat) (hn:Hid (p.exprs.length=n)) (hm:Hid (p.decls.length=m)) (nl:(n:Int)≤300) (ml:(m:Int)≤60) (w:World)
  (he:Hid (0<n→o2=some ⟨b,off,none⟩)) (hd:Hid (0<m→o1=some ⟨db,doff,none⟩))
  (hc:Hid (∀i,i<n→∀x,p.exprs[i]?=some x→ExAt (w.alloc (.cells #[(.slice o1 m dcap),(.slice o2 n cap)] 25)) b (off+i*9) x))
  (hdc:Hid (∀i,i<m→∀x,p.decls[i]?=some x→DeAt (w.alloc (.cells #[(.slice o1 m dcap),(.slice o2 n cap)] 25)) db (doff+i*7) x)) :
  Calls prog 12 #[.agg #[(.slice o1 m dcap),(.slice o2 n cap)]] w fun e w'=>GreatPost p w e w':=by
 go_enter Tryz.func12,Tryz.ntmps12
 go_wp2_with fail
 go_loopw [3,4] (fun s i wr=>∃(k q:Nat),i=.int .i64 k∧s=.int .i64 q∧k≤n∧(q:Int)≤k*500000000000000∧Hid (SumEx p k q)∧∃a,wr=(w.alloc (.cells #[(.slice o1 m dcap),(.slice o2 n cap)] 25)).drewN a) (fun _ i _=>n-litLen i)
 case atStart=>exact⟨0,0,rfl,rfl,by omega,by omega,Hd (fun i hi=>by omega),0,rfl⟩
 case round =>
  obtain⟨k,q,rfl,rfl,hk,hq,hS,a,rfl⟩:=hrel
  rcases Nat.lt_or_ge k n with hlt | hge
  ·have hl:(k:Int)<(n:Int):=by omega
   obtain⟨x,hxk⟩:∃x,p.exprs[k]?=some x:=⟨_,List.getElem?_eq_getElem (by have:=hn.out;omega)⟩
   obtain⟨s,c0,c1,c2,c3,c4,c5,c6,c7,c8,⟨oa,capa,ba,offa,rfl,ha1,ha2,ha3,ha4⟩,hok⟩:=hc.out k hlt x hxk
   clear ha3 ha4
   obtain⟨_,_,_,_,_,k1,k2,k3,_⟩:=hok
   unfold reachN at k1 k2 k3
   have ix:=ix_exs (cap:=cap) he.out hlt (by omega)
   unfold Ix at ix
   have hS':=Hd (sumEx_succ hS.out hxk)
   clear hxk
   go_wp2_with fail
   go_quiet (fail)
   go_wp2_with fail
   go_roundw
   case rel=>exact⟨k+1,q+x.args.length+x.name.size / 100+x.state.size / 100,by go_num,by go_num,by omega,by omega,hS',_,rfl⟩
   case measure=>simp[litLen];omega
  ·obtain rfl:k=n:=by omega
   go_wp2_with fail
   go_loopw [3,5] (fun s i wr=>∃(j r:Nat),i=.int .i64 j∧s=.int .i64 r∧j≤m∧(r:Int)≤150000000000000000+j*141400000000000000∧q≤r∧Hid (SumDe p j r)∧∃a,wr=(w.alloc (.cells #[(.slice o1 m dcap),(.slice o2 k cap)] 25)).drewN a) (fun _ i _=>m-litLen i)
   case atStart=>exact⟨0,q,rfl,rfl,by omega,by omega,by omega,Hd (fun i hi=>by omega),a,rfl⟩
   case round =>
    clear a
    obtain⟨j,r,rfl,rfl,hj,hr,hqr,hD,a,rfl⟩:=hrel
    rcases Nat.lt_or_ge j m with hlt | hge
    ·have hl:(j:Int)<(m:Int):=by omega
     obtain⟨d,hdj⟩:∃x,p.decls[j]?=some x:=⟨_,List.getElem?_eq_getElem (by have:=hm.out;omega)⟩
     obtain⟨s,t,c0,c1,c2,c3,c4,c5,c6,⟨op,capp,bp,offp,rfl,hp1,hp2,hp3,hp4⟩,⟨oi,capi,bi,offi,rfl,hi1,hi2,hi3,hi4⟩,hok⟩:=hdc.out j hlt d hdj
     clear hp3 hp4
     have HI3:=Hd hi3
     have HI4:=Hd hi4
     clear hi3 hi4
     obtain⟨_,_,k1,k2,k3⟩:=hok
     unfold reachN at k1 k2 k3
     have ix:=ix_des (cap:=dcap) hd.out hlt (by omega)
     unfold Ix at ix
     obtain⟨ni,hni⟩:∃ni,ni=d.items.length:=⟨_,rfl⟩
     rw[←hni] at HI3 HI4 c3 k3
     have HN:=Hd hni
     clear hni
     obtain⟨r1,hr1⟩:∃r1,r1=r+d.params.length+d.name.size / 100:=⟨_,rfl⟩
     have HR:=Hd hr1
     have hDJ:=Hd hdj
     clear hdj
     have hr1a:(r1:Int)≤r+142200000000000:=by omega
     have hr1b:r≤r1:=by omega
     go_wp2_with fail
     go_quiet (fail)
     rw[show(r:Int)+(d.params.length:Int)+(d.name.size:Int) / 100=(r1:Int) by omega]
     clear hr1 c1 c2
     go_wp2_with fail
     go_loop [3,6] (fun s i=>∃(l z:Nat),i=.int .i64 l∧s=.int .i64 z∧l≤ni∧(l:Int)≤1000∧r1≤z∧(z:Int)≤r1+l*140737488351233∧Hid (SumIt d l z)) (fun _ i=>ni-litLen i)
     case atStart=>exact⟨0,r1,rfl,rfl,by omega,by omega,by omega,by omega,Hd ⟨Nat.zero_le _,fun i hi=>by omega⟩⟩
     case round =>
      obtain⟨l,z,rfl,rfl,hl1,hl2,hz1,hz2,hI⟩:=hrel
      by_cases hgo:l<ni∧l<1000
      ·obtain⟨hg1,hg2⟩:=hgo
       have g1:(l:Int)<(ni:Int):=by omega
       have g2:(l:Int)<1000:=by omega
       obtain⟨y,hyl⟩:∃x,d.items[l]?=some x:=⟨_,List.getElem?_eq_getElem (by have:=HN.out;omega)⟩
       obtain⟨sy,e0,e1,e2,e3,e4,e5,e6,e7,e8,⟨os,caps,bs,offs,rfl,hs1,hs2,hs3,hs4⟩,hoy⟩:=HI4.out l hg1 y hyl
       clear hs3 hs4
       obtain⟨_,_,_,_,_,_,k4,_⟩:=hoy
       unfold reachN at k4
       have hI':=Hd (sumIt_succ hI.out hyl)
       have ix2:=ix_its (cap:=capi) HI3.out hg1 (by omega)
       unfold Ix at ix2
       clear hyl
       go_wp2_with fail
       go_round
       case rel=>exact⟨l+1,by omega,z+1+y.states.length,by omega,by omega,by omega,by omega,by omega,hI'⟩
       case measure=>simp[litLen];omega
      ·have fin:Hid (SumDe p (j+1) z):=Hd (sumDe_succ hD.out hDJ.out HR.out hI.out hz1 (by rw[←HN.out];omega))
       by_cases hni:l<ni
       ·have g1:(l:Int)<(ni:Int):=by omega
        have g2:decide ((l:Int)<1000)=false:=qF (by omega)
        clear hgo
        go_wp2_with fail
        go_roundw
        case rel=>exact⟨j+1,z,by go_num,rfl,by omega,by omega,by omega,fin,_,rfl⟩
        case measure=>simp[litLen];omega
       ·have g1:decide ((l:Int)<(ni:Int))=false:=qF (by omega)
        clear hgo
        go_wp2_with fail
        go_roundw
        case rel=>exact⟨j+1,z,by go_num,rfl,by omega,by omega,by omega,fin,_,rfl⟩
        case measure=>simp[litLen];omega
    ·obtain rfl:j=m:=by omega
     have fin:Hid (decide (600<(r:Int))=false→Small p):=Hd fun hh=>small_of hn.out hm.out nl ml hS.out hD.out hqr (by have:=of_decide_eq_false hh;omega)
     go_wp2_with fail
     go_ret
     exact⟨_,rfl,fin.out,below_dr (below_al (qB _ _) _) _⟩
theorem great_any (sd se:Value) (p:Pr) (w:World) (h:ProgAt w sd se p):Calls prog 12 #[.agg #[sd,se]] w fun e w'=>GreatPost p w e w':=by
 obtain⟨⟨o1,dcap,db,doff,rfl,hd1,hd2,hd3,hd4⟩,⟨o2,cap,b,off,rfl,he1,he2,he3,he4⟩,h3,h4⟩:=h
 have hb:=(qB w.heap.size w).alloc (qL _) (.cells #[(.slice o1 p.decls.length dcap),(.slice o2 p.exprs.length cap)] 25)
 by_cases hn:p.exprs.length≤300
 ·by_cases hm:p.decls.length≤60
  ·exact great_core o1 o2 b off cap db doff dcap p _ _ (Hd rfl) (Hd rfl) (by omega) (by omega) w (Hd he3) (Hd hd3) (Hd fun i hi x hx=>(he4 i hi x hx).below hb) (Hd fun i hi x hx=>(hd4 i hi x hx).below hb)
  ·exact great_more o1 o2 cap dcap _ _ (by omega) (by omega) w p
 ·exact great_many o1 o2 cap dcap _ _ (by omega) w p
end Go.Proofs.YthpgfahlccljnaaGreatDoor
