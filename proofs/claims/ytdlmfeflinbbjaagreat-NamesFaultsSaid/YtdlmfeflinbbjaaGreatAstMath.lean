import Derived.Deep.Slices
namespace Go.Proofs.YtdlmfeflinbbjaaGreat
structure Ex where
  kind:Int
  a:Int
  b:Int
  c:Int
  name:ByteArray
  state:ByteArray
  v:Int
  args:List Int
  pos:Int
structure It where
  kind:Int
  name:ByteArray
  type:Int
  e:Int
  f:Int
  states:List ByteArray
  state:ByteArray
  next:ByteArray
  pos:Int
structure Pa where
  name:ByteArray
  type:Int
structure De where
  kind:Int
  name:ByteArray
  params:List Pa
  items:List It
  type:Int
  e:Int
  pos:Int
structure Pr where
  decls:List De
  exprs:List Ex
def manyOf (k:Int):Nat:=if k = 4∨k = 5∨k = 16∨k = 21 then 1 else if (6≤k∧k≤14)∨k = 17∨k = 18 then 2 else if k = 15 then 3 else 0
def partsE (x:Ex):List Int:=if x.kind = 19 then x.args else [x.a,x.b,x.c].take (manyOf x.kind)
def mostV (k:Int):Int:=if k = 1 then 9223372036854775807 else if k = 2 then 1 else 0
def namedK (k:Int):Bool:=decide (k = 3) || decide (k = 19) || decide (k = 20)
def mayE (x:Ex) (i:Nat):Bool :=
  decide (1≤x.kind) && decide (x.kind≤21) && (partsE x).all (fun p=>decide (0≤p) && decide (p < (i:Int))) && ([x.a,x.b,x.c].drop (manyOf x.kind)).all (fun p=>decide (p = 0)) &&
  (namedK x.kind == decide (x.name.size≠0)) && (decide (x.kind = 20) == decide (x.state.size≠0)) && (decide (x.kind = 19) || decide (x.args.length = 0)) && decide (0≤x.v) && decide (x.v≤mostV x.kind)
def hasVal (k:Int):Bool:=decide (k = 1) || decide (k = 2)
def hasE (k:Int):Bool:=decide (k = 1) || decide (k = 4) || decide (k = 2) || decide (k = 3) || decide (k = 5)
def hasF (k:Int):Bool:=decide (k = 2) || decide (k = 3) || decide (k = 5) || decide (k = 7)
def standsE (n:Nat) (has:Bool) (e:Int):Bool:=if has then decide (0≤e) && decide (e < (n:Int)) else decide (e = 0)
def mayI (n:Nat) (x:It):Bool:=standsE n (hasE x.kind) x.e && standsE n (hasF x.kind) x.f
def mayD (n:Nat) (d:De):Bool:=standsE n (hasVal d.kind) d.e && d.items.all (mayI n)
def mayX (l:List Ex) (i:Nat):Bool:=match l[i]? with | some x=>mayE x i | none=>true
def mayP (p:Pr):Bool:=(List.range p.exprs.length).all (mayX p.exprs) && p.decls.all (mayD p.exprs.length)
end Go.Proofs.YtdlmfeflinbbjaaGreat
