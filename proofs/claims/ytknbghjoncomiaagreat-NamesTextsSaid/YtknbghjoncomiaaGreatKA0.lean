/- Joined: DigMath, StrKit, ReadMath, Post, AstMath, AstOpen, AstGreat, AstKinds, AstParts, AstRow, AstRefParts, AstMayAt, AstMayk3, AstMayk19. -/
import Derived.WalkKit
import Derived.Test.YtknbghjoncomiaaGreatRows
import Derived.Laws.BytesString
import Derived.Below
import Derived.ChangeSame
import Derived.Deep.Slices
import Derived.Test.YtknbghjoncomiaaGreatChecked
import Derived.Deep.Fields
import Derived.Deep.Strs
import Derived.SizedLaws
import Derived.Carry
import Derived.Lib.SmallJoins
import Derived.Outline
import Derived.Lib.Hide
import Derived.Deep.QuietTactic
import Derived.BigQuiet
import Derived.Deep.Draws
import Derived.IntWalk
import Derived.RangeFuncNested
import Derived.RangeFuncBound
import Derived.RangeFuncCalls
import Derived.RangeFuncLeaves
import Derived.Shelf.Abstract
import Derived.Shelf.RegionOpen
import Derived.OwnWalkIn
import Derived.TacticsInMore
import Derived.LoopNIn
import Derived.LoopIn
import Derived.RangeFuncBox
import Derived.Maps.AppendAt
import Derived.Laws.AppendOwnNone
import Derived.StillTailTactics
namespace Go.Proofs.YtknbghjoncomiaaGreat
section
open Go.RowKit
def dg (n:Nat):UInt8:=UInt8.ofNat (48+n)
def QBd:Nat→Nat→Nat
 | 0,b=>b
 | n+1,b=>QBd n (b*10 % 4294967296)
theorem QEE {l:List UInt8} {k:Nat} {c:UInt8} (h:l[k]? = some c):l.take (k+1) = l.take k ++ [c]:=by
 obtain ⟨hk,hb⟩:=List.getElem?_eq_some_iff.1 h
 rw [List.take_succ_eq_append_getElem hk,hb]
end
section
open Go.RowKit
def str (l:List UInt8):ByteArray:=⟨l.toArray⟩
theorem QBE (l:List UInt8):(str l).size = l.length:=by unfold str;simp [ByteArray.size]
end
section
def QAZ (c:UInt8):Bool:=decide (48≤c.toNat) && decide (c.toNat≤57)
theorem QBu {c:UInt8}:QAZ c = true↔48≤c.toNat∧c.toNat≤57:=by unfold QAZ;simp
def QDL (l:List UInt8) (most:Nat):Bool:=decide (1≤l.length) && (decide (l.length≤most) && l.all QAZ)
def ahead (l:List UInt8):List UInt8:=l.takeWhile (· != 46)
def behind (l:List UInt8):List UInt8:=(l.dropWhile (· != 46)).drop 1
def QCs (l:List UInt8):Bool:=l.contains 46
theorem QCa (a b:List UInt8) (h:46 ∉ a):ahead (a ++ 46 :: b) = a:=by
 unfold ahead
 rw [List.takeWhile_append_of_pos (by intro x hx;simp;rintro rfl;exact h hx)]
 simp
theorem QC6 (a b:List UInt8) (h:46 ∉ a):behind (a ++ 46 :: b) = b:=by
 unfold behind
 rw [List.dropWhile_append_of_pos (by intro x hx;simp;rintro rfl;exact h hx)]
 simp
theorem QDy (a:List UInt8) (h:46 ∉ a):ahead a = a:=by
 unfold ahead
 have:=List.takeWhile_append_of_pos (p:=(· != 46)) (l₁:=a) (l₂:=[]) (by intro x hx;simp;rintro rfl;exact h hx)
 simpa using this
theorem QEu (a:List UInt8) (h:46 ∉ a):behind a = []:=by
 unfold behind
 have:=List.dropWhile_append_of_pos (p:=(· != 46)) (l₁:=a) (l₂:=[]) (by intro x hx;simp;rintro rfl;exact h hx)
 simp only [List.append_nil] at this
 rw [this]
 rfl
theorem QE7 (l:List UInt8):(46 ∉ l)∨∃ a b,l = a ++ 46 :: b∧46 ∉ a:=by
 induction l with
 | nil=>left;simp
 | cons c l ih =>
  by_cases hc:c = 46
  ·right;exact ⟨[],l,by rw [hc];rfl,by simp⟩
  ·rcases ih with h | ⟨a,b,rfl,h⟩
   ·left;simp [h];exact fun e=>hc e.symm
   ·right;exact ⟨c :: a,b,rfl,by simp [h];exact fun e=>hc e.symm⟩
def QIK (l:List UInt8):Bool:=QDL (ahead l) 10 && (!(decide (1 < (ahead l).length) && (ahead l).head? == some 48) && (!QCs l || QDL (behind l) 40))
def QD7:List UInt8→Nat
 | []=>0
 | c :: l=>(c.toNat - 48)*10 ^ l.length+QD7 l
theorem QHZ (l:List UInt8) (c:UInt8):QD7 (l ++ [c]) = QD7 l*10+(c.toNat - 48):=by
 induction l with
 | nil=>simp [QD7]
 | cons d l ih=>simp only [List.cons_append,QD7,ih,List.length_append,List.length_singleton,Nat.pow_succ,Nat.add_mul,Nat.mul_assoc];omega
theorem QIP (l:List UInt8) (h:l.all QAZ = true):QD7 l < 10 ^ l.length:=by
 induction l with
 | nil=>simp [QD7]
 | cons d l ih =>
  simp only [List.all_cons,Bool.and_eq_true] at h
  have h1:=QBu.1 h.1
  have h2:=ih h.2
  have:(d.toNat - 48)*10 ^ l.length≤9*10 ^ l.length:=Nat.mul_le_mul_right _ (by omega)
  simp only [QD7,List.length_cons,Nat.pow_succ]
  omega
def QEw (l:List UInt8):Nat:=QD7 l*4294967296 / 10 ^ l.length
def QOF (l:List UInt8):Nat:=QD7 (ahead l)*4294967296+QEw (behind l)
def QCS (l:List UInt8):Nat × Bool:=if QIK l∧QD7 (ahead l)≤2147483648 then (QOF l,decide (QOF l≤9223372036854775808)) else (0,false)
def cry:List UInt8→Nat
 | []=>0
 | c :: l=>(2*(c.toNat - 48)+cry l) / 10
def dbl:List UInt8→List UInt8
 | []=>[]
 | c :: l=>dg ((2*(c.toNat - 48)+cry l) % 10) :: dbl l
theorem QFp (l:List UInt8):(dbl l).length = l.length:=by induction l with
 | nil=>rfl
 | cons c l ih=>simp [dbl,ih]
theorem QLK {n:Nat} (h:n < 10):(dg n).toNat = 48+n:=by unfold dg;rw [UInt8.toNat_ofNat_of_lt' (by show 48+n < 256;omega)]
theorem dg_dig {n:Nat} (h:n < 10):QAZ (dg n) = true:=QBu.2 (by rw [QLK h];omega)
theorem dbl_dig (l:List UInt8):(dbl l).all QAZ = true:=by
 induction l with
 | nil=>rfl
 | cons d l ih=>simp only [dbl,List.all_cons,ih,Bool.and_true];exact dg_dig (by omega)
theorem dbl_num (l:List UInt8):QD7 (dbl l)+cry l*10 ^ l.length = 2*QD7 l:=by
 induction l with
 | nil=>rfl
 | cons d l ih =>
  simp only [dbl,cry,QD7,QFp,List.length_cons,Nat.pow_succ]
  rw [QLK (Nat.mod_lt _ (by omega)),Nat.add_sub_cancel_left]
  generalize 10 ^ l.length = p at *
  have hd:=Nat.div_add_mod (2*(d.toNat - 48)+cry l) 10
  generalize (2*(d.toNat - 48)+cry l) % 10 = r at *
  generalize (2*(d.toNat - 48)+cry l) / 10 = k at *
  have e:(10*k+r)*p = (2*(d.toNat - 48)+cry l)*p:=by rw [hd]
  rw [Nat.add_mul,Nat.add_mul,Nat.mul_assoc] at e
  have e2:k*(p*10) = 10*(k*p):=by rw [← Nat.mul_assoc,Nat.mul_comm]
  rw [e2,Nat.mul_add]
  rw [Nat.mul_assoc] at e
  omega
def QJY (l0:List UInt8) (k:Nat) (l:List UInt8) (B:Nat):Prop:=l.all QAZ = true∧l.length = l0.length∧QD7 l+B*10 ^ l0.length = QD7 l0*2 ^ k
theorem QJn (l:List UInt8) (h:l.all QAZ = true):QJY l 0 l 0:=⟨h,rfl,by simp⟩
theorem QJm {l0 l:List UInt8} {k B:Nat} (h:QJY l0 k l B):QJY l0 (k+1) (dbl l) (2*B+cry l):=by
 obtain ⟨h1,h2,h3⟩:=h
 refine ⟨dbl_dig l,(QFp l).trans h2,?_⟩
 have:=dbl_num l
 rw [h2] at this
 rw [Nat.add_mul,Nat.pow_succ,← Nat.mul_assoc,← h3,Nat.mul_assoc 2]
 omega
theorem QLF {l0 l:List UInt8} {B:Nat} (h:QJY l0 32 l B):B = QEw l0:=by
 obtain ⟨h1,h2,h3⟩:=h
 have h4:=QIP l h1
 rw [h2] at h4
 unfold QEw
 rw [show (4294967296:Nat) = 2 ^ 32 by decide,← h3,Nat.add_mul_div_right _ _ (Nat.pow_pos (by omega)),Nat.div_eq_of_lt h4,Nat.zero_add]
theorem QNA {l0 l:List UInt8} {k B:Nat} (h:QJY l0 k l B) (h0:l0.all QAZ = true):B < 2 ^ k:=by
 obtain ⟨h1,h2,h3⟩:=h
 have h4:=QIP l0 h0
 have h5:B*10 ^ l0.length < 2 ^ k*10 ^ l0.length:=by
  have:QD7 l0*2 ^ k < 10 ^ l0.length*2 ^ k:=Nat.mul_lt_mul_of_pos_right h4 (Nat.pow_pos (by omega))
  rw [Nat.mul_comm (2 ^ k)]
  omega
 exact Nat.lt_of_mul_lt_mul_right h5
end
section
open Go.RowKit Go.WideShapes Go.ChangeShapes
section
variable {H:Type} {enc:TypeId × Value→H} {P:Program}
theorem QGg {f:Func} {s:ChangeSpec} {apart QLX handsOn again:Bool} {W W' : World} {args:Array Value} {v:Value} {ds gs:List (DataW H)} {before pa pv:List MemPlace}
  (hW:DataW.Whole enc P f.params.toList s.vars apart W args.toList ds gs before)
  (hres:∀ (b:Nat) (sp:Nat→Bool) (hd:Bool),DataW.TrodAll enc P W' b sp hd f.resultTypes.toList (v.resultList f.resultTypes.size) (s.fn H (ds ++ gs)).results [])
  (hargs:∀ sp:Nat→Bool,(∀ p∈before,sp p.block = true)→DataW.TrodAll enc P W' 0 sp true f.params.toList args.toList (s.fn H (ds ++ gs)).args pa)
  (hvars:∀ sp:Nat→Bool,(∀ p∈before,sp p.block = true)→DataW.TrodVars enc P W' sp s.vars (s.fn H (ds ++ gs)).vars pv)
  (hps:before = pa ++ pv) (hb:Below W.heap.size W W')
  (hok:∀ (j:Nat) (t:TypeId) (r:Value),f.resultTypes[j]? = some t→(v.resultList f.resultTypes.size)[j]? = some r→Value.okWide P W' .any 0 t r) :
  s.post enc P f apart QLX handsOn again W args v W':=by
 have blocks:∀ p∈before,p.block < W.heap.size:=fun p hp=>hW.lt p hp
 have old:∀ p∈before,(fun b=>decide (b < W.heap.size)) p.block = true:=fun p hp=>decide_eq_true (blocks p hp)
 have both:∀ p,p∈before→p∈pa∨p∈pv:=fun p hp=>by rw [hps] at hp;exact List.mem_append.1 hp
 have frame:W.keptBut W' (fun p=>p∈before∧(p∈([]:List MemPlace)∨p∈pa∨p∈pv)) :=
  World.keptBut_mono (fun p hp=>⟨hp,.inr (both p hp)⟩) (hb.frame (·∈before))
 have whole:DataW.Whole enc P f.params.toList s.vars apart W args.toList ds gs before:=hW
 obtain ⟨_,_,_,_,_,cold,once⟩:=hW
 have cold' : ∀ b off,MemPlace.cell b off∈before→W'.frozen? ⟨b,off,none⟩ = false:=fun b off hp=>by
  rw [hb.frozen (p:=⟨b,off,none⟩) (blocks _ hp)]
  exact cold b off hp
 have behind:DataW.Whole enc P (f.resultTypes.toList ++ f.params.toList) s.vars apart W' (v.resultList f.resultTypes.size ++ args.toList)
   ((s.fn H (ds ++ gs)).results ++ (s.fn H (ds ++ gs)).args) (s.fn H (ds ++ gs)).vars (pa ++ pv):=by
  have h:=trodAll_append (hargs (fun _=>true) fun _ _=>rfl) (hres 0 (fun _=>true) true)
  exact ⟨pa,pv,h,hvars _ fun _ _=>rfl,rfl,fun b off hp=>cold' b off (by rw [hps];exact hp),fun ha=>by rw [← hps];exact once ha⟩
 exact ⟨ds,gs,before,[],pa,pv,whole,hres _ _ _,hargs _ old,hvars _ old,frame,fun _=>⟨hok,_,_,_,behind,fun p hp _=>by rw [hps];exact hp⟩⟩
end
end
section
structure Ex where
 kind:Int
 a:Int
 b:Int
 c:Int
 name:ByteArray
 state:ByteArray
 v:Int
 args:List Int
 pos:Int
structure It where
 kind:Int
 name:ByteArray
 type:Int
 e:Int
 f:Int
 states:List ByteArray
 state:ByteArray
 next:ByteArray
 pos:Int
structure Pa where
 name:ByteArray
 type:Int
structure De where
 kind:Int
 name:ByteArray
 params:List Pa
 items:List It
 type:Int
 e:Int
 pos:Int
structure Pr where
 decls:List De
 exprs:List Ex
def QAL (k:Int):Nat:=if k = 4∨k = 5∨k = 16∨k = 21 then 1 else if (6≤k∧k≤14)∨k = 17∨k = 18 then 2 else if k = 15 then 3 else 0
def QAB (x:Ex):List Int:=if x.kind = 19 then x.args else [x.a,x.b,x.c].take (QAL x.kind)
def mostV (k:Int):Int:=if k = 1 then 9223372036854775807 else if k = 2 then 1 else 0
def QBP (k:Int):Bool:=decide (k = 3) || decide (k = 19) || decide (k = 20)
def QCJ (x:Ex) (i:Nat):Bool :=
 decide (1≤x.kind) && decide (x.kind≤21) && (QAB x).all (fun p=>decide (0≤p) && decide (p < (i:Int))) && ([x.a,x.b,x.c].drop (QAL x.kind)).all (fun p=>decide (p = 0)) &&
 (QBP x.kind == decide (x.name.size≠0)) && (decide (x.kind = 20) == decide (x.state.size≠0)) && (decide (x.kind = 19) || decide (x.args.length = 0)) && decide (0≤x.v) && decide (x.v≤mostV x.kind)
def QCA (k:Int):Bool:=decide (k = 1) || decide (k = 2)
def hasE (k:Int):Bool:=decide (k = 1) || decide (k = 4) || decide (k = 2) || decide (k = 3) || decide (k = 5)
def hasF (k:Int):Bool:=decide (k = 2) || decide (k = 3) || decide (k = 5) || decide (k = 7)
def QAg (n:Nat) (has:Bool) (e:Int):Bool:=if has then decide (0≤e) && decide (e < (n:Int)) else decide (e = 0)
def QFZ (n:Nat) (x:It):Bool:=QAg n (hasE x.kind) x.e && QAg n (hasF x.kind) x.f
def QJ8 (n:Nat) (d:De):Bool:=QAg n (QCA d.kind) d.e && d.items.all (QFZ n)
def QNn (l:List Ex) (i:Nat):Bool:=match l[i]? with | some x=>QCJ x i | none=>true
def QFE (p:Pr):Bool:=(List.range p.exprs.length).all (QNn p.exprs) && p.decls.all (QJ8 p.exprs.length)
end
section
open Go.ChangeShapes Go.WideShapes Go.Deep Go.RowKit
def QAH:Nat:=140737488351232
def QMu (o:Option Addr) (cap:Nat):Prop:=cap≤maxLen∧(o = none→cap = 0)
def SlAt (s:Value) (n sz:Nat) (el:Nat→Nat→Nat→Prop):Prop :=
 ∃ o cap b off,s = .slice o n cap∧n≤cap∧QMu o cap∧(0 < n→o = some ⟨b,off,none⟩)∧∀ i,i < n→el b (off+i*sz) i
theorem QCW (n sz cap:Nat) (o:Option Addr) (el:Nat→Nat→Nat→Prop) (hc:QMu o cap) (h:n = 0):SlAt (.slice o n cap) n sz el:=by
 subst h;exact ⟨o,cap,0,0,rfl,Nat.zero_le _,hc,by omega,by omega⟩
theorem QCx {n sz cap b off:Nat} {el:Nat→Nat→Nat→Prop} (h1:n≤cap) (h2:cap≤maxLen) (h:∀ i,i < n→el b (off+i*sz) i):SlAt (.slice (some ⟨b,off,none⟩) n cap) n sz el:=⟨_,cap,b,off,rfl,h1,⟨h2,fun h=>by cases h⟩,fun _=>rfl,h⟩
theorem SlAt.mono {s:Value} {n sz:Nat} {p q:Nat→Nat→Nat→Prop} (h:SlAt s n sz p) (hpq:∀ b o i,i < n→p b o i→q b o i):SlAt s n sz q:=by
 obtain ⟨o,cap,b,off,h1,h2,h3,h4,h5⟩:=h
 exact ⟨o,cap,b,off,h1,h2,h3,h4,fun i hi=>hpq _ _ _ hi (h5 i hi)⟩
def IntsAt (w:World) (s:Value) (l:List Int):Prop:=SlAt s l.length 1 fun b o i=>w.cell? ⟨b,o,none⟩ = some (.int .i64 (l.getD i 0))
def StrsAt (w:World) (s:Value) (l:List ByteArray):Prop:=SlAt s l.length 1 fun b o i=>w.cell? ⟨b,o,none⟩ = some (.string (l.getD i ⟨#[]⟩))
def QBi (n:Int):Prop:=-9223372036854775808≤n∧n≤9223372036854775807
structure ExOk (x:Ex):Prop where
 kind:QBi x.kind
 a:QBi x.a
 b:QBi x.b
 c:QBi x.c
 v:QBi x.v
 name:x.name.size≤QAH
 state:x.state.size≤QAH
 args:x.args.length≤QAH
 argsOk:∀ n∈x.args,QBi n
def ExAt (w:World) (b o:Nat) (x:Ex):Prop:=∃ s,w.cell? ⟨b,o,none⟩ = some (.int .i64 x.kind)∧w.cell? ⟨b,o+1,none⟩ = some (.int .i64 x.a)∧w.cell? ⟨b,o+2,none⟩ = some (.int .i64 x.b) ∧
 w.cell? ⟨b,o+3,none⟩ = some (.int .i64 x.c)∧w.cell? ⟨b,o+4,none⟩ = some (.string x.name)∧w.cell? ⟨b,o+5,none⟩ = some (.string x.state)∧w.cell? ⟨b,o+6,none⟩ = some (.int .i64 x.v) ∧
 w.cell? ⟨b,o+7,none⟩ = some s∧w.cell? ⟨b,o+8,none⟩ = some (.int .i64 x.pos)∧IntsAt w s x.args∧ExOk x
structure ItOk (x:It):Prop where
 kind:QBi x.kind
 e:QBi x.e
 f:QBi x.f
 name:x.name.size≤QAH
 state:x.state.size≤QAH
 next:x.next.size≤QAH
 states:x.states.length≤QAH
 statesOk:∀ s∈x.states,s.size≤QAH
def ItAt (w:World) (b o:Nat) (x:It):Prop:=∃ s,w.cell? ⟨b,o,none⟩ = some (.int .i64 x.kind)∧w.cell? ⟨b,o+1,none⟩ = some (.string x.name)∧w.cell? ⟨b,o+2,none⟩ = some (.int .i64 x.type) ∧
 w.cell? ⟨b,o+3,none⟩ = some (.int .i64 x.e)∧w.cell? ⟨b,o+4,none⟩ = some (.int .i64 x.f)∧w.cell? ⟨b,o+5,none⟩ = some s∧w.cell? ⟨b,o+6,none⟩ = some (.string x.state) ∧
 w.cell? ⟨b,o+7,none⟩ = some (.string x.next)∧w.cell? ⟨b,o+8,none⟩ = some (.int .i64 x.pos)∧StrsAt w s x.states∧ItOk x
def PaAt (w:World) (b o:Nat) (x:Pa):Prop:=w.cell? ⟨b,o,none⟩ = some (.string x.name)∧w.cell? ⟨b,o+1,none⟩ = some (.int .i64 x.type)∧x.name.size≤QAH∧QBi x.type
structure DeOk (x:De):Prop where
 kind:QBi x.kind
 e:QBi x.e
 name:x.name.size≤QAH
 params:x.params.length≤QAH
 items:x.items.length≤QAH
def DeAt (w:World) (b o:Nat) (x:De):Prop:=∃ s t,w.cell? ⟨b,o,none⟩ = some (.int .i64 x.kind)∧w.cell? ⟨b,o+1,none⟩ = some (.string x.name)∧w.cell? ⟨b,o+2,none⟩ = some s ∧
 w.cell? ⟨b,o+3,none⟩ = some t∧w.cell? ⟨b,o+4,none⟩ = some (.int .i64 x.type)∧w.cell? ⟨b,o+5,none⟩ = some (.int .i64 x.e)∧w.cell? ⟨b,o+6,none⟩ = some (.int .i64 x.pos) ∧
 SlAt s x.params.length 2 (fun b o i=>∀ y,x.params[i]? = some y→PaAt w b o y)∧SlAt t x.items.length 9 (fun b o i=>∀ y,x.items[i]? = some y→ItAt w b o y)∧DeOk x
def ExsAt (w:World) (s:Value) (l:List Ex):Prop:=SlAt s l.length 9 fun b o i=>∀ x,l[i]? = some x→ExAt w b o x
def DesAt (w:World) (s:Value) (l:List De):Prop:=SlAt s l.length 7 fun b o i=>∀ x,l[i]? = some x→DeAt w b o x
def ProgAt (w:World) (sd se:Value) (p:Pr):Prop:=DesAt w sd p.decls∧ExsAt w se p.exprs∧p.decls.length≤QAH∧p.exprs.length≤QAH
theorem QA1 {w w' : World} (hb:Below w.heap.size w w') {a:Addr} {v:Value} (h:w.cell? a = some v):w'.cell? a = some v:=(hb.cell (World.block_lt_of_cell? _ _ h)).trans h
theorem IntsAt.below {w w' : World} {s:Value} {l:List Int} (h:IntsAt w s l) (hb:Below w.heap.size w w'):IntsAt w' s l:=h.mono fun _ _ _ _ h=>QA1 hb h
theorem StrsAt.below {w w' : World} {s:Value} {l:List ByteArray} (h:StrsAt w s l) (hb:Below w.heap.size w w'):StrsAt w' s l:=h.mono fun _ _ _ _ h=>QA1 hb h
theorem ExAt.below {w w' : World} {b o:Nat} {x:Ex} (h:ExAt w b o x) (hb:Below w.heap.size w w'):ExAt w' b o x:=by
 obtain ⟨s,h0,h1,h2,h3,h4,h5,h6,h7,h8,h9,hk⟩:=h
 exact ⟨s,QA1 hb h0,QA1 hb h1,QA1 hb h2,QA1 hb h3,QA1 hb h4,QA1 hb h5,QA1 hb h6,QA1 hb h7,QA1 hb h8,h9.below hb,hk⟩
theorem ItAt.below {w w' : World} {b o:Nat} {x:It} (h:ItAt w b o x) (hb:Below w.heap.size w w'):ItAt w' b o x:=by
 obtain ⟨s,h0,h1,h2,h3,h4,h5,h6,h7,h8,h9,hk⟩:=h
 exact ⟨s,QA1 hb h0,QA1 hb h1,QA1 hb h2,QA1 hb h3,QA1 hb h4,QA1 hb h5,QA1 hb h6,QA1 hb h7,QA1 hb h8,h9.below hb,hk⟩
theorem PaAt.below {w w' : World} {b o:Nat} {x:Pa} (h:PaAt w b o x) (hb:Below w.heap.size w w'):PaAt w' b o x:=⟨QA1 hb h.1,QA1 hb h.2.1,h.2.2⟩
theorem DeAt.below {w w' : World} {b o:Nat} {x:De} (h:DeAt w b o x) (hb:Below w.heap.size w w'):DeAt w' b o x:=by
 obtain ⟨s,t,h0,h1,h2,h3,h4,h5,h6,h7,h8,hk⟩:=h
 exact ⟨s,t,QA1 hb h0,QA1 hb h1,QA1 hb h2,QA1 hb h3,QA1 hb h4,QA1 hb h5,QA1 hb h6,h7.mono fun _ _ _ _ h y hy=>(h y hy).below hb,h8.mono fun _ _ _ _ h y hy=>(h y hy).below hb,hk⟩
theorem ExsAt.below {w w' : World} {s:Value} {l:List Ex} (h:ExsAt w s l) (hb:Below w.heap.size w w'):ExsAt w' s l:=h.mono fun _ _ _ _ h x hx=>(h x hx).below hb
theorem DesAt.below {w w' : World} {s:Value} {l:List De} (h:DesAt w s l) (hb:Below w.heap.size w w'):DesAt w' s l:=h.mono fun _ _ _ _ h x hx=>(h x hx).below hb
theorem ProgAt.below {w w' : World} {sd se:Value} {p:Pr} (h:ProgAt w sd se p) (hb:Below w.heap.size w w'):ProgAt w' sd se p:=⟨h.1.below hb,h.2.1.below hb,h.2.2⟩
section
variable {H:Type} {enc:TypeId × Value→H} {w:World}
instance:Inhabited Ex:=⟨⟨0,0,0,0,⟨#[]⟩,⟨#[]⟩,0,[],0⟩⟩
instance:Inhabited It:=⟨⟨0,⟨#[]⟩,0,0,0,[],⟨#[]⟩,⟨#[]⟩,0⟩⟩
instance:Inhabited Pa:=⟨⟨⟨#[]⟩,0⟩⟩
instance:Inhabited De:=⟨⟨0,⟨#[]⟩,[],[],0,0,0⟩⟩
end
end
section
open Go.Lib (hid)
open Go.RowKit
theorem QA5 {a w:World} (h:Below a.heap.size a w) (o:Obj):Below a.heap.size a (w.alloc o):=h.alloc h.size o
theorem QAE {B:Nat} {a w:World} (h:Below B a w) (n:Nat):Below B a (w.drewN n):=⟨h.os,h.tape,h.output,h.size,h.block⟩
def QA2:Value→Nat | .int _ n=>n.toNat | _=>0
def wEx (x:Ex):Nat:=x.args.length+x.name.size / 100+x.state.size / 100
def wDe (d:De):Nat:=d.params.length+d.name.size / 100
def Ix (t sz:Nat) (s:Value) (b off:Nat) (j:Nat):Prop:=∀ W,(Instr.indexAt t s (.int .i64 (j:Int))).run Tryz.prog W = .ok (.pointer (some ⟨b,off+j*sz,none⟩)) W
theorem QHP {o:Option Addr} {n cap b off:Nat} (h:0 < n→o = some ⟨b,off,none⟩) {j:Nat} (hj:j < n) (hn:n≤9223372036854775807):Ix 24 9 (.slice o n cap) b off j:=by
 intro W
 rw [h (by omega)]
 have h1:(j:Int) < (n:Int):=by omega
 have h2:(j:Int)≤9223372036854775807:=by omega
 go_simp
theorem QCh {o:Option Addr} {n cap b off:Nat} (h:0 < n→o = some ⟨b,off,none⟩) {j:Nat} (hj:j < n) (hn:n≤9223372036854775807):Ix 23 7 (.slice o n cap) b off j:=by
 intro W
 rw [h (by omega)]
 have h1:(j:Int) < (n:Int):=by omega
 have h2:(j:Int)≤9223372036854775807:=by omega
 go_simp
theorem QEL {o:Option Addr} {n cap b off:Nat} (h:0 < n→o = some ⟨b,off,none⟩) {j:Nat} (hj:j < n) (hn:n≤9223372036854775807):Ix 34 9 (.slice o n cap) b off j:=by
 intro W
 rw [h (by omega)]
 have h1:(j:Int) < (n:Int):=by omega
 have h2:(j:Int)≤9223372036854775807:=by omega
 go_simp
theorem QGY {o:Option Addr} {n cap b off:Nat} (h:0 < n→o = some ⟨b,off,none⟩) {j:Nat} (hj:j < n) (hn:n≤9223372036854775807):Ix 52 1 (.slice o n cap) b off j:=by
 intro W
 rw [h (by omega)]
 have h1:(j:Int) < (n:Int):=by omega
 have h2:(j:Int)≤9223372036854775807:=by omega
 go_simp
structure Small (p:Pr):Prop where
 exprs:p.exprs.length≤300
 decls:p.decls.length≤60
 ex:∀ x∈p.exprs,wEx x≤600
 de:∀ d∈p.decls,wDe d≤600∧d.items.length≤600∧∀ y∈d.items,y.states.length≤600
def QDY (p:Pr) (w:World) (e:Ending) (w' : World):Prop:=∃ g:Bool,e = .returned (.bool g)∧(g = false→Small p)∧Below w.heap.size w w'
def QMz (p:Pr) (k q:Nat):Prop:=∀ i,i < k→∀ x,p.exprs[i]? = some x→wEx x≤q
def QJc (d:De) (k q:Nat):Prop:=k≤q∧∀ i,i < k→∀ y,d.items[i]? = some y→y.states.length≤q
def QL5 (p:Pr) (k q:Nat):Prop:=∀ i,i < k→∀ d,p.decls[i]? = some d→wDe d≤q∧(600 < q∨QJc d d.items.length q)
theorem QKd {p:Pr} {k q:Nat} {x:Ex} (h:QMz p k q) (hx:p.exprs[k]? = some x):QMz p (k+1) (q+x.args.length+x.name.size / 100+x.state.size / 100):=by
 intro i hi y hy
 rcases Nat.lt_or_ge i k with h1 | h1
 ·have:=h i h1 y hy;omega
 ·obtain rfl:i = k:=by omega
  rw [hx] at hy
  obtain rfl:=Option.some.inj hy
  unfold wEx;omega
theorem QK0 (o1 o2:Option Addr) (cap dcap n m:Nat) (nl:(301:Int)≤n) (w:World) (p:Pr) :
  Calls Tryz.prog 6 #[.agg #[(.slice o1 m dcap),(.slice o2 n cap)]] w fun e w'=>QDY p w e w':=by
 have g1:decide ((300:Int) < (n:Int)) = true:=decide_eq_true (by omega)
 go_enter Tryz.func6,Tryz.ntmps6
 go_wp2_with fail
 go_ret
 exact ⟨_,rfl,fun h=>by simp at h,QA5 (Below.refl _ _) _⟩
theorem QK1 (o1 o2:Option Addr) (cap dcap n m:Nat) (nl:(n:Int)≤300) (ml:(61:Int)≤m) (w:World) (p:Pr) :
  Calls Tryz.prog 6 #[.agg #[(.slice o1 m dcap),(.slice o2 n cap)]] w fun e w'=>QDY p w e w':=by
 have g1:decide ((300:Int) < (n:Int)) = false:=decide_eq_false (by omega)
 have g2:decide ((60:Int) < (m:Int)) = true:=decide_eq_true (by omega)
 go_enter Tryz.func6,Tryz.ntmps6
 go_wp2_with fail
 go_ret
 exact ⟨_,rfl,fun h=>by simp at h,QA5 (Below.refl _ _) _⟩
theorem QKe {d:De} {l z:Nat} {y:It} (h:QJc d l z) (hy:d.items[l]? = some y):QJc d (l+1) (z+1+y.states.length):=by
 refine ⟨by have:=h.1;omega,fun i hi x hx=>?_⟩
 rcases Nat.lt_or_ge i l with h1 | h1
 ·have:=h.2 i h1 x hx;omega
 ·obtain rfl:i = l:=by omega
  rw [hy] at hx
  obtain rfl:=Option.some.inj hx
  omega
theorem QKc {p:Pr} {j r r1 l z:Nat} {d:De} (h:QL5 p j r) (hd:p.decls[j]? = some d) (hr:r1 = r+d.params.length+d.name.size / 100) (hI:QJc d l z) (hz:r1≤z) (hl:l = d.items.length∨l = 1000):QL5 p (j+1) z:=by
 intro i hi x hx
 rcases Nat.lt_or_ge i j with h1 | h1
 ·obtain ⟨h2,h3⟩:=h i h1 x hx
  refine ⟨by omega,?_⟩
  rcases h3 with h3 | h3
  ·exact .inl (by omega)
  ·exact .inr ⟨by have:=h3.1;omega,fun i hi y hy=>by have:=h3.2 i hi y hy;omega⟩
 ·obtain rfl:i = j:=by omega
  rw [hd] at hx
  obtain rfl:=Option.some.inj hx
  refine ⟨by unfold wDe;omega,?_⟩
  rcases hl with rfl | rfl
  ·exact .inr hI
  ·exact .inl (by have:=hI.1;omega)
theorem QOI {p:Pr} {n m q r:Nat} (hn:p.exprs.length = n) (hm:p.decls.length = m) (nl:(n:Int)≤300) (ml:(m:Int)≤60) (h1:QMz p n q) (h2:QL5 p m r) (hq:q≤r) (hr:(r:Int)≤600):Small p:=by
 refine ⟨by omega,by omega,fun x hx=>?_,fun d hd=>?_⟩
 ·obtain ⟨i,hi,rfl⟩:=List.mem_iff_getElem.1 hx
  have:=h1 i (by omega) _ (List.getElem?_eq_getElem hi)
  omega
 ·obtain ⟨i,hi,rfl⟩:=List.mem_iff_getElem.1 hd
  obtain ⟨h3,h4⟩:=h2 i (by omega) _ (List.getElem?_eq_getElem hi)
  have h5:QJc p.decls[i] p.decls[i].items.length r:=by
   rcases h4 with h4 | h4
   ·omega
   ·exact h4
  refine ⟨by omega,by have:=h5.1;omega,fun y hy=>?_⟩
  obtain ⟨k,hk,rfl⟩:=List.mem_iff_getElem.1 hy
  have:=h5.2 k hk _ (List.getElem?_eq_getElem hk)
  omega
set_option maxHeartbeats 8000000 in
set_option maxRecDepth 100000 in
theorem QJz (o1 o2:Option Addr) (b off cap db doff dcap:Nat) (p:Pr) (n m:Nat) (hn:Hid (p.exprs.length = n)) (hm:Hid (p.decls.length = m)) (nl:(n:Int)≤300) (ml:(m:Int)≤60) (w:World)
  (he:Hid (0 < n→o2 = some ⟨b,off,none⟩)) (hd:Hid (0 < m→o1 = some ⟨db,doff,none⟩))
  (hc:Hid (∀ i,i < n→∀ x,p.exprs[i]? = some x→ExAt (w.alloc (.cells #[(.slice o1 m dcap),(.slice o2 n cap)] 26)) b (off+i*9) x))
  (hdc:Hid (∀ i,i < m→∀ x,p.decls[i]? = some x→DeAt (w.alloc (.cells #[(.slice o1 m dcap),(.slice o2 n cap)] 26)) db (doff+i*7) x)) :
  Calls Tryz.prog 6 #[.agg #[(.slice o1 m dcap),(.slice o2 n cap)]] w fun e w'=>QDY p w e w':=by
 go_enter Tryz.func6,Tryz.ntmps6
 go_wp2_with fail
 go_loopw [3,4] (fun s i wr=>∃ (k q:Nat),i = .int .i64 k∧s = .int .i64 q∧k≤n∧(q:Int)≤k*500000000000000∧Hid (QMz p k q)∧∃ a,wr = (w.alloc (.cells #[(.slice o1 m dcap),(.slice o2 n cap)] 26)).drewN a) (fun _ i _=>n - QA2 i)
 case atStart=>exact ⟨0,0,rfl,rfl,by omega,by omega,hid (fun i hi=>by omega),0,rfl⟩
 case round =>
  obtain ⟨k,q,rfl,rfl,hk,hq,hS,a,rfl⟩:=hrel
  rcases Nat.lt_or_ge k n with hlt | hge
  ·have hl:(k:Int) < (n:Int):=by omega
   obtain ⟨x,hxk⟩:∃ x,p.exprs[k]? = some x:=⟨_,List.getElem?_eq_getElem (by have:=hn.out;omega)⟩
   obtain ⟨s,c0,c1,c2,c3,c4,c5,c6,c7,c8,⟨oa,capa,ba,offa,rfl,ha1,ha2,ha3,ha4⟩,hok⟩:=hc.out k hlt x hxk
   clear ha3 ha4
   obtain ⟨_,_,_,_,_,k1,k2,k3,_⟩:=hok
   unfold QAH at k1 k2 k3
   have ix:=QHP (cap:=cap) he.out hlt (by omega)
   unfold Ix at ix
   have hS':=hid (QKd hS.out hxk)
   clear hxk
   go_wp2_with fail
   go_quiet (fail)
   go_wp2_with fail
   go_roundw
   case rel=>exact ⟨k+1,q+x.args.length+x.name.size / 100+x.state.size / 100,by go_num,by go_num,by omega,by omega,hS',_,rfl⟩
   case measure=>simp [QA2];omega
  ·obtain rfl:k = n:=by omega
   go_wp2_with fail
   go_loopw [3,5] (fun s i wr=>∃ (j r:Nat),i = .int .i64 j∧s = .int .i64 r∧j≤m∧(r:Int)≤150000000000000000+j*141400000000000000∧q≤r∧Hid (QL5 p j r)∧∃ a,wr = (w.alloc (.cells #[(.slice o1 m dcap),(.slice o2 k cap)] 26)).drewN a) (fun _ i _=>m - QA2 i)
   case atStart=>exact ⟨0,q,rfl,rfl,by omega,by omega,by omega,hid (fun i hi=>by omega),a,rfl⟩
   case round =>
    clear a
    obtain ⟨j,r,rfl,rfl,hj,hr,hqr,hD,a,rfl⟩:=hrel
    rcases Nat.lt_or_ge j m with hlt | hge
    ·have hl:(j:Int) < (m:Int):=by omega
     obtain ⟨d,hdj⟩:∃ x,p.decls[j]? = some x:=⟨_,List.getElem?_eq_getElem (by have:=hm.out;omega)⟩
     obtain ⟨s,t,c0,c1,c2,c3,c4,c5,c6,⟨op,capp,bp,offp,rfl,hp1,hp2,hp3,hp4⟩,⟨oi,capi,bi,offi,rfl,hi1,hi2,hi3,hi4⟩,hok⟩:=hdc.out j hlt d hdj
     clear hp3 hp4
     have HI3:=hid hi3
     have HI4:=hid hi4
     clear hi3 hi4
     obtain ⟨_,_,k1,k2,k3⟩:=hok
     unfold QAH at k1 k2 k3
     have ix:=QCh (cap:=dcap) hd.out hlt (by omega)
     unfold Ix at ix
     obtain ⟨ni,hni⟩:∃ ni,ni = d.items.length:=⟨_,rfl⟩
     rw [← hni] at HI3 HI4 c3 k3
     have HN:=hid hni
     clear hni
     obtain ⟨r1,hr1⟩:∃ r1,r1 = r+d.params.length+d.name.size / 100:=⟨_,rfl⟩
     have HR:=hid hr1
     have hDJ:=hid hdj
     clear hdj
     have hr1a:(r1:Int)≤r+142200000000000:=by omega
     have hr1b:r≤r1:=by omega
     go_wp2_with fail
     go_quiet (fail)
     rw [show (r:Int)+(d.params.length:Int)+(d.name.size:Int) / 100 = (r1:Int) by omega]
     clear hr1 c1 c2
     go_wp2_with fail
     go_loop [3,6] (fun s i=>∃ (l z:Nat),i = .int .i64 l∧s = .int .i64 z∧l≤ni∧(l:Int)≤1000∧r1≤z∧(z:Int)≤r1+l*140737488351233∧Hid (QJc d l z)) (fun _ i=>ni - QA2 i)
     case atStart=>exact ⟨0,r1,rfl,rfl,by omega,by omega,by omega,by omega,hid ⟨Nat.zero_le _,fun i hi=>by omega⟩⟩
     case round =>
      obtain ⟨l,z,rfl,rfl,hl1,hl2,hz1,hz2,hI⟩:=hrel
      by_cases hgo:l < ni∧l < 1000
      ·obtain ⟨hg1,hg2⟩:=hgo
       have g1:(l:Int) < (ni:Int):=by omega
       have g2:(l:Int) < 1000:=by omega
       obtain ⟨y,hyl⟩:∃ x,d.items[l]? = some x:=⟨_,List.getElem?_eq_getElem (by have:=HN.out;omega)⟩
       obtain ⟨sy,e0,e1,e2,e3,e4,e5,e6,e7,e8,⟨os,caps,bs,offs,rfl,hs1,hs2,hs3,hs4⟩,hoy⟩:=HI4.out l hg1 y hyl
       clear hs3 hs4
       obtain ⟨_,_,_,_,_,_,k4,_⟩:=hoy
       unfold QAH at k4
       have hI':=hid (QKe hI.out hyl)
       have ix2:=QEL (cap:=capi) HI3.out hg1 (by omega)
       unfold Ix at ix2
       clear hyl
       go_wp2_with fail
       go_round
       case rel=>exact ⟨l+1,by omega,z+1+y.states.length,by omega,by omega,by omega,by omega,by omega,hI'⟩
       case measure=>simp [QA2];omega
      ·have fin:Hid (QL5 p (j+1) z):=hid (QKc hD.out hDJ.out HR.out hI.out hz1 (by rw [← HN.out];omega))
       by_cases hni:l < ni
       ·have g1:(l:Int) < (ni:Int):=by omega
        have g2:decide ((l:Int) < 1000) = false:=decide_eq_false (by omega)
        clear hgo
        go_wp2_with fail
        go_roundw
        case rel=>exact ⟨j+1,z,by go_num,rfl,by omega,by omega,by omega,fin,_,rfl⟩
        case measure=>simp [QA2];omega
       ·have g1:decide ((l:Int) < (ni:Int)) = false:=decide_eq_false (by omega)
        clear hgo
        go_wp2_with fail
        go_roundw
        case rel=>exact ⟨j+1,z,by go_num,rfl,by omega,by omega,by omega,fin,_,rfl⟩
        case measure=>simp [QA2];omega
    ·obtain rfl:j = m:=by omega
     have fin:Hid (decide (600 < (r:Int)) = false→Small p):=hid fun hh=>QOI hn.out hm.out nl ml hS.out hD.out hqr (by have:=of_decide_eq_false hh;omega)
     go_wp2_with fail
     go_ret
     exact ⟨_,rfl,fin.out,QAE (QA5 (Below.refl _ _) _) _⟩
theorem QLa (sd se:Value) (p:Pr) (w:World) (h:ProgAt w sd se p):Calls Tryz.prog 6 #[.agg #[sd,se]] w fun e w'=>QDY p w e w':=by
 obtain ⟨⟨o1,dcap,db,doff,rfl,hd1,hd2,hd3,hd4⟩,⟨o2,cap,b,off,rfl,he1,he2,he3,he4⟩,h3,h4⟩:=h
 have hb:=(Below.refl w.heap.size w).alloc (Nat.le_refl _) (.cells #[(.slice o1 p.decls.length dcap),(.slice o2 p.exprs.length cap)] 26)
 by_cases hn:p.exprs.length≤300
 ·by_cases hm:p.decls.length≤60
  ·exact QJz o1 o2 b off cap db doff dcap p _ _ (hid rfl) (hid rfl) (by omega) (by omega) w (hid he3) (hid hd3) (hid fun i hi x hx=>(he4 i hi x hx).below hb) (hid fun i hi x hx=>(hd4 i hi x hx).below hb)
  ·exact QK1 o1 o2 cap dcap _ _ (by omega) (by omega) w p
 ·exact QK0 o1 o2 cap dcap _ _ (by omega) w p
end
section
set_option maxHeartbeats 4000000
open Go.RowKit
theorem QFx {k:Int} (h:¬ (1≤k∧k≤21)):QAL k = 0:=by
 unfold QAL;rw [if_neg (by omega),if_neg (by omega),if_neg (by omega)]
theorem QBk (k:Int):QAL k≤3:=by unfold QAL;(repeat' split) <;> omega
def QIM (k:Int):Int:=if k = 19 then -1 else (QAL k:Int)
theorem QCN (k:Int) (w:World):Calls Tryz.prog 108 #[.int .i64 k] w fun e w'=>e = .returned (.int .i64 ((QAL k:Nat):Int))∧w = w':=by
 by_cases h:1≤k∧k≤21
 ·have h2:k = 1∨k = 2∨k = 3∨k = 4∨k = 5∨k = 6∨k = 7∨k = 8∨k = 9∨k = 10∨k = 11∨k = 12∨k = 13∨k = 14∨k = 15∨k = 16∨k = 17∨k = 18∨k = 19∨k = 20∨k = 21:=by omega
  clear h
  rcases h2 with rfl | rfl | rfl | rfl | rfl | rfl | rfl | rfl | rfl | rfl | rfl | rfl | rfl | rfl | rfl | rfl | rfl | rfl | rfl | rfl | rfl
  all_goals
   go_enter Tryz.func108,Tryz.ntmps108
   go_wp2_with fail
   go_ret
   exact ⟨rfl,rfl⟩
 ·have hr:((QAL k:Nat):Int) = 0:=by rw [QFx h];rfl
  have e4:(k == 4) = false:=beq_false_of_ne (by omega)
  have e5:(k == 5) = false:=beq_false_of_ne (by omega)
  have e16:(k == 16) = false:=beq_false_of_ne (by omega)
  have e21:(k == 21) = false:=beq_false_of_ne (by omega)
  have e6:(k == 6) = false:=beq_false_of_ne (by omega)
  have e7:(k == 7) = false:=beq_false_of_ne (by omega)
  have e8:(k == 8) = false:=beq_false_of_ne (by omega)
  have e9:(k == 9) = false:=beq_false_of_ne (by omega)
  have e10:(k == 10) = false:=beq_false_of_ne (by omega)
  have e11:(k == 11) = false:=beq_false_of_ne (by omega)
  have e12:(k == 12) = false:=beq_false_of_ne (by omega)
  have e13:(k == 13) = false:=beq_false_of_ne (by omega)
  have e14:(k == 14) = false:=beq_false_of_ne (by omega)
  have e17:(k == 17) = false:=beq_false_of_ne (by omega)
  have e18:(k == 18) = false:=beq_false_of_ne (by omega)
  have e15:(k == 15) = false:=beq_false_of_ne (by omega)
  rw [hr]
  clear h hr
  go_enter Tryz.func108,Tryz.ntmps108
  go_wp2_with fail
  go_ret
  exact ⟨rfl,rfl⟩
theorem QJ7 (k:Int) (w:World):Calls Tryz.prog 79 #[.int .i64 k] w fun e w'=>e = .returned (.int .i64 (QIM k))∧w = w':=by
 by_cases h:1≤k∧k≤21
 ·have h2:k = 1∨k = 2∨k = 3∨k = 4∨k = 5∨k = 6∨k = 7∨k = 8∨k = 9∨k = 10∨k = 11∨k = 12∨k = 13∨k = 14∨k = 15∨k = 16∨k = 17∨k = 18∨k = 19∨k = 20∨k = 21:=by omega
  clear h
  rcases h2 with rfl | rfl | rfl | rfl | rfl | rfl | rfl | rfl | rfl | rfl | rfl | rfl | rfl | rfl | rfl | rfl | rfl | rfl | rfl | rfl | rfl
  all_goals
   go_enter Tryz.func79,Tryz.ntmps79
   go_wp2_with fail
   go_ret
   exact ⟨rfl,rfl⟩
 ·have hr:(QIM k) = 0:=by unfold QIM;rw [if_neg (by omega),QFx h];rfl
  have e4:(k == 4) = false:=beq_false_of_ne (by omega)
  have e5:(k == 5) = false:=beq_false_of_ne (by omega)
  have e16:(k == 16) = false:=beq_false_of_ne (by omega)
  have e21:(k == 21) = false:=beq_false_of_ne (by omega)
  have e6:(k == 6) = false:=beq_false_of_ne (by omega)
  have e7:(k == 7) = false:=beq_false_of_ne (by omega)
  have e8:(k == 8) = false:=beq_false_of_ne (by omega)
  have e9:(k == 9) = false:=beq_false_of_ne (by omega)
  have e10:(k == 10) = false:=beq_false_of_ne (by omega)
  have e11:(k == 11) = false:=beq_false_of_ne (by omega)
  have e12:(k == 12) = false:=beq_false_of_ne (by omega)
  have e13:(k == 13) = false:=beq_false_of_ne (by omega)
  have e14:(k == 14) = false:=beq_false_of_ne (by omega)
  have e17:(k == 17) = false:=beq_false_of_ne (by omega)
  have e18:(k == 18) = false:=beq_false_of_ne (by omega)
  have e15:(k == 15) = false:=beq_false_of_ne (by omega)
  have e19:(k == 19) = false:=beq_false_of_ne (by omega)
  rw [hr]
  clear h hr
  go_enter Tryz.func79,Tryz.ntmps79
  go_wp2_with fail
  go_ret
  exact ⟨rfl,rfl⟩
theorem QDm (k:Int) (w:World):Calls Tryz.prog 109 #[.int .i64 k] w fun e w'=>e = .returned (.int .i64 (mostV k))∧w = w':=by
 by_cases h1:k = 1
 ·subst h1
  go_enter Tryz.func109,Tryz.ntmps109
  go_wp2_with fail
  go_ret
  exact ⟨rfl,rfl⟩
 ·by_cases h2:k = 2
  ·subst h2
   go_enter Tryz.func109,Tryz.ntmps109
   go_wp2_with fail
   go_ret
   exact ⟨rfl,rfl⟩
  ·have e1:(k == 1) = false:=beq_false_of_ne h1
   have e2:(k == 2) = false:=beq_false_of_ne h2
   have hr:mostV k = 0:=by unfold mostV;rw [if_neg h1,if_neg h2]
   rw [hr]
   clear hr h1 h2
   go_enter Tryz.func109,Tryz.ntmps109
   go_wp2_with fail
   go_ret
   exact ⟨rfl,rfl⟩
end
section
open Go.Lib (hid)
open Go.RowKit Go.Shelf
attribute [local go_sem] Oper.semAt_some
def QA4 (x:Ex) (s:Value):Array Value:=#[.int .i64 x.kind,.int .i64 x.a,.int .i64 x.b,.int .i64 x.c,.string x.name,.string x.state,.int .i64 x.v,s,.int .i64 x.pos]
def QDq (B:Nat):Value:=.func (.func 110) #[] #[.pointer (some ⟨B,0,none⟩)]
theorem QCr (k a b c v p:Int) (name state:ByteArray) (s:Value) (w:World):Calls Tryz.prog 92 #[.agg #[.int .i64 k,.int .i64 a,.int .i64 b,.int .i64 c,.string name,.string state,.int .i64 v,s,.int .i64 p]] w fun e w'=>e = .returned (QDq w.heap.size) ∧
  w.alloc (.cells #[.int .i64 k,.int .i64 a,.int .i64 b,.int .i64 c,.string name,.string state,.int .i64 v,s,.int .i64 p] 54) = w':=by
 go_enter Tryz.func92,Tryz.ntmps92
 go_wp2_with fail
 go_ret
 exact ⟨rfl,rfl⟩
def KeepM (M:Nat→Prop) (rw:World→Option Nat) (n₁:Nat) (X Y:World):Prop:=X.heap.size≤Y.heap.size ∧
 (∀ k,k < X.heap.size→¬ M k→rw X≠some k→(k < n₁∨∃ o,X.heap[k]? = some o∧o.isCells = true)→Y.heap[k]? = X.heap[k]?) ∧
 (∀ k,rw Y = some k→rw X = some k∨(X.heap.size≤k∧k < Y.heap.size))
theorem KeepM.trans {M:Nat→Prop} {rw:World→Option Nat} {n₁:Nat} {X Y Z:World} (h:KeepM M rw n₁ X Y) (k:KeepM M rw n₁ Y Z):KeepM M rw n₁ X Z:=by
 refine ⟨Nat.le_trans h.1 k.1,fun j hj hB hr hc=>?_,fun j hj=>?_⟩
 ·have e:=h.2.1 j hj hB hr hc
  refine (k.2.1 j (Nat.lt_of_lt_of_le hj h.1) hB (fun hh=>?_) ?_).trans e
  ·rcases h.2.2 j hh with h1 | h1
   ·exact hr h1
   ·omega
  ·rcases hc with h1 | ⟨o,h1,h2⟩
   ·exact .inl h1
   ·exact .inr ⟨o,e.trans h1,h2⟩
 ·rcases k.2.2 j hj with h1 | h1
  ·rcases h.2.2 j h1 with h2 | h2
   ·exact .inl h2
   ·exact .inr ⟨h2.1,Nat.lt_of_lt_of_le h2.2 k.1⟩
  ·exact .inr ⟨Nat.le_trans h.1 h1.1,h1.2⟩
def RowNew (rw:World→Option Nat) (w:World) (n₂:Nat) (W:World):Prop:=∀ k,rw W = some k→rw w = some k∨n₂≤k
theorem RowNew.keep {M:Nat→Prop} {rw:World→Option Nat} {n₁ n₂:Nat} {w X Y:World} (h:RowNew rw w n₂ X) (hX:n₂≤X.heap.size) (hk:KeepM M rw n₁ X Y):RowNew rw w n₂ Y:=by
 intro k hk1
 rcases hk.2.2 k hk1 with h1 | h1
 ·exact h k h1
 ·exact .inr (Nat.le_trans hX h1.1)
structure Around (M:Nat→Prop) (rw:World→Option Nat) (w:World):Prop where
 old:∀ k,M k→k < w.heap.size
 row:∀ k,rw w = some k→k < w.heap.size
 same:∀ W,Below w.heap.size w W→rw W = rw w
def QAc (M:Nat→Prop) (rw:World→Option Nat) (w:World) (k:Nat):Prop:=k < w.heap.size∧¬ M k∧rw w≠some k
abbrev QBY (x:Ex):={ p:Int // p∈QAB x }
theorem QCq {x:Ex} (h:x.kind = 19):QAB x = x.args:=by unfold QAB;rw [if_pos h]
theorem QE8 {x:Ex} (h:¬ x.kind = 19):QAB x = [x.a,x.b,x.c].take (QAL x.kind):=by unfold QAB;rw [if_neg h]
theorem QE9 {x:Ex} (h:¬ x.kind = 19):(QAB x).length = QAL x.kind:=by
 rw [QE8 h,List.length_take];have:=QBk x.kind;simp;omega
theorem QKL {x:Ex} (h:¬ x.kind = 19) {j:Nat} (hj:j < QAL x.kind):(QAB x).getD j 0 = [x.a,x.b,x.c].getD j 0:=by
 rw [QE8 h];simp [List.getD,hj]
theorem ix_arr {b n cap:Nat} {j:Nat} (hj:j < n) (hn:n≤9223372036854775807):Ix 52 1 (.slice (some ⟨b,0,none⟩) n cap) b 0 j:=QGY (off:=0) (fun _=>rfl) hj hn
theorem QOH (b m:Nat) (h:m≤3) (W:World):(Instr.sliceAt 160 (.pointer (some ⟨b,0,none⟩)) none (some (.int .i64 (m:Int))) none).run Tryz.prog W = .ok (.slice (some ⟨b,0,none⟩) m 3) W:=by
 obtain rfl | rfl | rfl | rfl:m = 0∨m = 1∨m = 2∨m = 3:=by omega
 all_goals kernel_rfl
theorem QDB (b m:Nat) (h:m≤3) (W:World):(Instr.sliceAt 160 (.pointer (some ⟨b,0,none⟩)) (some (.int .i64 (m:Int))) none none).run Tryz.prog W = .ok (.slice (some ⟨b,(if m = 3 then 0 else m),none⟩) (3 - m) (3 - m)) W:=by
 obtain rfl | rfl | rfl | rfl:m = 0∨m = 1∨m = 2∨m = 3:=by omega
 all_goals kernel_rfl
theorem cell_same' {w w' : World} {b:Nat} (h:w'.heap[b]? = w.heap[b]?) (o:Nat):w'.cell? ⟨b,o,none⟩ = w.cell? ⟨b,o,none⟩:=by simp only [World.cell?,h]
def SrcAt (rw:World→Option Nat) (w W1:World) (m S:Nat) (X:World):Prop:=W1.heap.size≤X.heap.size∧RowNew rw w W1.heap.size X∧(0 < m→X.heap[S]? = W1.heap[S]?)
def SrcOk (M:Nat→Prop) (rw:World→Option Nat) (w W1:World) (S:Nat):Prop:=¬ M S∧S < W1.heap.size∧rw w≠some S∧∃ o,W1.heap[S]? = some o∧o.isCells = true
theorem SrcAt.keep {M:Nat→Prop} {rw:World→Option Nat} {n₁ m S:Nat} {w W1 X Y:World} (h:SrcAt rw w W1 m S X) (hk:KeepM M rw n₁ X Y) (hs:0 < m→SrcOk M rw w W1 S):SrcAt rw w W1 m S Y:=by
 refine ⟨Nat.le_trans h.1 hk.1,h.2.1.keep h.1 hk,fun hm=>?_⟩
 obtain ⟨h1,h2,h3,o,h4,h5⟩:=hs hm
 have e:=h.2.2 hm
 refine (hk.2.1 S (Nat.lt_of_lt_of_le h2 h.1) h1 (fun hh=>?_) (.inr ⟨o,e.trans h4,h5⟩)).trans e
 rcases h.2.1 S hh with h6 | h6
 ·exact h3 h6
 ·omega
theorem QJQ {x:Ex} {pre:List (QBY x)} {j:Nat} {p:QBY x} (h:pre.map (·.1) = (QAB x).take j) (hj:j < (QAB x).length) (hp:p.1 = (QAB x).getD j 0):(pre ++ [p]).map (·.1) = (QAB x).take (j+1):=by
 rw [List.map_append,h,List.take_succ_eq_append_getElem hj,List.map_singleton,hp,List.getD_eq_getElem?_getD,List.getElem?_eq_getElem hj]
 rfl
set_option maxHeartbeats 8000000 in
set_option maxRecDepth 100000 in
theorem QKM (F:Fence) (n:Nat) (hF:F = Fence.wide) (hn:1≤n) (x:Ex) (o:Option Addr) (cap ba offa na:Nat) (hna:Hid (x.args.length = na)) (nl:(na:Int)≤9223372036854775807) (M:Nat→Prop) (rw:World→Option Nat) (B:Nat) (w:World)
  (hA:Hid (Around M rw w)) (hB:Hid (QAc M rw w B)) (hc:Hid (w.heap[B]? = some (.cells (QA4 x (.slice o na cap)) 54 (0,0)))) (ho:Hid (0 < na→o = some ⟨ba,offa,none⟩))
  (hS:Hid (0 < na→x.kind = 19→QAc M rw w ba∧(∃ cs T fr,w.heap[ba]? = some (.cells cs T fr)))) (hv:Hid (∀ j,j < na→w.cell? ⟨ba,offa+j,none⟩ = some (.int .i64 (x.args.getD j 0)))) (lp:Nat) (J Jx:List (QBY x)→World→Prop)
  (W:World) (hW:Hid (Below w.heap.size w W)) (hJ:Hid (∀ s X Y,J s X→X.grownBy Y none→J s Y))
  (hY:Hid (∀ pre (p:QBY x) W1,J pre W1→pre.length < (QAB x).length→YieldAt F (n - 1) Tryz.prog lp #[.int .i64 p.1] W1 fun e W' =>
   (e = .returned (.bool true)∧J (pre ++ [p]) W'∧KeepM M rw w.heap.size W1 W')∨(e = .returned (.bool false)∧Jx (pre ++ [p]) W')))
  (h0:Hid (J [] W)) :
  CallsIn F n Tryz.prog 110 #[.func (.yield lp) #[] #[],.pointer (some ⟨B,0,none⟩)] W fun e W'=>(∃ v,e = .returned v) ∧
   ((∃ ys:List (QBY x),ys.map (·.1) = QAB x∧J ys W')∨(∃ pre:List (QBY x),pre.map (·.1) <+: QAB x∧Jx pre W')):=by
 subst hF
 have hBW:W.heap[B]? = some (.cells (QA4 x (.slice o na cap)) 54 (0,0)):=(hW.out.block _ hB.out.1).trans hc.out
 have hBlt:=Nat.lt_of_lt_of_le hB.out.1 hW.out.size
 have c0:W.cell? ⟨B,0,none⟩ = some (.int .i64 x.kind):=by simp [World.cell?,hBW,QA4]
 have c1:W.cell? ⟨B,1,none⟩ = some (.int .i64 x.a):=by simp [World.cell?,hBW,QA4]
 have c2:W.cell? ⟨B,2,none⟩ = some (.int .i64 x.b):=by simp [World.cell?,hBW,QA4]
 have c3:W.cell? ⟨B,3,none⟩ = some (.int .i64 x.c):=by simp [World.cell?,hBW,QA4]
 have c7:W.cell? ⟨B,7,none⟩ = some (.slice o na cap):=by simp [World.cell?,hBW,QA4]
 clear hBW
 have hmn:=QBk x.kind
 refine callsIn_of_wp Tryz.func110 rfl trivial ?_ rfl
 simp only [Tryz.ntmps110,List.size_toArray,List.length_cons,List.length_nil,Nat.reduceAdd,Nat.reduceSub,Array.replicate_succ,Array.replicate_zero,List.push_toArray,List.append_toArray,List.nil_append,List.cons_append]
 have hba:=hid ((Below.refl W.heap.size W).alloc (Nat.le_refl _) (.cells #[.int .i64 x.a,.int .i64 x.b,.int .i64 x.c] 160))
 have hsl:=QOH W.heap.size (QAL x.kind) hmn
 obtain ⟨m,S,offS,so,capS,hcase⟩:∃ (m S offS:Nat) (so:Option Addr) (capS:Nat),Hid ((x.kind = 19∧m = na∧S = ba∧offS = offa∧so = o∧capS = cap)∨(¬ x.kind = 19∧m = QAL x.kind∧S = W.heap.size∧offS = 0∧so = some ⟨W.heap.size,0,none⟩∧capS = 3)):=by
  by_cases h19:x.kind = 19
  ·exact ⟨_,_,_,_,_,hid (.inl ⟨h19,rfl,rfl,rfl,rfl,rfl⟩)⟩
  ·exact ⟨_,_,_,_,_,hid (.inr ⟨h19,rfl,rfl,rfl,rfl,rfl⟩)⟩
 have hml:(m:Int)≤9223372036854775807:=by
  rcases hcase.out with ⟨_,rfl,_⟩ | ⟨_,rfl,_⟩ <;> omega
 have hlen:Hid ((QAB x).length = m):=hid (by
  rcases hcase.out with ⟨h19,rfl,_⟩ | ⟨h19,rfl,_⟩
  ·rw [QCq h19];exact hna.out
  ·exact QE9 h19)
 have hix:Hid (∀ j,j < m→Ix 52 1 (.slice so m capS) S offS j):=hid (by
  intro j hj
  rcases hcase.out with ⟨h19,rfl,rfl,rfl,rfl,rfl⟩ | ⟨h19,rfl,rfl,rfl,rfl,rfl⟩
  ·exact QGY ho.out hj (by omega)
  ·exact ix_arr hj (by omega))
 have hsrc:Hid (0 < m→SrcOk M rw w (W.alloc (.cells #[.int .i64 x.a,.int .i64 x.b,.int .i64 x.c] 160)) S):=hid (by
  intro hm
  rcases hcase.out with ⟨h19,rfl,rfl,rfl,rfl,rfl⟩ | ⟨h19,rfl,rfl,rfl,rfl,rfl⟩
  ·obtain ⟨⟨s1,s2,s3⟩,cs,T,fr,hcs⟩:=hS.out hm h19
   have hlt:=Nat.lt_of_lt_of_le s1 hW.out.size
   exact ⟨s2,by simp;omega,s3,_,(hba.out.block _ hlt).trans ((hW.out.block _ s1).trans hcs),rfl⟩
  ·refine ⟨fun hh=>?_,by simp,fun hh=>?_,_,World.alloc_heap_new W _,rfl⟩
   ·have:=hA.out.old _ hh;have:=hW.out.size;omega
   ·have:=hA.out.row _ hh;have:=hW.out.size;omega)
 have hcell:Hid (∀ j,j < m→(W.alloc (.cells #[.int .i64 x.a,.int .i64 x.b,.int .i64 x.c] 160)).cell? ⟨S,offS+j,none⟩ = some (.int .i64 ((QAB x).getD j 0))):=hid (by
  intro j hj
  rcases hcase.out with ⟨h19,rfl,rfl,rfl,rfl,rfl⟩ | ⟨h19,rfl,rfl,rfl,rfl,rfl⟩
  ·obtain ⟨⟨s1,s2,s3⟩,_⟩:=hS.out (by omega) h19
   have hlt:=Nat.lt_of_lt_of_le s1 hW.out.size
   rw [cell_same' (hba.out.block _ hlt),cell_same' (hW.out.block _ s1),hv.out j hj,QCq h19]
  ·rw [QKL h19 hj,Nat.zero_add,World.cell?_alloc_new]
   match j,Nat.lt_of_lt_of_le hj hmn with
   | 0,_=>rfl
   | 1,_=>rfl
   | 2,_=>rfl)
 have hst:Hid (SrcAt rw w (W.alloc (.cells #[.int .i64 x.a,.int .i64 x.b,.int .i64 x.c] 160)) m S (W.alloc (.cells #[.int .i64 x.a,.int .i64 x.b,.int .i64 x.c] 160))):=hid ⟨Nat.le_refl _,fun k hk=>.inl (by
  rwa [hA.out.same _ (hW.out.trans (hba.out.mono hW.out.size))] at hk),fun _=>rfl⟩
 have hJ1:=hid (hJ.out _ _ _ h0.out (World.grownBy_alloc W (.cells #[.int .i64 x.a,.int .i64 x.b,.int .i64 x.c] 160) none))
 by_cases h19:x.kind = 19
 ·obtain ⟨_,rfl,rfl,rfl,rfl,rfl⟩ | ⟨h,_⟩:=hcase.out
  ·rw [h19] at hsl c0
   gi_wp2_with (refine ⟨trivial,?_⟩;gi_at_call 108;((with_reducible refine (callsIn_wide.2 (QCN _ _)).mono ?_);rintro e w1 ⟨rfl,rfl⟩))
   clear hsl c0 c1 c2 c3 c7
   gi_loopw [25] (fun i wr=>∃ (j:Nat) (pre:List (QBY x)),i = .int .i64 j∧Hid (j≤m)∧Hid (pre.map (·.1) = (QAB x).take j)∧Hid (J pre wr)∧Hid (SrcAt rw w (W.alloc (.cells #[.int .i64 x.a,.int .i64 x.b,.int .i64 x.c] 160)) (m) S wr)) (fun i _=>m - QA2 i)
   case atStart=>exact ⟨0,[],rfl,hid (Nat.zero_le _),hid rfl,hJ1,hst⟩
   case round =>
    obtain ⟨j,pre,rfl,hj,hpre,hJp,hSr⟩:=hrel
    have jl:=hj.out
    rcases Nat.lt_or_ge j (m) with hlt | hge
    ·have q3:(j:Int) < (m:Int):=by omega
     have ix:=hix.out j hlt
     unfold Ix at ix
     have hjl:j < (QAB x).length:=by rw [hlen.out];exact hlt
     obtain ⟨p,hp⟩:∃ p,p = (QAB x).getD j 0:=⟨_,rfl⟩
     have hmem:p∈QAB x:=by rw [hp,List.getD_eq_getElem?_getD,List.getElem?_eq_getElem hjl];exact List.getElem_mem hjl
     have xj:=(cell_same' (hSr.out.2.2 (by omega)) (offS+j)).trans (hcell.out j hlt)
     rw [← hp] at xj
     obtain ⟨fn,tmps,assign,body,hy,hR⟩:=hY.out pre ⟨p,hmem⟩ wr hJp.out (by rw [show pre.length = j by have:=congrArg List.length hpre.out;simpa [List.length_take,Nat.min_eq_left (Nat.le_of_lt hjl)] using this];exact hjl)
     have hy' : (Instr.yield lp #[.int .i64 p]).run Tryz.prog wr = .ok (.round lp fn tmps assign body) wr:=hy
     have HR:=hid hR
     have hpre':=hid (QJQ (p:=⟨p,hmem⟩) hpre.out hjl hp)
     clear hy hR hp
     gi_wp2
     refine HR.out.mono ?_
     rintro e W3 (⟨rfl,hJ3,hk3⟩ | ⟨rfl,hJx3⟩)
     ·have hS3:=hid (hSr.out.keep hk3 hsrc.out)
      have HJ3:=hid hJ3
      clear hJ3 hk3
      gi_wp2
      go_roundw
      case rel=>exact ⟨j+1,_,by go_num,hid (by omega),hpre',HJ3,hS3⟩
      case measure=>simp [QA2];omega
     ·gi_wp2
      refine bodyPost_ret (results_none rfl _ _ _) rfl ?_
      exact ⟨⟨_,rfl⟩,.inr ⟨_,⟨(QAB x).drop (j+1),by rw [hpre'.out,List.take_append_drop]⟩,hJx3⟩⟩
    ·obtain rfl:m = j:=by omega
     gi_wp2
     go_end0
     exact ⟨⟨_,rfl⟩,.inl ⟨pre,by rw [hpre.out,← hlen.out,List.take_length],hJp.out⟩⟩
  ·exact absurd h19 h
 ·obtain ⟨h,_⟩ | ⟨_,rfl,rfl,rfl,rfl,rfl⟩:=hcase.out
  ·exact absurd h h19
  ·have e19:(x.kind == 19) = false:=beq_false_of_ne h19
   gi_wp2_with (refine ⟨trivial,?_⟩;gi_at_call 108;((with_reducible refine (callsIn_wide.2 (QCN _ _)).mono ?_);rintro e w1 ⟨rfl,rfl⟩))
   clear hsl c0 c1 c2 c3 c7
   gi_loopw [25] (fun i wr=>∃ (j:Nat) (pre:List (QBY x)),i = .int .i64 j∧Hid (j≤QAL x.kind)∧Hid (pre.map (·.1) = (QAB x).take j)∧Hid (J pre wr)∧Hid (SrcAt rw w (W.alloc (.cells #[.int .i64 x.a,.int .i64 x.b,.int .i64 x.c] 160)) (QAL x.kind) W.heap.size wr)) (fun i _=>QAL x.kind - QA2 i)
   case atStart=>exact ⟨0,[],rfl,hid (Nat.zero_le _),hid rfl,hJ1,hst⟩
   case round =>
    obtain ⟨j,pre,rfl,hj,hpre,hJp,hSr⟩:=hrel
    have jl:=hj.out
    rcases Nat.lt_or_ge j (QAL x.kind) with hlt | hge
    ·have q3:(j:Int) < ((QAL x.kind:Nat):Int):=by omega
     have ix:=hix.out j hlt
     unfold Ix at ix
     have hjl:j < (QAB x).length:=by rw [hlen.out];exact hlt
     obtain ⟨p,hp⟩:∃ p,p = (QAB x).getD j 0:=⟨_,rfl⟩
     have hmem:p∈QAB x:=by rw [hp,List.getD_eq_getElem?_getD,List.getElem?_eq_getElem hjl];exact List.getElem_mem hjl
     have xj:=(cell_same' (hSr.out.2.2 (by omega)) (0+j)).trans (hcell.out j hlt)
     rw [← hp,Nat.zero_add] at xj
     obtain ⟨fn,tmps,assign,body,hy,hR⟩:=hY.out pre ⟨p,hmem⟩ wr hJp.out (by rw [show pre.length = j by have:=congrArg List.length hpre.out;simpa [List.length_take,Nat.min_eq_left (Nat.le_of_lt hjl)] using this];exact hjl)
     have hy' : (Instr.yield lp #[.int .i64 p]).run Tryz.prog wr = .ok (.round lp fn tmps assign body) wr:=hy
     have HR:=hid hR
     have hpre':=hid (QJQ (p:=⟨p,hmem⟩) hpre.out hjl hp)
     clear hy hR hp
     gi_wp2
     refine HR.out.mono ?_
     rintro e W3 (⟨rfl,hJ3,hk3⟩ | ⟨rfl,hJx3⟩)
     ·have hS3:=hid (hSr.out.keep hk3 hsrc.out)
      have HJ3:=hid hJ3
      clear hJ3 hk3
      gi_wp2
      go_roundw
      case rel=>exact ⟨j+1,_,by go_num,hid (by omega),hpre',HJ3,hS3⟩
      case measure=>simp [QA2];omega
     ·gi_wp2
      refine bodyPost_ret (results_none rfl _ _ _) rfl ?_
      exact ⟨⟨_,rfl⟩,.inr ⟨_,⟨(QAB x).drop (j+1),by rw [hpre'.out,List.take_append_drop]⟩,hJx3⟩⟩
    ·have hjm:j = QAL x.kind:=by omega
     have hst2:=hid hpre.out
     have q3:decide ((j:Int) < ((QAL x.kind:Nat):Int)) = false:=decide_eq_false (by omega)
     have HJM:=hid hjm
     clear hjm
     gi_wp2
     go_end0
     exact ⟨⟨_,rfl⟩,.inl ⟨pre,by rw [hst2.out,HJM.out,← hlen.out,List.take_length],hJp.out⟩⟩
def QL4 (w:World) (x:Ex) (B:Nat) (no:Nat→Prop):Prop:=∃ o cap ba offa,w.heap[B]? = some (.cells (QA4 x (.slice o x.args.length cap)) 54 (0,0))∧x.args.length≤QAH∧(0 < x.args.length→o = some ⟨ba,offa,none⟩) ∧
 (∀ j,j < x.args.length→w.cell? ⟨ba,offa+j,none⟩ = some (.int .i64 (x.args.getD j 0)))∧¬ no B∧(0 < x.args.length→¬ no ba)
theorem QGN {w:World} {b o:Nat} {v:Value} (h:w.cell? ⟨b,o,none⟩ = some v):∃ cs T fr,w.heap[b]? = some (.cells cs T fr):=by
 unfold World.cell? at h
 split at h
 ·exact ⟨_,_,_,by assumption⟩
 ·cases h
theorem QBb (n:Nat) (hn:1≤n) (x:Ex) (B:Nat) (M:Nat→Prop) (rw:World→Option Nat) (w:World) (hA:Around M rw w) (hs:QL4 w x B (fun k=>M k∨rw w = some k)) :
  SeqStopsK Fence.wide n Tryz.prog 110 #[.pointer (some ⟨B,0,none⟩)] (fun p:QBY x=>#[.int .i64 p.1]) (KeepM M rw w.heap.size) (fun ys=>ys.map (·.1) = QAB x) (fun pre=>pre.map (·.1) <+: QAB x) (QAB x).length w:=by
 obtain ⟨o,cap,ba,offa,h1,h2,h3,h4,h5,h6⟩:=hs
 have hlt:∀ {k:Nat} {o:Obj},w.heap[k]? = some o→k < w.heap.size:=fun h=>(Array.getElem?_eq_some_iff.1 h).1
 unfold QAH at h2
 exact fun lp J Jx W hW hJ _ hY h0=>QKM Fence.wide n rfl hn x o cap ba offa _ (hid rfl) (by omega) M rw B w (hid hA) (hid ⟨hlt h1,fun h=>h5 (.inl h),fun h=>h5 (.inr h)⟩) (hid h1) (hid h3)
  (hid fun hp _=>by
   obtain ⟨cs,T,fr,hcs⟩:=QGN (h4 0 hp)
   exact ⟨⟨hlt hcs,fun h=>h6 hp (.inl h),fun h=>h6 hp (.inr h)⟩,cs,T,fr,hcs⟩) (hid h4) lp J Jx W
  (hid hW) (hid fun s X Y h1 h2=>hJ s X Y none h1 h2 (fun r e=>by cases e)) (hid hY) (hid h0)
theorem QFT {w W:World} {x:Ex} {s:Value} {B:Nat} {no:Nat→Prop} (ha:IntsAt w s x.args) (hk:ExOk x) (hb:Below w.heap.size w W) (hB:W.heap[B]? = some (.cells (QA4 x s) 54 (0,0))) (hn:∀ k,no k→w.heap.size≤k) (hnB:¬ no B):QL4 W x B no:=by
 obtain ⟨o,cap,ba,offa,rfl,h1,h2,h3,h4⟩:=ha
 have h5:∀ j,j < x.args.length→w.cell? ⟨ba,offa+j,none⟩ = some (.int .i64 (x.args.getD j 0)):=fun j hj=>by have:=h4 j hj;rwa [Nat.mul_one] at this
 refine ⟨o,cap,ba,offa,hB,hk.args,h3,fun j hj=>QA1 hb (h5 j hj),hnB,fun hp hno=>?_⟩
 have:=hn _ hno
 have:ba < w.heap.size:=World.block_lt_of_cell? _ _ (h5 0 hp)
 omega
end
section
open Go.RowKit Go.Shelf
attribute [local go_sem] Oper.semAt_some
theorem QEg:(Tryz.prog.info? 3).map (fun i=>(i.zero,i.size,i.bytes)) = some (some (.int .i64 0),1,8):=by kernel_rfl
theorem QMZ {W:World} {base:Nat} {i:TypeInfo} {z:Value} {ty:TypeId} (h2 : Tryz.prog.info? 3 = some i) (h3:i.zero = some z) (h4:i.size = 1) (h5:i.bytes = 8)
  (v:Value) (k:Nat) (xs:List Value) (hown:W.ownsRow base 3 1 v k xs) (ad:Addr) (news:List Value) (hn:news.length = 1*1)
  (hc:∀ j u,news[j]? = some u→W.cell? (ad.add j) = some u) (h1c:∀ u∈news,u.oneCell' = true) (hk:k≤1000000000) (v' : Value) (w' : World)
  (hrun:(Builtin.append_ #[52,52] ty #[v,.slice (some ad) 1 1]).run Tryz.prog W = .ok v' w'):v'.ownBlock = v.ownBlock∨v'.ownBlock = some W.heap.size:=by
 rcases hown.2 with ⟨rfl,rfl⟩ | ⟨g,cap,cur,rfl,hbg,hg,hnc,hcm,hcs,htake⟩
 ·have hr:=run_append_nil (P:=Tryz.prog) W 52 ty 3 i z Tryz.underlying52 h2 h3 ad 1 1 news (by rw [h4];exact hn) hc (by omega) (by omega) (by rw [h5];omega)
  rw [hr] at hrun
  cases hrun
  exact .inr rfl
 ·by_cases hroom:k+1≤cap
  ·have hr:=run_append_room (P:=Tryz.prog) W 52 ty 3 i Tryz.underlying52 h2 g k cap cur hg ad 1 1 news (by rw [h4];exact hn) hc h1c hroom (by rw [h4,hcs];omega)
   rw [hr] at hrun
   cases hrun
   exact .inl rfl
  ·have holds:∀ j u,xs[j]? = some u→W.cell? ((⟨g,0,none⟩:Addr).add j) = some u:=hown.cells (g:=g) rfl
   have hr:=run_append_grow (P:=Tryz.prog) W 52 ty 3 i z Tryz.underlying52 h2 h3 ⟨g,0,none⟩ k cap xs (by rw [h4];exact hown.1) holds ad 1 1 news (by rw [h4];exact hn) hc (by omega) (by omega) (growslice_fits (by omega) (by rw [h5];omega))
   rw [hr] at hrun
   cases hrun
   exact .inr rfl
theorem QBO {F:Fence} {n:Nat} (w:World) {ops:Array Oper} {QBd:List Oper} {o:Oper} {a:Act} {Q:Exit→Act→World→Prop}
  (hg:o.guard = none) (s x:Operand) (hop:o.op = Op.call { callee:=Callee.builtin Builtin.append,args:=#[s,x],argTypes:=#[52,52] })
  (base:Nat) (v:Value) (k:Nat) (xs:List Value) (hs:a.eval s = v) (hown:w.ownsRow base 3 1 v k xs) (ad:Addr) (news:List Value) (hx:a.eval x = .slice (some ad) 1 1) (hn:news.length = 1*1)
  (hc:∀ j u,news[j]? = some u→w.cell? (ad.add j) = some u) (h1c:∀ u∈news,u.oneCell' = true) (hk:k≤1000000000) (b3:base≤w.heap.size)
  (hK:∀ v' w',w'.ownsRow base 3 1 v' (k+1) (xs ++ news)→w.grownBy w' v.ownBlock→(v'.ownBlock = v.ownBlock∨v'.ownBlock = some w.heap.size)→wpListIn F n Tryz.prog ops Q QBd (a.put o.dst v') w') :
  wpListIn F n Tryz.prog ops Q (o :: QBd) a w:=by
 obtain ⟨i,h2,h3,h4,h5⟩:=info_parts QEg
 refine wpListIn_plain hg fun K hK'=>?_
 obtain ⟨v',w',hrun,r1,r2,_⟩:=run_append_own (P:=Tryz.prog) w base 52 o.type 3 i _ 1 8 Tryz.underlying52 h2 h3 h4 h5 rfl (by decide) v k xs hown ad 1 1 news hn hc h1c (by unfold maxLen;omega) (by omega) b3
 have r3:=QMZ h2 h3 h4 h5 v k xs hown ad news hn hc h1c hk v' w' hrun
 unfold Oper.wpIn
 refine ⟨?_,?_⟩
 ·simp [Oper.about,hop,resolve,Target.leads,Sem.run_pure]
 ·rw [Oper.semAt_plain F _ _ (by rw [hop];intro c hc';cases hc')]
  simp [execOp,hop,resolve,invoke,builtin,hs,hx,hrun,Result.andThen]
  exact hK' _ _ (hK v' w' r1 r2 r3)
def QCv (B:Nat) (W:World):Option Nat:=(W.cell? ⟨B,0,none⟩).bind Value.ownBlock
theorem QAM {W:World} {B:Nat} {T:TypeId} {v:Value} (h:Boxed W B T v):QCv B W = v.ownBlock:=by unfold QCv;rw [h.cell];rfl
theorem QCT {B:Nat} {X Y:World} (h:Y.heap[B]? = X.heap[B]?):QCv B Y = QCv B X:=by unfold QCv;rw [cell_same' h]
theorem lt_of_heap {W:World} {k:Nat} {o:Obj} (h:W.heap[k]? = some o):k < W.heap.size:=(Array.getElem?_eq_some_iff.1 h).1
theorem QBA (W:World) (g k i:Nat) (v:Value) (h:k≠g):(W.setCell ⟨g,i,none⟩ v).heap[k]? = W.heap[k]?:=Below.heap_setCell W ⟨g,i,none⟩ v k h
theorem QAq (W:World) (o:Obj) (k:Nat) (h:k < W.heap.size):(W.alloc o).heap[k]? = W.heap[k]?:=((Below.refl W.heap.size W).alloc (Nat.le_refl _) o).block k h
theorem QCo {M:Nat→Prop} {B N:Nat} (hB:B < N) (W:World) (l:Nat) (o o' : Obj) (hl:N≤l) (h:W.heap[l]? = some o) (hc:o.isCells = false):KeepM M (QCv B) N W (W.putObj l o'):=by
 have hg:=grownBy_putObj' W l o'
 have hll:=lt_of_heap h
 refine ⟨hg.size,fun k hk _ _ hh=>hg.block k hk (fun e=>?_),fun k hk=>?_⟩
 ·cases e
  rcases hh with h1 | ⟨o2,h1,h2⟩
  ·omega
  ·rw [h] at h1;cases h1;rw [hc] at h2;cases h2
 ·rw [QCT (hg.block B (by omega) (fun e=>by cases e;omega))] at hk
  exact .inl hk
theorem QJL {e:TypeId} {sz:Nat} {X Y:World} {row:Option Nat} {N base k:Nat} {v:Value} {xs:List Value} (h:X.ownsRow base e sz v k xs) (hg:X.grownBy Y row) (hr:∀ r,row = some r→N≤r∧∃ o:Obj,X.heap[r]? = some o∧o.isCells = false):Y.ownsRow base e sz v k xs:=by
 refine h.kept hg ?_
 rcases h.2 with ⟨rfl,_⟩ | ⟨g,cap,cur,rfl,_,hgb,_⟩
 ·exact .inl rfl
 ·refine .inr fun e'=>?_
  obtain ⟨_,o,ho,hc⟩:=hr g (by simpa [Value.ownBlock] using e'.symm)
  rw [hgb] at ho;cases ho;cases hc
theorem grown_trans' {w W W' : World} {r:Option Nat} {l:Nat} (h:w.grownBy W r) (k:W.grownBy W' (some l)) (hl:w.heap.size≤l):w.grownBy W' r :=
 ⟨k.os.trans h.os,k.tape.trans h.tape,k.output.trans h.output,Nat.le_trans h.size k.size,fun i hi hr=>(k.block i (Nat.lt_of_lt_of_le hi h.size) (fun e=>by cases e;omega)).trans (h.block i hi hr)⟩
def QL2 (w:World) (v v' : Value):Prop:=v'.ownBlock = v.ownBlock∨∃ r,v'.ownBlock = some r∧w.heap.size≤r
def QKv (base k:Nat) (v:Value) (xs news:List Value) (w:World) (e:Ending) (w' : World):Prop :=
 ∃ v',e = .returned v'∧w'.ownsRow base 3 1 v' (k+news.length) (xs ++ news)∧w.grownBy w' v.ownBlock∧QL2 w v v'
def QGv (p:Int):Value:=.int .i64 p
def AInv {x:Ex} (w:World) (base k:Nat) (v:Value) (xs:List Value) (pre:List (QBY x)) (W:World):Prop :=
 (∃ v',Boxed W w.heap.size 52 v'∧W.ownsRow base 3 1 v' (k+pre.length) (xs ++ pre.map fun p=>QGv p.1)∧QL2 w v v')∧w.grownBy W v.ownBlock∧w.heap.size+1≤W.heap.size
theorem QIq {x:Ex} (w:World) (base k:Nat) (v:Value) (xs:List Value):OwnFrom (w.heap.size+1) (AInv (x:=x) w base k v xs):=by
 rintro s X Y row ⟨⟨v',hv,hr,hs⟩,hg0,hN⟩ hg hrow
 have hne:∀ b,b < w.heap.size+1→some b≠row:=fun b hb e=>by have:=(hrow b e.symm).1;omega
 refine ⟨⟨v',hv.kept hg (hne _ (Nat.lt_succ_self _)),QJL hr hg hrow,hs⟩,⟨hg.os.trans hg0.os,hg.tape.trans hg0.tape,hg.output.trans hg0.output,Nat.le_trans hg0.size hg.size,fun i hi hr=>(hg.block i (Nat.lt_of_lt_of_le hi hg0.size) (hne _ (by omega))).trans (hg0.block i hi hr)⟩,Nat.le_trans hN hg.size⟩
def QEp (l:List Int) (w:World) (e:Ending) (w' : World):Prop:=∃ v,e = .returned v∧w'.ownsRow w.heap.size 3 1 v l.length (l.map QGv)∧Below w.heap.size w w'
theorem QF3 {w w' : World} (h:w.grownBy w' none):Below w.heap.size w w':=⟨h.os,h.tape,h.output,h.size,fun k hk=>h.block k hk (fun e=>by cases e)⟩
theorem QNy {w:World} {base base' : Nat} {e:TypeId} {sz n:Nat} {v:Value} {xs:List Value} (h:w.ownsRow base e sz v n xs) (hb:base'≤base):w.ownsRow base' e sz v n xs:=by
 refine ⟨h.1,?_⟩
 rcases h.2 with h2 | ⟨g,cap,cur,rfl,h3,h4⟩
 ·exact .inl h2
 ·exact .inr ⟨g,cap,cur,rfl,Nat.le_trans hb h3,h4⟩
def exV (x:Ex) (s:Value):Value:=.agg (QA4 x s)
theorem QNF (w:World) (x:Ex) (s:Value):(w.alloc (.cells (QA4 x s) 54)).heap[w.heap.size]? = some (.cells (QA4 x s) 54 (0,0)):=World.alloc_heap_new w _
end
section
open Go.Lib (hid)
set_option maxHeartbeats 4000000
open Go.RowKit
theorem QDx (w:World) {ops:Array Oper} {QBd:List Oper} {o:Oper} {a:Act} {Q:Exit→Act→World→Prop}
  (hg:o.guard = none) (s x:Operand) (hop:o.op = Op.call { callee:=Callee.builtin Builtin.append,args:=#[s,x],argTypes:=#[52,52] })
  (base:Nat) (v:Value) (k:Nat) (xs:List Value) (hs:a.eval s = v) (hown:w.ownsRow base 3 1 v k xs) (oa:Option Addr) (m cap b off:Nat) (hx:a.eval x = .slice oa m cap) (hcap:QMu oa cap) (ho:0 < m→oa = some ⟨b,off,none⟩)
  (l:List Int) (hl:l.length = m) (hc:∀ j,j < m→w.cell? ⟨b,off+j,none⟩ = some (.int .i64 (l.getD j 0))) (hk:k+m≤1000000000) (b3:base≤w.heap.size)
  (hK:∀ v' w',w'.ownsRow base 3 1 v' (k+m) (xs ++ l.map QGv)→w.grownBy w' v.ownBlock→wpList Tryz.prog ops Q QBd (a.put o.dst v') w') :
  wpList Tryz.prog ops Q (o :: QBd) a w:=by
 obtain ⟨i,h2,h3,h4,h5⟩:=info_parts QEg
 cases oa with
 | none =>
  obtain rfl:m = 0:=by rcases Nat.eq_zero_or_pos m with h | h;exact h;exact absurd (ho h) (by simp)
  obtain rfl:cap = 0:=hcap.2 rfl
  refine wpList_append_own_none hg s x 52 hop base 3 i 1 Tryz.underlying52 h2 v k xs hs hown hx (hK _ _ ?_ ⟨rfl,rfl,rfl,Nat.le_refl _,fun _ _ _=>rfl⟩)
  obtain rfl:l = []:=List.eq_nil_of_length_eq_zero hl
  simpa using hown
 | some ad =>
  refine wpList_append_own _ hg s x 52 hop base 3 i _ 1 8 Tryz.underlying52 h2 h3 h4 h5 rfl (by decide) v k xs hs hown ad m cap (l.map QGv) hx (by rw [List.length_map,hl,Nat.mul_one]) ?_ ?_ (by unfold maxLen;omega) (by omega) b3 (fun v' w' r1 r2 _=>hK v' w' r1 r2)
  ·intro j u hj
   rw [List.getElem?_map,Option.map_eq_some_iff] at hj
   obtain ⟨z,hz,rfl⟩:=hj
   have hjl:=(List.getElem?_eq_some_iff.1 hz).1
   obtain rfl:ad = ⟨b,off,none⟩:=Option.some.inj (ho (by omega))
   have:=hc j (by omega)
   rw [List.getD_eq_getElem?_getD,hz] at this
   rw [show (⟨b,off,none⟩:Addr).add j = ⟨b,off+j,none⟩ by unfold Addr.add;split <;> simp_all,this]
   rfl
  ·intro u hu
   obtain ⟨z,_,rfl⟩:=List.mem_map.1 hu
   rfl
theorem QLN (W:World) (B base:Nat) (hB:W.heap[B]? = some (.cells #[] 3 (0,0))) (hb:base≤B):W.ownsRow base 3 1 (.slice (some ⟨B,0,none⟩) 0 0) 0 [] :=
 ⟨rfl,.inr ⟨B,0,#[],rfl,hb,hB,Nat.le_refl _,by unfold maxLen;omega,rfl,rfl⟩⟩
theorem QHI (w:World) (o o' : Obj):((w.alloc o).alloc o').heap[w.heap.size+1]? = some o':=by have:=World.alloc_heap_new (w.alloc o) o';rwa [World.size_alloc] at this
theorem Below.alloc2 (w:World) (o o' : Obj):Below w.heap.size w ((w.alloc o).alloc o'):=((Below.refl _ _).alloc (Nat.le_refl _) _).alloc (by simp) _
theorem QGk (x:Ex) (hk:x.kind = 19) (o:Option Addr) (cap b off n:Nat) (hn:Hid (x.args.length = n)) (nl:n≤1000) (hcap:Hid (QMu o cap)) (ho:Hid (0 < n→o = some ⟨b,off,none⟩)) (w:World) (hc:Hid (∀ j,j < n→w.cell? ⟨b,off+j,none⟩ = some (.int .i64 (x.args.getD j 0)))) :
  Calls Tryz.prog 51 #[.agg #[.int .i64 x.kind,.int .i64 x.a,.int .i64 x.b,.int .i64 x.c,.string x.name,.string x.state,.int .i64 x.v,.slice o n cap,.int .i64 x.pos]] w fun e w'=>QEp (QAB x) w e w':=by
 have hpl:=hid (QCq hk)
 have hm:QIM x.kind = -1:=by unfold QIM;rw [if_pos hk]
 rw [hk] at hm ⊢
 have HM:=hid hm
 clear hm hk
 go_enter Tryz.func51,Tryz.ntmps51
 go_wp2_with (first | (go_at_call 79;((with_reducible refine (QJ7 _ _).mono ?_);rintro e w1 ⟨rfl,rfl⟩;rw [HM.out])) | (at_builtin;refine QDx _ rfl _ _ rfl w.heap.size (.slice (some ⟨w.heap.size+1,0,none⟩) 0 0) 0 [] rfl (QLN _ _ _ (QHI _ _ _) (by omega)) o n cap b off rfl hcap.out ho.out x.args hn.out (fun j hj=>QA1 (Below.alloc2 _ _ _) (hc.out j hj)) (by omega) (by simp;omega) ?_;intro v' w2 hown hg;have H1:=hid hown;have H2:=hid hg;clear hown hg))
 go_ret
 refine ⟨_,rfl,?_,?_⟩
 ·rw [hpl.out,hn.out]
  have:=H1.out
  rwa [Nat.zero_add,List.nil_append] at this
 ·refine ⟨H2.out.os,H2.out.tape,H2.out.output,Nat.le_trans (by simp;omega) H2.out.size,fun k hk=>(H2.out.block k (by simp;omega) (fun e=>by simp [Value.ownBlock] at e;omega)).trans ((Below.alloc2 w _ _).block k hk)⟩
theorem QHf (x:Ex) (hk:¬ x.kind = 19) (s:Value) (w:World) :
  Calls Tryz.prog 51 #[.agg #[.int .i64 x.kind,.int .i64 x.a,.int .i64 x.b,.int .i64 x.c,.string x.name,.string x.state,.int .i64 x.v,s,.int .i64 x.pos]] w fun e w'=>QEp (QAB x) w e w':=by
 have hpl:=hid (QE8 hk)
 have hln:=hid (QE9 hk)
 have hmn:=QBk x.kind
 obtain ⟨m,hm⟩:∃ m,m = QAL x.kind:=⟨_,rfl⟩
 have hm2:QIM x.kind = (m:Int):=by unfold QIM;rw [if_neg hk,hm]
 have HM:=hid hm2
 rw [← hm] at hmn hpl hln
 clear hm2 hk hm
 have q0:(m:Int)≤3:=by omega
 go_enter Tryz.func51,Tryz.ntmps51
 go_wp2_with (first | (go_at_call 79;((with_reducible refine (QJ7 _ _).mono ?_);rintro e w1 ⟨rfl,rfl⟩;rw [HM.out])))
 go_ret
 refine ⟨_,rfl,?_,Below.alloc2 _ _ _⟩
 rw [hln.out]
 refine ⟨by rw [List.length_map,hln.out,Nat.mul_one],.inr ⟨w.heap.size+1,3,#[.int .i64 x.a,.int .i64 x.b,.int .i64 x.c],rfl,by omega,QHI _ _ _,by omega,by unfold maxLen;omega,rfl,?_⟩⟩
 rw [hpl.out,Nat.mul_one,List.map_take]
 rfl
theorem QHg (x:Ex) (s:Value) (w:World) (ha:IntsAt w s x.args) (hp:(QAB x).length≤1000):Calls Tryz.prog 51 #[exV x s] w fun e w'=>QEp (QAB x) w e w':=by
 by_cases h19:x.kind = 19
 ·obtain ⟨o,cap,b,off,rfl,h1,h2,h3,h4⟩:=ha
  exact QGk x h19 o cap b off _ (hid rfl) (by rw [QCq h19] at hp;exact hp) (hid h2) (hid h3) w (hid fun j hj=>by have:=h4 j hj;rwa [Nat.mul_one] at this)
 ·exact QHf x h19 s w
end
section
open Go.RowKit Go.Shelf
attribute [local go_sem] Oper.semAt_some
def QAx (i:Nat) (p:Int):Bool:=decide (0≤p) && decide (p < (i:Int))
def QHj (x:Ex):Bool:=(QBP x.kind == decide (x.name.size≠0)) && (decide (x.kind = 20) == decide (x.state.size≠0)) && (decide (x.kind = 19) || decide (x.args.length = 0)) && decide (0≤x.v) && decide (x.v≤mostV x.kind)
theorem QM4 {x:Ex} {i:Nat} (h:¬ (1≤x.kind∧x.kind≤21)):QCJ x i = false:=by
 unfold QCJ
 by_cases h1:1≤x.kind
 ·rw [decide_eq_false (show ¬ x.kind≤21 by omega)];simp
 ·rw [decide_eq_false h1];simp
theorem QCQ {x:Ex} {i:Nat} {p:Int} (hp:p∈QAB x) (h:QAx i p = false):QCJ x i = false:=by
 have:(QAB x).all (fun p=>decide (0≤p) && decide (p < (i:Int))) = false:=by
  rw [List.all_eq_false];exact ⟨p,hp,by unfold QAx at h;simpa using h⟩
 unfold QCJ;rw [this];simp
theorem QDj {x:Ex} {i:Nat} {p:Int} (hp:p∈[x.a,x.b,x.c].drop (QAL x.kind)) (h:p≠0):QCJ x i = false:=by
 have:([x.a,x.b,x.c].drop (QAL x.kind)).all (fun p=>decide (p = 0)) = false:=by
  rw [List.all_eq_false];exact ⟨p,hp,by simpa using h⟩
 unfold QCJ;rw [this];simp
theorem QDi {x:Ex} {i:Nat} (h:1≤x.kind∧x.kind≤21) (hp:∀ p∈QAB x,QAx i p = true) (hr:∀ p∈[x.a,x.b,x.c].drop (QAL x.kind),p = 0):QCJ x i = QHj x:=by
 have h1:(QAB x).all (fun p=>decide (0≤p) && decide (p < (i:Int))) = true:=by rw [List.all_eq_true];exact hp
 have h2:([x.a,x.b,x.c].drop (QAL x.kind)).all (fun p=>decide (p = 0)) = true:=by rw [List.all_eq_true];intro p hpm;exact decide_eq_true (hr p hpm)
 unfold QCJ QHj
 rw [h1,h2,decide_eq_true h.1,decide_eq_true h.2];simp
def QMy (x:Ex) (s:Value) (i:Nat) (w:World) (pre:List (QBY x)) (W:World):Prop :=
 (W.heap[w.heap.size]? = some (.cells (QA4 x s) 54 (0,0))∧W.heap[w.heap.size+1]? = some (.cells #[.int .i64 (i:Int)] 3 (0,0))∧W.heap[w.heap.size+2]? = some (.cells #[.bool false] 4 (0,0))) ∧
 (∀ p∈pre,QAx i p.1 = true)∧Below w.heap.size w W∧w.heap.size+4≤W.heap.size
def QGH (x:Ex) (i:Nat) (w:World) (c:Code) (pre:List (QBY x)) (W:World):Prop :=
 c = .ret∧W.heap[w.heap.size+2]? = some (.cells #[.bool false] 4 (0,0))∧(∃ p∈pre,QAx i p.1 = false)∧Below w.heap.size w W∧w.heap.size+4≤W.heap.size
theorem QEk (x:Ex) (s:Value) (i:Nat) (w:World):OwnFrom (w.heap.size+4) (QMy x s i w):=by
 rintro pre X Y row ⟨⟨h1,h2,h3⟩,h4,h5,h6⟩ hg hrow
 have hne:∀ b,b < w.heap.size+4→some b≠row:=fun b hb e=>by have:=(hrow b e.symm).1;omega
 exact ⟨⟨(hg.block _ (lt_of_heap h1) (hne _ (by omega))).trans h1,(hg.block _ (lt_of_heap h2) (hne _ (by omega))).trans h2,(hg.block _ (lt_of_heap h3) (hne _ (by omega))).trans h3⟩,h4,
  h5.grown hg h5.size (fun k e=>by have:=(hrow k e).1;omega),Nat.le_trans h6 hg.size⟩
theorem QDl (x:Ex) (i:Nat) (w:World) (c:Code):OwnFrom (w.heap.size+4) (QGH x i w c):=by
 rintro pre X Y row ⟨hc,h3,h4,h5,h6⟩ hg hrow
 have hne:∀ b,b < w.heap.size+4→some b≠row:=fun b hb e=>by have:=(hrow b e.symm).1;omega
 exact ⟨hc,(hg.block _ (lt_of_heap h3) (hne _ (by omega))).trans h3,h4,h5.grown hg h5.size (fun k e=>by have:=(hrow k e).1;omega),Nat.le_trans h6 hg.size⟩
def QBa (r:Bool) (w:World) (e:Ending) (w' : World):Prop:=e = .returned (.bool r)∧Below w.heap.size w w'
theorem QD1 {M:Nat→Prop} {N:Nat} (W:World) (l:Nat) (o o' : Obj) (hl:N≤l) (h:W.heap[l]? = some o) (hc:o.isCells = false):KeepM M (fun _=>none) N W (W.putObj l o'):=by
 have hg:=grownBy_putObj' W l o'
 refine ⟨hg.size,fun k hk _ _ hh=>hg.block k hk (fun e=>?_),fun k hk=>by cases hk⟩
 cases e
 rcases hh with h1 | ⟨o2,h1,h2⟩
 ·omega
 ·rw [h] at h1;cases h1;rw [hc] at h2;cases h2
theorem QKG (x:Ex) (s:Value) (i:Nat) (h:¬ (1≤x.kind∧x.kind≤21)) (w:World) :
  Calls Tryz.prog 80 #[exV x s,.int .i64 (i:Int)] w fun e w'=>QBa (QCJ x i) w e w':=by
 rw [QM4 h]
 unfold exV QA4
 by_cases h1:x.kind < 1
 ·have q:decide (x.kind < 1) = true:=decide_eq_true h1
  go_enter Tryz.func80,Tryz.ntmps80
  go_wp2_with fail
  refine bodyPost_ret (v:=.bool false) (by simp [results,Tryz.results80,go_sem]) rfl ⟨rfl,?_⟩
  exact (((Below.refl _ _).alloc (Nat.le_refl _) _).alloc (by simp) _).alloc (by simp;omega) _
 ·have q:decide (x.kind < 1) = false:=decide_eq_false h1
  have q2:decide (21 < x.kind) = true:=decide_eq_true (by omega)
  go_enter Tryz.func80,Tryz.ntmps80
  go_wp2_with fail
  refine bodyPost_ret (v:=.bool false) (by simp [results,Tryz.results80,go_sem]) rfl ⟨rfl,?_⟩
  exact (((Below.refl _ _).alloc (Nat.le_refl _) _).alloc (by simp) _).alloc (by simp;omega) _
theorem set_heap {W:World} {g:Nat} {cs:Array Value} {T:TypeId} {fr:Nat × Nat} (h:W.heap[g]? = some (.cells cs T fr)) (i:Nat) (v:Value):(W.setCell ⟨g,i,none⟩ v).heap[g]? = some (.cells (cs.setIfInBounds i v) T fr):=by
 obtain ⟨hlt,hk⟩:=Array.getElem?_eq_some_iff.1 h
 show (W.heap.modify g _)[g]? = _
 rw [Array.getElem?_eq_getElem (by rw [Array.size_modify];exact hlt),Array.getElem_modify_self,hk]
 rfl
theorem four (w:World) (o1 o2 o3 o4:Obj):let W:=(((w.alloc o1).alloc o2).alloc o3).alloc o4
  W.heap[w.heap.size]? = some o1∧W.heap[w.heap.size+1]? = some o2∧W.heap[w.heap.size+2]? = some o3∧W.heap[w.heap.size+3]? = some o4∧Below w.heap.size w W∧W.heap.size = w.heap.size+4:=by
 have z1:(w.alloc o1).heap.size = w.heap.size+1:=World.size_alloc _ _
 have z2:((w.alloc o1).alloc o2).heap.size = w.heap.size+2:=by rw [World.size_alloc,z1]
 have z3:(((w.alloc o1).alloc o2).alloc o3).heap.size = w.heap.size+3:=by rw [World.size_alloc,z2]
 have a1:=World.alloc_heap_new w o1
 have a2:=World.alloc_heap_new (w.alloc o1) o2
 have a3:=World.alloc_heap_new ((w.alloc o1).alloc o2) o3
 have a4:=World.alloc_heap_new (((w.alloc o1).alloc o2).alloc o3) o4
 rw [z1] at a2
 rw [z2] at a3
 rw [z3] at a4
 refine ⟨?_,?_,?_,a4,(((((Below.refl _ w).alloc (Nat.le_refl _) o1).alloc (by omega) o2).alloc (by omega) o3).alloc (by omega) o4),by rw [World.size_alloc,z3]⟩
 ·rw [QAq _ _ _ (by omega),QAq _ _ _ (by omega),QAq _ _ _ (by omega),a1]
 ·rw [QAq _ _ _ (by omega),QAq _ _ _ (by omega),a2]
 ·rw [QAq _ _ _ (by omega),a3]
theorem QCL {P:Program} {ops:Array Oper} {w:World} {Q:Act→Prop}:∀ (l:List Oper) (a:Act),wpQuiet P ops (fun w'=>w' = w) Q l a→wpStill P ops w Q l a
 | [],_,h=>h
 | o :: QBd,a,h=>by
  unfold wpQuiet at h
  unfold wpStill
  by_cases hw:Region.wanted o (yielded ops a.tmps) = true
  ·rw [if_pos hw] at h ⊢
   obtain ⟨v,h1,h2⟩:=h
   have h3:=h1 w rfl
   have h4:=QCL QBd _ h2
   unfold Oper.quietAt at h3
   unfold Oper.still
   revert h3
   generalize (execOp a.eval o).run P w = r
   intro h3
   match r,h3 with
   | .ok (.value u) w',⟨e1,e2⟩=>exact ⟨e1,by rw [e2];exact h4⟩
   | .ok .skip w',⟨e1,e2⟩=>exact ⟨e1,by rw [← e2];exact h4⟩
   | .ok (.enter f args) w',⟨e1,e2⟩=>exact ⟨e1,v,e2,h4⟩
  ·rw [if_neg hw] at h ⊢
   exact QCL QBd _ h
theorem QAD {id:Nat} {P:Program} {Q:Exit→Act→World→Prop} {a:Act} {w:World} {l:List Oper} (n:Nat) (hm:P.follows .mixedOrders = true) (hB:Region.lexTailB .any l.toArray n = true)
  (h:wpQuiet P l.toArray (fun w'=>w' = w.drew) (fun a'=>wpList P l.toArray Q (l.drop n) a' w.drew) (l.take n) a):(Code.region id l.toArray true).wp P Q a w:=wp_region_still_tail n hm hB (QCL _ _ h)
theorem QEd {l:List Int} {m j:Nat} (h:m+j < l.length):l.getD (m+j) 0∈l.drop m:=by
 rw [List.getD_eq_getElem?_getD,List.getElem?_eq_getElem h]
 exact List.mem_iff_getElem.2 ⟨j,by rw [List.length_drop];omega,by rw [List.getElem_drop];rfl⟩
def QGz (x:Ex) (i:Nat) (w:World) (D:Nat) (W:World) (b:Bool):Prop:=∀ n:Nat,
 ((((W.setCell ⟨w.heap.size+1+1,0,none⟩ (.bool b)).alloc (.cells #[.int .i64 x.a,.int .i64 x.b,.int .i64 x.c] 160)).drewN n).putObj D (.deferred none)).cell? ⟨w.heap.size+1+1,0,none⟩ = some (.bool b) ∧
 (((W.setCell ⟨w.heap.size+1+1,0,none⟩ (.bool b)).alloc (.cells #[.int .i64 x.a,.int .i64 x.b,.int .i64 x.c] 160)).drewN n).heap[D]? = some (.deferred (some [])) ∧
 QBa (QCJ x i) w (.returned (.bool b)) ((((W.setCell ⟨w.heap.size+1+1,0,none⟩ (.bool b)).alloc (.cells #[.int .i64 x.a,.int .i64 x.b,.int .i64 x.c] 160)).drewN n).putObj D (.deferred none))
theorem QGa (x:Ex) (i:Nat) (w:World) (D:Nat) (W:World) (b:Bool) (hb1:b = QCJ x i) (hb:Below w.heap.size w W) (hD:w.heap.size+4≤D) (m3:W.heap[w.heap.size+2]? = some (.cells #[.bool false] 4 (0,0))) (hK:W.heap[D]? = some (.deferred (some []))):QGz x i w D W b:=by
 intro n
 have e3:=set_heap m3 0 (.bool b)
 have e4:(W.setCell ⟨w.heap.size+1+1,0,none⟩ (.bool b)).heap[D]? = some (.deferred (some [])):=(QBA W (w.heap.size+2) D 0 (.bool b) (by omega)).trans hK
 have e5:((W.setCell ⟨w.heap.size+1+1,0,none⟩ (.bool b)).alloc (.cells #[.int .i64 x.a,.int .i64 x.b,.int .i64 x.c] 160)).heap[w.heap.size+2]? = _:=(QAq _ _ _ (lt_of_heap e3)).trans e3
 have e6:(((W.setCell ⟨w.heap.size+1+1,0,none⟩ (.bool b)).alloc (.cells #[.int .i64 x.a,.int .i64 x.b,.int .i64 x.c] 160)).drewN n).heap[D]? = _:=(QAq _ _ _ (lt_of_heap e4)).trans e4
 have e7:((((W.setCell ⟨w.heap.size+1+1,0,none⟩ (.bool b)).alloc (.cells #[.int .i64 x.a,.int .i64 x.b,.int .i64 x.c] 160)).drewN n).putObj D (.deferred none)).heap[w.heap.size+2]? = _:=(World.putObj_heap_other (by omega)).trans e5
 refine ⟨by simp [World.cell?,e7],e6,by rw [← hb1],?_⟩
 have h2:=hb.setCell (p:=⟨w.heap.size+1+1,0,none⟩) (Nat.le_trans (Nat.le_succ _) (Nat.le_succ _)) (.bool b)
 have h3:=QAE (h2.alloc h2.size (.cells #[.int .i64 x.a,.int .i64 x.b,.int .i64 x.c] 160)) n
 exact h3.trans (belowK_b (w:=w) (Nat.le_refl _) _ D _ _ (by omega) e6 rfl rfl)
theorem QFs (s:ByteArray):s.toList.isEmpty = decide (s.size = 0):=by
 rw [Lib.toList_data,Bool.eq_iff_iff,List.isEmpty_iff,decide_eq_true_eq]
 constructor
 ·intro h;show s.data.size = 0;rw [← Array.length_toList,h];rfl
 ·intro h;exact List.eq_nil_of_length_eq_zero (by rw [Array.length_toList];exact h)
theorem QB0 (x:Ex) (nb Kk Kj ne se ae:Bool) (h1:QBP x.kind = nb) (h2:(x.kind == 20) = Kk) (h3:(x.kind == 19) = Kj) (h4:x.name.toList.isEmpty = !ne) (h5:x.state.toList.isEmpty = !se) (h6:decide (x.args.length = 0) = ae) :
  QHj x = ((nb == ne) && (Kk == se) && (Kj || ae) && decide (0≤x.v) && decide (x.v≤mostV x.kind)):=by
 have e4:decide (x.name.size≠0) = ne:=by
  rw [QFs] at h4
  rw [show decide (x.name.size≠0) = !decide (x.name.size = 0) from by simp,h4];simp
 have e5:decide (x.state.size≠0) = se:=by
  rw [QFs] at h5
  rw [show decide (x.state.size≠0) = !decide (x.state.size = 0) from by simp,h5];simp
 have e2:decide (x.kind = 20) = Kk:=by rw [← h2];rfl
 have e3:decide (x.kind = 19) = Kj:=by rw [← h3];rfl
 unfold QHj
 rw [h1,e2,e3,e4,e5,h6]
end
section
open Go.Lib (hid)
open Go.RowKit Go.Shelf
attribute [local go_sem] Oper.semAt_some
set_option maxHeartbeats 8000000 in
set_option maxRecDepth 100000 in
theorem QNk (x:Ex) (s:Value) (i:Nat) (q1:decide (x.kind < 1) = false) (q2:decide (21 < x.kind) = false) (w:World) (ha:Hid (IntsAt w s x.args)) (hk:Hid (ExOk x)) (o:Option Addr) (na cap:Nat) (hs:Hid (s = .slice o na cap)) (hna:Hid (x.args.length = na)) (t3:Hid ((x.kind == 3) = true)) (t19:Hid ((x.kind == 19) = false)) (t20:Hid ((x.kind == 20) = false)) :
  CallsIn Fence.wide 5 Tryz.prog 80 #[exV x s,.int .i64 (i:Int)] w fun e w'=>QBa (QCJ x i) w e w':=by
 unfold exV
 have hkk:1≤x.kind∧x.kind≤21:=⟨by have:=of_decide_eq_false q1;omega,by have:=of_decide_eq_false q2;omega⟩
 have HKK:=hid hkk
 clear hkk
 unfold QA4
 refine callsIn_of_wp_marks Tryz.func80 rfl trivial ?_ rfl
 simp only [Tryz.ntmps80,List.size_toArray,List.length_cons,List.length_nil,Nat.reduceAdd,Nat.reduceSub,Array.replicate_succ,Array.replicate_zero,List.push_toArray,List.append_toArray,List.nil_append,List.cons_append]
 gi_wp2_with (refine ⟨trivial,?_⟩;gi_at_call 92;((with_reducible refine (callsIn_wide.2 (QCr _ _ _ _ _ _ _ _ _ _)).mono ?_);rintro e w2 ⟨rfl,rfl⟩))
 obtain ⟨f1,f2,f3,f4,fb,fz⟩:=four w (.cells (QA4 x s) 54) (.cells #[.int .i64 (i:Int)] 3) (.cells #[.bool false] 4) (.cells (QA4 x s) 54)
 unfold QA4 at f1 f2 f3 f4 fb fz
 have FZ:=hid fz
 have hAr:Hid (Around (fun j=>j = w.heap.size+2) (fun _=>none) ((((w.alloc (.cells (QA4 x s) 54)).alloc (.cells #[.int .i64 (i:Int)] 3)).alloc (.cells #[.bool false] 4)).alloc (.cells (QA4 x s) 54))) :=
  hid ⟨fun j hj=>by subst hj;unfold QA4;rw [fz];omega,fun j hj=>(by cases hj),fun W hW=>rfl⟩
 have hSr:Hid (QL4 ((((w.alloc (.cells (QA4 x s) 54)).alloc (.cells #[.int .i64 (i:Int)] 3)).alloc (.cells #[.bool false] 4)).alloc (.cells (QA4 x s) 54)) x (w.heap.size+1+1+1) (fun j=>j = w.heap.size+2∨(none:Option Nat) = some j)) :=
  hid (QFT ha.out hk.out fb f4 (fun k hk=>by rcases hk with rfl | h;omega;cases h) (fun h=>by rcases h with h | h;omega;cases h))
 have hinv:Hid (QMy x s i w [] ((((w.alloc (.cells (QA4 x s) 54)).alloc (.cells #[.int .i64 (i:Int)] 3)).alloc (.cells #[.bool false] 4)).alloc (.cells (QA4 x s) 54))) :=
  hid ⟨⟨f1,f2,f3⟩,(fun p h=>by simp at h),fb,by unfold QA4;rw [fz];exact Nat.le_refl _⟩
 have hIo:=hid (QEk x s i w)
 have hLo:=hid (QDl x i w)
 unfold QA4 at hAr hSr hinv
 rw [← fz] at hIo hLo
 clear f1 f2 f3 f4 fb fz
 unfold QDq
 refine wpIn_rangeFunc_ownG (α:=QBY x) rfl (by decide) (gf:=110) (lb:=#[.pointer (some ⟨w.heap.size+1+1+1,0,none⟩)]) rfl trivial (enters_of Tryz.func110 (by kernel_rfl) rfl)
  (QBb 4 (by decide) x _ _ _ _ hAr.out hSr.out) (fun h k=>h.trans k) (fun W l o o' h1 h2 h3 _=>QD1 W l o o' h1 h2 h3) (Below.refl _ _) (fun _=>rfl)
  (QMy x s i w) (QGH x i w) hIo.out hLo.out hinv.out
  (fun p=>{ tmps:=#[.agg #[.int .i64 x.kind,.int .i64 x.a,.int .i64 x.b,.int .i64 x.c,.string x.name,.string x.state,.int .i64 x.v,s,.int .i64 x.pos],.int .i64 (i:Int),.pointer (some ⟨w.heap.size,0,none⟩),.pointer (some ⟨w.heap.size+1,0,none⟩),.pointer (some ⟨w.heap.size+1+1,0,none⟩),.int .i64 p.1,undef,undef,undef,undef,.pointer (some ⟨w.heap.size,0,none⟩),.int .i64 x.kind,.bool false,.bool false,.pointer (some ⟨w.heap.size,0,none⟩),.int .i64 x.kind,.bool false,.bool false,.agg #[.int .i64 x.kind,.int .i64 x.a,.int .i64 x.b,.int .i64 x.c,.string x.name,.string x.state,.int .i64 x.v,s,.int .i64 x.pos],.func (.func 110) #[] #[.pointer (some ⟨w.heap.size+1+1+1,0,none⟩)],.int .i64 p.1,undef,undef,undef,undef,undef,undef,undef,undef,undef,undef,undef,undef,undef,undef,undef,undef,undef,undef,undef,undef,undef,undef,undef,undef,undef,undef,undef,undef,undef,undef,undef,undef,undef,undef,undef,undef,undef,undef,undef,undef,undef,undef,undef,undef,undef,undef,undef,undef,undef,undef,undef,undef,undef,undef,undef,undef,undef,undef,undef,undef,undef,undef,undef,undef,undef,undef,undef,undef,undef,undef,undef,undef,undef,undef,undef,undef,undef],defers:=[] }) ?assign ?body ?done ?stop
 case assign =>
  rintro lp p W K hK
  gi_wp2
  exact hK
 case body =>
  rintro lp pre p W ⟨⟨m1,m2,m3⟩,hg,hb,hz⟩ hlt
  have cI:W.cell? ⟨w.heap.size+1,0,none⟩ = some (.int .i64 (i:Int)):=by simp [World.cell?,m2]
  have cR:W.cell? ⟨w.heap.size+1+1,0,none⟩ = some (.bool false):=by simp [World.cell?,m3]
  have fR:W.frozen? ⟨w.heap.size+1+1,0,none⟩ = false:=by simp [World.frozen?,m3]
  obtain ⟨p,hpm⟩:=p
  dsimp only
  have M1:=hid m1
  have M2:=hid m2
  have M3:=hid m3
  have HG:=hid hg
  have HB:=hid hb
  have HZ:=hid hz
  clear m1 m2 m3 hg hb hz hlt
  have left:QAx i p = false→QGH x i w .ret (pre ++ [⟨p,hpm⟩]) (W.setCell ⟨w.heap.size+1+1,0,none⟩ (.bool false)):=fun hp =>
   ⟨rfl,set_heap M3.out 0 _,⟨⟨p,hpm⟩,by simp,hp⟩,HB.out.setCell (p:=⟨w.heap.size+1+1,0,none⟩) (Nat.le_trans (Nat.le_succ _) (Nat.le_succ _)) _,Nat.le_trans HZ.out ((Below.refl 0 W).setCell (p:=⟨w.heap.size+1+1,0,none⟩) (Nat.zero_le _) _).size⟩
  by_cases h1:p < 0
  ·have t1:decide (p < 0) = true:=decide_eq_true h1
   gi_wp2
   exact ⟨(KeepsOthers.setCell _ _ _).from _,left (by unfold QAx;rw [decide_eq_false (show ¬ 0≤p by omega)];rfl)⟩
  ·have t1:decide (p < 0) = false:=decide_eq_false h1
   by_cases h2:(i:Int)≤p
   ·have t2:decide ((i:Int)≤p) = true:=decide_eq_true h2
    gi_wp2
    exact ⟨(KeepsOthers.setCell _ _ _).from _,left (by unfold QAx;rw [decide_eq_false (show ¬ p < (i:Int) by omega)];simp)⟩
   ·have t2:decide ((i:Int)≤p) = false:=decide_eq_false h2
    clear left
    gi_wp2
    refine ⟨(KeepsOthers.refl W).from _,⟨Nat.le_refl _,fun _ _ _ _ _=>rfl,fun _ h=>.inl h⟩,⟨M1.out,M2.out,M3.out⟩,fun y hy=>?_,HB.out,HZ.out⟩
    rcases List.mem_append.1 hy with h | h
    ·exact HG.out y h
    ·rw [List.mem_singleton] at h;subst h;unfold QAx;rw [decide_eq_true (show 0≤p by omega),decide_eq_true (show p < (i:Int) by omega)];rfl
 case done =>
  rintro D ys W hD hys ⟨⟨m1,m2,m3⟩,hg,hb,hz⟩ hK
  have d0:W.cell? ⟨w.heap.size,0,none⟩ = some (.int .i64 x.kind):=by simp [World.cell?,m1,QA4]
  have d1:W.cell? ⟨w.heap.size,1,none⟩ = some (.int .i64 x.a):=by simp [World.cell?,m1,QA4]
  have d2:W.cell? ⟨w.heap.size,2,none⟩ = some (.int .i64 x.b):=by simp [World.cell?,m1,QA4]
  have d3:W.cell? ⟨w.heap.size,3,none⟩ = some (.int .i64 x.c):=by simp [World.cell?,m1,QA4]
  have hmn:=QBk x.kind
  have hparts:Hid (∀ p∈QAB x,QAx i p = true):=hid (by
   intro p hp
   rw [← hys] at hp
   obtain ⟨y,hy,rfl⟩:=List.mem_map.1 hp
   exact hg y hy)
  obtain ⟨m,hm⟩:∃ m,m = QAL x.kind:=⟨_,rfl⟩
  obtain ⟨o3,ho3⟩:∃ o3,o3 = (if m = 3 then 0 else m):=⟨_,rfl⟩
  rw [← hm] at hmn
  have hsl:=QDB W.heap.size m hmn
  obtain ⟨r,hr⟩:∃ r,r = 3 - m:=⟨_,rfl⟩
  rw [← ho3,← hr] at hsl
  have hr3:r+m≤3:=by omega
  have hr4:3≤r+m:=by omega
  have hrl:(r:Int)≤3:=by omega
  have cR:W.cell? ⟨w.heap.size+1+1,0,none⟩ = some (.bool false):=by simp [World.cell?,m3]
  have fR:W.frozen? ⟨w.heap.size+1+1,0,none⟩ = false:=by simp [World.frozen?,m3]
  have d4:W.cell? ⟨w.heap.size,4,none⟩ = some (.string x.name):=by simp [World.cell?,m1,QA4]
  have d5:W.cell? ⟨w.heap.size,5,none⟩ = some (.string x.state):=by simp [World.cell?,m1,QA4]
  have d6:W.cell? ⟨w.heap.size,6,none⟩ = some (.int .i64 x.v):=by simp [World.cell?,m1,QA4]
  have D7:W.cell? ⟨w.heap.size,7,none⟩ = some s:=by simp [World.cell?,m1,QA4]
  have hfin:Hid (∀ b:Bool,b = QCJ x i→QGz x i w D W b):=hid fun b hb1=>QGa x i w D W b hb1 hb (by have:w.heap.size+4 = _:=rfl;rw [World.size_alloc,World.size_alloc,World.size_alloc,World.size_alloc] at hD;omega) m3 hK
  have HM:=hid hm
  have HO3:=hid ho3
  have M1:=hid m1
  have M3:=hid m3
  have HB:=hid hb
  have HZ:=hid hz
  have HK:=hid hK
  have HD:=hid hD
  have HF:Hid (∀ w',Calls Tryz.prog 108 #[.int .i64 x.kind] w' fun e w''=>e = .returned (.int .i64 (m:Int))∧w' = w''):=hid fun w'=>by rw [hm];exact QCN _ _
  have z0:w.heap.size < W.heap.size:=by omega
  have z2:w.heap.size+1+1 < W.heap.size:=by omega
  clear m1 m2 m3 hb hz hK hg hys hm ho3 hD hr
  gi_wp2_with (refine ⟨trivial,?_⟩;gi_at_call 108;((with_reducible refine (callsIn_wide.2 (HF.out _)).mono ?_);rintro e w1 ⟨rfl,rfl⟩))
  rw [hs.out] at D7
  have D7':=hid D7
  clear D7
  refine wpIn_wide.2 ?_
  go_loop [40] (fun t=>∃ j:Nat,t = .int .i64 j∧j≤r∧Hid (∀ u,u < j→[x.a,x.b,x.c].getD (m+u) 0 = 0)) (fun t=>r - QA2 t)
  case atStart=>exact ⟨0,rfl,Nat.zero_le _,hid fun u hu=>by omega⟩
  case round =>
   obtain ⟨j,rfl,hj,hz⟩:=hrel
   rcases Nat.lt_or_ge j r with hlt | hge
   ·have q3:(j:Int) < (r:Int):=by omega
    obtain ⟨z,hz1⟩:∃ z,z = [x.a,x.b,x.c].getD (m+j) 0:=⟨_,rfl⟩
    have xj:(W.alloc (.cells #[.int .i64 x.a,.int .i64 x.b,.int .i64 x.c] 160)).cell? ⟨W.heap.size,o3+j,none⟩ = some (.int .i64 z):=by
     rw [World.cell?_alloc_new,HO3.out,if_neg (by omega),hz1]
     match m+j,(show m+j < 3 by omega) with
     | 0,_=>rfl
     | 1,_=>rfl
     | 2,_=>rfl
    have HZ1:=hid hz1
    clear hz1
    by_cases hz0:z = 0
    ·subst hz0
     go_wp2_with fail
     go_round
     case rel=>exact ⟨j+1,by first | omega | go_num,by omega,hid fun u hu=>by
      rcases Nat.lt_or_ge u j with h | h
      ·exact hz.out u h
      ·obtain rfl:u = j:=by omega
       exact HZ1.out.symm⟩
     case measure=>simp [QA2];omega
    ·have t1:(z != 0) = true:=bne_iff_ne.2 hz0
     have hbad:QCJ x i = false:=QDj (p:=z) (by rw [← HM.out,HZ1.out];exact QEd (by show m+j < 3;omega)) hz0
     have HF2:=hid (hfin.out false hbad.symm)
     clear hbad
     go_wp2_with fail
     obtain ⟨y0,y1,y2⟩:=HF2.out 0
     have y0' : (((W.setCell ⟨w.heap.size+1+1,0,none⟩ (.bool false)).alloc (.cells #[.int .i64 x.a,.int .i64 x.b,.int .i64 x.c] 160)).putObj D (.deferred none)).cell? ⟨w.heap.size+1+1,0,none⟩ = some (.bool false):=y0
     exact ⟨by simp,.inl ⟨_,_,rfl,run_takeDeferred y1,.bool false,by simp [results,Tryz.results80,go_sem,y0'],y2⟩⟩
   ·have q3:decide ((j:Int) < (r:Int)) = false:=decide_eq_false (by omega)
    have hrest:Hid (QCJ x i = QHj x):=hid (QDi HKK.out hparts.out (by
     intro p hp
     have hz' : ∀ u,u < j→[x.a,x.b,x.c].getD (QAL x.kind+u) 0 = 0:=by rw [← HM.out];exact hz.out
     have hj2:3≤j+QAL x.kind:=by rw [← HM.out];omega
     obtain ⟨t,ht,rfl⟩:=List.mem_iff_getElem.1 hp
     rw [List.length_drop] at ht
     have ht3:t < 3 - QAL x.kind:=ht
     have h1:=hz' t (by omega)
     rw [List.getD_eq_getElem?_getD,List.getElem?_eq_getElem (by show _ < 3;omega)] at h1
     rw [List.getElem_drop]
     exact h1))
    have d7:=D7'.out
    have T3:=t3.out
    have T19:=t19.out
    have T20:=t20.out
    have hnk:Hid (QBP x.kind = true):=hid (by
     unfold QBP
     rw [show decide (x.kind = 3) = true from t3.out,show decide (x.kind = 19) = false from t19.out,show decide (x.kind = 20) = false from t20.out];rfl)
    clear hsl hAr hSr hinv hIo hLo FZ HD HZ HB M1 M3 HF HM HO3 hparts hz HKK hr3 hr4 hmn d1 d2 d3
    by_cases hn:x.name.toList = []
    ·have n2:x.name.toList.isEmpty = true:=by rw [hn];rfl
     have N2:Hid (x.name.toList.isEmpty = !false):=hid n2
     clear hn
     have S2:Hid (x.state.toList.isEmpty = !!x.state.toList.isEmpty):=hid (by simp)
     have A2:Hid (decide (x.args.length = 0) = decide (x.args.length = 0)):=hid rfl
     have HE:=hid (hfin.out (false) (by rw [hrest.out,QB0 x true false false (false) (!x.state.toList.isEmpty) (decide (x.args.length = 0)) hnk.out t20.out t19.out N2.out S2.out A2.out];rfl))
     clear hfin hrest
     go_wp2_with fail
     refine wpIn_wide.2 ?_
     go_wp2_with fail
     refine QAD 38 (by kernel_rfl) (by kernel_rfl) ?_
     simp only [List.take_succ_cons,List.take_zero,List.drop_succ_cons,List.drop_zero]
     repeat (go_big_quiet_step (fail))
     refine wpQuiet_nil ?_
     go_wp2_with fail
     obtain ⟨y0,y1,y2⟩:=HE.out 1
     have y0' : ((((W.setCell ⟨w.heap.size+1+1,0,none⟩ (.bool (false))).alloc (.cells #[.int .i64 x.a,.int .i64 x.b,.int .i64 x.c] 160)).drew).putObj D (.deferred none)).cell? ⟨w.heap.size+1+1,0,none⟩ = some (.bool (false)):=y0
     exact ⟨by simp,.inl ⟨_,_,rfl,run_takeDeferred y1,.bool (false),by simp [results,Tryz.results80,go_sem,y0'],y2⟩⟩
    ·have n2:x.name.toList.isEmpty = false:=by cases h:x.name.toList with | nil=>exact absurd h hn | cons _ _=>rfl
     have N2:Hid (x.name.toList.isEmpty = !true):=hid n2
     clear hn
     by_cases hst:x.state.toList = []
     ·have s2:x.state.toList.isEmpty = true:=by rw [hst];rfl
      have S2:Hid (x.state.toList.isEmpty = !false):=hid s2
      clear hst
      by_cases ha0:na = 0
      ·have a2:((na:Int) == 0) = true:=by rw [ha0];rfl
       have A2:Hid (decide (x.args.length = 0) = true):=hid (decide_eq_true (by rw [hna.out];exact ha0))
       clear ha0
       by_cases hv:0≤x.v
       ·have v2:decide (0≤x.v) = true:=decide_eq_true hv
        have V2:=hid v2
        clear hv
        have HE:=hid (hfin.out (decide (x.v≤mostV x.kind)) (by rw [hrest.out,QB0 x true false false (true) (false) (true) hnk.out t20.out t19.out N2.out S2.out A2.out];rw [V2.out];simp))
        clear hfin hrest
        go_wp2_with fail
        refine wpIn_wide.2 ?_
        go_wp2_with fail
        refine QAD 38 (by kernel_rfl) (by kernel_rfl) ?_
        simp only [List.take_succ_cons,List.take_zero,List.drop_succ_cons,List.drop_zero]
        repeat (go_big_quiet_step (fail))
        go_big_quiet_want
        go_big_quiet_op
        apply Exists.intro
        refine ⟨by exact (QDm x.kind _).mono fun e w'' h=>⟨h.1,h.2.symm⟩,?_⟩
        go_big_quiet_on
        repeat (go_big_quiet_step (fail))
        refine wpQuiet_nil ?_
        go_wp2_with fail
        obtain ⟨y0,y1,y2⟩:=HE.out 1
        have y0' : ((((W.setCell ⟨w.heap.size+1+1,0,none⟩ (.bool (decide (x.v≤mostV x.kind)))).alloc (.cells #[.int .i64 x.a,.int .i64 x.b,.int .i64 x.c] 160)).drew).putObj D (.deferred none)).cell? ⟨w.heap.size+1+1,0,none⟩ = some (.bool (decide (x.v≤mostV x.kind))):=y0
        exact ⟨by simp,.inl ⟨_,_,rfl,run_takeDeferred y1,.bool (decide (x.v≤mostV x.kind)),by simp [results,Tryz.results80,go_sem,y0'],y2⟩⟩
       ·have v2:decide (0≤x.v) = false:=decide_eq_false hv
        have V2:=hid v2
        clear hv
        have HE:=hid (hfin.out (false) (by rw [hrest.out,QB0 x true false false (true) (false) (true) hnk.out t20.out t19.out N2.out S2.out A2.out];rw [V2.out];simp))
        clear hfin hrest
        go_wp2_with fail
        refine wpIn_wide.2 ?_
        go_wp2_with fail
        refine QAD 38 (by kernel_rfl) (by kernel_rfl) ?_
        simp only [List.take_succ_cons,List.take_zero,List.drop_succ_cons,List.drop_zero]
        repeat (go_big_quiet_step (fail))
        refine wpQuiet_nil ?_
        go_wp2_with fail
        obtain ⟨y0,y1,y2⟩:=HE.out 1
        have y0' : ((((W.setCell ⟨w.heap.size+1+1,0,none⟩ (.bool (false))).alloc (.cells #[.int .i64 x.a,.int .i64 x.b,.int .i64 x.c] 160)).drew).putObj D (.deferred none)).cell? ⟨w.heap.size+1+1,0,none⟩ = some (.bool (false)):=y0
        exact ⟨by simp,.inl ⟨_,_,rfl,run_takeDeferred y1,.bool (false),by simp [results,Tryz.results80,go_sem,y0'],y2⟩⟩
      ·have a2:((na:Int) == 0) = false:=beq_false_of_ne (by omega)
       have A2:Hid (decide (x.args.length = 0) = false):=hid (decide_eq_false (by rw [hna.out];exact ha0))
       clear ha0
       have HE:=hid (hfin.out (false) (by rw [hrest.out,QB0 x true false false (true) (false) (false) hnk.out t20.out t19.out N2.out S2.out A2.out];simp))
       clear hfin hrest
       go_wp2_with fail
       refine wpIn_wide.2 ?_
       go_wp2_with fail
       refine QAD 38 (by kernel_rfl) (by kernel_rfl) ?_
       simp only [List.take_succ_cons,List.take_zero,List.drop_succ_cons,List.drop_zero]
       repeat (go_big_quiet_step (fail))
       refine wpQuiet_nil ?_
       go_wp2_with fail
       obtain ⟨y0,y1,y2⟩:=HE.out 1
       have y0' : ((((W.setCell ⟨w.heap.size+1+1,0,none⟩ (.bool (false))).alloc (.cells #[.int .i64 x.a,.int .i64 x.b,.int .i64 x.c] 160)).drew).putObj D (.deferred none)).cell? ⟨w.heap.size+1+1,0,none⟩ = some (.bool (false)):=y0
       exact ⟨by simp,.inl ⟨_,_,rfl,run_takeDeferred y1,.bool (false),by simp [results,Tryz.results80,go_sem,y0'],y2⟩⟩
     ·have s2:x.state.toList.isEmpty = false:=by cases h:x.state.toList with | nil=>exact absurd h hst | cons _ _=>rfl
      have S2:Hid (x.state.toList.isEmpty = !true):=hid s2
      clear hst
      have A2:Hid (decide (x.args.length = 0) = decide (x.args.length = 0)):=hid rfl
      have HE:=hid (hfin.out (false) (by rw [hrest.out,QB0 x true false false (true) (true) (decide (x.args.length = 0)) hnk.out t20.out t19.out N2.out S2.out A2.out];rfl))
      clear hfin hrest
      go_wp2_with fail
      refine wpIn_wide.2 ?_
      go_wp2_with fail
      refine QAD 38 (by kernel_rfl) (by kernel_rfl) ?_
      simp only [List.take_succ_cons,List.take_zero,List.drop_succ_cons,List.drop_zero]
      repeat (go_big_quiet_step (fail))
      refine wpQuiet_nil ?_
      go_wp2_with fail
      obtain ⟨y0,y1,y2⟩:=HE.out 1
      have y0' : ((((W.setCell ⟨w.heap.size+1+1,0,none⟩ (.bool (false))).alloc (.cells #[.int .i64 x.a,.int .i64 x.b,.int .i64 x.c] 160)).drew).putObj D (.deferred none)).cell? ⟨w.heap.size+1+1,0,none⟩ = some (.bool (false)):=y0
      exact ⟨by simp,.inl ⟨_,_,rfl,run_takeDeferred y1,.bool (false),by simp [results,Tryz.results80,go_sem,y0'],y2⟩⟩
 case stop =>
  rintro D c pre W hD hpre ⟨rfl,hres,⟨p,hp,hbad⟩,hb,hz⟩ hK
  gi_wp2
  refine ⟨by simp,.inl ⟨_,_,rfl,run_takeDeferred hK,?_⟩⟩
  have hDr:w.heap.size+2≠D:=by rintro rfl;rw [hres] at hK;cases hK
  have y0:(W.putObj D (.deferred none)).cell? ⟨w.heap.size+1+1,0,none⟩ = some (.bool false):=by
   have h:(W.putObj D (.deferred none)).heap[w.heap.size+2]? = _:=(World.putObj_heap_other hDr).trans hres
   simp [World.cell?,h]
  rw [QCQ p.2 hbad]
  refine ⟨.bool false,by simp [results,Tryz.results80,go_sem,y0],rfl,hb.trans ?_⟩
  exact (belowK_b (w:=w) (Nat.le_refl _) W D _ _ (by rw [World.size_alloc,World.size_alloc,World.size_alloc,World.size_alloc] at hD;omega) hK rfl rfl)
end
section
open Go.Lib (hid)
open Go.RowKit Go.Shelf
attribute [local go_sem] Oper.semAt_some
set_option maxHeartbeats 8000000 in
set_option maxRecDepth 100000 in
theorem QM1 (x:Ex) (s:Value) (i:Nat) (q1:decide (x.kind < 1) = false) (q2:decide (21 < x.kind) = false) (w:World) (ha:Hid (IntsAt w s x.args)) (hk:Hid (ExOk x)) (o:Option Addr) (na cap:Nat) (hs:Hid (s = .slice o na cap)) (hna:Hid (x.args.length = na)) (t3:Hid ((x.kind == 3) = false)) (t19:Hid ((x.kind == 19) = true)) (t20:Hid ((x.kind == 20) = false)) :
  CallsIn Fence.wide 5 Tryz.prog 80 #[exV x s,.int .i64 (i:Int)] w fun e w'=>QBa (QCJ x i) w e w':=by
 unfold exV
 have hkk:1≤x.kind∧x.kind≤21:=⟨by have:=of_decide_eq_false q1;omega,by have:=of_decide_eq_false q2;omega⟩
 have HKK:=hid hkk
 clear hkk
 unfold QA4
 refine callsIn_of_wp_marks Tryz.func80 rfl trivial ?_ rfl
 simp only [Tryz.ntmps80,List.size_toArray,List.length_cons,List.length_nil,Nat.reduceAdd,Nat.reduceSub,Array.replicate_succ,Array.replicate_zero,List.push_toArray,List.append_toArray,List.nil_append,List.cons_append]
 gi_wp2_with (refine ⟨trivial,?_⟩;gi_at_call 92;((with_reducible refine (callsIn_wide.2 (QCr _ _ _ _ _ _ _ _ _ _)).mono ?_);rintro e w2 ⟨rfl,rfl⟩))
 obtain ⟨f1,f2,f3,f4,fb,fz⟩:=four w (.cells (QA4 x s) 54) (.cells #[.int .i64 (i:Int)] 3) (.cells #[.bool false] 4) (.cells (QA4 x s) 54)
 unfold QA4 at f1 f2 f3 f4 fb fz
 have FZ:=hid fz
 have hAr:Hid (Around (fun j=>j = w.heap.size+2) (fun _=>none) ((((w.alloc (.cells (QA4 x s) 54)).alloc (.cells #[.int .i64 (i:Int)] 3)).alloc (.cells #[.bool false] 4)).alloc (.cells (QA4 x s) 54))) :=
  hid ⟨fun j hj=>by subst hj;unfold QA4;rw [fz];omega,fun j hj=>(by cases hj),fun W hW=>rfl⟩
 have hSr:Hid (QL4 ((((w.alloc (.cells (QA4 x s) 54)).alloc (.cells #[.int .i64 (i:Int)] 3)).alloc (.cells #[.bool false] 4)).alloc (.cells (QA4 x s) 54)) x (w.heap.size+1+1+1) (fun j=>j = w.heap.size+2∨(none:Option Nat) = some j)) :=
  hid (QFT ha.out hk.out fb f4 (fun k hk=>by rcases hk with rfl | h;omega;cases h) (fun h=>by rcases h with h | h;omega;cases h))
 have hinv:Hid (QMy x s i w [] ((((w.alloc (.cells (QA4 x s) 54)).alloc (.cells #[.int .i64 (i:Int)] 3)).alloc (.cells #[.bool false] 4)).alloc (.cells (QA4 x s) 54))) :=
  hid ⟨⟨f1,f2,f3⟩,(fun p h=>by simp at h),fb,by unfold QA4;rw [fz];exact Nat.le_refl _⟩
 have hIo:=hid (QEk x s i w)
 have hLo:=hid (QDl x i w)
 unfold QA4 at hAr hSr hinv
 rw [← fz] at hIo hLo
 clear f1 f2 f3 f4 fb fz
 unfold QDq
 refine wpIn_rangeFunc_ownG (α:=QBY x) rfl (by decide) (gf:=110) (lb:=#[.pointer (some ⟨w.heap.size+1+1+1,0,none⟩)]) rfl trivial (enters_of Tryz.func110 (by kernel_rfl) rfl)
  (QBb 4 (by decide) x _ _ _ _ hAr.out hSr.out) (fun h k=>h.trans k) (fun W l o o' h1 h2 h3 _=>QD1 W l o o' h1 h2 h3) (Below.refl _ _) (fun _=>rfl)
  (QMy x s i w) (QGH x i w) hIo.out hLo.out hinv.out
  (fun p=>{ tmps:=#[.agg #[.int .i64 x.kind,.int .i64 x.a,.int .i64 x.b,.int .i64 x.c,.string x.name,.string x.state,.int .i64 x.v,s,.int .i64 x.pos],.int .i64 (i:Int),.pointer (some ⟨w.heap.size,0,none⟩),.pointer (some ⟨w.heap.size+1,0,none⟩),.pointer (some ⟨w.heap.size+1+1,0,none⟩),.int .i64 p.1,undef,undef,undef,undef,.pointer (some ⟨w.heap.size,0,none⟩),.int .i64 x.kind,.bool false,.bool false,.pointer (some ⟨w.heap.size,0,none⟩),.int .i64 x.kind,.bool false,.bool false,.agg #[.int .i64 x.kind,.int .i64 x.a,.int .i64 x.b,.int .i64 x.c,.string x.name,.string x.state,.int .i64 x.v,s,.int .i64 x.pos],.func (.func 110) #[] #[.pointer (some ⟨w.heap.size+1+1+1,0,none⟩)],.int .i64 p.1,undef,undef,undef,undef,undef,undef,undef,undef,undef,undef,undef,undef,undef,undef,undef,undef,undef,undef,undef,undef,undef,undef,undef,undef,undef,undef,undef,undef,undef,undef,undef,undef,undef,undef,undef,undef,undef,undef,undef,undef,undef,undef,undef,undef,undef,undef,undef,undef,undef,undef,undef,undef,undef,undef,undef,undef,undef,undef,undef,undef,undef,undef,undef,undef,undef,undef,undef,undef,undef,undef,undef,undef,undef,undef,undef,undef,undef],defers:=[] }) ?assign ?body ?done ?stop
 case assign =>
  rintro lp p W K hK
  gi_wp2
  exact hK
 case body =>
  rintro lp pre p W ⟨⟨m1,m2,m3⟩,hg,hb,hz⟩ hlt
  have cI:W.cell? ⟨w.heap.size+1,0,none⟩ = some (.int .i64 (i:Int)):=by simp [World.cell?,m2]
  have cR:W.cell? ⟨w.heap.size+1+1,0,none⟩ = some (.bool false):=by simp [World.cell?,m3]
  have fR:W.frozen? ⟨w.heap.size+1+1,0,none⟩ = false:=by simp [World.frozen?,m3]
  obtain ⟨p,hpm⟩:=p
  dsimp only
  have M1:=hid m1
  have M2:=hid m2
  have M3:=hid m3
  have HG:=hid hg
  have HB:=hid hb
  have HZ:=hid hz
  clear m1 m2 m3 hg hb hz hlt
  have left:QAx i p = false→QGH x i w .ret (pre ++ [⟨p,hpm⟩]) (W.setCell ⟨w.heap.size+1+1,0,none⟩ (.bool false)):=fun hp =>
   ⟨rfl,set_heap M3.out 0 _,⟨⟨p,hpm⟩,by simp,hp⟩,HB.out.setCell (p:=⟨w.heap.size+1+1,0,none⟩) (Nat.le_trans (Nat.le_succ _) (Nat.le_succ _)) _,Nat.le_trans HZ.out ((Below.refl 0 W).setCell (p:=⟨w.heap.size+1+1,0,none⟩) (Nat.zero_le _) _).size⟩
  by_cases h1:p < 0
  ·have t1:decide (p < 0) = true:=decide_eq_true h1
   gi_wp2
   exact ⟨(KeepsOthers.setCell _ _ _).from _,left (by unfold QAx;rw [decide_eq_false (show ¬ 0≤p by omega)];rfl)⟩
  ·have t1:decide (p < 0) = false:=decide_eq_false h1
   by_cases h2:(i:Int)≤p
   ·have t2:decide ((i:Int)≤p) = true:=decide_eq_true h2
    gi_wp2
    exact ⟨(KeepsOthers.setCell _ _ _).from _,left (by unfold QAx;rw [decide_eq_false (show ¬ p < (i:Int) by omega)];simp)⟩
   ·have t2:decide ((i:Int)≤p) = false:=decide_eq_false h2
    clear left
    gi_wp2
    refine ⟨(KeepsOthers.refl W).from _,⟨Nat.le_refl _,fun _ _ _ _ _=>rfl,fun _ h=>.inl h⟩,⟨M1.out,M2.out,M3.out⟩,fun y hy=>?_,HB.out,HZ.out⟩
    rcases List.mem_append.1 hy with h | h
    ·exact HG.out y h
    ·rw [List.mem_singleton] at h;subst h;unfold QAx;rw [decide_eq_true (show 0≤p by omega),decide_eq_true (show p < (i:Int) by omega)];rfl
 case done =>
  rintro D ys W hD hys ⟨⟨m1,m2,m3⟩,hg,hb,hz⟩ hK
  have d0:W.cell? ⟨w.heap.size,0,none⟩ = some (.int .i64 x.kind):=by simp [World.cell?,m1,QA4]
  have d1:W.cell? ⟨w.heap.size,1,none⟩ = some (.int .i64 x.a):=by simp [World.cell?,m1,QA4]
  have d2:W.cell? ⟨w.heap.size,2,none⟩ = some (.int .i64 x.b):=by simp [World.cell?,m1,QA4]
  have d3:W.cell? ⟨w.heap.size,3,none⟩ = some (.int .i64 x.c):=by simp [World.cell?,m1,QA4]
  have hmn:=QBk x.kind
  have hparts:Hid (∀ p∈QAB x,QAx i p = true):=hid (by
   intro p hp
   rw [← hys] at hp
   obtain ⟨y,hy,rfl⟩:=List.mem_map.1 hp
   exact hg y hy)
  obtain ⟨m,hm⟩:∃ m,m = QAL x.kind:=⟨_,rfl⟩
  obtain ⟨o3,ho3⟩:∃ o3,o3 = (if m = 3 then 0 else m):=⟨_,rfl⟩
  rw [← hm] at hmn
  have hsl:=QDB W.heap.size m hmn
  obtain ⟨r,hr⟩:∃ r,r = 3 - m:=⟨_,rfl⟩
  rw [← ho3,← hr] at hsl
  have hr3:r+m≤3:=by omega
  have hr4:3≤r+m:=by omega
  have hrl:(r:Int)≤3:=by omega
  have cR:W.cell? ⟨w.heap.size+1+1,0,none⟩ = some (.bool false):=by simp [World.cell?,m3]
  have fR:W.frozen? ⟨w.heap.size+1+1,0,none⟩ = false:=by simp [World.frozen?,m3]
  have d4:W.cell? ⟨w.heap.size,4,none⟩ = some (.string x.name):=by simp [World.cell?,m1,QA4]
  have d5:W.cell? ⟨w.heap.size,5,none⟩ = some (.string x.state):=by simp [World.cell?,m1,QA4]
  have d6:W.cell? ⟨w.heap.size,6,none⟩ = some (.int .i64 x.v):=by simp [World.cell?,m1,QA4]
  have D7:W.cell? ⟨w.heap.size,7,none⟩ = some s:=by simp [World.cell?,m1,QA4]
  have hfin:Hid (∀ b:Bool,b = QCJ x i→QGz x i w D W b):=hid fun b hb1=>QGa x i w D W b hb1 hb (by have:w.heap.size+4 = _:=rfl;rw [World.size_alloc,World.size_alloc,World.size_alloc,World.size_alloc] at hD;omega) m3 hK
  have HM:=hid hm
  have HO3:=hid ho3
  have M1:=hid m1
  have M3:=hid m3
  have HB:=hid hb
  have HZ:=hid hz
  have HK:=hid hK
  have HD:=hid hD
  have HF:Hid (∀ w',Calls Tryz.prog 108 #[.int .i64 x.kind] w' fun e w''=>e = .returned (.int .i64 (m:Int))∧w' = w''):=hid fun w'=>by rw [hm];exact QCN _ _
  have z0:w.heap.size < W.heap.size:=by omega
  have z2:w.heap.size+1+1 < W.heap.size:=by omega
  clear m1 m2 m3 hb hz hK hg hys hm ho3 hD hr
  gi_wp2_with (refine ⟨trivial,?_⟩;gi_at_call 108;((with_reducible refine (callsIn_wide.2 (HF.out _)).mono ?_);rintro e w1 ⟨rfl,rfl⟩))
  rw [hs.out] at D7
  have D7':=hid D7
  clear D7
  refine wpIn_wide.2 ?_
  go_loop [40] (fun t=>∃ j:Nat,t = .int .i64 j∧j≤r∧Hid (∀ u,u < j→[x.a,x.b,x.c].getD (m+u) 0 = 0)) (fun t=>r - QA2 t)
  case atStart=>exact ⟨0,rfl,Nat.zero_le _,hid fun u hu=>by omega⟩
  case round =>
   obtain ⟨j,rfl,hj,hz⟩:=hrel
   rcases Nat.lt_or_ge j r with hlt | hge
   ·have q3:(j:Int) < (r:Int):=by omega
    obtain ⟨z,hz1⟩:∃ z,z = [x.a,x.b,x.c].getD (m+j) 0:=⟨_,rfl⟩
    have xj:(W.alloc (.cells #[.int .i64 x.a,.int .i64 x.b,.int .i64 x.c] 160)).cell? ⟨W.heap.size,o3+j,none⟩ = some (.int .i64 z):=by
     rw [World.cell?_alloc_new,HO3.out,if_neg (by omega),hz1]
     match m+j,(show m+j < 3 by omega) with
     | 0,_=>rfl
     | 1,_=>rfl
     | 2,_=>rfl
    have HZ1:=hid hz1
    clear hz1
    by_cases hz0:z = 0
    ·subst hz0
     go_wp2_with fail
     go_round
     case rel=>exact ⟨j+1,by first | omega | go_num,by omega,hid fun u hu=>by
      rcases Nat.lt_or_ge u j with h | h
      ·exact hz.out u h
      ·obtain rfl:u = j:=by omega
       exact HZ1.out.symm⟩
     case measure=>simp [QA2];omega
    ·have t1:(z != 0) = true:=bne_iff_ne.2 hz0
     have hbad:QCJ x i = false:=QDj (p:=z) (by rw [← HM.out,HZ1.out];exact QEd (by show m+j < 3;omega)) hz0
     have HF2:=hid (hfin.out false hbad.symm)
     clear hbad
     go_wp2_with fail
     obtain ⟨y0,y1,y2⟩:=HF2.out 0
     have y0' : (((W.setCell ⟨w.heap.size+1+1,0,none⟩ (.bool false)).alloc (.cells #[.int .i64 x.a,.int .i64 x.b,.int .i64 x.c] 160)).putObj D (.deferred none)).cell? ⟨w.heap.size+1+1,0,none⟩ = some (.bool false):=y0
     exact ⟨by simp,.inl ⟨_,_,rfl,run_takeDeferred y1,.bool false,by simp [results,Tryz.results80,go_sem,y0'],y2⟩⟩
   ·have q3:decide ((j:Int) < (r:Int)) = false:=decide_eq_false (by omega)
    have hrest:Hid (QCJ x i = QHj x):=hid (QDi HKK.out hparts.out (by
     intro p hp
     have hz' : ∀ u,u < j→[x.a,x.b,x.c].getD (QAL x.kind+u) 0 = 0:=by rw [← HM.out];exact hz.out
     have hj2:3≤j+QAL x.kind:=by rw [← HM.out];omega
     obtain ⟨t,ht,rfl⟩:=List.mem_iff_getElem.1 hp
     rw [List.length_drop] at ht
     have ht3:t < 3 - QAL x.kind:=ht
     have h1:=hz' t (by omega)
     rw [List.getD_eq_getElem?_getD,List.getElem?_eq_getElem (by show _ < 3;omega)] at h1
     rw [List.getElem_drop]
     exact h1))
    have d7:=D7'.out
    have T3:=t3.out
    have T19:=t19.out
    have T20:=t20.out
    have hnk:Hid (QBP x.kind = true):=hid (by
     unfold QBP
     rw [show decide (x.kind = 3) = false from t3.out,show decide (x.kind = 19) = true from t19.out,show decide (x.kind = 20) = false from t20.out];rfl)
    clear hsl hAr hSr hinv hIo hLo FZ HD HZ HB M1 M3 HF HM HO3 hparts hz HKK hr3 hr4 hmn d1 d2 d3
    have hu:=hna.out
    clear hu
    by_cases hn:x.name.toList = []
    ·have n2:x.name.toList.isEmpty = true:=by rw [hn];rfl
     have N2:Hid (x.name.toList.isEmpty = !false):=hid n2
     clear hn
     have S2:Hid (x.state.toList.isEmpty = !!x.state.toList.isEmpty):=hid (by simp)
     have A2:Hid (decide (x.args.length = 0) = decide (x.args.length = 0)):=hid rfl
     have HE:=hid (hfin.out (false) (by rw [hrest.out,QB0 x true false true (false) (!x.state.toList.isEmpty) (decide (x.args.length = 0)) hnk.out t20.out t19.out N2.out S2.out A2.out];rfl))
     clear hfin hrest
     go_wp2_with fail
     refine wpIn_wide.2 ?_
     go_wp2_with fail
     refine QAD 38 (by kernel_rfl) (by kernel_rfl) ?_
     simp only [List.take_succ_cons,List.take_zero,List.drop_succ_cons,List.drop_zero]
     repeat (go_big_quiet_step (fail))
     refine wpQuiet_nil ?_
     go_wp2_with fail
     obtain ⟨y0,y1,y2⟩:=HE.out 1
     have y0' : ((((W.setCell ⟨w.heap.size+1+1,0,none⟩ (.bool (false))).alloc (.cells #[.int .i64 x.a,.int .i64 x.b,.int .i64 x.c] 160)).drew).putObj D (.deferred none)).cell? ⟨w.heap.size+1+1,0,none⟩ = some (.bool (false)):=y0
     exact ⟨by simp,.inl ⟨_,_,rfl,run_takeDeferred y1,.bool (false),by simp [results,Tryz.results80,go_sem,y0'],y2⟩⟩
    ·have n2:x.name.toList.isEmpty = false:=by cases h:x.name.toList with | nil=>exact absurd h hn | cons _ _=>rfl
     have N2:Hid (x.name.toList.isEmpty = !true):=hid n2
     clear hn
     by_cases hst:x.state.toList = []
     ·have s2:x.state.toList.isEmpty = true:=by rw [hst];rfl
      have S2:Hid (x.state.toList.isEmpty = !false):=hid s2
      clear hst
      have A2:Hid (decide (x.args.length = 0) = decide (x.args.length = 0)):=hid rfl
      by_cases hv:0≤x.v
      ·have v2:decide (0≤x.v) = true:=decide_eq_true hv
       have V2:=hid v2
       clear hv
       have HE:=hid (hfin.out (decide (x.v≤mostV x.kind)) (by rw [hrest.out,QB0 x true false true (true) (false) (decide (x.args.length = 0)) hnk.out t20.out t19.out N2.out S2.out A2.out];rw [V2.out];simp))
       clear hfin hrest
       go_wp2_with fail
       refine wpIn_wide.2 ?_
       go_wp2_with fail
       refine QAD 38 (by kernel_rfl) (by kernel_rfl) ?_
       simp only [List.take_succ_cons,List.take_zero,List.drop_succ_cons,List.drop_zero]
       repeat (go_big_quiet_step (fail))
       go_big_quiet_want
       go_big_quiet_op
       apply Exists.intro
       refine ⟨by exact (QDm x.kind _).mono fun e w'' h=>⟨h.1,h.2.symm⟩,?_⟩
       go_big_quiet_on
       repeat (go_big_quiet_step (fail))
       refine wpQuiet_nil ?_
       go_wp2_with fail
       obtain ⟨y0,y1,y2⟩:=HE.out 1
       have y0' : ((((W.setCell ⟨w.heap.size+1+1,0,none⟩ (.bool (decide (x.v≤mostV x.kind)))).alloc (.cells #[.int .i64 x.a,.int .i64 x.b,.int .i64 x.c] 160)).drew).putObj D (.deferred none)).cell? ⟨w.heap.size+1+1,0,none⟩ = some (.bool (decide (x.v≤mostV x.kind))):=y0
       exact ⟨by simp,.inl ⟨_,_,rfl,run_takeDeferred y1,.bool (decide (x.v≤mostV x.kind)),by simp [results,Tryz.results80,go_sem,y0'],y2⟩⟩
      ·have v2:decide (0≤x.v) = false:=decide_eq_false hv
       have V2:=hid v2
       clear hv
       have HE:=hid (hfin.out (false) (by rw [hrest.out,QB0 x true false true (true) (false) (decide (x.args.length = 0)) hnk.out t20.out t19.out N2.out S2.out A2.out];rw [V2.out];simp))
       clear hfin hrest
       go_wp2_with fail
       refine wpIn_wide.2 ?_
       go_wp2_with fail
       refine QAD 38 (by kernel_rfl) (by kernel_rfl) ?_
       simp only [List.take_succ_cons,List.take_zero,List.drop_succ_cons,List.drop_zero]
       repeat (go_big_quiet_step (fail))
       refine wpQuiet_nil ?_
       go_wp2_with fail
       obtain ⟨y0,y1,y2⟩:=HE.out 1
       have y0' : ((((W.setCell ⟨w.heap.size+1+1,0,none⟩ (.bool (false))).alloc (.cells #[.int .i64 x.a,.int .i64 x.b,.int .i64 x.c] 160)).drew).putObj D (.deferred none)).cell? ⟨w.heap.size+1+1,0,none⟩ = some (.bool (false)):=y0
       exact ⟨by simp,.inl ⟨_,_,rfl,run_takeDeferred y1,.bool (false),by simp [results,Tryz.results80,go_sem,y0'],y2⟩⟩
     ·have s2:x.state.toList.isEmpty = false:=by cases h:x.state.toList with | nil=>exact absurd h hst | cons _ _=>rfl
      have S2:Hid (x.state.toList.isEmpty = !true):=hid s2
      clear hst
      have A2:Hid (decide (x.args.length = 0) = decide (x.args.length = 0)):=hid rfl
      have HE:=hid (hfin.out (false) (by rw [hrest.out,QB0 x true false true (true) (true) (decide (x.args.length = 0)) hnk.out t20.out t19.out N2.out S2.out A2.out];rfl))
      clear hfin hrest
      go_wp2_with fail
      refine wpIn_wide.2 ?_
      go_wp2_with fail
      refine QAD 38 (by kernel_rfl) (by kernel_rfl) ?_
      simp only [List.take_succ_cons,List.take_zero,List.drop_succ_cons,List.drop_zero]
      repeat (go_big_quiet_step (fail))
      refine wpQuiet_nil ?_
      go_wp2_with fail
      obtain ⟨y0,y1,y2⟩:=HE.out 1
      have y0' : ((((W.setCell ⟨w.heap.size+1+1,0,none⟩ (.bool (false))).alloc (.cells #[.int .i64 x.a,.int .i64 x.b,.int .i64 x.c] 160)).drew).putObj D (.deferred none)).cell? ⟨w.heap.size+1+1,0,none⟩ = some (.bool (false)):=y0
      exact ⟨by simp,.inl ⟨_,_,rfl,run_takeDeferred y1,.bool (false),by simp [results,Tryz.results80,go_sem,y0'],y2⟩⟩
 case stop =>
  rintro D c pre W hD hpre ⟨rfl,hres,⟨p,hp,hbad⟩,hb,hz⟩ hK
  gi_wp2
  refine ⟨by simp,.inl ⟨_,_,rfl,run_takeDeferred hK,?_⟩⟩
  have hDr:w.heap.size+2≠D:=by rintro rfl;rw [hres] at hK;cases hK
  have y0:(W.putObj D (.deferred none)).cell? ⟨w.heap.size+1+1,0,none⟩ = some (.bool false):=by
   have h:(W.putObj D (.deferred none)).heap[w.heap.size+2]? = _:=(World.putObj_heap_other hDr).trans hres
   simp [World.cell?,h]
  rw [QCQ p.2 hbad]
  refine ⟨.bool false,by simp [results,Tryz.results80,go_sem,y0],rfl,hb.trans ?_⟩
  exact (belowK_b (w:=w) (Nat.le_refl _) W D _ _ (by rw [World.size_alloc,World.size_alloc,World.size_alloc,World.size_alloc] at hD;omega) hK rfl rfl)
end
end Go.Proofs.YtknbghjoncomiaaGreat
