import Derived.Test.YtknbghjoncomiaaGreatKA0
import Derived.RangeFuncBox
import Derived.Outline
import Derived.Lib.Hide
import Derived.Lib.Strings
import Derived.Below
import Derived.Deep.Draws
import Derived.WalkSpells
import Derived.WalkLawsBesides
import Derived.Laws.BitsAllLaws
import Derived.Deep.RegionHeld3
import Derived.Deep.QuietTactic
import Derived.BigQuiet
import Derived.Laws.EntriesVeiled
import Derived.Laws.Rows
import Derived.LaidLaws
import Derived.ChangeArms
import Derived.Lib.LaidTab
import Derived.OwnWalkIn
import Derived.TacticsInMore
import Derived.Maps.AppendAt
namespace Go.Proofs.YtknbghjoncomiaaGreat.Lx
open Go.Lib (hid)
set_option maxHeartbeats 16000000
section
def QF5 (c:UInt8):Bool:=c == 32 || (c == 9 || (c == 10 || c == 13))
def QAz (c:UInt8):Bool:=(decide (97≤c.toNat) && decide (c.toNat≤122)) || ((decide (65≤c.toNat) && decide (c.toNat≤90)) || c == 95)
def QBv (c:UInt8):Bool:=QAz c || QAZ c
def QB7 (p:UInt8→Bool) (l:List UInt8) (a:Nat):Nat:=a+((l.drop a).takeWhile p).length
theorem QB2 {l:List UInt8} {k:Nat} {c:UInt8} (h:l[k]? = some c):l.drop k = c :: l.drop (k+1):=by
 obtain ⟨h1,rfl⟩:=List.getElem?_eq_some_iff.1 h
 exact List.drop_eq_getElem_cons h1
theorem QG6 {p:UInt8→Bool} {l:List UInt8} {a:Nat} {c:UInt8} (h:l[a]? = some c) (hp:p c = true):QB7 p l a = QB7 p l (a+1):=by
 unfold QB7
 rw [QB2 h,List.takeWhile_cons,if_pos hp,List.length_cons]
 omega
theorem QED {p:UInt8→Bool} {l:List UInt8} {a:Nat} {c:UInt8} (h:l[a]? = some c) (hp:p c = false):QB7 p l a = a:=by
 unfold QB7
 rw [QB2 h,List.takeWhile_cons,if_neg (by rw [hp];simp)]
 rfl
theorem QFP {p:UInt8→Bool} {l:List UInt8} {a:Nat} (h:l.length≤a):QB7 p l a = a:=by
 unfold QB7
 rw [List.drop_eq_nil_of_le h]
 rfl
theorem QJM (p:UInt8→Bool) (l:List UInt8) (a:Nat):a≤QB7 p l a:=by unfold QB7;omega
theorem QO8 (p:UInt8→Bool) {l:List UInt8} {a:Nat} (h:a≤l.length):QB7 p l a≤l.length:=by
 unfold QB7
 have:=(List.takeWhile_prefix p (l:=l.drop a)).length_le
 rw [List.length_drop] at this
 omega
def QKq:Bool→List UInt8→Nat
 | _,[]=>0
 | true,c :: l=>if c = 10 then QKq false l+1 else QKq true l+1
 | false,c :: l=>if c = 35 then QKq true l+1 else if QF5 c = true then QKq false l+1 else 0
def QAu (b:Bool) (l:List UInt8) (a:Nat):Nat:=a+QKq b (l.drop a)
theorem gapN_le (b:Bool) (l:List UInt8):QKq b l≤l.length:=by
 induction l generalizing b with
 | nil=>cases b <;> exact Nat.le_refl _
 | cons c l ih =>
  have h1:=ih true
  have h2:=ih false
  cases b <;> simp only [QKq,List.length_cons]
  ·split
   ·omega
   ·split <;> omega
  ·split <;> omega
theorem QGT (b:Bool) (l:List UInt8) (a:Nat):a≤QAu b l a:=by unfold QAu;omega
theorem QC8 (b:Bool) {l:List UInt8} {a:Nat} (h:a≤l.length):QAu b l a≤l.length:=by
 unfold QAu
 have:=gapN_le b (l.drop a)
 rw [List.length_drop] at this
 omega
theorem QLY (b:Bool) {l:List UInt8} {a:Nat} (h:l.length≤a):QAu b l a = a:=by
 unfold QAu
 rw [List.drop_eq_nil_of_le h]
 cases b <;> rfl
theorem QJx {l:List UInt8} {a:Nat} (h:l[a]? = some 10):QAu true l a = QAu false l (a+1):=by
 unfold QAu
 rw [QB2 h,QKq,if_pos rfl]
 omega
theorem QGS {l:List UInt8} {a:Nat} {c:UInt8} (h:l[a]? = some c) (hc:c≠10):QAu true l a = QAu true l (a+1):=by
 unfold QAu
 rw [QB2 h,QKq,if_neg hc]
 omega
theorem QJw {l:List UInt8} {a:Nat} (h:l[a]? = some 35):QAu false l a = QAu true l (a+1):=by
 unfold QAu
 rw [QB2 h,QKq,if_pos rfl]
 omega
theorem QJi {c:UInt8} (h:QF5 c = true):c≠35:=by rintro rfl;revert h;decide
theorem QCe {l:List UInt8} {a:Nat} {c:UInt8} (h:l[a]? = some c) (hc:QF5 c = true):QAu false l a = QAu false l (a+1):=by
 unfold QAu
 rw [QB2 h,QKq,if_neg (QJi hc),if_pos hc]
 omega
theorem QJy {l:List UInt8} {a:Nat} {c:UInt8} (h:l[a]? = some c) (h1:c≠35) (h2:QF5 c = false):QAu false l a = a:=by
 unfold QAu
 rw [QB2 h,QKq,if_neg h1,if_neg (by rw [h2];simp)]
 rfl
def wordsL:List (List UInt8):=[[102,117,110],[110,111,100,101],[104,121,98,114,105,100],[108,101,116],[100,101,114],[105,110,105,116],[114,101,115,101,116],[111,110],[117,112],[109,101,109],[109,111,100,101],[102,114,111,109],[103,111,116,111],[111,117,116],[105,102],[116,104,101,110],[101,108,115,101],[112,114,101],[102,98,121],[116,114,117,101],[102,97,108,115,101],[110,111,116],[97,110,100],[111,114],[105,115],[115,113,114,116],[114,101,116,117,114,110],[115,101,116],[102,105,120],[98,111,111,108]]
def QIk (l:List UInt8):Bool:=wordsL.contains l
def signsL:List (List UInt8):=[[45,62],[60,61],[61,61],[40],[41],[123],[125],[44],[59],[58],[61],[43],[45],[42],[47],[60],[46]]
end
section
set_option maxRecDepth 100000
def step (s:Nat × Nat × Nat) (c:UInt8):Nat × Nat × Nat:=if c = 46 then (s.1,s.2.1,s.2.2+1) else if s.2.2 = 0 then (s.1+1,s.2.1,s.2.2) else (s.1,s.2.1+1,s.2.2)
def st (l:List UInt8):Nat × Nat × Nat:=l.foldl step (0,0,0)
def QJD (c:UInt8):Bool:=c == 46 || QAZ c
theorem st_snoc (l:List UInt8) (c:UInt8):st (l ++ [c]) = step (st l) c:=by unfold st;rw [List.foldl_append];rfl
theorem st_le (l:List UInt8):(st l).1+(st l).2.1+(st l).2.2 = l.length:=by
 suffices h:∀ (l:List UInt8) (s:Nat × Nat × Nat),(l.foldl step s).1+(l.foldl step s).2.1+(l.foldl step s).2.2 = s.1+s.2.1+s.2.2+l.length by
  have:=h l (0,0,0)
  simp only at this
  unfold st
  omega
 intro l
 induction l with
 | nil=>intro s;rfl
 | cons c l ih =>
  intro s
  rw [List.foldl_cons,ih,List.length_cons]
  unfold step
  split
  ·show s.1+s.2.1+(s.2.2+1)+l.length = _;omega
  ·split
   ·show s.1+1+s.2.1+s.2.2+l.length = _;omega
   ·show s.1+(s.2.1+1)+s.2.2+l.length = _;omega
theorem QEn (l:List UInt8) (h:46 ∉ l) (a b:Nat):l.foldl step (a,b,0) = (a+l.length,b,0):=by
 induction l generalizing a with
 | nil=>rfl
 | cons c l ih =>
  simp only [List.mem_cons,not_or] at h
  rw [List.foldl_cons,show step (a,b,0) c = (a+1,b,0) by unfold step;rw [if_neg (Ne.symm h.1),if_pos rfl],ih h.2,List.length_cons]
  simp only [Prod.mk.injEq,and_true]
  omega
theorem QMh (l:List UInt8) (a b d:Nat) (hd:1≤d) (h:(l.foldl step (a,b,d)).2.2 = d):46 ∉ l∧l.foldl step (a,b,d) = (a,b+l.length,d):=by
 have mono:∀ (l:List UInt8) (s:Nat × Nat × Nat),s.2.2≤(l.foldl step s).2.2:=by
  intro l
  induction l with
  | nil=>intro s;exact Nat.le_refl _
  | cons c l ih =>
   intro s
   rw [List.foldl_cons]
   refine Nat.le_trans ?_ (ih _)
   unfold step
   split
   ·exact Nat.le_succ _
   ·split <;> exact Nat.le_refl _
 induction l generalizing b with
 | nil=>exact ⟨by simp,rfl⟩
 | cons c l ih =>
  rw [List.foldl_cons] at h ⊢
  by_cases hc:c = 46
  ·subst hc
   have h1:=mono l (step (a,b,d) 46)
   have h2:(step (a,b,d) 46).2.2 = d+1:=rfl
   omega
  ·have e:step (a,b,d) c = (a,b+1,d):=by unfold step;rw [if_neg hc,if_neg (by show ¬ d = 0;omega)]
   rw [e] at h ⊢
   obtain ⟨h1,h2⟩:=ih (b+1) h
   refine ⟨by simp only [List.mem_cons,not_or];exact ⟨Ne.symm hc,h1⟩,?_⟩
   rw [h2,List.length_cons]
   simp only [Prod.mk.injEq,true_and,and_true]
   omega
def QKr (l:List UInt8):Bool :=
 l.all QJD && (decide (1≤(st l).1) && (decide ((st l).1≤10) && (decide ((st l).2.2≤1) && ((!(decide ((st l).2.2 = 1)) || (decide (1≤(st l).2.1) && decide ((st l).2.1≤40))) && (decide ((st l).1 = 1) || !(l.head? == some 48))))))
theorem QGd {l:List UInt8} (h:l.all QJD = true) (hp:46 ∉ l):l.all QAZ = true:=List.all_eq_true.2 fun x hx=>by
 have h1:=List.all_eq_true.1 h x hx
 unfold QJD at h1
 rw [Bool.or_eq_true] at h1
 rcases h1 with h1 | h1
 ·have:x = 46:=by simpa using h1
  subst this
  exact absurd hx hp
 ·exact h1
end
section
open Go.RowKit
def QA2:Value→Nat | .int _ n=>n.toNat | _=>0
theorem QOM (l:List UInt8):(str l).data.toList = l:=by unfold str;simp
theorem QCF (l:List UInt8) {j:Nat} {c:UInt8} (h:l[j]? = some c) (hj:j < (str l).size):(str l)[j]'hj = c:=by
 obtain ⟨h1,h2⟩:=List.getElem?_eq_some_iff.1 h
 rw [← h2];rfl
theorem QGB (l:List UInt8):(str l).toList = l:=by rw [Lib.toList_data];rfl
theorem QMi (l:List UInt8) (i j:Nat):(str l).extract i j = str ((l.take j).drop i):=by
 rw [Lib.extract_eq,QOM]
 unfold str
 rw [List.drop_take]
theorem QA5 {a w:World} (h:Below a.heap.size a w) (o:Obj):Below a.heap.size a (w.alloc o):=h.alloc h.size o
theorem QAE {B:Nat} {a w:World} (h:Below B a w) (n:Nat):Below B a (w.drewN n):=⟨h.os,h.tape,h.output,h.size,h.block⟩
end
section
open Go.RowKit
end
section
open Go.RowKit
theorem QLM {l:List UInt8} {k:Nat} {c:UInt8} (h:l[k]? = some c):l.drop k = c :: l.drop (k+1):=by
 obtain ⟨h1,rfl⟩:=List.getElem?_eq_some_iff.1 h
 exact List.drop_eq_getElem_cons h1
end
section
open Go.RowKit
theorem QKD {l:List UInt8} (h:QIK l = true):1≤(ahead l).length∧(ahead l).length≤10∧(ahead l).all QAZ = true∧(behind l).length≤40∧(behind l).all QAZ = true:=by
 unfold QIK QDL at h
 simp only [Bool.and_eq_true,decide_eq_true_eq,Bool.or_eq_true,Bool.not_eq_true'] at h
 obtain ⟨⟨h1,h2,h3⟩,_,h4⟩:=h
 refine ⟨h1,h2,h3,?_⟩
 rcases h4 with h4 | ⟨_,h4,h5⟩
 ·have:behind l = []:=QEu l (by unfold QCs at h4;simpa using h4)
  rw [this];simp
 ·exact ⟨h4,h5⟩
theorem QFF (l:List UInt8) (h:l.all QAZ = true) (hl:l.length≤10):QD7 l < 10000000000:=by
 have h1:=QIP l h
 have h2:10 ^ l.length≤10 ^ 10:=Nat.pow_le_pow_right (by omega) hl
 omega
theorem QEa {l:List UInt8} (h:l.all QAZ = true) (k:Nat):(l.take k).all QAZ = true:=List.all_eq_true.2 fun y hy=>List.all_eq_true.1 h y (List.mem_of_mem_take hy)
def QBy (l:List UInt8):Nat × Bool:=if (QCS l).2 = true∧(QCS l).1≤9223372036854775807 then ((QCS l).1,true) else (0,false)
end
section
def QCi (l:List UInt8):Nat:=(l.takeWhile QBv).length
def QI6 (l:List UInt8):Nat:=(l.takeWhile QAZ).length
def QFe (l:List UInt8):Nat:=if (l.drop (QI6 l)).head? = some 46∧0 < QI6 (l.drop (QI6 l+1)) then QI6 l+1+QI6 (l.drop (QI6 l+1)) else QI6 l
def QCE (l:List UInt8):Option (List UInt8):=signsL.find? (·.isPrefixOf l)
def QEX (l:List UInt8):Option (Nat × Nat × Int) :=
 match l with
 | []=>none
 | c :: _ =>
  if QAz c = true then (if QCi l≤16 then some (if QIk (l.take (QCi l)) = true then 3 else 1,QCi l,0) else none)
  else if QAZ c = true then (if (QBy (l.take (QFe l))).2 = true then some (2,QFe l,((QBy (l.take (QFe l))).1:Int)) else none)
  else (QCE l).map fun s=>(4,s.length,0)
structure Tok where
 kind:Nat
 text:List UInt8
 v:Int
 at_:Nat
def QId (o:Option (Nat × Nat × Int)) (l:List UInt8) (a:Nat):Tok:=match o with
 | none=>⟨0,[],0,a⟩
 | some (k,n,v)=>⟨k,l.take n,v,a⟩
def QAX (l:List UInt8) (a:Nat):Tok:=QId (QEX (l.drop a)) (l.drop a) a
theorem QKT (l:List UInt8) (a:Nat):QB7 QBv l a = a+QCi (l.drop a):=rfl
theorem QCU (l:List UInt8) (a:Nat):QB7 QAZ l a = a+QI6 (l.drop a):=rfl
theorem QJA (l:List UInt8):QCi l≤l.length:=(List.takeWhile_prefix _).length_le
theorem QLL (l:List UInt8):QI6 l≤l.length:=(List.takeWhile_prefix _).length_le
theorem QMB (l:List UInt8):QFe l≤l.length:=by
 unfold QFe
 split
 ·rename_i h
  have:=QLL (l.drop (QI6 l+1))
  rw [List.length_drop] at this
  have h2:=h.2
  omega
 ·exact QLL l
theorem QII {c:UInt8} (h:QAz c = true):QBv c = true:=by unfold QBv;rw [h];rfl
theorem QM9 {c:UInt8} {l:List UInt8} (h:QAz c = true):0 < QCi (c :: l):=by
 unfold QCi
 rw [List.takeWhile_cons,if_pos (QII h),List.length_cons]
 omega
theorem QNE {c:UInt8} {l:List UInt8} (h:QAZ c = true):0 < QI6 (c :: l):=by
 unfold QI6
 rw [List.takeWhile_cons,if_pos h,List.length_cons]
 omega
theorem QJC {c:UInt8} {l:List UInt8} (h:QAZ c = true):0 < QFe (c :: l):=by
 have:=QNE (l:=l) h
 unfold QFe
 split <;> omega
theorem QG8 {l s:List UInt8} (h:QCE l = some s):s∈signsL∧s.isPrefixOf l = true:=by
 unfold QCE at h
 exact ⟨List.mem_of_find?_eq_some h,by simpa using List.find?_some h⟩
theorem QHm {s:List UInt8} (h:s∈signsL):1≤s.length∧s.length≤2:=by
 have:∀ s∈signsL,1≤s.length∧s.length≤2:=by decide
 exact this s h
theorem QDn {l:List UInt8} {k n:Nat} {v:Int} (h:QEX l = some (k,n,v)):1≤k∧k≤4∧1≤n∧n≤l.length:=by
 cases l with
 | nil=>cases h
 | cons c l =>
  unfold QEX at h
  simp only at h
  split at h
  ·rename_i hc
   split at h
   ·simp only [Option.some.injEq,Prod.mk.injEq] at h
    obtain ⟨rfl,rfl,rfl⟩:=h
    have h1:=QM9 (l:=l) hc
    have h2:=QJA (c :: l)
    split <;> exact ⟨by omega,by omega,h1,h2⟩
   ·cases h
  ·split at h
   ·rename_i hd
    split at h
    ·simp only [Option.some.injEq,Prod.mk.injEq] at h
     obtain ⟨rfl,rfl,rfl⟩:=h
     exact ⟨by omega,by omega,QJC hd,QMB _⟩
    ·cases h
   ·cases hs:QCE (c :: l) with
    | none=>rw [hs] at h;cases h
    | some s =>
     rw [hs] at h
     simp only [Option.map_some,Option.some.injEq,Prod.mk.injEq] at h
     obtain ⟨rfl,rfl,rfl⟩:=h
     obtain ⟨h1,h2⟩:=QG8 hs
     have h3:=QHm h1
     exact ⟨by omega,by omega,h3.1,(List.isPrefixOf_iff_prefix.1 h2).length_le⟩
theorem QKf (l:List UInt8) (a:Nat):(QAX l a).kind = 0↔QEX (l.drop a) = none:=by
 unfold QAX
 cases h:QEX (l.drop a) with
 | none=>simp [QId]
 | some x =>
  obtain ⟨k,n,v⟩:=x
  have:=QDn h
  simp only [QId,reduceCtorEq,iff_false]
  omega
inductive Toks (l:List UInt8):Nat→List Tok→Option Nat→Prop
 | fin {a:Nat} (h:l.length≤a):Toks l a [] none
 | bad {a:Nat} (h:a < l.length) (h1:QEX (l.drop a) = none):Toks l a [] (some a)
 | tok {a:Nat} {ts:List Tok} {r:Option Nat} (h:a < l.length) (h1:QEX (l.drop a)≠none) (h2:Toks l (QAu false l (a+(QAX l a).text.length)) ts r):Toks l a (QAX l a :: ts) r
theorem QDu {l:List UInt8} {a:Nat} (h:QEX (l.drop a)≠none):1≤(QAX l a).text.length∧a+(QAX l a).text.length≤l.length:=by
 unfold QAX
 cases h1:QEX (l.drop a) with
 | none=>exact absurd h1 h
 | some x =>
  obtain ⟨k,n,v⟩:=x
  have h2:=QDn h1
  simp only [QId,List.length_take]
  rw [List.length_drop] at *
  omega
def QNd (l:List UInt8) (ts:List Tok) (r:Option Nat):Prop:=Toks l (QAu false l 0) ts r
theorem QCX {l:List UInt8} {a:Nat} {ts:List Tok} {r:Option Nat} (h:Toks l a ts r):ts.length+a≤max a l.length:=by
 induction h with
 | fin h=>simp;omega
 | bad h=>simp;omega
 | @tok a ts r h h1 h2 ih =>
  have h3:=QGT false l (a+(QAX l a).text.length)
  have h4:=QDu h1
  have h5:=QC8 false (l:=l) (a:=a+(QAX l a).text.length) h4.2
  simp only [List.length_cons]
  omega
end
section
open Go.RowKit
theorem QDh {l:List UInt8} {a n:Nat} (hn:l.length = n) (h:a < n):∃ c,l[a]? = some c:=⟨l[a]'(by omega),List.getElem?_eq_getElem _⟩
end
section
open Go.RowKit
theorem QFR (l:List UInt8) (a b:Nat):(str l).extract a b = str ((l.drop a).take (b - a)):=by
 rw [QMi]
 congr 1
 rw [List.take_drop]
 by_cases h:a≤b
 ·rw [show a+(b - a) = b by omega]
 ·rw [List.drop_eq_nil_of_le (by rw [List.length_take];omega),List.drop_eq_nil_of_le (by rw [List.length_take];omega)]
def RoomAt (w:World) (g:Nat):Prop :=
 w.cell? ⟨g,0,none⟩ = some (.int .i64 0)∧w.cell? ⟨g,1,none⟩ = some (.string ⟨#[]⟩)∧w.cell? ⟨g,2,none⟩ = some (.int .i64 0)∧w.cell? ⟨g,3,none⟩ = some (.int .i64 0) ∧
 w.frozen? ⟨g,0,none⟩ = false∧w.frozen? ⟨g,1,none⟩ = false∧w.frozen? ⟨g,2,none⟩ = false∧w.frozen? ⟨g,3,none⟩ = false
theorem RoomAt.below {w w' : World} {g B:Nat} (h:RoomAt w g) (hb:Below B w w') (hg:g < B):RoomAt w' g :=
 ⟨(hb.cell (p:=⟨g,0,none⟩) hg).trans h.1,(hb.cell (p:=⟨g,1,none⟩) hg).trans h.2.1,(hb.cell (p:=⟨g,2,none⟩) hg).trans h.2.2.1,(hb.cell (p:=⟨g,3,none⟩) hg).trans h.2.2.2.1,
  (hb.frozen (p:=⟨g,0,none⟩) hg).trans h.2.2.2.2.1,(hb.frozen (p:=⟨g,1,none⟩) hg).trans h.2.2.2.2.2.1,(hb.frozen (p:=⟨g,2,none⟩) hg).trans h.2.2.2.2.2.2.1,(hb.frozen (p:=⟨g,3,none⟩) hg).trans h.2.2.2.2.2.2.2⟩
theorem QEB (w:World) (T:TypeId):RoomAt (w.alloc (.cells #[.int .i64 0,.string ⟨#[]⟩,.int .i64 0,.int .i64 0] T)) w.heap.size :=
 ⟨by rw [World.cell?_alloc_new];rfl,by rw [World.cell?_alloc_new];rfl,by rw [World.cell?_alloc_new];rfl,by rw [World.cell?_alloc_new];rfl,
  World.frozen?_alloc_new _ _ _ _,World.frozen?_alloc_new _ _ _ _,World.frozen?_alloc_new _ _ _ _,World.frozen?_alloc_new _ _ _ _⟩
theorem QAb {B g:Nat} {w w1:World} (h:Below B w w1) (hg:B≤g) (x0 x1 x2 x3:Value):Below B w ((((w1.setCell ⟨g,0,none⟩ x0).setCell ⟨g,1,none⟩ x1).setCell ⟨g,2,none⟩ x2).setCell ⟨g,3,none⟩ x3) :=
 (((h.setCell (p:=⟨g,0,none⟩) hg _).setCell (p:=⟨g,1,none⟩) hg _).setCell (p:=⟨g,2,none⟩) hg _).setCell (p:=⟨g,3,none⟩) hg _
theorem QKg {l:List UInt8} {a:Nat} {c:UInt8} (hc:l[a]? = some c) (h:QAz c = true) :
  QAX l a = if QCi (l.drop a)≤16 then ⟨if QIk ((l.drop a).take (QCi (l.drop a))) = true then 3 else 1,(l.drop a).take (QCi (l.drop a)),0,a⟩ else ⟨0,[],0,a⟩:=by
 unfold QAX QEX
 rw [QB2 hc]
 simp only [h,if_true]
 split <;> rfl
end
section
open Go.RowKit
def QGc (l:List UInt8) (a:Nat):Nat:=a+QFe (l.drop a)
theorem QHH (l:List UInt8) (k:Nat):(l.drop k).head? = l[k]?:=by rw [List.head?_drop]
theorem QFG {l:List UInt8} {a:Nat} (h:l[QB7 QAZ l a]?≠some 46):QGc l a = QB7 QAZ l a:=by
 unfold QGc QFe
 rw [List.drop_drop,← QCU,QHH,if_neg (fun hh=>h hh.1)]
 exact (QCU l a).symm
theorem QHa {l:List UInt8} {a:Nat} (h:l[QB7 QAZ l a]? = some 46):QGc l a = if QB7 QAZ l a+1 < QB7 QAZ l (QB7 QAZ l a+1) then QB7 QAZ l (QB7 QAZ l a+1) else QB7 QAZ l a:=by
 have e:a+(QI6 (l.drop a)+1) = QB7 QAZ l a+1:=by rw [QCU];omega
 unfold QGc QFe
 rw [List.drop_drop,List.drop_drop,← QCU,QHH,h,e]
 rw [QCU l (QB7 QAZ l a+1)]
 generalize QI6 (l.drop (QB7 QAZ l a+1)) = q
 rw [QCU]
 generalize QI6 (l.drop a) = p
 by_cases hq:0 < q
 ·rw [if_pos ⟨rfl,hq⟩,if_pos (by omega)];omega
 ·rw [if_neg (fun hh=>hq hh.2),if_neg (by omega)]
end
section
open Go.RowKit
end
section
open Go.RowKit
def QCV:Array Value:=(signsL.map fun s=>Value.string (str s)).toArray
theorem QHX {d:List UInt8} {L:List (List UInt8)} (hno:L.all (fun s=>!s.isPrefixOf d) = true):L.find? (fun s=>s.isPrefixOf d) = none:=List.find?_eq_none.2 fun x hx=>by
 have h:(!x.isPrefixOf d) = true:=List.all_eq_true.1 hno x hx
 intro h2
 have h2' : x.isPrefixOf d = true:=h2
 rw [h2'] at h
 exact absurd h (by decide)
theorem QOE {d s:List UInt8} {j:Nat} (hs:signsL[j]? = some s) (hno:(signsL.take j).all (fun s=>!s.isPrefixOf d) = true) (hp:s.isPrefixOf d = true):QCE d = some s:=by
 have e:signsL = signsL.take j ++ s :: signsL.drop (j+1):=by
  obtain ⟨hj,rfl⟩:=List.getElem?_eq_some_iff.1 hs
  rw [← List.drop_eq_getElem_cons hj,List.take_append_drop]
 have h:QCE d = (signsL.take j ++ s :: signsL.drop (j+1)).find? (fun s=>s.isPrefixOf d):=by unfold QCE;exact congrArg (fun L:List (List UInt8)=>List.find? (fun s:List UInt8=>List.isPrefixOf s d) L) e
 rw [h,List.find?_append,QHX hno,Option.none_or]
 exact List.find?_cons_of_pos hp
theorem QMd {d:List UInt8} (hno:signsL.all (fun s=>!s.isPrefixOf d) = true):QCE d = none:=QHX hno
theorem QCb {α:Type} (f:α→Bool) {l:List α} {j:Nat} {x:α} (h:l[j]? = some x) (ha:(l.take j).all f = true) (hx:f x = true):(l.take (j+1)).all f = true:=by
 obtain ⟨h1,rfl⟩:=List.getElem?_eq_some_iff.1 h
 rw [List.take_succ_eq_append_getElem h1,List.all_append,ha]
 simp [hx]
theorem QFJ {d s:List UInt8} (h:s.isPrefixOf d = true):d.take s.length = s:=(List.prefix_iff_eq_take.1 (List.isPrefixOf_iff_prefix.1 h)).symm
theorem QMl {l:List UInt8} {a:Nat} {c:UInt8} (hc:l[a]? = some c) (h1:QAz c = false) (h2:QAZ c = true) :
  QAX l a = if (QBy ((l.drop a).take (QFe (l.drop a)))).2 = true then ⟨2,(l.drop a).take (QFe (l.drop a)),((QBy ((l.drop a).take (QFe (l.drop a)))).1:Int),a⟩ else ⟨0,[],0,a⟩:=by
 unfold QAX QEX
 rw [QB2 hc]
 simp only [h1,h2,if_true,Bool.false_eq_true,if_false]
 split <;> rfl
theorem QKh {l:List UInt8} {a:Nat} {c:UInt8} (hc:l[a]? = some c) (h1:QAz c = false) (h2:QAZ c = false) :
  QAX l a = QId ((QCE (l.drop a)).map fun s=>(4,s.length,0)) (l.drop a) a:=by
 unfold QAX QEX
 rw [QB2 hc]
 simp only [h1,h2,Bool.false_eq_true,if_false]
end
section
open Go.RowKit
def QJr (n:Nat):Tok:=⟨5,[],0,n⟩
end
section
open Go.RowKit
def QBF (ts:List Tok):List Value:=ts.flatMap fun t=>[.int .i64 (t.kind:Int),.string (str t.text),.int .i64 t.v,.int .i64 (t.at_:Int)]
theorem QDv (ts:List Tok) (t:Tok):QBF (ts ++ [t]) = QBF ts ++ [.int .i64 (t.kind:Int),.string (str t.text),.int .i64 t.v,.int .i64 (t.at_:Int)]:=by unfold QBF;rw [List.flatMap_append];simp
theorem QOS:(Tryz.prog.info? 49).map (fun i=>(i.zero,i.size,i.bytes)) = some (some (.agg #[.int .i64 0,.string ⟨#[]⟩,.int .i64 0,.int .i64 0]),4,40):=by kernel_rfl
theorem lt_of_heap {W:World} {k:Nat} {o:Obj} (h:W.heap[k]? = some o):k < W.heap.size:=(Array.getElem?_eq_some_iff.1 h).1
theorem QCc (W:World) (a b c d:Value) (T:TypeId) (j:Nat) (u:Value) (h : [a,b,c,d][j]? = some u):(W.alloc (.cells #[a,b,c,d] T)).cell? ((⟨W.heap.size,0,none⟩:Addr).add j) = some u:=by
 have e:(⟨W.heap.size,0,none⟩:Addr).add j = ⟨W.heap.size,j,none⟩:=by unfold Addr.add;split <;> simp_all
 rw [e,World.cell?_alloc_new,← h,← Array.getElem?_toList]
theorem set_heap {W:World} {g:Nat} {cs:Array Value} {T:TypeId} {fr:Nat × Nat} (h:W.heap[g]? = some (.cells cs T fr)) (i:Nat) (v:Value):(W.setCell ⟨g,i,none⟩ v).heap[g]? = some (.cells (cs.setIfInBounds i v) T fr):=by
 obtain ⟨hlt,hk⟩:=Array.getElem?_eq_some_iff.1 h
 show (W.heap.modify g _)[g]? = _
 rw [Array.getElem?_eq_getElem (by rw [Array.size_modify];exact hlt),Array.getElem_modify_self,hk]
 rfl
theorem QBA (W:World) (g k i:Nat) (v:Value) (h:k≠g):(W.setCell ⟨g,i,none⟩ v).heap[k]? = W.heap[k]?:=Below.heap_setCell W ⟨g,i,none⟩ v k h
end
section
open Go.RowKit
theorem QMa {w:World} {base g n cap:Nat} {xs:List Value} (h:w.ownsRow base 49 4 (.slice (some ⟨g,0,none⟩) n cap) n xs) (j:Nat) (u:Value) (hu:xs[j]? = some u):w.cell? ⟨g,j,none⟩ = some u:=by
 have:=h.cells (g:=g) rfl j u hu
 have e:(⟨g,0,none⟩:Addr).add j = ⟨g,j,none⟩:=by unfold Addr.add;split <;> simp_all
 rwa [e] at this
end
section
open Go.RowKit
def QKw (w:World) (g i:Nat) (t:Tok):Prop:=w.cell? ⟨g,i*4,none⟩ = some (.int .i64 (t.kind:Int))∧w.cell? ⟨g,i*4+1,none⟩ = some (.string (str t.text))∧w.cell? ⟨g,i*4+2,none⟩ = some (.int .i64 t.v)∧w.cell? ⟨g,i*4+3,none⟩ = some (.int .i64 (t.at_:Int))
theorem QGr (t:Tok) (ts:List Tok):QBF (t :: ts) = [.int .i64 (t.kind:Int),.string (str t.text),.int .i64 t.v,.int .i64 (t.at_:Int)] ++ QBF ts:=rfl
theorem QIc {ts:List Tok} {i:Nat} {t:Tok} (h:ts[i]? = some t):(QBF ts)[i*4]? = some (.int .i64 (t.kind:Int))∧(QBF ts)[i*4+1]? = some (.string (str t.text))∧(QBF ts)[i*4+2]? = some (.int .i64 t.v)∧(QBF ts)[i*4+3]? = some (.int .i64 (t.at_:Int)):=by
 induction ts generalizing i with
 | nil=>simp at h
 | cons u ts ih =>
  rw [QGr]
  cases i with
  | zero=>simp at h;subst h;exact ⟨rfl,rfl,rfl,rfl⟩
  | succ i =>
   have h2:=ih (i:=i) (by simpa using h)
   have e:∀ k,([Value.int .i64 (u.kind:Int),.string (str u.text),.int .i64 u.v,.int .i64 (u.at_:Int)] ++ QBF ts)[(i+1)*4+k]? = (QBF ts)[i*4+k]?:=fun k=>by
    rw [List.getElem?_append_right (by simp;omega)]
    congr 1
    simp
    omega
   exact ⟨(e 0).trans h2.1,(e 1).trans h2.2.1,(e 2).trans h2.2.2.1,(e 3).trans h2.2.2.2⟩
def RowAt (w:World) (g:Nat) (ts:List Tok):Prop:=g < w.heap.size∧∀ i t,ts[i]? = some t→QKw w g i t
theorem RowAt.below {w w' : World} {g:Nat} {ts:List Tok} (h:RowAt w g ts) (hb:Below w.heap.size w w'):RowAt w' g ts :=
 ⟨Nat.lt_of_lt_of_le h.1 hb.size,fun i t ht=>by
  obtain ⟨h1,h2,h3,h4⟩:=h.2 i t ht
  exact ⟨(hb.cell (p:=⟨g,i*4,none⟩) h.1).trans h1,(hb.cell (p:=⟨g,i*4+1,none⟩) h.1).trans h2,(hb.cell (p:=⟨g,i*4+2,none⟩) h.1).trans h3,(hb.cell (p:=⟨g,i*4+3,none⟩) h.1).trans h4⟩⟩
end
section
open Go.RowKit
def QKz (c f:Int) (w:World) (e:Ending) (w' : World):Prop:=e = .returned (.tuple #[.slice none 0 0,.agg #[.int .i64 c,.int .i64 f]])∧Below w.heap.size w w'
def QHw (us:List Tok) (p:Nat) (w:World) (e:Ending) (w' : World):Prop:=∃ g cap,e = .returned (.tuple #[.slice (some ⟨g,0,none⟩) p cap,.agg #[.int .i64 0,.int .i64 0]])∧Below w.heap.size w w'∧RowAt w' g us
def QOg:Prop:=∀ (l:List UInt8) (ts:List Tok) (r:Option Nat),QNd l ts r→∀ W,Calls Tryz.prog 11 #[.string (str l)] W fun e w' =>
 (20000 < l.length→QKz 10 0 W e w')∧(l.length≤20000→match r with | some f=>QKz 1 (f:Int) W e w' | none=>QHw (ts ++ [QJr l.length]) (ts.length+1) W e w')
end
section
open Go.RowKit
theorem QIH (x:Nat) (hx:(x:Int)≤255) (R:Bool) (hR:Hid (R = ((decide (97≤x) && decide (x≤122)) || ((decide (65≤x) && decide (x≤90)) || decide (x = 95))))) (w:World) :
  Calls Tryz.prog 53 #[.int .u8 (x:Int)] w fun e w'=>e = .returned (.bool R)∧w' = w:=by
 by_cases h65:65≤x
 ·have Lb:decide ((65:Int)≤(x:Int)) = true:=decide_eq_true (by omega)
  by_cases h90:x≤90
  ·have Lc:decide ((x:Int)≤90) = true:=decide_eq_true (by omega)
   obtain rfl:R = true:=by rw [hR.out,decide_eq_true h65,decide_eq_true h90];simp
   clear hR
   go_enter Tryz.func53,Tryz.ntmps53
   go_wp2_with fail
   go_ret
   exact ⟨rfl,rfl⟩
  ·have Lc:decide ((x:Int)≤90) = false:=decide_eq_false (by omega)
   by_cases h97:97≤x
   ·have LY:decide ((97:Int)≤(x:Int)) = true:=decide_eq_true (by omega)
    by_cases h122:x≤122
    ·have Ki:decide ((x:Int)≤122) = true:=decide_eq_true (by omega)
     obtain rfl:R = true:=by rw [hR.out,decide_eq_true h97,decide_eq_true h122];simp
     clear hR
     go_enter Tryz.func53,Tryz.ntmps53
     go_wp2_with fail
     go_ret
     exact ⟨rfl,rfl⟩
    ·have Ki:decide ((x:Int)≤122) = false:=decide_eq_false (by omega)
     have n95:¬ (x:Int) = 95:=by omega
     have m95:((x:Int) == 95) = false:=beq_false_of_ne n95
     obtain rfl:R = false:=by rw [hR.out,decide_eq_false h122,decide_eq_false h90,decide_eq_false (show ¬ x = 95 by omega)];simp
     clear hR
     go_enter Tryz.func53,Tryz.ntmps53
     go_wp2_with fail
     go_ret
     exact ⟨rfl,rfl⟩
   ·have LY:decide ((97:Int)≤(x:Int)) = false:=decide_eq_false (by omega)
    by_cases h95:x = 95
    ·subst h95
     obtain rfl:R = true:=by rw [hR.out];rfl
     clear hR
     go_enter Tryz.func53,Tryz.ntmps53
     go_wp2_with fail
     go_ret
     exact ⟨rfl,rfl⟩
    ·have n95:¬ (x:Int) = 95:=by omega
     have m95:((x:Int) == 95) = false:=beq_false_of_ne n95
     obtain rfl:R = false:=by rw [hR.out,decide_eq_false h97,decide_eq_false h90,decide_eq_false h95];simp
     clear hR
     go_enter Tryz.func53,Tryz.ntmps53
     go_wp2_with fail
     go_ret
     exact ⟨rfl,rfl⟩
 ·have Lb:decide ((65:Int)≤(x:Int)) = false:=decide_eq_false (by omega)
  have LY:decide ((97:Int)≤(x:Int)) = false:=decide_eq_false (by omega)
  have n95:¬ (x:Int) = 95:=by omega
  have m95:((x:Int) == 95) = false:=beq_false_of_ne n95
  obtain rfl:R = false:=by rw [hR.out,decide_eq_false h65,decide_eq_false (show ¬ 97≤x by omega),decide_eq_false (show ¬ x = 95 by omega)];simp
  clear hR
  go_enter Tryz.func53,Tryz.ntmps53
  go_wp2_with fail
  go_ret
  exact ⟨rfl,rfl⟩
theorem u8_95 (c:UInt8):(c == 95) = decide (c.toNat = 95):=by
 rw [Bool.eq_iff_iff]
 simp only [beq_iff_eq,decide_eq_true_eq]
 exact ⟨fun h=>by rw [h];rfl,fun h=>UInt8.toNat_inj.1 (by rw [h];rfl)⟩
theorem QD6 (c:UInt8) (w:World):Calls Tryz.prog 53 #[.int .u8 (c.toNat:Int)] w fun e w'=>e = .returned (.bool (QAz c))∧w' = w :=
 QIH c.toNat (by have:=c.toNat_lt;omega) _ (hid (by unfold QAz;rw [u8_95])) w
theorem QJq (x:Nat) (R:Bool) (hR:Hid (R = (decide (48≤x) && decide (x≤57)))) (w:World) :
  Calls Tryz.prog 54 #[.int .u8 (x:Int)] w fun e w'=>e = .returned (.bool R)∧w' = w:=by
 by_cases h48:48≤x
 ·have LZ:decide ((48:Int)≤(x:Int)) = true:=decide_eq_true (by omega)
  by_cases h57:x≤57
  ·have La:decide ((x:Int)≤57) = true:=decide_eq_true (by omega)
   obtain rfl:R = true:=by rw [hR.out,decide_eq_true h48,decide_eq_true h57];rfl
   clear hR
   go_enter Tryz.func54,Tryz.ntmps54
   go_wp2_with fail
   go_ret
   exact ⟨rfl,rfl⟩
  ·have La:decide ((x:Int)≤57) = false:=decide_eq_false (by omega)
   obtain rfl:R = false:=by rw [hR.out,decide_eq_false h57];simp
   clear hR
   go_enter Tryz.func54,Tryz.ntmps54
   go_wp2_with fail
   go_ret
   exact ⟨rfl,rfl⟩
 ·have LZ:decide ((48:Int)≤(x:Int)) = false:=decide_eq_false (by omega)
  obtain rfl:R = false:=by rw [hR.out,decide_eq_false h48];rfl
  clear hR
  go_enter Tryz.func54,Tryz.ntmps54
  go_wp2_with fail
  go_ret
  exact ⟨rfl,rfl⟩
theorem QBK (c:UInt8) (w:World):Calls Tryz.prog 54 #[.int .u8 (c.toNat:Int)] w fun e w'=>e = .returned (.bool (QAZ c))∧w' = w :=
 QJq c.toNat _ (hid rfl) w
theorem QCG {c k:UInt8} (h:c≠k) (K:Int) (hK:(k.toNat:Int) = K):(c == k) = false∧(c != k) = true∧¬ (c.toNat:Int) = K∧((c.toNat:Int) == K) = false∧((c.toNat:Int) != K) = true:=by
 have h2:¬ (c.toNat:Int) = K:=fun e=>h (UInt8.toNat_inj.1 (by omega))
 exact ⟨beq_false_of_ne h,bne_iff_ne.2 h,h2,beq_false_of_ne h2,bne_iff_ne.2 h2⟩
theorem QMe (l:List UInt8) (n:Nat) (hn:Hid (l.length = n)) (nl:(n:Int)≤30000) (hs:(str l).size = n) (a:Nat) (ha:a≤n) (R:Nat) (hR:Hid (QAu false l a = R)) (w:World) :
  Calls Tryz.prog 23 #[.string (str l),.int .i64 (a:Int)] w fun e w'=>e = .returned (.int .i64 (R:Int))∧w' = w:=by
 go_enter Tryz.func23,Tryz.ntmps23
 go_wp2_with fail
 go_loop [1,5] (fun i b=>∃ (j:Nat) (cm:Bool),j≤n∧Hid (QAu cm l j = R)∧i = .int .i64 j∧b = .bool cm) (fun i _=>n - QA2 i)
 case atStart=>exact ⟨a,false,ha,hR,rfl,rfl⟩
 case round =>
  obtain ⟨j,cm,hj,hr,rfl,rfl⟩:=hrel
  rcases Nat.lt_or_ge j n with hlt | hge
  ·have q3:decide ((j:Int) < (n:Int)) = true:=decide_eq_true (by omega)
   obtain ⟨c,hcj⟩:=QDh hn.out hlt
   have hix:∀ h,(str l)[j]'h = c:=fun h=>QCF l hcj h
   have HC:=hid hcj
   clear hcj
   cases cm with
   | true =>
    by_cases h10:c = 10
    ·subst h10
     go_wp2_with fail
     exact ⟨⟨j+1,false,by omega,hid (by rw [← QJx HC.out];exact hr.out),rfl,rfl⟩,by simp [QA2];omega⟩
    ·obtain ⟨b1,b2,b3,b4,b5⟩:=QCG h10 10 rfl
     have HT:=hid h10
     clear h10
     go_wp2_with fail
     exact ⟨⟨j+1,true,by omega,hid (by rw [← QGS HC.out HT.out];exact hr.out),rfl,rfl⟩,by simp [QA2];omega⟩
   | false =>
    by_cases h35:c = 35
    ·subst h35
     go_wp2_with fail
     exact ⟨⟨j+1,true,by omega,hid (by rw [← QJw HC.out];exact hr.out),rfl,rfl⟩,by simp [QA2];omega⟩
    ·obtain ⟨b1,b2,b3,b4,b5⟩:=QCG h35 35 rfl
     have H35:=hid h35
     clear h35
     by_cases h32:c = 32
     ·subst h32
      go_wp2_with fail
      exact ⟨⟨j+1,false,by omega,hid (by rw [← QCe HC.out (by decide)];exact hr.out),rfl,rfl⟩,by simp [QA2];omega⟩
     ·obtain ⟨c1,c2,c3,c4,c5⟩:=QCG h32 32 rfl
      have H32:=hid h32
      clear h32
      by_cases h9:c = 9
      ·subst h9
       go_wp2_with fail
       exact ⟨⟨j+1,false,by omega,hid (by rw [← QCe HC.out (by decide)];exact hr.out),rfl,rfl⟩,by simp [QA2];omega⟩
      ·obtain ⟨d1,d2,d3,d4,d5⟩:=QCG h9 9 rfl
       have H9:=hid h9
       clear h9
       by_cases h10:c = 10
       ·subst h10
        go_wp2_with fail
        exact ⟨⟨j+1,false,by omega,hid (by rw [← QCe HC.out (by decide)];exact hr.out),rfl,rfl⟩,by simp [QA2];omega⟩
       ·obtain ⟨e1,e2,e3,e4,e5⟩:=QCG h10 10 rfl
        have H10:=hid h10
        clear h10
        by_cases h13:c = 13
        ·subst h13
         go_wp2_with fail
         exact ⟨⟨j+1,false,by omega,hid (by rw [← QCe HC.out (by decide)];exact hr.out),rfl,rfl⟩,by simp [QA2];omega⟩
        ·obtain ⟨f1,f2,f3,f4,f5⟩:=QCG h13 13 rfl
         have hst:=hid (QJy HC.out H35.out (by unfold QF5;rw [c1,d1,e1,f1];rfl))
         clear h13
         go_wp2_with fail
         go_ret
         exact ⟨by rw [← hr.out,hst.out];rfl,rfl⟩
  ·have q3:decide ((j:Int) < (n:Int)) = false:=decide_eq_false (by omega)
   have hst:=hid (QLY cm (l:=l) (a:=j) (by rw [hn.out];exact hge))
   go_wp2_with fail
   go_ret
   exact ⟨by rw [← hr.out,hst.out];rfl,rfl⟩
theorem QOG (l:List UInt8) (nl:l.length≤30000) (a:Nat) (ha:a≤l.length) (w:World) :
  Calls Tryz.prog 23 #[.string (str l),.int .i64 (a:Int)] w fun e w'=>e = .returned (.int .i64 ((QAu false l a:Nat):Int))∧w' = w :=
 QMe l _ (hid rfl) (by omega) (QBE l) a ha _ (hid rfl) w
end
section
open Go.RowKit
def QCz:Array Value:=(wordsL.map fun s=>Value.string (str s)).toArray
theorem QD0 (a b:List UInt8):((str a).toList == (str b).toList) = (a == b):=by rw [QGB,QGB]
set_option maxRecDepth 100000 in
theorem QOb (l:List UInt8) (R:Bool) (hR:Hid (R = QIk l)) (w:World):Calls Tryz.prog 55 #[.string (str l)] w fun e w'=>e = .returned (.bool R)∧Below w.heap.size w w':=by
 have hcell:Hid (∀ (j:Nat) s,wordsL[j]? = some s→(w.alloc (.cells QCz 9)).cell? ⟨w.heap.size,j,none⟩ = some (.string (str s))):=hid fun j s hs=>by
  rw [World.cell?_alloc_new]
  unfold QCz
  rw [List.getElem?_toArray,List.getElem?_map,hs]
  rfl
 have hb:=hid ((Below.refl w.heap.size w).alloc (Nat.le_refl _) (.cells QCz 9))
 go_enter Tryz.func55,Tryz.ntmps55
 go_wp2_with fail
 obtain ⟨W1,hW1⟩:∃ W1,W1 = w.alloc (.cells QCz 9):=⟨_,rfl⟩
 rw [← hW1] at hcell hb
 change Code.wp _ _ _ _ (w.alloc (.cells QCz 9))
 rw [← hW1]
 have HW:=hid hW1
 clear hW1
 go_loop [4] (fun i=>∃ j:Nat,j≤30∧Hid ((wordsL.take j).contains l = false)∧i = .int .i64 j) (fun i=>30 - QA2 i)
 case atStart=>exact ⟨0,by omega,hid rfl,rfl⟩
 case round =>
  obtain ⟨j,hj,hno,rfl⟩:=hrel
  rcases Nat.lt_or_ge j 30 with hlt | hge
  ·have q3:decide ((j:Int) < 30) = true:=decide_eq_true (by omega)
   obtain ⟨s,hsj⟩:∃ s,wordsL[j]? = some s:=⟨wordsL[j]'(by show j < 30;exact hlt),List.getElem?_eq_getElem _⟩
   have hc:=hcell.out j s hsj
   have HJ:=hid hsj
   have HM:=hid (List.mem_of_getElem? hsj)
   have HT:=hid (show wordsL.take (j+1) = wordsL.take j ++ [s] by
    obtain ⟨h1,rfl⟩:=List.getElem?_eq_some_iff.1 hsj
    exact List.take_succ_eq_append_getElem h1)
   clear hsj
   by_cases he:s = l
   ·have hq:((str s).toList == (str l).toList) = true:=by rw [QD0];simpa using he
    obtain rfl:R = true:=by rw [hR.out];unfold QIk;rw [List.contains_iff_mem,← he];exact HM.out
    clear hR he
    go_wp2_with fail
    go_ret
    exact ⟨rfl,hb.out⟩
   ·have hq:((str s).toList == (str l).toList) = false:=by rw [QD0];exact beq_false_of_ne he
    have HE:=hid he
    clear he
    go_wp2_with fail
    exact ⟨⟨j+1,by omega,hid (by
     have h1:=hno.out
     rw [HT.out]
     rw [Bool.eq_false_iff] at h1 ⊢
     intro h2
     rw [List.contains_iff_mem,List.mem_append] at h2
     rcases h2 with h2 | h2
     ·exact h1 (by rw [List.contains_iff_mem];exact h2)
     ·rw [List.mem_singleton] at h2;exact HE.out h2.symm),rfl⟩,by simp [QA2];omega⟩
  ·have q3:decide ((j:Int) < 30) = false:=decide_eq_false (by omega)
   obtain rfl:R = false:=by rw [hR.out];unfold QIk;have:=hno.out;rwa [List.take_of_length_le (by show 30≤j;exact hge)] at this
   clear hR
   go_wp2_with fail
   go_ret
   exact ⟨rfl,hb.out⟩
end
section
open Go.RowKit
def Tok4 (w:World) (g:Nat) (k v a:Int) (S:ByteArray):Prop :=
 w.cell? ⟨g,0,none⟩ = some (.int .i64 k)∧w.cell? ⟨g,1,none⟩ = some (.string S)∧w.cell? ⟨g,2,none⟩ = some (.int .i64 v)∧w.cell? ⟨g,3,none⟩ = some (.int .i64 a) ∧
 w.frozen? ⟨g,0,none⟩ = false∧w.frozen? ⟨g,1,none⟩ = false∧w.frozen? ⟨g,2,none⟩ = false∧w.frozen? ⟨g,3,none⟩ = false
theorem Tok4.below {w w' : World} {g B:Nat} {k v a:Int} {S:ByteArray} (h:Tok4 w g k v a S) (hb:Below B w w') (hg:g < B):Tok4 w' g k v a S :=
 ⟨(hb.cell (p:=⟨g,0,none⟩) hg).trans h.1,(hb.cell (p:=⟨g,1,none⟩) hg).trans h.2.1,(hb.cell (p:=⟨g,2,none⟩) hg).trans h.2.2.1,(hb.cell (p:=⟨g,3,none⟩) hg).trans h.2.2.2.1,
  (hb.frozen (p:=⟨g,0,none⟩) hg).trans h.2.2.2.2.1,(hb.frozen (p:=⟨g,1,none⟩) hg).trans h.2.2.2.2.2.1,(hb.frozen (p:=⟨g,2,none⟩) hg).trans h.2.2.2.2.2.2.1,(hb.frozen (p:=⟨g,3,none⟩) hg).trans h.2.2.2.2.2.2.2⟩
theorem QOQ (w:World) (k v a:Int) (S:ByteArray) (T:TypeId):Tok4 (w.alloc (.cells #[.int .i64 k,.string S,.int .i64 v,.int .i64 a] T)) w.heap.size k v a S :=
 ⟨by rw [World.cell?_alloc_new];rfl,by rw [World.cell?_alloc_new];rfl,by rw [World.cell?_alloc_new];rfl,by rw [World.cell?_alloc_new];rfl,
  World.frozen?_alloc_new _ _ _ _,World.frozen?_alloc_new _ _ _ _,World.frozen?_alloc_new _ _ _ _,World.frozen?_alloc_new _ _ _ _⟩
def QEq (k v a:Int) (S:ByteArray) (ok:Bool) (w:World) (e:Ending) (w' : World):Prop:=e = .returned (.tuple #[.agg #[.int .i64 k,.string S,.int .i64 v,.int .i64 a],.bool ok])∧Below w.heap.size w w'
theorem QEm {p:UInt8→Bool} {l:List UInt8} {j x:Nat} {c:UInt8} (h:l[j]? = some c) (hr:QB7 p l j = x) (hp:p c = true):QB7 p l (j+1) = x:=by rw [← QG6 h hp];exact hr
set_option maxRecDepth 100000 in
theorem QNw (l:List UInt8) (n:Nat) (hn:Hid (l.length = n)) (nl:(n:Int)≤30000) (hs:(str l).size = n) (a:Nat) (han:(a:Int) < (n:Int)) (c:UInt8) (hix:∀ h,(str l)[a]'h = c) (hcl:Hid (QAz c = true)) (x:Nat) (hx:Hid (QB7 QBv l a = x)) (hax:(a:Int)≤(x:Int)) (hxn:(x:Int)≤(n:Int))
  (T:ByteArray) (hT:(str l).extract a x = T) (t:List UInt8) (hTt:Hid (T = str t)) (m:Nat) (hm:(x:Int) - (a:Int) = (m:Int)) (K:Int) (Wb:Bool) (hWb:Hid (Wb = QIk t)) (hK:Hid (K = if Wb = true then 3 else 1)) (B:Bool) (hB:Hid (B = decide ((m:Int)≤16))) (w:World) :
  Calls Tryz.prog 24 #[.string (str l),.int .i64 (a:Int)] w fun e w'=>QEq K 0 a T B w e w':=by
 have LT:Hid (∀ (c:UInt8) w,Calls Tryz.prog 53 #[.int .u8 (c.toNat:Int)] w fun e w'=>e = .returned (.bool (QAz c))∧w' = w):=hid QD6
 have DT:Hid (∀ (c:UInt8) w,Calls Tryz.prog 54 #[.int .u8 (c.toNat:Int)] w fun e w'=>e = .returned (.bool (QAZ c))∧w' = w):=hid QBK
 have L0:Hid (∀ w,Calls Tryz.prog 53 #[.int .u8 (c.toNat:Int)] w fun e w'=>e = .returned (.bool true)∧w' = w):=hid fun w=>by have:=QD6 c w;rwa [hcl.out] at this
 have CW:Hid (∀ w,Calls Tryz.prog 55 #[.string T] w fun e w'=>e = .returned (.bool Wb)∧Below w.heap.size w w'):=hid fun w=>by rw [hTt.out];exact QOb t Wb hWb w
 have hb0:=hid ((Below.refl w.heap.size w).alloc (Nat.le_refl _) (.cells #[.int .i64 0,.string ⟨#[]⟩,.int .i64 0,.int .i64 0] 49))
 have hrm:=hid (QEB w 49)
 have hbx:=hid (by have:=QOQ (w.alloc (.cells #[.int .i64 0,.string ⟨#[]⟩,.int .i64 0,.int .i64 0] 49)) 1 0 a T 49;rwa [World.size_alloc] at this)
 have a0:(0:Int)≤(a:Int):=by omega
 have HE:Hid (∀ j:Nat,QB7 QBv l j = x→(n≤j∨∃ c,l[j]? = some c∧QBv c = false)→j = x):=hid fun j h1 h2=>by
  rcases h2 with h2 | ⟨c,h2,h3⟩
  ·rw [QFP (by rw [hn.out];exact h2)] at h1;exact h1
  ·rw [QED h2 h3] at h1;exact h1
 go_enter Tryz.func24,Tryz.ntmps24
 go_wp2_with (go_at_call 53;((with_reducible refine (L0.out _).mono ?_);rintro e w' ⟨rfl,rfl⟩))
 go_loop [7] (fun i=>∃ j:Nat,a≤j∧j≤n∧Hid (QB7 QBv l j = x)∧i = .int .i64 j) (fun i=>n - QA2 i)
 case atStart=>exact ⟨a,Nat.le_refl _,by omega,hx,rfl⟩
 case round =>
  obtain ⟨j,haj,hj,hr,rfl⟩:=hrel
  rcases Nat.lt_or_ge j n with hlt | hge
  ·have q3:decide ((j:Int) < (n:Int)) = true:=decide_eq_true (by omega)
   have jn:(j:Int) < (n:Int):=by omega
   obtain ⟨d,hdj⟩:=QDh hn.out hlt
   have hix2:∀ h,(str l)[j]'h = d:=fun h=>QCF l hdj h
   have HD:=hid hdj
   clear hdj
   obtain ⟨b1,hb1⟩:∃ b,b = QAz d:=⟨_,rfl⟩
   obtain ⟨b2,hb2⟩:∃ b,b = QAZ d:=⟨_,rfl⟩
   have LD:=hid (LT.out d)
   have DD:=hid (DT.out d)
   rw [← hb1] at LD
   rw [← hb2] at DD
   have H1:=hid hb1
   have H2:=hid hb2
   clear hb1 hb2
   cases b1 with
   | true =>
    go_wp2_with (go_at_call 53;((with_reducible refine (LD.out _).mono ?_);rintro e w' ⟨rfl,rfl⟩))
    exact ⟨⟨j+1,by omega,by omega,hid (QEm HD.out hr.out (by unfold QBv;rw [← H1.out];rfl)),rfl⟩,by simp [QA2];omega⟩
   | false =>
    cases b2 with
    | true =>
     go_wp2_with (first | (go_at_call 53;((with_reducible refine (LD.out _).mono ?_);rintro e w' ⟨rfl,rfl⟩)) | (go_at_call 54;((with_reducible refine (DD.out _).mono ?_);rintro e w' ⟨rfl,rfl⟩)))
     exact ⟨⟨j+1,by omega,by omega,hid (QEm HD.out hr.out (by unfold QBv;rw [← H2.out];simp)),rfl⟩,by simp [QA2];omega⟩
    | false =>
     obtain rfl:j = x:=HE.out j hr.out (.inr ⟨d,HD.out,by unfold QBv;rw [← H1.out,← H2.out];rfl⟩)
     have hb0':=hid ((Below.refl (w.heap.size+1) (w.alloc (.cells #[.int .i64 0,.string ⟨#[]⟩,.int .i64 0,.int .i64 0] 49))).alloc (by simp) (.cells #[.int .i64 1,.string T,.int .i64 0,.int .i64 (a:Int)] 49))
     have hbb:=hid (hb0.out.alloc hb0.out.size (.cells #[.int .i64 1,.string T,.int .i64 0,.int .i64 (a:Int)] 49))
     rcases Wb with _ | _
     ·obtain rfl:K = 1:=by rw [hK.out];rfl
      by_cases h16:(m:Int)≤16
      ·have IM:decide ((m:Int)≤16) = true:=decide_eq_true h16
       obtain rfl:B = true:=by rw [hB.out,IM]
       go_wp2_with (first | (go_at_call 53;((with_reducible refine (LD.out _).mono ?_);rintro e w' ⟨rfl,rfl⟩)) | (go_at_call 54;((with_reducible refine (DD.out _).mono ?_);rintro e w' ⟨rfl,rfl⟩)) | (go_at_call 55;((with_reducible refine (CW.out _).mono ?_);rintro e w3 ⟨rfl,hb3⟩;obtain ⟨x0,x1,x2,x3,y0,y1,y2,y3⟩:=hbx.out.below hb3 (by simp);obtain ⟨r0,r1,r2,r3,f0,f1,f2,f3⟩:=hrm.out.below (hb0'.out.trans (hb3.mono (by simp))) (Nat.lt_succ_self _);have HB3:=hid hb3;clear hb3)))
       exact bodyPost_ret (v:=.tuple #[.agg #[.int .i64 1,.string T,.int .i64 0,.int .i64 (a:Int)],.bool true]) (by simp [results,Tryz.results24,go_sem,r0,r1,r2,r3]) rfl ⟨rfl,QAb (hbb.out.trans (HB3.out.mono hbb.out.size)) (Nat.le_refl _) _ _ _ _⟩
      ·have IM:decide ((m:Int)≤16) = false:=decide_eq_false h16
       obtain rfl:B = false:=by rw [hB.out,IM]
       go_wp2_with (first | (go_at_call 53;((with_reducible refine (LD.out _).mono ?_);rintro e w' ⟨rfl,rfl⟩)) | (go_at_call 54;((with_reducible refine (DD.out _).mono ?_);rintro e w' ⟨rfl,rfl⟩)) | (go_at_call 55;((with_reducible refine (CW.out _).mono ?_);rintro e w3 ⟨rfl,hb3⟩;obtain ⟨x0,x1,x2,x3,y0,y1,y2,y3⟩:=hbx.out.below hb3 (by simp);obtain ⟨r0,r1,r2,r3,f0,f1,f2,f3⟩:=hrm.out.below (hb0'.out.trans (hb3.mono (by simp))) (Nat.lt_succ_self _);have HB3:=hid hb3;clear hb3)))
       exact bodyPost_ret (v:=.tuple #[.agg #[.int .i64 1,.string T,.int .i64 0,.int .i64 (a:Int)],.bool false]) (by simp [results,Tryz.results24,go_sem,r0,r1,r2,r3]) rfl ⟨rfl,QAb (hbb.out.trans (HB3.out.mono hbb.out.size)) (Nat.le_refl _) _ _ _ _⟩
     ·obtain rfl:K = 3:=by rw [hK.out];rfl
      by_cases h16:(m:Int)≤16
      ·have IM:decide ((m:Int)≤16) = true:=decide_eq_true h16
       obtain rfl:B = true:=by rw [hB.out,IM]
       go_wp2_with (first | (go_at_call 53;((with_reducible refine (LD.out _).mono ?_);rintro e w' ⟨rfl,rfl⟩)) | (go_at_call 54;((with_reducible refine (DD.out _).mono ?_);rintro e w' ⟨rfl,rfl⟩)) | (go_at_call 55;((with_reducible refine (CW.out _).mono ?_);rintro e w3 ⟨rfl,hb3⟩;obtain ⟨x0,x1,x2,x3,y0,y1,y2,y3⟩:=hbx.out.below hb3 (by simp);obtain ⟨r0,r1,r2,r3,f0,f1,f2,f3⟩:=hrm.out.below (hb0'.out.trans (hb3.mono (by simp))) (Nat.lt_succ_self _);have HB3:=hid hb3;clear hb3)))
       exact bodyPost_ret (v:=.tuple #[.agg #[.int .i64 3,.string T,.int .i64 0,.int .i64 (a:Int)],.bool true]) (by simp [results,Tryz.results24,go_sem,r0,r1,r2,r3]) rfl ⟨rfl,QAb ((hbb.out.trans (HB3.out.mono hbb.out.size)).setCell (p:=⟨w.heap.size+1,0,none⟩) (Nat.le_succ _) _) (Nat.le_refl _) _ _ _ _⟩
      ·have IM:decide ((m:Int)≤16) = false:=decide_eq_false h16
       obtain rfl:B = false:=by rw [hB.out,IM]
       go_wp2_with (first | (go_at_call 53;((with_reducible refine (LD.out _).mono ?_);rintro e w' ⟨rfl,rfl⟩)) | (go_at_call 54;((with_reducible refine (DD.out _).mono ?_);rintro e w' ⟨rfl,rfl⟩)) | (go_at_call 55;((with_reducible refine (CW.out _).mono ?_);rintro e w3 ⟨rfl,hb3⟩;obtain ⟨x0,x1,x2,x3,y0,y1,y2,y3⟩:=hbx.out.below hb3 (by simp);obtain ⟨r0,r1,r2,r3,f0,f1,f2,f3⟩:=hrm.out.below (hb0'.out.trans (hb3.mono (by simp))) (Nat.lt_succ_self _);have HB3:=hid hb3;clear hb3)))
       exact bodyPost_ret (v:=.tuple #[.agg #[.int .i64 3,.string T,.int .i64 0,.int .i64 (a:Int)],.bool false]) (by simp [results,Tryz.results24,go_sem,r0,r1,r2,r3]) rfl ⟨rfl,QAb ((hbb.out.trans (HB3.out.mono hbb.out.size)).setCell (p:=⟨w.heap.size+1,0,none⟩) (Nat.le_succ _) _) (Nat.le_refl _) _ _ _ _⟩
  ·have q3:decide ((j:Int) < (n:Int)) = false:=decide_eq_false (by omega)
   obtain rfl:j = x:=HE.out j hr.out (.inl hge)
   have hb0':=hid ((Below.refl (w.heap.size+1) (w.alloc (.cells #[.int .i64 0,.string ⟨#[]⟩,.int .i64 0,.int .i64 0] 49))).alloc (by simp) (.cells #[.int .i64 1,.string T,.int .i64 0,.int .i64 (a:Int)] 49))
   have hbb:=hid (hb0.out.alloc hb0.out.size (.cells #[.int .i64 1,.string T,.int .i64 0,.int .i64 (a:Int)] 49))
   rcases Wb with _ | _
   ·obtain rfl:K = 1:=by rw [hK.out];rfl
    by_cases h16:(m:Int)≤16
    ·have IM:decide ((m:Int)≤16) = true:=decide_eq_true h16
     obtain rfl:B = true:=by rw [hB.out,IM]
     go_wp2_with (first | (go_at_call 55;((with_reducible refine (CW.out _).mono ?_);rintro e w3 ⟨rfl,hb3⟩;obtain ⟨x0,x1,x2,x3,y0,y1,y2,y3⟩:=hbx.out.below hb3 (by simp);obtain ⟨r0,r1,r2,r3,f0,f1,f2,f3⟩:=hrm.out.below (hb0'.out.trans (hb3.mono (by simp))) (Nat.lt_succ_self _);have HB3:=hid hb3;clear hb3)))
     exact bodyPost_ret (v:=.tuple #[.agg #[.int .i64 1,.string T,.int .i64 0,.int .i64 (a:Int)],.bool true]) (by simp [results,Tryz.results24,go_sem,r0,r1,r2,r3]) rfl ⟨rfl,QAb (hbb.out.trans (HB3.out.mono hbb.out.size)) (Nat.le_refl _) _ _ _ _⟩
    ·have IM:decide ((m:Int)≤16) = false:=decide_eq_false h16
     obtain rfl:B = false:=by rw [hB.out,IM]
     go_wp2_with (first | (go_at_call 55;((with_reducible refine (CW.out _).mono ?_);rintro e w3 ⟨rfl,hb3⟩;obtain ⟨x0,x1,x2,x3,y0,y1,y2,y3⟩:=hbx.out.below hb3 (by simp);obtain ⟨r0,r1,r2,r3,f0,f1,f2,f3⟩:=hrm.out.below (hb0'.out.trans (hb3.mono (by simp))) (Nat.lt_succ_self _);have HB3:=hid hb3;clear hb3)))
     exact bodyPost_ret (v:=.tuple #[.agg #[.int .i64 1,.string T,.int .i64 0,.int .i64 (a:Int)],.bool false]) (by simp [results,Tryz.results24,go_sem,r0,r1,r2,r3]) rfl ⟨rfl,QAb (hbb.out.trans (HB3.out.mono hbb.out.size)) (Nat.le_refl _) _ _ _ _⟩
   ·obtain rfl:K = 3:=by rw [hK.out];rfl
    by_cases h16:(m:Int)≤16
    ·have IM:decide ((m:Int)≤16) = true:=decide_eq_true h16
     obtain rfl:B = true:=by rw [hB.out,IM]
     go_wp2_with (first | (go_at_call 55;((with_reducible refine (CW.out _).mono ?_);rintro e w3 ⟨rfl,hb3⟩;obtain ⟨x0,x1,x2,x3,y0,y1,y2,y3⟩:=hbx.out.below hb3 (by simp);obtain ⟨r0,r1,r2,r3,f0,f1,f2,f3⟩:=hrm.out.below (hb0'.out.trans (hb3.mono (by simp))) (Nat.lt_succ_self _);have HB3:=hid hb3;clear hb3)))
     exact bodyPost_ret (v:=.tuple #[.agg #[.int .i64 3,.string T,.int .i64 0,.int .i64 (a:Int)],.bool true]) (by simp [results,Tryz.results24,go_sem,r0,r1,r2,r3]) rfl ⟨rfl,QAb ((hbb.out.trans (HB3.out.mono hbb.out.size)).setCell (p:=⟨w.heap.size+1,0,none⟩) (Nat.le_succ _) _) (Nat.le_refl _) _ _ _ _⟩
    ·have IM:decide ((m:Int)≤16) = false:=decide_eq_false h16
     obtain rfl:B = false:=by rw [hB.out,IM]
     go_wp2_with (first | (go_at_call 55;((with_reducible refine (CW.out _).mono ?_);rintro e w3 ⟨rfl,hb3⟩;obtain ⟨x0,x1,x2,x3,y0,y1,y2,y3⟩:=hbx.out.below hb3 (by simp);obtain ⟨r0,r1,r2,r3,f0,f1,f2,f3⟩:=hrm.out.below (hb0'.out.trans (hb3.mono (by simp))) (Nat.lt_succ_self _);have HB3:=hid hb3;clear hb3)))
     exact bodyPost_ret (v:=.tuple #[.agg #[.int .i64 3,.string T,.int .i64 0,.int .i64 (a:Int)],.bool false]) (by simp [results,Tryz.results24,go_sem,r0,r1,r2,r3]) rfl ⟨rfl,QAb ((hbb.out.trans (HB3.out.mono hbb.out.size)).setCell (p:=⟨w.heap.size+1,0,none⟩) (Nat.le_succ _) _) (Nat.le_refl _) _ _ _ _⟩
end
section
open Go.RowKit
def QL0:Prop:=∀ (l:List UInt8) (a:Nat),a < l.length→l.length≤20000→∀ W,
 (QEX (l.drop a)≠none→Calls Tryz.prog 24 #[.string (str l),.int .i64 (a:Int)] W fun e w'=>QEq ((QAX l a).kind:Int) (QAX l a).v (a:Int) (str (QAX l a).text) true W e w') ∧
 (QEX (l.drop a) = none→Calls Tryz.prog 24 #[.string (str l),.int .i64 (a:Int)] W fun e w'=>∃ (k v a' : Int) (S:ByteArray),QEq k v a' S false W e w')
theorem QCR {B:Nat} {e:TypeId} {k:Nat} {v:Value} {n:Nat} {xs:List Value} {w w' : World} (h:w.ownsRow B e k v n xs) (hb:Below w.heap.size w w'):w'.ownsRow B e k v n xs :=
 h.kept (row:=none) ⟨hb.os,hb.tape,hb.output,hb.size,fun j hj _=>hb.block j hj⟩ (by cases hv:v.ownBlock <;> simp)
theorem QCZ (w:World) {ops:Array Oper} {QBd:List Oper} {o:Oper} {a:Act} {Q:Exit→Act→World→Prop}
  (hg:o.guard = none) (s x:Operand) (hop:o.op = Op.call { callee:=Callee.builtin Builtin.append,args:=#[s,x],argTypes:=#[41,41] })
  (base:Nat) (v:Value) (k:Nat) (xs:List Value) (hs:a.eval s = v) (hown:w.ownsRow base 49 4 v k xs) (ad:Addr) (news:List Value) (hx:a.eval x = .slice (some ad) 1 1) (hn:news.length = 1*4)
  (hc:∀ j u,news[j]? = some u→w.cell? (ad.add j) = some u) (h1c:∀ u∈news,u.oneCell' = true) (hk:k≤40000) (b3:base≤w.heap.size)
  (hK:∀ v' w',w'.ownsRow base 49 4 v' (k+1) (xs ++ news)→w.grownBy w' v.ownBlock→wpList Tryz.prog ops Q QBd (a.put o.dst v') w') :
  wpList Tryz.prog ops Q (o :: QBd) a w:=by
 obtain ⟨i,h2,h3,h4,h5⟩:=info_parts QOS
 refine wpList_plain hg fun K hK'=>?_
 obtain ⟨v',w',hrun,r1,r2,_⟩:=run_append_own (P:=Tryz.prog) w base 41 o.type 49 i _ 4 40 Tryz.underlying41 h2 h3 h4 h5 rfl (by decide) v k xs hown ad 1 1 news hn hc h1c (by unfold maxLen;omega) (by omega) b3
 unfold Oper.wp execOp
 simp only [hop,resolve,invoke,builtin,Sem.run_bind,Sem.run_pure,Result.andThen_ok,List.map_toArray,List.map_cons,List.map_nil,hs,hx,hrun]
 exact hK' _ _ (hK v' w' r1 r2)
def Room2 (w:World) (g:Nat):Prop:=w.cell? ⟨g,0,none⟩ = some (.int .i64 0)∧w.cell? ⟨g,1,none⟩ = some (.int .i64 0)∧w.frozen? ⟨g,0,none⟩ = false∧w.frozen? ⟨g,1,none⟩ = false
theorem Room2.below {w w' : World} {g B:Nat} (h:Room2 w g) (hb:Below B w w') (hg:g < B):Room2 w' g :=
 ⟨(hb.cell (p:=⟨g,0,none⟩) hg).trans h.1,(hb.cell (p:=⟨g,1,none⟩) hg).trans h.2.1,(hb.frozen (p:=⟨g,0,none⟩) hg).trans h.2.2.1,(hb.frozen (p:=⟨g,1,none⟩) hg).trans h.2.2.2⟩
theorem QMV (w:World) (T:TypeId):Room2 (w.alloc (.cells #[.int .i64 0,.int .i64 0] T)) w.heap.size :=
 ⟨by rw [World.cell?_alloc_new];rfl,by rw [World.cell?_alloc_new];rfl,World.frozen?_alloc_new _ _ _ _,World.frozen?_alloc_new _ _ _ _⟩
theorem QO4 (l:List UInt8) (n:Nat) (hs:(str l).size = n) (nl:(20000:Int) < (n:Int)) (w:World) :
  Calls Tryz.prog 11 #[.string (str l)] w fun e w'=>QKz 10 0 w e w':=by
 have q:decide ((20000:Int) < (n:Int)) = true:=decide_eq_true nl
 go_enter Tryz.func11,Tryz.ntmps11
 go_wp2_with fail
 exact bodyPost_ret (v:=.tuple #[.slice none 0 0,.agg #[.int .i64 10,.int .i64 0]]) (by simp [results,Tryz.results11,go_sem]) rfl ⟨rfl,(Below.refl w.heap.size w).alloc (Nat.le_refl _) _⟩
def LexAt (l:List UInt8) (ts:List Tok) (r:Option Nat) (w:World) (a:Nat) (v:Value) (m:Nat) (wr:World):Prop :=
 ∃ pre QBd:List Tok,ts = pre ++ QBd∧pre.length = m∧Toks l a QBd r∧wr.ownsRow (w.heap.size+1) 49 4 v m (QBF pre)∧Below (w.heap.size+1) (w.alloc (.cells #[.int .i64 0,.int .i64 0] 29)) wr
set_option maxRecDepth 100000 in
theorem QMS (O:Hid QL0) (l:List UInt8) (n:Nat) (hn:Hid (l.length = n)) (hs:(str l).size = n) (nl:(n:Int)≤20000) (ts:List Tok) (r:Option Nat) (ht:Hid (QNd l ts r)) (w:World) :
  Calls Tryz.prog 11 #[.string (str l)] w fun e w'=>match r with | some f=>QKz 1 (f:Int) w e w' | none=>QHw (ts ++ [QJr l.length]) (ts.length+1) w e w':=by
 have q:decide ((20000:Int) < (n:Int)) = false:=decide_eq_false (by omega)
 have SK:Hid (∀ (a:Nat),a≤n→∀ W,Calls Tryz.prog 23 #[.string (str l),.int .i64 (a:Int)] W fun e w'=>e = .returned (.int .i64 ((QAu false l a:Nat):Int))∧w' = W):=hid fun a ha W=>QOG l (by have:=hn.out;omega) a (by have:=hn.out;omega) W
 have HB:=hid ((Below.refl w.heap.size w).alloc (Nat.le_refl _) (.cells #[.int .i64 0,.int .i64 0] 29))
 have RM:=hid (QMV w 29)
 obtain ⟨G0,hG0⟩:∃ G0,G0 = QAu false l 0:=⟨_,rfl⟩
 have S0:Hid (∀ W,Calls Tryz.prog 23 #[.string (str l),.int .i64 0] W fun e w'=>e = .returned (.int .i64 (G0:Int))∧w' = W):=hid (by rw [hG0];exact SK.out 0 (by omega))
 have HG0:=hid hG0
 clear hG0
 go_enter Tryz.func11,Tryz.ntmps11
 go_wp2_with (go_at_call 23;((with_reducible refine (S0.out _).mono ?_);rintro e w' ⟨rfl,rfl⟩))
 go_loopw [5,4] (fun i v wr=>∃ a m:Nat,i = .int .i64 a∧a≤n∧m≤n∧Hid (LexAt l ts r w a v m wr)) (fun i _ _=>n - QA2 i)
 case atStart =>
  exact ⟨G0,0,rfl,by rw [← hn.out,HG0.out];exact QC8 false (Nat.zero_le _),Nat.zero_le _,hid ⟨[],ts,rfl,rfl,by rw [HG0.out];exact ht.out,World.ownsRow_nil _ _ _ _,Below.refl _ _⟩⟩
 case round =>
  obtain ⟨a,m,rfl,ha,hm,hL⟩:=hrel
  rcases Nat.lt_or_ge a n with hlt | hge
  ·have q3:decide ((a:Int) < (n:Int)) = true:=decide_eq_true (by omega)
   have O1:=hid (O.out l a (by have:=hn.out;omega) (by have:=hn.out;omega) wr)
   by_cases ho:QEX (l.drop a) = none
   ·have C:Hid (Calls Tryz.prog 24 #[.string (str l),.int .i64 (a:Int)] wr fun e w'=>∃ (k v a' : Int) (S:ByteArray),e = .returned (.tuple #[.agg #[.int .i64 k,.string S,.int .i64 v,.int .i64 a'],.bool false])∧Below wr.heap.size wr w'):=hid (O1.out.2 ho)
    have hr:Hid (r = some a∧∃ pre QBd:List Tok,Below (w.heap.size+1) (w.alloc (.cells #[.int .i64 0,.int .i64 0] 29)) wr):=hid (by
     obtain ⟨pre,QBd,_,_,h3,_,h5⟩:=hL.out
     cases h3 with
     | fin h=>exact absurd h (by have:=hn.out;omega)
     | bad=>exact ⟨rfl,[],[],h5⟩
     | tok _ h1=>exact absurd ho h1)
    obtain rfl:=hr.out.1
    have BB:Hid (Below (w.heap.size+1) (w.alloc (.cells #[.int .i64 0,.int .i64 0] 29)) wr):=hid (by obtain ⟨_,_,_,h⟩:=hr.out;exact h)
    have SB:Hid (w.heap.size+1≤wr.heap.size):=hid (by have:=BB.out.size;simpa using this)
    clear ho
    go_wp2_with (go_at_call 24;((with_reducible refine C.out.mono ?_);rintro e w1 ⟨kk,vv,aa,S,rfl,hb1⟩;have B1:=hid ((BB.out.trans (hb1.mono SB.out)).alloc (Nat.le_trans SB.out hb1.size) (.cells #[.int .i64 kk,.string S,.int .i64 vv,.int .i64 aa] 49));obtain ⟨r0,r1,f0,f1⟩:=RM.out.below B1.out (Nat.lt_succ_self _);clear hb1))
    exact bodyPost_ret (v:=.tuple #[.slice none 0 0,.agg #[.int .i64 1,.int .i64 (a:Int)]]) (by simp [results,Tryz.results11,go_sem,r0,r1]) rfl ⟨rfl,((HB.out.trans (B1.out.mono (Nat.le_succ _))).setCell (p:=⟨w.heap.size,0,none⟩) (Nat.le_refl _) _).setCell (p:=⟨w.heap.size,1,none⟩) (Nat.le_refl _) _⟩
   ·have hlen:=QDu ho
    have hat:(QAX l a).at_ = a:=by unfold QAX;cases QEX (l.drop a) <;> rfl
    have hO:=O1.out.1 ho
    obtain ⟨pre,QBd,hts,hpm,hrest,hrow,hBB⟩:=hL.out
    obtain ⟨rest2,rfl,hrest2⟩:∃ rest2,QBd = QAX l a :: rest2∧Toks l (QAu false l (a+(QAX l a).text.length)) rest2 r:=by
     cases hrest with
     | fin h=>exact absurd h (by have:=hn.out;omega)
     | bad _ h=>exact absurd h ho
     | tok _ _ h=>exact ⟨_,rfl,h⟩
    generalize QAX l a = t at *
    obtain ⟨kk,tx,vv,aa⟩:=t
    obtain rfl:aa = a:=hat
    have C:Hid (Calls Tryz.prog 24 #[.string (str l),.int .i64 (aa:Int)] wr fun e w'=>e = .returned (.tuple #[.agg #[.int .i64 (kk:Int),.string (str tx),.int .i64 vv,.int .i64 (aa:Int)],.bool true])∧Below wr.heap.size wr w'):=hid hO
    obtain ⟨L,hL2⟩:∃ L,L = tx.length:=⟨_,rfl⟩
    have hsz:(str tx).size = L:=by rw [QBE,hL2]
    have hl1:1≤L:=by rw [hL2];exact hlen.1
    have hl2:aa+L≤n:=by rw [hL2,← hn.out];exact hlen.2
    have hl3:(L:Int)≤20000:=by omega
    obtain ⟨G1,hG1⟩:∃ G1,G1 = QAu false l (aa+L):=⟨_,rfl⟩
    have hg1:aa < G1:=by rw [hG1];have:=QGT false l (aa+L);omega
    have hg2:G1≤n:=by rw [hG1,← hn.out];exact QC8 false (by rw [hn.out];exact hl2)
    have SK1:Hid (∀ W,Calls Tryz.prog 23 #[.string (str l),.int .i64 ((aa:Int)+(L:Int))] W fun e w'=>e = .returned (.int .i64 (G1:Int))∧w' = W):=hid (by rw [hG1];exact SK.out (aa+L) hl2)
    have HR2:Hid (Toks l G1 rest2 r):=hid (by rw [hG1,hL2];exact hrest2)
    have HTS:=hid hts
    have HPM:=hid hpm
    have HROW:=hid hrow
    have BB:=hid hBB
    have SB:Hid (w.heap.size+1≤wr.heap.size):=hid (by have:=hBB.size;simpa using this)
    have hmn:m+1≤n:=by
     have h1:=QCX ht.out
     have h2:=QC8 false (Nat.zero_le l.length)
     rw [hts] at h1
     simp only [List.length_append,List.length_cons] at h1
     have:=hn.out
     omega
    have HM:=hid hmn
    clear hlen hO hrest hrest2 hts hpm hrow hBB ho hL2 hG1 hmn
    go_wp2_with (first | (go_at_call 24;((with_reducible refine C.out.mono ?_);rintro e w1 ⟨rfl,hb1⟩;have B1:=hid (BB.out.trans (hb1.mono SB.out));have S1:=hid (Nat.le_trans SB.out hb1.size);have SW:=hid hb1.size;have R1:=hid (QCR HROW.out hb1);have CF:Hid (∀ j u,[Value.int .i64 (kk:Int),.string (str tx),.int .i64 vv,.int .i64 (aa:Int)][j]? = some u→((w1.alloc (.cells #[.int .i64 (kk:Int),.string (str tx),.int .i64 vv,.int .i64 (aa:Int)] 49)).alloc (.cells #[.int .i64 (kk:Int),.string (str tx),.int .i64 vv,.int .i64 (aa:Int)] 49)).cell? ((⟨w1.heap.size+1,0,none⟩:Addr).add j) = some u):=hid (fun j u hju=>by have:=QCc (w1.alloc (.cells #[.int .i64 (kk:Int),.string (str tx),.int .i64 vv,.int .i64 (aa:Int)] 49)) _ _ _ _ 49 j u hju;rwa [World.size_alloc] at this);clear hb1)) | (at_builtin;refine QCZ _ rfl _ _ rfl (w.heap.size+1) _ m _ rfl ((R1.out.alloc _).alloc _) ⟨w1.heap.size+1,0,none⟩ [.int .i64 (kk:Int),.string (str tx),.int .i64 vv,.int .i64 (aa:Int)] rfl rfl CF.out (by simp [Value.oneCell']) (by have:=HM.out;omega) (by have:=S1.out;simp;omega) ?_;intro v' w3 hown' hgrow;have y1:w3.cell? ⟨w1.heap.size,1,none⟩ = some (.string (str tx)):=hgrow.cell (by rw [World.cell?_alloc_old _ _ _ (by simp),World.cell?_alloc_new];rfl) (fun e=>by have:=(HROW.out.lt _ e.symm).2;have:=SW.out;simp at *;omega);have G1':=hid hown';have G2':=hid (((B1.out.alloc (by have:=S1.out;simp;omega) (.cells #[.int .i64 (kk:Int),.string (str tx),.int .i64 vv,.int .i64 (aa:Int)] 49)).alloc (by have:=S1.out;simp;omega) (.cells #[.int .i64 (kk:Int),.string (str tx),.int .i64 vv,.int .i64 (aa:Int)] 49)).grown hgrow (by have:=S1.out;simp;omega) (fun k hk=>(HROW.out.lt k hk).1));clear hown' hgrow) | (go_at_call 23;((with_reducible refine (SK1.out _).mono ?_);rintro e w' ⟨rfl,rfl⟩)))
    exact ⟨⟨G1,m+1,rfl,hg2,HM.out,hid ⟨pre ++ [⟨kk,tx,vv,aa⟩],rest2,by rw [HTS.out];simp,by simp [HPM.out],HR2.out,by rw [QDv];exact G1'.out,G2'.out⟩⟩,by simp [QA2];omega⟩
  ·have q3:decide ((a:Int) < (n:Int)) = false:=decide_eq_false (by omega)
   obtain ⟨pre,QBd,hts,hpm,hrest,hrow,hBB⟩:=hL.out
   obtain ⟨rfl,rfl⟩:QBd = []∧r = none:=by
    cases hrest with
    | fin h=>exact ⟨rfl,rfl⟩
    | bad h=>exact absurd h (by have:=hn.out;omega)
    | tok h=>exact absurd h (by have:=hn.out;omega)
   have HTS:=hid (show ts = pre by rw [hts];simp)
   have HPM:=hid hpm
   have HROW:=hid hrow
   have BB:=hid hBB
   have SB:Hid (w.heap.size+1≤wr.heap.size):=hid (by have:=hBB.size;simpa using this)
   have CF:Hid (∀ j u,[Value.int .i64 5,.string ⟨#[]⟩,.int .i64 0,.int .i64 (n:Int)][j]? = some u→(wr.alloc (.cells #[.int .i64 5,.string ⟨#[]⟩,.int .i64 0,.int .i64 (n:Int)] 49)).cell? ((⟨wr.heap.size,0,none⟩:Addr).add j) = some u):=hid (QCc wr _ _ _ _ 49)
   clear hts hpm hrest hrow hBB
   go_wp2_with (at_builtin;refine QCZ _ rfl _ _ rfl (w.heap.size+1) _ m _ rfl (HROW.out.alloc _) ⟨wr.heap.size,0,none⟩ [.int .i64 5,.string ⟨#[]⟩,.int .i64 0,.int .i64 (n:Int)] rfl rfl CF.out (by simp [Value.oneCell']) (by omega) (by have:=SB.out;simp;omega) ?_;intro v' w3 hown' hgrow;obtain ⟨g',cap',rfl⟩:=ownsRow_succ hown';have G1':=hid hown';have G2':=hid ((BB.out.alloc (by have:=SB.out;simp;omega) (.cells #[.int .i64 5,.string ⟨#[]⟩,.int .i64 0,.int .i64 (n:Int)] 49)).grown hgrow (by have:=SB.out;simp;omega) (fun k hk=>(HROW.out.lt k hk).1));obtain ⟨r0,r1,f0,f1⟩:=RM.out.below G2'.out (Nat.lt_succ_self _);clear hown' hgrow)
   have hg:=G1'.out.lt g' rfl
   refine bodyPost_ret (v:=.tuple #[.slice (some ⟨g',0,none⟩) (m+1) cap',.agg #[.int .i64 0,.int .i64 0]]) (by simp [results,Tryz.results11,go_sem,r0,r1]) rfl ⟨g',cap',by rw [HTS.out,HPM.out],((HB.out.trans (G2'.out.mono (Nat.le_succ _))).setCell (p:=⟨w.heap.size,0,none⟩) (Nat.le_refl _) _).setCell (p:=⟨w.heap.size,1,none⟩) (Nat.le_refl _) _,by simp;exact hg.2,?_⟩
   have hcells:∀ j u,(QBF (ts ++ [QJr l.length]))[j]? = some u→((w3.setCell ⟨w.heap.size,0,none⟩ (.int .i64 0)).setCell ⟨w.heap.size,1,none⟩ (.int .i64 0)).cell? ⟨g',j,none⟩ = some u:=fun j u hu=>by
    rw [World.cell?_setCell_other _ _ _ _ (by intro e;injection e with e;omega),World.cell?_setCell_other _ _ _ _ (by intro e;injection e with e;omega)]
    refine QMa G1'.out j u ?_
    rw [HTS.out,QDv] at hu
    rw [← hn.out]
    exact hu
   intro i t hi
   obtain ⟨h1,h2,h3,h4⟩:=QIc hi
   exact ⟨hcells _ _ h1,hcells _ _ h2,hcells _ _ h3,hcells _ _ h4⟩
theorem ref_lex (O:QL0):QOg:=fun l ts r ht W=>by
 rcases Nat.lt_or_ge 20000 l.length with h | h
 ·exact (QO4 l _ (QBE l) (by omega) W).mono fun e w' h2=>⟨fun _=>h2,fun h3=>absurd h3 (by omega)⟩
 ·exact (QMS (hid O) l _ (hid rfl) (QBE l) (by omega) ts r (hid ht) W).mono fun e w' h2=>⟨fun h3=>absurd h3 (by omega),fun _=>by cases r <;> exact h2⟩
end
section
open Go.RowKit
def SignRet (a:Nat) (o:Option (List UInt8)) (w:World) (e:Ending) (w' : World):Prop :=
 (∃ s,o = some s∧QEq 4 0 (a:Int) (str s) true w e w')∨(o = none∧QEq 0 0 0 ⟨#[]⟩ false w e w')
theorem QMK (d s:List UInt8):s.isPrefixOf d = (d.take s.length == s):=by
 cases h:s.isPrefixOf d with
 | true=>rw [QFJ h];simp
 | false =>
  symm
  rw [beq_eq_false_iff_ne]
  intro e
  have:s.isPrefixOf d = true:=by rw [List.isPrefixOf_iff_prefix,← e];exact List.take_prefix _ _
  rw [h] at this
  cases this
set_option maxRecDepth 100000 in
theorem QNx (l:List UInt8) (n:Nat) (hn:Hid (l.length = n)) (nl:(n:Int)≤30000) (hs:(str l).size = n) (a:Nat) (han:(a:Int) < (n:Int)) (c:UInt8) (hix:∀ h,(str l)[a]'h = c) (hcl:Hid (QAz c = false)) (hcd:Hid (QAZ c = false)) (o:Option (List UInt8)) (ho:Hid (QCE (l.drop a) = o)) (w:World) :
  Calls Tryz.prog 24 #[.string (str l),.int .i64 (a:Int)] w fun e w'=>SignRet a o w e w':=by
 have L0:Hid (∀ w,Calls Tryz.prog 53 #[.int .u8 (c.toNat:Int)] w fun e w'=>e = .returned (.bool false)∧w' = w):=hid fun w=>by have:=QD6 c w;rwa [hcl.out] at this
 have D0:Hid (∀ w,Calls Tryz.prog 54 #[.int .u8 (c.toNat:Int)] w fun e w'=>e = .returned (.bool false)∧w' = w):=hid fun w=>by have:=QBK c w;rwa [hcd.out] at this
 have hb0:=hid ((Below.refl w.heap.size w).alloc (Nat.le_refl _) (.cells #[.int .i64 0,.string ⟨#[]⟩,.int .i64 0,.int .i64 0] 49))
 have hrm:=hid (QEB w 49)
 have hb1:=hid (((Below.refl (w.heap.size+1) (w.alloc (.cells #[.int .i64 0,.string ⟨#[]⟩,.int .i64 0,.int .i64 0] 49))).alloc (by simp) (.cells QCV 9)))
 have hcell:Hid (∀ (j:Nat) s,signsL[j]? = some s→((w.alloc (.cells #[.int .i64 0,.string ⟨#[]⟩,.int .i64 0,.int .i64 0] 49)).alloc (.cells QCV 9)).cell? ⟨w.heap.size+1,j,none⟩ = some (.string (str s))):=hid fun j s hs=>by
  have:((w.alloc (.cells #[.int .i64 0,.string ⟨#[]⟩,.int .i64 0,.int .i64 0] 49)).alloc (.cells QCV 9)).cell? ⟨(w.alloc (.cells #[.int .i64 0,.string ⟨#[]⟩,.int .i64 0,.int .i64 0] 49)).heap.size,j,none⟩ = some (.string (str s)):=by
   rw [World.cell?_alloc_new]
   unfold QCV
   rw [List.getElem?_toArray,List.getElem?_map,hs]
   rfl
  rwa [World.size_alloc] at this
 go_enter Tryz.func24,Tryz.ntmps24
 go_wp2_with (first | (go_at_call 53;((with_reducible refine (L0.out _).mono ?_);rintro e w' ⟨rfl,rfl⟩)) | (go_at_call 54;((with_reducible refine (D0.out _).mono ?_);rintro e w' ⟨rfl,rfl⟩)))
 obtain ⟨W1,hW1⟩:∃ W1,W1 = (w.alloc (.cells #[.int .i64 0,.string ⟨#[]⟩,.int .i64 0,.int .i64 0] 49)).alloc (.cells QCV 9):=⟨_,rfl⟩
 rw [← hW1] at hcell hb1
 change Code.wp _ _ _ _ ((w.alloc (.cells #[.int .i64 0,.string ⟨#[]⟩,.int .i64 0,.int .i64 0] 49)).alloc (.cells QCV 9))
 rw [← hW1]
 have HW:=hid hW1
 have HSZ:Hid (W1.heap.size = w.heap.size+1+1):=hid (by rw [hW1];simp)
 clear hW1
 go_loopw [12] (fun i wr=>∃ j:Nat,j≤17∧Hid ((signsL.take j).all (fun s=>!s.isPrefixOf (l.drop a)) = true)∧i = .int .i64 j∧Hid (Below (w.heap.size+1+1) W1 wr)) (fun i _=>17 - QA2 i)
 case atStart=>exact ⟨0,by omega,hid rfl,rfl,hid (Below.refl _ _)⟩
 case round =>
  obtain ⟨j,hj,hno,rfl,hB⟩:=hrel
  have hBB:=hid (hb1.out.trans (hB.out.mono (Nat.le_succ _)))
  obtain ⟨r0,r1,r2,r3,f0,f1,f2,f3⟩:=hrm.out.below hBB.out (Nat.lt_succ_self _)
  have hBw:=hid (hb0.out.trans (hBB.out.mono (Nat.le_succ _)))
  rcases Nat.lt_or_ge j 17 with hlt | hge
  ·have q3:decide ((j:Int) < 17) = true:=decide_eq_true (by omega)
   obtain ⟨s,hsj⟩:∃ s,signsL[j]? = some s:=⟨signsL[j]'(by show j < 17;exact hlt),List.getElem?_eq_getElem _⟩
   have hc:wr.cell? ⟨w.heap.size+1,j,none⟩ = some (.string (str s)):=(hB.out.cell (p:=⟨w.heap.size+1,j,none⟩) (Nat.lt_succ_self _)).trans (hcell.out j s hsj)
   have HJ:=hid hsj
   have hk:=QHm (List.mem_of_getElem? hsj)
   obtain ⟨k,hk0⟩:∃ k,k = s.length:=⟨_,rfl⟩
   have hks:(str s).size = k:=by rw [QBE,hk0]
   obtain ⟨x,hx⟩:∃ x,x = a+k:=⟨_,rfl⟩
   have hax:(a:Int)+(k:Int) = (x:Int):=by omega
   have hk2:(k:Int)≤2:=by omega
   have hxa:(a:Int)≤(x:Int):=by omega
   have hx3:(x:Int)≤30010:=by omega
   have HK0:=hid hk0
   have HX:=hid hx
   clear hsj hk hk0 hx
   by_cases hxn:(x:Int)≤(n:Int)
   ·have q4:decide ((x:Int)≤(n:Int)) = true:=decide_eq_true hxn
    obtain ⟨T,hT⟩:∃ T,T = (str l).extract a x:=⟨_,rfl⟩
    have hT2:(str l).extract a x = T:=hT.symm
    have HT:Hid (T = str ((l.drop a).take k)):=hid (by rw [hT,QFR,HX.out,Nat.add_sub_cancel_left])
    have hpf:=hid (QMK (l.drop a) s)
    rcases hBv:s.isPrefixOf (l.drop a) with _ | _
    ·have hq:(T.toList == (str s).toList) = false:=by rw [HT.out,QD0,HK0.out,← hpf.out];exact hBv
     have HBV:=hid hBv
     clear hT hBv
     go_wp2_with fail
     go_quiet (fail)
     go_wp2_with fail
     have hdr:Below wr.heap.size wr (wr.drewN nq):=QAE (Below.refl _ wr) nq
     exact ⟨⟨j+1,by omega,hid (QCb _ HJ.out hno.out (by rw [HBV.out];rfl)),rfl,hid (hB.out.trans (hdr.mono (by have:=hB.out.size;rw [HSZ.out] at this;exact this)))⟩,by simp [QA2];omega⟩
    ·have hq:(T.toList == (str s).toList) = true:=by rw [HT.out,QD0,HK0.out,← hpf.out];exact hBv
     obtain rfl:o = some s:=by rw [← ho.out];exact QOE HJ.out hno.out hBv
     clear hT hBv ho
     go_wp2_with fail
     go_quiet (fail)
     have hdr:Below wr.heap.size wr (wr.drewN nq):=QAE (Below.refl _ wr) nq
     have hBB2:=hid (hBB.out.trans (hdr.mono (by have:=hB.out.size;rw [HSZ.out] at this;omega)))
     obtain ⟨p0,p1,p2,p3,g0,g1,g2,g3⟩:=hrm.out.below hBB2.out (Nat.lt_succ_self _)
     have hc2:(wr.drewN nq).cell? ⟨w.heap.size+1,j,none⟩ = some (.string (str s)):=(hdr.cell (p:=⟨w.heap.size+1,j,none⟩) (by have:=hB.out.size;rw [HSZ.out] at this;show w.heap.size+1 < _;omega)).trans hc
     have HDR:=hid (hb0.out.trans (hBB2.out.mono (Nat.le_succ _)))
     clear hdr
     go_wp2_with fail
     exact bodyPost_ret (v:=.tuple #[.agg #[.int .i64 4,.string (str s),.int .i64 0,.int .i64 (a:Int)],.bool true]) (by simp [results,Tryz.results24,go_sem,p0,p1,p2,p3]) rfl (.inl ⟨s,rfl,rfl,QAb HDR.out (Nat.le_refl _) _ _ _ _⟩)
   ·have q4:decide ((x:Int)≤(n:Int)) = false:=decide_eq_false hxn
    have q5:decide (x≤n) = false:=decide_eq_false (by omega)
    have q6:¬ (x≤n):=by omega
    have HBV:Hid (s.isPrefixOf (l.drop a) = false):=hid (by
     cases h:s.isPrefixOf (l.drop a) with
     | false=>rfl
     | true =>
      have h2:=List.IsPrefix.length_le (List.isPrefixOf_iff_prefix.1 h)
      rw [List.length_drop] at h2
      have:=HK0.out
      have:=HX.out
      have:=hn.out
      omega)
    go_wp2_with fail
    go_quiet (fail)
    go_wp2_with fail
    have hdr:Below wr.heap.size wr (wr.drewN nq):=QAE (Below.refl _ wr) nq
    exact ⟨⟨j+1,by omega,hid (QCb _ HJ.out hno.out (by rw [HBV.out];rfl)),rfl,hid (hB.out.trans (hdr.mono (by have:=hB.out.size;rw [HSZ.out] at this;exact this)))⟩,by simp [QA2];omega⟩
  ·have q3:decide ((j:Int) < 17) = false:=decide_eq_false (by omega)
   obtain rfl:o = none:=by rw [← ho.out];exact QMd (by have:=hno.out;rwa [List.take_of_length_le (by show 17≤j;exact hge)] at this)
   clear ho
   go_wp2_with fail
   exact bodyPost_ret (v:=.tuple #[.agg #[.int .i64 0,.string ⟨#[]⟩,.int .i64 0,.int .i64 0],.bool false]) (by simp [results,Tryz.results24,go_sem,r0,r1,r2,r3]) rfl (.inr ⟨rfl,rfl,QAb hBw.out (Nat.le_refl _) _ _ _ _⟩)
end
section
open Go.RowKit
set_option maxRecDepth 100000 in
theorem one_num (l:List UInt8) (n:Nat) (hn:Hid (l.length = n)) (nl:(n:Int)≤30000) (hs:(str l).size = n) (a:Nat) (han:(a:Int) < (n:Int)) (c:UInt8) (hix:∀ h,(str l)[a]'h = c) (hcl:Hid (QAz c = false)) (hcd:Hid (QAZ c = true)) (x:Nat) (hx:Hid (QB7 QAZ l a = x)) (R:Nat) (hR:Hid (QGc l a = R)) (haR:(a:Int)≤(R:Int)) (hRn:(R:Int)≤(n:Int))
  (T:ByteArray) (hT:(str l).extract a R = T) (V:Int) (O:Bool) (SG:Hid (∀ w,Calls Tryz.prog 56 #[.string T] w fun e w'=>e = .returned (.tuple #[.int .i64 V,.bool O])∧Below w.heap.size w w')) (w:World) :
  Calls Tryz.prog 24 #[.string (str l),.int .i64 (a:Int)] w fun e w'=>QEq 2 V (a:Int) T O w e w':=by
 have DT:Hid (∀ (c:UInt8) w,Calls Tryz.prog 54 #[.int .u8 (c.toNat:Int)] w fun e w'=>e = .returned (.bool (QAZ c))∧w' = w):=hid QBK
 have L0:Hid (∀ w,Calls Tryz.prog 53 #[.int .u8 (c.toNat:Int)] w fun e w'=>e = .returned (.bool false)∧w' = w):=hid fun w=>by have:=QD6 c w;rwa [hcl.out] at this
 have D0:Hid (∀ w,Calls Tryz.prog 54 #[.int .u8 (c.toNat:Int)] w fun e w'=>e = .returned (.bool true)∧w' = w):=hid fun w=>by have:=QBK c w;rwa [hcd.out] at this
 have hb0:=hid ((Below.refl w.heap.size w).alloc (Nat.le_refl _) (.cells #[.int .i64 0,.string ⟨#[]⟩,.int .i64 0,.int .i64 0] 49))
 have hrm:=hid (QEB w 49)
 have HE:Hid (∀ i x j:Nat,QB7 QAZ l j = x→(n≤j∨∃ c,l[j]? = some c∧QAZ c = false)→j = x):=hid fun i x j h1 h2=>by
  rcases h2 with h2 | ⟨c,h2,h3⟩
  ·rw [QFP (by rw [hn.out];exact h2)] at h1;exact h1
  ·rw [QED h2 h3] at h1;exact h1
 go_enter Tryz.func24,Tryz.ntmps24
 go_wp2_with (first | (go_at_call 53;((with_reducible refine (L0.out _).mono ?_);rintro e w' ⟨rfl,rfl⟩)) | (go_at_call 54;((with_reducible refine (D0.out _).mono ?_);rintro e w' ⟨rfl,rfl⟩)))
 go_loop [7] (fun i=>∃ j:Nat,a≤j∧j≤n∧Hid (QB7 QAZ l j = x)∧i = .int .i64 j) (fun i=>n - QA2 i)
 case atStart=>exact ⟨a,Nat.le_refl _,by omega,hx,rfl⟩
 case round =>
  obtain ⟨j,haj,hj,hr,rfl⟩:=hrel
  rcases Nat.lt_or_ge j n with hlt | hge
  ·have q3:decide ((j:Int) < (n:Int)) = true:=decide_eq_true (by omega)
   have jn:(j:Int) < (n:Int):=by omega
   obtain ⟨d,hdj⟩:=QDh hn.out hlt
   have hix2:∀ h,(str l)[j]'h = d:=fun h=>QCF l hdj h
   have HD:=hid hdj
   clear hdj
   rcases hb2:QAZ d with _ | _
   ·obtain rfl:j = x:=HE.out 0 x j hr.out (.inr ⟨d,HD.out,hb2⟩)
    have DD:Hid (∀ w,Calls Tryz.prog 54 #[.int .u8 (d.toNat:Int)] w fun e w'=>e = .returned (.bool false)∧w' = w):=hid fun w=>by have:=QBK d w;rwa [hb2] at this
    clear hb2
    obtain ⟨y1,hy1⟩:∃ y1,y1 = j+1:=⟨_,rfl⟩
    have e1:(j:Int)+1 = (y1:Int):=by omega
    have HY1:=hid hy1
    clear hy1
    by_cases hyn:(y1:Int) < (n:Int)
    ·have q4:decide ((y1:Int) < (n:Int)) = true:=decide_eq_true hyn
     have q5:decide (y1 < n) = true:=decide_eq_true (by omega)
     by_cases h46:d = 46
     ·have k1:(d == 46) = true:=by simpa using h46
      have k2:((d.toNat:Int) == 46) = true:=by rw [h46];rfl
      have k3:(d.toNat:Int) = 46:=by rw [h46];rfl
      have hdot:=hid (QHa (l:=l) (a:=a) (by rw [hx.out,HD.out,h46]))
      obtain ⟨f,hf⟩:=QDh hn.out (show y1 < n by omega)
      have hix3:∀ h,(str l)[y1]'h = f:=fun h=>QCF l hf h
      have HF:=hid hf
      have D46:Hid (∀ w,Calls Tryz.prog 54 #[.int .u8 46] w fun e w'=>e = .returned (.bool false)∧w' = w):=hid fun w=>by have:=DD.out w;rw [h46] at this;exact this
      clear hf h46
      rcases hb3:QAZ f with _ | _
      ·have DF:Hid (∀ w,Calls Tryz.prog 54 #[.int .u8 (f.toNat:Int)] w fun e w'=>e = .returned (.bool false)∧w' = w):=hid fun w=>by have:=QBK f w;rwa [hb3] at this
       obtain rfl:R = j:=by
        have:=hdot.out
        rw [hx.out,← HY1.out,QED HF.out hb3,if_neg (by omega)] at this
        rw [← hR.out];exact this
       clear hb3
       go_wp2_with (first | (go_at_call 54;((with_reducible refine (D46.out _).mono ?_);rintro e w' ⟨rfl,rfl⟩)) | (go_at_call 54;((with_reducible refine (DD.out _).mono ?_);rintro e w' ⟨rfl,rfl⟩)) | (go_at_call 54;((with_reducible refine (DF.out _).mono ?_);rintro e w' ⟨rfl,rfl⟩)) | (go_at_call 56;((with_reducible refine (SG.out _).mono ?_);rintro e w3 ⟨rfl,hb3⟩;obtain ⟨r0,r1,r2,r3,f0,f1,f2,f3⟩:=hrm.out.below hb3 (by simp);have HB3:=hid hb3;clear hb3)))
       exact bodyPost_ret (v:=.tuple #[.agg #[.int .i64 2,.string T,.int .i64 V,.int .i64 (a:Int)],.bool O]) (by simp [results,Tryz.results24,go_sem,r0,r1,r2,r3]) rfl ⟨rfl,QAb (hb0.out.trans (HB3.out.mono hb0.out.size)) (Nat.le_refl _) _ _ _ _⟩
      ·have DF:Hid (∀ w,Calls Tryz.prog 54 #[.int .u8 (f.toNat:Int)] w fun e w'=>e = .returned (.bool true)∧w' = w):=hid fun w=>by have:=QBK f w;rwa [hb3] at this
       have hRy:Hid (QB7 QAZ l y1 = R):=hid (by
        have:=hdot.out
        have h2:=QG6 HF.out hb3
        have h3:=QJM QAZ l (y1+1)
        rw [hx.out,← HY1.out,if_pos (by omega)] at this
        rw [← hR.out];exact this.symm)
       clear hb3
       go_wp2_with (first | (go_at_call 54;((with_reducible refine (D46.out _).mono ?_);rintro e w' ⟨rfl,rfl⟩)) | (go_at_call 54;((with_reducible refine (DD.out _).mono ?_);rintro e w' ⟨rfl,rfl⟩)) | (go_at_call 54;((with_reducible refine (DF.out _).mono ?_);rintro e w' ⟨rfl,rfl⟩)))
       go_loop [7] (fun i=>∃ k:Nat,y1≤k∧k≤n∧Hid (QB7 QAZ l k = R)∧i = .int .i64 k) (fun i=>n - QA2 i)
       case atStart=>exact ⟨y1,Nat.le_refl _,by omega,hRy,rfl⟩
       case round =>
        obtain ⟨k,hyk,hk,hrk,rfl⟩:=hrel
        rcases Nat.lt_or_ge k n with hkt | hkg
        ·have q6:decide ((k:Int) < (n:Int)) = true:=decide_eq_true (by omega)
         have kn:(k:Int) < (n:Int):=by omega
         obtain ⟨h,hhk⟩:=QDh hn.out hkt
         have hix4:∀ h',(str l)[k]'h' = h:=fun h'=>QCF l hhk h'
         have HH:=hid hhk
         clear hhk
         rcases hb4:QAZ h with _ | _
         ·obtain rfl:k = R:=HE.out 0 R k hrk.out (.inr ⟨h,HH.out,hb4⟩)
          have DH:Hid (∀ w,Calls Tryz.prog 54 #[.int .u8 (h.toNat:Int)] w fun e w'=>e = .returned (.bool false)∧w' = w):=hid fun w=>by have:=QBK h w;rwa [hb4] at this
          clear hb4
          go_wp2_with (first | (go_at_call 54;((with_reducible refine (DH.out _).mono ?_);rintro e w' ⟨rfl,rfl⟩)) | (go_at_call 56;((with_reducible refine (SG.out _).mono ?_);rintro e w3 ⟨rfl,hb3⟩;obtain ⟨r0,r1,r2,r3,f0,f1,f2,f3⟩:=hrm.out.below hb3 (by simp);have HB3:=hid hb3;clear hb3)))
          exact bodyPost_ret (v:=.tuple #[.agg #[.int .i64 2,.string T,.int .i64 V,.int .i64 (a:Int)],.bool O]) (by simp [results,Tryz.results24,go_sem,r0,r1,r2,r3]) rfl ⟨rfl,QAb (hb0.out.trans (HB3.out.mono hb0.out.size)) (Nat.le_refl _) _ _ _ _⟩
         ·have DH:Hid (∀ w,Calls Tryz.prog 54 #[.int .u8 (h.toNat:Int)] w fun e w'=>e = .returned (.bool true)∧w' = w):=hid fun w=>by have:=QBK h w;rwa [hb4] at this
          have HB4:=hid hb4
          clear hb4
          go_wp2_with ((go_at_call 54;((with_reducible refine (DH.out _).mono ?_);rintro e w' ⟨rfl,rfl⟩)))
          exact ⟨⟨k+1,by omega,by omega,hid (QEm HH.out hrk.out HB4.out),rfl⟩,by simp [QA2];omega⟩
        ·have q6:decide ((k:Int) < (n:Int)) = false:=decide_eq_false (by omega)
         obtain rfl:k = R:=HE.out 0 R k hrk.out (.inl hkg)
         go_wp2_with (first | (go_at_call 56;((with_reducible refine (SG.out _).mono ?_);rintro e w3 ⟨rfl,hb3⟩;obtain ⟨r0,r1,r2,r3,f0,f1,f2,f3⟩:=hrm.out.below hb3 (by simp);have HB3:=hid hb3;clear hb3)))
         exact bodyPost_ret (v:=.tuple #[.agg #[.int .i64 2,.string T,.int .i64 V,.int .i64 (a:Int)],.bool O]) (by simp [results,Tryz.results24,go_sem,r0,r1,r2,r3]) rfl ⟨rfl,QAb (hb0.out.trans (HB3.out.mono hb0.out.size)) (Nat.le_refl _) _ _ _ _⟩
     ·obtain ⟨k1,k4,k3,k2,k5⟩:=QCG h46 46 rfl
      obtain rfl:R = j:=by rw [← hR.out,QFG (by rw [hx.out,HD.out];simpa using h46),hx.out]
      clear h46
      go_wp2_with (first | (go_at_call 54;((with_reducible refine (DD.out _).mono ?_);rintro e w' ⟨rfl,rfl⟩)) | (go_at_call 56;((with_reducible refine (SG.out _).mono ?_);rintro e w3 ⟨rfl,hb3⟩;obtain ⟨r0,r1,r2,r3,f0,f1,f2,f3⟩:=hrm.out.below hb3 (by simp);have HB3:=hid hb3;clear hb3)))
      exact bodyPost_ret (v:=.tuple #[.agg #[.int .i64 2,.string T,.int .i64 V,.int .i64 (a:Int)],.bool O]) (by simp [results,Tryz.results24,go_sem,r0,r1,r2,r3]) rfl ⟨rfl,QAb (hb0.out.trans (HB3.out.mono hb0.out.size)) (Nat.le_refl _) _ _ _ _⟩
    ·have q4:decide ((y1:Int) < (n:Int)) = false:=decide_eq_false hyn
     have q5:decide (y1 < n) = false:=decide_eq_false (by omega)
     obtain rfl:R = j:=by
      by_cases h46:d = 46
      ·have hdot:=QHa (l:=l) (a:=a) (by rw [hx.out,HD.out,h46])
       rw [hx.out,← HY1.out,QFP (by rw [hn.out];omega),if_neg (by omega)] at hdot
       rw [← hR.out];exact hdot
      ·rw [← hR.out,QFG (by rw [hx.out,HD.out];simpa using h46),hx.out]
     go_wp2_with (first | (go_at_call 54;((with_reducible refine (DD.out _).mono ?_);rintro e w' ⟨rfl,rfl⟩)) | (go_at_call 56;((with_reducible refine (SG.out _).mono ?_);rintro e w3 ⟨rfl,hb3⟩;obtain ⟨r0,r1,r2,r3,f0,f1,f2,f3⟩:=hrm.out.below hb3 (by simp);have HB3:=hid hb3;clear hb3)))
     exact bodyPost_ret (v:=.tuple #[.agg #[.int .i64 2,.string T,.int .i64 V,.int .i64 (a:Int)],.bool O]) (by simp [results,Tryz.results24,go_sem,r0,r1,r2,r3]) rfl ⟨rfl,QAb (hb0.out.trans (HB3.out.mono hb0.out.size)) (Nat.le_refl _) _ _ _ _⟩
   ·have DD:Hid (∀ w,Calls Tryz.prog 54 #[.int .u8 (d.toNat:Int)] w fun e w'=>e = .returned (.bool true)∧w' = w):=hid fun w=>by have:=QBK d w;rwa [hb2] at this
    have HB2:=hid hb2
    clear hb2
    go_wp2_with ((go_at_call 54;((with_reducible refine (DD.out _).mono ?_);rintro e w' ⟨rfl,rfl⟩)))
    exact ⟨⟨j+1,by omega,by omega,hid (QEm HD.out hr.out HB2.out),rfl⟩,by simp [QA2];omega⟩
  ·have q3:decide ((j:Int) < (n:Int)) = false:=decide_eq_false (by omega)
   obtain rfl:j = x:=HE.out 0 x j hr.out (.inl hge)
   obtain ⟨y1,hy1⟩:∃ y1,y1 = j+1:=⟨_,rfl⟩
   have e1:(j:Int)+1 = (y1:Int):=by omega
   have q4:decide ((y1:Int) < (n:Int)) = false:=decide_eq_false (by omega)
   have q5:decide (y1 < n) = false:=decide_eq_false (by omega)
   obtain rfl:R = j:=by rw [← hR.out,QFG (by rw [hx.out,List.getElem?_eq_none (by rw [hn.out];exact hge)];simp),hx.out]
   clear hy1
   go_wp2_with (first | (go_at_call 56;((with_reducible refine (SG.out _).mono ?_);rintro e w3 ⟨rfl,hb3⟩;obtain ⟨r0,r1,r2,r3,f0,f1,f2,f3⟩:=hrm.out.below hb3 (by simp);have HB3:=hid hb3;clear hb3)))
   exact bodyPost_ret (v:=.tuple #[.agg #[.int .i64 2,.string T,.int .i64 V,.int .i64 (a:Int)],.bool O]) (by simp [results,Tryz.results24,go_sem,r0,r1,r2,r3]) rfl ⟨rfl,QAb (hb0.out.trans (HB3.out.mono hb0.out.size)) (Nat.le_refl _) _ _ _ _⟩
end
section
open Go.RowKit
def QH1:Prop:=∀ t:List UInt8,t.length≤30000→t.head?≠some 45→∀ W,Calls Tryz.prog 56 #[.string (str t)] W fun e w'=>e = .returned (.tuple #[.int .i64 ((QBy t).1:Int),.bool (QBy t).2])∧Below W.heap.size W w'
theorem ref_one (SG:QH1):QL0:=fun l a ha hl W=>by
 obtain ⟨c,hc⟩:∃ c,l[a]? = some c:=⟨l[a],List.getElem?_eq_getElem ha⟩
 have hix:∀ h,(str l)[a]'h = c:=fun h=>QCF l hc h
 have ho:QEX (l.drop a) = none↔(QAX l a).kind = 0:=(QKf l a).symm
 cases h1:QAz c with
 | true =>
  have ht:=QKg hc h1
  have hN:=QJA (l.drop a)
  have hdl:(l.drop a).length = l.length - a:=List.length_drop
  have hx:QB7 QBv l a = a+QCi (l.drop a):=QKT l a
  have e:(str l).extract a (QB7 QBv l a) = str ((l.drop a).take (QCi (l.drop a))):=by rw [QFR,hx];congr 2;omega
  have C:∀ B,B = decide ((QCi (l.drop a):Int)≤16)→Calls Tryz.prog 24 #[.string (str l),.int .i64 (a:Int)] W fun e w'=>QEq (if QIk ((l.drop a).take (QCi (l.drop a))) = true then 3 else 1) 0 a (str ((l.drop a).take (QCi (l.drop a)))) B W e w':=fun B hB =>
   QNw l _ (hid rfl) (by omega) (QBE l) a (by omega) c hix (hid h1) _ (hid rfl) (by have:=QJM QBv l a;omega) (by have:=QO8 QBv (Nat.le_of_lt ha);omega) _ e _ (hid rfl) (QCi (l.drop a)) (by omega) _ _ (hid rfl) (hid rfl) B (hid hB) W
  constructor
  ·intro hne
   have h16:QCi (l.drop a)≤16:=Nat.le_of_not_lt fun hh=>hne (ho.2 (by rw [ht,if_neg (by omega)]))
   rw [ht,if_pos h16]
   have:=C true (decide_eq_true (by omega)).symm
   split
   ·rw [if_pos (by assumption)] at this;exact this
   ·rw [if_neg (by assumption)] at this;exact this
  ·intro hnone
   have h16:¬ QCi (l.drop a)≤16:=fun hh=>by
    have:=ho.1 hnone
    rw [ht,if_pos hh] at this
    simp only at this
    split at this <;> omega
   exact (C false (decide_eq_false (by omega)).symm).mono fun e w' h=>⟨_,_,_,_,h⟩
 | false =>
  cases h2:QAZ c with
  | true =>
   have ht:=QMl hc h1 h2
   have hdl:(l.drop a).length = l.length - a:=List.length_drop
   have hN:=QMB (l.drop a)
   have e:(str l).extract a (QGc l a) = str ((l.drop a).take (QFe (l.drop a))):=by rw [QFR];congr 2;unfold QGc;omega
   have hlen:((l.drop a).take (QFe (l.drop a))).length≤30000:=by rw [List.length_take];omega
   have hhd:((l.drop a).take (QFe (l.drop a))).head?≠some 45:=by
    rw [QB2 hc]
    have hp:=QJC (l:=l.drop (a+1)) h2
    cases hk:QFe (c :: l.drop (a+1)) with
    | zero=>omega
    | succ k =>
     rw [List.take_succ_cons,List.head?_cons]
     intro hh
     cases hh
     revert h2
     decide
   have C:=one_num l _ (hid rfl) (by omega) (QBE l) a (by omega) c hix (hid h1) (hid h2) _ (hid rfl) _ (hid rfl) (by unfold QGc;omega) (by unfold QGc;omega) _ e _ _ (hid fun w=>SG _ hlen hhd w) W
   constructor
   ·intro hne
    have hp:(QBy ((l.drop a).take (QFe (l.drop a)))).2 = true:=by
     cases hq:(QBy ((l.drop a).take (QFe (l.drop a)))).2 with
     | true=>rfl
     | false=>exact absurd (ho.2 (by rw [ht,if_neg (by rw [hq];simp)])) hne
    rw [ht,if_pos hp]
    rw [hp] at C
    exact C
   ·intro hnone
    have hp:(QBy ((l.drop a).take (QFe (l.drop a)))).2 = false:=by
     cases hq:(QBy ((l.drop a).take (QFe (l.drop a)))).2 with
     | false=>rfl
     | true =>
      have:=ho.1 hnone
      rw [ht,if_pos hq] at this
      simp at this
    rw [hp] at C
    exact C.mono fun e w' h=>⟨_,_,_,_,h⟩
  | false =>
   have ht:=QKh hc h1 h2
   have C:=QNx l _ (hid rfl) (by omega) (QBE l) a (by omega) c hix (hid h1) (hid h2) _ (hid rfl) W
   have hs:QEX (l.drop a) = (QCE (l.drop a)).map fun s=>(4,s.length,0):=by
    unfold QEX
    rw [QB2 hc]
    simp only [h1,h2,Bool.false_eq_true,if_false]
   constructor
   ·intro hne
    cases hq:QCE (l.drop a) with
    | none=>exact absurd (by rw [hs,hq];rfl) hne
    | some s =>
     rw [hq] at C ht
     have htx:(l.drop a).take s.length = s:=QFJ (QG8 hq).2
     have ht2:QAX l a = ⟨4,s,0,a⟩:=by rw [ht];show Tok.mk 4 ((l.drop a).take s.length) 0 a = _;rw [htx]
     rw [ht2]
     exact C.mono fun e w' h=>by
      rcases h with ⟨s',h3,h4⟩ | ⟨h3,_⟩
      ·cases h3;exact h4
      ·cases h3
   ·intro hnone
    cases hq:QCE (l.drop a) with
    | some s=>rw [hs,hq] at hnone;cases hnone
    | none =>
     rw [hq] at C
     exact C.mono fun e w' h=>by
      rcases h with ⟨s',h3,_⟩ | ⟨_,h4⟩
      ·cases h3
      ·exact ⟨_,_,_,_,h4⟩
end
section
open Go.RowKit
theorem st_take {l:List UInt8} {k:Nat} {c:UInt8} (h:l[k]? = some c):st (l.take (k+1)) = step (st (l.take k)) c:=by rw [QEE h,st_snoc]
theorem QJB {l:List UInt8} {k:Nat} {c:UInt8} (h:l[k]? = some c) (hc:QJD c = false):QKr l = false:=by
 have:l.all QJD = false:=by
  rw [List.all_eq_false]
  exact ⟨c,List.mem_of_getElem? h,by rw [hc];simp⟩
 unfold QKr
 rw [this]
 rfl
set_option maxRecDepth 100000 in
theorem QNf (l:List UInt8) (n:Nat) (hn:l.length = n) (hl:(n:Int)≤30000) (R:Bool) (hR:R = QKr l) (w:World) :
  Calls Tryz.prog 85 #[.string (str l)] w fun e w'=>e = .returned (.bool R)∧w' = w:=by
 have hs:=QBE l
 rw [hn] at hs
 have HN:=hid hn
 have HR:=hid hR
 clear hn hR
 go_enter Tryz.func85,Tryz.ntmps85
 go_wp2_with fail
 go_loop [6,3,4,5] (fun i a b d=>∃ k A B D:Nat,k≤n∧Hid (st (l.take k) = (A,B,D))∧Hid ((l.take k).all QJD = true)∧(A:Int)≤30000∧(B:Int)≤30000∧(D:Int)≤30000∧i = .int .i64 k∧a = .int .i64 A∧b = .int .i64 B∧d = .int .i64 D) (fun i _ _ _=>n - QA2 i)
 case atStart=>exact ⟨0,0,0,0,by omega,hid rfl,hid rfl,by omega,by omega,by omega,rfl,rfl,rfl,rfl⟩
 case round =>
  obtain ⟨k,A,B,D,hk,hst,hok,hA,hB,hD,rfl,rfl,rfl,rfl⟩:=hrel
  rcases Nat.lt_or_ge k n with hlt | hge
  ·obtain ⟨c,hc⟩:∃ c,l[k]? = some c:=⟨l[k]'(by have:=HN.out;omega),List.getElem?_eq_getElem _⟩
   have hix:∀ h,(str l)[k]'h = c:=fun h=>QCF l hc h
   have q3:decide ((k:Int) < (n:Int)) = true:=decide_eq_true (by omega)
   have ST:=hid (st_take hc)
   have T:=hid (QEE hc)
   have C:=hid hc
   have hle:=hid (st_le (l.take (k+1)))
   have hlen:Hid ((l.take (k+1)).length≤30000):=hid (by rw [List.length_take];have:=HN.out;omega)
   have cl:(c.toNat:Int)≤255:=by have:=c.toNat_lt;omega
   clear hc
   by_cases c46:c = 46
   ·subst c46
    have e46:((46:UInt8).toNat:Int) = 46:=rfl
    have q4:decide (((46:UInt8).toNat:Int) = 46) = true:=by decide
    go_wp2_with fail
    have hs2:st (l.take (k+1)) = (A,B,D+1):=by rw [ST.out,hst.out];rfl
    have hb:=hle.out
    rw [hs2] at hb
    have hb' : A+B+(D+1) = (l.take (k+1)).length:=hb
    have hl2:=hlen.out
    refine ⟨⟨k+1,A,B,D+1,by omega,hid hs2,hid ?_,by omega,by omega,by omega,rfl,rfl,rfl,rfl⟩,by simp [QA2];omega⟩
    rw [T.out,List.all_append,hok.out];rfl
   ·have n46:¬ (c.toNat:Int) = 46:=fun e=>c46 (UInt8.toNat_inj.1 (by show c.toNat = 46;omega))
    have q4:decide ((c.toNat:Int) = 46) = false:=decide_eq_false n46
    by_cases d1:(c.toNat:Int) < 48
    ·have d1' : decide ((c.toNat:Int) < 48) = true:=decide_eq_true d1
     go_wp2_with fail
     go_ret
     exact ⟨by rw [HR.out,QJB C.out (by unfold QJD QAZ;simp;exact ⟨c46,by omega⟩)];rfl,rfl⟩
    ·have d1' : decide ((c.toNat:Int) < 48) = false:=decide_eq_false d1
     by_cases d2:(57:Int) < (c.toNat:Int)
     ·have d2' : decide ((57:Int) < (c.toNat:Int)) = true:=decide_eq_true d2
      go_wp2_with fail
      go_ret
      exact ⟨by rw [HR.out,QJB C.out (by unfold QJD QAZ;simp;exact ⟨c46,by omega⟩)];rfl,rfl⟩
     ·have d2' : decide ((57:Int) < (c.toNat:Int)) = false:=decide_eq_false d2
      have hok2:(l.take (k+1)).all QJD = true:=by rw [T.out,List.all_append,hok.out];simp [QJD];right;exact QBu.2 (by omega)
      have HOK:=hid hok2
      clear hok2
      by_cases d0:D = 0
      ·subst d0
       go_wp2_with fail
       have hs2:st (l.take (k+1)) = (A+1,B,0):=by rw [ST.out,hst.out];unfold step;rw [if_neg c46,if_pos rfl]
       have hb:=hle.out
       rw [hs2] at hb
       have hb' : A+1+B+0 = (l.take (k+1)).length:=hb
       have hl2:=hlen.out
       exact ⟨⟨k+1,A+1,B,0,by omega,hid hs2,HOK,by omega,by omega,by omega,rfl,rfl,rfl,rfl⟩,by simp [QA2];omega⟩
      ·have q5:decide ((D:Int) = 0) = false:=decide_eq_false (by omega)
       have q6:¬ (D:Int) = 0:=by omega
       go_wp2_with fail
       have hs2:st (l.take (k+1)) = (A,B+1,D):=by rw [ST.out,hst.out];unfold step;rw [if_neg c46,if_neg d0]
       have hb:=hle.out
       rw [hs2] at hb
       have hb' : A+(B+1)+D = (l.take (k+1)).length:=hb
       have hl2:=hlen.out
       exact ⟨⟨k+1,A,B+1,D,by omega,hid hs2,HOK,by omega,by omega,by omega,rfl,rfl,rfl,rfl⟩,by simp [QA2];omega⟩
  ·have q3:decide ((k:Int) < (n:Int)) = false:=decide_eq_false (by omega)
   have hst' : st l = (A,B,D):=by have:=hst.out;rw [List.take_of_length_le (by rw [HN.out];exact hge)] at this;exact this
   have hok' : l.all QJD = true:=by have:=hok.out;rw [List.take_of_length_le (by rw [HN.out];exact hge)] at this;exact this
   have hR:R = (decide (1≤A) && (decide (A≤10) && (decide (D≤1) && ((!(decide (D = 1)) || (decide (1≤B) && decide (B≤40))) && (decide (A = 1) || !(l.head? == some 48)))))):=by
    rw [HR.out];unfold QKr;rw [hst',hok',Bool.true_and]
   have hAn:A+B+D = n:=by have:=st_le l;rw [hst'] at this;have h2:A+B+D = l.length:=this;rw [h2,HN.out]
   clear HR hst hok hst' hok'
   have RE:=hid hR
   clear hR
   by_cases t1:(A:Int) < 1
   ·have u1:decide ((A:Int) < 1) = true:=decide_eq_true t1
    have hv:R = false:=by
     refine Bool.eq_false_iff.2 fun hT=>?_
     rw [RE.out] at hT
     simp only [Bool.and_eq_true,decide_eq_true_eq,Bool.or_eq_true,Bool.not_eq_true',decide_eq_false_iff_not] at hT
     omega
    subst hv
    go_wp2_with fail
    go_ret
    exact ⟨rfl,rfl⟩
   ·have u1:decide ((A:Int) < 1) = false:=decide_eq_false t1
    by_cases t2:(10:Int) < (A:Int)
    ·have u2:decide ((10:Int) < (A:Int)) = true:=decide_eq_true t2
     have hv:R = false:=by
      refine Bool.eq_false_iff.2 fun hT=>?_
      rw [RE.out] at hT
      simp only [Bool.and_eq_true,decide_eq_true_eq,Bool.or_eq_true,Bool.not_eq_true',decide_eq_false_iff_not] at hT
      omega
     subst hv
     go_wp2_with fail
     go_ret
     exact ⟨rfl,rfl⟩
    ·have u2:decide ((10:Int) < (A:Int)) = false:=decide_eq_false t2
     by_cases t3:(1:Int) < (D:Int)
     ·have u3:decide ((1:Int) < (D:Int)) = true:=decide_eq_true t3
      have hv:R = false:=by
       refine Bool.eq_false_iff.2 fun hT=>?_
       rw [RE.out] at hT
       simp only [Bool.and_eq_true,decide_eq_true_eq,Bool.or_eq_true,Bool.not_eq_true',decide_eq_false_iff_not] at hT
       omega
      subst hv
      go_wp2_with fail
      go_ret
      exact ⟨rfl,rfl⟩
     ·have u3:decide ((1:Int) < (D:Int)) = false:=decide_eq_false t3
      by_cases t4:(D:Int) = 1
      ·have u4:decide ((D:Int) = 1) = true:=decide_eq_true t4
       by_cases t5:(B:Int) < 1
       ·have u5:decide ((B:Int) < 1) = true:=decide_eq_true t5
        have hv:R = false:=by
         refine Bool.eq_false_iff.2 fun hT=>?_
         rw [RE.out] at hT
         simp only [Bool.and_eq_true,decide_eq_true_eq,Bool.or_eq_true,Bool.not_eq_true',decide_eq_false_iff_not] at hT
         omega
        subst hv
        go_wp2_with fail
        go_ret
        exact ⟨rfl,rfl⟩
       ·have u5:decide ((B:Int) < 1) = false:=decide_eq_false t5
        by_cases t6:(40:Int) < (B:Int)
        ·have u6:decide ((40:Int) < (B:Int)) = true:=decide_eq_true t6
         have hv:R = false:=by
          refine Bool.eq_false_iff.2 fun hT=>?_
          rw [RE.out] at hT
          simp only [Bool.and_eq_true,decide_eq_true_eq,Bool.or_eq_true,Bool.not_eq_true',decide_eq_false_iff_not] at hT
          omega
         subst hv
         go_wp2_with fail
         go_ret
         exact ⟨rfl,rfl⟩
        ·have u6:decide ((40:Int) < (B:Int)) = false:=decide_eq_false t6
         by_cases t7:(A:Int) = 1
         ·have u7:decide ((A:Int) = 1) = true:=decide_eq_true t7
          have hv:R = true:=by
           rw [RE.out]
           simp only [Bool.and_eq_true,decide_eq_true_eq,Bool.or_eq_true,Bool.not_eq_true',decide_eq_false_iff_not]
           exact ⟨by omega,by omega,by omega,by omega,Or.inl (by omega)⟩
          subst hv
          go_wp2_with fail
          go_ret
          exact ⟨rfl,rfl⟩
         ·have u7:decide ((A:Int) = 1) = false:=decide_eq_false t7
          have m7:((A:Int) == 1) = false:=beq_false_of_ne t7
          obtain ⟨c,l',hl'⟩:∃ c l',l = c :: l':=by
           cases l with
           | nil=>have:=HN.out;simp at this;omega
           | cons c l'=>exact ⟨c,l',rfl⟩
          have hix:∀ h,(str l)[0]'h = c:=fun h=>QCF l (by rw [hl'];rfl) h
          by_cases h48:c = 48
          ·have HC:=hid (show (l.head? == some 48) = true by rw [hl',h48];rfl)
           clear hl'
           subst h48
           have hv:R = false:=by
            refine Bool.eq_false_iff.2 fun hT=>?_
            rw [RE.out,HC.out] at hT
            simp only [Bool.not_true,Bool.or_false,Bool.and_eq_true,decide_eq_true_eq] at hT
            omega
           subst hv
           go_wp2_with fail
           go_ret
           exact ⟨rfl,rfl⟩
          ·have HC:=hid (show (l.head? == some 48) = false by rw [hl'];simpa using h48)
           have n48:¬ (c.toNat:Int) = 48:=fun e=>h48 (UInt8.toNat_inj.1 (by show c.toNat = 48;omega))
           have m48:((c.toNat:Int) != 48) = true:=bne_iff_ne.2 n48
           clear hl'
           have hv:R = true:=by
            rw [RE.out,HC.out]
            simp only [Bool.not_false,Bool.or_true,Bool.and_true,Bool.and_eq_true,decide_eq_true_eq,Bool.or_eq_true,Bool.not_eq_true',decide_eq_false_iff_not]
            exact ⟨by omega,by omega,by omega,by omega⟩
           subst hv
           go_wp2_with fail
           go_ret
           exact ⟨rfl,rfl⟩
      ·have u4:decide ((D:Int) = 1) = false:=decide_eq_false t4
       by_cases t8:(A:Int) = 1
       ·have u8:decide ((A:Int) = 1) = true:=decide_eq_true t8
        have hv:R = true:=by
         rw [RE.out]
         simp only [Bool.and_eq_true,decide_eq_true_eq,Bool.or_eq_true,Bool.not_eq_true',decide_eq_false_iff_not]
         exact ⟨by omega,by omega,by omega,by omega,Or.inl (by omega)⟩
        subst hv
        go_wp2_with fail
        go_ret
        exact ⟨rfl,rfl⟩
       ·have u8:decide ((A:Int) = 1) = false:=decide_eq_false t8
        have m8:((A:Int) == 1) = false:=beq_false_of_ne t8
        obtain ⟨c,l',hl'⟩:∃ c l',l = c :: l':=by
         cases l with
         | nil=>have:=HN.out;simp at this;omega
         | cons c l'=>exact ⟨c,l',rfl⟩
        have hix:∀ h,(str l)[0]'h = c:=fun h=>QCF l (by rw [hl'];rfl) h
        by_cases h48:c = 48
        ·have HC:=hid (show (l.head? == some 48) = true by rw [hl',h48];rfl)
         clear hl'
         subst h48
         have hv:R = false:=by
          refine Bool.eq_false_iff.2 fun hT=>?_
          rw [RE.out,HC.out] at hT
          simp only [Bool.not_true,Bool.or_false,Bool.and_eq_true,decide_eq_true_eq] at hT
          omega
         subst hv
         go_wp2_with fail
         go_ret
         exact ⟨rfl,rfl⟩
        ·have HC:=hid (show (l.head? == some 48) = false by rw [hl'];simpa using h48)
         have n48:¬ (c.toNat:Int) = 48:=fun e=>h48 (UInt8.toNat_inj.1 (by show c.toNat = 48;omega))
         have m48:((c.toNat:Int) != 48) = true:=bne_iff_ne.2 n48
         clear hl'
         have hv:R = true:=by
          rw [RE.out,HC.out]
          simp only [Bool.not_false,Bool.or_true,Bool.and_true,Bool.and_eq_true,decide_eq_true_eq,Bool.or_eq_true,Bool.not_eq_true',decide_eq_false_iff_not]
          exact ⟨by omega,by omega,by omega,by omega⟩
         subst hv
         go_wp2_with fail
         go_ret
         exact ⟨rfl,rfl⟩
theorem lit_ref (l:List UInt8) (hl:l.length≤30000) (w:World) :
  Calls Tryz.prog 85 #[.string (str l)] w fun e w'=>e = .returned (.bool (QKr l))∧w' = w:=QNf l _ rfl (by omega) _ rfl w
end
section
open Go.RowKit
theorem QNe {l:List UInt8} (h:QKr l = true):QIK l = true:=by
 unfold QKr at h
 simp only [Bool.and_eq_true,decide_eq_true_eq,Bool.or_eq_true,Bool.not_eq_true',decide_eq_false_iff_not] at h
 obtain ⟨h1,h2,h3,h4,h5,h6⟩:=h
 rcases QE7 l with hp | ⟨a,b,rfl,hp⟩
 ·have hs:=QEn l hp 0 0
  have e1:(st l).1 = l.length:=by unfold st;rw [hs];show 0+l.length = _;omega
  rw [e1] at h2 h3 h6
  unfold QIK QDL
  rw [QDy l hp,QGd h1 hp,decide_eq_true h2,decide_eq_true h3,show QCs l = false by unfold QCs;simpa using hp]
  simp only [Bool.and_self,Bool.true_and,Bool.not_false,Bool.true_or,Bool.and_true,Bool.not_eq_true',Bool.and_eq_false_iff,decide_eq_false_iff_not]
  rcases h6 with h6 | h6
  ·left;omega
  ·right;exact h6
 ·have hs:=QEn a hp 0 0
  have e0:st (a ++ 46 :: b) = b.foldl step (a.length,0,1):=by
   unfold st
   rw [List.foldl_append,hs,List.foldl_cons,show step (0+a.length,0,0) 46 = (a.length,0,1) by unfold step;rw [if_pos rfl];simp]
  have hmono:(b.foldl step (a.length,0,1)).2.2 = 1:=by
   have:=st_le (a ++ 46 :: b)
   rw [e0] at this h4
   rcases Nat.eq_zero_or_pos (b.foldl step (a.length,0,1)).2.2 with h0 | h0
   ·exfalso
    have hge:∀ (l:List UInt8) (s:Nat × Nat × Nat),s.2.2≤(l.foldl step s).2.2:=by
     intro l
     induction l with
     | nil=>intro s;exact Nat.le_refl _
     | cons c l ih =>
      intro s
      rw [List.foldl_cons]
      refine Nat.le_trans ?_ (ih _)
      unfold step
      split
      ·exact Nat.le_succ _
      ·split <;> exact Nat.le_refl _
    have:=hge b (a.length,0,1)
    rw [h0] at this
    exact absurd this (by show ¬ 1≤0;omega)
   ·omega
  obtain ⟨hb,hbs⟩:=QMh b a.length 0 1 (Nat.le_refl _) hmono
  rw [e0,hbs] at h2 h3 h5 h6
  have h2' : 1≤a.length:=h2
  have h3' : a.length≤10:=h3
  have h5' : 1≤b.length∧b.length≤40:=by
   rcases h5 with h5 | h5
   ·exact absurd rfl h5
   ·obtain ⟨p1,p2⟩:=h5
    have p1' : 1≤0+b.length:=p1
    have p2' : 0+b.length≤40:=p2
    omega
  rw [List.all_append,List.all_cons,Bool.and_eq_true,Bool.and_eq_true] at h1
  unfold QIK QDL
  rw [QCa a b hp,QC6 a b hp,QGd h1.1 hp,QGd h1.2.2 hb,decide_eq_true h2',decide_eq_true h3',decide_eq_true h5'.1,decide_eq_true h5'.2]
  simp only [Bool.and_self,Bool.true_and,Bool.or_true,Bool.and_true,Bool.not_eq_true',Bool.and_eq_false_iff,decide_eq_false_iff_not]
  rcases h6 with h6 | h6
  ·left
   have h6' : a.length = 1:=h6
   omega
  ·right
   cases a with
   | nil=>simp at h2'
   | cons c a=>exact h6
theorem st_tail (l:List UInt8) (h:46 ∉ l) (a b:Nat):l.foldl step (a,b,1) = (a,b+l.length,1):=by
 induction l generalizing b with
 | nil=>rfl
 | cons c l ih =>
  simp only [List.mem_cons,not_or] at h
  rw [List.foldl_cons,show step (a,b,1) c = (a,b+1,1) by unfold step;rw [if_neg (Ne.symm h.1),if_neg (by simp)],ih h.2,List.length_cons]
  simp only [Prod.mk.injEq,and_true,true_and]
  omega
theorem QEc {l:List UInt8} (h:l.all QAZ = true):l.all QJD = true∧46 ∉ l:=by
 refine ⟨List.all_eq_true.2 fun x hx=>by unfold QJD;rw [List.all_eq_true.1 h x hx];simp,fun hx=>?_⟩
 have:=List.all_eq_true.1 h 46 hx
 revert this
 decide
theorem QNg {l:List UInt8} (h:QIK l = true):QKr l = true:=by
 unfold QIK QDL at h
 simp only [Bool.and_eq_true,decide_eq_true_eq,Bool.or_eq_true,Bool.not_eq_true',Bool.and_eq_false_iff,decide_eq_false_iff_not] at h
 obtain ⟨⟨h1,h2,h3⟩,h4,h5⟩:=h
 rcases QE7 l with hp | ⟨a,b,rfl,hp⟩
 ·rw [QDy l hp] at h1 h2 h3 h4
  have hs:=QEn l hp 0 0
  have e1:st l = (l.length,0,0):=by unfold st;rw [hs];simp
  unfold QKr
  rw [e1,(QEc h3).1]
  simp only [Bool.true_and,Bool.and_eq_true,decide_eq_true_eq,Bool.or_eq_true,Bool.not_eq_true',decide_eq_false_iff_not]
  refine ⟨h1,h2,by omega,.inl (by omega),?_⟩
  rcases h4 with h4 | h4
  ·left;omega
  ·right;exact h4
 ·rw [QCa a b hp,QC6 a b hp] at *
  have hpt:QCs (a ++ 46 :: b) = true:=by unfold QCs;simp
  rw [hpt] at h5
  have h5' : 1≤b.length∧b.length≤40∧b.all QAZ = true:=by
   rcases h5 with h5 | h5
   ·cases h5
   ·exact h5
  obtain ⟨h6,h7,h8⟩:=h5'
  have hs:=QEn a hp 0 0
  have e0:st (a ++ 46 :: b) = (a.length,b.length,1):=by
   unfold st
   rw [List.foldl_append,hs,List.foldl_cons,show step (0+a.length,0,0) 46 = (a.length,0,1) by unfold step;rw [if_pos rfl];simp,st_tail b (QEc h8).2]
   simp
  unfold QKr
  rw [e0,List.all_append,List.all_cons,(QEc h3).1,(QEc h8).1]
  have h46:QJD 46 = true:=rfl
  rw [h46]
  simp only [Bool.and_self,Bool.true_and,Bool.and_eq_true,decide_eq_true_eq,Bool.or_eq_true,Bool.not_eq_true',decide_eq_false_iff_not]
  refine ⟨h1,h2,by omega,.inr ⟨h6,h7⟩,?_⟩
  rcases h4 with h4 | h4
  ·left;omega
  ·right
   cases a with
   | nil=>simp at h1
   | cons c a=>exact h4
theorem QLy (l:List UInt8):QKr l = QIK l:=by
 cases h:QIK l with
 | true=>exact QNg h
 | false =>
  cases h2:QKr l with
  | false=>rfl
  | true=>rw [QNe h2] at h;cases h
def QL1:Prop:=∀ t:List UInt8,QIK t = true→∀ W,Calls Tryz.prog 86 #[.string (str t)] W fun e w'=>e = .returned (.tuple #[.int .u64 ((QCS t).1:Int),.bool (!(QCS t).2)])∧Below W.heap.size W w'
theorem QIX (t:List UInt8) (n:Nat) (hs:(str t).size = n) (n0:0 < n) (c:UInt8) (hix:∀ h,(str t)[0]'h = c) (k2:((c.toNat:Int) == 45) = false) (w:World)
  (L:Hid (∀ w,Calls Tryz.prog 85 #[.string (str t)] w fun e w'=>e = .returned (.bool false)∧w' = w)) :
  Calls Tryz.prog 56 #[.string (str t)] w fun e w'=>e = .returned (.tuple #[.int .i64 0,.bool false])∧Below w.heap.size w w':=by
 go_enter Tryz.func56,Tryz.ntmps56
 go_wp2_with (go_at_call 85;((with_reducible refine (L.out _).mono ?_);rintro e w' ⟨rfl,rfl⟩))
 go_ret2
 exact ⟨rfl,Below.refl _ _⟩
theorem QIY (t:List UInt8) (n:Nat) (hs:(str t).size = n) (n0:0 < n) (c:UInt8) (hix:∀ h,(str t)[0]'h = c) (k2:((c.toNat:Int) == 45) = false) (w:World)
  (L:Hid (∀ w,Calls Tryz.prog 85 #[.string (str t)] w fun e w'=>e = .returned (.bool true)∧w' = w))
  (Z:Nat) (ov:Bool) (hz:ov = true∨(Z:Int)≤9223372036854775808) (S:Hid (∀ w,Calls Tryz.prog 86 #[.string (str t)] w fun e w'=>e = .returned (.tuple #[.int .u64 (Z:Int),.bool ov])∧Below w.heap.size w w')) :
  Calls Tryz.prog 56 #[.string (str t)] w fun e w'=>e = .returned (.tuple #[.int .i64 (if ov = false∧Z≤9223372036854775807 then (Z:Int) else 0),.bool (decide (ov = false∧Z≤9223372036854775807))])∧Below w.heap.size w w':=by
 cases ov with
 | true =>
  rw [if_neg (by simp)]
  go_enter Tryz.func56,Tryz.ntmps56
  go_wp2_with (first | (go_at_call 85;((with_reducible refine (L.out _).mono ?_);rintro e w' ⟨rfl,rfl⟩)) | (go_at_call 86;((with_reducible refine (S.out _).mono ?_);rintro e w1 ⟨rfl,hb⟩;have HB:=hid hb;clear hb)))
  go_ret2
  exact ⟨by simp,HB.out⟩
 | false =>
  have hz2:(Z:Int)≤9223372036854775808:=by rcases hz with h | h;cases h;exact h
  clear hz
  by_cases hq:(Z:Int)≤9223372036854775807
  ·have q1:((Z:Int) == 9223372036854775808) = false:=beq_false_of_ne (by omega)
   have qn:¬ (Z:Int) = 9223372036854775808:=by omega
   rw [if_pos ⟨rfl,by omega⟩,decide_eq_true (by exact ⟨rfl,by omega⟩)]
   go_enter Tryz.func56,Tryz.ntmps56
   go_wp2_with (first | (go_at_call 85;((with_reducible refine (L.out _).mono ?_);rintro e w' ⟨rfl,rfl⟩)) | (go_at_call 86;((with_reducible refine (S.out _).mono ?_);rintro e w1 ⟨rfl,hb⟩;have HB:=hid hb;clear hb)))
   go_ret2
   exact ⟨rfl,HB.out⟩
  ·have hq2:(Z:Int) = 9223372036854775808:=by omega
   have q1:((Z:Int) == 9223372036854775808) = true:=by rw [hq2];rfl
   rw [if_neg (by rintro ⟨_,h⟩;omega),decide_eq_false (by rintro ⟨_,h⟩;omega)]
   clear hq
   go_enter Tryz.func56,Tryz.ntmps56
   go_wp2_with (first | (go_at_call 85;((with_reducible refine (L.out _).mono ?_);rintro e w' ⟨rfl,rfl⟩)) | (go_at_call 86;((with_reducible refine (S.out _).mono ?_);rintro e w1 ⟨rfl,hb⟩;have HB:=hid hb;clear hb)))
   go_ret2
   exact ⟨rfl,HB.out⟩
theorem QKV (w:World) (L:Hid (∀ w,Calls Tryz.prog 85 #[.string ⟨#[]⟩] w fun e w'=>e = .returned (.bool false)∧w' = w)) :
  Calls Tryz.prog 56 #[.string ⟨#[]⟩] w fun e w'=>e = .returned (.tuple #[.int .i64 0,.bool false])∧Below w.heap.size w w':=by
 go_enter Tryz.func56,Tryz.ntmps56
 go_wp2_with (go_at_call 85;((with_reducible refine (L.out _).mono ?_);rintro e w' ⟨rfl,rfl⟩))
 go_ret2
 exact ⟨rfl,Below.refl _ _⟩
theorem QG1 {t:List UInt8} (h:QIK t = false):QBy t = (0,false):=by
 have:QCS t = (0,false):=by unfold QCS;rw [if_neg (by rw [h];simp)]
 unfold QBy
 rw [this]
 simp
theorem QKQ (SZ:QL1):QH1:=fun t ht hh W=>by
 have L:Hid (∀ w,Calls Tryz.prog 85 #[.string (str t)] w fun e w'=>e = .returned (.bool (QIK t))∧w' = w):=hid fun w=>by rw [← QLy];exact lit_ref t ht w
 cases t with
 | nil=>rw [QG1 (by rfl)];exact QKV W L
 | cons c t =>
  have hc:c≠45:=fun e=>hh (by rw [e];rfl)
  have hix:∀ h,(str (c :: t))[0]'h = c:=fun h=>QCF (c :: t) (j:=0) rfl h
  have k2:=(QCG hc 45 rfl).2.2.2.1
  cases hl:QIK (c :: t) with
  | false =>
   rw [QG1 hl]
   rw [hl] at L
   exact QIX (c :: t) _ (QBE _) (by simp) c hix k2 W L
  | true =>
   rw [hl] at L
   have S:=hid (SZ (c :: t) hl)
   refine (QIY (c :: t) _ (QBE _) (by simp) c hix k2 W L (QCS (c :: t)).1 (!(QCS (c :: t)).2) ?_ S).mono fun e w' ⟨he,hb⟩=>⟨?_,hb⟩
   ·cases h2:(QCS (c :: t)).2 with
    | false=>left;rfl
    | true =>
     right
     unfold QCS at h2 ⊢
     split at h2
     ·rename_i h3;rw [if_pos h3];simp only [decide_eq_true_eq] at h2;show ((QOF (c :: t):Nat):Int)≤_;omega
     ·cases h2
   ·rw [he]
    unfold QBy
    cases h2:(QCS (c :: t)).2 with
    | false=>simp
    | true =>
     by_cases h3:(QCS (c :: t)).1≤9223372036854775807
     ·simp [h3]
     ·simp [h3]
end
section
open Go.RowKit
theorem QEg:(Tryz.prog.info? 3).map (fun i=>(i.zero,i.size,i.bytes)) = some (some (.int .i64 0),1,8):=by kernel_rfl
theorem QEH (w:World) {ops:Array Oper} {QBd:List Oper} {o:Oper} {a:Act} {Q:Exit→Act→World→Prop}
  (hg:o.guard = none) (s x:Operand) (hop:o.op = Op.call { callee:=Callee.builtin Builtin.append,args:=#[s,x],argTypes:=#[52,52] })
  (base:Nat) (v:Value) (k:Nat) (xs:List Value) (hs:a.eval s = v) (hown:w.ownsRow base 3 1 v k xs) (ad:Addr) (news:List Value) (hx:a.eval x = .slice (some ad) 1 1) (hn:news.length = 1*1)
  (hc:∀ j u,news[j]? = some u→w.cell? (ad.add j) = some u) (h1c:∀ u∈news,u.oneCell' = true) (hk:k≤40000) (b3:base≤w.heap.size)
  (hK:∀ v' w',w'.ownsRow base 3 1 v' (k+1) (xs ++ news)→w.grownBy w' v.ownBlock→wpList Tryz.prog ops Q QBd (a.put o.dst v') w') :
  wpList Tryz.prog ops Q (o :: QBd) a w:=by
 obtain ⟨i,h2,h3,h4,h5⟩:=info_parts QEg
 refine wpList_plain hg fun K hK'=>?_
 obtain ⟨v',w',hrun,r1,r2,_⟩:=run_append_own (P:=Tryz.prog) w base 52 o.type 3 i _ 1 8 Tryz.underlying52 h2 h3 h4 h5 rfl (by decide) v k xs hown ad 1 1 news hn hc h1c (by unfold maxLen;omega) (by omega) b3
 unfold Oper.wp execOp
 simp only [hop,resolve,invoke,builtin,Sem.run_bind,Sem.run_pure,Result.andThen_ok,List.map_toArray,List.map_cons,List.map_nil,hs,hx,hrun]
 exact hK' _ _ (hK v' w' r1 r2)
def QFb (c:UInt8):Value:=.int .i64 ((c.toNat - 48:Nat):Int)
def QOf (w:World) (B:Nat) (l:List UInt8):Prop :=
 ∀ (j:Nat) (x:UInt8),l[j]? = some x→w.cell? ⟨B,j,none⟩ = some (QFb x)∧w.frozen? ⟨B,j,none⟩ = false
theorem QNR {w:World} {B:Nat} {l:List UInt8} (h:QOf w B l) (j:Nat) (x:UInt8) (hj:j < l.length):QOf (w.setCell ⟨B,j,none⟩ (QFb x)) B (l.set j x):=fun i y hy=>by
 obtain ⟨x0,h0⟩:∃ x0,l[j]? = some x0:=⟨l[j],List.getElem?_eq_getElem hj⟩
 refine ⟨?_,by
  rw [World.frozen?_setCell]
  exact (h i (l[i]'(by have:=(List.getElem?_eq_some_iff.1 hy).1;simpa using this)) (List.getElem?_eq_getElem _)).2⟩
 by_cases e:i = j
 ·subst e
  rw [World.cell?_setCell_same _ _ _ (h i x0 h0).1]
  rw [List.getElem?_set_self hj] at hy
  cases hy
  rfl
 ·rw [World.cell?_setCell_other _ _ _ _ (by simp)]
  rw [List.getElem?_set_ne (Ne.symm e)] at hy
  exact (h i y hy).1
theorem QLj {w:World} {R:Nat} {m:List UInt8} {j:Nat} {x:UInt8} (h:QOf w R (m.take (j+1) ++ dbl (m.drop (j+1)))) (hx:m[j]? = some x) (r:Nat) (hr:r = (2*(x.toNat - 48)+cry (m.drop (j+1))) % 10) :
  QOf (w.setCell ⟨R,j,none⟩ (.int .i64 (r:Int))) R (m.take j ++ dbl (m.drop j)):=by
 have hj:j < m.length:=(List.getElem?_eq_some_iff.1 hx).1
 have hd:=QLM hx
 have h4:=QNR h j (dg r) (by simp;omega)
 have hv:QFb (dg r) = .int .i64 (r:Int):=by unfold QFb;rw [QLK (by omega),Nat.add_sub_cancel_left]
 rw [hv] at h4
 have e1:(m.take (j+1) ++ dbl (m.drop (j+1))).set j (dg r) = m.take j ++ dbl (m.drop j):=by
  rw [QEE hx,List.append_assoc,List.set_append_right _ _ (by simp;omega),hd]
  have:j - (m.take j).length = 0:=by simp;omega
  rw [this,hr]
  rfl
 rw [e1] at h4
 exact h4
theorem QHK {w:World} {base g n cap:Nat} {l:List UInt8} (h:w.ownsRow base 3 1 (.slice (some ⟨g,0,none⟩) n cap) n (l.map QFb)):QOf w g l:=fun j x hx=>by
 refine ⟨?_,?_⟩
 ·have:=h.cells (g:=g) rfl j (QFb x) (by rw [List.getElem?_map,hx];rfl)
  have e:(⟨g,0,none⟩:Addr).add j = ⟨g,j,none⟩:=by unfold Addr.add;split <;> simp_all
  rwa [e] at this
 ·rcases h.2 with ⟨h1,_⟩ | ⟨g',cap',cur,h1,_,hgg,_⟩
  ·cases h1
  ·cases h1
   exact Lib.frozen_of_heap hgg j
set_option maxRecDepth 100000 in
theorem QKW (a:List UInt8) (n:Nat) (hn:Hid (a.length = n)) (hs:(str a).size = n) (n10:(n:Int)≤10) (hd:Hid (a.all QAZ = true)) (V:Nat) (hV:Hid (QD7 a = V)) (vb:(V:Int)≤9999999999) (Z:Int) (ov:Bool) (hZ:Hid (V≤2147483648→Z = ((V*4294967296:Nat):Int)∧ov = decide (9223372036854775808 < V*4294967296)) ) (hZ2:Hid (¬ V≤2147483648→Z = 0∧ov = true)) (w:World) :
  Calls Tryz.prog 86 #[.string (str a)] w fun e w'=>e = .returned (.tuple #[.int .u64 Z,.bool ov])∧Below w.heap.size w w':=by
 go_enter Tryz.func86,Tryz.ntmps86
 go_wp2_with fail
 go_loop [5,4] (fun x y=>∃ k v:Nat,k≤n∧x = .int .i64 k∧y = .int .u64 (v:Int)∧Hid (v = QD7 (a.take k))) (fun x _=>n - QA2 x)
 case atStart=>exact ⟨0,0,by omega,rfl,rfl,hid rfl⟩
 case round =>
  obtain ⟨k,v,hk,rfl,rfl,hv⟩:=hrel
  rcases Nat.lt_or_ge k n with hlt | hge
  ·obtain ⟨c,hc⟩:∃ c,a[k]? = some c:=⟨a[k]'(by have:=hn.out;omega),List.getElem?_eq_getElem _⟩
   have hix:∀ h,(str a)[k]'h = c:=fun h=>QCF a hc h
   have q3:decide ((k:Int) < (n:Int)) = true:=decide_eq_true (by omega)
   have hcd:=QBu.1 (List.all_eq_true.1 hd.out c (List.mem_of_getElem? hc))
   have hnx:QD7 (a.take (k+1)) = QD7 (a.take k)*10+(c.toNat - 48):=by rw [QEE hc,QHZ]
   have h1:=QFF _ (QEa hd.out k) (by rw [List.length_take];omega)
   have h2:=QFF _ (QEa hd.out (k+1)) (by rw [List.length_take];omega)
   have hc46:c≠46:=fun e=>by rw [e] at hcd;revert hcd;decide
   obtain ⟨k1,k2,k3,k4,k5⟩:=QCG hc46 46 rfl
   obtain ⟨X,hX⟩:∃ X,X = c.toNat:=⟨_,rfl⟩
   rw [← hX] at hcd hnx k3 k4 k5
   obtain ⟨y,hy⟩:∃ y,y = X - 48:=⟨_,rfl⟩
   rw [← hy] at hnx
   have hv':=hv.out
   rw [← hv'] at hnx h1
   obtain ⟨v2,hv2⟩:∃ v2,v2 = QD7 (a.take (k+1)):=⟨_,rfl⟩
   rw [← hv2] at hnx h2
   have V2:=hid hv2
   have e0:(X:Int) - 48 = (y:Int):=by omega
   have e1:10*(v:Int)+(y:Int) = (v2:Int):=by omega
   have e1' : (v:Int)*10+(y:Int) = (v2:Int):=by omega
   have b0:(48:Int)≤(X:Int):=by omega
   have b1:(X:Int)≤57:=by omega
   have b2:(v:Int)≤9999999999:=by omega
   have b3:(v2:Int)≤9999999999:=by omega
   have b4:(y:Int)≤9:=by omega
   have hX2:c.toNat = X:=hX.symm
   clear hX hy hv2 hnx h1 h2 hcd hc hv' hc46 hv
   go_wp2_with fail
   exact ⟨⟨k+1,v2,by omega,rfl,rfl,V2⟩,by simp [QA2];omega⟩
  ·have q3:decide ((k:Int) < (n:Int)) = false:=decide_eq_false (by omega)
   obtain rfl:v = V:=by rw [hv.out,show k = a.length by rw [hn.out];omega,List.take_length,hV.out]
   clear hv
   obtain rfl:k = n:=by omega
   go_wp2_with fail
   go_loop [5,6] (fun i s=>i = .int .i64 ((k:Int)+1)∧s = .slice none 0 0) (fun _ _=>0)
   case atStart=>exact ⟨rfl,rfl⟩
   case round =>
    obtain ⟨rfl,rfl⟩:=hrel
    have q4:decide ((k:Int)+1 < (k:Int)) = false:=decide_eq_false (by omega)
    by_cases hg:(2147483648:Int) < (v:Int)
    ·have q5:decide ((2147483648:Int) < (v:Int)) = true:=decide_eq_true hg
     have E:=hid (hZ2.out (by omega))
     go_wp2_with fail
     go_ret2
     exact ⟨by rw [E.out.1,E.out.2];rfl,Below.refl _ _⟩
    ·have q5:decide ((2147483648:Int) < (v:Int)) = false:=decide_eq_false hg
     have E:=hid (hZ.out (by omega))
     go_wp2_with fail
     go_loop [8,7] (fun i u=>∃ κ U:Nat,κ≤32∧i = .int .i64 κ∧u = .int .u64 (U:Int)∧Hid (U = v*2 ^ κ)) (fun i _=>32 - QA2 i)
     case atStart=>exact ⟨0,v,by omega,rfl,rfl,hid (by simp)⟩
     case round =>
      obtain ⟨κ,U,hκ,rfl,rfl,hU⟩:=hrel
      rcases Nat.lt_or_ge κ 32 with hlt2 | hge2
      ·have q6:decide ((κ:Int) < 32) = true:=decide_eq_true (by omega)
       have hb:Hid (U≤4611686018427387904):=hid (by
        rw [hU.out]
        have h1:2 ^ κ≤2 ^ 31:=Nat.pow_le_pow_right (by omega) (by omega)
        have h2:=Nat.mul_le_mul (show v≤2147483648 by omega) h1
        omega)
       obtain ⟨U2,hU2⟩:∃ U2,U2 = 2*U:=⟨_,rfl⟩
       have e1:2*(U:Int) = (U2:Int):=by omega
       have ub:(U2:Int)≤9223372036854775808:=by have:=hb.out;omega
       have HU2:=hid (show U2 = v*2 ^ (κ+1) by rw [hU2,hU.out,Nat.pow_succ];exact (Nat.mul_comm _ _).trans (Nat.mul_assoc _ _ _))
       clear hU2 hU hb
       go_wp2_with fail
       go_loop [10,9] (fun t c=>t = .int .i64 (-1)∧c = .int .i64 0) (fun _ _=>0)
       case atStart=>exact ⟨rfl,rfl⟩
       case round =>
        obtain ⟨rfl,rfl⟩:=hrel
        go_wp2_with fail
        exact ⟨⟨κ+1,U2,by omega,rfl,rfl,HU2⟩,by simp [QA2];omega⟩
      ·have q6:decide ((κ:Int) < 32) = false:=decide_eq_false (by omega)
       obtain rfl:κ = 32:=by omega
       have hE:=E.out
       have hU':=hU.out
       rw [show (2:Nat) ^ 32 = 4294967296 from rfl] at hU'
       rw [← hU'] at hE
       by_cases ho:(9223372036854775808:Int) < (U:Int)
       ·have q7:decide ((9223372036854775808:Int) < (U:Int)) = true:=decide_eq_true ho
        obtain ⟨rfl,hov⟩:=hE
        rw [decide_eq_true (by omega)] at hov
        subst hov
        clear hU hU'
        go_wp2_with fail
        go_ret2
        exact ⟨rfl,Below.refl _ _⟩
       ·have q7:decide ((9223372036854775808:Int) < (U:Int)) = false:=decide_eq_false ho
        obtain ⟨rfl,hov⟩:=hE
        rw [decide_eq_false (by omega)] at hov
        subst hov
        clear hU hU'
        go_wp2_with fail
        go_ret2
        exact ⟨rfl,Below.refl _ _⟩
set_option maxRecDepth 100000 in
theorem QKX (t a b:List UInt8) (n p q' : Nat) (hn:Hid (a.length = p)) (hqb:Hid (b.length = q'+1)) (hA:Hid (∀ (j:Nat) (c:UInt8),a[j]? = some c→t[j]? = some c)) (hP:Hid (t[p]? = some 46)) (hB:Hid (∀ (j:Nat) (c:UInt8),b[j]? = some c→t[p+1+j]? = some c)) (hs:(str t).size = n) (en:Hid ((n:Int) = (p:Int)+1+(q' : Int)+1)) (nb:(n:Int)≤100) (n10:(p:Int)≤10) (Lo:(q' : Int)≤39) (hd:Hid (a.all QAZ = true)) (hdb:Hid (b.all QAZ = true)) (V:Nat) (hV:Hid (QD7 a = V)) (vb:(V:Int)≤9999999999) (Z:Int) (ov:Bool) (hZ:Hid (V≤2147483648→Z = ((V*4294967296+QEw b:Nat):Int)∧ov = decide (9223372036854775808 < V*4294967296+QEw b)) ) (hZ2:Hid (¬ V≤2147483648→Z = 0∧ov = true)) (w:World) :
  Calls Tryz.prog 86 #[.string (str t)] w fun e w'=>e = .returned (.tuple #[.int .u64 Z,.bool ov])∧Below w.heap.size w w':=by
 go_enter Tryz.func86,Tryz.ntmps86
 go_wp2_with fail
 go_loop [5,4] (fun x y=>∃ k v:Nat,k≤p∧x = .int .i64 k∧y = .int .u64 (v:Int)∧Hid (v = QD7 (a.take k))) (fun x _=>p - QA2 x)
 case atStart=>exact ⟨0,0,by omega,rfl,rfl,hid rfl⟩
 case round =>
  obtain ⟨k,v,hk,rfl,rfl,hv⟩:=hrel
  rcases Nat.lt_or_ge k p with hlt | hge
  ·obtain ⟨c,hc⟩:∃ c,a[k]? = some c:=⟨a[k]'(by have:=hn.out;omega),List.getElem?_eq_getElem _⟩
   have hix:∀ h,(str t)[k]'h = c:=fun h=>QCF t (hA.out k c hc) h
   have kn:(k:Int) < (n:Int):=by have:=en.out;omega
   have q3:decide ((k:Int) < (n:Int)) = true:=decide_eq_true (by have:=en.out;omega)
   have hcd:=QBu.1 (List.all_eq_true.1 hd.out c (List.mem_of_getElem? hc))
   have hnx:QD7 (a.take (k+1)) = QD7 (a.take k)*10+(c.toNat - 48):=by rw [QEE hc,QHZ]
   have h1:=QFF _ (QEa hd.out k) (by rw [List.length_take];omega)
   have h2:=QFF _ (QEa hd.out (k+1)) (by rw [List.length_take];omega)
   have hc46:c≠46:=fun e=>by rw [e] at hcd;revert hcd;decide
   obtain ⟨k1,k2,k3,k4,k5⟩:=QCG hc46 46 rfl
   obtain ⟨X,hX⟩:∃ X,X = c.toNat:=⟨_,rfl⟩
   rw [← hX] at hcd hnx k3 k4 k5
   obtain ⟨y,hy⟩:∃ y,y = X - 48:=⟨_,rfl⟩
   rw [← hy] at hnx
   have hv':=hv.out
   rw [← hv'] at hnx h1
   obtain ⟨v2,hv2⟩:∃ v2,v2 = QD7 (a.take (k+1)):=⟨_,rfl⟩
   rw [← hv2] at hnx h2
   have V2:=hid hv2
   have e0:(X:Int) - 48 = (y:Int):=by omega
   have e1:10*(v:Int)+(y:Int) = (v2:Int):=by omega
   have e1' : (v:Int)*10+(y:Int) = (v2:Int):=by omega
   have b0:(48:Int)≤(X:Int):=by omega
   have b1:(X:Int)≤57:=by omega
   have b2:(v:Int)≤9999999999:=by omega
   have b3:(v2:Int)≤9999999999:=by omega
   have b4:(y:Int)≤9:=by omega
   have hX2:c.toNat = X:=hX.symm
   clear hX hy hv2 hnx h1 h2 hcd hc hv' hc46 hv
   go_wp2_with fail
   exact ⟨⟨k+1,v2,by omega,rfl,rfl,V2⟩,by simp [QA2];omega⟩
  ·obtain rfl:v = V:=by rw [hv.out,show k = a.length by rw [hn.out];omega,List.take_length,hV.out]
   clear hv
   obtain rfl:k = p:=by omega
   have q3:decide ((k:Int) < (n:Int)) = true:=decide_eq_true (by have:=en.out;omega)
   have kn:(k:Int) < (n:Int):=by have:=en.out;omega
   obtain ⟨d,hd46⟩:∃ d:UInt8,d = 46:=⟨_,rfl⟩
   have hixp:∀ h,(str t)[k]'h = d:=fun h=>QCF t (by rw [hd46];exact hP.out) h
   have k1:(d != 46) = false:=by rw [hd46];rfl
   have k2:((d.toNat:Int) != 46) = false:=by rw [hd46];rfl
   have k3:(d.toNat:Int) = 46:=by rw [hd46];rfl
   clear hd46
   go_wp2_with fail
   go_loopw [5,6] (fun i s wr=>∃ j x:Nat,j≤q'+1∧Hid ((x:Int) = (k:Int)+1+(j:Int))∧i = .int .i64 x∧Hid (wr.ownsRow w.heap.size 3 1 s j ((b.take j).map QFb))∧Hid (Below w.heap.size w wr)) (fun i _ _=>n - QA2 i)
   case atStart=>exact ⟨0,k+1,by omega,hid (by omega),rfl,hid (World.ownsRow_nil _ _ _ _),hid (Below.refl _ _)⟩
   case round =>
    obtain ⟨j,x,hj,hx,rfl,hO,hBw⟩:=hrel
    rcases Nat.lt_or_ge j (q'+1) with hjl | hjg
    ·have q4:decide ((x:Int) < (n:Int)) = true:=decide_eq_true (by have:=hx.out;have:=en.out;omega)
     have xn:(x:Int) < (n:Int):=by have:=hx.out;have:=en.out;omega
     obtain ⟨c,hc⟩:∃ c,b[j]? = some c:=⟨b[j]'(by have:=hqb.out;omega),List.getElem?_eq_getElem _⟩
     have hix:∀ h,(str t)[x]'h = c:=fun h=>QCF t (by rw [show x = k+1+j by have:=hx.out;omega];exact hB.out j c hc) h
     have hcd:=QBu.1 (List.all_eq_true.1 hdb.out c (List.mem_of_getElem? hc))
     have HT:=hid (QEE hc)
     obtain ⟨X,hX⟩:∃ X,X = c.toNat:=⟨_,rfl⟩
     rw [← hX] at hcd
     obtain ⟨y,hy⟩:∃ y,y = X - 48:=⟨_,rfl⟩
     have HY:Hid (QFb c = .int .i64 (y:Int)):=hid (by unfold QFb;rw [← hX,hy])
     have e0:(X:Int) - 48 = (y:Int):=by omega
     have b0:(48:Int)≤(X:Int):=by omega
     have b1:(X:Int)≤57:=by omega
     have hX2:c.toNat = X:=hX.symm
     clear hX hy hcd hc
     go_wp2_with (at_builtin;refine QEH _ rfl _ _ rfl w.heap.size _ j _ rfl (hO.out.alloc _) ⟨wr.heap.size,0,none⟩ [.int .i64 (y:Int)] rfl rfl (cell_one_new _ _ _) (by simp [Value.oneCell']) (by omega) (by have:=hBw.out.size;simp;omega) ?_;intro v' w3 hown' hgrow;have G1:=hid hown';have G2:=hid ((hBw.out.alloc hBw.out.size (.cells #[.int .i64 (y:Int)] 3)).grown hgrow (by have:=hBw.out.size;simp;omega) (fun k hk=>(hO.out.lt k hk).1));clear hown' hgrow)
     exact ⟨⟨j+1,x+1,by omega,hid (by have:=hx.out;omega),rfl,hid (by rw [HT.out,List.map_append,List.map_singleton,HY.out];exact G1.out),G2⟩,by simp [QA2];omega⟩
    ·have q4:decide ((x:Int) < (n:Int)) = false:=decide_eq_false (by have:=hx.out;have:=en.out;omega)
     have xg:(n:Int)≤(x:Int):=by have:=hx.out;have:=en.out;omega
     obtain rfl:j = q'+1:=by omega
     obtain ⟨g,cap,rfl⟩:=ownsRow_succ hO.out
     have HI:Hid (QOf wr g b):=hid (by
      have:=hO.out
      rw [List.take_of_length_le (by rw [hqb.out];exact Nat.le_refl _)] at this
      exact QHK this)
     have HG:=hid (hO.out.lt g rfl).1
     obtain ⟨q,hq⟩:∃ q,q = q'+1:=⟨_,rfl⟩
     rw [← hq]
     have qb:(q:Int)≤40:=by omega
     have hqe:Hid (b.length = q):=hid (by rw [hqb.out,hq])
     have cq:((q' : Int)+1) = (q:Int):=by omega
     clear hO hq
     by_cases hg:(2147483648:Int) < (v:Int)
     ·have q5:decide ((2147483648:Int) < (v:Int)) = true:=decide_eq_true hg
      have E:=hid (hZ2.out (by omega))
      go_wp2_with fail
      go_ret2
      exact ⟨by rw [E.out.1,E.out.2];rfl,hBw.out⟩
     ·have q5:decide ((2147483648:Int) < (v:Int)) = false:=decide_eq_false hg
      have E:=hid (hZ.out (by omega))
      go_wp2_with fail
      go_loopw [8,7] (fun i u wr=>∃ (κ U B:Nat) (m:List UInt8),κ≤32∧i = .int .i64 κ∧u = .int .u64 (U:Int)∧Hid (U = v*2 ^ κ+B)∧Hid (QJY b κ m B)∧Hid (QOf wr g m)∧Hid (Below w.heap.size w wr)) (fun i _ _=>32 - QA2 i)
      case atStart=>exact ⟨0,v,0,b,by omega,rfl,rfl,hid (by simp),hid (QJn b hdb.out),HI,hBw⟩
      case round =>
       obtain ⟨κ,U,B,m,hκ,rfl,rfl,hU,hD,hR,hBb⟩:=hrel
       rcases Nat.lt_or_ge κ 32 with hlt2 | hge2
       ·have q6:decide ((κ:Int) < 32) = true:=decide_eq_true (by omega)
        have hml:Hid (m.length = q):=hid (by rw [hD.out.2.1];exact hqe.out)
        have hub:Hid (U≤4611686020574871552):=hid (by
         have h0:=QNA hD.out hdb.out
         rw [hU.out]
         have h1:2 ^ κ≤2 ^ 31:=Nat.pow_le_pow_right (by omega) (by omega)
         have h2:=Nat.mul_le_mul (show v≤2147483648 by omega) h1
         omega)
        obtain ⟨U1,hU1⟩:∃ U1,U1 = 2*U:=⟨_,rfl⟩
        have e1:2*(U:Int) = (U1:Int):=by omega
        have ub:(U1:Int)≤9223372041149743104:=by have:=hub.out;omega
        have HU1:=hid hU1
        clear hU1
        go_wp2_with fail
        go_loopw [10,9] (fun t c wi=>∃ j C:Nat,j≤q∧t = .int .i64 ((j:Int) - 1)∧c = .int .i64 (C:Int)∧(C:Int)≤1∧Hid (C = cry (m.drop j))∧Hid (QOf wi g (m.take j ++ dbl (m.drop j)))∧Hid (Below w.heap.size w wi)) (fun t _ _=>(intOf t+1).toNat)
        case atStart =>
         exact ⟨q,0,Nat.le_refl _,rfl,rfl,by omega,hid (by rw [List.drop_of_length_le (by rw [hml.out];exact Nat.le_refl _)];rfl),hid (by rw [List.take_of_length_le (by rw [hml.out];exact Nat.le_refl _),List.drop_of_length_le (by rw [hml.out];exact Nat.le_refl _),show dbl [] = [] from rfl,List.append_nil];exact hR.out),hBb⟩
        case round =>
         obtain ⟨j,C,hj,rfl,rfl,hC1,hC,hI,hBi⟩:=hrel
         rcases j with _ | j
         ·obtain ⟨U2,hU2⟩:∃ U2,U2 = U1+C:=⟨_,rfl⟩
          have e2:(U1:Int)+(C:Int) = (U2:Int):=by omega
          have ub2:(U2:Int)≤9223372041149743105:=by omega
          have c0:(0:Int)≤(C:Int):=by omega
          have HU2:Hid (U2 = v*2 ^ (κ+1)+(2*B+cry m)):=hid (by
           have h1:=hC.out
           rw [List.drop_zero] at h1
           have h2:v*2 ^ (κ+1) = 2*(v*2 ^ κ):=by rw [Nat.pow_succ];exact ((Nat.mul_comm _ _).trans (Nat.mul_assoc _ _ _)).symm
           rw [hU2,HU1.out,hU.out,h2,h1]
           omega)
          clear hU2
          go_wp2_with fail
          exact ⟨⟨κ+1,U2,2*B+cry m,dbl m,by omega,rfl,rfl,HU2,hid (QJm hD.out),hid (by have:=hI.out;rw [List.take_zero,List.drop_zero,List.nil_append] at this;exact this),hBi⟩,by simp [QA2];omega⟩
         ·have hj2:j < m.length:=by rw [hml.out];omega
          obtain ⟨x',hx'⟩:∃ x',m[j]? = some x':=⟨m[j],List.getElem?_eq_getElem hj2⟩
          have hxd:=QBu.1 (List.all_eq_true.1 hD.out.1 x' (List.mem_of_getElem? hx'))
          have hxr:(m.take (j+1) ++ dbl (m.drop (j+1)))[j]? = some x':=by
           rw [List.getElem?_append_left (by simp;omega),List.getElem?_take,if_pos (by omega),hx']
          obtain ⟨c1o,f1⟩:=hI.out j x' hxr
          obtain ⟨y,hy⟩:∃ y,y = x'.toNat - 48:=⟨_,rfl⟩
          have c1:wr.cell? ⟨g,j,none⟩ = some (.int .i64 (y:Int)):=by rw [c1o];unfold QFb;rw [hy]
          obtain ⟨T,hT⟩:∃ T,T = 2*y+C:=⟨_,rfl⟩
          obtain ⟨s,hs'⟩:∃ s,s = T / 10:=⟨_,rfl⟩
          obtain ⟨r,hr⟩:∃ r,r = T % 10:=⟨_,rfl⟩
          have HN:=hid (QLj hI.out hx' r (by rw [hr,hT,hy,hC.out]))
          have HC2:Hid (s = cry (m.drop j)):=hid (by rw [hs',hT,hy,hC.out,QLM hx'];rfl)
          have y9:(y:Int)≤9:=by omega
          have y0:(0:Int)≤(y:Int):=by omega
          have e2:2*(y:Int)+(C:Int) = (T:Int):=by omega
          have t19:(T:Int)≤19:=by omega
          have e3:(T:Int) / 10 = (s:Int):=by omega
          have e4:(T:Int) % 10 = (r:Int):=by omega
          have e5:Int.tdiv (T:Int) 10 = (s:Int):=by rw [Int.tdiv_eq_ediv_of_nonneg (by omega)];exact e3
          have e6:Int.tmod (T:Int) 10 = (r:Int):=by rw [Int.tmod_eq_emod_of_nonneg (by omega)];exact e4
          have s1:(s:Int)≤1:=by omega
          have r9:(r:Int)≤9:=by omega
          have jq:(j:Int) < (q:Int):=by omega
          have q7:decide ((0:Int)≤(j:Int)) = true:=decide_eq_true (by omega)
          clear hy hT hs' hr hxr hx' hxd hj2 c1o
          rw [show ((j+1:Nat):Int) - 1 = (j:Int) by omega]
          go_wp2_with fail
          exact ⟨⟨j,s,by omega,rfl,rfl,s1,HC2,HN,hid (hBi.out.setCell (p:=⟨g,j,none⟩) HG.out _)⟩,by simp [intOf]⟩
       ·have q6:decide ((κ:Int) < 32) = false:=decide_eq_false (by omega)
        obtain rfl:κ = 32:=by omega
        have hE:=E.out
        have hU':=hU.out
        rw [show (2:Nat) ^ 32 = 4294967296 from rfl,QLF hD.out] at hU'
        rw [← hU'] at hE
        by_cases ho:(9223372036854775808:Int) < (U:Int)
        ·have q7:decide ((9223372036854775808:Int) < (U:Int)) = true:=decide_eq_true ho
         obtain ⟨rfl,hov⟩:=hE
         rw [decide_eq_true (by omega)] at hov
         subst hov
         clear hU hU'
         go_wp2_with fail
         go_ret2
         exact ⟨rfl,hBb.out⟩
        ·have q7:decide ((9223372036854775808:Int) < (U:Int)) = false:=decide_eq_false ho
         obtain ⟨rfl,hov⟩:=hE
         rw [decide_eq_false (by omega)] at hov
         subst hov
         clear hU hU'
         go_wp2_with fail
         go_ret2
         exact ⟨rfl,hBb.out⟩
set_option maxRecDepth 100000 in
theorem QO5:QL1:=fun t ht W=>by
 obtain ⟨h1,h2,h3,h4,h5⟩:=QKD ht
 have hv:=QFF (ahead t) h3 h2
 have hZ:QD7 (ahead t)≤2147483648→((QCS t).1:Int) = ((QD7 (ahead t)*4294967296+QEw (behind t):Nat):Int)∧(!(QCS t).2) = decide (9223372036854775808 < QD7 (ahead t)*4294967296+QEw (behind t)):=fun h=>by
  unfold QCS
  rw [if_pos ⟨ht,h⟩]
  refine ⟨by simp only [QOF],?_⟩
  show (!decide (QD7 (ahead t)*4294967296+QEw (behind t)≤9223372036854775808)) = _
  by_cases hh:QD7 (ahead t)*4294967296+QEw (behind t)≤9223372036854775808
  ·rw [decide_eq_true hh,decide_eq_false (by omega)];rfl
  ·rw [decide_eq_false hh,decide_eq_true (by omega)];rfl
 have hZ2:¬ QD7 (ahead t)≤2147483648→((QCS t).1:Int) = 0∧(!(QCS t).2) = true:=fun h=>by
  unfold QCS
  rw [if_neg (fun hh=>h hh.2)]
  exact ⟨by simp,by simp⟩
 rcases QE7 t with hp | ⟨a,b,rfl,hp⟩
 ·rw [QEu t hp,QDy t hp] at *
  have e0:QEw [] = 0:=by unfold QEw;rfl
  rw [e0,Nat.add_zero] at hZ
  exact QKW t _ (hid rfl) (QBE t) (by omega) (hid h3) _ (hid rfl) (by omega) _ _ (hid hZ) (hid hZ2) W
 ·have hl:=ht
  rw [QC6 a b hp,QCa a b hp] at *
  have hb1:1≤b.length:=by
   unfold QIK QDL at hl
   have hpt:QCs (a ++ 46 :: b) = true:=by unfold QCs;simp
   rw [QC6 a b hp,QCa a b hp,hpt] at hl
   simp only [Bool.and_eq_true,decide_eq_true_eq,Bool.not_true,Bool.false_or] at hl
   exact hl.2.2.1
  exact QKX (a ++ 46 :: b) a b _ a.length (b.length - 1) (hid rfl) (hid (by omega)) (hid fun j c h=>by rw [List.getElem?_append_left (List.getElem?_eq_some_iff.1 h).1];exact h) (hid (by rw [List.getElem?_append_right (Nat.le_refl _)];simp)) (hid fun j c h=>by rw [List.getElem?_append_right (by omega),show a.length+1+j - a.length = j+1 by omega];exact h) (QBE _) (hid (by simp only [List.length_append,List.length_cons];omega)) (by simp only [List.length_append,List.length_cons];omega) (by omega) (by omega) (hid h3) (hid h5) _ (hid rfl) (by omega) _ _ (hid hZ) (hid hZ2) W
end
end Go.Proofs.YtknbghjoncomiaaGreat.Lx
