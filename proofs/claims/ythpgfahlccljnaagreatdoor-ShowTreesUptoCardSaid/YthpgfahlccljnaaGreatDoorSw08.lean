import Derived.Test.YthpgfahlccljnaaGreatDoorSw07
import Derived.RangeFuncBox
import Derived.Outline
import Derived.Lib.Hide
import Derived.Lib.Strings
import Derived.Below
import Derived.Deep.Draws
import Derived.WalkSpells
import Derived.WalkLawsBesides
import Derived.Laws.BitsAllLaws
import Derived.Deep.RegionHeld3
import Derived.Deep.QuietTactic
import Derived.BigQuiet
import Derived.Laws.EntriesVeiled
import Derived.Laws.Rows
import Derived.LaidLaws
import Derived.ChangeArms
import Derived.Lib.LaidTab
import Derived.OwnWalkIn
import Derived.TacticsInMore
import Derived.Maps.AppendAt
set_option maxHeartbeats 16000000
set_option maxRecDepth 100000
open Go.Proofs.Tryz(prog)
namespace Go.Proofs.YthpgfahlccljnaaGreatDoor.Lx
section
def isBlank (c:UInt8):Bool:=c ==32||(c ==9||(c ==10||c ==13))
def isLetter (c:UInt8):Bool:=(decide (97≤c.toNat)&&decide (c.toNat≤122))||((decide (65≤c.toNat)&&decide (c.toNat≤90))||c ==95)
def isName (c:UInt8):Bool:=isLetter c||isDig c
def runTo (p:UInt8→Bool) (l:List UInt8) (a:Nat):Nat:=a+((l.drop a).takeWhile p).length
theorem drop_cons {l:List UInt8} {k:Nat} {c:UInt8} (h:l[k]?=some c):l.drop k=c :: l.drop (k+1):=by
 obtain⟨h1,rfl⟩:=List.getElem?_eq_some_iff.1 h
 exact List.drop_eq_getElem_cons h1
theorem runTo_step {p:UInt8→Bool} {l:List UInt8} {a:Nat} {c:UInt8} (h:l[a]?=some c) (hp:p c=true):runTo p l a=runTo p l (a+1):=by
 unfold runTo
 rw[drop_cons h,List.takeWhile_cons,if_pos hp,List.length_cons]
 omega
theorem runTo_stop {p:UInt8→Bool} {l:List UInt8} {a:Nat} {c:UInt8} (h:l[a]?=some c) (hp:p c=false):runTo p l a=a:=by
 unfold runTo
 rw[drop_cons h,List.takeWhile_cons,if_neg (by rw[hp];simp)]
 rfl
theorem runTo_end {p:UInt8→Bool} {l:List UInt8} {a:Nat} (h:l.length≤a):runTo p l a=a:=by
 unfold runTo
 rw[List.drop_eq_nil_of_le h]
 rfl
theorem runTo_ge (p:UInt8→Bool) (l:List UInt8) (a:Nat):a≤runTo p l a:=by unfold runTo;omega
theorem runTo_le (p:UInt8→Bool) {l:List UInt8} {a:Nat} (h:a≤l.length):runTo p l a≤l.length:=by
 unfold runTo
 have:=(List.takeWhile_prefix p (l:=l.drop a)).length_le
 rw[List.length_drop] at this
 omega
def gapN:Bool→List UInt8→Nat
 | _,[]=>0
 | true,c :: l=>if c=10 then gapN false l+1 else gapN true l+1
 | false,c :: l=>if c=35 then gapN true l+1 else if isBlank c=true then gapN false l+1 else 0
def gapTo (b:Bool) (l:List UInt8) (a:Nat):Nat:=a+gapN b (l.drop a)
theorem gapN_le (b:Bool) (l:List UInt8):gapN b l≤l.length:=by
 induction l generalizing b with
 | nil=>cases b <;> exact qL _
 | cons c l ih =>
  have h1:=ih true
  have h2:=ih false
  cases b <;> simp only[gapN,List.length_cons]
  ·split
   ·omega
   ·split <;> omega
  ·split <;> omega
theorem gapTo_ge (b:Bool) (l:List UInt8) (a:Nat):a≤gapTo b l a:=by unfold gapTo;omega
theorem gapTo_le (b:Bool) {l:List UInt8} {a:Nat} (h:a≤l.length):gapTo b l a≤l.length:=by
 unfold gapTo
 have:=gapN_le b (l.drop a)
 rw[List.length_drop] at this
 omega
theorem gapTo_end (b:Bool) {l:List UInt8} {a:Nat} (h:l.length≤a):gapTo b l a=a:=by
 unfold gapTo
 rw[List.drop_eq_nil_of_le h]
 cases b <;> rfl
theorem gapTo_line {l:List UInt8} {a:Nat} (h:l[a]?=some 10):gapTo true l a=gapTo false l (a+1):=by
 unfold gapTo
 rw[drop_cons h,gapN,if_pos rfl]
 omega
theorem gapTo_comment {l:List UInt8} {a:Nat} {c:UInt8} (h:l[a]?=some c) (hc:c≠10):gapTo true l a=gapTo true l (a+1):=by
 unfold gapTo
 rw[drop_cons h,gapN,if_neg hc]
 omega
theorem gapTo_hash {l:List UInt8} {a:Nat} (h:l[a]?=some 35):gapTo false l a=gapTo true l (a+1):=by
 unfold gapTo
 rw[drop_cons h,gapN,if_pos rfl]
 omega
theorem blank_hash {c:UInt8} (h:isBlank c=true):c≠35:=by rintro rfl;revert h;decide
theorem gapTo_blank {l:List UInt8} {a:Nat} {c:UInt8} (h:l[a]?=some c) (hc:isBlank c=true):gapTo false l a=gapTo false l (a+1):=by
 unfold gapTo
 rw[drop_cons h,gapN,if_neg (blank_hash hc),if_pos hc]
 omega
theorem gapTo_stop {l:List UInt8} {a:Nat} {c:UInt8} (h:l[a]?=some c) (h1:c≠35) (h2:isBlank c=false):gapTo false l a=a:=by
 unfold gapTo
 rw[drop_cons h,gapN,if_neg h1,if_neg (by rw[h2];simp)]
 rfl
def wordsL:List (List UInt8):=[[102,117,110],[110,111,100,101],[104,121,98,114,105,100],[108,101,116],[100,101,114],[105,110,105,116],[114,101,115,101,116],[111,110],[117,112],[109,101,109],[109,111,100,101],[102,114,111,109],[103,111,116,111],[111,117,116],[105,102],[116,104,101,110],[101,108,115,101],[112,114,101],[102,98,121],[116,114,117,101],[102,97,108,115,101],[110,111,116],[97,110,100],[111,114],[105,115],[115,113,114,116],[114,101,116,117,114,110],[115,101,116],[102,105,120],[98,111,111,108]]
def wordL (l:List UInt8):Bool:=wordsL.contains l
def signsL:List (List UInt8):=[[45,62],[60,61],[61,61],[40],[41],[123],[125],[44],[59],[58],[61],[43],[45],[42],[47],[60],[46]]
end
section
set_option maxRecDepth 100000
def step (s:Nat×Nat×Nat) (c:UInt8):Nat×Nat×Nat:=if c=46 then(s.1,s.2.1,s.2.2+1) else if s.2.2=0 then(s.1+1,s.2.1,s.2.2) else(s.1,s.2.1+1,s.2.2)
def st (l:List UInt8):Nat×Nat×Nat:=l.foldl step (0,0,0)
def okay (c:UInt8):Bool:=c ==46||isDig c
theorem st_snoc (l:List UInt8) (c:UInt8):st (l++[c])=step (st l) c:=by unfold st;rw[List.foldl_append];rfl
theorem st_le (l:List UInt8):(st l).1+(st l).2.1+(st l).2.2=l.length:=by
 suffices h:∀(l:List UInt8) (s:Nat×Nat×Nat),(l.foldl step s).1+(l.foldl step s).2.1+(l.foldl step s).2.2=s.1+s.2.1+s.2.2+l.length by
  have:=h l (0,0,0)
  simp only at this
  unfold st
  omega
 intro l
 induction l with
 | nil=>intro s;rfl
 | cons c l ih =>
  intro s
  rw[List.foldl_cons,ih,List.length_cons]
  unfold step
  split
  ·show s.1+s.2.1+(s.2.2+1)+l.length=_;omega
  ·split
   ·show s.1+1+s.2.1+s.2.2+l.length=_;omega
   ·show s.1+(s.2.1+1)+s.2.2+l.length=_;omega
theorem st_plain (l:List UInt8) (h:46 ∉ l) (a b:Nat):l.foldl step (a,b,0)=(a+l.length,b,0):=by
 induction l generalizing a with
 | nil=>rfl
 | cons c l ih =>
  simp only[List.mem_cons,not_or] at h
  rw[List.foldl_cons,show step (a,b,0) c=(a+1,b,0) by unfold step;rw[if_neg (Ne.symm h.1),if_pos rfl],ih h.2,List.length_cons]
  simp only[Prod.mk.injEq,and_true]
  omega
theorem st_behind (l:List UInt8) (a b d:Nat) (hd:1≤d) (h:(l.foldl step (a,b,d)).2.2=d):46 ∉ l∧l.foldl step (a,b,d)=(a,b+l.length,d):=by
 have mono:∀(l:List UInt8) (s:Nat×Nat×Nat),s.2.2≤(l.foldl step s).2.2:=by
  intro l
  induction l with
  | nil=>intro s;exact qL _
  | cons c l ih =>
   intro s
   rw[List.foldl_cons]
   refine Nat.le_trans ?_ (ih _)
   unfold step
   split
   ·exact Nat.le_succ _
   ·split <;> exact qL _
 induction l generalizing b with
 | nil=>exact⟨by simp,rfl⟩
 | cons c l ih =>
  rw[List.foldl_cons] at h ⊢
  by_cases hc:c=46
  ·subst hc
   have h1:=mono l (step (a,b,d) 46)
   have h2:(step (a,b,d) 46).2.2=d+1:=rfl
   omega
  ·have e:step (a,b,d) c=(a,b+1,d):=by unfold step;rw[if_neg hc,if_neg (by show ¬d=0;omega)]
   rw[e] at h ⊢
   obtain⟨h1,h2⟩:=ih (b+1) h
   refine⟨by simp only[List.mem_cons,not_or];exact⟨Ne.symm hc,h1⟩,?_⟩
   rw[h2,List.length_cons]
   simp only[Prod.mk.injEq,true_and,and_true]
   omega
def litR (l:List UInt8):Bool :=
 l.all okay&&(decide (1≤(st l).1)&&(decide ((st l).1≤10)&&(decide ((st l).2.2≤1)&&((!(decide ((st l).2.2=1))||(decide (1≤(st l).2.1)&&decide ((st l).2.1≤40)))&&(decide ((st l).1=1)||!(l.head? ==some 48))))))
theorem okay_dig {l:List UInt8} (h:l.all okay=true) (hp:46 ∉ l):l.all isDig=true:=List.all_eq_true.2 fun x hx=>by
 have h1:=List.all_eq_true.1 h x hx
 unfold okay at h1
 rw[Bool.or_eq_true] at h1
 rcases h1 with h1 | h1
 ·have:x=46:=by simpa using h1
  subst this
  exact absurd hx hp
 ·exact h1
end
section
open Go.RowKit
def litLen:Value→Nat | .int _ n=>n.toNat | _=>0
theorem str_data (l:List UInt8):(str l).data.toList=l:=by unfold str;simp
theorem str_at (l:List UInt8) {j:Nat} {c:UInt8} (h:l[j]?=some c) (hj:j<(str l).size):(str l)[j]'hj=c:=by
 obtain⟨h1,h2⟩:=List.getElem?_eq_some_iff.1 h
 rw[←h2];rfl
theorem str_toList (l:List UInt8):(str l).toList=l:=by rw[Lib.toList_data];rfl
theorem str_slice (l:List UInt8) (i j:Nat):(str l).extract i j=str ((l.take j).drop i):=by
 rw[Lib.extract_eq,str_data]
 unfold str
 rw[List.drop_take]
theorem below_dr {B:Nat} {a w:World} (h:Below B a w) (n:Nat):Below B a (w.drewN n):=⟨h.os,h.tape,h.output,h.size,h.block⟩
end
section
open Go.RowKit
end
section
open Go.RowKit
theorem drop_at {l:List UInt8} {k:Nat} {c:UInt8} (h:l[k]?=some c):l.drop k=c :: l.drop (k+1):=by
 obtain⟨h1,rfl⟩:=List.getElem?_eq_some_iff.1 h
 exact List.drop_eq_getElem_cons h1
end
section
open Go.RowKit
theorem litL_parts {l:List UInt8} (h:litL l=true):1≤(ahead l).length∧(ahead l).length≤10∧(ahead l).all isDig=true∧(behind l).length≤40∧(behind l).all isDig=true:=by
 unfold litL digitsL at h
 simp only[Bool.and_eq_true,decide_eq_true_eq,Bool.or_eq_true,Bool.not_eq_true'] at h
 obtain⟨⟨h1,h2,h3⟩,_,h4⟩:=h
 refine⟨h1,h2,h3,?_⟩
 rcases h4 with h4 | ⟨_,h4,h5⟩
 ·have:behind l=[]:=behind_none l (by unfold pointed at h4;simpa using h4)
  rw[this];simp
 ·exact⟨h4,h5⟩
theorem numL_le (l:List UInt8) (h:l.all isDig=true) (hl:l.length≤10):numL l<10000000000:=by
 have h1:=numL_lt l h
 have h2:10 ^ l.length≤10 ^ 10:=Nat.pow_le_pow_right (by omega) hl
 omega
theorem all_take {l:List UInt8} (h:l.all isDig=true) (k:Nat):(l.take k).all isDig=true:=List.all_eq_true.2 fun y hy=>List.all_eq_true.1 h y (List.mem_of_mem_take hy)
def parseL (l:List UInt8):Nat×Bool:=if(readL l).2=true∧(readL l).1≤9223372036854775807 then((readL l).1,true) else(0,false)
end
section
def nameN (l:List UInt8):Nat:=(l.takeWhile isName).length
def digN (l:List UInt8):Nat:=(l.takeWhile isDig).length
def numN (l:List UInt8):Nat:=if(l.drop (digN l)).head?=some 46∧0<digN (l.drop (digN l+1)) then digN l+1+digN (l.drop (digN l+1)) else digN l
def signOf (l:List UInt8):Option (List UInt8):=signsL.find? (·.isPrefixOf l)
def oneL (l:List UInt8):Option (Nat×Nat×Int) :=
 match l with
 | []=>none
 | c :: _ =>
  if isLetter c=true then(if nameN l≤16 then some (if wordL (l.take (nameN l))=true then 3 else 1,nameN l,0) else none)
  else if isDig c=true then(if(parseL (l.take (numN l))).2=true then some (2,numN l,((parseL (l.take (numN l))).1:Int)) else none)
  else(signOf l).map fun s=>(4,s.length,0)
structure Tok where
 kind:Nat
 text:List UInt8
 v:Int
 at_:Nat
def tokOf (o:Option (Nat×Nat×Int)) (l:List UInt8) (a:Nat):Tok:=match o with
 | none=>⟨0,[],0,a⟩
 | some (k,n,v)=>⟨k,l.take n,v,a⟩
def tokAt (l:List UInt8) (a:Nat):Tok:=tokOf (oneL (l.drop a)) (l.drop a) a
theorem runTo_name (l:List UInt8) (a:Nat):runTo isName l a=a+nameN (l.drop a):=rfl
theorem runTo_dig (l:List UInt8) (a:Nat):runTo isDig l a=a+digN (l.drop a):=rfl
theorem nameN_le (l:List UInt8):nameN l≤l.length:=(List.takeWhile_prefix _).length_le
theorem digN_le (l:List UInt8):digN l≤l.length:=(List.takeWhile_prefix _).length_le
theorem numN_le (l:List UInt8):numN l≤l.length:=by
 unfold numN
 split
 ·rename_i h
  have:=digN_le (l.drop (digN l+1))
  rw[List.length_drop] at this
  have h2:=h.2
  omega
 ·exact digN_le l
theorem letter_name {c:UInt8} (h:isLetter c=true):isName c=true:=by unfold isName;rw[h];rfl
theorem nameN_pos {c:UInt8} {l:List UInt8} (h:isLetter c=true):0<nameN (c :: l):=by
 unfold nameN
 rw[List.takeWhile_cons,if_pos (letter_name h),List.length_cons]
 omega
theorem digN_pos {c:UInt8} {l:List UInt8} (h:isDig c=true):0<digN (c :: l):=by
 unfold digN
 rw[List.takeWhile_cons,if_pos h,List.length_cons]
 omega
theorem numN_pos {c:UInt8} {l:List UInt8} (h:isDig c=true):0<numN (c :: l):=by
 have:=digN_pos (l:=l) h
 unfold numN
 split <;> omega
theorem signOf_mem {l s:List UInt8} (h:signOf l=some s):s ∈ signsL∧s.isPrefixOf l=true:=by
 unfold signOf at h
 exact⟨List.mem_of_find?_eq_some h,by simpa using List.find?_some h⟩
theorem signs_len {s:List UInt8} (h:s ∈ signsL):1≤s.length∧s.length≤2:=by
 have:∀s ∈ signsL,1≤s.length∧s.length≤2:=by decide
 exact this s h
theorem oneL_some {l:List UInt8} {k n:Nat} {v:Int} (h:oneL l=some (k,n,v)):1≤k∧k≤4∧1≤n∧n≤l.length:=by
 cases l with
 | nil=>cases h
 | cons c l =>
  unfold oneL at h
  simp only at h
  split at h
  ·rename_i hc
   split at h
   ·simp only[Option.some.injEq,Prod.mk.injEq] at h
    obtain⟨rfl,rfl,rfl⟩:=h
    have h1:=nameN_pos (l:=l) hc
    have h2:=nameN_le (c :: l)
    split <;> exact⟨by omega,by omega,h1,h2⟩
   ·cases h
  ·split at h
   ·rename_i hd
    split at h
    ·simp only[Option.some.injEq,Prod.mk.injEq] at h
     obtain⟨rfl,rfl,rfl⟩:=h
     exact⟨by omega,by omega,numN_pos hd,numN_le _⟩
    ·cases h
   ·cases hs:signOf (c :: l) with
    | none=>rw[hs] at h;cases h
    | some s =>
     rw[hs] at h
     simp only[Option.map_some,Option.some.injEq,Prod.mk.injEq] at h
     obtain⟨rfl,rfl,rfl⟩:=h
     obtain⟨h1,h2⟩:=signOf_mem hs
     have h3:=signs_len h1
     exact⟨by omega,by omega,h3.1,(List.isPrefixOf_iff_prefix.1 h2).length_le⟩
theorem tokAt_kind (l:List UInt8) (a:Nat):(tokAt l a).kind=0↔oneL (l.drop a)=none:=by
 unfold tokAt
 cases h:oneL (l.drop a) with
 | none=>simp[tokOf]
 | some x =>
  obtain⟨k,n,v⟩:=x
  have:=oneL_some h
  simp only[tokOf,reduceCtorEq,iff_false]
  omega
inductive Toks (l:List UInt8):Nat→List Tok→Option Nat→Prop
 | fin {a:Nat} (h:l.length≤a):Toks l a [] none
 | bad {a:Nat} (h:a<l.length) (h1:oneL (l.drop a)=none):Toks l a [] (some a)
 | tok {a:Nat} {ts:List Tok} {r:Option Nat} (h:a<l.length) (h1:oneL (l.drop a)≠none) (h2:Toks l (gapTo false l (a+(tokAt l a).text.length)) ts r):Toks l a (tokAt l a :: ts) r
theorem tokAt_len {l:List UInt8} {a:Nat} (h:oneL (l.drop a)≠none):1≤(tokAt l a).text.length∧a+(tokAt l a).text.length≤l.length:=by
 unfold tokAt
 cases h1:oneL (l.drop a) with
 | none=>exact absurd h1 h
 | some x =>
  obtain⟨k,n,v⟩:=x
  have h2:=oneL_some h1
  simp only[tokOf,List.length_take]
  rw[List.length_drop] at *
  omega
def lexT (l:List UInt8) (ts:List Tok) (r:Option Nat):Prop:=Toks l (gapTo false l 0) ts r
theorem toks_count {l:List UInt8} {a:Nat} {ts:List Tok} {r:Option Nat} (h:Toks l a ts r):ts.length+a≤max a l.length:=by
 induction h with
 | fin h=>simp;omega
 | bad h=>simp;omega
 | @tok a ts r h h1 h2 ih =>
  have h3:=gapTo_ge false l (a+(tokAt l a).text.length)
  have h4:=tokAt_len h1
  have h5:=gapTo_le false (l:=l) (a:=a+(tokAt l a).text.length) h4.2
  simp only[List.length_cons]
  omega
end
section
open Go.RowKit
theorem isBehind {l:List UInt8} {a n:Nat} (hn:l.length=n) (h:a<n):∃c,l[a]?=some c:=⟨l[a]'(by omega),List.getElem?_eq_getElem _⟩
end
section
open Go.RowKit
theorem slice_str (l:List UInt8) (a b:Nat):(str l).extract a b=str ((l.drop a).take (b-a)):=by
 rw[str_slice]
 congr 1
 rw[List.take_drop]
 by_cases h:a≤b
 ·rw[show a+(b-a)=b by omega]
 ·rw[List.drop_eq_nil_of_le (by rw[List.length_take];omega),List.drop_eq_nil_of_le (by rw[List.length_take];omega)]
def RoomAt (w:World) (g:Nat):Prop :=
 w.cell? ⟨g,0,none⟩=some (.int .i64 0)∧w.cell? ⟨g,1,none⟩=some (.string ⟨#[]⟩)∧w.cell? ⟨g,2,none⟩=some (.int .i64 0)∧w.cell? ⟨g,3,none⟩=some (.int .i64 0) ∧
 w.frozen? ⟨g,0,none⟩=false∧w.frozen? ⟨g,1,none⟩=false∧w.frozen? ⟨g,2,none⟩=false∧w.frozen? ⟨g,3,none⟩=false
theorem RoomAt.below {w w':World} {g B:Nat} (h:RoomAt w g) (hb:Below B w w') (hg:g<B):RoomAt w' g :=
 ⟨(hb.cell (p:=⟨g,0,none⟩) hg).trans h.1,(hb.cell (p:=⟨g,1,none⟩) hg).trans h.2.1,(hb.cell (p:=⟨g,2,none⟩) hg).trans h.2.2.1,(hb.cell (p:=⟨g,3,none⟩) hg).trans h.2.2.2.1,
  (hb.frozen (p:=⟨g,0,none⟩) hg).trans h.2.2.2.2.1,(hb.frozen (p:=⟨g,1,none⟩) hg).trans h.2.2.2.2.2.1,(hb.frozen (p:=⟨g,2,none⟩) hg).trans h.2.2.2.2.2.2.1,(hb.frozen (p:=⟨g,3,none⟩) hg).trans h.2.2.2.2.2.2.2⟩
theorem roomAt_new (w:World) (T:TypeId):RoomAt (w.alloc (.cells #[.int .i64 0,.string ⟨#[]⟩,.int .i64 0,.int .i64 0] T)) w.heap.size :=
 ⟨by rw[World.cell?_alloc_new];rfl,by rw[World.cell?_alloc_new];rfl,by rw[World.cell?_alloc_new];rfl,by rw[World.cell?_alloc_new];rfl,
  World.frozen?_alloc_new _ _ _ _,World.frozen?_alloc_new _ _ _ _,World.frozen?_alloc_new _ _ _ _,World.frozen?_alloc_new _ _ _ _⟩
theorem below_four {B g:Nat} {w w1:World} (h:Below B w w1) (hg:B≤g) (x0 x1 x2 x3:Value):Below B w ((((w1.setCell ⟨g,0,none⟩ x0).setCell ⟨g,1,none⟩ x1).setCell ⟨g,2,none⟩ x2).setCell ⟨g,3,none⟩ x3) :=
 (((h.setCell (p:=⟨g,0,none⟩) hg _).setCell (p:=⟨g,1,none⟩) hg _).setCell (p:=⟨g,2,none⟩) hg _).setCell (p:=⟨g,3,none⟩) hg _
theorem tokAt_name {l:List UInt8} {a:Nat} {c:UInt8} (hc:l[a]?=some c) (h:isLetter c=true) :
  tokAt l a=if nameN (l.drop a)≤16 then⟨if wordL ((l.drop a).take (nameN (l.drop a)))=true then 3 else 1,(l.drop a).take (nameN (l.drop a)),0,a⟩ else⟨0,[],0,a⟩:=by
 unfold tokAt oneL
 rw[drop_cons hc]
 simp only[h,if_true]
 split <;> rfl
end
section
open Go.RowKit
def numTo (l:List UInt8) (a:Nat):Nat:=a+numN (l.drop a)
theorem head_drop (l:List UInt8) (k:Nat):(l.drop k).head?=l[k]?:=by rw[List.head?_drop]
theorem numTo_end {l:List UInt8} {a:Nat} (h:l[runTo isDig l a]?≠some 46):numTo l a=runTo isDig l a:=by
 unfold numTo numN
 rw[List.drop_drop,←runTo_dig,head_drop,if_neg (fun hh=>h hh.1)]
 exact(runTo_dig l a).symm
theorem numTo_dot {l:List UInt8} {a:Nat} (h:l[runTo isDig l a]?=some 46):numTo l a=if runTo isDig l a+1<runTo isDig l (runTo isDig l a+1) then runTo isDig l (runTo isDig l a+1) else runTo isDig l a:=by
 have e:a+(digN (l.drop a)+1)=runTo isDig l a+1:=by rw[runTo_dig];omega
 unfold numTo numN
 rw[List.drop_drop,List.drop_drop,←runTo_dig,head_drop,h,e]
 rw[runTo_dig l (runTo isDig l a+1)]
 generalize digN (l.drop (runTo isDig l a+1))=q
 rw[runTo_dig]
 generalize digN (l.drop a)=p
 by_cases hq:0<q
 ·rw[if_pos ⟨rfl,hq⟩,if_pos (by omega)];omega
 ·rw[if_neg (fun hh=>hq hh.2),if_neg (by omega)]
end
section
open Go.RowKit
theorem byte_int (c:UInt8) (k:Nat) (hk:k<256):(c ==UInt8.ofNat k)=decide ((c.toNat:Int)=(k:Int)):=by
 rw[Bool.eq_iff_iff]
 simp only[beq_iff_eq,decide_eq_true_eq]
 constructor
 ·rintro rfl;rw[UInt8.toNat_ofNat_of_lt' hk]
 ·intro h;exact UInt8.toNat_inj.1 (by rw[UInt8.toNat_ofNat_of_lt' hk];omega)
end
section
open Go.RowKit
def signCells:Array Value:=(signsL.map fun s=>Value.string (str s)).toArray
theorem no_prefix {d:List UInt8} {L:List (List UInt8)} (hno:L.all (fun s=>!s.isPrefixOf d)=true):L.find? (fun s=>s.isPrefixOf d)=none:=List.find?_eq_none.2 fun x hx=>by
 have h:(!x.isPrefixOf d)=true:=List.all_eq_true.1 hno x hx
 intro h2
 have h2':x.isPrefixOf d=true:=h2
 rw[h2'] at h
 exact absurd h (by decide)
theorem sign_hit {d s:List UInt8} {j:Nat} (hs:signsL[j]?=some s) (hno:(signsL.take j).all (fun s=>!s.isPrefixOf d)=true) (hp:s.isPrefixOf d=true):signOf d=some s:=by
 have e:signsL=signsL.take j++s :: signsL.drop (j+1):=by
  obtain⟨hj,rfl⟩:=List.getElem?_eq_some_iff.1 hs
  rw[←List.drop_eq_getElem_cons hj,List.take_append_drop]
 have h:signOf d=(signsL.take j++s :: signsL.drop (j+1)).find? (fun s=>s.isPrefixOf d):=by unfold signOf;exact congrArg (fun L:List (List UInt8)=>List.find? (fun s:List UInt8=>List.isPrefixOf s d) L) e
 rw[h,List.find?_append,no_prefix hno,Option.none_or]
 exact List.find?_cons_of_pos hp
theorem sign_none {d:List UInt8} (hno:signsL.all (fun s=>!s.isPrefixOf d)=true):signOf d=none:=no_prefix hno
theorem all_take_next {α:Type} (f:α→Bool) {l:List α} {j:Nat} {x:α} (h:l[j]?=some x) (ha:(l.take j).all f=true) (hx:f x=true):(l.take (j+1)).all f=true:=by
 obtain⟨h1,rfl⟩:=List.getElem?_eq_some_iff.1 h
 rw[List.take_succ_eq_append_getElem h1,List.all_append,ha]
 simp[hx]
theorem prefix_take {d s:List UInt8} (h:s.isPrefixOf d=true):d.take s.length=s:=(List.prefix_iff_eq_take.1 (List.isPrefixOf_iff_prefix.1 h)).symm
theorem tokAt_num {l:List UInt8} {a:Nat} {c:UInt8} (hc:l[a]?=some c) (h1:isLetter c=false) (h2:isDig c=true) :
  tokAt l a=if(parseL ((l.drop a).take (numN (l.drop a)))).2=true then⟨2,(l.drop a).take (numN (l.drop a)),((parseL ((l.drop a).take (numN (l.drop a)))).1:Int),a⟩ else⟨0,[],0,a⟩:=by
 unfold tokAt oneL
 rw[drop_cons hc]
 simp only[h1,h2,if_true,Bool.false_eq_true,if_false]
 split <;> rfl
theorem tokAt_sign {l:List UInt8} {a:Nat} {c:UInt8} (hc:l[a]?=some c) (h1:isLetter c=false) (h2:isDig c=false) :
  tokAt l a=tokOf ((signOf (l.drop a)).map fun s=>(4,s.length,0)) (l.drop a) a:=by
 unfold tokAt oneL
 rw[drop_cons hc]
 simp only[h1,h2,Bool.false_eq_true,if_false]
end
section
open Go.RowKit
def endT (n:Nat):Tok:=⟨5,[],0,n⟩
end
section
open Go.RowKit
def tokCells (ts:List Tok):List Value:=ts.flatMap fun t=>[.int .i64 (t.kind:Int),.string (str t.text),.int .i64 t.v,.int .i64 (t.at_:Int)]
theorem tokCells_snoc (ts:List Tok) (t:Tok):tokCells (ts++[t])=tokCells ts++[.int .i64 (t.kind:Int),.string (str t.text),.int .i64 t.v,.int .i64 (t.at_:Int)]:=by unfold tokCells;rw[List.flatMap_append];simp
theorem tok_info:(prog.info? 76).map (fun i=>(i.zero,i.size,i.bytes))=some (some (.agg #[.int .i64 0,.string ⟨#[]⟩,.int .i64 0,.int .i64 0]),4,40):=by kernel_rfl
theorem cell_four_new (W:World) (a b c d:Value) (T:TypeId) (j:Nat) (u:Value) (h:[a,b,c,d][j]?=some u):(W.alloc (.cells #[a,b,c,d] T)).cell? ((⟨W.heap.size,0,none⟩:Addr).add j)=some u:=by
 have e:(⟨W.heap.size,0,none⟩:Addr).add j=⟨W.heap.size,j,none⟩:=by unfold Addr.add;split <;> simp_all
 rw[e,World.cell?_alloc_new,←h,←Array.getElem?_toList]
theorem set_heap {W:World} {g:Nat} {cs:Array Value} {T:TypeId} {fr:Nat×Nat} (h:W.heap[g]?=some (.cells cs T fr)) (i:Nat) (v:Value):(W.setCell ⟨g,i,none⟩ v).heap[g]?=some (.cells (cs.setIfInBounds i v) T fr):=by
 obtain⟨hlt,hk⟩:=Array.getElem?_eq_some_iff.1 h
 show(W.heap.modify g _)[g]?=_
 rw[Array.getElem?_eq_getElem (by rw[Array.size_modify];exact hlt),Array.getElem_modify_self,hk]
 rfl
end
section
open Go.RowKit
theorem row_cells {w:World} {base g n cap:Nat} {xs:List Value} (h:w.ownsRow base 76 4 (.slice (some ⟨g,0,none⟩) n cap) n xs) (j:Nat) (u:Value) (hu:xs[j]?=some u):w.cell? ⟨g,j,none⟩=some u:=by
 have:=h.cells (g:=g) rfl j u hu
 have e:(⟨g,0,none⟩:Addr).add j=⟨g,j,none⟩:=by unfold Addr.add;split <;> simp_all
 rwa [e] at this
end
section
open Go.RowKit
def CellsAt (w:World) (g i:Nat) (t:Tok):Prop:=w.cell? ⟨g,i*4,none⟩=some (.int .i64 (t.kind:Int))∧w.cell? ⟨g,i*4+1,none⟩=some (.string (str t.text))∧w.cell? ⟨g,i*4+2,none⟩=some (.int .i64 t.v)∧w.cell? ⟨g,i*4+3,none⟩=some (.int .i64 (t.at_:Int))
theorem tokCells_cons (t:Tok) (ts:List Tok):tokCells (t :: ts)=[.int .i64 (t.kind:Int),.string (str t.text),.int .i64 t.v,.int .i64 (t.at_:Int)]++tokCells ts:=rfl
theorem tokCells_at {ts:List Tok} {i:Nat} {t:Tok} (h:ts[i]?=some t):(tokCells ts)[i*4]?=some (.int .i64 (t.kind:Int))∧(tokCells ts)[i*4+1]?=some (.string (str t.text))∧(tokCells ts)[i*4+2]?=some (.int .i64 t.v)∧(tokCells ts)[i*4+3]?=some (.int .i64 (t.at_:Int)):=by
 induction ts generalizing i with
 | nil=>simp at h
 | cons u ts ih =>
  rw[tokCells_cons]
  cases i with
  | zero=>simp at h;subst h;exact⟨rfl,rfl,rfl,rfl⟩
  | succ i =>
   have h2:=ih (i:=i) (by simpa using h)
   have e:∀k,([Value.int .i64 (u.kind:Int),.string (str u.text),.int .i64 u.v,.int .i64 (u.at_:Int)]++tokCells ts)[(i+1)*4+k]?=(tokCells ts)[i*4+k]?:=fun k=>by
    rw[List.getElem?_append_right (by simp;omega)]
    congr 1
    simp
    omega
   exact⟨(e 0).trans h2.1,(e 1).trans h2.2.1,(e 2).trans h2.2.2.1,(e 3).trans h2.2.2.2⟩
def RowAt (w:World) (g:Nat) (ts:List Tok):Prop:=g<w.heap.size∧∀i t,ts[i]?=some t→CellsAt w g i t
theorem RowAt.below {w w':World} {g:Nat} {ts:List Tok} (h:RowAt w g ts) (hb:Below w.heap.size w w'):RowAt w' g ts :=
 ⟨Nat.lt_of_lt_of_le h.1 hb.size,fun i t ht=>by
  obtain⟨h1,h2,h3,h4⟩:=h.2 i t ht
  exact⟨(hb.cell (p:=⟨g,i*4,none⟩) h.1).trans h1,(hb.cell (p:=⟨g,i*4+1,none⟩) h.1).trans h2,(hb.cell (p:=⟨g,i*4+2,none⟩) h.1).trans h3,(hb.cell (p:=⟨g,i*4+3,none⟩) h.1).trans h4⟩⟩
end
section
open Go.RowKit
def NoRow (c f:Int) (w:World) (e:Ending) (w':World):Prop:=e=.returned (.tuple #[.slice none 0 0,.agg #[.int .i64 c,.int .i64 f]])∧Below w.heap.size w w'
def SomeRow (us:List Tok) (p:Nat) (w:World) (e:Ending) (w':World):Prop:=∃g cap,e=.returned (.tuple #[.slice (some ⟨g,0,none⟩) p cap,.agg #[.int .i64 0,.int .i64 0]])∧Below w.heap.size w w'∧RowAt w' g us
def RefLex:Prop:=∀(l:List UInt8) (ts:List Tok) (r:Option Nat),lexT l ts r→∀W,Calls prog 25 #[.string (str l)] W fun e w' =>
 (20000<l.length→NoRow 10 0 W e w')∧(l.length≤20000→match r with | some f=>NoRow 1 (f:Int) W e w' | none=>SomeRow (ts++[endT l.length]) (ts.length+1) W e w')
end
section
open Go.RowKit
theorem letter_core (x:Nat) (hx:(x:Int)≤255) (R:Bool) (hR:Hid (R=((decide (97≤x)&&decide (x≤122))||((decide (65≤x)&&decide (x≤90))||decide (x=95))))) (w:World) :
  Calls prog 68 #[.int .u8 (x:Int)] w fun e w'=>e=.returned (.bool R)∧w'=w:=by
 by_cases h65:65≤x
 ·have q65:decide ((65:Int)≤(x:Int))=true:=qT (by omega)
  by_cases h90:x≤90
  ·have q90:decide ((x:Int)≤90)=true:=qT (by omega)
   obtain rfl:R=true:=by rw[hR.out,qT h65,qT h90];simp
   clear hR
   go_enter Tryz.func68,Tryz.ntmps68
   go_wp2_with fail
   go_ret
   exact⟨rfl,rfl⟩
  ·have q90:decide ((x:Int)≤90)=false:=qF (by omega)
   by_cases h97:97≤x
   ·have q97:decide ((97:Int)≤(x:Int))=true:=qT (by omega)
    by_cases h122:x≤122
    ·have q122:decide ((x:Int)≤122)=true:=qT (by omega)
     obtain rfl:R=true:=by rw[hR.out,qT h97,qT h122];simp
     clear hR
     go_enter Tryz.func68,Tryz.ntmps68
     go_wp2_with fail
     go_ret
     exact⟨rfl,rfl⟩
    ·have q122:decide ((x:Int)≤122)=false:=qF (by omega)
     have n95:¬(x:Int)=95:=by omega
     have m95:((x:Int) ==95)=false:=beq_false_of_ne n95
     obtain rfl:R=false:=by rw[hR.out,qF h122,qF h90,qF (show ¬x=95 by omega)];simp
     clear hR
     go_enter Tryz.func68,Tryz.ntmps68
     go_wp2_with fail
     go_ret
     exact⟨rfl,rfl⟩
   ·have q97:decide ((97:Int)≤(x:Int))=false:=qF (by omega)
    by_cases h95:x=95
    ·subst h95
     obtain rfl:R=true:=by rw[hR.out];rfl
     clear hR
     go_enter Tryz.func68,Tryz.ntmps68
     go_wp2_with fail
     go_ret
     exact⟨rfl,rfl⟩
    ·have n95:¬(x:Int)=95:=by omega
     have m95:((x:Int) ==95)=false:=beq_false_of_ne n95
     obtain rfl:R=false:=by rw[hR.out,qF h97,qF h90,qF h95];simp
     clear hR
     go_enter Tryz.func68,Tryz.ntmps68
     go_wp2_with fail
     go_ret
     exact⟨rfl,rfl⟩
 ·have q65:decide ((65:Int)≤(x:Int))=false:=qF (by omega)
  have q97:decide ((97:Int)≤(x:Int))=false:=qF (by omega)
  have n95:¬(x:Int)=95:=by omega
  have m95:((x:Int) ==95)=false:=beq_false_of_ne n95
  obtain rfl:R=false:=by rw[hR.out,qF h65,qF (show ¬97≤x by omega),qF (show ¬x=95 by omega)];simp
  clear hR
  go_enter Tryz.func68,Tryz.ntmps68
  go_wp2_with fail
  go_ret
  exact⟨rfl,rfl⟩
theorem u8_95 (c:UInt8):(c ==95)=decide (c.toNat=95):=by
 rw[Bool.eq_iff_iff]
 simp only[beq_iff_eq,decide_eq_true_eq]
 exact⟨fun h=>by rw[h];rfl,fun h=>UInt8.toNat_inj.1 (by rw[h];rfl)⟩
theorem letter_ref (c:UInt8) (w:World):Calls prog 68 #[.int .u8 (c.toNat:Int)] w fun e w'=>e=.returned (.bool (isLetter c))∧w'=w :=
 letter_core c.toNat (by have:=c.toNat_lt;omega) _ (Hd (by unfold isLetter;rw[u8_95])) w
theorem digit_core (x:Nat) (R:Bool) (hR:Hid (R=(decide (48≤x)&&decide (x≤57)))) (w:World) :
  Calls prog 69 #[.int .u8 (x:Int)] w fun e w'=>e=.returned (.bool R)∧w'=w:=by
 by_cases h48:48≤x
 ·have q48:decide ((48:Int)≤(x:Int))=true:=qT (by omega)
  by_cases h57:x≤57
  ·have q57:decide ((x:Int)≤57)=true:=qT (by omega)
   obtain rfl:R=true:=by rw[hR.out,qT h48,qT h57];rfl
   clear hR
   go_enter Tryz.func69,Tryz.ntmps69
   go_wp2_with fail
   go_ret
   exact⟨rfl,rfl⟩
  ·have q57:decide ((x:Int)≤57)=false:=qF (by omega)
   obtain rfl:R=false:=by rw[hR.out,qF h57];simp
   clear hR
   go_enter Tryz.func69,Tryz.ntmps69
   go_wp2_with fail
   go_ret
   exact⟨rfl,rfl⟩
 ·have q48:decide ((48:Int)≤(x:Int))=false:=qF (by omega)
  obtain rfl:R=false:=by rw[hR.out,qF h48];rfl
  clear hR
  go_enter Tryz.func69,Tryz.ntmps69
  go_wp2_with fail
  go_ret
  exact⟨rfl,rfl⟩
theorem digit_ref (c:UInt8) (w:World):Calls prog 69 #[.int .u8 (c.toNat:Int)] w fun e w'=>e=.returned (.bool (isDig c))∧w'=w :=
 digit_core c.toNat _ (Hd rfl) w
theorem byte_ne {c k:UInt8} (h:c≠k) (K:Int) (hK:(k.toNat:Int)=K):(c ==k)=false∧(c !=k)=true∧¬(c.toNat:Int)=K∧((c.toNat:Int) ==K)=false∧((c.toNat:Int) !=K)=true:=by
 have h2:¬(c.toNat:Int)=K:=fun e=>h (UInt8.toNat_inj.1 (by omega))
 exact⟨beq_false_of_ne h,bne_iff_ne.2 h,h2,beq_false_of_ne h2,bne_iff_ne.2 h2⟩
theorem skip_core (l:List UInt8) (n:Nat) (hn:Hid (l.length=n)) (nl:(n:Int)≤30000) (hs:(str l).size=n) (a:Nat) (ha:a≤n) (R:Nat) (hR:Hid (gapTo false l a=R)) (w:World) :
  Calls prog 45 #[.string (str l),.int .i64 (a:Int)] w fun e w'=>e=.returned (.int .i64 (R:Int))∧w'=w:=by
 go_enter Tryz.func45,Tryz.ntmps45
 go_wp2_with fail
 go_loop [1,5] (fun i b=>∃(j:Nat) (cm:Bool),j≤n∧Hid (gapTo cm l j=R)∧i=.int .i64 j∧b=.bool cm) (fun i _=>n-litLen i)
 case atStart=>exact⟨a,false,ha,hR,rfl,rfl⟩
 case round =>
  obtain⟨j,cm,hj,hr,rfl,rfl⟩:=hrel
  rcases Nat.lt_or_ge j n with hlt | hge
  ·have q3:decide ((j:Int)<(n:Int))=true:=qT (by omega)
   obtain⟨c,hcj⟩:=isBehind hn.out hlt
   have hix:∀h,(str l)[j]'h=c:=fun h=>str_at l hcj h
   have HC:=Hd hcj
   clear hcj
   cases cm with
   | true =>
    by_cases h10:c=10
    ·subst h10
     go_wp2_with fail
     exact⟨⟨j+1,false,by omega,Hd (by rw[←gapTo_line HC.out];exact hr.out),rfl,rfl⟩,by simp[litLen];omega⟩
    ·obtain⟨b1,b2,b3,b4,b5⟩:=byte_ne h10 10 rfl
     have HT:=Hd h10
     clear h10
     go_wp2_with fail
     exact⟨⟨j+1,true,by omega,Hd (by rw[←gapTo_comment HC.out HT.out];exact hr.out),rfl,rfl⟩,by simp[litLen];omega⟩
   | false =>
    by_cases h35:c=35
    ·subst h35
     go_wp2_with fail
     exact⟨⟨j+1,true,by omega,Hd (by rw[←gapTo_hash HC.out];exact hr.out),rfl,rfl⟩,by simp[litLen];omega⟩
    ·obtain⟨b1,b2,b3,b4,b5⟩:=byte_ne h35 35 rfl
     have H35:=Hd h35
     clear h35
     by_cases h32:c=32
     ·subst h32
      go_wp2_with fail
      exact⟨⟨j+1,false,by omega,Hd (by rw[←gapTo_blank HC.out (by decide)];exact hr.out),rfl,rfl⟩,by simp[litLen];omega⟩
     ·obtain⟨c1,c2,c3,c4,c5⟩:=byte_ne h32 32 rfl
      have H32:=Hd h32
      clear h32
      by_cases h9:c=9
      ·subst h9
       go_wp2_with fail
       exact⟨⟨j+1,false,by omega,Hd (by rw[←gapTo_blank HC.out (by decide)];exact hr.out),rfl,rfl⟩,by simp[litLen];omega⟩
      ·obtain⟨d1,d2,d3,d4,d5⟩:=byte_ne h9 9 rfl
       have H9:=Hd h9
       clear h9
       by_cases h10:c=10
       ·subst h10
        go_wp2_with fail
        exact⟨⟨j+1,false,by omega,Hd (by rw[←gapTo_blank HC.out (by decide)];exact hr.out),rfl,rfl⟩,by simp[litLen];omega⟩
       ·obtain⟨e1,e2,e3,e4,e5⟩:=byte_ne h10 10 rfl
        have H10:=Hd h10
        clear h10
        by_cases h13:c=13
        ·subst h13
         go_wp2_with fail
         exact⟨⟨j+1,false,by omega,Hd (by rw[←gapTo_blank HC.out (by decide)];exact hr.out),rfl,rfl⟩,by simp[litLen];omega⟩
        ·obtain⟨f1,f2,f3,f4,f5⟩:=byte_ne h13 13 rfl
         have hst:=Hd (gapTo_stop HC.out H35.out (by unfold isBlank;rw[c1,d1,e1,f1];rfl))
         clear h13
         go_wp2_with fail
         go_ret
         exact⟨by rw[←hr.out,hst.out];rfl,rfl⟩
  ·have q3:decide ((j:Int)<(n:Int))=false:=qF (by omega)
   have hst:=Hd (gapTo_end cm (l:=l) (a:=j) (by rw[hn.out];exact hge))
   go_wp2_with fail
   go_ret
   exact⟨by rw[←hr.out,hst.out];rfl,rfl⟩
theorem skip_ref (l:List UInt8) (nl:l.length≤30000) (a:Nat) (ha:a≤l.length) (w:World) :
  Calls prog 45 #[.string (str l),.int .i64 (a:Int)] w fun e w'=>e=.returned (.int .i64 ((gapTo false l a:Nat):Int))∧w'=w :=
 skip_core l _ (Hd rfl) (by omega) (str_size l) a ha _ (Hd rfl) w
end
section
open Go.RowKit
def wordCells:Array Value:=(wordsL.map fun s=>Value.string (str s)).toArray
theorem bytes_eq (a b:List UInt8):((str a).toList ==(str b).toList)=(a ==b):=by rw[str_toList,str_toList]
theorem word_ref (l:List UInt8) (R:Bool) (hR:Hid (R=wordL l)) (w:World):Calls prog 70 #[.string (str l)] w fun e w'=>e=.returned (.bool R)∧Below w.heap.size w w':=by
 have hcell:Hid (∀(j:Nat) s,wordsL[j]?=some s→(w.alloc (.cells wordCells 9)).cell? ⟨w.heap.size,j,none⟩=some (.string (str s))):=Hd fun j s hs=>by
  rw[World.cell?_alloc_new]
  unfold wordCells
  rw[List.getElem?_toArray,List.getElem?_map,hs]
  rfl
 have hb:=Hd ((qB w.heap.size w).alloc (qL _) (.cells wordCells 9))
 go_enter Tryz.func70,Tryz.ntmps70
 go_wp2_with fail
 obtain⟨W1,hW1⟩:∃W1,W1=w.alloc (.cells wordCells 9):=⟨_,rfl⟩
 rw[←hW1] at hcell hb
 change Code.wp _ _ _ _ (w.alloc (.cells wordCells 9))
 rw[←hW1]
 have HW:=Hd hW1
 clear hW1
 go_loop [4] (fun i=>∃j:Nat,j≤30∧Hid ((wordsL.take j).contains l=false)∧i=.int .i64 j) (fun i=>30-litLen i)
 case atStart=>exact⟨0,by omega,Hd rfl,rfl⟩
 case round =>
  obtain⟨j,hj,hno,rfl⟩:=hrel
  rcases Nat.lt_or_ge j 30 with hlt | hge
  ·have q3:decide ((j:Int)<30)=true:=qT (by omega)
   obtain⟨s,hsj⟩:∃s,wordsL[j]?=some s:=⟨wordsL[j]'(by show j<30;exact hlt),List.getElem?_eq_getElem _⟩
   have hc:=hcell.out j s hsj
   have HJ:=Hd hsj
   have HM:=Hd (List.mem_of_getElem? hsj)
   have HT:=Hd (show wordsL.take (j+1)=wordsL.take j++[s] by
    obtain⟨h1,rfl⟩:=List.getElem?_eq_some_iff.1 hsj
    exact List.take_succ_eq_append_getElem h1)
   clear hsj
   by_cases he:s=l
   ·have hq:((str s).toList ==(str l).toList)=true:=by rw[bytes_eq];simpa using he
    obtain rfl:R=true:=by rw[hR.out];unfold wordL;rw[List.contains_iff_mem,←he];exact HM.out
    clear hR he
    go_wp2_with fail
    go_ret
    exact⟨rfl,hb.out⟩
   ·have hq:((str s).toList ==(str l).toList)=false:=by rw[bytes_eq];exact beq_false_of_ne he
    have HE:=Hd he
    clear he
    go_wp2_with fail
    exact⟨⟨j+1,by omega,Hd (by
     have h1:=hno.out
     rw[HT.out]
     rw[Bool.eq_false_iff] at h1 ⊢
     intro h2
     rw[List.contains_iff_mem,List.mem_append] at h2
     rcases h2 with h2 | h2
     ·exact h1 (by rw[List.contains_iff_mem];exact h2)
     ·rw[List.mem_singleton] at h2;exact HE.out h2.symm),rfl⟩,by simp[litLen];omega⟩
  ·have q3:decide ((j:Int)<30)=false:=qF (by omega)
   obtain rfl:R=false:=by rw[hR.out];unfold wordL;have:=hno.out;rwa [List.take_of_length_le (by show 30≤j;exact hge)] at this
   clear hR
   go_wp2_with fail
   go_ret
   exact⟨rfl,hb.out⟩
end
section
open Go.RowKit
def Tok4 (w:World) (g:Nat) (k v a:Int) (S:ByteArray):Prop :=
 w.cell? ⟨g,0,none⟩=some (.int .i64 k)∧w.cell? ⟨g,1,none⟩=some (.string S)∧w.cell? ⟨g,2,none⟩=some (.int .i64 v)∧w.cell? ⟨g,3,none⟩=some (.int .i64 a) ∧
 w.frozen? ⟨g,0,none⟩=false∧w.frozen? ⟨g,1,none⟩=false∧w.frozen? ⟨g,2,none⟩=false∧w.frozen? ⟨g,3,none⟩=false
theorem Tok4.below {w w':World} {g B:Nat} {k v a:Int} {S:ByteArray} (h:Tok4 w g k v a S) (hb:Below B w w') (hg:g<B):Tok4 w' g k v a S :=
 ⟨(hb.cell (p:=⟨g,0,none⟩) hg).trans h.1,(hb.cell (p:=⟨g,1,none⟩) hg).trans h.2.1,(hb.cell (p:=⟨g,2,none⟩) hg).trans h.2.2.1,(hb.cell (p:=⟨g,3,none⟩) hg).trans h.2.2.2.1,
  (hb.frozen (p:=⟨g,0,none⟩) hg).trans h.2.2.2.2.1,(hb.frozen (p:=⟨g,1,none⟩) hg).trans h.2.2.2.2.2.1,(hb.frozen (p:=⟨g,2,none⟩) hg).trans h.2.2.2.2.2.2.1,(hb.frozen (p:=⟨g,3,none⟩) hg).trans h.2.2.2.2.2.2.2⟩
theorem tok4_new (w:World) (k v a:Int) (S:ByteArray) (T:TypeId):Tok4 (w.alloc (.cells #[.int .i64 k,.string S,.int .i64 v,.int .i64 a] T)) w.heap.size k v a S :=
 ⟨by rw[World.cell?_alloc_new];rfl,by rw[World.cell?_alloc_new];rfl,by rw[World.cell?_alloc_new];rfl,by rw[World.cell?_alloc_new];rfl,
  World.frozen?_alloc_new _ _ _ _,World.frozen?_alloc_new _ _ _ _,World.frozen?_alloc_new _ _ _ _,World.frozen?_alloc_new _ _ _ _⟩
def OneRet (k v a:Int) (S:ByteArray) (ok:Bool) (w:World) (e:Ending) (w':World):Prop:=e=.returned (.tuple #[.agg #[.int .i64 k,.string S,.int .i64 v,.int .i64 a],.bool ok])∧Below w.heap.size w w'
theorem run_next {p:UInt8→Bool} {l:List UInt8} {j x:Nat} {c:UInt8} (h:l[j]?=some c) (hr:runTo p l j=x) (hp:p c=true):runTo p l (j+1)=x:=by rw[←runTo_step h hp];exact hr
theorem one_name (l:List UInt8) (n:Nat) (hn:Hid (l.length=n)) (nl:(n:Int)≤30000) (hs:(str l).size=n) (a:Nat) (han:(a:Int)<(n:Int)) (c:UInt8) (hix:∀h,(str l)[a]'h=c) (hcl:Hid (isLetter c=true)) (x:Nat) (hx:Hid (runTo isName l a=x)) (hax:(a:Int)≤(x:Int)) (hxn:(x:Int)≤(n:Int))
  (T:ByteArray) (hT:(str l).extract a x=T) (t:List UInt8) (hTt:Hid (T=str t)) (m:Nat) (hm:(x:Int)-(a:Int)=(m:Int)) (K:Int) (Wb:Bool) (hWb:Hid (Wb=wordL t)) (hK:Hid (K=if Wb=true then 3 else 1)) (B:Bool) (hB:Hid (B=decide ((m:Int)≤16))) (w:World) :
  Calls prog 46 #[.string (str l),.int .i64 (a:Int)] w fun e w'=>OneRet K 0 a T B w e w':=by
 have LT:Hid (∀(c:UInt8) w,Calls prog 68 #[.int .u8 (c.toNat:Int)] w fun e w'=>e=.returned (.bool (isLetter c))∧w'=w):=Hd letter_ref
 have DT:Hid (∀(c:UInt8) w,Calls prog 69 #[.int .u8 (c.toNat:Int)] w fun e w'=>e=.returned (.bool (isDig c))∧w'=w):=Hd digit_ref
 have L0:Hid (∀w,Calls prog 68 #[.int .u8 (c.toNat:Int)] w fun e w'=>e=.returned (.bool true)∧w'=w):=Hd fun w=>by have:=letter_ref c w;rwa [hcl.out] at this
 have CW:Hid (∀w,Calls prog 70 #[.string T] w fun e w'=>e=.returned (.bool Wb)∧Below w.heap.size w w'):=Hd fun w=>by rw[hTt.out];exact word_ref t Wb hWb w
 have hb0:=Hd ((qB w.heap.size w).alloc (qL _) (.cells #[.int .i64 0,.string ⟨#[]⟩,.int .i64 0,.int .i64 0] 76))
 have hrm:=Hd (roomAt_new w 76)
 have hbx:=Hd (by have:=tok4_new (w.alloc (.cells #[.int .i64 0,.string ⟨#[]⟩,.int .i64 0,.int .i64 0] 76)) 1 0 a T 76;rwa [World.size_alloc] at this)
 have a0:(0:Int)≤(a:Int):=by omega
 have HE:Hid (∀j:Nat,runTo isName l j=x→(n≤j∨∃c,l[j]?=some c∧isName c=false)→j=x):=Hd fun j h1 h2=>by
  rcases h2 with h2 | ⟨c,h2,h3⟩
  ·rw[runTo_end (by rw[hn.out];exact h2)] at h1;exact h1
  ·rw[runTo_stop h2 h3] at h1;exact h1
 go_enter Tryz.func46,Tryz.ntmps46
 go_wp2_with (go_at_call 68;((with_reducible refine(L0.out _).mono ?_);rintro e w' ⟨rfl,rfl⟩))
 go_loop [7] (fun i=>∃j:Nat,a≤j∧j≤n∧Hid (runTo isName l j=x)∧i=.int .i64 j) (fun i=>n-litLen i)
 case atStart=>exact⟨a,qL _,by omega,hx,rfl⟩
 case round =>
  obtain⟨j,haj,hj,hr,rfl⟩:=hrel
  rcases Nat.lt_or_ge j n with hlt | hge
  ·have q3:decide ((j:Int)<(n:Int))=true:=qT (by omega)
   have jn:(j:Int)<(n:Int):=by omega
   obtain⟨d,hdj⟩:=isBehind hn.out hlt
   have hix2:∀h,(str l)[j]'h=d:=fun h=>str_at l hdj h
   have HD:=Hd hdj
   clear hdj
   obtain⟨b1,hb1⟩:∃b,b=isLetter d:=⟨_,rfl⟩
   obtain⟨b2,hb2⟩:∃b,b=isDig d:=⟨_,rfl⟩
   have LD:=Hd (LT.out d)
   have DD:=Hd (DT.out d)
   rw[←hb1] at LD
   rw[←hb2] at DD
   have H1:=Hd hb1
   have H2:=Hd hb2
   clear hb1 hb2
   cases b1 with
   | true =>
    go_wp2_with (go_at_call 68;((with_reducible refine(LD.out _).mono ?_);rintro e w' ⟨rfl,rfl⟩))
    exact⟨⟨j+1,by omega,by omega,Hd (run_next HD.out hr.out (by unfold isName;rw[←H1.out];rfl)),rfl⟩,by simp[litLen];omega⟩
   | false =>
    cases b2 with
    | true =>
     go_wp2_with (first | (go_at_call 68;((with_reducible refine(LD.out _).mono ?_);rintro e w' ⟨rfl,rfl⟩)) | (go_at_call 69;((with_reducible refine(DD.out _).mono ?_);rintro e w' ⟨rfl,rfl⟩)))
     exact⟨⟨j+1,by omega,by omega,Hd (run_next HD.out hr.out (by unfold isName;rw[←H2.out];simp)),rfl⟩,by simp[litLen];omega⟩
    | false =>
     obtain rfl:j=x:=HE.out j hr.out (.inr ⟨d,HD.out,by unfold isName;rw[←H1.out,←H2.out];rfl⟩)
     have hb0':=Hd ((qB (w.heap.size+1) (w.alloc (.cells #[.int .i64 0,.string ⟨#[]⟩,.int .i64 0,.int .i64 0] 76))).alloc (by simp) (.cells #[.int .i64 1,.string T,.int .i64 0,.int .i64 (a:Int)] 76))
     have hbb:=Hd (hb0.out.alloc hb0.out.size (.cells #[.int .i64 1,.string T,.int .i64 0,.int .i64 (a:Int)] 76))
     rcases Wb with _ | _
     ·obtain rfl:K=1:=by rw[hK.out];rfl
      by_cases h16:(m:Int)≤16
      ·have q16:decide ((m:Int)≤16)=true:=qT h16
       obtain rfl:B=true:=by rw[hB.out,q16]
       go_wp2_with (first | (go_at_call 68;((with_reducible refine(LD.out _).mono ?_);rintro e w' ⟨rfl,rfl⟩)) | (go_at_call 69;((with_reducible refine(DD.out _).mono ?_);rintro e w' ⟨rfl,rfl⟩)) | (go_at_call 70;((with_reducible refine(CW.out _).mono ?_);rintro e w3 ⟨rfl,hb3⟩;obtain⟨x0,x1,x2,x3,y0,y1,y2,y3⟩:=hbx.out.below hb3 (by simp);obtain⟨r0,r1,r2,r3,f0,f1,f2,f3⟩:=hrm.out.below (hb0'.out.trans (hb3.mono (by simp))) (Nat.lt_succ_self _);have HB3:=Hd hb3;clear hb3)))
       exact bodyPost_ret (v:=.tuple #[.agg #[.int .i64 1,.string T,.int .i64 0,.int .i64 (a:Int)],.bool true]) (by simp[results,Tryz.results46,go_sem,r0,r1,r2,r3]) rfl ⟨rfl,below_four (hbb.out.trans (HB3.out.mono hbb.out.size)) (qL _) _ _ _ _⟩
      ·have q16:decide ((m:Int)≤16)=false:=qF h16
       obtain rfl:B=false:=by rw[hB.out,q16]
       go_wp2_with (first | (go_at_call 68;((with_reducible refine(LD.out _).mono ?_);rintro e w' ⟨rfl,rfl⟩)) | (go_at_call 69;((with_reducible refine(DD.out _).mono ?_);rintro e w' ⟨rfl,rfl⟩)) | (go_at_call 70;((with_reducible refine(CW.out _).mono ?_);rintro e w3 ⟨rfl,hb3⟩;obtain⟨x0,x1,x2,x3,y0,y1,y2,y3⟩:=hbx.out.below hb3 (by simp);obtain⟨r0,r1,r2,r3,f0,f1,f2,f3⟩:=hrm.out.below (hb0'.out.trans (hb3.mono (by simp))) (Nat.lt_succ_self _);have HB3:=Hd hb3;clear hb3)))
       exact bodyPost_ret (v:=.tuple #[.agg #[.int .i64 1,.string T,.int .i64 0,.int .i64 (a:Int)],.bool false]) (by simp[results,Tryz.results46,go_sem,r0,r1,r2,r3]) rfl ⟨rfl,below_four (hbb.out.trans (HB3.out.mono hbb.out.size)) (qL _) _ _ _ _⟩
     ·obtain rfl:K=3:=by rw[hK.out];rfl
      by_cases h16:(m:Int)≤16
      ·have q16:decide ((m:Int)≤16)=true:=qT h16
       obtain rfl:B=true:=by rw[hB.out,q16]
       go_wp2_with (first | (go_at_call 68;((with_reducible refine(LD.out _).mono ?_);rintro e w' ⟨rfl,rfl⟩)) | (go_at_call 69;((with_reducible refine(DD.out _).mono ?_);rintro e w' ⟨rfl,rfl⟩)) | (go_at_call 70;((with_reducible refine(CW.out _).mono ?_);rintro e w3 ⟨rfl,hb3⟩;obtain⟨x0,x1,x2,x3,y0,y1,y2,y3⟩:=hbx.out.below hb3 (by simp);obtain⟨r0,r1,r2,r3,f0,f1,f2,f3⟩:=hrm.out.below (hb0'.out.trans (hb3.mono (by simp))) (Nat.lt_succ_self _);have HB3:=Hd hb3;clear hb3)))
       exact bodyPost_ret (v:=.tuple #[.agg #[.int .i64 3,.string T,.int .i64 0,.int .i64 (a:Int)],.bool true]) (by simp[results,Tryz.results46,go_sem,r0,r1,r2,r3]) rfl ⟨rfl,below_four ((hbb.out.trans (HB3.out.mono hbb.out.size)).setCell (p:=⟨w.heap.size+1,0,none⟩) (Nat.le_succ _) _) (qL _) _ _ _ _⟩
      ·have q16:decide ((m:Int)≤16)=false:=qF h16
       obtain rfl:B=false:=by rw[hB.out,q16]
       go_wp2_with (first | (go_at_call 68;((with_reducible refine(LD.out _).mono ?_);rintro e w' ⟨rfl,rfl⟩)) | (go_at_call 69;((with_reducible refine(DD.out _).mono ?_);rintro e w' ⟨rfl,rfl⟩)) | (go_at_call 70;((with_reducible refine(CW.out _).mono ?_);rintro e w3 ⟨rfl,hb3⟩;obtain⟨x0,x1,x2,x3,y0,y1,y2,y3⟩:=hbx.out.below hb3 (by simp);obtain⟨r0,r1,r2,r3,f0,f1,f2,f3⟩:=hrm.out.below (hb0'.out.trans (hb3.mono (by simp))) (Nat.lt_succ_self _);have HB3:=Hd hb3;clear hb3)))
       exact bodyPost_ret (v:=.tuple #[.agg #[.int .i64 3,.string T,.int .i64 0,.int .i64 (a:Int)],.bool false]) (by simp[results,Tryz.results46,go_sem,r0,r1,r2,r3]) rfl ⟨rfl,below_four ((hbb.out.trans (HB3.out.mono hbb.out.size)).setCell (p:=⟨w.heap.size+1,0,none⟩) (Nat.le_succ _) _) (qL _) _ _ _ _⟩
  ·have q3:decide ((j:Int)<(n:Int))=false:=qF (by omega)
   obtain rfl:j=x:=HE.out j hr.out (.inl hge)
   have hb0':=Hd ((qB (w.heap.size+1) (w.alloc (.cells #[.int .i64 0,.string ⟨#[]⟩,.int .i64 0,.int .i64 0] 76))).alloc (by simp) (.cells #[.int .i64 1,.string T,.int .i64 0,.int .i64 (a:Int)] 76))
   have hbb:=Hd (hb0.out.alloc hb0.out.size (.cells #[.int .i64 1,.string T,.int .i64 0,.int .i64 (a:Int)] 76))
   rcases Wb with _ | _
   ·obtain rfl:K=1:=by rw[hK.out];rfl
    by_cases h16:(m:Int)≤16
    ·have q16:decide ((m:Int)≤16)=true:=qT h16
     obtain rfl:B=true:=by rw[hB.out,q16]
     go_wp2_with (first | (go_at_call 70;((with_reducible refine(CW.out _).mono ?_);rintro e w3 ⟨rfl,hb3⟩;obtain⟨x0,x1,x2,x3,y0,y1,y2,y3⟩:=hbx.out.below hb3 (by simp);obtain⟨r0,r1,r2,r3,f0,f1,f2,f3⟩:=hrm.out.below (hb0'.out.trans (hb3.mono (by simp))) (Nat.lt_succ_self _);have HB3:=Hd hb3;clear hb3)))
     exact bodyPost_ret (v:=.tuple #[.agg #[.int .i64 1,.string T,.int .i64 0,.int .i64 (a:Int)],.bool true]) (by simp[results,Tryz.results46,go_sem,r0,r1,r2,r3]) rfl ⟨rfl,below_four (hbb.out.trans (HB3.out.mono hbb.out.size)) (qL _) _ _ _ _⟩
    ·have q16:decide ((m:Int)≤16)=false:=qF h16
     obtain rfl:B=false:=by rw[hB.out,q16]
     go_wp2_with (first | (go_at_call 70;((with_reducible refine(CW.out _).mono ?_);rintro e w3 ⟨rfl,hb3⟩;obtain⟨x0,x1,x2,x3,y0,y1,y2,y3⟩:=hbx.out.below hb3 (by simp);obtain⟨r0,r1,r2,r3,f0,f1,f2,f3⟩:=hrm.out.below (hb0'.out.trans (hb3.mono (by simp))) (Nat.lt_succ_self _);have HB3:=Hd hb3;clear hb3)))
     exact bodyPost_ret (v:=.tuple #[.agg #[.int .i64 1,.string T,.int .i64 0,.int .i64 (a:Int)],.bool false]) (by simp[results,Tryz.results46,go_sem,r0,r1,r2,r3]) rfl ⟨rfl,below_four (hbb.out.trans (HB3.out.mono hbb.out.size)) (qL _) _ _ _ _⟩
   ·obtain rfl:K=3:=by rw[hK.out];rfl
    by_cases h16:(m:Int)≤16
    ·have q16:decide ((m:Int)≤16)=true:=qT h16
     obtain rfl:B=true:=by rw[hB.out,q16]
     go_wp2_with (first | (go_at_call 70;((with_reducible refine(CW.out _).mono ?_);rintro e w3 ⟨rfl,hb3⟩;obtain⟨x0,x1,x2,x3,y0,y1,y2,y3⟩:=hbx.out.below hb3 (by simp);obtain⟨r0,r1,r2,r3,f0,f1,f2,f3⟩:=hrm.out.below (hb0'.out.trans (hb3.mono (by simp))) (Nat.lt_succ_self _);have HB3:=Hd hb3;clear hb3)))
     exact bodyPost_ret (v:=.tuple #[.agg #[.int .i64 3,.string T,.int .i64 0,.int .i64 (a:Int)],.bool true]) (by simp[results,Tryz.results46,go_sem,r0,r1,r2,r3]) rfl ⟨rfl,below_four ((hbb.out.trans (HB3.out.mono hbb.out.size)).setCell (p:=⟨w.heap.size+1,0,none⟩) (Nat.le_succ _) _) (qL _) _ _ _ _⟩
    ·have q16:decide ((m:Int)≤16)=false:=qF h16
     obtain rfl:B=false:=by rw[hB.out,q16]
     go_wp2_with (first | (go_at_call 70;((with_reducible refine(CW.out _).mono ?_);rintro e w3 ⟨rfl,hb3⟩;obtain⟨x0,x1,x2,x3,y0,y1,y2,y3⟩:=hbx.out.below hb3 (by simp);obtain⟨r0,r1,r2,r3,f0,f1,f2,f3⟩:=hrm.out.below (hb0'.out.trans (hb3.mono (by simp))) (Nat.lt_succ_self _);have HB3:=Hd hb3;clear hb3)))
     exact bodyPost_ret (v:=.tuple #[.agg #[.int .i64 3,.string T,.int .i64 0,.int .i64 (a:Int)],.bool false]) (by simp[results,Tryz.results46,go_sem,r0,r1,r2,r3]) rfl ⟨rfl,below_four ((hbb.out.trans (HB3.out.mono hbb.out.size)).setCell (p:=⟨w.heap.size+1,0,none⟩) (Nat.le_succ _) _) (qL _) _ _ _ _⟩
end
section
open Go.RowKit
def RefOne:Prop:=∀(l:List UInt8) (a:Nat),a<l.length→l.length≤20000→∀W,
 (oneL (l.drop a)≠none→Calls prog 46 #[.string (str l),.int .i64 (a:Int)] W fun e w'=>OneRet ((tokAt l a).kind:Int) (tokAt l a).v (a:Int) (str (tokAt l a).text) true W e w') ∧
 (oneL (l.drop a)=none→Calls prog 46 #[.string (str l),.int .i64 (a:Int)] W fun e w'=>∃(k v a':Int) (S:ByteArray),OneRet k v a' S false W e w')
theorem own_below {B:Nat} {e:TypeId} {k:Nat} {v:Value} {n:Nat} {xs:List Value} {w w':World} (h:w.ownsRow B e k v n xs) (hb:Below w.heap.size w w'):w'.ownsRow B e k v n xs :=
 h.kept (row:=none) ⟨hb.os,hb.tape,hb.output,hb.size,fun j hj _=>hb.block j hj⟩ (by cases hv:v.ownBlock <;> simp)
theorem wpList_append_tok (w:World) {ops:Array Oper} {rest:List Oper} {o:Oper} {a:Act} {Q:Exit→Act→World→Prop}
  (hg:o.guard=none) (s x:Operand) (hop:o.op=Op.call { callee:=Callee.builtin Builtin.append,args:=#[s,x],argTypes:=#[68,68] })
  (base:Nat) (v:Value) (k:Nat) (xs:List Value) (hs:a.eval s=v) (hown:w.ownsRow base 76 4 v k xs) (ad:Addr) (news:List Value) (hx:a.eval x=.slice (some ad) 1 1) (hn:news.length=1*4)
  (hc:∀j u,news[j]?=some u→w.cell? (ad.add j)=some u) (h1c:∀u ∈ news,u.oneCell'=true) (hk:k≤40000) (b3:base≤w.heap.size)
  (hK:∀v' w',w'.ownsRow base 76 4 v' (k+1) (xs++news)→w.grownBy w' v.ownBlock→wpList prog ops Q rest (a.put o.dst v') w') :
  wpList prog ops Q (o :: rest) a w:=by
 obtain⟨i,h2,h3,h4,h5⟩:=info_parts tok_info
 refine wpList_plain hg fun K hK'=>?_
 obtain⟨v',w',hrun,r1,r2,_⟩:=run_append_own (P:=prog) w base 68 o.type 76 i _ 4 40 Tryz.underlying68 h2 h3 h4 h5 rfl (by decide) v k xs hown ad 1 1 news hn hc h1c (by unfold maxLen;omega) (by omega) b3
 unfold Oper.wp execOp
 simp only[hop,resolve,invoke,builtin,Sem.run_bind,Sem.run_pure,Result.andThen_ok,List.map_toArray,List.map_cons,List.map_nil,hs,hx,hrun]
 exact hK' _ _ (hK v' w' r1 r2)
def Room2 (w:World) (g:Nat):Prop:=w.cell? ⟨g,0,none⟩=some (.int .i64 0)∧w.cell? ⟨g,1,none⟩=some (.int .i64 0)∧w.frozen? ⟨g,0,none⟩=false∧w.frozen? ⟨g,1,none⟩=false
theorem Room2.below {w w':World} {g B:Nat} (h:Room2 w g) (hb:Below B w w') (hg:g<B):Room2 w' g :=
 ⟨(hb.cell (p:=⟨g,0,none⟩) hg).trans h.1,(hb.cell (p:=⟨g,1,none⟩) hg).trans h.2.1,(hb.frozen (p:=⟨g,0,none⟩) hg).trans h.2.2.1,(hb.frozen (p:=⟨g,1,none⟩) hg).trans h.2.2.2⟩
theorem room2_new (w:World) (T:TypeId):Room2 (w.alloc (.cells #[.int .i64 0,.int .i64 0] T)) w.heap.size :=
 ⟨by rw[World.cell?_alloc_new];rfl,by rw[World.cell?_alloc_new];rfl,World.frozen?_alloc_new _ _ _ _,World.frozen?_alloc_new _ _ _ _⟩
theorem ref_long (l:List UInt8) (n:Nat) (hs:(str l).size=n) (nl:(20000:Int)<(n:Int)) (w:World) :
  Calls prog 25 #[.string (str l)] w fun e w'=>NoRow 10 0 w e w':=by
 have q:decide ((20000:Int)<(n:Int))=true:=qT nl
 go_enter Tryz.func25,Tryz.ntmps25
 go_wp2_with fail
 exact bodyPost_ret (v:=.tuple #[.slice none 0 0,.agg #[.int .i64 10,.int .i64 0]]) (by simp[results,Tryz.results25,go_sem]) rfl ⟨rfl,(qB w.heap.size w).alloc (qL _) _⟩
def LexAt (l:List UInt8) (ts:List Tok) (r:Option Nat) (w:World) (a:Nat) (v:Value) (m:Nat) (wr:World):Prop :=
 ∃pre rest:List Tok,ts=pre++rest∧pre.length=m∧Toks l a rest r∧wr.ownsRow (w.heap.size+1) 76 4 v m (tokCells pre)∧Below (w.heap.size+1) (w.alloc (.cells #[.int .i64 0,.int .i64 0] 41)) wr
theorem ref_short (O:Hid RefOne) (l:List UInt8) (n:Nat) (hn:Hid (l.length=n)) (hs:(str l).size=n) (nl:(n:Int)≤20000) (ts:List Tok) (r:Option Nat) (ht:Hid (lexT l ts r)) (w:World) :
  Calls prog 25 #[.string (str l)] w fun e w'=>match r with | some f=>NoRow 1 (f:Int) w e w' | none=>SomeRow (ts++[endT l.length]) (ts.length+1) w e w':=by
 have q:decide ((20000:Int)<(n:Int))=false:=qF (by omega)
 have SK:Hid (∀(a:Nat),a≤n→∀W,Calls prog 45 #[.string (str l),.int .i64 (a:Int)] W fun e w'=>e=.returned (.int .i64 ((gapTo false l a:Nat):Int))∧w'=W):=Hd fun a ha W=>skip_ref l (by have:=hn.out;omega) a (by have:=hn.out;omega) W
 have HB:=Hd ((qB w.heap.size w).alloc (qL _) (.cells #[.int .i64 0,.int .i64 0] 41))
 have RM:=Hd (room2_new w 41)
 obtain⟨G0,hG0⟩:∃G0,G0=gapTo false l 0:=⟨_,rfl⟩
 have S0:Hid (∀W,Calls prog 45 #[.string (str l),.int .i64 0] W fun e w'=>e=.returned (.int .i64 (G0:Int))∧w'=W):=Hd (by rw[hG0];exact SK.out 0 (by omega))
 have HG0:=Hd hG0
 clear hG0
 go_enter Tryz.func25,Tryz.ntmps25
 go_wp2_with (go_at_call 45;((with_reducible refine(S0.out _).mono ?_);rintro e w' ⟨rfl,rfl⟩))
 go_loopw [5,4] (fun i v wr=>∃a m:Nat,i=.int .i64 a∧a≤n∧m≤n∧Hid (LexAt l ts r w a v m wr)) (fun i _ _=>n-litLen i)
 case atStart =>
  exact⟨G0,0,rfl,by rw[←hn.out,HG0.out];exact gapTo_le false (Nat.zero_le _),Nat.zero_le _,Hd ⟨[],ts,rfl,rfl,by rw[HG0.out];exact ht.out,qO _ _ _ _,qB _ _⟩⟩
 case round =>
  obtain⟨a,m,rfl,ha,hm,hL⟩:=hrel
  rcases Nat.lt_or_ge a n with hlt | hge
  ·have q3:decide ((a:Int)<(n:Int))=true:=qT (by omega)
   have O1:=Hd (O.out l a (by have:=hn.out;omega) (by have:=hn.out;omega) wr)
   by_cases ho:oneL (l.drop a)=none
   ·have C:Hid (Calls prog 46 #[.string (str l),.int .i64 (a:Int)] wr fun e w'=>∃(k v a':Int) (S:ByteArray),e=.returned (.tuple #[.agg #[.int .i64 k,.string S,.int .i64 v,.int .i64 a'],.bool false])∧Below wr.heap.size wr w'):=Hd (O1.out.2 ho)
    have hr:Hid (r=some a∧∃pre rest:List Tok,Below (w.heap.size+1) (w.alloc (.cells #[.int .i64 0,.int .i64 0] 41)) wr):=Hd (by
     obtain⟨pre,rest,_,_,h3,_,h5⟩:=hL.out
     cases h3 with
     | fin h=>exact absurd h (by have:=hn.out;omega)
     | bad=>exact⟨rfl,[],[],h5⟩
     | tok _ h1=>exact absurd ho h1)
    obtain rfl:=hr.out.1
    have BB:Hid (Below (w.heap.size+1) (w.alloc (.cells #[.int .i64 0,.int .i64 0] 41)) wr):=Hd (by obtain⟨_,_,_,h⟩:=hr.out;exact h)
    have SB:Hid (w.heap.size+1≤wr.heap.size):=Hd (by have:=BB.out.size;simpa using this)
    clear ho
    go_wp2_with (go_at_call 46;((with_reducible refine C.out.mono ?_);rintro e w1 ⟨kk,vv,aa,S,rfl,hb1⟩;have B1:=Hd ((BB.out.trans (hb1.mono SB.out)).alloc (Nat.le_trans SB.out hb1.size) (.cells #[.int .i64 kk,.string S,.int .i64 vv,.int .i64 aa] 76));obtain⟨r0,r1,f0,f1⟩:=RM.out.below B1.out (Nat.lt_succ_self _);clear hb1))
    exact bodyPost_ret (v:=.tuple #[.slice none 0 0,.agg #[.int .i64 1,.int .i64 (a:Int)]]) (by simp[results,Tryz.results25,go_sem,r0,r1]) rfl ⟨rfl,((HB.out.trans (B1.out.mono (Nat.le_succ _))).setCell (p:=⟨w.heap.size,0,none⟩) (qL _) _).setCell (p:=⟨w.heap.size,1,none⟩) (qL _) _⟩
   ·have hlen:=tokAt_len ho
    have hat:(tokAt l a).at_=a:=by unfold tokAt;cases oneL (l.drop a) <;> rfl
    have hO:=O1.out.1 ho
    obtain⟨pre,rest,hts,hpm,hrest,hrow,hBB⟩:=hL.out
    obtain⟨rest2,rfl,hrest2⟩:∃rest2,rest=tokAt l a :: rest2∧Toks l (gapTo false l (a+(tokAt l a).text.length)) rest2 r:=by
     cases hrest with
     | fin h=>exact absurd h (by have:=hn.out;omega)
     | bad _ h=>exact absurd h ho
     | tok _ _ h=>exact⟨_,rfl,h⟩
    generalize tokAt l a=t at *
    obtain⟨kk,tx,vv,aa⟩:=t
    obtain rfl:aa=a:=hat
    have C:Hid (Calls prog 46 #[.string (str l),.int .i64 (aa:Int)] wr fun e w'=>e=.returned (.tuple #[.agg #[.int .i64 (kk:Int),.string (str tx),.int .i64 vv,.int .i64 (aa:Int)],.bool true])∧Below wr.heap.size wr w'):=Hd hO
    obtain⟨L,hL2⟩:∃L,L=tx.length:=⟨_,rfl⟩
    have hsz:(str tx).size=L:=by rw[str_size,hL2]
    have hl1:1≤L:=by rw[hL2];exact hlen.1
    have hl2:aa+L≤n:=by rw[hL2,←hn.out];exact hlen.2
    have hl3:(L:Int)≤20000:=by omega
    obtain⟨G1,hG1⟩:∃G1,G1=gapTo false l (aa+L):=⟨_,rfl⟩
    have hg1:aa<G1:=by rw[hG1];have:=gapTo_ge false l (aa+L);omega
    have hg2:G1≤n:=by rw[hG1,←hn.out];exact gapTo_le false (by rw[hn.out];exact hl2)
    have SK1:Hid (∀W,Calls prog 45 #[.string (str l),.int .i64 ((aa:Int)+(L:Int))] W fun e w'=>e=.returned (.int .i64 (G1:Int))∧w'=W):=Hd (by rw[hG1];exact SK.out (aa+L) hl2)
    have HR2:Hid (Toks l G1 rest2 r):=Hd (by rw[hG1,hL2];exact hrest2)
    have HTS:=Hd hts
    have HPM:=Hd hpm
    have HROW:=Hd hrow
    have BB:=Hd hBB
    have SB:Hid (w.heap.size+1≤wr.heap.size):=Hd (by have:=hBB.size;simpa using this)
    have hmn:m+1≤n:=by
     have h1:=toks_count ht.out
     have h2:=gapTo_le false (Nat.zero_le l.length)
     rw[hts] at h1
     simp only[List.length_append,List.length_cons] at h1
     have:=hn.out
     omega
    have HM:=Hd hmn
    clear hlen hO hrest hrest2 hts hpm hrow hBB ho hL2 hG1 hmn
    go_wp2_with (first | (go_at_call 46;((with_reducible refine C.out.mono ?_);rintro e w1 ⟨rfl,hb1⟩;have B1:=Hd (BB.out.trans (hb1.mono SB.out));have S1:=Hd (Nat.le_trans SB.out hb1.size);have SW:=Hd hb1.size;have R1:=Hd (own_below HROW.out hb1);have CF:Hid (∀j u,[Value.int .i64 (kk:Int),.string (str tx),.int .i64 vv,.int .i64 (aa:Int)][j]?=some u→((w1.alloc (.cells #[.int .i64 (kk:Int),.string (str tx),.int .i64 vv,.int .i64 (aa:Int)] 76)).alloc (.cells #[.int .i64 (kk:Int),.string (str tx),.int .i64 vv,.int .i64 (aa:Int)] 76)).cell? ((⟨w1.heap.size+1,0,none⟩:Addr).add j)=some u):=Hd (fun j u hju=>by have:=cell_four_new (w1.alloc (.cells #[.int .i64 (kk:Int),.string (str tx),.int .i64 vv,.int .i64 (aa:Int)] 76)) _ _ _ _ 76 j u hju;rwa [World.size_alloc] at this);clear hb1)) | (at_builtin;refine wpList_append_tok _ rfl _ _ rfl (w.heap.size+1) _ m _ rfl ((R1.out.alloc _).alloc _) ⟨w1.heap.size+1,0,none⟩ [.int .i64 (kk:Int),.string (str tx),.int .i64 vv,.int .i64 (aa:Int)] rfl rfl CF.out (by simp[Value.oneCell']) (by have:=HM.out;omega) (by have:=S1.out;simp;omega) ?_;intro v' w3 hown' hgrow;have y1:w3.cell? ⟨w1.heap.size,1,none⟩=some (.string (str tx)):=hgrow.cell (by rw[World.cell?_alloc_old _ _ _ (by simp),World.cell?_alloc_new];rfl) (fun e=>by have:=(HROW.out.lt _ e.symm).2;have:=SW.out;simp at *;omega);have G1':=Hd hown';have G2':=Hd (((B1.out.alloc (by have:=S1.out;simp;omega) (.cells #[.int .i64 (kk:Int),.string (str tx),.int .i64 vv,.int .i64 (aa:Int)] 76)).alloc (by have:=S1.out;simp;omega) (.cells #[.int .i64 (kk:Int),.string (str tx),.int .i64 vv,.int .i64 (aa:Int)] 76)).grown hgrow (by have:=S1.out;simp;omega) (fun k hk=>(HROW.out.lt k hk).1));clear hown' hgrow) | (go_at_call 45;((with_reducible refine(SK1.out _).mono ?_);rintro e w' ⟨rfl,rfl⟩)))
    exact⟨⟨G1,m+1,rfl,hg2,HM.out,Hd ⟨pre++[⟨kk,tx,vv,aa⟩],rest2,by rw[HTS.out];simp,by simp[HPM.out],HR2.out,by rw[tokCells_snoc];exact G1'.out,G2'.out⟩⟩,by simp[litLen];omega⟩
  ·have q3:decide ((a:Int)<(n:Int))=false:=qF (by omega)
   obtain⟨pre,rest,hts,hpm,hrest,hrow,hBB⟩:=hL.out
   obtain⟨rfl,rfl⟩:rest=[]∧r=none:=by
    cases hrest with
    | fin h=>exact⟨rfl,rfl⟩
    | bad h=>exact absurd h (by have:=hn.out;omega)
    | tok h=>exact absurd h (by have:=hn.out;omega)
   have HTS:=Hd (show ts=pre by rw[hts];simp)
   have HPM:=Hd hpm
   have HROW:=Hd hrow
   have BB:=Hd hBB
   have SB:Hid (w.heap.size+1≤wr.heap.size):=Hd (by have:=hBB.size;simpa using this)
   have CF:Hid (∀j u,[Value.int .i64 5,.string ⟨#[]⟩,.int .i64 0,.int .i64 (n:Int)][j]?=some u→(wr.alloc (.cells #[.int .i64 5,.string ⟨#[]⟩,.int .i64 0,.int .i64 (n:Int)] 76)).cell? ((⟨wr.heap.size,0,none⟩:Addr).add j)=some u):=Hd (cell_four_new wr _ _ _ _ 76)
   clear hts hpm hrest hrow hBB
   go_wp2_with (at_builtin;refine wpList_append_tok _ rfl _ _ rfl (w.heap.size+1) _ m _ rfl (HROW.out.alloc _) ⟨wr.heap.size,0,none⟩ [.int .i64 5,.string ⟨#[]⟩,.int .i64 0,.int .i64 (n:Int)] rfl rfl CF.out (by simp[Value.oneCell']) (by omega) (by have:=SB.out;simp;omega) ?_;intro v' w3 hown' hgrow;obtain⟨g',cap',rfl⟩:=ownsRow_succ hown';have G1':=Hd hown';have G2':=Hd ((BB.out.alloc (by have:=SB.out;simp;omega) (.cells #[.int .i64 5,.string ⟨#[]⟩,.int .i64 0,.int .i64 (n:Int)] 76)).grown hgrow (by have:=SB.out;simp;omega) (fun k hk=>(HROW.out.lt k hk).1));obtain⟨r0,r1,f0,f1⟩:=RM.out.below G2'.out (Nat.lt_succ_self _);clear hown' hgrow)
   have hg:=G1'.out.lt g' rfl
   refine bodyPost_ret (v:=.tuple #[.slice (some ⟨g',0,none⟩) (m+1) cap',.agg #[.int .i64 0,.int .i64 0]]) (by simp[results,Tryz.results25,go_sem,r0,r1]) rfl ⟨g',cap',by rw[HTS.out,HPM.out],((HB.out.trans (G2'.out.mono (Nat.le_succ _))).setCell (p:=⟨w.heap.size,0,none⟩) (qL _) _).setCell (p:=⟨w.heap.size,1,none⟩) (qL _) _,by simp;exact hg.2,?_⟩
   have hcells:∀j u,(tokCells (ts++[endT l.length]))[j]?=some u→((w3.setCell ⟨w.heap.size,0,none⟩ (.int .i64 0)).setCell ⟨w.heap.size,1,none⟩ (.int .i64 0)).cell? ⟨g',j,none⟩=some u:=fun j u hu=>by
    rw[World.cell?_setCell_other _ _ _ _ (by intro e;injection e with e;omega),World.cell?_setCell_other _ _ _ _ (by intro e;injection e with e;omega)]
    refine row_cells G1'.out j u ?_
    rw[HTS.out,tokCells_snoc] at hu
    rw[←hn.out]
    exact hu
   intro i t hi
   obtain⟨h1,h2,h3,h4⟩:=tokCells_at hi
   exact⟨hcells _ _ h1,hcells _ _ h2,hcells _ _ h3,hcells _ _ h4⟩
theorem ref_lex (O:RefOne):RefLex:=fun l ts r ht W=>by
 rcases Nat.lt_or_ge 20000 l.length with h | h
 ·exact(ref_long l _ (str_size l) (by omega) W).mono fun e w' h2=>⟨fun _=>h2,fun h3=>absurd h3 (by omega)⟩
 ·exact(ref_short (Hd O) l _ (Hd rfl) (str_size l) (by omega) ts r (Hd ht) W).mono fun e w' h2=>⟨fun h3=>absurd h3 (by omega),fun _=>by cases r <;> exact h2⟩
end
section
open Go.RowKit
def SignRet (a:Nat) (o:Option (List UInt8)) (w:World) (e:Ending) (w':World):Prop :=
 (∃s,o=some s∧OneRet 4 0 (a:Int) (str s) true w e w')∨(o=none∧OneRet 0 0 0 ⟨#[]⟩ false w e w')
theorem prefix_eq (d s:List UInt8):s.isPrefixOf d=(d.take s.length ==s):=by
 cases h:s.isPrefixOf d with
 | true=>rw[prefix_take h];simp
 | false =>
  symm
  rw[beq_eq_false_iff_ne]
  intro e
  have:s.isPrefixOf d=true:=by rw[List.isPrefixOf_iff_prefix,←e];exact List.take_prefix _ _
  rw[h] at this
  cases this
theorem one_sign (l:List UInt8) (n:Nat) (hn:Hid (l.length=n)) (nl:(n:Int)≤30000) (hs:(str l).size=n) (a:Nat) (han:(a:Int)<(n:Int)) (c:UInt8) (hix:∀h,(str l)[a]'h=c) (hcl:Hid (isLetter c=false)) (hcd:Hid (isDig c=false)) (o:Option (List UInt8)) (ho:Hid (signOf (l.drop a)=o)) (w:World) :
  Calls prog 46 #[.string (str l),.int .i64 (a:Int)] w fun e w'=>SignRet a o w e w':=by
 have L0:Hid (∀w,Calls prog 68 #[.int .u8 (c.toNat:Int)] w fun e w'=>e=.returned (.bool false)∧w'=w):=Hd fun w=>by have:=letter_ref c w;rwa [hcl.out] at this
 have D0:Hid (∀w,Calls prog 69 #[.int .u8 (c.toNat:Int)] w fun e w'=>e=.returned (.bool false)∧w'=w):=Hd fun w=>by have:=digit_ref c w;rwa [hcd.out] at this
 have hb0:=Hd ((qB w.heap.size w).alloc (qL _) (.cells #[.int .i64 0,.string ⟨#[]⟩,.int .i64 0,.int .i64 0] 76))
 have hrm:=Hd (roomAt_new w 76)
 have hb1:=Hd (((qB (w.heap.size+1) (w.alloc (.cells #[.int .i64 0,.string ⟨#[]⟩,.int .i64 0,.int .i64 0] 76))).alloc (by simp) (.cells signCells 9)))
 have hcell:Hid (∀(j:Nat) s,signsL[j]?=some s→((w.alloc (.cells #[.int .i64 0,.string ⟨#[]⟩,.int .i64 0,.int .i64 0] 76)).alloc (.cells signCells 9)).cell? ⟨w.heap.size+1,j,none⟩=some (.string (str s))):=Hd fun j s hs=>by
  have:((w.alloc (.cells #[.int .i64 0,.string ⟨#[]⟩,.int .i64 0,.int .i64 0] 76)).alloc (.cells signCells 9)).cell? ⟨(w.alloc (.cells #[.int .i64 0,.string ⟨#[]⟩,.int .i64 0,.int .i64 0] 76)).heap.size,j,none⟩=some (.string (str s)):=by
   rw[World.cell?_alloc_new]
   unfold signCells
   rw[List.getElem?_toArray,List.getElem?_map,hs]
   rfl
  rwa [World.size_alloc] at this
 go_enter Tryz.func46,Tryz.ntmps46
 go_wp2_with (first | (go_at_call 68;((with_reducible refine(L0.out _).mono ?_);rintro e w' ⟨rfl,rfl⟩)) | (go_at_call 69;((with_reducible refine(D0.out _).mono ?_);rintro e w' ⟨rfl,rfl⟩)))
 obtain⟨W1,hW1⟩:∃W1,W1=(w.alloc (.cells #[.int .i64 0,.string ⟨#[]⟩,.int .i64 0,.int .i64 0] 76)).alloc (.cells signCells 9):=⟨_,rfl⟩
 rw[←hW1] at hcell hb1
 change Code.wp _ _ _ _ ((w.alloc (.cells #[.int .i64 0,.string ⟨#[]⟩,.int .i64 0,.int .i64 0] 76)).alloc (.cells signCells 9))
 rw[←hW1]
 have HW:=Hd hW1
 have HSZ:Hid (W1.heap.size=w.heap.size+1+1):=Hd (by rw[hW1];simp)
 clear hW1
 go_loopw [12] (fun i wr=>∃j:Nat,j≤17∧Hid ((signsL.take j).all (fun s=>!s.isPrefixOf (l.drop a))=true)∧i=.int .i64 j∧Hid (Below (w.heap.size+1+1) W1 wr)) (fun i _=>17-litLen i)
 case atStart=>exact⟨0,by omega,Hd rfl,rfl,Hd (qB _ _)⟩
 case round =>
  obtain⟨j,hj,hno,rfl,hB⟩:=hrel
  have hBB:=Hd (hb1.out.trans (hB.out.mono (Nat.le_succ _)))
  obtain⟨r0,r1,r2,r3,f0,f1,f2,f3⟩:=hrm.out.below hBB.out (Nat.lt_succ_self _)
  have hBw:=Hd (hb0.out.trans (hBB.out.mono (Nat.le_succ _)))
  rcases Nat.lt_or_ge j 17 with hlt | hge
  ·have q3:decide ((j:Int)<17)=true:=qT (by omega)
   obtain⟨s,hsj⟩:∃s,signsL[j]?=some s:=⟨signsL[j]'(by show j<17;exact hlt),List.getElem?_eq_getElem _⟩
   have hc:wr.cell? ⟨w.heap.size+1,j,none⟩=some (.string (str s)):=(hB.out.cell (p:=⟨w.heap.size+1,j,none⟩) (Nat.lt_succ_self _)).trans (hcell.out j s hsj)
   have HJ:=Hd hsj
   have hk:=signs_len (List.mem_of_getElem? hsj)
   obtain⟨k,hk0⟩:∃k,k=s.length:=⟨_,rfl⟩
   have hks:(str s).size=k:=by rw[str_size,hk0]
   obtain⟨x,hx⟩:∃x,x=a+k:=⟨_,rfl⟩
   have hax:(a:Int)+(k:Int)=(x:Int):=by omega
   have hk2:(k:Int)≤2:=by omega
   have hxa:(a:Int)≤(x:Int):=by omega
   have hx3:(x:Int)≤30010:=by omega
   have HK0:=Hd hk0
   have HX:=Hd hx
   clear hsj hk hk0 hx
   by_cases hxn:(x:Int)≤(n:Int)
   ·have q4:decide ((x:Int)≤(n:Int))=true:=qT hxn
    obtain⟨T,hT⟩:∃T,T=(str l).extract a x:=⟨_,rfl⟩
    have hT2:(str l).extract a x=T:=hT.symm
    have HT:Hid (T=str ((l.drop a).take k)):=Hd (by rw[hT,slice_str,HX.out,Nat.add_sub_cancel_left])
    have hpf:=Hd (prefix_eq (l.drop a) s)
    rcases hBv:s.isPrefixOf (l.drop a) with _ | _
    ·have hq:(T.toList ==(str s).toList)=false:=by rw[HT.out,bytes_eq,HK0.out,←hpf.out];exact hBv
     have HBV:=Hd hBv
     clear hT hBv
     go_wp2_with fail
     go_quiet (fail)
     go_wp2_with fail
     have hdr:Below wr.heap.size wr (wr.drewN nq):=below_dr (qB _ wr) nq
     exact⟨⟨j+1,by omega,Hd (all_take_next _ HJ.out hno.out (by rw[HBV.out];rfl)),rfl,Hd (hB.out.trans (hdr.mono (by have:=hB.out.size;rw[HSZ.out] at this;exact this)))⟩,by simp[litLen];omega⟩
    ·have hq:(T.toList ==(str s).toList)=true:=by rw[HT.out,bytes_eq,HK0.out,←hpf.out];exact hBv
     obtain rfl:o=some s:=by rw[←ho.out];exact sign_hit HJ.out hno.out hBv
     clear hT hBv ho
     go_wp2_with fail
     go_quiet (fail)
     have hdr:Below wr.heap.size wr (wr.drewN nq):=below_dr (qB _ wr) nq
     have hBB2:=Hd (hBB.out.trans (hdr.mono (by have:=hB.out.size;rw[HSZ.out] at this;omega)))
     obtain⟨p0,p1,p2,p3,g0,g1,g2,g3⟩:=hrm.out.below hBB2.out (Nat.lt_succ_self _)
     have hc2:(wr.drewN nq).cell? ⟨w.heap.size+1,j,none⟩=some (.string (str s)):=(hdr.cell (p:=⟨w.heap.size+1,j,none⟩) (by have:=hB.out.size;rw[HSZ.out] at this;show w.heap.size+1<_;omega)).trans hc
     have HDR:=Hd (hb0.out.trans (hBB2.out.mono (Nat.le_succ _)))
     clear hdr
     go_wp2_with fail
     exact bodyPost_ret (v:=.tuple #[.agg #[.int .i64 4,.string (str s),.int .i64 0,.int .i64 (a:Int)],.bool true]) (by simp[results,Tryz.results46,go_sem,p0,p1,p2,p3]) rfl (.inl ⟨s,rfl,rfl,below_four HDR.out (qL _) _ _ _ _⟩)
   ·have q4:decide ((x:Int)≤(n:Int))=false:=qF hxn
    have q5:decide (x≤n)=false:=qF (by omega)
    have q6:¬(x≤n):=by omega
    have HBV:Hid (s.isPrefixOf (l.drop a)=false):=Hd (by
     cases h:s.isPrefixOf (l.drop a) with
     | false=>rfl
     | true =>
      have h2:=List.IsPrefix.length_le (List.isPrefixOf_iff_prefix.1 h)
      rw[List.length_drop] at h2
      have:=HK0.out
      have:=HX.out
      have:=hn.out
      omega)
    go_wp2_with fail
    go_quiet (fail)
    go_wp2_with fail
    have hdr:Below wr.heap.size wr (wr.drewN nq):=below_dr (qB _ wr) nq
    exact⟨⟨j+1,by omega,Hd (all_take_next _ HJ.out hno.out (by rw[HBV.out];rfl)),rfl,Hd (hB.out.trans (hdr.mono (by have:=hB.out.size;rw[HSZ.out] at this;exact this)))⟩,by simp[litLen];omega⟩
  ·have q3:decide ((j:Int)<17)=false:=qF (by omega)
   obtain rfl:o=none:=by rw[←ho.out];exact sign_none (by have:=hno.out;rwa [List.take_of_length_le (by show 17≤j;exact hge)] at this)
   clear ho
   go_wp2_with fail
   exact bodyPost_ret (v:=.tuple #[.agg #[.int .i64 0,.string ⟨#[]⟩,.int .i64 0,.int .i64 0],.bool false]) (by simp[results,Tryz.results46,go_sem,r0,r1,r2,r3]) rfl (.inr ⟨rfl,rfl,below_four hBw.out (qL _) _ _ _ _⟩)
end
section
open Go.RowKit
theorem one_num (l:List UInt8) (n:Nat) (hn:Hid (l.length=n)) (nl:(n:Int)≤30000) (hs:(str l).size=n) (a:Nat) (han:(a:Int)<(n:Int)) (c:UInt8) (hix:∀h,(str l)[a]'h=c) (hcl:Hid (isLetter c=false)) (hcd:Hid (isDig c=true)) (x:Nat) (hx:Hid (runTo isDig l a=x)) (R:Nat) (hR:Hid (numTo l a=R)) (haR:(a:Int)≤(R:Int)) (hRn:(R:Int)≤(n:Int))
  (T:ByteArray) (hT:(str l).extract a R=T) (V:Int) (O:Bool) (SG:Hid (∀w,Calls prog 71 #[.string T] w fun e w'=>e=.returned (.tuple #[.int .i64 V,.bool O])∧Below w.heap.size w w')) (w:World) :
  Calls prog 46 #[.string (str l),.int .i64 (a:Int)] w fun e w'=>OneRet 2 V (a:Int) T O w e w':=by
 have DT:Hid (∀(c:UInt8) w,Calls prog 69 #[.int .u8 (c.toNat:Int)] w fun e w'=>e=.returned (.bool (isDig c))∧w'=w):=Hd digit_ref
 have L0:Hid (∀w,Calls prog 68 #[.int .u8 (c.toNat:Int)] w fun e w'=>e=.returned (.bool false)∧w'=w):=Hd fun w=>by have:=letter_ref c w;rwa [hcl.out] at this
 have D0:Hid (∀w,Calls prog 69 #[.int .u8 (c.toNat:Int)] w fun e w'=>e=.returned (.bool true)∧w'=w):=Hd fun w=>by have:=digit_ref c w;rwa [hcd.out] at this
 have hb0:=Hd ((qB w.heap.size w).alloc (qL _) (.cells #[.int .i64 0,.string ⟨#[]⟩,.int .i64 0,.int .i64 0] 76))
 have hrm:=Hd (roomAt_new w 76)
 have HE:Hid (∀i x j:Nat,runTo isDig l j=x→(n≤j∨∃c,l[j]?=some c∧isDig c=false)→j=x):=Hd fun i x j h1 h2=>by
  rcases h2 with h2 | ⟨c,h2,h3⟩
  ·rw[runTo_end (by rw[hn.out];exact h2)] at h1;exact h1
  ·rw[runTo_stop h2 h3] at h1;exact h1
 go_enter Tryz.func46,Tryz.ntmps46
 go_wp2_with (first | (go_at_call 68;((with_reducible refine(L0.out _).mono ?_);rintro e w' ⟨rfl,rfl⟩)) | (go_at_call 69;((with_reducible refine(D0.out _).mono ?_);rintro e w' ⟨rfl,rfl⟩)))
 go_loop [7] (fun i=>∃j:Nat,a≤j∧j≤n∧Hid (runTo isDig l j=x)∧i=.int .i64 j) (fun i=>n-litLen i)
 case atStart=>exact⟨a,qL _,by omega,hx,rfl⟩
 case round =>
  obtain⟨j,haj,hj,hr,rfl⟩:=hrel
  rcases Nat.lt_or_ge j n with hlt | hge
  ·have q3:decide ((j:Int)<(n:Int))=true:=qT (by omega)
   have jn:(j:Int)<(n:Int):=by omega
   obtain⟨d,hdj⟩:=isBehind hn.out hlt
   have hix2:∀h,(str l)[j]'h=d:=fun h=>str_at l hdj h
   have HD:=Hd hdj
   clear hdj
   rcases hb2:isDig d with _ | _
   ·obtain rfl:j=x:=HE.out 0 x j hr.out (.inr ⟨d,HD.out,hb2⟩)
    have DD:Hid (∀w,Calls prog 69 #[.int .u8 (d.toNat:Int)] w fun e w'=>e=.returned (.bool false)∧w'=w):=Hd fun w=>by have:=digit_ref d w;rwa [hb2] at this
    clear hb2
    obtain⟨y1,hy1⟩:∃y1,y1=j+1:=⟨_,rfl⟩
    have e1:(j:Int)+1=(y1:Int):=by omega
    have HY1:=Hd hy1
    clear hy1
    by_cases hyn:(y1:Int)<(n:Int)
    ·have q4:decide ((y1:Int)<(n:Int))=true:=qT hyn
     have q5:decide (y1<n)=true:=qT (by omega)
     by_cases h46:d=46
     ·have k1:(d ==46)=true:=by simpa using h46
      have k2:((d.toNat:Int) ==46)=true:=by rw[h46];rfl
      have k3:(d.toNat:Int)=46:=by rw[h46];rfl
      have hdot:=Hd (numTo_dot (l:=l) (a:=a) (by rw[hx.out,HD.out,h46]))
      obtain⟨f,hf⟩:=isBehind hn.out (show y1<n by omega)
      have hix3:∀h,(str l)[y1]'h=f:=fun h=>str_at l hf h
      have HF:=Hd hf
      have D46:Hid (∀w,Calls prog 69 #[.int .u8 46] w fun e w'=>e=.returned (.bool false)∧w'=w):=Hd fun w=>by have:=DD.out w;rw[h46] at this;exact this
      clear hf h46
      rcases hb3:isDig f with _ | _
      ·have DF:Hid (∀w,Calls prog 69 #[.int .u8 (f.toNat:Int)] w fun e w'=>e=.returned (.bool false)∧w'=w):=Hd fun w=>by have:=digit_ref f w;rwa [hb3] at this
       obtain rfl:R=j:=by
        have:=hdot.out
        rw[hx.out,←HY1.out,runTo_stop HF.out hb3,if_neg (by omega)] at this
        rw[←hR.out];exact this
       clear hb3
       go_wp2_with (first | (go_at_call 69;((with_reducible refine(D46.out _).mono ?_);rintro e w' ⟨rfl,rfl⟩)) | (go_at_call 69;((with_reducible refine(DD.out _).mono ?_);rintro e w' ⟨rfl,rfl⟩)) | (go_at_call 69;((with_reducible refine(DF.out _).mono ?_);rintro e w' ⟨rfl,rfl⟩)) | (go_at_call 71;((with_reducible refine(SG.out _).mono ?_);rintro e w3 ⟨rfl,hb3⟩;obtain⟨r0,r1,r2,r3,f0,f1,f2,f3⟩:=hrm.out.below hb3 (by simp);have HB3:=Hd hb3;clear hb3)))
       exact bodyPost_ret (v:=.tuple #[.agg #[.int .i64 2,.string T,.int .i64 V,.int .i64 (a:Int)],.bool O]) (by simp[results,Tryz.results46,go_sem,r0,r1,r2,r3]) rfl ⟨rfl,below_four (hb0.out.trans (HB3.out.mono hb0.out.size)) (qL _) _ _ _ _⟩
      ·have DF:Hid (∀w,Calls prog 69 #[.int .u8 (f.toNat:Int)] w fun e w'=>e=.returned (.bool true)∧w'=w):=Hd fun w=>by have:=digit_ref f w;rwa [hb3] at this
       have hRy:Hid (runTo isDig l y1=R):=Hd (by
        have:=hdot.out
        have h2:=runTo_step HF.out hb3
        have h3:=runTo_ge isDig l (y1+1)
        rw[hx.out,←HY1.out,if_pos (by omega)] at this
        rw[←hR.out];exact this.symm)
       clear hb3
       go_wp2_with (first | (go_at_call 69;((with_reducible refine(D46.out _).mono ?_);rintro e w' ⟨rfl,rfl⟩)) | (go_at_call 69;((with_reducible refine(DD.out _).mono ?_);rintro e w' ⟨rfl,rfl⟩)) | (go_at_call 69;((with_reducible refine(DF.out _).mono ?_);rintro e w' ⟨rfl,rfl⟩)))
       go_loop [7] (fun i=>∃k:Nat,y1≤k∧k≤n∧Hid (runTo isDig l k=R)∧i=.int .i64 k) (fun i=>n-litLen i)
       case atStart=>exact⟨y1,qL _,by omega,hRy,rfl⟩
       case round =>
        obtain⟨k,hyk,hk,hrk,rfl⟩:=hrel
        rcases Nat.lt_or_ge k n with hkt | hkg
        ·have q6:decide ((k:Int)<(n:Int))=true:=qT (by omega)
         have kn:(k:Int)<(n:Int):=by omega
         obtain⟨h,hhk⟩:=isBehind hn.out hkt
         have hix4:∀h',(str l)[k]'h'=h:=fun h'=>str_at l hhk h'
         have HH:=Hd hhk
         clear hhk
         rcases hb4:isDig h with _ | _
         ·obtain rfl:k=R:=HE.out 0 R k hrk.out (.inr ⟨h,HH.out,hb4⟩)
          have DH:Hid (∀w,Calls prog 69 #[.int .u8 (h.toNat:Int)] w fun e w'=>e=.returned (.bool false)∧w'=w):=Hd fun w=>by have:=digit_ref h w;rwa [hb4] at this
          clear hb4
          go_wp2_with (first | (go_at_call 69;((with_reducible refine(DH.out _).mono ?_);rintro e w' ⟨rfl,rfl⟩)) | (go_at_call 71;((with_reducible refine(SG.out _).mono ?_);rintro e w3 ⟨rfl,hb3⟩;obtain⟨r0,r1,r2,r3,f0,f1,f2,f3⟩:=hrm.out.below hb3 (by simp);have HB3:=Hd hb3;clear hb3)))
          exact bodyPost_ret (v:=.tuple #[.agg #[.int .i64 2,.string T,.int .i64 V,.int .i64 (a:Int)],.bool O]) (by simp[results,Tryz.results46,go_sem,r0,r1,r2,r3]) rfl ⟨rfl,below_four (hb0.out.trans (HB3.out.mono hb0.out.size)) (qL _) _ _ _ _⟩
         ·have DH:Hid (∀w,Calls prog 69 #[.int .u8 (h.toNat:Int)] w fun e w'=>e=.returned (.bool true)∧w'=w):=Hd fun w=>by have:=digit_ref h w;rwa [hb4] at this
          have HB4:=Hd hb4
          clear hb4
          go_wp2_with ((go_at_call 69;((with_reducible refine(DH.out _).mono ?_);rintro e w' ⟨rfl,rfl⟩)))
          exact⟨⟨k+1,by omega,by omega,Hd (run_next HH.out hrk.out HB4.out),rfl⟩,by simp[litLen];omega⟩
        ·have q6:decide ((k:Int)<(n:Int))=false:=qF (by omega)
         obtain rfl:k=R:=HE.out 0 R k hrk.out (.inl hkg)
         go_wp2_with (first | (go_at_call 71;((with_reducible refine(SG.out _).mono ?_);rintro e w3 ⟨rfl,hb3⟩;obtain⟨r0,r1,r2,r3,f0,f1,f2,f3⟩:=hrm.out.below hb3 (by simp);have HB3:=Hd hb3;clear hb3)))
         exact bodyPost_ret (v:=.tuple #[.agg #[.int .i64 2,.string T,.int .i64 V,.int .i64 (a:Int)],.bool O]) (by simp[results,Tryz.results46,go_sem,r0,r1,r2,r3]) rfl ⟨rfl,below_four (hb0.out.trans (HB3.out.mono hb0.out.size)) (qL _) _ _ _ _⟩
     ·obtain⟨k1,k4,k3,k2,k5⟩:=byte_ne h46 46 rfl
      obtain rfl:R=j:=by rw[←hR.out,numTo_end (by rw[hx.out,HD.out];simpa using h46),hx.out]
      clear h46
      go_wp2_with (first | (go_at_call 69;((with_reducible refine(DD.out _).mono ?_);rintro e w' ⟨rfl,rfl⟩)) | (go_at_call 71;((with_reducible refine(SG.out _).mono ?_);rintro e w3 ⟨rfl,hb3⟩;obtain⟨r0,r1,r2,r3,f0,f1,f2,f3⟩:=hrm.out.below hb3 (by simp);have HB3:=Hd hb3;clear hb3)))
      exact bodyPost_ret (v:=.tuple #[.agg #[.int .i64 2,.string T,.int .i64 V,.int .i64 (a:Int)],.bool O]) (by simp[results,Tryz.results46,go_sem,r0,r1,r2,r3]) rfl ⟨rfl,below_four (hb0.out.trans (HB3.out.mono hb0.out.size)) (qL _) _ _ _ _⟩
    ·have q4:decide ((y1:Int)<(n:Int))=false:=qF hyn
     have q5:decide (y1<n)=false:=qF (by omega)
     obtain rfl:R=j:=by
      by_cases h46:d=46
      ·have hdot:=numTo_dot (l:=l) (a:=a) (by rw[hx.out,HD.out,h46])
       rw[hx.out,←HY1.out,runTo_end (by rw[hn.out];omega),if_neg (by omega)] at hdot
       rw[←hR.out];exact hdot
      ·rw[←hR.out,numTo_end (by rw[hx.out,HD.out];simpa using h46),hx.out]
     go_wp2_with (first | (go_at_call 69;((with_reducible refine(DD.out _).mono ?_);rintro e w' ⟨rfl,rfl⟩)) | (go_at_call 71;((with_reducible refine(SG.out _).mono ?_);rintro e w3 ⟨rfl,hb3⟩;obtain⟨r0,r1,r2,r3,f0,f1,f2,f3⟩:=hrm.out.below hb3 (by simp);have HB3:=Hd hb3;clear hb3)))
     exact bodyPost_ret (v:=.tuple #[.agg #[.int .i64 2,.string T,.int .i64 V,.int .i64 (a:Int)],.bool O]) (by simp[results,Tryz.results46,go_sem,r0,r1,r2,r3]) rfl ⟨rfl,below_four (hb0.out.trans (HB3.out.mono hb0.out.size)) (qL _) _ _ _ _⟩
   ·have DD:Hid (∀w,Calls prog 69 #[.int .u8 (d.toNat:Int)] w fun e w'=>e=.returned (.bool true)∧w'=w):=Hd fun w=>by have:=digit_ref d w;rwa [hb2] at this
    have HB2:=Hd hb2
    clear hb2
    go_wp2_with ((go_at_call 69;((with_reducible refine(DD.out _).mono ?_);rintro e w' ⟨rfl,rfl⟩)))
    exact⟨⟨j+1,by omega,by omega,Hd (run_next HD.out hr.out HB2.out),rfl⟩,by simp[litLen];omega⟩
  ·have q3:decide ((j:Int)<(n:Int))=false:=qF (by omega)
   obtain rfl:j=x:=HE.out 0 x j hr.out (.inl hge)
   obtain⟨y1,hy1⟩:∃y1,y1=j+1:=⟨_,rfl⟩
   have e1:(j:Int)+1=(y1:Int):=by omega
   have q4:decide ((y1:Int)<(n:Int))=false:=qF (by omega)
   have q5:decide (y1<n)=false:=qF (by omega)
   obtain rfl:R=j:=by rw[←hR.out,numTo_end (by rw[hx.out,List.getElem?_eq_none (by rw[hn.out];exact hge)];simp),hx.out]
   clear hy1
   go_wp2_with (first | (go_at_call 71;((with_reducible refine(SG.out _).mono ?_);rintro e w3 ⟨rfl,hb3⟩;obtain⟨r0,r1,r2,r3,f0,f1,f2,f3⟩:=hrm.out.below hb3 (by simp);have HB3:=Hd hb3;clear hb3)))
   exact bodyPost_ret (v:=.tuple #[.agg #[.int .i64 2,.string T,.int .i64 V,.int .i64 (a:Int)],.bool O]) (by simp[results,Tryz.results46,go_sem,r0,r1,r2,r3]) rfl ⟨rfl,below_four (hb0.out.trans (HB3.out.mono hb0.out.size)) (qL _) _ _ _ _⟩
end
section
open Go.RowKit
def RefSigned:Prop:=∀t:List UInt8,t.length≤30000→t.head?≠some 45→∀W,Calls prog 71 #[.string (str t)] W fun e w'=>e=.returned (.tuple #[.int .i64 ((parseL t).1:Int),.bool (parseL t).2])∧Below W.heap.size W w'
theorem ref_one (SG:RefSigned):RefOne:=fun l a ha hl W=>by
 obtain⟨c,hc⟩:∃c,l[a]?=some c:=⟨l[a],List.getElem?_eq_getElem ha⟩
 have hix:∀h,(str l)[a]'h=c:=fun h=>str_at l hc h
 have ho:oneL (l.drop a)=none↔(tokAt l a).kind=0:=(tokAt_kind l a).symm
 cases h1:isLetter c with
 | true =>
  have ht:=tokAt_name hc h1
  have hN:=nameN_le (l.drop a)
  have hdl:(l.drop a).length=l.length-a:=List.length_drop
  have hx:runTo isName l a=a+nameN (l.drop a):=runTo_name l a
  have e:(str l).extract a (runTo isName l a)=str ((l.drop a).take (nameN (l.drop a))):=by rw[slice_str,hx];congr 2;omega
  have C:∀B,B=decide ((nameN (l.drop a):Int)≤16)→Calls prog 46 #[.string (str l),.int .i64 (a:Int)] W fun e w'=>OneRet (if wordL ((l.drop a).take (nameN (l.drop a)))=true then 3 else 1) 0 a (str ((l.drop a).take (nameN (l.drop a)))) B W e w':=fun B hB =>
   one_name l _ (Hd rfl) (by omega) (str_size l) a (by omega) c hix (Hd h1) _ (Hd rfl) (by have:=runTo_ge isName l a;omega) (by have:=runTo_le isName (ql ha);omega) _ e _ (Hd rfl) (nameN (l.drop a)) (by omega) _ _ (Hd rfl) (Hd rfl) B (Hd hB) W
  constructor
  ·intro hne
   have h16:nameN (l.drop a)≤16:=Nat.le_of_not_lt fun hh=>hne (ho.2 (by rw[ht,if_neg (by omega)]))
   rw[ht,if_pos h16]
   have:=C true (qT (by omega)).symm
   split
   ·rw[if_pos (by assumption)] at this;exact this
   ·rw[if_neg (by assumption)] at this;exact this
  ·intro hnone
   have h16:¬nameN (l.drop a)≤16:=fun hh=>by
    have:=ho.1 hnone
    rw[ht,if_pos hh] at this
    simp only at this
    split at this <;> omega
   exact(C false (qF (by omega)).symm).mono fun e w' h=>⟨_,_,_,_,h⟩
 | false =>
  cases h2:isDig c with
  | true =>
   have ht:=tokAt_num hc h1 h2
   have hdl:(l.drop a).length=l.length-a:=List.length_drop
   have hN:=numN_le (l.drop a)
   have e:(str l).extract a (numTo l a)=str ((l.drop a).take (numN (l.drop a))):=by rw[slice_str];congr 2;unfold numTo;omega
   have hlen:((l.drop a).take (numN (l.drop a))).length≤30000:=by rw[List.length_take];omega
   have hhd:((l.drop a).take (numN (l.drop a))).head?≠some 45:=by
    rw[drop_cons hc]
    have hp:=numN_pos (l:=l.drop (a+1)) h2
    cases hk:numN (c :: l.drop (a+1)) with
    | zero=>omega
    | succ k =>
     rw[List.take_succ_cons,List.head?_cons]
     intro hh
     cases hh
     revert h2
     decide
   have C:=one_num l _ (Hd rfl) (by omega) (str_size l) a (by omega) c hix (Hd h1) (Hd h2) _ (Hd rfl) _ (Hd rfl) (by unfold numTo;omega) (by unfold numTo;omega) _ e _ _ (Hd fun w=>SG _ hlen hhd w) W
   constructor
   ·intro hne
    have hp:(parseL ((l.drop a).take (numN (l.drop a)))).2=true:=by
     cases hq:(parseL ((l.drop a).take (numN (l.drop a)))).2 with
     | true=>rfl
     | false=>exact absurd (ho.2 (by rw[ht,if_neg (by rw[hq];simp)])) hne
    rw[ht,if_pos hp]
    rw[hp] at C
    exact C
   ·intro hnone
    have hp:(parseL ((l.drop a).take (numN (l.drop a)))).2=false:=by
     cases hq:(parseL ((l.drop a).take (numN (l.drop a)))).2 with
     | false=>rfl
     | true =>
      have:=ho.1 hnone
      rw[ht,if_pos hq] at this
      simp at this
    rw[hp] at C
    exact C.mono fun e w' h=>⟨_,_,_,_,h⟩
  | false =>
   have ht:=tokAt_sign hc h1 h2
   have C:=one_sign l _ (Hd rfl) (by omega) (str_size l) a (by omega) c hix (Hd h1) (Hd h2) _ (Hd rfl) W
   have hs:oneL (l.drop a)=(signOf (l.drop a)).map fun s=>(4,s.length,0):=by
    unfold oneL
    rw[drop_cons hc]
    simp only[h1,h2,Bool.false_eq_true,if_false]
   constructor
   ·intro hne
    cases hq:signOf (l.drop a) with
    | none=>exact absurd (by rw[hs,hq];rfl) hne
    | some s =>
     rw[hq] at C ht
     have htx:(l.drop a).take s.length=s:=prefix_take (signOf_mem hq).2
     have ht2:tokAt l a=⟨4,s,0,a⟩:=by rw[ht];show Tok.mk 4 ((l.drop a).take s.length) 0 a=_;rw[htx]
     rw[ht2]
     exact C.mono fun e w' h=>by
      rcases h with ⟨s',h3,h4⟩ | ⟨h3,_⟩
      ·cases h3;exact h4
      ·cases h3
   ·intro hnone
    cases hq:signOf (l.drop a) with
    | some s=>rw[hs,hq] at hnone;cases hnone
    | none =>
     rw[hq] at C
     exact C.mono fun e w' h=>by
      rcases h with ⟨s',h3,_⟩ | ⟨_,h4⟩
      ·cases h3
      ·exact⟨_,_,_,_,h4⟩
end
section
open Go.RowKit
theorem st_take {l:List UInt8} {k:Nat} {c:UInt8} (h:l[k]?=some c):st (l.take (k+1))=step (st (l.take k)) c:=by rw[take_at h,st_snoc]
theorem not_okay {l:List UInt8} {k:Nat} {c:UInt8} (h:l[k]?=some c) (hc:okay c=false):litR l=false:=by
 have:l.all okay=false:=by
  rw[List.all_eq_false]
  exact⟨c,List.mem_of_getElem? h,by rw[hc];simp⟩
 unfold litR
 rw[this]
 rfl
theorem lit_core (l:List UInt8) (n:Nat) (hn:l.length=n) (hl:(n:Int)≤30000) (R:Bool) (hR:R=litR l) (w:World) :
  Calls prog 82 #[.string (str l)] w fun e w'=>e=.returned (.bool R)∧w'=w:=by
 have hs:=str_size l
 rw[hn] at hs
 have HN:=Hd hn
 have HR:=Hd hR
 clear hn hR
 go_enter Tryz.func82,Tryz.ntmps82
 go_wp2_with fail
 go_loop [6,3,4,5] (fun i a b d=>∃k A B D:Nat,k≤n∧Hid (st (l.take k)=(A,B,D))∧Hid ((l.take k).all okay=true)∧(A:Int)≤30000∧(B:Int)≤30000∧(D:Int)≤30000∧i=.int .i64 k∧a=.int .i64 A∧b=.int .i64 B∧d=.int .i64 D) (fun i _ _ _=>n-litLen i)
 case atStart=>exact⟨0,0,0,0,by omega,Hd rfl,Hd rfl,by omega,by omega,by omega,rfl,rfl,rfl,rfl⟩
 case round =>
  obtain⟨k,A,B,D,hk,hst,hok,hA,hB,hD,rfl,rfl,rfl,rfl⟩:=hrel
  rcases Nat.lt_or_ge k n with hlt | hge
  ·obtain⟨c,hc⟩:∃c,l[k]?=some c:=⟨l[k]'(by have:=HN.out;omega),List.getElem?_eq_getElem _⟩
   have hix:∀h,(str l)[k]'h=c:=fun h=>str_at l hc h
   have q3:decide ((k:Int)<(n:Int))=true:=qT (by omega)
   have ST:=Hd (st_take hc)
   have T:=Hd (take_at hc)
   have C:=Hd hc
   have hle:=Hd (st_le (l.take (k+1)))
   have hlen:Hid ((l.take (k+1)).length≤30000):=Hd (by rw[List.length_take];have:=HN.out;omega)
   have cl:(c.toNat:Int)≤255:=by have:=c.toNat_lt;omega
   clear hc
   by_cases c46:c=46
   ·subst c46
    have e46:((46:UInt8).toNat:Int)=46:=rfl
    have q4:decide (((46:UInt8).toNat:Int)=46)=true:=by decide
    go_wp2_with fail
    have hs2:st (l.take (k+1))=(A,B,D+1):=by rw[ST.out,hst.out];rfl
    have hb:=hle.out
    rw[hs2] at hb
    have hb':A+B+(D+1)=(l.take (k+1)).length:=hb
    have hl2:=hlen.out
    refine⟨⟨k+1,A,B,D+1,by omega,Hd hs2,Hd ?_,by omega,by omega,by omega,rfl,rfl,rfl,rfl⟩,by simp[litLen];omega⟩
    rw[T.out,List.all_append,hok.out];rfl
   ·have n46:¬(c.toNat:Int)=46:=fun e=>c46 (UInt8.toNat_inj.1 (by show c.toNat=46;omega))
    have q4:decide ((c.toNat:Int)=46)=false:=qF n46
    by_cases d1:(c.toNat:Int)<48
    ·have d1':decide ((c.toNat:Int)<48)=true:=qT d1
     go_wp2_with fail
     go_ret
     exact⟨by rw[HR.out,not_okay C.out (by unfold okay isDig;simp;exact⟨c46,by omega⟩)];rfl,rfl⟩
    ·have d1':decide ((c.toNat:Int)<48)=false:=qF d1
     by_cases d2:(57:Int)<(c.toNat:Int)
     ·have d2':decide ((57:Int)<(c.toNat:Int))=true:=qT d2
      go_wp2_with fail
      go_ret
      exact⟨by rw[HR.out,not_okay C.out (by unfold okay isDig;simp;exact⟨c46,by omega⟩)];rfl,rfl⟩
     ·have d2':decide ((57:Int)<(c.toNat:Int))=false:=qF d2
      have hok2:(l.take (k+1)).all okay=true:=by rw[T.out,List.all_append,hok.out];simp[okay];right;exact isDig_iff.2 (by omega)
      have HOK:=Hd hok2
      clear hok2
      by_cases d0:D=0
      ·subst d0
       go_wp2_with fail
       have hs2:st (l.take (k+1))=(A+1,B,0):=by rw[ST.out,hst.out];unfold step;rw[if_neg c46,if_pos rfl]
       have hb:=hle.out
       rw[hs2] at hb
       have hb':A+1+B+0=(l.take (k+1)).length:=hb
       have hl2:=hlen.out
       exact⟨⟨k+1,A+1,B,0,by omega,Hd hs2,HOK,by omega,by omega,by omega,rfl,rfl,rfl,rfl⟩,by simp[litLen];omega⟩
      ·have q5:decide ((D:Int)=0)=false:=qF (by omega)
       have q6:¬(D:Int)=0:=by omega
       go_wp2_with fail
       have hs2:st (l.take (k+1))=(A,B+1,D):=by rw[ST.out,hst.out];unfold step;rw[if_neg c46,if_neg d0]
       have hb:=hle.out
       rw[hs2] at hb
       have hb':A+(B+1)+D=(l.take (k+1)).length:=hb
       have hl2:=hlen.out
       exact⟨⟨k+1,A,B+1,D,by omega,Hd hs2,HOK,by omega,by omega,by omega,rfl,rfl,rfl,rfl⟩,by simp[litLen];omega⟩
  ·have q3:decide ((k:Int)<(n:Int))=false:=qF (by omega)
   have hst':st l=(A,B,D):=by have:=hst.out;rw[List.take_of_length_le (by rw[HN.out];exact hge)] at this;exact this
   have hok':l.all okay=true:=by have:=hok.out;rw[List.take_of_length_le (by rw[HN.out];exact hge)] at this;exact this
   have hR:R=(decide (1≤A)&&(decide (A≤10)&&(decide (D≤1)&&((!(decide (D=1))||(decide (1≤B)&&decide (B≤40)))&&(decide (A=1)||!(l.head? ==some 48)))))):=by
    rw[HR.out];unfold litR;rw[hst',hok',Bool.true_and]
   have hAn:A+B+D=n:=by have:=st_le l;rw[hst'] at this;have h2:A+B+D=l.length:=this;rw[h2,HN.out]
   clear HR hst hok hst' hok'
   have RE:=Hd hR
   clear hR
   by_cases t1:(A:Int)<1
   ·have u1:decide ((A:Int)<1)=true:=qT t1
    have hv:R=false:=by
     refine Bool.eq_false_iff.2 fun hT=>?_
     rw[RE.out] at hT
     simp only[Bool.and_eq_true,decide_eq_true_eq,Bool.or_eq_true,Bool.not_eq_true',decide_eq_false_iff_not] at hT
     omega
    subst hv
    go_wp2_with fail
    go_ret
    exact⟨rfl,rfl⟩
   ·have u1:decide ((A:Int)<1)=false:=qF t1
    by_cases t2:(10:Int)<(A:Int)
    ·have u2:decide ((10:Int)<(A:Int))=true:=qT t2
     have hv:R=false:=by
      refine Bool.eq_false_iff.2 fun hT=>?_
      rw[RE.out] at hT
      simp only[Bool.and_eq_true,decide_eq_true_eq,Bool.or_eq_true,Bool.not_eq_true',decide_eq_false_iff_not] at hT
      omega
     subst hv
     go_wp2_with fail
     go_ret
     exact⟨rfl,rfl⟩
    ·have u2:decide ((10:Int)<(A:Int))=false:=qF t2
     by_cases t3:(1:Int)<(D:Int)
     ·have u3:decide ((1:Int)<(D:Int))=true:=qT t3
      have hv:R=false:=by
       refine Bool.eq_false_iff.2 fun hT=>?_
       rw[RE.out] at hT
       simp only[Bool.and_eq_true,decide_eq_true_eq,Bool.or_eq_true,Bool.not_eq_true',decide_eq_false_iff_not] at hT
       omega
      subst hv
      go_wp2_with fail
      go_ret
      exact⟨rfl,rfl⟩
     ·have u3:decide ((1:Int)<(D:Int))=false:=qF t3
      by_cases t4:(D:Int)=1
      ·have u4:decide ((D:Int)=1)=true:=qT t4
       by_cases t5:(B:Int)<1
       ·have u5:decide ((B:Int)<1)=true:=qT t5
        have hv:R=false:=by
         refine Bool.eq_false_iff.2 fun hT=>?_
         rw[RE.out] at hT
         simp only[Bool.and_eq_true,decide_eq_true_eq,Bool.or_eq_true,Bool.not_eq_true',decide_eq_false_iff_not] at hT
         omega
        subst hv
        go_wp2_with fail
        go_ret
        exact⟨rfl,rfl⟩
       ·have u5:decide ((B:Int)<1)=false:=qF t5
        by_cases t6:(40:Int)<(B:Int)
        ·have u6:decide ((40:Int)<(B:Int))=true:=qT t6
         have hv:R=false:=by
          refine Bool.eq_false_iff.2 fun hT=>?_
          rw[RE.out] at hT
          simp only[Bool.and_eq_true,decide_eq_true_eq,Bool.or_eq_true,Bool.not_eq_true',decide_eq_false_iff_not] at hT
          omega
         subst hv
         go_wp2_with fail
         go_ret
         exact⟨rfl,rfl⟩
        ·have u6:decide ((40:Int)<(B:Int))=false:=qF t6
         by_cases t7:(A:Int)=1
         ·have u7:decide ((A:Int)=1)=true:=qT t7
          have hv:R=true:=by
           rw[RE.out]
           simp only[Bool.and_eq_true,decide_eq_true_eq,Bool.or_eq_true,Bool.not_eq_true',decide_eq_false_iff_not]
           exact⟨by omega,by omega,by omega,by omega,Or.inl (by omega)⟩
          subst hv
          go_wp2_with fail
          go_ret
          exact⟨rfl,rfl⟩
         ·have u7:decide ((A:Int)=1)=false:=qF t7
          have m7:((A:Int) ==1)=false:=beq_false_of_ne t7
          obtain⟨c,l',hl'⟩:∃c l',l=c :: l':=by
           cases l with
           | nil=>have:=HN.out;simp at this;omega
           | cons c l'=>exact⟨c,l',rfl⟩
          have hix:∀h,(str l)[0]'h=c:=fun h=>str_at l (by rw[hl'];rfl) h
          by_cases h48:c=48
          ·have HC:=Hd (show(l.head? ==some 48)=true by rw[hl',h48];rfl)
           clear hl'
           subst h48
           have hv:R=false:=by
            refine Bool.eq_false_iff.2 fun hT=>?_
            rw[RE.out,HC.out] at hT
            simp only[Bool.not_true,Bool.or_false,Bool.and_eq_true,decide_eq_true_eq] at hT
            omega
           subst hv
           go_wp2_with fail
           go_ret
           exact⟨rfl,rfl⟩
          ·have HC:=Hd (show(l.head? ==some 48)=false by rw[hl'];simpa using h48)
           have n48:¬(c.toNat:Int)=48:=fun e=>h48 (UInt8.toNat_inj.1 (by show c.toNat=48;omega))
           have m48:((c.toNat:Int) !=48)=true:=bne_iff_ne.2 n48
           clear hl'
           have hv:R=true:=by
            rw[RE.out,HC.out]
            simp only[Bool.not_false,Bool.or_true,Bool.and_true,Bool.and_eq_true,decide_eq_true_eq,Bool.or_eq_true,Bool.not_eq_true',decide_eq_false_iff_not]
            exact⟨by omega,by omega,by omega,by omega⟩
           subst hv
           go_wp2_with fail
           go_ret
           exact⟨rfl,rfl⟩
      ·have u4:decide ((D:Int)=1)=false:=qF t4
       by_cases t8:(A:Int)=1
       ·have u8:decide ((A:Int)=1)=true:=qT t8
        have hv:R=true:=by
         rw[RE.out]
         simp only[Bool.and_eq_true,decide_eq_true_eq,Bool.or_eq_true,Bool.not_eq_true',decide_eq_false_iff_not]
         exact⟨by omega,by omega,by omega,by omega,Or.inl (by omega)⟩
        subst hv
        go_wp2_with fail
        go_ret
        exact⟨rfl,rfl⟩
       ·have u8:decide ((A:Int)=1)=false:=qF t8
        have m8:((A:Int) ==1)=false:=beq_false_of_ne t8
        obtain⟨c,l',hl'⟩:∃c l',l=c :: l':=by
         cases l with
         | nil=>have:=HN.out;simp at this;omega
         | cons c l'=>exact⟨c,l',rfl⟩
        have hix:∀h,(str l)[0]'h=c:=fun h=>str_at l (by rw[hl'];rfl) h
        by_cases h48:c=48
        ·have HC:=Hd (show(l.head? ==some 48)=true by rw[hl',h48];rfl)
         clear hl'
         subst h48
         have hv:R=false:=by
          refine Bool.eq_false_iff.2 fun hT=>?_
          rw[RE.out,HC.out] at hT
          simp only[Bool.not_true,Bool.or_false,Bool.and_eq_true,decide_eq_true_eq] at hT
          omega
         subst hv
         go_wp2_with fail
         go_ret
         exact⟨rfl,rfl⟩
        ·have HC:=Hd (show(l.head? ==some 48)=false by rw[hl'];simpa using h48)
         have n48:¬(c.toNat:Int)=48:=fun e=>h48 (UInt8.toNat_inj.1 (by show c.toNat=48;omega))
         have m48:((c.toNat:Int) !=48)=true:=bne_iff_ne.2 n48
         clear hl'
         have hv:R=true:=by
          rw[RE.out,HC.out]
          simp only[Bool.not_false,Bool.or_true,Bool.and_true,Bool.and_eq_true,decide_eq_true_eq,Bool.or_eq_true,Bool.not_eq_true',decide_eq_false_iff_not]
          exact⟨by omega,by omega,by omega,by omega⟩
         subst hv
         go_wp2_with fail
         go_ret
         exact⟨rfl,rfl⟩
theorem lit_ref (l:List UInt8) (hl:l.length≤30000) (w:World) :
  Calls prog 82 #[.string (str l)] w fun e w'=>e=.returned (.bool (litR l))∧w'=w:=lit_core l _ rfl (by omega) _ rfl w
end
section
open Go.RowKit
theorem litR_lit {l:List UInt8} (h:litR l=true):litL l=true:=by
 unfold litR at h
 simp only[Bool.and_eq_true,decide_eq_true_eq,Bool.or_eq_true,Bool.not_eq_true',decide_eq_false_iff_not] at h
 obtain⟨h1,h2,h3,h4,h5,h6⟩:=h
 rcases part_cases l with hp | ⟨a,b,rfl,hp⟩
 ·have hs:=st_plain l hp 0 0
  have e1:(st l).1=l.length:=by unfold st;rw[hs];show 0+l.length=_;omega
  rw[e1] at h2 h3 h6
  unfold litL digitsL
  rw[ahead_none l hp,okay_dig h1 hp,qT h2,qT h3,show pointed l=false by unfold pointed;simpa using hp]
  simp only[Bool.and_self,Bool.true_and,Bool.not_false,Bool.true_or,Bool.and_true,Bool.not_eq_true',Bool.and_eq_false_iff,decide_eq_false_iff_not]
  rcases h6 with h6 | h6
  ·left;omega
  ·right;exact h6
 ·have hs:=st_plain a hp 0 0
  have e0:st (a++46 :: b)=b.foldl step (a.length,0,1):=by
   unfold st
   rw[List.foldl_append,hs,List.foldl_cons,show step (0+a.length,0,0) 46=(a.length,0,1) by unfold step;rw[if_pos rfl];simp]
  have hmono:(b.foldl step (a.length,0,1)).2.2=1:=by
   have:=st_le (a++46 :: b)
   rw[e0] at this h4
   rcases Nat.eq_zero_or_pos (b.foldl step (a.length,0,1)).2.2 with h0 | h0
   ·exfalso
    have hge:∀(l:List UInt8) (s:Nat×Nat×Nat),s.2.2≤(l.foldl step s).2.2:=by
     intro l
     induction l with
     | nil=>intro s;exact qL _
     | cons c l ih =>
      intro s
      rw[List.foldl_cons]
      refine Nat.le_trans ?_ (ih _)
      unfold step
      split
      ·exact Nat.le_succ _
      ·split <;> exact qL _
    have:=hge b (a.length,0,1)
    rw[h0] at this
    exact absurd this (by show ¬1≤0;omega)
   ·omega
  obtain⟨hb,hbs⟩:=st_behind b a.length 0 1 (qL _) hmono
  rw[e0,hbs] at h2 h3 h5 h6
  have h2':1≤a.length:=h2
  have h3':a.length≤10:=h3
  have h5':1≤b.length∧b.length≤40:=by
   rcases h5 with h5 | h5
   ·exact absurd rfl h5
   ·obtain⟨p1,p2⟩:=h5
    have p1':1≤0+b.length:=p1
    have p2':0+b.length≤40:=p2
    omega
  rw[List.all_append,List.all_cons,Bool.and_eq_true,Bool.and_eq_true] at h1
  unfold litL digitsL
  rw[ahead_point a b hp,behind_point a b hp,okay_dig h1.1 hp,okay_dig h1.2.2 hb,qT h2',qT h3',qT h5'.1,qT h5'.2]
  simp only[Bool.and_self,Bool.true_and,Bool.or_true,Bool.and_true,Bool.not_eq_true',Bool.and_eq_false_iff,decide_eq_false_iff_not]
  rcases h6 with h6 | h6
  ·left
   have h6':a.length=1:=h6
   omega
  ·right
   cases a with
   | nil=>simp at h2'
   | cons c a=>exact h6
theorem st_tail (l:List UInt8) (h:46 ∉ l) (a b:Nat):l.foldl step (a,b,1)=(a,b+l.length,1):=by
 induction l generalizing b with
 | nil=>rfl
 | cons c l ih =>
  simp only[List.mem_cons,not_or] at h
  rw[List.foldl_cons,show step (a,b,1) c=(a,b+1,1) by unfold step;rw[if_neg (Ne.symm h.1),if_neg (by simp)],ih h.2,List.length_cons]
  simp only[Prod.mk.injEq,and_true,true_and]
  omega
theorem dig_okay {l:List UInt8} (h:l.all isDig=true):l.all okay=true∧46 ∉ l:=by
 refine⟨List.all_eq_true.2 fun x hx=>by unfold okay;rw[List.all_eq_true.1 h x hx];simp,fun hx=>?_⟩
 have:=List.all_eq_true.1 h 46 hx
 revert this
 decide
theorem lit_litR {l:List UInt8} (h:litL l=true):litR l=true:=by
 unfold litL digitsL at h
 simp only[Bool.and_eq_true,decide_eq_true_eq,Bool.or_eq_true,Bool.not_eq_true',Bool.and_eq_false_iff,decide_eq_false_iff_not] at h
 obtain⟨⟨h1,h2,h3⟩,h4,h5⟩:=h
 rcases part_cases l with hp | ⟨a,b,rfl,hp⟩
 ·rw[ahead_none l hp] at h1 h2 h3 h4
  have hs:=st_plain l hp 0 0
  have e1:st l=(l.length,0,0):=by unfold st;rw[hs];simp
  unfold litR
  rw[e1,(dig_okay h3).1]
  simp only[Bool.true_and,Bool.and_eq_true,decide_eq_true_eq,Bool.or_eq_true,Bool.not_eq_true',decide_eq_false_iff_not]
  refine⟨h1,h2,by omega,.inl (by omega),?_⟩
  rcases h4 with h4 | h4
  ·left;omega
  ·right;exact h4
 ·rw[ahead_point a b hp,behind_point a b hp] at *
  have hpt:pointed (a++46 :: b)=true:=by unfold pointed;simp
  rw[hpt] at h5
  have h5':1≤b.length∧b.length≤40∧b.all isDig=true:=by
   rcases h5 with h5 | h5
   ·cases h5
   ·exact h5
  obtain⟨h6,h7,h8⟩:=h5'
  have hs:=st_plain a hp 0 0
  have e0:st (a++46 :: b)=(a.length,b.length,1):=by
   unfold st
   rw[List.foldl_append,hs,List.foldl_cons,show step (0+a.length,0,0) 46=(a.length,0,1) by unfold step;rw[if_pos rfl];simp,st_tail b (dig_okay h8).2]
   simp
  unfold litR
  rw[e0,List.all_append,List.all_cons,(dig_okay h3).1,(dig_okay h8).1]
  have h46:okay 46=true:=rfl
  rw[h46]
  simp only[Bool.and_self,Bool.true_and,Bool.and_eq_true,decide_eq_true_eq,Bool.or_eq_true,Bool.not_eq_true',decide_eq_false_iff_not]
  refine⟨h1,h2,by omega,.inr ⟨h6,h7⟩,?_⟩
  rcases h4 with h4 | h4
  ·left;omega
  ·right
   cases a with
   | nil=>simp at h1
   | cons c a=>exact h4
theorem litR_litL (l:List UInt8):litR l=litL l:=by
 cases h:litL l with
 | true=>exact lit_litR h
 | false =>
  cases h2:litR l with
  | false=>rfl
  | true=>rw[litR_lit h2] at h;cases h
def RefSize:Prop:=∀t:List UInt8,litL t=true→∀W,Calls prog 83 #[.string (str t)] W fun e w'=>e=.returned (.tuple #[.int .u64 ((readL t).1:Int),.bool (!(readL t).2)])∧Below W.heap.size W w'
theorem signed_none (t:List UInt8) (n:Nat) (hs:(str t).size=n) (n0:0<n) (c:UInt8) (hix:∀h,(str t)[0]'h=c) (k2:((c.toNat:Int) ==45)=false) (w:World)
  (L:Hid (∀w,Calls prog 82 #[.string (str t)] w fun e w'=>e=.returned (.bool false)∧w'=w)) :
  Calls prog 71 #[.string (str t)] w fun e w'=>e=.returned (.tuple #[.int .i64 0,.bool false])∧Below w.heap.size w w':=by
 go_enter Tryz.func71,Tryz.ntmps71
 go_wp2_with (go_at_call 82;((with_reducible refine(L.out _).mono ?_);rintro e w' ⟨rfl,rfl⟩))
 go_ret2
 exact⟨rfl,qB _ _⟩
theorem signed_some (t:List UInt8) (n:Nat) (hs:(str t).size=n) (n0:0<n) (c:UInt8) (hix:∀h,(str t)[0]'h=c) (k2:((c.toNat:Int) ==45)=false) (w:World)
  (L:Hid (∀w,Calls prog 82 #[.string (str t)] w fun e w'=>e=.returned (.bool true)∧w'=w))
  (Z:Nat) (ov:Bool) (hz:ov=true∨(Z:Int)≤9223372036854775808) (S:Hid (∀w,Calls prog 83 #[.string (str t)] w fun e w'=>e=.returned (.tuple #[.int .u64 (Z:Int),.bool ov])∧Below w.heap.size w w')) :
  Calls prog 71 #[.string (str t)] w fun e w'=>e=.returned (.tuple #[.int .i64 (if ov=false∧Z≤9223372036854775807 then(Z:Int) else 0),.bool (decide (ov=false∧Z≤9223372036854775807))])∧Below w.heap.size w w':=by
 cases ov with
 | true =>
  rw[if_neg (by simp)]
  go_enter Tryz.func71,Tryz.ntmps71
  go_wp2_with (first | (go_at_call 82;((with_reducible refine(L.out _).mono ?_);rintro e w' ⟨rfl,rfl⟩)) | (go_at_call 83;((with_reducible refine(S.out _).mono ?_);rintro e w1 ⟨rfl,hb⟩;have HB:=Hd hb;clear hb)))
  go_ret2
  exact⟨by simp,HB.out⟩
 | false =>
  have hz2:(Z:Int)≤9223372036854775808:=by rcases hz with h | h;cases h;exact h
  clear hz
  by_cases hq:(Z:Int)≤9223372036854775807
  ·have q1:((Z:Int) ==9223372036854775808)=false:=beq_false_of_ne (by omega)
   have qn:¬(Z:Int)=9223372036854775808:=by omega
   rw[if_pos ⟨rfl,by omega⟩,qT (by exact⟨rfl,by omega⟩)]
   go_enter Tryz.func71,Tryz.ntmps71
   go_wp2_with (first | (go_at_call 82;((with_reducible refine(L.out _).mono ?_);rintro e w' ⟨rfl,rfl⟩)) | (go_at_call 83;((with_reducible refine(S.out _).mono ?_);rintro e w1 ⟨rfl,hb⟩;have HB:=Hd hb;clear hb)))
   go_ret2
   exact⟨rfl,HB.out⟩
  ·have hq2:(Z:Int)=9223372036854775808:=by omega
   have q1:((Z:Int) ==9223372036854775808)=true:=by rw[hq2];rfl
   rw[if_neg (by rintro⟨_,h⟩;omega),qF (by rintro⟨_,h⟩;omega)]
   clear hq
   go_enter Tryz.func71,Tryz.ntmps71
   go_wp2_with (first | (go_at_call 82;((with_reducible refine(L.out _).mono ?_);rintro e w' ⟨rfl,rfl⟩)) | (go_at_call 83;((with_reducible refine(S.out _).mono ?_);rintro e w1 ⟨rfl,hb⟩;have HB:=Hd hb;clear hb)))
   go_ret2
   exact⟨rfl,HB.out⟩
theorem signed_nil (w:World) (L:Hid (∀w,Calls prog 82 #[.string ⟨#[]⟩] w fun e w'=>e=.returned (.bool false)∧w'=w)) :
  Calls prog 71 #[.string ⟨#[]⟩] w fun e w'=>e=.returned (.tuple #[.int .i64 0,.bool false])∧Below w.heap.size w w':=by
 go_enter Tryz.func71,Tryz.ntmps71
 go_wp2_with (go_at_call 82;((with_reducible refine(L.out _).mono ?_);rintro e w' ⟨rfl,rfl⟩))
 go_ret2
 exact⟨rfl,qB _ _⟩
theorem parse_none {t:List UInt8} (h:litL t=false):parseL t=(0,false):=by
 have:readL t=(0,false):=by unfold readL;rw[if_neg (by rw[h];simp)]
 unfold parseL
 rw[this]
 simp
theorem ref_signed (SZ:RefSize):RefSigned:=fun t ht hh W=>by
 have L:Hid (∀w,Calls prog 82 #[.string (str t)] w fun e w'=>e=.returned (.bool (litL t))∧w'=w):=Hd fun w=>by rw[←litR_litL];exact lit_ref t ht w
 cases t with
 | nil=>rw[parse_none (by rfl)];exact signed_nil W L
 | cons c t =>
  have hc:c≠45:=fun e=>hh (by rw[e];rfl)
  have hix:∀h,(str (c :: t))[0]'h=c:=fun h=>str_at (c :: t) (j:=0) rfl h
  have k2:=(byte_ne hc 45 rfl).2.2.2.1
  cases hl:litL (c :: t) with
  | false =>
   rw[parse_none hl]
   rw[hl] at L
   exact signed_none (c :: t) _ (str_size _) (by simp) c hix k2 W L
  | true =>
   rw[hl] at L
   have S:=Hd (SZ (c :: t) hl)
   refine(signed_some (c :: t) _ (str_size _) (by simp) c hix k2 W L (readL (c :: t)).1 (!(readL (c :: t)).2) ?_ S).mono fun e w' ⟨he,hb⟩=>⟨?_,hb⟩
   ·cases h2:(readL (c :: t)).2 with
    | false=>left;rfl
    | true =>
     right
     unfold readL at h2 ⊢
     split at h2
     ·rename_i h3;rw[if_pos h3];simp only[decide_eq_true_eq] at h2;show((sizeL (c :: t):Nat):Int)≤_;omega
     ·cases h2
   ·rw[he]
    unfold parseL
    cases h2:(readL (c :: t)).2 with
    | false=>simp
    | true =>
     by_cases h3:(readL (c :: t)).1≤9223372036854775807
     ·simp[h3]
     ·simp[h3]
end
section
open Go.RowKit
theorem int_info:(prog.info? 3).map (fun i=>(i.zero,i.size,i.bytes))=some (some (.int .i64 0),1,8):=by kernel_rfl
theorem wpList_append_int (w:World) {ops:Array Oper} {rest:List Oper} {o:Oper} {a:Act} {Q:Exit→Act→World→Prop}
  (hg:o.guard=none) (s x:Operand) (hop:o.op=Op.call { callee:=Callee.builtin Builtin.append,args:=#[s,x],argTypes:=#[44,44] })
  (base:Nat) (v:Value) (k:Nat) (xs:List Value) (hs:a.eval s=v) (hown:w.ownsRow base 3 1 v k xs) (ad:Addr) (news:List Value) (hx:a.eval x=.slice (some ad) 1 1) (hn:news.length=1*1)
  (hc:∀j u,news[j]?=some u→w.cell? (ad.add j)=some u) (h1c:∀u ∈ news,u.oneCell'=true) (hk:k≤40000) (b3:base≤w.heap.size)
  (hK:∀v' w',w'.ownsRow base 3 1 v' (k+1) (xs++news)→w.grownBy w' v.ownBlock→wpList prog ops Q rest (a.put o.dst v') w') :
  wpList prog ops Q (o :: rest) a w:=by
 obtain⟨i,h2,h3,h4,h5⟩:=info_parts int_info
 refine wpList_plain hg fun K hK'=>?_
 obtain⟨v',w',hrun,r1,r2,_⟩:=run_append_own (P:=prog) w base 44 o.type 3 i _ 1 8 Tryz.underlying44 h2 h3 h4 h5 rfl (by decide) v k xs hown ad 1 1 news hn hc h1c (by unfold maxLen;omega) (by omega) b3
 unfold Oper.wp execOp
 simp only[hop,resolve,invoke,builtin,Sem.run_bind,Sem.run_pure,Result.andThen_ok,List.map_toArray,List.map_cons,List.map_nil,hs,hx,hrun]
 exact hK' _ _ (hK v' w' r1 r2)
def cellI (c:UInt8):Value:=.int .i64 ((c.toNat-48:Nat):Int)
def IRow (w:World) (B:Nat) (l:List UInt8):Prop :=
 ∀(j:Nat) (x:UInt8),l[j]?=some x→w.cell? ⟨B,j,none⟩=some (cellI x)∧w.frozen? ⟨B,j,none⟩=false
theorem irow_set {w:World} {B:Nat} {l:List UInt8} (h:IRow w B l) (j:Nat) (x:UInt8) (hj:j<l.length):IRow (w.setCell ⟨B,j,none⟩ (cellI x)) B (l.set j x):=fun i y hy=>by
 obtain⟨x0,h0⟩:∃x0,l[j]?=some x0:=⟨l[j],List.getElem?_eq_getElem hj⟩
 refine⟨?_,by
  rw[World.frozen?_setCell]
  exact(h i (l[i]'(by have:=(List.getElem?_eq_some_iff.1 hy).1;simpa using this)) (List.getElem?_eq_getElem _)).2⟩
 by_cases e:i=j
 ·subst e
  rw[World.cell?_setCell_same _ _ _ (h i x0 h0).1]
  rw[List.getElem?_set_self hj] at hy
  cases hy
  rfl
 ·rw[World.cell?_setCell_other _ _ _ _ (by simp)]
  rw[List.getElem?_set_ne (Ne.symm e)] at hy
  exact(h i y hy).1
theorem irow_next {w:World} {R:Nat} {m:List UInt8} {j:Nat} {x:UInt8} (h:IRow w R (m.take (j+1)++dbl (m.drop (j+1)))) (hx:m[j]?=some x) (r:Nat) (hr:r=(2*(x.toNat-48)+cry (m.drop (j+1))) % 10) :
  IRow (w.setCell ⟨R,j,none⟩ (.int .i64 (r:Int))) R (m.take j++dbl (m.drop j)):=by
 have hj:j<m.length:=(List.getElem?_eq_some_iff.1 hx).1
 have hd:=drop_at hx
 have h4:=irow_set h j (dg r) (by simp;omega)
 have hv:cellI (dg r)=.int .i64 (r:Int):=by unfold cellI;rw[dg_val (by omega),Nat.add_sub_cancel_left]
 rw[hv] at h4
 have e1:(m.take (j+1)++dbl (m.drop (j+1))).set j (dg r)=m.take j++dbl (m.drop j):=by
  rw[take_at hx,List.append_assoc,List.set_append_right _ _ (by simp;omega),hd]
  have:j-(m.take j).length=0:=by simp;omega
  rw[this,hr]
  rfl
 rw[e1] at h4
 exact h4
theorem irow_of_owns {w:World} {base g n cap:Nat} {l:List UInt8} (h:w.ownsRow base 3 1 (.slice (some ⟨g,0,none⟩) n cap) n (l.map cellI)):IRow w g l:=fun j x hx=>by
 refine⟨?_,?_⟩
 ·have:=h.cells (g:=g) rfl j (cellI x) (by rw[List.getElem?_map,hx];rfl)
  have e:(⟨g,0,none⟩:Addr).add j=⟨g,j,none⟩:=by unfold Addr.add;split <;> simp_all
  rwa [e] at this
 ·rcases h.2 with ⟨h1,_⟩ | ⟨g',cap',cur,h1,_,hgg,_⟩
  ·cases h1
  ·cases h1
   exact Lib.frozen_of_heap hgg j
theorem size_plain (a:List UInt8) (n:Nat) (hn:Hid (a.length=n)) (hs:(str a).size=n) (n10:(n:Int)≤10) (hd:Hid (a.all isDig=true)) (V:Nat) (hV:Hid (numL a=V)) (vb:(V:Int)≤9999999999) (Z:Int) (ov:Bool) (hZ:Hid (V≤2147483648→Z=((V*4294967296:Nat):Int)∧ov=decide (9223372036854775808<V*4294967296))) (hZ2:Hid (¬V≤2147483648→Z=0∧ov=true)) (w:World) :
  Calls prog 83 #[.string (str a)] w fun e w'=>e=.returned (.tuple #[.int .u64 Z,.bool ov])∧Below w.heap.size w w':=by
 go_enter Tryz.func83,Tryz.ntmps83
 go_wp2_with fail
 go_loop [5,4] (fun x y=>∃k v:Nat,k≤n∧x=.int .i64 k∧y=.int .u64 (v:Int)∧Hid (v=numL (a.take k))) (fun x _=>n-litLen x)
 case atStart=>exact⟨0,0,by omega,rfl,rfl,Hd rfl⟩
 case round =>
  obtain⟨k,v,hk,rfl,rfl,hv⟩:=hrel
  rcases Nat.lt_or_ge k n with hlt | hge
  ·obtain⟨c,hc⟩:∃c,a[k]?=some c:=⟨a[k]'(by have:=hn.out;omega),List.getElem?_eq_getElem _⟩
   have hix:∀h,(str a)[k]'h=c:=fun h=>str_at a hc h
   have q3:decide ((k:Int)<(n:Int))=true:=qT (by omega)
   have hcd:=isDig_iff.1 (List.all_eq_true.1 hd.out c (List.mem_of_getElem? hc))
   have hnx:numL (a.take (k+1))=numL (a.take k)*10+(c.toNat-48):=by rw[take_at hc,numL_snoc]
   have h1:=numL_le _ (all_take hd.out k) (by rw[List.length_take];omega)
   have h2:=numL_le _ (all_take hd.out (k+1)) (by rw[List.length_take];omega)
   have hc46:c≠46:=fun e=>by rw[e] at hcd;revert hcd;decide
   obtain⟨k1,k2,k3,k4,k5⟩:=byte_ne hc46 46 rfl
   obtain⟨X,hX⟩:∃X,X=c.toNat:=⟨_,rfl⟩
   rw[←hX] at hcd hnx k3 k4 k5
   obtain⟨y,hy⟩:∃y,y=X-48:=⟨_,rfl⟩
   rw[←hy] at hnx
   have hv':=hv.out
   rw[←hv'] at hnx h1
   obtain⟨v2,hv2⟩:∃v2,v2=numL (a.take (k+1)):=⟨_,rfl⟩
   rw[←hv2] at hnx h2
   have V2:=Hd hv2
   have e0:(X:Int)-48=(y:Int):=by omega
   have e1:10*(v:Int)+(y:Int)=(v2:Int):=by omega
   have e1':(v:Int)*10+(y:Int)=(v2:Int):=by omega
   have b0:(48:Int)≤(X:Int):=by omega
   have b1:(X:Int)≤57:=by omega
   have b2:(v:Int)≤9999999999:=by omega
   have b3:(v2:Int)≤9999999999:=by omega
   have b4:(y:Int)≤9:=by omega
   have hX2:c.toNat=X:=hX.symm
   clear hX hy hv2 hnx h1 h2 hcd hc hv' hc46 hv
   go_wp2_with fail
   exact⟨⟨k+1,v2,by omega,rfl,rfl,V2⟩,by simp[litLen];omega⟩
  ·have q3:decide ((k:Int)<(n:Int))=false:=qF (by omega)
   obtain rfl:v=V:=by rw[hv.out,show k=a.length by rw[hn.out];omega,List.take_length,hV.out]
   clear hv
   obtain rfl:k=n:=by omega
   go_wp2_with fail
   go_loop [5,6] (fun i s=>i=.int .i64 ((k:Int)+1)∧s=.slice none 0 0) (fun _ _=>0)
   case atStart=>exact⟨rfl,rfl⟩
   case round =>
    obtain⟨rfl,rfl⟩:=hrel
    have q4:decide ((k:Int)+1<(k:Int))=false:=qF (by omega)
    by_cases hg:(2147483648:Int)<(v:Int)
    ·have q5:decide ((2147483648:Int)<(v:Int))=true:=qT hg
     have E:=Hd (hZ2.out (by omega))
     go_wp2_with fail
     go_ret2
     exact⟨by rw[E.out.1,E.out.2];rfl,qB _ _⟩
    ·have q5:decide ((2147483648:Int)<(v:Int))=false:=qF hg
     have E:=Hd (hZ.out (by omega))
     go_wp2_with fail
     go_loop [8,7] (fun i u=>∃κ U:Nat,κ≤32∧i=.int .i64 κ∧u=.int .u64 (U:Int)∧Hid (U=v*2 ^ κ)) (fun i _=>32-litLen i)
     case atStart=>exact⟨0,v,by omega,rfl,rfl,Hd (by simp)⟩
     case round =>
      obtain⟨κ,U,hκ,rfl,rfl,hU⟩:=hrel
      rcases Nat.lt_or_ge κ 32 with hlt2 | hge2
      ·have q6:decide ((κ:Int)<32)=true:=qT (by omega)
       have hb:Hid (U≤4611686018427387904):=Hd (by
        rw[hU.out]
        have h1:2 ^ κ≤2 ^ 31:=Nat.pow_le_pow_right (by omega) (by omega)
        have h2:=Nat.mul_le_mul (show v≤2147483648 by omega) h1
        omega)
       obtain⟨U2,hU2⟩:∃U2,U2=2*U:=⟨_,rfl⟩
       have e1:2*(U:Int)=(U2:Int):=by omega
       have ub:(U2:Int)≤9223372036854775808:=by have:=hb.out;omega
       have HU2:=Hd (show U2=v*2 ^ (κ+1) by rw[hU2,hU.out,Nat.pow_succ];exact(Nat.mul_comm _ _).trans (Nat.mul_assoc _ _ _))
       clear hU2 hU hb
       go_wp2_with fail
       go_loop [10,9] (fun t c=>t=.int .i64 (-1)∧c=.int .i64 0) (fun _ _=>0)
       case atStart=>exact⟨rfl,rfl⟩
       case round =>
        obtain⟨rfl,rfl⟩:=hrel
        go_wp2_with fail
        exact⟨⟨κ+1,U2,by omega,rfl,rfl,HU2⟩,by simp[litLen];omega⟩
      ·have q6:decide ((κ:Int)<32)=false:=qF (by omega)
       obtain rfl:κ=32:=by omega
       have hE:=E.out
       have hU':=hU.out
       rw[show(2:Nat) ^ 32=4294967296 from rfl] at hU'
       rw[←hU'] at hE
       by_cases ho:(9223372036854775808:Int)<(U:Int)
       ·have q7:decide ((9223372036854775808:Int)<(U:Int))=true:=qT ho
        obtain⟨rfl,hov⟩:=hE
        rw[qT (by omega)] at hov
        subst hov
        clear hU hU'
        go_wp2_with fail
        go_ret2
        exact⟨rfl,qB _ _⟩
       ·have q7:decide ((9223372036854775808:Int)<(U:Int))=false:=qF ho
        obtain⟨rfl,hov⟩:=hE
        rw[qF (by omega)] at hov
        subst hov
        clear hU hU'
        go_wp2_with fail
        go_ret2
        exact⟨rfl,qB _ _⟩
theorem size_point (t a b:List UInt8) (n p q':Nat) (hn:Hid (a.length=p)) (hqb:Hid (b.length=q'+1)) (hA:Hid (∀(j:Nat) (c:UInt8),a[j]?=some c→t[j]?=some c)) (hP:Hid (t[p]?=some 46)) (hB:Hid (∀(j:Nat) (c:UInt8),b[j]?=some c→t[p+1+j]?=some c)) (hs:(str t).size=n) (en:Hid ((n:Int)=(p:Int)+1+(q':Int)+1)) (nb:(n:Int)≤100) (n10:(p:Int)≤10) (q40:(q':Int)≤39) (hd:Hid (a.all isDig=true)) (hdb:Hid (b.all isDig=true)) (V:Nat) (hV:Hid (numL a=V)) (vb:(V:Int)≤9999999999) (Z:Int) (ov:Bool) (hZ:Hid (V≤2147483648→Z=((V*4294967296+bitsL b:Nat):Int)∧ov=decide (9223372036854775808<V*4294967296+bitsL b))) (hZ2:Hid (¬V≤2147483648→Z=0∧ov=true)) (w:World) :
  Calls prog 83 #[.string (str t)] w fun e w'=>e=.returned (.tuple #[.int .u64 Z,.bool ov])∧Below w.heap.size w w':=by
 go_enter Tryz.func83,Tryz.ntmps83
 go_wp2_with fail
 go_loop [5,4] (fun x y=>∃k v:Nat,k≤p∧x=.int .i64 k∧y=.int .u64 (v:Int)∧Hid (v=numL (a.take k))) (fun x _=>p-litLen x)
 case atStart=>exact⟨0,0,by omega,rfl,rfl,Hd rfl⟩
 case round =>
  obtain⟨k,v,hk,rfl,rfl,hv⟩:=hrel
  rcases Nat.lt_or_ge k p with hlt | hge
  ·obtain⟨c,hc⟩:∃c,a[k]?=some c:=⟨a[k]'(by have:=hn.out;omega),List.getElem?_eq_getElem _⟩
   have hix:∀h,(str t)[k]'h=c:=fun h=>str_at t (hA.out k c hc) h
   have kn:(k:Int)<(n:Int):=by have:=en.out;omega
   have q3:decide ((k:Int)<(n:Int))=true:=qT (by have:=en.out;omega)
   have hcd:=isDig_iff.1 (List.all_eq_true.1 hd.out c (List.mem_of_getElem? hc))
   have hnx:numL (a.take (k+1))=numL (a.take k)*10+(c.toNat-48):=by rw[take_at hc,numL_snoc]
   have h1:=numL_le _ (all_take hd.out k) (by rw[List.length_take];omega)
   have h2:=numL_le _ (all_take hd.out (k+1)) (by rw[List.length_take];omega)
   have hc46:c≠46:=fun e=>by rw[e] at hcd;revert hcd;decide
   obtain⟨k1,k2,k3,k4,k5⟩:=byte_ne hc46 46 rfl
   obtain⟨X,hX⟩:∃X,X=c.toNat:=⟨_,rfl⟩
   rw[←hX] at hcd hnx k3 k4 k5
   obtain⟨y,hy⟩:∃y,y=X-48:=⟨_,rfl⟩
   rw[←hy] at hnx
   have hv':=hv.out
   rw[←hv'] at hnx h1
   obtain⟨v2,hv2⟩:∃v2,v2=numL (a.take (k+1)):=⟨_,rfl⟩
   rw[←hv2] at hnx h2
   have V2:=Hd hv2
   have e0:(X:Int)-48=(y:Int):=by omega
   have e1:10*(v:Int)+(y:Int)=(v2:Int):=by omega
   have e1':(v:Int)*10+(y:Int)=(v2:Int):=by omega
   have b0:(48:Int)≤(X:Int):=by omega
   have b1:(X:Int)≤57:=by omega
   have b2:(v:Int)≤9999999999:=by omega
   have b3:(v2:Int)≤9999999999:=by omega
   have b4:(y:Int)≤9:=by omega
   have hX2:c.toNat=X:=hX.symm
   clear hX hy hv2 hnx h1 h2 hcd hc hv' hc46 hv
   go_wp2_with fail
   exact⟨⟨k+1,v2,by omega,rfl,rfl,V2⟩,by simp[litLen];omega⟩
  ·obtain rfl:v=V:=by rw[hv.out,show k=a.length by rw[hn.out];omega,List.take_length,hV.out]
   clear hv
   obtain rfl:k=p:=by omega
   have q3:decide ((k:Int)<(n:Int))=true:=qT (by have:=en.out;omega)
   have kn:(k:Int)<(n:Int):=by have:=en.out;omega
   obtain⟨d,hd46⟩:∃d:UInt8,d=46:=⟨_,rfl⟩
   have hixp:∀h,(str t)[k]'h=d:=fun h=>str_at t (by rw[hd46];exact hP.out) h
   have k1:(d !=46)=false:=by rw[hd46];rfl
   have k2:((d.toNat:Int) !=46)=false:=by rw[hd46];rfl
   have k3:(d.toNat:Int)=46:=by rw[hd46];rfl
   clear hd46
   go_wp2_with fail
   go_loopw [5,6] (fun i s wr=>∃j x:Nat,j≤q'+1∧Hid ((x:Int)=(k:Int)+1+(j:Int))∧i=.int .i64 x∧Hid (wr.ownsRow w.heap.size 3 1 s j ((b.take j).map cellI))∧Hid (Below w.heap.size w wr)) (fun i _ _=>n-litLen i)
   case atStart=>exact⟨0,k+1,by omega,Hd (by omega),rfl,Hd (qO _ _ _ _),Hd (qB _ _)⟩
   case round =>
    obtain⟨j,x,hj,hx,rfl,hO,hBw⟩:=hrel
    rcases Nat.lt_or_ge j (q'+1) with hjl | hjg
    ·have q4:decide ((x:Int)<(n:Int))=true:=qT (by have:=hx.out;have:=en.out;omega)
     have xn:(x:Int)<(n:Int):=by have:=hx.out;have:=en.out;omega
     obtain⟨c,hc⟩:∃c,b[j]?=some c:=⟨b[j]'(by have:=hqb.out;omega),List.getElem?_eq_getElem _⟩
     have hix:∀h,(str t)[x]'h=c:=fun h=>str_at t (by rw[show x=k+1+j by have:=hx.out;omega];exact hB.out j c hc) h
     have hcd:=isDig_iff.1 (List.all_eq_true.1 hdb.out c (List.mem_of_getElem? hc))
     have HT:=Hd (take_at hc)
     obtain⟨X,hX⟩:∃X,X=c.toNat:=⟨_,rfl⟩
     rw[←hX] at hcd
     obtain⟨y,hy⟩:∃y,y=X-48:=⟨_,rfl⟩
     have HY:Hid (cellI c=.int .i64 (y:Int)):=Hd (by unfold cellI;rw[←hX,hy])
     have e0:(X:Int)-48=(y:Int):=by omega
     have b0:(48:Int)≤(X:Int):=by omega
     have b1:(X:Int)≤57:=by omega
     have hX2:c.toNat=X:=hX.symm
     clear hX hy hcd hc
     go_wp2_with (at_builtin;refine wpList_append_int _ rfl _ _ rfl w.heap.size _ j _ rfl (hO.out.alloc _) ⟨wr.heap.size,0,none⟩ [.int .i64 (y:Int)] rfl rfl (cell_one_new _ _ _) (by simp[Value.oneCell']) (by omega) (by have:=hBw.out.size;simp;omega) ?_;intro v' w3 hown' hgrow;have G1:=Hd hown';have G2:=Hd ((hBw.out.alloc hBw.out.size (.cells #[.int .i64 (y:Int)] 3)).grown hgrow (by have:=hBw.out.size;simp;omega) (fun k hk=>(hO.out.lt k hk).1));clear hown' hgrow)
     exact⟨⟨j+1,x+1,by omega,Hd (by have:=hx.out;omega),rfl,Hd (by rw[HT.out,List.map_append,List.map_singleton,HY.out];exact G1.out),G2⟩,by simp[litLen];omega⟩
    ·have q4:decide ((x:Int)<(n:Int))=false:=qF (by have:=hx.out;have:=en.out;omega)
     have xg:(n:Int)≤(x:Int):=by have:=hx.out;have:=en.out;omega
     obtain rfl:j=q'+1:=by omega
     obtain⟨g,cap,rfl⟩:=ownsRow_succ hO.out
     have HI:Hid (IRow wr g b):=Hd (by
      have:=hO.out
      rw[List.take_of_length_le (by rw[hqb.out];exact qL _)] at this
      exact irow_of_owns this)
     have HG:=Hd (hO.out.lt g rfl).1
     obtain⟨q,hq⟩:∃q,q=q'+1:=⟨_,rfl⟩
     rw[←hq]
     have qb:(q:Int)≤40:=by omega
     have hqe:Hid (b.length=q):=Hd (by rw[hqb.out,hq])
     have cq:((q':Int)+1)=(q:Int):=by omega
     clear hO hq
     by_cases hg:(2147483648:Int)<(v:Int)
     ·have q5:decide ((2147483648:Int)<(v:Int))=true:=qT hg
      have E:=Hd (hZ2.out (by omega))
      go_wp2_with fail
      go_ret2
      exact⟨by rw[E.out.1,E.out.2];rfl,hBw.out⟩
     ·have q5:decide ((2147483648:Int)<(v:Int))=false:=qF hg
      have E:=Hd (hZ.out (by omega))
      go_wp2_with fail
      go_loopw [8,7] (fun i u wr=>∃(κ U B:Nat) (m:List UInt8),κ≤32∧i=.int .i64 κ∧u=.int .u64 (U:Int)∧Hid (U=v*2 ^ κ+B)∧Hid (DblAt b κ m B)∧Hid (IRow wr g m)∧Hid (Below w.heap.size w wr)) (fun i _ _=>32-litLen i)
      case atStart=>exact⟨0,v,0,b,by omega,rfl,rfl,Hd (by simp),Hd (dblAt_zero b hdb.out),HI,hBw⟩
      case round =>
       obtain⟨κ,U,B,m,hκ,rfl,rfl,hU,hD,hR,hBb⟩:=hrel
       rcases Nat.lt_or_ge κ 32 with hlt2 | hge2
       ·have q6:decide ((κ:Int)<32)=true:=qT (by omega)
        have hml:Hid (m.length=q):=Hd (by rw[hD.out.2.1];exact hqe.out)
        have hub:Hid (U≤4611686020574871552):=Hd (by
         have h0:=dblAt_lt hD.out hdb.out
         rw[hU.out]
         have h1:2 ^ κ≤2 ^ 31:=Nat.pow_le_pow_right (by omega) (by omega)
         have h2:=Nat.mul_le_mul (show v≤2147483648 by omega) h1
         omega)
        obtain⟨U1,hU1⟩:∃U1,U1=2*U:=⟨_,rfl⟩
        have e1:2*(U:Int)=(U1:Int):=by omega
        have ub:(U1:Int)≤9223372041149743104:=by have:=hub.out;omega
        have HU1:=Hd hU1
        clear hU1
        go_wp2_with fail
        go_loopw [10,9] (fun t c wi=>∃j C:Nat,j≤q∧t=.int .i64 ((j:Int)-1)∧c=.int .i64 (C:Int)∧(C:Int)≤1∧Hid (C=cry (m.drop j))∧Hid (IRow wi g (m.take j++dbl (m.drop j)))∧Hid (Below w.heap.size w wi)) (fun t _ _=>(intOf t+1).toNat)
        case atStart =>
         exact⟨q,0,qL _,rfl,rfl,by omega,Hd (by rw[List.drop_of_length_le (by rw[hml.out];exact qL _)];rfl),Hd (by rw[List.take_of_length_le (by rw[hml.out];exact qL _),List.drop_of_length_le (by rw[hml.out];exact qL _),show dbl []=[] from rfl,List.append_nil];exact hR.out),hBb⟩
        case round =>
         obtain⟨j,C,hj,rfl,rfl,hC1,hC,hI,hBi⟩:=hrel
         rcases j with _ | j
         ·obtain⟨U2,hU2⟩:∃U2,U2=U1+C:=⟨_,rfl⟩
          have e2:(U1:Int)+(C:Int)=(U2:Int):=by omega
          have ub2:(U2:Int)≤9223372041149743105:=by omega
          have c0:(0:Int)≤(C:Int):=by omega
          have HU2:Hid (U2=v*2 ^ (κ+1)+(2*B+cry m)):=Hd (by
           have h1:=hC.out
           rw[List.drop_zero] at h1
           have h2:v*2 ^ (κ+1)=2*(v*2 ^ κ):=by rw[Nat.pow_succ];exact((Nat.mul_comm _ _).trans (Nat.mul_assoc _ _ _)).symm
           rw[hU2,HU1.out,hU.out,h2,h1]
           omega)
          clear hU2
          go_wp2_with fail
          exact⟨⟨κ+1,U2,2*B+cry m,dbl m,by omega,rfl,rfl,HU2,Hd (dblAt_next hD.out),Hd (by have:=hI.out;rw[List.take_zero,List.drop_zero,List.nil_append] at this;exact this),hBi⟩,by simp[litLen];omega⟩
         ·have hj2:j<m.length:=by rw[hml.out];omega
          obtain⟨x',hx'⟩:∃x',m[j]?=some x':=⟨m[j],List.getElem?_eq_getElem hj2⟩
          have hxd:=isDig_iff.1 (List.all_eq_true.1 hD.out.1 x' (List.mem_of_getElem? hx'))
          have hxr:(m.take (j+1)++dbl (m.drop (j+1)))[j]?=some x':=by
           rw[List.getElem?_append_left (by simp;omega),List.getElem?_take,if_pos (by omega),hx']
          obtain⟨c1o,f1⟩:=hI.out j x' hxr
          obtain⟨y,hy⟩:∃y,y=x'.toNat-48:=⟨_,rfl⟩
          have c1:wr.cell? ⟨g,j,none⟩=some (.int .i64 (y:Int)):=by rw[c1o];unfold cellI;rw[hy]
          obtain⟨T,hT⟩:∃T,T=2*y+C:=⟨_,rfl⟩
          obtain⟨s,hs'⟩:∃s,s=T / 10:=⟨_,rfl⟩
          obtain⟨r,hr⟩:∃r,r=T % 10:=⟨_,rfl⟩
          have HN:=Hd (irow_next hI.out hx' r (by rw[hr,hT,hy,hC.out]))
          have HC2:Hid (s=cry (m.drop j)):=Hd (by rw[hs',hT,hy,hC.out,drop_at hx'];rfl)
          have y9:(y:Int)≤9:=by omega
          have y0:(0:Int)≤(y:Int):=by omega
          have e2:2*(y:Int)+(C:Int)=(T:Int):=by omega
          have t19:(T:Int)≤19:=by omega
          have e3:(T:Int) / 10=(s:Int):=by omega
          have e4:(T:Int) % 10=(r:Int):=by omega
          have e5:Int.tdiv (T:Int) 10=(s:Int):=by rw[Int.tdiv_eq_ediv_of_nonneg (by omega)];exact e3
          have e6:Int.tmod (T:Int) 10=(r:Int):=by rw[Int.tmod_eq_emod_of_nonneg (by omega)];exact e4
          have s1:(s:Int)≤1:=by omega
          have r9:(r:Int)≤9:=by omega
          have jq:(j:Int)<(q:Int):=by omega
          have q7:decide ((0:Int)≤(j:Int))=true:=qT (by omega)
          clear hy hT hs' hr hxr hx' hxd hj2 c1o
          rw[show((j+1:Nat):Int)-1=(j:Int) by omega]
          go_wp2_with fail
          exact⟨⟨j,s,by omega,rfl,rfl,s1,HC2,HN,Hd (hBi.out.setCell (p:=⟨g,j,none⟩) HG.out _)⟩,by simp[intOf]⟩
       ·have q6:decide ((κ:Int)<32)=false:=qF (by omega)
        obtain rfl:κ=32:=by omega
        have hE:=E.out
        have hU':=hU.out
        rw[show(2:Nat) ^ 32=4294967296 from rfl,dblAt_end hD.out] at hU'
        rw[←hU'] at hE
        by_cases ho:(9223372036854775808:Int)<(U:Int)
        ·have q7:decide ((9223372036854775808:Int)<(U:Int))=true:=qT ho
         obtain⟨rfl,hov⟩:=hE
         rw[qT (by omega)] at hov
         subst hov
         clear hU hU'
         go_wp2_with fail
         go_ret2
         exact⟨rfl,hBb.out⟩
        ·have q7:decide ((9223372036854775808:Int)<(U:Int))=false:=qF ho
         obtain⟨rfl,hov⟩:=hE
         rw[qF (by omega)] at hov
         subst hov
         clear hU hU'
         go_wp2_with fail
         go_ret2
         exact⟨rfl,hBb.out⟩
theorem ref_size:RefSize:=fun t ht W=>by
 obtain⟨h1,h2,h3,h4,h5⟩:=litL_parts ht
 have hv:=numL_le (ahead t) h3 h2
 have hZ:numL (ahead t)≤2147483648→((readL t).1:Int)=((numL (ahead t)*4294967296+bitsL (behind t):Nat):Int)∧(!(readL t).2)=decide (9223372036854775808<numL (ahead t)*4294967296+bitsL (behind t)):=fun h=>by
  unfold readL
  rw[if_pos ⟨ht,h⟩]
  refine⟨by simp only[sizeL],?_⟩
  show(!decide (numL (ahead t)*4294967296+bitsL (behind t)≤9223372036854775808))=_
  by_cases hh:numL (ahead t)*4294967296+bitsL (behind t)≤9223372036854775808
  ·rw[qT hh,qF (by omega)];rfl
  ·rw[qF hh,qT (by omega)];rfl
 have hZ2:¬numL (ahead t)≤2147483648→((readL t).1:Int)=0∧(!(readL t).2)=true:=fun h=>by
  unfold readL
  rw[if_neg (fun hh=>h hh.2)]
  exact⟨by simp,by simp⟩
 rcases part_cases t with hp | ⟨a,b,rfl,hp⟩
 ·rw[behind_none t hp,ahead_none t hp] at *
  have e0:bitsL []=0:=by unfold bitsL;rfl
  rw[e0,Nat.add_zero] at hZ
  exact size_plain t _ (Hd rfl) (str_size t) (by omega) (Hd h3) _ (Hd rfl) (by omega) _ _ (Hd hZ) (Hd hZ2) W
 ·have hl:=ht
  rw[behind_point a b hp,ahead_point a b hp] at *
  have hb1:1≤b.length:=by
   unfold litL digitsL at hl
   have hpt:pointed (a++46 :: b)=true:=by unfold pointed;simp
   rw[behind_point a b hp,ahead_point a b hp,hpt] at hl
   simp only[Bool.and_eq_true,decide_eq_true_eq,Bool.not_true,Bool.false_or] at hl
   exact hl.2.2.1
  exact size_point (a++46 :: b) a b _ a.length (b.length-1) (Hd rfl) (Hd (by omega)) (Hd fun j c h=>by rw[List.getElem?_append_left (List.getElem?_eq_some_iff.1 h).1];exact h) (Hd (by rw[List.getElem?_append_right (qL _)];simp)) (Hd fun j c h=>by rw[List.getElem?_append_right (by omega),show a.length+1+j-a.length=j+1 by omega];exact h) (str_size _) (Hd (by simp only[List.length_append,List.length_cons];omega)) (by simp only[List.length_append,List.length_cons];omega) (by omega) (by omega) (Hd h3) (Hd h5) _ (Hd rfl) (by omega) _ _ (Hd hZ) (Hd hZ2) W
end
end Go.Proofs.YthpgfahlccljnaaGreatDoor.Lx
