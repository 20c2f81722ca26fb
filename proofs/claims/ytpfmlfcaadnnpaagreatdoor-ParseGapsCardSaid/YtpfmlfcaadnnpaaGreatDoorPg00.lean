import Derived.Test.YtpfmlfcaadnnpaaGreatDoorPgH
import Derived.WalkKit
import Derived.Test.YtpfmlfcaadnnpaaGreatDoorRows
import Derived.Laws.BytesString
import Derived.Laws.MakeOwn
import Derived.Laws.OwnMore
import Derived.Laws.IdiomStrings
import Derived.Lib.ConvBytes
import Derived.Test.YtpfmlfcaadnnpaaGreatDoorPgSh
import Derived.Outline
import Derived.Lib.Hide
import Derived.Lib.Strings
import Derived.Below
import Derived.Deep.Draws
import Derived.WalkSpells
import Derived.WalkLawsBesides
import Derived.Maps.OwnSet
set_option maxHeartbeats 16000000
set_option maxRecDepth 100000
open Go.Proofs.Tryz(prog)
namespace Go.Proofs.YtpfmlfcaadnnpaaGreatDoor
open Go.RowKit
def dg (n:Nat):UInt8:=UInt8.ofNat (48+n)
theorem take_at {l:List UInt8} {k:Nat} {c:UInt8} (h:l[k]?=some c):l.take (k+1)=l.take k++[c]:=by
 obtain⟨hk,hb⟩:=List.getElem?_eq_some_iff.1 h
 rw[List.take_succ_eq_append_getElem hk,hb]
def str (l:List UInt8):ByteArray:=⟨l.toArray⟩
theorem str_nil:str []=⟨#[]⟩:=rfl
theorem str_size (l:List UInt8):(str l).size=l.length:=by unfold str;simp[ByteArray.size]
end Go.Proofs.YtpfmlfcaadnnpaaGreatDoor
namespace Go.Proofs.YtpfmlfcaadnnpaaGreatDoor
def isDig (c:UInt8):Bool:=decide (48≤c.toNat)&&decide (c.toNat≤57)
theorem isDig_iff {c:UInt8}:isDig c=true↔48≤c.toNat∧c.toNat≤57:=by unfold isDig;simp
def digitsL (l:List UInt8) (most:Nat):Bool:=decide (1≤l.length)&&(decide (l.length≤most)&&l.all isDig)
def ahead (l:List UInt8):List UInt8:=l.takeWhile (· !=46)
def behind (l:List UInt8):List UInt8:=(l.dropWhile (· !=46)).drop 1
def pointed (l:List UInt8):Bool:=l.contains 46
theorem ahead_point (a b:List UInt8) (h:46 ∉ a):ahead (a++46 :: b)=a:=by
 unfold ahead
 rw[List.takeWhile_append_of_pos (by intro x hx;simp;rintro rfl;exact h hx)]
 simp
theorem behind_point (a b:List UInt8) (h:46 ∉ a):behind (a++46 :: b)=b:=by
 unfold behind
 rw[List.dropWhile_append_of_pos (by intro x hx;simp;rintro rfl;exact h hx)]
 simp
theorem ahead_none (a:List UInt8) (h:46 ∉ a):ahead a=a:=by
 unfold ahead
 have:=List.takeWhile_append_of_pos (p:=(· !=46)) (l₁:=a) (l₂:=[]) (by intro x hx;simp;rintro rfl;exact h hx)
 simpa using this
theorem behind_none (a:List UInt8) (h:46 ∉ a):behind a=[]:=by
 unfold behind
 have:=List.dropWhile_append_of_pos (p:=(· !=46)) (l₁:=a) (l₂:=[]) (by intro x hx;simp;rintro rfl;exact h hx)
 simp only[List.append_nil] at this
 rw[this]
 rfl
theorem part_cases (l:List UInt8):(46 ∉ l)∨∃a b,l=a++46 :: b∧46 ∉ a:=by
 induction l with
 | nil=>left;simp
 | cons c l ih =>
  by_cases hc:c=46
  ·right;exact⟨[],l,by rw[hc];rfl,by simp⟩
  ·rcases ih with h | ⟨a,b,rfl,h⟩
   ·left;simp[h];exact fun e=>hc e.symm
   ·right;exact⟨c :: a,b,rfl,by simp[h];exact fun e=>hc e.symm⟩
def litL (l:List UInt8):Bool:=digitsL (ahead l) 10&&(!(decide (1<(ahead l).length)&&(ahead l).head? ==some 48)&&(!pointed l||digitsL (behind l) 40))
def numL:List UInt8→Nat
 | []=>0
 | c :: l=>(c.toNat-48)*10 ^ l.length+numL l
theorem numL_snoc (l:List UInt8) (c:UInt8):numL (l++[c])=numL l*10+(c.toNat-48):=by
 induction l with
 | nil=>simp[numL]
 | cons d l ih=>simp only[List.cons_append,numL,ih,List.length_append,List.length_singleton,Nat.pow_succ,Nat.add_mul,Nat.mul_assoc];omega
theorem numL_lt (l:List UInt8) (h:l.all isDig=true):numL l<10 ^ l.length:=by
 induction l with
 | nil=>simp[numL]
 | cons d l ih =>
  simp only[List.all_cons,Bool.and_eq_true] at h
  have h1:=isDig_iff.1 h.1
  have h2:=ih h.2
  have:(d.toNat-48)*10 ^ l.length≤9*10 ^ l.length:=Nat.mul_le_mul_right _ (by omega)
  simp only[numL,List.length_cons,Nat.pow_succ]
  omega
def bitsL (l:List UInt8):Nat:=numL l*4294967296 / 10 ^ l.length
theorem bitsL_lt (l:List UInt8) (h:l.all isDig=true):bitsL l<4294967296:=by
 unfold bitsL
 rw[Nat.div_lt_iff_lt_mul (Nat.pow_pos (by omega)),Nat.mul_comm]
 exact Nat.mul_lt_mul_of_pos_left (numL_lt l h) (by omega)
def sizeL (l:List UInt8):Nat:=numL (ahead l)*4294967296+bitsL (behind l)
def readL (l:List UInt8):Nat×Bool:=if litL l∧numL (ahead l)≤2147483648 then(sizeL l,decide (sizeL l≤9223372036854775808)) else(0,false)
def cry:List UInt8→Nat
 | []=>0
 | c :: l=>(2*(c.toNat-48)+cry l) / 10
def dbl:List UInt8→List UInt8
 | []=>[]
 | c :: l=>dg ((2*(c.toNat-48)+cry l) % 10) :: dbl l
theorem dbl_length (l:List UInt8):(dbl l).length=l.length:=by induction l with
 | nil=>rfl
 | cons c l ih=>simp[dbl,ih]
theorem cry_le (l:List UInt8) (h:l.all isDig=true):cry l≤1:=by
 induction l with
 | nil=>simp[cry]
 | cons d l ih =>
  simp only[List.all_cons,Bool.and_eq_true] at h
  have h1:=isDig_iff.1 h.1
  have h2:=ih h.2
  simp only[cry]
  omega
theorem dg_val {n:Nat} (h:n<10):(dg n).toNat=48+n:=by unfold dg;rw[UInt8.toNat_ofNat_of_lt' (by show 48+n<256;omega)]
theorem dg_dig {n:Nat} (h:n<10):isDig (dg n)=true:=isDig_iff.2 (by rw[dg_val h];omega)
theorem dbl_dig (l:List UInt8):(dbl l).all isDig=true:=by
 induction l with
 | nil=>rfl
 | cons d l ih=>simp only[dbl,List.all_cons,ih,Bool.and_true];exact dg_dig (by omega)
theorem dbl_num (l:List UInt8):numL (dbl l)+cry l*10 ^ l.length=2*numL l:=by
 induction l with
 | nil=>rfl
 | cons d l ih =>
  simp only[dbl,cry,numL,dbl_length,List.length_cons,Nat.pow_succ]
  rw[dg_val (Nat.mod_lt _ (by omega)),Nat.add_sub_cancel_left]
  generalize 10 ^ l.length=p at *
  have hd:=Nat.div_add_mod (2*(d.toNat-48)+cry l) 10
  generalize (2*(d.toNat-48)+cry l) % 10=r at *
  generalize (2*(d.toNat-48)+cry l) / 10=k at *
  have e:(10*k+r)*p=(2*(d.toNat-48)+cry l)*p:=by rw[hd]
  rw[Nat.add_mul,Nat.add_mul,Nat.mul_assoc] at e
  have e2:k*(p*10)=10*(k*p):=by rw[←Nat.mul_assoc,Nat.mul_comm]
  rw[e2,Nat.mul_add]
  rw[Nat.mul_assoc] at e
  omega
def DblAt (l0:List UInt8) (k:Nat) (l:List UInt8) (B:Nat):Prop:=l.all isDig=true∧l.length=l0.length∧numL l+B*10 ^ l0.length=numL l0*2 ^ k
theorem dblAt_zero (l:List UInt8) (h:l.all isDig=true):DblAt l 0 l 0:=⟨h,rfl,by simp⟩
theorem dblAt_next {l0 l:List UInt8} {k B:Nat} (h:DblAt l0 k l B):DblAt l0 (k+1) (dbl l) (2*B+cry l):=by
 obtain⟨h1,h2,h3⟩:=h
 refine⟨dbl_dig l,(dbl_length l).trans h2,?_⟩
 have:=dbl_num l
 rw[h2] at this
 rw[Nat.add_mul,Nat.pow_succ,←Nat.mul_assoc,←h3,Nat.mul_assoc 2]
 omega
theorem dblAt_end {l0 l:List UInt8} {B:Nat} (h:DblAt l0 32 l B):B=bitsL l0:=by
 obtain⟨h1,h2,h3⟩:=h
 have h4:=numL_lt l h1
 rw[h2] at h4
 unfold bitsL
 rw[show(4294967296:Nat)=2 ^ 32 by decide,←h3,Nat.add_mul_div_right _ _ (Nat.pow_pos (by omega)),Nat.div_eq_of_lt h4,Nat.zero_add]
theorem dblAt_lt {l0 l:List UInt8} {k B:Nat} (h:DblAt l0 k l B) (h0:l0.all isDig=true):B<2 ^ k:=by
 obtain⟨h1,h2,h3⟩:=h
 have h4:=numL_lt l0 h0
 have h5:B*10 ^ l0.length<2 ^ k*10 ^ l0.length:=by
  have:numL l0*2 ^ k<10 ^ l0.length*2 ^ k:=Nat.mul_lt_mul_of_pos_right h4 (Nat.pow_pos (by omega))
  rw[Nat.mul_comm (2 ^ k)]
  omega
 exact Nat.lt_of_mul_lt_mul_right h5
end Go.Proofs.YtpfmlfcaadnnpaaGreatDoor
namespace Go.Proofs.YtpfmlfcaadnnpaaGreatDoor.Lx
def isBlank (c:UInt8):Bool:=c ==32||(c ==9||(c ==10||c ==13))
def isComment (c:UInt8):Bool:=!(c ==10)
def isLetter (c:UInt8):Bool:=(decide (97≤c.toNat)&&decide (c.toNat≤122))||((decide (65≤c.toNat)&&decide (c.toNat≤90))||c ==95)
def isName (c:UInt8):Bool:=isLetter c||isDig c
def runTo (p:UInt8→Bool) (l:List UInt8) (a:Nat):Nat:=a+((l.drop a).takeWhile p).length
theorem drop_cons {l:List UInt8} {k:Nat} {c:UInt8} (h:l[k]?=some c):l.drop k=c :: l.drop (k+1):=by
 obtain⟨h1,rfl⟩:=List.getElem?_eq_some_iff.1 h
 exact List.drop_eq_getElem_cons h1
theorem runTo_step {p:UInt8→Bool} {l:List UInt8} {a:Nat} {c:UInt8} (h:l[a]?=some c) (hp:p c=true):runTo p l a=runTo p l (a+1):=by
 unfold runTo
 rw[drop_cons h,List.takeWhile_cons,if_pos hp,List.length_cons]
 omega
theorem runTo_stop {p:UInt8→Bool} {l:List UInt8} {a:Nat} {c:UInt8} (h:l[a]?=some c) (hp:p c=false):runTo p l a=a:=by
 unfold runTo
 rw[drop_cons h,List.takeWhile_cons,if_neg (by rw[hp];simp)]
 rfl
theorem runTo_end {p:UInt8→Bool} {l:List UInt8} {a:Nat} (h:l.length≤a):runTo p l a=a:=by
 unfold runTo
 rw[List.drop_eq_nil_of_le h]
 rfl
theorem runTo_ge (p:UInt8→Bool) (l:List UInt8) (a:Nat):a≤runTo p l a:=by unfold runTo;omega
theorem runTo_le (p:UInt8→Bool) {l:List UInt8} {a:Nat} (h:a≤l.length):runTo p l a≤l.length:=by
 unfold runTo
 have:=(List.takeWhile_prefix p (l:=l.drop a)).length_le
 rw[List.length_drop] at this
 omega
def gapN:Bool→List UInt8→Nat
 | _,[]=>0
 | true,c :: l=>if c=10 then gapN false l+1 else gapN true l+1
 | false,c :: l=>if c=35 then gapN true l+1 else if isBlank c=true then gapN false l+1 else 0
def gapTo (b:Bool) (l:List UInt8) (a:Nat):Nat:=a+gapN b (l.drop a)
theorem gapN_le (b:Bool) (l:List UInt8):gapN b l≤l.length:=by
 induction l generalizing b with
 | nil=>cases b <;> exact qL _
 | cons c l ih =>
  have h1:=ih true
  have h2:=ih false
  cases b <;> simp only[gapN,List.length_cons]
  ·split
   ·omega
   ·split <;> omega
  ·split <;> omega
theorem gapTo_ge (b:Bool) (l:List UInt8) (a:Nat):a≤gapTo b l a:=by unfold gapTo;omega
theorem gapTo_le (b:Bool) {l:List UInt8} {a:Nat} (h:a≤l.length):gapTo b l a≤l.length:=by
 unfold gapTo
 have:=gapN_le b (l.drop a)
 rw[List.length_drop] at this
 omega
theorem gapTo_end (b:Bool) {l:List UInt8} {a:Nat} (h:l.length≤a):gapTo b l a=a:=by
 unfold gapTo
 rw[List.drop_eq_nil_of_le h]
 cases b <;> rfl
theorem gapTo_line {l:List UInt8} {a:Nat} (h:l[a]?=some 10):gapTo true l a=gapTo false l (a+1):=by
 unfold gapTo
 rw[drop_cons h,gapN,if_pos rfl]
 omega
theorem gapTo_comment {l:List UInt8} {a:Nat} {c:UInt8} (h:l[a]?=some c) (hc:c≠10):gapTo true l a=gapTo true l (a+1):=by
 unfold gapTo
 rw[drop_cons h,gapN,if_neg hc]
 omega
theorem gapTo_hash {l:List UInt8} {a:Nat} (h:l[a]?=some 35):gapTo false l a=gapTo true l (a+1):=by
 unfold gapTo
 rw[drop_cons h,gapN,if_pos rfl]
 omega
theorem blank_hash {c:UInt8} (h:isBlank c=true):c≠35:=by rintro rfl;revert h;decide
theorem gapTo_blank {l:List UInt8} {a:Nat} {c:UInt8} (h:l[a]?=some c) (hc:isBlank c=true):gapTo false l a=gapTo false l (a+1):=by
 unfold gapTo
 rw[drop_cons h,gapN,if_neg (blank_hash hc),if_pos hc]
 omega
theorem gapTo_stop {l:List UInt8} {a:Nat} {c:UInt8} (h:l[a]?=some c) (h1:c≠35) (h2:isBlank c=false):gapTo false l a=a:=by
 unfold gapTo
 rw[drop_cons h,gapN,if_neg h1,if_neg (by rw[h2];simp)]
 rfl
theorem gapTo_blanks (l:List UInt8) (a:Nat):gapTo false l (runTo isBlank l a)=gapTo false l a:=by
 suffices h:∀(n a:Nat),l.length-a≤n→gapTo false l (runTo isBlank l a)=gapTo false l a from h _ a (qL _)
 intro n
 induction n with
 | zero=>intro a h;rw[runTo_end (by omega)]
 | succ n ih =>
  intro a h
  rcases Nat.lt_or_ge a l.length with hlt | hge
  ·have hc:l[a]?=some l[a]:=List.getElem?_eq_getElem hlt
   cases hb:isBlank l[a] with
   | true=>rw[runTo_step hc hb,gapTo_blank hc hb];exact ih _ (by omega)
   | false=>rw[runTo_stop hc hb]
  ·rw[runTo_end hge]
theorem gapTo_comments (l:List UInt8) (a:Nat):gapTo false l (runTo isComment l a)=gapTo true l a:=by
 suffices h:∀(n a:Nat),l.length-a≤n→gapTo false l (runTo isComment l a)=gapTo true l a from h _ a (qL _)
 intro n
 induction n with
 | zero=>intro a h;rw[runTo_end (by omega),gapTo_end _ (by omega),gapTo_end _ (by omega)]
 | succ n ih =>
  intro a h
  rcases Nat.lt_or_ge a l.length with hlt | hge
  ·have hc:l[a]?=some l[a]:=List.getElem?_eq_getElem hlt
   by_cases hb:l[a]=10
   ·rw[hb] at hc
    rw[runTo_stop hc (by decide),gapTo_line hc,gapTo_blank hc (by decide)]
   ·rw[runTo_step hc (by unfold isComment;simpa using hb),gapTo_comment hc hb]
    exact ih _ (by omega)
  ·rw[runTo_end hge,gapTo_end _ hge,gapTo_end _ hge]
theorem gapTo_hashes {l:List UInt8} {a:Nat} (h:l[a]?=some 35):gapTo false l (runTo isBlank l (runTo isComment l a))=gapTo false l a:=by
 rw[gapTo_blanks,gapTo_comments,gapTo_comment h (by decide),gapTo_hash h]
theorem runTo_hash {l:List UInt8} {a:Nat} (h:l[a]?=some 35):a<runTo isBlank l (runTo isComment l a):=by
 have h1:=runTo_ge isBlank l (runTo isComment l a)
 have h2:=runTo_ge isComment l (a+1)
 rw[runTo_step h (by decide)]
 rw[runTo_step h (by decide)] at h1
 omega
theorem gapTo_here {l:List UInt8} {a:Nat} (h:l[runTo isBlank l a]?≠some 35):gapTo false l (runTo isBlank l a)=runTo isBlank l a:=by
 suffices hh:∀(n a:Nat),l.length-a≤n→l[runTo isBlank l a]?≠some 35→gapTo false l (runTo isBlank l a)=runTo isBlank l a from hh _ a (qL _) h
 intro n
 induction n with
 | zero=>intro a h _;rw[runTo_end (by omega),gapTo_end _ (by omega)]
 | succ n ih =>
  intro a h h2
  rcases Nat.lt_or_ge a l.length with hlt | hge
  ·have hc:l[a]?=some l[a]:=List.getElem?_eq_getElem hlt
   cases hb:isBlank l[a] with
   | true=>rw[runTo_step hc hb] at h2 ⊢;exact ih _ (by omega) h2
   | false =>
    rw[runTo_stop hc hb] at h2 ⊢
    exact gapTo_stop hc (fun e=>h2 (by rw[hc,e])) hb
  ·rw[runTo_end hge,gapTo_end _ hge]
def wordsL:List (List UInt8):=[[102,117,110],[110,111,100,101],[104,121,98,114,105,100],[108,101,116],[100,101,114],[105,110,105,116],[114,101,115,101,116],[111,110],[117,112],[109,101,109],[109,111,100,101],[102,114,111,109],[103,111,116,111],[111,117,116],[105,102],[116,104,101,110],[101,108,115,101],[112,114,101],[102,98,121],[116,114,117,101],[102,97,108,115,101],[110,111,116],[97,110,100],[111,114],[105,115],[115,113,114,116],[114,101,116,117,114,110],[115,101,116],[102,105,120],[98,111,111,108]]
def wordL (l:List UInt8):Bool:=wordsL.contains l
def signsL:List (List UInt8):=[[45,62],[60,61],[61,61],[40],[41],[123],[125],[44],[59],[58],[61],[43],[45],[42],[47],[60],[46]]
end Go.Proofs.YtpfmlfcaadnnpaaGreatDoor.Lx
namespace Go.Proofs.YtpfmlfcaadnnpaaGreatDoor.Lx
open Go.RowKit
def Row (w:World) (B:Nat) (l:List UInt8):Prop :=
 ∀(j:Nat) (x:UInt8),l[j]?=some x→w.cell? ⟨B,j,none⟩=some (.int .u8 (x.toNat:Int))∧w.frozen? ⟨B,j,none⟩=false
theorem row_cell {w:World} {B:Nat} {l:List UInt8} (h:Row w B l) {j:Nat} {x:UInt8} (hx:l[j]?=some x):w.cell? ⟨B,j,none⟩=some (.int .u8 (x.toNat:Int)):=(h j x hx).1
theorem row_frozen {w:World} {B:Nat} {l:List UInt8} (h:Row w B l) {j:Nat} {x:UInt8} (hx:l[j]?=some x):w.frozen? ⟨B,j,none⟩=false:=(h j x hx).2
theorem row_set {w:World} {B:Nat} {l:List UInt8} (h:Row w B l) (j:Nat) (x:UInt8) (hj:j<l.length):Row (w.setCell ⟨B,j,none⟩ (.int .u8 (x.toNat:Int))) B (l.set j x):=fun i y hy=>by
 obtain⟨x0,h0⟩:∃x0,l[j]?=some x0:=⟨l[j],List.getElem?_eq_getElem hj⟩
 refine⟨?_,by
  rw[World.frozen?_setCell]
  exact(h i (l[i]'(by have:=(List.getElem?_eq_some_iff.1 hy).1;simpa using this)) (List.getElem?_eq_getElem _)).2⟩
 by_cases e:i=j
 ·subst e
  rw[World.cell?_setCell_same _ _ _ (h i x0 h0).1]
  rw[List.getElem?_set_self hj] at hy
  cases hy
  rfl
 ·rw[World.cell?_setCell_other _ _ _ _ (by simp)]
  rw[List.getElem?_set_ne (Ne.symm e)] at hy
  exact(h i y hy).1
theorem row_far {w w':World} {B:Nat} {l:List UInt8} (h:Row w B l) (hb:w'.heap[B]?=w.heap[B]?):Row w' B l:=fun j x hx =>
 ⟨(World.cell?_of_block (w:=w) hb).trans (h j x hx).1,(World.frozen?_of_block (w:=w) hb).trans (h j x hx).2⟩
def litLen:Value→Nat | .int _ n=>n.toNat | _=>0
theorem str_data (l:List UInt8):(str l).data.toList=l:=by unfold str;simp
theorem str_at (l:List UInt8) {j:Nat} {c:UInt8} (h:l[j]?=some c) (hj:j<(str l).size):(str l)[j]'hj=c:=by
 obtain⟨h1,h2⟩:=List.getElem?_eq_some_iff.1 h
 rw[←h2];rfl
theorem str_toList (l:List UInt8):(str l).toList=l:=by rw[Lib.toList_data];rfl
theorem str_extract (l:List UInt8) (j:Nat):(str l).extract 0 j=str (l.take j):=by rw[Lib.extract_eq];rfl
theorem str_slice (l:List UInt8) (i j:Nat):(str l).extract i j=str ((l.take j).drop i):=by
 rw[Lib.extract_eq,str_data]
 unfold str
 rw[List.drop_take]
theorem below_dr {B:Nat} {a w:World} (h:Below B a w) (n:Nat):Below B a (w.drewN n):=⟨h.os,h.tape,h.output,h.size,h.block⟩
def Enters (k:FuncId):Prop:=∀args w,(callFunc k args).run prog w=.ok (.enter k args) w
def ClassAt (w:World) (v:Value) (p:UInt8→Bool):Prop :=
 ∃k lb,v=.func (.func k) #[] lb∧Enters k ∧
  ∀w',Below w.heap.size w w'→∀c:UInt8,Calls prog k (#[.int .u8 (c.toNat:Int)]++lb) w' fun e w''=>e=.returned (.bool (p c))∧w''=w'
theorem ClassAt.mono {w w1:World} {v:Value} {p:UInt8→Bool} (h:ClassAt w v p) (hb:Below w.heap.size w w1):ClassAt w1 v p:=by
 obtain⟨k,lb,hv,ek,hc⟩:=h
 exact⟨k,lb,hv,ek,fun w' hb' c=>hc w' (hb.trans (hb'.mono hb.size)) c⟩
def ClassFrom (g:Nat) (w:World) (v:Value) (p:UInt8→Bool):Prop :=
 ∃k lb,v=.func (.func k) #[] lb∧Enters k∧∃L:List Nat,(∀b ∈ L,g≤b∧b<w.heap.size) ∧
  ∀w':World,(∀b ∈ L,w'.heap[b]?=w.heap[b]?)→∀c:UInt8,Calls prog k (#[.int .u8 (c.toNat:Int)]++lb) w' fun e w''=>e=.returned (.bool (p c))∧w''=w'
theorem ClassFrom.at_ {g:Nat} {w:World} {v:Value} {p:UInt8→Bool} (h:ClassFrom g w v p):ClassAt w v p:=by
 obtain⟨k,lb,hv,ek,L,hL,hc⟩:=h
 exact⟨k,lb,hv,ek,fun w' hb c=>hc w' (fun b hm=>hb.block b (hL b hm).2) c⟩
theorem ClassFrom.kept {g B:Nat} {w w1:World} {v:Value} {p:UInt8→Bool} (h:ClassFrom g w v p) (hk:∀b,g≤b→b<w.heap.size→w1.heap[b]?=w.heap[b]?) (hs:w.heap.size≤w1.heap.size) (hB:B≤g):ClassFrom B w1 v p:=by
 obtain⟨k,lb,hv,ek,L,hL,hc⟩:=h
 exact⟨k,lb,hv,ek,L,fun b hm=>⟨Nat.le_trans hB (hL b hm).1,Nat.lt_of_lt_of_le (hL b hm).2 hs⟩,fun w' hw c=>hc w' (fun b hm=>(hw b hm).trans (hk b (hL b hm).1 (hL b hm).2)) c⟩
theorem ClassFrom.mono {g:Nat} {w w1:World} {v:Value} {p:UInt8→Bool} (h:ClassFrom g w v p) (hb:Below w.heap.size w w1):ClassFrom g w1 v p:=h.kept (fun b _ h2=>hb.block b h2) hb.size (qL _)
theorem ClassFrom.low {g B:Nat} {w:World} {v:Value} {p:UInt8→Bool} (h:ClassFrom g w v p) (hB:B≤g):ClassFrom B w v p:=h.kept (fun _ _ _=>rfl) (qL _) hB
theorem ClassFrom.congr {g:Nat} {w:World} {v:Value} {p q:UInt8→Bool} (h:ClassFrom g w v p) (e:∀c,p c=q c):ClassFrom g w v q:=by
 obtain rfl:p=q:=funext e
 exact h
def GivesClass (g:Nat) (w:World) (p:UInt8→Bool) (e:Ending) (w':World):Prop:=∃v,e=.returned v∧ClassFrom g w' v p∧Below w.heap.size w w'
theorem cell_same {w w':World} {b:Nat} (h:w'.heap[b]?=w.heap[b]?) (j:Nat):w'.cell? ⟨b,j,none⟩=w.cell? ⟨b,j,none⟩:=World.cell?_of_block (w:=w) h
theorem byte_u8 (c:UInt8):((c.toNat:Int).toNat).toUInt8=c:=by simp
theorem span1_any (A B:Nat) (x y c:Int) (w:World) (h1:w.cell? ⟨A,0,none⟩=some (.int .u8 x)) (h2:w.cell? ⟨B,0,none⟩=some (.int .u8 y)) (R:Bool) (hR:Hid (R=(decide (x≤c)&&decide (c≤y)))) :
  Calls prog 106 #[.int .u8 c,.pointer (some ⟨A,0,none⟩),.pointer (some ⟨B,0,none⟩)] w fun e w'=>e=.returned (.bool R)∧w'=w:=by
 by_cases hx:x≤c
 ·have q1:decide (x≤c)=true:=qT hx
  by_cases hy:c≤y
  ·have q2:decide (c≤y)=true:=qT hy
   obtain rfl:R=true:=by rw[hR.out,q1,q2];rfl
   clear hR
   go_enter Tryz.func106,Tryz.ntmps106
   go_wp2_with fail
   go_ret
   exact⟨rfl,rfl⟩
  ·have q2:decide (c≤y)=false:=qF hy
   obtain rfl:R=false:=by rw[hR.out,q1,q2];rfl
   clear hR
   go_enter Tryz.func106,Tryz.ntmps106
   go_wp2_with fail
   go_ret
   exact⟨rfl,rfl⟩
 ·have q1:decide (x≤c)=false:=qF hx
  obtain rfl:R=false:=by rw[hR.out,q1];rfl
  clear hR
  go_enter Tryz.func106,Tryz.ntmps106
  go_wp2_with fail
  go_ret
  exact⟨rfl,rfl⟩
theorem enters_span1:Enters 106:=enters_of Tryz.func106 (by kernel_rfl) rfl
theorem span_any (x y:Int) (w:World) (g:Nat) (hg:g≤w.heap.size) :
  Calls prog 93 #[.int .u8 x,.int .u8 y] w fun e w'=>GivesClass g w (fun c=>decide (x≤(c.toNat:Int))&&decide ((c.toNat:Int)≤y)) e w':=by
 go_enter Tryz.func93,Tryz.ntmps93
 go_wp2_with fail
 go_ret
 refine⟨_,rfl,⟨_,_,rfl,enters_span1,[w.heap.size,w.heap.size+1],fun b hb=>?_,fun w' hb c=>?_⟩,((qB _ w).alloc (qL _) _).alloc (by simp) _⟩
 ·simp at hb
  rcases hb with rfl | rfl
  ·exact⟨hg,by simp;omega⟩
  ·exact⟨by omega,by simp⟩
 have c1:w'.cell? ⟨w.heap.size,0,none⟩=some (.int .u8 x):=(cell_same (hb w.heap.size (by simp)) 0).trans (by rw[World.cell?_alloc_old _ _ _ (by simp),World.cell?_alloc_new];rfl)
 have c2:w'.cell? ⟨w.heap.size+1,0,none⟩=some (.int .u8 y):=(cell_same (hb (w.heap.size+1) (by simp)) 0).trans (by
  have h:=World.cell?_alloc_new (w.alloc (.cells #[.int .u8 x] 5)) #[.int .u8 y] 5 0
  rw[World.size_alloc] at h
  rw[h];rfl)
 exact span1_any w.heap.size (w.heap.size+1) x y c.toNat w' c1 c2 _ (Hd rfl)
theorem among1_any (A:Nat) (S:ByteArray) (c:UInt8) (w:World) (h1:w.cell? ⟨A,0,none⟩=some (.string S)) (R:Bool) (hR:Hid (R=decide (0≤Lib.indexByte S.data.toList c))) :
  Calls prog 108 #[.int .u8 (c.toNat:Int),.pointer (some ⟨A,0,none⟩)] w fun e w'=>e=.returned (.bool R)∧w'=w:=by
 have hI:=Tryz.strings_IndexByte S (c.toNat:Int) w
 rw[byte_u8] at hI
 obtain⟨i,hi⟩:∃i,i=Lib.indexByte S.data.toList c:=⟨_,rfl⟩
 rw[←hi] at hI hR
 have H:=Hd hI
 clear hI hi
 by_cases h0:0≤i
 ·have q:decide (0≤i)=true:=qT h0
  obtain rfl:R=true:=by rw[hR.out,q]
  clear hR
  go_enter Tryz.func108,Tryz.ntmps108
  go_wp2_with (go_at_call 109;refine H.out.mono ?_;rintro e w' ⟨rfl,rfl⟩)
  go_ret
  exact⟨rfl,rfl⟩
 ·have q:decide (0≤i)=false:=qF h0
  obtain rfl:R=false:=by rw[hR.out,q]
  clear hR
  go_enter Tryz.func108,Tryz.ntmps108
  go_wp2_with (go_at_call 109;refine H.out.mono ?_;rintro e w' ⟨rfl,rfl⟩)
  go_ret
  exact⟨rfl,rfl⟩
theorem enters_among1:Enters 108:=enters_of Tryz.func108 (by kernel_rfl) rfl
theorem among_any (S:ByteArray) (w:World) (g:Nat) (hg:g≤w.heap.size) :
  Calls prog 95 #[.string S] w fun e w'=>GivesClass g w (fun c=>decide (0≤Lib.indexByte S.data.toList c)) e w':=by
 go_enter Tryz.func95,Tryz.ntmps95
 go_wp2_with fail
 go_ret
 refine⟨_,rfl,⟨_,_,rfl,enters_among1,[w.heap.size],fun b hb=>?_,fun w' hb c=>?_⟩,(qB _ w).alloc (qL _) _⟩
 ·simp at hb
  subst hb
  exact⟨hg,by simp⟩
 exact among1_any w.heap.size S c w' ((cell_same (hb w.heap.size (by simp)) 0).trans (World.cell?_alloc_new w _ _ _)) _ (Hd rfl)
theorem but1_any (A:Nat) (k:FuncId) (lb:Array Value) (c:Int) (R:Bool) (w:World) (h1:w.cell? ⟨A,0,none⟩=some (.func (.func k) #[] lb)) (ek:∀args w,(callFunc k args).run prog w=.ok (.enter k args) w)
  (C:Hid (Calls prog k (#[.int .u8 c]++lb) w fun e w'=>e=.returned (.bool R)∧w'=w)) :
  Calls prog 110 #[.int .u8 c,.pointer (some ⟨A,0,none⟩)] w fun e w'=>e=.returned (.bool (!R))∧w'=w:=by
 go_enter Tryz.func110,Tryz.ntmps110
 go_wp2_with ((with_reducible refine C.out.mono ?_);rintro e w' ⟨rfl,rfl⟩)
 go_ret
 exact⟨rfl,rfl⟩
theorem enters_but1:Enters 110:=enters_of Tryz.func110 (by kernel_rfl) rfl
theorem but_any (v:Value) (p:UInt8→Bool) (w:World) (g:Nat) (hg:g≤w.heap.size) (hv:ClassFrom g w v p) :
  Calls prog 97 #[v] w fun e w'=>GivesClass g w (fun c=>!p c) e w':=by
 obtain⟨k,lb,rfl,ek,L,hL,hc⟩:=hv
 have EK:=Hd ek
 have HC:=Hd hc
 have HL:=Hd hL
 clear ek hc hL
 go_enter Tryz.func97,Tryz.ntmps97
 go_wp2_with fail
 go_ret
 have hb0:Below w.heap.size w (w.alloc (.cells #[.func (.func k) #[] lb] 116)):=(qB _ w).alloc (qL _) _
 refine⟨_,rfl,⟨_,_,rfl,enters_but1,w.heap.size :: L,fun b hb=>?_,fun w' hb c=>?_⟩,hb0⟩
 ·rcases List.mem_cons.1 hb with rfl | hb
  ·exact⟨hg,by simp⟩
  ·exact⟨(HL.out b hb).1,by have:=(HL.out b hb).2;simp;omega⟩
 exact but1_any w.heap.size k lb c.toNat _ w' ((cell_same (hb w.heap.size (by simp)) 0).trans (World.cell?_alloc_new w _ _ _)) EK.out
  (Hd (HC.out w' (fun b hm=>(hb b (List.mem_cons_of_mem _ hm)).trans (hb0.block b (HL.out b hm).2)) c))
def ClassesFrom (B:Nat) (w:World) (g:Nat) (ps:List (UInt8→Bool)):Prop:=B≤g∧g<w.heap.size∧∃L:List Nat,(∀b ∈ L,B≤b∧b<w.heap.size)∧∀w':World,w'.heap[g]?=w.heap[g]?→(∀b ∈ L,w'.heap[b]?=w.heap[b]?) →
 ∀(j:Nat) p,ps[j]?=some p→∃k lb,w'.cell? ⟨g,j,none⟩=some (.func (.func k) #[] lb)∧Enters k∧∀c:UInt8,Calls prog k (#[.int .u8 (c.toNat:Int)]++lb) w' fun e w''=>e=.returned (.bool (p c))∧w''=w'
theorem any_take {α:Type} (f:α→Bool) {l:List α} {j:Nat} {x:α} (h:l[j]?=some x):(l.take (j+1)).any f=((l.take j).any f||f x):=by
 obtain⟨h1,rfl⟩:=List.getElem?_eq_some_iff.1 h
 rw[List.take_succ_eq_append_getElem h1,List.any_append]
 simp
theorem any_true {α:Type} (f:α→Bool) {l:List α} {j:Nat} {x:α} (h:l[j]?=some x) (hf:f x=true):l.any f=true:=List.any_eq_true.2 ⟨x,List.mem_of_getElem? h,hf⟩
theorem either1_any (A g:Nat) (n:Nat) (ps:List (UInt8→Bool)) (hn:Hid (ps.length=n)) (nl:(n:Int)≤1000) (c:UInt8) (w:World) (h1:w.cell? ⟨A,0,none⟩=some (.slice (some ⟨g,0,none⟩) n n)) (hg:Hid (∀(j:Nat) p,ps[j]?=some p→∃k lb,w.cell? ⟨g,j,none⟩=some (.func (.func k) #[] lb)∧Enters k∧∀c:UInt8,Calls prog k (#[.int .u8 (c.toNat:Int)]++lb) w fun e w''=>e=.returned (.bool (p c))∧w''=w)) (R:Bool) (hR:Hid (R=ps.any fun p=>p c)) :
  Calls prog 107 #[.int .u8 (c.toNat:Int),.pointer (some ⟨A,0,none⟩)] w fun e w'=>e=.returned (.bool R)∧w'=w:=by
 go_enter Tryz.func107,Tryz.ntmps107
 go_wp2_with fail
 go_loop [8] (fun i=>∃k:Nat,k≤n∧Hid ((ps.take k).any (fun p=>p c)=false)∧i=.int .i64 k) (fun i=>n-litLen i)
 case atStart=>exact⟨0,by omega,Hd rfl,rfl⟩
 case round =>
  obtain⟨j,hj,hno,rfl⟩:=hrel
  rcases Nat.lt_or_ge j n with hlt | hge
  ·have q3:decide ((j:Int)<(n:Int))=true:=qT (by omega)
   obtain⟨p,hp⟩:∃p,ps[j]?=some p:=⟨ps[j]'(by have:=hn.out;omega),List.getElem?_eq_getElem _⟩
   obtain⟨k,lb,hv,ek,hc⟩:=hg.out j p hp
   have C:=Hd (hc c)
   have ek':∀args w,(callFunc k args).run prog w=.ok (.enter k args) w:=ek
   have HT:=Hd (any_take (fun p=>p c) hp)
   have HY:=Hd (any_true (fun p=>p c) hp)
   clear hc ek hp
   obtain⟨b,hb⟩:∃b,b=p c:=⟨_,rfl⟩
   rw[←hb] at C HT HY
   clear hb
   cases b with
   | true =>
    obtain rfl:R=true:=by rw[hR.out];exact HY.out rfl
    clear hR
    go_wp2_with ((with_reducible refine C.out.mono ?_);rintro e w' ⟨rfl,rfl⟩)
    go_ret
    exact⟨rfl,rfl⟩
   | false =>
    go_wp2_with ((with_reducible refine C.out.mono ?_);rintro e w' ⟨rfl,rfl⟩)
    exact⟨⟨j+1,by omega,Hd (by rw[HT.out,hno.out];rfl),rfl⟩,by simp[litLen];omega⟩
  ·have q3:decide ((j:Int)<(n:Int))=false:=qF (by omega)
   obtain rfl:R=false:=by rw[hR.out,←hno.out,List.take_of_length_le (by rw[hn.out];exact hge)]
   clear hR
   go_wp2_with fail
   go_ret
   exact⟨rfl,rfl⟩
theorem enters_either1:Enters 107:=enters_of Tryz.func107 (by kernel_rfl) rfl
theorem either_any (g n:Nat) (ps:List (UInt8→Bool)) (hn:ps.length=n) (nl:(n:Int)≤1000) (w:World) (B:Nat) (hg:ClassesFrom B w g ps) :
  Calls prog 94 #[.slice (some ⟨g,0,none⟩) n n] w fun e w'=>GivesClass B w (fun c=>ps.any fun p=>p c) e w':=by
 have HN:=Hd hn
 obtain⟨h1,h2,L,hL,hc⟩:=hg
 have H1:=Hd h1
 have H2:=Hd h2
 have HL:=Hd hL
 have HC:=Hd hc
 clear hn h1 h2 hL hc
 go_enter Tryz.func94,Tryz.ntmps94
 go_wp2_with fail
 go_ret
 have hb0:Below w.heap.size w (w.alloc (.cells #[.slice (some ⟨g,0,none⟩) n n] 135)):=(qB _ w).alloc (qL _) _
 have h2:=H2.out
 have h1:=H1.out
 refine⟨_,rfl,⟨_,_,rfl,enters_either1,w.heap.size :: g :: L,fun b hb=>?_,fun w' hb c=>?_⟩,hb0⟩
 ·rcases List.mem_cons.1 hb with rfl | hb
  ·exact⟨by omega,by simp⟩
  ·rcases List.mem_cons.1 hb with rfl | hb
   ·exact⟨h1,by simp;omega⟩
   ·exact⟨(HL.out b hb).1,by have:=(HL.out b hb).2;simp;omega⟩
 ·refine either1_any w.heap.size g n ps HN nl c w' ((cell_same (hb w.heap.size (by simp)) 0).trans (World.cell?_alloc_new w _ _ _)) (Hd (HC.out w' ?_ fun b hm=>?_)) _ (Hd rfl)
  ·exact(hb g (by simp)).trans (hb0.block g h2)
  ·exact(hb b (by simp[hm])).trans (hb0.block b (HL.out b hm).2)
def NumPost (n:Nat) (w:World) (e:Ending) (w':World):Prop:=e=.returned (.int .i64 (n:Int))∧Below w.heap.size w w'
theorem isBehind {l:List UInt8} {a n:Nat} (hn:l.length=n) (h:a<n):∃c,l[a]?=some c:=⟨l[a]'(by omega),List.getElem?_eq_getElem _⟩
theorem behind_core (l:List UInt8) (n:Nat) (hn:Hid (l.length=n)) (nl:(n:Int)≤30000) (hs:(str l).size=n) (m v1 v2 v3 v4 v5:Value) (k:FuncId) (lb:Array Value) (p:UInt8→Bool) (a:Nat) (ha:a≤n) (w:World)
  (ek:∀args w,(callFunc k args).run prog w=.ok (.enter k args) w)
  (hc:Hid (∀w',Below w.heap.size w w'→∀c:UInt8,Calls prog k (#[.int .u8 (c.toNat:Int)]++lb) w' fun e w''=>e=.returned (.bool (p c))∧w''=w')) (R:Nat) (hR:Hid (runTo p l a=R)) :
  Calls prog 98 #[.agg #[.string (str l),m,v1,v2,v3,v4,v5],.int .i64 (a:Int),.func (.func k) #[] lb] w fun e w'=>NumPost R w e w':=by
 go_enter Tryz.func98,Tryz.ntmps98
 go_wp2_with fail
 go_loop [1] (fun i=>∃j:Nat,j≤n∧Hid (runTo p l j=R)∧i=.int .i64 j) (fun i=>n-litLen i)
 case atStart=>exact⟨a,ha,hR,rfl⟩
 case round =>
  obtain⟨j,hj,hr,rfl⟩:=hrel
  rcases Nat.lt_or_ge j n with hlt | hge
  ·have q3:decide ((j:Int)<(n:Int))=true:=qT (by omega)
   obtain⟨c,hcj⟩:=isBehind hn.out hlt
   have hix:∀h,(str l)[j]'h=c:=fun h=>str_at l hcj h
   have HC:=Hd hcj
   have C:=Hd (hc.out _ ((qB w.heap.size w).alloc (qL _) (.cells #[.string (str l),m,v1,v2,v3,v4,v5] 118)) c)
   clear hcj
   obtain⟨b,hb⟩:∃b,b=p c:=⟨_,rfl⟩
   rw[←hb] at C
   have HB:=Hd hb
   clear hb
   cases b with
   | true =>
    go_wp2_with ((with_reducible refine C.out.mono ?_);rintro e w' ⟨rfl,rfl⟩)
    exact⟨⟨j+1,by omega,Hd (by rw[←runTo_step HC.out HB.out.symm];exact hr.out),rfl⟩,by simp[litLen];omega⟩
   | false =>
    go_wp2_with ((with_reducible refine C.out.mono ?_);rintro e w' ⟨rfl,rfl⟩)
    go_ret
    exact⟨by rw[←hr.out,runTo_stop HC.out HB.out.symm];rfl,(qB _ w).alloc (qL _) _⟩
  ·have q3:decide ((j:Int)<(n:Int))=false:=qF (by omega)
   go_wp2_with fail
   go_ret
   exact⟨by rw[←hr.out,runTo_end (by rw[hn.out];exact hge)];rfl,(qB _ w).alloc (qL _) _⟩
theorem behind_any (l:List UInt8) (nl:l.length≤30000) (m v1 v2 v3 v4 v5 v:Value) (p:UInt8→Bool) (a:Nat) (ha:a≤l.length) (w:World) (hv:ClassAt w v p) :
  Calls prog 98 #[.agg #[.string (str l),m,v1,v2,v3,v4,v5],.int .i64 (a:Int),v] w fun e w'=>NumPost (runTo p l a) w e w':=by
 obtain⟨k,lb,rfl,ek,hc⟩:=hv
 exact behind_core l _ (Hd rfl) (by omega) (str_size l) m v1 v2 v3 v4 v5 k lb p a ha w ek (Hd hc) _ (Hd rfl)
def ReadAt (w:World) (g:Nat) (s m v1 v2 v3 v4 v5:Value):Prop :=
 w.cell? ⟨g,0,none⟩=some s∧w.cell? ⟨g,1,none⟩=some m∧w.cell? ⟨g,2,none⟩=some v1∧w.cell? ⟨g,3,none⟩=some v2∧w.cell? ⟨g,4,none⟩=some v3∧w.cell? ⟨g,5,none⟩=some v4∧w.cell? ⟨g,6,none⟩=some v5
theorem ReadAt.below {w w':World} {g B:Nat} {s m v1 v2 v3 v4 v5:Value} (h:ReadAt w g s m v1 v2 v3 v4 v5) (hb:Below B w w') (hg:g<B):ReadAt w' g s m v1 v2 v3 v4 v5 :=
 ⟨(hb.cell (p:=⟨g,0,none⟩) hg).trans h.1,(hb.cell (p:=⟨g,1,none⟩) hg).trans h.2.1,(hb.cell (p:=⟨g,2,none⟩) hg).trans h.2.2.1,(hb.cell (p:=⟨g,3,none⟩) hg).trans h.2.2.2.1,
  (hb.cell (p:=⟨g,4,none⟩) hg).trans h.2.2.2.2.1,(hb.cell (p:=⟨g,5,none⟩) hg).trans h.2.2.2.2.2.1,(hb.cell (p:=⟨g,6,none⟩) hg).trans h.2.2.2.2.2.2⟩
theorem readAt_new (w:World) (s m v1 v2 v3 v4 v5:Value) (T:TypeId):ReadAt (w.alloc (.cells #[s,m,v1,v2,v3,v4,v5] T)) w.heap.size s m v1 v2 v3 v4 v5 :=
 ⟨by rw[World.cell?_alloc_new];rfl,by rw[World.cell?_alloc_new];rfl,by rw[World.cell?_alloc_new];rfl,by rw[World.cell?_alloc_new];rfl,by rw[World.cell?_alloc_new];rfl,by rw[World.cell?_alloc_new];rfl,by rw[World.cell?_alloc_new];rfl⟩
theorem gaps_core (l:List UInt8) (n:Nat) (hn:Hid (l.length=n)) (nl:(n:Int)≤30000) (hs:(str l).size=n) (m v1 v2 v3 v4 v5:Value) (a:Nat) (ha:a≤n) (w:World)
  (h1:Hid (ClassAt w v1 isBlank)) (h2:Hid (ClassAt w v2 isComment)) (R:Nat) (hR:Hid (gapTo false l a=R)) :
  Calls prog 83 #[.agg #[.string (str l),m,v1,v2,v3,v4,v5],.int .i64 (a:Int)] w fun e w'=>NumPost R w e w':=by
 have B1:Hid (∀(w':World),Below w.heap.size w w'→∀j:Nat,j≤n→Calls prog 98 #[.agg #[.string (str l),m,v1,v2,v3,v4,v5],.int .i64 (j:Int),v1] w' fun e w''=>NumPost (runTo isBlank l j) w' e w'') :=
  Hd fun w' hb j hj=>behind_any l (by have:=hn.out;omega) m v1 v2 v3 v4 v5 v1 isBlank j (by have:=hn.out;omega) w' (h1.out.mono hb)
 have B2:Hid (∀(w':World),Below w.heap.size w w'→∀j:Nat,j≤n→Calls prog 98 #[.agg #[.string (str l),m,v1,v2,v3,v4,v5],.int .i64 (j:Int),v2] w' fun e w''=>NumPost (runTo isComment l j) w' e w'') :=
  Hd fun w' hb j hj=>behind_any l (by have:=hn.out;omega) m v1 v2 v3 v4 v5 v2 isComment j (by have:=hn.out;omega) w' (h2.out.mono hb)
 have hb0:=Hd ((qB w.heap.size w).alloc (qL _) (.cells #[.string (str l),m,v1,v2,v3,v4,v5] 118))
 have hr1:=Hd (runTo_le isBlank (show a≤l.length by rw[hn.out];exact ha))
 have hg1:=Hd (gapTo_blanks l a)
 obtain⟨b,hb⟩:∃b,b=runTo isBlank l a:=⟨_,rfl⟩
 have HE:=Hd (show gapTo false l b=R∧(l[b]?≠some 35→gapTo false l b=b)∧b≤n by
  rw[hb]
  exact⟨hg1.out.trans hR.out,fun h=>gapTo_here h,by rw[←hn.out];exact hr1.out⟩)
 have HB:=Hd hb
 have P1:=Hd (B1.out _ hb0.out a ha)
 rw[←hb] at P1
 clear hb hg1 hr1
 go_enter Tryz.func83,Tryz.ntmps83
 go_wp2_with (go_at_call 98;((with_reducible refine P1.out.mono ?_);rintro e w1 ⟨rfl,hb1⟩;have HB1:=Hd hb1;clear hb1))
 have hsz:Hid (w.heap.size<w1.heap.size):=Hd (by have:=HB1.out.size;simp at this;omega)
 go_loopw [1] (fun i wr=>∃j:Nat,j≤n∧Hid (gapTo false l j=R∧(l[j]?≠some 35→gapTo false l j=j))∧i=.int .i64 j∧Hid (Below (w.heap.size+1) (w.alloc (.cells #[.string (str l),m,v1,v2,v3,v4,v5] 118)) wr)) (fun i _=>n-litLen i)
 case atStart=>exact⟨b,HE.out.2.2,Hd ⟨HE.out.1,HE.out.2.1⟩,rfl,Hd (by have:=HB1.out;rwa [World.size_alloc] at this)⟩
 case round =>
  obtain⟨j,hj,hJ,rfl,hB⟩:=hrel
  have hbw:Hid (Below w.heap.size w wr):=Hd (hb0.out.trans (hB.out.mono (Nat.le_succ _)))
  have hRA:=Hd ((readAt_new w (.string (str l)) m v1 v2 v3 v4 v5 118).below hB.out (Nat.lt_succ_self _))
  obtain⟨cS,c1,c2,c3,c4,c5,c6⟩:=hRA.out
  have hgw:Hid (w.heap.size<wr.heap.size):=Hd (by have:=hB.out.size;simp at this;omega)
  rcases Nat.lt_or_ge j n with hlt | hge
  ·have q3:decide ((j:Int)<(n:Int))=true:=qT (by omega)
   obtain⟨c,hcj⟩:=isBehind hn.out hlt
   have hix:∀h,(str l)[j]'h=c:=fun h=>str_at l hcj h
   have HC:=Hd hcj
   clear hcj
   by_cases h35:c=35
   ·subst h35
    have e35:((35:UInt8) ==35)=true:=rfl
    have hlt2:=Hd (runTo_hash HC.out)
    have hgp:=Hd (gapTo_hashes HC.out)
    have hle1:=Hd (runTo_le isComment (show j≤l.length by rw[hn.out];exact hj))
    have P2:=Hd (B2.out wr hbw.out j hj)
    obtain⟨x,hx⟩:∃x,x=runTo isComment l j:=⟨_,rfl⟩
    rw[←hx] at P2 hlt2 hgp hle1
    have hxn:x≤n:=by rw[←hn.out];exact hle1.out
    have hle2:=Hd (runTo_le isBlank (show x≤l.length from hle1.out))
    have P3:Hid (∀(w':World),Below w.heap.size w w'→Calls prog 98 #[.agg #[.string (str l),m,v1,v2,v3,v4,v5],.int .i64 (x:Int),v1] w' fun e w''=>NumPost (runTo isBlank l x) w' e w''):=Hd fun w' hb=>B1.out w' hb x hxn
    have hend:=Hd (fun h=>gapTo_here (l:=l) (a:=x) h)
    obtain⟨y,hy⟩:∃y,y=runTo isBlank l x:=⟨_,rfl⟩
    rw[←hy] at P3 hlt2 hgp hle2 hend
    have HX:=Hd hx
    have HY:=Hd hy
    clear hx hy
    go_wp2_with (first | (go_at_call 98;((with_reducible refine P2.out.mono ?_);rintro e w2 ⟨rfl,hb2⟩;obtain⟨dS,d1,d2,d3,d4,d5,d6⟩:=hRA.out.below hb2 hgw.out;have HB2:=Hd hb2;clear hb2)) | (go_at_call 98;((with_reducible refine(P3.out _ (hbw.out.trans (HB2.out.mono hbw.out.size))).mono ?_);rintro e w3 ⟨rfl,hb3⟩;have HB3:=Hd hb3;clear hb3)))
    have hle:=hle2.out
    have hlt3:=hlt2.out
    rw[hn.out] at hle
    exact⟨⟨y,hle,Hd ⟨hgp.out.trans hJ.out.1,hend.out⟩,rfl,Hd ((hB.out.trans (HB2.out.mono (by have:=hgw.out;omega))).trans (HB3.out.mono (by have:=hgw.out;have:=HB2.out.size;omega)))⟩,by simp[litLen];omega⟩
   ·have e35:(c ==35)=false:=beq_false_of_ne h35
    have n35:¬(c.toNat:Int)=35:=fun e=>h35 (UInt8.toNat_inj.1 (by show c.toNat=35;omega))
    go_wp2_with fail
    go_ret
    exact⟨by rw[←hJ.out.1,hJ.out.2 (by rw[HC.out];simpa using h35)];rfl,hbw.out⟩
  ·have q3:decide ((j:Int)<(n:Int))=false:=qF (by omega)
   go_wp2_with fail
   go_ret
   exact⟨by rw[←hJ.out.1,hJ.out.2 (by rw[List.getElem?_eq_none (by rw[hn.out];exact hge)];simp)];rfl,hbw.out⟩
theorem gaps_any (l:List UInt8) (nl:l.length≤30000) (m v1 v2 v3 v4 v5:Value) (a:Nat) (ha:a≤l.length) (w:World) (h1:ClassAt w v1 isBlank) (h2:ClassAt w v2 isComment) :
  Calls prog 83 #[.agg #[.string (str l),m,v1,v2,v3,v4,v5],.int .i64 (a:Int)] w fun e w'=>NumPost (gapTo false l a) w e w' :=
 gaps_core l _ (Hd rfl) (by omega) (str_size l) m v1 v2 v3 v4 v5 a ha w (Hd h1) (Hd h2) _ (Hd rfl)
end Go.Proofs.YtpfmlfcaadnnpaaGreatDoor.Lx
namespace Go.Proofs.YtpfmlfcaadnnpaaGreatDoor.Lx
open Go.RowKit Go.Maps
def KeyMap (w:World) (b:Nat) (L:List (List UInt8)):Prop:=∃D:DataW Unit,w.ownsMap prog 9 unitElem b L.length D∧∀x,Maps.has D (.string x)=L.contains x
def WordMap (w:World) (b:Nat):Prop:=b<w.heap.size∧∃(n:Nat) (D:DataW Unit),w.ownsMap prog 9 unitElem b n D∧∀x,Maps.has D (.string x)=wordL x
theorem key_str (S:ByteArray) (h:S.size≤maxLen):keyOf prog 9 (.string S)=some (.string S.data.toList):=by
 simp[keyOf,mapKey,Tryz.underlying9,h]
theorem str_keyed:Keyed prog 9:=string_keyed Tryz.underlying9
theorem zero_unit (w:World):(zeroValue 137).run prog w=.ok (.agg #[]) w:=by kernel_rfl
theorem keyMap_made (w:World):KeyMap (w.alloc (.map #[] 0)) w.heap.size []:=⟨_,World.ownsMap_made _ _ _ _,fun _=>rfl⟩
theorem contains_back (l:List (List UInt8)) (x:List UInt8):l.reverse.contains x=l.contains x:=by rw[Bool.eq_iff_iff];simp
theorem words_back:wordsL.reverse=[[98,111,111,108],[102,105,120],[115,101,116],[114,101,116,117,114,110],[115,113,114,116],[105,115],[111,114],[97,110,100],[110,111,116],[102,97,108,115,101],[116,114,117,101],[102,98,121],[112,114,101],[101,108,115,101],[116,104,101,110],[105,102],[111,117,116],[103,111,116,111],[102,114,111,109],[109,111,100,101],[109,101,109],[117,112],[111,110],[114,101,115,101,116],[105,110,105,116],[100,101,114],[108,101,116],[104,121,98,114,105,100],[110,111,100,101],[102,117,110]]:=rfl
theorem keyMap_put {w:World} {b:Nat} {D:DataW Unit} {L:List (List UInt8)} {n:Nat} (hD:w.ownsMap prog 9 unitElem b n D) (h:∀x,Maps.has D (.string x)=L.contains x) (y x:List UInt8) (d:DataW Unit) :
  Maps.has (D.put (.string y) d) (.string x)=(y :: L).contains x:=by
 by_cases e:x=y
 ·subst e
  rw[has_put_same hD.isMap (by unfold WideAt.IsKeyLit;trivial)]
  simp
 ·rw[has_put_other (by intro e2;cases e2;exact e rfl),h,List.contains_cons,beq_false_of_ne e,Bool.false_or]
theorem wpList_insert_key {ops:Array Oper} {rest:List Oper} {o:Oper} {a:Act} {Q:Exit→Act→World→Prop} (w:World) (hg:o.guard=none) (m x v:Operand)
  (hop:o.op=Op.insert 115 m x v) (b:Nat) (L:List (List UInt8)) (hL:L.length<1000) (h:KeyMap w b L) (S:ByteArray) (hS:S.size≤1000) (hm:a.eval m=.map (some b)) (hx:a.eval x=.string S) (hv:a.eval v=.agg #[])
  (hK:∀w',KeyMap w' b (S.data.toList :: L)→w.grownBy w' (some b)→wpList prog ops Q rest (a.put o.dst undef) w'):wpList prog ops Q (o :: rest) a w:=by
 obtain⟨D,hD,hh⟩:=h
 refine wpList_plain hg fun K' hK'=>?_
 obtain⟨w',hrun,r1,r2⟩:=hD.update str_keyed Tryz.underlying115 (by unfold maxLen;omega) (key_str S (by unfold maxLen;omega)) (unitElem_mk (H:=Unit))
 unfold Oper.wp
 simp[execOp,hop,hm,hx,hv,hrun,Result.andThen]
 exact hK' _ _ (hK w' ⟨_,r1,fun y=>keyMap_put hD hh _ y _⟩ r2)
theorem words_any (w:World):Calls prog 96 #[] w fun e w'=>e=.returned (.map (some w.heap.size))∧WordMap w' w.heap.size∧Below w.heap.size w w':=by
 have hmm:=@run_makeMap prog
 have hM:=Hd (keyMap_made w)
 have hB:=Hd ((qB w.heap.size w).alloc (qL _) (.map #[] 0))
 go_enter Tryz.func96,Tryz.ntmps96
 go_wp2_with (refine wpList_insert_key _ rfl _ _ _ rfl w.heap.size _ ?_ hM.out _ ?_ rfl rfl rfl ?_;(focus (decide));(focus (decide));intro w1 hM1 hg1;replace hM:=Hd hM1;replace hB:=Hd (hB.out.grown hg1 hB.out.size (fun j e=>by cases e;exact qL _));clear hM1 hg1)
 go_ret
 refine⟨rfl,⟨?_,?_⟩,hB.out⟩
 ·obtain⟨D,h1,h2⟩:=hM.out
  exact h1.lt
 ·obtain⟨D,h1,h2⟩:=hM.out
  exact⟨_,D,h1,fun x=>by unfold wordL;rw[h2,←contains_back,←words_back];rfl⟩
theorem WordMap.below {w w':World} {b B:Nat} (h:WordMap w b) (hb:Below B w w') (hB:b<B):WordMap w' b:=by
 obtain⟨hlt,n,D,hD,hh⟩:=h
 refine⟨Nat.lt_of_lt_of_le hlt hb.size,n,D,?_,hh⟩
 obtain⟨es,clock,h1,h2,h3,h4⟩:=hD
 exact⟨es,clock,(hb.block b hB).trans h1,h2,h3,h4⟩
def wordIn (S:ByteArray):Bool:=wordL S.data.toList
end Go.Proofs.YtpfmlfcaadnnpaaGreatDoor.Lx
