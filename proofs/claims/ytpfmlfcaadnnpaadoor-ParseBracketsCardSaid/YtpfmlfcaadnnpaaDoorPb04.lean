import Derived.Test.YtpfmlfcaadnnpaaDoorPb03
import Derived.Deep.QuietTactic
import Derived.BigQuiet
import Derived.Lib.LastIndexByte
import Derived.RangeFuncBox
import Derived.Deep.Slices
import Derived.Test.YtpfmlfcaadnnpaaDoorChecked
import Derived.Deep.Fields
import Derived.Deep.Strs
import Derived.SizedLaws
import Derived.Carry
import Derived.Lib.SmallJoins
import Derived.Lib.QuietBelow
import Derived.WalkKit
import Derived.Deep.RegionHeld3
import Derived.WalkSpells
import Derived.Deep.AppendLies
import Derived.Deep.RegionLaw
set_option maxHeartbeats 16000000
set_option maxRecDepth 100000
set_option linter.unusedVariables false
open Go.Proofs.Tryd(prog)
namespace Go.Proofs.YtpfmlfcaadnnpaaDoor.Lx
def sepB (c:UInt8):Bool:=c ==32||c ==10
def Fol (r r':List UInt8):Prop :=
 r'=[]∨(∃c x',r'=c :: x'∧(sepB c=true∨∃x,r=c :: x∧(x'=[]∨∃d y',x'=d :: y'∧(sepB d=true∨∃y,x=d :: y))))
theorem sep_name {c:UInt8} (h:sepB c=true):isName c=false:=by
 unfold sepB at h
 simp only[Bool.or_eq_true,beq_iff_eq] at h
 rcases h with rfl | rfl <;> decide
theorem sep_dig {c:UInt8} (h:sepB c=true):isDig c=false:=by
 unfold sepB at h
 simp only[Bool.or_eq_true,beq_iff_eq] at h
 rcases h with rfl | rfl <;> decide
theorem sep_not {c:UInt8} (h:sepB c=true):c≠62∧c≠61∧c≠46:=by
 unfold sepB at h
 simp only[Bool.or_eq_true,beq_iff_eq] at h
 rcases h with rfl | rfl <;> decide
theorem Fol.head {r r':List UInt8} (h:Fol r r'):r'=[]∨∃c x',r'=c :: x'∧(sepB c=true∨r.head?=some c):=by
 rcases h with h | ⟨c,x',h1,h2 | ⟨x,h2,_⟩⟩
 ·exact .inl h
 ·exact .inr ⟨c,x',h1,.inl h2⟩
 ·exact .inr ⟨c,x',h1,.inr (by rw[h2];rfl)⟩
theorem takeWhile_all (p:UInt8→Bool) (l:List UInt8):(l.takeWhile p).all p=true:=by
 induction l with
 | nil=>rfl
 | cons c l ih =>
  rw[List.takeWhile_cons]
  split
  ·rename_i h;simp only[List.all_cons,h,ih,Bool.and_self]
  ·rfl
theorem drop_takeWhile (p:UInt8→Bool) (l:List UInt8):l.drop (l.takeWhile p).length=l.dropWhile p:=by
 induction l with
 | nil=>rfl
 | cons c l ih =>
  rw[List.takeWhile_cons,List.dropWhile_cons]
  split <;> simp[ih]
theorem dropWhile_head (p:UInt8→Bool) (l:List UInt8) (c:UInt8) (h:(l.dropWhile p).head?=some c):p c=false:=by
 induction l with
 | nil=>simp at h
 | cons d l ih =>
  rw[List.dropWhile_cons] at h
  split at h
  ·exact ih h
  ·rename_i hd;simp at h;subst h;simpa using hd
theorem takeWhile_split (p:UInt8→Bool) (t r:List UInt8) (ht:t.all p=true) (hr:∀c,r.head?=some c→p c=false):(t++r).takeWhile p=t:=by
 rw[List.takeWhile_append_of_pos (fun a ha=>List.all_eq_true.1 ht a ha)]
 cases r with
 | nil=>simp
 | cons c r=>rw[List.takeWhile_cons,hr c rfl];simp
theorem span_stab {p:UInt8→Bool} (hp:∀c,sepB c=true→p c=false) {l r':List UInt8} (hf:Fol (l.drop (l.takeWhile p).length) r'):((l.take (l.takeWhile p).length)++r').takeWhile p=l.takeWhile p:=by
 have h1:l.take (l.takeWhile p).length=l.takeWhile p:=(List.prefix_iff_eq_take.1 (List.takeWhile_prefix p)).symm
 rw[h1]
 refine takeWhile_split p _ _ (takeWhile_all p l) (fun c hc=>?_)
 rcases hf.head with h | ⟨d,x',h2,h3⟩
 ·rw[h] at hc;simp at hc
 ·rw[h2] at hc
  simp at hc
  subst hc
  rcases h3 with h3 | h3
  ·exact hp _ h3
  ·rw[drop_takeWhile] at h3
   exact dropWhile_head p l _ h3
theorem name_stab {l r':List UInt8} (hf:Fol (l.drop (nameN l)) r'):nameN (l.take (nameN l)++r')=nameN l:=by
 unfold nameN at hf ⊢
 rw[span_stab (fun _=>sep_name) hf]
theorem dig_stab {l r':List UInt8} (hf:Fol (l.drop (digN l)) r'):digN (l.take (digN l)++r')=digN l:=by
 unfold digN at hf ⊢
 rw[span_stab (fun _=>sep_dig) hf]
theorem digN_cons_pos {c:UInt8} {l:List UInt8}:0<digN (c :: l)↔isDig c=true:=by
 unfold digN
 rw[List.takeWhile_cons]
 split
 ·rename_i h;simp[h]
 ·rename_i h;simp at h;simp[h]
theorem num_stab {l r':List UInt8} (hf:Fol (l.drop (numN l)) r'):numN (l.take (numN l)++r')=numN l:=by
 by_cases hc:(l.drop (digN l)).head?=some 46∧0<digN (l.drop (digN l+1))
 ·have hn:numN l=digN l+1+digN (l.drop (digN l+1)):=by unfold numN;rw[if_pos hc]
  obtain⟨x,hx⟩:∃x,l.drop (digN l)=46 :: x:=by
   cases h:l.drop (digN l) with
   | nil=>rw[h] at hc;simp at hc
   | cons c x=>rw[h] at hc;simp at hc;exact⟨x,by rw[hc.1]⟩
  have hx2:l.drop (digN l+1)=x:=by
   have:=congrArg (List.drop 1) hx
   rw[List.drop_drop] at this
   simpa using this
  have hl:l=l.take (digN l)++46 :: x:=by rw[←hx,List.take_append_drop]
  have hlt:(l.take (digN l)).length=digN l:=by rw[List.length_take];have:=digN_le l;omega
  have hdx:l.drop (numN l)=x.drop (digN x):=by rw[hn,hx2,←List.drop_drop,hx2]
  rw[hdx] at hf
  have hn2:numN l=digN l+1+digN x:=by rw[hn,hx2]
  have hc2:0<digN x:=by rw[hx2] at hc;exact hc.2
  have htake:l.take (numN l)=l.take (digN l)++46 :: x.take (digN x):=by
   have h0:l.take (digN l+1+digN x)=(l.take (digN l)++46 :: x).take (digN l+1+digN x):=congrArg (List.take (digN l+1+digN x)) hl
   rw[hn2,h0,List.take_append,hlt,List.take_of_length_le (by rw[hlt];omega),show digN l+1+digN x-digN l=digN x+1 by omega]
   rfl
  rw[htake,List.append_assoc]
  have e1:digN (l.take (digN l)++(46 :: x.take (digN x)++r'))=digN l:=dig_stab (.inr ⟨46,x.take (digN x)++r',rfl,.inr ⟨x,hx,by
   rw[hx2] at hc
   cases x with
   | nil=>simp[digN] at hc
   | cons d y =>
    have hd:isDig d=true:=digN_cons_pos.1 hc.2
    refine .inr ⟨d,(y.take (digN (d :: y)-1))++r',?_,.inr ⟨y,rfl⟩⟩
    obtain⟨k,hk⟩:∃k,digN (d :: y)=k+1:=⟨digN (d :: y)-1,by omega⟩
    rw[hk]
    simp⟩⟩)
  have e2:(l.take (digN l)++(46 :: x.take (digN x)++r')).drop (digN l)=46 :: x.take (digN x)++r':=by
   rw[List.drop_append,hlt,Nat.sub_self,List.drop_zero,List.drop_of_length_le (by rw[hlt];exact qL _)]
   rfl
  have e3:(l.take (digN l)++(46 :: x.take (digN x)++r')).drop (digN l+1)=x.take (digN x)++r':=by
   rw[←List.drop_drop,e2]
   rfl
  have e4:digN (x.take (digN x)++r')=digN x:=dig_stab hf
  rw[hn2]
  unfold numN
  rw[e1,e2,e3,e4,if_pos ⟨rfl,hc2⟩]
 ·have hn:numN l=digN l:=by unfold numN;rw[if_neg hc]
  rw[hn] at hf ⊢
  have hlt:(l.take (digN l)).length=digN l:=by rw[List.length_take];have:=digN_le l;omega
  have e1:=dig_stab hf
  have e2:(l.take (digN l)++r').drop (digN l)=r':=by
   rw[List.drop_append,hlt,Nat.sub_self,List.drop_zero,List.drop_of_length_le (by rw[hlt];exact qL _)]
   rfl
  have e3:(l.take (digN l)++r').drop (digN l+1)=r'.drop 1:=by rw[←List.drop_drop,e2]
  unfold numN
  rw[e1,e2,e3,if_neg]
  rintro⟨h1,h2⟩
  rcases hf with h | ⟨c,x',h,h3⟩
  ·rw[h] at h1;simp at h1
  ·rw[h] at h1 h2
   simp at h1
   subst h1
   rcases h3 with h3 | ⟨x,h3,h4⟩
   ·exact(sep_not h3).2.2 rfl
   ·refine hc ⟨by rw[h3];rfl,?_⟩
    rw[←List.drop_drop,h3]
    rcases h4 with h4 | ⟨d,y',h4,h5⟩
    ·rw[h4] at h2;simp[digN] at h2
    ·rw[h4] at h2
     have hd:isDig d=true:=digN_cons_pos.1 h2
     rcases h5 with h5 | ⟨y,h5⟩
     ·rw[sep_dig h5] at hd;cases hd
     ·rw[h5];exact digN_cons_pos.2 hd
theorem beq_some (a c:UInt8):(a ==c)=(some c ==some a):=by
 by_cases h:a=c
 ·subst h;rw[beq_self_eq_true,beq_self_eq_true]
 ·rw[beq_false_of_ne h,beq_false_of_ne (fun e=>h (qI e).symm)]
theorem find_same {α:Type} (p q:α→Bool) (L:List α) (h:∀s ∈ L,p s=q s):L.find? p=L.find? q:=by
 induction L with
 | nil=>rfl
 | cons s L ih=>rw[List.find?_cons,List.find?_cons,h s (by simp),ih (fun x hx=>h x (by simp[hx]))]
theorem prefix_two (a b:UInt8) (l:List UInt8):[a,b].isPrefixOf l=(l.head? ==some a&&(l.drop 1).head? ==some b):=by
 cases l with
 | nil=>rfl
 | cons c l =>
  cases l with
  | nil=>simp[List.isPrefixOf]
  | cons d l =>
   simp only[List.isPrefixOf,List.head?_cons,List.drop_succ_cons,List.drop_zero,Bool.and_true]
   rw[beq_some a c,beq_some b d]
theorem prefix_one (a:UInt8) (l:List UInt8):[a].isPrefixOf l=(l.head? ==some a):=by
 cases l with
 | nil=>rfl
 | cons c l =>
  simp only[List.isPrefixOf,List.head?_cons,Bool.and_true]
  rw[beq_some a c]
def signBy (a b:Option UInt8):Option (List UInt8):=signsL.find? fun s=>match s with
 | [x,y]=>a ==some x&&b ==some y
 | [x]=>a ==some x
 | _=>false
theorem signOf_by (l:List UInt8):signOf l=signBy l.head? (l.drop 1).head?:=by
 unfold signOf signBy
 refine find_same _ _ _ fun s hs=>?_
 have:(∃x,s=[x])∨∃x y,s=[x,y]:=by
  have h0:∀s ∈ signsL,s.length=1∨s.length=2:=by decide
  rcases h0 s hs with h | h
  ·rcases s with _ | ⟨x,_ | ⟨y,s⟩⟩
   ·simp at h
   ·exact .inl ⟨x,rfl⟩
   ·simp at h
  ·rcases s with _ | ⟨x,_ | ⟨y,_ | ⟨z,s⟩⟩⟩
   ·simp at h
   ·simp at h
   ·exact .inr ⟨x,y,rfl⟩
   ·simp at h
 rcases this with ⟨x,rfl⟩ | ⟨x,y,rfl⟩
 ·exact prefix_one x l
 ·exact prefix_two x y l
theorem signBy_tail (a:Option UInt8) (b b':Option UInt8) (s:List UInt8) (h:signBy a b=some s) (hb:b'=b∨(s.length=1∧b'≠some 62∧b'≠some 61)):signBy a b'=some s:=by
 rcases hb with rfl | ⟨h1,h2,h3⟩
 ·exact h
 ·have e62:(b' ==some 62)=false:=beq_false_of_ne h2
  have e61:(b' ==some 61)=false:=beq_false_of_ne h3
  unfold signBy signsL at h ⊢
  simp only[List.find?_cons,e62,e61,Bool.and_false] at h ⊢
  split at h
  ·cases h;simp at h1
  ·split at h
   ·cases h;simp at h1
   ·split at h
    ·cases h;simp at h1
    ·exact h
theorem sign_stab {l r' s:List UInt8} (h:signOf l=some s) (hf:Fol (l.drop s.length) r'):signOf (l.take s.length++r')=some s:=by
 obtain⟨hm,hp⟩:=signOf_mem h
 have ht:=prefix_take hp
 have hlen:=signs_len hm
 have hs2:s.length=1∨s.length=2:=by omega
 rw[ht]
 rw[signOf_by] at h ⊢
 rcases hs2 with h1 | h1
 ·obtain⟨x,rfl⟩:∃x,s=[x]:=by rcases s with _ | ⟨x,_ | ⟨y,s⟩⟩ <;> first | exact⟨_,rfl⟩ | simp at h1
  obtain⟨l',rfl⟩:∃l',l=x :: l':=by
   cases l with
   | nil=>simp at ht
   | cons c l'=>simp at ht;exact⟨l',by rw[ht]⟩
  simp only[List.cons_append,List.nil_append,List.head?_cons,List.drop_succ_cons,List.drop_zero] at h ⊢
  refine signBy_tail _ _ _ _ h ?_
  have hf':Fol l' r':=hf
  rcases hf'.head with h2 | ⟨c,x',h2,h3 | h3⟩
  ·rw[h2];exact .inr ⟨rfl,by simp,by simp⟩
  ·rw[h2];have:=sep_not h3;exact .inr ⟨rfl,by simpa using this.1,by simpa using this.2.1⟩
  ·rw[h2,h3];exact .inl rfl
 ·obtain⟨x,y,rfl⟩:∃x y,s=[x,y]:=by rcases s with _ | ⟨x,_ | ⟨y,_ | ⟨z,s⟩⟩⟩ <;> first | exact⟨_,_,rfl⟩ | simp at h1
  obtain⟨l',rfl⟩:∃l',l=x :: y :: l':=by
   rcases l with _ | ⟨c,_ | ⟨d,l'⟩⟩
   ·simp at ht
   ·simp at ht
   ·simp at ht;exact⟨l',by rw[ht.1,ht.2]⟩
  exact h
theorem one_stab {l r':List UInt8} {k n:Nat} {v:Int} (h:oneL l=some (k,n,v)) (hf:Fol (l.drop n) r'):oneL (l.take n++r')=some (k,n,v):=by
 have hn:=oneL_some h
 cases l with
 | nil=>cases h
 | cons c l =>
  obtain⟨m,rfl⟩:∃m,n=m+1:=⟨n-1,by omega⟩
  have hcons:(c :: l).take (m+1)++r'=c :: (l.take m++r'):=rfl
  unfold oneL at h
  simp only at h
  rw[hcons]
  unfold oneL
  simp only
  rw[←hcons]
  split at h
  ·rename_i hc
   rw[if_pos hc]
   split at h
   ·rename_i h16
    simp only[Option.some.injEq,Prod.mk.injEq] at h
    obtain⟨h1,h2,h3⟩:=h
    rw[←h2] at hf ⊢
    have e:=name_stab hf
    rw[e,if_pos h16,List.take_left' (by rw[List.length_take];have:=nameN_le (c :: l);omega)]
    rw[h1,h3]
   ·cases h
  ·rename_i hc
   rw[if_neg hc]
   split at h
   ·rename_i hd
    rw[if_pos hd]
    split at h
    ·rename_i hp
     simp only[Option.some.injEq,Prod.mk.injEq] at h
     obtain⟨h1,h2,h3⟩:=h
     rw[←h2] at hf ⊢
     have e:=num_stab hf
     rw[e,List.take_left' (by rw[List.length_take];have:=numN_le (c :: l);omega),if_pos hp,h3,h1]
    ·cases h
   ·rename_i hd
    rw[if_neg hd]
    cases hs:signOf (c :: l) with
    | none=>rw[hs] at h;cases h
    | some s =>
     rw[hs] at h
     simp only[Option.map_some,Option.some.injEq,Prod.mk.injEq] at h
     obtain⟨h1,h2,h3⟩:=h
     rw[←h2] at hf ⊢
     rw[sign_stab hs hf]
     simp only[Option.map_some,Option.some.injEq,Prod.mk.injEq]
     exact⟨h1,trivial,h3⟩
def shiftT (d:Nat) (t:Tok):Tok:=⟨t.kind,t.text,t.v,t.at_+d⟩
theorem drop_shift (p l:List UInt8) (a:Nat):(p++l).drop (p.length+a)=l.drop a:=by rw[List.drop_append,List.drop_of_length_le (by omega)];simp
theorem tokAt_shift (p l:List UInt8) (a:Nat):tokAt (p++l) (p.length+a)=shiftT p.length (tokAt l a):=by
 unfold tokAt
 rw[drop_shift]
 cases oneL (l.drop a) with
 | none=>simp[tokOf,shiftT];omega
 | some x=>obtain⟨k,n,v⟩:=x;simp[tokOf,shiftT];omega
theorem gapTo_shift (b:Bool) (p l:List UInt8) (a:Nat):gapTo b (p++l) (p.length+a)=p.length+gapTo b l a:=by
 unfold gapTo
 rw[drop_shift]
 omega
theorem toks_shift {l:List UInt8} {a:Nat} {ts:List Tok} (p:List UInt8) (h:Toks l a ts none):Toks (p++l) (p.length+a) (ts.map (shiftT p.length)) none:=by
 generalize hr:none=r at h
 induction h with
 | fin h=>exact .fin (by rw[List.length_append];omega)
 | bad=>cases hr
 | @tok a ts r h h1 h2 ih =>
  subst hr
  have h3:=ih rfl
  rw[List.map_cons,←tokAt_shift]
  refine .tok (by rw[List.length_append];omega) (by rw[drop_shift];exact h1) ?_
  rw[tokAt_shift]
  have e:p.length+a+(shiftT p.length (tokAt l a)).text.length=p.length+(a+(tokAt l a).text.length):=by show p.length+a+(tokAt l a).text.length=_;omega
  rw[e,gapTo_shift]
  exact h3
theorem gapN_two (b:Bool) (l q:List UInt8):gapN b (l++10 :: q)=if gapN b l<l.length then gapN b l else l.length+1+gapN false q:=by
 induction l generalizing b with
 | nil=>cases b <;> simp[gapN,isBlank] <;> omega
 | cons c l ih =>
  rw[List.cons_append]
  cases b
  ·simp only[gapN,List.length_cons]
   split
   ·rw[ih];split <;> split <;> omega
   ·split
    ·rw[ih];split <;> split <;> omega
    ·rw[if_pos (by omega)]
  ·simp only[gapN,List.length_cons]
   split
   ·rw[ih];split <;> split <;> omega
   ·rw[ih];split <;> split <;> omega
theorem one_two {l q:List UInt8} {k n:Nat} {v:Int} (h:oneL l=some (k,n,v)):oneL (l++10 :: q)=some (k,n,v):=by
 have e:l++10 :: q=l.take n++(l.drop n++10 :: q):=by rw[←List.append_assoc,List.take_append_drop]
 rw[e]
 refine one_stab h (.inr ?_)
 cases l.drop n with
 | nil=>exact⟨10,q,rfl,.inl rfl⟩
 | cons c x =>
  refine⟨c,x++10 :: q,rfl,.inr ⟨x,rfl,.inr ?_⟩⟩
  cases x with
  | nil=>exact⟨10,q,rfl,.inl rfl⟩
  | cons d y=>exact⟨d,y++10 :: q,rfl,.inr ⟨y,rfl⟩⟩
theorem toks_two {s q:List UInt8} {us:List Tok} (hq:Toks q (gapTo false q 0) us none) {a:Nat} {ts:List Tok} (h:Toks s a ts none) :
  ∀e,e≤s.length→a=gapTo false s e→Toks (s++10 :: q) (gapTo false (s++10 :: q) e) (ts++us.map (shiftT (s.length+1))) none:=by
 have hd:∀e,e≤s.length→(s++10 :: q).drop e=s.drop e++10 :: q:=fun e he=>by rw[List.drop_append_of_le_length he]
 generalize hr:none=r at h
 induction h with
 | fin h =>
  intro e he hae
  have h2:gapN false (s.drop e)=(s.drop e).length:=by
   have:=gapN_le false (s.drop e)
   unfold gapTo at hae
   rw[List.length_drop] at *
   omega
  have h3:gapTo false (s++10 :: q) e=(s++[10]).length+gapTo false q 0:=by
   unfold gapTo
   rw[hd e he,gapN_two,if_neg (by omega),List.length_drop,List.drop_zero]
   simp only[List.length_append,List.length_singleton]
   omega
  rw[h3]
  have h4:=toks_shift (s++[10]) hq
  rw[List.append_assoc] at h4
  simpa using h4
 | bad=>cases hr
 | @tok a ts r h h1 h2 ih =>
  subst hr
  intro e he hae
  have hlen:=tokAt_len h1
  have hg:gapTo false (s++10 :: q) e=a:=by
   rw[hae] at h
   unfold gapTo at h hae ⊢
   rw[hd e he,gapN_two,if_pos (by rw[List.length_drop];omega),hae]
  obtain⟨⟨k,n,v⟩,ho⟩:=Option.ne_none_iff_exists'.1 h1
  have ho2:oneL ((s++10 :: q).drop a)=some (k,n,v):=by rw[hd a (by omega)];exact one_two ho
  have ht:tokAt (s++10 :: q) a=tokAt s a:=by
   unfold tokAt
   rw[ho,ho2]
   show Tok.mk k (((s++10 :: q).drop a).take n) v a=Tok.mk k ((s.drop a).take n) v a
   rw[hd a (by omega),List.take_append_of_le_length (oneL_some ho).2.2.2]
  rw[hg,List.cons_append,←ht]
  refine .tok (by rw[List.length_append,List.length_cons];omega) (by rw[ho2];simp) ?_
  rw[ht]
  exact ih rfl _ hlen.2 rfl
theorem lex_two {s q:List UInt8} {ts us:List Tok} (h1:lexT s ts none) (h2:lexT q us none):lexT (s++10 :: q) (ts++us.map (shiftT (s.length+1))) none:=toks_two h2 h1 0 (Nat.zero_le _) rfl
end Go.Proofs.YtpfmlfcaadnnpaaDoor.Lx
namespace Go.Proofs.YtpfmlfcaadnnpaaDoor.Lx
open Go.RowKit
def CellsAt (w:World) (g i:Nat) (t:Tok):Prop:=w.cell? ⟨g,i*4,none⟩=some (.int .i64 (t.kind:Int))∧w.cell? ⟨g,i*4+1,none⟩=some (.string (str t.text))∧w.cell? ⟨g,i*4+2,none⟩=some (.int .i64 t.v)∧w.cell? ⟨g,i*4+3,none⟩=some (.int .i64 (t.at_:Int))
theorem tokCells_cons (t:Tok) (ts:List Tok):tokCells (t :: ts)=[.int .i64 (t.kind:Int),.string (str t.text),.int .i64 t.v,.int .i64 (t.at_:Int)]++tokCells ts:=rfl
theorem tokCells_at {ts:List Tok} {i:Nat} {t:Tok} (h:ts[i]?=some t):(tokCells ts)[i*4]?=some (.int .i64 (t.kind:Int))∧(tokCells ts)[i*4+1]?=some (.string (str t.text))∧(tokCells ts)[i*4+2]?=some (.int .i64 t.v)∧(tokCells ts)[i*4+3]?=some (.int .i64 (t.at_:Int)):=by
 induction ts generalizing i with
 | nil=>simp at h
 | cons u ts ih =>
  rw[tokCells_cons]
  cases i with
  | zero=>simp at h;subst h;exact⟨rfl,rfl,rfl,rfl⟩
  | succ i =>
   have h2:=ih (i:=i) (by simpa using h)
   have e:∀k,([Value.int .i64 (u.kind:Int),.string (str u.text),.int .i64 u.v,.int .i64 (u.at_:Int)]++tokCells ts)[(i+1)*4+k]?=(tokCells ts)[i*4+k]?:=fun k=>by
    rw[List.getElem?_append_right (by simp;omega)]
    congr 1
    simp
    omega
   exact⟨(e 0).trans h2.1,(e 1).trans h2.2.1,(e 2).trans h2.2.2.1,(e 3).trans h2.2.2.2⟩
def RowAt (w:World) (g:Nat) (ts:List Tok):Prop:=g<w.heap.size∧∀i t,ts[i]?=some t→CellsAt w g i t
theorem RowAt.below {w w':World} {g:Nat} {ts:List Tok} (h:RowAt w g ts) (hb:Below w.heap.size w w'):RowAt w' g ts :=
 ⟨Nat.lt_of_lt_of_le h.1 hb.size,fun i t ht=>by
  obtain⟨h1,h2,h3,h4⟩:=h.2 i t ht
  exact⟨(hb.cell (p:=⟨g,i*4,none⟩) h.1).trans h1,(hb.cell (p:=⟨g,i*4+1,none⟩) h.1).trans h2,(hb.cell (p:=⟨g,i*4+2,none⟩) h.1).trans h3,(hb.cell (p:=⟨g,i*4+3,none⟩) h.1).trans h4⟩⟩
def NoRow (c f:Int) (w:World) (e:Ending) (w':World):Prop:=e=.returned (.tuple #[.slice none 0 0,.agg #[.int .i64 c,.int .i64 f]])∧Below w.heap.size w w'
end Go.Proofs.YtpfmlfcaadnnpaaDoor.Lx
namespace Go.Proofs.YtpfmlfcaadnnpaaDoor.Lx
set_option maxRecDepth 100000
def step (s:Nat×Nat×Nat) (c:UInt8):Nat×Nat×Nat:=if c=46 then(s.1,s.2.1,s.2.2+1) else if s.2.2=0 then(s.1+1,s.2.1,s.2.2) else(s.1,s.2.1+1,s.2.2)
def st (l:List UInt8):Nat×Nat×Nat:=l.foldl step (0,0,0)
end Go.Proofs.YtpfmlfcaadnnpaaDoor.Lx
namespace Go.Proofs.YtpfmlfcaadnnpaaDoor.Lx
open Go.RowKit
set_option maxRecDepth 100000
end Go.Proofs.YtpfmlfcaadnnpaaDoor.Lx
namespace Go.Proofs.YtpfmlfcaadnnpaaDoor.Lx

end Go.Proofs.YtpfmlfcaadnnpaaDoor.Lx
namespace Go.Proofs.YtpfmlfcaadnnpaaDoor
structure Ex where
 kind:Int
 a:Int
 b:Int
 c:Int
 name:ByteArray
 state:ByteArray
 v:Int
 args:List Int
 pos:Int
structure It where
 kind:Int
 name:ByteArray
 type:Int
 e:Int
 f:Int
 states:List ByteArray
 state:ByteArray
 next:ByteArray
 pos:Int
structure Pa where
 name:ByteArray
 type:Int
structure De where
 kind:Int
 name:ByteArray
 params:List Pa
 items:List It
 type:Int
 e:Int
 pos:Int
def manyOf (k:Int):Nat:=if k=4∨k=5∨k=16∨k=21 then 1 else if(6≤k∧k≤14)∨k=17∨k=18 then 2 else if k=15 then 3 else 0
def partsE (x:Ex):List Int:=if x.kind=19 then x.args else [x.a,x.b,x.c].take (manyOf x.kind)
def mostV (k:Int):Int:=if k=1 then 9223372036854775807 else if k=2 then 1 else 0
def namedK (k:Int):Bool:=decide (k=3)||decide (k=19)||decide (k=20)
def mayE (x:Ex) (i:Nat):Bool :=
 decide (1≤x.kind)&&decide (x.kind≤21)&&(partsE x).all (fun p=>decide (0≤p)&&decide (p<(i:Int)))&&([x.a,x.b,x.c].drop (manyOf x.kind)).all (fun p=>decide (p=0)) &&
 (namedK x.kind ==decide (x.name.size≠0))&&(decide (x.kind=20) ==decide (x.state.size≠0))&&(decide (x.kind=19)||decide (x.args.length=0))&&decide (0≤x.v)&&decide (x.v≤mostV x.kind)
end Go.Proofs.YtpfmlfcaadnnpaaDoor
namespace Go.Proofs.YtpfmlfcaadnnpaaDoor
open Lx
structure RS where
 at_:Nat
 exprs:List Ex
 deep:Int
 code:Int
 pos:Int
def tokL (ts:List Tok) (i:Nat):Tok:=ts.getD i ⟨0,[],0,0⟩
def isS (ts:List Tok) (s:List UInt8) (σ:RS):Bool :=
 decide (σ.code=0)&&((decide ((tokL ts σ.at_).kind=3)||decide ((tokL ts σ.at_).kind=4))&&(tokL ts σ.at_).text ==s)
def failS (ts:List Tok) (e:Int) (σ:RS):RS:=if σ.code=0 then { σ with code:=e,pos:=((tokL ts σ.at_).at_:Int) } else σ
def stepS (σ:RS):RS:={ σ with at_:=σ.at_+1 }
def tookS (ts:List Tok) (s:List UInt8) (σ:RS):RS:=if isS ts s σ=true then stepS σ else σ
def wantS (ts:List Tok) (s:List UInt8) (σ:RS):RS:=if isS ts s σ=true then stepS σ else failS ts 2 σ
def nameB (ts:List Tok) (σ:RS):Bool:=decide (σ.code=0)&&decide ((tokL ts σ.at_).kind=1)
def nameS (ts:List Tok) (σ:RS):RS:=if nameB ts σ=true then stepS σ else failS ts 2 σ
def nameV (ts:List Tok) (σ:RS):List UInt8:=if nameB ts σ=true then(tokL ts σ.at_).text else []
def putS (x:Ex) (σ:RS):RS:={ σ with exprs:=σ.exprs++[x] }
def levelsL:List (List UInt8×Int×Int):=[([111,114],1,14),([97,110,100],2,13),([60],3,10),([60,61],3,11),([61,61],3,12),([43],4,6),([45],4,7),([42],5,8),([47],5,9)]
def levelIn (ts:List Tok) (σ:RS) (l:List (List UInt8×Int×Int)):Int×Int:=match l.find? fun p=>isS ts p.1 σ with | some p=>p.2 | none=>(0,0)
def levelS (ts:List Tok) (σ:RS):Int×Int:=levelIn ts σ levelsL
def tooDeep (σ:RS):Bool:=decide (σ.code=0)&&decide (σ.deep=30)
def enterS (ts:List Tok) (σ:RS):RS:=let x:=if tooDeep σ=true then failS ts 3 σ else σ;{ x with deep:=x.deep+1 }
def leaveS (σ:RS):RS:={ σ with deep:=σ.deep-1 }
def okS (σ:RS):Bool:=decide (σ.exprs.length≤40000)&&(decide (0≤σ.deep)&&decide (σ.deep≤30))
def prefixL:List (List UInt8×Int):=[([45],4),([110,111,116],5),([112,114,101],16),([115,113,114,116],21)]
def prefixK (ts:List Tok) (σ:RS) (l:List (List UInt8×Int)):Int:=match l.find? fun p=>isS ts p.1 σ with | some p=>p.2 | none=>0
def ex0:Ex:=⟨0,0,0,0,⟨#[]⟩,⟨#[]⟩,0,[],0⟩
inductive Job where
 | expr
 | pre
 | atom
 | bin (least:Nat)
 | loop (least:Nat) (a:Int)
 | args (acc:List Int)
abbrev Ans:=Option (Int×List Int×RS)
def putA (x:Ex) (σ:RS) (K:Int→RS→Ans):Ans:=if okS σ=true then K (σ.exprs.length:Int) (putS x σ) else none
def atomG (ts:List Tok) (F:Job→RS→Ans) (σ:RS):Ans :=
 let t:=tokL ts σ.at_
 let p:Int:=(t.at_:Int)
 if t.kind=2 then putA { ex0 with kind:=1,v:=t.v,pos:=p } (stepS σ) fun n y=>some (n,[],y) else
 if isS ts [116,114,117,101] σ=true then putA { ex0 with kind:=2,v:=1,pos:=p } (stepS σ) fun n y=>some (n,[],y) else
 if isS ts [102,97,108,115,101] σ=true then putA { ex0 with kind:=2,pos:=p } (stepS σ) fun n y=>some (n,[],y) else
 if t.kind=1 then
  let x:=stepS σ
  if isS ts [105,115] x=true then putA { ex0 with kind:=20,name:=str t.text,state:=str (nameV ts (stepS x)),pos:=p } (nameS ts (stepS x)) fun n y=>some (n,[],y) else
  if isS ts [40] x=true then
   let y:=stepS x
   if isS ts [41] y=true then putA { ex0 with kind:=19,name:=str t.text,pos:=p } (stepS y) fun n z=>some (n,[],z) else
   (F .expr y).bind fun r=>(F (.args [r.1]) r.2.2).bind fun q=>putA { ex0 with kind:=19,name:=str t.text,args:=q.2.1,pos:=p } (wantS ts [41] q.2.2) fun n z=>some (n,[],z)
  else putA { ex0 with kind:=3,name:=str t.text,pos:=p } x fun n y=>some (n,[],y)
 else(F .expr (wantS ts [40] σ)).bind fun r=>some (r.1,[],wantS ts [41] r.2.2)
def preG (ts:List Tok) (F:Job→RS→Ans) (σ:RS):Ans :=
 let x:=enterS ts σ
 if x.code=0 then
  let p:Int:=((tokL ts x.at_).at_:Int)
  let k:=prefixK ts x prefixL
  if k=0 then(F .atom x).bind fun r=>if okS r.2.2=true then some (r.1,[],leaveS r.2.2) else none
  else(F .pre (stepS x)).bind fun r=>putA { ex0 with kind:=k,a:=r.1,pos:=p } r.2.2 fun n y=>some (n,[],leaveS y)
 else some (0,[],leaveS x)
def exprG (ts:List Tok) (F:Job→RS→Ans) (σ:RS):Ans :=
 let x:=enterS ts σ
 if x.code=0 then
  let p:Int:=((tokL ts x.at_).at_:Int)
  if isS ts [105,102] x=true then
   (F .expr (stepS x)).bind fun a=>(F .expr (wantS ts [116,104,101,110] a.2.2)).bind fun b=>(F .expr (wantS ts [101,108,115,101] b.2.2)).bind fun c =>
    putA { ex0 with kind:=15,a:=a.1,b:=b.1,c:=c.1,pos:=p } c.2.2 fun n y=>some (n,[],leaveS y)
  else(F (.bin 1) x).bind fun o =>
   let y:=o.2.2
   let q:Int:=((tokL ts y.at_).at_:Int)
   if isS ts [45,62] y=true then(F .expr (stepS y)).bind fun b=>putA { ex0 with kind:=17,a:=o.1,b:=b.1,pos:=q } b.2.2 fun n z=>some (n,[],leaveS z)
   else if isS ts [102,98,121] y=true then(F .expr (stepS y)).bind fun b=>putA { ex0 with kind:=18,a:=o.1,b:=b.1,pos:=q } b.2.2 fun n z=>some (n,[],leaveS z)
   else if okS y=true then some (o.1,[],leaveS y) else none
 else some (0,[],leaveS x)
def binG (F:Job→RS→Ans) (least:Nat) (σ:RS):Ans:=if 5<least then F .pre σ else(F (.bin (least+1)) σ).bind fun a=>F (.loop least a.1) a.2.2
def loopG (ts:List Tok) (F:Job→RS→Ans) (least:Nat) (a:Int) (σ:RS):Ans :=
 if σ.code=0 then
  if(levelS ts σ).1=(least:Int) then
   (F (.bin (least+1)) (stepS σ)).bind fun b=>putA { ex0 with kind:=(levelS ts σ).2,a:=a,b:=b.1,pos:=((tokL ts σ.at_).at_:Int) } b.2.2 fun n y =>
    if least=3 then some (n,[],y) else F (.loop least n) y
  else some (a,[],σ)
 else some (a,[],σ)
def argsG (ts:List Tok) (F:Job→RS→Ans) (acc:List Int) (σ:RS):Ans :=
 if acc.length≤40000 then if isS ts [44] σ=true then(F .expr (stepS σ)).bind fun r=>F (.args (acc++[r.1])) r.2.2 else some (0,acc,σ) else none
def runE (ts:List Tok):Nat→Job→RS→Ans
 | 0,_,_=>none
 | f+1,j,σ=>if okS σ=true then match j with
  | .expr=>exprG ts (runE ts f) σ
  | .pre=>preG ts (runE ts f) σ
  | .atom=>atomG ts (runE ts f) σ
  | .bin least=>binG (runE ts f) least σ
  | .loop least a=>loopG ts (runE ts f) least a σ
  | .args acc=>argsG ts (runE ts f) acc σ else none
def EndOk (ts:List Tok):Prop:=0<ts.length∧∀i t,ts[i]?=some t→(i+1=ts.length↔t.kind=5)
theorem EndOk.next {ts:List Tok} (h:EndOk ts) {i:Nat} (hi:i<ts.length) (hk:(tokL ts i).kind≠5):i+1<ts.length:=by
 have h1:ts[i]?=some (tokL ts i):=by unfold tokL;rw[List.getD_eq_getElem?_getD,List.getElem?_eq_getElem hi];rfl
 have:=(h.2 i _ h1)
 rcases Nat.lt_or_ge (i+1) ts.length with h2 | h2
 ·exact h2
 ·exact absurd (this.1 (by omega)) hk
theorem isS_kind {ts:List Tok} {s:List UInt8} {σ:RS} (h:isS ts s σ=true):(tokL ts σ.at_).kind≠5∧σ.code=0:=by
 unfold isS at h
 simp only[Bool.and_eq_true,Bool.or_eq_true,decide_eq_true_eq] at h
 refine⟨?_,h.1⟩
 rcases h.2.1 with h1 | h1 <;> omega
end Go.Proofs.YtpfmlfcaadnnpaaDoor
namespace Go.Proofs.YtpfmlfcaadnnpaaDoor
open Go.ChangeShapes Go.WideShapes Go.Deep Go.RowKit
def reachN:Nat:=140737488351232
def CapOk (o:Option Addr) (cap:Nat):Prop:=cap≤maxLen∧(o=none→cap=0)
def SlAt (s:Value) (n sz:Nat) (el:Nat→Nat→Nat→Prop):Prop :=
 ∃o cap b off,s=.slice o n cap∧n≤cap∧CapOk o cap∧(0<n→o=some ⟨b,off,none⟩)∧∀i,i<n→el b (off+i*sz) i
theorem slAt_none (n sz cap:Nat) (o:Option Addr) (el:Nat→Nat→Nat→Prop) (hc:CapOk o cap) (h:n=0):SlAt (.slice o n cap) n sz el:=by
 subst h;exact⟨o,cap,0,0,rfl,Nat.zero_le _,hc,by omega,by omega⟩
theorem slAt_some {n sz cap b off:Nat} {el:Nat→Nat→Nat→Prop} (h1:n≤cap) (h2:cap≤maxLen) (h:∀i,i<n→el b (off+i*sz) i):SlAt (.slice (some ⟨b,off,none⟩) n cap) n sz el:=⟨_,cap,b,off,rfl,h1,⟨h2,fun h=>by cases h⟩,fun _=>rfl,h⟩
theorem SlAt.mono {s:Value} {n sz:Nat} {p q:Nat→Nat→Nat→Prop} (h:SlAt s n sz p) (hpq:∀b o i,i<n→p b o i→q b o i):SlAt s n sz q:=by
 obtain⟨o,cap,b,off,h1,h2,h3,h4,h5⟩:=h
 exact⟨o,cap,b,off,h1,h2,h3,h4,fun i hi=>hpq _ _ _ hi (h5 i hi)⟩
def IntsAt (w:World) (s:Value) (l:List Int):Prop:=SlAt s l.length 1 fun b o i=>w.cell? ⟨b,o,none⟩=some (.int .i64 (l.getD i 0))
def i64ok (n:Int):Prop:=-9223372036854775808≤n∧n≤9223372036854775807
structure ExOk (x:Ex):Prop where
 kind:i64ok x.kind
 a:i64ok x.a
 b:i64ok x.b
 c:i64ok x.c
 v:i64ok x.v
 name:x.name.size≤reachN
 state:x.state.size≤reachN
 args:x.args.length≤reachN
 argsOk:∀n ∈ x.args,i64ok n
def ExAt (w:World) (b o:Nat) (x:Ex):Prop:=∃s,w.cell? ⟨b,o,none⟩=some (.int .i64 x.kind)∧w.cell? ⟨b,o+1,none⟩=some (.int .i64 x.a)∧w.cell? ⟨b,o+2,none⟩=some (.int .i64 x.b) ∧
 w.cell? ⟨b,o+3,none⟩=some (.int .i64 x.c)∧w.cell? ⟨b,o+4,none⟩=some (.string x.name)∧w.cell? ⟨b,o+5,none⟩=some (.string x.state)∧w.cell? ⟨b,o+6,none⟩=some (.int .i64 x.v) ∧
 w.cell? ⟨b,o+7,none⟩=some s∧w.cell? ⟨b,o+8,none⟩=some (.int .i64 x.pos)∧IntsAt w s x.args∧ExOk x
def ExsAt (w:World) (s:Value) (l:List Ex):Prop:=SlAt s l.length 9 fun b o i=>∀x,l[i]?=some x→ExAt w b o x
theorem cell_on {w w':World} (hb:Below w.heap.size w w') {a:Addr} {v:Value} (h:w.cell? a=some v):w'.cell? a=some v:=(hb.cell (World.block_lt_of_cell? _ _ h)).trans h
theorem IntsAt.below {w w':World} {s:Value} {l:List Int} (h:IntsAt w s l) (hb:Below w.heap.size w w'):IntsAt w' s l:=h.mono fun _ _ _ _ h=>cell_on hb h
theorem ExAt.below {w w':World} {b o:Nat} {x:Ex} (h:ExAt w b o x) (hb:Below w.heap.size w w'):ExAt w' b o x:=by
 obtain⟨s,h0,h1,h2,h3,h4,h5,h6,h7,h8,h9,hk⟩:=h
 exact⟨s,cell_on hb h0,cell_on hb h1,cell_on hb h2,cell_on hb h3,cell_on hb h4,cell_on hb h5,cell_on hb h6,cell_on hb h7,cell_on hb h8,h9.below hb,hk⟩
theorem ExsAt.below {w w':World} {s:Value} {l:List Ex} (h:ExsAt w s l) (hb:Below w.heap.size w w'):ExsAt w' s l:=h.mono fun _ _ _ _ h x hx=>(h x hx).below hb
section
variable {H:Type} {enc:TypeId×Value→H} {w:World}
instance:Inhabited Ex:=⟨⟨0,0,0,0,⟨#[]⟩,⟨#[]⟩,0,[],0⟩⟩
instance:Inhabited It:=⟨⟨0,⟨#[]⟩,0,0,0,[],⟨#[]⟩,⟨#[]⟩,0⟩⟩
instance:Inhabited Pa:=⟨⟨⟨#[]⟩,0⟩⟩
instance:Inhabited De:=⟨⟨0,⟨#[]⟩,[],[],0,0,0⟩⟩
end
end Go.Proofs.YtpfmlfcaadnnpaaDoor
namespace Go.Proofs.YtpfmlfcaadnnpaaDoor
open Go.RowKit Lx
def intC (n:Int):Value:=.int .i64 n
def exC (x:Ex) (v:Value):List Value:=[.int .i64 x.kind,.int .i64 x.a,.int .i64 x.b,.int .i64 x.c,.string x.name,.string x.state,.int .i64 x.v,v,.int .i64 x.pos]
def rdCells (l:List (Ex×Value)):List Value:=l.flatMap fun p=>exC p.1 p.2
theorem rdCells_snoc (l:List (Ex×Value)) (p:Ex×Value):rdCells (l++[p])=rdCells l++exC p.1 p.2:=by unfold rdCells;rw[List.flatMap_append];simp
def ExsOwn (W:World) (b:Nat) (xb:Nat→Prop) (v:Value) (l:List Ex):Prop :=
 ∃q:List (Ex×Value),q.map Prod.fst=l∧W.ownsRow (b+1) 38 9 v l.length (rdCells q)∧∀p ∈ q,W.ownsRow (b+1) 3 1 p.2 p.1.args.length (p.1.args.map intC)∧∀k,p.2.ownBlock=some k→¬xb k
def NoEx (o:Obj):Prop:=∀cs,o≠.cells cs 38 (0,0)
structure RK (b:Nat) (W Y:World):Prop where
 os:Y.os=W.os
 tape:Y.tape=W.tape
 output:Y.output=W.output
 size:W.heap.size≤Y.heap.size
 low:∀k,k<b→Y.heap[k]?=W.heap[k]?
 keep:∀(k:Nat) (o:Obj),W.heap[k]?=some o→k≠b→NoEx o→Y.heap[k]?=some o
theorem heap_lt {W:World} {k:Nat} {o:Obj} (h:W.heap[k]?=some o):k<W.heap.size:=(Array.getElem?_eq_some_iff.1 h).1
theorem RK.refl (b:Nat) (W:World):RK b W W:=⟨rfl,rfl,rfl,qL _,fun _ _=>rfl,fun _ _ h _ _=>h⟩
theorem RK.trans {b:Nat} {X Y Z:World} (h:RK b X Y) (k:RK b Y Z):RK b X Z :=
 ⟨k.os.trans h.os,k.tape.trans h.tape,k.output.trans h.output,Nat.le_trans h.size k.size,fun j hj=>(k.low j hj).trans (h.low j hj),fun j o hj hb hn=>k.keep j o (h.keep j o hj hb hn) hb hn⟩
theorem RK.of_below {b:Nat} {W Y:World} (h:Below W.heap.size W Y) (hb:b≤W.heap.size):RK b W Y :=
 ⟨h.os,h.tape,h.output,h.size,fun k hk=>h.block k (by omega),fun k o hk _ _=>(h.block k (heap_lt hk)).trans hk⟩
theorem RK.set {b:Nat} {W:World} (i:Nat) (v:Value):RK b W (W.setCell ⟨b,i,none⟩ v):=by
 have hb:=(qB b W).setCell (p:=⟨b,i,none⟩) (qL _) v
 exact⟨hb.os,hb.tape,hb.output,hb.size,fun k hk=>hb.block k hk,fun k o hk hkb _=>(Below.heap_setCell W ⟨b,i,none⟩ v k hkb).trans hk⟩
theorem NoEx.int {cs:Array Value}:NoEx (.cells cs 3 (0,0)):=fun cs' h=>by cases h
theorem own_keep {W Y:World} {b:Nat} {v:Value} {n:Nat} {xs:List Value} {B:Nat} (h:W.ownsRow B 3 1 v n xs) (hB:b<B) (hk:RK b W Y):Y.ownsRow B 3 1 v n xs:=by
 refine⟨h.1,?_⟩
 rcases h.2 with hn | ⟨g,cap,cur,rfl,hb,hgg,rest⟩
 ·exact .inl hn
 ·exact .inr ⟨g,cap,cur,rfl,hb,hk.keep g _ hgg (by omega) .int,rest⟩
theorem rd_own_same {W Y:World} {e:TypeId} {s:Nat} {v:Value} {n:Nat} {xs:List Value} {B:Nat} (h:W.ownsRow B e s v n xs) (hk:∀k,v.ownBlock=some k→Y.heap[k]?=W.heap[k]?):Y.ownsRow B e s v n xs:=by
 refine⟨h.1,?_⟩
 rcases h.2 with hn | ⟨g,cap,cur,rfl,hb,hgg,rest⟩
 ·exact .inl hn
 ·exact .inr ⟨g,cap,cur,rfl,hb,(hk g rfl).trans hgg,rest⟩
theorem ExsOwn.same {W Y:World} {b:Nat} {xb:Nat→Prop} {v:Value} {l:List Ex} (h:ExsOwn W b xb v l) (hk:∀k,b<k→k<W.heap.size→Y.heap[k]?=W.heap[k]?):ExsOwn Y b xb v l:=by
 obtain⟨q,h1,h2,h3⟩:=h
 exact⟨q,h1,rd_own_same h2 fun k e=>hk k (by have:=(h2.lt k e).1;omega) (h2.lt k e).2,fun p hp=>⟨rd_own_same (h3 p hp).1 fun k e=>hk k (by have:=((h3 p hp).1.lt k e).1;omega) ((h3 p hp).1.lt k e).2,(h3 p hp).2⟩⟩
theorem row_low {W Y:World} {g:Nat} {ts:List Tok} (h:RowAt W g ts) (hk:Y.heap[g]?=W.heap[g]?):RowAt Y g ts:=by
 have hlt:g<Y.heap.size:=by
  have h1:=h.1
  rcases Nat.lt_or_ge g Y.heap.size with h2 | h2
  ·exact h2
  ·rw[Array.getElem?_eq_none h2,Array.getElem?_eq_getElem h1] at hk;cases hk
 refine⟨hlt,fun i t hi=>?_⟩
 obtain⟨h1,h2,h3,h4⟩:=h.2 i t hi
 have hc:∀(j:Nat),Y.cell? ⟨g,j,none⟩=W.cell? ⟨g,j,none⟩:=fun j=>World.cell?_of_block (a:=⟨g,j,none⟩) hk
 exact⟨(hc _).trans h1,(hc _).trans h2,(hc _).trans h3,(hc _).trans h4⟩
theorem set_blk {W:World} {g:Nat} {cs:Array Value} {T:TypeId} {fr:Nat×Nat} (h:W.heap[g]?=some (.cells cs T fr)) (i:Nat) (v:Value):(W.setCell ⟨g,i,none⟩ v).heap[g]?=some (.cells (cs.setIfInBounds i v) T fr):=Lx.set_heap h i v
theorem ex_info:(prog.info? 38).map (fun i=>(i.zero,i.size,i.bytes))=some (some (.agg #[.int .i64 0,.int .i64 0,.int .i64 0,.int .i64 0,.string ⟨#[]⟩,.string ⟨#[]⟩,.int .i64 0,.slice none 0 0,.int .i64 0]),9,104):=by kernel_rfl
def rdV (x:Ex) (v:Value):Value:=.agg #[.int .i64 x.kind,.int .i64 x.a,.int .i64 x.b,.int .i64 x.c,.string x.name,.string x.state,.int .i64 x.v,v,.int .i64 x.pos]
theorem nine_cells (W:World) (x0 x1 x2 x3 x4 x5 x6 x7 x8:Value) (T:TypeId) (j:Nat) (u:Value) (h:[x0,x1,x2,x3,x4,x5,x6,x7,x8][j]?=some u):(W.alloc (.cells #[x0,x1,x2,x3,x4,x5,x6,x7,x8] T)).cell? ((⟨W.heap.size,0,none⟩:Addr).add j)=some u:=by
 have e:(⟨W.heap.size,0,none⟩:Addr).add j=⟨W.heap.size,j,none⟩:=by unfold Addr.add;split <;> simp_all
 rw[e,World.cell?_alloc_new,←h,←Array.getElem?_toList]
theorem RK.grown {b:Nat} {W Y:World} {v:Value} {n:Nat} {xs:List Value} (h:W.ownsRow (b+1) 38 9 v n xs) (hg:W.grownBy Y v.ownBlock) (hb:b≤W.heap.size):RK b W Y :=
 ⟨hg.os,hg.tape,hg.output,hg.size,fun k hk=>hg.block k (by omega) (fun e=>by have:=(h.lt k e.symm).1;omega),fun k o hk hkb hno=>(hg.block k (heap_lt hk) (fun e=>by
  rcases h.2 with ⟨rfl,_⟩ | ⟨g,cap,cur,rfl,_,hgb,_⟩
  ·simp[Value.ownBlock] at e
  ·obtain rfl:k=g:=by simpa [Value.ownBlock] using e
   rw[hk] at hgb
   injection hgb with hgb
   exact hno cur hgb)).trans hk⟩
end Go.Proofs.YtpfmlfcaadnnpaaDoor
namespace Go.Proofs.YtpfmlfcaadnnpaaDoor
open Lx
def Stays (σ τ:RS):Prop:=σ.code≠0→τ.code=σ.code∧τ.pos=σ.pos
theorem Stays.refl (σ:RS):Stays σ σ:=fun _=>⟨rfl,rfl⟩
theorem Stays.trans {σ τ υ:RS} (h:Stays σ τ) (k:Stays τ υ):Stays σ υ:=fun hc=>by
 obtain⟨h1,h2⟩:=h hc
 obtain⟨k1,k2⟩:=k (by rw[h1];exact hc)
 exact⟨k1.trans h1,k2.trans h2⟩
theorem isS_bad {ts:List Tok} {s:List UInt8} {σ:RS} (h:σ.code≠0):isS ts s σ=false:=by unfold isS;simp[h]
theorem stays_want (ts:List Tok) (s:List UInt8) (σ:RS):Stays σ (wantS ts s σ):=fun h=>by unfold wantS failS;rw[isS_bad h];simp[h]
theorem stays_name (ts:List Tok) (σ:RS):Stays σ (nameS ts σ):=fun h=>by unfold nameS nameB failS;simp[h]
theorem stays_step (σ:RS):Stays σ (stepS σ):=fun _=>⟨rfl,rfl⟩
theorem stays_put (x:Ex) (σ:RS):Stays σ (putS x σ):=fun _=>⟨rfl,rfl⟩
theorem stays_enter (ts:List Tok) (σ:RS):Stays σ (enterS ts σ):=fun h=>by unfold enterS tooDeep failS;simp[h]
theorem stays_leave (σ:RS):Stays σ (leaveS σ):=fun _=>⟨rfl,rfl⟩
theorem sputA_some {x:Ex} {σ:RS} {K:Int→RS→Ans} {R:Int×List Int×RS} (h:putA x σ K=some R):okS σ=true∧K (σ.exprs.length:Int) (putS x σ)=some R:=by
 unfold putA at h
 split at h
 ·rename_i hk;exact⟨hk,h⟩
 ·cases h
theorem bind_some' {α β:Type} {x:Option α} {K:α→Option β} {R:β} (h:x.bind K=some R):∃a,x=some a∧K a=some R:=by
 cases x with
 | none=>cases h
 | some a=>exact⟨a,rfl,h⟩
theorem stuck (ts:List Tok):∀(f:Nat) (j:Job) (σ:RS) (R:Int×List Int×RS),runE ts f j σ=some R→Stays σ R.2.2:=by
 intro f
 induction f with
 | zero=>intro j σ R h;cases h
 | succ f ih =>
  intro j σ R h
  simp only[runE] at h
  split at h
  ·cases j with
   | expr =>
    try dsimp only at h
    unfold exprG at h
    try dsimp only at h
    have e:=stays_enter ts σ
    split at h
    ·split at h
     ·obtain⟨a,h1,h⟩:=bind_some' h
      obtain⟨b,h2,h⟩:=bind_some' h
      obtain⟨c,h3,h⟩:=bind_some' h
      obtain⟨_,h⟩:=sputA_some h
      obtain rfl:=qI h
      exact e.trans ((stays_step _).trans ((ih _ _ _ h1).trans ((stays_want _ _ _).trans ((ih _ _ _ h2).trans ((stays_want _ _ _).trans ((ih _ _ _ h3).trans ((stays_put _ _).trans (stays_leave _))))))))
     ·obtain⟨a,h1,h⟩:=bind_some' h
      try dsimp only at h
      split at h
      ·obtain⟨b,h2,h⟩:=bind_some' h
       obtain⟨_,h⟩:=sputA_some h
       obtain rfl:=qI h
       exact e.trans ((ih _ _ _ h1).trans ((stays_step _).trans ((ih _ _ _ h2).trans ((stays_put _ _).trans (stays_leave _)))))
      ·split at h
       ·obtain⟨b,h2,h⟩:=bind_some' h
        obtain⟨_,h⟩:=sputA_some h
        obtain rfl:=qI h
        exact e.trans ((ih _ _ _ h1).trans ((stays_step _).trans ((ih _ _ _ h2).trans ((stays_put _ _).trans (stays_leave _)))))
       ·split at h
        ·obtain rfl:=qI h
         exact e.trans ((ih _ _ _ h1).trans (stays_leave _))
        ·cases h
    ·obtain rfl:=qI h
     exact e.trans (stays_leave _)
   | pre =>
    try dsimp only at h
    unfold preG at h
    try dsimp only at h
    have e:=stays_enter ts σ
    split at h
    ·split at h
     ·obtain⟨a,h1,h⟩:=bind_some' h
      split at h
      ·obtain rfl:=qI h
       exact e.trans ((ih _ _ _ h1).trans (stays_leave _))
      ·cases h
     ·obtain⟨a,h1,h⟩:=bind_some' h
      obtain⟨_,h⟩:=sputA_some h
      obtain rfl:=qI h
      exact e.trans ((stays_step _).trans ((ih _ _ _ h1).trans ((stays_put _ _).trans (stays_leave _))))
    ·obtain rfl:=qI h
     exact e.trans (stays_leave _)
   | atom =>
    try dsimp only at h
    unfold atomG at h
    try dsimp only at h
    split at h
    ·obtain⟨_,h⟩:=sputA_some h
     obtain rfl:=qI h
     exact(stays_step _).trans (stays_put _ _)
    ·split at h
     ·obtain⟨_,h⟩:=sputA_some h
      obtain rfl:=qI h
      exact(stays_step _).trans (stays_put _ _)
     ·split at h
      ·obtain⟨_,h⟩:=sputA_some h
       obtain rfl:=qI h
       exact(stays_step _).trans (stays_put _ _)
      ·split at h
       ·split at h
        ·obtain⟨_,h⟩:=sputA_some h
         obtain rfl:=qI h
         exact(stays_step _).trans ((stays_step _).trans ((stays_name _ _).trans (stays_put _ _)))
        ·split at h
         ·split at h
          ·obtain⟨_,h⟩:=sputA_some h
           obtain rfl:=qI h
           exact(stays_step _).trans ((stays_step _).trans ((stays_step _).trans (stays_put _ _)))
          ·obtain⟨a,h1,h⟩:=bind_some' h
           obtain⟨b,h2,h⟩:=bind_some' h
           obtain⟨_,h⟩:=sputA_some h
           obtain rfl:=qI h
           exact(stays_step _).trans ((stays_step _).trans ((ih _ _ _ h1).trans ((ih _ _ _ h2).trans ((stays_want _ _ _).trans (stays_put _ _)))))
         ·obtain⟨_,h⟩:=sputA_some h
          obtain rfl:=qI h
          exact(stays_step _).trans (stays_put _ _)
       ·obtain⟨a,h1,h⟩:=bind_some' h
        obtain rfl:=qI h
        exact(stays_want _ _ _).trans ((ih _ _ _ h1).trans (stays_want _ _ _))
   | bin least =>
    try dsimp only at h
    unfold binG at h
    split at h
    ·exact ih _ _ _ h
    ·obtain⟨a,h1,h⟩:=bind_some' h
     exact(ih _ _ _ h1).trans (ih _ _ _ h)
   | loop least a =>
    try dsimp only at h
    unfold loopG at h
    split at h
    ·rename_i h0
     intro hc
     exact absurd h0 hc
    ·obtain rfl:=qI h
     exact Stays.refl _
   | args acc =>
    try dsimp only at h
    unfold argsG at h
    split at h
    ·split at h
     ·obtain⟨a,h1,h⟩:=bind_some' h
      exact(stays_step _).trans ((ih _ _ _ h1).trans (ih _ _ _ h))
     ·obtain rfl:=qI h
      exact Stays.refl _
    ·cases h
  ·cases h
theorem stuck_expr {ts:List Tok} {f:Nat} {σ τ:RS} {v:Int} {l:List Int} (j:Job) (h:runE ts f j σ=some (v,l,τ)):Stays σ τ:=stuck ts f j σ _ h
end Go.Proofs.YtpfmlfcaadnnpaaDoor
namespace Go.Proofs.YtpfmlfcaadnnpaaDoor
open Go.RowKit Lx
def sgL:List (List UInt8):=wordsL++signsL
def TxOk (ts:List Tok):Prop:=∀i,(tokL ts i).kind≠3→(tokL ts i).kind≠4→∀s ∈ sgL,(tokL ts i).text≠s
structure Cd (W:World) (b g cap:Nat) (dv:Value) (ts:List Tok) (xb:Nat→Prop) (σ:RS):Prop where
 xlt:∀k,xb k→k<W.heap.size
 blk:∃o c,W.heap[b]?=some (.cells #[.slice (some ⟨g,σ.at_*4,none⟩) (ts.length - σ.at_) (cap - σ.at_),dv,.slice o σ.exprs.length c,.int .i64 σ.deep] 50 (0,0))∧ExsOwn W b xb (.slice o σ.exprs.length c) σ.exprs∧∀k,(Value.slice o σ.exprs.length c).ownBlock=some k→¬xb k
 xnb:¬xb b
 row:RowAt W g ts
 lt:g<b
 at_:σ.at_<ts.length
 len:ts.length≤40000
 cp:ts.length≤cap
 ends:EndOk ts
 tx:TxOk ts
theorem Cd.size {W:World} {b g cap:Nat} {dv:Value} {ts:List Tok} {xb:Nat→Prop} {σ:RS} (h:Cd W b g cap dv ts xb σ):b<W.heap.size:=by
 obtain⟨o,c,h1,_⟩:=h.blk;exact heap_lt h1
structure RX (b:Nat) (xb:Nat→Prop) (W Y:World):Prop where
 rk:RK b W Y
 xs:∀k,xb k→Y.heap[k]?=W.heap[k]?
theorem RX.refl (b:Nat) (xb:Nat→Prop) (W:World):RX b xb W W:=⟨RK.refl _ _,fun _ _=>rfl⟩
theorem RX.trans {b:Nat} {xb:Nat→Prop} {X Y Z:World} (h:RX b xb X Y) (k:RX b xb Y Z):RX b xb X Z:=⟨h.rk.trans k.rk,fun j hj=>(k.xs j hj).trans (h.xs j hj)⟩
theorem RX.of_below {b:Nat} {xb:Nat→Prop} {W Y:World} (h:Below W.heap.size W Y) (hb:b≤W.heap.size) (hx:∀k,xb k→k<W.heap.size):RX b xb W Y:=⟨RK.of_below h hb,fun k hk=>h.block k (hx k hk)⟩
theorem RX.set {b:Nat} {xb:Nat→Prop} {W:World} (hn:¬xb b) (i:Nat) (v:Value):RX b xb W (W.setCell ⟨b,i,none⟩ v):=⟨RK.set i v,fun k hk=>Below.heap_setCell W ⟨b,i,none⟩ v k (fun e=>hn (by have:k=b:=e;rw[←this];exact hk))⟩
theorem RX.size {b:Nat} {xb:Nat→Prop} {W Y:World} (h:RX b xb W Y):W.heap.size≤Y.heap.size:=h.rk.size
theorem RX.keep {b:Nat} {xb:Nat→Prop} {W Y:World} (h:RX b xb W Y) (k:Nat) (o:Obj) (hk:W.heap[k]?=some o) (hb:k≠b) (hn:NoEx o):Y.heap[k]?=some o:=h.rk.keep k o hk hb hn
theorem Cd.below {W Y:World} {b g cap:Nat} {dv:Value} {ts:List Tok} {xb:Nat→Prop} {σ:RS} (h:Cd W b g cap dv ts xb σ) (hb:Below W.heap.size W Y):Cd Y b g cap dv ts xb σ:=by
 have hs:=h.size
 obtain⟨o,c,h1,h2,h3⟩:=h.blk
 exact⟨fun k hk=>Nat.lt_of_lt_of_le (h.xlt k hk) hb.size,⟨o,c,(hb.block b hs).trans h1,h2.same fun k _ hk=>hb.block k hk,h3⟩,h.xnb,row_low h.row (hb.block g (by have:=h.lt;omega)),h.lt,h.at_,h.len,h.cp,h.ends,h.tx⟩
theorem Cd.alloc {W:World} {b g cap:Nat} {dv:Value} {ts:List Tok} {xb:Nat→Prop} {σ:RS} (h:Cd W b g cap dv ts xb σ) (o:Obj):Cd (W.alloc o) b g cap dv ts xb σ:=h.below ((qB _ _).alloc (qL _) o)
theorem Cd.setOne {W:World} {b g cap:Nat} {dv:Value} {ts:List Tok} {xb:Nat→Prop} {σ τ:RS} (h:Cd W b g cap dv ts xb σ) (i:Nat) (v:Value) (he:τ.exprs=σ.exprs) (ht:τ.at_<ts.length)
  (hc:∀x,(#[.slice (some ⟨g,σ.at_*4,none⟩) (ts.length - σ.at_) (cap - σ.at_),dv,x,.int .i64 σ.deep]:Array Value).setIfInBounds i v=#[.slice (some ⟨g,τ.at_*4,none⟩) (ts.length - τ.at_) (cap - τ.at_),dv,x,.int .i64 τ.deep]) :
  Cd (W.setCell ⟨b,i,none⟩ v) b g cap dv ts xb τ:=by
 obtain⟨o,c,h1,h2,h3⟩:=h.blk
 refine⟨fun k hk=>Nat.lt_of_lt_of_le (h.xlt k hk) ((qB b W).setCell (p:=⟨b,i,none⟩) (qL _) v).size,⟨o,c,?_,?_,by rw[he];exact h3⟩,h.xnb,row_low h.row (Below.heap_setCell W ⟨b,i,none⟩ v g (by have:=h.lt;simp;omega)),h.lt,ht,h.len,h.cp,h.ends,h.tx⟩
 ·rw[he,set_blk h1,hc]
 ·rw[he];exact h2.same fun k hk _=>Below.heap_setCell W ⟨b,i,none⟩ v k (by simp;omega)
theorem Cd.setAt {W:World} {b g cap:Nat} {dv:Value} {ts:List Tok} {xb:Nat→Prop} {σ:RS} (h:Cd W b g cap dv ts xb σ) (hk:(tokL ts σ.at_).kind≠5):Cd (W.setCell ⟨b,0,none⟩ (.slice (some ⟨g,(σ.at_+1)*4,none⟩) (ts.length-(σ.at_+1)) (cap-(σ.at_+1)))) b g cap dv ts xb (stepS σ) :=
 h.setOne 0 _ rfl (h.ends.next h.at_ hk) fun x=>by simp[stepS]
theorem Cd.setDeep {W:World} {b g cap:Nat} {dv:Value} {ts:List Tok} {xb:Nat→Prop} {σ:RS} (h:Cd W b g cap dv ts xb σ) (d:Int):Cd (W.setCell ⟨b,3,none⟩ (.int .i64 d)) b g cap dv ts xb { σ with deep:=d } :=
 h.setOne 3 _ rfl h.at_ fun x=>by simp
structure CdCells (W:World) (b g:Nat) (at_ ln cp:Nat) (n:Nat) (dv:Value) (o:Option Addr) (c:Nat) (deep:Int):Prop where
 c0:W.cell? ⟨b,0,none⟩=some (.slice (some ⟨g,at_*4,none⟩) ln cp)
 c1:W.cell? ⟨b,1,none⟩=some dv
 c2:W.cell? ⟨b,2,none⟩=some (.slice o n c)
 c3:W.cell? ⟨b,3,none⟩=some (.int .i64 deep)
 fr:∀i,W.frozen? ⟨b,i,none⟩=false
theorem Cd.cells {W:World} {b g cap:Nat} {dv:Value} {ts:List Tok} {xb:Nat→Prop} {σ:RS} (h:Cd W b g cap dv ts xb σ):∃o c,CdCells W b g σ.at_ (ts.length - σ.at_) (cap - σ.at_) σ.exprs.length dv o c σ.deep∧ExsOwn W b xb (.slice o σ.exprs.length c) σ.exprs∧∀k,(Value.slice o σ.exprs.length c).ownBlock=some k→¬xb k:=by
 obtain⟨o,c,h1,h2⟩:=h.blk
 exact⟨o,c,⟨by simp[World.cell?,h1],by simp[World.cell?,h1],by simp[World.cell?,h1],by simp[World.cell?,h1],fun i=>by simp[World.frozen?,h1]⟩,h2⟩
theorem Cd.tok {W:World} {b g cap:Nat} {dv:Value} {ts:List Tok} {xb:Nat→Prop} {σ:RS} (h:Cd W b g cap dv ts xb σ):CellsAt W g σ.at_ (tokL ts σ.at_) :=
 h.row.2 _ _ (by unfold tokL;rw[List.getD_eq_getElem?_getD,List.getElem?_eq_getElem h.at_];rfl)
def refusalV (c p:Int):Value:=.iface 47 (.agg #[.int .i64 c,.int .i64 p])
def CdRet (b g cap:Nat) (dv:Value) (ts:List Tok) (xb:Nat→Prop) (W:World) (v:Value) (σ:RS) (r:Ending) (Y:World):Prop :=
 RX b xb W Y∧((σ.code=0∧r=.returned v∧Cd Y b g cap dv ts xb σ)∨(σ.code≠0∧r=.panicked [{ v:=refusalV σ.code σ.pos,recovered:=false }]))
def CdOk (b g cap:Nat) (dv:Value) (ts:List Tok) (xb:Nat→Prop) (W:World) (v:Value) (σ:RS) (r:Ending) (Y:World):Prop :=
 r=.returned v∧Hid (Cd Y b g cap dv ts xb σ)∧Hid (RX b xb W Y)
def CdBad (b:Nat) (xb:Nat→Prop) (W:World) (c p:Int) (r:Ending) (Y:World):Prop :=
 r=.panicked [{ v:=refusalV c p,recovered:=false }]∧Hid (RX b xb W Y)
theorem CdRet.ok {b g cap:Nat} {dv:Value} {ts:List Tok} {xb:Nat→Prop} {W:World} {v:Value} {σ:RS} {r:Ending} {Y:World} (h:CdRet b g cap dv ts xb W v σ r Y) (hc:σ.code=0):CdOk b g cap dv ts xb W v σ r Y:=by
 obtain⟨hk,h | h⟩:=h
 ·exact⟨h.2.1,Hd h.2.2,Hd hk⟩
 ·exact absurd hc h.1
theorem CdRet.bad {b g cap:Nat} {dv:Value} {ts:List Tok} {xb:Nat→Prop} {W:World} {v:Value} {σ:RS} {r:Ending} {Y:World} (h:CdRet b g cap dv ts xb W v σ r Y) (hc:σ.code≠0):CdBad b xb W σ.code σ.pos r Y:=by
 obtain⟨hk,h | h⟩:=h
 ·exact absurd h.1 hc
 ·exact⟨h.2,Hd hk⟩
theorem CdBad.ret {b g cap:Nat} {dv:Value} {ts:List Tok} {xb:Nat→Prop} {W:World} {v:Value} {σ τ:RS} {r:Ending} {Y:World} (h:CdBad b xb W σ.code σ.pos r Y) (hc:σ.code≠0) (hs:Stays σ τ):CdRet b g cap dv ts xb W v τ r Y:=by
 obtain⟨h1,h2⟩:=hs hc
 exact⟨h.2.out,.inr ⟨by rw[h1];exact hc,by rw[h1,h2];exact h.1⟩⟩
theorem dummyAny {X:Prop} (P:Program) (w:World) (hx:X):wpAny P Region.Mode.any #[] (fun _ _ _=>True) 0 #[] { tmps:=#[],defers:=[] } w→X:=fun _=>hx
end Go.Proofs.YtpfmlfcaadnnpaaDoor
