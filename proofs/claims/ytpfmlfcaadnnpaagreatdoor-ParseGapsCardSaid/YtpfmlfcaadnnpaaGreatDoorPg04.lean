import Derived.Test.YtpfmlfcaadnnpaaGreatDoorPg03
import Derived.Deep.QuietTactic
import Derived.BigQuiet
import Derived.Lib.LastIndexByte
set_option maxHeartbeats 16000000
set_option maxRecDepth 100000
open Go.Proofs.Tryz(prog)
namespace Go.Proofs.YtpfmlfcaadnnpaaGreatDoor.Lx
def sepB (c:UInt8):Bool:=c ==32||c ==10
def Fol (r r':List UInt8):Prop :=
 r'=[]∨(∃c x',r'=c :: x'∧(sepB c=true∨∃x,r=c :: x∧(x'=[]∨∃d y',x'=d :: y'∧(sepB d=true∨∃y,x=d :: y))))
theorem sep_name {c:UInt8} (h:sepB c=true):isName c=false:=by
 unfold sepB at h
 simp only[Bool.or_eq_true,beq_iff_eq] at h
 rcases h with rfl | rfl <;> decide
theorem sep_dig {c:UInt8} (h:sepB c=true):isDig c=false:=by
 unfold sepB at h
 simp only[Bool.or_eq_true,beq_iff_eq] at h
 rcases h with rfl | rfl <;> decide
theorem sep_not {c:UInt8} (h:sepB c=true):c≠62∧c≠61∧c≠46:=by
 unfold sepB at h
 simp only[Bool.or_eq_true,beq_iff_eq] at h
 rcases h with rfl | rfl <;> decide
theorem Fol.head {r r':List UInt8} (h:Fol r r'):r'=[]∨∃c x',r'=c :: x'∧(sepB c=true∨r.head?=some c):=by
 rcases h with h | ⟨c,x',h1,h2 | ⟨x,h2,_⟩⟩
 ·exact .inl h
 ·exact .inr ⟨c,x',h1,.inl h2⟩
 ·exact .inr ⟨c,x',h1,.inr (by rw[h2];rfl)⟩
theorem takeWhile_all (p:UInt8→Bool) (l:List UInt8):(l.takeWhile p).all p=true:=by
 induction l with
 | nil=>rfl
 | cons c l ih =>
  rw[List.takeWhile_cons]
  split
  ·rename_i h;simp only[List.all_cons,h,ih,Bool.and_self]
  ·rfl
theorem drop_takeWhile (p:UInt8→Bool) (l:List UInt8):l.drop (l.takeWhile p).length=l.dropWhile p:=by
 induction l with
 | nil=>rfl
 | cons c l ih =>
  rw[List.takeWhile_cons,List.dropWhile_cons]
  split <;> simp[ih]
theorem dropWhile_head (p:UInt8→Bool) (l:List UInt8) (c:UInt8) (h:(l.dropWhile p).head?=some c):p c=false:=by
 induction l with
 | nil=>simp at h
 | cons d l ih =>
  rw[List.dropWhile_cons] at h
  split at h
  ·exact ih h
  ·rename_i hd;simp at h;subst h;simpa using hd
theorem takeWhile_split (p:UInt8→Bool) (t r:List UInt8) (ht:t.all p=true) (hr:∀c,r.head?=some c→p c=false):(t++r).takeWhile p=t:=by
 rw[List.takeWhile_append_of_pos (fun a ha=>List.all_eq_true.1 ht a ha)]
 cases r with
 | nil=>simp
 | cons c r=>rw[List.takeWhile_cons,hr c rfl];simp
theorem span_stab {p:UInt8→Bool} (hp:∀c,sepB c=true→p c=false) {l r':List UInt8} (hf:Fol (l.drop (l.takeWhile p).length) r'):((l.take (l.takeWhile p).length)++r').takeWhile p=l.takeWhile p:=by
 have h1:l.take (l.takeWhile p).length=l.takeWhile p:=(List.prefix_iff_eq_take.1 (List.takeWhile_prefix p)).symm
 rw[h1]
 refine takeWhile_split p _ _ (takeWhile_all p l) (fun c hc=>?_)
 rcases hf.head with h | ⟨d,x',h2,h3⟩
 ·rw[h] at hc;simp at hc
 ·rw[h2] at hc
  simp at hc
  subst hc
  rcases h3 with h3 | h3
  ·exact hp _ h3
  ·rw[drop_takeWhile] at h3
   exact dropWhile_head p l _ h3
theorem name_stab {l r':List UInt8} (hf:Fol (l.drop (nameN l)) r'):nameN (l.take (nameN l)++r')=nameN l:=by
 unfold nameN at hf ⊢
 rw[span_stab (fun _=>sep_name) hf]
theorem dig_stab {l r':List UInt8} (hf:Fol (l.drop (digN l)) r'):digN (l.take (digN l)++r')=digN l:=by
 unfold digN at hf ⊢
 rw[span_stab (fun _=>sep_dig) hf]
theorem digN_cons_pos {c:UInt8} {l:List UInt8}:0<digN (c :: l)↔isDig c=true:=by
 unfold digN
 rw[List.takeWhile_cons]
 split
 ·rename_i h;simp[h]
 ·rename_i h;simp at h;simp[h]
theorem num_stab {l r':List UInt8} (hf:Fol (l.drop (numN l)) r'):numN (l.take (numN l)++r')=numN l:=by
 by_cases hc:(l.drop (digN l)).head?=some 46∧0<digN (l.drop (digN l+1))
 ·have hn:numN l=digN l+1+digN (l.drop (digN l+1)):=by unfold numN;rw[if_pos hc]
  obtain⟨x,hx⟩:∃x,l.drop (digN l)=46 :: x:=by
   cases h:l.drop (digN l) with
   | nil=>rw[h] at hc;simp at hc
   | cons c x=>rw[h] at hc;simp at hc;exact⟨x,by rw[hc.1]⟩
  have hx2:l.drop (digN l+1)=x:=by
   have:=congrArg (List.drop 1) hx
   rw[List.drop_drop] at this
   simpa using this
  have hl:l=l.take (digN l)++46 :: x:=by rw[←hx,List.take_append_drop]
  have hlt:(l.take (digN l)).length=digN l:=by rw[List.length_take];have:=digN_le l;omega
  have hdx:l.drop (numN l)=x.drop (digN x):=by rw[hn,hx2,←List.drop_drop,hx2]
  rw[hdx] at hf
  have hn2:numN l=digN l+1+digN x:=by rw[hn,hx2]
  have hc2:0<digN x:=by rw[hx2] at hc;exact hc.2
  have htake:l.take (numN l)=l.take (digN l)++46 :: x.take (digN x):=by
   have h0:l.take (digN l+1+digN x)=(l.take (digN l)++46 :: x).take (digN l+1+digN x):=congrArg (List.take (digN l+1+digN x)) hl
   rw[hn2,h0,List.take_append,hlt,List.take_of_length_le (by rw[hlt];omega),show digN l+1+digN x-digN l=digN x+1 by omega]
   rfl
  rw[htake,List.append_assoc]
  have e1:digN (l.take (digN l)++(46 :: x.take (digN x)++r'))=digN l:=dig_stab (.inr ⟨46,x.take (digN x)++r',rfl,.inr ⟨x,hx,by
   rw[hx2] at hc
   cases x with
   | nil=>simp[digN] at hc
   | cons d y =>
    have hd:isDig d=true:=digN_cons_pos.1 hc.2
    refine .inr ⟨d,(y.take (digN (d :: y)-1))++r',?_,.inr ⟨y,rfl⟩⟩
    obtain⟨k,hk⟩:∃k,digN (d :: y)=k+1:=⟨digN (d :: y)-1,by omega⟩
    rw[hk]
    simp⟩⟩)
  have e2:(l.take (digN l)++(46 :: x.take (digN x)++r')).drop (digN l)=46 :: x.take (digN x)++r':=by
   rw[List.drop_append,hlt,Nat.sub_self,List.drop_zero,List.drop_of_length_le (by rw[hlt];exact qL _)]
   rfl
  have e3:(l.take (digN l)++(46 :: x.take (digN x)++r')).drop (digN l+1)=x.take (digN x)++r':=by
   rw[←List.drop_drop,e2]
   rfl
  have e4:digN (x.take (digN x)++r')=digN x:=dig_stab hf
  rw[hn2]
  unfold numN
  rw[e1,e2,e3,e4,if_pos ⟨rfl,hc2⟩]
 ·have hn:numN l=digN l:=by unfold numN;rw[if_neg hc]
  rw[hn] at hf ⊢
  have hlt:(l.take (digN l)).length=digN l:=by rw[List.length_take];have:=digN_le l;omega
  have e1:=dig_stab hf
  have e2:(l.take (digN l)++r').drop (digN l)=r':=by
   rw[List.drop_append,hlt,Nat.sub_self,List.drop_zero,List.drop_of_length_le (by rw[hlt];exact qL _)]
   rfl
  have e3:(l.take (digN l)++r').drop (digN l+1)=r'.drop 1:=by rw[←List.drop_drop,e2]
  unfold numN
  rw[e1,e2,e3,if_neg]
  rintro⟨h1,h2⟩
  rcases hf with h | ⟨c,x',h,h3⟩
  ·rw[h] at h1;simp at h1
  ·rw[h] at h1 h2
   simp at h1
   subst h1
   rcases h3 with h3 | ⟨x,h3,h4⟩
   ·exact(sep_not h3).2.2 rfl
   ·refine hc ⟨by rw[h3];rfl,?_⟩
    rw[←List.drop_drop,h3]
    rcases h4 with h4 | ⟨d,y',h4,h5⟩
    ·rw[h4] at h2;simp[digN] at h2
    ·rw[h4] at h2
     have hd:isDig d=true:=digN_cons_pos.1 h2
     rcases h5 with h5 | ⟨y,h5⟩
     ·rw[sep_dig h5] at hd;cases hd
     ·rw[h5];exact digN_cons_pos.2 hd
theorem beq_some (a c:UInt8):(a ==c)=(some c ==some a):=by
 by_cases h:a=c
 ·subst h;rw[beq_self_eq_true,beq_self_eq_true]
 ·rw[beq_false_of_ne h,beq_false_of_ne (fun e=>h (qI e).symm)]
theorem find_same {α:Type} (p q:α→Bool) (L:List α) (h:∀s ∈ L,p s=q s):L.find? p=L.find? q:=by
 induction L with
 | nil=>rfl
 | cons s L ih=>rw[List.find?_cons,List.find?_cons,h s (by simp),ih (fun x hx=>h x (by simp[hx]))]
theorem prefix_two (a b:UInt8) (l:List UInt8):[a,b].isPrefixOf l=(l.head? ==some a&&(l.drop 1).head? ==some b):=by
 cases l with
 | nil=>rfl
 | cons c l =>
  cases l with
  | nil=>simp[List.isPrefixOf]
  | cons d l =>
   simp only[List.isPrefixOf,List.head?_cons,List.drop_succ_cons,List.drop_zero,Bool.and_true]
   rw[beq_some a c,beq_some b d]
theorem prefix_one (a:UInt8) (l:List UInt8):[a].isPrefixOf l=(l.head? ==some a):=by
 cases l with
 | nil=>rfl
 | cons c l =>
  simp only[List.isPrefixOf,List.head?_cons,Bool.and_true]
  rw[beq_some a c]
def signBy (a b:Option UInt8):Option (List UInt8):=signsL.find? fun s=>match s with
 | [x,y]=>a ==some x&&b ==some y
 | [x]=>a ==some x
 | _=>false
theorem signOf_by (l:List UInt8):signOf l=signBy l.head? (l.drop 1).head?:=by
 unfold signOf signBy
 refine find_same _ _ _ fun s hs=>?_
 have:(∃x,s=[x])∨∃x y,s=[x,y]:=by
  have h0:∀s ∈ signsL,s.length=1∨s.length=2:=by decide
  rcases h0 s hs with h | h
  ·rcases s with _ | ⟨x,_ | ⟨y,s⟩⟩
   ·simp at h
   ·exact .inl ⟨x,rfl⟩
   ·simp at h
  ·rcases s with _ | ⟨x,_ | ⟨y,_ | ⟨z,s⟩⟩⟩
   ·simp at h
   ·simp at h
   ·exact .inr ⟨x,y,rfl⟩
   ·simp at h
 rcases this with ⟨x,rfl⟩ | ⟨x,y,rfl⟩
 ·exact prefix_one x l
 ·exact prefix_two x y l
theorem signBy_tail (a:Option UInt8) (b b':Option UInt8) (s:List UInt8) (h:signBy a b=some s) (hb:b'=b∨(s.length=1∧b'≠some 62∧b'≠some 61)):signBy a b'=some s:=by
 rcases hb with rfl | ⟨h1,h2,h3⟩
 ·exact h
 ·have e62:(b' ==some 62)=false:=beq_false_of_ne h2
  have e61:(b' ==some 61)=false:=beq_false_of_ne h3
  unfold signBy signsL at h ⊢
  simp only[List.find?_cons,e62,e61,Bool.and_false] at h ⊢
  split at h
  ·cases h;simp at h1
  ·split at h
   ·cases h;simp at h1
   ·split at h
    ·cases h;simp at h1
    ·exact h
theorem sign_stab {l r' s:List UInt8} (h:signOf l=some s) (hf:Fol (l.drop s.length) r'):signOf (l.take s.length++r')=some s:=by
 obtain⟨hm,hp⟩:=signOf_mem h
 have ht:=prefix_take hp
 have hlen:=signs_len hm
 have hs2:s.length=1∨s.length=2:=by omega
 rw[ht]
 rw[signOf_by] at h ⊢
 rcases hs2 with h1 | h1
 ·obtain⟨x,rfl⟩:∃x,s=[x]:=by rcases s with _ | ⟨x,_ | ⟨y,s⟩⟩ <;> first | exact⟨_,rfl⟩ | simp at h1
  obtain⟨l',rfl⟩:∃l',l=x :: l':=by
   cases l with
   | nil=>simp at ht
   | cons c l'=>simp at ht;exact⟨l',by rw[ht]⟩
  simp only[List.cons_append,List.nil_append,List.head?_cons,List.drop_succ_cons,List.drop_zero] at h ⊢
  refine signBy_tail _ _ _ _ h ?_
  have hf':Fol l' r':=hf
  rcases hf'.head with h2 | ⟨c,x',h2,h3 | h3⟩
  ·rw[h2];exact .inr ⟨rfl,by simp,by simp⟩
  ·rw[h2];have:=sep_not h3;exact .inr ⟨rfl,by simpa using this.1,by simpa using this.2.1⟩
  ·rw[h2,h3];exact .inl rfl
 ·obtain⟨x,y,rfl⟩:∃x y,s=[x,y]:=by rcases s with _ | ⟨x,_ | ⟨y,_ | ⟨z,s⟩⟩⟩ <;> first | exact⟨_,_,rfl⟩ | simp at h1
  obtain⟨l',rfl⟩:∃l',l=x :: y :: l':=by
   rcases l with _ | ⟨c,_ | ⟨d,l'⟩⟩
   ·simp at ht
   ·simp at ht
   ·simp at ht;exact⟨l',by rw[ht.1,ht.2]⟩
  exact h
theorem one_stab {l r':List UInt8} {k n:Nat} {v:Int} (h:oneL l=some (k,n,v)) (hf:Fol (l.drop n) r'):oneL (l.take n++r')=some (k,n,v):=by
 have hn:=oneL_some h
 cases l with
 | nil=>cases h
 | cons c l =>
  obtain⟨m,rfl⟩:∃m,n=m+1:=⟨n-1,by omega⟩
  have hcons:(c :: l).take (m+1)++r'=c :: (l.take m++r'):=rfl
  unfold oneL at h
  simp only at h
  rw[hcons]
  unfold oneL
  simp only
  rw[←hcons]
  split at h
  ·rename_i hc
   rw[if_pos hc]
   split at h
   ·rename_i h16
    simp only[Option.some.injEq,Prod.mk.injEq] at h
    obtain⟨h1,h2,h3⟩:=h
    rw[←h2] at hf ⊢
    have e:=name_stab hf
    rw[e,if_pos h16,List.take_left' (by rw[List.length_take];have:=nameN_le (c :: l);omega)]
    rw[h1,h3]
   ·cases h
  ·rename_i hc
   rw[if_neg hc]
   split at h
   ·rename_i hd
    rw[if_pos hd]
    split at h
    ·rename_i hp
     simp only[Option.some.injEq,Prod.mk.injEq] at h
     obtain⟨h1,h2,h3⟩:=h
     rw[←h2] at hf ⊢
     have e:=num_stab hf
     rw[e,List.take_left' (by rw[List.length_take];have:=numN_le (c :: l);omega),if_pos hp,h3,h1]
    ·cases h
   ·rename_i hd
    rw[if_neg hd]
    cases hs:signOf (c :: l) with
    | none=>rw[hs] at h;cases h
    | some s =>
     rw[hs] at h
     simp only[Option.map_some,Option.some.injEq,Prod.mk.injEq] at h
     obtain⟨h1,h2,h3⟩:=h
     rw[←h2] at hf ⊢
     rw[sign_stab hs hf]
     simp only[Option.map_some,Option.some.injEq,Prod.mk.injEq]
     exact⟨h1,trivial,h3⟩
theorem drop_shift (p l:List UInt8) (a:Nat):(p++l).drop (p.length+a)=l.drop a:=by rw[List.drop_append,List.drop_of_length_le (by omega)];simp
def Good (t:Tok):Prop:=oneL t.text=some (t.kind,t.text.length,t.v)
def joinT:List Tok→List UInt8
 | []=>[]
 | [t]=>t.text
 | t :: u :: ts=>t.text++32 :: joinT (u :: ts)
def placed:Nat→List Tok→List Tok
 | _,[]=>[]
 | n,t :: ts=>⟨t.kind,t.text,t.v,n⟩ :: placed (n+t.text.length+1) ts
theorem toks_good {l:List UInt8} {a:Nat} {ts:List Tok} {r:Option Nat} (h:Toks l a ts r):∀t ∈ ts,Good t:=by
 induction h with
 | fin=>intro t ht;simp at ht
 | bad=>intro t ht;simp at ht
 | @tok a ts r h h1 h2 ih =>
  intro t ht
  rcases List.mem_cons.1 ht with rfl | ht
  ·obtain⟨⟨k,n,v⟩,ho⟩:=Option.ne_none_iff_exists'.1 h1
   unfold Good tokAt
   rw[ho]
   show oneL ((l.drop a).take n)=some (k,((l.drop a).take n).length,v)
   have hn:=(oneL_some ho).2.2.2
   rw[List.length_take,Nat.min_eq_left hn]
   have:=one_stab ho (r':=[]) (.inl rfl)
   rwa [List.append_nil] at this
  ·exact ih t ht
theorem one_nogap {l:List UInt8} {k n:Nat} {v:Int} (h:oneL l=some (k,n,v)) (x:List UInt8):gapN false (l++x)=0:=by
 cases l with
 | nil=>cases h
 | cons c l =>
  have key:c≠35∧isBlank c=false:=by
   unfold oneL at h
   simp only at h
   split at h
   ·rename_i hc
    constructor
    ·rintro rfl;revert hc;decide
    ·cases hb:isBlank c with
     | false=>rfl
     | true =>
      unfold isBlank at hb
      simp only[Bool.or_eq_true,beq_iff_eq] at hb
      rcases hb with rfl | rfl | rfl | rfl <;> (revert hc;decide)
   ·split at h
    ·rename_i hc
     constructor
     ·rintro rfl;revert hc;decide
     ·cases hb:isBlank c with
      | false=>rfl
      | true =>
       unfold isBlank at hb
       simp only[Bool.or_eq_true,beq_iff_eq] at hb
       rcases hb with rfl | rfl | rfl | rfl <;> (revert hc;decide)
    ·cases hs:signOf (c :: l) with
     | none=>rw[hs] at h;cases h
     | some s =>
      obtain⟨h1,h2⟩:=signOf_mem hs
      have h3:∀s ∈ signsL,∀d,s.head?=some d→d≠35∧isBlank d=false:=by decide
      have h4:=prefix_take h2
      have h5:=signs_len h1
      refine h3 s h1 c ?_
      cases s with
      | nil=>simp at h5
      | cons d s=>simp at h4;rw[←h4.1];rfl
  rw[List.cons_append,gapN,if_neg key.1,if_neg (by rw[key.2];simp)]
def joinR:List Tok→List UInt8
 | []=>[]
 | u :: us=>32 :: joinT (u :: us)
theorem join_cons (t:Tok) (ts:List Tok):joinT (t :: ts)=t.text++joinR ts:=by
 cases ts with
 | nil=>simp[joinT,joinR]
 | cons u us=>rfl
theorem join_nogap {ts:List Tok} (h:∀t ∈ ts,Good t):gapN false (joinT ts)=0:=by
 cases ts with
 | nil=>rfl
 | cons t ts=>rw[join_cons];exact one_nogap (h t (by simp)) _
theorem toks_join (ts:List Tok) (h:∀t ∈ ts,Good t) (p:List UInt8):Toks (p++joinT ts) p.length (placed p.length ts) none:=by
 induction ts generalizing p with
 | nil=>exact .fin (by simp[joinT])
 | cons t ts ih =>
  have hg:Good t:=h t (by simp)
  have hdrop:(p++joinT (t :: ts)).drop p.length=t.text++joinR ts:=by
   have:=drop_shift p (joinT (t :: ts)) 0
   simp only[Nat.add_zero,List.drop_zero] at this
   rw[this,join_cons]
  have hone:oneL ((p++joinT (t :: ts)).drop p.length)=some (t.kind,t.text.length,t.v):=by
   rw[hdrop]
   have:=one_stab (l:=t.text) hg (r':=joinR ts) (by
    cases ts with
    | nil=>exact .inl rfl
    | cons u us=>exact .inr ⟨32,_,rfl,.inl rfl⟩)
   rwa [List.take_length] at this
  have htok:tokAt (p++joinT (t :: ts)) p.length=⟨t.kind,t.text,t.v,p.length⟩:=by
   unfold tokAt
   rw[hone]
   show Tok.mk t.kind (((p++joinT (t :: ts)).drop p.length).take t.text.length) t.v p.length=_
   rw[hdrop,List.take_left]
  have hpos:=(oneL_some hg).2.2.1
  show Toks _ _ (⟨t.kind,t.text,t.v,p.length⟩ :: placed (p.length+t.text.length+1) ts) none
  rw[←htok]
  refine .tok (by rw[List.length_append,join_cons,List.length_append];omega) (by rw[hone];simp) ?_
  rw[htok]
  cases ts with
  | nil =>
   have e:gapTo false (p++joinT [t]) (p.length+t.text.length)=p.length+t.text.length:=gapTo_end false (by rw[List.length_append];exact qL _)
   rw[e]
   exact .fin (by rw[List.length_append];exact qL _)
  | cons u us =>
   have e0:p++joinT (t :: u :: us)=(p++t.text++[32])++joinT (u :: us):=by rw[join_cons];simp[joinR]
   have e1:(p++t.text++[32]).length=p.length+t.text.length+1:=by simp;omega
   have e2:gapTo false (p++joinT (t :: u :: us)) (p.length+t.text.length)=p.length+t.text.length+1:=by
    unfold gapTo
    have e3:(p++joinT (t :: u :: us)).drop (p.length+t.text.length)=32 :: joinT (u :: us):=by
     rw[drop_shift,join_cons,List.drop_left];rfl
    rw[e3,gapN,if_neg (by decide),if_pos (by decide),join_nogap (fun x hx=>h x (by simp at hx ⊢;exact .inr hx))]
   rw[e2,e0,←e1]
   exact ih (fun x hx=>h x (List.mem_cons_of_mem _ hx)) _
theorem lex_join (ts:List Tok) (h:∀t ∈ ts,Good t):lexT (joinT ts) (placed 0 ts) none:=by
 unfold lexT
 have e:gapTo false (joinT ts) 0=0:=by unfold gapTo;rw[List.drop_zero,join_nogap h]
 rw[e]
 exact toks_join ts h []
end Go.Proofs.YtpfmlfcaadnnpaaGreatDoor.Lx
namespace Go.Proofs.YtpfmlfcaadnnpaaGreatDoor.Lx
open Go.RowKit
def CellsAt (w:World) (g i:Nat) (t:Tok):Prop:=w.cell? ⟨g,i*4,none⟩=some (.int .i64 (t.kind:Int))∧w.cell? ⟨g,i*4+1,none⟩=some (.string (str t.text))∧w.cell? ⟨g,i*4+2,none⟩=some (.int .i64 t.v)∧w.cell? ⟨g,i*4+3,none⟩=some (.int .i64 (t.at_:Int))
theorem tokCells_cons (t:Tok) (ts:List Tok):tokCells (t :: ts)=[.int .i64 (t.kind:Int),.string (str t.text),.int .i64 t.v,.int .i64 (t.at_:Int)]++tokCells ts:=rfl
theorem tokCells_at {ts:List Tok} {i:Nat} {t:Tok} (h:ts[i]?=some t):(tokCells ts)[i*4]?=some (.int .i64 (t.kind:Int))∧(tokCells ts)[i*4+1]?=some (.string (str t.text))∧(tokCells ts)[i*4+2]?=some (.int .i64 t.v)∧(tokCells ts)[i*4+3]?=some (.int .i64 (t.at_:Int)):=by
 induction ts generalizing i with
 | nil=>simp at h
 | cons u ts ih =>
  rw[tokCells_cons]
  cases i with
  | zero=>simp at h;subst h;exact⟨rfl,rfl,rfl,rfl⟩
  | succ i =>
   have h2:=ih (i:=i) (by simpa using h)
   have e:∀k,([Value.int .i64 (u.kind:Int),.string (str u.text),.int .i64 u.v,.int .i64 (u.at_:Int)]++tokCells ts)[(i+1)*4+k]?=(tokCells ts)[i*4+k]?:=fun k=>by
    rw[List.getElem?_append_right (by simp;omega)]
    congr 1
    simp
    omega
   exact⟨(e 0).trans h2.1,(e 1).trans h2.2.1,(e 2).trans h2.2.2.1,(e 3).trans h2.2.2.2⟩
def RowAt (w:World) (g:Nat) (ts:List Tok):Prop:=g<w.heap.size∧∀i t,ts[i]?=some t→CellsAt w g i t
theorem RowAt.below {w w':World} {g:Nat} {ts:List Tok} (h:RowAt w g ts) (hb:Below w.heap.size w w'):RowAt w' g ts :=
 ⟨Nat.lt_of_lt_of_le h.1 hb.size,fun i t ht=>by
  obtain⟨h1,h2,h3,h4⟩:=h.2 i t ht
  exact⟨(hb.cell (p:=⟨g,i*4,none⟩) h.1).trans h1,(hb.cell (p:=⟨g,i*4+1,none⟩) h.1).trans h2,(hb.cell (p:=⟨g,i*4+2,none⟩) h.1).trans h3,(hb.cell (p:=⟨g,i*4+3,none⟩) h.1).trans h4⟩⟩
def NoRow (c f:Int) (w:World) (e:Ending) (w':World):Prop:=e=.returned (.tuple #[.slice none 0 0,.agg #[.int .i64 c,.int .i64 f]])∧Below w.heap.size w w'
def SomeRow (us:List Tok) (p:Nat) (w:World) (e:Ending) (w':World):Prop:=∃g cap,e=.returned (.tuple #[.slice (some ⟨g,0,none⟩) p cap,.agg #[.int .i64 0,.int .i64 0]])∧Below w.heap.size w w'∧RowAt w' g us
def RefLex:Prop:=∀(l:List UInt8) (ts:List Tok) (r:Option Nat),lexT l ts r→∀W,Calls prog 13 #[.string (str l)] W fun e w' =>
 (20000<l.length→NoRow 10 0 W e w')∧(l.length≤20000→match r with | some f=>NoRow 1 (f:Int) W e w' | none=>SomeRow (ts++[endT l.length]) (ts.length+1) W e w')
theorem letter_core (x:Nat) (hx:(x:Int)≤255) (R:Bool) (hR:Hid (R=((decide (97≤x)&&decide (x≤122))||((decide (65≤x)&&decide (x≤90))||decide (x=95))))) (w:World) :
  Calls prog 53 #[.int .u8 (x:Int)] w fun e w'=>e=.returned (.bool R)∧w'=w:=by
 by_cases h65:65≤x
 ·have q65:decide ((65:Int)≤(x:Int))=true:=qT (by omega)
  by_cases h90:x≤90
  ·have q90:decide ((x:Int)≤90)=true:=qT (by omega)
   obtain rfl:R=true:=by rw[hR.out,qT h65,qT h90];simp
   clear hR
   go_enter Tryz.func53,Tryz.ntmps53
   go_wp2_with fail
   go_ret
   exact⟨rfl,rfl⟩
  ·have q90:decide ((x:Int)≤90)=false:=qF (by omega)
   by_cases h97:97≤x
   ·have q97:decide ((97:Int)≤(x:Int))=true:=qT (by omega)
    by_cases h122:x≤122
    ·have q122:decide ((x:Int)≤122)=true:=qT (by omega)
     obtain rfl:R=true:=by rw[hR.out,qT h97,qT h122];simp
     clear hR
     go_enter Tryz.func53,Tryz.ntmps53
     go_wp2_with fail
     go_ret
     exact⟨rfl,rfl⟩
    ·have q122:decide ((x:Int)≤122)=false:=qF (by omega)
     have n95:¬(x:Int)=95:=by omega
     have m95:((x:Int) ==95)=false:=beq_false_of_ne n95
     obtain rfl:R=false:=by rw[hR.out,qF h122,qF h90,qF (show ¬x=95 by omega)];simp
     clear hR
     go_enter Tryz.func53,Tryz.ntmps53
     go_wp2_with fail
     go_ret
     exact⟨rfl,rfl⟩
   ·have q97:decide ((97:Int)≤(x:Int))=false:=qF (by omega)
    by_cases h95:x=95
    ·subst h95
     obtain rfl:R=true:=by rw[hR.out];rfl
     clear hR
     go_enter Tryz.func53,Tryz.ntmps53
     go_wp2_with fail
     go_ret
     exact⟨rfl,rfl⟩
    ·have n95:¬(x:Int)=95:=by omega
     have m95:((x:Int) ==95)=false:=beq_false_of_ne n95
     obtain rfl:R=false:=by rw[hR.out,qF h97,qF h90,qF h95];simp
     clear hR
     go_enter Tryz.func53,Tryz.ntmps53
     go_wp2_with fail
     go_ret
     exact⟨rfl,rfl⟩
 ·have q65:decide ((65:Int)≤(x:Int))=false:=qF (by omega)
  have q97:decide ((97:Int)≤(x:Int))=false:=qF (by omega)
  have n95:¬(x:Int)=95:=by omega
  have m95:((x:Int) ==95)=false:=beq_false_of_ne n95
  obtain rfl:R=false:=by rw[hR.out,qF h65,qF (show ¬97≤x by omega),qF (show ¬x=95 by omega)];simp
  clear hR
  go_enter Tryz.func53,Tryz.ntmps53
  go_wp2_with fail
  go_ret
  exact⟨rfl,rfl⟩
theorem u8_95 (c:UInt8):(c ==95)=decide (c.toNat=95):=by
 rw[Bool.eq_iff_iff]
 simp only[beq_iff_eq,decide_eq_true_eq]
 exact⟨fun h=>by rw[h];rfl,fun h=>UInt8.toNat_inj.1 (by rw[h];rfl)⟩
theorem letter_ref (c:UInt8) (w:World):Calls prog 53 #[.int .u8 (c.toNat:Int)] w fun e w'=>e=.returned (.bool (isLetter c))∧w'=w :=
 letter_core c.toNat (by have:=c.toNat_lt;omega) _ (Hd (by unfold isLetter;rw[u8_95])) w
theorem digit_core (x:Nat) (R:Bool) (hR:Hid (R=(decide (48≤x)&&decide (x≤57)))) (w:World) :
  Calls prog 54 #[.int .u8 (x:Int)] w fun e w'=>e=.returned (.bool R)∧w'=w:=by
 by_cases h48:48≤x
 ·have q48:decide ((48:Int)≤(x:Int))=true:=qT (by omega)
  by_cases h57:x≤57
  ·have q57:decide ((x:Int)≤57)=true:=qT (by omega)
   obtain rfl:R=true:=by rw[hR.out,qT h48,qT h57];rfl
   clear hR
   go_enter Tryz.func54,Tryz.ntmps54
   go_wp2_with fail
   go_ret
   exact⟨rfl,rfl⟩
  ·have q57:decide ((x:Int)≤57)=false:=qF (by omega)
   obtain rfl:R=false:=by rw[hR.out,qF h57];simp
   clear hR
   go_enter Tryz.func54,Tryz.ntmps54
   go_wp2_with fail
   go_ret
   exact⟨rfl,rfl⟩
 ·have q48:decide ((48:Int)≤(x:Int))=false:=qF (by omega)
  obtain rfl:R=false:=by rw[hR.out,qF h48];rfl
  clear hR
  go_enter Tryz.func54,Tryz.ntmps54
  go_wp2_with fail
  go_ret
  exact⟨rfl,rfl⟩
theorem digit_ref (c:UInt8) (w:World):Calls prog 54 #[.int .u8 (c.toNat:Int)] w fun e w'=>e=.returned (.bool (isDig c))∧w'=w :=
 digit_core c.toNat _ (Hd rfl) w
theorem byte_ne {c k:UInt8} (h:c≠k) (K:Int) (hK:(k.toNat:Int)=K):(c ==k)=false∧(c !=k)=true∧¬(c.toNat:Int)=K∧((c.toNat:Int) ==K)=false∧((c.toNat:Int) !=K)=true:=by
 have h2:¬(c.toNat:Int)=K:=fun e=>h (UInt8.toNat_inj.1 (by omega))
 exact⟨beq_false_of_ne h,bne_iff_ne.2 h,h2,beq_false_of_ne h2,bne_iff_ne.2 h2⟩
theorem skip_core (l:List UInt8) (n:Nat) (hn:Hid (l.length=n)) (nl:(n:Int)≤30000) (hs:(str l).size=n) (a:Nat) (ha:a≤n) (R:Nat) (hR:Hid (gapTo false l a=R)) (w:World) :
  Calls prog 27 #[.string (str l),.int .i64 (a:Int)] w fun e w'=>e=.returned (.int .i64 (R:Int))∧w'=w:=by
 go_enter Tryz.func27,Tryz.ntmps27
 go_wp2_with fail
 go_loop [1,5] (fun i b=>∃(j:Nat) (cm:Bool),j≤n∧Hid (gapTo cm l j=R)∧i=.int .i64 j∧b=.bool cm) (fun i _=>n-litLen i)
 case atStart=>exact⟨a,false,ha,hR,rfl,rfl⟩
 case round =>
  obtain⟨j,cm,hj,hr,rfl,rfl⟩:=hrel
  rcases Nat.lt_or_ge j n with hlt | hge
  ·have q3:decide ((j:Int)<(n:Int))=true:=qT (by omega)
   obtain⟨c,hcj⟩:=isBehind hn.out hlt
   have hix:∀h,(str l)[j]'h=c:=fun h=>str_at l hcj h
   have HC:=Hd hcj
   clear hcj
   cases cm with
   | true =>
    by_cases h10:c=10
    ·subst h10
     go_wp2_with fail
     exact⟨⟨j+1,false,by omega,Hd (by rw[←gapTo_line HC.out];exact hr.out),rfl,rfl⟩,by simp[litLen];omega⟩
    ·obtain⟨b1,b2,b3,b4,b5⟩:=byte_ne h10 10 rfl
     have HT:=Hd h10
     clear h10
     go_wp2_with fail
     exact⟨⟨j+1,true,by omega,Hd (by rw[←gapTo_comment HC.out HT.out];exact hr.out),rfl,rfl⟩,by simp[litLen];omega⟩
   | false =>
    by_cases h35:c=35
    ·subst h35
     go_wp2_with fail
     exact⟨⟨j+1,true,by omega,Hd (by rw[←gapTo_hash HC.out];exact hr.out),rfl,rfl⟩,by simp[litLen];omega⟩
    ·obtain⟨b1,b2,b3,b4,b5⟩:=byte_ne h35 35 rfl
     have H35:=Hd h35
     clear h35
     by_cases h32:c=32
     ·subst h32
      go_wp2_with fail
      exact⟨⟨j+1,false,by omega,Hd (by rw[←gapTo_blank HC.out (by decide)];exact hr.out),rfl,rfl⟩,by simp[litLen];omega⟩
     ·obtain⟨c1,c2,c3,c4,c5⟩:=byte_ne h32 32 rfl
      have H32:=Hd h32
      clear h32
      by_cases h9:c=9
      ·subst h9
       go_wp2_with fail
       exact⟨⟨j+1,false,by omega,Hd (by rw[←gapTo_blank HC.out (by decide)];exact hr.out),rfl,rfl⟩,by simp[litLen];omega⟩
      ·obtain⟨d1,d2,d3,d4,d5⟩:=byte_ne h9 9 rfl
       have H9:=Hd h9
       clear h9
       by_cases h10:c=10
       ·subst h10
        go_wp2_with fail
        exact⟨⟨j+1,false,by omega,Hd (by rw[←gapTo_blank HC.out (by decide)];exact hr.out),rfl,rfl⟩,by simp[litLen];omega⟩
       ·obtain⟨e1,e2,e3,e4,e5⟩:=byte_ne h10 10 rfl
        have H10:=Hd h10
        clear h10
        by_cases h13:c=13
        ·subst h13
         go_wp2_with fail
         exact⟨⟨j+1,false,by omega,Hd (by rw[←gapTo_blank HC.out (by decide)];exact hr.out),rfl,rfl⟩,by simp[litLen];omega⟩
        ·obtain⟨f1,f2,f3,f4,f5⟩:=byte_ne h13 13 rfl
         have hst:=Hd (gapTo_stop HC.out H35.out (by unfold isBlank;rw[c1,d1,e1,f1];rfl))
         clear h13
         go_wp2_with fail
         go_ret
         exact⟨by rw[←hr.out,hst.out];rfl,rfl⟩
  ·have q3:decide ((j:Int)<(n:Int))=false:=qF (by omega)
   have hst:=Hd (gapTo_end cm (l:=l) (a:=j) (by rw[hn.out];exact hge))
   go_wp2_with fail
   go_ret
   exact⟨by rw[←hr.out,hst.out];rfl,rfl⟩
theorem skip_ref (l:List UInt8) (nl:l.length≤30000) (a:Nat) (ha:a≤l.length) (w:World) :
  Calls prog 27 #[.string (str l),.int .i64 (a:Int)] w fun e w'=>e=.returned (.int .i64 ((gapTo false l a:Nat):Int))∧w'=w :=
 skip_core l _ (Hd rfl) (by omega) (str_size l) a ha _ (Hd rfl) w
def wordCells:Array Value:=(wordsL.map fun s=>Value.string (str s)).toArray
theorem bytes_eq (a b:List UInt8):((str a).toList ==(str b).toList)=(a ==b):=by rw[str_toList,str_toList]
theorem word_ref (l:List UInt8) (R:Bool) (hR:Hid (R=wordL l)) (w:World):Calls prog 55 #[.string (str l)] w fun e w'=>e=.returned (.bool R)∧Below w.heap.size w w':=by
 have hcell:Hid (∀(j:Nat) s,wordsL[j]?=some s→(w.alloc (.cells wordCells 9)).cell? ⟨w.heap.size,j,none⟩=some (.string (str s))):=Hd fun j s hs=>by
  rw[World.cell?_alloc_new]
  unfold wordCells
  rw[List.getElem?_toArray,List.getElem?_map,hs]
  rfl
 have hb:=Hd ((qB w.heap.size w).alloc (qL _) (.cells wordCells 9))
 go_enter Tryz.func55,Tryz.ntmps55
 go_wp2_with fail
 obtain⟨W1,hW1⟩:∃W1,W1=w.alloc (.cells wordCells 9):=⟨_,rfl⟩
 rw[←hW1] at hcell hb
 change Code.wp _ _ _ _ (w.alloc (.cells wordCells 9))
 rw[←hW1]
 have HW:=Hd hW1
 clear hW1
 go_loop [4] (fun i=>∃j:Nat,j≤30∧Hid ((wordsL.take j).contains l=false)∧i=.int .i64 j) (fun i=>30-litLen i)
 case atStart=>exact⟨0,by omega,Hd rfl,rfl⟩
 case round =>
  obtain⟨j,hj,hno,rfl⟩:=hrel
  rcases Nat.lt_or_ge j 30 with hlt | hge
  ·have q3:decide ((j:Int)<30)=true:=qT (by omega)
   obtain⟨s,hsj⟩:∃s,wordsL[j]?=some s:=⟨wordsL[j]'(by show j<30;exact hlt),List.getElem?_eq_getElem _⟩
   have hc:=hcell.out j s hsj
   have HJ:=Hd hsj
   have HM:=Hd (List.mem_of_getElem? hsj)
   have HT:=Hd (show wordsL.take (j+1)=wordsL.take j++[s] by
    obtain⟨h1,rfl⟩:=List.getElem?_eq_some_iff.1 hsj
    exact List.take_succ_eq_append_getElem h1)
   clear hsj
   by_cases he:s=l
   ·have hq:((str s).toList ==(str l).toList)=true:=by rw[bytes_eq];simpa using he
    obtain rfl:R=true:=by rw[hR.out];unfold wordL;rw[List.contains_iff_mem,←he];exact HM.out
    clear hR he
    go_wp2_with fail
    go_ret
    exact⟨rfl,hb.out⟩
   ·have hq:((str s).toList ==(str l).toList)=false:=by rw[bytes_eq];exact beq_false_of_ne he
    have HE:=Hd he
    clear he
    go_wp2_with fail
    exact⟨⟨j+1,by omega,Hd (by
     have h1:=hno.out
     rw[HT.out]
     rw[Bool.eq_false_iff] at h1 ⊢
     intro h2
     rw[List.contains_iff_mem,List.mem_append] at h2
     rcases h2 with h2 | h2
     ·exact h1 (by rw[List.contains_iff_mem];exact h2)
     ·rw[List.mem_singleton] at h2;exact HE.out h2.symm),rfl⟩,by simp[litLen];omega⟩
  ·have q3:decide ((j:Int)<30)=false:=qF (by omega)
   obtain rfl:R=false:=by rw[hR.out];unfold wordL;have:=hno.out;rwa [List.take_of_length_le (by show 30≤j;exact hge)] at this
   clear hR
   go_wp2_with fail
   go_ret
   exact⟨rfl,hb.out⟩
def Tok4 (w:World) (g:Nat) (k v a:Int) (S:ByteArray):Prop :=
 w.cell? ⟨g,0,none⟩=some (.int .i64 k)∧w.cell? ⟨g,1,none⟩=some (.string S)∧w.cell? ⟨g,2,none⟩=some (.int .i64 v)∧w.cell? ⟨g,3,none⟩=some (.int .i64 a) ∧
 w.frozen? ⟨g,0,none⟩=false∧w.frozen? ⟨g,1,none⟩=false∧w.frozen? ⟨g,2,none⟩=false∧w.frozen? ⟨g,3,none⟩=false
theorem Tok4.below {w w':World} {g B:Nat} {k v a:Int} {S:ByteArray} (h:Tok4 w g k v a S) (hb:Below B w w') (hg:g<B):Tok4 w' g k v a S :=
 ⟨(hb.cell (p:=⟨g,0,none⟩) hg).trans h.1,(hb.cell (p:=⟨g,1,none⟩) hg).trans h.2.1,(hb.cell (p:=⟨g,2,none⟩) hg).trans h.2.2.1,(hb.cell (p:=⟨g,3,none⟩) hg).trans h.2.2.2.1,
  (hb.frozen (p:=⟨g,0,none⟩) hg).trans h.2.2.2.2.1,(hb.frozen (p:=⟨g,1,none⟩) hg).trans h.2.2.2.2.2.1,(hb.frozen (p:=⟨g,2,none⟩) hg).trans h.2.2.2.2.2.2.1,(hb.frozen (p:=⟨g,3,none⟩) hg).trans h.2.2.2.2.2.2.2⟩
theorem tok4_new (w:World) (k v a:Int) (S:ByteArray) (T:TypeId):Tok4 (w.alloc (.cells #[.int .i64 k,.string S,.int .i64 v,.int .i64 a] T)) w.heap.size k v a S :=
 ⟨by rw[World.cell?_alloc_new];rfl,by rw[World.cell?_alloc_new];rfl,by rw[World.cell?_alloc_new];rfl,by rw[World.cell?_alloc_new];rfl,
  World.frozen?_alloc_new _ _ _ _,World.frozen?_alloc_new _ _ _ _,World.frozen?_alloc_new _ _ _ _,World.frozen?_alloc_new _ _ _ _⟩
def OneRet (k v a:Int) (S:ByteArray) (ok:Bool) (w:World) (e:Ending) (w':World):Prop:=e=.returned (.tuple #[.agg #[.int .i64 k,.string S,.int .i64 v,.int .i64 a],.bool ok])∧Below w.heap.size w w'
theorem run_next {p:UInt8→Bool} {l:List UInt8} {j x:Nat} {c:UInt8} (h:l[j]?=some c) (hr:runTo p l j=x) (hp:p c=true):runTo p l (j+1)=x:=by rw[←runTo_step h hp];exact hr
theorem one_name (l:List UInt8) (n:Nat) (hn:Hid (l.length=n)) (nl:(n:Int)≤30000) (hs:(str l).size=n) (a:Nat) (han:(a:Int)<(n:Int)) (c:UInt8) (hix:∀h,(str l)[a]'h=c) (hcl:Hid (isLetter c=true)) (x:Nat) (hx:Hid (runTo isName l a=x)) (hax:(a:Int)≤(x:Int)) (hxn:(x:Int)≤(n:Int))
  (T:ByteArray) (hT:(str l).extract a x=T) (t:List UInt8) (hTt:Hid (T=str t)) (m:Nat) (hm:(x:Int)-(a:Int)=(m:Int)) (K:Int) (Wb:Bool) (hWb:Hid (Wb=wordL t)) (hK:Hid (K=if Wb=true then 3 else 1)) (B:Bool) (hB:Hid (B=decide ((m:Int)≤16))) (w:World) :
  Calls prog 28 #[.string (str l),.int .i64 (a:Int)] w fun e w'=>OneRet K 0 a T B w e w':=by
 have LT:Hid (∀(c:UInt8) w,Calls prog 53 #[.int .u8 (c.toNat:Int)] w fun e w'=>e=.returned (.bool (isLetter c))∧w'=w):=Hd letter_ref
 have DT:Hid (∀(c:UInt8) w,Calls prog 54 #[.int .u8 (c.toNat:Int)] w fun e w'=>e=.returned (.bool (isDig c))∧w'=w):=Hd digit_ref
 have L0:Hid (∀w,Calls prog 53 #[.int .u8 (c.toNat:Int)] w fun e w'=>e=.returned (.bool true)∧w'=w):=Hd fun w=>by have:=letter_ref c w;rwa [hcl.out] at this
 have CW:Hid (∀w,Calls prog 55 #[.string T] w fun e w'=>e=.returned (.bool Wb)∧Below w.heap.size w w'):=Hd fun w=>by rw[hTt.out];exact word_ref t Wb hWb w
 have hb0:=Hd ((qB w.heap.size w).alloc (qL _) (.cells #[.int .i64 0,.string ⟨#[]⟩,.int .i64 0,.int .i64 0] 43))
 have hrm:=Hd (roomAt_new w 43)
 have hbx:=Hd (by have:=tok4_new (w.alloc (.cells #[.int .i64 0,.string ⟨#[]⟩,.int .i64 0,.int .i64 0] 43)) 1 0 a T 43;rwa [World.size_alloc] at this)
 have a0:(0:Int)≤(a:Int):=by omega
 have HE:Hid (∀j:Nat,runTo isName l j=x→(n≤j∨∃c,l[j]?=some c∧isName c=false)→j=x):=Hd fun j h1 h2=>by
  rcases h2 with h2 | ⟨c,h2,h3⟩
  ·rw[runTo_end (by rw[hn.out];exact h2)] at h1;exact h1
  ·rw[runTo_stop h2 h3] at h1;exact h1
 go_enter Tryz.func28,Tryz.ntmps28
 go_wp2_with (go_at_call 53;((with_reducible refine(L0.out _).mono ?_);rintro e w' ⟨rfl,rfl⟩))
 go_loop [7] (fun i=>∃j:Nat,a≤j∧j≤n∧Hid (runTo isName l j=x)∧i=.int .i64 j) (fun i=>n-litLen i)
 case atStart=>exact⟨a,qL _,by omega,hx,rfl⟩
 case round =>
  obtain⟨j,haj,hj,hr,rfl⟩:=hrel
  rcases Nat.lt_or_ge j n with hlt | hge
  ·have q3:decide ((j:Int)<(n:Int))=true:=qT (by omega)
   have jn:(j:Int)<(n:Int):=by omega
   obtain⟨d,hdj⟩:=isBehind hn.out hlt
   have hix2:∀h,(str l)[j]'h=d:=fun h=>str_at l hdj h
   have HD:=Hd hdj
   clear hdj
   obtain⟨b1,hb1⟩:∃b,b=isLetter d:=⟨_,rfl⟩
   obtain⟨b2,hb2⟩:∃b,b=isDig d:=⟨_,rfl⟩
   have LD:=Hd (LT.out d)
   have DD:=Hd (DT.out d)
   rw[←hb1] at LD
   rw[←hb2] at DD
   have H1:=Hd hb1
   have H2:=Hd hb2
   clear hb1 hb2
   cases b1 with
   | true =>
    go_wp2_with (go_at_call 53;((with_reducible refine(LD.out _).mono ?_);rintro e w' ⟨rfl,rfl⟩))
    exact⟨⟨j+1,by omega,by omega,Hd (run_next HD.out hr.out (by unfold isName;rw[←H1.out];rfl)),rfl⟩,by simp[litLen];omega⟩
   | false =>
    cases b2 with
    | true =>
     go_wp2_with (first | (go_at_call 53;((with_reducible refine(LD.out _).mono ?_);rintro e w' ⟨rfl,rfl⟩)) | (go_at_call 54;((with_reducible refine(DD.out _).mono ?_);rintro e w' ⟨rfl,rfl⟩)))
     exact⟨⟨j+1,by omega,by omega,Hd (run_next HD.out hr.out (by unfold isName;rw[←H2.out];simp)),rfl⟩,by simp[litLen];omega⟩
    | false =>
     obtain rfl:j=x:=HE.out j hr.out (.inr ⟨d,HD.out,by unfold isName;rw[←H1.out,←H2.out];rfl⟩)
     have hb0':=Hd ((qB (w.heap.size+1) (w.alloc (.cells #[.int .i64 0,.string ⟨#[]⟩,.int .i64 0,.int .i64 0] 43))).alloc (by simp) (.cells #[.int .i64 1,.string T,.int .i64 0,.int .i64 (a:Int)] 43))
     have hbb:=Hd (hb0.out.alloc hb0.out.size (.cells #[.int .i64 1,.string T,.int .i64 0,.int .i64 (a:Int)] 43))
     rcases Wb with _ | _
     ·obtain rfl:K=1:=by rw[hK.out];rfl
      by_cases h16:(m:Int)≤16
      ·have q16:decide ((m:Int)≤16)=true:=qT h16
       obtain rfl:B=true:=by rw[hB.out,q16]
       go_wp2_with (first | (go_at_call 53;((with_reducible refine(LD.out _).mono ?_);rintro e w' ⟨rfl,rfl⟩)) | (go_at_call 54;((with_reducible refine(DD.out _).mono ?_);rintro e w' ⟨rfl,rfl⟩)) | (go_at_call 55;((with_reducible refine(CW.out _).mono ?_);rintro e w3 ⟨rfl,hb3⟩;obtain⟨x0,x1,x2,x3,y0,y1,y2,y3⟩:=hbx.out.below hb3 (by simp);obtain⟨r0,r1,r2,r3,f0,f1,f2,f3⟩:=hrm.out.below (hb0'.out.trans (hb3.mono (by simp))) (Nat.lt_succ_self _);have HB3:=Hd hb3;clear hb3)))
       exact bodyPost_ret (v:=.tuple #[.agg #[.int .i64 1,.string T,.int .i64 0,.int .i64 (a:Int)],.bool true]) (by simp[results,Tryz.results28,go_sem,r0,r1,r2,r3]) rfl ⟨rfl,below_four (hbb.out.trans (HB3.out.mono hbb.out.size)) (qL _) _ _ _ _⟩
      ·have q16:decide ((m:Int)≤16)=false:=qF h16
       obtain rfl:B=false:=by rw[hB.out,q16]
       go_wp2_with (first | (go_at_call 53;((with_reducible refine(LD.out _).mono ?_);rintro e w' ⟨rfl,rfl⟩)) | (go_at_call 54;((with_reducible refine(DD.out _).mono ?_);rintro e w' ⟨rfl,rfl⟩)) | (go_at_call 55;((with_reducible refine(CW.out _).mono ?_);rintro e w3 ⟨rfl,hb3⟩;obtain⟨x0,x1,x2,x3,y0,y1,y2,y3⟩:=hbx.out.below hb3 (by simp);obtain⟨r0,r1,r2,r3,f0,f1,f2,f3⟩:=hrm.out.below (hb0'.out.trans (hb3.mono (by simp))) (Nat.lt_succ_self _);have HB3:=Hd hb3;clear hb3)))
       exact bodyPost_ret (v:=.tuple #[.agg #[.int .i64 1,.string T,.int .i64 0,.int .i64 (a:Int)],.bool false]) (by simp[results,Tryz.results28,go_sem,r0,r1,r2,r3]) rfl ⟨rfl,below_four (hbb.out.trans (HB3.out.mono hbb.out.size)) (qL _) _ _ _ _⟩
     ·obtain rfl:K=3:=by rw[hK.out];rfl
      by_cases h16:(m:Int)≤16
      ·have q16:decide ((m:Int)≤16)=true:=qT h16
       obtain rfl:B=true:=by rw[hB.out,q16]
       go_wp2_with (first | (go_at_call 53;((with_reducible refine(LD.out _).mono ?_);rintro e w' ⟨rfl,rfl⟩)) | (go_at_call 54;((with_reducible refine(DD.out _).mono ?_);rintro e w' ⟨rfl,rfl⟩)) | (go_at_call 55;((with_reducible refine(CW.out _).mono ?_);rintro e w3 ⟨rfl,hb3⟩;obtain⟨x0,x1,x2,x3,y0,y1,y2,y3⟩:=hbx.out.below hb3 (by simp);obtain⟨r0,r1,r2,r3,f0,f1,f2,f3⟩:=hrm.out.below (hb0'.out.trans (hb3.mono (by simp))) (Nat.lt_succ_self _);have HB3:=Hd hb3;clear hb3)))
       exact bodyPost_ret (v:=.tuple #[.agg #[.int .i64 3,.string T,.int .i64 0,.int .i64 (a:Int)],.bool true]) (by simp[results,Tryz.results28,go_sem,r0,r1,r2,r3]) rfl ⟨rfl,below_four ((hbb.out.trans (HB3.out.mono hbb.out.size)).setCell (p:=⟨w.heap.size+1,0,none⟩) (Nat.le_succ _) _) (qL _) _ _ _ _⟩
      ·have q16:decide ((m:Int)≤16)=false:=qF h16
       obtain rfl:B=false:=by rw[hB.out,q16]
       go_wp2_with (first | (go_at_call 53;((with_reducible refine(LD.out _).mono ?_);rintro e w' ⟨rfl,rfl⟩)) | (go_at_call 54;((with_reducible refine(DD.out _).mono ?_);rintro e w' ⟨rfl,rfl⟩)) | (go_at_call 55;((with_reducible refine(CW.out _).mono ?_);rintro e w3 ⟨rfl,hb3⟩;obtain⟨x0,x1,x2,x3,y0,y1,y2,y3⟩:=hbx.out.below hb3 (by simp);obtain⟨r0,r1,r2,r3,f0,f1,f2,f3⟩:=hrm.out.below (hb0'.out.trans (hb3.mono (by simp))) (Nat.lt_succ_self _);have HB3:=Hd hb3;clear hb3)))
       exact bodyPost_ret (v:=.tuple #[.agg #[.int .i64 3,.string T,.int .i64 0,.int .i64 (a:Int)],.bool false]) (by simp[results,Tryz.results28,go_sem,r0,r1,r2,r3]) rfl ⟨rfl,below_four ((hbb.out.trans (HB3.out.mono hbb.out.size)).setCell (p:=⟨w.heap.size+1,0,none⟩) (Nat.le_succ _) _) (qL _) _ _ _ _⟩
  ·have q3:decide ((j:Int)<(n:Int))=false:=qF (by omega)
   obtain rfl:j=x:=HE.out j hr.out (.inl hge)
   have hb0':=Hd ((qB (w.heap.size+1) (w.alloc (.cells #[.int .i64 0,.string ⟨#[]⟩,.int .i64 0,.int .i64 0] 43))).alloc (by simp) (.cells #[.int .i64 1,.string T,.int .i64 0,.int .i64 (a:Int)] 43))
   have hbb:=Hd (hb0.out.alloc hb0.out.size (.cells #[.int .i64 1,.string T,.int .i64 0,.int .i64 (a:Int)] 43))
   rcases Wb with _ | _
   ·obtain rfl:K=1:=by rw[hK.out];rfl
    by_cases h16:(m:Int)≤16
    ·have q16:decide ((m:Int)≤16)=true:=qT h16
     obtain rfl:B=true:=by rw[hB.out,q16]
     go_wp2_with (first | (go_at_call 55;((with_reducible refine(CW.out _).mono ?_);rintro e w3 ⟨rfl,hb3⟩;obtain⟨x0,x1,x2,x3,y0,y1,y2,y3⟩:=hbx.out.below hb3 (by simp);obtain⟨r0,r1,r2,r3,f0,f1,f2,f3⟩:=hrm.out.below (hb0'.out.trans (hb3.mono (by simp))) (Nat.lt_succ_self _);have HB3:=Hd hb3;clear hb3)))
     exact bodyPost_ret (v:=.tuple #[.agg #[.int .i64 1,.string T,.int .i64 0,.int .i64 (a:Int)],.bool true]) (by simp[results,Tryz.results28,go_sem,r0,r1,r2,r3]) rfl ⟨rfl,below_four (hbb.out.trans (HB3.out.mono hbb.out.size)) (qL _) _ _ _ _⟩
    ·have q16:decide ((m:Int)≤16)=false:=qF h16
     obtain rfl:B=false:=by rw[hB.out,q16]
     go_wp2_with (first | (go_at_call 55;((with_reducible refine(CW.out _).mono ?_);rintro e w3 ⟨rfl,hb3⟩;obtain⟨x0,x1,x2,x3,y0,y1,y2,y3⟩:=hbx.out.below hb3 (by simp);obtain⟨r0,r1,r2,r3,f0,f1,f2,f3⟩:=hrm.out.below (hb0'.out.trans (hb3.mono (by simp))) (Nat.lt_succ_self _);have HB3:=Hd hb3;clear hb3)))
     exact bodyPost_ret (v:=.tuple #[.agg #[.int .i64 1,.string T,.int .i64 0,.int .i64 (a:Int)],.bool false]) (by simp[results,Tryz.results28,go_sem,r0,r1,r2,r3]) rfl ⟨rfl,below_four (hbb.out.trans (HB3.out.mono hbb.out.size)) (qL _) _ _ _ _⟩
   ·obtain rfl:K=3:=by rw[hK.out];rfl
    by_cases h16:(m:Int)≤16
    ·have q16:decide ((m:Int)≤16)=true:=qT h16
     obtain rfl:B=true:=by rw[hB.out,q16]
     go_wp2_with (first | (go_at_call 55;((with_reducible refine(CW.out _).mono ?_);rintro e w3 ⟨rfl,hb3⟩;obtain⟨x0,x1,x2,x3,y0,y1,y2,y3⟩:=hbx.out.below hb3 (by simp);obtain⟨r0,r1,r2,r3,f0,f1,f2,f3⟩:=hrm.out.below (hb0'.out.trans (hb3.mono (by simp))) (Nat.lt_succ_self _);have HB3:=Hd hb3;clear hb3)))
     exact bodyPost_ret (v:=.tuple #[.agg #[.int .i64 3,.string T,.int .i64 0,.int .i64 (a:Int)],.bool true]) (by simp[results,Tryz.results28,go_sem,r0,r1,r2,r3]) rfl ⟨rfl,below_four ((hbb.out.trans (HB3.out.mono hbb.out.size)).setCell (p:=⟨w.heap.size+1,0,none⟩) (Nat.le_succ _) _) (qL _) _ _ _ _⟩
    ·have q16:decide ((m:Int)≤16)=false:=qF h16
     obtain rfl:B=false:=by rw[hB.out,q16]
     go_wp2_with (first | (go_at_call 55;((with_reducible refine(CW.out _).mono ?_);rintro e w3 ⟨rfl,hb3⟩;obtain⟨x0,x1,x2,x3,y0,y1,y2,y3⟩:=hbx.out.below hb3 (by simp);obtain⟨r0,r1,r2,r3,f0,f1,f2,f3⟩:=hrm.out.below (hb0'.out.trans (hb3.mono (by simp))) (Nat.lt_succ_self _);have HB3:=Hd hb3;clear hb3)))
     exact bodyPost_ret (v:=.tuple #[.agg #[.int .i64 3,.string T,.int .i64 0,.int .i64 (a:Int)],.bool false]) (by simp[results,Tryz.results28,go_sem,r0,r1,r2,r3]) rfl ⟨rfl,below_four ((hbb.out.trans (HB3.out.mono hbb.out.size)).setCell (p:=⟨w.heap.size+1,0,none⟩) (Nat.le_succ _) _) (qL _) _ _ _ _⟩
end Go.Proofs.YtpfmlfcaadnnpaaGreatDoor.Lx
