import Derived.Test.YtpfmlfcaadnnpaaGreatDoorPg05
import Derived.RangeFuncBox
import Derived.Deep.Slices
set_option maxHeartbeats 16000000
set_option maxRecDepth 100000
open Go.Proofs.Tryz(prog)
namespace Go.Proofs.YtpfmlfcaadnnpaaGreatDoor.Lx
open Go.RowKit
theorem st_take {l:List UInt8} {k:Nat} {c:UInt8} (h:l[k]?=some c):st (l.take (k+1))=step (st (l.take k)) c:=by rw[take_at h,st_snoc]
theorem not_okay {l:List UInt8} {k:Nat} {c:UInt8} (h:l[k]?=some c) (hc:okay c=false):litR l=false:=by
 have:l.all okay=false:=by
  rw[List.all_eq_false]
  exact⟨c,List.mem_of_getElem? h,by rw[hc];simp⟩
 unfold litR
 rw[this]
 rfl
theorem lit_core (l:List UInt8) (n:Nat) (hn:l.length=n) (hl:(n:Int)≤30000) (R:Bool) (hR:R=litR l) (w:World) :
  Calls prog 79 #[.string (str l)] w fun e w'=>e=.returned (.bool R)∧w'=w:=by
 have hs:=str_size l
 rw[hn] at hs
 have HN:=Hd hn
 have HR:=Hd hR
 clear hn hR
 go_enter Tryz.func79,Tryz.ntmps79
 go_wp2_with fail
 go_loop [6,3,4,5] (fun i a b d=>∃k A B D:Nat,k≤n∧Hid (st (l.take k)=(A,B,D))∧Hid ((l.take k).all okay=true)∧(A:Int)≤30000∧(B:Int)≤30000∧(D:Int)≤30000∧i=.int .i64 k∧a=.int .i64 A∧b=.int .i64 B∧d=.int .i64 D) (fun i _ _ _=>n-litLen i)
 case atStart=>exact⟨0,0,0,0,by omega,Hd rfl,Hd rfl,by omega,by omega,by omega,rfl,rfl,rfl,rfl⟩
 case round =>
  obtain⟨k,A,B,D,hk,hst,hok,hA,hB,hD,rfl,rfl,rfl,rfl⟩:=hrel
  rcases Nat.lt_or_ge k n with hlt | hge
  ·obtain⟨c,hc⟩:∃c,l[k]?=some c:=⟨l[k]'(by have:=HN.out;omega),List.getElem?_eq_getElem _⟩
   have hix:∀h,(str l)[k]'h=c:=fun h=>str_at l hc h
   have q3:decide ((k:Int)<(n:Int))=true:=qT (by omega)
   have ST:=Hd (st_take hc)
   have T:=Hd (take_at hc)
   have C:=Hd hc
   have hle:=Hd (st_le (l.take (k+1)))
   have hlen:Hid ((l.take (k+1)).length≤30000):=Hd (by rw[List.length_take];have:=HN.out;omega)
   have cl:(c.toNat:Int)≤255:=by have:=c.toNat_lt;omega
   clear hc
   by_cases c46:c=46
   ·subst c46
    have e46:((46:UInt8).toNat:Int)=46:=rfl
    have q4:decide (((46:UInt8).toNat:Int)=46)=true:=by decide
    go_wp2_with fail
    have hs2:st (l.take (k+1))=(A,B,D+1):=by rw[ST.out,hst.out];rfl
    have hb:=hle.out
    rw[hs2] at hb
    have hb':A+B+(D+1)=(l.take (k+1)).length:=hb
    have hl2:=hlen.out
    refine⟨⟨k+1,A,B,D+1,by omega,Hd hs2,Hd ?_,by omega,by omega,by omega,rfl,rfl,rfl,rfl⟩,by simp[litLen];omega⟩
    rw[T.out,List.all_append,hok.out];rfl
   ·have n46:¬(c.toNat:Int)=46:=fun e=>c46 (UInt8.toNat_inj.1 (by show c.toNat=46;omega))
    have q4:decide ((c.toNat:Int)=46)=false:=qF n46
    by_cases d1:(c.toNat:Int)<48
    ·have d1':decide ((c.toNat:Int)<48)=true:=qT d1
     go_wp2_with fail
     go_ret
     exact⟨by rw[HR.out,not_okay C.out (by unfold okay isDig;simp;exact⟨c46,by omega⟩)];rfl,rfl⟩
    ·have d1':decide ((c.toNat:Int)<48)=false:=qF d1
     by_cases d2:(57:Int)<(c.toNat:Int)
     ·have d2':decide ((57:Int)<(c.toNat:Int))=true:=qT d2
      go_wp2_with fail
      go_ret
      exact⟨by rw[HR.out,not_okay C.out (by unfold okay isDig;simp;exact⟨c46,by omega⟩)];rfl,rfl⟩
     ·have d2':decide ((57:Int)<(c.toNat:Int))=false:=qF d2
      have hok2:(l.take (k+1)).all okay=true:=by rw[T.out,List.all_append,hok.out];simp[okay];right;exact isDig_iff.2 (by omega)
      have HOK:=Hd hok2
      clear hok2
      by_cases d0:D=0
      ·subst d0
       go_wp2_with fail
       have hs2:st (l.take (k+1))=(A+1,B,0):=by rw[ST.out,hst.out];unfold step;rw[if_neg c46,if_pos rfl]
       have hb:=hle.out
       rw[hs2] at hb
       have hb':A+1+B+0=(l.take (k+1)).length:=hb
       have hl2:=hlen.out
       exact⟨⟨k+1,A+1,B,0,by omega,Hd hs2,HOK,by omega,by omega,by omega,rfl,rfl,rfl,rfl⟩,by simp[litLen];omega⟩
      ·have q5:decide ((D:Int)=0)=false:=qF (by omega)
       have q6:¬(D:Int)=0:=by omega
       go_wp2_with fail
       have hs2:st (l.take (k+1))=(A,B+1,D):=by rw[ST.out,hst.out];unfold step;rw[if_neg c46,if_neg d0]
       have hb:=hle.out
       rw[hs2] at hb
       have hb':A+(B+1)+D=(l.take (k+1)).length:=hb
       have hl2:=hlen.out
       exact⟨⟨k+1,A,B+1,D,by omega,Hd hs2,HOK,by omega,by omega,by omega,rfl,rfl,rfl,rfl⟩,by simp[litLen];omega⟩
  ·have q3:decide ((k:Int)<(n:Int))=false:=qF (by omega)
   have hst':st l=(A,B,D):=by have:=hst.out;rw[List.take_of_length_le (by rw[HN.out];exact hge)] at this;exact this
   have hok':l.all okay=true:=by have:=hok.out;rw[List.take_of_length_le (by rw[HN.out];exact hge)] at this;exact this
   have hR:R=(decide (1≤A)&&(decide (A≤10)&&(decide (D≤1)&&((!(decide (D=1))||(decide (1≤B)&&decide (B≤40)))&&(decide (A=1)||!(l.head? ==some 48)))))):=by
    rw[HR.out];unfold litR;rw[hst',hok',Bool.true_and]
   have hAn:A+B+D=n:=by have:=st_le l;rw[hst'] at this;have h2:A+B+D=l.length:=this;rw[h2,HN.out]
   clear HR hst hok hst' hok'
   have RE:=Hd hR
   clear hR
   by_cases t1:(A:Int)<1
   ·have u1:decide ((A:Int)<1)=true:=qT t1
    have hv:R=false:=by
     refine Bool.eq_false_iff.2 fun hT=>?_
     rw[RE.out] at hT
     simp only[Bool.and_eq_true,decide_eq_true_eq,Bool.or_eq_true,Bool.not_eq_true',decide_eq_false_iff_not] at hT
     omega
    subst hv
    go_wp2_with fail
    go_ret
    exact⟨rfl,rfl⟩
   ·have u1:decide ((A:Int)<1)=false:=qF t1
    by_cases t2:(10:Int)<(A:Int)
    ·have u2:decide ((10:Int)<(A:Int))=true:=qT t2
     have hv:R=false:=by
      refine Bool.eq_false_iff.2 fun hT=>?_
      rw[RE.out] at hT
      simp only[Bool.and_eq_true,decide_eq_true_eq,Bool.or_eq_true,Bool.not_eq_true',decide_eq_false_iff_not] at hT
      omega
     subst hv
     go_wp2_with fail
     go_ret
     exact⟨rfl,rfl⟩
    ·have u2:decide ((10:Int)<(A:Int))=false:=qF t2
     by_cases t3:(1:Int)<(D:Int)
     ·have u3:decide ((1:Int)<(D:Int))=true:=qT t3
      have hv:R=false:=by
       refine Bool.eq_false_iff.2 fun hT=>?_
       rw[RE.out] at hT
       simp only[Bool.and_eq_true,decide_eq_true_eq,Bool.or_eq_true,Bool.not_eq_true',decide_eq_false_iff_not] at hT
       omega
      subst hv
      go_wp2_with fail
      go_ret
      exact⟨rfl,rfl⟩
     ·have u3:decide ((1:Int)<(D:Int))=false:=qF t3
      by_cases t4:(D:Int)=1
      ·have u4:decide ((D:Int)=1)=true:=qT t4
       by_cases t5:(B:Int)<1
       ·have u5:decide ((B:Int)<1)=true:=qT t5
        have hv:R=false:=by
         refine Bool.eq_false_iff.2 fun hT=>?_
         rw[RE.out] at hT
         simp only[Bool.and_eq_true,decide_eq_true_eq,Bool.or_eq_true,Bool.not_eq_true',decide_eq_false_iff_not] at hT
         omega
        subst hv
        go_wp2_with fail
        go_ret
        exact⟨rfl,rfl⟩
       ·have u5:decide ((B:Int)<1)=false:=qF t5
        by_cases t6:(40:Int)<(B:Int)
        ·have u6:decide ((40:Int)<(B:Int))=true:=qT t6
         have hv:R=false:=by
          refine Bool.eq_false_iff.2 fun hT=>?_
          rw[RE.out] at hT
          simp only[Bool.and_eq_true,decide_eq_true_eq,Bool.or_eq_true,Bool.not_eq_true',decide_eq_false_iff_not] at hT
          omega
         subst hv
         go_wp2_with fail
         go_ret
         exact⟨rfl,rfl⟩
        ·have u6:decide ((40:Int)<(B:Int))=false:=qF t6
         by_cases t7:(A:Int)=1
         ·have u7:decide ((A:Int)=1)=true:=qT t7
          have hv:R=true:=by
           rw[RE.out]
           simp only[Bool.and_eq_true,decide_eq_true_eq,Bool.or_eq_true,Bool.not_eq_true',decide_eq_false_iff_not]
           exact⟨by omega,by omega,by omega,by omega,Or.inl (by omega)⟩
          subst hv
          go_wp2_with fail
          go_ret
          exact⟨rfl,rfl⟩
         ·have u7:decide ((A:Int)=1)=false:=qF t7
          have m7:((A:Int) ==1)=false:=beq_false_of_ne t7
          obtain⟨c,l',hl'⟩:∃c l',l=c :: l':=by
           cases l with
           | nil=>have:=HN.out;simp at this;omega
           | cons c l'=>exact⟨c,l',rfl⟩
          have hix:∀h,(str l)[0]'h=c:=fun h=>str_at l (by rw[hl'];rfl) h
          by_cases h48:c=48
          ·have HC:=Hd (show(l.head? ==some 48)=true by rw[hl',h48];rfl)
           clear hl'
           subst h48
           have hv:R=false:=by
            refine Bool.eq_false_iff.2 fun hT=>?_
            rw[RE.out,HC.out] at hT
            simp only[Bool.not_true,Bool.or_false,Bool.and_eq_true,decide_eq_true_eq] at hT
            omega
           subst hv
           go_wp2_with fail
           go_ret
           exact⟨rfl,rfl⟩
          ·have HC:=Hd (show(l.head? ==some 48)=false by rw[hl'];simpa using h48)
           have n48:¬(c.toNat:Int)=48:=fun e=>h48 (UInt8.toNat_inj.1 (by show c.toNat=48;omega))
           have m48:((c.toNat:Int) !=48)=true:=bne_iff_ne.2 n48
           clear hl'
           have hv:R=true:=by
            rw[RE.out,HC.out]
            simp only[Bool.not_false,Bool.or_true,Bool.and_true,Bool.and_eq_true,decide_eq_true_eq,Bool.or_eq_true,Bool.not_eq_true',decide_eq_false_iff_not]
            exact⟨by omega,by omega,by omega,by omega⟩
           subst hv
           go_wp2_with fail
           go_ret
           exact⟨rfl,rfl⟩
      ·have u4:decide ((D:Int)=1)=false:=qF t4
       by_cases t8:(A:Int)=1
       ·have u8:decide ((A:Int)=1)=true:=qT t8
        have hv:R=true:=by
         rw[RE.out]
         simp only[Bool.and_eq_true,decide_eq_true_eq,Bool.or_eq_true,Bool.not_eq_true',decide_eq_false_iff_not]
         exact⟨by omega,by omega,by omega,by omega,Or.inl (by omega)⟩
        subst hv
        go_wp2_with fail
        go_ret
        exact⟨rfl,rfl⟩
       ·have u8:decide ((A:Int)=1)=false:=qF t8
        have m8:((A:Int) ==1)=false:=beq_false_of_ne t8
        obtain⟨c,l',hl'⟩:∃c l',l=c :: l':=by
         cases l with
         | nil=>have:=HN.out;simp at this;omega
         | cons c l'=>exact⟨c,l',rfl⟩
        have hix:∀h,(str l)[0]'h=c:=fun h=>str_at l (by rw[hl'];rfl) h
        by_cases h48:c=48
        ·have HC:=Hd (show(l.head? ==some 48)=true by rw[hl',h48];rfl)
         clear hl'
         subst h48
         have hv:R=false:=by
          refine Bool.eq_false_iff.2 fun hT=>?_
          rw[RE.out,HC.out] at hT
          simp only[Bool.not_true,Bool.or_false,Bool.and_eq_true,decide_eq_true_eq] at hT
          omega
         subst hv
         go_wp2_with fail
         go_ret
         exact⟨rfl,rfl⟩
        ·have HC:=Hd (show(l.head? ==some 48)=false by rw[hl'];simpa using h48)
         have n48:¬(c.toNat:Int)=48:=fun e=>h48 (UInt8.toNat_inj.1 (by show c.toNat=48;omega))
         have m48:((c.toNat:Int) !=48)=true:=bne_iff_ne.2 n48
         clear hl'
         have hv:R=true:=by
          rw[RE.out,HC.out]
          simp only[Bool.not_false,Bool.or_true,Bool.and_true,Bool.and_eq_true,decide_eq_true_eq,Bool.or_eq_true,Bool.not_eq_true',decide_eq_false_iff_not]
          exact⟨by omega,by omega,by omega,by omega⟩
         subst hv
         go_wp2_with fail
         go_ret
         exact⟨rfl,rfl⟩
theorem lit_ref (l:List UInt8) (hl:l.length≤30000) (w:World) :
  Calls prog 79 #[.string (str l)] w fun e w'=>e=.returned (.bool (litR l))∧w'=w:=lit_core l _ rfl (by omega) _ rfl w
set_option maxRecDepth 100000
theorem litR_lit {l:List UInt8} (h:litR l=true):litL l=true:=by
 unfold litR at h
 simp only[Bool.and_eq_true,decide_eq_true_eq,Bool.or_eq_true,Bool.not_eq_true',decide_eq_false_iff_not] at h
 obtain⟨h1,h2,h3,h4,h5,h6⟩:=h
 rcases part_cases l with hp | ⟨a,b,rfl,hp⟩
 ·have hs:=st_plain l hp 0 0
  have e1:(st l).1=l.length:=by unfold st;rw[hs];show 0+l.length=_;omega
  rw[e1] at h2 h3 h6
  unfold litL digitsL
  rw[ahead_none l hp,okay_dig h1 hp,qT h2,qT h3,show pointed l=false by unfold pointed;simpa using hp]
  simp only[Bool.and_self,Bool.true_and,Bool.not_false,Bool.true_or,Bool.and_true,Bool.not_eq_true',Bool.and_eq_false_iff,decide_eq_false_iff_not]
  rcases h6 with h6 | h6
  ·left;omega
  ·right;exact h6
 ·have hs:=st_plain a hp 0 0
  have e0:st (a++46 :: b)=b.foldl step (a.length,0,1):=by
   unfold st
   rw[List.foldl_append,hs,List.foldl_cons,show step (0+a.length,0,0) 46=(a.length,0,1) by unfold step;rw[if_pos rfl];simp]
  have hmono:(b.foldl step (a.length,0,1)).2.2=1:=by
   have:=st_le (a++46 :: b)
   rw[e0] at this h4
   rcases Nat.eq_zero_or_pos (b.foldl step (a.length,0,1)).2.2 with h0 | h0
   ·exfalso
    have hge:∀(l:List UInt8) (s:Nat×Nat×Nat),s.2.2≤(l.foldl step s).2.2:=by
     intro l
     induction l with
     | nil=>intro s;exact qL _
     | cons c l ih =>
      intro s
      rw[List.foldl_cons]
      refine Nat.le_trans ?_ (ih _)
      unfold step
      split
      ·exact Nat.le_succ _
      ·split <;> exact qL _
    have:=hge b (a.length,0,1)
    rw[h0] at this
    exact absurd this (by show ¬1≤0;omega)
   ·omega
  obtain⟨hb,hbs⟩:=st_behind b a.length 0 1 (qL _) hmono
  rw[e0,hbs] at h2 h3 h5 h6
  have h2':1≤a.length:=h2
  have h3':a.length≤10:=h3
  have h5':1≤b.length∧b.length≤40:=by
   rcases h5 with h5 | h5
   ·exact absurd rfl h5
   ·obtain⟨p1,p2⟩:=h5
    have p1':1≤0+b.length:=p1
    have p2':0+b.length≤40:=p2
    omega
  rw[List.all_append,List.all_cons,Bool.and_eq_true,Bool.and_eq_true] at h1
  unfold litL digitsL
  rw[ahead_point a b hp,behind_point a b hp,okay_dig h1.1 hp,okay_dig h1.2.2 hb,qT h2',qT h3',qT h5'.1,qT h5'.2]
  simp only[Bool.and_self,Bool.true_and,Bool.or_true,Bool.and_true,Bool.not_eq_true',Bool.and_eq_false_iff,decide_eq_false_iff_not]
  rcases h6 with h6 | h6
  ·left
   have h6':a.length=1:=h6
   omega
  ·right
   cases a with
   | nil=>simp at h2'
   | cons c a=>exact h6
theorem st_tail (l:List UInt8) (h:46 ∉ l) (a b:Nat):l.foldl step (a,b,1)=(a,b+l.length,1):=by
 induction l generalizing b with
 | nil=>rfl
 | cons c l ih =>
  simp only[List.mem_cons,not_or] at h
  rw[List.foldl_cons,show step (a,b,1) c=(a,b+1,1) by unfold step;rw[if_neg (Ne.symm h.1),if_neg (by simp)],ih h.2,List.length_cons]
  simp only[Prod.mk.injEq,and_true,true_and]
  omega
theorem dig_okay {l:List UInt8} (h:l.all isDig=true):l.all okay=true∧46 ∉ l:=by
 refine⟨List.all_eq_true.2 fun x hx=>by unfold okay;rw[List.all_eq_true.1 h x hx];simp,fun hx=>?_⟩
 have:=List.all_eq_true.1 h 46 hx
 revert this
 decide
theorem lit_litR {l:List UInt8} (h:litL l=true):litR l=true:=by
 unfold litL digitsL at h
 simp only[Bool.and_eq_true,decide_eq_true_eq,Bool.or_eq_true,Bool.not_eq_true',Bool.and_eq_false_iff,decide_eq_false_iff_not] at h
 obtain⟨⟨h1,h2,h3⟩,h4,h5⟩:=h
 rcases part_cases l with hp | ⟨a,b,rfl,hp⟩
 ·rw[ahead_none l hp] at h1 h2 h3 h4
  have hs:=st_plain l hp 0 0
  have e1:st l=(l.length,0,0):=by unfold st;rw[hs];simp
  unfold litR
  rw[e1,(dig_okay h3).1]
  simp only[Bool.true_and,Bool.and_eq_true,decide_eq_true_eq,Bool.or_eq_true,Bool.not_eq_true',decide_eq_false_iff_not]
  refine⟨h1,h2,by omega,.inl (by omega),?_⟩
  rcases h4 with h4 | h4
  ·left;omega
  ·right;exact h4
 ·rw[ahead_point a b hp,behind_point a b hp] at *
  have hpt:pointed (a++46 :: b)=true:=by unfold pointed;simp
  rw[hpt] at h5
  have h5':1≤b.length∧b.length≤40∧b.all isDig=true:=by
   rcases h5 with h5 | h5
   ·cases h5
   ·exact h5
  obtain⟨h6,h7,h8⟩:=h5'
  have hs:=st_plain a hp 0 0
  have e0:st (a++46 :: b)=(a.length,b.length,1):=by
   unfold st
   rw[List.foldl_append,hs,List.foldl_cons,show step (0+a.length,0,0) 46=(a.length,0,1) by unfold step;rw[if_pos rfl];simp,st_tail b (dig_okay h8).2]
   simp
  unfold litR
  rw[e0,List.all_append,List.all_cons,(dig_okay h3).1,(dig_okay h8).1]
  have h46:okay 46=true:=rfl
  rw[h46]
  simp only[Bool.and_self,Bool.true_and,Bool.and_eq_true,decide_eq_true_eq,Bool.or_eq_true,Bool.not_eq_true',decide_eq_false_iff_not]
  refine⟨h1,h2,by omega,.inr ⟨h6,h7⟩,?_⟩
  rcases h4 with h4 | h4
  ·left;omega
  ·right
   cases a with
   | nil=>simp at h1
   | cons c a=>exact h4
theorem litR_litL (l:List UInt8):litR l=litL l:=by
 cases h:litL l with
 | true=>exact lit_litR h
 | false =>
  cases h2:litR l with
  | false=>rfl
  | true=>rw[litR_lit h2] at h;cases h
def RefSize:Prop:=∀t:List UInt8,litL t=true→∀W,Calls prog 80 #[.string (str t)] W fun e w'=>e=.returned (.tuple #[.int .u64 ((readL t).1:Int),.bool (!(readL t).2)])∧Below W.heap.size W w'
theorem signed_none (t:List UInt8) (n:Nat) (hs:(str t).size=n) (n0:0<n) (c:UInt8) (hix:∀h,(str t)[0]'h=c) (k2:((c.toNat:Int) ==45)=false) (w:World)
  (L:Hid (∀w,Calls prog 79 #[.string (str t)] w fun e w'=>e=.returned (.bool false)∧w'=w)) :
  Calls prog 56 #[.string (str t)] w fun e w'=>e=.returned (.tuple #[.int .i64 0,.bool false])∧Below w.heap.size w w':=by
 go_enter Tryz.func56,Tryz.ntmps56
 go_wp2_with (go_at_call 79;((with_reducible refine(L.out _).mono ?_);rintro e w' ⟨rfl,rfl⟩))
 go_ret2
 exact⟨rfl,qB _ _⟩
theorem signed_some (t:List UInt8) (n:Nat) (hs:(str t).size=n) (n0:0<n) (c:UInt8) (hix:∀h,(str t)[0]'h=c) (k2:((c.toNat:Int) ==45)=false) (w:World)
  (L:Hid (∀w,Calls prog 79 #[.string (str t)] w fun e w'=>e=.returned (.bool true)∧w'=w))
  (Z:Nat) (ov:Bool) (hz:ov=true∨(Z:Int)≤9223372036854775808) (S:Hid (∀w,Calls prog 80 #[.string (str t)] w fun e w'=>e=.returned (.tuple #[.int .u64 (Z:Int),.bool ov])∧Below w.heap.size w w')) :
  Calls prog 56 #[.string (str t)] w fun e w'=>e=.returned (.tuple #[.int .i64 (if ov=false∧Z≤9223372036854775807 then(Z:Int) else 0),.bool (decide (ov=false∧Z≤9223372036854775807))])∧Below w.heap.size w w':=by
 cases ov with
 | true =>
  rw[if_neg (by simp)]
  go_enter Tryz.func56,Tryz.ntmps56
  go_wp2_with (first | (go_at_call 79;((with_reducible refine(L.out _).mono ?_);rintro e w' ⟨rfl,rfl⟩)) | (go_at_call 80;((with_reducible refine(S.out _).mono ?_);rintro e w1 ⟨rfl,hb⟩;have HB:=Hd hb;clear hb)))
  go_ret2
  exact⟨by simp,HB.out⟩
 | false =>
  have hz2:(Z:Int)≤9223372036854775808:=by rcases hz with h | h;cases h;exact h
  clear hz
  by_cases hq:(Z:Int)≤9223372036854775807
  ·have q1:((Z:Int) ==9223372036854775808)=false:=beq_false_of_ne (by omega)
   have qn:¬(Z:Int)=9223372036854775808:=by omega
   rw[if_pos ⟨rfl,by omega⟩,qT (by exact⟨rfl,by omega⟩)]
   go_enter Tryz.func56,Tryz.ntmps56
   go_wp2_with (first | (go_at_call 79;((with_reducible refine(L.out _).mono ?_);rintro e w' ⟨rfl,rfl⟩)) | (go_at_call 80;((with_reducible refine(S.out _).mono ?_);rintro e w1 ⟨rfl,hb⟩;have HB:=Hd hb;clear hb)))
   go_ret2
   exact⟨rfl,HB.out⟩
  ·have hq2:(Z:Int)=9223372036854775808:=by omega
   have q1:((Z:Int) ==9223372036854775808)=true:=by rw[hq2];rfl
   rw[if_neg (by rintro⟨_,h⟩;omega),qF (by rintro⟨_,h⟩;omega)]
   clear hq
   go_enter Tryz.func56,Tryz.ntmps56
   go_wp2_with (first | (go_at_call 79;((with_reducible refine(L.out _).mono ?_);rintro e w' ⟨rfl,rfl⟩)) | (go_at_call 80;((with_reducible refine(S.out _).mono ?_);rintro e w1 ⟨rfl,hb⟩;have HB:=Hd hb;clear hb)))
   go_ret2
   exact⟨rfl,HB.out⟩
theorem signed_nil (w:World) (L:Hid (∀w,Calls prog 79 #[.string ⟨#[]⟩] w fun e w'=>e=.returned (.bool false)∧w'=w)) :
  Calls prog 56 #[.string ⟨#[]⟩] w fun e w'=>e=.returned (.tuple #[.int .i64 0,.bool false])∧Below w.heap.size w w':=by
 go_enter Tryz.func56,Tryz.ntmps56
 go_wp2_with (go_at_call 79;((with_reducible refine(L.out _).mono ?_);rintro e w' ⟨rfl,rfl⟩))
 go_ret2
 exact⟨rfl,qB _ _⟩
theorem parse_none {t:List UInt8} (h:litL t=false):parseL t=(0,false):=by
 have:readL t=(0,false):=by unfold readL;rw[if_neg (by rw[h];simp)]
 unfold parseL
 rw[this]
 simp
theorem ref_signed (SZ:RefSize):RefSigned:=fun t ht hh W=>by
 have L:Hid (∀w,Calls prog 79 #[.string (str t)] w fun e w'=>e=.returned (.bool (litL t))∧w'=w):=Hd fun w=>by rw[←litR_litL];exact lit_ref t ht w
 cases t with
 | nil=>rw[parse_none (by rfl)];exact signed_nil W L
 | cons c t =>
  have hc:c≠45:=fun e=>hh (by rw[e];rfl)
  have hix:∀h,(str (c :: t))[0]'h=c:=fun h=>str_at (c :: t) (j:=0) rfl h
  have k2:=(byte_ne hc 45 rfl).2.2.2.1
  cases hl:litL (c :: t) with
  | false =>
   rw[parse_none hl]
   rw[hl] at L
   exact signed_none (c :: t) _ (str_size _) (by simp) c hix k2 W L
  | true =>
   rw[hl] at L
   have S:=Hd (SZ (c :: t) hl)
   refine(signed_some (c :: t) _ (str_size _) (by simp) c hix k2 W L (readL (c :: t)).1 (!(readL (c :: t)).2) ?_ S).mono fun e w' ⟨he,hb⟩=>⟨?_,hb⟩
   ·cases h2:(readL (c :: t)).2 with
    | false=>left;rfl
    | true =>
     right
     unfold readL at h2 ⊢
     split at h2
     ·rename_i h3;rw[if_pos h3];simp only[decide_eq_true_eq] at h2;show((sizeL (c :: t):Nat):Int)≤_;omega
     ·cases h2
   ·rw[he]
    unfold parseL
    cases h2:(readL (c :: t)).2 with
    | false=>simp
    | true =>
     by_cases h3:(readL (c :: t)).1≤9223372036854775807
     ·simp[h3]
     ·simp[h3]
theorem int_info:(prog.info? 3).map (fun i=>(i.zero,i.size,i.bytes))=some (some (.int .i64 0),1,8):=by kernel_rfl
theorem wpList_append_int (w:World) {ops:Array Oper} {rest:List Oper} {o:Oper} {a:Act} {Q:Exit→Act→World→Prop}
  (hg:o.guard=none) (s x:Operand) (hop:o.op=Op.call { callee:=Callee.builtin Builtin.append,args:=#[s,x],argTypes:=#[44,44] })
  (base:Nat) (v:Value) (k:Nat) (xs:List Value) (hs:a.eval s=v) (hown:w.ownsRow base 3 1 v k xs) (ad:Addr) (news:List Value) (hx:a.eval x=.slice (some ad) 1 1) (hn:news.length=1*1)
  (hc:∀j u,news[j]?=some u→w.cell? (ad.add j)=some u) (h1c:∀u ∈ news,u.oneCell'=true) (hk:k≤40000) (b3:base≤w.heap.size)
  (hK:∀v' w',w'.ownsRow base 3 1 v' (k+1) (xs++news)→w.grownBy w' v.ownBlock→wpList prog ops Q rest (a.put o.dst v') w') :
  wpList prog ops Q (o :: rest) a w:=by
 obtain⟨i,h2,h3,h4,h5⟩:=info_parts int_info
 refine wpList_plain hg fun K hK'=>?_
 obtain⟨v',w',hrun,r1,r2,_⟩:=run_append_own (P:=prog) w base 44 o.type 3 i _ 1 8 Tryz.underlying44 h2 h3 h4 h5 rfl (by decide) v k xs hown ad 1 1 news hn hc h1c (by unfold maxLen;omega) (by omega) b3
 unfold Oper.wp execOp
 simp only[hop,resolve,invoke,builtin,Sem.run_bind,Sem.run_pure,Result.andThen_ok,List.map_toArray,List.map_cons,List.map_nil,hs,hx,hrun]
 exact hK' _ _ (hK v' w' r1 r2)
def cellI (c:UInt8):Value:=.int .i64 ((c.toNat-48:Nat):Int)
def IRow (w:World) (B:Nat) (l:List UInt8):Prop :=
 ∀(j:Nat) (x:UInt8),l[j]?=some x→w.cell? ⟨B,j,none⟩=some (cellI x)∧w.frozen? ⟨B,j,none⟩=false
theorem irow_set {w:World} {B:Nat} {l:List UInt8} (h:IRow w B l) (j:Nat) (x:UInt8) (hj:j<l.length):IRow (w.setCell ⟨B,j,none⟩ (cellI x)) B (l.set j x):=fun i y hy=>by
 obtain⟨x0,h0⟩:∃x0,l[j]?=some x0:=⟨l[j],List.getElem?_eq_getElem hj⟩
 refine⟨?_,by
  rw[World.frozen?_setCell]
  exact(h i (l[i]'(by have:=(List.getElem?_eq_some_iff.1 hy).1;simpa using this)) (List.getElem?_eq_getElem _)).2⟩
 by_cases e:i=j
 ·subst e
  rw[World.cell?_setCell_same _ _ _ (h i x0 h0).1]
  rw[List.getElem?_set_self hj] at hy
  cases hy
  rfl
 ·rw[World.cell?_setCell_other _ _ _ _ (by simp)]
  rw[List.getElem?_set_ne (Ne.symm e)] at hy
  exact(h i y hy).1
theorem irow_next {w:World} {R:Nat} {m:List UInt8} {j:Nat} {x:UInt8} (h:IRow w R (m.take (j+1)++dbl (m.drop (j+1)))) (hx:m[j]?=some x) (r:Nat) (hr:r=(2*(x.toNat-48)+cry (m.drop (j+1))) % 10) :
  IRow (w.setCell ⟨R,j,none⟩ (.int .i64 (r:Int))) R (m.take j++dbl (m.drop j)):=by
 have hj:j<m.length:=(List.getElem?_eq_some_iff.1 hx).1
 have hd:=drop_at hx
 have h4:=irow_set h j (dg r) (by simp;omega)
 have hv:cellI (dg r)=.int .i64 (r:Int):=by unfold cellI;rw[dg_val (by omega),Nat.add_sub_cancel_left]
 rw[hv] at h4
 have e1:(m.take (j+1)++dbl (m.drop (j+1))).set j (dg r)=m.take j++dbl (m.drop j):=by
  rw[take_at hx,List.append_assoc,List.set_append_right _ _ (by simp;omega),hd]
  have:j-(m.take j).length=0:=by simp;omega
  rw[this,hr]
  rfl
 rw[e1] at h4
 exact h4
theorem irow_of_owns {w:World} {base g n cap:Nat} {l:List UInt8} (h:w.ownsRow base 3 1 (.slice (some ⟨g,0,none⟩) n cap) n (l.map cellI)):IRow w g l:=fun j x hx=>by
 refine⟨?_,?_⟩
 ·have:=h.cells (g:=g) rfl j (cellI x) (by rw[List.getElem?_map,hx];rfl)
  have e:(⟨g,0,none⟩:Addr).add j=⟨g,j,none⟩:=by unfold Addr.add;split <;> simp_all
  rwa [e] at this
 ·rcases h.2 with ⟨h1,_⟩ | ⟨g',cap',cur,h1,_,hgg,_⟩
  ·cases h1
  ·cases h1
   exact Lib.frozen_of_heap hgg j
theorem size_plain (a:List UInt8) (n:Nat) (hn:Hid (a.length=n)) (hs:(str a).size=n) (n10:(n:Int)≤10) (hd:Hid (a.all isDig=true)) (V:Nat) (hV:Hid (numL a=V)) (vb:(V:Int)≤9999999999) (Z:Int) (ov:Bool) (hZ:Hid (V≤2147483648→Z=((V*4294967296:Nat):Int)∧ov=decide (9223372036854775808<V*4294967296))) (hZ2:Hid (¬V≤2147483648→Z=0∧ov=true)) (w:World) :
  Calls prog 80 #[.string (str a)] w fun e w'=>e=.returned (.tuple #[.int .u64 Z,.bool ov])∧Below w.heap.size w w':=by
 go_enter Tryz.func80,Tryz.ntmps80
 go_wp2_with fail
 go_loop [5,4] (fun x y=>∃k v:Nat,k≤n∧x=.int .i64 k∧y=.int .u64 (v:Int)∧Hid (v=numL (a.take k))) (fun x _=>n-litLen x)
 case atStart=>exact⟨0,0,by omega,rfl,rfl,Hd rfl⟩
 case round =>
  obtain⟨k,v,hk,rfl,rfl,hv⟩:=hrel
  rcases Nat.lt_or_ge k n with hlt | hge
  ·obtain⟨c,hc⟩:∃c,a[k]?=some c:=⟨a[k]'(by have:=hn.out;omega),List.getElem?_eq_getElem _⟩
   have hix:∀h,(str a)[k]'h=c:=fun h=>str_at a hc h
   have q3:decide ((k:Int)<(n:Int))=true:=qT (by omega)
   have hcd:=isDig_iff.1 (List.all_eq_true.1 hd.out c (List.mem_of_getElem? hc))
   have hnx:numL (a.take (k+1))=numL (a.take k)*10+(c.toNat-48):=by rw[take_at hc,numL_snoc]
   have h1:=numL_le _ (all_take hd.out k) (by rw[List.length_take];omega)
   have h2:=numL_le _ (all_take hd.out (k+1)) (by rw[List.length_take];omega)
   have hc46:c≠46:=fun e=>by rw[e] at hcd;revert hcd;decide
   obtain⟨k1,k2,k3,k4,k5⟩:=byte_ne hc46 46 rfl
   obtain⟨X,hX⟩:∃X,X=c.toNat:=⟨_,rfl⟩
   rw[←hX] at hcd hnx k3 k4 k5
   obtain⟨y,hy⟩:∃y,y=X-48:=⟨_,rfl⟩
   rw[←hy] at hnx
   have hv':=hv.out
   rw[←hv'] at hnx h1
   obtain⟨v2,hv2⟩:∃v2,v2=numL (a.take (k+1)):=⟨_,rfl⟩
   rw[←hv2] at hnx h2
   have V2:=Hd hv2
   have e0:(X:Int)-48=(y:Int):=by omega
   have e1:10*(v:Int)+(y:Int)=(v2:Int):=by omega
   have e1':(v:Int)*10+(y:Int)=(v2:Int):=by omega
   have b0:(48:Int)≤(X:Int):=by omega
   have b1:(X:Int)≤57:=by omega
   have b2:(v:Int)≤9999999999:=by omega
   have b3:(v2:Int)≤9999999999:=by omega
   have b4:(y:Int)≤9:=by omega
   have hX2:c.toNat=X:=hX.symm
   clear hX hy hv2 hnx h1 h2 hcd hc hv' hc46 hv
   go_wp2_with fail
   exact⟨⟨k+1,v2,by omega,rfl,rfl,V2⟩,by simp[litLen];omega⟩
  ·have q3:decide ((k:Int)<(n:Int))=false:=qF (by omega)
   obtain rfl:v=V:=by rw[hv.out,show k=a.length by rw[hn.out];omega,List.take_length,hV.out]
   clear hv
   obtain rfl:k=n:=by omega
   go_wp2_with fail
   go_loop [5,6] (fun i s=>i=.int .i64 ((k:Int)+1)∧s=.slice none 0 0) (fun _ _=>0)
   case atStart=>exact⟨rfl,rfl⟩
   case round =>
    obtain⟨rfl,rfl⟩:=hrel
    have q4:decide ((k:Int)+1<(k:Int))=false:=qF (by omega)
    by_cases hg:(2147483648:Int)<(v:Int)
    ·have q5:decide ((2147483648:Int)<(v:Int))=true:=qT hg
     have E:=Hd (hZ2.out (by omega))
     go_wp2_with fail
     go_ret2
     exact⟨by rw[E.out.1,E.out.2];rfl,qB _ _⟩
    ·have q5:decide ((2147483648:Int)<(v:Int))=false:=qF hg
     have E:=Hd (hZ.out (by omega))
     go_wp2_with fail
     go_loop [8,7] (fun i u=>∃κ U:Nat,κ≤32∧i=.int .i64 κ∧u=.int .u64 (U:Int)∧Hid (U=v*2 ^ κ)) (fun i _=>32-litLen i)
     case atStart=>exact⟨0,v,by omega,rfl,rfl,Hd (by simp)⟩
     case round =>
      obtain⟨κ,U,hκ,rfl,rfl,hU⟩:=hrel
      rcases Nat.lt_or_ge κ 32 with hlt2 | hge2
      ·have q6:decide ((κ:Int)<32)=true:=qT (by omega)
       have hb:Hid (U≤4611686018427387904):=Hd (by
        rw[hU.out]
        have h1:2 ^ κ≤2 ^ 31:=Nat.pow_le_pow_right (by omega) (by omega)
        have h2:=Nat.mul_le_mul (show v≤2147483648 by omega) h1
        omega)
       obtain⟨U2,hU2⟩:∃U2,U2=2*U:=⟨_,rfl⟩
       have e1:2*(U:Int)=(U2:Int):=by omega
       have ub:(U2:Int)≤9223372036854775808:=by have:=hb.out;omega
       have HU2:=Hd (show U2=v*2 ^ (κ+1) by rw[hU2,hU.out,Nat.pow_succ];exact(Nat.mul_comm _ _).trans (Nat.mul_assoc _ _ _))
       clear hU2 hU hb
       go_wp2_with fail
       go_loop [10,9] (fun t c=>t=.int .i64 (-1)∧c=.int .i64 0) (fun _ _=>0)
       case atStart=>exact⟨rfl,rfl⟩
       case round =>
        obtain⟨rfl,rfl⟩:=hrel
        go_wp2_with fail
        exact⟨⟨κ+1,U2,by omega,rfl,rfl,HU2⟩,by simp[litLen];omega⟩
      ·have q6:decide ((κ:Int)<32)=false:=qF (by omega)
       obtain rfl:κ=32:=by omega
       have hE:=E.out
       have hU':=hU.out
       rw[show(2:Nat) ^ 32=4294967296 from rfl] at hU'
       rw[←hU'] at hE
       by_cases ho:(9223372036854775808:Int)<(U:Int)
       ·have q7:decide ((9223372036854775808:Int)<(U:Int))=true:=qT ho
        obtain⟨rfl,hov⟩:=hE
        rw[qT (by omega)] at hov
        subst hov
        clear hU hU'
        go_wp2_with fail
        go_ret2
        exact⟨rfl,qB _ _⟩
       ·have q7:decide ((9223372036854775808:Int)<(U:Int))=false:=qF ho
        obtain⟨rfl,hov⟩:=hE
        rw[qF (by omega)] at hov
        subst hov
        clear hU hU'
        go_wp2_with fail
        go_ret2
        exact⟨rfl,qB _ _⟩
theorem size_point (t a b:List UInt8) (n p q':Nat) (hn:Hid (a.length=p)) (hqb:Hid (b.length=q'+1)) (hA:Hid (∀(j:Nat) (c:UInt8),a[j]?=some c→t[j]?=some c)) (hP:Hid (t[p]?=some 46)) (hB:Hid (∀(j:Nat) (c:UInt8),b[j]?=some c→t[p+1+j]?=some c)) (hs:(str t).size=n) (en:Hid ((n:Int)=(p:Int)+1+(q':Int)+1)) (nb:(n:Int)≤100) (n10:(p:Int)≤10) (q40:(q':Int)≤39) (hd:Hid (a.all isDig=true)) (hdb:Hid (b.all isDig=true)) (V:Nat) (hV:Hid (numL a=V)) (vb:(V:Int)≤9999999999) (Z:Int) (ov:Bool) (hZ:Hid (V≤2147483648→Z=((V*4294967296+bitsL b:Nat):Int)∧ov=decide (9223372036854775808<V*4294967296+bitsL b))) (hZ2:Hid (¬V≤2147483648→Z=0∧ov=true)) (w:World) :
  Calls prog 80 #[.string (str t)] w fun e w'=>e=.returned (.tuple #[.int .u64 Z,.bool ov])∧Below w.heap.size w w':=by
 go_enter Tryz.func80,Tryz.ntmps80
 go_wp2_with fail
 go_loop [5,4] (fun x y=>∃k v:Nat,k≤p∧x=.int .i64 k∧y=.int .u64 (v:Int)∧Hid (v=numL (a.take k))) (fun x _=>p-litLen x)
 case atStart=>exact⟨0,0,by omega,rfl,rfl,Hd rfl⟩
 case round =>
  obtain⟨k,v,hk,rfl,rfl,hv⟩:=hrel
  rcases Nat.lt_or_ge k p with hlt | hge
  ·obtain⟨c,hc⟩:∃c,a[k]?=some c:=⟨a[k]'(by have:=hn.out;omega),List.getElem?_eq_getElem _⟩
   have hix:∀h,(str t)[k]'h=c:=fun h=>str_at t (hA.out k c hc) h
   have kn:(k:Int)<(n:Int):=by have:=en.out;omega
   have q3:decide ((k:Int)<(n:Int))=true:=qT (by have:=en.out;omega)
   have hcd:=isDig_iff.1 (List.all_eq_true.1 hd.out c (List.mem_of_getElem? hc))
   have hnx:numL (a.take (k+1))=numL (a.take k)*10+(c.toNat-48):=by rw[take_at hc,numL_snoc]
   have h1:=numL_le _ (all_take hd.out k) (by rw[List.length_take];omega)
   have h2:=numL_le _ (all_take hd.out (k+1)) (by rw[List.length_take];omega)
   have hc46:c≠46:=fun e=>by rw[e] at hcd;revert hcd;decide
   obtain⟨k1,k2,k3,k4,k5⟩:=byte_ne hc46 46 rfl
   obtain⟨X,hX⟩:∃X,X=c.toNat:=⟨_,rfl⟩
   rw[←hX] at hcd hnx k3 k4 k5
   obtain⟨y,hy⟩:∃y,y=X-48:=⟨_,rfl⟩
   rw[←hy] at hnx
   have hv':=hv.out
   rw[←hv'] at hnx h1
   obtain⟨v2,hv2⟩:∃v2,v2=numL (a.take (k+1)):=⟨_,rfl⟩
   rw[←hv2] at hnx h2
   have V2:=Hd hv2
   have e0:(X:Int)-48=(y:Int):=by omega
   have e1:10*(v:Int)+(y:Int)=(v2:Int):=by omega
   have e1':(v:Int)*10+(y:Int)=(v2:Int):=by omega
   have b0:(48:Int)≤(X:Int):=by omega
   have b1:(X:Int)≤57:=by omega
   have b2:(v:Int)≤9999999999:=by omega
   have b3:(v2:Int)≤9999999999:=by omega
   have b4:(y:Int)≤9:=by omega
   have hX2:c.toNat=X:=hX.symm
   clear hX hy hv2 hnx h1 h2 hcd hc hv' hc46 hv
   go_wp2_with fail
   exact⟨⟨k+1,v2,by omega,rfl,rfl,V2⟩,by simp[litLen];omega⟩
  ·obtain rfl:v=V:=by rw[hv.out,show k=a.length by rw[hn.out];omega,List.take_length,hV.out]
   clear hv
   obtain rfl:k=p:=by omega
   have q3:decide ((k:Int)<(n:Int))=true:=qT (by have:=en.out;omega)
   have kn:(k:Int)<(n:Int):=by have:=en.out;omega
   obtain⟨d,hd46⟩:∃d:UInt8,d=46:=⟨_,rfl⟩
   have hixp:∀h,(str t)[k]'h=d:=fun h=>str_at t (by rw[hd46];exact hP.out) h
   have k1:(d !=46)=false:=by rw[hd46];rfl
   have k2:((d.toNat:Int) !=46)=false:=by rw[hd46];rfl
   have k3:(d.toNat:Int)=46:=by rw[hd46];rfl
   clear hd46
   go_wp2_with fail
   go_loopw [5,6] (fun i s wr=>∃j x:Nat,j≤q'+1∧Hid ((x:Int)=(k:Int)+1+(j:Int))∧i=.int .i64 x∧Hid (wr.ownsRow w.heap.size 3 1 s j ((b.take j).map cellI))∧Hid (Below w.heap.size w wr)) (fun i _ _=>n-litLen i)
   case atStart=>exact⟨0,k+1,by omega,Hd (by omega),rfl,Hd (qO _ _ _ _),Hd (qB _ _)⟩
   case round =>
    obtain⟨j,x,hj,hx,rfl,hO,hBw⟩:=hrel
    rcases Nat.lt_or_ge j (q'+1) with hjl | hjg
    ·have q4:decide ((x:Int)<(n:Int))=true:=qT (by have:=hx.out;have:=en.out;omega)
     have xn:(x:Int)<(n:Int):=by have:=hx.out;have:=en.out;omega
     obtain⟨c,hc⟩:∃c,b[j]?=some c:=⟨b[j]'(by have:=hqb.out;omega),List.getElem?_eq_getElem _⟩
     have hix:∀h,(str t)[x]'h=c:=fun h=>str_at t (by rw[show x=k+1+j by have:=hx.out;omega];exact hB.out j c hc) h
     have hcd:=isDig_iff.1 (List.all_eq_true.1 hdb.out c (List.mem_of_getElem? hc))
     have HT:=Hd (take_at hc)
     obtain⟨X,hX⟩:∃X,X=c.toNat:=⟨_,rfl⟩
     rw[←hX] at hcd
     obtain⟨y,hy⟩:∃y,y=X-48:=⟨_,rfl⟩
     have HY:Hid (cellI c=.int .i64 (y:Int)):=Hd (by unfold cellI;rw[←hX,hy])
     have e0:(X:Int)-48=(y:Int):=by omega
     have b0:(48:Int)≤(X:Int):=by omega
     have b1:(X:Int)≤57:=by omega
     have hX2:c.toNat=X:=hX.symm
     clear hX hy hcd hc
     go_wp2_with (at_builtin;refine wpList_append_int _ rfl _ _ rfl w.heap.size _ j _ rfl (hO.out.alloc _) ⟨wr.heap.size,0,none⟩ [.int .i64 (y:Int)] rfl rfl (cell_one_new _ _ _) (by simp[Value.oneCell']) (by omega) (by have:=hBw.out.size;simp;omega) ?_;intro v' w3 hown' hgrow;have G1:=Hd hown';have G2:=Hd ((hBw.out.alloc hBw.out.size (.cells #[.int .i64 (y:Int)] 3)).grown hgrow (by have:=hBw.out.size;simp;omega) (fun k hk=>(hO.out.lt k hk).1));clear hown' hgrow)
     exact⟨⟨j+1,x+1,by omega,Hd (by have:=hx.out;omega),rfl,Hd (by rw[HT.out,List.map_append,List.map_singleton,HY.out];exact G1.out),G2⟩,by simp[litLen];omega⟩
    ·have q4:decide ((x:Int)<(n:Int))=false:=qF (by have:=hx.out;have:=en.out;omega)
     have xg:(n:Int)≤(x:Int):=by have:=hx.out;have:=en.out;omega
     obtain rfl:j=q'+1:=by omega
     obtain⟨g,cap,rfl⟩:=ownsRow_succ hO.out
     have HI:Hid (IRow wr g b):=Hd (by
      have:=hO.out
      rw[List.take_of_length_le (by rw[hqb.out];exact qL _)] at this
      exact irow_of_owns this)
     have HG:=Hd (hO.out.lt g rfl).1
     obtain⟨q,hq⟩:∃q,q=q'+1:=⟨_,rfl⟩
     rw[←hq]
     have qb:(q:Int)≤40:=by omega
     have hqe:Hid (b.length=q):=Hd (by rw[hqb.out,hq])
     have cq:((q':Int)+1)=(q:Int):=by omega
     clear hO hq
     by_cases hg:(2147483648:Int)<(v:Int)
     ·have q5:decide ((2147483648:Int)<(v:Int))=true:=qT hg
      have E:=Hd (hZ2.out (by omega))
      go_wp2_with fail
      go_ret2
      exact⟨by rw[E.out.1,E.out.2];rfl,hBw.out⟩
     ·have q5:decide ((2147483648:Int)<(v:Int))=false:=qF hg
      have E:=Hd (hZ.out (by omega))
      go_wp2_with fail
      go_loopw [8,7] (fun i u wr=>∃(κ U B:Nat) (m:List UInt8),κ≤32∧i=.int .i64 κ∧u=.int .u64 (U:Int)∧Hid (U=v*2 ^ κ+B)∧Hid (DblAt b κ m B)∧Hid (IRow wr g m)∧Hid (Below w.heap.size w wr)) (fun i _ _=>32-litLen i)
      case atStart=>exact⟨0,v,0,b,by omega,rfl,rfl,Hd (by simp),Hd (dblAt_zero b hdb.out),HI,hBw⟩
      case round =>
       obtain⟨κ,U,B,m,hκ,rfl,rfl,hU,hD,hR,hBb⟩:=hrel
       rcases Nat.lt_or_ge κ 32 with hlt2 | hge2
       ·have q6:decide ((κ:Int)<32)=true:=qT (by omega)
        have hml:Hid (m.length=q):=Hd (by rw[hD.out.2.1];exact hqe.out)
        have hub:Hid (U≤4611686020574871552):=Hd (by
         have h0:=dblAt_lt hD.out hdb.out
         rw[hU.out]
         have h1:2 ^ κ≤2 ^ 31:=Nat.pow_le_pow_right (by omega) (by omega)
         have h2:=Nat.mul_le_mul (show v≤2147483648 by omega) h1
         omega)
        obtain⟨U1,hU1⟩:∃U1,U1=2*U:=⟨_,rfl⟩
        have e1:2*(U:Int)=(U1:Int):=by omega
        have ub:(U1:Int)≤9223372041149743104:=by have:=hub.out;omega
        have HU1:=Hd hU1
        clear hU1
        go_wp2_with fail
        go_loopw [10,9] (fun t c wi=>∃j C:Nat,j≤q∧t=.int .i64 ((j:Int)-1)∧c=.int .i64 (C:Int)∧(C:Int)≤1∧Hid (C=cry (m.drop j))∧Hid (IRow wi g (m.take j++dbl (m.drop j)))∧Hid (Below w.heap.size w wi)) (fun t _ _=>(intOf t+1).toNat)
        case atStart =>
         exact⟨q,0,qL _,rfl,rfl,by omega,Hd (by rw[List.drop_of_length_le (by rw[hml.out];exact qL _)];rfl),Hd (by rw[List.take_of_length_le (by rw[hml.out];exact qL _),List.drop_of_length_le (by rw[hml.out];exact qL _),show dbl []=[] from rfl,List.append_nil];exact hR.out),hBb⟩
        case round =>
         obtain⟨j,C,hj,rfl,rfl,hC1,hC,hI,hBi⟩:=hrel
         rcases j with _ | j
         ·obtain⟨U2,hU2⟩:∃U2,U2=U1+C:=⟨_,rfl⟩
          have e2:(U1:Int)+(C:Int)=(U2:Int):=by omega
          have ub2:(U2:Int)≤9223372041149743105:=by omega
          have c0:(0:Int)≤(C:Int):=by omega
          have HU2:Hid (U2=v*2 ^ (κ+1)+(2*B+cry m)):=Hd (by
           have h1:=hC.out
           rw[List.drop_zero] at h1
           have h2:v*2 ^ (κ+1)=2*(v*2 ^ κ):=by rw[Nat.pow_succ];exact((Nat.mul_comm _ _).trans (Nat.mul_assoc _ _ _)).symm
           rw[hU2,HU1.out,hU.out,h2,h1]
           omega)
          clear hU2
          go_wp2_with fail
          exact⟨⟨κ+1,U2,2*B+cry m,dbl m,by omega,rfl,rfl,HU2,Hd (dblAt_next hD.out),Hd (by have:=hI.out;rw[List.take_zero,List.drop_zero,List.nil_append] at this;exact this),hBi⟩,by simp[litLen];omega⟩
         ·have hj2:j<m.length:=by rw[hml.out];omega
          obtain⟨x',hx'⟩:∃x',m[j]?=some x':=⟨m[j],List.getElem?_eq_getElem hj2⟩
          have hxd:=isDig_iff.1 (List.all_eq_true.1 hD.out.1 x' (List.mem_of_getElem? hx'))
          have hxr:(m.take (j+1)++dbl (m.drop (j+1)))[j]?=some x':=by
           rw[List.getElem?_append_left (by simp;omega),List.getElem?_take,if_pos (by omega),hx']
          obtain⟨c1o,f1⟩:=hI.out j x' hxr
          obtain⟨y,hy⟩:∃y,y=x'.toNat-48:=⟨_,rfl⟩
          have c1:wr.cell? ⟨g,j,none⟩=some (.int .i64 (y:Int)):=by rw[c1o];unfold cellI;rw[hy]
          obtain⟨T,hT⟩:∃T,T=2*y+C:=⟨_,rfl⟩
          obtain⟨s,hs'⟩:∃s,s=T / 10:=⟨_,rfl⟩
          obtain⟨r,hr⟩:∃r,r=T % 10:=⟨_,rfl⟩
          have HN:=Hd (irow_next hI.out hx' r (by rw[hr,hT,hy,hC.out]))
          have HC2:Hid (s=cry (m.drop j)):=Hd (by rw[hs',hT,hy,hC.out,drop_at hx'];rfl)
          have y9:(y:Int)≤9:=by omega
          have y0:(0:Int)≤(y:Int):=by omega
          have e2:2*(y:Int)+(C:Int)=(T:Int):=by omega
          have t19:(T:Int)≤19:=by omega
          have e3:(T:Int) / 10=(s:Int):=by omega
          have e4:(T:Int) % 10=(r:Int):=by omega
          have e5:Int.tdiv (T:Int) 10=(s:Int):=by rw[Int.tdiv_eq_ediv_of_nonneg (by omega)];exact e3
          have e6:Int.tmod (T:Int) 10=(r:Int):=by rw[Int.tmod_eq_emod_of_nonneg (by omega)];exact e4
          have s1:(s:Int)≤1:=by omega
          have r9:(r:Int)≤9:=by omega
          have jq:(j:Int)<(q:Int):=by omega
          have q7:decide ((0:Int)≤(j:Int))=true:=qT (by omega)
          clear hy hT hs' hr hxr hx' hxd hj2 c1o
          rw[show((j+1:Nat):Int)-1=(j:Int) by omega]
          go_wp2_with fail
          exact⟨⟨j,s,by omega,rfl,rfl,s1,HC2,HN,Hd (hBi.out.setCell (p:=⟨g,j,none⟩) HG.out _)⟩,by simp[intOf]⟩
       ·have q6:decide ((κ:Int)<32)=false:=qF (by omega)
        obtain rfl:κ=32:=by omega
        have hE:=E.out
        have hU':=hU.out
        rw[show(2:Nat) ^ 32=4294967296 from rfl,dblAt_end hD.out] at hU'
        rw[←hU'] at hE
        by_cases ho:(9223372036854775808:Int)<(U:Int)
        ·have q7:decide ((9223372036854775808:Int)<(U:Int))=true:=qT ho
         obtain⟨rfl,hov⟩:=hE
         rw[qT (by omega)] at hov
         subst hov
         clear hU hU'
         go_wp2_with fail
         go_ret2
         exact⟨rfl,hBb.out⟩
        ·have q7:decide ((9223372036854775808:Int)<(U:Int))=false:=qF ho
         obtain⟨rfl,hov⟩:=hE
         rw[qF (by omega)] at hov
         subst hov
         clear hU hU'
         go_wp2_with fail
         go_ret2
         exact⟨rfl,hBb.out⟩
theorem ref_size:RefSize:=fun t ht W=>by
 obtain⟨h1,h2,h3,h4,h5⟩:=litL_parts ht
 have hv:=numL_le (ahead t) h3 h2
 have hZ:numL (ahead t)≤2147483648→((readL t).1:Int)=((numL (ahead t)*4294967296+bitsL (behind t):Nat):Int)∧(!(readL t).2)=decide (9223372036854775808<numL (ahead t)*4294967296+bitsL (behind t)):=fun h=>by
  unfold readL
  rw[if_pos ⟨ht,h⟩]
  refine⟨by simp only[sizeL],?_⟩
  show(!decide (numL (ahead t)*4294967296+bitsL (behind t)≤9223372036854775808))=_
  by_cases hh:numL (ahead t)*4294967296+bitsL (behind t)≤9223372036854775808
  ·rw[qT hh,qF (by omega)];rfl
  ·rw[qF hh,qT (by omega)];rfl
 have hZ2:¬numL (ahead t)≤2147483648→((readL t).1:Int)=0∧(!(readL t).2)=true:=fun h=>by
  unfold readL
  rw[if_neg (fun hh=>h hh.2)]
  exact⟨by simp,by simp⟩
 rcases part_cases t with hp | ⟨a,b,rfl,hp⟩
 ·rw[behind_none t hp,ahead_none t hp] at *
  have e0:bitsL []=0:=by unfold bitsL;rfl
  rw[e0,Nat.add_zero] at hZ
  exact size_plain t _ (Hd rfl) (str_size t) (by omega) (Hd h3) _ (Hd rfl) (by omega) _ _ (Hd hZ) (Hd hZ2) W
 ·have hl:=ht
  rw[behind_point a b hp,ahead_point a b hp] at *
  have hb1:1≤b.length:=by
   unfold litL digitsL at hl
   have hpt:pointed (a++46 :: b)=true:=by unfold pointed;simp
   rw[behind_point a b hp,ahead_point a b hp,hpt] at hl
   simp only[Bool.and_eq_true,decide_eq_true_eq,Bool.not_true,Bool.false_or] at hl
   exact hl.2.2.1
  exact size_point (a++46 :: b) a b _ a.length (b.length-1) (Hd rfl) (Hd (by omega)) (Hd fun j c h=>by rw[List.getElem?_append_left (List.getElem?_eq_some_iff.1 h).1];exact h) (Hd (by rw[List.getElem?_append_right (qL _)];simp)) (Hd fun j c h=>by rw[List.getElem?_append_right (by omega),show a.length+1+j-a.length=j+1 by omega];exact h) (str_size _) (Hd (by simp only[List.length_append,List.length_cons];omega)) (by simp only[List.length_append,List.length_cons];omega) (by omega) (by omega) (Hd h3) (Hd h5) _ (Hd rfl) (by omega) _ _ (Hd hZ) (Hd hZ2) W
end Go.Proofs.YtpfmlfcaadnnpaaGreatDoor.Lx
namespace Go.Proofs.YtpfmlfcaadnnpaaGreatDoor.Lx

end Go.Proofs.YtpfmlfcaadnnpaaGreatDoor.Lx
namespace Go.Proofs.YtpfmlfcaadnnpaaGreatDoor
structure Ex where
 kind:Int
 a:Int
 b:Int
 c:Int
 name:ByteArray
 state:ByteArray
 v:Int
 args:List Int
 pos:Int
structure It where
 kind:Int
 name:ByteArray
 type:Int
 e:Int
 f:Int
 states:List ByteArray
 state:ByteArray
 next:ByteArray
 pos:Int
structure Pa where
 name:ByteArray
 type:Int
structure De where
 kind:Int
 name:ByteArray
 params:List Pa
 items:List It
 type:Int
 e:Int
 pos:Int
structure Pr where
 decls:List De
 exprs:List Ex
def manyOf (k:Int):Nat:=if k=4∨k=5∨k=16∨k=21 then 1 else if(6≤k∧k≤14)∨k=17∨k=18 then 2 else if k=15 then 3 else 0
def partsE (x:Ex):List Int:=if x.kind=19 then x.args else [x.a,x.b,x.c].take (manyOf x.kind)
def mostV (k:Int):Int:=if k=1 then 9223372036854775807 else if k=2 then 1 else 0
def namedK (k:Int):Bool:=decide (k=3)||decide (k=19)||decide (k=20)
def mayE (x:Ex) (i:Nat):Bool :=
 decide (1≤x.kind)&&decide (x.kind≤21)&&(partsE x).all (fun p=>decide (0≤p)&&decide (p<(i:Int)))&&([x.a,x.b,x.c].drop (manyOf x.kind)).all (fun p=>decide (p=0)) &&
 (namedK x.kind ==decide (x.name.size≠0))&&(decide (x.kind=20) ==decide (x.state.size≠0))&&(decide (x.kind=19)||decide (x.args.length=0))&&decide (0≤x.v)&&decide (x.v≤mostV x.kind)
def hasVal (k:Int):Bool:=decide (k=1)||decide (k=2)
def hasE (k:Int):Bool:=decide (k=1)||decide (k=4)||decide (k=2)||decide (k=3)||decide (k=5)
def hasF (k:Int):Bool:=decide (k=2)||decide (k=3)||decide (k=5)||decide (k=7)
def standsE (n:Nat) (has:Bool) (e:Int):Bool:=if has then decide (0≤e)&&decide (e<(n:Int)) else decide (e=0)
def mayI (n:Nat) (x:It):Bool:=standsE n (hasE x.kind) x.e&&standsE n (hasF x.kind) x.f
end Go.Proofs.YtpfmlfcaadnnpaaGreatDoor
