import Derived.Test.YtpfmlfcaadnnpaaGreatDoorPg00
import Derived.Laws.BitsAllLaws
import Derived.Deep.RegionHeld3
import Derived.Deep.QuietTactic
import Derived.BigQuiet
set_option maxHeartbeats 16000000
set_option maxRecDepth 100000
open Go.Proofs.Tryz(prog)
namespace Go.Proofs.YtpfmlfcaadnnpaaGreatDoor.Lx
open Go.RowKit
theorem no_dig {l:List UInt8} {k:Nat} {c:UInt8} (h:l[k]?=some c) (hc:isDig c=false):l.all isDig=false:=by
 rw[List.all_eq_false]
 exact⟨c,List.mem_of_getElem? h,by rw[hc];simp⟩
theorem digits_dec (l:List UInt8) (most:Nat) (w:World) (hl:(l.length:Int)≤9223372036854775807) (hm:(most:Int)≤100) :
  Calls prog 127 #[.string (str l),.int .i64 (most:Int)] w fun e w'=>e=.returned (.bool (digitsL l most))∧w'=w:=by
 have hs:=str_size l
 obtain⟨n,hn⟩:∃n,n=l.length:=⟨_,rfl⟩
 rw[←hn] at hs hl
 have N:=Hd hn
 have S:=Hd hs
 obtain⟨R,hR⟩:∃R,R=digitsL l most:=⟨_,rfl⟩
 rw[←hR]
 have RE:=Hd hR
 clear hR hn
 by_cases h1:(n:Int)<1
 ·have q1:decide ((n:Int)<1)=true:=qT h1
  go_enter Tryz.func127,Tryz.ntmps127
  go_wp2_with fail
  go_ret
  exact⟨by rw[RE.out];unfold digitsL;rw[qF (by have:=N.out;omega)];rfl,rfl⟩
 ·have q1:decide ((n:Int)<1)=false:=qF h1
  by_cases h2:(most:Int)<(n:Int)
  ·have q2:decide ((most:Int)<(n:Int))=true:=qT h2
   go_enter Tryz.func127,Tryz.ntmps127
   go_wp2_with fail
   go_ret
   exact⟨by rw[RE.out];unfold digitsL;rw[qF (p:=l.length≤most) (by have:=N.out;omega)];simp,rfl⟩
  ·have q2:decide ((most:Int)<(n:Int))=false:=qF h2
   have hR:R=l.all isDig:=by rw[RE.out];unfold digitsL;rw[qT (p:=l.length≤most) (by have:=N.out;omega),qT (by have:=N.out;omega)];simp
   have RE2:=Hd hR
   clear hR RE
   go_enter Tryz.func127,Tryz.ntmps127
   go_wp2_with fail
   go_loop [17] (fun x=>∃k:Nat,k≤n∧Hid ((l.take k).all isDig=true)∧x=.int .i64 k) (fun x=>n-litLen x)
   case atStart=>exact⟨0,by omega,Hd rfl,rfl⟩
   case round =>
    obtain⟨k,hk,hd,rfl⟩:=hrel
    rcases Nat.lt_or_ge k n with hlt | hge
    ·obtain⟨c,hc⟩:∃c,l[k]?=some c:=⟨l[k]'(by have:=N.out;omega),List.getElem?_eq_getElem _⟩
     have hix:∀h,(str l)[k]'h=c:=fun h=>str_at l hc h
     have T:=Hd (take_at hc)
     have C:=Hd hc
     clear hc
     have q3:decide ((k:Int)<(n:Int))=true:=qT (by omega)
     have cl:(c.toNat:Int)≤255:=by have:=c.toNat_lt;omega
     by_cases d1:(c.toNat:Int)<48
     ·have d1':decide ((c.toNat:Int)<48)=true:=qT d1
      go_wp2_with fail
      go_ret
      exact⟨by rw[RE2.out,no_dig C.out (by unfold isDig;simp;omega)];rfl,rfl⟩
     ·have d1':decide ((c.toNat:Int)<48)=false:=qF d1
      by_cases d2:(57:Int)<(c.toNat:Int)
      ·have d2':decide ((57:Int)<(c.toNat:Int))=true:=qT d2
       go_wp2_with fail
       go_ret
       exact⟨by rw[RE2.out,no_dig C.out (by unfold isDig;simp;omega)];rfl,rfl⟩
      ·have d2':decide ((57:Int)<(c.toNat:Int))=false:=qF d2
       go_wp2_with fail
       exact⟨⟨k+1,by omega,Hd (by rw[T.out,List.all_append,hd.out];simp;exact isDig_iff.2 (by omega)),rfl⟩,by simp[litLen];omega⟩
    ·have q3:decide ((k:Int)<(n:Int))=false:=qF (by omega)
     go_wp2_with fail
     go_ret
     exact⟨by rw[RE2.out,←hd.out,show k=l.length by rw[←N.out];omega,List.take_length];rfl,rfl⟩
theorem index_point (a b:List UInt8) (h:46 ∉ a):Lib.indexByte (a++46 :: b) 46=(a.length:Int):=by
 induction a with
 | nil=>rfl
 | cons c a ih =>
  simp only[List.mem_cons,not_or] at h
  have hc:(c ==46)=false:=beq_false_of_ne (fun e=>h.1 e.symm)
  simp only[List.cons_append,Lib.indexByte,hc,ih h.2]
  have:((a.length:Int) ==-1)=false:=beq_false_of_ne (by omega)
  simp[this]
theorem index_none (a:List UInt8) (h:46 ∉ a):Lib.indexByte a 46=-1:=by
 induction a with
 | nil=>rfl
 | cons c a ih =>
  simp only[List.mem_cons,not_or] at h
  have hc:(c ==46)=false:=beq_false_of_ne (fun e=>h.1 e.symm)
  simp[Lib.indexByte,hc,ih h.2]
theorem cut_inner (l:List UInt8) (w:World) (hl:(l.length:Int)≤9223372036854775807) :
  Calls prog 130 #[.string (str l),.string ⟨#[46]⟩] w fun e w'=>e=.returned (.tuple #[.string (str (ahead l)),.string (str (behind l)),.bool (pointed l)])∧Below w.heap.size w w':=by
 rcases part_cases l with h | ⟨a,b,rfl,h⟩
 ·have hI:=Tryz.stringslite_Index_one (str l) 46 w
  rw[str_data,index_none l h] at hI
  rw[ahead_none l h,behind_none l h,show pointed l=false by unfold pointed;simpa using h]
  have H:=Hd hI
  clear hI
  go_enter Tryz.func130,Tryz.ntmps130
  go_wp2_with (go_at_call 132;refine H.out.mono ?_;rintro e w' ⟨rfl,rfl⟩)
  go_ret3
  exact⟨rfl,qB _ _⟩
 ·have hI:=Tryz.stringslite_Index_one (str (a++46 :: b)) 46 w
  rw[str_data,index_point a b h] at hI
  rw[ahead_point a b h,behind_point a b h,show pointed (a++46 :: b)=true by unfold pointed;simp]
  have H:=Hd hI
  clear hI
  obtain⟨S,hS⟩:∃S,S=str (a++46 :: b):=⟨_,rfl⟩
  have hz:S.size=a.length+1+b.length:=by rw[hS,str_size];simp;omega
  have e1:S.extract 0 a.length=str a:=by rw[hS,str_extract];simp
  have e2:S.extract (a.length+1) S.size=str b:=by
   rw[hz,hS,Lib.extract_eq,str_data];unfold str;congr 2
   rw[List.drop_append,List.drop_eq_nil_of_le (by omega)];simp
  rw[←hS] at H ⊢
  obtain⟨i,hi⟩:∃i,i=a.length:=⟨_,rfl⟩
  rw[←hi] at H e1 e2 hz
  have il:(i:Int)≤9223372036854775806:=by simp at hl;omega
  have c1:(0:Int)≤(i:Int):=by omega
  have c2:(i:Int)≤(S.size:Int):=by omega
  have c3:(0:Int)≤(i:Int)+1:=by omega
  have c4:(i:Int)+1≤(S.size:Int):=by omega
  have c5:IntKind.i64.wrap ((i:Int)+1)=(i:Int)+1:=by rw[IntKind.wrap_i64];omega
  have mixed:prog.follows Departure.mixedOrders=true:=by kernel_rfl
  have E1:=Hd e1
  have E2:=Hd e2
  clear hS hz e1 e2 hi
  go_enter Tryz.func130,Tryz.ntmps130
  go_wp2_with (go_at_call 132;refine H.out.mono ?_;rintro e w' ⟨rfl,rfl⟩)
  go_region_o
  go_wp2_with fail
  go_ret3
  rw[←E1.out,←E2.out]
  exact⟨rfl,(qB _ _).drew⟩
theorem cut_point (l:List UInt8) (w:World) (hl:(l.length:Int)≤9223372036854775807) :
  Calls prog 126 #[.string (str l),.string ⟨#[46]⟩] w fun e w'=>e=.returned (.tuple #[.string (str (ahead l)),.string (str (behind l)),.bool (pointed l)])∧Below w.heap.size w w':=by
 go_enter Tryz.func126,Tryz.ntmps126
 go_wp2_with (go_at_call 130;refine(cut_inner l w hl).mono ?_;rintro e w' ⟨rfl,hb⟩)
 go_ret3
 exact⟨rfl,hb⟩
def CutPost (R:Bool) (a b:List UInt8) (w:World) (e:Ending) (w':World):Prop :=
 e=.returned (.tuple #[.string (str (if R then a else [])),.string (str (if R then b else [])),.bool R])∧Below w.heap.size w w'
theorem cut_core (l a b:List UInt8) (p D1 D2 R:Bool) (n:Nat) (hn:a.length=n) (hb0:(n:Int)≤9223372036854775807) (w:World) (hR:R=(D1&&(!(decide (1<n)&&a.head? ==some 48)&&(!p||D2))))
  (C:Hid (Calls prog 126 #[.string (str l),.string ⟨#[46]⟩] w fun e w'=>e=.returned (.tuple #[.string (str a),.string (str b),.bool p])∧Below w.heap.size w w'))
  (A1:Hid (∀w,Calls prog 127 #[.string (str a),.int .i64 10] w fun e w'=>e=.returned (.bool D1)∧w'=w))
  (B1:Hid (∀w,Calls prog 127 #[.string (str b),.int .i64 40] w fun e w'=>e=.returned (.bool D2)∧w'=w)) :
  Calls prog 121 #[.string (str l)] w fun e w'=>CutPost R a b w e w':=by
 have hs:=str_size a
 rw[hn] at hs
 have HN:=Hd hn
 clear hn
 cases D1 with
 | false =>
  obtain rfl:R=false:=by rw[hR];rfl
  clear hR
  go_enter Tryz.func121,Tryz.ntmps121
  go_wp2_with (first | (go_at_call 126;refine C.out.mono ?_;rintro e w1 ⟨rfl,b1⟩;have W1:=Hd b1;clear b1) | (go_at_call 127;refine(A1.out _).mono ?_;rintro e w2 ⟨rfl,rfl⟩))
  go_ret3
  exact⟨rfl,W1.out⟩
 | true =>
  have pd:p=false∨(p=true∧D2=true)∨(p=true∧D2=false):=by cases p <;> cases D2 <;> simp
  by_cases h1:(1:Int)<(n:Int)
  ·have q1:decide ((1:Int)<(n:Int))=true:=qT h1
   obtain⟨c,a',ha⟩:∃c a',a=c :: a':=by
    cases a with
    | nil=>have:=HN.out;simp at this;omega
    | cons c a'=>exact⟨c,a',rfl⟩
   have hix:∀h,(str a)[0]'h=c:=fun h=>str_at a (by rw[ha];rfl) h
   have hR':R=(!(c ==48)&&(!p||D2)):=by rw[hR,ha,qT (by omega)];simp
   clear hR ha
   by_cases hc:c=48
   ·obtain rfl:R=false:=by rw[hR',hc];rfl
    subst hc
    clear hR'
    go_enter Tryz.func121,Tryz.ntmps121
    go_wp2_with (first | (go_at_call 126;refine C.out.mono ?_;rintro e w1 ⟨rfl,b1⟩;have W1:=Hd b1;clear b1) | (go_at_call 127;refine(A1.out _).mono ?_;rintro e w2 ⟨rfl,rfl⟩))
    go_ret3
    exact⟨rfl,W1.out⟩
   ·have hc':(c ==48)=false:=beq_false_of_ne hc
    have hc2:¬(c.toNat:Int)=48:=fun e=>hc (UInt8.toNat_inj.1 (by show c.toNat=48;omega))
    rw[hc'] at hR'
    rcases pd with rfl | ⟨rfl,rfl⟩ | ⟨rfl,rfl⟩
    ·obtain rfl:R=true:=by rw[hR'];rfl
     clear hR'
     go_enter Tryz.func121,Tryz.ntmps121
     go_wp2_with (first | (go_at_call 126;refine C.out.mono ?_;rintro e w1 ⟨rfl,b1⟩;have W1:=Hd b1;clear b1) | (go_at_call 127;((with_reducible refine(A1.out _).mono ?_);rintro e w2 ⟨rfl,rfl⟩)) | (go_at_call 127;((with_reducible refine(B1.out _).mono ?_);rintro e w2 ⟨rfl,rfl⟩)))
     go_ret3
     exact⟨rfl,W1.out⟩
    ·obtain rfl:R=true:=by rw[hR'];rfl
     clear hR'
     go_enter Tryz.func121,Tryz.ntmps121
     go_wp2_with (first | (go_at_call 126;refine C.out.mono ?_;rintro e w1 ⟨rfl,b1⟩;have W1:=Hd b1;clear b1) | (go_at_call 127;((with_reducible refine(A1.out _).mono ?_);rintro e w2 ⟨rfl,rfl⟩)) | (go_at_call 127;((with_reducible refine(B1.out _).mono ?_);rintro e w2 ⟨rfl,rfl⟩)))
     go_ret3
     exact⟨rfl,W1.out⟩
    ·obtain rfl:R=false:=by rw[hR'];rfl
     clear hR'
     go_enter Tryz.func121,Tryz.ntmps121
     go_wp2_with (first | (go_at_call 126;refine C.out.mono ?_;rintro e w1 ⟨rfl,b1⟩;have W1:=Hd b1;clear b1) | (go_at_call 127;((with_reducible refine(A1.out _).mono ?_);rintro e w2 ⟨rfl,rfl⟩)) | (go_at_call 127;((with_reducible refine(B1.out _).mono ?_);rintro e w2 ⟨rfl,rfl⟩)))
     go_ret3
     exact⟨rfl,W1.out⟩
  ·have q1:decide ((1:Int)<(n:Int))=false:=qF h1
   have hR':R=(!p||D2):=by rw[hR,qF (by omega)];simp
   clear hR
   rcases pd with rfl | ⟨rfl,rfl⟩ | ⟨rfl,rfl⟩
   ·obtain rfl:R=true:=by rw[hR'];rfl
    clear hR'
    go_enter Tryz.func121,Tryz.ntmps121
    go_wp2_with (first | (go_at_call 126;refine C.out.mono ?_;rintro e w1 ⟨rfl,b1⟩;have W1:=Hd b1;clear b1) | (go_at_call 127;((with_reducible refine(A1.out _).mono ?_);rintro e w2 ⟨rfl,rfl⟩)) | (go_at_call 127;((with_reducible refine(B1.out _).mono ?_);rintro e w2 ⟨rfl,rfl⟩)))
    go_ret3
    exact⟨rfl,W1.out⟩
   ·obtain rfl:R=true:=by rw[hR'];rfl
    clear hR'
    go_enter Tryz.func121,Tryz.ntmps121
    go_wp2_with (first | (go_at_call 126;refine C.out.mono ?_;rintro e w1 ⟨rfl,b1⟩;have W1:=Hd b1;clear b1) | (go_at_call 127;((with_reducible refine(A1.out _).mono ?_);rintro e w2 ⟨rfl,rfl⟩)) | (go_at_call 127;((with_reducible refine(B1.out _).mono ?_);rintro e w2 ⟨rfl,rfl⟩)))
    go_ret3
    exact⟨rfl,W1.out⟩
   ·obtain rfl:R=false:=by rw[hR'];rfl
    clear hR'
    go_enter Tryz.func121,Tryz.ntmps121
    go_wp2_with (first | (go_at_call 126;refine C.out.mono ?_;rintro e w1 ⟨rfl,b1⟩;have W1:=Hd b1;clear b1) | (go_at_call 127;((with_reducible refine(A1.out _).mono ?_);rintro e w2 ⟨rfl,rfl⟩)) | (go_at_call 127;((with_reducible refine(B1.out _).mono ?_);rintro e w2 ⟨rfl,rfl⟩)))
    go_ret3
    exact⟨rfl,W1.out⟩
theorem cut_dec (l:List UInt8) (w:World) (hl:(l.length:Int)≤9223372036854775807) :
  Calls prog 121 #[.string (str l)] w fun e w'=>CutPost (litL l) (ahead l) (behind l) w e w':=by
 have ha:(ahead l).length≤l.length:=(List.takeWhile_prefix _).length_le
 have hb:(behind l).length≤l.length:=by
  unfold behind
  rw[List.length_drop]
  have:=(List.dropWhile_suffix (l:=l) (· !=46)).length_le
  omega
 exact cut_core l (ahead l) (behind l) (pointed l) _ _ (litL l) _ rfl (by omega) w rfl (Hd (cut_point l w hl)) (Hd fun w=>digits_dec (ahead l) 10 w (by omega) (by omega)) (Hd fun w=>digits_dec (behind l) 40 w (by omega) (by omega))
theorem or_low (i a b:Nat) (hb:b<2 ^ i) (h1:2 ^ i*a<18446744073709551616) (h2:b<18446744073709551616):bits .or .u64 ((2 ^ i*a:Nat):Int) (b:Int)=((2 ^ i*a+b:Nat):Int):=by
 rw[u64_or_nat _ _ h1 h2,Nat.two_pow_add_eq_or_of_lt hb]
theorem double_any (x c C:Nat) (w:World) (x1:(48:Int)≤(x:Int)) (x2:(x:Int)≤57) (c1:(c:Int)≤1) (hc:w.cell? ⟨C,0,none⟩=some (.int .u8 (c:Int))) (hf:w.frozen? ⟨C,0,none⟩=false) :
  Calls prog 128 #[.int .u8 (x:Int),.pointer (some ⟨C,0,none⟩)] w fun e w' =>
   e=.returned (.int .u8 ((48+(2*(x-48)+c) % 10:Nat):Int))∧w'=w.setCell ⟨C,0,none⟩ (.int .u8 (((2*(x-48)+c) / 10:Nat):Int)):=by
 obtain⟨T,hT⟩:∃T:Nat,T=2*(x-48)+c:=⟨_,rfl⟩
 obtain⟨y,hy⟩:∃y:Nat,y=x-48:=⟨_,rfl⟩
 obtain⟨t,ht⟩:∃t:Nat,t=T / 10:=⟨_,rfl⟩
 obtain⟨r,hr⟩:∃r:Nat,r=T % 10:=⟨_,rfl⟩
 rw[←hT,←ht,←hr]
 have e1:(x:Int)-48=(y:Int):=by omega
 have e2:2*(y:Int)+(c:Int)=(T:Int):=by omega
 have e3:(T:Int) / 10=(t:Int):=by omega
 have e4:(T:Int) % 10=(r:Int):=by omega
 have e5:((48+r:Nat):Int)=(r:Int)+48:=by omega
 have y1:(y:Int)≤9:=by omega
 have t1:(T:Int)≤19:=by omega
 have r1:(r:Int)≤9:=by omega
 rw[e5]
 clear hT hy ht hr e5
 go_enter Tryz.func128,Tryz.ntmps128
 go_wp2_with fail
 go_ret
 exact⟨rfl,rfl⟩
def InRow (w:World) (R C:Nat) (m:List UInt8) (j:Nat):Prop:=Row w R (m.take j++dbl (m.drop j))∧Row w C [UInt8.ofNat (cry (m.drop j))]
theorem drop_at {l:List UInt8} {k:Nat} {c:UInt8} (h:l[k]?=some c):l.drop k=c :: l.drop (k+1):=by
 obtain⟨h1,rfl⟩:=List.getElem?_eq_some_iff.1 h
 exact List.drop_eq_getElem_cons h1
theorem row_other {w:World} {B D o:Nat} {v:Value} {l:List UInt8} (h:Row w B l) (hne:B≠D):Row (w.setCell ⟨D,o,none⟩ v) B l :=
 row_far h (Below.heap_setCell w ⟨D,o,none⟩ v B hne)
theorem byte_val {n:Nat} (h:n<256):(UInt8.ofNat n).toNat=n:=UInt8.toNat_ofNat_of_lt' h
theorem inRow_start {w:World} {R C:Nat} {m:List UInt8} (h:Row w R m) (hc:∃x,Row w C [x]) (hne:R≠C):InRow (w.setCell ⟨C,0,none⟩ (.int .u8 0)) R C m m.length:=by
 obtain⟨x,hx⟩:=hc
 unfold InRow
 rw[List.take_length,List.drop_length]
 refine⟨?_,row_set hx 0 0 (by simp)⟩
 rw[show dbl []=[] from rfl,List.append_nil]
 exact row_other h hne
theorem inRow_next {w:World} {R C:Nat} {m:List UInt8} {j:Nat} {x:UInt8} (h:InRow w R C m (j+1)) (hx:m[j]?=some x) (hne:R≠C) (hm:m.all isDig=true) :
  InRow ((w.setCell ⟨C,0,none⟩ (.int .u8 (((2*(x.toNat-48)+cry (m.drop (j+1))) / 10:Nat):Int))).setCell ⟨R,j,none⟩ (.int .u8 ((48+(2*(x.toNat-48)+cry (m.drop (j+1))) % 10:Nat):Int))) R C m j:=by
 obtain⟨h1,h2⟩:=h
 have hj:j<m.length:=(List.getElem?_eq_some_iff.1 hx).1
 have hd:=drop_at hx
 have hxd:=isDig_iff.1 (List.all_eq_true.1 hm x (List.mem_of_getElem? hx))
 have hc1:cry (m.drop (j+1))≤1:=cry_le _ (List.all_eq_true.2 fun y hy=>List.all_eq_true.1 hm y (List.mem_of_mem_drop hy))
 have h3:=row_other (D:=C) (o:=0) (v:=.int .u8 (((2*(x.toNat-48)+cry (m.drop (j+1))) / 10:Nat):Int)) h1 hne
 have h4:=row_set h3 j (dg ((2*(x.toNat-48)+cry (m.drop (j+1))) % 10)) (by simp;omega)
 rw[dg_val (by omega)] at h4
 have h5:=row_set h2 0 (UInt8.ofNat ((2*(x.toNat-48)+cry (m.drop (j+1))) / 10)) (by simp)
 rw[byte_val (by omega)] at h5
 have e1:(m.take (j+1)++dbl (m.drop (j+1))).set j (dg ((2*(x.toNat-48)+cry (m.drop (j+1))) % 10))=m.take j++dbl (m.drop j):=by
  rw[take_at hx,List.append_assoc,List.set_append_right _ _ (by simp;omega),hd]
  have:j-(m.take j).length=0:=by simp;omega
  rw[this]
  rfl
 rw[e1] at h4
 refine⟨h4,?_⟩
 have e2:cry (m.drop j)=(2*(x.toNat-48)+cry (m.drop (j+1))) / 10:=by rw[hd];rfl
 rw[e2]
 exact row_other h5 (Ne.symm hne)
theorem row_new0 (w:World) (T:TypeId):Row (w.alloc (.cells #[.int .u8 0] T)) w.heap.size [0]:=fun j x h=>by
 have e:j=0:=by have:=(List.getElem?_eq_some_iff.1 h).1;simp at this;omega
 subst e
 cases h
 exact⟨by rw[World.cell?_alloc_new];rfl,World.frozen?_alloc_new _ _ _ _⟩
theorem bits_core (l:List UInt8) (n:Nat) (hn:l.length=n) (hl:(n:Int)≤100) (hd:l.all isDig=true) (w W1:World) (K:Nat)
  (hcv:(convert 9 130 (.string (str l))).run prog w=.ok (.slice (some ⟨w.heap.size,0,none⟩) n K) W1) (hr:Hid (Row W1 w.heap.size l)) (hb:Hid (Below w.heap.size w W1)) (hz:Hid (W1.heap.size=w.heap.size+1))
  (P:Nat) (hP:Hid (P=bitsL l)) :
  Calls prog 122 #[.string (str l)] w fun e w'=>e=.returned (.int .u64 (P:Int))∧Below w.heap.size w w':=by
 have HN:=Hd hn
 have HD:=Hd hd
 clear hn hd
 obtain⟨R,hR⟩:∃R,R=w.heap.size:=⟨_,rfl⟩
 rw[←hR] at hcv hr hz
 have RE:=Hd hR
 clear hR
 go_enter Tryz.func122,Tryz.ntmps122
 go_wp2_with fail
 go_loopw [11,6] (fun i b wr=>∃(k B:Nat) (m:List UInt8),k≤32∧i=.int .i64 k∧b=.int .u64 B∧Hid (DblAt l k m B)∧Hid (Row wr R m)∧Hid (∃x,Row wr W1.heap.size [x])∧Hid (Below w.heap.size w wr)) (fun i _ _=>32-litLen i)
 case atStart=>exact⟨0,0,l,by omega,rfl,rfl,Hd (dblAt_zero l HD.out),Hd (row_far hr.out (Below.heap_alloc _ _ _ (by rw[hz.out];omega))),Hd ⟨0,row_new0 _ _⟩,Hd (hb.out.alloc hb.out.size _)⟩
 case round =>
  obtain⟨k,B,m,hk,rfl,rfl,hD,hRow,hC,hBel⟩:=hrel
  rcases Nat.lt_or_ge k 32 with hlt | hge
  ·obtain⟨x,hx⟩:=hC.out
   have q3:decide ((k:Int)<32)=true:=qT (by omega)
   have c0:=row_cell hx (j:=0) rfl
   have f0:=row_frozen hx (j:=0) rfl
   have hne:Hid (R≠W1.heap.size):=Hd (by rw[hz.out];omega)
   have hml:Hid (m.length=n):=Hd (by rw[hD.out.2.1];exact HN.out)
   have hmd:Hid (m.all isDig=true):=Hd hD.out.1
   have hst:=Hd (inRow_start hRow.out ⟨x,hx⟩ hne.out)
   rw[hml.out] at hst
   clear hx
   go_wp2_with fail
   go_loopw [7] (fun t wi=>∃j:Nat,j≤n∧t=.int .i64 ((j:Int)-1)∧Hid (InRow wi R W1.heap.size m j)∧Hid (Below w.heap.size w wi)) (fun t _=>(intOf t+1).toNat)
   case atStart=>exact⟨n,by omega,rfl,hst,Hd (hBel.out.setCell (by show w.heap.size≤W1.heap.size;exact hb.out.size) _)⟩
   case round =>
    obtain⟨j,hj,rfl,hI,hBi⟩:=hrel
    rcases j with _ | j
    ·have c1:=row_cell hI.out.2 (j:=0) rfl
     go_wp2_with fail
     have h1:=cry_le m hmd.out
     have hBk:=dblAt_lt hD.out HD.out
     have hBk2:2 ^ k≤2 ^ 31:=Nat.pow_le_pow_right (by omega) (by omega)
     have hor:=or_low 1 B (cry m) (by omega) (by omega) (by omega)
     have e1:bits BinOp.or IntKind.u64 (IntKind.u64.wrap ((B:Int)*2)) ((cry m:Int) % 256)=((2*B+cry m:Nat):Int):=by
      rw[show IntKind.u64.wrap ((B:Int)*2)=((2 ^ 1*B:Nat):Int) by rw[IntKind.wrap_u64];omega,show(cry m:Int) % 256=(cry m:Int) by omega,hor]
     rw[e1]
     refine⟨⟨k+1,2*B+cry m,dbl m,by omega,rfl,rfl,Hd (dblAt_next hD.out),?_,Hd ⟨_,hI.out.2⟩,hBi⟩,by simp[litLen];omega⟩
     have:=hI.out.1
     rw[List.take_zero,List.drop_zero,List.nil_append] at this
     exact Hd this
    ·have hj2:j<m.length:=by rw[hml.out];omega
     obtain⟨x,hx⟩:∃x,m[j]?=some x:=⟨m[j],List.getElem?_eq_getElem hj2⟩
     have hxd:=isDig_iff.1 (List.all_eq_true.1 hmd.out x (List.mem_of_getElem? hx))
     have hcy:cry (m.drop (j+1))≤1:=cry_le _ (List.all_eq_true.2 fun y hy=>List.all_eq_true.1 hmd.out y (List.mem_of_mem_drop hy))
     have hxr:(m.take (j+1)++dbl (m.drop (j+1)))[j]?=some x:=by
      rw[List.getElem?_append_left (by simp;omega),List.getElem?_take,if_pos (by omega),hx]
     have c1:=row_cell hI.out.1 hxr
     have f1:=row_frozen hI.out.1 hxr
     have c2:=row_cell hI.out.2 (j:=0) rfl
     have f2:=row_frozen hI.out.2 (j:=0) rfl
     rw[byte_val (by omega)] at c2
     have hnx:=inRow_next hI.out hx hne.out hmd.out
     obtain⟨X,hX⟩:∃X,X=x.toNat:=⟨_,rfl⟩
     obtain⟨c,hc⟩:∃c,c=cry (m.drop (j+1)):=⟨_,rfl⟩
     rw[←hX] at c1 hnx hxd
     rw[←hc] at c2 hnx hcy
     have D:=Hd (double_any X c W1.heap.size wr (by omega) (by omega) (by omega) c2 f2)
     have hneb:R≠W1.heap.size:=hne.out
     obtain⟨v1,hv1⟩:∃v1,v1=(2*(X-48)+c) / 10:=⟨_,rfl⟩
     obtain⟨v2,hv2⟩:∃v2,v2=48+(2*(X-48)+c) % 10:=⟨_,rfl⟩
     rw[←hv1,←hv2] at D hnx
     have c3:(wr.setCell ⟨W1.heap.size,0,none⟩ (.int .u8 (v1:Int))).cell? ⟨R,j,none⟩=some (.int .u8 (X:Int)):=by rw[World.cell?_setCell_other _ _ _ _ (by simp)];exact c1
     have f3:(wr.setCell ⟨W1.heap.size,0,none⟩ (.int .u8 (v1:Int))).frozen? ⟨R,j,none⟩=false:=by rw[World.frozen?_setCell];exact f1
     have q4:decide ((0:Int)≤(j:Int))=true:=qT (by omega)
     have HNX:=Hd hnx
     have jn:(j:Int)<(n:Int):=by omega
     clear hv1 hv2 hX hc hnx hxr hx hxd hcy hneb
     go_wp2_with (go_at_call 128;refine D.out.mono ?_;rintro e w2 ⟨rfl,rfl⟩)
     exact⟨⟨j,by omega,rfl,HNX,Hd ((hBi.out.setCell (p:=⟨W1.heap.size,0,none⟩) hb.out.size _).setCell (p:=⟨R,j,none⟩) (by show w.heap.size≤R;rw[RE.out];exact qL _) _)⟩,by simp[intOf]⟩
  ·have q3:decide ((k:Int)<32)=false:=qF (by omega)
   obtain rfl:k=32:=by omega
   have hBP:B=P:=by rw[hP.out];exact dblAt_end hD.out
   go_wp2_with fail
   go_ret
   exact⟨by rw[hBP];rfl,hBel.out⟩
theorem bits_behind (l:List UInt8) (hl:l.length≤100) (hd:l.all isDig=true) (w:World) :
  Calls prog 122 #[.string (str l)] w fun e w'=>e=.returned (.int .u64 ((bitsL l:Nat):Int))∧Below w.heap.size w w':=by
 have hcv:=Lib.run_convert_string_bytes (P:=prog) w 9 130 5 (str l) Tryz.underlying9 Tryz.underlying130 Tryz.underlying5
 rw[str_size] at hcv
 have hrow:Row (Lib.bytesWorld w 5 (str l)) w.heap.size l:=fun j x hx=>by
  obtain⟨hj,rfl⟩:=List.getElem?_eq_some_iff.1 hx
  refine⟨?_,?_⟩
  ·rw[Lib.bytesWorld_cell w _ _ j (by rw[str_size];exact hj),str_data]
   simp[List.getD,hj]
  ·have hsz:(Lib.bytesCells w 5 (str l)).size ≥ l.length:=by unfold Lib.bytesCells;simp[str]
   unfold World.frozen?
   rw[Lib.bytesWorld_at_new]
   simp
   omega
 exact bits_core l l.length rfl (by omega) hd w _ _ hcv (Hd hrow) (Hd ⟨rfl,rfl,rfl,by rw[Lib.bytesWorld_size];omega,fun k hk=>Lib.bytesWorld_at_old w _ _ k hk⟩) (Hd (Lib.bytesWorld_size w _ _)) _ (Hd rfl)
theorem litL_parts {l:List UInt8} (h:litL l=true):1≤(ahead l).length∧(ahead l).length≤10∧(ahead l).all isDig=true∧(behind l).length≤40∧(behind l).all isDig=true:=by
 unfold litL digitsL at h
 simp only[Bool.and_eq_true,decide_eq_true_eq,Bool.or_eq_true,Bool.not_eq_true'] at h
 obtain⟨⟨h1,h2,h3⟩,_,h4⟩:=h
 refine⟨h1,h2,h3,?_⟩
 rcases h4 with h4 | ⟨_,h4,h5⟩
 ·have:behind l=[]:=behind_none l (by unfold pointed at h4;simpa using h4)
  rw[this];simp
 ·exact⟨h4,h5⟩
theorem numL_le (l:List UInt8) (h:l.all isDig=true) (hl:l.length≤10):numL l<10000000000:=by
 have h1:=numL_lt l h
 have h2:10 ^ l.length≤10 ^ 10:=Nat.pow_le_pow_right (by omega) hl
 omega
theorem all_take {l:List UInt8} (h:l.all isDig=true) (k:Nat):(l.take k).all isDig=true:=List.all_eq_true.2 fun y hy=>List.all_eq_true.1 h y (List.mem_of_mem_take hy)
theorem read_none (l:List UInt8) (A B:ByteArray) (w:World) (C:Hid (Calls prog 121 #[.string (str l)] w fun e w'=>e=.returned (.tuple #[.string A,.string B,.bool false])∧Below w.heap.size w w')) :
  Calls prog 117 #[.string (str l)] w fun e w'=>e=.returned (.tuple #[.int .u64 0,.bool false])∧Below w.heap.size w w':=by
 go_enter Tryz.func117,Tryz.ntmps117
 go_wp2_with (go_at_call 121;refine C.out.mono ?_;rintro e w' ⟨rfl,hb⟩)
 go_ret2
 exact⟨rfl,hb⟩
theorem read_some (l a b:List UInt8) (n:Nat) (hn:a.length=n) (hn1:(n:Int)≤10) (hd:a.all isDig=true) (V P:Nat) (hV:V=numL a) (w:World)
  (C:Hid (Calls prog 121 #[.string (str l)] w fun e w'=>e=.returned (.tuple #[.string (str a),.string (str b),.bool true])∧Below w.heap.size w w'))
  (D:Hid (∀w,Calls prog 122 #[.string (str b)] w fun e w'=>e=.returned (.int .u64 (P:Int))∧Below w.heap.size w w')) (hP:(P:Int)≤4294967295) :
  Calls prog 117 #[.string (str l)] w fun e w' =>
   e=.returned (.tuple #[.int .u64 (if V≤2147483648 then((V*4294967296+P:Nat):Int) else 0),.bool (decide (V≤2147483648∧V*4294967296+P≤9223372036854775808))])∧Below w.heap.size w w':=by
 have hs:=str_size a
 rw[hn] at hs
 have HN:=Hd hn
 have HD:=Hd hd
 have HV:=Hd hV
 have hV1:V<10000000000:=by rw[hV];exact numL_le a hd (by omega)
 clear hn hd hV
 obtain⟨Z,hZ⟩:∃Z,Z=(if V≤2147483648 then((V*4294967296+P:Nat):Int) else 0):=⟨_,rfl⟩
 obtain⟨O,hO⟩:∃O,O=decide (V≤2147483648∧V*4294967296+P≤9223372036854775808):=⟨_,rfl⟩
 rw[←hZ,←hO]
 have ZE:=Hd hZ
 have OE:=Hd hO
 clear hZ hO
 go_enter Tryz.func117,Tryz.ntmps117
 go_wp2_with (go_at_call 121;refine C.out.mono ?_;rintro e w1 ⟨rfl,hb⟩;have HB:=Hd hb;clear hb)
 go_loop [20,7] (fun x y=>∃k:Nat,k≤n∧x=.int .i64 k∧y=.int .u64 (numL (a.take k):Nat)) (fun x _=>n-litLen x)
 case atStart=>exact⟨0,by omega,rfl,rfl⟩
 case round =>
  obtain⟨k,hk,rfl,rfl⟩:=hrel
  rcases Nat.lt_or_ge k n with hlt | hge
  ·obtain⟨c,hc⟩:∃c,a[k]?=some c:=⟨a[k]'(by have:=HN.out;omega),List.getElem?_eq_getElem _⟩
   have hix:∀h,(str a)[k]'h=c:=fun h=>str_at a hc h
   have q3:decide ((k:Int)<(n:Int))=true:=qT (by omega)
   have hcd:=isDig_iff.1 (List.all_eq_true.1 HD.out c (List.mem_of_getElem? hc))
   have hnx:numL (a.take (k+1))=numL (a.take k)*10+(c.toNat-48):=by rw[take_at hc,numL_snoc]
   have h1:=numL_le _ (all_take HD.out k) (by rw[List.length_take];omega)
   have h2:=numL_le _ (all_take HD.out (k+1)) (by rw[List.length_take];omega)
   have NX:=Hd hnx
   obtain⟨X,hX⟩:∃X,X=c.toNat:=⟨_,rfl⟩
   rw[←hX] at hcd hnx
   obtain⟨y,hy⟩:∃y,y=X-48:=⟨_,rfl⟩
   rw[←hy] at hnx
   obtain⟨v,hv⟩:∃v,v=numL (a.take k):=⟨_,rfl⟩
   rw[←hv] at hnx h1 ⊢
   obtain⟨v2,hv2⟩:∃v2,v2=numL (a.take (k+1)):=⟨_,rfl⟩
   rw[←hv2] at hnx h2
   have V2:=Hd hv2
   have e0:(X:Int)-48=(y:Int):=by omega
   have e1:(v:Int)*10+(y:Int)=(v2:Int):=by omega
   have b0:(48:Int)≤(X:Int):=by omega
   have b1:(X:Int)≤57:=by omega
   have b2:(v:Int)≤9999999999:=by omega
   have b3:(v2:Int)≤9999999999:=by omega
   have b4:(y:Int)≤9:=by omega
   have hX2:c.toNat=X:=hX.symm
   clear hX hy hv hv2 hnx h1 h2 hcd hc NX
   go_wp2_with fail
   exact⟨⟨k+1,by omega,rfl,by rw[V2.out]⟩,by simp[litLen];omega⟩
  ·have q3:decide ((k:Int)<(n:Int))=false:=qF (by omega)
   have hv:numL (a.take k)=V:=by rw[show k=a.length by rw[HN.out];omega,List.take_length,HV.out]
   rw[hv]
   by_cases hg:(2147483648:Int)<(V:Int)
   ·have q5:decide ((2147483648:Int)<(V:Int))=true:=qT hg
    go_wp2_with fail
    go_ret2
    have e1:=ZE.out;have e2:=OE.out
    rw[if_neg (by omega)] at e1;rw[qF (by omega)] at e2
    exact⟨by rw[e1,e2];rfl,HB.out⟩
   ·have q5:decide ((2147483648:Int)<(V:Int))=false:=qF hg
    obtain⟨H,hH⟩:∃H:Nat,H=2 ^ 32*V:=⟨_,rfl⟩
    obtain⟨S,hS⟩:∃S:Nat,S=V*4294967296+P:=⟨_,rfl⟩
    have w1:IntKind.u64.wrap ((V:Int)*4294967296)=(H:Int):=by rw[IntKind.wrap_u64];omega
    have o1:bits .or .u64 (H:Int) (P:Int)=(S:Int):=by rw[hH,or_low 32 V P (by omega) (by omega) (by omega)];omega
    have e1:=ZE.out;have e2:=OE.out
    rw[if_pos (by omega),←hS] at e1
    rw[←hS] at e2
    have E1:=Hd e1
    clear e1 hH ZE
    by_cases hq:(S:Int)≤9223372036854775808
    ·have q6:decide ((S:Int)≤9223372036854775808)=true:=qT hq
     rw[qT (by omega)] at e2
     have E2:=Hd e2
     clear e2 OE hS
     go_wp2_with (go_at_call 122;refine(D.out _).mono ?_;rintro e w2 ⟨rfl,hb2⟩)
     go_ret2
     exact⟨by rw[E1.out,E2.out];rfl,HB.out.trans (hb2.mono HB.out.size)⟩
    ·have q6:decide ((S:Int)≤9223372036854775808)=false:=qF hq
     rw[qF (by omega)] at e2
     have E2:=Hd e2
     clear e2 OE hS
     go_wp2_with (go_at_call 122;refine(D.out _).mono ?_;rintro e w2 ⟨rfl,hb2⟩)
     go_ret2
     exact⟨by rw[E1.out,E2.out];rfl,HB.out.trans (hb2.mono HB.out.size)⟩
theorem read_dec (l:List UInt8) (w:World) (hl:(l.length:Int)≤9223372036854775807) :
  Calls prog 117 #[.string (str l)] w fun e w'=>e=.returned (.tuple #[.int .u64 ((readL l).1:Int),.bool (readL l).2])∧Below w.heap.size w w':=by
 have C:=cut_dec l w hl
 by_cases h:litL l=true
 ·obtain⟨h1,h2,h3,h4,h5⟩:=litL_parts h
  refine(read_some l (ahead l) (behind l) _ rfl (by omega) h3 _ (bitsL (behind l)) rfl w (Hd (C.mono fun e w' ⟨he,hb⟩=>⟨by rw[he,h];rfl,hb⟩)) (Hd fun w=>bits_behind (behind l) (by omega) h5 w) (by have:=bitsL_lt _ h5;omega)).mono fun e w' ⟨he,hb⟩=>⟨?_,hb⟩
  rw[he]
  unfold readL sizeL
  by_cases hv:numL (ahead l)≤2147483648
  ·rw[if_pos hv,if_pos ⟨h,hv⟩];simp[hv]
  ·rw[if_neg hv,if_neg (fun hh=>hv hh.2)];simp[hv]
 ·have h':litL l=false:=by simpa using h
  refine(read_none l _ _ w (Hd (C.mono fun e w' ⟨he,hb⟩=>⟨by rw[he,h'],hb⟩))).mono fun e w' ⟨he,hb⟩=>⟨?_,hb⟩
  rw[he]
  unfold readL
  rw[if_neg (fun hh=>h hh.1)]
  rfl
def parseL (l:List UInt8):Nat×Bool:=if(readL l).2=true∧(readL l).1≤9223372036854775807 then((readL l).1,true) else(0,false)
theorem parse_core (S:ByteArray) (z:Nat) (o:Bool) (Z:Nat) (O:Bool) (hz:(z:Int)≤18446744073709551615) (hr:(Z,O)=if o=true∧z≤9223372036854775807 then(z,true) else(0,false)) (w:World)
  (C:Hid (Calls prog 117 #[.string S] w fun e w'=>e=.returned (.tuple #[.int .u64 (z:Int),.bool o])∧Below w.heap.size w w')) :
  Calls prog 112 #[.string S] w fun e w'=>e=.returned (.tuple #[.int .i64 (Z:Int),.bool O])∧Below w.heap.size w w':=by
 cases o with
 | false =>
  simp only[Bool.false_eq_true,false_and,if_false,Prod.mk.injEq] at hr
  obtain⟨rfl,rfl⟩:=hr
  go_enter Tryz.func112,Tryz.ntmps112
  go_wp2_with (go_at_call 117;refine C.out.mono ?_;rintro e w' ⟨rfl,hb⟩)
  go_ret2
  exact⟨rfl,hb⟩
 | true =>
  by_cases h:(9223372036854775807:Int)<(z:Int)
  ·have q1:decide ((9223372036854775807:Int)<(z:Int))=true:=qT h
   rw[if_neg (by omega)] at hr
   simp only[Prod.mk.injEq] at hr
   obtain⟨rfl,rfl⟩:=hr
   go_enter Tryz.func112,Tryz.ntmps112
   go_wp2_with (go_at_call 117;refine C.out.mono ?_;rintro e w' ⟨rfl,hb⟩)
   go_ret2
   exact⟨rfl,hb⟩
  ·have q1:decide ((9223372036854775807:Int)<(z:Int))=false:=qF h
   have q2:(z:Int)≤9223372036854775807:=by omega
   rw[if_pos ⟨rfl,by omega⟩] at hr
   simp only[Prod.mk.injEq] at hr
   obtain⟨rfl,rfl⟩:=hr
   go_enter Tryz.func112,Tryz.ntmps112
   go_wp2_with (go_at_call 117;refine C.out.mono ?_;rintro e w' ⟨rfl,hb⟩)
   go_ret2
   exact⟨rfl,hb⟩
theorem readL_le (l:List UInt8):(readL l).1<18446744073709551616:=by
 unfold readL
 split
 ·rename_i h
  have:=bitsL_lt _ (litL_parts h.1).2.2.2.2
  show sizeL l<_
  unfold sizeL
  omega
 ·show 0<_
  omega
theorem parse_dec (l:List UInt8) (w:World) (hl:(l.length:Int)≤9223372036854775807) :
  Calls prog 112 #[.string (str l)] w fun e w'=>e=.returned (.tuple #[.int .i64 ((parseL l).1:Int),.bool (parseL l).2])∧Below w.heap.size w w' :=
 parse_core (str l) _ _ _ _ (by have:=readL_le l;omega) rfl w (Hd (read_dec l w hl))
end Go.Proofs.YtpfmlfcaadnnpaaGreatDoor.Lx
namespace Go.Proofs.YtpfmlfcaadnnpaaGreatDoor.Lx
def nameN (l:List UInt8):Nat:=(l.takeWhile isName).length
def digN (l:List UInt8):Nat:=(l.takeWhile isDig).length
def numN (l:List UInt8):Nat:=if(l.drop (digN l)).head?=some 46∧0<digN (l.drop (digN l+1)) then digN l+1+digN (l.drop (digN l+1)) else digN l
def signOf (l:List UInt8):Option (List UInt8):=signsL.find? (·.isPrefixOf l)
def oneL (l:List UInt8):Option (Nat×Nat×Int) :=
 match l with
 | []=>none
 | c :: _ =>
  if isLetter c=true then(if nameN l≤16 then some (if wordL (l.take (nameN l))=true then 3 else 1,nameN l,0) else none)
  else if isDig c=true then(if(parseL (l.take (numN l))).2=true then some (2,numN l,((parseL (l.take (numN l))).1:Int)) else none)
  else(signOf l).map fun s=>(4,s.length,0)
structure Tok where
 kind:Nat
 text:List UInt8
 v:Int
 at_:Nat
def tokV (t:Tok):Value:=.agg #[.int .i64 (t.kind:Int),.string (str t.text),.int .i64 t.v,.int .i64 (t.at_:Int)]
def tokOf (o:Option (Nat×Nat×Int)) (l:List UInt8) (a:Nat):Tok:=match o with
 | none=>⟨0,[],0,a⟩
 | some (k,n,v)=>⟨k,l.take n,v,a⟩
def tokAt (l:List UInt8) (a:Nat):Tok:=tokOf (oneL (l.drop a)) (l.drop a) a
theorem runTo_name (l:List UInt8) (a:Nat):runTo isName l a=a+nameN (l.drop a):=rfl
theorem runTo_dig (l:List UInt8) (a:Nat):runTo isDig l a=a+digN (l.drop a):=rfl
theorem nameN_le (l:List UInt8):nameN l≤l.length:=(List.takeWhile_prefix _).length_le
theorem digN_le (l:List UInt8):digN l≤l.length:=(List.takeWhile_prefix _).length_le
theorem numN_le (l:List UInt8):numN l≤l.length:=by
 unfold numN
 split
 ·rename_i h
  have:=digN_le (l.drop (digN l+1))
  rw[List.length_drop] at this
  have h2:=h.2
  omega
 ·exact digN_le l
theorem letter_name {c:UInt8} (h:isLetter c=true):isName c=true:=by unfold isName;rw[h];rfl
theorem nameN_pos {c:UInt8} {l:List UInt8} (h:isLetter c=true):0<nameN (c :: l):=by
 unfold nameN
 rw[List.takeWhile_cons,if_pos (letter_name h),List.length_cons]
 omega
theorem digN_pos {c:UInt8} {l:List UInt8} (h:isDig c=true):0<digN (c :: l):=by
 unfold digN
 rw[List.takeWhile_cons,if_pos h,List.length_cons]
 omega
theorem numN_pos {c:UInt8} {l:List UInt8} (h:isDig c=true):0<numN (c :: l):=by
 have:=digN_pos (l:=l) h
 unfold numN
 split <;> omega
theorem signOf_mem {l s:List UInt8} (h:signOf l=some s):s ∈ signsL∧s.isPrefixOf l=true:=by
 unfold signOf at h
 exact⟨List.mem_of_find?_eq_some h,by simpa using List.find?_some h⟩
theorem signs_len {s:List UInt8} (h:s ∈ signsL):1≤s.length∧s.length≤2:=by
 have:∀s ∈ signsL,1≤s.length∧s.length≤2:=by decide
 exact this s h
theorem oneL_some {l:List UInt8} {k n:Nat} {v:Int} (h:oneL l=some (k,n,v)):1≤k∧k≤4∧1≤n∧n≤l.length:=by
 cases l with
 | nil=>cases h
 | cons c l =>
  unfold oneL at h
  simp only at h
  split at h
  ·rename_i hc
   split at h
   ·simp only[Option.some.injEq,Prod.mk.injEq] at h
    obtain⟨rfl,rfl,rfl⟩:=h
    have h1:=nameN_pos (l:=l) hc
    have h2:=nameN_le (c :: l)
    split <;> exact⟨by omega,by omega,h1,h2⟩
   ·cases h
  ·split at h
   ·rename_i hd
    split at h
    ·simp only[Option.some.injEq,Prod.mk.injEq] at h
     obtain⟨rfl,rfl,rfl⟩:=h
     exact⟨by omega,by omega,numN_pos hd,numN_le _⟩
    ·cases h
   ·cases hs:signOf (c :: l) with
    | none=>rw[hs] at h;cases h
    | some s =>
     rw[hs] at h
     simp only[Option.map_some,Option.some.injEq,Prod.mk.injEq] at h
     obtain⟨rfl,rfl,rfl⟩:=h
     obtain⟨h1,h2⟩:=signOf_mem hs
     have h3:=signs_len h1
     exact⟨by omega,by omega,h3.1,(List.isPrefixOf_iff_prefix.1 h2).length_le⟩
theorem tokAt_kind (l:List UInt8) (a:Nat):(tokAt l a).kind=0↔oneL (l.drop a)=none:=by
 unfold tokAt
 cases h:oneL (l.drop a) with
 | none=>simp[tokOf]
 | some x =>
  obtain⟨k,n,v⟩:=x
  have:=oneL_some h
  simp only[tokOf,reduceCtorEq,iff_false]
  omega
inductive Toks (l:List UInt8):Nat→List Tok→Option Nat→Prop
 | fin {a:Nat} (h:l.length≤a):Toks l a [] none
 | bad {a:Nat} (h:a<l.length) (h1:oneL (l.drop a)=none):Toks l a [] (some a)
 | tok {a:Nat} {ts:List Tok} {r:Option Nat} (h:a<l.length) (h1:oneL (l.drop a)≠none) (h2:Toks l (gapTo false l (a+(tokAt l a).text.length)) ts r):Toks l a (tokAt l a :: ts) r
theorem tokAt_len {l:List UInt8} {a:Nat} (h:oneL (l.drop a)≠none):1≤(tokAt l a).text.length∧a+(tokAt l a).text.length≤l.length:=by
 unfold tokAt
 cases h1:oneL (l.drop a) with
 | none=>exact absurd h1 h
 | some x =>
  obtain⟨k,n,v⟩:=x
  have h2:=oneL_some h1
  simp only[tokOf,List.length_take]
  rw[List.length_drop] at *
  omega
def lexT (l:List UInt8) (ts:List Tok) (r:Option Nat):Prop:=Toks l (gapTo false l 0) ts r
theorem toks_count {l:List UInt8} {a:Nat} {ts:List Tok} {r:Option Nat} (h:Toks l a ts r):ts.length+a≤max a l.length:=by
 induction h with
 | fin h=>simp;omega
 | bad h=>simp;omega
 | @tok a ts r h h1 h2 ih =>
  have h3:=gapTo_ge false l (a+(tokAt l a).text.length)
  have h4:=tokAt_len h1
  have h5:=gapTo_le false (l:=l) (a:=a+(tokAt l a).text.length) h4.2
  simp only[List.length_cons]
  omega
end Go.Proofs.YtpfmlfcaadnnpaaGreatDoor.Lx
namespace Go.Proofs.YtpfmlfcaadnnpaaGreatDoor.Lx
open Go.RowKit
def Reader (w:World) (b:Nat) (v1 v2 v3 v4 v5:Value):Prop :=
 WordMap w b∧ClassAt w v1 isBlank∧ClassAt w v2 isComment∧ClassAt w v3 isDig∧ClassAt w v4 isLetter∧ClassAt w v5 isName
theorem Reader.mono {w w':World} {b:Nat} {v1 v2 v3 v4 v5:Value} (h:Reader w b v1 v2 v3 v4 v5) (hb:Below w.heap.size w w'):Reader w' b v1 v2 v3 v4 v5 :=
 ⟨h.1.below hb h.1.1,h.2.1.mono hb,h.2.2.1.mono hb,h.2.2.2.1.mono hb,h.2.2.2.2.1.mono hb,h.2.2.2.2.2.mono hb⟩
theorem ReadAt.drew {w:World} {g:Nat} {s m v1 v2 v3 v4 v5:Value} (h:ReadAt w g s m v1 v2 v3 v4 v5):ReadAt w.drew g s m v1 v2 v3 v4 v5:=h
def TokPost (t:Tok) (w:World) (e:Ending) (w':World):Prop:=e=.returned (tokV t)∧Below w.heap.size w w'
theorem slice_str (l:List UInt8) (a b:Nat):(str l).extract a b=str ((l.drop a).take (b-a)):=by
 rw[str_slice]
 congr 1
 rw[List.take_drop]
 by_cases h:a≤b
 ·rw[show a+(b-a)=b by omega]
 ·rw[List.drop_eq_nil_of_le (by rw[List.length_take];omega),List.drop_eq_nil_of_le (by rw[List.length_take];omega)]
def RoomAt (w:World) (g:Nat):Prop :=
 w.cell? ⟨g,0,none⟩=some (.int .i64 0)∧w.cell? ⟨g,1,none⟩=some (.string ⟨#[]⟩)∧w.cell? ⟨g,2,none⟩=some (.int .i64 0)∧w.cell? ⟨g,3,none⟩=some (.int .i64 0) ∧
 w.frozen? ⟨g,0,none⟩=false∧w.frozen? ⟨g,1,none⟩=false∧w.frozen? ⟨g,2,none⟩=false∧w.frozen? ⟨g,3,none⟩=false
theorem RoomAt.below {w w':World} {g B:Nat} (h:RoomAt w g) (hb:Below B w w') (hg:g<B):RoomAt w' g :=
 ⟨(hb.cell (p:=⟨g,0,none⟩) hg).trans h.1,(hb.cell (p:=⟨g,1,none⟩) hg).trans h.2.1,(hb.cell (p:=⟨g,2,none⟩) hg).trans h.2.2.1,(hb.cell (p:=⟨g,3,none⟩) hg).trans h.2.2.2.1,
  (hb.frozen (p:=⟨g,0,none⟩) hg).trans h.2.2.2.2.1,(hb.frozen (p:=⟨g,1,none⟩) hg).trans h.2.2.2.2.2.1,(hb.frozen (p:=⟨g,2,none⟩) hg).trans h.2.2.2.2.2.2.1,(hb.frozen (p:=⟨g,3,none⟩) hg).trans h.2.2.2.2.2.2.2⟩
theorem roomAt_new (w:World) (T:TypeId):RoomAt (w.alloc (.cells #[.int .i64 0,.string ⟨#[]⟩,.int .i64 0,.int .i64 0] T)) w.heap.size :=
 ⟨by rw[World.cell?_alloc_new];rfl,by rw[World.cell?_alloc_new];rfl,by rw[World.cell?_alloc_new];rfl,by rw[World.cell?_alloc_new];rfl,
  World.frozen?_alloc_new _ _ _ _,World.frozen?_alloc_new _ _ _ _,World.frozen?_alloc_new _ _ _ _,World.frozen?_alloc_new _ _ _ _⟩
theorem RoomAt.drew {w:World} {g:Nat} (h:RoomAt w g):RoomAt w.drew g:=h
theorem below_four {B g:Nat} {w w1:World} (h:Below B w w1) (hg:B≤g) (x0 x1 x2 x3:Value):Below B w ((((w1.setCell ⟨g,0,none⟩ x0).setCell ⟨g,1,none⟩ x1).setCell ⟨g,2,none⟩ x2).setCell ⟨g,3,none⟩ x3) :=
 (((h.setCell (p:=⟨g,0,none⟩) hg _).setCell (p:=⟨g,1,none⟩) hg _).setCell (p:=⟨g,2,none⟩) hg _).setCell (p:=⟨g,3,none⟩) hg _
theorem name_core (l:List UInt8) (n:Nat) (hn:Hid (l.length=n)) (nl:(n:Int)≤30000) (hs:(str l).size=n) (b:Nat) (v1 v2 v3 v4 v5:Value) (a:Nat) (ha:a≤n) (w:World) (hr:Hid (Reader w b v1 v2 v3 v4 v5))
  (x:Nat) (hx:Hid (runTo isName l a=x)) (hax:a≤x) (hxn:x≤n) (T:ByteArray) (hT:(str l).extract a x=T) (m:Nat) (hm:T.size=m) (hmE:Hid (m=x-a∧T=str ((l.drop a).take m))) (ml:(m:Int)≤30000) (TN:Hid (16<m→tokAt l a=⟨0,[],0,a⟩)) (TW:Hid (m≤16→tokAt l a=⟨if wordIn T=true then 3 else 1,(l.drop a).take m,0,a⟩)) :
  Calls prog 99 #[.agg #[.string (str l),.map (some b),v1,v2,v3,v4,v5],.int .i64 (a:Int)] w fun e w'=>TokPost (tokAt l a) w e w':=by
 have B1:Hid (∀(w':World),Below w.heap.size w w'→Calls prog 98 #[.agg #[.string (str l),.map (some b),v1,v2,v3,v4,v5],.int .i64 (a:Int),v5] w' fun e w''=>NumPost x w' e w'') :=
  Hd fun w' hb=>by have:=behind_any l (by have:=hn.out;omega) (.map (some b)) v1 v2 v3 v4 v5 v5 isName a (by have:=hn.out;omega) w' (hr.out.2.2.2.2.2.mono hb);rwa [hx.out] at this
 have hTE:=Hd hT
 have x1:(0:Int)≤(a:Int):=by omega
 have x2:(a:Int)≤(x:Int):=by omega
 have x3:(x:Int)≤(n:Int):=by omega
 have hb0:=Hd (((qB w.heap.size w).alloc (qL _) (.cells #[.string (str l),.map (some b),v1,v2,v3,v4,v5] 118)).alloc (by simp) (.cells #[.int .i64 0,.string ⟨#[]⟩,.int .i64 0,.int .i64 0] 43))
 have hR0:=Hd (ReadAt.drew <| (readAt_new w (.string (str l)) (.map (some b)) v1 v2 v3 v4 v5 118).below ((qB (w.heap.size+1) _).alloc (by simp) (.cells #[.int .i64 0,.string ⟨#[]⟩,.int .i64 0,.int .i64 0] 43)) (Nat.lt_succ_self _))
 have hM0:=Hd (RoomAt.drew (by have:=roomAt_new (w.alloc (.cells #[.string (str l),.map (some b),v1,v2,v3,v4,v5] 118)) 43;rwa [World.size_alloc] at this))
 go_enter Tryz.func99,Tryz.ntmps99
 go_wp2_with fail
 go_region_held3 (fun w'=>w'.cell? ⟨w.heap.size,0,none⟩=some (.string (str l))∧w'.cell? ⟨w.heap.size,1,none⟩=some (.map (some b))∧w'.cell? ⟨w.heap.size,2,none⟩=some v1∧w'.cell? ⟨w.heap.size,3,none⟩=some v2∧w'.cell? ⟨w.heap.size,4,none⟩=some v3∧w'.cell? ⟨w.heap.size,5,none⟩=some v4∧w'.cell? ⟨w.heap.size,6,none⟩=some v5)
  ((repeat' apply And.intro) <;> first | assumption | go_keep)
  (first | (go_at_call 98;(with_reducible refine(B1.out _ (by exact hb0.out.drew)).mono ?_);rintro e w1 ⟨rfl,hb1⟩;obtain⟨dS,d1,d2,d3,d4,d5,d6⟩:=hR0.out.below hb1 (by simp;omega);obtain⟨r0,r1,r2,r3,f0,f1,f2,f3⟩:=hM0.out.below hb1 (by simp);have HB1:=Hd hb1;clear hb1))
 by_cases h16:(16:Int)<(m:Int)
 ·have q1:decide ((16:Int)<(m:Int))=true:=qT h16
  go_wp2_with fail
  rw[TN.out (by omega)]
  exact bodyPost_ret (v:=tokV ⟨0,[],0,a⟩) (by simp[results,Tryz.results99,go_sem,r0,r1,r2,r3,tokV,str_nil]) rfl ⟨rfl,below_four (hb0.out.drew.trans (HB1.out.mono (by simp;omega))) (Nat.le_succ _) _ _ _ _⟩
 ·have q1:decide ((16:Int)<(m:Int))=false:=qF h16
  have hbw:=Hd (hb0.out.drew.trans (HB1.out.mono (by simp;omega)))
  obtain⟨hlt,nD,D,hD,hh⟩:=hr.out.1.below hbw.out hr.out.1.1
  have HD:=Hd hD
  have HH:=Hd (show Maps.has D (.string T.data.toList)=wordIn T from hh T.data.toList)
  have hkey:=Hd (key_str T (by unfold maxLen;omega))
  clear hh hD hlt
  have hsz:Hid (w.heap.size+1<w1.heap.size):=Hd (by have:=HB1.out.size;simp at this;omega)
  have hTW:=Hd (TW.out (by omega))
  have hba:=Hd (hbw.out.alloc hbw.out.size (.cells #[] 137))
  obtain⟨s0,s1,s2,s3,g0,g1,g2,g3⟩:=(show RoomAt w1 (w.heap.size+1) from⟨r0,r1,r2,r3,f0,f1,f2,f3⟩).below ((qB w1.heap.size w1).alloc (qL _) (.cells #[] 137)) hsz.out
  cases hW:wordIn T with
  | true =>
   rw[hW] at HH
   have HWt:=Hd (show tokAt l a=⟨3,(l.drop a).take m,0,a⟩ by rw[hTW.out,hW];rfl)
   clear hW hTW
   go_wp2_with (at_lookup;refine wpList_lookup_own_unit _ rfl _ _ 115 rfl 9 137 str_keyed Tryz.underlying115 (zero_unit _) b nD D rfl HD.out _ _ rfl hkey.out ?_;rw[HH.out])
   rw[HWt.out]
   refine bodyPost_ret (v:=tokV ⟨3,(l.drop a).take m,0,a⟩) (by simp[results,Tryz.results99,go_sem,s0,s1,s2,s3,tokV,hmE.out.2]) rfl ⟨rfl,?_⟩
   exact below_four hba.out (Nat.le_succ _) _ _ _ _
  | false =>
   rw[hW] at HH
   have HWt:=Hd (show tokAt l a=⟨1,(l.drop a).take m,0,a⟩ by rw[hTW.out,hW];rfl)
   clear hW hTW
   go_wp2_with (at_lookup;refine wpList_lookup_own_unit _ rfl _ _ 115 rfl 9 137 str_keyed Tryz.underlying115 (zero_unit _) b nD D rfl HD.out _ _ rfl hkey.out ?_;rw[HH.out])
   rw[HWt.out]
   refine bodyPost_ret (v:=tokV ⟨1,(l.drop a).take m,0,a⟩) (by simp[results,Tryz.results99,go_sem,s0,s1,s2,s3,tokV,hmE.out.2]) rfl ⟨rfl,?_⟩
   exact below_four hba.out (Nat.le_succ _) _ _ _ _
theorem tokAt_name {l:List UInt8} {a:Nat} {c:UInt8} (hc:l[a]?=some c) (h:isLetter c=true) :
  tokAt l a=if nameN (l.drop a)≤16 then⟨if wordL ((l.drop a).take (nameN (l.drop a)))=true then 3 else 1,(l.drop a).take (nameN (l.drop a)),0,a⟩ else⟨0,[],0,a⟩:=by
 unfold tokAt oneL
 rw[drop_cons hc]
 simp only[h,if_true]
 split <;> rfl
theorem name_any (l:List UInt8) (nl:l.length≤30000) (b:Nat) (v1 v2 v3 v4 v5:Value) (a:Nat) (c:UInt8) (hc:l[a]?=some c) (h:isLetter c=true) (w:World) (hr:Reader w b v1 v2 v3 v4 v5) :
  Calls prog 99 #[.agg #[.string (str l),.map (some b),v1,v2,v3,v4,v5],.int .i64 (a:Int)] w fun e w'=>TokPost (tokAt l a) w e w':=by
 have ha:a<l.length:=(List.getElem?_eq_some_iff.1 hc).1
 have ht:=tokAt_name hc h
 have hl:((l.drop a).take (nameN (l.drop a))).length=nameN (l.drop a):=by rw[List.length_take];have:=nameN_le (l.drop a);omega
 have hle:=runTo_le isName (ql ha)
 have e:(str l).extract a (runTo isName l a)=str ((l.drop a).take (nameN (l.drop a))):=by
  rw[slice_str,runTo_name];congr 2;omega
 refine name_core l _ (Hd rfl) (by omega) (str_size l) b v1 v2 v3 v4 v5 a (by omega) w (Hd hr) _ (Hd rfl) (runTo_ge _ _ _) hle _ e (nameN (l.drop a)) (by rw[str_size,hl]) (Hd ⟨by rw[runTo_name];omega,rfl⟩) (by have:=nameN_le (l.drop a);rw[List.length_drop] at this;omega) (Hd fun hh=>?_) (Hd fun hh=>?_)
 ·rw[ht,if_neg (by omega)]
 ·rw[ht,if_pos hh];unfold wordIn;rw[str_data]
end Go.Proofs.YtpfmlfcaadnnpaaGreatDoor.Lx
