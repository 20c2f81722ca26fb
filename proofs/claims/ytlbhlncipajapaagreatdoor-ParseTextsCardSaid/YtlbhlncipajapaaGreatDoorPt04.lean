import Derived.Test.YtlbhlncipajapaaGreatDoorPt03
import Derived.Lib.LastIndexByte
set_option maxHeartbeats 16000000
set_option maxRecDepth 100000
open Go.Proofs.Tryz(prog)
namespace Go.Proofs.YtlbhlncipajapaaGreatDoor.Lx
open Go.RowKit
theorem letter_core (x:Nat) (hx:(x:Int)≤255) (R:Bool) (hR:Hid (R=((decide (97≤x)&&decide (x≤122))||((decide (65≤x)&&decide (x≤90))||decide (x=95))))) (w:World) :
  Calls prog 53 #[.int .u8 (x:Int)] w fun e w'=>e=.returned (.bool R)∧w'=w:=by
 by_cases h65:65≤x
 ·have q65:decide ((65:Int)≤(x:Int))=true:=qT (by omega)
  by_cases h90:x≤90
  ·have q90:decide ((x:Int)≤90)=true:=qT (by omega)
   obtain rfl:R=true:=by rw[hR.out,qT h65,qT h90];simp
   clear hR
   go_enter Tryz.func53,Tryz.ntmps53
   go_wp2_with fail
   go_ret
   exact⟨rfl,rfl⟩
  ·have q90:decide ((x:Int)≤90)=false:=qF (by omega)
   by_cases h97:97≤x
   ·have q97:decide ((97:Int)≤(x:Int))=true:=qT (by omega)
    by_cases h122:x≤122
    ·have q122:decide ((x:Int)≤122)=true:=qT (by omega)
     obtain rfl:R=true:=by rw[hR.out,qT h97,qT h122];simp
     clear hR
     go_enter Tryz.func53,Tryz.ntmps53
     go_wp2_with fail
     go_ret
     exact⟨rfl,rfl⟩
    ·have q122:decide ((x:Int)≤122)=false:=qF (by omega)
     have n95:¬(x:Int)=95:=by omega
     have m95:((x:Int) ==95)=false:=beq_false_of_ne n95
     obtain rfl:R=false:=by rw[hR.out,qF h122,qF h90,qF (show ¬x=95 by omega)];simp
     clear hR
     go_enter Tryz.func53,Tryz.ntmps53
     go_wp2_with fail
     go_ret
     exact⟨rfl,rfl⟩
   ·have q97:decide ((97:Int)≤(x:Int))=false:=qF (by omega)
    by_cases h95:x=95
    ·subst h95
     obtain rfl:R=true:=by rw[hR.out];rfl
     clear hR
     go_enter Tryz.func53,Tryz.ntmps53
     go_wp2_with fail
     go_ret
     exact⟨rfl,rfl⟩
    ·have n95:¬(x:Int)=95:=by omega
     have m95:((x:Int) ==95)=false:=beq_false_of_ne n95
     obtain rfl:R=false:=by rw[hR.out,qF h97,qF h90,qF h95];simp
     clear hR
     go_enter Tryz.func53,Tryz.ntmps53
     go_wp2_with fail
     go_ret
     exact⟨rfl,rfl⟩
 ·have q65:decide ((65:Int)≤(x:Int))=false:=qF (by omega)
  have q97:decide ((97:Int)≤(x:Int))=false:=qF (by omega)
  have n95:¬(x:Int)=95:=by omega
  have m95:((x:Int) ==95)=false:=beq_false_of_ne n95
  obtain rfl:R=false:=by rw[hR.out,qF h65,qF (show ¬97≤x by omega),qF (show ¬x=95 by omega)];simp
  clear hR
  go_enter Tryz.func53,Tryz.ntmps53
  go_wp2_with fail
  go_ret
  exact⟨rfl,rfl⟩
theorem u8_95 (c:UInt8):(c ==95)=decide (c.toNat=95):=by
 rw[Bool.eq_iff_iff]
 simp only[beq_iff_eq,decide_eq_true_eq]
 exact⟨fun h=>by rw[h];rfl,fun h=>UInt8.toNat_inj.1 (by rw[h];rfl)⟩
theorem letter_ref (c:UInt8) (w:World):Calls prog 53 #[.int .u8 (c.toNat:Int)] w fun e w'=>e=.returned (.bool (isLetter c))∧w'=w :=
 letter_core c.toNat (by have:=c.toNat_lt;omega) _ (Hd (by unfold isLetter;rw[u8_95])) w
theorem digit_core (x:Nat) (R:Bool) (hR:Hid (R=(decide (48≤x)&&decide (x≤57)))) (w:World) :
  Calls prog 54 #[.int .u8 (x:Int)] w fun e w'=>e=.returned (.bool R)∧w'=w:=by
 by_cases h48:48≤x
 ·have q48:decide ((48:Int)≤(x:Int))=true:=qT (by omega)
  by_cases h57:x≤57
  ·have q57:decide ((x:Int)≤57)=true:=qT (by omega)
   obtain rfl:R=true:=by rw[hR.out,qT h48,qT h57];rfl
   clear hR
   go_enter Tryz.func54,Tryz.ntmps54
   go_wp2_with fail
   go_ret
   exact⟨rfl,rfl⟩
  ·have q57:decide ((x:Int)≤57)=false:=qF (by omega)
   obtain rfl:R=false:=by rw[hR.out,qF h57];simp
   clear hR
   go_enter Tryz.func54,Tryz.ntmps54
   go_wp2_with fail
   go_ret
   exact⟨rfl,rfl⟩
 ·have q48:decide ((48:Int)≤(x:Int))=false:=qF (by omega)
  obtain rfl:R=false:=by rw[hR.out,qF h48];rfl
  clear hR
  go_enter Tryz.func54,Tryz.ntmps54
  go_wp2_with fail
  go_ret
  exact⟨rfl,rfl⟩
theorem digit_ref (c:UInt8) (w:World):Calls prog 54 #[.int .u8 (c.toNat:Int)] w fun e w'=>e=.returned (.bool (isDig c))∧w'=w :=
 digit_core c.toNat _ (Hd rfl) w
theorem byte_ne {c k:UInt8} (h:c≠k) (K:Int) (hK:(k.toNat:Int)=K):(c ==k)=false∧(c !=k)=true∧¬(c.toNat:Int)=K∧((c.toNat:Int) ==K)=false∧((c.toNat:Int) !=K)=true:=by
 have h2:¬(c.toNat:Int)=K:=fun e=>h (UInt8.toNat_inj.1 (by omega))
 exact⟨beq_false_of_ne h,bne_iff_ne.2 h,h2,beq_false_of_ne h2,bne_iff_ne.2 h2⟩
theorem skip_core (l:List UInt8) (n:Nat) (hn:Hid (l.length=n)) (nl:(n:Int)≤30000) (hs:(str l).size=n) (a:Nat) (ha:a≤n) (R:Nat) (hR:Hid (gapTo false l a=R)) (w:World) :
  Calls prog 27 #[.string (str l),.int .i64 (a:Int)] w fun e w'=>e=.returned (.int .i64 (R:Int))∧w'=w:=by
 go_enter Tryz.func27,Tryz.ntmps27
 go_wp2_with fail
 go_loop [1,5] (fun i b=>∃(j:Nat) (cm:Bool),j≤n∧Hid (gapTo cm l j=R)∧i=.int .i64 j∧b=.bool cm) (fun i _=>n-litLen i)
 case atStart=>exact⟨a,false,ha,hR,rfl,rfl⟩
 case round =>
  obtain⟨j,cm,hj,hr,rfl,rfl⟩:=hrel
  rcases Nat.lt_or_ge j n with hlt | hge
  ·have q3:decide ((j:Int)<(n:Int))=true:=qT (by omega)
   obtain⟨c,hcj⟩:=isBehind hn.out hlt
   have hix:∀h,(str l)[j]'h=c:=fun h=>str_at l hcj h
   have HC:=Hd hcj
   clear hcj
   cases cm with
   | true =>
    by_cases h10:c=10
    ·subst h10
     go_wp2_with fail
     exact⟨⟨j+1,false,by omega,Hd (by rw[←gapTo_line HC.out];exact hr.out),rfl,rfl⟩,by simp[litLen];omega⟩
    ·obtain⟨b1,b2,b3,b4,b5⟩:=byte_ne h10 10 rfl
     have HT:=Hd h10
     clear h10
     go_wp2_with fail
     exact⟨⟨j+1,true,by omega,Hd (by rw[←gapTo_comment HC.out HT.out];exact hr.out),rfl,rfl⟩,by simp[litLen];omega⟩
   | false =>
    by_cases h35:c=35
    ·subst h35
     go_wp2_with fail
     exact⟨⟨j+1,true,by omega,Hd (by rw[←gapTo_hash HC.out];exact hr.out),rfl,rfl⟩,by simp[litLen];omega⟩
    ·obtain⟨b1,b2,b3,b4,b5⟩:=byte_ne h35 35 rfl
     have H35:=Hd h35
     clear h35
     by_cases h32:c=32
     ·subst h32
      go_wp2_with fail
      exact⟨⟨j+1,false,by omega,Hd (by rw[←gapTo_blank HC.out (by decide)];exact hr.out),rfl,rfl⟩,by simp[litLen];omega⟩
     ·obtain⟨c1,c2,c3,c4,c5⟩:=byte_ne h32 32 rfl
      have H32:=Hd h32
      clear h32
      by_cases h9:c=9
      ·subst h9
       go_wp2_with fail
       exact⟨⟨j+1,false,by omega,Hd (by rw[←gapTo_blank HC.out (by decide)];exact hr.out),rfl,rfl⟩,by simp[litLen];omega⟩
      ·obtain⟨d1,d2,d3,d4,d5⟩:=byte_ne h9 9 rfl
       have H9:=Hd h9
       clear h9
       by_cases h10:c=10
       ·subst h10
        go_wp2_with fail
        exact⟨⟨j+1,false,by omega,Hd (by rw[←gapTo_blank HC.out (by decide)];exact hr.out),rfl,rfl⟩,by simp[litLen];omega⟩
       ·obtain⟨e1,e2,e3,e4,e5⟩:=byte_ne h10 10 rfl
        have H10:=Hd h10
        clear h10
        by_cases h13:c=13
        ·subst h13
         go_wp2_with fail
         exact⟨⟨j+1,false,by omega,Hd (by rw[←gapTo_blank HC.out (by decide)];exact hr.out),rfl,rfl⟩,by simp[litLen];omega⟩
        ·obtain⟨f1,f2,f3,f4,f5⟩:=byte_ne h13 13 rfl
         have hst:=Hd (gapTo_stop HC.out H35.out (by unfold isBlank;rw[c1,d1,e1,f1];rfl))
         clear h13
         go_wp2_with fail
         go_ret
         exact⟨by rw[←hr.out,hst.out];rfl,rfl⟩
  ·have q3:decide ((j:Int)<(n:Int))=false:=qF (by omega)
   have hst:=Hd (gapTo_end cm (l:=l) (a:=j) (by rw[hn.out];exact hge))
   go_wp2_with fail
   go_ret
   exact⟨by rw[←hr.out,hst.out];rfl,rfl⟩
theorem skip_ref (l:List UInt8) (nl:l.length≤30000) (a:Nat) (ha:a≤l.length) (w:World) :
  Calls prog 27 #[.string (str l),.int .i64 (a:Int)] w fun e w'=>e=.returned (.int .i64 ((gapTo false l a:Nat):Int))∧w'=w :=
 skip_core l _ (Hd rfl) (by omega) (str_size l) a ha _ (Hd rfl) w
def wordCells:Array Value:=(wordsL.map fun s=>Value.string (str s)).toArray
theorem bytes_eq (a b:List UInt8):((str a).toList ==(str b).toList)=(a ==b):=by rw[str_toList,str_toList]
theorem word_ref (l:List UInt8) (R:Bool) (hR:Hid (R=wordL l)) (w:World):Calls prog 55 #[.string (str l)] w fun e w'=>e=.returned (.bool R)∧Below w.heap.size w w':=by
 have hcell:Hid (∀(j:Nat) s,wordsL[j]?=some s→(w.alloc (.cells wordCells 9)).cell? ⟨w.heap.size,j,none⟩=some (.string (str s))):=Hd fun j s hs=>by
  rw[World.cell?_alloc_new]
  unfold wordCells
  rw[List.getElem?_toArray,List.getElem?_map,hs]
  rfl
 have hb:=Hd ((qB w.heap.size w).alloc (qL _) (.cells wordCells 9))
 go_enter Tryz.func55,Tryz.ntmps55
 go_wp2_with fail
 obtain⟨W1,hW1⟩:∃W1,W1=w.alloc (.cells wordCells 9):=⟨_,rfl⟩
 rw[←hW1] at hcell hb
 change Code.wp _ _ _ _ (w.alloc (.cells wordCells 9))
 rw[←hW1]
 have HW:=Hd hW1
 clear hW1
 go_loop [4] (fun i=>∃j:Nat,j≤30∧Hid ((wordsL.take j).contains l=false)∧i=.int .i64 j) (fun i=>30-litLen i)
 case atStart=>exact⟨0,by omega,Hd rfl,rfl⟩
 case round =>
  obtain⟨j,hj,hno,rfl⟩:=hrel
  rcases Nat.lt_or_ge j 30 with hlt | hge
  ·have q3:decide ((j:Int)<30)=true:=qT (by omega)
   obtain⟨s,hsj⟩:∃s,wordsL[j]?=some s:=⟨wordsL[j]'(by show j<30;exact hlt),List.getElem?_eq_getElem _⟩
   have hc:=hcell.out j s hsj
   have HJ:=Hd hsj
   have HM:=Hd (List.mem_of_getElem? hsj)
   have HT:=Hd (show wordsL.take (j+1)=wordsL.take j++[s] by
    obtain⟨h1,rfl⟩:=List.getElem?_eq_some_iff.1 hsj
    exact List.take_succ_eq_append_getElem h1)
   clear hsj
   by_cases he:s=l
   ·have hq:((str s).toList ==(str l).toList)=true:=by rw[bytes_eq];simpa using he
    obtain rfl:R=true:=by rw[hR.out];unfold wordL;rw[List.contains_iff_mem,←he];exact HM.out
    clear hR he
    go_wp2_with fail
    go_ret
    exact⟨rfl,hb.out⟩
   ·have hq:((str s).toList ==(str l).toList)=false:=by rw[bytes_eq];exact beq_false_of_ne he
    have HE:=Hd he
    clear he
    go_wp2_with fail
    exact⟨⟨j+1,by omega,Hd (by
     have h1:=hno.out
     rw[HT.out]
     rw[Bool.eq_false_iff] at h1 ⊢
     intro h2
     rw[List.contains_iff_mem,List.mem_append] at h2
     rcases h2 with h2 | h2
     ·exact h1 (by rw[List.contains_iff_mem];exact h2)
     ·rw[List.mem_singleton] at h2;exact HE.out h2.symm),rfl⟩,by simp[litLen];omega⟩
  ·have q3:decide ((j:Int)<30)=false:=qF (by omega)
   obtain rfl:R=false:=by rw[hR.out];unfold wordL;have:=hno.out;rwa [List.take_of_length_le (by show 30≤j;exact hge)] at this
   clear hR
   go_wp2_with fail
   go_ret
   exact⟨rfl,hb.out⟩
def Tok4 (w:World) (g:Nat) (k v a:Int) (S:ByteArray):Prop :=
 w.cell? ⟨g,0,none⟩=some (.int .i64 k)∧w.cell? ⟨g,1,none⟩=some (.string S)∧w.cell? ⟨g,2,none⟩=some (.int .i64 v)∧w.cell? ⟨g,3,none⟩=some (.int .i64 a) ∧
 w.frozen? ⟨g,0,none⟩=false∧w.frozen? ⟨g,1,none⟩=false∧w.frozen? ⟨g,2,none⟩=false∧w.frozen? ⟨g,3,none⟩=false
theorem Tok4.below {w w':World} {g B:Nat} {k v a:Int} {S:ByteArray} (h:Tok4 w g k v a S) (hb:Below B w w') (hg:g<B):Tok4 w' g k v a S :=
 ⟨(hb.cell (p:=⟨g,0,none⟩) hg).trans h.1,(hb.cell (p:=⟨g,1,none⟩) hg).trans h.2.1,(hb.cell (p:=⟨g,2,none⟩) hg).trans h.2.2.1,(hb.cell (p:=⟨g,3,none⟩) hg).trans h.2.2.2.1,
  (hb.frozen (p:=⟨g,0,none⟩) hg).trans h.2.2.2.2.1,(hb.frozen (p:=⟨g,1,none⟩) hg).trans h.2.2.2.2.2.1,(hb.frozen (p:=⟨g,2,none⟩) hg).trans h.2.2.2.2.2.2.1,(hb.frozen (p:=⟨g,3,none⟩) hg).trans h.2.2.2.2.2.2.2⟩
theorem tok4_new (w:World) (k v a:Int) (S:ByteArray) (T:TypeId):Tok4 (w.alloc (.cells #[.int .i64 k,.string S,.int .i64 v,.int .i64 a] T)) w.heap.size k v a S :=
 ⟨by rw[World.cell?_alloc_new];rfl,by rw[World.cell?_alloc_new];rfl,by rw[World.cell?_alloc_new];rfl,by rw[World.cell?_alloc_new];rfl,
  World.frozen?_alloc_new _ _ _ _,World.frozen?_alloc_new _ _ _ _,World.frozen?_alloc_new _ _ _ _,World.frozen?_alloc_new _ _ _ _⟩
def OneRet (k v a:Int) (S:ByteArray) (ok:Bool) (w:World) (e:Ending) (w':World):Prop:=e=.returned (.tuple #[.agg #[.int .i64 k,.string S,.int .i64 v,.int .i64 a],.bool ok])∧Below w.heap.size w w'
theorem run_next {p:UInt8→Bool} {l:List UInt8} {j x:Nat} {c:UInt8} (h:l[j]?=some c) (hr:runTo p l j=x) (hp:p c=true):runTo p l (j+1)=x:=by rw[←runTo_step h hp];exact hr
theorem one_name (l:List UInt8) (n:Nat) (hn:Hid (l.length=n)) (nl:(n:Int)≤30000) (hs:(str l).size=n) (a:Nat) (han:(a:Int)<(n:Int)) (c:UInt8) (hix:∀h,(str l)[a]'h=c) (hcl:Hid (isLetter c=true)) (x:Nat) (hx:Hid (runTo isName l a=x)) (hax:(a:Int)≤(x:Int)) (hxn:(x:Int)≤(n:Int))
  (T:ByteArray) (hT:(str l).extract a x=T) (t:List UInt8) (hTt:Hid (T=str t)) (m:Nat) (hm:(x:Int)-(a:Int)=(m:Int)) (K:Int) (Wb:Bool) (hWb:Hid (Wb=wordL t)) (hK:Hid (K=if Wb=true then 3 else 1)) (B:Bool) (hB:Hid (B=decide ((m:Int)≤16))) (w:World) :
  Calls prog 28 #[.string (str l),.int .i64 (a:Int)] w fun e w'=>OneRet K 0 a T B w e w':=by
 have LT:Hid (∀(c:UInt8) w,Calls prog 53 #[.int .u8 (c.toNat:Int)] w fun e w'=>e=.returned (.bool (isLetter c))∧w'=w):=Hd letter_ref
 have DT:Hid (∀(c:UInt8) w,Calls prog 54 #[.int .u8 (c.toNat:Int)] w fun e w'=>e=.returned (.bool (isDig c))∧w'=w):=Hd digit_ref
 have L0:Hid (∀w,Calls prog 53 #[.int .u8 (c.toNat:Int)] w fun e w'=>e=.returned (.bool true)∧w'=w):=Hd fun w=>by have:=letter_ref c w;rwa [hcl.out] at this
 have CW:Hid (∀w,Calls prog 55 #[.string T] w fun e w'=>e=.returned (.bool Wb)∧Below w.heap.size w w'):=Hd fun w=>by rw[hTt.out];exact word_ref t Wb hWb w
 have hb0:=Hd ((qB w.heap.size w).alloc (qL _) (.cells #[.int .i64 0,.string ⟨#[]⟩,.int .i64 0,.int .i64 0] 43))
 have hrm:=Hd (roomAt_new w 43)
 have hbx:=Hd (by have:=tok4_new (w.alloc (.cells #[.int .i64 0,.string ⟨#[]⟩,.int .i64 0,.int .i64 0] 43)) 1 0 a T 43;rwa [World.size_alloc] at this)
 have a0:(0:Int)≤(a:Int):=by omega
 have HE:Hid (∀j:Nat,runTo isName l j=x→(n≤j∨∃c,l[j]?=some c∧isName c=false)→j=x):=Hd fun j h1 h2=>by
  rcases h2 with h2 | ⟨c,h2,h3⟩
  ·rw[runTo_end (by rw[hn.out];exact h2)] at h1;exact h1
  ·rw[runTo_stop h2 h3] at h1;exact h1
 go_enter Tryz.func28,Tryz.ntmps28
 go_wp2_with (go_at_call 53;((with_reducible refine(L0.out _).mono ?_);rintro e w' ⟨rfl,rfl⟩))
 go_loop [7] (fun i=>∃j:Nat,a≤j∧j≤n∧Hid (runTo isName l j=x)∧i=.int .i64 j) (fun i=>n-litLen i)
 case atStart=>exact⟨a,qL _,by omega,hx,rfl⟩
 case round =>
  obtain⟨j,haj,hj,hr,rfl⟩:=hrel
  rcases Nat.lt_or_ge j n with hlt | hge
  ·have q3:decide ((j:Int)<(n:Int))=true:=qT (by omega)
   have jn:(j:Int)<(n:Int):=by omega
   obtain⟨d,hdj⟩:=isBehind hn.out hlt
   have hix2:∀h,(str l)[j]'h=d:=fun h=>str_at l hdj h
   have HD:=Hd hdj
   clear hdj
   obtain⟨b1,hb1⟩:∃b,b=isLetter d:=⟨_,rfl⟩
   obtain⟨b2,hb2⟩:∃b,b=isDig d:=⟨_,rfl⟩
   have LD:=Hd (LT.out d)
   have DD:=Hd (DT.out d)
   rw[←hb1] at LD
   rw[←hb2] at DD
   have H1:=Hd hb1
   have H2:=Hd hb2
   clear hb1 hb2
   cases b1 with
   | true =>
    go_wp2_with (go_at_call 53;((with_reducible refine(LD.out _).mono ?_);rintro e w' ⟨rfl,rfl⟩))
    exact⟨⟨j+1,by omega,by omega,Hd (run_next HD.out hr.out (by unfold isName;rw[←H1.out];rfl)),rfl⟩,by simp[litLen];omega⟩
   | false =>
    cases b2 with
    | true =>
     go_wp2_with (first | (go_at_call 53;((with_reducible refine(LD.out _).mono ?_);rintro e w' ⟨rfl,rfl⟩)) | (go_at_call 54;((with_reducible refine(DD.out _).mono ?_);rintro e w' ⟨rfl,rfl⟩)))
     exact⟨⟨j+1,by omega,by omega,Hd (run_next HD.out hr.out (by unfold isName;rw[←H2.out];simp)),rfl⟩,by simp[litLen];omega⟩
    | false =>
     obtain rfl:j=x:=HE.out j hr.out (.inr ⟨d,HD.out,by unfold isName;rw[←H1.out,←H2.out];rfl⟩)
     have hb0':=Hd ((qB (w.heap.size+1) (w.alloc (.cells #[.int .i64 0,.string ⟨#[]⟩,.int .i64 0,.int .i64 0] 43))).alloc (by simp) (.cells #[.int .i64 1,.string T,.int .i64 0,.int .i64 (a:Int)] 43))
     have hbb:=Hd (hb0.out.alloc hb0.out.size (.cells #[.int .i64 1,.string T,.int .i64 0,.int .i64 (a:Int)] 43))
     rcases Wb with _ | _
     ·obtain rfl:K=1:=by rw[hK.out];rfl
      by_cases h16:(m:Int)≤16
      ·have q16:decide ((m:Int)≤16)=true:=qT h16
       obtain rfl:B=true:=by rw[hB.out,q16]
       go_wp2_with (first | (go_at_call 53;((with_reducible refine(LD.out _).mono ?_);rintro e w' ⟨rfl,rfl⟩)) | (go_at_call 54;((with_reducible refine(DD.out _).mono ?_);rintro e w' ⟨rfl,rfl⟩)) | (go_at_call 55;((with_reducible refine(CW.out _).mono ?_);rintro e w3 ⟨rfl,hb3⟩;obtain⟨x0,x1,x2,x3,y0,y1,y2,y3⟩:=hbx.out.below hb3 (by simp);obtain⟨r0,r1,r2,r3,f0,f1,f2,f3⟩:=hrm.out.below (hb0'.out.trans (hb3.mono (by simp))) (Nat.lt_succ_self _);have HB3:=Hd hb3;clear hb3)))
       exact bodyPost_ret (v:=.tuple #[.agg #[.int .i64 1,.string T,.int .i64 0,.int .i64 (a:Int)],.bool true]) (by simp[results,Tryz.results28,go_sem,r0,r1,r2,r3]) rfl ⟨rfl,below_four (hbb.out.trans (HB3.out.mono hbb.out.size)) (qL _) _ _ _ _⟩
      ·have q16:decide ((m:Int)≤16)=false:=qF h16
       obtain rfl:B=false:=by rw[hB.out,q16]
       go_wp2_with (first | (go_at_call 53;((with_reducible refine(LD.out _).mono ?_);rintro e w' ⟨rfl,rfl⟩)) | (go_at_call 54;((with_reducible refine(DD.out _).mono ?_);rintro e w' ⟨rfl,rfl⟩)) | (go_at_call 55;((with_reducible refine(CW.out _).mono ?_);rintro e w3 ⟨rfl,hb3⟩;obtain⟨x0,x1,x2,x3,y0,y1,y2,y3⟩:=hbx.out.below hb3 (by simp);obtain⟨r0,r1,r2,r3,f0,f1,f2,f3⟩:=hrm.out.below (hb0'.out.trans (hb3.mono (by simp))) (Nat.lt_succ_self _);have HB3:=Hd hb3;clear hb3)))
       exact bodyPost_ret (v:=.tuple #[.agg #[.int .i64 1,.string T,.int .i64 0,.int .i64 (a:Int)],.bool false]) (by simp[results,Tryz.results28,go_sem,r0,r1,r2,r3]) rfl ⟨rfl,below_four (hbb.out.trans (HB3.out.mono hbb.out.size)) (qL _) _ _ _ _⟩
     ·obtain rfl:K=3:=by rw[hK.out];rfl
      by_cases h16:(m:Int)≤16
      ·have q16:decide ((m:Int)≤16)=true:=qT h16
       obtain rfl:B=true:=by rw[hB.out,q16]
       go_wp2_with (first | (go_at_call 53;((with_reducible refine(LD.out _).mono ?_);rintro e w' ⟨rfl,rfl⟩)) | (go_at_call 54;((with_reducible refine(DD.out _).mono ?_);rintro e w' ⟨rfl,rfl⟩)) | (go_at_call 55;((with_reducible refine(CW.out _).mono ?_);rintro e w3 ⟨rfl,hb3⟩;obtain⟨x0,x1,x2,x3,y0,y1,y2,y3⟩:=hbx.out.below hb3 (by simp);obtain⟨r0,r1,r2,r3,f0,f1,f2,f3⟩:=hrm.out.below (hb0'.out.trans (hb3.mono (by simp))) (Nat.lt_succ_self _);have HB3:=Hd hb3;clear hb3)))
       exact bodyPost_ret (v:=.tuple #[.agg #[.int .i64 3,.string T,.int .i64 0,.int .i64 (a:Int)],.bool true]) (by simp[results,Tryz.results28,go_sem,r0,r1,r2,r3]) rfl ⟨rfl,below_four ((hbb.out.trans (HB3.out.mono hbb.out.size)).setCell (p:=⟨w.heap.size+1,0,none⟩) (Nat.le_succ _) _) (qL _) _ _ _ _⟩
      ·have q16:decide ((m:Int)≤16)=false:=qF h16
       obtain rfl:B=false:=by rw[hB.out,q16]
       go_wp2_with (first | (go_at_call 53;((with_reducible refine(LD.out _).mono ?_);rintro e w' ⟨rfl,rfl⟩)) | (go_at_call 54;((with_reducible refine(DD.out _).mono ?_);rintro e w' ⟨rfl,rfl⟩)) | (go_at_call 55;((with_reducible refine(CW.out _).mono ?_);rintro e w3 ⟨rfl,hb3⟩;obtain⟨x0,x1,x2,x3,y0,y1,y2,y3⟩:=hbx.out.below hb3 (by simp);obtain⟨r0,r1,r2,r3,f0,f1,f2,f3⟩:=hrm.out.below (hb0'.out.trans (hb3.mono (by simp))) (Nat.lt_succ_self _);have HB3:=Hd hb3;clear hb3)))
       exact bodyPost_ret (v:=.tuple #[.agg #[.int .i64 3,.string T,.int .i64 0,.int .i64 (a:Int)],.bool false]) (by simp[results,Tryz.results28,go_sem,r0,r1,r2,r3]) rfl ⟨rfl,below_four ((hbb.out.trans (HB3.out.mono hbb.out.size)).setCell (p:=⟨w.heap.size+1,0,none⟩) (Nat.le_succ _) _) (qL _) _ _ _ _⟩
  ·have q3:decide ((j:Int)<(n:Int))=false:=qF (by omega)
   obtain rfl:j=x:=HE.out j hr.out (.inl hge)
   have hb0':=Hd ((qB (w.heap.size+1) (w.alloc (.cells #[.int .i64 0,.string ⟨#[]⟩,.int .i64 0,.int .i64 0] 43))).alloc (by simp) (.cells #[.int .i64 1,.string T,.int .i64 0,.int .i64 (a:Int)] 43))
   have hbb:=Hd (hb0.out.alloc hb0.out.size (.cells #[.int .i64 1,.string T,.int .i64 0,.int .i64 (a:Int)] 43))
   rcases Wb with _ | _
   ·obtain rfl:K=1:=by rw[hK.out];rfl
    by_cases h16:(m:Int)≤16
    ·have q16:decide ((m:Int)≤16)=true:=qT h16
     obtain rfl:B=true:=by rw[hB.out,q16]
     go_wp2_with (first | (go_at_call 55;((with_reducible refine(CW.out _).mono ?_);rintro e w3 ⟨rfl,hb3⟩;obtain⟨x0,x1,x2,x3,y0,y1,y2,y3⟩:=hbx.out.below hb3 (by simp);obtain⟨r0,r1,r2,r3,f0,f1,f2,f3⟩:=hrm.out.below (hb0'.out.trans (hb3.mono (by simp))) (Nat.lt_succ_self _);have HB3:=Hd hb3;clear hb3)))
     exact bodyPost_ret (v:=.tuple #[.agg #[.int .i64 1,.string T,.int .i64 0,.int .i64 (a:Int)],.bool true]) (by simp[results,Tryz.results28,go_sem,r0,r1,r2,r3]) rfl ⟨rfl,below_four (hbb.out.trans (HB3.out.mono hbb.out.size)) (qL _) _ _ _ _⟩
    ·have q16:decide ((m:Int)≤16)=false:=qF h16
     obtain rfl:B=false:=by rw[hB.out,q16]
     go_wp2_with (first | (go_at_call 55;((with_reducible refine(CW.out _).mono ?_);rintro e w3 ⟨rfl,hb3⟩;obtain⟨x0,x1,x2,x3,y0,y1,y2,y3⟩:=hbx.out.below hb3 (by simp);obtain⟨r0,r1,r2,r3,f0,f1,f2,f3⟩:=hrm.out.below (hb0'.out.trans (hb3.mono (by simp))) (Nat.lt_succ_self _);have HB3:=Hd hb3;clear hb3)))
     exact bodyPost_ret (v:=.tuple #[.agg #[.int .i64 1,.string T,.int .i64 0,.int .i64 (a:Int)],.bool false]) (by simp[results,Tryz.results28,go_sem,r0,r1,r2,r3]) rfl ⟨rfl,below_four (hbb.out.trans (HB3.out.mono hbb.out.size)) (qL _) _ _ _ _⟩
   ·obtain rfl:K=3:=by rw[hK.out];rfl
    by_cases h16:(m:Int)≤16
    ·have q16:decide ((m:Int)≤16)=true:=qT h16
     obtain rfl:B=true:=by rw[hB.out,q16]
     go_wp2_with (first | (go_at_call 55;((with_reducible refine(CW.out _).mono ?_);rintro e w3 ⟨rfl,hb3⟩;obtain⟨x0,x1,x2,x3,y0,y1,y2,y3⟩:=hbx.out.below hb3 (by simp);obtain⟨r0,r1,r2,r3,f0,f1,f2,f3⟩:=hrm.out.below (hb0'.out.trans (hb3.mono (by simp))) (Nat.lt_succ_self _);have HB3:=Hd hb3;clear hb3)))
     exact bodyPost_ret (v:=.tuple #[.agg #[.int .i64 3,.string T,.int .i64 0,.int .i64 (a:Int)],.bool true]) (by simp[results,Tryz.results28,go_sem,r0,r1,r2,r3]) rfl ⟨rfl,below_four ((hbb.out.trans (HB3.out.mono hbb.out.size)).setCell (p:=⟨w.heap.size+1,0,none⟩) (Nat.le_succ _) _) (qL _) _ _ _ _⟩
    ·have q16:decide ((m:Int)≤16)=false:=qF h16
     obtain rfl:B=false:=by rw[hB.out,q16]
     go_wp2_with (first | (go_at_call 55;((with_reducible refine(CW.out _).mono ?_);rintro e w3 ⟨rfl,hb3⟩;obtain⟨x0,x1,x2,x3,y0,y1,y2,y3⟩:=hbx.out.below hb3 (by simp);obtain⟨r0,r1,r2,r3,f0,f1,f2,f3⟩:=hrm.out.below (hb0'.out.trans (hb3.mono (by simp))) (Nat.lt_succ_self _);have HB3:=Hd hb3;clear hb3)))
     exact bodyPost_ret (v:=.tuple #[.agg #[.int .i64 3,.string T,.int .i64 0,.int .i64 (a:Int)],.bool false]) (by simp[results,Tryz.results28,go_sem,r0,r1,r2,r3]) rfl ⟨rfl,below_four ((hbb.out.trans (HB3.out.mono hbb.out.size)).setCell (p:=⟨w.heap.size+1,0,none⟩) (Nat.le_succ _) _) (qL _) _ _ _ _⟩
def RefOne:Prop:=∀(l:List UInt8) (a:Nat),a<l.length→l.length≤20000→∀W,
 (oneL (l.drop a)≠none→Calls prog 28 #[.string (str l),.int .i64 (a:Int)] W fun e w'=>OneRet ((tokAt l a).kind:Int) (tokAt l a).v (a:Int) (str (tokAt l a).text) true W e w') ∧
 (oneL (l.drop a)=none→Calls prog 28 #[.string (str l),.int .i64 (a:Int)] W fun e w'=>∃(k v a':Int) (S:ByteArray),OneRet k v a' S false W e w')
theorem own_below {B:Nat} {e:TypeId} {k:Nat} {v:Value} {n:Nat} {xs:List Value} {w w':World} (h:w.ownsRow B e k v n xs) (hb:Below w.heap.size w w'):w'.ownsRow B e k v n xs :=
 h.kept (row:=none) ⟨hb.os,hb.tape,hb.output,hb.size,fun j hj _=>hb.block j hj⟩ (by cases hv:v.ownBlock <;> simp)
theorem wpList_append_tok (w:World) {ops:Array Oper} {rest:List Oper} {o:Oper} {a:Act} {Q:Exit→Act→World→Prop}
  (hg:o.guard=none) (s x:Operand) (hop:o.op=Op.call { callee:=Callee.builtin Builtin.append,args:=#[s,x],argTypes:=#[39,39] })
  (base:Nat) (v:Value) (k:Nat) (xs:List Value) (hs:a.eval s=v) (hown:w.ownsRow base 43 4 v k xs) (ad:Addr) (news:List Value) (hx:a.eval x=.slice (some ad) 1 1) (hn:news.length=1*4)
  (hc:∀j u,news[j]?=some u→w.cell? (ad.add j)=some u) (h1c:∀u ∈ news,u.oneCell'=true) (hk:k≤40000) (b3:base≤w.heap.size)
  (hK:∀v' w',w'.ownsRow base 43 4 v' (k+1) (xs++news)→w.grownBy w' v.ownBlock→wpList prog ops Q rest (a.put o.dst v') w') :
  wpList prog ops Q (o :: rest) a w:=by
 obtain⟨i,h2,h3,h4,h5⟩:=info_parts tok_info
 refine wpList_plain hg fun K hK'=>?_
 obtain⟨v',w',hrun,r1,r2,_⟩:=run_append_own (P:=prog) w base 39 o.type 43 i _ 4 40 Tryz.underlying39 h2 h3 h4 h5 rfl (by decide) v k xs hown ad 1 1 news hn hc h1c (by unfold maxLen;omega) (by omega) b3
 unfold Oper.wp execOp
 simp only[hop,resolve,invoke,builtin,Sem.run_bind,Sem.run_pure,Result.andThen_ok,List.map_toArray,List.map_cons,List.map_nil,hs,hx,hrun]
 exact hK' _ _ (hK v' w' r1 r2)
def Room2 (w:World) (g:Nat):Prop:=w.cell? ⟨g,0,none⟩=some (.int .i64 0)∧w.cell? ⟨g,1,none⟩=some (.int .i64 0)∧w.frozen? ⟨g,0,none⟩=false∧w.frozen? ⟨g,1,none⟩=false
theorem Room2.below {w w':World} {g B:Nat} (h:Room2 w g) (hb:Below B w w') (hg:g<B):Room2 w' g :=
 ⟨(hb.cell (p:=⟨g,0,none⟩) hg).trans h.1,(hb.cell (p:=⟨g,1,none⟩) hg).trans h.2.1,(hb.frozen (p:=⟨g,0,none⟩) hg).trans h.2.2.1,(hb.frozen (p:=⟨g,1,none⟩) hg).trans h.2.2.2⟩
theorem room2_new (w:World) (T:TypeId):Room2 (w.alloc (.cells #[.int .i64 0,.int .i64 0] T)) w.heap.size :=
 ⟨by rw[World.cell?_alloc_new];rfl,by rw[World.cell?_alloc_new];rfl,World.frozen?_alloc_new _ _ _ _,World.frozen?_alloc_new _ _ _ _⟩
theorem ref_long (l:List UInt8) (n:Nat) (hs:(str l).size=n) (nl:(20000:Int)<(n:Int)) (w:World) :
  Calls prog 13 #[.string (str l)] w fun e w'=>NoRow 10 0 w e w':=by
 have q:decide ((20000:Int)<(n:Int))=true:=qT nl
 go_enter Tryz.func13,Tryz.ntmps13
 go_wp2_with fail
 exact bodyPost_ret (v:=.tuple #[.slice none 0 0,.agg #[.int .i64 10,.int .i64 0]]) (by simp[results,Tryz.results13,go_sem]) rfl ⟨rfl,(qB w.heap.size w).alloc (qL _) _⟩
def LexAt (l:List UInt8) (ts:List Tok) (r:Option Nat) (w:World) (a:Nat) (v:Value) (m:Nat) (wr:World):Prop :=
 ∃pre rest:List Tok,ts=pre++rest∧pre.length=m∧Toks l a rest r∧wr.ownsRow (w.heap.size+1) 43 4 v m (tokCells pre)∧Below (w.heap.size+1) (w.alloc (.cells #[.int .i64 0,.int .i64 0] 29)) wr
theorem ref_short (O:Hid RefOne) (l:List UInt8) (n:Nat) (hn:Hid (l.length=n)) (hs:(str l).size=n) (nl:(n:Int)≤20000) (ts:List Tok) (r:Option Nat) (ht:Hid (lexT l ts r)) (w:World) :
  Calls prog 13 #[.string (str l)] w fun e w'=>match r with | some f=>NoRow 1 (f:Int) w e w' | none=>SomeRow (ts++[endT l.length]) (ts.length+1) w e w':=by
 have q:decide ((20000:Int)<(n:Int))=false:=qF (by omega)
 have SK:Hid (∀(a:Nat),a≤n→∀W,Calls prog 27 #[.string (str l),.int .i64 (a:Int)] W fun e w'=>e=.returned (.int .i64 ((gapTo false l a:Nat):Int))∧w'=W):=Hd fun a ha W=>skip_ref l (by have:=hn.out;omega) a (by have:=hn.out;omega) W
 have HB:=Hd ((qB w.heap.size w).alloc (qL _) (.cells #[.int .i64 0,.int .i64 0] 29))
 have RM:=Hd (room2_new w 29)
 obtain⟨G0,hG0⟩:∃G0,G0=gapTo false l 0:=⟨_,rfl⟩
 have S0:Hid (∀W,Calls prog 27 #[.string (str l),.int .i64 0] W fun e w'=>e=.returned (.int .i64 (G0:Int))∧w'=W):=Hd (by rw[hG0];exact SK.out 0 (by omega))
 have HG0:=Hd hG0
 clear hG0
 go_enter Tryz.func13,Tryz.ntmps13
 go_wp2_with (go_at_call 27;((with_reducible refine(S0.out _).mono ?_);rintro e w' ⟨rfl,rfl⟩))
 go_loopw [5,4] (fun i v wr=>∃a m:Nat,i=.int .i64 a∧a≤n∧m≤n∧Hid (LexAt l ts r w a v m wr)) (fun i _ _=>n-litLen i)
 case atStart =>
  exact⟨G0,0,rfl,by rw[←hn.out,HG0.out];exact gapTo_le false (Nat.zero_le _),Nat.zero_le _,Hd ⟨[],ts,rfl,rfl,by rw[HG0.out];exact ht.out,qO _ _ _ _,qB _ _⟩⟩
 case round =>
  obtain⟨a,m,rfl,ha,hm,hL⟩:=hrel
  rcases Nat.lt_or_ge a n with hlt | hge
  ·have q3:decide ((a:Int)<(n:Int))=true:=qT (by omega)
   have O1:=Hd (O.out l a (by have:=hn.out;omega) (by have:=hn.out;omega) wr)
   by_cases ho:oneL (l.drop a)=none
   ·have C:Hid (Calls prog 28 #[.string (str l),.int .i64 (a:Int)] wr fun e w'=>∃(k v a':Int) (S:ByteArray),e=.returned (.tuple #[.agg #[.int .i64 k,.string S,.int .i64 v,.int .i64 a'],.bool false])∧Below wr.heap.size wr w'):=Hd (O1.out.2 ho)
    have hr:Hid (r=some a∧∃pre rest:List Tok,Below (w.heap.size+1) (w.alloc (.cells #[.int .i64 0,.int .i64 0] 29)) wr):=Hd (by
     obtain⟨pre,rest,_,_,h3,_,h5⟩:=hL.out
     cases h3 with
     | fin h=>exact absurd h (by have:=hn.out;omega)
     | bad=>exact⟨rfl,[],[],h5⟩
     | tok _ h1=>exact absurd ho h1)
    obtain rfl:=hr.out.1
    have BB:Hid (Below (w.heap.size+1) (w.alloc (.cells #[.int .i64 0,.int .i64 0] 29)) wr):=Hd (by obtain⟨_,_,_,h⟩:=hr.out;exact h)
    have SB:Hid (w.heap.size+1≤wr.heap.size):=Hd (by have:=BB.out.size;simpa using this)
    clear ho
    go_wp2_with (go_at_call 28;((with_reducible refine C.out.mono ?_);rintro e w1 ⟨kk,vv,aa,S,rfl,hb1⟩;have B1:=Hd ((BB.out.trans (hb1.mono SB.out)).alloc (Nat.le_trans SB.out hb1.size) (.cells #[.int .i64 kk,.string S,.int .i64 vv,.int .i64 aa] 43));obtain⟨r0,r1,f0,f1⟩:=RM.out.below B1.out (Nat.lt_succ_self _);clear hb1))
    exact bodyPost_ret (v:=.tuple #[.slice none 0 0,.agg #[.int .i64 1,.int .i64 (a:Int)]]) (by simp[results,Tryz.results13,go_sem,r0,r1]) rfl ⟨rfl,((HB.out.trans (B1.out.mono (Nat.le_succ _))).setCell (p:=⟨w.heap.size,0,none⟩) (qL _) _).setCell (p:=⟨w.heap.size,1,none⟩) (qL _) _⟩
   ·have hlen:=tokAt_len ho
    have hat:(tokAt l a).at_=a:=by unfold tokAt;cases oneL (l.drop a) <;> rfl
    have hO:=O1.out.1 ho
    obtain⟨pre,rest,hts,hpm,hrest,hrow,hBB⟩:=hL.out
    obtain⟨rest2,rfl,hrest2⟩:∃rest2,rest=tokAt l a :: rest2∧Toks l (gapTo false l (a+(tokAt l a).text.length)) rest2 r:=by
     cases hrest with
     | fin h=>exact absurd h (by have:=hn.out;omega)
     | bad _ h=>exact absurd h ho
     | tok _ _ h=>exact⟨_,rfl,h⟩
    generalize tokAt l a=t at *
    obtain⟨kk,tx,vv,aa⟩:=t
    obtain rfl:aa=a:=hat
    have C:Hid (Calls prog 28 #[.string (str l),.int .i64 (aa:Int)] wr fun e w'=>e=.returned (.tuple #[.agg #[.int .i64 (kk:Int),.string (str tx),.int .i64 vv,.int .i64 (aa:Int)],.bool true])∧Below wr.heap.size wr w'):=Hd hO
    obtain⟨L,hL2⟩:∃L,L=tx.length:=⟨_,rfl⟩
    have hsz:(str tx).size=L:=by rw[str_size,hL2]
    have hl1:1≤L:=by rw[hL2];exact hlen.1
    have hl2:aa+L≤n:=by rw[hL2,←hn.out];exact hlen.2
    have hl3:(L:Int)≤20000:=by omega
    obtain⟨G1,hG1⟩:∃G1,G1=gapTo false l (aa+L):=⟨_,rfl⟩
    have hg1:aa<G1:=by rw[hG1];have:=gapTo_ge false l (aa+L);omega
    have hg2:G1≤n:=by rw[hG1,←hn.out];exact gapTo_le false (by rw[hn.out];exact hl2)
    have SK1:Hid (∀W,Calls prog 27 #[.string (str l),.int .i64 ((aa:Int)+(L:Int))] W fun e w'=>e=.returned (.int .i64 (G1:Int))∧w'=W):=Hd (by rw[hG1];exact SK.out (aa+L) hl2)
    have HR2:Hid (Toks l G1 rest2 r):=Hd (by rw[hG1,hL2];exact hrest2)
    have HTS:=Hd hts
    have HPM:=Hd hpm
    have HROW:=Hd hrow
    have BB:=Hd hBB
    have SB:Hid (w.heap.size+1≤wr.heap.size):=Hd (by have:=hBB.size;simpa using this)
    have hmn:m+1≤n:=by
     have h1:=toks_count ht.out
     have h2:=gapTo_le false (Nat.zero_le l.length)
     rw[hts] at h1
     simp only[List.length_append,List.length_cons] at h1
     have:=hn.out
     omega
    have HM:=Hd hmn
    clear hlen hO hrest hrest2 hts hpm hrow hBB ho hL2 hG1 hmn
    go_wp2_with (first | (go_at_call 28;((with_reducible refine C.out.mono ?_);rintro e w1 ⟨rfl,hb1⟩;have B1:=Hd (BB.out.trans (hb1.mono SB.out));have S1:=Hd (Nat.le_trans SB.out hb1.size);have SW:=Hd hb1.size;have R1:=Hd (own_below HROW.out hb1);have CF:Hid (∀j u,[Value.int .i64 (kk:Int),.string (str tx),.int .i64 vv,.int .i64 (aa:Int)][j]?=some u→((w1.alloc (.cells #[.int .i64 (kk:Int),.string (str tx),.int .i64 vv,.int .i64 (aa:Int)] 43)).alloc (.cells #[.int .i64 (kk:Int),.string (str tx),.int .i64 vv,.int .i64 (aa:Int)] 43)).cell? ((⟨w1.heap.size+1,0,none⟩:Addr).add j)=some u):=Hd (fun j u hju=>by have:=cell_four_new (w1.alloc (.cells #[.int .i64 (kk:Int),.string (str tx),.int .i64 vv,.int .i64 (aa:Int)] 43)) _ _ _ _ 43 j u hju;rwa [World.size_alloc] at this);clear hb1)) | (at_builtin;refine wpList_append_tok _ rfl _ _ rfl (w.heap.size+1) _ m _ rfl ((R1.out.alloc _).alloc _) ⟨w1.heap.size+1,0,none⟩ [.int .i64 (kk:Int),.string (str tx),.int .i64 vv,.int .i64 (aa:Int)] rfl rfl CF.out (by simp[Value.oneCell']) (by have:=HM.out;omega) (by have:=S1.out;simp;omega) ?_;intro v' w3 hown' hgrow;have y1:w3.cell? ⟨w1.heap.size,1,none⟩=some (.string (str tx)):=hgrow.cell (by rw[World.cell?_alloc_old _ _ _ (by simp),World.cell?_alloc_new];rfl) (fun e=>by have:=(HROW.out.lt _ e.symm).2;have:=SW.out;simp at *;omega);have G1':=Hd hown';have G2':=Hd (((B1.out.alloc (by have:=S1.out;simp;omega) (.cells #[.int .i64 (kk:Int),.string (str tx),.int .i64 vv,.int .i64 (aa:Int)] 43)).alloc (by have:=S1.out;simp;omega) (.cells #[.int .i64 (kk:Int),.string (str tx),.int .i64 vv,.int .i64 (aa:Int)] 43)).grown hgrow (by have:=S1.out;simp;omega) (fun k hk=>(HROW.out.lt k hk).1));clear hown' hgrow) | (go_at_call 27;((with_reducible refine(SK1.out _).mono ?_);rintro e w' ⟨rfl,rfl⟩)))
    exact⟨⟨G1,m+1,rfl,hg2,HM.out,Hd ⟨pre++[⟨kk,tx,vv,aa⟩],rest2,by rw[HTS.out];simp,by simp[HPM.out],HR2.out,by rw[tokCells_snoc];exact G1'.out,G2'.out⟩⟩,by simp[litLen];omega⟩
  ·have q3:decide ((a:Int)<(n:Int))=false:=qF (by omega)
   obtain⟨pre,rest,hts,hpm,hrest,hrow,hBB⟩:=hL.out
   obtain⟨rfl,rfl⟩:rest=[]∧r=none:=by
    cases hrest with
    | fin h=>exact⟨rfl,rfl⟩
    | bad h=>exact absurd h (by have:=hn.out;omega)
    | tok h=>exact absurd h (by have:=hn.out;omega)
   have HTS:=Hd (show ts=pre by rw[hts];simp)
   have HPM:=Hd hpm
   have HROW:=Hd hrow
   have BB:=Hd hBB
   have SB:Hid (w.heap.size+1≤wr.heap.size):=Hd (by have:=hBB.size;simpa using this)
   have CF:Hid (∀j u,[Value.int .i64 5,.string ⟨#[]⟩,.int .i64 0,.int .i64 (n:Int)][j]?=some u→(wr.alloc (.cells #[.int .i64 5,.string ⟨#[]⟩,.int .i64 0,.int .i64 (n:Int)] 43)).cell? ((⟨wr.heap.size,0,none⟩:Addr).add j)=some u):=Hd (cell_four_new wr _ _ _ _ 43)
   clear hts hpm hrest hrow hBB
   go_wp2_with (at_builtin;refine wpList_append_tok _ rfl _ _ rfl (w.heap.size+1) _ m _ rfl (HROW.out.alloc _) ⟨wr.heap.size,0,none⟩ [.int .i64 5,.string ⟨#[]⟩,.int .i64 0,.int .i64 (n:Int)] rfl rfl CF.out (by simp[Value.oneCell']) (by omega) (by have:=SB.out;simp;omega) ?_;intro v' w3 hown' hgrow;obtain⟨g',cap',rfl⟩:=ownsRow_succ hown';have G1':=Hd hown';have G2':=Hd ((BB.out.alloc (by have:=SB.out;simp;omega) (.cells #[.int .i64 5,.string ⟨#[]⟩,.int .i64 0,.int .i64 (n:Int)] 43)).grown hgrow (by have:=SB.out;simp;omega) (fun k hk=>(HROW.out.lt k hk).1));obtain⟨r0,r1,f0,f1⟩:=RM.out.below G2'.out (Nat.lt_succ_self _);clear hown' hgrow)
   have hg:=G1'.out.lt g' rfl
   refine bodyPost_ret (v:=.tuple #[.slice (some ⟨g',0,none⟩) (m+1) cap',.agg #[.int .i64 0,.int .i64 0]]) (by simp[results,Tryz.results13,go_sem,r0,r1]) rfl ⟨g',cap',by rw[HTS.out,HPM.out],((HB.out.trans (G2'.out.mono (Nat.le_succ _))).setCell (p:=⟨w.heap.size,0,none⟩) (qL _) _).setCell (p:=⟨w.heap.size,1,none⟩) (qL _) _,by simp;exact hg.2,?_⟩
   have hcells:∀j u,(tokCells (ts++[endT l.length]))[j]?=some u→((w3.setCell ⟨w.heap.size,0,none⟩ (.int .i64 0)).setCell ⟨w.heap.size,1,none⟩ (.int .i64 0)).cell? ⟨g',j,none⟩=some u:=fun j u hu=>by
    rw[World.cell?_setCell_other _ _ _ _ (by intro e;injection e with e;omega),World.cell?_setCell_other _ _ _ _ (by intro e;injection e with e;omega)]
    refine row_cells G1'.out j u ?_
    rw[HTS.out,tokCells_snoc] at hu
    rw[←hn.out]
    exact hu
   intro i t hi
   obtain⟨h1,h2,h3,h4⟩:=tokCells_at hi
   exact⟨hcells _ _ h1,hcells _ _ h2,hcells _ _ h3,hcells _ _ h4⟩
theorem ref_lex (O:RefOne):RefLex:=fun l ts r ht W=>by
 rcases Nat.lt_or_ge 20000 l.length with h | h
 ·exact(ref_long l _ (str_size l) (by omega) W).mono fun e w' h2=>⟨fun _=>h2,fun h3=>absurd h3 (by omega)⟩
 ·exact(ref_short (Hd O) l _ (Hd rfl) (str_size l) (by omega) ts r (Hd ht) W).mono fun e w' h2=>⟨fun h3=>absurd h3 (by omega),fun _=>by cases r <;> exact h2⟩
def SignRet (a:Nat) (o:Option (List UInt8)) (w:World) (e:Ending) (w':World):Prop :=
 (∃s,o=some s∧OneRet 4 0 (a:Int) (str s) true w e w')∨(o=none∧OneRet 0 0 0 ⟨#[]⟩ false w e w')
theorem prefix_eq (d s:List UInt8):s.isPrefixOf d=(d.take s.length ==s):=by
 cases h:s.isPrefixOf d with
 | true=>rw[prefix_take h];simp
 | false =>
  symm
  rw[beq_eq_false_iff_ne]
  intro e
  have:s.isPrefixOf d=true:=by rw[List.isPrefixOf_iff_prefix,←e];exact List.take_prefix _ _
  rw[h] at this
  cases this
theorem one_sign (l:List UInt8) (n:Nat) (hn:Hid (l.length=n)) (nl:(n:Int)≤30000) (hs:(str l).size=n) (a:Nat) (han:(a:Int)<(n:Int)) (c:UInt8) (hix:∀h,(str l)[a]'h=c) (hcl:Hid (isLetter c=false)) (hcd:Hid (isDig c=false)) (o:Option (List UInt8)) (ho:Hid (signOf (l.drop a)=o)) (w:World) :
  Calls prog 28 #[.string (str l),.int .i64 (a:Int)] w fun e w'=>SignRet a o w e w':=by
 have L0:Hid (∀w,Calls prog 53 #[.int .u8 (c.toNat:Int)] w fun e w'=>e=.returned (.bool false)∧w'=w):=Hd fun w=>by have:=letter_ref c w;rwa [hcl.out] at this
 have D0:Hid (∀w,Calls prog 54 #[.int .u8 (c.toNat:Int)] w fun e w'=>e=.returned (.bool false)∧w'=w):=Hd fun w=>by have:=digit_ref c w;rwa [hcd.out] at this
 have hb0:=Hd ((qB w.heap.size w).alloc (qL _) (.cells #[.int .i64 0,.string ⟨#[]⟩,.int .i64 0,.int .i64 0] 43))
 have hrm:=Hd (roomAt_new w 43)
 have hb1:=Hd (((qB (w.heap.size+1) (w.alloc (.cells #[.int .i64 0,.string ⟨#[]⟩,.int .i64 0,.int .i64 0] 43))).alloc (by simp) (.cells signCells 9)))
 have hcell:Hid (∀(j:Nat) s,signsL[j]?=some s→((w.alloc (.cells #[.int .i64 0,.string ⟨#[]⟩,.int .i64 0,.int .i64 0] 43)).alloc (.cells signCells 9)).cell? ⟨w.heap.size+1,j,none⟩=some (.string (str s))):=Hd fun j s hs=>by
  have:((w.alloc (.cells #[.int .i64 0,.string ⟨#[]⟩,.int .i64 0,.int .i64 0] 43)).alloc (.cells signCells 9)).cell? ⟨(w.alloc (.cells #[.int .i64 0,.string ⟨#[]⟩,.int .i64 0,.int .i64 0] 43)).heap.size,j,none⟩=some (.string (str s)):=by
   rw[World.cell?_alloc_new]
   unfold signCells
   rw[List.getElem?_toArray,List.getElem?_map,hs]
   rfl
  rwa [World.size_alloc] at this
 go_enter Tryz.func28,Tryz.ntmps28
 go_wp2_with (first | (go_at_call 53;((with_reducible refine(L0.out _).mono ?_);rintro e w' ⟨rfl,rfl⟩)) | (go_at_call 54;((with_reducible refine(D0.out _).mono ?_);rintro e w' ⟨rfl,rfl⟩)))
 obtain⟨W1,hW1⟩:∃W1,W1=(w.alloc (.cells #[.int .i64 0,.string ⟨#[]⟩,.int .i64 0,.int .i64 0] 43)).alloc (.cells signCells 9):=⟨_,rfl⟩
 rw[←hW1] at hcell hb1
 change Code.wp _ _ _ _ ((w.alloc (.cells #[.int .i64 0,.string ⟨#[]⟩,.int .i64 0,.int .i64 0] 43)).alloc (.cells signCells 9))
 rw[←hW1]
 have HW:=Hd hW1
 have HSZ:Hid (W1.heap.size=w.heap.size+1+1):=Hd (by rw[hW1];simp)
 clear hW1
 go_loopw [12] (fun i wr=>∃j:Nat,j≤17∧Hid ((signsL.take j).all (fun s=>!s.isPrefixOf (l.drop a))=true)∧i=.int .i64 j∧Hid (Below (w.heap.size+1+1) W1 wr)) (fun i _=>17-litLen i)
 case atStart=>exact⟨0,by omega,Hd rfl,rfl,Hd (qB _ _)⟩
 case round =>
  obtain⟨j,hj,hno,rfl,hB⟩:=hrel
  have hBB:=Hd (hb1.out.trans (hB.out.mono (Nat.le_succ _)))
  obtain⟨r0,r1,r2,r3,f0,f1,f2,f3⟩:=hrm.out.below hBB.out (Nat.lt_succ_self _)
  have hBw:=Hd (hb0.out.trans (hBB.out.mono (Nat.le_succ _)))
  rcases Nat.lt_or_ge j 17 with hlt | hge
  ·have q3:decide ((j:Int)<17)=true:=qT (by omega)
   obtain⟨s,hsj⟩:∃s,signsL[j]?=some s:=⟨signsL[j]'(by show j<17;exact hlt),List.getElem?_eq_getElem _⟩
   have hc:wr.cell? ⟨w.heap.size+1,j,none⟩=some (.string (str s)):=(hB.out.cell (p:=⟨w.heap.size+1,j,none⟩) (Nat.lt_succ_self _)).trans (hcell.out j s hsj)
   have HJ:=Hd hsj
   have hk:=signs_len (List.mem_of_getElem? hsj)
   obtain⟨k,hk0⟩:∃k,k=s.length:=⟨_,rfl⟩
   have hks:(str s).size=k:=by rw[str_size,hk0]
   obtain⟨x,hx⟩:∃x,x=a+k:=⟨_,rfl⟩
   have hax:(a:Int)+(k:Int)=(x:Int):=by omega
   have hk2:(k:Int)≤2:=by omega
   have hxa:(a:Int)≤(x:Int):=by omega
   have hx3:(x:Int)≤30010:=by omega
   have HK0:=Hd hk0
   have HX:=Hd hx
   clear hsj hk hk0 hx
   by_cases hxn:(x:Int)≤(n:Int)
   ·have q4:decide ((x:Int)≤(n:Int))=true:=qT hxn
    obtain⟨T,hT⟩:∃T,T=(str l).extract a x:=⟨_,rfl⟩
    have hT2:(str l).extract a x=T:=hT.symm
    have HT:Hid (T=str ((l.drop a).take k)):=Hd (by rw[hT,slice_str,HX.out,Nat.add_sub_cancel_left])
    have hpf:=Hd (prefix_eq (l.drop a) s)
    rcases hBv:s.isPrefixOf (l.drop a) with _ | _
    ·have hq:(T.toList ==(str s).toList)=false:=by rw[HT.out,bytes_eq,HK0.out,←hpf.out];exact hBv
     have HBV:=Hd hBv
     clear hT hBv
     go_wp2_with fail
     go_quiet (fail)
     go_wp2_with fail
     have hdr:Below wr.heap.size wr (wr.drewN nq):=below_dr (qB _ wr) nq
     exact⟨⟨j+1,by omega,Hd (all_take_next _ HJ.out hno.out (by rw[HBV.out];rfl)),rfl,Hd (hB.out.trans (hdr.mono (by have:=hB.out.size;rw[HSZ.out] at this;exact this)))⟩,by simp[litLen];omega⟩
    ·have hq:(T.toList ==(str s).toList)=true:=by rw[HT.out,bytes_eq,HK0.out,←hpf.out];exact hBv
     obtain rfl:o=some s:=by rw[←ho.out];exact sign_hit HJ.out hno.out hBv
     clear hT hBv ho
     go_wp2_with fail
     go_quiet (fail)
     have hdr:Below wr.heap.size wr (wr.drewN nq):=below_dr (qB _ wr) nq
     have hBB2:=Hd (hBB.out.trans (hdr.mono (by have:=hB.out.size;rw[HSZ.out] at this;omega)))
     obtain⟨p0,p1,p2,p3,g0,g1,g2,g3⟩:=hrm.out.below hBB2.out (Nat.lt_succ_self _)
     have hc2:(wr.drewN nq).cell? ⟨w.heap.size+1,j,none⟩=some (.string (str s)):=(hdr.cell (p:=⟨w.heap.size+1,j,none⟩) (by have:=hB.out.size;rw[HSZ.out] at this;show w.heap.size+1<_;omega)).trans hc
     have HDR:=Hd (hb0.out.trans (hBB2.out.mono (Nat.le_succ _)))
     clear hdr
     go_wp2_with fail
     exact bodyPost_ret (v:=.tuple #[.agg #[.int .i64 4,.string (str s),.int .i64 0,.int .i64 (a:Int)],.bool true]) (by simp[results,Tryz.results28,go_sem,p0,p1,p2,p3]) rfl (.inl ⟨s,rfl,rfl,below_four HDR.out (qL _) _ _ _ _⟩)
   ·have q4:decide ((x:Int)≤(n:Int))=false:=qF hxn
    have q5:decide (x≤n)=false:=qF (by omega)
    have q6:¬(x≤n):=by omega
    have HBV:Hid (s.isPrefixOf (l.drop a)=false):=Hd (by
     cases h:s.isPrefixOf (l.drop a) with
     | false=>rfl
     | true =>
      have h2:=List.IsPrefix.length_le (List.isPrefixOf_iff_prefix.1 h)
      rw[List.length_drop] at h2
      have:=HK0.out
      have:=HX.out
      have:=hn.out
      omega)
    go_wp2_with fail
    go_quiet (fail)
    go_wp2_with fail
    have hdr:Below wr.heap.size wr (wr.drewN nq):=below_dr (qB _ wr) nq
    exact⟨⟨j+1,by omega,Hd (all_take_next _ HJ.out hno.out (by rw[HBV.out];rfl)),rfl,Hd (hB.out.trans (hdr.mono (by have:=hB.out.size;rw[HSZ.out] at this;exact this)))⟩,by simp[litLen];omega⟩
  ·have q3:decide ((j:Int)<17)=false:=qF (by omega)
   obtain rfl:o=none:=by rw[←ho.out];exact sign_none (by have:=hno.out;rwa [List.take_of_length_le (by show 17≤j;exact hge)] at this)
   clear ho
   go_wp2_with fail
   exact bodyPost_ret (v:=.tuple #[.agg #[.int .i64 0,.string ⟨#[]⟩,.int .i64 0,.int .i64 0],.bool false]) (by simp[results,Tryz.results28,go_sem,r0,r1,r2,r3]) rfl (.inr ⟨rfl,rfl,below_four hBw.out (qL _) _ _ _ _⟩)
end Go.Proofs.YtlbhlncipajapaaGreatDoor.Lx
