import Derived.Test.YtlbhlncipajapaaGreatDoorPt04
set_option maxHeartbeats 16000000
set_option maxRecDepth 100000
open Go.Proofs.Tryz(prog)
namespace Go.Proofs.YtlbhlncipajapaaGreatDoor.Lx
open Go.RowKit
theorem one_num (l:List UInt8) (n:Nat) (hn:Hid (l.length=n)) (nl:(n:Int)≤30000) (hs:(str l).size=n) (a:Nat) (han:(a:Int)<(n:Int)) (c:UInt8) (hix:∀h,(str l)[a]'h=c) (hcl:Hid (isLetter c=false)) (hcd:Hid (isDig c=true)) (x:Nat) (hx:Hid (runTo isDig l a=x)) (R:Nat) (hR:Hid (numTo l a=R)) (haR:(a:Int)≤(R:Int)) (hRn:(R:Int)≤(n:Int))
  (T:ByteArray) (hT:(str l).extract a R=T) (V:Int) (O:Bool) (SG:Hid (∀w,Calls prog 56 #[.string T] w fun e w'=>e=.returned (.tuple #[.int .i64 V,.bool O])∧Below w.heap.size w w')) (w:World) :
  Calls prog 28 #[.string (str l),.int .i64 (a:Int)] w fun e w'=>OneRet 2 V (a:Int) T O w e w':=by
 have DT:Hid (∀(c:UInt8) w,Calls prog 54 #[.int .u8 (c.toNat:Int)] w fun e w'=>e=.returned (.bool (isDig c))∧w'=w):=Hd digit_ref
 have L0:Hid (∀w,Calls prog 53 #[.int .u8 (c.toNat:Int)] w fun e w'=>e=.returned (.bool false)∧w'=w):=Hd fun w=>by have:=letter_ref c w;rwa [hcl.out] at this
 have D0:Hid (∀w,Calls prog 54 #[.int .u8 (c.toNat:Int)] w fun e w'=>e=.returned (.bool true)∧w'=w):=Hd fun w=>by have:=digit_ref c w;rwa [hcd.out] at this
 have hb0:=Hd ((qB w.heap.size w).alloc (qL _) (.cells #[.int .i64 0,.string ⟨#[]⟩,.int .i64 0,.int .i64 0] 43))
 have hrm:=Hd (roomAt_new w 43)
 have HE:Hid (∀i x j:Nat,runTo isDig l j=x→(n≤j∨∃c,l[j]?=some c∧isDig c=false)→j=x):=Hd fun i x j h1 h2=>by
  rcases h2 with h2 | ⟨c,h2,h3⟩
  ·rw[runTo_end (by rw[hn.out];exact h2)] at h1;exact h1
  ·rw[runTo_stop h2 h3] at h1;exact h1
 go_enter Tryz.func28,Tryz.ntmps28
 go_wp2_with (first | (go_at_call 53;((with_reducible refine(L0.out _).mono ?_);rintro e w' ⟨rfl,rfl⟩)) | (go_at_call 54;((with_reducible refine(D0.out _).mono ?_);rintro e w' ⟨rfl,rfl⟩)))
 go_loop [7] (fun i=>∃j:Nat,a≤j∧j≤n∧Hid (runTo isDig l j=x)∧i=.int .i64 j) (fun i=>n-litLen i)
 case atStart=>exact⟨a,qL _,by omega,hx,rfl⟩
 case round =>
  obtain⟨j,haj,hj,hr,rfl⟩:=hrel
  rcases Nat.lt_or_ge j n with hlt | hge
  ·have q3:decide ((j:Int)<(n:Int))=true:=qT (by omega)
   have jn:(j:Int)<(n:Int):=by omega
   obtain⟨d,hdj⟩:=isBehind hn.out hlt
   have hix2:∀h,(str l)[j]'h=d:=fun h=>str_at l hdj h
   have HD:=Hd hdj
   clear hdj
   rcases hb2:isDig d with _ | _
   ·obtain rfl:j=x:=HE.out 0 x j hr.out (.inr ⟨d,HD.out,hb2⟩)
    have DD:Hid (∀w,Calls prog 54 #[.int .u8 (d.toNat:Int)] w fun e w'=>e=.returned (.bool false)∧w'=w):=Hd fun w=>by have:=digit_ref d w;rwa [hb2] at this
    clear hb2
    obtain⟨y1,hy1⟩:∃y1,y1=j+1:=⟨_,rfl⟩
    have e1:(j:Int)+1=(y1:Int):=by omega
    have HY1:=Hd hy1
    clear hy1
    by_cases hyn:(y1:Int)<(n:Int)
    ·have q4:decide ((y1:Int)<(n:Int))=true:=qT hyn
     have q5:decide (y1<n)=true:=qT (by omega)
     by_cases h46:d=46
     ·have k1:(d ==46)=true:=by simpa using h46
      have k2:((d.toNat:Int) ==46)=true:=by rw[h46];rfl
      have k3:(d.toNat:Int)=46:=by rw[h46];rfl
      have hdot:=Hd (numTo_dot (l:=l) (a:=a) (by rw[hx.out,HD.out,h46]))
      obtain⟨f,hf⟩:=isBehind hn.out (show y1<n by omega)
      have hix3:∀h,(str l)[y1]'h=f:=fun h=>str_at l hf h
      have HF:=Hd hf
      have D46:Hid (∀w,Calls prog 54 #[.int .u8 46] w fun e w'=>e=.returned (.bool false)∧w'=w):=Hd fun w=>by have:=DD.out w;rw[h46] at this;exact this
      clear hf h46
      rcases hb3:isDig f with _ | _
      ·have DF:Hid (∀w,Calls prog 54 #[.int .u8 (f.toNat:Int)] w fun e w'=>e=.returned (.bool false)∧w'=w):=Hd fun w=>by have:=digit_ref f w;rwa [hb3] at this
       obtain rfl:R=j:=by
        have:=hdot.out
        rw[hx.out,←HY1.out,runTo_stop HF.out hb3,if_neg (by omega)] at this
        rw[←hR.out];exact this
       clear hb3
       go_wp2_with (first | (go_at_call 54;((with_reducible refine(D46.out _).mono ?_);rintro e w' ⟨rfl,rfl⟩)) | (go_at_call 54;((with_reducible refine(DD.out _).mono ?_);rintro e w' ⟨rfl,rfl⟩)) | (go_at_call 54;((with_reducible refine(DF.out _).mono ?_);rintro e w' ⟨rfl,rfl⟩)) | (go_at_call 56;((with_reducible refine(SG.out _).mono ?_);rintro e w3 ⟨rfl,hb3⟩;obtain⟨r0,r1,r2,r3,f0,f1,f2,f3⟩:=hrm.out.below hb3 (by simp);have HB3:=Hd hb3;clear hb3)))
       exact bodyPost_ret (v:=.tuple #[.agg #[.int .i64 2,.string T,.int .i64 V,.int .i64 (a:Int)],.bool O]) (by simp[results,Tryz.results28,go_sem,r0,r1,r2,r3]) rfl ⟨rfl,below_four (hb0.out.trans (HB3.out.mono hb0.out.size)) (qL _) _ _ _ _⟩
      ·have DF:Hid (∀w,Calls prog 54 #[.int .u8 (f.toNat:Int)] w fun e w'=>e=.returned (.bool true)∧w'=w):=Hd fun w=>by have:=digit_ref f w;rwa [hb3] at this
       have hRy:Hid (runTo isDig l y1=R):=Hd (by
        have:=hdot.out
        have h2:=runTo_step HF.out hb3
        have h3:=runTo_ge isDig l (y1+1)
        rw[hx.out,←HY1.out,if_pos (by omega)] at this
        rw[←hR.out];exact this.symm)
       clear hb3
       go_wp2_with (first | (go_at_call 54;((with_reducible refine(D46.out _).mono ?_);rintro e w' ⟨rfl,rfl⟩)) | (go_at_call 54;((with_reducible refine(DD.out _).mono ?_);rintro e w' ⟨rfl,rfl⟩)) | (go_at_call 54;((with_reducible refine(DF.out _).mono ?_);rintro e w' ⟨rfl,rfl⟩)))
       go_loop [7] (fun i=>∃k:Nat,y1≤k∧k≤n∧Hid (runTo isDig l k=R)∧i=.int .i64 k) (fun i=>n-litLen i)
       case atStart=>exact⟨y1,qL _,by omega,hRy,rfl⟩
       case round =>
        obtain⟨k,hyk,hk,hrk,rfl⟩:=hrel
        rcases Nat.lt_or_ge k n with hkt | hkg
        ·have q6:decide ((k:Int)<(n:Int))=true:=qT (by omega)
         have kn:(k:Int)<(n:Int):=by omega
         obtain⟨h,hhk⟩:=isBehind hn.out hkt
         have hix4:∀h',(str l)[k]'h'=h:=fun h'=>str_at l hhk h'
         have HH:=Hd hhk
         clear hhk
         rcases hb4:isDig h with _ | _
         ·obtain rfl:k=R:=HE.out 0 R k hrk.out (.inr ⟨h,HH.out,hb4⟩)
          have DH:Hid (∀w,Calls prog 54 #[.int .u8 (h.toNat:Int)] w fun e w'=>e=.returned (.bool false)∧w'=w):=Hd fun w=>by have:=digit_ref h w;rwa [hb4] at this
          clear hb4
          go_wp2_with (first | (go_at_call 54;((with_reducible refine(DH.out _).mono ?_);rintro e w' ⟨rfl,rfl⟩)) | (go_at_call 56;((with_reducible refine(SG.out _).mono ?_);rintro e w3 ⟨rfl,hb3⟩;obtain⟨r0,r1,r2,r3,f0,f1,f2,f3⟩:=hrm.out.below hb3 (by simp);have HB3:=Hd hb3;clear hb3)))
          exact bodyPost_ret (v:=.tuple #[.agg #[.int .i64 2,.string T,.int .i64 V,.int .i64 (a:Int)],.bool O]) (by simp[results,Tryz.results28,go_sem,r0,r1,r2,r3]) rfl ⟨rfl,below_four (hb0.out.trans (HB3.out.mono hb0.out.size)) (qL _) _ _ _ _⟩
         ·have DH:Hid (∀w,Calls prog 54 #[.int .u8 (h.toNat:Int)] w fun e w'=>e=.returned (.bool true)∧w'=w):=Hd fun w=>by have:=digit_ref h w;rwa [hb4] at this
          have HB4:=Hd hb4
          clear hb4
          go_wp2_with ((go_at_call 54;((with_reducible refine(DH.out _).mono ?_);rintro e w' ⟨rfl,rfl⟩)))
          exact⟨⟨k+1,by omega,by omega,Hd (run_next HH.out hrk.out HB4.out),rfl⟩,by simp[litLen];omega⟩
        ·have q6:decide ((k:Int)<(n:Int))=false:=qF (by omega)
         obtain rfl:k=R:=HE.out 0 R k hrk.out (.inl hkg)
         go_wp2_with (first | (go_at_call 56;((with_reducible refine(SG.out _).mono ?_);rintro e w3 ⟨rfl,hb3⟩;obtain⟨r0,r1,r2,r3,f0,f1,f2,f3⟩:=hrm.out.below hb3 (by simp);have HB3:=Hd hb3;clear hb3)))
         exact bodyPost_ret (v:=.tuple #[.agg #[.int .i64 2,.string T,.int .i64 V,.int .i64 (a:Int)],.bool O]) (by simp[results,Tryz.results28,go_sem,r0,r1,r2,r3]) rfl ⟨rfl,below_four (hb0.out.trans (HB3.out.mono hb0.out.size)) (qL _) _ _ _ _⟩
     ·obtain⟨k1,k4,k3,k2,k5⟩:=byte_ne h46 46 rfl
      obtain rfl:R=j:=by rw[←hR.out,numTo_end (by rw[hx.out,HD.out];simpa using h46),hx.out]
      clear h46
      go_wp2_with (first | (go_at_call 54;((with_reducible refine(DD.out _).mono ?_);rintro e w' ⟨rfl,rfl⟩)) | (go_at_call 56;((with_reducible refine(SG.out _).mono ?_);rintro e w3 ⟨rfl,hb3⟩;obtain⟨r0,r1,r2,r3,f0,f1,f2,f3⟩:=hrm.out.below hb3 (by simp);have HB3:=Hd hb3;clear hb3)))
      exact bodyPost_ret (v:=.tuple #[.agg #[.int .i64 2,.string T,.int .i64 V,.int .i64 (a:Int)],.bool O]) (by simp[results,Tryz.results28,go_sem,r0,r1,r2,r3]) rfl ⟨rfl,below_four (hb0.out.trans (HB3.out.mono hb0.out.size)) (qL _) _ _ _ _⟩
    ·have q4:decide ((y1:Int)<(n:Int))=false:=qF hyn
     have q5:decide (y1<n)=false:=qF (by omega)
     obtain rfl:R=j:=by
      by_cases h46:d=46
      ·have hdot:=numTo_dot (l:=l) (a:=a) (by rw[hx.out,HD.out,h46])
       rw[hx.out,←HY1.out,runTo_end (by rw[hn.out];omega),if_neg (by omega)] at hdot
       rw[←hR.out];exact hdot
      ·rw[←hR.out,numTo_end (by rw[hx.out,HD.out];simpa using h46),hx.out]
     go_wp2_with (first | (go_at_call 54;((with_reducible refine(DD.out _).mono ?_);rintro e w' ⟨rfl,rfl⟩)) | (go_at_call 56;((with_reducible refine(SG.out _).mono ?_);rintro e w3 ⟨rfl,hb3⟩;obtain⟨r0,r1,r2,r3,f0,f1,f2,f3⟩:=hrm.out.below hb3 (by simp);have HB3:=Hd hb3;clear hb3)))
     exact bodyPost_ret (v:=.tuple #[.agg #[.int .i64 2,.string T,.int .i64 V,.int .i64 (a:Int)],.bool O]) (by simp[results,Tryz.results28,go_sem,r0,r1,r2,r3]) rfl ⟨rfl,below_four (hb0.out.trans (HB3.out.mono hb0.out.size)) (qL _) _ _ _ _⟩
   ·have DD:Hid (∀w,Calls prog 54 #[.int .u8 (d.toNat:Int)] w fun e w'=>e=.returned (.bool true)∧w'=w):=Hd fun w=>by have:=digit_ref d w;rwa [hb2] at this
    have HB2:=Hd hb2
    clear hb2
    go_wp2_with ((go_at_call 54;((with_reducible refine(DD.out _).mono ?_);rintro e w' ⟨rfl,rfl⟩)))
    exact⟨⟨j+1,by omega,by omega,Hd (run_next HD.out hr.out HB2.out),rfl⟩,by simp[litLen];omega⟩
  ·have q3:decide ((j:Int)<(n:Int))=false:=qF (by omega)
   obtain rfl:j=x:=HE.out 0 x j hr.out (.inl hge)
   obtain⟨y1,hy1⟩:∃y1,y1=j+1:=⟨_,rfl⟩
   have e1:(j:Int)+1=(y1:Int):=by omega
   have q4:decide ((y1:Int)<(n:Int))=false:=qF (by omega)
   have q5:decide (y1<n)=false:=qF (by omega)
   obtain rfl:R=j:=by rw[←hR.out,numTo_end (by rw[hx.out,List.getElem?_eq_none (by rw[hn.out];exact hge)];simp),hx.out]
   clear hy1
   go_wp2_with (first | (go_at_call 56;((with_reducible refine(SG.out _).mono ?_);rintro e w3 ⟨rfl,hb3⟩;obtain⟨r0,r1,r2,r3,f0,f1,f2,f3⟩:=hrm.out.below hb3 (by simp);have HB3:=Hd hb3;clear hb3)))
   exact bodyPost_ret (v:=.tuple #[.agg #[.int .i64 2,.string T,.int .i64 V,.int .i64 (a:Int)],.bool O]) (by simp[results,Tryz.results28,go_sem,r0,r1,r2,r3]) rfl ⟨rfl,below_four (hb0.out.trans (HB3.out.mono hb0.out.size)) (qL _) _ _ _ _⟩
def RefSigned:Prop:=∀t:List UInt8,t.length≤30000→t.head?≠some 45→∀W,Calls prog 56 #[.string (str t)] W fun e w'=>e=.returned (.tuple #[.int .i64 ((parseL t).1:Int),.bool (parseL t).2])∧Below W.heap.size W w'
theorem ref_one (SG:RefSigned):RefOne:=fun l a ha hl W=>by
 obtain⟨c,hc⟩:∃c,l[a]?=some c:=⟨l[a],List.getElem?_eq_getElem ha⟩
 have hix:∀h,(str l)[a]'h=c:=fun h=>str_at l hc h
 have ho:oneL (l.drop a)=none↔(tokAt l a).kind=0:=(tokAt_kind l a).symm
 cases h1:isLetter c with
 | true =>
  have ht:=tokAt_name hc h1
  have hN:=nameN_le (l.drop a)
  have hdl:(l.drop a).length=l.length-a:=List.length_drop
  have hx:runTo isName l a=a+nameN (l.drop a):=runTo_name l a
  have e:(str l).extract a (runTo isName l a)=str ((l.drop a).take (nameN (l.drop a))):=by rw[slice_str,hx];congr 2;omega
  have C:∀B,B=decide ((nameN (l.drop a):Int)≤16)→Calls prog 28 #[.string (str l),.int .i64 (a:Int)] W fun e w'=>OneRet (if wordL ((l.drop a).take (nameN (l.drop a)))=true then 3 else 1) 0 a (str ((l.drop a).take (nameN (l.drop a)))) B W e w':=fun B hB =>
   one_name l _ (Hd rfl) (by omega) (str_size l) a (by omega) c hix (Hd h1) _ (Hd rfl) (by have:=runTo_ge isName l a;omega) (by have:=runTo_le isName (ql ha);omega) _ e _ (Hd rfl) (nameN (l.drop a)) (by omega) _ _ (Hd rfl) (Hd rfl) B (Hd hB) W
  constructor
  ·intro hne
   have h16:nameN (l.drop a)≤16:=Nat.le_of_not_lt fun hh=>hne (ho.2 (by rw[ht,if_neg (by omega)]))
   rw[ht,if_pos h16]
   have:=C true (qT (by omega)).symm
   split
   ·rw[if_pos (by assumption)] at this;exact this
   ·rw[if_neg (by assumption)] at this;exact this
  ·intro hnone
   have h16:¬nameN (l.drop a)≤16:=fun hh=>by
    have:=ho.1 hnone
    rw[ht,if_pos hh] at this
    simp only at this
    split at this <;> omega
   exact(C false (qF (by omega)).symm).mono fun e w' h=>⟨_,_,_,_,h⟩
 | false =>
  cases h2:isDig c with
  | true =>
   have ht:=tokAt_num hc h1 h2
   have hdl:(l.drop a).length=l.length-a:=List.length_drop
   have hN:=numN_le (l.drop a)
   have e:(str l).extract a (numTo l a)=str ((l.drop a).take (numN (l.drop a))):=by rw[slice_str];congr 2;unfold numTo;omega
   have hlen:((l.drop a).take (numN (l.drop a))).length≤30000:=by rw[List.length_take];omega
   have hhd:((l.drop a).take (numN (l.drop a))).head?≠some 45:=by
    rw[drop_cons hc]
    have hp:=numN_pos (l:=l.drop (a+1)) h2
    cases hk:numN (c :: l.drop (a+1)) with
    | zero=>omega
    | succ k =>
     rw[List.take_succ_cons,List.head?_cons]
     intro hh
     cases hh
     revert h2
     decide
   have C:=one_num l _ (Hd rfl) (by omega) (str_size l) a (by omega) c hix (Hd h1) (Hd h2) _ (Hd rfl) _ (Hd rfl) (by unfold numTo;omega) (by unfold numTo;omega) _ e _ _ (Hd fun w=>SG _ hlen hhd w) W
   constructor
   ·intro hne
    have hp:(parseL ((l.drop a).take (numN (l.drop a)))).2=true:=by
     cases hq:(parseL ((l.drop a).take (numN (l.drop a)))).2 with
     | true=>rfl
     | false=>exact absurd (ho.2 (by rw[ht,if_neg (by rw[hq];simp)])) hne
    rw[ht,if_pos hp]
    rw[hp] at C
    exact C
   ·intro hnone
    have hp:(parseL ((l.drop a).take (numN (l.drop a)))).2=false:=by
     cases hq:(parseL ((l.drop a).take (numN (l.drop a)))).2 with
     | false=>rfl
     | true =>
      have:=ho.1 hnone
      rw[ht,if_pos hq] at this
      simp at this
    rw[hp] at C
    exact C.mono fun e w' h=>⟨_,_,_,_,h⟩
  | false =>
   have ht:=tokAt_sign hc h1 h2
   have C:=one_sign l _ (Hd rfl) (by omega) (str_size l) a (by omega) c hix (Hd h1) (Hd h2) _ (Hd rfl) W
   have hs:oneL (l.drop a)=(signOf (l.drop a)).map fun s=>(4,s.length,0):=by
    unfold oneL
    rw[drop_cons hc]
    simp only[h1,h2,Bool.false_eq_true,if_false]
   constructor
   ·intro hne
    cases hq:signOf (l.drop a) with
    | none=>exact absurd (by rw[hs,hq];rfl) hne
    | some s =>
     rw[hq] at C ht
     have htx:(l.drop a).take s.length=s:=prefix_take (signOf_mem hq).2
     have ht2:tokAt l a=⟨4,s,0,a⟩:=by rw[ht];show Tok.mk 4 ((l.drop a).take s.length) 0 a=_;rw[htx]
     rw[ht2]
     exact C.mono fun e w' h=>by
      rcases h with ⟨s',h3,h4⟩ | ⟨h3,_⟩
      ·cases h3;exact h4
      ·cases h3
   ·intro hnone
    cases hq:signOf (l.drop a) with
    | some s=>rw[hs,hq] at hnone;cases hnone
    | none =>
     rw[hq] at C
     exact C.mono fun e w' h=>by
      rcases h with ⟨s',h3,_⟩ | ⟨_,h4⟩
      ·cases h3
      ·exact⟨_,_,_,_,h4⟩
end Go.Proofs.YtlbhlncipajapaaGreatDoor.Lx
namespace Go.Proofs.YtlbhlncipajapaaGreatDoor.Lx
set_option maxRecDepth 100000
def step (s:Nat×Nat×Nat) (c:UInt8):Nat×Nat×Nat:=if c=46 then(s.1,s.2.1,s.2.2+1) else if s.2.2=0 then(s.1+1,s.2.1,s.2.2) else(s.1,s.2.1+1,s.2.2)
def st (l:List UInt8):Nat×Nat×Nat:=l.foldl step (0,0,0)
def okay (c:UInt8):Bool:=c ==46||isDig c
theorem st_snoc (l:List UInt8) (c:UInt8):st (l++[c])=step (st l) c:=by unfold st;rw[List.foldl_append];rfl
theorem st_le (l:List UInt8):(st l).1+(st l).2.1+(st l).2.2=l.length:=by
 suffices h:∀(l:List UInt8) (s:Nat×Nat×Nat),(l.foldl step s).1+(l.foldl step s).2.1+(l.foldl step s).2.2=s.1+s.2.1+s.2.2+l.length by
  have:=h l (0,0,0)
  simp only at this
  unfold st
  omega
 intro l
 induction l with
 | nil=>intro s;rfl
 | cons c l ih =>
  intro s
  rw[List.foldl_cons,ih,List.length_cons]
  unfold step
  split
  ·show s.1+s.2.1+(s.2.2+1)+l.length=_;omega
  ·split
   ·show s.1+1+s.2.1+s.2.2+l.length=_;omega
   ·show s.1+(s.2.1+1)+s.2.2+l.length=_;omega
theorem st_plain (l:List UInt8) (h:46 ∉ l) (a b:Nat):l.foldl step (a,b,0)=(a+l.length,b,0):=by
 induction l generalizing a with
 | nil=>rfl
 | cons c l ih =>
  simp only[List.mem_cons,not_or] at h
  rw[List.foldl_cons,show step (a,b,0) c=(a+1,b,0) by unfold step;rw[if_neg (Ne.symm h.1),if_pos rfl],ih h.2,List.length_cons]
  simp only[Prod.mk.injEq,and_true]
  omega
theorem st_behind (l:List UInt8) (a b d:Nat) (hd:1≤d) (h:(l.foldl step (a,b,d)).2.2=d):46 ∉ l∧l.foldl step (a,b,d)=(a,b+l.length,d):=by
 have mono:∀(l:List UInt8) (s:Nat×Nat×Nat),s.2.2≤(l.foldl step s).2.2:=by
  intro l
  induction l with
  | nil=>intro s;exact qL _
  | cons c l ih =>
   intro s
   rw[List.foldl_cons]
   refine Nat.le_trans ?_ (ih _)
   unfold step
   split
   ·exact Nat.le_succ _
   ·split <;> exact qL _
 induction l generalizing b with
 | nil=>exact⟨by simp,rfl⟩
 | cons c l ih =>
  rw[List.foldl_cons] at h ⊢
  by_cases hc:c=46
  ·subst hc
   have h1:=mono l (step (a,b,d) 46)
   have h2:(step (a,b,d) 46).2.2=d+1:=rfl
   omega
  ·have e:step (a,b,d) c=(a,b+1,d):=by unfold step;rw[if_neg hc,if_neg (by show ¬d=0;omega)]
   rw[e] at h ⊢
   obtain⟨h1,h2⟩:=ih (b+1) h
   refine⟨by simp only[List.mem_cons,not_or];exact⟨Ne.symm hc,h1⟩,?_⟩
   rw[h2,List.length_cons]
   simp only[Prod.mk.injEq,true_and,and_true]
   omega
def litR (l:List UInt8):Bool :=
 l.all okay&&(decide (1≤(st l).1)&&(decide ((st l).1≤10)&&(decide ((st l).2.2≤1)&&((!(decide ((st l).2.2=1))||(decide (1≤(st l).2.1)&&decide ((st l).2.1≤40)))&&(decide ((st l).1=1)||!(l.head? ==some 48))))))
theorem okay_dig {l:List UInt8} (h:l.all okay=true) (hp:46 ∉ l):l.all isDig=true:=List.all_eq_true.2 fun x hx=>by
 have h1:=List.all_eq_true.1 h x hx
 unfold okay at h1
 rw[Bool.or_eq_true] at h1
 rcases h1 with h1 | h1
 ·have:x=46:=by simpa using h1
  subst this
  exact absurd hx hp
 ·exact h1
end Go.Proofs.YtlbhlncipajapaaGreatDoor.Lx
namespace Go.Proofs.YtlbhlncipajapaaGreatDoor.Lx
open Go.RowKit
theorem st_take {l:List UInt8} {k:Nat} {c:UInt8} (h:l[k]?=some c):st (l.take (k+1))=step (st (l.take k)) c:=by rw[take_at h,st_snoc]
theorem not_okay {l:List UInt8} {k:Nat} {c:UInt8} (h:l[k]?=some c) (hc:okay c=false):litR l=false:=by
 have:l.all okay=false:=by
  rw[List.all_eq_false]
  exact⟨c,List.mem_of_getElem? h,by rw[hc];simp⟩
 unfold litR
 rw[this]
 rfl
theorem lit_core (l:List UInt8) (n:Nat) (hn:l.length=n) (hl:(n:Int)≤30000) (R:Bool) (hR:R=litR l) (w:World) :
  Calls prog 79 #[.string (str l)] w fun e w'=>e=.returned (.bool R)∧w'=w:=by
 have hs:=str_size l
 rw[hn] at hs
 have HN:=Hd hn
 have HR:=Hd hR
 clear hn hR
 go_enter Tryz.func79,Tryz.ntmps79
 go_wp2_with fail
 go_loop [6,3,4,5] (fun i a b d=>∃k A B D:Nat,k≤n∧Hid (st (l.take k)=(A,B,D))∧Hid ((l.take k).all okay=true)∧(A:Int)≤30000∧(B:Int)≤30000∧(D:Int)≤30000∧i=.int .i64 k∧a=.int .i64 A∧b=.int .i64 B∧d=.int .i64 D) (fun i _ _ _=>n-litLen i)
 case atStart=>exact⟨0,0,0,0,by omega,Hd rfl,Hd rfl,by omega,by omega,by omega,rfl,rfl,rfl,rfl⟩
 case round =>
  obtain⟨k,A,B,D,hk,hst,hok,hA,hB,hD,rfl,rfl,rfl,rfl⟩:=hrel
  rcases Nat.lt_or_ge k n with hlt | hge
  ·obtain⟨c,hc⟩:∃c,l[k]?=some c:=⟨l[k]'(by have:=HN.out;omega),List.getElem?_eq_getElem _⟩
   have hix:∀h,(str l)[k]'h=c:=fun h=>str_at l hc h
   have q3:decide ((k:Int)<(n:Int))=true:=qT (by omega)
   have ST:=Hd (st_take hc)
   have T:=Hd (take_at hc)
   have C:=Hd hc
   have hle:=Hd (st_le (l.take (k+1)))
   have hlen:Hid ((l.take (k+1)).length≤30000):=Hd (by rw[List.length_take];have:=HN.out;omega)
   have cl:(c.toNat:Int)≤255:=by have:=c.toNat_lt;omega
   clear hc
   by_cases c46:c=46
   ·subst c46
    have e46:((46:UInt8).toNat:Int)=46:=rfl
    have q4:decide (((46:UInt8).toNat:Int)=46)=true:=by decide
    go_wp2_with fail
    have hs2:st (l.take (k+1))=(A,B,D+1):=by rw[ST.out,hst.out];rfl
    have hb:=hle.out
    rw[hs2] at hb
    have hb':A+B+(D+1)=(l.take (k+1)).length:=hb
    have hl2:=hlen.out
    refine⟨⟨k+1,A,B,D+1,by omega,Hd hs2,Hd ?_,by omega,by omega,by omega,rfl,rfl,rfl,rfl⟩,by simp[litLen];omega⟩
    rw[T.out,List.all_append,hok.out];rfl
   ·have n46:¬(c.toNat:Int)=46:=fun e=>c46 (UInt8.toNat_inj.1 (by show c.toNat=46;omega))
    have q4:decide ((c.toNat:Int)=46)=false:=qF n46
    by_cases d1:(c.toNat:Int)<48
    ·have d1':decide ((c.toNat:Int)<48)=true:=qT d1
     go_wp2_with fail
     go_ret
     exact⟨by rw[HR.out,not_okay C.out (by unfold okay isDig;simp;exact⟨c46,by omega⟩)];rfl,rfl⟩
    ·have d1':decide ((c.toNat:Int)<48)=false:=qF d1
     by_cases d2:(57:Int)<(c.toNat:Int)
     ·have d2':decide ((57:Int)<(c.toNat:Int))=true:=qT d2
      go_wp2_with fail
      go_ret
      exact⟨by rw[HR.out,not_okay C.out (by unfold okay isDig;simp;exact⟨c46,by omega⟩)];rfl,rfl⟩
     ·have d2':decide ((57:Int)<(c.toNat:Int))=false:=qF d2
      have hok2:(l.take (k+1)).all okay=true:=by rw[T.out,List.all_append,hok.out];simp[okay];right;exact isDig_iff.2 (by omega)
      have HOK:=Hd hok2
      clear hok2
      by_cases d0:D=0
      ·subst d0
       go_wp2_with fail
       have hs2:st (l.take (k+1))=(A+1,B,0):=by rw[ST.out,hst.out];unfold step;rw[if_neg c46,if_pos rfl]
       have hb:=hle.out
       rw[hs2] at hb
       have hb':A+1+B+0=(l.take (k+1)).length:=hb
       have hl2:=hlen.out
       exact⟨⟨k+1,A+1,B,0,by omega,Hd hs2,HOK,by omega,by omega,by omega,rfl,rfl,rfl,rfl⟩,by simp[litLen];omega⟩
      ·have q5:decide ((D:Int)=0)=false:=qF (by omega)
       have q6:¬(D:Int)=0:=by omega
       go_wp2_with fail
       have hs2:st (l.take (k+1))=(A,B+1,D):=by rw[ST.out,hst.out];unfold step;rw[if_neg c46,if_neg d0]
       have hb:=hle.out
       rw[hs2] at hb
       have hb':A+(B+1)+D=(l.take (k+1)).length:=hb
       have hl2:=hlen.out
       exact⟨⟨k+1,A,B+1,D,by omega,Hd hs2,HOK,by omega,by omega,by omega,rfl,rfl,rfl,rfl⟩,by simp[litLen];omega⟩
  ·have q3:decide ((k:Int)<(n:Int))=false:=qF (by omega)
   have hst':st l=(A,B,D):=by have:=hst.out;rw[List.take_of_length_le (by rw[HN.out];exact hge)] at this;exact this
   have hok':l.all okay=true:=by have:=hok.out;rw[List.take_of_length_le (by rw[HN.out];exact hge)] at this;exact this
   have hR:R=(decide (1≤A)&&(decide (A≤10)&&(decide (D≤1)&&((!(decide (D=1))||(decide (1≤B)&&decide (B≤40)))&&(decide (A=1)||!(l.head? ==some 48)))))):=by
    rw[HR.out];unfold litR;rw[hst',hok',Bool.true_and]
   have hAn:A+B+D=n:=by have:=st_le l;rw[hst'] at this;have h2:A+B+D=l.length:=this;rw[h2,HN.out]
   clear HR hst hok hst' hok'
   have RE:=Hd hR
   clear hR
   by_cases t1:(A:Int)<1
   ·have u1:decide ((A:Int)<1)=true:=qT t1
    have hv:R=false:=by
     refine Bool.eq_false_iff.2 fun hT=>?_
     rw[RE.out] at hT
     simp only[Bool.and_eq_true,decide_eq_true_eq,Bool.or_eq_true,Bool.not_eq_true',decide_eq_false_iff_not] at hT
     omega
    subst hv
    go_wp2_with fail
    go_ret
    exact⟨rfl,rfl⟩
   ·have u1:decide ((A:Int)<1)=false:=qF t1
    by_cases t2:(10:Int)<(A:Int)
    ·have u2:decide ((10:Int)<(A:Int))=true:=qT t2
     have hv:R=false:=by
      refine Bool.eq_false_iff.2 fun hT=>?_
      rw[RE.out] at hT
      simp only[Bool.and_eq_true,decide_eq_true_eq,Bool.or_eq_true,Bool.not_eq_true',decide_eq_false_iff_not] at hT
      omega
     subst hv
     go_wp2_with fail
     go_ret
     exact⟨rfl,rfl⟩
    ·have u2:decide ((10:Int)<(A:Int))=false:=qF t2
     by_cases t3:(1:Int)<(D:Int)
     ·have u3:decide ((1:Int)<(D:Int))=true:=qT t3
      have hv:R=false:=by
       refine Bool.eq_false_iff.2 fun hT=>?_
       rw[RE.out] at hT
       simp only[Bool.and_eq_true,decide_eq_true_eq,Bool.or_eq_true,Bool.not_eq_true',decide_eq_false_iff_not] at hT
       omega
      subst hv
      go_wp2_with fail
      go_ret
      exact⟨rfl,rfl⟩
     ·have u3:decide ((1:Int)<(D:Int))=false:=qF t3
      by_cases t4:(D:Int)=1
      ·have u4:decide ((D:Int)=1)=true:=qT t4
       by_cases t5:(B:Int)<1
       ·have u5:decide ((B:Int)<1)=true:=qT t5
        have hv:R=false:=by
         refine Bool.eq_false_iff.2 fun hT=>?_
         rw[RE.out] at hT
         simp only[Bool.and_eq_true,decide_eq_true_eq,Bool.or_eq_true,Bool.not_eq_true',decide_eq_false_iff_not] at hT
         omega
        subst hv
        go_wp2_with fail
        go_ret
        exact⟨rfl,rfl⟩
       ·have u5:decide ((B:Int)<1)=false:=qF t5
        by_cases t6:(40:Int)<(B:Int)
        ·have u6:decide ((40:Int)<(B:Int))=true:=qT t6
         have hv:R=false:=by
          refine Bool.eq_false_iff.2 fun hT=>?_
          rw[RE.out] at hT
          simp only[Bool.and_eq_true,decide_eq_true_eq,Bool.or_eq_true,Bool.not_eq_true',decide_eq_false_iff_not] at hT
          omega
         subst hv
         go_wp2_with fail
         go_ret
         exact⟨rfl,rfl⟩
        ·have u6:decide ((40:Int)<(B:Int))=false:=qF t6
         by_cases t7:(A:Int)=1
         ·have u7:decide ((A:Int)=1)=true:=qT t7
          have hv:R=true:=by
           rw[RE.out]
           simp only[Bool.and_eq_true,decide_eq_true_eq,Bool.or_eq_true,Bool.not_eq_true',decide_eq_false_iff_not]
           exact⟨by omega,by omega,by omega,by omega,Or.inl (by omega)⟩
          subst hv
          go_wp2_with fail
          go_ret
          exact⟨rfl,rfl⟩
         ·have u7:decide ((A:Int)=1)=false:=qF t7
          have m7:((A:Int) ==1)=false:=beq_false_of_ne t7
          obtain⟨c,l',hl'⟩:∃c l',l=c :: l':=by
           cases l with
           | nil=>have:=HN.out;simp at this;omega
           | cons c l'=>exact⟨c,l',rfl⟩
          have hix:∀h,(str l)[0]'h=c:=fun h=>str_at l (by rw[hl'];rfl) h
          by_cases h48:c=48
          ·have HC:=Hd (show(l.head? ==some 48)=true by rw[hl',h48];rfl)
           clear hl'
           subst h48
           have hv:R=false:=by
            refine Bool.eq_false_iff.2 fun hT=>?_
            rw[RE.out,HC.out] at hT
            simp only[Bool.not_true,Bool.or_false,Bool.and_eq_true,decide_eq_true_eq] at hT
            omega
           subst hv
           go_wp2_with fail
           go_ret
           exact⟨rfl,rfl⟩
          ·have HC:=Hd (show(l.head? ==some 48)=false by rw[hl'];simpa using h48)
           have n48:¬(c.toNat:Int)=48:=fun e=>h48 (UInt8.toNat_inj.1 (by show c.toNat=48;omega))
           have m48:((c.toNat:Int) !=48)=true:=bne_iff_ne.2 n48
           clear hl'
           have hv:R=true:=by
            rw[RE.out,HC.out]
            simp only[Bool.not_false,Bool.or_true,Bool.and_true,Bool.and_eq_true,decide_eq_true_eq,Bool.or_eq_true,Bool.not_eq_true',decide_eq_false_iff_not]
            exact⟨by omega,by omega,by omega,by omega⟩
           subst hv
           go_wp2_with fail
           go_ret
           exact⟨rfl,rfl⟩
      ·have u4:decide ((D:Int)=1)=false:=qF t4
       by_cases t8:(A:Int)=1
       ·have u8:decide ((A:Int)=1)=true:=qT t8
        have hv:R=true:=by
         rw[RE.out]
         simp only[Bool.and_eq_true,decide_eq_true_eq,Bool.or_eq_true,Bool.not_eq_true',decide_eq_false_iff_not]
         exact⟨by omega,by omega,by omega,by omega,Or.inl (by omega)⟩
        subst hv
        go_wp2_with fail
        go_ret
        exact⟨rfl,rfl⟩
       ·have u8:decide ((A:Int)=1)=false:=qF t8
        have m8:((A:Int) ==1)=false:=beq_false_of_ne t8
        obtain⟨c,l',hl'⟩:∃c l',l=c :: l':=by
         cases l with
         | nil=>have:=HN.out;simp at this;omega
         | cons c l'=>exact⟨c,l',rfl⟩
        have hix:∀h,(str l)[0]'h=c:=fun h=>str_at l (by rw[hl'];rfl) h
        by_cases h48:c=48
        ·have HC:=Hd (show(l.head? ==some 48)=true by rw[hl',h48];rfl)
         clear hl'
         subst h48
         have hv:R=false:=by
          refine Bool.eq_false_iff.2 fun hT=>?_
          rw[RE.out,HC.out] at hT
          simp only[Bool.not_true,Bool.or_false,Bool.and_eq_true,decide_eq_true_eq] at hT
          omega
         subst hv
         go_wp2_with fail
         go_ret
         exact⟨rfl,rfl⟩
        ·have HC:=Hd (show(l.head? ==some 48)=false by rw[hl'];simpa using h48)
         have n48:¬(c.toNat:Int)=48:=fun e=>h48 (UInt8.toNat_inj.1 (by show c.toNat=48;omega))
         have m48:((c.toNat:Int) !=48)=true:=bne_iff_ne.2 n48
         clear hl'
         have hv:R=true:=by
          rw[RE.out,HC.out]
          simp only[Bool.not_false,Bool.or_true,Bool.and_true,Bool.and_eq_true,decide_eq_true_eq,Bool.or_eq_true,Bool.not_eq_true',decide_eq_false_iff_not]
          exact⟨by omega,by omega,by omega,by omega⟩
         subst hv
         go_wp2_with fail
         go_ret
         exact⟨rfl,rfl⟩
theorem lit_ref (l:List UInt8) (hl:l.length≤30000) (w:World) :
  Calls prog 79 #[.string (str l)] w fun e w'=>e=.returned (.bool (litR l))∧w'=w:=lit_core l _ rfl (by omega) _ rfl w
set_option maxRecDepth 100000
theorem litR_lit {l:List UInt8} (h:litR l=true):litL l=true:=by
 unfold litR at h
 simp only[Bool.and_eq_true,decide_eq_true_eq,Bool.or_eq_true,Bool.not_eq_true',decide_eq_false_iff_not] at h
 obtain⟨h1,h2,h3,h4,h5,h6⟩:=h
 rcases part_cases l with hp | ⟨a,b,rfl,hp⟩
 ·have hs:=st_plain l hp 0 0
  have e1:(st l).1=l.length:=by unfold st;rw[hs];show 0+l.length=_;omega
  rw[e1] at h2 h3 h6
  unfold litL digitsL
  rw[ahead_none l hp,okay_dig h1 hp,qT h2,qT h3,show pointed l=false by unfold pointed;simpa using hp]
  simp only[Bool.and_self,Bool.true_and,Bool.not_false,Bool.true_or,Bool.and_true,Bool.not_eq_true',Bool.and_eq_false_iff,decide_eq_false_iff_not]
  rcases h6 with h6 | h6
  ·left;omega
  ·right;exact h6
 ·have hs:=st_plain a hp 0 0
  have e0:st (a++46 :: b)=b.foldl step (a.length,0,1):=by
   unfold st
   rw[List.foldl_append,hs,List.foldl_cons,show step (0+a.length,0,0) 46=(a.length,0,1) by unfold step;rw[if_pos rfl];simp]
  have hmono:(b.foldl step (a.length,0,1)).2.2=1:=by
   have:=st_le (a++46 :: b)
   rw[e0] at this h4
   rcases Nat.eq_zero_or_pos (b.foldl step (a.length,0,1)).2.2 with h0 | h0
   ·exfalso
    have hge:∀(l:List UInt8) (s:Nat×Nat×Nat),s.2.2≤(l.foldl step s).2.2:=by
     intro l
     induction l with
     | nil=>intro s;exact qL _
     | cons c l ih =>
      intro s
      rw[List.foldl_cons]
      refine Nat.le_trans ?_ (ih _)
      unfold step
      split
      ·exact Nat.le_succ _
      ·split <;> exact qL _
    have:=hge b (a.length,0,1)
    rw[h0] at this
    exact absurd this (by show ¬1≤0;omega)
   ·omega
  obtain⟨hb,hbs⟩:=st_behind b a.length 0 1 (qL _) hmono
  rw[e0,hbs] at h2 h3 h5 h6
  have h2':1≤a.length:=h2
  have h3':a.length≤10:=h3
  have h5':1≤b.length∧b.length≤40:=by
   rcases h5 with h5 | h5
   ·exact absurd rfl h5
   ·obtain⟨p1,p2⟩:=h5
    have p1':1≤0+b.length:=p1
    have p2':0+b.length≤40:=p2
    omega
  rw[List.all_append,List.all_cons,Bool.and_eq_true,Bool.and_eq_true] at h1
  unfold litL digitsL
  rw[ahead_point a b hp,behind_point a b hp,okay_dig h1.1 hp,okay_dig h1.2.2 hb,qT h2',qT h3',qT h5'.1,qT h5'.2]
  simp only[Bool.and_self,Bool.true_and,Bool.or_true,Bool.and_true,Bool.not_eq_true',Bool.and_eq_false_iff,decide_eq_false_iff_not]
  rcases h6 with h6 | h6
  ·left
   have h6':a.length=1:=h6
   omega
  ·right
   cases a with
   | nil=>simp at h2'
   | cons c a=>exact h6
theorem st_tail (l:List UInt8) (h:46 ∉ l) (a b:Nat):l.foldl step (a,b,1)=(a,b+l.length,1):=by
 induction l generalizing b with
 | nil=>rfl
 | cons c l ih =>
  simp only[List.mem_cons,not_or] at h
  rw[List.foldl_cons,show step (a,b,1) c=(a,b+1,1) by unfold step;rw[if_neg (Ne.symm h.1),if_neg (by simp)],ih h.2,List.length_cons]
  simp only[Prod.mk.injEq,and_true,true_and]
  omega
theorem dig_okay {l:List UInt8} (h:l.all isDig=true):l.all okay=true∧46 ∉ l:=by
 refine⟨List.all_eq_true.2 fun x hx=>by unfold okay;rw[List.all_eq_true.1 h x hx];simp,fun hx=>?_⟩
 have:=List.all_eq_true.1 h 46 hx
 revert this
 decide
theorem lit_litR {l:List UInt8} (h:litL l=true):litR l=true:=by
 unfold litL digitsL at h
 simp only[Bool.and_eq_true,decide_eq_true_eq,Bool.or_eq_true,Bool.not_eq_true',Bool.and_eq_false_iff,decide_eq_false_iff_not] at h
 obtain⟨⟨h1,h2,h3⟩,h4,h5⟩:=h
 rcases part_cases l with hp | ⟨a,b,rfl,hp⟩
 ·rw[ahead_none l hp] at h1 h2 h3 h4
  have hs:=st_plain l hp 0 0
  have e1:st l=(l.length,0,0):=by unfold st;rw[hs];simp
  unfold litR
  rw[e1,(dig_okay h3).1]
  simp only[Bool.true_and,Bool.and_eq_true,decide_eq_true_eq,Bool.or_eq_true,Bool.not_eq_true',decide_eq_false_iff_not]
  refine⟨h1,h2,by omega,.inl (by omega),?_⟩
  rcases h4 with h4 | h4
  ·left;omega
  ·right;exact h4
 ·rw[ahead_point a b hp,behind_point a b hp] at *
  have hpt:pointed (a++46 :: b)=true:=by unfold pointed;simp
  rw[hpt] at h5
  have h5':1≤b.length∧b.length≤40∧b.all isDig=true:=by
   rcases h5 with h5 | h5
   ·cases h5
   ·exact h5
  obtain⟨h6,h7,h8⟩:=h5'
  have hs:=st_plain a hp 0 0
  have e0:st (a++46 :: b)=(a.length,b.length,1):=by
   unfold st
   rw[List.foldl_append,hs,List.foldl_cons,show step (0+a.length,0,0) 46=(a.length,0,1) by unfold step;rw[if_pos rfl];simp,st_tail b (dig_okay h8).2]
   simp
  unfold litR
  rw[e0,List.all_append,List.all_cons,(dig_okay h3).1,(dig_okay h8).1]
  have h46:okay 46=true:=rfl
  rw[h46]
  simp only[Bool.and_self,Bool.true_and,Bool.and_eq_true,decide_eq_true_eq,Bool.or_eq_true,Bool.not_eq_true',decide_eq_false_iff_not]
  refine⟨h1,h2,by omega,.inr ⟨h6,h7⟩,?_⟩
  rcases h4 with h4 | h4
  ·left;omega
  ·right
   cases a with
   | nil=>simp at h1
   | cons c a=>exact h4
theorem litR_litL (l:List UInt8):litR l=litL l:=by
 cases h:litL l with
 | true=>exact lit_litR h
 | false =>
  cases h2:litR l with
  | false=>rfl
  | true=>rw[litR_lit h2] at h;cases h
def RefSize:Prop:=∀t:List UInt8,litL t=true→∀W,Calls prog 80 #[.string (str t)] W fun e w'=>e=.returned (.tuple #[.int .u64 ((readL t).1:Int),.bool (!(readL t).2)])∧Below W.heap.size W w'
theorem signed_none (t:List UInt8) (n:Nat) (hs:(str t).size=n) (n0:0<n) (c:UInt8) (hix:∀h,(str t)[0]'h=c) (k2:((c.toNat:Int) ==45)=false) (w:World)
  (L:Hid (∀w,Calls prog 79 #[.string (str t)] w fun e w'=>e=.returned (.bool false)∧w'=w)) :
  Calls prog 56 #[.string (str t)] w fun e w'=>e=.returned (.tuple #[.int .i64 0,.bool false])∧Below w.heap.size w w':=by
 go_enter Tryz.func56,Tryz.ntmps56
 go_wp2_with (go_at_call 79;((with_reducible refine(L.out _).mono ?_);rintro e w' ⟨rfl,rfl⟩))
 go_ret2
 exact⟨rfl,qB _ _⟩
theorem signed_some (t:List UInt8) (n:Nat) (hs:(str t).size=n) (n0:0<n) (c:UInt8) (hix:∀h,(str t)[0]'h=c) (k2:((c.toNat:Int) ==45)=false) (w:World)
  (L:Hid (∀w,Calls prog 79 #[.string (str t)] w fun e w'=>e=.returned (.bool true)∧w'=w))
  (Z:Nat) (ov:Bool) (hz:ov=true∨(Z:Int)≤9223372036854775808) (S:Hid (∀w,Calls prog 80 #[.string (str t)] w fun e w'=>e=.returned (.tuple #[.int .u64 (Z:Int),.bool ov])∧Below w.heap.size w w')) :
  Calls prog 56 #[.string (str t)] w fun e w'=>e=.returned (.tuple #[.int .i64 (if ov=false∧Z≤9223372036854775807 then(Z:Int) else 0),.bool (decide (ov=false∧Z≤9223372036854775807))])∧Below w.heap.size w w':=by
 cases ov with
 | true =>
  rw[if_neg (by simp)]
  go_enter Tryz.func56,Tryz.ntmps56
  go_wp2_with (first | (go_at_call 79;((with_reducible refine(L.out _).mono ?_);rintro e w' ⟨rfl,rfl⟩)) | (go_at_call 80;((with_reducible refine(S.out _).mono ?_);rintro e w1 ⟨rfl,hb⟩;have HB:=Hd hb;clear hb)))
  go_ret2
  exact⟨by simp,HB.out⟩
 | false =>
  have hz2:(Z:Int)≤9223372036854775808:=by rcases hz with h | h;cases h;exact h
  clear hz
  by_cases hq:(Z:Int)≤9223372036854775807
  ·have q1:((Z:Int) ==9223372036854775808)=false:=beq_false_of_ne (by omega)
   have qn:¬(Z:Int)=9223372036854775808:=by omega
   rw[if_pos ⟨rfl,by omega⟩,qT (by exact⟨rfl,by omega⟩)]
   go_enter Tryz.func56,Tryz.ntmps56
   go_wp2_with (first | (go_at_call 79;((with_reducible refine(L.out _).mono ?_);rintro e w' ⟨rfl,rfl⟩)) | (go_at_call 80;((with_reducible refine(S.out _).mono ?_);rintro e w1 ⟨rfl,hb⟩;have HB:=Hd hb;clear hb)))
   go_ret2
   exact⟨rfl,HB.out⟩
  ·have hq2:(Z:Int)=9223372036854775808:=by omega
   have q1:((Z:Int) ==9223372036854775808)=true:=by rw[hq2];rfl
   rw[if_neg (by rintro⟨_,h⟩;omega),qF (by rintro⟨_,h⟩;omega)]
   clear hq
   go_enter Tryz.func56,Tryz.ntmps56
   go_wp2_with (first | (go_at_call 79;((with_reducible refine(L.out _).mono ?_);rintro e w' ⟨rfl,rfl⟩)) | (go_at_call 80;((with_reducible refine(S.out _).mono ?_);rintro e w1 ⟨rfl,hb⟩;have HB:=Hd hb;clear hb)))
   go_ret2
   exact⟨rfl,HB.out⟩
theorem signed_nil (w:World) (L:Hid (∀w,Calls prog 79 #[.string ⟨#[]⟩] w fun e w'=>e=.returned (.bool false)∧w'=w)) :
  Calls prog 56 #[.string ⟨#[]⟩] w fun e w'=>e=.returned (.tuple #[.int .i64 0,.bool false])∧Below w.heap.size w w':=by
 go_enter Tryz.func56,Tryz.ntmps56
 go_wp2_with (go_at_call 79;((with_reducible refine(L.out _).mono ?_);rintro e w' ⟨rfl,rfl⟩))
 go_ret2
 exact⟨rfl,qB _ _⟩
theorem parse_none {t:List UInt8} (h:litL t=false):parseL t=(0,false):=by
 have:readL t=(0,false):=by unfold readL;rw[if_neg (by rw[h];simp)]
 unfold parseL
 rw[this]
 simp
theorem ref_signed (SZ:RefSize):RefSigned:=fun t ht hh W=>by
 have L:Hid (∀w,Calls prog 79 #[.string (str t)] w fun e w'=>e=.returned (.bool (litL t))∧w'=w):=Hd fun w=>by rw[←litR_litL];exact lit_ref t ht w
 cases t with
 | nil=>rw[parse_none (by rfl)];exact signed_nil W L
 | cons c t =>
  have hc:c≠45:=fun e=>hh (by rw[e];rfl)
  have hix:∀h,(str (c :: t))[0]'h=c:=fun h=>str_at (c :: t) (j:=0) rfl h
  have k2:=(byte_ne hc 45 rfl).2.2.2.1
  cases hl:litL (c :: t) with
  | false =>
   rw[parse_none hl]
   rw[hl] at L
   exact signed_none (c :: t) _ (str_size _) (by simp) c hix k2 W L
  | true =>
   rw[hl] at L
   have S:=Hd (SZ (c :: t) hl)
   refine(signed_some (c :: t) _ (str_size _) (by simp) c hix k2 W L (readL (c :: t)).1 (!(readL (c :: t)).2) ?_ S).mono fun e w' ⟨he,hb⟩=>⟨?_,hb⟩
   ·cases h2:(readL (c :: t)).2 with
    | false=>left;rfl
    | true =>
     right
     unfold readL at h2 ⊢
     split at h2
     ·rename_i h3;rw[if_pos h3];simp only[decide_eq_true_eq] at h2;show((sizeL (c :: t):Nat):Int)≤_;omega
     ·cases h2
   ·rw[he]
    unfold parseL
    cases h2:(readL (c :: t)).2 with
    | false=>simp
    | true =>
     by_cases h3:(readL (c :: t)).1≤9223372036854775807
     ·simp[h3]
     ·simp[h3]
end Go.Proofs.YtlbhlncipajapaaGreatDoor.Lx
