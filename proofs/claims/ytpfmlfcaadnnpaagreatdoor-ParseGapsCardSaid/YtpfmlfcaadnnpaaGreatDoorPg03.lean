import Derived.Test.YtpfmlfcaadnnpaaGreatDoorPg02
import Derived.RangeFuncNested
import Derived.RangeFuncBound
import Derived.RangeFuncCalls
import Derived.RangeFuncLeaves
import Derived.Shelf.Abstract
import Derived.Shelf.RegionOpen
import Derived.OwnWalkIn
import Derived.TacticsInMore
import Derived.LoopNIn
import Derived.LoopIn
import Derived.RangeFuncBox
import Derived.Maps.AppendAt
set_option maxHeartbeats 16000000
set_option maxRecDepth 100000
open Go.Proofs.Tryz(prog)
namespace Go.Proofs.YtpfmlfcaadnnpaaGreatDoor.Lx
open Go.RowKit Go.Shelf
attribute [local go_sem] Oper.semAt_some
def rowOf (B:Nat) (W:World):Option Nat:=(W.cell? ⟨B,0,none⟩).bind Value.ownBlock
def Keep (B n₁:Nat) (X Y:World):Prop:=X.heap.size≤Y.heap.size ∧
 (∀k,k<X.heap.size→k≠B→rowOf B X≠some k→(k<n₁∨∃o,X.heap[k]?=some o∧o.isCells=true)→Y.heap[k]?=X.heap[k]?) ∧
 (∀k,rowOf B Y=some k→rowOf B X=some k∨(X.heap.size≤k∧k<Y.heap.size))
theorem Keep.trans {B n₁:Nat} {X Y Z:World} (h:Keep B n₁ X Y) (k:Keep B n₁ Y Z):Keep B n₁ X Z:=by
 refine⟨Nat.le_trans h.1 k.1,fun j hj hB hr hc=>?_,fun j hj=>?_⟩
 ·have e:=h.2.1 j hj hB hr hc
  refine(k.2.1 j (Nat.lt_of_lt_of_le hj h.1) hB (fun hh=>?_) ?_).trans e
  ·rcases h.2.2 j hh with h1 | h1
   ·exact hr h1
   ·omega
  ·rcases hc with h1 | ⟨o,h1,h2⟩
   ·exact .inl h1
   ·exact .inr ⟨o,e.trans h1,h2⟩
 ·rcases k.2.2 j hj with h1 | h1
  ·rcases h.2.2 j h1 with h2 | h2
   ·exact .inl h2
   ·exact .inr ⟨h2.1,Nat.lt_of_lt_of_le h2.2 k.1⟩
  ·exact .inr ⟨Nat.le_trans h.1 h1.1,h1.2⟩
def Held (B:Nat) (w W:World):Prop:=w.heap.size≤W.heap.size∧(∀k,k<w.heap.size→k≠B→W.heap[k]?=w.heap[k]?)∧(∀k,rowOf B W=some k→w.heap.size≤k∧k<W.heap.size)
theorem rowOf_same {B:Nat} {X Y:World} (h:Y.heap[B]?=X.heap[B]?):rowOf B Y=rowOf B X:=by unfold rowOf;rw[cell_same h]
theorem Held.below {B:Nat} {w X Y:World} (h:Held B w X) (hB:B<w.heap.size) (hb:Below X.heap.size X Y):Held B w Y:=by
 have hBX:=Nat.lt_of_lt_of_le hB h.1
 refine⟨Nat.le_trans h.1 hb.size,fun k hk hn=>(hb.block k (Nat.lt_of_lt_of_le hk h.1)).trans (h.2.1 k hk hn),fun k hk=>?_⟩
 rw[rowOf_same (hb.block B hBX)] at hk
 have:=h.2.2 k hk
 exact⟨this.1,Nat.lt_of_lt_of_le this.2 hb.size⟩
theorem Held.keep {B:Nat} {w X Y:World} (h:Held B w X) (hk:Keep B w.heap.size X Y):Held B w Y:=by
 refine⟨Nat.le_trans h.1 hk.1,fun k h1 hn=>(hk.2.1 k (Nat.lt_of_lt_of_le h1 h.1) hn (fun hh=>?_) (.inl h1)).trans (h.2.1 k h1 hn),fun k h1=>?_⟩
 ·have:=(h.2.2 k hh).1;omega
 ·rcases hk.2.2 k h1 with h2 | h2
  ·have:=h.2.2 k h2;exact⟨this.1,Nat.lt_of_lt_of_le this.2 hk.1⟩
  ·exact⟨Nat.le_trans h.1 h2.1,h2.2⟩
theorem Below.to_grown {w w':World} (h:Below w.heap.size w w'):w.grownBy w' none:=⟨h.os,h.tape,h.output,h.size,fun k hk _=>h.block k hk⟩
theorem Held.box {B:Nat} {w X Y:World} (h:Held B w X) (hB:B<w.heap.size) (cs:Array Value) (T:TypeId) (hk:Keep B w.heap.size (X.alloc (.cells cs T)) Y):Y.heap[X.heap.size]?=some (.cells cs T):=by
 have hb:Below X.heap.size X (X.alloc (.cells cs T)):=(qB _ _).alloc (qL _) _
 have hBX:=Nat.lt_of_lt_of_le hB h.1
 refine(hk.2.1 X.heap.size (by simp) (by omega) (fun hh=>?_) (.inr ⟨_,World.alloc_heap_new X _,rfl⟩)).trans (World.alloc_heap_new X _)
 rw[rowOf_same (hb.block B hBX)] at hh
 have:=(h.2.2 _ hh).2
 omega
def endT (n:Nat):Tok:=⟨5,[],0,n⟩
def handed (l:List UInt8) (ts:List Tok) (r:Option Nat):List Tok:=ts++[match r with | none=>endT l.length | some f=>tokAt l f]
def Src (g A R:Nat) (l:List UInt8) (b:Nat) (v1 v2 v3 v4 v5:Value) (w:World):Prop :=
 g≤A∧A<w.heap.size∧g≤R∧R<w.heap.size∧w.cell? ⟨A,0,none⟩=some (.string (str l))∧ReadAt w R (.string (str l)) (.map (some b)) v1 v2 v3 v4 v5∧ReaderFrom g w b v1 v2 v3 v4 v5∧Signs w
theorem ReadAt.same {w w':World} {g:Nat} {s m v1 v2 v3 v4 v5:Value} (h:ReadAt w g s m v1 v2 v3 v4 v5) (hb:w'.heap[g]?=w.heap[g]?):ReadAt w' g s m v1 v2 v3 v4 v5 :=
 ⟨(cell_same hb 0).trans h.1,(cell_same hb 1).trans h.2.1,(cell_same hb 2).trans h.2.2.1,(cell_same hb 3).trans h.2.2.2.1,(cell_same hb 4).trans h.2.2.2.2.1,(cell_same hb 5).trans h.2.2.2.2.2.1,(cell_same hb 6).trans h.2.2.2.2.2.2⟩
theorem Src.held {g A R B:Nat} {l:List UInt8} {b:Nat} {v1 v2 v3 v4 v5:Value} {w W:World} (h:Src g A R l b v1 v2 v3 v4 v5 w) (hg:B<g) (hs:B≠0) (hh:Held B w W):Src g A R l b v1 v2 v3 v4 v5 W:=by
 obtain⟨h1,h2,h3,h4,h5,h6,h7,t,fr,h8⟩:=h
 have hS:=(Array.getElem?_eq_some_iff.1 h8).1
 exact⟨h1,Nat.lt_of_lt_of_le h2 hh.1,h3,Nat.lt_of_lt_of_le h4 hh.1,(cell_same (hh.2.1 A h2 (by omega)) 0).trans h5,h6.same (hh.2.1 R h4 (by omega)),h7.kept (fun k hk hl=>hh.2.1 k hl (by omega)) hh.1,
  t,fr,(hh.2.1 _ hS (Ne.symm hs)).trans h8⟩
theorem gives_reader {l:List UInt8} {w w':World} {e:Ending} (h:GivesReader l w e w'):∃b k1 l1 k2 l2 k3 l3 k4 l4 k5 l5,
  e=.returned (.agg #[.string (str l),.map (some b),.func (.func k1) #[] l1,.func (.func k2) #[] l2,.func (.func k3) #[] l3,.func (.func k4) #[] l4,.func (.func k5) #[] l5]) ∧
  ReaderFrom (w.heap.size+1) w' b (.func (.func k1) #[] l1) (.func (.func k2) #[] l2) (.func (.func k3) #[] l3) (.func (.func k4) #[] l4) (.func (.func k5) #[] l5)∧Below w.heap.size w w':=by
 obtain⟨b,v1,v2,v3,v4,v5,he,hr,hb⟩:=h
 obtain⟨h0,hw,⟨k1,l1,rfl,r1⟩,⟨k2,l2,rfl,r2⟩,⟨k3,l3,rfl,r3⟩,⟨k4,l4,rfl,r4⟩,⟨k5,l5,rfl,r5⟩⟩:=hr
 exact⟨b,k1,l1,k2,l2,k3,l3,k4,l4,k5,l5,he,⟨h0,hw,⟨k1,l1,rfl,r1⟩,⟨k2,l2,rfl,r2⟩,⟨k3,l3,rfl,r3⟩,⟨k4,l4,rfl,r4⟩,⟨k5,l5,rfl,r5⟩⟩,hb⟩
def GivesTokens (l:List UInt8) (w:World) (e:Ending) (w':World):Prop :=
 ∃A R b v1 v2 v3 v4 v5,e=.returned (.func (.func 82) #[] #[.pointer (some ⟨R,0,none⟩),.pointer (some ⟨A,0,none⟩)])∧Src w.heap.size A R l b v1 v2 v3 v4 v5 w'∧Below w.heap.size w w'
theorem tokens_any (l:List UInt8) (w:World) (hS:Signs w):Calls prog 58 #[.string (str l)] w fun e w'=>GivesTokens l w e w':=by
 have HS:=Hd hS
 clear hS
 have hb0:=Hd ((qB w.heap.size w).alloc (qL _) (.cells #[.string (str l)] 9))
 go_enter Tryz.func58,Tryz.ntmps58
 go_wp2_with (go_at_call 81;((with_reducible refine(reader_any l _).mono ?_);rintro e w1 hgr;obtain⟨b,k1,l1,k2,l2,k3,l3,k4,l4,k5,l5,rfl,hr,hb⟩:=gives_reader hgr;clear hgr;have HR:=Hd hr;have HB:=Hd hb;clear hr hb))
 go_ret
 have hsz:=HB.out.size
 simp only[World.size_alloc] at hsz
 have hba:Below w1.heap.size w1 (w1.alloc (.cells #[.string (str l),.map (some b),.func (.func k1) #[] l1,.func (.func k2) #[] l2,.func (.func k3) #[] l3,.func (.func k4) #[] l4,.func (.func k5) #[] l5] 118)):=(qB _ _).alloc (qL _) _
 have hbw:=hb0.out.trans (HB.out.mono hb0.out.size)
 refine⟨_,_,_,_,_,_,_,_,rfl,⟨qL _,by simp;omega,?_,by simp,?_,readAt_new w1 _ _ _ _ _ _ _ _,?_,?_⟩,hbw.alloc hbw.size _⟩
 ·omega
 ·exact(hba.cell (p:=⟨w.heap.size,0,none⟩) (by show w.heap.size<w1.heap.size;omega)).trans ((HB.out.cell (p:=⟨w.heap.size,0,none⟩) (by simp)).trans (World.cell?_alloc_new w _ _ _))
 ·have h:=HR.out
  rw[World.size_alloc] at h
  exact ReaderFrom.kept (⟨by have:=h.1;omega,h.2.1,h.2.2.1.low (by omega),h.2.2.2.1.low (by omega),h.2.2.2.2.1.low (by omega),h.2.2.2.2.2.1.low (by omega),h.2.2.2.2.2.2.low (by omega)⟩:ReaderFrom w.heap.size w1 b (.func (.func k1) #[] l1) (.func (.func k2) #[] l2) (.func (.func k3) #[] l3) (.func (.func k4) #[] l4) (.func (.func k5) #[] l5)) (fun k _ hk=>hba.block k hk) hba.size
 ·exact(HS.out.below hbw).below hba
theorem iter_core (F:Fence) (n:Nat) (hF:F=Fence.wide) (hn:1≤n) (l:List UInt8) (m:Nat) (hm:Hid (l.length=m)) (ml:(m:Int)≤30000) (hs:(str l).size=m) (B g A R b:Nat) (v1 v2 v3 v4 v5:Value) (w:World)
  (hB:Hid (B<g)) (hBs:Hid (B≠0)) (hBw:Hid (B<w.heap.size)) (hsrc:Hid (Src g A R l b v1 v2 v3 v4 v5 w)) (ts0:List Tok) (r:Option Nat) (ht0:Hid (lexT l ts0 r)) (lp:Nat) (J Jx:List Tok→World→Prop)
  (W:World) (hW:Hid (Held B w W)) (hJ:Hid (∀s X Y,J s X→X.grownBy Y none→J s Y))
  (hY:Hid (∀pre x W1,J pre W1→pre.length<(handed l ts0 r).length→YieldAt F (n-1) prog lp #[tokV x] W1 fun e W' =>
   (e=.returned (.bool true)∧J (pre++[x]) W'∧Keep B w.heap.size W1 W')∨(e=.returned (.bool false)∧Jx (pre++[x]) W')))
  (h0:Hid (J [] W)) :
  CallsIn F n prog 82 #[.func (.yield lp) #[] #[],.pointer (some ⟨R,0,none⟩),.pointer (some ⟨A,0,none⟩)] W fun e W'=>(∃v,e=.returned v) ∧
   ((∃ys,ys=handed l ts0 r∧J ys W')∨(∃pre,pre <+: handed l ts0 r∧Jx pre W')):=by
 subst hF
 have hW0:=Hd (hsrc.out.held hB.out hBs.out hW.out)
 obtain⟨_,_,_,_,cA,⟨c0,c1,c2,c3,c4,c5,c6⟩,_,_⟩:=hW0.out
 have hbs:=hW0.out.2.2.2.2.2.2.1.at_
 have G0:Hid (Calls prog 83 #[.agg #[.string (str l),.map (some b),v1,v2,v3,v4,v5],.int .i64 0] W fun e w'=>NumPost (gapTo false l 0) W e w') :=
  Hd (gaps_any l (by have:=hm.out;omega) (.map (some b)) v1 v2 v3 v4 v5 0 (Nat.zero_le _) W hbs.2.1 hbs.2.2.1)
 have g0l:=Hd (gapTo_le false (Nat.zero_le l.length))
 have ht1:Hid (Toks l (gapTo false l 0) ts0 r):=ht0
 obtain⟨a0,ha0⟩:∃a0,a0=gapTo false l 0:=⟨_,rfl⟩
 rw[←ha0] at G0 g0l ht1
 clear hbs ha0
 refine callsIn_of_wp Tryz.func82 rfl trivial ?_ rfl
 simp only[Tryz.ntmps82,List.size_toArray,List.length_cons,List.length_nil,Nat.reduceAdd,Nat.reduceSub,Array.replicate_succ,Array.replicate_zero,List.push_toArray,List.append_toArray,List.nil_append,List.cons_append]
 gi_wp2_with (refine⟨trivial,?_⟩;gi_at_call 83;((with_reducible refine(callsIn_wide.2 G0.out).mono ?_);rintro e w1 ⟨rfl,hb1⟩;have HB1:=Hd hb1;clear hb1))
 have hw1:=Hd (hW.out.below hBw.out HB1.out)
 have hJ1:=Hd (hJ.out _ _ _ h0.out (Below.to_grown HB1.out))
 gi_loopw [4] (fun i wr=>∃(j:Nat) (pre ts:List Tok),i=.int .i64 j∧Hid (j≤m)∧Hid (Toks l j ts r)∧Hid (handed l ts0 r=pre++handed l ts r)∧Hid (J pre wr)∧Hid (Held B w wr)) (fun i _=>m-litLen i)
 case atStart=>exact⟨a0,[],ts0,rfl,Hd (by rw[←hm.out];exact g0l.out),ht1,Hd rfl,hJ1,hw1⟩
 case round =>
  obtain⟨j,pre,ts,rfl,hj,htk,hpre,hJp,hH⟩:=hrel
  have hSr:=Hd (hsrc.out.held hB.out hBs.out hH.out)
  obtain⟨_,_,_,_,dA,⟨d0,d1,d2,d3,d4,d5,d6⟩,_,_⟩:=hSr.out
  have jl:=hj.out
  rcases Nat.lt_or_ge j m with hlt | hge
  ·have q3:decide ((j:Int)<(m:Int))=true:=qT (by omega)
   have TK:=Hd (token_any l (by have:=hm.out;omega) b v1 v2 v3 v4 v5 j (by rw[hm.out];exact hlt) wr hSr.out.2.2.2.2.2.2.1.at_ hSr.out.2.2.2.2.2.2.2)
   obtain⟨t,hte⟩:∃t,t=tokAt l j:=⟨_,rfl⟩
   rw[←hte] at TK
   have HT:=Hd hte
   clear hte
   have hmem:Hid (∃us,handed l ts0 r=pre++t :: us):=Hd (by
    rw[hpre.out]
    rcases htk.out with hh | ⟨hh,h1⟩ | ⟨hh,h1,h2⟩
    ·have:=hm.out;omega
    ·exact⟨[],by unfold handed;rw[HT.out];rfl⟩
    ·exact⟨_,by unfold handed;rw[HT.out];rfl⟩)
   have hkind:Hid ((t.kind=0∧ts=[]∧r=some j)∨(t.kind≠0∧∃us,ts=t :: us∧Toks l (gapTo false l (j+t.text.length)) us r∧j+t.text.length≤l.length∧1≤t.text.length)):=Hd (by
    rcases htk.out with hh | ⟨hh,h1⟩ | ⟨hh,h1,h2⟩
    ·have:=hm.out;omega
    ·exact .inl ⟨by rw[HT.out];exact(tokAt_kind l j).2 h1,rfl,rfl⟩
    ·have h3:=tokAt_len h1
     rw[HT.out]
     exact .inr ⟨fun h=>h1 ((tokAt_kind l j).1 h),_,rfl,h2,h3.2,h3.1⟩)
   clear HT
   obtain⟨kk,tx,vv,aa⟩:=t
   have TK':Hid (Calls prog 84 #[.agg #[.string (str l),.map (some b),v1,v2,v3,v4,v5],.int .i64 (j:Int)] wr fun e w'=>TokRet (kk:Int) vv (aa:Int) (str tx) wr e w'):=TK
   clear TK
   obtain⟨us,hus⟩:=hmem.out
   have HU:=Hd hus
   clear hus
   rcases hkind.out with ⟨hk0,hts,hr⟩ | ⟨hk0,us2,hts,htk2,hle,hl1⟩
   ·have hk0':kk=0:=hk0
    subst hk0'
    have hfull:=Hd (show handed l ts0 r=pre++[⟨0,tx,vv,aa⟩] by
     have h:=HU.out
     rw[hpre.out,hts] at h
     have h2:=congrArg List.length h
     unfold handed at h2
     simp at h2
     obtain rfl:us=[]:=by cases us with | nil=>rfl | cons _ _=>simp at h2
     exact HU.out)
    clear hts hr hk0
    gi_wp2_with (refine⟨trivial,?_⟩;gi_at_call 84;((with_reducible refine(callsIn_wide.2 TK'.out).mono ?_);rintro e w2 ⟨rfl,hb2⟩;have HB2:=Hd hb2;clear hb2;have hH2:=Hd (hH.out.below hBw.out HB2.out);obtain⟨fn,tmps,assign,body,hy,hR⟩:=hY.out pre ⟨0,tx,vv,aa⟩ (w2.alloc (.cells #[.int .i64 0,.string (str tx),.int .i64 vv,.int .i64 (aa:Int)] 43)) (hJ.out _ _ _ (hJ.out _ _ _ hJp.out (Below.to_grown HB2.out)) (World.grownBy_alloc _ _ _)) (by rw[hfull.out];simp);have hy':(Instr.yield lp #[.agg #[.int .i64 0,.string (str tx),.int .i64 vv,.int .i64 (aa:Int)]]).run prog (w2.alloc (.cells #[.int .i64 0,.string (str tx),.int .i64 vv,.int .i64 (aa:Int)] 43))=.ok (.round lp fn tmps assign body) (w2.alloc (.cells #[.int .i64 0,.string (str tx),.int .i64 vv,.int .i64 (aa:Int)] 43)):=hy;have HR:=Hd hR;clear hy hR))
    refine HR.out.mono ?_
    rintro e W3 (⟨rfl,hJ3,hk3⟩ | ⟨rfl,hJx3⟩)
    ·have hbx:=hH2.out.box hBw.out _ _ hk3
     have x0:W3.cell? ⟨w2.heap.size,0,none⟩=some (.int .i64 0):=by simp[World.cell?,hbx]
     gi_wp2
     refine bodyPost_ret (results_none rfl _ _ _) rfl ?_
     exact⟨⟨_,rfl⟩,.inl ⟨_,rfl,by rw[hfull.out];exact hJ3⟩⟩
    ·gi_wp2
     refine bodyPost_ret (results_none rfl _ _ _) rfl ?_
     exact⟨⟨_,rfl⟩,.inr ⟨_,⟨[],by rw[hfull.out];simp⟩,hJx3⟩⟩
   ·have hkn:¬(kk:Int)=0:=fun e=>hk0 (by show kk=0;omega)
    have hkb:((kk:Int) ==0)=false:=beq_false_of_ne hkn
    have htx:Hid (tx.length=tx.length):=Hd rfl
    obtain⟨q,hq⟩:∃q,q=tx.length:=⟨_,rfl⟩
    have hqs:(str tx).size=q:=by rw[str_size,hq]
    obtain⟨y,hy0⟩:∃y,y=j+q:=⟨_,rfl⟩
    have e1:(j:Int)+(q:Int)=(y:Int):=by omega
    have hle':y≤l.length:=by rw[hy0,hq];exact hle
    have htk3:=Hd (show Toks l (gapTo false l y) us2 r by rw[hy0,hq];exact htk2)
    have hjy:=Hd (show j<y by rw[hy0,hq];have:1≤tx.length:=hl1;omega)
    have hgy:=Hd (gapTo_ge false l y)
    have hgy2:=Hd (gapTo_le false hle')
    have hyl:=Hd hle'
    have ym:(y:Int)≤(m:Int):=by have:=hm.out;omega
    have hfull:=Hd (show handed l ts0 r=(pre++[⟨kk,tx,vv,aa⟩])++handed l us2 r by rw[hpre.out,hts];unfold handed;simp)
    clear hts htk2 hk0 hle hl1 hq hy0 hle' hkn
    gi_wp2_with (first | (refine⟨trivial,?_⟩;gi_at_call 84;((with_reducible refine(callsIn_wide.2 TK'.out).mono ?_);rintro e w2 ⟨rfl,hb2⟩;have HB2:=Hd hb2;clear hb2;have hH2:=Hd (hH.out.below hBw.out HB2.out);obtain⟨fn,tmps,assign,body,hy,hR⟩:=hY.out pre ⟨kk,tx,vv,aa⟩ (w2.alloc (.cells #[.int .i64 (kk:Int),.string (str tx),.int .i64 vv,.int .i64 (aa:Int)] 43)) (hJ.out _ _ _ (hJ.out _ _ _ hJp.out (Below.to_grown HB2.out)) (World.grownBy_alloc _ _ _)) (by rw[hfull.out];simp only[List.length_append,List.length_singleton];omega);have hy':(Instr.yield lp #[.agg #[.int .i64 (kk:Int),.string (str tx),.int .i64 vv,.int .i64 (aa:Int)]]).run prog (w2.alloc (.cells #[.int .i64 (kk:Int),.string (str tx),.int .i64 vv,.int .i64 (aa:Int)] 43))=.ok (.round lp fn tmps assign body) (w2.alloc (.cells #[.int .i64 (kk:Int),.string (str tx),.int .i64 vv,.int .i64 (aa:Int)] 43)):=hy;have HR:=Hd hR;clear hy hR)))
    refine HR.out.mono ?_
    rintro e W3 (⟨rfl,hJ3,hk3⟩ | ⟨rfl,hJx3⟩)
    ·have hbx:=hH2.out.box hBw.out _ _ hk3
     have x0:W3.cell? ⟨w2.heap.size,0,none⟩=some (.int .i64 (kk:Int)):=by simp[World.cell?,hbx]
     have x1:W3.cell? ⟨w2.heap.size,1,none⟩=some (.string (str tx)):=by simp[World.cell?,hbx]
     have hH3:=Hd ((hH2.out.below hBw.out ((qB _ _).alloc (qL _) _)).keep hk3)
     have hS3:=Hd (hsrc.out.held hB.out hBs.out hH3.out)
     obtain⟨_,_,_,_,eA,⟨e0,e1',e2,e3,e4,e5,e6⟩,_,_⟩:=hS3.out
     have hrd:=hS3.out.2.2.2.2.2.2.1.at_
     have G3:=Hd (gaps_any l (by have:=hm.out;omega) (.map (some b)) v1 v2 v3 v4 v5 y hyl.out W3 hrd.2.1 hrd.2.2.1)
     have HJ3:=Hd hJ3
     clear hrd hbx hk3 hJ3
     gi_wp2_with (refine⟨trivial,?_⟩;gi_at_call 83;((with_reducible refine(callsIn_wide.2 G3.out).mono ?_);rintro e w4 ⟨rfl,hb4⟩;have HB4:=Hd hb4;clear hb4))
     go_roundw
     case rel=>exact⟨gapTo false l y,_,us2,rfl,Hd (by rw[←hm.out];exact hgy2.out),htk3,hfull,Hd (hJ.out _ _ _ HJ3.out (Below.to_grown HB4.out)),Hd (hH3.out.below hBw.out HB4.out)⟩
     case measure=>have:=hgy.out;have:=hjy.out;simp[litLen];omega
    ·gi_wp2
     refine bodyPost_ret (results_none rfl _ _ _) rfl ?_
     exact⟨⟨_,rfl⟩,.inr ⟨_,⟨handed l us2 r,by rw[hfull.out]⟩,hJx3⟩⟩
  ·have q3:decide ((j:Int)<(m:Int))=false:=qF (by omega)
   obtain rfl:j=m:=by omega
   obtain⟨rfl,rfl⟩:ts=[]∧r=none:=by
    rcases htk.out with hh | ⟨hh,h1⟩ | ⟨hh,h1,h2⟩
    ·exact⟨rfl,rfl⟩
    ·have:=hm.out;omega
    ·have:=hm.out;omega
   have hfull:=Hd (show handed l ts0 none=pre++[endT j] by rw[hpre.out];unfold handed;rw[hm.out];rfl)
   obtain⟨fn,tmps,assign,body,hy,hR⟩:=hY.out pre (endT j) wr hJp.out (by rw[hfull.out];simp)
   have hy':(Instr.yield lp #[.agg #[.int .i64 5,.string ⟨#[]⟩,.int .i64 0,.int .i64 (j:Int)]]).run prog wr=.ok (.round lp fn tmps assign body) wr:=hy
   have HR:=Hd hR
   clear hy hR
   gi_wp2
   refine HR.out.mono ?_
   rintro e W3 (⟨rfl,hJ3,hk3⟩ | ⟨rfl,hJx3⟩)
   ·gi_wp2
    go_end0
    exact⟨⟨_,rfl⟩,.inl ⟨_,rfl,by rw[hfull.out];exact hJ3⟩⟩
   ·gi_wp2
    go_end0
    exact⟨⟨_,rfl⟩,.inr ⟨_,⟨[],by rw[hfull.out];simp⟩,hJx3⟩⟩
theorem iter_stops (n:Nat) (hn:1≤n) (l:List UInt8) (nl:l.length≤30000) (B g A R b:Nat) (v1 v2 v3 v4 v5:Value) (w:World) (hB:B<g) (hBs:B≠0) (hBw:B<w.heap.size) (hrow:rowOf B w=none)
  (hsrc:Src g A R l b v1 v2 v3 v4 v5 w) (ts:List Tok) (r:Option Nat) (ht:lexT l ts r) :
  SeqStopsK Fence.wide n prog 82 #[.pointer (some ⟨R,0,none⟩),.pointer (some ⟨A,0,none⟩)] (fun t:Tok=>#[tokV t]) (Keep B w.heap.size) (fun ys=>ys=handed l ts r) (fun pre=>pre <+: handed l ts r) (handed l ts r).length w :=
 fun lp J Jx W hW hJ _ hY h0=>iter_core Fence.wide n rfl hn l _ (Hd rfl) (by omega) (str_size l) B g A R b v1 v2 v3 v4 v5 w (Hd hB) (Hd hBs) (Hd hBw) (Hd hsrc) ts r (Hd ht) lp J Jx W
  (Hd ⟨hW.size,fun k hk _=>hW.block k hk,fun k hk=>by rw[rowOf_same (hW.block B hBw),hrow] at hk;cases hk⟩) (Hd fun s X Y h1 h2=>hJ s X Y none h1 h2 (fun r e=>by cases e)) (Hd hY) (Hd h0)
end Go.Proofs.YtpfmlfcaadnnpaaGreatDoor.Lx
namespace Go.Proofs.YtpfmlfcaadnnpaaGreatDoor.Lx
open Go.RowKit Go.Shelf
attribute [local go_sem] Oper.semAt_some
theorem toks_fault {l:List UInt8} {a f:Nat} {ts:List Tok} (h:Toks l a ts (some f)):oneL (l.drop f)=none:=by
 generalize hr:some f=r at h
 induction h with
 | fin=>cases hr
 | bad h h1=>cases hr;exact h1
 | tok h h1 h2 ih=>exact ih hr
theorem toks_kinds {l:List UInt8} {a:Nat} {ts:List Tok} {r:Option Nat} (h:Toks l a ts r):∀t ∈ ts,t.kind≠0:=by
 induction h with
 | fin=>intro t ht;simp at ht
 | bad=>intro t ht;simp at ht
 | @tok a ts r h h1 h2 ih =>
  intro t ht
  rcases List.mem_cons.1 ht with rfl | ht
  ·exact fun hk=>h1 ((tokAt_kind l a).1 hk)
  ·exact ih t ht
def tokCells (ts:List Tok):List Value:=ts.flatMap fun t=>[.int .i64 (t.kind:Int),.string (str t.text),.int .i64 t.v,.int .i64 (t.at_:Int)]
theorem tokCells_snoc (ts:List Tok) (t:Tok):tokCells (ts++[t])=tokCells ts++[.int .i64 (t.kind:Int),.string (str t.text),.int .i64 t.v,.int .i64 (t.at_:Int)]:=by unfold tokCells;rw[List.flatMap_append];simp
theorem tok_info:(prog.info? 43).map (fun i=>(i.zero,i.size,i.bytes))=some (some (.agg #[.int .i64 0,.string ⟨#[]⟩,.int .i64 0,.int .i64 0]),4,40):=by kernel_rfl
theorem row_after {W:World} {base:Nat} {i:TypeInfo} {z:Value} {ty:TypeId} (h2:prog.info? 43=some i) (h3:i.zero=some z) (h4:i.size=4) (h5:i.bytes=40)
  (v:Value) (k:Nat) (xs:List Value) (hown:W.ownsRow base 43 4 v k xs) (ad:Addr) (news:List Value) (hn:news.length=1*4)
  (hc:∀j u,news[j]?=some u→W.cell? (ad.add j)=some u) (h1c:∀u ∈ news,u.oneCell'=true) (hk:k≤40000) (v':Value) (w':World)
  (hrun:(Builtin.append_ #[39,39] ty #[v,.slice (some ad) 1 1]).run prog W=.ok v' w'):v'.ownBlock=v.ownBlock∨v'.ownBlock=some W.heap.size:=by
 rcases hown.2 with ⟨rfl,rfl⟩ | ⟨g,cap,cur,rfl,hbg,hg,hnc,hcm,hcs,htake⟩
 ·have hr:=run_append_nil (P:=prog) W 39 ty 43 i z Tryz.underlying39 h2 h3 ad 1 1 news (by rw[h4];exact hn) hc (by omega) (by omega) (by rw[h5];omega)
  rw[hr] at hrun
  cases hrun
  exact .inr rfl
 ·by_cases hroom:k+1≤cap
  ·have hr:=run_append_room (P:=prog) W 39 ty 43 i Tryz.underlying39 h2 g k cap cur hg ad 1 1 news (by rw[h4];exact hn) hc h1c hroom (by rw[h4,hcs];omega)
   rw[hr] at hrun
   cases hrun
   exact .inl rfl
  ·have holds:∀j u,xs[j]?=some u→W.cell? ((⟨g,0,none⟩:Addr).add j)=some u:=hown.cells (g:=g) rfl
   have hr:=run_append_grow (P:=prog) W 39 ty 43 i z Tryz.underlying39 h2 h3 ⟨g,0,none⟩ k cap xs (by rw[h4];exact hown.1) holds ad 1 1 news (by rw[h4];exact hn) hc (by omega) (by omega) (growslice_fits (by omega) (by rw[h5];omega))
   rw[hr] at hrun
   cases hrun
   exact .inr rfl
theorem wpListIn_append_tok {F:Fence} {n:Nat} (w:World) {ops:Array Oper} {rest:List Oper} {o:Oper} {a:Act} {Q:Exit→Act→World→Prop}
  (hg:o.guard=none) (s x:Operand) (hop:o.op=Op.call { callee:=Callee.builtin Builtin.append,args:=#[s,x],argTypes:=#[39,39] })
  (base:Nat) (v:Value) (k:Nat) (xs:List Value) (hs:a.eval s=v) (hown:w.ownsRow base 43 4 v k xs) (ad:Addr) (news:List Value) (hx:a.eval x=.slice (some ad) 1 1) (hn:news.length=1*4)
  (hc:∀j u,news[j]?=some u→w.cell? (ad.add j)=some u) (h1c:∀u ∈ news,u.oneCell'=true) (hk:k≤40000) (b3:base≤w.heap.size)
  (hK:∀v' w',w'.ownsRow base 43 4 v' (k+1) (xs++news)→w.grownBy w' v.ownBlock→(v'.ownBlock=v.ownBlock∨v'.ownBlock=some w.heap.size)→wpListIn F n prog ops Q rest (a.put o.dst v') w') :
  wpListIn F n prog ops Q (o :: rest) a w:=by
 obtain⟨i,h2,h3,h4,h5⟩:=info_parts tok_info
 refine wpListIn_plain hg fun K hK'=>?_
 obtain⟨v',w',hrun,r1,r2,_⟩:=run_append_own (P:=prog) w base 39 o.type 43 i _ 4 40 Tryz.underlying39 h2 h3 h4 h5 rfl (by decide) v k xs hown ad 1 1 news hn hc h1c (by unfold maxLen;omega) (by omega) b3
 have r3:=row_after h2 h3 h4 h5 v k xs hown ad news hn hc h1c hk v' w' hrun
 unfold Oper.wpIn
 refine⟨?_,?_⟩
 ·simp[Oper.about,hop,resolve,Target.leads,Sem.run_pure]
 ·rw[Oper.semAt_plain F _ _ (by rw[hop];intro c hc';cases hc')]
  simp[execOp,hop,resolve,invoke,builtin,hs,hx,hrun,Result.andThen]
  exact hK' _ _ (hK v' w' r1 r2 r3)
theorem clone_any (l:List UInt8) (nl:l.length≤100000) (w:World):Calls prog 59 #[.string (str l)] w fun e w'=>e=.returned (.string (str l))∧Below w.heap.size w w':=by
 have C:=Hd (Tryz.stringslite_Clone (str l) w (by rw[str_size];omega))
 go_enter Tryz.func59,Tryz.ntmps59
 go_wp2_with (go_at_call 85;((with_reducible refine C.out.mono ?_);rintro e w1 ⟨rfl,hb⟩))
 go_ret
 exact⟨rfl,hb⟩
def LexPost (l:List UInt8) (ts:List Tok) (r:Option Nat) (w:World) (e:Ending) (w':World):Prop :=
 ∃(v:Value) (c f:Int),e=.returned (.tuple #[v,.agg #[.int .i64 c,.int .i64 f]])∧Below w.heap.size w w' ∧
  ((20000<l.length∧v=.slice none 0 0∧c=10∧f=0) ∨
   (l.length≤20000∧r=none∧c=0∧f=0∧w'.ownsRow w.heap.size 43 4 v (ts.length+1) (tokCells (ts++[endT l.length]))) ∨
   (l.length≤20000∧∃g:Nat,r=some g∧v=.slice none 0 0∧c=1∧f=(g:Int)))
theorem lex_long (l:List UInt8) (ts:List Tok) (r:Option Nat) (n:Nat) (hn:Hid (l.length=n)) (hs:(str l).size=n) (hl:(20000:Int)<(n:Int)) (w:World) :
  Calls prog 31 #[.string (str l)] w fun e w'=>LexPost l ts r w e w':=by
 have q:decide ((20000:Int)<(n:Int))=true:=qT hl
 go_enter Tryz.func31,Tryz.ntmps31
 go_wp2_with fail
 exact bodyPost_ret (v:=.tuple #[.slice none 0 0,.agg #[.int .i64 10,.int .i64 0]]) (by simp[results,Tryz.results31,go_sem]) rfl
  ⟨_,_,_,rfl,((qB w.heap.size w).alloc (qL _) _).alloc (by simp) _,.inl ⟨by rw[hn.out];omega,rfl,rfl,rfl⟩⟩
theorem heap_old (W:World) (o:Obj) (k:Nat) (h:k<W.heap.size):(W.alloc o).heap[k]?=W.heap[k]?:=((qB W.heap.size W).alloc (qL _) o).block k h
def Inv (w:World) (N:Nat) (pre:List Tok) (W:World):Prop :=
 (∃v,Boxed W (w.heap.size+1+1) 39 v∧W.ownsRow w.heap.size 43 4 v pre.length (tokCells pre))∧W.heap[w.heap.size]?=some (.cells #[.slice none 0 0] 39 (0,0)) ∧
 W.heap[w.heap.size+1]?=some (.cells #[.int .i64 0,.int .i64 0] 29 (0,0))∧(∀t ∈ pre,t.kind≠0)∧Below w.heap.size w W∧N≤W.heap.size
def Left (w:World) (N:Nat) (c:Code) (pre:List Tok) (W:World):Prop :=
 c=.ret∧∃pre' x,pre=pre'++[x]∧x.kind=0∧W.heap[w.heap.size]?=some (.cells #[.slice none 0 0] 39 (0,0)) ∧
 W.heap[w.heap.size+1]?=some (.cells #[.int .i64 1,.int .i64 (x.at_:Int)] 29 (0,0))∧Below w.heap.size w W∧N≤W.heap.size
def Var (F:FuncId) (S:ByteArray) (n q A R N:Nat) (x:Tok) (a:Act) (W:World):Prop :=
 ∃X,N≤X∧W.heap[X]?=some (.cells #[.int .i64 (x.kind:Int),.string (str x.text),.int .i64 x.v,.int .i64 (x.at_:Int)] 43 (0,0)) ∧
  a={ tmps:=#[.string S,undef,.pointer (some ⟨q,0,none⟩),.pointer (some ⟨q+1,0,none⟩),.pointer (some ⟨q+1+1,0,none⟩),.pointer (some ⟨X,0,none⟩),.string S,.int .i64 (n:Int),.bool false,undef,.string S,.string S,
   .func (.func F) #[] #[.pointer (some ⟨R,0,none⟩),.pointer (some ⟨A,0,none⟩)],tokV x,undef,undef,undef,undef,undef,undef,undef,undef,undef,undef,undef,undef],defers:=[] }
theorem row_kept {X Y:World} {row:Option Nat} {N base k:Nat} {v:Value} {xs:List Value} (h:X.ownsRow base 43 4 v k xs) (hg:X.grownBy Y row) (hr:∀r,row=some r→N≤r∧∃o:Obj,X.heap[r]?=some o∧o.isCells=false):Y.ownsRow base 43 4 v k xs:=by
 refine h.kept hg ?_
 rcases h.2 with ⟨rfl,_⟩ | ⟨g,cap,cur,rfl,_,hgb,_⟩
 ·exact .inl rfl
 ·refine .inr fun e'=>?_
  obtain⟨_,o,ho,hc⟩:=hr g (by simpa [Value.ownBlock] using e'.symm)
  rw[hgb] at ho;cases ho;cases hc
theorem lt_of_heap {W:World} {k:Nat} {o:Obj} (h:W.heap[k]?=some o):k<W.heap.size:=(Array.getElem?_eq_some_iff.1 h).1
theorem inv_own (w:World) (N:Nat) (hN:w.heap.size+1+1<N):OwnFrom N (Inv w N):=by
 rintro s X Y row ⟨⟨v,hv,hr⟩,h2,h3,h4,h5,h6⟩ hg hrow
 have hne:∀b,b<N→some b≠row:=fun b hb e=>by have:=(hrow b e.symm).1;omega
 exact⟨⟨v,hv.kept hg (hne _ hN),row_kept hr hg hrow⟩,(hg.block _ (lt_of_heap h2) (hne _ (by omega))).trans h2,(hg.block _ (lt_of_heap h3) (hne _ (by omega))).trans h3,h4,
  h5.grown hg h5.size (fun k e=>by have:=(hrow k e).1;omega),Nat.le_trans h6 hg.size⟩
theorem left_own (w:World) (N:Nat) (hN:w.heap.size+1+1<N) (c:Code):OwnFrom N (Left w N c):=by
 rintro s X Y row ⟨hc,p,x,hp,hk,h2,h3,h5,h6⟩ hg hrow
 have hne:∀b,b<N→some b≠row:=fun b hb e=>by have:=(hrow b e.symm).1;omega
 exact⟨hc,p,x,hp,hk,(hg.block _ (lt_of_heap h2) (hne _ (by omega))).trans h2,(hg.block _ (lt_of_heap h3) (hne _ (by omega))).trans h3,h5.grown hg h5.size (fun k e=>by have:=(hrow k e).1;omega),Nat.le_trans h6 hg.size⟩
theorem var_own (F:FuncId) (S:ByteArray) (n q A R N:Nat) (x:Tok) (a:Act):OwnFrom N (fun(_:Unit) W=>Var F S n q A R N x a W):=by
 rintro s X Y row ⟨B,hB,h,ha⟩ hg hrow
 exact⟨B,hB,(hg.block _ (lt_of_heap h) (fun e=>by obtain⟨_,o,ho,hc⟩:=hrow B e.symm;rw[h] at ho;cases ho;cases hc)).trans h,ha⟩
theorem keep_putObj {B N:Nat} (hB:B<N) (W:World) (l:Nat) (o o':Obj) (hl:N≤l) (h:W.heap[l]?=some o) (hc:o.isCells=false):Keep B N W (W.putObj l o'):=by
 have hg:=grownBy_putObj' W l o'
 have hll:=lt_of_heap h
 refine⟨hg.size,fun k hk _ _ hh=>hg.block k hk (fun e=>?_),fun k hk=>?_⟩
 ·cases e
  rcases hh with h1 | ⟨o2,h1,h2⟩
  ·omega
  ·rw[h] at h1;cases h1;rw[hc] at h2;cases h2
 ·rw[rowOf_same (hg.block B (by omega) (fun e=>by cases e;omega))] at hk
  exact .inl hk
theorem keep_alloc {B N:Nat} {W:World} (hB:B<W.heap.size) (o:Obj):Keep B N W (W.alloc o):=by
 have hb:Below W.heap.size W (W.alloc o):=(qB _ _).alloc (qL _) _
 refine⟨hb.size,fun k hk _ _ _=>hb.block k hk,fun k hk=>?_⟩
 rw[rowOf_same (hb.block B hB)] at hk
 exact .inl hk
theorem cell_four_new (W:World) (a b c d:Value) (T:TypeId) (j:Nat) (u:Value) (h:[a,b,c,d][j]?=some u):(W.alloc (.cells #[a,b,c,d] T)).cell? ((⟨W.heap.size,0,none⟩:Addr).add j)=some u:=by
 have e:(⟨W.heap.size,0,none⟩:Addr).add j=⟨W.heap.size,j,none⟩:=by unfold Addr.add;split <;> simp_all
 rw[e,World.cell?_alloc_new,←h,←Array.getElem?_toList]
theorem set_heap {W:World} {g:Nat} {cs:Array Value} {T:TypeId} {fr:Nat×Nat} (h:W.heap[g]?=some (.cells cs T fr)) (i:Nat) (v:Value):(W.setCell ⟨g,i,none⟩ v).heap[g]?=some (.cells (cs.setIfInBounds i v) T fr):=by
 obtain⟨hlt,hk⟩:=Array.getElem?_eq_some_iff.1 h
 show(W.heap.modify g _)[g]?=_
 rw[Array.getElem?_eq_getElem (by rw[Array.size_modify];exact hlt),Array.getElem_modify_self,hk]
 rfl
theorem set_other (W:World) (g k i:Nat) (v:Value) (h:k≠g):(W.setCell ⟨g,i,none⟩ v).heap[k]?=W.heap[k]?:=Below.heap_setCell W ⟨g,i,none⟩ v k h
theorem not_own {W:World} {base n k:Nat} {v:Value} {xs:List Value} {cs:Array Value} {T:TypeId} {fr:Nat×Nat} (h:W.ownsRow base 43 4 v n xs) (hk:W.heap[k]?=some (.cells cs T fr)) (hT:T≠43):some k≠v.ownBlock:=by
 rcases h.2 with ⟨rfl,_⟩ | ⟨g,cap,cur,rfl,_,hgb,_⟩
 ·simp[Value.ownBlock]
 ·intro e
  obtain rfl:k=g:=by simpa [Value.ownBlock] using e
  rw[hk] at hgb
  cases hgb
  exact hT rfl
theorem row_same {W W':World} {base n:Nat} {v:Value} {xs:List Value} (h:W.ownsRow base 43 4 v n xs) (hh:∀(k:Nat) (cs:Array Value),W.heap[k]?=some (.cells cs 43 (0,0))→W'.heap[k]?=W.heap[k]?):W'.ownsRow base 43 4 v n xs:=by
 refine⟨h.1,?_⟩
 rcases h.2 with h2 | ⟨g,cap,cur,rfl,h3,h4,h5⟩
 ·exact .inl h2
 ·exact .inr ⟨g,cap,cur,rfl,h3,(hh g cur h4).trans h4,h5⟩
def fin (W:World) (q D:Nat) (v:Value) (c f:Int):World:=(((W.setCell ⟨q,0,none⟩ v).setCell ⟨q+1,0,none⟩ (.int .i64 c)).setCell ⟨q+1,1,none⟩ (.int .i64 f)).putObj D (.deferred none)
theorem fin_facts {W:World} {q D:Nat} {f0 f1:Value} (hq:W.heap[q]?=some (.cells #[f0] 39 (0,0))) (hf:W.heap[q+1]?=some (.cells #[f1,f1] 29 (0,0))) (hD:W.heap[D]?=some (.deferred (some []))) (v:Value) (c f:Int) :
  (fin W q D v c f).heap[q]?=some (.cells #[v] 39 (0,0))∧(fin W q D v c f).heap[q+1]?=some (.cells #[.int .i64 c,.int .i64 f] 29 (0,0)) ∧
  (∀(k:Nat) (cs:Array Value),W.heap[k]?=some (.cells cs 43 (0,0))→(fin W q D v c f).heap[k]?=W.heap[k]?):=by
 have h1:q≠D:=by rintro rfl;rw[hq] at hD;cases hD
 have h2:q+1≠D:=by rintro rfl;rw[hf] at hD;cases hD
 have a1:=set_heap hq 0 v
 have a2:=set_heap ((set_other W q (q+1) 0 v (by omega)).trans hf) 0 (.int .i64 c)
 have a3:=set_heap a2 1 (.int .i64 f)
 refine⟨?_,?_,fun k cs hk=>?_⟩
 ·unfold fin
  rw[World.putObj_heap_other h1,set_other _ (q+1) q 1 _ (by omega),set_other _ (q+1) q 0 _ (by omega),a1]
  rfl
 ·unfold fin
  rw[World.putObj_heap_other h2,a3]
  rfl
 ·have k1:k≠D:=by rintro rfl;rw[hk] at hD;cases hD
  have k2:k≠q:=by rintro rfl;rw[hk] at hq;cases hq
  have k3:k≠q+1:=by rintro rfl;rw[hk] at hf;cases hf
  unfold fin
  rw[World.putObj_heap_other k1,set_other _ (q+1) k 1 _ k3,set_other _ (q+1) k 0 _ k3,set_other _ q k 0 _ k2]
theorem fin_below {W w:World} {D:Nat} (hB:Below w.heap.size w W) (hD:W.heap[D]?=some (.deferred (some []))) (hl:w.heap.size≤D) (v:Value) (c f:Int):Below w.heap.size w (fin W w.heap.size D v c f):=by
 have h:=((hB.setCell (p:=⟨w.heap.size,0,none⟩) (qL _) v).setCell (p:=⟨w.heap.size+1,0,none⟩) (Nat.le_succ _) (.int .i64 c)).setCell (p:=⟨w.heap.size+1,1,none⟩) (Nat.le_succ _) (.int .i64 f)
 have hD2:=(((KeepsOthers.setCell W ⟨w.heap.size,0,none⟩ v).trans (KeepsOthers.setCell _ ⟨w.heap.size+1,0,none⟩ (.int .i64 c))).trans (KeepsOthers.setCell _ ⟨w.heap.size+1,1,none⟩ (.int .i64 f))).same D _ hD rfl
 exact h.trans (belowK_b (w:=w) (qL _) _ D _ _ hl hD2 rfl rfl)
theorem rowOf_box {W:World} {B:Nat} {T:TypeId} {v:Value} (h:Boxed W B T v):rowOf B W=v.ownBlock:=by unfold rowOf;rw[h.cell];rfl
theorem lex_core (l:List UInt8) (ts:List Tok) (r:Option Nat) (ht:Hid (lexT l ts r)) (n:Nat) (hn:Hid (l.length=n)) (hs:(str l).size=n) (hl:(n:Int)≤20000) (w:World) (hS:Hid (Signs w)) :
  CallsIn Fence.wide 5 prog 31 #[.string (str l)] w fun e w'=>LexPost l ts r w e w':=by
 have q:decide ((20000:Int)<(n:Int))=false:=qF (by omega)
 have hb0:=Hd ((((qB w.heap.size w).alloc (qL _) (.cells #[.slice none 0 0] 39)).alloc (by simp) (.cells #[.int .i64 0,.int .i64 0] 29)).alloc (by simp;omega) (.cells #[.slice none 0 0] 39))
 refine callsIn_of_wp_marks Tryz.func31 rfl trivial ?_ rfl
 simp only[Tryz.ntmps31,List.size_toArray,List.length_cons,List.length_nil,Nat.reduceAdd,Nat.reduceSub,Array.replicate_succ,Array.replicate_zero,List.push_toArray,List.append_toArray,List.nil_append,List.cons_append]
 gi_wp2_with (first | (refine⟨trivial,?_⟩;gi_at_call 59;((with_reducible refine(callsIn_wide.2 (clone_any l (by have:=hn.out;omega) _)).mono ?_);rintro e w1 ⟨rfl,hb1⟩;have HB1:=Hd hb1;clear hb1)) | (refine⟨trivial,?_⟩;gi_at_call 58;((with_reducible refine(callsIn_wide.2 (tokens_any l _ (by exact hS.out.below (hb0.out.trans (HB1.out.mono hb0.out.size))))).mono ?_);rintro e w2 ⟨A,R,b,v1,v2,v3,v4,v5,rfl,hsrc,hb2⟩;have HB2:=Hd hb2;have HSRC:=Hd hsrc;clear hb2 hsrc)))
 have hsz1:=HB1.out.size
 have hsz2:=HB2.out.size
 simp only[World.size_alloc] at hsz1
 have hW2:Hid (w.heap.size+1+1<w2.heap.size):=Hd (by omega)
 have hfar:=Hd (HB1.out.trans (HB2.out.mono HB1.out.size))
 have bL:=Boxed.new ((w.alloc (.cells #[.slice none 0 0] 39)).alloc (.cells #[.int .i64 0,.int .i64 0] 29)) 39 (.slice none 0 0)
 simp only[World.size_alloc] at bL
 have hbL:Hid (Boxed w2 (w.heap.size+1+1) 39 (.slice none 0 0)):=Hd ((hfar.out.block _ (by simp)).trans bL)
 have hinv:Hid (Inv w w2.heap.size [] w2):=Hd (by
  have hbw:=hb0.out.trans (hfar.out.mono hb0.out.size)
  refine⟨⟨.slice none 0 0,(hfar.out.block _ (by simp)).trans bL,qO _ _ _ _⟩,(hfar.out.block _ (by simp;omega)).trans ?_,(hfar.out.block _ (by simp)).trans ?_,(fun t h=>by simp at h),hbw,qL _⟩
  ·rw[heap_old _ _ _ (by simp;omega),heap_old _ _ _ (by simp)];exact World.alloc_heap_new w _
  ·rw[heap_old _ _ _ (by simp)]
   have:=World.alloc_heap_new (w.alloc (.cells #[.slice none 0 0] 39)) (.cells #[.int .i64 0,.int .i64 0] 29)
   rwa [World.size_alloc] at this)
 clear bL hsz1 hsz2
 refine wpIn_rangeFunc_ownH (α:=Tok) rfl (by decide) (gf:=82) (lb:=#[.pointer (some ⟨R,0,none⟩),.pointer (some ⟨A,0,none⟩)]) rfl trivial (enters_of Tryz.func82 (by kernel_rfl) rfl)
  (iter_stops 4 (by decide) l (by have:=hn.out;omega) (w.heap.size+1+1) w1.heap.size A R b v1 v2 v3 v4 v5 w2 ?hB ?hBs hW2.out ?hrow HSRC.out ts r ht.out) (fun h k=>h.trans k) (fun W l o o' h1 h2 h3 _=>keep_putObj hW2.out W l o o' h1 h2 h3) (qB _ _) (fun _=>rfl)
  (Inv w w2.heap.size) (Left w w2.heap.size) (inv_own w _ hW2.out) (left_own w _ hW2.out) hinv.out (Var 82 (str l) n w.heap.size A R w2.heap.size) (var_own _ _ _ _ _ _ _) ?assign ?body ?done ?stop
 case hB=>have:=HB1.out.size;simp at this;omega
 case hBs=>obtain⟨_,_,h⟩:=hS.out;have:=lt_of_heap h;omega
 case hrow=>unfold rowOf;rw[hbL.out.cell];rfl
 case assign =>
  rintro lp pre ⟨kk,tx,vv,aa⟩ W K hi hK
  dsimp only [tokV]
  gi_wp2
  have hBW:w.heap.size+1+1<W.heap.size:=Nat.lt_of_lt_of_le hW2.out hi.2.2.2.2.2
  exact hK _ _ ((KeepsOthers.alloc _ _).from _) (keep_alloc hBW _) ((inv_own w _ hW2.out).alloc _ hi) ⟨W.heap.size,hi.2.2.2.2.2,World.alloc_heap_new W _,rfl⟩
 case body =>
  rintro lp pre ⟨kk,tx,vv,aa⟩ a' W hlp hrec ⟨⟨v,hv,hrow⟩,hq,hf,hkinds,hB,hN⟩ ⟨X,hX,hXh,rfl⟩ hlt
  have x0:W.cell? ⟨X,0,none⟩=some (.int .i64 (kk:Int)):=by simp[World.cell?,hXh]
  have x1:W.cell? ⟨X,1,none⟩=some (.string (str tx)):=by simp[World.cell?,hXh]
  have x2:W.cell? ⟨X,2,none⟩=some (.int .i64 vv):=by simp[World.cell?,hXh]
  have x3:W.cell? ⟨X,3,none⟩=some (.int .i64 (aa:Int)):=by simp[World.cell?,hXh]
  have cq:W.cell? ⟨w.heap.size,0,none⟩=some (.slice none 0 0):=by simp[World.cell?,hq]
  have fq:W.frozen? ⟨w.heap.size,0,none⟩=false:=by simp[World.frozen?,hq]
  have ce:W.cell? ⟨w.heap.size+1,0,none⟩=some (.int .i64 0):=by simp[World.cell?,hf]
  have ce1:W.cell? ⟨w.heap.size+1,1,none⟩=some (.int .i64 0):=by simp[World.cell?,hf]
  have fe:W.frozen? ⟨w.heap.size+1,0,none⟩=false:=by simp[World.frozen?,hf]
  have fe1:W.frozen? ⟨w.heap.size+1,1,none⟩=false:=by simp[World.frozen?,hf]
  have hc:=hv.cell
  have HQ:=Hd hq
  have HF:=Hd hf
  have HX:=Hd hXh
  have HV:=Hd hv
  have HK:=Hd hkinds
  have HB:=Hd hB
  have HN:=Hd hN
  have HROW:=Hd hrow
  have HREC:=Hd hrec
  have hmx:prog.follows .mixedOrders=true:=by kernel_rfl
  clear hq hf hXh hv hkinds hB hN hrow hrec
  dsimp only [tokV]
  by_cases hk0:kk=0
  ·subst hk0
   gi_wp2
   gi_region_with_o (fail)
   all_goals gi_wp2
   all_goals
    have hqs:=set_heap HQ.out 0 (.slice none 0 0)
    have hfs:=set_heap ((set_other W w.heap.size (w.heap.size+1) 0 (.slice none 0 0) (by omega)).trans HF.out) 0 (.int .i64 1)
    have hfs2:=set_heap hfs 1 (.int .i64 (aa:Int))
    refine⟨((((KeepsOthers.setCell _ _ _).trans (KeepsOthers.setCell _ _ _)).trans (KeepsOthers.setCell _ _ _)).trans (KeepsOthers.drew _)).from _,rfl,pre,⟨0,tx,vv,aa⟩,rfl,rfl,?_,hfs2,?_,?_⟩
    ·exact(set_other _ _ _ _ _ (by omega)).trans ((set_other _ _ _ _ _ (by omega)).trans hqs)
    ·exact(((HB.out.setCell (p:=⟨w.heap.size,0,none⟩) (qL _) _).setCell (p:=⟨w.heap.size+1,0,none⟩) (Nat.le_succ _) _).setCell (p:=⟨w.heap.size+1,1,none⟩) (Nat.le_succ _) _).drew
    ·exact Nat.le_trans HN.out ((((qB 0 W).setCell (p:=⟨w.heap.size,0,none⟩) (Nat.zero_le _) _).setCell (p:=⟨w.heap.size+1,0,none⟩) (Nat.zero_le _) _).setCell (p:=⟨w.heap.size+1,1,none⟩) (Nat.zero_le _) _).drew.size
  ·have hkn:¬(kk:Int)=0:=by omega
   have hkb:((kk:Int) ==0)=false:=beq_false_of_ne hkn
   have hplen:Hid (pre.length≤40000):=Hd (by
    have h1:=toks_count ht.out
    have h2:=gapTo_le false (Nat.zero_le l.length)
    have h3:pre.length<(handed l ts r).length:=hlt
    unfold handed at h3
    simp only[List.length_append,List.length_singleton] at h3
    have:=hn.out
    omega)
   clear hlt
   gi_wp2_with (gi_at_builtin;refine wpListIn_append_tok _ rfl _ _ rfl w.heap.size v pre.length (tokCells pre) rfl (HROW.out.alloc _) ⟨W.heap.size,0,none⟩ [.int .i64 (kk:Int),.string (str tx),.int .i64 vv,.int .i64 (aa:Int)] rfl rfl (cell_four_new _ _ _ _ _ _) (by simp[Value.oneCell']) hplen.out (by have:=HB.out.size;simp;omega) ?_;intro v' w3 hown' hgrow hr3;obtain⟨g',cap',rfl⟩:=ownsRow_succ hown';obtain⟨hv1,hv2,hr2,hk2,hb2⟩:=HV.out.appended (by decide) HROW.out HB.out.size (by omega) hown' hgrow;have hc1:=hv1.cell;have hf1:=hv1.frozen;have G1:=Hd hown';have G2:=Hd hgrow;have G3:=Hd hr3;have G4:=Hd hv2;have G5:=Hd hr2;have G6:=Hd hk2;have G7:=Hd hb2;clear hown' hgrow hr3 hv1 hv2 hr2 hk2 hb2)
   have hsame:∀k,k<W.heap.size→k≠w.heap.size+1+1→some k≠v.ownBlock→(w3.setCell ⟨w.heap.size+1+1,0,none⟩ (.slice (some ⟨g',0,none⟩) (pre.length+1) cap')).heap[k]?=W.heap[k]?:=fun k hk hB hr =>
    (set_other _ _ _ _ _ hB).trans ((G2.out.block k (by simp;omega) hr).trans (heap_old _ _ _ hk))
   have hqW:=lt_of_heap HQ.out
   have hfW:=lt_of_heap HF.out
   refine⟨G6.out.from _,⟨G7.out.size,fun k hk hB hr _=>hsame k hk hB (by rw[rowOf_box HV.out] at hr;exact Ne.symm hr),fun k hk=>?_⟩,⟨⟨_,G4.out,?_⟩,?_,?_,?_,HB.out.trans G7.out,Nat.le_trans HN.out G7.out.size⟩⟩
   ·rw[rowOf_box HV.out]
    have hlt:=(G5.out.lt k (by rw[rowOf_box G4.out] at hk;exact hk)).2
    rw[rowOf_box G4.out] at hk
    rcases G3.out with h | h
    ·rw[h] at hk;exact .inl hk
    ·rw[h] at hk
     cases hk
     exact .inr ⟨by simp,hlt⟩
   ·rw[tokCells_snoc,List.length_append];exact G5.out
   ·exact(hsame _ hqW (by omega) (not_own HROW.out HQ.out (by decide))).trans HQ.out
   ·exact(hsame _ hfW (by omega) (not_own HROW.out HF.out (by decide))).trans HF.out
   ·intro t ht'
    rcases List.mem_append.1 ht' with h | h
    ·exact HK.out t h
    ·rw[List.mem_singleton] at h;subst h;exact hk0
 case done =>
  rintro D xs W hD rfl ⟨⟨v,hv,hrow⟩,hq,hf,hkinds,hB,hN⟩ hK
  have hr:r=none:=by
   cases r with
   | none=>rfl
   | some f=>exact absurd ((tokAt_kind l f).2 (toks_fault ht.out)) (hkinds _ (by unfold handed;simp))
  subst hr
  have hlen:(handed l ts none).length=ts.length+1:=by unfold handed;simp
  rw[hlen] at hrow
  obtain⟨g',cap',rfl⟩:=ownsRow_succ hrow
  have cq:W.cell? ⟨w.heap.size,0,none⟩=some (.slice none 0 0):=by simp[World.cell?,hq]
  have fq:W.frozen? ⟨w.heap.size,0,none⟩=false:=by simp[World.frozen?,hq]
  have ce:W.cell? ⟨w.heap.size+1,0,none⟩=some (.int .i64 0):=by simp[World.cell?,hf]
  have ce1:W.cell? ⟨w.heap.size+1,1,none⟩=some (.int .i64 0):=by simp[World.cell?,hf]
  have fe:W.frozen? ⟨w.heap.size+1,0,none⟩=false:=by simp[World.frozen?,hf]
  have fe1:W.frozen? ⟨w.heap.size+1,1,none⟩=false:=by simp[World.frozen?,hf]
  have hc:=hv.cell
  have HQ:=Hd hq
  have HF:=Hd hf
  have HROW:=Hd hrow
  have HB:=Hd hB
  have HKD:=Hd hK
  have HV:=Hd hv
  have HD:=Hd hD
  clear hq hf hrow hB hK hv hkinds hN hlen hD
  gi_wp2
  refine⟨by simp,.inl ⟨_,_,rfl,run_takeDeferred ((((KeepsOthers.setCell _ _ _).trans (KeepsOthers.setCell _ _ _)).trans (KeepsOthers.setCell _ _ _)).same D _ HKD.out rfl),?_⟩⟩
  obtain⟨z1,z2,z3⟩:=fin_facts HQ.out HF.out HKD.out (.slice (some ⟨g',0,none⟩) (ts.length+1) cap') 0 0
  have y0:(fin W w.heap.size D (.slice (some ⟨g',0,none⟩) (ts.length+1) cap') 0 0).cell? ⟨w.heap.size,0,none⟩=some (.slice (some ⟨g',0,none⟩) (ts.length+1) cap'):=by simp[World.cell?,z1]
  have y1:(fin W w.heap.size D (.slice (some ⟨g',0,none⟩) (ts.length+1) cap') 0 0).cell? ⟨w.heap.size+1,0,none⟩=some (.int .i64 0):=by simp[World.cell?,z2]
  have y2:(fin W w.heap.size D (.slice (some ⟨g',0,none⟩) (ts.length+1) cap') 0 0).cell? ⟨w.heap.size+1,1,none⟩=some (.int .i64 0):=by simp[World.cell?,z2]
  have hfin:LexPost l ts none w (.returned (.tuple #[.slice (some ⟨g',0,none⟩) (ts.length+1) cap',.agg #[.int .i64 0,.int .i64 0]])) (fin W w.heap.size D (.slice (some ⟨g',0,none⟩) (ts.length+1) cap') 0 0) :=
   ⟨_,_,_,rfl,fin_below HB.out HKD.out (by have:=HD.out;have:=hW2.out;omega) _ _ _,.inr (.inl ⟨by have:=hn.out;omega,rfl,rfl,rfl,row_same HROW.out z3⟩)⟩
  unfold fin at y0 y1 y2 hfin
  refine⟨.tuple #[.slice (some ⟨g',0,none⟩) (ts.length+1) cap',.agg #[.int .i64 0,.int .i64 0]],by simp[results,Tryz.results31,go_sem,y0,y1,y2],hfin⟩
 case stop =>
  rintro D c pre W hD hpre ⟨rfl,pre',x,rfl,hx,hq,hf,hB,hN⟩ hK
  have hr:∃f:Nat,r=some f∧x.at_=f:=by
   have hk:=toks_kinds ht.out
   have hmem:x ∈ handed l ts r:=hpre.subset (by simp)
   unfold handed at hmem
   rcases List.mem_append.1 hmem with h | h
   ·exact absurd hx (hk x h)
   ·rw[List.mem_singleton] at h
    cases r with
    | none=>rw[h] at hx;exact absurd hx (show ¬(5:Nat)=0 by decide)
    | some f =>
     refine⟨f,rfl,?_⟩
     rw[h]
     show(tokAt l f).at_=f
     unfold tokAt
     rw[toks_fault ht.out]
     rfl
  obtain⟨f,rfl,hxf⟩:=hr
  rw[hxf] at hf
  have n1:w.heap.size≠D:=by intro e;rw[←e,hq] at hK;cases hK
  have n2:w.heap.size+1≠D:=by intro e;rw[←e,hf] at hK;cases hK
  have z1:(W.putObj D (.deferred none)).heap[w.heap.size]?=some (.cells #[.slice none 0 0] 39 (0,0)):=(World.putObj_heap_other n1).trans hq
  have z2:(W.putObj D (.deferred none)).heap[w.heap.size+1]?=some (.cells #[.int .i64 1,.int .i64 (f:Int)] 29 (0,0)):=(World.putObj_heap_other n2).trans hf
  have y0:(W.putObj D (.deferred none)).cell? ⟨w.heap.size,0,none⟩=some (.slice none 0 0):=by simp[World.cell?,z1]
  have y1:(W.putObj D (.deferred none)).cell? ⟨w.heap.size+1,0,none⟩=some (.int .i64 1):=by simp[World.cell?,z2]
  have y2:(W.putObj D (.deferred none)).cell? ⟨w.heap.size+1,1,none⟩=some (.int .i64 (f:Int)):=by simp[World.cell?,z2]
  have hfin:=Hd (show LexPost l ts (some f) w (.returned (.tuple #[.slice none 0 0,.agg #[.int .i64 1,.int .i64 (f:Int)]])) (W.putObj D (.deferred none)) from
   ⟨_,_,_,rfl,hB.trans (belowK_b (w:=w) (qL _) W D _ _ (by have:=hW2.out;omega) hK rfl rfl),.inr (.inr ⟨by have:=hn.out;omega,f,rfl,rfl,rfl,rfl⟩)⟩)
  have HKD:=Hd hK
  clear hq hf hK n1 n2 z1 z2 hx hxf hpre hB
  gi_wp2
  refine⟨by simp,.inl ⟨_,_,rfl,run_takeDeferred HKD.out,?_⟩⟩
  exact⟨.tuple #[.slice none 0 0,.agg #[.int .i64 1,.int .i64 (f:Int)]],by simp[results,Tryz.results31,go_sem,y0,y1,y2],hfin.out⟩
theorem lex_any (l:List UInt8) (ts:List Tok) (r:Option Nat) (ht:lexT l ts r) (w:World) (hS:Signs w) :
  Calls prog 31 #[.string (str l)] w fun e w'=>LexPost l ts r w e w':=by
 rcases Nat.lt_or_ge 20000 l.length with h | h
 ·exact lex_long l ts r _ (Hd rfl) (str_size l) (by omega) w
 ·exact callsIn_wide.1 (lex_core l ts r (Hd ht) _ (Hd rfl) (str_size l) (by omega) w (Hd hS))
end Go.Proofs.YtpfmlfcaadnnpaaGreatDoor.Lx
namespace Go.Proofs.YtpfmlfcaadnnpaaGreatDoor.Lx
open Go.RowKit
def LexOk (l:List UInt8) (ts:List Tok) (w:World) (e:Ending) (w':World):Prop :=
 ∃g cap,e=.returned (.tuple #[.slice (some ⟨g,0,none⟩) (ts.length+1) cap,.agg #[.int .i64 0,.int .i64 0]])∧Below w.heap.size w w'∧w.heap.size≤g∧g<w'.heap.size ∧
  (∀j u,(tokCells (ts++[endT l.length]))[j]?=some u→w'.cell? ⟨g,j,none⟩=some u)
def LexBad (f:Nat) (w:World) (e:Ending) (w':World):Prop:=e=.returned (.tuple #[.slice none 0 0,.agg #[.int .i64 1,.int .i64 (f:Int)]])∧Below w.heap.size w w'
theorem row_cells {w:World} {base g n cap:Nat} {xs:List Value} (h:w.ownsRow base 43 4 (.slice (some ⟨g,0,none⟩) n cap) n xs) (j:Nat) (u:Value) (hu:xs[j]?=some u):w.cell? ⟨g,j,none⟩=some u:=by
 have:=h.cells (g:=g) rfl j u hu
 have e:(⟨g,0,none⟩:Addr).add j=⟨g,j,none⟩:=by unfold Addr.add;split <;> simp_all
 rwa [e] at this
theorem lex_ok (l:List UInt8) (ts:List Tok) (ht:lexT l ts none) (hl:l.length≤20000) (w:World) (hS:Signs w):Calls prog 31 #[.string (str l)] w fun e w'=>LexOk l ts w e w' :=
 (lex_any l ts none ht w hS).mono fun e w' ⟨v,c,f,he,hb,h⟩=>by
  rcases h with ⟨h1,_⟩ | ⟨_,_,rfl,rfl,h2⟩ | ⟨_,g,h2,_⟩
  ·omega
  ·obtain⟨g',cap',rfl⟩:=ownsRow_succ h2
   have hlt:=h2.lt g' rfl
   exact⟨g',cap',he,hb,hlt.1,hlt.2,row_cells h2⟩
  ·cases h2
theorem lex_bad (l:List UInt8) (ts:List Tok) (f:Nat) (ht:lexT l ts (some f)) (hl:l.length≤20000) (w:World) (hS:Signs w):Calls prog 31 #[.string (str l)] w fun e w'=>LexBad f w e w' :=
 (lex_any l ts (some f) ht w hS).mono fun e w' ⟨v,c,f',he,hb,h⟩=>by
  rcases h with ⟨h1,_⟩ | ⟨_,h2,_⟩ | ⟨_,g,h2,rfl,rfl,rfl⟩
  ·omega
  ·cases h2
  ·cases h2;exact⟨he,hb⟩
end Go.Proofs.YtpfmlfcaadnnpaaGreatDoor.Lx
