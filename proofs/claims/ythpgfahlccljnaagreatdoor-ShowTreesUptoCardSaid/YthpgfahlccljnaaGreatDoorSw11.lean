import Derived.Test.YthpgfahlccljnaaGreatDoorSw10
import Derived.RangeFuncNested
import Derived.RangeFuncBound
import Derived.RangeFuncCalls
import Derived.RangeFuncLeaves
import Derived.Shelf.Abstract
import Derived.Shelf.RegionOpen
import Derived.OwnWalkIn
import Derived.TacticsInMore
import Derived.LoopNIn
import Derived.LoopIn
import Derived.RangeFuncBox
import Derived.Maps.AppendAt
import Derived.Laws.AppendOwnNone
import Derived.StillTailTactics
import Derived.BigQuiet
set_option maxHeartbeats 16000000
set_option maxRecDepth 100000
open Go.Proofs.Tryz(prog)
namespace Go.Proofs.YthpgfahlccljnaaGreatDoor
open Go.RowKit Go.Shelf
attribute [local go_sem] Oper.semAt_some
def exCells (x:Ex) (s:Value):Array Value:=#[.int .i64 x.kind,.int .i64 x.a,.int .i64 x.b,.int .i64 x.c,.string x.name,.string x.state,.int .i64 x.v,s,.int .i64 x.pos]
def partsV (B:Nat):Value:=.func (.func 75) #[] #[.pointer (some ⟨B,0,none⟩)]
theorem parts_any (k a b c v p:Int) (name state:ByteArray) (s:Value) (w:World):Calls prog 57 #[.agg #[.int .i64 k,.int .i64 a,.int .i64 b,.int .i64 c,.string name,.string state,.int .i64 v,s,.int .i64 p]] w fun e w'=>e=.returned (partsV w.heap.size) ∧
  w.alloc (.cells #[.int .i64 k,.int .i64 a,.int .i64 b,.int .i64 c,.string name,.string state,.int .i64 v,s,.int .i64 p] 48)=w':=by
 go_enter Tryz.func57,Tryz.ntmps57
 go_wp2_with fail
 go_ret
 exact⟨rfl,rfl⟩
def KeepM (M:Nat→Prop) (rw:World→Option Nat) (n₁:Nat) (X Y:World):Prop:=X.heap.size≤Y.heap.size ∧
 (∀k,k<X.heap.size→¬M k→rw X≠some k→(k<n₁∨∃o,X.heap[k]?=some o∧o.isCells=true)→Y.heap[k]?=X.heap[k]?) ∧
 (∀k,rw Y=some k→rw X=some k∨(X.heap.size≤k∧k<Y.heap.size))
theorem KeepM.trans {M:Nat→Prop} {rw:World→Option Nat} {n₁:Nat} {X Y Z:World} (h:KeepM M rw n₁ X Y) (k:KeepM M rw n₁ Y Z):KeepM M rw n₁ X Z:=by
 refine⟨Nat.le_trans h.1 k.1,fun j hj hB hr hc=>?_,fun j hj=>?_⟩
 ·have e:=h.2.1 j hj hB hr hc
  refine(k.2.1 j (Nat.lt_of_lt_of_le hj h.1) hB (fun hh=>?_) ?_).trans e
  ·rcases h.2.2 j hh with h1 | h1
   ·exact hr h1
   ·omega
  ·rcases hc with h1 | ⟨o,h1,h2⟩
   ·exact .inl h1
   ·exact .inr ⟨o,e.trans h1,h2⟩
 ·rcases k.2.2 j hj with h1 | h1
  ·rcases h.2.2 j h1 with h2 | h2
   ·exact .inl h2
   ·exact .inr ⟨h2.1,Nat.lt_of_lt_of_le h2.2 k.1⟩
  ·exact .inr ⟨Nat.le_trans h.1 h1.1,h1.2⟩
def RowNew (rw:World→Option Nat) (w:World) (n₂:Nat) (W:World):Prop:=∀k,rw W=some k→rw w=some k∨n₂≤k
theorem RowNew.keep {M:Nat→Prop} {rw:World→Option Nat} {n₁ n₂:Nat} {w X Y:World} (h:RowNew rw w n₂ X) (hX:n₂≤X.heap.size) (hk:KeepM M rw n₁ X Y):RowNew rw w n₂ Y:=by
 intro k hk1
 rcases hk.2.2 k hk1 with h1 | h1
 ·exact h k h1
 ·exact .inr (Nat.le_trans hX h1.1)
structure Around (M:Nat→Prop) (rw:World→Option Nat) (w:World):Prop where
 old:∀k,M k→k<w.heap.size
 row:∀k,rw w=some k→k<w.heap.size
 same:∀W,Below w.heap.size w W→rw W=rw w
def Still (M:Nat→Prop) (rw:World→Option Nat) (w:World) (k:Nat):Prop:=k<w.heap.size∧¬M k∧rw w≠some k
abbrev PartOf (x:Ex):={ p:Int // p ∈ partsE x }
theorem partsE_19 {x:Ex} (h:x.kind=19):partsE x=x.args:=by unfold partsE;rw[if_pos h]
theorem partsE_abc {x:Ex} (h:¬x.kind=19):partsE x=[x.a,x.b,x.c].take (manyOf x.kind):=by unfold partsE;rw[if_neg h]
theorem partsE_len {x:Ex} (h:¬x.kind=19):(partsE x).length=manyOf x.kind:=by
 rw[partsE_abc h,List.length_take];have:=manyOf_le x.kind;simp;omega
theorem partsE_get {x:Ex} (h:¬x.kind=19) {j:Nat} (hj:j<manyOf x.kind):(partsE x).getD j 0=[x.a,x.b,x.c].getD j 0:=by
 rw[partsE_abc h];simp[List.getD,hj]
theorem ix_arr {b n cap:Nat} {j:Nat} (hj:j<n) (hn:n≤9223372036854775807):Ix 44 1 (.slice (some ⟨b,0,none⟩) n cap) b 0 j:=ix_ints (off:=0) (fun _=>rfl) hj hn
theorem slice_to (b m:Nat) (h:m≤3) (W:World):(Instr.sliceAt 104 (.pointer (some ⟨b,0,none⟩)) none (some (.int .i64 (m:Int))) none).run prog W=.ok (.slice (some ⟨b,0,none⟩) m 3) W:=by
 obtain rfl | rfl | rfl | rfl:m=0∨m=1∨m=2∨m=3:=by omega
 all_goals kernel_rfl
theorem slice_from (b m:Nat) (h:m≤3) (W:World):(Instr.sliceAt 104 (.pointer (some ⟨b,0,none⟩)) (some (.int .i64 (m:Int))) none none).run prog W=.ok (.slice (some ⟨b,(if m=3 then 0 else m),none⟩) (3-m) (3-m)) W:=by
 obtain rfl | rfl | rfl | rfl:m=0∨m=1∨m=2∨m=3:=by omega
 all_goals kernel_rfl
theorem cell_same' {w w':World} {b:Nat} (h:w'.heap[b]?=w.heap[b]?) (o:Nat):w'.cell? ⟨b,o,none⟩=w.cell? ⟨b,o,none⟩:=by simp only[World.cell?,h]
def SrcAt (rw:World→Option Nat) (w W1:World) (m S:Nat) (X:World):Prop:=W1.heap.size≤X.heap.size∧RowNew rw w W1.heap.size X∧(0<m→X.heap[S]?=W1.heap[S]?)
def SrcOk (M:Nat→Prop) (rw:World→Option Nat) (w W1:World) (S:Nat):Prop:=¬M S∧S<W1.heap.size∧rw w≠some S∧∃o,W1.heap[S]?=some o∧o.isCells=true
theorem SrcAt.keep {M:Nat→Prop} {rw:World→Option Nat} {n₁ m S:Nat} {w W1 X Y:World} (h:SrcAt rw w W1 m S X) (hk:KeepM M rw n₁ X Y) (hs:0<m→SrcOk M rw w W1 S):SrcAt rw w W1 m S Y:=by
 refine⟨Nat.le_trans h.1 hk.1,h.2.1.keep h.1 hk,fun hm=>?_⟩
 obtain⟨h1,h2,h3,o,h4,h5⟩:=hs hm
 have e:=h.2.2 hm
 refine(hk.2.1 S (Nat.lt_of_lt_of_le h2 h.1) h1 (fun hh=>?_) (.inr ⟨o,e.trans h4,h5⟩)).trans e
 rcases h.2.1 S hh with h6 | h6
 ·exact h3 h6
 ·omega
theorem take_pre {x:Ex} {pre:List (PartOf x)} {j:Nat} {p:PartOf x} (h:pre.map (·.1)=(partsE x).take j) (hj:j<(partsE x).length) (hp:p.1=(partsE x).getD j 0):(pre++[p]).map (·.1)=(partsE x).take (j+1):=by
 rw[List.map_append,h,List.take_succ_eq_append_getElem hj,List.map_singleton,hp,List.getD_eq_getElem?_getD,List.getElem?_eq_getElem hj]
 rfl
theorem parts_core (F:Fence) (n:Nat) (hF:F=Fence.wide) (hn:1≤n) (x:Ex) (o:Option Addr) (cap ba offa na:Nat) (hna:Hid (x.args.length=na)) (nl:(na:Int)≤9223372036854775807) (M:Nat→Prop) (rw:World→Option Nat) (B:Nat) (w:World)
  (hA:Hid (Around M rw w)) (hB:Hid (Still M rw w B)) (hc:Hid (w.heap[B]?=some (.cells (exCells x (.slice o na cap)) 48 (0,0)))) (ho:Hid (0<na→o=some ⟨ba,offa,none⟩))
  (hS:Hid (0<na→x.kind=19→Still M rw w ba∧(∃cs T fr,w.heap[ba]?=some (.cells cs T fr)))) (hv:Hid (∀j,j<na→w.cell? ⟨ba,offa+j,none⟩=some (.int .i64 (x.args.getD j 0)))) (lp:Nat) (J Jx:List (PartOf x)→World→Prop)
  (W:World) (hW:Hid (Below w.heap.size w W)) (hJ:Hid (∀s X Y,J s X→X.grownBy Y none→J s Y))
  (hY:Hid (∀pre (p:PartOf x) W1,J pre W1→pre.length<(partsE x).length→YieldAt F (n-1) prog lp #[.int .i64 p.1] W1 fun e W' =>
   (e=.returned (.bool true)∧J (pre++[p]) W'∧KeepM M rw w.heap.size W1 W')∨(e=.returned (.bool false)∧Jx (pre++[p]) W')))
  (h0:Hid (J [] W)) :
  CallsIn F n prog 75 #[.func (.yield lp) #[] #[],.pointer (some ⟨B,0,none⟩)] W fun e W'=>(∃v,e=.returned v) ∧
   ((∃ys:List (PartOf x),ys.map (·.1)=partsE x∧J ys W')∨(∃pre:List (PartOf x),pre.map (·.1) <+: partsE x∧Jx pre W')):=by
 subst hF
 have hBW:W.heap[B]?=some (.cells (exCells x (.slice o na cap)) 48 (0,0)):=(hW.out.block _ hB.out.1).trans hc.out
 have hBlt:=Nat.lt_of_lt_of_le hB.out.1 hW.out.size
 have c0:W.cell? ⟨B,0,none⟩=some (.int .i64 x.kind):=by simp[World.cell?,hBW,exCells]
 have c1:W.cell? ⟨B,1,none⟩=some (.int .i64 x.a):=by simp[World.cell?,hBW,exCells]
 have c2:W.cell? ⟨B,2,none⟩=some (.int .i64 x.b):=by simp[World.cell?,hBW,exCells]
 have c3:W.cell? ⟨B,3,none⟩=some (.int .i64 x.c):=by simp[World.cell?,hBW,exCells]
 have c7:W.cell? ⟨B,7,none⟩=some (.slice o na cap):=by simp[World.cell?,hBW,exCells]
 clear hBW
 have hmn:=manyOf_le x.kind
 refine callsIn_of_wp Tryz.func75 rfl trivial ?_ rfl
 simp only[Tryz.ntmps75,List.size_toArray,List.length_cons,List.length_nil,Nat.reduceAdd,Nat.reduceSub,Array.replicate_succ,Array.replicate_zero,List.push_toArray,List.append_toArray,List.nil_append,List.cons_append]
 have hba:=Hd ((qB W.heap.size W).alloc (qL _) (.cells #[.int .i64 x.a,.int .i64 x.b,.int .i64 x.c] 104))
 have hsl:=slice_to W.heap.size (manyOf x.kind) hmn
 obtain⟨m,S,offS,so,capS,hcase⟩:∃(m S offS:Nat) (so:Option Addr) (capS:Nat),Hid ((x.kind=19∧m=na∧S=ba∧offS=offa∧so=o∧capS=cap)∨(¬x.kind=19∧m=manyOf x.kind∧S=W.heap.size∧offS=0∧so=some ⟨W.heap.size,0,none⟩∧capS=3)):=by
  by_cases h19:x.kind=19
  ·exact⟨_,_,_,_,_,Hd (.inl ⟨h19,rfl,rfl,rfl,rfl,rfl⟩)⟩
  ·exact⟨_,_,_,_,_,Hd (.inr ⟨h19,rfl,rfl,rfl,rfl,rfl⟩)⟩
 have hml:(m:Int)≤9223372036854775807:=by
  rcases hcase.out with ⟨_,rfl,_⟩ | ⟨_,rfl,_⟩ <;> omega
 have hlen:Hid ((partsE x).length=m):=Hd (by
  rcases hcase.out with ⟨h19,rfl,_⟩ | ⟨h19,rfl,_⟩
  ·rw[partsE_19 h19];exact hna.out
  ·exact partsE_len h19)
 have hix:Hid (∀j,j<m→Ix 44 1 (.slice so m capS) S offS j):=Hd (by
  intro j hj
  rcases hcase.out with ⟨h19,rfl,rfl,rfl,rfl,rfl⟩ | ⟨h19,rfl,rfl,rfl,rfl,rfl⟩
  ·exact ix_ints ho.out hj (by omega)
  ·exact ix_arr hj (by omega))
 have hsrc:Hid (0<m→SrcOk M rw w (W.alloc (.cells #[.int .i64 x.a,.int .i64 x.b,.int .i64 x.c] 104)) S):=Hd (by
  intro hm
  rcases hcase.out with ⟨h19,rfl,rfl,rfl,rfl,rfl⟩ | ⟨h19,rfl,rfl,rfl,rfl,rfl⟩
  ·obtain⟨⟨s1,s2,s3⟩,cs,T,fr,hcs⟩:=hS.out hm h19
   have hlt:=Nat.lt_of_lt_of_le s1 hW.out.size
   exact⟨s2,by simp;omega,s3,_,(hba.out.block _ hlt).trans ((hW.out.block _ s1).trans hcs),rfl⟩
  ·refine⟨fun hh=>?_,by simp,fun hh=>?_,_,World.alloc_heap_new W _,rfl⟩
   ·have:=hA.out.old _ hh;have:=hW.out.size;omega
   ·have:=hA.out.row _ hh;have:=hW.out.size;omega)
 have hcell:Hid (∀j,j<m→(W.alloc (.cells #[.int .i64 x.a,.int .i64 x.b,.int .i64 x.c] 104)).cell? ⟨S,offS+j,none⟩=some (.int .i64 ((partsE x).getD j 0))):=Hd (by
  intro j hj
  rcases hcase.out with ⟨h19,rfl,rfl,rfl,rfl,rfl⟩ | ⟨h19,rfl,rfl,rfl,rfl,rfl⟩
  ·obtain⟨⟨s1,s2,s3⟩,_⟩:=hS.out (by omega) h19
   have hlt:=Nat.lt_of_lt_of_le s1 hW.out.size
   rw[cell_same' (hba.out.block _ hlt),cell_same' (hW.out.block _ s1),hv.out j hj,partsE_19 h19]
  ·rw[partsE_get h19 hj,Nat.zero_add,World.cell?_alloc_new]
   match j,Nat.lt_of_lt_of_le hj hmn with
   | 0,_=>rfl
   | 1,_=>rfl
   | 2,_=>rfl)
 have hst:Hid (SrcAt rw w (W.alloc (.cells #[.int .i64 x.a,.int .i64 x.b,.int .i64 x.c] 104)) m S (W.alloc (.cells #[.int .i64 x.a,.int .i64 x.b,.int .i64 x.c] 104))):=Hd ⟨qL _,fun k hk=>.inl (by
  rwa [hA.out.same _ (hW.out.trans (hba.out.mono hW.out.size))] at hk),fun _=>rfl⟩
 have hJ1:=Hd (hJ.out _ _ _ h0.out (World.grownBy_alloc W (.cells #[.int .i64 x.a,.int .i64 x.b,.int .i64 x.c] 104) none))
 by_cases h19:x.kind=19
 ·obtain⟨_,rfl,rfl,rfl,rfl,rfl⟩ | ⟨h,_⟩:=hcase.out
  ·rw[h19] at hsl c0
   gi_wp2_with (refine⟨trivial,?_⟩;gi_at_call 58;((with_reducible refine(callsIn_wide.2 (fixed_any _ _)).mono ?_);rintro e w1 ⟨rfl,rfl⟩))
   clear hsl c0 c1 c2 c3 c7
   gi_loopw [25] (fun i wr=>∃(j:Nat) (pre:List (PartOf x)),i=.int .i64 j∧Hid (j≤m)∧Hid (pre.map (·.1)=(partsE x).take j)∧Hid (J pre wr)∧Hid (SrcAt rw w (W.alloc (.cells #[.int .i64 x.a,.int .i64 x.b,.int .i64 x.c] 104)) (m) S wr)) (fun i _=>m-litLen i)
   case atStart=>exact⟨0,[],rfl,Hd (Nat.zero_le _),Hd rfl,hJ1,hst⟩
   case round =>
    obtain⟨j,pre,rfl,hj,hpre,hJp,hSr⟩:=hrel
    have jl:=hj.out
    rcases Nat.lt_or_ge j (m) with hlt | hge
    ·have q3:(j:Int)<(m:Int):=by omega
     have ix:=hix.out j hlt
     unfold Ix at ix
     have hjl:j<(partsE x).length:=by rw[hlen.out];exact hlt
     obtain⟨p,hp⟩:∃p,p=(partsE x).getD j 0:=⟨_,rfl⟩
     have hmem:p ∈ partsE x:=by rw[hp,List.getD_eq_getElem?_getD,List.getElem?_eq_getElem hjl];exact List.getElem_mem hjl
     have xj:=(cell_same' (hSr.out.2.2 (by omega)) (offS+j)).trans (hcell.out j hlt)
     rw[←hp] at xj
     obtain⟨fn,tmps,assign,body,hy,hR⟩:=hY.out pre ⟨p,hmem⟩ wr hJp.out (by rw[show pre.length=j by have:=congrArg List.length hpre.out;simpa [List.length_take,Nat.min_eq_left (ql hjl)] using this];exact hjl)
     have hy':(Instr.yield lp #[.int .i64 p]).run prog wr=.ok (.round lp fn tmps assign body) wr:=hy
     have HR:=Hd hR
     have hpre':=Hd (take_pre (p:=⟨p,hmem⟩) hpre.out hjl hp)
     clear hy hR hp
     gi_wp2
     refine HR.out.mono ?_
     rintro e W3 (⟨rfl,hJ3,hk3⟩ | ⟨rfl,hJx3⟩)
     ·have hS3:=Hd (hSr.out.keep hk3 hsrc.out)
      have HJ3:=Hd hJ3
      clear hJ3 hk3
      gi_wp2
      go_roundw
      case rel=>exact⟨j+1,_,by go_num,Hd (by omega),hpre',HJ3,hS3⟩
      case measure=>simp[litLen];omega
     ·gi_wp2
      refine bodyPost_ret (results_none rfl _ _ _) rfl ?_
      exact⟨⟨_,rfl⟩,.inr ⟨_,⟨(partsE x).drop (j+1),by rw[hpre'.out,List.take_append_drop]⟩,hJx3⟩⟩
    ·obtain rfl:m=j:=by omega
     gi_wp2
     go_end0
     exact⟨⟨_,rfl⟩,.inl ⟨pre,by rw[hpre.out,←hlen.out,List.take_length],hJp.out⟩⟩
  ·exact absurd h19 h
 ·obtain⟨h,_⟩ | ⟨_,rfl,rfl,rfl,rfl,rfl⟩:=hcase.out
  ·exact absurd h h19
  ·have e19:(x.kind ==19)=false:=beq_false_of_ne h19
   gi_wp2_with (refine⟨trivial,?_⟩;gi_at_call 58;((with_reducible refine(callsIn_wide.2 (fixed_any _ _)).mono ?_);rintro e w1 ⟨rfl,rfl⟩))
   clear hsl c0 c1 c2 c3 c7
   gi_loopw [25] (fun i wr=>∃(j:Nat) (pre:List (PartOf x)),i=.int .i64 j∧Hid (j≤manyOf x.kind)∧Hid (pre.map (·.1)=(partsE x).take j)∧Hid (J pre wr)∧Hid (SrcAt rw w (W.alloc (.cells #[.int .i64 x.a,.int .i64 x.b,.int .i64 x.c] 104)) (manyOf x.kind) W.heap.size wr)) (fun i _=>manyOf x.kind-litLen i)
   case atStart=>exact⟨0,[],rfl,Hd (Nat.zero_le _),Hd rfl,hJ1,hst⟩
   case round =>
    obtain⟨j,pre,rfl,hj,hpre,hJp,hSr⟩:=hrel
    have jl:=hj.out
    rcases Nat.lt_or_ge j (manyOf x.kind) with hlt | hge
    ·have q3:(j:Int)<((manyOf x.kind:Nat):Int):=by omega
     have ix:=hix.out j hlt
     unfold Ix at ix
     have hjl:j<(partsE x).length:=by rw[hlen.out];exact hlt
     obtain⟨p,hp⟩:∃p,p=(partsE x).getD j 0:=⟨_,rfl⟩
     have hmem:p ∈ partsE x:=by rw[hp,List.getD_eq_getElem?_getD,List.getElem?_eq_getElem hjl];exact List.getElem_mem hjl
     have xj:=(cell_same' (hSr.out.2.2 (by omega)) (0+j)).trans (hcell.out j hlt)
     rw[←hp,Nat.zero_add] at xj
     obtain⟨fn,tmps,assign,body,hy,hR⟩:=hY.out pre ⟨p,hmem⟩ wr hJp.out (by rw[show pre.length=j by have:=congrArg List.length hpre.out;simpa [List.length_take,Nat.min_eq_left (ql hjl)] using this];exact hjl)
     have hy':(Instr.yield lp #[.int .i64 p]).run prog wr=.ok (.round lp fn tmps assign body) wr:=hy
     have HR:=Hd hR
     have hpre':=Hd (take_pre (p:=⟨p,hmem⟩) hpre.out hjl hp)
     clear hy hR hp
     gi_wp2
     refine HR.out.mono ?_
     rintro e W3 (⟨rfl,hJ3,hk3⟩ | ⟨rfl,hJx3⟩)
     ·have hS3:=Hd (hSr.out.keep hk3 hsrc.out)
      have HJ3:=Hd hJ3
      clear hJ3 hk3
      gi_wp2
      go_roundw
      case rel=>exact⟨j+1,_,by go_num,Hd (by omega),hpre',HJ3,hS3⟩
      case measure=>simp[litLen];omega
     ·gi_wp2
      refine bodyPost_ret (results_none rfl _ _ _) rfl ?_
      exact⟨⟨_,rfl⟩,.inr ⟨_,⟨(partsE x).drop (j+1),by rw[hpre'.out,List.take_append_drop]⟩,hJx3⟩⟩
    ·have hjm:j=manyOf x.kind:=by omega
     have hst2:=Hd hpre.out
     have q3:decide ((j:Int)<((manyOf x.kind:Nat):Int))=false:=qF (by omega)
     have HJM:=Hd hjm
     clear hjm
     gi_wp2
     go_end0
     exact⟨⟨_,rfl⟩,.inl ⟨pre,by rw[hst2.out,HJM.out,←hlen.out,List.take_length],hJp.out⟩⟩
def Srcs (w:World) (x:Ex) (B:Nat) (no:Nat→Prop):Prop:=∃o cap ba offa,w.heap[B]?=some (.cells (exCells x (.slice o x.args.length cap)) 48 (0,0))∧x.args.length≤reachN∧(0<x.args.length→o=some ⟨ba,offa,none⟩) ∧
 (∀j,j<x.args.length→w.cell? ⟨ba,offa+j,none⟩=some (.int .i64 (x.args.getD j 0)))∧¬no B∧(0<x.args.length→¬no ba)
theorem block_of_cell {w:World} {b o:Nat} {v:Value} (h:w.cell? ⟨b,o,none⟩=some v):∃cs T fr,w.heap[b]?=some (.cells cs T fr):=by
 unfold World.cell? at h
 split at h
 ·exact⟨_,_,_,by assumption⟩
 ·cases h
theorem parts_stops (n:Nat) (hn:1≤n) (x:Ex) (B:Nat) (M:Nat→Prop) (rw:World→Option Nat) (w:World) (hA:Around M rw w) (hs:Srcs w x B (fun k=>M k∨rw w=some k)) :
  SeqStopsK Fence.wide n prog 75 #[.pointer (some ⟨B,0,none⟩)] (fun p:PartOf x=>#[.int .i64 p.1]) (KeepM M rw w.heap.size) (fun ys=>ys.map (·.1)=partsE x) (fun pre=>pre.map (·.1) <+: partsE x) (partsE x).length w:=by
 obtain⟨o,cap,ba,offa,h1,h2,h3,h4,h5,h6⟩:=hs
 have hlt:∀{k:Nat} {o:Obj},w.heap[k]?=some o→k<w.heap.size:=fun h=>(Array.getElem?_eq_some_iff.1 h).1
 unfold reachN at h2
 exact fun lp J Jx W hW hJ _ hY h0=>parts_core Fence.wide n rfl hn x o cap ba offa _ (Hd rfl) (by omega) M rw B w (Hd hA) (Hd ⟨hlt h1,fun h=>h5 (.inl h),fun h=>h5 (.inr h)⟩) (Hd h1) (Hd h3)
  (Hd fun hp _=>by
   obtain⟨cs,T,fr,hcs⟩:=block_of_cell (h4 0 hp)
   exact⟨⟨hlt hcs,fun h=>h6 hp (.inl h),fun h=>h6 hp (.inr h)⟩,cs,T,fr,hcs⟩) (Hd h4) lp J Jx W
  (Hd hW) (Hd fun s X Y h1 h2=>hJ s X Y none h1 h2 (fun r e=>by cases e)) (Hd hY) (Hd h0)
theorem srcs_of {w W:World} {x:Ex} {s:Value} {B:Nat} {no:Nat→Prop} (ha:IntsAt w s x.args) (hk:ExOk x) (hb:Below w.heap.size w W) (hB:W.heap[B]?=some (.cells (exCells x s) 48 (0,0))) (hn:∀k,no k→w.heap.size≤k) (hnB:¬no B):Srcs W x B no:=by
 obtain⟨o,cap,ba,offa,rfl,h1,h2,h3,h4⟩:=ha
 have h5:∀j,j<x.args.length→w.cell? ⟨ba,offa+j,none⟩=some (.int .i64 (x.args.getD j 0)):=fun j hj=>by have:=h4 j hj;rwa [Nat.mul_one] at this
 refine⟨o,cap,ba,offa,hB,hk.args,h3,fun j hj=>cell_on hb (h5 j hj),hnB,fun hp hno=>?_⟩
 have:=hn _ hno
 have:ba<w.heap.size:=World.block_lt_of_cell? _ _ (h5 0 hp)
 omega
end Go.Proofs.YthpgfahlccljnaaGreatDoor
namespace Go.Proofs.YthpgfahlccljnaaGreatDoor
open Go.RowKit Go.Shelf
attribute [local go_sem] Oper.semAt_some
theorem int_info:(prog.info? 3).map (fun i=>(i.zero,i.size,i.bytes))=some (some (.int .i64 0),1,8):=by kernel_rfl
theorem row_after {W:World} {base:Nat} {i:TypeInfo} {z:Value} {ty:TypeId} (h2:prog.info? 3=some i) (h3:i.zero=some z) (h4:i.size=1) (h5:i.bytes=8)
  (v:Value) (k:Nat) (xs:List Value) (hown:W.ownsRow base 3 1 v k xs) (ad:Addr) (news:List Value) (hn:news.length=1*1)
  (hc:∀j u,news[j]?=some u→W.cell? (ad.add j)=some u) (h1c:∀u ∈ news,u.oneCell'=true) (hk:k≤1000000000) (v':Value) (w':World)
  (hrun:(Builtin.append_ #[44,44] ty #[v,.slice (some ad) 1 1]).run prog W=.ok v' w'):v'.ownBlock=v.ownBlock∨v'.ownBlock=some W.heap.size:=by
 rcases hown.2 with ⟨rfl,rfl⟩ | ⟨g,cap,cur,rfl,hbg,hg,hnc,hcm,hcs,htake⟩
 ·have hr:=run_append_nil (P:=prog) W 44 ty 3 i z Tryz.underlying44 h2 h3 ad 1 1 news (by rw[h4];exact hn) hc (by omega) (by omega) (by rw[h5];omega)
  rw[hr] at hrun
  cases hrun
  exact .inr rfl
 ·by_cases hroom:k+1≤cap
  ·have hr:=run_append_room (P:=prog) W 44 ty 3 i Tryz.underlying44 h2 g k cap cur hg ad 1 1 news (by rw[h4];exact hn) hc h1c hroom (by rw[h4,hcs];omega)
   rw[hr] at hrun
   cases hrun
   exact .inl rfl
  ·have holds:∀j u,xs[j]?=some u→W.cell? ((⟨g,0,none⟩:Addr).add j)=some u:=hown.cells (g:=g) rfl
   have hr:=run_append_grow (P:=prog) W 44 ty 3 i z Tryz.underlying44 h2 h3 ⟨g,0,none⟩ k cap xs (by rw[h4];exact hown.1) holds ad 1 1 news (by rw[h4];exact hn) hc (by omega) (by omega) (growslice_fits (by omega) (by rw[h5];omega))
   rw[hr] at hrun
   cases hrun
   exact .inr rfl
theorem wpListIn_append_int {F:Fence} {n:Nat} (w:World) {ops:Array Oper} {rest:List Oper} {o:Oper} {a:Act} {Q:Exit→Act→World→Prop}
  (hg:o.guard=none) (s x:Operand) (hop:o.op=Op.call { callee:=Callee.builtin Builtin.append,args:=#[s,x],argTypes:=#[44,44] })
  (base:Nat) (v:Value) (k:Nat) (xs:List Value) (hs:a.eval s=v) (hown:w.ownsRow base 3 1 v k xs) (ad:Addr) (news:List Value) (hx:a.eval x=.slice (some ad) 1 1) (hn:news.length=1*1)
  (hc:∀j u,news[j]?=some u→w.cell? (ad.add j)=some u) (h1c:∀u ∈ news,u.oneCell'=true) (hk:k≤1000000000) (b3:base≤w.heap.size)
  (hK:∀v' w',w'.ownsRow base 3 1 v' (k+1) (xs++news)→w.grownBy w' v.ownBlock→(v'.ownBlock=v.ownBlock∨v'.ownBlock=some w.heap.size)→wpListIn F n prog ops Q rest (a.put o.dst v') w') :
  wpListIn F n prog ops Q (o :: rest) a w:=by
 obtain⟨i,h2,h3,h4,h5⟩:=info_parts int_info
 refine wpListIn_plain hg fun K hK'=>?_
 obtain⟨v',w',hrun,r1,r2,_⟩:=run_append_own (P:=prog) w base 44 o.type 3 i _ 1 8 Tryz.underlying44 h2 h3 h4 h5 rfl (by decide) v k xs hown ad 1 1 news hn hc h1c (by unfold maxLen;omega) (by omega) b3
 have r3:=row_after h2 h3 h4 h5 v k xs hown ad news hn hc h1c hk v' w' hrun
 unfold Oper.wpIn
 refine⟨?_,?_⟩
 ·simp[Oper.about,hop,resolve,Target.leads,Sem.run_pure]
 ·rw[Oper.semAt_plain F _ _ (by rw[hop];intro c hc';cases hc')]
  simp[execOp,hop,resolve,invoke,builtin,hs,hx,hrun,Result.andThen]
  exact hK' _ _ (hK v' w' r1 r2 r3)
theorem lt_of_heap {W:World} {k:Nat} {o:Obj} (h:W.heap[k]?=some o):k<W.heap.size:=(Array.getElem?_eq_some_iff.1 h).1
theorem set_other (W:World) (g k i:Nat) (v:Value) (h:k≠g):(W.setCell ⟨g,i,none⟩ v).heap[k]?=W.heap[k]?:=Below.heap_setCell W ⟨g,i,none⟩ v k h
theorem heap_old (W:World) (o:Obj) (k:Nat) (h:k<W.heap.size):(W.alloc o).heap[k]?=W.heap[k]?:=((qB W.heap.size W).alloc (qL _) o).block k h
def intV (p:Int):Value:=.int .i64 p
def NewInts (l:List Int) (w:World) (e:Ending) (w':World):Prop:=∃v,e=.returned v∧w'.ownsRow w.heap.size 3 1 v l.length (l.map intV)∧Below w.heap.size w w'
def exV (x:Ex) (s:Value):Value:=.agg (exCells x s)
end Go.Proofs.YthpgfahlccljnaaGreatDoor
namespace Go.Proofs.YthpgfahlccljnaaGreatDoor
open Go.RowKit
theorem wpList_append_ints (w:World) {ops:Array Oper} {rest:List Oper} {o:Oper} {a:Act} {Q:Exit→Act→World→Prop}
  (hg:o.guard=none) (s x:Operand) (hop:o.op=Op.call { callee:=Callee.builtin Builtin.append,args:=#[s,x],argTypes:=#[44,44] })
  (base:Nat) (v:Value) (k:Nat) (xs:List Value) (hs:a.eval s=v) (hown:w.ownsRow base 3 1 v k xs) (oa:Option Addr) (m cap b off:Nat) (hx:a.eval x=.slice oa m cap) (hcap:CapOk oa cap) (ho:0<m→oa=some ⟨b,off,none⟩)
  (l:List Int) (hl:l.length=m) (hc:∀j,j<m→w.cell? ⟨b,off+j,none⟩=some (.int .i64 (l.getD j 0))) (hk:k+m≤1000000000) (b3:base≤w.heap.size)
  (hK:∀v' w',w'.ownsRow base 3 1 v' (k+m) (xs++l.map intV)→w.grownBy w' v.ownBlock→wpList prog ops Q rest (a.put o.dst v') w') :
  wpList prog ops Q (o :: rest) a w:=by
 obtain⟨i,h2,h3,h4,h5⟩:=info_parts int_info
 cases oa with
 | none =>
  obtain rfl:m=0:=by rcases Nat.eq_zero_or_pos m with h | h;exact h;exact absurd (ho h) (by simp)
  obtain rfl:cap=0:=hcap.2 rfl
  refine wpList_append_own_none hg s x 44 hop base 3 i 1 Tryz.underlying44 h2 v k xs hs hown hx (hK _ _ ?_ ⟨rfl,rfl,rfl,qL _,fun _ _ _=>rfl⟩)
  obtain rfl:l=[]:=List.eq_nil_of_length_eq_zero hl
  simpa using hown
 | some ad =>
  refine wpList_append_own _ hg s x 44 hop base 3 i _ 1 8 Tryz.underlying44 h2 h3 h4 h5 rfl (by decide) v k xs hs hown ad m cap (l.map intV) hx (by rw[List.length_map,hl,Nat.mul_one]) ?_ ?_ (by unfold maxLen;omega) (by omega) b3 (fun v' w' r1 r2 _=>hK v' w' r1 r2)
  ·intro j u hj
   rw[List.getElem?_map,Option.map_eq_some_iff] at hj
   obtain⟨z,hz,rfl⟩:=hj
   have hjl:=(List.getElem?_eq_some_iff.1 hz).1
   obtain rfl:ad=⟨b,off,none⟩:=qI (ho (by omega))
   have:=hc j (by omega)
   rw[List.getD_eq_getElem?_getD,hz] at this
   rw[show(⟨b,off,none⟩:Addr).add j=⟨b,off+j,none⟩ by unfold Addr.add;split <;> simp_all,this]
   rfl
  ·intro u hu
   obtain⟨z,_,rfl⟩:=List.mem_map.1 hu
   rfl
theorem empty_row (W:World) (B base:Nat) (hB:W.heap[B]?=some (.cells #[] 3 (0,0))) (hb:base≤B):W.ownsRow base 3 1 (.slice (some ⟨B,0,none⟩) 0 0) 0 [] :=
 ⟨rfl,.inr ⟨B,0,#[],rfl,hb,hB,qL _,by unfold maxLen;omega,rfl,rfl⟩⟩
theorem heap_new2 (w:World) (o o':Obj):((w.alloc o).alloc o').heap[w.heap.size+1]?=some o':=by have:=World.alloc_heap_new (w.alloc o) o';rwa [World.size_alloc] at this
theorem Below.alloc2 (w:World) (o o':Obj):Below w.heap.size w ((w.alloc o).alloc o'):=((qB _ _).alloc (qL _) _).alloc (by simp) _
theorem refParts_args (x:Ex) (hk:x.kind=19) (o:Option Addr) (cap b off n:Nat) (hn:Hid (x.args.length=n)) (nl:n≤1000) (hcap:Hid (CapOk o cap)) (ho:Hid (0<n→o=some ⟨b,off,none⟩)) (w:World) (hc:Hid (∀j,j<n→w.cell? ⟨b,off+j,none⟩=some (.int .i64 (x.args.getD j 0)))) :
  Calls prog 29 #[.agg #[.int .i64 x.kind,.int .i64 x.a,.int .i64 x.b,.int .i64 x.c,.string x.name,.string x.state,.int .i64 x.v,.slice o n cap,.int .i64 x.pos]] w fun e w'=>NewInts (partsE x) w e w':=by
 have hpl:=Hd (partsE_19 hk)
 have hm:manyR x.kind=-1:=by unfold manyR;rw[if_pos hk]
 rw[hk] at hm ⊢
 have HM:=Hd hm
 clear hm hk
 go_enter Tryz.func29,Tryz.ntmps29
 go_wp2_with (first | (go_at_call 30;((with_reducible refine(many_any _ _).mono ?_);rintro e w1 ⟨rfl,rfl⟩;rw[HM.out])) | (at_builtin;refine wpList_append_ints _ rfl _ _ rfl w.heap.size (.slice (some ⟨w.heap.size+1,0,none⟩) 0 0) 0 [] rfl (empty_row _ _ _ (heap_new2 _ _ _) (by omega)) o n cap b off rfl hcap.out ho.out x.args hn.out (fun j hj=>cell_on (Below.alloc2 _ _ _) (hc.out j hj)) (by omega) (by simp;omega) ?_;intro v' w2 hown hg;have H1:=Hd hown;have H2:=Hd hg;clear hown hg))
 go_ret
 refine⟨_,rfl,?_,?_⟩
 ·rw[hpl.out,hn.out]
  have:=H1.out
  rwa [Nat.zero_add,List.nil_append] at this
 ·refine⟨H2.out.os,H2.out.tape,H2.out.output,Nat.le_trans (by simp;omega) H2.out.size,fun k hk=>(H2.out.block k (by simp;omega) (fun e=>by simp[Value.ownBlock] at e;omega)).trans ((Below.alloc2 w _ _).block k hk)⟩
theorem refParts_abc (x:Ex) (hk:¬x.kind=19) (s:Value) (w:World) :
  Calls prog 29 #[.agg #[.int .i64 x.kind,.int .i64 x.a,.int .i64 x.b,.int .i64 x.c,.string x.name,.string x.state,.int .i64 x.v,s,.int .i64 x.pos]] w fun e w'=>NewInts (partsE x) w e w':=by
 have hpl:=Hd (partsE_abc hk)
 have hln:=Hd (partsE_len hk)
 have hmn:=manyOf_le x.kind
 obtain⟨m,hm⟩:∃m,m=manyOf x.kind:=⟨_,rfl⟩
 have hm2:manyR x.kind=(m:Int):=by unfold manyR;rw[if_neg hk,hm]
 have HM:=Hd hm2
 rw[←hm] at hmn hpl hln
 clear hm2 hk hm
 have q0:(m:Int)≤3:=by omega
 go_enter Tryz.func29,Tryz.ntmps29
 go_wp2_with (first | (go_at_call 30;((with_reducible refine(many_any _ _).mono ?_);rintro e w1 ⟨rfl,rfl⟩;rw[HM.out])))
 go_ret
 refine⟨_,rfl,?_,Below.alloc2 _ _ _⟩
 rw[hln.out]
 refine⟨by rw[List.length_map,hln.out,Nat.mul_one],.inr ⟨w.heap.size+1,3,#[.int .i64 x.a,.int .i64 x.b,.int .i64 x.c],rfl,by omega,heap_new2 _ _ _,by omega,by unfold maxLen;omega,rfl,?_⟩⟩
 rw[hpl.out,Nat.mul_one,List.map_take]
 rfl
theorem refParts_any (x:Ex) (s:Value) (w:World) (ha:IntsAt w s x.args) (hp:(partsE x).length≤1000):Calls prog 29 #[exV x s] w fun e w'=>NewInts (partsE x) w e w':=by
 by_cases h19:x.kind=19
 ·obtain⟨o,cap,b,off,rfl,h1,h2,h3,h4⟩:=ha
  exact refParts_args x h19 o cap b off _ (Hd rfl) (by rw[partsE_19 h19] at hp;exact hp) (Hd h2) (Hd h3) w (Hd fun j hj=>by have:=h4 j hj;rwa [Nat.mul_one] at this)
 ·exact refParts_abc x h19 s w
end Go.Proofs.YthpgfahlccljnaaGreatDoor
namespace Go.Proofs.YthpgfahlccljnaaGreatDoor
open Go.RowKit Go.Shelf
attribute [local go_sem] Oper.semAt_some
def partOk (i:Nat) (p:Int):Bool:=decide (0≤p)&&decide (p<(i:Int))
def restE (x:Ex):Bool:=(namedK x.kind ==decide (x.name.size≠0))&&(decide (x.kind=20) ==decide (x.state.size≠0))&&(decide (x.kind=19)||decide (x.args.length=0))&&decide (0≤x.v)&&decide (x.v≤mostV x.kind)
theorem mayE_kind {x:Ex} {i:Nat} (h:¬(1≤x.kind∧x.kind≤21)):mayE x i=false:=by
 unfold mayE
 by_cases h1:1≤x.kind
 ·rw[qF (show ¬x.kind≤21 by omega)];simp
 ·rw[qF h1];simp
theorem mayE_parts {x:Ex} {i:Nat} {p:Int} (hp:p ∈ partsE x) (h:partOk i p=false):mayE x i=false:=by
 have:(partsE x).all (fun p=>decide (0≤p)&&decide (p<(i:Int)))=false:=by
  rw[List.all_eq_false];exact⟨p,hp,by unfold partOk at h;simpa using h⟩
 unfold mayE;rw[this];simp
theorem mayE_rest {x:Ex} {i:Nat} {p:Int} (hp:p ∈ [x.a,x.b,x.c].drop (manyOf x.kind)) (h:p≠0):mayE x i=false:=by
 have:([x.a,x.b,x.c].drop (manyOf x.kind)).all (fun p=>decide (p=0))=false:=by
  rw[List.all_eq_false];exact⟨p,hp,by simpa using h⟩
 unfold mayE;rw[this];simp
theorem mayE_last {x:Ex} {i:Nat} (h:1≤x.kind∧x.kind≤21) (hp:∀p ∈ partsE x,partOk i p=true) (hr:∀p ∈ [x.a,x.b,x.c].drop (manyOf x.kind),p=0):mayE x i=restE x:=by
 have h1:(partsE x).all (fun p=>decide (0≤p)&&decide (p<(i:Int)))=true:=by rw[List.all_eq_true];exact hp
 have h2:([x.a,x.b,x.c].drop (manyOf x.kind)).all (fun p=>decide (p=0))=true:=by rw[List.all_eq_true];intro p hpm;exact qT (hr p hpm)
 unfold mayE restE
 rw[h1,h2,qT h.1,qT h.2];simp
def MInv (x:Ex) (s:Value) (i:Nat) (w:World) (pre:List (PartOf x)) (W:World):Prop :=
 (W.heap[w.heap.size]?=some (.cells (exCells x s) 48 (0,0))∧W.heap[w.heap.size+1]?=some (.cells #[.int .i64 (i:Int)] 3 (0,0))∧W.heap[w.heap.size+2]?=some (.cells #[.bool false] 4 (0,0))) ∧
 (∀p ∈ pre,partOk i p.1=true)∧Below w.heap.size w W∧w.heap.size+4≤W.heap.size
def MLeft (x:Ex) (i:Nat) (w:World) (c:Code) (pre:List (PartOf x)) (W:World):Prop :=
 c=.ret∧W.heap[w.heap.size+2]?=some (.cells #[.bool false] 4 (0,0))∧(∃p ∈ pre,partOk i p.1=false)∧Below w.heap.size w W∧w.heap.size+4≤W.heap.size
theorem minv_own (x:Ex) (s:Value) (i:Nat) (w:World):OwnFrom (w.heap.size+4) (MInv x s i w):=by
 rintro pre X Y row ⟨⟨h1,h2,h3⟩,h4,h5,h6⟩ hg hrow
 have hne:∀b,b<w.heap.size+4→some b≠row:=fun b hb e=>by have:=(hrow b e.symm).1;omega
 exact⟨⟨(hg.block _ (lt_of_heap h1) (hne _ (by omega))).trans h1,(hg.block _ (lt_of_heap h2) (hne _ (by omega))).trans h2,(hg.block _ (lt_of_heap h3) (hne _ (by omega))).trans h3⟩,h4,
  h5.grown hg h5.size (fun k e=>by have:=(hrow k e).1;omega),Nat.le_trans h6 hg.size⟩
theorem mleft_own (x:Ex) (i:Nat) (w:World) (c:Code):OwnFrom (w.heap.size+4) (MLeft x i w c):=by
 rintro pre X Y row ⟨hc,h3,h4,h5,h6⟩ hg hrow
 have hne:∀b,b<w.heap.size+4→some b≠row:=fun b hb e=>by have:=(hrow b e.symm).1;omega
 exact⟨hc,(hg.block _ (lt_of_heap h3) (hne _ (by omega))).trans h3,h4,h5.grown hg h5.size (fun k e=>by have:=(hrow k e).1;omega),Nat.le_trans h6 hg.size⟩
def MayPost (r:Bool) (w:World) (e:Ending) (w':World):Prop:=e=.returned (.bool r)∧Below w.heap.size w w'
theorem keepM_none {M:Nat→Prop} {N:Nat} (W:World) (l:Nat) (o o':Obj) (hl:N≤l) (h:W.heap[l]?=some o) (hc:o.isCells=false):KeepM M (fun _=>none) N W (W.putObj l o'):=by
 have hg:=grownBy_putObj' W l o'
 refine⟨hg.size,fun k hk _ _ hh=>hg.block k hk (fun e=>?_),fun k hk=>by cases hk⟩
 cases e
 rcases hh with h1 | ⟨o2,h1,h2⟩
 ·omega
 ·rw[h] at h1;cases h1;rw[hc] at h2;cases h2
theorem mayAt_kind (x:Ex) (s:Value) (i:Nat) (h:¬(1≤x.kind∧x.kind≤21)) (w:World) :
  Calls prog 31 #[exV x s,.int .i64 (i:Int)] w fun e w'=>MayPost (mayE x i) w e w':=by
 rw[mayE_kind h]
 unfold exV exCells
 by_cases h1:x.kind<1
 ·have q:decide (x.kind<1)=true:=qT h1
  go_enter Tryz.func31,Tryz.ntmps31
  go_wp2_with fail
  refine bodyPost_ret (v:=.bool false) (by simp[results,Tryz.results31,go_sem]) rfl ⟨rfl,?_⟩
  exact(((qB _ _).alloc (qL _) _).alloc (by simp) _).alloc (by simp;omega) _
 ·have q:decide (x.kind<1)=false:=qF h1
  have q2:decide (21<x.kind)=true:=qT (by omega)
  go_enter Tryz.func31,Tryz.ntmps31
  go_wp2_with fail
  refine bodyPost_ret (v:=.bool false) (by simp[results,Tryz.results31,go_sem]) rfl ⟨rfl,?_⟩
  exact(((qB _ _).alloc (qL _) _).alloc (by simp) _).alloc (by simp;omega) _
theorem set_heap {W:World} {g:Nat} {cs:Array Value} {T:TypeId} {fr:Nat×Nat} (h:W.heap[g]?=some (.cells cs T fr)) (i:Nat) (v:Value):(W.setCell ⟨g,i,none⟩ v).heap[g]?=some (.cells (cs.setIfInBounds i v) T fr):=by
 obtain⟨hlt,hk⟩:=Array.getElem?_eq_some_iff.1 h
 show(W.heap.modify g _)[g]?=_
 rw[Array.getElem?_eq_getElem (by rw[Array.size_modify];exact hlt),Array.getElem_modify_self,hk]
 rfl
theorem four (w:World) (o1 o2 o3 o4:Obj):let W:=(((w.alloc o1).alloc o2).alloc o3).alloc o4
  W.heap[w.heap.size]?=some o1∧W.heap[w.heap.size+1]?=some o2∧W.heap[w.heap.size+2]?=some o3∧W.heap[w.heap.size+3]?=some o4∧Below w.heap.size w W∧W.heap.size=w.heap.size+4:=by
 have z1:(w.alloc o1).heap.size=w.heap.size+1:=World.size_alloc _ _
 have z2:((w.alloc o1).alloc o2).heap.size=w.heap.size+2:=by rw[World.size_alloc,z1]
 have z3:(((w.alloc o1).alloc o2).alloc o3).heap.size=w.heap.size+3:=by rw[World.size_alloc,z2]
 have a1:=World.alloc_heap_new w o1
 have a2:=World.alloc_heap_new (w.alloc o1) o2
 have a3:=World.alloc_heap_new ((w.alloc o1).alloc o2) o3
 have a4:=World.alloc_heap_new (((w.alloc o1).alloc o2).alloc o3) o4
 rw[z1] at a2
 rw[z2] at a3
 rw[z3] at a4
 refine⟨?_,?_,?_,a4,(((((qB _ w).alloc (qL _) o1).alloc (by omega) o2).alloc (by omega) o3).alloc (by omega) o4),by rw[World.size_alloc,z3]⟩
 ·rw[heap_old _ _ _ (by omega),heap_old _ _ _ (by omega),heap_old _ _ _ (by omega),a1]
 ·rw[heap_old _ _ _ (by omega),heap_old _ _ _ (by omega),a2]
 ·rw[heap_old _ _ _ (by omega),a3]
theorem still_of_quiet {P:Program} {ops:Array Oper} {w:World} {Q:Act→Prop}:∀(l:List Oper) (a:Act),wpQuiet P ops (fun w'=>w'=w) Q l a→wpStill P ops w Q l a
 | [],_,h=>h
 | o :: rest,a,h=>by
  unfold wpQuiet at h
  unfold wpStill
  by_cases hw:Region.wanted o (yielded ops a.tmps)=true
  ·rw[if_pos hw] at h ⊢
   obtain⟨v,h1,h2⟩:=h
   have h3:=h1 w rfl
   have h4:=still_of_quiet rest _ h2
   unfold Oper.quietAt at h3
   unfold Oper.still
   revert h3
   generalize (execOp a.eval o).run P w=r
   intro h3
   match r,h3 with
   | .ok (.value u) w',⟨e1,e2⟩=>exact⟨e1,by rw[e2];exact h4⟩
   | .ok .skip w',⟨e1,e2⟩=>exact⟨e1,by rw[←e2];exact h4⟩
   | .ok (.enter f args) w',⟨e1,e2⟩=>exact⟨e1,v,e2,h4⟩
  ·rw[if_neg hw] at h ⊢
   exact still_of_quiet rest _ h
theorem tail_by_quiet {id:Nat} {P:Program} {Q:Exit→Act→World→Prop} {a:Act} {w:World} {l:List Oper} (n:Nat) (hm:P.follows .mixedOrders=true) (hB:Region.lexTailB .any l.toArray n=true)
  (h:wpQuiet P l.toArray (fun w'=>w'=w.drew) (fun a'=>wpList P l.toArray Q (l.drop n) a' w.drew) (l.take n) a):(Code.region id l.toArray true).wp P Q a w:=wp_region_still_tail n hm hB (still_of_quiet _ _ h)
theorem drop_mem {l:List Int} {m j:Nat} (h:m+j<l.length):l.getD (m+j) 0 ∈ l.drop m:=by
 rw[List.getD_eq_getElem?_getD,List.getElem?_eq_getElem h]
 exact List.mem_iff_getElem.2 ⟨j,by rw[List.length_drop];omega,by rw[List.getElem_drop];rfl⟩
def MayEnd (x:Ex) (i:Nat) (w:World) (D:Nat) (W:World) (b:Bool):Prop:=∀n:Nat,
 ((((W.setCell ⟨w.heap.size+1+1,0,none⟩ (.bool b)).alloc (.cells #[.int .i64 x.a,.int .i64 x.b,.int .i64 x.c] 104)).drewN n).putObj D (.deferred none)).cell? ⟨w.heap.size+1+1,0,none⟩=some (.bool b) ∧
 (((W.setCell ⟨w.heap.size+1+1,0,none⟩ (.bool b)).alloc (.cells #[.int .i64 x.a,.int .i64 x.b,.int .i64 x.c] 104)).drewN n).heap[D]?=some (.deferred (some [])) ∧
 MayPost (mayE x i) w (.returned (.bool b)) ((((W.setCell ⟨w.heap.size+1+1,0,none⟩ (.bool b)).alloc (.cells #[.int .i64 x.a,.int .i64 x.b,.int .i64 x.c] 104)).drewN n).putObj D (.deferred none))
theorem may_end (x:Ex) (i:Nat) (w:World) (D:Nat) (W:World) (b:Bool) (hb1:b=mayE x i) (hb:Below w.heap.size w W) (hD:w.heap.size+4≤D) (m3:W.heap[w.heap.size+2]?=some (.cells #[.bool false] 4 (0,0))) (hK:W.heap[D]?=some (.deferred (some []))):MayEnd x i w D W b:=by
 intro n
 have e3:=set_heap m3 0 (.bool b)
 have e4:(W.setCell ⟨w.heap.size+1+1,0,none⟩ (.bool b)).heap[D]?=some (.deferred (some [])):=(set_other W (w.heap.size+2) D 0 (.bool b) (by omega)).trans hK
 have e5:((W.setCell ⟨w.heap.size+1+1,0,none⟩ (.bool b)).alloc (.cells #[.int .i64 x.a,.int .i64 x.b,.int .i64 x.c] 104)).heap[w.heap.size+2]?=_:=(heap_old _ _ _ (lt_of_heap e3)).trans e3
 have e6:(((W.setCell ⟨w.heap.size+1+1,0,none⟩ (.bool b)).alloc (.cells #[.int .i64 x.a,.int .i64 x.b,.int .i64 x.c] 104)).drewN n).heap[D]?=_:=(heap_old _ _ _ (lt_of_heap e4)).trans e4
 have e7:((((W.setCell ⟨w.heap.size+1+1,0,none⟩ (.bool b)).alloc (.cells #[.int .i64 x.a,.int .i64 x.b,.int .i64 x.c] 104)).drewN n).putObj D (.deferred none)).heap[w.heap.size+2]?=_:=(World.putObj_heap_other (by omega)).trans e5
 refine⟨by simp[World.cell?,e7],e6,by rw[←hb1],?_⟩
 have h2:=hb.setCell (p:=⟨w.heap.size+1+1,0,none⟩) (Nat.le_trans (Nat.le_succ _) (Nat.le_succ _)) (.bool b)
 have h3:=below_dr (h2.alloc h2.size (.cells #[.int .i64 x.a,.int .i64 x.b,.int .i64 x.c] 104)) n
 exact h3.trans (belowK_b (w:=w) (qL _) _ D _ _ (by omega) e6 rfl rfl)
theorem empty_size (s:ByteArray):s.toList.isEmpty=decide (s.size=0):=by
 rw[Lib.toList_data,Bool.eq_iff_iff,List.isEmpty_iff,decide_eq_true_eq]
 constructor
 ·intro h;show s.data.size=0;rw[←Array.length_toList,h];rfl
 ·intro h;exact List.eq_nil_of_length_eq_zero (by rw[Array.length_toList];exact h)
theorem restE_w (x:Ex) (nb q20 q19 ne se ae:Bool) (h1:namedK x.kind=nb) (h2:(x.kind ==20)=q20) (h3:(x.kind ==19)=q19) (h4:x.name.toList.isEmpty=!ne) (h5:x.state.toList.isEmpty=!se) (h6:decide (x.args.length=0)=ae) :
  restE x=((nb ==ne)&&(q20 ==se)&&(q19||ae)&&decide (0≤x.v)&&decide (x.v≤mostV x.kind)):=by
 have e4:decide (x.name.size≠0)=ne:=by
  rw[empty_size] at h4
  rw[show decide (x.name.size≠0)=!decide (x.name.size=0) from by simp,h4];simp
 have e5:decide (x.state.size≠0)=se:=by
  rw[empty_size] at h5
  rw[show decide (x.state.size≠0)=!decide (x.state.size=0) from by simp,h5];simp
 have e2:decide (x.kind=20)=q20:=by rw[←h2];rfl
 have e3:decide (x.kind=19)=q19:=by rw[←h3];rfl
 unfold restE
 rw[h1,e2,e3,e4,e5,h6]
end Go.Proofs.YthpgfahlccljnaaGreatDoor
namespace Go.Proofs.YthpgfahlccljnaaGreatDoor
open Go.RowKit
theorem has_any (k:Int) (w:World):Calls prog 16 #[.int .i64 k] w fun e w'=>e=.returned (.tuple #[.bool (hasE k),.bool (hasF k)])∧w'=w:=by
 by_cases h:1≤k∧k≤7
 ·have h2:k=1∨k=2∨k=3∨k=4∨k=5∨k=6∨k=7:=by omega
  clear h
  rcases h2 with rfl | rfl | rfl | rfl | rfl | rfl | rfl
  all_goals
   go_enter Tryz.func16,Tryz.ntmps16
   go_wp2_with fail
   go_ret2
   exact⟨rfl,rfl⟩
 ·have hr1:hasE k=false:=by unfold hasE;rw[qF (show ¬k=1 by omega),qF (show ¬k=4 by omega),qF (show ¬k=2 by omega),qF (show ¬k=3 by omega),qF (show ¬k=5 by omega)];rfl
  have hr2:hasF k=false:=by unfold hasF;rw[qF (show ¬k=2 by omega),qF (show ¬k=3 by omega),qF (show ¬k=5 by omega),qF (show ¬k=7 by omega)];rfl
  have e2:(k ==2)=false:=beq_false_of_ne (by omega)
  have e3:(k ==3)=false:=beq_false_of_ne (by omega)
  have e5:(k ==5)=false:=beq_false_of_ne (by omega)
  have e7:(k ==7)=false:=beq_false_of_ne (by omega)
  rw[hr1,hr2]
  clear hr1 hr2
  by_cases h1:1≤k
  ·have t1:decide (1≤k)=true:=qT h1
   have t2:decide (k≤5)=false:=qF (by omega)
   clear h h1
   go_enter Tryz.func16,Tryz.ntmps16
   go_wp2_with fail
   go_ret2
   exact⟨rfl,rfl⟩
  ·have t1:decide (1≤k)=false:=qF h1
   clear h h1
   go_enter Tryz.func16,Tryz.ntmps16
   go_wp2_with fail
   go_ret2
   exact⟨rfl,rfl⟩
theorem points_any (has:Bool) (e:Int) (n cap:Nat) (o:Option Addr) (o1:Option Addr) (m cap1:Nat) (w:World) :
  Calls prog 15 #[.agg #[.slice o1 m cap1,.slice o n cap],.int .i64 e,.bool has] w fun r w'=>r=.returned (.bool (standsE n has e))∧Below w.heap.size w w':=by
 unfold standsE
 cases has with
 | false =>
  rw[if_neg Bool.false_ne_true]
  by_cases h0:e=0
  ·subst h0
   go_enter Tryz.func15,Tryz.ntmps15
   go_wp2_with fail
   go_ret
   exact⟨rfl,below_al (qB _ _) _⟩
  ·have t:(e ==0)=false:=beq_false_of_ne h0
   rw[qF h0]
   clear h0
   go_enter Tryz.func15,Tryz.ntmps15
   go_wp2_with fail
   go_ret
   exact⟨by first | rfl | (show Ending.returned (.bool (e ==0))=_;rw[t]),below_al (qB _ _) _⟩
 | true =>
  rw[if_pos rfl]
  by_cases h0:0≤e
  ·have t:decide (0≤e)=true:=qT h0
   by_cases h1:e<(n:Int)
   ·have t1:decide (e<(n:Int))=true:=qT h1
    rw[t,t1]
    clear h0
    go_enter Tryz.func15,Tryz.ntmps15
    go_wp2_with fail
    go_ret
    exact⟨by first | rfl | simp,below_al (qB _ _) _⟩
   ·have t1:decide (e<(n:Int))=false:=qF h1
    rw[t,t1]
    clear h0
    go_enter Tryz.func15,Tryz.ntmps15
    go_wp2_with fail
    go_ret
    exact⟨by first | rfl | simp,below_al (qB _ _) _⟩
  ·have t:decide (0≤e)=false:=qF h0
   rw[t]
   clear h0
   go_enter Tryz.func15,Tryz.ntmps15
   go_wp2_with fail
   go_ret
   exact⟨by first | rfl | simp,below_al (qB _ _) _⟩
theorem own_ints {w:World} {base:Nat} {v:Value} {n:Nat} {l:List Int} (h:w.ownsRow base 3 1 v n (l.map intV)):∃g o cap,v=.slice o n cap∧(0<n→o=some ⟨g,0,none⟩)∧∀j,j<n→w.cell? ⟨g,j,none⟩=some (.int .i64 (l.getD j 0)):=by
 have hl:l.length=n:=by have:=h.1;rwa [List.length_map,Nat.mul_one] at this
 rcases h.2 with ⟨rfl,rfl⟩ | ⟨g,cap,cur,rfl,h3,h4,h5,h6,h7,h8⟩
 ·exact⟨0,none,0,rfl,by omega,by omega⟩
 ·refine⟨g,_,cap,rfl,fun _=>rfl,fun j hj=>?_⟩
  have:=h.cells (g:=g) rfl (j:=j) (u:=.int .i64 (l.getD j 0)) (by rw[List.getElem?_map,List.getElem?_eq_getElem (by omega),List.getD_eq_getElem?_getD,List.getElem?_eq_getElem (by omega)];rfl)
  rwa [show(⟨g,0,none⟩:Addr).add j=⟨g,j,none⟩ by unfold Addr.add;split <;> simp_all] at this
theorem v_zero (v:Int):((true&&decide (0≤v))&&decide (v≤0))=(v ==0):=by
 rw[Bool.eq_iff_iff];simp;omega
theorem mayE_args {x:Ex} {i:Nat} (h:¬x.args.length=0) (h19:¬x.kind=19):mayE x i=false:=by
 unfold mayE;rw[qF h,qF h19];simp
end Go.Proofs.YthpgfahlccljnaaGreatDoor
