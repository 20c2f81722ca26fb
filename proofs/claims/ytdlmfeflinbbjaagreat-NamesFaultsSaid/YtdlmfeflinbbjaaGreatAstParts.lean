import Derived.Test.YtdlmfeflinbbjaaGreatAstKinds
import Derived.RangeFuncNested
import Derived.RangeFuncBound
import Derived.RangeFuncCalls
import Derived.RangeFuncLeaves
import Derived.Shelf.Abstract
import Derived.Shelf.RegionOpen
import Derived.OwnWalkIn
import Derived.TacticsInMore
import Derived.LoopNIn
import Derived.LoopIn
namespace Go.Proofs.YtdlmfeflinbbjaaGreat
open Go.Lib (hid)
open Go.RowKit Go.Shelf
attribute [local go_sem] Oper.semAt_some
def exCells (x:Ex) (s:Value):Array Value:=#[.int .i64 x.kind,.int .i64 x.a,.int .i64 x.b,.int .i64 x.c,.string x.name,.string x.state,.int .i64 x.v,s,.int .i64 x.pos]
def partsV (B:Nat):Value:=.func (.func 135) #[] #[.pointer (some ⟨B,0,none⟩)]
theorem parts_any (k a b c v p:Int) (name state:ByteArray) (s:Value) (w:World):Calls Tryz.prog 121 #[.agg #[.int .i64 k,.int .i64 a,.int .i64 b,.int .i64 c,.string name,.string state,.int .i64 v,s,.int .i64 p]] w fun e w'=>e = .returned (partsV w.heap.size) ∧
    w.alloc (.cells #[.int .i64 k,.int .i64 a,.int .i64 b,.int .i64 c,.string name,.string state,.int .i64 v,s,.int .i64 p] 59) = w':=by
  go_enter Tryz.func121,Tryz.ntmps121
  go_wp2_with fail
  go_ret
  exact ⟨rfl,rfl⟩
def KeepM (M:Nat→Prop) (rw:World→Option Nat) (n₁:Nat) (X Y:World):Prop:=X.heap.size≤Y.heap.size ∧
  (∀ k,k < X.heap.size→¬ M k→rw X≠some k→(k < n₁∨∃ o,X.heap[k]? = some o∧o.isCells = true)→Y.heap[k]? = X.heap[k]?) ∧
  (∀ k,rw Y = some k→rw X = some k∨(X.heap.size≤k∧k < Y.heap.size))
theorem KeepM.trans {M:Nat→Prop} {rw:World→Option Nat} {n₁:Nat} {X Y Z:World} (h:KeepM M rw n₁ X Y) (k:KeepM M rw n₁ Y Z):KeepM M rw n₁ X Z:=by
  refine ⟨Nat.le_trans h.1 k.1,fun j hj hB hr hc=>?_,fun j hj=>?_⟩
  · have e:=h.2.1 j hj hB hr hc
    refine (k.2.1 j (Nat.lt_of_lt_of_le hj h.1) hB (fun hh=>?_) ?_).trans e
    · rcases h.2.2 j hh with h1 | h1
      · exact hr h1
      · omega
    · rcases hc with h1 | ⟨o,h1,h2⟩
      · exact .inl h1
      · exact .inr ⟨o,e.trans h1,h2⟩
  · rcases k.2.2 j hj with h1 | h1
    · rcases h.2.2 j h1 with h2 | h2
      · exact .inl h2
      · exact .inr ⟨h2.1,Nat.lt_of_lt_of_le h2.2 k.1⟩
    · exact .inr ⟨Nat.le_trans h.1 h1.1,h1.2⟩
def RowNew (rw:World→Option Nat) (w:World) (n₂:Nat) (W:World):Prop:=∀ k,rw W = some k→rw w = some k∨n₂≤k
theorem RowNew.keep {M:Nat→Prop} {rw:World→Option Nat} {n₁ n₂:Nat} {w X Y:World} (h:RowNew rw w n₂ X) (hX:n₂≤X.heap.size) (hk:KeepM M rw n₁ X Y):RowNew rw w n₂ Y:=by
  intro k hk1
  rcases hk.2.2 k hk1 with h1 | h1
  · exact h k h1
  · exact .inr (Nat.le_trans hX h1.1)
structure Around (M:Nat→Prop) (rw:World→Option Nat) (w:World):Prop where
  old:∀ k,M k→k < w.heap.size
  row:∀ k,rw w = some k→k < w.heap.size
  same:∀ W,Below w.heap.size w W→rw W = rw w
def Still (M:Nat→Prop) (rw:World→Option Nat) (w:World) (k:Nat):Prop:=k < w.heap.size∧¬ M k∧rw w≠some k
abbrev PartOf (x:Ex):={ p:Int // p∈partsE x }
theorem partsE_19 {x:Ex} (h:x.kind = 19):partsE x = x.args:=by unfold partsE;rw [if_pos h]
theorem partsE_abc {x:Ex} (h:¬ x.kind = 19):partsE x = [x.a,x.b,x.c].take (manyOf x.kind):=by unfold partsE;rw [if_neg h]
theorem partsE_len {x:Ex} (h:¬ x.kind = 19):(partsE x).length = manyOf x.kind:=by
  rw [partsE_abc h,List.length_take];have:=manyOf_le x.kind;simp;omega
theorem partsE_get {x:Ex} (h:¬ x.kind = 19) {j:Nat} (hj:j < manyOf x.kind):(partsE x).getD j 0 = [x.a,x.b,x.c].getD j 0:=by
  rw [partsE_abc h];simp [List.getD,hj]
theorem ix_arr {b n cap:Nat} {j:Nat} (hj:j < n) (hn:n≤9223372036854775807):Ix 33 1 (.slice (some ⟨b,0,none⟩) n cap) b 0 j:=ix_ints (off:=0) (fun _=>rfl) hj hn
theorem slice_to (b m:Nat) (h:m≤3) (W:World):(Instr.sliceAt 168 (.pointer (some ⟨b,0,none⟩)) none (some (.int .i64 (m:Int))) none).run Tryz.prog W = .ok (.slice (some ⟨b,0,none⟩) m 3) W:=by
  obtain rfl | rfl | rfl | rfl:m = 0∨m = 1∨m = 2∨m = 3:=by omega
  all_goals kernel_rfl
theorem slice_from (b m:Nat) (h:m≤3) (W:World):(Instr.sliceAt 168 (.pointer (some ⟨b,0,none⟩)) (some (.int .i64 (m:Int))) none none).run Tryz.prog W = .ok (.slice (some ⟨b,(if m = 3 then 0 else m),none⟩) (3 - m) (3 - m)) W:=by
  obtain rfl | rfl | rfl | rfl:m = 0∨m = 1∨m = 2∨m = 3:=by omega
  all_goals kernel_rfl
theorem cell_same' {w w' : World} {b:Nat} (h:w'.heap[b]? = w.heap[b]?) (o:Nat):w'.cell? ⟨b,o,none⟩ = w.cell? ⟨b,o,none⟩:=by simp only [World.cell?,h]
def SrcAt (rw:World→Option Nat) (w W1:World) (m S:Nat) (X:World):Prop:=W1.heap.size≤X.heap.size∧RowNew rw w W1.heap.size X∧(0 < m→X.heap[S]? = W1.heap[S]?)
def SrcOk (M:Nat→Prop) (rw:World→Option Nat) (w W1:World) (S:Nat):Prop:=¬ M S∧S < W1.heap.size∧rw w≠some S∧∃ o,W1.heap[S]? = some o∧o.isCells = true
theorem SrcAt.keep {M:Nat→Prop} {rw:World→Option Nat} {n₁ m S:Nat} {w W1 X Y:World} (h:SrcAt rw w W1 m S X) (hk:KeepM M rw n₁ X Y) (hs:0 < m→SrcOk M rw w W1 S):SrcAt rw w W1 m S Y:=by
  refine ⟨Nat.le_trans h.1 hk.1,h.2.1.keep h.1 hk,fun hm=>?_⟩
  obtain ⟨h1,h2,h3,o,h4,h5⟩:=hs hm
  have e:=h.2.2 hm
  refine (hk.2.1 S (Nat.lt_of_lt_of_le h2 h.1) h1 (fun hh=>?_) (.inr ⟨o,e.trans h4,h5⟩)).trans e
  rcases h.2.1 S hh with h6 | h6
  · exact h3 h6
  · omega
theorem take_pre {x:Ex} {pre:List (PartOf x)} {j:Nat} {p:PartOf x} (h:pre.map (·.1) = (partsE x).take j) (hj:j < (partsE x).length) (hp:p.1 = (partsE x).getD j 0):(pre ++ [p]).map (·.1) = (partsE x).take (j+1):=by
  rw [List.map_append,h,List.take_succ_eq_append_getElem hj,List.map_singleton,hp,List.getD_eq_getElem?_getD,List.getElem?_eq_getElem hj]
  rfl
set_option maxHeartbeats 8000000 in
set_option maxRecDepth 100000 in
theorem parts_core (F:Fence) (n:Nat) (hF:F = Fence.wide) (hn:1≤n) (x:Ex) (o:Option Addr) (cap ba offa na:Nat) (hna:Hid (x.args.length = na)) (nl:(na:Int)≤9223372036854775807) (M:Nat→Prop) (rw:World→Option Nat) (B:Nat) (w:World)
    (hA:Hid (Around M rw w)) (hB:Hid (Still M rw w B)) (hc:Hid (w.heap[B]? = some (.cells (exCells x (.slice o na cap)) 59 (0,0)))) (ho:Hid (0 < na→o = some ⟨ba,offa,none⟩))
    (hS:Hid (0 < na→x.kind = 19→Still M rw w ba∧(∃ cs T fr,w.heap[ba]? = some (.cells cs T fr)))) (hv:Hid (∀ j,j < na→w.cell? ⟨ba,offa+j,none⟩ = some (.int .i64 (x.args.getD j 0)))) (lp:Nat) (J Jx:List (PartOf x)→World→Prop)
    (W:World) (hW:Hid (Below w.heap.size w W)) (hJ:Hid (∀ s X Y,J s X→X.grownBy Y none→J s Y))
    (hY:Hid (∀ pre (p:PartOf x) W1,J pre W1→pre.length < (partsE x).length→YieldAt F (n - 1) Tryz.prog lp #[.int .i64 p.1] W1 fun e W' =>
      (e = .returned (.bool true)∧J (pre ++ [p]) W'∧KeepM M rw w.heap.size W1 W')∨(e = .returned (.bool false)∧Jx (pre ++ [p]) W')))
    (h0:Hid (J [] W)) :
    CallsIn F n Tryz.prog 135 #[.func (.yield lp) #[] #[],.pointer (some ⟨B,0,none⟩)] W fun e W'=>(∃ v,e = .returned v) ∧
      ((∃ ys:List (PartOf x),ys.map (·.1) = partsE x∧J ys W')∨(∃ pre:List (PartOf x),pre.map (·.1) <+: partsE x∧Jx pre W')):=by
  subst hF
  have hBW:W.heap[B]? = some (.cells (exCells x (.slice o na cap)) 59 (0,0)):=(hW.out.block _ hB.out.1).trans hc.out
  have hBlt:=Nat.lt_of_lt_of_le hB.out.1 hW.out.size
  have c0:W.cell? ⟨B,0,none⟩ = some (.int .i64 x.kind):=by simp [World.cell?,hBW,exCells]
  have c1:W.cell? ⟨B,1,none⟩ = some (.int .i64 x.a):=by simp [World.cell?,hBW,exCells]
  have c2:W.cell? ⟨B,2,none⟩ = some (.int .i64 x.b):=by simp [World.cell?,hBW,exCells]
  have c3:W.cell? ⟨B,3,none⟩ = some (.int .i64 x.c):=by simp [World.cell?,hBW,exCells]
  have c7:W.cell? ⟨B,7,none⟩ = some (.slice o na cap):=by simp [World.cell?,hBW,exCells]
  clear hBW
  have hmn:=manyOf_le x.kind
  refine callsIn_of_wp Tryz.func135 rfl trivial ?_ rfl
  simp only [Tryz.ntmps135,List.size_toArray,List.length_cons,List.length_nil,Nat.reduceAdd,Nat.reduceSub,Array.replicate_succ,Array.replicate_zero,List.push_toArray,List.append_toArray,List.nil_append,List.cons_append]
  have hba:=hid ((Below.refl W.heap.size W).alloc (Nat.le_refl _) (.cells #[.int .i64 x.a,.int .i64 x.b,.int .i64 x.c] 168))
  have hsl:=slice_to W.heap.size (manyOf x.kind) hmn
  obtain ⟨m,S,offS,so,capS,hcase⟩:∃ (m S offS:Nat) (so:Option Addr) (capS:Nat),Hid ((x.kind = 19∧m = na∧S = ba∧offS = offa∧so = o∧capS = cap)∨(¬ x.kind = 19∧m = manyOf x.kind∧S = W.heap.size∧offS = 0∧so = some ⟨W.heap.size,0,none⟩∧capS = 3)):=by
    by_cases h19:x.kind = 19
    · exact ⟨_,_,_,_,_,hid (.inl ⟨h19,rfl,rfl,rfl,rfl,rfl⟩)⟩
    · exact ⟨_,_,_,_,_,hid (.inr ⟨h19,rfl,rfl,rfl,rfl,rfl⟩)⟩
  have hml:(m:Int)≤9223372036854775807:=by
    rcases hcase.out with ⟨_,rfl,_⟩ | ⟨_,rfl,_⟩ <;> omega
  have hlen:Hid ((partsE x).length = m):=hid (by
    rcases hcase.out with ⟨h19,rfl,_⟩ | ⟨h19,rfl,_⟩
    · rw [partsE_19 h19];exact hna.out
    · exact partsE_len h19)
  have hix:Hid (∀ j,j < m→Ix 33 1 (.slice so m capS) S offS j):=hid (by
    intro j hj
    rcases hcase.out with ⟨h19,rfl,rfl,rfl,rfl,rfl⟩ | ⟨h19,rfl,rfl,rfl,rfl,rfl⟩
    · exact ix_ints ho.out hj (by omega)
    · exact ix_arr hj (by omega))
  have hsrc:Hid (0 < m→SrcOk M rw w (W.alloc (.cells #[.int .i64 x.a,.int .i64 x.b,.int .i64 x.c] 168)) S):=hid (by
    intro hm
    rcases hcase.out with ⟨h19,rfl,rfl,rfl,rfl,rfl⟩ | ⟨h19,rfl,rfl,rfl,rfl,rfl⟩
    · obtain ⟨⟨s1,s2,s3⟩,cs,T,fr,hcs⟩:=hS.out hm h19
      have hlt:=Nat.lt_of_lt_of_le s1 hW.out.size
      exact ⟨s2,by simp;omega,s3,_,(hba.out.block _ hlt).trans ((hW.out.block _ s1).trans hcs),rfl⟩
    · refine ⟨fun hh=>?_,by simp,fun hh=>?_,_,World.alloc_heap_new W _,rfl⟩
      · have:=hA.out.old _ hh;have:=hW.out.size;omega
      · have:=hA.out.row _ hh;have:=hW.out.size;omega)
  have hcell:Hid (∀ j,j < m→(W.alloc (.cells #[.int .i64 x.a,.int .i64 x.b,.int .i64 x.c] 168)).cell? ⟨S,offS+j,none⟩ = some (.int .i64 ((partsE x).getD j 0))):=hid (by
    intro j hj
    rcases hcase.out with ⟨h19,rfl,rfl,rfl,rfl,rfl⟩ | ⟨h19,rfl,rfl,rfl,rfl,rfl⟩
    · obtain ⟨⟨s1,s2,s3⟩,_⟩:=hS.out (by omega) h19
      have hlt:=Nat.lt_of_lt_of_le s1 hW.out.size
      rw [cell_same' (hba.out.block _ hlt),cell_same' (hW.out.block _ s1),hv.out j hj,partsE_19 h19]
    · rw [partsE_get h19 hj,Nat.zero_add,World.cell?_alloc_new]
      match j,Nat.lt_of_lt_of_le hj hmn with
      | 0,_=>rfl
      | 1,_=>rfl
      | 2,_=>rfl)
  have hst:Hid (SrcAt rw w (W.alloc (.cells #[.int .i64 x.a,.int .i64 x.b,.int .i64 x.c] 168)) m S (W.alloc (.cells #[.int .i64 x.a,.int .i64 x.b,.int .i64 x.c] 168))):=hid ⟨Nat.le_refl _,fun k hk=>.inl (by
    rwa [hA.out.same _ (hW.out.trans (hba.out.mono hW.out.size))] at hk),fun _=>rfl⟩
  have hJ1:=hid (hJ.out _ _ _ h0.out (World.grownBy_alloc W (.cells #[.int .i64 x.a,.int .i64 x.b,.int .i64 x.c] 168) none))
  by_cases h19:x.kind = 19
  · obtain ⟨_,rfl,rfl,rfl,rfl,rfl⟩ | ⟨h,_⟩:=hcase.out
    · rw [h19] at hsl c0
      gi_wp2_with (refine ⟨trivial,?_⟩;gi_at_call 125;((with_reducible refine (callsIn_wide.2 (fixed_any _ _)).mono ?_);rintro e w1 ⟨rfl,rfl⟩))
      clear hsl c0 c1 c2 c3 c7
      gi_loopw [25] (fun i wr=>∃ (j:Nat) (pre:List (PartOf x)),i = .int .i64 j∧Hid (j≤m)∧Hid (pre.map (·.1) = (partsE x).take j)∧Hid (J pre wr)∧Hid (SrcAt rw w (W.alloc (.cells #[.int .i64 x.a,.int .i64 x.b,.int .i64 x.c] 168)) (m) S wr)) (fun i _=>m - litLen i)
      case atStart=>exact ⟨0,[],rfl,hid (Nat.zero_le _),hid rfl,hJ1,hst⟩
      case round =>
        obtain ⟨j,pre,rfl,hj,hpre,hJp,hSr⟩:=hrel
        have jl:=hj.out
        rcases Nat.lt_or_ge j (m) with hlt | hge
        · have q3:(j:Int) < (m:Int):=by omega
          have ix:=hix.out j hlt
          unfold Ix at ix
          have hjl:j < (partsE x).length:=by rw [hlen.out];exact hlt
          obtain ⟨p,hp⟩:∃ p,p = (partsE x).getD j 0:=⟨_,rfl⟩
          have hmem:p∈partsE x:=by rw [hp,List.getD_eq_getElem?_getD,List.getElem?_eq_getElem hjl];exact List.getElem_mem hjl
          have xj:=(cell_same' (hSr.out.2.2 (by omega)) (offS+j)).trans (hcell.out j hlt)
          rw [← hp] at xj
          obtain ⟨fn,tmps,assign,body,hy,hR⟩:=hY.out pre ⟨p,hmem⟩ wr hJp.out (by rw [show pre.length = j by have:=congrArg List.length hpre.out;simpa [List.length_take,Nat.min_eq_left (Nat.le_of_lt hjl)] using this];exact hjl)
          have hy' : (Instr.yield lp #[.int .i64 p]).run Tryz.prog wr = .ok (.round lp fn tmps assign body) wr:=hy
          have HR:=hid hR
          have hpre':=hid (take_pre (p:=⟨p,hmem⟩) hpre.out hjl hp)
          clear hy hR hp
          gi_wp2
          refine HR.out.mono ?_
          rintro e W3 (⟨rfl,hJ3,hk3⟩ | ⟨rfl,hJx3⟩)
          · have hS3:=hid (hSr.out.keep hk3 hsrc.out)
            have HJ3:=hid hJ3
            clear hJ3 hk3
            gi_wp2
            go_roundw
            case rel=>exact ⟨j+1,_,by go_num,hid (by omega),hpre',HJ3,hS3⟩
            case measure=>simp [litLen];omega
          · gi_wp2
            refine bodyPost_ret (results_none rfl _ _ _) rfl ?_
            exact ⟨⟨_,rfl⟩,.inr ⟨_,⟨(partsE x).drop (j+1),by rw [hpre'.out,List.take_append_drop]⟩,hJx3⟩⟩
        · obtain rfl:m = j:=by omega
          gi_wp2
          go_end0
          exact ⟨⟨_,rfl⟩,.inl ⟨pre,by rw [hpre.out,← hlen.out,List.take_length],hJp.out⟩⟩
    · exact absurd h19 h
  · obtain ⟨h,_⟩ | ⟨_,rfl,rfl,rfl,rfl,rfl⟩:=hcase.out
    · exact absurd h h19
    · have e19:(x.kind == 19) = false:=beq_false_of_ne h19
      gi_wp2_with (refine ⟨trivial,?_⟩;gi_at_call 125;((with_reducible refine (callsIn_wide.2 (fixed_any _ _)).mono ?_);rintro e w1 ⟨rfl,rfl⟩))
      clear hsl c0 c1 c2 c3 c7
      gi_loopw [25] (fun i wr=>∃ (j:Nat) (pre:List (PartOf x)),i = .int .i64 j∧Hid (j≤manyOf x.kind)∧Hid (pre.map (·.1) = (partsE x).take j)∧Hid (J pre wr)∧Hid (SrcAt rw w (W.alloc (.cells #[.int .i64 x.a,.int .i64 x.b,.int .i64 x.c] 168)) (manyOf x.kind) W.heap.size wr)) (fun i _=>manyOf x.kind - litLen i)
      case atStart=>exact ⟨0,[],rfl,hid (Nat.zero_le _),hid rfl,hJ1,hst⟩
      case round =>
        obtain ⟨j,pre,rfl,hj,hpre,hJp,hSr⟩:=hrel
        have jl:=hj.out
        rcases Nat.lt_or_ge j (manyOf x.kind) with hlt | hge
        · have q3:(j:Int) < ((manyOf x.kind:Nat):Int):=by omega
          have ix:=hix.out j hlt
          unfold Ix at ix
          have hjl:j < (partsE x).length:=by rw [hlen.out];exact hlt
          obtain ⟨p,hp⟩:∃ p,p = (partsE x).getD j 0:=⟨_,rfl⟩
          have hmem:p∈partsE x:=by rw [hp,List.getD_eq_getElem?_getD,List.getElem?_eq_getElem hjl];exact List.getElem_mem hjl
          have xj:=(cell_same' (hSr.out.2.2 (by omega)) (0+j)).trans (hcell.out j hlt)
          rw [← hp,Nat.zero_add] at xj
          obtain ⟨fn,tmps,assign,body,hy,hR⟩:=hY.out pre ⟨p,hmem⟩ wr hJp.out (by rw [show pre.length = j by have:=congrArg List.length hpre.out;simpa [List.length_take,Nat.min_eq_left (Nat.le_of_lt hjl)] using this];exact hjl)
          have hy' : (Instr.yield lp #[.int .i64 p]).run Tryz.prog wr = .ok (.round lp fn tmps assign body) wr:=hy
          have HR:=hid hR
          have hpre':=hid (take_pre (p:=⟨p,hmem⟩) hpre.out hjl hp)
          clear hy hR hp
          gi_wp2
          refine HR.out.mono ?_
          rintro e W3 (⟨rfl,hJ3,hk3⟩ | ⟨rfl,hJx3⟩)
          · have hS3:=hid (hSr.out.keep hk3 hsrc.out)
            have HJ3:=hid hJ3
            clear hJ3 hk3
            gi_wp2
            go_roundw
            case rel=>exact ⟨j+1,_,by go_num,hid (by omega),hpre',HJ3,hS3⟩
            case measure=>simp [litLen];omega
          · gi_wp2
            refine bodyPost_ret (results_none rfl _ _ _) rfl ?_
            exact ⟨⟨_,rfl⟩,.inr ⟨_,⟨(partsE x).drop (j+1),by rw [hpre'.out,List.take_append_drop]⟩,hJx3⟩⟩
        · have hjm:j = manyOf x.kind:=by omega
          have hst2:=hid hpre.out
          have q3:decide ((j:Int) < ((manyOf x.kind:Nat):Int)) = false:=decide_eq_false (by omega)
          have HJM:=hid hjm
          clear hjm
          gi_wp2
          go_end0
          exact ⟨⟨_,rfl⟩,.inl ⟨pre,by rw [hst2.out,HJM.out,← hlen.out,List.take_length],hJp.out⟩⟩
def Srcs (w:World) (x:Ex) (B:Nat) (no:Nat→Prop):Prop:=∃ o cap ba offa,w.heap[B]? = some (.cells (exCells x (.slice o x.args.length cap)) 59 (0,0))∧x.args.length≤reachN∧(0 < x.args.length→o = some ⟨ba,offa,none⟩) ∧
  (∀ j,j < x.args.length→w.cell? ⟨ba,offa+j,none⟩ = some (.int .i64 (x.args.getD j 0)))∧¬ no B∧(0 < x.args.length→¬ no ba)
theorem block_of_cell {w:World} {b o:Nat} {v:Value} (h:w.cell? ⟨b,o,none⟩ = some v):∃ cs T fr,w.heap[b]? = some (.cells cs T fr):=by
  unfold World.cell? at h
  split at h
  · exact ⟨_,_,_,by assumption⟩
  · cases h
theorem parts_stops (n:Nat) (hn:1≤n) (x:Ex) (B:Nat) (M:Nat→Prop) (rw:World→Option Nat) (w:World) (hA:Around M rw w) (hs:Srcs w x B (fun k=>M k∨rw w = some k)) :
    SeqStopsK Fence.wide n Tryz.prog 135 #[.pointer (some ⟨B,0,none⟩)] (fun p:PartOf x=>#[.int .i64 p.1]) (KeepM M rw w.heap.size) (fun ys=>ys.map (·.1) = partsE x) (fun pre=>pre.map (·.1) <+: partsE x) (partsE x).length w:=by
  obtain ⟨o,cap,ba,offa,h1,h2,h3,h4,h5,h6⟩:=hs
  have hlt:∀ {k:Nat} {o:Obj},w.heap[k]? = some o→k < w.heap.size:=fun h=>(Array.getElem?_eq_some_iff.1 h).1
  unfold reachN at h2
  exact fun lp J Jx W hW hJ _ hY h0=>parts_core Fence.wide n rfl hn x o cap ba offa _ (hid rfl) (by omega) M rw B w (hid hA) (hid ⟨hlt h1,fun h=>h5 (.inl h),fun h=>h5 (.inr h)⟩) (hid h1) (hid h3)
    (hid fun hp _=>by
      obtain ⟨cs,T,fr,hcs⟩:=block_of_cell (h4 0 hp)
      exact ⟨⟨hlt hcs,fun h=>h6 hp (.inl h),fun h=>h6 hp (.inr h)⟩,cs,T,fr,hcs⟩) (hid h4) lp J Jx W
    (hid hW) (hid fun s X Y h1 h2=>hJ s X Y none h1 h2 (fun r e=>by cases e)) (hid hY) (hid h0)
theorem srcs_of {w W:World} {x:Ex} {s:Value} {B:Nat} {no:Nat→Prop} (ha:IntsAt w s x.args) (hk:ExOk x) (hb:Below w.heap.size w W) (hB:W.heap[B]? = some (.cells (exCells x s) 59 (0,0))) (hn:∀ k,no k→w.heap.size≤k) (hnB:¬ no B):Srcs W x B no:=by
  obtain ⟨o,cap,ba,offa,rfl,h1,h2,h3,h4⟩:=ha
  have h5:∀ j,j < x.args.length→w.cell? ⟨ba,offa+j,none⟩ = some (.int .i64 (x.args.getD j 0)):=fun j hj=>by have:=h4 j hj;rwa [Nat.mul_one] at this
  refine ⟨o,cap,ba,offa,hB,hk.args,h3,fun j hj=>cell_on hb (h5 j hj),hnB,fun hp hno=>?_⟩
  have:=hn _ hno
  have:ba < w.heap.size:=World.block_lt_of_cell? _ _ (h5 0 hp)
  omega
end Go.Proofs.YtdlmfeflinbbjaaGreat
