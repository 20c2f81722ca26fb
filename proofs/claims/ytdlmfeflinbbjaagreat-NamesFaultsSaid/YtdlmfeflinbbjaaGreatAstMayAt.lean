import Derived.Test.YtdlmfeflinbbjaaGreatAstRefParts
import Derived.StillTailTactics
import Derived.BigQuiet
namespace Go.Proofs.YtdlmfeflinbbjaaGreat
open Go.RowKit Go.Shelf
attribute [local go_sem] Oper.semAt_some
def partOk (i:Nat) (p:Int):Bool:=decide (0≤p) && decide (p < (i:Int))
def restE (x:Ex):Bool:=(namedK x.kind == decide (x.name.size≠0)) && (decide (x.kind = 20) == decide (x.state.size≠0)) && (decide (x.kind = 19) || decide (x.args.length = 0)) && decide (0≤x.v) && decide (x.v≤mostV x.kind)
theorem mayE_kind {x:Ex} {i:Nat} (h:¬ (1≤x.kind∧x.kind≤21)):mayE x i = false:=by
  unfold mayE
  by_cases h1:1≤x.kind
  · rw [decide_eq_false (show ¬ x.kind≤21 by omega)];simp
  · rw [decide_eq_false h1];simp
theorem mayE_parts {x:Ex} {i:Nat} {p:Int} (hp:p∈partsE x) (h:partOk i p = false):mayE x i = false:=by
  have:(partsE x).all (fun p=>decide (0≤p) && decide (p < (i:Int))) = false:=by
    rw [List.all_eq_false];exact ⟨p,hp,by unfold partOk at h;simpa using h⟩
  unfold mayE;rw [this];simp
theorem mayE_rest {x:Ex} {i:Nat} {p:Int} (hp:p∈[x.a,x.b,x.c].drop (manyOf x.kind)) (h:p≠0):mayE x i = false:=by
  have:([x.a,x.b,x.c].drop (manyOf x.kind)).all (fun p=>decide (p = 0)) = false:=by
    rw [List.all_eq_false];exact ⟨p,hp,by simpa using h⟩
  unfold mayE;rw [this];simp
theorem mayE_last {x:Ex} {i:Nat} (h:1≤x.kind∧x.kind≤21) (hp:∀ p∈partsE x,partOk i p = true) (hr:∀ p∈[x.a,x.b,x.c].drop (manyOf x.kind),p = 0):mayE x i = restE x:=by
  have h1:(partsE x).all (fun p=>decide (0≤p) && decide (p < (i:Int))) = true:=by rw [List.all_eq_true];exact hp
  have h2:([x.a,x.b,x.c].drop (manyOf x.kind)).all (fun p=>decide (p = 0)) = true:=by rw [List.all_eq_true];intro p hpm;exact decide_eq_true (hr p hpm)
  unfold mayE restE
  rw [h1,h2,decide_eq_true h.1,decide_eq_true h.2];simp
def MInv (x:Ex) (s:Value) (i:Nat) (w:World) (pre:List (PartOf x)) (W:World):Prop :=
  (W.heap[w.heap.size]? = some (.cells (exCells x s) 59 (0,0))∧W.heap[w.heap.size+1]? = some (.cells #[.int .i64 (i:Int)] 3 (0,0))∧W.heap[w.heap.size+2]? = some (.cells #[.bool false] 4 (0,0))) ∧
  (∀ p∈pre,partOk i p.1 = true)∧Below w.heap.size w W∧w.heap.size+4≤W.heap.size
def MLeft (x:Ex) (i:Nat) (w:World) (c:Code) (pre:List (PartOf x)) (W:World):Prop :=
  c = .ret∧W.heap[w.heap.size+2]? = some (.cells #[.bool false] 4 (0,0))∧(∃ p∈pre,partOk i p.1 = false)∧Below w.heap.size w W∧w.heap.size+4≤W.heap.size
theorem minv_own (x:Ex) (s:Value) (i:Nat) (w:World):OwnFrom (w.heap.size+4) (MInv x s i w):=by
  rintro pre X Y row ⟨⟨h1,h2,h3⟩,h4,h5,h6⟩ hg hrow
  have hne:∀ b,b < w.heap.size+4→some b≠row:=fun b hb e=>by have:=(hrow b e.symm).1;omega
  exact ⟨⟨(hg.block _ (lt_of_heap h1) (hne _ (by omega))).trans h1,(hg.block _ (lt_of_heap h2) (hne _ (by omega))).trans h2,(hg.block _ (lt_of_heap h3) (hne _ (by omega))).trans h3⟩,h4,
    h5.grown hg h5.size (fun k e=>by have:=(hrow k e).1;omega),Nat.le_trans h6 hg.size⟩
theorem mleft_own (x:Ex) (i:Nat) (w:World) (c:Code):OwnFrom (w.heap.size+4) (MLeft x i w c):=by
  rintro pre X Y row ⟨hc,h3,h4,h5,h6⟩ hg hrow
  have hne:∀ b,b < w.heap.size+4→some b≠row:=fun b hb e=>by have:=(hrow b e.symm).1;omega
  exact ⟨hc,(hg.block _ (lt_of_heap h3) (hne _ (by omega))).trans h3,h4,h5.grown hg h5.size (fun k e=>by have:=(hrow k e).1;omega),Nat.le_trans h6 hg.size⟩
def MayPost (r:Bool) (w:World) (e:Ending) (w' : World):Prop:=e = .returned (.bool r)∧Below w.heap.size w w'
theorem keepM_none {M:Nat→Prop} {N:Nat} (W:World) (l:Nat) (o o' : Obj) (hl:N≤l) (h:W.heap[l]? = some o) (hc:o.isCells = false):KeepM M (fun _=>none) N W (W.putObj l o'):=by
  have hg:=grownBy_putObj' W l o'
  refine ⟨hg.size,fun k hk _ _ hh=>hg.block k hk (fun e=>?_),fun k hk=>by cases hk⟩
  cases e
  rcases hh with h1 | ⟨o2,h1,h2⟩
  · omega
  · rw [h] at h1;cases h1;rw [hc] at h2;cases h2
theorem mayAt_kind (x:Ex) (s:Value) (i:Nat) (h:¬ (1≤x.kind∧x.kind≤21)) (w:World) :
    Calls Tryz.prog 98 #[exV x s,.int .i64 (i:Int)] w fun e w'=>MayPost (mayE x i) w e w':=by
  rw [mayE_kind h]
  unfold exV exCells
  by_cases h1:x.kind < 1
  · have q:decide (x.kind < 1) = true:=decide_eq_true h1
    go_enter Tryz.func98,Tryz.ntmps98
    go_wp2_with fail
    refine bodyPost_ret (v:=.bool false) (by simp [results,Tryz.results98,go_sem]) rfl ⟨rfl,?_⟩
    exact (((Below.refl _ _).alloc (Nat.le_refl _) _).alloc (by simp) _).alloc (by simp;omega) _
  · have q:decide (x.kind < 1) = false:=decide_eq_false h1
    have q2:decide (21 < x.kind) = true:=decide_eq_true (by omega)
    go_enter Tryz.func98,Tryz.ntmps98
    go_wp2_with fail
    refine bodyPost_ret (v:=.bool false) (by simp [results,Tryz.results98,go_sem]) rfl ⟨rfl,?_⟩
    exact (((Below.refl _ _).alloc (Nat.le_refl _) _).alloc (by simp) _).alloc (by simp;omega) _
theorem set_heap {W:World} {g:Nat} {cs:Array Value} {T:TypeId} {fr:Nat × Nat} (h:W.heap[g]? = some (.cells cs T fr)) (i:Nat) (v:Value):(W.setCell ⟨g,i,none⟩ v).heap[g]? = some (.cells (cs.setIfInBounds i v) T fr):=by
  obtain ⟨hlt,hk⟩:=Array.getElem?_eq_some_iff.1 h
  show (W.heap.modify g _)[g]? = _
  rw [Array.getElem?_eq_getElem (by rw [Array.size_modify];exact hlt),Array.getElem_modify_self,hk]
  rfl
theorem four (w:World) (o1 o2 o3 o4:Obj):let W:=(((w.alloc o1).alloc o2).alloc o3).alloc o4
    W.heap[w.heap.size]? = some o1∧W.heap[w.heap.size+1]? = some o2∧W.heap[w.heap.size+2]? = some o3∧W.heap[w.heap.size+3]? = some o4∧Below w.heap.size w W∧W.heap.size = w.heap.size+4:=by
  have z1:(w.alloc o1).heap.size = w.heap.size+1:=World.size_alloc _ _
  have z2:((w.alloc o1).alloc o2).heap.size = w.heap.size+2:=by rw [World.size_alloc,z1]
  have z3:(((w.alloc o1).alloc o2).alloc o3).heap.size = w.heap.size+3:=by rw [World.size_alloc,z2]
  have a1:=World.alloc_heap_new w o1
  have a2:=World.alloc_heap_new (w.alloc o1) o2
  have a3:=World.alloc_heap_new ((w.alloc o1).alloc o2) o3
  have a4:=World.alloc_heap_new (((w.alloc o1).alloc o2).alloc o3) o4
  rw [z1] at a2
  rw [z2] at a3
  rw [z3] at a4
  refine ⟨?_,?_,?_,a4,(((((Below.refl _ w).alloc (Nat.le_refl _) o1).alloc (by omega) o2).alloc (by omega) o3).alloc (by omega) o4),by rw [World.size_alloc,z3]⟩
  · rw [heap_old _ _ _ (by omega),heap_old _ _ _ (by omega),heap_old _ _ _ (by omega),a1]
  · rw [heap_old _ _ _ (by omega),heap_old _ _ _ (by omega),a2]
  · rw [heap_old _ _ _ (by omega),a3]
theorem still_of_quiet {P:Program} {ops:Array Oper} {w:World} {Q:Act→Prop}:∀ (l:List Oper) (a:Act),wpQuiet P ops (fun w'=>w' = w) Q l a→wpStill P ops w Q l a
  | [],_,h=>h
  | o :: rest,a,h=>by
    unfold wpQuiet at h
    unfold wpStill
    by_cases hw:Region.wanted o (yielded ops a.tmps) = true
    · rw [if_pos hw] at h ⊢
      obtain ⟨v,h1,h2⟩:=h
      have h3:=h1 w rfl
      have h4:=still_of_quiet rest _ h2
      unfold Oper.quietAt at h3
      unfold Oper.still
      revert h3
      generalize (execOp a.eval o).run P w = r
      intro h3
      match r,h3 with
      | .ok (.value u) w',⟨e1,e2⟩=>exact ⟨e1,by rw [e2];exact h4⟩
      | .ok .skip w',⟨e1,e2⟩=>exact ⟨e1,by rw [← e2];exact h4⟩
      | .ok (.enter f args) w',⟨e1,e2⟩=>exact ⟨e1,v,e2,h4⟩
    · rw [if_neg hw] at h ⊢
      exact still_of_quiet rest _ h
theorem tail_by_quiet {id:Nat} {P:Program} {Q:Exit→Act→World→Prop} {a:Act} {w:World} {l:List Oper} (n:Nat) (hm:P.follows .mixedOrders = true) (hB:Region.lexTailB .any l.toArray n = true)
    (h:wpQuiet P l.toArray (fun w'=>w' = w.drew) (fun a'=>wpList P l.toArray Q (l.drop n) a' w.drew) (l.take n) a):(Code.region id l.toArray true).wp P Q a w:=wp_region_still_tail n hm hB (still_of_quiet _ _ h)
theorem drop_mem {l:List Int} {m j:Nat} (h:m+j < l.length):l.getD (m+j) 0∈l.drop m:=by
  rw [List.getD_eq_getElem?_getD,List.getElem?_eq_getElem h]
  exact List.mem_iff_getElem.2 ⟨j,by rw [List.length_drop];omega,by rw [List.getElem_drop];rfl⟩
def MayEnd (x:Ex) (i:Nat) (w:World) (D:Nat) (W:World) (b:Bool):Prop:=∀ n:Nat,
  ((((W.setCell ⟨w.heap.size+1+1,0,none⟩ (.bool b)).alloc (.cells #[.int .i64 x.a,.int .i64 x.b,.int .i64 x.c] 168)).drewN n).putObj D (.deferred none)).cell? ⟨w.heap.size+1+1,0,none⟩ = some (.bool b) ∧
  (((W.setCell ⟨w.heap.size+1+1,0,none⟩ (.bool b)).alloc (.cells #[.int .i64 x.a,.int .i64 x.b,.int .i64 x.c] 168)).drewN n).heap[D]? = some (.deferred (some [])) ∧
  MayPost (mayE x i) w (.returned (.bool b)) ((((W.setCell ⟨w.heap.size+1+1,0,none⟩ (.bool b)).alloc (.cells #[.int .i64 x.a,.int .i64 x.b,.int .i64 x.c] 168)).drewN n).putObj D (.deferred none))
theorem may_end (x:Ex) (i:Nat) (w:World) (D:Nat) (W:World) (b:Bool) (hb1:b = mayE x i) (hb:Below w.heap.size w W) (hD:w.heap.size+4≤D) (m3:W.heap[w.heap.size+2]? = some (.cells #[.bool false] 4 (0,0))) (hK:W.heap[D]? = some (.deferred (some []))):MayEnd x i w D W b:=by
  intro n
  have e3:=set_heap m3 0 (.bool b)
  have e4:(W.setCell ⟨w.heap.size+1+1,0,none⟩ (.bool b)).heap[D]? = some (.deferred (some [])):=(set_other W (w.heap.size+2) D 0 (.bool b) (by omega)).trans hK
  have e5:((W.setCell ⟨w.heap.size+1+1,0,none⟩ (.bool b)).alloc (.cells #[.int .i64 x.a,.int .i64 x.b,.int .i64 x.c] 168)).heap[w.heap.size+2]? = _:=(heap_old _ _ _ (lt_of_heap e3)).trans e3
  have e6:(((W.setCell ⟨w.heap.size+1+1,0,none⟩ (.bool b)).alloc (.cells #[.int .i64 x.a,.int .i64 x.b,.int .i64 x.c] 168)).drewN n).heap[D]? = _:=(heap_old _ _ _ (lt_of_heap e4)).trans e4
  have e7:((((W.setCell ⟨w.heap.size+1+1,0,none⟩ (.bool b)).alloc (.cells #[.int .i64 x.a,.int .i64 x.b,.int .i64 x.c] 168)).drewN n).putObj D (.deferred none)).heap[w.heap.size+2]? = _:=(World.putObj_heap_other (by omega)).trans e5
  refine ⟨by simp [World.cell?,e7],e6,by rw [← hb1],?_⟩
  have h2:=hb.setCell (p:=⟨w.heap.size+1+1,0,none⟩) (Nat.le_trans (Nat.le_succ _) (Nat.le_succ _)) (.bool b)
  have h3:=below_dr (h2.alloc h2.size (.cells #[.int .i64 x.a,.int .i64 x.b,.int .i64 x.c] 168)) n
  exact h3.trans (belowK_b (w:=w) (Nat.le_refl _) _ D _ _ (by omega) e6 rfl rfl)
theorem empty_size (s:ByteArray):s.toList.isEmpty = decide (s.size = 0):=by
  rw [Lib.toList_data,Bool.eq_iff_iff,List.isEmpty_iff,decide_eq_true_eq]
  constructor
  · intro h;show s.data.size = 0;rw [← Array.length_toList,h];rfl
  · intro h;exact List.eq_nil_of_length_eq_zero (by rw [Array.length_toList];exact h)
theorem restE_w (x:Ex) (nb q20 q19 ne se ae:Bool) (h1:namedK x.kind = nb) (h2:(x.kind == 20) = q20) (h3:(x.kind == 19) = q19) (h4:x.name.toList.isEmpty = !ne) (h5:x.state.toList.isEmpty = !se) (h6:decide (x.args.length = 0) = ae) :
    restE x = ((nb == ne) && (q20 == se) && (q19 || ae) && decide (0≤x.v) && decide (x.v≤mostV x.kind)):=by
  have e4:decide (x.name.size≠0) = ne:=by
    rw [empty_size] at h4
    rw [show decide (x.name.size≠0) = !decide (x.name.size = 0) from by simp,h4];simp
  have e5:decide (x.state.size≠0) = se:=by
    rw [empty_size] at h5
    rw [show decide (x.state.size≠0) = !decide (x.state.size = 0) from by simp,h5];simp
  have e2:decide (x.kind = 20) = q20:=by rw [← h2];rfl
  have e3:decide (x.kind = 19) = q19:=by rw [← h3];rfl
  unfold restE
  rw [h1,e2,e3,e4,e5,h6]
end Go.Proofs.YtdlmfeflinbbjaaGreat
