import Derived.Test.YtdlmfeflinbbjaaGreatAstRow
import Derived.RangeFuncBox
import Derived.Maps.AppendAt
namespace Go.Proofs.YtdlmfeflinbbjaaGreat
open Go.Lib (hid)
open Go.RowKit Go.Shelf
attribute [local go_sem] Oper.semAt_some
set_option maxHeartbeats 8000000 in
set_option maxRecDepth 100000 in
theorem append_core (x:Ex) (B base k:Nat) (v:Value) (xs:List Value) (w:World) (hown:Hid (w.ownsRow base 3 1 v k xs)) (hbase:Hid (base≤w.heap.size)) (hk:Hid (k≤100000000)) (hp:Hid ((partsE x).length≤1000)) (hs:Hid (Srcs w x B (fun k=>v.ownBlock = some k))) :
    CallsIn Fence.wide 5 Tryz.prog 66 #[v,partsV B] w fun e w'=>AppPost base k v xs ((partsE x).map intV) w e w':=by
  have hrow:Hid (∀ r,v.ownBlock = some r→r < w.heap.size):=hid fun r hr=>(hown.out.lt r hr).2
  refine callsIn_of_wp_marks Tryz.func66 rfl trivial ?_ rfl
  simp only [Tryz.ntmps66,List.size_toArray,List.length_cons,List.length_nil,Nat.reduceAdd,Nat.reduceSub,Array.replicate_succ,Array.replicate_zero,List.push_toArray,List.append_toArray,List.nil_append,List.cons_append]
  unfold partsV
  rcases hown.out.2 with ⟨rfl,hk0⟩ | ⟨g,cap,cur,rfl,hk0⟩
  · clear hk0
    gi_wp2
    have bL:=hid (Boxed.new w 33 (.slice none 0 0))
    have hAr:Around (fun j=>j = w.heap.size) (rowOf w.heap.size) (w.alloc (.cells #[.slice none 0 0] 33)):=by
      refine ⟨fun j hj=>?_,fun j hj=>?_,fun W hW=>?_⟩
      · subst hj;simp
      · rw [rowOf_box bL.out] at hj
        have:=hrow.out j hj
        simp;omega
      · exact rowOf_same (hW.block _ (by simp))
    have hSr:Srcs (w.alloc (.cells #[.slice none 0 0] 33)) x B (fun j=>j = w.heap.size∨rowOf w.heap.size (w.alloc (.cells #[.slice none 0 0] 33)) = some j):=by
      obtain ⟨o,cp,ba,offa,s1,s2,s3,s4,s5,s6⟩:=hs.out
      refine ⟨o,cp,ba,offa,(heap_old _ _ _ (lt_of_heap s1)).trans s1,s2,s3,fun j hj=>cell_on ((Below.refl _ _).alloc (Nat.le_refl _) _) (s4 j hj),?_,fun hp=>?_⟩
      · rw [rowOf_box bL.out]
        rintro (h | h)
        · have:=lt_of_heap s1;omega
        · exact s5 h
      · rw [rowOf_box bL.out]
        rintro (h | h)
        · have:=World.block_lt_of_cell? _ _ (s4 0 hp);simp only at this;omega
        · exact s6 hp h
    have hinv:AInv (x:=x) w base k (.slice none 0 0) xs [] (w.alloc (.cells #[.slice none 0 0] 33)) :=
      ⟨⟨_,bL.out,by simpa using hown.out.alloc _,.inl rfl⟩,World.grownBy_alloc _ _ _,by simp⟩
    refine wpIn_rangeFunc_ownG (α:=PartOf x) rfl (by decide) (gf:=135) (lb:=#[.pointer (some ⟨B,0,none⟩)]) rfl trivial (enters_of Tryz.func135 (by kernel_rfl) rfl)
      (parts_stops 4 (by decide) x B _ _ _ hAr hSr) (fun h k=>h.trans k) (fun W l o o' h1 h2 h3 _=>keepM_putObj (by simp) W l o o' h1 h2 h3) (Below.refl _ _) (fun _=>rfl)
      (AInv w base k (.slice none 0 0) xs) (fun _ _ _=>False) (by have:=ainv_own (x:=x) w base k (.slice none 0 0) xs;simpa using this) (fun _ _ _ _ _ hs _ _=>hs) hinv
      (fun p=>{ tmps:=#[.slice none 0 0,.func (.func 135) #[] #[.pointer (some ⟨B,0,none⟩)],.pointer (some ⟨w.heap.size,0,none⟩),undef,.slice none 0 0,.int .i64 p.1,.func (.func 135) #[] #[.pointer (some ⟨B,0,none⟩)],.int .i64 p.1,undef,undef,undef,undef,undef],defers:=[] }) ?assign ?body ?done ?stop
    case assign =>
      rintro lp p W K hK
      gi_wp2
      exact hK
    case body =>
      rintro lp pre p W ⟨⟨v',hv,hr,hsr⟩,hg0,hN⟩ hlt
      have hc:=hv.cell
      have HV:=hid hv
      have HR:=hid hr
      have HS:=hid hsr
      have HG:=hid hg0
      have HN:=hid hN
      have HL:=hid hlt
      clear hv hr hsr hg0 hN hlt
      gi_wp2_with (gi_at_builtin;refine wpListIn_append_int _ rfl _ _ rfl base v' (k+pre.length) _ rfl (HR.out.alloc _) ⟨W.heap.size,0,none⟩ [.int .i64 p.1] rfl rfl (cell_one_new _ _ _) (by simp [Value.oneCell']) (by have:=HL.out;have:=hk.out;have:=hp.out;omega) (by have:=HN.out;have:=hbase.out;simp;omega) ?_;intro v2 w3 hown' hgrow hr3;obtain ⟨g',cap',rfl⟩:=ownsRow_succ hown';obtain ⟨hv1,hv2,hr2,hk2,hb2⟩:=HV.out.appended (by decide) HR.out (by have:=HN.out;have:=hbase.out;omega) hbase.out hown' hgrow;have hc1:=hv1.cell;have hf1:=hv1.frozen;have G2:=hid hgrow;have G3:=hid hr3;have G4:=hid hv2;have G5:=hid hr2;have G6:=hid hk2;have G7:=hid hb2;clear hown' hgrow hr3 hv1 hv2 hr2 hk2 hb2)
      have hsame:∀ j,j < W.heap.size→j≠w.heap.size→some j≠v'.ownBlock→(w3.setCell ⟨w.heap.size,0,none⟩ (.slice (some ⟨g',0,none⟩) (k+pre.length+1) cap')).heap[j]? = W.heap[j]?:=fun j hj hB hr =>
        (set_other _ _ _ _ _ hB).trans ((G2.out.block j (by simp;omega) hr).trans (heap_old _ _ _ hj))
      have hsz:=G7.out.size
      refine ⟨G6.out.from _,⟨hsz,fun j hj hB hr _=>hsame j hj hB (by rw [rowOf_box HV.out] at hr;exact Ne.symm hr),fun j hj=>?_⟩,⟨⟨_,G4.out,?_,?_⟩,?_,Nat.le_trans HN.out hsz⟩⟩
      · rw [rowOf_box HV.out]
        have hlt:=(G5.out.lt j (by rw [rowOf_box G4.out] at hj;exact hj)).2
        rw [rowOf_box G4.out] at hj
        rcases G3.out with h | h
        · rw [h] at hj;exact .inl hj
        · rw [h] at hj
          cases hj
          exact .inr ⟨by simp,hlt⟩
      · have:=G5.out
        rw [List.length_append,List.length_singleton,List.map_append,← List.append_assoc,← Nat.add_assoc]
        exact this
      · rcases G3.out with h | h
        · rcases HS.out with h2 | ⟨r,h2,h3⟩
          · exact .inl (h.trans h2)
          · exact .inr ⟨r,h.trans h2,h3⟩
        · exact .inr ⟨_,h,by have:=HN.out;simp;omega⟩
      · refine ⟨G7.out.os.trans HG.out.os,G7.out.tape.trans HG.out.tape,G7.out.output.trans HG.out.output,Nat.le_trans HG.out.size hsz,fun j hj hr=>(hsame j (by have:=HN.out;omega) (by omega) (fun e=>?_)).trans (HG.out.block j hj hr)⟩
        rcases HS.out with h2 | ⟨r,h2,h3⟩
        · rw [h2] at e;exact hr e
        · rw [h2] at e;cases e;omega
    case done =>
      rintro D ys W hD hys ⟨⟨v',hv,hr,hsr⟩,hg0,hN⟩ hK
      have hc:=hv.cell
      have HR:=hid hr
      have HS:=hid hsr
      have HG:=hid hg0
      have HK:=hid hK
      have hD' : w.heap.size≤D:=by simp at hD;omega
      clear hv hr hsr hg0 hN hD hK
      gi_wp2
      refine ⟨by simp,.inl ⟨_,_,rfl,run_takeDeferred HK.out,?_⟩⟩
      refine ⟨_,results_tmp rfl _ _ _,v',rfl,?_,grown_trans' HG.out (grownBy_putObj' W D _) hD',HS.out⟩
      have:=ownsRow_putObj HR.out (.deferred none) HK.out rfl
      rw [← hys,List.length_map,List.length_map,List.map_map]
      exact this
    case stop =>
      rintro D c pre W _ _ h _
      exact h.elim
  · clear hk0
    gi_wp2
    have bL:=hid (Boxed.new w 33 (.slice (some ⟨g,0,none⟩) k cap))
    have hAr:Around (fun j=>j = w.heap.size) (rowOf w.heap.size) (w.alloc (.cells #[.slice (some ⟨g,0,none⟩) k cap] 33)):=by
      refine ⟨fun j hj=>?_,fun j hj=>?_,fun W hW=>?_⟩
      · subst hj;simp
      · rw [rowOf_box bL.out] at hj
        have:=hrow.out j hj
        simp;omega
      · exact rowOf_same (hW.block _ (by simp))
    have hSr:Srcs (w.alloc (.cells #[.slice (some ⟨g,0,none⟩) k cap] 33)) x B (fun j=>j = w.heap.size∨rowOf w.heap.size (w.alloc (.cells #[.slice (some ⟨g,0,none⟩) k cap] 33)) = some j):=by
      obtain ⟨o,cp,ba,offa,s1,s2,s3,s4,s5,s6⟩:=hs.out
      refine ⟨o,cp,ba,offa,(heap_old _ _ _ (lt_of_heap s1)).trans s1,s2,s3,fun j hj=>cell_on ((Below.refl _ _).alloc (Nat.le_refl _) _) (s4 j hj),?_,fun hp=>?_⟩
      · rw [rowOf_box bL.out]
        rintro (h | h)
        · have:=lt_of_heap s1;omega
        · exact s5 h
      · rw [rowOf_box bL.out]
        rintro (h | h)
        · have:=World.block_lt_of_cell? _ _ (s4 0 hp);simp only at this;omega
        · exact s6 hp h
    have hinv:AInv (x:=x) w base k (.slice (some ⟨g,0,none⟩) k cap) xs [] (w.alloc (.cells #[.slice (some ⟨g,0,none⟩) k cap] 33)) :=
      ⟨⟨_,bL.out,by simpa using hown.out.alloc _,.inl rfl⟩,World.grownBy_alloc _ _ _,by simp⟩
    refine wpIn_rangeFunc_ownG (α:=PartOf x) rfl (by decide) (gf:=135) (lb:=#[.pointer (some ⟨B,0,none⟩)]) rfl trivial (enters_of Tryz.func135 (by kernel_rfl) rfl)
      (parts_stops 4 (by decide) x B _ _ _ hAr hSr) (fun h k=>h.trans k) (fun W l o o' h1 h2 h3 _=>keepM_putObj (by simp) W l o o' h1 h2 h3) (Below.refl _ _) (fun _=>rfl)
      (AInv w base k (.slice (some ⟨g,0,none⟩) k cap) xs) (fun _ _ _=>False) (by have:=ainv_own (x:=x) w base k (.slice (some ⟨g,0,none⟩) k cap) xs;simpa using this) (fun _ _ _ _ _ hs _ _=>hs) hinv
      (fun p=>{ tmps:=#[.slice (some ⟨g,0,none⟩) k cap,.func (.func 135) #[] #[.pointer (some ⟨B,0,none⟩)],.pointer (some ⟨w.heap.size,0,none⟩),undef,.slice none 0 0,.int .i64 p.1,.func (.func 135) #[] #[.pointer (some ⟨B,0,none⟩)],.int .i64 p.1,undef,undef,undef,undef,undef],defers:=[] }) ?assign ?body ?done ?stop
    case assign =>
      rintro lp p W K hK
      gi_wp2
      exact hK
    case body =>
      rintro lp pre p W ⟨⟨v',hv,hr,hsr⟩,hg0,hN⟩ hlt
      have hc:=hv.cell
      have HV:=hid hv
      have HR:=hid hr
      have HS:=hid hsr
      have HG:=hid hg0
      have HN:=hid hN
      have HL:=hid hlt
      clear hv hr hsr hg0 hN hlt
      gi_wp2_with (gi_at_builtin;refine wpListIn_append_int _ rfl _ _ rfl base v' (k+pre.length) _ rfl (HR.out.alloc _) ⟨W.heap.size,0,none⟩ [.int .i64 p.1] rfl rfl (cell_one_new _ _ _) (by simp [Value.oneCell']) (by have:=HL.out;have:=hk.out;have:=hp.out;omega) (by have:=HN.out;have:=hbase.out;simp;omega) ?_;intro v2 w3 hown' hgrow hr3;obtain ⟨g',cap',rfl⟩:=ownsRow_succ hown';obtain ⟨hv1,hv2,hr2,hk2,hb2⟩:=HV.out.appended (by decide) HR.out (by have:=HN.out;have:=hbase.out;omega) hbase.out hown' hgrow;have hc1:=hv1.cell;have hf1:=hv1.frozen;have G2:=hid hgrow;have G3:=hid hr3;have G4:=hid hv2;have G5:=hid hr2;have G6:=hid hk2;have G7:=hid hb2;clear hown' hgrow hr3 hv1 hv2 hr2 hk2 hb2)
      have hsame:∀ j,j < W.heap.size→j≠w.heap.size→some j≠v'.ownBlock→(w3.setCell ⟨w.heap.size,0,none⟩ (.slice (some ⟨g',0,none⟩) (k+pre.length+1) cap')).heap[j]? = W.heap[j]?:=fun j hj hB hr =>
        (set_other _ _ _ _ _ hB).trans ((G2.out.block j (by simp;omega) hr).trans (heap_old _ _ _ hj))
      have hsz:=G7.out.size
      refine ⟨G6.out.from _,⟨hsz,fun j hj hB hr _=>hsame j hj hB (by rw [rowOf_box HV.out] at hr;exact Ne.symm hr),fun j hj=>?_⟩,⟨⟨_,G4.out,?_,?_⟩,?_,Nat.le_trans HN.out hsz⟩⟩
      · rw [rowOf_box HV.out]
        have hlt:=(G5.out.lt j (by rw [rowOf_box G4.out] at hj;exact hj)).2
        rw [rowOf_box G4.out] at hj
        rcases G3.out with h | h
        · rw [h] at hj;exact .inl hj
        · rw [h] at hj
          cases hj
          exact .inr ⟨by simp,hlt⟩
      · have:=G5.out
        rw [List.length_append,List.length_singleton,List.map_append,← List.append_assoc,← Nat.add_assoc]
        exact this
      · rcases G3.out with h | h
        · rcases HS.out with h2 | ⟨r,h2,h3⟩
          · exact .inl (h.trans h2)
          · exact .inr ⟨r,h.trans h2,h3⟩
        · exact .inr ⟨_,h,by have:=HN.out;simp;omega⟩
      · refine ⟨G7.out.os.trans HG.out.os,G7.out.tape.trans HG.out.tape,G7.out.output.trans HG.out.output,Nat.le_trans HG.out.size hsz,fun j hj hr=>(hsame j (by have:=HN.out;omega) (by omega) (fun e=>?_)).trans (HG.out.block j hj hr)⟩
        rcases HS.out with h2 | ⟨r,h2,h3⟩
        · rw [h2] at e;exact hr e
        · rw [h2] at e;cases e;omega
    case done =>
      rintro D ys W hD hys ⟨⟨v',hv,hr,hsr⟩,hg0,hN⟩ hK
      have hc:=hv.cell
      have HR:=hid hr
      have HS:=hid hsr
      have HG:=hid hg0
      have HK:=hid hK
      have hD' : w.heap.size≤D:=by simp at hD;omega
      clear hv hr hsr hg0 hN hD hK
      gi_wp2
      refine ⟨by simp,.inl ⟨_,_,rfl,run_takeDeferred HK.out,?_⟩⟩
      refine ⟨_,results_tmp rfl _ _ _,v',rfl,?_,grown_trans' HG.out (grownBy_putObj' W D _) hD',HS.out⟩
      have:=ownsRow_putObj HR.out (.deferred none) HK.out rfl
      rw [← hys,List.length_map,List.length_map,List.map_map]
      exact this
    case stop =>
      rintro D c pre W _ _ h _
      exact h.elim
theorem append_any (x:Ex) (B base k:Nat) (v:Value) (xs:List Value) (w:World) (hown:w.ownsRow base 3 1 v k xs) (hbase:base≤w.heap.size) (hk:k≤100000000) (hp:(partsE x).length≤1000) (hs:Srcs w x B (fun k=>v.ownBlock = some k)) :
    Calls Tryz.prog 66 #[v,partsV B] w fun e w'=>AppPost base k v xs ((partsE x).map intV) w e w' :=
  callsIn_wide.1 (append_core x B base k v xs w (hid hown) (hid hbase) (hid hk) (hid hp) (hid hs))
theorem collect_any (x:Ex) (B:Nat) (w:World) (hp:(partsE x).length≤1000) (hs:Srcs w x B (fun _=>False)) :
    Calls Tryz.prog 36 #[partsV B] w fun e w'=>NewInts (partsE x) w e w':=by
  have C:=hid (append_any x B w.heap.size 0 (.slice none 0 0) [] w (World.ownsRow_nil _ _ _ _) (Nat.le_refl _) (by omega) hp (by
    obtain ⟨o,cp,ba,offa,s1,s2,s3,s4,s5,s6⟩:=hs
    exact ⟨o,cp,ba,offa,s1,s2,s3,s4,(fun h=>by simp [Value.ownBlock] at h),fun _ h=>by simp [Value.ownBlock] at h⟩))
  clear hs
  go_enter Tryz.func36,Tryz.ntmps36
  go_wp2_with (go_at_call 66;((with_reducible refine C.out.mono ?_);rintro e w1 ⟨v',rfl,hown,hg,_⟩;have H1:=hid hown;have H2:=hid hg;clear hown hg))
  go_ret
  refine ⟨v',rfl,?_,grown_below H2.out⟩
  have:=H1.out
  rwa [Nat.zero_add,List.nil_append,List.length_map] at this
theorem parts_fn (x:Ex) (s:Value) (w:World) (ha:IntsAt w s x.args) (hk:ExOk x) (hp:(partsE x).length≤1000) :
    Calls Tryz.prog 90 #[exV x s] w fun e w'=>NewInts (partsE x) w e w':=by
  have hb1:=hid (below_al (Below.refl w.heap.size w) (.cells (exCells x s) 59))
  obtain ⟨w1,hw1⟩:∃ w1,w1 = w.alloc (.cells (exCells x s) 59):=⟨_,rfl⟩
  have hb2:=hid (below_al (Below.refl w1.heap.size w1) (.cells (exCells x s) 59))
  have C:=hid (collect_any x w1.heap.size (w1.alloc (.cells (exCells x s) 59)) hp (srcs_of ha hk (hb1.out.trans (by rw [← hw1];exact hb2.out.mono (by rw [hw1];simp))) (ex_boxed w1 x s) (fun _ h=>h.elim) (fun h=>h)))
  rw [hw1,World.size_alloc] at C
  rw [hw1] at hb2
  clear hw1 ha hk
  unfold exV exCells at *
  go_enter Tryz.func90,Tryz.ntmps90
  go_wp2_with (first | (go_at_call 121;((with_reducible refine (parts_any _ _ _ _ _ _ _ _ _ _).mono ?_);rintro e w2 ⟨rfl,rfl⟩)) | (go_at_call 36;((with_reducible refine C.out.mono ?_);rintro e w3 ⟨v',rfl,hown,hb⟩;have H1:=hid hown;have H2:=hid hb;clear hown hb)))
  go_ret
  have hbb:=hb1.out.trans (hb2.out.mono (by simp))
  refine ⟨v',rfl,?_,hbb.trans (H2.out.mono hbb.size)⟩
  exact owns_low H1.out (by simp;omega)
end Go.Proofs.YtdlmfeflinbbjaaGreat
