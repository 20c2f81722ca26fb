import Derived.Test.YtdlmfeflinbbjaaGreatNmWrongG
import Derived.Test.YtdlmfeflinbbjaaGreatNmJC
namespace Go.Proofs.YtdlmfeflinbbjaaGreat
open Go.Lib (hid)
open Go.RowKit Lx Go.Shelf Go.Maps
attribute [local go_sem] Oper.semAt_some
theorem wrong_seq (p:Pr) (sd se:Value) (B:Nat) (w0:World) (M:Nat→Prop) (rw:World→Option Nat) (w:World) (hB0:Below w0.heap.size w0 w) (hfree:∀ k,k < w0.heap.size→¬ M k∧rw w≠some k) (hN:Near M rw w) (hS:Still M rw w B) (hB:w.heap[B]? = some (.cells #[sd,se] 25 (0,0))) (hP:ProgAt w0 sd se p) (hsm:Small p) :
    SeqX (α:=Int) Fence.wide 6 Tryz.prog 54 #[.pointer (some ⟨B,0,none⟩)] (fun v=>#[.int .i64 v]) (fun _=>False) M rw (fun ys _=>∀ a,a∈ys↔WrongAt p a) (fun pre=>∀ a∈pre,WrongAt p a) 60000 w:=by
  obtain ⟨⟨o1,c1,db,doff,rfl,_,_,hd1,hd2⟩,⟨o2,c2,xb,xoff,rfl,_,_,hx1,hx2⟩,_,_⟩:=id hP
  intro lp J Jx W hW hJ hJx hJr hY h0
  exact wrong_core p o1 o2 _ c1 _ c2 B (hid rfl) (hid rfl) (by have:=hsm.exprs;omega) (by have:=hsm.decls;omega) w0 M rw w (hid hB0) (hid ⟨⟨hB0.size,fun k hk=>hB0.block k hk⟩,hfree⟩) (hid hN) (hid hS) (hid hB) db doff (hid hd1) (hid hd2) (hid hP) (hid hsm) lp J Jx W (hid hW) (hid hJ) (hid hJx) (hid hJr) (hid hY) (hid h0)
def RightP (p:Pr):Prop:=mayN p = true∧∀ a,¬ WrongAt p a
def RtInv (w:World) (N:Nat) (pre:List Int) (W:World):Prop:=pre = []∧W.heap[w.heap.size+1]? = some (.cells #[.bool false] 4 (0,0))∧Below w.heap.size w W∧N≤W.heap.size
set_option maxHeartbeats 8000000 in
set_option maxRecDepth 100000 in
theorem right_core (o1 o2:Option Addr) (n1 c1 n2 c2:Nat) (p:Pr) (w:World) (hp:Hid (ProgAt w (.slice o1 n1 c1) (.slice o2 n2 c2) p)) (hs:Hid (Small p)) :
    CallsIn Fence.wide 7 Tryz.prog 13 #[.agg #[.slice o1 n1 c1,.slice o2 n2 c2]] w fun r Y=>∃ q:Bool,r = .returned (.bool q)∧(q = true↔RightP p)∧Below w.heap.size w Y:=by
  have hb0:=hid (below_al (below_al (Below.refl w.heap.size w) (.cells #[.slice o1 n1 c1,.slice o2 n2 c2] 25)) (.cells #[.bool false] 4))
  have MA:=hid (fun X (hX:Below w.heap.size w X)=>nmMay_any _ _ p X (hp.out.below hX) hs.out)
  have B0:Hid (((w.alloc (.cells #[.slice o1 n1 c1,.slice o2 n2 c2] 25)).alloc (.cells #[.bool false] 4)).heap[w.heap.size]? = some (.cells #[.slice o1 n1 c1,.slice o2 n2 c2] 25 (0,0))):=hid (al_old (al_new rfl))
  have B1:Hid (((w.alloc (.cells #[.slice o1 n1 c1,.slice o2 n2 c2] 25)).alloc (.cells #[.bool false] 4)).heap[w.heap.size+1]? = some (.cells #[.bool false] 4 (0,0))):=hid (al_new (by simp))
  refine callsIn_of_wp_marks Tryz.func13 rfl trivial ?_ rfl
  simp only [Tryz.ntmps13,List.size_toArray,List.length_cons,List.length_nil,Nat.reduceAdd,Nat.reduceSub,Array.replicate_succ,Array.replicate_zero,List.push_toArray,List.append_toArray,List.nil_append,List.cons_append]
  cases hmn:mayN p with
  | false =>
    rw [hmn] at MA
    gi_wp2_with (refine ⟨trivial,?_⟩;gi_at_call 30;((with_reducible refine (callsIn_wide.2 (MA.out _ hb0.out)).mono ?_);rintro e w1 ⟨rfl,hb1⟩;have HB1:=hid (hb0.out.trans (hb1.mono hb0.out.size));have BL:=hid ((hb1.block _ (lt_of_heap B1.out)).trans B1.out);obtain ⟨z8,z9⟩:=cell_f ((hb1.block _ (lt_of_heap B1.out)).trans B1.out);clear hb1))
    refine ⟨_,results_cell rfl _ ⟨w.heap.size+1,0,none⟩ rfl (load_bool (set_hp BL.out 0 (.bool false))),false,rfl,⟨fun h=>(by cases h),fun h=>(by have h2:=h.1;rw [hmn] at h2;cases h2)⟩,HB1.out.setCell (p:=⟨w.heap.size+1,0,none⟩) (show w.heap.size≤w.heap.size+1 by omega) _⟩
  | true =>
    rw [hmn] at MA
    have HMN:=hid hmn
    clear hmn
    gi_wp2_with (first
      | (refine ⟨trivial,?_⟩;gi_at_call 30;((with_reducible refine (callsIn_wide.2 (MA.out _ hb0.out)).mono ?_);rintro e w1 ⟨rfl,hb1⟩;have HB1:=hid (hb0.out.trans (hb1.mono hb0.out.size));have BL:=hid ((hb1.block _ (lt_of_heap B1.out)).trans B1.out);obtain ⟨b0,b1⟩:=cells_two ((hb1.block _ (lt_of_heap B0.out)).trans B0.out);clear hb1))
      | (refine ⟨trivial,?_⟩;gi_at_call 29;((with_reducible refine (callsIn_wide.2 (wrong_any _ _ _ _ _ _ _)).mono ?_);rintro e w2 ⟨rfl,rfl⟩)))
    obtain ⟨V,hV⟩:∃ V,V = w1.alloc (.cells #[.slice o1 n1 c1,.slice o2 n2 c2] 25):=⟨_,rfl⟩
    have vb:Below w1.heap.size w1 V:=by rw [hV];exact below_al (Below.refl _ _) _
    have vp:V.heap[w1.heap.size]? = some (.cells #[.slice o1 n1 c1,.slice o2 n2 c2] 25 (0,0)):=by rw [hV];exact al_new rfl
    rw [← hV]
    clear hV b0 b1
    have HVB:=hid (HB1.out.trans (vb.mono HB1.out.size))
    have VL:=hid ((vb.block _ (lt_of_heap BL.out)).trans BL.out)
    have hl1:w.heap.size+1 < w1.heap.size:=lt_of_heap BL.out
    have HL1:=hid hl1
    have HVS:=hid vb.size
    have NR:Hid (Near (fun k=>k = w.heap.size+1) (fun _=>none) V):=hid ⟨fun k h=>by have:=vb.size;omega,fun k h=>(by cases h),fun X Y h=>rfl⟩
    have WS:=hid (wrong_seq p _ _ w1.heap.size w (fun k=>k = w.heap.size+1) (fun _=>none) V HVB.out (fun k hk=>⟨fun h=>by omega,fun h=>by cases h⟩) NR.out ⟨lt_of_heap vp,fun h=>by omega,fun h=>by cases h⟩ vp hp.out hs.out)
    clear vb vp hl1
    refine wpIn_range_x (α:=Int) rfl (by decide) (gf:=54) (lb:=#[.pointer (some ⟨w1.heap.size,0,none⟩)]) rfl trivial (enters_of Tryz.func54 (by kernel_rfl) rfl)
      WS.out (fun _ _ _ _ _ h=>h) NR.out (fun _ h=>h.elim) (fun _=>rfl)
      (fun pre X=>pre = []∧X.heap[w.heap.size+1]? = some (.cells #[.bool false] 4 (0,0))∧Below w.heap.size w X) (fun c pre X=>c = .ret∧(∃ a,a∈pre)∧X.heap[w.heap.size+1]? = some (.cells #[.bool false] 4 (0,0))∧Below w.heap.size w X)
      (fun s X Y row h hg hr=>⟨h.1,(hg.block _ (lt_of_heap h.2.1) (fun e=>by rcases (hr _ e.symm).1 with h1 | h1;have:=HL1.out;have:=HVS.out;omega;exact h1.elim)).trans h.2.1,h.2.2.grown hg h.2.2.size (fun k e=>by rcases (hr k e).1 with h1 | h1;have:=HVB.out.size;omega;exact h1.elim)⟩)
      (fun c s X Y row h hg hr=>⟨h.1,h.2.1,(hg.block _ (lt_of_heap h.2.2.1) (fun e=>by rcases (hr _ e.symm).1 with h1 | h1;have:=HL1.out;have:=HVS.out;omega;exact h1.elim)).trans h.2.2.1,h.2.2.2.grown hg h.2.2.2.size (fun k e=>by rcases (hr k e).1 with h1 | h1;have:=HVB.out.size;omega;exact h1.elim)⟩)
      (fun s X _ k h=>(by cases h)) ⟨rfl,VL.out,HVB.out⟩
      (fun v a' _=>a' = { tmps:=#[.agg #[.slice o1 n1 c1,.slice o2 n2 c2],.pointer (some ⟨w.heap.size,0,none⟩),.pointer (some ⟨w.heap.size+1,0,none⟩),.agg #[.slice o1 n1 c1,.slice o2 n2 c2],.bool true,.bool false,.agg #[.slice o1 n1 c1,.slice o2 n2 c2],.func (.func 54) #[] #[.pointer (some ⟨w1.heap.size,0,none⟩)],.int .i64 v],defers:=[] }) (fun v a' Z l o o' _ _ _ h=>h) ?assign ?body ?done ?stop
    case assign =>
      rintro lp' pre v X K hi hs hK
      gi_wp2
      exact hK _ _ (Below.refl _ _) (by simp)
    case body =>
      rintro lp' pre v a' X hs ⟨rfl,h2,h3⟩ rfl hlt
      obtain ⟨z8,z9⟩:=cell_f h2
      have HX:=hid (And.intro h2 h3)
      clear h2 h3 hs hlt
      gi_wp2
      exact ⟨(KeepsOthers.setCell _ _ _).from _,rfl,⟨v,by simp⟩,set_hp HX.out.1 0 _,HX.out.2.setCell (p:=⟨w.heap.size+1,0,none⟩) (show w.heap.size≤w.heap.size+1 by omega) _⟩
    case stop =>
      rintro D c pre X hD hpre ⟨rfl,⟨a,ha⟩,h2,h3⟩ hmark
      have hne:w.heap.size+1≠D:=by have:=HL1.out;have:=HVS.out;omega
      have HX:=hid (show _∧_∧_∧_ from ⟨hpre a ha,h2,h3,hmark⟩)
      have HD:=hid hD
      clear h2 h3 hmark hD hpre
      dsimp only
      gi_wp2_with fail
      refine ⟨by simp,.inl ⟨_,_,rfl,run_takeDeferred HX.out.2.2.2,?_⟩⟩
      exact ⟨_,results_cell rfl _ ⟨w.heap.size+1,0,none⟩ rfl (load_bool ((World.putObj_heap_other hne).trans HX.out.2.1)),false,rfl,⟨fun h=>(by cases h),fun h=>absurd HX.out.1 (h.2 a)⟩,HX.out.2.2.1.grown (grownBy_putObj' X D _) HX.out.2.2.1.size (fun k e=>by cases e;have:=HD.out;have:=HVB.out.size;omega)⟩
    case done =>
      rintro D ys X hD hys ⟨rfl,h2,h3⟩ hmark
      obtain ⟨z8,z9⟩:=cell_f h2
      have hne:w.heap.size+1≠D:=by have:=HL1.out;have:=HVS.out;omega
      have HX:=hid (show _∧_∧_∧_ from ⟨hys,h2,h3,hmark⟩)
      have HD:=hid hD
      clear h2 h3 hmark hD hys
      dsimp only
      gi_wp2_with fail
      refine ⟨by simp,.inl ⟨_,_,rfl,run_takeDeferred ((set_ot hne _ _).trans HX.out.2.2.2),?_⟩⟩
      exact ⟨_,results_cell rfl _ ⟨w.heap.size+1,0,none⟩ rfl (load_bool ((World.putObj_heap_other hne).trans (set_hp HX.out.2.1 0 (.bool true)))),true,rfl,⟨fun _=>⟨HMN.out,fun a h=>by cases (HX.out.1 a).2 h⟩,fun _=>rfl⟩,(HX.out.2.2.1.setCell (p:=⟨w.heap.size+1,0,none⟩) (show w.heap.size≤w.heap.size+1 by omega) _).grown (grownBy_putObj' _ D _) (by simp only [World.size_setCell];exact HX.out.2.2.1.size) (fun k e=>by cases e;have:=HD.out;have:=HVB.out.size;omega)⟩
theorem right_any (sd se:Value) (p:Pr) (w:World) (h:ProgAt w sd se p) (hs:Small p):Calls Tryz.prog 13 #[.agg #[sd,se]] w fun r Y=>∃ q:Bool,r = .returned (.bool q)∧(q = true↔RightP p)∧Below w.heap.size w Y:=by
  obtain ⟨⟨o1,c1,db,doff,rfl,_⟩,⟨o2,c2,xb,xoff,rfl,_⟩,_⟩:=id h
  exact callsIn_wide.1 (right_core o1 o2 _ c1 _ c2 p w (hid h) (hid hs))
def faCs (l:List Int):List Value:=(l.map fun a=>((4,a):Flt)).flatMap encF
theorem faCs_snoc (l:List Int) (x:Int):faCs (l ++ [x]) = faCs l ++ [.int .i64 4,.int .i64 x]:=by simp [faCs,encF]
def FaInv (w:World) (N:Nat) (pre:List Int) (W:World):Prop :=
  (∃ v,Boxed W (w.heap.size+1) 28 v∧W.ownsRow (w.heap.size+1+1) 51 2 v pre.length (faCs pre))∧Below w.heap.size w W∧N≤W.heap.size
theorem fa_round {w W W8 W9:World} {B:Nat} {v v' : Value} {l:List Int} {x:Int} (hB:w.heap.size+1 < B) (h1:Boxed W (w.heap.size+1) 28 v) (h2:W.ownsRow (w.heap.size+1+1) 51 2 v l.length (faCs l)) (h7:Below w.heap.size w W) (hN:B≤W.heap.size)
    (h8:Below W.heap.size W W8) (hown:W9.ownsRow (w.heap.size+1+1) 51 2 v' (l.length+1) (faCs l ++ [.int .i64 4,.int .i64 x])) (hgrow:W8.grownBy W9 v.ownBlock) (hat:v'.ownBlock = v.ownBlock∨v'.ownBlock = some W8.heap.size) :
    KeepsFrom B W (W9.setCell ⟨w.heap.size+1,0,none⟩ v')∧KeepX (fun k=>k = w.heap.size+1) (rowOf (w.heap.size+1)) B (B+2) W (W9.setCell ⟨w.heap.size+1,0,none⟩ v')∧FaInv w B (l ++ [x]) (W9.setCell ⟨w.heap.size+1,0,none⟩ v'):=by
  obtain ⟨L,hL⟩:∃ L,L = w.heap.size+1:=⟨_,rfl⟩
  unfold FaInv
  rw [← hL] at hB h1 h2 hown ⊢
  have hLW:=lt_of_heap h1
  have g10:=grownBy_setCell' W9 L v'
  have z10:W.heap.size≤(W9.setCell ⟨L,0,none⟩ v').heap.size:=Nat.le_trans h8.size (Nat.le_trans hgrow.size g10.size)
  have hvb:∀ g,v.ownBlock = some g→L+1≤g∧∃ cur:Array Value,W.heap[g]? = some (.cells cur 51 (0,0)):=fun g hg=>own_lt h2 hg
  have keep:∀ k,k < W.heap.size→k≠L→v.ownBlock≠some k→(W9.setCell ⟨L,0,none⟩ v').heap[k]? = W.heap[k]?:=fun k hk hl hr =>
    (g10.block k (Nat.lt_of_lt_of_le (Nat.lt_of_lt_of_le hk h8.size) hgrow.size) (fun e=>hl (Option.some.inj e))).trans ((hgrow.block k (Nat.lt_of_lt_of_le hk h8.size) (fun e=>hr e.symm)).trans (h8.block k hk))
  have b9:Boxed W9 L 28 v:=(hgrow.block L (Nat.lt_of_lt_of_le hLW h8.size) (fun e=>by have:=(hvb L e.symm).1;omega)).trans ((h8.block L hLW).trans h1)
  have b10:Boxed (W9.setCell ⟨L,0,none⟩ v') L 28 v':=b9.set v'
  refine ⟨⟨z10,fun k o hk hh ho=>?_⟩,⟨z10,fun k hk hM hr _=>keep k hk hM (by rw [rowOf_box h1] at hr;exact hr),fun k hk=>?_⟩,⟨v',b10,?_⟩,?_,Nat.le_trans hN z10⟩
  · refine (keep k (lt_of_heap hh) (by omega) fun e=>?_).trans hh
    obtain ⟨_,cur,hc⟩:=hvb k e
    rw [hh] at hc
    cases hc
    cases ho
  · rw [rowOf_box b10] at hk
    rcases hat with h | h
    · left;rw [rowOf_box h1,← h];exact hk
    · right
      rw [hk] at h
      have:=Option.some.inj h
      have h8s:=h8.size
      refine ⟨by omega,?_⟩
      obtain ⟨_,cur,hc⟩:=own_lt hown hk
      exact Nat.lt_of_lt_of_le (lt_of_heap hc) g10.size
  · have h10:=own_same (Y:=W9.setCell ⟨L,0,none⟩ v') hown fun g hg=>by
      obtain ⟨hg1,cur,hc⟩:=own_lt hown hg
      exact set_other W9 L g 0 v' (by omega)
    rw [faCs_snoc,List.length_append]
    exact h10
  · have c3:=h7.trans (h8.mono h7.size)
    have c4:=c3.grown hgrow c3.size (fun k e=>by have:=(hvb _ e).1;omega)
    exact c4.grown g10 c4.size (fun k e=>by have:=Option.some.inj e;omega)
theorem flsAt_put {X:World} {D:Nat} {o o' : Obj} {s:Value} {l:List Flt} (h:FlsAt X s l) (hD:X.heap[D]? = some o) (ho:o.isCells = false):FlsAt (X.putObj D o') s l:=by
  have key:∀ {a:Addr} {v:Value},X.cell? a = some v→(X.putObj D o').cell? a = some v:=fun {a v} hc=>by
    have hne:a.block≠D:=fun e=>by
      unfold World.cell? at hc
      rw [e,hD] at hc
      cases o <;> first | cases hc | cases ho
    have:=World.putObj_heap_other (w:=X) (o:=o') hne
    unfold World.cell? at hc ⊢
    rw [this]
    exact hc
  exact h.mono fun b o i hi h x hx=>⟨key (h x hx).1,key (h x hx).2⟩
def FaultsPost (p:Pr) (w:World) (r:Ending) (Y:World):Prop:=∃ (v:Value) (l:List Flt),r = .returned v∧FlsAt Y v (ordF l)∧(∀ x,x∈l↔∃ a,WrongAt p a∧x = (4,a))∧Below w.heap.size w Y
theorem faInv_abides (w:World) (N:Nat) (hN:w.heap.size+1 < N) (E:Nat→Prop) (hE:∀ k,¬ E k):AbidesE (rowOf (w.heap.size+1)) E N (FaInv w N):=by
  rintro s X Y row ⟨⟨v,hv,hr⟩,h5,h6⟩ hg hrow
  have hge:∀ k,row = some k→N≤k:=fun k e=>by rcases (hrow k e).1 with h | h;exact h;exact absurd h (hE k)
  have hne:∀ b,b < N→some b≠row:=fun b hb e=>by have:=hge b e.symm;omega
  refine ⟨⟨v,hv.kept hg (hne _ hN),own_same hr fun g hgb=>?_⟩,h5.grown hg h5.size (fun k e=>by have:=hge k e;omega),Nat.le_trans h6 hg.size⟩
  obtain ⟨h1,cur,h2⟩:=own_lt hr hgb
  refine hg.block g (lt_of_heap h2) fun e=>?_
  obtain ⟨_,o,ho,hc⟩:=hrow g e.symm
  rcases hc with hc | hc
  · rw [h2] at ho;cases ho;cases hc
  · exact hc (by rw [rowOf_box hv];exact hgb)
set_option maxHeartbeats 8000000 in
set_option maxRecDepth 100000 in
theorem faults_core (o1 o2:Option Addr) (n1 c1 n2 c2:Nat) (p:Pr) (w:World) (hp:Hid (ProgAt w (.slice o1 n1 c1) (.slice o2 n2 c2) p)) (hs:Hid (Small p)) :
    CallsIn Fence.wide 7 Tryz.prog 12 #[.agg #[.slice o1 n1 c1,.slice o2 n2 c2]] w fun r Y=>FaultsPost p w r Y:=by
  refine callsIn_of_wp_marks Tryz.func12 rfl trivial ?_ rfl
  simp only [Tryz.ntmps12,List.size_toArray,List.length_cons,List.length_nil,Nat.reduceAdd,Nat.reduceSub,Array.replicate_succ,Array.replicate_zero,List.push_toArray,List.append_toArray,List.nil_append,List.cons_append]
  gi_wp2_with (refine ⟨trivial,?_⟩;gi_at_call 29;((with_reducible refine (callsIn_wide.2 (wrong_any _ _ _ _ _ _ _)).mono ?_);rintro e w2 ⟨rfl,rfl⟩))
  obtain ⟨V,hV⟩:∃ V,V = ((w.alloc (.cells #[.slice o1 n1 c1,.slice o2 n2 c2] 25)).alloc (.cells #[.slice none 0 0] 28)).alloc (.cells #[.slice o1 n1 c1,.slice o2 n2 c2] 25):=⟨_,rfl⟩
  have vb:Below w.heap.size w V:=by rw [hV];exact below_al (below_al (below_al (Below.refl _ _) _) _) _
  have vl:V.heap[w.heap.size+1]? = some (.cells #[.slice none 0 0] 28 (0,0)):=by rw [hV];exact al_old (al_new (by simp))
  have vp:V.heap[w.heap.size+1+1]? = some (.cells #[.slice o1 n1 c1,.slice o2 n2 c2] 25 (0,0)):=by rw [hV];exact al_new (by simp)
  rw [← hV]
  clear hV
  have hrow:rowOf (w.heap.size+1) V = none:=rowOf_box vl
  have hz:=lt_of_heap vl
  have HZ:=hid hz
  have HVB:=hid vb
  have NR:Hid (Near (fun k=>k = w.heap.size+1) (rowOf (w.heap.size+1)) V):=hid ⟨fun k h=>by omega,fun k h=>by (rw [hrow] at h;cases h),fun X Y h=>rowOf_same (h _ hz)⟩
  have WS:=hid (wrong_seq p _ _ (w.heap.size+1+1) w (fun k=>k = w.heap.size+1) (rowOf (w.heap.size+1)) V vb (fun k hk=>⟨fun h=>by omega,fun h=>by (rw [hrow] at h;cases h)⟩) NR.out ⟨lt_of_heap vp,fun h=>by omega,fun h=>by (rw [hrow] at h;cases h)⟩ vp hp.out hs.out)
  have HI0:Hid (FaInv w V.heap.size [] V):=hid ⟨⟨_,vl,World.ownsRow_nil _ _ _ _⟩,vb,Nat.le_refl _⟩
  clear vb vl vp hrow hz
  refine wpIn_range_x (α:=Int) rfl (by decide) (gf:=54) (lb:=#[.pointer (some ⟨w.heap.size+1+1,0,none⟩)]) rfl trivial (enters_of Tryz.func54 (by kernel_rfl) rfl)
    WS.out (fun _ _ _ _ _ h=>h) NR.out (fun _ h=>h.elim) (fun _=>rfl)
    (fun pre X=>FaInv w V.heap.size pre X∧pre.length≤60000) (fun _ _ _=>False) (fun s X Y row h hg hr=>⟨faInv_abides w _ HZ.out _ (fun _ h=>h) s X Y row h.1 hg hr,h.2⟩) (fun _ _ _ _ _ h _ _=>h) (fun s X h k hk=>by
      obtain ⟨⟨⟨v,hv,hr⟩,_⟩,_⟩:=h
      rw [rowOf_box hv] at hk
      obtain ⟨_,cur,h2⟩:=own_lt hr hk
      exact ⟨_,h2,rfl⟩) ⟨HI0.out,Nat.zero_le _⟩
    (fun v a' _=>a' = { tmps:=#[.agg #[.slice o1 n1 c1,.slice o2 n2 c2],.pointer (some ⟨w.heap.size,0,none⟩),.slice none 0 0,.pointer (some ⟨w.heap.size+1,0,none⟩),.int .i64 v,.agg #[.slice o1 n1 c1,.slice o2 n2 c2],.func (.func 54) #[] #[.pointer (some ⟨w.heap.size+1+1,0,none⟩)],.int .i64 v,undef,undef,undef,undef,undef,undef,undef],defers:=[] }) (fun v a' Z l o o' _ _ _ h=>h) ?assign ?body ?done ?stop
  case assign =>
    rintro lp' pre v X K hi hs hK
    gi_wp2
    exact hK _ _ (Below.refl _ _) rfl
  case body =>
    rintro lp' pre a a' X hs ⟨⟨⟨v,hv,hr⟩,hB,hN⟩,_⟩ rfl hlt
    have y0:=hv.cell
    have HV:=hid hv
    have HR:=hid hr
    have HB:=hid hB
    have HN:=hid hN
    have hpl:pre.length≤60000:=Nat.le_of_lt hlt
    have hpl2:Hid (pre.length < 60000):=hid hlt
    obtain ⟨ii,si2,si3,si4,si5⟩:=info_parts flt_info
    have HA:=hid (below_al (Below.refl X.heap.size X) (.cells #[.int .i64 4,.int .i64 a] 51))
    clear hv hr hB hN hlt hs
    gi_wp2_with (gi_at_builtin;refine wpListIn_append_own_at _ rfl _ _ 28 rfl (w.heap.size+1+1) 51 ii (.agg #[.int .i64 0,.int .i64 0]) 2 16 Tryz.underlying28 si2 si3 si4 si5 rfl (by decide) v pre.length _ rfl (HR.out.alloc _) ⟨X.heap.size,0,none⟩ 1 1 [.int .i64 4,.int .i64 a] rfl rfl (cell_two_new _ _ _ _) (by simp [Value.oneCell']) (by unfold maxLen;omega) (by omega) (by have:=HN.out;have:=HZ.out;simp;omega) ?_;intro v' W9 hown hgrow hnil hat;obtain ⟨g',cap',rfl⟩:=ownsRow_succ hown;have hc9:=((HV.out.alloc _).kept hgrow (fun e=>by have:=(own_lt HR.out e.symm).1;omega)).cell;have hf9:=((HV.out.alloc _).kept hgrow (fun e=>by have:=(own_lt HR.out e.symm).1;omega)).frozen;have HOWN:=hid hown;have HGROW:=hid hgrow;have HAT:=hid hat;clear hown hgrow hnil hat)
    obtain ⟨f1,f2,f3⟩:=fa_round HZ.out HV.out HR.out HB.out HN.out HA.out HOWN.out HGROW.out HAT.out
    exact ⟨f1,f2,f3,by rw [List.length_append];exact hpl2.out⟩
  case done =>
    rintro D ys X hD hys ⟨⟨⟨v,hv,hr⟩,hB,hN⟩,hyl⟩ hmark
    have y0:=hv.cell
    have HX:=hid (show _∧_∧_∧_∧_ from ⟨hD,hys,hr,hB,hmark⟩)
    have hlen:(ys.map fun a=>((4,a):Flt)).length≤1000000:=by rw [List.length_map];omega
    have OC:=hid (order_any v (ys.map fun a=>((4,a):Flt)) X (flsAt_own (by rw [List.length_map];exact hr)) hlen)
    clear hD hys hv hr hB hN hmark hlen
    dsimp only
    gi_wp2_with (refine ⟨trivial,?_⟩;gi_at_call 26;((with_reducible refine (callsIn_wide.2 OC.out).mono ?_);rintro e X2 ⟨v2,rfl,hf,hb2⟩;have HF:=hid hf;have HB2:=hid hb2;clear hf hb2))
    refine ⟨by simp,.inl ⟨_,_,rfl,run_takeDeferred ((HB2.out.block _ (lt_of_heap HX.out.2.2.2.2)).trans HX.out.2.2.2.2),?_⟩⟩
    obtain ⟨h1,h2,_,h4,h5⟩:=HX.out
    refine ⟨_,results_tmp (t:=2) (by kernel_rfl) _ _ _,v2,_,rfl,flsAt_put HF.out ((HB2.out.block _ (lt_of_heap h5)).trans h5) rfl,fun x=>?_,(h4.trans (HB2.out.mono h4.size)).grown (grownBy_putObj' X2 D _) (h4.trans (HB2.out.mono h4.size)).size (fun k e=>by cases e;have:=HVB.out.size;omega)⟩
    rw [List.mem_map]
    exact ⟨fun ⟨a,ha,e⟩=>⟨a,(h2 a).1 ha,e.symm⟩,fun ⟨a,ha,e⟩=>⟨a,(h2 a).2 ha,e.symm⟩⟩
  case stop =>
    rintro D c pre X _ _ h _
    exact h.elim
theorem faults_any (sd se:Value) (p:Pr) (w:World) (h:ProgAt w sd se p) (hs:Small p):Calls Tryz.prog 12 #[.agg #[sd,se]] w fun r Y=>FaultsPost p w r Y:=by
  obtain ⟨⟨o1,c1,db,doff,rfl,_⟩,⟨o2,c2,xb,xoff,rfl,_⟩,_⟩:=id h
  exact callsIn_wide.1 (faults_core o1 o2 _ c1 _ c2 p w (hid h) (hid hs))
end Go.Proofs.YtdlmfeflinbbjaaGreat
