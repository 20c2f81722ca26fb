import Derived.Test.YtdlmfeflinbbjaaGreatNmQA
namespace Go.Proofs.YtdlmfeflinbbjaaGreat
open Go.Lib (hid)
section
open Go.RowKit Lx Go.Shelf Go.Maps
attribute [local go_sem] Oper.semAt_some
def ScMid (w V:World) (m:Nat) (pre:List Va) (W:World):Prop :=
  MapIs W 9 m pre.length (strF (vaL pre))∧(∀ k,k < V.heap.size→k≠m→W.heap[k]? = V.heap[k]?)∧Below w.heap.size w W∧V.heap.size≤W.heap.size
theorem scMid_own (w V:World) (m:Nat) (hm:m < V.heap.size) (hw:w.heap.size≤V.heap.size):OwnFrom V.heap.size (ScMid w V m):=by
  rintro s X Y row ⟨h1,h2,h3,h4⟩ hg hrow
  have hne:∀ b,b < V.heap.size→some b≠row:=fun b hb e=>by have:=(hrow b e.symm).1;omega
  exact ⟨h1.kept' hg (hne _ hm),fun k hk he=>(hg.block k (Nat.lt_of_lt_of_le hk h4) (hne k hk)).trans (h2 k hk he),h3.grown hg h3.size (fun k e=>by have:=(hrow k e).1;omega),Nat.le_trans h4 hg.size⟩
def ScX (D:Value) (q N:Nat) (x:Va) (a:Act) (W:World):Prop :=
  ∃ X,N≤X∧W.heap[X]? = some (.cells #[.string x.name,.int .i64 x.sort,.int .i64 x.type,.int .i64 x.index] 36 (0,0)) ∧
    a = { tmps:=#[D,.pointer (some ⟨q,0,none⟩),.pointer (some ⟨q+1,0,none⟩),.pointer (some ⟨q+1+1+1+1,0,none⟩),.pointer (some ⟨X,0,none⟩),undef,undef,undef,undef,undef,undef,.map (some (q+1+1)),.map (some (q+1+1+1)),.agg #[.map (some (q+1+1)),.map (some (q+1+1+1))],D,.func (.func 63) #[] #[.pointer (some ⟨q+1+1+1+1+1,0,none⟩)],VarV x.name x.sort x.type x.index,
      undef,undef,undef,undef,undef,undef,undef,undef,undef,undef,undef,undef,undef,undef,undef,undef,undef,undef,undef,undef,undef,undef,undef,undef,undef,undef,undef,undef,undef,undef,undef,undef,undef,undef,undef,undef,undef,undef,undef],defers:=[] }
theorem scX_own (D:Value) (q N:Nat) (x:Va) (a:Act):OwnFrom N (fun (_:Unit) W=>ScX D q N x a W):=by
  rintro s X Y row ⟨B,hB,h,ha⟩ hg hrow
  exact ⟨B,hB,(hg.block _ (lt_of_heap h) (fun e=>by obtain ⟨_,o,ho,hc⟩:=hrow B e.symm;rw [h] at ho;cases ho;cases hc)).trans h,ha⟩
theorem keepB_putObj {M:Nat→Prop} {N:Nat} (W:World) (l:Nat) (o o' : Obj) (hl:N≤l) (h:W.heap[l]? = some o) (hc:o.isCells = false):KeepM M (fun _=>none) N W (W.putObj l o'):=by
  have hg:=grownBy_putObj' W l o'
  refine ⟨hg.size,fun k hk _ _ hh=>hg.block k hk (fun e=>?_),fun k hk=>by cases hk⟩
  cases e
  rcases hh with h1 | ⟨o2,h1,h2⟩
  · omega
  · rw [h] at h1;cases h1;rw [hc] at h2;cases h2
theorem keepB_below {M:Nat→Prop} {N:Nat} {W Y:World} (h:Below W.heap.size W Y):KeepM M (fun _=>none) N W Y:=⟨h.size,fun k hk _ _ _=>h.block k hk,fun k hk=>by cases hk⟩
theorem keepB_grown {m N:Nat} {W Y:World} (h:W.grownBy Y (some m)):KeepM (fun k=>k = m) (fun _=>none) N W Y:=⟨h.size,fun k hk hM _ _=>h.block k hk (fun e=>hM (Option.some.inj e)),fun k hk=>by cases hk⟩
theorem wf_nat {j:Nat} (h:j≤1000000):(Lit.int .i64 (j:Int)).wf = true:=by
  have h1:IntKind.min .i64 = -9223372036854775808:=by decide
  have h2:IntKind.max .i64 = 9223372036854775807:=by decide
  show (decide (IntKind.min .i64≤(j:Int)) && decide ((j:Int)≤IntKind.max .i64)) = true
  rw [h1,h2,Bool.and_eq_true,decide_eq_true_eq,decide_eq_true_eq]
  omega
theorem varsN_le (d:De):(varsN d).length≤d.params.length+d.items.length:=by
  unfold varsN
  rw [List.length_append,varsP_len]
  have:=varsI_len d.items
  omega
theorem stL_take (l:List It) (c:Nat) (x:It) (h:l[c]? = some x):stL (l.take (c+1)) = stL (l.take c) ++ x.states.map fun s=>((c:Int),s):=by
  have hl:=(List.getElem?_eq_some_iff.1 h).1
  unfold stL
  rw [List.take_add_one,h]
  simp [List.zipIdx_append,Nat.min_eq_left (Nat.le_of_lt hl)]
structure ScLate (w V:World) (D:Nat) (d:De) (l:List (Int × ByteArray)) (n:Nat) (W:World):Prop where
  vars:MapIs W 9 (w.heap.size+1+1) 2000 (strF (vaL (varsN d)))
  sts:MapIs W 138 (w.heap.size+1+1+1) n (stF l)
  same:∀ k,k < V.heap.size→k≠w.heap.size+1+1→k≠w.heap.size+1+1+1→W.heap[k]? = V.heap[k]?
  below:Below w.heap.size w W
  mark:W.heap[D]? = some (.deferred (some []))
  size:V.heap.size≤W.heap.size
theorem ScLate.on {w V:World} {D:Nat} {d:De} {l:List (Int × ByteArray)} {n:Nat} {X Y:World} (h:ScLate w V D d l n X) (hb:Below X.heap.size X Y):ScLate w V D d l n Y :=
  ⟨h.vars.below hb h.vars.lt,h.sts.below hb h.sts.lt,fun k hk h1 h2=>(hb.block k (Nat.lt_of_lt_of_le hk h.size)).trans (h.same k hk h1 h2),h.below.trans (hb.mono h.below.size),(hb.block D (lt_of_heap h.mark)).trans h.mark,Nat.le_trans h.size hb.size⟩
theorem ScLate.put {w V:World} {D:Nat} {d:De} {l:List (Int × ByteArray)} {n:Nat} {X:World} (h:ScLate w V D d l n X) (hD:w.heap.size+1+1+1 < D) (hn:n < maxLen) {i:Int} {s:ByteArray} (hi:(Lit.int .i64 i).wf = true) (hs:s.size≤maxLen) :
    ∃ Y,(Instr.mapUpdate 107 (.map (some (w.heap.size+1+1+1))) (.agg #[.int .i64 i,.string s]) (.agg #[])).run Tryz.prog X = .ok () Y∧ScLate w V D d (l ++ [(i,s)]) (n+1) Y:=by
  obtain ⟨Y,up,hM,hg⟩:=h.sts.put stateKeyed Tryz.underlying107 hn (val:=.agg #[]) (keyState i s hi hs)
  refine ⟨Y,up,h.vars.kept' hg (by simp),hM.ext fun x=>stF_put l i s x,fun k hk h1 h2=>(hg.block k (Nat.lt_of_lt_of_le hk h.size) (fun e=>h2 (Option.some.inj e))).trans (h.same k hk h1 h2),h.below.grown hg h.below.size (fun k e=>by cases e;omega),(hg.block D (lt_of_heap h.mark) (fun e=>by have:=Option.some.inj e;omega)).trans h.mark,Nat.le_trans h.size hg.size⟩
def ScPost (d:De) (w:World) (r:Ending) (Y:World):Prop:=∃ m1 m2,r = .returned (.agg #[.map (some m1),.map (some m2)])∧w.heap.size≤m1∧w.heap.size≤m2∧m1≠m2∧ScAt Y m1 m2 d∧Below w.heap.size w Y
set_option maxHeartbeats 8000000 in
set_option maxRecDepth 100000 in
theorem scope_core (d:De) (op oi:Option Addr) (np ni capp capi bi fi:Nat) (hnp:Hid (d.params.length = np)) (hni:Hid (d.items.length = ni)) (np6:(np:Int)≤1000) (ni6:(ni:Int)≤1000) (hoi:Hid (0 < ni→oi = some ⟨bi,fi,none⟩)) (w:World) (hvi:Hid (∀ j,j < ni→∀ x,d.items[j]? = some x→ItAt w bi (fi+j*9) x))
    (hv:Hid (DeVal w (.agg #[.int .i64 d.kind,.string d.name,.slice op np capp,.slice oi ni capi,.int .i64 d.type,.int .i64 d.e,.int .i64 d.pos]) d)) (hst:Hid (∀ x∈d.items,x.states.length≤1000)) :
    CallsIn Fence.wide 5 Tryz.prog 58 #[.agg #[.int .i64 d.kind,.string d.name,.slice op np capp,.slice oi ni capi,.int .i64 d.type,.int .i64 d.e,.int .i64 d.pos]] w fun r Y=>ScPost d w r Y:=by
  have hmm:=@run_makeMap Tryz.prog
  refine callsIn_of_wp_marks Tryz.func58 rfl trivial ?_ rfl
  simp only [Tryz.ntmps58,List.size_toArray,List.length_cons,List.length_nil,Nat.reduceAdd,Nat.reduceSub,Array.replicate_succ,Array.replicate_zero,List.push_toArray,List.append_toArray,List.nil_append,List.cons_append]
  gi_wp2_with (refine ⟨trivial,?_⟩;gi_at_call 33;((with_reducible refine (callsIn_wide.2 (vars_any _ _ _ _ _ _ _ _ ⟨_,_,_,_,_,_,_,_,_,_,_,rfl,rfl,rfl,rfl,rfl,rfl,rfl⟩)).mono ?_);rintro r w2 ⟨rfl,rfl⟩))
  clear hmm
  obtain ⟨V,hV,v0,v1,v2,v3,v4,v5,vB,vS⟩:=six w (.cells #[.int .i64 d.kind,.string d.name,.slice op np capp,.slice oi ni capi,.int .i64 d.type,.int .i64 d.e,.int .i64 d.pos] 44) (.cells #[.map none,.map none] 109) (.map #[] 0) (.map #[] 0) (.cells #[.map (some (w.heap.size+1+1)),.map (some (w.heap.size+1+1+1))] 109) (.cells #[.int .i64 d.kind,.string d.name,.slice op np capp,.slice oi ni capi,.int .i64 d.type,.int .i64 d.e,.int .i64 d.pos] 44)
  rw [← hV]
  clear hV
  have V0:=hid v0
  have V1:=hid v1
  have V2:=hid v2
  have V3:=hid v3
  have V4:=hid v4
  have V5:=hid v5
  have VB:=hid vB
  have VS:=hid vS
  clear v0 v1 v2 v3 v4 v5 vB vS
  obtain ⟨s1,t1,he,hs1,ht1,hk1⟩:=hv.out
  obtain ⟨rfl,rfl⟩:s1 = .slice op np capp∧t1 = .slice oi ni capi:=by simp only [Value.agg.injEq,Array.mk.injEq,List.cons.injEq] at he;exact ⟨he.2.2.1.symm,he.2.2.2.1.symm⟩
  clear he
  have HS1:=hid hs1
  have HT1:=hid ht1
  have hz1:Hid (w.heap.size+1+1 < V.heap.size):=hid (by have:=VS.out;omega)
  have hN1:=hid (fun x (hx:x∈varsN d)=>va_name hv.out x hx)
  clear hs1 ht1 hk1
  refine wpIn_rangeFunc_ownH (α:={v:Va // v∈varsN d}) rfl (by decide) (gf:=63) (lb:=#[.pointer (some ⟨w.heap.size+1+1+1+1+1,0,none⟩)]) rfl trivial (enters_of Tryz.func63 (by kernel_rfl) rfl)
    (vars_stops 4 d (w.heap.size+1+1+1+1+1) (fun k=>k = w.heap.size+1+1) (fun _=>none) V ⟨fun k hk=>by have:=hz1.out;omega,fun k hk=>(by cases hk),fun X Y h=>rfl⟩
      (deSrc_of (w:=w) HS1.out HT1.out VB.out V5.out (fun k hk=>by omega) (fun k hk=>by cases hk)) (by rw [hnp.out];omega) (by rw [hni.out];omega))
    (fun h k=>h.trans k) (fun W l o o' h1 h2 h3 _=>keepB_putObj W l o o' h1 h2 h3) (Below.refl _ _) (fun _=>rfl)
    (fun pre W=>ScMid w V (w.heap.size+1+1) (pre.map (·.1)) W) (fun _ _ _=>False) (fun s X Y row k1 k2 k3=>scMid_own w V _ hz1.out VB.out.size (s.map (·.1)) X Y row k1 k2 k3) (fun _ _ _ _ _ hs _ _=>hs) ⟨(mapIs_empty V2.out).ext fun x=>(strF_nil x).symm,fun _ _ _=>rfl,VB.out,Nat.le_refl _⟩
    (fun x=>ScX (.agg #[.int .i64 d.kind,.string d.name,.slice op np capp,.slice oi ni capi,.int .i64 d.type,.int .i64 d.e,.int .i64 d.pos]) w.heap.size V.heap.size x.1) (fun x a=>scX_own _ _ _ _ _) ?assign ?body ?done ?stop
  case assign =>
    rintro lp pre ⟨⟨nx,so,ty,ix⟩,hx⟩ W K hi hK
    dsimp only [vaE,VarV]
    gi_wp2
    exact hK _ _ ((KeepsOthers.alloc _ _).from _) (keepB_below (below_al (Below.refl _ _) _)) ((scMid_own w V _ hz1.out VB.out.size).alloc _ hi) ⟨W.heap.size,hi.2.2.2,World.alloc_heap_new W _,rfl⟩
  case body =>
    rintro lp pre ⟨⟨nx,so,ty,ix⟩,hx⟩ a' W hlp hrec ⟨h1,h2,h3,h4⟩ ⟨X,hX,hXh,rfl⟩ hlt
    have hxn:nx.size≤maxLen:=by have:=hN1.out _ hx;dsimp only at this;unfold maxLen;omega
    have hpl:pre.length≤1000000:=by
      have h:=varsN_le d
      have:=hnp.out
      have:=hni.out
      have h2:pre.length < (varsN d).length:=hlt
      omega
    obtain ⟨⟨y0,y1,y2,y3⟩,y4,y5,y6,y7⟩:=cells_four hXh
    have s0:W.cell? ⟨w.heap.size+1+1+1+1,0,none⟩ = some (.map (some (w.heap.size+1+1))):=(cells_two ((h2 _ (by have:=VS.out;omega) (by omega)).trans V4.out)).1
    have lk:=h1.look_ok strKeyed Tryz.underlying106 (zeroVar W) (keyStr nx hxn)
    have hx3:vaL (pre.map (·.1) ++ [⟨nx,so,ty,ix⟩]) = vaL (pre.map (·.1)) ++ [(nx.data.toList,VarV nx so ty ix)]:=by simp [vaL]
    have HM:=hid h1
    have H2:=hid h2
    have HB:=hid h3
    have HN:=hid h4
    have HXH:=hid hXh
    have HLN:Hid ((pre ++ [(⟨⟨nx,so,ty,ix⟩,hx⟩ : {v:Va // v∈varsN d})]).map (·.1) = pre.map (·.1) ++ [⟨nx,so,ty,ix⟩]):=hid (by rw [List.map_append];rfl)
    clear hrec hlt h1 h2 h3 h4 hXh
    cases hf:(strF (vaL (pre.map (·.1))) (.string nx.data.toList)).isSome with
    | true =>
      obtain ⟨v,hv2⟩:∃ v:Va,strF (vaL (pre.map (·.1))) (.string nx.data.toList) = some (VarV v.name v.sort v.type v.index):=by
        rw [vaL_find] at hf ⊢
        cases hq:(pre.map (·.1)).find? (fun v=>decide (v.name = nx)) with
        | none=>rw [hq] at hf;cases hf
        | some v=>exact ⟨v,rfl⟩
      obtain ⟨vn,vs,vt,vi⟩:=v
      have HM3:Hid (∀ x,strF (vaL (pre.map (·.1))) x = strF (vaL (pre.map (·.1) ++ [⟨nx,so,ty,ix⟩])) x):=hid fun x=>by rw [hx3];exact (strF_old hf x).symm
      rw [hv2] at lk
      dsimp only [Option.getD,Option.isSome,VarV] at lk
      clear hf hv2 hx3
      dsimp only
      gi_wp2_with fail
      refine ⟨(KeepsOthers.alloc _ _).from _,keepB_below (below_al (Below.refl _ _) _),?_⟩
      show ScMid w V (w.heap.size+1+1) ((pre ++ [(⟨⟨nx,so,ty,ix⟩,hx⟩ : {v:Va // v∈varsN d})]).map (·.1)) _
      rw [HLN.out]
      have hi:=(scMid_own w V _ hz1.out VB.out.size).alloc (.cells #[.string vn,.int .i64 vs,.int .i64 vt,.int .i64 vi] 36) (show ScMid w V (w.heap.size+1+1) (pre.map (·.1)) W from ⟨HM.out,H2.out,HB.out,HN.out⟩)
      exact ⟨(hi.1.mono (by simp)).ext HM3.out,hi.2⟩
    | false =>
      have hn:strF (vaL (pre.map (·.1))) (.string nx.data.toList) = none:=Option.not_isSome_iff_eq_none.1 (by rw [hf];simp)
      rw [hn] at lk
      dsimp only [Option.getD,Option.isSome] at lk
      have hi:=(scMid_own w V _ hz1.out VB.out.size).alloc (.cells #[.string ⟨#[]⟩,.int .i64 0,.int .i64 0,.int .i64 0] 36) (show ScMid w V (w.heap.size+1+1) (pre.map (·.1)) W from ⟨HM.out,H2.out,HB.out,HN.out⟩)
      obtain ⟨W3,up,hM3,hg⟩:=hi.1.put strKeyed Tryz.underlying106 (by rw [List.length_map];unfold maxLen;omega) (val:=VarV nx so ty ix) (keyStr nx hxn)
      have HM3:=hid (hM3.ext (G:=strF (vaL (pre.map (·.1) ++ [⟨nx,so,ty,ix⟩]))) fun x=>by rw [hx3];exact strF_new hf x)
      have HI:=hid hi
      have hbz:=below_al (Below.refl W.heap.size W) (.cells #[.string ⟨#[]⟩,.int .i64 0,.int .i64 0,.int .i64 0] 36)
      have s1:=cell_on hbz s0
      have z0:=cell_on hbz y0
      have z1:=cell_on hbz y1
      have z2:=cell_on hbz y2
      have z3:=cell_on hbz y3
      have HG:=hid hg
      dsimp only [VarV] at up
      clear hf hn hx3 hM3 hi hg hbz
      dsimp only
      gi_wp2_with fail
      refine ⟨((KeepsOthers.alloc _ _).from _).trans (KeepsFrom.of_grownBy HG.out (fun j e=>by cases e;exact hz1.out)),(keepB_below (below_al (Below.refl _ _) _)).trans (keepB_grown HG.out),?_⟩
      show ScMid w V (w.heap.size+1+1) ((pre ++ [(⟨⟨nx,so,ty,ix⟩,hx⟩ : {v:Va // v∈varsN d})]).map (·.1)) _
      rw [HLN.out]
      obtain ⟨_,i2,i3,i4⟩:=HI.out
      refine ⟨by rw [List.length_append];exact HM3.out,fun k hk he=>(HG.out.block k (Nat.lt_of_lt_of_le hk i4) (fun e=>he (Option.some.inj e))).trans (i2 k hk he),i3.grown HG.out i3.size (fun k e=>by cases e;omega),Nat.le_trans i4 HG.out.size⟩
  case done =>
    rintro E ys W hE hys ⟨h1,h2,h3,h4⟩ hmark
    have hl2:ys.length≤2000:=by
      have h:=varsN_le d
      have:=hnp.out
      have:=hni.out
      have e:(ys.map (·.1)).length = (varsN d).length:=by rw [show ys.map (·.1) = varsN d from hys]
      rw [List.length_map] at e
      omega
    have L0:ScLate w V E d (stL (d.items.take 0)) 0 W:=⟨((show MapIs W 9 _ (ys.map (·.1)).length _ from h1).mono (by rw [List.length_map];exact hl2)).ext fun x=>by rw [show ys.map (·.1) = varsN d from hys],
      ((mapIs_empty (h2 _ (by have:=VS.out;omega) (by omega) |>.trans V3.out)).ext fun x=>(stF_nil x).symm),fun k hk e1 _=>h2 k hk e1,h3,hmark,h4⟩
    have HL0:=hid L0
    have hED:Hid (w.heap.size+1+1+1 < E):=hid (by have:=VS.out;omega)
    have HVE:Hid (V.heap.size≤E):=hid hE
    obtain ⟨_,b0,b1,b2,b3,b4,b5,b6⟩:=seven_froz ((h2 w.heap.size (by have:=VS.out;omega) (by omega)).trans V0.out)
    clear h1 h2 h3 h4 hmark hys L0 hE hl2 b0 b1 b2 b4 b5 b6
    dsimp only
    gi_wp2_with fail
    clear b3
    gi_loopw [35] (fun i wr=>∃ j:Nat,i = .int .i64 j∧j≤ni∧Hid (ScLate w V E d (stL (d.items.take j)) (j*1000) wr)) (fun i _=>ni - litLen i)
    case atStart=>exact ⟨0,rfl,Nat.zero_le _,HL0⟩
    case round =>
      clear HL0
      obtain ⟨j,rfl,hj,hL⟩:=hrel
      rcases Nat.lt_or_ge j ni with hlt | hge
      · have q3:(j:Int) < (ni:Int):=by omega
        have ix:=ix_its (cap:=capi) hoi.out hlt (by omega)
        unfold Ix at ix
        obtain ⟨x,hx⟩:∃ x,d.items[j]? = some x:=⟨_,List.getElem?_eq_getElem (by have:=hni.out;omega)⟩
        obtain ⟨sv,i0,i1,i2,i3,i4,i5,i6,i7,i8,⟨os,caps,bs,offs,rfl,_,_,hso,hsc⟩,hok⟩:=hvi.out j hlt x hx
        have hb:=hL.out.below
        have p0:=cell_on hb i0
        have p1:=cell_on hb i1
        have p2:=cell_on hb i2
        have p3:=cell_on hb i3
        have p4:=cell_on hb i4
        have p5:=cell_on hb i5
        have p6:=cell_on hb i6
        have p7:=cell_on hb i7
        have p8:=cell_on hb i8
        have hsl:x.states.length≤1000:=hst.out x (List.mem_of_getElem? hx)
        have HT:Hid (stL (d.items.take (j+1)) = stL (d.items.take j) ++ x.states.map fun s=>((j:Int),s)):=hid (stL_take _ _ _ hx)
        have HSO:=hid hso
        have HSC:Hid (∀ c,c < x.states.length→∀ s,x.states[c]? = some s→w.cell? ⟨bs,offs+c,none⟩ = some (.string s)∧s.size≤maxLen):=hid fun c hc s hs=>⟨by
          have h:=hsc c hc
          rw [Nat.mul_one,List.getD,hs] at h
          exact h,by have h:=hok.statesOk s (List.mem_of_getElem? hs);unfold reachN at h;unfold maxLen;omega⟩
        obtain ⟨ns,hns⟩:∃ ns,ns = x.states.length:=⟨_,rfl⟩
        rw [← hns] at p5 HSO HSC hsl
        have HNS:=hid hns
        have HL2:=hid (hL.out.on (below_al (Below.refl wr.heap.size wr) (.cells #[.int .i64 x.kind,.string x.name,.int .i64 x.type,.int .i64 x.e,.int .i64 x.f,.slice os ns caps,.string x.state,.string x.next,.int .i64 x.pos] 62)))
        clear hx hb i0 i1 i2 i3 i4 i5 i6 i7 i8 hok hso hsc hns hL
        gi_wp2_with fail
        gi_loopw [43] (fun i wq=>∃ c:Nat,i = .int .i64 c∧c≤ns∧Hid (ScLate w V E d (stL (d.items.take j) ++ (x.states.take c).map fun s=>((j:Int),s)) (j*1000+c) wq)) (fun i _=>ns - litLen i)
        case atStart=>exact ⟨0,rfl,Nat.zero_le _,hid (by simpa using HL2.out)⟩
        case round =>
          clear HL2 p0 p1 p2 p3 p4 p5 p6 p7 p8 ix
          obtain ⟨c,rfl,hc,hL⟩:=hrel
          rcases Nat.lt_or_ge c ns with hlt2 | hge2
          · have q4:(c:Int) < (ns:Int):=by omega
            have ix:=ix_strT (cap:=caps) HSO.out hlt2 (by omega)
            unfold Ix at ix
            simp only [Nat.mul_one] at ix
            obtain ⟨s,hs⟩:∃ s,x.states[c]? = some s:=⟨_,List.getElem?_eq_getElem (by have:=HNS.out;omega)⟩
            obtain ⟨c0,hss⟩:=HSC.out c hlt2 s hs
            have e0:=cell_on hL.out.below c0
            have s1:=(cells_two ((hL.out.same (w.heap.size+1+1+1+1) (by have:=VS.out;omega) (by omega) (by omega)).trans V4.out)).2
            obtain ⟨Y,up,hL3⟩:=hL.out.put hED.out (by unfold maxLen;omega) (i:=(j:Int)) (wf_nat (by omega)) hss
            have HL3:Hid (ScLate w V E d (stL (d.items.take j) ++ (x.states.take (c+1)).map fun s=>((j:Int),s)) (j*1000+(c+1)) Y):=hid (by
              rw [List.take_add_one,hs]
              simpa [Nat.add_assoc] using hL3)
            clear hs c0 hL3 hL
            gi_wp2_with fail
            go_roundw
            case rel=>exact ⟨c+1,by go_num,by omega,HL3⟩
            case measure=>simp [litLen];omega
          · obtain rfl:c = ns:=by omega
            rw [show x.states.take c = x.states by rw [HNS.out];exact List.take_length] at hL
            gi_wp2_with fail
            go_roundw
            case rel=>exact ⟨j+1,by go_num,by omega,hid (by rw [HT.out];exact ⟨hL.out.vars,hL.out.sts.mono (by omega),hL.out.same,hL.out.below,hL.out.mark,hL.out.size⟩)⟩
            case measure=>simp [litLen];omega
      · obtain rfl:j = ni:=by omega
        rw [show d.items.take j = d.items by rw [← hni.out];exact List.take_length] at hL
        have z4:=(hL.out.same (w.heap.size+1+1+1+1) (by have:=VS.out;omega) (by omega) (by omega)).trans V4.out
        have z1:=(hL.out.same (w.heap.size+1) (by have:=VS.out;omega) (by omega) (by omega)).trans V1.out
        have s0:=(cells_two z4).1
        have s1:=(cells_two z4).2
        have r0:=(cells_two z1).1
        have r1:=(cells_two z1).2
        have f0:wr.frozen? ⟨w.heap.size+1,0,none⟩ = false:=by simp [World.frozen?,z1]
        have f1:wr.frozen? ⟨w.heap.size+1,1,none⟩ = false:=by simp [World.frozen?,z1]
        have Z1:=hid z1
        clear z4 z1
        gi_wp2_with fail
        obtain ⟨Z,hZ⟩:∃ Z,Z = (wr.setCell ⟨w.heap.size+1,0,none⟩ (.map (some (w.heap.size+1+1)))).setCell ⟨w.heap.size+1,1,none⟩ (.map (some (w.heap.size+1+1+1))):=⟨_,rfl⟩
        rw [← hZ]
        have ks:∀ k,k≠w.heap.size+1→Z.heap[k]? = wr.heap[k]?:=fun k hk=>by rw [hZ,Below.heap_setCell _ _ _ _ (by simpa using hk),Below.heap_setCell _ _ _ _ (by simpa using hk)]
        have k1:Z.heap[w.heap.size+1]? = some (.cells #[.map (some (w.heap.size+1+1)),.map (some (w.heap.size+1+1+1))] 109 (0,0)):=by rw [hZ,set_blk (set_blk Z1.out 0 _) 1 _];rfl
        have hbZ:Below w.heap.size w Z:=by rw [hZ];exact (hL.out.below.setCell (p:=⟨w.heap.size+1,0,none⟩) (Nat.le_succ _) _).setCell (p:=⟨w.heap.size+1,1,none⟩) (Nat.le_succ _) _
        have hd:=hED.out
        have kD:Z.heap[E]? = some (.deferred (some [])):=(ks E (by omega)).trans hL.out.mark
        refine ⟨by simp,.inl ⟨_,_,rfl,run_takeDeferred kD,?_⟩⟩
        have po:∀ k,k≠E→(Z.putObj E (.deferred none)).heap[k]? = Z.heap[k]?:=fun k hk=>World.putObj_heap_other (by omega)
        have e1:=(po (w.heap.size+1) (by omega)).trans k1
        have r2:(Z.putObj E (.deferred none)).cell? ⟨w.heap.size+1,0,none⟩ = some (.map (some (w.heap.size+1+1))):=by simp [World.cell?,e1]
        have r3:(Z.putObj E (.deferred none)).cell? ⟨w.heap.size+1,1,none⟩ = some (.map (some (w.heap.size+1+1+1))):=by simp [World.cell?,e1]
        refine ⟨.agg #[.map (some (w.heap.size+1+1)),.map (some (w.heap.size+1+1+1))],by simp [results,Tryz.results58,go_sem,r2,r3],_,_,rfl,by omega,by omega,by omega,⟨?_,?_⟩,below_put hbZ (by omega) _⟩
        · exact hL.out.vars.same ((po _ (by omega)).trans (ks _ (by omega)))
        · exact (hL.out.sts.mono (by omega)).same ((po _ (by omega)).trans (ks _ (by omega)))
  case stop =>
    rintro E c pre W _ _ h _
    exact h.elim
theorem scopeOf_any (d:De) (v:Value) (w:World) (hv:DeVal w v d) (hp:d.params.length≤1000) (hi:d.items.length≤1000) (hst:∀ x∈d.items,x.states.length≤1000) :
    CallsIn Fence.wide 5 Tryz.prog 58 #[v] w fun r Y=>ScPost d w r Y:=by
  obtain ⟨s,t,rfl,hs,ht,hk⟩:=id hv
  obtain ⟨op,capp,bp,fp,rfl,h1⟩:=id hs
  obtain ⟨oi,capi,bi,fi,rfl,h2,h3,h4,h5⟩:=id ht
  exact scope_core d op oi _ _ capp capi bi fi (hid rfl) (hid rfl) (by omega) (by omega) (hid h4) w (hid h5) (hid hv) (hid hst)
theorem scOk_of {d:De} {v:Value} {w:World} (hv:DeVal w v d) (hp:d.params.length≤1000) (hi:d.items.length≤1000):ScOk d:=by
  obtain ⟨s,t,_,hs,ht,hk⟩:=hv
  obtain ⟨oi,capi,bi,fi,_,h2,h3,h4,h5⟩:=ht
  refine ⟨fun x hx=>?_,fun q hq=>?_⟩
  · obtain ⟨k,hk2,hk3⟩:∃ k:Nat,x.index = (k:Int)∧k≤1000:=by
      unfold varsN varsP varsI at hx
      rcases List.mem_append.1 hx with h | h
      · obtain ⟨⟨a,k⟩,h1,rfl⟩:=List.mem_map.1 h
        have:=List.mem_zipIdx_iff_getElem?.1 h1
        exact ⟨k,rfl,by have:=(List.getElem?_eq_some_iff.1 this).1;dsimp only at this;omega⟩
      · obtain ⟨⟨a,k⟩,h1,h2⟩:=List.mem_filterMap.1 h
        have:=List.mem_zipIdx_iff_getElem?.1 h1
        have hkk:=(List.getElem?_eq_some_iff.1 this).1
        dsimp only at h2 hkk
        split at h2
        · cases h2
        · cases h2
          exact ⟨k,rfl,by omega⟩
    rw [hk2]
    exact wf_nat (by omega)
  · unfold stL at hq
    obtain ⟨⟨a,k⟩,h1,h2⟩:=List.mem_flatMap.1 hq
    obtain ⟨s,h3,rfl⟩:=List.mem_map.1 h2
    have hak:=List.mem_zipIdx_iff_getElem?.1 h1
    have hkk:=(List.getElem?_eq_some_iff.1 hak).1
    dsimp only at hak hkk h3
    obtain ⟨_,_,_,_,_,_,_,_,_,_,_,hok⟩:=h5 k hkk a hak
    exact ⟨wf_nat (by dsimp only;omega),by have:=hok.statesOk s h3;unfold reachN at this;unfold maxLen;dsimp only;omega⟩
end
section
open Go.RowKit Lx Go.Shelf Go.Maps
attribute [local go_sem] Oper.semAt_some
def hybs (l:List De):Nat:=l.countP fun d=>d.kind == 3
def firstIx (p:Pr) (nm:ByteArray):Int:=((calledN p nm).map fun z=>(z.2:Int)).getD 0
def twiceD (p:Pr) (i:Nat) (d:De):Bool:=(firstIx p d.name != (i:Int)) || (d.kind == 3 && decide (1 < hybs (p.decls.take (i+1))))
def declsU (p:Pr) (c:Nat):List Int:=(p.decls.take c).zipIdx.filterMap fun z=>if twiceD p z.2 z.1 then some z.1.pos else none
def declsW (p:Pr):List Int:=declsU p p.decls.length ++ if hybs p.decls = 0 then [0] else []
theorem declsU_succ (p:Pr) (c:Nat) (x:De) (h:p.decls[c]? = some x):declsU p (c+1) = declsU p c ++ if twiceD p c x then [x.pos] else []:=by
  have hl:=(List.getElem?_eq_some_iff.1 h).1
  unfold declsU
  rw [List.take_add_one,h]
  simp only [Option.toList_some,List.zipIdx_append,List.filterMap_append]
  congr 1
  cases hm:twiceD p c x <;> simp [hm,Nat.min_eq_left (Nat.le_of_lt hl)]
theorem declsU_pre (p:Pr) (c:Nat):declsU p c <+: declsU p p.decls.length:=by
  have e:p.decls.take p.decls.length = p.decls.take c ++ p.decls.drop c:=by rw [List.take_length,List.take_append_drop]
  unfold declsU
  rw [e,List.zipIdx_append,List.filterMap_append]
  exact List.prefix_append _ _
theorem hybs_succ (l:List De) (c:Nat) (x:De) (h:l[c]? = some x):hybs (l.take (c+1)) = hybs (l.take c)+if x.kind = 3 then 1 else 0:=by
  unfold hybs
  rw [List.take_add_one,h]
  by_cases hk:x.kind = 3 <;> simp [List.countP_append,hk]
theorem hybs_le (l:List De):hybs l≤l.length:=List.countP_le_length
theorem firstIx_get (p:Pr) (nm:ByteArray):(strF (firL p.decls) (.string nm.data.toList)).getD (.int .i64 0) = .int .i64 (firstIx p nm):=by
  rw [firL_find]
  unfold firstIx calledN
  cases p.decls.zipIdx.find? (fun z=>decide (z.1.name = nm)) <;> rfl
set_option maxHeartbeats 16000000 in
set_option maxRecDepth 100000 in
theorem wrongDecls_core (n:Nat) (p:Pr) (o1:Option Addr) (m c1 db doff B C mf N:Nat) (ve:Value) (hm:Hid (p.decls.length = m)) (ml:(m:Int)≤60) (M:Nat→Prop) (rw:World→Option Nat) (w:World) (hA:Hid (Near M rw w))
    (hB:Hid (Still M rw w B∧Still M rw w C∧Still M rw w mf)) (hBc:Hid (w.heap[B]? = some (.cells #[.slice o1 m c1,ve] 25 (0,0)))) (hCc:Hid (w.heap[C]? = some (.cells #[.map (some mf)] 101 (0,0)))) (hF:Hid (MapIs w 9 mf N (strF (firL p.decls))))
    (hd:Hid (0 < m→o1 = some ⟨db,doff,none⟩)) (hdS:Hid (0 < m→Still M rw w db)) (hdc:Hid (∀ i,i < m→∀ x,p.decls[i]? = some x→DeAt w db (doff+i*7) x)) (lp n1:Nat) (J Jx:List Int→World→Prop)
    (W:World) (hW:Hid (Below w.heap.size w W)) (hJ:Hid (∀ s X Y,J s X→Below X.heap.size X Y→J s Y))
    (hY:Hid (∀ pre (v:Int) W1,J pre W1→pre ++ [v] <+: declsW p→YieldAt Fence.wide (n - 1) Tryz.prog lp #[.int .i64 v] W1 fun e W' =>
      (e = .returned (.bool true)∧J (pre ++ [v]) W'∧KeepX M rw w.heap.size n1 W1 W')∨(e = .returned (.bool false)∧Jx (pre ++ [v]) W')))
    (h0:Hid (J [] W)) :
    CallsIn Fence.wide n Tryz.prog 87 #[.func (.yield lp) #[] #[],.pointer (some ⟨B,0,none⟩),.pointer (some ⟨C,0,none⟩)] W fun e W'=>(∃ v,e = .returned v) ∧
      ((∃ ys:List Int,ys = declsW p∧J ys W')∨(∃ pre:List Int,pre <+: declsW p∧Jx pre W')):=by
  have hBW:=(hW.out.block _ hB.out.1.1).trans hBc.out
  have b0:=(cells_two hBW).1
  have HK:=hid (Kept.start hA.out hW.out)
  clear hBW
  refine callsIn_of_wp Tryz.func87 rfl trivial ?_ rfl
  simp only [Tryz.ntmps87,List.size_toArray,List.length_cons,List.length_nil,Nat.reduceAdd,Nat.reduceSub,Array.replicate_succ,Array.replicate_zero,List.push_toArray,List.append_toArray,List.nil_append,List.cons_append]
  gi_wp2_with fail
  clear b0
  gi_loopw [4,11] (fun h i wr=>∃ (j:Nat),i = .int .i64 j∧h = .int .i64 (hybs (p.decls.take j):Nat)∧Hid (j≤m)∧Hid (J (declsU p j) wr)∧Hid (Kept M rw w wr)) (fun _ i _=>m - litLen i)
  case atStart=>exact ⟨0,rfl,rfl,hid (Nat.zero_le _),h0,HK⟩
  case round =>
    clear HK
    obtain ⟨j,rfl,rfl,hj,hJp,hKp⟩:=hrel
    have jl:=hj.out
    rcases Nat.lt_or_ge j m with hlt | hge
    · have q3:(j:Int) < (m:Int):=by omega
      have ix:=ix_des (cap:=c1) hd.out hlt (by omega)
      unfold Ix at ix
      obtain ⟨x,hx⟩:∃ x,p.decls[j]? = some x:=⟨_,List.getElem?_eq_getElem (by have:=hm.out;omega)⟩
      obtain ⟨op,capp,oi,capi,bi,offi,hok,e0,e1,e2,e3,e4,e5,e6,_,_⟩:=de_cells (hdc.out j hlt x hx)
      have hbk:=hKp.out.2.2 _ (hdS.out (by omega))
      have p0:=(cell_same' hbk _).trans e0
      have p1:=(cell_same' hbk _).trans e1
      have p2:=(cell_same' hbk _).trans e2
      have p3:=(cell_same' hbk _).trans e3
      have p4:=(cell_same' hbk _).trans e4
      have p5:=(cell_same' hbk _).trans e5
      have p6:=(cell_same' hbk _).trans e6
      obtain ⟨OB,hOB⟩:∃ OB,OB = Obj.cells #[.int .i64 x.kind,.string x.name,.slice op x.params.length capp,.slice oi x.items.length capi,.int .i64 x.type,.int .i64 x.e,.int .i64 x.pos] 44:=⟨_,rfl⟩
      have ba:Below wr.heap.size wr (wr.alloc OB):=below_al (Below.refl _ _) _
      have HJa:=hid (hJ.out _ _ _ hJp.out ba)
      have HKa:=hid (hKp.out.below hA.out ba)
      have hm1:=hF.out.same (hKp.out.2.2 _ hB.out.2.2)
      have hmm:=hm1.below ba hm1.lt
      have lk:=hmm.look strKeyed Tryz.underlying101 (zeroInt (wr.alloc OB)) (keyStr x.name (by have:=hok.name;unfold reachN at this;unfold maxLen;omega))
      rw [firstIx_get] at lk
      have hCr:=(hKp.out.2.2 _ hB.out.2.1).trans hCc.out
      have c0:(wr.alloc OB).cell? ⟨C,0,none⟩ = some (.map (some mf)):=cell_on ba (cell_f hCr).1
      have HT:=hid (declsU_succ p j x hx)
      have HH:=hid (hybs_succ p.decls j x hx)
      have HPre:=hid (declsU_pre p (j+1))
      have hhl:((hybs (p.decls.take j):Nat):Int)≤60:=by
        have h1:=hybs_le (p.decls.take j)
        have h2:(p.decls.take j).length≤j:=by simp [List.length_take];omega
        omega
      have T0:Hid (twiceD p j x = ((firstIx p x.name != (j:Int)) || (x.kind == 3 && decide (1 < hybs (p.decls.take (j+1)))))):=hid rfl
      obtain ⟨h,hhd⟩:∃ h,h = hybs (p.decls.take j):=⟨_,rfl⟩
      rw [← hhd] at hhl HH ⊢
      obtain ⟨fx,hfx⟩:∃ fx,fx = firstIx p x.name:=⟨_,rfl⟩
      rw [← hfx] at lk T0
      rw [hOB] at HJa HKa lk c0
      clear hhd hfx hOB ba hmm hm1 hCr hok e0 e1 e2 e3 e4 e5 e6 hbk hx hJp hKp
      by_cases hk:x.kind = 3
      · have qk:(x.kind == 3) = true:=by simp [hk]
        rw [if_pos hk] at HH
        clear hk
        rw [HH.out,qk] at T0
        by_cases hf:fx = (j:Int)
        · have qf:(fx != (j:Int)) = false:=by simp [hf]
          clear hf
          rw [qf] at T0
          by_cases h1:0 < h
          · have q1:decide ((1:Int) < (h:Int)+1) = true:=decide_eq_true (by omega)
            have TT:Hid (twiceD p j x = true):=hid (by rw [T0.out,decide_eq_true (by omega)];rfl)
            clear h1
            rw [TT.out,if_pos rfl] at HT
            obtain ⟨fn,tmps,assign,body,hy,hR⟩:=hY.out _ x.pos _ HJa.out (by rw [← HT.out];exact HPre.out.trans (List.prefix_append _ _))
            have hy' : (Instr.yield lp #[.int .i64 x.pos]).run Tryz.prog (wr.alloc (.cells #[.int .i64 x.kind,.string x.name,.slice op x.params.length capp,.slice oi x.items.length capi,.int .i64 x.type,.int .i64 x.e,.int .i64 x.pos] 44)) = .ok (.round lp fn tmps assign body) (wr.alloc (.cells #[.int .i64 x.kind,.string x.name,.slice op x.params.length capp,.slice oi x.items.length capi,.int .i64 x.type,.int .i64 x.e,.int .i64 x.pos] 44)):=hy
            have HR:=hid hR
            clear hy hR
            gi_wp2_with fail
            refine ⟨fun h=>(by cases h),HR.out.mono ?_⟩
            rintro e W3 (⟨rfl,hJ3,hk3⟩ | ⟨rfl,hJx3⟩)
            · have HK3:=hid (HKa.out.keepx hk3)
              have HJ3:=hid hJ3
              clear hJ3 hk3
              gi_wp2_with fail
              go_roundw
              case rel=>exact ⟨j+1,by go_num,by rw [HH.out];go_num,hid (by omega),by rw [HT.out];exact HJ3,HK3⟩
              case measure=>simp [litLen];omega
            · have HJx3:=hid hJx3
              clear hJx3
              gi_wp2_with fail
              refine bodyPost_ret (results_none rfl _ _ _) rfl ?_
              exact ⟨⟨_,rfl⟩,.inr ⟨_,by rw [← HT.out];exact HPre.out.trans (List.prefix_append _ _),HJx3.out⟩⟩
          · have q1:decide ((1:Int) < (h:Int)+1) = false:=decide_eq_false (by omega)
            have TT:Hid (twiceD p j x = false):=hid (by rw [T0.out,decide_eq_false (by omega)];rfl)
            clear h1
            rw [TT.out,if_neg (by simp),List.append_nil] at HT
            gi_wp2_with fail
            refine ⟨fun f h=>(by cases h),?_⟩
            gi_wp2_with fail
            go_roundw
            case rel=>exact ⟨j+1,by go_num,by rw [HH.out];go_num,hid (by omega),by rw [HT.out];exact HJa,HKa⟩
            case measure=>simp [litLen];omega
        · have qf:(fx != (j:Int)) = true:=by simp [hf]
          clear hf
          have TT:Hid (twiceD p j x = true):=hid (by rw [T0.out,qf];rfl)
          rw [TT.out,if_pos rfl] at HT
          obtain ⟨fn,tmps,assign,body,hy,hR⟩:=hY.out _ x.pos _ HJa.out (by rw [← HT.out];exact HPre.out.trans (List.prefix_append _ _))
          have hy' : (Instr.yield lp #[.int .i64 x.pos]).run Tryz.prog (wr.alloc (.cells #[.int .i64 x.kind,.string x.name,.slice op x.params.length capp,.slice oi x.items.length capi,.int .i64 x.type,.int .i64 x.e,.int .i64 x.pos] 44)) = .ok (.round lp fn tmps assign body) (wr.alloc (.cells #[.int .i64 x.kind,.string x.name,.slice op x.params.length capp,.slice oi x.items.length capi,.int .i64 x.type,.int .i64 x.e,.int .i64 x.pos] 44)):=hy
          have HR:=hid hR
          clear hy hR
          gi_wp2_with fail
          refine ⟨fun h=>(by cases h),HR.out.mono ?_⟩
          rintro e W3 (⟨rfl,hJ3,hk3⟩ | ⟨rfl,hJx3⟩)
          · have HK3:=hid (HKa.out.keepx hk3)
            have HJ3:=hid hJ3
            clear hJ3 hk3
            gi_wp2_with fail
            go_roundw
            case rel=>exact ⟨j+1,by go_num,by rw [HH.out];go_num,hid (by omega),by rw [HT.out];exact HJ3,HK3⟩
            case measure=>simp [litLen];omega
          · have HJx3:=hid hJx3
            clear hJx3
            gi_wp2_with fail
            refine bodyPost_ret (results_none rfl _ _ _) rfl ?_
            exact ⟨⟨_,rfl⟩,.inr ⟨_,by rw [← HT.out];exact HPre.out.trans (List.prefix_append _ _),HJx3.out⟩⟩
      · have qk:(x.kind == 3) = false:=by simpa using hk
        rw [if_neg hk] at HH
        clear hk
        rw [qk] at T0
        by_cases hf:fx = (j:Int)
        · have qf:(fx != (j:Int)) = false:=by simp [hf]
          clear hf
          have TT:Hid (twiceD p j x = false):=hid (by rw [T0.out,qf];rfl)
          rw [TT.out,if_neg (by simp),List.append_nil] at HT
          gi_wp2_with fail
          refine ⟨fun f h=>(by cases h),?_⟩
          gi_wp2_with fail
          go_roundw
          case rel=>exact ⟨j+1,by go_num,by rw [HH.out];rfl,hid (by omega),by rw [HT.out];exact HJa,HKa⟩
          case measure=>simp [litLen];omega
        · have qf:(fx != (j:Int)) = true:=by simp [hf]
          clear hf
          have TT:Hid (twiceD p j x = true):=hid (by rw [T0.out,qf];rfl)
          rw [TT.out,if_pos rfl] at HT
          obtain ⟨fn,tmps,assign,body,hy,hR⟩:=hY.out _ x.pos _ HJa.out (by rw [← HT.out];exact HPre.out.trans (List.prefix_append _ _))
          have hy' : (Instr.yield lp #[.int .i64 x.pos]).run Tryz.prog (wr.alloc (.cells #[.int .i64 x.kind,.string x.name,.slice op x.params.length capp,.slice oi x.items.length capi,.int .i64 x.type,.int .i64 x.e,.int .i64 x.pos] 44)) = .ok (.round lp fn tmps assign body) (wr.alloc (.cells #[.int .i64 x.kind,.string x.name,.slice op x.params.length capp,.slice oi x.items.length capi,.int .i64 x.type,.int .i64 x.e,.int .i64 x.pos] 44)):=hy
          have HR:=hid hR
          clear hy hR
          gi_wp2_with fail
          refine ⟨fun h=>(by cases h),HR.out.mono ?_⟩
          rintro e W3 (⟨rfl,hJ3,hk3⟩ | ⟨rfl,hJx3⟩)
          · have HK3:=hid (HKa.out.keepx hk3)
            have HJ3:=hid hJ3
            clear hJ3 hk3
            gi_wp2_with fail
            go_roundw
            case rel=>exact ⟨j+1,by go_num,by rw [HH.out];rfl,hid (by omega),by rw [HT.out];exact HJ3,HK3⟩
            case measure=>simp [litLen];omega
          · have HJx3:=hid hJx3
            clear hJx3
            gi_wp2_with fail
            refine bodyPost_ret (results_none rfl _ _ _) rfl ?_
            exact ⟨⟨_,rfl⟩,.inr ⟨_,by rw [← HT.out];exact HPre.out.trans (List.prefix_append _ _),HJx3.out⟩⟩
    · obtain rfl:j = m:=by omega
      have HJ1:=hid hJp.out
      rw [show p.decls.take j = p.decls by rw [← hm.out];exact List.take_length]
      obtain ⟨h,hh⟩:∃ h,h = hybs p.decls:=⟨_,rfl⟩
      have HD:Hid (declsW p = declsU p j ++ if h = 0 then [0] else []):=hid (by rw [hh];unfold declsW;rw [hm.out])
      rw [← hh]
      clear hh hJp hKp
      by_cases hz:h = 0
      · subst hz
        rw [if_pos rfl] at HD
        obtain ⟨fn,tmps,assign,body,hy,hR⟩:=hY.out _ 0 _ HJ1.out (by rw [HD.out];exact List.prefix_refl _)
        have hy' : (Instr.yield lp #[.int .i64 0]).run Tryz.prog wr = .ok (.round lp fn tmps assign body) wr:=hy
        have HR:=hid hR
        clear hy hR
        gi_wp2_with fail
        refine ⟨fun h=>(by cases h),HR.out.mono ?_⟩
        rintro e W3 (⟨rfl,hJ3,_⟩ | ⟨rfl,hJx3⟩)
        · have HJ3:=hid hJ3
          clear hJ3
          gi_wp2_with fail
          go_end0
          exact ⟨⟨_,rfl⟩,.inl ⟨_,rfl,by rw [HD.out];exact HJ3.out⟩⟩
        · have HJ3:=hid hJx3
          clear hJx3
          gi_wp2_with fail
          go_end0
          exact ⟨⟨_,rfl⟩,.inr ⟨_,List.prefix_refl _,by rw [HD.out];exact HJ3.out⟩⟩
      · have qz:((h:Int) == 0) = false:=by simpa using hz
        rw [if_neg hz,List.append_nil] at HD
        clear hz
        gi_wp2_with fail
        go_end0
        exact ⟨⟨_,rfl⟩,.inl ⟨_,rfl,by rw [HD.out];exact HJ1.out⟩⟩
structure PrSrc (M:Nat→Prop) (rw:World→Option Nat) (w:World) (p:Pr) (B C mf N:Nat):Prop where
  prog:∃ sd se,w.heap[B]? = some (.cells #[sd,se] 25 (0,0))∧SlAt sd p.decls.length 7 (fun b o i=>Still M rw w b∧∀ x,p.decls[i]? = some x→DeAt w b o x)
  sB:Still M rw w B
  sC:Still M rw w C
  sm:Still M rw w mf
  map:w.heap[C]? = some (.cells #[.map (some mf)] 101 (0,0))
  firsts:MapIs w 9 mf N (strF (firL p.decls))
theorem wrongDecls_seq (n:Nat) (p:Pr) (B C mf N:Nat) (E M:Nat→Prop) (rw:World→Option Nat) (w:World) (hp:p.decls.length≤60) (hA:Near M rw w) (hs:PrSrc M rw w p B C mf N) :
    SeqX (α:=Int) Fence.wide n Tryz.prog 87 #[.pointer (some ⟨B,0,none⟩),.pointer (some ⟨C,0,none⟩)] (fun v=>#[.int .i64 v]) E M rw (fun ys _=>ys = declsW p) (fun pre=>pre <+: declsW p) (declsW p).length w:=by
  obtain ⟨sd,se,hB,o1,c1,db,doff,rfl,_,_,hd1,hd2⟩:=hs.prog
  intro lp J Jx W hW hJ _ _ hY h0
  exact wrongDecls_core n p o1 _ c1 db doff B C mf N se (hid rfl) (by omega) M rw w (hid hA) (hid ⟨hs.sB,hs.sC,hs.sm⟩) (hid hB) (hid hs.map) (hid hs.firsts) (hid hd1) (hid fun h=>(hd2 0 h).1) (hid fun i hi=>(hd2 i hi).2) lp W.heap.size J Jx W (hid hW)
    (hid fun s X Y h hb=>hJ.below hb h) (hid fun pre v X hj hpre=>(hY pre v X hj (by have:=hpre.length_le;simp at this;omega)).mono fun r Y h=>h.imp id fun h=>⟨h.1,h.2.1⟩) (hid h0)
end
section
open Go.RowKit Lx Go.Shelf Go.Maps
attribute [local go_sem] Oper.semAt_some
def Old (w X:World):Prop:=w.heap.size≤X.heap.size∧∀ k,k < w.heap.size→X.heap[k]? = w.heap[k]?
def likeW (w X:World):World:={ X with os:=w.os,tape:=w.tape,output:=w.output }
theorem Old.like {w X:World} (h:Old w X):Below w.heap.size w (likeW w X):=⟨rfl,rfl,rfl,h.1,h.2⟩
theorem Old.cell {w X:World} (h:Old w X) {a:Addr} {v:Value} (hc:w.cell? a = some v):X.cell? a = some v:=cell_on h.like hc
theorem Old.trans {w X Y:World} (h:Old w X) (hb:Below X.heap.size X Y):Old w Y:=⟨Nat.le_trans h.1 hb.size,fun k hk=>(hb.block k (Nat.lt_of_lt_of_le hk h.1)).trans (h.2 k hk)⟩
theorem DeVal.old {w X:World} {v:Value} {d:De} (h:DeVal w v d) (ho:Old w X):DeVal X v d:=by
  have h2:DeVal (likeW w X) v d:=h.below ho.like
  exact h2
theorem ProgAt.old {w X:World} {sd se:Value} {p:Pr} (h:ProgAt w sd se p) (ho:Old w X):ProgAt X sd se p:=by
  have h2:ProgAt (likeW w X) sd se p:=h.below ho.like
  exact h2
structure Base (w0:World) (M:Nat→Prop) (rw:World→Option Nat) (w:World):Prop where
  lies:Old w0 w
  free:∀ k,k < w0.heap.size→¬ M k∧rw w≠some k
theorem Old.base {w X:World} (h:Old w X):Below (likeW X w).heap.size (likeW X w) X:=⟨rfl,rfl,rfl,h.1,h.2⟩
theorem Base.old {w0:World} {M:Nat→Prop} {rw:World→Option Nat} {w X:World} (h:Base w0 M rw w) (hk:Kept M rw w X):Old w0 X :=
  ⟨Nat.le_trans h.lies.1 hk.1,fun k h1=>(hk.2.2 k ⟨Nat.lt_of_lt_of_le h1 h.lies.1,(h.free k h1).1,(h.free k h1).2⟩).trans (h.lies.2 k h1)⟩
def badI (d:De) (i:Nat) (x:It):Bool:=takenI d i x.kind x.name x.states || missI d x.kind x.name x.state x.next
def itemsU (d:De) (c:Nat):List Int:=(d.items.take c).zipIdx.filterMap fun z=>if badI d z.2 z.1 then some z.1.pos else none
def itemsP (d:De):List Int:=if dupB (d.params.map (·.name)) then [d.pos] else []
def itemsW (d:De):List Int:=itemsP d ++ itemsU d d.items.length
theorem itemsU_succ (d:De) (c:Nat) (x:It) (h:d.items[c]? = some x):itemsU d (c+1) = itemsU d c ++ if badI d c x then [x.pos] else []:=by
  have hl:=(List.getElem?_eq_some_iff.1 h).1
  unfold itemsU
  rw [List.take_add_one,h]
  simp only [Option.toList_some,List.zipIdx_append,List.filterMap_append]
  congr 1
  cases hm:badI d c x <;> simp [hm,Nat.min_eq_left (Nat.le_of_lt hl)]
theorem itemsU_pre (d:De) (c:Nat):itemsU d c <+: itemsU d d.items.length:=by
  have e:d.items.take d.items.length = d.items.take c ++ d.items.drop c:=by rw [List.take_length,List.take_append_drop]
  unfold itemsU
  rw [e,List.zipIdx_append,List.filterMap_append]
  exact List.prefix_append _ _
theorem cells9 {W:World} {B:Nat} {a b c d e f g h i:Value} {T:TypeId} (hB:W.heap[B]? = some (.cells #[a,b,c,d,e,f,g,h,i] T (0,0))):W.cell? ⟨B,0,none⟩ = some a∧W.cell? ⟨B,1,none⟩ = some b∧W.cell? ⟨B,2,none⟩ = some c∧W.cell? ⟨B,3,none⟩ = some d∧W.cell? ⟨B,4,none⟩ = some e∧W.cell? ⟨B,5,none⟩ = some f∧W.cell? ⟨B,6,none⟩ = some g∧W.cell? ⟨B,7,none⟩ = some h∧W.cell? ⟨B,8,none⟩ = some i :=
  ⟨by simp [World.cell?,hB],by simp [World.cell?,hB],by simp [World.cell?,hB],by simp [World.cell?,hB],by simp [World.cell?,hB],by simp [World.cell?,hB],by simp [World.cell?,hB],by simp [World.cell?,hB],by simp [World.cell?,hB]⟩
set_option maxHeartbeats 16000000 in
set_option maxRecDepth 100000 in
theorem wrongItems_core (n:Nat) (d:De) (op oi:Option Addr) (np ni capp capi bi fi B C m1 m2:Nat) (hnp:Hid (d.params.length = np)) (hni:Hid (d.items.length = ni)) (np6:(np:Int)≤1000) (ni6:(ni:Int)≤1000) (w0:World) (M:Nat→Prop) (rw:World→Option Nat) (w:World) (hA:Hid (Near M rw w)) (hBa:Hid (Base w0 M rw w))
    (hpa:Hid (SlAt (.slice op np capp) d.params.length 2 (fun b o i=>∀ y,d.params[i]? = some y→PaAt w0 b o y))) (hoi:Hid (0 < ni→oi = some ⟨bi,fi,none⟩)) (hvi:Hid (∀ j,j < ni→∀ x,d.items[j]? = some x→ItAt w0 bi (fi+j*9) x)) (hst:Hid (∀ x∈d.items,x.states.length≤1000))
    (hB:Hid (Still M rw w B∧Still M rw w C∧Still M rw w m1∧Still M rw w m2)) (hBc:Hid (w.heap[B]? = some (.cells #[.int .i64 d.kind,.string d.name,.slice op np capp,.slice oi ni capi,.int .i64 d.type,.int .i64 d.e,.int .i64 d.pos] 44 (0,0)))) (hCc:Hid (w.heap[C]? = some (.cells #[.map (some m1),.map (some m2)] 109 (0,0))))
    (hSc:Hid (ScAt w m1 m2 d)) (hO:Hid (ScOk d)) (lp n1:Nat) (J Jx:List Int→World→Prop)
    (W:World) (hW:Hid (Below w.heap.size w W)) (hJ:Hid (∀ s X Y,J s X→Below X.heap.size X Y→J s Y))
    (hY:Hid (∀ pre (v:Int) W1,J pre W1→pre ++ [v] <+: itemsW d→YieldAt Fence.wide (n - 1) Tryz.prog lp #[.int .i64 v] W1 fun e W' =>
      (e = .returned (.bool true)∧J (pre ++ [v]) W'∧KeepX M rw w.heap.size n1 W1 W')∨(e = .returned (.bool false)∧Jx (pre ++ [v]) W')))
    (h0:Hid (J [] W)) :
    CallsIn Fence.wide n Tryz.prog 91 #[.func (.yield lp) #[] #[],.pointer (some ⟨B,0,none⟩),.pointer (some ⟨C,0,none⟩)] W fun e W'=>(∃ v,e = .returned v) ∧
      ((∃ ys:List Int,ys = itemsW d∧J ys W')∨(∃ pre:List Int,pre <+: itemsW d∧Jx pre W')):=by
  have HK:=hid (Kept.start hA.out hW.out)
  have hBW:=(hW.out.block _ hB.out.1.1).trans hBc.out
  obtain ⟨_,b0,b1,b2,b3,b4,b5,b6⟩:=seven_froz hBW
  have TP:=hid (twiceP_any (.slice op np capp) d.params W (hpa.out.mono fun b o i _ h y hy=>⟨(hBa.out.old HK.out).cell (h y hy).1,(hBa.out.old HK.out).cell (h y hy).2.1,(h y hy).2.2⟩) (by rw [hnp.out];omega))
  have P0:Hid (itemsP d = if dupB (d.params.map (·.name)) then [d.pos] else []):=hid rfl
  have PW:Hid (itemsP d <+: itemsW d):=hid (List.prefix_append _ _)
  obtain ⟨dp,hdp⟩:∃ dp,dp = dupB (d.params.map (·.name)):=⟨_,rfl⟩
  rw [← hdp] at TP P0
  clear hBW b0 b1 b3 b4 b5 hdp
  cases dp with
  | false =>
    have HJ1:Hid (J (itemsP d) W):=hid (by rw [P0.out];exact h0.out)
    refine callsIn_of_wp Tryz.func91 rfl trivial ?_ rfl
    simp only [Tryz.ntmps91,List.size_toArray,List.length_cons,List.length_nil,Nat.reduceAdd,Nat.reduceSub,Array.replicate_succ,Array.replicate_zero,List.push_toArray,List.append_toArray,List.nil_append,List.cons_append]
    gi_wp2_with (refine ⟨trivial,fun h=>(by cases h),?_⟩;(with_reducible refine (callsIn_wide.2 TP.out).mono ?_);rintro e W1 ⟨rfl,hw1⟩;have hb3:=(seven_froz (((HK.out.below hA.out hw1).2.2 _ hB.out.1).trans hBc.out)).2.2.2.2.1;have HJ2:=hid (hJ.out _ _ _ HJ1.out hw1);have HK2:=hid (HK.out.below hA.out hw1);clear hw1)
    refine ⟨fun f h=>(by cases h),?_⟩
    gi_wp2_with fail
    clear hb3
    gi_loopw [21] (fun i wr=>∃ (j:Nat),i = .int .i64 j∧Hid (j≤ni)∧Hid (J (itemsP d ++ itemsU d j) wr)∧Hid (Kept M rw w wr)) (fun i _=>ni - litLen i)
    case atStart=>exact ⟨0,rfl,hid (Nat.zero_le _),(by simpa [itemsU] using HJ2),HK2⟩
    case round =>
      clear HJ2 HK2
      obtain ⟨j,rfl,hj,hJp,hKp⟩:=hrel
      have jl:=hj.out
      rcases Nat.lt_or_ge j ni with hlt | hge
      · have q3:(j:Int) < (ni:Int):=by omega
        have ix:=ix_its (cap:=capi) hoi.out hlt (by omega)
        unfold Ix at ix
        obtain ⟨x,hx⟩:∃ x,d.items[j]? = some x:=⟨_,List.getElem?_eq_getElem (by have:=hni.out;omega)⟩
        obtain ⟨sv,i0,i1,i2,i3,i4,i5,i6,i7,i8,hsa,hok⟩:=hvi.out j hlt x hx
        obtain ⟨os,caps,bs,offs,rfl,hs1,hs2,hs3,hs4⟩:=id hsa
        have ho:=hBa.out.old hKp.out
        have p0:=ho.cell i0
        have p1:=ho.cell i1
        have p2:=ho.cell i2
        have p3:=ho.cell i3
        have p4:=ho.cell i4
        have p5:=ho.cell i5
        have p6:=ho.cell i6
        have p7:=ho.cell i7
        have p8:=ho.cell i8
        obtain ⟨OB,hOB⟩:∃ OB,OB = Obj.cells #[.int .i64 x.kind,.string x.name,.int .i64 x.type,.int .i64 x.e,.int .i64 x.f,.slice os x.states.length caps,.string x.state,.string x.next,.int .i64 x.pos] 62:=⟨_,rfl⟩
        obtain ⟨V,hV⟩:∃ V,V = wr.alloc OB:=⟨_,rfl⟩
        have ba:Below wr.heap.size wr V:=by rw [hV];exact below_al (Below.refl _ _) _
        have HJa:=hid (hJ.out _ _ _ hJp.out ba)
        have HKa:=hid (hKp.out.below hA.out ba)
        have hSV:ScAt V m1 m2 d:=hSc.out.same (HKa.out.2.2 _ hB.out.2.2.1) (HKa.out.2.2 _ hB.out.2.2.2)
        have hnm:x.name.size≤maxLen:=by have:=hok.name;unfold reachN at this;unfold maxLen;omega
        have hstt:x.state.size≤maxLen:=by have:=hok.state;unfold reachN at this;unfold maxLen;omega
        have hnx:x.next.size≤maxLen:=by have:=hok.next;unfold reachN at this;unfold maxLen;omega
        have hSA:StrsAt V (.slice os x.states.length caps) x.states:=hsa.mono fun b o i _ h=>(ho.trans ba).cell h
        have TK:=hid (taken_any m1 m2 d j x.kind x.type x.e x.f x.pos x.name x.state x.next x.states os x.states.length caps hnm (fun s hs=>by have:=hok.statesOk s hs;unfold reachN at this;unfold maxLen;omega) (hst.out x (List.mem_of_getElem? hx)) V (hid hSV) (hid hSA))
        have MS:Hid (∀ w1,Below V.heap.size V w1→Calls Tryz.prog 95 #[.agg #[.map (some m1),.map (some m2)],.agg #[.int .i64 x.kind,.string x.name,.int .i64 x.type,.int .i64 x.e,.int .i64 x.f,.slice os x.states.length caps,.string x.state,.string x.next,.int .i64 x.pos]] w1 fun r Y=>r = .returned (.bool (missI d x.kind x.name x.state x.next))∧Below w1.heap.size w1 Y) :=
          hid fun w1 h1=>misses_any m1 m2 d x.kind x.type x.e x.f x.pos x.name x.state x.next os x.states.length caps hnm hstt hnx w1 (hid (hSV.below h1)) (hid hO.out)
        obtain ⟨c0,c1⟩:=cells_two ((HKa.out.2.2 _ hB.out.2.1).trans hCc.out)
        have hOV:V.heap[wr.heap.size]? = some OB:=by rw [hV];exact al_new rfl
        rw [hOB] at hOV
        obtain ⟨z0,z1,z2,z3,z4,z5,z6,z7,z8⟩:=cells9 hOV
        have AFT:Hid (∀ w1,Below V.heap.size V w1→((w1.cell? ⟨C,0,none⟩ = some (.map (some m1))∧w1.cell? ⟨C,1,none⟩ = some (.map (some m2)))∧(w1.cell? ⟨wr.heap.size,0,none⟩ = some (.int .i64 x.kind)∧w1.cell? ⟨wr.heap.size,1,none⟩ = some (.string x.name)∧w1.cell? ⟨wr.heap.size,2,none⟩ = some (.int .i64 x.type)∧w1.cell? ⟨wr.heap.size,3,none⟩ = some (.int .i64 x.e)∧w1.cell? ⟨wr.heap.size,4,none⟩ = some (.int .i64 x.f)∧w1.cell? ⟨wr.heap.size,5,none⟩ = some (.slice os x.states.length caps)∧w1.cell? ⟨wr.heap.size,6,none⟩ = some (.string x.state)∧w1.cell? ⟨wr.heap.size,7,none⟩ = some (.string x.next)∧w1.cell? ⟨wr.heap.size,8,none⟩ = some (.int .i64 x.pos))∧Hid (J (itemsP d ++ itemsU d j) w1∧Kept M rw w w1))):=hid fun w1 h1 =>
          ⟨⟨cell_on h1 c0,cell_on h1 c1⟩,cells9 ((h1.block _ (lt_of_heap hOV)).trans hOV),hid ⟨hJ.out _ _ _ HJa.out h1,HKa.out.below hA.out h1⟩⟩
        have HT:=hid (itemsU_succ d j x hx)
        have HPre:Hid (itemsP d ++ itemsU d (j+1) <+: itemsW d):=hid ((List.prefix_append_right_inj _).2 (itemsU_pre d (j+1)))
        have T0:Hid (badI d j x = (takenI d j x.kind x.name x.states || missI d x.kind x.name x.state x.next)):=hid rfl
        obtain ⟨tk,htk⟩:∃ tk,tk = takenI d j x.kind x.name x.states:=⟨_,rfl⟩
        obtain ⟨ms,hms⟩:∃ ms,ms = missI d x.kind x.name x.state x.next:=⟨_,rfl⟩
        rw [← htk,← hms] at T0
        rw [← htk] at TK
        rw [← hms] at MS
        have HVE:Hid (wr.alloc (.cells #[.int .i64 x.kind,.string x.name,.int .i64 x.type,.int .i64 x.e,.int .i64 x.f,.slice os x.states.length caps,.string x.state,.string x.next,.int .i64 x.pos] 62) = V):=hid (by rw [hV,hOB])
        clear htk hms hV hOB hOV ba hSV hnm hstt hnx hSA ho i0 i1 i2 i3 i4 i5 i6 i7 i8 hsa hok hs1 hs2 hs3 hs4 hx hJp hKp
        rw [← HVE.out] at c0 c1 z0 z1 z2 z3 z4 z5 z6 z7 z8 TK AFT MS HJa HKa
        cases tk with
        | true =>
          have TT:Hid (badI d j x = true):=hid (by rw [T0.out];rfl)
          rw [TT.out,if_pos rfl] at HT
          have YY:Hid (∀ X,J (itemsP d ++ itemsU d j) X→YieldAt Fence.wide (n - 1) Tryz.prog lp #[.int .i64 x.pos] X fun e W' =>
            (e = .returned (.bool true)∧J (itemsP d ++ itemsU d (j+1)) W'∧KeepX M rw w.heap.size n1 X W')∨(e = .returned (.bool false)∧Jx (itemsP d ++ itemsU d (j+1)) W')):=hid fun X hX=>by
              rw [HT.out,← List.append_assoc]
              exact hY.out _ x.pos X hX (by rw [List.append_assoc,← HT.out];exact HPre.out)
          gi_wp2_with (refine ⟨trivial,fun h=>(by cases h),?_⟩;(with_reducible refine (callsIn_wide.2 TK.out).mono ?_);rintro e W1 ⟨rfl,hw1⟩;obtain ⟨⟨g0,g1⟩,⟨f0,f1,f2,f3,f4,f5,f6,f7,f8⟩,HA1⟩:=AFT.out _ hw1;obtain ⟨fn,tmps,assign,body,hy,hR⟩:=YY.out W1 HA1.out.1;have hy' : (Instr.yield lp #[.int .i64 x.pos]).run Tryz.prog W1 = .ok (.round lp fn tmps assign body) W1:=hy;have HR:=hid hR;clear hw1 hy hR)
          refine ⟨trivial,?_⟩
          gi_wp2_with fail
          refine ⟨fun h=>(by cases h),HR.out.mono ?_⟩
          rintro e W3 (⟨rfl,hJ3,hk3⟩ | ⟨rfl,hJx3⟩)
          · have HK3:=hid (HA1.out.2.keepx hk3)
            have HJ3:=hid hJ3
            clear hJ3 hk3
            gi_wp2_with fail
            go_roundw
            case rel=>exact ⟨j+1,by go_num,hid (by omega),HJ3,HK3⟩
            case measure=>simp [litLen];omega
          · have HJx3:=hid hJx3
            clear hJx3
            gi_wp2_with fail
            refine bodyPost_ret (results_none rfl _ _ _) rfl ?_
            exact ⟨⟨_,rfl⟩,.inr ⟨_,HPre.out,HJx3.out⟩⟩
        | false =>
          cases ms with
          | true =>
            have TT:Hid (badI d j x = true):=hid (by rw [T0.out];rfl)
            rw [TT.out,if_pos rfl] at HT
            have YY:Hid (∀ X,J (itemsP d ++ itemsU d j) X→YieldAt Fence.wide (n - 1) Tryz.prog lp #[.int .i64 x.pos] X fun e W' =>
              (e = .returned (.bool true)∧J (itemsP d ++ itemsU d (j+1)) W'∧KeepX M rw w.heap.size n1 X W')∨(e = .returned (.bool false)∧Jx (itemsP d ++ itemsU d (j+1)) W')):=hid fun X hX=>by
                rw [HT.out,← List.append_assoc]
                exact hY.out _ x.pos X hX (by rw [List.append_assoc,← HT.out];exact HPre.out)
            gi_wp2_with (refine ⟨trivial,fun h=>(by cases h),?_⟩;first
              | ((with_reducible refine (callsIn_wide.2 TK.out).mono ?_);rintro e W1 ⟨rfl,hw1⟩;obtain ⟨⟨g0,g1⟩,⟨f0,f1,f2,f3,f4,f5,f6,f7,f8⟩,_⟩:=AFT.out _ hw1;have HW1:=hid hw1;clear hw1)
              | ((with_reducible refine (callsIn_wide.2 (MS.out _ HW1.out)).mono ?_);rintro e W2 ⟨rfl,hw2⟩;obtain ⟨⟨k0,k1⟩,⟨l0,l1,l2,l3,l4,l5,l6,l7,l8⟩,HA1⟩:=AFT.out _ (HW1.out.trans (hw2.mono HW1.out.size));obtain ⟨fn,tmps,assign,body,hy,hR⟩:=YY.out W2 HA1.out.1;have hy' : (Instr.yield lp #[.int .i64 x.pos]).run Tryz.prog W2 = .ok (.round lp fn tmps assign body) W2:=hy;have HR:=hid hR;clear hw2 hy hR))
            refine ⟨fun h=>(by cases h),HR.out.mono ?_⟩
            rintro e W3 (⟨rfl,hJ3,hk3⟩ | ⟨rfl,hJx3⟩)
            · have HK3:=hid (HA1.out.2.keepx hk3)
              have HJ3:=hid hJ3
              clear hJ3 hk3
              gi_wp2_with fail
              go_roundw
              case rel=>exact ⟨j+1,by go_num,hid (by omega),HJ3,HK3⟩
              case measure=>simp [litLen];omega
            · have HJx3:=hid hJx3
              clear hJx3
              gi_wp2_with fail
              refine bodyPost_ret (results_none rfl _ _ _) rfl ?_
              exact ⟨⟨_,rfl⟩,.inr ⟨_,HPre.out,HJx3.out⟩⟩
          | false =>
            have TT:Hid (badI d j x = false):=hid (by rw [T0.out];rfl)
            rw [TT.out,if_neg (by simp),List.append_nil] at HT
            gi_wp2_with (refine ⟨trivial,fun h=>(by cases h),?_⟩;first
              | ((with_reducible refine (callsIn_wide.2 TK.out).mono ?_);rintro e W1 ⟨rfl,hw1⟩;obtain ⟨⟨g0,g1⟩,⟨f0,f1,f2,f3,f4,f5,f6,f7,f8⟩,_⟩:=AFT.out _ hw1;have HW1:=hid hw1;clear hw1)
              | ((with_reducible refine (callsIn_wide.2 (MS.out _ HW1.out)).mono ?_);rintro e W2 ⟨rfl,hw2⟩;obtain ⟨⟨k0,k1⟩,⟨l0,l1,l2,l3,l4,l5,l6,l7,l8⟩,HA1⟩:=AFT.out _ (HW1.out.trans (hw2.mono HW1.out.size));clear hw2))
            refine ⟨fun f h=>(by cases h),?_⟩
            gi_wp2_with fail
            go_roundw
            case rel=>exact ⟨j+1,by go_num,hid (by omega),by rw [HT.out];exact hid HA1.out.1,hid HA1.out.2⟩
            case measure=>simp [litLen];omega
      · obtain rfl:j = ni:=by omega
        have HJ3:=hid hJp.out
        gi_wp2_with fail
        go_end0
        exact ⟨⟨_,rfl⟩,.inl ⟨_,rfl,by unfold itemsW;rw [hni.out];exact HJ3.out⟩⟩
  | true =>
    have HJ1:=hid h0.out
    have PP:Hid (itemsP d = [d.pos]):=hid P0.out
    have YY:Hid (∀ X,J [] X→YieldAt Fence.wide (n - 1) Tryz.prog lp #[.int .i64 d.pos] X fun e W' =>
      (e = .returned (.bool true)∧J (itemsP d) W'∧KeepX M rw w.heap.size n1 X W')∨(e = .returned (.bool false)∧Jx (itemsP d) W')):=hid fun X hX=>by
        rw [PP.out]
        exact hY.out [] d.pos X hX (by rw [← PP.out];exact PW.out)
    refine callsIn_of_wp Tryz.func91 rfl trivial ?_ rfl
    simp only [Tryz.ntmps91,List.size_toArray,List.length_cons,List.length_nil,Nat.reduceAdd,Nat.reduceSub,Array.replicate_succ,Array.replicate_zero,List.push_toArray,List.append_toArray,List.nil_append,List.cons_append]
    gi_wp2_with (refine ⟨trivial,fun h=>(by cases h),?_⟩;(with_reducible refine (callsIn_wide.2 TP.out).mono ?_);rintro e W1 ⟨rfl,hw1⟩;have hb6:=(seven_froz (((HK.out.below hA.out hw1).2.2 _ hB.out.1).trans hBc.out)).2.2.2.2.2.2.2;have HJ1':=hid (hJ.out _ _ _ HJ1.out hw1);have HK1:=hid (HK.out.below hA.out hw1);obtain ⟨fn,tmps,assign,body,hy,hR⟩:=YY.out W1 HJ1'.out;have hy' : (Instr.yield lp #[.int .i64 d.pos]).run Tryz.prog W1 = .ok (.round lp fn tmps assign body) W1:=hy;have HR:=hid hR;clear hw1 hy hR)
    refine ⟨fun h=>(by cases h),HR.out.mono ?_⟩
    rintro e W3 (⟨rfl,hJ3,hk3⟩ | ⟨rfl,hJx3⟩)
    · have HK2:=hid (HK1.out.keepx hk3)
      have HJ2:=hid hJ3
      have hb3:=(seven_froz ((HK2.out.2.2 _ hB.out.1).trans hBc.out)).2.2.2.2.1
      clear hJ3 hk3
      gi_wp2_with fail
      clear hb3
      gi_loopw [21] (fun i wr=>∃ (j:Nat),i = .int .i64 j∧Hid (j≤ni)∧Hid (J (itemsP d ++ itemsU d j) wr)∧Hid (Kept M rw w wr)) (fun i _=>ni - litLen i)
      case atStart=>exact ⟨0,rfl,hid (Nat.zero_le _),(by simpa [itemsU] using HJ2),HK2⟩
      case round =>
        clear HJ2 HK2
        obtain ⟨j,rfl,hj,hJp,hKp⟩:=hrel
        have jl:=hj.out
        rcases Nat.lt_or_ge j ni with hlt | hge
        · have q3:(j:Int) < (ni:Int):=by omega
          have ix:=ix_its (cap:=capi) hoi.out hlt (by omega)
          unfold Ix at ix
          obtain ⟨x,hx⟩:∃ x,d.items[j]? = some x:=⟨_,List.getElem?_eq_getElem (by have:=hni.out;omega)⟩
          obtain ⟨sv,i0,i1,i2,i3,i4,i5,i6,i7,i8,hsa,hok⟩:=hvi.out j hlt x hx
          obtain ⟨os,caps,bs,offs,rfl,hs1,hs2,hs3,hs4⟩:=id hsa
          have ho:=hBa.out.old hKp.out
          have p0:=ho.cell i0
          have p1:=ho.cell i1
          have p2:=ho.cell i2
          have p3:=ho.cell i3
          have p4:=ho.cell i4
          have p5:=ho.cell i5
          have p6:=ho.cell i6
          have p7:=ho.cell i7
          have p8:=ho.cell i8
          obtain ⟨OB,hOB⟩:∃ OB,OB = Obj.cells #[.int .i64 x.kind,.string x.name,.int .i64 x.type,.int .i64 x.e,.int .i64 x.f,.slice os x.states.length caps,.string x.state,.string x.next,.int .i64 x.pos] 62:=⟨_,rfl⟩
          obtain ⟨V,hV⟩:∃ V,V = wr.alloc OB:=⟨_,rfl⟩
          have ba:Below wr.heap.size wr V:=by rw [hV];exact below_al (Below.refl _ _) _
          have HJa:=hid (hJ.out _ _ _ hJp.out ba)
          have HKa:=hid (hKp.out.below hA.out ba)
          have hSV:ScAt V m1 m2 d:=hSc.out.same (HKa.out.2.2 _ hB.out.2.2.1) (HKa.out.2.2 _ hB.out.2.2.2)
          have hnm:x.name.size≤maxLen:=by have:=hok.name;unfold reachN at this;unfold maxLen;omega
          have hstt:x.state.size≤maxLen:=by have:=hok.state;unfold reachN at this;unfold maxLen;omega
          have hnx:x.next.size≤maxLen:=by have:=hok.next;unfold reachN at this;unfold maxLen;omega
          have hSA:StrsAt V (.slice os x.states.length caps) x.states:=hsa.mono fun b o i _ h=>(ho.trans ba).cell h
          have TK:=hid (taken_any m1 m2 d j x.kind x.type x.e x.f x.pos x.name x.state x.next x.states os x.states.length caps hnm (fun s hs=>by have:=hok.statesOk s hs;unfold reachN at this;unfold maxLen;omega) (hst.out x (List.mem_of_getElem? hx)) V (hid hSV) (hid hSA))
          have MS:Hid (∀ w1,Below V.heap.size V w1→Calls Tryz.prog 95 #[.agg #[.map (some m1),.map (some m2)],.agg #[.int .i64 x.kind,.string x.name,.int .i64 x.type,.int .i64 x.e,.int .i64 x.f,.slice os x.states.length caps,.string x.state,.string x.next,.int .i64 x.pos]] w1 fun r Y=>r = .returned (.bool (missI d x.kind x.name x.state x.next))∧Below w1.heap.size w1 Y) :=
            hid fun w1 h1=>misses_any m1 m2 d x.kind x.type x.e x.f x.pos x.name x.state x.next os x.states.length caps hnm hstt hnx w1 (hid (hSV.below h1)) (hid hO.out)
          obtain ⟨c0,c1⟩:=cells_two ((HKa.out.2.2 _ hB.out.2.1).trans hCc.out)
          have hOV:V.heap[wr.heap.size]? = some OB:=by rw [hV];exact al_new rfl
          rw [hOB] at hOV
          obtain ⟨z0,z1,z2,z3,z4,z5,z6,z7,z8⟩:=cells9 hOV
          have AFT:Hid (∀ w1,Below V.heap.size V w1→((w1.cell? ⟨C,0,none⟩ = some (.map (some m1))∧w1.cell? ⟨C,1,none⟩ = some (.map (some m2)))∧(w1.cell? ⟨wr.heap.size,0,none⟩ = some (.int .i64 x.kind)∧w1.cell? ⟨wr.heap.size,1,none⟩ = some (.string x.name)∧w1.cell? ⟨wr.heap.size,2,none⟩ = some (.int .i64 x.type)∧w1.cell? ⟨wr.heap.size,3,none⟩ = some (.int .i64 x.e)∧w1.cell? ⟨wr.heap.size,4,none⟩ = some (.int .i64 x.f)∧w1.cell? ⟨wr.heap.size,5,none⟩ = some (.slice os x.states.length caps)∧w1.cell? ⟨wr.heap.size,6,none⟩ = some (.string x.state)∧w1.cell? ⟨wr.heap.size,7,none⟩ = some (.string x.next)∧w1.cell? ⟨wr.heap.size,8,none⟩ = some (.int .i64 x.pos))∧Hid (J (itemsP d ++ itemsU d j) w1∧Kept M rw w w1))):=hid fun w1 h1 =>
            ⟨⟨cell_on h1 c0,cell_on h1 c1⟩,cells9 ((h1.block _ (lt_of_heap hOV)).trans hOV),hid ⟨hJ.out _ _ _ HJa.out h1,HKa.out.below hA.out h1⟩⟩
          have HT:=hid (itemsU_succ d j x hx)
          have HPre:Hid (itemsP d ++ itemsU d (j+1) <+: itemsW d):=hid ((List.prefix_append_right_inj _).2 (itemsU_pre d (j+1)))
          have T0:Hid (badI d j x = (takenI d j x.kind x.name x.states || missI d x.kind x.name x.state x.next)):=hid rfl
          obtain ⟨tk,htk⟩:∃ tk,tk = takenI d j x.kind x.name x.states:=⟨_,rfl⟩
          obtain ⟨ms,hms⟩:∃ ms,ms = missI d x.kind x.name x.state x.next:=⟨_,rfl⟩
          rw [← htk,← hms] at T0
          rw [← htk] at TK
          rw [← hms] at MS
          have HVE:Hid (wr.alloc (.cells #[.int .i64 x.kind,.string x.name,.int .i64 x.type,.int .i64 x.e,.int .i64 x.f,.slice os x.states.length caps,.string x.state,.string x.next,.int .i64 x.pos] 62) = V):=hid (by rw [hV,hOB])
          clear htk hms hV hOB hOV ba hSV hnm hstt hnx hSA ho i0 i1 i2 i3 i4 i5 i6 i7 i8 hsa hok hs1 hs2 hs3 hs4 hx hJp hKp
          rw [← HVE.out] at c0 c1 z0 z1 z2 z3 z4 z5 z6 z7 z8 TK AFT MS HJa HKa
          cases tk with
          | true =>
            have TT:Hid (badI d j x = true):=hid (by rw [T0.out];rfl)
            rw [TT.out,if_pos rfl] at HT
            have YY:Hid (∀ X,J (itemsP d ++ itemsU d j) X→YieldAt Fence.wide (n - 1) Tryz.prog lp #[.int .i64 x.pos] X fun e W' =>
              (e = .returned (.bool true)∧J (itemsP d ++ itemsU d (j+1)) W'∧KeepX M rw w.heap.size n1 X W')∨(e = .returned (.bool false)∧Jx (itemsP d ++ itemsU d (j+1)) W')):=hid fun X hX=>by
                rw [HT.out,← List.append_assoc]
                exact hY.out _ x.pos X hX (by rw [List.append_assoc,← HT.out];exact HPre.out)
            gi_wp2_with (refine ⟨trivial,fun h=>(by cases h),?_⟩;(with_reducible refine (callsIn_wide.2 TK.out).mono ?_);rintro e W1 ⟨rfl,hw1⟩;obtain ⟨⟨g0,g1⟩,⟨f0,f1,f2,f3,f4,f5,f6,f7,f8⟩,HA1⟩:=AFT.out _ hw1;obtain ⟨fn,tmps,assign,body,hy,hR⟩:=YY.out W1 HA1.out.1;have hy' : (Instr.yield lp #[.int .i64 x.pos]).run Tryz.prog W1 = .ok (.round lp fn tmps assign body) W1:=hy;have HR:=hid hR;clear hw1 hy hR)
            refine ⟨trivial,?_⟩
            gi_wp2_with fail
            refine ⟨fun h=>(by cases h),HR.out.mono ?_⟩
            rintro e W3 (⟨rfl,hJ3,hk3⟩ | ⟨rfl,hJx3⟩)
            · have HK3:=hid (HA1.out.2.keepx hk3)
              have HJ3:=hid hJ3
              clear hJ3 hk3
              gi_wp2_with fail
              go_roundw
              case rel=>exact ⟨j+1,by go_num,hid (by omega),HJ3,HK3⟩
              case measure=>simp [litLen];omega
            · have HJx3:=hid hJx3
              clear hJx3
              gi_wp2_with fail
              refine bodyPost_ret (results_none rfl _ _ _) rfl ?_
              exact ⟨⟨_,rfl⟩,.inr ⟨_,HPre.out,HJx3.out⟩⟩
          | false =>
            cases ms with
            | true =>
              have TT:Hid (badI d j x = true):=hid (by rw [T0.out];rfl)
              rw [TT.out,if_pos rfl] at HT
              have YY:Hid (∀ X,J (itemsP d ++ itemsU d j) X→YieldAt Fence.wide (n - 1) Tryz.prog lp #[.int .i64 x.pos] X fun e W' =>
                (e = .returned (.bool true)∧J (itemsP d ++ itemsU d (j+1)) W'∧KeepX M rw w.heap.size n1 X W')∨(e = .returned (.bool false)∧Jx (itemsP d ++ itemsU d (j+1)) W')):=hid fun X hX=>by
                  rw [HT.out,← List.append_assoc]
                  exact hY.out _ x.pos X hX (by rw [List.append_assoc,← HT.out];exact HPre.out)
              gi_wp2_with (refine ⟨trivial,fun h=>(by cases h),?_⟩;first
                | ((with_reducible refine (callsIn_wide.2 TK.out).mono ?_);rintro e W1 ⟨rfl,hw1⟩;obtain ⟨⟨g0,g1⟩,⟨f0,f1,f2,f3,f4,f5,f6,f7,f8⟩,_⟩:=AFT.out _ hw1;have HW1:=hid hw1;clear hw1)
                | ((with_reducible refine (callsIn_wide.2 (MS.out _ HW1.out)).mono ?_);rintro e W2 ⟨rfl,hw2⟩;obtain ⟨⟨k0,k1⟩,⟨l0,l1,l2,l3,l4,l5,l6,l7,l8⟩,HA1⟩:=AFT.out _ (HW1.out.trans (hw2.mono HW1.out.size));obtain ⟨fn,tmps,assign,body,hy,hR⟩:=YY.out W2 HA1.out.1;have hy' : (Instr.yield lp #[.int .i64 x.pos]).run Tryz.prog W2 = .ok (.round lp fn tmps assign body) W2:=hy;have HR:=hid hR;clear hw2 hy hR))
              refine ⟨fun h=>(by cases h),HR.out.mono ?_⟩
              rintro e W3 (⟨rfl,hJ3,hk3⟩ | ⟨rfl,hJx3⟩)
              · have HK3:=hid (HA1.out.2.keepx hk3)
                have HJ3:=hid hJ3
                clear hJ3 hk3
                gi_wp2_with fail
                go_roundw
                case rel=>exact ⟨j+1,by go_num,hid (by omega),HJ3,HK3⟩
                case measure=>simp [litLen];omega
              · have HJx3:=hid hJx3
                clear hJx3
                gi_wp2_with fail
                refine bodyPost_ret (results_none rfl _ _ _) rfl ?_
                exact ⟨⟨_,rfl⟩,.inr ⟨_,HPre.out,HJx3.out⟩⟩
            | false =>
              have TT:Hid (badI d j x = false):=hid (by rw [T0.out];rfl)
              rw [TT.out,if_neg (by simp),List.append_nil] at HT
              gi_wp2_with (refine ⟨trivial,fun h=>(by cases h),?_⟩;first
                | ((with_reducible refine (callsIn_wide.2 TK.out).mono ?_);rintro e W1 ⟨rfl,hw1⟩;obtain ⟨⟨g0,g1⟩,⟨f0,f1,f2,f3,f4,f5,f6,f7,f8⟩,_⟩:=AFT.out _ hw1;have HW1:=hid hw1;clear hw1)
                | ((with_reducible refine (callsIn_wide.2 (MS.out _ HW1.out)).mono ?_);rintro e W2 ⟨rfl,hw2⟩;obtain ⟨⟨k0,k1⟩,⟨l0,l1,l2,l3,l4,l5,l6,l7,l8⟩,HA1⟩:=AFT.out _ (HW1.out.trans (hw2.mono HW1.out.size));clear hw2))
              refine ⟨fun f h=>(by cases h),?_⟩
              gi_wp2_with fail
              go_roundw
              case rel=>exact ⟨j+1,by go_num,hid (by omega),by rw [HT.out];exact hid HA1.out.1,hid HA1.out.2⟩
              case measure=>simp [litLen];omega
        · obtain rfl:j = ni:=by omega
          have HJ3:=hid hJp.out
          gi_wp2_with fail
          go_end0
          exact ⟨⟨_,rfl⟩,.inl ⟨_,rfl,by unfold itemsW;rw [hni.out];exact HJ3.out⟩⟩
    · have HJx3:=hid hJx3
      clear hJx3
      gi_wp2_with fail
      refine bodyPost_ret (results_none rfl _ _ _) rfl ?_
      exact ⟨⟨_,rfl⟩,.inr ⟨_,PW.out,HJx3.out⟩⟩
theorem wrongItems_seq (n:Nat) (d:De) (s t:Value) (B C m1 m2:Nat) (w0:World) (E M:Nat→Prop) (rw:World→Option Nat) (w:World) (hA:Near M rw w) (hb:Base w0 M rw w)
    (hs:SlAt s d.params.length 2 (fun b o i=>∀ y,d.params[i]? = some y→PaAt w0 b o y)) (ht:SlAt t d.items.length 9 (fun b o i=>∀ y,d.items[i]? = some y→ItAt w0 b o y)) (hp:d.params.length≤1000) (hi:d.items.length≤1000) (hst:∀ x∈d.items,x.states.length≤1000)
    (hS:Still M rw w B∧Still M rw w C∧Still M rw w m1∧Still M rw w m2) (hB:w.heap[B]? = some (.cells #[.int .i64 d.kind,.string d.name,s,t,.int .i64 d.type,.int .i64 d.e,.int .i64 d.pos] 44 (0,0))) (hC:w.heap[C]? = some (.cells #[.map (some m1),.map (some m2)] 109 (0,0))) (hSc:ScAt w m1 m2 d) (hO:ScOk d) :
    SeqX (α:=Int) Fence.wide n Tryz.prog 91 #[.pointer (some ⟨B,0,none⟩),.pointer (some ⟨C,0,none⟩)] (fun v=>#[.int .i64 v]) E M rw (fun ys _=>ys = itemsW d) (fun pre=>pre <+: itemsW d) (itemsW d).length w:=by
  obtain ⟨op,capp,bp,fp,rfl,h1⟩:=id hs
  obtain ⟨oi,capi,bi,fi,rfl,h2,h3,h4,h5⟩:=id ht
  intro lp J Jx W hW hJ _ _ hY h0
  exact wrongItems_core n d op oi _ _ capp capi bi fi B C m1 m2 (hid rfl) (hid rfl) (by omega) (by omega) w0 M rw w (hid hA) (hid hb) (hid hs) (hid h4) (hid h5) (hid hst) (hid hS) (hid hB) (hid hC) (hid hSc) (hid hO) lp W.heap.size J Jx W (hid hW)
    (hid fun s X Y h hb=>hJ.below hb h) (hid fun pre v X hj hpre=>(hY pre v X hj (by have:=hpre.length_le;simp at this;omega)).mono fun r Y h=>h.imp id fun h=>⟨h.1,h.2.1⟩) (hid h0)
end
end Go.Proofs.YtdlmfeflinbbjaaGreat
