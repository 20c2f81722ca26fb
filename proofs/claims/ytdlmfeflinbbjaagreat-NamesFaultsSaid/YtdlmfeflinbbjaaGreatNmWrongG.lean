import Derived.Test.YtdlmfeflinbbjaaGreatNmQC
namespace Go.Proofs.YtdlmfeflinbbjaaGreat
open Go.Lib (hid)
open Go.RowKit Lx Go.Shelf Go.Maps
attribute [local go_sem] Oper.semAt_some
theorem run_make_intsR (n:Nat) (hn:n≤1000000) (W:World):(Instr.makeSlice 33 (.int .i64 (n:Int)) (.int .i64 (n:Int))).run Tryz.prog W = .ok (.slice (some ⟨W.heap.size,0,none⟩) n n) (W.alloc (.cells (madeCells #[.int .i64 0] n) 3)):=by
  obtain ⟨i,h2,h3,h4,h5⟩:=info_parts (show (Tryz.prog.info? 3).map (fun i=>(i.zero,i.size,i.bytes)) = some (some (.int .i64 0),1,8) by kernel_rfl)
  have hr:=run_make (P:=Tryz.prog) W 33 3 i _ Tryz.underlying33 h2 h3 .i64 .i64 n n (by omega) (by omega) (by rw [h5];omega) (by omega)
  simp only [Int.toNat_natCast,h4,Nat.mul_one] at hr
  exact hr
theorem walkerF_any (o1 o2:Option Addr) (n1 c1 ne c2:Nat) (hn:ne≤1000000) (w:World):Calls Tryz.prog 57 #[.agg #[.slice o1 n1 c1,.slice o2 ne c2]] w fun r Y=>r = .returned (.func (.func 88) #[] #[.pointer (some ⟨w.heap.size,0,none⟩),.pointer (some ⟨w.heap.size+1+1,0,none⟩)]) ∧
    Y.heap[w.heap.size]? = some (.cells #[.slice o1 n1 c1,.slice o2 ne c2] 25 (0,0))∧Y.heap[w.heap.size+1+1]? = some (.cells #[.slice (some ⟨w.heap.size+1,0,none⟩) ne ne] 33 (0,0))∧MarksLe Y (w.heap.size+1) ne 0∧Below w.heap.size w Y:=by
  have hmk:=run_make_intsR ne hn
  go_enter Tryz.func57,Tryz.ntmps57
  go_wp2_with fail
  go_ret
  refine ⟨rfl,al_old (al_old (al_new rfl)),al_new (by simp),⟨madeCells #[.int .i64 0] ne,al_old (al_new (by simp)),by simp [madeCells],fun j hj=>⟨0,?_,Int.le_refl _⟩⟩,(((Below.refl w.heap.size w).alloc (Nat.le_refl _) _).alloc (by simp) _).alloc (by simp;omega) _⟩
  rw [← Array.getElem?_toList,toList_madeCells_one,List.getElem?_replicate,if_pos hj]
theorem firstsG_any (sd se:Value) (p:Pr) (w:World) (h:ProgAt w sd se p) (hs:Small p):Calls Tryz.prog 55 #[.agg #[sd,se]] w fun r Y=>FirPost p w r Y:=by
  obtain ⟨⟨o1,dcap,db,doff,rfl,hd1,hd2,hd3,hd4⟩,_⟩:=h
  exact firsts_core o1 db doff dcap se p _ (hid rfl) (by have:=hs.decls;omega) w (hid hd3) (hid hd4)
def putAll:List Nat→World→World
  | [],w=>w
  | D :: Ds,w=>putAll Ds (w.putObj D (.deferred none))
theorem leaves_puts {F:Fence} {n:Nat} {P:Program} {fn:Func} {tmps:Array Value} {R:Ending→World→Prop} {v:Value} (hres:∀ w,(results fn tmps).run P w = .ok v w):∀ (Ds:List Nat) (w:World),Ds.Nodup→(∀ D∈Ds,w.heap[D]? = some (.deferred (some [])))→R (.returned v) (putAll Ds w)→LeavesInM F n P fn tmps R (markL Ds) .returning w
  | [],w,_,_,h=>⟨v,hres w,h⟩
  | D :: Ds,w,hnd,hall,h=>by
    have h2:=hall D (List.mem_cons_self ..)
    have hd:=List.nodup_cons.1 hnd
    refine ⟨by simp,.inl ⟨D,_,rfl,run_takeDeferred h2,leaves_puts hres Ds _ hd.2 (fun D' hD'=>?_) h⟩⟩
    have hne:D'≠D:=fun e=>hd.1 (e ▸ hD')
    exact (World.putObj_heap_other hne).trans (hall D' (List.mem_cons_of_mem _ hD'))
theorem abides_puts {β:Type} {rw:World→Option Nat} {E:Nat→Prop} {B:Nat} {J:β→World→Prop} (hJ:AbidesE rw E B J) (s:β):∀ (Ds:List Nat) (w:World),Ds.Nodup→(∀ D∈Ds,B≤D∧w.heap[D]? = some (.deferred (some [])))→J s w→J s (putAll Ds w)
  | [],w,_,_,h=>h
  | D :: Ds,w,hnd,hall,h=>by
    have hd:=List.nodup_cons.1 hnd
    have h2:=hall D (List.mem_cons_self ..)
    refine abides_puts hJ s Ds _ hd.2 (fun D' hD'=>?_) (hJ.put _ h h2.1 h2.2 rfl)
    have hne:D'≠D:=fun e=>hd.1 (e ▸ hD')
    have h3:=hall D' (List.mem_cons_of_mem _ hD')
    exact ⟨h3.1,(World.putObj_heap_other hne).trans h3.2⟩
theorem kept_abides {β:Type} {M E:Nat→Prop} {rw:World→Option Nat} {V:World} (hR:∀ X Y:World,(∀ k,k < V.heap.size→¬ E k→Y.heap[k]? = X.heap[k]?)→rw Y = rw X) (hE:∀ k,E k→M k):AbidesE rw E V.heap.size (fun (_:β) X=>Kept M rw V X):=by
  intro s X Y row h hg hr
  have hne:∀ k,k < V.heap.size→¬ E k→some k≠row:=fun k hk he e=>by
    rcases (hr k e.symm).1 with h1 | h1
    · omega
    · exact he h1
  have hrr:rw Y = rw X:=hR X Y fun k hk he=>hg.block k (Nat.lt_of_lt_of_le hk h.1) (hne k hk he)
  exact ⟨Nat.le_trans h.1 hg.size,fun k hk=>h.2.1 k (hrr ▸ hk),fun k hk=>(hg.block k (Nat.lt_of_lt_of_le hk.1 h.1) (hne k hk.1 fun he=>hk.2.1 (hE k he))).trans (h.2.2 k hk)⟩
theorem nest_round {M:Nat→Prop} {rw:World→Option Nat} {w W V X Y:World} (hM:∀ k,M k→k < w.heap.size) (hw:w.heap.size≤W.heap.size) (hWV:W.heap.size≤V.heap.size) (hr:∀ k,rw X = some k→∃ o:Obj,X.heap[k]? = some o∧o.isCells = true) (hk:KeepX M rw w.heap.size W.heap.size X Y) :
    KeepsFrom V.heap.size X Y∧KeepX (fun k=>M k∨(w.heap.size≤k∧k < W.heap.size)) rw V.heap.size (V.heap.size+2) X Y:=by
  refine ⟨⟨hk.1,fun k o hB ho hc=>(hk.2.1 k (lt_of_heap ho) (fun h=>by have:=hM k h;omega) (fun e=>?_) (.inr (by omega))).trans ho⟩,hk.more fun k h=>⟨fun hm=>h (.inl hm),?_⟩⟩
  · obtain ⟨o',h1,h2⟩:=hr k e
    rw [ho] at h1;cases h1;rw [hc] at h2;cases h2
  · rcases Nat.lt_or_ge k w.heap.size with h1 | h1
    · exact .inl h1
    · rcases Nat.lt_or_ge k W.heap.size with h2 | h2
      · exact absurd (.inr ⟨h1,h2⟩) h
      · exact .inr h2
theorem keeps_later {B B' : Nat} {X Y:World} (h:KeepsFrom B X Y) (hB:B≤B'):KeepsFrom B' X Y:=⟨h.size,fun k o hk=>h.same k o (Nat.le_trans hB hk)⟩
theorem declsW_len (p:Pr):(declsW p).length≤p.decls.length+1:=by
  unfold declsW declsU
  have h:=List.length_filterMap_le (fun z:De × Nat=>if twiceD p z.2 z.1 then some z.1.pos else none) (p.decls.take p.decls.length).zipIdx
  rw [List.length_zipIdx,List.take_length] at h
  rw [List.length_append,List.take_length]
  split <;> simp <;> omega
theorem itemsW_len (d:De):(itemsW d).length≤d.items.length+1:=by
  unfold itemsW itemsU itemsP
  have h:=List.length_filterMap_le (fun z:It × Nat=>if badI d z.2 z.1 then some z.1.pos else none) (d.items.take d.items.length).zipIdx
  rw [List.length_zipIdx,List.take_length] at h
  rw [List.length_append,List.take_length]
  split <;> simp <;> omega
def WrongAt (p:Pr) (a:Int):Prop:=mayN p = true∧(a∈declsW p∨∃ d∈p.decls,a∈itemsW d∨∃ k x,Reach p (rootsN d) k∧p.exprs[k]? = some x∧wrongE p d x = true∧a = x.pos)
theorem stands_true {n:Nat} {e:Int} (h:standsE n true e = true):∃ z:Nat,e = (z:Int)∧z < n:=by
  unfold standsE at h
  simp only [if_true,Bool.and_eq_true,decide_eq_true_eq] at h
  exact ⟨e.toNat,by omega,by omega⟩
theorem roots_ok {p:Pr} (h:mayP p = true) {i:Nat} {d:De} (hd:p.decls[i]? = some d):∀ r∈rootsN d,∃ z:Nat,r = (z:Int)∧z < p.exprs.length:=by
  unfold mayP at h
  rw [Bool.and_eq_true] at h
  have h1:=List.all_eq_true.1 h.2 d (List.mem_of_getElem? hd)
  unfold mayD at h1
  rw [Bool.and_eq_true] at h1
  intro r hr
  unfold rootsN at hr
  rcases List.mem_append.1 hr with hr | hr
  · unfold rootsI at hr
    obtain ⟨x,hx,hr⟩:=List.mem_flatMap.1 hr
    have h2:=List.all_eq_true.1 h1.2 x hx
    unfold mayI at h2
    rw [Bool.and_eq_true] at h2
    unfold rootsX at hr
    rcases List.mem_append.1 hr with hr | hr
    · split at hr
      · rename_i hk
        rw [List.mem_singleton.1 hr]
        have e:hasE x.kind = true:=by unfold hasEk at hk;unfold hasE;simp only [Bool.or_eq_true,decide_eq_true_eq] at hk ⊢;omega
        have h3:=h2.1
        rw [e] at h3
        exact stands_true h3
      · cases hr
    · split at hr
      · rename_i hk
        rw [List.mem_singleton.1 hr]
        have e:hasF x.kind = true:=by unfold hasFk at hk;unfold hasF;simp only [Bool.or_eq_true,decide_eq_true_eq] at hk ⊢;omega
        have h3:=h2.2
        rw [e] at h3
        exact stands_true h3
      · cases hr
  · split at hr
    · rename_i hk
      rw [List.mem_singleton.1 hr]
      have e:hasVal d.kind = true:=by unfold hasVal;simp only [Bool.or_eq_true,decide_eq_true_eq];exact hk
      have h3:=h1.1
      rw [e] at h3
      exact stands_true h3
    · cases hr
def WrongIn (p:Pr) (d:De) (a:Int):Prop:=a∈itemsW d∨∃ k x,Reach p (rootsN d) k∧p.exprs[k]? = some x∧wrongE p d x = true∧a = x.pos
def WrUpto (p:Pr) (j:Nat) (a:Int):Prop:=a∈declsW p∨∃ i d,i < j∧p.decls[i]? = some d∧WrongIn p d a
theorem wrUpto_succ {p:Pr} {j:Nat} {d:De} (hd:p.decls[j]? = some d) (a:Int):WrUpto p (j+1) a↔WrUpto p j a∨WrongIn p d a:=by
  unfold WrUpto
  constructor
  · rintro (h | ⟨i,e,h1,h2,h3⟩)
    · exact .inl (.inl h)
    · by_cases hi:i = j
      · subst hi;rw [hd] at h2;cases h2;exact .inr h3
      · exact .inl (.inr ⟨i,e,by omega,h2,h3⟩)
  · rintro ((h | ⟨i,e,h1,h2,h3⟩) | h)
    · exact .inl h
    · exact .inr ⟨i,e,by omega,h2,h3⟩
    · exact .inr ⟨j,d,by omega,hd,h⟩
theorem wrUpto_at {p:Pr} (hm:mayN p = true) (a:Int):WrUpto p p.decls.length a↔WrongAt p a:=by
  unfold WrUpto WrongAt WrongIn
  constructor
  · rintro (h | ⟨i,d,_,h2,h3⟩)
    · exact ⟨hm,.inl h⟩
    · exact ⟨hm,.inr ⟨d,List.mem_of_getElem? h2,h3⟩⟩
  · rintro ⟨_,h | ⟨d,h2,h3⟩⟩
    · exact .inl h
    · obtain ⟨i,hi,rfl⟩:=List.getElem_of_mem h2
      exact .inr ⟨i,_,hi,List.getElem?_eq_getElem hi,h3⟩
theorem wrUpto_le {p:Pr} (hm:mayN p = true) {j:Nat} {a:Int} (h:WrUpto p j a):WrongAt p a:=by
  rcases h with h | ⟨i,d,_,h2,h3⟩
  · exact ⟨hm,.inl h⟩
  · exact ⟨hm,.inr ⟨d,List.mem_of_getElem? h2,h3⟩⟩
def wsel (p:Pr) (w0:World) (d:De) (l:List (WkA p w0)):List Int:=(l.filter fun q=>wrongE p d (exQ p q.num)).map fun q=>(exQ p q.num).pos
theorem wsel_snoc (p:Pr) (w0:World) (d:De) (l:List (WkA p w0)) (q:WkA p w0):wsel p w0 d (l ++ [q]) = wsel p w0 d l ++ if wrongE p d (exQ p q.num) then [(exQ p q.num).pos] else []:=by
  unfold wsel
  rw [List.filter_append,List.map_append]
  cases h:wrongE p d (exQ p q.num) <;> simp [h]
theorem wsel_len (p:Pr) (w0:World) (d:De) (l:List (WkA p w0)):(wsel p w0 d l).length≤l.length:=by
  unfold wsel
  rw [List.length_map]
  exact List.length_filter_le _ _
theorem wsel_mem {p:Pr} {w0:World} {d:De} {l:List (WkA p w0)} {a:Int} (h:a∈wsel p w0 d l):∃ q∈l,∃ x,p.exprs[q.num]? = some x∧wrongE p d x = true∧a = x.pos:=by
  unfold wsel at h
  obtain ⟨q,h1,rfl⟩:=List.mem_map.1 h
  obtain ⟨h2,h3⟩:=List.mem_filter.1 h1
  obtain ⟨x,hx,_⟩:=q.2
  have e:exQ p q.num = x:=by unfold exQ;rw [show p.exprs[q.num]? = some x from hx];rfl
  exact ⟨q,h2,x,hx,by rw [← e];exact h3,by rw [e]⟩
theorem mem_wsel {p:Pr} {w0:World} {d:De} {l:List (WkA p w0)} {k:Nat} {x:Ex} (hk:k∈l.map WkA.num) (hx:p.exprs[k]? = some x) (hw:wrongE p d x = true):x.pos∈wsel p w0 d l:=by
  obtain ⟨q,h1,rfl⟩:=List.mem_map.1 hk
  have e:exQ p q.num = x:=by unfold exQ;rw [hx];rfl
  unfold wsel
  exact List.mem_map.2 ⟨q,List.mem_filter.2 ⟨h1,by rw [e];exact hw⟩,by rw [e]⟩
theorem kept_trans {M:Nat→Prop} {rw:World→Option Nat} {A X Y:World} (h:Kept M rw A X) (h2:Kept M rw X Y):Kept M rw A Y:=by
  refine ⟨Nat.le_trans h.1 h2.1,fun k hk=>?_,fun k hk=>?_⟩
  · rcases h2.2.1 k hk with e | e
    · exact h.2.1 k e
    · exact .inr (Nat.le_trans h.1 e)
  · exact (h2.2.2 k ⟨Nat.lt_of_lt_of_le hk.1 h.1,hk.2.1,fun e=>by
      rcases h.2.1 k e with e2 | e2
      · exact hk.2.2 e2
      · have:=hk.1;omega⟩).trans (h.2.2 k hk)
theorem kept_weak {M M' : Nat→Prop} {rw:World→Option Nat} {A X:World} (h:Kept M rw A X) (hM:∀ k,M k→M' k):Kept M' rw A X:=⟨h.1,h.2.1,fun k hk=>h.2.2 k ⟨hk.1,fun hm=>hk.2.1 (hM k hm),hk.2.2⟩⟩
def WrX (p:Pr) (w0:World) (N:Nat) (T:Value→Nat→Array Value) (q:WkA p w0) (a:Act) (W:World):Prop :=
  ∃ X,N≤X∧W.heap[X]? = some (.cells (exCells (exQ p q.1.1) q.1.2) 59 (0,0))∧a = { tmps:=T (.agg (exCells (exQ p q.1.1) q.1.2)) X,defers:=[] }
structure WrL (Mx:Nat→Prop) (rw:World→Option Nat) (W V4:World) (b ne:Nat) (p:Pr) (J:List Int→World→Prop) (j:Nat) (pre:List Int) (Ds:List Nat) (X:World):Prop where
  hj:J pre X
  kept:Kept (fun k=>Mx k∨k = b) rw V4 X
  marks:MarksLe X b ne (j:Int)
  spec:∀ a,a∈pre↔WrUpto p j a
  len:pre.length≤61+j*902
  nodup:Ds.Nodup
  ds:∀ D∈Ds,(W.heap.size≤D∧D < X.heap.size)∧X.heap[D]? = some (.deferred (some []))
set_option maxHeartbeats 16000000 in
set_option maxRecDepth 100000 in
theorem wrong_core (p:Pr) (o1 o2:Option Addr) (nd c1 ne c2 B:Nat) (hnd:Hid (p.decls.length = nd)) (hne:Hid (p.exprs.length = ne)) (nel:(ne:Int)≤300) (ndl:(nd:Int)≤60) (w0:World) (M:Nat→Prop) (rw:World→Option Nat) (w:World) (hB0:Hid (Below w0.heap.size w0 w)) (hBa:Hid (Base w0 M rw w)) (hN:Hid (Near M rw w))
    (hS:Hid (Still M rw w B)) (hBc:Hid (w.heap[B]? = some (.cells #[.slice o1 nd c1,.slice o2 ne c2] 25 (0,0)))) (db doff:Nat) (hd:Hid (0 < nd→o1 = some ⟨db,doff,none⟩)) (hdc:Hid (∀ i,i < nd→∀ x,p.decls[i]? = some x→DeAt w0 db (doff+i*7) x)) (hP:Hid (ProgAt w0 (.slice o1 nd c1) (.slice o2 ne c2) p)) (hsm:Hid (Small p)) (lp:Nat) (J Jx:List Int→World→Prop)
    (W:World) (hW:Hid (Below w.heap.size w W)) (hJ:Hid (AbidesE rw (fun _=>False) W.heap.size J)) (hJx:Hid (AbidesE rw (fun _=>False) W.heap.size Jx)) (hJr:Hid (Rowed rw J))
    (hY:Hid (∀ pre (v:Int) X,J pre X→pre.length < 60000→YieldAt Fence.wide 5 Tryz.prog lp #[.int .i64 v] X fun r Y =>
      (r = .returned (.bool true)∧J (pre ++ [v]) Y∧KeepX M rw w.heap.size W.heap.size X Y)∨(r = .returned (.bool false)∧Jx (pre ++ [v]) Y∧KeepsFrom W.heap.size X Y)))
    (h0:Hid (J [] W)) :
    CallsIn Fence.wide 6 Tryz.prog 54 #[.func (.yield lp) #[] #[],.pointer (some ⟨B,0,none⟩)] W fun r Y=>(∃ v,r = .returned v) ∧
      ((∃ ys:List Int,(∀ a,a∈ys↔WrongAt p a)∧J ys Y)∨(∃ pre:List Int,(∀ a∈pre,WrongAt p a)∧Jx pre Y)):=by
  have hBW:=(hW.out.block _ hS.out.1).trans hBc.out
  have hw0:=hid (hB0.out.trans (hW.out.mono hB0.out.size))
  have MA:=hid (fun X (hX:Below W.heap.size W X)=>nmMay_any _ _ p X (hP.out.below (hw0.out.trans (hX.mono hw0.out.size))) hsm.out)
  have FA:=hid (fun X (hX:Below W.heap.size W X)=>firstsG_any _ _ p X (hP.out.below (hw0.out.trans (hX.mono hw0.out.size))) hsm.out)
  have b0:=(cells_two (al_old (o:=.cells #[.func (.yield lp) #[] #[]] 100) hBW)).1
  have b1:=(cells_two (al_old (o:=.cells #[.func (.yield lp) #[] #[]] 100) hBW)).2
  have HBa:=hid (below_al (Below.refl W.heap.size W) (.cells #[.func (.yield lp) #[] #[]] 100))
  have HBW:=hid hBW
  clear hBW
  refine callsIn_of_wp_marks Tryz.func54 rfl trivial ?_ rfl
  simp only [Tryz.ntmps54,List.size_toArray,List.length_cons,List.length_nil,Nat.reduceAdd,Nat.reduceSub,Array.replicate_succ,Array.replicate_zero,List.push_toArray,List.append_toArray,List.nil_append,List.cons_append]
  cases hmn:mayN p with
  | false =>
    rw [hmn] at MA
    gi_wp2_with (refine ⟨trivial,?_⟩;gi_at_call 30;((with_reducible refine (callsIn_wide.2 (MA.out _ HBa.out)).mono ?_);rintro e w1 ⟨rfl,hb1⟩;have HB1:=hid (HBa.out.trans (hb1.mono HBa.out.size));clear hb1))
    refine leaves_marks (fun w=>results_none (by kernel_rfl) _ _ _) [] w1 (by simp) (by simp) ?_
    intro Yf e1 e2 e3 e4 e5
    refine ⟨⟨_,rfl⟩,.inl ⟨[],fun a=>⟨(fun h=>by cases h),(fun h=>by have h2:=h.1;rw [hmn] at h2;cases h2)⟩,?_⟩⟩
    exact hJ.out.below (show Below W.heap.size W Yf from ⟨e1.trans HB1.out.os,e2.trans HB1.out.tape,e3.trans HB1.out.output,by rw [e4];exact HB1.out.size,fun k hk=>(e5 k (by simp)).trans (HB1.out.block k hk)⟩) h0.out
  | true =>
    rw [hmn] at MA
    have HMN:=hid hmn
    clear hmn
    gi_wp2_with (first
      | (refine ⟨trivial,?_⟩;gi_at_call 30;((with_reducible refine (callsIn_wide.2 (MA.out _ HBa.out)).mono ?_);rintro e w1 ⟨rfl,hb1⟩;have HB1:=hid (HBa.out.trans (hb1.mono HBa.out.size));obtain ⟨x0,x1⟩:=cells_two ((HB1.out.block _ (lt_of_heap HBW.out)).trans HBW.out);have HYB1:=hid ((hb1.block _ (by simp)).trans (al_new (W:=W) rfl));clear hb1))
      | (refine ⟨trivial,?_⟩;gi_at_call 55;((with_reducible refine (callsIn_wide.2 (FA.out _ HB1.out)).mono ?_);rintro e w2 ⟨mf,rfl,hmf,hm2,hb2⟩;have HM2:=hid hm2;have HMF:=hid hmf;have HB2:=hid (HB1.out.trans (hb2.mono HB1.out.size));obtain ⟨x2,x3⟩:=cells_two (al_old (o:=.cells #[.map (some mf)] 101) ((HB2.out.block _ (lt_of_heap HBW.out)).trans HBW.out));have HYB2:=hid ((hb2.block _ (lt_of_heap HYB1.out)).trans HYB1.out);clear hb2 hm2 hmf))
      | (refine ⟨trivial,?_⟩;gi_at_call 56;((with_reducible refine (callsIn_wide.2 (wrongDecls_any _ _ _ _ _ _ _ _)).mono ?_);rintro e w3 ⟨rfl,rfl⟩)))
    obtain ⟨V3,hV3⟩:∃ V3,V3 = ((w2.alloc (.cells #[.map (some mf)] 101)).alloc (.cells #[.slice o1 nd c1,.slice o2 ne c2] 25)).alloc (.cells #[.map (some mf)] 101):=⟨_,rfl⟩
    have v0:V3.heap[w2.heap.size]? = some (.cells #[.map (some mf)] 101 (0,0)):=by rw [hV3];exact al_old (al_old (al_new rfl))
    have v1:V3.heap[w2.heap.size+1]? = some (.cells #[.slice o1 nd c1,.slice o2 ne c2] 25 (0,0)):=by rw [hV3];exact al_old (al_new (by simp))
    have v2:V3.heap[w2.heap.size+1+1]? = some (.cells #[.map (some mf)] 101 (0,0)):=by rw [hV3];exact al_new (by simp)
    have vb2:Below w2.heap.size w2 V3:=by rw [hV3];exact (((Below.refl _ _).alloc (Nat.le_refl _) _).alloc (by simp) _).alloc (by simp;omega) _
    have vB:=HB2.out.trans (vb2.mono HB2.out.size)
    have vm:=HM2.out.below vb2 HM2.out.lt
    have vy:V3.heap[W.heap.size]? = some (.cells #[.func (.yield lp) #[] #[]] 100 (0,0)):=(vb2.block _ (lt_of_heap HYB2.out)).trans HYB2.out
    have vwB:Below w.heap.size w V3:=hW.out.trans (vB.mono hW.out.size)
    rw [← hV3]
    clear hV3
    obtain ⟨Mx,hMx⟩:∃ Mx,Mx = fun k=>M k∨(w.heap.size≤k∧k < W.heap.size):=⟨_,rfl⟩
    have hr3:rw V3 = rw w:=hN.out.same w V3 fun k hk=>vwB.block k hk
    have NearX:∀ V:World,Below w.heap.size w V→W.heap.size≤V.heap.size→rw V = rw w→Near Mx rw V:=fun V hV hs hr=>⟨fun k hk=>by
        rw [hMx] at hk
        rcases hk with h | h
        · have:=hN.out.old k h;have:=hW.out.size;omega
        · omega,fun k hk=>by rw [hr] at hk;have:=hN.out.row k hk;have:=hW.out.size;omega,fun X Y h=>hN.out.same X Y fun k hk=>h k (Nat.lt_of_lt_of_le hk hV.size)⟩
    have NX3:=hid (NearX V3 vwB vB.size hr3)
    have stillNew:∀ k,W.heap.size≤k→k < V3.heap.size→Still Mx rw V3 k:=fun k h1 h2=>⟨h2,fun h=>by
        rw [hMx] at h
        rcases h with h | h
        · have:=hN.out.old k h;have:=hW.out.size;omega
        · omega,fun h=>by rw [hr3] at h;have:=hN.out.row k h;have:=hW.out.size;omega⟩
    have stillOld:∀ k,Still M rw w k→Still Mx rw V3 k:=fun k h=>⟨Nat.lt_of_lt_of_le h.1 vwB.size,fun h2=>by
        rw [hMx] at h2
        rcases h2 with h2 | h2
        · exact h.2.1 h2
        · have:=h.1;omega,fun h2=>by rw [hr3] at h2;exact h.2.2 h2⟩
    have hwW:=hW.out.size
    have PS:PrSrc Mx rw V3 p (w2.heap.size+1) (w2.heap.size+1+1) mf p.decls.length:=by
      have hs2:=HB2.out.size
      refine ⟨⟨_,_,v1,?_⟩,stillNew _ (by omega) (lt_of_heap v1),stillNew _ (by omega) (lt_of_heap v2),stillNew _ (by have:=HMF.out;have:=HB1.out.size;omega) vm.lt,v2,vm⟩
      have hb3:=hB0.out.trans (vwB.mono hB0.out.size)
      refine hP.out.1.mono fun b o i hi h=>⟨?_,fun x hx=>(h x hx).below hb3⟩
      obtain ⟨x,hx⟩:∃ x,p.decls[i]? = some x:=⟨_,List.getElem?_eq_getElem hi⟩
      obtain ⟨_,_,e0,_⟩:=h x hx
      have hlt:b < w0.heap.size:=World.block_lt_of_cell? _ _ e0
      exact stillOld b ⟨Nat.lt_of_lt_of_le hlt hB0.out.size,(hBa.out.free b hlt).1,(hBa.out.free b hlt).2⟩
    have HPS:=hid PS
    have VB:=hid vB
    have VWB:=hid vwB
    have HR3:=hid hr3
    have V0:=hid v0
    have VY:=hid vy
    have VM:=hid vm
    have SNEW:=hid stillNew
    have SOLD:=hid stillOld
    have NEARX:=hid NearX
    clear v0 v1 v2 vb2 vm vB vy vwB hr3 stillNew stillOld PS NearX hwW b0 b1 x0 x1 x2 x3
    have hAb:Hid (∀ V:World,W.heap.size≤V.heap.size→AbidesE rw (fun _=>False) V.heap.size (fun (pre:List Int) X=>J pre X∧Kept Mx rw V X)):=hid fun V hV s X Y row h hg hr=>⟨hJ.out s X Y row h.1 hg fun r e=>⟨(hr r e).1.imp (Nat.le_trans hV) id,(hr r e).2⟩,kept_abides (β:=Unit) (M:=Mx) (E:=fun _=>False) (V:=V) (fun A C hAC=>hN.out.same A C fun k hk=>hAC k (by have:=hW.out.size;omega) (fun h=>h)) (fun k h=>h.elim) () X Y row h.2 hg hr⟩
    refine wpIn_range_x (α:=Int) rfl (by decide) (gf:=87) (lb:=#[.pointer (some ⟨w2.heap.size+1,0,none⟩),.pointer (some ⟨w2.heap.size+1+1,0,none⟩)]) rfl trivial (enters_of Tryz.func87 (by kernel_rfl) rfl)
      (wrongDecls_seq 5 p _ _ mf _ (fun _=>False) Mx rw V3 (by rw [hnd.out];omega) NX3.out HPS.out) (fun _ _ _ _ _ h=>h) NX3.out (fun _ h=>h.elim) (fun _=>rfl)
      (fun pre X=>J pre X∧Kept Mx rw V3 X) (fun c pre X=>c = .ret∧Jx pre X) (hAb.out V3 VB.out.size) (fun c s X Y row h hg hr=>⟨h.1,hJx.out s X Y row h.2 hg fun r e=>⟨(hr r e).1.imp (Nat.le_trans VB.out.size) id,(hr r e).2⟩⟩) (fun s X h=>hJr.out s X h.1)
      ⟨hJ.out.below VB.out h0.out,Kept.start NX3.out (Below.refl _ _)⟩
      (fun v a' _=>a' = { tmps:=#[.func (.yield lp) #[] #[],.pointer (some ⟨B,0,none⟩),.pointer (some ⟨W.heap.size,0,none⟩),.pointer (some ⟨w2.heap.size,0,none⟩),.int .i64 v,undef,undef,undef,undef,undef,undef,(.agg #[.slice o1 nd c1,.slice o2 ne c2]),.bool true,.bool false,(.agg #[.slice o1 nd c1,.slice o2 ne c2]),.map (some mf),(.agg #[.slice o1 nd c1,.slice o2 ne c2]),.map (some mf),.func (.func 87) #[] #[.pointer (some ⟨w2.heap.size+1,0,none⟩),.pointer (some ⟨w2.heap.size+1+1,0,none⟩)],.int .i64 v,undef,undef,undef,undef,undef,undef,undef,undef,undef,undef,undef,undef,undef,undef,undef,undef,undef,undef,undef,undef,undef,undef,undef,undef,undef,undef,undef,undef,undef,undef,undef,undef,undef,undef,undef,undef,undef,undef,undef,undef,undef],defers:=[] }) (fun v a' Z l o o' _ _ _ h=>h) ?assign ?body ?done ?stop
    case assign =>
      rintro lp' pre v X K hi hs hK
      gi_wp2
      exact hK _ _ (Below.refl _ _) rfl
    case body =>
      rintro lp' pre v a' X hs ⟨hj,hk⟩ rfl hlt
      have yb:=cell_sole ((hk.2.2 _ (SNEW.out _ (Nat.le_refl _) (lt_of_heap VY.out))).trans VY.out)
      have hpl:pre.length < 60000:=by have:=declsW_len p;have:=hnd.out;omega
      obtain ⟨fn,tmps,assign,body,hy,hR⟩:=YieldAt.deep (F:=Fence.wide) rfl 3 (hY.out pre v X hj hpl)
      have hy' : (Instr.yield lp #[.int .i64 v]).run Tryz.prog X = .ok (.round lp fn tmps assign body) X:=hy
      have HRd:=hid hR
      have HJK:=hid (And.intro hj hk)
      clear hy hR hj hk hlt hpl hs
      gi_wp2
      refine HRd.out.mono ?_
      rintro e X' (⟨rfl,h1,h2⟩ | ⟨rfl,h1,h2⟩)
      · have HX:=hid (And.intro h1 h2)
        clear h1 h2 yb hy'
        gi_wp2
        obtain ⟨n1,n2⟩:=nest_round hN.out.old hW.out.size VB.out.size (hJr.out _ _ HJK.out.1) HX.out.2
        rw [← hMx] at n2
        exact ⟨n1,n2,HX.out.1,HJK.out.2.keepx n2⟩
      · have HX:=hid (And.intro h1 h2)
        clear h1 h2 yb hy'
        gi_wp2
        exact ⟨keeps_later HX.out.2 VB.out.size,rfl,HX.out.1⟩
    case stop =>
      rintro D0 c pre Y hD hpre ⟨rfl,hjx⟩ hmark
      have HX:=hid (show _∧_∧_∧_ from ⟨hD,hpre,hjx,hmark⟩)
      clear hD hpre hjx hmark
      dsimp only
      gi_wp2_with fail
      refine leaves_puts (fun w=>results_none (by kernel_rfl) _ _ _) [D0] Y (by simp) (by simpa using HX.out.2.2.2) ?_
      exact ⟨⟨_,rfl⟩,.inr ⟨pre,fun a ha=>⟨HMN.out,.inl (HX.out.2.1.subset ha)⟩,abides_puts hJx.out pre [D0] Y (by simp) (by simpa using ⟨Nat.le_trans VB.out.size HX.out.1,HX.out.2.2.2⟩) HX.out.2.2.1⟩⟩
    case done =>
      rintro D0 ys Y hD hys ⟨hj,hk⟩ hmark
      have hBY:Y.heap[B]? = some (.cells #[.slice o1 nd c1,.slice o2 ne c2] 25 (0,0)):=(hk.2.2 B (SOLD.out B hS.out)).trans ((VWB.out.block B hS.out.1).trans hBc.out)
      obtain ⟨b0,b1⟩:=cells_two hBY
      have WA:=hid (walkerF_any o1 o2 nd c1 ne c2 (by omega) Y)
      have HBY:=hid hBY
      have HD:=hid (show V3.heap.size≤D0∧ys = declsW p∧J ys Y∧Kept Mx rw V3 Y∧Y.heap[D0]? = some (.deferred (some [])) from ⟨hD,hys,hj,hk,hmark⟩)
      clear hD hys hj hk hmark hBY
      dsimp only
      gi_wp2_with (refine ⟨trivial,?_⟩;gi_at_call 57;((with_reducible refine (callsIn_wide.2 WA.out).mono ?_);rintro e w4 ⟨rfl,h1,h2,h3,h4⟩;have HW4:=hid (And.intro h1 (And.intro h2 (And.intro h3 h4)));obtain ⟨b2,b3⟩:=cells_two ((h4.block _ (lt_of_heap HBY.out)).trans HBY.out);clear h1 h2 h3 h4))
      obtain ⟨hD,hys,hj,hk,hmark⟩:=HD.out
      obtain ⟨g1,g2,g3,g4⟩:=HW4.out
      have hk4:Kept Mx rw w4 w4:=Kept.start (M:=Mx) (rw:=rw) ⟨fun k h=>Nat.lt_of_lt_of_le (NX3.out.old k h) (Nat.le_trans hk.1 g4.size),fun k h=>by
        rw [hN.out.same Y w4 fun i hi=>g4.block i (by have:=hW.out.size;have:=VB.out.size;have:=hk.1;omega)] at h
        obtain ⟨o,h1,_⟩:=hJr.out _ _ hj k h
        exact Nat.lt_of_lt_of_le (lt_of_heap h1) g4.size,fun X Z h=>hN.out.same X Z fun i hi=>h i (by have:=hW.out.size;have:=VB.out.size;have:=hk.1;have:=g4.size;omega)⟩ (Below.refl _ _)
      have L0:WrL Mx rw W w4 (Y.heap.size+1) ne p J 0 ys [D0] w4:=⟨hJ.out.below g4 hj,⟨hk4.1,hk4.2.1,fun k h=>rfl⟩,g3,fun a=>by
          rw [hys]
          exact ⟨fun h=>.inl h,fun h=>h.elim id fun ⟨i,_,hi,_⟩=>by omega⟩,by
          rw [hys];have:=declsW_len p;have:=hnd.out;omega,by simp,fun D h=>by
          rw [List.mem_singleton.1 h]
          have h1:=(g4.block D0 (lt_of_heap hmark)).trans hmark
          exact ⟨⟨Nat.le_trans VB.out.size hD,lt_of_heap h1⟩,h1⟩⟩
      have HL0:=hid L0
      clear hD hys hj hk hmark g1 g2 g3 g4 hk4 L0 b0 b1 b2 b3
      refine wpIn_loop (fun a' X=>∃ (j:Nat) (pre:List Int) (Ds:List Nat) (u6 u7 u8 u9 u10 u30 u31 u32 u33 u34 u35 u36 u37 u38 u39 u40 u41 u42 u43 u44 u45 u46 u47 u48 u49 u50 u51 u52 u53 u54 u55 u56 u57 u58 u59 u60:Value),a' = { tmps:=#[.func (.yield lp) #[] #[],.pointer (some ⟨B,0,none⟩),.pointer (some ⟨W.heap.size,0,none⟩),.pointer (some ⟨w2.heap.size,0,none⟩),undef,.func (.func 88) #[] #[.pointer (some ⟨Y.heap.size,0,none⟩),.pointer (some ⟨Y.heap.size+1+1,0,none⟩)],u6,u7,u8,u9,u10,(.agg #[.slice o1 nd c1,.slice o2 ne c2]),.bool true,.bool false,(.agg #[.slice o1 nd c1,.slice o2 ne c2]),.map (some mf),(.agg #[.slice o1 nd c1,.slice o2 ne c2]),.map (some mf),.func (.func 87) #[] #[.pointer (some ⟨w2.heap.size+1,0,none⟩),.pointer (some ⟨w2.heap.size+1+1,0,none⟩)],undef,undef,undef,undef,undef,(.agg #[.slice o1 nd c1,.slice o2 ne c2]),.func (.func 88) #[] #[.pointer (some ⟨Y.heap.size,0,none⟩),.pointer (some ⟨Y.heap.size+1+1,0,none⟩)],.pointer (some ⟨B,0,none⟩),.slice o1 nd c1,.int .i64 (nd:Int),.int .i64 (j:Int),u30,u31,u32,u33,u34,u35,u36,u37,u38,u39,u40,u41,u42,u43,u44,u45,u46,u47,u48,u49,u50,u51,u52,u53,u54,u55,u56,u57,u58,u59,u60],defers:=markL Ds }∧j≤nd∧Hid (WrL Mx rw W w4 (Y.heap.size+1) ne p J j pre Ds X)) (fun a' _=>nd - litLen (a'.tmps.getD 29 undef)) ⟨0,ys,[D0],_,_,_,_,_,_,_,_,_,_,_,_,_,_,_,_,_,_,_,_,_,_,_,_,_,_,_,_,_,_,_,_,_,_,_,_,rfl,Nat.zero_le _,HL0⟩ ?_
      clear HL0
      rintro a' X ⟨j,pre,Ds,u6,u7,u8,u9,u10,u30,u31,u32,u33,u34,u35,u36,u37,u38,u39,u40,u41,u42,u43,u44,u45,u46,u47,u48,u49,u50,u51,u52,u53,u54,u55,u56,u57,u58,u59,u60,rfl,hjn,hl⟩
      rcases Nat.lt_or_ge j nd with hlt | hge
      · have hlt' : (j:Int) < (nd:Int):=by omega
        obtain ⟨d,hdj⟩:∃ d,p.decls[j]? = some d:=⟨_,List.getElem?_eq_getElem (by rw [hnd.out];exact hlt)⟩
        have HDJ:=hid hdj
        have hYw:W.heap.size≤Y.heap.size:=Nat.le_trans VB.out.size HD.out.2.2.2.1.1
        have hw4:Below Y.heap.size Y w4:=HW4.out.2.2.2
        have hY4:Y.heap.size≤w4.heap.size:=hw4.size
        have HSZ:=hid (And.intro hYw hY4)
        have rw4:∀ k,rw w4 = some k→k < Y.heap.size:=fun k h=>by
          rw [hN.out.same Y w4 fun i hi=>hw4.block i (by have:=hW.out.size;omega)] at h
          obtain ⟨o,h1,_⟩:=hJr.out _ _ HD.out.2.2.1 k h
          exact lt_of_heap h1
        have mxW:∀ k,Mx k→k < W.heap.size:=fun k h=>by
          rw [hMx] at h
          rcases h with h | h
          · have:=hN.out.old k h;have:=hW.out.size;omega
          · exact h.2
        have MXW:=hid mxW
        have keptV:∀ k,k < w4.heap.size→¬ Mx k→k≠Y.heap.size+1→rw w4≠some k→X.heap[k]? = w4.heap[k]?:=fun k h1 h2 h3 h4=>hl.out.kept.2.2 k ⟨h1,fun h=>h.elim h2 h3,h4⟩
        have hOld:Old w0 X:=by
          refine ⟨Nat.le_trans hBa.out.lies.1 (Nat.le_trans hW.out.size (Nat.le_trans hYw (Nat.le_trans hY4 hl.out.kept.1))),fun k hk=>?_⟩
          have h1:=(hBa.out.free k hk)
          have h2:k < w.heap.size:=Nat.lt_of_lt_of_le hk hBa.out.lies.1
          have s3:=SOLD.out k ⟨h2,h1.1,h1.2⟩
          have e3:=HD.out.2.2.2.1.2.2 k s3
          have e4:=hw4.block k (by have:=hW.out.size;omega)
          have r4:rw w4≠some k:=fun h=>by
            rw [hN.out.same Y w4 fun i hi=>hw4.block i (by have:=hW.out.size;omega)] at h
            rcases HD.out.2.2.2.1.2.1 k h with h5 | h5
            · exact s3.2.2 h5
            · have:=s3.1;omega
          exact (keptV k (by have:=hW.out.size;omega) s3.2.1 (by have:=hW.out.size;omega) r4).trans (e4.trans (e3.trans ((VWB.out.block k h2).trans (hBa.out.lies.2 k hk))))
        have HOLD:=hid hOld
        have lay:∀ k o,W.heap.size≤k→k < V3.heap.size→V3.heap[k]? = some o→X.heap[k]? = some o:=fun k o h1 h2 h3=>by
          have e3:=HD.out.2.2.2.1.2.2 k (SNEW.out k h1 h2)
          have e4:=hw4.block k (by have:=HD.out.2.2.2.1.1;omega)
          have r4:rw w4≠some k:=fun h=>by
            rw [hN.out.same Y w4 fun i hi=>hw4.block i (by have:=hW.out.size;omega)] at h
            rcases HD.out.2.2.2.1.2.1 k h with h5 | h5
            · exact (SNEW.out k h1 h2).2.2 h5
            · omega
          exact (keptV k (by have:=HD.out.2.2.2.1.1;omega) (fun h=>by have:=mxW k h;omega) (by have:=HD.out.2.2.2.1.1;omega) r4).trans (e4.trans (e3.trans h3))
        have lay4:∀ k o,Y.heap.size≤k→k≠Y.heap.size+1→w4.heap[k]? = some o→X.heap[k]? = some o:=fun k o h1 h2 h3=>(keptV k (lt_of_heap h3) (fun h=>by have:=mxW k h;omega) h2 (fun h=>by have:=rw4 k h;omega)).trans h3
        have XY:=hid (lay _ _ (Nat.le_refl _) (lt_of_heap VY.out) VY.out)
        have X3:=hid (lay _ _ (by have:=HB2.out.size;omega) (lt_of_heap V0.out) V0.out)
        have XM:Hid (MapIs X 9 mf p.decls.length (strF (firL p.decls))):=hid (by
          obtain ⟨es,cl,h1⟩:=VM.out.map
          exact VM.out.same ((lay _ _ (by have:=HMF.out;have:=HB1.out.size;omega) (lt_of_heap h1) h1).trans h1.symm))
        have XP:=hid (lay4 _ _ (Nat.le_refl _) (by omega) HW4.out.1)
        have XQ:=hid (lay4 _ _ (by omega) (by omega) HW4.out.2.1)
        have hBX:X.heap[B]? = some (.cells #[.slice o1 nd c1,.slice o2 ne c2] 25 (0,0)):=by
          have s3:=SOLD.out B hS.out
          have h2:=hS.out.1
          have e3:=HD.out.2.2.2.1.2.2 B s3
          have e4:=hw4.block B (by have:=hW.out.size;omega)
          have r4:rw w4≠some B:=fun h=>by
            rw [hN.out.same Y w4 fun i hi=>hw4.block i (by have:=hW.out.size;omega)] at h
            rcases HD.out.2.2.2.1.2.1 B h with h5 | h5
            · exact s3.2.2 h5
            · have:=s3.1;omega
          exact (keptV B (by have:=hW.out.size;omega) s3.2.1 (by have:=hW.out.size;omega) r4).trans (e4.trans (e3.trans ((VWB.out.block B h2).trans hBc.out)))
        have XB:=hid hBX
        have hrX:∀ k,rw X = some k→k < X.heap.size:=fun k h=>by obtain ⟨o,h1,_⟩:=hJr.out _ _ hl.out.hj k h;exact lt_of_heap h1
        have HRX:=hid hrX
        have hrXold:∀ k,rw X = some k→rw w4 = some k∨w4.heap.size≤k:=hl.out.kept.2.1
        have HRXO:Hid (∀ k,rw X = some k→(k < Y.heap.size∧rw Y = some k)∨w4.heap.size≤k):=hid fun k h=>(hrXold k h).imp (fun h=>⟨rw4 k h,by rwa [hN.out.same Y w4 fun i hi=>hw4.block i (by have:=hW.out.size;omega)] at h⟩) id
        clear hYw hw4 hY4 rw4 mxW keptV hOld lay lay4 hBX hrX hrXold
        have hsd:=hsm.out.de d (List.mem_of_getElem? hdj)
        obtain ⟨sp,st,e0,e1,e2,e3,e4,e5,e6,hps,hts,hok⟩:=hdc.out j hlt d hdj
        have HPS2:=hid hps
        have HTS2:=hid hts
        obtain ⟨op,capp,bp,fp,rfl,_⟩:=id hps
        obtain ⟨oi,capi,bi,fi,rfl,_⟩:=id hts
        have DV0:Hid (DeVal w0 (.agg #[.int .i64 d.kind,.string d.name,.slice op d.params.length capp,.slice oi d.items.length capi,.int .i64 d.type,.int .i64 d.e,.int .i64 d.pos]) d):=hid ⟨_,_,rfl,hps,hts,hok⟩
        have p0:=HOLD.out.cell e0
        have p1:=HOLD.out.cell e1
        have p2:=HOLD.out.cell e2
        have p3:=HOLD.out.cell e3
        have p4:=HOLD.out.cell e4
        have p5:=HOLD.out.cell e5
        have p6:=HOLD.out.cell e6
        have ix:=ix_des (cap:=c1) hd.out hlt (by omega)
        unfold Ix at ix
        have hpl:d.params.length≤600:=by
          have h:=hsd.1
          unfold wDe at h
          omega
        have hst:∀ x∈d.items,x.states.length≤1000:=fun x hx=>by have:=hsd.2.2 x hx;omega
        have HLEN:=hid (show d.params.length≤600∧d.items.length≤600∧∀ x∈d.items,x.states.length≤1000 from ⟨hpl,hsd.2.1,hst⟩)
        have SA:Hid (∀ Z,Below X.heap.size X Z→CallsIn Fence.wide 5 Tryz.prog 58 #[.agg #[.int .i64 d.kind,.string d.name,.slice op d.params.length capp,.slice oi d.items.length capi,.int .i64 d.type,.int .i64 d.e,.int .i64 d.pos]] Z fun r Y=>ScPost d Z r Y):=hid fun Z hZ=>scopeOf_any d _ Z (DV0.out.old (HOLD.out.trans hZ)) (by omega) (by have:=hsd.2.1;omega) hst
        have WI:=hid (fun m1 m2 Z=>wrongItems_any op oi d.params.length capp d.items.length capi m1 m2 d.kind d.type d.e d.pos d.name Z)
        have HBd:=hid (below_al (Below.refl X.heap.size X) (.cells #[.int .i64 d.kind,.string d.name,.slice op d.params.length capp,.slice oi d.items.length capi,.int .i64 d.type,.int .i64 d.e,.int .i64 d.pos] 44))
        clear e0 e1 e2 e3 e4 e5 e6 hps hts hok hpl hst hsd hdj
        gi_wp2_with (first
          | (refine ⟨trivial,?_⟩;gi_at_call 58;((with_reducible refine (callsIn_wide.2 (callsIn_wide.1 (SA.out _ HBd.out))).mono ?_);rintro e w5 ⟨m1,m2,rfl,hm1,hm2,hne5,hsc,hb5⟩;have HSC:=hid (show _∧_∧_∧_ from ⟨hm1,hm2,hne5,hsc⟩);have HB5:=hid hb5;obtain ⟨_,y0,y1,y2,y3,y4,y5,y6⟩:=seven_froz (al_old (o:=.cells #[.map (some m1),.map (some m2)] 109) ((hb5.block _ (by simp)).trans (al_new (W:=X) (o:=.cells #[.int .i64 d.kind,.string d.name,.slice op d.params.length capp,.slice oi d.items.length capi,.int .i64 d.type,.int .i64 d.e,.int .i64 d.pos] 44) rfl)));clear hm1 hm2 hne5 hsc hb5))
          | (refine ⟨trivial,?_⟩;gi_at_call 59;((with_reducible refine (callsIn_wide.2 (WI.out _ _ _)).mono ?_);rintro e w6 ⟨rfl,rfl⟩)))
        obtain ⟨V6,hV6⟩:∃ V6,V6 = ((w5.alloc (.cells #[.map (some m1),.map (some m2)] 109)).alloc (.cells #[.int .i64 d.kind,.string d.name,.slice op d.params.length capp,.slice oi d.items.length capi,.int .i64 d.type,.int .i64 d.e,.int .i64 d.pos] 44)).alloc (.cells #[.map (some m1),.map (some m2)] 109):=⟨_,rfl⟩
        have v0:V6.heap[w5.heap.size]? = some (.cells #[.map (some m1),.map (some m2)] 109 (0,0)):=by rw [hV6];exact al_old (al_old (al_new rfl))
        have v1:V6.heap[w5.heap.size+1]? = some (.cells #[.int .i64 d.kind,.string d.name,.slice op d.params.length capp,.slice oi d.items.length capi,.int .i64 d.type,.int .i64 d.e,.int .i64 d.pos] 44 (0,0)):=by rw [hV6];exact al_old (al_new (by simp))
        have v2:V6.heap[w5.heap.size+1+1]? = some (.cells #[.map (some m1),.map (some m2)] 109 (0,0)):=by rw [hV6];exact al_new (by simp)
        have vb5:Below w5.heap.size w5 V6:=by rw [hV6];exact (((Below.refl _ _).alloc (Nat.le_refl _) _).alloc (by simp) _).alloc (by simp;omega) _
        have vX:Below X.heap.size X V6:=HBd.out.trans ((HB5.out.trans (vb5.mono HB5.out.size)).mono HBd.out.size)
        have vsc:ScAt V6 m1 m2 d:=HSC.out.2.2.2.below vb5
        rw [← hV6]
        clear hV6 y0 y1 y2 y3 y4 y5 y6 p0 p1 p2 p3 p4 p5 p6 ix
        have VX:=hid vX
        have rw6:rw V6 = rw X:=hN.out.same X V6 fun k hk=>vX.block k (by have:=hW.out.size;have:=HSZ.out;have:=hl.out.kept.1;omega)
        have RW6:=hid rw6
        have NEAR:Hid (∀ V,(∀ k,rw V = some k→k < V.heap.size)→W.heap.size≤V.heap.size→Near Mx rw V):=hid fun V h1 h2=>⟨fun k h=>Nat.lt_of_lt_of_le (MXW.out k h) h2,h1,fun A C h=>hN.out.same A C fun k hk=>h k (by have:=hW.out.size;omega)⟩
        have HWX:Hid (W.heap.size≤X.heap.size∧w4.heap.size≤X.heap.size):=hid (by have:=HSZ.out;have:=hl.out.kept.1;omega)
        have N6:=hid (NEAR.out V6 (fun k h=>by rw [rw6] at h;exact Nat.lt_of_lt_of_le (HRX.out k h) vX.size) (Nat.le_trans HWX.out.1 vX.size))
        have B6:Hid (Base w0 Mx rw V6):=hid ⟨HOLD.out.trans vX,fun k hk=>⟨fun h=>by
            rw [hMx] at h
            rcases h with h | h
            · exact (hBa.out.free k hk).1 h
            · have:=hBa.out.lies.1;omega,fun h=>by
            rw [rw6] at h
            rcases HRXO.out k h with ⟨_,h5⟩ | h5
            · rcases HD.out.2.2.2.1.2.1 k h5 with h6 | h6
              · rw [HR3.out] at h6;exact (hBa.out.free k hk).2 h6
              · have:=hBa.out.lies.1;have:=VWB.out.size;omega
            · have:=hBa.out.lies.1;have:=hW.out.size;have:=HSZ.out;omega⟩⟩
        have own6:∀ k,X.heap.size≤k→k < V6.heap.size→Still Mx rw V6 k:=fun k h1 h2=>⟨h2,fun h=>by have:=MXW.out k h;have:=HWX.out;omega,fun h=>by rw [rw6] at h;have:=HRX.out k h;omega⟩
        have sm1:=own6 m1 (by have:=HSC.out.1;simp at this;omega) vsc.vars.lt
        have sm2:=own6 m2 (by have:=HSC.out.2.1;simp at this;omega) vsc.states.lt
        have hs5:X.heap.size≤w5.heap.size:=Nat.le_trans HBd.out.size HB5.out.size
        have WI6:=hid (wrongItems_seq 5 d _ _ (w5.heap.size+1) (w5.heap.size+1+1) m1 m2 w0 (fun _=>False) Mx rw V6 N6.out B6.out HPS2.out HTS2.out (by have:=HLEN.out.1;omega) (by have:=HLEN.out.2.1;omega) HLEN.out.2.2 ⟨own6 _ (by omega) (lt_of_heap v1),own6 _ (by omega) (lt_of_heap v2),sm1,sm2⟩ v1 v2 vsc (scOk_of DV0.out (by have:=HLEN.out.1;omega) (by have:=HLEN.out.2.1;omega)))
        have V60:=hid (show V6.heap[w5.heap.size]? = some (.cells #[.map (some m1),.map (some m2)] 109 (0,0))∧ScAt V6 m1 m2 d∧X.heap.size≤w5.heap.size∧X.heap.size≤m1∧X.heap.size≤m2 from ⟨v0,vsc,hs5,by have:=HSC.out.1;simp at this;omega,by have:=HSC.out.2.1;simp at this;omega⟩)
        have hY6:=hid (cell_sole ((vX.block _ (lt_of_heap XY.out)).trans XY.out))
        have sY6:Hid (Still Mx rw V6 W.heap.size):=hid ⟨Nat.lt_of_lt_of_le (lt_of_heap XY.out) vX.size,fun h=>by have:=MXW.out _ h;omega,fun h=>by
          rw [rw6] at h
          rcases HRXO.out _ h with ⟨_,h5⟩ | h5
          · rcases HD.out.2.2.2.1.2.1 _ h5 with h6 | h6
            · rw [HR3.out] at h6;have:=hN.out.row _ h6;have:=hW.out.size;omega
            · have:=lt_of_heap VY.out;omega
          · have:=HSZ.out;have:=lt_of_heap VY.out;have:=HD.out.2.2.2.1.1;omega⟩
        have noRow:∀ k,rw V6 = some k→(rw w = some k∨(V3.heap.size≤k∧k < Y.heap.size))∨w4.heap.size≤k:=fun k h=>by
          rw [rw6] at h
          rcases HRXO.out k h with ⟨h4,h5⟩ | h5
          · rcases HD.out.2.2.2.1.2.1 k h5 with h6 | h6
            · exact .inl (.inl (by rw [← HR3.out];exact h6))
            · exact .inl (.inr ⟨h6,h4⟩)
          · exact .inr h5
        have in6:∀ {k o},X.heap[k]? = some o→V6.heap[k]? = some o:=fun {k o} h=>(vX.block k (lt_of_heap h)).trans h
        have stl:∀ {k o},X.heap[k]? = some o→(W.heap.size≤k∨Still M rw w k)→(k < V3.heap.size∨(Y.heap.size≤k∧k < w4.heap.size))→Still Mx rw V6 k:=fun {k o} h h1 h2=>⟨lt_of_heap (in6 h),fun hm=>by
            rcases h1 with h1 | h1
            · have:=MXW.out k hm;omega
            · rw [hMx] at hm
              rcases hm with hm | hm
              · exact h1.2.1 hm
              · have:=h1.1;omega,fun hr=>by
            rcases noRow k hr with (h3 | h3) | h3
            · rcases h1 with h1 | h1
              · have:=hN.out.row k h3;have:=hW.out.size;omega
              · exact h1.2.2 h3
            · omega
            · have:=HSZ.out;have:=HD.out.2.2.2.1.1;omega⟩
        have hV3Y:V3.heap.size≤Y.heap.size:=HD.out.2.2.2.1.1
        have FB:=hid (And.intro (stl XB.out (.inr hS.out) (.inl (Nat.lt_of_lt_of_le hS.out.1 VWB.out.size))) (in6 XB.out))
        have F3:=hid (And.intro (stl X3.out (.inl HB2.out.size) (.inl (lt_of_heap V0.out))) (in6 X3.out))
        have FP:=hid (And.intro (stl XP.out (.inl (by have:=HSZ.out;omega)) (.inr ⟨Nat.le_refl _,by have:=lt_of_heap HW4.out.1;omega⟩)) (in6 XP.out))
        have FQ:=hid (And.intro (stl XQ.out (.inl (by have:=HSZ.out;omega)) (.inr ⟨by omega,by have:=lt_of_heap HW4.out.2.1;omega⟩)) (in6 XQ.out))
        have FM:Hid (Still Mx rw V6 mf∧MapIs V6 9 mf p.decls.length (strF (firL p.decls))):=hid (by
          obtain ⟨es,cl,h1⟩:=XM.out.map
          exact ⟨stl h1 (.inl (by have:=HMF.out;have:=HB1.out.size;omega)) (.inl VM.out.lt),XM.out.same ((in6 h1).trans h1.symm)⟩)
        have FK:Hid (Still Mx rw V6 (Y.heap.size+1)∧MarksLe V6 (Y.heap.size+1) ne (j:Int)):=hid (by
          obtain ⟨cs,h1,_⟩:=id hl.out.marks
          exact ⟨stl h1 (.inl (by have:=HSZ.out;omega)) (.inr ⟨by omega,by have:=lt_of_heap HW4.out.2.1;omega⟩),hl.out.marks.same ((in6 h1).trans h1.symm)⟩)
        have FS:=hid (show Still Mx rw V6 w5.heap.size∧Still Mx rw V6 m1∧Still Mx rw V6 m2 from ⟨own6 _ hs5 (lt_of_heap v0),sm1,sm2⟩)
        have HDS6:Hid (∀ D∈Ds,Still Mx rw V6 D∧V6.heap[D]? = some (.deferred (some []))):=hid fun D hD=>by
          obtain ⟨⟨h1,h2⟩,h3⟩:=hl.out.ds D hD
          refine ⟨⟨Nat.lt_of_lt_of_le h2 vX.size,fun h=>by have:=MXW.out D h;omega,fun h=>?_⟩,in6 h3⟩
          rw [rw6] at h
          obtain ⟨o,h4,h5⟩:=hJr.out _ _ hl.out.hj D h
          rw [h3] at h4;cases h4;cases h5
        have HDB:Hid (∀ D∈Ds,D≠Y.heap.size+1):=hid fun D hD e=>by
          obtain ⟨cs,h1,_⟩:=id hl.out.marks
          have h3:=(hl.out.ds D hD).2
          rw [e,h1] at h3;cases h3
        clear v0 v1 v2 vb5 vX vsc rw6 own6 sm1 sm2 hs5 noRow in6 stl hV3Y
        have HJ6:Hid (J pre V6):=hid (hJ.out.below VX.out hl.out.hj)
        have hpre2:Hid (pre.length≤61+j*902∧j≤60):=hid ⟨hl.out.len,by omega⟩
        refine wpIn_range_x (α:=Int) rfl (by decide) (gf:=91) (lb:=#[.pointer (some ⟨w5.heap.size+1,0,none⟩),.pointer (some ⟨w5.heap.size+1+1,0,none⟩)]) rfl trivial (enters_of Tryz.func91 (by kernel_rfl) rfl)
          WI6.out (fun _ _ _ _ _ h=>h) N6.out (fun _ h=>h.elim) (fun _=>rfl)
          (fun qs Z=>J (pre ++ qs) Z∧Kept Mx rw V6 Z) (fun c qs Z=>c = .ret∧Jx (pre ++ qs) Z∧∀ D∈Ds,Z.heap[D]? = some (.deferred (some []))) (fun s A C row h hg hr=>⟨hJ.out _ A C row h.1 hg fun r e=>⟨(hr r e).1.imp (Nat.le_trans (Nat.le_trans HWX.out.1 VX.out.size)) id,(hr r e).2⟩,(kept_abides (β:=Unit) (M:=Mx) (E:=fun _=>False) (V:=V6) (fun A C hAC=>hN.out.same A C fun k hk=>hAC k (by have:=hW.out.size;have:=HWX.out;have:=VX.out.size;omega) (fun h=>h)) (fun k h=>h.elim) () A C row h.2 hg hr)⟩)
          (fun c s A C row h hg hr=>⟨h.1,hJx.out _ A C row h.2.1 hg fun r e=>⟨(hr r e).1.imp (Nat.le_trans (Nat.le_trans HWX.out.1 VX.out.size)) id,(hr r e).2⟩,fun D hD=>(hg.block D (lt_of_heap (h.2.2 D hD)) (fun e=>by rcases (hr D e.symm).1 with h1 | h1;have:=(HDS6.out D hD).1.1;omega;exact h1)).trans (h.2.2 D hD)⟩) (fun s A h=>hJr.out _ A h.1)
          ⟨by rw [List.append_nil];exact HJ6.out,Kept.start N6.out (Below.refl _ _)⟩
          (fun v a' _=>a' = { tmps:=#[.func (.yield lp) #[] #[],.pointer (some ⟨B,0,none⟩),.pointer (some ⟨W.heap.size,0,none⟩),.pointer (some ⟨w2.heap.size,0,none⟩),undef,.func (.func 88) #[] #[.pointer (some ⟨Y.heap.size,0,none⟩),.pointer (some ⟨Y.heap.size+1+1,0,none⟩)],.int .i64 (j:Int),.pointer (some ⟨X.heap.size,0,none⟩),.pointer (some ⟨w5.heap.size,0,none⟩),.int .i64 v,u10,(.agg #[.slice o1 nd c1,.slice o2 ne c2]),.bool true,.bool false,(.agg #[.slice o1 nd c1,.slice o2 ne c2]),.map (some mf),(.agg #[.slice o1 nd c1,.slice o2 ne c2]),.map (some mf),.func (.func 87) #[] #[.pointer (some ⟨w2.heap.size+1,0,none⟩),.pointer (some ⟨w2.heap.size+1+1,0,none⟩)],undef,undef,undef,undef,undef,(.agg #[.slice o1 nd c1,.slice o2 ne c2]),.func (.func 88) #[] #[.pointer (some ⟨Y.heap.size,0,none⟩),.pointer (some ⟨Y.heap.size+1+1,0,none⟩)],.pointer (some ⟨B,0,none⟩),.slice o1 nd c1,.int .i64 (nd:Int),.int .i64 (j:Int),.bool true,.int .i64 (j:Int),.pointer (some ⟨db,doff+j*7,none⟩),.agg #[.int .i64 d.kind,.string d.name,.slice op d.params.length capp,.slice oi d.items.length capi,.int .i64 d.type,.int .i64 d.e,.int .i64 d.pos],.agg #[.int .i64 d.kind,.string d.name,.slice op d.params.length capp,.slice oi d.items.length capi,.int .i64 d.type,.int .i64 d.e,.int .i64 d.pos],.agg #[.map (some m1),.map (some m2)],.agg #[.int .i64 d.kind,.string d.name,.slice op d.params.length capp,.slice oi d.items.length capi,.int .i64 d.type,.int .i64 d.e,.int .i64 d.pos],.agg #[.map (some m1),.map (some m2)],.func (.func 91) #[] #[.pointer (some ⟨w5.heap.size+1,0,none⟩),.pointer (some ⟨w5.heap.size+1+1,0,none⟩)],.int .i64 v,u40,u41,u42,u43,u44,u45,u46,u47,u48,u49,u50,u51,u52,u53,u54,u55,u56,u57,u58,u59,u60],defers:=[] }) (fun v a' Z l o o' _ _ _ h=>h) ?assign2 ?body2 ?done2 ?stop2
        case assign2 =>
          rintro lp' qs v Z K hi hs hK
          gi_wp2
          exact hK _ _ (Below.refl _ _) rfl
        case body2 =>
          rintro lp' qs v a' Z hs ⟨hj,hk⟩ rfl hlt2
          have yb:Z.cell? ⟨W.heap.size,0,none⟩ = some (.func (.yield lp) #[] #[]):=(cell_same' (hk.2.2 _ sY6.out) _).trans hY6.out
          have hpl:(pre ++ qs).length < 60000:=by have:=itemsW_len d;have:=HLEN.out.2.1;have:=hpre2.out;rw [List.length_append];omega
          obtain ⟨fn,tmps,assign,body,hy,hR⟩:=YieldAt.deep (F:=Fence.wide) rfl 3 (hY.out (pre ++ qs) v Z hj hpl)
          have hy' : (Instr.yield lp #[.int .i64 v]).run Tryz.prog Z = .ok (.round lp fn tmps assign body) Z:=hy
          have HRd:=hid hR
          have HJK:=hid (And.intro hj hk)
          clear hy hR hj hk hlt2 hpl hs
          gi_wp2
          refine HRd.out.mono ?_
          rintro e X' (⟨rfl,h1,h2⟩ | ⟨rfl,h1,h2⟩)
          · have HX:=hid (And.intro h1 h2)
            clear h1 h2 yb hy'
            gi_wp2
            obtain ⟨n1,n2⟩:=nest_round hN.out.old hW.out.size (Nat.le_trans HWX.out.1 VX.out.size) (hJr.out _ _ HJK.out.1) HX.out.2
            rw [← hMx] at n2
            exact ⟨n1,n2,by rw [← List.append_assoc];exact HX.out.1,HJK.out.2.keepx n2⟩
          · have HX:=hid (And.intro h1 h2)
            clear h1 h2 yb hy'
            gi_wp2
            exact ⟨keeps_later HX.out.2 (Nat.le_trans HWX.out.1 VX.out.size),rfl,by rw [← List.append_assoc];exact HX.out.1,fun D hD=>HX.out.2.same D _ (hl.out.ds D hD).1.1 ((HJK.out.2.2.2 D (HDS6.out D hD).1).trans (HDS6.out D hD).2) rfl⟩
        case stop2 =>
          rintro D1 c qs Z hD1 hpre1 ⟨rfl,hjx,hds⟩ hmark1
          have HX:=hid (show _∧_∧_∧_∧_ from ⟨hD1,hpre1,hjx,hds,hmark1⟩)
          clear hD1 hpre1 hjx hds hmark1
          dsimp only
          gi_wp2_with fail
          have hall:∀ D∈D1 :: Ds,W.heap.size≤D∧Z.heap[D]? = some (.deferred (some [])):=fun D hD=>by
            rcases List.mem_cons.1 hD with rfl | hD
            · exact ⟨by have:=HX.out.1;have:=HWX.out.1;have:=VX.out.size;omega,HX.out.2.2.2.2⟩
            · exact ⟨(hl.out.ds D hD).1.1,HX.out.2.2.2.1 D hD⟩
          have hnd2:(D1 :: Ds).Nodup:=List.nodup_cons.2 ⟨fun h=>by have:=(HDS6.out D1 h).1.1;have:=HX.out.1;omega,hl.out.nodup⟩
          refine leaves_puts (fun w=>results_none (by kernel_rfl) _ _ _) (D1 :: Ds) Z hnd2 (fun D h=>(hall D h).2) ?_
          exact ⟨⟨_,rfl⟩,.inr ⟨pre ++ qs,fun a ha=>by
            rcases List.mem_append.1 ha with h | h
            · exact wrUpto_le HMN.out ((hl.out.spec a).1 h)
            · exact ⟨HMN.out,.inr ⟨d,List.mem_of_getElem? HDJ.out,.inl (HX.out.2.1.subset h)⟩⟩,abides_puts hJx.out _ (D1 :: Ds) Z hnd2 hall HX.out.2.2.1⟩⟩
        case done2 =>
          rintro D1 qs Y1 hD1 hqs ⟨hj,hk⟩ hmark1
          have HE:=hid (show V6.heap.size≤D1∧qs = itemsW d∧J (pre ++ qs) Y1∧Kept Mx rw V6 Y1∧Y1.heap[D1]? = some (.deferred (some [])) from ⟨hD1,hqs,hj,hk,hmark1⟩)
          clear hD1 hqs hj hk hmark1
          have W1:=hid (fun Z=>walker1_any Y.heap.size (Y.heap.size+1+1) (j:Int) Z)
          dsimp only
          gi_wp2_with (refine ⟨trivial,?_⟩;gi_at_call 88;((with_reducible refine (callsIn_wide.2 (W1.out _)).mono ?_);rintro e w7 ⟨rfl,rfl⟩))
          obtain ⟨V7,hV7⟩:∃ V7,V7 = Y1.alloc (.cells #[.int .i64 (j:Int)] 3):=⟨_,rfl⟩
          have vb:Below Y1.heap.size Y1 V7:=by rw [hV7];exact below_al (Below.refl _ _) _
          have vd:V7.heap[Y1.heap.size]? = some (.cells #[.int .i64 (j:Int)] 3 (0,0)):=by rw [hV7];exact al_new rfl
          rw [← hV7]
          clear hV7
          obtain ⟨b,hbd⟩:∃ b,b = Y.heap.size+1:=⟨_,rfl⟩
          have hV67:V6.heap.size≤V7.heap.size:=Nat.le_trans HE.out.2.2.2.1.1 vb.size
          have hWV7:W.heap.size≤V7.heap.size:=Nat.le_trans HWX.out.1 (Nat.le_trans VX.out.size hV67)
          have rw7:rw V7 = rw Y1:=hN.out.same Y1 V7 fun k hk=>vb.block k (by have:=hW.out.size;have:=HE.out.2.2.2.1.1;have:=HWX.out;have:=VX.out.size;omega)
          have row7:∀ k,rw V7 = some k→k < V7.heap.size:=fun k h=>by
            rw [rw7] at h
            obtain ⟨o,h1,_⟩:=hJr.out _ _ HE.out.2.2.1 k h
            exact Nat.lt_of_lt_of_le (lt_of_heap h1) vb.size
          have row67:∀ k,rw V7 = some k→rw V6 = some k∨V6.heap.size≤k:=fun k h=>HE.out.2.2.2.1.2.1 k (by rwa [rw7] at h)
          have N7:=hid (NEAR.out V7 row7 hWV7)
          have still7:∀ {k},Still Mx rw V6 k→Still Mx rw V7 k:=fun {k} h=>⟨Nat.lt_of_lt_of_le h.1 hV67,h.2.1,fun e=>by rcases row67 k e with h1 | h1;exact h.2.2 h1;have:=h.1;omega⟩
          have in7:∀ {k o},Still Mx rw V6 k→V6.heap[k]? = some o→V7.heap[k]? = some o:=fun {k o} h ho=>(vb.block k (Nat.lt_of_lt_of_le h.1 HE.out.2.2.2.1.1)).trans ((HE.out.2.2.2.1.2.2 k h).trans ho)
          have B7:Hid (Base w0 Mx rw V7):=hid ⟨⟨Nat.le_trans B6.out.lies.1 hV67,fun k hk=>by
              have h1:=B6.out.free k hk
              have hs:Still Mx rw V6 k:=⟨Nat.lt_of_lt_of_le hk B6.out.lies.1,h1.1,h1.2⟩
              exact (vb.block k (Nat.lt_of_lt_of_le hs.1 HE.out.2.2.2.1.1)).trans ((HE.out.2.2.2.1.2.2 k hs).trans (B6.out.lies.2 k hk))⟩,fun k hk=>⟨(B6.out.free k hk).1,(still7 ⟨Nat.lt_of_lt_of_le hk B6.out.lies.1,(B6.out.free k hk).1,(B6.out.free k hk).2⟩).2.2⟩⟩
          have hmk7:MarksLe V7 b ne (j:Int):=by
            rw [hbd]
            obtain ⟨cs,h1,_⟩:=id FK.out.2
            exact FK.out.2.same ((in7 FK.out.1 h1).trans h1.symm)
          have sD:Still Mx rw V7 Y1.heap.size:=⟨lt_of_heap vd,fun h=>by have:=MXW.out _ h;have:=HE.out.2.2.2.1.1;have:=HWX.out;have:=VX.out.size;omega,fun h=>by
            rw [rw7] at h
            obtain ⟨o,h1,_⟩:=hJr.out _ _ HE.out.2.2.1 _ h
            have:=lt_of_heap h1;omega⟩
          have sb7:=still7 FK.out.1
          rw [← hbd] at sb7
          have hmayP:mayP p = true:=by have h:=HMN.out;unfold mayN at h;rw [Bool.and_eq_true] at h;exact h.2
          have hbY1:b < Y1.heap.size:=by rw [hbd];exact Nat.lt_of_lt_of_le FK.out.1.1 HE.out.2.2.2.1.1
          have WS:=hid (walker_seq 5 p d j (.slice o1 nd c1) (.slice o2 ne c2) Y.heap.size Y1.heap.size (Y.heap.size+1+1) b HDJ.out w0 Mx rw V7 B7.out N7.out.old sb7.2.1 N7.out.row sb7.2.2 (fun A C h=>hN.out.same A C fun k hk=>h k (by have:=hW.out.size;omega) (by have:=HSZ.out;have:=hW.out.size;omega))
            ⟨⟨still7 FP.out.1,by omega⟩,⟨sD,by omega⟩,⟨still7 FQ.out.1,by omega⟩⟩ ⟨sb7.1,by have:=hBa.out.lies.1;have:=hW.out.size;have:=HSZ.out;omega⟩ (in7 FP.out.1 FP.out.2) vd (by rw [hne.out];exact (by rw [hbd];exact in7 FQ.out.1 FQ.out.2)) (by rw [hne.out];exact hmk7) hP.out hsm.out hmayP (roots_ok hmayP HDJ.out) ⟨HLEN.out.1,HLEN.out.2.1⟩)
          have HB7:=hid (show _∧_∧_∧_ from ⟨hV67,hWV7,hbY1,vb⟩)
          have IN7:Hid (∀ Z,Kept (fun k=>Mx k∨k = b) rw V7 Z→∀ k o,Still Mx rw V6 k→k≠b→V6.heap[k]? = some o→Z.heap[k]? = some o):=hid fun Z hZ k o h hkb ho=>(hZ.2.2 k ⟨(still7 h).1,fun e=>e.elim h.2.1 hkb,(still7 h).2.2⟩).trans (in7 h ho)
          have HBD:=hid hbd
          have N7b:Hid (Near (fun k=>Mx k∨k = b) rw V7):=hid ⟨fun k h=>h.elim (N7.out.old k) (fun e=>by subst e;exact sb7.1),N7.out.row,N7.out.same⟩
          have B7b:Hid (Base w0 (fun k=>Mx k∨k = b) rw V7):=hid ⟨B7.out.lies,fun k hk=>⟨fun h=>h.elim (B7.out.free k hk).1 (fun e=>by have:=hBa.out.lies.1;have:=hW.out.size;have:=HSZ.out;omega),(B7.out.free k hk).2⟩⟩
          have HJ7:Hid (J (pre ++ qs) V7):=hid (hJ.out.below vb HE.out.2.2.1)
          have HQL:Hid (qs.length≤601):=hid (by rw [HE.out.2.1];have:=itemsW_len d;have:=HLEN.out.2.1;omega)
          have HDS7:Hid (∀ D∈D1 :: Ds,(Still (fun k=>Mx k∨k = b) rw V7 D∧W.heap.size≤D)∧V7.heap[D]? = some (.deferred (some []))):=hid fun D hD=>by
            rcases List.mem_cons.1 hD with rfl | hD
            · have h1:=HE.out.2.2.2.2
              have h2:=(vb.block _ (lt_of_heap h1)).trans h1
              refine ⟨⟨⟨lt_of_heap h2,fun h=>h.elim (fun h=>by have:=MXW.out _ h;have:=HE.out.1;have:=HWX.out;have:=VX.out.size;omega) (fun e=>by have:=FK.out.1.1;have:=HE.out.1;omega),fun h=>?_⟩,by have:=HE.out.1;have:=HWX.out;have:=VX.out.size;omega⟩,h2⟩
              rw [rw7] at h
              obtain ⟨o,h4,h5⟩:=hJr.out _ _ HE.out.2.2.1 _ h
              rw [h1] at h4;cases h4;cases h5
            · have h1:=HDS6.out D hD
              exact ⟨⟨⟨(still7 h1.1).1,fun h=>h.elim h1.1.2.1 (fun e=>HDB.out D hD (by rw [e,hbd])),(still7 h1.1).2.2⟩,(hl.out.ds D hD).1.1⟩,in7 h1.1 h1.2⟩
          have HND:Hid ((D1 :: Ds).Nodup):=hid (List.nodup_cons.2 ⟨fun h=>by have:=(HDS6.out D1 h).1.1;have:=HE.out.1;omega,hl.out.nodup⟩)
          have K7:Hid (Kept (fun k=>Mx k∨k = b) rw w4 V7):=hid (by
            have k1:Kept (fun k=>Mx k∨k = b) rw w4 X:=by rw [hbd];exact hl.out.kept
            have nx:Near (fun k=>Mx k∨k = b) rw X:=⟨fun k h=>h.elim (fun h=>by have:=MXW.out k h;have:=HWX.out;omega) (fun e=>by rw [e,hbd];have:=FK.out.1.1;have:=HWX.out;have:=lt_of_heap HW4.out.2.1;omega),HRX.out,fun A C h=>hN.out.same A C fun k hk=>h k (by have:=hW.out.size;have:=HWX.out;omega)⟩
            have k2:=kept_trans k1 (Kept.start nx VX.out)
            have k3:=kept_trans k2 (kept_weak HE.out.2.2.2.1 (fun k h=>.inl h))
            have ny:Near (fun k=>Mx k∨k = b) rw Y1:=⟨fun k h=>h.elim (fun h=>by have:=MXW.out k h;have:=HE.out.2.2.2.1.1;have:=HWX.out;have:=VX.out.size;omega) (fun e=>by rw [e];exact hbY1),fun k h=>by obtain ⟨o,h1,_⟩:=hJr.out _ _ HE.out.2.2.1 k h;exact lt_of_heap h1,fun A C h=>hN.out.same A C fun k hk=>h k (by have:=hW.out.size;have:=HE.out.2.2.2.1.1;have:=HWX.out;have:=VX.out.size;omega)⟩
            exact kept_trans k3 (Kept.start ny vb))
          clear hV67 hWV7 rw7 row7 row67 still7 in7 hmk7 sD sb7 hmayP hbY1 vb vd
          have hAb3:Hid (AbidesE rw (fun k=>k = b) V7.heap.size (fun (rs:List (WkA p w0)) Z=>(J (pre ++ qs ++ wsel p w0 d rs) Z∧Kept (fun k=>Mx k∨k = b) rw V7 Z)∧rs.length≤ne)):=hid fun s A C row h hg hr=>⟨⟨hJ.out _ A C row h.1.1 hg fun r e=>⟨.inl (by rcases (hr r e).1 with h1 | h1;exact Nat.le_trans HB7.out.2.1 h1;have:=HBD.out;have:=HSZ.out;omega),(hr r e).2⟩,(kept_abides (β:=Unit) (M:=fun k=>Mx k∨k = b) (E:=fun k=>k = b) (V:=V7) (fun A C hAC=>hN.out.same A C fun k hk=>hAC k (by have:=hW.out.size;have:=HB7.out.2.1;omega) (by have:=HBD.out;have:=HSZ.out;have:=hW.out.size;omega)) (fun k h=>.inr h) () A C row h.1.2 hg hr)⟩,h.2⟩
          refine wpIn_range_x (α:=WkA p w0) rfl (by decide) (gf:=89) (lb:=#[.pointer (some ⟨Y.heap.size,0,none⟩),.pointer (some ⟨Y1.heap.size,0,none⟩),.pointer (some ⟨Y.heap.size+1+1,0,none⟩)]) rfl trivial (enters_of Tryz.func89 (by kernel_rfl) rfl)
            WS.out (fun ys Z l o hl2 h=>⟨h.1,h.2.same (World.putObj_heap_other (by have:=HB7.out.2.2.1;have:=HB7.out.2.2.2.size;omega))⟩) N7.out (fun k h=>by subst h;have:=HB7.out.2.2.1;have:=HB7.out.2.2.2.size;omega) (fun _=>rfl)
            (fun rs Z=>(J (pre ++ qs ++ wsel p w0 d rs) Z∧Kept (fun k=>Mx k∨k = b) rw V7 Z)∧rs.length≤ne) (fun c rs Z=>c = .ret∧Jx (pre ++ qs ++ wsel p w0 d rs) Z∧∀ D∈D1 :: Ds,Z.heap[D]? = some (.deferred (some []))) hAb3.out
            (fun c s A C row h hg hr=>⟨h.1,hJx.out _ A C row h.2.1 hg fun r e=>⟨.inl (by rcases (hr r e).1 with h1 | h1;exact Nat.le_trans HB7.out.2.1 h1;have:=HBD.out;have:=HSZ.out;omega),(hr r e).2⟩,fun D hD=>(hg.block D (lt_of_heap (h.2.2 D hD)) (fun e=>by rcases (hr D e.symm).1 with h1 | h1;have:=(HDS7.out D hD).1.1.1;omega;exact (HDS7.out D hD).1.1.2.1 (.inr h1))).trans (h.2.2 D hD)⟩) (fun s A h=>hJr.out _ A h.1.1)
            ⟨⟨by rw [show wsel p w0 d [] = [] from rfl,List.append_nil];exact HJ7.out,Kept.start N7b.out (Below.refl _ _)⟩,Nat.zero_le _⟩
            (WrX p w0 V7.heap.size (fun tv tx=>#[.func (.yield lp) #[] #[],.pointer (some ⟨B,0,none⟩),.pointer (some ⟨W.heap.size,0,none⟩),.pointer (some ⟨w2.heap.size,0,none⟩),undef,.func (.func 88) #[] #[.pointer (some ⟨Y.heap.size,0,none⟩),.pointer (some ⟨Y.heap.size+1+1,0,none⟩)],.int .i64 (j:Int),.pointer (some ⟨X.heap.size,0,none⟩),.pointer (some ⟨w5.heap.size,0,none⟩),u9,.pointer (some ⟨tx,0,none⟩),(.agg #[.slice o1 nd c1,.slice o2 ne c2]),.bool true,.bool false,(.agg #[.slice o1 nd c1,.slice o2 ne c2]),.map (some mf),(.agg #[.slice o1 nd c1,.slice o2 ne c2]),.map (some mf),.func (.func 87) #[] #[.pointer (some ⟨w2.heap.size+1,0,none⟩),.pointer (some ⟨w2.heap.size+1+1,0,none⟩)],undef,undef,undef,undef,undef,(.agg #[.slice o1 nd c1,.slice o2 ne c2]),.func (.func 88) #[] #[.pointer (some ⟨Y.heap.size,0,none⟩),.pointer (some ⟨Y.heap.size+1+1,0,none⟩)],.pointer (some ⟨B,0,none⟩),.slice o1 nd c1,.int .i64 (nd:Int),.int .i64 (j:Int),.bool true,.int .i64 (j:Int),.pointer (some ⟨db,doff+j*7,none⟩),.agg #[.int .i64 d.kind,.string d.name,.slice op d.params.length capp,.slice oi d.items.length capi,.int .i64 d.type,.int .i64 d.e,.int .i64 d.pos],.agg #[.int .i64 d.kind,.string d.name,.slice op d.params.length capp,.slice oi d.items.length capi,.int .i64 d.type,.int .i64 d.e,.int .i64 d.pos],.agg #[.map (some m1),.map (some m2)],.agg #[.int .i64 d.kind,.string d.name,.slice op d.params.length capp,.slice oi d.items.length capi,.int .i64 d.type,.int .i64 d.e,.int .i64 d.pos],.agg #[.map (some m1),.map (some m2)],.func (.func 91) #[] #[.pointer (some ⟨w5.heap.size+1,0,none⟩),.pointer (some ⟨w5.heap.size+1+1,0,none⟩)],u39,u40,u41,u42,u43,.func (.func 88) #[] #[.pointer (some ⟨Y.heap.size,0,none⟩),.pointer (some ⟨Y.heap.size+1+1,0,none⟩)],.int .i64 (j:Int),.func (.func 89) #[] #[.pointer (some ⟨Y.heap.size,0,none⟩),.pointer (some ⟨Y1.heap.size,0,none⟩),.pointer (some ⟨Y.heap.size+1+1,0,none⟩)],tv,u48,u49,u50,u51,u52,u53,u54,u55,u56,u57,u58,u59,u60])) (fun q a' Z l o o' hl2 ho hc h=>by
              obtain ⟨Xb,h1,h2,h3⟩:=h
              exact ⟨Xb,h1,(World.putObj_heap_other (fun e=>by subst e;rw [h2] at ho;cases ho;cases hc)).trans h2,h3⟩) ?assign3 ?body3 ?done3 ?stop3
          case assign3 =>
            rintro lp' rs ⟨⟨z,sv⟩,x,hx,ha,hk⟩ Z K hi hs hK
            obtain ⟨oa,ca,ba,fa,rfl,_⟩:=id ha
            have hq:exQ p z = x:=by unfold exQ;rw [show p.exprs[z]? = some x from hx];rfl
            unfold WrX at hK
            dsimp only at hK
            rw [hq] at hK
            unfold wkE
            dsimp only
            rw [hq]
            unfold exCells at hK ⊢
            gi_wp2
            exact hK _ _ (below_al (Below.refl _ _) _) ⟨Z.heap.size,hs,World.alloc_heap_new Z _,rfl⟩
          case body3 =>
            rintro lp' rs ⟨⟨z,sv⟩,x,hx,ha,hk⟩ a' Z hs ⟨⟨hj,hkp⟩,hl3⟩ ⟨Xb,hXb,hXh,rfl⟩ hlt3
            obtain ⟨oa,ca,ba,fa,rfl,_⟩:=id ha
            have hq:exQ p z = x:=by unfold exQ;rw [show p.exprs[z]? = some x from hx];rfl
            dsimp only at hXh ⊢
            rw [hq] at hXh ⊢
            have hw:=wsel_snoc p w0 d rs (⟨(z,.slice oa x.args.length ca),x,hx,ha,hk⟩:WkA p w0)
            rw [show exQ p (WkA.num (⟨(z,.slice oa x.args.length ca),x,hx,ha,hk⟩:WkA p w0)) = x from hq] at hw
            have HW:=hid hw
            have hO:=B7b.out.old hkp
            have hBb:B≠b:=by have:=HBD.out;have:=HSZ.out;have:=hW.out.size;have:=hS.out.1;omega
            have z5:=IN7.out Z hkp _ _ FS.out.1 (by have:=HBD.out;have:=V60.out.2.2.1;have:=HWX.out;have:=lt_of_heap HW4.out.2.1;omega) V60.out.1
            have zB:=IN7.out Z hkp _ _ FB.out.1 hBb FB.out.2
            have z3:=IN7.out Z hkp _ _ F3.out.1 (by have:=HBD.out;have:=lt_of_heap V0.out;have:=HD.out.2.2.2.1.1;omega) F3.out.2
            have zY:=IN7.out Z hkp _ _ sY6.out (by have:=HBD.out;have:=HSZ.out;omega) ((VX.out.block _ (lt_of_heap XY.out)).trans XY.out)
            have zsc:ScAt Z m1 m2 d:=by
              obtain ⟨es1,cl1,e1⟩:=V60.out.2.1.vars.map
              obtain ⟨es2,cl2,e2⟩:=V60.out.2.1.states.map
              have hbig:w4.heap.size≤X.heap.size:=HWX.out.2
              have hb4:b < w4.heap.size:=by have:=HBD.out;have:=lt_of_heap HW4.out.2.1;omega
              exact V60.out.2.1.same ((IN7.out Z hkp _ _ FS.out.2.1 (by have:=V60.out.2.2.2.1;omega) e1).trans e1.symm) ((IN7.out Z hkp _ _ FS.out.2.2 (by have:=V60.out.2.2.2.2;omega) e2).trans e2.symm)
            have zmf:MapIs Z 9 mf p.decls.length (strF (firL p.decls)):=by
              obtain ⟨es,cl,e1⟩:=FM.out.2.map
              exact FM.out.2.same ((IN7.out Z hkp _ _ FM.out.1 (by have:=HBD.out;have:=VM.out.lt;have:=HD.out.2.2.2.1.1;omega) e1).trans e1.symm)
            have CW:=hid (isWrong_any m1 m2 mf _ d x (.slice oa x.args.length ca) (.slice o1 nd c1) (.slice o2 ne c2) p Z zsc (scOk_of DV0.out (by have:=HLEN.out.1;omega) (by have:=HLEN.out.2.1;omega)) zmf (ha.mono fun _ _ _ _ h=>hO.cell h) hk (hP.out.old hO) hsm.out)
            unfold exCells at CW hXh
            obtain ⟨t0,t1⟩:=cells_two z5
            obtain ⟨t2,t3⟩:=cells_two zB
            have t4:=cell_sole z3
            obtain ⟨s0,s1,s2,s3,s4,s5,s6,s7,s8⟩:=cells9 hXh
            have HZ:=hid (show _∧_∧_∧_∧_ from ⟨hj,hkp,hl3,zY,hXh⟩)
            have HLT3:=hid hlt3
            clear hq hw hO hBb z5 zB z3 zY zsc zmf hj hkp hl3 hlt3 hXb hXh
            obtain ⟨wr,hwr⟩:∃ wr,wr = wrongE p d x:=⟨_,rfl⟩
            rw [← hwr] at HW CW
            clear hwr
            unfold exCells
            cases wr with
            | false =>
              gi_wp2_with (refine ⟨trivial,?_⟩;gi_at_call 60;refine (CallsIn.inRound lp' (callsIn_wide.2 CW.out)).mono ?_;rintro e Z2 ⟨rfl,hz2⟩;have HZ2:=hid hz2;clear hz2)
              first | refine ⟨fun f h=>(by cases h),?_⟩ | skip
              gi_wp2_with fail
              obtain ⟨hj,hkp,hl3,_,_⟩:=HZ.out
              refine ⟨keep_below HZ2.out,KeepX.below N7.out hkp.1 HZ2.out,⟨?_,hkp.below N7b.out HZ2.out⟩,by have h9:=HLT3.out;rw [hne.out] at h9;rw [List.length_append];show rs.length+1≤ne;omega⟩
              rw [HW.out,if_neg (by simp),List.append_nil]
              exact hJ.out.below HZ2.out hj
            | true =>
              have YY:Hid (∀ Z2,Below Z.heap.size Z Z2→Z2.cell? ⟨W.heap.size,0,none⟩ = some (.func (.yield lp) #[] #[])∧Z2.cell? ⟨Xb,8,none⟩ = some (.int .i64 x.pos)∧YieldAt Fence.wide 3 Tryz.prog lp #[.int .i64 x.pos] Z2 fun r Y =>
                  (r = .returned (.bool true)∧J (pre ++ qs ++ wsel p w0 d rs ++ [x.pos]) Y∧KeepX M rw w.heap.size W.heap.size Z2 Y)∨(r = .returned (.bool false)∧Jx (pre ++ qs ++ wsel p w0 d rs ++ [x.pos]) Y∧KeepsFrom W.heap.size Z2 Y)):=hid fun Z2 hz2=>by
                obtain ⟨hj,hkp,hl3,hzY,hzX⟩:=HZ.out
                refine ⟨cell_sole ((hz2.block _ (lt_of_heap hzY)).trans hzY),(cells9 ((hz2.block _ (lt_of_heap hzX)).trans hzX)).2.2.2.2.2.2.2.2,YieldAt.deep (F:=Fence.wide) rfl 3 (hY.out _ x.pos Z2 (hJ.out.below hz2 hj) ?_)⟩
                have h1:=hpre2.out
                have h2:=HQL.out
                have h3:=wsel_len p w0 d rs
                have h4:=HLT3.out
                rw [hne.out] at h4
                rw [List.length_append,List.length_append]
                omega
              gi_wp2_with (refine ⟨trivial,?_⟩;gi_at_call 60;refine (CallsIn.inRound lp' (callsIn_wide.2 CW.out)).mono ?_;rintro e Z2 ⟨rfl,hz2⟩;obtain ⟨l0,l1,hyy⟩:=YY.out Z2 hz2;obtain ⟨fn,tmps,assign,body,hy,hR⟩:=hyy;have hy' : (Instr.yield lp #[.int .i64 x.pos]).run Tryz.prog Z2 = .ok (.round lp fn tmps assign body) Z2:=hy;have HRd:=hid hR;have HZ2:=hid hz2;clear hz2 hy hR)
              refine HRd.out.mono ?_
              rintro e X' (⟨rfl,h1,h2⟩ | ⟨rfl,h1,h2⟩)
              · have HX:=hid (And.intro h1 h2)
                clear h1 h2 hy'
                gi_wp2
                obtain ⟨hj,hkp,hl3,_,_⟩:=HZ.out
                obtain ⟨n1,n2⟩:=nest_round hN.out.old hW.out.size HB7.out.2.1 (hJr.out _ _ (hJ.out.below HZ2.out hj)) HX.out.2
                rw [← hMx] at n2
                refine ⟨(keep_below HZ2.out).trans n1,(KeepX.below N7.out hkp.1 HZ2.out).trans n2,⟨?_,(hkp.below N7b.out HZ2.out).keepx ⟨n2.1,fun k h1 h2 h3 h4=>n2.2.1 k h1 (fun h=>h2 (.inl h)) h3 h4,n2.2.2⟩⟩,by have h9:=HLT3.out;rw [hne.out] at h9;rw [List.length_append];show rs.length+1≤ne;omega⟩
                rw [HW.out,if_pos trivial,← List.append_assoc]
                exact HX.out.1
              · have HX:=hid (And.intro h1 h2)
                clear h1 h2 hy'
                gi_wp2
                obtain ⟨hj,hkp,hl3,_,_⟩:=HZ.out
                have hkz:KeepsFrom V7.heap.size Z X':=(keep_below HZ2.out).trans (keeps_later HX.out.2 HB7.out.2.1)
                refine ⟨hkz,rfl,by rw [HW.out,if_pos trivial,← List.append_assoc];exact HX.out.1,fun D hD=>?_⟩
                have h1:=HDS7.out D hD
                have h2:=(hkp.2.2 D h1.1.1).trans h1.2
                exact HX.out.2.same D _ h1.1.2 ((HZ2.out.block _ (lt_of_heap h2)).trans h2) rfl
          case stop3 =>
            rintro D2 c rs Z hD2 hpre2 ⟨rfl,hjx,hds⟩ hmark2
            have HX:=hid (show _∧_∧_∧_∧_ from ⟨hD2,hpre2,hjx,hds,hmark2⟩)
            clear hD2 hpre2 hjx hds hmark2
            dsimp only
            gi_wp2_with fail
            have hall:∀ D∈D2 :: D1 :: Ds,W.heap.size≤D∧Z.heap[D]? = some (.deferred (some [])):=fun D hD=>by
              rcases List.mem_cons.1 hD with rfl | hD
              · exact ⟨Nat.le_trans HB7.out.2.1 HX.out.1,HX.out.2.2.2.2⟩
              · exact ⟨(HDS7.out D hD).1.2,HX.out.2.2.2.1 D hD⟩
            have hnd2:(D2 :: D1 :: Ds).Nodup:=List.nodup_cons.2 ⟨fun h=>by have:=(HDS7.out D2 h).1.1.1;have:=HX.out.1;omega,HND.out⟩
            refine leaves_puts (fun w=>results_none (by kernel_rfl) _ _ _) (D2 :: D1 :: Ds) Z hnd2 (fun D h=>(hall D h).2) ?_
            exact ⟨⟨_,rfl⟩,.inr ⟨pre ++ qs ++ wsel p w0 d rs,fun a ha=>by
              rcases List.mem_append.1 ha with h | h
              · rcases List.mem_append.1 h with h | h
                · exact wrUpto_le HMN.out ((hl.out.spec a).1 h)
                · exact ⟨HMN.out,.inr ⟨d,List.mem_of_getElem? HDJ.out,.inl (by rw [← HE.out.2.1];exact h)⟩⟩
              · obtain ⟨q,h1,x,h2,h3,h4⟩:=wsel_mem h
                exact ⟨HMN.out,.inr ⟨d,List.mem_of_getElem? HDJ.out,.inr ⟨q.num,x,HX.out.2.1 q h1,h2,h3,h4⟩⟩⟩,abides_puts hJx.out _ (D2 :: D1 :: Ds) Z hnd2 hall HX.out.2.2.1⟩⟩
          case done3 =>
            rintro D2 rs Y2 hD2 ⟨hall,hmk2⟩ ⟨⟨hj,hk⟩,hlen⟩ hmark2
            have hL:WrL Mx rw W w4 (Y.heap.size+1) ne p J (j+1) (pre ++ qs ++ wsel p w0 d rs) (D2 :: D1 :: Ds) Y2:=by
              refine ⟨hj,by rw [← HBD.out];exact kept_trans K7.out hk,by rw [← HBD.out,← hne.out];exact hmk2,fun a=>?_,?_,List.nodup_cons.2 ⟨fun h=>by have:=(HDS7.out D2 h).1.1.1;omega,HND.out⟩,fun D hD=>?_⟩
              · rw [wrUpto_succ HDJ.out,List.mem_append,List.mem_append,hl.out.spec a,or_assoc]
                refine or_congr Iff.rfl ?_
                unfold WrongIn
                rw [HE.out.2.1]
                refine or_congr Iff.rfl ⟨fun h=>?_,?_⟩
                · obtain ⟨q,h1,x,h2,h3,h4⟩:=wsel_mem h
                  exact ⟨q.num,x,(hall q.num).1 (List.mem_map.2 ⟨q,h1,rfl⟩),h2,h3,h4⟩
                · rintro ⟨k,x,h1,h2,h3,rfl⟩
                  exact mem_wsel ((hall k).2 h1) h2 h3
              · have h1:=hpre2.out
                have h2:=HQL.out
                have h3:=wsel_len p w0 d rs
                rw [List.length_append,List.length_append]
                omega
              · rcases List.mem_cons.1 hD with rfl | hD
                · exact ⟨⟨Nat.le_trans HB7.out.2.1 hD2,lt_of_heap hmark2⟩,hmark2⟩
                · have h1:=HDS7.out D hD
                  have h2:=(hk.2.2 D h1.1.1).trans h1.2
                  exact ⟨⟨h1.1.2,lt_of_heap h2⟩,h2⟩
            have HL2:=hid hL
            clear hL hD2 hall hmk2 hj hk hlen hmark2
            dsimp only
            gi_wp2_with fail
            have ej:((j+1:Nat):Int) = (j:Int)+1:=rfl
            refine ⟨⟨j+1,pre ++ qs ++ wsel p w0 d rs,D2 :: D1 :: Ds,_,_,_,_,_,_,_,_,_,_,_,_,_,_,_,_,_,_,_,_,_,_,_,_,_,_,_,_,_,_,_,_,_,_,_,_,rfl,by omega,HL2⟩,?_⟩
            show nd - litLen (.int .i64 ((j:Int)+1)) < nd - litLen (.int .i64 (j:Int))
            simp [litLen]
            omega
      · obtain rfl:j = nd:=by omega
        gi_wp2_with fail
        refine leaves_puts (fun w=>results_none (by kernel_rfl) _ _ _) Ds X hl.out.nodup (fun D h=>(hl.out.ds D h).2) ?_
        exact ⟨⟨_,rfl⟩,.inl ⟨pre,fun a=>(hl.out.spec a).trans (by rw [← hnd.out];exact wrUpto_at HMN.out a),abides_puts hJ.out pre Ds X hl.out.nodup (fun D h=>⟨(hl.out.ds D h).1.1,(hl.out.ds D h).2⟩) hl.out.hj⟩⟩
end Go.Proofs.YtdlmfeflinbbjaaGreat
