/- Joined: NmWrongG, NmJC. -/
import Derived.Test.YtknbghjoncomiaaGreatKA8
import Derived.Test.YtknbghjoncomiaaGreatKA6
import Derived.Lib.SlicesCompact
import Derived.Shelf.RegionOpenPlain
import Derived.Deep.LoopGhost
namespace Go.Proofs.YtknbghjoncomiaaGreat
section
open Go.Lib (hid)
open Go.RowKit Lx Go.Shelf Go.Maps
attribute [local go_sem] Oper.semAt_some
theorem QFh (n:Nat) (hn:n≤1000000) (W:World):(Instr.makeSlice 52 (.int .i64 (n:Int)) (.int .i64 (n:Int))).run Tryz.prog W = .ok (.slice (some ⟨W.heap.size,0,none⟩) n n) (W.alloc (.cells (madeCells #[.int .i64 0] n) 3)):=by
 obtain ⟨i,h2,h3,h4,h5⟩:=info_parts (show (Tryz.prog.info? 3).map (fun i=>(i.zero,i.size,i.bytes)) = some (some (.int .i64 0),1,8) by kernel_rfl)
 have hr:=run_make (P:=Tryz.prog) W 52 3 i _ Tryz.underlying52 h2 h3 .i64 .i64 n n (by omega) (by omega) (by rw [h5];omega) (by omega)
 simp only [Int.toNat_natCast,h4,Nat.mul_one] at hr
 exact hr
theorem QIi (o1 o2:Option Addr) (n1 c1 ne c2:Nat) (hn:ne≤1000000) (w:World):Calls Tryz.prog 38 #[.agg #[.slice o1 n1 c1,.slice o2 ne c2]] w fun r Y=>r = .returned (.func (.func 61) #[] #[.pointer (some ⟨w.heap.size,0,none⟩),.pointer (some ⟨w.heap.size+1+1,0,none⟩)]) ∧
  Y.heap[w.heap.size]? = some (.cells #[.slice o1 n1 c1,.slice o2 ne c2] 26 (0,0))∧Y.heap[w.heap.size+1+1]? = some (.cells #[.slice (some ⟨w.heap.size+1,0,none⟩) ne ne] 52 (0,0))∧MarksLe Y (w.heap.size+1) ne 0∧Below w.heap.size w Y:=by
 have hmk:=QFh ne hn
 go_enter Tryz.func38,Tryz.ntmps38
 go_wp2_with fail
 go_ret
 refine ⟨rfl,QAa (QAa (QAR rfl)),QAR (by simp),⟨madeCells #[.int .i64 0] ne,QAa (QAR (by simp)),by simp [madeCells],fun j hj=>⟨0,?_,Int.le_refl _⟩⟩,(((Below.refl w.heap.size w).alloc (Nat.le_refl _) _).alloc (by simp) _).alloc (by simp;omega) _⟩
 rw [← Array.getElem?_toList,toList_madeCells_one,List.getElem?_replicate,if_pos hj]
theorem QI9 (sd se:Value) (p:Pr) (w:World) (h:ProgAt w sd se p) (hs:Small p):Calls Tryz.prog 36 #[.agg #[sd,se]] w fun r Y=>QKy p w r Y:=by
 obtain ⟨⟨o1,dcap,db,doff,rfl,hd1,hd2,hd3,hd4⟩,_⟩:=h
 exact QIA o1 db doff dcap se p _ (hid rfl) (by have:=hs.decls;omega) w (hid hd3) (hid hd4)
def QML:List Nat→World→World
 | [],w=>w
 | D :: Ds,w=>QML Ds (w.putObj D (.deferred none))
theorem QBw {F:Fence} {n:Nat} {P:Program} {fn:Func} {tmps:Array Value} {R:Ending→World→Prop} {v:Value} (hres:∀ w,(results fn tmps).run P w = .ok v w):∀ (Ds:List Nat) (w:World),Ds.Nodup→(∀ D∈Ds,w.heap[D]? = some (.deferred (some [])))→R (.returned v) (QML Ds w)→LeavesInM F n P fn tmps R (markL Ds) .returning w
 | [],w,_,_,h=>⟨v,hres w,h⟩
 | D :: Ds,w,hnd,hall,h=>by
  have h2:=hall D (List.mem_cons_self ..)
  have hd:=List.nodup_cons.1 hnd
  refine ⟨by simp,.inl ⟨D,_,rfl,run_takeDeferred h2,QBw hres Ds _ hd.2 (fun D' hD'=>?_) h⟩⟩
  have hne:D'≠D:=fun e=>hd.1 (e ▸ hD')
  exact (World.putObj_heap_other hne).trans (hall D' (List.mem_cons_of_mem _ hD'))
theorem QBs {β:Type} {rw:World→Option Nat} {E:Nat→Prop} {B:Nat} {J:β→World→Prop} (hJ:AbidesE rw E B J) (s:β):∀ (Ds:List Nat) (w:World),Ds.Nodup→(∀ D∈Ds,B≤D∧w.heap[D]? = some (.deferred (some [])))→J s w→J s (QML Ds w)
 | [],w,_,_,h=>h
 | D :: Ds,w,hnd,hall,h=>by
  have hd:=List.nodup_cons.1 hnd
  have h2:=hall D (List.mem_cons_self ..)
  refine QBs hJ s Ds _ hd.2 (fun D' hD'=>?_) (hJ.put _ h h2.1 h2.2 rfl)
  have hne:D'≠D:=fun e=>hd.1 (e ▸ hD')
  have h3:=hall D' (List.mem_cons_of_mem _ hD')
  exact ⟨h3.1,(World.putObj_heap_other hne).trans h3.2⟩
theorem QDR {β:Type} {M E:Nat→Prop} {rw:World→Option Nat} {V:World} (hR:∀ X Y:World,(∀ k,k < V.heap.size→¬ E k→Y.heap[k]? = X.heap[k]?)→rw Y = rw X) (hE:∀ k,E k→M k):AbidesE rw E V.heap.size (fun (_:β) X=>Kept M rw V X):=by
 intro s X Y row h hg hr
 have hne:∀ k,k < V.heap.size→¬ E k→some k≠row:=fun k hk he e=>by
  rcases (hr k e.symm).1 with h1 | h1
  ·omega
  ·exact he h1
 have hrr:rw Y = rw X:=hR X Y fun k hk he=>hg.block k (Nat.lt_of_lt_of_le hk h.1) (hne k hk he)
 exact ⟨Nat.le_trans h.1 hg.size,fun k hk=>h.2.1 k (hrr ▸ hk),fun k hk=>(hg.block k (Nat.lt_of_lt_of_le hk.1 h.1) (hne k hk.1 fun he=>hk.2.1 (hE k he))).trans (h.2.2 k hk)⟩
theorem QE4 {M:Nat→Prop} {rw:World→Option Nat} {w W V X Y:World} (hM:∀ k,M k→k < w.heap.size) (hw:w.heap.size≤W.heap.size) (hWV:W.heap.size≤V.heap.size) (hr:∀ k,rw X = some k→∃ o:Obj,X.heap[k]? = some o∧o.isCells = true) (hk:KeepX M rw w.heap.size W.heap.size X Y) :
  KeepsFrom V.heap.size X Y∧KeepX (fun k=>M k∨(w.heap.size≤k∧k < W.heap.size)) rw V.heap.size (V.heap.size+2) X Y:=by
 refine ⟨⟨hk.1,fun k o hB ho hc=>(hk.2.1 k (lt_of_heap ho) (fun h=>by have:=hM k h;omega) (fun e=>?_) (.inr (by omega))).trans ho⟩,hk.more fun k h=>⟨fun hm=>h (.inl hm),?_⟩⟩
 ·obtain ⟨o',h1,h2⟩:=hr k e
  rw [ho] at h1;cases h1;rw [hc] at h2;cases h2
 ·rcases Nat.lt_or_ge k w.heap.size with h1 | h1
  ·exact .inl h1
  ·rcases Nat.lt_or_ge k W.heap.size with h2 | h2
   ·exact absurd (.inr ⟨h1,h2⟩) h
   ·exact .inr h2
theorem QDQ {B B' : Nat} {X Y:World} (h:KeepsFrom B X Y) (hB:B≤B'):KeepsFrom B' X Y:=⟨h.size,fun k o hk=>h.same k o (Nat.le_trans hB hk)⟩
theorem QFq (p:Pr):(QC7 p).length≤p.decls.length+1:=by
 unfold QC7 QCg
 have h:=List.length_filterMap_le (fun z:De × Nat=>if QCY p z.2 z.1 then some z.1.pos else none) (p.decls.take p.decls.length).zipIdx
 rw [List.length_zipIdx,List.take_length] at h
 rw [List.length_append,List.take_length]
 split <;> simp <;> omega
theorem QFw (d:De):(QBj d).length≤d.items.length+1:=by
 unfold QBj QAl QAp
 have h:=List.length_filterMap_le (fun z:It × Nat=>if QIs d z.2 z.1 then some z.1.pos else none) (d.items.take d.items.length).zipIdx
 rw [List.length_zipIdx,List.take_length] at h
 rw [List.length_append,List.take_length]
 split <;> simp <;> omega
def QB8 (p:Pr) (a:Int):Prop:=QFa p = true∧(a∈QC7 p∨∃ d∈p.decls,a∈QBj d∨∃ k x,Reach p (QAC d) k∧p.exprs[k]? = some x∧QBm p d x = true∧a = x.pos)
theorem QDX {n:Nat} {e:Int} (h:QAg n true e = true):∃ z:Nat,e = (z:Int)∧z < n:=by
 unfold QAg at h
 simp only [if_true,Bool.and_eq_true,decide_eq_true_eq] at h
 exact ⟨e.toNat,by omega,by omega⟩
theorem QJK {p:Pr} (h:QFE p = true) {i:Nat} {d:De} (hd:p.decls[i]? = some d):∀ r∈QAC d,∃ z:Nat,r = (z:Int)∧z < p.exprs.length:=by
 unfold QFE at h
 rw [Bool.and_eq_true] at h
 have h1:=List.all_eq_true.1 h.2 d (List.mem_of_getElem? hd)
 unfold QJ8 at h1
 rw [Bool.and_eq_true] at h1
 intro r hr
 unfold QAC at hr
 rcases List.mem_append.1 hr with hr | hr
 ·unfold QAO at hr
  obtain ⟨x,hx,hr⟩:=List.mem_flatMap.1 hr
  have h2:=List.all_eq_true.1 h1.2 x hx
  unfold QFZ at h2
  rw [Bool.and_eq_true] at h2
  unfold QC1 at hr
  rcases List.mem_append.1 hr with hr | hr
  ·split at hr
   ·rename_i hk
    rw [List.mem_singleton.1 hr]
    have e:hasE x.kind = true:=by unfold QFc at hk;unfold hasE;simp only [Bool.or_eq_true,decide_eq_true_eq] at hk ⊢;omega
    have h3:=h2.1
    rw [e] at h3
    exact QDX h3
   ·cases hr
  ·split at hr
   ·rename_i hk
    rw [List.mem_singleton.1 hr]
    have e:hasF x.kind = true:=by unfold QET at hk;unfold hasF;simp only [Bool.or_eq_true,decide_eq_true_eq] at hk ⊢;omega
    have h3:=h2.2
    rw [e] at h3
    exact QDX h3
   ·cases hr
 ·split at hr
  ·rename_i hk
   rw [List.mem_singleton.1 hr]
   have e:QCA d.kind = true:=by unfold QCA;simp only [Bool.or_eq_true,decide_eq_true_eq];exact hk
   have h3:=h1.1
   rw [e] at h3
   exact QDX h3
  ·cases hr
def QGL (p:Pr) (d:De) (a:Int):Prop:=a∈QBj d∨∃ k x,Reach p (QAC d) k∧p.exprs[k]? = some x∧QBm p d x = true∧a = x.pos
def QEt (p:Pr) (j:Nat) (a:Int):Prop:=a∈QC7 p∨∃ i d,i < j∧p.decls[i]? = some d∧QGL p d a
theorem QIl {p:Pr} {j:Nat} {d:De} (hd:p.decls[j]? = some d) (a:Int):QEt p (j+1) a↔QEt p j a∨QGL p d a:=by
 unfold QEt
 constructor
 ·rintro (h | ⟨i,e,h1,h2,h3⟩)
  ·exact .inl (.inl h)
  ·by_cases hi:i = j
   ·subst hi;rw [hd] at h2;cases h2;exact .inr h3
   ·exact .inl (.inr ⟨i,e,by omega,h2,h3⟩)
 ·rintro ((h | ⟨i,e,h1,h2,h3⟩) | h)
  ·exact .inl h
  ·exact .inr ⟨i,e,by omega,h2,h3⟩
  ·exact .inr ⟨j,d,by omega,hd,h⟩
theorem QMs {p:Pr} (hm:QFa p = true) (a:Int):QEt p p.decls.length a↔QB8 p a:=by
 unfold QEt QB8 QGL
 constructor
 ·rintro (h | ⟨i,d,_,h2,h3⟩)
  ·exact ⟨hm,.inl h⟩
  ·exact ⟨hm,.inr ⟨d,List.mem_of_getElem? h2,h3⟩⟩
 ·rintro ⟨_,h | ⟨d,h2,h3⟩⟩
  ·exact .inl h
  ·obtain ⟨i,hi,rfl⟩:=List.getElem_of_mem h2
   exact .inr ⟨i,_,hi,List.getElem?_eq_getElem hi,h3⟩
theorem QHs {p:Pr} (hm:QFa p = true) {j:Nat} {a:Int} (h:QEt p j a):QB8 p a:=by
 rcases h with h | ⟨i,d,_,h2,h3⟩
 ·exact ⟨hm,.inl h⟩
 ·exact ⟨hm,.inr ⟨d,List.mem_of_getElem? h2,h3⟩⟩
def QGx (p:Pr) (w0:World) (d:De) (l:List (WkA p w0)):List Int:=(l.filter fun q=>QBm p d (exQ p q.num)).map fun q=>(exQ p q.num).pos
theorem QMt (p:Pr) (w0:World) (d:De) (l:List (WkA p w0)) (q:WkA p w0):QGx p w0 d (l ++ [q]) = QGx p w0 d l ++ if QBm p d (exQ p q.num) then [(exQ p q.num).pos] else []:=by
 unfold QGx
 rw [List.filter_append,List.map_append]
 cases h:QBm p d (exQ p q.num) <;> simp [h]
theorem QJV (p:Pr) (w0:World) (d:De) (l:List (WkA p w0)):(QGx p w0 d l).length≤l.length:=by
 unfold QGx
 rw [List.length_map]
 exact List.length_filter_le _ _
theorem QJW {p:Pr} {w0:World} {d:De} {l:List (WkA p w0)} {a:Int} (h:a∈QGx p w0 d l):∃ q∈l,∃ x,p.exprs[q.num]? = some x∧QBm p d x = true∧a = x.pos:=by
 unfold QGx at h
 obtain ⟨q,h1,rfl⟩:=List.mem_map.1 h
 obtain ⟨h2,h3⟩:=List.mem_filter.1 h1
 obtain ⟨x,hx,_⟩:=q.2
 have e:exQ p q.num = x:=by unfold exQ;rw [show p.exprs[q.num]? = some x from hx];rfl
 exact ⟨q,h2,x,hx,by rw [← e];exact h3,by rw [e]⟩
theorem QNq {p:Pr} {w0:World} {d:De} {l:List (WkA p w0)} {k:Nat} {x:Ex} (hk:k∈l.map WkA.num) (hx:p.exprs[k]? = some x) (hw:QBm p d x = true):x.pos∈QGx p w0 d l:=by
 obtain ⟨q,h1,rfl⟩:=List.mem_map.1 hk
 have e:exQ p q.num = x:=by unfold exQ;rw [hx];rfl
 unfold QGx
 exact List.mem_map.2 ⟨q,List.mem_filter.2 ⟨h1,by rw [e];exact hw⟩,by rw [e]⟩
theorem QD2 {M:Nat→Prop} {rw:World→Option Nat} {A X Y:World} (h:Kept M rw A X) (h2:Kept M rw X Y):Kept M rw A Y:=by
 refine ⟨Nat.le_trans h.1 h2.1,fun k hk=>?_,fun k hk=>?_⟩
 ·rcases h2.2.1 k hk with e | e
  ·exact h.2.1 k e
  ·exact .inr (Nat.le_trans h.1 e)
 ·exact (h2.2.2 k ⟨Nat.lt_of_lt_of_le hk.1 h.1,hk.2.1,fun e=>by
   rcases h.2.1 k e with e2 | e2
   ·exact hk.2.2 e2
   ·have:=hk.1;omega⟩).trans (h.2.2 k hk)
theorem QLv {M M' : Nat→Prop} {rw:World→Option Nat} {A X:World} (h:Kept M rw A X) (hM:∀ k,M k→M' k):Kept M' rw A X:=⟨h.1,h.2.1,fun k hk=>h.2.2 k ⟨hk.1,fun hm=>hk.2.1 (hM k hm),hk.2.2⟩⟩
def WrX (p:Pr) (w0:World) (N:Nat) (T:Value→Nat→Array Value) (q:WkA p w0) (a:Act) (W:World):Prop :=
 ∃ X,N≤X∧W.heap[X]? = some (.cells (QA4 (exQ p q.1.1) q.1.2) 54 (0,0))∧a = { tmps:=T (.agg (QA4 (exQ p q.1.1) q.1.2)) X,defers:=[] }
structure WrL (Mx:Nat→Prop) (rw:World→Option Nat) (W V4:World) (b ne:Nat) (p:Pr) (J:List Int→World→Prop) (j:Nat) (pre:List Int) (Ds:List Nat) (X:World):Prop where
 hj:J pre X
 kept:Kept (fun k=>Mx k∨k = b) rw V4 X
 marks:MarksLe X b ne (j:Int)
 spec:∀ a,a∈pre↔QEt p j a
 len:pre.length≤61+j*902
 nodup:Ds.Nodup
 ds:∀ D∈Ds,(W.heap.size≤D∧D < X.heap.size)∧X.heap[D]? = some (.deferred (some []))
set_option maxHeartbeats 16000000 in
set_option maxRecDepth 100000 in
theorem QKn (p:Pr) (o1 o2:Option Addr) (nd c1 ne c2 B:Nat) (hnd:Hid (p.decls.length = nd)) (hne:Hid (p.exprs.length = ne)) (nel:(ne:Int)≤300) (ndl:(nd:Int)≤60) (w0:World) (M:Nat→Prop) (rw:World→Option Nat) (w:World) (hB0:Hid (Below w0.heap.size w0 w)) (hBa:Hid (Base w0 M rw w)) (hN:Hid (Near M rw w))
  (hS:Hid (QAc M rw w B)) (hBc:Hid (w.heap[B]? = some (.cells #[.slice o1 nd c1,.slice o2 ne c2] 26 (0,0)))) (db doff:Nat) (hd:Hid (0 < nd→o1 = some ⟨db,doff,none⟩)) (hdc:Hid (∀ i,i < nd→∀ x,p.decls[i]? = some x→DeAt w0 db (doff+i*7) x)) (hP:Hid (ProgAt w0 (.slice o1 nd c1) (.slice o2 ne c2) p)) (hsm:Hid (Small p)) (lp:Nat) (J Jx:List Int→World→Prop)
  (W:World) (hW:Hid (Below w.heap.size w W)) (hJ:Hid (AbidesE rw (fun _=>False) W.heap.size J)) (hJx:Hid (AbidesE rw (fun _=>False) W.heap.size Jx)) (hJr:Hid (Rowed rw J))
  (hY:Hid (∀ pre (v:Int) X,J pre X→pre.length < 60000→YieldAt Fence.wide 5 Tryz.prog lp #[.int .i64 v] X fun r Y =>
   (r = .returned (.bool true)∧J (pre ++ [v]) Y∧KeepX M rw w.heap.size W.heap.size X Y)∨(r = .returned (.bool false)∧Jx (pre ++ [v]) Y∧KeepsFrom W.heap.size X Y)))
  (h0:Hid (J [] W)) :
  CallsIn Fence.wide 6 Tryz.prog 35 #[.func (.yield lp) #[] #[],.pointer (some ⟨B,0,none⟩)] W fun r Y=>(∃ v,r = .returned v) ∧
   ((∃ ys:List Int,(∀ a,a∈ys↔QB8 p a)∧J ys Y)∨(∃ pre:List Int,(∀ a∈pre,QB8 p a)∧Jx pre Y)):=by
 have hBW:=(hW.out.block _ hS.out.1).trans hBc.out
 have hw0:=hid (hB0.out.trans (hW.out.mono hB0.out.size))
 have MA:=hid (fun X (hX:Below W.heap.size W X)=>QHW _ _ p X (hP.out.below (hw0.out.trans (hX.mono hw0.out.size))) hsm.out)
 have FA:=hid (fun X (hX:Below W.heap.size W X)=>QI9 _ _ p X (hP.out.below (hw0.out.trans (hX.mono hw0.out.size))) hsm.out)
 have b0:=(QAA (QAa (o:=.cells #[.func (.yield lp) #[] #[]] 82) hBW)).1
 have b1:=(QAA (QAa (o:=.cells #[.func (.yield lp) #[] #[]] 82) hBW)).2
 have HBa:=hid (QA5 (Below.refl W.heap.size W) (.cells #[.func (.yield lp) #[] #[]] 82))
 have HBW:=hid hBW
 clear hBW
 refine callsIn_of_wp_marks Tryz.func35 rfl trivial ?_ rfl
 simp only [Tryz.ntmps35,List.size_toArray,List.length_cons,List.length_nil,Nat.reduceAdd,Nat.reduceSub,Array.replicate_succ,Array.replicate_zero,List.push_toArray,List.append_toArray,List.nil_append,List.cons_append]
 cases hmn:QFa p with
 | false =>
  rw [hmn] at MA
  gi_wp2_with (refine ⟨trivial,?_⟩;gi_at_call 22;((with_reducible refine (callsIn_wide.2 (MA.out _ HBa.out)).mono ?_);rintro e w1 ⟨rfl,hb1⟩;have HB1:=hid (HBa.out.trans (hb1.mono HBa.out.size));clear hb1))
  refine QEM (fun w=>results_none (by kernel_rfl) _ _ _) [] w1 (by simp) (by simp) ?_
  intro Yf e1 e2 e3 e4 e5
  refine ⟨⟨_,rfl⟩,.inl ⟨[],fun a=>⟨(fun h=>by cases h),(fun h=>by have h2:=h.1;rw [hmn] at h2;cases h2)⟩,?_⟩⟩
  exact hJ.out.below (show Below W.heap.size W Yf from ⟨e1.trans HB1.out.os,e2.trans HB1.out.tape,e3.trans HB1.out.output,by rw [e4];exact HB1.out.size,fun k hk=>(e5 k (by simp)).trans (HB1.out.block k hk)⟩) h0.out
 | true =>
  rw [hmn] at MA
  have HMN:=hid hmn
  clear hmn
  gi_wp2_with (first
   | (refine ⟨trivial,?_⟩;gi_at_call 22;((with_reducible refine (callsIn_wide.2 (MA.out _ HBa.out)).mono ?_);rintro e w1 ⟨rfl,hb1⟩;have HB1:=hid (HBa.out.trans (hb1.mono HBa.out.size));obtain ⟨x0,x1⟩:=QAA ((HB1.out.block _ (lt_of_heap HBW.out)).trans HBW.out);have HYB1:=hid ((hb1.block _ (by simp)).trans (QAR (W:=W) rfl));clear hb1))
   | (refine ⟨trivial,?_⟩;gi_at_call 36;((with_reducible refine (callsIn_wide.2 (FA.out _ HB1.out)).mono ?_);rintro e w2 ⟨mf,rfl,hmf,hm2,hb2⟩;have HM2:=hid hm2;have HMF:=hid hmf;have HB2:=hid (HB1.out.trans (hb2.mono HB1.out.size));obtain ⟨x2,x3⟩:=QAA (QAa (o:=.cells #[.map (some mf)] 83) ((HB2.out.block _ (lt_of_heap HBW.out)).trans HBW.out));have HYB2:=hid ((hb2.block _ (lt_of_heap HYB1.out)).trans HYB1.out);clear hb2 hm2 hmf))
   | (refine ⟨trivial,?_⟩;gi_at_call 37;((with_reducible refine (callsIn_wide.2 (QFi _ _ _ _ _ _ _ _)).mono ?_);rintro e w3 ⟨rfl,rfl⟩)))
  obtain ⟨V3,hV3⟩:∃ V3,V3 = ((w2.alloc (.cells #[.map (some mf)] 83)).alloc (.cells #[.slice o1 nd c1,.slice o2 ne c2] 26)).alloc (.cells #[.map (some mf)] 83):=⟨_,rfl⟩
  have v0:V3.heap[w2.heap.size]? = some (.cells #[.map (some mf)] 83 (0,0)):=by rw [hV3];exact QAa (QAa (QAR rfl))
  have v1:V3.heap[w2.heap.size+1]? = some (.cells #[.slice o1 nd c1,.slice o2 ne c2] 26 (0,0)):=by rw [hV3];exact QAa (QAR (by simp))
  have v2:V3.heap[w2.heap.size+1+1]? = some (.cells #[.map (some mf)] 83 (0,0)):=by rw [hV3];exact QAR (by simp)
  have vb2:Below w2.heap.size w2 V3:=by rw [hV3];exact (((Below.refl _ _).alloc (Nat.le_refl _) _).alloc (by simp) _).alloc (by simp;omega) _
  have vB:=HB2.out.trans (vb2.mono HB2.out.size)
  have vm:=HM2.out.below vb2 HM2.out.lt
  have vy:V3.heap[W.heap.size]? = some (.cells #[.func (.yield lp) #[] #[]] 82 (0,0)):=(vb2.block _ (lt_of_heap HYB2.out)).trans HYB2.out
  have vwB:Below w.heap.size w V3:=hW.out.trans (vB.mono hW.out.size)
  rw [← hV3]
  clear hV3
  obtain ⟨Mx,hMx⟩:∃ Mx,Mx = fun k=>M k∨(w.heap.size≤k∧k < W.heap.size):=⟨_,rfl⟩
  have hr3:rw V3 = rw w:=hN.out.same w V3 fun k hk=>vwB.block k hk
  have NearX:∀ V:World,Below w.heap.size w V→W.heap.size≤V.heap.size→rw V = rw w→Near Mx rw V:=fun V hV hs hr=>⟨fun k hk=>by
    rw [hMx] at hk
    rcases hk with h | h
    ·have:=hN.out.old k h;have:=hW.out.size;omega
    ·omega,fun k hk=>by rw [hr] at hk;have:=hN.out.row k hk;have:=hW.out.size;omega,fun X Y h=>hN.out.same X Y fun k hk=>h k (Nat.lt_of_lt_of_le hk hV.size)⟩
  have NX3:=hid (NearX V3 vwB vB.size hr3)
  have stillNew:∀ k,W.heap.size≤k→k < V3.heap.size→QAc Mx rw V3 k:=fun k h1 h2=>⟨h2,fun h=>by
    rw [hMx] at h
    rcases h with h | h
    ·have:=hN.out.old k h;have:=hW.out.size;omega
    ·omega,fun h=>by rw [hr3] at h;have:=hN.out.row k h;have:=hW.out.size;omega⟩
  have stillOld:∀ k,QAc M rw w k→QAc Mx rw V3 k:=fun k h=>⟨Nat.lt_of_lt_of_le h.1 vwB.size,fun h2=>by
    rw [hMx] at h2
    rcases h2 with h2 | h2
    ·exact h.2.1 h2
    ·have:=h.1;omega,fun h2=>by rw [hr3] at h2;exact h.2.2 h2⟩
  have hwW:=hW.out.size
  have PS:PrSrc Mx rw V3 p (w2.heap.size+1) (w2.heap.size+1+1) mf p.decls.length:=by
   have hs2:=HB2.out.size
   refine ⟨⟨_,_,v1,?_⟩,stillNew _ (by omega) (lt_of_heap v1),stillNew _ (by omega) (lt_of_heap v2),stillNew _ (by have:=HMF.out;have:=HB1.out.size;omega) vm.lt,v2,vm⟩
   have hb3:=hB0.out.trans (vwB.mono hB0.out.size)
   refine hP.out.1.mono fun b o i hi h=>⟨?_,fun x hx=>(h x hx).below hb3⟩
   obtain ⟨x,hx⟩:∃ x,p.decls[i]? = some x:=⟨_,List.getElem?_eq_getElem hi⟩
   obtain ⟨_,_,e0,_⟩:=h x hx
   have hlt:b < w0.heap.size:=World.block_lt_of_cell? _ _ e0
   exact stillOld b ⟨Nat.lt_of_lt_of_le hlt hB0.out.size,(hBa.out.free b hlt).1,(hBa.out.free b hlt).2⟩
  have HPS:=hid PS
  have VB:=hid vB
  have VWB:=hid vwB
  have HR3:=hid hr3
  have V0:=hid v0
  have VY:=hid vy
  have VM:=hid vm
  have SNEW:=hid stillNew
  have SOLD:=hid stillOld
  have NEARX:=hid NearX
  clear v0 v1 v2 vb2 vm vB vy vwB hr3 stillNew stillOld PS NearX hwW b0 b1 x0 x1 x2 x3
  have hAb:Hid (∀ V:World,W.heap.size≤V.heap.size→AbidesE rw (fun _=>False) V.heap.size (fun (pre:List Int) X=>J pre X∧Kept Mx rw V X)):=hid fun V hV s X Y row h hg hr=>⟨hJ.out s X Y row h.1 hg fun r e=>⟨(hr r e).1.imp (Nat.le_trans hV) id,(hr r e).2⟩,QDR (β:=Unit) (M:=Mx) (E:=fun _=>False) (V:=V) (fun A C hAC=>hN.out.same A C fun k hk=>hAC k (by have:=hW.out.size;omega) (fun h=>h)) (fun k h=>h.elim) () X Y row h.2 hg hr⟩
  refine QBl (α:=Int) rfl (by decide) (gf:=60) (lb:=#[.pointer (some ⟨w2.heap.size+1,0,none⟩),.pointer (some ⟨w2.heap.size+1+1,0,none⟩)]) rfl trivial (enters_of Tryz.func60 (by kernel_rfl) rfl)
   (QFj 5 p _ _ mf _ (fun _=>False) Mx rw V3 (by rw [hnd.out];omega) NX3.out HPS.out) (fun _ _ _ _ _ h=>h) NX3.out (fun _ h=>h.elim) (fun _=>rfl)
   (fun pre X=>J pre X∧Kept Mx rw V3 X) (fun c pre X=>c = .ret∧Jx pre X) (hAb.out V3 VB.out.size) (fun c s X Y row h hg hr=>⟨h.1,hJx.out s X Y row h.2 hg fun r e=>⟨(hr r e).1.imp (Nat.le_trans VB.out.size) id,(hr r e).2⟩⟩) (fun s X h=>hJr.out s X h.1)
   ⟨hJ.out.below VB.out h0.out,Kept.start NX3.out (Below.refl _ _)⟩
   (fun v a' _=>a' = { tmps:=#[.func (.yield lp) #[] #[],.pointer (some ⟨B,0,none⟩),.pointer (some ⟨W.heap.size,0,none⟩),.pointer (some ⟨w2.heap.size,0,none⟩),.int .i64 v,undef,undef,undef,undef,undef,undef,(.agg #[.slice o1 nd c1,.slice o2 ne c2]),.bool true,.bool false,(.agg #[.slice o1 nd c1,.slice o2 ne c2]),.map (some mf),(.agg #[.slice o1 nd c1,.slice o2 ne c2]),.map (some mf),.func (.func 60) #[] #[.pointer (some ⟨w2.heap.size+1,0,none⟩),.pointer (some ⟨w2.heap.size+1+1,0,none⟩)],.int .i64 v,undef,undef,undef,undef,undef,undef,undef,undef,undef,undef,undef,undef,undef,undef,undef,undef,undef,undef,undef,undef,undef,undef,undef,undef,undef,undef,undef,undef,undef,undef,undef,undef,undef,undef,undef,undef,undef,undef,undef,undef,undef],defers:=[] }) (fun v a' Z l o o' _ _ _ h=>h) ?assign ?body ?done ?stop
  case assign =>
   rintro lp' pre v X K hi hs hK
   gi_wp2
   exact hK _ _ (Below.refl _ _) rfl
  case body =>
   rintro lp' pre v a' X hs ⟨hj,hk⟩ rfl hlt
   have yb:=QDc ((hk.2.2 _ (SNEW.out _ (Nat.le_refl _) (lt_of_heap VY.out))).trans VY.out)
   have hpl:pre.length < 60000:=by have:=QFq p;have:=hnd.out;omega
   obtain ⟨fn,tmps,assign,body,hy,hR⟩:=YieldAt.deep (F:=Fence.wide) rfl 3 (hY.out pre v X hj hpl)
   have hy' : (Instr.yield lp #[.int .i64 v]).run Tryz.prog X = .ok (.round lp fn tmps assign body) X:=hy
   have HRd:=hid hR
   have HJK:=hid (And.intro hj hk)
   clear hy hR hj hk hlt hpl hs
   gi_wp2
   refine HRd.out.mono ?_
   rintro e X' (⟨rfl,h1,h2⟩ | ⟨rfl,h1,h2⟩)
   ·have HX:=hid (And.intro h1 h2)
    clear h1 h2 yb hy'
    gi_wp2
    obtain ⟨n1,n2⟩:=QE4 hN.out.old hW.out.size VB.out.size (hJr.out _ _ HJK.out.1) HX.out.2
    rw [← hMx] at n2
    exact ⟨n1,n2,HX.out.1,HJK.out.2.keepx n2⟩
   ·have HX:=hid (And.intro h1 h2)
    clear h1 h2 yb hy'
    gi_wp2
    exact ⟨QDQ HX.out.2 VB.out.size,rfl,HX.out.1⟩
  case stop =>
   rintro D0 c pre Y hD hpre ⟨rfl,hjx⟩ hmark
   have HX:=hid (show _∧_∧_∧_ from ⟨hD,hpre,hjx,hmark⟩)
   clear hD hpre hjx hmark
   dsimp only
   gi_wp2_with fail
   refine QBw (fun w=>results_none (by kernel_rfl) _ _ _) [D0] Y (by simp) (by simpa using HX.out.2.2.2) ?_
   exact ⟨⟨_,rfl⟩,.inr ⟨pre,fun a ha=>⟨HMN.out,.inl (HX.out.2.1.subset ha)⟩,QBs hJx.out pre [D0] Y (by simp) (by simpa using ⟨Nat.le_trans VB.out.size HX.out.1,HX.out.2.2.2⟩) HX.out.2.2.1⟩⟩
  case done =>
   rintro D0 ys Y hD hys ⟨hj,hk⟩ hmark
   have hBY:Y.heap[B]? = some (.cells #[.slice o1 nd c1,.slice o2 ne c2] 26 (0,0)):=(hk.2.2 B (SOLD.out B hS.out)).trans ((VWB.out.block B hS.out.1).trans hBc.out)
   obtain ⟨b0,b1⟩:=QAA hBY
   have WA:=hid (QIi o1 o2 nd c1 ne c2 (by omega) Y)
   have HBY:=hid hBY
   have HD:=hid (show V3.heap.size≤D0∧ys = QC7 p∧J ys Y∧Kept Mx rw V3 Y∧Y.heap[D0]? = some (.deferred (some [])) from ⟨hD,hys,hj,hk,hmark⟩)
   clear hD hys hj hk hmark hBY
   dsimp only
   gi_wp2_with (refine ⟨trivial,?_⟩;gi_at_call 38;((with_reducible refine (callsIn_wide.2 WA.out).mono ?_);rintro e w4 ⟨rfl,h1,h2,h3,h4⟩;have HW4:=hid (And.intro h1 (And.intro h2 (And.intro h3 h4)));obtain ⟨b2,b3⟩:=QAA ((h4.block _ (lt_of_heap HBY.out)).trans HBY.out);clear h1 h2 h3 h4))
   obtain ⟨hD,hys,hj,hk,hmark⟩:=HD.out
   obtain ⟨g1,g2,g3,g4⟩:=HW4.out
   have hk4:Kept Mx rw w4 w4:=Kept.start (M:=Mx) (rw:=rw) ⟨fun k h=>Nat.lt_of_lt_of_le (NX3.out.old k h) (Nat.le_trans hk.1 g4.size),fun k h=>by
    rw [hN.out.same Y w4 fun i hi=>g4.block i (by have:=hW.out.size;have:=VB.out.size;have:=hk.1;omega)] at h
    obtain ⟨o,h1,_⟩:=hJr.out _ _ hj k h
    exact Nat.lt_of_lt_of_le (lt_of_heap h1) g4.size,fun X Z h=>hN.out.same X Z fun i hi=>h i (by have:=hW.out.size;have:=VB.out.size;have:=hk.1;have:=g4.size;omega)⟩ (Below.refl _ _)
   have L0:WrL Mx rw W w4 (Y.heap.size+1) ne p J 0 ys [D0] w4:=⟨hJ.out.below g4 hj,⟨hk4.1,hk4.2.1,fun k h=>rfl⟩,g3,fun a=>by
     rw [hys]
     exact ⟨fun h=>.inl h,fun h=>h.elim id fun ⟨i,_,hi,_⟩=>by omega⟩,by
     rw [hys];have:=QFq p;have:=hnd.out;omega,by simp,fun D h=>by
     rw [List.mem_singleton.1 h]
     have h1:=(g4.block D0 (lt_of_heap hmark)).trans hmark
     exact ⟨⟨Nat.le_trans VB.out.size hD,lt_of_heap h1⟩,h1⟩⟩
   have HL0:=hid L0
   clear hD hys hj hk hmark g1 g2 g3 g4 hk4 L0 b0 b1 b2 b3
   refine wpIn_loop (fun a' X=>∃ (j:Nat) (pre:List Int) (Ds:List Nat) (u6 u7 u8 u9 IG Ek El Em En Eo Ep Eq Er Es EJ EK EL EM EO Et Eu Ev Ew EP EQ ER ET EU EV EW EX EY EZ Ea Eb Ec:Value),a' = { tmps:=#[.func (.yield lp) #[] #[],.pointer (some ⟨B,0,none⟩),.pointer (some ⟨W.heap.size,0,none⟩),.pointer (some ⟨w2.heap.size,0,none⟩),undef,.func (.func 61) #[] #[.pointer (some ⟨Y.heap.size,0,none⟩),.pointer (some ⟨Y.heap.size+1+1,0,none⟩)],u6,u7,u8,u9,IG,(.agg #[.slice o1 nd c1,.slice o2 ne c2]),.bool true,.bool false,(.agg #[.slice o1 nd c1,.slice o2 ne c2]),.map (some mf),(.agg #[.slice o1 nd c1,.slice o2 ne c2]),.map (some mf),.func (.func 60) #[] #[.pointer (some ⟨w2.heap.size+1,0,none⟩),.pointer (some ⟨w2.heap.size+1+1,0,none⟩)],undef,undef,undef,undef,undef,(.agg #[.slice o1 nd c1,.slice o2 ne c2]),.func (.func 61) #[] #[.pointer (some ⟨Y.heap.size,0,none⟩),.pointer (some ⟨Y.heap.size+1+1,0,none⟩)],.pointer (some ⟨B,0,none⟩),.slice o1 nd c1,.int .i64 (nd:Int),.int .i64 (j:Int),Ek,El,Em,En,Eo,Ep,Eq,Er,Es,EJ,EK,EL,EM,EO,Et,Eu,Ev,Ew,EP,EQ,ER,ET,EU,EV,EW,EX,EY,EZ,Ea,Eb,Ec],defers:=markL Ds }∧j≤nd∧Hid (WrL Mx rw W w4 (Y.heap.size+1) ne p J j pre Ds X)) (fun a' _=>nd - QA2 (a'.tmps.getD 29 undef)) ⟨0,ys,[D0],_,_,_,_,_,_,_,_,_,_,_,_,_,_,_,_,_,_,_,_,_,_,_,_,_,_,_,_,_,_,_,_,_,_,_,_,rfl,Nat.zero_le _,HL0⟩ ?_
   clear HL0
   rintro a' X ⟨j,pre,Ds,u6,u7,u8,u9,IG,Ek,El,Em,En,Eo,Ep,Eq,Er,Es,EJ,EK,EL,EM,EO,Et,Eu,Ev,Ew,EP,EQ,ER,ET,EU,EV,EW,EX,EY,EZ,Ea,Eb,Ec,rfl,hjn,hl⟩
   rcases Nat.lt_or_ge j nd with hlt | hge
   ·have hlt' : (j:Int) < (nd:Int):=by omega
    obtain ⟨d,hdj⟩:∃ d,p.decls[j]? = some d:=⟨_,List.getElem?_eq_getElem (by rw [hnd.out];exact hlt)⟩
    have HDJ:=hid hdj
    have hYw:W.heap.size≤Y.heap.size:=Nat.le_trans VB.out.size HD.out.2.2.2.1.1
    have hw4:Below Y.heap.size Y w4:=HW4.out.2.2.2
    have hY4:Y.heap.size≤w4.heap.size:=hw4.size
    have HSZ:=hid (And.intro hYw hY4)
    have rw4:∀ k,rw w4 = some k→k < Y.heap.size:=fun k h=>by
     rw [hN.out.same Y w4 fun i hi=>hw4.block i (by have:=hW.out.size;omega)] at h
     obtain ⟨o,h1,_⟩:=hJr.out _ _ HD.out.2.2.1 k h
     exact lt_of_heap h1
    have mxW:∀ k,Mx k→k < W.heap.size:=fun k h=>by
     rw [hMx] at h
     rcases h with h | h
     ·have:=hN.out.old k h;have:=hW.out.size;omega
     ·exact h.2
    have MXW:=hid mxW
    have keptV:∀ k,k < w4.heap.size→¬ Mx k→k≠Y.heap.size+1→rw w4≠some k→X.heap[k]? = w4.heap[k]?:=fun k h1 h2 h3 h4=>hl.out.kept.2.2 k ⟨h1,fun h=>h.elim h2 h3,h4⟩
    have hOld:Old w0 X:=by
     refine ⟨Nat.le_trans hBa.out.lies.1 (Nat.le_trans hW.out.size (Nat.le_trans hYw (Nat.le_trans hY4 hl.out.kept.1))),fun k hk=>?_⟩
     have h1:=(hBa.out.free k hk)
     have h2:k < w.heap.size:=Nat.lt_of_lt_of_le hk hBa.out.lies.1
     have s3:=SOLD.out k ⟨h2,h1.1,h1.2⟩
     have e3:=HD.out.2.2.2.1.2.2 k s3
     have e4:=hw4.block k (by have:=hW.out.size;omega)
     have r4:rw w4≠some k:=fun h=>by
      rw [hN.out.same Y w4 fun i hi=>hw4.block i (by have:=hW.out.size;omega)] at h
      rcases HD.out.2.2.2.1.2.1 k h with h5 | h5
      ·exact s3.2.2 h5
      ·have:=s3.1;omega
     exact (keptV k (by have:=hW.out.size;omega) s3.2.1 (by have:=hW.out.size;omega) r4).trans (e4.trans (e3.trans ((VWB.out.block k h2).trans (hBa.out.lies.2 k hk))))
    have HOLD:=hid hOld
    have lay:∀ k o,W.heap.size≤k→k < V3.heap.size→V3.heap[k]? = some o→X.heap[k]? = some o:=fun k o h1 h2 h3=>by
     have e3:=HD.out.2.2.2.1.2.2 k (SNEW.out k h1 h2)
     have e4:=hw4.block k (by have:=HD.out.2.2.2.1.1;omega)
     have r4:rw w4≠some k:=fun h=>by
      rw [hN.out.same Y w4 fun i hi=>hw4.block i (by have:=hW.out.size;omega)] at h
      rcases HD.out.2.2.2.1.2.1 k h with h5 | h5
      ·exact (SNEW.out k h1 h2).2.2 h5
      ·omega
     exact (keptV k (by have:=HD.out.2.2.2.1.1;omega) (fun h=>by have:=mxW k h;omega) (by have:=HD.out.2.2.2.1.1;omega) r4).trans (e4.trans (e3.trans h3))
    have lay4:∀ k o,Y.heap.size≤k→k≠Y.heap.size+1→w4.heap[k]? = some o→X.heap[k]? = some o:=fun k o h1 h2 h3=>(keptV k (lt_of_heap h3) (fun h=>by have:=mxW k h;omega) h2 (fun h=>by have:=rw4 k h;omega)).trans h3
    have XY:=hid (lay _ _ (Nat.le_refl _) (lt_of_heap VY.out) VY.out)
    have X3:=hid (lay _ _ (by have:=HB2.out.size;omega) (lt_of_heap V0.out) V0.out)
    have XM:Hid (MapIs X 9 mf p.decls.length (QCj (QFY p.decls))):=hid (by
     obtain ⟨es,cl,h1⟩:=VM.out.map
     exact VM.out.same ((lay _ _ (by have:=HMF.out;have:=HB1.out.size;omega) (lt_of_heap h1) h1).trans h1.symm))
    have XP:=hid (lay4 _ _ (Nat.le_refl _) (by omega) HW4.out.1)
    have XQ:=hid (lay4 _ _ (by omega) (by omega) HW4.out.2.1)
    have hBX:X.heap[B]? = some (.cells #[.slice o1 nd c1,.slice o2 ne c2] 26 (0,0)):=by
     have s3:=SOLD.out B hS.out
     have h2:=hS.out.1
     have e3:=HD.out.2.2.2.1.2.2 B s3
     have e4:=hw4.block B (by have:=hW.out.size;omega)
     have r4:rw w4≠some B:=fun h=>by
      rw [hN.out.same Y w4 fun i hi=>hw4.block i (by have:=hW.out.size;omega)] at h
      rcases HD.out.2.2.2.1.2.1 B h with h5 | h5
      ·exact s3.2.2 h5
      ·have:=s3.1;omega
     exact (keptV B (by have:=hW.out.size;omega) s3.2.1 (by have:=hW.out.size;omega) r4).trans (e4.trans (e3.trans ((VWB.out.block B h2).trans hBc.out)))
    have XB:=hid hBX
    have hrX:∀ k,rw X = some k→k < X.heap.size:=fun k h=>by obtain ⟨o,h1,_⟩:=hJr.out _ _ hl.out.hj k h;exact lt_of_heap h1
    have HRX:=hid hrX
    have hrXold:∀ k,rw X = some k→rw w4 = some k∨w4.heap.size≤k:=hl.out.kept.2.1
    have HRXO:Hid (∀ k,rw X = some k→(k < Y.heap.size∧rw Y = some k)∨w4.heap.size≤k):=hid fun k h=>(hrXold k h).imp (fun h=>⟨rw4 k h,by rwa [hN.out.same Y w4 fun i hi=>hw4.block i (by have:=hW.out.size;omega)] at h⟩) id
    clear hYw hw4 hY4 rw4 mxW keptV hOld lay lay4 hBX hrX hrXold
    have hsd:=hsm.out.de d (List.mem_of_getElem? hdj)
    obtain ⟨sp,st,e0,e1,e2,e3,e4,e5,e6,hps,hts,hok⟩:=hdc.out j hlt d hdj
    have HPS2:=hid hps
    have HTS2:=hid hts
    obtain ⟨op,capp,bp,fp,rfl,_⟩:=id hps
    obtain ⟨oi,capi,bi,fi,rfl,_⟩:=id hts
    have DV0:Hid (DeVal w0 (.agg #[.int .i64 d.kind,.string d.name,.slice op d.params.length capp,.slice oi d.items.length capi,.int .i64 d.type,.int .i64 d.e,.int .i64 d.pos]) d):=hid ⟨_,_,rfl,hps,hts,hok⟩
    have p0:=HOLD.out.cell e0
    have p1:=HOLD.out.cell e1
    have p2:=HOLD.out.cell e2
    have p3:=HOLD.out.cell e3
    have p4:=HOLD.out.cell e4
    have p5:=HOLD.out.cell e5
    have p6:=HOLD.out.cell e6
    have ix:=QCh (cap:=c1) hd.out hlt (by omega)
    unfold Ix at ix
    have hpl:d.params.length≤600:=by
     have h:=hsd.1
     unfold wDe at h
     omega
    have hst:∀ x∈d.items,x.states.length≤1000:=fun x hx=>by have:=hsd.2.2 x hx;omega
    have HLEN:=hid (show d.params.length≤600∧d.items.length≤600∧∀ x∈d.items,x.states.length≤1000 from ⟨hpl,hsd.2.1,hst⟩)
    have SA:Hid (∀ Z,Below X.heap.size X Z→CallsIn Fence.wide 5 Tryz.prog 39 #[.agg #[.int .i64 d.kind,.string d.name,.slice op d.params.length capp,.slice oi d.items.length capi,.int .i64 d.type,.int .i64 d.e,.int .i64 d.pos]] Z fun r Y=>QL3 d Z r Y):=hid fun Z hZ=>QIW d _ Z (DV0.out.old (HOLD.out.trans hZ)) (by omega) (by have:=hsd.2.1;omega) hst
    have WI:=hid (fun m1 m2 Z=>QFk op oi d.params.length capp d.items.length capi m1 m2 d.kind d.type d.e d.pos d.name Z)
    have HBd:=hid (QA5 (Below.refl X.heap.size X) (.cells #[.int .i64 d.kind,.string d.name,.slice op d.params.length capp,.slice oi d.items.length capi,.int .i64 d.type,.int .i64 d.e,.int .i64 d.pos] 36))
    clear e0 e1 e2 e3 e4 e5 e6 hps hts hok hpl hst hsd hdj
    gi_wp2_with (first
     | (refine ⟨trivial,?_⟩;gi_at_call 39;((with_reducible refine (callsIn_wide.2 (callsIn_wide.1 (SA.out _ HBd.out))).mono ?_);rintro e w5 ⟨m1,m2,rfl,hm1,hm2,hne5,hsc,hb5⟩;have HSC:=hid (show _∧_∧_∧_ from ⟨hm1,hm2,hne5,hsc⟩);have HB5:=hid hb5;obtain ⟨_,y0,y1,y2,y3,y4,y5,y6⟩:=QAe (QAa (o:=.cells #[.map (some m1),.map (some m2)] 91) ((hb5.block _ (by simp)).trans (QAR (W:=X) (o:=.cells #[.int .i64 d.kind,.string d.name,.slice op d.params.length capp,.slice oi d.items.length capi,.int .i64 d.type,.int .i64 d.e,.int .i64 d.pos] 36) rfl)));clear hm1 hm2 hne5 hsc hb5))
     | (refine ⟨trivial,?_⟩;gi_at_call 40;((with_reducible refine (callsIn_wide.2 (WI.out _ _ _)).mono ?_);rintro e w6 ⟨rfl,rfl⟩)))
    obtain ⟨V6,hV6⟩:∃ V6,V6 = ((w5.alloc (.cells #[.map (some m1),.map (some m2)] 91)).alloc (.cells #[.int .i64 d.kind,.string d.name,.slice op d.params.length capp,.slice oi d.items.length capi,.int .i64 d.type,.int .i64 d.e,.int .i64 d.pos] 36)).alloc (.cells #[.map (some m1),.map (some m2)] 91):=⟨_,rfl⟩
    have v0:V6.heap[w5.heap.size]? = some (.cells #[.map (some m1),.map (some m2)] 91 (0,0)):=by rw [hV6];exact QAa (QAa (QAR rfl))
    have v1:V6.heap[w5.heap.size+1]? = some (.cells #[.int .i64 d.kind,.string d.name,.slice op d.params.length capp,.slice oi d.items.length capi,.int .i64 d.type,.int .i64 d.e,.int .i64 d.pos] 36 (0,0)):=by rw [hV6];exact QAa (QAR (by simp))
    have v2:V6.heap[w5.heap.size+1+1]? = some (.cells #[.map (some m1),.map (some m2)] 91 (0,0)):=by rw [hV6];exact QAR (by simp)
    have vb5:Below w5.heap.size w5 V6:=by rw [hV6];exact (((Below.refl _ _).alloc (Nat.le_refl _) _).alloc (by simp) _).alloc (by simp;omega) _
    have vX:Below X.heap.size X V6:=HBd.out.trans ((HB5.out.trans (vb5.mono HB5.out.size)).mono HBd.out.size)
    have vsc:ScAt V6 m1 m2 d:=HSC.out.2.2.2.below vb5
    rw [← hV6]
    clear hV6 y0 y1 y2 y3 y4 y5 y6 p0 p1 p2 p3 p4 p5 p6 ix
    have VX:=hid vX
    have rw6:rw V6 = rw X:=hN.out.same X V6 fun k hk=>vX.block k (by have:=hW.out.size;have:=HSZ.out;have:=hl.out.kept.1;omega)
    have RW6:=hid rw6
    have NEAR:Hid (∀ V,(∀ k,rw V = some k→k < V.heap.size)→W.heap.size≤V.heap.size→Near Mx rw V):=hid fun V h1 h2=>⟨fun k h=>Nat.lt_of_lt_of_le (MXW.out k h) h2,h1,fun A C h=>hN.out.same A C fun k hk=>h k (by have:=hW.out.size;omega)⟩
    have HWX:Hid (W.heap.size≤X.heap.size∧w4.heap.size≤X.heap.size):=hid (by have:=HSZ.out;have:=hl.out.kept.1;omega)
    have N6:=hid (NEAR.out V6 (fun k h=>by rw [rw6] at h;exact Nat.lt_of_lt_of_le (HRX.out k h) vX.size) (Nat.le_trans HWX.out.1 vX.size))
    have B6:Hid (Base w0 Mx rw V6):=hid ⟨HOLD.out.trans vX,fun k hk=>⟨fun h=>by
      rw [hMx] at h
      rcases h with h | h
      ·exact (hBa.out.free k hk).1 h
      ·have:=hBa.out.lies.1;omega,fun h=>by
      rw [rw6] at h
      rcases HRXO.out k h with ⟨_,h5⟩ | h5
      ·rcases HD.out.2.2.2.1.2.1 k h5 with h6 | h6
       ·rw [HR3.out] at h6;exact (hBa.out.free k hk).2 h6
       ·have:=hBa.out.lies.1;have:=VWB.out.size;omega
      ·have:=hBa.out.lies.1;have:=hW.out.size;have:=HSZ.out;omega⟩⟩
    have own6:∀ k,X.heap.size≤k→k < V6.heap.size→QAc Mx rw V6 k:=fun k h1 h2=>⟨h2,fun h=>by have:=MXW.out k h;have:=HWX.out;omega,fun h=>by rw [rw6] at h;have:=HRX.out k h;omega⟩
    have sm1:=own6 m1 (by have:=HSC.out.1;simp at this;omega) vsc.vars.lt
    have sm2:=own6 m2 (by have:=HSC.out.2.1;simp at this;omega) vsc.states.lt
    have hs5:X.heap.size≤w5.heap.size:=Nat.le_trans HBd.out.size HB5.out.size
    have WI6:=hid (QFl 5 d _ _ (w5.heap.size+1) (w5.heap.size+1+1) m1 m2 w0 (fun _=>False) Mx rw V6 N6.out B6.out HPS2.out HTS2.out (by have:=HLEN.out.1;omega) (by have:=HLEN.out.2.1;omega) HLEN.out.2.2 ⟨own6 _ (by omega) (lt_of_heap v1),own6 _ (by omega) (lt_of_heap v2),sm1,sm2⟩ v1 v2 vsc (QMc DV0.out (by have:=HLEN.out.1;omega) (by have:=HLEN.out.2.1;omega)))
    have V60:=hid (show V6.heap[w5.heap.size]? = some (.cells #[.map (some m1),.map (some m2)] 91 (0,0))∧ScAt V6 m1 m2 d∧X.heap.size≤w5.heap.size∧X.heap.size≤m1∧X.heap.size≤m2 from ⟨v0,vsc,hs5,by have:=HSC.out.1;simp at this;omega,by have:=HSC.out.2.1;simp at this;omega⟩)
    have hY6:=hid (QDc ((vX.block _ (lt_of_heap XY.out)).trans XY.out))
    have sY6:Hid (QAc Mx rw V6 W.heap.size):=hid ⟨Nat.lt_of_lt_of_le (lt_of_heap XY.out) vX.size,fun h=>by have:=MXW.out _ h;omega,fun h=>by
     rw [rw6] at h
     rcases HRXO.out _ h with ⟨_,h5⟩ | h5
     ·rcases HD.out.2.2.2.1.2.1 _ h5 with h6 | h6
      ·rw [HR3.out] at h6;have:=hN.out.row _ h6;have:=hW.out.size;omega
      ·have:=lt_of_heap VY.out;omega
     ·have:=HSZ.out;have:=lt_of_heap VY.out;have:=HD.out.2.2.2.1.1;omega⟩
    have noRow:∀ k,rw V6 = some k→(rw w = some k∨(V3.heap.size≤k∧k < Y.heap.size))∨w4.heap.size≤k:=fun k h=>by
     rw [rw6] at h
     rcases HRXO.out k h with ⟨h4,h5⟩ | h5
     ·rcases HD.out.2.2.2.1.2.1 k h5 with h6 | h6
      ·exact .inl (.inl (by rw [← HR3.out];exact h6))
      ·exact .inl (.inr ⟨h6,h4⟩)
     ·exact .inr h5
    have in6:∀ {k o},X.heap[k]? = some o→V6.heap[k]? = some o:=fun {k o} h=>(vX.block k (lt_of_heap h)).trans h
    have stl:∀ {k o},X.heap[k]? = some o→(W.heap.size≤k∨QAc M rw w k)→(k < V3.heap.size∨(Y.heap.size≤k∧k < w4.heap.size))→QAc Mx rw V6 k:=fun {k o} h h1 h2=>⟨lt_of_heap (in6 h),fun hm=>by
      rcases h1 with h1 | h1
      ·have:=MXW.out k hm;omega
      ·rw [hMx] at hm
       rcases hm with hm | hm
       ·exact h1.2.1 hm
       ·have:=h1.1;omega,fun hr=>by
      rcases noRow k hr with (h3 | h3) | h3
      ·rcases h1 with h1 | h1
       ·have:=hN.out.row k h3;have:=hW.out.size;omega
       ·exact h1.2.2 h3
      ·omega
      ·have:=HSZ.out;have:=HD.out.2.2.2.1.1;omega⟩
    have hV3Y:V3.heap.size≤Y.heap.size:=HD.out.2.2.2.1.1
    have FB:=hid (And.intro (stl XB.out (.inr hS.out) (.inl (Nat.lt_of_lt_of_le hS.out.1 VWB.out.size))) (in6 XB.out))
    have F3:=hid (And.intro (stl X3.out (.inl HB2.out.size) (.inl (lt_of_heap V0.out))) (in6 X3.out))
    have FP:=hid (And.intro (stl XP.out (.inl (by have:=HSZ.out;omega)) (.inr ⟨Nat.le_refl _,by have:=lt_of_heap HW4.out.1;omega⟩)) (in6 XP.out))
    have FQ:=hid (And.intro (stl XQ.out (.inl (by have:=HSZ.out;omega)) (.inr ⟨by omega,by have:=lt_of_heap HW4.out.2.1;omega⟩)) (in6 XQ.out))
    have FM:Hid (QAc Mx rw V6 mf∧MapIs V6 9 mf p.decls.length (QCj (QFY p.decls))):=hid (by
     obtain ⟨es,cl,h1⟩:=XM.out.map
     exact ⟨stl h1 (.inl (by have:=HMF.out;have:=HB1.out.size;omega)) (.inl VM.out.lt),XM.out.same ((in6 h1).trans h1.symm)⟩)
    have FK:Hid (QAc Mx rw V6 (Y.heap.size+1)∧MarksLe V6 (Y.heap.size+1) ne (j:Int)):=hid (by
     obtain ⟨cs,h1,_⟩:=id hl.out.marks
     exact ⟨stl h1 (.inl (by have:=HSZ.out;omega)) (.inr ⟨by omega,by have:=lt_of_heap HW4.out.2.1;omega⟩),hl.out.marks.same ((in6 h1).trans h1.symm)⟩)
    have FS:=hid (show QAc Mx rw V6 w5.heap.size∧QAc Mx rw V6 m1∧QAc Mx rw V6 m2 from ⟨own6 _ hs5 (lt_of_heap v0),sm1,sm2⟩)
    have HDS6:Hid (∀ D∈Ds,QAc Mx rw V6 D∧V6.heap[D]? = some (.deferred (some []))):=hid fun D hD=>by
     obtain ⟨⟨h1,h2⟩,h3⟩:=hl.out.ds D hD
     refine ⟨⟨Nat.lt_of_lt_of_le h2 vX.size,fun h=>by have:=MXW.out D h;omega,fun h=>?_⟩,in6 h3⟩
     rw [rw6] at h
     obtain ⟨o,h4,h5⟩:=hJr.out _ _ hl.out.hj D h
     rw [h3] at h4;cases h4;cases h5
    have HDB:Hid (∀ D∈Ds,D≠Y.heap.size+1):=hid fun D hD e=>by
     obtain ⟨cs,h1,_⟩:=id hl.out.marks
     have h3:=(hl.out.ds D hD).2
     rw [e,h1] at h3;cases h3
    clear v0 v1 v2 vb5 vX vsc rw6 own6 sm1 sm2 hs5 noRow in6 stl hV3Y
    have HJ6:Hid (J pre V6):=hid (hJ.out.below VX.out hl.out.hj)
    have hpre2:Hid (pre.length≤61+j*902∧j≤60):=hid ⟨hl.out.len,by omega⟩
    refine QBl (α:=Int) rfl (by decide) (gf:=67) (lb:=#[.pointer (some ⟨w5.heap.size+1,0,none⟩),.pointer (some ⟨w5.heap.size+1+1,0,none⟩)]) rfl trivial (enters_of Tryz.func67 (by kernel_rfl) rfl)
     WI6.out (fun _ _ _ _ _ h=>h) N6.out (fun _ h=>h.elim) (fun _=>rfl)
     (fun qs Z=>J (pre ++ qs) Z∧Kept Mx rw V6 Z) (fun c qs Z=>c = .ret∧Jx (pre ++ qs) Z∧∀ D∈Ds,Z.heap[D]? = some (.deferred (some []))) (fun s A C row h hg hr=>⟨hJ.out _ A C row h.1 hg fun r e=>⟨(hr r e).1.imp (Nat.le_trans (Nat.le_trans HWX.out.1 VX.out.size)) id,(hr r e).2⟩,(QDR (β:=Unit) (M:=Mx) (E:=fun _=>False) (V:=V6) (fun A C hAC=>hN.out.same A C fun k hk=>hAC k (by have:=hW.out.size;have:=HWX.out;have:=VX.out.size;omega) (fun h=>h)) (fun k h=>h.elim) () A C row h.2 hg hr)⟩)
     (fun c s A C row h hg hr=>⟨h.1,hJx.out _ A C row h.2.1 hg fun r e=>⟨(hr r e).1.imp (Nat.le_trans (Nat.le_trans HWX.out.1 VX.out.size)) id,(hr r e).2⟩,fun D hD=>(hg.block D (lt_of_heap (h.2.2 D hD)) (fun e=>by rcases (hr D e.symm).1 with h1 | h1;have:=(HDS6.out D hD).1.1;omega;exact h1)).trans (h.2.2 D hD)⟩) (fun s A h=>hJr.out _ A h.1)
     ⟨by rw [List.append_nil];exact HJ6.out,Kept.start N6.out (Below.refl _ _)⟩
     (fun v a' _=>a' = { tmps:=#[.func (.yield lp) #[] #[],.pointer (some ⟨B,0,none⟩),.pointer (some ⟨W.heap.size,0,none⟩),.pointer (some ⟨w2.heap.size,0,none⟩),undef,.func (.func 61) #[] #[.pointer (some ⟨Y.heap.size,0,none⟩),.pointer (some ⟨Y.heap.size+1+1,0,none⟩)],.int .i64 (j:Int),.pointer (some ⟨X.heap.size,0,none⟩),.pointer (some ⟨w5.heap.size,0,none⟩),.int .i64 v,IG,(.agg #[.slice o1 nd c1,.slice o2 ne c2]),.bool true,.bool false,(.agg #[.slice o1 nd c1,.slice o2 ne c2]),.map (some mf),(.agg #[.slice o1 nd c1,.slice o2 ne c2]),.map (some mf),.func (.func 60) #[] #[.pointer (some ⟨w2.heap.size+1,0,none⟩),.pointer (some ⟨w2.heap.size+1+1,0,none⟩)],undef,undef,undef,undef,undef,(.agg #[.slice o1 nd c1,.slice o2 ne c2]),.func (.func 61) #[] #[.pointer (some ⟨Y.heap.size,0,none⟩),.pointer (some ⟨Y.heap.size+1+1,0,none⟩)],.pointer (some ⟨B,0,none⟩),.slice o1 nd c1,.int .i64 (nd:Int),.int .i64 (j:Int),.bool true,.int .i64 (j:Int),.pointer (some ⟨db,doff+j*7,none⟩),.agg #[.int .i64 d.kind,.string d.name,.slice op d.params.length capp,.slice oi d.items.length capi,.int .i64 d.type,.int .i64 d.e,.int .i64 d.pos],.agg #[.int .i64 d.kind,.string d.name,.slice op d.params.length capp,.slice oi d.items.length capi,.int .i64 d.type,.int .i64 d.e,.int .i64 d.pos],.agg #[.map (some m1),.map (some m2)],.agg #[.int .i64 d.kind,.string d.name,.slice op d.params.length capp,.slice oi d.items.length capi,.int .i64 d.type,.int .i64 d.e,.int .i64 d.pos],.agg #[.map (some m1),.map (some m2)],.func (.func 67) #[] #[.pointer (some ⟨w5.heap.size+1,0,none⟩),.pointer (some ⟨w5.heap.size+1+1,0,none⟩)],.int .i64 v,EK,EL,EM,EO,Et,Eu,Ev,Ew,EP,EQ,ER,ET,EU,EV,EW,EX,EY,EZ,Ea,Eb,Ec],defers:=[] }) (fun v a' Z l o o' _ _ _ h=>h) ?assign2 ?body2 ?done2 ?stop2
    case assign2 =>
     rintro lp' qs v Z K hi hs hK
     gi_wp2
     exact hK _ _ (Below.refl _ _) rfl
    case body2 =>
     rintro lp' qs v a' Z hs ⟨hj,hk⟩ rfl hlt2
     have yb:Z.cell? ⟨W.heap.size,0,none⟩ = some (.func (.yield lp) #[] #[]):=(cell_same' (hk.2.2 _ sY6.out) _).trans hY6.out
     have hpl:(pre ++ qs).length < 60000:=by have:=QFw d;have:=HLEN.out.2.1;have:=hpre2.out;rw [List.length_append];omega
     obtain ⟨fn,tmps,assign,body,hy,hR⟩:=YieldAt.deep (F:=Fence.wide) rfl 3 (hY.out (pre ++ qs) v Z hj hpl)
     have hy' : (Instr.yield lp #[.int .i64 v]).run Tryz.prog Z = .ok (.round lp fn tmps assign body) Z:=hy
     have HRd:=hid hR
     have HJK:=hid (And.intro hj hk)
     clear hy hR hj hk hlt2 hpl hs
     gi_wp2
     refine HRd.out.mono ?_
     rintro e X' (⟨rfl,h1,h2⟩ | ⟨rfl,h1,h2⟩)
     ·have HX:=hid (And.intro h1 h2)
      clear h1 h2 yb hy'
      gi_wp2
      obtain ⟨n1,n2⟩:=QE4 hN.out.old hW.out.size (Nat.le_trans HWX.out.1 VX.out.size) (hJr.out _ _ HJK.out.1) HX.out.2
      rw [← hMx] at n2
      exact ⟨n1,n2,by rw [← List.append_assoc];exact HX.out.1,HJK.out.2.keepx n2⟩
     ·have HX:=hid (And.intro h1 h2)
      clear h1 h2 yb hy'
      gi_wp2
      exact ⟨QDQ HX.out.2 (Nat.le_trans HWX.out.1 VX.out.size),rfl,by rw [← List.append_assoc];exact HX.out.1,fun D hD=>HX.out.2.same D _ (hl.out.ds D hD).1.1 ((HJK.out.2.2.2 D (HDS6.out D hD).1).trans (HDS6.out D hD).2) rfl⟩
    case stop2 =>
     rintro D1 c qs Z hD1 hpre1 ⟨rfl,hjx,hds⟩ hmark1
     have HX:=hid (show _∧_∧_∧_∧_ from ⟨hD1,hpre1,hjx,hds,hmark1⟩)
     clear hD1 hpre1 hjx hds hmark1
     dsimp only
     gi_wp2_with fail
     have hall:∀ D∈D1 :: Ds,W.heap.size≤D∧Z.heap[D]? = some (.deferred (some [])):=fun D hD=>by
      rcases List.mem_cons.1 hD with rfl | hD
      ·exact ⟨by have:=HX.out.1;have:=HWX.out.1;have:=VX.out.size;omega,HX.out.2.2.2.2⟩
      ·exact ⟨(hl.out.ds D hD).1.1,HX.out.2.2.2.1 D hD⟩
     have hnd2:(D1 :: Ds).Nodup:=List.nodup_cons.2 ⟨fun h=>by have:=(HDS6.out D1 h).1.1;have:=HX.out.1;omega,hl.out.nodup⟩
     refine QBw (fun w=>results_none (by kernel_rfl) _ _ _) (D1 :: Ds) Z hnd2 (fun D h=>(hall D h).2) ?_
     exact ⟨⟨_,rfl⟩,.inr ⟨pre ++ qs,fun a ha=>by
      rcases List.mem_append.1 ha with h | h
      ·exact QHs HMN.out ((hl.out.spec a).1 h)
      ·exact ⟨HMN.out,.inr ⟨d,List.mem_of_getElem? HDJ.out,.inl (HX.out.2.1.subset h)⟩⟩,QBs hJx.out _ (D1 :: Ds) Z hnd2 hall HX.out.2.2.1⟩⟩
    case done2 =>
     rintro D1 qs Y1 hD1 hqs ⟨hj,hk⟩ hmark1
     have HE:=hid (show V6.heap.size≤D1∧qs = QBj d∧J (pre ++ qs) Y1∧Kept Mx rw V6 Y1∧Y1.heap[D1]? = some (.deferred (some [])) from ⟨hD1,hqs,hj,hk,hmark1⟩)
     clear hD1 hqs hj hk hmark1
     have W1:=hid (fun Z=>QIh Y.heap.size (Y.heap.size+1+1) (j:Int) Z)
     dsimp only
     gi_wp2_with (refine ⟨trivial,?_⟩;gi_at_call 61;((with_reducible refine (callsIn_wide.2 (W1.out _)).mono ?_);rintro e w7 ⟨rfl,rfl⟩))
     obtain ⟨V7,hV7⟩:∃ V7,V7 = Y1.alloc (.cells #[.int .i64 (j:Int)] 3):=⟨_,rfl⟩
     have vb:Below Y1.heap.size Y1 V7:=by rw [hV7];exact QA5 (Below.refl _ _) _
     have vd:V7.heap[Y1.heap.size]? = some (.cells #[.int .i64 (j:Int)] 3 (0,0)):=by rw [hV7];exact QAR rfl
     rw [← hV7]
     clear hV7
     obtain ⟨b,hbd⟩:∃ b,b = Y.heap.size+1:=⟨_,rfl⟩
     have hV67:V6.heap.size≤V7.heap.size:=Nat.le_trans HE.out.2.2.2.1.1 vb.size
     have hWV7:W.heap.size≤V7.heap.size:=Nat.le_trans HWX.out.1 (Nat.le_trans VX.out.size hV67)
     have rw7:rw V7 = rw Y1:=hN.out.same Y1 V7 fun k hk=>vb.block k (by have:=hW.out.size;have:=HE.out.2.2.2.1.1;have:=HWX.out;have:=VX.out.size;omega)
     have row7:∀ k,rw V7 = some k→k < V7.heap.size:=fun k h=>by
      rw [rw7] at h
      obtain ⟨o,h1,_⟩:=hJr.out _ _ HE.out.2.2.1 k h
      exact Nat.lt_of_lt_of_le (lt_of_heap h1) vb.size
     have row67:∀ k,rw V7 = some k→rw V6 = some k∨V6.heap.size≤k:=fun k h=>HE.out.2.2.2.1.2.1 k (by rwa [rw7] at h)
     have N7:=hid (NEAR.out V7 row7 hWV7)
     have still7:∀ {k},QAc Mx rw V6 k→QAc Mx rw V7 k:=fun {k} h=>⟨Nat.lt_of_lt_of_le h.1 hV67,h.2.1,fun e=>by rcases row67 k e with h1 | h1;exact h.2.2 h1;have:=h.1;omega⟩
     have in7:∀ {k o},QAc Mx rw V6 k→V6.heap[k]? = some o→V7.heap[k]? = some o:=fun {k o} h ho=>(vb.block k (Nat.lt_of_lt_of_le h.1 HE.out.2.2.2.1.1)).trans ((HE.out.2.2.2.1.2.2 k h).trans ho)
     have B7:Hid (Base w0 Mx rw V7):=hid ⟨⟨Nat.le_trans B6.out.lies.1 hV67,fun k hk=>by
       have h1:=B6.out.free k hk
       have hs:QAc Mx rw V6 k:=⟨Nat.lt_of_lt_of_le hk B6.out.lies.1,h1.1,h1.2⟩
       exact (vb.block k (Nat.lt_of_lt_of_le hs.1 HE.out.2.2.2.1.1)).trans ((HE.out.2.2.2.1.2.2 k hs).trans (B6.out.lies.2 k hk))⟩,fun k hk=>⟨(B6.out.free k hk).1,(still7 ⟨Nat.lt_of_lt_of_le hk B6.out.lies.1,(B6.out.free k hk).1,(B6.out.free k hk).2⟩).2.2⟩⟩
     have hmk7:MarksLe V7 b ne (j:Int):=by
      rw [hbd]
      obtain ⟨cs,h1,_⟩:=id FK.out.2
      exact FK.out.2.same ((in7 FK.out.1 h1).trans h1.symm)
     have sD:QAc Mx rw V7 Y1.heap.size:=⟨lt_of_heap vd,fun h=>by have:=MXW.out _ h;have:=HE.out.2.2.2.1.1;have:=HWX.out;have:=VX.out.size;omega,fun h=>by
      rw [rw7] at h
      obtain ⟨o,h1,_⟩:=hJr.out _ _ HE.out.2.2.1 _ h
      have:=lt_of_heap h1;omega⟩
     have sb7:=still7 FK.out.1
     rw [← hbd] at sb7
     have hmayP:QFE p = true:=by have h:=HMN.out;unfold QFa at h;rw [Bool.and_eq_true] at h;exact h.2
     have hbY1:b < Y1.heap.size:=by rw [hbd];exact Nat.lt_of_lt_of_le FK.out.1.1 HE.out.2.2.2.1.1
     have WS:=hid (QKl 5 p d j (.slice o1 nd c1) (.slice o2 ne c2) Y.heap.size Y1.heap.size (Y.heap.size+1+1) b HDJ.out w0 Mx rw V7 B7.out N7.out.old sb7.2.1 N7.out.row sb7.2.2 (fun A C h=>hN.out.same A C fun k hk=>h k (by have:=hW.out.size;omega) (by have:=HSZ.out;have:=hW.out.size;omega))
      ⟨⟨still7 FP.out.1,by omega⟩,⟨sD,by omega⟩,⟨still7 FQ.out.1,by omega⟩⟩ ⟨sb7.1,by have:=hBa.out.lies.1;have:=hW.out.size;have:=HSZ.out;omega⟩ (in7 FP.out.1 FP.out.2) vd (by rw [hne.out];exact (by rw [hbd];exact in7 FQ.out.1 FQ.out.2)) (by rw [hne.out];exact hmk7) hP.out hsm.out hmayP (QJK hmayP HDJ.out) ⟨HLEN.out.1,HLEN.out.2.1⟩)
     have HB7:=hid (show _∧_∧_∧_ from ⟨hV67,hWV7,hbY1,vb⟩)
     have IN7:Hid (∀ Z,Kept (fun k=>Mx k∨k = b) rw V7 Z→∀ k o,QAc Mx rw V6 k→k≠b→V6.heap[k]? = some o→Z.heap[k]? = some o):=hid fun Z hZ k o h hkb ho=>(hZ.2.2 k ⟨(still7 h).1,fun e=>e.elim h.2.1 hkb,(still7 h).2.2⟩).trans (in7 h ho)
     have HBD:=hid hbd
     have N7b:Hid (Near (fun k=>Mx k∨k = b) rw V7):=hid ⟨fun k h=>h.elim (N7.out.old k) (fun e=>by subst e;exact sb7.1),N7.out.row,N7.out.same⟩
     have B7b:Hid (Base w0 (fun k=>Mx k∨k = b) rw V7):=hid ⟨B7.out.lies,fun k hk=>⟨fun h=>h.elim (B7.out.free k hk).1 (fun e=>by have:=hBa.out.lies.1;have:=hW.out.size;have:=HSZ.out;omega),(B7.out.free k hk).2⟩⟩
     have HJ7:Hid (J (pre ++ qs) V7):=hid (hJ.out.below vb HE.out.2.2.1)
     have HQL:Hid (qs.length≤601):=hid (by rw [HE.out.2.1];have:=QFw d;have:=HLEN.out.2.1;omega)
     have HDS7:Hid (∀ D∈D1 :: Ds,(QAc (fun k=>Mx k∨k = b) rw V7 D∧W.heap.size≤D)∧V7.heap[D]? = some (.deferred (some []))):=hid fun D hD=>by
      rcases List.mem_cons.1 hD with rfl | hD
      ·have h1:=HE.out.2.2.2.2
       have h2:=(vb.block _ (lt_of_heap h1)).trans h1
       refine ⟨⟨⟨lt_of_heap h2,fun h=>h.elim (fun h=>by have:=MXW.out _ h;have:=HE.out.1;have:=HWX.out;have:=VX.out.size;omega) (fun e=>by have:=FK.out.1.1;have:=HE.out.1;omega),fun h=>?_⟩,by have:=HE.out.1;have:=HWX.out;have:=VX.out.size;omega⟩,h2⟩
       rw [rw7] at h
       obtain ⟨o,h4,h5⟩:=hJr.out _ _ HE.out.2.2.1 _ h
       rw [h1] at h4;cases h4;cases h5
      ·have h1:=HDS6.out D hD
       exact ⟨⟨⟨(still7 h1.1).1,fun h=>h.elim h1.1.2.1 (fun e=>HDB.out D hD (by rw [e,hbd])),(still7 h1.1).2.2⟩,(hl.out.ds D hD).1.1⟩,in7 h1.1 h1.2⟩
     have HND:Hid ((D1 :: Ds).Nodup):=hid (List.nodup_cons.2 ⟨fun h=>by have:=(HDS6.out D1 h).1.1;have:=HE.out.1;omega,hl.out.nodup⟩)
     have K7:Hid (Kept (fun k=>Mx k∨k = b) rw w4 V7):=hid (by
      have k1:Kept (fun k=>Mx k∨k = b) rw w4 X:=by rw [hbd];exact hl.out.kept
      have nx:Near (fun k=>Mx k∨k = b) rw X:=⟨fun k h=>h.elim (fun h=>by have:=MXW.out k h;have:=HWX.out;omega) (fun e=>by rw [e,hbd];have:=FK.out.1.1;have:=HWX.out;have:=lt_of_heap HW4.out.2.1;omega),HRX.out,fun A C h=>hN.out.same A C fun k hk=>h k (by have:=hW.out.size;have:=HWX.out;omega)⟩
      have k2:=QD2 k1 (Kept.start nx VX.out)
      have k3:=QD2 k2 (QLv HE.out.2.2.2.1 (fun k h=>.inl h))
      have ny:Near (fun k=>Mx k∨k = b) rw Y1:=⟨fun k h=>h.elim (fun h=>by have:=MXW.out k h;have:=HE.out.2.2.2.1.1;have:=HWX.out;have:=VX.out.size;omega) (fun e=>by rw [e];exact hbY1),fun k h=>by obtain ⟨o,h1,_⟩:=hJr.out _ _ HE.out.2.2.1 k h;exact lt_of_heap h1,fun A C h=>hN.out.same A C fun k hk=>h k (by have:=hW.out.size;have:=HE.out.2.2.2.1.1;have:=HWX.out;have:=VX.out.size;omega)⟩
      exact QD2 k3 (Kept.start ny vb))
     clear hV67 hWV7 rw7 row7 row67 still7 in7 hmk7 sD sb7 hmayP hbY1 vb vd
     have hAb3:Hid (AbidesE rw (fun k=>k = b) V7.heap.size (fun (rs:List (WkA p w0)) Z=>(J (pre ++ qs ++ QGx p w0 d rs) Z∧Kept (fun k=>Mx k∨k = b) rw V7 Z)∧rs.length≤ne)):=hid fun s A C row h hg hr=>⟨⟨hJ.out _ A C row h.1.1 hg fun r e=>⟨.inl (by rcases (hr r e).1 with h1 | h1;exact Nat.le_trans HB7.out.2.1 h1;have:=HBD.out;have:=HSZ.out;omega),(hr r e).2⟩,(QDR (β:=Unit) (M:=fun k=>Mx k∨k = b) (E:=fun k=>k = b) (V:=V7) (fun A C hAC=>hN.out.same A C fun k hk=>hAC k (by have:=hW.out.size;have:=HB7.out.2.1;omega) (by have:=HBD.out;have:=HSZ.out;have:=hW.out.size;omega)) (fun k h=>.inr h) () A C row h.1.2 hg hr)⟩,h.2⟩
     refine QBl (α:=WkA p w0) rfl (by decide) (gf:=62) (lb:=#[.pointer (some ⟨Y.heap.size,0,none⟩),.pointer (some ⟨Y1.heap.size,0,none⟩),.pointer (some ⟨Y.heap.size+1+1,0,none⟩)]) rfl trivial (enters_of Tryz.func62 (by kernel_rfl) rfl)
      WS.out (fun ys Z l o hl2 h=>⟨h.1,h.2.same (World.putObj_heap_other (by have:=HB7.out.2.2.1;have:=HB7.out.2.2.2.size;omega))⟩) N7.out (fun k h=>by subst h;have:=HB7.out.2.2.1;have:=HB7.out.2.2.2.size;omega) (fun _=>rfl)
      (fun rs Z=>(J (pre ++ qs ++ QGx p w0 d rs) Z∧Kept (fun k=>Mx k∨k = b) rw V7 Z)∧rs.length≤ne) (fun c rs Z=>c = .ret∧Jx (pre ++ qs ++ QGx p w0 d rs) Z∧∀ D∈D1 :: Ds,Z.heap[D]? = some (.deferred (some []))) hAb3.out
      (fun c s A C row h hg hr=>⟨h.1,hJx.out _ A C row h.2.1 hg fun r e=>⟨.inl (by rcases (hr r e).1 with h1 | h1;exact Nat.le_trans HB7.out.2.1 h1;have:=HBD.out;have:=HSZ.out;omega),(hr r e).2⟩,fun D hD=>(hg.block D (lt_of_heap (h.2.2 D hD)) (fun e=>by rcases (hr D e.symm).1 with h1 | h1;have:=(HDS7.out D hD).1.1.1;omega;exact (HDS7.out D hD).1.1.2.1 (.inr h1))).trans (h.2.2 D hD)⟩) (fun s A h=>hJr.out _ A h.1.1)
      ⟨⟨by rw [show QGx p w0 d [] = [] from rfl,List.append_nil];exact HJ7.out,Kept.start N7b.out (Below.refl _ _)⟩,Nat.zero_le _⟩
      (WrX p w0 V7.heap.size (fun tv tx=>#[.func (.yield lp) #[] #[],.pointer (some ⟨B,0,none⟩),.pointer (some ⟨W.heap.size,0,none⟩),.pointer (some ⟨w2.heap.size,0,none⟩),undef,.func (.func 61) #[] #[.pointer (some ⟨Y.heap.size,0,none⟩),.pointer (some ⟨Y.heap.size+1+1,0,none⟩)],.int .i64 (j:Int),.pointer (some ⟨X.heap.size,0,none⟩),.pointer (some ⟨w5.heap.size,0,none⟩),u9,.pointer (some ⟨tx,0,none⟩),(.agg #[.slice o1 nd c1,.slice o2 ne c2]),.bool true,.bool false,(.agg #[.slice o1 nd c1,.slice o2 ne c2]),.map (some mf),(.agg #[.slice o1 nd c1,.slice o2 ne c2]),.map (some mf),.func (.func 60) #[] #[.pointer (some ⟨w2.heap.size+1,0,none⟩),.pointer (some ⟨w2.heap.size+1+1,0,none⟩)],undef,undef,undef,undef,undef,(.agg #[.slice o1 nd c1,.slice o2 ne c2]),.func (.func 61) #[] #[.pointer (some ⟨Y.heap.size,0,none⟩),.pointer (some ⟨Y.heap.size+1+1,0,none⟩)],.pointer (some ⟨B,0,none⟩),.slice o1 nd c1,.int .i64 (nd:Int),.int .i64 (j:Int),.bool true,.int .i64 (j:Int),.pointer (some ⟨db,doff+j*7,none⟩),.agg #[.int .i64 d.kind,.string d.name,.slice op d.params.length capp,.slice oi d.items.length capi,.int .i64 d.type,.int .i64 d.e,.int .i64 d.pos],.agg #[.int .i64 d.kind,.string d.name,.slice op d.params.length capp,.slice oi d.items.length capi,.int .i64 d.type,.int .i64 d.e,.int .i64 d.pos],.agg #[.map (some m1),.map (some m2)],.agg #[.int .i64 d.kind,.string d.name,.slice op d.params.length capp,.slice oi d.items.length capi,.int .i64 d.type,.int .i64 d.e,.int .i64 d.pos],.agg #[.map (some m1),.map (some m2)],.func (.func 67) #[] #[.pointer (some ⟨w5.heap.size+1,0,none⟩),.pointer (some ⟨w5.heap.size+1+1,0,none⟩)],EJ,EK,EL,EM,EO,.func (.func 61) #[] #[.pointer (some ⟨Y.heap.size,0,none⟩),.pointer (some ⟨Y.heap.size+1+1,0,none⟩)],.int .i64 (j:Int),.func (.func 62) #[] #[.pointer (some ⟨Y.heap.size,0,none⟩),.pointer (some ⟨Y1.heap.size,0,none⟩),.pointer (some ⟨Y.heap.size+1+1,0,none⟩)],tv,EP,EQ,ER,ET,EU,EV,EW,EX,EY,EZ,Ea,Eb,Ec])) (fun q a' Z l o o' hl2 ho hc h=>by
       obtain ⟨Xb,h1,h2,h3⟩:=h
       exact ⟨Xb,h1,(World.putObj_heap_other (fun e=>by subst e;rw [h2] at ho;cases ho;cases hc)).trans h2,h3⟩) ?assign3 ?body3 ?done3 ?stop3
     case assign3 =>
      rintro lp' rs ⟨⟨z,sv⟩,x,hx,ha,hk⟩ Z K hi hs hK
      obtain ⟨oa,ca,ba,fa,rfl,_⟩:=id ha
      have hq:exQ p z = x:=by unfold exQ;rw [show p.exprs[z]? = some x from hx];rfl
      unfold WrX at hK
      dsimp only at hK
      rw [hq] at hK
      unfold wkE
      dsimp only
      rw [hq]
      unfold QA4 at hK ⊢
      gi_wp2
      exact hK _ _ (QA5 (Below.refl _ _) _) ⟨Z.heap.size,hs,World.alloc_heap_new Z _,rfl⟩
     case body3 =>
      rintro lp' rs ⟨⟨z,sv⟩,x,hx,ha,hk⟩ a' Z hs ⟨⟨hj,hkp⟩,hl3⟩ ⟨Xb,hXb,hXh,rfl⟩ hlt3
      obtain ⟨oa,ca,ba,fa,rfl,_⟩:=id ha
      have hq:exQ p z = x:=by unfold exQ;rw [show p.exprs[z]? = some x from hx];rfl
      dsimp only at hXh ⊢
      rw [hq] at hXh ⊢
      have hw:=QMt p w0 d rs (⟨(z,.slice oa x.args.length ca),x,hx,ha,hk⟩:WkA p w0)
      rw [show exQ p (WkA.num (⟨(z,.slice oa x.args.length ca),x,hx,ha,hk⟩:WkA p w0)) = x from hq] at hw
      have HW:=hid hw
      have hO:=B7b.out.old hkp
      have hBb:B≠b:=by have:=HBD.out;have:=HSZ.out;have:=hW.out.size;have:=hS.out.1;omega
      have z5:=IN7.out Z hkp _ _ FS.out.1 (by have:=HBD.out;have:=V60.out.2.2.1;have:=HWX.out;have:=lt_of_heap HW4.out.2.1;omega) V60.out.1
      have zB:=IN7.out Z hkp _ _ FB.out.1 hBb FB.out.2
      have z3:=IN7.out Z hkp _ _ F3.out.1 (by have:=HBD.out;have:=lt_of_heap V0.out;have:=HD.out.2.2.2.1.1;omega) F3.out.2
      have zY:=IN7.out Z hkp _ _ sY6.out (by have:=HBD.out;have:=HSZ.out;omega) ((VX.out.block _ (lt_of_heap XY.out)).trans XY.out)
      have zsc:ScAt Z m1 m2 d:=by
       obtain ⟨es1,cl1,e1⟩:=V60.out.2.1.vars.map
       obtain ⟨es2,cl2,e2⟩:=V60.out.2.1.states.map
       have hbig:w4.heap.size≤X.heap.size:=HWX.out.2
       have hb4:b < w4.heap.size:=by have:=HBD.out;have:=lt_of_heap HW4.out.2.1;omega
       exact V60.out.2.1.same ((IN7.out Z hkp _ _ FS.out.2.1 (by have:=V60.out.2.2.2.1;omega) e1).trans e1.symm) ((IN7.out Z hkp _ _ FS.out.2.2 (by have:=V60.out.2.2.2.2;omega) e2).trans e2.symm)
      have zmf:MapIs Z 9 mf p.decls.length (QCj (QFY p.decls)):=by
       obtain ⟨es,cl,e1⟩:=FM.out.2.map
       exact FM.out.2.same ((IN7.out Z hkp _ _ FM.out.1 (by have:=HBD.out;have:=VM.out.lt;have:=HD.out.2.2.2.1.1;omega) e1).trans e1.symm)
      have CW:=hid (QID m1 m2 mf _ d x (.slice oa x.args.length ca) (.slice o1 nd c1) (.slice o2 ne c2) p Z zsc (QMc DV0.out (by have:=HLEN.out.1;omega) (by have:=HLEN.out.2.1;omega)) zmf (ha.mono fun _ _ _ _ h=>hO.cell h) hk (hP.out.old hO) hsm.out)
      unfold QA4 at CW hXh
      obtain ⟨t0,t1⟩:=QAA z5
      obtain ⟨t2,t3⟩:=QAA zB
      have t4:=QDc z3
      obtain ⟨s0,s1,s2,s3,s4,s5,s6,s7,s8⟩:=QB1 hXh
      have HZ:=hid (show _∧_∧_∧_∧_ from ⟨hj,hkp,hl3,zY,hXh⟩)
      have HLT3:=hid hlt3
      clear hq hw hO hBb z5 zB z3 zY zsc zmf hj hkp hl3 hlt3 hXb hXh
      obtain ⟨wr,hwr⟩:∃ wr,wr = QBm p d x:=⟨_,rfl⟩
      rw [← hwr] at HW CW
      clear hwr
      unfold QA4
      cases wr with
      | false =>
       gi_wp2_with (refine ⟨trivial,?_⟩;gi_at_call 41;refine (CallsIn.inRound lp' (callsIn_wide.2 CW.out)).mono ?_;rintro e Z2 ⟨rfl,hz2⟩;have HZ2:=hid hz2;clear hz2)
       first | refine ⟨fun f h=>(by cases h),?_⟩ | skip
       gi_wp2_with fail
       obtain ⟨hj,hkp,hl3,_,_⟩:=HZ.out
       refine ⟨QE3 HZ2.out,KeepX.below N7.out hkp.1 HZ2.out,⟨?_,hkp.below N7b.out HZ2.out⟩,by have h9:=HLT3.out;rw [hne.out] at h9;rw [List.length_append];show rs.length+1≤ne;omega⟩
       rw [HW.out,if_neg (by simp),List.append_nil]
       exact hJ.out.below HZ2.out hj
      | true =>
       have YY:Hid (∀ Z2,Below Z.heap.size Z Z2→Z2.cell? ⟨W.heap.size,0,none⟩ = some (.func (.yield lp) #[] #[])∧Z2.cell? ⟨Xb,8,none⟩ = some (.int .i64 x.pos)∧YieldAt Fence.wide 3 Tryz.prog lp #[.int .i64 x.pos] Z2 fun r Y =>
         (r = .returned (.bool true)∧J (pre ++ qs ++ QGx p w0 d rs ++ [x.pos]) Y∧KeepX M rw w.heap.size W.heap.size Z2 Y)∨(r = .returned (.bool false)∧Jx (pre ++ qs ++ QGx p w0 d rs ++ [x.pos]) Y∧KeepsFrom W.heap.size Z2 Y)):=hid fun Z2 hz2=>by
        obtain ⟨hj,hkp,hl3,hzY,hzX⟩:=HZ.out
        refine ⟨QDc ((hz2.block _ (lt_of_heap hzY)).trans hzY),(QB1 ((hz2.block _ (lt_of_heap hzX)).trans hzX)).2.2.2.2.2.2.2.2,YieldAt.deep (F:=Fence.wide) rfl 3 (hY.out _ x.pos Z2 (hJ.out.below hz2 hj) ?_)⟩
        have h1:=hpre2.out
        have h2:=HQL.out
        have h3:=QJV p w0 d rs
        have h4:=HLT3.out
        rw [hne.out] at h4
        rw [List.length_append,List.length_append]
        omega
       gi_wp2_with (refine ⟨trivial,?_⟩;gi_at_call 41;refine (CallsIn.inRound lp' (callsIn_wide.2 CW.out)).mono ?_;rintro e Z2 ⟨rfl,hz2⟩;obtain ⟨l0,l1,hyy⟩:=YY.out Z2 hz2;obtain ⟨fn,tmps,assign,body,hy,hR⟩:=hyy;have hy' : (Instr.yield lp #[.int .i64 x.pos]).run Tryz.prog Z2 = .ok (.round lp fn tmps assign body) Z2:=hy;have HRd:=hid hR;have HZ2:=hid hz2;clear hz2 hy hR)
       refine HRd.out.mono ?_
       rintro e X' (⟨rfl,h1,h2⟩ | ⟨rfl,h1,h2⟩)
       ·have HX:=hid (And.intro h1 h2)
        clear h1 h2 hy'
        gi_wp2
        obtain ⟨hj,hkp,hl3,_,_⟩:=HZ.out
        obtain ⟨n1,n2⟩:=QE4 hN.out.old hW.out.size HB7.out.2.1 (hJr.out _ _ (hJ.out.below HZ2.out hj)) HX.out.2
        rw [← hMx] at n2
        refine ⟨(QE3 HZ2.out).trans n1,(KeepX.below N7.out hkp.1 HZ2.out).trans n2,⟨?_,(hkp.below N7b.out HZ2.out).keepx ⟨n2.1,fun k h1 h2 h3 h4=>n2.2.1 k h1 (fun h=>h2 (.inl h)) h3 h4,n2.2.2⟩⟩,by have h9:=HLT3.out;rw [hne.out] at h9;rw [List.length_append];show rs.length+1≤ne;omega⟩
        rw [HW.out,if_pos trivial,← List.append_assoc]
        exact HX.out.1
       ·have HX:=hid (And.intro h1 h2)
        clear h1 h2 hy'
        gi_wp2
        obtain ⟨hj,hkp,hl3,_,_⟩:=HZ.out
        have hkz:KeepsFrom V7.heap.size Z X':=(QE3 HZ2.out).trans (QDQ HX.out.2 HB7.out.2.1)
        refine ⟨hkz,rfl,by rw [HW.out,if_pos trivial,← List.append_assoc];exact HX.out.1,fun D hD=>?_⟩
        have h1:=HDS7.out D hD
        have h2:=(hkp.2.2 D h1.1.1).trans h1.2
        exact HX.out.2.same D _ h1.1.2 ((HZ2.out.block _ (lt_of_heap h2)).trans h2) rfl
     case stop3 =>
      rintro D2 c rs Z hD2 hpre2 ⟨rfl,hjx,hds⟩ hmark2
      have HX:=hid (show _∧_∧_∧_∧_ from ⟨hD2,hpre2,hjx,hds,hmark2⟩)
      clear hD2 hpre2 hjx hds hmark2
      dsimp only
      gi_wp2_with fail
      have hall:∀ D∈D2 :: D1 :: Ds,W.heap.size≤D∧Z.heap[D]? = some (.deferred (some [])):=fun D hD=>by
       rcases List.mem_cons.1 hD with rfl | hD
       ·exact ⟨Nat.le_trans HB7.out.2.1 HX.out.1,HX.out.2.2.2.2⟩
       ·exact ⟨(HDS7.out D hD).1.2,HX.out.2.2.2.1 D hD⟩
      have hnd2:(D2 :: D1 :: Ds).Nodup:=List.nodup_cons.2 ⟨fun h=>by have:=(HDS7.out D2 h).1.1.1;have:=HX.out.1;omega,HND.out⟩
      refine QBw (fun w=>results_none (by kernel_rfl) _ _ _) (D2 :: D1 :: Ds) Z hnd2 (fun D h=>(hall D h).2) ?_
      exact ⟨⟨_,rfl⟩,.inr ⟨pre ++ qs ++ QGx p w0 d rs,fun a ha=>by
       rcases List.mem_append.1 ha with h | h
       ·rcases List.mem_append.1 h with h | h
        ·exact QHs HMN.out ((hl.out.spec a).1 h)
        ·exact ⟨HMN.out,.inr ⟨d,List.mem_of_getElem? HDJ.out,.inl (by rw [← HE.out.2.1];exact h)⟩⟩
       ·obtain ⟨q,h1,x,h2,h3,h4⟩:=QJW h
        exact ⟨HMN.out,.inr ⟨d,List.mem_of_getElem? HDJ.out,.inr ⟨q.num,x,HX.out.2.1 q h1,h2,h3,h4⟩⟩⟩,QBs hJx.out _ (D2 :: D1 :: Ds) Z hnd2 hall HX.out.2.2.1⟩⟩
     case done3 =>
      rintro D2 rs Y2 hD2 ⟨hall,hmk2⟩ ⟨⟨hj,hk⟩,hlen⟩ hmark2
      have hL:WrL Mx rw W w4 (Y.heap.size+1) ne p J (j+1) (pre ++ qs ++ QGx p w0 d rs) (D2 :: D1 :: Ds) Y2:=by
       refine ⟨hj,by rw [← HBD.out];exact QD2 K7.out hk,by rw [← HBD.out,← hne.out];exact hmk2,fun a=>?_,?_,List.nodup_cons.2 ⟨fun h=>by have:=(HDS7.out D2 h).1.1.1;omega,HND.out⟩,fun D hD=>?_⟩
       ·rw [QIl HDJ.out,List.mem_append,List.mem_append,hl.out.spec a,or_assoc]
        refine or_congr Iff.rfl ?_
        unfold QGL
        rw [HE.out.2.1]
        refine or_congr Iff.rfl ⟨fun h=>?_,?_⟩
        ·obtain ⟨q,h1,x,h2,h3,h4⟩:=QJW h
         exact ⟨q.num,x,(hall q.num).1 (List.mem_map.2 ⟨q,h1,rfl⟩),h2,h3,h4⟩
        ·rintro ⟨k,x,h1,h2,h3,rfl⟩
         exact QNq ((hall k).2 h1) h2 h3
       ·have h1:=hpre2.out
        have h2:=HQL.out
        have h3:=QJV p w0 d rs
        rw [List.length_append,List.length_append]
        omega
       ·rcases List.mem_cons.1 hD with rfl | hD
        ·exact ⟨⟨Nat.le_trans HB7.out.2.1 hD2,lt_of_heap hmark2⟩,hmark2⟩
        ·have h1:=HDS7.out D hD
         have h2:=(hk.2.2 D h1.1.1).trans h1.2
         exact ⟨⟨h1.1.2,lt_of_heap h2⟩,h2⟩
      have HL2:=hid hL
      clear hL hD2 hall hmk2 hj hk hlen hmark2
      dsimp only
      gi_wp2_with fail
      have ej:((j+1:Nat):Int) = (j:Int)+1:=rfl
      refine ⟨⟨j+1,pre ++ qs ++ QGx p w0 d rs,D2 :: D1 :: Ds,_,_,_,_,_,_,_,_,_,_,_,_,_,_,_,_,_,_,_,_,_,_,_,_,_,_,_,_,_,_,_,_,_,_,_,_,rfl,by omega,HL2⟩,?_⟩
      show nd - QA2 (.int .i64 ((j:Int)+1)) < nd - QA2 (.int .i64 (j:Int))
      simp [QA2]
      omega
   ·obtain rfl:j = nd:=by omega
    gi_wp2_with fail
    refine QBw (fun w=>results_none (by kernel_rfl) _ _ _) Ds X hl.out.nodup (fun D h=>(hl.out.ds D h).2) ?_
    exact ⟨⟨_,rfl⟩,.inl ⟨pre,fun a=>(hl.out.spec a).trans (by rw [← hnd.out];exact QMs HMN.out a),QBs hJ.out pre Ds X hl.out.nodup (fun D h=>⟨(hl.out.ds D h).1.1,(hl.out.ds D h).2⟩) hl.out.hj⟩⟩
end
section
open Go.Lib (hid)
set_option maxHeartbeats 8000000
section
open Go.RowKit Lx Go.Shelf Go.Sort Go.Lib
theorem QCD {x y:Flt}:ltF x y = true↔x.2 < y.2∨(x.2 = y.2∧x.1 < y.1):=by simp [ltF]
theorem QFB (x:Flt):¬ ltF x x = true:=by rw [QCD];omega
theorem QLz {x y z:Flt} (h1:ltF x y = true) (h2:ltF y z = true):ltF x z = true:=by rw [QCD] at *;omega
theorem ltF_ntr {x y z:Flt} (h1:¬ ltF x y = true) (h2:¬ ltF y z = true):¬ ltF x z = true:=by rw [QCD] at *;omega
theorem QIL {x y:Flt} (h1:¬ ltF x y = true) (h2:¬ x = y):ltF y x = true:=by
 rw [QCD] at *
 have:¬ (x.1 = y.1∧x.2 = y.2):=fun h=>h2 (Prod.ext h.1 h.2)
 omega
def QBr (l:List Flt):Prop:=l.Pairwise fun x y=>ltF x y = true
theorem QGC:∀ {a b:List Flt},QBr a→QBr b→(∀ x,x∈a↔x∈b)→a = b
 | [],[],_,_,_=>rfl
 | [],y :: b,_,_,h=>by have:=(h y).2 List.mem_cons_self;cases this
 | x :: a,[],_,_,h=>by have:=(h x).1 List.mem_cons_self;cases this
 | x :: a,y :: b,ha,hb,h=>by
  obtain ⟨ha1,ha2⟩:=List.pairwise_cons.1 ha
  obtain ⟨hb1,hb2⟩:=List.pairwise_cons.1 hb
  have e:x = y:=by
   rcases List.mem_cons.1 ((h x).1 List.mem_cons_self) with e | e
   ·exact e
   ·rcases List.mem_cons.1 ((h y).2 List.mem_cons_self) with e2 | e2
    ·exact e2.symm
    ·exact absurd (QLz (ha1 _ e2) (hb1 _ e)) (QFB _)
  subst e
  rw [QGC ha2 hb2 fun z=>?_]
  constructor
  ·intro hz
   rcases List.mem_cons.1 ((h z).1 (List.mem_cons_of_mem _ hz)) with e | e
   ·subst e;exact absurd (ha1 _ hz) (QFB _)
   ·exact e
  ·intro hz
   rcases List.mem_cons.1 ((h z).2 (List.mem_cons_of_mem _ hz)) with e | e
   ·subst e;exact absurd (hb1 _ hz) (QFB _)
   ·exact e
def QEf (f:Flt):List Flt→List Flt
 | []=>[f]
 | x :: l=>if ltF f x then f :: x :: l else x :: QEf f l
def QKo (l:List Flt) (f:Flt):List Flt:=if f∈l then l else QEf f l
theorem QIO (f x:Flt):∀ l,x∈QEf f l↔x = f∨x∈l
 | []=>by simp [QEf]
 | y :: l=>by
  unfold QEf
  split
  ·simp
  ·rw [List.mem_cons,QIO f x l,List.mem_cons]
   constructor <;> (rintro (h | h | h) <;> simp [h])
theorem mem_add (l:List Flt) (f x:Flt):x∈QKo l f↔x = f∨x∈l:=by
 unfold QKo
 split
 ·constructor
  ·exact .inr
  ·rintro (h | h)
   ·subst h;assumption
   ·exact h
 ·exact QIO f x l
theorem QGD (f:Flt):∀ l,QBr l→f ∉ l→QBr (QEf f l)
 | [],_,_=>by unfold QBr QEf;simp
 | y :: l,h,hn=>by
  obtain ⟨h1,h2⟩:=List.pairwise_cons.1 h
  unfold QEf
  split
  ·rename_i hlt
   exact List.pairwise_cons.2 ⟨fun z hz=>by
    rcases List.mem_cons.1 hz with e | e
    ·subst e;exact hlt
    ·exact QLz hlt (h1 _ e),h⟩
  ·rename_i hlt
   have hlt' : ltF y f = true:=QIL hlt (fun e=>hn (by rw [e];exact List.mem_cons_self))
   exact List.pairwise_cons.2 ⟨fun z hz=>by
    rcases (QIO f z l).1 hz with e | e
    ·subst e;exact hlt'
    ·exact h1 _ e,QGD f l h2 fun hm=>hn (List.mem_cons_of_mem _ hm)⟩
theorem QKb (l:List Flt) (f:Flt) (h:QBr l):QBr (QKo l f):=by
 unfold QKo
 split
 ·exact h
 ·rename_i hn
  exact QGD f l h hn
theorem QEJ (d:Array Flt) (hs:∀ i j,i < j→j < d.size→¬ ltF d[j]! d[i]! = true):∀ m,m≤d.size→QBr (compactUpTo d m)∧(∀ x,x∈compactUpTo d m↔∃ j,j < m∧d[j]! = x)
 | 0,_=>⟨by unfold QBr compactUpTo;simp,fun x=>by unfold compactUpTo;simp⟩
 | m+1,hm=>by
  obtain ⟨h1,h2⟩:=QEJ d hs m (by omega)
  rw [compactUpTo_succ]
  by_cases hk:keeps d m = true
  ·rw [if_pos hk]
   refine ⟨List.pairwise_append.2 ⟨h1,by simp,fun x hx y hy=>?_⟩,fun x=>?_⟩
   ·obtain ⟨j,hj,e⟩:=(h2 x).1 hx
    obtain rfl:y = d[m]!:=by simpa using hy
    rw [← e]
    refine QIL (hs j m hj (by omega)) fun e2=>?_
    have hk2:d[m]!≠d[m - 1]!:=by
     unfold keeps at hk
     simp at hk
     rcases hk with h | h
     ·omega
     ·exact h
    rcases Nat.lt_or_ge j (m - 1) with h | h
    ·have u:=hs (m - 1) m (by omega) (by omega)
     have v:=hs j (m - 1) h (by omega)
     rw [← e2] at v
     exact v (QIL u fun e3=>hk2 e3)
    ·obtain rfl:j = m - 1:=by omega
     exact hk2 e2
   ·rw [List.mem_append,h2]
    constructor
    ·rintro (⟨j,hj,e⟩ | h)
     ·exact ⟨j,by omega,e⟩
     ·exact ⟨m,by omega,(by simpa using h:x = d[m]!).symm⟩
    ·rintro ⟨j,hj,e⟩
     rcases Nat.lt_or_ge j m with h | h
     ·exact .inl ⟨j,h,e⟩
     ·obtain rfl:j = m:=by omega
      exact .inr (by simp [e])
  ·rw [if_neg hk,List.append_nil]
   have hk2:m≠0∧d[m]! = d[m - 1]!:=by
    unfold keeps at hk
    simpa using hk
   refine ⟨h1,fun x=>?_⟩
   rw [h2]
   constructor
   ·rintro ⟨j,hj,e⟩
    exact ⟨j,by omega,e⟩
   ·rintro ⟨j,hj,e⟩
    rcases Nat.lt_or_ge j m with h | h
    ·exact ⟨j,h,e⟩
    ·obtain rfl:j = m:=by omega
     exact ⟨j - 1,by omega,by rw [← hk2.2];exact e⟩
def QKs (l:List Flt):List Flt:=compactUpTo (sortF l).toArray (sortF l).toArray.size
theorem QFS (l:List Flt):(sortF l).Perm l:=List.mergeSort_perm l _
theorem QIZ (l:List Flt):(sortF l).Pairwise fun x y=>¬ ltF y x = true:=by
 have h:=List.pairwise_mergeSort (le:=fun x y:Flt=>!(ltOf QKp) y x) (fun x y z h1 h2=>by
  simp only [QDK,Bool.not_eq_true',← Bool.not_eq_true] at *
  exact ltF_ntr h2 h1) (fun x y=>by
  simp only [QDK]
  cases hx:ltF y x with
  | false=>simp
  | true =>
   have:¬ ltF x y = true:=fun h=>QFB _ (QLz h hx)
   simp [this]) l
 refine h.imp fun {x y} hxy=>?_
 simpa [QDK] using hxy
theorem QJG (l:List Flt):QBr (QKs l)∧∀ x,x∈QKs l↔x∈l:=by
 have hp:=List.pairwise_iff_getElem.1 (QIZ l)
 obtain ⟨h1,h2⟩:=QEJ (sortF l).toArray (fun i j hij hj=>by
  have hj' : j < (sortF l).length:=by simpa using hj
  have:=hp i j (by omega) hj' hij
  rw [getElem!_pos _ j hj,getElem!_pos _ i (by omega)]
  simpa using this) _ (Nat.le_refl _)
 refine ⟨h1,fun x=>?_⟩
 show x∈compactUpTo _ _↔_
 rw [h2,← (QFS l).mem_iff]
 constructor
 ·rintro ⟨j,hj,e⟩
  rw [getElem!_pos _ j hj] at e
  rw [← e]
  simp
 ·intro hx
  obtain ⟨j,hj,e⟩:=List.mem_iff_getElem.1 hx
  exact ⟨j,by simpa using hj,by rw [getElem!_pos _ j (by simpa using hj)];simpa using e⟩
theorem QKK (l:List Flt):(QKs l).length≤l.length:=by
 unfold QKs compactUpTo
 rw [List.length_map]
 refine Nat.le_trans (List.length_filter_le _ _) ?_
 simp [(QFS l).length_eq]
end
section
open Go.RowKit Lx Go.Shelf Go.Sort Go.Lib
theorem QEQ (b:Nat):∀ (vs:List Value) (o:Nat) (W:World),But b W (W.setCells b o vs)∧(∀ k,k < o→(W.setCells b o vs).cell? ⟨b,k,none⟩ = W.cell? ⟨b,k,none⟩)∧∀ k,(W.setCells b o vs).frozen? ⟨b,k,none⟩ = W.frozen? ⟨b,k,none⟩
 | [],o,W=>⟨But.refl _ _,fun _ _=>rfl,fun _=>rfl⟩
 | v :: r,o,W=>by
  obtain ⟨h1,h2,h3⟩:=QEQ b r (o+1) (W.setCell ⟨b,o,none⟩ v)
  have hb:=(But.refl b W).set o v
  refine ⟨⟨h1.os.trans hb.os,h1.tape.trans hb.tape,h1.output.trans hb.output,Nat.le_trans hb.size h1.size,fun k hk hl=>(h1.block k hk (Nat.lt_of_lt_of_le hl hb.size)).trans (hb.block k hk hl)⟩,fun k hk=>(h2 k (by omega)).trans (World.cell?_setCell_other _ _ _ _ (by intro e;injection e with e1 e2;omega)),fun k=>(h3 k).trans (World.frozen?_setCell _ _ _ _)⟩
theorem QFg (W:World) (b o n c:Nat) (hn:0 < n) (hc:∀ j,j < n*2→(W.cell? ⟨b,o+j,none⟩).isSome = true) (hf:∀ j,j < n*2→W.frozen? ⟨b,o+j,none⟩ = false) :
  ∃ Y,(∀ ty,(Builtin.clear_ #[38] ty #[.slice (some ⟨b,o,none⟩) n c]).run Tryz.prog W = .ok (.tuple #[]) Y)∧But b W Y∧(∀ k,k < o→Y.cell? ⟨b,k,none⟩ = W.cell? ⟨b,k,none⟩)∧∀ k,Y.frozen? ⟨b,k,none⟩ = W.frozen? ⟨b,k,none⟩:=by
 have hz:=Tryz.zeroValue29
 obtain ⟨zs,hzs⟩:∃ zs,zs = (Builtin.zeroCells (Value.agg #[.int .i64 0,.int .i64 0]).cells n).toList:=⟨_,rfl⟩
 have hl:zs.length = n*2:=by rw [hzs];simp [Builtin.zeroCells,Value.cells]
 have h1:∀ v∈zs,v.oneCell' = true:=by
  intro v hv
  rw [hzs] at hv
  simp [Builtin.zeroCells,Value.cells] at hv
  obtain ⟨i,hi,rfl⟩:=hv
  rcases (show i % 2 = 0∨i % 2 = 1 by omega) with e | e <;> simp [e,Value.oneCell']
 have hst:=run_storeCells_cells (P:=Tryz.prog) b o zs 0 W (by rw [hl];simpa using hc) (fun j hj=>(by rw [Nat.add_zero];exact hf j (hl ▸ hj))) h1
 simp only [Nat.add_zero] at hst
 obtain ⟨m,rfl⟩:∃ m,n = m+1:=⟨n - 1,by omega⟩
 refine ⟨W.setCells b o zs,fun ty=>?_,QEQ b zs o W⟩
 simp [Builtin.clear_,run_underlying Tryz.underlying38,hz,← hzs,hst]
def RowF (W:World) (blk off:Nat) (d:Array Flt):Prop:=(∀ i,i < d.size→W.cell? ⟨blk,off+i*2,none⟩ = some (.int .i64 d[i]!.1)∧W.cell? ⟨blk,off+i*2+1,none⟩ = some (.int .i64 d[i]!.2))∧∀ j,j < d.size*2→W.frozen? ⟨blk,off+j,none⟩ = false
theorem RowF.set {W:World} {blk off:Nat} {d:Array Flt} (h:RowF W blk off d) {i:Nat} (hi:i < d.size) (x:Flt):RowF ((W.setCell ⟨blk,off+i*2,none⟩ (.int .i64 x.1)).setCell ⟨blk,off+i*2+1,none⟩ (.int .i64 x.2)) blk off (d.setIfInBounds i x):=by
 refine ⟨fun j hj=>?_,fun j hj=>by rw [World.frozen?_setCell,World.frozen?_setCell];exact h.2 j (by simpa using hj)⟩
 have hj' : j < d.size:=by simpa using hj
 obtain ⟨h1,h2⟩:=h.1 j hj'
 by_cases e:j = i
 ·subst e
  rw [getElem!_set_same d j x hi]
  refine ⟨?_,?_⟩
  ·rw [World.cell?_setCell_other _ _ _ _ (by intro e;injection e with e1 e2;omega)]
   exact World.cell?_setCell_same' _ _ _ (by rw [h1];rfl)
  ·exact World.cell?_setCell_same' _ _ _ (by rw [World.cell?_setCell_other _ _ _ _ (by intro e;injection e with e1 e2;omega),h2];rfl)
 ·have hg:(d.setIfInBounds i x)[j]! = d[j]!:=by
   rw [getElem!_pos _ j (by simpa using hj'),getElem!_pos _ j hj',Array.getElem_setIfInBounds,if_neg (fun e'=>e e'.symm)]
  rw [hg]
  refine ⟨?_,?_⟩
  ·rw [World.cell?_setCell_other _ _ _ _ (by intro e;injection e with e1 e2;omega),World.cell?_setCell_other _ _ _ _ (by intro e;injection e with e1 e2;omega)];exact h1
  ·rw [World.cell?_setCell_other _ _ _ _ (by intro e;injection e with e1 e2;omega),World.cell?_setCell_other _ _ _ _ (by intro e;injection e with e1 e2;omega)];exact h2
theorem RowF.drew {W:World} {blk off:Nat} {d:Array Flt} (h:RowF W blk off d):RowF W.drew blk off d:=h
theorem RowF.drewN {W:World} {blk off:Nat} {d:Array Flt} (h:RowF W blk off d) (q:Nat):RowF (W.drewN q) blk off d:=h
theorem QJ4 {w wr:World} {blk off kk:Nat} {dk:Array Flt} (h:Hid (RowF wr blk off dk∧But blk w wr)) (hi:kk < dk.size) (a b:Int):Hid (RowF ((wr.setCell ⟨blk,off+kk*2,none⟩ (.int .i64 a)).setCell ⟨blk,off+kk*2+1,none⟩ (.int .i64 b)).drew blk off (dk.setIfInBounds kk (a,b))∧But blk w ((wr.setCell ⟨blk,off+kk*2,none⟩ (.int .i64 a)).setCell ⟨blk,off+kk*2+1,none⟩ (.int .i64 b)).drew):=by
 have h1:=RowF.set h.out.1 hi (a,b)
 have h2:=But.set (But.set h.out.2 (off+kk*2) (.int .i64 a)) (off+kk*2+1) (.int .i64 b)
 exact hid ⟨RowF.drew h1,But.drew h2⟩
theorem QCn {o:Option Addr} {n cap b off:Nat} (h:0 < n→o = some ⟨b,off,none⟩) {j:Nat} (hj:j < n) (hn:n≤9223372036854775807):Ix 38 2 (.slice o n cap) b off j:=by
 intro W
 rw [h (by omega)]
 have h1:(j:Int) < (n:Int):=by omega
 have h2:(j:Int)≤9223372036854775807:=by omega
 go_simp
set_option maxRecDepth 100000 in
theorem QI2 (blk off cap:Nat) (d:Array Flt) (w:World) (hR:RowF w blk off d) (hsz:d.size≤1000000) (hcap:d.size≤cap) :
  Calls Tryz.prog 48 #[.slice (some ⟨blk,off,none⟩) d.size cap] w fun e w'=>e = .returned (.slice (some ⟨blk,off,none⟩) (compactUpTo d d.size).length cap)∧But blk w w'∧QFn w' blk off (compactUpTo d d.size):=by
 have same:(∀ j,j < d.size→keeps d j = true)→∀ wr,RowF wr blk off d→(compactUpTo d d.size).length = d.size∧QFn wr blk off (compactUpTo d d.size):=by
  intro hall wr hwr
  have e:compactUpTo d d.size = d.toList:=by rw [compactUpTo_all d _ hall,range_map_get]
  rw [e]
  refine ⟨by simp,fun i x hx=>?_⟩
  obtain ⟨hi,hx2⟩:=List.getElem?_eq_some_iff.1 hx
  have hi' : i < d.size:=by simpa using hi
  have:=hwr.1 i hi'
  rw [show d[i]! = x by rw [getElem!_pos d i hi'];simpa using hx2] at this
  exact this
 have HS:=hid same
 have HR:=hid hR
 clear same hR
 by_cases h2:d.size < 2
 ·go_enter Tryz.func48,Tryz.ntmps48
  go_wp2_with fail
  go_ret
  obtain ⟨e1,e2⟩:=HS.out (fun j hj=>keeps_lt_one d j (by omega)) w HR.out
  exact ⟨by rw [e1];rfl,But.refl _ _,e2⟩
 ·go_enter Tryz.func48,Tryz.ntmps48
  go_wp2_with fail
  go_loopw [3] (fun s3 wr=>∃ k:Nat,s3 = .int .i64 (k:Int)∧1≤k∧k≤d.size∧Hid (RowF wr blk off d∧But blk w wr)∧Hid (∀ j,j < k→keeps d j = true)) (fun s3 _=>d.size - QA2 s3)
  case atStart=>exact ⟨1,rfl,Nat.le_refl _,by omega,hid ⟨HR.out,But.refl _ _⟩,hid (keeps_lt_one d)⟩
  case round =>
   obtain ⟨k,rfl,hk1,hk,HW,HA⟩:=hrel
   by_cases hlt:k < d.size
   ·obtain ⟨a1,b1⟩:=HW.out.1.1 k hlt
    obtain ⟨a0,b0⟩:=HW.out.1.1 (k - 1) (by omega)
    have ixk:=QCn (o:=some ⟨blk,off,none⟩) (n:=d.size) (cap:=cap) (b:=blk) (off:=off) (fun _=>rfl) hlt (by omega)
    have ixp:=QCn (o:=some ⟨blk,off,none⟩) (n:=d.size) (cap:=cap) (b:=blk) (off:=off) (fun _=>rfl) (j:=k - 1) (by omega) (by omega)
    unfold Ix at ixk ixp
    generalize hx:d[k]! = x at a1 b1
    generalize hy:d[k - 1]! = y at a0 b0
    have HB:=hid (And.intro hx hy)
    clear hx hy
    have mixed : Tryz.prog.follows .mixedOrders = true:=by kernel_rfl
    have hc:(¬ x.1 = y.1)∨(x.1 = y.1∧¬ x.2 = y.2)∨(x.1 = y.1∧x.2 = y.2):=by
     by_cases h1:x.1 = y.1 <;> by_cases h2:x.2 = y.2 <;> simp [h1,h2]
    obtain ⟨x1,x2⟩:=x
    obtain ⟨y1,y2⟩:=y
    dsimp only at a1 b1 a0 b0 hc
    have hkeep:(¬ x1 = y1∨¬ x2 = y2)→∀ j,j < k+1→keeps d j = true:=fun hne j hj=>by
     by_cases e:j = k
     ·subst e
      refine keeps_pos ?_
      rw [HB.out.1,HB.out.2]
      intro e2
      injection e2 with e3 e4
      rcases hne with h | h
      ·exact h e3
      ·exact h e4
     ·exact HA.out j (by omega)
    have HK:=hid hkeep
    clear hkeep
    rcases hc with z | ⟨z,z2⟩ | ⟨z,z2⟩
    ·have HN:=hid (HK.out (.inl z))
     have q1:(x1 == y1) = false:=by simpa using z
     go_wp2_with fail
     go_region_o
     all_goals (
      go_wp2_with fail
      exact ⟨⟨k+1,by go_num,by omega,by omega,hid ⟨HW.out.1,HW.out.2.drew⟩,HN⟩,by simp [QA2];omega⟩)
    ·have HN:=hid (HK.out (.inr z2))
     have q1:(x1 == y1) = true:=by simpa using z
     have q2:(x2 == y2) = false:=by simpa using z2
     go_wp2_with fail
     go_region_o
     all_goals (
      go_wp2_with fail
      exact ⟨⟨k+1,by go_num,by omega,by omega,hid ⟨HW.out.1,HW.out.2.drew⟩,HN⟩,by simp [QA2];omega⟩)
    ·have HN:Hid (keeps d k = false):=hid (keeps_neg (by omega) (by rw [HB.out.1,HB.out.2,z,z2]))
     have q1:(x1 == y1) = true:=by simpa using z
     have q2:(x2 == y2) = true:=by simpa using z2
     go_wp2_with fail
     go_region_o
     all_goals (
      go_wp2_with fail
      clear a1 b1 a0 b0 ixk ixp z z2 q1 q2
      have HW0:Hid (RowF wr.drew blk off d∧But blk w wr.drew):=hid ⟨HW.out.1,HW.out.2.drew⟩
      clear HW
      go_loopw [3,5] (fun s3 s5 wr=>∃ (kk k2:Nat) (dk:Array Flt),s3 = .int .i64 (kk:Int)∧s5 = .int .i64 (k2:Int)∧1≤k2∧k+k2≤d.size∧Hid (RowF wr blk off dk∧But blk w wr)∧Hid (CompInv d (k+k2) kk dk)) (fun _ s5 _=>d.size - (k+QA2 s5))
      case atStart=>exact ⟨k,1,d,rfl,rfl,Nat.le_refl _,by omega,HW0,hid (CompInv.start HA.out HN.out)⟩
      case round =>
       obtain ⟨kk,k2,dk,rfl,rfl,h1,hle,HW2,HI⟩:=hrel
       have hkk:=HI.out.lt
       have hds:=HI.out.size
       by_cases hlt2:k+k2 < d.size
       ·obtain ⟨c1,e1⟩:=HW2.out.1.1 (k+k2) (by omega)
        obtain ⟨c0,e0⟩:=HW2.out.1.1 (k+k2 - 1) (by omega)
        obtain ⟨t0,t1⟩:=HW2.out.1.1 kk (by omega)
        have fz:=HW2.out.1.2 (kk*2) (by omega)
        have fz1:=HW2.out.1.2 (kk*2+1) (by omega)
        rw [← Nat.add_assoc] at fz1
        rw [HI.out.high (k+k2) (by omega),show off+(k+k2)*2 = off+k*2+k2*2 by omega] at c1 e1
        rw [HI.out.high (k+k2 - 1) (by omega),show off+(k+k2 - 1)*2 = off+k*2+(k2 - 1)*2 by omega] at c0 e0
        have ixk:=QCn (o:=some ⟨blk,off+k*2,none⟩) (n:=d.size - k) (cap:=cap - k) (b:=blk) (off:=off+k*2) (fun _=>rfl) (j:=k2) (by omega) (by omega)
        have ixp:=QCn (o:=some ⟨blk,off+k*2,none⟩) (n:=d.size - k) (cap:=cap - k) (b:=blk) (off:=off+k*2) (fun _=>rfl) (j:=k2 - 1) (by omega) (by omega)
        have ixs:=QCn (o:=some ⟨blk,off,none⟩) (n:=d.size) (cap:=cap) (b:=blk) (off:=off) (fun _=>rfl) (j:=kk) (by omega) (by omega)
        unfold Ix at ixk ixp ixs
        generalize hu:d[k+k2]! = u at c1 e1
        generalize hv:d[k+k2 - 1]! = v at c0 e0
        generalize dk[kk]! = old at t0 t1
        have HC:=hid (And.intro hu hv)
        clear hu hv
        obtain ⟨u1,u2⟩:=u
        obtain ⟨v1,v2⟩:=v
        dsimp only at c1 e1 c0 e0
        have hc:(¬ u1 = v1)∨(u1 = v1∧¬ u2 = v2)∨(u1 = v1∧u2 = v2):=by
         by_cases h1:u1 = v1 <;> by_cases h2:u2 = v2 <;> simp [h1,h2]
        have hkeep:(¬ u1 = v1∨¬ u2 = v2)→CompInv d (k+(k2+1)) (kk+1) (dk.setIfInBounds kk (u1,u2)):=fun hne=>by
         have:=HI.out.keep hlt2 (keeps_pos (by
          rw [HC.out.1,HC.out.2]
          intro e2
          injection e2 with e3 e4
          rcases hne with h | h
          ·exact h e3
          ·exact h e4))
         rwa [HC.out.1] at this
        have HK:=hid hkeep
        clear hkeep
        rcases hc with z | ⟨z,z2⟩ | ⟨z,z2⟩
        ·have HN3:=hid (HK.out (.inl z))
         have q1:(u1 == v1) = false:=by simpa using z
         go_wp2_with fail
         go_region_o
         all_goals (
          go_wp2_with fail
          refine ⟨⟨kk+1,k2+1,dk.setIfInBounds kk (u1,u2),by go_num,by go_num,by omega,by omega,QJ4 (kk:=kk) (dk:=dk) HW2 (by omega) u1 u2,HN3⟩,?_⟩
          simp [QA2]
          omega)
        ·have HN3:=hid (HK.out (.inr z2))
         subst z
         have q1:(u1 == u1) = true:=by simp
         have q2:(u2 == v2) = false:=by simpa using z2
         go_wp2_with fail
         go_region_o
         all_goals (
          go_wp2_with fail
          refine ⟨⟨kk+1,k2+1,dk.setIfInBounds kk (u1,u2),by go_num,by go_num,by omega,by omega,QJ4 (kk:=kk) (dk:=dk) HW2 (by omega) u1 u2,HN3⟩,?_⟩
          simp [QA2]
          omega)
        ·have HN3:Hid (CompInv d (k+(k2+1)) kk dk):=hid (HI.out.skip (keeps_neg (by omega) (by rw [HC.out.1,HC.out.2,z,z2])))
         have q1:(u1 == v1) = true:=by simpa using z
         have q2:(u2 == v2) = true:=by simpa using z2
         go_wp2_with fail
         go_region_o
         all_goals (
          go_wp2_with fail
          exact ⟨⟨kk,k2+1,dk,by go_num,by go_num,by omega,by omega,hid ⟨HW2.out.1.drew,HW2.out.2.drew⟩,HN3⟩,by simp [QA2];omega⟩)
       ·have hend:k+k2 = d.size:=by omega
        have hI:=HI.out
        rw [hend] at hI
        have HI2:=hid hI
        clear hI
        obtain ⟨Y,hcl,hbY,hloY,hfY⟩:=QFg _ blk (off+kk*2) (d.size - kk) (cap - kk) (by omega) (fun j hj=>by
         obtain ⟨p0,p1⟩:=HW2.out.1.1 (kk+j / 2) (by omega)
         rcases (show j = j / 2*2∨j = j / 2*2+1 by omega) with e | e
         ·rw [e,show off+kk*2+j / 2*2 = off+(kk+j / 2)*2 by omega,p0];rfl
         ·rw [e,show off+kk*2+(j / 2*2+1) = off+(kk+j / 2)*2+1 by omega,p1];rfl) (fun j hj=>by rw [Nat.add_assoc];exact HW2.out.1.2 _ (by omega))
        have HY:=hid (And.intro hbY (And.intro hloY hfY))
        clear hbY hloY hfY
        go_wp2_with fail
        go_ret
        refine ⟨by rw [HI2.out.len];rfl,⟨HY.out.1.os.trans HW2.out.2.os,HY.out.1.tape.trans HW2.out.2.tape,HY.out.1.output.trans HW2.out.2.output,Nat.le_trans HW2.out.2.size HY.out.1.size,fun j hj hl=>(HY.out.1.block j hj (Nat.lt_of_lt_of_le hl HW2.out.2.size)).trans (HW2.out.2.block j hj hl)⟩,fun i x hx=>?_⟩
        have hi:i < kk:=by
         have:=(List.getElem?_eq_some_iff.1 hx).1
         rwa [HI2.out.len] at this
        have hl:=HI2.out.low i hi
        rw [hx] at hl
        injection hl with hl
        obtain ⟨p0,p1⟩:=HW2.out.1.1 i (by omega)
        rw [← hl] at p0 p1
        exact ⟨(HY.out.2.1 _ (by omega)).trans p0,(HY.out.2.1 _ (by omega)).trans p1⟩)
   ·obtain rfl:k = d.size:=by omega
    go_wp2_with fail
    go_ret
    obtain ⟨e1,e2⟩:=HS.out HA.out _ HW.out.1
    exact ⟨by rw [e1];rfl,HW.out.2,e2⟩
end
section
open Go.RowKit Lx Go.Shelf Go.Sort Go.Lib
def FlsAt (W:World) (s:Value) (l:List Flt):Prop:=SlAt s l.length 2 fun b o i=>∀ x,l[i]? = some x→W.cell? ⟨b,o,none⟩ = some (.int .i64 x.1)∧W.cell? ⟨b,o+1,none⟩ = some (.int .i64 x.2)
theorem FlsAt.below {w w' : World} {s:Value} {l:List Flt} (h:FlsAt w s l) (hb:Below w.heap.size w w'):FlsAt w' s l:=h.mono fun _ _ _ _ h x hx=>⟨QA1 hb (h x hx).1,QA1 hb (h x hx).2⟩
theorem QJl (a:Addr) (c:Nat) (w:World) :
  Calls Tryz.prog 42 #[.slice (some a) 0 c] w fun e w'=>∃ v',e = .returned v'∧w'.ownsRow w.heap.size 29 2 v' 0 []∧v'≠.slice none 0 0∧Below w.heap.size w w':=by
 obtain ⟨i,h2,h3,h4,h5⟩:=info_parts QEe
 have Ln:∀ (w:World) (a:Option Addr) (n c n' c' : Nat),(binOp .eql 38 (.slice a n c) (.slice none n' c')).run Tryz.prog w = .ok (.bool a.isNone) w:=fun w a n c n' c'=>Lib.run_eql_slice_nil w _ _ a n c n' c' Tryz.underlying38
 go_enter Tryz.func42,Tryz.ntmps42
 go_wp2_with (at_builtin;refine wpList_append_own _ rfl _ _ 38 rfl w.heap.size 29 i _ 2 16 Tryz.underlying38 h2 h3 h4 h5 rfl (by decide) _ _ _ rfl (World.ownsRow_made w #[] 0 (Nat.le_refl _) (Nat.zero_le _) (by simp)) a 0 c [] rfl ?qc1 ?qc2 ?qc3 ?qc4 ?qc5 ?qc6 ?_)
 case qc1=>rfl
 case qc2=>intro j u hj;simp at hj
 case qc3=>simp
 case qc4=>decide
 case qc5=>decide
 case qc6=>simp
 intro v' w1 hown hgrow hnil
 go_wp2_with fail
 go_ret
 refine ⟨v',rfl,by simpa using hown,?_,?_⟩
 ·exact hnil
 ·exact ((Below.refl _ w).alloc (Nat.le_refl _) _).grown hgrow (by simp) (by intro k hk;simp [Value.ownBlock] at hk;omega)
theorem QI3 (o:Option Addr) (c:Nat) (w:World):Calls Tryz.prog 48 #[.slice o 0 c] w fun e w'=>e = .returned (.slice o 0 c)∧w' = w:=by
 go_enter Tryz.func48,Tryz.ntmps48
 go_wp2_with fail
 go_ret
 exact ⟨rfl,rfl⟩
theorem ord_nil:QKs [] = []:=by unfold QKs sortF compactUpTo;simp
theorem rowF_of {W:World} {B n:Nat} {v:Value} {l:List Flt} (h:W.ownsRow B 29 2 v n (l.flatMap QC4)) (hne:v≠.slice none 0 0):∃ g c,v = .slice (some ⟨g,0,none⟩) n c∧n≤c∧c≤maxLen∧HoldsK QC4 2 W g 0 l.toArray∧B≤g∧g < W.heap.size:=by
 obtain ⟨hlen,h1 | ⟨g,cap,cur,rfl,hb,hg,hnc,hcm,hcs,htk⟩⟩:=h
 ·exact absurd h1.1 hne
 ·obtain ⟨hF,hZ,hge,hlt⟩:=QJH (l:=l) ⟨hlen,.inr ⟨g,cap,cur,rfl,hb,hg,hnc,hcm,hcs,htk⟩⟩
  exact ⟨g,cap,rfl,hnc,hcm,QNL hF hZ,hge,hlt⟩
theorem QJk (a:Addr) (n c:Nat) (l:List Flt) (w:World) (hs:FlsAt w (.slice (some a) n c) l) (hn:l.length≤1000000) :
  Calls Tryz.prog 42 #[.slice (some a) n c] w fun e w'=>∃ g c',e = .returned (.slice (some ⟨g,0,none⟩) l.length c')∧l.length≤c'∧c'≤maxLen∧HoldsK QC4 2 w' g 0 l.toArray∧w.heap.size≤g∧g < w'.heap.size∧Below w.heap.size w w':=by
 obtain ⟨o,cap,b,off,e,_,_,h0,hc⟩:=hs
 injection e with e1 e2 e3
 subst e2
 have hfin:∀ e w',(∃ v',e = Ending.returned v'∧World.ownsRow w' w.heap.size 29 2 v' l.length (l.flatMap QC4)∧v'≠.slice none 0 0∧Below w.heap.size w w')→∃ g c',e = .returned (.slice (some ⟨g,0,none⟩) l.length c')∧l.length≤c'∧c'≤maxLen∧HoldsK QC4 2 w' g 0 l.toArray∧w.heap.size≤g∧g < w'.heap.size∧Below w.heap.size w w':=by
  rintro e w' ⟨v',rfl,ho,hne,hb⟩
  obtain ⟨g,c',rfl,h1,h2,h3,h4,h5⟩:=rowF_of ho hne
  exact ⟨g,c',rfl,h1,h2,h3,h4,h5,hb⟩
 rcases Nat.eq_zero_or_pos l.length with hz | hp
 ·obtain rfl:=List.eq_nil_of_length_eq_zero hz
  exact (QJl a c w).mono hfin
 ·have:=h0 hp
  rw [← e1] at this
  injection this with this
  subst this
  refine (QLB b off l.length c l w rfl hn fun j u hu=>?_).mono hfin
  have hj:=(List.getElem?_eq_some_iff.1 hu).1
  rw [QIx] at hj
  obtain ⟨x,hx⟩:∃ x,l[j / 2]? = some x:=⟨_,List.getElem?_eq_getElem (by omega)⟩
  obtain ⟨f0,f1⟩:=QGR l _ x hx
  obtain ⟨c0,c1⟩:=hc (j / 2) (by omega) x hx
  rcases (show j = j / 2*2∨j = j / 2*2+1 by omega) with e | e
  ·rw [e,f0] at hu
   injection hu with hu
   rw [e,← hu];exact c0
  ·rw [e,f1] at hu
   injection hu with hu
   rw [e,← hu,← Nat.add_assoc];exact c1
theorem QLc {W:World} {g off:Nat} {l:List Flt} (h:HoldsK QC4 2 W g off l.toArray):RowF W g off l.toArray:=by
 refine ⟨fun i hi=>?_,fun j hj=>(h j (by simpa using hj)).2⟩
 have hx:l[i]? = some l.toArray[i]!:=by
  rw [getElem!_pos _ i hi]
  simp
 exact QNv h i _ hx
theorem QMC (s:Value) (l:List Flt) (w:World) (hs:FlsAt w s l) (hn:l.length≤1000000) :
  Calls Tryz.prog 16 #[s] w fun r Y=>∃ v,r = .returned v∧FlsAt Y v (QKs l)∧Below w.heap.size w Y:=by
 obtain ⟨o,cap,b,off,rfl,hcap⟩:=hs
 cases o with
 | none =>
  have hl:l.length = 0:=by
   rcases Nat.eq_zero_or_pos l.length with h | h
   ·exact h
   ·have:=hcap.2.2.1 h;cases this
  have hl0:=List.eq_nil_of_length_eq_zero hl
  have CL:Hid (∀ n c,Calls Tryz.prog 42 #[.slice none n c] w fun e w'=>e = .returned (.slice none 0 0)∧w' = w):=hid (fun n c=>AnyE.slices_Clone_nil Tryz.cloneF n c w)
  have SO:Hid (∀ fv w,Calls Tryz.prog 43 #[.slice none 0 0,fv] w fun e w'=>e = .returned (.tuple #[])∧w' = w):=hid (fun fv w=>AnyF.slices_SortFunc_none Tryz.sortF none 0 fv w)
  clear hcap hn
  subst hl0
  go_enter Tryz.func16,Tryz.ntmps16
  go_wp2_with (go_at_call 42;(with_reducible refine (CL.out _ _).mono ?_);rintro e w1 ⟨rfl,rfl⟩)
  refine (SO.out _ _).mono ?_
  rintro e w2 ⟨rfl,rfl⟩
  dsimp only
  go_wp2_with (go_at_call 48;(with_reducible refine (QI3 _ _ _).mono ?_);rintro e w3 ⟨rfl,rfl⟩)
  go_ret
  exact ⟨_,rfl,by rw [ord_nil];exact QCW _ _ _ _ _ ⟨Nat.zero_le _,fun _=>rfl⟩ rfl,Below.refl _ _⟩
 | some a =>
  have CL:=hid (QJk a l.length cap l w ⟨_,cap,b,off,rfl,hcap⟩ hn)
  have HN:=hid hn
  clear hcap hn
  go_enter Tryz.func16,Tryz.ntmps16
  go_wp2_with (go_at_call 42;(with_reducible refine CL.out.mono ?_);rintro e w1 ⟨g1,c1,rfl,k1,k2,hH,hge,hlt,hb⟩;have HH:=hid hH;have HB:=hid hb;have HG:=hid (And.intro hge hlt);have HC:=hid (And.intro k1 k2);clear hH hb hge hlt k1 k2)
  have SO2:Hid (Calls Tryz.prog 43 #[.slice (some ⟨g1,0,none⟩) l.length c1,.func (.func 44) #[] #[]] w1 fun e w'=>e = .returned (.tuple #[])∧HoldsK QC4 2 w' g1 0 (sortF l).toArray∧But g1 w1 w'):=hid (by
   have:=QOJ g1 0 c1 l.toArray w1 HH.out HG.out.2 (by have:=HN.out;simp;omega)
   simpa using this)
  refine SO2.out.mono ?_
  rintro e w2 ⟨rfl,hH2,hBt⟩
  dsimp only
  have hsl:(sortF l).length = l.length:=(QFS l).length_eq
  have CO:Hid (Calls Tryz.prog 48 #[.slice (some ⟨g1,0,none⟩) l.length c1] w2 fun e w'=>e = .returned (.slice (some ⟨g1,0,none⟩) (QKs l).length c1)∧But g1 w2 w'∧QFn w' g1 0 (QKs l)):=hid (by
   have:=QI2 g1 0 c1 (sortF l).toArray w2 (QLc hH2) (by have:=HN.out;simp [hsl];omega) (by have:=HC.out.1;simp [hsl];omega)
   simpa [hsl,QKs] using this)
  have HBt:=hid hBt
  clear hH2 hBt hsl
  go_wp2_with (go_at_call 48;(with_reducible refine CO.out.mono ?_);rintro e w3 ⟨rfl,hB3,hF3⟩;have HB3:=hid hB3;have HF3:=hid hF3;clear hB3 hF3)
  go_ret
  refine ⟨_,rfl,QCx (Nat.le_trans (QKK l) HC.out.1) HC.out.2 fun i hi x hx=>HF3.out i x hx,?_⟩
  have hb:=HB.out
  have ht:=HBt.out
  have h3:=HB3.out
  have hg:=HG.out.1
  exact ⟨h3.os.trans (ht.os.trans hb.os),h3.tape.trans (ht.tape.trans hb.tape),h3.output.trans (ht.output.trans hb.output),Nat.le_trans hb.size (Nat.le_trans ht.size h3.size),fun k hk=>(h3.block k (by omega) (by have:=hb.size;have:=ht.size;omega)).trans ((ht.block k (by omega) (by have:=hb.size;omega)).trans (hb.block k hk))⟩
end
section
open Go.RowKit Lx Go.Shelf Go.Sort Go.Lib
attribute [local go_sem] Oper.semAt_some
theorem ne_at {l m:List Flt} {c:Nat} {x y:Flt} (hx:l[c]? = some x) (hy:m[c]? = some y) (h:¬ (x.1 = y.1∧x.2 = y.2)):¬ l = m:=fun e=>by
 rw [e,hy] at hx
 injection hx with hx
 exact h (by rw [hx];exact ⟨rfl,rfl⟩)
theorem eq_all {l m:List Flt} (h1:l.length = m.length) (h:∀ j,j < l.length→∀ x y,l[j]? = some x→m[j]? = some y→x = y):l = m:=by
 apply List.ext_getElem h1
 intro i hi hj
 exact h i hi _ _ (List.getElem?_eq_getElem _) (List.getElem?_eq_getElem _)
set_option maxRecDepth 100000 in
theorem same_fl (s t:Value) (l m:List Flt) (w:World) (hs:FlsAt w s l) (ht:FlsAt w t m) (hn:l.length≤1000000) :
  Calls Tryz.prog 7 #[s,t] w fun r Y=>r = .returned (.bool (decide (l = m)))∧Below w.heap.size w Y:=by
 have HS:=hid hs
 have HT:=hid ht
 obtain ⟨o1,cap1,b1,f1,rfl,_,_,e1,c1⟩:=hs
 obtain ⟨o2,cap2,b2,f2,rfl,_,_,e2,c2⟩:=ht
 obtain ⟨n,hnn⟩:∃ n,n = l.length:=⟨_,rfl⟩
 obtain ⟨k,hkk⟩:∃ k,k = m.length:=⟨_,rfl⟩
 rw [← hnn] at e1 c1 hn ⊢
 rw [← hkk] at e2 c2 ⊢
 have HN:=hid hnn
 have HM:=hid hkk
 have E1:=hid e1
 have E2:=hid e2
 have C1:=hid c1
 have C2:=hid c2
 clear hnn hkk e1 e2 c1 c2
 go_enter Tryz.func7,Tryz.ntmps7
 by_cases g1:¬ n = k
 ·have z1:((n:Int) != (k:Int)) = true:=by simp;omega
  have HF:Hid (decide (l = m) = false):=hid (decide_eq_false fun e=>g1 (by rw [HN.out,HM.out,e]))
  clear g1
  go_wp2_with fail
  go_ret
  exact ⟨by rw [HF.out];rfl,Below.refl _ _⟩
 have G1:=hid (Classical.not_not.1 g1)
 have z1:((n:Int) != (k:Int)) = false:=by simp [G1.out]
 clear g1
 go_wp2_with fail
 clear z1
 go_loopw [5] (fun i wr=>∃ (c:Nat),i = .int .i64 (c:Int)∧c≤n∧Hid (∀ j,j < c→∀ x y,l[j]? = some x→m[j]? = some y→x = y)∧Hid (Below w.heap.size w wr)) (fun i _=>n - QA2 i)
 case atStart=>exact ⟨0,rfl,Nat.zero_le _,hid fun j hj=>by omega,hid (Below.refl _ _)⟩
 case round =>
  obtain ⟨c,rfl,hc,hP,hWr⟩:=hrel
  rcases Nat.lt_or_ge c n with hlt | hge
  ·have hl:(c:Int) < (n:Int):=by omega
   have hl2:c < k:=by rw [← G1.out];exact hlt
   obtain ⟨x,hxk⟩:∃ x,l[c]? = some x:=⟨_,List.getElem?_eq_getElem (by have:=HN.out;omega)⟩
   obtain ⟨y,hyk⟩:∃ y,m[c]? = some y:=⟨_,List.getElem?_eq_getElem (by have:=HM.out;omega)⟩
   obtain ⟨p1,p2⟩:=C1.out c hlt x hxk
   obtain ⟨q1,q2⟩:=C2.out c hl2 y hyk
   have p1:=QA1 hWr.out p1
   have p2:=QA1 hWr.out p2
   have q1:=QA1 hWr.out q1
   have q2:=QA1 hWr.out q2
   have ix1:=QCn (cap:=cap1) E1.out hlt (by omega)
   have ix2:=QCn (cap:=cap2) E2.out hl2 (by have:=G1.out;omega)
   unfold Ix at ix1 ix2
   have HX:=hid hxk
   have HY:=hid hyk
   have HDR:Hid (Below w.heap.size w wr.drew):=hid (hWr.out.trans ⟨rfl,rfl,rfl,Nat.le_refl _,fun _ _=>rfl⟩)
   clear hxk hyk
   have mixed : Tryz.prog.follows .mixedOrders = true:=by kernel_rfl
   have hne:¬ (x.1 = y.1∧x.2 = y.2)→decide (l = m) = false:=fun h=>decide_eq_false (ne_at HX.out HY.out h)
   have hyes:x.1 = y.1→x.2 = y.2→∀ j,j < c+1→∀ x y,l[j]? = some x→m[j]? = some y→x = y:=fun h1 h2 j hj x1 y1 k1 k2=>by
    rcases Nat.lt_or_ge j c with h | h
    ·exact hP.out j h x1 y1 k1 k2
    ·obtain rfl:j = c:=by omega
     have e1:=HX.out.symm.trans k1
     have e2:=HY.out.symm.trans k2
     cases e1;cases e2
     exact Prod.ext h1 h2
   have HNE:=hid hne
   have HYE:=hid hyes
   clear hne hyes
   obtain ⟨x1,x2⟩:=x
   obtain ⟨y1,y2⟩:=y
   dsimp only at p1 p2 q1 q2
   by_cases z:x1 = y1
   ·by_cases z2:x2 = y2
    ·have HY2:=hid (HYE.out z z2)
     subst z
     subst z2
     have r1:(x1 == x1) = true:=by simp
     have r2:(x2 == x2) = true:=by simp
     go_wp2_with fail
     go_region_o
     all_goals (
      go_wp2_with fail
      refine ⟨⟨c+1,by go_num,by omega,HY2,HDR⟩,?_⟩
      simp [QA2]
      omega)
    ·have HF:=hid (HNE.out fun h=>z2 h.2)
     subst z
     have r1:(x1 == x1) = true:=by simp
     have r2:(x2 == y2) = false:=by simpa using z2
     go_wp2_with fail
     go_region_o
     all_goals (go_wp2_with fail)
     all_goals (
      go_ret
      exact ⟨by rw [HF.out];rfl,HDR.out⟩)
   ·have HF:=hid (HNE.out fun h=>z h.1)
    have r1:(x1 == y1) = false:=by simpa using z
    go_wp2_with fail
    go_region_o
    all_goals (go_wp2_with fail)
    all_goals (
     go_ret
     exact ⟨by rw [HF.out];rfl,HDR.out⟩)
  ·obtain rfl:c = n:=by omega
   have hno:¬ (c:Int) < (c:Int):=by omega
   have HF:Hid (decide (l = m) = true):=hid (decide_eq_true (eq_all (by rw [← HN.out,← HM.out];exact G1.out) fun j hj x y h1 h2=>hP.out j (by rw [HN.out];exact hj) x y h1 h2))
   go_wp2_with fail
   go_ret
   exact ⟨by rw [HF.out];rfl,hWr.out⟩
end
section
open Go.RowKit Lx Go.Shelf Go.Sort Go.Lib
attribute [local go_sem] Oper.semAt_some
theorem QGV (f:Flt):∀ (l r:List Flt),l.any (ltF f) = false→QEf f (l ++ r) = l ++ QEf f r
 | [],r,_=>rfl
 | y :: l,r,h=>by
  rw [List.any_cons,Bool.or_eq_false_iff] at h
  rw [List.cons_append,List.cons_append,QEf,if_neg (by rw [h.1];decide),QGV f l r h.2]
theorem QJ1 (f:Flt):∀ (l r:List Flt),l.any (ltF f) = true→QEf f (l ++ r) = QEf f l ++ r
 | [],r,h=>by simp at h
 | y :: l,r,h=>by
  rw [List.cons_append,QEf,QEf]
  split
  ·rfl
  ·rename_i hn
   rw [List.cons_append,QJ1 f l r (by rw [List.any_cons] at h;simpa [hn] using h)]
theorem QLh (f:Flt):∀ l:List Flt,(QEf f l).length = l.length+1
 | []=>rfl
 | y :: l=>by
  unfold QEf
  split
  ·rfl
  ·rw [List.length_cons,QLh f l];rfl
theorem QC3 {l:List Flt} {c:Nat} {y:Flt} (h:l[c]? = some y):l.take (c+1) = l.take c ++ [y]:=by
 rw [List.take_add_one,h];rfl
structure AdSt (w:World) (f:Flt) (Z:World) (v:Value) (out:List Flt):Prop where
 below:Below w.heap.size w Z
 box:Z.heap[w.heap.size]? = some (.cells #[.int .i64 f.1,.int .i64 f.2] 29 (0,0))
 own:Z.ownsRow (w.heap.size+1) 29 2 v out.length (out.flatMap QC4)
theorem AdSt.drew {w Z:World} {f:Flt} {v:Value} {out:List Flt} (h:AdSt w f Z v out):AdSt w f Z.drew v out:=⟨⟨h.below.os,h.below.tape,h.below.output,h.below.size,h.below.block⟩,h.box,h.own⟩
theorem QJd (w:World) (f:Flt):AdSt w f (w.alloc (.cells #[.int .i64 f.1,.int .i64 f.2] 29)) (.slice none 0 0) [] :=
 ⟨(Below.refl _ _).alloc (Nat.le_refl _) _,QAR rfl,World.ownsRow_nil _ _ _ _⟩
theorem AdSt.push {w Z Y:World} {f:Flt} {v v' : Value} {out:List Flt} {a b:Int} (h:AdSt w f Z v out) (ho:Y.ownsRow (w.heap.size+1) 29 2 v' (out.length+1) (out.flatMap QC4 ++ [.int .i64 a,.int .i64 b])) (hg:(Z.alloc (.cells #[.int .i64 a,.int .i64 b] 29)).grownBy Y v.ownBlock):AdSt w f Y v' (out ++ [(a,b)]):=by
 have hlt:=lt_of_heap h.box
 have hne:∀ k,k≤w.heap.size→v.ownBlock≠some k:=fun k hk e=>by
  have:=(h.own.lt k e).1
  omega
 have hal:∀ k,k < Z.heap.size→(Z.alloc (.cells #[.int .i64 a,.int .i64 b] 29)).heap[k]? = Z.heap[k]?:=fun k hk=>((Below.refl Z.heap.size Z).alloc (Nat.le_refl _) (.cells #[.int .i64 a,.int .i64 b] 29)).block k hk
 have hsz:(Z.alloc (.cells #[.int .i64 a,.int .i64 b] 29)).heap.size = Z.heap.size+1:=by simp
 have hb:Below w.heap.size w (Z.alloc (.cells #[.int .i64 a,.int .i64 b] 29)):=h.below.alloc h.below.size _
 refine ⟨⟨hg.os.trans hb.os,hg.tape.trans hb.tape,hg.output.trans hb.output,Nat.le_trans hb.size hg.size,fun k hk=>(hg.block k (by omega) (fun e=>hne k (by omega) e.symm)).trans (hb.block k hk)⟩,?_,?_⟩
 ·exact (hg.block _ (by omega) (fun e=>hne _ (Nat.le_refl _) e.symm)).trans ((hal _ hlt).trans h.box)
 ·rw [List.length_append,List.flatMap_append]
  exact ho
theorem QB9 (W:World) (o:Obj):(W.alloc o).drew.drew = (W.drew.drew).alloc o:=rfl
theorem QB5 {w Z Z' : World} {f:Flt} {v:Value} {out:List Flt} (h:Hid (AdSt w f Z v out)) (a b:Int) (hZ:Z' = Z.alloc (.cells #[.int .i64 a,.int .i64 b] 29)) (hk:out.length≤1000000) {ops:Array Oper} {QBd:List Oper} {o:Oper} {act:Act} {Q:Exit→Act→World→Prop}
  (hg:o.guard = none) (s x:Operand) (hop:o.op = Op.call { callee:=Callee.builtin Builtin.append,args:=#[s,x],argTypes:=#[38,38] }) (hs:act.eval s = v) (hx:act.eval x = .slice (some ⟨Z.heap.size,0,none⟩) 1 1)
  (hK:∀ v' w',Hid (AdSt w f w' v' (out ++ [(a,b)]))→wpList Tryz.prog ops Q QBd (act.put o.dst v') w') :
  wpList Tryz.prog ops Q (o :: QBd) act Z':=by
 subst hZ
 obtain ⟨i,h2,h3,h4,h5⟩:=info_parts QEe
 refine wpList_append_lies (w:=_) hg s x 38 hop (w.heap.size+1) 29 i _ 2 16 Tryz.underlying38 h2 h3 h4 h5 rfl (by decide) v out.length (out.flatMap QC4) hs (h.out.own.alloc _) ⟨Z.heap.size,0,none⟩ 1 1 [.int .i64 a,.int .i64 b] hx rfl (fun j u hu=>?_) (by intro u hu;simp at hu;rcases hu with rfl | rfl <;> rfl) (by decide) (by unfold maxLen;omega) (by omega) (by have:=lt_of_heap h.out.box;simp;omega) _ rfl fun g cap w' ho hgr _ _=>hK _ _ (hid (h.out.push ho hgr))
 have e:(⟨Z.heap.size,0,none⟩:Addr).add j = ⟨Z.heap.size,j,none⟩:=by unfold Addr.add;split <;> simp_all
 rw [e,World.cell?_alloc_new,← hu,← Array.getElem?_toList]
theorem QF1 {W:World} {B:Nat} {v:Value} {l:List Flt} (h:W.ownsRow B 29 2 v l.length (l.flatMap QC4)):FlsAt W v l:=by
 obtain ⟨hlen,h1 | ⟨g,cap,cur,rfl,hb,hg,hnc,hcm,hcs,htk⟩⟩:=h
 ·rw [h1.1]
  unfold FlsAt
  rw [h1.2]
  exact QCW _ _ _ _ _ ⟨Nat.zero_le _,fun _=>rfl⟩ rfl
 ·obtain ⟨hF,_,_,_⟩:=QJH (l:=l) ⟨hlen,.inr ⟨g,cap,cur,rfl,hb,hg,hnc,hcm,hcs,htk⟩⟩
  exact QCx hnc hcm fun i _ x hx=>hF i x hx
structure AdI (w:World) (f:Flt) (l:List Flt) (c:Nat) (pb:Bool) (Z:World) (v:Value):Prop where
 any:(l.take c).any (ltF f) = pb
 st:AdSt w f Z v (if pb then QEf f (l.take c) else l.take c)
 nin:¬ f∈l.take c
theorem QGb {f:Flt} {l:List Flt} {c:Nat} {y:Flt} (hy:l[c]? = some y) (h:¬ f∈l.take c) (hne:¬ (y.1 = f.1∧y.2 = f.2)):¬ f∈l.take (c+1):=by
 rw [QC3 hy]
 simp only [List.mem_append,List.mem_singleton]
 rintro (h1 | h1)
 ·exact h h1
 ·exact hne (by rw [h1];exact ⟨rfl,rfl⟩)
theorem AdI.keep {w Z Y:World} {f:Flt} {l:List Flt} {c:Nat} {v v' : Value} {y:Flt} (h:AdI w f l c true Z v) (hy:l[c]? = some y) (hne:¬ (y.1 = f.1∧y.2 = f.2)) (hs:AdSt w f Y v' (QEf f (l.take c) ++ [(y.1,y.2)])):AdI w f l (c+1) true Y v' :=
 ⟨by rw [QC3 hy,List.any_append,h.any];rfl,by rw [if_pos rfl,QC3 hy,QJ1 f _ _ h.any];exact hs,QGb hy h.nin hne⟩
theorem AdI.skip {w Z Y:World} {f:Flt} {l:List Flt} {c:Nat} {v v' : Value} {y:Flt} (h:AdI w f l c false Z v) (hy:l[c]? = some y) (hne:¬ (y.1 = f.1∧y.2 = f.2)) (hlt:ltF f y = false) (hs:AdSt w f Y v' (l.take c ++ [(y.1,y.2)])):AdI w f l (c+1) false Y v' :=
 ⟨by rw [QC3 hy,List.any_append,h.any];simp [hlt],by rw [if_neg (by decide),QC3 hy];exact hs,QGb hy h.nin hne⟩
theorem AdI.ins {w Z Y:World} {f:Flt} {l:List Flt} {c:Nat} {v v' : Value} {y:Flt} (h:AdI w f l c false Z v) (hy:l[c]? = some y) (hne:¬ (y.1 = f.1∧y.2 = f.2)) (hlt:ltF f y = true) (hs:AdSt w f Y v' (l.take c ++ [(f.1,f.2)] ++ [(y.1,y.2)])):AdI w f l (c+1) true Y v' :=
 ⟨by rw [QC3 hy,List.any_append];simp [hlt],by
  rw [if_pos rfl,QC3 hy,QGV f _ _ h.any,QEf,if_pos hlt]
  simpa using hs,QGb hy h.nin hne⟩
set_option maxRecDepth 100000 in
theorem add_any (s:Value) (l:List Flt) (x1 x2:Int) (w:World) (hs:FlsAt w s l) (hn:l.length≤100000) :
  Calls Tryz.prog 18 #[s,.agg #[.int .i64 x1,.int .i64 x2]] w fun r Y=>∃ v,r = .returned v∧FlsAt Y v (QKo l (x1,x2))∧Below w.heap.size w Y:=by
 have HS:=hid hs
 obtain ⟨o1,cap1,b1,f1,rfl,_,_,e1,c1⟩:=hs
 obtain ⟨n,hnn⟩:∃ n,n = l.length:=⟨_,rfl⟩
 rw [← hnn] at e1 c1 hn HS ⊢
 have HN:=hid hnn
 have E1:=hid e1
 have C1:=hid c1
 have A0:=hid (QJd w (x1,x2))
 clear hnn e1 c1
 go_enter Tryz.func18,Tryz.ntmps18
 go_wp2_with fail
 go_loopw [5,6,7] (fun vo vp i wr=>∃ (c:Nat) (pb:Bool) (v:Value),v = vo∧vp = .bool pb∧i = .int .i64 (c:Int)∧c≤n∧Hid (AdI w (x1,x2) l c pb wr v)) (fun _ _ i _=>n - QA2 i)
 case atStart=>exact ⟨0,false,_,rfl,rfl,rfl,Nat.zero_le _,hid ⟨by simp,by simpa using A0.out,by simp⟩⟩
 case round =>
  obtain ⟨c,pb,v,rfl,rfl,rfl,hc,hI⟩:=hrel
  rcases Nat.lt_or_ge c n with hlt | hge
  ·have hl:(c:Int) < (n:Int):=by omega
   obtain ⟨y,hyk⟩:∃ y,l[c]? = some y:=⟨_,List.getElem?_eq_getElem (by have:=HN.out;omega)⟩
   have HP:=hid (C1.out c hlt y hyk)
   have p1:=QA1 hI.out.st.below HP.out.1
   have p2:=QA1 hI.out.st.below HP.out.2
   obtain ⟨u0,u1⟩:=QAA hI.out.st.box
   dsimp only at u0 u1
   have ix1:=QCn (cap:=cap1) E1.out hlt (by omega)
   unfold Ix at ix1
   have HY:=hid hyk
   clear hyk
   have mixed : Tryz.prog.follows .mixedOrders = true:=by kernel_rfl
   obtain ⟨y1,y2⟩:=y
   dsimp only at p1 p2
   by_cases z:y1 = x1∧y2 = x2
   ·have HM:Hid (QKo l (x1,x2) = l):=hid (by unfold QKo;rw [if_pos (by rw [← z.1,← z.2];exact List.mem_of_getElem? HY.out)])
    have HB:=hid hI.out.st.below.drew
    obtain ⟨z1,z2⟩:=z
    have r1:(y1 == x1) = true:=by simpa using z1
    have r2:(y2 == x2) = true:=by simpa using z2
    go_wp2_with fail
    go_region_o
    all_goals (go_wp2_with fail)
    all_goals (
     go_ret
     exact ⟨_,rfl,by rw [HM.out];exact HS.out.below HB.out,HB.out⟩)
   ·have HNE:=hid z
    have hq:(¬ y1 = x1)∨(y1 = x1∧¬ y2 = x2):=by
     by_cases h1:y1 = x1
     ·exact .inr ⟨h1,fun h2=>z ⟨h1,h2⟩⟩
     ·exact .inl h1
    clear z
    have HQ:=hid hq
    clear hq
    cases pb with
    | true =>
     have HZ:Hid (AdSt w (x1,x2) wr.drew.drew v (QEf (x1,x2) (l.take c))):=hid (by have:=hI.out.st;rw [if_pos rfl] at this;exact this.drew.drew)
     have hlen:(QEf (x1,x2) (l.take c)).length≤1000000:=by rw [QLh,List.length_take];omega
     rcases HQ.out with z | ⟨z,zz⟩
     ·have r1:(y1 == x1) = false:=by simpa using z
      go_wp2_with fail
      go_region_o
      all_goals (
       go_wp2_with fail
       go_region_o
       all_goals (
        go_wp2_with (at_builtin;refine QB5 HZ y1 y2 (QB9 _ _) hlen rfl _ _ rfl rfl rfl ?_;intro v3 w3 h3;clear p1 p2 u0 u1)
        refine ⟨⟨c+1,true,v3,rfl,rfl,by go_num,by omega,hid (AdI.keep hI.out HY.out HNE.out h3.out)⟩,?_⟩
        simp [QA2]
        omega))
     ·have r1:(y1 == x1) = true:=by simpa using z
      have r2:(y2 == x2) = false:=by simpa using zz
      clear z
      go_wp2_with fail
      go_region_o
      all_goals (
       go_wp2_with fail
       go_region_o
       all_goals (
        go_wp2_with (at_builtin;refine QB5 HZ y1 y2 (QB9 _ _) hlen rfl _ _ rfl rfl rfl ?_;intro v3 w3 h3;clear p1 p2 u0 u1)
        refine ⟨⟨c+1,true,v3,rfl,rfl,by go_num,by omega,hid (AdI.keep hI.out HY.out HNE.out h3.out)⟩,?_⟩
        simp [QA2]
        omega))
    | false =>
     have HZ:Hid (AdSt w (x1,x2) wr.drew.drew v (l.take c)):=hid (by have:=hI.out.st;rw [if_neg (by decide)] at this;exact this.drew.drew)
     have hlen:(l.take c).length≤1000000:=by rw [List.length_take];omega
     have hlen2:(l.take c ++ [(x1,x2)]).length≤1000000:=by rw [List.length_append,List.length_take];simp;omega
     by_cases g1:x2 < y2
     ·have HLT:Hid (ltF (x1,x2) (y1,y2) = true):=hid (by rw [QCD];exact .inl g1)
      have t1:decide (x2 < y2) = true:=decide_eq_true g1
      rcases HQ.out with z | ⟨z,zz⟩
      ·have r1:(y1 == x1) = false:=by simpa using z
       go_wp2_with fail
       go_region_o
       all_goals (
        go_wp2_with fail
        go_region_o
        all_goals (
         go_wp2_with (first | (at_builtin;refine QB5 HZ x1 x2 (QB9 _ _) hlen rfl _ _ rfl rfl rfl ?_;intro v2 w2 h2;have k1:w2.cell? ⟨b1,f1+c*2,none⟩ = some (.int .i64 y1):=QA1 h2.out.below HP.out.1;have k2:w2.cell? ⟨b1,f1+c*2+1,none⟩ = some (.int .i64 y2):=QA1 h2.out.below HP.out.2;clear p1 p2 u0 u1) | (at_builtin;refine QB5 h2 y1 y2 rfl hlen2 rfl _ _ rfl rfl rfl ?_;intro v3 w3 h3;clear k1 k2))
         refine ⟨⟨c+1,true,v3,rfl,rfl,by go_num,by omega,hid (AdI.ins hI.out HY.out HNE.out HLT.out h3.out)⟩,?_⟩
         simp [QA2]
         omega))
      ·have r1:(y1 == x1) = true:=by simpa using z
       have r2:(y2 == x2) = false:=by simpa using zz
       clear z
       go_wp2_with fail
       go_region_o
       all_goals (
        go_wp2_with fail
        go_region_o
        all_goals (
         go_wp2_with (first | (at_builtin;refine QB5 HZ x1 x2 (QB9 _ _) hlen rfl _ _ rfl rfl rfl ?_;intro v2 w2 h2;have k1:w2.cell? ⟨b1,f1+c*2,none⟩ = some (.int .i64 y1):=QA1 h2.out.below HP.out.1;have k2:w2.cell? ⟨b1,f1+c*2+1,none⟩ = some (.int .i64 y2):=QA1 h2.out.below HP.out.2;clear p1 p2 u0 u1) | (at_builtin;refine QB5 h2 y1 y2 rfl hlen2 rfl _ _ rfl rfl rfl ?_;intro v3 w3 h3;clear k1 k2))
         refine ⟨⟨c+1,true,v3,rfl,rfl,by go_num,by omega,hid (AdI.ins hI.out HY.out HNE.out HLT.out h3.out)⟩,?_⟩
         simp [QA2]
         omega))
     ·have t1:decide (x2 < y2) = false:=decide_eq_false g1
      by_cases g2:y2 = x2
      ·by_cases g3:x1 < y1
       ·have HLT:Hid (ltF (x1,x2) (y1,y2) = true):=hid (by rw [QCD];exact .inr ⟨g2.symm,g3⟩)
        have t2:(y2 == x2) = true:=by simpa using g2
        have t3:decide (x1 < y1) = true:=decide_eq_true g3
        rcases HQ.out with z | ⟨z,zz⟩
        ·have r1:(y1 == x1) = false:=by simpa using z
         clear g2
         go_wp2_with fail
         go_region_o
         all_goals (
          go_wp2_with fail
          go_region_o
          all_goals (
           go_wp2_with (first | (at_builtin;refine QB5 HZ x1 x2 (QB9 _ _) hlen rfl _ _ rfl rfl rfl ?_;intro v2 w2 h2;have k1:w2.cell? ⟨b1,f1+c*2,none⟩ = some (.int .i64 y1):=QA1 h2.out.below HP.out.1;have k2:w2.cell? ⟨b1,f1+c*2+1,none⟩ = some (.int .i64 y2):=QA1 h2.out.below HP.out.2;clear p1 p2 u0 u1) | (at_builtin;refine QB5 h2 y1 y2 rfl hlen2 rfl _ _ rfl rfl rfl ?_;intro v3 w3 h3;clear k1 k2))
           refine ⟨⟨c+1,true,v3,rfl,rfl,by go_num,by omega,hid (AdI.ins hI.out HY.out HNE.out HLT.out h3.out)⟩,?_⟩
           simp [QA2]
           omega))
        ·exact absurd g2 zz
       ·have HLT:Hid (ltF (x1,x2) (y1,y2) = false):=hid (by rw [← Bool.not_eq_true,QCD];exact fun h=>h.elim g1 fun h=>g3 h.2)
        have t2:(y2 == x2) = true:=by simpa using g2
        have t3:decide (x1 < y1) = false:=decide_eq_false g3
        rcases HQ.out with z | ⟨z,zz⟩
        ·have r1:(y1 == x1) = false:=by simpa using z
         clear g2
         go_wp2_with fail
         go_region_o
         all_goals (
          go_wp2_with fail
          go_region_o
          all_goals (
           go_wp2_with (at_builtin;refine QB5 HZ y1 y2 (QB9 _ _) hlen rfl _ _ rfl rfl rfl ?_;intro v3 w3 h3;clear p1 p2 u0 u1)
           refine ⟨⟨c+1,false,v3,rfl,rfl,by go_num,by omega,hid (AdI.skip hI.out HY.out HNE.out HLT.out h3.out)⟩,?_⟩
           simp [QA2]
           omega))
        ·exact absurd g2 zz
      ·have HLT:Hid (ltF (x1,x2) (y1,y2) = false):=hid (by rw [← Bool.not_eq_true,QCD];exact fun h=>h.elim g1 fun h=>g2 h.1.symm)
       have t2:(y2 == x2) = false:=by simpa using g2
       rcases HQ.out with z | ⟨z,zz⟩
       ·have r1:(y1 == x1) = false:=by simpa using z
        go_wp2_with fail
        go_region_o
        all_goals (
         go_wp2_with fail
         go_region_o
         all_goals (
          go_wp2_with (at_builtin;refine QB5 HZ y1 y2 (QB9 _ _) hlen rfl _ _ rfl rfl rfl ?_;intro v3 w3 h3;clear p1 p2 u0 u1)
          refine ⟨⟨c+1,false,v3,rfl,rfl,by go_num,by omega,hid (AdI.skip hI.out HY.out HNE.out HLT.out h3.out)⟩,?_⟩
          simp [QA2]
          omega))
       ·have r1:(y1 == x1) = true:=by simpa using z
        have r2:(y2 == x2) = false:=by simpa using zz
        clear z
        go_wp2_with fail
        go_region_o
        all_goals (
         go_wp2_with fail
         go_region_o
         all_goals (
          go_wp2_with (at_builtin;refine QB5 HZ y1 y2 (QB9 _ _) hlen rfl _ _ rfl rfl rfl ?_;intro v3 w3 h3;clear p1 p2 u0 u1)
          refine ⟨⟨c+1,false,v3,rfl,rfl,by go_num,by omega,hid (AdI.skip hI.out HY.out HNE.out HLT.out h3.out)⟩,?_⟩
          simp [QA2]
          omega))
  ·obtain rfl:c = n:=by omega
   have hno:¬ (c:Int) < (c:Int):=by omega
   have htk:l.take c = l:=by rw [HN.out];exact List.take_length
   cases pb with
   | true =>
    have HF:=hid (QF1 hI.out.st.own)
    have HB:=hid hI.out.st.below
    have HA:Hid (QKo l (x1,x2) = QEf (x1,x2) (l.take c)):=hid (by rw [htk];unfold QKo;rw [if_neg (by have:=hI.out.nin;rwa [htk] at this)])
    clear htk
    go_wp2_with fail
    go_ret
    exact ⟨_,rfl,by rw [HA.out];exact HF.out,HB.out⟩
   | false =>
    have HA:Hid (QKo l (x1,x2) = l.take c ++ [(x1,x2)]):=hid (by
     unfold QKo
     rw [if_neg (by have:=hI.out.nin;rwa [htk] at this),htk]
     have:=QGV (x1,x2) l [] (by have:=hI.out.any;rwa [htk] at this)
     simpa [QEf] using this)
    have HZ:Hid (AdSt w (x1,x2) wr v (l.take c)):=hid (by simpa using hI.out.st)
    have hlen:(l.take c).length≤1000000:=by rw [List.length_take];omega
    obtain ⟨u0,u1⟩:=QAA hI.out.st.box
    dsimp only at u0 u1
    clear htk
    go_wp2_with (at_builtin;refine QB5 HZ x1 x2 rfl hlen rfl _ _ rfl rfl rfl ?_;intro v2 w2 h2)
    go_ret
    exact ⟨_,rfl,by rw [HA.out];exact QF1 h2.out.own,h2.out.below⟩
end
end
end Go.Proofs.YtknbghjoncomiaaGreat
