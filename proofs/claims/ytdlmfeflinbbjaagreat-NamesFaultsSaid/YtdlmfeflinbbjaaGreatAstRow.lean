import Derived.Test.YtdlmfeflinbbjaaGreatAstParts
import Derived.RangeFuncBox
import Derived.Maps.AppendAt
namespace Go.Proofs.YtdlmfeflinbbjaaGreat
open Go.RowKit Go.Shelf
attribute [local go_sem] Oper.semAt_some
theorem int_info:(Tryz.prog.info? 3).map (fun i=>(i.zero,i.size,i.bytes)) = some (some (.int .i64 0),1,8):=by kernel_rfl
theorem row_after {W:World} {base:Nat} {i:TypeInfo} {z:Value} {ty:TypeId} (h2 : Tryz.prog.info? 3 = some i) (h3:i.zero = some z) (h4:i.size = 1) (h5:i.bytes = 8)
    (v:Value) (k:Nat) (xs:List Value) (hown:W.ownsRow base 3 1 v k xs) (ad:Addr) (news:List Value) (hn:news.length = 1*1)
    (hc:∀ j u,news[j]? = some u→W.cell? (ad.add j) = some u) (h1c:∀ u∈news,u.oneCell' = true) (hk:k≤1000000000) (v' : Value) (w' : World)
    (hrun:(Builtin.append_ #[33,33] ty #[v,.slice (some ad) 1 1]).run Tryz.prog W = .ok v' w'):v'.ownBlock = v.ownBlock∨v'.ownBlock = some W.heap.size:=by
  rcases hown.2 with ⟨rfl,rfl⟩ | ⟨g,cap,cur,rfl,hbg,hg,hnc,hcm,hcs,htake⟩
  · have hr:=run_append_nil (P:=Tryz.prog) W 33 ty 3 i z Tryz.underlying33 h2 h3 ad 1 1 news (by rw [h4];exact hn) hc (by omega) (by omega) (by rw [h5];omega)
    rw [hr] at hrun
    cases hrun
    exact .inr rfl
  · by_cases hroom:k+1≤cap
    · have hr:=run_append_room (P:=Tryz.prog) W 33 ty 3 i Tryz.underlying33 h2 g k cap cur hg ad 1 1 news (by rw [h4];exact hn) hc h1c hroom (by rw [h4,hcs];omega)
      rw [hr] at hrun
      cases hrun
      exact .inl rfl
    · have holds:∀ j u,xs[j]? = some u→W.cell? ((⟨g,0,none⟩:Addr).add j) = some u:=hown.cells (g:=g) rfl
      have hr:=run_append_grow (P:=Tryz.prog) W 33 ty 3 i z Tryz.underlying33 h2 h3 ⟨g,0,none⟩ k cap xs (by rw [h4];exact hown.1) holds ad 1 1 news (by rw [h4];exact hn) hc (by omega) (by omega) (growslice_fits (by omega) (by rw [h5];omega))
      rw [hr] at hrun
      cases hrun
      exact .inr rfl
theorem wpListIn_append_int {F:Fence} {n:Nat} (w:World) {ops:Array Oper} {rest:List Oper} {o:Oper} {a:Act} {Q:Exit→Act→World→Prop}
    (hg:o.guard = none) (s x:Operand) (hop:o.op = Op.call { callee:=Callee.builtin Builtin.append,args:=#[s,x],argTypes:=#[33,33] })
    (base:Nat) (v:Value) (k:Nat) (xs:List Value) (hs:a.eval s = v) (hown:w.ownsRow base 3 1 v k xs) (ad:Addr) (news:List Value) (hx:a.eval x = .slice (some ad) 1 1) (hn:news.length = 1*1)
    (hc:∀ j u,news[j]? = some u→w.cell? (ad.add j) = some u) (h1c:∀ u∈news,u.oneCell' = true) (hk:k≤1000000000) (b3:base≤w.heap.size)
    (hK:∀ v' w',w'.ownsRow base 3 1 v' (k+1) (xs ++ news)→w.grownBy w' v.ownBlock→(v'.ownBlock = v.ownBlock∨v'.ownBlock = some w.heap.size)→wpListIn F n Tryz.prog ops Q rest (a.put o.dst v') w') :
    wpListIn F n Tryz.prog ops Q (o :: rest) a w:=by
  obtain ⟨i,h2,h3,h4,h5⟩:=info_parts int_info
  refine wpListIn_plain hg fun K hK'=>?_
  obtain ⟨v',w',hrun,r1,r2,_⟩:=run_append_own (P:=Tryz.prog) w base 33 o.type 3 i _ 1 8 Tryz.underlying33 h2 h3 h4 h5 rfl (by decide) v k xs hown ad 1 1 news hn hc h1c (by unfold maxLen;omega) (by omega) b3
  have r3:=row_after h2 h3 h4 h5 v k xs hown ad news hn hc h1c hk v' w' hrun
  unfold Oper.wpIn
  refine ⟨?_,?_⟩
  · simp [Oper.about,hop,resolve,Target.leads,Sem.run_pure]
  · rw [Oper.semAt_plain F _ _ (by rw [hop];intro c hc';cases hc')]
    simp [execOp,hop,resolve,invoke,builtin,hs,hx,hrun,Result.andThen]
    exact hK' _ _ (hK v' w' r1 r2 r3)
def rowOf (B:Nat) (W:World):Option Nat:=(W.cell? ⟨B,0,none⟩).bind Value.ownBlock
theorem rowOf_box {W:World} {B:Nat} {T:TypeId} {v:Value} (h:Boxed W B T v):rowOf B W = v.ownBlock:=by unfold rowOf;rw [h.cell];rfl
theorem rowOf_same {B:Nat} {X Y:World} (h:Y.heap[B]? = X.heap[B]?):rowOf B Y = rowOf B X:=by unfold rowOf;rw [cell_same' h]
theorem lt_of_heap {W:World} {k:Nat} {o:Obj} (h:W.heap[k]? = some o):k < W.heap.size:=(Array.getElem?_eq_some_iff.1 h).1
theorem set_other (W:World) (g k i:Nat) (v:Value) (h:k≠g):(W.setCell ⟨g,i,none⟩ v).heap[k]? = W.heap[k]?:=Below.heap_setCell W ⟨g,i,none⟩ v k h
theorem heap_old (W:World) (o:Obj) (k:Nat) (h:k < W.heap.size):(W.alloc o).heap[k]? = W.heap[k]?:=((Below.refl W.heap.size W).alloc (Nat.le_refl _) o).block k h
theorem keepM_putObj {M:Nat→Prop} {B N:Nat} (hB:B < N) (W:World) (l:Nat) (o o' : Obj) (hl:N≤l) (h:W.heap[l]? = some o) (hc:o.isCells = false):KeepM M (rowOf B) N W (W.putObj l o'):=by
  have hg:=grownBy_putObj' W l o'
  have hll:=lt_of_heap h
  refine ⟨hg.size,fun k hk _ _ hh=>hg.block k hk (fun e=>?_),fun k hk=>?_⟩
  · cases e
    rcases hh with h1 | ⟨o2,h1,h2⟩
    · omega
    · rw [h] at h1;cases h1;rw [hc] at h2;cases h2
  · rw [rowOf_same (hg.block B (by omega) (fun e=>by cases e;omega))] at hk
    exact .inl hk
theorem row_kept {e:TypeId} {sz:Nat} {X Y:World} {row:Option Nat} {N base k:Nat} {v:Value} {xs:List Value} (h:X.ownsRow base e sz v k xs) (hg:X.grownBy Y row) (hr:∀ r,row = some r→N≤r∧∃ o:Obj,X.heap[r]? = some o∧o.isCells = false):Y.ownsRow base e sz v k xs:=by
  refine h.kept hg ?_
  rcases h.2 with ⟨rfl,_⟩ | ⟨g,cap,cur,rfl,_,hgb,_⟩
  · exact .inl rfl
  · refine .inr fun e'=>?_
    obtain ⟨_,o,ho,hc⟩:=hr g (by simpa [Value.ownBlock] using e'.symm)
    rw [hgb] at ho;cases ho;cases hc
theorem grown_trans' {w W W' : World} {r:Option Nat} {l:Nat} (h:w.grownBy W r) (k:W.grownBy W' (some l)) (hl:w.heap.size≤l):w.grownBy W' r :=
  ⟨k.os.trans h.os,k.tape.trans h.tape,k.output.trans h.output,Nat.le_trans h.size k.size,fun i hi hr=>(k.block i (Nat.lt_of_lt_of_le hi h.size) (fun e=>by cases e;omega)).trans (h.block i hi hr)⟩
def SameRow (w:World) (v v' : Value):Prop:=v'.ownBlock = v.ownBlock∨∃ r,v'.ownBlock = some r∧w.heap.size≤r
def AppPost (base k:Nat) (v:Value) (xs news:List Value) (w:World) (e:Ending) (w' : World):Prop :=
  ∃ v',e = .returned v'∧w'.ownsRow base 3 1 v' (k+news.length) (xs ++ news)∧w.grownBy w' v.ownBlock∧SameRow w v v'
def intV (p:Int):Value:=.int .i64 p
def AInv {x:Ex} (w:World) (base k:Nat) (v:Value) (xs:List Value) (pre:List (PartOf x)) (W:World):Prop :=
  (∃ v',Boxed W w.heap.size 33 v'∧W.ownsRow base 3 1 v' (k+pre.length) (xs ++ pre.map fun p=>intV p.1)∧SameRow w v v')∧w.grownBy W v.ownBlock∧w.heap.size+1≤W.heap.size
theorem ainv_own {x:Ex} (w:World) (base k:Nat) (v:Value) (xs:List Value):OwnFrom (w.heap.size+1) (AInv (x:=x) w base k v xs):=by
  rintro s X Y row ⟨⟨v',hv,hr,hs⟩,hg0,hN⟩ hg hrow
  have hne:∀ b,b < w.heap.size+1→some b≠row:=fun b hb e=>by have:=(hrow b e.symm).1;omega
  refine ⟨⟨v',hv.kept hg (hne _ (Nat.lt_succ_self _)),row_kept hr hg hrow,hs⟩,⟨hg.os.trans hg0.os,hg.tape.trans hg0.tape,hg.output.trans hg0.output,Nat.le_trans hg0.size hg.size,fun i hi hr=>(hg.block i (Nat.lt_of_lt_of_le hi hg0.size) (hne _ (by omega))).trans (hg0.block i hi hr)⟩,Nat.le_trans hN hg.size⟩
def NewInts (l:List Int) (w:World) (e:Ending) (w' : World):Prop:=∃ v,e = .returned v∧w'.ownsRow w.heap.size 3 1 v l.length (l.map intV)∧Below w.heap.size w w'
theorem grown_below {w w' : World} (h:w.grownBy w' none):Below w.heap.size w w':=⟨h.os,h.tape,h.output,h.size,fun k hk=>h.block k hk (fun e=>by cases e)⟩
theorem owns_low {w:World} {base base' : Nat} {e:TypeId} {sz n:Nat} {v:Value} {xs:List Value} (h:w.ownsRow base e sz v n xs) (hb:base'≤base):w.ownsRow base' e sz v n xs:=by
  refine ⟨h.1,?_⟩
  rcases h.2 with h2 | ⟨g,cap,cur,rfl,h3,h4⟩
  · exact .inl h2
  · exact .inr ⟨g,cap,cur,rfl,Nat.le_trans hb h3,h4⟩
def exV (x:Ex) (s:Value):Value:=.agg (exCells x s)
theorem ex_boxed (w:World) (x:Ex) (s:Value):(w.alloc (.cells (exCells x s) 59)).heap[w.heap.size]? = some (.cells (exCells x s) 59 (0,0)):=World.alloc_heap_new w _
end Go.Proofs.YtdlmfeflinbbjaaGreat
