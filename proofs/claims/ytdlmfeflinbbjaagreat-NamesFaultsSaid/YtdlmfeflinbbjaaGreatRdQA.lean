import Derived.Test.YtdlmfeflinbbjaaGreatRdMath
import Derived.Test.YtdlmfeflinbbjaaGreatAstOpen
import Derived.RangeFuncBox
import Derived.Lib.QuietBelow
import Derived.WalkKit
import Derived.BigQuiet
import Derived.Deep.QuietTactic
import Derived.Deep.RegionHeld3
import Derived.WalkSpells
import Derived.Deep.AppendLies
import Derived.Deep.RegionLaw
namespace Go.Proofs.YtdlmfeflinbbjaaGreat
open Go.Lib (hid)
section
open Go.RowKit Lx
def intC (n:Int):Value:=.int .i64 n
def exC (x:Ex) (v:Value):List Value:=[.int .i64 x.kind,.int .i64 x.a,.int .i64 x.b,.int .i64 x.c,.string x.name,.string x.state,.int .i64 x.v,v,.int .i64 x.pos]
def rdCells (l:List (Ex × Value)):List Value:=l.flatMap fun p=>exC p.1 p.2
def ExsOwn (W:World) (b:Nat) (xb:Nat→Prop) (v:Value) (l:List Ex):Prop :=
  ∃ q:List (Ex × Value),q.map Prod.fst = l∧W.ownsRow (b+1) 59 9 v l.length (rdCells q)∧∀ p∈q,W.ownsRow (b+1) 3 1 p.2 p.1.args.length (p.1.args.map intC)∧∀ k,p.2.ownBlock = some k→¬ xb k
def NoEx (o:Obj):Prop:=∀ cs,o≠.cells cs 59 (0,0)
structure RK (b:Nat) (W Y:World):Prop where
  os:Y.os = W.os
  tape:Y.tape = W.tape
  output:Y.output = W.output
  size:W.heap.size≤Y.heap.size
  low:∀ k,k < b→Y.heap[k]? = W.heap[k]?
  keep:∀ (k:Nat) (o:Obj),W.heap[k]? = some o→k≠b→NoEx o→Y.heap[k]? = some o
theorem heap_lt {W:World} {k:Nat} {o:Obj} (h:W.heap[k]? = some o):k < W.heap.size:=(Array.getElem?_eq_some_iff.1 h).1
theorem RK.refl (b:Nat) (W:World):RK b W W:=⟨rfl,rfl,rfl,Nat.le_refl _,fun _ _=>rfl,fun _ _ h _ _=>h⟩
theorem RK.trans {b:Nat} {X Y Z:World} (h:RK b X Y) (k:RK b Y Z):RK b X Z :=
  ⟨k.os.trans h.os,k.tape.trans h.tape,k.output.trans h.output,Nat.le_trans h.size k.size,fun j hj=>(k.low j hj).trans (h.low j hj),fun j o hj hb hn=>k.keep j o (h.keep j o hj hb hn) hb hn⟩
theorem RK.of_below {b:Nat} {W Y:World} (h:Below W.heap.size W Y) (hb:b≤W.heap.size):RK b W Y :=
  ⟨h.os,h.tape,h.output,h.size,fun k hk=>h.block k (by omega),fun k o hk _ _=>(h.block k (heap_lt hk)).trans hk⟩
theorem RK.below {b B:Nat} {W Y:World} (h:RK b W Y) (hb:B≤b):Below B W Y:=⟨h.os,h.tape,h.output,h.size,fun k hk=>h.low k (by omega)⟩
theorem RK.alloc {b:Nat} {W Y:World} (h:RK b W Y) (hb:b≤W.heap.size) (o:Obj):RK b W (Y.alloc o):=h.trans (.of_below ((Below.refl _ _).alloc (Nat.le_refl _) o) (Nat.le_trans hb h.size))
theorem RK.set {b:Nat} {W:World} (i:Nat) (v:Value):RK b W (W.setCell ⟨b,i,none⟩ v):=by
  have hb:=(Below.refl b W).setCell (p:=⟨b,i,none⟩) (Nat.le_refl _) v
  exact ⟨hb.os,hb.tape,hb.output,hb.size,fun k hk=>hb.block k hk,fun k o hk hkb _=>(Below.heap_setCell W ⟨b,i,none⟩ v k hkb).trans hk⟩
structure Rd (W:World) (b g cap:Nat) (dv:Value) (ts:List Tok) (xb:Nat→Prop) (σ:RS):Prop where
  xlt:∀ k,xb k→k < W.heap.size
  blk:∃ o c,W.heap[b]? = some (.cells #[.slice (some ⟨g,0,none⟩) ts.length cap,.int .i64 (σ.at_:Int),dv,.slice o σ.exprs.length c,.int .i64 σ.deep,.int .i64 σ.code,.int .i64 σ.pos] 92 (0,0))∧ExsOwn W b xb (.slice o σ.exprs.length c) σ.exprs
  row:RowAt W g ts
  lt:g < b
  at_:σ.at_ < ts.length
  len:ts.length≤40000
  ends:EndOk ts
theorem NoEx.int {cs:Array Value}:NoEx (.cells cs 3 (0,0)):=fun cs' h=>by cases h
theorem own_keep {W Y:World} {b:Nat} {v:Value} {n:Nat} {xs:List Value} {B:Nat} (h:W.ownsRow B 3 1 v n xs) (hB:b < B) (hk:RK b W Y):Y.ownsRow B 3 1 v n xs:=by
  refine ⟨h.1,?_⟩
  rcases h.2 with hn | ⟨g,cap,cur,rfl,hb,hgg,rest⟩
  · exact .inl hn
  · exact .inr ⟨g,cap,cur,rfl,hb,hk.keep g _ hgg (by omega) .int,rest⟩
theorem rd_own_same {W Y:World} {e:TypeId} {s:Nat} {v:Value} {n:Nat} {xs:List Value} {B:Nat} (h:W.ownsRow B e s v n xs) (hk:∀ k,v.ownBlock = some k→Y.heap[k]? = W.heap[k]?):Y.ownsRow B e s v n xs:=by
  refine ⟨h.1,?_⟩
  rcases h.2 with hn | ⟨g,cap,cur,rfl,hb,hgg,rest⟩
  · exact .inl hn
  · exact .inr ⟨g,cap,cur,rfl,hb,(hk g rfl).trans hgg,rest⟩
theorem ExsOwn.same {W Y:World} {b:Nat} {xb:Nat→Prop} {v:Value} {l:List Ex} (h:ExsOwn W b xb v l) (hk:∀ k,b < k→k < W.heap.size→Y.heap[k]? = W.heap[k]?):ExsOwn Y b xb v l:=by
  obtain ⟨q,h1,h2,h3⟩:=h
  exact ⟨q,h1,rd_own_same h2 fun k e=>hk k (by have:=(h2.lt k e).1;omega) (h2.lt k e).2,fun p hp=>⟨rd_own_same (h3 p hp).1 fun k e=>hk k (by have:=((h3 p hp).1.lt k e).1;omega) ((h3 p hp).1.lt k e).2,(h3 p hp).2⟩⟩
theorem Rd.size {W:World} {b g cap:Nat} {dv:Value} {ts:List Tok} {xb:Nat→Prop} {σ:RS} (h:Rd W b g cap dv ts xb σ):b < W.heap.size:=by
  obtain ⟨o,c,h1,_⟩:=h.blk;exact heap_lt h1
theorem row_low {W Y:World} {g:Nat} {ts:List Tok} (h:RowAt W g ts) (hk:Y.heap[g]? = W.heap[g]?):RowAt Y g ts:=by
  have hlt:g < Y.heap.size:=by
    have h1:=h.1
    rcases Nat.lt_or_ge g Y.heap.size with h2 | h2
    · exact h2
    · rw [Array.getElem?_eq_none h2,Array.getElem?_eq_getElem h1] at hk;cases hk
  refine ⟨hlt,fun i t hi=>?_⟩
  obtain ⟨h1,h2,h3,h4⟩:=h.2 i t hi
  have hc:∀ (j:Nat),Y.cell? ⟨g,j,none⟩ = W.cell? ⟨g,j,none⟩:=fun j=>World.cell?_of_block (a:=⟨g,j,none⟩) hk
  exact ⟨(hc _).trans h1,(hc _).trans h2,(hc _).trans h3,(hc _).trans h4⟩
theorem Rd.below {W Y:World} {b g cap:Nat} {dv:Value} {ts:List Tok} {xb:Nat→Prop} {σ:RS} (h:Rd W b g cap dv ts xb σ) (hb:Below W.heap.size W Y):Rd Y b g cap dv ts xb σ:=by
  have hs:=h.size
  obtain ⟨o,c,h1,h2⟩:=h.blk
  exact ⟨fun k hk=>Nat.lt_of_lt_of_le (h.xlt k hk) hb.size,⟨o,c,(hb.block b hs).trans h1,h2.same fun k _ hk=>hb.block k hk⟩,row_low h.row (hb.block g (by have:=h.lt;omega)),h.lt,h.at_,h.len,h.ends⟩
theorem Rd.alloc {W:World} {b g cap:Nat} {dv:Value} {ts:List Tok} {xb:Nat→Prop} {σ:RS} (h:Rd W b g cap dv ts xb σ) (o:Obj):Rd (W.alloc o) b g cap dv ts xb σ:=h.below ((Below.refl _ _).alloc (Nat.le_refl _) o)
theorem set_blk {W:World} {g:Nat} {cs:Array Value} {T:TypeId} {fr:Nat × Nat} (h:W.heap[g]? = some (.cells cs T fr)) (i:Nat) (v:Value):(W.setCell ⟨g,i,none⟩ v).heap[g]? = some (.cells (cs.setIfInBounds i v) T fr):=Lx.set_heap h i v
theorem Rd.setOne {W:World} {b g cap:Nat} {dv:Value} {ts:List Tok} {xb:Nat→Prop} {σ τ:RS} (h:Rd W b g cap dv ts xb σ) (i:Nat) (v:Value) (he:τ.exprs = σ.exprs) (ht:τ.at_ < ts.length)
    (hc:∀ x,(#[.slice (some ⟨g,0,none⟩) ts.length cap,.int .i64 (σ.at_:Int),dv,x,.int .i64 σ.deep,.int .i64 σ.code,.int .i64 σ.pos]:Array Value).setIfInBounds i v = #[.slice (some ⟨g,0,none⟩) ts.length cap,.int .i64 (τ.at_:Int),dv,x,.int .i64 τ.deep,.int .i64 τ.code,.int .i64 τ.pos]) :
    Rd (W.setCell ⟨b,i,none⟩ v) b g cap dv ts xb τ:=by
  obtain ⟨o,c,h1,h2⟩:=h.blk
  refine ⟨fun k hk=>Nat.lt_of_lt_of_le (h.xlt k hk) ((Below.refl b W).setCell (p:=⟨b,i,none⟩) (Nat.le_refl _) v).size,⟨o,c,?_,?_⟩,row_low h.row (Below.heap_setCell W ⟨b,i,none⟩ v g (by have:=h.lt;simp;omega)),h.lt,ht,h.len,h.ends⟩
  · rw [he,set_blk h1,hc]
  · rw [he];exact h2.same fun k hk _=>Below.heap_setCell W ⟨b,i,none⟩ v k (by simp;omega)
theorem Rd.setAt {W:World} {b g cap:Nat} {dv:Value} {ts:List Tok} {xb:Nat→Prop} {σ:RS} (h:Rd W b g cap dv ts xb σ) (hk:(tokL ts σ.at_).kind≠5):Rd (W.setCell ⟨b,1,none⟩ (.int .i64 ((σ.at_:Int)+1))) b g cap dv ts xb (stepS σ) :=
  h.setOne 1 _ rfl (h.ends.next h.at_ hk) fun x=>by simp [stepS]
theorem Rd.setBad {W:World} {b g cap:Nat} {dv:Value} {ts:List Tok} {xb:Nat→Prop} {σ:RS} (h:Rd W b g cap dv ts xb σ) (c p:Int):Rd ((W.setCell ⟨b,5,none⟩ (.int .i64 c)).setCell ⟨b,6,none⟩ (.int .i64 p)) b g cap dv ts xb { σ with code:=c,pos:=p }:=by
  have h1:Rd (W.setCell ⟨b,5,none⟩ (.int .i64 c)) b g cap dv ts xb { σ with code:=c }:=h.setOne 5 _ rfl h.at_ fun x=>by simp
  exact h1.setOne 6 _ rfl h.at_ fun x=>by simp
structure RdCells (W:World) (b g cap:Nat) (ts:List Tok) (at_:Nat) (n:Nat) (o:Option Addr) (c:Nat) (deep code pos:Int):Prop where
  c0:W.cell? ⟨b,0,none⟩ = some (.slice (some ⟨g,0,none⟩) ts.length cap)
  c1:W.cell? ⟨b,1,none⟩ = some (.int .i64 (at_:Int))
  c3:W.cell? ⟨b,3,none⟩ = some (.slice o n c)
  c4:W.cell? ⟨b,4,none⟩ = some (.int .i64 deep)
  c5:W.cell? ⟨b,5,none⟩ = some (.int .i64 code)
  c6:W.cell? ⟨b,6,none⟩ = some (.int .i64 pos)
  fr:∀ i,W.frozen? ⟨b,i,none⟩ = false
theorem Rd.cells {W:World} {b g cap:Nat} {dv:Value} {ts:List Tok} {xb:Nat→Prop} {σ:RS} (h:Rd W b g cap dv ts xb σ):∃ o c,RdCells W b g cap ts σ.at_ σ.exprs.length o c σ.deep σ.code σ.pos∧ExsOwn W b xb (.slice o σ.exprs.length c) σ.exprs:=by
  obtain ⟨o,c,h1,h2⟩:=h.blk
  exact ⟨o,c,⟨by simp [World.cell?,h1],by simp [World.cell?,h1],by simp [World.cell?,h1],by simp [World.cell?,h1],by simp [World.cell?,h1],by simp [World.cell?,h1],fun i=>by simp [World.frozen?,h1]⟩,h2⟩
theorem Rd.tok {W:World} {b g cap:Nat} {dv:Value} {ts:List Tok} {xb:Nat→Prop} {σ:RS} (h:Rd W b g cap dv ts xb σ):CellsAt W g σ.at_ (tokL ts σ.at_) :=
  h.row.2 _ _ (by unfold tokL;rw [List.getD_eq_getElem?_getD,List.getElem?_eq_getElem h.at_];rfl)
end
section
open Go.RowKit Lx
def RdRet (b g cap:Nat) (dv:Value) (ts:List Tok) (xb:Nat→Prop) (W:World) (v:Value) (σ:RS) (r:Ending) (Y:World):Prop:=r = .returned v∧Rd Y b g cap dv ts xb σ∧RK b W Y
theorem cell_set2 {W:World} {b i j c k:Nat} {x y v:Value} (h:W.cell? ⟨c,k,none⟩ = some v) (hn:c≠b∨(k≠i∧k≠j)):((W.setCell ⟨b,i,none⟩ x).setCell ⟨b,j,none⟩ y).drew.cell? ⟨c,k,none⟩ = some v:=by
  show ((W.setCell ⟨b,i,none⟩ x).setCell ⟨b,j,none⟩ y).cell? ⟨c,k,none⟩ = some v
  rw [World.cell?_setCell_other _ _ _ _ (by intro e;injection e with e1 e2;omega),World.cell?_setCell_other _ _ _ _ (by intro e;injection e with e1 e2;omega)]
  exact h
set_option maxHeartbeats 4000000 in
theorem fail_any (b g cap:Nat) (dv:Value) (ts:List Tok) (xb:Nat→Prop) (σ:RS) (e:Int) (W:World) (h:Hid (Rd W b g cap dv ts xb σ)) :
    Calls Tryz.prog 51 #[.pointer (some ⟨b,0,none⟩),.int .i64 e] W fun r Y=>RdRet b g cap dv ts xb W (.tuple #[]) (failS ts e σ) r Y:=by
  obtain ⟨o,c,⟨c0,c1,c3,c4,c5,c6,fr⟩,hx⟩:=h.out.cells
  have ht:=h.out.tok
  have hgb:g≠b:=by have:=h.out.lt;omega
  have hl:=h.out.at_
  have hn:=h.out.len
  obtain ⟨t0,t1,t2,t3⟩:=ht
  obtain ⟨n,hnn⟩:∃ n,n = ts.length:=⟨_,rfl⟩
  obtain ⟨a,haa⟩:∃ a,a = σ.at_:=⟨_,rfl⟩
  obtain ⟨cd,hcd⟩:∃ cd,cd = σ.code:=⟨_,rfl⟩
  obtain ⟨ps,hps⟩:∃ ps,ps = σ.pos:=⟨_,rfl⟩
  obtain ⟨dp,hdp⟩:∃ dp,dp = σ.deep:=⟨_,rfl⟩
  obtain ⟨kd,hkd⟩:∃ kd,kd = (tokL ts σ.at_).kind:=⟨_,rfl⟩
  obtain ⟨tx,htx⟩:∃ tx,tx = (tokL ts σ.at_).text:=⟨_,rfl⟩
  obtain ⟨tv,htv⟩:∃ tv,tv = (tokL ts σ.at_).v:=⟨_,rfl⟩
  obtain ⟨p,hp⟩:∃ p,p = (tokL ts σ.at_).at_:=⟨_,rfl⟩
  rw [← hnn] at c0 hl hn
  rw [← hkd] at t0
  rw [← htx] at t1
  rw [← htv] at t2
  rw [← hp] at t3
  rw [← haa] at c1 t0 t1 t2 t3 hl
  rw [← hcd] at c5
  rw [← hdp] at c4
  rw [← hps] at c6
  have k0:((a:Nat):Int) < (n:Int):=by omega
  have f1:=fr 1
  have f4:=fr 4
  have f5:=fr 5
  have f6:=fr 6
  have HCD:=hid hcd
  have HPS:=hid hps
  have HDP:=hid hdp
  have HKD:=hid hkd
  have HTX:=hid htx
  have HTV:=hid htv
  have HP:=hid hp
  have HAA:=hid haa
  have HNN:=hid hnn
  clear fr hx hnn haa hcd hps hdp hkd htx htv hp c3
  by_cases hz:cd = 0
  · subst hz
    have d5:W.drew.cell? ⟨b,5,none⟩ = some (.int .i64 0):=c5
    have d6:W.drew.cell? ⟨b,6,none⟩ = some (.int .i64 ps):=c6
    have e5:W.drew.frozen? ⟨b,5,none⟩ = false:=f5
    have e6:W.drew.frozen? ⟨b,6,none⟩ = false:=f6
    go_enter Tryz.func51,Tryz.ntmps51
    go_wp2_with fail
    go_region_held3 (fun w'=>w'.cell? ⟨b,0,none⟩ = some (.slice (some ⟨g,0,none⟩) n cap)∧w'.cell? ⟨b,1,none⟩ = some (.int .i64 (a:Int))∧w'.cell? ⟨g,a*4+3,none⟩ = some (.int .i64 (p:Int)))
      ((repeat' apply And.intro) <;> first | assumption | exact cell_set2 (by assumption) (by omega) | go_keep)
      (fail)
    go_wp2_with fail
    go_end0
    have hf:failS ts e σ = { σ with code:=e,pos:=(p:Int) }:=by unfold failS;rw [if_pos HCD.out.symm,HP.out]
    rw [hf]
    have hb:=below_dr (Below.refl W.heap.size W) 1
    exact ⟨rfl,(h.out.below hb).setBad e p,(RK.of_below hb (Nat.le_of_lt h.out.size)).trans ((RK.set 5 _).trans (RK.set 6 _))⟩
  · have k1:(cd == 0) = false:=beq_false_of_ne hz
    go_enter Tryz.func51,Tryz.ntmps51
    go_wp2_with fail
    go_end0
    have hf:failS ts e σ = σ:=by unfold failS;rw [if_neg (by rw [← HCD.out];exact hz)]
    rw [hf]
    exact ⟨rfl,h.out,RK.refl _ _⟩
def box4 (W:World) (k:Nat) (tx:List UInt8) (v:Int) (p:Nat):World:=(((((W.alloc (.cells #[.int .i64 0,.string ⟨#[]⟩,.int .i64 0,.int .i64 0] 95)).setCell ⟨W.heap.size,0,none⟩ (.int .i64 (k:Int))).setCell ⟨W.heap.size,1,none⟩ (.string (str tx))).setCell ⟨W.heap.size,2,none⟩ (.int .i64 v)).setCell ⟨W.heap.size,3,none⟩ (.int .i64 (p:Int)))
set_option maxHeartbeats 8000000 in
theorem is_any (b g cap:Nat) (dv:Value) (ts:List Tok) (xb:Nat→Prop) (σ:RS) (s:List UInt8) (W:World) (h:Hid (Rd W b g cap dv ts xb σ)) :
    Calls Tryz.prog 81 #[.pointer (some ⟨b,0,none⟩),.string (str s)] W fun r Y=>r = .returned (.bool (isS ts s σ))∧Below W.heap.size W Y:=by
  obtain ⟨o,c,⟨c0,c1,c3,c4,c5,c6,fr⟩,hx⟩:=h.out.cells
  have ht:=h.out.tok
  have hgb:g≠b:=by have:=h.out.lt;omega
  have hl:=h.out.at_
  have hn:=h.out.len
  obtain ⟨t0,t1,t2,t3⟩:=ht
  obtain ⟨n,hnn⟩:∃ n,n = ts.length:=⟨_,rfl⟩
  obtain ⟨a,haa⟩:∃ a,a = σ.at_:=⟨_,rfl⟩
  obtain ⟨cd,hcd⟩:∃ cd,cd = σ.code:=⟨_,rfl⟩
  obtain ⟨ps,hps⟩:∃ ps,ps = σ.pos:=⟨_,rfl⟩
  obtain ⟨dp,hdp⟩:∃ dp,dp = σ.deep:=⟨_,rfl⟩
  obtain ⟨kd,hkd⟩:∃ kd,kd = (tokL ts σ.at_).kind:=⟨_,rfl⟩
  obtain ⟨tx,htx⟩:∃ tx,tx = (tokL ts σ.at_).text:=⟨_,rfl⟩
  obtain ⟨tv,htv⟩:∃ tv,tv = (tokL ts σ.at_).v:=⟨_,rfl⟩
  obtain ⟨p,hp⟩:∃ p,p = (tokL ts σ.at_).at_:=⟨_,rfl⟩
  rw [← hnn] at c0 hl hn
  rw [← hkd] at t0
  rw [← htx] at t1
  rw [← htv] at t2
  rw [← hp] at t3
  rw [← haa] at c1 t0 t1 t2 t3 hl
  rw [← hcd] at c5
  rw [← hdp] at c4
  rw [← hps] at c6
  have k0:((a:Nat):Int) < (n:Int):=by omega
  have f1:=fr 1
  have f4:=fr 4
  have f5:=fr 5
  have f6:=fr 6
  have HCD:=hid hcd
  have HPS:=hid hps
  have HDP:=hid hdp
  have HKD:=hid hkd
  have HTX:=hid htx
  have HTV:=hid htv
  have HP:=hid hp
  have HAA:=hid haa
  have HNN:=hid hnn
  clear fr hx hnn haa hcd hps hdp hkd htx htv hp c3
  have hgs:g < W.heap.size:=by have:=h.out.lt;have:=h.out.size;omega
  have hbs:b < W.heap.size:=h.out.size
  obtain ⟨R,hR⟩:∃ R,R = isS ts s σ:=⟨_,rfl⟩
  rw [← hR]
  have HR:Hid (R = (decide (cd = 0) && ((decide (kd = 3) || decide (kd = 4)) && tx == s))):=hid (by rw [hR,HCD.out,HKD.out,HTX.out];rfl)
  clear hR
  have HB:=hid (((Below.refl W.heap.size W).alloc (Nat.le_refl _) (.cells #[.int .i64 (kd:Int),.string (str tx),.int .i64 tv,.int .i64 (p:Int)] 95)).drew)
  obtain ⟨b5,x0,x1⟩:(W.alloc (.cells #[.int .i64 (kd:Int),.string (str tx),.int .i64 tv,.int .i64 (p:Int)] 95)).drew.cell? ⟨b,5,none⟩ = some (.int .i64 cd) ∧
      (W.alloc (.cells #[.int .i64 (kd:Int),.string (str tx),.int .i64 tv,.int .i64 (p:Int)] 95)).drew.cell? ⟨W.heap.size,0,none⟩ = some (.int .i64 (kd:Int)) ∧
      (W.alloc (.cells #[.int .i64 (kd:Int),.string (str tx),.int .i64 tv,.int .i64 (p:Int)] 95)).drew.cell? ⟨W.heap.size,1,none⟩ = some (.string (str tx)) :=
    ⟨(HB.out.cell (p:=⟨b,5,none⟩) hbs).trans c5,by show (W.alloc _).cell? _ = _;rw [World.cell?_alloc_new];rfl,by show (W.alloc _).cell? _ = _;rw [World.cell?_alloc_new];rfl⟩
  by_cases hz:cd = 0
  · subst hz
    by_cases h3:kd = 3
    · subst h3
      by_cases he:tx = s
      · have hq:((str tx).toList == (str s).toList) = true:=by rw [he];simp
        have HE:=hid he
        clear he
        go_enter Tryz.func81,Tryz.ntmps81
        go_wp2_with fail
        go_region_held3 (fun w'=>w'.cell? ⟨b,0,none⟩ = some (.slice (some ⟨g,0,none⟩) n cap)∧w'.cell? ⟨b,1,none⟩ = some (.int .i64 (a:Int))∧w'.cell? ⟨g,a*4,none⟩ = some (.int .i64 (3:Int))∧w'.cell? ⟨g,a*4+1,none⟩ = some (.string (str tx))∧w'.cell? ⟨g,a*4+2,none⟩ = some (.int .i64 tv)∧w'.cell? ⟨g,a*4+3,none⟩ = some (.int .i64 (p:Int)))
          ((repeat' apply And.intro) <;> first | assumption | go_keep)
          (fail)
        go_wp2_with fail
        go_ret
        exact ⟨by rw [HR.out];simp [HE.out],HB.out⟩
      · have hq:((str tx).toList == (str s).toList) = false:=by rw [bytes_eq];exact beq_false_of_ne he
        have HE:=hid he
        clear he
        go_enter Tryz.func81,Tryz.ntmps81
        go_wp2_with fail
        go_region_held3 (fun w'=>w'.cell? ⟨b,0,none⟩ = some (.slice (some ⟨g,0,none⟩) n cap)∧w'.cell? ⟨b,1,none⟩ = some (.int .i64 (a:Int))∧w'.cell? ⟨g,a*4,none⟩ = some (.int .i64 (3:Int))∧w'.cell? ⟨g,a*4+1,none⟩ = some (.string (str tx))∧w'.cell? ⟨g,a*4+2,none⟩ = some (.int .i64 tv)∧w'.cell? ⟨g,a*4+3,none⟩ = some (.int .i64 (p:Int)))
          ((repeat' apply And.intro) <;> first | assumption | go_keep)
          (fail)
        go_wp2_with fail
        go_ret
        exact ⟨by rw [HR.out];simp [HE.out],HB.out⟩
    · have n3:((kd:Int) == 3) = false:=beq_false_of_ne (by omega)
      by_cases h4:kd = 4
      · subst h4
        by_cases he:tx = s
        · have hq:((str tx).toList == (str s).toList) = true:=by rw [he];simp
          have HE:=hid he
          clear he
          go_enter Tryz.func81,Tryz.ntmps81
          go_wp2_with fail
          go_region_held3 (fun w'=>w'.cell? ⟨b,0,none⟩ = some (.slice (some ⟨g,0,none⟩) n cap)∧w'.cell? ⟨b,1,none⟩ = some (.int .i64 (a:Int))∧w'.cell? ⟨g,a*4,none⟩ = some (.int .i64 (4:Int))∧w'.cell? ⟨g,a*4+1,none⟩ = some (.string (str tx))∧w'.cell? ⟨g,a*4+2,none⟩ = some (.int .i64 tv)∧w'.cell? ⟨g,a*4+3,none⟩ = some (.int .i64 (p:Int)))
            ((repeat' apply And.intro) <;> first | assumption | go_keep)
            (fail)
          go_wp2_with fail
          go_ret
          exact ⟨by rw [HR.out];simp [HE.out],HB.out⟩
        · have hq:((str tx).toList == (str s).toList) = false:=by rw [bytes_eq];exact beq_false_of_ne he
          have HE:=hid he
          clear he
          go_enter Tryz.func81,Tryz.ntmps81
          go_wp2_with fail
          go_region_held3 (fun w'=>w'.cell? ⟨b,0,none⟩ = some (.slice (some ⟨g,0,none⟩) n cap)∧w'.cell? ⟨b,1,none⟩ = some (.int .i64 (a:Int))∧w'.cell? ⟨g,a*4,none⟩ = some (.int .i64 (4:Int))∧w'.cell? ⟨g,a*4+1,none⟩ = some (.string (str tx))∧w'.cell? ⟨g,a*4+2,none⟩ = some (.int .i64 tv)∧w'.cell? ⟨g,a*4+3,none⟩ = some (.int .i64 (p:Int)))
            ((repeat' apply And.intro) <;> first | assumption | go_keep)
            (fail)
          go_wp2_with fail
          go_ret
          exact ⟨by rw [HR.out];simp [HE.out],HB.out⟩
      · have n4:((kd:Int) == 4) = false:=beq_false_of_ne (by omega)
        go_enter Tryz.func81,Tryz.ntmps81
        go_wp2_with fail
        go_region_held3 (fun w'=>w'.cell? ⟨b,0,none⟩ = some (.slice (some ⟨g,0,none⟩) n cap)∧w'.cell? ⟨b,1,none⟩ = some (.int .i64 (a:Int))∧w'.cell? ⟨g,a*4,none⟩ = some (.int .i64 (kd:Int))∧w'.cell? ⟨g,a*4+1,none⟩ = some (.string (str tx))∧w'.cell? ⟨g,a*4+2,none⟩ = some (.int .i64 tv)∧w'.cell? ⟨g,a*4+3,none⟩ = some (.int .i64 (p:Int)))
          ((repeat' apply And.intro) <;> first | assumption | go_keep)
          (fail)
        go_wp2_with fail
        go_ret
        exact ⟨by rw [HR.out];simp [h3,h4],HB.out⟩
  · have n0:(cd == 0) = false:=beq_false_of_ne hz
    go_enter Tryz.func81,Tryz.ntmps81
    go_wp2_with fail
    go_region_held3 (fun w'=>w'.cell? ⟨b,0,none⟩ = some (.slice (some ⟨g,0,none⟩) n cap)∧w'.cell? ⟨b,1,none⟩ = some (.int .i64 (a:Int))∧w'.cell? ⟨g,a*4,none⟩ = some (.int .i64 (kd:Int))∧w'.cell? ⟨g,a*4+1,none⟩ = some (.string (str tx))∧w'.cell? ⟨g,a*4+2,none⟩ = some (.int .i64 tv)∧w'.cell? ⟨g,a*4+3,none⟩ = some (.int .i64 (p:Int)))
      ((repeat' apply And.intro) <;> first | assumption | go_keep)
      (fail)
    go_wp2_with fail
    go_ret
    exact ⟨by rw [HR.out];simp [hz],HB.out⟩
end
section
open Go.RowKit Lx
def levA:Array Value:=(levelsL.map fun p=>Value.string (str p.1)).toArray
def levB:Array Value:=(levelsL.map fun p=>Value.int .i64 p.2.1).toArray
def levC:Array Value:=(levelsL.map fun p=>Value.int .i64 p.2.2).toArray
end
section
open Go.RowKit Lx
def IsRet (b a:Nat) (R:Bool) (W:World) (r:Ending) (Y:World):Prop:=r = .returned (.bool R)∧Below W.heap.size W Y∧Y.cell? ⟨b,1,none⟩ = some (.int .i64 (a:Int))∧Y.frozen? ⟨b,1,none⟩ = false
set_option maxHeartbeats 4000000 in
theorem took_any (b g cap:Nat) (dv:Value) (ts:List Tok) (xb:Nat→Prop) (σ:RS) (s:List UInt8) (W:World) (h:Hid (Rd W b g cap dv ts xb σ)) :
    Calls Tryz.prog 77 #[.pointer (some ⟨b,0,none⟩),.string (str s)] W fun r Y=>RdRet b g cap dv ts xb W (.bool (isS ts s σ)) (tookS ts s σ) r Y:=by
  have hI:=is_any b g cap dv ts xb σ s W h
  obtain ⟨o,c,⟨c0,c1,c3,c4,c5,c6,fr⟩,hx⟩:=h.out.cells
  have ht:=h.out.tok
  have hgb:g≠b:=by have:=h.out.lt;omega
  have hl:=h.out.at_
  have hn:=h.out.len
  obtain ⟨t0,t1,t2,t3⟩:=ht
  obtain ⟨n,hnn⟩:∃ n,n = ts.length:=⟨_,rfl⟩
  obtain ⟨a,haa⟩:∃ a,a = σ.at_:=⟨_,rfl⟩
  obtain ⟨cd,hcd⟩:∃ cd,cd = σ.code:=⟨_,rfl⟩
  obtain ⟨ps,hps⟩:∃ ps,ps = σ.pos:=⟨_,rfl⟩
  obtain ⟨dp,hdp⟩:∃ dp,dp = σ.deep:=⟨_,rfl⟩
  obtain ⟨kd,hkd⟩:∃ kd,kd = (tokL ts σ.at_).kind:=⟨_,rfl⟩
  obtain ⟨tx,htx⟩:∃ tx,tx = (tokL ts σ.at_).text:=⟨_,rfl⟩
  obtain ⟨tv,htv⟩:∃ tv,tv = (tokL ts σ.at_).v:=⟨_,rfl⟩
  obtain ⟨p,hp⟩:∃ p,p = (tokL ts σ.at_).at_:=⟨_,rfl⟩
  rw [← hnn] at c0 hl hn
  rw [← hkd] at t0
  rw [← htx] at t1
  rw [← htv] at t2
  rw [← hp] at t3
  rw [← haa] at c1 t0 t1 t2 t3 hl
  rw [← hcd] at c5
  rw [← hdp] at c4
  rw [← hps] at c6
  have k0:((a:Nat):Int) < (n:Int):=by omega
  have f1:=fr 1
  have f4:=fr 4
  have f5:=fr 5
  have f6:=fr 6
  have HCD:=hid hcd
  have HPS:=hid hps
  have HDP:=hid hdp
  have HKD:=hid hkd
  have HTX:=hid htx
  have HTV:=hid htv
  have HP:=hid hp
  have HAA:=hid haa
  have HNN:=hid hnn
  clear fr hx hnn haa hcd hps hdp hkd htx htv hp c3
  have ha:(a:Int)≤40000:=by omega
  have hbs:b < W.heap.size:=h.out.size
  have C:Hid (Calls Tryz.prog 81 #[.pointer (some ⟨b,0,none⟩),.string (str s)] W (IsRet b a (isS ts s σ) W)):=hid (hI.mono fun r Y hY=>⟨hY.1,hY.2,(hY.2.cell (p:=⟨b,1,none⟩) hbs).trans c1,(hY.2.frozen (p:=⟨b,1,none⟩) hbs).trans f1⟩)
  clear hI
  cases hR:isS ts s σ with
  | true =>
    rw [hR] at C
    have hk:=(isS_kind hR).1
    have HT:=hid (show tookS ts s σ = stepS σ by unfold tookS;rw [if_pos hR])
    clear hR
    go_enter Tryz.func77,Tryz.ntmps77
    go_wp2_with (go_at_call 81;(with_reducible refine C.out.mono ?_);rintro e w1 ⟨rfl,hb,y1,y2⟩;have HB:=hid hb;clear hb)
    go_ret
    have h1:=h.out.below HB.out
    rw [HT.out]
    have h2:=h1.setAt hk
    rw [← HAA.out] at h2
    exact ⟨rfl,h2,(RK.of_below HB.out (Nat.le_of_lt hbs)).trans (RK.set 1 _)⟩
  | false =>
    rw [hR] at C
    have HT:=hid (show tookS ts s σ = σ by unfold tookS;rw [hR];rfl)
    clear hR
    go_enter Tryz.func77,Tryz.ntmps77
    go_wp2_with (go_at_call 81;(with_reducible refine C.out.mono ?_);rintro e w1 ⟨rfl,hb,y1,y2⟩;have HB:=hid hb;clear hb)
    go_ret
    rw [HT.out]
    exact ⟨rfl,h.out.below HB.out,RK.of_below HB.out (Nat.le_of_lt hbs)⟩
set_option maxHeartbeats 4000000 in
theorem want_any (b g cap:Nat) (dv:Value) (ts:List Tok) (xb:Nat→Prop) (σ:RS) (s:List UInt8) (W:World) (h:Hid (Rd W b g cap dv ts xb σ)) :
    Calls Tryz.prog 78 #[.pointer (some ⟨b,0,none⟩),.string (str s)] W fun r Y=>RdRet b g cap dv ts xb W (.tuple #[]) (wantS ts s σ) r Y:=by
  have C:=hid (took_any b g cap dv ts xb σ s W h)
  cases hR:isS ts s σ with
  | true =>
    rw [hR] at C
    have HT:=hid (show wantS ts s σ = tookS ts s σ by unfold tookS wantS;rw [if_pos hR,if_pos hR])
    clear hR
    go_enter Tryz.func78,Tryz.ntmps78
    go_wp2_with (go_at_call 77;(with_reducible refine C.out.mono ?_);rintro e w1 ⟨rfl,hr,hk⟩;have HR:=hid hr;have HK:=hid hk;clear hr hk)
    go_end0
    rw [HT.out]
    exact ⟨rfl,HR.out,HK.out⟩
  | false =>
    rw [hR] at C
    have HT:=hid (show tookS ts s σ = σ by unfold tookS;rw [hR];rfl)
    have HU:=hid (show wantS ts s σ = failS ts 2 σ by unfold wantS;rw [hR];rfl)
    rw [HT.out] at C
    clear hR
    go_enter Tryz.func78,Tryz.ntmps78
    go_wp2_with (first | (go_at_call 77;(with_reducible refine C.out.mono ?_);rintro e w1 ⟨rfl,hr,hk⟩;have HR:=hid hr;have HK:=hid hk;clear hr hk) | (go_at_call 51;(with_reducible refine (fail_any b g cap dv ts xb σ 2 w1 HR).mono ?_);rintro e w2 ⟨rfl,hr,hk⟩;have HR2:=hid hr;have HK2:=hid hk;clear hr hk))
    go_end0
    rw [HU.out]
    exact ⟨rfl,HR2.out,HK.out.trans HK2.out⟩
set_option maxHeartbeats 8000000 in
theorem name_any (b g cap:Nat) (dv:Value) (ts:List Tok) (xb:Nat→Prop) (σ:RS) (W:World) (h:Hid (Rd W b g cap dv ts xb σ)) :
    Calls Tryz.prog 82 #[.pointer (some ⟨b,0,none⟩)] W fun r Y=>RdRet b g cap dv ts xb W (.string (str (nameV ts σ))) (nameS ts σ) r Y:=by
  have F:=hid (fun W h=>fail_any b g cap dv ts xb σ 2 W h)
  obtain ⟨o,c,⟨c0,c1,c3,c4,c5,c6,fr⟩,hx⟩:=h.out.cells
  have ht:=h.out.tok
  have hgb:g≠b:=by have:=h.out.lt;omega
  have hl:=h.out.at_
  have hn:=h.out.len
  obtain ⟨t0,t1,t2,t3⟩:=ht
  obtain ⟨n,hnn⟩:∃ n,n = ts.length:=⟨_,rfl⟩
  obtain ⟨a,haa⟩:∃ a,a = σ.at_:=⟨_,rfl⟩
  obtain ⟨cd,hcd⟩:∃ cd,cd = σ.code:=⟨_,rfl⟩
  obtain ⟨ps,hps⟩:∃ ps,ps = σ.pos:=⟨_,rfl⟩
  obtain ⟨dp,hdp⟩:∃ dp,dp = σ.deep:=⟨_,rfl⟩
  obtain ⟨kd,hkd⟩:∃ kd,kd = (tokL ts σ.at_).kind:=⟨_,rfl⟩
  obtain ⟨tx,htx⟩:∃ tx,tx = (tokL ts σ.at_).text:=⟨_,rfl⟩
  obtain ⟨tv,htv⟩:∃ tv,tv = (tokL ts σ.at_).v:=⟨_,rfl⟩
  obtain ⟨p,hp⟩:∃ p,p = (tokL ts σ.at_).at_:=⟨_,rfl⟩
  rw [← hnn] at c0 hl hn
  rw [← hkd] at t0
  rw [← htx] at t1
  rw [← htv] at t2
  rw [← hp] at t3
  rw [← haa] at c1 t0 t1 t2 t3 hl
  rw [← hcd] at c5
  rw [← hdp] at c4
  rw [← hps] at c6
  have k0:((a:Nat):Int) < (n:Int):=by omega
  have f1:=fr 1
  have f4:=fr 4
  have f5:=fr 5
  have f6:=fr 6
  have HCD:=hid hcd
  have HPS:=hid hps
  have HDP:=hid hdp
  have HKD:=hid hkd
  have HTX:=hid htx
  have HTV:=hid htv
  have HP:=hid hp
  have HAA:=hid haa
  have HNN:=hid hnn
  clear fr hx hnn haa hcd hps hdp hkd htx htv hp c3
  have ha:(a:Int)≤40000:=by omega
  have hbs:b < W.heap.size:=h.out.size
  by_cases hz:cd = 0
  · subst hz
    by_cases h1:kd = 1
    · subst h1
      have q1:((1:Int) != 1) = false:=by decide
      have HN:=hid (show nameB ts σ = true by unfold nameB;rw [← HCD.out,← HKD.out];rfl)
      have HT:=hid (show nameS ts σ = stepS σ by unfold nameS;rw [if_pos HN.out])
      have HV:=hid (show nameV ts σ = tx by unfold nameV;rw [if_pos HN.out,HTX.out])
      go_enter Tryz.func82,Tryz.ntmps82
      go_wp2_with fail
      go_quiet (fail)
      go_wp2_with fail
      have v0:((W.drewN nq).setCell ⟨b,1,none⟩ (.int .i64 ((a:Int)+1))).cell? ⟨b,0,none⟩ = some (.slice (some ⟨g,0,none⟩) n cap):=by rw [World.cell?_setCell_other _ _ _ _ (by simp)];exact c0
      have v1:((W.drewN nq).setCell ⟨b,1,none⟩ (.int .i64 ((a:Int)+1))).cell? ⟨b,1,none⟩ = some (.int .i64 ((a:Int)+1)):=World.cell?_setCell_same (W.drewN nq) ⟨b,1,none⟩ _ c1
      have v2:((W.drewN nq).setCell ⟨b,1,none⟩ (.int .i64 ((a:Int)+1))).cell? ⟨g,a*4+1,none⟩ = some (.string (str tx)):=by rw [World.cell?_setCell_other _ _ _ _ (by intro e;injection e with e1;exact hgb e1.symm)];exact t1
      have wz:IntKind.i64.wrap ((a:Int)+1 - 1) = (a:Int):=by rw [IntKind.wrap_i64];omega
      have HD:=hid (below_dr (Below.refl W.heap.size W) nq)
      have H1:Hid (Rd ((W.drewN nq).setCell ⟨b,1,none⟩ (.int .i64 ((a:Int)+1))) b g cap dv ts xb (stepS σ)):=hid (by rw [HAA.out];exact (h.out.below HD.out).setAt (by rw [← HKD.out];decide))
      have K1:Hid (RK b W ((W.drewN nq).setCell ⟨b,1,none⟩ (.int .i64 ((a:Int)+1)))):=hid ((RK.of_below HD.out (Nat.le_of_lt hbs)).trans (RK.set 1 _))
      go_quiet (fail)
      go_wp2_with fail
      go_ret
      rw [HT.out,HV.out]
      exact ⟨rfl,H1.out.below (below_dr (Below.refl _ _) _),K1.out.trans (RK.of_below (below_dr (Below.refl _ _) _) (Nat.le_trans (Nat.le_of_lt hbs) K1.out.size))⟩
    · have n1:((kd:Int) != 1) = true:=by rw [bne_iff_ne];omega
      have HN:=hid (show nameB ts σ = false by unfold nameB;rw [← HKD.out,decide_eq_false h1,Bool.and_false])
      have HT:=hid (show nameS ts σ = failS ts 2 σ by unfold nameS;rw [HN.out];rfl)
      have HV:=hid (show nameV ts σ = [] by unfold nameV;rw [HN.out];rfl)
      go_enter Tryz.func82,Tryz.ntmps82
      go_wp2_with fail
      go_quiet (fail)
      have HD:=hid (below_dr (Below.refl W.heap.size W) nq)
      have FF:=hid (F.out (W.drewN nq) (hid (h.out.below HD.out)))
      go_wp2_with (go_at_call 51;(with_reducible refine FF.out.mono ?_);rintro e w1 ⟨rfl,hr,hk⟩;have HR:=hid hr;have HK:=hid hk;clear hr hk)
      go_ret
      rw [HT.out,HV.out]
      exact ⟨rfl,HR.out,(RK.of_below HD.out (Nat.le_of_lt hbs)).trans HK.out⟩
  · have n0:(cd != 0) = true:=by rw [bne_iff_ne];exact hz
    have HN:=hid (show nameB ts σ = false by unfold nameB;rw [← HCD.out,decide_eq_false hz];rfl)
    have HT:=hid (show nameS ts σ = failS ts 2 σ by unfold nameS;rw [HN.out];rfl)
    have HV:=hid (show nameV ts σ = [] by unfold nameV;rw [HN.out];rfl)
    go_enter Tryz.func82,Tryz.ntmps82
    go_wp2_with fail
    go_quiet (fail)
    have HD:=hid (below_dr (Below.refl W.heap.size W) nq)
    have FF:=hid (F.out (W.drewN nq) (hid (h.out.below HD.out)))
    go_wp2_with (go_at_call 51;(with_reducible refine FF.out.mono ?_);rintro e w1 ⟨rfl,hr,hk⟩;have HR:=hid hr;have HK:=hid hk;clear hr hk)
    go_ret
    rw [HT.out,HV.out]
    exact ⟨rfl,HR.out,(RK.of_below HD.out (Nat.le_of_lt hbs)).trans HK.out⟩
end
section
open Go.RowKit Lx
end
section
open Go.RowKit Lx
def rdV (x:Ex) (v:Value):Value:=.agg #[.int .i64 x.kind,.int .i64 x.a,.int .i64 x.b,.int .i64 x.c,.string x.name,.string x.state,.int .i64 x.v,v,.int .i64 x.pos]
theorem nine_cells (W:World) (x0 x1 x2 x3 x4 x5 x6 x7 x8:Value) (T:TypeId) (j:Nat) (u:Value) (h : [x0,x1,x2,x3,x4,x5,x6,x7,x8][j]? = some u):(W.alloc (.cells #[x0,x1,x2,x3,x4,x5,x6,x7,x8] T)).cell? ((⟨W.heap.size,0,none⟩:Addr).add j) = some u:=by
  have e:(⟨W.heap.size,0,none⟩:Addr).add j = ⟨W.heap.size,j,none⟩:=by unfold Addr.add;split <;> simp_all
  rw [e,World.cell?_alloc_new,← h,← Array.getElem?_toList]
theorem RK.grown {b:Nat} {W Y:World} {v:Value} {n:Nat} {xs:List Value} (h:W.ownsRow (b+1) 59 9 v n xs) (hg:W.grownBy Y v.ownBlock) (hb:b≤W.heap.size):RK b W Y :=
  ⟨hg.os,hg.tape,hg.output,hg.size,fun k hk=>hg.block k (by omega) (fun e=>by have:=(h.lt k e.symm).1;omega),fun k o hk hkb hno=>(hg.block k (heap_lt hk) (fun e=>by
    rcases h.2 with ⟨rfl,_⟩ | ⟨g,cap,cur,rfl,_,hgb,_⟩
    · simp [Value.ownBlock] at e
    · obtain rfl:k = g:=by simpa [Value.ownBlock] using e
      rw [hk] at hgb
      injection hgb with hgb
      exact hno cur hgb)).trans hk⟩
end
section
open Go.RowKit Lx
structure FC (b g cap:Nat) (dv:Value) (ts:List Tok) (xb:Nat→Prop) (f:Nat):Prop where
  expr:∀ σ v l τ,runE ts f .expr σ = some (v,l,τ)→∀ W,Hid (Rd W b g cap dv ts xb σ)→Calls Tryz.prog 49 #[.pointer (some ⟨b,0,none⟩)] W fun r Y=>RdRet b g cap dv ts xb W (.int .i64 v) τ r Y
  pre:∀ σ v l τ,runE ts f .pre σ = some (v,l,τ)→∀ W,Hid (Rd W b g cap dv ts xb σ)→Calls Tryz.prog 118 #[.pointer (some ⟨b,0,none⟩)] W fun r Y=>RdRet b g cap dv ts xb W (.int .i64 v) τ r Y
  atom:∀ σ v l τ,σ.code = 0→runE ts f .atom σ = some (v,l,τ)→∀ W,Hid (Rd W b g cap dv ts xb σ)→Calls Tryz.prog 134 #[.pointer (some ⟨b,0,none⟩)] W fun r Y=>RdRet b g cap dv ts xb W (.int .i64 v) τ r Y
  bin:∀ (least:Nat),1≤least→least≤6→∀ σ v l τ,runE ts f (.bin least) σ = some (v,l,τ)→∀ W,Hid (Rd W b g cap dv ts xb σ)→Calls Tryz.prog 80 #[.pointer (some ⟨b,0,none⟩),.int .i64 (least:Int)] W fun r Y=>RdRet b g cap dv ts xb W (.int .i64 v) τ r Y
def twoE (k a b:Int) (p:Nat):Ex:={ ex0 with kind:=k,a:=a,b:=b,pos:=(p:Int) }
theorem least_of {α:Type} (P:Nat→α→Prop):∃ m:α→Nat,∀ x,(∃ n,P n x)→P (m x) x∧∀ k,P k x→m x≤k:=by
  have key:∀ x,∃ n,(∃ n,P n x)→P n x∧∀ k,P k x→n≤k:=fun x=>by
    by_cases h:∃ n,P n x
    · obtain ⟨n,hn⟩:=h
      induction n using Nat.strongRecOn with
      | ind n ih =>
        by_cases h2:∃ k,k < n∧P k x
        · obtain ⟨k,hk,hp⟩:=h2
          exact ih k hk hp
        · exact ⟨n,fun _=>⟨hn,fun k hk=>Nat.le_of_not_lt fun hlt=>h2 ⟨k,hlt,hk⟩⟩⟩
    · exact ⟨0,fun h2=>absurd h2 h⟩
  exact ⟨fun x=>(key x).choose,fun x=>(key x).choose_spec⟩
end
section
open Go.RowKit Lx
end
section
open Go.RowKit Lx
def RdDeep (b g cap:Nat) (dv:Value) (ts:List Tok) (xb:Nat→Prop) (W:World) (v:Value) (σ:RS) (d:Int) (r:Ending) (Y:World):Prop :=
  r = .returned v∧Y.cell? ⟨b,4,none⟩ = some (.int .i64 d)∧Y.frozen? ⟨b,4,none⟩ = false∧Hid (Rd Y b g cap dv ts xb σ)∧Hid (RK b W Y)
theorem RdRet.deep {b g cap:Nat} {dv:Value} {ts:List Tok} {xb:Nat→Prop} {W:World} {v:Value} {σ:RS} {d:Int} {r:Ending} {Y:World} (h:RdRet b g cap dv ts xb W v σ r Y) (hd:σ.deep = d):RdDeep b g cap dv ts xb W v σ d r Y:=by
  obtain ⟨o,c,hc,_⟩:=h.2.1.cells
  exact ⟨h.1,hc.c4.trans (by rw [hd]),hc.fr 4,hid h.2.1,hid h.2.2⟩
theorem took_true {b g cap:Nat} {dv:Value} {ts:List Tok} {xb:Nat→Prop} {σ:RS} (s:List UInt8) (hs:isS ts s σ = true) (W:World) (h:Hid (Rd W b g cap dv ts xb σ)) :
    Calls Tryz.prog 77 #[.pointer (some ⟨b,0,none⟩),.string (str s)] W fun r Y=>RdRet b g cap dv ts xb W (.bool true) (stepS σ) r Y:=by
  have:=took_any b g cap dv ts xb σ s W h
  have e:tookS ts s σ = stepS σ:=by unfold tookS;rw [if_pos hs]
  rwa [hs,e] at this
theorem took_false {b g cap:Nat} {dv:Value} {ts:List Tok} {xb:Nat→Prop} {σ:RS} (s:List UInt8) (hs:isS ts s σ = false) (W:World) (h:Hid (Rd W b g cap dv ts xb σ)) :
    Calls Tryz.prog 77 #[.pointer (some ⟨b,0,none⟩),.string (str s)] W fun r Y=>RdRet b g cap dv ts xb W (.bool false) σ r Y:=by
  have:=took_any b g cap dv ts xb σ s W h
  have e:tookS ts s σ = σ:=by unfold tookS;rw [hs];rfl
  rwa [hs,e] at this
theorem isS_one {ts:List Tok} {s s' : List UInt8} {σ:RS} (h:isS ts s σ = true) (hn:s≠s'):isS ts s' σ = false:=by
  unfold isS at h ⊢
  simp only [Bool.and_eq_true,beq_iff_eq] at h
  rw [h.2.2]
  have:(s == s') = false:=beq_false_of_ne hn
  rw [this,Bool.and_false,Bool.and_false]
end
end Go.Proofs.YtdlmfeflinbbjaaGreat
