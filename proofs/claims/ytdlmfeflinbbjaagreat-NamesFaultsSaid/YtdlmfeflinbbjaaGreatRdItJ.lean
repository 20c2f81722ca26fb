import Derived.Test.YtdlmfeflinbbjaaGreatRdQA
import Derived.Shelf.RegionOpenPlain
import Derived.Test.YtdlmfeflinbbjaaGreatRdQB
namespace Go.Proofs.YtdlmfeflinbbjaaGreat
open Go.Lib (hid)
section
open Go.RowKit Lx
theorem NoEx.of {T:TypeId} (h:T≠59) {cs:Array Value}:NoEx (.cells cs T (0,0)):=fun cs' e=>by cases e;exact h rfl
set_option maxHeartbeats 4000000 in
theorem params_none (b g cap:Nat) (dv:Value) (ts:List Tok) (xb:Nat→Prop) (σ:RS) (hp:isS ts [41] (wantS ts [40] σ) = true) (W:World) (h:Hid (Rd W b g cap dv ts xb σ)) :
    Calls Tryz.prog 83 #[.pointer (some ⟨b,0,none⟩)] W fun r Y=>RdRet b g cap dv ts xb W (.slice none 0 0) (stepS (wantS ts [40] σ)) r Y:=by
  have C1:Hid (Calls Tryz.prog 78 #[.pointer (some ⟨b,0,none⟩),.string ⟨#[40]⟩] W fun r Y=>RdRet b g cap dv ts xb W (.tuple #[]) (wantS ts [40] σ) r Y):=hid (want_any b g cap dv ts xb σ [40] W h)
  have C2:Hid (∀ W,Hid (Rd W b g cap dv ts xb (wantS ts [40] σ))→Calls Tryz.prog 77 #[.pointer (some ⟨b,0,none⟩),.string ⟨#[41]⟩] W fun r Y=>RdRet b g cap dv ts xb W (.bool true) (stepS (wantS ts [40] σ)) r Y):=hid fun W h=>took_true (σ:=wantS ts [40] σ) [41] hp W h
  clear hp
  go_enter Tryz.func83,Tryz.ntmps83
  go_wp2_with (first
    | (go_at_call 78;(with_reducible refine C1.out.mono ?_);rintro e w1 ⟨rfl,hr,hk⟩;have HR:=hid hr;have HK:=hid hk;clear hr hk)
    | (go_at_call 77;(with_reducible refine (C2.out w1 HR).mono ?_);rintro e w2 ⟨rfl,hr,hk⟩;have HR2:=hid hr;have HK2:=hid hk;clear hr hk))
  go_ret
  exact ⟨rfl,HR2.out,HK.out.trans HK2.out⟩
def itA (k:Int) (nm:ByteArray) (p:Int):Array Value:=#[.int .i64 k,.string nm,.int .i64 0,.int .i64 0,.int .i64 0,.slice none 0 0,.string ⟨#[]⟩,.string ⟨#[]⟩,.int .i64 p]
theorem it_copy {W:World} {A:Nat} {k0:Int} {n0:ByteArray} {p0:Int} (h:W.heap[A]? = some (.cells (itA k0 n0 p0) 62 (0,0))) (k:Int) (nm:ByteArray) (p:Int) :
    (((((((((W.setCell ⟨A,0,none⟩ (.int .i64 k)).setCell ⟨A,1,none⟩ (.string nm)).setCell ⟨A,2,none⟩ (.int .i64 0)).setCell ⟨A,3,none⟩ (.int .i64 0)).setCell ⟨A,4,none⟩ (.int .i64 0)).setCell ⟨A,5,none⟩ (.slice none 0 0)).setCell ⟨A,6,none⟩ (.string ⟨#[]⟩)).setCell ⟨A,7,none⟩ (.string ⟨#[]⟩)).setCell ⟨A,8,none⟩ (.int .i64 p)).drew.heap[A]? = some (.cells (itA k nm p) 62 (0,0)):=by
  have h1:=set_blk h 0 (.int .i64 k)
  have h2:=set_blk h1 1 (.string nm)
  have h3:=set_blk h2 2 (.int .i64 0)
  have h4:=set_blk h3 3 (.int .i64 0)
  have h5:=set_blk h4 4 (.int .i64 0)
  have h6:=set_blk h5 5 (.slice none 0 0)
  have h7:=set_blk h6 6 (.string ⟨#[]⟩)
  have h8:=set_blk h7 7 (.string ⟨#[]⟩)
  have h9:=set_blk h8 8 (.int .i64 p)
  have hd:∀ X:World,X.drew.heap = X.heap:=fun _=>rfl
  rw [hd,h9]
  simp [itA]
def ItB (W:World) (A:Nat) (k:Int) (nm:ByteArray) (p:Int):Prop:=W.heap[A]? = some (.cells (itA k nm p) 62 (0,0))
theorem ItB.keep {b:Nat} {W Y:World} {A:Nat} {k:Int} {nm:ByteArray} {p:Int} (h:ItB W A k nm p) (hk:RK b W Y) (hb:b≠A):ItB Y A k nm p:=hk.keep A _ h (Ne.symm hb) (.of (by decide))
structure ItCells (W:World) (A:Nat) (k:Int) (nm:ByteArray) (p:Int):Prop where
  c0:W.cell? ⟨A,0,none⟩ = some (.int .i64 k)
  c1:W.cell? ⟨A,1,none⟩ = some (.string nm)
  c2:W.cell? ⟨A,2,none⟩ = some (.int .i64 0)
  c3:W.cell? ⟨A,3,none⟩ = some (.int .i64 0)
  c4:W.cell? ⟨A,4,none⟩ = some (.int .i64 0)
  c5:W.cell? ⟨A,5,none⟩ = some (.slice none 0 0)
  c6:W.cell? ⟨A,6,none⟩ = some (.string ⟨#[]⟩)
  c7:W.cell? ⟨A,7,none⟩ = some (.string ⟨#[]⟩)
  c8:W.cell? ⟨A,8,none⟩ = some (.int .i64 p)
  fr:∀ i,W.frozen? ⟨A,i,none⟩ = false
theorem ItB.cells {W:World} {A:Nat} {k:Int} {nm:ByteArray} {p:Int} (h:ItB W A k nm p):ItCells W A k nm p:=by
  unfold ItB itA at h
  exact ⟨by simp [World.cell?,h],by simp [World.cell?,h],by simp [World.cell?,h],by simp [World.cell?,h],by simp [World.cell?,h],by simp [World.cell?,h],by simp [World.cell?,h],by simp [World.cell?,h],by simp [World.cell?,h],fun i=>by simp [World.frozen?,h]⟩
theorem own_type {W:World} {B:Nat} {e:TypeId} {s:Nat} {v:Value} {n:Nat} {xs:List Value} (h:W.ownsRow B e s v n xs) {k:Nat} (hk:v.ownBlock = some k):B≤k∧∃ cs,W.heap[k]? = some (.cells cs e (0,0)):=by
  rcases h.2 with ⟨rfl,_⟩ | ⟨g,cap,cur,rfl,hb,hg,_⟩
  · cases hk
  · obtain rfl:g = k:=by simpa [Value.ownBlock] using hk
    exact ⟨hb,cur,hg⟩
theorem Rd.setBox {W:World} {b g cap:Nat} {dv:Value} {ts:List Tok} {xb:Nat→Prop} {σ:RS} (h:Rd W b g cap dv ts xb σ) {A:Nat} {cs:Array Value} {T:TypeId} {fr:Nat × Nat} (hA:W.heap[A]? = some (.cells cs T fr)) (h1:T≠59) (h2:T≠3) (hb:b < A) (i:Nat) (v:Value):Rd (W.setCell ⟨A,i,none⟩ v) b g cap dv ts xb σ:=by
  have sm:∀ k,k≠A→(W.setCell ⟨A,i,none⟩ v).heap[k]? = W.heap[k]?:=fun k hk=>Below.heap_setCell W ⟨A,i,none⟩ v k (by simpa using hk)
  obtain ⟨o,c,hc,q,q1,q2,q3⟩:=h.blk
  refine ⟨fun k hk=>Nat.lt_of_lt_of_le (h.xlt k hk) ((Below.refl A W).setCell (p:=⟨A,i,none⟩) (Nat.le_refl _) v).size,⟨o,c,(sm b (by omega)).trans hc,q,q1,rd_own_same q2 fun k e=>sm k ?_,fun p hp=>⟨rd_own_same (q3 p hp).1 fun k e=>sm k ?_,(q3 p hp).2⟩⟩,row_low h.row (sm g (by have:=h.lt;omega)),h.lt,h.at_,h.len,h.ends⟩
  · rintro rfl
    obtain ⟨_,cs',hk⟩:=own_type q2 e
    rw [hA] at hk;cases hk;exact h1 rfl
  · rintro rfl
    obtain ⟨_,cs',hk⟩:=own_type (q3 p hp).1 e
    rw [hA] at hk;cases hk;exact h2 rfl
theorem RK.setNew {b:Nat} {W Y:World} (h:RK b W Y) {A:Nat} (hA:W.heap.size≤A) (hb:b < A) (i:Nat) (v:Value):RK b W (Y.setCell ⟨A,i,none⟩ v):=by
  have hs:=(Below.refl A Y).setCell (p:=⟨A,i,none⟩) (Nat.le_refl _) v
  exact ⟨hs.os.trans h.os,hs.tape.trans h.tape,hs.output.trans h.output,Nat.le_trans h.size hs.size,fun k hk=>(hs.block k (by omega)).trans (h.low k hk),fun k o hk hkb hn=>(hs.block k (by have:=heap_lt hk;omega)).trans (h.keep k o hk hkb hn)⟩
theorem ItB.set {W:World} {A:Nat} {k:Int} {nm:ByteArray} {p:Int} (h:ItB W A k nm p) {i:Nat} {v:Value} {k' : Int} {nm' : ByteArray} {p' : Int} (he:(itA k nm p).setIfInBounds i v = itA k' nm' p'):ItB (W.setCell ⟨A,i,none⟩ v) A k' nm' p':=by
  unfold ItB at h ⊢
  rw [set_blk h,he]
theorem ItB.other {W:World} {A:Nat} {k:Int} {nm:ByteArray} {p:Int} (h:ItB W A k nm p) {A' : Nat} (hn:A≠A') (i:Nat) (v:Value):ItB (W.setCell ⟨A',i,none⟩ v) A k nm p:=(Below.heap_setCell W ⟨A',i,none⟩ v A (by simpa using hn)).trans h
structure But (A:Nat) (W Y:World):Prop where
  os:Y.os = W.os
  tape:Y.tape = W.tape
  output:Y.output = W.output
  size:W.heap.size≤Y.heap.size
  block:∀ k,k≠A→k < W.heap.size→Y.heap[k]? = W.heap[k]?
theorem But.refl (A:Nat) (W:World):But A W W:=⟨rfl,rfl,rfl,Nat.le_refl _,fun _ _ _=>rfl⟩
theorem But.set {A:Nat} {W Y:World} (h:But A W Y) (i:Nat) (v:Value):But A W (Y.setCell ⟨A,i,none⟩ v):=by
  have hs:=(Below.refl A Y).setCell (p:=⟨A,i,none⟩) (Nat.le_refl _) v
  exact ⟨hs.os.trans h.os,hs.tape.trans h.tape,hs.output.trans h.output,Nat.le_trans h.size hs.size,fun k hk hl=>(Below.heap_setCell Y ⟨A,i,none⟩ v k (by simpa using hk)).trans (h.block k hk hl)⟩
theorem But.drew {A:Nat} {W Y:World} (h:But A W Y):But A W Y.drew:=⟨h.os,h.tape,h.output,h.size,h.block⟩
theorem Rd.but {W Y:World} {b g cap:Nat} {dv:Value} {ts:List Tok} {xb:Nat→Prop} {σ:RS} (h:Rd W b g cap dv ts xb σ) {A:Nat} {cs:Array Value} {T:TypeId} {fr:Nat × Nat} (hA:W.heap[A]? = some (.cells cs T fr)) (h1:T≠59) (h2:T≠3) (hb:b < A) (hy:But A W Y):Rd Y b g cap dv ts xb σ:=by
  have hs:=h.size
  obtain ⟨o,c,hc,q,q1,q2,q3⟩:=h.blk
  refine ⟨fun k hk=>Nat.lt_of_lt_of_le (h.xlt k hk) hy.size,⟨o,c,(hy.block b (by omega) hs).trans hc,q,q1,rd_own_same q2 fun k e=>hy.block k ?_ (q2.lt k e).2,fun p hp=>⟨rd_own_same (q3 p hp).1 fun k e=>hy.block k ?_ ((q3 p hp).1.lt k e).2,(q3 p hp).2⟩⟩,row_low h.row (hy.block g (by have:=h.lt;omega) (by have:=h.lt;omega)),h.lt,h.at_,h.len,h.ends⟩
  · rintro rfl
    obtain ⟨_,cs',hk⟩:=own_type q2 e
    rw [hA] at hk;cases hk;exact h1 rfl
  · rintro rfl
    obtain ⟨_,cs',hk⟩:=own_type (q3 p hp).1 e
    rw [hA] at hk;cases hk;exact h2 rfl
theorem RK.but {b:Nat} {W V Y:World} (h:RK b W V) {A:Nat} (hA:W.heap.size≤A) (hb:b < A) (hbs:b < W.heap.size) (hy:But A V Y):RK b W Y :=
  ⟨hy.os.trans h.os,hy.tape.trans h.tape,hy.output.trans h.output,Nat.le_trans h.size hy.size,fun k hk=>(hy.block k (by omega) (by have:=h.size;omega)).trans (h.low k hk),fun k o hk hkb hn=>by
    have:=heap_lt hk
    exact (hy.block k (by omega) (by have:=h.size;omega)).trans (h.keep k o hk hkb hn)⟩
def ItRet (b g cap:Nat) (dv:Value) (ts:List Tok) (xb:Nat→Prop) (W:World) (k:Int) (nm:ByteArray) (p:Int) (ok:Bool) (σ:RS) (r:Ending) (Y:World):Prop :=
  RdRet b g cap dv ts xb W (.tuple #[.agg (itA k nm p),.bool ok]) σ r Y
set_option maxHeartbeats 8000000 in
set_option maxRecDepth 100000 in
theorem item_out (b g cap:Nat) (dv:Value) (ts:List Tok) (xb:Nat→Prop) (σ:RS) (ho:isS ts [111,117,116] σ = true) (W:World) (h:Hid (Rd W b g cap dv ts xb σ)) :
    Calls Tryz.prog 120 #[.pointer (some ⟨b,0,none⟩),.bool true] W fun r Y=>ItRet b g cap dv ts xb W 8 (str (nameV ts (stepS σ))) ((tokL ts σ.at_).at_:Int) (decide ((wantS ts [59] (nameS ts (stepS σ))).code = 0)) (wantS ts [59] (nameS ts (stepS σ))) r Y:=by
  have TF:Hid (∀ (d:Array UInt8) W,d.toList≠[111,117,116]→Hid (Rd W b g cap dv ts xb σ)→Calls Tryz.prog 77 #[.pointer (some ⟨b,0,none⟩),.string ⟨d⟩] W fun r Y=>RdRet b g cap dv ts xb W (.bool false) σ r Y):=hid fun d W hd h=>by
    have:=took_false (b:=b) (g:=g) (cap:=cap) (dv:=dv) (xb:=xb) d.toList (isS_one ho (Ne.symm hd)) W h
    simpa [str] using this
  have TT:Hid (∀ W,Hid (Rd W b g cap dv ts xb σ)→Calls Tryz.prog 77 #[.pointer (some ⟨b,0,none⟩),.string ⟨#[111,117,116]⟩] W fun r Y=>RdRet b g cap dv ts xb W (.bool true) (stepS σ) r Y):=hid fun W h=>took_true [111,117,116] ho W h
  have NM:=hid (fun W h=>name_any b g cap dv ts xb (stepS σ) W h)
  obtain ⟨nv,hnv⟩:∃ nv,nv = nameV ts (stepS σ):=⟨_,rfl⟩
  obtain ⟨y,hy⟩:∃ y,y = nameS ts (stepS σ):=⟨_,rfl⟩
  rw [← hnv,← hy] at NM
  rw [← hnv,← hy]
  have WT:Hid (∀ W,Hid (Rd W b g cap dv ts xb y)→Calls Tryz.prog 78 #[.pointer (some ⟨b,0,none⟩),.string ⟨#[59]⟩] W fun r Y=>RdRet b g cap dv ts xb W (.tuple #[]) (wantS ts [59] y) r Y):=hid fun W h=>want_any b g cap dv ts xb y [59] W h
  obtain ⟨z,hz⟩:∃ z,z = wantS ts [59] y:=⟨_,rfl⟩
  rw [← hz] at WT
  rw [← hz]
  obtain ⟨zc,hzc⟩:∃ zc,zc = z.code:=⟨_,rfl⟩
  rw [← hzc]
  have HZC:=hid hzc
  clear hzc
  obtain ⟨ps0,hps0⟩:∃ ps0,ps0 = (tokL ts σ.at_).at_:=⟨_,rfl⟩
  rw [← hps0]
  have HPS0:=hid hps0
  clear hnv hy hz hps0 ho
  obtain ⟨o,c,⟨c0,c1,c3,c4,c5,c6,fr⟩,hx⟩:=h.out.cells
  have ht:=h.out.tok
  have hgb:g≠b:=by have:=h.out.lt;omega
  have hl:=h.out.at_
  have hn:=h.out.len
  obtain ⟨t0,t1,t2,t3⟩:=ht
  obtain ⟨n,hnn⟩:∃ n,n = ts.length:=⟨_,rfl⟩
  obtain ⟨a,haa⟩:∃ a,a = σ.at_:=⟨_,rfl⟩
  obtain ⟨cd,hcd⟩:∃ cd,cd = σ.code:=⟨_,rfl⟩
  obtain ⟨ps,hps⟩:∃ ps,ps = σ.pos:=⟨_,rfl⟩
  obtain ⟨dp,hdp⟩:∃ dp,dp = σ.deep:=⟨_,rfl⟩
  obtain ⟨kd,hkd⟩:∃ kd,kd = (tokL ts σ.at_).kind:=⟨_,rfl⟩
  obtain ⟨tx,htx⟩:∃ tx,tx = (tokL ts σ.at_).text:=⟨_,rfl⟩
  obtain ⟨tv,htv⟩:∃ tv,tv = (tokL ts σ.at_).v:=⟨_,rfl⟩
  obtain ⟨p,hp⟩:∃ p,p = (tokL ts σ.at_).at_:=⟨_,rfl⟩
  rw [← hnn] at c0 hl hn
  rw [← hkd] at t0
  rw [← htx] at t1
  rw [← htv] at t2
  rw [← hp] at t3
  rw [← haa] at c1 t0 t1 t2 t3 hl
  rw [← hcd] at c5
  rw [← hdp] at c4
  rw [← hps] at c6
  have k0:((a:Nat):Int) < (n:Int):=by omega
  have f1:=fr 1
  have f4:=fr 4
  have f5:=fr 5
  have f6:=fr 6
  have HCD:=hid hcd
  have HPS:=hid hps
  have HDP:=hid hdp
  have HKD:=hid hkd
  have HTX:=hid htx
  have HTV:=hid htv
  have HP:=hid hp
  have HAA:=hid haa
  have HNN:=hid hnn
  clear fr hx hnn haa hcd hps hdp hkd htx htv hp c3
  have hbs:b < W.heap.size:=h.out.size
  go_enter Tryz.func120,Tryz.ntmps120
  go_wp2_with fail
  go_region_held3 (fun w'=>w'.cell? ⟨b,0,none⟩ = some (.slice (some ⟨g,0,none⟩) n cap)∧w'.cell? ⟨b,1,none⟩ = some (.int .i64 (a:Int))∧w'.cell? ⟨g,a*4+3,none⟩ = some (.int .i64 (p:Int)))
    ((repeat' apply And.intro) <;> first | assumption | exact cell_set2 (by assumption) (by omega) | go_keep)
    (fail)
  obtain ⟨A,hA⟩:∃ A,A = W.heap.size:=⟨_,rfl⟩
  obtain ⟨V,hV⟩:∃ V,V = ((W.alloc (.cells #[.int .i64 0,.string ⟨#[]⟩,.int .i64 0,.int .i64 0,.int .i64 0,.slice none 0 0,.string ⟨#[]⟩,.string ⟨#[]⟩,.int .i64 0] 62)).alloc (.cells #[.int .i64 0,.string ⟨#[]⟩,.int .i64 0,.int .i64 0,.int .i64 0,.slice none 0 0,.string ⟨#[]⟩,.string ⟨#[]⟩,.int .i64 (p:Int)] 62)).drew:=⟨_,rfl⟩
  have hbV:Below W.heap.size W V:=by rw [hV];exact (((Below.refl _ _).alloc (Nat.le_refl _) _).alloc (by simp) _).drew
  have HB0:Hid (ItB V A 0 ⟨#[]⟩ 0):=hid (by
    unfold ItB
    rw [hV,hA]
    exact (heap_alloc_old _ _ (by simp)).trans (heap_alloc_new W _))
  have HB1:Hid (ItB V (A+1) 0 ⟨#[]⟩ (p:Int)):=hid (by
    unfold ItB
    have:=heap_alloc_new (W.alloc (.cells (itA 0 ⟨#[]⟩ 0) 62)) (.cells (itA 0 ⟨#[]⟩ p) 62)
    rw [World.size_alloc,← hA] at this
    rw [hV];exact this)
  have HR:Hid (Rd V b g cap dv ts xb σ):=hid (h.out.below hbV)
  have HT:Hid (RK b W V):=hid (RK.of_below hbV (Nat.le_of_lt hbs))
  rw [← hV,← hA]
  have HAW:=hid hA
  have hbA:b < A:=by omega
  have HPP:Hid (ps0 = p):=hid (by rw [HPS0.out,HP.out])
  clear hV hA hbV hbs hgb hn hl k0 t0 t1 t2 t3 c0 c1 c4 c5 c6 f1 f4 f5 f6 HCD HPS HDP HKD HTX HTV HAA HNN HP HPS0
  go_wp2_with (first
    | (go_at_call 77;(with_reducible refine Calls.mono (TF.out _ _ ?_ HR) ?_);(focus exact (by decide));(rintro e w1 ⟨rfl,hr,hk⟩);have HX0:=HB0;have HX1:=HB1;have HTx:=HT;clear HR HB0 HB1 HT;have HR:=hid hr;have HB0:=hid (HX0.out.keep hk (by omega));have HB1:=hid (HX1.out.keep hk (by omega));have HT:=hid (HTx.out.trans hk);clear hr hk HX0 HX1 HTx)
    | (go_at_call 77;(with_reducible refine Calls.mono (TT.out _ HR) ?_);(rintro e w2 ⟨rfl,hr,hk⟩);have HR2:=hid hr;have HC0:=hid (HB0.out.keep hk (by omega));have HC1:=hid (HB1.out.keep hk (by omega));have HT2:=hid (HT.out.trans hk);clear hr hk;obtain ⟨x0,x1,_,_,_,_,_,_,_,xf⟩:=HC1.out.cells;have x2:=xf 0;clear xf))
  obtain ⟨w3,hw3⟩:∃ w3,w3 = w2.setCell ⟨A+1,0,none⟩ (.int .i64 8):=⟨_,rfl⟩
  have HR3:Hid (Rd w3 b g cap dv ts xb (stepS σ)):=hid (by rw [hw3];exact HR2.out.setBox HC1.out (by decide) (by decide) (by omega) _ _)
  have HD0:Hid (ItB w3 A 0 ⟨#[]⟩ 0):=hid (by rw [hw3];exact HC0.out.other (by omega) _ _)
  have HD1:Hid (ItB w3 (A+1) 8 ⟨#[]⟩ (p:Int)):=hid (by rw [hw3];exact HC1.out.set rfl)
  have HT3:Hid (RK b W w3):=hid (by rw [hw3];exact HT2.out.setNew (by have:=HAW.out;omega) (by omega) _ _)
  rw [← hw3]
  clear hw3 x0 x1 x2 HR2 HC0 HC1 HT2 HR HB0 HB1 HT
  refine (NM.out w3 HR3).mono ?_
  rintro e w4 ⟨rfl,hr,hk⟩
  dsimp only
  have HR4:=hid hr
  have HE0:=hid (HD0.out.keep hk (by omega))
  have HE1:=hid (HD1.out.keep hk (by omega))
  have HT4:=hid (HT3.out.trans hk)
  clear hr hk
  obtain ⟨_,x1,_,_,_,_,_,_,_,xf⟩:=HE1.out.cells
  have x2:=xf 1
  clear xf
  go_wp2_with fail
  obtain ⟨w5,hw5⟩:∃ w5,w5 = w4.setCell ⟨A+1,1,none⟩ (.string (str nv)):=⟨_,rfl⟩
  have HR5:Hid (Rd w5 b g cap dv ts xb y):=hid (by rw [hw5];exact HR4.out.setBox HE1.out (by decide) (by decide) (by omega) _ _)
  have HF0:Hid (ItB w5 A 0 ⟨#[]⟩ 0):=hid (by rw [hw5];exact HE0.out.other (by omega) _ _)
  have HF1:Hid (ItB w5 (A+1) 8 (str nv) (p:Int)):=hid (by rw [hw5];exact HE1.out.set rfl)
  have HT5:Hid (RK b W w5):=hid (by rw [hw5];exact HT4.out.setNew (by have:=HAW.out;omega) (by omega) _ _)
  rw [← hw5]
  clear hw5 x1 x2 HR4 HE0 HE1 HT4 HR3 HD0 HD1 HT3
  refine (WT.out w5 HR5).mono ?_
  rintro e w6 ⟨rfl,hr,hk⟩
  dsimp only
  have HR6:=hid hr
  have HG0:=hid (HF0.out.keep hk (by omega))
  have HG1:=hid (HF1.out.keep hk (by omega))
  have HT6:=hid (HT5.out.trans hk)
  clear hr hk
  obtain ⟨m0,m1,m2,m3,m4,m5,m6,m7,m8,mf⟩:=HG1.out.cells
  obtain ⟨n0,n1,n2,n3,n4,n5,n6,n7,n8,nf⟩:=HG0.out.cells
  obtain ⟨_,_,⟨_,_,_,_,c5,_,_⟩,_⟩:=HR6.out.cells
  rw [← HZC.out] at c5
  clear HR5 HF0 HF1 HT5
  have f0:=nf 0
  have f1:=nf 1
  have f2:=nf 2
  have f3:=nf 3
  have f4:=nf 4
  have f5:=nf 5
  have f6:=nf 6
  have f7:=nf 7
  have f8:=nf 8
  clear nf mf
  go_wp2_with fail
  have mixed : Tryz.prog.follows .mixedOrders = true:=by kernel_rfl
  go_region_o
  obtain ⟨Y,hY⟩:∃ Y,Y = (((((((((w6.setCell ⟨A,0,none⟩ (.int .i64 8)).setCell ⟨A,1,none⟩ (.string (str nv))).setCell ⟨A,2,none⟩ (.int .i64 0)).setCell ⟨A,3,none⟩ (.int .i64 0)).setCell ⟨A,4,none⟩ (.int .i64 0)).setCell ⟨A,5,none⟩ (.slice none 0 0)).setCell ⟨A,6,none⟩ (.string ⟨#[]⟩)).setCell ⟨A,7,none⟩ (.string ⟨#[]⟩)).setCell ⟨A,8,none⟩ (.int .i64 (p:Int))).drew:=⟨_,rfl⟩
  rw [← hY]
  have HB:=hid (show But A w6 Y by rw [hY];exact ((((((((((But.refl A w6).set 0 _).set 1 _).set 2 _).set 3 _).set 4 _).set 5 _).set 6 _).set 7 _).set 8 _).drew)
  have HY:Hid (ItB Y A 8 (str nv) (p:Int)):=hid (by
    rw [hY]
    exact it_copy HG0.out 8 (str nv) p)
  clear hY n0 n1 n2 n3 n4 n5 n6 n7 n8 m0 m1 m2 m3 m4 m5 m6 m7 m8 f0 f1 f2 f3 f4 f5 f6 f7 f8 c5
  go_wp2_with fail
  obtain ⟨r0,r1,r2,r3,r4,r5,r6,r7,r8,_⟩:=HY.out.cells
  have hz:(zc == 0) = decide (zc = 0):=by by_cases h:zc = 0 <;> simp [h]
  refine bodyPost_ret (v:=.tuple #[.agg (itA 8 (str nv) (p:Int)),.bool (decide (zc = 0))]) (by simp [hz,results,Tryz.results120,go_sem,itA,r0,r1,r2,r3,r4,r5,r6,r7,r8]) rfl ?_
  rw [HPP.out]
  exact ⟨rfl,HR6.out.but HG0.out (by decide) (by decide) hbA HB.out,HT6.out.but (by have:=HAW.out;omega) hbA h.out.size HB.out⟩
end
section
open Go.RowKit Lx
theorem it_copy' {W:World} {A:Nat} {k0:Int} {n0:ByteArray} {p0:Int} (h:W.heap[A]? = some (.cells (itA k0 n0 p0) 62 (0,0))) (k:Int) (nm:ByteArray) (p:Int) :
    (((((((((W.setCell ⟨A,0,none⟩ (.int .i64 k)).setCell ⟨A,1,none⟩ (.string nm)).setCell ⟨A,2,none⟩ (.int .i64 0)).setCell ⟨A,3,none⟩ (.int .i64 0)).setCell ⟨A,4,none⟩ (.int .i64 0)).setCell ⟨A,5,none⟩ (.slice none 0 0)).setCell ⟨A,6,none⟩ (.string ⟨#[]⟩)).setCell ⟨A,7,none⟩ (.string ⟨#[]⟩)).setCell ⟨A,8,none⟩ (.int .i64 p)).heap[A]? = some (.cells (itA k nm p) 62 (0,0)):=by
  have h1:=set_blk h 0 (.int .i64 k)
  have h2:=set_blk h1 1 (.string nm)
  have h3:=set_blk h2 2 (.int .i64 0)
  have h4:=set_blk h3 3 (.int .i64 0)
  have h5:=set_blk h4 4 (.int .i64 0)
  have h6:=set_blk h5 5 (.slice none 0 0)
  have h7:=set_blk h6 6 (.string ⟨#[]⟩)
  have h8:=set_blk h7 7 (.string ⟨#[]⟩)
  have h9:=set_blk h8 8 (.int .i64 p)
  rw [h9]
  simp [itA]
def itemWords:List (List UInt8):=[[108,101,116],[100,101,114],[114,101,115,101,116],[109,101,109],[111,110],[109,111,100,101],[102,114,111,109],[111,117,116]]
set_option maxHeartbeats 8000000 in
set_option maxRecDepth 100000 in
theorem item_none (b g cap:Nat) (dv:Value) (ts:List Tok) (xb:Nat→Prop) (σ:RS) (ho:∀ s∈itemWords,isS ts s σ = false) (W:World) (h:Hid (Rd W b g cap dv ts xb σ)) :
    Calls Tryz.prog 120 #[.pointer (some ⟨b,0,none⟩),.bool true] W fun r Y=>ItRet b g cap dv ts xb W 0 ⟨#[]⟩ ((tokL ts σ.at_).at_:Int) false σ r Y:=by
  have TF:Hid (∀ (d:Array UInt8) W,d.toList∈itemWords→Hid (Rd W b g cap dv ts xb σ)→Calls Tryz.prog 77 #[.pointer (some ⟨b,0,none⟩),.string ⟨d⟩] W fun r Y=>RdRet b g cap dv ts xb W (.bool false) σ r Y):=hid fun d W hd h=>by
    have:=took_false (b:=b) (g:=g) (cap:=cap) (dv:=dv) (xb:=xb) d.toList (ho _ hd) W h
    simpa [str] using this
  obtain ⟨ps0,hps0⟩:∃ ps0,ps0 = (tokL ts σ.at_).at_:=⟨_,rfl⟩
  rw [← hps0]
  have HPS0:=hid hps0
  clear hps0 ho
  obtain ⟨o,c,⟨c0,c1,c3,c4,c5,c6,fr⟩,hx⟩:=h.out.cells
  have ht:=h.out.tok
  have hgb:g≠b:=by have:=h.out.lt;omega
  have hl:=h.out.at_
  have hn:=h.out.len
  obtain ⟨t0,t1,t2,t3⟩:=ht
  obtain ⟨n,hnn⟩:∃ n,n = ts.length:=⟨_,rfl⟩
  obtain ⟨a,haa⟩:∃ a,a = σ.at_:=⟨_,rfl⟩
  obtain ⟨cd,hcd⟩:∃ cd,cd = σ.code:=⟨_,rfl⟩
  obtain ⟨ps,hps⟩:∃ ps,ps = σ.pos:=⟨_,rfl⟩
  obtain ⟨dp,hdp⟩:∃ dp,dp = σ.deep:=⟨_,rfl⟩
  obtain ⟨kd,hkd⟩:∃ kd,kd = (tokL ts σ.at_).kind:=⟨_,rfl⟩
  obtain ⟨tx,htx⟩:∃ tx,tx = (tokL ts σ.at_).text:=⟨_,rfl⟩
  obtain ⟨tv,htv⟩:∃ tv,tv = (tokL ts σ.at_).v:=⟨_,rfl⟩
  obtain ⟨p,hp⟩:∃ p,p = (tokL ts σ.at_).at_:=⟨_,rfl⟩
  rw [← hnn] at c0 hl hn
  rw [← hkd] at t0
  rw [← htx] at t1
  rw [← htv] at t2
  rw [← hp] at t3
  rw [← haa] at c1 t0 t1 t2 t3 hl
  rw [← hcd] at c5
  rw [← hdp] at c4
  rw [← hps] at c6
  have k0:((a:Nat):Int) < (n:Int):=by omega
  have f1:=fr 1
  have f4:=fr 4
  have f5:=fr 5
  have f6:=fr 6
  have HCD:=hid hcd
  have HPS:=hid hps
  have HDP:=hid hdp
  have HKD:=hid hkd
  have HTX:=hid htx
  have HTV:=hid htv
  have HP:=hid hp
  have HAA:=hid haa
  have HNN:=hid hnn
  clear fr hx hnn haa hcd hps hdp hkd htx htv hp c3
  have hbs:b < W.heap.size:=h.out.size
  go_enter Tryz.func120,Tryz.ntmps120
  go_wp2_with fail
  go_region_held3 (fun w'=>w'.cell? ⟨b,0,none⟩ = some (.slice (some ⟨g,0,none⟩) n cap)∧w'.cell? ⟨b,1,none⟩ = some (.int .i64 (a:Int))∧w'.cell? ⟨g,a*4+3,none⟩ = some (.int .i64 (p:Int)))
    ((repeat' apply And.intro) <;> first | assumption | exact cell_set2 (by assumption) (by omega) | go_keep)
    (fail)
  obtain ⟨A,hA⟩:∃ A,A = W.heap.size:=⟨_,rfl⟩
  obtain ⟨V,hV⟩:∃ V,V = ((W.alloc (.cells #[.int .i64 0,.string ⟨#[]⟩,.int .i64 0,.int .i64 0,.int .i64 0,.slice none 0 0,.string ⟨#[]⟩,.string ⟨#[]⟩,.int .i64 0] 62)).alloc (.cells #[.int .i64 0,.string ⟨#[]⟩,.int .i64 0,.int .i64 0,.int .i64 0,.slice none 0 0,.string ⟨#[]⟩,.string ⟨#[]⟩,.int .i64 (p:Int)] 62)).drew:=⟨_,rfl⟩
  have hbV:Below W.heap.size W V:=by rw [hV];exact (((Below.refl _ _).alloc (Nat.le_refl _) _).alloc (by simp) _).drew
  have HB0:Hid (ItB V A 0 ⟨#[]⟩ 0):=hid (by
    unfold ItB
    rw [hV,hA]
    exact (heap_alloc_old _ _ (by simp)).trans (heap_alloc_new W _))
  have HB1:Hid (ItB V (A+1) 0 ⟨#[]⟩ (p:Int)):=hid (by
    unfold ItB
    have:=heap_alloc_new (W.alloc (.cells (itA 0 ⟨#[]⟩ 0) 62)) (.cells (itA 0 ⟨#[]⟩ p) 62)
    rw [World.size_alloc,← hA] at this
    rw [hV];exact this)
  have HR:Hid (Rd V b g cap dv ts xb σ):=hid (h.out.below hbV)
  have HT:Hid (RK b W V):=hid (RK.of_below hbV (Nat.le_of_lt hbs))
  rw [← hV,← hA]
  have HAW:=hid hA
  have hbA:b < A:=by omega
  have HPP:Hid (ps0 = p):=hid (by rw [HPS0.out,HP.out])
  clear hV hA hbV hbs hgb hn hl k0 t0 t1 t2 t3 c0 c1 c4 c5 c6 f1 f4 f5 f6 HCD HPS HDP HKD HTX HTV HAA HNN HP HPS0
  go_wp2_with (go_at_call 77;(with_reducible refine Calls.mono (TF.out _ _ ?_ HR) ?_);(focus exact (by decide));(rintro e w1 ⟨rfl,hr,hk⟩);have HX0:=HB0;have HX1:=HB1;have HTx:=HT;clear HR HB0 HB1 HT;have HR:=hid hr;have HB0:=hid (HX0.out.keep hk (by omega));have HB1:=hid (HX1.out.keep hk (by omega));have HT:=hid (HTx.out.trans hk);clear hr hk HX0 HX1 HTx;obtain ⟨m0,m1,m2,m3,m4,m5,m6,m7,m8,mf⟩:=HB1.out.cells;obtain ⟨n0,n1,n2,n3,n4,n5,n6,n7,n8,nf⟩:=HB0.out.cells;have f0:=nf 0;have f1:=nf 1;have f2:=nf 2;have f3:=nf 3;have f4:=nf 4;have f5:=nf 5;have f6:=nf 6;have f7:=nf 7;have f8:=nf 8;clear nf mf)
  obtain ⟨Y,hY⟩:∃ Y,Y = ((((((((w1.setCell ⟨A,0,none⟩ (.int .i64 0)).setCell ⟨A,1,none⟩ (.string ⟨#[]⟩)).setCell ⟨A,2,none⟩ (.int .i64 0)).setCell ⟨A,3,none⟩ (.int .i64 0)).setCell ⟨A,4,none⟩ (.int .i64 0)).setCell ⟨A,5,none⟩ (.slice none 0 0)).setCell ⟨A,6,none⟩ (.string ⟨#[]⟩)).setCell ⟨A,7,none⟩ (.string ⟨#[]⟩)).setCell ⟨A,8,none⟩ (.int .i64 (p:Int)):=⟨_,rfl⟩
  rw [← hY]
  have HB:=hid (show But A w1 Y by rw [hY];exact (((((((((But.refl A w1).set 0 _).set 1 _).set 2 _).set 3 _).set 4 _).set 5 _).set 6 _).set 7 _).set 8 _)
  have HY:Hid (ItB Y A 0 ⟨#[]⟩ (p:Int)):=hid (by
    unfold ItB
    rw [hY]
    exact it_copy' HB0.out 0 ⟨#[]⟩ p)
  clear hY n0 n1 n2 n3 n4 n5 n6 n7 n8 m0 m1 m2 m3 m4 m5 m6 m7 m8 f0 f1 f2 f3 f4 f5 f6 f7 f8
  obtain ⟨r0,r1,r2,r3,r4,r5,r6,r7,r8,_⟩:=HY.out.cells
  refine bodyPost_ret (v:=.tuple #[.agg (itA 0 ⟨#[]⟩ (p:Int)),.bool false]) (by simp [results,Tryz.results120,go_sem,itA,r0,r1,r2,r3,r4,r5,r6,r7,r8]) rfl ?_
  rw [HPP.out]
  exact ⟨rfl,HR.out.but HB0.out (by decide) (by decide) hbA HB.out,HT.out.but (by have:=HAW.out;omega) hbA h.out.size HB.out⟩
end
section
open Go.RowKit Lx
abbrev It3:=Int × ByteArray × Int
def itemG (ts:List Tok) (σ:RS):Option (Int × ByteArray × Int × Bool × RS) :=
  if isS ts [111,117,116] σ = true then some (8,str (nameV ts (stepS σ)),((tokL ts σ.at_).at_:Int),decide ((wantS ts [59] (nameS ts (stepS σ))).code = 0),wantS ts [59] (nameS ts (stepS σ)))
  else if itemWords.all (fun s=>!isS ts s σ) = true then some (0,⟨#[]⟩,((tokL ts σ.at_).at_:Int),false,σ) else none
def itemsL (ts:List Tok):Nat→List It3→RS→Option (List It3 × RS)
  | 0,_,_=>none
  | f+1,acc,σ=>if acc.length≤1000 then (if σ.code = 0 then (itemG ts σ).bind fun r=>if r.2.2.2.1 = true then itemsL ts f (acc ++ [(r.1,r.2.1,r.2.2.1)]) r.2.2.2.2 else some (acc,r.2.2.2.2) else some (acc,σ)) else none
def it3C (l:List It3):List Value:=l.flatMap fun x=>(itA x.1 x.2.1 x.2.2).toList
theorem it3C_snoc (l:List It3) (x:It3):it3C (l ++ [x]) = it3C l ++ (itA x.1 x.2.1 x.2.2).toList:=by unfold it3C;rw [List.flatMap_append];simp
theorem item_any (b g cap:Nat) (dv:Value) (ts:List Tok) (xb:Nat→Prop) (σ:RS) (k:Int) (nm:ByteArray) (p:Int) (ok:Bool) (τ:RS) (hr:itemG ts σ = some (k,nm,p,ok,τ)) (W:World) (h:Hid (Rd W b g cap dv ts xb σ)) :
    Calls Tryz.prog 120 #[.pointer (some ⟨b,0,none⟩),.bool true] W fun r Y=>ItRet b g cap dv ts xb W k nm p ok τ r Y:=by
  unfold itemG at hr
  split at hr
  · rename_i ho
    cases hr
    exact item_out b g cap dv ts xb σ ho W h
  · split at hr
    · rename_i _ hn
      cases hr
      exact item_none b g cap dv ts xb _ (fun s hs=>by have:=List.all_eq_true.1 hn s hs;simpa using this) W h
    · cases hr
theorem it_info:(Tryz.prog.info? 62).map (fun i=>(i.zero,i.size,i.bytes)) = some (some (.agg #[.int .i64 0,.string ⟨#[]⟩,.int .i64 0,.int .i64 0,.int .i64 0,.slice none 0 0,.string ⟨#[]⟩,.string ⟨#[]⟩,.int .i64 0]),9,112):=by kernel_rfl
theorem wpList_it (w:World) {ops:Array Oper} {rest:List Oper} {o:Oper} {a:Act} {Q:Exit→Act→World→Prop}
    (hg:o.guard = none) (s x:Operand) (hop:o.op = Op.call { callee:=Callee.builtin Builtin.append,args:=#[s,x],argTypes:=#[42,42] })
    (base:Nat) (v:Value) (k:Nat) (xs:List Value) (hs:a.eval s = v) (hown:w.ownsRow base 62 9 v k xs) (ad:Addr) (news:List Value) (hx:a.eval x = .slice (some ad) 1 1) (hn:news.length = 1*9)
    (hc:∀ j u,news[j]? = some u→w.cell? (ad.add j) = some u) (h1c:∀ u∈news,u.oneCell' = true) (hk:k≤1000) (b3:base≤w.heap.size)
    (hK:∀ g cap w',w'.ownsRow base 62 9 (.slice (some ⟨g,0,none⟩) (k+1) cap) (k+1) (xs ++ news)→w.grownBy w' v.ownBlock→(v.ownBlock = some g∨g = w.heap.size)→g < w'.heap.size→wpList Tryz.prog ops Q rest (a.put o.dst (.slice (some ⟨g,0,none⟩) (k+1) cap)) w') :
    wpList Tryz.prog ops Q (o :: rest) a w:=by
  obtain ⟨i,h2,h3,h4,h5⟩:=info_parts it_info
  exact wpList_append_lies (w:=w) hg s x 42 hop base 62 i _ 9 112 Tryz.underlying42 h2 h3 h4 h5 rfl (by decide) v k xs hs hown ad 1 1 news hx hn hc h1c (by decide) (by unfold maxLen;omega) (by omega) b3 w.heap.size rfl hK
theorem nine_at (W:World) (B:Nat) (hB:B = W.heap.size) (x0 x1 x2 x3 x4 x5 x6 x7 x8:Value) (T:TypeId) (j:Nat) (u:Value) (h : [x0,x1,x2,x3,x4,x5,x6,x7,x8][j]? = some u):(W.alloc (.cells #[x0,x1,x2,x3,x4,x5,x6,x7,x8] T)).cell? ((⟨B,0,none⟩:Addr).add j) = some u:=by
  subst hB;exact nine_cells W _ _ _ _ _ _ _ _ _ T j u h
theorem own_keepT {W Y:World} {b:Nat} {T:TypeId} {s:Nat} {v:Value} {n:Nat} {xs:List Value} {B:Nat} (h:W.ownsRow B T s v n xs) (hT:T≠59) (hB:b < B) (hk:RK b W Y):Y.ownsRow B T s v n xs:=by
  refine ⟨h.1,?_⟩
  rcases h.2 with hn | ⟨g,cap,cur,rfl,hb,hgg,rest⟩
  · exact .inl hn
  · exact .inr ⟨g,cap,cur,rfl,hb,hk.keep g _ hgg (by omega) (.of hT),rest⟩
theorem but_grown {W Y:World} {k:Nat} (h:W.grownBy Y (some k)):But k W Y:=⟨h.os,h.tape,h.output,h.size,fun j hj hl=>h.block j hl (by simpa using hj)⟩
theorem below_grown {W Y:World} (h:W.grownBy Y none):Below W.heap.size W Y:=⟨h.os,h.tape,h.output,h.size,fun j hj=>h.block j hj (by simp)⟩
theorem Rd.grownT {W Y:World} {b g cap:Nat} {dv:Value} {ts:List Tok} {xb:Nat→Prop} {σ:RS} (h:Rd W b g cap dv ts xb σ) {B:Nat} {T:TypeId} {s:Nat} {v:Value} {n:Nat} {xs:List Value} (ho:W.ownsRow B T s v n xs) (hB:b < B) (h1:T≠59) (h2:T≠3) (hg:W.grownBy Y v.ownBlock):Rd Y b g cap dv ts xb σ:=by
  cases hk:v.ownBlock with
  | none=>rw [hk] at hg;exact h.below (below_grown hg)
  | some k =>
    rw [hk] at hg
    obtain ⟨hb,cs,hc⟩:=own_type ho hk
    exact h.but hc h1 h2 (by omega) (but_grown hg)
theorem RK.grownT {b:Nat} {W V Y:World} (h:RK b W V) (hbs:b < W.heap.size) {T:TypeId} {s:Nat} {v:Value} {n:Nat} {xs:List Value} (ho:V.ownsRow W.heap.size T s v n xs) (hg:V.grownBy Y v.ownBlock):RK b W Y:=by
  cases hk:v.ownBlock with
  | none=>rw [hk] at hg;exact h.trans (RK.of_below (below_grown hg) (by have:=h.size;omega))
  | some k =>
    rw [hk] at hg
    obtain ⟨hb,_⟩:=own_type ho hk
    exact h.but hb (by omega) hbs (but_grown hg)
structure ItSt (W Y:World) (b g cap:Nat) (dv:Value) (ts:List Tok) (xb:Nat→Prop) (σ:RS) (acc:List It3) (v:Value):Prop where
  rd:Rd Y b g cap dv ts xb σ
  rk:RK b W Y
  own:Y.ownsRow W.heap.size 62 9 v acc.length (it3C acc)
def ItI (W:World) (b g cap:Nat) (dv:Value) (ts:List Tok) (xb:Nat→Prop) (f:Nat) (R:List It3 × RS) (n:Nat) (x:Value × World):Prop :=
  ∃ (acc:List It3) (τ:RS),n≤f∧itemsL ts n acc τ = some R∧ItSt W x.2 b g cap dv ts xb τ acc x.1
theorem itemsL_cases {ts:List Tok} {n:Nat} {acc:List It3} {τ:RS} {R:List It3 × RS} (h:itemsL ts n acc τ = some R):∃ k,n = k+1∧acc.length≤1000 ∧
    ((τ.code = 0∧∃ kk nm p τ',itemG ts τ = some (kk,nm,p,true,τ')∧itemsL ts k (acc ++ [(kk,nm,p)]) τ' = some R)∨(τ.code = 0∧∃ kk nm p τ',itemG ts τ = some (kk,nm,p,false,τ')∧R = (acc,τ'))∨(τ.code≠0∧R = (acc,τ))):=by
  cases n with
  | zero=>cases h
  | succ k =>
    simp only [itemsL] at h
    split at h
    · rename_i hl
      refine ⟨k,rfl,hl,?_⟩
      split at h
      · rename_i hc
        cases hg:itemG ts τ with
        | none=>rw [hg] at h;cases h
        | some r =>
          obtain ⟨kk,nm,p,ok,τ'⟩:=r
          rw [hg] at h
          simp only [Option.bind_some] at h
          cases ok with
          | true=>exact .inl ⟨hc,kk,nm,p,τ',rfl,by simpa using h⟩
          | false=>exact .inr (.inl ⟨hc,kk,nm,p,τ',rfl,by simpa using h.symm⟩)
      · rename_i hc
        exact .inr (.inr ⟨hc,by simpa using h.symm⟩)
    · cases h
def ItsRet (b g cap:Nat) (dv:Value) (ts:List Tok) (xb:Nat→Prop) (W:World) (l:List It3) (σ:RS) (r:Ending) (Y:World):Prop :=
  ∃ v,r = .returned v∧ItSt W Y b g cap dv ts xb σ l v
set_option maxHeartbeats 8000000 in
set_option maxRecDepth 100000 in
theorem items_any (b g cap:Nat) (dv:Value) (ts:List Tok) (xb:Nat→Prop) (σ:RS) (f:Nat) (R:List It3 × RS) (hr:Hid (itemsL ts f [] σ = some R)) (W:World) (h:Hid (Rd W b g cap dv ts xb σ)) :
    Calls Tryz.prog 84 #[.pointer (some ⟨b,0,none⟩),.bool true] W fun r Y=>ItsRet b g cap dv ts xb W R.1 R.2 r Y:=by
  obtain ⟨m,hm⟩:=least_of (ItI W b g cap dv ts xb f R)
  have HM:=hid hm
  have hbs:=h.out.size
  have HST:Hid (ItSt W W b g cap dv ts xb σ [] (.slice none 0 0)):=hid ⟨h.out,RK.refl _ _,World.ownsRow_nil _ _ _ _⟩
  clear hm
  go_enter Tryz.func84,Tryz.ntmps84
  go_wp2_with fail
  go_loopw [5] (fun v wr=>∃ o nn c,v = .slice o nn c∧Hid (∃ n,ItI W b g cap dv ts xb f R n (v,wr))) (fun v wr=>m (v,wr))
  case atStart=>exact ⟨_,_,_,rfl,hid ⟨f,[],σ,Nat.le_refl _,hr.out,HST.out⟩⟩
  case round =>
    obtain ⟨ov,nv,cv,rfl,hI⟩:=hrel
    obtain ⟨hm1,hm2⟩:=HM.out _ hI.out
    obtain ⟨acc,τ,hnf,hrun,hst⟩:=hm1
    obtain ⟨nn,hmn⟩:∃ nn,nn = m (.slice ov nv cv,wr):=⟨_,rfl⟩
    rw [← hmn] at hnf hrun
    obtain ⟨k,rfl,hacc,hcase⟩:=itemsL_cases hrun
    have HST':=hid hst
    have HMN:=hid hmn
    have HNV:Hid (nv = acc.length):=hid (by obtain ⟨o',c',e⟩:=own_form hst.own;injection e)
    have hnv:nv≤1000:=by have:=HNV.out;omega
    have HRr:=hid hst.rd
    have HKF:=hid hnf
    clear hrun hmn hm2 hI hst hacc hnf
    obtain ⟨o,c,⟨c0,c1,c3,c4,c5,c6,fr⟩,hx⟩:=HRr.out.cells
    have ht:=HRr.out.tok
    have hgb:g≠b:=by have:=HRr.out.lt;omega
    have hl:=HRr.out.at_
    have hn:=HRr.out.len
    obtain ⟨t0,t1,t2,t3⟩:=ht
    obtain ⟨n,hnn⟩:∃ n,n = ts.length:=⟨_,rfl⟩
    obtain ⟨a,haa⟩:∃ a,a = τ.at_:=⟨_,rfl⟩
    obtain ⟨cd,hcd⟩:∃ cd,cd = τ.code:=⟨_,rfl⟩
    obtain ⟨ps,hps⟩:∃ ps,ps = τ.pos:=⟨_,rfl⟩
    obtain ⟨dp,hdp⟩:∃ dp,dp = τ.deep:=⟨_,rfl⟩
    obtain ⟨kd,hkd⟩:∃ kd,kd = (tokL ts τ.at_).kind:=⟨_,rfl⟩
    obtain ⟨tx,htx⟩:∃ tx,tx = (tokL ts τ.at_).text:=⟨_,rfl⟩
    obtain ⟨tv,htv⟩:∃ tv,tv = (tokL ts τ.at_).v:=⟨_,rfl⟩
    obtain ⟨p,hp⟩:∃ p,p = (tokL ts τ.at_).at_:=⟨_,rfl⟩
    rw [← hnn] at c0 hl hn
    rw [← hkd] at t0
    rw [← htx] at t1
    rw [← htv] at t2
    rw [← hp] at t3
    rw [← haa] at c1 t0 t1 t2 t3 hl
    rw [← hcd] at c5
    rw [← hdp] at c4
    rw [← hps] at c6
    have k0:((a:Nat):Int) < (n:Int):=by omega
    have f1:=fr 1
    have f4:=fr 4
    have f5:=fr 5
    have f6:=fr 6
    have HCD:=hid hcd
    have HPS:=hid hps
    have HDP:=hid hdp
    have HKD:=hid hkd
    have HTX:=hid htx
    have HTV:=hid htv
    have HP:=hid hp
    have HAA:=hid haa
    have HNN:=hid hnn
    clear fr hx hnn haa hcd hps hdp hkd htx htv hp c3
    rcases hcase with ⟨hc,kk,nm,p',τ',hg1,hg2⟩ | ⟨hc,kk,nm,p',τ',hg1,hg2⟩ | ⟨hc,hg1⟩
    · have C:Hid (Calls Tryz.prog 120 #[.pointer (some ⟨b,0,none⟩),.bool true] wr fun r Y=>RdRet b g cap dv ts xb wr (.tuple #[.agg #[.int .i64 kk,.string nm,.int .i64 0,.int .i64 0,.int .i64 0,.slice none 0 0,.string ⟨#[]⟩,.string ⟨#[]⟩,.int .i64 p'],.bool true]) τ' r Y):=hid (item_any b g cap dv ts xb τ kk nm p' true τ' hg1 wr HRr)
      have HG2:=hid hg2
      have q1:(cd == 0) = true:=by rw [HCD.out,hc];rfl
      clear hg1 hg2 hc
      go_wp2_with (first
        | (go_at_call 120;(with_reducible refine C.out.mono ?_);rintro e w1 ⟨rfl,hr1,hk1⟩;have HR1:=hid hr1;have HK1:=hid hk1;clear hr1 hk1;have HO1:=hid (own_keepT HST'.out.own (by decide) (by omega) HK1.out);have ws1:=HK1.out.size)
        | (at_builtin;refine wpList_it _ rfl _ _ rfl W.heap.size (.slice ov nv cv) nv (it3C acc) rfl (by have:=HO1.out;rw [← HNV.out] at this;exact (this.alloc _).alloc _) ⟨w1.heap.size+1,0,none⟩ [.int .i64 kk,.string nm,.int .i64 0,.int .i64 0,.int .i64 0,.slice none 0 0,.string ⟨#[]⟩,.string ⟨#[]⟩,.int .i64 p'] rfl rfl (nine_at (w1.alloc _) _ (by simp) _ _ _ _ _ _ _ _ _ _) (by simp [Value.oneCell']) (by omega) (by have:=HST'.out.rk.size;simp;omega) ?_;intro gb cb wb hob hgb' hlb hltb;have HOb:=hid hob;have HGb:=hid hgb';clear hob hgb' hlb hltb))
      have HO9:=(HO1.out.alloc (.cells #[.int .i64 kk,.string nm,.int .i64 0,.int .i64 0,.int .i64 0,.slice none 0 0,.string ⟨#[]⟩,.string ⟨#[]⟩,.int .i64 p'] 62)).alloc (.cells #[.int .i64 kk,.string nm,.int .i64 0,.int .i64 0,.int .i64 0,.slice none 0 0,.string ⟨#[]⟩,.string ⟨#[]⟩,.int .i64 p'] 62)
      have HK9:=HST'.out.rk.trans (HK1.out.trans (RK.of_below (((Below.refl _ _).alloc (Nat.le_refl _) (.cells #[.int .i64 kk,.string nm,.int .i64 0,.int .i64 0,.int .i64 0,.slice none 0 0,.string ⟨#[]⟩,.string ⟨#[]⟩,.int .i64 p'] 62)).alloc (by simp) (.cells #[.int .i64 kk,.string nm,.int .i64 0,.int .i64 0,.int .i64 0,.slice none 0 0,.string ⟨#[]⟩,.string ⟨#[]⟩,.int .i64 p'] 62)) (Nat.le_of_lt HR1.out.size)))
      have HI:ItI W b g cap dv ts xb f R k (.slice (some ⟨gb,0,none⟩) (nv+1) cb,wb):=⟨acc ++ [(kk,nm,p')],τ',by have:=HKF.out;omega,HG2.out,⟨((HR1.out.alloc _).alloc _).grownT HO9 hbs (by decide) (by decide) HGb.out,HK9.grownT hbs HO9 HGb.out,by
        have h6:=HOb.out
        have h7:=HNV.out
        rw [it3C_snoc,List.length_append,List.length_singleton,← h7]
        exact h6⟩⟩
      exact ⟨⟨_,_,_,rfl,hid ⟨k,HI⟩⟩,by have h5:=(HM.out _ ⟨k,HI⟩).2 k HI;have h6:=HMN.out;omega⟩
    · have C:Hid (Calls Tryz.prog 120 #[.pointer (some ⟨b,0,none⟩),.bool true] wr fun r Y=>RdRet b g cap dv ts xb wr (.tuple #[.agg #[.int .i64 kk,.string nm,.int .i64 0,.int .i64 0,.int .i64 0,.slice none 0 0,.string ⟨#[]⟩,.string ⟨#[]⟩,.int .i64 p'],.bool false]) τ' r Y):=hid (item_any b g cap dv ts xb τ kk nm p' false τ' hg1 wr HRr)
      have HG2:=hid hg2
      have q1:(cd == 0) = true:=by rw [HCD.out,hc];rfl
      clear hg1 hg2 hc
      go_wp2_with (go_at_call 120;(with_reducible refine C.out.mono ?_);rintro e w1 ⟨rfl,hr1,hk1⟩;have HR1:=hid hr1;have HK1:=hid hk1;clear hr1 hk1;have HO1:=hid (own_keepT HST'.out.own (by decide) (by omega) HK1.out))
      go_ret
      rw [HG2.out]
      exact ⟨_,rfl,HR1.out.alloc _,HST'.out.rk.trans (HK1.out.trans (RK.of_below ((Below.refl _ _).alloc (Nat.le_refl _) _) (Nat.le_of_lt HR1.out.size))),by have h9:=HO1.out.alloc (.cells #[.int .i64 kk,.string nm,.int .i64 0,.int .i64 0,.int .i64 0,.slice none 0 0,.string ⟨#[]⟩,.string ⟨#[]⟩,.int .i64 p'] 62);exact h9⟩
    · have q1:(cd == 0) = false:=by rw [HCD.out];exact beq_false_of_ne hc
      have HG2:=hid hg1
      clear hg1 hc
      go_wp2_with fail
      go_ret
      rw [HG2.out]
      exact ⟨_,rfl,HST'.out.rd,HST'.out.rk,HST'.out.own⟩
end
section
open Go.RowKit Lx
def declG (ts:List Tok) (f:Nat) (σ:RS):Option (ByteArray × List It3 × Int × RS) :=
  if isS ts [102,117,110] σ = true∨isS ts [110,111,100,101] σ = true then none else
  if isS ts [41] (wantS ts [40] (nameS ts (wantS ts [104,121,98,114,105,100] σ))) = true then
    (itemsL ts f [] (wantS ts [123] (stepS (wantS ts [40] (nameS ts (wantS ts [104,121,98,114,105,100] σ)))))).bind fun r =>
      some (str (nameV ts (wantS ts [104,121,98,114,105,100] σ)),r.1,((tokL ts σ.at_).at_:Int),wantS ts [125] r.2)
  else none
def deA (k:Int) (nm:ByteArray) (v:Value) (p:Int):Array Value:=#[.int .i64 k,.string nm,.slice none 0 0,v,.int .i64 0,.int .i64 0,.int .i64 p]
def DeB (W:World) (A:Nat) (k:Int) (nm:ByteArray) (v:Value) (p:Int):Prop:=W.heap[A]? = some (.cells (deA k nm v p) 44 (0,0))
theorem DeB.keep {b:Nat} {W Y:World} {A:Nat} {k:Int} {nm:ByteArray} {v:Value} {p:Int} (h:DeB W A k nm v p) (hk:RK b W Y) (hb:b≠A):DeB Y A k nm v p:=hk.keep A _ h (Ne.symm hb) (.of (by decide))
structure DeCells (W:World) (A:Nat) (k:Int) (nm:ByteArray) (v:Value) (p:Int):Prop where
  c0:W.cell? ⟨A,0,none⟩ = some (.int .i64 k)
  c1:W.cell? ⟨A,1,none⟩ = some (.string nm)
  c2:W.cell? ⟨A,2,none⟩ = some (.slice none 0 0)
  c3:W.cell? ⟨A,3,none⟩ = some v
  c4:W.cell? ⟨A,4,none⟩ = some (.int .i64 0)
  c5:W.cell? ⟨A,5,none⟩ = some (.int .i64 0)
  c6:W.cell? ⟨A,6,none⟩ = some (.int .i64 p)
  fr:∀ i,W.frozen? ⟨A,i,none⟩ = false
theorem DeB.cells {W:World} {A:Nat} {k:Int} {nm:ByteArray} {v:Value} {p:Int} (h:DeB W A k nm v p):DeCells W A k nm v p:=by
  unfold DeB deA at h
  exact ⟨by simp [World.cell?,h],by simp [World.cell?,h],by simp [World.cell?,h],by simp [World.cell?,h],by simp [World.cell?,h],by simp [World.cell?,h],by simp [World.cell?,h],fun i=>by simp [World.frozen?,h]⟩
theorem DeB.set {W:World} {A:Nat} {k:Int} {nm:ByteArray} {v:Value} {p:Int} (h:DeB W A k nm v p) {i:Nat} {u:Value} {k' : Int} {nm' : ByteArray} {v' : Value} {p' : Int} (he:(deA k nm v p).setIfInBounds i u = deA k' nm' v' p'):DeB (W.setCell ⟨A,i,none⟩ u) A k' nm' v' p':=by
  unfold DeB at h ⊢
  rw [set_blk h,he]
theorem DeB.other {W:World} {A:Nat} {k:Int} {nm:ByteArray} {v:Value} {p:Int} (h:DeB W A k nm v p) {A' : Nat} (hn:A≠A') (i:Nat) (u:Value):DeB (W.setCell ⟨A',i,none⟩ u) A k nm v p:=(Below.heap_setCell W ⟨A',i,none⟩ u A (by simpa using hn)).trans h
theorem de_copy {W:World} {A:Nat} {k0:Int} {n0:ByteArray} {v0:Value} {p0:Int} (h:DeB W A k0 n0 v0 p0) (k:Int) (nm:ByteArray) (v:Value) (p:Int) :
    DeB (((((((W.setCell ⟨A,0,none⟩ (.int .i64 k)).setCell ⟨A,1,none⟩ (.string nm)).setCell ⟨A,2,none⟩ (.slice none 0 0)).setCell ⟨A,3,none⟩ v).setCell ⟨A,4,none⟩ (.int .i64 0)).setCell ⟨A,5,none⟩ (.int .i64 0)).setCell ⟨A,6,none⟩ (.int .i64 p)) A k nm v p:=by
  unfold DeB at h ⊢
  have h1:=set_blk h 0 (.int .i64 k)
  have h2:=set_blk h1 1 (.string nm)
  have h3:=set_blk h2 2 (.slice none 0 0)
  have h4:=set_blk h3 3 v
  have h5:=set_blk h4 4 (.int .i64 0)
  have h6:=set_blk h5 5 (.int .i64 0)
  have h7:=set_blk h6 6 (.int .i64 p)
  rw [h7]
  simp [deA]
def DeRet (b g cap:Nat) (dv:Value) (ts:List Tok) (xb:Nat→Prop) (W:World) (nm:ByteArray) (l:List It3) (p:Int) (σ:RS) (r:Ending) (Y:World):Prop :=
  ∃ o c,r = .returned (.agg #[.int .i64 3,.string nm,.slice none 0 0,.slice o l.length c,.int .i64 0,.int .i64 0,.int .i64 p])∧ItSt W Y b g cap dv ts xb σ l (.slice o l.length c)
set_option maxHeartbeats 8000000 in
set_option maxRecDepth 100000 in
theorem decl_core (b g cap:Nat) (dv:Value) (ts:List Tok) (xb:Nat→Prop) (σ x y z u τ:RS) (f:Nat) (nv:List UInt8) (R:List It3 × RS) (hf:isS ts [102,117,110] σ = false) (hn' : isS ts [110,111,100,101] σ = false) (hx:x = wantS ts [104,121,98,114,105,100] σ) (hv:nv = nameV ts x) (hy:y = nameS ts x)
    (hpar:isS ts [41] (wantS ts [40] y) = true) (hz:z = stepS (wantS ts [40] y)) (hu:u = wantS ts [123] z) (hi:itemsL ts f [] u = some R) (hτ:τ = wantS ts [125] R.2) (W:World) (h:Hid (Rd W b g cap dv ts xb σ)) :
    Calls Tryz.prog 50 #[.pointer (some ⟨b,0,none⟩)] W fun r Y=>DeRet b g cap dv ts xb W (str nv) R.1 ((tokL ts σ.at_).at_:Int) τ r Y:=by
  have TF:Hid (∀ W,Hid (Rd W b g cap dv ts xb σ)→Calls Tryz.prog 77 #[.pointer (some ⟨b,0,none⟩),.string ⟨#[102,117,110]⟩] W fun r Y=>RdRet b g cap dv ts xb W (.bool false) σ r Y):=hid fun W h=>took_false [102,117,110] hf W h
  have TN:Hid (∀ W,Hid (Rd W b g cap dv ts xb σ)→Calls Tryz.prog 77 #[.pointer (some ⟨b,0,none⟩),.string ⟨#[110,111,100,101]⟩] W fun r Y=>RdRet b g cap dv ts xb W (.bool false) σ r Y):=hid fun W h=>took_false [110,111,100,101] hn' W h
  have WH:Hid (∀ W,Hid (Rd W b g cap dv ts xb σ)→Calls Tryz.prog 78 #[.pointer (some ⟨b,0,none⟩),.string ⟨#[104,121,98,114,105,100]⟩] W fun r Y=>RdRet b g cap dv ts xb W (.tuple #[]) x r Y):=hid fun W h=>by rw [hx];exact want_any b g cap dv ts xb σ [104,121,98,114,105,100] W h
  have NM:Hid (∀ W,Hid (Rd W b g cap dv ts xb x)→Calls Tryz.prog 82 #[.pointer (some ⟨b,0,none⟩)] W fun r Y=>RdRet b g cap dv ts xb W (.string (str nv)) y r Y):=hid fun W h=>by rw [hv,hy];exact name_any b g cap dv ts xb x W h
  have PA:Hid (∀ W,Hid (Rd W b g cap dv ts xb y)→Calls Tryz.prog 83 #[.pointer (some ⟨b,0,none⟩)] W fun r Y=>RdRet b g cap dv ts xb W (.slice none 0 0) z r Y):=hid fun W h=>by rw [hz];exact params_none b g cap dv ts xb y hpar W h
  have WB:Hid (∀ W,Hid (Rd W b g cap dv ts xb z)→Calls Tryz.prog 78 #[.pointer (some ⟨b,0,none⟩),.string ⟨#[123]⟩] W fun r Y=>RdRet b g cap dv ts xb W (.tuple #[]) u r Y):=hid fun W h=>by rw [hu];exact want_any b g cap dv ts xb z [123] W h
  have IT:Hid (∀ W,Hid (Rd W b g cap dv ts xb u)→Calls Tryz.prog 84 #[.pointer (some ⟨b,0,none⟩),.bool true] W fun r Y=>ItsRet b g cap dv ts xb W R.1 R.2 r Y):=hid fun W h=>items_any b g cap dv ts xb u f R (hid hi) W h
  have WE:Hid (∀ W,Hid (Rd W b g cap dv ts xb R.2)→Calls Tryz.prog 78 #[.pointer (some ⟨b,0,none⟩),.string ⟨#[125]⟩] W fun r Y=>RdRet b g cap dv ts xb W (.tuple #[]) τ r Y):=hid fun W h=>by rw [hτ];exact want_any b g cap dv ts xb R.2 [125] W h
  obtain ⟨ps0,hps0⟩:∃ ps0,ps0 = (tokL ts σ.at_).at_:=⟨_,rfl⟩
  rw [← hps0]
  have HPS0:=hid hps0
  clear hf hn' hx hv hy hpar hz hu hi hτ hps0
  obtain ⟨R1,R2⟩:=R
  dsimp only at IT WE ⊢
  obtain ⟨o,c,⟨c0,c1,c3,c4,c5,c6,fr⟩,hx⟩:=h.out.cells
  have ht:=h.out.tok
  have hgb:g≠b:=by have:=h.out.lt;omega
  have hl:=h.out.at_
  have hn:=h.out.len
  obtain ⟨t0,t1,t2,t3⟩:=ht
  obtain ⟨n,hnn⟩:∃ n,n = ts.length:=⟨_,rfl⟩
  obtain ⟨a,haa⟩:∃ a,a = σ.at_:=⟨_,rfl⟩
  obtain ⟨cd,hcd⟩:∃ cd,cd = σ.code:=⟨_,rfl⟩
  obtain ⟨ps,hps⟩:∃ ps,ps = σ.pos:=⟨_,rfl⟩
  obtain ⟨dp,hdp⟩:∃ dp,dp = σ.deep:=⟨_,rfl⟩
  obtain ⟨kd,hkd⟩:∃ kd,kd = (tokL ts σ.at_).kind:=⟨_,rfl⟩
  obtain ⟨tx,htx⟩:∃ tx,tx = (tokL ts σ.at_).text:=⟨_,rfl⟩
  obtain ⟨tv,htv⟩:∃ tv,tv = (tokL ts σ.at_).v:=⟨_,rfl⟩
  obtain ⟨p,hp⟩:∃ p,p = (tokL ts σ.at_).at_:=⟨_,rfl⟩
  rw [← hnn] at c0 hl hn
  rw [← hkd] at t0
  rw [← htx] at t1
  rw [← htv] at t2
  rw [← hp] at t3
  rw [← haa] at c1 t0 t1 t2 t3 hl
  rw [← hcd] at c5
  rw [← hdp] at c4
  rw [← hps] at c6
  have k0:((a:Nat):Int) < (n:Int):=by omega
  have f1:=fr 1
  have f4:=fr 4
  have f5:=fr 5
  have f6:=fr 6
  have HCD:=hid hcd
  have HPS:=hid hps
  have HDP:=hid hdp
  have HKD:=hid hkd
  have HTX:=hid htx
  have HTV:=hid htv
  have HP:=hid hp
  have HAA:=hid haa
  have HNN:=hid hnn
  clear fr hx hnn haa hcd hps hdp hkd htx htv hp c3
  have hbs:b < W.heap.size:=h.out.size
  go_enter Tryz.func50,Tryz.ntmps50
  go_wp2_with fail
  go_region_held3 (fun w'=>w'.cell? ⟨b,0,none⟩ = some (.slice (some ⟨g,0,none⟩) n cap)∧w'.cell? ⟨b,1,none⟩ = some (.int .i64 (a:Int))∧w'.cell? ⟨g,a*4+3,none⟩ = some (.int .i64 (p:Int)))
    ((repeat' apply And.intro) <;> first | assumption | exact cell_set2 (by assumption) (by omega) | go_keep)
    (fail)
  obtain ⟨A,hA⟩:∃ A,A = W.heap.size:=⟨_,rfl⟩
  obtain ⟨V,hV⟩:∃ V,V = ((W.alloc (.cells #[.int .i64 0,.string ⟨#[]⟩,.slice none 0 0,.slice none 0 0,.int .i64 0,.int .i64 0,.int .i64 0] 44)).alloc (.cells #[.int .i64 0,.string ⟨#[]⟩,.slice none 0 0,.slice none 0 0,.int .i64 0,.int .i64 0,.int .i64 (p:Int)] 44)).drew:=⟨_,rfl⟩
  have hbV:Below W.heap.size W V:=by rw [hV];exact (((Below.refl _ _).alloc (Nat.le_refl _) _).alloc (by simp) _).drew
  have HB0:Hid (DeB V A 0 ⟨#[]⟩ (.slice none 0 0) 0):=hid (by
    unfold DeB
    rw [hV,hA]
    exact (heap_alloc_old _ _ (by simp)).trans (heap_alloc_new W _))
  have HB1:Hid (DeB V (A+1) 0 ⟨#[]⟩ (.slice none 0 0) (p:Int)):=hid (by
    unfold DeB
    have:=heap_alloc_new (W.alloc (.cells (deA 0 ⟨#[]⟩ (.slice none 0 0) 0) 44)) (.cells (deA 0 ⟨#[]⟩ (.slice none 0 0) p) 44)
    rw [World.size_alloc,← hA] at this
    rw [hV];exact this)
  have HR:Hid (Rd V b g cap dv ts xb σ):=hid (h.out.below hbV)
  have HT:Hid (RK b W V):=hid (RK.of_below hbV (Nat.le_of_lt hbs))
  rw [← hV,← hA]
  have HAW:=hid hA
  have hbA:b < A:=by omega
  have HPP:Hid (ps0 = p):=hid (by rw [HPS0.out,HP.out])
  clear hV hA hbV hgb hn hl k0 t0 t1 t2 t3 c0 c1 c4 c5 c6 f1 f4 f5 f6 HCD HPS HDP HKD HTX HTV HAA HNN HP HPS0
  go_wp2_with (first
    | (go_at_call 77;(with_reducible refine Calls.mono (TF.out V HR) ?_);(rintro e w1 ⟨rfl,hr,hk⟩);have HR1:=hid hr;have HC0:=hid (HB0.out.keep hk (by omega));have HC1:=hid (HB1.out.keep hk (by omega));have HT1:=hid (HT.out.trans hk);clear hr hk)
    | (go_at_call 77;(with_reducible refine Calls.mono (TN.out w1 HR1) ?_);(rintro e w2 ⟨rfl,hr,hk⟩);have HR2:=hid hr;have HD0:=hid (HC0.out.keep hk (by omega));have HD1:=hid (HC1.out.keep hk (by omega));have HT2:=hid (HT1.out.trans hk);clear hr hk;obtain ⟨x0,_,_,_,_,_,_,xf⟩:=HD1.out.cells;have x1:=xf 0;clear xf))
  obtain ⟨w3,hw3⟩:∃ w3,w3 = w2.setCell ⟨A+1,0,none⟩ (.int .i64 3):=⟨_,rfl⟩
  have HR3:Hid (Rd w3 b g cap dv ts xb σ):=hid (by rw [hw3];exact HR2.out.setBox HD1.out (by decide) (by decide) (by omega) _ _)
  have HE0:Hid (DeB w3 A 0 ⟨#[]⟩ (.slice none 0 0) 0):=hid (by rw [hw3];exact HD0.out.other (by omega) _ _)
  have HE1:Hid (DeB w3 (A+1) 3 ⟨#[]⟩ (.slice none 0 0) (p:Int)):=hid (by rw [hw3];exact HD1.out.set rfl)
  have HT3:Hid (RK b W w3):=hid (by rw [hw3];exact HT2.out.setNew (by have:=HAW.out;omega) (by omega) _ _)
  rw [← hw3]
  clear hw3 x0 x1 HR2 HC0 HC1 HT1 HT2 HR1 HB0 HB1 HD0 HD1 HT HR
  refine (WH.out w3 HR3).mono ?_
  rintro e w4 ⟨rfl,hr,hk⟩
  dsimp only
  have HR4:=hid hr
  have HF0:=hid (HE0.out.keep hk (by omega))
  have HF1:=hid (HE1.out.keep hk (by omega))
  have HT4:=hid (HT3.out.trans hk)
  clear hr hk HR3 HE0 HE1 HT3
  go_wp2_with (go_at_call 82;(with_reducible refine Calls.mono (NM.out w4 HR4) ?_);(rintro e w5 ⟨rfl,hr,hk⟩);have HR5:=hid hr;have HG0:=hid (HF0.out.keep hk (by omega));have HG1:=hid (HF1.out.keep hk (by omega));have HT5:=hid (HT4.out.trans hk);clear hr hk;obtain ⟨_,x0,_,_,_,_,_,xf⟩:=HG1.out.cells;have x1:=xf 1;clear xf)
  obtain ⟨w6,hw6⟩:∃ w6,w6 = w5.setCell ⟨A+1,1,none⟩ (.string (str nv)):=⟨_,rfl⟩
  have HR6:Hid (Rd w6 b g cap dv ts xb y):=hid (by rw [hw6];exact HR5.out.setBox HG1.out (by decide) (by decide) (by omega) _ _)
  have HH0:Hid (DeB w6 A 0 ⟨#[]⟩ (.slice none 0 0) 0):=hid (by rw [hw6];exact HG0.out.other (by omega) _ _)
  have HH1:Hid (DeB w6 (A+1) 3 (str nv) (.slice none 0 0) (p:Int)):=hid (by rw [hw6];exact HG1.out.set rfl)
  have HT6:Hid (RK b W w6):=hid (by rw [hw6];exact HT5.out.setNew (by have:=HAW.out;omega) (by omega) _ _)
  rw [← hw6]
  clear hw6 x0 x1 HR5 HG0 HG1 HT5 HR4 HF0 HF1 HT4
  refine (PA.out w6 HR6).mono ?_
  rintro e w7 ⟨rfl,hr,hk⟩
  dsimp only
  have HI0:=hid (HH0.out.keep hk (by omega))
  have HI1:=hid (HH1.out.keep hk (by omega))
  have HT7:=hid (HT6.out.trans hk)
  have HR8:Hid (Rd (w7.setCell ⟨A+1,2,none⟩ (.slice none 0 0)) b g cap dv ts xb z):=hid (hr.setBox HI1.out (by decide) (by decide) (by omega) _ _)
  have HJ0:Hid (DeB (w7.setCell ⟨A+1,2,none⟩ (.slice none 0 0)) A 0 ⟨#[]⟩ (.slice none 0 0) 0):=hid (HI0.out.other (by omega) _ _)
  have HJ1:Hid (DeB (w7.setCell ⟨A+1,2,none⟩ (.slice none 0 0)) (A+1) 3 (str nv) (.slice none 0 0) (p:Int)):=hid (HI1.out.set rfl)
  have HT8:Hid (RK b W (w7.setCell ⟨A+1,2,none⟩ (.slice none 0 0))):=hid (HT7.out.setNew (by have:=HAW.out;omega) (by omega) _ _)
  obtain ⟨_,_,x0,_,_,_,_,xf⟩:=HI1.out.cells
  have x1:=xf 2
  obtain ⟨x2,_,_,_,_,_,_,_⟩:=HJ1.out.cells
  clear hr hk xf HR6 HH0 HH1 HT6
  go_wp2_with (first
    | (go_at_call 78;(with_reducible refine Calls.mono (WB.out _ HR8) ?_);(rintro e w9 ⟨rfl,hr,hk⟩);have HR9:=hid hr;have HK0:=hid (HJ0.out.keep hk (by omega));have HK1:=hid (HJ1.out.keep hk (by omega));have HT9:=hid (HT8.out.trans hk);clear hr hk)
    | (go_at_call 84;(with_reducible refine Calls.mono (IT.out w9 HR9) ?_);(rintro e w10 ⟨v,rfl,hr,hk,ho⟩);obtain ⟨vo,vc,rfl⟩:=own_form ho;have HR10:=hid hr;have HO10:=hid ho;have HL0:=hid (HK0.out.keep hk (by omega));have HL1:=hid (HK1.out.keep hk (by omega));have HT10:=hid (HT9.out.trans hk);clear hr hk ho;obtain ⟨_,_,_,y0,_,_,_,yf⟩:=HL1.out.cells;have y1:=yf 3;clear yf))
  obtain ⟨w11,hw11⟩:∃ w11,w11 = w10.setCell ⟨A+1,3,none⟩ (.slice vo R1.length vc):=⟨_,rfl⟩
  have HR11:Hid (Rd w11 b g cap dv ts xb R2):=hid (by rw [hw11];exact HR10.out.setBox HL1.out (by decide) (by decide) (by omega) _ _)
  have HM0:Hid (DeB w11 A 0 ⟨#[]⟩ (.slice none 0 0) 0):=hid (by rw [hw11];exact HL0.out.other (by omega) _ _)
  have HM1:Hid (DeB w11 (A+1) 3 (str nv) (.slice vo R1.length vc) (p:Int)):=hid (by rw [hw11];exact HL1.out.set rfl)
  have HT11:Hid (RK b W w11):=hid (by rw [hw11];exact HT10.out.setNew (by have:=HAW.out;omega) (by omega) _ _)
  have w9s:A+1 < w9.heap.size:=heap_lt HK1.out
  have HO11:Hid (w11.ownsRow w9.heap.size 62 9 (.slice vo R1.length vc) R1.length (it3C R1)):=hid (by rw [hw11];exact rd_own_same HO10.out fun k e=>Below.heap_setCell w10 ⟨A+1,3,none⟩ _ k (by have:=(HO10.out.lt k e).1;simp;omega))
  rw [← hw11]
  clear hw11 x0 x1 x2 y0 y1 HR10 HO10 HL0 HL1 HT10 HR9 HK0 HK1 HT9 HR8 HJ0 HJ1 HT8
  refine (WE.out w11 HR11).mono ?_
  rintro e w12 ⟨rfl,hr,hk⟩
  dsimp only
  have HR12:=hid hr
  have HN0:=hid (HM0.out.keep hk (by omega))
  have HN1:=hid (HM1.out.keep hk (by omega))
  have HT12:=hid (HT11.out.trans hk)
  have HO12:=hid (own_keepT HO11.out (by decide) (by omega) hk)
  clear hr hk HR11 HM0 HM1 HT11 HO11
  obtain ⟨m0,m1,m2,m3,m4,m5,m6,mf⟩:=HN1.out.cells
  obtain ⟨n0,n1,n2,n3,n4,n5,n6,nf⟩:=HN0.out.cells
  have f0:=nf 0
  have f1:=nf 1
  have f2:=nf 2
  have f3:=nf 3
  have f4:=nf 4
  have f5:=nf 5
  have f6:=nf 6
  clear nf mf
  go_wp2_with fail
  obtain ⟨Y,hY⟩:∃ Y,Y = (((((((w12.setCell ⟨A,0,none⟩ (.int .i64 3)).setCell ⟨A,1,none⟩ (.string (str nv))).setCell ⟨A,2,none⟩ (.slice none 0 0)).setCell ⟨A,3,none⟩ (.slice vo R1.length vc)).setCell ⟨A,4,none⟩ (.int .i64 0)).setCell ⟨A,5,none⟩ (.int .i64 0)).setCell ⟨A,6,none⟩ (.int .i64 (p:Int))):=⟨_,rfl⟩
  rw [← hY]
  have HB:=hid (show But A w12 Y by rw [hY];exact (((((((But.refl A w12).set 0 _).set 1 _).set 2 _).set 3 _).set 4 _).set 5 _).set 6 _)
  have HY:Hid (DeB Y A 3 (str nv) (.slice vo R1.length vc) (p:Int)):=hid (by rw [hY];exact de_copy HN0.out 3 (str nv) _ p)
  clear hY n0 n1 n2 n3 n4 n5 n6 m0 m1 m2 m3 m4 m5 m6 f0 f1 f2 f3 f4 f5 f6
  obtain ⟨r0,r1,r2,r3,r4,r5,r6,_⟩:=HY.out.cells
  refine bodyPost_ret (v:=.agg #[.int .i64 3,.string (str nv),.slice none 0 0,.slice vo R1.length vc,.int .i64 0,.int .i64 0,.int .i64 (p:Int)]) (by simp [results,Tryz.results50,go_sem,r0,r1,r2,r3,r4,r5,r6]) rfl ?_
  rw [HPP.out]
  refine ⟨vo,vc,rfl,HR12.out.but HN0.out (by decide) (by decide) hbA HB.out,HT12.out.but (by have:=HAW.out;omega) hbA hbs HB.out,?_⟩
  exact rd_own_same (own_base HO12.out (by have:=HAW.out;omega)) fun k e=>HB.out.block k (by have:=(HO12.out.lt k e).1;omega) (HO12.out.lt k e).2
theorem decl_any (b g cap:Nat) (dv:Value) (ts:List Tok) (xb:Nat→Prop) (σ:RS) (f:Nat) (nm:ByteArray) (l:List It3) (p0:Int) (τ:RS) (hr:declG ts f σ = some (nm,l,p0,τ)) (W:World) (h:Hid (Rd W b g cap dv ts xb σ)) :
    Calls Tryz.prog 50 #[.pointer (some ⟨b,0,none⟩)] W fun r Y=>DeRet b g cap dv ts xb W nm l p0 τ r Y:=by
  unfold declG at hr
  split at hr
  · cases hr
  rename_i hfn
  split at hr
  case isFalse=>cases hr
  rename_i hpar
  cases hi:itemsL ts f [] (wantS ts [123] (stepS (wantS ts [40] (nameS ts (wantS ts [104,121,98,114,105,100] σ))))) with
  | none=>rw [hi] at hr;cases hr
  | some R =>
    rw [hi] at hr
    cases hr
    exact decl_core b g cap dv ts xb σ _ _ _ _ _ f _ R (by simpa using fun e=>hfn (.inl e)) (by simpa using fun e=>hfn (.inr e)) rfl rfl rfl hpar rfl rfl hi rfl W h
end
section
open Go.RowKit Lx
abbrev De3:=ByteArray × List It3 × Int
def declsL (ts:List Tok) (f:Nat):Nat→List De3→RS→Option (List De3 × RS)
  | 0,_,_=>none
  | n+1,acc,σ=>if acc.length≤1000∧σ.code = 0 then (if (tokL ts σ.at_).kind = 5 then some (acc,σ) else (declG ts f σ).bind fun r=>declsL ts f n (acc ++ [(r.1,r.2.1,r.2.2.1)]) r.2.2.2) else none
theorem declsL_cases {ts:List Tok} {f n:Nat} {acc:List De3} {σ:RS} {R:List De3 × RS} (h:declsL ts f n acc σ = some R):∃ k,n = k+1∧acc.length≤1000∧σ.code = 0 ∧
    (((tokL ts σ.at_).kind = 5∧R = (acc,σ))∨((tokL ts σ.at_).kind≠5∧∃ nm its p τ,declG ts f σ = some (nm,its,p,τ)∧declsL ts f k (acc ++ [(nm,its,p)]) τ = some R)):=by
  cases n with
  | zero=>cases h
  | succ k =>
    simp only [declsL] at h
    split at h
    · rename_i hl
      refine ⟨k,rfl,hl.1,hl.2,?_⟩
      split at h
      · rename_i h5
        exact .inl ⟨h5,by simpa using h.symm⟩
      · rename_i h5
        cases hg:declG ts f σ with
        | none=>rw [hg] at h;cases h
        | some r =>
          obtain ⟨nm,its,p,τ⟩:=r
          rw [hg] at h
          exact .inr ⟨h5,nm,its,p,τ,rfl,by simpa using h⟩
    · cases h
def deC (x:De3) (v:Value):List Value:=[.int .i64 3,.string x.1,.slice none 0 0,v,.int .i64 0,.int .i64 0,.int .i64 x.2.2]
def desC (l:List (De3 × Value)):List Value:=l.flatMap fun x=>deC x.1 x.2
theorem desC_snoc (l:List (De3 × Value)) (x:De3 × Value):desC (l ++ [x]) = desC l ++ deC x.1 x.2:=by unfold desC;rw [List.flatMap_append];simp
def DesOwn (W:World) (B:Nat) (v:Value) (l:List De3):Prop :=
  ∃ q:List (De3 × Value),q.map Prod.fst = l∧W.ownsRow B 44 7 v l.length (desC q)∧∀ x∈q,W.ownsRow B 62 9 x.2 x.1.2.1.length (it3C x.1.2.1)
theorem DesOwn.keep {b:Nat} {W Y:World} {B:Nat} {v:Value} {l:List De3} (h:DesOwn W B v l) (hB:b < B) (hk:RK b W Y):DesOwn Y B v l:=by
  obtain ⟨q,h1,h2,h3⟩:=h
  exact ⟨q,h1,own_keepT h2 (by decide) hB hk,fun x hx=>own_keepT (h3 x hx) (by decide) hB hk⟩
theorem de_info:(Tryz.prog.info? 44).map (fun i=>(i.zero,i.size,i.bytes)) = some (some (.agg #[.int .i64 0,.string ⟨#[]⟩,.slice none 0 0,.slice none 0 0,.int .i64 0,.int .i64 0,.int .i64 0]),7,96):=by kernel_rfl
theorem step_de {ops:Array Oper} {o:Oper} {a:Act} {K:Act→World→Prop} {Q:Exit→Act→World→Prop} {E:Prop} (w:World) (hgd:o.guard = none) (s x:Operand)
    (ho:o.op = Op.call { callee:=Callee.builtin Builtin.append,args:=#[s,x],argTypes:=#[22,22] }) (B:Nat) (v:Value) (n:Nat) (xs:List Value) (hs:a.eval s = v) (hown:w.ownsRow B 44 7 v n xs)
    (ad:Addr) (news:List Value) (hx:a.eval x = .slice (some ad) 1 1) (hn:news.length = 1*7) (hc:∀ j u,news[j]? = some u→w.cell? (ad.add j) = some u) (h1c:∀ u∈news,u.oneCell' = true) (hk:n≤1000) (hB:B≤w.heap.size)
    (h:∀ g cap w',w'.ownsRow B 44 7 (.slice (some ⟨g,0,none⟩) (n+1) cap) (n+1) (xs ++ news)→w.grownBy w' v.ownBlock→K (a.put o.dst (.slice (some ⟨g,0,none⟩) (n+1) cap)) w'):if Region.wanted o (yielded ops a.tmps) = true then Oper.wp Tryz.prog o a w K Q else E:=by
  rw [if_pos (by simp [Region.wanted,hgd])]
  obtain ⟨i,h2,h3,h4,h5⟩:=info_parts de_info
  refine wp_append_own w s x 22 ho B 44 i _ 7 96 Tryz.underlying22 h2 h3 h4 h5 rfl (by decide) v n xs hs hown ad 1 1 news hx hn hc h1c (by unfold maxLen;omega) (by omega) hB fun v' w' r1 r2 _=>?_
  obtain ⟨g,cap,rfl⟩:=ownsRow_succ r1
  exact h g cap w' r1 r2
theorem seven_at (W:World) (B:Nat) (hB:B = W.heap.size) (x0 x1 x2 x3 x4 x5 x6:Value) (T:TypeId) (j:Nat) (u:Value) (h : [x0,x1,x2,x3,x4,x5,x6][j]? = some u):(W.alloc (.cells #[x0,x1,x2,x3,x4,x5,x6] T)).cell? ((⟨B,0,none⟩:Addr).add j) = some u:=by
  subst hB
  have e:(⟨W.heap.size,0,none⟩:Addr).add j = ⟨W.heap.size,j,none⟩:=by unfold Addr.add;split <;> simp_all
  rw [e,World.cell?_alloc_new,← h,← Array.getElem?_toList]
theorem Rd.setDv {W:World} {b g cap:Nat} {dv:Value} {ts:List Tok} {xb:Nat→Prop} {σ:RS} (h:Rd W b g cap dv ts xb σ) (v:Value):Rd (W.setCell ⟨b,2,none⟩ v) b g cap v ts xb σ:=by
  obtain ⟨o,c,h1,h2⟩:=h.blk
  refine ⟨fun k hk=>Nat.lt_of_lt_of_le (h.xlt k hk) ((Below.refl b W).setCell (p:=⟨b,2,none⟩) (Nat.le_refl _) v).size,⟨o,c,?_,h2.same fun k hk _=>Below.heap_setCell W ⟨b,2,none⟩ v k (by simp;omega)⟩,row_low h.row (Below.heap_setCell W ⟨b,2,none⟩ v g (by have:=h.lt;simp;omega)),h.lt,h.at_,h.len,h.ends⟩
  rw [set_blk h1];simp
structure PaSt (W Y:World) (b g cap:Nat) (ts:List Tok) (σ:RS) (acc:List De3) (dv:Value):Prop where
  rd:Rd Y b g cap dv ts (fun _=>False) σ
  rk:RK b W Y
  des:DesOwn Y W.heap.size dv acc
theorem PaSt.push {W w1 w2 w3:World} {b g cap:Nat} {ts:List Tok} {τ:RS} {acc:List De3} {dv vi:Value} {x:De3} {q:List (De3 × Value)} (hbs:b < W.heap.size) (hk0:RK b W w1) (hr1:Rd w1 b g cap dv ts (fun _=>False) τ) (hb:Below w1.heap.size w1 w2)
    (hq1:q.map Prod.fst = acc) (hq3:∀ y∈q,w1.ownsRow W.heap.size 62 9 y.2 y.1.2.1.length (it3C y.1.2.1)) (hi:w1.ownsRow W.heap.size 62 9 vi x.2.1.length (it3C x.2.1)) (ho2:w2.ownsRow W.heap.size 44 7 dv acc.length (desC q)) (hg:w2.grownBy w3 dv.ownBlock) {gg cc:Nat}
    (ho:w3.ownsRow W.heap.size 44 7 (.slice (some ⟨gg,0,none⟩) (acc.length+1) cc) (acc.length+1) (desC q ++ deC x vi)) :
    PaSt W (w3.setCell ⟨b,2,none⟩ (.slice (some ⟨gg,0,none⟩) (acc.length+1) cc)) b g cap ts τ (acc ++ [x]) (.slice (some ⟨gg,0,none⟩) (acc.length+1) cc):=by
  have hr3:=(hr1.below hb).grownT ho2 hbs (by decide) (by decide) hg
  have hk3:RK b W w3:=(hk0.trans (RK.of_below hb (Nat.le_of_lt hr1.size))).grownT hbs ho2 hg
  have sm:∀ k,k≠b→(w3.setCell ⟨b,2,none⟩ (.slice (some ⟨gg,0,none⟩) (acc.length+1) cc)).heap[k]? = w3.heap[k]?:=fun k hk=>Below.heap_setCell w3 ⟨b,2,none⟩ _ k (by simpa using hk)
  have it:∀ {v:Value} {n:Nat} {xs:List Value},w1.ownsRow W.heap.size 62 9 v n xs→(w3.setCell ⟨b,2,none⟩ (.slice (some ⟨gg,0,none⟩) (acc.length+1) cc)).ownsRow W.heap.size 62 9 v n xs:=fun h=>rd_own_same h fun k e=>by
    obtain ⟨hlo,cs,hc⟩:=own_type h e
    have hlt:=(h.lt k e).2
    have e2:=hb.block k hlt
    rw [sm k (by omega)]
    refine (hg.block k (by have:=hb.size;omega) fun e3=>?_).trans e2
    obtain ⟨_,cs',hc'⟩:=own_type ho2 e3.symm
    rw [e2,hc] at hc';cases hc'
  refine ⟨hr3.setDv _,hk3.trans (RK.set 2 _),q ++ [(x,vi)],by simp [hq1],?_,?_⟩
  · rw [desC_snoc,List.length_append,List.length_singleton]
    exact rd_own_same ho fun k e=>sm k (by have:=(ho.lt k e).1;omega)
  · intro y hy
    rcases List.mem_append.1 hy with hy | hy
    · exact it (hq3 y hy)
    · obtain rfl:=List.mem_singleton.1 hy
      exact it hi
end
end Go.Proofs.YtdlmfeflinbbjaaGreat
