/- Joined: NmFaultsG, NmRefState, NmReached, NmBadMath, NmRefBad, NmPiece, NmIn11, NmIn9, NmRefFlK, NmIn4, NmIn2, NmIn9R, NmIn56. -/
import Derived.Test.YtknbghjoncomiaaGreatKA9
import Derived.Sort.QuietIn
import Derived.Deep.CutBlock
import Derived.Deep.Cut
namespace Go.Proofs.YtknbghjoncomiaaGreat
variable {u0 u1 u2 u3 u4 u5 u6 u7 u8 u9 IG IE IF II ID IC GL GM H8 IA GN GO GK Ey Ez E4 E5 E6 E7 E8 Ek El Em En Eo Ep Eq Er Es EJ EK EL EM EO Et Eu Ev Ew EP EQ ER ET EU EV EW EX EY EZ Ea Eb Ec Ff Fg Fh EI Fi Fj Fr Fs Ft Fu Fv Fw Fx Fy Fz F2 F4 F5 F6 F7 F8 F9 GA GB GC GD GE GF GG Fk Fl Fm Fn Fo Fp Fq GH GI GJ AA AB AC AE AF AG AH AI AJ AK EH B3 B4 B5 B8 B9 CD CH CI CJ CK CM CQ CU CX DM DN DO DP DR DS DU DV DW DX DY DQ DZ Dm Do Dp Dq Dr Dt Du Da Db Dc Dd Df Dg Dh Di Dj Dk Dl CY CZ Ca Cb Cc Cd Ce Cf Cg Ch Ci Cj Ck Cl Cm Cn Co Cp Cq Cr Cs Ct Cu Cv Cw Cx Cy Cz DA DE DG DI DJ DK DL Dv Dw Dx Dy Dz D5 D8 D9 EA EB EC ED EE EF EG As At Au Av Aw Ay AR AS AU AV AW AX AY AZ Aa Ab Ac Ad Ae Af Ag Ah Ai Aj Ak Al Am An Ao Ap Aq Ar Az A3 A4 A5 A6 A7 A8 A9 BA BC BD BE BF BG BH BI BJ BK BM BN BO BP BQ BR BS BT BU BV BW BY BZ Ba Bb Bc Bd Be Bf Bg Bh Bi Bj Bk Bl Bm Bn Bo Bp Bq Br Bs Bt Bu Bv Bw Bx By Bz AL AM AN AO AP AQ:Value}
section
open Go.Lib (hid)
open Go.RowKit Lx Go.Shelf Go.Maps
attribute [local go_sem] Oper.semAt_some
set_option maxHeartbeats 16000000
theorem QHu (p:Pr) (sd se:Value) (B:Nat) (w0:World) (M:Nat→Prop) (rw:World→Option Nat) (w:World) (hB0:Below w0.heap.size w0 w) (hfree:∀ k,k < w0.heap.size→¬ M k∧rw w≠some k) (hN:Near M rw w) (hS:QAc M rw w B) (hB:w.heap[B]? = some (.cells #[sd,se] 26 (0,0))) (hP:ProgAt w0 sd se p) (hsm:Small p) :
  SeqX (α:=Int) Fence.wide 6 Tryz.prog 35 #[.pointer (some ⟨B,0,none⟩)] (fun v=>#[.int .i64 v]) (fun _=>False) M rw (fun ys _=>∀ a,a∈ys↔QB8 p a) (fun pre=>∀ a∈pre,QB8 p a) 60000 w:=by
 obtain ⟨⟨o1,c1,db,doff,rfl,_,_,hd1,hd2⟩,⟨o2,c2,xb,xoff,rfl,_,_,hx1,hx2⟩,_,_⟩:=id hP
 intro lp J Jx W hW hJ hJx hJr hY h0
 exact QKn p o1 o2 _ c1 _ c2 B (hid rfl) (hid rfl) (by have:=hsm.exprs;omega) (by have:=hsm.decls;omega) w0 M rw w (hid hB0) (hid ⟨⟨hB0.size,fun k hk=>hB0.block k hk⟩,hfree⟩) (hid hN) (hid hS) (hid hB) db doff (hid hd1) (hid hd2) (hid hP) (hid hsm) lp J Jx W (hid hW) (hid hJ) (hid hJx) (hid hJr) (hid hY) (hid h0)
def QH2 (p:Pr):Prop:=QFa p = true∧∀ a,¬ QB8 p a
set_option maxRecDepth 100000 in
theorem QKR (o1 o2:Option Addr) (n1 c1 n2 c2:Nat) (p:Pr) (w:World) (hp:Hid (ProgAt w (.slice o1 n1 c1) (.slice o2 n2 c2) p)) (hs:Hid (Small p)) :
  CallsIn Fence.wide 7 Tryz.prog 10 #[.agg #[.slice o1 n1 c1,.slice o2 n2 c2]] w fun r Y=>∃ q:Bool,r = .returned (.bool q)∧(q = true↔QH2 p)∧Below w.heap.size w Y:=by
 have hb0:=hid (QA5 (QA5 (Below.refl w.heap.size w) (.cells #[.slice o1 n1 c1,.slice o2 n2 c2] 26)) (.cells #[.bool false] 4))
 have MA:=hid (fun X (hX:Below w.heap.size w X)=>QHW _ _ p X (hp.out.below hX) hs.out)
 have B0:Hid (((w.alloc (.cells #[.slice o1 n1 c1,.slice o2 n2 c2] 26)).alloc (.cells #[.bool false] 4)).heap[w.heap.size]? = some (.cells #[.slice o1 n1 c1,.slice o2 n2 c2] 26 (0,0))):=hid (QAa (QAR rfl))
 have B1:Hid (((w.alloc (.cells #[.slice o1 n1 c1,.slice o2 n2 c2] 26)).alloc (.cells #[.bool false] 4)).heap[w.heap.size+1]? = some (.cells #[.bool false] 4 (0,0))):=hid (QAR (by simp))
 refine callsIn_of_wp_marks Tryz.func10 rfl trivial ?_ rfl
 simp only [Tryz.ntmps10,List.size_toArray,List.length_cons,List.length_nil,Nat.reduceAdd,Nat.reduceSub,Array.replicate_succ,Array.replicate_zero,List.push_toArray,List.append_toArray,List.nil_append,List.cons_append]
 cases hmn:QFa p with
 | false =>
  rw [hmn] at MA
  gi_wp2_with (refine ⟨trivial,?_⟩;gi_at_call 22;((with_reducible refine (callsIn_wide.2 (MA.out _ hb0.out)).mono ?_);rintro e w1 ⟨rfl,hb1⟩;have HB1:=hid (hb0.out.trans (hb1.mono hb0.out.size));have BL:=hid ((hb1.block _ (lt_of_heap B1.out)).trans B1.out);obtain ⟨z8,z9⟩:=QEI ((hb1.block _ (lt_of_heap B1.out)).trans B1.out);clear hb1))
  refine ⟨_,QCu rfl _ ⟨w.heap.size+1,0,none⟩ rfl (QFA (QCw BL.out 0 (.bool false))),false,rfl,⟨fun h=>(by cases h),fun h=>(by have h2:=h.1;rw [hmn] at h2;cases h2)⟩,HB1.out.setCell (p:=⟨w.heap.size+1,0,none⟩) (show w.heap.size≤w.heap.size+1 by omega) _⟩
 | true =>
  rw [hmn] at MA
  have HMN:=hid hmn
  clear hmn
  gi_wp2_with (first
   | (refine ⟨trivial,?_⟩;gi_at_call 22;((with_reducible refine (callsIn_wide.2 (MA.out _ hb0.out)).mono ?_);rintro e w1 ⟨rfl,hb1⟩;have HB1:=hid (hb0.out.trans (hb1.mono hb0.out.size));have BL:=hid ((hb1.block _ (lt_of_heap B1.out)).trans B1.out);obtain ⟨b0,b1⟩:=QAA ((hb1.block _ (lt_of_heap B0.out)).trans B0.out);clear hb1))
   | (refine ⟨trivial,?_⟩;gi_at_call 15;((with_reducible refine (callsIn_wide.2 (QHt _ _ _ _ _ _ _)).mono ?_);rintro e w2 ⟨rfl,rfl⟩)))
  obtain ⟨V,hV⟩:∃ V,V = w1.alloc (.cells #[.slice o1 n1 c1,.slice o2 n2 c2] 26):=⟨_,rfl⟩
  have vb:Below w1.heap.size w1 V:=by rw [hV];exact QA5 (Below.refl _ _) _
  have vp:V.heap[w1.heap.size]? = some (.cells #[.slice o1 n1 c1,.slice o2 n2 c2] 26 (0,0)):=by rw [hV];exact QAR rfl
  rw [← hV]
  clear hV b0 b1
  have HVB:=hid (HB1.out.trans (vb.mono HB1.out.size))
  have VL:=hid ((vb.block _ (lt_of_heap BL.out)).trans BL.out)
  have hl1:w.heap.size+1 < w1.heap.size:=lt_of_heap BL.out
  have HL1:=hid hl1
  have HVS:=hid vb.size
  have NR:Hid (Near (fun k=>k = w.heap.size+1) (fun _=>none) V):=hid ⟨fun k h=>by have:=vb.size;omega,fun k h=>(by cases h),fun X Y h=>rfl⟩
  have WS:=hid (QHu p _ _ w1.heap.size w (fun k=>k = w.heap.size+1) (fun _=>none) V HVB.out (fun k hk=>⟨fun h=>by omega,fun h=>by cases h⟩) NR.out ⟨lt_of_heap vp,fun h=>by omega,fun h=>by cases h⟩ vp hp.out hs.out)
  clear vb vp hl1
  refine QBl (α:=Int) rfl (by decide) (gf:=35) (lb:=#[.pointer (some ⟨w1.heap.size,0,none⟩)]) rfl trivial (enters_of Tryz.func35 (by kernel_rfl) rfl)
   WS.out (fun _ _ _ _ _ h=>h) NR.out (fun _ h=>h.elim) (fun _=>rfl)
   (fun pre X=>pre = []∧X.heap[w.heap.size+1]? = some (.cells #[.bool false] 4 (0,0))∧Below w.heap.size w X) (fun c pre X=>c = .ret∧(∃ a,a∈pre)∧X.heap[w.heap.size+1]? = some (.cells #[.bool false] 4 (0,0))∧Below w.heap.size w X)
   (fun s X Y row h hg hr=>⟨h.1,(hg.block _ (lt_of_heap h.2.1) (fun e=>by rcases (hr _ e.symm).1 with h1 | h1;have:=HL1.out;have:=HVS.out;omega;exact h1.elim)).trans h.2.1,h.2.2.grown hg h.2.2.size (fun k e=>by rcases (hr k e).1 with h1 | h1;have:=HVB.out.size;omega;exact h1.elim)⟩)
   (fun c s X Y row h hg hr=>⟨h.1,h.2.1,(hg.block _ (lt_of_heap h.2.2.1) (fun e=>by rcases (hr _ e.symm).1 with h1 | h1;have:=HL1.out;have:=HVS.out;omega;exact h1.elim)).trans h.2.2.1,h.2.2.2.grown hg h.2.2.2.size (fun k e=>by rcases (hr k e).1 with h1 | h1;have:=HVB.out.size;omega;exact h1.elim)⟩)
   (fun s X _ k h=>(by cases h)) ⟨rfl,VL.out,HVB.out⟩
   (fun v a' _=>a' = { tmps:=#[.agg #[.slice o1 n1 c1,.slice o2 n2 c2],.pointer (some ⟨w.heap.size,0,none⟩),.pointer (some ⟨w.heap.size+1,0,none⟩),.agg #[.slice o1 n1 c1,.slice o2 n2 c2],.bool true,.bool false,.agg #[.slice o1 n1 c1,.slice o2 n2 c2],.func (.func 35) #[] #[.pointer (some ⟨w1.heap.size,0,none⟩)],.int .i64 v],defers:=[] }) (fun v a' Z l o o' _ _ _ h=>h) ?assign ?body ?done ?stop
  case assign =>
   rintro lp' pre v X K hi hs hK
   gi_wp2
   exact hK _ _ (Below.refl _ _) (by simp)
  case body =>
   rintro lp' pre v a' X hs ⟨rfl,h2,h3⟩ rfl hlt
   obtain ⟨z8,z9⟩:=QEI h2
   have HX:=hid (And.intro h2 h3)
   clear h2 h3 hs hlt
   gi_wp2
   exact ⟨(KeepsOthers.setCell _ _ _).from _,rfl,⟨v,by simp⟩,QCw HX.out.1 0 _,HX.out.2.setCell (p:=⟨w.heap.size+1,0,none⟩) (show w.heap.size≤w.heap.size+1 by omega) _⟩
  case stop =>
   rintro D c pre X hD hpre ⟨rfl,⟨a,ha⟩,h2,h3⟩ hmark
   have hne:w.heap.size+1≠D:=by have:=HL1.out;have:=HVS.out;omega
   have HX:=hid (show _∧_∧_∧_ from ⟨hpre a ha,h2,h3,hmark⟩)
   have HD:=hid hD
   clear h2 h3 hmark hD hpre
   dsimp only
   gi_wp2_with fail
   refine ⟨by simp,.inl ⟨_,_,rfl,run_takeDeferred HX.out.2.2.2,?_⟩⟩
   exact ⟨_,QCu rfl _ ⟨w.heap.size+1,0,none⟩ rfl (QFA ((World.putObj_heap_other hne).trans HX.out.2.1)),false,rfl,⟨fun h=>(by cases h),fun h=>absurd HX.out.1 (h.2 a)⟩,HX.out.2.2.1.grown (grownBy_putObj' X D _) HX.out.2.2.1.size (fun k e=>by cases e;have:=HD.out;have:=HVB.out.size;omega)⟩
  case done =>
   rintro D ys X hD hys ⟨rfl,h2,h3⟩ hmark
   obtain ⟨z8,z9⟩:=QEI h2
   have hne:w.heap.size+1≠D:=by have:=HL1.out;have:=HVS.out;omega
   have HX:=hid (show _∧_∧_∧_ from ⟨hys,h2,h3,hmark⟩)
   have HD:=hid hD
   clear h2 h3 hmark hD hys
   dsimp only
   gi_wp2_with fail
   refine ⟨by simp,.inl ⟨_,_,rfl,run_takeDeferred ((set_ot hne _ _).trans HX.out.2.2.2),?_⟩⟩
   exact ⟨_,QCu rfl _ ⟨w.heap.size+1,0,none⟩ rfl (QFA ((World.putObj_heap_other hne).trans (QCw HX.out.2.1 0 (.bool true)))),true,rfl,⟨fun _=>⟨HMN.out,fun a h=>by cases (HX.out.1 a).2 h⟩,fun _=>rfl⟩,(HX.out.2.2.1.setCell (p:=⟨w.heap.size+1,0,none⟩) (show w.heap.size≤w.heap.size+1 by omega) _).grown (grownBy_putObj' _ D _) (by simp only [World.size_setCell];exact HX.out.2.2.1.size) (fun k e=>by cases e;have:=HD.out;have:=HVB.out.size;omega)⟩
theorem QMT (sd se:Value) (p:Pr) (w:World) (h:ProgAt w sd se p) (hs:Small p):Calls Tryz.prog 10 #[.agg #[sd,se]] w fun r Y=>∃ q:Bool,r = .returned (.bool q)∧(q = true↔QH2 p)∧Below w.heap.size w Y:=by
 obtain ⟨⟨o1,c1,db,doff,rfl,_⟩,⟨o2,c2,xb,xoff,rfl,_⟩,_⟩:=id h
 exact callsIn_wide.1 (QKR o1 o2 _ c1 _ c2 p w (hid h) (hid hs))
def faCs (l:List Int):List Value:=(l.map fun a=>((4,a):Flt)).flatMap QC4
theorem QLQ (l:List Int) (x:Int):faCs (l ++ [x]) = faCs l ++ [.int .i64 4,.int .i64 x]:=by simp [faCs,QC4]
def QKx (w:World) (N:Nat) (pre:List Int) (W:World):Prop :=
 (∃ v,Boxed W (w.heap.size+1) 38 v∧W.ownsRow (w.heap.size+1+1) 29 2 v pre.length (faCs pre))∧Below w.heap.size w W∧N≤W.heap.size
theorem QNJ {w W W8 W9:World} {B:Nat} {v v' : Value} {l:List Int} {x:Int} (hB:w.heap.size+1 < B) (h1:Boxed W (w.heap.size+1) 38 v) (h2:W.ownsRow (w.heap.size+1+1) 29 2 v l.length (faCs l)) (h7:Below w.heap.size w W) (hN:B≤W.heap.size)
  (h8:Below W.heap.size W W8) (hown:W9.ownsRow (w.heap.size+1+1) 29 2 v' (l.length+1) (faCs l ++ [.int .i64 4,.int .i64 x])) (hgrow:W8.grownBy W9 v.ownBlock) (hat:v'.ownBlock = v.ownBlock∨v'.ownBlock = some W8.heap.size) :
  KeepsFrom B W (W9.setCell ⟨w.heap.size+1,0,none⟩ v')∧KeepX (fun k=>k = w.heap.size+1) (QCv (w.heap.size+1)) B (B+2) W (W9.setCell ⟨w.heap.size+1,0,none⟩ v')∧QKx w B (l ++ [x]) (W9.setCell ⟨w.heap.size+1,0,none⟩ v'):=by
 obtain ⟨L,hL⟩:∃ L,L = w.heap.size+1:=⟨_,rfl⟩
 unfold QKx
 rw [← hL] at hB h1 h2 hown ⊢
 have hLW:=lt_of_heap h1
 have g10:=grownBy_setCell' W9 L v'
 have z10:W.heap.size≤(W9.setCell ⟨L,0,none⟩ v').heap.size:=Nat.le_trans h8.size (Nat.le_trans hgrow.size g10.size)
 have hvb:∀ g,v.ownBlock = some g→L+1≤g∧∃ cur:Array Value,W.heap[g]? = some (.cells cur 29 (0,0)):=fun g hg=>QBT h2 hg
 have keep:∀ k,k < W.heap.size→k≠L→v.ownBlock≠some k→(W9.setCell ⟨L,0,none⟩ v').heap[k]? = W.heap[k]?:=fun k hk hl hr =>
  (g10.block k (Nat.lt_of_lt_of_le (Nat.lt_of_lt_of_le hk h8.size) hgrow.size) (fun e=>hl (Option.some.inj e))).trans ((hgrow.block k (Nat.lt_of_lt_of_le hk h8.size) (fun e=>hr e.symm)).trans (h8.block k hk))
 have b9:Boxed W9 L 38 v:=(hgrow.block L (Nat.lt_of_lt_of_le hLW h8.size) (fun e=>by have:=(hvb L e.symm).1;omega)).trans ((h8.block L hLW).trans h1)
 have b10:Boxed (W9.setCell ⟨L,0,none⟩ v') L 38 v':=b9.set v'
 refine ⟨⟨z10,fun k o hk hh ho=>?_⟩,⟨z10,fun k hk hM hr _=>keep k hk hM (by rw [QAM h1] at hr;exact hr),fun k hk=>?_⟩,⟨v',b10,?_⟩,?_,Nat.le_trans hN z10⟩
 ·refine (keep k (lt_of_heap hh) (by omega) fun e=>?_).trans hh
  obtain ⟨_,cur,hc⟩:=hvb k e
  rw [hh] at hc
  cases hc
  cases ho
 ·rw [QAM b10] at hk
  rcases hat with h | h
  ·left;rw [QAM h1,← h];exact hk
  ·right
   rw [hk] at h
   have:=Option.some.inj h
   have h8s:=h8.size
   refine ⟨by omega,?_⟩
   obtain ⟨_,cur,hc⟩:=QBT hown hk
   exact Nat.lt_of_lt_of_le (lt_of_heap hc) g10.size
 ·have h10:=QD8 (Y:=W9.setCell ⟨L,0,none⟩ v') hown fun g hg=>by
   obtain ⟨hg1,cur,hc⟩:=QBT hown hg
   exact QBA W9 L g 0 v' (by omega)
  rw [QLQ,List.length_append]
  exact h10
 ·have c3:=h7.trans (h8.mono h7.size)
  have c4:=c3.grown hgrow c3.size (fun k e=>by have:=(hvb _ e).1;omega)
  exact c4.grown g10 c4.size (fun k e=>by have:=Option.some.inj e;omega)
theorem QLU {X:World} {D:Nat} {o o' : Obj} {s:Value} {l:List Flt} (h:FlsAt X s l) (hD:X.heap[D]? = some o) (ho:o.isCells = false):FlsAt (X.putObj D o') s l:=by
 have key:∀ {a:Addr} {v:Value},X.cell? a = some v→(X.putObj D o').cell? a = some v:=fun {a v} hc=>by
  have hne:a.block≠D:=fun e=>by
   unfold World.cell? at hc
   rw [e,hD] at hc
   cases o <;> first | cases hc | cases ho
  have:=World.putObj_heap_other (w:=X) (o:=o') hne
  unfold World.cell? at hc ⊢
  rw [this]
  exact hc
 exact h.mono fun b o i hi h x hx=>⟨key (h x hx).1,key (h x hx).2⟩
def QFm (p:Pr) (w:World) (r:Ending) (Y:World):Prop:=∃ (v:Value) (l:List Flt),r = .returned v∧FlsAt Y v (QKs l)∧(∀ x,x∈l↔∃ a,QB8 p a∧x = (4,a))∧Below w.heap.size w Y
theorem QHB (w:World) (N:Nat) (hN:w.heap.size+1 < N) (E:Nat→Prop) (hE:∀ k,¬ E k):AbidesE (QCv (w.heap.size+1)) E N (QKx w N):=by
 rintro s X Y row ⟨⟨v,hv,hr⟩,h5,h6⟩ hg hrow
 have hge:∀ k,row = some k→N≤k:=fun k e=>by rcases (hrow k e).1 with h | h;exact h;exact absurd h (hE k)
 have hne:∀ b,b < N→some b≠row:=fun b hb e=>by have:=hge b e.symm;omega
 refine ⟨⟨v,hv.kept hg (hne _ hN),QD8 hr fun g hgb=>?_⟩,h5.grown hg h5.size (fun k e=>by have:=hge k e;omega),Nat.le_trans h6 hg.size⟩
 obtain ⟨h1,cur,h2⟩:=QBT hr hgb
 refine hg.block g (lt_of_heap h2) fun e=>?_
 obtain ⟨_,o,ho,hc⟩:=hrow g e.symm
 rcases hc with hc | hc
 ·rw [h2] at ho;cases ho;cases hc
 ·exact hc (by rw [QAM hv];exact hgb)
set_option maxRecDepth 100000 in
theorem QI7 (o1 o2:Option Addr) (n1 c1 n2 c2:Nat) (p:Pr) (w:World) (hp:Hid (ProgAt w (.slice o1 n1 c1) (.slice o2 n2 c2) p)) (hs:Hid (Small p)) :
  CallsIn Fence.wide 7 Tryz.prog 8 #[.agg #[.slice o1 n1 c1,.slice o2 n2 c2]] w fun r Y=>QFm p w r Y:=by
 refine callsIn_of_wp_marks Tryz.func8 rfl trivial ?_ rfl
 simp only [Tryz.ntmps8,List.size_toArray,List.length_cons,List.length_nil,Nat.reduceAdd,Nat.reduceSub,Array.replicate_succ,Array.replicate_zero,List.push_toArray,List.append_toArray,List.nil_append,List.cons_append]
 gi_wp2_with (refine ⟨trivial,?_⟩;gi_at_call 15;((with_reducible refine (callsIn_wide.2 (QHt _ _ _ _ _ _ _)).mono ?_);rintro e w2 ⟨rfl,rfl⟩))
 obtain ⟨V,hV⟩:∃ V,V = ((w.alloc (.cells #[.slice o1 n1 c1,.slice o2 n2 c2] 26)).alloc (.cells #[.slice none 0 0] 38)).alloc (.cells #[.slice o1 n1 c1,.slice o2 n2 c2] 26):=⟨_,rfl⟩
 have vb:Below w.heap.size w V:=by rw [hV];exact QA5 (QA5 (QA5 (Below.refl _ _) _) _) _
 have vl:V.heap[w.heap.size+1]? = some (.cells #[.slice none 0 0] 38 (0,0)):=by rw [hV];exact QAa (QAR (by simp))
 have vp:V.heap[w.heap.size+1+1]? = some (.cells #[.slice o1 n1 c1,.slice o2 n2 c2] 26 (0,0)):=by rw [hV];exact QAR (by simp)
 rw [← hV]
 clear hV
 have hrow:QCv (w.heap.size+1) V = none:=QAM vl
 have hz:=lt_of_heap vl
 have HZ:=hid hz
 have HVB:=hid vb
 have NR:Hid (Near (fun k=>k = w.heap.size+1) (QCv (w.heap.size+1)) V):=hid ⟨fun k h=>by omega,fun k h=>by (rw [hrow] at h;cases h),fun X Y h=>QCT (h _ hz)⟩
 have WS:=hid (QHu p _ _ (w.heap.size+1+1) w (fun k=>k = w.heap.size+1) (QCv (w.heap.size+1)) V vb (fun k hk=>⟨fun h=>by omega,fun h=>by (rw [hrow] at h;cases h)⟩) NR.out ⟨lt_of_heap vp,fun h=>by omega,fun h=>by (rw [hrow] at h;cases h)⟩ vp hp.out hs.out)
 have HI0:Hid (QKx w V.heap.size [] V):=hid ⟨⟨_,vl,World.ownsRow_nil _ _ _ _⟩,vb,Nat.le_refl _⟩
 clear vb vl vp hrow hz
 refine QBl (α:=Int) rfl (by decide) (gf:=35) (lb:=#[.pointer (some ⟨w.heap.size+1+1,0,none⟩)]) rfl trivial (enters_of Tryz.func35 (by kernel_rfl) rfl)
  WS.out (fun _ _ _ _ _ h=>h) NR.out (fun _ h=>h.elim) (fun _=>rfl)
  (fun pre X=>QKx w V.heap.size pre X∧pre.length≤60000) (fun _ _ _=>False) (fun s X Y row h hg hr=>⟨QHB w _ HZ.out _ (fun _ h=>h) s X Y row h.1 hg hr,h.2⟩) (fun _ _ _ _ _ h _ _=>h) (fun s X h k hk=>by
   obtain ⟨⟨⟨v,hv,hr⟩,_⟩,_⟩:=h
   rw [QAM hv] at hk
   obtain ⟨_,cur,h2⟩:=QBT hr hk
   exact ⟨_,h2,rfl⟩) ⟨HI0.out,Nat.zero_le _⟩
  (fun v a' _=>a' = { tmps:=#[.agg #[.slice o1 n1 c1,.slice o2 n2 c2],.pointer (some ⟨w.heap.size,0,none⟩),.slice none 0 0,.pointer (some ⟨w.heap.size+1,0,none⟩),.int .i64 v,.agg #[.slice o1 n1 c1,.slice o2 n2 c2],.func (.func 35) #[] #[.pointer (some ⟨w.heap.size+1+1,0,none⟩)],.int .i64 v,undef,undef,undef,undef,undef,undef,undef],defers:=[] }) (fun v a' Z l o o' _ _ _ h=>h) ?assign ?body ?done ?stop
 case assign =>
  rintro lp' pre v X K hi hs hK
  gi_wp2
  exact hK _ _ (Below.refl _ _) rfl
 case body =>
  rintro lp' pre a a' X hs ⟨⟨⟨v,hv,hr⟩,hB,hN⟩,_⟩ rfl hlt
  have y0:=hv.cell
  have HV:=hid hv
  have HR:=hid hr
  have HB:=hid hB
  have HN:=hid hN
  have hpl:pre.length≤60000:=Nat.le_of_lt hlt
  have hpl2:Hid (pre.length < 60000):=hid hlt
  obtain ⟨ii,si2,si3,si4,si5⟩:=info_parts QEe
  have HA:=hid (QA5 (Below.refl X.heap.size X) (.cells #[.int .i64 4,.int .i64 a] 29))
  clear hv hr hB hN hlt hs
  gi_wp2_with (gi_at_builtin;refine wpListIn_append_own_at _ rfl _ _ 38 rfl (w.heap.size+1+1) 29 ii (.agg #[.int .i64 0,.int .i64 0]) 2 16 Tryz.underlying38 si2 si3 si4 si5 rfl (by decide) v pre.length _ rfl (HR.out.alloc _) ⟨X.heap.size,0,none⟩ 1 1 [.int .i64 4,.int .i64 a] rfl rfl (cell_two_new _ _ _ _) (by simp [Value.oneCell']) (by unfold maxLen;omega) (by omega) (by have:=HN.out;have:=HZ.out;simp;omega) ?_;intro v' W9 hown hgrow hnil hat;obtain ⟨g',cap',rfl⟩:=ownsRow_succ hown;have hc9:=((HV.out.alloc _).kept hgrow (fun e=>by have:=(QBT HR.out e.symm).1;omega)).cell;have hf9:=((HV.out.alloc _).kept hgrow (fun e=>by have:=(QBT HR.out e.symm).1;omega)).frozen;have HOWN:=hid hown;have HGROW:=hid hgrow;have HAT:=hid hat;clear hown hgrow hnil hat)
  obtain ⟨f1,f2,f3⟩:=QNJ HZ.out HV.out HR.out HB.out HN.out HA.out HOWN.out HGROW.out HAT.out
  exact ⟨f1,f2,f3,by rw [List.length_append];exact hpl2.out⟩
 case done =>
  rintro D ys X hD hys ⟨⟨⟨v,hv,hr⟩,hB,hN⟩,hyl⟩ hmark
  have y0:=hv.cell
  have HX:=hid (show _∧_∧_∧_∧_ from ⟨hD,hys,hr,hB,hmark⟩)
  have hlen:(ys.map fun a=>((4,a):Flt)).length≤1000000:=by rw [List.length_map];omega
  have OC:=hid (QMC v (ys.map fun a=>((4,a):Flt)) X (QF1 (by rw [List.length_map];exact hr)) hlen)
  clear hD hys hv hr hB hN hmark hlen
  dsimp only
  gi_wp2_with (refine ⟨trivial,?_⟩;gi_at_call 16;((with_reducible refine (callsIn_wide.2 OC.out).mono ?_);rintro e X2 ⟨v2,rfl,hf,hb2⟩;have HF:=hid hf;have HB2:=hid hb2;clear hf hb2))
  refine ⟨by simp,.inl ⟨_,_,rfl,run_takeDeferred ((HB2.out.block _ (lt_of_heap HX.out.2.2.2.2)).trans HX.out.2.2.2.2),?_⟩⟩
  obtain ⟨h1,h2,_,h4,h5⟩:=HX.out
  refine ⟨_,results_tmp (t:=2) (by kernel_rfl) _ _ _,v2,_,rfl,QLU HF.out ((HB2.out.block _ (lt_of_heap h5)).trans h5) rfl,fun x=>?_,(h4.trans (HB2.out.mono h4.size)).grown (grownBy_putObj' X2 D _) (h4.trans (HB2.out.mono h4.size)).size (fun k e=>by cases e;have:=HVB.out.size;omega)⟩
  rw [List.mem_map]
  exact ⟨fun ⟨a,ha,e⟩=>⟨a,(h2 a).1 ha,e.symm⟩,fun ⟨a,ha,e⟩=>⟨a,(h2 a).2 ha,e.symm⟩⟩
 case stop =>
  rintro D c pre X _ _ h _
  exact h.elim
theorem QFu (sd se:Value) (p:Pr) (w:World) (h:ProgAt w sd se p) (hs:Small p):Calls Tryz.prog 8 #[.agg #[sd,se]] w fun r Y=>QFm p w r Y:=by
 obtain ⟨⟨o1,c1,db,doff,rfl,_⟩,⟨o2,c2,xb,xoff,rfl,_⟩,_⟩:=id h
 exact callsIn_wide.1 (QI7 o1 o2 _ c1 _ c2 p w (hid h) (hid hs))
theorem QM6 {d:De} {x:Va} (hx:x∈QAV d) (h5:x.sort = 5):∃ k:Nat,x.index = (k:Int)∧∃ y,d.items[k]? = some y:=by
 unfold QAV QBI QB4 at hx
 rcases List.mem_append.1 hx with h | h
 ·obtain ⟨⟨a,k⟩,h1,rfl⟩:=List.mem_map.1 h
  dsimp only at h5
  omega
 ·obtain ⟨⟨a,k⟩,h1,h2⟩:=List.mem_filterMap.1 h
  have hk:=List.mem_zipIdx_iff_getElem?.1 h1
  dsimp only at h2 hk
  split at h2
  ·cases h2
  ·cases h2
   exact ⟨k,rfl,a,hk⟩
theorem QHG {l:List It} {k:Nat} {y:It} (h:l[k]? = some y) (nm:ByteArray):QDN (stL l) (k:Int) nm = y.states.any fun s=>decide (s = nm):=by
 rw [Bool.eq_iff_iff,QDO,List.any_eq_true]
 unfold stL
 constructor
 ·intro hm
  obtain ⟨⟨a,i⟩,h1,h2⟩:=List.mem_flatMap.1 hm
  obtain ⟨s,h3,h4⟩:=List.mem_map.1 h2
  have hi:=List.mem_zipIdx_iff_getElem?.1 h1
  dsimp only at hi h3 h4
  simp only [Prod.mk.injEq] at h4
  obtain rfl:i = k:=by omega
  rw [h] at hi
  cases hi
  exact ⟨s,h3,by simp [h4.2]⟩
 ·rintro ⟨s,h1,h2⟩
  obtain rfl:=of_decide_eq_true h2
  exact List.mem_flatMap.2 ⟨(y,k),List.mem_zipIdx_iff_getElem?.2 h,List.mem_map.2 ⟨s,h1,rfl⟩⟩
def QOe (d:De) (nm:ByteArray) (w:World) (e:Ending) (w' : World):Prop:=(match (QAV d).find? (fun y=>decide (y.name = nm)) with
 | some x=>e = .returned (.tuple #[.agg #[.string x.name,.int .i64 x.sort,.int .i64 x.type,.int .i64 x.index],.bool true])
 | none=>e = .returned (.tuple #[.agg #[.string ⟨#[]⟩,.int .i64 0,.int .i64 0,.int .i64 0],.bool false]))∧Below w.heap.size w w'
theorem QG3 (v0:Value) (d:De) (nm:ByteArray) (w:World) (h:DeVal w v0 d) (h1:d.params.length≤600) (h2:d.items.length≤600) :
  Calls Tryz.prog 19 #[v0,.string nm] w fun e w'=>QOe d nm w e w' :=
 (QIS v0 d nm w h h1 h2).mono fun e w' ⟨q,x,e1,e2,e3,e4⟩=>by
  refine ⟨?_,e4⟩
  cases hf:(QAV d).find? (fun y=>decide (y.name = nm)) with
  | none =>
   cases q with
   | true=>have h:=e2 rfl;rw [hf] at h;cases h
   | false=>rw [e1,(e3 rfl).1];rfl
  | some y =>
   cases q with
   | true=>have h:=e2 rfl;rw [hf] at h;cases h;exact e1
   | false=>exact absurd (List.mem_of_find?_eq_some hf) (fun hm=>(e3 rfl).2 y hm (by simpa using List.find?_some hf))
set_option maxRecDepth 100000 in
theorem QEP (v0:Value) (d:De) (mode nm:ByteArray) (w:World) (h:DeVal w v0 d) (h1:d.params.length≤600) (h2:d.items.length≤600) (hst:∀ x∈d.items,x.states.length≤1000) :
  Calls Tryz.prog 20 #[v0,.string mode,.string nm] w fun r Y=>r = .returned (.bool (QBX d mode nm))∧Below w.heap.size w Y:=by
 have HDV:=hid h
 obtain ⟨s,t,rfl,⟨op,capp,bp,fp,rfl,_⟩,⟨oi,capi,bi,fi,rfl,_,_,hi1,hi2⟩,_⟩:=h
 have HI1:=hid hi1
 have HI2:=hid hi2
 have HST:=hid hst
 have hb0:=hid (QA5 (Below.refl w.heap.size w) (.cells #[.int .i64 d.kind,.string d.name,.slice op d.params.length capp,.slice oi d.items.length capi,.int .i64 d.type,.int .i64 d.e,.int .i64 d.pos] 36))
 have B0:Hid ((w.alloc (.cells #[.int .i64 d.kind,.string d.name,.slice op d.params.length capp,.slice oi d.items.length capi,.int .i64 d.type,.int .i64 d.e,.int .i64 d.pos] 36)).heap[w.heap.size]? = some (.cells #[.int .i64 d.kind,.string d.name,.slice op d.params.length capp,.slice oi d.items.length capi,.int .i64 d.type,.int .i64 d.e,.int .i64 d.pos] 36 (0,0))):=hid (World.alloc_heap_new w _)
 have FD:=hid (fun W (hW:Below w.heap.size w W)=>QG3 _ d mode W (HDV.out.below hW) h1 h2)
 unfold QOe at FD
 obtain ⟨ni,hni⟩:∃ ni,ni = d.items.length:=⟨_,rfl⟩
 have HNI:=hid hni
 rw [← hni] at h2 HI1 HI2 hb0 B0 FD ⊢
 clear hi1 hi2 hst hni
 cases hf:(QAV d).find? (fun y=>decide (y.name = mode)) with
 | none =>
  rw [hf] at FD
  have R:Hid (QBX d mode nm = false):=hid (by unfold QBX;rw [hf])
  clear hf
  go_enter Tryz.func20,Tryz.ntmps20
  go_wp2_with (go_at_call 19;(with_reducible refine (FD.out _ hb0.out).mono ?_);rintro e w1 ⟨rfl,hb1⟩;have HB1:=hid (hb0.out.trans (hb1.mono hb0.out.size));have BX:=hid ((hb1.block _ (lt_of_heap B0.out)).trans B0.out);clear hb1)
  go_ret
  exact ⟨by rw [R.out];rfl,QA5 HB1.out _⟩
 | some x =>
  rw [hf] at FD
  obtain ⟨xn,xs,xt,xi⟩:=x
  dsimp only at FD
  by_cases h5:xs = 5
  ·obtain ⟨k,hk,y,hy⟩:=QM6 (List.mem_of_find?_eq_some hf) h5
   dsimp only at hk
   subst hk
   have q5:(xs != 5) = false:=by simp [h5]
   have R:Hid (QBX d mode nm = y.states.any fun s=>decide (s = nm)):=hid (by unfold QBX;rw [hf];dsimp only;rw [h5,QHG hy];simp)
   have hkl:k < ni:=by rw [HNI.out];exact (List.getElem?_eq_some_iff.1 hy).1
   have hkl2:(k:Int) < (ni:Int):=by omega
   have ix:=QEL (cap:=capi) HI1.out hkl (by omega)
   unfold Ix at ix
   obtain ⟨sv,i0,i1,i2,i3,i4,i5,i6,i7,i8,⟨os,caps,bs,offs,rfl,_,_,hso,hsc⟩,hok⟩:=HI2.out k hkl y hy
   have hsl:=HST.out y (List.mem_of_getElem? hy)
   have I5:=hid i5
   have HSO:=hid hso
   have HSC:=hid hsc
   obtain ⟨ns,hns⟩:∃ ns,ns = y.states.length:=⟨_,rfl⟩
   rw [← hns] at I5 HSO HSC hsl
   have HNS:=hid hns
   clear hf h5 i0 i1 i2 i3 i4 i5 i6 i7 i8 hso hsc hok hns hy
   go_enter Tryz.func20,Tryz.ntmps20
   go_wp2_with (go_at_call 19;(with_reducible refine (FD.out _ hb0.out).mono ?_);rintro e w1 ⟨rfl,hb1⟩;have HB1:=hid (hb0.out.trans (hb1.mono hb0.out.size));obtain ⟨_,b0,b1,b2,b3,b4,b5,b6⟩:=QAe (QAa (o:=.cells #[.string xn,.int .i64 xs,.int .i64 xt,.int .i64 (k:Int)] 67) ((hb1.block _ (lt_of_heap B0.out)).trans B0.out));have p5:=QA1 (QA5 HB1.out (.cells #[.string xn,.int .i64 xs,.int .i64 xt,.int .i64 (k:Int)] 67)) I5.out;clear hb1)
   obtain ⟨V,hV⟩:∃ V,V = w1.alloc (.cells #[.string xn,.int .i64 xs,.int .i64 xt,.int .i64 (k:Int)] 67):=⟨_,rfl⟩
   have hbV:Below w.heap.size w V:=by rw [hV];exact QA5 HB1.out _
   rw [← hV]
   have HBV:=hid hbV
   clear hV hbV b0 b1 b2 b3 b4 b5 b6 p5
   go_loopw [10] (fun i wr=>∃ c:Nat,i = .int .i64 c∧c≤ns∧wr = V∧Hid (∀ e,e < c→∀ s,y.states[e]? = some s→¬ s = nm)) (fun i _=>ns - QA2 i)
   case atStart=>exact ⟨0,rfl,Nat.zero_le _,rfl,hid fun e he=>by omega⟩
   case round =>
    obtain ⟨c,rfl,hc,rfl,hno⟩:=hrel
    rcases Nat.lt_or_ge c ns with hlt | hge
    ·have q4:(c:Int) < (ns:Int):=by omega
     have ixs:=QIF (cap:=caps) HSO.out hlt (by omega)
     unfold Ix at ixs
     simp only [Nat.mul_one] at ixs
     obtain ⟨s,hs⟩:∃ s,y.states[c]? = some s:=⟨_,List.getElem?_eq_getElem (by have:=HNS.out;omega)⟩
     have e0:wr.cell? ⟨bs,offs+c,none⟩ = some (.string s):=QA1 HBV.out (by
      have h:=HSC.out c hlt
      rw [Nat.mul_one,List.getD,hs] at h
      exact h)
     have HS:=hid hs
     clear hs
     by_cases he:s = nm
     ·have q6:(s.toList == nm.toList) = true:=by rw [he];simp
      have HE:=hid he
      clear he
      go_wp2_with fail
      go_ret
      exact ⟨by rw [R.out,List.any_eq_true.2 ⟨s,List.mem_of_getElem? HS.out,by simpa using HE.out⟩];rfl,HBV.out⟩
     ·have q6:(s.toList == nm.toList) = false:=beq_false_of_ne fun h=>he ((QFU s nm).1 h)
      have HE:=hid he
      clear he
      go_wp2_with fail
      go_round
      case rel=>exact ⟨c+1,by go_num,by omega,trivial,hid fun e h1 s' h2=>by
       by_cases e2:e = c
       ·subst e2;rw [HS.out] at h2;cases h2;exact HE.out
       ·exact hno.out e (by omega) s' h2⟩
      case measure=>simp [QA2];omega
    ·obtain rfl:c = ns:=by omega
     go_wp2_with fail
     go_ret
     refine ⟨?_,HBV.out⟩
     rw [R.out,List.any_eq_false.2 fun s hs=>by
      obtain ⟨e,he,rfl⟩:=List.getElem_of_mem hs
      simpa using hno.out e (by have:=HNS.out;omega) _ (List.getElem?_eq_getElem he)]
     rfl
  ·have q5:(xs != 5) = true:=by simpa using h5
   have R:Hid (QBX d mode nm = false):=hid (by unfold QBX;rw [hf];simp [h5])
   clear hf h5
   go_enter Tryz.func20,Tryz.ntmps20
   go_wp2_with (go_at_call 19;(with_reducible refine (FD.out _ hb0.out).mono ?_);rintro e w1 ⟨rfl,hb1⟩;have HB1:=hid (hb0.out.trans (hb1.mono hb0.out.size));have BX:=hid ((hb1.block _ (lt_of_heap B0.out)).trans B0.out);clear hb1)
   go_ret
   exact ⟨by rw [R.out];rfl,QA5 HB1.out _⟩
theorem QFQ (n:Nat) (hn:n≤1000000) (W:World):(Instr.makeSlice 71 (.int .i64 (n:Int)) (.int .i64 (n:Int))).run Tryz.prog W = .ok (.slice (some ⟨W.heap.size,0,none⟩) n n) (W.alloc (.cells (madeCells #[.bool false] n) 4)):=by
 obtain ⟨i,h2,h3,h4,h5⟩:=info_parts (show (Tryz.prog.info? 4).map (fun i=>(i.zero,i.size,i.bytes)) = some (some (.bool false),1,1) by kernel_rfl)
 have hr:=run_make (P:=Tryz.prog) W 71 4 i _ Tryz.underlying71 h2 h3 .i64 .i64 n n (by omega) (by omega) (by rw [h5];omega) (by omega)
 simp only [Int.toNat_natCast,h4,Nat.mul_one] at hr
 exact hr
theorem QEi {g n:Nat} {j:Nat} (hj:j < n) (hn:n≤9223372036854775807):Ix 71 1 (.slice (some ⟨g,0,none⟩) n n) g 0 j:=by
 intro W
 have h1:(j:Int) < (n:Int):=by omega
 have h2:(j:Int)≤9223372036854775807:=by omega
 go_simp
theorem QLt {o:Option Addr} {n cap b off:Nat} (h:0 < n→o = some ⟨b,off,none⟩) {j:Nat} (hj:j < n) (hn:n≤9223372036854775807):Ix 52 1 (.slice o n cap) b off j:=QGY h hj hn
def BoolRow (X:World) (g ne:Nat) (S:Nat→Bool):Prop:=∃ cs:Array Value,X.heap[g]? = some (.cells cs 4 (0,0))∧cs.size = ne∧∀ j,j < ne→cs[j]? = some (.bool (S j))
theorem BoolRow.lt {X:World} {g ne:Nat} {S:Nat→Bool} (h:BoolRow X g ne S):g < X.heap.size:=by obtain ⟨cs,h1,_⟩:=h;exact lt_of_heap h1
theorem BoolRow.below {X Y:World} {g ne s:Nat} {S:Nat→Bool} (h:BoolRow X g ne S) (hb:Below s X Y) (hg:g < s):BoolRow Y g ne S:=by
 obtain ⟨cs,h1,h2⟩:=h
 exact ⟨cs,(hb.block g hg).trans h1,h2⟩
theorem BoolRow.cell {X:World} {g ne:Nat} {S:Nat→Bool} (h:BoolRow X g ne S) {j:Nat} (hj:j < ne):X.cell? ⟨g,j,none⟩ = some (.bool (S j))∧X.frozen? ⟨g,j,none⟩ = false:=by
 obtain ⟨cs,h1,h2,h3⟩:=h
 exact ⟨by simp [World.cell?,h1,h3 j hj],by simp [World.frozen?,h1]⟩
def QOC (S:Nat→Bool) (z:Nat):Nat→Bool:=fun j=>if j = z then true else S j
theorem BoolRow.set {X:World} {g ne:Nat} {S:Nat→Bool} (h:BoolRow X g ne S) (z:Nat):BoolRow (X.setCell ⟨g,z,none⟩ (.bool true)) g ne (QOC S z):=by
 obtain ⟨cs,h1,h2,h3⟩:=h
 refine ⟨_,set_heap h1 z _,by simp [h2],fun j hj=>?_⟩
 rw [Array.getElem?_setIfInBounds]
 unfold QOC
 by_cases hji:z = j
 ·subst hji;rw [if_pos rfl,if_pos (by omega),if_pos rfl]
 ·rw [if_neg hji,h3 j hj,if_neg (Ne.symm hji)]
def kLenR:Value→Nat
 | .int _ z=>(z+1).toNat
 | _=>0
def QEr (p:Pr) (d:De) (w:World) (r:Ending) (Y:World):Prop:=∃ (g:Nat) (S:Nat→Bool),r = .returned (.slice (some ⟨g,0,none⟩) p.exprs.length p.exprs.length)∧BoolRow Y g p.exprs.length S∧(∀ k,k < p.exprs.length→(S k = true↔Reach p (QAC d) k))∧Below w.heap.size w Y
set_option maxRecDepth 100000 in
theorem QHd (p:Pr) (d:De) (o1 o2:Option Addr) (n1 c1 ne c2 xb xoff:Nat) (v0:Value) (k0 t0 f0 q0:Int) (nm0:ByteArray) (op oi:Option Addr) (np cp ni ci:Nat) (hv0:v0 = .agg #[.int .i64 k0,.string nm0,.slice op np cp,.slice oi ni ci,.int .i64 t0,.int .i64 f0,.int .i64 q0]) (w:World) (hne:Hid (p.exprs.length = ne)) (nel:(ne:Int)≤300)
  (hx:Hid (0 < ne→o2 = some ⟨xb,xoff,none⟩)) (hxc:Hid (∀ i,i < ne→∀ x,p.exprs[i]? = some x→ExAt w xb (xoff+i*9) x)) (hdv:Hid (DeVal w v0 d)) (hdk:1≤d.kind) (hdi:d.items.length≤600) (hsm:Hid (Small p)) (hmay:Hid (QFE p = true)) (hro:Hid (∀ r∈QAC d,∃ z:Nat,r = (z:Int)∧z < ne)) :
  Calls Tryz.prog 21 #[.agg #[.slice o1 n1 c1,.slice o2 ne c2],v0] w fun r Y=>QEr p d w r Y:=by
 have hmk:=QFQ ne (by omega)
 have hb0:=hid (QA5 (QA5 (QA5 (Below.refl w.heap.size w) (.cells #[.slice o1 n1 c1,.slice o2 ne c2] 26)) (.cells #[.int .i64 k0,.string nm0,.slice op np cp,.slice oi ni ci,.int .i64 t0,.int .i64 f0,.int .i64 q0] 36)) (.cells (madeCells #[.bool false] ne) 4))
 have RT:=hid (fun W (hW:Below w.heap.size w W)=>QHh v0 d W (hdv.out.below hW) hdk hdi)
 subst hv0
 have P0:Hid ((((w.alloc (.cells #[.slice o1 n1 c1,.slice o2 ne c2] 26)).alloc (.cells #[.int .i64 k0,.string nm0,.slice op np cp,.slice oi ni ci,.int .i64 t0,.int .i64 f0,.int .i64 q0] 36)).alloc (.cells (madeCells #[.bool false] ne) 4)).heap[w.heap.size]? = some (.cells #[.slice o1 n1 c1,.slice o2 ne c2] 26 (0,0))):=hid (QAa (QAa (QAR rfl)))
 have R0:Hid (BoolRow (((w.alloc (.cells #[.slice o1 n1 c1,.slice o2 ne c2] 26)).alloc (.cells #[.int .i64 k0,.string nm0,.slice op np cp,.slice oi ni ci,.int .i64 t0,.int .i64 f0,.int .i64 q0] 36)).alloc (.cells (madeCells #[.bool false] ne) 4)) (w.heap.size+1+1) ne (fun _=>false)):=hid ⟨_,QAR (by simp),by simp [madeCells],fun j hj=>by rw [← Array.getElem?_toList,toList_madeCells_one,List.getElem?_replicate,if_pos hj]⟩
 go_enter Tryz.func21,Tryz.ntmps21
 go_wp2_with (go_at_call 50;(with_reducible refine (RT.out _ hb0.out).mono ?_);rintro e w1 ⟨rv,rfl,hrv,hb1⟩;have HRV:=hid hrv;have HB1:=hid (hb0.out.trans (hb1.mono hb0.out.size));have P1:=hid ((hb1.block _ (lt_of_heap P0.out)).trans P0.out);have R1:=hid (R0.out.below hb1 R0.out.lt);clear hb1;obtain ⟨ro,rcap,rb,roff,rfl,_,_,hr1,hr2⟩:=hrv)
 have HR1:=hid hr1
 have HR2:=hid hr2
 clear hr1 hr2 hmk
 obtain ⟨nr,hnr⟩:∃ nr,nr = (QAC d).length:=⟨_,rfl⟩
 rw [← hnr] at HR1 HR2 ⊢
 have HNR:=hid hnr
 have nrl:(nr:Int)≤100000:=by have:=QEC d;omega
 clear hnr
 go_loopw [7] (fun i wr=>∃ c:Nat,i = .int .i64 c∧c≤nr∧Hid (∃ S,BoolRow wr (w.heap.size+1+1) ne S∧(∀ k,k < ne→S k = true→Reach p (QAC d) k)∧∀ e r,e < c→(QAC d)[e]? = some (r:Int)→S r.toNat = true)∧Hid (Below w.heap.size w wr∧(∀ k,k < w1.heap.size→k≠w.heap.size+1+1→wr.heap[k]? = w1.heap[k]?)∧w1.heap.size≤wr.heap.size)) (fun i _=>nr - QA2 i)
 case atStart=>exact ⟨0,rfl,Nat.zero_le _,hid ⟨_,R1.out,(fun k _ h=>by cases h),(fun e r h=>by omega)⟩,hid ⟨HB1.out,fun _ _ _=>rfl,Nat.le_refl _⟩⟩
 case round =>
  obtain ⟨c,rfl,hc,hS,hB⟩:=hrel
  rcases Nat.lt_or_ge c nr with hlt | hge
  ·have hl:(c:Int) < (nr:Int):=by omega
   obtain ⟨r,hr⟩:∃ r,(QAC d)[c]? = some r:=⟨_,List.getElem?_eq_getElem (by have:=HNR.out;omega)⟩
   obtain ⟨z,rfl,hz⟩:=hro.out r (List.mem_of_getElem? hr)
   have hrb:rb < w1.heap.size:=World.block_lt_of_cell? _ _ (HR2.out c hlt _ hr)
   have hrn:rb≠w.heap.size+1+1:=fun e=>by
    have h1:=HR2.out c hlt _ hr
    obtain ⟨cs,h2,h3,h4⟩:=R1.out
    rw [e] at h1
    unfold World.cell? at h1
    rw [h2] at h1
    dsimp only at h1
    rcases Nat.lt_or_ge (roff+c*1) ne with h5 | h5
    ·rw [h4 _ h5] at h1;cases h1
    ·rw [Array.getElem?_eq_none (by omega)] at h1;cases h1
   have cr:wr.cell? ⟨rb,roff+c,none⟩ = some (.int .i64 (z:Int)):=by
    have h1:=HR2.out c hlt _ hr
    rw [Nat.mul_one] at h1
    exact (cell_same' (hB.out.2.1 rb hrb hrn) _).trans h1
   have ixr:=QLt (cap:=rcap) HR1.out hlt (by omega)
   have ixz:=QEi (g:=w.heap.size+1+1) hz (by omega)
   unfold Ix at ixr ixz
   simp only [Nat.mul_one,Nat.zero_add] at ixr ixz
   have zl:(z:Int) < (ne:Int):=by omega
   obtain ⟨S,h1,h2,h3⟩:=hS.out
   obtain ⟨g0,g1⟩:=h1.cell hz
   have HS2:Hid (∃ S,BoolRow (wr.setCell ⟨w.heap.size+1+1,z,none⟩ (.bool true)) (w.heap.size+1+1) ne S∧(∀ k,k < ne→S k = true→Reach p (QAC d) k)∧∀ e r,e < c+1→(QAC d)[e]? = some (r:Int)→S r.toNat = true):=hid ⟨_,h1.set z,fun k hk hs=>by
     unfold QOC at hs
     by_cases e:k = z
     ·subst e;exact .root (List.mem_of_getElem? hr)
     ·rw [if_neg e] at hs;exact h2 k hk hs,fun e r he hr2=>by
     unfold QOC
     by_cases e2:e = c
     ·subst e2;rw [hr] at hr2;cases hr2;simp
     ·split
      ·rfl
      ·exact h3 e r (by omega) hr2⟩
   have HB2:Hid (Below w.heap.size w (wr.setCell ⟨w.heap.size+1+1,z,none⟩ (.bool true))∧(∀ k,k < w1.heap.size→k≠w.heap.size+1+1→(wr.setCell ⟨w.heap.size+1+1,z,none⟩ (.bool true)).heap[k]? = w1.heap[k]?)∧w1.heap.size≤(wr.setCell ⟨w.heap.size+1+1,z,none⟩ (.bool true)).heap.size):=hid ⟨hB.out.1.setCell (p:=⟨w.heap.size+1+1,z,none⟩) (show w.heap.size≤w.heap.size+1+1 by omega) _,fun k h1 h2=>(QBA wr _ k z _ h2).trans (hB.out.2.1 k h1 h2),by simp only [World.size_setCell];exact hB.out.2.2⟩
   clear hS hB h1 h2 h3 hr hrb hrn
   go_wp2_with fail
   exact ⟨⟨c+1,by go_num,by omega,HS2,HB2⟩,by simp [QA2];omega⟩
  ·obtain rfl:c = nr:=by omega
   have hpx:=(hB.out.2.1 w.heap.size (lt_of_heap P1.out) (by omega)).trans P1.out
   have b1:=(QAA hpx).2
   have HS0:Hid (∃ S,BoolRow wr (w.heap.size+1+1) ne S∧(∀ k,k < ne→S k = true→Reach p (QAC d) k)∧(∀ r,r∈QAC d→S r.toNat = true)∧∀ e,ne≤e→e < ne→S e = true→∀ z∈QAn p e,S z = true):=hid (by
    obtain ⟨S,h1,h2,h3⟩:=hS.out
    exact ⟨S,h1,h2,fun r hr=>by obtain ⟨e,he,rfl⟩:=List.getElem_of_mem hr;exact h3 e _ (by rw [HNR.out];exact he) (List.getElem?_eq_getElem he),fun e h4 h5=>by omega⟩)
   have HB0:Hid (Below w.heap.size w wr∧wr.heap[w.heap.size]? = some (.cells #[.slice o1 n1 c1,.slice o2 ne c2] 26 (0,0))):=hid ⟨hB.out.1,hpx⟩
   clear hS hB hpx
   go_wp2_with fail
   clear b1
   go_loopw [8] (fun i X=>∃ (c:Nat) (z:Int),i = .int .i64 z∧Hid (z = (c:Int) - 1)∧c≤ne∧Hid (∃ S,BoolRow X (w.heap.size+1+1) ne S∧(∀ k,k < ne→S k = true→Reach p (QAC d) k)∧(∀ r,r∈QAC d→S r.toNat = true)∧∀ e,c≤e→e < ne→S e = true→∀ z∈QAn p e,S z = true)∧Hid (Below w.heap.size w X∧X.heap[w.heap.size]? = some (.cells #[.slice o1 n1 c1,.slice o2 ne c2] 26 (0,0)))) (fun i _=>kLenR i)
   case atStart=>exact ⟨ne,_,rfl,hid rfl,Nat.le_refl _,HS0,HB0⟩
   case round =>
    clear HS0 HB0
    obtain ⟨c,z,rfl,hz,hc,hS,hB⟩:=hrel
    rcases c with _ | c
    ·have q0:decide ((0:Int)≤z) = false:=decide_eq_false (by have:=hz.out;omega)
     go_wp2_with fail
     go_ret
     obtain ⟨S,h1,h2,h3,h4⟩:=hS.out
     refine ⟨_,S,by rw [hne.out];rfl,by rw [hne.out];exact h1,fun k hk=>⟨h2 k (by rw [← hne.out];exact hk),fun hr=>?_⟩,hB.out.1⟩
     clear hk
     have key:∀ k,Reach p (QAC d) k→k < ne∧S k = true:=fun k hr=>by
      induction hr with
      | @root n h=>exact ⟨by obtain ⟨z2,e1,e2⟩:=hro.out _ h;omega,by simpa using h3 _ h⟩
      | @part n m _ hm ih=>exact ⟨by have:=QGM hmay.out n m hm;omega,h4 n (Nat.zero_le _) ih.1 ih.2 m hm⟩
     exact (key k hr).2
    ·obtain rfl:z = (c:Int):=by have:=hz.out;omega
     clear hz
     have hcn:c < ne:=hc
     have q0:(c:Int) < (ne:Int):=by omega
     obtain ⟨x,hxc2⟩:∃ x,p.exprs[c]? = some x:=⟨_,List.getElem?_eq_getElem (by rw [hne.out];exact hcn)⟩
     obtain ⟨s,e0,e1,e2,e3,e4,e5,e6,e7,e8,ha,hok⟩:=hxc.out c hcn x hxc2
     obtain ⟨oa,ca,ba,fa,rfl,_⟩:=id ha
     have hBl:=hB.out.1
     have p0:=QA1 hBl e0
     have p1:=QA1 hBl e1
     have p2:=QA1 hBl e2
     have p3:=QA1 hBl e3
     have p4:=QA1 hBl e4
     have p5:=QA1 hBl e5
     have p6:=QA1 hBl e6
     have p7:=QA1 hBl e7
     have p8:=QA1 hBl e8
     have b1:=(QAA hB.out.2).2
     have ix:=QHP (cap:=c2) hx.out hcn (by omega)
     unfold Ix at ix
     have PF:=hid (QHg x (.slice oa x.args.length ca) wr (ha.mono fun _ _ _ _ h=>QA1 hBl h) (QBz hsm.out hxc2))
     unfold exV QA4 at PF
     have HPN:=hid (QFI hmay.out hxc2)
     have HPL:=hid (QBz hsm.out hxc2)
     clear e0 e1 e2 e3 e4 e5 e6 e7 e8 ha hok hBl hxc2
     go_wp2_with (go_at_call 51;(with_reducible refine PF.out.mono ?_);rintro e w4 ⟨y,rfl,hy,hb4⟩;have HY:=hid hy;have HB4:=hid hb4;clear hy hb4)
     have hIV:=QHJ HY.out
     obtain ⟨ao,acap,ab,aoff,rfl,_,_,ha1,ha2⟩:=hIV
     have HA1:=hid ha1
     have HA2:=hid ha2
     have hbase:∀ g2,(Value.slice ao (QAB x).length acap).ownBlock = some g2→wr.heap.size≤g2:=fun g2 h=>(QBT HY.out h).1
     have hnb:0 < (QAB x).length→wr.heap.size≤ab:=fun h=>hbase ab (by rw [ha1 h];rfl)
     obtain ⟨np2,hnp2⟩:∃ np2,np2 = (QAB x).length:=⟨_,rfl⟩
     rw [← hnp2] at HA1 HA2 hnb ⊢
     have HNP:=hid hnp2
     have npl:(np2:Int)≤1000:=by have:=HPL.out;omega
     have HNB:=hid hnb
     have HS4:Hid (∃ S,BoolRow w4 (w.heap.size+1+1) ne S∧(∀ k,k < ne→S k = true→Reach p (QAC d) k)∧(∀ r,r∈QAC d→S r.toNat = true)∧(∀ e,c+1≤e→e < ne→S e = true→∀ z∈QAn p e,S z = true)∧(S c = true→∀ e,e < 0→∀ z,(QAn p c)[e]? = some z→S z = true)):=hid (by
      obtain ⟨S,h1,h2,h3,h4⟩:=hS.out
      exact ⟨S,h1.below HB4.out h1.lt,h2,h3,h4,fun _ e he=>by omega⟩)
     have HG:Hid (w.heap.size+1+1 < wr.heap.size):=hid (by obtain ⟨S,h1,_⟩:=hS.out;exact h1.lt)
     have HBB:Hid (Below w.heap.size w w4∧w4.heap[w.heap.size]? = some (.cells #[.slice o1 n1 c1,.slice o2 ne c2] 26 (0,0))):=hid ⟨hB.out.1.trans (HB4.out.mono hB.out.1.size),(HB4.out.block _ (lt_of_heap hB.out.2)).trans hB.out.2⟩
     clear hS hB ha1 ha2 hbase hnb hnp2 p0 p1 p2 p3 p4 p5 p6 p7 p8 b1 ix PF
     go_loopw [10] (fun i X=>∃ m:Nat,i = .int .i64 m∧m≤np2∧Hid (∃ S,BoolRow X (w.heap.size+1+1) ne S∧(∀ k,k < ne→S k = true→Reach p (QAC d) k)∧(∀ r,r∈QAC d→S r.toNat = true)∧(∀ e,c+1≤e→e < ne→S e = true→∀ z∈QAn p e,S z = true)∧(S c = true→∀ e,e < m→∀ z,(QAn p c)[e]? = some z→S z = true))∧Hid ((Below w.heap.size w X∧X.heap[w.heap.size]? = some (.cells #[.slice o1 n1 c1,.slice o2 ne c2] 26 (0,0)))∧(∀ k,k < w4.heap.size→k≠w.heap.size+1+1→X.heap[k]? = w4.heap[k]?))) (fun i _=>np2 - QA2 i)
     case atStart=>exact ⟨0,rfl,Nat.zero_le _,HS4,hid ⟨HBB.out,fun _ _ _=>rfl⟩⟩
     case round =>
      clear HS4 HBB
      obtain ⟨m,rfl,hm,hS,hB⟩:=hrel
      obtain ⟨S,h1,h2,h3,h4,h5⟩:=hS.out
      have ixc:=QEi (g:=w.heap.size+1+1) hcn (by omega)
      unfold Ix at ixc
      simp only [Nat.mul_one,Nat.zero_add] at ixc
      obtain ⟨g0,g1⟩:=h1.cell hcn
      have HB2:=hid hB.out.1
      have HC:Hid (S c = true→m = np2→∀ z∈QAn p c,S z = true):=hid fun hs hmn z hz=>by
       obtain ⟨e,he,rfl⟩:=List.getElem_of_mem hz
       have hlen:(QAB x).length = (QAn p c).length:=by have:=congrArg List.length HPN.out;simpa using this
       exact h5 hs e (by rw [hmn,HNP.out,hlen];exact he) _ (List.getElem?_eq_getElem he)
      have HEND:Hid ((S c = true→∀ z∈QAn p c,S z = true)→∃ S,BoolRow wr (w.heap.size+1+1) ne S∧(∀ k,k < ne→S k = true→Reach p (QAC d) k)∧(∀ r,r∈QAC d→S r.toNat = true)∧∀ e,c≤e→e < ne→S e = true→∀ z∈QAn p e,S z = true):=hid fun h=>⟨S,h1,h2,h3,fun e he hen hse z hz=>by
       by_cases e2:e = c
       ·subst e2;exact h hse z hz
       ·exact h4 e (by omega) hen hse z hz⟩
      rcases Nat.lt_or_ge m np2 with hlt | hge
      ·have hl:(m:Int) < (np2:Int):=by omega
       cases hsc:S c with
       | false =>
        rw [hsc] at g0
        have HE2:=hid (HEND.out (fun h=>by rw [hsc] at h;cases h))
        clear hS hB h1 h2 h3 h4 h5 hsc
        go_wp2_with fail
        go_roundw
        case rel=>exact ⟨c,(c:Int) - 1,rfl,hid rfl,by omega,HE2,HB2⟩
        case measure=>show ((c:Int) - 1+1).toNat < ((c:Int)+1).toNat;omega
       | true =>
        rw [hsc] at g0
        obtain ⟨zz,hzz⟩:∃ zz,(QAn p c)[m]? = some zz:=⟨_,List.getElem?_eq_getElem (by
         have hlen:(QAB x).length = (QAn p c).length:=by have:=congrArg List.length HPN.out;simpa using this
         rw [← hlen,← HNP.out];exact hlt)⟩
        have hzc:zz < c:=QGM hmay.out c zz (List.mem_of_getElem? hzz)
        have hzn:zz < ne:=by omega
        have hpv:(QAB x)[m]? = some (zz:Int):=by
         have h6:=congrArg (fun l=>l[m]?) HPN.out
         simp only [List.getElem?_map,hzz,Option.map_some] at h6
         cases h7:(QAB x)[m]? with
         | none=>rw [h7] at h6;cases h6
         | some q=>rw [h7] at h6;simp only [Option.map_some,Option.some.injEq,QGv,QNs,Value.int.injEq,true_and] at h6;rw [h6]
        have c4:=HA2.out m hlt _ hpv
        rw [Nat.mul_one] at c4
        have hab:ab < w4.heap.size:=World.block_lt_of_cell? _ _ c4
        have c5:=(cell_same' (hB.out.2 ab hab (by have:=HNB.out (by omega);have:=HG.out;omega)) _).trans c4
        have ixr:=QLt (cap:=acap) HA1.out hlt (by omega)
        have ixz:=QEi (g:=w.heap.size+1+1) hzn (by omega)
        unfold Ix at ixr ixz
        simp only [Nat.mul_one,Nat.zero_add] at ixr ixz
        have zl:(zz:Int) < (ne:Int):=by omega
        obtain ⟨k0',k1'⟩:=h1.cell hzn
        have HN2:Hid (∃ S,BoolRow (wr.setCell ⟨w.heap.size+1+1,zz,none⟩ (.bool true)) (w.heap.size+1+1) ne S∧(∀ k,k < ne→S k = true→Reach p (QAC d) k)∧(∀ r,r∈QAC d→S r.toNat = true)∧(∀ e,c+1≤e→e < ne→S e = true→∀ z∈QAn p e,S z = true)∧(S c = true→∀ e,e < m+1→∀ z,(QAn p c)[e]? = some z→S z = true)):=hid ⟨QOC S zz,h1.set zz,fun k hk hs=>by
          unfold QOC at hs
          by_cases e:k = zz
          ·subst e;exact .part (h2 c hcn hsc) (List.mem_of_getElem? hzz)
          ·rw [if_neg e] at hs;exact h2 k hk hs,fun r hr=>by
          unfold QOC
          split
          ·rfl
          ·exact h3 r hr,fun e he hen hse z hz=>by
          unfold QOC at hse ⊢
          rw [if_neg (by omega)] at hse
          split
          ·rfl
          ·exact h4 e he hen hse z hz,fun _ e he z hz=>by
          unfold QOC
          by_cases e2:e = m
          ·subst e2;rw [hzz] at hz;cases hz;rw [if_pos rfl]
          ·split
           ·rfl
           ·exact h5 hsc e (by omega) z hz⟩
        have HB5:Hid ((Below w.heap.size w (wr.setCell ⟨w.heap.size+1+1,zz,none⟩ (.bool true))∧(wr.setCell ⟨w.heap.size+1+1,zz,none⟩ (.bool true)).heap[w.heap.size]? = some (.cells #[.slice o1 n1 c1,.slice o2 ne c2] 26 (0,0)))∧(∀ k,k < w4.heap.size→k≠w.heap.size+1+1→(wr.setCell ⟨w.heap.size+1+1,zz,none⟩ (.bool true)).heap[k]? = w4.heap[k]?)):=hid ⟨⟨hB.out.1.1.setCell (p:=⟨w.heap.size+1+1,zz,none⟩) (show w.heap.size≤w.heap.size+1+1 by omega) _,(QBA wr _ _ zz _ (by omega)).trans hB.out.1.2⟩,fun k h6 h7=>(QBA wr _ k zz _ h7).trans (hB.out.2 k h6 h7)⟩
        clear hS hB h1 h2 h3 h4 h5 hsc hzz hpv c4 HEND HC
        go_wp2_with fail
        go_roundw
        case rel=>exact ⟨m+1,by go_num,by omega,HN2,HB5⟩
        case measure=>simp [QA2];omega
      ·obtain rfl:m = np2:=by omega
       have HE2:=hid (HEND.out (fun h=>HC.out h rfl))
       clear hS hB h1 h2 h3 h4 h5
       go_wp2_with fail
       go_roundw
       case rel=>exact ⟨c,(c:Int) - 1,rfl,hid rfl,by omega,HE2,HB2⟩
       case measure=>show ((c:Int) - 1+1).toNat < ((c:Int)+1).toNat;omega
end
section
open Go.RowKit Lx Go.Shelf Go.Maps
theorem QG9 {d:De} {x:Va} (hx:x∈QAV d):1≤x.sort∧x.sort≤5:=by
 unfold QAV QBI QB4 at hx
 rcases List.mem_append.1 hx with h | h
 ·obtain ⟨⟨a,k⟩,h1,rfl⟩:=List.mem_map.1 h
  dsimp only
  omega
 ·obtain ⟨⟨a,k⟩,h1,h2⟩:=List.mem_filterMap.1 h
  dsimp only at h2
  split at h2
  ·cases h2
  ·rename_i hm
   cases h2
   dsimp only
   unfold QCI at hm ⊢
   repeat' split
   all_goals first | omega | (exfalso;omega)
theorem QNU (d:De) (nm:ByteArray) (k:Int):QE2 d nm [k] = match (QAV d).find? (fun y=>decide (y.name = nm)) with
 | some v=>v.sort == k
 | none=>false:=by
 unfold QE2
 cases (QAV d).find? (fun y=>decide (y.name = nm)) <;> simp
theorem QK4 (d:De) (nm:ByteArray):QE2 d nm [2,3,4] = match (QAV d).find? (fun y=>decide (y.name = nm)) with
 | some v=>!(v.sort == 1 || v.sort == 5)
 | none=>false:=by
 unfold QE2
 cases h:(QAV d).find? (fun y=>decide (y.name = nm)) with
 | none=>rfl
 | some v =>
  obtain ⟨h1,h2⟩:=QG9 (List.mem_of_find?_eq_some h)
  have:v.sort = 1∨v.sort = 2∨v.sort = 3∨v.sort = 4∨v.sort = 5:=by omega
  dsimp only
  rcases this with e | e | e | e | e <;> rw [e] <;> rfl
theorem QLk (d:De) (nm:ByteArray):QE2 d nm [1,2,3,4] = match (QAV d).find? (fun y=>decide (y.name = nm)) with
 | some v=>!(v.sort == 5)
 | none=>false:=by
 unfold QE2
 cases h:(QAV d).find? (fun y=>decide (y.name = nm)) with
 | none=>rfl
 | some v =>
  obtain ⟨h1,h2⟩:=QG9 (List.mem_of_find?_eq_some h)
  have:v.sort = 1∨v.sort = 2∨v.sort = 3∨v.sort = 4∨v.sort = 5:=by omega
  dsimp only
  rcases this with e | e | e | e | e <;> rw [e] <;> rfl
theorem QLD:∀ l:List (List UInt8),QLC l = l.length↔l.Nodup
 | []=>by simp [QLC]
 | x :: l=>by
  have h:=QI0 l
  have ih:=QLD l
  unfold QLC
  rw [List.nodup_cons]
  by_cases hx:l.contains x = true
  ·rw [if_pos hx]
   have hm:x∈l:=by simpa using hx
   simp only [List.length_cons]
   exact ⟨fun e=>by omega,fun e=>absurd hm e.1⟩
  ·rw [if_neg hx]
   have hm:x ∉ l:=by simpa using hx
   simp only [List.length_cons]
   exact ⟨fun e=>⟨hm,ih.1 (by omega)⟩,fun e=>by have:=ih.2 e.2;omega⟩
theorem QIu (l:List ByteArray):QDe l = true↔∃ i k,k < i∧i < l.length∧l[i]? = l[k]?:=by
 unfold QDe
 rw [decide_eq_true_eq]
 have hle:=QI0 (l.map (fun s=>s.data.toList)).reverse
 have hall:=QLD (l.map (fun s=>s.data.toList)).reverse
 rw [List.length_reverse,List.length_map] at hle hall
 rw [(List.reverse_perm _).nodup_iff] at hall
 have hinj:∀ a b:ByteArray,a.data.toList = b.data.toList→a = b:=fun a b h=>ByteArray.ext (Array.toList_inj.1 h)
 constructor
 ·intro hlt
  have hn:¬ (l.map (fun s=>s.data.toList)).Nodup:=fun h=>by have:=hall.2 h;omega
  apply Classical.byContradiction
  intro hno
  apply hn
  rw [List.nodup_iff_pairwise_ne,List.pairwise_iff_getElem]
  intro k i hk hi hki e
  rw [List.length_map] at hi hk
  apply hno
  refine ⟨i,k,hki,hi,?_⟩
  rw [List.getElem_map,List.getElem_map] at e
  rw [List.getElem?_eq_getElem hi,List.getElem?_eq_getElem hk,hinj _ _ e]
 ·rintro ⟨i,k,hki,hi,e⟩
  have hn:¬ (l.map (fun s=>s.data.toList)).Nodup:=fun h=>by
   rw [List.nodup_iff_pairwise_ne,List.pairwise_iff_getElem] at h
   have hk:k < l.length:=by omega
   rw [List.getElem?_eq_getElem hi,List.getElem?_eq_getElem hk,Option.some.injEq] at e
   exact h k i (by rw [List.length_map];exact hk) (by rw [List.length_map];exact hi) hki (by rw [List.getElem_map,List.getElem_map,e])
  have:¬ QLC (l.map (fun s=>s.data.toList)).reverse = l.length:=fun h=>hn (hall.1 h)
  omega
theorem QJX (nm:ByteArray):∀ (l:List De) (n:Nat),((l.zipIdx n).find? fun z=>decide (z.1.name = nm)).map (·.2) = (l.findIdx? fun d=>decide (d.name = nm)).map (n+·)
 | [],_=>rfl
 | x :: l,n=>by
  rw [List.zipIdx_cons,List.find?_cons,List.findIdx?_cons]
  by_cases h:x.name = nm
  ·simp [h]
  ·rw [decide_eq_false h]
   dsimp only
   rw [QJX nm l (n+1)]
   simp only [Bool.false_eq_true,if_false,Option.map_map]
   congr 1
   funext i
   simp only [Function.comp]
   omega
theorem QDd (p:Pr) (nm:ByteArray):QDF p.decls nm = ((QBR p nm).map fun z=>(z.2:Int)).getD (-1):=by
 have h:=QJX nm p.decls 0
 unfold QDF QBR
 cases hc:p.decls.zipIdx.find? (fun z=>decide (z.1.name = nm)) with
 | none =>
  rw [hc] at h
  cases hf:p.decls.findIdx? (fun d=>decide (d.name = nm)) with
  | none=>rfl
  | some i=>rw [hf] at h;cases h
 | some z =>
  rw [hc] at h
  cases hf:p.decls.findIdx? (fun d=>decide (d.name = nm)) with
  | none=>rw [hf] at h;cases h
  | some i =>
   rw [hf] at h
   simp only [Option.map_some,Option.some.injEq,Nat.zero_add] at h
   rw [← h];rfl
theorem QHD {p:Pr} {i:Nat} {d:De} (hd:p.decls[i]? = some d):QDM p d.name = QDF p.decls d.name:=by
 rw [QDd]
 unfold QDM
 cases hc:QBR p d.name with
 | some z=>rfl
 | none =>
  unfold QBR at hc
  have:=List.find?_eq_none.1 hc (d,i) (List.mem_zipIdx_iff_getElem?.2 hd)
  simp at this
theorem QHY:∀ (l m:List Int),l.Nodup→(∀ x∈l,x∈m)→l.length≤m.length
 | [],_,_,_=>Nat.zero_le _
 | a :: l,m,hn,hs=>by
  obtain ⟨h1,h2⟩:=List.nodup_cons.1 hn
  have hm:a∈m:=hs a List.mem_cons_self
  have h3:=QHY l (m.erase a) h2 fun x hx=>by
   have hne:x≠a:=fun e=>h1 (e ▸ hx)
   exact (List.mem_erase_of_ne hne).2 (hs x (List.mem_cons_of_mem _ hx))
  have h4:=List.length_erase_of_mem hm
  have h5:=List.length_pos_of_mem hm
  simp only [List.length_cons]
  omega
def QDC (p:Pr):List Int:=0 :: (p.decls.map (·.pos) ++ p.decls.flatMap (fun d=>d.items.map (·.pos)) ++ p.exprs.map (·.pos))
theorem QLT {k:Nat}:∀ l:List De,(∀ d∈l,d.items.length≤k)→(l.flatMap (fun d=>d.items.map (·.pos))).length≤l.length*k
 | [],_=>Nat.zero_le _
 | d :: l,h=>by
  have h1:=QLT l fun x hx=>h x (List.mem_cons_of_mem _ hx)
  have h2:=h d List.mem_cons_self
  rw [List.flatMap_cons,List.length_append,List.length_map,List.length_cons,Nat.add_mul]
  omega
theorem QJJ {p:Pr} (hs:Small p):(QDC p).length≤100000:=by
 have h1:=QLT p.decls (k:=600) fun d hd=>(hs.de d hd).2.1
 have h2:=hs.decls
 have h3:=hs.exprs
 have h4:p.decls.length*600≤60*600:=Nat.mul_le_mul_right _ h2
 unfold QDC
 simp only [List.length_cons,List.length_append,List.length_map]
 omega
structure Got (P:Int→Prop) (l:List Flt):Prop where
 strict:QBr l
 mem:∀ f,f∈l↔f.1 = 4∧P f.2
theorem Got.start {P:Int→Prop} (h:∀ a,¬ P a):Got P []:=⟨List.Pairwise.nil,fun f=>⟨fun h3=>(by cases h3),fun h2=>absurd h2.2 (h _)⟩⟩
theorem Got.ext {P Q:Int→Prop} {l:List Flt} (h:Got P l) (e:∀ a,P a↔Q a):Got Q l:=⟨h.strict,fun f=>by rw [h.mem,e]⟩
theorem Got.add {P Q:Int→Prop} {l:List Flt} {a:Int} (h:Got P l) (e:∀ b,Q b↔P b∨b = a):Got Q (QKo l (4,a)):=⟨QKb l _ h.strict,fun f=>by
 rw [mem_add,h.mem,e]
 constructor
 ·rintro (rfl | ⟨h1,h2⟩)
  ·exact ⟨rfl,.inr rfl⟩
  ·exact ⟨h1,.inl h2⟩
 ·rintro ⟨h1,h2 | h2⟩
  ·exact .inr ⟨h1,h2⟩
  ·exact .inl (Prod.ext h1 h2)⟩
theorem Got.len {P:Int→Prop} {l:List Flt} (h:Got P l) {m:List Int} (hm:∀ a,P a→a∈m):l.length≤m.length:=by
 have hn:(l.map (·.2)).Nodup:=by
  rw [List.nodup_iff_pairwise_ne,List.pairwise_map]
  refine h.strict.imp_of_mem fun {a b} ha hb hab e=>?_
  have h1:=((h.mem a).1 ha).1
  have h2:=((h.mem b).1 hb).1
  rw [show a = b from Prod.ext (h1.trans h2.symm) e] at hab
  exact QFB _ hab
 have h2:=QHY (l.map (·.2)) m hn fun x hx=>by
  obtain ⟨f,hf,rfl⟩:=List.mem_map.1 hx
  exact hm _ ((h.mem f).1 hf).2
 rwa [List.length_map] at h2
theorem Got.one {P:Int→Prop} {l m:List Flt} (h:Got P l) (h2:Got P m):l = m:=QGC h.strict h2.strict fun x=>by rw [h.mem,h2.mem]
def okV (d:De) (nm:ByteArray):Bool:=((QAV d).find? (fun v=>decide (v.name = nm))).isSome
def QDD (d:De) (i:Int) (k:Int) (nm st nx:ByteArray) (l:List ByteArray):Bool :=
 if k = 1∨k = 2∨k = 4∨k = 6 then ((QAd d nm).sort == 1 || (QAd d nm).index != i) || (k == 6 && QDe l)
 else if k = 3 then !okV d nm || (QAd d nm).sort != 3
 else if k = 5 then !okV d nm || (QAd d nm).sort != 4
 else if k = 7 then !QBX d nm st || !QBX d nm nx
 else if k = 8 then (!okV d nm || (QAd d nm).sort == 1) || (QAd d nm).sort == 5
 else false
theorem QLl (d:De) (nm:ByteArray) (k:Int):(!QE2 d nm [k]) = (!okV d nm || (QAd d nm).sort != k):=by
 rw [QNU]
 unfold okV QAd
 cases (QAV d).find? (fun v=>decide (v.name = nm)) <;> simp [bne]
theorem QNS (d:De) (nm:ByteArray):(!QE2 d nm [2,3,4]) = ((!okV d nm || (QAd d nm).sort == 1) || (QAd d nm).sort == 5):=by
 rw [QK4]
 unfold okV QAd
 cases (QAV d).find? (fun v=>decide (v.name = nm)) <;> simp
theorem QNT (d:De) (nm:ByteArray):(!QE2 d nm [1,2,3,4]) = (!okV d nm || (QAd d nm).sort == 5):=by
 rw [QLk]
 unfold okV QAd
 cases (QAV d).find? (fun v=>decide (v.name = nm)) <;> simp
theorem QMP (d:De) (i:Nat) (x:It):QIs d i x = QDD d i x.kind x.name x.state x.next x.states:=by
 unfold QIs QDI QDS QDD
 rw [QLl,QLl,QNS]
 unfold QCI
 by_cases h1:x.kind = 1
 ·simp [h1]
 by_cases h2:x.kind = 2
 ·simp [h2]
 by_cases h4:x.kind = 4
 ·simp [h4]
 by_cases h6:x.kind = 6
 ·simp [h6]
 simp only [h1,h2,h4,h6,if_false,or_self,if_true,Bool.false_or]
def refE (p:Pr) (d:De) (x:Ex):Bool :=
 if x.kind = 19 then (match QBR p x.name with
  | some z=>z.1.kind == 3 || ((z.1.params.length:Int) != (x.args.length:Int))
  | none=>true)
 else if x.kind = 20 then !QBX d x.name x.state
 else if x.kind = 3 then !okV d x.name || (QAd d x.name).sort == 5 else false
theorem QMO (p:Pr) (d:De) (x:Ex):QBm p d x = refE p d x:=by
 unfold QBm refE
 rw [QNT]
 by_cases h1:x.kind = 3
 ·rw [if_pos h1,if_neg (by omega),if_neg (by omega),if_pos h1]
 ·by_cases h2:x.kind = 20
  ·rw [if_neg h1,if_pos h2,if_neg (by omega),if_pos h2]
  ·rw [if_neg h1,if_neg h2]
   by_cases h3:x.kind = 19
   ·rw [if_pos h3,if_pos h3]
    cases QBR p x.name <;> rfl
   ·rw [if_neg h3,if_neg h3,if_neg h2,if_neg h1]
def QES (d:De) (c:Nat) (a:Int):Prop:=∃ j x,j < c∧d.items[j]? = some x∧QDD d j x.kind x.name x.state x.next x.states = true∧a = x.pos
def QJa (d:De) (c:Nat):Prop:=∃ i k,k < i∧i < c∧i < d.params.length∧(d.params.map (·.name))[i]? = (d.params.map (·.name))[k]?
def QH0 (p:Pr) (d:De) (c:Nat) (a:Int):Prop:=∃ e x,e < c∧Reach p (QAC d) e∧p.exprs[e]? = some x∧refE p d x = true∧a = x.pos
def QGI (p:Pr) (i:Nat) (d:De):Prop:=(d.kind = 3∧1 < hybs (p.decls.take (i+1)))∨QDF p.decls d.name≠(i:Int)
def QJZ (p:Pr) (i:Nat) (d:De) (a:Int):Prop:=((QGI p i d∨QJa d d.params.length)∧a = d.pos)∨QES d d.items.length a∨QH0 p d p.exprs.length a
def QEs (p:Pr) (c:Nat) (a:Int):Prop:=∃ i d,i < c∧p.decls[i]? = some d∧QJZ p i d a
theorem QG4 {p:Pr} {c:Nat} {d:De} (hd:p.decls[c]? = some d) (a:Int):QEs p (c+1) a↔QEs p c a∨QJZ p c d a:=by
 unfold QEs
 constructor
 ·rintro ⟨i,e,h1,h2,h3⟩
  by_cases hi:i = c
  ·subst hi;rw [hd] at h2;cases h2;exact .inr h3
  ·exact .inl ⟨i,e,by omega,h2,h3⟩
 ·rintro (⟨i,e,h1,h2,h3⟩ | h)
  ·exact ⟨i,e,by omega,h2,h3⟩
  ·exact ⟨c,d,by omega,hd,h⟩
theorem QKP {d:De} {c:Nat} {x:It} (hx:d.items[c]? = some x) (a:Int):QES d (c+1) a↔QES d c a∨(QDD d c x.kind x.name x.state x.next x.states = true∧a = x.pos):=by
 unfold QES
 constructor
 ·rintro ⟨i,e,h1,h2,h3⟩
  by_cases hi:i = c
  ·subst hi;rw [hx] at h2;cases h2;exact .inr h3
  ·exact .inl ⟨i,e,by omega,h2,h3⟩
 ·rintro (⟨i,e,h1,h2,h3⟩ | h)
  ·exact ⟨i,e,by omega,h2,h3⟩
  ·exact ⟨c,x,by omega,hx,h⟩
theorem QKN {p:Pr} {d:De} {c:Nat} {x:Ex} (hx:p.exprs[c]? = some x) (a:Int):QH0 p d (c+1) a↔QH0 p d c a∨(Reach p (QAC d) c∧refE p d x = true∧a = x.pos):=by
 unfold QH0
 constructor
 ·rintro ⟨i,e,h1,h0,h2,h3⟩
  by_cases hi:i = c
  ·subst hi;rw [hx] at h2;cases h2;exact .inr ⟨h0,h3⟩
  ·exact .inl ⟨i,e,by omega,h0,h2,h3⟩
 ·rintro (⟨i,e,h1,h2,h3⟩ | ⟨h0,h⟩)
  ·exact ⟨i,e,by omega,h2,h3⟩
  ·exact ⟨c,x,by omega,h0,hx,h⟩
theorem QMM {p:Pr} {i:Nat} {d:De} (hd:p.decls[i]? = some d):QCY p i d = true↔QGI p i d:=by
 unfold QCY QGI
 rw [QHD hd]
 simp only [Bool.or_eq_true,bne_iff_ne,Bool.and_eq_true,beq_iff_eq,decide_eq_true_eq]
 exact or_comm
theorem QKH {p:Pr} {a:Int}:a∈QCg p p.decls.length↔∃ i d,p.decls[i]? = some d∧QCY p i d = true∧a = d.pos:=by
 unfold QCg
 rw [List.take_length,List.mem_filterMap]
 constructor
 ·rintro ⟨⟨d,i⟩,h1,h2⟩
  have h3:=List.mem_zipIdx_iff_getElem?.1 h1
  dsimp only at h2 h3
  split at h2
  ·rename_i ht;cases h2;exact ⟨i,d,h3,ht,rfl⟩
  ·cases h2
 ·rintro ⟨i,d,h1,h2,rfl⟩
  exact ⟨(d,i),List.mem_zipIdx_iff_getElem?.2 h1,by dsimp only;rw [if_pos h2]⟩
theorem QFz {d:De} {a:Int}:a∈QAl d d.items.length↔QES d d.items.length a:=by
 unfold QAl QES
 rw [List.take_length,List.mem_filterMap]
 constructor
 ·rintro ⟨⟨x,i⟩,h1,h2⟩
  have h3:=List.mem_zipIdx_iff_getElem?.1 h1
  dsimp only at h2 h3
  split at h2
  ·rename_i ht
   cases h2
   exact ⟨i,x,(List.getElem?_eq_some_iff.1 h3).1,h3,by rw [← QMP];exact ht,rfl⟩
  ·cases h2
 ·rintro ⟨i,x,_,h1,h2,rfl⟩
  exact ⟨(x,i),List.mem_zipIdx_iff_getElem?.2 h1,by dsimp only;rw [QMP,if_pos h2]⟩
theorem QFy {d:De} {a:Int}:a∈QAp d↔QJa d d.params.length∧a = d.pos:=by
 have h:=QIu (d.params.map (·.name))
 rw [List.length_map] at h
 have e:QJa d d.params.length↔QDe (d.params.map (·.name)) = true:=by
  rw [h]
  unfold QJa
  constructor
  ·rintro ⟨i,k,h1,h2,_,h4⟩;exact ⟨i,k,h1,h2,h4⟩
  ·rintro ⟨i,k,h1,h2,h4⟩;exact ⟨i,k,h1,h2,h2,h4⟩
 rw [e]
 unfold QAp
 by_cases hd:QDe (d.params.map (·.name)) = true
 ·rw [if_pos hd];simp [hd]
 ·rw [if_neg hd];simp [hd]
theorem QDr {p:Pr} (hm:QFa p = true) (a:Int):QB8 p a↔QEs p p.decls.length a∨(hybs p.decls = 0∧a = 0):=by
 unfold QB8 QC7 QBj QEs QJZ
 have h0:a∈(if hybs p.decls = 0 then [(0:Int)] else [])↔hybs p.decls = 0∧a = 0:=by split <;> simp [*]
 rw [List.mem_append,QKH,h0]
 constructor
 ·rintro ⟨_,((⟨i,d,h1,h2,h3⟩ | h) | ⟨d,hd,h | ⟨k,x,h1,h2,h3,h4⟩⟩)⟩
  ·exact .inl ⟨i,d,(List.getElem?_eq_some_iff.1 h1).1,h1,.inl ⟨.inl ((QMM h1).1 h2),h3⟩⟩
  ·exact .inr h
  ·obtain ⟨i,hi⟩:=List.mem_iff_getElem?.1 hd
   rcases List.mem_append.1 h with h | h
   ·obtain ⟨h5,h6⟩:=QFy.1 h
    exact .inl ⟨i,d,(List.getElem?_eq_some_iff.1 hi).1,hi,.inl ⟨.inr h5,h6⟩⟩
   ·exact .inl ⟨i,d,(List.getElem?_eq_some_iff.1 hi).1,hi,.inr (.inl (QFz.1 h))⟩
  ·obtain ⟨i,hi⟩:=List.mem_iff_getElem?.1 hd
   exact .inl ⟨i,d,(List.getElem?_eq_some_iff.1 hi).1,hi,.inr (.inr ⟨k,x,(List.getElem?_eq_some_iff.1 h2).1,h1,h2,by rw [← QMO];exact h3,h4⟩)⟩
 ·refine fun h=>⟨hm,?_⟩
  rcases h with ⟨i,d,_,hi,(⟨h5 | h5,h6⟩ | h5 | ⟨k,x,_,h1,h2,h3,h4⟩)⟩ | h
  ·exact .inl (.inl ⟨i,d,hi,(QMM hi).2 h5,h6⟩)
  ·exact .inr ⟨d,List.mem_of_getElem? hi,.inl (List.mem_append.2 (.inl (QFy.2 ⟨h5,h6⟩)))⟩
  ·exact .inr ⟨d,List.mem_of_getElem? hi,.inl (List.mem_append.2 (.inr (QFz.2 h5)))⟩
  ·exact .inr ⟨d,List.mem_of_getElem? hi,.inr ⟨k,x,h1,h2,by rw [QMO];exact h3,h4⟩⟩
  ·exact .inl (.inr h)
theorem QFM {p:Pr} {c:Nat} {a:Int} (h:QEs p c a):a∈QDC p:=by
 obtain ⟨i,d,_,hi,h⟩:=h
 have hd:=List.mem_of_getElem? hi
 unfold QDC
 rcases h with ⟨_,rfl⟩ | ⟨j,x,_,hx,_,rfl⟩ | ⟨e,x,_,_,hx,_,rfl⟩
 ·exact List.mem_cons_of_mem _ (List.mem_append.2 (.inl (List.mem_append.2 (.inl (List.mem_map.2 ⟨d,hd,rfl⟩)))))
 ·exact List.mem_cons_of_mem _ (List.mem_append.2 (.inl (List.mem_append.2 (.inr (List.mem_flatMap.2 ⟨d,hd,List.mem_map.2 ⟨x,List.mem_of_getElem? hx,rfl⟩⟩)))))
 ·exact List.mem_cons_of_mem _ (List.mem_append.2 (.inr (List.mem_map.2 ⟨x,List.mem_of_getElem? hx,rfl⟩)))
theorem QJF {l:List Flt} {P:Int→Prop} (h:∀ x,x∈l↔∃ a,P a∧x = (4,a)):Got P (QKs l):=⟨(QJG l).1,fun f=>by
 rw [(QJG l).2,h]
 constructor
 ·rintro ⟨a,h1,rfl⟩;exact ⟨rfl,h1⟩
 ·rintro ⟨h1,h2⟩;exact ⟨f.2,h2,Prod.ext h1 rfl⟩⟩
end
section
noncomputable def blk (n:Nat):Code→Option Code
 | .block i c=>if i = n then some (.block i c) else blk n c
 | .seq a b=>match blk n a with
  | some c=>some c
  | none=>blk n b
 | .cond _ a b=>match blk n a with
  | some c=>some c
  | none=>blk n b
 | .loop c=>blk n c
 | _=>none
noncomputable def QAw (f:Func):Code:=match f.body with
 | some c=>c
 | none=>.skip
noncomputable def QB6 (f:Func) (n:Nat):Code:=match blk n (QAw f) with
 | some c=>c
 | none=>.skip
end
section
open Go.Lib (hid)
open Go.RowKit Lx Go.Shelf Go.Maps
attribute [local go_sem] Oper.semAt_some
set_option maxHeartbeats 16000000
def samS (l:List ByteArray) (a c:Nat):Bool:=(List.range c).any fun k=>decide (l[k]? = l[a]?)
theorem QHk (l:List ByteArray) (a c:Nat):samS l a (c+1) = (samS l a c || decide (l[c]? = l[a]?)):=by
 unfold samS
 rw [List.range_succ,List.any_append]
 simp
theorem same_at {l:List ByteArray} {a c:Nat} (ha:a < l.length) (hc:c < l.length):((l[a]?.getD ⟨#[]⟩).toList == (l[c]?.getD ⟨#[]⟩).toList) = decide (l[c]? = l[a]?):=by
 rw [List.getElem?_eq_getElem ha,List.getElem?_eq_getElem hc]
 simp only [Option.getD_some,Option.some.injEq]
 by_cases h:l[c] = l[a]
 ·rw [h];simp
 ·rw [decide_eq_false h]
  exact beq_false_of_ne fun e=>h ((QFU _ _).1 e).symm
theorem QJ3 {o:Option Addr} {n cap g off:Nat} (h:0 < n→o = some ⟨g,off,none⟩) {j:Nat} (hj:j < n) (hn:n≤9223372036854775807):Ix 55 1 (.slice o n cap) g off j:=by
 intro W
 rw [h (by omega)]
 have h1:(j:Int) < (n:Int):=by omega
 have h2:(j:Int)≤9223372036854775807:=by omega
 go_simp
set_option maxRecDepth 100000 in
theorem in11 (X a:Nat) (b0:Bool) (al:(a:Int)≤1000) (l:List ByteArray) (o:Option Addr) (n cap:Nat) (hln:Hid (l.length = n)) (hlt:a < n) (nl:(n:Int)≤1000) (T:TypeId) (i0 i1 i2 i3 i4 i6 i7 i8:Value)
  (Q:Exit→Act→World→Prop) (W:World) (hX:Hid (W.heap[X]? = some (.cells #[i0,i1,i2,i3,i4,.slice o n cap,i6,i7,i8] T (0,0)))) (hS:Hid (StrsAt W (.slice o n cap) l))
  (hK:Hid (∀ (FN Ed Ee Ef Eg Eh Ei Ej FO FR FU FW FX FY Fa Fb Fc Fd Fe:Value) W',Below W.heap.size W W'→Q .normal ⟨[u0,u1,u2,u3,u4,u5,u6,u7,u8,u9,.pointer (some ⟨X,0,none⟩),IE,IF,.bool (b0 || samS l a a),.int .i64 (a:Int),.int .i64 (a:Int),GL,GM,H8,IA,GN,GO,GK,Ey,Ez,E4,E5,E6,E7,E8,Ek,El,Em,En,Eo,Ep,Eq,Er,Es,EJ,EK,EL,EM,EO,Et,Eu,Ev,Ew,EP,EQ,ER,ET,EU,EV,EW,EX,EY,EZ,Ea,Eb,Ec,Ff,Fg,Fh,EI,Fi,Fj,Fr,Fs,Ft,Fu,Fv,Fw,Fx,Fy,Fz,F2,F4,F5,F6,F7,F8,F9,GA,GB,GC,GD,GE,GF,GG,Fk,Fl,Fm,Fn,Fo,Fp,Fq,GH,GI,GJ,AA,AB,AC,AE,AF,AG,AH,AI,AJ,AK,EH,B3,B4,B5,B8,B9,CD,CH,CI,CJ,CK,CM,CQ,CU,CX,DM,DN,DO,DP,DR,DS,DU,DV,DW,DX,DY,DQ,FN,Ed,Ee,Ef,Eg,Eh,Ei,Ej,FO,FR,FU,FW,FX,FY,Fa,Fb,Fc,Fd,Fe,CY,CZ,Ca,Cb,Cc,Cd,Ce,Cf,Cg,Ch,Ci,Cj,Ck,Cl,Cm,Cn,Co,Cp,Cq,Cr,Cs,Ct,Cu,Cv,Cw,Cx,Cy,Cz,DA,DE,DG,DI,DJ,DK,DL,Dv,Dw,Dx,Dy,Dz,D5,D8,D9,EA,EB,EC,ED,EE,EF,EG,As,At,Au,Av,Aw,Ay,AR,AS,AU,AV,AW,AX,AY,AZ,Aa,Ab,Ac,Ad,Ae,Af,Ag,Ah,Ai,Aj,Ak,Al,Am,An,Ao,Ap,Aq,Ar,Az,A3,A4,A5,A6,A7,A8,A9,BA,BC,BD,BE,BF,BG,BH,BI,BJ,BK,BM,BN,BO,BP,BQ,BR,BS,BT,BU,BV,BW,BY,BZ,Ba,Bb,Bc,Bd,Be,Bf,Bg,Bh,Bi,Bj,Bk,Bl,Bm,Bn,Bo,Bp,Bq,Br,Bs,Bt,Bu,Bv,Bw,Bx,By,Bz,AL,AM,AN,AO,AP,AQ].toArray,[]⟩ W')) :
  (QB6 Tryz.f9 11).wp Tryz.prog Q ⟨[u0,u1,u2,u3,u4,u5,u6,u7,u8,u9,.pointer (some ⟨X,0,none⟩),IE,IF,.bool b0,.int .i64 (a:Int),.int .i64 0,GL,GM,H8,IA,GN,GO,GK,Ey,Ez,E4,E5,E6,E7,E8,Ek,El,Em,En,Eo,Ep,Eq,Er,Es,EJ,EK,EL,EM,EO,Et,Eu,Ev,Ew,EP,EQ,ER,ET,EU,EV,EW,EX,EY,EZ,Ea,Eb,Ec,Ff,Fg,Fh,EI,Fi,Fj,Fr,Fs,Ft,Fu,Fv,Fw,Fx,Fy,Fz,F2,F4,F5,F6,F7,F8,F9,GA,GB,GC,GD,GE,GF,GG,Fk,Fl,Fm,Fn,Fo,Fp,Fq,GH,GI,GJ,AA,AB,AC,AE,AF,AG,AH,AI,AJ,AK,EH,B3,B4,B5,B8,B9,CD,CH,CI,CJ,CK,CM,CQ,CU,CX,DM,DN,DO,DP,DR,DS,DU,DV,DW,DX,DY,DQ,DZ,Dm,Do,Dp,Dq,Dr,Dt,Du,Da,Db,Dc,Dd,Df,Dg,Dh,Di,Dj,Dk,Dl,CY,CZ,Ca,Cb,Cc,Cd,Ce,Cf,Cg,Ch,Ci,Cj,Ck,Cl,Cm,Cn,Co,Cp,Cq,Cr,Cs,Ct,Cu,Cv,Cw,Cx,Cy,Cz,DA,DE,DG,DI,DJ,DK,DL,Dv,Dw,Dx,Dy,Dz,D5,D8,D9,EA,EB,EC,ED,EE,EF,EG,As,At,Au,Av,Aw,Ay,AR,AS,AU,AV,AW,AX,AY,AZ,Aa,Ab,Ac,Ad,Ae,Af,Ag,Ah,Ai,Aj,Ak,Al,Am,An,Ao,Ap,Aq,Ar,Az,A3,A4,A5,A6,A7,A8,A9,BA,BC,BD,BE,BF,BG,BH,BI,BJ,BK,BM,BN,BO,BP,BQ,BR,BS,BT,BU,BV,BW,BY,BZ,Ba,Bb,Bc,Bd,Be,Bf,Bg,Bh,Bi,Bj,Bk,Bl,Bm,Bn,Bo,Bp,Bq,Br,Bs,Bt,Bu,Bv,Bw,Bx,By,Bz,AL,AM,AN,AO,AP,AQ].toArray,[]⟩ W:=by
 simp only [QB6,QAw,blk,Tryz.f9]
 simp only [Nat.reduceEqDiff,if_true,if_false]
 go_wp2_with fail
 go_loopw [13,15] (fun bv iv Y=>∃ c:Nat,iv = .int .i64 (c:Int)∧c≤a∧bv = .bool (b0 || samS l a c)∧Hid (Below W.heap.size W Y)) (fun _ i _=>a - QA2 i)
 case atStart=>exact ⟨0,rfl,Nat.zero_le _,by simp [samS],hid (Below.refl _ _)⟩
 case round =>
  obtain ⟨c,rfl,hc,rfl,hB⟩:=hrel
  obtain ⟨x0,x1,x2,x3,x4,x5,x6,x7,x8⟩:=QB1 ((hB.out.block X (lt_of_heap hX.out)).trans hX.out)
  by_cases hca:c < a
  ·have q0:(c:Int) < (a:Int):=by omega
   obtain ⟨o',cap',b,off,e,_,_,h3,h4⟩:=id hS.out
   rw [hln.out] at e h3 h4
   cases e
   have ixa:=QJ3 (cap:=cap) h3 hlt (by omega)
   have ixc:=QJ3 (cap:=cap) h3 (show c < n by omega) (by omega)
   unfold Ix at ixa ixc
   have ca:=QA1 hB.out (h4 a hlt)
   have cc:=QA1 hB.out (h4 c (by omega))
   simp only [Nat.mul_one] at ixa ixc ca cc
   clear h3 h4 hS hX
   have HSU:=hid (QHk l a c)
   cases hb:(b0 || samS l a c) with
   | true =>
    go_wp2_with fail
    go_quiet (fail)
    go_wp2_with fail
    exact ⟨⟨c+1,by go_num,by omega,by rw [HSU.out,← Bool.or_assoc,hb];rfl,hid (QAy hB.out _)⟩,by simp [QA2];omega⟩
   | false =>
    go_wp2_with fail
    go_quiet (fail)
    go_wp2_with fail
    exact ⟨⟨c+1,by go_num,by omega,by rw [HSU.out,← Bool.or_assoc,hb,Bool.false_or,same_at (by rw [hln.out];exact hlt) (by rw [hln.out];omega)],hid (QAy hB.out _)⟩,by simp [QA2];omega⟩
  ·obtain rfl:c = a:=by omega
   have q0:¬ (c:Int) < (c:Int):=by omega
   clear hS hX
   go_wp2_with fail
   apply hK.out;exact hB.out
def samT (l:List ByteArray) (c:Nat):Bool:=(List.range c).any fun a=>samS l a a
theorem QHl (l:List ByteArray) (c:Nat):samT l (c+1) = (samT l c || samS l c c):=by
 unfold samT
 rw [List.range_succ,List.any_append]
 simp
theorem QO9 (l:List ByteArray):samT l l.length = QDe l:=by
 have h:=QIu l
 have e:samT l l.length = true↔QDe l = true:=by
  rw [h]
  unfold samT samS
  simp only [List.any_eq_true,List.mem_range,decide_eq_true_eq]
  constructor
  ·rintro ⟨a,h1,k,h2,h3⟩;exact ⟨a,k,h2,h1,h3.symm⟩
  ·rintro ⟨a,k,h2,h1,h3⟩;exact ⟨a,h1,k,h2,h3.symm⟩
 cases h1:samT l l.length <;> cases h2:QDe l
 ·rfl
 ·rw [h1,h2] at e;cases (e.2 rfl)
 ·rw [h1,h2] at e;cases (e.1 rfl)
 ·rfl
set_option maxRecDepth 100000 in
theorem in9 (X:Nat) (b0:Bool) (l:List ByteArray) (o:Option Addr) (n cap:Nat) (hln:Hid (l.length = n)) (nl:(n:Int)≤1000) (k:Int) (T:TypeId) (i1 i2 i3 i4 i6 i7 i8:Value)
  (Q:Exit→Act→World→Prop) (W:World) (hX:Hid (W.heap[X]? = some (.cells #[.int .i64 k,i1,i2,i3,i4,.slice o n cap,i6,i7,i8] T (0,0)))) (hS:Hid (StrsAt W (.slice o n cap) l))
  (hK:Hid (∀ (IJ IL GP GQ GR GS E9 FE FG FH FI FJ FL GT FN Ed Ee Ef Eg Eh Ei Ej FO FR FU FW FX FY Fa Fb Fc Fd Fe:Value) W',Below W.heap.size W W'→Q .normal ⟨[u0,u1,u2,u3,u4,u5,u6,u7,u8,u9,.pointer (some ⟨X,0,none⟩),IE,IF,.bool (b0 || (k == 6 && QDe l)),IJ,IL,GL,GM,H8,IA,GN,GO,GK,Ey,Ez,E4,E5,E6,E7,E8,Ek,El,Em,En,Eo,Ep,Eq,Er,Es,EJ,EK,EL,EM,EO,Et,Eu,Ev,Ew,EP,EQ,ER,ET,EU,EV,EW,EX,EY,EZ,Ea,Eb,Ec,Ff,Fg,Fh,EI,Fi,Fj,Fr,Fs,Ft,Fu,Fv,Fw,Fx,Fy,Fz,F2,F4,F5,F6,F7,F8,F9,GA,GB,GC,GD,GE,GF,GG,Fk,Fl,Fm,Fn,Fo,Fp,Fq,GH,GI,GJ,AA,AB,AC,AE,AF,AG,AH,AI,AJ,AK,EH,B3,B4,B5,B8,B9,CD,CH,CI,CJ,CK,CM,CQ,CU,CX,GP,GQ,GR,GS,E9,FE,FG,FH,FI,FJ,FL,GT,FN,Ed,Ee,Ef,Eg,Eh,Ei,Ej,FO,FR,FU,FW,FX,FY,Fa,Fb,Fc,Fd,Fe,CY,CZ,Ca,Cb,Cc,Cd,Ce,Cf,Cg,Ch,Ci,Cj,Ck,Cl,Cm,Cn,Co,Cp,Cq,Cr,Cs,Ct,Cu,Cv,Cw,Cx,Cy,Cz,DA,DE,DG,DI,DJ,DK,DL,Dv,Dw,Dx,Dy,Dz,D5,D8,D9,EA,EB,EC,ED,EE,EF,EG,As,At,Au,Av,Aw,Ay,AR,AS,AU,AV,AW,AX,AY,AZ,Aa,Ab,Ac,Ad,Ae,Af,Ag,Ah,Ai,Aj,Ak,Al,Am,An,Ao,Ap,Aq,Ar,Az,A3,A4,A5,A6,A7,A8,A9,BA,BC,BD,BE,BF,BG,BH,BI,BJ,BK,BM,BN,BO,BP,BQ,BR,BS,BT,BU,BV,BW,BY,BZ,Ba,Bb,Bc,Bd,Be,Bf,Bg,Bh,Bi,Bj,Bk,Bl,Bm,Bn,Bo,Bp,Bq,Br,Bs,Bt,Bu,Bv,Bw,Bx,By,Bz,AL,AM,AN,AO,AP,AQ].toArray,[]⟩ W')) :
  (QB6 Tryz.f9 9).wp Tryz.prog Q ⟨[u0,u1,u2,u3,u4,u5,u6,u7,u8,u9,.pointer (some ⟨X,0,none⟩),IE,IF,.bool b0,.int .i64 0,IC,GL,GM,H8,IA,GN,GO,GK,Ey,Ez,E4,E5,E6,E7,E8,Ek,El,Em,En,Eo,Ep,Eq,Er,Es,EJ,EK,EL,EM,EO,Et,Eu,Ev,Ew,EP,EQ,ER,ET,EU,EV,EW,EX,EY,EZ,Ea,Eb,Ec,Ff,Fg,Fh,EI,Fi,Fj,Fr,Fs,Ft,Fu,Fv,Fw,Fx,Fy,Fz,F2,F4,F5,F6,F7,F8,F9,GA,GB,GC,GD,GE,GF,GG,Fk,Fl,Fm,Fn,Fo,Fp,Fq,GH,GI,GJ,AA,AB,AC,AE,AF,AG,AH,AI,AJ,AK,EH,B3,B4,B5,B8,B9,CD,CH,CI,CJ,CK,CM,CQ,CU,CX,DM,DN,DO,DP,DR,DS,DU,DV,DW,DX,DY,DQ,DZ,Dm,Do,Dp,Dq,Dr,Dt,Du,Da,Db,Dc,Dd,Df,Dg,Dh,Di,Dj,Dk,Dl,CY,CZ,Ca,Cb,Cc,Cd,Ce,Cf,Cg,Ch,Ci,Cj,Ck,Cl,Cm,Cn,Co,Cp,Cq,Cr,Cs,Ct,Cu,Cv,Cw,Cx,Cy,Cz,DA,DE,DG,DI,DJ,DK,DL,Dv,Dw,Dx,Dy,Dz,D5,D8,D9,EA,EB,EC,ED,EE,EF,EG,As,At,Au,Av,Aw,Ay,AR,AS,AU,AV,AW,AX,AY,AZ,Aa,Ab,Ac,Ad,Ae,Af,Ag,Ah,Ai,Aj,Ak,Al,Am,An,Ao,Ap,Aq,Ar,Az,A3,A4,A5,A6,A7,A8,A9,BA,BC,BD,BE,BF,BG,BH,BI,BJ,BK,BM,BN,BO,BP,BQ,BR,BS,BT,BU,BV,BW,BY,BZ,Ba,Bb,Bc,Bd,Be,Bf,Bg,Bh,Bi,Bj,Bk,Bl,Bm,Bn,Bo,Bp,Bq,Br,Bs,Bt,Bu,Bv,Bw,Bx,By,Bz,AL,AM,AN,AO,AP,AQ].toArray,[]⟩ W:=by
 simp only [QB6,QAw,blk,Tryz.f9]
 simp only [Nat.reduceEqDiff,if_true,if_false]
 go_wp2_with fail
 go_loopw [13,14] (fun bv iv Y=>∃ c:Nat,iv = .int .i64 (c:Int)∧c≤n∧bv = .bool (b0 || samT l c)∧Hid (c = 0∨k = 6)∧Hid (Below W.heap.size W Y)) (fun _ i _=>n - QA2 i)
 case atStart=>exact ⟨0,rfl,Nat.zero_le _,by simp [samT],hid (.inl rfl),hid (Below.refl _ _)⟩
 case round =>
  obtain ⟨c,rfl,hc,rfl,h6,hB⟩:=hrel
  obtain ⟨x0,x1,x2,x3,x4,x5,x6,x7,x8⟩:=QB1 ((hB.out.block X (lt_of_heap hX.out)).trans hX.out)
  by_cases hca:c < n
  ·have q0:decide ((c:Int) < (n:Int)) = true:=decide_eq_true (by omega)
   by_cases hk:k = 6
   ·have qk:(k == 6) = true:=by simp [hk]
    have HK:=hid hk
    have HSU:=hid (QHl l c)
    have hX2:Hid (wr.heap[X]? = some (.cells #[.int .i64 k,i1,i2,i3,i4,.slice o n cap,i6,i7,i8] T (0,0))):=hid ((hB.out.block X (lt_of_heap hX.out)).trans hX.out)
    have hS2:Hid (StrsAt wr (.slice o n cap) l):=hid (hS.out.below hB.out)
    clear hk hX hS
    go_upto_block 11 with fail
    refine in11 (X:=X) (a:=c) (b0:=b0 || samT l c) (al:=by omega) (l:=l) (o:=o) (n:=n) (cap:=cap) hln hca nl (T:=T) (W:=wr) (hX:=hX2) (hS:=hS2) (hK:=hid ?_)
    intros
    rename_i W2 hb2
    dsimp only
    go_wp2_with fail
    exact ⟨⟨c+1,by go_num,by omega,by rw [HSU.out,Bool.or_assoc],hid (.inr HK.out),hid (hB.out.trans (hb2.mono hB.out.size))⟩,by simp [QA2];omega⟩
   ·have qk:(k == 6) = false:=by simp [hk]
    have HK:=hid hk
    clear hk hX hS
    go_wp2_with fail
    obtain rfl:c = 0:=by rcases h6.out with h | h;exact h;exact absurd h HK.out
    have e:(b0 || samT l 0) = (b0 || ((k == 6) && QDe l)):=by rw [qk];simp [samT]
    rw [e]
    apply hK.out;exact hB.out
  ·obtain rfl:c = n:=by omega
   have q0:decide ((c:Int) < (c:Int)) = false:=decide_eq_false (by omega)
   clear hX hS
   go_wp2_with fail
   have e:(b0 || samT l c) = (b0 || ((k == 6) && QDe l)):=by
    have e1:samT l c = QDe l:=by rw [← QO9,hln.out]
    rw [e1]
    rcases h6.out with h | h
    ·rw [h] at e1;rw [← e1];simp [samT]
    ·rw [h];simp
   rw [e]
   apply hK.out;exact hB.out
end
section
open Go.RowKit Lx Go.Shelf Go.Maps
attribute [local go_sem] Oper.semAt_some
def FlGot (W:World) (v:Value) (P:Int→Prop):Prop:=∃ cur,FlsAt W v cur∧Got P cur
theorem FlGot.below {W Y:World} {v:Value} {P:Int→Prop} (h:FlGot W v P) (hb:Below W.heap.size W Y):FlGot Y v P:=by
 obtain ⟨cur,h1,h2⟩:=h
 exact ⟨cur,h1.below hb,h2⟩
theorem FlGot.ext {W:World} {v:Value} {P Q:Int→Prop} (h:FlGot W v P) (e:∀ a,P a↔Q a):FlGot W v Q:=by
 obtain ⟨cur,h1,h2⟩:=h
 exact ⟨cur,h1,h2.ext e⟩
theorem QCl {p:Pr} (hs:Small p) {P:Int→Prop} (hP:∀ a,P a→a∈QDC p) (v:Value) (a:Int) (W:World) (h:FlGot W v P) :
  Calls Tryz.prog 18 #[v,.agg #[.int .i64 4,.int .i64 a]] W fun r Y=>∃ v',r = .returned v'∧FlGot Y v' (fun b=>P b∨b = a)∧Below W.heap.size W Y:=by
 obtain ⟨cur,h1,h2⟩:=h
 refine (add_any v cur 4 a W h1 (Nat.le_trans (h2.len hP) (QJJ hs))).mono ?_
 rintro r Y ⟨v',e,h3,h4⟩
 exact ⟨v',e,⟨_,h3,h2.add fun b=>Iff.rfl⟩,h4⟩
def FlSt (w:World) (D:Nat) (PB DB:Obj) (W:World):Prop:=Below w.heap.size w W∧W.heap[w.heap.size]? = some PB∧w.heap.size < D∧W.heap[D]? = some DB
theorem FlSt.below {w X Y:World} {D:Nat} {PB DB:Obj} (h:FlSt w D PB DB X) (hb:Below X.heap.size X Y):FlSt w D PB DB Y :=
 ⟨h.1.trans (hb.mono h.1.size),(hb.block _ (lt_of_heap h.2.1)).trans h.2.1,h.2.2.1,(hb.block _ (lt_of_heap h.2.2.2)).trans h.2.2.2⟩
theorem QBt {W:World} {B:Nat} {a b c d e f g:Value} {T:TypeId} (hB:W.heap[B]? = some (.cells #[a,b,c,d,e,f,g] T (0,0))):W.cell? ⟨B,0,none⟩ = some a∧W.cell? ⟨B,1,none⟩ = some b∧W.cell? ⟨B,2,none⟩ = some c∧W.cell? ⟨B,3,none⟩ = some d∧W.cell? ⟨B,4,none⟩ = some e∧W.cell? ⟨B,5,none⟩ = some f∧W.cell? ⟨B,6,none⟩ = some g :=
 ⟨by simp [World.cell?,hB],by simp [World.cell?,hB],by simp [World.cell?,hB],by simp [World.cell?,hB],by simp [World.cell?,hB],by simp [World.cell?,hB],by simp [World.cell?,hB]⟩
end
section
open Go.Lib (hid)
open Go.RowKit Lx Go.Shelf Go.Maps
attribute [local go_sem] Oper.semAt_some
set_option maxHeartbeats 16000000
theorem QLu {o:Option Addr} {n cap b off:Nat} (h:0 < n→o = some ⟨b,off,none⟩) {j:Nat} (hj:j < n) (hn:(n:Int)≤9223372036854775807):Ix 33 2 (.slice o n cap) b off j:=by
 intro W
 rw [h (by omega)]
 have h1:(j:Int) < (n:Int):=by omega
 have h2:(j:Int)≤9223372036854775807:=by omega
 go_simp
set_option maxRecDepth 100000 in
theorem in4 (p:Pr) (hs:Hid (Small p)) (D a:Nat) (v0:Value) (P:Int→Prop) (hP:Hid (∀ b,P b→b∈QDC p)) (x:De) (hq:Hid (x.pos∈QDC p)) (n:Nat) (hln:Hid (x.params.length = n)) (hlt:a < n) (nl:(n:Int)≤1000)
  (op:Option Addr) (capp bp offp:Nat) (T:TypeId) (i0 i1 i3 i4 i5:Value)
  (Q:Exit→Act→World→Prop) (W:World) (hX:Hid (W.heap[D]? = some (.cells #[i0,i1,.slice op n capp,i3,i4,i5,.int .i64 x.pos] T (0,0)))) (hp3:Hid (0 < n→op = some ⟨bp,offp,none⟩)) (hp4:Hid (∀ i,i < n→∀ y,x.params[i]? = some y→PaAt W bp (offp+i*2) y)) (hF:Hid (FlGot W v0 P))
  (hK:Hid (∀ (v3 KE KF KG KH KI KJ KK KM KN KO KP KQ KR KS KU KV KW KZ Ka Kb Kc Kd Ke:Value) W',FlGot W' v3 (fun b=>P b∨(samS (x.params.map (·.name)) a a = true∧b = x.pos))→Below W.heap.size W W'→Q .normal ⟨[u0,u1,u2,v3,u4,u5,.pointer (some ⟨D,0,none⟩),.int .i64 (a:Int),.int .i64 (a:Int),u9,IG,IE,IF,II,ID,IC,GL,GM,H8,IA,GN,GO,GK,Ey,Ez,E4,E5,E6,E7,E8,Ek,El,Em,En,Eo,Ep,Eq,Er,Es,EJ,EK,EL,EM,EO,Et,Eu,Ev,Ew,EP,EQ,ER,ET,EU,EV,EW,EX,EY,EZ,Ea,Eb,Ec,Ff,Fg,Fh,EI,Fi,Fj,KE,KF,KG,KH,KI,KJ,KK,KM,KN,KO,KP,KQ,KR,KS,KU,KV,KW,KZ,Ka,Kb,Kc,Kd,Ke,Fk,Fl,Fm,Fn,Fo,Fp,Fq,GH,GI,GJ,AA,AB,AC,AE,AF,AG,AH,AI,AJ,AK,EH,B3,B4,B5,B8,B9,CD,CH,CI,CJ,CK,CM,CQ,CU,CX,DM,DN,DO,DP,DR,DS,DU,DV,DW,DX,DY,DQ,DZ,Dm,Do,Dp,Dq,Dr,Dt,Du,Da,Db,Dc,Dd,Df,Dg,Dh,Di,Dj,Dk,Dl,CY,CZ,Ca,Cb,Cc,Cd,Ce,Cf,Cg,Ch,Ci,Cj,Ck,Cl,Cm,Cn,Co,Cp,Cq,Cr,Cs,Ct,Cu,Cv,Cw,Cx,Cy,Cz,DA,DE,DG,DI,DJ,DK,DL,Dv,Dw,Dx,Dy,Dz,D5,D8,D9,EA,EB,EC,ED,EE,EF,EG,As,At,Au,Av,Aw,Ay,AR,AS,AU,AV,AW,AX,AY,AZ,Aa,Ab,Ac,Ad,Ae,Af,Ag,Ah,Ai,Aj,Ak,Al,Am,An,Ao,Ap,Aq,Ar,Az,A3,A4,A5,A6,A7,A8,A9,BA,BC,BD,BE,BF,BG,BH,BI,BJ,BK,BM,BN,BO,BP,BQ,BR,BS,BT,BU,BV,BW,BY,BZ,Ba,Bb,Bc,Bd,Be,Bf,Bg,Bh,Bi,Bj,Bk,Bl,Bm,Bn,Bo,Bp,Bq,Br,Bs,Bt,Bu,Bv,Bw,Bx,By,Bz,AL,AM,AN,AO,AP,AQ].toArray,[]⟩ W')) :
  (QB6 Tryz.f9 4).wp Tryz.prog Q ⟨[u0,u1,u2,v0,u4,u5,.pointer (some ⟨D,0,none⟩),.int .i64 (a:Int),.int .i64 0,u9,IG,IE,IF,II,ID,IC,GL,GM,H8,IA,GN,GO,GK,Ey,Ez,E4,E5,E6,E7,E8,Ek,El,Em,En,Eo,Ep,Eq,Er,Es,EJ,EK,EL,EM,EO,Et,Eu,Ev,Ew,EP,EQ,ER,ET,EU,EV,EW,EX,EY,EZ,Ea,Eb,Ec,Ff,Fg,Fh,EI,Fi,Fj,Fr,Fs,Ft,Fu,Fv,Fw,Fx,Fy,Fz,F2,F4,F5,F6,F7,F8,F9,GA,GB,GC,GD,GE,GF,GG,Fk,Fl,Fm,Fn,Fo,Fp,Fq,GH,GI,GJ,AA,AB,AC,AE,AF,AG,AH,AI,AJ,AK,EH,B3,B4,B5,B8,B9,CD,CH,CI,CJ,CK,CM,CQ,CU,CX,DM,DN,DO,DP,DR,DS,DU,DV,DW,DX,DY,DQ,DZ,Dm,Do,Dp,Dq,Dr,Dt,Du,Da,Db,Dc,Dd,Df,Dg,Dh,Di,Dj,Dk,Dl,CY,CZ,Ca,Cb,Cc,Cd,Ce,Cf,Cg,Ch,Ci,Cj,Ck,Cl,Cm,Cn,Co,Cp,Cq,Cr,Cs,Ct,Cu,Cv,Cw,Cx,Cy,Cz,DA,DE,DG,DI,DJ,DK,DL,Dv,Dw,Dx,Dy,Dz,D5,D8,D9,EA,EB,EC,ED,EE,EF,EG,As,At,Au,Av,Aw,Ay,AR,AS,AU,AV,AW,AX,AY,AZ,Aa,Ab,Ac,Ad,Ae,Af,Ag,Ah,Ai,Aj,Ak,Al,Am,An,Ao,Ap,Aq,Ar,Az,A3,A4,A5,A6,A7,A8,A9,BA,BC,BD,BE,BF,BG,BH,BI,BJ,BK,BM,BN,BO,BP,BQ,BR,BS,BT,BU,BV,BW,BY,BZ,Ba,Bb,Bc,Bd,Be,Bf,Bg,Bh,Bi,Bj,Bk,Bl,Bm,Bn,Bo,Bp,Bq,Br,Bs,Bt,Bu,Bv,Bw,Bx,By,Bz,AL,AM,AN,AO,AP,AQ].toArray,[]⟩ W:=by
 simp only [QB6,QAw,blk,Tryz.f9]
 simp only [Nat.reduceEqDiff,if_true,if_false]
 go_wp2_with fail
 go_loopw [3,8] (fun fv iv Y=>∃ (c:Nat) (v:Value),v = fv∧iv = .int .i64 (c:Int)∧c≤a∧Hid (FlGot Y v (fun b=>P b∨(samS (x.params.map (·.name)) a c = true∧b = x.pos)))∧Hid (Below W.heap.size W Y)) (fun _ i _=>a - QA2 i)
 case atStart=>exact ⟨0,_,rfl,rfl,Nat.zero_le _,hid (hF.out.ext fun b=>by simp [samS]),hid (Below.refl _ _)⟩
 case round =>
  obtain ⟨c,v,rfl,rfl,hc,hG,hB⟩:=hrel
  obtain ⟨x0,x1,x2,x3,x4,x5,x6⟩:=QBt ((hB.out.block D (lt_of_heap hX.out)).trans hX.out)
  by_cases hca:c < a
  ·have q0:(c:Int) < (a:Int):=by omega
   obtain ⟨ya,hya⟩:∃ y,x.params[a]? = some y:=⟨_,List.getElem?_eq_getElem (by rw [hln.out];exact hlt)⟩
   obtain ⟨yc,hyc⟩:∃ y,x.params[c]? = some y:=⟨_,List.getElem?_eq_getElem (by rw [hln.out];omega)⟩
   have ca:=QA1 hB.out (hp4.out a hlt ya hya).1
   have cc:=QA1 hB.out (hp4.out c (by omega) yc hyc).1
   have ixa:=QLu (cap:=capp) hp3.out hlt (by omega)
   have ixc:=QLu (cap:=capp) hp3.out (show c < n by omega) (by omega)
   unfold Ix at ixa ixc
   have HSU:=hid (QHk (x.params.map (·.name)) a c)
   rw [List.getElem?_map,List.getElem?_map,hya,hyc,Option.map_some,Option.map_some] at HSU
   have AD:Hid (∀ W,FlGot W v (fun b=>P b∨(samS (x.params.map (·.name)) a c = true∧b = x.pos))→_):=hid (fun W h=>QCl hs.out (fun b hb=>hb.elim (hP.out b) fun h2=>h2.2 ▸ hq.out) v x.pos W h)
   clear hX hF hya hyc
   go_wp2_with fail
   go_quiet (fail)
   cases hb:(ya.name.toList == yc.name.toList) with
   | true =>
    have e:yc.name = ya.name:=((QFU _ _).1 (by simpa using hb)).symm
    rw [e] at HSU
    go_wp2_with (go_at_call 18;(with_reducible refine (AD.out _ (hG.out.below (QAy (Below.refl _ _) _))).mono ?_);rintro e w1 ⟨v1,rfl,hG1,hb1⟩;have HG1:=hid hG1;have HB1:=hid hb1;clear hG1 hb1)
    refine ⟨⟨c+1,v1,rfl,by go_num,by omega,hid (HG1.out.ext fun b=>?_),hid ((QAy hB.out _).trans (HB1.out.mono (QAy hB.out _).size))⟩,by simp [QA2];omega⟩
    rw [HSU.out]
    simp only [decide_true,Bool.or_true,true_and]
    constructor
    ·rintro ((h | h) | h)
     ·exact .inl h
     ·exact .inr h.2
     ·exact .inr h
    ·rintro (h | h)
     ·exact .inl (.inl h)
     ·exact .inr h
   | false =>
    have e:¬ yc.name = ya.name:=fun e=>by rw [e] at hb;simp at hb
    go_wp2_with fail
    refine ⟨⟨c+1,v,rfl,by go_num,by omega,hid ((hG.out.below (QAy (Below.refl _ _) _)).ext fun b=>?_),hid (QAy hB.out _)⟩,by simp [QA2];omega⟩
    rw [HSU.out]
    simp [e]
  ·obtain rfl:c = a:=by omega
   have q0:¬ (c:Int) < (c:Int):=by omega
   clear hX hF
   go_wp2_with fail
   exact hK.out v _ _ _ _ _ _ _ _ _ _ _ _ _ _ _ _ _ _ _ _ _ _ _ _ hG.out hB.out
set_option maxRecDepth 100000 in
theorem in2 (p:Pr) (hs:Hid (Small p)) (D:Nat) (v0:Value) (P:Int→Prop) (hP:Hid (∀ b,P b→b∈QDC p)) (x:De) (hq:Hid (x.pos∈QDC p)) (n:Nat) (hln:Hid (x.params.length = n)) (nl:(n:Int)≤1000)
  (op:Option Addr) (capp bp offp:Nat) (T:TypeId) (i0 i1 i3 i4 i5:Value)
  (Q:Exit→Act→World→Prop) (W:World) (hX:Hid (W.heap[D]? = some (.cells #[i0,i1,.slice op n capp,i3,i4,i5,.int .i64 x.pos] T (0,0)))) (hp3:Hid (0 < n→op = some ⟨bp,offp,none⟩)) (hp4:Hid (∀ i,i < n→∀ y,x.params[i]? = some y→PaAt W bp (offp+i*2) y)) (hF:Hid (FlGot W v0 P))
  (hK:Hid (∀ (v3 v7 v8 LG LH LI LJ LL LM LN KE KF KG KH KI KJ KK KM KN KO KP KQ KR KS KU KV KW KZ Ka Kb Kc Kd Ke:Value) W',FlGot W' v3 (fun b=>P b∨(samT (x.params.map (·.name)) n = true∧b = x.pos))→Below W.heap.size W W'→Q .normal ⟨[u0,u1,u2,v3,u4,u5,.pointer (some ⟨D,0,none⟩),v7,v8,u9,IG,IE,IF,II,ID,IC,GL,GM,H8,IA,GN,GO,GK,Ey,Ez,E4,E5,E6,E7,E8,Ek,El,Em,En,Eo,Ep,Eq,Er,Es,EJ,EK,EL,EM,EO,Et,Eu,Ev,Ew,EP,EQ,ER,ET,EU,EV,EW,EX,EY,EZ,Ea,Eb,LG,LH,LI,LJ,LL,LM,LN,KE,KF,KG,KH,KI,KJ,KK,KM,KN,KO,KP,KQ,KR,KS,KU,KV,KW,KZ,Ka,Kb,Kc,Kd,Ke,Fk,Fl,Fm,Fn,Fo,Fp,Fq,GH,GI,GJ,AA,AB,AC,AE,AF,AG,AH,AI,AJ,AK,EH,B3,B4,B5,B8,B9,CD,CH,CI,CJ,CK,CM,CQ,CU,CX,DM,DN,DO,DP,DR,DS,DU,DV,DW,DX,DY,DQ,DZ,Dm,Do,Dp,Dq,Dr,Dt,Du,Da,Db,Dc,Dd,Df,Dg,Dh,Di,Dj,Dk,Dl,CY,CZ,Ca,Cb,Cc,Cd,Ce,Cf,Cg,Ch,Ci,Cj,Ck,Cl,Cm,Cn,Co,Cp,Cq,Cr,Cs,Ct,Cu,Cv,Cw,Cx,Cy,Cz,DA,DE,DG,DI,DJ,DK,DL,Dv,Dw,Dx,Dy,Dz,D5,D8,D9,EA,EB,EC,ED,EE,EF,EG,As,At,Au,Av,Aw,Ay,AR,AS,AU,AV,AW,AX,AY,AZ,Aa,Ab,Ac,Ad,Ae,Af,Ag,Ah,Ai,Aj,Ak,Al,Am,An,Ao,Ap,Aq,Ar,Az,A3,A4,A5,A6,A7,A8,A9,BA,BC,BD,BE,BF,BG,BH,BI,BJ,BK,BM,BN,BO,BP,BQ,BR,BS,BT,BU,BV,BW,BY,BZ,Ba,Bb,Bc,Bd,Be,Bf,Bg,Bh,Bi,Bj,Bk,Bl,Bm,Bn,Bo,Bp,Bq,Br,Bs,Bt,Bu,Bv,Bw,Bx,By,Bz,AL,AM,AN,AO,AP,AQ].toArray,[]⟩ W')) :
  (QB6 Tryz.f9 2).wp Tryz.prog Q ⟨[u0,u1,u2,v0,u4,u5,.pointer (some ⟨D,0,none⟩),.int .i64 0,u8,u9,IG,IE,IF,II,ID,IC,GL,GM,H8,IA,GN,GO,GK,Ey,Ez,E4,E5,E6,E7,E8,Ek,El,Em,En,Eo,Ep,Eq,Er,Es,EJ,EK,EL,EM,EO,Et,Eu,Ev,Ew,EP,EQ,ER,ET,EU,EV,EW,EX,EY,EZ,Ea,Eb,Ec,Ff,Fg,Fh,EI,Fi,Fj,Fr,Fs,Ft,Fu,Fv,Fw,Fx,Fy,Fz,F2,F4,F5,F6,F7,F8,F9,GA,GB,GC,GD,GE,GF,GG,Fk,Fl,Fm,Fn,Fo,Fp,Fq,GH,GI,GJ,AA,AB,AC,AE,AF,AG,AH,AI,AJ,AK,EH,B3,B4,B5,B8,B9,CD,CH,CI,CJ,CK,CM,CQ,CU,CX,DM,DN,DO,DP,DR,DS,DU,DV,DW,DX,DY,DQ,DZ,Dm,Do,Dp,Dq,Dr,Dt,Du,Da,Db,Dc,Dd,Df,Dg,Dh,Di,Dj,Dk,Dl,CY,CZ,Ca,Cb,Cc,Cd,Ce,Cf,Cg,Ch,Ci,Cj,Ck,Cl,Cm,Cn,Co,Cp,Cq,Cr,Cs,Ct,Cu,Cv,Cw,Cx,Cy,Cz,DA,DE,DG,DI,DJ,DK,DL,Dv,Dw,Dx,Dy,Dz,D5,D8,D9,EA,EB,EC,ED,EE,EF,EG,As,At,Au,Av,Aw,Ay,AR,AS,AU,AV,AW,AX,AY,AZ,Aa,Ab,Ac,Ad,Ae,Af,Ag,Ah,Ai,Aj,Ak,Al,Am,An,Ao,Ap,Aq,Ar,Az,A3,A4,A5,A6,A7,A8,A9,BA,BC,BD,BE,BF,BG,BH,BI,BJ,BK,BM,BN,BO,BP,BQ,BR,BS,BT,BU,BV,BW,BY,BZ,Ba,Bb,Bc,Bd,Be,Bf,Bg,Bh,Bi,Bj,Bk,Bl,Bm,Bn,Bo,Bp,Bq,Br,Bs,Bt,Bu,Bv,Bw,Bx,By,Bz,AL,AM,AN,AO,AP,AQ].toArray,[]⟩ W:=by
 simp only [QB6,QAw,blk,Tryz.f9]
 simp only [Nat.reduceEqDiff,if_true,if_false]
 go_wp2_with fail
 go_loopw [3,7] (fun fv iv Y=>∃ (c:Nat) (v:Value),v = fv∧iv = .int .i64 (c:Int)∧c≤n∧Hid (FlGot Y v (fun b=>P b∨(samT (x.params.map (·.name)) c = true∧b = x.pos)))∧Hid (Below W.heap.size W Y)) (fun _ i _=>n - QA2 i)
 case atStart=>exact ⟨0,_,rfl,rfl,Nat.zero_le _,hid (hF.out.ext fun b=>by simp [samT]),hid (Below.refl _ _)⟩
 case round =>
  obtain ⟨c,v,rfl,rfl,hc,hG,hB⟩:=hrel
  have hX2:Hid (wr.heap[D]? = some (.cells #[i0,i1,.slice op n capp,i3,i4,i5,.int .i64 x.pos] T (0,0))):=hid ((hB.out.block D (lt_of_heap hX.out)).trans hX.out)
  obtain ⟨x0,x1,x2,x3,x4,x5,x6⟩:=QBt hX2.out
  by_cases hca:c < n
  ·have q0:(c:Int) < (n:Int):=by omega
   have HSU:=hid (QHl (x.params.map (·.name)) c)
   have hp5:Hid (∀ i,i < n→∀ y,x.params[i]? = some y→PaAt wr bp (offp+i*2) y):=hid (fun i hi y hy=>(hp4.out i hi y hy).below hB.out)
   clear hX hF
   go_upto_block 4 with fail
   refine in4 p hs (D:=D) (a:=c) (v0:=v) (P:=fun b=>P b∨(samT (x.params.map (·.name)) c = true∧b = x.pos)) (hP:=hid fun b hb=>hb.elim (hP.out b) fun h2=>h2.2 ▸ hq.out) (x:=x) hq (n:=n) hln hca nl (op:=op) (capp:=capp) (bp:=bp) (offp:=offp) (T:=T) (W:=wr) (hX:=hX2) (hp3:=hp3) (hp4:=hp5) (hF:=hG) (hK:=hid ?_)
   intros
   rename_i v1 _ _ _ _ _ _ _ _ _ _ _ _ _ _ _ _ _ _ _ _ _ _ _ W2 hg2 hb2
   dsimp only
   go_wp2_with fail
   refine ⟨⟨c+1,v1,rfl,by go_num,by omega,hid (hg2.ext fun b=>?_),hid (hB.out.trans (hb2.mono hB.out.size))⟩,by simp [QA2];omega⟩
   rw [HSU.out]
   simp only [Bool.or_eq_true]
   constructor
   ·rintro ((h | h) | h)
    ·exact .inl h
    ·exact .inr ⟨.inl h.1,h.2⟩
    ·exact .inr ⟨.inr h.1,h.2⟩
   ·rintro (h | ⟨h | h,h2⟩)
    ·exact .inl (.inl h)
    ·exact .inl (.inr ⟨h,h2⟩)
    ·exact .inr ⟨h,h2⟩
  ·obtain rfl:c = n:=by omega
   have q0:¬ (c:Int) < (c:Int):=by omega
   clear hX hF
   go_wp2_with fail
   exact hK.out v _ _ _ _ _ _ _ _ _ _ _ _ _ _ _ _ _ _ _ _ _ _ _ _ _ _ _ _ _ _ _ _ _ hG.out hB.out
noncomputable def sq (n:Nat):Code→Option Code
 | .seq (.region i o d) b=>if i = n then some (.seq (.region i o d) b) else sq n b
 | .seq a b=>match sq n a with
  | some c=>some c
  | none=>sq n b
 | .cond _ a b=>match sq n a with
  | some c=>some c
  | none=>sq n b
 | .block _ c=>sq n c
 | .loop c=>sq n c
 | _=>none
noncomputable def QKt (f:Func) (n:Nat):Code:=match sq n (QAw f) with
 | some c=>c
 | none=>.skip
set_option maxRecDepth 100000 in
theorem in9R (p:Pr) (hs:Hid (Small p)) (B D c H:Nat) (v0 sd se:Value) (P:Int→Prop) (hP:Hid (∀ b,P b→b∈QDC p)) (x:De) (i2 i3 i4 i5:Value) (T:TypeId) (hHl:(H:Int)≤60) (hHy:Hid (hybs (p.decls.take (c+1)) = H))
  (Q:Exit→Act→World→Prop) (W:World) (hX:Hid (W.heap[D]? = some (.cells #[.int .i64 x.kind,.string x.name,i2,i3,i4,i5,.int .i64 x.pos] T (0,0)))) (hB:Hid (W.heap[B]? = some (.cells #[sd,se] 26 (0,0)))) (hPA:Hid (ProgAt W sd se p)) (hF:Hid (FlGot W v0 P))
  (hK:Hid (∀ (v3 Kq Kr Ks Kt Ku Kv Kw Kx Ky Kz K0 K4 K5 K6 K9 LA LB LC LE LF:Value) W',FlGot W' v3 (fun b=>P b∨(QGI p c x∧b = x.pos))→Below W.heap.size W W'→Q .normal ⟨[u0,.pointer (some ⟨B,0,none⟩),u2,v3,.int .i64 (H:Int),.int .i64 (c:Int),.pointer (some ⟨D,0,none⟩),u7,u8,u9,IG,IE,IF,II,ID,IC,GL,GM,H8,IA,GN,GO,GK,Ey,Ez,E4,E5,E6,E7,E8,Ek,El,Em,En,Eo,Ep,Eq,Er,Es,EJ,Kq,Kr,Ks,Kt,Ku,Kv,Kw,Kx,Ky,Kz,K0,K4,K5,K6,K9,LA,LB,LC,LE,LF,Ec,Ff,Fg,Fh,EI,Fi,Fj,Fr,Fs,Ft,Fu,Fv,Fw,Fx,Fy,Fz,F2,F4,F5,F6,F7,F8,F9,GA,GB,GC,GD,GE,GF,GG,Fk,Fl,Fm,Fn,Fo,Fp,Fq,GH,GI,GJ,AA,AB,AC,AE,AF,AG,AH,AI,AJ,AK,EH,B3,B4,B5,B8,B9,CD,CH,CI,CJ,CK,CM,CQ,CU,CX,DM,DN,DO,DP,DR,DS,DU,DV,DW,DX,DY,DQ,DZ,Dm,Do,Dp,Dq,Dr,Dt,Du,Da,Db,Dc,Dd,Df,Dg,Dh,Di,Dj,Dk,Dl,CY,CZ,Ca,Cb,Cc,Cd,Ce,Cf,Cg,Ch,Ci,Cj,Ck,Cl,Cm,Cn,Co,Cp,Cq,Cr,Cs,Ct,Cu,Cv,Cw,Cx,Cy,Cz,DA,DE,DG,DI,DJ,DK,DL,Dv,Dw,Dx,Dy,Dz,D5,D8,D9,EA,EB,EC,ED,EE,EF,EG,As,At,Au,Av,Aw,Ay,AR,AS,AU,AV,AW,AX,AY,AZ,Aa,Ab,Ac,Ad,Ae,Af,Ag,Ah,Ai,Aj,Ak,Al,Am,An,Ao,Ap,Aq,Ar,Az,A3,A4,A5,A6,A7,A8,A9,BA,BC,BD,BE,BF,BG,BH,BI,BJ,BK,BM,BN,BO,BP,BQ,BR,BS,BT,BU,BV,BW,BY,BZ,Ba,Bb,Bc,Bd,Be,Bf,Bg,Bh,Bi,Bj,Bk,Bl,Bm,Bn,Bo,Bp,Bq,Br,Bs,Bt,Bu,Bv,Bw,Bx,By,Bz,AL,AM,AN,AO,AP,AQ].toArray,[]⟩ W')) :
  (QKt Tryz.f9 9).wp Tryz.prog Q ⟨[u0,.pointer (some ⟨B,0,none⟩),u2,v0,.int .i64 (H:Int),.int .i64 (c:Int),.pointer (some ⟨D,0,none⟩),u7,u8,u9,IG,IE,IF,II,ID,IC,GL,GM,H8,IA,GN,GO,GK,Ey,Ez,E4,E5,E6,E7,E8,Ek,El,Em,En,Eo,Ep,Eq,Er,Es,EJ,EK,EL,EM,EO,Et,Eu,Ev,Ew,EP,EQ,ER,ET,EU,EV,EW,EX,EY,EZ,Ea,Eb,Ec,Ff,Fg,Fh,EI,Fi,Fj,Fr,Fs,Ft,Fu,Fv,Fw,Fx,Fy,Fz,F2,F4,F5,F6,F7,F8,F9,GA,GB,GC,GD,GE,GF,GG,Fk,Fl,Fm,Fn,Fo,Fp,Fq,GH,GI,GJ,AA,AB,AC,AE,AF,AG,AH,AI,AJ,AK,EH,B3,B4,B5,B8,B9,CD,CH,CI,CJ,CK,CM,CQ,CU,CX,DM,DN,DO,DP,DR,DS,DU,DV,DW,DX,DY,DQ,DZ,Dm,Do,Dp,Dq,Dr,Dt,Du,Da,Db,Dc,Dd,Df,Dg,Dh,Di,Dj,Dk,Dl,CY,CZ,Ca,Cb,Cc,Cd,Ce,Cf,Cg,Ch,Ci,Cj,Ck,Cl,Cm,Cn,Co,Cp,Cq,Cr,Cs,Ct,Cu,Cv,Cw,Cx,Cy,Cz,DA,DE,DG,DI,DJ,DK,DL,Dv,Dw,Dx,Dy,Dz,D5,D8,D9,EA,EB,EC,ED,EE,EF,EG,As,At,Au,Av,Aw,Ay,AR,AS,AU,AV,AW,AX,AY,AZ,Aa,Ab,Ac,Ad,Ae,Af,Ag,Ah,Ai,Aj,Ak,Al,Am,An,Ao,Ap,Aq,Ar,Az,A3,A4,A5,A6,A7,A8,A9,BA,BC,BD,BE,BF,BG,BH,BI,BJ,BK,BM,BN,BO,BP,BQ,BR,BS,BT,BU,BV,BW,BY,BZ,Ba,Bb,Bc,Bd,Be,Bf,Bg,Bh,Bi,Bj,Bk,Bl,Bm,Bn,Bo,Bp,Bq,Br,Bs,Bt,Bu,Bv,Bw,Bx,By,Bz,AL,AM,AN,AO,AP,AQ].toArray,[]⟩ W:=by
 simp only [QKt,QAw,sq,Tryz.f9]
 simp only [Nat.reduceEqDiff,if_true,if_false]
 obtain ⟨d0,d1,d2,d3,d4,d5,d6⟩:=QBt hX.out
 obtain ⟨g0,g1⟩:=QAA hB.out
 have DCL:=hid (QFL _ _ p x.name W hPA.out hs.out)
 have AD:Hid (∀ W,FlGot W v0 P→_):=hid (fun W h=>QCl hs.out hP.out v0 x.pos W h)
 obtain ⟨q,hq2⟩:∃ q,q = QDF p.decls x.name:=⟨_,rfl⟩
 rw [← hq2] at DCL
 have HRD:Hid (QGI p c x↔(x.kind = 3∧1 < H)∨q≠(c:Int)):=hid (by unfold QGI;rw [hHy.out,hq2])
 clear hq2
 have ex:Hid (∀ b,(QGI p c x∧b = x.pos)↔(QGI p c x∧b = x.pos)):=hid fun _=>Iff.rfl
 by_cases hk:x.kind = 3
 ·have qk:(x.kind == 3) = true:=by simp [hk]
  by_cases h1:1 < H
  ·have q1:decide ((1:Int) < (H:Int)) = true:=decide_eq_true (by omega)
   have HR:Hid (QGI p c x):=hid (HRD.out.2 (.inl ⟨hk,h1⟩))
   clear hk h1 hX hB
   go_wp2_with (go_at_call 18;(with_reducible refine (AD.out _ hF.out).mono ?_);rintro e w2 ⟨v1,rfl,hG1,hb1⟩;have HG1:=hid hG1;have HB1:=hid hb1;clear hG1 hb1)
   exact hK.out v1 _ _ _ _ _ _ _ _ _ _ _ _ _ _ _ _ _ _ _ _ _ (HG1.out.ext fun b=>by simp [HR.out]) HB1.out
  ·have q1:decide ((1:Int) < (H:Int)) = false:=decide_eq_false (by omega)
   have H1:=hid h1
   by_cases h2:q = (c:Int)
   ·have q2:(q != (c:Int)) = false:=by simp [h2]
    have HR:Hid (¬ QGI p c x):=hid (fun h=>(HRD.out.1 h).elim (fun h=>H1.out h.2) fun h=>h h2)
    clear hX hB h2 hk h1
    go_wp2_with (go_at_call 17;(with_reducible refine DCL.out.mono ?_);rintro e w1 ⟨rfl,hb0⟩;have HB0:=hid hb0;have HF1:=hid (hF.out.below hb0);have D6:=QA1 hb0 d6;clear hb0)
    exact hK.out v0 _ _ _ _ _ _ _ _ _ _ _ _ _ _ _ _ _ _ _ _ _ (HF1.out.ext fun b=>by simp [HR.out]) HB0.out
   ·have q2:(q != (c:Int)) = true:=by simp [h2]
    have HR:Hid (QGI p c x):=hid (HRD.out.2 (.inr h2))
    clear hX hB h2 hk h1
    go_wp2_with first | (go_at_call 17;(with_reducible refine DCL.out.mono ?_);rintro e w1 ⟨rfl,hb0⟩;have HB0:=hid hb0;have HF1:=hid (hF.out.below hb0);have D6:=QA1 hb0 d6;clear hb0) | (go_at_call 18;(with_reducible refine (AD.out _ HF1.out).mono ?_);rintro e w2 ⟨v1,rfl,hG1,hb1⟩;have HG1:=hid hG1;have HB1:=hid hb1;clear hG1 hb1)
    exact hK.out v1 _ _ _ _ _ _ _ _ _ _ _ _ _ _ _ _ _ _ _ _ _ (HG1.out.ext fun b=>by simp [HR.out]) (HB0.out.trans (HB1.out.mono HB0.out.size))
 ·have qk:(x.kind == 3) = false:=by simp [hk]
  have H1:=hid hk
  by_cases h2:q = (c:Int)
  ·have q2:(q != (c:Int)) = false:=by simp [h2]
   have HR:Hid (¬ QGI p c x):=hid (fun h=>(HRD.out.1 h).elim (fun h=>H1.out h.1) fun h=>h h2)
   clear hX hB h2 hk
   go_wp2_with (go_at_call 17;(with_reducible refine DCL.out.mono ?_);rintro e w1 ⟨rfl,hb0⟩;have HB0:=hid hb0;have HF1:=hid (hF.out.below hb0);have D6:=QA1 hb0 d6;clear hb0)
   exact hK.out v0 _ _ _ _ _ _ _ _ _ _ _ _ _ _ _ _ _ _ _ _ _ (HF1.out.ext fun b=>by simp [HR.out]) HB0.out
  ·have q2:(q != (c:Int)) = true:=by simp [h2]
   have HR:Hid (QGI p c x):=hid (HRD.out.2 (.inr h2))
   clear hX hB h2 hk
   go_wp2_with first | (go_at_call 17;(with_reducible refine DCL.out.mono ?_);rintro e w1 ⟨rfl,hb0⟩;have HB0:=hid hb0;have HF1:=hid (hF.out.below hb0);have D6:=QA1 hb0 d6;clear hb0) | (go_at_call 18;(with_reducible refine (AD.out _ HF1.out).mono ?_);rintro e w2 ⟨v1,rfl,hG1,hb1⟩;have HG1:=hid hG1;have HB1:=hid hb1;clear hG1 hb1)
   exact hK.out v1 _ _ _ _ _ _ _ _ _ _ _ _ _ _ _ _ _ _ _ _ _ (HG1.out.ext fun b=>by simp [HR.out]) (HB0.out.trans (HB1.out.mono HB0.out.size))
theorem QCH {W:World} {B:Nat} {a b c d:Value} {T:TypeId} (hB:W.heap[B]? = some (.cells #[a,b,c,d] T (0,0))):W.cell? ⟨B,0,none⟩ = some a∧W.cell? ⟨B,1,none⟩ = some b∧W.cell? ⟨B,2,none⟩ = some c∧W.cell? ⟨B,3,none⟩ = some d :=
 ⟨by simp [World.cell?,hB],by simp [World.cell?,hB],by simp [World.cell?,hB],by simp [World.cell?,hB]⟩
set_option maxRecDepth 100000 in
theorem in56 (E V:Nat) (k s:Int) (ok b0:Bool) (i1 i2 i3 i4 i5 i6 i7 i8 j0 j2 j3:Value) (T T2:TypeId)
  (Q:Exit→Act→World→Prop) (W:World) (hX:Hid (W.heap[E]? = some (.cells #[.int .i64 k,i1,i2,i3,i4,i5,i6,i7,i8] T (0,0)))) (hV:Hid (W.heap[V]? = some (.cells #[j0,.int .i64 s,j2,j3] T2 (0,0))))
  (hK:Hid (∀ (IU IV IW IX IY IZ Ia Ib Ic Id:Value),Q .normal ⟨[u0,u1,u2,u3,u4,u5,u6,u7,u8,u9,IG,IE,IF,II,ID,IC,GL,GM,.pointer (some ⟨E,0,none⟩),.bool (if k = 3 then !ok || s == 5 else b0),.pointer (some ⟨V,0,none⟩),.bool ok,GK,Ey,Ez,E4,E5,E6,E7,E8,Ek,El,Em,En,Eo,Ep,Eq,Er,Es,EJ,EK,EL,EM,EO,Et,Eu,Ev,Ew,EP,EQ,ER,ET,EU,EV,EW,EX,EY,EZ,Ea,Eb,Ec,Ff,Fg,Fh,EI,Fi,Fj,Fr,Fs,Ft,Fu,Fv,Fw,Fx,Fy,Fz,F2,F4,F5,F6,F7,F8,F9,GA,GB,GC,GD,GE,GF,GG,Fk,Fl,Fm,Fn,Fo,Fp,Fq,GH,GI,GJ,AA,AB,AC,AE,AF,AG,AH,AI,AJ,AK,EH,B3,B4,B5,B8,B9,CD,CH,CI,CJ,CK,CM,CQ,CU,CX,DM,DN,DO,DP,DR,DS,DU,DV,DW,DX,DY,DQ,DZ,Dm,Do,Dp,Dq,Dr,Dt,Du,Da,Db,Dc,Dd,Df,Dg,Dh,Di,Dj,Dk,Dl,CY,CZ,Ca,Cb,Cc,Cd,Ce,Cf,Cg,Ch,Ci,Cj,Ck,Cl,Cm,Cn,Co,Cp,Cq,Cr,Cs,Ct,Cu,Cv,Cw,Cx,Cy,Cz,DA,DE,DG,DI,DJ,DK,DL,Dv,Dw,Dx,Dy,Dz,D5,D8,D9,EA,EB,EC,ED,EE,EF,EG,As,At,Au,Av,Aw,Ay,AR,AS,AU,AV,AW,AX,AY,AZ,Aa,Ab,Ac,Ad,Ae,Af,Ag,Ah,Ai,Aj,Ak,Al,Am,An,Ao,Ap,Aq,Ar,IU,IV,IW,IX,IY,IZ,Ia,Ib,Ic,Id,BD,BE,BF,BG,BH,BI,BJ,BK,BM,BN,BO,BP,BQ,BR,BS,BT,BU,BV,BW,BY,BZ,Ba,Bb,Bc,Bd,Be,Bf,Bg,Bh,Bi,Bj,Bk,Bl,Bm,Bn,Bo,Bp,Bq,Br,Bs,Bt,Bu,Bv,Bw,Bx,By,Bz,AL,AM,AN,AO,AP,AQ].toArray,[]⟩ W)) :
  (QKt Tryz.f9 56).wp Tryz.prog Q ⟨[u0,u1,u2,u3,u4,u5,u6,u7,u8,u9,IG,IE,IF,II,ID,IC,GL,GM,.pointer (some ⟨E,0,none⟩),.bool b0,.pointer (some ⟨V,0,none⟩),.bool ok,GK,Ey,Ez,E4,E5,E6,E7,E8,Ek,El,Em,En,Eo,Ep,Eq,Er,Es,EJ,EK,EL,EM,EO,Et,Eu,Ev,Ew,EP,EQ,ER,ET,EU,EV,EW,EX,EY,EZ,Ea,Eb,Ec,Ff,Fg,Fh,EI,Fi,Fj,Fr,Fs,Ft,Fu,Fv,Fw,Fx,Fy,Fz,F2,F4,F5,F6,F7,F8,F9,GA,GB,GC,GD,GE,GF,GG,Fk,Fl,Fm,Fn,Fo,Fp,Fq,GH,GI,GJ,AA,AB,AC,AE,AF,AG,AH,AI,AJ,AK,EH,B3,B4,B5,B8,B9,CD,CH,CI,CJ,CK,CM,CQ,CU,CX,DM,DN,DO,DP,DR,DS,DU,DV,DW,DX,DY,DQ,DZ,Dm,Do,Dp,Dq,Dr,Dt,Du,Da,Db,Dc,Dd,Df,Dg,Dh,Di,Dj,Dk,Dl,CY,CZ,Ca,Cb,Cc,Cd,Ce,Cf,Cg,Ch,Ci,Cj,Ck,Cl,Cm,Cn,Co,Cp,Cq,Cr,Cs,Ct,Cu,Cv,Cw,Cx,Cy,Cz,DA,DE,DG,DI,DJ,DK,DL,Dv,Dw,Dx,Dy,Dz,D5,D8,D9,EA,EB,EC,ED,EE,EF,EG,As,At,Au,Av,Aw,Ay,AR,AS,AU,AV,AW,AX,AY,AZ,Aa,Ab,Ac,Ad,Ae,Af,Ag,Ah,Ai,Aj,Ak,Al,Am,An,Ao,Ap,Aq,Ar,Az,A3,A4,A5,A6,A7,A8,A9,BA,BC,BD,BE,BF,BG,BH,BI,BJ,BK,BM,BN,BO,BP,BQ,BR,BS,BT,BU,BV,BW,BY,BZ,Ba,Bb,Bc,Bd,Be,Bf,Bg,Bh,Bi,Bj,Bk,Bl,Bm,Bn,Bo,Bp,Bq,Br,Bs,Bt,Bu,Bv,Bw,Bx,By,Bz,AL,AM,AN,AO,AP,AQ].toArray,[]⟩ W:=by
 simp only [QKt,QAw,sq,Tryz.f9]
 simp only [Nat.reduceEqDiff,if_true,if_false]
 obtain ⟨d0,d1,d2,d3,d4,d5,d6,d7,d8⟩:=QB1 hX.out
 obtain ⟨g0,g1,g2,g3⟩:=QCH hV.out
 by_cases hk:k = 3
 ·have qk:(k == 3) = true:=by simp [hk]
  rw [if_pos hk] at hK
  clear hk hX hV
  cases ok with
  | true =>
   cases hs:(s == 5) with
   | true =>
    rw [hs] at hK
    go_wp2_with fail
    apply hK.out
   | false =>
    rw [hs] at hK
    go_wp2_with fail
    apply hK.out
  | false =>
   go_wp2_with fail
   apply hK.out
 ·have qk:(k == 3) = false:=by simp [hk]
  rw [if_neg hk] at hK
  clear hk hX hV
  go_wp2_with fail
  apply hK.out
set_option maxRecDepth 100000 in
theorem in58 (D E:Nat) (k:Int) (b0:Bool) (nm st:ByteArray) (d:De) (i1 i2 i3 i6 i7 i8 j0 j1 j2 j3 j4 j5 j6:Value) (T:TypeId)
  (Q:Exit→Act→World→Prop) (W:World) (hX:Hid (W.heap[E]? = some (.cells #[.int .i64 k,i1,i2,i3,.string nm,.string st,i6,i7,i8] T (0,0)))) (hD:Hid (W.heap[D]? = some (.cells #[j0,j1,j2,j3,j4,j5,j6] 36 (0,0)))) (hDV:Hid (DeVal W (.agg #[j0,j1,j2,j3,j4,j5,j6]) d)) (h1:d.params.length≤600) (h2:d.items.length≤600) (h3:Hid (∀ x∈d.items,x.states.length≤1000))
  (hK:Hid (∀ (Ie If Ig Ih Ii Ij Ik Il Im In:Value) W',Below W.heap.size W W'→Q .normal ⟨[u0,u1,u2,u3,u4,u5,.pointer (some ⟨D,0,none⟩),u7,u8,u9,IG,IE,IF,II,ID,IC,GL,GM,.pointer (some ⟨E,0,none⟩),.bool (if k = 20 then !QBX d nm st else b0),GN,GO,GK,Ey,Ez,E4,E5,E6,E7,E8,Ek,El,Em,En,Eo,Ep,Eq,Er,Es,EJ,EK,EL,EM,EO,Et,Eu,Ev,Ew,EP,EQ,ER,ET,EU,EV,EW,EX,EY,EZ,Ea,Eb,Ec,Ff,Fg,Fh,EI,Fi,Fj,Fr,Fs,Ft,Fu,Fv,Fw,Fx,Fy,Fz,F2,F4,F5,F6,F7,F8,F9,GA,GB,GC,GD,GE,GF,GG,Fk,Fl,Fm,Fn,Fo,Fp,Fq,GH,GI,GJ,AA,AB,AC,AE,AF,AG,AH,AI,AJ,AK,EH,B3,B4,B5,B8,B9,CD,CH,CI,CJ,CK,CM,CQ,CU,CX,DM,DN,DO,DP,DR,DS,DU,DV,DW,DX,DY,DQ,DZ,Dm,Do,Dp,Dq,Dr,Dt,Du,Da,Db,Dc,Dd,Df,Dg,Dh,Di,Dj,Dk,Dl,CY,CZ,Ca,Cb,Cc,Cd,Ce,Cf,Cg,Ch,Ci,Cj,Ck,Cl,Cm,Cn,Co,Cp,Cq,Cr,Cs,Ct,Cu,Cv,Cw,Cx,Cy,Cz,DA,DE,DG,DI,DJ,DK,DL,Dv,Dw,Dx,Dy,Dz,D5,D8,D9,EA,EB,EC,ED,EE,EF,EG,As,At,Au,Av,Aw,Ay,AR,AS,AU,AV,AW,AX,AY,AZ,Aa,Ab,Ac,Ad,Ae,Af,Ag,Ah,Ai,Aj,Ak,Al,Am,An,Ao,Ap,Aq,Ar,Az,A3,A4,A5,A6,A7,A8,A9,BA,BC,Ie,If,Ig,Ih,Ii,Ij,Ik,Il,Im,In,BO,BP,BQ,BR,BS,BT,BU,BV,BW,BY,BZ,Ba,Bb,Bc,Bd,Be,Bf,Bg,Bh,Bi,Bj,Bk,Bl,Bm,Bn,Bo,Bp,Bq,Br,Bs,Bt,Bu,Bv,Bw,Bx,By,Bz,AL,AM,AN,AO,AP,AQ].toArray,[]⟩ W')) :
  (QKt Tryz.f9 58).wp Tryz.prog Q ⟨[u0,u1,u2,u3,u4,u5,.pointer (some ⟨D,0,none⟩),u7,u8,u9,IG,IE,IF,II,ID,IC,GL,GM,.pointer (some ⟨E,0,none⟩),.bool b0,GN,GO,GK,Ey,Ez,E4,E5,E6,E7,E8,Ek,El,Em,En,Eo,Ep,Eq,Er,Es,EJ,EK,EL,EM,EO,Et,Eu,Ev,Ew,EP,EQ,ER,ET,EU,EV,EW,EX,EY,EZ,Ea,Eb,Ec,Ff,Fg,Fh,EI,Fi,Fj,Fr,Fs,Ft,Fu,Fv,Fw,Fx,Fy,Fz,F2,F4,F5,F6,F7,F8,F9,GA,GB,GC,GD,GE,GF,GG,Fk,Fl,Fm,Fn,Fo,Fp,Fq,GH,GI,GJ,AA,AB,AC,AE,AF,AG,AH,AI,AJ,AK,EH,B3,B4,B5,B8,B9,CD,CH,CI,CJ,CK,CM,CQ,CU,CX,DM,DN,DO,DP,DR,DS,DU,DV,DW,DX,DY,DQ,DZ,Dm,Do,Dp,Dq,Dr,Dt,Du,Da,Db,Dc,Dd,Df,Dg,Dh,Di,Dj,Dk,Dl,CY,CZ,Ca,Cb,Cc,Cd,Ce,Cf,Cg,Ch,Ci,Cj,Ck,Cl,Cm,Cn,Co,Cp,Cq,Cr,Cs,Ct,Cu,Cv,Cw,Cx,Cy,Cz,DA,DE,DG,DI,DJ,DK,DL,Dv,Dw,Dx,Dy,Dz,D5,D8,D9,EA,EB,EC,ED,EE,EF,EG,As,At,Au,Av,Aw,Ay,AR,AS,AU,AV,AW,AX,AY,AZ,Aa,Ab,Ac,Ad,Ae,Af,Ag,Ah,Ai,Aj,Ak,Al,Am,An,Ao,Ap,Aq,Ar,Az,A3,A4,A5,A6,A7,A8,A9,BA,BC,BD,BE,BF,BG,BH,BI,BJ,BK,BM,BN,BO,BP,BQ,BR,BS,BT,BU,BV,BW,BY,BZ,Ba,Bb,Bc,Bd,Be,Bf,Bg,Bh,Bi,Bj,Bk,Bl,Bm,Bn,Bo,Bp,Bq,Br,Bs,Bt,Bu,Bv,Bw,Bx,By,Bz,AL,AM,AN,AO,AP,AQ].toArray,[]⟩ W:=by
 simp only [QKt,QAw,sq,Tryz.f9]
 simp only [Nat.reduceEqDiff,if_true,if_false]
 obtain ⟨d0,d1,d2,d3,d4,d5,d6,d7,d8⟩:=QB1 hX.out
 obtain ⟨g0,g1,g2,g3,g4,g5,g6⟩:=QBt hD.out
 have SC:=hid (QEP _ d nm st W hDV.out h1 h2 h3.out)
 by_cases hk:k = 20
 ·have qk:(k == 20) = true:=by simp [hk]
  rw [if_pos hk] at hK
  clear hk hX hD
  go_wp2_with (go_at_call 20;(with_reducible refine SC.out.mono ?_);rintro e w1 ⟨rfl,hb0⟩;have HB0:=hid hb0;clear hb0)
  apply hK.out;exact HB0.out
 ·have qk:(k == 20) = false:=by simp [hk]
  rw [if_neg hk] at hK
  clear hk hX hD
  go_wp2_with fail
  exact hK.out _ _ _ _ _ _ _ _ _ _ _ (Below.refl _ _)
end
end Go.Proofs.YtknbghjoncomiaaGreat
