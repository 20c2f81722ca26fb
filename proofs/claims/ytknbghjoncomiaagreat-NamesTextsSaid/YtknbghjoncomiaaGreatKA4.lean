/- Joined: RgKit, RgItem, RgEnd, RgKind, RgLet, RgDer, RgReset, RgMem, RgOn, RgFrom, RgOut, RgNone, RgMode, RgModeP, RgModeC, RgAny. -/
import Derived.Test.YtknbghjoncomiaaGreatKA2
import Derived.Test.YtknbghjoncomiaaGreatKA3
import Derived.Shelf.RegionOpenPlain
import Derived.Deep.CutRange
import Derived.Deep.CutBlock
import Derived.Deep.RegionHeld3
namespace Go.Proofs.YtknbghjoncomiaaGreat
variable {u1 u2 u3 u5 u7 u8 u9 IG IE IF II ID IC GL GM H8 IA GN GO GK Ey Ez E4 E5 E6 E7 E8 Ek El Em En Eo Ep Eq Er Es EJ EK EL EM EO Et Eu Ev Ew EP EQ ER ET EU EV EW EX EY EZ Ea Eb Ec Ff Fg Fh EI Fi Fj Fr Fs Ft Fu Fv Fw Fx Fy Fz F2 F4 F5 F6 F7 F8 F9 GA GB GC GD GE GF GG Fk Fl Fm Fn Fo Fp Fq GH GI GJ AA AB AC AE AF AG AH AI AJ AK EH B3 B4 B5 B8 B9 CD CH CI CJ CK CM CQ CU CX DM DN DO DP DR DS DU DV DW DX DY DQ DZ Dm Do Dp Dq Dr Dt Du Da Db Dc Dd Df Dg Dh Di Dj Dk Dl CY CZ Ca Cb Cc Cd Ce Cf Cg Ch Ci Cj Ck Cl Cm Cn Co Cp Cq Cr Cs Ct Cu Cv Cw Cx Cy Cz DA DE DG DI DJ DK DL:Value}
section
open Go.RowKit Lx
set_option linter.unusedVariables false
theorem NoEx.of {T:TypeId} (h:T≠54) {cs:Array Value}:NoEx (.cells cs T (0,0)):=fun cs' e=>by cases e;exact h rfl
theorem QBD {W:World} {B:Nat} {e:TypeId} {s:Nat} {v:Value} {n:Nat} {xs:List Value} (h:W.ownsRow B e s v n xs) {k:Nat} (hk:v.ownBlock = some k):B≤k∧∃ cs,W.heap[k]? = some (.cells cs e (0,0)):=by
 rcases h.2 with ⟨rfl,_⟩ | ⟨g,cap,cur,rfl,hb,hg,_⟩
 ·cases hk
 ·obtain rfl:g = k:=by simpa [Value.ownBlock] using hk
  exact ⟨hb,cur,hg⟩
theorem Rd.setBox {W:World} {b g cap:Nat} {dv:Value} {ts:List Tok} {xb:Nat→Prop} {σ:RS} (h:Rd W b g cap dv ts xb σ) {A:Nat} {cs:Array Value} {T:TypeId} {fr:Nat × Nat} (hA:W.heap[A]? = some (.cells cs T fr)) (h1:T≠54) (h2:T≠3) (hb:b < A) (i:Nat) (v:Value):Rd (W.setCell ⟨A,i,none⟩ v) b g cap dv ts xb σ:=by
 have sm:∀ k,k≠A→(W.setCell ⟨A,i,none⟩ v).heap[k]? = W.heap[k]?:=fun k hk=>Below.heap_setCell W ⟨A,i,none⟩ v k (by simpa using hk)
 obtain ⟨o,c,hc,q,q1,q2,q3⟩:=h.blk
 refine ⟨fun k hk=>Nat.lt_of_lt_of_le (h.xlt k hk) ((Below.refl A W).setCell (p:=⟨A,i,none⟩) (Nat.le_refl _) v).size,⟨o,c,(sm b (by omega)).trans hc,q,q1,QAG q2 fun k e=>sm k ?_,fun p hp=>⟨QAG (q3 p hp).1 fun k e=>sm k ?_,(q3 p hp).2⟩⟩,QDV h.row (sm g (by have:=h.lt;omega)),h.lt,h.at_,h.len,h.ends⟩
 ·rintro rfl
  obtain ⟨_,cs',hk⟩:=QBD q2 e
  rw [hA] at hk;cases hk;exact h1 rfl
 ·rintro rfl
  obtain ⟨_,cs',hk⟩:=QBD (q3 p hp).1 e
  rw [hA] at hk;cases hk;exact h2 rfl
theorem RK.setNew {b:Nat} {W Y:World} (h:RK b W Y) {A:Nat} (hA:W.heap.size≤A) (hb:b < A) (i:Nat) (v:Value):RK b W (Y.setCell ⟨A,i,none⟩ v):=by
 have hs:=(Below.refl A Y).setCell (p:=⟨A,i,none⟩) (Nat.le_refl _) v
 exact ⟨hs.os.trans h.os,hs.tape.trans h.tape,hs.output.trans h.output,Nat.le_trans h.size hs.size,fun k hk=>(hs.block k (by omega)).trans (h.low k hk),fun k o hk hkb hn=>(hs.block k (by have:=QBn hk;omega)).trans (h.keep k o hk hkb hn)⟩
structure But (A:Nat) (W Y:World):Prop where
 os:Y.os = W.os
 tape:Y.tape = W.tape
 output:Y.output = W.output
 size:W.heap.size≤Y.heap.size
 block:∀ k,k≠A→k < W.heap.size→Y.heap[k]? = W.heap[k]?
theorem But.refl (A:Nat) (W:World):But A W W:=⟨rfl,rfl,rfl,Nat.le_refl _,fun _ _ _=>rfl⟩
theorem But.set {A:Nat} {W Y:World} (h:But A W Y) (i:Nat) (v:Value):But A W (Y.setCell ⟨A,i,none⟩ v):=by
 have hs:=(Below.refl A Y).setCell (p:=⟨A,i,none⟩) (Nat.le_refl _) v
 exact ⟨hs.os.trans h.os,hs.tape.trans h.tape,hs.output.trans h.output,Nat.le_trans h.size hs.size,fun k hk hl=>(Below.heap_setCell Y ⟨A,i,none⟩ v k (by simpa using hk)).trans (h.block k hk hl)⟩
theorem But.drew {A:Nat} {W Y:World} (h:But A W Y):But A W Y.drew:=⟨h.os,h.tape,h.output,h.size,h.block⟩
theorem Rd.but {W Y:World} {b g cap:Nat} {dv:Value} {ts:List Tok} {xb:Nat→Prop} {σ:RS} (h:Rd W b g cap dv ts xb σ) {A:Nat} {cs:Array Value} {T:TypeId} {fr:Nat × Nat} (hA:W.heap[A]? = some (.cells cs T fr)) (h1:T≠54) (h2:T≠3) (hb:b < A) (hy:But A W Y):Rd Y b g cap dv ts xb σ:=by
 have hs:=h.size
 obtain ⟨o,c,hc,q,q1,q2,q3⟩:=h.blk
 refine ⟨fun k hk=>Nat.lt_of_lt_of_le (h.xlt k hk) hy.size,⟨o,c,(hy.block b (by omega) hs).trans hc,q,q1,QAG q2 fun k e=>hy.block k ?_ (q2.lt k e).2,fun p hp=>⟨QAG (q3 p hp).1 fun k e=>hy.block k ?_ ((q3 p hp).1.lt k e).2,(q3 p hp).2⟩⟩,QDV h.row (hy.block g (by have:=h.lt;omega) (by have:=h.lt;omega)),h.lt,h.at_,h.len,h.ends⟩
 ·rintro rfl
  obtain ⟨_,cs',hk⟩:=QBD q2 e
  rw [hA] at hk;cases hk;exact h1 rfl
 ·rintro rfl
  obtain ⟨_,cs',hk⟩:=QBD (q3 p hp).1 e
  rw [hA] at hk;cases hk;exact h2 rfl
theorem RK.but {b:Nat} {W V Y:World} (h:RK b W V) {A:Nat} (hA:W.heap.size≤A) (hb:b < A) (hbs:b < W.heap.size) (hy:But A V Y):RK b W Y :=
 ⟨hy.os.trans h.os,hy.tape.trans h.tape,hy.output.trans h.output,Nat.le_trans h.size hy.size,fun k hk=>(hy.block k (by omega) (by have:=h.size;omega)).trans (h.low k hk),fun k o hk hkb hn=>by
  have:=QBn hk
  exact (hy.block k (by omega) (by have:=h.size;omega)).trans (h.keep k o hk hkb hn)⟩
theorem QAY {W Y:World} {b:Nat} {T:TypeId} {s:Nat} {v:Value} {n:Nat} {xs:List Value} {B:Nat} (h:W.ownsRow B T s v n xs) (hT:T≠54) (hB:b < B) (hk:RK b W Y):Y.ownsRow B T s v n xs:=by
 refine ⟨h.1,?_⟩
 rcases h.2 with hn | ⟨g,cap,cur,rfl,hb,hgg,QBd⟩
 ·exact .inl hn
 ·exact .inr ⟨g,cap,cur,rfl,hb,hk.keep g _ hgg (by omega) (.of hT),QBd⟩
theorem QH5 {W Y:World} {k:Nat} (h:W.grownBy Y (some k)):But k W Y:=⟨h.os,h.tape,h.output,h.size,fun j hj hl=>h.block j hl (by simpa using hj)⟩
theorem QEv {W Y:World} (h:W.grownBy Y none):Below W.heap.size W Y:=⟨h.os,h.tape,h.output,h.size,fun j hj=>h.block j hj (by simp)⟩
theorem Rd.grownT {W Y:World} {b g cap:Nat} {dv:Value} {ts:List Tok} {xb:Nat→Prop} {σ:RS} (h:Rd W b g cap dv ts xb σ) {B:Nat} {T:TypeId} {s:Nat} {v:Value} {n:Nat} {xs:List Value} (ho:W.ownsRow B T s v n xs) (hB:b < B) (h1:T≠54) (h2:T≠3) (hg:W.grownBy Y v.ownBlock):Rd Y b g cap dv ts xb σ:=by
 cases hk:v.ownBlock with
 | none=>rw [hk] at hg;exact h.below (QEv hg)
 | some k =>
  rw [hk] at hg
  obtain ⟨hb,cs,hc⟩:=QBD ho hk
  exact h.but hc h1 h2 (by omega) (QH5 hg)
theorem RK.grownT {b:Nat} {W V Y:World} (h:RK b W V) (hbs:b < W.heap.size) {T:TypeId} {s:Nat} {v:Value} {n:Nat} {xs:List Value} (ho:V.ownsRow W.heap.size T s v n xs) (hg:V.grownBy Y v.ownBlock):RK b W Y:=by
 cases hk:v.ownBlock with
 | none=>rw [hk] at hg;exact h.trans (RK.of_below (QEv hg) (by have:=h.size;omega))
 | some k =>
  rw [hk] at hg
  obtain ⟨hb,_⟩:=QBD ho hk
  exact h.but hb (by omega) hbs (QH5 hg)
noncomputable def QDf:Code→Option Nat
 | .region i _ _=>some i
 | .seq a _=>QDf a
 | .block _ a=>QDf a
 | _=>none
noncomputable def sqh (n:Nat):Code→Option Code
 | .seq a b=>if QDf a = some n then some (.seq a b) else match sqh n a with
  | some c=>some c
  | none=>sqh n b
 | .cond _ a b=>match sqh n a with
  | some c=>some c
  | none=>sqh n b
 | .block _ c=>sqh n c
 | .loop c=>sqh n c
 | _=>none
noncomputable def QC2 (f:Func) (n:Nat):Code:=match sqh n (match f.body with | some c=>c | none=>.skip) with
 | some c=>c
 | none=>.skip
def itC (x:It) (sv:Value):Array Value:=#[.int .i64 x.kind,.string x.name,.int .i64 x.type,.int .i64 x.e,.int .i64 x.f,sv,.string x.state,.string x.next,.int .i64 x.pos]
def itZ:Array Value:=#[.int .i64 0,.string ⟨#[]⟩,.int .i64 0,.int .i64 0,.int .i64 0,.slice none 0 0,.string ⟨#[]⟩,.string ⟨#[]⟩,.int .i64 0]
structure IB (W0 Y:World) (b g cap:Nat) (dv:Value) (ts:List Tok) (xb:Nat→Prop) (σ:RS) (A:Nat) (c:Array Value):Prop where
 rd:Rd Y b g cap dv ts xb σ
 rk:RK b W0 Y
 zero:Y.heap[A]? = some (.cells itZ 57 (0,0))
 box:Y.heap[A+1]? = some (.cells c 57 (0,0))
 hA:W0.heap.size≤A
 hb:b < W0.heap.size
theorem IB.call {W0 Y Z:World} {b g cap:Nat} {dv:Value} {ts:List Tok} {xb:Nat→Prop} {σ τ:RS} {A:Nat} {c:Array Value} (h:IB W0 Y b g cap dv ts xb σ A c) (hr:Rd Z b g cap dv ts xb τ) (hk:RK b Y Z):IB W0 Z b g cap dv ts xb τ A c :=
 ⟨hr,h.rk.trans hk,hk.keep A _ h.zero (by have:=h.hA;have:=h.hb;omega) (.of (by decide)),hk.keep (A+1) _ h.box (by have:=h.hA;have:=h.hb;omega) (.of (by decide)),h.hA,h.hb⟩
theorem IB.set {W0 Y:World} {b g cap:Nat} {dv:Value} {ts:List Tok} {xb:Nat→Prop} {σ:RS} {A:Nat} {c:Array Value} (h:IB W0 Y b g cap dv ts xb σ A c) (i:Nat) (v:Value) {c' : Array Value} (he:c.setIfInBounds i v = c'):IB W0 (Y.setCell ⟨A+1,i,none⟩ v) b g cap dv ts xb σ A c' :=
 ⟨h.rd.setBox h.box (by decide) (by decide) (by have:=h.hA;have:=h.hb;omega) i v,h.rk.setNew (by have:=h.hA;omega) (by have:=h.hA;have:=h.hb;omega) i v,(Below.heap_setCell Y ⟨A+1,i,none⟩ v A (by simp)).trans h.zero,by rw [QAT h.box,he],h.hA,h.hb⟩
theorem QAI {W:World} {B:Nat} {x0 x1 x2 x3 x4 x5 x6 x7 x8:Value} {T:TypeId} (h:W.heap[B]? = some (.cells #[x0,x1,x2,x3,x4,x5,x6,x7,x8] T (0,0))):(W.cell? ⟨B,0,none⟩ = some x0∧W.cell? ⟨B,1,none⟩ = some x1∧W.cell? ⟨B,2,none⟩ = some x2∧W.cell? ⟨B,3,none⟩ = some x3∧W.cell? ⟨B,4,none⟩ = some x4∧W.cell? ⟨B,5,none⟩ = some x5∧W.cell? ⟨B,6,none⟩ = some x6∧W.cell? ⟨B,7,none⟩ = some x7∧W.cell? ⟨B,8,none⟩ = some x8)∧∀ i,W.frozen? ⟨B,i,none⟩ = false :=
 ⟨⟨by simp [World.cell?,h],by simp [World.cell?,h],by simp [World.cell?,h],by simp [World.cell?,h],by simp [World.cell?,h],by simp [World.cell?,h],by simp [World.cell?,h],by simp [World.cell?,h],by simp [World.cell?,h]⟩,fun i=>by simp [World.frozen?,h]⟩
def QOB (W:World) (A:Nat) (x0 x1 x2 x3 x4 x5 x6 x7 x8:Value):World:=((((((((W.setCell ⟨A,0,none⟩ x0).setCell ⟨A,1,none⟩ x1).setCell ⟨A,2,none⟩ x2).setCell ⟨A,3,none⟩ x3).setCell ⟨A,4,none⟩ x4).setCell ⟨A,5,none⟩ x5).setCell ⟨A,6,none⟩ x6).setCell ⟨A,7,none⟩ x7).setCell ⟨A,8,none⟩ x8
theorem QGo {W:World} {A:Nat} {y0 y1 y2 y3 y4 y5 y6 y7 y8:Value} {T:TypeId} (h:W.heap[A]? = some (.cells #[y0,y1,y2,y3,y4,y5,y6,y7,y8] T (0,0))) (x0 x1 x2 x3 x4 x5 x6 x7 x8:Value) :
  (QOB W A x0 x1 x2 x3 x4 x5 x6 x7 x8).heap[A]? = some (.cells #[x0,x1,x2,x3,x4,x5,x6,x7,x8] T (0,0)):=by
 have h1:=QAT h 0 x0
 have h2:=QAT h1 1 x1
 have h3:=QAT h2 2 x2
 have h4:=QAT h3 3 x3
 have h5:=QAT h4 4 x4
 have h6:=QAT h5 5 x5
 have h7:=QAT h6 6 x6
 have h8:=QAT h7 7 x7
 have h9:=QAT h8 8 x8
 unfold QOB
 rw [h9]
 simp
theorem QGp (W:World) (A:Nat) (x0 x1 x2 x3 x4 x5 x6 x7 x8:Value):But A W (QOB W A x0 x1 x2 x3 x4 x5 x6 x7 x8):=((((((((But.refl A W).set 0 _).set 1 _).set 2 _).set 3 _).set 4 _).set 5 _).set 6 _).set 7 _ |>.set 8 _
end
section
open Go.Lib (hid)
open Go.RowKit Lx
set_option linter.unusedVariables false
set_option maxHeartbeats 16000000
set_option maxRecDepth 100000 in
theorem QBe (b g cap:Nat) (dv:Value) (ts:List Tok) (xb:Nat→Prop) (σ:RS) (all:Bool) (W:World) (h:Hid (Rd W b g cap dv ts xb σ)) (R:Ending→World→Prop)
  (hc:Hid (∀ (V:World) (A:Nat) (u2 u3 u7 u8 u9 IG IE IF II ID IC GL GM H8 IA GN GO GK Ey Ez E4 E5 E6 E7 E8 Ek El Em En Eo Ep Eq Er Es EJ EK EL EM EO Et Eu Ev Ew EP EQ ER ET EU EV EW EX EY EZ Ea Eb Ec Ff Fg Fh EI Fi Fj Fr Fs Ft Fu Fv Fw Fx Fy Fz F2 F4 F5 F6 F7 F8 F9 GA GB GC GD GE GF GG Fk Fl Fm Fn Fo Fp Fq GH GI GJ AA AB AC AE AF AG AH AI AJ AK EH B3 B4 B5 B8 B9 CD CH CI CJ CK CM CQ CU CX DM DN DO DP DR DS DU DV DW DX DY DQ DZ Dm Do Dp Dq Dr Dt Du Da Db Dc Dd Df Dg Dh Di Dj Dk Dl CY CZ Ca Cb Cc Cd Ce Cf Cg Ch Ci Cj Ck Cl Cm Cn Co Cp Cq Cr Cs Ct Cu Cv Cw Cx Cy Cz DA DE DG DI DJ DK DL:Value),IB W V b g cap dv ts xb σ A #[.int .i64 0,.string ⟨#[]⟩,.int .i64 0,.int .i64 0,.int .i64 0,.slice none 0 0,.string ⟨#[]⟩,.string ⟨#[]⟩,.int .i64 ((QA9 ts σ.at_).at_:Int)] →
   (QC2 Tryz.f59 4).wp Tryz.prog (bodyPost Tryz.prog Tryz.f59 R) ⟨[.pointer (some ⟨b,0,none⟩),.bool all,u2,u3,.pointer (some ⟨A,0,none⟩),.bool false,.pointer (some ⟨A+1,0,none⟩),u7,u8,u9,IG,IE,IF,II,ID,IC,GL,GM,H8,IA,GN,GO,GK,Ey,Ez,E4,E5,E6,E7,E8,Ek,El,Em,En,Eo,Ep,Eq,Er,Es,EJ,EK,EL,EM,EO,Et,Eu,Ev,Ew,EP,EQ,ER,ET,EU,EV,EW,EX,EY,EZ,Ea,Eb,Ec,Ff,Fg,Fh,EI,Fi,Fj,Fr,Fs,Ft,Fu,Fv,Fw,Fx,Fy,Fz,F2,F4,F5,F6,F7,F8,F9,GA,GB,GC,GD,GE,GF,GG,Fk,Fl,Fm,Fn,Fo,Fp,Fq,GH,GI,GJ,AA,AB,AC,AE,AF,AG,AH,AI,AJ,AK,EH,B3,B4,B5,B8,B9,CD,CH,CI,CJ,CK,CM,CQ,CU,CX,DM,DN,DO,DP,DR,DS,DU,DV,DW,DX,DY,DQ,DZ,Dm,Do,Dp,Dq,Dr,Dt,Du,Da,Db,Dc,Dd,Df,Dg,Dh,Di,Dj,Dk,Dl,CY,CZ,Ca,Cb,Cc,Cd,Ce,Cf,Cg,Ch,Ci,Cj,Ck,Cl,Cm,Cn,Co,Cp,Cq,Cr,Cs,Ct,Cu,Cv,Cw,Cx,Cy,Cz,DA,DE,DG,DI,DJ,DK,DL].toArray,[]⟩ V)) :
  Calls Tryz.prog 59 #[.pointer (some ⟨b,0,none⟩),.bool all] W R:=by
 obtain ⟨ps0,hps0⟩:∃ ps0,ps0 = (QA9 ts σ.at_).at_:=⟨_,rfl⟩
 rw [← hps0] at hc
 have HPS0:=hid hps0
 clear hps0
 obtain ⟨o,c,⟨c0,c1,c3,c4,c5,c6,fr⟩,hx⟩:=h.out.cells
 have ht:=h.out.tok
 have hgb:g≠b:=by have:=h.out.lt;omega
 have hl:=h.out.at_
 have hn:=h.out.len
 obtain ⟨t0,t1,t2,t3⟩:=ht
 obtain ⟨n,hnn⟩:∃ n,n = ts.length:=⟨_,rfl⟩
 obtain ⟨a,haa⟩:∃ a,a = σ.at_:=⟨_,rfl⟩
 obtain ⟨cd,hcd⟩:∃ cd,cd = σ.code:=⟨_,rfl⟩
 obtain ⟨ps,hps⟩:∃ ps,ps = σ.pos:=⟨_,rfl⟩
 obtain ⟨dp,hdp⟩:∃ dp,dp = σ.deep:=⟨_,rfl⟩
 obtain ⟨kd,hkd⟩:∃ kd,kd = (QA9 ts σ.at_).kind:=⟨_,rfl⟩
 obtain ⟨tx,htx⟩:∃ tx,tx = (QA9 ts σ.at_).text:=⟨_,rfl⟩
 obtain ⟨tv,htv⟩:∃ tv,tv = (QA9 ts σ.at_).v:=⟨_,rfl⟩
 obtain ⟨p,hp⟩:∃ p,p = (QA9 ts σ.at_).at_:=⟨_,rfl⟩
 rw [← hnn] at c0 hl hn
 rw [← hkd] at t0
 rw [← htx] at t1
 rw [← htv] at t2
 rw [← hp] at t3
 rw [← haa] at c1 t0 t1 t2 t3 hl
 rw [← hcd] at c5
 rw [← hdp] at c4
 rw [← hps] at c6
 have k0:((a:Nat):Int) < (n:Int):=by omega
 have f1:=fr 1
 have f4:=fr 4
 have f5:=fr 5
 have f6:=fr 6
 have HCD:=hid hcd
 have HPS:=hid hps
 have HDP:=hid hdp
 have HKD:=hid hkd
 have HTX:=hid htx
 have HTV:=hid htv
 have HP:=hid hp
 have HAA:=hid haa
 have HNN:=hid hnn
 clear fr hx hnn haa hcd hps hdp hkd htx htv hp c3
 have hbs:b < W.heap.size:=h.out.size
 go_enter Tryz.func59,Tryz.ntmps59
 go_wp2_with fail
 go_region_held3 (fun w'=>w'.cell? ⟨b,0,none⟩ = some (.slice (some ⟨g,0,none⟩) n cap)∧w'.cell? ⟨b,1,none⟩ = some (.int .i64 (a:Int))∧w'.cell? ⟨g,a*4+3,none⟩ = some (.int .i64 (p:Int)))
  ((repeat' apply And.intro) <;> first | assumption | exact cell_set2 (by assumption) (by omega) | go_keep)
  (fail)
 obtain ⟨A,hA⟩:∃ A,A = W.heap.size:=⟨_,rfl⟩
 obtain ⟨V,hV⟩:∃ V,V = ((W.alloc (.cells #[.int .i64 0,.string ⟨#[]⟩,.int .i64 0,.int .i64 0,.int .i64 0,.slice none 0 0,.string ⟨#[]⟩,.string ⟨#[]⟩,.int .i64 0] 57)).alloc (.cells #[.int .i64 0,.string ⟨#[]⟩,.int .i64 0,.int .i64 0,.int .i64 0,.slice none 0 0,.string ⟨#[]⟩,.string ⟨#[]⟩,.int .i64 (p:Int)] 57)).drew:=⟨_,rfl⟩
 have hbV:Below W.heap.size W V:=by rw [hV];exact (((Below.refl _ _).alloc (Nat.le_refl _) _).alloc (by simp) _).drew
 have HB0:V.heap[A]? = some (.cells itZ 57 (0,0)):=by
  rw [hV,hA]
  exact (heap_alloc_old _ _ (by simp)).trans (heap_alloc_new W _)
 have HB1:V.heap[A+1]? = some (.cells #[.int .i64 0,.string ⟨#[]⟩,.int .i64 0,.int .i64 0,.int .i64 0,.slice none 0 0,.string ⟨#[]⟩,.string ⟨#[]⟩,.int .i64 (p:Int)] 57 (0,0)):=by
  have:=heap_alloc_new (W.alloc (.cells itZ 57)) (.cells #[.int .i64 0,.string ⟨#[]⟩,.int .i64 0,.int .i64 0,.int .i64 0,.slice none 0 0,.string ⟨#[]⟩,.string ⟨#[]⟩,.int .i64 (p:Int)] 57)
  rw [World.size_alloc,← hA] at this
  rw [hV];exact this
 have HPP:ps0 = p:=by rw [HPS0.out,HP.out]
 have HIB:IB W V b g cap dv ts xb σ A #[.int .i64 0,.string ⟨#[]⟩,.int .i64 0,.int .i64 0,.int .i64 0,.slice none 0 0,.string ⟨#[]⟩,.string ⟨#[]⟩,.int .i64 (p:Int)]:=⟨h.out.below hbV,RK.of_below hbV (Nat.le_of_lt hbs),HB0,HB1,by omega,hbs⟩
 rw [HPP] at hc
 rw [← hV,← hA]
 have HC:=hc.out V A
 go_step
 go_step
 refine HC _ _ _ _ _ _ _ _ _ _ _ _ _ _ _ _ _ _ _ _ _ _ _ _ _ _ _ _ _ _ _ _ _ _ _ _ _ _ _ _ _ _ _ _ _ _ _ _ _ _ _ _ _ _ _ _ _ _ _ _ _ _ _ _ _ _ _ _ _ _ _ _ _ _ _ _ _ _ _ _ _ _ _ _ _ _ _ _ _ _ _ _ _ _ _ _ _ _ _ _ _ _ _ _ _ _ _ _ _ _ _ _ _ _ _ _ _ _ _ _ _ _ _ _ _ _ _ _ _ _ _ _ _ _ _ _ _ _ _ _ _ _ _ _ _ _ _ _ _ _ _ _ _ _ _ _ _ _ _ _ _ _ _ _ _ _ _ _ _ _ _ _ _ _ _ _ _ _ _ _ _ _ _ _ _ _ HIB
set_option maxRecDepth 100000 in
theorem QCB (b g cap:Nat) (dv:Value) (ts:List Tok) (xb:Nat→Prop) (σ τ:RS) (hτ:Hid (τ = QA3 ts [59] σ)) (W0 W:World) (A:Nat) (b5:Bool) (k ty ie jf pp:Int) (nm st nx:ByteArray) (so:Option Addr) (sn sc:Nat) (HS:Hid (IB W0 W b g cap dv ts xb σ A #[.int .i64 k,.string nm,.int .i64 ty,.int .i64 ie,.int .i64 jf,.slice so sn sc,.string st,.string nx,.int .i64 pp])) (R:Ending→World→Prop)
  (hR:Hid (∀ Z Y:World,Rd Y b g cap dv ts xb τ→RK b W Z→But A Z Y→RK b W0 Y→R (.returned (.tuple #[.agg #[.int .i64 k,.string nm,.int .i64 ty,.int .i64 ie,.int .i64 jf,.slice so sn sc,.string st,.string nx,.int .i64 pp],.bool (decide (τ.code = 0))])) Y)) :
  (QC2 Tryz.f59 59).wp Tryz.prog (bodyPost Tryz.prog Tryz.f59 R) ⟨[.pointer (some ⟨b,0,none⟩),u1,u2,u3,.pointer (some ⟨A,0,none⟩),.bool b5,.pointer (some ⟨A+1,0,none⟩),u7,u8,u9,IG,IE,IF,II,ID,IC,GL,GM,H8,IA,GN,GO,GK,Ey,Ez,E4,E5,E6,E7,E8,Ek,El,Em,En,Eo,Ep,Eq,Er,Es,EJ,EK,EL,EM,EO,Et,Eu,Ev,Ew,EP,EQ,ER,ET,EU,EV,EW,EX,EY,EZ,Ea,Eb,Ec,Ff,Fg,Fh,EI,Fi,Fj,Fr,Fs,Ft,Fu,Fv,Fw,Fx,Fy,Fz,F2,F4,F5,F6,F7,F8,F9,GA,GB,GC,GD,GE,GF,GG,Fk,Fl,Fm,Fn,Fo,Fp,Fq,GH,GI,GJ,AA,AB,AC,AE,AF,AG,AH,AI,AJ,AK,EH,B3,B4,B5,B8,B9,CD,CH,CI,CJ,CK,CM,CQ,CU,CX,DM,DN,DO,DP,DR,DS,DU,DV,DW,DX,DY,DQ,DZ,Dm,Do,Dp,Dq,Dr,Dt,Du,Da,Db,Dc,Dd,Df,Dg,Dh,Di,Dj,Dk,Dl,CY,CZ,Ca,Cb,Cc,Cd,Ce,Cf,Cg,Ch,Ci,Cj,Ck,Cl,Cm,Cn,Co,Cp,Cq,Cr,Cs,Ct,Cu,Cv,Cw,Cx,Cy,Cz,DA,DE,DG,DI,DJ,DK,DL].toArray,[]⟩ W:=by
 have WT:CR b g cap dv ts xb 27 #[.pointer (some ⟨b,0,none⟩),.string ⟨#[59]⟩] (.tuple #[]) σ τ:=hid fun W h=>by rw [hτ.out];exact QAF b g cap dv ts xb σ [59] W h
 obtain ⟨zc,hzc⟩:∃ zc,zc = τ.code:=⟨_,rfl⟩
 have HZC:=hid hzc
 rw [← hzc] at hR
 clear hzc
 obtain ⟨Q,hQ⟩:∃ Q,Q = bodyPost Tryz.prog Tryz.f59 R:=⟨_,rfl⟩
 rw [← hQ]
 have HQ:=hid hQ
 clear hQ
 simp only [QC2,sqh,QDf,Tryz.f59]
 simp only [Option.some.injEq,Nat.reduceEqDiff,if_true,if_false]
 have HR0:=hid HS.out.rd
 go_wp2_with (go_at_call 27;(with_reducible refine Calls.mono (WT.out _ HR0) ?_);(rintro e Z ⟨rfl,hr,hk⟩);have HS2:=hid (HS.out.call hr hk);have HK2:=hid hk;clear hr hk;obtain ⟨⟨m0,m1,m2,m3,m4,m5,m6,m7,m8⟩,mf⟩:=QAI HS2.out.box;obtain ⟨⟨n0,n1,n2,n3,n4,n5,n6,n7,n8⟩,nf⟩:=QAI HS2.out.zero;obtain ⟨_,_,⟨_,_,_,_,c5,_,_⟩,_⟩:=HS2.out.rd.cells;rw [← HZC.out] at c5;have f0:=nf 0;have f1:=nf 1;have f2:=nf 2;have f3:=nf 3;have f4:=nf 4;have f5:=nf 5;have f6:=nf 6;have f7:=nf 7;have f8:=nf 8;clear nf mf)
 have mixed : Tryz.prog.follows .mixedOrders = true:=by kernel_rfl
 have hbA:b < A:=by have:=HS2.out.hA;have:=HS2.out.hb;omega
 go_region_o
 obtain ⟨Y,hY⟩:∃ Y,Y = (QOB Z A (.int .i64 k) (.string nm) (.int .i64 ty) (.int .i64 ie) (.int .i64 jf) (.slice so sn sc) (.string st) (.string nx) (.int .i64 pp)).drew:=⟨_,rfl⟩
 have hY2:=hY
 unfold QOB at hY2
 rw [← hY2]
 have HB:=hid (show But A Z Y by rw [hY];exact (QGp Z A _ _ _ _ _ _ _ _ _).drew)
 have HY:Hid (Y.heap[A]? = some (.cells #[.int .i64 k,.string nm,.int .i64 ty,.int .i64 ie,.int .i64 jf,.slice so sn sc,.string st,.string nx,.int .i64 pp] 57 (0,0))):=hid (by rw [hY,(show ∀ X:World,X.drew.heap = X.heap from fun _=>rfl)];exact QGo HS2.out.zero _ _ _ _ _ _ _ _ _)
 clear hY hY2 n0 n1 n2 n3 n4 n5 n6 n7 n8 m0 m1 m2 m3 m4 m5 m6 m7 m8 f0 f1 f2 f3 f4 f5 f6 f7 f8 c5
 go_wp2_with fail
 obtain ⟨⟨r0,r1,r2,r3,r4,r5,r6,r7,r8⟩,_⟩:=QAI HY.out
 rw [HQ.out]
 have hz:(zc == 0) = decide (zc = 0):=by by_cases h:zc = 0 <;> simp [h]
 refine bodyPost_ret (v:=.tuple #[.agg #[.int .i64 k,.string nm,.int .i64 ty,.int .i64 ie,.int .i64 jf,.slice so sn sc,.string st,.string nx,.int .i64 pp],.bool (decide (zc = 0))]) (by simp [hz,results,Tryz.results59,go_sem,r0,r1,r2,r3,r4,r5,r6,r7,r8]) rfl ?_
 exact hR.out Z Y (HS2.out.rd.but HS2.out.zero (by decide) (by decide) hbA HB.out) HK2.out HB.out (HS2.out.rk.but HS2.out.hA hbA HS2.out.hb HB.out)
def QBo (ts:List Tok) (σ:RS):Int:=if isS ts [98,111,111,108] σ = true then 2 else 1
def QAv (ts:List Tok) (σ:RS):RS:=if isS ts [98,111,111,108] σ = true then QA0 σ else QA3 ts [102,105,120] σ
def it0:It:=⟨0,⟨#[]⟩,0,0,0,[],⟨#[]⟩,⟨#[]⟩,0⟩
def QBJ (b g cap:Nat) (dv:Value) (ts:List Tok) (xb:Nat→Prop) (W:World) (x:It) (ok:Bool) (σ:RS) (r:Ending) (Y:World):Prop :=
 ∃ so sn sc,r = .returned (.tuple #[.agg #[.int .i64 x.kind,.string x.name,.int .i64 x.type,.int .i64 x.e,.int .i64 x.f,.slice so sn sc,.string x.state,.string x.next,.int .i64 x.pos],.bool ok])∧Rd Y b g cap dv ts xb σ∧RK b W Y∧Y.ownsRow W.heap.size 9 1 (.slice so sn sc) x.states.length (x.states.map .string)
theorem QD3 (b g cap:Nat) (dv:Value) (ts:List Tok) (xb:Nat→Prop) (σ:RS) (W:World) (h:Hid (Rd W b g cap dv ts xb σ)) :
  Calls Tryz.prog 34 #[.pointer (some ⟨b,0,none⟩)] W fun r Y=>RdRet b g cap dv ts xb W (.int .i64 (QBo ts σ)) (QAv ts σ) r Y:=by
 unfold QBo QAv
 cases hi:isS ts [98,111,111,108] σ with
 | true =>
  have C:Hid (Calls Tryz.prog 26 #[.pointer (some ⟨b,0,none⟩),.string ⟨#[98,111,111,108]⟩] W fun r Y=>RdRet b g cap dv ts xb W (.bool true) (QA0 σ) r Y):=hid (QAN [98,111,111,108] hi W h)
  clear hi
  go_enter Tryz.func34,Tryz.ntmps34
  go_wp2_with (go_at_call 26;(with_reducible refine C.out.mono ?_);rintro e w1 ⟨rfl,hr,hk⟩;have HR:=hid hr;have HK:=hid hk;clear hr hk)
  go_ret
  exact ⟨rfl,HR.out,HK.out⟩
 | false =>
  have C:Hid (Calls Tryz.prog 26 #[.pointer (some ⟨b,0,none⟩),.string ⟨#[98,111,111,108]⟩] W fun r Y=>RdRet b g cap dv ts xb W (.bool false) σ r Y):=hid (QA8 [98,111,111,108] hi W h)
  have C2:CR b g cap dv ts xb 27 #[.pointer (some ⟨b,0,none⟩),.string ⟨#[102,105,120]⟩] (.tuple #[]) σ (QA3 ts [102,105,120] σ):=hid fun W h=>QAF b g cap dv ts xb σ [102,105,120] W h
  clear hi
  go_enter Tryz.func34,Tryz.ntmps34
  go_wp2_with (first
   | (go_at_call 26;(with_reducible refine C.out.mono ?_);rintro e w1 ⟨rfl,hr,hk⟩;have HR:=hid hr;have HK:=hid hk;clear hr hk)
   | (go_at_call 27;(with_reducible refine (C2.out w1 HR).mono ?_);rintro e w2 ⟨rfl,hr,hk⟩;have HR2:=hid hr;have HK2:=hid hk;clear hr hk))
  go_ret
  exact ⟨rfl,HR2.out,HK.out.trans HK2.out⟩
set_option maxRecDepth 100000 in
theorem QNW (b g cap:Nat) (dv:Value) (ts:List Tok) (xb:Nat→Prop) (f:Nat) (all:Bool) (σ0 σ1 σ2 σ3 σ4 σ5 σ6 τ:RS) (p0:Nat) (hp:p0 = (QA9 ts σ0.at_).at_) (v0:List UInt8) (v2:Int) (v4:Int) (ht:isS ts [108,101,116] σ0 = true) (h1:σ1 = QA0 σ0) (g0:v0 = QAS ts σ1) (h2:σ2 = QA7 ts σ1) (h3:σ3 = QA3 ts [58] σ2) (g2:v2 = QBo ts σ3) (h4:σ4 = QAv ts σ3) (h5:σ5 = QA3 ts [61] σ4) (l4:List Int) (g4:QAh ts f .expr σ5 = some (v4,l4,σ6)) (hτ:τ = QA3 ts [59] σ6) (W:World) (h:Hid (Rd W b g cap dv ts xb σ0)) :
  Calls Tryz.prog 59 #[.pointer (some ⟨b,0,none⟩),.bool all] W fun r Y=>QBJ b g cap dv ts xb W { it0 with kind:=1,name:=str v0,type:=v2,e:=v4,pos:=(p0:Int) } (decide (τ.code = 0)) τ r Y:=by
 have TT:CR b g cap dv ts xb 26 #[.pointer (some ⟨b,0,none⟩),.string ⟨#[108,101,116]⟩] (.bool true) σ0 σ1:=hid fun W h=>by rw [h1];exact QAN [108,101,116] ht W h
 have C0:CR b g cap dv ts xb 31 #[.pointer (some ⟨b,0,none⟩)] (.string (str v0)) σ1 σ2:=hid fun W h=>by rw [g0,h2];exact QAk b g cap dv ts xb σ1 W h
 have C1:CR b g cap dv ts xb 27 #[.pointer (some ⟨b,0,none⟩),.string ⟨#[58]⟩] (.tuple #[]) σ2 σ3:=hid fun W h=>by rw [h3];exact QAF b g cap dv ts xb σ2 [58] W h
 have C2:CR b g cap dv ts xb 34 #[.pointer (some ⟨b,0,none⟩)] (.int .i64 v2) σ3 σ4:=hid fun W h=>by rw [g2,h4];exact QD3 b g cap dv ts xb σ3 W h
 have C3:CR b g cap dv ts xb 27 #[.pointer (some ⟨b,0,none⟩),.string ⟨#[61]⟩] (.tuple #[]) σ4 σ5:=hid fun W h=>by rw [h5];exact QAF b g cap dv ts xb σ4 [61] W h
 have C4:CR b g cap dv ts xb 12 #[.pointer (some ⟨b,0,none⟩)] (.int .i64 v4) σ5 σ6:=hid fun W h=>(QCk b g cap dv ts f xb).expr σ5 v4 l4 σ6 g4 W h
 have HT:=hid hτ
 refine QBe b g cap dv ts xb σ0 all W h _ (hid ?_)
 intro V A _ _ _ _ _ _ _ _ _ _ _ _ _ _ _ _ _ _ _ _ _ _ _ _ _ _ _ _ _ _ _ _ _ _ _ _ _ _ _ _ _ _ _ _ _ _ _ _ _ _ _ _ _ _ _ _ _ _ _ _ _ _ _ _ _ _ _ _ _ _ _ _ _ _ _ _ _ _ _ _ _ _ _ _ _ _ _ _ _ _ _ _ _ _ _ _ _ _ _ _ _ _ _ _ _ _ _ _ _ _ _ _ _ _ _ _ _ _ _ _ _ _ _ _ _ _ _ _ _ _ _ _ _ _ _ _ _ _ _ _ _ _ _ _ _ _ _ _ _ _ _ _ _ _ _ _ _ _ _ _ _ _ _ _ _ _ _ _ _ _ _ _ _ _ _ _ _ _ _ _ _ _ _ _ _ _ HS0
 obtain ⟨Q,hQ⟩:∃ Q,Q = bodyPost Tryz.prog Tryz.f59 (QBJ b g cap dv ts xb W { it0 with kind:=1,name:=str v0,type:=v2,e:=v4,pos:=(p0:Int) } (decide (τ.code = 0)) τ):=⟨_,rfl⟩
 rw [← hQ]
 have HQ:=hid hQ
 clear hQ
 simp only [QC2,sqh,QDf,Tryz.f59]
 simp only [Option.some.injEq,Nat.reduceEqDiff,if_true,if_false]
 refine wp_seq_k fun K hK=>?_
 have HK:Hid (∀ a w,(QC2 Tryz.f59 59).wp Tryz.prog Q a w→K a w):=hid hK
 have HR:=hid HS0.rd
 have HS:=hid HS0
 have hbA:b < A:=by have:=HS0.hA;have:=HS0.hb;omega
 clear hK HS0
 rw [← hp] at HS
 clear ht h1 h2 h3 h4 h5 g0 g2 g4 hτ hp
 go_wp2_with (go_at_call 26;(with_reducible refine Calls.mono (TT.out _ HR) ?_);(rintro e w2 ⟨rfl,hr,hk⟩);have HX:=HS;clear HR HS;have HS:=hid (HX.out.call hr hk);clear hr hk HX;obtain ⟨⟨x0,x1,x2,x3,x4,x5,x6,x7,x8⟩,xf⟩:=QAI HS.out.box;have f0:=xf 0;clear xf)
 obtain ⟨u0,hw⟩:∃ w',w' = w2.setCell ⟨A+1,0,none⟩ (.int .i64 1):=⟨_,rfl⟩
 have HX:=HS
 clear HS
 have HS:Hid (IB W u0 b g cap dv ts xb σ1 A #[.int .i64 1,.string ⟨#[]⟩,.int .i64 0,.int .i64 0,.int .i64 0,.slice none 0 0,.string ⟨#[]⟩,.string ⟨#[]⟩,.int .i64 (p0:Int)]):=hid (by rw [hw];exact HX.out.set 0 _ rfl)
 rw [← hw]
 clear hw HX x0 x1 x2 x3 x4 x5 x6 x7 x8 f0
 have HR:=hid HS.out.rd
 refine (C0.out u0 HR).mono ?_
 rintro e z0 ⟨rfl,hr,hk⟩
 dsimp only
 have HX:=HS
 clear HS HR
 have HS:=hid (HX.out.call hr hk)
 clear hr hk HX
 obtain ⟨⟨x0,x1,x2,x3,x4,x5,x6,x7,x8⟩,xf⟩:=QAI HS.out.box;have f0:=xf 1;clear xf
 go_wp2_with fail
 obtain ⟨u1,hw⟩:∃ w',w' = z0.setCell ⟨A+1,1,none⟩ (.string (str v0)):=⟨_,rfl⟩
 have HX:=HS
 clear HS
 have HS:Hid (IB W u1 b g cap dv ts xb σ2 A #[.int .i64 1,.string (str v0),.int .i64 0,.int .i64 0,.int .i64 0,.slice none 0 0,.string ⟨#[]⟩,.string ⟨#[]⟩,.int .i64 (p0:Int)]):=hid (by rw [hw];exact HX.out.set 1 _ rfl)
 rw [← hw]
 clear hw HX x0 x1 x2 x3 x4 x5 x6 x7 x8 f0
 have HR:=hid HS.out.rd
 refine (C1.out u1 HR).mono ?_
 rintro e z1 ⟨rfl,hr,hk⟩
 dsimp only
 have HX:=HS
 clear HS HR
 have HS:=hid (HX.out.call hr hk)
 clear hr hk HX
 go_wp2_with fail
 have HR:=hid HS.out.rd
 refine (C2.out z1 HR).mono ?_
 rintro e z2 ⟨rfl,hr,hk⟩
 dsimp only
 have HX:=HS
 clear HS HR
 have HS:=hid (HX.out.call hr hk)
 clear hr hk HX
 obtain ⟨⟨x0,x1,x2,x3,x4,x5,x6,x7,x8⟩,xf⟩:=QAI HS.out.box;have f0:=xf 2;clear xf
 go_wp2_with fail
 obtain ⟨u3,hw⟩:∃ w',w' = z2.setCell ⟨A+1,2,none⟩ (.int .i64 v2):=⟨_,rfl⟩
 have HX:=HS
 clear HS
 have HS:Hid (IB W u3 b g cap dv ts xb σ4 A #[.int .i64 1,.string (str v0),.int .i64 v2,.int .i64 0,.int .i64 0,.slice none 0 0,.string ⟨#[]⟩,.string ⟨#[]⟩,.int .i64 (p0:Int)]):=hid (by rw [hw];exact HX.out.set 2 _ rfl)
 rw [← hw]
 clear hw HX x0 x1 x2 x3 x4 x5 x6 x7 x8 f0
 have HR:=hid HS.out.rd
 refine (C3.out u3 HR).mono ?_
 rintro e z3 ⟨rfl,hr,hk⟩
 dsimp only
 have HX:=HS
 clear HS HR
 have HS:=hid (HX.out.call hr hk)
 clear hr hk HX
 go_wp2_with fail
 have HR:=hid HS.out.rd
 refine (C4.out z3 HR).mono ?_
 rintro e z4 ⟨rfl,hr,hk⟩
 dsimp only
 have HX:=HS
 clear HS HR
 have HS:=hid (HX.out.call hr hk)
 clear hr hk HX
 obtain ⟨⟨x0,x1,x2,x3,x4,x5,x6,x7,x8⟩,xf⟩:=QAI HS.out.box;have f0:=xf 3;clear xf
 go_wp2_with fail
 obtain ⟨u5,hw⟩:∃ w',w' = z4.setCell ⟨A+1,3,none⟩ (.int .i64 v4):=⟨_,rfl⟩
 have HX:=HS
 clear HS
 have HS:Hid (IB W u5 b g cap dv ts xb σ6 A #[.int .i64 1,.string (str v0),.int .i64 v2,.int .i64 v4,.int .i64 0,.slice none 0 0,.string ⟨#[]⟩,.string ⟨#[]⟩,.int .i64 (p0:Int)]):=hid (by rw [hw];exact HX.out.set 3 _ rfl)
 rw [← hw]
 clear hw HX x0 x1 x2 x3 x4 x5 x6 x7 x8 f0
 refine HK.out _ _ ?_
 rw [HQ.out]
 refine QCB b g cap dv ts xb σ6 τ HT W u5 A _ _ _ _ _ _ _ _ _ _ _ _ HS _ (hid ?_)
 intro Z Y hr hk hb hk0
 exact ⟨none,0,0,rfl,hr,hk0,World.ownsRow_nil _ _ _ _⟩
set_option maxRecDepth 100000 in
theorem QNV (b g cap:Nat) (dv:Value) (ts:List Tok) (xb:Nat→Prop) (f:Nat) (σ0 σ1 σ2 σ3 σ4 σ5 σ6 τ:RS) (p0:Nat) (hp:p0 = (QA9 ts σ0.at_).at_) (v0:List UInt8) (v2:Int) (v4:Int) (ht:isS ts [100,101,114] σ0 = true) (h1:σ1 = QA0 σ0) (g0:v0 = QAS ts σ1) (h2:σ2 = QA7 ts σ1) (h3:σ3 = QA3 ts [61] σ2) (l2:List Int) (g2:QAh ts f .expr σ3 = some (v2,l2,σ4)) (h5:σ5 = QA3 ts [105,110,105,116] σ4) (l4:List Int) (g4:QAh ts f .expr σ5 = some (v4,l4,σ6)) (hτ:τ = QA3 ts [59] σ6) (W:World) (h:Hid (Rd W b g cap dv ts xb σ0)) :
  Calls Tryz.prog 59 #[.pointer (some ⟨b,0,none⟩),.bool true] W fun r Y=>QBJ b g cap dv ts xb W { it0 with kind:=2,name:=str v0,e:=v2,f:=v4,pos:=(p0:Int) } (decide (τ.code = 0)) τ r Y:=by
 have TF:Hid (∀ (d:Array UInt8) W,d.toList≠[100,101,114]→Hid (Rd W b g cap dv ts xb σ0)→Calls Tryz.prog 26 #[.pointer (some ⟨b,0,none⟩),.string ⟨d⟩] W fun r Y=>RdRet b g cap dv ts xb W (.bool false) σ0 r Y):=hid fun d W hd h=>by
  have:=QA8 (b:=b) (g:=g) (cap:=cap) (dv:=dv) (xb:=xb) d.toList (QCm ht (Ne.symm hd)) W h
  simpa [str] using this
 have TT:CR b g cap dv ts xb 26 #[.pointer (some ⟨b,0,none⟩),.string ⟨#[100,101,114]⟩] (.bool true) σ0 σ1:=hid fun W h=>by rw [h1];exact QAN [100,101,114] ht W h
 have C0:CR b g cap dv ts xb 31 #[.pointer (some ⟨b,0,none⟩)] (.string (str v0)) σ1 σ2:=hid fun W h=>by rw [g0,h2];exact QAk b g cap dv ts xb σ1 W h
 have C1:CR b g cap dv ts xb 27 #[.pointer (some ⟨b,0,none⟩),.string ⟨#[61]⟩] (.tuple #[]) σ2 σ3:=hid fun W h=>by rw [h3];exact QAF b g cap dv ts xb σ2 [61] W h
 have C2:CR b g cap dv ts xb 12 #[.pointer (some ⟨b,0,none⟩)] (.int .i64 v2) σ3 σ4:=hid fun W h=>(QCk b g cap dv ts f xb).expr σ3 v2 l2 σ4 g2 W h
 have C3:CR b g cap dv ts xb 27 #[.pointer (some ⟨b,0,none⟩),.string ⟨#[105,110,105,116]⟩] (.tuple #[]) σ4 σ5:=hid fun W h=>by rw [h5];exact QAF b g cap dv ts xb σ4 [105,110,105,116] W h
 have C4:CR b g cap dv ts xb 12 #[.pointer (some ⟨b,0,none⟩)] (.int .i64 v4) σ5 σ6:=hid fun W h=>(QCk b g cap dv ts f xb).expr σ5 v4 l4 σ6 g4 W h
 have HT:=hid hτ
 refine QBe b g cap dv ts xb σ0 true W h _ (hid ?_)
 intro V A _ _ _ _ _ _ _ _ _ _ _ _ _ _ _ _ _ _ _ _ _ _ _ _ _ _ _ _ _ _ _ _ _ _ _ _ _ _ _ _ _ _ _ _ _ _ _ _ _ _ _ _ _ _ _ _ _ _ _ _ _ _ _ _ _ _ _ _ _ _ _ _ _ _ _ _ _ _ _ _ _ _ _ _ _ _ _ _ _ _ _ _ _ _ _ _ _ _ _ _ _ _ _ _ _ _ _ _ _ _ _ _ _ _ _ _ _ _ _ _ _ _ _ _ _ _ _ _ _ _ _ _ _ _ _ _ _ _ _ _ _ _ _ _ _ _ _ _ _ _ _ _ _ _ _ _ _ _ _ _ _ _ _ _ _ _ _ _ _ _ _ _ _ _ _ _ _ _ _ _ _ _ _ _ _ _ HS0
 obtain ⟨Q,hQ⟩:∃ Q,Q = bodyPost Tryz.prog Tryz.f59 (QBJ b g cap dv ts xb W { it0 with kind:=2,name:=str v0,e:=v2,f:=v4,pos:=(p0:Int) } (decide (τ.code = 0)) τ):=⟨_,rfl⟩
 rw [← hQ]
 have HQ:=hid hQ
 clear hQ
 simp only [QC2,sqh,QDf,Tryz.f59]
 simp only [Option.some.injEq,Nat.reduceEqDiff,if_true,if_false]
 refine wp_seq_k fun K hK=>?_
 have HK:Hid (∀ a w,(QC2 Tryz.f59 59).wp Tryz.prog Q a w→K a w):=hid hK
 have HR:=hid HS0.rd
 have HS:=hid HS0
 have hbA:b < A:=by have:=HS0.hA;have:=HS0.hb;omega
 clear hK HS0
 rw [← hp] at HS
 clear ht h1 h2 h3 h5 g0 g2 g4 hτ hp
 go_wp2_with (first
  | (go_at_call 26;(with_reducible refine Calls.mono (TF.out _ _ ?_ HR) ?_);(focus exact (by decide));(rintro e w1 ⟨rfl,hr,hk⟩);have HX:=HS;clear HR HS;have HS:=hid (HX.out.call hr hk);have HR:=hid hr;clear hr hk HX)
  | (go_at_call 26;(with_reducible refine Calls.mono (TT.out _ HR) ?_);(rintro e w2 ⟨rfl,hr,hk⟩);have HX:=HS;clear HR HS;have HS:=hid (HX.out.call hr hk);clear hr hk HX;obtain ⟨⟨x0,x1,x2,x3,x4,x5,x6,x7,x8⟩,xf⟩:=QAI HS.out.box;have f0:=xf 0;clear xf))
 obtain ⟨u0,hw⟩:∃ w',w' = w2.setCell ⟨A+1,0,none⟩ (.int .i64 2):=⟨_,rfl⟩
 have HX:=HS
 clear HS
 have HS:Hid (IB W u0 b g cap dv ts xb σ1 A #[.int .i64 2,.string ⟨#[]⟩,.int .i64 0,.int .i64 0,.int .i64 0,.slice none 0 0,.string ⟨#[]⟩,.string ⟨#[]⟩,.int .i64 (p0:Int)]):=hid (by rw [hw];exact HX.out.set 0 _ rfl)
 rw [← hw]
 clear hw HX x0 x1 x2 x3 x4 x5 x6 x7 x8 f0
 have HR:=hid HS.out.rd
 refine (C0.out u0 HR).mono ?_
 rintro e z0 ⟨rfl,hr,hk⟩
 dsimp only
 have HX:=HS
 clear HS HR
 have HS:=hid (HX.out.call hr hk)
 clear hr hk HX
 obtain ⟨⟨x0,x1,x2,x3,x4,x5,x6,x7,x8⟩,xf⟩:=QAI HS.out.box;have f0:=xf 1;clear xf
 go_wp2_with fail
 obtain ⟨u1,hw⟩:∃ w',w' = z0.setCell ⟨A+1,1,none⟩ (.string (str v0)):=⟨_,rfl⟩
 have HX:=HS
 clear HS
 have HS:Hid (IB W u1 b g cap dv ts xb σ2 A #[.int .i64 2,.string (str v0),.int .i64 0,.int .i64 0,.int .i64 0,.slice none 0 0,.string ⟨#[]⟩,.string ⟨#[]⟩,.int .i64 (p0:Int)]):=hid (by rw [hw];exact HX.out.set 1 _ rfl)
 rw [← hw]
 clear hw HX x0 x1 x2 x3 x4 x5 x6 x7 x8 f0
 have HR:=hid HS.out.rd
 refine (C1.out u1 HR).mono ?_
 rintro e z1 ⟨rfl,hr,hk⟩
 dsimp only
 have HX:=HS
 clear HS HR
 have HS:=hid (HX.out.call hr hk)
 clear hr hk HX
 go_wp2_with fail
 have HR:=hid HS.out.rd
 refine (C2.out z1 HR).mono ?_
 rintro e z2 ⟨rfl,hr,hk⟩
 dsimp only
 have HX:=HS
 clear HS HR
 have HS:=hid (HX.out.call hr hk)
 clear hr hk HX
 obtain ⟨⟨x0,x1,x2,x3,x4,x5,x6,x7,x8⟩,xf⟩:=QAI HS.out.box;have f0:=xf 3;clear xf
 go_wp2_with fail
 obtain ⟨u3,hw⟩:∃ w',w' = z2.setCell ⟨A+1,3,none⟩ (.int .i64 v2):=⟨_,rfl⟩
 have HX:=HS
 clear HS
 have HS:Hid (IB W u3 b g cap dv ts xb σ4 A #[.int .i64 2,.string (str v0),.int .i64 0,.int .i64 v2,.int .i64 0,.slice none 0 0,.string ⟨#[]⟩,.string ⟨#[]⟩,.int .i64 (p0:Int)]):=hid (by rw [hw];exact HX.out.set 3 _ rfl)
 rw [← hw]
 clear hw HX x0 x1 x2 x3 x4 x5 x6 x7 x8 f0
 have HR:=hid HS.out.rd
 refine (C3.out u3 HR).mono ?_
 rintro e z3 ⟨rfl,hr,hk⟩
 dsimp only
 have HX:=HS
 clear HS HR
 have HS:=hid (HX.out.call hr hk)
 clear hr hk HX
 go_wp2_with fail
 have HR:=hid HS.out.rd
 refine (C4.out z3 HR).mono ?_
 rintro e z4 ⟨rfl,hr,hk⟩
 dsimp only
 have HX:=HS
 clear HS HR
 have HS:=hid (HX.out.call hr hk)
 clear hr hk HX
 obtain ⟨⟨x0,x1,x2,x3,x4,x5,x6,x7,x8⟩,xf⟩:=QAI HS.out.box;have f0:=xf 4;clear xf
 go_wp2_with fail
 obtain ⟨u5,hw⟩:∃ w',w' = z4.setCell ⟨A+1,4,none⟩ (.int .i64 v4):=⟨_,rfl⟩
 have HX:=HS
 clear HS
 have HS:Hid (IB W u5 b g cap dv ts xb σ6 A #[.int .i64 2,.string (str v0),.int .i64 0,.int .i64 v2,.int .i64 v4,.slice none 0 0,.string ⟨#[]⟩,.string ⟨#[]⟩,.int .i64 (p0:Int)]):=hid (by rw [hw];exact HX.out.set 4 _ rfl)
 rw [← hw]
 clear hw HX x0 x1 x2 x3 x4 x5 x6 x7 x8 f0
 refine HK.out _ _ ?_
 rw [HQ.out]
 refine QCB b g cap dv ts xb σ6 τ HT W u5 A _ _ _ _ _ _ _ _ _ _ _ _ HS _ (hid ?_)
 intro Z Y hr hk hb hk0
 exact ⟨none,0,0,rfl,hr,hk0,World.ownsRow_nil _ _ _ _⟩
set_option maxRecDepth 100000 in
theorem QK6 (b g cap:Nat) (dv:Value) (ts:List Tok) (xb:Nat→Prop) (f:Nat) (σ0 σ1 σ2 σ3 σ4 σ5 σ6 τ:RS) (p0:Nat) (hp:p0 = (QA9 ts σ0.at_).at_) (v0:List UInt8) (v2:Int) (v4:Int) (ht:isS ts [114,101,115,101,116] σ0 = true) (h1:σ1 = QA0 σ0) (g0:v0 = QAS ts σ1) (h2:σ2 = QA7 ts σ1) (h3:σ3 = QA3 ts [111,110] σ2) (l2:List Int) (g2:QAh ts f .expr σ3 = some (v2,l2,σ4)) (h5:σ5 = QA3 ts [61] σ4) (l4:List Int) (g4:QAh ts f .expr σ5 = some (v4,l4,σ6)) (hτ:τ = QA3 ts [59] σ6) (W:World) (h:Hid (Rd W b g cap dv ts xb σ0)) :
  Calls Tryz.prog 59 #[.pointer (some ⟨b,0,none⟩),.bool true] W fun r Y=>QBJ b g cap dv ts xb W { it0 with kind:=3,name:=str v0,e:=v4,f:=v2,pos:=(p0:Int) } (decide (τ.code = 0)) τ r Y:=by
 have TF:Hid (∀ (d:Array UInt8) W,d.toList≠[114,101,115,101,116]→Hid (Rd W b g cap dv ts xb σ0)→Calls Tryz.prog 26 #[.pointer (some ⟨b,0,none⟩),.string ⟨d⟩] W fun r Y=>RdRet b g cap dv ts xb W (.bool false) σ0 r Y):=hid fun d W hd h=>by
  have:=QA8 (b:=b) (g:=g) (cap:=cap) (dv:=dv) (xb:=xb) d.toList (QCm ht (Ne.symm hd)) W h
  simpa [str] using this
 have TT:CR b g cap dv ts xb 26 #[.pointer (some ⟨b,0,none⟩),.string ⟨#[114,101,115,101,116]⟩] (.bool true) σ0 σ1:=hid fun W h=>by rw [h1];exact QAN [114,101,115,101,116] ht W h
 have C0:CR b g cap dv ts xb 31 #[.pointer (some ⟨b,0,none⟩)] (.string (str v0)) σ1 σ2:=hid fun W h=>by rw [g0,h2];exact QAk b g cap dv ts xb σ1 W h
 have C1:CR b g cap dv ts xb 27 #[.pointer (some ⟨b,0,none⟩),.string ⟨#[111,110]⟩] (.tuple #[]) σ2 σ3:=hid fun W h=>by rw [h3];exact QAF b g cap dv ts xb σ2 [111,110] W h
 have C2:CR b g cap dv ts xb 12 #[.pointer (some ⟨b,0,none⟩)] (.int .i64 v2) σ3 σ4:=hid fun W h=>(QCk b g cap dv ts f xb).expr σ3 v2 l2 σ4 g2 W h
 have C3:CR b g cap dv ts xb 27 #[.pointer (some ⟨b,0,none⟩),.string ⟨#[61]⟩] (.tuple #[]) σ4 σ5:=hid fun W h=>by rw [h5];exact QAF b g cap dv ts xb σ4 [61] W h
 have C4:CR b g cap dv ts xb 12 #[.pointer (some ⟨b,0,none⟩)] (.int .i64 v4) σ5 σ6:=hid fun W h=>(QCk b g cap dv ts f xb).expr σ5 v4 l4 σ6 g4 W h
 have HT:=hid hτ
 refine QBe b g cap dv ts xb σ0 true W h _ (hid ?_)
 intro V A _ _ _ _ _ _ _ _ _ _ _ _ _ _ _ _ _ _ _ _ _ _ _ _ _ _ _ _ _ _ _ _ _ _ _ _ _ _ _ _ _ _ _ _ _ _ _ _ _ _ _ _ _ _ _ _ _ _ _ _ _ _ _ _ _ _ _ _ _ _ _ _ _ _ _ _ _ _ _ _ _ _ _ _ _ _ _ _ _ _ _ _ _ _ _ _ _ _ _ _ _ _ _ _ _ _ _ _ _ _ _ _ _ _ _ _ _ _ _ _ _ _ _ _ _ _ _ _ _ _ _ _ _ _ _ _ _ _ _ _ _ _ _ _ _ _ _ _ _ _ _ _ _ _ _ _ _ _ _ _ _ _ _ _ _ _ _ _ _ _ _ _ _ _ _ _ _ _ _ _ _ _ _ _ _ _ HS0
 obtain ⟨Q,hQ⟩:∃ Q,Q = bodyPost Tryz.prog Tryz.f59 (QBJ b g cap dv ts xb W { it0 with kind:=3,name:=str v0,e:=v4,f:=v2,pos:=(p0:Int) } (decide (τ.code = 0)) τ):=⟨_,rfl⟩
 rw [← hQ]
 have HQ:=hid hQ
 clear hQ
 simp only [QC2,sqh,QDf,Tryz.f59]
 simp only [Option.some.injEq,Nat.reduceEqDiff,if_true,if_false]
 refine wp_seq_k fun K hK=>?_
 have HK:Hid (∀ a w,(QC2 Tryz.f59 59).wp Tryz.prog Q a w→K a w):=hid hK
 have HR:=hid HS0.rd
 have HS:=hid HS0
 have hbA:b < A:=by have:=HS0.hA;have:=HS0.hb;omega
 clear hK HS0
 rw [← hp] at HS
 clear ht h1 h2 h3 h5 g0 g2 g4 hτ hp
 go_wp2_with (first
  | (go_at_call 26;(with_reducible refine Calls.mono (TF.out _ _ ?_ HR) ?_);(focus exact (by decide));(rintro e w1 ⟨rfl,hr,hk⟩);have HX:=HS;clear HR HS;have HS:=hid (HX.out.call hr hk);have HR:=hid hr;clear hr hk HX)
  | (go_at_call 26;(with_reducible refine Calls.mono (TT.out _ HR) ?_);(rintro e w2 ⟨rfl,hr,hk⟩);have HX:=HS;clear HR HS;have HS:=hid (HX.out.call hr hk);clear hr hk HX;obtain ⟨⟨x0,x1,x2,x3,x4,x5,x6,x7,x8⟩,xf⟩:=QAI HS.out.box;have f0:=xf 0;clear xf))
 obtain ⟨u0,hw⟩:∃ w',w' = w2.setCell ⟨A+1,0,none⟩ (.int .i64 3):=⟨_,rfl⟩
 have HX:=HS
 clear HS
 have HS:Hid (IB W u0 b g cap dv ts xb σ1 A #[.int .i64 3,.string ⟨#[]⟩,.int .i64 0,.int .i64 0,.int .i64 0,.slice none 0 0,.string ⟨#[]⟩,.string ⟨#[]⟩,.int .i64 (p0:Int)]):=hid (by rw [hw];exact HX.out.set 0 _ rfl)
 rw [← hw]
 clear hw HX x0 x1 x2 x3 x4 x5 x6 x7 x8 f0
 have HR:=hid HS.out.rd
 refine (C0.out u0 HR).mono ?_
 rintro e z0 ⟨rfl,hr,hk⟩
 dsimp only
 have HX:=HS
 clear HS HR
 have HS:=hid (HX.out.call hr hk)
 clear hr hk HX
 obtain ⟨⟨x0,x1,x2,x3,x4,x5,x6,x7,x8⟩,xf⟩:=QAI HS.out.box;have f0:=xf 1;clear xf
 go_wp2_with fail
 obtain ⟨u1,hw⟩:∃ w',w' = z0.setCell ⟨A+1,1,none⟩ (.string (str v0)):=⟨_,rfl⟩
 have HX:=HS
 clear HS
 have HS:Hid (IB W u1 b g cap dv ts xb σ2 A #[.int .i64 3,.string (str v0),.int .i64 0,.int .i64 0,.int .i64 0,.slice none 0 0,.string ⟨#[]⟩,.string ⟨#[]⟩,.int .i64 (p0:Int)]):=hid (by rw [hw];exact HX.out.set 1 _ rfl)
 rw [← hw]
 clear hw HX x0 x1 x2 x3 x4 x5 x6 x7 x8 f0
 have HR:=hid HS.out.rd
 refine (C1.out u1 HR).mono ?_
 rintro e z1 ⟨rfl,hr,hk⟩
 dsimp only
 have HX:=HS
 clear HS HR
 have HS:=hid (HX.out.call hr hk)
 clear hr hk HX
 go_wp2_with fail
 have HR:=hid HS.out.rd
 refine (C2.out z1 HR).mono ?_
 rintro e z2 ⟨rfl,hr,hk⟩
 dsimp only
 have HX:=HS
 clear HS HR
 have HS:=hid (HX.out.call hr hk)
 clear hr hk HX
 obtain ⟨⟨x0,x1,x2,x3,x4,x5,x6,x7,x8⟩,xf⟩:=QAI HS.out.box;have f0:=xf 4;clear xf
 go_wp2_with fail
 obtain ⟨u3,hw⟩:∃ w',w' = z2.setCell ⟨A+1,4,none⟩ (.int .i64 v2):=⟨_,rfl⟩
 have HX:=HS
 clear HS
 have HS:Hid (IB W u3 b g cap dv ts xb σ4 A #[.int .i64 3,.string (str v0),.int .i64 0,.int .i64 0,.int .i64 v2,.slice none 0 0,.string ⟨#[]⟩,.string ⟨#[]⟩,.int .i64 (p0:Int)]):=hid (by rw [hw];exact HX.out.set 4 _ rfl)
 rw [← hw]
 clear hw HX x0 x1 x2 x3 x4 x5 x6 x7 x8 f0
 have HR:=hid HS.out.rd
 refine (C3.out u3 HR).mono ?_
 rintro e z3 ⟨rfl,hr,hk⟩
 dsimp only
 have HX:=HS
 clear HS HR
 have HS:=hid (HX.out.call hr hk)
 clear hr hk HX
 go_wp2_with fail
 have HR:=hid HS.out.rd
 refine (C4.out z3 HR).mono ?_
 rintro e z4 ⟨rfl,hr,hk⟩
 dsimp only
 have HX:=HS
 clear HS HR
 have HS:=hid (HX.out.call hr hk)
 clear hr hk HX
 obtain ⟨⟨x0,x1,x2,x3,x4,x5,x6,x7,x8⟩,xf⟩:=QAI HS.out.box;have f0:=xf 3;clear xf
 go_wp2_with fail
 obtain ⟨u5,hw⟩:∃ w',w' = z4.setCell ⟨A+1,3,none⟩ (.int .i64 v4):=⟨_,rfl⟩
 have HX:=HS
 clear HS
 have HS:Hid (IB W u5 b g cap dv ts xb σ6 A #[.int .i64 3,.string (str v0),.int .i64 0,.int .i64 v4,.int .i64 v2,.slice none 0 0,.string ⟨#[]⟩,.string ⟨#[]⟩,.int .i64 (p0:Int)]):=hid (by rw [hw];exact HX.out.set 3 _ rfl)
 rw [← hw]
 clear hw HX x0 x1 x2 x3 x4 x5 x6 x7 x8 f0
 refine HK.out _ _ ?_
 rw [HQ.out]
 refine QCB b g cap dv ts xb σ6 τ HT W u5 A _ _ _ _ _ _ _ _ _ _ _ _ HS _ (hid ?_)
 intro Z Y hr hk hb hk0
 exact ⟨none,0,0,rfl,hr,hk0,World.ownsRow_nil _ _ _ _⟩
set_option maxRecDepth 100000 in
theorem QNX (b g cap:Nat) (dv:Value) (ts:List Tok) (xb:Nat→Prop) (f:Nat) (σ0 σ1 σ2 σ3 σ4 σ5 σ6 τ:RS) (p0:Nat) (hp:p0 = (QA9 ts σ0.at_).at_) (v0:List UInt8) (v2:Int) (v4:Int) (ht:isS ts [109,101,109] σ0 = true) (h1:σ1 = QA0 σ0) (g0:v0 = QAS ts σ1) (h2:σ2 = QA7 ts σ1) (h3:σ3 = QA3 ts [58] σ2) (g2:v2 = QBo ts σ3) (h4:σ4 = QAv ts σ3) (h5:σ5 = QA3 ts [105,110,105,116] σ4) (l4:List Int) (g4:QAh ts f .expr σ5 = some (v4,l4,σ6)) (hτ:τ = QA3 ts [59] σ6) (W:World) (h:Hid (Rd W b g cap dv ts xb σ0)) :
  Calls Tryz.prog 59 #[.pointer (some ⟨b,0,none⟩),.bool true] W fun r Y=>QBJ b g cap dv ts xb W { it0 with kind:=4,name:=str v0,type:=v2,e:=v4,pos:=(p0:Int) } (decide (τ.code = 0)) τ r Y:=by
 have TF:Hid (∀ (d:Array UInt8) W,d.toList≠[109,101,109]→Hid (Rd W b g cap dv ts xb σ0)→Calls Tryz.prog 26 #[.pointer (some ⟨b,0,none⟩),.string ⟨d⟩] W fun r Y=>RdRet b g cap dv ts xb W (.bool false) σ0 r Y):=hid fun d W hd h=>by
  have:=QA8 (b:=b) (g:=g) (cap:=cap) (dv:=dv) (xb:=xb) d.toList (QCm ht (Ne.symm hd)) W h
  simpa [str] using this
 have TT:CR b g cap dv ts xb 26 #[.pointer (some ⟨b,0,none⟩),.string ⟨#[109,101,109]⟩] (.bool true) σ0 σ1:=hid fun W h=>by rw [h1];exact QAN [109,101,109] ht W h
 have C0:CR b g cap dv ts xb 31 #[.pointer (some ⟨b,0,none⟩)] (.string (str v0)) σ1 σ2:=hid fun W h=>by rw [g0,h2];exact QAk b g cap dv ts xb σ1 W h
 have C1:CR b g cap dv ts xb 27 #[.pointer (some ⟨b,0,none⟩),.string ⟨#[58]⟩] (.tuple #[]) σ2 σ3:=hid fun W h=>by rw [h3];exact QAF b g cap dv ts xb σ2 [58] W h
 have C2:CR b g cap dv ts xb 34 #[.pointer (some ⟨b,0,none⟩)] (.int .i64 v2) σ3 σ4:=hid fun W h=>by rw [g2,h4];exact QD3 b g cap dv ts xb σ3 W h
 have C3:CR b g cap dv ts xb 27 #[.pointer (some ⟨b,0,none⟩),.string ⟨#[105,110,105,116]⟩] (.tuple #[]) σ4 σ5:=hid fun W h=>by rw [h5];exact QAF b g cap dv ts xb σ4 [105,110,105,116] W h
 have C4:CR b g cap dv ts xb 12 #[.pointer (some ⟨b,0,none⟩)] (.int .i64 v4) σ5 σ6:=hid fun W h=>(QCk b g cap dv ts f xb).expr σ5 v4 l4 σ6 g4 W h
 have HT:=hid hτ
 refine QBe b g cap dv ts xb σ0 true W h _ (hid ?_)
 intro V A _ _ _ _ _ _ _ _ _ _ _ _ _ _ _ _ _ _ _ _ _ _ _ _ _ _ _ _ _ _ _ _ _ _ _ _ _ _ _ _ _ _ _ _ _ _ _ _ _ _ _ _ _ _ _ _ _ _ _ _ _ _ _ _ _ _ _ _ _ _ _ _ _ _ _ _ _ _ _ _ _ _ _ _ _ _ _ _ _ _ _ _ _ _ _ _ _ _ _ _ _ _ _ _ _ _ _ _ _ _ _ _ _ _ _ _ _ _ _ _ _ _ _ _ _ _ _ _ _ _ _ _ _ _ _ _ _ _ _ _ _ _ _ _ _ _ _ _ _ _ _ _ _ _ _ _ _ _ _ _ _ _ _ _ _ _ _ _ _ _ _ _ _ _ _ _ _ _ _ _ _ _ _ _ _ _ HS0
 obtain ⟨Q,hQ⟩:∃ Q,Q = bodyPost Tryz.prog Tryz.f59 (QBJ b g cap dv ts xb W { it0 with kind:=4,name:=str v0,type:=v2,e:=v4,pos:=(p0:Int) } (decide (τ.code = 0)) τ):=⟨_,rfl⟩
 rw [← hQ]
 have HQ:=hid hQ
 clear hQ
 simp only [QC2,sqh,QDf,Tryz.f59]
 simp only [Option.some.injEq,Nat.reduceEqDiff,if_true,if_false]
 refine wp_seq_k fun K hK=>?_
 have HK:Hid (∀ a w,(QC2 Tryz.f59 59).wp Tryz.prog Q a w→K a w):=hid hK
 have HR:=hid HS0.rd
 have HS:=hid HS0
 have hbA:b < A:=by have:=HS0.hA;have:=HS0.hb;omega
 clear hK HS0
 rw [← hp] at HS
 clear ht h1 h2 h3 h4 h5 g0 g2 g4 hτ hp
 go_wp2_with (first
  | (go_at_call 26;(with_reducible refine Calls.mono (TF.out _ _ ?_ HR) ?_);(focus exact (by decide));(rintro e w1 ⟨rfl,hr,hk⟩);have HX:=HS;clear HR HS;have HS:=hid (HX.out.call hr hk);have HR:=hid hr;clear hr hk HX)
  | (go_at_call 26;(with_reducible refine Calls.mono (TT.out _ HR) ?_);(rintro e w2 ⟨rfl,hr,hk⟩);have HX:=HS;clear HR HS;have HS:=hid (HX.out.call hr hk);clear hr hk HX;obtain ⟨⟨x0,x1,x2,x3,x4,x5,x6,x7,x8⟩,xf⟩:=QAI HS.out.box;have f0:=xf 0;clear xf))
 obtain ⟨u0,hw⟩:∃ w',w' = w2.setCell ⟨A+1,0,none⟩ (.int .i64 4):=⟨_,rfl⟩
 have HX:=HS
 clear HS
 have HS:Hid (IB W u0 b g cap dv ts xb σ1 A #[.int .i64 4,.string ⟨#[]⟩,.int .i64 0,.int .i64 0,.int .i64 0,.slice none 0 0,.string ⟨#[]⟩,.string ⟨#[]⟩,.int .i64 (p0:Int)]):=hid (by rw [hw];exact HX.out.set 0 _ rfl)
 rw [← hw]
 clear hw HX x0 x1 x2 x3 x4 x5 x6 x7 x8 f0
 have HR:=hid HS.out.rd
 refine (C0.out u0 HR).mono ?_
 rintro e z0 ⟨rfl,hr,hk⟩
 dsimp only
 have HX:=HS
 clear HS HR
 have HS:=hid (HX.out.call hr hk)
 clear hr hk HX
 obtain ⟨⟨x0,x1,x2,x3,x4,x5,x6,x7,x8⟩,xf⟩:=QAI HS.out.box;have f0:=xf 1;clear xf
 go_wp2_with fail
 obtain ⟨u1,hw⟩:∃ w',w' = z0.setCell ⟨A+1,1,none⟩ (.string (str v0)):=⟨_,rfl⟩
 have HX:=HS
 clear HS
 have HS:Hid (IB W u1 b g cap dv ts xb σ2 A #[.int .i64 4,.string (str v0),.int .i64 0,.int .i64 0,.int .i64 0,.slice none 0 0,.string ⟨#[]⟩,.string ⟨#[]⟩,.int .i64 (p0:Int)]):=hid (by rw [hw];exact HX.out.set 1 _ rfl)
 rw [← hw]
 clear hw HX x0 x1 x2 x3 x4 x5 x6 x7 x8 f0
 have HR:=hid HS.out.rd
 refine (C1.out u1 HR).mono ?_
 rintro e z1 ⟨rfl,hr,hk⟩
 dsimp only
 have HX:=HS
 clear HS HR
 have HS:=hid (HX.out.call hr hk)
 clear hr hk HX
 go_wp2_with fail
 have HR:=hid HS.out.rd
 refine (C2.out z1 HR).mono ?_
 rintro e z2 ⟨rfl,hr,hk⟩
 dsimp only
 have HX:=HS
 clear HS HR
 have HS:=hid (HX.out.call hr hk)
 clear hr hk HX
 obtain ⟨⟨x0,x1,x2,x3,x4,x5,x6,x7,x8⟩,xf⟩:=QAI HS.out.box;have f0:=xf 2;clear xf
 go_wp2_with fail
 obtain ⟨u3,hw⟩:∃ w',w' = z2.setCell ⟨A+1,2,none⟩ (.int .i64 v2):=⟨_,rfl⟩
 have HX:=HS
 clear HS
 have HS:Hid (IB W u3 b g cap dv ts xb σ4 A #[.int .i64 4,.string (str v0),.int .i64 v2,.int .i64 0,.int .i64 0,.slice none 0 0,.string ⟨#[]⟩,.string ⟨#[]⟩,.int .i64 (p0:Int)]):=hid (by rw [hw];exact HX.out.set 2 _ rfl)
 rw [← hw]
 clear hw HX x0 x1 x2 x3 x4 x5 x6 x7 x8 f0
 have HR:=hid HS.out.rd
 refine (C3.out u3 HR).mono ?_
 rintro e z3 ⟨rfl,hr,hk⟩
 dsimp only
 have HX:=HS
 clear HS HR
 have HS:=hid (HX.out.call hr hk)
 clear hr hk HX
 go_wp2_with fail
 have HR:=hid HS.out.rd
 refine (C4.out z3 HR).mono ?_
 rintro e z4 ⟨rfl,hr,hk⟩
 dsimp only
 have HX:=HS
 clear HS HR
 have HS:=hid (HX.out.call hr hk)
 clear hr hk HX
 obtain ⟨⟨x0,x1,x2,x3,x4,x5,x6,x7,x8⟩,xf⟩:=QAI HS.out.box;have f0:=xf 3;clear xf
 go_wp2_with fail
 obtain ⟨u5,hw⟩:∃ w',w' = z4.setCell ⟨A+1,3,none⟩ (.int .i64 v4):=⟨_,rfl⟩
 have HX:=HS
 clear HS
 have HS:Hid (IB W u5 b g cap dv ts xb σ6 A #[.int .i64 4,.string (str v0),.int .i64 v2,.int .i64 v4,.int .i64 0,.slice none 0 0,.string ⟨#[]⟩,.string ⟨#[]⟩,.int .i64 (p0:Int)]):=hid (by rw [hw];exact HX.out.set 3 _ rfl)
 rw [← hw]
 clear hw HX x0 x1 x2 x3 x4 x5 x6 x7 x8 f0
 refine HK.out _ _ ?_
 rw [HQ.out]
 refine QCB b g cap dv ts xb σ6 τ HT W u5 A _ _ _ _ _ _ _ _ _ _ _ _ HS _ (hid ?_)
 intro Z Y hr hk hb hk0
 exact ⟨none,0,0,rfl,hr,hk0,World.ownsRow_nil _ _ _ _⟩
set_option maxRecDepth 100000 in
theorem item_on (b g cap:Nat) (dv:Value) (ts:List Tok) (xb:Nat→Prop) (f:Nat) (σ0 σ1 σ2 σ3 σ4 σ5 σ6 τ:RS) (p0:Nat) (hp:p0 = (QA9 ts σ0.at_).at_) (v0:Int) (v2:List UInt8) (v4:Int) (ht:isS ts [111,110] σ0 = true) (h1:σ1 = QA0 σ0) (l0:List Int) (g0:QAh ts f .expr σ1 = some (v0,l0,σ2)) (h3:σ3 = QA3 ts [115,101,116] σ2) (g2:v2 = QAS ts σ3) (h4:σ4 = QA7 ts σ3) (h5:σ5 = QA3 ts [61] σ4) (l4:List Int) (g4:QAh ts f .expr σ5 = some (v4,l4,σ6)) (hτ:τ = QA3 ts [59] σ6) (W:World) (h:Hid (Rd W b g cap dv ts xb σ0)) :
  Calls Tryz.prog 59 #[.pointer (some ⟨b,0,none⟩),.bool true] W fun r Y=>QBJ b g cap dv ts xb W { it0 with kind:=5,name:=str v2,e:=v4,f:=v0,pos:=(p0:Int) } (decide (τ.code = 0)) τ r Y:=by
 have TF:Hid (∀ (d:Array UInt8) W,d.toList≠[111,110]→Hid (Rd W b g cap dv ts xb σ0)→Calls Tryz.prog 26 #[.pointer (some ⟨b,0,none⟩),.string ⟨d⟩] W fun r Y=>RdRet b g cap dv ts xb W (.bool false) σ0 r Y):=hid fun d W hd h=>by
  have:=QA8 (b:=b) (g:=g) (cap:=cap) (dv:=dv) (xb:=xb) d.toList (QCm ht (Ne.symm hd)) W h
  simpa [str] using this
 have TT:CR b g cap dv ts xb 26 #[.pointer (some ⟨b,0,none⟩),.string ⟨#[111,110]⟩] (.bool true) σ0 σ1:=hid fun W h=>by rw [h1];exact QAN [111,110] ht W h
 have C0:CR b g cap dv ts xb 12 #[.pointer (some ⟨b,0,none⟩)] (.int .i64 v0) σ1 σ2:=hid fun W h=>(QCk b g cap dv ts f xb).expr σ1 v0 l0 σ2 g0 W h
 have C1:CR b g cap dv ts xb 27 #[.pointer (some ⟨b,0,none⟩),.string ⟨#[115,101,116]⟩] (.tuple #[]) σ2 σ3:=hid fun W h=>by rw [h3];exact QAF b g cap dv ts xb σ2 [115,101,116] W h
 have C2:CR b g cap dv ts xb 31 #[.pointer (some ⟨b,0,none⟩)] (.string (str v2)) σ3 σ4:=hid fun W h=>by rw [g2,h4];exact QAk b g cap dv ts xb σ3 W h
 have C3:CR b g cap dv ts xb 27 #[.pointer (some ⟨b,0,none⟩),.string ⟨#[61]⟩] (.tuple #[]) σ4 σ5:=hid fun W h=>by rw [h5];exact QAF b g cap dv ts xb σ4 [61] W h
 have C4:CR b g cap dv ts xb 12 #[.pointer (some ⟨b,0,none⟩)] (.int .i64 v4) σ5 σ6:=hid fun W h=>(QCk b g cap dv ts f xb).expr σ5 v4 l4 σ6 g4 W h
 have HT:=hid hτ
 refine QBe b g cap dv ts xb σ0 true W h _ (hid ?_)
 intro V A _ _ _ _ _ _ _ _ _ _ _ _ _ _ _ _ _ _ _ _ _ _ _ _ _ _ _ _ _ _ _ _ _ _ _ _ _ _ _ _ _ _ _ _ _ _ _ _ _ _ _ _ _ _ _ _ _ _ _ _ _ _ _ _ _ _ _ _ _ _ _ _ _ _ _ _ _ _ _ _ _ _ _ _ _ _ _ _ _ _ _ _ _ _ _ _ _ _ _ _ _ _ _ _ _ _ _ _ _ _ _ _ _ _ _ _ _ _ _ _ _ _ _ _ _ _ _ _ _ _ _ _ _ _ _ _ _ _ _ _ _ _ _ _ _ _ _ _ _ _ _ _ _ _ _ _ _ _ _ _ _ _ _ _ _ _ _ _ _ _ _ _ _ _ _ _ _ _ _ _ _ _ _ _ _ _ HS0
 obtain ⟨Q,hQ⟩:∃ Q,Q = bodyPost Tryz.prog Tryz.f59 (QBJ b g cap dv ts xb W { it0 with kind:=5,name:=str v2,e:=v4,f:=v0,pos:=(p0:Int) } (decide (τ.code = 0)) τ):=⟨_,rfl⟩
 rw [← hQ]
 have HQ:=hid hQ
 clear hQ
 simp only [QC2,sqh,QDf,Tryz.f59]
 simp only [Option.some.injEq,Nat.reduceEqDiff,if_true,if_false]
 refine wp_seq_k fun K hK=>?_
 have HK:Hid (∀ a w,(QC2 Tryz.f59 59).wp Tryz.prog Q a w→K a w):=hid hK
 have HR:=hid HS0.rd
 have HS:=hid HS0
 have hbA:b < A:=by have:=HS0.hA;have:=HS0.hb;omega
 clear hK HS0
 rw [← hp] at HS
 clear ht h1 h3 h4 h5 g0 g2 g4 hτ hp
 go_wp2_with (first
  | (go_at_call 26;(with_reducible refine Calls.mono (TF.out _ _ ?_ HR) ?_);(focus exact (by decide));(rintro e w1 ⟨rfl,hr,hk⟩);have HX:=HS;clear HR HS;have HS:=hid (HX.out.call hr hk);have HR:=hid hr;clear hr hk HX)
  | (go_at_call 26;(with_reducible refine Calls.mono (TT.out _ HR) ?_);(rintro e w2 ⟨rfl,hr,hk⟩);have HX:=HS;clear HR HS;have HS:=hid (HX.out.call hr hk);clear hr hk HX;obtain ⟨⟨x0,x1,x2,x3,x4,x5,x6,x7,x8⟩,xf⟩:=QAI HS.out.box;have f0:=xf 0;clear xf))
 obtain ⟨u0,hw⟩:∃ w',w' = w2.setCell ⟨A+1,0,none⟩ (.int .i64 5):=⟨_,rfl⟩
 have HX:=HS
 clear HS
 have HS:Hid (IB W u0 b g cap dv ts xb σ1 A #[.int .i64 5,.string ⟨#[]⟩,.int .i64 0,.int .i64 0,.int .i64 0,.slice none 0 0,.string ⟨#[]⟩,.string ⟨#[]⟩,.int .i64 (p0:Int)]):=hid (by rw [hw];exact HX.out.set 0 _ rfl)
 rw [← hw]
 clear hw HX x0 x1 x2 x3 x4 x5 x6 x7 x8 f0
 have HR:=hid HS.out.rd
 refine (C0.out u0 HR).mono ?_
 rintro e z0 ⟨rfl,hr,hk⟩
 dsimp only
 have HX:=HS
 clear HS HR
 have HS:=hid (HX.out.call hr hk)
 clear hr hk HX
 obtain ⟨⟨x0,x1,x2,x3,x4,x5,x6,x7,x8⟩,xf⟩:=QAI HS.out.box;have f0:=xf 4;clear xf
 go_wp2_with fail
 obtain ⟨u1,hw⟩:∃ w',w' = z0.setCell ⟨A+1,4,none⟩ (.int .i64 v0):=⟨_,rfl⟩
 have HX:=HS
 clear HS
 have HS:Hid (IB W u1 b g cap dv ts xb σ2 A #[.int .i64 5,.string ⟨#[]⟩,.int .i64 0,.int .i64 0,.int .i64 v0,.slice none 0 0,.string ⟨#[]⟩,.string ⟨#[]⟩,.int .i64 (p0:Int)]):=hid (by rw [hw];exact HX.out.set 4 _ rfl)
 rw [← hw]
 clear hw HX x0 x1 x2 x3 x4 x5 x6 x7 x8 f0
 have HR:=hid HS.out.rd
 refine (C1.out u1 HR).mono ?_
 rintro e z1 ⟨rfl,hr,hk⟩
 dsimp only
 have HX:=HS
 clear HS HR
 have HS:=hid (HX.out.call hr hk)
 clear hr hk HX
 go_wp2_with fail
 have HR:=hid HS.out.rd
 refine (C2.out z1 HR).mono ?_
 rintro e z2 ⟨rfl,hr,hk⟩
 dsimp only
 have HX:=HS
 clear HS HR
 have HS:=hid (HX.out.call hr hk)
 clear hr hk HX
 obtain ⟨⟨x0,x1,x2,x3,x4,x5,x6,x7,x8⟩,xf⟩:=QAI HS.out.box;have f0:=xf 1;clear xf
 go_wp2_with fail
 obtain ⟨u3,hw⟩:∃ w',w' = z2.setCell ⟨A+1,1,none⟩ (.string (str v2)):=⟨_,rfl⟩
 have HX:=HS
 clear HS
 have HS:Hid (IB W u3 b g cap dv ts xb σ4 A #[.int .i64 5,.string (str v2),.int .i64 0,.int .i64 0,.int .i64 v0,.slice none 0 0,.string ⟨#[]⟩,.string ⟨#[]⟩,.int .i64 (p0:Int)]):=hid (by rw [hw];exact HX.out.set 1 _ rfl)
 rw [← hw]
 clear hw HX x0 x1 x2 x3 x4 x5 x6 x7 x8 f0
 have HR:=hid HS.out.rd
 refine (C3.out u3 HR).mono ?_
 rintro e z3 ⟨rfl,hr,hk⟩
 dsimp only
 have HX:=HS
 clear HS HR
 have HS:=hid (HX.out.call hr hk)
 clear hr hk HX
 go_wp2_with fail
 have HR:=hid HS.out.rd
 refine (C4.out z3 HR).mono ?_
 rintro e z4 ⟨rfl,hr,hk⟩
 dsimp only
 have HX:=HS
 clear HS HR
 have HS:=hid (HX.out.call hr hk)
 clear hr hk HX
 obtain ⟨⟨x0,x1,x2,x3,x4,x5,x6,x7,x8⟩,xf⟩:=QAI HS.out.box;have f0:=xf 3;clear xf
 go_wp2_with fail
 obtain ⟨u5,hw⟩:∃ w',w' = z4.setCell ⟨A+1,3,none⟩ (.int .i64 v4):=⟨_,rfl⟩
 have HX:=HS
 clear HS
 have HS:Hid (IB W u5 b g cap dv ts xb σ6 A #[.int .i64 5,.string (str v2),.int .i64 0,.int .i64 v4,.int .i64 v0,.slice none 0 0,.string ⟨#[]⟩,.string ⟨#[]⟩,.int .i64 (p0:Int)]):=hid (by rw [hw];exact HX.out.set 3 _ rfl)
 rw [← hw]
 clear hw HX x0 x1 x2 x3 x4 x5 x6 x7 x8 f0
 refine HK.out _ _ ?_
 rw [HQ.out]
 refine QCB b g cap dv ts xb σ6 τ HT W u5 A _ _ _ _ _ _ _ _ _ _ _ _ HS _ (hid ?_)
 intro Z Y hr hk hb hk0
 exact ⟨none,0,0,rfl,hr,hk0,World.ownsRow_nil _ _ _ _⟩
set_option maxRecDepth 100000 in
theorem QLo (b g cap:Nat) (dv:Value) (ts:List Tok) (xb:Nat→Prop) (f:Nat) (σ0 σ1 σ2 σ3 σ4 σ5 σ6 σ7 σ8 τ:RS) (p0:Nat) (hp:p0 = (QA9 ts σ0.at_).at_) (v0:List UInt8) (v2:List UInt8) (v4:Int) (v6:List UInt8) (ht:isS ts [102,114,111,109] σ0 = true) (h1:σ1 = QA0 σ0) (g0:v0 = QAS ts σ1) (h2:σ2 = QA7 ts σ1) (h3:σ3 = QA3 ts [46] σ2) (g2:v2 = QAS ts σ3) (h4:σ4 = QA7 ts σ3) (h5:σ5 = QA3 ts [111,110] σ4) (l4:List Int) (g4:QAh ts f .expr σ5 = some (v4,l4,σ6)) (h7:σ7 = QA3 ts [103,111,116,111] σ6) (g6:v6 = QAS ts σ7) (h8:σ8 = QA7 ts σ7) (hτ:τ = QA3 ts [59] σ8) (W:World) (h:Hid (Rd W b g cap dv ts xb σ0)) :
  Calls Tryz.prog 59 #[.pointer (some ⟨b,0,none⟩),.bool true] W fun r Y=>QBJ b g cap dv ts xb W { it0 with kind:=7,name:=str v0,f:=v4,state:=str v2,next:=str v6,pos:=(p0:Int) } (decide (τ.code = 0)) τ r Y:=by
 have TF:Hid (∀ (d:Array UInt8) W,d.toList≠[102,114,111,109]→Hid (Rd W b g cap dv ts xb σ0)→Calls Tryz.prog 26 #[.pointer (some ⟨b,0,none⟩),.string ⟨d⟩] W fun r Y=>RdRet b g cap dv ts xb W (.bool false) σ0 r Y):=hid fun d W hd h=>by
  have:=QA8 (b:=b) (g:=g) (cap:=cap) (dv:=dv) (xb:=xb) d.toList (QCm ht (Ne.symm hd)) W h
  simpa [str] using this
 have TT:CR b g cap dv ts xb 26 #[.pointer (some ⟨b,0,none⟩),.string ⟨#[102,114,111,109]⟩] (.bool true) σ0 σ1:=hid fun W h=>by rw [h1];exact QAN [102,114,111,109] ht W h
 have C0:CR b g cap dv ts xb 31 #[.pointer (some ⟨b,0,none⟩)] (.string (str v0)) σ1 σ2:=hid fun W h=>by rw [g0,h2];exact QAk b g cap dv ts xb σ1 W h
 have C1:CR b g cap dv ts xb 27 #[.pointer (some ⟨b,0,none⟩),.string ⟨#[46]⟩] (.tuple #[]) σ2 σ3:=hid fun W h=>by rw [h3];exact QAF b g cap dv ts xb σ2 [46] W h
 have C2:CR b g cap dv ts xb 31 #[.pointer (some ⟨b,0,none⟩)] (.string (str v2)) σ3 σ4:=hid fun W h=>by rw [g2,h4];exact QAk b g cap dv ts xb σ3 W h
 have C3:CR b g cap dv ts xb 27 #[.pointer (some ⟨b,0,none⟩),.string ⟨#[111,110]⟩] (.tuple #[]) σ4 σ5:=hid fun W h=>by rw [h5];exact QAF b g cap dv ts xb σ4 [111,110] W h
 have C4:CR b g cap dv ts xb 12 #[.pointer (some ⟨b,0,none⟩)] (.int .i64 v4) σ5 σ6:=hid fun W h=>(QCk b g cap dv ts f xb).expr σ5 v4 l4 σ6 g4 W h
 have C5:CR b g cap dv ts xb 27 #[.pointer (some ⟨b,0,none⟩),.string ⟨#[103,111,116,111]⟩] (.tuple #[]) σ6 σ7:=hid fun W h=>by rw [h7];exact QAF b g cap dv ts xb σ6 [103,111,116,111] W h
 have C6:CR b g cap dv ts xb 31 #[.pointer (some ⟨b,0,none⟩)] (.string (str v6)) σ7 σ8:=hid fun W h=>by rw [g6,h8];exact QAk b g cap dv ts xb σ7 W h
 have HT:=hid hτ
 refine QBe b g cap dv ts xb σ0 true W h _ (hid ?_)
 intro V A _ _ _ _ _ _ _ _ _ _ _ _ _ _ _ _ _ _ _ _ _ _ _ _ _ _ _ _ _ _ _ _ _ _ _ _ _ _ _ _ _ _ _ _ _ _ _ _ _ _ _ _ _ _ _ _ _ _ _ _ _ _ _ _ _ _ _ _ _ _ _ _ _ _ _ _ _ _ _ _ _ _ _ _ _ _ _ _ _ _ _ _ _ _ _ _ _ _ _ _ _ _ _ _ _ _ _ _ _ _ _ _ _ _ _ _ _ _ _ _ _ _ _ _ _ _ _ _ _ _ _ _ _ _ _ _ _ _ _ _ _ _ _ _ _ _ _ _ _ _ _ _ _ _ _ _ _ _ _ _ _ _ _ _ _ _ _ _ _ _ _ _ _ _ _ _ _ _ _ _ _ _ _ _ _ _ HS0
 obtain ⟨Q,hQ⟩:∃ Q,Q = bodyPost Tryz.prog Tryz.f59 (QBJ b g cap dv ts xb W { it0 with kind:=7,name:=str v0,f:=v4,state:=str v2,next:=str v6,pos:=(p0:Int) } (decide (τ.code = 0)) τ):=⟨_,rfl⟩
 rw [← hQ]
 have HQ:=hid hQ
 clear hQ
 simp only [QC2,sqh,QDf,Tryz.f59]
 simp only [Option.some.injEq,Nat.reduceEqDiff,if_true,if_false]
 refine wp_seq_k fun K hK=>?_
 have HK:Hid (∀ a w,(QC2 Tryz.f59 59).wp Tryz.prog Q a w→K a w):=hid hK
 have HR:=hid HS0.rd
 have HS:=hid HS0
 have hbA:b < A:=by have:=HS0.hA;have:=HS0.hb;omega
 clear hK HS0
 rw [← hp] at HS
 clear ht h1 h2 h3 h4 h5 h7 h8 g0 g2 g4 g6 hτ hp
 go_wp2_with (first
  | (go_at_call 26;(with_reducible refine Calls.mono (TF.out _ _ ?_ HR) ?_);(focus exact (by decide));(rintro e w1 ⟨rfl,hr,hk⟩);have HX:=HS;clear HR HS;have HS:=hid (HX.out.call hr hk);have HR:=hid hr;clear hr hk HX)
  | (go_at_call 26;(with_reducible refine Calls.mono (TT.out _ HR) ?_);(rintro e w2 ⟨rfl,hr,hk⟩);have HX:=HS;clear HR HS;have HS:=hid (HX.out.call hr hk);clear hr hk HX;obtain ⟨⟨x0,x1,x2,x3,x4,x5,x6,x7,x8⟩,xf⟩:=QAI HS.out.box;have f0:=xf 0;clear xf))
 obtain ⟨u0,hw⟩:∃ w',w' = w2.setCell ⟨A+1,0,none⟩ (.int .i64 7):=⟨_,rfl⟩
 have HX:=HS
 clear HS
 have HS:Hid (IB W u0 b g cap dv ts xb σ1 A #[.int .i64 7,.string ⟨#[]⟩,.int .i64 0,.int .i64 0,.int .i64 0,.slice none 0 0,.string ⟨#[]⟩,.string ⟨#[]⟩,.int .i64 (p0:Int)]):=hid (by rw [hw];exact HX.out.set 0 _ rfl)
 rw [← hw]
 clear hw HX x0 x1 x2 x3 x4 x5 x6 x7 x8 f0
 have HR:=hid HS.out.rd
 refine (C0.out u0 HR).mono ?_
 rintro e z0 ⟨rfl,hr,hk⟩
 dsimp only
 have HX:=HS
 clear HS HR
 have HS:=hid (HX.out.call hr hk)
 clear hr hk HX
 obtain ⟨⟨x0,x1,x2,x3,x4,x5,x6,x7,x8⟩,xf⟩:=QAI HS.out.box;have f0:=xf 1;clear xf
 go_wp2_with fail
 obtain ⟨u1,hw⟩:∃ w',w' = z0.setCell ⟨A+1,1,none⟩ (.string (str v0)):=⟨_,rfl⟩
 have HX:=HS
 clear HS
 have HS:Hid (IB W u1 b g cap dv ts xb σ2 A #[.int .i64 7,.string (str v0),.int .i64 0,.int .i64 0,.int .i64 0,.slice none 0 0,.string ⟨#[]⟩,.string ⟨#[]⟩,.int .i64 (p0:Int)]):=hid (by rw [hw];exact HX.out.set 1 _ rfl)
 rw [← hw]
 clear hw HX x0 x1 x2 x3 x4 x5 x6 x7 x8 f0
 have HR:=hid HS.out.rd
 refine (C1.out u1 HR).mono ?_
 rintro e z1 ⟨rfl,hr,hk⟩
 dsimp only
 have HX:=HS
 clear HS HR
 have HS:=hid (HX.out.call hr hk)
 clear hr hk HX
 go_wp2_with fail
 have HR:=hid HS.out.rd
 refine (C2.out z1 HR).mono ?_
 rintro e z2 ⟨rfl,hr,hk⟩
 dsimp only
 have HX:=HS
 clear HS HR
 have HS:=hid (HX.out.call hr hk)
 clear hr hk HX
 obtain ⟨⟨x0,x1,x2,x3,x4,x5,x6,x7,x8⟩,xf⟩:=QAI HS.out.box;have f0:=xf 6;clear xf
 go_wp2_with fail
 obtain ⟨u3,hw⟩:∃ w',w' = z2.setCell ⟨A+1,6,none⟩ (.string (str v2)):=⟨_,rfl⟩
 have HX:=HS
 clear HS
 have HS:Hid (IB W u3 b g cap dv ts xb σ4 A #[.int .i64 7,.string (str v0),.int .i64 0,.int .i64 0,.int .i64 0,.slice none 0 0,.string (str v2),.string ⟨#[]⟩,.int .i64 (p0:Int)]):=hid (by rw [hw];exact HX.out.set 6 _ rfl)
 rw [← hw]
 clear hw HX x0 x1 x2 x3 x4 x5 x6 x7 x8 f0
 have HR:=hid HS.out.rd
 refine (C3.out u3 HR).mono ?_
 rintro e z3 ⟨rfl,hr,hk⟩
 dsimp only
 have HX:=HS
 clear HS HR
 have HS:=hid (HX.out.call hr hk)
 clear hr hk HX
 go_wp2_with fail
 have HR:=hid HS.out.rd
 refine (C4.out z3 HR).mono ?_
 rintro e z4 ⟨rfl,hr,hk⟩
 dsimp only
 have HX:=HS
 clear HS HR
 have HS:=hid (HX.out.call hr hk)
 clear hr hk HX
 obtain ⟨⟨x0,x1,x2,x3,x4,x5,x6,x7,x8⟩,xf⟩:=QAI HS.out.box;have f0:=xf 4;clear xf
 go_wp2_with fail
 obtain ⟨u5,hw⟩:∃ w',w' = z4.setCell ⟨A+1,4,none⟩ (.int .i64 v4):=⟨_,rfl⟩
 have HX:=HS
 clear HS
 have HS:Hid (IB W u5 b g cap dv ts xb σ6 A #[.int .i64 7,.string (str v0),.int .i64 0,.int .i64 0,.int .i64 v4,.slice none 0 0,.string (str v2),.string ⟨#[]⟩,.int .i64 (p0:Int)]):=hid (by rw [hw];exact HX.out.set 4 _ rfl)
 rw [← hw]
 clear hw HX x0 x1 x2 x3 x4 x5 x6 x7 x8 f0
 have HR:=hid HS.out.rd
 refine (C5.out u5 HR).mono ?_
 rintro e z5 ⟨rfl,hr,hk⟩
 dsimp only
 have HX:=HS
 clear HS HR
 have HS:=hid (HX.out.call hr hk)
 clear hr hk HX
 go_wp2_with fail
 have HR:=hid HS.out.rd
 refine (C6.out z5 HR).mono ?_
 rintro e z6 ⟨rfl,hr,hk⟩
 dsimp only
 have HX:=HS
 clear HS HR
 have HS:=hid (HX.out.call hr hk)
 clear hr hk HX
 obtain ⟨⟨x0,x1,x2,x3,x4,x5,x6,x7,x8⟩,xf⟩:=QAI HS.out.box;have f0:=xf 7;clear xf
 go_wp2_with fail
 obtain ⟨u7,hw⟩:∃ w',w' = z6.setCell ⟨A+1,7,none⟩ (.string (str v6)):=⟨_,rfl⟩
 have HX:=HS
 clear HS
 have HS:Hid (IB W u7 b g cap dv ts xb σ8 A #[.int .i64 7,.string (str v0),.int .i64 0,.int .i64 0,.int .i64 v4,.slice none 0 0,.string (str v2),.string (str v6),.int .i64 (p0:Int)]):=hid (by rw [hw];exact HX.out.set 7 _ rfl)
 rw [← hw]
 clear hw HX x0 x1 x2 x3 x4 x5 x6 x7 x8 f0
 refine HK.out _ _ ?_
 rw [HQ.out]
 refine QCB b g cap dv ts xb σ8 τ HT W u7 A _ _ _ _ _ _ _ _ _ _ _ _ HS _ (hid ?_)
 intro Z Y hr hk hb hk0
 exact ⟨none,0,0,rfl,hr,hk0,World.ownsRow_nil _ _ _ _⟩
set_option maxRecDepth 100000 in
theorem QNY (b g cap:Nat) (dv:Value) (ts:List Tok) (xb:Nat→Prop) (σ0 σ1 σ2 τ:RS) (p0:Nat) (hp:p0 = (QA9 ts σ0.at_).at_) (v0:List UInt8) (ht:isS ts [111,117,116] σ0 = true) (h1:σ1 = QA0 σ0) (g0:v0 = QAS ts σ1) (h2:σ2 = QA7 ts σ1) (hτ:τ = QA3 ts [59] σ2) (W:World) (h:Hid (Rd W b g cap dv ts xb σ0)) :
  Calls Tryz.prog 59 #[.pointer (some ⟨b,0,none⟩),.bool true] W fun r Y=>QBJ b g cap dv ts xb W { it0 with kind:=8,name:=str v0,pos:=(p0:Int) } (decide (τ.code = 0)) τ r Y:=by
 have TF:Hid (∀ (d:Array UInt8) W,d.toList≠[111,117,116]→Hid (Rd W b g cap dv ts xb σ0)→Calls Tryz.prog 26 #[.pointer (some ⟨b,0,none⟩),.string ⟨d⟩] W fun r Y=>RdRet b g cap dv ts xb W (.bool false) σ0 r Y):=hid fun d W hd h=>by
  have:=QA8 (b:=b) (g:=g) (cap:=cap) (dv:=dv) (xb:=xb) d.toList (QCm ht (Ne.symm hd)) W h
  simpa [str] using this
 have TT:CR b g cap dv ts xb 26 #[.pointer (some ⟨b,0,none⟩),.string ⟨#[111,117,116]⟩] (.bool true) σ0 σ1:=hid fun W h=>by rw [h1];exact QAN [111,117,116] ht W h
 have C0:CR b g cap dv ts xb 31 #[.pointer (some ⟨b,0,none⟩)] (.string (str v0)) σ1 σ2:=hid fun W h=>by rw [g0,h2];exact QAk b g cap dv ts xb σ1 W h
 have HT:=hid hτ
 refine QBe b g cap dv ts xb σ0 true W h _ (hid ?_)
 intro V A _ _ _ _ _ _ _ _ _ _ _ _ _ _ _ _ _ _ _ _ _ _ _ _ _ _ _ _ _ _ _ _ _ _ _ _ _ _ _ _ _ _ _ _ _ _ _ _ _ _ _ _ _ _ _ _ _ _ _ _ _ _ _ _ _ _ _ _ _ _ _ _ _ _ _ _ _ _ _ _ _ _ _ _ _ _ _ _ _ _ _ _ _ _ _ _ _ _ _ _ _ _ _ _ _ _ _ _ _ _ _ _ _ _ _ _ _ _ _ _ _ _ _ _ _ _ _ _ _ _ _ _ _ _ _ _ _ _ _ _ _ _ _ _ _ _ _ _ _ _ _ _ _ _ _ _ _ _ _ _ _ _ _ _ _ _ _ _ _ _ _ _ _ _ _ _ _ _ _ _ _ _ _ _ _ _ HS0
 obtain ⟨Q,hQ⟩:∃ Q,Q = bodyPost Tryz.prog Tryz.f59 (QBJ b g cap dv ts xb W { it0 with kind:=8,name:=str v0,pos:=(p0:Int) } (decide (τ.code = 0)) τ):=⟨_,rfl⟩
 rw [← hQ]
 have HQ:=hid hQ
 clear hQ
 simp only [QC2,sqh,QDf,Tryz.f59]
 simp only [Option.some.injEq,Nat.reduceEqDiff,if_true,if_false]
 refine wp_seq_k fun K hK=>?_
 have HK:Hid (∀ a w,(QC2 Tryz.f59 59).wp Tryz.prog Q a w→K a w):=hid hK
 have HR:=hid HS0.rd
 have HS:=hid HS0
 have hbA:b < A:=by have:=HS0.hA;have:=HS0.hb;omega
 clear hK HS0
 rw [← hp] at HS
 clear ht h1 h2 g0 hτ hp
 go_wp2_with (first
  | (go_at_call 26;(with_reducible refine Calls.mono (TF.out _ _ ?_ HR) ?_);(focus exact (by decide));(rintro e w1 ⟨rfl,hr,hk⟩);have HX:=HS;clear HR HS;have HS:=hid (HX.out.call hr hk);have HR:=hid hr;clear hr hk HX)
  | (go_at_call 26;(with_reducible refine Calls.mono (TT.out _ HR) ?_);(rintro e w2 ⟨rfl,hr,hk⟩);have HX:=HS;clear HR HS;have HS:=hid (HX.out.call hr hk);clear hr hk HX;obtain ⟨⟨x0,x1,x2,x3,x4,x5,x6,x7,x8⟩,xf⟩:=QAI HS.out.box;have f0:=xf 0;clear xf))
 obtain ⟨u0,hw⟩:∃ w',w' = w2.setCell ⟨A+1,0,none⟩ (.int .i64 8):=⟨_,rfl⟩
 have HX:=HS
 clear HS
 have HS:Hid (IB W u0 b g cap dv ts xb σ1 A #[.int .i64 8,.string ⟨#[]⟩,.int .i64 0,.int .i64 0,.int .i64 0,.slice none 0 0,.string ⟨#[]⟩,.string ⟨#[]⟩,.int .i64 (p0:Int)]):=hid (by rw [hw];exact HX.out.set 0 _ rfl)
 rw [← hw]
 clear hw HX x0 x1 x2 x3 x4 x5 x6 x7 x8 f0
 have HR:=hid HS.out.rd
 refine (C0.out u0 HR).mono ?_
 rintro e z0 ⟨rfl,hr,hk⟩
 dsimp only
 have HX:=HS
 clear HS HR
 have HS:=hid (HX.out.call hr hk)
 clear hr hk HX
 obtain ⟨⟨x0,x1,x2,x3,x4,x5,x6,x7,x8⟩,xf⟩:=QAI HS.out.box;have f0:=xf 1;clear xf
 go_wp2_with fail
 obtain ⟨u1,hw⟩:∃ w',w' = z0.setCell ⟨A+1,1,none⟩ (.string (str v0)):=⟨_,rfl⟩
 have HX:=HS
 clear HS
 have HS:Hid (IB W u1 b g cap dv ts xb σ2 A #[.int .i64 8,.string (str v0),.int .i64 0,.int .i64 0,.int .i64 0,.slice none 0 0,.string ⟨#[]⟩,.string ⟨#[]⟩,.int .i64 (p0:Int)]):=hid (by rw [hw];exact HX.out.set 1 _ rfl)
 rw [← hw]
 clear hw HX x0 x1 x2 x3 x4 x5 x6 x7 x8 f0
 refine HK.out _ _ ?_
 rw [HQ.out]
 refine QCB b g cap dv ts xb σ2 τ HT W u1 A _ _ _ _ _ _ _ _ _ _ _ _ HS _ (hid ?_)
 intro Z Y hr hk hb hk0
 exact ⟨none,0,0,rfl,hr,hk0,World.ownsRow_nil _ _ _ _⟩
set_option maxRecDepth 100000 in
theorem QLq (b g cap:Nat) (dv:Value) (ts:List Tok) (xb:Nat→Prop) (σ0:RS) (p0:Nat) (hp:p0 = (QA9 ts σ0.at_).at_) (ho:∀ s∈([[108,101,116],[100,101,114],[114,101,115,101,116],[109,101,109],[111,110],[109,111,100,101],[102,114,111,109],[111,117,116]]:List (List UInt8)),isS ts s σ0 = false) (W:World) (h:Hid (Rd W b g cap dv ts xb σ0)) :
  Calls Tryz.prog 59 #[.pointer (some ⟨b,0,none⟩),.bool true] W fun r Y=>QBJ b g cap dv ts xb W { it0 with pos:=(p0:Int) } false σ0 r Y:=by
 have TF:Hid (∀ (d:Array UInt8) W,d.toList∈([[108,101,116],[100,101,114],[114,101,115,101,116],[109,101,109],[111,110],[109,111,100,101],[102,114,111,109],[111,117,116]]:List (List UInt8))→Hid (Rd W b g cap dv ts xb σ0)→Calls Tryz.prog 26 #[.pointer (some ⟨b,0,none⟩),.string ⟨d⟩] W fun r Y=>RdRet b g cap dv ts xb W (.bool false) σ0 r Y):=hid fun d W hd h=>by
  have:=QA8 (b:=b) (g:=g) (cap:=cap) (dv:=dv) (xb:=xb) d.toList (ho _ hd) W h
  simpa [str] using this
 refine QBe b g cap dv ts xb σ0 true W h _ (hid ?_)
 intro V A _ _ _ _ _ _ _ _ _ _ _ _ _ _ _ _ _ _ _ _ _ _ _ _ _ _ _ _ _ _ _ _ _ _ _ _ _ _ _ _ _ _ _ _ _ _ _ _ _ _ _ _ _ _ _ _ _ _ _ _ _ _ _ _ _ _ _ _ _ _ _ _ _ _ _ _ _ _ _ _ _ _ _ _ _ _ _ _ _ _ _ _ _ _ _ _ _ _ _ _ _ _ _ _ _ _ _ _ _ _ _ _ _ _ _ _ _ _ _ _ _ _ _ _ _ _ _ _ _ _ _ _ _ _ _ _ _ _ _ _ _ _ _ _ _ _ _ _ _ _ _ _ _ _ _ _ _ _ _ _ _ _ _ _ _ _ _ _ _ _ _ _ _ _ _ _ _ _ _ _ _ _ _ _ _ _ HS0
 obtain ⟨Q,hQ⟩:∃ Q,Q = bodyPost Tryz.prog Tryz.f59 (QBJ b g cap dv ts xb W { it0 with pos:=(p0:Int) } false σ0):=⟨_,rfl⟩
 rw [← hQ]
 have HQ:=hid hQ
 clear hQ
 simp only [QC2,sqh,QDf,Tryz.f59]
 simp only [Option.some.injEq,Nat.reduceEqDiff,if_true,if_false]
 refine wp_seq_k fun K hK=>?_
 have HK:Hid (∀ a w,(QC2 Tryz.f59 59).wp Tryz.prog Q a w→K a w):=hid hK
 have HR:=hid HS0.rd
 have HS:=hid HS0
 have hbA:b < A:=by have:=HS0.hA;have:=HS0.hb;omega
 clear hK HS0
 rw [← hp] at HS
 clear ho hp
 go_wp2_with (go_at_call 26;(with_reducible refine Calls.mono (TF.out _ _ ?_ HR) ?_);(focus exact (by decide));(rintro e w1 ⟨rfl,hr,hk⟩);have HX:=HS;clear HR HS;have HS:=hid (HX.out.call hr hk);have HR:=hid hr;clear hr hk HX;obtain ⟨⟨m0,m1,m2,m3,m4,m5,m6,m7,m8⟩,mf⟩:=QAI HS.out.box;obtain ⟨⟨n0,n1,n2,n3,n4,n5,n6,n7,n8⟩,nf⟩:=QAI HS.out.zero;have f0:=nf 0;have f1:=nf 1;have f2:=nf 2;have f3:=nf 3;have f4:=nf 4;have f5:=nf 5;have f6:=nf 6;have f7:=nf 7;have f8:=nf 8;clear nf mf)
 obtain ⟨Y,hY⟩:∃ Y,Y = QOB w1 A (.int .i64 0) (.string ⟨#[]⟩) (.int .i64 0) (.int .i64 0) (.int .i64 0) (.slice none 0 0) (.string ⟨#[]⟩) (.string ⟨#[]⟩) (.int .i64 (p0:Int)):=⟨_,rfl⟩
 have hY2:=hY
 unfold QOB at hY2
 rw [← hY2]
 have HB:=hid (show But A w1 Y by rw [hY];exact QGp _ _ _ _ _ _ _ _ _ _ _)
 have HY:Hid (Y.heap[A]? = some (.cells #[.int .i64 0,.string ⟨#[]⟩,.int .i64 0,.int .i64 0,.int .i64 0,.slice none 0 0,.string ⟨#[]⟩,.string ⟨#[]⟩,.int .i64 (p0:Int)] 57 (0,0))):=hid (by rw [hY];exact QGo HS.out.zero _ _ _ _ _ _ _ _ _)
 clear hY hY2 n0 n1 n2 n3 n4 n5 n6 n7 n8 m0 m1 m2 m3 m4 m5 m6 m7 m8 f0 f1 f2 f3 f4 f5 f6 f7 f8
 obtain ⟨⟨r0,r1,r2,r3,r4,r5,r6,r7,r8⟩,_⟩:=QAI HY.out
 rw [HQ.out]
 refine bodyPost_ret (v:=.tuple #[.agg #[.int .i64 0,.string ⟨#[]⟩,.int .i64 0,.int .i64 0,.int .i64 0,.slice none 0 0,.string ⟨#[]⟩,.string ⟨#[]⟩,.int .i64 (p0:Int)],.bool false]) (by simp [results,Tryz.results59,go_sem,r0,r1,r2,r3,r4,r5,r6,r7,r8]) rfl ?_
 exact ⟨none,0,0,rfl,HS.out.rd.but HS.out.zero (by decide) (by decide) hbA HB.out,HS.out.rk.but HS.out.hA hbA HS.out.hb HB.out,World.ownsRow_nil _ _ _ _⟩
set_option maxRecDepth 100000 in
theorem QK5 (b g cap:Nat) (dv:Value) (ts:List Tok) (xb:Nat→Prop) (σ0:RS) (p0:Nat) (hp:p0 = (QA9 ts σ0.at_).at_) (ho:∀ s∈([[108,101,116]]:List (List UInt8)),isS ts s σ0 = false) (W:World) (h:Hid (Rd W b g cap dv ts xb σ0)) :
  Calls Tryz.prog 59 #[.pointer (some ⟨b,0,none⟩),.bool false] W fun r Y=>QBJ b g cap dv ts xb W { it0 with pos:=(p0:Int) } false σ0 r Y:=by
 have TF:Hid (∀ (d:Array UInt8) W,d.toList∈([[108,101,116]]:List (List UInt8))→Hid (Rd W b g cap dv ts xb σ0)→Calls Tryz.prog 26 #[.pointer (some ⟨b,0,none⟩),.string ⟨d⟩] W fun r Y=>RdRet b g cap dv ts xb W (.bool false) σ0 r Y):=hid fun d W hd h=>by
  have:=QA8 (b:=b) (g:=g) (cap:=cap) (dv:=dv) (xb:=xb) d.toList (ho _ hd) W h
  simpa [str] using this
 refine QBe b g cap dv ts xb σ0 false W h _ (hid ?_)
 intro V A _ _ _ _ _ _ _ _ _ _ _ _ _ _ _ _ _ _ _ _ _ _ _ _ _ _ _ _ _ _ _ _ _ _ _ _ _ _ _ _ _ _ _ _ _ _ _ _ _ _ _ _ _ _ _ _ _ _ _ _ _ _ _ _ _ _ _ _ _ _ _ _ _ _ _ _ _ _ _ _ _ _ _ _ _ _ _ _ _ _ _ _ _ _ _ _ _ _ _ _ _ _ _ _ _ _ _ _ _ _ _ _ _ _ _ _ _ _ _ _ _ _ _ _ _ _ _ _ _ _ _ _ _ _ _ _ _ _ _ _ _ _ _ _ _ _ _ _ _ _ _ _ _ _ _ _ _ _ _ _ _ _ _ _ _ _ _ _ _ _ _ _ _ _ _ _ _ _ _ _ _ _ _ _ _ _ HS0
 obtain ⟨Q,hQ⟩:∃ Q,Q = bodyPost Tryz.prog Tryz.f59 (QBJ b g cap dv ts xb W { it0 with pos:=(p0:Int) } false σ0):=⟨_,rfl⟩
 rw [← hQ]
 have HQ:=hid hQ
 clear hQ
 simp only [QC2,sqh,QDf,Tryz.f59]
 simp only [Option.some.injEq,Nat.reduceEqDiff,if_true,if_false]
 refine wp_seq_k fun K hK=>?_
 have HK:Hid (∀ a w,(QC2 Tryz.f59 59).wp Tryz.prog Q a w→K a w):=hid hK
 have HR:=hid HS0.rd
 have HS:=hid HS0
 have hbA:b < A:=by have:=HS0.hA;have:=HS0.hb;omega
 clear hK HS0
 rw [← hp] at HS
 clear ho hp
 go_wp2_with (go_at_call 26;(with_reducible refine Calls.mono (TF.out _ _ ?_ HR) ?_);(focus exact (by decide));(rintro e w1 ⟨rfl,hr,hk⟩);have HX:=HS;clear HR HS;have HS:=hid (HX.out.call hr hk);have HR:=hid hr;clear hr hk HX;obtain ⟨⟨m0,m1,m2,m3,m4,m5,m6,m7,m8⟩,mf⟩:=QAI HS.out.box;obtain ⟨⟨n0,n1,n2,n3,n4,n5,n6,n7,n8⟩,nf⟩:=QAI HS.out.zero;have f0:=nf 0;have f1:=nf 1;have f2:=nf 2;have f3:=nf 3;have f4:=nf 4;have f5:=nf 5;have f6:=nf 6;have f7:=nf 7;have f8:=nf 8;clear nf mf)
 obtain ⟨Y,hY⟩:∃ Y,Y = QOB w1 A (.int .i64 0) (.string ⟨#[]⟩) (.int .i64 0) (.int .i64 0) (.int .i64 0) (.slice none 0 0) (.string ⟨#[]⟩) (.string ⟨#[]⟩) (.int .i64 (p0:Int)):=⟨_,rfl⟩
 have hY2:=hY
 unfold QOB at hY2
 rw [← hY2]
 have HB:=hid (show But A w1 Y by rw [hY];exact QGp _ _ _ _ _ _ _ _ _ _ _)
 have HY:Hid (Y.heap[A]? = some (.cells #[.int .i64 0,.string ⟨#[]⟩,.int .i64 0,.int .i64 0,.int .i64 0,.slice none 0 0,.string ⟨#[]⟩,.string ⟨#[]⟩,.int .i64 (p0:Int)] 57 (0,0))):=hid (by rw [hY];exact QGo HS.out.zero _ _ _ _ _ _ _ _ _)
 clear hY hY2 n0 n1 n2 n3 n4 n5 n6 n7 n8 m0 m1 m2 m3 m4 m5 m6 m7 m8 f0 f1 f2 f3 f4 f5 f6 f7 f8
 obtain ⟨⟨r0,r1,r2,r3,r4,r5,r6,r7,r8⟩,_⟩:=QAI HY.out
 rw [HQ.out]
 refine bodyPost_ret (v:=.tuple #[.agg #[.int .i64 0,.string ⟨#[]⟩,.int .i64 0,.int .i64 0,.int .i64 0,.slice none 0 0,.string ⟨#[]⟩,.string ⟨#[]⟩,.int .i64 (p0:Int)],.bool false]) (by simp [results,Tryz.results59,go_sem,r0,r1,r2,r3,r4,r5,r6,r7,r8]) rfl ?_
 exact ⟨none,0,0,rfl,HS.out.rd.but HS.out.zero (by decide) (by decide) hbA HB.out,HS.out.rk.but HS.out.hA hbA HS.out.hb HB.out,World.ownsRow_nil _ _ _ _⟩
end
section
open Go.RowKit Lx
set_option linter.unusedVariables false
theorem IB.below {W0 Y Z:World} {b g cap:Nat} {dv:Value} {ts:List Tok} {xb:Nat→Prop} {σ:RS} {A:Nat} {c:Array Value} (h:IB W0 Y b g cap dv ts xb σ A c) (hb:Below Y.heap.size Y Z):IB W0 Z b g cap dv ts xb σ A c :=
 h.call (h.rd.below hb) (RK.of_below hb (by have:=h.hb;have:=h.rk.size;omega))
theorem IB.grown {W0 Y Z:World} {b g cap:Nat} {dv:Value} {ts:List Tok} {xb:Nat→Prop} {σ:RS} {A:Nat} {c:Array Value} (h:IB W0 Y b g cap dv ts xb σ A c) {v:Value} {n:Nat} {xs:List Value} (ho:Y.ownsRow W0.heap.size 9 1 v n xs) (hg:Y.grownBy Z v.ownBlock):IB W0 Z b g cap dv ts xb σ A c:=by
 have ne:∀ (k:Nat) (cs:Array Value),Y.heap[k]? = some (.cells cs 57 (0,0))→Z.heap[k]? = some (.cells cs 57 (0,0)):=fun k cs hk=>(hg.block k (QBn hk) fun e=>by
  obtain ⟨_,cs',hc⟩:=QBD ho e.symm
  rw [hk] at hc;cases hc).trans hk
 exact ⟨h.rd.grownT ho h.hb (by decide) (by decide) hg,h.rk.grownT h.hb ho hg,ne A _ h.zero,ne (A+1) _ h.box,h.hA,h.hb⟩
noncomputable def rgn (n:Nat):Code→Option Code
 | .region i o d=>if i = n then some (.region i o d) else none
 | .seq a b=>match rgn n a with
  | some c=>some c
  | none=>rgn n b
 | .cond _ a b=>match rgn n a with
  | some c=>some c
  | none=>rgn n b
 | .block _ c=>rgn n c
 | .loop c=>rgn n c
 | _=>none
noncomputable def QO6 (f:Func) (n:Nat):Code:=match rgn n (match f.body with | some c=>c | none=>.skip) with
 | some c=>c
 | none=>.skip
def QBV (ts:List Tok):Nat→List ByteArray→RS→Option (List ByteArray × RS)
 | 0,_,_=>none
 | f+1,acc,σ=>if acc.length≤40000 then (if isS ts [44] σ = true then QBV ts f (acc ++ [str (QAS ts (QA0 σ))]) (QA7 ts (QA0 σ)) else some (acc,σ)) else none
theorem QON:(Tryz.prog.info? 9).map (fun i=>(i.zero,i.size,i.bytes)) = some (some (.string ⟨#[]⟩),1,16):=by kernel_rfl
theorem QHn {ops:Array Oper} {o:Oper} {a:Act} {K:Act→World→Prop} {Q:Exit→Act→World→Prop} {E:Prop} (w:World) (hgd:o.guard = none) (s x:Operand)
  (ho:o.op = Op.call { callee:=Callee.builtin Builtin.append,args:=#[s,x],argTypes:=#[55,55] }) (B:Nat) (v:Value) (n:Nat) (xs:List Value) (hs:a.eval s = v) (hown:w.ownsRow B 9 1 v n xs)
  (kb:Nat) (u:Value) (hx:a.eval x = .slice (some ⟨kb,0,none⟩) 1 1) (hc:w.cell? ⟨kb,0,none⟩ = some u) (h1c:u.oneCell' = true) (hk:n≤40000) (hB:B≤w.heap.size)
  (h:∀ g cap w',w'.ownsRow B 9 1 (.slice (some ⟨g,0,none⟩) (n+1) cap) (n+1) (xs ++ [u])→w.grownBy w' v.ownBlock→K (a.put o.dst (.slice (some ⟨g,0,none⟩) (n+1) cap)) w'):if Region.wanted o (yielded ops a.tmps) = true then Oper.wp Tryz.prog o a w K Q else E:=by
 rw [if_pos (by simp [Region.wanted,hgd])]
 obtain ⟨i,h2,h3,h4,h5⟩:=info_parts QON
 refine wp_append_own w s x 55 ho B 9 i _ 1 16 Tryz.underlying55 h2 h3 h4 h5 rfl (by decide) v n xs hs hown ⟨kb,0,none⟩ 1 1 [u] hx rfl (fun j v hj=>?_) (by simpa using h1c) (by unfold maxLen;omega) (by omega) hB fun v' w' r1 r2 _=>?_
 ·cases j with
  | zero =>
   cases hj
   have e:(⟨kb,0,none⟩:Addr).add 0 = ⟨kb,0,none⟩:=by unfold Addr.add;split <;> simp_all
   rw [e];exact hc
  | succ j=>simp at hj
 ·obtain ⟨g,cap,rfl⟩:=ownsRow_succ r1
  exact h g cap w' r1 r2
theorem QGA {ops:Array Oper} {o:Oper} {a:Act} {K:Act→World→Prop} {Q:Exit→Act→World→Prop} {E:Prop} (w:World) (hgd:o.guard = none) (f:FuncId) (args:Array Value) (hr:(execOp a.eval o).run Tryz.prog w = .ok (.enter f args) w) (P:Ending→World→Prop) (C:Calls Tryz.prog f args w P)
  (h:∀ e w',P e w'→∃ val,e = .returned val∧K (a.put o.dst val) w'):if Region.wanted o (yielded ops a.tmps) = true then Oper.wp Tryz.prog o a w K Q else E:=by
 rw [if_pos (by simp [Region.wanted,hgd])]
 unfold Oper.wp
 rw [hr,Oper.upon_enter]
 refine C.mono fun e w' hp=>?_
 obtain ⟨val,rfl,hk⟩:=h e w' hp
 exact hk
end
section
open Go.Lib (hid)
open Go.RowKit Lx
set_option linter.unusedVariables false
set_option maxHeartbeats 16000000
theorem QHU (W:World) (v:Value) (T:TypeId):(W.alloc (.cells #[v] T)).cell? ⟨W.heap.size,0,none⟩ = some v:=by
 rw [World.cell?_alloc_new];rfl
def onlyN (Q:Exit→Act→World→Prop):Exit→Act→World→Prop
 | .normal,a,w=>Q .normal a w
 | _,_,_=>False
theorem QJU {P:Program} {c:Code} {Q:Exit→Act→World→Prop} {a:Act} {w:World} (h:c.wp P (onlyN Q) a w):c.wp P Q a w:=by
 intro b k cs
 obtain ⟨e,a₁,w₁,hq,harr⟩:=h b k cs
 refine ⟨e,a₁,w₁,?_,harr⟩
 cases e with
 | normal=>exact hq
 | _=>exact hq.elim
theorem QFO {W:World} {B:Nat} {T T2:TypeId} {s:Nat} {v:Value} {n:Nat} {xs:List Value} (h:W.ownsRow B T s v n xs) {A:Nat} {cs:Array Value} (hA:W.heap[A]? = some (.cells cs T2 (0,0))) (i:Nat) (u:Value) (hT:T≠T2:=by decide):(W.setCell ⟨A,i,none⟩ u).ownsRow B T s v n xs :=
 QAG h fun k e=>Below.heap_setCell W ⟨A,i,none⟩ u k fun hk=>by
  obtain ⟨_,cs',hc⟩:=QBD h e
  rw [hk] at hc
  rw [show (⟨A,i,none⟩:Addr).block = A from rfl,hA] at hc
  cases hc;exact hT rfl
set_option maxRecDepth 100000 in
theorem mode43 (b g cap:Nat) (dv:Value) (ts:List Tok) (xb:Nat→Prop) (σ τ:RS) (v:List UInt8) (hv:Hid (v = QAS ts σ)) (hτ:Hid (τ = QA7 ts σ)) (W0 W:World) (A:Nat) (nm:ByteArray) (pp:Int) (so:Option Addr) (sn sc:Nat) (xs:List Value) (hsn:sn≤40000) (HS:Hid (IB W0 W b g cap dv ts xb σ A #[.int .i64 6,.string nm,.int .i64 0,.int .i64 0,.int .i64 0,.slice so sn sc,.string ⟨#[]⟩,.string ⟨#[]⟩,.int .i64 pp])) (HO:Hid (W.ownsRow W0.heap.size 9 1 (.slice so sn sc) sn xs))
  (K:Exit→Act→World→Prop) (hK:Hid (∀ (E9 FE FG FH FI FJ FL:Value) (Y:World) (so' : Option Addr) (sc' : Nat),IB W0 Y b g cap dv ts xb τ A #[.int .i64 6,.string nm,.int .i64 0,.int .i64 0,.int .i64 0,.slice so' (sn+1) sc',.string ⟨#[]⟩,.string ⟨#[]⟩,.int .i64 pp]→Y.ownsRow W0.heap.size 9 1 (.slice so' (sn+1) sc') (sn+1) (xs ++ [.string (str v)])→K Exit.normal ⟨[.pointer (some ⟨b,0,none⟩),u1,u2,u3,.pointer (some ⟨A,0,none⟩),u5,.pointer (some ⟨A+1,0,none⟩),u7,u8,u9,IG,IE,IF,II,ID,IC,GL,GM,H8,IA,GN,GO,GK,Ey,Ez,E4,E5,E6,E7,E8,Ek,El,Em,En,Eo,Ep,Eq,Er,Es,EJ,EK,EL,EM,EO,Et,Eu,Ev,Ew,EP,EQ,ER,ET,EU,EV,EW,EX,EY,EZ,Ea,Eb,Ec,Ff,Fg,Fh,EI,Fi,Fj,Fr,Fs,Ft,Fu,Fv,Fw,Fx,Fy,Fz,F2,F4,F5,F6,F7,F8,F9,GA,GB,GC,GD,GE,GF,GG,Fk,Fl,Fm,Fn,Fo,Fp,Fq,GH,GI,GJ,AA,AB,AC,AE,AF,AG,AH,AI,AJ,AK,EH,B3,B4,B5,B8,B9,CD,CH,CI,CJ,CK,CM,CQ,CU,CX,DM,DN,DO,DP,E9,FE,FG,FH,FI,FJ,FL,DQ,DZ,Dm,Do,Dp,Dq,Dr,Dt,Du,Da,Db,Dc,Dd,Df,Dg,Dh,Di,Dj,Dk,Dl,CY,CZ,Ca,Cb,Cc,Cd,Ce,Cf,Cg,Ch,Ci,Cj,Ck,Cl,Cm,Cn,Co,Cp,Cq,Cr,Cs,Ct,Cu,Cv,Cw,Cx,Cy,Cz,DA,DE,DG,DI,DJ,DK,DL].toArray,[]⟩ Y)) :
  (QO6 Tryz.f59 43).wp Tryz.prog K ⟨[.pointer (some ⟨b,0,none⟩),u1,u2,u3,.pointer (some ⟨A,0,none⟩),u5,.pointer (some ⟨A+1,0,none⟩),u7,u8,u9,IG,IE,IF,II,ID,IC,GL,GM,H8,IA,GN,GO,GK,Ey,Ez,E4,E5,E6,E7,E8,Ek,El,Em,En,Eo,Ep,Eq,Er,Es,EJ,EK,EL,EM,EO,Et,Eu,Ev,Ew,EP,EQ,ER,ET,EU,EV,EW,EX,EY,EZ,Ea,Eb,Ec,Ff,Fg,Fh,EI,Fi,Fj,Fr,Fs,Ft,Fu,Fv,Fw,Fx,Fy,Fz,F2,F4,F5,F6,F7,F8,F9,GA,GB,GC,GD,GE,GF,GG,Fk,Fl,Fm,Fn,Fo,Fp,Fq,GH,GI,GJ,AA,AB,AC,AE,AF,AG,AH,AI,AJ,AK,EH,B3,B4,B5,B8,B9,CD,CH,CI,CJ,CK,CM,CQ,CU,CX,DM,DN,DO,DP,DR,DS,DU,DV,DW,DX,DY,DQ,DZ,Dm,Do,Dp,Dq,Dr,Dt,Du,Da,Db,Dc,Dd,Df,Dg,Dh,Di,Dj,Dk,Dl,CY,CZ,Ca,Cb,Cc,Cd,Ce,Cf,Cg,Ch,Ci,Cj,Ck,Cl,Cm,Cn,Co,Cp,Cq,Cr,Cs,Ct,Cu,Cv,Cw,Cx,Cy,Cz,DA,DE,DG,DI,DJ,DK,DL].toArray,[]⟩ W:=by
 have NM:CR b g cap dv ts xb 31 #[.pointer (some ⟨b,0,none⟩)] (.string (str v)) σ τ:=hid fun W h=>by rw [hv.out,hτ.out];exact QAk b g cap dv ts xb σ W h
 refine QJU ?_
 simp only [QO6,rgn,Tryz.f59]
 simp only [Nat.reduceEqDiff,if_true,if_false]
 have HD:Hid (IB W0 W.drew b g cap dv ts xb σ A #[.int .i64 6,.string nm,.int .i64 0,.int .i64 0,.int .i64 0,.slice so sn sc,.string ⟨#[]⟩,.string ⟨#[]⟩,.int .i64 pp]):=hid (HS.out.below (Below.refl _ _).drew)
 have HOD:Hid (W.drew.ownsRow W0.heap.size 9 1 (.slice so sn sc) sn xs):=hid HO.out
 obtain ⟨⟨x0,x1,x2,x3,x4,x5,x6,x7,x8⟩,xf⟩:=QAI HD.out.box
 clear xf x0 x1 x2 x3 x4 x6 x7 x8
 have HR:Hid (Rd W.drew b g cap dv ts xb σ):=hid HD.out.rd
 have hb0:=HS.out.hb
 have hAW:=HS.out.hA
 have mixed : Tryz.prog.follows .mixedOrders = true:=by kernel_rfl
 have late : Tryz.prog.follows .lateStores = true:=by kernel_rfl
 go_region_law (first
   | (refine QGA _ (by rfl) 31 #[.pointer (some ⟨b,0,none⟩)] (by go_simp) _ (NM.out _ HR) ?_;rintro e w1 ⟨rfl,hr,hk⟩;refine ⟨_,rfl,?_⟩;have HS1:=hid (HD.out.call hr hk);have HO1:=hid (QAY HOD.out (by decide) hb0 hk);have hsz:W0.heap.size≤w1.heap.size:=HS1.out.rk.size;clear hr hk;obtain ⟨⟨_,_,_,_,_,y5,_,_,_⟩,yf⟩:=QAI HS1.out.box;have y6:=yf 5;clear yf;have y7:∀ o,(w1.alloc o).cell? ⟨A+1,5,none⟩ = some (.slice so sn sc):=fun o=>QA1 ((Below.refl _ _).alloc (Nat.le_refl _) o) y5)
   | (refine QHn _ (by rfl) (.tmp 130) (.tmp 133) (by rfl) W0.heap.size (.slice so sn sc) sn xs (by rfl) (by exact HO1.out.alloc _) w1.heap.size (.string (str v)) (by rfl) (by exact QHU _ _ _) (by rfl) hsn (by simp;omega) ?_;intro gg cc w2 ho hg;have HS2:=hid (((HS1.out.below ((Below.refl _ _).alloc (Nat.le_refl _) (.cells #[.string (str v)] 9)))).grown (HO1.out.alloc _) hg);have HO2:=hid ho;clear ho hg;obtain ⟨⟨_,_,_,_,_,z5,_,_,_⟩,zf⟩:=QAI HS2.out.box;have z6:=zf 5;clear zf))
 all_goals (
  have HS3:=hid (HS2.out.set 5 (.slice (some ⟨gg,0,none⟩) (sn+1) cc) rfl)
  have HO3:Hid ((w2.setCell ⟨A+1,5,none⟩ (.slice (some ⟨gg,0,none⟩) (sn+1) cc)).ownsRow W0.heap.size 9 1 (.slice (some ⟨gg,0,none⟩) (sn+1) cc) (sn+1) (xs ++ [.string (str v)])):=hid (QFO HO2.out HS2.out.box _ _)
  exact hK.out _ _ _ _ _ _ _ _ _ _ HS3.out HO3.out)
set_option maxRecDepth 100000 in
theorem mode45 (b g cap:Nat) (dv:Value) (ts:List Tok) (xb:Nat→Prop) (σ τ:RS) (v:List UInt8) (hv:Hid (v = QAS ts σ)) (hτ:Hid (τ = QA7 ts σ)) (W0 W:World) (A:Nat) (nm:ByteArray) (pp:Int) (so:Option Addr) (sn sc:Nat) (xs:List Value) (hsn:sn≤40000) (HS:Hid (IB W0 W b g cap dv ts xb σ A #[.int .i64 6,.string nm,.int .i64 0,.int .i64 0,.int .i64 0,.slice so sn sc,.string ⟨#[]⟩,.string ⟨#[]⟩,.int .i64 pp])) (HO:Hid (W.ownsRow W0.heap.size 9 1 (.slice so sn sc) sn xs))
  (K:Exit→Act→World→Prop) (hK:Hid (∀ (Ed Ee Ef Eg Eh Ei Ej:Value) (Y:World) (so' : Option Addr) (sc' : Nat),IB W0 Y b g cap dv ts xb τ A #[.int .i64 6,.string nm,.int .i64 0,.int .i64 0,.int .i64 0,.slice so' (sn+1) sc',.string ⟨#[]⟩,.string ⟨#[]⟩,.int .i64 pp]→Y.ownsRow W0.heap.size 9 1 (.slice so' (sn+1) sc') (sn+1) (xs ++ [.string (str v)])→K Exit.normal ⟨[.pointer (some ⟨b,0,none⟩),u1,u2,u3,.pointer (some ⟨A,0,none⟩),u5,.pointer (some ⟨A+1,0,none⟩),u7,u8,u9,IG,IE,IF,II,ID,IC,GL,GM,H8,IA,GN,GO,GK,Ey,Ez,E4,E5,E6,E7,E8,Ek,El,Em,En,Eo,Ep,Eq,Er,Es,EJ,EK,EL,EM,EO,Et,Eu,Ev,Ew,EP,EQ,ER,ET,EU,EV,EW,EX,EY,EZ,Ea,Eb,Ec,Ff,Fg,Fh,EI,Fi,Fj,Fr,Fs,Ft,Fu,Fv,Fw,Fx,Fy,Fz,F2,F4,F5,F6,F7,F8,F9,GA,GB,GC,GD,GE,GF,GG,Fk,Fl,Fm,Fn,Fo,Fp,Fq,GH,GI,GJ,AA,AB,AC,AE,AF,AG,AH,AI,AJ,AK,EH,B3,B4,B5,B8,B9,CD,CH,CI,CJ,CK,CM,CQ,CU,CX,DM,DN,DO,DP,DR,DS,DU,DV,DW,DX,DY,DQ,DZ,Ed,Ee,Ef,Eg,Eh,Ei,Ej,Da,Db,Dc,Dd,Df,Dg,Dh,Di,Dj,Dk,Dl,CY,CZ,Ca,Cb,Cc,Cd,Ce,Cf,Cg,Ch,Ci,Cj,Ck,Cl,Cm,Cn,Co,Cp,Cq,Cr,Cs,Ct,Cu,Cv,Cw,Cx,Cy,Cz,DA,DE,DG,DI,DJ,DK,DL].toArray,[]⟩ Y)) :
  (QO6 Tryz.f59 45).wp Tryz.prog K ⟨[.pointer (some ⟨b,0,none⟩),u1,u2,u3,.pointer (some ⟨A,0,none⟩),u5,.pointer (some ⟨A+1,0,none⟩),u7,u8,u9,IG,IE,IF,II,ID,IC,GL,GM,H8,IA,GN,GO,GK,Ey,Ez,E4,E5,E6,E7,E8,Ek,El,Em,En,Eo,Ep,Eq,Er,Es,EJ,EK,EL,EM,EO,Et,Eu,Ev,Ew,EP,EQ,ER,ET,EU,EV,EW,EX,EY,EZ,Ea,Eb,Ec,Ff,Fg,Fh,EI,Fi,Fj,Fr,Fs,Ft,Fu,Fv,Fw,Fx,Fy,Fz,F2,F4,F5,F6,F7,F8,F9,GA,GB,GC,GD,GE,GF,GG,Fk,Fl,Fm,Fn,Fo,Fp,Fq,GH,GI,GJ,AA,AB,AC,AE,AF,AG,AH,AI,AJ,AK,EH,B3,B4,B5,B8,B9,CD,CH,CI,CJ,CK,CM,CQ,CU,CX,DM,DN,DO,DP,DR,DS,DU,DV,DW,DX,DY,DQ,DZ,Dm,Do,Dp,Dq,Dr,Dt,Du,Da,Db,Dc,Dd,Df,Dg,Dh,Di,Dj,Dk,Dl,CY,CZ,Ca,Cb,Cc,Cd,Ce,Cf,Cg,Ch,Ci,Cj,Ck,Cl,Cm,Cn,Co,Cp,Cq,Cr,Cs,Ct,Cu,Cv,Cw,Cx,Cy,Cz,DA,DE,DG,DI,DJ,DK,DL].toArray,[]⟩ W:=by
 have NM:CR b g cap dv ts xb 31 #[.pointer (some ⟨b,0,none⟩)] (.string (str v)) σ τ:=hid fun W h=>by rw [hv.out,hτ.out];exact QAk b g cap dv ts xb σ W h
 refine QJU ?_
 simp only [QO6,rgn,Tryz.f59]
 simp only [Nat.reduceEqDiff,if_true,if_false]
 have HD:Hid (IB W0 W.drew b g cap dv ts xb σ A #[.int .i64 6,.string nm,.int .i64 0,.int .i64 0,.int .i64 0,.slice so sn sc,.string ⟨#[]⟩,.string ⟨#[]⟩,.int .i64 pp]):=hid (HS.out.below (Below.refl _ _).drew)
 have HOD:Hid (W.drew.ownsRow W0.heap.size 9 1 (.slice so sn sc) sn xs):=hid HO.out
 obtain ⟨⟨x0,x1,x2,x3,x4,x5,x6,x7,x8⟩,xf⟩:=QAI HD.out.box
 clear xf x0 x1 x2 x3 x4 x6 x7 x8
 have HR:Hid (Rd W.drew b g cap dv ts xb σ):=hid HD.out.rd
 have hb0:=HS.out.hb
 have hAW:=HS.out.hA
 have mixed : Tryz.prog.follows .mixedOrders = true:=by kernel_rfl
 have late : Tryz.prog.follows .lateStores = true:=by kernel_rfl
 go_region_law (first
   | (refine QGA _ (by rfl) 31 #[.pointer (some ⟨b,0,none⟩)] (by go_simp) _ (NM.out _ HR) ?_;rintro e w1 ⟨rfl,hr,hk⟩;refine ⟨_,rfl,?_⟩;have HS1:=hid (HD.out.call hr hk);have HO1:=hid (QAY HOD.out (by decide) hb0 hk);have hsz:W0.heap.size≤w1.heap.size:=HS1.out.rk.size;clear hr hk;obtain ⟨⟨_,_,_,_,_,y5,_,_,_⟩,yf⟩:=QAI HS1.out.box;have y6:=yf 5;clear yf;have y7:∀ o,(w1.alloc o).cell? ⟨A+1,5,none⟩ = some (.slice so sn sc):=fun o=>QA1 ((Below.refl _ _).alloc (Nat.le_refl _) o) y5)
   | (refine QHn _ (by rfl) (.tmp 139) (.tmp 142) (by rfl) W0.heap.size (.slice so sn sc) sn xs (by rfl) (by exact HO1.out.alloc _) w1.heap.size (.string (str v)) (by rfl) (by exact QHU _ _ _) (by rfl) hsn (by simp;omega) ?_;intro gg cc w2 ho hg;have HS2:=hid (((HS1.out.below ((Below.refl _ _).alloc (Nat.le_refl _) (.cells #[.string (str v)] 9)))).grown (HO1.out.alloc _) hg);have HO2:=hid ho;clear ho hg;obtain ⟨⟨_,_,_,_,_,z5,_,_,_⟩,zf⟩:=QAI HS2.out.box;have z6:=zf 5;clear zf))
 all_goals (
  have HS3:=hid (HS2.out.set 5 (.slice (some ⟨gg,0,none⟩) (sn+1) cc) rfl)
  have HO3:Hid ((w2.setCell ⟨A+1,5,none⟩ (.slice (some ⟨gg,0,none⟩) (sn+1) cc)).ownsRow W0.heap.size 9 1 (.slice (some ⟨gg,0,none⟩) (sn+1) cc) (sn+1) (xs ++ [.string (str v)])):=hid (QFO HO2.out HS2.out.box _ _)
  exact hK.out _ _ _ _ _ _ _ _ _ _ HS3.out HO3.out)
def MdI (W:World) (b g cap:Nat) (dv:Value) (ts:List Tok) (xb:Nat→Prop) (f:Nat) (st:List ByteArray) (σ5:RS) (nm:ByteArray) (pp:Int) (n:Nat) (x:World × Nat):Prop :=
 ∃ (acc:List ByteArray) (τ:RS) (so:Option Addr) (sc:Nat),n≤f∧QBV ts n acc τ = some (st,σ5)∧IB W x.1 b g cap dv ts xb τ x.2 #[.int .i64 6,.string nm,.int .i64 0,.int .i64 0,.int .i64 0,.slice so acc.length sc,.string ⟨#[]⟩,.string ⟨#[]⟩,.int .i64 pp]∧x.1.ownsRow W.heap.size 9 1 (.slice so acc.length sc) acc.length (acc.map .string)
theorem QGq {ts:List Tok} {n:Nat} {acc:List ByteArray} {σ:RS} {R:List ByteArray × RS} (h:QBV ts n acc σ = some R):∃ k,n = k+1∧acc.length≤40000 ∧
  ((isS ts [44] σ = true∧QBV ts k (acc ++ [str (QAS ts (QA0 σ))]) (QA7 ts (QA0 σ)) = some R)∨(isS ts [44] σ = false∧R = (acc,σ))):=by
 cases n with
 | zero=>cases h
 | succ k =>
  simp only [QBV] at h
  split at h
  ·rename_i hl
   refine ⟨k,rfl,hl,?_⟩
   cases hi:isS ts [44] σ with
   | true=>rw [hi] at h;exact .inl ⟨rfl,by simpa using h⟩
   | false=>rw [hi] at h;exact .inr ⟨rfl,by simpa using h.symm⟩
  ·cases h
set_option maxRecDepth 100000 in
theorem QLp (b g cap:Nat) (dv:Value) (ts:List Tok) (xb:Nat→Prop) (f:Nat) (st:List ByteArray) (σ0 σ1 σ2 σ3 σ4 σ5 σ6 τ:RS) (p0:Nat) (hp:p0 = (QA9 ts σ0.at_).at_) (v0:List UInt8) (ht:isS ts [109,111,100,101] σ0 = true) (h1:σ1 = QA0 σ0) (g0:v0 = QAS ts σ1) (h2:σ2 = QA7 ts σ1) (h3:σ3 = QA3 ts [123] σ2) (v2:List UInt8) (g2:v2 = QAS ts σ3) (h4:σ4 = QA7 ts σ3) (hl:QBV ts f [str v2] σ4 = some (st,σ5)) (h6:σ6 = QA3 ts [125] σ5) (hτ:τ = QA3 ts [59] σ6) (W:World) (h:Hid (Rd W b g cap dv ts xb σ0)) :
  Calls Tryz.prog 59 #[.pointer (some ⟨b,0,none⟩),.bool true] W fun r Y=>QBJ b g cap dv ts xb W { it0 with kind:=6,name:=str v0,states:=st,pos:=(p0:Int) } (decide (τ.code = 0)) τ r Y:=by
 have TF:Hid (∀ (d:Array UInt8) W,d.toList≠[109,111,100,101]→Hid (Rd W b g cap dv ts xb σ0)→Calls Tryz.prog 26 #[.pointer (some ⟨b,0,none⟩),.string ⟨d⟩] W fun r Y=>RdRet b g cap dv ts xb W (.bool false) σ0 r Y):=hid fun d W hd h=>by
  have:=QA8 (b:=b) (g:=g) (cap:=cap) (dv:=dv) (xb:=xb) d.toList (QCm ht (Ne.symm hd)) W h
  simpa [str] using this
 have TT:CR b g cap dv ts xb 26 #[.pointer (some ⟨b,0,none⟩),.string ⟨#[109,111,100,101]⟩] (.bool true) σ0 σ1:=hid fun W h=>by rw [h1];exact QAN [109,111,100,101] ht W h
 have C0:CR b g cap dv ts xb 31 #[.pointer (some ⟨b,0,none⟩)] (.string (str v0)) σ1 σ2:=hid fun W h=>by rw [g0,h2];exact QAk b g cap dv ts xb σ1 W h
 have C1:CR b g cap dv ts xb 27 #[.pointer (some ⟨b,0,none⟩),.string ⟨#[123]⟩] (.tuple #[]) σ2 σ3:=hid fun W h=>by rw [h3];exact QAF b g cap dv ts xb σ2 [123] W h
 have HT:=hid hτ
 have CE:CR b g cap dv ts xb 27 #[.pointer (some ⟨b,0,none⟩),.string ⟨#[125]⟩] (.tuple #[]) σ5 σ6:=hid fun W h=>by rw [h6];exact QAF b g cap dv ts xb σ5 [125] W h
 obtain ⟨m,hm⟩:=QD4 (MdI W b g cap dv ts xb f st σ5 (str v0) (p0:Int))
 have HM:=hid hm
 have HL:=hid hl
 have HG2:=hid g2
 have HH4:=hid h4
 clear hm
 refine QBe b g cap dv ts xb σ0 true W h _ (hid ?_)
 intro V A _ _ _ _ _ _ _ _ _ _ _ _ _ _ _ _ _ _ _ _ _ _ _ _ _ _ _ _ _ _ _ _ _ _ _ _ _ _ _ _ _ _ _ _ _ _ _ _ _ _ _ _ _ _ _ _ _ _ _ _ _ _ _ _ _ _ _ _ _ _ _ _ _ _ _ _ _ _ _ _ _ _ _ _ _ _ _ _ _ _ _ _ _ _ _ _ _ _ _ _ _ _ _ _ _ _ _ _ _ _ _ _ _ _ _ _ _ _ _ _ _ _ _ _ _ _ _ _ _ _ _ _ _ _ _ _ _ _ _ _ _ _ _ _ _ _ _ _ _ _ _ _ _ _ _ _ _ _ _ _ _ _ _ _ _ _ _ _ _ _ _ _ _ _ _ _ _ _ _ _ _ _ _ _ _ _ HS0
 obtain ⟨Q,hQ⟩:∃ Q,Q = bodyPost Tryz.prog Tryz.f59 (QBJ b g cap dv ts xb W { it0 with kind:=6,name:=str v0,states:=st,pos:=(p0:Int) } (decide (τ.code = 0)) τ):=⟨_,rfl⟩
 rw [← hQ]
 have HQ:=hid hQ
 clear hQ
 simp only [QC2,sqh,QDf,Tryz.f59]
 simp only [Option.some.injEq,Nat.reduceEqDiff,if_true,if_false]
 refine wp_seq_k fun K hK=>?_
 have HK:Hid (∀ a w,(QC2 Tryz.f59 59).wp Tryz.prog Q a w→K a w):=hid hK
 have HR:=hid HS0.rd
 have HS:=hid HS0
 have hbA:b < A:=by have:=HS0.hA;have:=HS0.hb;omega
 clear hK HS0
 rw [← hp] at HS
 clear g2 h4 hl h6 ht h1 h2 h3 g0 hτ hp
 go_wp2_with (first
  | (go_at_call 26;(with_reducible refine Calls.mono (TF.out _ _ ?_ HR) ?_);(focus exact (by decide));(rintro e w1 ⟨rfl,hr,hk⟩);have HX:=HS;clear HR HS;have HS:=hid (HX.out.call hr hk);have HR:=hid hr;clear hr hk HX)
  | (go_at_call 26;(with_reducible refine Calls.mono (TT.out _ HR) ?_);(rintro e w2 ⟨rfl,hr,hk⟩);have HX:=HS;clear HR HS;have HS:=hid (HX.out.call hr hk);clear hr hk HX;obtain ⟨⟨x0,x1,x2,x3,x4,x5,x6,x7,x8⟩,xf⟩:=QAI HS.out.box;have f0:=xf 0;clear xf))
 obtain ⟨u0,hw⟩:∃ w',w' = w2.setCell ⟨A+1,0,none⟩ (.int .i64 6):=⟨_,rfl⟩
 have HX:=HS
 clear HS
 have HS:Hid (IB W u0 b g cap dv ts xb σ1 A #[.int .i64 6,.string ⟨#[]⟩,.int .i64 0,.int .i64 0,.int .i64 0,.slice none 0 0,.string ⟨#[]⟩,.string ⟨#[]⟩,.int .i64 (p0:Int)]):=hid (by rw [hw];exact HX.out.set 0 _ rfl)
 rw [← hw]
 clear hw HX x0 x1 x2 x3 x4 x5 x6 x7 x8 f0
 have HR:=hid HS.out.rd
 refine (C0.out u0 HR).mono ?_
 rintro e z0 ⟨rfl,hr,hk⟩
 dsimp only
 have HX:=HS
 clear HS HR
 have HS:=hid (HX.out.call hr hk)
 clear hr hk HX
 obtain ⟨⟨x0,x1,x2,x3,x4,x5,x6,x7,x8⟩,xf⟩:=QAI HS.out.box;have f0:=xf 1;clear xf
 go_wp2_with fail
 obtain ⟨u1,hw⟩:∃ w',w' = z0.setCell ⟨A+1,1,none⟩ (.string (str v0)):=⟨_,rfl⟩
 have HX:=HS
 clear HS
 have HS:Hid (IB W u1 b g cap dv ts xb σ2 A #[.int .i64 6,.string (str v0),.int .i64 0,.int .i64 0,.int .i64 0,.slice none 0 0,.string ⟨#[]⟩,.string ⟨#[]⟩,.int .i64 (p0:Int)]):=hid (by rw [hw];exact HX.out.set 1 _ rfl)
 rw [← hw]
 clear hw HX x0 x1 x2 x3 x4 x5 x6 x7 x8 f0
 have HR:=hid HS.out.rd
 refine (C1.out u1 HR).mono ?_
 rintro e z1 ⟨rfl,hr,hk⟩
 dsimp only
 have HX:=HS
 clear HS HR
 have HS:=hid (HX.out.call hr hk)
 clear hr hk HX
 go_wp2_with fail
 rename_i K43 hK43
 refine mode43 b g cap dv ts xb σ3 σ4 v2 HG2 HH4 W z1 A (str v0) (p0:Int) none 0 0 [] (by omega) HS (hid (World.ownsRow_nil _ _ _ _)) _ (hid ?_)
 intros
 rename_i Y so' sc' hib hrow
 have HI0:Hid (∃ n,MdI W b g cap dv ts xb f st σ5 (str v0) (p0:Int) n (Y,A)):=hid ⟨f,[str v2],σ4,so',sc',Nat.le_refl _,HL.out,hib,hrow⟩
 clear hib hrow HS
 dsimp only
 refine hK43 _ _ ?_
 clear hK43
 go_wp2_with fail
 go_loopw [] (fun wr=>Hid (∃ n,MdI W b g cap dv ts xb f st σ5 (str v0) (p0:Int) n (wr,A))) (fun wr=>m (wr,A))
 case atStart=>exact HI0
 case round =>
  obtain ⟨hm1,hm2⟩:=HM.out _ hrel.out
  obtain ⟨acc,τ',so2,sc2,hnf,hrun,hib,hrow⟩:=hm1
  obtain ⟨nn,hmn⟩:∃ nn,nn = m (wr,A):=⟨_,rfl⟩
  rw [← hmn] at hnf hrun
  have HMN:=hid hmn
  obtain ⟨k,rfl,hacc,hcase⟩:=QGq hrun
  have HIB:=hid hib
  have HOW:=hid hrow
  have HR:=hid hib.rd
  have HNF:=hid hnf
  clear hrun hmn hm2 hrel hib hrow hnf HI0
  rcases hcase with ⟨hi,hrun2⟩ | ⟨hi,he⟩
  ·have TC:Hid (Calls Tryz.prog 26 #[.pointer (some ⟨b,0,none⟩),.string ⟨#[44]⟩] wr fun r Y=>RdRet b g cap dv ts xb wr (.bool true) (QA0 τ') r Y):=hid (QAN [44] hi wr HR)
   have HRUN:=hid hrun2
   clear hi hrun2
   go_wp2_with (go_at_call 26;(with_reducible refine TC.out.mono ?_);rintro e w1 ⟨rfl,hr,hk⟩;have HS1:=hid (HIB.out.call hr hk);have HO1:=hid (QAY HOW.out (by decide) HIB.out.hb hk);clear hr hk)
   refine mode45 b g cap dv ts xb (QA0 τ') (QA7 ts (QA0 τ')) (QAS ts (QA0 τ')) (hid rfl) (hid rfl) W w1 A (str v0) (p0:Int) so2 acc.length sc2 (acc.map .string) hacc HS1 HO1 _ (hid ?_)
   intros
   rename_i Y2 so3 sc3 hib3 hrow3
   have HI:MdI W b g cap dv ts xb f st σ5 (str v0) (p0:Int) k (Y2,A):=⟨acc ++ [str (QAS ts (QA0 τ'))],QA7 ts (QA0 τ'),so3,sc3,by have:=HNF.out;omega,HRUN.out,by rw [List.length_append,List.length_singleton];exact hib3,by rw [List.length_append,List.length_singleton,List.map_append];exact hrow3⟩
   have HI2:=hid HI
   clear hib3 hrow3 HI
   dsimp only
   go_wp2_with fail
   exact ⟨hid ⟨k,HI2.out⟩,by have h5:=(HM.out _ ⟨k,HI2.out⟩).2 k HI2.out;have h6:=HMN.out;omega⟩
  ·have TC:Hid (Calls Tryz.prog 26 #[.pointer (some ⟨b,0,none⟩),.string ⟨#[44]⟩] wr fun r Y=>RdRet b g cap dv ts xb wr (.bool false) τ' r Y):=hid (QA8 [44] hi wr HR)
   obtain ⟨rfl,rfl⟩:st = acc∧σ5 = τ':=by cases he;exact ⟨rfl,rfl⟩
   clear hi he
   go_wp2_with (first
    | (go_at_call 26;(with_reducible refine TC.out.mono ?_);rintro e w1 ⟨rfl,hr,hk⟩;have HS1:=hid (HIB.out.call hr hk);have HO1:=hid (QAY HOW.out (by decide) HIB.out.hb hk);have HR1:=hid hr;clear hr hk)
    | (go_at_call 27;(with_reducible refine (CE.out w1 HR1).mono ?_);rintro e w2 ⟨rfl,hr,hk⟩;have HS2:=hid (HS1.out.call hr hk);have HO2:=hid (QAY HO1.out (by decide) HIB.out.hb hk);clear hr hk))
   refine HK.out _ _ ?_
   rw [HQ.out]
   refine QCB b g cap dv ts xb σ6 τ HT W w2 A _ _ _ _ _ _ _ _ _ _ _ _ HS2 _ (hid ?_)
   intro Z Y hr hk hb hk0
   refine ⟨so2,_,sc2,rfl,hr,hk0,?_⟩
   have h1:=QAY HO2.out (by decide) HIB.out.hb hk
   exact QAG h1 fun j e=>hb.block j (by
    rintro rfl
    obtain ⟨_,cs,hc⟩:=QBD h1 e
    have hz:=hk.keep _ _ HS2.out.zero (by have:=HS2.out.hA;have:=HS2.out.hb;omega) (.of (by decide))
    rw [hz] at hc;cases hc) (h1.lt j e).2
end
section
open Go.RowKit Lx
set_option linter.unusedVariables false
def QCd (ts:List Tok) (f:Nat) (σ:RS):Option (Int × RS):=(QAh ts f .expr σ).map fun r=>(r.1,r.2.2)
theorem QAr {α:Type} {ts:List Tok} {f:Nat} {σ:RS} {k:Int × RS→Option α} {R:α} (h:(QCd ts f σ).bind k = some R):∃ v l τ,QAh ts f .expr σ = some (v,l,τ)∧k (v,τ) = some R:=by
 unfold QCd at h
 cases hr:QAh ts f .expr σ with
 | none=>rw [hr] at h;cases h
 | some r=>obtain ⟨v,l,τ⟩:=r;rw [hr] at h;exact ⟨v,l,τ,rfl,h⟩
def QHN (ts:List Tok) (i:It) (σ:RS):It × Bool × RS:=(i,decide ((QA3 ts [59] σ).code = 0),QA3 ts [59] σ)
def iLet (ts:List Tok) (f:Nat) (σ:RS):Option (It × Bool × RS):=(QCd ts f (QA3 ts [61] (QAv ts (QA3 ts [58] (QA7 ts (QA0 σ)))))).bind fun e1=>some (QHN ts { it0 with kind:=1,name:=str (QAS ts (QA0 σ)),type:=QBo ts (QA3 ts [58] (QA7 ts (QA0 σ))),e:=e1.1,pos:=((QA9 ts σ.at_).at_:Int) } e1.2)
def iDer (ts:List Tok) (f:Nat) (σ:RS):Option (It × Bool × RS):=(QCd ts f (QA3 ts [61] (QA7 ts (QA0 σ)))).bind fun e1=>(QCd ts f (QA3 ts [105,110,105,116] e1.2)).bind fun e2=>some (QHN ts { it0 with kind:=2,name:=str (QAS ts (QA0 σ)),e:=e1.1,f:=e2.1,pos:=((QA9 ts σ.at_).at_:Int) } e2.2)
def QJ0 (ts:List Tok) (f:Nat) (σ:RS):Option (It × Bool × RS):=(QCd ts f (QA3 ts [111,110] (QA7 ts (QA0 σ)))).bind fun e1=>(QCd ts f (QA3 ts [61] e1.2)).bind fun e2=>some (QHN ts { it0 with kind:=3,name:=str (QAS ts (QA0 σ)),e:=e2.1,f:=e1.1,pos:=((QA9 ts σ.at_).at_:Int) } e2.2)
def iMem (ts:List Tok) (f:Nat) (σ:RS):Option (It × Bool × RS):=(QCd ts f (QA3 ts [105,110,105,116] (QAv ts (QA3 ts [58] (QA7 ts (QA0 σ)))))).bind fun e1=>some (QHN ts { it0 with kind:=4,name:=str (QAS ts (QA0 σ)),type:=QBo ts (QA3 ts [58] (QA7 ts (QA0 σ))),e:=e1.1,pos:=((QA9 ts σ.at_).at_:Int) } e1.2)
def iOn (ts:List Tok) (f:Nat) (σ:RS):Option (It × Bool × RS):=(QCd ts f (QA0 σ)).bind fun e1=>(QCd ts f (QA3 ts [61] (QA7 ts (QA3 ts [115,101,116] e1.2)))).bind fun e2=>some (QHN ts { it0 with kind:=5,name:=str (QAS ts (QA3 ts [115,101,116] e1.2)),e:=e2.1,f:=e1.1,pos:=((QA9 ts σ.at_).at_:Int) } e2.2)
def QNO (ts:List Tok) (f:Nat) (σ:RS):Option (It × Bool × RS):=(QBV ts f [str (QAS ts (QA3 ts [123] (QA7 ts (QA0 σ))))] (QA7 ts (QA3 ts [123] (QA7 ts (QA0 σ))))).bind fun r=>some (QHN ts { it0 with kind:=6,name:=str (QAS ts (QA0 σ)),states:=r.1,pos:=((QA9 ts σ.at_).at_:Int) } (QA3 ts [125] r.2))
def QNN (ts:List Tok) (f:Nat) (σ:RS):Option (It × Bool × RS):=(QCd ts f (QA3 ts [111,110] (QA7 ts (QA3 ts [46] (QA7 ts (QA0 σ)))))).bind fun e1=>some (QHN ts { it0 with kind:=7,name:=str (QAS ts (QA0 σ)),f:=e1.1,state:=str (QAS ts (QA3 ts [46] (QA7 ts (QA0 σ)))),next:=str (QAS ts (QA3 ts [103,111,116,111] e1.2)),pos:=((QA9 ts σ.at_).at_:Int) } (QA7 ts (QA3 ts [103,111,116,111] e1.2)))
def iOut (ts:List Tok) (f:Nat) (σ:RS):Option (It × Bool × RS):=some (QHN ts { it0 with kind:=8,name:=str (QAS ts (QA0 σ)),pos:=((QA9 ts σ.at_).at_:Int) } (QA7 ts (QA0 σ)))
def QCO (ts:List Tok) (f:Nat) (all:Bool) (σ:RS):Option (It × Bool × RS) :=
 if isS ts [108,101,116] σ = true then iLet ts f σ else
 if all = true then
  if isS ts [100,101,114] σ = true then iDer ts f σ else
  if isS ts [114,101,115,101,116] σ = true then QJ0 ts f σ else
  if isS ts [109,101,109] σ = true then iMem ts f σ else
  if isS ts [111,110] σ = true then iOn ts f σ else
  if isS ts [109,111,100,101] σ = true then QNO ts f σ else
  if isS ts [102,114,111,109] σ = true then QNN ts f σ else
  if isS ts [111,117,116] σ = true then iOut ts f σ else
  some ({ it0 with pos:=((QA9 ts σ.at_).at_:Int) },false,σ)
 else some ({ it0 with pos:=((QA9 ts σ.at_).at_:Int) },false,σ)
theorem QJ2 (b g cap:Nat) (dv:Value) (ts:List Tok) (xb:Nat→Prop) (f:Nat) (all:Bool) (σ:RS) (x:It) (ok:Bool) (τ:RS) (hr:QCO ts f all σ = some (x,ok,τ)) (W:World) (h:Hid (Rd W b g cap dv ts xb σ)) :
  Calls Tryz.prog 59 #[.pointer (some ⟨b,0,none⟩),.bool all] W fun r Y=>QBJ b g cap dv ts xb W x ok τ r Y:=by
 unfold QCO at hr
 split at hr
 ·rename_i ht
  unfold iLet at hr
  obtain ⟨v4,l4,τ4,g4,hr⟩:=QAr hr
  cases hr
  exact QNW (f:=f) (all:=all) (hp:=rfl) (ht:=ht) (h1:=rfl) (g0:=rfl) (h2:=rfl) (h3:=rfl) (g2:=rfl) (h4:=rfl) (h5:=rfl) (g4:=g4) (hτ:=rfl) (W:=W) (h:=h)
 ·rename_i h0
  split at hr
  ·rename_i ha
   subst ha
   split at hr
   ·rename_i ht
    unfold iDer at hr
    obtain ⟨v2,l2,τ2,g2,hr⟩:=QAr hr
    obtain ⟨v4,l4,τ4,g4,hr⟩:=QAr hr
    cases hr
    exact QNV (f:=f) (hp:=rfl) (ht:=ht) (h1:=rfl) (g0:=rfl) (h2:=rfl) (h3:=rfl) (g2:=g2) (h5:=rfl) (g4:=g4) (hτ:=rfl) (W:=W) (h:=h)
   ·rename_i h1
    split at hr
    ·rename_i ht
     unfold QJ0 at hr
     obtain ⟨v2,l2,τ2,g2,hr⟩:=QAr hr
     obtain ⟨v4,l4,τ4,g4,hr⟩:=QAr hr
     cases hr
     exact QK6 (f:=f) (hp:=rfl) (ht:=ht) (h1:=rfl) (g0:=rfl) (h2:=rfl) (h3:=rfl) (g2:=g2) (h5:=rfl) (g4:=g4) (hτ:=rfl) (W:=W) (h:=h)
    ·rename_i h2
     split at hr
     ·rename_i ht
      unfold iMem at hr
      obtain ⟨v4,l4,τ4,g4,hr⟩:=QAr hr
      cases hr
      exact QNX (f:=f) (hp:=rfl) (ht:=ht) (h1:=rfl) (g0:=rfl) (h2:=rfl) (h3:=rfl) (g2:=rfl) (h4:=rfl) (h5:=rfl) (g4:=g4) (hτ:=rfl) (W:=W) (h:=h)
     ·rename_i h3
      split at hr
      ·rename_i ht
       unfold iOn at hr
       obtain ⟨v0,l0,τ0,g0,hr⟩:=QAr hr
       obtain ⟨v4,l4,τ4,g4,hr⟩:=QAr hr
       cases hr
       exact item_on (f:=f) (hp:=rfl) (ht:=ht) (h1:=rfl) (g0:=g0) (h3:=rfl) (g2:=rfl) (h4:=rfl) (h5:=rfl) (g4:=g4) (hτ:=rfl) (W:=W) (h:=h)
      ·rename_i h4
       split at hr
       ·rename_i ht
        unfold QNO at hr
        cases hl:QBV ts f [str (QAS ts (QA3 ts [123] (QA7 ts (QA0 σ))))] (QA7 ts (QA3 ts [123] (QA7 ts (QA0 σ)))) with
        | none=>rw [hl] at hr;cases hr
        | some r =>
         obtain ⟨st,σ5⟩:=r
         rw [hl] at hr
         cases hr
         exact QLp (f:=f) (hp:=rfl) (ht:=ht) (h1:=rfl) (g0:=rfl) (h2:=rfl) (h3:=rfl) (g2:=rfl) (h4:=rfl) (hl:=hl) (h6:=rfl) (hτ:=rfl) (W:=W) (h:=h)
       ·rename_i h5
        split at hr
        ·rename_i ht
         unfold QNN at hr
         obtain ⟨v4,l4,τ4,g4,hr⟩:=QAr hr
         cases hr
         exact QLo (f:=f) (hp:=rfl) (ht:=ht) (h1:=rfl) (g0:=rfl) (h2:=rfl) (h3:=rfl) (g2:=rfl) (h4:=rfl) (h5:=rfl) (g4:=g4) (h7:=rfl) (g6:=rfl) (h8:=rfl) (hτ:=rfl) (W:=W) (h:=h)
        ·rename_i h6
         split at hr
         ·rename_i ht
          unfold iOut at hr
          cases hr
          exact QNY (hp:=rfl) (ht:=ht) (h1:=rfl) (g0:=rfl) (h2:=rfl) (hτ:=rfl) (W:=W) (h:=h)
         ·rename_i h7
          cases hr
          exact QLq b g cap dv ts xb _ _ rfl (fun s hs=>by simp only [List.mem_cons,List.not_mem_nil,or_false] at hs;rcases hs with rfl | rfl | rfl | rfl | rfl | rfl | rfl | rfl <;> exact Bool.eq_false_iff.2 (by assumption)) W h
  ·rename_i ha
   have ha2:all = false:=by simpa using ha
   subst ha2
   cases hr
   exact QK5 b g cap dv ts xb _ _ rfl (fun s hs=>by simp only [List.mem_cons,List.not_mem_nil,or_false] at hs;subst hs;simpa using h0) W h
end
end Go.Proofs.YtknbghjoncomiaaGreat
