/- Joined: NmIn60, NmIn63, NmIn14, NmIn13, NmIn8, NmIn7. -/
import Derived.Test.YtknbghjoncomiaaGreatKB0
namespace Go.Proofs.YtknbghjoncomiaaGreat
variable {u0 u1 u2 u3 u4 u5 u6 u7 u8 u9 IG IE IF II ID IC GL GM H8 IA GN GO GK Ey Ez E4 E5 E6 E7 E8 Ek El Em En Eo Ep Eq Er Es EJ EK EL EM EO Et Eu Ev Ew EP EQ ER ET EU EV EW EX EY EZ Ea Eb Ec Ff Fg Fh EI Fi Fj Fr Fs Ft Fu Fv Fw Fx Fy Fz F2 F4 F5 F6 F7 F8 F9 GA GB GC GD GE GF GG Fk Fl Fm Fn Fo Fp Fq GH GI GJ AA AB AC AE AF AG AH AI AJ AK EH B3 B4 B5 B8 B9 CD CH CI CJ CK CM CQ CU CX DM DN DO DP DR DS DU DV DW DX DY DQ DZ Dm Do Dp Dq Dr Dt Du Da Db Dc Dd Df Dg Dh Di Dj Dk Dl CY CZ Ca Cb Cc Cd Ce Cf Cg Ch Ci Cj Ck Cl Cm Cn Co Cp Cq Cr Cs Ct Cu Cv Cw Cx Cy Cz DA DE DG DI DJ DK DL Dv Dw Dx Dy Dz D5 D8 D9 EA EB EC ED EE EF EG As At Au Av Aw Ay AR AS AU AV AW AX AY AZ Aa Ab Ac Ad Ae Af Ag Ah Ai Aj Ak Al Am An Ao Ap Aq Ar Az A3 A4 A5 A6 A7 A8 A9 BA BC BD BE BF BG BH BI BJ BK BM BN BO BP BQ BR BS BT BU BV BW BY BZ Ba Bb Bc Bd Be Bf Bg Bh Bi Bj Bk Bl Bm Bn Bo Bp Bq Br Bs Bt Bu Bv Bw Bx By Bz AL AM AN AO AP AQ:Value}
section
open Go.Lib (hid)
open Go.RowKit Lx Go.Shelf Go.Maps
attribute [local go_sem] Oper.semAt_some
set_option linter.unusedVariables false
def calB (p:Pr) (nm:ByteArray) (na:Nat):Bool:=match QBR p nm with
 | some z=>z.1.kind == 3 || ((z.1.params.length:Int) != (na:Int))
 | none=>true
set_option maxHeartbeats 16000000 in
set_option maxRecDepth 100000 in
theorem in60 (p:Pr) (hs:Hid (Small p)) (B E:Nat) (k:Int) (b0:Bool) (nm:ByteArray) (i1 i2 i3 i5 i6 i8 se:Value) (oa:Option Addr) (na ca:Nat) (nal:(na:Int)≤1000) (o1:Option Addr) (n c1 db doff:Nat) (nl:(n:Int)≤60) (T:TypeId)
  (Q:Exit→Act→World→Prop) (W:World) (hn:Hid (p.decls.length = n)) (hX:Hid (W.heap[E]? = some (.cells #[.int .i64 k,i1,i2,i3,.string nm,i5,i6,.slice oa na ca,i8] T (0,0)))) (hB:Hid (W.heap[B]? = some (.cells #[.slice o1 n c1,se] 26 (0,0)))) (hPA:Hid (ProgAt W (.slice o1 n c1) se p))
  (hd:Hid (0 < n→o1 = some ⟨db,doff,none⟩)) (hdc:Hid (∀ i,i < n→∀ x,p.decls[i]? = some x→DeAt W db (doff+i*7) x))
  (hK:Hid (∀ (J5 Io Ip Iq Ir Iu Iv Iw Iy Iz I0 I1 I2 I6 I7 I8 I9 JA JB JC JD JE JF JG JH JI JJ JK JL JM JN JO:Value) W',Below W.heap.size W W'→Q .normal ⟨[u0,.pointer (some ⟨B,0,none⟩),u2,u3,u4,u5,u6,u7,u8,u9,IG,IE,IF,II,ID,IC,GL,GM,.pointer (some ⟨E,0,none⟩),.bool (if k = 19 then calB p nm na else b0),GN,GO,J5,Ey,Ez,E4,E5,E6,E7,E8,Ek,El,Em,En,Eo,Ep,Eq,Er,Es,EJ,EK,EL,EM,EO,Et,Eu,Ev,Ew,EP,EQ,ER,ET,EU,EV,EW,EX,EY,EZ,Ea,Eb,Ec,Ff,Fg,Fh,EI,Fi,Fj,Fr,Fs,Ft,Fu,Fv,Fw,Fx,Fy,Fz,F2,F4,F5,F6,F7,F8,F9,GA,GB,GC,GD,GE,GF,GG,Fk,Fl,Fm,Fn,Fo,Fp,Fq,GH,GI,GJ,AA,AB,AC,AE,AF,AG,AH,AI,AJ,AK,EH,B3,B4,B5,B8,B9,CD,CH,CI,CJ,CK,CM,CQ,CU,CX,DM,DN,DO,DP,DR,DS,DU,DV,DW,DX,DY,DQ,DZ,Dm,Do,Dp,Dq,Dr,Dt,Du,Da,Db,Dc,Dd,Df,Dg,Dh,Di,Dj,Dk,Dl,CY,CZ,Ca,Cb,Cc,Cd,Ce,Cf,Cg,Ch,Ci,Cj,Ck,Cl,Cm,Cn,Co,Cp,Cq,Cr,Cs,Ct,Cu,Cv,Cw,Cx,Cy,Cz,DA,DE,DG,DI,DJ,DK,DL,Dv,Dw,Dx,Dy,Dz,D5,D8,D9,EA,EB,EC,ED,EE,EF,EG,As,At,Au,Av,Aw,Ay,AR,AS,AU,AV,AW,AX,AY,AZ,Aa,Ab,Ac,Ad,Ae,Af,Ag,Ah,Ai,Aj,Ak,Al,Am,An,Ao,Ap,Aq,Ar,Az,A3,A4,A5,A6,A7,A8,A9,BA,BC,BD,BE,BF,BG,BH,BI,BJ,BK,BM,BN,Io,Ip,Iq,Ir,Iu,Iv,Iw,Iy,Iz,I0,I1,I2,I6,I7,I8,I9,JA,JB,JC,JD,JE,JF,JG,JH,JI,JJ,JK,JL,JM,JN,JO,Bu,Bv,Bw,Bx,By,Bz,AL,AM,AN,AO,AP,AQ].toArray,[]⟩ W')) :
  (QKt Tryz.f9 60).wp Tryz.prog Q ⟨[u0,.pointer (some ⟨B,0,none⟩),u2,u3,u4,u5,u6,u7,u8,u9,IG,IE,IF,II,ID,IC,GL,GM,.pointer (some ⟨E,0,none⟩),.bool b0,GN,GO,GK,Ey,Ez,E4,E5,E6,E7,E8,Ek,El,Em,En,Eo,Ep,Eq,Er,Es,EJ,EK,EL,EM,EO,Et,Eu,Ev,Ew,EP,EQ,ER,ET,EU,EV,EW,EX,EY,EZ,Ea,Eb,Ec,Ff,Fg,Fh,EI,Fi,Fj,Fr,Fs,Ft,Fu,Fv,Fw,Fx,Fy,Fz,F2,F4,F5,F6,F7,F8,F9,GA,GB,GC,GD,GE,GF,GG,Fk,Fl,Fm,Fn,Fo,Fp,Fq,GH,GI,GJ,AA,AB,AC,AE,AF,AG,AH,AI,AJ,AK,EH,B3,B4,B5,B8,B9,CD,CH,CI,CJ,CK,CM,CQ,CU,CX,DM,DN,DO,DP,DR,DS,DU,DV,DW,DX,DY,DQ,DZ,Dm,Do,Dp,Dq,Dr,Dt,Du,Da,Db,Dc,Dd,Df,Dg,Dh,Di,Dj,Dk,Dl,CY,CZ,Ca,Cb,Cc,Cd,Ce,Cf,Cg,Ch,Ci,Cj,Ck,Cl,Cm,Cn,Co,Cp,Cq,Cr,Cs,Ct,Cu,Cv,Cw,Cx,Cy,Cz,DA,DE,DG,DI,DJ,DK,DL,Dv,Dw,Dx,Dy,Dz,D5,D8,D9,EA,EB,EC,ED,EE,EF,EG,As,At,Au,Av,Aw,Ay,AR,AS,AU,AV,AW,AX,AY,AZ,Aa,Ab,Ac,Ad,Ae,Af,Ag,Ah,Ai,Aj,Ak,Al,Am,An,Ao,Ap,Aq,Ar,Az,A3,A4,A5,A6,A7,A8,A9,BA,BC,BD,BE,BF,BG,BH,BI,BJ,BK,BM,BN,BO,BP,BQ,BR,BS,BT,BU,BV,BW,BY,BZ,Ba,Bb,Bc,Bd,Be,Bf,Bg,Bh,Bi,Bj,Bk,Bl,Bm,Bn,Bo,Bp,Bq,Br,Bs,Bt,Bu,Bv,Bw,Bx,By,Bz,AL,AM,AN,AO,AP,AQ].toArray,[]⟩ W:=by
 simp only [QKt,QAw,sq,Tryz.f9]
 simp only [Nat.reduceEqDiff,if_true,if_false]
 obtain ⟨d0,d1,d2,d3,d4,d5,d6,d7,d8⟩:=QB1 hX.out
 obtain ⟨g0,g1⟩:=QAA hB.out
 have DCL:=hid (QFL _ _ p nm W hPA.out hs.out)
 rw [QDd] at DCL
 by_cases hk:k = 19
 ·have qk:(k == 19) = true:=by simp [hk]
  rw [if_pos hk] at hK
  clear hk hX hB
  cases hc:QBR p nm with
  | none =>
   have e:calB p nm na = true:=by unfold calB;rw [hc]
   rw [e] at hK
   rw [hc] at DCL
   obtain ⟨m,hm⟩:∃ m:Int,m = -1:=⟨_,rfl⟩
   have DC2:Hid (Calls Tryz.prog 17 #[.agg #[.slice o1 n c1,se],.string nm] W fun r Y=>r = .returned (.int .i64 m)∧Below W.heap.size W Y):=by rw [hm];exact DCL
   have q0:m < (0:Int):=by omega
   clear hm e hc DCL
   go_wp2_with (go_at_call 17;(with_reducible refine DC2.out.mono ?_);rintro e w1 ⟨rfl,hb0⟩;have HB0:=hid hb0;clear hb0)
   go_quiet (fail)
   go_wp2_with fail
   exact hK.out _ _ _ _ _ _ _ _ _ _ _ _ _ _ _ _ _ _ _ _ _ _ _ _ _ _ _ _ _ _ _ _ _ (QAy HB0.out _)
  | some z =>
   obtain ⟨x,j⟩:=z
   have e:calB p nm na = (x.kind == 3 || ((x.params.length:Int) != (na:Int))):=by unfold calB;rw [hc]
   rw [e] at hK
   rw [hc] at DCL
   have hj:p.decls[j]? = some x:=List.mem_zipIdx_iff_getElem?.1 (List.mem_of_find?_eq_some hc)
   have hlt:j < n:=by have:=(List.getElem?_eq_some_iff.1 hj).1;have:=hn.out;omega
   have q0:decide ((j:Int) < (0:Int)) = false:=decide_eq_false (by omega)
   obtain ⟨op,capp,oi,capi,bi,offi,hok,e0,e1,e2,e3,e4,e5,e6,_,_⟩:=QGO (hdc.out j hlt x hj)
   have ix:=QCh (cap:=c1) hd.out hlt (by omega)
   unfold Ix at ix
   have DC2:Hid (Calls Tryz.prog 17 #[.agg #[.slice o1 n c1,se],.string nm] W fun r Y=>r = .returned (.int .i64 (j:Int))∧Below W.heap.size W Y):=DCL
   clear e hc DCL hj hok
   cases hk3:(x.kind == 3) with
   | true =>
    rw [hk3] at hK
    go_wp2_with (go_at_call 17;(with_reducible refine DC2.out.mono ?_);rintro e w1 ⟨rfl,hb0⟩;have HB0:=hid hb0;have G0:=QA1 hb0 g0;have D7:=QA1 hb0 d7;have E0:=QA1 hb0 e0;have E2:=QA1 hb0 e2;clear hb0 g0 g1 d0 d1 d2 d3 d4 d5 d6 d7 d8 e0 e1 e2 e3 e4 e5 e6)
    go_quiet (fail)
    exact hK.out _ _ _ _ _ _ _ _ _ _ _ _ _ _ _ _ _ _ _ _ _ _ _ _ _ _ _ _ _ _ _ _ _ (QAy HB0.out _)
   | false =>
    rw [hk3] at hK
    go_wp2_with (go_at_call 17;(with_reducible refine DC2.out.mono ?_);rintro e w1 ⟨rfl,hb0⟩;have HB0:=hid hb0;have G0:=QA1 hb0 g0;have D7:=QA1 hb0 d7;have E0:=QA1 hb0 e0;have E2:=QA1 hb0 e2;clear hb0 g0 g1 d0 d1 d2 d3 d4 d5 d6 d7 d8 e0 e1 e2 e3 e4 e5 e6)
    go_quiet (fail)
    exact hK.out _ _ _ _ _ _ _ _ _ _ _ _ _ _ _ _ _ _ _ _ _ _ _ _ _ _ _ _ _ _ _ _ _ (QAy HB0.out _)
 ·have qk:(k == 19) = false:=by simp [hk]
  rw [if_neg hk] at hK
  clear hk hX hB
  go_wp2_with fail
  exact hK.out _ _ _ _ _ _ _ _ _ _ _ _ _ _ _ _ _ _ _ _ _ _ _ _ _ _ _ _ _ _ _ _ _ (Below.refl _ _)
end
section
open Go.Lib (hid)
open Go.RowKit Lx Go.Shelf Go.Maps
attribute [local go_sem] Oper.semAt_some
set_option maxHeartbeats 16000000
set_option maxRecDepth 100000 in
theorem in63 (p:Pr) (hs:Hid (Small p)) (E:Nat) (b:Bool) (v0:Value) (P:Int→Prop) (hP:Hid (∀ a,P a→a∈QDC p)) (pos:Int) (i0 i1 i2 i3 i4 i5 i6 i7:Value) (T:TypeId)
  (Q:Exit→Act→World→Prop) (W:World) (hX:Hid (W.heap[E]? = some (.cells #[i0,i1,i2,i3,i4,i5,i6,i7,.int .i64 pos] T (0,0)))) (hF:Hid (FlGot W v0 P))
  (hK:Hid (∀ (v3 JP JQ JR JS JT JU:Value) W',FlGot W' v3 (fun a=>P a∨(b = true∧a = pos))→Below W.heap.size W W'→Q .normal ⟨[u0,u1,u2,v3,u4,u5,u6,u7,u8,u9,IG,IE,IF,II,ID,IC,GL,GM,.pointer (some ⟨E,0,none⟩),.bool b,GN,GO,GK,Ey,Ez,E4,E5,E6,E7,E8,Ek,El,Em,En,Eo,Ep,Eq,Er,Es,EJ,EK,EL,EM,EO,Et,Eu,Ev,Ew,EP,EQ,ER,ET,EU,EV,EW,EX,EY,EZ,Ea,Eb,Ec,Ff,Fg,Fh,EI,Fi,Fj,Fr,Fs,Ft,Fu,Fv,Fw,Fx,Fy,Fz,F2,F4,F5,F6,F7,F8,F9,GA,GB,GC,GD,GE,GF,GG,Fk,Fl,Fm,Fn,Fo,Fp,Fq,GH,GI,GJ,AA,AB,AC,AE,AF,AG,AH,AI,AJ,AK,EH,B3,B4,B5,B8,B9,CD,CH,CI,CJ,CK,CM,CQ,CU,CX,DM,DN,DO,DP,DR,DS,DU,DV,DW,DX,DY,DQ,DZ,Dm,Do,Dp,Dq,Dr,Dt,Du,Da,Db,Dc,Dd,Df,Dg,Dh,Di,Dj,Dk,Dl,CY,CZ,Ca,Cb,Cc,Cd,Ce,Cf,Cg,Ch,Ci,Cj,Ck,Cl,Cm,Cn,Co,Cp,Cq,Cr,Cs,Ct,Cu,Cv,Cw,Cx,Cy,Cz,DA,DE,DG,DI,DJ,DK,DL,Dv,Dw,Dx,Dy,Dz,D5,D8,D9,EA,EB,EC,ED,EE,EF,EG,As,At,Au,Av,Aw,Ay,AR,AS,AU,AV,AW,AX,AY,AZ,Aa,Ab,Ac,Ad,Ae,Af,Ag,Ah,Ai,Aj,Ak,Al,Am,An,Ao,Ap,Aq,Ar,Az,A3,A4,A5,A6,A7,A8,A9,BA,BC,BD,BE,BF,BG,BH,BI,BJ,BK,BM,BN,BO,BP,BQ,BR,BS,BT,BU,BV,BW,BY,BZ,Ba,Bb,Bc,Bd,Be,Bf,Bg,Bh,Bi,Bj,Bk,Bl,Bm,Bn,Bo,Bp,Bq,Br,Bs,Bt,JP,JQ,JR,JS,JT,JU,AL,AM,AN,AO,AP,AQ].toArray,[]⟩ W')) :
  (QKt Tryz.f9 63).wp Tryz.prog Q ⟨[u0,u1,u2,v0,u4,u5,u6,u7,u8,u9,IG,IE,IF,II,ID,IC,GL,GM,.pointer (some ⟨E,0,none⟩),.bool b,GN,GO,GK,Ey,Ez,E4,E5,E6,E7,E8,Ek,El,Em,En,Eo,Ep,Eq,Er,Es,EJ,EK,EL,EM,EO,Et,Eu,Ev,Ew,EP,EQ,ER,ET,EU,EV,EW,EX,EY,EZ,Ea,Eb,Ec,Ff,Fg,Fh,EI,Fi,Fj,Fr,Fs,Ft,Fu,Fv,Fw,Fx,Fy,Fz,F2,F4,F5,F6,F7,F8,F9,GA,GB,GC,GD,GE,GF,GG,Fk,Fl,Fm,Fn,Fo,Fp,Fq,GH,GI,GJ,AA,AB,AC,AE,AF,AG,AH,AI,AJ,AK,EH,B3,B4,B5,B8,B9,CD,CH,CI,CJ,CK,CM,CQ,CU,CX,DM,DN,DO,DP,DR,DS,DU,DV,DW,DX,DY,DQ,DZ,Dm,Do,Dp,Dq,Dr,Dt,Du,Da,Db,Dc,Dd,Df,Dg,Dh,Di,Dj,Dk,Dl,CY,CZ,Ca,Cb,Cc,Cd,Ce,Cf,Cg,Ch,Ci,Cj,Ck,Cl,Cm,Cn,Co,Cp,Cq,Cr,Cs,Ct,Cu,Cv,Cw,Cx,Cy,Cz,DA,DE,DG,DI,DJ,DK,DL,Dv,Dw,Dx,Dy,Dz,D5,D8,D9,EA,EB,EC,ED,EE,EF,EG,As,At,Au,Av,Aw,Ay,AR,AS,AU,AV,AW,AX,AY,AZ,Aa,Ab,Ac,Ad,Ae,Af,Ag,Ah,Ai,Aj,Ak,Al,Am,An,Ao,Ap,Aq,Ar,Az,A3,A4,A5,A6,A7,A8,A9,BA,BC,BD,BE,BF,BG,BH,BI,BJ,BK,BM,BN,BO,BP,BQ,BR,BS,BT,BU,BV,BW,BY,BZ,Ba,Bb,Bc,Bd,Be,Bf,Bg,Bh,Bi,Bj,Bk,Bl,Bm,Bn,Bo,Bp,Bq,Br,Bs,Bt,Bu,Bv,Bw,Bx,By,Bz,AL,AM,AN,AO,AP,AQ].toArray,[]⟩ W:=by
 simp only [QKt,QAw,sq,Tryz.f9]
 simp only [Nat.reduceEqDiff,if_true,if_false]
 obtain ⟨d0,d1,d2,d3,d4,d5,d6,d7,d8⟩:=QB1 hX.out
 have AD:Hid (∀ W,FlGot W v0 P→_):=hid (fun W h=>QCl hs.out hP.out v0 pos W h)
 clear hX d0 d1 d2 d3 d4 d5 d6 d7
 cases b with
 | true =>
  go_wp2_with (go_at_call 18;(with_reducible refine (AD.out _ hF.out).mono ?_);rintro e w2 ⟨v1,rfl,hG1,hb1⟩;have HG1:=hid hG1;have HB1:=hid hb1;clear hG1 hb1)
  exact hK.out v1 _ _ _ _ _ _ _ (HG1.out.ext fun a=>by simp) HB1.out
 | false =>
  go_wp2_with fail
  exact hK.out v0 _ _ _ _ _ _ _ (hF.out.ext fun a=>by simp) (Below.refl _ _)
set_option maxRecDepth 100000 in
theorem in46 (p:Pr) (hs:Hid (Small p)) (E:Nat) (b:Bool) (v0:Value) (P:Int→Prop) (hP:Hid (∀ a,P a→a∈QDC p)) (pos:Int) (i0 i1 i2 i3 i4 i5 i6 i7:Value) (T:TypeId)
  (Q:Exit→Act→World→Prop) (W:World) (hX:Hid (W.heap[E]? = some (.cells #[i0,i1,i2,i3,i4,i5,i6,i7,.int .i64 pos] T (0,0)))) (hF:Hid (FlGot W v0 P))
  (hK:Hid (∀ (v3 IN IO IP IQ IR IT:Value) W',FlGot W' v3 (fun a=>P a∨(b = true∧a = pos))→Below W.heap.size W W'→Q .normal ⟨[u0,u1,u2,v3,u4,u5,u6,u7,u8,u9,.pointer (some ⟨E,0,none⟩),IE,IF,.bool b,ID,IC,GL,GM,H8,IA,GN,GO,GK,Ey,Ez,E4,E5,E6,E7,E8,Ek,El,Em,En,Eo,Ep,Eq,Er,Es,EJ,EK,EL,EM,EO,Et,Eu,Ev,Ew,EP,EQ,ER,ET,EU,EV,EW,EX,EY,EZ,Ea,Eb,Ec,Ff,Fg,Fh,EI,Fi,Fj,Fr,Fs,Ft,Fu,Fv,Fw,Fx,Fy,Fz,F2,F4,F5,F6,F7,F8,F9,GA,GB,GC,GD,GE,GF,GG,Fk,Fl,Fm,Fn,Fo,Fp,Fq,GH,GI,GJ,AA,AB,AC,AE,AF,AG,AH,AI,AJ,AK,EH,B3,B4,B5,B8,B9,CD,CH,CI,CJ,CK,CM,CQ,CU,CX,DM,DN,DO,DP,DR,DS,DU,DV,DW,DX,DY,DQ,DZ,Dm,Do,Dp,Dq,Dr,Dt,Du,Da,Db,Dc,Dd,Df,Dg,Dh,Di,Dj,Dk,Dl,CY,CZ,Ca,Cb,Cc,Cd,Ce,Cf,Cg,Ch,Ci,Cj,Ck,Cl,Cm,Cn,Co,Cp,Cq,Cr,Cs,Ct,Cu,Cv,Cw,Cx,Cy,Cz,DA,DE,DG,DI,DJ,DK,DL,Dv,Dw,Dx,Dy,Dz,D5,D8,D9,EA,EB,EC,ED,EE,EF,EG,IN,IO,IP,IQ,IR,IT,AR,AS,AU,AV,AW,AX,AY,AZ,Aa,Ab,Ac,Ad,Ae,Af,Ag,Ah,Ai,Aj,Ak,Al,Am,An,Ao,Ap,Aq,Ar,Az,A3,A4,A5,A6,A7,A8,A9,BA,BC,BD,BE,BF,BG,BH,BI,BJ,BK,BM,BN,BO,BP,BQ,BR,BS,BT,BU,BV,BW,BY,BZ,Ba,Bb,Bc,Bd,Be,Bf,Bg,Bh,Bi,Bj,Bk,Bl,Bm,Bn,Bo,Bp,Bq,Br,Bs,Bt,Bu,Bv,Bw,Bx,By,Bz,AL,AM,AN,AO,AP,AQ].toArray,[]⟩ W')) :
  (QKt Tryz.f9 46).wp Tryz.prog Q ⟨[u0,u1,u2,v0,u4,u5,u6,u7,u8,u9,.pointer (some ⟨E,0,none⟩),IE,IF,.bool b,ID,IC,GL,GM,H8,IA,GN,GO,GK,Ey,Ez,E4,E5,E6,E7,E8,Ek,El,Em,En,Eo,Ep,Eq,Er,Es,EJ,EK,EL,EM,EO,Et,Eu,Ev,Ew,EP,EQ,ER,ET,EU,EV,EW,EX,EY,EZ,Ea,Eb,Ec,Ff,Fg,Fh,EI,Fi,Fj,Fr,Fs,Ft,Fu,Fv,Fw,Fx,Fy,Fz,F2,F4,F5,F6,F7,F8,F9,GA,GB,GC,GD,GE,GF,GG,Fk,Fl,Fm,Fn,Fo,Fp,Fq,GH,GI,GJ,AA,AB,AC,AE,AF,AG,AH,AI,AJ,AK,EH,B3,B4,B5,B8,B9,CD,CH,CI,CJ,CK,CM,CQ,CU,CX,DM,DN,DO,DP,DR,DS,DU,DV,DW,DX,DY,DQ,DZ,Dm,Do,Dp,Dq,Dr,Dt,Du,Da,Db,Dc,Dd,Df,Dg,Dh,Di,Dj,Dk,Dl,CY,CZ,Ca,Cb,Cc,Cd,Ce,Cf,Cg,Ch,Ci,Cj,Ck,Cl,Cm,Cn,Co,Cp,Cq,Cr,Cs,Ct,Cu,Cv,Cw,Cx,Cy,Cz,DA,DE,DG,DI,DJ,DK,DL,Dv,Dw,Dx,Dy,Dz,D5,D8,D9,EA,EB,EC,ED,EE,EF,EG,As,At,Au,Av,Aw,Ay,AR,AS,AU,AV,AW,AX,AY,AZ,Aa,Ab,Ac,Ad,Ae,Af,Ag,Ah,Ai,Aj,Ak,Al,Am,An,Ao,Ap,Aq,Ar,Az,A3,A4,A5,A6,A7,A8,A9,BA,BC,BD,BE,BF,BG,BH,BI,BJ,BK,BM,BN,BO,BP,BQ,BR,BS,BT,BU,BV,BW,BY,BZ,Ba,Bb,Bc,Bd,Be,Bf,Bg,Bh,Bi,Bj,Bk,Bl,Bm,Bn,Bo,Bp,Bq,Br,Bs,Bt,Bu,Bv,Bw,Bx,By,Bz,AL,AM,AN,AO,AP,AQ].toArray,[]⟩ W:=by
 simp only [QKt,QAw,sq,Tryz.f9]
 simp only [Nat.reduceEqDiff,if_true,if_false]
 obtain ⟨d0,d1,d2,d3,d4,d5,d6,d7,d8⟩:=QB1 hX.out
 have AD:Hid (∀ W,FlGot W v0 P→_):=hid (fun W h=>QCl hs.out hP.out v0 pos W h)
 clear hX d0 d1 d2 d3 d4 d5 d6 d7
 cases b with
 | true =>
  go_wp2_with (go_at_call 18;(with_reducible refine (AD.out _ hF.out).mono ?_);rintro e w2 ⟨v1,rfl,hG1,hb1⟩;have HG1:=hid hG1;have HB1:=hid hb1;clear hG1 hb1)
  exact hK.out v1 _ _ _ _ _ _ _ (HG1.out.ext fun a=>by simp) HB1.out
 | false =>
  go_wp2_with fail
  exact hK.out v0 _ _ _ _ _ _ _ (hF.out.ext fun a=>by simp) (Below.refl _ _)
def QMw (d:De) (nm:ByteArray) (w:World) (e:Ending) (w' : World):Prop:=∃ (n0:ByteArray) (s t x:Int) (ok:Bool),e = .returned (.tuple #[.agg #[.string n0,.int .i64 s,.int .i64 t,.int .i64 x],.bool ok])∧s = (QAd d nm).sort∧x = (QAd d nm).index∧ok = okV d nm∧Below w.heap.size w w'
theorem QHe (v0:Value) (d:De) (nm:ByteArray) (w:World) (h:DeVal w v0 d) (h1:d.params.length≤600) (h2:d.items.length≤600) :
  Calls Tryz.prog 19 #[v0,.string nm] w fun e w'=>QMw d nm w e w' :=
 (QG3 v0 d nm w h h1 h2).mono fun e w' ⟨h3,h4⟩=>by
  unfold QMw QAd okV
  cases hf:(QAV d).find? (fun y=>decide (y.name = nm)) with
  | none=>rw [hf] at h3;exact ⟨_,_,_,_,_,h3,rfl,rfl,rfl,h4⟩
  | some x=>rw [hf] at h3;exact ⟨_,_,_,_,_,h3,rfl,rfl,rfl,h4⟩
end
section
open Go.Lib (hid)
open Go.RowKit Lx Go.Shelf Go.Maps
attribute [local go_sem] Oper.semAt_some
set_option linter.unusedVariables false
set_option maxHeartbeats 16000000
theorem QMN (p:Pr) (d:De) (x:Ex):refE p d x = (if x.kind = 19 then calB p x.name x.args.length else if x.kind = 20 then !QBX d x.name x.state else if x.kind = 3 then !okV d x.name || (QAd d x.name).sort == 5 else false):=by
 unfold refE calB
 rfl
set_option maxRecDepth 100000 in
theorem in14 (p:Pr) (hs:Hid (Small p)) (d:De) (B D e g:Nat) (S:Nat→Bool) (x:Ex) (hx:Hid (p.exprs[e]? = some x)) (v0:Value) (P:Int→Prop) (hP:Hid (∀ a,P a→a∈QDC p)) (hpx:Hid (x.pos∈QDC p))
  (o1 o2:Option Addr) (n c1 ne c2 db doff xb xoff:Nat) (nl:(n:Int)≤60) (nel:(ne:Int)≤300) (hlt:e < ne) (hn:Hid (p.decls.length = n)) (hd:Hid (0 < n→o1 = some ⟨db,doff,none⟩)) (he:Hid (0 < ne→o2 = some ⟨xb,xoff,none⟩))
  (g0 g1 g2 g3 g4 g5 g6:Value) (h1:d.params.length≤600) (h2:d.items.length≤600) (h3:Hid (∀ x∈d.items,x.states.length≤1000))
  (Q:Exit→Act→World→Prop) (W:World) (hdc:Hid (∀ i,i < n→∀ x,p.decls[i]? = some x→DeAt W db (doff+i*7) x)) (hB:Hid (W.heap[B]? = some (.cells #[.slice o1 n c1,.slice o2 ne c2] 26 (0,0)))) (hPA:Hid (ProgAt W (.slice o1 n c1) (.slice o2 ne c2) p)) (hXA:Hid (ExAt W xb (xoff+e*9) x))
  (hD:Hid (W.heap[D]? = some (.cells #[g0,g1,g2,g3,g4,g5,g6] 36 (0,0)))) (hDV:Hid (DeVal W (.agg #[g0,g1,g2,g3,g4,g5,g6]) d)) (hS:Hid (BoolRow W g ne S)) (hF:Hid (FlGot W v0 P))
  (hK:Hid (∀ (v3 KB KC Jy Jz J5 Jg Jh Ji Jj Jk Jl Jm Jn Jo Jp Jq Jr Js Jt Ju Jv Jw IU IV IW IX IY IZ Ia Ib Ic Id Ie If Ig Ih Ii Ij Ik Il Im In Io Ip Iq Ir Iu Iv Iw Iy Iz I0 I1 I2 I6 I7 I8 I9 JA JB JC JD JE JF JG JH JI JJ JK JL JM JN JO JP JQ JR JS JT JU:Value) W',FlGot W' v3 (fun a=>P a∨(S e = true∧refE p d x = true∧a = x.pos))→Below W.heap.size W W'→Q .normal ⟨[u0,.pointer (some ⟨B,0,none⟩),u2,v3,u4,u5,.pointer (some ⟨D,0,none⟩),u7,u8,u9,IG,IE,IF,II,ID,IC,.slice (some ⟨g,0,none⟩) ne ne,.int .i64 (e:Int),KB,KC,Jy,Jz,J5,Ey,Ez,E4,E5,E6,E7,E8,Ek,El,Em,En,Eo,Ep,Eq,Er,Es,EJ,EK,EL,EM,EO,Et,Eu,Ev,Ew,EP,EQ,ER,ET,EU,EV,EW,EX,EY,EZ,Ea,Eb,Ec,Ff,Fg,Fh,EI,Fi,Fj,Fr,Fs,Ft,Fu,Fv,Fw,Fx,Fy,Fz,F2,F4,F5,F6,F7,F8,F9,GA,GB,GC,GD,GE,GF,GG,Fk,Fl,Fm,Fn,Fo,Fp,Fq,GH,GI,GJ,AA,AB,AC,AE,AF,AG,AH,AI,AJ,AK,EH,B3,B4,B5,B8,B9,CD,CH,CI,CJ,CK,CM,CQ,CU,CX,DM,DN,DO,DP,DR,DS,DU,DV,DW,DX,DY,DQ,DZ,Dm,Do,Dp,Dq,Dr,Dt,Du,Da,Db,Dc,Dd,Df,Dg,Dh,Di,Dj,Dk,Dl,CY,CZ,Ca,Cb,Cc,Cd,Ce,Cf,Cg,Ch,Ci,Cj,Ck,Cl,Cm,Cn,Co,Cp,Cq,Cr,Cs,Ct,Cu,Cv,Cw,Cx,Cy,Cz,DA,DE,DG,DI,DJ,DK,DL,Dv,Dw,Dx,Dy,Dz,D5,D8,D9,EA,EB,EC,ED,EE,EF,EG,As,At,Au,Av,Aw,Ay,AR,AS,AU,AV,AW,AX,AY,AZ,Aa,Jg,Jh,Ji,Jj,Jk,Jl,Jm,Jn,Jo,Jp,Jq,Jr,Js,Jt,Ju,Jv,Jw,IU,IV,IW,IX,IY,IZ,Ia,Ib,Ic,Id,Ie,If,Ig,Ih,Ii,Ij,Ik,Il,Im,In,Io,Ip,Iq,Ir,Iu,Iv,Iw,Iy,Iz,I0,I1,I2,I6,I7,I8,I9,JA,JB,JC,JD,JE,JF,JG,JH,JI,JJ,JK,JL,JM,JN,JO,JP,JQ,JR,JS,JT,JU,AL,AM,AN,AO,AP,AQ].toArray,[]⟩ W')) :
  (QB6 Tryz.f9 14).wp Tryz.prog Q ⟨[u0,.pointer (some ⟨B,0,none⟩),u2,v0,u4,u5,.pointer (some ⟨D,0,none⟩),u7,u8,u9,IG,IE,IF,II,ID,IC,.slice (some ⟨g,0,none⟩) ne ne,.int .i64 (e:Int),H8,IA,GN,GO,GK,Ey,Ez,E4,E5,E6,E7,E8,Ek,El,Em,En,Eo,Ep,Eq,Er,Es,EJ,EK,EL,EM,EO,Et,Eu,Ev,Ew,EP,EQ,ER,ET,EU,EV,EW,EX,EY,EZ,Ea,Eb,Ec,Ff,Fg,Fh,EI,Fi,Fj,Fr,Fs,Ft,Fu,Fv,Fw,Fx,Fy,Fz,F2,F4,F5,F6,F7,F8,F9,GA,GB,GC,GD,GE,GF,GG,Fk,Fl,Fm,Fn,Fo,Fp,Fq,GH,GI,GJ,AA,AB,AC,AE,AF,AG,AH,AI,AJ,AK,EH,B3,B4,B5,B8,B9,CD,CH,CI,CJ,CK,CM,CQ,CU,CX,DM,DN,DO,DP,DR,DS,DU,DV,DW,DX,DY,DQ,DZ,Dm,Do,Dp,Dq,Dr,Dt,Du,Da,Db,Dc,Dd,Df,Dg,Dh,Di,Dj,Dk,Dl,CY,CZ,Ca,Cb,Cc,Cd,Ce,Cf,Cg,Ch,Ci,Cj,Ck,Cl,Cm,Cn,Co,Cp,Cq,Cr,Cs,Ct,Cu,Cv,Cw,Cx,Cy,Cz,DA,DE,DG,DI,DJ,DK,DL,Dv,Dw,Dx,Dy,Dz,D5,D8,D9,EA,EB,EC,ED,EE,EF,EG,As,At,Au,Av,Aw,Ay,AR,AS,AU,AV,AW,AX,AY,AZ,Aa,Ab,Ac,Ad,Ae,Af,Ag,Ah,Ai,Aj,Ak,Al,Am,An,Ao,Ap,Aq,Ar,Az,A3,A4,A5,A6,A7,A8,A9,BA,BC,BD,BE,BF,BG,BH,BI,BJ,BK,BM,BN,BO,BP,BQ,BR,BS,BT,BU,BV,BW,BY,BZ,Ba,Bb,Bc,Bd,Be,Bf,Bg,Bh,Bi,Bj,Bk,Bl,Bm,Bn,Bo,Bp,Bq,Br,Bs,Bt,Bu,Bv,Bw,Bx,By,Bz,AL,AM,AN,AO,AP,AQ].toArray,[]⟩ W:=by
 simp only [QB6,QAw,blk,Tryz.f9]
 simp only [Nat.reduceEqDiff,if_true,if_false]
 obtain ⟨s0,s1⟩:=hS.out.cell hlt
 have ixb:=QEi (g:=g) hlt (by omega)
 have ixe:=QHP (cap:=c2) he.out hlt (by omega)
 unfold Ix at ixb ixe
 simp only [Nat.mul_one,Nat.zero_add] at ixb
 cases hSe:S e with
 | false =>
  rw [hSe] at s0
  have hK2:=hK.out v0
  go_wp2_with fail
  exact hK2 _ _ _ _ _ _ _ _ _ _ _ _ _ _ _ _ _ _ _ _ _ _ _ _ _ _ _ _ _ _ _ _ _ _ _ _ _ _ _ _ _ _ _ _ _ _ _ _ _ _ _ _ _ _ _ _ _ _ _ _ _ _ _ _ _ _ _ _ _ _ _ _ _ _ _ _ _ _ _ _ (hF.out.ext fun a=>by simp [hSe]) (Below.refl _ _)
 | true =>
  rw [hSe] at s0
  obtain ⟨oa,capa,hia,hxok,e0,e1,e2,e3,e4,e5,e6,e7,e8⟩:=QIw hXA.out
  obtain ⟨p0,p1⟩:=QAA hB.out
  obtain ⟨z0,z1,z2,z3,z4,z5,z6⟩:=QBt hD.out
  have hal:(x.args.length:Int)≤1000:=by
   have h:=hs.out.ex x (List.mem_of_getElem? hx.out)
   unfold wEx at h
   omega
  have hwd:=hs.out
  obtain ⟨XB,hXB⟩:∃ XB,XB = Obj.cells #[.int .i64 x.kind,.int .i64 x.a,.int .i64 x.b,.int .i64 x.c,.string x.name,.string x.state,.int .i64 x.v,.slice oa x.args.length capa,.int .i64 x.pos] 54 (0,0):=⟨_,rfl⟩
  have HXB:=hid hXB
  have H1:Hid (Below W.heap.size W (W.alloc XB)∧(W.alloc XB).heap[W.heap.size]? = some XB):=hid ⟨QA5 (Below.refl W.heap.size W) _,QAR rfl⟩
  rw [hXB] at H1
  have hrE:=QMN p d x
  rw [hrE] at hK
  clear hrE hwd hia hxok hx
  have HKK:=hid hXA
  clear hXA HKK
  go_upto_region 55 with fail
  rw [← hXB] at H1 ⊢
  obtain ⟨W1,hW1⟩:∃ W1,W1 = W.alloc XB:=⟨_,rfl⟩
  obtain ⟨E,hE⟩:∃ E,E = W.heap.size:=⟨_,rfl⟩
  rw [← hW1,← hE] at H1 ⊢
  have hb1:Below W.heap.size W W1:=by rw [hW1];exact QA5 (Below.refl W.heap.size W) _
  have hEB:W1.heap[E]? = some XB:=H1.out.2
  rw [HXB.out] at hEB
  obtain ⟨y0,y1,y2,y3,y4,y5,y6,y7,y8⟩:=QB1 hEB
  have HB1:=hid hb1
  have HEB:=hid hEB
  have hD1:Hid (W1.heap[D]? = some (.cells #[g0,g1,g2,g3,g4,g5,g6] 36 (0,0))):=hid ((hb1.block D (lt_of_heap hD.out)).trans hD.out)
  have hB1:Hid (W1.heap[B]? = some (.cells #[.slice o1 n c1,.slice o2 ne c2] 26 (0,0))):=hid ((hb1.block B (lt_of_heap hB.out)).trans hB.out)
  have hDV1:=hid (hDV.out.below hb1)
  have hPA1:=hid (hPA.out.below hb1)
  have hF1:=hid (hF.out.below hb1)
  have hdc1:Hid (∀ i,i < n→∀ x,p.decls[i]? = some x→DeAt W1 db (doff+i*7) x):=hid fun i hi y hy=>(hdc.out i hi y hy).below hb1
  clear e0 e1 e2 e3 e4 e5 e6 e7 e8 p0 p1 z0 z1 z2 z3 z4 z5 z6 s0 s1 ixb ixe hW1 hE hEB hXB H1 hD hB hDV hPA hF hdc hS hb1
  obtain ⟨z0,z1,z2,z3,z4,z5,z6⟩:=QBt hD1.out
  have FT:=hid (QHe _ d x.name W1 hDV1.out h1 h2)
  unfold QMw at FT
  go_cut [20,21] from 231 to 237 (fun Jy Jz wx=>∃ (V:Nat) (ok:Bool) (s:Int) (j0 j2 j3:Value),Jy = .pointer (some ⟨V,0,none⟩)∧Jz = .bool ok∧Hid (s = (QAd d x.name).sort)∧Hid (ok = okV d x.name)∧Hid (Below W1.heap.size W1 wx)∧Hid (wx.heap[V]? = some (.cells #[j0,.int .i64 s,j2,j3] 67 (0,0))))
  case first =>
   go_wp2_with (go_at_call 19;(with_reducible refine FT.out.mono ?_);rintro e w1 ⟨n0,s,t,xx,ok,rfl,hs1,hx1,hok1,hb1⟩;have HS1:=hid hs1;have HO1:=hid hok1;have HB2:=hid hb1;clear hs1 hx1 hok1 hb1)
   go_meet
   case rel=>exact ⟨w1.heap.size,ok,s,_,_,_,rfl,rfl,HS1,HO1,hid (QA5 HB2.out _),hid (QAR rfl)⟩
  case rest =>
   obtain ⟨V,ok,s,j0,j2,j3,rfl,rfl,HS1,HO1,HB2,HV⟩:=hcut
   clear FT z0 z1 z2 z3 z4 z5 z6 y0 y1 y2 y3 y4 y5 y6 y7 y8
   have hE2:=hid ((HB2.out.block E (lt_of_heap HEB.out)).trans HEB.out)
   have hD2:=hid ((HB2.out.block D (lt_of_heap hD1.out)).trans hD1.out)
   have hB2:=hid ((HB2.out.block B (lt_of_heap hB1.out)).trans hB1.out)
   have hDV2:=hid (hDV1.out.below HB2.out)
   have hPA2:=hid (hPA1.out.below HB2.out)
   have hF2:=hid (hF1.out.below HB2.out)
   have hdc2:Hid (∀ i,i < n→∀ x,p.decls[i]? = some x→DeAt wc db (doff+i*7) x):=hid fun i hi y hy=>(hdc1.out i hi y hy).below HB2.out
   have HB3:=hid (HB1.out.trans (HB2.out.mono HB1.out.size))
   go_step
   refine wp_seq_k fun K1 hK1=>?_
   refine in56 (E:=E) (V:=V) (k:=x.kind) (s:=s) (ok:=ok) (b0:=false) (T:=54) (T2:=67) (W:=wc) (hX:=hE2) (hV:=HV) (hK:=hid ?_)
   intros
   dsimp only
   refine hK1 _ _ ?_
   refine wp_seq_k fun K2 hK2=>?_
   refine in58 (D:=D) (E:=E) (k:=x.kind) (nm:=x.name) (st:=x.state) (d:=d) (T:=54) (W:=wc) (hX:=hE2) (hD:=hD2) (hDV:=hDV2) (h1:=h1) (h2:=h2) (h3:=h3) (hK:=hid ?_)
   intros
   rename_i W4 hb4
   dsimp only
   have hE4:=hid ((hb4.block E (lt_of_heap hE2.out)).trans hE2.out)
   have hB4:=hid ((hb4.block B (lt_of_heap hB2.out)).trans hB2.out)
   have hPA4:=hid (hPA2.out.below hb4)
   have hF4:=hid (hF2.out.below hb4)
   have hdc4:Hid (∀ i,i < n→∀ x,p.decls[i]? = some x→DeAt W4 db (doff+i*7) x):=hid fun i hi y hy=>(hdc2.out i hi y hy).below hb4
   refine hK2 _ _ ?_
   refine wp_seq_k fun K3 hK3=>?_
   refine in60 p hs (B:=B) (E:=E) (k:=x.kind) (nm:=x.name) (oa:=oa) (na:=x.args.length) (ca:=capa) (nal:=hal) (o1:=o1) (n:=n) (c1:=c1) (db:=db) (doff:=doff) (nl:=nl) (T:=54) (W:=W4) (hn:=hn) (hX:=hE4) (hB:=hB4) (hPA:=hPA4) (hd:=hd) (hdc:=hdc4) (hK:=hid ?_)
   intros
   rename_i W5 hb5
   dsimp only
   have hE5:=hid ((hb5.block E (lt_of_heap hE4.out)).trans hE4.out)
   have hF5:=hid (hF4.out.below hb5)
   refine hK3 _ _ ?_
   refine in63 p hs (E:=E) (v0:=v0) (P:=P) (hP:=hP) (pos:=x.pos) (T:=54) (W:=W5) (hX:=hE5) (hF:=hF5) (hK:=hid ?_)
   intros
   rename_i v9 _ _ _ _ _ _ W6 hg6 hb6
   dsimp only
   show Q Exit.normal _ _
   refine hK.out v9 _ _ _ _ _ _ _ _ _ _ _ _ _ _ _ _ _ _ _ _ _ _ _ _ _ _ _ _ _ _ _ _ _ _ _ _ _ _ _ _ _ _ _ _ _ _ _ _ _ _ _ _ _ _ _ _ _ _ _ _ _ _ _ _ _ _ _ _ _ _ _ _ _ _ _ _ _ _ _ _ (hg6.ext fun a=>?_) ((HB3.out.trans (hb4.mono HB3.out.size)).trans ((hb5.trans (hb6.mono hb5.size)).mono (Nat.le_trans HB3.out.size hb4.size)))
   rw [HS1.out,HO1.out,hSe]
   simp only [true_and]
set_option maxRecDepth 100000 in
theorem in13 (p:Pr) (hs:Hid (Small p)) (d:De) (B D g:Nat) (S:Nat→Bool) (v0:Value) (P:Int→Prop) (hP:Hid (∀ a,P a→a∈QDC p))
  (o1 o2:Option Addr) (n c1 ne c2 db doff xb xoff:Nat) (hSR:Hid (∀ k,k < ne→(S k = true↔Reach p (QAC d) k))) (nl:(n:Int)≤60) (nel:(ne:Int)≤300) (hn:Hid (p.decls.length = n)) (hne:Hid (p.exprs.length = ne)) (hd:Hid (0 < n→o1 = some ⟨db,doff,none⟩)) (he:Hid (0 < ne→o2 = some ⟨xb,xoff,none⟩))
  (g0 g1 g2 g3 g4 g5 g6:Value) (h1:d.params.length≤600) (h2:d.items.length≤600) (h3:Hid (∀ x∈d.items,x.states.length≤1000))
  (Q:Exit→Act→World→Prop) (W:World) (hdc:Hid (∀ i,i < n→∀ x,p.decls[i]? = some x→DeAt W db (doff+i*7) x)) (hxc:Hid (∀ i,i < ne→∀ x,p.exprs[i]? = some x→ExAt W xb (xoff+i*9) x)) (hB:Hid (W.heap[B]? = some (.cells #[.slice o1 n c1,.slice o2 ne c2] 26 (0,0)))) (hPA:Hid (ProgAt W (.slice o1 n c1) (.slice o2 ne c2) p))
  (hD:Hid (W.heap[D]? = some (.cells #[g0,g1,g2,g3,g4,g5,g6] 36 (0,0)))) (hDV:Hid (DeVal W (.agg #[g0,g1,g2,g3,g4,g5,g6]) d)) (hS:Hid (BoolRow W g ne S)) (hF:Hid (FlGot W v0 P))
  (hK:Hid (∀ (v3 Km KB KC Jy Jz J5 J0 J1 J2 J3 J4 J6 Jg Jh Ji Jj Jk Jl Jm Jn Jo Jp Jq Jr Js Jt Ju Jv Jw IU IV IW IX IY IZ Ia Ib Ic Id Ie If Ig Ih Ii Ij Ik Il Im In Io Ip Iq Ir Iu Iv Iw Iy Iz I0 I1 I2 I6 I7 I8 I9 JA JB JC JD JE JF JG JH JI JJ JK JL JM JN JO JP JQ JR JS JT JU:Value) W',FlGot W' v3 (fun a=>P a∨QH0 p d ne a)→Below W.heap.size W W'→Q .normal ⟨[u0,.pointer (some ⟨B,0,none⟩),u2,v3,u4,u5,.pointer (some ⟨D,0,none⟩),u7,u8,u9,IG,IE,IF,II,ID,IC,.slice (some ⟨g,0,none⟩) ne ne,Km,KB,KC,Jy,Jz,J5,Ey,Ez,E4,E5,E6,E7,E8,Ek,El,Em,En,Eo,Ep,Eq,Er,Es,EJ,EK,EL,EM,EO,Et,Eu,Ev,Ew,EP,EQ,ER,ET,EU,EV,EW,EX,EY,EZ,Ea,Eb,Ec,Ff,Fg,Fh,EI,Fi,Fj,Fr,Fs,Ft,Fu,Fv,Fw,Fx,Fy,Fz,F2,F4,F5,F6,F7,F8,F9,GA,GB,GC,GD,GE,GF,GG,Fk,Fl,Fm,Fn,Fo,Fp,Fq,GH,GI,GJ,AA,AB,AC,AE,AF,AG,AH,AI,AJ,AK,EH,B3,B4,B5,B8,B9,CD,CH,CI,CJ,CK,CM,CQ,CU,CX,DM,DN,DO,DP,DR,DS,DU,DV,DW,DX,DY,DQ,DZ,Dm,Do,Dp,Dq,Dr,Dt,Du,Da,Db,Dc,Dd,Df,Dg,Dh,Di,Dj,Dk,Dl,CY,CZ,Ca,Cb,Cc,Cd,Ce,Cf,Cg,Ch,Ci,Cj,Ck,Cl,Cm,Cn,Co,Cp,Cq,Cr,Cs,Ct,Cu,Cv,Cw,Cx,Cy,Cz,DA,DE,DG,DI,DJ,DK,DL,Dv,Dw,Dx,Dy,Dz,D5,D8,D9,EA,EB,EC,ED,EE,EF,EG,As,At,Au,Av,Aw,Ay,AR,AS,AU,J0,J1,J2,J3,J4,J6,Jg,Jh,Ji,Jj,Jk,Jl,Jm,Jn,Jo,Jp,Jq,Jr,Js,Jt,Ju,Jv,Jw,IU,IV,IW,IX,IY,IZ,Ia,Ib,Ic,Id,Ie,If,Ig,Ih,Ii,Ij,Ik,Il,Im,In,Io,Ip,Iq,Ir,Iu,Iv,Iw,Iy,Iz,I0,I1,I2,I6,I7,I8,I9,JA,JB,JC,JD,JE,JF,JG,JH,JI,JJ,JK,JL,JM,JN,JO,JP,JQ,JR,JS,JT,JU,AL,AM,AN,AO,AP,AQ].toArray,[]⟩ W')) :
  (QB6 Tryz.f9 13).wp Tryz.prog Q ⟨[u0,.pointer (some ⟨B,0,none⟩),u2,v0,u4,u5,.pointer (some ⟨D,0,none⟩),u7,u8,u9,IG,IE,IF,II,ID,IC,.slice (some ⟨g,0,none⟩) ne ne,.int .i64 0,H8,IA,GN,GO,GK,Ey,Ez,E4,E5,E6,E7,E8,Ek,El,Em,En,Eo,Ep,Eq,Er,Es,EJ,EK,EL,EM,EO,Et,Eu,Ev,Ew,EP,EQ,ER,ET,EU,EV,EW,EX,EY,EZ,Ea,Eb,Ec,Ff,Fg,Fh,EI,Fi,Fj,Fr,Fs,Ft,Fu,Fv,Fw,Fx,Fy,Fz,F2,F4,F5,F6,F7,F8,F9,GA,GB,GC,GD,GE,GF,GG,Fk,Fl,Fm,Fn,Fo,Fp,Fq,GH,GI,GJ,AA,AB,AC,AE,AF,AG,AH,AI,AJ,AK,EH,B3,B4,B5,B8,B9,CD,CH,CI,CJ,CK,CM,CQ,CU,CX,DM,DN,DO,DP,DR,DS,DU,DV,DW,DX,DY,DQ,DZ,Dm,Do,Dp,Dq,Dr,Dt,Du,Da,Db,Dc,Dd,Df,Dg,Dh,Di,Dj,Dk,Dl,CY,CZ,Ca,Cb,Cc,Cd,Ce,Cf,Cg,Ch,Ci,Cj,Ck,Cl,Cm,Cn,Co,Cp,Cq,Cr,Cs,Ct,Cu,Cv,Cw,Cx,Cy,Cz,DA,DE,DG,DI,DJ,DK,DL,Dv,Dw,Dx,Dy,Dz,D5,D8,D9,EA,EB,EC,ED,EE,EF,EG,As,At,Au,Av,Aw,Ay,AR,AS,AU,AV,AW,AX,AY,AZ,Aa,Ab,Ac,Ad,Ae,Af,Ag,Ah,Ai,Aj,Ak,Al,Am,An,Ao,Ap,Aq,Ar,Az,A3,A4,A5,A6,A7,A8,A9,BA,BC,BD,BE,BF,BG,BH,BI,BJ,BK,BM,BN,BO,BP,BQ,BR,BS,BT,BU,BV,BW,BY,BZ,Ba,Bb,Bc,Bd,Be,Bf,Bg,Bh,Bi,Bj,Bk,Bl,Bm,Bn,Bo,Bp,Bq,Br,Bs,Bt,Bu,Bv,Bw,Bx,By,Bz,AL,AM,AN,AO,AP,AQ].toArray,[]⟩ W:=by
 simp only [QB6,QAw,blk,Tryz.f9]
 simp only [Nat.reduceEqDiff,if_true,if_false]
 go_wp2_with fail
 go_loopw [3,17] (fun fv iv Y=>∃ (c:Nat) (v:Value),v = fv∧iv = .int .i64 (c:Int)∧c≤ne∧Hid (FlGot Y v (fun a=>P a∨QH0 p d c a))∧Hid (Below W.heap.size W Y)) (fun _ i _=>ne - QA2 i)
 case atStart=>exact ⟨0,_,rfl,rfl,Nat.zero_le _,hid (hF.out.ext fun a=>⟨fun h=>.inl h,fun h=>h.elim id fun ⟨_,_,h,_⟩=>by omega⟩),hid (Below.refl _ _)⟩
 case round =>
  obtain ⟨c,v,rfl,rfl,hc,hG,hBl⟩:=hrel
  by_cases hca:c < ne
  ·have q0:(c:Int) < (ne:Int):=by omega
   obtain ⟨x,hx⟩:∃ x,p.exprs[c]? = some x:=⟨_,List.getElem?_eq_getElem (by have:=hne.out;omega)⟩
   have HX:=hid hx
   have hdc2:Hid (∀ i,i < n→∀ x,p.decls[i]? = some x→DeAt wr db (doff+i*7) x):=hid fun i hi y hy=>(hdc.out i hi y hy).below hBl.out
   have hXA:Hid (ExAt wr xb (xoff+c*9) x):=hid ((hxc.out c hca x hx).below hBl.out)
   have hB2:Hid (wr.heap[B]? = some (.cells #[.slice o1 n c1,.slice o2 ne c2] 26 (0,0))):=hid ((hBl.out.block B (lt_of_heap hB.out)).trans hB.out)
   have hD2:Hid (wr.heap[D]? = some (.cells #[g0,g1,g2,g3,g4,g5,g6] 36 (0,0))):=hid ((hBl.out.block D (lt_of_heap hD.out)).trans hD.out)
   have hPA2:=hid (hPA.out.below hBl.out)
   have hDV2:=hid (hDV.out.below hBl.out)
   have hS2:=hid (hS.out.below hBl.out hS.out.lt)
   have hpx:Hid (x.pos∈QDC p):=hid (by
    unfold QDC
    exact List.mem_cons_of_mem _ (List.mem_append.2 (.inr (List.mem_map.2 ⟨x,List.mem_of_getElem? hx,rfl⟩))))
   have hP2:Hid (∀ a,(P a∨QH0 p d c a)→a∈QDC p):=hid (fun a h=>h.elim (hP.out a) fun ⟨_,y,_,_,hy,_,e⟩=>by
    subst e
    unfold QDC
    exact List.mem_cons_of_mem _ (List.mem_append.2 (.inr (List.mem_map.2 ⟨y,List.mem_of_getElem? hy,rfl⟩))))
   clear hx hB hD hF
   go_upto_block 14 with fail
   refine in14 p hs d (B:=B) (D:=D) (e:=c) (g:=g) (S:=S) (x:=x) HX (v0:=v) (P:=fun a=>P a∨QH0 p d c a) hP2 hpx (o1:=o1) (o2:=o2) (n:=n) (c1:=c1) (ne:=ne) (c2:=c2) (db:=db) (doff:=doff) (xb:=xb) (xoff:=xoff) nl nel hca hn hd he (g0:=g0) (g1:=g1) (g2:=g2) (g3:=g3) (g4:=g4) (g5:=g5) (g6:=g6) h1 h2 h3 (W:=wr) (hdc:=hdc2) (hB:=hB2) (hPA:=hPA2) (hXA:=hXA) (hD:=hD2) (hDV:=hDV2) (hS:=hS2) (hF:=hG) (hK:=hid ?_)
   intros
   rename_i v1 _ _ _ _ _ _ _ _ _ _ _ _ _ _ _ _ _ _ _ _ _ _ _ _ _ _ _ _ _ _ _ _ _ _ _ _ _ _ _ _ _ _ _ _ _ _ _ _ _ _ _ _ _ _ _ _ _ _ _ _ _ _ _ _ _ _ _ _ _ _ _ _ _ _ _ _ _ _ _ W2 hg2 hb2
   dsimp only
   go_wp2_with fail
   refine ⟨⟨c+1,v1,rfl,by go_num,by omega,hid (hg2.ext fun a=>?_),hid (hBl.out.trans (hb2.mono hBl.out.size))⟩,by simp [QA2];omega⟩
   rw [QKN HX.out,hSR.out c hca,or_assoc]
  ·obtain rfl:c = ne:=by omega
   have q0:¬ (c:Int) < (c:Int):=by omega
   clear hB hD hF
   go_wp2_with fail
   exact hK.out v _ _ _ _ _ _ _ _ _ _ _ _ _ _ _ _ _ _ _ _ _ _ _ _ _ _ _ _ _ _ _ _ _ _ _ _ _ _ _ _ _ _ _ _ _ _ _ _ _ _ _ _ _ _ _ _ _ _ _ _ _ _ _ _ _ _ _ _ _ _ _ _ _ _ _ _ _ _ _ _ _ _ _ _ _ _ _ hG.out hBl.out
set_option maxRecDepth 100000 in
theorem in8_1 (d:De) (D X V i:Nat) (k:Int) (hk:k = 1) (nm st nx:ByteArray) (l:List ByteArray) (o:Option Addr) (n cap:Nat) (hln:Hid (l.length = n)) (nl:(n:Int)≤1000) (i2 i3 i4 i8 j0 j2:Value) (T T2:TypeId) (s ix:Int) (ok:Bool) (hso:Hid (s = (QAd d nm).sort)) (hix:Hid (ix = (QAd d nm).index)) (hok:Hid (ok = okV d nm))
  (g0 g1 g2 g3 g4 g5 g6:Value) (h1:d.params.length≤600) (h2:d.items.length≤600) (h3:Hid (∀ x∈d.items,x.states.length≤1000))
  (Q:Exit→Act→World→Prop) (W:World) (hX:Hid (W.heap[X]? = some (.cells #[.int .i64 k,.string nm,i2,i3,i4,.slice o n cap,.string st,.string nx,i8] T (0,0)))) (hS:Hid (StrsAt W (.slice o n cap) l)) (hV:Hid (W.heap[V]? = some (.cells #[j0,.int .i64 s,j2,.int .i64 ix] T2 (0,0))))
  (hD:Hid (W.heap[D]? = some (.cells #[g0,g1,g2,g3,g4,g5,g6] 36 (0,0)))) (hDV:Hid (DeVal W (.agg #[g0,g1,g2,g3,g4,g5,g6]) d))
  (hK:Hid (∀ (IJ IL GU GV GW GX GY GZ Ga Gb Gc Gd Ge Gf Gg Gh GP GQ GR GS E9 FE FG FH FI FJ FL GT FN Ed Ee Ef Eg Eh Ei Ej FO FR FU FW FX FY Fa Fb Fc Fd Fe Gi Gj Gk Gl Gm Gn Gp Gq Gr Gs Gt Gu Gv Gw Gx Gy Gz G8 G9 Ha Hb Hc Hd He Hf Hg Hh Hi Hj Hk Hl Hm Hn Ho Hp Hq Hr Hs Ht Hu Hv Hw Hx Hy Hz H3 H4 H5 H6 H7:Value) W',Below W.heap.size W W'→Q .normal ⟨[u0,u1,u2,u3,u4,u5,.pointer (some ⟨D,0,none⟩),u7,u8,.int .i64 (i:Int),.pointer (some ⟨X,0,none⟩),.pointer (some ⟨V,0,none⟩),.bool ok,.bool (QDD d i k nm st nx l),IJ,IL,GL,GM,H8,IA,GN,GO,GK,Ey,Ez,E4,E5,E6,E7,E8,Ek,El,Em,En,Eo,Ep,Eq,Er,Es,EJ,EK,EL,EM,EO,Et,Eu,Ev,Ew,EP,EQ,ER,ET,EU,EV,EW,EX,EY,EZ,Ea,Eb,Ec,Ff,Fg,Fh,EI,Fi,Fj,Fr,Fs,Ft,Fu,Fv,Fw,Fx,Fy,Fz,F2,F4,F5,F6,F7,F8,F9,GA,GB,GC,GD,GE,GF,GG,Fk,Fl,Fm,Fn,Fo,Fp,Fq,GH,GI,GJ,AA,AB,AC,AE,AF,AG,AH,AI,AJ,AK,.int .i64 k,GU,GV,GW,GX,GY,GZ,Ga,Gb,Gc,Gd,Ge,Gf,Gg,Gh,GP,GQ,GR,GS,E9,FE,FG,FH,FI,FJ,FL,GT,FN,Ed,Ee,Ef,Eg,Eh,Ei,Ej,FO,FR,FU,FW,FX,FY,Fa,Fb,Fc,Fd,Fe,Gi,Gj,Gk,Gl,Gm,Gn,Gp,Gq,Gr,Gs,Gt,Gu,Gv,Gw,Gx,Gy,Gz,G8,G9,Ha,Hb,Hc,Hd,He,Hf,Hg,Hh,Hi,Hj,Hk,Hl,Hm,Hn,Ho,Hp,Hq,Hr,Hs,Ht,Hu,Hv,Hw,Hx,Hy,Hz,H3,H4,H5,H6,H7,As,At,Au,Av,Aw,Ay,AR,AS,AU,AV,AW,AX,AY,AZ,Aa,Ab,Ac,Ad,Ae,Af,Ag,Ah,Ai,Aj,Ak,Al,Am,An,Ao,Ap,Aq,Ar,Az,A3,A4,A5,A6,A7,A8,A9,BA,BC,BD,BE,BF,BG,BH,BI,BJ,BK,BM,BN,BO,BP,BQ,BR,BS,BT,BU,BV,BW,BY,BZ,Ba,Bb,Bc,Bd,Be,Bf,Bg,Bh,Bi,Bj,Bk,Bl,Bm,Bn,Bo,Bp,Bq,Br,Bs,Bt,Bu,Bv,Bw,Bx,By,Bz,AL,AM,AN,AO,AP,AQ].toArray,[]⟩ W')) :
  (QB6 Tryz.f9 8).wp Tryz.prog Q ⟨[u0,u1,u2,u3,u4,u5,.pointer (some ⟨D,0,none⟩),u7,u8,.int .i64 (i:Int),.pointer (some ⟨X,0,none⟩),.pointer (some ⟨V,0,none⟩),.bool ok,.bool false,ID,IC,GL,GM,H8,IA,GN,GO,GK,Ey,Ez,E4,E5,E6,E7,E8,Ek,El,Em,En,Eo,Ep,Eq,Er,Es,EJ,EK,EL,EM,EO,Et,Eu,Ev,Ew,EP,EQ,ER,ET,EU,EV,EW,EX,EY,EZ,Ea,Eb,Ec,Ff,Fg,Fh,EI,Fi,Fj,Fr,Fs,Ft,Fu,Fv,Fw,Fx,Fy,Fz,F2,F4,F5,F6,F7,F8,F9,GA,GB,GC,GD,GE,GF,GG,Fk,Fl,Fm,Fn,Fo,Fp,Fq,GH,GI,GJ,AA,AB,AC,AE,AF,AG,AH,AI,AJ,AK,.int .i64 k,B3,B4,B5,B8,B9,CD,CH,CI,CJ,CK,CM,CQ,CU,CX,DM,DN,DO,DP,DR,DS,DU,DV,DW,DX,DY,DQ,DZ,Dm,Do,Dp,Dq,Dr,Dt,Du,Da,Db,Dc,Dd,Df,Dg,Dh,Di,Dj,Dk,Dl,CY,CZ,Ca,Cb,Cc,Cd,Ce,Cf,Cg,Ch,Ci,Cj,Ck,Cl,Cm,Cn,Co,Cp,Cq,Cr,Cs,Ct,Cu,Cv,Cw,Cx,Cy,Cz,DA,DE,DG,DI,DJ,DK,DL,Dv,Dw,Dx,Dy,Dz,D5,D8,D9,EA,EB,EC,ED,EE,EF,EG,As,At,Au,Av,Aw,Ay,AR,AS,AU,AV,AW,AX,AY,AZ,Aa,Ab,Ac,Ad,Ae,Af,Ag,Ah,Ai,Aj,Ak,Al,Am,An,Ao,Ap,Aq,Ar,Az,A3,A4,A5,A6,A7,A8,A9,BA,BC,BD,BE,BF,BG,BH,BI,BJ,BK,BM,BN,BO,BP,BQ,BR,BS,BT,BU,BV,BW,BY,BZ,Ba,Bb,Bc,Bd,Be,Bf,Bg,Bh,Bi,Bj,Bk,Bl,Bm,Bn,Bo,Bp,Bq,Br,Bs,Bt,Bu,Bv,Bw,Bx,By,Bz,AL,AM,AN,AO,AP,AQ].toArray,[]⟩ W:=by
 simp only [QB6,QAw,blk,Tryz.f9]
 simp only [Nat.reduceEqDiff,if_true,if_false]
 obtain ⟨d0,d1,d2,d3,d4,d5,d6,d7,d8⟩:=QB1 hX.out
 obtain ⟨f0,f1,f2,f3⟩:=QCH hV.out
 have hR:QDD d i k nm st nx l = ((s == 1 || ix != (i:Int)) || (k == 6 && QDe l)):=by unfold QDD;rw [if_pos (by omega),hso.out,hix.out]
 rw [hR] at hK
 clear hR hso hix hok hD hDV hV h1 h2 h3
 subst hk
 cases h1:(s == 1) with
 | true =>
  rw [h1] at hK
  go_upto_block 9 with fail
  refine in9 (X:=X) (b0:=true) (l:=l) (o:=o) (n:=n) (cap:=cap) hln nl (T:=T) (W:=W) (hX:=hX) (hS:=hS) (hK:=hid ?_)
  intros
  rename_i W2 hb2
  dsimp only
  go_wp2_with fail
  apply hK.out;exact hb2
 | false =>
  rw [h1] at hK
  cases h2:(ix != (i:Int)) with
  | true =>
   rw [h2] at hK
   go_upto_block 9 with fail
   refine in9 (X:=X) (b0:=true) (l:=l) (o:=o) (n:=n) (cap:=cap) hln nl (T:=T) (W:=W) (hX:=hX) (hS:=hS) (hK:=hid ?_)
   intros
   rename_i W2 hb2
   dsimp only
   go_wp2_with fail
   apply hK.out;exact hb2
  | false =>
   rw [h2] at hK
   go_upto_block 9 with fail
   refine in9 (X:=X) (b0:=false) (l:=l) (o:=o) (n:=n) (cap:=cap) hln nl (T:=T) (W:=W) (hX:=hX) (hS:=hS) (hK:=hid ?_)
   intros
   rename_i W2 hb2
   dsimp only
   go_wp2_with fail
   apply hK.out;exact hb2
set_option maxRecDepth 100000 in
theorem in8_2 (d:De) (D X V i:Nat) (k:Int) (hk:k = 2) (nm st nx:ByteArray) (l:List ByteArray) (o:Option Addr) (n cap:Nat) (hln:Hid (l.length = n)) (nl:(n:Int)≤1000) (i2 i3 i4 i8 j0 j2:Value) (T T2:TypeId) (s ix:Int) (ok:Bool) (hso:Hid (s = (QAd d nm).sort)) (hix:Hid (ix = (QAd d nm).index)) (hok:Hid (ok = okV d nm))
  (g0 g1 g2 g3 g4 g5 g6:Value) (h1:d.params.length≤600) (h2:d.items.length≤600) (h3:Hid (∀ x∈d.items,x.states.length≤1000))
  (Q:Exit→Act→World→Prop) (W:World) (hX:Hid (W.heap[X]? = some (.cells #[.int .i64 k,.string nm,i2,i3,i4,.slice o n cap,.string st,.string nx,i8] T (0,0)))) (hS:Hid (StrsAt W (.slice o n cap) l)) (hV:Hid (W.heap[V]? = some (.cells #[j0,.int .i64 s,j2,.int .i64 ix] T2 (0,0))))
  (hD:Hid (W.heap[D]? = some (.cells #[g0,g1,g2,g3,g4,g5,g6] 36 (0,0)))) (hDV:Hid (DeVal W (.agg #[g0,g1,g2,g3,g4,g5,g6]) d))
  (hK:Hid (∀ (IJ IL GU GV GW GX GY GZ Ga Gb Gc Gd Ge Gf Gg Gh GP GQ GR GS E9 FE FG FH FI FJ FL GT FN Ed Ee Ef Eg Eh Ei Ej FO FR FU FW FX FY Fa Fb Fc Fd Fe Gi Gj Gk Gl Gm Gn Gp Gq Gr Gs Gt Gu Gv Gw Gx Gy Gz G8 G9 Ha Hb Hc Hd He Hf Hg Hh Hi Hj Hk Hl Hm Hn Ho Hp Hq Hr Hs Ht Hu Hv Hw Hx Hy Hz H3 H4 H5 H6 H7:Value) W',Below W.heap.size W W'→Q .normal ⟨[u0,u1,u2,u3,u4,u5,.pointer (some ⟨D,0,none⟩),u7,u8,.int .i64 (i:Int),.pointer (some ⟨X,0,none⟩),.pointer (some ⟨V,0,none⟩),.bool ok,.bool (QDD d i k nm st nx l),IJ,IL,GL,GM,H8,IA,GN,GO,GK,Ey,Ez,E4,E5,E6,E7,E8,Ek,El,Em,En,Eo,Ep,Eq,Er,Es,EJ,EK,EL,EM,EO,Et,Eu,Ev,Ew,EP,EQ,ER,ET,EU,EV,EW,EX,EY,EZ,Ea,Eb,Ec,Ff,Fg,Fh,EI,Fi,Fj,Fr,Fs,Ft,Fu,Fv,Fw,Fx,Fy,Fz,F2,F4,F5,F6,F7,F8,F9,GA,GB,GC,GD,GE,GF,GG,Fk,Fl,Fm,Fn,Fo,Fp,Fq,GH,GI,GJ,AA,AB,AC,AE,AF,AG,AH,AI,AJ,AK,.int .i64 k,GU,GV,GW,GX,GY,GZ,Ga,Gb,Gc,Gd,Ge,Gf,Gg,Gh,GP,GQ,GR,GS,E9,FE,FG,FH,FI,FJ,FL,GT,FN,Ed,Ee,Ef,Eg,Eh,Ei,Ej,FO,FR,FU,FW,FX,FY,Fa,Fb,Fc,Fd,Fe,Gi,Gj,Gk,Gl,Gm,Gn,Gp,Gq,Gr,Gs,Gt,Gu,Gv,Gw,Gx,Gy,Gz,G8,G9,Ha,Hb,Hc,Hd,He,Hf,Hg,Hh,Hi,Hj,Hk,Hl,Hm,Hn,Ho,Hp,Hq,Hr,Hs,Ht,Hu,Hv,Hw,Hx,Hy,Hz,H3,H4,H5,H6,H7,As,At,Au,Av,Aw,Ay,AR,AS,AU,AV,AW,AX,AY,AZ,Aa,Ab,Ac,Ad,Ae,Af,Ag,Ah,Ai,Aj,Ak,Al,Am,An,Ao,Ap,Aq,Ar,Az,A3,A4,A5,A6,A7,A8,A9,BA,BC,BD,BE,BF,BG,BH,BI,BJ,BK,BM,BN,BO,BP,BQ,BR,BS,BT,BU,BV,BW,BY,BZ,Ba,Bb,Bc,Bd,Be,Bf,Bg,Bh,Bi,Bj,Bk,Bl,Bm,Bn,Bo,Bp,Bq,Br,Bs,Bt,Bu,Bv,Bw,Bx,By,Bz,AL,AM,AN,AO,AP,AQ].toArray,[]⟩ W')) :
  (QB6 Tryz.f9 8).wp Tryz.prog Q ⟨[u0,u1,u2,u3,u4,u5,.pointer (some ⟨D,0,none⟩),u7,u8,.int .i64 (i:Int),.pointer (some ⟨X,0,none⟩),.pointer (some ⟨V,0,none⟩),.bool ok,.bool false,ID,IC,GL,GM,H8,IA,GN,GO,GK,Ey,Ez,E4,E5,E6,E7,E8,Ek,El,Em,En,Eo,Ep,Eq,Er,Es,EJ,EK,EL,EM,EO,Et,Eu,Ev,Ew,EP,EQ,ER,ET,EU,EV,EW,EX,EY,EZ,Ea,Eb,Ec,Ff,Fg,Fh,EI,Fi,Fj,Fr,Fs,Ft,Fu,Fv,Fw,Fx,Fy,Fz,F2,F4,F5,F6,F7,F8,F9,GA,GB,GC,GD,GE,GF,GG,Fk,Fl,Fm,Fn,Fo,Fp,Fq,GH,GI,GJ,AA,AB,AC,AE,AF,AG,AH,AI,AJ,AK,.int .i64 k,B3,B4,B5,B8,B9,CD,CH,CI,CJ,CK,CM,CQ,CU,CX,DM,DN,DO,DP,DR,DS,DU,DV,DW,DX,DY,DQ,DZ,Dm,Do,Dp,Dq,Dr,Dt,Du,Da,Db,Dc,Dd,Df,Dg,Dh,Di,Dj,Dk,Dl,CY,CZ,Ca,Cb,Cc,Cd,Ce,Cf,Cg,Ch,Ci,Cj,Ck,Cl,Cm,Cn,Co,Cp,Cq,Cr,Cs,Ct,Cu,Cv,Cw,Cx,Cy,Cz,DA,DE,DG,DI,DJ,DK,DL,Dv,Dw,Dx,Dy,Dz,D5,D8,D9,EA,EB,EC,ED,EE,EF,EG,As,At,Au,Av,Aw,Ay,AR,AS,AU,AV,AW,AX,AY,AZ,Aa,Ab,Ac,Ad,Ae,Af,Ag,Ah,Ai,Aj,Ak,Al,Am,An,Ao,Ap,Aq,Ar,Az,A3,A4,A5,A6,A7,A8,A9,BA,BC,BD,BE,BF,BG,BH,BI,BJ,BK,BM,BN,BO,BP,BQ,BR,BS,BT,BU,BV,BW,BY,BZ,Ba,Bb,Bc,Bd,Be,Bf,Bg,Bh,Bi,Bj,Bk,Bl,Bm,Bn,Bo,Bp,Bq,Br,Bs,Bt,Bu,Bv,Bw,Bx,By,Bz,AL,AM,AN,AO,AP,AQ].toArray,[]⟩ W:=by
 simp only [QB6,QAw,blk,Tryz.f9]
 simp only [Nat.reduceEqDiff,if_true,if_false]
 obtain ⟨d0,d1,d2,d3,d4,d5,d6,d7,d8⟩:=QB1 hX.out
 obtain ⟨f0,f1,f2,f3⟩:=QCH hV.out
 have hR:QDD d i k nm st nx l = ((s == 1 || ix != (i:Int)) || (k == 6 && QDe l)):=by unfold QDD;rw [if_pos (by omega),hso.out,hix.out]
 rw [hR] at hK
 clear hR hso hix hok hD hDV hV h1 h2 h3
 subst hk
 cases h1:(s == 1) with
 | true =>
  rw [h1] at hK
  go_upto_block 9 with fail
  refine in9 (X:=X) (b0:=true) (l:=l) (o:=o) (n:=n) (cap:=cap) hln nl (T:=T) (W:=W) (hX:=hX) (hS:=hS) (hK:=hid ?_)
  intros
  rename_i W2 hb2
  dsimp only
  go_wp2_with fail
  apply hK.out;exact hb2
 | false =>
  rw [h1] at hK
  cases h2:(ix != (i:Int)) with
  | true =>
   rw [h2] at hK
   go_upto_block 9 with fail
   refine in9 (X:=X) (b0:=true) (l:=l) (o:=o) (n:=n) (cap:=cap) hln nl (T:=T) (W:=W) (hX:=hX) (hS:=hS) (hK:=hid ?_)
   intros
   rename_i W2 hb2
   dsimp only
   go_wp2_with fail
   apply hK.out;exact hb2
  | false =>
   rw [h2] at hK
   go_upto_block 9 with fail
   refine in9 (X:=X) (b0:=false) (l:=l) (o:=o) (n:=n) (cap:=cap) hln nl (T:=T) (W:=W) (hX:=hX) (hS:=hS) (hK:=hid ?_)
   intros
   rename_i W2 hb2
   dsimp only
   go_wp2_with fail
   apply hK.out;exact hb2
set_option maxRecDepth 100000 in
theorem in8_4 (d:De) (D X V i:Nat) (k:Int) (hk:k = 4) (nm st nx:ByteArray) (l:List ByteArray) (o:Option Addr) (n cap:Nat) (hln:Hid (l.length = n)) (nl:(n:Int)≤1000) (i2 i3 i4 i8 j0 j2:Value) (T T2:TypeId) (s ix:Int) (ok:Bool) (hso:Hid (s = (QAd d nm).sort)) (hix:Hid (ix = (QAd d nm).index)) (hok:Hid (ok = okV d nm))
  (g0 g1 g2 g3 g4 g5 g6:Value) (h1:d.params.length≤600) (h2:d.items.length≤600) (h3:Hid (∀ x∈d.items,x.states.length≤1000))
  (Q:Exit→Act→World→Prop) (W:World) (hX:Hid (W.heap[X]? = some (.cells #[.int .i64 k,.string nm,i2,i3,i4,.slice o n cap,.string st,.string nx,i8] T (0,0)))) (hS:Hid (StrsAt W (.slice o n cap) l)) (hV:Hid (W.heap[V]? = some (.cells #[j0,.int .i64 s,j2,.int .i64 ix] T2 (0,0))))
  (hD:Hid (W.heap[D]? = some (.cells #[g0,g1,g2,g3,g4,g5,g6] 36 (0,0)))) (hDV:Hid (DeVal W (.agg #[g0,g1,g2,g3,g4,g5,g6]) d))
  (hK:Hid (∀ (IJ IL GU GV GW GX GY GZ Ga Gb Gc Gd Ge Gf Gg Gh GP GQ GR GS E9 FE FG FH FI FJ FL GT FN Ed Ee Ef Eg Eh Ei Ej FO FR FU FW FX FY Fa Fb Fc Fd Fe Gi Gj Gk Gl Gm Gn Gp Gq Gr Gs Gt Gu Gv Gw Gx Gy Gz G8 G9 Ha Hb Hc Hd He Hf Hg Hh Hi Hj Hk Hl Hm Hn Ho Hp Hq Hr Hs Ht Hu Hv Hw Hx Hy Hz H3 H4 H5 H6 H7:Value) W',Below W.heap.size W W'→Q .normal ⟨[u0,u1,u2,u3,u4,u5,.pointer (some ⟨D,0,none⟩),u7,u8,.int .i64 (i:Int),.pointer (some ⟨X,0,none⟩),.pointer (some ⟨V,0,none⟩),.bool ok,.bool (QDD d i k nm st nx l),IJ,IL,GL,GM,H8,IA,GN,GO,GK,Ey,Ez,E4,E5,E6,E7,E8,Ek,El,Em,En,Eo,Ep,Eq,Er,Es,EJ,EK,EL,EM,EO,Et,Eu,Ev,Ew,EP,EQ,ER,ET,EU,EV,EW,EX,EY,EZ,Ea,Eb,Ec,Ff,Fg,Fh,EI,Fi,Fj,Fr,Fs,Ft,Fu,Fv,Fw,Fx,Fy,Fz,F2,F4,F5,F6,F7,F8,F9,GA,GB,GC,GD,GE,GF,GG,Fk,Fl,Fm,Fn,Fo,Fp,Fq,GH,GI,GJ,AA,AB,AC,AE,AF,AG,AH,AI,AJ,AK,.int .i64 k,GU,GV,GW,GX,GY,GZ,Ga,Gb,Gc,Gd,Ge,Gf,Gg,Gh,GP,GQ,GR,GS,E9,FE,FG,FH,FI,FJ,FL,GT,FN,Ed,Ee,Ef,Eg,Eh,Ei,Ej,FO,FR,FU,FW,FX,FY,Fa,Fb,Fc,Fd,Fe,Gi,Gj,Gk,Gl,Gm,Gn,Gp,Gq,Gr,Gs,Gt,Gu,Gv,Gw,Gx,Gy,Gz,G8,G9,Ha,Hb,Hc,Hd,He,Hf,Hg,Hh,Hi,Hj,Hk,Hl,Hm,Hn,Ho,Hp,Hq,Hr,Hs,Ht,Hu,Hv,Hw,Hx,Hy,Hz,H3,H4,H5,H6,H7,As,At,Au,Av,Aw,Ay,AR,AS,AU,AV,AW,AX,AY,AZ,Aa,Ab,Ac,Ad,Ae,Af,Ag,Ah,Ai,Aj,Ak,Al,Am,An,Ao,Ap,Aq,Ar,Az,A3,A4,A5,A6,A7,A8,A9,BA,BC,BD,BE,BF,BG,BH,BI,BJ,BK,BM,BN,BO,BP,BQ,BR,BS,BT,BU,BV,BW,BY,BZ,Ba,Bb,Bc,Bd,Be,Bf,Bg,Bh,Bi,Bj,Bk,Bl,Bm,Bn,Bo,Bp,Bq,Br,Bs,Bt,Bu,Bv,Bw,Bx,By,Bz,AL,AM,AN,AO,AP,AQ].toArray,[]⟩ W')) :
  (QB6 Tryz.f9 8).wp Tryz.prog Q ⟨[u0,u1,u2,u3,u4,u5,.pointer (some ⟨D,0,none⟩),u7,u8,.int .i64 (i:Int),.pointer (some ⟨X,0,none⟩),.pointer (some ⟨V,0,none⟩),.bool ok,.bool false,ID,IC,GL,GM,H8,IA,GN,GO,GK,Ey,Ez,E4,E5,E6,E7,E8,Ek,El,Em,En,Eo,Ep,Eq,Er,Es,EJ,EK,EL,EM,EO,Et,Eu,Ev,Ew,EP,EQ,ER,ET,EU,EV,EW,EX,EY,EZ,Ea,Eb,Ec,Ff,Fg,Fh,EI,Fi,Fj,Fr,Fs,Ft,Fu,Fv,Fw,Fx,Fy,Fz,F2,F4,F5,F6,F7,F8,F9,GA,GB,GC,GD,GE,GF,GG,Fk,Fl,Fm,Fn,Fo,Fp,Fq,GH,GI,GJ,AA,AB,AC,AE,AF,AG,AH,AI,AJ,AK,.int .i64 k,B3,B4,B5,B8,B9,CD,CH,CI,CJ,CK,CM,CQ,CU,CX,DM,DN,DO,DP,DR,DS,DU,DV,DW,DX,DY,DQ,DZ,Dm,Do,Dp,Dq,Dr,Dt,Du,Da,Db,Dc,Dd,Df,Dg,Dh,Di,Dj,Dk,Dl,CY,CZ,Ca,Cb,Cc,Cd,Ce,Cf,Cg,Ch,Ci,Cj,Ck,Cl,Cm,Cn,Co,Cp,Cq,Cr,Cs,Ct,Cu,Cv,Cw,Cx,Cy,Cz,DA,DE,DG,DI,DJ,DK,DL,Dv,Dw,Dx,Dy,Dz,D5,D8,D9,EA,EB,EC,ED,EE,EF,EG,As,At,Au,Av,Aw,Ay,AR,AS,AU,AV,AW,AX,AY,AZ,Aa,Ab,Ac,Ad,Ae,Af,Ag,Ah,Ai,Aj,Ak,Al,Am,An,Ao,Ap,Aq,Ar,Az,A3,A4,A5,A6,A7,A8,A9,BA,BC,BD,BE,BF,BG,BH,BI,BJ,BK,BM,BN,BO,BP,BQ,BR,BS,BT,BU,BV,BW,BY,BZ,Ba,Bb,Bc,Bd,Be,Bf,Bg,Bh,Bi,Bj,Bk,Bl,Bm,Bn,Bo,Bp,Bq,Br,Bs,Bt,Bu,Bv,Bw,Bx,By,Bz,AL,AM,AN,AO,AP,AQ].toArray,[]⟩ W:=by
 simp only [QB6,QAw,blk,Tryz.f9]
 simp only [Nat.reduceEqDiff,if_true,if_false]
 obtain ⟨d0,d1,d2,d3,d4,d5,d6,d7,d8⟩:=QB1 hX.out
 obtain ⟨f0,f1,f2,f3⟩:=QCH hV.out
 have hR:QDD d i k nm st nx l = ((s == 1 || ix != (i:Int)) || (k == 6 && QDe l)):=by unfold QDD;rw [if_pos (by omega),hso.out,hix.out]
 rw [hR] at hK
 clear hR hso hix hok hD hDV hV h1 h2 h3
 subst hk
 cases h1:(s == 1) with
 | true =>
  rw [h1] at hK
  go_upto_block 9 with fail
  refine in9 (X:=X) (b0:=true) (l:=l) (o:=o) (n:=n) (cap:=cap) hln nl (T:=T) (W:=W) (hX:=hX) (hS:=hS) (hK:=hid ?_)
  intros
  rename_i W2 hb2
  dsimp only
  go_wp2_with fail
  apply hK.out;exact hb2
 | false =>
  rw [h1] at hK
  cases h2:(ix != (i:Int)) with
  | true =>
   rw [h2] at hK
   go_upto_block 9 with fail
   refine in9 (X:=X) (b0:=true) (l:=l) (o:=o) (n:=n) (cap:=cap) hln nl (T:=T) (W:=W) (hX:=hX) (hS:=hS) (hK:=hid ?_)
   intros
   rename_i W2 hb2
   dsimp only
   go_wp2_with fail
   apply hK.out;exact hb2
  | false =>
   rw [h2] at hK
   go_upto_block 9 with fail
   refine in9 (X:=X) (b0:=false) (l:=l) (o:=o) (n:=n) (cap:=cap) hln nl (T:=T) (W:=W) (hX:=hX) (hS:=hS) (hK:=hid ?_)
   intros
   rename_i W2 hb2
   dsimp only
   go_wp2_with fail
   apply hK.out;exact hb2
set_option maxRecDepth 100000 in
theorem in8_6 (d:De) (D X V i:Nat) (k:Int) (hk:k = 6) (nm st nx:ByteArray) (l:List ByteArray) (o:Option Addr) (n cap:Nat) (hln:Hid (l.length = n)) (nl:(n:Int)≤1000) (i2 i3 i4 i8 j0 j2:Value) (T T2:TypeId) (s ix:Int) (ok:Bool) (hso:Hid (s = (QAd d nm).sort)) (hix:Hid (ix = (QAd d nm).index)) (hok:Hid (ok = okV d nm))
  (g0 g1 g2 g3 g4 g5 g6:Value) (h1:d.params.length≤600) (h2:d.items.length≤600) (h3:Hid (∀ x∈d.items,x.states.length≤1000))
  (Q:Exit→Act→World→Prop) (W:World) (hX:Hid (W.heap[X]? = some (.cells #[.int .i64 k,.string nm,i2,i3,i4,.slice o n cap,.string st,.string nx,i8] T (0,0)))) (hS:Hid (StrsAt W (.slice o n cap) l)) (hV:Hid (W.heap[V]? = some (.cells #[j0,.int .i64 s,j2,.int .i64 ix] T2 (0,0))))
  (hD:Hid (W.heap[D]? = some (.cells #[g0,g1,g2,g3,g4,g5,g6] 36 (0,0)))) (hDV:Hid (DeVal W (.agg #[g0,g1,g2,g3,g4,g5,g6]) d))
  (hK:Hid (∀ (IJ IL GU GV GW GX GY GZ Ga Gb Gc Gd Ge Gf Gg Gh GP GQ GR GS E9 FE FG FH FI FJ FL GT FN Ed Ee Ef Eg Eh Ei Ej FO FR FU FW FX FY Fa Fb Fc Fd Fe Gi Gj Gk Gl Gm Gn Gp Gq Gr Gs Gt Gu Gv Gw Gx Gy Gz G8 G9 Ha Hb Hc Hd He Hf Hg Hh Hi Hj Hk Hl Hm Hn Ho Hp Hq Hr Hs Ht Hu Hv Hw Hx Hy Hz H3 H4 H5 H6 H7:Value) W',Below W.heap.size W W'→Q .normal ⟨[u0,u1,u2,u3,u4,u5,.pointer (some ⟨D,0,none⟩),u7,u8,.int .i64 (i:Int),.pointer (some ⟨X,0,none⟩),.pointer (some ⟨V,0,none⟩),.bool ok,.bool (QDD d i k nm st nx l),IJ,IL,GL,GM,H8,IA,GN,GO,GK,Ey,Ez,E4,E5,E6,E7,E8,Ek,El,Em,En,Eo,Ep,Eq,Er,Es,EJ,EK,EL,EM,EO,Et,Eu,Ev,Ew,EP,EQ,ER,ET,EU,EV,EW,EX,EY,EZ,Ea,Eb,Ec,Ff,Fg,Fh,EI,Fi,Fj,Fr,Fs,Ft,Fu,Fv,Fw,Fx,Fy,Fz,F2,F4,F5,F6,F7,F8,F9,GA,GB,GC,GD,GE,GF,GG,Fk,Fl,Fm,Fn,Fo,Fp,Fq,GH,GI,GJ,AA,AB,AC,AE,AF,AG,AH,AI,AJ,AK,.int .i64 k,GU,GV,GW,GX,GY,GZ,Ga,Gb,Gc,Gd,Ge,Gf,Gg,Gh,GP,GQ,GR,GS,E9,FE,FG,FH,FI,FJ,FL,GT,FN,Ed,Ee,Ef,Eg,Eh,Ei,Ej,FO,FR,FU,FW,FX,FY,Fa,Fb,Fc,Fd,Fe,Gi,Gj,Gk,Gl,Gm,Gn,Gp,Gq,Gr,Gs,Gt,Gu,Gv,Gw,Gx,Gy,Gz,G8,G9,Ha,Hb,Hc,Hd,He,Hf,Hg,Hh,Hi,Hj,Hk,Hl,Hm,Hn,Ho,Hp,Hq,Hr,Hs,Ht,Hu,Hv,Hw,Hx,Hy,Hz,H3,H4,H5,H6,H7,As,At,Au,Av,Aw,Ay,AR,AS,AU,AV,AW,AX,AY,AZ,Aa,Ab,Ac,Ad,Ae,Af,Ag,Ah,Ai,Aj,Ak,Al,Am,An,Ao,Ap,Aq,Ar,Az,A3,A4,A5,A6,A7,A8,A9,BA,BC,BD,BE,BF,BG,BH,BI,BJ,BK,BM,BN,BO,BP,BQ,BR,BS,BT,BU,BV,BW,BY,BZ,Ba,Bb,Bc,Bd,Be,Bf,Bg,Bh,Bi,Bj,Bk,Bl,Bm,Bn,Bo,Bp,Bq,Br,Bs,Bt,Bu,Bv,Bw,Bx,By,Bz,AL,AM,AN,AO,AP,AQ].toArray,[]⟩ W')) :
  (QB6 Tryz.f9 8).wp Tryz.prog Q ⟨[u0,u1,u2,u3,u4,u5,.pointer (some ⟨D,0,none⟩),u7,u8,.int .i64 (i:Int),.pointer (some ⟨X,0,none⟩),.pointer (some ⟨V,0,none⟩),.bool ok,.bool false,ID,IC,GL,GM,H8,IA,GN,GO,GK,Ey,Ez,E4,E5,E6,E7,E8,Ek,El,Em,En,Eo,Ep,Eq,Er,Es,EJ,EK,EL,EM,EO,Et,Eu,Ev,Ew,EP,EQ,ER,ET,EU,EV,EW,EX,EY,EZ,Ea,Eb,Ec,Ff,Fg,Fh,EI,Fi,Fj,Fr,Fs,Ft,Fu,Fv,Fw,Fx,Fy,Fz,F2,F4,F5,F6,F7,F8,F9,GA,GB,GC,GD,GE,GF,GG,Fk,Fl,Fm,Fn,Fo,Fp,Fq,GH,GI,GJ,AA,AB,AC,AE,AF,AG,AH,AI,AJ,AK,.int .i64 k,B3,B4,B5,B8,B9,CD,CH,CI,CJ,CK,CM,CQ,CU,CX,DM,DN,DO,DP,DR,DS,DU,DV,DW,DX,DY,DQ,DZ,Dm,Do,Dp,Dq,Dr,Dt,Du,Da,Db,Dc,Dd,Df,Dg,Dh,Di,Dj,Dk,Dl,CY,CZ,Ca,Cb,Cc,Cd,Ce,Cf,Cg,Ch,Ci,Cj,Ck,Cl,Cm,Cn,Co,Cp,Cq,Cr,Cs,Ct,Cu,Cv,Cw,Cx,Cy,Cz,DA,DE,DG,DI,DJ,DK,DL,Dv,Dw,Dx,Dy,Dz,D5,D8,D9,EA,EB,EC,ED,EE,EF,EG,As,At,Au,Av,Aw,Ay,AR,AS,AU,AV,AW,AX,AY,AZ,Aa,Ab,Ac,Ad,Ae,Af,Ag,Ah,Ai,Aj,Ak,Al,Am,An,Ao,Ap,Aq,Ar,Az,A3,A4,A5,A6,A7,A8,A9,BA,BC,BD,BE,BF,BG,BH,BI,BJ,BK,BM,BN,BO,BP,BQ,BR,BS,BT,BU,BV,BW,BY,BZ,Ba,Bb,Bc,Bd,Be,Bf,Bg,Bh,Bi,Bj,Bk,Bl,Bm,Bn,Bo,Bp,Bq,Br,Bs,Bt,Bu,Bv,Bw,Bx,By,Bz,AL,AM,AN,AO,AP,AQ].toArray,[]⟩ W:=by
 simp only [QB6,QAw,blk,Tryz.f9]
 simp only [Nat.reduceEqDiff,if_true,if_false]
 obtain ⟨d0,d1,d2,d3,d4,d5,d6,d7,d8⟩:=QB1 hX.out
 obtain ⟨f0,f1,f2,f3⟩:=QCH hV.out
 have hR:QDD d i k nm st nx l = ((s == 1 || ix != (i:Int)) || (k == 6 && QDe l)):=by unfold QDD;rw [if_pos (by omega),hso.out,hix.out]
 rw [hR] at hK
 clear hR hso hix hok hD hDV hV h1 h2 h3
 subst hk
 cases h1:(s == 1) with
 | true =>
  rw [h1] at hK
  go_upto_block 9 with fail
  refine in9 (X:=X) (b0:=true) (l:=l) (o:=o) (n:=n) (cap:=cap) hln nl (T:=T) (W:=W) (hX:=hX) (hS:=hS) (hK:=hid ?_)
  intros
  rename_i W2 hb2
  dsimp only
  go_wp2_with fail
  apply hK.out;exact hb2
 | false =>
  rw [h1] at hK
  cases h2:(ix != (i:Int)) with
  | true =>
   rw [h2] at hK
   go_upto_block 9 with fail
   refine in9 (X:=X) (b0:=true) (l:=l) (o:=o) (n:=n) (cap:=cap) hln nl (T:=T) (W:=W) (hX:=hX) (hS:=hS) (hK:=hid ?_)
   intros
   rename_i W2 hb2
   dsimp only
   go_wp2_with fail
   apply hK.out;exact hb2
  | false =>
   rw [h2] at hK
   go_upto_block 9 with fail
   refine in9 (X:=X) (b0:=false) (l:=l) (o:=o) (n:=n) (cap:=cap) hln nl (T:=T) (W:=W) (hX:=hX) (hS:=hS) (hK:=hid ?_)
   intros
   rename_i W2 hb2
   dsimp only
   go_wp2_with fail
   apply hK.out;exact hb2
set_option maxRecDepth 100000 in
theorem in8_3 (d:De) (D X V i:Nat) (k:Int) (hk:k = 3) (nm st nx:ByteArray) (l:List ByteArray) (o:Option Addr) (n cap:Nat) (hln:Hid (l.length = n)) (nl:(n:Int)≤1000) (i2 i3 i4 i8 j0 j2:Value) (T T2:TypeId) (s ix:Int) (ok:Bool) (hso:Hid (s = (QAd d nm).sort)) (hix:Hid (ix = (QAd d nm).index)) (hok:Hid (ok = okV d nm))
  (g0 g1 g2 g3 g4 g5 g6:Value) (h1:d.params.length≤600) (h2:d.items.length≤600) (h3:Hid (∀ x∈d.items,x.states.length≤1000))
  (Q:Exit→Act→World→Prop) (W:World) (hX:Hid (W.heap[X]? = some (.cells #[.int .i64 k,.string nm,i2,i3,i4,.slice o n cap,.string st,.string nx,i8] T (0,0)))) (hS:Hid (StrsAt W (.slice o n cap) l)) (hV:Hid (W.heap[V]? = some (.cells #[j0,.int .i64 s,j2,.int .i64 ix] T2 (0,0))))
  (hD:Hid (W.heap[D]? = some (.cells #[g0,g1,g2,g3,g4,g5,g6] 36 (0,0)))) (hDV:Hid (DeVal W (.agg #[g0,g1,g2,g3,g4,g5,g6]) d))
  (hK:Hid (∀ (IJ IL GU GV GW GX GY GZ Ga Gb Gc Gd Ge Gf Gg Gh GP GQ GR GS E9 FE FG FH FI FJ FL GT FN Ed Ee Ef Eg Eh Ei Ej FO FR FU FW FX FY Fa Fb Fc Fd Fe Gi Gj Gk Gl Gm Gn Gp Gq Gr Gs Gt Gu Gv Gw Gx Gy Gz G8 G9 Ha Hb Hc Hd He Hf Hg Hh Hi Hj Hk Hl Hm Hn Ho Hp Hq Hr Hs Ht Hu Hv Hw Hx Hy Hz H3 H4 H5 H6 H7:Value) W',Below W.heap.size W W'→Q .normal ⟨[u0,u1,u2,u3,u4,u5,.pointer (some ⟨D,0,none⟩),u7,u8,.int .i64 (i:Int),.pointer (some ⟨X,0,none⟩),.pointer (some ⟨V,0,none⟩),.bool ok,.bool (QDD d i k nm st nx l),IJ,IL,GL,GM,H8,IA,GN,GO,GK,Ey,Ez,E4,E5,E6,E7,E8,Ek,El,Em,En,Eo,Ep,Eq,Er,Es,EJ,EK,EL,EM,EO,Et,Eu,Ev,Ew,EP,EQ,ER,ET,EU,EV,EW,EX,EY,EZ,Ea,Eb,Ec,Ff,Fg,Fh,EI,Fi,Fj,Fr,Fs,Ft,Fu,Fv,Fw,Fx,Fy,Fz,F2,F4,F5,F6,F7,F8,F9,GA,GB,GC,GD,GE,GF,GG,Fk,Fl,Fm,Fn,Fo,Fp,Fq,GH,GI,GJ,AA,AB,AC,AE,AF,AG,AH,AI,AJ,AK,.int .i64 k,GU,GV,GW,GX,GY,GZ,Ga,Gb,Gc,Gd,Ge,Gf,Gg,Gh,GP,GQ,GR,GS,E9,FE,FG,FH,FI,FJ,FL,GT,FN,Ed,Ee,Ef,Eg,Eh,Ei,Ej,FO,FR,FU,FW,FX,FY,Fa,Fb,Fc,Fd,Fe,Gi,Gj,Gk,Gl,Gm,Gn,Gp,Gq,Gr,Gs,Gt,Gu,Gv,Gw,Gx,Gy,Gz,G8,G9,Ha,Hb,Hc,Hd,He,Hf,Hg,Hh,Hi,Hj,Hk,Hl,Hm,Hn,Ho,Hp,Hq,Hr,Hs,Ht,Hu,Hv,Hw,Hx,Hy,Hz,H3,H4,H5,H6,H7,As,At,Au,Av,Aw,Ay,AR,AS,AU,AV,AW,AX,AY,AZ,Aa,Ab,Ac,Ad,Ae,Af,Ag,Ah,Ai,Aj,Ak,Al,Am,An,Ao,Ap,Aq,Ar,Az,A3,A4,A5,A6,A7,A8,A9,BA,BC,BD,BE,BF,BG,BH,BI,BJ,BK,BM,BN,BO,BP,BQ,BR,BS,BT,BU,BV,BW,BY,BZ,Ba,Bb,Bc,Bd,Be,Bf,Bg,Bh,Bi,Bj,Bk,Bl,Bm,Bn,Bo,Bp,Bq,Br,Bs,Bt,Bu,Bv,Bw,Bx,By,Bz,AL,AM,AN,AO,AP,AQ].toArray,[]⟩ W')) :
  (QB6 Tryz.f9 8).wp Tryz.prog Q ⟨[u0,u1,u2,u3,u4,u5,.pointer (some ⟨D,0,none⟩),u7,u8,.int .i64 (i:Int),.pointer (some ⟨X,0,none⟩),.pointer (some ⟨V,0,none⟩),.bool ok,.bool false,ID,IC,GL,GM,H8,IA,GN,GO,GK,Ey,Ez,E4,E5,E6,E7,E8,Ek,El,Em,En,Eo,Ep,Eq,Er,Es,EJ,EK,EL,EM,EO,Et,Eu,Ev,Ew,EP,EQ,ER,ET,EU,EV,EW,EX,EY,EZ,Ea,Eb,Ec,Ff,Fg,Fh,EI,Fi,Fj,Fr,Fs,Ft,Fu,Fv,Fw,Fx,Fy,Fz,F2,F4,F5,F6,F7,F8,F9,GA,GB,GC,GD,GE,GF,GG,Fk,Fl,Fm,Fn,Fo,Fp,Fq,GH,GI,GJ,AA,AB,AC,AE,AF,AG,AH,AI,AJ,AK,.int .i64 k,B3,B4,B5,B8,B9,CD,CH,CI,CJ,CK,CM,CQ,CU,CX,DM,DN,DO,DP,DR,DS,DU,DV,DW,DX,DY,DQ,DZ,Dm,Do,Dp,Dq,Dr,Dt,Du,Da,Db,Dc,Dd,Df,Dg,Dh,Di,Dj,Dk,Dl,CY,CZ,Ca,Cb,Cc,Cd,Ce,Cf,Cg,Ch,Ci,Cj,Ck,Cl,Cm,Cn,Co,Cp,Cq,Cr,Cs,Ct,Cu,Cv,Cw,Cx,Cy,Cz,DA,DE,DG,DI,DJ,DK,DL,Dv,Dw,Dx,Dy,Dz,D5,D8,D9,EA,EB,EC,ED,EE,EF,EG,As,At,Au,Av,Aw,Ay,AR,AS,AU,AV,AW,AX,AY,AZ,Aa,Ab,Ac,Ad,Ae,Af,Ag,Ah,Ai,Aj,Ak,Al,Am,An,Ao,Ap,Aq,Ar,Az,A3,A4,A5,A6,A7,A8,A9,BA,BC,BD,BE,BF,BG,BH,BI,BJ,BK,BM,BN,BO,BP,BQ,BR,BS,BT,BU,BV,BW,BY,BZ,Ba,Bb,Bc,Bd,Be,Bf,Bg,Bh,Bi,Bj,Bk,Bl,Bm,Bn,Bo,Bp,Bq,Br,Bs,Bt,Bu,Bv,Bw,Bx,By,Bz,AL,AM,AN,AO,AP,AQ].toArray,[]⟩ W:=by
 simp only [QB6,QAw,blk,Tryz.f9]
 simp only [Nat.reduceEqDiff,if_true,if_false]
 obtain ⟨d0,d1,d2,d3,d4,d5,d6,d7,d8⟩:=QB1 hX.out
 obtain ⟨f0,f1,f2,f3⟩:=QCH hV.out
 have hR:QDD d i k nm st nx l = (!ok || s != 3):=by unfold QDD;rw [if_neg (by omega),if_pos (by omega),hso.out,hok.out]
 rw [hR] at hK
 clear hR hso hix hok hD hDV hV hX hS h1 h2 h3
 subst hk
 cases ok with
 | true =>
  cases hs:(s != 3) with
  | true =>
   rw [hs] at hK
   go_wp2_with fail
   exact hK.out _ _ _ _ _ _ _ _ _ _ _ _ _ _ _ _ _ _ _ _ _ _ _ _ _ _ _ _ _ _ _ _ _ _ _ _ _ _ _ _ _ _ _ _ _ _ _ _ _ _ _ _ _ _ _ _ _ _ _ _ _ _ _ _ _ _ _ _ _ _ _ _ _ _ _ _ _ _ _ _ _ _ _ _ _ _ _ _ _ _ _ _ _ _ _ _ _ _ (Below.refl _ _)
  | false =>
   rw [hs] at hK
   go_wp2_with fail
   exact hK.out _ _ _ _ _ _ _ _ _ _ _ _ _ _ _ _ _ _ _ _ _ _ _ _ _ _ _ _ _ _ _ _ _ _ _ _ _ _ _ _ _ _ _ _ _ _ _ _ _ _ _ _ _ _ _ _ _ _ _ _ _ _ _ _ _ _ _ _ _ _ _ _ _ _ _ _ _ _ _ _ _ _ _ _ _ _ _ _ _ _ _ _ _ _ _ _ _ _ (Below.refl _ _)
 | false =>
  go_wp2_with fail
  exact hK.out _ _ _ _ _ _ _ _ _ _ _ _ _ _ _ _ _ _ _ _ _ _ _ _ _ _ _ _ _ _ _ _ _ _ _ _ _ _ _ _ _ _ _ _ _ _ _ _ _ _ _ _ _ _ _ _ _ _ _ _ _ _ _ _ _ _ _ _ _ _ _ _ _ _ _ _ _ _ _ _ _ _ _ _ _ _ _ _ _ _ _ _ _ _ _ _ _ _ (Below.refl _ _)
set_option maxRecDepth 100000 in
theorem in8_5 (d:De) (D X V i:Nat) (k:Int) (hk:k = 5) (nm st nx:ByteArray) (l:List ByteArray) (o:Option Addr) (n cap:Nat) (hln:Hid (l.length = n)) (nl:(n:Int)≤1000) (i2 i3 i4 i8 j0 j2:Value) (T T2:TypeId) (s ix:Int) (ok:Bool) (hso:Hid (s = (QAd d nm).sort)) (hix:Hid (ix = (QAd d nm).index)) (hok:Hid (ok = okV d nm))
  (g0 g1 g2 g3 g4 g5 g6:Value) (h1:d.params.length≤600) (h2:d.items.length≤600) (h3:Hid (∀ x∈d.items,x.states.length≤1000))
  (Q:Exit→Act→World→Prop) (W:World) (hX:Hid (W.heap[X]? = some (.cells #[.int .i64 k,.string nm,i2,i3,i4,.slice o n cap,.string st,.string nx,i8] T (0,0)))) (hS:Hid (StrsAt W (.slice o n cap) l)) (hV:Hid (W.heap[V]? = some (.cells #[j0,.int .i64 s,j2,.int .i64 ix] T2 (0,0))))
  (hD:Hid (W.heap[D]? = some (.cells #[g0,g1,g2,g3,g4,g5,g6] 36 (0,0)))) (hDV:Hid (DeVal W (.agg #[g0,g1,g2,g3,g4,g5,g6]) d))
  (hK:Hid (∀ (IJ IL GU GV GW GX GY GZ Ga Gb Gc Gd Ge Gf Gg Gh GP GQ GR GS E9 FE FG FH FI FJ FL GT FN Ed Ee Ef Eg Eh Ei Ej FO FR FU FW FX FY Fa Fb Fc Fd Fe Gi Gj Gk Gl Gm Gn Gp Gq Gr Gs Gt Gu Gv Gw Gx Gy Gz G8 G9 Ha Hb Hc Hd He Hf Hg Hh Hi Hj Hk Hl Hm Hn Ho Hp Hq Hr Hs Ht Hu Hv Hw Hx Hy Hz H3 H4 H5 H6 H7:Value) W',Below W.heap.size W W'→Q .normal ⟨[u0,u1,u2,u3,u4,u5,.pointer (some ⟨D,0,none⟩),u7,u8,.int .i64 (i:Int),.pointer (some ⟨X,0,none⟩),.pointer (some ⟨V,0,none⟩),.bool ok,.bool (QDD d i k nm st nx l),IJ,IL,GL,GM,H8,IA,GN,GO,GK,Ey,Ez,E4,E5,E6,E7,E8,Ek,El,Em,En,Eo,Ep,Eq,Er,Es,EJ,EK,EL,EM,EO,Et,Eu,Ev,Ew,EP,EQ,ER,ET,EU,EV,EW,EX,EY,EZ,Ea,Eb,Ec,Ff,Fg,Fh,EI,Fi,Fj,Fr,Fs,Ft,Fu,Fv,Fw,Fx,Fy,Fz,F2,F4,F5,F6,F7,F8,F9,GA,GB,GC,GD,GE,GF,GG,Fk,Fl,Fm,Fn,Fo,Fp,Fq,GH,GI,GJ,AA,AB,AC,AE,AF,AG,AH,AI,AJ,AK,.int .i64 k,GU,GV,GW,GX,GY,GZ,Ga,Gb,Gc,Gd,Ge,Gf,Gg,Gh,GP,GQ,GR,GS,E9,FE,FG,FH,FI,FJ,FL,GT,FN,Ed,Ee,Ef,Eg,Eh,Ei,Ej,FO,FR,FU,FW,FX,FY,Fa,Fb,Fc,Fd,Fe,Gi,Gj,Gk,Gl,Gm,Gn,Gp,Gq,Gr,Gs,Gt,Gu,Gv,Gw,Gx,Gy,Gz,G8,G9,Ha,Hb,Hc,Hd,He,Hf,Hg,Hh,Hi,Hj,Hk,Hl,Hm,Hn,Ho,Hp,Hq,Hr,Hs,Ht,Hu,Hv,Hw,Hx,Hy,Hz,H3,H4,H5,H6,H7,As,At,Au,Av,Aw,Ay,AR,AS,AU,AV,AW,AX,AY,AZ,Aa,Ab,Ac,Ad,Ae,Af,Ag,Ah,Ai,Aj,Ak,Al,Am,An,Ao,Ap,Aq,Ar,Az,A3,A4,A5,A6,A7,A8,A9,BA,BC,BD,BE,BF,BG,BH,BI,BJ,BK,BM,BN,BO,BP,BQ,BR,BS,BT,BU,BV,BW,BY,BZ,Ba,Bb,Bc,Bd,Be,Bf,Bg,Bh,Bi,Bj,Bk,Bl,Bm,Bn,Bo,Bp,Bq,Br,Bs,Bt,Bu,Bv,Bw,Bx,By,Bz,AL,AM,AN,AO,AP,AQ].toArray,[]⟩ W')) :
  (QB6 Tryz.f9 8).wp Tryz.prog Q ⟨[u0,u1,u2,u3,u4,u5,.pointer (some ⟨D,0,none⟩),u7,u8,.int .i64 (i:Int),.pointer (some ⟨X,0,none⟩),.pointer (some ⟨V,0,none⟩),.bool ok,.bool false,ID,IC,GL,GM,H8,IA,GN,GO,GK,Ey,Ez,E4,E5,E6,E7,E8,Ek,El,Em,En,Eo,Ep,Eq,Er,Es,EJ,EK,EL,EM,EO,Et,Eu,Ev,Ew,EP,EQ,ER,ET,EU,EV,EW,EX,EY,EZ,Ea,Eb,Ec,Ff,Fg,Fh,EI,Fi,Fj,Fr,Fs,Ft,Fu,Fv,Fw,Fx,Fy,Fz,F2,F4,F5,F6,F7,F8,F9,GA,GB,GC,GD,GE,GF,GG,Fk,Fl,Fm,Fn,Fo,Fp,Fq,GH,GI,GJ,AA,AB,AC,AE,AF,AG,AH,AI,AJ,AK,.int .i64 k,B3,B4,B5,B8,B9,CD,CH,CI,CJ,CK,CM,CQ,CU,CX,DM,DN,DO,DP,DR,DS,DU,DV,DW,DX,DY,DQ,DZ,Dm,Do,Dp,Dq,Dr,Dt,Du,Da,Db,Dc,Dd,Df,Dg,Dh,Di,Dj,Dk,Dl,CY,CZ,Ca,Cb,Cc,Cd,Ce,Cf,Cg,Ch,Ci,Cj,Ck,Cl,Cm,Cn,Co,Cp,Cq,Cr,Cs,Ct,Cu,Cv,Cw,Cx,Cy,Cz,DA,DE,DG,DI,DJ,DK,DL,Dv,Dw,Dx,Dy,Dz,D5,D8,D9,EA,EB,EC,ED,EE,EF,EG,As,At,Au,Av,Aw,Ay,AR,AS,AU,AV,AW,AX,AY,AZ,Aa,Ab,Ac,Ad,Ae,Af,Ag,Ah,Ai,Aj,Ak,Al,Am,An,Ao,Ap,Aq,Ar,Az,A3,A4,A5,A6,A7,A8,A9,BA,BC,BD,BE,BF,BG,BH,BI,BJ,BK,BM,BN,BO,BP,BQ,BR,BS,BT,BU,BV,BW,BY,BZ,Ba,Bb,Bc,Bd,Be,Bf,Bg,Bh,Bi,Bj,Bk,Bl,Bm,Bn,Bo,Bp,Bq,Br,Bs,Bt,Bu,Bv,Bw,Bx,By,Bz,AL,AM,AN,AO,AP,AQ].toArray,[]⟩ W:=by
 simp only [QB6,QAw,blk,Tryz.f9]
 simp only [Nat.reduceEqDiff,if_true,if_false]
 obtain ⟨d0,d1,d2,d3,d4,d5,d6,d7,d8⟩:=QB1 hX.out
 obtain ⟨f0,f1,f2,f3⟩:=QCH hV.out
 have hR:QDD d i k nm st nx l = (!ok || s != 4):=by unfold QDD;rw [if_neg (by omega),if_neg (by omega),if_pos (by omega),hso.out,hok.out]
 rw [hR] at hK
 clear hR hso hix hok hD hDV hV hX hS h1 h2 h3
 subst hk
 cases ok with
 | true =>
  cases hs:(s != 4) with
  | true =>
   rw [hs] at hK
   go_wp2_with fail
   exact hK.out _ _ _ _ _ _ _ _ _ _ _ _ _ _ _ _ _ _ _ _ _ _ _ _ _ _ _ _ _ _ _ _ _ _ _ _ _ _ _ _ _ _ _ _ _ _ _ _ _ _ _ _ _ _ _ _ _ _ _ _ _ _ _ _ _ _ _ _ _ _ _ _ _ _ _ _ _ _ _ _ _ _ _ _ _ _ _ _ _ _ _ _ _ _ _ _ _ _ (Below.refl _ _)
  | false =>
   rw [hs] at hK
   go_wp2_with fail
   exact hK.out _ _ _ _ _ _ _ _ _ _ _ _ _ _ _ _ _ _ _ _ _ _ _ _ _ _ _ _ _ _ _ _ _ _ _ _ _ _ _ _ _ _ _ _ _ _ _ _ _ _ _ _ _ _ _ _ _ _ _ _ _ _ _ _ _ _ _ _ _ _ _ _ _ _ _ _ _ _ _ _ _ _ _ _ _ _ _ _ _ _ _ _ _ _ _ _ _ _ (Below.refl _ _)
 | false =>
  go_wp2_with fail
  exact hK.out _ _ _ _ _ _ _ _ _ _ _ _ _ _ _ _ _ _ _ _ _ _ _ _ _ _ _ _ _ _ _ _ _ _ _ _ _ _ _ _ _ _ _ _ _ _ _ _ _ _ _ _ _ _ _ _ _ _ _ _ _ _ _ _ _ _ _ _ _ _ _ _ _ _ _ _ _ _ _ _ _ _ _ _ _ _ _ _ _ _ _ _ _ _ _ _ _ _ (Below.refl _ _)
set_option maxRecDepth 100000 in
theorem in8_8 (d:De) (D X V i:Nat) (k:Int) (hk:k = 8) (nm st nx:ByteArray) (l:List ByteArray) (o:Option Addr) (n cap:Nat) (hln:Hid (l.length = n)) (nl:(n:Int)≤1000) (i2 i3 i4 i8 j0 j2:Value) (T T2:TypeId) (s ix:Int) (ok:Bool) (hso:Hid (s = (QAd d nm).sort)) (hix:Hid (ix = (QAd d nm).index)) (hok:Hid (ok = okV d nm))
  (g0 g1 g2 g3 g4 g5 g6:Value) (h1:d.params.length≤600) (h2:d.items.length≤600) (h3:Hid (∀ x∈d.items,x.states.length≤1000))
  (Q:Exit→Act→World→Prop) (W:World) (hX:Hid (W.heap[X]? = some (.cells #[.int .i64 k,.string nm,i2,i3,i4,.slice o n cap,.string st,.string nx,i8] T (0,0)))) (hS:Hid (StrsAt W (.slice o n cap) l)) (hV:Hid (W.heap[V]? = some (.cells #[j0,.int .i64 s,j2,.int .i64 ix] T2 (0,0))))
  (hD:Hid (W.heap[D]? = some (.cells #[g0,g1,g2,g3,g4,g5,g6] 36 (0,0)))) (hDV:Hid (DeVal W (.agg #[g0,g1,g2,g3,g4,g5,g6]) d))
  (hK:Hid (∀ (IJ IL GU GV GW GX GY GZ Ga Gb Gc Gd Ge Gf Gg Gh GP GQ GR GS E9 FE FG FH FI FJ FL GT FN Ed Ee Ef Eg Eh Ei Ej FO FR FU FW FX FY Fa Fb Fc Fd Fe Gi Gj Gk Gl Gm Gn Gp Gq Gr Gs Gt Gu Gv Gw Gx Gy Gz G8 G9 Ha Hb Hc Hd He Hf Hg Hh Hi Hj Hk Hl Hm Hn Ho Hp Hq Hr Hs Ht Hu Hv Hw Hx Hy Hz H3 H4 H5 H6 H7:Value) W',Below W.heap.size W W'→Q .normal ⟨[u0,u1,u2,u3,u4,u5,.pointer (some ⟨D,0,none⟩),u7,u8,.int .i64 (i:Int),.pointer (some ⟨X,0,none⟩),.pointer (some ⟨V,0,none⟩),.bool ok,.bool (QDD d i k nm st nx l),IJ,IL,GL,GM,H8,IA,GN,GO,GK,Ey,Ez,E4,E5,E6,E7,E8,Ek,El,Em,En,Eo,Ep,Eq,Er,Es,EJ,EK,EL,EM,EO,Et,Eu,Ev,Ew,EP,EQ,ER,ET,EU,EV,EW,EX,EY,EZ,Ea,Eb,Ec,Ff,Fg,Fh,EI,Fi,Fj,Fr,Fs,Ft,Fu,Fv,Fw,Fx,Fy,Fz,F2,F4,F5,F6,F7,F8,F9,GA,GB,GC,GD,GE,GF,GG,Fk,Fl,Fm,Fn,Fo,Fp,Fq,GH,GI,GJ,AA,AB,AC,AE,AF,AG,AH,AI,AJ,AK,.int .i64 k,GU,GV,GW,GX,GY,GZ,Ga,Gb,Gc,Gd,Ge,Gf,Gg,Gh,GP,GQ,GR,GS,E9,FE,FG,FH,FI,FJ,FL,GT,FN,Ed,Ee,Ef,Eg,Eh,Ei,Ej,FO,FR,FU,FW,FX,FY,Fa,Fb,Fc,Fd,Fe,Gi,Gj,Gk,Gl,Gm,Gn,Gp,Gq,Gr,Gs,Gt,Gu,Gv,Gw,Gx,Gy,Gz,G8,G9,Ha,Hb,Hc,Hd,He,Hf,Hg,Hh,Hi,Hj,Hk,Hl,Hm,Hn,Ho,Hp,Hq,Hr,Hs,Ht,Hu,Hv,Hw,Hx,Hy,Hz,H3,H4,H5,H6,H7,As,At,Au,Av,Aw,Ay,AR,AS,AU,AV,AW,AX,AY,AZ,Aa,Ab,Ac,Ad,Ae,Af,Ag,Ah,Ai,Aj,Ak,Al,Am,An,Ao,Ap,Aq,Ar,Az,A3,A4,A5,A6,A7,A8,A9,BA,BC,BD,BE,BF,BG,BH,BI,BJ,BK,BM,BN,BO,BP,BQ,BR,BS,BT,BU,BV,BW,BY,BZ,Ba,Bb,Bc,Bd,Be,Bf,Bg,Bh,Bi,Bj,Bk,Bl,Bm,Bn,Bo,Bp,Bq,Br,Bs,Bt,Bu,Bv,Bw,Bx,By,Bz,AL,AM,AN,AO,AP,AQ].toArray,[]⟩ W')) :
  (QB6 Tryz.f9 8).wp Tryz.prog Q ⟨[u0,u1,u2,u3,u4,u5,.pointer (some ⟨D,0,none⟩),u7,u8,.int .i64 (i:Int),.pointer (some ⟨X,0,none⟩),.pointer (some ⟨V,0,none⟩),.bool ok,.bool false,ID,IC,GL,GM,H8,IA,GN,GO,GK,Ey,Ez,E4,E5,E6,E7,E8,Ek,El,Em,En,Eo,Ep,Eq,Er,Es,EJ,EK,EL,EM,EO,Et,Eu,Ev,Ew,EP,EQ,ER,ET,EU,EV,EW,EX,EY,EZ,Ea,Eb,Ec,Ff,Fg,Fh,EI,Fi,Fj,Fr,Fs,Ft,Fu,Fv,Fw,Fx,Fy,Fz,F2,F4,F5,F6,F7,F8,F9,GA,GB,GC,GD,GE,GF,GG,Fk,Fl,Fm,Fn,Fo,Fp,Fq,GH,GI,GJ,AA,AB,AC,AE,AF,AG,AH,AI,AJ,AK,.int .i64 k,B3,B4,B5,B8,B9,CD,CH,CI,CJ,CK,CM,CQ,CU,CX,DM,DN,DO,DP,DR,DS,DU,DV,DW,DX,DY,DQ,DZ,Dm,Do,Dp,Dq,Dr,Dt,Du,Da,Db,Dc,Dd,Df,Dg,Dh,Di,Dj,Dk,Dl,CY,CZ,Ca,Cb,Cc,Cd,Ce,Cf,Cg,Ch,Ci,Cj,Ck,Cl,Cm,Cn,Co,Cp,Cq,Cr,Cs,Ct,Cu,Cv,Cw,Cx,Cy,Cz,DA,DE,DG,DI,DJ,DK,DL,Dv,Dw,Dx,Dy,Dz,D5,D8,D9,EA,EB,EC,ED,EE,EF,EG,As,At,Au,Av,Aw,Ay,AR,AS,AU,AV,AW,AX,AY,AZ,Aa,Ab,Ac,Ad,Ae,Af,Ag,Ah,Ai,Aj,Ak,Al,Am,An,Ao,Ap,Aq,Ar,Az,A3,A4,A5,A6,A7,A8,A9,BA,BC,BD,BE,BF,BG,BH,BI,BJ,BK,BM,BN,BO,BP,BQ,BR,BS,BT,BU,BV,BW,BY,BZ,Ba,Bb,Bc,Bd,Be,Bf,Bg,Bh,Bi,Bj,Bk,Bl,Bm,Bn,Bo,Bp,Bq,Br,Bs,Bt,Bu,Bv,Bw,Bx,By,Bz,AL,AM,AN,AO,AP,AQ].toArray,[]⟩ W:=by
 simp only [QB6,QAw,blk,Tryz.f9]
 simp only [Nat.reduceEqDiff,if_true,if_false]
 obtain ⟨d0,d1,d2,d3,d4,d5,d6,d7,d8⟩:=QB1 hX.out
 obtain ⟨f0,f1,f2,f3⟩:=QCH hV.out
 have hR:QDD d i k nm st nx l = ((!ok || s == 1) || s == 5):=by unfold QDD;rw [if_neg (by omega),if_neg (by omega),if_neg (by omega),if_neg (by omega),if_pos (by omega),hso.out,hok.out]
 rw [hR] at hK
 clear hR hso hix hok hD hDV hV hX hS h1 h2 h3
 subst hk
 cases ok with
 | true =>
  cases hs:(s == 1) with
  | true =>
   rw [hs] at hK
   go_wp2_with fail
   exact hK.out _ _ _ _ _ _ _ _ _ _ _ _ _ _ _ _ _ _ _ _ _ _ _ _ _ _ _ _ _ _ _ _ _ _ _ _ _ _ _ _ _ _ _ _ _ _ _ _ _ _ _ _ _ _ _ _ _ _ _ _ _ _ _ _ _ _ _ _ _ _ _ _ _ _ _ _ _ _ _ _ _ _ _ _ _ _ _ _ _ _ _ _ _ _ _ _ _ _ (Below.refl _ _)
  | false =>
   rw [hs] at hK
   cases hs5:(s == 5) with
   | true =>
    rw [hs5] at hK
    go_wp2_with fail
    exact hK.out _ _ _ _ _ _ _ _ _ _ _ _ _ _ _ _ _ _ _ _ _ _ _ _ _ _ _ _ _ _ _ _ _ _ _ _ _ _ _ _ _ _ _ _ _ _ _ _ _ _ _ _ _ _ _ _ _ _ _ _ _ _ _ _ _ _ _ _ _ _ _ _ _ _ _ _ _ _ _ _ _ _ _ _ _ _ _ _ _ _ _ _ _ _ _ _ _ _ (Below.refl _ _)
   | false =>
    rw [hs5] at hK
    go_wp2_with fail
    exact hK.out _ _ _ _ _ _ _ _ _ _ _ _ _ _ _ _ _ _ _ _ _ _ _ _ _ _ _ _ _ _ _ _ _ _ _ _ _ _ _ _ _ _ _ _ _ _ _ _ _ _ _ _ _ _ _ _ _ _ _ _ _ _ _ _ _ _ _ _ _ _ _ _ _ _ _ _ _ _ _ _ _ _ _ _ _ _ _ _ _ _ _ _ _ _ _ _ _ _ (Below.refl _ _)
 | false =>
  go_wp2_with fail
  exact hK.out _ _ _ _ _ _ _ _ _ _ _ _ _ _ _ _ _ _ _ _ _ _ _ _ _ _ _ _ _ _ _ _ _ _ _ _ _ _ _ _ _ _ _ _ _ _ _ _ _ _ _ _ _ _ _ _ _ _ _ _ _ _ _ _ _ _ _ _ _ _ _ _ _ _ _ _ _ _ _ _ _ _ _ _ _ _ _ _ _ _ _ _ _ _ _ _ _ _ (Below.refl _ _)
set_option maxRecDepth 100000 in
theorem in8_7 (d:De) (D X V i:Nat) (k:Int) (hk:k = 7) (nm st nx:ByteArray) (l:List ByteArray) (o:Option Addr) (n cap:Nat) (hln:Hid (l.length = n)) (nl:(n:Int)≤1000) (i2 i3 i4 i8 j0 j2:Value) (T T2:TypeId) (s ix:Int) (ok:Bool) (hso:Hid (s = (QAd d nm).sort)) (hix:Hid (ix = (QAd d nm).index)) (hok:Hid (ok = okV d nm))
  (g0 g1 g2 g3 g4 g5 g6:Value) (h1:d.params.length≤600) (h2:d.items.length≤600) (h3:Hid (∀ x∈d.items,x.states.length≤1000))
  (Q:Exit→Act→World→Prop) (W:World) (hX:Hid (W.heap[X]? = some (.cells #[.int .i64 k,.string nm,i2,i3,i4,.slice o n cap,.string st,.string nx,i8] T (0,0)))) (hS:Hid (StrsAt W (.slice o n cap) l)) (hV:Hid (W.heap[V]? = some (.cells #[j0,.int .i64 s,j2,.int .i64 ix] T2 (0,0))))
  (hD:Hid (W.heap[D]? = some (.cells #[g0,g1,g2,g3,g4,g5,g6] 36 (0,0)))) (hDV:Hid (DeVal W (.agg #[g0,g1,g2,g3,g4,g5,g6]) d))
  (hK:Hid (∀ (IJ IL GU GV GW GX GY GZ Ga Gb Gc Gd Ge Gf Gg Gh GP GQ GR GS E9 FE FG FH FI FJ FL GT FN Ed Ee Ef Eg Eh Ei Ej FO FR FU FW FX FY Fa Fb Fc Fd Fe Gi Gj Gk Gl Gm Gn Gp Gq Gr Gs Gt Gu Gv Gw Gx Gy Gz G8 G9 Ha Hb Hc Hd He Hf Hg Hh Hi Hj Hk Hl Hm Hn Ho Hp Hq Hr Hs Ht Hu Hv Hw Hx Hy Hz H3 H4 H5 H6 H7:Value) W',Below W.heap.size W W'→Q .normal ⟨[u0,u1,u2,u3,u4,u5,.pointer (some ⟨D,0,none⟩),u7,u8,.int .i64 (i:Int),.pointer (some ⟨X,0,none⟩),.pointer (some ⟨V,0,none⟩),.bool ok,.bool (QDD d i k nm st nx l),IJ,IL,GL,GM,H8,IA,GN,GO,GK,Ey,Ez,E4,E5,E6,E7,E8,Ek,El,Em,En,Eo,Ep,Eq,Er,Es,EJ,EK,EL,EM,EO,Et,Eu,Ev,Ew,EP,EQ,ER,ET,EU,EV,EW,EX,EY,EZ,Ea,Eb,Ec,Ff,Fg,Fh,EI,Fi,Fj,Fr,Fs,Ft,Fu,Fv,Fw,Fx,Fy,Fz,F2,F4,F5,F6,F7,F8,F9,GA,GB,GC,GD,GE,GF,GG,Fk,Fl,Fm,Fn,Fo,Fp,Fq,GH,GI,GJ,AA,AB,AC,AE,AF,AG,AH,AI,AJ,AK,.int .i64 k,GU,GV,GW,GX,GY,GZ,Ga,Gb,Gc,Gd,Ge,Gf,Gg,Gh,GP,GQ,GR,GS,E9,FE,FG,FH,FI,FJ,FL,GT,FN,Ed,Ee,Ef,Eg,Eh,Ei,Ej,FO,FR,FU,FW,FX,FY,Fa,Fb,Fc,Fd,Fe,Gi,Gj,Gk,Gl,Gm,Gn,Gp,Gq,Gr,Gs,Gt,Gu,Gv,Gw,Gx,Gy,Gz,G8,G9,Ha,Hb,Hc,Hd,He,Hf,Hg,Hh,Hi,Hj,Hk,Hl,Hm,Hn,Ho,Hp,Hq,Hr,Hs,Ht,Hu,Hv,Hw,Hx,Hy,Hz,H3,H4,H5,H6,H7,As,At,Au,Av,Aw,Ay,AR,AS,AU,AV,AW,AX,AY,AZ,Aa,Ab,Ac,Ad,Ae,Af,Ag,Ah,Ai,Aj,Ak,Al,Am,An,Ao,Ap,Aq,Ar,Az,A3,A4,A5,A6,A7,A8,A9,BA,BC,BD,BE,BF,BG,BH,BI,BJ,BK,BM,BN,BO,BP,BQ,BR,BS,BT,BU,BV,BW,BY,BZ,Ba,Bb,Bc,Bd,Be,Bf,Bg,Bh,Bi,Bj,Bk,Bl,Bm,Bn,Bo,Bp,Bq,Br,Bs,Bt,Bu,Bv,Bw,Bx,By,Bz,AL,AM,AN,AO,AP,AQ].toArray,[]⟩ W')) :
  (QB6 Tryz.f9 8).wp Tryz.prog Q ⟨[u0,u1,u2,u3,u4,u5,.pointer (some ⟨D,0,none⟩),u7,u8,.int .i64 (i:Int),.pointer (some ⟨X,0,none⟩),.pointer (some ⟨V,0,none⟩),.bool ok,.bool false,ID,IC,GL,GM,H8,IA,GN,GO,GK,Ey,Ez,E4,E5,E6,E7,E8,Ek,El,Em,En,Eo,Ep,Eq,Er,Es,EJ,EK,EL,EM,EO,Et,Eu,Ev,Ew,EP,EQ,ER,ET,EU,EV,EW,EX,EY,EZ,Ea,Eb,Ec,Ff,Fg,Fh,EI,Fi,Fj,Fr,Fs,Ft,Fu,Fv,Fw,Fx,Fy,Fz,F2,F4,F5,F6,F7,F8,F9,GA,GB,GC,GD,GE,GF,GG,Fk,Fl,Fm,Fn,Fo,Fp,Fq,GH,GI,GJ,AA,AB,AC,AE,AF,AG,AH,AI,AJ,AK,.int .i64 k,B3,B4,B5,B8,B9,CD,CH,CI,CJ,CK,CM,CQ,CU,CX,DM,DN,DO,DP,DR,DS,DU,DV,DW,DX,DY,DQ,DZ,Dm,Do,Dp,Dq,Dr,Dt,Du,Da,Db,Dc,Dd,Df,Dg,Dh,Di,Dj,Dk,Dl,CY,CZ,Ca,Cb,Cc,Cd,Ce,Cf,Cg,Ch,Ci,Cj,Ck,Cl,Cm,Cn,Co,Cp,Cq,Cr,Cs,Ct,Cu,Cv,Cw,Cx,Cy,Cz,DA,DE,DG,DI,DJ,DK,DL,Dv,Dw,Dx,Dy,Dz,D5,D8,D9,EA,EB,EC,ED,EE,EF,EG,As,At,Au,Av,Aw,Ay,AR,AS,AU,AV,AW,AX,AY,AZ,Aa,Ab,Ac,Ad,Ae,Af,Ag,Ah,Ai,Aj,Ak,Al,Am,An,Ao,Ap,Aq,Ar,Az,A3,A4,A5,A6,A7,A8,A9,BA,BC,BD,BE,BF,BG,BH,BI,BJ,BK,BM,BN,BO,BP,BQ,BR,BS,BT,BU,BV,BW,BY,BZ,Ba,Bb,Bc,Bd,Be,Bf,Bg,Bh,Bi,Bj,Bk,Bl,Bm,Bn,Bo,Bp,Bq,Br,Bs,Bt,Bu,Bv,Bw,Bx,By,Bz,AL,AM,AN,AO,AP,AQ].toArray,[]⟩ W:=by
 simp only [QB6,QAw,blk,Tryz.f9]
 simp only [Nat.reduceEqDiff,if_true,if_false]
 obtain ⟨d0,d1,d2,d3,d4,d5,d6,d7,d8⟩:=QB1 hX.out
 obtain ⟨f0,f1,f2,f3⟩:=QCH hV.out
 have hR:QDD d i k nm st nx l = (!QBX d nm st || !QBX d nm nx):=by unfold QDD;rw [if_neg (by omega),if_neg (by omega),if_neg (by omega),if_pos (by omega)]
 rw [hR] at hK
 obtain ⟨z0,z1,z2,z3,z4,z5,z6⟩:=QBt hD.out
 have SC:=hid (fun (Y:World) (hY:Below W.heap.size W Y) (q:ByteArray)=>QEP _ d nm q Y (hDV.out.below hY) h1 h2 h3.out)
 clear hR hso hix hok hV hX hS f0 f1 f2 f3 h1 h2 h3 hDV
 subst hk
 cases q1:QBX d nm st with
 | true =>
  rw [q1] at hK
  have S1:=hid (SC.out W (Below.refl _ _) st)
  rw [q1] at S1
  have S2:=hid (fun Y hY=>SC.out Y hY nx)
  cases q2:QBX d nm nx with
  | true =>
   rw [q2] at hK S2
   clear SC q1 q2 hD
   go_wp2_with first | (go_at_call 20;(with_reducible refine S1.out.mono ?_);rintro e w1 ⟨rfl,hb0⟩;have HB0:=hid hb0;have Z0:=QA1 hb0 z0;have Z1:=QA1 hb0 z1;have Z2:=QA1 hb0 z2;have Z3:=QA1 hb0 z3;have Z4:=QA1 hb0 z4;have Z5:=QA1 hb0 z5;have Z6:=QA1 hb0 z6;have D1:=QA1 hb0 d1;have D7:=QA1 hb0 d7;clear hb0 z0 z1 z2 z3 z4 z5 z6 d1 d7) | (go_at_call 20;(with_reducible refine (S2.out _ HB0.out).mono ?_);rintro e w2 ⟨rfl,hb1⟩;have HB1:=hid hb1;clear hb1)
   exact hK.out _ _ _ _ _ _ _ _ _ _ _ _ _ _ _ _ _ _ _ _ _ _ _ _ _ _ _ _ _ _ _ _ _ _ _ _ _ _ _ _ _ _ _ _ _ _ _ _ _ _ _ _ _ _ _ _ _ _ _ _ _ _ _ _ _ _ _ _ _ _ _ _ _ _ _ _ _ _ _ _ _ _ _ _ _ _ _ _ _ _ _ _ _ _ _ _ _ _ (HB0.out.trans (HB1.out.mono HB0.out.size))
  | false =>
   rw [q2] at hK S2
   clear SC q1 q2 hD
   go_wp2_with first | (go_at_call 20;(with_reducible refine S1.out.mono ?_);rintro e w1 ⟨rfl,hb0⟩;have HB0:=hid hb0;have Z0:=QA1 hb0 z0;have Z1:=QA1 hb0 z1;have Z2:=QA1 hb0 z2;have Z3:=QA1 hb0 z3;have Z4:=QA1 hb0 z4;have Z5:=QA1 hb0 z5;have Z6:=QA1 hb0 z6;have D1:=QA1 hb0 d1;have D7:=QA1 hb0 d7;clear hb0 z0 z1 z2 z3 z4 z5 z6 d1 d7) | (go_at_call 20;(with_reducible refine (S2.out _ HB0.out).mono ?_);rintro e w2 ⟨rfl,hb1⟩;have HB1:=hid hb1;clear hb1)
   exact hK.out _ _ _ _ _ _ _ _ _ _ _ _ _ _ _ _ _ _ _ _ _ _ _ _ _ _ _ _ _ _ _ _ _ _ _ _ _ _ _ _ _ _ _ _ _ _ _ _ _ _ _ _ _ _ _ _ _ _ _ _ _ _ _ _ _ _ _ _ _ _ _ _ _ _ _ _ _ _ _ _ _ _ _ _ _ _ _ _ _ _ _ _ _ _ _ _ _ _ (HB0.out.trans (HB1.out.mono HB0.out.size))
 | false =>
  rw [q1] at hK
  have S1:=hid (SC.out W (Below.refl _ _) st)
  rw [q1] at S1
  clear SC q1 hD
  go_wp2_with (go_at_call 20;(with_reducible refine S1.out.mono ?_);rintro e w1 ⟨rfl,hb0⟩;have HB0:=hid hb0;clear hb0)
  apply hK.out;exact HB0.out
set_option maxRecDepth 100000 in
theorem in8_0 (d:De) (D X V i:Nat) (k:Int) (hk:¬ (k = 1∨k = 2∨k = 3∨k = 4∨k = 5∨k = 6∨k = 7∨k = 8)) (nm st nx:ByteArray) (l:List ByteArray) (o:Option Addr) (n cap:Nat) (hln:Hid (l.length = n)) (nl:(n:Int)≤1000) (i2 i3 i4 i8 j0 j2:Value) (T T2:TypeId) (s ix:Int) (ok:Bool) (hso:Hid (s = (QAd d nm).sort)) (hix:Hid (ix = (QAd d nm).index)) (hok:Hid (ok = okV d nm))
  (g0 g1 g2 g3 g4 g5 g6:Value) (h1:d.params.length≤600) (h2:d.items.length≤600) (h3:Hid (∀ x∈d.items,x.states.length≤1000))
  (Q:Exit→Act→World→Prop) (W:World) (hX:Hid (W.heap[X]? = some (.cells #[.int .i64 k,.string nm,i2,i3,i4,.slice o n cap,.string st,.string nx,i8] T (0,0)))) (hS:Hid (StrsAt W (.slice o n cap) l)) (hV:Hid (W.heap[V]? = some (.cells #[j0,.int .i64 s,j2,.int .i64 ix] T2 (0,0))))
  (hD:Hid (W.heap[D]? = some (.cells #[g0,g1,g2,g3,g4,g5,g6] 36 (0,0)))) (hDV:Hid (DeVal W (.agg #[g0,g1,g2,g3,g4,g5,g6]) d))
  (hK:Hid (∀ (IJ IL GU GV GW GX GY GZ Ga Gb Gc Gd Ge Gf Gg Gh GP GQ GR GS E9 FE FG FH FI FJ FL GT FN Ed Ee Ef Eg Eh Ei Ej FO FR FU FW FX FY Fa Fb Fc Fd Fe Gi Gj Gk Gl Gm Gn Gp Gq Gr Gs Gt Gu Gv Gw Gx Gy Gz G8 G9 Ha Hb Hc Hd He Hf Hg Hh Hi Hj Hk Hl Hm Hn Ho Hp Hq Hr Hs Ht Hu Hv Hw Hx Hy Hz H3 H4 H5 H6 H7:Value) W',Below W.heap.size W W'→Q .normal ⟨[u0,u1,u2,u3,u4,u5,.pointer (some ⟨D,0,none⟩),u7,u8,.int .i64 (i:Int),.pointer (some ⟨X,0,none⟩),.pointer (some ⟨V,0,none⟩),.bool ok,.bool (QDD d i k nm st nx l),IJ,IL,GL,GM,H8,IA,GN,GO,GK,Ey,Ez,E4,E5,E6,E7,E8,Ek,El,Em,En,Eo,Ep,Eq,Er,Es,EJ,EK,EL,EM,EO,Et,Eu,Ev,Ew,EP,EQ,ER,ET,EU,EV,EW,EX,EY,EZ,Ea,Eb,Ec,Ff,Fg,Fh,EI,Fi,Fj,Fr,Fs,Ft,Fu,Fv,Fw,Fx,Fy,Fz,F2,F4,F5,F6,F7,F8,F9,GA,GB,GC,GD,GE,GF,GG,Fk,Fl,Fm,Fn,Fo,Fp,Fq,GH,GI,GJ,AA,AB,AC,AE,AF,AG,AH,AI,AJ,AK,.int .i64 k,GU,GV,GW,GX,GY,GZ,Ga,Gb,Gc,Gd,Ge,Gf,Gg,Gh,GP,GQ,GR,GS,E9,FE,FG,FH,FI,FJ,FL,GT,FN,Ed,Ee,Ef,Eg,Eh,Ei,Ej,FO,FR,FU,FW,FX,FY,Fa,Fb,Fc,Fd,Fe,Gi,Gj,Gk,Gl,Gm,Gn,Gp,Gq,Gr,Gs,Gt,Gu,Gv,Gw,Gx,Gy,Gz,G8,G9,Ha,Hb,Hc,Hd,He,Hf,Hg,Hh,Hi,Hj,Hk,Hl,Hm,Hn,Ho,Hp,Hq,Hr,Hs,Ht,Hu,Hv,Hw,Hx,Hy,Hz,H3,H4,H5,H6,H7,As,At,Au,Av,Aw,Ay,AR,AS,AU,AV,AW,AX,AY,AZ,Aa,Ab,Ac,Ad,Ae,Af,Ag,Ah,Ai,Aj,Ak,Al,Am,An,Ao,Ap,Aq,Ar,Az,A3,A4,A5,A6,A7,A8,A9,BA,BC,BD,BE,BF,BG,BH,BI,BJ,BK,BM,BN,BO,BP,BQ,BR,BS,BT,BU,BV,BW,BY,BZ,Ba,Bb,Bc,Bd,Be,Bf,Bg,Bh,Bi,Bj,Bk,Bl,Bm,Bn,Bo,Bp,Bq,Br,Bs,Bt,Bu,Bv,Bw,Bx,By,Bz,AL,AM,AN,AO,AP,AQ].toArray,[]⟩ W')) :
  (QB6 Tryz.f9 8).wp Tryz.prog Q ⟨[u0,u1,u2,u3,u4,u5,.pointer (some ⟨D,0,none⟩),u7,u8,.int .i64 (i:Int),.pointer (some ⟨X,0,none⟩),.pointer (some ⟨V,0,none⟩),.bool ok,.bool false,ID,IC,GL,GM,H8,IA,GN,GO,GK,Ey,Ez,E4,E5,E6,E7,E8,Ek,El,Em,En,Eo,Ep,Eq,Er,Es,EJ,EK,EL,EM,EO,Et,Eu,Ev,Ew,EP,EQ,ER,ET,EU,EV,EW,EX,EY,EZ,Ea,Eb,Ec,Ff,Fg,Fh,EI,Fi,Fj,Fr,Fs,Ft,Fu,Fv,Fw,Fx,Fy,Fz,F2,F4,F5,F6,F7,F8,F9,GA,GB,GC,GD,GE,GF,GG,Fk,Fl,Fm,Fn,Fo,Fp,Fq,GH,GI,GJ,AA,AB,AC,AE,AF,AG,AH,AI,AJ,AK,.int .i64 k,B3,B4,B5,B8,B9,CD,CH,CI,CJ,CK,CM,CQ,CU,CX,DM,DN,DO,DP,DR,DS,DU,DV,DW,DX,DY,DQ,DZ,Dm,Do,Dp,Dq,Dr,Dt,Du,Da,Db,Dc,Dd,Df,Dg,Dh,Di,Dj,Dk,Dl,CY,CZ,Ca,Cb,Cc,Cd,Ce,Cf,Cg,Ch,Ci,Cj,Ck,Cl,Cm,Cn,Co,Cp,Cq,Cr,Cs,Ct,Cu,Cv,Cw,Cx,Cy,Cz,DA,DE,DG,DI,DJ,DK,DL,Dv,Dw,Dx,Dy,Dz,D5,D8,D9,EA,EB,EC,ED,EE,EF,EG,As,At,Au,Av,Aw,Ay,AR,AS,AU,AV,AW,AX,AY,AZ,Aa,Ab,Ac,Ad,Ae,Af,Ag,Ah,Ai,Aj,Ak,Al,Am,An,Ao,Ap,Aq,Ar,Az,A3,A4,A5,A6,A7,A8,A9,BA,BC,BD,BE,BF,BG,BH,BI,BJ,BK,BM,BN,BO,BP,BQ,BR,BS,BT,BU,BV,BW,BY,BZ,Ba,Bb,Bc,Bd,Be,Bf,Bg,Bh,Bi,Bj,Bk,Bl,Bm,Bn,Bo,Bp,Bq,Br,Bs,Bt,Bu,Bv,Bw,Bx,By,Bz,AL,AM,AN,AO,AP,AQ].toArray,[]⟩ W:=by
 simp only [QB6,QAw,blk,Tryz.f9]
 simp only [Nat.reduceEqDiff,if_true,if_false]
 obtain ⟨d0,d1,d2,d3,d4,d5,d6,d7,d8⟩:=QB1 hX.out
 obtain ⟨f0,f1,f2,f3⟩:=QCH hV.out
 have hR:QDD d i k nm st nx l = false:=by unfold QDD;rw [if_neg (by omega),if_neg (by omega),if_neg (by omega),if_neg (by omega),if_neg (by omega)]
 rw [hR] at hK
 have k1:(k == 1) = false:=beq_false_of_ne (by omega)
 have k2:(k == 2) = false:=beq_false_of_ne (by omega)
 have k3:(k == 3) = false:=beq_false_of_ne (by omega)
 have k4:(k == 4) = false:=beq_false_of_ne (by omega)
 have k5:(k == 5) = false:=beq_false_of_ne (by omega)
 have k6:(k == 6) = false:=beq_false_of_ne (by omega)
 have k7:(k == 7) = false:=beq_false_of_ne (by omega)
 have k8:(k == 8) = false:=beq_false_of_ne (by omega)
 clear hR hso hix hok hD hDV hV hX hS h1 h2 h3 hk
 go_wp2_with fail
 exact hK.out _ _ _ _ _ _ _ _ _ _ _ _ _ _ _ _ _ _ _ _ _ _ _ _ _ _ _ _ _ _ _ _ _ _ _ _ _ _ _ _ _ _ _ _ _ _ _ _ _ _ _ _ _ _ _ _ _ _ _ _ _ _ _ _ _ _ _ _ _ _ _ _ _ _ _ _ _ _ _ _ _ _ _ _ _ _ _ _ _ _ _ _ _ _ _ _ _ _ (Below.refl _ _)
set_option maxRecDepth 100000 in
theorem in8 (d:De) (D X V i:Nat) (k:Int)  (nm st nx:ByteArray) (l:List ByteArray) (o:Option Addr) (n cap:Nat) (hln:Hid (l.length = n)) (nl:(n:Int)≤1000) (i2 i3 i4 i8 j0 j2:Value) (T T2:TypeId) (s ix:Int) (ok:Bool) (hso:Hid (s = (QAd d nm).sort)) (hix:Hid (ix = (QAd d nm).index)) (hok:Hid (ok = okV d nm))
  (g0 g1 g2 g3 g4 g5 g6:Value) (h1:d.params.length≤600) (h2:d.items.length≤600) (h3:Hid (∀ x∈d.items,x.states.length≤1000))
  (Q:Exit→Act→World→Prop) (W:World) (hX:Hid (W.heap[X]? = some (.cells #[.int .i64 k,.string nm,i2,i3,i4,.slice o n cap,.string st,.string nx,i8] T (0,0)))) (hS:Hid (StrsAt W (.slice o n cap) l)) (hV:Hid (W.heap[V]? = some (.cells #[j0,.int .i64 s,j2,.int .i64 ix] T2 (0,0))))
  (hD:Hid (W.heap[D]? = some (.cells #[g0,g1,g2,g3,g4,g5,g6] 36 (0,0)))) (hDV:Hid (DeVal W (.agg #[g0,g1,g2,g3,g4,g5,g6]) d))
  (hK:Hid (∀ (IJ IL GU GV GW GX GY GZ Ga Gb Gc Gd Ge Gf Gg Gh GP GQ GR GS E9 FE FG FH FI FJ FL GT FN Ed Ee Ef Eg Eh Ei Ej FO FR FU FW FX FY Fa Fb Fc Fd Fe Gi Gj Gk Gl Gm Gn Gp Gq Gr Gs Gt Gu Gv Gw Gx Gy Gz G8 G9 Ha Hb Hc Hd He Hf Hg Hh Hi Hj Hk Hl Hm Hn Ho Hp Hq Hr Hs Ht Hu Hv Hw Hx Hy Hz H3 H4 H5 H6 H7:Value) W',Below W.heap.size W W'→Q .normal ⟨[u0,u1,u2,u3,u4,u5,.pointer (some ⟨D,0,none⟩),u7,u8,.int .i64 (i:Int),.pointer (some ⟨X,0,none⟩),.pointer (some ⟨V,0,none⟩),.bool ok,.bool (QDD d i k nm st nx l),IJ,IL,GL,GM,H8,IA,GN,GO,GK,Ey,Ez,E4,E5,E6,E7,E8,Ek,El,Em,En,Eo,Ep,Eq,Er,Es,EJ,EK,EL,EM,EO,Et,Eu,Ev,Ew,EP,EQ,ER,ET,EU,EV,EW,EX,EY,EZ,Ea,Eb,Ec,Ff,Fg,Fh,EI,Fi,Fj,Fr,Fs,Ft,Fu,Fv,Fw,Fx,Fy,Fz,F2,F4,F5,F6,F7,F8,F9,GA,GB,GC,GD,GE,GF,GG,Fk,Fl,Fm,Fn,Fo,Fp,Fq,GH,GI,GJ,AA,AB,AC,AE,AF,AG,AH,AI,AJ,AK,.int .i64 k,GU,GV,GW,GX,GY,GZ,Ga,Gb,Gc,Gd,Ge,Gf,Gg,Gh,GP,GQ,GR,GS,E9,FE,FG,FH,FI,FJ,FL,GT,FN,Ed,Ee,Ef,Eg,Eh,Ei,Ej,FO,FR,FU,FW,FX,FY,Fa,Fb,Fc,Fd,Fe,Gi,Gj,Gk,Gl,Gm,Gn,Gp,Gq,Gr,Gs,Gt,Gu,Gv,Gw,Gx,Gy,Gz,G8,G9,Ha,Hb,Hc,Hd,He,Hf,Hg,Hh,Hi,Hj,Hk,Hl,Hm,Hn,Ho,Hp,Hq,Hr,Hs,Ht,Hu,Hv,Hw,Hx,Hy,Hz,H3,H4,H5,H6,H7,As,At,Au,Av,Aw,Ay,AR,AS,AU,AV,AW,AX,AY,AZ,Aa,Ab,Ac,Ad,Ae,Af,Ag,Ah,Ai,Aj,Ak,Al,Am,An,Ao,Ap,Aq,Ar,Az,A3,A4,A5,A6,A7,A8,A9,BA,BC,BD,BE,BF,BG,BH,BI,BJ,BK,BM,BN,BO,BP,BQ,BR,BS,BT,BU,BV,BW,BY,BZ,Ba,Bb,Bc,Bd,Be,Bf,Bg,Bh,Bi,Bj,Bk,Bl,Bm,Bn,Bo,Bp,Bq,Br,Bs,Bt,Bu,Bv,Bw,Bx,By,Bz,AL,AM,AN,AO,AP,AQ].toArray,[]⟩ W')) :
  (QB6 Tryz.f9 8).wp Tryz.prog Q ⟨[u0,u1,u2,u3,u4,u5,.pointer (some ⟨D,0,none⟩),u7,u8,.int .i64 (i:Int),.pointer (some ⟨X,0,none⟩),.pointer (some ⟨V,0,none⟩),.bool ok,.bool false,ID,IC,GL,GM,H8,IA,GN,GO,GK,Ey,Ez,E4,E5,E6,E7,E8,Ek,El,Em,En,Eo,Ep,Eq,Er,Es,EJ,EK,EL,EM,EO,Et,Eu,Ev,Ew,EP,EQ,ER,ET,EU,EV,EW,EX,EY,EZ,Ea,Eb,Ec,Ff,Fg,Fh,EI,Fi,Fj,Fr,Fs,Ft,Fu,Fv,Fw,Fx,Fy,Fz,F2,F4,F5,F6,F7,F8,F9,GA,GB,GC,GD,GE,GF,GG,Fk,Fl,Fm,Fn,Fo,Fp,Fq,GH,GI,GJ,AA,AB,AC,AE,AF,AG,AH,AI,AJ,AK,.int .i64 k,B3,B4,B5,B8,B9,CD,CH,CI,CJ,CK,CM,CQ,CU,CX,DM,DN,DO,DP,DR,DS,DU,DV,DW,DX,DY,DQ,DZ,Dm,Do,Dp,Dq,Dr,Dt,Du,Da,Db,Dc,Dd,Df,Dg,Dh,Di,Dj,Dk,Dl,CY,CZ,Ca,Cb,Cc,Cd,Ce,Cf,Cg,Ch,Ci,Cj,Ck,Cl,Cm,Cn,Co,Cp,Cq,Cr,Cs,Ct,Cu,Cv,Cw,Cx,Cy,Cz,DA,DE,DG,DI,DJ,DK,DL,Dv,Dw,Dx,Dy,Dz,D5,D8,D9,EA,EB,EC,ED,EE,EF,EG,As,At,Au,Av,Aw,Ay,AR,AS,AU,AV,AW,AX,AY,AZ,Aa,Ab,Ac,Ad,Ae,Af,Ag,Ah,Ai,Aj,Ak,Al,Am,An,Ao,Ap,Aq,Ar,Az,A3,A4,A5,A6,A7,A8,A9,BA,BC,BD,BE,BF,BG,BH,BI,BJ,BK,BM,BN,BO,BP,BQ,BR,BS,BT,BU,BV,BW,BY,BZ,Ba,Bb,Bc,Bd,Be,Bf,Bg,Bh,Bi,Bj,Bk,Bl,Bm,Bn,Bo,Bp,Bq,Br,Bs,Bt,Bu,Bv,Bw,Bx,By,Bz,AL,AM,AN,AO,AP,AQ].toArray,[]⟩ W:=by
 by_cases k1:k = 1
 ·exact in8_1 d D X V i k k1 nm st nx l o n cap hln nl i2 i3 i4 i8 j0 j2 T T2 s ix ok hso hix hok g0 g1 g2 g3 g4 g5 g6 h1 h2 h3 Q W hX hS hV hD hDV hK
 by_cases k2:k = 2
 ·exact in8_2 d D X V i k k2 nm st nx l o n cap hln nl i2 i3 i4 i8 j0 j2 T T2 s ix ok hso hix hok g0 g1 g2 g3 g4 g5 g6 h1 h2 h3 Q W hX hS hV hD hDV hK
 by_cases k3:k = 3
 ·exact in8_3 d D X V i k k3 nm st nx l o n cap hln nl i2 i3 i4 i8 j0 j2 T T2 s ix ok hso hix hok g0 g1 g2 g3 g4 g5 g6 h1 h2 h3 Q W hX hS hV hD hDV hK
 by_cases k4:k = 4
 ·exact in8_4 d D X V i k k4 nm st nx l o n cap hln nl i2 i3 i4 i8 j0 j2 T T2 s ix ok hso hix hok g0 g1 g2 g3 g4 g5 g6 h1 h2 h3 Q W hX hS hV hD hDV hK
 by_cases k5:k = 5
 ·exact in8_5 d D X V i k k5 nm st nx l o n cap hln nl i2 i3 i4 i8 j0 j2 T T2 s ix ok hso hix hok g0 g1 g2 g3 g4 g5 g6 h1 h2 h3 Q W hX hS hV hD hDV hK
 by_cases k6:k = 6
 ·exact in8_6 d D X V i k k6 nm st nx l o n cap hln nl i2 i3 i4 i8 j0 j2 T T2 s ix ok hso hix hok g0 g1 g2 g3 g4 g5 g6 h1 h2 h3 Q W hX hS hV hD hDV hK
 by_cases k7:k = 7
 ·exact in8_7 d D X V i k k7 nm st nx l o n cap hln nl i2 i3 i4 i8 j0 j2 T T2 s ix ok hso hix hok g0 g1 g2 g3 g4 g5 g6 h1 h2 h3 Q W hX hS hV hD hDV hK
 by_cases k8:k = 8
 ·exact in8_8 d D X V i k k8 nm st nx l o n cap hln nl i2 i3 i4 i8 j0 j2 T T2 s ix ok hso hix hok g0 g1 g2 g3 g4 g5 g6 h1 h2 h3 Q W hX hS hV hD hDV hK
 exact in8_0 d D X V i k (by omega) nm st nx l o n cap hln nl i2 i3 i4 i8 j0 j2 T T2 s ix ok hso hix hok g0 g1 g2 g3 g4 g5 g6 h1 h2 h3 Q W hX hS hV hD hDV hK
set_option maxRecDepth 100000 in
theorem in7 (p:Pr) (hs:Hid (Small p)) (d:De) (D i:Nat) (x:It) (v0:Value) (P:Int→Prop) (hP:Hid (∀ a,P a→a∈QDC p))
  (np cp:Nat) (op oi:Option Addr) (ni ci bi offi:Nat) (nil:(ni:Int)≤600) (hlt:i < ni) (hi:Hid (0 < ni→oi = some ⟨bi,offi,none⟩))
  (g0 g1 g4 g5 g6:Value) (h1:d.params.length≤600) (h2:d.items.length≤600) (h3:Hid (∀ x∈d.items,x.states.length≤1000)) (hx3:(x.states.length:Int)≤1000)
  (Q:Exit→Act→World→Prop) (W:World) (hXA:Hid (ItAt W bi (offi+i*9) x))
  (hD:Hid (W.heap[D]? = some (.cells #[g0,g1,.slice op np cp,.slice oi ni ci,g4,g5,g6] 36 (0,0)))) (hDV:Hid (DeVal W (.agg #[g0,g1,.slice op np cp,.slice oi ni ci,g4,g5,g6]) d)) (hF:Hid (FlGot W v0 P))
  (hK:Hid (∀ (v3 J7 J8 J9 KA IJ IL Kf Kg Kh JV JW JX JY JZ Ja Jb Jc Jd Je Jf GU GV GW GX GY GZ Ga Gb Gc Gd Ge Gf Gg Gh GP GQ GR GS E9 FE FG FH FI FJ FL GT FN Ed Ee Ef Eg Eh Ei Ej FO FR FU FW FX FY Fa Fb Fc Fd Fe Gi Gj Gk Gl Gm Gn Gp Gq Gr Gs Gt Gu Gv Gw Gx Gy Gz G8 G9 Ha Hb Hc Hd He Hf Hg Hh Hi Hj Hk Hl Hm Hn Ho Hp Hq Hr Hs Ht Hu Hv Hw Hx Hy Hz H3 H4 H5 H6 H7 IN IO IP IQ IR IT:Value) W',FlGot W' v3 (fun a=>P a∨(QDD d i x.kind x.name x.state x.next x.states = true∧a = x.pos))→Below W.heap.size W W'→Q .normal ⟨[u0,u1,u2,v3,u4,u5,.pointer (some ⟨D,0,none⟩),u7,u8,.int .i64 (i:Int),J7,J8,J9,KA,IJ,IL,GL,GM,H8,IA,GN,GO,GK,Ey,Ez,E4,E5,E6,E7,E8,Ek,El,Em,En,Eo,Ep,Eq,Er,Es,EJ,EK,EL,EM,EO,Et,Eu,Ev,Ew,EP,EQ,ER,ET,EU,EV,EW,EX,EY,EZ,Ea,Eb,Ec,Ff,Fg,Fh,EI,Fi,Fj,Fr,Fs,Ft,Fu,Fv,Fw,Fx,Fy,Fz,F2,F4,F5,F6,F7,F8,F9,GA,GB,GC,GD,GE,GF,GG,Fk,Fl,Fm,Fn,Fo,Fp,Fq,Kf,Kg,Kh,JV,JW,JX,JY,JZ,Ja,Jb,Jc,Jd,Je,Jf,GU,GV,GW,GX,GY,GZ,Ga,Gb,Gc,Gd,Ge,Gf,Gg,Gh,GP,GQ,GR,GS,E9,FE,FG,FH,FI,FJ,FL,GT,FN,Ed,Ee,Ef,Eg,Eh,Ei,Ej,FO,FR,FU,FW,FX,FY,Fa,Fb,Fc,Fd,Fe,Gi,Gj,Gk,Gl,Gm,Gn,Gp,Gq,Gr,Gs,Gt,Gu,Gv,Gw,Gx,Gy,Gz,G8,G9,Ha,Hb,Hc,Hd,He,Hf,Hg,Hh,Hi,Hj,Hk,Hl,Hm,Hn,Ho,Hp,Hq,Hr,Hs,Ht,Hu,Hv,Hw,Hx,Hy,Hz,H3,H4,H5,H6,H7,IN,IO,IP,IQ,IR,IT,AR,AS,AU,AV,AW,AX,AY,AZ,Aa,Ab,Ac,Ad,Ae,Af,Ag,Ah,Ai,Aj,Ak,Al,Am,An,Ao,Ap,Aq,Ar,Az,A3,A4,A5,A6,A7,A8,A9,BA,BC,BD,BE,BF,BG,BH,BI,BJ,BK,BM,BN,BO,BP,BQ,BR,BS,BT,BU,BV,BW,BY,BZ,Ba,Bb,Bc,Bd,Be,Bf,Bg,Bh,Bi,Bj,Bk,Bl,Bm,Bn,Bo,Bp,Bq,Br,Bs,Bt,Bu,Bv,Bw,Bx,By,Bz,AL,AM,AN,AO,AP,AQ].toArray,[]⟩ W')) :
  (QB6 Tryz.f9 7).wp Tryz.prog Q ⟨[u0,u1,u2,v0,u4,u5,.pointer (some ⟨D,0,none⟩),u7,u8,.int .i64 (i:Int),IG,IE,IF,II,ID,IC,GL,GM,H8,IA,GN,GO,GK,Ey,Ez,E4,E5,E6,E7,E8,Ek,El,Em,En,Eo,Ep,Eq,Er,Es,EJ,EK,EL,EM,EO,Et,Eu,Ev,Ew,EP,EQ,ER,ET,EU,EV,EW,EX,EY,EZ,Ea,Eb,Ec,Ff,Fg,Fh,EI,Fi,Fj,Fr,Fs,Ft,Fu,Fv,Fw,Fx,Fy,Fz,F2,F4,F5,F6,F7,F8,F9,GA,GB,GC,GD,GE,GF,GG,Fk,Fl,Fm,Fn,Fo,Fp,Fq,GH,GI,GJ,AA,AB,AC,AE,AF,AG,AH,AI,AJ,AK,EH,B3,B4,B5,B8,B9,CD,CH,CI,CJ,CK,CM,CQ,CU,CX,DM,DN,DO,DP,DR,DS,DU,DV,DW,DX,DY,DQ,DZ,Dm,Do,Dp,Dq,Dr,Dt,Du,Da,Db,Dc,Dd,Df,Dg,Dh,Di,Dj,Dk,Dl,CY,CZ,Ca,Cb,Cc,Cd,Ce,Cf,Cg,Ch,Ci,Cj,Ck,Cl,Cm,Cn,Co,Cp,Cq,Cr,Cs,Ct,Cu,Cv,Cw,Cx,Cy,Cz,DA,DE,DG,DI,DJ,DK,DL,Dv,Dw,Dx,Dy,Dz,D5,D8,D9,EA,EB,EC,ED,EE,EF,EG,As,At,Au,Av,Aw,Ay,AR,AS,AU,AV,AW,AX,AY,AZ,Aa,Ab,Ac,Ad,Ae,Af,Ag,Ah,Ai,Aj,Ak,Al,Am,An,Ao,Ap,Aq,Ar,Az,A3,A4,A5,A6,A7,A8,A9,BA,BC,BD,BE,BF,BG,BH,BI,BJ,BK,BM,BN,BO,BP,BQ,BR,BS,BT,BU,BV,BW,BY,BZ,Ba,Bb,Bc,Bd,Be,Bf,Bg,Bh,Bi,Bj,Bk,Bl,Bm,Bn,Bo,Bp,Bq,Br,Bs,Bt,Bu,Bv,Bw,Bx,By,Bz,AL,AM,AN,AO,AP,AQ].toArray,[]⟩ W:=by
 simp only [QB6,QAw,blk,Tryz.f9]
 simp only [Nat.reduceEqDiff,if_true,if_false]
 obtain ⟨sv,e0,e1,e2,e3,e4,e5,e6,e7,e8,hst,hok⟩:=id hXA.out
 obtain ⟨os,caps,bs,offs,rfl,_⟩:=id hst
 obtain ⟨z0,z1,z2,z3,z4,z5,z6⟩:=QBt hD.out
 have ix:=QEL (cap:=ci) hi.out hlt (by omega)
 unfold Ix at ix
 obtain ⟨XB,hXB⟩:∃ XB,XB = Obj.cells #[.int .i64 x.kind,.string x.name,.int .i64 x.type,.int .i64 x.e,.int .i64 x.f,.slice os x.states.length caps,.string x.state,.string x.next,.int .i64 x.pos] 57 (0,0):=⟨_,rfl⟩
 have HXB:=hid hXB
 have H1:Hid (Below W.heap.size W (W.alloc XB)∧(W.alloc XB).heap[W.heap.size]? = some XB):=hid ⟨QA5 (Below.refl W.heap.size W) _,QAR rfl⟩
 rw [hXB] at H1
 have HST:=hid hst
 clear hst hok hXA
 go_upto_region 23 with fail
 rw [← hXB] at H1 ⊢
 obtain ⟨W1,hW1⟩:∃ W1,W1 = W.alloc XB:=⟨_,rfl⟩
 obtain ⟨E,hE⟩:∃ E,E = W.heap.size:=⟨_,rfl⟩
 rw [← hW1,← hE] at H1 ⊢
 have hb1:Below W.heap.size W W1:=by rw [hW1];exact QA5 (Below.refl W.heap.size W) _
 have hEB:W1.heap[E]? = some XB:=H1.out.2
 rw [HXB.out] at hEB
 obtain ⟨y0,y1,y2,y3,y4,y5,y6,y7,y8⟩:=QB1 hEB
 have HB1:=hid hb1
 have HEB:=hid hEB
 have hD1:Hid (W1.heap[D]? = some (.cells #[g0,g1,.slice op np cp,.slice oi ni ci,g4,g5,g6] 36 (0,0))):=hid ((hb1.block D (lt_of_heap hD.out)).trans hD.out)
 have hDV1:=hid (hDV.out.below hb1)
 have hF1:=hid (hF.out.below hb1)
 have hS1:=hid (HST.out.below hb1)
 clear e0 e1 e2 e3 e4 e5 e6 e7 e8 z0 z1 z2 z3 z4 z5 z6 ix hW1 hE hEB hXB H1 hD hDV hF HST hb1
 obtain ⟨z0,z1,z2,z3,z4,z5,z6⟩:=QBt hD1.out
 have FT:=hid (QHe _ d x.name W1 hDV1.out h1 h2)
 unfold QMw at FT
 go_cut [11,12] from 102 to 108 (fun Jy Jz wx=>∃ (V:Nat) (ok:Bool) (s ix:Int) (j0 j2:Value),Jy = .pointer (some ⟨V,0,none⟩)∧Jz = .bool ok∧Hid (s = (QAd d x.name).sort)∧Hid (ix = (QAd d x.name).index)∧Hid (ok = okV d x.name)∧Hid (Below W1.heap.size W1 wx)∧Hid (wx.heap[V]? = some (.cells #[j0,.int .i64 s,j2,.int .i64 ix] 67 (0,0))))
 case first =>
  go_wp2_with (go_at_call 19;(with_reducible refine FT.out.mono ?_);rintro e w1 ⟨n0,s,t,xx,ok,rfl,hs1,hx1,hok1,hb1⟩;have HS1:=hid hs1;have HX1:=hid hx1;have HO1:=hid hok1;have HB2:=hid hb1;clear hs1 hx1 hok1 hb1)
  go_meet
  case rel=>exact ⟨w1.heap.size,ok,s,xx,_,_,rfl,rfl,HS1,HX1,HO1,hid (QA5 HB2.out _),hid (QAR rfl)⟩
 case rest =>
  obtain ⟨V,ok,s,xx,j0,j2,rfl,rfl,HS1,HX1,HO1,HB2,HV⟩:=hcut
  clear FT z0 z1 z2 z3 z4 z5 z6 y0 y1 y2 y3 y4 y5 y6 y7 y8
  have hE2:=hid ((HB2.out.block E (lt_of_heap HEB.out)).trans HEB.out)
  have hD2:=hid ((HB2.out.block D (lt_of_heap hD1.out)).trans hD1.out)
  have hDV2:=hid (hDV1.out.below HB2.out)
  have hF2:=hid (hF1.out.below HB2.out)
  have hS2:=hid (hS1.out.below HB2.out)
  have HB3:=hid (HB1.out.trans (HB2.out.mono HB1.out.size))
  obtain ⟨y0,y1,y2,y3,y4,y5,y6,y7,y8⟩:=QB1 hE2.out
  go_upto_block 8 with fail
  rename_i K8 hK8
  refine in8 d (D:=D) (X:=E) (V:=V) (i:=i) (k:=x.kind) (nm:=x.name) (st:=x.state) (nx:=x.next) (l:=x.states) (o:=os) (n:=x.states.length) (cap:=caps) (hid rfl) hx3 _ _ _ _ _ _ (T:=57) (T2:=67) (s:=s) (ix:=xx) (ok:=ok) HS1 HX1 HO1 (g0:=g0) (g1:=g1) (g2:=.slice op np cp) (g3:=.slice oi ni ci) (g4:=g4) (g5:=g5) (g6:=g6) h1 h2 h3 (W:=wc) (hX:=hE2) (hS:=hS2) (hV:=HV) (hD:=hD2) (hDV:=hDV2) (hK:=hid ?_)
  intros
  rename_i W4 hb4
  dsimp only
  have hE4:=hid ((hb4.block E (lt_of_heap hE2.out)).trans hE2.out)
  have hF4:=hid (hF2.out.below hb4)
  refine hK8 _ _ ?_
  refine in46 p hs (E:=E) (v0:=v0) (P:=P) (hP:=hP) (pos:=x.pos) (T:=57) (W:=W4) (hX:=hE4) (hF:=hF4) (hK:=hid ?_)
  intros
  rename_i v9 _ _ _ _ _ _ W6 hg6 hb6
  dsimp only
  go_wp2_with fail
  exact hK.out v9 _ _ _ _ _ _ _ _ _ _ _ _ _ _ _ _ _ _ _ _ _ _ _ _ _ _ _ _ _ _ _ _ _ _ _ _ _ _ _ _ _ _ _ _ _ _ _ _ _ _ _ _ _ _ _ _ _ _ _ _ _ _ _ _ _ _ _ _ _ _ _ _ _ _ _ _ _ _ _ _ _ _ _ _ _ _ _ _ _ _ _ _ _ _ _ _ _ _ _ _ _ _ _ _ _ _ _ _ _ _ _ _ _ _ _ _ _ _ _ _ _ _ hg6 ((HB3.out.trans (hb4.mono HB3.out.size)).trans (hb6.mono (Nat.le_trans HB3.out.size hb4.size)))
end
end Go.Proofs.YtknbghjoncomiaaGreat
