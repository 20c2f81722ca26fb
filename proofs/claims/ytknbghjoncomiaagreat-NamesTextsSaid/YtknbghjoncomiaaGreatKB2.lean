/- Joined: NmIn6, NmIn1, NmRefF2, NmRefMayJ, NmRefR, NmExG, NmAliveG, NmAliveN, NmLawT. -/
import Derived.Test.YtknbghjoncomiaaGreatKB1
import Derived.Test.YtknbghjoncomiaaGreatKB0
import Derived.Test.YtknbghjoncomiaaGreatKA6
import Derived.Test.YtknbghjoncomiaaGreatKA5
import Derived.Test.YtknbghjoncomiaaGreatKB4
namespace Go.Proofs.YtknbghjoncomiaaGreat
variable {u0 u1 u2 u4 u5 u6 u7 u8 u9 IG IE IF II ID IC GL GM H8 IA GN GO GK Ey Ez E4 E5 E6 E7 E8 Ek El Em En Eo Ep Eq Er Es EJ EK EL EM EO Et Eu Ev Ew EP EQ ER ET EU EV EW EX EY EZ Ea Eb Ec Ff Fg Fh EI Fi Fj Fr Fs Ft Fu Fv Fw Fx Fy Fz F2 F4 F5 F6 F7 F8 F9 GA GB GC GD GE GF GG Fk Fl Fm Fn Fo Fp Fq GH GI GJ AA AB AC AE AF AG AH AI AJ AK EH B3 B4 B5 B8 B9 CD CH CI CJ CK CM CQ CU CX DM DN DO DP DR DS DU DV DW DX DY DQ DZ Dm Do Dp Dq Dr Dt Du Da Db Dc Dd Df Dg Dh Di Dj Dk Dl CY CZ Ca Cb Cc Cd Ce Cf Cg Ch Ci Cj Ck Cl Cm Cn Co Cp Cq Cr Cs Ct Cu Cv Cw Cx Cy Cz DA DE DG DI DJ DK DL Dv Dw Dx Dy Dz D5 D8 D9 EA EB EC ED EE EF EG As At Au Av Aw Ay AR AS AU AV AW AX AY AZ Aa Ab Ac Ad Ae Af Ag Ah Ai Aj Ak Al Am An Ao Ap Aq Ar Az A3 A4 A5 A6 A7 A8 A9 BA BC BD BE BF BG BH BI BJ BK BM BN BO BP BQ BR BS BT BU BV BW BY BZ Ba Bb Bc Bd Be Bf Bg Bh Bi Bj Bk Bl Bm Bn Bo Bp Bq Br Bs Bt Bu Bv Bw Bx By Bz AL AM AN AO AP AQ:Value}
section
open Go.Lib (hid)
open Go.RowKit Lx Go.Shelf Go.Maps
attribute [local go_sem] Oper.semAt_some
set_option linter.unusedVariables false
set_option maxHeartbeats 16000000
set_option maxRecDepth 100000 in
theorem in6 (p:Pr) (hs:Hid (Small p)) (d:De) (hdm:Hid (d∈p.decls)) (D:Nat) (v0:Value) (P:Int→Prop) (hP:Hid (∀ a,P a→a∈QDC p))
  (np cp:Nat) (op oi:Option Addr) (ni ci bi offi:Nat) (nil:(ni:Int)≤600) (hni:Hid (d.items.length = ni)) (hi:Hid (0 < ni→oi = some ⟨bi,offi,none⟩))
  (g0 g1 g4 g5 g6:Value) (h1:d.params.length≤600) (h2:d.items.length≤600) (h3:Hid (∀ x∈d.items,x.states.length≤1000))
  (Q:Exit→Act→World→Prop) (W:World) (hic:Hid (∀ i,i < ni→∀ y,d.items[i]? = some y→ItAt W bi (offi+i*9) y))
  (hD:Hid (W.heap[D]? = some (.cells #[g0,g1,.slice op np cp,.slice oi ni ci,g4,g5,g6] 36 (0,0)))) (hDV:Hid (DeVal W (.agg #[g0,g1,.slice op np cp,.slice oi ni ci,g4,g5,g6]) d)) (hF:Hid (FlGot W v0 P))
  (hK:Hid (∀ (v3 v9 J7 J8 J9 KA IJ IL LO LP LQ LR LS LU LW Kf Kg Kh JV JW JX JY JZ Ja Jb Jc Jd Je Jf GU GV GW GX GY GZ Ga Gb Gc Gd Ge Gf Gg Gh GP GQ GR GS E9 FE FG FH FI FJ FL GT FN Ed Ee Ef Eg Eh Ei Ej FO FR FU FW FX FY Fa Fb Fc Fd Fe Gi Gj Gk Gl Gm Gn Gp Gq Gr Gs Gt Gu Gv Gw Gx Gy Gz G8 G9 Ha Hb Hc Hd He Hf Hg Hh Hi Hj Hk Hl Hm Hn Ho Hp Hq Hr Hs Ht Hu Hv Hw Hx Hy Hz H3 H4 H5 H6 H7 IN IO IP IQ IR IT:Value) W',FlGot W' v3 (fun a=>P a∨QES d ni a)→Below W.heap.size W W'→Q .normal ⟨[u0,u1,u2,v3,u4,u5,.pointer (some ⟨D,0,none⟩),u7,u8,v9,J7,J8,J9,KA,IJ,IL,GL,GM,H8,IA,GN,GO,GK,Ey,Ez,E4,E5,E6,E7,E8,Ek,El,Em,En,Eo,Ep,Eq,Er,Es,EJ,EK,EL,EM,EO,Et,Eu,Ev,Ew,EP,EQ,ER,ET,EU,EV,EW,EX,EY,EZ,Ea,Eb,Ec,Ff,Fg,Fh,EI,Fi,Fj,Fr,Fs,Ft,Fu,Fv,Fw,Fx,Fy,Fz,F2,F4,F5,F6,F7,F8,F9,GA,GB,GC,GD,GE,GF,GG,LO,LP,LQ,LR,LS,LU,LW,Kf,Kg,Kh,JV,JW,JX,JY,JZ,Ja,Jb,Jc,Jd,Je,Jf,GU,GV,GW,GX,GY,GZ,Ga,Gb,Gc,Gd,Ge,Gf,Gg,Gh,GP,GQ,GR,GS,E9,FE,FG,FH,FI,FJ,FL,GT,FN,Ed,Ee,Ef,Eg,Eh,Ei,Ej,FO,FR,FU,FW,FX,FY,Fa,Fb,Fc,Fd,Fe,Gi,Gj,Gk,Gl,Gm,Gn,Gp,Gq,Gr,Gs,Gt,Gu,Gv,Gw,Gx,Gy,Gz,G8,G9,Ha,Hb,Hc,Hd,He,Hf,Hg,Hh,Hi,Hj,Hk,Hl,Hm,Hn,Ho,Hp,Hq,Hr,Hs,Ht,Hu,Hv,Hw,Hx,Hy,Hz,H3,H4,H5,H6,H7,IN,IO,IP,IQ,IR,IT,AR,AS,AU,AV,AW,AX,AY,AZ,Aa,Ab,Ac,Ad,Ae,Af,Ag,Ah,Ai,Aj,Ak,Al,Am,An,Ao,Ap,Aq,Ar,Az,A3,A4,A5,A6,A7,A8,A9,BA,BC,BD,BE,BF,BG,BH,BI,BJ,BK,BM,BN,BO,BP,BQ,BR,BS,BT,BU,BV,BW,BY,BZ,Ba,Bb,Bc,Bd,Be,Bf,Bg,Bh,Bi,Bj,Bk,Bl,Bm,Bn,Bo,Bp,Bq,Br,Bs,Bt,Bu,Bv,Bw,Bx,By,Bz,AL,AM,AN,AO,AP,AQ].toArray,[]⟩ W')) :
  (QB6 Tryz.f9 6).wp Tryz.prog Q ⟨[u0,u1,u2,v0,u4,u5,.pointer (some ⟨D,0,none⟩),u7,u8,.int .i64 0,IG,IE,IF,II,ID,IC,GL,GM,H8,IA,GN,GO,GK,Ey,Ez,E4,E5,E6,E7,E8,Ek,El,Em,En,Eo,Ep,Eq,Er,Es,EJ,EK,EL,EM,EO,Et,Eu,Ev,Ew,EP,EQ,ER,ET,EU,EV,EW,EX,EY,EZ,Ea,Eb,Ec,Ff,Fg,Fh,EI,Fi,Fj,Fr,Fs,Ft,Fu,Fv,Fw,Fx,Fy,Fz,F2,F4,F5,F6,F7,F8,F9,GA,GB,GC,GD,GE,GF,GG,Fk,Fl,Fm,Fn,Fo,Fp,Fq,GH,GI,GJ,AA,AB,AC,AE,AF,AG,AH,AI,AJ,AK,EH,B3,B4,B5,B8,B9,CD,CH,CI,CJ,CK,CM,CQ,CU,CX,DM,DN,DO,DP,DR,DS,DU,DV,DW,DX,DY,DQ,DZ,Dm,Do,Dp,Dq,Dr,Dt,Du,Da,Db,Dc,Dd,Df,Dg,Dh,Di,Dj,Dk,Dl,CY,CZ,Ca,Cb,Cc,Cd,Ce,Cf,Cg,Ch,Ci,Cj,Ck,Cl,Cm,Cn,Co,Cp,Cq,Cr,Cs,Ct,Cu,Cv,Cw,Cx,Cy,Cz,DA,DE,DG,DI,DJ,DK,DL,Dv,Dw,Dx,Dy,Dz,D5,D8,D9,EA,EB,EC,ED,EE,EF,EG,As,At,Au,Av,Aw,Ay,AR,AS,AU,AV,AW,AX,AY,AZ,Aa,Ab,Ac,Ad,Ae,Af,Ag,Ah,Ai,Aj,Ak,Al,Am,An,Ao,Ap,Aq,Ar,Az,A3,A4,A5,A6,A7,A8,A9,BA,BC,BD,BE,BF,BG,BH,BI,BJ,BK,BM,BN,BO,BP,BQ,BR,BS,BT,BU,BV,BW,BY,BZ,Ba,Bb,Bc,Bd,Be,Bf,Bg,Bh,Bi,Bj,Bk,Bl,Bm,Bn,Bo,Bp,Bq,Br,Bs,Bt,Bu,Bv,Bw,Bx,By,Bz,AL,AM,AN,AO,AP,AQ].toArray,[]⟩ W:=by
 simp only [QB6,QAw,blk,Tryz.f9]
 simp only [Nat.reduceEqDiff,if_true,if_false]
 go_wp2_with fail
 go_loopw [3,9] (fun fv iv Y=>∃ (c:Nat) (v:Value),v = fv∧iv = .int .i64 (c:Int)∧c≤ni∧Hid (FlGot Y v (fun a=>P a∨QES d c a))∧Hid (Below W.heap.size W Y)) (fun _ i _=>ni - QA2 i)
 case atStart=>exact ⟨0,_,rfl,rfl,Nat.zero_le _,hid (hF.out.ext fun a=>⟨fun h=>.inl h,fun h=>h.elim id fun ⟨_,_,h,_⟩=>by omega⟩),hid (Below.refl _ _)⟩
 case round =>
  obtain ⟨c,v,rfl,rfl,hc,hG,hBl⟩:=hrel
  have hD2:Hid (wr.heap[D]? = some (.cells #[g0,g1,.slice op np cp,.slice oi ni ci,g4,g5,g6] 36 (0,0))):=hid ((hBl.out.block D (lt_of_heap hD.out)).trans hD.out)
  obtain ⟨z0,z1,z2,z3,z4,z5,z6⟩:=QBt hD2.out
  by_cases hca:c < ni
  ·have q0:(c:Int) < (ni:Int):=by omega
   obtain ⟨x,hx⟩:∃ x,d.items[c]? = some x:=⟨_,List.getElem?_eq_getElem (by have:=hni.out;omega)⟩
   have HX:=hid hx
   have hXA:Hid (ItAt wr bi (offi+c*9) x):=hid ((hic.out c hca x hx).below hBl.out)
   have hDV2:=hid (hDV.out.below hBl.out)
   have hx3:(x.states.length:Int)≤1000:=by
    have:=h3.out x (List.mem_of_getElem? hx)
    omega
   have hP2:Hid (∀ a,(P a∨QES d c a)→a∈QDC p):=hid (fun a h=>h.elim (hP.out a) fun ⟨_,y,_,hy,_,e⟩=>by
    subst e
    unfold QDC
    exact List.mem_cons_of_mem _ (List.mem_append.2 (.inl (List.mem_append.2 (.inr (List.mem_flatMap.2 ⟨d,hdm.out,List.mem_map.2 ⟨y,List.mem_of_getElem? hy,rfl⟩⟩))))))
   have hpx:Hid (x.pos∈QDC p):=hid (by
    unfold QDC
    exact List.mem_cons_of_mem _ (List.mem_append.2 (.inl (List.mem_append.2 (.inr (List.mem_flatMap.2 ⟨d,hdm.out,List.mem_map.2 ⟨x,List.mem_of_getElem? hx,rfl⟩⟩))))))
   clear hx hD hF
   go_upto_block 7 with fail
   refine in7 p hs d (D:=D) (i:=c) (x:=x) (v0:=v) (P:=fun a=>P a∨QES d c a) hP2 (np:=np) (cp:=cp) (op:=op) (oi:=oi) (ni:=ni) (ci:=ci) (bi:=bi) (offi:=offi) nil hca hi (g0:=g0) (g1:=g1) (g4:=g4) (g5:=g5) (g6:=g6) h1 h2 h3 hx3 (W:=wr) (hXA:=hXA) (hD:=hD2) (hDV:=hDV2) (hF:=hG) (hK:=hid ?_)
   intros
   rename_i v1 _ _ _ _ _ _ _ _ _ _ _ _ _ _ _ _ _ _ _ _ _ _ _ _ _ _ _ _ _ _ _ _ _ _ _ _ _ _ _ _ _ _ _ _ _ _ _ _ _ _ _ _ _ _ _ _ _ _ _ _ _ _ _ _ _ _ _ _ _ _ _ _ _ _ _ _ _ _ _ _ _ _ _ _ _ _ _ _ _ _ _ _ _ _ _ _ _ _ _ _ _ _ _ _ _ _ _ _ _ _ _ _ _ _ _ _ _ _ _ _ _ W2 hg2 hb2
   dsimp only
   go_wp2_with fail
   refine ⟨⟨c+1,v1,rfl,by go_num,by omega,hid (hg2.ext fun a=>?_),hid (hBl.out.trans (hb2.mono hBl.out.size))⟩,by simp [QA2];omega⟩
   rw [QKP HX.out,or_assoc]
  ·obtain rfl:c = ni:=by omega
   have q0:¬ (c:Int) < (c:Int):=by omega
   clear hD hF
   go_wp2_with fail
   exact hK.out v _ _ _ _ _ _ _ _ _ _ _ _ _ _ _ _ _ _ _ _ _ _ _ _ _ _ _ _ _ _ _ _ _ _ _ _ _ _ _ _ _ _ _ _ _ _ _ _ _ _ _ _ _ _ _ _ _ _ _ _ _ _ _ _ _ _ _ _ _ _ _ _ _ _ _ _ _ _ _ _ _ _ _ _ _ _ _ _ _ _ _ _ _ _ _ _ _ _ _ _ _ _ _ _ _ _ _ _ _ _ _ _ _ _ _ _ _ _ _ _ _ _ _ _ _ _ _ _ _ _ hG.out hBl.out
theorem QMR (d:De):QJa d d.params.length↔samT (d.params.map (·.name)) d.params.length = true:=by
 unfold QJa samT samS
 simp only [List.any_eq_true,List.mem_range,decide_eq_true_eq]
 constructor
 ·rintro ⟨i,k,h1,h2,_,h4⟩;exact ⟨i,h2,k,h1,h4.symm⟩
 ·rintro ⟨i,h2,k,h1,h4⟩;exact ⟨i,k,h1,h2,h2,h4.symm⟩
theorem posL_de {p:Pr} {c:Nat} {x:De} (hx:p.decls[c]? = some x):x.pos∈QDC p:=by
 unfold QDC
 exact List.mem_cons_of_mem _ (List.mem_append.2 (.inl (List.mem_append.2 (.inl (List.mem_map.2 ⟨x,List.mem_of_getElem? hx,rfl⟩)))))
theorem QMQ {p:Pr} {c:Nat} {x:De} (hx:p.decls[c]? = some x) {a:Int} (h:QJZ p c x a):a∈QDC p :=
 QFM ((QG4 hx a).2 (.inr h))
theorem QHS {p:Pr} (hm:QFa p = true):QFE p = true:=by
 unfold QFa at hm
 exact (Bool.and_eq_true _ _ ▸ hm).2
theorem QNc {p:Pr} {c:Nat} {x:De} (hx:p.decls[c]? = some x) (hm:QFa p = true):1≤x.kind:=by
 by_cases hk:QCC x = true
 ·unfold QCC at hk
  simp only [Bool.and_eq_true,decide_eq_true_eq] at hk
  omega
 ·have h:=QFD hx (by simpa using hk)
  rw [hm] at h;cases h
set_option maxRecDepth 100000 in
theorem in1 (p:Pr) (hs:Hid (Small p)) (hm:Hid (QFa p = true)) (c:Nat) (x:De) (hx:Hid (p.decls[c]? = some x)) (B h:Nat) (hh:Hid (h = hybs (p.decls.take c))) (hhl:(h:Int)≤60) (v0:Value) (P:Int→Prop) (hP:Hid (∀ a,P a→a∈QDC p))
  (o1 o2:Option Addr) (n c1 ne c2 db doff xb xoff:Nat) (nl:(n:Int)≤60) (nel:(ne:Int)≤300) (hlt:c < n) (hn:Hid (p.decls.length = n)) (hne:Hid (p.exprs.length = ne)) (hd:Hid (0 < n→o1 = some ⟨db,doff,none⟩)) (he:Hid (0 < ne→o2 = some ⟨xb,xoff,none⟩))
  (Q:Exit→Act→World→Prop) (W:World) (hdc:Hid (∀ i,i < n→∀ x,p.decls[i]? = some x→DeAt W db (doff+i*7) x)) (hxc:Hid (∀ i,i < ne→∀ x,p.exprs[i]? = some x→ExAt W xb (xoff+i*9) x)) (hB:Hid (W.heap[B]? = some (.cells #[.slice o1 n c1,.slice o2 ne c2] 26 (0,0)))) (hPA:Hid (ProgAt W (.slice o1 n c1) (.slice o2 ne c2) p)) (hF:Hid (FlGot W v0 P))
  (hK:Hid (∀ (v3 v6 v7 v8 v9 J7 J8 J9 KA IJ IL Kl Km KB KC Jy Jz J5 Ld Le Lf Lg Lh Li Lj Lk Ll Lm Kq Kr Ks Kt Ku Kv Kw Kx Ky Kz K0 K4 K5 K6 K9 LA LB LC LE LF LG LH LI LJ LL LM LN KE KF KG KH KI KJ KK KM KN KO KP KQ KR KS KU KV KW KZ Ka Kb Kc Kd Ke LO LP LQ LR LS LU LW Kf Kg Kh JV JW JX JY JZ Ja Jb Jc Jd Je Jf GU GV GW GX GY GZ Ga Gb Gc Gd Ge Gf Gg Gh GP GQ GR GS E9 FE FG FH FI FJ FL GT FN Ed Ee Ef Eg Eh Ei Ej FO FR FU FW FX FY Fa Fb Fc Fd Fe Gi Gj Gk Gl Gm Gn Gp Gq Gr Gs Gt Gu Gv Gw Gx Gy Gz G8 G9 Ha Hb Hc Hd He Hf Hg Hh Hi Hj Hk Hl Hm Hn Ho Hp Hq Hr Hs Ht Hu Hv Hw Hx Hy Hz H3 H4 H5 H6 H7 IN IO IP IQ IR IT Kn Ko Kp J0 J1 J2 J3 J4 J6 Jg Jh Ji Jj Jk Jl Jm Jn Jo Jp Jq Jr Js Jt Ju Jv Jw IU IV IW IX IY IZ Ia Ib Ic Id Ie If Ig Ih Ii Ij Ik Il Im In Io Ip Iq Ir Iu Iv Iw Iy Iz I0 I1 I2 I6 I7 I8 I9 JA JB JC JD JE JF JG JH JI JJ JK JL JM JN JO JP JQ JR JS JT JU:Value) W',FlGot W' v3 (fun a=>P a∨QJZ p c x a)→Below W.heap.size W W'→Q .normal ⟨[u0,.pointer (some ⟨B,0,none⟩),u2,v3,.int .i64 (hybs (p.decls.take (c+1)):Nat),.int .i64 (c:Int),v6,v7,v8,v9,J7,J8,J9,KA,IJ,IL,Kl,Km,KB,KC,Jy,Jz,J5,Ey,Ez,E4,E5,E6,E7,E8,Ld,Le,Lf,Lg,Lh,Li,Lj,Lk,Ll,Lm,Kq,Kr,Ks,Kt,Ku,Kv,Kw,Kx,Ky,Kz,K0,K4,K5,K6,K9,LA,LB,LC,LE,LF,LG,LH,LI,LJ,LL,LM,LN,KE,KF,KG,KH,KI,KJ,KK,KM,KN,KO,KP,KQ,KR,KS,KU,KV,KW,KZ,Ka,Kb,Kc,Kd,Ke,LO,LP,LQ,LR,LS,LU,LW,Kf,Kg,Kh,JV,JW,JX,JY,JZ,Ja,Jb,Jc,Jd,Je,Jf,GU,GV,GW,GX,GY,GZ,Ga,Gb,Gc,Gd,Ge,Gf,Gg,Gh,GP,GQ,GR,GS,E9,FE,FG,FH,FI,FJ,FL,GT,FN,Ed,Ee,Ef,Eg,Eh,Ei,Ej,FO,FR,FU,FW,FX,FY,Fa,Fb,Fc,Fd,Fe,Gi,Gj,Gk,Gl,Gm,Gn,Gp,Gq,Gr,Gs,Gt,Gu,Gv,Gw,Gx,Gy,Gz,G8,G9,Ha,Hb,Hc,Hd,He,Hf,Hg,Hh,Hi,Hj,Hk,Hl,Hm,Hn,Ho,Hp,Hq,Hr,Hs,Ht,Hu,Hv,Hw,Hx,Hy,Hz,H3,H4,H5,H6,H7,IN,IO,IP,IQ,IR,IT,Kn,Ko,Kp,J0,J1,J2,J3,J4,J6,Jg,Jh,Ji,Jj,Jk,Jl,Jm,Jn,Jo,Jp,Jq,Jr,Js,Jt,Ju,Jv,Jw,IU,IV,IW,IX,IY,IZ,Ia,Ib,Ic,Id,Ie,If,Ig,Ih,Ii,Ij,Ik,Il,Im,In,Io,Ip,Iq,Ir,Iu,Iv,Iw,Iy,Iz,I0,I1,I2,I6,I7,I8,I9,JA,JB,JC,JD,JE,JF,JG,JH,JI,JJ,JK,JL,JM,JN,JO,JP,JQ,JR,JS,JT,JU,AL,AM,AN,AO,AP,AQ].toArray,[]⟩ W')) :
  (QB6 Tryz.f9 1).wp Tryz.prog Q ⟨[u0,.pointer (some ⟨B,0,none⟩),u2,v0,.int .i64 (h:Int),.int .i64 (c:Int),u6,u7,u8,u9,IG,IE,IF,II,ID,IC,GL,GM,H8,IA,GN,GO,GK,Ey,Ez,E4,E5,E6,E7,E8,Ek,El,Em,En,Eo,Ep,Eq,Er,Es,EJ,EK,EL,EM,EO,Et,Eu,Ev,Ew,EP,EQ,ER,ET,EU,EV,EW,EX,EY,EZ,Ea,Eb,Ec,Ff,Fg,Fh,EI,Fi,Fj,Fr,Fs,Ft,Fu,Fv,Fw,Fx,Fy,Fz,F2,F4,F5,F6,F7,F8,F9,GA,GB,GC,GD,GE,GF,GG,Fk,Fl,Fm,Fn,Fo,Fp,Fq,GH,GI,GJ,AA,AB,AC,AE,AF,AG,AH,AI,AJ,AK,EH,B3,B4,B5,B8,B9,CD,CH,CI,CJ,CK,CM,CQ,CU,CX,DM,DN,DO,DP,DR,DS,DU,DV,DW,DX,DY,DQ,DZ,Dm,Do,Dp,Dq,Dr,Dt,Du,Da,Db,Dc,Dd,Df,Dg,Dh,Di,Dj,Dk,Dl,CY,CZ,Ca,Cb,Cc,Cd,Ce,Cf,Cg,Ch,Ci,Cj,Ck,Cl,Cm,Cn,Co,Cp,Cq,Cr,Cs,Ct,Cu,Cv,Cw,Cx,Cy,Cz,DA,DE,DG,DI,DJ,DK,DL,Dv,Dw,Dx,Dy,Dz,D5,D8,D9,EA,EB,EC,ED,EE,EF,EG,As,At,Au,Av,Aw,Ay,AR,AS,AU,AV,AW,AX,AY,AZ,Aa,Ab,Ac,Ad,Ae,Af,Ag,Ah,Ai,Aj,Ak,Al,Am,An,Ao,Ap,Aq,Ar,Az,A3,A4,A5,A6,A7,A8,A9,BA,BC,BD,BE,BF,BG,BH,BI,BJ,BK,BM,BN,BO,BP,BQ,BR,BS,BT,BU,BV,BW,BY,BZ,Ba,Bb,Bc,Bd,Be,Bf,Bg,Bh,Bi,Bj,Bk,Bl,Bm,Bn,Bo,Bp,Bq,Br,Bs,Bt,Bu,Bv,Bw,Bx,By,Bz,AL,AM,AN,AO,AP,AQ].toArray,[]⟩ W:=by
 simp only [QB6,QAw,blk,Tryz.f9]
 simp only [Nat.reduceEqDiff,if_true,if_false]
 have ix:=QCh (cap:=c1) hd.out hlt (by omega)
 unfold Ix at ix
 obtain ⟨s,t,e0,e1,e2,e3,e4,e5,e6,hs1,hs2,hok⟩:=id (hdc.out c hlt x hx.out)
 obtain ⟨op,capp,bp,offp,rfl,_,_,hp3,hp4⟩:=id hs1
 obtain ⟨oi,capi,bi,offi,rfl,_,_,hi3,hi4⟩:=id hs2
 obtain ⟨g0,g1⟩:=QAA hB.out
 obtain ⟨DB,hDB⟩:∃ DB,DB = Obj.cells #[.int .i64 x.kind,.string x.name,.slice op x.params.length capp,.slice oi x.items.length capi,.int .i64 x.type,.int .i64 x.e,.int .i64 x.pos] 36 (0,0):=⟨_,rfl⟩
 have HDB:=hid hDB
 have H1:Hid (Below W.heap.size W (W.alloc DB)∧(W.alloc DB).heap[W.heap.size]? = some DB):=hid ⟨QA5 (Below.refl W.heap.size W) _,QAR rfl⟩
 have HDV:Hid (DeVal W (.agg #[.int .i64 x.kind,.string x.name,.slice op x.params.length capp,.slice oi x.items.length capi,.int .i64 x.type,.int .i64 x.e,.int .i64 x.pos]) x):=hid ⟨_,_,rfl,hs1,hs2,hok⟩
 have hde:=hs.out.de x (List.mem_of_getElem? hx.out)
 have hpl:x.params.length≤600:=by have:=hde.1;unfold wDe at this;omega
 have hil:x.items.length≤600:=hde.2.1
 have h3:Hid (∀ y∈x.items,y.states.length≤1000):=hid fun y hy=>Nat.le_trans (hde.2.2 y hy) (by omega)
 have hk1:=QNc hx.out hm.out
 have hpos:=hid (posL_de hx.out)
 have HH:=hid (QDg p.decls c x hx.out)
 rw [hh.out.symm] at HH
 have HP4:Hid (∀ i,i < x.params.length→∀ y,x.params[i]? = some y→PaAt W bp (offp+i*2) y):=hid hp4
 have HI4:Hid (∀ i,i < x.items.length→∀ y,x.items[i]? = some y→ItAt W bi (offi+i*9) y):=hid hi4
 have HP3:=hid hp3
 have HI3:=hid hi3
 rw [hDB] at H1
 clear hs1 hs2 hok hp3 hp4 hi3 hi4 hde
 go_upto_if 37 with fail
 rw [← hDB] at H1
 go_cut [4] from 35 to 39 (fun hv wx=>hv = .int .i64 (hybs (p.decls.take (c+1)):Nat)∧wx = W.alloc DB)
 case first =>
  by_cases hk:x.kind = 3
  ·rw [if_pos hk] at HH
   have qk:(x.kind == 3) = true:=by simp [hk]
   clear hk
   go_wp2_with fail
   go_meet
   case rel=>exact ⟨by rw [HH.out];go_num,by rw [HDB.out]⟩
  ·rw [if_neg hk] at HH
   have qk:(x.kind == 3) = false:=by simp [hk]
   clear hk
   go_wp2_with fail
   go_meet
   case rel=>exact ⟨by rw [HH.out];rfl,by rw [HDB.out]⟩
 case rest =>
  obtain ⟨rfl,rfl⟩:=hcut
  obtain ⟨W1,hW1⟩:∃ W1,W1 = W.alloc DB:=⟨_,rfl⟩
  obtain ⟨D,hD⟩:∃ D,D = W.heap.size:=⟨_,rfl⟩
  rw [← hW1,← hD] at H1 ⊢
  have hb1:Below W.heap.size W W1:=by rw [hW1];exact QA5 (Below.refl W.heap.size W) _
  have hDW:W1.heap[D]? = some DB:=H1.out.2
  rw [HDB.out] at hDW
  have HD1:=hid hDW
  have HB1:=hid hb1
  have hB1:=hid ((hb1.block B (lt_of_heap hB.out)).trans hB.out)
  have hPA1:=hid (hPA.out.below hb1)
  have hF1:=hid (hF.out.below hb1)
  have hhl2:((hybs (p.decls.take (c+1)):Nat):Int)≤60:=by
   have h1:=QF4 (p.decls.take (c+1))
   have h2:(p.decls.take (c+1)).length≤c+1:=by simp [List.length_take];omega
   omega
  clear hW1 hD hDB H1 e0 e1 e2 e3 e4 e5 e6 g0 g1 ix HH hF hb1 hDW hhl
  go_step
  refine wp_seq_k fun K1 hK1=>?_
  refine in9R p hs (B:=B) (D:=D) (c:=c) (H:=hybs (p.decls.take (c+1))) (v0:=v0) (sd:=.slice o1 n c1) (se:=.slice o2 ne c2) (P:=P) hP (x:=x) (T:=36) (hHl:=hhl2) (hHy:=hid rfl) (W:=W1) (hX:=HD1) (hB:=hB1) (hPA:=hPA1) (hF:=hF1) (hK:=hid ?_)
  intros
  rename_i v2 _ _ _ _ _ _ _ _ _ _ _ _ _ _ _ _ _ _ _ _ W2 hg2 hb2
  dsimp only
  have HB2:=hid (HB1.out.trans (hb2.mono HB1.out.size))
  have HD2:=hid ((hb2.block D (lt_of_heap HD1.out)).trans HD1.out)
  have hB2:=hid ((hb2.block B (lt_of_heap hB1.out)).trans hB1.out)
  have hP2:Hid (∀ a,(P a∨(QGI p c x∧a = x.pos))→a∈QDC p):=hid fun a ha=>ha.elim (hP.out a) fun h=>h.2 ▸ hpos.out
  have HP42:Hid (∀ i,i < x.params.length→∀ y,x.params[i]? = some y→PaAt W2 bp (offp+i*2) y):=hid fun i hi y hy=>(HP4.out i hi y hy).below HB2.out
  refine hK1 _ _ ?_
  clear hK1 hb2 hF1 HD1 hB1
  refine wp_seq_k fun K2 hK2=>?_
  go_upto_block 2 with fail
  refine in2 p hs (D:=D) (v0:=v2) (P:=fun a=>P a∨(QGI p c x∧a = x.pos)) hP2 (x:=x) hpos (n:=x.params.length) (hid rfl) (by omega) (op:=op) (capp:=capp) (bp:=bp) (offp:=offp) (T:=36) (W:=W2) (hX:=HD2) (hp3:=HP3) (hp4:=HP42) (hF:=hid hg2) (hK:=hid ?_)
  clear hg2
  intros
  rename_i v3 _ _ _ _ _ _ _ _ _ _ _ _ _ _ _ _ _ _ _ _ _ _ _ _ _ _ _ _ _ _ _ _ W3 hg3 hb3
  dsimp only
  have HB3:=hid (HB2.out.trans (hb3.mono HB2.out.size))
  have HD3:=hid ((hb3.block D (lt_of_heap HD2.out)).trans HD2.out)
  have hB3:=hid ((hb3.block B (lt_of_heap hB2.out)).trans hB2.out)
  have hP3:Hid (∀ a,((P a∨(QGI p c x∧a = x.pos))∨(samT (x.params.map (·.name)) x.params.length = true∧a = x.pos))→a∈QDC p):=hid fun a ha=>ha.elim (hP2.out a) fun h=>h.2 ▸ hpos.out
  have HI43:Hid (∀ i,i < x.items.length→∀ y,x.items[i]? = some y→ItAt W3 bi (offi+i*9) y):=hid fun i hi y hy=>(HI4.out i hi y hy).below HB3.out
  have HDV3:=hid (HDV.out.below HB3.out)
  refine hK2 _ _ ?_
  clear hK2 hb3 HD2 hB2 HP42
  refine wp_seq_k fun K3 hK3=>?_
  go_upto_block 6 with fail
  refine in6 p hs x (hid (List.mem_of_getElem? hx.out)) (D:=D) (v0:=v3) (P:=fun a=>(P a∨(QGI p c x∧a = x.pos))∨(samT (x.params.map (·.name)) x.params.length = true∧a = x.pos)) hP3 (np:=x.params.length) (cp:=capp) (op:=op) (oi:=oi) (ni:=x.items.length) (ci:=capi) (bi:=bi) (offi:=offi) (by omega) (hid rfl) HI3 (h1:=hpl) (h2:=hil) (h3:=h3) (W:=W3) (hic:=HI43) (hD:=HD3) (hDV:=HDV3) (hF:=hid hg3) (hK:=hid ?_)
  clear hg3
  intros
  rename_i v4 _ _ _ _ _ _ _ _ _ _ _ _ _ _ _ _ _ _ _ _ _ _ _ _ _ _ _ _ _ _ _ _ _ _ _ _ _ _ _ _ _ _ _ _ _ _ _ _ _ _ _ _ _ _ _ _ _ _ _ _ _ _ _ _ _ _ _ _ _ _ _ _ _ _ _ _ _ _ _ _ _ _ _ _ _ _ _ _ _ _ _ _ _ _ _ _ _ _ _ _ _ _ _ _ _ _ _ _ _ _ _ _ _ _ _ _ _ _ _ _ _ _ _ _ _ _ _ _ _ W4 hg4 hb4
  dsimp only
  have HB4:=hid (HB3.out.trans (hb4.mono HB3.out.size))
  have HD4:=hid ((hb4.block D (lt_of_heap HD3.out)).trans HD3.out)
  have hB4:=hid ((hb4.block B (lt_of_heap hB3.out)).trans hB3.out)
  have HDV4:=hid (HDV.out.below HB4.out)
  have hPA4:=hid (hPA.out.below HB4.out)
  have hF4:=hid hg4
  have hP4:Hid (∀ a,(((P a∨(QGI p c x∧a = x.pos))∨(samT (x.params.map (·.name)) x.params.length = true∧a = x.pos))∨QES x x.items.length a)→a∈QDC p):=hid fun a ha=>ha.elim (hP3.out a) fun h=>QMQ hx.out (.inr (.inl h))
  have hxc4:Hid (∀ i,i < ne→∀ x,p.exprs[i]? = some x→ExAt W4 xb (xoff+i*9) x):=hid fun i hi y hy=>(hxc.out i hi y hy).below HB4.out
  have hdc4:Hid (∀ i,i < n→∀ x,p.decls[i]? = some x→DeAt W4 db (doff+i*7) x):=hid fun i hi y hy=>(hdc.out i hi y hy).below HB4.out
  have hro:Hid (∀ r∈QAC x,∃ z:Nat,r = (z:Int)∧z < ne):=hid (by rw [← hne.out];exact QJK (QHS hm.out) hx.out)
  have RC:=hid (QHd p x o1 o2 n c1 ne c2 xb xoff _ x.kind x.type x.e x.pos x.name op oi x.params.length capp x.items.length capi rfl W4 hne nel he hxc4 HDV4 hk1 hil hs (hid (QHS hm.out)) hro)
  unfold QEr at RC
  rw [hne.out] at RC
  obtain ⟨z0,z1,z2,z3,z4,z5,z6⟩:=QBt HD4.out
  obtain ⟨p0,p1⟩:=QAA hB4.out
  refine hK3 _ _ ?_
  clear hK3 hb4 HD3 hB3 HI43 HDV3 hg4
  go_upto_region 48 with fail
  go_cut [16] from 212 to 214 (fun Kl wx=>∃ (g:Nat) (S:Nat→Bool),Kl = .slice (some ⟨g,0,none⟩) ne ne∧Hid (BoolRow wx g ne S)∧Hid (∀ k,k < ne→(S k = true↔Reach p (QAC x) k))∧Hid (Below W4.heap.size W4 wx))
  case first =>
   go_wp2_with (go_at_call 21;(with_reducible refine RC.out.mono ?_);rintro e w1 ⟨g,S,rfl,hr1,hr2,hb5⟩;have HR1:=hid hr1;have HR2:=hid hr2;have HB5:=hid hb5;clear hr1 hr2 hb5)
   go_meet
   case rel =>
    rename_i hq
    cases hq
    exact ⟨g,S,rfl,HR1,HR2,HB5⟩
  case rest =>
   obtain ⟨g,S,rfl,HR1,HR2,HB5⟩:=hcut
   clear z0 z1 z2 z3 z4 z5 z6 p0 p1 RC
   have HB6:=hid (HB4.out.trans (HB5.out.mono HB4.out.size))
   have HD5:=hid ((HB5.out.block D (lt_of_heap HD4.out)).trans HD4.out)
   have hB5:=hid ((HB5.out.block B (lt_of_heap hB4.out)).trans hB4.out)
   have HDV5:=hid (HDV.out.below HB6.out)
   have hPA5:=hid (hPA.out.below HB6.out)
   have hF5:=hid (hF4.out.below HB5.out)
   have hxc5:Hid (∀ i,i < ne→∀ x,p.exprs[i]? = some x→ExAt wc xb (xoff+i*9) x):=hid fun i hi y hy=>(hxc.out i hi y hy).below HB6.out
   have hdc5:Hid (∀ i,i < n→∀ x,p.decls[i]? = some x→DeAt wc db (doff+i*7) x):=hid fun i hi y hy=>(hdc.out i hi y hy).below HB6.out
   go_upto_block 13 with fail
   refine in13 p hs x (B:=B) (D:=D) (g:=g) (S:=S) (v0:=v4) (P:=fun a=>((P a∨(QGI p c x∧a = x.pos))∨(samT (x.params.map (·.name)) x.params.length = true∧a = x.pos))∨QES x x.items.length a) hP4 (o1:=o1) (o2:=o2) (n:=n) (c1:=c1) (ne:=ne) (c2:=c2) (db:=db) (doff:=doff) (xb:=xb) (xoff:=xoff) HR2 nl nel hn hne hd he (h1:=hpl) (h2:=hil) (h3:=h3) (W:=wc) (hdc:=hdc5) (hxc:=hxc5) (hB:=hB5) (hPA:=hPA5) (hD:=HD5) (hDV:=HDV5) (hS:=HR1) (hF:=hF5) (hK:=hid ?_)
   intros
   rename_i v9 _ _ _ _ _ _ _ _ _ _ _ _ _ _ _ _ _ _ _ _ _ _ _ _ _ _ _ _ _ _ _ _ _ _ _ _ _ _ _ _ _ _ _ _ _ _ _ _ _ _ _ _ _ _ _ _ _ _ _ _ _ _ _ _ _ _ _ _ _ _ _ _ _ _ _ _ _ _ _ _ _ _ _ _ _ _ W9 hg9 hb9
   dsimp only
   show Q Exit.normal _ _
   refine hK.out v9 _ _ _ _ _ _ _ _ _ _ _ _ _ _ _ _ _ _ _ _ _ _ _ _ _ _ _ _ _ _ _ _ _ _ _ _ _ _ _ _ _ _ _ _ _ _ _ _ _ _ _ _ _ _ _ _ _ _ _ _ _ _ _ _ _ _ _ _ _ _ _ _ _ _ _ _ _ _ _ _ _ _ _ _ _ _ _ _ _ _ _ _ _ _ _ _ _ _ _ _ _ _ _ _ _ _ _ _ _ _ _ _ _ _ _ _ _ _ _ _ _ _ _ _ _ _ _ _ _ _ _ _ _ _ _ _ _ _ _ _ _ _ _ _ _ _ _ _ _ _ _ _ _ _ _ _ _ _ _ _ _ _ _ _ _ _ _ _ _ _ _ _ _ _ _ _ _ _ _ _ _ _ _ _ _ _ _ _ _ _ _ _ _ _ _ _ _ _ _ _ _ _ _ _ _ _ _ _ _ _ _ _ _ _ _ _ _ _ _ _ _ _ _ _ _ _ _ _ _ _ _ _ _ _ _ _ _ _ _ _ _ _ _ _ _ _ _ _ _ _ _ _ _ _ _ _ _ _ _ _ _ _ _ _ _ _ _ _ _ _ _ _ _ _ _ _ _ _ _ _ _ _ _ (hg9.ext fun a=>?_) (HB6.out.trans (hb9.mono HB6.out.size))
   unfold QJZ
   rw [QMR,hne.out]
   constructor
   ·rintro ((((h | h) | h) | h) | h)
    ·exact .inl h
    ·exact .inr (.inl ⟨.inl h.1,h.2⟩)
    ·exact .inr (.inl ⟨.inr h.1,h.2⟩)
    ·exact .inr (.inr (.inl h))
    ·exact .inr (.inr (.inr h))
   ·rintro (h | ⟨h | h,h2⟩ | h | h)
    ·exact .inl (.inl (.inl (.inl h)))
    ·exact .inl (.inl (.inl (.inr ⟨h,h2⟩)))
    ·exact .inl (.inl (.inr ⟨h,h2⟩))
    ·exact .inl (.inr h)
    ·exact .inr h
set_option maxRecDepth 100000 in
theorem QFf (o1 o2:Option Addr) (n c1 ne c2 db doff xb xoff:Nat) (p:Pr) (w:World) (hn:Hid (p.decls.length = n)) (hne:Hid (p.exprs.length = ne)) (nl:(n:Int)≤60) (nel:(ne:Int)≤300) (hp:Hid (ProgAt w (.slice o1 n c1) (.slice o2 ne c2) p)) (hd:Hid (0 < n→o1 = some ⟨db,doff,none⟩)) (he:Hid (0 < ne→o2 = some ⟨xb,xoff,none⟩)) (hdc:Hid (∀ i,i < n→∀ x,p.decls[i]? = some x→DeAt w db (doff+i*7) x)) (hxc:Hid (∀ i,i < ne→∀ x,p.exprs[i]? = some x→ExAt w xb (xoff+i*9) x)) (hs:Hid (Small p)) (hm:Hid (QFa p = true)) :
  Calls Tryz.prog 9 #[.agg #[.slice o1 n c1,.slice o2 ne c2]] w fun r Y=>∃ v,r = .returned v∧FlGot Y v (QB8 p)∧Below w.heap.size w Y:=by
 obtain ⟨PB,hPB⟩:∃ PB,PB = Obj.cells #[.slice o1 n c1,.slice o2 ne c2] 26 (0,0):=⟨_,rfl⟩
 have HPB:=hid hPB
 have H0:Hid (Below w.heap.size w (w.alloc PB)∧(w.alloc PB).heap[w.heap.size]? = some PB):=hid ⟨QA5 (Below.refl w.heap.size w) _,QAR rfl⟩
 have F0:Hid (FlGot (w.alloc PB) (.slice none 0 0) (QEs p 0)):=hid ⟨[],QCW _ _ _ _ _ ⟨Nat.zero_le _,fun _=>rfl⟩ rfl,Got.start fun a ⟨i,d,h,_⟩=>by omega⟩
 rw [hPB] at H0 F0
 go_enter Tryz.func9,Tryz.ntmps9
 go_wp2_with fail
 rw [← hPB] at H0 F0
 clear hPB
 go_loopw [3,4,5] (fun ov hv iv W=>∃ (c:Nat) (v:Value),v = ov∧iv = .int .i64 (c:Int)∧c≤n∧hv = .int .i64 (hybs (p.decls.take c):Nat)∧Hid (FlGot W v (QEs p c))∧Hid (Below w.heap.size w W∧W.heap[w.heap.size]? = some PB)) (fun _ _ i _=>n - QA2 i)
 case atStart=>exact ⟨0,_,rfl,rfl,Nat.zero_le _,rfl,by rw [HPB.out] at F0;exact F0,by rw [HPB.out];rw [HPB.out] at H0;exact H0⟩
 case round =>
  clear F0 H0
  obtain ⟨c,v,rfl,rfl,hc,rfl,hF,hB⟩:=hrel
  have pb0:=hB.out.2
  rw [HPB.out] at pb0
  have HPB0:=hid pb0
  obtain ⟨g0,g1⟩:=QAA pb0
  have hhl:((hybs (p.decls.take c):Nat):Int)≤60:=by
   have h1:=QF4 (p.decls.take c)
   have h2:(p.decls.take c).length≤c:=by simp [List.length_take];omega
   omega
  clear pb0
  rcases Nat.lt_or_ge c n with hlt | hge
  ·have q3:(c:Int) < (n:Int):=by omega
   obtain ⟨x,hx⟩:∃ x,p.decls[c]? = some x:=⟨_,List.getElem?_eq_getElem (by have:=hn.out;omega)⟩
   have HX:=hid hx
   have hP:Hid (∀ a,QEs p c a→a∈QDC p):=hid fun a h=>QFM h
   have hxc4:Hid (∀ i,i < ne→∀ x,p.exprs[i]? = some x→ExAt wr xb (xoff+i*9) x):=hid fun i hi y hy=>(hxc.out i hi y hy).below hB.out.1
   have hdc4:Hid (∀ i,i < n→∀ x,p.decls[i]? = some x→DeAt wr db (doff+i*7) x):=hid fun i hi y hy=>(hdc.out i hi y hy).below hB.out.1
   have hp4:=hid (hp.out.below hB.out.1)
   obtain ⟨h,hh⟩:∃ h,h = hybs (p.decls.take c):=⟨_,rfl⟩
   rw [← hh] at hhl ⊢
   have HH:=hid hh
   clear hx hh
   go_upto_block 1 with fail
   refine in1 p hs hm (c:=c) (x:=x) HX (B:=w.heap.size) (h:=h) HH hhl (v0:=v) (P:=QEs p c) hP (o1:=o1) (o2:=o2) (n:=n) (c1:=c1) (ne:=ne) (c2:=c2) (db:=db) (doff:=doff) (xb:=xb) (xoff:=xoff) nl nel hlt hn hne hd he (W:=wr) (hdc:=hdc4) (hxc:=hxc4) (hB:=HPB0) (hPA:=hp4) (hF:=hF) (hK:=hid ?_)
   intros
   rename_i v1 _ _ _ _ _ _ _ _ _ _ _ _ _ _ _ _ _ _ _ _ _ _ _ _ _ _ _ _ _ _ _ _ _ _ _ _ _ _ _ _ _ _ _ _ _ _ _ _ _ _ _ _ _ _ _ _ _ _ _ _ _ _ _ _ _ _ _ _ _ _ _ _ _ _ _ _ _ _ _ _ _ _ _ _ _ _ _ _ _ _ _ _ _ _ _ _ _ _ _ _ _ _ _ _ _ _ _ _ _ _ _ _ _ _ _ _ _ _ _ _ _ _ _ _ _ _ _ _ _ _ _ _ _ _ _ _ _ _ _ _ _ _ _ _ _ _ _ _ _ _ _ _ _ _ _ _ _ _ _ _ _ _ _ _ _ _ _ _ _ _ _ _ _ _ _ _ _ _ _ _ _ _ _ _ _ _ _ _ _ _ _ _ _ _ _ _ _ _ _ _ _ _ _ _ _ _ _ _ _ _ _ _ _ _ _ _ _ _ _ _ _ _ _ _ _ _ _ _ _ _ _ _ _ _ _ _ _ _ _ _ _ _ _ _ _ _ _ _ _ _ _ _ _ _ _ _ _ _ _ _ _ _ _ _ _ _ _ _ _ _ _ _ _ _ _ _ _ _ _ _ _ _ W2 hg2 hb2
   dsimp only
   go_wp2_with fail
   refine ⟨⟨c+1,v1,rfl,by go_num,by omega,rfl,hid (hg2.ext fun a=>(QG4 HX.out a).symm),hid ⟨hB.out.1.trans (hb2.mono hB.out.1.size),(hb2.block _ (lt_of_heap hB.out.2)).trans hB.out.2⟩⟩,by simp [QA2];omega⟩
  ·obtain rfl:c = n:=by omega
   have q3:¬ (c:Int) < (c:Int):=by omega
   have e:p.decls.take c = p.decls:=List.take_of_length_le (by rw [hn.out];exact Nat.le_refl _)
   rw [e] at hhl ⊢
   have hall:=hid (fun a=>QDr hm.out a)
   rw [hn.out] at hall
   by_cases h0:hybs p.decls = 0
   ·rw [h0] at hall ⊢
    have AD:=hid (QCl hs.out (P:=QEs p c) (fun a h=>QFM h) v 0 wr hF.out)
    clear h0 e hhl
    go_wp2_with (go_at_call 18;(with_reducible refine AD.out.mono ?_);rintro e w2 ⟨v1,rfl,hG1,hb1⟩;have HG1:=hid hG1;have HB1:=hid hb1;clear hG1 hb1)
    go_ret
    exact ⟨v1,rfl,HG1.out.ext fun a=>by rw [hall.out];simp,hB.out.1.trans (HB1.out.mono hB.out.1.size)⟩
   ·have q4:((hybs p.decls:Nat) == (0:Int)) = false:=beq_false_of_ne (by omega)
    have H0:=hid h0
    obtain ⟨hy,hhy⟩:∃ h,h = hybs p.decls:=⟨_,rfl⟩
    rw [← hhy] at H0 hall q4 hhl ⊢
    have q5:((hy:Int) == 0) = false:=beq_false_of_ne (by have:=H0.out;omega)
    clear h0 e hhl hhy
    go_wp2_with fail
    go_ret
    exact ⟨v,rfl,hF.out.ext fun a=>by rw [hall.out];simp [H0.out],hB.out.1⟩
theorem QGj (sd se:Value) (p:Pr) (w:World) (h:ProgAt w sd se p) (hs:Small p) (hm:QFa p = true):Calls Tryz.prog 9 #[.agg #[sd,se]] w fun r Y=>∃ v,r = .returned v∧FlGot Y v (QB8 p)∧Below w.heap.size w Y:=by
 obtain ⟨⟨o1,c1,db,doff,rfl,_,_,hd1,hd2⟩,⟨o2,c2,xb,xoff,rfl,_,_,hx1,hx2⟩,_,_⟩:=id h
 have h1:=hs.exprs
 have h2:=hs.decls
 exact QFf o1 o2 _ c1 _ c2 db doff xb xoff p w (hid rfl) (hid rfl) (by omega) (by omega) (hid h) (hid hd1) (hid hx1) (hid hd2) (hid hx2) (hid hs) (hid hm)
end
section
open Go.RowKit Lx Go.Shelf
attribute [local go_sem] Oper.semAt_some
end
section
open Go.RowKit Lx Go.Shelf Go.Maps
attribute [local go_sem] Oper.semAt_some
set_option linter.unusedVariables false
end
section
open Go.Lib (hid)
open Go.RowKit Lx
def nmL:List UInt8:=[104,121,98,114,105,100,32,109,40,41,32,123,32,111,117,116,32,120,59,32,125]
def nmT:List Tok:=[QAX nmL 0,QAX nmL 7,QAX nmL 8,QAX nmL 9,QAX nmL 11,QAX nmL 13,QAX nmL 17,QAX nmL 18,QAX nmL 20]
def nmU:List Tok:=[⟨3,[104,121,98,114,105,100],0,0⟩,⟨1,[109],0,7⟩,⟨4,[40],0,8⟩,⟨4,[41],0,9⟩,⟨4,[123],0,11⟩,⟨3,[111,117,116],0,13⟩,⟨1,[120],0,17⟩,⟨4,[59],0,18⟩,⟨4,[125],0,20⟩]
theorem nm_lex:QNd nmL nmT none:=by
 unfold QNd nmT
 rw [show QAu false nmL 0 = 0 by decide +kernel]
 refine .tok (by decide) (by decide +kernel) ?_
 rw [show QAu false nmL (0+(QAX nmL 0).text.length) = 7 by decide +kernel]
 refine .tok (by decide) (by decide +kernel) ?_
 rw [show QAu false nmL (7+(QAX nmL 7).text.length) = 8 by decide +kernel]
 refine .tok (by decide) (by decide +kernel) ?_
 rw [show QAu false nmL (8+(QAX nmL 8).text.length) = 9 by decide +kernel]
 refine .tok (by decide) (by decide +kernel) ?_
 rw [show QAu false nmL (9+(QAX nmL 9).text.length) = 11 by decide +kernel]
 refine .tok (by decide) (by decide +kernel) ?_
 rw [show QAu false nmL (11+(QAX nmL 11).text.length) = 13 by decide +kernel]
 refine .tok (by decide) (by decide +kernel) ?_
 rw [show QAu false nmL (13+(QAX nmL 13).text.length) = 17 by decide +kernel]
 refine .tok (by decide) (by decide +kernel) ?_
 rw [show QAu false nmL (17+(QAX nmL 17).text.length) = 18 by decide +kernel]
 refine .tok (by decide) (by decide +kernel) ?_
 rw [show QAu false nmL (18+(QAX nmL 18).text.length) = 20 by decide +kernel]
 refine .tok (by decide) (by decide +kernel) ?_
 rw [show QAu false nmL (20+(QAX nmL 20).text.length) = 21 by decide +kernel]
 exact .fin (by decide)
theorem nm_toks:nmT = nmU:=by
 have h0:QAX nmL 0 = ⟨3,[104,121,98,114,105,100],0,0⟩:=by kernel_rfl
 have h1:QAX nmL 7 = ⟨1,[109],0,7⟩:=by kernel_rfl
 have h2:QAX nmL 8 = ⟨4,[40],0,8⟩:=by kernel_rfl
 have h3:QAX nmL 9 = ⟨4,[41],0,9⟩:=by kernel_rfl
 have h4:QAX nmL 11 = ⟨4,[123],0,11⟩:=by kernel_rfl
 have h5:QAX nmL 13 = ⟨3,[111,117,116],0,13⟩:=by kernel_rfl
 have h6:QAX nmL 17 = ⟨1,[120],0,17⟩:=by kernel_rfl
 have h7:QAX nmL 18 = ⟨4,[59],0,18⟩:=by kernel_rfl
 have h8:QAX nmL 20 = ⟨4,[125],0,20⟩:=by kernel_rfl
 unfold nmT nmU
 rw [h0,h1,h2,h3,h4,h5,h6,h7,h8]
def nmP:Pr:=⟨[⟨3,str [109],[],[⟨8,str [120],0,0,0,[],⟨#[]⟩,⟨#[]⟩,13⟩],0,0,0⟩],[]⟩
theorem nm_run:QBZ (nmT ++ [QJr nmL.length]) 5 5 [] rs0 = some (nmP.decls,⟨9,[],0,0,0⟩):=by
 rw [nm_toks]
 kernel_rfl
theorem QNt:QGJ (str nmL) nmP:=QMj (hid nm_lex) (by decide) nm_run rfl
end
section
open Go.Lib (hid)
open Go.RowKit Lx Go.Shelf
theorem may_nmP:QFa nmP = true:=by kernel_rfl
theorem QOc (a:Int):QB8 nmP a↔a = 13:=by
 rw [QDr may_nmP]
 constructor
 ·rintro (⟨i,d,hi,hd,h⟩ | ⟨h,_⟩)
  ·obtain rfl:i = 0:=by have:nmP.decls.length = 1:=rfl;omega
   obtain rfl:(⟨3,str [109],[],[⟨8,str [120],0,0,0,[],⟨#[]⟩,⟨#[]⟩,13⟩],0,0,0⟩:De) = d:=by injection hd
   rcases h with ⟨h | h,_⟩ | ⟨j,x,hj,hx,_,ha⟩ | ⟨e,x,he,_⟩
   ·rcases h with ⟨_,h⟩ | h
    ·exact absurd h (by decide +kernel)
    ·exact absurd h (by decide +kernel)
   ·obtain ⟨i,k,h1,h2,h3,_⟩:=h;exact absurd h3 (Nat.not_lt_zero _)
   ·obtain rfl:j = 0:=Nat.lt_one_iff.1 hj
    obtain rfl:(⟨8,str [120],0,0,0,[],⟨#[]⟩,⟨#[]⟩,13⟩:It) = x:=by injection hx
    exact ha
   ·exact absurd he (Nat.not_lt_zero _)
  ·exact absurd h (by decide +kernel)
 ·rintro rfl
  exact .inl ⟨0,_,by decide,rfl,.inr (.inl ⟨0,_,by decide,rfl,by kernel_rfl,rfl⟩)⟩
theorem got_nm:Got (QB8 nmP) [(4,13)]:=⟨List.pairwise_singleton _ _,fun f=>by
 rw [List.mem_singleton,QOc]
 constructor
 ·rintro rfl;exact ⟨rfl,rfl⟩
 ·rintro ⟨h1,h2⟩;exact Prod.ext h1 h2⟩
theorem QMf:Small nmP:=by
 refine ⟨by decide,by decide,fun x hx=>by simp [nmP] at hx,fun d hd=>?_⟩
 obtain rfl:=List.mem_singleton.1 hd
 exact ⟨by decide,by decide,fun y hy=>by obtain rfl:=List.mem_singleton.1 hy;decide⟩
theorem QJu (sd se:Value) (w:World) (h:ProgAt w sd se nmP):Calls Tryz.prog 8 #[.agg #[sd,se]] w fun r Y=>∃ v,r = .returned v∧FlsAt Y v [((4:Int),(13:Int))]∧Below w.heap.size w Y :=
 (QFu sd se nmP w h QMf).mono fun r Y ⟨v,l,e,h1,h2,h3⟩=>by
  rw [(QJF (P:=QB8 nmP) h2).one got_nm] at h1
  exact ⟨v,e,h1,h3⟩
set_option maxHeartbeats 4000000 in
theorem QN0 (w:World) (PA:Hid (Calls Tryz.prog 5 #[.string ⟨#[104,121,98,114,105,100,32,109,40,41,32,123,32,111,117,116,32,120,59,32,125]⟩,.bool false] w fun r Y=>∃ sd se,r = .returned (.tuple #[.agg #[sd,se],.int .i64 0,.agg #[.int .i64 0,.int .i64 0]])∧ProgAt Y sd se nmP∧Below w.heap.size w Y)):Calls Tryz.prog 4 #[] w fun r Y=>r = .returned (.bool true)∧Below w.heap.size w Y:=by
 go_enter Tryz.func4,Tryz.ntmps4
 go_wp2_with (go_at_call 5;(with_reducible refine PA.out.mono ?_);rintro e w1 ⟨sd,se,rfl,hn,hb⟩;have HN:=hid hn;obtain ⟨⟨o1,dcap,db,doff,rfl,_⟩,⟨o2,cap,xb,xoff,rfl,_⟩,_⟩:=hn;have HB:=hid hb;clear hb)
 obtain ⟨w2,hw2⟩:∃ w2,w2 = (w1.alloc (.cells #[.slice o1 nmP.decls.length dcap,.slice o2 nmP.exprs.length cap] 26)).alloc (.cells #[.int .i64 0,.int .i64 0] 29):=⟨_,rfl⟩
 have hb2:Below w1.heap.size w1 w2:=by rw [hw2];exact ((Below.refl _ _).alloc (Nat.le_refl _) _).alloc (by simp) _
 have x1:w2.heap[w1.heap.size+1]? = some (.cells #[.int .i64 0,.int .i64 0] 29 (0,0)):=by rw [hw2];exact QAR (by simp)
 have HB2:=hid (HB.out.trans (hb2.mono HB.out.size))
 have HX:=hid x1
 have FA:=hid (QJu _ _ w2 (HN.out.below hb2))
 rw [← hw2]
 clear hw2 hb2 x1
 refine FA.out.mono ?_
 rintro e w3 ⟨v,rfl,⟨of,cf,fb,foff,rfl,hc1,_,ho,hc⟩,hb3⟩
 obtain rfl:=ho Nat.one_pos
 have f0:=(hc 0 Nat.one_pos _ rfl).1
 have f1:=(hc 0 Nat.one_pos _ rfl).2
 simp only [Nat.zero_mul,Nat.add_zero] at f0 f1
 dsimp only
 obtain ⟨u0,u1⟩:=QAA ((hb3.block _ (lt_of_heap HX.out)).trans HX.out)
 have HB3:=hid (HB2.out.trans (hb3.mono HB2.out.size))
 clear hb3 hc ho
 go_wp2_with fail
 go_ret
 exact ⟨rfl,HB3.out⟩
end
section
open Go.Lib (hid)
open Go.RowKit Lx
theorem QIr (w:World):Calls Tryz.prog 4 #[] w fun r Y=>r = .returned (.bool true)∧Below w.heap.size w Y:=QN0 w (hid (QNt w))
end
section
open Go.Lib (hid)
open Go.RowKit Lx Go.Shelf Go.Maps
attribute [local go_sem] Oper.semAt_some
set_option linter.unusedVariables false
set_option maxHeartbeats 16000000
theorem QM5 {p:Pr} (h:GoodP p):QFa p = true:=by
 unfold QFa
 rw [Bool.and_eq_true,List.all_eq_true]
 refine ⟨fun d hd=>?_,h.may⟩
 have g:=h.de d hd
 unfold QCC
 simp only [Bool.and_eq_true,decide_eq_true_eq,List.all_eq_true]
 exact ⟨g.kind,fun y hy=>by have:=(g.it y hy).kind;unfold QCp;simp only [Bool.and_eq_true,decide_eq_true_eq];exact this⟩
theorem QNM (l:List De):∀ n,1 < hybs (l.take n)→∃ i d,i < n∧l[i]? = some d∧d.kind = 3∧1 < hybs (l.take (i+1)):=by
 intro n
 induction n with
 | zero=>intro h;simp [hybs] at h
 | succ n ih =>
  intro h
  by_cases h1:1 < hybs (l.take n)
  ·obtain ⟨i,d,hi,r⟩:=ih h1;exact ⟨i,d,by omega,r⟩
  ·cases hx:l[n]? with
   | none =>
    have hl:l.length≤n:=List.getElem?_eq_none_iff.1 hx
    rw [List.take_of_length_le (by omega:l.length≤n+1)] at h
    rw [List.take_of_length_le hl] at h1
    exact absurd h h1
   | some x =>
    have hs:=QDg l n x hx
    by_cases hk:x.kind = 3
    ·exact ⟨n,x,by omega,hx,hk,h⟩
    ·rw [if_neg hk] at hs;omega
theorem faults_one {p:Pr} (hm:QFa p = true):∃ L:List Flt,Got (QB8 p) L:=by
 classical
 refine ⟨QKs (((QDC p).filter (fun a=>decide (QB8 p a))).map fun a=>(4,a)),QJF fun x=>?_⟩
 rw [List.mem_map]
 constructor
 ·rintro ⟨a,ha,e⟩
  exact ⟨a,of_decide_eq_true (List.mem_filter.1 ha).2,e.symm⟩
 ·rintro ⟨a,ha,e⟩
  refine ⟨a,List.mem_filter.2 ⟨?_,decide_eq_true ha⟩,e.symm⟩
  rcases (QDr hm a).1 ha with h | ⟨_,rfl⟩
  ·exact QFM h
  ·exact List.mem_cons_self
theorem wrong_pos {p:Pr} (hm:QFa p = true) {a:Int} (ha:QB8 p a):a∈QDC p:=by
 rcases (QDr hm a).1 ha with h | ⟨_,rfl⟩
 ·exact QFM h
 ·exact List.mem_cons_self
theorem QMU {p:Pr} (h:QH2 p):hybs p.decls = 1:=by
 obtain ⟨hm,hn⟩:=h
 rcases Nat.lt_trichotomy (hybs p.decls) 1 with h0 | h0 | h0
 ·exact absurd ((QDr hm 0).2 (.inr ⟨by omega,rfl⟩)) (hn 0)
 ·exact h0
 ·obtain ⟨i,d,hi,hd,hk,h1⟩:=QNM p.decls p.decls.length (by rwa [List.take_length])
  exact absurd ((QDr hm d.pos).2 (.inl ⟨i,d,hi,hd,.inl ⟨.inl (.inl ⟨hk,h1⟩),rfl⟩⟩)) (hn d.pos)
set_option maxRecDepth 100000 in
theorem QMk (s:ByteArray) (c f:Int) (hc:c≠0) (hB:QIp s c f) (w:World):Calls Tryz.prog 3 #[.string s] w fun r Y=>r = .returned (.bool true)∧Below w.heap.size w Y:=by
 have CA:=hid (QIr w)
 have CP:Hid (∀ W,Calls Tryz.prog 5 #[.string s,.bool false] W fun r Y=>r = .returned (.tuple #[.agg #[.slice none 0 0,.slice none 0 0],.int .i64 0,.agg #[.int .i64 c,.int .i64 f]])∧Below W.heap.size W Y):=hid hB
 have q3:(c != 0) = true:=bne_iff_ne.2 hc
 clear hB hc
 go_enter Tryz.func3,Tryz.ntmps3
 go_wp2_with first | (go_at_call 4;(with_reducible refine CA.out.mono ?_);rintro r w1 ⟨rfl,hb⟩;have HB1:=hid hb;clear hb) | (go_at_call 5;(with_reducible refine (CP.out _).mono ?_);rintro r w2 ⟨rfl,hb⟩;have HB2:=hid (HB1.out.trans (hb.mono HB1.out.size));clear hb)
 go_ret
 exact ⟨rfl,(HB2.out.alloc HB2.out.size _).alloc (by have:=HB2.out.size;simp;omega) _⟩
set_option maxRecDepth 100000 in
theorem QOP (s:ByteArray) (p:Pr) (hp:GoodP p) (hT:QGJ s p) (w:World):Calls Tryz.prog 3 #[.string s] w fun r Y=>r = .returned (.bool true)∧Below w.heap.size w Y:=by
 have CA:=hid (QIr w)
 have HMM:=hid (QM5 hp)
 obtain ⟨m,hm⟩:∃ n,n = p.decls.length:=⟨_,rfl⟩
 obtain ⟨n,hn⟩:∃ n,n = p.exprs.length:=⟨_,rfl⟩
 have CP:Hid (∀ W,Calls Tryz.prog 5 #[.string s,.bool false] W fun r Y=>∃ (o1:Option Addr) (dcap db doff:Nat) (o2:Option Addr) (cap:Nat),r = .returned (.tuple #[.agg #[.slice o1 m dcap,.slice o2 n cap],.int .i64 0,.agg #[.int .i64 0,.int .i64 0]])∧ProgAt Y (.slice o1 m dcap) (.slice o2 n cap) p∧(0 < m→o1 = some ⟨db,doff,none⟩)∧(∀ i,i < m→∀ x,p.decls[i]? = some x→DeAt Y db (doff+i*7) x)∧Below W.heap.size W Y):=hid fun W=>(hT W).mono fun r Y ⟨sd,se,e,h,hb⟩=>by
  have h':=h
  obtain ⟨⟨o1,dcap,db,doff,rfl,hd1,hd2,hd3,hd4⟩,⟨o2,cap,b,off,rfl,he1,he2,he3,he4⟩,h3,h4⟩:=h
  rw [← hm,← hn] at *
  exact ⟨o1,dcap,db,doff,o2,cap,e,h',hd3,hd4,hb⟩
 have HM:=hid hm
 clear hT hp hm hn
 go_enter Tryz.func3,Tryz.ntmps3
 go_wp2_with first | (go_at_call 4;(with_reducible refine CA.out.mono ?_);rintro r w1 ⟨rfl,hb⟩;have HB1:=hid hb;clear hb) | (go_at_call 5;(with_reducible refine (CP.out _).mono ?_);rintro r w2 ⟨o1,dcap,db,doff,o2,cap,rfl,hpa,hd,hdc,hb⟩;have HB2:=hid (HB1.out.trans (hb.mono HB1.out.size));have HPA:=hid hpa;have HD:=hid hd;have HDC:=hid hdc;clear hb hpa hd hdc)
 obtain ⟨W3,hW3⟩:∃ W3,W3 = (w2.alloc (.cells #[.slice o1 m dcap,.slice o2 n cap] 26)).alloc (.cells #[.int .i64 0,.int .i64 0] 29):=⟨_,rfl⟩
 have hb3:Below w2.heap.size w2 W3:=by rw [hW3];exact ((Below.refl _ _).alloc (Nat.le_refl _) _).alloc (by simp) _
 have x0:W3.heap[w2.heap.size]? = some (.cells #[.slice o1 m dcap,.slice o2 n cap] 26 (0,0)):=by rw [hW3,heap_alloc_old _ _ (by simp)];exact heap_alloc_new _ _
 have HB3:=hid (HB2.out.trans (hb3.mono HB2.out.size))
 have HPA3:=hid (HPA.out.below hb3)
 have HDC3:Hid (∀ i,i < m→∀ x,p.decls[i]? = some x→DeAt W3 db (doff+i*7) x):=hid fun i hi x hx=>(HDC.out i hi x hx).below hb3
 have HX3:=hid x0
 have CG:=hid (QLa _ _ p W3 HPA3.out)
 rw [← hW3]
 clear hW3 hb3 x0 HPA HDC CA CP
 refine CG.out.mono ?_
 rintro r w4 ⟨g,rfl,hg,hb4⟩
 dsimp only
 have HB4:=hid (HB3.out.trans (hb4.mono HB3.out.size))
 have HX4:=hid ((hb4.block _ (lt_of_heap HX3.out)).trans HX3.out)
 have HPA4:=hid (HPA3.out.below hb4)
 have HDC4:Hid (∀ i,i < m→∀ x,p.decls[i]? = some x→DeAt w4 db (doff+i*7) x):=hid fun i hi x hx=>(HDC3.out i hi x hx).below hb4
 clear hb4 HX3 HPA3 HDC3 HB3 CG
 cases g with
 | true =>
  clear hg
  go_wp2_with fail
  go_ret
  exact ⟨rfl,HB4.out⟩
 | false =>
  have hS:=hid (hg rfl)
  clear hg
  have g1:w4.cell? ⟨w2.heap.size,0,none⟩ = some (.slice o1 m dcap):=by simp [World.cell?,HX4.out]
  have g2:w4.cell? ⟨w2.heap.size,1,none⟩ = some (.slice o2 n cap):=by simp [World.cell?,HX4.out]
  have ml:(m:Int)≤60:=by have:=hS.out.decls;have:=HM.out;omega
  go_wp2_with fail
  go_loopw [6,7] (fun c i wr=>∃ j:Nat,c = .int .i64 (hybs (p.decls.take j):Nat)∧i = .int .i64 (j:Int)∧j≤m∧wr = w4) (fun _ i _=>m - QA2 i)
  case atStart=>exact ⟨0,by simp [hybs],rfl,Nat.zero_le _,rfl⟩
  case round =>
   obtain ⟨j,rfl,rfl,hj,hwr⟩:=hrel
   subst hwr
   rcases Nat.lt_or_ge j m with hlt | hge
   ·have hl:(j:Int) < (m:Int):=by omega
    obtain ⟨d,hdj⟩:∃ x,p.decls[j]? = some x:=⟨_,List.getElem?_eq_getElem (by have:=HM.out;omega)⟩
    obtain ⟨op,capp,oi,capi,bi,offi,hok,c0,c1,c2,c3,c4,c5,c6,hi3,hi4⟩:=de_cells' (HDC4.out j hlt d hdj) (Below.refl _ _)
    have ix:=QCh (cap:=dcap) HD.out hlt (by omega)
    unfold Ix at ix
    have HC:=hid (QDg p.decls j d hdj)
    obtain ⟨h,hh⟩:∃ h,h = hybs (p.decls.take j):=⟨_,rfl⟩
    have hle:(h:Int)≤60:=by have:=QF4 (p.decls.take j);rw [List.length_take] at this;omega
    rw [← hh] at HC ⊢
    clear hi3 hi4 hok hdj hh
    by_cases hk:d.kind = 3
    ·have q1:(d.kind == 3) = true:=by rw [hk];rfl
     have HK:=hid hk
     clear hk
     go_wp2_with fail
     exact ⟨⟨j+1,by rw [HC.out,if_pos HK.out];go_num,by go_num,by omega,trivial⟩,by simp [QA2];omega⟩
    ·have q1:(d.kind == 3) = false:=beq_false_of_ne hk
     have HK:=hid hk
     clear hk
     go_wp2_with fail
     exact ⟨⟨j+1,by rw [HC.out,if_neg HK.out];rfl,by go_num,by omega,trivial⟩,by simp [QA2];omega⟩
   ·obtain rfl:j = m:=by omega
    obtain ⟨h,hh⟩:∃ h,h = hybs (p.decls.take j):=⟨_,rfl⟩
    have hh1:h = hybs p.decls:=by rw [hh,List.take_of_length_le (by have:=HM.out;omega)]
    have hle:(h:Int)≤60:=by have:=QF4 (p.decls.take j);rw [List.length_take] at this;omega
    rw [← hh]
    obtain ⟨L,hL⟩:=faults_one HMM.out
    have hLl:L.length≤1000000:=Nat.le_trans (Nat.le_trans (hL.len fun a ha=>wrong_pos HMM.out ha) (QJJ hS.out)) (by omega)
    obtain ⟨q,hq⟩:∃ q:Bool,(q = true↔QH2 p):=by classical exact ⟨decide (QH2 p),decide_eq_true_iff⟩
    have hone:q = true→h = 1:=fun e=>by rw [hh1];exact QMU (hq.1 e)
    have CF:Hid (∀ W,Below wr.heap.size wr W→Calls Tryz.prog 8 #[.agg #[.slice o1 j dcap,.slice o2 n cap]] W fun r Y=>∃ v,r = .returned v∧FlsAt Y v L∧Below W.heap.size W Y):=hid fun W hW=>(QFu _ _ p W (HPA4.out.below hW) hS.out).mono fun r Y ⟨v,l,e,h1,h2,h3⟩=>by
     rw [(QJF (P:=QB8 p) h2).one hL] at h1
     exact ⟨v,e,h1,h3⟩
    have CE:Hid (∀ W,Below wr.heap.size wr W→Calls Tryz.prog 9 #[.agg #[.slice o1 j dcap,.slice o2 n cap]] W fun r Y=>∃ v,r = .returned v∧FlsAt Y v L∧Below W.heap.size W Y):=hid fun W hW=>(QGj _ _ p W (HPA4.out.below hW) hS.out HMM.out).mono fun r Y ⟨v,e,⟨l,h1,h2⟩,h3⟩=>by
     rw [h2.one hL] at h1
     exact ⟨v,e,h1,h3⟩
    have CS:Hid (∀ W s t,FlsAt W s L→FlsAt W t L→Calls Tryz.prog 7 #[s,t] W fun r Y=>r = .returned (.bool true)∧Below W.heap.size W Y):=hid fun W s t h1 h2=>(same_fl s t L L W h1 h2 hLl).mono fun r Y h=>by simpa using h
    have CR:Hid (∀ W,Below wr.heap.size wr W→Calls Tryz.prog 10 #[.agg #[.slice o1 j dcap,.slice o2 n cap]] W fun r Y=>r = .returned (.bool q)∧Below W.heap.size W Y):=hid fun W hW=>(QMT _ _ p W (HPA4.out.below hW) hS.out).mono fun r Y ⟨z,e,h1,h2⟩=>by
     have:z = q:=by rw [Bool.eq_iff_iff,h1,hq]
     rw [← this];exact ⟨e,h2⟩
    clear hL hLl hq hh hh1
    have mixed : Tryz.prog.follows .mixedOrders = true:=by kernel_rfl
    have late : Tryz.prog.follows .lateStores = true:=by kernel_rfl
    have hbw3:Below wr.heap.size wr wr.drew:=⟨rfl,rfl,rfl,Nat.le_refl _,fun _ _=>rfl⟩
    obtain ⟨z,hz⟩:∃ z,(!q) = z:=⟨_,rfl⟩
    cases z with
    | false =>
     obtain rfl:h = 1:=hone (by simpa using hz)
     clear hone
     go_upto_region 12 with fail
     (first | (go_region_held3 (fun w'=>w'.cell? ⟨w2.heap.size,0,none⟩ = some (.slice o1 j dcap)∧w'.cell? ⟨w2.heap.size,1,none⟩ = some (.slice o2 n cap))
      (first | exact ⟨g1,g2⟩ | exact ⟨s1,s2⟩ | exact ⟨t1,t2⟩ | exact ⟨x1,x2⟩ | exact ⟨y1,y2⟩)
      (first
       | (go_at_call 8;refine (CF.out _ ?_).mono ?_;(with_reducible exact hbw3);rintro e w4 ⟨v4,rfl,hv4,hb4⟩;have s1:=QA1 hb4 g1;have s2:=QA1 hb4 g2;have hbw4:Below wr.heap.size wr w4:=hbw3.trans (hb4.mono hbw3.size))
       | (go_at_call 9;refine (CE.out _ ?_).mono ?_;(with_reducible exact hbw4);rintro e w5 ⟨v5,rfl,hv5,hb5⟩;have t1:=QA1 hb5 s1;have t2:=QA1 hb5 s2;have hbw5:Below wr.heap.size wr w5:=hbw4.trans (hb5.mono hbw4.size);have hv45:=hv4.below hb5)
       | (go_at_call 7;refine (CS.out _ _ _ ?_ ?_).mono ?_;(with_reducible exact hv45);(with_reducible exact hv5);rintro e w6 ⟨rfl,hb6⟩;have x1:=QA1 hb6 t1;have x2:=QA1 hb6 t2;have hbw6:Below wr.heap.size wr w6:=hbw5.trans (hb6.mono hbw5.size))
       | (go_at_call 10; refine (CR.out _ ?_).mono ?_; (with_reducible exact hbw6); rintro e w7 ⟨rfl, hb7⟩; have y1 := QA1 hb7 x1; have y2 := QA1 hb7 x2; have hbw7 : Below wr.heap.size wr w7 := hbw6.trans (hb7.mono hbw6.size)))) | fail "held3")
     go_wp2_with fail
     go_ret
     exact ⟨rfl,HB4.out.trans (hbw7.mono HB4.out.size)⟩
    | true =>
     clear hone
     go_upto_region 12 with fail
     (first | (go_region_with
      (first
       | (go_at_call 8;refine (CF.out _ ?_).mono ?_;(with_reducible exact hbw3);rintro e w4 ⟨v4,rfl,hv4,hb4⟩;have s1:=QA1 hb4 g1;have s2:=QA1 hb4 g2;have hbw4:Below wr.heap.size wr w4:=hbw3.trans (hb4.mono hbw3.size))
       | (go_at_call 9;refine (CE.out _ ?_).mono ?_;(with_reducible exact hbw4);rintro e w5 ⟨v5,rfl,hv5,hb5⟩;have t1:=QA1 hb5 s1;have t2:=QA1 hb5 s2;have hbw5:Below wr.heap.size wr w5:=hbw4.trans (hb5.mono hbw4.size);have hv45:=hv4.below hb5)
       | (go_at_call 7;refine (CS.out _ _ _ ?_ ?_).mono ?_;(with_reducible exact hv45);(with_reducible exact hv5);rintro e w6 ⟨rfl,hb6⟩;have x1:=QA1 hb6 t1;have x2:=QA1 hb6 t2;have hbw6:Below wr.heap.size wr w6:=hbw5.trans (hb6.mono hbw5.size))
       | (go_at_call 10; refine (CR.out _ ?_).mono ?_; (with_reducible exact hbw6); rintro e w7 ⟨rfl, hb7⟩; have y1 := QA1 hb7 x1; have y2 := QA1 hb7 x2; have hbw7 : Below wr.heap.size wr w7 := hbw6.trans (hb7.mono hbw6.size)))) | fail "held3")
     all_goals (go_wp2_with fail;go_ret;exact ⟨rfl,HB4.out.trans (hbw7.mono HB4.out.size)⟩)
theorem QHp (s:ByteArray) (w:World):Calls Tryz.prog 3 #[.string s] w fun r Y=>r = .returned (.bool true)∧Below w.heap.size w Y:=by
 rcases QMG s with ⟨c,f,hc,h⟩ | ⟨p,hp,_,_,h⟩
 ·exact QMk s c f hc h w
 ·exact QOP s p hp h w
end
end Go.Proofs.YtknbghjoncomiaaGreat
