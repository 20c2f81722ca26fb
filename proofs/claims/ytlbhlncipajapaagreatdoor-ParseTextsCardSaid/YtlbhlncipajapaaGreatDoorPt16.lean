import Derived.Test.YtlbhlncipajapaaGreatDoorPt15
import Derived.Deep.CutRange
import Derived.Deep.CutBlock
import Derived.Deep.RegionHeld3
set_option maxHeartbeats 16000000
set_option maxRecDepth 100000
set_option linter.unusedVariables false
open Go.Proofs.Tryz(prog)
namespace Go.Proofs.YtlbhlncipajapaaGreatDoor
open Go.RowKit Lx
def kindV (ts:List Tok) (σ:RS):Int:=if isS ts [98,111,111,108] σ=true then 2 else 1
def kindS (ts:List Tok) (σ:RS):RS:=if isS ts [98,111,111,108] σ=true then stepS σ else wantS ts [102,105,120] σ
def it0:It:=⟨0,⟨#[]⟩,0,0,0,[],⟨#[]⟩,⟨#[]⟩,0⟩
def ItRetG (b g cap:Nat) (dv:Value) (ts:List Tok) (xb:Nat→Prop) (W:World) (x:It) (ok:Bool) (σ:RS) (r:Ending) (Y:World):Prop :=
 ∃so sn sc,r=.returned (.tuple #[.agg #[.int .i64 x.kind,.string x.name,.int .i64 x.type,.int .i64 x.e,.int .i64 x.f,.slice so sn sc,.string x.state,.string x.next,.int .i64 x.pos],.bool ok])∧Rd Y b g cap dv ts xb σ∧RK b W Y∧Y.ownsRow W.heap.size 9 1 (.slice so sn sc) x.states.length (x.states.map .string)
theorem kind_any (b g cap:Nat) (dv:Value) (ts:List Tok) (xb:Nat→Prop) (σ:RS) (W:World) (h:Hid (Rd W b g cap dv ts xb σ)) :
  Calls prog 44 #[.pointer (some ⟨b,0,none⟩)] W fun r Y=>RdRet b g cap dv ts xb W (.int .i64 (kindV ts σ)) (kindS ts σ) r Y:=by
 unfold kindV kindS
 cases hi:isS ts [98,111,111,108] σ with
 | true =>
  have C:Hid (Calls prog 36 #[.pointer (some ⟨b,0,none⟩),.string ⟨#[98,111,111,108]⟩] W fun r Y=>RdRet b g cap dv ts xb W (.bool true) (stepS σ) r Y):=Hd (took_true [98,111,111,108] hi W h)
  clear hi
  go_enter Tryz.func44,Tryz.ntmps44
  go_wp2_with (go_at_call 36;(with_reducible refine C.out.mono ?_);rintro e w1 ⟨rfl,hr,hk⟩;have HR:=Hd hr;have HK:=Hd hk;clear hr hk)
  go_ret
  exact⟨rfl,HR.out,HK.out⟩
 | false =>
  have C:Hid (Calls prog 36 #[.pointer (some ⟨b,0,none⟩),.string ⟨#[98,111,111,108]⟩] W fun r Y=>RdRet b g cap dv ts xb W (.bool false) σ r Y):=Hd (took_false [98,111,111,108] hi W h)
  have C2:Hid (∀W,Hid (Rd W b g cap dv ts xb σ)→Calls prog 37 #[.pointer (some ⟨b,0,none⟩),.string ⟨#[102,105,120]⟩] W fun r Y=>RdRet b g cap dv ts xb W (.tuple #[]) (wantS ts [102,105,120] σ) r Y):=Hd fun W h=>want_any b g cap dv ts xb σ [102,105,120] W h
  clear hi
  go_enter Tryz.func44,Tryz.ntmps44
  go_wp2_with (first
   | (go_at_call 36;(with_reducible refine C.out.mono ?_);rintro e w1 ⟨rfl,hr,hk⟩;have HR:=Hd hr;have HK:=Hd hk;clear hr hk)
   | (go_at_call 37;(with_reducible refine(C2.out w1 HR).mono ?_);rintro e w2 ⟨rfl,hr,hk⟩;have HR2:=Hd hr;have HK2:=Hd hk;clear hr hk))
  go_ret
  exact⟨rfl,HR2.out,HK.out.trans HK2.out⟩
theorem IB.below {W0 Y Z:World} {b g cap:Nat} {dv:Value} {ts:List Tok} {xb:Nat→Prop} {σ:RS} {A:Nat} {c:Array Value} (h:IB W0 Y b g cap dv ts xb σ A c) (hb:Below Y.heap.size Y Z):IB W0 Z b g cap dv ts xb σ A c :=
 h.call (h.rd.below hb) (RK.of_below hb (by have:=h.hb;have:=h.rk.size;omega))
theorem IB.grown {W0 Y Z:World} {b g cap:Nat} {dv:Value} {ts:List Tok} {xb:Nat→Prop} {σ:RS} {A:Nat} {c:Array Value} (h:IB W0 Y b g cap dv ts xb σ A c) {v:Value} {n:Nat} {xs:List Value} (ho:Y.ownsRow W0.heap.size 9 1 v n xs) (hg:Y.grownBy Z v.ownBlock):IB W0 Z b g cap dv ts xb σ A c:=by
 have ne:∀(k:Nat) (cs:Array Value),Y.heap[k]?=some (.cells cs 65 (0,0))→Z.heap[k]?=some (.cells cs 65 (0,0)):=fun k cs hk=>(hg.block k (heap_lt hk) fun e=>by
  obtain⟨_,cs',hc⟩:=own_type ho e.symm
  rw[hk] at hc;cases hc).trans hk
 exact⟨h.rd.grownT ho h.hb (by decide) (by decide) hg,h.rk.grownT h.hb ho hg,ne A _ h.zero,ne (A+1) _ h.box,h.hA,h.hb⟩
noncomputable def rgn (n:Nat):Code→Option Code
 | .region i o d=>if i=n then some (.region i o d) else none
 | .seq a b=>match rgn n a with
  | some c=>some c
  | none=>rgn n b
 | .cond _ a b=>match rgn n a with
  | some c=>some c
  | none=>rgn n b
 | .block _ c=>rgn n c
 | .loop c=>rgn n c
 | _=>none
noncomputable def rgnOf (f:Func) (n:Nat):Code:=match rgn n (match f.body with | some c=>c | none=>.skip) with
 | some c=>c
 | none=>.skip
def statesL (ts:List Tok):Nat→List ByteArray→RS→Option (List ByteArray×RS)
 | 0,_,_=>none
 | f+1,acc,σ=>if acc.length≤40000 then(if isS ts [44] σ=true then statesL ts f (acc++[str (nameV ts (stepS σ))]) (nameS ts (stepS σ)) else some (acc,σ)) else none
theorem str_info:(prog.info? 9).map (fun i=>(i.zero,i.size,i.bytes))=some (some (.string ⟨#[]⟩),1,16):=by kernel_rfl
theorem step_strs {ops:Array Oper} {o:Oper} {a:Act} {K:Act→World→Prop} {Q:Exit→Act→World→Prop} {E:Prop} (w:World) (hgd:o.guard=none) (s x:Operand)
  (ho:o.op=Op.call { callee:=Callee.builtin Builtin.append,args:=#[s,x],argTypes:=#[63,63] }) (B:Nat) (v:Value) (n:Nat) (xs:List Value) (hs:a.eval s=v) (hown:w.ownsRow B 9 1 v n xs)
  (kb:Nat) (u:Value) (hx:a.eval x=.slice (some ⟨kb,0,none⟩) 1 1) (hc:w.cell? ⟨kb,0,none⟩=some u) (h1c:u.oneCell'=true) (hk:n≤40000) (hB:B≤w.heap.size)
  (h:∀g cap w',w'.ownsRow B 9 1 (.slice (some ⟨g,0,none⟩) (n+1) cap) (n+1) (xs++[u])→w.grownBy w' v.ownBlock→K (a.put o.dst (.slice (some ⟨g,0,none⟩) (n+1) cap)) w'):if Region.wanted o (yielded ops a.tmps)=true then Oper.wp prog o a w K Q else E:=by
 rw[if_pos (by simp[Region.wanted,hgd])]
 obtain⟨i,h2,h3,h4,h5⟩:=info_parts str_info
 refine wp_append_own w s x 63 ho B 9 i _ 1 16 Tryz.underlying63 h2 h3 h4 h5 rfl (by decide) v n xs hs hown ⟨kb,0,none⟩ 1 1 [u] hx rfl (fun j v hj=>?_) (by simpa using h1c) (by unfold maxLen;omega) (by omega) hB fun v' w' r1 r2 _=>?_
 ·cases j with
  | zero =>
   cases hj
   have e:(⟨kb,0,none⟩:Addr).add 0=⟨kb,0,none⟩:=by unfold Addr.add;split <;> simp_all
   rw[e];exact hc
  | succ j=>simp at hj
 ·obtain⟨g,cap,rfl⟩:=ownsRow_succ r1
  exact h g cap w' r1 r2
theorem step_call1 {ops:Array Oper} {o:Oper} {a:Act} {K:Act→World→Prop} {Q:Exit→Act→World→Prop} {E:Prop} (w:World) (hgd:o.guard=none) (f:FuncId) (args:Array Value) (hr:(execOp a.eval o).run prog w=.ok (.enter f args) w) (P:Ending→World→Prop) (C:Calls prog f args w P)
  (h:∀e w',P e w'→∃val,e=.returned val∧K (a.put o.dst val) w'):if Region.wanted o (yielded ops a.tmps)=true then Oper.wp prog o a w K Q else E:=by
 rw[if_pos (by simp[Region.wanted,hgd])]
 unfold Oper.wp
 rw[hr,Oper.upon_enter]
 refine C.mono fun e w' hp=>?_
 obtain⟨val,rfl,hk⟩:=h e w' hp
 exact hk
theorem new_cell1 (W:World) (v:Value) (T:TypeId):(W.alloc (.cells #[v] T)).cell? ⟨W.heap.size,0,none⟩=some v:=by
 rw[World.cell?_alloc_new];rfl
def onlyN (Q:Exit→Act→World→Prop):Exit→Act→World→Prop
 | .normal,a,w=>Q .normal a w
 | _,_,_=>False
theorem wp_onlyN {P:Program} {c:Code} {Q:Exit→Act→World→Prop} {a:Act} {w:World} (h:c.wp P (onlyN Q) a w):c.wp P Q a w:=by
 intro b k cs
 obtain⟨e,a₁,w₁,hq,harr⟩:=h b k cs
 refine⟨e,a₁,w₁,?_,harr⟩
 cases e with
 | normal=>exact hq
 | _=>exact hq.elim
theorem row_set {W:World} {B:Nat} {T T2:TypeId} {s:Nat} {v:Value} {n:Nat} {xs:List Value} (h:W.ownsRow B T s v n xs) {A:Nat} {cs:Array Value} (hA:W.heap[A]?=some (.cells cs T2 (0,0))) (i:Nat) (u:Value) (hT:T≠T2:=by decide):(W.setCell ⟨A,i,none⟩ u).ownsRow B T s v n xs :=
 rd_own_same h fun k e=>Below.heap_setCell W ⟨A,i,none⟩ u k fun hk=>by
  obtain⟨_,cs',hc⟩:=own_type h e
  rw[hk] at hc
  rw[show(⟨A,i,none⟩:Addr).block=A from rfl,hA] at hc
  cases hc;exact hT rfl
theorem mode43 {u1 u2 u3 u5 u7 u8 u9 u10 u11 u12 u13 u14 u15 u16 u17 u18 u19 u20 u21 u22 u23 u24 u25 u26 u27 u28 u29 u30 u31 u32 u33 u34 u35 u36 u37 u38 u39 u40 u41 u42 u43 u44 u45 u46 u47 u48 u49 u50 u51 u52 u53 u54 u55 u56 u57 u58 u59 u60 u61 u62 u63 u64 u65 u66 u67 u68 u69 u70 u71 u72 u73 u74 u75 u76 u77 u78 u79 u80 u81 u82 u83 u84 u85 u86 u87 u88 u89 u90 u91 u92 u93 u94 u95 u96 u97 u98 u99 u100 u101 u102 u103 u104 u105 u106 u107 u108 u109 u110 u111 u112 u113 u114 u115 u116 u117 u118 u119 u120 u121 u122 u123 u124 u125 u126 u127 u128 u129 u130 u131 u132 u133 u134 u135 u136 u137 u138 u139 u140 u141 u142 u143 u144 u145 u146 u147 u148 u149 u150 u151 u152 u153 u154 u155 u156 u157 u158 u159 u160 u161 u162 u163 u164 u165 u166 u167 u168 u169 u170 u171 u172 u173 u174 u175 u176 u177 u178 u179 u180 u181 u182 u183 u184 u185 u186 u187 u188 u189 u190:Value} (b g cap:Nat) (dv:Value) (ts:List Tok) (xb:Nat→Prop) (σ τ:RS) (v:List UInt8) (hv:Hid (v=nameV ts σ)) (hτ:Hid (τ=nameS ts σ)) (W0 W:World) (A:Nat) (nm:ByteArray) (pp:Int) (so:Option Addr) (sn sc:Nat) (xs:List Value) (hsn:sn≤40000) (HS:Hid (IB W0 W b g cap dv ts xb σ A #[.int .i64 6,.string nm,.int .i64 0,.int .i64 0,.int .i64 0,.slice so sn sc,.string ⟨#[]⟩,.string ⟨#[]⟩,.int .i64 pp])) (HO:Hid (W.ownsRow W0.heap.size 9 1 (.slice so sn sc) sn xs))
  (K:Exit→Act→World→Prop) (hK:Hid (∀(v129 v130 v131 v132 v133 v134 v135:Value) (Y:World) (so':Option Addr) (sc':Nat),IB W0 Y b g cap dv ts xb τ A #[.int .i64 6,.string nm,.int .i64 0,.int .i64 0,.int .i64 0,.slice so' (sn+1) sc',.string ⟨#[]⟩,.string ⟨#[]⟩,.int .i64 pp]→Y.ownsRow W0.heap.size 9 1 (.slice so' (sn+1) sc') (sn+1) (xs++[.string (str v)])→K Exit.normal ⟨[.pointer (some ⟨b,0,none⟩),u1,u2,u3,.pointer (some ⟨A,0,none⟩),u5,.pointer (some ⟨A+1,0,none⟩),u7,u8,u9,u10,u11,u12,u13,u14,u15,u16,u17,u18,u19,u20,u21,u22,u23,u24,u25,u26,u27,u28,u29,u30,u31,u32,u33,u34,u35,u36,u37,u38,u39,u40,u41,u42,u43,u44,u45,u46,u47,u48,u49,u50,u51,u52,u53,u54,u55,u56,u57,u58,u59,u60,u61,u62,u63,u64,u65,u66,u67,u68,u69,u70,u71,u72,u73,u74,u75,u76,u77,u78,u79,u80,u81,u82,u83,u84,u85,u86,u87,u88,u89,u90,u91,u92,u93,u94,u95,u96,u97,u98,u99,u100,u101,u102,u103,u104,u105,u106,u107,u108,u109,u110,u111,u112,u113,u114,u115,u116,u117,u118,u119,u120,u121,u122,u123,u124,u125,u126,u127,u128,v129,v130,v131,v132,v133,v134,v135,u136,u137,u138,u139,u140,u141,u142,u143,u144,u145,u146,u147,u148,u149,u150,u151,u152,u153,u154,u155,u156,u157,u158,u159,u160,u161,u162,u163,u164,u165,u166,u167,u168,u169,u170,u171,u172,u173,u174,u175,u176,u177,u178,u179,u180,u181,u182,u183,u184,u185,u186,u187,u188,u189,u190].toArray,[]⟩ Y)) :
  (rgnOf Tryz.f73 43).wp prog K ⟨[.pointer (some ⟨b,0,none⟩),u1,u2,u3,.pointer (some ⟨A,0,none⟩),u5,.pointer (some ⟨A+1,0,none⟩),u7,u8,u9,u10,u11,u12,u13,u14,u15,u16,u17,u18,u19,u20,u21,u22,u23,u24,u25,u26,u27,u28,u29,u30,u31,u32,u33,u34,u35,u36,u37,u38,u39,u40,u41,u42,u43,u44,u45,u46,u47,u48,u49,u50,u51,u52,u53,u54,u55,u56,u57,u58,u59,u60,u61,u62,u63,u64,u65,u66,u67,u68,u69,u70,u71,u72,u73,u74,u75,u76,u77,u78,u79,u80,u81,u82,u83,u84,u85,u86,u87,u88,u89,u90,u91,u92,u93,u94,u95,u96,u97,u98,u99,u100,u101,u102,u103,u104,u105,u106,u107,u108,u109,u110,u111,u112,u113,u114,u115,u116,u117,u118,u119,u120,u121,u122,u123,u124,u125,u126,u127,u128,u129,u130,u131,u132,u133,u134,u135,u136,u137,u138,u139,u140,u141,u142,u143,u144,u145,u146,u147,u148,u149,u150,u151,u152,u153,u154,u155,u156,u157,u158,u159,u160,u161,u162,u163,u164,u165,u166,u167,u168,u169,u170,u171,u172,u173,u174,u175,u176,u177,u178,u179,u180,u181,u182,u183,u184,u185,u186,u187,u188,u189,u190].toArray,[]⟩ W:=by
 have NM:Hid (∀W,Hid (Rd W b g cap dv ts xb σ)→Calls prog 41 #[.pointer (some ⟨b,0,none⟩)] W fun r Y=>RdRet b g cap dv ts xb W (.string (str v)) τ r Y):=Hd fun W h=>by rw[hv.out,hτ.out];exact name_any b g cap dv ts xb σ W h
 refine wp_onlyN ?_
 simp only[rgnOf,rgn,Tryz.f73]
 simp only[Nat.reduceEqDiff,if_true,if_false]
 have HD:Hid (IB W0 W.drew b g cap dv ts xb σ A #[.int .i64 6,.string nm,.int .i64 0,.int .i64 0,.int .i64 0,.slice so sn sc,.string ⟨#[]⟩,.string ⟨#[]⟩,.int .i64 pp]):=Hd (HS.out.below (qB _ _).drew)
 have HOD:Hid (W.drew.ownsRow W0.heap.size 9 1 (.slice so sn sc) sn xs):=Hd HO.out
 obtain⟨⟨x0,x1,x2,x3,x4,x5,x6,x7,x8⟩,xf⟩:=rgCells HD.out.box
 clear xf x0 x1 x2 x3 x4 x6 x7 x8
 have HR:Hid (Rd W.drew b g cap dv ts xb σ):=Hd HD.out.rd
 have hb0:=HS.out.hb
 have hAW:=HS.out.hA
 have mixed:prog.follows .mixedOrders=true:=by kernel_rfl
 have late:prog.follows .lateStores=true:=by kernel_rfl
 go_region_law (first
   | (refine step_call1 _ (by rfl) 41 #[.pointer (some ⟨b,0,none⟩)] (by go_simp) _ (NM.out _ HR) ?_;rintro e w1 ⟨rfl,hr,hk⟩;refine⟨_,rfl,?_⟩;have HS1:=Hd (HD.out.call hr hk);have HO1:=Hd (own_keepT HOD.out (by decide) hb0 hk);have hsz:W0.heap.size≤w1.heap.size:=HS1.out.rk.size;clear hr hk;obtain⟨⟨_,_,_,_,_,y5,_,_,_⟩,yf⟩:=rgCells HS1.out.box;have y6:=yf 5;clear yf;have y7:∀o,(w1.alloc o).cell? ⟨A+1,5,none⟩=some (.slice so sn sc):=fun o=>cell_on ((qB _ _).alloc (qL _) o) y5)
   | (refine step_strs _ (by rfl) (.tmp 130) (.tmp 133) (by rfl) W0.heap.size (.slice so sn sc) sn xs (by rfl) (by exact HO1.out.alloc _) w1.heap.size (.string (str v)) (by rfl) (by exact new_cell1 _ _ _) (by rfl) hsn (by simp;omega) ?_;intro gg cc w2 ho hg;have HS2:=Hd (((HS1.out.below ((qB _ _).alloc (qL _) (.cells #[.string (str v)] 9)))).grown (HO1.out.alloc _) hg);have HO2:=Hd ho;clear ho hg;obtain⟨⟨_,_,_,_,_,z5,_,_,_⟩,zf⟩:=rgCells HS2.out.box;have z6:=zf 5;clear zf))
 all_goals (
  have HS3:=Hd (HS2.out.set 5 (.slice (some ⟨gg,0,none⟩) (sn+1) cc) rfl)
  have HO3:Hid ((w2.setCell ⟨A+1,5,none⟩ (.slice (some ⟨gg,0,none⟩) (sn+1) cc)).ownsRow W0.heap.size 9 1 (.slice (some ⟨gg,0,none⟩) (sn+1) cc) (sn+1) (xs++[.string (str v)])):=Hd (row_set HO2.out HS2.out.box _ _)
  exact hK.out _ _ _ _ _ _ _ _ _ _ HS3.out HO3.out)
theorem mode45 {u1 u2 u3 u5 u7 u8 u9 u10 u11 u12 u13 u14 u15 u16 u17 u18 u19 u20 u21 u22 u23 u24 u25 u26 u27 u28 u29 u30 u31 u32 u33 u34 u35 u36 u37 u38 u39 u40 u41 u42 u43 u44 u45 u46 u47 u48 u49 u50 u51 u52 u53 u54 u55 u56 u57 u58 u59 u60 u61 u62 u63 u64 u65 u66 u67 u68 u69 u70 u71 u72 u73 u74 u75 u76 u77 u78 u79 u80 u81 u82 u83 u84 u85 u86 u87 u88 u89 u90 u91 u92 u93 u94 u95 u96 u97 u98 u99 u100 u101 u102 u103 u104 u105 u106 u107 u108 u109 u110 u111 u112 u113 u114 u115 u116 u117 u118 u119 u120 u121 u122 u123 u124 u125 u126 u127 u128 u129 u130 u131 u132 u133 u134 u135 u136 u137 u138 u139 u140 u141 u142 u143 u144 u145 u146 u147 u148 u149 u150 u151 u152 u153 u154 u155 u156 u157 u158 u159 u160 u161 u162 u163 u164 u165 u166 u167 u168 u169 u170 u171 u172 u173 u174 u175 u176 u177 u178 u179 u180 u181 u182 u183 u184 u185 u186 u187 u188 u189 u190:Value} (b g cap:Nat) (dv:Value) (ts:List Tok) (xb:Nat→Prop) (σ τ:RS) (v:List UInt8) (hv:Hid (v=nameV ts σ)) (hτ:Hid (τ=nameS ts σ)) (W0 W:World) (A:Nat) (nm:ByteArray) (pp:Int) (so:Option Addr) (sn sc:Nat) (xs:List Value) (hsn:sn≤40000) (HS:Hid (IB W0 W b g cap dv ts xb σ A #[.int .i64 6,.string nm,.int .i64 0,.int .i64 0,.int .i64 0,.slice so sn sc,.string ⟨#[]⟩,.string ⟨#[]⟩,.int .i64 pp])) (HO:Hid (W.ownsRow W0.heap.size 9 1 (.slice so sn sc) sn xs))
  (K:Exit→Act→World→Prop) (hK:Hid (∀(v138 v139 v140 v141 v142 v143 v144:Value) (Y:World) (so':Option Addr) (sc':Nat),IB W0 Y b g cap dv ts xb τ A #[.int .i64 6,.string nm,.int .i64 0,.int .i64 0,.int .i64 0,.slice so' (sn+1) sc',.string ⟨#[]⟩,.string ⟨#[]⟩,.int .i64 pp]→Y.ownsRow W0.heap.size 9 1 (.slice so' (sn+1) sc') (sn+1) (xs++[.string (str v)])→K Exit.normal ⟨[.pointer (some ⟨b,0,none⟩),u1,u2,u3,.pointer (some ⟨A,0,none⟩),u5,.pointer (some ⟨A+1,0,none⟩),u7,u8,u9,u10,u11,u12,u13,u14,u15,u16,u17,u18,u19,u20,u21,u22,u23,u24,u25,u26,u27,u28,u29,u30,u31,u32,u33,u34,u35,u36,u37,u38,u39,u40,u41,u42,u43,u44,u45,u46,u47,u48,u49,u50,u51,u52,u53,u54,u55,u56,u57,u58,u59,u60,u61,u62,u63,u64,u65,u66,u67,u68,u69,u70,u71,u72,u73,u74,u75,u76,u77,u78,u79,u80,u81,u82,u83,u84,u85,u86,u87,u88,u89,u90,u91,u92,u93,u94,u95,u96,u97,u98,u99,u100,u101,u102,u103,u104,u105,u106,u107,u108,u109,u110,u111,u112,u113,u114,u115,u116,u117,u118,u119,u120,u121,u122,u123,u124,u125,u126,u127,u128,u129,u130,u131,u132,u133,u134,u135,u136,u137,v138,v139,v140,v141,v142,v143,v144,u145,u146,u147,u148,u149,u150,u151,u152,u153,u154,u155,u156,u157,u158,u159,u160,u161,u162,u163,u164,u165,u166,u167,u168,u169,u170,u171,u172,u173,u174,u175,u176,u177,u178,u179,u180,u181,u182,u183,u184,u185,u186,u187,u188,u189,u190].toArray,[]⟩ Y)) :
  (rgnOf Tryz.f73 45).wp prog K ⟨[.pointer (some ⟨b,0,none⟩),u1,u2,u3,.pointer (some ⟨A,0,none⟩),u5,.pointer (some ⟨A+1,0,none⟩),u7,u8,u9,u10,u11,u12,u13,u14,u15,u16,u17,u18,u19,u20,u21,u22,u23,u24,u25,u26,u27,u28,u29,u30,u31,u32,u33,u34,u35,u36,u37,u38,u39,u40,u41,u42,u43,u44,u45,u46,u47,u48,u49,u50,u51,u52,u53,u54,u55,u56,u57,u58,u59,u60,u61,u62,u63,u64,u65,u66,u67,u68,u69,u70,u71,u72,u73,u74,u75,u76,u77,u78,u79,u80,u81,u82,u83,u84,u85,u86,u87,u88,u89,u90,u91,u92,u93,u94,u95,u96,u97,u98,u99,u100,u101,u102,u103,u104,u105,u106,u107,u108,u109,u110,u111,u112,u113,u114,u115,u116,u117,u118,u119,u120,u121,u122,u123,u124,u125,u126,u127,u128,u129,u130,u131,u132,u133,u134,u135,u136,u137,u138,u139,u140,u141,u142,u143,u144,u145,u146,u147,u148,u149,u150,u151,u152,u153,u154,u155,u156,u157,u158,u159,u160,u161,u162,u163,u164,u165,u166,u167,u168,u169,u170,u171,u172,u173,u174,u175,u176,u177,u178,u179,u180,u181,u182,u183,u184,u185,u186,u187,u188,u189,u190].toArray,[]⟩ W:=by
 have NM:Hid (∀W,Hid (Rd W b g cap dv ts xb σ)→Calls prog 41 #[.pointer (some ⟨b,0,none⟩)] W fun r Y=>RdRet b g cap dv ts xb W (.string (str v)) τ r Y):=Hd fun W h=>by rw[hv.out,hτ.out];exact name_any b g cap dv ts xb σ W h
 refine wp_onlyN ?_
 simp only[rgnOf,rgn,Tryz.f73]
 simp only[Nat.reduceEqDiff,if_true,if_false]
 have HD:Hid (IB W0 W.drew b g cap dv ts xb σ A #[.int .i64 6,.string nm,.int .i64 0,.int .i64 0,.int .i64 0,.slice so sn sc,.string ⟨#[]⟩,.string ⟨#[]⟩,.int .i64 pp]):=Hd (HS.out.below (qB _ _).drew)
 have HOD:Hid (W.drew.ownsRow W0.heap.size 9 1 (.slice so sn sc) sn xs):=Hd HO.out
 obtain⟨⟨x0,x1,x2,x3,x4,x5,x6,x7,x8⟩,xf⟩:=rgCells HD.out.box
 clear xf x0 x1 x2 x3 x4 x6 x7 x8
 have HR:Hid (Rd W.drew b g cap dv ts xb σ):=Hd HD.out.rd
 have hb0:=HS.out.hb
 have hAW:=HS.out.hA
 have mixed:prog.follows .mixedOrders=true:=by kernel_rfl
 have late:prog.follows .lateStores=true:=by kernel_rfl
 go_region_law (first
   | (refine step_call1 _ (by rfl) 41 #[.pointer (some ⟨b,0,none⟩)] (by go_simp) _ (NM.out _ HR) ?_;rintro e w1 ⟨rfl,hr,hk⟩;refine⟨_,rfl,?_⟩;have HS1:=Hd (HD.out.call hr hk);have HO1:=Hd (own_keepT HOD.out (by decide) hb0 hk);have hsz:W0.heap.size≤w1.heap.size:=HS1.out.rk.size;clear hr hk;obtain⟨⟨_,_,_,_,_,y5,_,_,_⟩,yf⟩:=rgCells HS1.out.box;have y6:=yf 5;clear yf;have y7:∀o,(w1.alloc o).cell? ⟨A+1,5,none⟩=some (.slice so sn sc):=fun o=>cell_on ((qB _ _).alloc (qL _) o) y5)
   | (refine step_strs _ (by rfl) (.tmp 139) (.tmp 142) (by rfl) W0.heap.size (.slice so sn sc) sn xs (by rfl) (by exact HO1.out.alloc _) w1.heap.size (.string (str v)) (by rfl) (by exact new_cell1 _ _ _) (by rfl) hsn (by simp;omega) ?_;intro gg cc w2 ho hg;have HS2:=Hd (((HS1.out.below ((qB _ _).alloc (qL _) (.cells #[.string (str v)] 9)))).grown (HO1.out.alloc _) hg);have HO2:=Hd ho;clear ho hg;obtain⟨⟨_,_,_,_,_,z5,_,_,_⟩,zf⟩:=rgCells HS2.out.box;have z6:=zf 5;clear zf))
 all_goals (
  have HS3:=Hd (HS2.out.set 5 (.slice (some ⟨gg,0,none⟩) (sn+1) cc) rfl)
  have HO3:Hid ((w2.setCell ⟨A+1,5,none⟩ (.slice (some ⟨gg,0,none⟩) (sn+1) cc)).ownsRow W0.heap.size 9 1 (.slice (some ⟨gg,0,none⟩) (sn+1) cc) (sn+1) (xs++[.string (str v)])):=Hd (row_set HO2.out HS2.out.box _ _)
  exact hK.out _ _ _ _ _ _ _ _ _ _ HS3.out HO3.out)
theorem int_info:(prog.info? 3).map (fun i=>(i.zero,i.size,i.bytes))=some (some (.int .i64 0),1,8):=by kernel_rfl
theorem cstep_int {ops:Array Oper} {o:Oper} {a:Act} {K:Act→World→Prop} {Q:Exit→Act→World→Prop} {E:Prop} (w:World) (hgd:o.guard=none) (s x:Operand)
  (ho:o.op=.call { callee:=.builtin .append,args:=#[s,x],argTypes:=#[44,44] })
  (B:Nat) (v:Value) (n:Nat) (xs:List Value) (hs:a.eval s=v) (hown:w.ownsRow B 3 1 v n xs) (kb:Nat) (u:Value) (hx:a.eval x=.slice (some ⟨kb,0,none⟩) 1 1)
  (hc:w.cell? ⟨kb,0,none⟩=some u) (h1c:u.oneCell'=true) (hk:n≤100000) (hB:B≤w.heap.size)
  (h:∀g cap w',w'.ownsRow B 3 1 (.slice (some ⟨g,0,none⟩) (n+1) cap) (n+1) (xs++[u])→w.grownBy w' v.ownBlock→(some g=v.ownBlock∨g=w.heap.size)→K (a.put o.dst (.slice (some ⟨g,0,none⟩) (n+1) cap)) w'):if Region.wanted o (yielded ops a.tmps)=true then Oper.wp prog o a w K Q else E:=by
 rw[if_pos (by simp[Region.wanted,hgd])]
 obtain⟨i,h2,h3,h4,h5⟩:=info_parts int_info
 have hc':∀j y,[u][j]?=some y→w.cell? ((⟨kb,0,none⟩:Addr).add j)=some y:=fun j y hj=>by
  cases j with
  | zero =>
   have e:(⟨kb,0,none⟩:Addr).add 0=⟨kb,0,none⟩:=by unfold Addr.add;rfl
   rw[e,hc];simpa using hj
  | succ j=>simp at hj
 obtain⟨v',w',hr,r1,r2,_⟩:=run_append_own (P:=prog) w B 44 o.type 3 i _ 1 8 Tryz.underlying44 h2 h3 h4 h5 rfl (by decide) v n xs hown ⟨kb,0,none⟩ 1 1 [u] rfl hc' (by simpa using h1c) (by unfold maxLen;omega) (by omega) hB
 have r3:=row_after 44 3 1 8 Tryz.underlying44 h2 h3 h4 h5 (by decide) v n xs hown ⟨kb,0,none⟩ [u] rfl hc' (by simpa using h1c) hk v' w' hr
 unfold Oper.wp execOp
 simp only[ho,resolve,invoke,builtin,Sem.run_bind,Sem.run_pure,Result.andThen_ok,List.map_toArray,List.map_cons,List.map_nil,hs,hx,hr]
 obtain⟨g,cap,rfl⟩:=ownsRow_succ r1
 refine h g cap w' r1 r2 ?_
 rcases r3 with r3 | r3
 ·exact .inl r3
 ·exact .inr (qI r3)
structure ArS (b g cap:Nat) (dv:Value) (ts:List Tok) (xb:Nat→Prop) (W0:World) (lb rb:Nat) (xs:Nat→Prop) (o:Option Addr) (c:Nat) (acc:List Int) (σ:RS) (W:World):Prop where
 xle:∀k,xb k→xs k
 cd:Cd W b g cap dv ts xs σ
 rx:RX b xb W0 W
 bx:BoxR W rb b
 lbx:W.heap[lb]?=some (.cells #[.slice o acc.length c] 44 (0,0))
 own:W.ownsRow W0.heap.size 3 1 (.slice o acc.length c) acc.length (acc.map intC)
 ox:∀k,(Value.slice o acc.length c).ownBlock=some k→xs k
def ArI (b g cap:Nat) (dv:Value) (ts:List Tok) (xb:Nat→Prop) (W0:World) (lb rb:Nat) (acc:List Int) (σ:RS) (W:World):Prop:=∃xs o c,ArS b g cap dv ts xb W0 lb rb xs o c acc σ W
def arOne (ts:List Tok) (f:Nat) (acc:List Int) (σ:RS) (acc':List Int) (σ':RS):Prop:=∃e l,runE ts f .expr σ=some (e,l,σ')∧acc'=acc++[e]∧acc.length≤50000
theorem ArS.on {b g cap:Nat} {dv:Value} {ts:List Tok} {xb:Nat→Prop} {W0:World} {lb rb:Nat} {xs:Nat→Prop} {o:Option Addr} {c:Nat} {acc:List Int} {σ σ':RS} {W Y:World} (h:ArS b g cap dv ts xb W0 lb rb xs o c acc σ W) (hb:b<W0.heap.size) (hlb:lb≠b) (hrb:rb≠b) (hc:Cd Y b g cap dv ts xs σ') (hr:RX b xs W Y):ArS b g cap dv ts xb W0 lb rb xs o c acc σ' Y :=
 ⟨h.xle,hc,h.rx.trans (hr.less h.xle),h.bx.keep hrb hr,hr.keep lb _ h.lbx hlb (NoEx.of (by decide)),own_keepT h.own (by decide) hb hr.rk,h.ox⟩
theorem arI_in {b g cap:Nat} {dv:Value} {ts:List Tok} {xb:Nat→Prop} {W0:World} {lb rb:Nat} (hb:b<W0.heap.size) (hlb:lb≠b) (hrb:rb≠b):∀(a:List Int) (σ:RS) (W:World),ArI b g cap dv ts xb W0 lb rb a σ W→∃xs:Nat→Prop,(∀k,xb k→xs k)∧Cd W b g cap dv ts xs σ∧RX b xb W0 W∧∀σ' Y,Cd Y b g cap dv ts xs σ'→RX b xs W Y→ArI b g cap dv ts xb W0 lb rb a σ' Y:=fun a σ W ⟨xs,o,c,h⟩ =>
 ⟨xs,h.xle,h.cd,h.rx,fun σ' Y hc hr=>⟨xs,o,c,h.on hb hlb hrb hc hr⟩⟩
theorem Cd.off {W Y:World} {b g cap:Nat} {dv:Value} {ts:List Tok} {xs ys:Nat→Prop} {σ:RS} (h:Cd W b g cap dv ts xs σ) (hs:W.heap.size≤Y.heap.size) (hlow:∀k,k≤b→Y.heap[k]?=W.heap[k]?) (hy:∀k,k<W.heap.size→¬xs k→Y.heap[k]?=W.heap[k]?) (hys:∀k,ys k→xs k∨W.heap.size≤k) (hyl:∀k,ys k→k<Y.heap.size):Cd Y b g cap dv ts ys σ:=by
 have hsz:=h.size
 obtain⟨o,c,hc,⟨q,q1,q2,q3⟩,h3⟩:=h.blk
 have hn:∀k,k<W.heap.size→¬xs k→¬ys k:=fun k hk hx hk2=>by
  rcases hys k hk2 with h1 | h1
  ·exact hx h1
  ·omega
 refine⟨hyl,⟨o,c,(hlow b (qL _)).trans hc,⟨q,q1,rd_own_same q2 fun k e=>hy k (q2.lt k e).2 (h3 k e),fun p hp=>⟨rd_own_same (q3 p hp).1 fun k e=>hy k ((q3 p hp).1.lt k e).2 ((q3 p hp).2 k e),fun k e=>hn k ((q3 p hp).1.lt k e).2 ((q3 p hp).2 k e)⟩⟩,fun k e=>hn k (q2.lt k e).2 (h3 k e)⟩,hn b hsz h.xnb,row_low h.row (hlow g (by have:=h.lt;omega)),h.lt,h.at_,h.len,h.cp,h.ends,h.tx⟩
theorem ArS.push {b g cap:Nat} {dv:Value} {ts:List Tok} {xb:Nat→Prop} {W0:World} {lb rb:Nat} {xs:Nat→Prop} {o:Option Addr} {c:Nat} {acc:List Int} {e:Int} {σ:RS} {W W1 W2:World} (h:ArS b g cap dv ts xb W0 lb rb xs o c acc σ W) (hb:b<W0.heap.size) (hlb:W0.heap.size≤lb) (hx0:∀k,xb k→k<W0.heap.size) (hrb:rb<W0.heap.size+1) (hrl:rb≠lb) (hrb2:rb≠b) (hB:Below W.heap.size W W1) (gg cc:Nat)
  (ho:W2.ownsRow W0.heap.size 3 1 (.slice (some ⟨gg,0,none⟩) (acc.length+1) cc) (acc.length+1) (acc.map intC++[intC e])) (hg:W1.grownBy W2 (Value.slice o acc.length c).ownBlock) (hn:some gg=(Value.slice o acc.length c).ownBlock∨gg=W1.heap.size) :
  ArI b g cap dv ts xb W0 lb rb (acc++[e]) σ (W2.setCell ⟨lb,0,none⟩ (.slice (some ⟨gg,0,none⟩) (acc.length+1) cc)):=by
 have hw0:W0.heap.size≤W.heap.size:=h.rx.size
 have hs1:=hB.size
 have hs2:=hg.size
 have hlw:=heap_lt h.lbx
 have hrw:=heap_lt h.bx
 have own_ge:∀k,(Value.slice o acc.length c).ownBlock=some k→W0.heap.size≤k∧∃cs,W.heap[k]?=some (.cells cs 3 (0,0)):=fun k hk=>own_type h.own hk
 have same:∀k,k<W.heap.size→(Value.slice o acc.length c).ownBlock≠some k→W2.heap[k]?=W.heap[k]?:=fun k hk hne=>(hg.block k (by omega) (fun e=>hne e.symm)).trans (hB.block k hk)
 have h2:Cd W2 b g cap dv ts (fun k=>xs k∨k=gg) σ:=by
  refine h.cd.off (by omega) (fun k hk=>same k (by omega) fun e=>by have:=(own_ge k e).1;omega) (fun k hk hx=>same k hk fun e=>hx (h.ox k e)) (fun k hk=>?_) (fun k hk=>?_)
  ·rcases hk with hk | rfl
   ·exact .inl hk
   ·rcases hn with hn | hn
    ·exact .inl (h.ox _ hn.symm)
    ·exact .inr (by omega)
  ·rcases hk with hk | rfl
   ·exact Nat.lt_of_lt_of_le (h.cd.xlt k hk) (by omega)
   ·exact(ho.lt _ rfl).2
 have hlb2:W2.heap[lb]?=some (.cells #[.slice o acc.length c] 44 (0,0)):=(same lb hlw fun e=>by
  obtain⟨_,cs,hc⟩:=own_ge lb e
  rw[h.lbx] at hc;cases hc).trans h.lbx
 have hrb3:W2.heap[rb]?=W.heap[rb]?:=same rb hrw fun e=>by
  obtain⟨_,cs,hc⟩:=own_ge rb e
  have hbx:=h.bx
  unfold BoxR at hbx
  rw[hbx] at hc;cases hc
 have hgl:gg≠lb:=fun e=>by
  obtain⟨_,cs,hc⟩:=own_type ho (k:=gg) rfl
  rw[e,hlb2] at hc;cases hc
 have hbut:But lb W2 (W2.setCell ⟨lb,0,none⟩ (.slice (some ⟨gg,0,none⟩) (acc.length+1) cc)):=(But.refl _ _).set 0 _
 have hlen:(acc++[e]).length=acc.length+1:=by simp
 have r2:RX b xb W0 W2:=by
  have r1:RX b xb W0 W1:=h.rx.trans (RX.of_below hB (by omega) fun k hk=>Nat.lt_of_lt_of_le (hx0 k hk) hw0)
  cases hk:(Value.slice o acc.length c).ownBlock with
  | none=>rw[hk] at hg;exact r1.trans (RX.of_below (below_grown hg) (by omega) fun k hk=>Nat.lt_of_lt_of_le (hx0 k hk) (by omega))
  | some k=>rw[hk] at hg;exact r1.but hx0 (own_ge k hk).1 (by have:=(own_ge k hk).1;omega) hb (but_grown hg)
 refine⟨fun k=>xs k∨k=gg,some ⟨gg,0,none⟩,cc,fun k hk=>.inl (h.xle k hk),h2.but hlb2 (by decide) (by decide) (by omega) hbut,r2.but hx0 hlb (by omega) hb hbut,?_,?_,?_,?_⟩
 ·unfold BoxR
  rw[Below.heap_setCell W2 ⟨lb,0,none⟩ _ rb hrl,hrb3];exact h.bx
 ·rw[set_blk hlb2,hlen];simp
 ·rw[hlen,List.map_append]
  exact rd_own_same ho fun k e=>by
   obtain rfl:gg=k:=by simpa [Value.ownBlock] using e
   exact Below.heap_setCell W2 ⟨lb,0,none⟩ _ gg hgl
 ·intro k e
  obtain rfl:gg=k:=by simpa [Value.ownBlock] using e
  exact .inr rfl
theorem ArS.lb2 {b g cap:Nat} {dv:Value} {ts:List Tok} {xb:Nat→Prop} {W0:World} {lb rb:Nat} {xs:Nat→Prop} {o:Option Addr} {c:Nat} {acc:List Int} {σ:RS} {W W1 W2:World} (h:ArS b g cap dv ts xb W0 lb rb xs o c acc σ W) (hB:Below W.heap.size W W1) (hg:W1.grownBy W2 (Value.slice o acc.length c).ownBlock):W2.heap[lb]?=some (.cells #[.slice o acc.length c] 44 (0,0)):=by
 have hlw:=heap_lt h.lbx
 refine((hg.block lb (by have:=hB.size;omega) (fun e=>?_)).trans (hB.block lb hlw)).trans h.lbx
 obtain⟨_,cs,hc⟩:=own_type h.own e.symm
 rw[h.lbx] at hc;cases hc
theorem cell_one1 {W:World} {k:Nat} {x:Value} {T:TypeId} (h:W.heap[k]?=some (.cells #[x] T (0,0))):W.cell? ⟨k,0,none⟩=some x∧W.frozen? ⟨k,0,none⟩=false:=⟨by simp[World.cell?,h],by simp[World.frozen?,h]⟩
theorem args1_any (b g cap:Nat) (dv:Value) (ts:List Tok) (xb:Nat→Prop) (f:Nat) (IE:∀xb,RuleC b g cap dv ts xb 26 f .expr) (W0:World) (lb rb:Nat) (hb:b<W0.heap.size) (hx0:∀k,xb k→k<W0.heap.size) (hlb:W0.heap.size≤lb) (hrb:rb<W0.heap.size+1) (hrl:rb≠lb) (hrb2:rb≠b)
  (acc acc':List Int) (σ σ':RS) (hc:σ.code=0) (h1:arOne ts f acc σ acc' σ') (W:World) (h:Hid (ArI b g cap dv ts xb W0 lb rb acc σ W)) :
  Calls prog 133 #[.pointer (some ⟨lb,0,none⟩),.pointer (some ⟨rb,0,none⟩)] W fun r Y=>LsRet b xb W0 (ArI b g cap dv ts xb W0 lb rb) acc' σ' r Y:=by
 obtain⟨e,l,hr,rfl,hlen⟩:=h1
 obtain⟨xs,o,c,hS⟩:=h.out
 have HS:=Hd hS
 have hbW:b<W.heap.size:=hS.cd.size
 obtain⟨l0,l1⟩:=cell_one1 hS.lbx
 have r0:=hS.bx.cell
 have hlb2:lb≠b:=by omega
 obtain⟨n,hn⟩:∃n,n=acc.length:=⟨_,rfl⟩
 rw[←hn] at l0
 have HN:=Hd hn
 have hn5:n≤50000:=by omega
 have HX:=Hd (show _∧_∧_∧_∧_∧_ from⟨hb,hx0,hlb,hrb,hrl,hrb2⟩)
 have HSD:Hid (ArS b g cap dv ts xb W0 lb rb xs o c acc σ W.drew):=Hd (hS.on hb hlb2 hrb2 (hS.cd.below (below_dr (qB _ _) 1)) (RX.of_below (below_dr (qB _ _) 1) (ql hbW) hS.cd.xlt))
 have C0:Hid (∀W,Hid (Cd W b g cap dv ts xs σ)→Calls prog 26 #[.pointer (some ⟨b,0,none⟩)] W fun r Y=>CdRet b g cap dv ts xs W (.int .i64 e) σ' r Y):=Hd fun W h=>IE xs σ e l σ' hc hr W h
 have HCD:Hid (Cd W.drew b g cap dv ts xs σ):=Hd HSD.out.cd
 have l0':W.drew.cell? ⟨lb,0,none⟩=some (.slice o n c):=l0
 have r0':W.drew.cell? ⟨rb,0,none⟩=some (.pointer (some ⟨b,0,none⟩)):=r0
 have mixed:prog.follows .mixedOrders=true:=by kernel_rfl
 have late:prog.follows .lateStores=true:=by kernel_rfl
 clear hr hc hS hn h hlen hx0 hrl hrb2 hrb
 by_cases hz:σ'.code=0
 ·have C1:Hid (∀W,Hid (Cd W b g cap dv ts xs σ)→Calls prog 26 #[.pointer (some ⟨b,0,none⟩)] W fun r Y=>CdOk b g cap dv ts xs W (.int .i64 e) σ' r Y):=Hd fun W h=>(C0.out W h).mono fun r Y hh=>hh.ok hz
  have HZ:=Hd hz
  clear C0 hz
  go_enter Tryz.func133,Tryz.ntmps133
  go_wp2_with fail
  refine wp_onlyN ?_
  go_region_law (first
   | (refine step_call1 _ (by rfl) 26 #[.pointer (some ⟨b,0,none⟩)] (by go_simp) _ (C1.out _ HCD) ?_;rintro e1 w1 ⟨rfl,hr1,hk1⟩;refine⟨_,rfl,?_⟩;have HS1:=Hd (HSD.out.on HX.out.1 hlb2 HX.out.2.2.2.2.2 hr1.out hk1.out);obtain⟨y0,y1⟩:=cell_one1 HS1.out.lbx;rw[←HN.out] at y0;have y2:∀oo,(w1.alloc oo).cell? ⟨lb,0,none⟩=some (.slice o n c):=fun oo=>cell_on ((qB _ _).alloc (qL _) oo) y0;have hw1:=HS1.out.rx.size)
   | (refine cstep_int _ (by rfl) (.tmp 2) (.tmp 5) (by rfl) W0.heap.size (.slice o n c) n (acc.map intC) (by rfl) (by have:=HS1.out.own;rw[←HN.out] at this;exact this.alloc _) w1.heap.size (.int .i64 e) (by rfl) (by exact new_cell1 _ _ _) (by rfl) (by omega) (by simp;omega) ?_;intro gg cc w2 ho hg hgn;have HO:=Hd ho;have HG:=Hd hg;have HGN:=Hd hgn;clear ho hg hgn;have HP:=Hd (HS1.out.push (e:=e) HX.out.1 HX.out.2.2.1 HX.out.2.1 HX.out.2.2.2.1 HX.out.2.2.2.2.1 HX.out.2.2.2.2.2 ((qB _ _).alloc (qL _) (.cells #[.int .i64 e] 3)) gg cc (by have:=HO.out;rw[HN.out] at this;exact this) (by have:=HG.out;rw[HN.out] at this;exact this) (by have:=HGN.out;rw[HN.out] at this;exact this));obtain⟨z8,z9⟩:=cell_one1 (HS1.out.lb2 ((qB _ _).alloc (qL _) (.cells #[.int .i64 e] 3)) (by have:=HG.out;rw[HN.out] at this;exact this));rw[←HN.out] at z8))
  all_goals (
   unfold onlyN
   go_end0
   exact .inl ⟨HZ.out,rfl,by rw[HN.out];exact HP.out⟩)
 ·have C1:Hid (∀W,Hid (Cd W b g cap dv ts xs σ)→Calls prog 26 #[.pointer (some ⟨b,0,none⟩)] W fun r Y=>CdBad b xs W σ'.code σ'.pos r Y):=Hd fun W h=>(C0.out W h).mono fun r Y hh=>hh.bad hz
  have HZ:=Hd hz
  clear C0 hz
  go_enter Tryz.func133,Tryz.ntmps133
  go_wp2_with fail
  go_region_with (go_at_call 26;(with_reducible refine(C1.out _ HCD).mono ?_);rintro e1 w1 ⟨rfl,hk1⟩;refine dummyAny prog w1 ⟨rfl,.inr ⟨HZ.out,rfl,HSD.out.rx.trans (hk1.out.less HSD.out.xle)⟩⟩ ?_)
  all_goals trivial
theorem args_LR {ts:List Tok} {f:Nat}:∀(n:Nat) (acc:List Int) (σ:RS) (R:Int×List Int×RS),n≤f+1→runE ts n (.args acc) σ=some R→∃m,LR (arOne ts f) ts m acc σ R.2.1 R.2.2:=by
 intro n
 induction n with
 | zero=>intro acc σ R _ h;cases h
 | succ n ih =>
  intro acc σ R hn h
  simp only[runE] at h
  split at h
  ·unfold argsG at h
   split at h
   ·rename_i hl
    split at h
    ·rename_i hi
     obtain⟨a,h1,h2⟩:=bind_some' h
     obtain⟨m,hm⟩:=ih (acc++[a.1]) a.2.2 R (by omega) h2
     exact⟨m+1,.more hi ⟨a.1,a.2.1,runE_le (by omega) _ _ _ h1,rfl,by omega⟩ hm⟩
    ·rename_i hi
     obtain rfl:=qI h
     exact⟨0,.stop (by simpa using hi)⟩
   ·cases h
  ·cases h
theorem arOne_stays {ts:List Tok} {f:Nat}:∀a σ a' σ',arOne ts f a σ a' σ'→Stays σ σ':=fun a σ a' σ' ⟨e,l,h,_⟩=>stuck ts f .expr σ _ h
def ArgsRet (b g cap:Nat) (dv:Value) (ts:List Tok) (xb:Nat→Prop) (W:World) (acc:List Int) (τ:RS) (r:Ending) (Y:World):Prop :=
 (τ.code=0∧∃o c,r=.returned (.slice o acc.length c)∧Hid (∃xs:Nat→Prop,(∀k,xb k→xs k)∧Cd Y b g cap dv ts xs τ)∧Hid (RX b xb W Y)∧Hid (Y.ownsRow W.heap.size 3 1 (.slice o acc.length c) acc.length (acc.map intC)))∨(τ.code≠0∧r=.panicked [{ v:=refusalV τ.code τ.pos,recovered:=false }]∧Hid (RX b xb W Y))
theorem enters_args1:∀args w,(callFunc 133 args).run prog w=.ok (.enter 133 args) w:=enters_of Tryz.func133 (by kernel_rfl) rfl
theorem args_none (b g cap:Nat) (dv:Value) (ts:List Tok) (xb:Nat→Prop) (y:RS) (hc:y.code=0) (hi:isS ts [41] y=true) (W:World) (h:Hid (Cd W b g cap dv ts xb y)) :
  Calls prog 131 #[.pointer (some ⟨b,0,none⟩)] W fun r Y=>ArgsRet b g cap dv ts xb W [] (stepS y) r Y:=by
 obtain⟨W1,hW1⟩:∃W1,W1=W.alloc (.cells #[.pointer (some ⟨b,0,none⟩)] 48):=⟨_,rfl⟩
 have hb1:Below W.heap.size W W1:=by rw[hW1];exact(qB _ _).alloc (qL _) _
 have H1:Hid (Cd W1 b g cap dv ts xb y):=Hd (h.out.below hb1)
 have T:=Hd (takes_any b g cap dv ts xb y [41] W1 H1 hc (by decide))
 have T2:Hid (Calls prog 62 #[.pointer (some ⟨b,0,none⟩),.string ⟨#[41]⟩] W1 fun r Y=>r=.returned (.bool true)∧Hid (Cd Y b g cap dv ts xb (stepS y))∧Hid (RX b xb W1 Y)):=Hd (T.out.mono fun r Y hh=>by unfold TakesRet tookS at hh;rw[hi] at hh;exact hh)
 have HB:=Hd (RX.of_below (xb:=xb) hb1 (ql h.out.size) h.out.xlt)
 have HC:=Hd hc
 clear T hb1 hi hc
 go_enter Tryz.func131,Tryz.ntmps131
 go_wp2_with (go_at_call 62;rw[←hW1];clear hW1;(with_reducible refine T2.out.mono ?_);rintro e w1 ⟨rfl,hr,hk⟩)
 go_ret
 exact .inl ⟨HC.out,none,0,rfl,Hd ⟨xb,fun _ h=>h,hr.out⟩,Hd (HB.out.trans hk.out),Hd (qO _ _ _ _)⟩
theorem args_some (b g cap:Nat) (dv:Value) (ts:List Tok) (xb:Nat→Prop) (f:Nat) (IE:∀xb,RuleC b g cap dv ts xb 26 f .expr) (y s1 s2:RS) (hc:y.code=0) (hi:isS ts [41] y=false) (e0 v:Int) (l0 acc:List Int) (r1:runE ts f .expr y=some (e0,l0,s1)) (r2:runE ts f (.args [e0]) s1=some (v,acc,s2)) (W:World) (h:Hid (Cd W b g cap dv ts xb y)) :
  Calls prog 131 #[.pointer (some ⟨b,0,none⟩)] W fun r Y=>ArgsRet b g cap dv ts xb W acc (wantS ts [41] s2) r Y:=by
 obtain⟨W1,hW1⟩:∃W1,W1=W.alloc (.cells #[.pointer (some ⟨b,0,none⟩)] 48):=⟨_,rfl⟩
 have hb1:Below W.heap.size W W1:=by rw[hW1];exact(qB _ _).alloc (qL _) _
 have H1:Hid (Cd W1 b g cap dv ts xb y):=Hd (h.out.below hb1)
 have T:=Hd (takes_any b g cap dv ts xb y [41] W1 H1 hc (by decide))
 have T2:Hid (Calls prog 62 #[.pointer (some ⟨b,0,none⟩),.string ⟨#[41]⟩] W1 fun r Y=>r=.returned (.bool false)∧Hid (Cd Y b g cap dv ts xb y)∧Hid (RX b xb W1 Y)):=Hd (T.out.mono fun r Y hh=>by unfold TakesRet tookS at hh;rw[hi] at hh;exact hh)
 have HB:=Hd (RX.of_below (xb:=xb) hb1 (ql h.out.size) h.out.xlt)
 have hbs:=h.out.size
 have HX0:=Hd h.out.xlt
 have HBX:Hid (BoxR W1 W.heap.size b):=Hd (by rw[hW1];exact boxR_new W b)
 have b1:=HBX.out.cell
 obtain⟨m,hm⟩:=args_LR f [e0] s1 (v,acc,s2) (Nat.le_succ _) r2
 have HL:Hid (∀lb,W.heap.size≤lb→W.heap.size≠lb→∀w,Hid (ArI b g cap dv ts xb W lb W.heap.size [] y w)→Calls prog 86 #[.pointer (some ⟨b,0,none⟩),.string ⟨#[41]⟩,.func (.func 133) #[] #[.pointer (some ⟨lb,0,none⟩),.pointer (some ⟨W.heap.size,0,none⟩)]] w fun r Y=>LsRet b xb W (ArI b g cap dv ts xb W lb W.heap.size) acc (wantS ts [41] s2) r Y):=Hd fun lb hl hne w hw =>
  list_any b g cap dv ts xb W _ (arOne ts f) (arI_in hbs (by omega) (by omega)) arOne_stays _ _ _ enters_args1 (fun a σ a' σ' hc h1 W' h'=>args1_any b g cap dv ts xb f IE W lb W.heap.size hbs HX0.out hl (by omega) hne (by omega) a a' σ σ' hc h1 W' h') [41] (by decide) [] [e0] acc y s1 s2 m hc ⟨e0,l0,r1,rfl,by simp⟩ hm w hw
 have MF:=runF
 clear T hb1 hi r1 r2 hm
 by_cases hz:(wantS ts [41] s2).code=0
 ·have HZ:=Hd hz
  clear hz hc
  go_enter Tryz.func131,Tryz.ntmps131
  go_wp2_with (first
   | (go_at_call 62;rw[←hW1];clear hW1;(with_reducible refine T2.out.mono ?_);rintro e w1 ⟨rfl,hr,hk⟩;have HK:=Hd (HB.out.trans hk.out);have HBw:=Hd (HBX.out.keep (by omega) hk.out);have bw:=HBw.out.cell;have hw1:=HK.out.size;have hw1b:=heap_lt HBw.out))
  have hb2:Below w1.heap.size w1 (w1.alloc (.cells #[.slice none 0 0] 44)):=(qB _ _).alloc (qL _) _
  have HI:Hid (ArI b g cap dv ts xb W w1.heap.size W.heap.size [] y (w1.alloc (.cells #[.slice none 0 0] 44))):=Hd ⟨xb,none,0,fun _ h=>h,hr.out.below hb2,HK.out.trans (RX.of_below hb2 (ql hr.out.size) hr.out.xlt),(hb2.block _ hw1b).trans HBw.out,heap_alloc_new w1 _,qO _ _ _ _,fun k e=>by cases e⟩
  refine(HL.out w1.heap.size hw1 (by omega) _ HI).mono ?_
  intro r Y hY
  rcases hY with ⟨_,rfl,xs,o,c,hS⟩ | ⟨hn,_⟩
  ·obtain⟨y0,y1⟩:=cell_one1 hS.lbx
   have HS:=Hd hS
   obtain⟨n,hn⟩:∃n,n=acc.length:=⟨_,rfl⟩
   rw[←hn] at y0
   have HN:=Hd hn
   clear hS hn hb2 HI
   dsimp only
   go_wp2_with fail
   go_ret
   exact .inl ⟨HZ.out,o,c,by rw[HN.out];rfl,Hd ⟨xs,HS.out.xle,HS.out.cd⟩,Hd HS.out.rx,Hd HS.out.own⟩
  ·exact absurd HZ.out hn
 ·have HZ:=Hd hz
  clear hz hc
  go_enter Tryz.func131,Tryz.ntmps131
  go_wp2_with (first
   | (go_at_call 62;rw[←hW1];clear hW1;(with_reducible refine T2.out.mono ?_);rintro e w1 ⟨rfl,hr,hk⟩;have HK:=Hd (HB.out.trans hk.out);have HBw:=Hd (HBX.out.keep (by omega) hk.out);have bw:=HBw.out.cell;have hw1:=HK.out.size;have hw1b:=heap_lt HBw.out))
  have hb2:Below w1.heap.size w1 (w1.alloc (.cells #[.slice none 0 0] 44)):=(qB _ _).alloc (qL _) _
  have HI:Hid (ArI b g cap dv ts xb W w1.heap.size W.heap.size [] y (w1.alloc (.cells #[.slice none 0 0] 44))):=Hd ⟨xb,none,0,fun _ h=>h,hr.out.below hb2,HK.out.trans (RX.of_below hb2 (ql hr.out.size) hr.out.xlt),(hb2.block _ hw1b).trans HBw.out,heap_alloc_new w1 _,qO _ _ _ _,fun k e=>by cases e⟩
  refine(HL.out w1.heap.size hw1 (by omega) _ HI).mono ?_
  intro r Y hY
  rcases hY with ⟨hn,_⟩ | ⟨_,rfl,hY⟩
  ·exact absurd hn HZ.out
  ·exact⟨rfl,.inr ⟨HZ.out,rfl,Hd hY⟩⟩
theorem named_plain (b g cap:Nat) (dv:Value) (ts:List Tok) (xb:Nat→Prop) (σ:RS) (hc:σ.code=0) (hk:(tokL ts σ.at_).kind=1) (ok:okS (stepS σ)=true) (h40:isS ts [40] (stepS σ)=false) (his:isS ts [105,115] (stepS σ)=false) (W:World) (h:Hid (Cd W b g cap dv ts xb σ)) :
  Calls prog 129 #[.pointer (some ⟨b,0,none⟩)] W fun r Y=>CdRet b g cap dv ts xb W (.int .i64 (σ.exprs.length:Int)) (putS { ex0 with kind:=3,name:=str (tokL ts σ.at_).text,pos:=((tokL ts σ.at_).at_:Int) } (stepS σ)) r Y:=by
 obtain⟨o,c,⟨c0,c1,c2,c3,fr⟩,hx⟩:=h.out.cells
 obtain⟨t0,t1,t2,t3⟩:=h.out.tok
 have hl:=h.out.at_
 have hbs:=h.out.size
 have hgs:g<W.heap.size:=by have:=h.out.lt;omega
 obtain⟨P,hP⟩:∃P,P=(tokL ts σ.at_).at_:=⟨_,rfl⟩
 obtain⟨m,hmm⟩:∃m,m=ts.length - σ.at_:=⟨_,rfl⟩
 obtain⟨a4,haa⟩:∃a4,a4=σ.at_*4:=⟨_,rfl⟩
 rw[←hmm,←haa] at c0
 rw[←hP,←haa] at t3
 rw[←hP]
 have k0:(0:Int)<(m:Int):=by omega
 obtain⟨xb',hxb'⟩:∃xb',xb'=xbA xb W.heap.size:=⟨_,rfl⟩
 obtain⟨W1,hW1⟩:∃W1,W1=W.alloc (.cells #[.int .i64 3,.int .i64 0,.int .i64 0,.int .i64 0,.string ⟨#[]⟩,.string ⟨#[]⟩,.int .i64 0,.slice none 0 0,.int .i64 (P:Int)] 46):=⟨_,rfl⟩
 have H1:Hid (Cd W1 b g cap dv ts xb' σ):=Hd (by rw[hW1,hxb'];exact h.out.newX _)
 have HA:Hid (W1.heap[W.heap.size]?=some (.cells #[.int .i64 3,.int .i64 0,.int .i64 0,.int .i64 0,.string ⟨#[]⟩,.string ⟨#[]⟩,.int .i64 0,.slice none 0 0,.int .i64 (P:Int)] 46 (0,0))):=Hd (by rw[hW1];exact heap_alloc_new W _)
 have HB1:Hid (RX b xb W W1):=Hd (RX.of_below (by rw[hW1];exact(qB _ _).alloc (qL _) _) (ql hbs) h.out.xlt)
 have HXA:Hid (xb' W.heap.size∧∀k,xb k→xb' k):=Hd (by rw[hxb'];exact⟨.inr rfl,xbA_le xb _⟩)
 have hnb:nameB ts σ=true:=by unfold nameB;rw[qT hc,qT hk];rfl
 have en:nameS ts σ=stepS σ:=by unfold nameS;rw[if_pos hnb]
 have ev:nameV ts σ=(tokL ts σ.at_).text:=by unfold nameV;rw[if_pos hnb]
 obtain⟨X,hX⟩:∃X,X=str (tokL ts σ.at_).text:=⟨_,rfl⟩
 rw[←hX]
 have NM:Hid (Calls prog 63 #[.pointer (some ⟨b,0,none⟩)] W1 fun r Y=>CdOk b g cap dv ts xb' W1 (.string X) (stepS σ) r Y):=Hd ((cname_any b g cap dv ts xb' σ W1 H1 hc).mono fun r Y hh=>by rw[en,ev,←hX] at hh;exact hh.ok hc)
 have TK:Hid (∀w,Hid (Cd w b g cap dv ts xb' (stepS σ))→Calls prog 62 #[.pointer (some ⟨b,0,none⟩),.string ⟨#[40]⟩] w fun r Y=>r=.returned (.bool false)∧Hid (Cd Y b g cap dv ts xb' (stepS σ))∧Hid (RX b xb' w Y)):=Hd fun w hw=>(takes_any b g cap dv ts xb' (stepS σ) [40] w hw hc (by decide)).mono fun r Y hh=>by unfold TakesRet tookS at hh;rw[h40] at hh;exact hh
 have TI:Hid (∀w,Hid (Cd w b g cap dv ts xb' (stepS σ))→Calls prog 62 #[.pointer (some ⟨b,0,none⟩),.string ⟨#[105,115]⟩] w fun r Y=>r=.returned (.bool false)∧Hid (Cd Y b g cap dv ts xb' (stepS σ))∧Hid (RX b xb' w Y)):=Hd fun w hw=>(takes_any b g cap dv ts xb' (stepS σ) [105,115] w hw hc (by decide)).mono fun r Y hh=>by unfold TakesRet tookS at hh;rw[his] at hh;exact hh
 have PU:Hid (∀W,Hid (Cd W b g cap dv ts xb (stepS σ))→Calls prog 75 #[.pointer (some ⟨b,0,none⟩),.agg #[.int .i64 3,.int .i64 0,.int .i64 0,.int .i64 0,.string X,.string ⟨#[]⟩,.int .i64 0,.slice none 0 0,.int .i64 (P:Int)]] W fun r Y=>CdOk b g cap dv ts xb W (.int .i64 (σ.exprs.length:Int)) (putS { ex0 with kind:=3,name:=X,pos:=(P:Int) } (stepS σ)) r Y):=Hd fun W h =>
  (cput_any b g cap dv ts xb (stepS σ) { ex0 with kind:=3,name:=X,pos:=(P:Int) } none 0 0 W h hc (okS_iff.1 ok).1 (Hd (qO _ _ _ _)) (Hd fun k hk=>by cases hk)).mono fun r Y hh=>hh.ok hc
 have HC:=Hd hc
 clear hmm haa t0 t1 t2 hl hx c1 c2 c3 fr hxb' hP hX hk hnb en ev h40 his ok hc
 go_enter Tryz.func129,Tryz.ntmps129
 go_wp2_with (first
  | (go_at_call 63;rw[←hW1];clear hW1;(with_reducible refine NM.out.mono ?_);rintro e w2 ⟨rfl,hr2,hk2⟩;have HA2:=Hd ((hk2.out.xs _ HXA.out.1).trans HA.out);obtain⟨⟨y0,y1,y2,y3,y4,y5,y6,y7,y8⟩,yf⟩:=nine_of HA2.out;have f4:=yf 4;clear yf;have HR3:=Hd (hr2.out.butX HXA.out.1 hbs ((But.refl _ _).set 4 (.string X)));have HA3:=Hd (set_blk HA2.out 4 (.string X)))
  | (go_at_call 62;(with_reducible refine(TK.out _ HR3).mono ?_);rintro e w4 ⟨rfl,hr4,hk4⟩;have HA4:=Hd ((hk4.out.xs _ HXA.out.1).trans HA3.out))
  | (go_at_call 62;(with_reducible refine(TI.out _ hr4).mono ?_);rintro e w5 ⟨rfl,hr5,hk5⟩;have HA5:=Hd ((hk5.out.xs _ HXA.out.1).trans HA4.out);obtain⟨⟨z0,z1,z2,z3,z4,z5,z6,z7,z8⟩,zf⟩:=nine_of (show w5.heap[W.heap.size]?=some (.cells #[.int .i64 3,.int .i64 0,.int .i64 0,.int .i64 0,.string X,.string ⟨#[]⟩,.int .i64 0,.slice none 0 0,.int .i64 (P:Int)] 46 (0,0)) by simpa using HA5.out);clear zf)
  | (go_at_call 75;(with_reducible refine(PU.out _ (Hd (hr5.out.less HXA.out.2))).mono ?_);rintro e w6 ⟨rfl,hr6,hk6⟩))
 go_ret
 have K3:RX b xb W (w2.setCell ⟨W.heap.size,4,none⟩ (.string X)):=(HB1.out.trans (hk2.out.less HXA.out.2)).but h.out.xlt (qL _) hbs hbs ((But.refl _ _).set 4 _)
 exact⟨K3.trans (((hk4.out.trans hk5.out).less HXA.out.2).trans hk6.out),.inl ⟨HC.out,rfl,hr6.out⟩⟩
end Go.Proofs.YtlbhlncipajapaaGreatDoor
