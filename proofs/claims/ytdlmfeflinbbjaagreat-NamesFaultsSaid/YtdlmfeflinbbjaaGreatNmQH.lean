import Derived.Test.YtdlmfeflinbbjaaGreatNmQF
import Derived.Test.YtdlmfeflinbbjaaGreatNmQG
import Derived.Test.YtdlmfeflinbbjaaGreatNmQD
import Derived.Test.YtdlmfeflinbbjaaGreatNmRefMayJ
namespace Go.Proofs.YtdlmfeflinbbjaaGreat
open Go.Lib (hid)
section
open Go.RowKit Lx Go.Shelf Go.Maps
attribute [local go_sem] Oper.semAt_some
set_option linter.unusedVariables false
theorem refPs_sam (d:De):RefPs d d.params.length↔samT (d.params.map (·.name)) d.params.length = true:=by
  unfold RefPs samT samS
  simp only [List.any_eq_true,List.mem_range,decide_eq_true_eq]
  constructor
  · rintro ⟨i,k,h1,h2,_,h4⟩;exact ⟨i,h2,k,h1,h4.symm⟩
  · rintro ⟨i,h2,k,h1,h4⟩;exact ⟨i,k,h1,h2,h2,h4.symm⟩
theorem posL_de {p:Pr} {c:Nat} {x:De} (hx:p.decls[c]? = some x):x.pos∈posL p:=by
  unfold posL
  exact List.mem_cons_of_mem _ (List.mem_append.2 (.inl (List.mem_append.2 (.inl (List.mem_map.2 ⟨x,List.mem_of_getElem? hx,rfl⟩)))))
theorem refIn_pos {p:Pr} {c:Nat} {x:De} (hx:p.decls[c]? = some x) {a:Int} (h:RefIn p c x a):a∈posL p :=
  refTo_pos ((refTo_succ hx a).2 (.inr h))
theorem mayN_mayP {p:Pr} (hm:mayN p = true):mayP p = true:=by
  unfold mayN at hm
  exact (Bool.and_eq_true _ _ ▸ hm).2
theorem kind_pos {p:Pr} {c:Nat} {x:De} (hx:p.decls[c]? = some x) (hm:mayN p = true):1≤x.kind:=by
  by_cases hk:kindsD x = true
  · unfold kindsD at hk
    simp only [Bool.and_eq_true,decide_eq_true_eq] at hk
    omega
  · have h:=mayN_no hx (by simpa using hk)
    rw [hm] at h;cases h
set_option maxHeartbeats 16000000 in
set_option maxRecDepth 100000 in
theorem in1 {u0 u2 u6 u7 u8 u9 u10 u11 u12 u13 u14 u15 u16 u17 u18 u19 u20 u21 u22 u23 u24 u25 u26 u27 u28 u29 u30 u31 u32 u33 u34 u35 u36 u37 u38 u39 u40 u41 u42 u43 u44 u45 u46 u47 u48 u49 u50 u51 u52 u53 u54 u55 u56 u57 u58 u59 u60 u61 u62 u63 u64 u65 u66 u67 u68 u69 u70 u71 u72 u73 u74 u75 u76 u77 u78 u79 u80 u81 u82 u83 u84 u85 u86 u87 u88 u89 u90 u91 u92 u93 u94 u95 u96 u97 u98 u99 u100 u101 u102 u103 u104 u105 u106 u107 u108 u109 u110 u111 u112 u113 u114 u115 u116 u117 u118 u119 u120 u121 u122 u123 u124 u125 u126 u127 u128 u129 u130 u131 u132 u133 u134 u135 u136 u137 u138 u139 u140 u141 u142 u143 u144 u145 u146 u147 u148 u149 u150 u151 u152 u153 u154 u155 u156 u157 u158 u159 u160 u161 u162 u163 u164 u165 u166 u167 u168 u169 u170 u171 u172 u173 u174 u175 u176 u177 u178 u179 u180 u181 u182 u183 u184 u185 u186 u187 u188 u189 u190 u191 u192 u193 u194 u195 u196 u197 u198 u199 u200 u201 u202 u203 u204 u205 u206 u207 u208 u209 u210 u211 u212 u213 u214 u215 u216 u217 u218 u219 u220 u221 u222 u223 u224 u225 u226 u227 u228 u229 u230 u231 u232 u233 u234 u235 u236 u237 u238 u239 u240 u241 u242 u243 u244 u245 u246 u247 u248 u249 u250 u251 u252 u253 u254 u255 u256 u257 u258 u259 u260 u261 u262 u263 u264 u265 u266 u267 u268 u269 u270 u271 u272 u273 u274 u275 u276 u277 u278 u279 u280 u281 u282 u283 u284 u285 u286 u287 u288 u289 u290 u291 u292 u293 u294 u295 u296 u297 u298 u299 u300:Value} (p:Pr) (hs:Hid (Small p)) (hm:Hid (mayN p = true)) (c:Nat) (x:De) (hx:Hid (p.decls[c]? = some x)) (B h:Nat) (hh:Hid (h = hybs (p.decls.take c))) (hhl:(h:Int)≤60) (v0:Value) (P:Int→Prop) (hP:Hid (∀ a,P a→a∈posL p))
    (o1 o2:Option Addr) (n c1 ne c2 db doff xb xoff:Nat) (nl:(n:Int)≤60) (nel:(ne:Int)≤300) (hlt:c < n) (hn:Hid (p.decls.length = n)) (hne:Hid (p.exprs.length = ne)) (hd:Hid (0 < n→o1 = some ⟨db,doff,none⟩)) (he:Hid (0 < ne→o2 = some ⟨xb,xoff,none⟩))
    (Q:Exit→Act→World→Prop) (W:World) (hdc:Hid (∀ i,i < n→∀ x,p.decls[i]? = some x→DeAt W db (doff+i*7) x)) (hxc:Hid (∀ i,i < ne→∀ x,p.exprs[i]? = some x→ExAt W xb (xoff+i*9) x)) (hB:Hid (W.heap[B]? = some (.cells #[.slice o1 n c1,.slice o2 ne c2] 25 (0,0)))) (hPA:Hid (ProgAt W (.slice o1 n c1) (.slice o2 ne c2) p)) (hF:Hid (FlGot W v0 P))
    (hK:Hid (∀ (v3 v6 v7 v8 v9 v10 v11 v12 v13 v14 v15 v16 v17 v18 v19 v20 v21 v22 v30 v31 v32 v33 v34 v35 v36 v37 v38 v39 v40 v41 v42 v43 v44 v45 v46 v47 v48 v49 v50 v51 v52 v53 v54 v55 v56 v57 v58 v59 v60 v61 v62 v63 v64 v65 v66 v67 v68 v69 v70 v71 v72 v73 v74 v75 v76 v77 v78 v79 v80 v81 v82 v83 v84 v85 v86 v87 v88 v89 v90 v91 v92 v93 v94 v95 v96 v97 v98 v99 v100 v101 v102 v103 v104 v105 v106 v107 v108 v109 v110 v111 v112 v113 v114 v115 v116 v117 v118 v119 v120 v121 v122 v123 v124 v125 v126 v127 v128 v129 v130 v131 v132 v133 v134 v135 v136 v137 v138 v139 v140 v141 v142 v143 v144 v145 v146 v147 v148 v149 v150 v151 v152 v153 v154 v155 v156 v157 v158 v159 v160 v161 v162 v163 v164 v165 v166 v167 v168 v169 v170 v171 v172 v173 v174 v175 v176 v177 v178 v179 v180 v181 v182 v183 v184 v185 v186 v187 v188 v189 v190 v191 v192 v193 v194 v195 v196 v197 v198 v199 v200 v201 v202 v203 v204 v205 v206 v207 v208 v209 v210 v211 v212 v213 v214 v215 v216 v217 v218 v219 v220 v221 v222 v223 v224 v225 v226 v227 v228 v229 v230 v231 v232 v233 v234 v235 v236 v237 v238 v239 v240 v241 v242 v243 v244 v245 v246 v247 v248 v249 v250 v251 v252 v253 v254 v255 v256 v257 v258 v259 v260 v261 v262 v263 v264 v265 v266 v267 v268 v269 v270 v271 v272 v273 v274 v275 v276 v277 v278 v279 v280 v281 v282 v283 v284 v285 v286 v287 v288 v289 v290 v291 v292 v293 v294:Value) W',FlGot W' v3 (fun a=>P a∨RefIn p c x a)→Below W.heap.size W W'→Q .normal ⟨[u0,.pointer (some ⟨B,0,none⟩),u2,v3,.int .i64 (hybs (p.decls.take (c+1)):Nat),.int .i64 (c:Int),v6,v7,v8,v9,v10,v11,v12,v13,v14,v15,v16,v17,v18,v19,v20,v21,v22,u23,u24,u25,u26,u27,u28,u29,v30,v31,v32,v33,v34,v35,v36,v37,v38,v39,v40,v41,v42,v43,v44,v45,v46,v47,v48,v49,v50,v51,v52,v53,v54,v55,v56,v57,v58,v59,v60,v61,v62,v63,v64,v65,v66,v67,v68,v69,v70,v71,v72,v73,v74,v75,v76,v77,v78,v79,v80,v81,v82,v83,v84,v85,v86,v87,v88,v89,v90,v91,v92,v93,v94,v95,v96,v97,v98,v99,v100,v101,v102,v103,v104,v105,v106,v107,v108,v109,v110,v111,v112,v113,v114,v115,v116,v117,v118,v119,v120,v121,v122,v123,v124,v125,v126,v127,v128,v129,v130,v131,v132,v133,v134,v135,v136,v137,v138,v139,v140,v141,v142,v143,v144,v145,v146,v147,v148,v149,v150,v151,v152,v153,v154,v155,v156,v157,v158,v159,v160,v161,v162,v163,v164,v165,v166,v167,v168,v169,v170,v171,v172,v173,v174,v175,v176,v177,v178,v179,v180,v181,v182,v183,v184,v185,v186,v187,v188,v189,v190,v191,v192,v193,v194,v195,v196,v197,v198,v199,v200,v201,v202,v203,v204,v205,v206,v207,v208,v209,v210,v211,v212,v213,v214,v215,v216,v217,v218,v219,v220,v221,v222,v223,v224,v225,v226,v227,v228,v229,v230,v231,v232,v233,v234,v235,v236,v237,v238,v239,v240,v241,v242,v243,v244,v245,v246,v247,v248,v249,v250,v251,v252,v253,v254,v255,v256,v257,v258,v259,v260,v261,v262,v263,v264,v265,v266,v267,v268,v269,v270,v271,v272,v273,v274,v275,v276,v277,v278,v279,v280,v281,v282,v283,v284,v285,v286,v287,v288,v289,v290,v291,v292,v293,v294,u295,u296,u297,u298,u299,u300].toArray,[]⟩ W')) :
    (blkOf Tryz.f15 1).wp Tryz.prog Q ⟨[u0,.pointer (some ⟨B,0,none⟩),u2,v0,.int .i64 (h:Int),.int .i64 (c:Int),u6,u7,u8,u9,u10,u11,u12,u13,u14,u15,u16,u17,u18,u19,u20,u21,u22,u23,u24,u25,u26,u27,u28,u29,u30,u31,u32,u33,u34,u35,u36,u37,u38,u39,u40,u41,u42,u43,u44,u45,u46,u47,u48,u49,u50,u51,u52,u53,u54,u55,u56,u57,u58,u59,u60,u61,u62,u63,u64,u65,u66,u67,u68,u69,u70,u71,u72,u73,u74,u75,u76,u77,u78,u79,u80,u81,u82,u83,u84,u85,u86,u87,u88,u89,u90,u91,u92,u93,u94,u95,u96,u97,u98,u99,u100,u101,u102,u103,u104,u105,u106,u107,u108,u109,u110,u111,u112,u113,u114,u115,u116,u117,u118,u119,u120,u121,u122,u123,u124,u125,u126,u127,u128,u129,u130,u131,u132,u133,u134,u135,u136,u137,u138,u139,u140,u141,u142,u143,u144,u145,u146,u147,u148,u149,u150,u151,u152,u153,u154,u155,u156,u157,u158,u159,u160,u161,u162,u163,u164,u165,u166,u167,u168,u169,u170,u171,u172,u173,u174,u175,u176,u177,u178,u179,u180,u181,u182,u183,u184,u185,u186,u187,u188,u189,u190,u191,u192,u193,u194,u195,u196,u197,u198,u199,u200,u201,u202,u203,u204,u205,u206,u207,u208,u209,u210,u211,u212,u213,u214,u215,u216,u217,u218,u219,u220,u221,u222,u223,u224,u225,u226,u227,u228,u229,u230,u231,u232,u233,u234,u235,u236,u237,u238,u239,u240,u241,u242,u243,u244,u245,u246,u247,u248,u249,u250,u251,u252,u253,u254,u255,u256,u257,u258,u259,u260,u261,u262,u263,u264,u265,u266,u267,u268,u269,u270,u271,u272,u273,u274,u275,u276,u277,u278,u279,u280,u281,u282,u283,u284,u285,u286,u287,u288,u289,u290,u291,u292,u293,u294,u295,u296,u297,u298,u299,u300].toArray,[]⟩ W:=by
  simp only [blkOf,bodyOf,blk,Tryz.f15]
  simp only [Nat.reduceEqDiff,if_true,if_false]
  have ix:=ix_des (cap:=c1) hd.out hlt (by omega)
  unfold Ix at ix
  obtain ⟨s,t,e0,e1,e2,e3,e4,e5,e6,hs1,hs2,hok⟩:=id (hdc.out c hlt x hx.out)
  obtain ⟨op,capp,bp,offp,rfl,_,_,hp3,hp4⟩:=id hs1
  obtain ⟨oi,capi,bi,offi,rfl,_,_,hi3,hi4⟩:=id hs2
  obtain ⟨g0,g1⟩:=cells_two hB.out
  obtain ⟨DB,hDB⟩:∃ DB,DB = Obj.cells #[.int .i64 x.kind,.string x.name,.slice op x.params.length capp,.slice oi x.items.length capi,.int .i64 x.type,.int .i64 x.e,.int .i64 x.pos] 44 (0,0):=⟨_,rfl⟩
  have HDB:=hid hDB
  have H1:Hid (Below W.heap.size W (W.alloc DB)∧(W.alloc DB).heap[W.heap.size]? = some DB):=hid ⟨below_al (Below.refl W.heap.size W) _,al_new rfl⟩
  have HDV:Hid (DeVal W (.agg #[.int .i64 x.kind,.string x.name,.slice op x.params.length capp,.slice oi x.items.length capi,.int .i64 x.type,.int .i64 x.e,.int .i64 x.pos]) x):=hid ⟨_,_,rfl,hs1,hs2,hok⟩
  have hde:=hs.out.de x (List.mem_of_getElem? hx.out)
  have hpl:x.params.length≤600:=by have:=hde.1;unfold wDe at this;omega
  have hil:x.items.length≤600:=hde.2.1
  have h3:Hid (∀ y∈x.items,y.states.length≤1000):=hid fun y hy=>Nat.le_trans (hde.2.2 y hy) (by omega)
  have hk1:=kind_pos hx.out hm.out
  have hpos:=hid (posL_de hx.out)
  have HH:=hid (hybs_succ p.decls c x hx.out)
  rw [hh.out.symm] at HH
  have HP4:Hid (∀ i,i < x.params.length→∀ y,x.params[i]? = some y→PaAt W bp (offp+i*2) y):=hid hp4
  have HI4:Hid (∀ i,i < x.items.length→∀ y,x.items[i]? = some y→ItAt W bi (offi+i*9) y):=hid hi4
  have HP3:=hid hp3
  have HI3:=hid hi3
  rw [hDB] at H1
  clear hs1 hs2 hok hp3 hp4 hi3 hi4 hde
  go_upto_if 37 with fail
  rw [← hDB] at H1
  go_cut [4] from 35 to 39 (fun hv wx=>hv = .int .i64 (hybs (p.decls.take (c+1)):Nat)∧wx = W.alloc DB)
  case first =>
    by_cases hk:x.kind = 3
    · rw [if_pos hk] at HH
      have qk:(x.kind == 3) = true:=by simp [hk]
      clear hk
      go_wp2_with fail
      go_meet
      case rel=>exact ⟨by rw [HH.out];go_num,by rw [HDB.out]⟩
    · rw [if_neg hk] at HH
      have qk:(x.kind == 3) = false:=by simp [hk]
      clear hk
      go_wp2_with fail
      go_meet
      case rel=>exact ⟨by rw [HH.out];rfl,by rw [HDB.out]⟩
  case rest =>
    obtain ⟨rfl,rfl⟩:=hcut
    obtain ⟨W1,hW1⟩:∃ W1,W1 = W.alloc DB:=⟨_,rfl⟩
    obtain ⟨D,hD⟩:∃ D,D = W.heap.size:=⟨_,rfl⟩
    rw [← hW1,← hD] at H1 ⊢
    have hb1:Below W.heap.size W W1:=by rw [hW1];exact below_al (Below.refl W.heap.size W) _
    have hDW:W1.heap[D]? = some DB:=H1.out.2
    rw [HDB.out] at hDW
    have HD1:=hid hDW
    have HB1:=hid hb1
    have hB1:=hid ((hb1.block B (lt_of_heap hB.out)).trans hB.out)
    have hPA1:=hid (hPA.out.below hb1)
    have hF1:=hid (hF.out.below hb1)
    have hhl2:((hybs (p.decls.take (c+1)):Nat):Int)≤60:=by
      have h1:=hybs_le (p.decls.take (c+1))
      have h2:(p.decls.take (c+1)).length≤c+1:=by simp [List.length_take];omega
      omega
    clear hW1 hD hDB H1 e0 e1 e2 e3 e4 e5 e6 g0 g1 ix HH hF hb1 hDW hhl
    go_step
    refine wp_seq_k fun K1 hK1=>?_
    refine in9R p hs (B:=B) (D:=D) (c:=c) (H:=hybs (p.decls.take (c+1))) (v0:=v0) (sd:=.slice o1 n c1) (se:=.slice o2 ne c2) (P:=P) hP (x:=x) (T:=44) (hHl:=hhl2) (hHy:=hid rfl) (W:=W1) (hX:=HD1) (hB:=hB1) (hPA:=hPA1) (hF:=hF1) (hK:=hid ?_)
    intros
    rename_i v2 _ _ _ _ _ _ _ _ _ _ _ _ _ _ _ _ _ _ _ _ W2 hg2 hb2
    dsimp only
    have HB2:=hid (HB1.out.trans (hb2.mono HB1.out.size))
    have HD2:=hid ((hb2.block D (lt_of_heap HD1.out)).trans HD1.out)
    have hB2:=hid ((hb2.block B (lt_of_heap hB1.out)).trans hB1.out)
    have hP2:Hid (∀ a,(P a∨(RefD p c x∧a = x.pos))→a∈posL p):=hid fun a ha=>ha.elim (hP.out a) fun h=>h.2 ▸ hpos.out
    have HP42:Hid (∀ i,i < x.params.length→∀ y,x.params[i]? = some y→PaAt W2 bp (offp+i*2) y):=hid fun i hi y hy=>(HP4.out i hi y hy).below HB2.out
    refine hK1 _ _ ?_
    clear hK1 hb2 hF1 HD1 hB1
    refine wp_seq_k fun K2 hK2=>?_
    go_upto_block 2 with fail
    refine in2 p hs (D:=D) (v0:=v2) (P:=fun a=>P a∨(RefD p c x∧a = x.pos)) hP2 (x:=x) hpos (n:=x.params.length) (hid rfl) (by omega) (op:=op) (capp:=capp) (bp:=bp) (offp:=offp) (T:=44) (W:=W2) (hX:=HD2) (hp3:=HP3) (hp4:=HP42) (hF:=hid hg2) (hK:=hid ?_)
    clear hg2
    intros
    rename_i v3 _ _ _ _ _ _ _ _ _ _ _ _ _ _ _ _ _ _ _ _ _ _ _ _ _ _ _ _ _ _ _ _ W3 hg3 hb3
    dsimp only
    have HB3:=hid (HB2.out.trans (hb3.mono HB2.out.size))
    have HD3:=hid ((hb3.block D (lt_of_heap HD2.out)).trans HD2.out)
    have hB3:=hid ((hb3.block B (lt_of_heap hB2.out)).trans hB2.out)
    have hP3:Hid (∀ a,((P a∨(RefD p c x∧a = x.pos))∨(samT (x.params.map (·.name)) x.params.length = true∧a = x.pos))→a∈posL p):=hid fun a ha=>ha.elim (hP2.out a) fun h=>h.2 ▸ hpos.out
    have HI43:Hid (∀ i,i < x.items.length→∀ y,x.items[i]? = some y→ItAt W3 bi (offi+i*9) y):=hid fun i hi y hy=>(HI4.out i hi y hy).below HB3.out
    have HDV3:=hid (HDV.out.below HB3.out)
    refine hK2 _ _ ?_
    clear hK2 hb3 HD2 hB2 HP42
    refine wp_seq_k fun K3 hK3=>?_
    go_upto_block 6 with fail
    refine in6 p hs x (hid (List.mem_of_getElem? hx.out)) (D:=D) (v0:=v3) (P:=fun a=>(P a∨(RefD p c x∧a = x.pos))∨(samT (x.params.map (·.name)) x.params.length = true∧a = x.pos)) hP3 (np:=x.params.length) (cp:=capp) (op:=op) (oi:=oi) (ni:=x.items.length) (ci:=capi) (bi:=bi) (offi:=offi) (by omega) (hid rfl) HI3 (h1:=hpl) (h2:=hil) (h3:=h3) (W:=W3) (hic:=HI43) (hD:=HD3) (hDV:=HDV3) (hF:=hid hg3) (hK:=hid ?_)
    clear hg3
    intros
    rename_i v4 _ _ _ _ _ _ _ _ _ _ _ _ _ _ _ _ _ _ _ _ _ _ _ _ _ _ _ _ _ _ _ _ _ _ _ _ _ _ _ _ _ _ _ _ _ _ _ _ _ _ _ _ _ _ _ _ _ _ _ _ _ _ _ _ _ _ _ _ _ _ _ _ _ _ _ _ _ _ _ _ _ _ _ _ _ _ _ _ _ _ _ _ _ _ _ _ _ _ _ _ _ _ _ _ _ _ _ _ _ _ _ _ _ _ _ _ _ _ _ _ _ _ _ _ _ _ _ _ _ W4 hg4 hb4
    dsimp only
    have HB4:=hid (HB3.out.trans (hb4.mono HB3.out.size))
    have HD4:=hid ((hb4.block D (lt_of_heap HD3.out)).trans HD3.out)
    have hB4:=hid ((hb4.block B (lt_of_heap hB3.out)).trans hB3.out)
    have HDV4:=hid (HDV.out.below HB4.out)
    have hPA4:=hid (hPA.out.below HB4.out)
    have hF4:=hid hg4
    have hP4:Hid (∀ a,(((P a∨(RefD p c x∧a = x.pos))∨(samT (x.params.map (·.name)) x.params.length = true∧a = x.pos))∨RefIs x x.items.length a)→a∈posL p):=hid fun a ha=>ha.elim (hP3.out a) fun h=>refIn_pos hx.out (.inr (.inl h))
    have hxc4:Hid (∀ i,i < ne→∀ x,p.exprs[i]? = some x→ExAt W4 xb (xoff+i*9) x):=hid fun i hi y hy=>(hxc.out i hi y hy).below HB4.out
    have hdc4:Hid (∀ i,i < n→∀ x,p.decls[i]? = some x→DeAt W4 db (doff+i*7) x):=hid fun i hi y hy=>(hdc.out i hi y hy).below HB4.out
    have hro:Hid (∀ r∈rootsN x,∃ z:Nat,r = (z:Int)∧z < ne):=hid (by rw [← hne.out];exact roots_ok (mayN_mayP hm.out) hx.out)
    have RC:=hid (reached_core p x o1 o2 n c1 ne c2 xb xoff _ x.kind x.type x.e x.pos x.name op oi x.params.length capp x.items.length capi rfl W4 hne nel he hxc4 HDV4 hk1 hil hs (hid (mayN_mayP hm.out)) hro)
    unfold ReachedPost at RC
    rw [hne.out] at RC
    obtain ⟨z0,z1,z2,z3,z4,z5,z6⟩:=cells7R HD4.out
    obtain ⟨p0,p1⟩:=cells_two hB4.out
    refine hK3 _ _ ?_
    clear hK3 hb4 HD3 hB3 HI43 HDV3 hg4
    go_upto_region 48 with fail
    go_cut [16] from 212 to 214 (fun v16 wx=>∃ (g:Nat) (S:Nat→Bool),v16 = .slice (some ⟨g,0,none⟩) ne ne∧Hid (BoolRow wx g ne S)∧Hid (∀ k,k < ne→(S k = true↔Reach p (rootsN x) k))∧Hid (Below W4.heap.size W4 wx))
    case first =>
      go_wp2_with (go_at_call 32;(with_reducible refine RC.out.mono ?_);rintro e w1 ⟨g,S,rfl,hr1,hr2,hb5⟩;have HR1:=hid hr1;have HR2:=hid hr2;have HB5:=hid hb5;clear hr1 hr2 hb5)
      go_meet
      case rel =>
        rename_i hq
        cases hq
        exact ⟨g,S,rfl,HR1,HR2,HB5⟩
    case rest =>
      obtain ⟨g,S,rfl,HR1,HR2,HB5⟩:=hcut
      clear z0 z1 z2 z3 z4 z5 z6 p0 p1 RC
      have HB6:=hid (HB4.out.trans (HB5.out.mono HB4.out.size))
      have HD5:=hid ((HB5.out.block D (lt_of_heap HD4.out)).trans HD4.out)
      have hB5:=hid ((HB5.out.block B (lt_of_heap hB4.out)).trans hB4.out)
      have HDV5:=hid (HDV.out.below HB6.out)
      have hPA5:=hid (hPA.out.below HB6.out)
      have hF5:=hid (hF4.out.below HB5.out)
      have hxc5:Hid (∀ i,i < ne→∀ x,p.exprs[i]? = some x→ExAt wc xb (xoff+i*9) x):=hid fun i hi y hy=>(hxc.out i hi y hy).below HB6.out
      have hdc5:Hid (∀ i,i < n→∀ x,p.decls[i]? = some x→DeAt wc db (doff+i*7) x):=hid fun i hi y hy=>(hdc.out i hi y hy).below HB6.out
      go_upto_block 13 with fail
      refine in13 p hs x (B:=B) (D:=D) (g:=g) (S:=S) (v0:=v4) (P:=fun a=>((P a∨(RefD p c x∧a = x.pos))∨(samT (x.params.map (·.name)) x.params.length = true∧a = x.pos))∨RefIs x x.items.length a) hP4 (o1:=o1) (o2:=o2) (n:=n) (c1:=c1) (ne:=ne) (c2:=c2) (db:=db) (doff:=doff) (xb:=xb) (xoff:=xoff) HR2 nl nel hn hne hd he (h1:=hpl) (h2:=hil) (h3:=h3) (W:=wc) (hdc:=hdc5) (hxc:=hxc5) (hB:=hB5) (hPA:=hPA5) (hD:=HD5) (hDV:=HDV5) (hS:=HR1) (hF:=hF5) (hK:=hid ?_)
      intros
      rename_i v9 _ _ _ _ _ _ _ _ _ _ _ _ _ _ _ _ _ _ _ _ _ _ _ _ _ _ _ _ _ _ _ _ _ _ _ _ _ _ _ _ _ _ _ _ _ _ _ _ _ _ _ _ _ _ _ _ _ _ _ _ _ _ _ _ _ _ _ _ _ _ _ _ _ _ _ _ _ _ _ _ _ _ _ _ _ _ W9 hg9 hb9
      dsimp only
      show Q Exit.normal _ _
      refine hK.out v9 _ _ _ _ _ _ _ _ _ _ _ _ _ _ _ _ _ _ _ _ _ _ _ _ _ _ _ _ _ _ _ _ _ _ _ _ _ _ _ _ _ _ _ _ _ _ _ _ _ _ _ _ _ _ _ _ _ _ _ _ _ _ _ _ _ _ _ _ _ _ _ _ _ _ _ _ _ _ _ _ _ _ _ _ _ _ _ _ _ _ _ _ _ _ _ _ _ _ _ _ _ _ _ _ _ _ _ _ _ _ _ _ _ _ _ _ _ _ _ _ _ _ _ _ _ _ _ _ _ _ _ _ _ _ _ _ _ _ _ _ _ _ _ _ _ _ _ _ _ _ _ _ _ _ _ _ _ _ _ _ _ _ _ _ _ _ _ _ _ _ _ _ _ _ _ _ _ _ _ _ _ _ _ _ _ _ _ _ _ _ _ _ _ _ _ _ _ _ _ _ _ _ _ _ _ _ _ _ _ _ _ _ _ _ _ _ _ _ _ _ _ _ _ _ _ _ _ _ _ _ _ _ _ _ _ _ _ _ _ _ _ _ _ _ _ _ _ _ _ _ _ _ _ _ _ _ _ _ _ _ _ _ _ _ _ _ _ _ _ _ _ _ _ _ _ _ _ _ _ _ _ _ _ (hg9.ext fun a=>?_) (HB6.out.trans (hb9.mono HB6.out.size))
      unfold RefIn
      rw [refPs_sam,hne.out]
      constructor
      · rintro ((((h | h) | h) | h) | h)
        · exact .inl h
        · exact .inr (.inl ⟨.inl h.1,h.2⟩)
        · exact .inr (.inl ⟨.inr h.1,h.2⟩)
        · exact .inr (.inr (.inl h))
        · exact .inr (.inr (.inr h))
      · rintro (h | ⟨h | h,h2⟩ | h | h)
        · exact .inl (.inl (.inl (.inl h)))
        · exact .inl (.inl (.inl (.inr ⟨h,h2⟩)))
        · exact .inl (.inl (.inr ⟨h,h2⟩))
        · exact .inl (.inr h)
        · exact .inr h
end
section
open Go.RowKit Lx Go.Shelf Go.Maps
attribute [local go_sem] Oper.semAt_some
set_option linter.unusedVariables false
set_option maxHeartbeats 16000000 in
set_option maxRecDepth 100000 in
theorem refFaults_core (o1 o2:Option Addr) (n c1 ne c2 db doff xb xoff:Nat) (p:Pr) (w:World) (hn:Hid (p.decls.length = n)) (hne:Hid (p.exprs.length = ne)) (nl:(n:Int)≤60) (nel:(ne:Int)≤300) (hp:Hid (ProgAt w (.slice o1 n c1) (.slice o2 ne c2) p)) (hd:Hid (0 < n→o1 = some ⟨db,doff,none⟩)) (he:Hid (0 < ne→o2 = some ⟨xb,xoff,none⟩)) (hdc:Hid (∀ i,i < n→∀ x,p.decls[i]? = some x→DeAt w db (doff+i*7) x)) (hxc:Hid (∀ i,i < ne→∀ x,p.exprs[i]? = some x→ExAt w xb (xoff+i*9) x)) (hs:Hid (Small p)) (hm:Hid (mayN p = true)) :
    Calls Tryz.prog 15 #[.agg #[.slice o1 n c1,.slice o2 ne c2]] w fun r Y=>∃ v,r = .returned v∧FlGot Y v (WrongAt p)∧Below w.heap.size w Y:=by
  obtain ⟨PB,hPB⟩:∃ PB,PB = Obj.cells #[.slice o1 n c1,.slice o2 ne c2] 25 (0,0):=⟨_,rfl⟩
  have HPB:=hid hPB
  have H0:Hid (Below w.heap.size w (w.alloc PB)∧(w.alloc PB).heap[w.heap.size]? = some PB):=hid ⟨below_al (Below.refl w.heap.size w) _,al_new rfl⟩
  have F0:Hid (FlGot (w.alloc PB) (.slice none 0 0) (RefTo p 0)):=hid ⟨[],slAt_none _ _ _ _ _ ⟨Nat.zero_le _,fun _=>rfl⟩ rfl,Got.start fun a ⟨i,d,h,_⟩=>by omega⟩
  rw [hPB] at H0 F0
  go_enter Tryz.func15,Tryz.ntmps15
  go_wp2_with fail
  rw [← hPB] at H0 F0
  clear hPB
  go_loopw [3,4,5] (fun ov hv iv W=>∃ (c:Nat) (v:Value),v = ov∧iv = .int .i64 (c:Int)∧c≤n∧hv = .int .i64 (hybs (p.decls.take c):Nat)∧Hid (FlGot W v (RefTo p c))∧Hid (Below w.heap.size w W∧W.heap[w.heap.size]? = some PB)) (fun _ _ i _=>n - litLen i)
  case atStart=>exact ⟨0,_,rfl,rfl,Nat.zero_le _,rfl,by rw [HPB.out] at F0;exact F0,by rw [HPB.out];rw [HPB.out] at H0;exact H0⟩
  case round =>
    clear F0 H0
    obtain ⟨c,v,rfl,rfl,hc,rfl,hF,hB⟩:=hrel
    have pb0:=hB.out.2
    rw [HPB.out] at pb0
    have HPB0:=hid pb0
    obtain ⟨g0,g1⟩:=cells_two pb0
    have hhl:((hybs (p.decls.take c):Nat):Int)≤60:=by
      have h1:=hybs_le (p.decls.take c)
      have h2:(p.decls.take c).length≤c:=by simp [List.length_take];omega
      omega
    clear pb0
    rcases Nat.lt_or_ge c n with hlt | hge
    · have q3:(c:Int) < (n:Int):=by omega
      obtain ⟨x,hx⟩:∃ x,p.decls[c]? = some x:=⟨_,List.getElem?_eq_getElem (by have:=hn.out;omega)⟩
      have HX:=hid hx
      have hP:Hid (∀ a,RefTo p c a→a∈posL p):=hid fun a h=>refTo_pos h
      have hxc4:Hid (∀ i,i < ne→∀ x,p.exprs[i]? = some x→ExAt wr xb (xoff+i*9) x):=hid fun i hi y hy=>(hxc.out i hi y hy).below hB.out.1
      have hdc4:Hid (∀ i,i < n→∀ x,p.decls[i]? = some x→DeAt wr db (doff+i*7) x):=hid fun i hi y hy=>(hdc.out i hi y hy).below hB.out.1
      have hp4:=hid (hp.out.below hB.out.1)
      obtain ⟨h,hh⟩:∃ h,h = hybs (p.decls.take c):=⟨_,rfl⟩
      rw [← hh] at hhl ⊢
      have HH:=hid hh
      clear hx hh
      go_upto_block 1 with fail
      refine in1 p hs hm (c:=c) (x:=x) HX (B:=w.heap.size) (h:=h) HH hhl (v0:=v) (P:=RefTo p c) hP (o1:=o1) (o2:=o2) (n:=n) (c1:=c1) (ne:=ne) (c2:=c2) (db:=db) (doff:=doff) (xb:=xb) (xoff:=xoff) nl nel hlt hn hne hd he (W:=wr) (hdc:=hdc4) (hxc:=hxc4) (hB:=HPB0) (hPA:=hp4) (hF:=hF) (hK:=hid ?_)
      intros
      rename_i v1 _ _ _ _ _ _ _ _ _ _ _ _ _ _ _ _ _ _ _ _ _ _ _ _ _ _ _ _ _ _ _ _ _ _ _ _ _ _ _ _ _ _ _ _ _ _ _ _ _ _ _ _ _ _ _ _ _ _ _ _ _ _ _ _ _ _ _ _ _ _ _ _ _ _ _ _ _ _ _ _ _ _ _ _ _ _ _ _ _ _ _ _ _ _ _ _ _ _ _ _ _ _ _ _ _ _ _ _ _ _ _ _ _ _ _ _ _ _ _ _ _ _ _ _ _ _ _ _ _ _ _ _ _ _ _ _ _ _ _ _ _ _ _ _ _ _ _ _ _ _ _ _ _ _ _ _ _ _ _ _ _ _ _ _ _ _ _ _ _ _ _ _ _ _ _ _ _ _ _ _ _ _ _ _ _ _ _ _ _ _ _ _ _ _ _ _ _ _ _ _ _ _ _ _ _ _ _ _ _ _ _ _ _ _ _ _ _ _ _ _ _ _ _ _ _ _ _ _ _ _ _ _ _ _ _ _ _ _ _ _ _ _ _ _ _ _ _ _ _ _ _ _ _ _ _ _ _ _ _ _ _ _ _ _ _ _ _ _ _ _ _ _ _ _ _ _ _ _ _ _ _ _ W2 hg2 hb2
      dsimp only
      go_wp2_with fail
      refine ⟨⟨c+1,v1,rfl,by go_num,by omega,rfl,hid (hg2.ext fun a=>(refTo_succ HX.out a).symm),hid ⟨hB.out.1.trans (hb2.mono hB.out.1.size),(hb2.block _ (lt_of_heap hB.out.2)).trans hB.out.2⟩⟩,by simp [litLen];omega⟩
    · obtain rfl:c = n:=by omega
      have q3:¬ (c:Int) < (c:Int):=by omega
      have e:p.decls.take c = p.decls:=List.take_of_length_le (by rw [hn.out];exact Nat.le_refl _)
      rw [e] at hhl ⊢
      have hall:=hid (fun a=>refTo_all hm.out a)
      rw [hn.out] at hall
      by_cases h0:hybs p.decls = 0
      · rw [h0] at hall ⊢
        have AD:=hid (flGot_add hs.out (P:=RefTo p c) (fun a h=>refTo_pos h) v 0 wr hF.out)
        clear h0 e hhl
        go_wp2_with (go_at_call 25;(with_reducible refine AD.out.mono ?_);rintro e w2 ⟨v1,rfl,hG1,hb1⟩;have HG1:=hid hG1;have HB1:=hid hb1;clear hG1 hb1)
        go_ret
        exact ⟨v1,rfl,HG1.out.ext fun a=>by rw [hall.out];simp,hB.out.1.trans (HB1.out.mono hB.out.1.size)⟩
      · have q4:((hybs p.decls:Nat) == (0:Int)) = false:=beq_false_of_ne (by omega)
        have H0:=hid h0
        obtain ⟨hy,hhy⟩:∃ h,h = hybs p.decls:=⟨_,rfl⟩
        rw [← hhy] at H0 hall q4 hhl ⊢
        have q5:((hy:Int) == 0) = false:=beq_false_of_ne (by have:=H0.out;omega)
        clear h0 e hhl hhy
        go_wp2_with fail
        go_ret
        exact ⟨v,rfl,hF.out.ext fun a=>by rw [hall.out];simp [H0.out],hB.out.1⟩
theorem refFaults_any (sd se:Value) (p:Pr) (w:World) (h:ProgAt w sd se p) (hs:Small p) (hm:mayN p = true):Calls Tryz.prog 15 #[.agg #[sd,se]] w fun r Y=>∃ v,r = .returned v∧FlGot Y v (WrongAt p)∧Below w.heap.size w Y:=by
  obtain ⟨⟨o1,c1,db,doff,rfl,_,_,hd1,hd2⟩,⟨o2,c2,xb,xoff,rfl,_,_,hx1,hx2⟩,_,_⟩:=id h
  have h1:=hs.exprs
  have h2:=hs.decls
  exact refFaults_core o1 o2 _ c1 _ c2 db doff xb xoff p w (hid rfl) (hid rfl) (by omega) (by omega) (hid h) (hid hd1) (hid hx1) (hid hd2) (hid hx2) (hid hs) (hid hm)
end
section
open Go.RowKit Lx Go.Shelf Go.Maps
attribute [local go_sem] Oper.semAt_some
set_option linter.unusedVariables false
set_option maxHeartbeats 16000000 in
set_option maxRecDepth 100000 in
theorem refRight_any (sd se:Value) (p:Pr) (w:World) (h:ProgAt w sd se p) (hs:Small p):Calls Tryz.prog 16 #[.agg #[sd,se]] w fun r Y=>∃ q:Bool,r = .returned (.bool q)∧(q = true↔RightP p)∧Below w.heap.size w Y:=by
  have HP:=hid h
  obtain ⟨⟨o1,c1,db,doff,rfl,_⟩,⟨o2,c2,xb,xoff,rfl,_⟩,_⟩:=h
  obtain ⟨n,hn⟩:∃ n,n = p.decls.length:=⟨_,rfl⟩
  obtain ⟨ne,hne⟩:∃ ne,ne = p.exprs.length:=⟨_,rfl⟩
  rw [← hn,← hne] at HP ⊢
  have hb0:=hid (below_al (Below.refl w.heap.size w) (.cells #[.slice o1 n c1,.slice o2 ne c2] 25))
  have P0:Hid ((w.alloc (.cells #[.slice o1 n c1,.slice o2 ne c2] 25)).heap[w.heap.size]? = some (.cells #[.slice o1 n c1,.slice o2 ne c2] 25 (0,0))):=hid (al_new rfl)
  have MA:=hid (fun X (hX:Below w.heap.size w X)=>refMayN_any _ _ p X (HP.out.below hX) hs)
  unfold MayPost at MA
  cases hm:mayN p with
  | false =>
    rw [hm] at MA
    have R:Hid (¬ RightP p):=hid fun h=>by rw [h.1] at hm;cases hm
    clear hm hn hne
    go_enter Tryz.func16,Tryz.ntmps16
    go_wp2_with (go_at_call 11;(with_reducible refine (MA.out _ hb0.out).mono ?_);rintro e w1 ⟨rfl,hb1⟩;have HB1:=hid (hb0.out.trans (hb1.mono hb0.out.size));clear hb1)
    go_ret
    exact ⟨false,rfl,by simp [R.out],HB1.out⟩
  | true =>
    rw [hm] at MA
    have RF:=hid (fun X (hX:Below w.heap.size w X)=>refFaults_any _ _ p X (HP.out.below hX) hs hm)
    unfold FlGot FlsAt SlAt at RF
    have R:Hid (RightP p↔∀ a,¬ WrongAt p a):=hid ⟨fun h=>h.2,fun h=>⟨hm,h⟩⟩
    have HM:=hid hm
    clear hm hn hne
    go_enter Tryz.func16,Tryz.ntmps16
    go_wp2_with first | (go_at_call 11;(with_reducible refine (MA.out _ hb0.out).mono ?_);rintro e w1 ⟨rfl,hb1⟩;have HB1:=hid (hb0.out.trans (hb1.mono hb0.out.size));obtain ⟨g0,g1⟩:=cells_two ((hb1.block _ (lt_of_heap P0.out)).trans P0.out);clear hb1) | (go_at_call 15;(with_reducible refine (RF.out _ HB1.out).mono ?_);rintro e w2 ⟨_,rfl,⟨cur,⟨of,capf,bf,offf,rfl,_,_,_,_⟩,hg⟩,hb2⟩;have HG:=hid hg;have HB2:=hid hb2;obtain ⟨nf,hnf⟩:∃ nf,nf = cur.length:=⟨_,rfl⟩;rw [← hnf];have HNF:=hid hnf;clear hg hb2 hnf)
    go_ret
    refine ⟨_,rfl,?_,HB1.out.trans (HB2.out.mono HB1.out.size)⟩
    rw [R.out]
    simp only [beq_iff_eq,HNF.out]
    constructor
    · intro h0 a ha
      have h1:cur = []:=List.length_eq_zero_iff.1 (by omega)
      have h2:=(HG.out.mem (4,a)).2 ⟨rfl,ha⟩
      rw [h1] at h2
      cases h2
    · intro hno
      cases hcur:cur with
      | nil=>rfl
      | cons f l =>
        have h2:=(HG.out.mem f).1 (by rw [hcur];exact List.mem_cons_self)
        exact absurd h2.2 (hno _)
end
section
open Go.RowKit Lx Go.Shelf Go.Maps
attribute [local go_sem] Oper.semAt_some
set_option linter.unusedVariables false
theorem faults_one {p:Pr} (hm:mayN p = true):∃ L:List Flt,Got (WrongAt p) L:=by
  classical
  refine ⟨ordF (((posL p).filter (fun a=>decide (WrongAt p a))).map fun a=>(4,a)),ordF_got fun x=>?_⟩
  rw [List.mem_map]
  constructor
  · rintro ⟨a,ha,e⟩
    exact ⟨a,of_decide_eq_true (List.mem_filter.1 ha).2,e.symm⟩
  · rintro ⟨a,ha,e⟩
    refine ⟨a,List.mem_filter.2 ⟨?_,decide_eq_true ha⟩,e.symm⟩
    rcases (refTo_all hm a).1 ha with h | ⟨_,rfl⟩
    · exact refTo_pos h
    · exact List.mem_cons_self
theorem wrong_pos {p:Pr} (hm:mayN p = true) {a:Int} (ha:WrongAt p a):a∈posL p:=by
  rcases (refTo_all hm a).1 ha with h | ⟨_,rfl⟩
  · exact refTo_pos h
  · exact List.mem_cons_self
theorem wrong_may {p:Pr} {a:Int} (h:WrongAt p a):mayN p = true:=h.1
set_option maxHeartbeats 16000000 in
set_option maxRecDepth 100000 in
theorem faultsLaw_any (sd se:Value) (p:Pr) (w:World) (hp:ProgAt w sd se p):Calls Tryz.prog 3 #[.agg #[sd,se]] w fun r Y=>r = .returned (.bool true)∧Below w.heap.size w Y:=by
  have hpa:=hid hp
  obtain ⟨⟨o1,dcap,db,doff,rfl,_⟩,⟨o2,cap,xb,xoff,rfl,_⟩,_⟩:=hp
  obtain ⟨m,hm⟩:∃ n,n = p.decls.length:=⟨_,rfl⟩
  obtain ⟨n,hn⟩:∃ ne,ne = p.exprs.length:=⟨_,rfl⟩
  rw [← hm,← hn] at hpa ⊢
  clear hm hn
  have hb0:=hid (below_al (Below.refl w.heap.size w) (.cells #[.slice o1 m dcap,.slice o2 n cap] 25))
  have hB0:=hid (World.alloc_heap_new w (.cells #[.slice o1 m dcap,.slice o2 n cap] 25))
  have CA:=hid (alive_nm (w.alloc (.cells #[.slice o1 m dcap,.slice o2 n cap] 25)))
  have CG:Hid (∀ W,Below w.heap.size w W→Calls Tryz.prog 10 #[.agg #[.slice o1 m dcap,.slice o2 n cap]] W fun e w'=>GreatPost p W e w'):=hid fun W hW=>great_any _ _ p W (hpa.out.below hW)
  obtain ⟨W0,hW0⟩:∃ W0,W0 = w.alloc (.cells #[.slice o1 m dcap,.slice o2 n cap] 25):=⟨_,rfl⟩
  go_enter Tryz.func3,Tryz.ntmps3
  go_wp2_with (fail)
  rw [← hW0] at hb0 hB0 CA ⊢
  go_at_call 9
  ((with_reducible refine CA.out.mono ?_))
  rintro r w1 ⟨rfl,hb⟩
  have hB1:=(hb.block _ (lt_of_heap hB0.out)).trans hB0.out
  have g1:w1.cell? ⟨w.heap.size,0,none⟩ = some (.slice o1 m dcap):=by simp [World.cell?,hB1]
  have g2:w1.cell? ⟨w.heap.size,1,none⟩ = some (.slice o2 n cap):=by simp [World.cell?,hB1]
  have hb1:=hid (hb0.out.trans (hb.mono hb0.out.size))
  clear hb hB1 CA
  go_wp2_with (fail)
  go_at_call 10
  ((with_reducible refine (CG.out w1 hb1.out).mono ?_))
  rintro r w2 ⟨g,rfl,hg,hb⟩
  have q1:=cell_on hb g1
  have q2:=cell_on hb g2
  have hb2:=hid (hb1.out.trans (hb.mono hb1.out.size))
  clear hb g1 g2 CG
  cases g with
  | true =>
    clear hg
    go_wp2_with (fail)
    go_ret
    exact ⟨rfl,hb2.out⟩
  | false =>
    have hS:=hid (hg rfl)
    clear hg
    obtain ⟨mb,hmb⟩:∃ mb,mb = mayN p:=⟨_,rfl⟩
    have CM:Hid (Calls Tryz.prog 11 #[.agg #[.slice o1 m dcap,.slice o2 n cap]] w2 fun e w'=>MayPost mb w2 e w'):=by rw [hmb];exact hid (refMayN_any _ _ p w2 (hpa.out.below hb2.out) hS.out)
    unfold MayPost at CM
    have HMB:=hid hmb
    clear hmb
    cases mb with
    | false =>
      have CF:Hid (∀ W,Below w.heap.size w W→Calls Tryz.prog 12 #[.agg #[.slice o1 m dcap,.slice o2 n cap]] W fun r Y=>∃ (o:Option Addr) (c:Nat),r = .returned (.slice o 0 c)∧Below W.heap.size W Y):=hid fun W hW=>(faults_any _ _ p W (hpa.out.below hW) hS.out).mono fun r Y ⟨v,l,e,h1,h2,h3⟩=>by
        have hl:l = []:=List.eq_nil_iff_forall_not_mem.2 fun x hx=>by
          obtain ⟨a,ha,_⟩:=(h2 x).1 hx
          have:=wrong_may ha
          rw [← HMB.out] at this;cases this
        have e0:ordF ([]:List Flt) = []:=(ordF_got (P:=fun _=>False) (l:=[]) (fun x=>by simp)).one (Got.start fun a h=>h)
        rw [hl,e0] at h1
        obtain ⟨o,c,b,f,e2,_⟩:=h1
        exact ⟨o,c,by rw [e,e2];rfl,h3⟩
      have CR:Hid (∀ W,Below w.heap.size w W→Calls Tryz.prog 13 #[.agg #[.slice o1 m dcap,.slice o2 n cap]] W fun r Y=>r = .returned (.bool false)∧Below W.heap.size W Y):=hid fun W hW=>(right_any _ _ p W (hpa.out.below hW) hS.out).mono fun r Y ⟨q,e,h1,h2⟩=>by
        cases q with
        | false=>exact ⟨e,h2⟩
        | true=>have:=(h1.1 rfl).1;rw [← HMB.out] at this;cases this
      go_wp2_with first | (go_at_call 11;(with_reducible refine CM.out.mono ?_);rintro e w3 ⟨rfl,hb3⟩;have HB3:=hid (hb2.out.trans (hb3.mono hb2.out.size));have r1:=cell_on hb3 q1;have r2:=cell_on hb3 q2;clear hb3) | (go_at_call 12;(with_reducible refine (CF.out _ HB3.out).mono ?_);rintro e w4 ⟨of,cf,rfl,hb4⟩;have HB4:=hid (HB3.out.trans (hb4.mono HB3.out.size));have s1:=cell_on hb4 r1;have s2:=cell_on hb4 r2;clear hb4) | (go_at_call 13;(with_reducible refine (CR.out _ HB4.out).mono ?_);rintro e w5 ⟨rfl,hb5⟩;have HB5:=hid (HB4.out.trans (hb5.mono HB4.out.size));clear hb5)
      go_ret
      exact ⟨rfl,HB5.out⟩
    | true =>
      have hmm:mayN p = true:=HMB.out.symm
      obtain ⟨L,hL⟩:=faults_one hmm
      have hLl:L.length≤1000000:=Nat.le_trans (Nat.le_trans (hL.len fun a ha=>wrong_pos hmm ha) (posL_len hS.out)) (by omega)
      obtain ⟨q,hq⟩:∃ q:Bool,(q = true↔RightP p):=by classical exact ⟨decide (RightP p),decide_eq_true_iff⟩
      have CF:Hid (∀ W,Below w.heap.size w W→Calls Tryz.prog 12 #[.agg #[.slice o1 m dcap,.slice o2 n cap]] W fun r Y=>∃ v,r = .returned v∧FlsAt Y v L∧Below W.heap.size W Y):=hid fun W hW=>(faults_any _ _ p W (hpa.out.below hW) hS.out).mono fun r Y ⟨v,l,e,h1,h2,h3⟩=>by
        rw [(ordF_got (P:=WrongAt p) h2).one hL] at h1
        exact ⟨v,e,h1,h3⟩
      have CE:Hid (∀ W,Below w.heap.size w W→Calls Tryz.prog 15 #[.agg #[.slice o1 m dcap,.slice o2 n cap]] W fun r Y=>∃ v,r = .returned v∧FlsAt Y v L∧Below W.heap.size W Y):=hid fun W hW=>(refFaults_any _ _ p W (hpa.out.below hW) hS.out hmm).mono fun r Y ⟨v,e,⟨l,h1,h2⟩,h3⟩=>by
        rw [h2.one hL] at h1
        exact ⟨v,e,h1,h3⟩
      have CS:Hid (∀ W s t,FlsAt W s L→FlsAt W t L→Calls Tryz.prog 14 #[s,t] W fun r Y=>r = .returned (.bool true)∧Below W.heap.size W Y):=hid fun W s t h1 h2=>(same_fl s t L L W h1 h2 hLl).mono fun r Y h=>by simpa using h
      have CR:Hid (∀ W,Below w.heap.size w W→Calls Tryz.prog 13 #[.agg #[.slice o1 m dcap,.slice o2 n cap]] W fun r Y=>r = .returned (.bool q)∧Below W.heap.size W Y):=hid fun W hW=>(right_any _ _ p W (hpa.out.below hW) hS.out).mono fun r Y ⟨z,e,h1,h2⟩=>by
        have:z = q:=by rw [Bool.eq_iff_iff,h1,hq]
        rw [← this];exact ⟨e,h2⟩
      have CZ:Hid (∀ W,Below w.heap.size w W→Calls Tryz.prog 16 #[.agg #[.slice o1 m dcap,.slice o2 n cap]] W fun r Y=>r = .returned (.bool q)∧Below W.heap.size W Y):=hid fun W hW=>(refRight_any _ _ p W (hpa.out.below hW) hS.out).mono fun r Y ⟨z,e,h1,h2⟩=>by
        have:z = q:=by rw [Bool.eq_iff_iff,h1,hq]
        rw [← this];exact ⟨e,h2⟩
      clear hL hLl hq hmm
      have mixed : Tryz.prog.follows .mixedOrders = true:=by kernel_rfl
      have late : Tryz.prog.follows .lateStores = true:=by kernel_rfl
      go_upto_region 7 with (go_at_call 11;(with_reducible refine CM.out.mono ?_);rintro e w3 ⟨rfl,hb3⟩;have HB3:=hid (hb2.out.trans (hb3.mono hb2.out.size));have r1:=cell_on hb3 q1;have r2:=cell_on hb3 q2;clear hb3)
      have hbd:Below w3.heap.size w3 w3.drew:=⟨rfl,rfl,rfl,Nat.le_refl _,fun _ _=>rfl⟩
      have hbw3:Below w.heap.size w w3.drew:=HB3.out.trans (hbd.mono HB3.out.size)
      clear q1 q2
      go_cut [2] from 19 (fun s2 wx=>s2 = .bool true∧Hid (Below w.heap.size w wx))
      case first =>
        go_region_with (first
          | (go_at_call 12;refine (CF.out _ ?_).mono ?_;(with_reducible exact hbw3);rintro e w4 ⟨v4,rfl,hv4,hb4⟩;have s1:=cell_on hb4 r1;have s2:=cell_on hb4 r2;have hbw4:Below w.heap.size w w4:=hbw3.trans (hb4.mono hbw3.size))
          | (go_at_call 15;refine (CE.out _ ?_).mono ?_;(with_reducible exact hbw4);rintro e w5 ⟨v5,rfl,hv5,hb5⟩;have t1:=cell_on hb5 s1;have t2:=cell_on hb5 s2;have hbw5:Below w.heap.size w w5:=hbw4.trans (hb5.mono hbw4.size);have hv45:=hv4.below hb5)
          | (go_at_call 14;refine (CS.out _ _ _ ?_ ?_).mono ?_;(with_reducible exact hv45);(with_reducible exact hv5);rintro e w6 ⟨rfl,hb6⟩;have x1:=cell_on hb6 t1;have x2:=cell_on hb6 t2;have hbw6:Below w.heap.size w w6:=hbw5.trans (hb6.mono hbw5.size))
          | (go_at_call 13;refine (CR.out _ ?_).mono ?_;(with_reducible exact hbw6);rintro e w7 ⟨rfl,hb7⟩;have y1:=cell_on hb7 x1;have y2:=cell_on hb7 x2;have hbw7:Below w.heap.size w w7:=hbw6.trans (hb7.mono hbw6.size))
          | (go_at_call 16;refine (CZ.out _ ?_).mono ?_;(with_reducible exact hbw7);rintro e w8 ⟨rfl,hb8⟩;have hbw8:Below w.heap.size w w8:=hbw7.trans (hb8.mono hbw7.size)))
        all_goals (go_wp2_with fail;go_meet)
        all_goals exact ⟨by simp,hid hbw8⟩
      case rest =>
        obtain ⟨rfl,hbx⟩:=hcut
        go_wp2_with fail
        go_ret
        exact ⟨rfl,hbx.out⟩
end
end Go.Proofs.YtdlmfeflinbbjaaGreat
