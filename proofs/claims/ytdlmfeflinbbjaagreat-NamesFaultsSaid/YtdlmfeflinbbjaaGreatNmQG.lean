import Derived.Test.YtdlmfeflinbbjaaGreatNmQF
namespace Go.Proofs.YtdlmfeflinbbjaaGreat
open Go.Lib (hid)
section
open Go.RowKit Lx Go.Shelf Go.Maps
attribute [local go_sem] Oper.semAt_some
set_option linter.unusedVariables false
set_option maxHeartbeats 16000000 in
set_option maxRecDepth 100000 in
theorem in8_1 {u0 u1 u2 u3 u4 u5 u7 u8 u14 u15 u16 u17 u18 u19 u20 u21 u22 u23 u24 u25 u26 u27 u28 u29 u30 u31 u32 u33 u34 u35 u36 u37 u38 u39 u40 u41 u42 u43 u44 u45 u46 u47 u48 u49 u50 u51 u52 u53 u54 u55 u56 u57 u58 u59 u60 u61 u62 u63 u64 u65 u66 u67 u68 u69 u70 u71 u72 u73 u74 u75 u76 u77 u78 u79 u80 u81 u82 u83 u84 u85 u86 u87 u88 u89 u90 u91 u92 u93 u94 u95 u96 u97 u98 u99 u100 u101 u102 u103 u104 u105 u106 u107 u108 u109 u111 u112 u113 u114 u115 u116 u117 u118 u119 u120 u121 u122 u123 u124 u125 u126 u127 u128 u129 u130 u131 u132 u133 u134 u135 u136 u137 u138 u139 u140 u141 u142 u143 u144 u145 u146 u147 u148 u149 u150 u151 u152 u153 u154 u155 u156 u157 u158 u159 u160 u161 u162 u163 u164 u165 u166 u167 u168 u169 u170 u171 u172 u173 u174 u175 u176 u177 u178 u179 u180 u181 u182 u183 u184 u185 u186 u187 u188 u189 u190 u191 u192 u193 u194 u195 u196 u197 u198 u199 u200 u201 u202 u203 u204 u205 u206 u207 u208 u209 u210 u211 u212 u213 u214 u215 u216 u217 u218 u219 u220 u221 u222 u223 u224 u225 u226 u227 u228 u229 u230 u231 u232 u233 u234 u235 u236 u237 u238 u239 u240 u241 u242 u243 u244 u245 u246 u247 u248 u249 u250 u251 u252 u253 u254 u255 u256 u257 u258 u259 u260 u261 u262 u263 u264 u265 u266 u267 u268 u269 u270 u271 u272 u273 u274 u275 u276 u277 u278 u279 u280 u281 u282 u283 u284 u285 u286 u287 u288 u289 u290 u291 u292 u293 u294 u295 u296 u297 u298 u299 u300:Value} (d:De) (D X V i:Nat) (k:Int) (hk:k = 1) (nm st nx:ByteArray) (l:List ByteArray) (o:Option Addr) (n cap:Nat) (hln:Hid (l.length = n)) (nl:(n:Int)≤1000) (i2 i3 i4 i8 j0 j2:Value) (T T2:TypeId) (s ix:Int) (ok:Bool) (hso:Hid (s = (lookV d nm).sort)) (hix:Hid (ix = (lookV d nm).index)) (hok:Hid (ok = okV d nm))
    (g0 g1 g2 g3 g4 g5 g6:Value) (h1:d.params.length≤600) (h2:d.items.length≤600) (h3:Hid (∀ x∈d.items,x.states.length≤1000))
    (Q:Exit→Act→World→Prop) (W:World) (hX:Hid (W.heap[X]? = some (.cells #[.int .i64 k,.string nm,i2,i3,i4,.slice o n cap,.string st,.string nx,i8] T (0,0)))) (hS:Hid (StrsAt W (.slice o n cap) l)) (hV:Hid (W.heap[V]? = some (.cells #[j0,.int .i64 s,j2,.int .i64 ix] T2 (0,0))))
    (hD:Hid (W.heap[D]? = some (.cells #[g0,g1,g2,g3,g4,g5,g6] 44 (0,0)))) (hDV:Hid (DeVal W (.agg #[g0,g1,g2,g3,g4,g5,g6]) d))
    (hK:Hid (∀ (v14 v15 v111 v112 v113 v114 v115 v116 v117 v118 v119 v120 v121 v122 v123 v124 v125 v126 v127 v128 v129 v130 v131 v132 v133 v134 v135 v136 v137 v138 v139 v140 v141 v142 v143 v144 v145 v146 v147 v148 v149 v150 v151 v152 v153 v154 v155 v156 v157 v158 v159 v160 v161 v162 v163 v164 v165 v166 v167 v168 v169 v170 v171 v172 v173 v174 v175 v176 v177 v178 v179 v180 v181 v182 v183 v184 v185 v186 v187 v188 v189 v190 v191 v192 v193 v194 v195 v196 v197 v198 v199 v200 v201 v202 v203 v204 v205:Value) W',Below W.heap.size W W'→Q .normal ⟨[u0,u1,u2,u3,u4,u5,.pointer (some ⟨D,0,none⟩),u7,u8,.int .i64 (i:Int),.pointer (some ⟨X,0,none⟩),.pointer (some ⟨V,0,none⟩),.bool ok,.bool (refI d i k nm st nx l),v14,v15,u16,u17,u18,u19,u20,u21,u22,u23,u24,u25,u26,u27,u28,u29,u30,u31,u32,u33,u34,u35,u36,u37,u38,u39,u40,u41,u42,u43,u44,u45,u46,u47,u48,u49,u50,u51,u52,u53,u54,u55,u56,u57,u58,u59,u60,u61,u62,u63,u64,u65,u66,u67,u68,u69,u70,u71,u72,u73,u74,u75,u76,u77,u78,u79,u80,u81,u82,u83,u84,u85,u86,u87,u88,u89,u90,u91,u92,u93,u94,u95,u96,u97,u98,u99,u100,u101,u102,u103,u104,u105,u106,u107,u108,u109,.int .i64 k,v111,v112,v113,v114,v115,v116,v117,v118,v119,v120,v121,v122,v123,v124,v125,v126,v127,v128,v129,v130,v131,v132,v133,v134,v135,v136,v137,v138,v139,v140,v141,v142,v143,v144,v145,v146,v147,v148,v149,v150,v151,v152,v153,v154,v155,v156,v157,v158,v159,v160,v161,v162,v163,v164,v165,v166,v167,v168,v169,v170,v171,v172,v173,v174,v175,v176,v177,v178,v179,v180,v181,v182,v183,v184,v185,v186,v187,v188,v189,v190,v191,v192,v193,v194,v195,v196,v197,v198,v199,v200,v201,v202,v203,v204,v205,u206,u207,u208,u209,u210,u211,u212,u213,u214,u215,u216,u217,u218,u219,u220,u221,u222,u223,u224,u225,u226,u227,u228,u229,u230,u231,u232,u233,u234,u235,u236,u237,u238,u239,u240,u241,u242,u243,u244,u245,u246,u247,u248,u249,u250,u251,u252,u253,u254,u255,u256,u257,u258,u259,u260,u261,u262,u263,u264,u265,u266,u267,u268,u269,u270,u271,u272,u273,u274,u275,u276,u277,u278,u279,u280,u281,u282,u283,u284,u285,u286,u287,u288,u289,u290,u291,u292,u293,u294,u295,u296,u297,u298,u299,u300].toArray,[]⟩ W')) :
    (blkOf Tryz.f15 8).wp Tryz.prog Q ⟨[u0,u1,u2,u3,u4,u5,.pointer (some ⟨D,0,none⟩),u7,u8,.int .i64 (i:Int),.pointer (some ⟨X,0,none⟩),.pointer (some ⟨V,0,none⟩),.bool ok,.bool false,u14,u15,u16,u17,u18,u19,u20,u21,u22,u23,u24,u25,u26,u27,u28,u29,u30,u31,u32,u33,u34,u35,u36,u37,u38,u39,u40,u41,u42,u43,u44,u45,u46,u47,u48,u49,u50,u51,u52,u53,u54,u55,u56,u57,u58,u59,u60,u61,u62,u63,u64,u65,u66,u67,u68,u69,u70,u71,u72,u73,u74,u75,u76,u77,u78,u79,u80,u81,u82,u83,u84,u85,u86,u87,u88,u89,u90,u91,u92,u93,u94,u95,u96,u97,u98,u99,u100,u101,u102,u103,u104,u105,u106,u107,u108,u109,.int .i64 k,u111,u112,u113,u114,u115,u116,u117,u118,u119,u120,u121,u122,u123,u124,u125,u126,u127,u128,u129,u130,u131,u132,u133,u134,u135,u136,u137,u138,u139,u140,u141,u142,u143,u144,u145,u146,u147,u148,u149,u150,u151,u152,u153,u154,u155,u156,u157,u158,u159,u160,u161,u162,u163,u164,u165,u166,u167,u168,u169,u170,u171,u172,u173,u174,u175,u176,u177,u178,u179,u180,u181,u182,u183,u184,u185,u186,u187,u188,u189,u190,u191,u192,u193,u194,u195,u196,u197,u198,u199,u200,u201,u202,u203,u204,u205,u206,u207,u208,u209,u210,u211,u212,u213,u214,u215,u216,u217,u218,u219,u220,u221,u222,u223,u224,u225,u226,u227,u228,u229,u230,u231,u232,u233,u234,u235,u236,u237,u238,u239,u240,u241,u242,u243,u244,u245,u246,u247,u248,u249,u250,u251,u252,u253,u254,u255,u256,u257,u258,u259,u260,u261,u262,u263,u264,u265,u266,u267,u268,u269,u270,u271,u272,u273,u274,u275,u276,u277,u278,u279,u280,u281,u282,u283,u284,u285,u286,u287,u288,u289,u290,u291,u292,u293,u294,u295,u296,u297,u298,u299,u300].toArray,[]⟩ W:=by
  simp only [blkOf,bodyOf,blk,Tryz.f15]
  simp only [Nat.reduceEqDiff,if_true,if_false]
  obtain ⟨d0,d1,d2,d3,d4,d5,d6,d7,d8⟩:=cells9 hX.out
  obtain ⟨f0,f1,f2,f3⟩:=cells4R hV.out
  have hR:refI d i k nm st nx l = ((s == 1 || ix != (i:Int)) || (k == 6 && dupB l)):=by unfold refI;rw [if_pos (by omega),hso.out,hix.out]
  rw [hR] at hK
  clear hR hso hix hok hD hDV hV h1 h2 h3
  subst hk
  cases h1:(s == 1) with
  | true =>
    rw [h1] at hK
    go_upto_block 9 with fail
    refine in9 (X:=X) (b0:=true) (l:=l) (o:=o) (n:=n) (cap:=cap) hln nl (T:=T) (W:=W) (hX:=hX) (hS:=hS) (hK:=hid ?_)
    intros
    rename_i W2 hb2
    dsimp only
    go_wp2_with fail
    exact hK.out _ _ _ _ _ _ _ _ _ _ _ _ _ _ _ _ _ _ _ _ _ _ _ _ _ _ _ _ _ _ _ _ _ _ _ _ _ _ _ _ _ _ _ _ _ _ _ _ _ _ _ _ _ _ _ _ _ _ _ _ _ _ _ _ _ _ _ _ _ _ _ _ _ _ _ _ _ _ _ _ _ _ _ _ _ _ _ _ _ _ _ _ _ _ _ _ _ _ hb2
  | false =>
    rw [h1] at hK
    cases h2:(ix != (i:Int)) with
    | true =>
      rw [h2] at hK
      go_upto_block 9 with fail
      refine in9 (X:=X) (b0:=true) (l:=l) (o:=o) (n:=n) (cap:=cap) hln nl (T:=T) (W:=W) (hX:=hX) (hS:=hS) (hK:=hid ?_)
      intros
      rename_i W2 hb2
      dsimp only
      go_wp2_with fail
      exact hK.out _ _ _ _ _ _ _ _ _ _ _ _ _ _ _ _ _ _ _ _ _ _ _ _ _ _ _ _ _ _ _ _ _ _ _ _ _ _ _ _ _ _ _ _ _ _ _ _ _ _ _ _ _ _ _ _ _ _ _ _ _ _ _ _ _ _ _ _ _ _ _ _ _ _ _ _ _ _ _ _ _ _ _ _ _ _ _ _ _ _ _ _ _ _ _ _ _ _ hb2
    | false =>
      rw [h2] at hK
      go_upto_block 9 with fail
      refine in9 (X:=X) (b0:=false) (l:=l) (o:=o) (n:=n) (cap:=cap) hln nl (T:=T) (W:=W) (hX:=hX) (hS:=hS) (hK:=hid ?_)
      intros
      rename_i W2 hb2
      dsimp only
      go_wp2_with fail
      exact hK.out _ _ _ _ _ _ _ _ _ _ _ _ _ _ _ _ _ _ _ _ _ _ _ _ _ _ _ _ _ _ _ _ _ _ _ _ _ _ _ _ _ _ _ _ _ _ _ _ _ _ _ _ _ _ _ _ _ _ _ _ _ _ _ _ _ _ _ _ _ _ _ _ _ _ _ _ _ _ _ _ _ _ _ _ _ _ _ _ _ _ _ _ _ _ _ _ _ _ hb2
set_option maxHeartbeats 16000000 in
set_option maxRecDepth 100000 in
theorem in8_2 {u0 u1 u2 u3 u4 u5 u7 u8 u14 u15 u16 u17 u18 u19 u20 u21 u22 u23 u24 u25 u26 u27 u28 u29 u30 u31 u32 u33 u34 u35 u36 u37 u38 u39 u40 u41 u42 u43 u44 u45 u46 u47 u48 u49 u50 u51 u52 u53 u54 u55 u56 u57 u58 u59 u60 u61 u62 u63 u64 u65 u66 u67 u68 u69 u70 u71 u72 u73 u74 u75 u76 u77 u78 u79 u80 u81 u82 u83 u84 u85 u86 u87 u88 u89 u90 u91 u92 u93 u94 u95 u96 u97 u98 u99 u100 u101 u102 u103 u104 u105 u106 u107 u108 u109 u111 u112 u113 u114 u115 u116 u117 u118 u119 u120 u121 u122 u123 u124 u125 u126 u127 u128 u129 u130 u131 u132 u133 u134 u135 u136 u137 u138 u139 u140 u141 u142 u143 u144 u145 u146 u147 u148 u149 u150 u151 u152 u153 u154 u155 u156 u157 u158 u159 u160 u161 u162 u163 u164 u165 u166 u167 u168 u169 u170 u171 u172 u173 u174 u175 u176 u177 u178 u179 u180 u181 u182 u183 u184 u185 u186 u187 u188 u189 u190 u191 u192 u193 u194 u195 u196 u197 u198 u199 u200 u201 u202 u203 u204 u205 u206 u207 u208 u209 u210 u211 u212 u213 u214 u215 u216 u217 u218 u219 u220 u221 u222 u223 u224 u225 u226 u227 u228 u229 u230 u231 u232 u233 u234 u235 u236 u237 u238 u239 u240 u241 u242 u243 u244 u245 u246 u247 u248 u249 u250 u251 u252 u253 u254 u255 u256 u257 u258 u259 u260 u261 u262 u263 u264 u265 u266 u267 u268 u269 u270 u271 u272 u273 u274 u275 u276 u277 u278 u279 u280 u281 u282 u283 u284 u285 u286 u287 u288 u289 u290 u291 u292 u293 u294 u295 u296 u297 u298 u299 u300:Value} (d:De) (D X V i:Nat) (k:Int) (hk:k = 2) (nm st nx:ByteArray) (l:List ByteArray) (o:Option Addr) (n cap:Nat) (hln:Hid (l.length = n)) (nl:(n:Int)≤1000) (i2 i3 i4 i8 j0 j2:Value) (T T2:TypeId) (s ix:Int) (ok:Bool) (hso:Hid (s = (lookV d nm).sort)) (hix:Hid (ix = (lookV d nm).index)) (hok:Hid (ok = okV d nm))
    (g0 g1 g2 g3 g4 g5 g6:Value) (h1:d.params.length≤600) (h2:d.items.length≤600) (h3:Hid (∀ x∈d.items,x.states.length≤1000))
    (Q:Exit→Act→World→Prop) (W:World) (hX:Hid (W.heap[X]? = some (.cells #[.int .i64 k,.string nm,i2,i3,i4,.slice o n cap,.string st,.string nx,i8] T (0,0)))) (hS:Hid (StrsAt W (.slice o n cap) l)) (hV:Hid (W.heap[V]? = some (.cells #[j0,.int .i64 s,j2,.int .i64 ix] T2 (0,0))))
    (hD:Hid (W.heap[D]? = some (.cells #[g0,g1,g2,g3,g4,g5,g6] 44 (0,0)))) (hDV:Hid (DeVal W (.agg #[g0,g1,g2,g3,g4,g5,g6]) d))
    (hK:Hid (∀ (v14 v15 v111 v112 v113 v114 v115 v116 v117 v118 v119 v120 v121 v122 v123 v124 v125 v126 v127 v128 v129 v130 v131 v132 v133 v134 v135 v136 v137 v138 v139 v140 v141 v142 v143 v144 v145 v146 v147 v148 v149 v150 v151 v152 v153 v154 v155 v156 v157 v158 v159 v160 v161 v162 v163 v164 v165 v166 v167 v168 v169 v170 v171 v172 v173 v174 v175 v176 v177 v178 v179 v180 v181 v182 v183 v184 v185 v186 v187 v188 v189 v190 v191 v192 v193 v194 v195 v196 v197 v198 v199 v200 v201 v202 v203 v204 v205:Value) W',Below W.heap.size W W'→Q .normal ⟨[u0,u1,u2,u3,u4,u5,.pointer (some ⟨D,0,none⟩),u7,u8,.int .i64 (i:Int),.pointer (some ⟨X,0,none⟩),.pointer (some ⟨V,0,none⟩),.bool ok,.bool (refI d i k nm st nx l),v14,v15,u16,u17,u18,u19,u20,u21,u22,u23,u24,u25,u26,u27,u28,u29,u30,u31,u32,u33,u34,u35,u36,u37,u38,u39,u40,u41,u42,u43,u44,u45,u46,u47,u48,u49,u50,u51,u52,u53,u54,u55,u56,u57,u58,u59,u60,u61,u62,u63,u64,u65,u66,u67,u68,u69,u70,u71,u72,u73,u74,u75,u76,u77,u78,u79,u80,u81,u82,u83,u84,u85,u86,u87,u88,u89,u90,u91,u92,u93,u94,u95,u96,u97,u98,u99,u100,u101,u102,u103,u104,u105,u106,u107,u108,u109,.int .i64 k,v111,v112,v113,v114,v115,v116,v117,v118,v119,v120,v121,v122,v123,v124,v125,v126,v127,v128,v129,v130,v131,v132,v133,v134,v135,v136,v137,v138,v139,v140,v141,v142,v143,v144,v145,v146,v147,v148,v149,v150,v151,v152,v153,v154,v155,v156,v157,v158,v159,v160,v161,v162,v163,v164,v165,v166,v167,v168,v169,v170,v171,v172,v173,v174,v175,v176,v177,v178,v179,v180,v181,v182,v183,v184,v185,v186,v187,v188,v189,v190,v191,v192,v193,v194,v195,v196,v197,v198,v199,v200,v201,v202,v203,v204,v205,u206,u207,u208,u209,u210,u211,u212,u213,u214,u215,u216,u217,u218,u219,u220,u221,u222,u223,u224,u225,u226,u227,u228,u229,u230,u231,u232,u233,u234,u235,u236,u237,u238,u239,u240,u241,u242,u243,u244,u245,u246,u247,u248,u249,u250,u251,u252,u253,u254,u255,u256,u257,u258,u259,u260,u261,u262,u263,u264,u265,u266,u267,u268,u269,u270,u271,u272,u273,u274,u275,u276,u277,u278,u279,u280,u281,u282,u283,u284,u285,u286,u287,u288,u289,u290,u291,u292,u293,u294,u295,u296,u297,u298,u299,u300].toArray,[]⟩ W')) :
    (blkOf Tryz.f15 8).wp Tryz.prog Q ⟨[u0,u1,u2,u3,u4,u5,.pointer (some ⟨D,0,none⟩),u7,u8,.int .i64 (i:Int),.pointer (some ⟨X,0,none⟩),.pointer (some ⟨V,0,none⟩),.bool ok,.bool false,u14,u15,u16,u17,u18,u19,u20,u21,u22,u23,u24,u25,u26,u27,u28,u29,u30,u31,u32,u33,u34,u35,u36,u37,u38,u39,u40,u41,u42,u43,u44,u45,u46,u47,u48,u49,u50,u51,u52,u53,u54,u55,u56,u57,u58,u59,u60,u61,u62,u63,u64,u65,u66,u67,u68,u69,u70,u71,u72,u73,u74,u75,u76,u77,u78,u79,u80,u81,u82,u83,u84,u85,u86,u87,u88,u89,u90,u91,u92,u93,u94,u95,u96,u97,u98,u99,u100,u101,u102,u103,u104,u105,u106,u107,u108,u109,.int .i64 k,u111,u112,u113,u114,u115,u116,u117,u118,u119,u120,u121,u122,u123,u124,u125,u126,u127,u128,u129,u130,u131,u132,u133,u134,u135,u136,u137,u138,u139,u140,u141,u142,u143,u144,u145,u146,u147,u148,u149,u150,u151,u152,u153,u154,u155,u156,u157,u158,u159,u160,u161,u162,u163,u164,u165,u166,u167,u168,u169,u170,u171,u172,u173,u174,u175,u176,u177,u178,u179,u180,u181,u182,u183,u184,u185,u186,u187,u188,u189,u190,u191,u192,u193,u194,u195,u196,u197,u198,u199,u200,u201,u202,u203,u204,u205,u206,u207,u208,u209,u210,u211,u212,u213,u214,u215,u216,u217,u218,u219,u220,u221,u222,u223,u224,u225,u226,u227,u228,u229,u230,u231,u232,u233,u234,u235,u236,u237,u238,u239,u240,u241,u242,u243,u244,u245,u246,u247,u248,u249,u250,u251,u252,u253,u254,u255,u256,u257,u258,u259,u260,u261,u262,u263,u264,u265,u266,u267,u268,u269,u270,u271,u272,u273,u274,u275,u276,u277,u278,u279,u280,u281,u282,u283,u284,u285,u286,u287,u288,u289,u290,u291,u292,u293,u294,u295,u296,u297,u298,u299,u300].toArray,[]⟩ W:=by
  simp only [blkOf,bodyOf,blk,Tryz.f15]
  simp only [Nat.reduceEqDiff,if_true,if_false]
  obtain ⟨d0,d1,d2,d3,d4,d5,d6,d7,d8⟩:=cells9 hX.out
  obtain ⟨f0,f1,f2,f3⟩:=cells4R hV.out
  have hR:refI d i k nm st nx l = ((s == 1 || ix != (i:Int)) || (k == 6 && dupB l)):=by unfold refI;rw [if_pos (by omega),hso.out,hix.out]
  rw [hR] at hK
  clear hR hso hix hok hD hDV hV h1 h2 h3
  subst hk
  cases h1:(s == 1) with
  | true =>
    rw [h1] at hK
    go_upto_block 9 with fail
    refine in9 (X:=X) (b0:=true) (l:=l) (o:=o) (n:=n) (cap:=cap) hln nl (T:=T) (W:=W) (hX:=hX) (hS:=hS) (hK:=hid ?_)
    intros
    rename_i W2 hb2
    dsimp only
    go_wp2_with fail
    exact hK.out _ _ _ _ _ _ _ _ _ _ _ _ _ _ _ _ _ _ _ _ _ _ _ _ _ _ _ _ _ _ _ _ _ _ _ _ _ _ _ _ _ _ _ _ _ _ _ _ _ _ _ _ _ _ _ _ _ _ _ _ _ _ _ _ _ _ _ _ _ _ _ _ _ _ _ _ _ _ _ _ _ _ _ _ _ _ _ _ _ _ _ _ _ _ _ _ _ _ hb2
  | false =>
    rw [h1] at hK
    cases h2:(ix != (i:Int)) with
    | true =>
      rw [h2] at hK
      go_upto_block 9 with fail
      refine in9 (X:=X) (b0:=true) (l:=l) (o:=o) (n:=n) (cap:=cap) hln nl (T:=T) (W:=W) (hX:=hX) (hS:=hS) (hK:=hid ?_)
      intros
      rename_i W2 hb2
      dsimp only
      go_wp2_with fail
      exact hK.out _ _ _ _ _ _ _ _ _ _ _ _ _ _ _ _ _ _ _ _ _ _ _ _ _ _ _ _ _ _ _ _ _ _ _ _ _ _ _ _ _ _ _ _ _ _ _ _ _ _ _ _ _ _ _ _ _ _ _ _ _ _ _ _ _ _ _ _ _ _ _ _ _ _ _ _ _ _ _ _ _ _ _ _ _ _ _ _ _ _ _ _ _ _ _ _ _ _ hb2
    | false =>
      rw [h2] at hK
      go_upto_block 9 with fail
      refine in9 (X:=X) (b0:=false) (l:=l) (o:=o) (n:=n) (cap:=cap) hln nl (T:=T) (W:=W) (hX:=hX) (hS:=hS) (hK:=hid ?_)
      intros
      rename_i W2 hb2
      dsimp only
      go_wp2_with fail
      exact hK.out _ _ _ _ _ _ _ _ _ _ _ _ _ _ _ _ _ _ _ _ _ _ _ _ _ _ _ _ _ _ _ _ _ _ _ _ _ _ _ _ _ _ _ _ _ _ _ _ _ _ _ _ _ _ _ _ _ _ _ _ _ _ _ _ _ _ _ _ _ _ _ _ _ _ _ _ _ _ _ _ _ _ _ _ _ _ _ _ _ _ _ _ _ _ _ _ _ _ hb2
set_option maxHeartbeats 16000000 in
set_option maxRecDepth 100000 in
theorem in8_4 {u0 u1 u2 u3 u4 u5 u7 u8 u14 u15 u16 u17 u18 u19 u20 u21 u22 u23 u24 u25 u26 u27 u28 u29 u30 u31 u32 u33 u34 u35 u36 u37 u38 u39 u40 u41 u42 u43 u44 u45 u46 u47 u48 u49 u50 u51 u52 u53 u54 u55 u56 u57 u58 u59 u60 u61 u62 u63 u64 u65 u66 u67 u68 u69 u70 u71 u72 u73 u74 u75 u76 u77 u78 u79 u80 u81 u82 u83 u84 u85 u86 u87 u88 u89 u90 u91 u92 u93 u94 u95 u96 u97 u98 u99 u100 u101 u102 u103 u104 u105 u106 u107 u108 u109 u111 u112 u113 u114 u115 u116 u117 u118 u119 u120 u121 u122 u123 u124 u125 u126 u127 u128 u129 u130 u131 u132 u133 u134 u135 u136 u137 u138 u139 u140 u141 u142 u143 u144 u145 u146 u147 u148 u149 u150 u151 u152 u153 u154 u155 u156 u157 u158 u159 u160 u161 u162 u163 u164 u165 u166 u167 u168 u169 u170 u171 u172 u173 u174 u175 u176 u177 u178 u179 u180 u181 u182 u183 u184 u185 u186 u187 u188 u189 u190 u191 u192 u193 u194 u195 u196 u197 u198 u199 u200 u201 u202 u203 u204 u205 u206 u207 u208 u209 u210 u211 u212 u213 u214 u215 u216 u217 u218 u219 u220 u221 u222 u223 u224 u225 u226 u227 u228 u229 u230 u231 u232 u233 u234 u235 u236 u237 u238 u239 u240 u241 u242 u243 u244 u245 u246 u247 u248 u249 u250 u251 u252 u253 u254 u255 u256 u257 u258 u259 u260 u261 u262 u263 u264 u265 u266 u267 u268 u269 u270 u271 u272 u273 u274 u275 u276 u277 u278 u279 u280 u281 u282 u283 u284 u285 u286 u287 u288 u289 u290 u291 u292 u293 u294 u295 u296 u297 u298 u299 u300:Value} (d:De) (D X V i:Nat) (k:Int) (hk:k = 4) (nm st nx:ByteArray) (l:List ByteArray) (o:Option Addr) (n cap:Nat) (hln:Hid (l.length = n)) (nl:(n:Int)≤1000) (i2 i3 i4 i8 j0 j2:Value) (T T2:TypeId) (s ix:Int) (ok:Bool) (hso:Hid (s = (lookV d nm).sort)) (hix:Hid (ix = (lookV d nm).index)) (hok:Hid (ok = okV d nm))
    (g0 g1 g2 g3 g4 g5 g6:Value) (h1:d.params.length≤600) (h2:d.items.length≤600) (h3:Hid (∀ x∈d.items,x.states.length≤1000))
    (Q:Exit→Act→World→Prop) (W:World) (hX:Hid (W.heap[X]? = some (.cells #[.int .i64 k,.string nm,i2,i3,i4,.slice o n cap,.string st,.string nx,i8] T (0,0)))) (hS:Hid (StrsAt W (.slice o n cap) l)) (hV:Hid (W.heap[V]? = some (.cells #[j0,.int .i64 s,j2,.int .i64 ix] T2 (0,0))))
    (hD:Hid (W.heap[D]? = some (.cells #[g0,g1,g2,g3,g4,g5,g6] 44 (0,0)))) (hDV:Hid (DeVal W (.agg #[g0,g1,g2,g3,g4,g5,g6]) d))
    (hK:Hid (∀ (v14 v15 v111 v112 v113 v114 v115 v116 v117 v118 v119 v120 v121 v122 v123 v124 v125 v126 v127 v128 v129 v130 v131 v132 v133 v134 v135 v136 v137 v138 v139 v140 v141 v142 v143 v144 v145 v146 v147 v148 v149 v150 v151 v152 v153 v154 v155 v156 v157 v158 v159 v160 v161 v162 v163 v164 v165 v166 v167 v168 v169 v170 v171 v172 v173 v174 v175 v176 v177 v178 v179 v180 v181 v182 v183 v184 v185 v186 v187 v188 v189 v190 v191 v192 v193 v194 v195 v196 v197 v198 v199 v200 v201 v202 v203 v204 v205:Value) W',Below W.heap.size W W'→Q .normal ⟨[u0,u1,u2,u3,u4,u5,.pointer (some ⟨D,0,none⟩),u7,u8,.int .i64 (i:Int),.pointer (some ⟨X,0,none⟩),.pointer (some ⟨V,0,none⟩),.bool ok,.bool (refI d i k nm st nx l),v14,v15,u16,u17,u18,u19,u20,u21,u22,u23,u24,u25,u26,u27,u28,u29,u30,u31,u32,u33,u34,u35,u36,u37,u38,u39,u40,u41,u42,u43,u44,u45,u46,u47,u48,u49,u50,u51,u52,u53,u54,u55,u56,u57,u58,u59,u60,u61,u62,u63,u64,u65,u66,u67,u68,u69,u70,u71,u72,u73,u74,u75,u76,u77,u78,u79,u80,u81,u82,u83,u84,u85,u86,u87,u88,u89,u90,u91,u92,u93,u94,u95,u96,u97,u98,u99,u100,u101,u102,u103,u104,u105,u106,u107,u108,u109,.int .i64 k,v111,v112,v113,v114,v115,v116,v117,v118,v119,v120,v121,v122,v123,v124,v125,v126,v127,v128,v129,v130,v131,v132,v133,v134,v135,v136,v137,v138,v139,v140,v141,v142,v143,v144,v145,v146,v147,v148,v149,v150,v151,v152,v153,v154,v155,v156,v157,v158,v159,v160,v161,v162,v163,v164,v165,v166,v167,v168,v169,v170,v171,v172,v173,v174,v175,v176,v177,v178,v179,v180,v181,v182,v183,v184,v185,v186,v187,v188,v189,v190,v191,v192,v193,v194,v195,v196,v197,v198,v199,v200,v201,v202,v203,v204,v205,u206,u207,u208,u209,u210,u211,u212,u213,u214,u215,u216,u217,u218,u219,u220,u221,u222,u223,u224,u225,u226,u227,u228,u229,u230,u231,u232,u233,u234,u235,u236,u237,u238,u239,u240,u241,u242,u243,u244,u245,u246,u247,u248,u249,u250,u251,u252,u253,u254,u255,u256,u257,u258,u259,u260,u261,u262,u263,u264,u265,u266,u267,u268,u269,u270,u271,u272,u273,u274,u275,u276,u277,u278,u279,u280,u281,u282,u283,u284,u285,u286,u287,u288,u289,u290,u291,u292,u293,u294,u295,u296,u297,u298,u299,u300].toArray,[]⟩ W')) :
    (blkOf Tryz.f15 8).wp Tryz.prog Q ⟨[u0,u1,u2,u3,u4,u5,.pointer (some ⟨D,0,none⟩),u7,u8,.int .i64 (i:Int),.pointer (some ⟨X,0,none⟩),.pointer (some ⟨V,0,none⟩),.bool ok,.bool false,u14,u15,u16,u17,u18,u19,u20,u21,u22,u23,u24,u25,u26,u27,u28,u29,u30,u31,u32,u33,u34,u35,u36,u37,u38,u39,u40,u41,u42,u43,u44,u45,u46,u47,u48,u49,u50,u51,u52,u53,u54,u55,u56,u57,u58,u59,u60,u61,u62,u63,u64,u65,u66,u67,u68,u69,u70,u71,u72,u73,u74,u75,u76,u77,u78,u79,u80,u81,u82,u83,u84,u85,u86,u87,u88,u89,u90,u91,u92,u93,u94,u95,u96,u97,u98,u99,u100,u101,u102,u103,u104,u105,u106,u107,u108,u109,.int .i64 k,u111,u112,u113,u114,u115,u116,u117,u118,u119,u120,u121,u122,u123,u124,u125,u126,u127,u128,u129,u130,u131,u132,u133,u134,u135,u136,u137,u138,u139,u140,u141,u142,u143,u144,u145,u146,u147,u148,u149,u150,u151,u152,u153,u154,u155,u156,u157,u158,u159,u160,u161,u162,u163,u164,u165,u166,u167,u168,u169,u170,u171,u172,u173,u174,u175,u176,u177,u178,u179,u180,u181,u182,u183,u184,u185,u186,u187,u188,u189,u190,u191,u192,u193,u194,u195,u196,u197,u198,u199,u200,u201,u202,u203,u204,u205,u206,u207,u208,u209,u210,u211,u212,u213,u214,u215,u216,u217,u218,u219,u220,u221,u222,u223,u224,u225,u226,u227,u228,u229,u230,u231,u232,u233,u234,u235,u236,u237,u238,u239,u240,u241,u242,u243,u244,u245,u246,u247,u248,u249,u250,u251,u252,u253,u254,u255,u256,u257,u258,u259,u260,u261,u262,u263,u264,u265,u266,u267,u268,u269,u270,u271,u272,u273,u274,u275,u276,u277,u278,u279,u280,u281,u282,u283,u284,u285,u286,u287,u288,u289,u290,u291,u292,u293,u294,u295,u296,u297,u298,u299,u300].toArray,[]⟩ W:=by
  simp only [blkOf,bodyOf,blk,Tryz.f15]
  simp only [Nat.reduceEqDiff,if_true,if_false]
  obtain ⟨d0,d1,d2,d3,d4,d5,d6,d7,d8⟩:=cells9 hX.out
  obtain ⟨f0,f1,f2,f3⟩:=cells4R hV.out
  have hR:refI d i k nm st nx l = ((s == 1 || ix != (i:Int)) || (k == 6 && dupB l)):=by unfold refI;rw [if_pos (by omega),hso.out,hix.out]
  rw [hR] at hK
  clear hR hso hix hok hD hDV hV h1 h2 h3
  subst hk
  cases h1:(s == 1) with
  | true =>
    rw [h1] at hK
    go_upto_block 9 with fail
    refine in9 (X:=X) (b0:=true) (l:=l) (o:=o) (n:=n) (cap:=cap) hln nl (T:=T) (W:=W) (hX:=hX) (hS:=hS) (hK:=hid ?_)
    intros
    rename_i W2 hb2
    dsimp only
    go_wp2_with fail
    exact hK.out _ _ _ _ _ _ _ _ _ _ _ _ _ _ _ _ _ _ _ _ _ _ _ _ _ _ _ _ _ _ _ _ _ _ _ _ _ _ _ _ _ _ _ _ _ _ _ _ _ _ _ _ _ _ _ _ _ _ _ _ _ _ _ _ _ _ _ _ _ _ _ _ _ _ _ _ _ _ _ _ _ _ _ _ _ _ _ _ _ _ _ _ _ _ _ _ _ _ hb2
  | false =>
    rw [h1] at hK
    cases h2:(ix != (i:Int)) with
    | true =>
      rw [h2] at hK
      go_upto_block 9 with fail
      refine in9 (X:=X) (b0:=true) (l:=l) (o:=o) (n:=n) (cap:=cap) hln nl (T:=T) (W:=W) (hX:=hX) (hS:=hS) (hK:=hid ?_)
      intros
      rename_i W2 hb2
      dsimp only
      go_wp2_with fail
      exact hK.out _ _ _ _ _ _ _ _ _ _ _ _ _ _ _ _ _ _ _ _ _ _ _ _ _ _ _ _ _ _ _ _ _ _ _ _ _ _ _ _ _ _ _ _ _ _ _ _ _ _ _ _ _ _ _ _ _ _ _ _ _ _ _ _ _ _ _ _ _ _ _ _ _ _ _ _ _ _ _ _ _ _ _ _ _ _ _ _ _ _ _ _ _ _ _ _ _ _ hb2
    | false =>
      rw [h2] at hK
      go_upto_block 9 with fail
      refine in9 (X:=X) (b0:=false) (l:=l) (o:=o) (n:=n) (cap:=cap) hln nl (T:=T) (W:=W) (hX:=hX) (hS:=hS) (hK:=hid ?_)
      intros
      rename_i W2 hb2
      dsimp only
      go_wp2_with fail
      exact hK.out _ _ _ _ _ _ _ _ _ _ _ _ _ _ _ _ _ _ _ _ _ _ _ _ _ _ _ _ _ _ _ _ _ _ _ _ _ _ _ _ _ _ _ _ _ _ _ _ _ _ _ _ _ _ _ _ _ _ _ _ _ _ _ _ _ _ _ _ _ _ _ _ _ _ _ _ _ _ _ _ _ _ _ _ _ _ _ _ _ _ _ _ _ _ _ _ _ _ hb2
set_option maxHeartbeats 16000000 in
set_option maxRecDepth 100000 in
theorem in8_6 {u0 u1 u2 u3 u4 u5 u7 u8 u14 u15 u16 u17 u18 u19 u20 u21 u22 u23 u24 u25 u26 u27 u28 u29 u30 u31 u32 u33 u34 u35 u36 u37 u38 u39 u40 u41 u42 u43 u44 u45 u46 u47 u48 u49 u50 u51 u52 u53 u54 u55 u56 u57 u58 u59 u60 u61 u62 u63 u64 u65 u66 u67 u68 u69 u70 u71 u72 u73 u74 u75 u76 u77 u78 u79 u80 u81 u82 u83 u84 u85 u86 u87 u88 u89 u90 u91 u92 u93 u94 u95 u96 u97 u98 u99 u100 u101 u102 u103 u104 u105 u106 u107 u108 u109 u111 u112 u113 u114 u115 u116 u117 u118 u119 u120 u121 u122 u123 u124 u125 u126 u127 u128 u129 u130 u131 u132 u133 u134 u135 u136 u137 u138 u139 u140 u141 u142 u143 u144 u145 u146 u147 u148 u149 u150 u151 u152 u153 u154 u155 u156 u157 u158 u159 u160 u161 u162 u163 u164 u165 u166 u167 u168 u169 u170 u171 u172 u173 u174 u175 u176 u177 u178 u179 u180 u181 u182 u183 u184 u185 u186 u187 u188 u189 u190 u191 u192 u193 u194 u195 u196 u197 u198 u199 u200 u201 u202 u203 u204 u205 u206 u207 u208 u209 u210 u211 u212 u213 u214 u215 u216 u217 u218 u219 u220 u221 u222 u223 u224 u225 u226 u227 u228 u229 u230 u231 u232 u233 u234 u235 u236 u237 u238 u239 u240 u241 u242 u243 u244 u245 u246 u247 u248 u249 u250 u251 u252 u253 u254 u255 u256 u257 u258 u259 u260 u261 u262 u263 u264 u265 u266 u267 u268 u269 u270 u271 u272 u273 u274 u275 u276 u277 u278 u279 u280 u281 u282 u283 u284 u285 u286 u287 u288 u289 u290 u291 u292 u293 u294 u295 u296 u297 u298 u299 u300:Value} (d:De) (D X V i:Nat) (k:Int) (hk:k = 6) (nm st nx:ByteArray) (l:List ByteArray) (o:Option Addr) (n cap:Nat) (hln:Hid (l.length = n)) (nl:(n:Int)≤1000) (i2 i3 i4 i8 j0 j2:Value) (T T2:TypeId) (s ix:Int) (ok:Bool) (hso:Hid (s = (lookV d nm).sort)) (hix:Hid (ix = (lookV d nm).index)) (hok:Hid (ok = okV d nm))
    (g0 g1 g2 g3 g4 g5 g6:Value) (h1:d.params.length≤600) (h2:d.items.length≤600) (h3:Hid (∀ x∈d.items,x.states.length≤1000))
    (Q:Exit→Act→World→Prop) (W:World) (hX:Hid (W.heap[X]? = some (.cells #[.int .i64 k,.string nm,i2,i3,i4,.slice o n cap,.string st,.string nx,i8] T (0,0)))) (hS:Hid (StrsAt W (.slice o n cap) l)) (hV:Hid (W.heap[V]? = some (.cells #[j0,.int .i64 s,j2,.int .i64 ix] T2 (0,0))))
    (hD:Hid (W.heap[D]? = some (.cells #[g0,g1,g2,g3,g4,g5,g6] 44 (0,0)))) (hDV:Hid (DeVal W (.agg #[g0,g1,g2,g3,g4,g5,g6]) d))
    (hK:Hid (∀ (v14 v15 v111 v112 v113 v114 v115 v116 v117 v118 v119 v120 v121 v122 v123 v124 v125 v126 v127 v128 v129 v130 v131 v132 v133 v134 v135 v136 v137 v138 v139 v140 v141 v142 v143 v144 v145 v146 v147 v148 v149 v150 v151 v152 v153 v154 v155 v156 v157 v158 v159 v160 v161 v162 v163 v164 v165 v166 v167 v168 v169 v170 v171 v172 v173 v174 v175 v176 v177 v178 v179 v180 v181 v182 v183 v184 v185 v186 v187 v188 v189 v190 v191 v192 v193 v194 v195 v196 v197 v198 v199 v200 v201 v202 v203 v204 v205:Value) W',Below W.heap.size W W'→Q .normal ⟨[u0,u1,u2,u3,u4,u5,.pointer (some ⟨D,0,none⟩),u7,u8,.int .i64 (i:Int),.pointer (some ⟨X,0,none⟩),.pointer (some ⟨V,0,none⟩),.bool ok,.bool (refI d i k nm st nx l),v14,v15,u16,u17,u18,u19,u20,u21,u22,u23,u24,u25,u26,u27,u28,u29,u30,u31,u32,u33,u34,u35,u36,u37,u38,u39,u40,u41,u42,u43,u44,u45,u46,u47,u48,u49,u50,u51,u52,u53,u54,u55,u56,u57,u58,u59,u60,u61,u62,u63,u64,u65,u66,u67,u68,u69,u70,u71,u72,u73,u74,u75,u76,u77,u78,u79,u80,u81,u82,u83,u84,u85,u86,u87,u88,u89,u90,u91,u92,u93,u94,u95,u96,u97,u98,u99,u100,u101,u102,u103,u104,u105,u106,u107,u108,u109,.int .i64 k,v111,v112,v113,v114,v115,v116,v117,v118,v119,v120,v121,v122,v123,v124,v125,v126,v127,v128,v129,v130,v131,v132,v133,v134,v135,v136,v137,v138,v139,v140,v141,v142,v143,v144,v145,v146,v147,v148,v149,v150,v151,v152,v153,v154,v155,v156,v157,v158,v159,v160,v161,v162,v163,v164,v165,v166,v167,v168,v169,v170,v171,v172,v173,v174,v175,v176,v177,v178,v179,v180,v181,v182,v183,v184,v185,v186,v187,v188,v189,v190,v191,v192,v193,v194,v195,v196,v197,v198,v199,v200,v201,v202,v203,v204,v205,u206,u207,u208,u209,u210,u211,u212,u213,u214,u215,u216,u217,u218,u219,u220,u221,u222,u223,u224,u225,u226,u227,u228,u229,u230,u231,u232,u233,u234,u235,u236,u237,u238,u239,u240,u241,u242,u243,u244,u245,u246,u247,u248,u249,u250,u251,u252,u253,u254,u255,u256,u257,u258,u259,u260,u261,u262,u263,u264,u265,u266,u267,u268,u269,u270,u271,u272,u273,u274,u275,u276,u277,u278,u279,u280,u281,u282,u283,u284,u285,u286,u287,u288,u289,u290,u291,u292,u293,u294,u295,u296,u297,u298,u299,u300].toArray,[]⟩ W')) :
    (blkOf Tryz.f15 8).wp Tryz.prog Q ⟨[u0,u1,u2,u3,u4,u5,.pointer (some ⟨D,0,none⟩),u7,u8,.int .i64 (i:Int),.pointer (some ⟨X,0,none⟩),.pointer (some ⟨V,0,none⟩),.bool ok,.bool false,u14,u15,u16,u17,u18,u19,u20,u21,u22,u23,u24,u25,u26,u27,u28,u29,u30,u31,u32,u33,u34,u35,u36,u37,u38,u39,u40,u41,u42,u43,u44,u45,u46,u47,u48,u49,u50,u51,u52,u53,u54,u55,u56,u57,u58,u59,u60,u61,u62,u63,u64,u65,u66,u67,u68,u69,u70,u71,u72,u73,u74,u75,u76,u77,u78,u79,u80,u81,u82,u83,u84,u85,u86,u87,u88,u89,u90,u91,u92,u93,u94,u95,u96,u97,u98,u99,u100,u101,u102,u103,u104,u105,u106,u107,u108,u109,.int .i64 k,u111,u112,u113,u114,u115,u116,u117,u118,u119,u120,u121,u122,u123,u124,u125,u126,u127,u128,u129,u130,u131,u132,u133,u134,u135,u136,u137,u138,u139,u140,u141,u142,u143,u144,u145,u146,u147,u148,u149,u150,u151,u152,u153,u154,u155,u156,u157,u158,u159,u160,u161,u162,u163,u164,u165,u166,u167,u168,u169,u170,u171,u172,u173,u174,u175,u176,u177,u178,u179,u180,u181,u182,u183,u184,u185,u186,u187,u188,u189,u190,u191,u192,u193,u194,u195,u196,u197,u198,u199,u200,u201,u202,u203,u204,u205,u206,u207,u208,u209,u210,u211,u212,u213,u214,u215,u216,u217,u218,u219,u220,u221,u222,u223,u224,u225,u226,u227,u228,u229,u230,u231,u232,u233,u234,u235,u236,u237,u238,u239,u240,u241,u242,u243,u244,u245,u246,u247,u248,u249,u250,u251,u252,u253,u254,u255,u256,u257,u258,u259,u260,u261,u262,u263,u264,u265,u266,u267,u268,u269,u270,u271,u272,u273,u274,u275,u276,u277,u278,u279,u280,u281,u282,u283,u284,u285,u286,u287,u288,u289,u290,u291,u292,u293,u294,u295,u296,u297,u298,u299,u300].toArray,[]⟩ W:=by
  simp only [blkOf,bodyOf,blk,Tryz.f15]
  simp only [Nat.reduceEqDiff,if_true,if_false]
  obtain ⟨d0,d1,d2,d3,d4,d5,d6,d7,d8⟩:=cells9 hX.out
  obtain ⟨f0,f1,f2,f3⟩:=cells4R hV.out
  have hR:refI d i k nm st nx l = ((s == 1 || ix != (i:Int)) || (k == 6 && dupB l)):=by unfold refI;rw [if_pos (by omega),hso.out,hix.out]
  rw [hR] at hK
  clear hR hso hix hok hD hDV hV h1 h2 h3
  subst hk
  cases h1:(s == 1) with
  | true =>
    rw [h1] at hK
    go_upto_block 9 with fail
    refine in9 (X:=X) (b0:=true) (l:=l) (o:=o) (n:=n) (cap:=cap) hln nl (T:=T) (W:=W) (hX:=hX) (hS:=hS) (hK:=hid ?_)
    intros
    rename_i W2 hb2
    dsimp only
    go_wp2_with fail
    exact hK.out _ _ _ _ _ _ _ _ _ _ _ _ _ _ _ _ _ _ _ _ _ _ _ _ _ _ _ _ _ _ _ _ _ _ _ _ _ _ _ _ _ _ _ _ _ _ _ _ _ _ _ _ _ _ _ _ _ _ _ _ _ _ _ _ _ _ _ _ _ _ _ _ _ _ _ _ _ _ _ _ _ _ _ _ _ _ _ _ _ _ _ _ _ _ _ _ _ _ hb2
  | false =>
    rw [h1] at hK
    cases h2:(ix != (i:Int)) with
    | true =>
      rw [h2] at hK
      go_upto_block 9 with fail
      refine in9 (X:=X) (b0:=true) (l:=l) (o:=o) (n:=n) (cap:=cap) hln nl (T:=T) (W:=W) (hX:=hX) (hS:=hS) (hK:=hid ?_)
      intros
      rename_i W2 hb2
      dsimp only
      go_wp2_with fail
      exact hK.out _ _ _ _ _ _ _ _ _ _ _ _ _ _ _ _ _ _ _ _ _ _ _ _ _ _ _ _ _ _ _ _ _ _ _ _ _ _ _ _ _ _ _ _ _ _ _ _ _ _ _ _ _ _ _ _ _ _ _ _ _ _ _ _ _ _ _ _ _ _ _ _ _ _ _ _ _ _ _ _ _ _ _ _ _ _ _ _ _ _ _ _ _ _ _ _ _ _ hb2
    | false =>
      rw [h2] at hK
      go_upto_block 9 with fail
      refine in9 (X:=X) (b0:=false) (l:=l) (o:=o) (n:=n) (cap:=cap) hln nl (T:=T) (W:=W) (hX:=hX) (hS:=hS) (hK:=hid ?_)
      intros
      rename_i W2 hb2
      dsimp only
      go_wp2_with fail
      exact hK.out _ _ _ _ _ _ _ _ _ _ _ _ _ _ _ _ _ _ _ _ _ _ _ _ _ _ _ _ _ _ _ _ _ _ _ _ _ _ _ _ _ _ _ _ _ _ _ _ _ _ _ _ _ _ _ _ _ _ _ _ _ _ _ _ _ _ _ _ _ _ _ _ _ _ _ _ _ _ _ _ _ _ _ _ _ _ _ _ _ _ _ _ _ _ _ _ _ _ hb2
set_option maxHeartbeats 16000000 in
set_option maxRecDepth 100000 in
theorem in8_3 {u0 u1 u2 u3 u4 u5 u7 u8 u14 u15 u16 u17 u18 u19 u20 u21 u22 u23 u24 u25 u26 u27 u28 u29 u30 u31 u32 u33 u34 u35 u36 u37 u38 u39 u40 u41 u42 u43 u44 u45 u46 u47 u48 u49 u50 u51 u52 u53 u54 u55 u56 u57 u58 u59 u60 u61 u62 u63 u64 u65 u66 u67 u68 u69 u70 u71 u72 u73 u74 u75 u76 u77 u78 u79 u80 u81 u82 u83 u84 u85 u86 u87 u88 u89 u90 u91 u92 u93 u94 u95 u96 u97 u98 u99 u100 u101 u102 u103 u104 u105 u106 u107 u108 u109 u111 u112 u113 u114 u115 u116 u117 u118 u119 u120 u121 u122 u123 u124 u125 u126 u127 u128 u129 u130 u131 u132 u133 u134 u135 u136 u137 u138 u139 u140 u141 u142 u143 u144 u145 u146 u147 u148 u149 u150 u151 u152 u153 u154 u155 u156 u157 u158 u159 u160 u161 u162 u163 u164 u165 u166 u167 u168 u169 u170 u171 u172 u173 u174 u175 u176 u177 u178 u179 u180 u181 u182 u183 u184 u185 u186 u187 u188 u189 u190 u191 u192 u193 u194 u195 u196 u197 u198 u199 u200 u201 u202 u203 u204 u205 u206 u207 u208 u209 u210 u211 u212 u213 u214 u215 u216 u217 u218 u219 u220 u221 u222 u223 u224 u225 u226 u227 u228 u229 u230 u231 u232 u233 u234 u235 u236 u237 u238 u239 u240 u241 u242 u243 u244 u245 u246 u247 u248 u249 u250 u251 u252 u253 u254 u255 u256 u257 u258 u259 u260 u261 u262 u263 u264 u265 u266 u267 u268 u269 u270 u271 u272 u273 u274 u275 u276 u277 u278 u279 u280 u281 u282 u283 u284 u285 u286 u287 u288 u289 u290 u291 u292 u293 u294 u295 u296 u297 u298 u299 u300:Value} (d:De) (D X V i:Nat) (k:Int) (hk:k = 3) (nm st nx:ByteArray) (l:List ByteArray) (o:Option Addr) (n cap:Nat) (hln:Hid (l.length = n)) (nl:(n:Int)≤1000) (i2 i3 i4 i8 j0 j2:Value) (T T2:TypeId) (s ix:Int) (ok:Bool) (hso:Hid (s = (lookV d nm).sort)) (hix:Hid (ix = (lookV d nm).index)) (hok:Hid (ok = okV d nm))
    (g0 g1 g2 g3 g4 g5 g6:Value) (h1:d.params.length≤600) (h2:d.items.length≤600) (h3:Hid (∀ x∈d.items,x.states.length≤1000))
    (Q:Exit→Act→World→Prop) (W:World) (hX:Hid (W.heap[X]? = some (.cells #[.int .i64 k,.string nm,i2,i3,i4,.slice o n cap,.string st,.string nx,i8] T (0,0)))) (hS:Hid (StrsAt W (.slice o n cap) l)) (hV:Hid (W.heap[V]? = some (.cells #[j0,.int .i64 s,j2,.int .i64 ix] T2 (0,0))))
    (hD:Hid (W.heap[D]? = some (.cells #[g0,g1,g2,g3,g4,g5,g6] 44 (0,0)))) (hDV:Hid (DeVal W (.agg #[g0,g1,g2,g3,g4,g5,g6]) d))
    (hK:Hid (∀ (v14 v15 v111 v112 v113 v114 v115 v116 v117 v118 v119 v120 v121 v122 v123 v124 v125 v126 v127 v128 v129 v130 v131 v132 v133 v134 v135 v136 v137 v138 v139 v140 v141 v142 v143 v144 v145 v146 v147 v148 v149 v150 v151 v152 v153 v154 v155 v156 v157 v158 v159 v160 v161 v162 v163 v164 v165 v166 v167 v168 v169 v170 v171 v172 v173 v174 v175 v176 v177 v178 v179 v180 v181 v182 v183 v184 v185 v186 v187 v188 v189 v190 v191 v192 v193 v194 v195 v196 v197 v198 v199 v200 v201 v202 v203 v204 v205:Value) W',Below W.heap.size W W'→Q .normal ⟨[u0,u1,u2,u3,u4,u5,.pointer (some ⟨D,0,none⟩),u7,u8,.int .i64 (i:Int),.pointer (some ⟨X,0,none⟩),.pointer (some ⟨V,0,none⟩),.bool ok,.bool (refI d i k nm st nx l),v14,v15,u16,u17,u18,u19,u20,u21,u22,u23,u24,u25,u26,u27,u28,u29,u30,u31,u32,u33,u34,u35,u36,u37,u38,u39,u40,u41,u42,u43,u44,u45,u46,u47,u48,u49,u50,u51,u52,u53,u54,u55,u56,u57,u58,u59,u60,u61,u62,u63,u64,u65,u66,u67,u68,u69,u70,u71,u72,u73,u74,u75,u76,u77,u78,u79,u80,u81,u82,u83,u84,u85,u86,u87,u88,u89,u90,u91,u92,u93,u94,u95,u96,u97,u98,u99,u100,u101,u102,u103,u104,u105,u106,u107,u108,u109,.int .i64 k,v111,v112,v113,v114,v115,v116,v117,v118,v119,v120,v121,v122,v123,v124,v125,v126,v127,v128,v129,v130,v131,v132,v133,v134,v135,v136,v137,v138,v139,v140,v141,v142,v143,v144,v145,v146,v147,v148,v149,v150,v151,v152,v153,v154,v155,v156,v157,v158,v159,v160,v161,v162,v163,v164,v165,v166,v167,v168,v169,v170,v171,v172,v173,v174,v175,v176,v177,v178,v179,v180,v181,v182,v183,v184,v185,v186,v187,v188,v189,v190,v191,v192,v193,v194,v195,v196,v197,v198,v199,v200,v201,v202,v203,v204,v205,u206,u207,u208,u209,u210,u211,u212,u213,u214,u215,u216,u217,u218,u219,u220,u221,u222,u223,u224,u225,u226,u227,u228,u229,u230,u231,u232,u233,u234,u235,u236,u237,u238,u239,u240,u241,u242,u243,u244,u245,u246,u247,u248,u249,u250,u251,u252,u253,u254,u255,u256,u257,u258,u259,u260,u261,u262,u263,u264,u265,u266,u267,u268,u269,u270,u271,u272,u273,u274,u275,u276,u277,u278,u279,u280,u281,u282,u283,u284,u285,u286,u287,u288,u289,u290,u291,u292,u293,u294,u295,u296,u297,u298,u299,u300].toArray,[]⟩ W')) :
    (blkOf Tryz.f15 8).wp Tryz.prog Q ⟨[u0,u1,u2,u3,u4,u5,.pointer (some ⟨D,0,none⟩),u7,u8,.int .i64 (i:Int),.pointer (some ⟨X,0,none⟩),.pointer (some ⟨V,0,none⟩),.bool ok,.bool false,u14,u15,u16,u17,u18,u19,u20,u21,u22,u23,u24,u25,u26,u27,u28,u29,u30,u31,u32,u33,u34,u35,u36,u37,u38,u39,u40,u41,u42,u43,u44,u45,u46,u47,u48,u49,u50,u51,u52,u53,u54,u55,u56,u57,u58,u59,u60,u61,u62,u63,u64,u65,u66,u67,u68,u69,u70,u71,u72,u73,u74,u75,u76,u77,u78,u79,u80,u81,u82,u83,u84,u85,u86,u87,u88,u89,u90,u91,u92,u93,u94,u95,u96,u97,u98,u99,u100,u101,u102,u103,u104,u105,u106,u107,u108,u109,.int .i64 k,u111,u112,u113,u114,u115,u116,u117,u118,u119,u120,u121,u122,u123,u124,u125,u126,u127,u128,u129,u130,u131,u132,u133,u134,u135,u136,u137,u138,u139,u140,u141,u142,u143,u144,u145,u146,u147,u148,u149,u150,u151,u152,u153,u154,u155,u156,u157,u158,u159,u160,u161,u162,u163,u164,u165,u166,u167,u168,u169,u170,u171,u172,u173,u174,u175,u176,u177,u178,u179,u180,u181,u182,u183,u184,u185,u186,u187,u188,u189,u190,u191,u192,u193,u194,u195,u196,u197,u198,u199,u200,u201,u202,u203,u204,u205,u206,u207,u208,u209,u210,u211,u212,u213,u214,u215,u216,u217,u218,u219,u220,u221,u222,u223,u224,u225,u226,u227,u228,u229,u230,u231,u232,u233,u234,u235,u236,u237,u238,u239,u240,u241,u242,u243,u244,u245,u246,u247,u248,u249,u250,u251,u252,u253,u254,u255,u256,u257,u258,u259,u260,u261,u262,u263,u264,u265,u266,u267,u268,u269,u270,u271,u272,u273,u274,u275,u276,u277,u278,u279,u280,u281,u282,u283,u284,u285,u286,u287,u288,u289,u290,u291,u292,u293,u294,u295,u296,u297,u298,u299,u300].toArray,[]⟩ W:=by
  simp only [blkOf,bodyOf,blk,Tryz.f15]
  simp only [Nat.reduceEqDiff,if_true,if_false]
  obtain ⟨d0,d1,d2,d3,d4,d5,d6,d7,d8⟩:=cells9 hX.out
  obtain ⟨f0,f1,f2,f3⟩:=cells4R hV.out
  have hR:refI d i k nm st nx l = (!ok || s != 3):=by unfold refI;rw [if_neg (by omega),if_pos (by omega),hso.out,hok.out]
  rw [hR] at hK
  clear hR hso hix hok hD hDV hV hX hS h1 h2 h3
  subst hk
  cases ok with
  | true =>
    cases hs:(s != 3) with
    | true =>
      rw [hs] at hK
      go_wp2_with fail
      exact hK.out _ _ _ _ _ _ _ _ _ _ _ _ _ _ _ _ _ _ _ _ _ _ _ _ _ _ _ _ _ _ _ _ _ _ _ _ _ _ _ _ _ _ _ _ _ _ _ _ _ _ _ _ _ _ _ _ _ _ _ _ _ _ _ _ _ _ _ _ _ _ _ _ _ _ _ _ _ _ _ _ _ _ _ _ _ _ _ _ _ _ _ _ _ _ _ _ _ _ (Below.refl _ _)
    | false =>
      rw [hs] at hK
      go_wp2_with fail
      exact hK.out _ _ _ _ _ _ _ _ _ _ _ _ _ _ _ _ _ _ _ _ _ _ _ _ _ _ _ _ _ _ _ _ _ _ _ _ _ _ _ _ _ _ _ _ _ _ _ _ _ _ _ _ _ _ _ _ _ _ _ _ _ _ _ _ _ _ _ _ _ _ _ _ _ _ _ _ _ _ _ _ _ _ _ _ _ _ _ _ _ _ _ _ _ _ _ _ _ _ (Below.refl _ _)
  | false =>
    go_wp2_with fail
    exact hK.out _ _ _ _ _ _ _ _ _ _ _ _ _ _ _ _ _ _ _ _ _ _ _ _ _ _ _ _ _ _ _ _ _ _ _ _ _ _ _ _ _ _ _ _ _ _ _ _ _ _ _ _ _ _ _ _ _ _ _ _ _ _ _ _ _ _ _ _ _ _ _ _ _ _ _ _ _ _ _ _ _ _ _ _ _ _ _ _ _ _ _ _ _ _ _ _ _ _ (Below.refl _ _)
set_option maxHeartbeats 16000000 in
set_option maxRecDepth 100000 in
theorem in8_5 {u0 u1 u2 u3 u4 u5 u7 u8 u14 u15 u16 u17 u18 u19 u20 u21 u22 u23 u24 u25 u26 u27 u28 u29 u30 u31 u32 u33 u34 u35 u36 u37 u38 u39 u40 u41 u42 u43 u44 u45 u46 u47 u48 u49 u50 u51 u52 u53 u54 u55 u56 u57 u58 u59 u60 u61 u62 u63 u64 u65 u66 u67 u68 u69 u70 u71 u72 u73 u74 u75 u76 u77 u78 u79 u80 u81 u82 u83 u84 u85 u86 u87 u88 u89 u90 u91 u92 u93 u94 u95 u96 u97 u98 u99 u100 u101 u102 u103 u104 u105 u106 u107 u108 u109 u111 u112 u113 u114 u115 u116 u117 u118 u119 u120 u121 u122 u123 u124 u125 u126 u127 u128 u129 u130 u131 u132 u133 u134 u135 u136 u137 u138 u139 u140 u141 u142 u143 u144 u145 u146 u147 u148 u149 u150 u151 u152 u153 u154 u155 u156 u157 u158 u159 u160 u161 u162 u163 u164 u165 u166 u167 u168 u169 u170 u171 u172 u173 u174 u175 u176 u177 u178 u179 u180 u181 u182 u183 u184 u185 u186 u187 u188 u189 u190 u191 u192 u193 u194 u195 u196 u197 u198 u199 u200 u201 u202 u203 u204 u205 u206 u207 u208 u209 u210 u211 u212 u213 u214 u215 u216 u217 u218 u219 u220 u221 u222 u223 u224 u225 u226 u227 u228 u229 u230 u231 u232 u233 u234 u235 u236 u237 u238 u239 u240 u241 u242 u243 u244 u245 u246 u247 u248 u249 u250 u251 u252 u253 u254 u255 u256 u257 u258 u259 u260 u261 u262 u263 u264 u265 u266 u267 u268 u269 u270 u271 u272 u273 u274 u275 u276 u277 u278 u279 u280 u281 u282 u283 u284 u285 u286 u287 u288 u289 u290 u291 u292 u293 u294 u295 u296 u297 u298 u299 u300:Value} (d:De) (D X V i:Nat) (k:Int) (hk:k = 5) (nm st nx:ByteArray) (l:List ByteArray) (o:Option Addr) (n cap:Nat) (hln:Hid (l.length = n)) (nl:(n:Int)≤1000) (i2 i3 i4 i8 j0 j2:Value) (T T2:TypeId) (s ix:Int) (ok:Bool) (hso:Hid (s = (lookV d nm).sort)) (hix:Hid (ix = (lookV d nm).index)) (hok:Hid (ok = okV d nm))
    (g0 g1 g2 g3 g4 g5 g6:Value) (h1:d.params.length≤600) (h2:d.items.length≤600) (h3:Hid (∀ x∈d.items,x.states.length≤1000))
    (Q:Exit→Act→World→Prop) (W:World) (hX:Hid (W.heap[X]? = some (.cells #[.int .i64 k,.string nm,i2,i3,i4,.slice o n cap,.string st,.string nx,i8] T (0,0)))) (hS:Hid (StrsAt W (.slice o n cap) l)) (hV:Hid (W.heap[V]? = some (.cells #[j0,.int .i64 s,j2,.int .i64 ix] T2 (0,0))))
    (hD:Hid (W.heap[D]? = some (.cells #[g0,g1,g2,g3,g4,g5,g6] 44 (0,0)))) (hDV:Hid (DeVal W (.agg #[g0,g1,g2,g3,g4,g5,g6]) d))
    (hK:Hid (∀ (v14 v15 v111 v112 v113 v114 v115 v116 v117 v118 v119 v120 v121 v122 v123 v124 v125 v126 v127 v128 v129 v130 v131 v132 v133 v134 v135 v136 v137 v138 v139 v140 v141 v142 v143 v144 v145 v146 v147 v148 v149 v150 v151 v152 v153 v154 v155 v156 v157 v158 v159 v160 v161 v162 v163 v164 v165 v166 v167 v168 v169 v170 v171 v172 v173 v174 v175 v176 v177 v178 v179 v180 v181 v182 v183 v184 v185 v186 v187 v188 v189 v190 v191 v192 v193 v194 v195 v196 v197 v198 v199 v200 v201 v202 v203 v204 v205:Value) W',Below W.heap.size W W'→Q .normal ⟨[u0,u1,u2,u3,u4,u5,.pointer (some ⟨D,0,none⟩),u7,u8,.int .i64 (i:Int),.pointer (some ⟨X,0,none⟩),.pointer (some ⟨V,0,none⟩),.bool ok,.bool (refI d i k nm st nx l),v14,v15,u16,u17,u18,u19,u20,u21,u22,u23,u24,u25,u26,u27,u28,u29,u30,u31,u32,u33,u34,u35,u36,u37,u38,u39,u40,u41,u42,u43,u44,u45,u46,u47,u48,u49,u50,u51,u52,u53,u54,u55,u56,u57,u58,u59,u60,u61,u62,u63,u64,u65,u66,u67,u68,u69,u70,u71,u72,u73,u74,u75,u76,u77,u78,u79,u80,u81,u82,u83,u84,u85,u86,u87,u88,u89,u90,u91,u92,u93,u94,u95,u96,u97,u98,u99,u100,u101,u102,u103,u104,u105,u106,u107,u108,u109,.int .i64 k,v111,v112,v113,v114,v115,v116,v117,v118,v119,v120,v121,v122,v123,v124,v125,v126,v127,v128,v129,v130,v131,v132,v133,v134,v135,v136,v137,v138,v139,v140,v141,v142,v143,v144,v145,v146,v147,v148,v149,v150,v151,v152,v153,v154,v155,v156,v157,v158,v159,v160,v161,v162,v163,v164,v165,v166,v167,v168,v169,v170,v171,v172,v173,v174,v175,v176,v177,v178,v179,v180,v181,v182,v183,v184,v185,v186,v187,v188,v189,v190,v191,v192,v193,v194,v195,v196,v197,v198,v199,v200,v201,v202,v203,v204,v205,u206,u207,u208,u209,u210,u211,u212,u213,u214,u215,u216,u217,u218,u219,u220,u221,u222,u223,u224,u225,u226,u227,u228,u229,u230,u231,u232,u233,u234,u235,u236,u237,u238,u239,u240,u241,u242,u243,u244,u245,u246,u247,u248,u249,u250,u251,u252,u253,u254,u255,u256,u257,u258,u259,u260,u261,u262,u263,u264,u265,u266,u267,u268,u269,u270,u271,u272,u273,u274,u275,u276,u277,u278,u279,u280,u281,u282,u283,u284,u285,u286,u287,u288,u289,u290,u291,u292,u293,u294,u295,u296,u297,u298,u299,u300].toArray,[]⟩ W')) :
    (blkOf Tryz.f15 8).wp Tryz.prog Q ⟨[u0,u1,u2,u3,u4,u5,.pointer (some ⟨D,0,none⟩),u7,u8,.int .i64 (i:Int),.pointer (some ⟨X,0,none⟩),.pointer (some ⟨V,0,none⟩),.bool ok,.bool false,u14,u15,u16,u17,u18,u19,u20,u21,u22,u23,u24,u25,u26,u27,u28,u29,u30,u31,u32,u33,u34,u35,u36,u37,u38,u39,u40,u41,u42,u43,u44,u45,u46,u47,u48,u49,u50,u51,u52,u53,u54,u55,u56,u57,u58,u59,u60,u61,u62,u63,u64,u65,u66,u67,u68,u69,u70,u71,u72,u73,u74,u75,u76,u77,u78,u79,u80,u81,u82,u83,u84,u85,u86,u87,u88,u89,u90,u91,u92,u93,u94,u95,u96,u97,u98,u99,u100,u101,u102,u103,u104,u105,u106,u107,u108,u109,.int .i64 k,u111,u112,u113,u114,u115,u116,u117,u118,u119,u120,u121,u122,u123,u124,u125,u126,u127,u128,u129,u130,u131,u132,u133,u134,u135,u136,u137,u138,u139,u140,u141,u142,u143,u144,u145,u146,u147,u148,u149,u150,u151,u152,u153,u154,u155,u156,u157,u158,u159,u160,u161,u162,u163,u164,u165,u166,u167,u168,u169,u170,u171,u172,u173,u174,u175,u176,u177,u178,u179,u180,u181,u182,u183,u184,u185,u186,u187,u188,u189,u190,u191,u192,u193,u194,u195,u196,u197,u198,u199,u200,u201,u202,u203,u204,u205,u206,u207,u208,u209,u210,u211,u212,u213,u214,u215,u216,u217,u218,u219,u220,u221,u222,u223,u224,u225,u226,u227,u228,u229,u230,u231,u232,u233,u234,u235,u236,u237,u238,u239,u240,u241,u242,u243,u244,u245,u246,u247,u248,u249,u250,u251,u252,u253,u254,u255,u256,u257,u258,u259,u260,u261,u262,u263,u264,u265,u266,u267,u268,u269,u270,u271,u272,u273,u274,u275,u276,u277,u278,u279,u280,u281,u282,u283,u284,u285,u286,u287,u288,u289,u290,u291,u292,u293,u294,u295,u296,u297,u298,u299,u300].toArray,[]⟩ W:=by
  simp only [blkOf,bodyOf,blk,Tryz.f15]
  simp only [Nat.reduceEqDiff,if_true,if_false]
  obtain ⟨d0,d1,d2,d3,d4,d5,d6,d7,d8⟩:=cells9 hX.out
  obtain ⟨f0,f1,f2,f3⟩:=cells4R hV.out
  have hR:refI d i k nm st nx l = (!ok || s != 4):=by unfold refI;rw [if_neg (by omega),if_neg (by omega),if_pos (by omega),hso.out,hok.out]
  rw [hR] at hK
  clear hR hso hix hok hD hDV hV hX hS h1 h2 h3
  subst hk
  cases ok with
  | true =>
    cases hs:(s != 4) with
    | true =>
      rw [hs] at hK
      go_wp2_with fail
      exact hK.out _ _ _ _ _ _ _ _ _ _ _ _ _ _ _ _ _ _ _ _ _ _ _ _ _ _ _ _ _ _ _ _ _ _ _ _ _ _ _ _ _ _ _ _ _ _ _ _ _ _ _ _ _ _ _ _ _ _ _ _ _ _ _ _ _ _ _ _ _ _ _ _ _ _ _ _ _ _ _ _ _ _ _ _ _ _ _ _ _ _ _ _ _ _ _ _ _ _ (Below.refl _ _)
    | false =>
      rw [hs] at hK
      go_wp2_with fail
      exact hK.out _ _ _ _ _ _ _ _ _ _ _ _ _ _ _ _ _ _ _ _ _ _ _ _ _ _ _ _ _ _ _ _ _ _ _ _ _ _ _ _ _ _ _ _ _ _ _ _ _ _ _ _ _ _ _ _ _ _ _ _ _ _ _ _ _ _ _ _ _ _ _ _ _ _ _ _ _ _ _ _ _ _ _ _ _ _ _ _ _ _ _ _ _ _ _ _ _ _ (Below.refl _ _)
  | false =>
    go_wp2_with fail
    exact hK.out _ _ _ _ _ _ _ _ _ _ _ _ _ _ _ _ _ _ _ _ _ _ _ _ _ _ _ _ _ _ _ _ _ _ _ _ _ _ _ _ _ _ _ _ _ _ _ _ _ _ _ _ _ _ _ _ _ _ _ _ _ _ _ _ _ _ _ _ _ _ _ _ _ _ _ _ _ _ _ _ _ _ _ _ _ _ _ _ _ _ _ _ _ _ _ _ _ _ (Below.refl _ _)
set_option maxHeartbeats 16000000 in
set_option maxRecDepth 100000 in
theorem in8_8 {u0 u1 u2 u3 u4 u5 u7 u8 u14 u15 u16 u17 u18 u19 u20 u21 u22 u23 u24 u25 u26 u27 u28 u29 u30 u31 u32 u33 u34 u35 u36 u37 u38 u39 u40 u41 u42 u43 u44 u45 u46 u47 u48 u49 u50 u51 u52 u53 u54 u55 u56 u57 u58 u59 u60 u61 u62 u63 u64 u65 u66 u67 u68 u69 u70 u71 u72 u73 u74 u75 u76 u77 u78 u79 u80 u81 u82 u83 u84 u85 u86 u87 u88 u89 u90 u91 u92 u93 u94 u95 u96 u97 u98 u99 u100 u101 u102 u103 u104 u105 u106 u107 u108 u109 u111 u112 u113 u114 u115 u116 u117 u118 u119 u120 u121 u122 u123 u124 u125 u126 u127 u128 u129 u130 u131 u132 u133 u134 u135 u136 u137 u138 u139 u140 u141 u142 u143 u144 u145 u146 u147 u148 u149 u150 u151 u152 u153 u154 u155 u156 u157 u158 u159 u160 u161 u162 u163 u164 u165 u166 u167 u168 u169 u170 u171 u172 u173 u174 u175 u176 u177 u178 u179 u180 u181 u182 u183 u184 u185 u186 u187 u188 u189 u190 u191 u192 u193 u194 u195 u196 u197 u198 u199 u200 u201 u202 u203 u204 u205 u206 u207 u208 u209 u210 u211 u212 u213 u214 u215 u216 u217 u218 u219 u220 u221 u222 u223 u224 u225 u226 u227 u228 u229 u230 u231 u232 u233 u234 u235 u236 u237 u238 u239 u240 u241 u242 u243 u244 u245 u246 u247 u248 u249 u250 u251 u252 u253 u254 u255 u256 u257 u258 u259 u260 u261 u262 u263 u264 u265 u266 u267 u268 u269 u270 u271 u272 u273 u274 u275 u276 u277 u278 u279 u280 u281 u282 u283 u284 u285 u286 u287 u288 u289 u290 u291 u292 u293 u294 u295 u296 u297 u298 u299 u300:Value} (d:De) (D X V i:Nat) (k:Int) (hk:k = 8) (nm st nx:ByteArray) (l:List ByteArray) (o:Option Addr) (n cap:Nat) (hln:Hid (l.length = n)) (nl:(n:Int)≤1000) (i2 i3 i4 i8 j0 j2:Value) (T T2:TypeId) (s ix:Int) (ok:Bool) (hso:Hid (s = (lookV d nm).sort)) (hix:Hid (ix = (lookV d nm).index)) (hok:Hid (ok = okV d nm))
    (g0 g1 g2 g3 g4 g5 g6:Value) (h1:d.params.length≤600) (h2:d.items.length≤600) (h3:Hid (∀ x∈d.items,x.states.length≤1000))
    (Q:Exit→Act→World→Prop) (W:World) (hX:Hid (W.heap[X]? = some (.cells #[.int .i64 k,.string nm,i2,i3,i4,.slice o n cap,.string st,.string nx,i8] T (0,0)))) (hS:Hid (StrsAt W (.slice o n cap) l)) (hV:Hid (W.heap[V]? = some (.cells #[j0,.int .i64 s,j2,.int .i64 ix] T2 (0,0))))
    (hD:Hid (W.heap[D]? = some (.cells #[g0,g1,g2,g3,g4,g5,g6] 44 (0,0)))) (hDV:Hid (DeVal W (.agg #[g0,g1,g2,g3,g4,g5,g6]) d))
    (hK:Hid (∀ (v14 v15 v111 v112 v113 v114 v115 v116 v117 v118 v119 v120 v121 v122 v123 v124 v125 v126 v127 v128 v129 v130 v131 v132 v133 v134 v135 v136 v137 v138 v139 v140 v141 v142 v143 v144 v145 v146 v147 v148 v149 v150 v151 v152 v153 v154 v155 v156 v157 v158 v159 v160 v161 v162 v163 v164 v165 v166 v167 v168 v169 v170 v171 v172 v173 v174 v175 v176 v177 v178 v179 v180 v181 v182 v183 v184 v185 v186 v187 v188 v189 v190 v191 v192 v193 v194 v195 v196 v197 v198 v199 v200 v201 v202 v203 v204 v205:Value) W',Below W.heap.size W W'→Q .normal ⟨[u0,u1,u2,u3,u4,u5,.pointer (some ⟨D,0,none⟩),u7,u8,.int .i64 (i:Int),.pointer (some ⟨X,0,none⟩),.pointer (some ⟨V,0,none⟩),.bool ok,.bool (refI d i k nm st nx l),v14,v15,u16,u17,u18,u19,u20,u21,u22,u23,u24,u25,u26,u27,u28,u29,u30,u31,u32,u33,u34,u35,u36,u37,u38,u39,u40,u41,u42,u43,u44,u45,u46,u47,u48,u49,u50,u51,u52,u53,u54,u55,u56,u57,u58,u59,u60,u61,u62,u63,u64,u65,u66,u67,u68,u69,u70,u71,u72,u73,u74,u75,u76,u77,u78,u79,u80,u81,u82,u83,u84,u85,u86,u87,u88,u89,u90,u91,u92,u93,u94,u95,u96,u97,u98,u99,u100,u101,u102,u103,u104,u105,u106,u107,u108,u109,.int .i64 k,v111,v112,v113,v114,v115,v116,v117,v118,v119,v120,v121,v122,v123,v124,v125,v126,v127,v128,v129,v130,v131,v132,v133,v134,v135,v136,v137,v138,v139,v140,v141,v142,v143,v144,v145,v146,v147,v148,v149,v150,v151,v152,v153,v154,v155,v156,v157,v158,v159,v160,v161,v162,v163,v164,v165,v166,v167,v168,v169,v170,v171,v172,v173,v174,v175,v176,v177,v178,v179,v180,v181,v182,v183,v184,v185,v186,v187,v188,v189,v190,v191,v192,v193,v194,v195,v196,v197,v198,v199,v200,v201,v202,v203,v204,v205,u206,u207,u208,u209,u210,u211,u212,u213,u214,u215,u216,u217,u218,u219,u220,u221,u222,u223,u224,u225,u226,u227,u228,u229,u230,u231,u232,u233,u234,u235,u236,u237,u238,u239,u240,u241,u242,u243,u244,u245,u246,u247,u248,u249,u250,u251,u252,u253,u254,u255,u256,u257,u258,u259,u260,u261,u262,u263,u264,u265,u266,u267,u268,u269,u270,u271,u272,u273,u274,u275,u276,u277,u278,u279,u280,u281,u282,u283,u284,u285,u286,u287,u288,u289,u290,u291,u292,u293,u294,u295,u296,u297,u298,u299,u300].toArray,[]⟩ W')) :
    (blkOf Tryz.f15 8).wp Tryz.prog Q ⟨[u0,u1,u2,u3,u4,u5,.pointer (some ⟨D,0,none⟩),u7,u8,.int .i64 (i:Int),.pointer (some ⟨X,0,none⟩),.pointer (some ⟨V,0,none⟩),.bool ok,.bool false,u14,u15,u16,u17,u18,u19,u20,u21,u22,u23,u24,u25,u26,u27,u28,u29,u30,u31,u32,u33,u34,u35,u36,u37,u38,u39,u40,u41,u42,u43,u44,u45,u46,u47,u48,u49,u50,u51,u52,u53,u54,u55,u56,u57,u58,u59,u60,u61,u62,u63,u64,u65,u66,u67,u68,u69,u70,u71,u72,u73,u74,u75,u76,u77,u78,u79,u80,u81,u82,u83,u84,u85,u86,u87,u88,u89,u90,u91,u92,u93,u94,u95,u96,u97,u98,u99,u100,u101,u102,u103,u104,u105,u106,u107,u108,u109,.int .i64 k,u111,u112,u113,u114,u115,u116,u117,u118,u119,u120,u121,u122,u123,u124,u125,u126,u127,u128,u129,u130,u131,u132,u133,u134,u135,u136,u137,u138,u139,u140,u141,u142,u143,u144,u145,u146,u147,u148,u149,u150,u151,u152,u153,u154,u155,u156,u157,u158,u159,u160,u161,u162,u163,u164,u165,u166,u167,u168,u169,u170,u171,u172,u173,u174,u175,u176,u177,u178,u179,u180,u181,u182,u183,u184,u185,u186,u187,u188,u189,u190,u191,u192,u193,u194,u195,u196,u197,u198,u199,u200,u201,u202,u203,u204,u205,u206,u207,u208,u209,u210,u211,u212,u213,u214,u215,u216,u217,u218,u219,u220,u221,u222,u223,u224,u225,u226,u227,u228,u229,u230,u231,u232,u233,u234,u235,u236,u237,u238,u239,u240,u241,u242,u243,u244,u245,u246,u247,u248,u249,u250,u251,u252,u253,u254,u255,u256,u257,u258,u259,u260,u261,u262,u263,u264,u265,u266,u267,u268,u269,u270,u271,u272,u273,u274,u275,u276,u277,u278,u279,u280,u281,u282,u283,u284,u285,u286,u287,u288,u289,u290,u291,u292,u293,u294,u295,u296,u297,u298,u299,u300].toArray,[]⟩ W:=by
  simp only [blkOf,bodyOf,blk,Tryz.f15]
  simp only [Nat.reduceEqDiff,if_true,if_false]
  obtain ⟨d0,d1,d2,d3,d4,d5,d6,d7,d8⟩:=cells9 hX.out
  obtain ⟨f0,f1,f2,f3⟩:=cells4R hV.out
  have hR:refI d i k nm st nx l = ((!ok || s == 1) || s == 5):=by unfold refI;rw [if_neg (by omega),if_neg (by omega),if_neg (by omega),if_neg (by omega),if_pos (by omega),hso.out,hok.out]
  rw [hR] at hK
  clear hR hso hix hok hD hDV hV hX hS h1 h2 h3
  subst hk
  cases ok with
  | true =>
    cases hs:(s == 1) with
    | true =>
      rw [hs] at hK
      go_wp2_with fail
      exact hK.out _ _ _ _ _ _ _ _ _ _ _ _ _ _ _ _ _ _ _ _ _ _ _ _ _ _ _ _ _ _ _ _ _ _ _ _ _ _ _ _ _ _ _ _ _ _ _ _ _ _ _ _ _ _ _ _ _ _ _ _ _ _ _ _ _ _ _ _ _ _ _ _ _ _ _ _ _ _ _ _ _ _ _ _ _ _ _ _ _ _ _ _ _ _ _ _ _ _ (Below.refl _ _)
    | false =>
      rw [hs] at hK
      cases hs5:(s == 5) with
      | true =>
        rw [hs5] at hK
        go_wp2_with fail
        exact hK.out _ _ _ _ _ _ _ _ _ _ _ _ _ _ _ _ _ _ _ _ _ _ _ _ _ _ _ _ _ _ _ _ _ _ _ _ _ _ _ _ _ _ _ _ _ _ _ _ _ _ _ _ _ _ _ _ _ _ _ _ _ _ _ _ _ _ _ _ _ _ _ _ _ _ _ _ _ _ _ _ _ _ _ _ _ _ _ _ _ _ _ _ _ _ _ _ _ _ (Below.refl _ _)
      | false =>
        rw [hs5] at hK
        go_wp2_with fail
        exact hK.out _ _ _ _ _ _ _ _ _ _ _ _ _ _ _ _ _ _ _ _ _ _ _ _ _ _ _ _ _ _ _ _ _ _ _ _ _ _ _ _ _ _ _ _ _ _ _ _ _ _ _ _ _ _ _ _ _ _ _ _ _ _ _ _ _ _ _ _ _ _ _ _ _ _ _ _ _ _ _ _ _ _ _ _ _ _ _ _ _ _ _ _ _ _ _ _ _ _ (Below.refl _ _)
  | false =>
    go_wp2_with fail
    exact hK.out _ _ _ _ _ _ _ _ _ _ _ _ _ _ _ _ _ _ _ _ _ _ _ _ _ _ _ _ _ _ _ _ _ _ _ _ _ _ _ _ _ _ _ _ _ _ _ _ _ _ _ _ _ _ _ _ _ _ _ _ _ _ _ _ _ _ _ _ _ _ _ _ _ _ _ _ _ _ _ _ _ _ _ _ _ _ _ _ _ _ _ _ _ _ _ _ _ _ (Below.refl _ _)
set_option maxHeartbeats 16000000 in
set_option maxRecDepth 100000 in
theorem in8_7 {u0 u1 u2 u3 u4 u5 u7 u8 u14 u15 u16 u17 u18 u19 u20 u21 u22 u23 u24 u25 u26 u27 u28 u29 u30 u31 u32 u33 u34 u35 u36 u37 u38 u39 u40 u41 u42 u43 u44 u45 u46 u47 u48 u49 u50 u51 u52 u53 u54 u55 u56 u57 u58 u59 u60 u61 u62 u63 u64 u65 u66 u67 u68 u69 u70 u71 u72 u73 u74 u75 u76 u77 u78 u79 u80 u81 u82 u83 u84 u85 u86 u87 u88 u89 u90 u91 u92 u93 u94 u95 u96 u97 u98 u99 u100 u101 u102 u103 u104 u105 u106 u107 u108 u109 u111 u112 u113 u114 u115 u116 u117 u118 u119 u120 u121 u122 u123 u124 u125 u126 u127 u128 u129 u130 u131 u132 u133 u134 u135 u136 u137 u138 u139 u140 u141 u142 u143 u144 u145 u146 u147 u148 u149 u150 u151 u152 u153 u154 u155 u156 u157 u158 u159 u160 u161 u162 u163 u164 u165 u166 u167 u168 u169 u170 u171 u172 u173 u174 u175 u176 u177 u178 u179 u180 u181 u182 u183 u184 u185 u186 u187 u188 u189 u190 u191 u192 u193 u194 u195 u196 u197 u198 u199 u200 u201 u202 u203 u204 u205 u206 u207 u208 u209 u210 u211 u212 u213 u214 u215 u216 u217 u218 u219 u220 u221 u222 u223 u224 u225 u226 u227 u228 u229 u230 u231 u232 u233 u234 u235 u236 u237 u238 u239 u240 u241 u242 u243 u244 u245 u246 u247 u248 u249 u250 u251 u252 u253 u254 u255 u256 u257 u258 u259 u260 u261 u262 u263 u264 u265 u266 u267 u268 u269 u270 u271 u272 u273 u274 u275 u276 u277 u278 u279 u280 u281 u282 u283 u284 u285 u286 u287 u288 u289 u290 u291 u292 u293 u294 u295 u296 u297 u298 u299 u300:Value} (d:De) (D X V i:Nat) (k:Int) (hk:k = 7) (nm st nx:ByteArray) (l:List ByteArray) (o:Option Addr) (n cap:Nat) (hln:Hid (l.length = n)) (nl:(n:Int)≤1000) (i2 i3 i4 i8 j0 j2:Value) (T T2:TypeId) (s ix:Int) (ok:Bool) (hso:Hid (s = (lookV d nm).sort)) (hix:Hid (ix = (lookV d nm).index)) (hok:Hid (ok = okV d nm))
    (g0 g1 g2 g3 g4 g5 g6:Value) (h1:d.params.length≤600) (h2:d.items.length≤600) (h3:Hid (∀ x∈d.items,x.states.length≤1000))
    (Q:Exit→Act→World→Prop) (W:World) (hX:Hid (W.heap[X]? = some (.cells #[.int .i64 k,.string nm,i2,i3,i4,.slice o n cap,.string st,.string nx,i8] T (0,0)))) (hS:Hid (StrsAt W (.slice o n cap) l)) (hV:Hid (W.heap[V]? = some (.cells #[j0,.int .i64 s,j2,.int .i64 ix] T2 (0,0))))
    (hD:Hid (W.heap[D]? = some (.cells #[g0,g1,g2,g3,g4,g5,g6] 44 (0,0)))) (hDV:Hid (DeVal W (.agg #[g0,g1,g2,g3,g4,g5,g6]) d))
    (hK:Hid (∀ (v14 v15 v111 v112 v113 v114 v115 v116 v117 v118 v119 v120 v121 v122 v123 v124 v125 v126 v127 v128 v129 v130 v131 v132 v133 v134 v135 v136 v137 v138 v139 v140 v141 v142 v143 v144 v145 v146 v147 v148 v149 v150 v151 v152 v153 v154 v155 v156 v157 v158 v159 v160 v161 v162 v163 v164 v165 v166 v167 v168 v169 v170 v171 v172 v173 v174 v175 v176 v177 v178 v179 v180 v181 v182 v183 v184 v185 v186 v187 v188 v189 v190 v191 v192 v193 v194 v195 v196 v197 v198 v199 v200 v201 v202 v203 v204 v205:Value) W',Below W.heap.size W W'→Q .normal ⟨[u0,u1,u2,u3,u4,u5,.pointer (some ⟨D,0,none⟩),u7,u8,.int .i64 (i:Int),.pointer (some ⟨X,0,none⟩),.pointer (some ⟨V,0,none⟩),.bool ok,.bool (refI d i k nm st nx l),v14,v15,u16,u17,u18,u19,u20,u21,u22,u23,u24,u25,u26,u27,u28,u29,u30,u31,u32,u33,u34,u35,u36,u37,u38,u39,u40,u41,u42,u43,u44,u45,u46,u47,u48,u49,u50,u51,u52,u53,u54,u55,u56,u57,u58,u59,u60,u61,u62,u63,u64,u65,u66,u67,u68,u69,u70,u71,u72,u73,u74,u75,u76,u77,u78,u79,u80,u81,u82,u83,u84,u85,u86,u87,u88,u89,u90,u91,u92,u93,u94,u95,u96,u97,u98,u99,u100,u101,u102,u103,u104,u105,u106,u107,u108,u109,.int .i64 k,v111,v112,v113,v114,v115,v116,v117,v118,v119,v120,v121,v122,v123,v124,v125,v126,v127,v128,v129,v130,v131,v132,v133,v134,v135,v136,v137,v138,v139,v140,v141,v142,v143,v144,v145,v146,v147,v148,v149,v150,v151,v152,v153,v154,v155,v156,v157,v158,v159,v160,v161,v162,v163,v164,v165,v166,v167,v168,v169,v170,v171,v172,v173,v174,v175,v176,v177,v178,v179,v180,v181,v182,v183,v184,v185,v186,v187,v188,v189,v190,v191,v192,v193,v194,v195,v196,v197,v198,v199,v200,v201,v202,v203,v204,v205,u206,u207,u208,u209,u210,u211,u212,u213,u214,u215,u216,u217,u218,u219,u220,u221,u222,u223,u224,u225,u226,u227,u228,u229,u230,u231,u232,u233,u234,u235,u236,u237,u238,u239,u240,u241,u242,u243,u244,u245,u246,u247,u248,u249,u250,u251,u252,u253,u254,u255,u256,u257,u258,u259,u260,u261,u262,u263,u264,u265,u266,u267,u268,u269,u270,u271,u272,u273,u274,u275,u276,u277,u278,u279,u280,u281,u282,u283,u284,u285,u286,u287,u288,u289,u290,u291,u292,u293,u294,u295,u296,u297,u298,u299,u300].toArray,[]⟩ W')) :
    (blkOf Tryz.f15 8).wp Tryz.prog Q ⟨[u0,u1,u2,u3,u4,u5,.pointer (some ⟨D,0,none⟩),u7,u8,.int .i64 (i:Int),.pointer (some ⟨X,0,none⟩),.pointer (some ⟨V,0,none⟩),.bool ok,.bool false,u14,u15,u16,u17,u18,u19,u20,u21,u22,u23,u24,u25,u26,u27,u28,u29,u30,u31,u32,u33,u34,u35,u36,u37,u38,u39,u40,u41,u42,u43,u44,u45,u46,u47,u48,u49,u50,u51,u52,u53,u54,u55,u56,u57,u58,u59,u60,u61,u62,u63,u64,u65,u66,u67,u68,u69,u70,u71,u72,u73,u74,u75,u76,u77,u78,u79,u80,u81,u82,u83,u84,u85,u86,u87,u88,u89,u90,u91,u92,u93,u94,u95,u96,u97,u98,u99,u100,u101,u102,u103,u104,u105,u106,u107,u108,u109,.int .i64 k,u111,u112,u113,u114,u115,u116,u117,u118,u119,u120,u121,u122,u123,u124,u125,u126,u127,u128,u129,u130,u131,u132,u133,u134,u135,u136,u137,u138,u139,u140,u141,u142,u143,u144,u145,u146,u147,u148,u149,u150,u151,u152,u153,u154,u155,u156,u157,u158,u159,u160,u161,u162,u163,u164,u165,u166,u167,u168,u169,u170,u171,u172,u173,u174,u175,u176,u177,u178,u179,u180,u181,u182,u183,u184,u185,u186,u187,u188,u189,u190,u191,u192,u193,u194,u195,u196,u197,u198,u199,u200,u201,u202,u203,u204,u205,u206,u207,u208,u209,u210,u211,u212,u213,u214,u215,u216,u217,u218,u219,u220,u221,u222,u223,u224,u225,u226,u227,u228,u229,u230,u231,u232,u233,u234,u235,u236,u237,u238,u239,u240,u241,u242,u243,u244,u245,u246,u247,u248,u249,u250,u251,u252,u253,u254,u255,u256,u257,u258,u259,u260,u261,u262,u263,u264,u265,u266,u267,u268,u269,u270,u271,u272,u273,u274,u275,u276,u277,u278,u279,u280,u281,u282,u283,u284,u285,u286,u287,u288,u289,u290,u291,u292,u293,u294,u295,u296,u297,u298,u299,u300].toArray,[]⟩ W:=by
  simp only [blkOf,bodyOf,blk,Tryz.f15]
  simp only [Nat.reduceEqDiff,if_true,if_false]
  obtain ⟨d0,d1,d2,d3,d4,d5,d6,d7,d8⟩:=cells9 hX.out
  obtain ⟨f0,f1,f2,f3⟩:=cells4R hV.out
  have hR:refI d i k nm st nx l = (!hasSt d nm st || !hasSt d nm nx):=by unfold refI;rw [if_neg (by omega),if_neg (by omega),if_neg (by omega),if_pos (by omega)]
  rw [hR] at hK
  obtain ⟨z0,z1,z2,z3,z4,z5,z6⟩:=cells7R hD.out
  have SC:=hid (fun (Y:World) (hY:Below W.heap.size W Y) (q:ByteArray)=>refState_any _ d nm q Y (hDV.out.below hY) h1 h2 h3.out)
  clear hR hso hix hok hV hX hS f0 f1 f2 f3 h1 h2 h3 hDV
  subst hk
  cases q1:hasSt d nm st with
  | true =>
    rw [q1] at hK
    have S1:=hid (SC.out W (Below.refl _ _) st)
    rw [q1] at S1
    have S2:=hid (fun Y hY=>SC.out Y hY nx)
    cases q2:hasSt d nm nx with
    | true =>
      rw [q2] at hK S2
      clear SC q1 q2 hD
      go_wp2_with first | (go_at_call 31;(with_reducible refine S1.out.mono ?_);rintro e w1 ⟨rfl,hb0⟩;have HB0:=hid hb0;have Z0:=cell_on hb0 z0;have Z1:=cell_on hb0 z1;have Z2:=cell_on hb0 z2;have Z3:=cell_on hb0 z3;have Z4:=cell_on hb0 z4;have Z5:=cell_on hb0 z5;have Z6:=cell_on hb0 z6;have D1:=cell_on hb0 d1;have D7:=cell_on hb0 d7;clear hb0 z0 z1 z2 z3 z4 z5 z6 d1 d7) | (go_at_call 31;(with_reducible refine (S2.out _ HB0.out).mono ?_);rintro e w2 ⟨rfl,hb1⟩;have HB1:=hid hb1;clear hb1)
      exact hK.out _ _ _ _ _ _ _ _ _ _ _ _ _ _ _ _ _ _ _ _ _ _ _ _ _ _ _ _ _ _ _ _ _ _ _ _ _ _ _ _ _ _ _ _ _ _ _ _ _ _ _ _ _ _ _ _ _ _ _ _ _ _ _ _ _ _ _ _ _ _ _ _ _ _ _ _ _ _ _ _ _ _ _ _ _ _ _ _ _ _ _ _ _ _ _ _ _ _ (HB0.out.trans (HB1.out.mono HB0.out.size))
    | false =>
      rw [q2] at hK S2
      clear SC q1 q2 hD
      go_wp2_with first | (go_at_call 31;(with_reducible refine S1.out.mono ?_);rintro e w1 ⟨rfl,hb0⟩;have HB0:=hid hb0;have Z0:=cell_on hb0 z0;have Z1:=cell_on hb0 z1;have Z2:=cell_on hb0 z2;have Z3:=cell_on hb0 z3;have Z4:=cell_on hb0 z4;have Z5:=cell_on hb0 z5;have Z6:=cell_on hb0 z6;have D1:=cell_on hb0 d1;have D7:=cell_on hb0 d7;clear hb0 z0 z1 z2 z3 z4 z5 z6 d1 d7) | (go_at_call 31;(with_reducible refine (S2.out _ HB0.out).mono ?_);rintro e w2 ⟨rfl,hb1⟩;have HB1:=hid hb1;clear hb1)
      exact hK.out _ _ _ _ _ _ _ _ _ _ _ _ _ _ _ _ _ _ _ _ _ _ _ _ _ _ _ _ _ _ _ _ _ _ _ _ _ _ _ _ _ _ _ _ _ _ _ _ _ _ _ _ _ _ _ _ _ _ _ _ _ _ _ _ _ _ _ _ _ _ _ _ _ _ _ _ _ _ _ _ _ _ _ _ _ _ _ _ _ _ _ _ _ _ _ _ _ _ (HB0.out.trans (HB1.out.mono HB0.out.size))
  | false =>
    rw [q1] at hK
    have S1:=hid (SC.out W (Below.refl _ _) st)
    rw [q1] at S1
    clear SC q1 hD
    go_wp2_with (go_at_call 31;(with_reducible refine S1.out.mono ?_);rintro e w1 ⟨rfl,hb0⟩;have HB0:=hid hb0;clear hb0)
    exact hK.out _ _ _ _ _ _ _ _ _ _ _ _ _ _ _ _ _ _ _ _ _ _ _ _ _ _ _ _ _ _ _ _ _ _ _ _ _ _ _ _ _ _ _ _ _ _ _ _ _ _ _ _ _ _ _ _ _ _ _ _ _ _ _ _ _ _ _ _ _ _ _ _ _ _ _ _ _ _ _ _ _ _ _ _ _ _ _ _ _ _ _ _ _ _ _ _ _ _ HB0.out
set_option maxHeartbeats 16000000 in
set_option maxRecDepth 100000 in
theorem in8_0 {u0 u1 u2 u3 u4 u5 u7 u8 u14 u15 u16 u17 u18 u19 u20 u21 u22 u23 u24 u25 u26 u27 u28 u29 u30 u31 u32 u33 u34 u35 u36 u37 u38 u39 u40 u41 u42 u43 u44 u45 u46 u47 u48 u49 u50 u51 u52 u53 u54 u55 u56 u57 u58 u59 u60 u61 u62 u63 u64 u65 u66 u67 u68 u69 u70 u71 u72 u73 u74 u75 u76 u77 u78 u79 u80 u81 u82 u83 u84 u85 u86 u87 u88 u89 u90 u91 u92 u93 u94 u95 u96 u97 u98 u99 u100 u101 u102 u103 u104 u105 u106 u107 u108 u109 u111 u112 u113 u114 u115 u116 u117 u118 u119 u120 u121 u122 u123 u124 u125 u126 u127 u128 u129 u130 u131 u132 u133 u134 u135 u136 u137 u138 u139 u140 u141 u142 u143 u144 u145 u146 u147 u148 u149 u150 u151 u152 u153 u154 u155 u156 u157 u158 u159 u160 u161 u162 u163 u164 u165 u166 u167 u168 u169 u170 u171 u172 u173 u174 u175 u176 u177 u178 u179 u180 u181 u182 u183 u184 u185 u186 u187 u188 u189 u190 u191 u192 u193 u194 u195 u196 u197 u198 u199 u200 u201 u202 u203 u204 u205 u206 u207 u208 u209 u210 u211 u212 u213 u214 u215 u216 u217 u218 u219 u220 u221 u222 u223 u224 u225 u226 u227 u228 u229 u230 u231 u232 u233 u234 u235 u236 u237 u238 u239 u240 u241 u242 u243 u244 u245 u246 u247 u248 u249 u250 u251 u252 u253 u254 u255 u256 u257 u258 u259 u260 u261 u262 u263 u264 u265 u266 u267 u268 u269 u270 u271 u272 u273 u274 u275 u276 u277 u278 u279 u280 u281 u282 u283 u284 u285 u286 u287 u288 u289 u290 u291 u292 u293 u294 u295 u296 u297 u298 u299 u300:Value} (d:De) (D X V i:Nat) (k:Int) (hk:¬ (k = 1∨k = 2∨k = 3∨k = 4∨k = 5∨k = 6∨k = 7∨k = 8)) (nm st nx:ByteArray) (l:List ByteArray) (o:Option Addr) (n cap:Nat) (hln:Hid (l.length = n)) (nl:(n:Int)≤1000) (i2 i3 i4 i8 j0 j2:Value) (T T2:TypeId) (s ix:Int) (ok:Bool) (hso:Hid (s = (lookV d nm).sort)) (hix:Hid (ix = (lookV d nm).index)) (hok:Hid (ok = okV d nm))
    (g0 g1 g2 g3 g4 g5 g6:Value) (h1:d.params.length≤600) (h2:d.items.length≤600) (h3:Hid (∀ x∈d.items,x.states.length≤1000))
    (Q:Exit→Act→World→Prop) (W:World) (hX:Hid (W.heap[X]? = some (.cells #[.int .i64 k,.string nm,i2,i3,i4,.slice o n cap,.string st,.string nx,i8] T (0,0)))) (hS:Hid (StrsAt W (.slice o n cap) l)) (hV:Hid (W.heap[V]? = some (.cells #[j0,.int .i64 s,j2,.int .i64 ix] T2 (0,0))))
    (hD:Hid (W.heap[D]? = some (.cells #[g0,g1,g2,g3,g4,g5,g6] 44 (0,0)))) (hDV:Hid (DeVal W (.agg #[g0,g1,g2,g3,g4,g5,g6]) d))
    (hK:Hid (∀ (v14 v15 v111 v112 v113 v114 v115 v116 v117 v118 v119 v120 v121 v122 v123 v124 v125 v126 v127 v128 v129 v130 v131 v132 v133 v134 v135 v136 v137 v138 v139 v140 v141 v142 v143 v144 v145 v146 v147 v148 v149 v150 v151 v152 v153 v154 v155 v156 v157 v158 v159 v160 v161 v162 v163 v164 v165 v166 v167 v168 v169 v170 v171 v172 v173 v174 v175 v176 v177 v178 v179 v180 v181 v182 v183 v184 v185 v186 v187 v188 v189 v190 v191 v192 v193 v194 v195 v196 v197 v198 v199 v200 v201 v202 v203 v204 v205:Value) W',Below W.heap.size W W'→Q .normal ⟨[u0,u1,u2,u3,u4,u5,.pointer (some ⟨D,0,none⟩),u7,u8,.int .i64 (i:Int),.pointer (some ⟨X,0,none⟩),.pointer (some ⟨V,0,none⟩),.bool ok,.bool (refI d i k nm st nx l),v14,v15,u16,u17,u18,u19,u20,u21,u22,u23,u24,u25,u26,u27,u28,u29,u30,u31,u32,u33,u34,u35,u36,u37,u38,u39,u40,u41,u42,u43,u44,u45,u46,u47,u48,u49,u50,u51,u52,u53,u54,u55,u56,u57,u58,u59,u60,u61,u62,u63,u64,u65,u66,u67,u68,u69,u70,u71,u72,u73,u74,u75,u76,u77,u78,u79,u80,u81,u82,u83,u84,u85,u86,u87,u88,u89,u90,u91,u92,u93,u94,u95,u96,u97,u98,u99,u100,u101,u102,u103,u104,u105,u106,u107,u108,u109,.int .i64 k,v111,v112,v113,v114,v115,v116,v117,v118,v119,v120,v121,v122,v123,v124,v125,v126,v127,v128,v129,v130,v131,v132,v133,v134,v135,v136,v137,v138,v139,v140,v141,v142,v143,v144,v145,v146,v147,v148,v149,v150,v151,v152,v153,v154,v155,v156,v157,v158,v159,v160,v161,v162,v163,v164,v165,v166,v167,v168,v169,v170,v171,v172,v173,v174,v175,v176,v177,v178,v179,v180,v181,v182,v183,v184,v185,v186,v187,v188,v189,v190,v191,v192,v193,v194,v195,v196,v197,v198,v199,v200,v201,v202,v203,v204,v205,u206,u207,u208,u209,u210,u211,u212,u213,u214,u215,u216,u217,u218,u219,u220,u221,u222,u223,u224,u225,u226,u227,u228,u229,u230,u231,u232,u233,u234,u235,u236,u237,u238,u239,u240,u241,u242,u243,u244,u245,u246,u247,u248,u249,u250,u251,u252,u253,u254,u255,u256,u257,u258,u259,u260,u261,u262,u263,u264,u265,u266,u267,u268,u269,u270,u271,u272,u273,u274,u275,u276,u277,u278,u279,u280,u281,u282,u283,u284,u285,u286,u287,u288,u289,u290,u291,u292,u293,u294,u295,u296,u297,u298,u299,u300].toArray,[]⟩ W')) :
    (blkOf Tryz.f15 8).wp Tryz.prog Q ⟨[u0,u1,u2,u3,u4,u5,.pointer (some ⟨D,0,none⟩),u7,u8,.int .i64 (i:Int),.pointer (some ⟨X,0,none⟩),.pointer (some ⟨V,0,none⟩),.bool ok,.bool false,u14,u15,u16,u17,u18,u19,u20,u21,u22,u23,u24,u25,u26,u27,u28,u29,u30,u31,u32,u33,u34,u35,u36,u37,u38,u39,u40,u41,u42,u43,u44,u45,u46,u47,u48,u49,u50,u51,u52,u53,u54,u55,u56,u57,u58,u59,u60,u61,u62,u63,u64,u65,u66,u67,u68,u69,u70,u71,u72,u73,u74,u75,u76,u77,u78,u79,u80,u81,u82,u83,u84,u85,u86,u87,u88,u89,u90,u91,u92,u93,u94,u95,u96,u97,u98,u99,u100,u101,u102,u103,u104,u105,u106,u107,u108,u109,.int .i64 k,u111,u112,u113,u114,u115,u116,u117,u118,u119,u120,u121,u122,u123,u124,u125,u126,u127,u128,u129,u130,u131,u132,u133,u134,u135,u136,u137,u138,u139,u140,u141,u142,u143,u144,u145,u146,u147,u148,u149,u150,u151,u152,u153,u154,u155,u156,u157,u158,u159,u160,u161,u162,u163,u164,u165,u166,u167,u168,u169,u170,u171,u172,u173,u174,u175,u176,u177,u178,u179,u180,u181,u182,u183,u184,u185,u186,u187,u188,u189,u190,u191,u192,u193,u194,u195,u196,u197,u198,u199,u200,u201,u202,u203,u204,u205,u206,u207,u208,u209,u210,u211,u212,u213,u214,u215,u216,u217,u218,u219,u220,u221,u222,u223,u224,u225,u226,u227,u228,u229,u230,u231,u232,u233,u234,u235,u236,u237,u238,u239,u240,u241,u242,u243,u244,u245,u246,u247,u248,u249,u250,u251,u252,u253,u254,u255,u256,u257,u258,u259,u260,u261,u262,u263,u264,u265,u266,u267,u268,u269,u270,u271,u272,u273,u274,u275,u276,u277,u278,u279,u280,u281,u282,u283,u284,u285,u286,u287,u288,u289,u290,u291,u292,u293,u294,u295,u296,u297,u298,u299,u300].toArray,[]⟩ W:=by
  simp only [blkOf,bodyOf,blk,Tryz.f15]
  simp only [Nat.reduceEqDiff,if_true,if_false]
  obtain ⟨d0,d1,d2,d3,d4,d5,d6,d7,d8⟩:=cells9 hX.out
  obtain ⟨f0,f1,f2,f3⟩:=cells4R hV.out
  have hR:refI d i k nm st nx l = false:=by unfold refI;rw [if_neg (by omega),if_neg (by omega),if_neg (by omega),if_neg (by omega),if_neg (by omega)]
  rw [hR] at hK
  have k1:(k == 1) = false:=beq_false_of_ne (by omega)
  have k2:(k == 2) = false:=beq_false_of_ne (by omega)
  have k3:(k == 3) = false:=beq_false_of_ne (by omega)
  have k4:(k == 4) = false:=beq_false_of_ne (by omega)
  have k5:(k == 5) = false:=beq_false_of_ne (by omega)
  have k6:(k == 6) = false:=beq_false_of_ne (by omega)
  have k7:(k == 7) = false:=beq_false_of_ne (by omega)
  have k8:(k == 8) = false:=beq_false_of_ne (by omega)
  clear hR hso hix hok hD hDV hV hX hS h1 h2 h3 hk
  go_wp2_with fail
  exact hK.out _ _ _ _ _ _ _ _ _ _ _ _ _ _ _ _ _ _ _ _ _ _ _ _ _ _ _ _ _ _ _ _ _ _ _ _ _ _ _ _ _ _ _ _ _ _ _ _ _ _ _ _ _ _ _ _ _ _ _ _ _ _ _ _ _ _ _ _ _ _ _ _ _ _ _ _ _ _ _ _ _ _ _ _ _ _ _ _ _ _ _ _ _ _ _ _ _ _ (Below.refl _ _)
set_option maxHeartbeats 16000000 in
set_option maxRecDepth 100000 in
theorem in8 {u0 u1 u2 u3 u4 u5 u7 u8 u14 u15 u16 u17 u18 u19 u20 u21 u22 u23 u24 u25 u26 u27 u28 u29 u30 u31 u32 u33 u34 u35 u36 u37 u38 u39 u40 u41 u42 u43 u44 u45 u46 u47 u48 u49 u50 u51 u52 u53 u54 u55 u56 u57 u58 u59 u60 u61 u62 u63 u64 u65 u66 u67 u68 u69 u70 u71 u72 u73 u74 u75 u76 u77 u78 u79 u80 u81 u82 u83 u84 u85 u86 u87 u88 u89 u90 u91 u92 u93 u94 u95 u96 u97 u98 u99 u100 u101 u102 u103 u104 u105 u106 u107 u108 u109 u111 u112 u113 u114 u115 u116 u117 u118 u119 u120 u121 u122 u123 u124 u125 u126 u127 u128 u129 u130 u131 u132 u133 u134 u135 u136 u137 u138 u139 u140 u141 u142 u143 u144 u145 u146 u147 u148 u149 u150 u151 u152 u153 u154 u155 u156 u157 u158 u159 u160 u161 u162 u163 u164 u165 u166 u167 u168 u169 u170 u171 u172 u173 u174 u175 u176 u177 u178 u179 u180 u181 u182 u183 u184 u185 u186 u187 u188 u189 u190 u191 u192 u193 u194 u195 u196 u197 u198 u199 u200 u201 u202 u203 u204 u205 u206 u207 u208 u209 u210 u211 u212 u213 u214 u215 u216 u217 u218 u219 u220 u221 u222 u223 u224 u225 u226 u227 u228 u229 u230 u231 u232 u233 u234 u235 u236 u237 u238 u239 u240 u241 u242 u243 u244 u245 u246 u247 u248 u249 u250 u251 u252 u253 u254 u255 u256 u257 u258 u259 u260 u261 u262 u263 u264 u265 u266 u267 u268 u269 u270 u271 u272 u273 u274 u275 u276 u277 u278 u279 u280 u281 u282 u283 u284 u285 u286 u287 u288 u289 u290 u291 u292 u293 u294 u295 u296 u297 u298 u299 u300:Value} (d:De) (D X V i:Nat) (k:Int)  (nm st nx:ByteArray) (l:List ByteArray) (o:Option Addr) (n cap:Nat) (hln:Hid (l.length = n)) (nl:(n:Int)≤1000) (i2 i3 i4 i8 j0 j2:Value) (T T2:TypeId) (s ix:Int) (ok:Bool) (hso:Hid (s = (lookV d nm).sort)) (hix:Hid (ix = (lookV d nm).index)) (hok:Hid (ok = okV d nm))
    (g0 g1 g2 g3 g4 g5 g6:Value) (h1:d.params.length≤600) (h2:d.items.length≤600) (h3:Hid (∀ x∈d.items,x.states.length≤1000))
    (Q:Exit→Act→World→Prop) (W:World) (hX:Hid (W.heap[X]? = some (.cells #[.int .i64 k,.string nm,i2,i3,i4,.slice o n cap,.string st,.string nx,i8] T (0,0)))) (hS:Hid (StrsAt W (.slice o n cap) l)) (hV:Hid (W.heap[V]? = some (.cells #[j0,.int .i64 s,j2,.int .i64 ix] T2 (0,0))))
    (hD:Hid (W.heap[D]? = some (.cells #[g0,g1,g2,g3,g4,g5,g6] 44 (0,0)))) (hDV:Hid (DeVal W (.agg #[g0,g1,g2,g3,g4,g5,g6]) d))
    (hK:Hid (∀ (v14 v15 v111 v112 v113 v114 v115 v116 v117 v118 v119 v120 v121 v122 v123 v124 v125 v126 v127 v128 v129 v130 v131 v132 v133 v134 v135 v136 v137 v138 v139 v140 v141 v142 v143 v144 v145 v146 v147 v148 v149 v150 v151 v152 v153 v154 v155 v156 v157 v158 v159 v160 v161 v162 v163 v164 v165 v166 v167 v168 v169 v170 v171 v172 v173 v174 v175 v176 v177 v178 v179 v180 v181 v182 v183 v184 v185 v186 v187 v188 v189 v190 v191 v192 v193 v194 v195 v196 v197 v198 v199 v200 v201 v202 v203 v204 v205:Value) W',Below W.heap.size W W'→Q .normal ⟨[u0,u1,u2,u3,u4,u5,.pointer (some ⟨D,0,none⟩),u7,u8,.int .i64 (i:Int),.pointer (some ⟨X,0,none⟩),.pointer (some ⟨V,0,none⟩),.bool ok,.bool (refI d i k nm st nx l),v14,v15,u16,u17,u18,u19,u20,u21,u22,u23,u24,u25,u26,u27,u28,u29,u30,u31,u32,u33,u34,u35,u36,u37,u38,u39,u40,u41,u42,u43,u44,u45,u46,u47,u48,u49,u50,u51,u52,u53,u54,u55,u56,u57,u58,u59,u60,u61,u62,u63,u64,u65,u66,u67,u68,u69,u70,u71,u72,u73,u74,u75,u76,u77,u78,u79,u80,u81,u82,u83,u84,u85,u86,u87,u88,u89,u90,u91,u92,u93,u94,u95,u96,u97,u98,u99,u100,u101,u102,u103,u104,u105,u106,u107,u108,u109,.int .i64 k,v111,v112,v113,v114,v115,v116,v117,v118,v119,v120,v121,v122,v123,v124,v125,v126,v127,v128,v129,v130,v131,v132,v133,v134,v135,v136,v137,v138,v139,v140,v141,v142,v143,v144,v145,v146,v147,v148,v149,v150,v151,v152,v153,v154,v155,v156,v157,v158,v159,v160,v161,v162,v163,v164,v165,v166,v167,v168,v169,v170,v171,v172,v173,v174,v175,v176,v177,v178,v179,v180,v181,v182,v183,v184,v185,v186,v187,v188,v189,v190,v191,v192,v193,v194,v195,v196,v197,v198,v199,v200,v201,v202,v203,v204,v205,u206,u207,u208,u209,u210,u211,u212,u213,u214,u215,u216,u217,u218,u219,u220,u221,u222,u223,u224,u225,u226,u227,u228,u229,u230,u231,u232,u233,u234,u235,u236,u237,u238,u239,u240,u241,u242,u243,u244,u245,u246,u247,u248,u249,u250,u251,u252,u253,u254,u255,u256,u257,u258,u259,u260,u261,u262,u263,u264,u265,u266,u267,u268,u269,u270,u271,u272,u273,u274,u275,u276,u277,u278,u279,u280,u281,u282,u283,u284,u285,u286,u287,u288,u289,u290,u291,u292,u293,u294,u295,u296,u297,u298,u299,u300].toArray,[]⟩ W')) :
    (blkOf Tryz.f15 8).wp Tryz.prog Q ⟨[u0,u1,u2,u3,u4,u5,.pointer (some ⟨D,0,none⟩),u7,u8,.int .i64 (i:Int),.pointer (some ⟨X,0,none⟩),.pointer (some ⟨V,0,none⟩),.bool ok,.bool false,u14,u15,u16,u17,u18,u19,u20,u21,u22,u23,u24,u25,u26,u27,u28,u29,u30,u31,u32,u33,u34,u35,u36,u37,u38,u39,u40,u41,u42,u43,u44,u45,u46,u47,u48,u49,u50,u51,u52,u53,u54,u55,u56,u57,u58,u59,u60,u61,u62,u63,u64,u65,u66,u67,u68,u69,u70,u71,u72,u73,u74,u75,u76,u77,u78,u79,u80,u81,u82,u83,u84,u85,u86,u87,u88,u89,u90,u91,u92,u93,u94,u95,u96,u97,u98,u99,u100,u101,u102,u103,u104,u105,u106,u107,u108,u109,.int .i64 k,u111,u112,u113,u114,u115,u116,u117,u118,u119,u120,u121,u122,u123,u124,u125,u126,u127,u128,u129,u130,u131,u132,u133,u134,u135,u136,u137,u138,u139,u140,u141,u142,u143,u144,u145,u146,u147,u148,u149,u150,u151,u152,u153,u154,u155,u156,u157,u158,u159,u160,u161,u162,u163,u164,u165,u166,u167,u168,u169,u170,u171,u172,u173,u174,u175,u176,u177,u178,u179,u180,u181,u182,u183,u184,u185,u186,u187,u188,u189,u190,u191,u192,u193,u194,u195,u196,u197,u198,u199,u200,u201,u202,u203,u204,u205,u206,u207,u208,u209,u210,u211,u212,u213,u214,u215,u216,u217,u218,u219,u220,u221,u222,u223,u224,u225,u226,u227,u228,u229,u230,u231,u232,u233,u234,u235,u236,u237,u238,u239,u240,u241,u242,u243,u244,u245,u246,u247,u248,u249,u250,u251,u252,u253,u254,u255,u256,u257,u258,u259,u260,u261,u262,u263,u264,u265,u266,u267,u268,u269,u270,u271,u272,u273,u274,u275,u276,u277,u278,u279,u280,u281,u282,u283,u284,u285,u286,u287,u288,u289,u290,u291,u292,u293,u294,u295,u296,u297,u298,u299,u300].toArray,[]⟩ W:=by
  by_cases k1:k = 1
  · exact in8_1 d D X V i k k1 nm st nx l o n cap hln nl i2 i3 i4 i8 j0 j2 T T2 s ix ok hso hix hok g0 g1 g2 g3 g4 g5 g6 h1 h2 h3 Q W hX hS hV hD hDV hK
  by_cases k2:k = 2
  · exact in8_2 d D X V i k k2 nm st nx l o n cap hln nl i2 i3 i4 i8 j0 j2 T T2 s ix ok hso hix hok g0 g1 g2 g3 g4 g5 g6 h1 h2 h3 Q W hX hS hV hD hDV hK
  by_cases k3:k = 3
  · exact in8_3 d D X V i k k3 nm st nx l o n cap hln nl i2 i3 i4 i8 j0 j2 T T2 s ix ok hso hix hok g0 g1 g2 g3 g4 g5 g6 h1 h2 h3 Q W hX hS hV hD hDV hK
  by_cases k4:k = 4
  · exact in8_4 d D X V i k k4 nm st nx l o n cap hln nl i2 i3 i4 i8 j0 j2 T T2 s ix ok hso hix hok g0 g1 g2 g3 g4 g5 g6 h1 h2 h3 Q W hX hS hV hD hDV hK
  by_cases k5:k = 5
  · exact in8_5 d D X V i k k5 nm st nx l o n cap hln nl i2 i3 i4 i8 j0 j2 T T2 s ix ok hso hix hok g0 g1 g2 g3 g4 g5 g6 h1 h2 h3 Q W hX hS hV hD hDV hK
  by_cases k6:k = 6
  · exact in8_6 d D X V i k k6 nm st nx l o n cap hln nl i2 i3 i4 i8 j0 j2 T T2 s ix ok hso hix hok g0 g1 g2 g3 g4 g5 g6 h1 h2 h3 Q W hX hS hV hD hDV hK
  by_cases k7:k = 7
  · exact in8_7 d D X V i k k7 nm st nx l o n cap hln nl i2 i3 i4 i8 j0 j2 T T2 s ix ok hso hix hok g0 g1 g2 g3 g4 g5 g6 h1 h2 h3 Q W hX hS hV hD hDV hK
  by_cases k8:k = 8
  · exact in8_8 d D X V i k k8 nm st nx l o n cap hln nl i2 i3 i4 i8 j0 j2 T T2 s ix ok hso hix hok g0 g1 g2 g3 g4 g5 g6 h1 h2 h3 Q W hX hS hV hD hDV hK
  exact in8_0 d D X V i k (by omega) nm st nx l o n cap hln nl i2 i3 i4 i8 j0 j2 T T2 s ix ok hso hix hok g0 g1 g2 g3 g4 g5 g6 h1 h2 h3 Q W hX hS hV hD hDV hK
end
section
open Go.RowKit Lx Go.Shelf Go.Maps
attribute [local go_sem] Oper.semAt_some
set_option linter.unusedVariables false
set_option maxHeartbeats 16000000 in
set_option maxRecDepth 100000 in
theorem in7 {u0 u1 u2 u4 u5 u7 u8 u10 u11 u12 u13 u14 u15 u16 u17 u18 u19 u20 u21 u22 u23 u24 u25 u26 u27 u28 u29 u30 u31 u32 u33 u34 u35 u36 u37 u38 u39 u40 u41 u42 u43 u44 u45 u46 u47 u48 u49 u50 u51 u52 u53 u54 u55 u56 u57 u58 u59 u60 u61 u62 u63 u64 u65 u66 u67 u68 u69 u70 u71 u72 u73 u74 u75 u76 u77 u78 u79 u80 u81 u82 u83 u84 u85 u86 u87 u88 u89 u90 u91 u92 u93 u94 u95 u96 u97 u98 u99 u100 u101 u102 u103 u104 u105 u106 u107 u108 u109 u110 u111 u112 u113 u114 u115 u116 u117 u118 u119 u120 u121 u122 u123 u124 u125 u126 u127 u128 u129 u130 u131 u132 u133 u134 u135 u136 u137 u138 u139 u140 u141 u142 u143 u144 u145 u146 u147 u148 u149 u150 u151 u152 u153 u154 u155 u156 u157 u158 u159 u160 u161 u162 u163 u164 u165 u166 u167 u168 u169 u170 u171 u172 u173 u174 u175 u176 u177 u178 u179 u180 u181 u182 u183 u184 u185 u186 u187 u188 u189 u190 u191 u192 u193 u194 u195 u196 u197 u198 u199 u200 u201 u202 u203 u204 u205 u206 u207 u208 u209 u210 u211 u212 u213 u214 u215 u216 u217 u218 u219 u220 u221 u222 u223 u224 u225 u226 u227 u228 u229 u230 u231 u232 u233 u234 u235 u236 u237 u238 u239 u240 u241 u242 u243 u244 u245 u246 u247 u248 u249 u250 u251 u252 u253 u254 u255 u256 u257 u258 u259 u260 u261 u262 u263 u264 u265 u266 u267 u268 u269 u270 u271 u272 u273 u274 u275 u276 u277 u278 u279 u280 u281 u282 u283 u284 u285 u286 u287 u288 u289 u290 u291 u292 u293 u294 u295 u296 u297 u298 u299 u300:Value} (p:Pr) (hs:Hid (Small p)) (d:De) (D i:Nat) (x:It) (v0:Value) (P:Int→Prop) (hP:Hid (∀ a,P a→a∈posL p))
    (np cp:Nat) (op oi:Option Addr) (ni ci bi offi:Nat) (nil:(ni:Int)≤600) (hlt:i < ni) (hi:Hid (0 < ni→oi = some ⟨bi,offi,none⟩))
    (g0 g1 g4 g5 g6:Value) (h1:d.params.length≤600) (h2:d.items.length≤600) (h3:Hid (∀ x∈d.items,x.states.length≤1000)) (hx3:(x.states.length:Int)≤1000)
    (Q:Exit→Act→World→Prop) (W:World) (hXA:Hid (ItAt W bi (offi+i*9) x))
    (hD:Hid (W.heap[D]? = some (.cells #[g0,g1,.slice op np cp,.slice oi ni ci,g4,g5,g6] 44 (0,0)))) (hDV:Hid (DeVal W (.agg #[g0,g1,.slice op np cp,.slice oi ni ci,g4,g5,g6]) d)) (hF:Hid (FlGot W v0 P))
    (hK:Hid (∀ (v3 v10 v11 v12 v13 v14 v15 v97 v98 v99 v100 v101 v102 v103 v104 v105 v106 v107 v108 v109 v110 v111 v112 v113 v114 v115 v116 v117 v118 v119 v120 v121 v122 v123 v124 v125 v126 v127 v128 v129 v130 v131 v132 v133 v134 v135 v136 v137 v138 v139 v140 v141 v142 v143 v144 v145 v146 v147 v148 v149 v150 v151 v152 v153 v154 v155 v156 v157 v158 v159 v160 v161 v162 v163 v164 v165 v166 v167 v168 v169 v170 v171 v172 v173 v174 v175 v176 v177 v178 v179 v180 v181 v182 v183 v184 v185 v186 v187 v188 v189 v190 v191 v192 v193 v194 v195 v196 v197 v198 v199 v200 v201 v202 v203 v204 v205 v206 v207 v208 v209 v210 v211:Value) W',FlGot W' v3 (fun a=>P a∨(refI d i x.kind x.name x.state x.next x.states = true∧a = x.pos))→Below W.heap.size W W'→Q .normal ⟨[u0,u1,u2,v3,u4,u5,.pointer (some ⟨D,0,none⟩),u7,u8,.int .i64 (i:Int),v10,v11,v12,v13,v14,v15,u16,u17,u18,u19,u20,u21,u22,u23,u24,u25,u26,u27,u28,u29,u30,u31,u32,u33,u34,u35,u36,u37,u38,u39,u40,u41,u42,u43,u44,u45,u46,u47,u48,u49,u50,u51,u52,u53,u54,u55,u56,u57,u58,u59,u60,u61,u62,u63,u64,u65,u66,u67,u68,u69,u70,u71,u72,u73,u74,u75,u76,u77,u78,u79,u80,u81,u82,u83,u84,u85,u86,u87,u88,u89,u90,u91,u92,u93,u94,u95,u96,v97,v98,v99,v100,v101,v102,v103,v104,v105,v106,v107,v108,v109,v110,v111,v112,v113,v114,v115,v116,v117,v118,v119,v120,v121,v122,v123,v124,v125,v126,v127,v128,v129,v130,v131,v132,v133,v134,v135,v136,v137,v138,v139,v140,v141,v142,v143,v144,v145,v146,v147,v148,v149,v150,v151,v152,v153,v154,v155,v156,v157,v158,v159,v160,v161,v162,v163,v164,v165,v166,v167,v168,v169,v170,v171,v172,v173,v174,v175,v176,v177,v178,v179,v180,v181,v182,v183,v184,v185,v186,v187,v188,v189,v190,v191,v192,v193,v194,v195,v196,v197,v198,v199,v200,v201,v202,v203,v204,v205,v206,v207,v208,v209,v210,v211,u212,u213,u214,u215,u216,u217,u218,u219,u220,u221,u222,u223,u224,u225,u226,u227,u228,u229,u230,u231,u232,u233,u234,u235,u236,u237,u238,u239,u240,u241,u242,u243,u244,u245,u246,u247,u248,u249,u250,u251,u252,u253,u254,u255,u256,u257,u258,u259,u260,u261,u262,u263,u264,u265,u266,u267,u268,u269,u270,u271,u272,u273,u274,u275,u276,u277,u278,u279,u280,u281,u282,u283,u284,u285,u286,u287,u288,u289,u290,u291,u292,u293,u294,u295,u296,u297,u298,u299,u300].toArray,[]⟩ W')) :
    (blkOf Tryz.f15 7).wp Tryz.prog Q ⟨[u0,u1,u2,v0,u4,u5,.pointer (some ⟨D,0,none⟩),u7,u8,.int .i64 (i:Int),u10,u11,u12,u13,u14,u15,u16,u17,u18,u19,u20,u21,u22,u23,u24,u25,u26,u27,u28,u29,u30,u31,u32,u33,u34,u35,u36,u37,u38,u39,u40,u41,u42,u43,u44,u45,u46,u47,u48,u49,u50,u51,u52,u53,u54,u55,u56,u57,u58,u59,u60,u61,u62,u63,u64,u65,u66,u67,u68,u69,u70,u71,u72,u73,u74,u75,u76,u77,u78,u79,u80,u81,u82,u83,u84,u85,u86,u87,u88,u89,u90,u91,u92,u93,u94,u95,u96,u97,u98,u99,u100,u101,u102,u103,u104,u105,u106,u107,u108,u109,u110,u111,u112,u113,u114,u115,u116,u117,u118,u119,u120,u121,u122,u123,u124,u125,u126,u127,u128,u129,u130,u131,u132,u133,u134,u135,u136,u137,u138,u139,u140,u141,u142,u143,u144,u145,u146,u147,u148,u149,u150,u151,u152,u153,u154,u155,u156,u157,u158,u159,u160,u161,u162,u163,u164,u165,u166,u167,u168,u169,u170,u171,u172,u173,u174,u175,u176,u177,u178,u179,u180,u181,u182,u183,u184,u185,u186,u187,u188,u189,u190,u191,u192,u193,u194,u195,u196,u197,u198,u199,u200,u201,u202,u203,u204,u205,u206,u207,u208,u209,u210,u211,u212,u213,u214,u215,u216,u217,u218,u219,u220,u221,u222,u223,u224,u225,u226,u227,u228,u229,u230,u231,u232,u233,u234,u235,u236,u237,u238,u239,u240,u241,u242,u243,u244,u245,u246,u247,u248,u249,u250,u251,u252,u253,u254,u255,u256,u257,u258,u259,u260,u261,u262,u263,u264,u265,u266,u267,u268,u269,u270,u271,u272,u273,u274,u275,u276,u277,u278,u279,u280,u281,u282,u283,u284,u285,u286,u287,u288,u289,u290,u291,u292,u293,u294,u295,u296,u297,u298,u299,u300].toArray,[]⟩ W:=by
  simp only [blkOf,bodyOf,blk,Tryz.f15]
  simp only [Nat.reduceEqDiff,if_true,if_false]
  obtain ⟨sv,e0,e1,e2,e3,e4,e5,e6,e7,e8,hst,hok⟩:=id hXA.out
  obtain ⟨os,caps,bs,offs,rfl,_⟩:=id hst
  obtain ⟨z0,z1,z2,z3,z4,z5,z6⟩:=cells7R hD.out
  have ix:=ix_its (cap:=ci) hi.out hlt (by omega)
  unfold Ix at ix
  obtain ⟨XB,hXB⟩:∃ XB,XB = Obj.cells #[.int .i64 x.kind,.string x.name,.int .i64 x.type,.int .i64 x.e,.int .i64 x.f,.slice os x.states.length caps,.string x.state,.string x.next,.int .i64 x.pos] 62 (0,0):=⟨_,rfl⟩
  have HXB:=hid hXB
  have H1:Hid (Below W.heap.size W (W.alloc XB)∧(W.alloc XB).heap[W.heap.size]? = some XB):=hid ⟨below_al (Below.refl W.heap.size W) _,al_new rfl⟩
  rw [hXB] at H1
  have HST:=hid hst
  clear hst hok hXA
  go_upto_region 23 with fail
  rw [← hXB] at H1 ⊢
  obtain ⟨W1,hW1⟩:∃ W1,W1 = W.alloc XB:=⟨_,rfl⟩
  obtain ⟨E,hE⟩:∃ E,E = W.heap.size:=⟨_,rfl⟩
  rw [← hW1,← hE] at H1 ⊢
  have hb1:Below W.heap.size W W1:=by rw [hW1];exact below_al (Below.refl W.heap.size W) _
  have hEB:W1.heap[E]? = some XB:=H1.out.2
  rw [HXB.out] at hEB
  obtain ⟨y0,y1,y2,y3,y4,y5,y6,y7,y8⟩:=cells9 hEB
  have HB1:=hid hb1
  have HEB:=hid hEB
  have hD1:Hid (W1.heap[D]? = some (.cells #[g0,g1,.slice op np cp,.slice oi ni ci,g4,g5,g6] 44 (0,0))):=hid ((hb1.block D (lt_of_heap hD.out)).trans hD.out)
  have hDV1:=hid (hDV.out.below hb1)
  have hF1:=hid (hF.out.below hb1)
  have hS1:=hid (HST.out.below hb1)
  clear e0 e1 e2 e3 e4 e5 e6 e7 e8 z0 z1 z2 z3 z4 z5 z6 ix hW1 hE hEB hXB H1 hD hDV hF HST hb1
  obtain ⟨z0,z1,z2,z3,z4,z5,z6⟩:=cells7R hD1.out
  have FT:=hid (refFind_t _ d x.name W1 hDV1.out h1 h2)
  unfold FindT at FT
  go_cut [11,12] from 102 to 108 (fun v20 v21 wx=>∃ (V:Nat) (ok:Bool) (s ix:Int) (j0 j2:Value),v20 = .pointer (some ⟨V,0,none⟩)∧v21 = .bool ok∧Hid (s = (lookV d x.name).sort)∧Hid (ix = (lookV d x.name).index)∧Hid (ok = okV d x.name)∧Hid (Below W1.heap.size W1 wx)∧Hid (wx.heap[V]? = some (.cells #[j0,.int .i64 s,j2,.int .i64 ix] 36 (0,0))))
  case first =>
    go_wp2_with (go_at_call 24;(with_reducible refine FT.out.mono ?_);rintro e w1 ⟨n0,s,t,xx,ok,rfl,hs1,hx1,hok1,hb1⟩;have HS1:=hid hs1;have HX1:=hid hx1;have HO1:=hid hok1;have HB2:=hid hb1;clear hs1 hx1 hok1 hb1)
    go_meet
    case rel=>exact ⟨w1.heap.size,ok,s,xx,_,_,rfl,rfl,HS1,HX1,HO1,hid (below_al HB2.out _),hid (al_new rfl)⟩
  case rest =>
    obtain ⟨V,ok,s,xx,j0,j2,rfl,rfl,HS1,HX1,HO1,HB2,HV⟩:=hcut
    clear FT z0 z1 z2 z3 z4 z5 z6 y0 y1 y2 y3 y4 y5 y6 y7 y8
    have hE2:=hid ((HB2.out.block E (lt_of_heap HEB.out)).trans HEB.out)
    have hD2:=hid ((HB2.out.block D (lt_of_heap hD1.out)).trans hD1.out)
    have hDV2:=hid (hDV1.out.below HB2.out)
    have hF2:=hid (hF1.out.below HB2.out)
    have hS2:=hid (hS1.out.below HB2.out)
    have HB3:=hid (HB1.out.trans (HB2.out.mono HB1.out.size))
    obtain ⟨y0,y1,y2,y3,y4,y5,y6,y7,y8⟩:=cells9 hE2.out
    go_upto_block 8 with fail
    rename_i K8 hK8
    refine in8 d (D:=D) (X:=E) (V:=V) (i:=i) (k:=x.kind) (nm:=x.name) (st:=x.state) (nx:=x.next) (l:=x.states) (o:=os) (n:=x.states.length) (cap:=caps) (hid rfl) hx3 _ _ _ _ _ _ (T:=62) (T2:=36) (s:=s) (ix:=xx) (ok:=ok) HS1 HX1 HO1 (g0:=g0) (g1:=g1) (g2:=.slice op np cp) (g3:=.slice oi ni ci) (g4:=g4) (g5:=g5) (g6:=g6) h1 h2 h3 (W:=wc) (hX:=hE2) (hS:=hS2) (hV:=HV) (hD:=hD2) (hDV:=hDV2) (hK:=hid ?_)
    intros
    rename_i W4 hb4
    dsimp only
    have hE4:=hid ((hb4.block E (lt_of_heap hE2.out)).trans hE2.out)
    have hF4:=hid (hF2.out.below hb4)
    refine hK8 _ _ ?_
    refine in46 p hs (E:=E) (v0:=v0) (P:=P) (hP:=hP) (pos:=x.pos) (T:=62) (W:=W4) (hX:=hE4) (hF:=hF4) (hK:=hid ?_)
    intros
    rename_i v9 _ _ _ _ _ _ W6 hg6 hb6
    dsimp only
    go_wp2_with fail
    exact hK.out v9 _ _ _ _ _ _ _ _ _ _ _ _ _ _ _ _ _ _ _ _ _ _ _ _ _ _ _ _ _ _ _ _ _ _ _ _ _ _ _ _ _ _ _ _ _ _ _ _ _ _ _ _ _ _ _ _ _ _ _ _ _ _ _ _ _ _ _ _ _ _ _ _ _ _ _ _ _ _ _ _ _ _ _ _ _ _ _ _ _ _ _ _ _ _ _ _ _ _ _ _ _ _ _ _ _ _ _ _ _ _ _ _ _ _ _ _ _ _ _ _ _ _ hg6 ((HB3.out.trans (hb4.mono HB3.out.size)).trans (hb6.mono (Nat.le_trans HB3.out.size hb4.size)))
end
section
open Go.RowKit Lx Go.Shelf Go.Maps
attribute [local go_sem] Oper.semAt_some
set_option linter.unusedVariables false
set_option maxHeartbeats 16000000 in
set_option maxRecDepth 100000 in
theorem in6 {u0 u1 u2 u4 u5 u7 u8 u10 u11 u12 u13 u14 u15 u16 u17 u18 u19 u20 u21 u22 u23 u24 u25 u26 u27 u28 u29 u30 u31 u32 u33 u34 u35 u36 u37 u38 u39 u40 u41 u42 u43 u44 u45 u46 u47 u48 u49 u50 u51 u52 u53 u54 u55 u56 u57 u58 u59 u60 u61 u62 u63 u64 u65 u66 u67 u68 u69 u70 u71 u72 u73 u74 u75 u76 u77 u78 u79 u80 u81 u82 u83 u84 u85 u86 u87 u88 u89 u90 u91 u92 u93 u94 u95 u96 u97 u98 u99 u100 u101 u102 u103 u104 u105 u106 u107 u108 u109 u110 u111 u112 u113 u114 u115 u116 u117 u118 u119 u120 u121 u122 u123 u124 u125 u126 u127 u128 u129 u130 u131 u132 u133 u134 u135 u136 u137 u138 u139 u140 u141 u142 u143 u144 u145 u146 u147 u148 u149 u150 u151 u152 u153 u154 u155 u156 u157 u158 u159 u160 u161 u162 u163 u164 u165 u166 u167 u168 u169 u170 u171 u172 u173 u174 u175 u176 u177 u178 u179 u180 u181 u182 u183 u184 u185 u186 u187 u188 u189 u190 u191 u192 u193 u194 u195 u196 u197 u198 u199 u200 u201 u202 u203 u204 u205 u206 u207 u208 u209 u210 u211 u212 u213 u214 u215 u216 u217 u218 u219 u220 u221 u222 u223 u224 u225 u226 u227 u228 u229 u230 u231 u232 u233 u234 u235 u236 u237 u238 u239 u240 u241 u242 u243 u244 u245 u246 u247 u248 u249 u250 u251 u252 u253 u254 u255 u256 u257 u258 u259 u260 u261 u262 u263 u264 u265 u266 u267 u268 u269 u270 u271 u272 u273 u274 u275 u276 u277 u278 u279 u280 u281 u282 u283 u284 u285 u286 u287 u288 u289 u290 u291 u292 u293 u294 u295 u296 u297 u298 u299 u300:Value} (p:Pr) (hs:Hid (Small p)) (d:De) (hdm:Hid (d∈p.decls)) (D:Nat) (v0:Value) (P:Int→Prop) (hP:Hid (∀ a,P a→a∈posL p))
    (np cp:Nat) (op oi:Option Addr) (ni ci bi offi:Nat) (nil:(ni:Int)≤600) (hni:Hid (d.items.length = ni)) (hi:Hid (0 < ni→oi = some ⟨bi,offi,none⟩))
    (g0 g1 g4 g5 g6:Value) (h1:d.params.length≤600) (h2:d.items.length≤600) (h3:Hid (∀ x∈d.items,x.states.length≤1000))
    (Q:Exit→Act→World→Prop) (W:World) (hic:Hid (∀ i,i < ni→∀ y,d.items[i]? = some y→ItAt W bi (offi+i*9) y))
    (hD:Hid (W.heap[D]? = some (.cells #[g0,g1,.slice op np cp,.slice oi ni ci,g4,g5,g6] 44 (0,0)))) (hDV:Hid (DeVal W (.agg #[g0,g1,.slice op np cp,.slice oi ni ci,g4,g5,g6]) d)) (hF:Hid (FlGot W v0 P))
    (hK:Hid (∀ (v3 v9 v10 v11 v12 v13 v14 v15 v90 v91 v92 v93 v94 v95 v96 v97 v98 v99 v100 v101 v102 v103 v104 v105 v106 v107 v108 v109 v110 v111 v112 v113 v114 v115 v116 v117 v118 v119 v120 v121 v122 v123 v124 v125 v126 v127 v128 v129 v130 v131 v132 v133 v134 v135 v136 v137 v138 v139 v140 v141 v142 v143 v144 v145 v146 v147 v148 v149 v150 v151 v152 v153 v154 v155 v156 v157 v158 v159 v160 v161 v162 v163 v164 v165 v166 v167 v168 v169 v170 v171 v172 v173 v174 v175 v176 v177 v178 v179 v180 v181 v182 v183 v184 v185 v186 v187 v188 v189 v190 v191 v192 v193 v194 v195 v196 v197 v198 v199 v200 v201 v202 v203 v204 v205 v206 v207 v208 v209 v210 v211:Value) W',FlGot W' v3 (fun a=>P a∨RefIs d ni a)→Below W.heap.size W W'→Q .normal ⟨[u0,u1,u2,v3,u4,u5,.pointer (some ⟨D,0,none⟩),u7,u8,v9,v10,v11,v12,v13,v14,v15,u16,u17,u18,u19,u20,u21,u22,u23,u24,u25,u26,u27,u28,u29,u30,u31,u32,u33,u34,u35,u36,u37,u38,u39,u40,u41,u42,u43,u44,u45,u46,u47,u48,u49,u50,u51,u52,u53,u54,u55,u56,u57,u58,u59,u60,u61,u62,u63,u64,u65,u66,u67,u68,u69,u70,u71,u72,u73,u74,u75,u76,u77,u78,u79,u80,u81,u82,u83,u84,u85,u86,u87,u88,u89,v90,v91,v92,v93,v94,v95,v96,v97,v98,v99,v100,v101,v102,v103,v104,v105,v106,v107,v108,v109,v110,v111,v112,v113,v114,v115,v116,v117,v118,v119,v120,v121,v122,v123,v124,v125,v126,v127,v128,v129,v130,v131,v132,v133,v134,v135,v136,v137,v138,v139,v140,v141,v142,v143,v144,v145,v146,v147,v148,v149,v150,v151,v152,v153,v154,v155,v156,v157,v158,v159,v160,v161,v162,v163,v164,v165,v166,v167,v168,v169,v170,v171,v172,v173,v174,v175,v176,v177,v178,v179,v180,v181,v182,v183,v184,v185,v186,v187,v188,v189,v190,v191,v192,v193,v194,v195,v196,v197,v198,v199,v200,v201,v202,v203,v204,v205,v206,v207,v208,v209,v210,v211,u212,u213,u214,u215,u216,u217,u218,u219,u220,u221,u222,u223,u224,u225,u226,u227,u228,u229,u230,u231,u232,u233,u234,u235,u236,u237,u238,u239,u240,u241,u242,u243,u244,u245,u246,u247,u248,u249,u250,u251,u252,u253,u254,u255,u256,u257,u258,u259,u260,u261,u262,u263,u264,u265,u266,u267,u268,u269,u270,u271,u272,u273,u274,u275,u276,u277,u278,u279,u280,u281,u282,u283,u284,u285,u286,u287,u288,u289,u290,u291,u292,u293,u294,u295,u296,u297,u298,u299,u300].toArray,[]⟩ W')) :
    (blkOf Tryz.f15 6).wp Tryz.prog Q ⟨[u0,u1,u2,v0,u4,u5,.pointer (some ⟨D,0,none⟩),u7,u8,.int .i64 0,u10,u11,u12,u13,u14,u15,u16,u17,u18,u19,u20,u21,u22,u23,u24,u25,u26,u27,u28,u29,u30,u31,u32,u33,u34,u35,u36,u37,u38,u39,u40,u41,u42,u43,u44,u45,u46,u47,u48,u49,u50,u51,u52,u53,u54,u55,u56,u57,u58,u59,u60,u61,u62,u63,u64,u65,u66,u67,u68,u69,u70,u71,u72,u73,u74,u75,u76,u77,u78,u79,u80,u81,u82,u83,u84,u85,u86,u87,u88,u89,u90,u91,u92,u93,u94,u95,u96,u97,u98,u99,u100,u101,u102,u103,u104,u105,u106,u107,u108,u109,u110,u111,u112,u113,u114,u115,u116,u117,u118,u119,u120,u121,u122,u123,u124,u125,u126,u127,u128,u129,u130,u131,u132,u133,u134,u135,u136,u137,u138,u139,u140,u141,u142,u143,u144,u145,u146,u147,u148,u149,u150,u151,u152,u153,u154,u155,u156,u157,u158,u159,u160,u161,u162,u163,u164,u165,u166,u167,u168,u169,u170,u171,u172,u173,u174,u175,u176,u177,u178,u179,u180,u181,u182,u183,u184,u185,u186,u187,u188,u189,u190,u191,u192,u193,u194,u195,u196,u197,u198,u199,u200,u201,u202,u203,u204,u205,u206,u207,u208,u209,u210,u211,u212,u213,u214,u215,u216,u217,u218,u219,u220,u221,u222,u223,u224,u225,u226,u227,u228,u229,u230,u231,u232,u233,u234,u235,u236,u237,u238,u239,u240,u241,u242,u243,u244,u245,u246,u247,u248,u249,u250,u251,u252,u253,u254,u255,u256,u257,u258,u259,u260,u261,u262,u263,u264,u265,u266,u267,u268,u269,u270,u271,u272,u273,u274,u275,u276,u277,u278,u279,u280,u281,u282,u283,u284,u285,u286,u287,u288,u289,u290,u291,u292,u293,u294,u295,u296,u297,u298,u299,u300].toArray,[]⟩ W:=by
  simp only [blkOf,bodyOf,blk,Tryz.f15]
  simp only [Nat.reduceEqDiff,if_true,if_false]
  go_wp2_with fail
  go_loopw [3,9] (fun fv iv Y=>∃ (c:Nat) (v:Value),v = fv∧iv = .int .i64 (c:Int)∧c≤ni∧Hid (FlGot Y v (fun a=>P a∨RefIs d c a))∧Hid (Below W.heap.size W Y)) (fun _ i _=>ni - litLen i)
  case atStart=>exact ⟨0,_,rfl,rfl,Nat.zero_le _,hid (hF.out.ext fun a=>⟨fun h=>.inl h,fun h=>h.elim id fun ⟨_,_,h,_⟩=>by omega⟩),hid (Below.refl _ _)⟩
  case round =>
    obtain ⟨c,v,rfl,rfl,hc,hG,hBl⟩:=hrel
    have hD2:Hid (wr.heap[D]? = some (.cells #[g0,g1,.slice op np cp,.slice oi ni ci,g4,g5,g6] 44 (0,0))):=hid ((hBl.out.block D (lt_of_heap hD.out)).trans hD.out)
    obtain ⟨z0,z1,z2,z3,z4,z5,z6⟩:=cells7R hD2.out
    by_cases hca:c < ni
    · have q0:(c:Int) < (ni:Int):=by omega
      obtain ⟨x,hx⟩:∃ x,d.items[c]? = some x:=⟨_,List.getElem?_eq_getElem (by have:=hni.out;omega)⟩
      have HX:=hid hx
      have hXA:Hid (ItAt wr bi (offi+c*9) x):=hid ((hic.out c hca x hx).below hBl.out)
      have hDV2:=hid (hDV.out.below hBl.out)
      have hx3:(x.states.length:Int)≤1000:=by
        have:=h3.out x (List.mem_of_getElem? hx)
        omega
      have hP2:Hid (∀ a,(P a∨RefIs d c a)→a∈posL p):=hid (fun a h=>h.elim (hP.out a) fun ⟨_,y,_,hy,_,e⟩=>by
        subst e
        unfold posL
        exact List.mem_cons_of_mem _ (List.mem_append.2 (.inl (List.mem_append.2 (.inr (List.mem_flatMap.2 ⟨d,hdm.out,List.mem_map.2 ⟨y,List.mem_of_getElem? hy,rfl⟩⟩))))))
      have hpx:Hid (x.pos∈posL p):=hid (by
        unfold posL
        exact List.mem_cons_of_mem _ (List.mem_append.2 (.inl (List.mem_append.2 (.inr (List.mem_flatMap.2 ⟨d,hdm.out,List.mem_map.2 ⟨x,List.mem_of_getElem? hx,rfl⟩⟩))))))
      clear hx hD hF
      go_upto_block 7 with fail
      refine in7 p hs d (D:=D) (i:=c) (x:=x) (v0:=v) (P:=fun a=>P a∨RefIs d c a) hP2 (np:=np) (cp:=cp) (op:=op) (oi:=oi) (ni:=ni) (ci:=ci) (bi:=bi) (offi:=offi) nil hca hi (g0:=g0) (g1:=g1) (g4:=g4) (g5:=g5) (g6:=g6) h1 h2 h3 hx3 (W:=wr) (hXA:=hXA) (hD:=hD2) (hDV:=hDV2) (hF:=hG) (hK:=hid ?_)
      intros
      rename_i v1 _ _ _ _ _ _ _ _ _ _ _ _ _ _ _ _ _ _ _ _ _ _ _ _ _ _ _ _ _ _ _ _ _ _ _ _ _ _ _ _ _ _ _ _ _ _ _ _ _ _ _ _ _ _ _ _ _ _ _ _ _ _ _ _ _ _ _ _ _ _ _ _ _ _ _ _ _ _ _ _ _ _ _ _ _ _ _ _ _ _ _ _ _ _ _ _ _ _ _ _ _ _ _ _ _ _ _ _ _ _ _ _ _ _ _ _ _ _ _ _ _ W2 hg2 hb2
      dsimp only
      go_wp2_with fail
      refine ⟨⟨c+1,v1,rfl,by go_num,by omega,hid (hg2.ext fun a=>?_),hid (hBl.out.trans (hb2.mono hBl.out.size))⟩,by simp [litLen];omega⟩
      rw [refIs_succ HX.out,or_assoc]
    · obtain rfl:c = ni:=by omega
      have q0:¬ (c:Int) < (c:Int):=by omega
      clear hD hF
      go_wp2_with fail
      exact hK.out v _ _ _ _ _ _ _ _ _ _ _ _ _ _ _ _ _ _ _ _ _ _ _ _ _ _ _ _ _ _ _ _ _ _ _ _ _ _ _ _ _ _ _ _ _ _ _ _ _ _ _ _ _ _ _ _ _ _ _ _ _ _ _ _ _ _ _ _ _ _ _ _ _ _ _ _ _ _ _ _ _ _ _ _ _ _ _ _ _ _ _ _ _ _ _ _ _ _ _ _ _ _ _ _ _ _ _ _ _ _ _ _ _ _ _ _ _ _ _ _ _ _ _ _ _ _ _ _ _ _ hG.out hBl.out
end
end Go.Proofs.YtdlmfeflinbbjaaGreat
