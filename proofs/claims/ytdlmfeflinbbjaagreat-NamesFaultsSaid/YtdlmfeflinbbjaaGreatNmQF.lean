import Derived.Test.YtdlmfeflinbbjaaGreatNmQE
namespace Go.Proofs.YtdlmfeflinbbjaaGreat
open Go.Lib (hid)
section
open Go.RowKit Lx Go.Shelf Go.Maps
attribute [local go_sem] Oper.semAt_some
theorem cells4R {W:World} {B:Nat} {a b c d:Value} {T:TypeId} (hB:W.heap[B]? = some (.cells #[a,b,c,d] T (0,0))):W.cell? ⟨B,0,none⟩ = some a∧W.cell? ⟨B,1,none⟩ = some b∧W.cell? ⟨B,2,none⟩ = some c∧W.cell? ⟨B,3,none⟩ = some d :=
  ⟨by simp [World.cell?,hB],by simp [World.cell?,hB],by simp [World.cell?,hB],by simp [World.cell?,hB]⟩
set_option maxHeartbeats 16000000 in
set_option maxRecDepth 100000 in
theorem in56 {u0 u1 u2 u3 u4 u5 u6 u7 u8 u9 u10 u11 u12 u13 u14 u15 u16 u17 u22 u23 u24 u25 u26 u27 u28 u29 u30 u31 u32 u33 u34 u35 u36 u37 u38 u39 u40 u41 u42 u43 u44 u45 u46 u47 u48 u49 u50 u51 u52 u53 u54 u55 u56 u57 u58 u59 u60 u61 u62 u63 u64 u65 u66 u67 u68 u69 u70 u71 u72 u73 u74 u75 u76 u77 u78 u79 u80 u81 u82 u83 u84 u85 u86 u87 u88 u89 u90 u91 u92 u93 u94 u95 u96 u97 u98 u99 u100 u101 u102 u103 u104 u105 u106 u107 u108 u109 u110 u111 u112 u113 u114 u115 u116 u117 u118 u119 u120 u121 u122 u123 u124 u125 u126 u127 u128 u129 u130 u131 u132 u133 u134 u135 u136 u137 u138 u139 u140 u141 u142 u143 u144 u145 u146 u147 u148 u149 u150 u151 u152 u153 u154 u155 u156 u157 u158 u159 u160 u161 u162 u163 u164 u165 u166 u167 u168 u169 u170 u171 u172 u173 u174 u175 u176 u177 u178 u179 u180 u181 u182 u183 u184 u185 u186 u187 u188 u189 u190 u191 u192 u193 u194 u195 u196 u197 u198 u199 u200 u201 u202 u203 u204 u205 u206 u207 u208 u209 u210 u211 u212 u213 u214 u215 u216 u217 u218 u219 u220 u221 u222 u223 u224 u225 u226 u227 u228 u229 u230 u231 u232 u233 u234 u235 u236 u237 u238 u239 u240 u241 u242 u243 u244 u245 u246 u247 u248 u249 u250 u251 u252 u253 u254 u255 u256 u257 u258 u259 u260 u261 u262 u263 u264 u265 u266 u267 u268 u269 u270 u271 u272 u273 u274 u275 u276 u277 u278 u279 u280 u281 u282 u283 u284 u285 u286 u287 u288 u289 u290 u291 u292 u293 u294 u295 u296 u297 u298 u299 u300:Value} (E V:Nat) (k s:Int) (ok b0:Bool) (i1 i2 i3 i4 i5 i6 i7 i8 j0 j2 j3:Value) (T T2:TypeId)
    (Q:Exit→Act→World→Prop) (W:World) (hX:Hid (W.heap[E]? = some (.cells #[.int .i64 k,i1,i2,i3,i4,i5,i6,i7,i8] T (0,0)))) (hV:Hid (W.heap[V]? = some (.cells #[j0,.int .i64 s,j2,j3] T2 (0,0))))
    (hK:Hid (∀ (v238 v239 v240 v241 v242 v243 v244 v245 v246 v247:Value),Q .normal ⟨[u0,u1,u2,u3,u4,u5,u6,u7,u8,u9,u10,u11,u12,u13,u14,u15,u16,u17,.pointer (some ⟨E,0,none⟩),.bool (if k = 3 then !ok || s == 5 else b0),.pointer (some ⟨V,0,none⟩),.bool ok,u22,u23,u24,u25,u26,u27,u28,u29,u30,u31,u32,u33,u34,u35,u36,u37,u38,u39,u40,u41,u42,u43,u44,u45,u46,u47,u48,u49,u50,u51,u52,u53,u54,u55,u56,u57,u58,u59,u60,u61,u62,u63,u64,u65,u66,u67,u68,u69,u70,u71,u72,u73,u74,u75,u76,u77,u78,u79,u80,u81,u82,u83,u84,u85,u86,u87,u88,u89,u90,u91,u92,u93,u94,u95,u96,u97,u98,u99,u100,u101,u102,u103,u104,u105,u106,u107,u108,u109,u110,u111,u112,u113,u114,u115,u116,u117,u118,u119,u120,u121,u122,u123,u124,u125,u126,u127,u128,u129,u130,u131,u132,u133,u134,u135,u136,u137,u138,u139,u140,u141,u142,u143,u144,u145,u146,u147,u148,u149,u150,u151,u152,u153,u154,u155,u156,u157,u158,u159,u160,u161,u162,u163,u164,u165,u166,u167,u168,u169,u170,u171,u172,u173,u174,u175,u176,u177,u178,u179,u180,u181,u182,u183,u184,u185,u186,u187,u188,u189,u190,u191,u192,u193,u194,u195,u196,u197,u198,u199,u200,u201,u202,u203,u204,u205,u206,u207,u208,u209,u210,u211,u212,u213,u214,u215,u216,u217,u218,u219,u220,u221,u222,u223,u224,u225,u226,u227,u228,u229,u230,u231,u232,u233,u234,u235,u236,u237,v238,v239,v240,v241,v242,v243,v244,v245,v246,v247,u248,u249,u250,u251,u252,u253,u254,u255,u256,u257,u258,u259,u260,u261,u262,u263,u264,u265,u266,u267,u268,u269,u270,u271,u272,u273,u274,u275,u276,u277,u278,u279,u280,u281,u282,u283,u284,u285,u286,u287,u288,u289,u290,u291,u292,u293,u294,u295,u296,u297,u298,u299,u300].toArray,[]⟩ W)) :
    (sqOf Tryz.f15 56).wp Tryz.prog Q ⟨[u0,u1,u2,u3,u4,u5,u6,u7,u8,u9,u10,u11,u12,u13,u14,u15,u16,u17,.pointer (some ⟨E,0,none⟩),.bool b0,.pointer (some ⟨V,0,none⟩),.bool ok,u22,u23,u24,u25,u26,u27,u28,u29,u30,u31,u32,u33,u34,u35,u36,u37,u38,u39,u40,u41,u42,u43,u44,u45,u46,u47,u48,u49,u50,u51,u52,u53,u54,u55,u56,u57,u58,u59,u60,u61,u62,u63,u64,u65,u66,u67,u68,u69,u70,u71,u72,u73,u74,u75,u76,u77,u78,u79,u80,u81,u82,u83,u84,u85,u86,u87,u88,u89,u90,u91,u92,u93,u94,u95,u96,u97,u98,u99,u100,u101,u102,u103,u104,u105,u106,u107,u108,u109,u110,u111,u112,u113,u114,u115,u116,u117,u118,u119,u120,u121,u122,u123,u124,u125,u126,u127,u128,u129,u130,u131,u132,u133,u134,u135,u136,u137,u138,u139,u140,u141,u142,u143,u144,u145,u146,u147,u148,u149,u150,u151,u152,u153,u154,u155,u156,u157,u158,u159,u160,u161,u162,u163,u164,u165,u166,u167,u168,u169,u170,u171,u172,u173,u174,u175,u176,u177,u178,u179,u180,u181,u182,u183,u184,u185,u186,u187,u188,u189,u190,u191,u192,u193,u194,u195,u196,u197,u198,u199,u200,u201,u202,u203,u204,u205,u206,u207,u208,u209,u210,u211,u212,u213,u214,u215,u216,u217,u218,u219,u220,u221,u222,u223,u224,u225,u226,u227,u228,u229,u230,u231,u232,u233,u234,u235,u236,u237,u238,u239,u240,u241,u242,u243,u244,u245,u246,u247,u248,u249,u250,u251,u252,u253,u254,u255,u256,u257,u258,u259,u260,u261,u262,u263,u264,u265,u266,u267,u268,u269,u270,u271,u272,u273,u274,u275,u276,u277,u278,u279,u280,u281,u282,u283,u284,u285,u286,u287,u288,u289,u290,u291,u292,u293,u294,u295,u296,u297,u298,u299,u300].toArray,[]⟩ W:=by
  simp only [sqOf,bodyOf,sq,Tryz.f15]
  simp only [Nat.reduceEqDiff,if_true,if_false]
  obtain ⟨d0,d1,d2,d3,d4,d5,d6,d7,d8⟩:=cells9 hX.out
  obtain ⟨g0,g1,g2,g3⟩:=cells4R hV.out
  by_cases hk:k = 3
  · have qk:(k == 3) = true:=by simp [hk]
    rw [if_pos hk] at hK
    clear hk hX hV
    cases ok with
    | true =>
      cases hs:(s == 5) with
      | true =>
        rw [hs] at hK
        go_wp2_with fail
        exact hK.out _ _ _ _ _ _ _ _ _ _
      | false =>
        rw [hs] at hK
        go_wp2_with fail
        exact hK.out _ _ _ _ _ _ _ _ _ _
    | false =>
      go_wp2_with fail
      exact hK.out _ _ _ _ _ _ _ _ _ _
  · have qk:(k == 3) = false:=by simp [hk]
    rw [if_neg hk] at hK
    clear hk hX hV
    go_wp2_with fail
    exact hK.out _ _ _ _ _ _ _ _ _ _
set_option maxHeartbeats 16000000 in
set_option maxRecDepth 100000 in
theorem in58 {u0 u1 u2 u3 u4 u5 u7 u8 u9 u10 u11 u12 u13 u14 u15 u16 u17 u20 u21 u22 u23 u24 u25 u26 u27 u28 u29 u30 u31 u32 u33 u34 u35 u36 u37 u38 u39 u40 u41 u42 u43 u44 u45 u46 u47 u48 u49 u50 u51 u52 u53 u54 u55 u56 u57 u58 u59 u60 u61 u62 u63 u64 u65 u66 u67 u68 u69 u70 u71 u72 u73 u74 u75 u76 u77 u78 u79 u80 u81 u82 u83 u84 u85 u86 u87 u88 u89 u90 u91 u92 u93 u94 u95 u96 u97 u98 u99 u100 u101 u102 u103 u104 u105 u106 u107 u108 u109 u110 u111 u112 u113 u114 u115 u116 u117 u118 u119 u120 u121 u122 u123 u124 u125 u126 u127 u128 u129 u130 u131 u132 u133 u134 u135 u136 u137 u138 u139 u140 u141 u142 u143 u144 u145 u146 u147 u148 u149 u150 u151 u152 u153 u154 u155 u156 u157 u158 u159 u160 u161 u162 u163 u164 u165 u166 u167 u168 u169 u170 u171 u172 u173 u174 u175 u176 u177 u178 u179 u180 u181 u182 u183 u184 u185 u186 u187 u188 u189 u190 u191 u192 u193 u194 u195 u196 u197 u198 u199 u200 u201 u202 u203 u204 u205 u206 u207 u208 u209 u210 u211 u212 u213 u214 u215 u216 u217 u218 u219 u220 u221 u222 u223 u224 u225 u226 u227 u228 u229 u230 u231 u232 u233 u234 u235 u236 u237 u238 u239 u240 u241 u242 u243 u244 u245 u246 u247 u248 u249 u250 u251 u252 u253 u254 u255 u256 u257 u258 u259 u260 u261 u262 u263 u264 u265 u266 u267 u268 u269 u270 u271 u272 u273 u274 u275 u276 u277 u278 u279 u280 u281 u282 u283 u284 u285 u286 u287 u288 u289 u290 u291 u292 u293 u294 u295 u296 u297 u298 u299 u300:Value} (D E:Nat) (k:Int) (b0:Bool) (nm st:ByteArray) (d:De) (i1 i2 i3 i6 i7 i8 j0 j1 j2 j3 j4 j5 j6:Value) (T:TypeId)
    (Q:Exit→Act→World→Prop) (W:World) (hX:Hid (W.heap[E]? = some (.cells #[.int .i64 k,i1,i2,i3,.string nm,.string st,i6,i7,i8] T (0,0)))) (hD:Hid (W.heap[D]? = some (.cells #[j0,j1,j2,j3,j4,j5,j6] 44 (0,0)))) (hDV:Hid (DeVal W (.agg #[j0,j1,j2,j3,j4,j5,j6]) d)) (h1:d.params.length≤600) (h2:d.items.length≤600) (h3:Hid (∀ x∈d.items,x.states.length≤1000))
    (hK:Hid (∀ (v248 v249 v250 v251 v252 v253 v254 v255 v256 v257:Value) W',Below W.heap.size W W'→Q .normal ⟨[u0,u1,u2,u3,u4,u5,.pointer (some ⟨D,0,none⟩),u7,u8,u9,u10,u11,u12,u13,u14,u15,u16,u17,.pointer (some ⟨E,0,none⟩),.bool (if k = 20 then !hasSt d nm st else b0),u20,u21,u22,u23,u24,u25,u26,u27,u28,u29,u30,u31,u32,u33,u34,u35,u36,u37,u38,u39,u40,u41,u42,u43,u44,u45,u46,u47,u48,u49,u50,u51,u52,u53,u54,u55,u56,u57,u58,u59,u60,u61,u62,u63,u64,u65,u66,u67,u68,u69,u70,u71,u72,u73,u74,u75,u76,u77,u78,u79,u80,u81,u82,u83,u84,u85,u86,u87,u88,u89,u90,u91,u92,u93,u94,u95,u96,u97,u98,u99,u100,u101,u102,u103,u104,u105,u106,u107,u108,u109,u110,u111,u112,u113,u114,u115,u116,u117,u118,u119,u120,u121,u122,u123,u124,u125,u126,u127,u128,u129,u130,u131,u132,u133,u134,u135,u136,u137,u138,u139,u140,u141,u142,u143,u144,u145,u146,u147,u148,u149,u150,u151,u152,u153,u154,u155,u156,u157,u158,u159,u160,u161,u162,u163,u164,u165,u166,u167,u168,u169,u170,u171,u172,u173,u174,u175,u176,u177,u178,u179,u180,u181,u182,u183,u184,u185,u186,u187,u188,u189,u190,u191,u192,u193,u194,u195,u196,u197,u198,u199,u200,u201,u202,u203,u204,u205,u206,u207,u208,u209,u210,u211,u212,u213,u214,u215,u216,u217,u218,u219,u220,u221,u222,u223,u224,u225,u226,u227,u228,u229,u230,u231,u232,u233,u234,u235,u236,u237,u238,u239,u240,u241,u242,u243,u244,u245,u246,u247,v248,v249,v250,v251,v252,v253,v254,v255,v256,v257,u258,u259,u260,u261,u262,u263,u264,u265,u266,u267,u268,u269,u270,u271,u272,u273,u274,u275,u276,u277,u278,u279,u280,u281,u282,u283,u284,u285,u286,u287,u288,u289,u290,u291,u292,u293,u294,u295,u296,u297,u298,u299,u300].toArray,[]⟩ W')) :
    (sqOf Tryz.f15 58).wp Tryz.prog Q ⟨[u0,u1,u2,u3,u4,u5,.pointer (some ⟨D,0,none⟩),u7,u8,u9,u10,u11,u12,u13,u14,u15,u16,u17,.pointer (some ⟨E,0,none⟩),.bool b0,u20,u21,u22,u23,u24,u25,u26,u27,u28,u29,u30,u31,u32,u33,u34,u35,u36,u37,u38,u39,u40,u41,u42,u43,u44,u45,u46,u47,u48,u49,u50,u51,u52,u53,u54,u55,u56,u57,u58,u59,u60,u61,u62,u63,u64,u65,u66,u67,u68,u69,u70,u71,u72,u73,u74,u75,u76,u77,u78,u79,u80,u81,u82,u83,u84,u85,u86,u87,u88,u89,u90,u91,u92,u93,u94,u95,u96,u97,u98,u99,u100,u101,u102,u103,u104,u105,u106,u107,u108,u109,u110,u111,u112,u113,u114,u115,u116,u117,u118,u119,u120,u121,u122,u123,u124,u125,u126,u127,u128,u129,u130,u131,u132,u133,u134,u135,u136,u137,u138,u139,u140,u141,u142,u143,u144,u145,u146,u147,u148,u149,u150,u151,u152,u153,u154,u155,u156,u157,u158,u159,u160,u161,u162,u163,u164,u165,u166,u167,u168,u169,u170,u171,u172,u173,u174,u175,u176,u177,u178,u179,u180,u181,u182,u183,u184,u185,u186,u187,u188,u189,u190,u191,u192,u193,u194,u195,u196,u197,u198,u199,u200,u201,u202,u203,u204,u205,u206,u207,u208,u209,u210,u211,u212,u213,u214,u215,u216,u217,u218,u219,u220,u221,u222,u223,u224,u225,u226,u227,u228,u229,u230,u231,u232,u233,u234,u235,u236,u237,u238,u239,u240,u241,u242,u243,u244,u245,u246,u247,u248,u249,u250,u251,u252,u253,u254,u255,u256,u257,u258,u259,u260,u261,u262,u263,u264,u265,u266,u267,u268,u269,u270,u271,u272,u273,u274,u275,u276,u277,u278,u279,u280,u281,u282,u283,u284,u285,u286,u287,u288,u289,u290,u291,u292,u293,u294,u295,u296,u297,u298,u299,u300].toArray,[]⟩ W:=by
  simp only [sqOf,bodyOf,sq,Tryz.f15]
  simp only [Nat.reduceEqDiff,if_true,if_false]
  obtain ⟨d0,d1,d2,d3,d4,d5,d6,d7,d8⟩:=cells9 hX.out
  obtain ⟨g0,g1,g2,g3,g4,g5,g6⟩:=cells7R hD.out
  have SC:=hid (refState_any _ d nm st W hDV.out h1 h2 h3.out)
  by_cases hk:k = 20
  · have qk:(k == 20) = true:=by simp [hk]
    rw [if_pos hk] at hK
    clear hk hX hD
    go_wp2_with (go_at_call 31;(with_reducible refine SC.out.mono ?_);rintro e w1 ⟨rfl,hb0⟩;have HB0:=hid hb0;clear hb0)
    exact hK.out _ _ _ _ _ _ _ _ _ _ _ HB0.out
  · have qk:(k == 20) = false:=by simp [hk]
    rw [if_neg hk] at hK
    clear hk hX hD
    go_wp2_with fail
    exact hK.out _ _ _ _ _ _ _ _ _ _ _ (Below.refl _ _)
end
section
open Go.RowKit Lx Go.Shelf Go.Maps
attribute [local go_sem] Oper.semAt_some
set_option linter.unusedVariables false
def calB (p:Pr) (nm:ByteArray) (na:Nat):Bool:=match calledN p nm with
  | some z=>z.1.kind == 3 || ((z.1.params.length:Int) != (na:Int))
  | none=>true
set_option maxHeartbeats 16000000 in
set_option maxRecDepth 100000 in
theorem in60 {u0 u2 u3 u4 u5 u6 u7 u8 u9 u10 u11 u12 u13 u14 u15 u16 u17 u20 u21 u22 u23 u24 u25 u26 u27 u28 u29 u30 u31 u32 u33 u34 u35 u36 u37 u38 u39 u40 u41 u42 u43 u44 u45 u46 u47 u48 u49 u50 u51 u52 u53 u54 u55 u56 u57 u58 u59 u60 u61 u62 u63 u64 u65 u66 u67 u68 u69 u70 u71 u72 u73 u74 u75 u76 u77 u78 u79 u80 u81 u82 u83 u84 u85 u86 u87 u88 u89 u90 u91 u92 u93 u94 u95 u96 u97 u98 u99 u100 u101 u102 u103 u104 u105 u106 u107 u108 u109 u110 u111 u112 u113 u114 u115 u116 u117 u118 u119 u120 u121 u122 u123 u124 u125 u126 u127 u128 u129 u130 u131 u132 u133 u134 u135 u136 u137 u138 u139 u140 u141 u142 u143 u144 u145 u146 u147 u148 u149 u150 u151 u152 u153 u154 u155 u156 u157 u158 u159 u160 u161 u162 u163 u164 u165 u166 u167 u168 u169 u170 u171 u172 u173 u174 u175 u176 u177 u178 u179 u180 u181 u182 u183 u184 u185 u186 u187 u188 u189 u190 u191 u192 u193 u194 u195 u196 u197 u198 u199 u200 u201 u202 u203 u204 u205 u206 u207 u208 u209 u210 u211 u212 u213 u214 u215 u216 u217 u218 u219 u220 u221 u222 u223 u224 u225 u226 u227 u228 u229 u230 u231 u232 u233 u234 u235 u236 u237 u238 u239 u240 u241 u242 u243 u244 u245 u246 u247 u248 u249 u250 u251 u252 u253 u254 u255 u256 u257 u258 u259 u260 u261 u262 u263 u264 u265 u266 u267 u268 u269 u270 u271 u272 u273 u274 u275 u276 u277 u278 u279 u280 u281 u282 u283 u284 u285 u286 u287 u288 u289 u290 u291 u292 u293 u294 u295 u296 u297 u298 u299 u300:Value} (p:Pr) (hs:Hid (Small p)) (B E:Nat) (k:Int) (b0:Bool) (nm:ByteArray) (i1 i2 i3 i5 i6 i8 se:Value) (oa:Option Addr) (na ca:Nat) (nal:(na:Int)≤1000) (o1:Option Addr) (n c1 db doff:Nat) (nl:(n:Int)≤60) (T:TypeId)
    (Q:Exit→Act→World→Prop) (W:World) (hn:Hid (p.decls.length = n)) (hX:Hid (W.heap[E]? = some (.cells #[.int .i64 k,i1,i2,i3,.string nm,i5,i6,.slice oa na ca,i8] T (0,0)))) (hB:Hid (W.heap[B]? = some (.cells #[.slice o1 n c1,se] 25 (0,0)))) (hPA:Hid (ProgAt W (.slice o1 n c1) se p))
    (hd:Hid (0 < n→o1 = some ⟨db,doff,none⟩)) (hdc:Hid (∀ i,i < n→∀ x,p.decls[i]? = some x→DeAt W db (doff+i*7) x))
    (hK:Hid (∀ (v22 v258 v259 v260 v261 v262 v263 v264 v265 v266 v267 v268 v269 v270 v271 v272 v273 v274 v275 v276 v277 v278 v279 v280 v281 v282 v283 v284 v285 v286 v287 v288:Value) W',Below W.heap.size W W'→Q .normal ⟨[u0,.pointer (some ⟨B,0,none⟩),u2,u3,u4,u5,u6,u7,u8,u9,u10,u11,u12,u13,u14,u15,u16,u17,.pointer (some ⟨E,0,none⟩),.bool (if k = 19 then calB p nm na else b0),u20,u21,v22,u23,u24,u25,u26,u27,u28,u29,u30,u31,u32,u33,u34,u35,u36,u37,u38,u39,u40,u41,u42,u43,u44,u45,u46,u47,u48,u49,u50,u51,u52,u53,u54,u55,u56,u57,u58,u59,u60,u61,u62,u63,u64,u65,u66,u67,u68,u69,u70,u71,u72,u73,u74,u75,u76,u77,u78,u79,u80,u81,u82,u83,u84,u85,u86,u87,u88,u89,u90,u91,u92,u93,u94,u95,u96,u97,u98,u99,u100,u101,u102,u103,u104,u105,u106,u107,u108,u109,u110,u111,u112,u113,u114,u115,u116,u117,u118,u119,u120,u121,u122,u123,u124,u125,u126,u127,u128,u129,u130,u131,u132,u133,u134,u135,u136,u137,u138,u139,u140,u141,u142,u143,u144,u145,u146,u147,u148,u149,u150,u151,u152,u153,u154,u155,u156,u157,u158,u159,u160,u161,u162,u163,u164,u165,u166,u167,u168,u169,u170,u171,u172,u173,u174,u175,u176,u177,u178,u179,u180,u181,u182,u183,u184,u185,u186,u187,u188,u189,u190,u191,u192,u193,u194,u195,u196,u197,u198,u199,u200,u201,u202,u203,u204,u205,u206,u207,u208,u209,u210,u211,u212,u213,u214,u215,u216,u217,u218,u219,u220,u221,u222,u223,u224,u225,u226,u227,u228,u229,u230,u231,u232,u233,u234,u235,u236,u237,u238,u239,u240,u241,u242,u243,u244,u245,u246,u247,u248,u249,u250,u251,u252,u253,u254,u255,u256,u257,v258,v259,v260,v261,v262,v263,v264,v265,v266,v267,v268,v269,v270,v271,v272,v273,v274,v275,v276,v277,v278,v279,v280,v281,v282,v283,v284,v285,v286,v287,v288,u289,u290,u291,u292,u293,u294,u295,u296,u297,u298,u299,u300].toArray,[]⟩ W')) :
    (sqOf Tryz.f15 60).wp Tryz.prog Q ⟨[u0,.pointer (some ⟨B,0,none⟩),u2,u3,u4,u5,u6,u7,u8,u9,u10,u11,u12,u13,u14,u15,u16,u17,.pointer (some ⟨E,0,none⟩),.bool b0,u20,u21,u22,u23,u24,u25,u26,u27,u28,u29,u30,u31,u32,u33,u34,u35,u36,u37,u38,u39,u40,u41,u42,u43,u44,u45,u46,u47,u48,u49,u50,u51,u52,u53,u54,u55,u56,u57,u58,u59,u60,u61,u62,u63,u64,u65,u66,u67,u68,u69,u70,u71,u72,u73,u74,u75,u76,u77,u78,u79,u80,u81,u82,u83,u84,u85,u86,u87,u88,u89,u90,u91,u92,u93,u94,u95,u96,u97,u98,u99,u100,u101,u102,u103,u104,u105,u106,u107,u108,u109,u110,u111,u112,u113,u114,u115,u116,u117,u118,u119,u120,u121,u122,u123,u124,u125,u126,u127,u128,u129,u130,u131,u132,u133,u134,u135,u136,u137,u138,u139,u140,u141,u142,u143,u144,u145,u146,u147,u148,u149,u150,u151,u152,u153,u154,u155,u156,u157,u158,u159,u160,u161,u162,u163,u164,u165,u166,u167,u168,u169,u170,u171,u172,u173,u174,u175,u176,u177,u178,u179,u180,u181,u182,u183,u184,u185,u186,u187,u188,u189,u190,u191,u192,u193,u194,u195,u196,u197,u198,u199,u200,u201,u202,u203,u204,u205,u206,u207,u208,u209,u210,u211,u212,u213,u214,u215,u216,u217,u218,u219,u220,u221,u222,u223,u224,u225,u226,u227,u228,u229,u230,u231,u232,u233,u234,u235,u236,u237,u238,u239,u240,u241,u242,u243,u244,u245,u246,u247,u248,u249,u250,u251,u252,u253,u254,u255,u256,u257,u258,u259,u260,u261,u262,u263,u264,u265,u266,u267,u268,u269,u270,u271,u272,u273,u274,u275,u276,u277,u278,u279,u280,u281,u282,u283,u284,u285,u286,u287,u288,u289,u290,u291,u292,u293,u294,u295,u296,u297,u298,u299,u300].toArray,[]⟩ W:=by
  simp only [sqOf,bodyOf,sq,Tryz.f15]
  simp only [Nat.reduceEqDiff,if_true,if_false]
  obtain ⟨d0,d1,d2,d3,d4,d5,d6,d7,d8⟩:=cells9 hX.out
  obtain ⟨g0,g1⟩:=cells_two hB.out
  have DCL:=hid (refDecl_any _ _ p nm W hPA.out hs.out)
  rw [declIx_called] at DCL
  by_cases hk:k = 19
  · have qk:(k == 19) = true:=by simp [hk]
    rw [if_pos hk] at hK
    clear hk hX hB
    cases hc:calledN p nm with
    | none =>
      have e:calB p nm na = true:=by unfold calB;rw [hc]
      rw [e] at hK
      rw [hc] at DCL
      obtain ⟨m,hm⟩:∃ m:Int,m = -1:=⟨_,rfl⟩
      have DC2:Hid (Calls Tryz.prog 21 #[.agg #[.slice o1 n c1,se],.string nm] W fun r Y=>r = .returned (.int .i64 m)∧Below W.heap.size W Y):=by rw [hm];exact DCL
      have q0:m < (0:Int):=by omega
      clear hm e hc DCL
      go_wp2_with (go_at_call 21;(with_reducible refine DC2.out.mono ?_);rintro e w1 ⟨rfl,hb0⟩;have HB0:=hid hb0;clear hb0)
      go_quiet (fail)
      go_wp2_with fail
      exact hK.out _ _ _ _ _ _ _ _ _ _ _ _ _ _ _ _ _ _ _ _ _ _ _ _ _ _ _ _ _ _ _ _ _ (below_dn HB0.out _)
    | some z =>
      obtain ⟨x,j⟩:=z
      have e:calB p nm na = (x.kind == 3 || ((x.params.length:Int) != (na:Int))):=by unfold calB;rw [hc]
      rw [e] at hK
      rw [hc] at DCL
      have hj:p.decls[j]? = some x:=List.mem_zipIdx_iff_getElem?.1 (List.mem_of_find?_eq_some hc)
      have hlt:j < n:=by have:=(List.getElem?_eq_some_iff.1 hj).1;have:=hn.out;omega
      have q0:decide ((j:Int) < (0:Int)) = false:=decide_eq_false (by omega)
      obtain ⟨op,capp,oi,capi,bi,offi,hok,e0,e1,e2,e3,e4,e5,e6,_,_⟩:=de_cells (hdc.out j hlt x hj)
      have ix:=ix_des (cap:=c1) hd.out hlt (by omega)
      unfold Ix at ix
      have DC2:Hid (Calls Tryz.prog 21 #[.agg #[.slice o1 n c1,se],.string nm] W fun r Y=>r = .returned (.int .i64 (j:Int))∧Below W.heap.size W Y):=DCL
      clear e hc DCL hj hok
      cases hk3:(x.kind == 3) with
      | true =>
        rw [hk3] at hK
        go_wp2_with (go_at_call 21;(with_reducible refine DC2.out.mono ?_);rintro e w1 ⟨rfl,hb0⟩;have HB0:=hid hb0;have G0:=cell_on hb0 g0;have D7:=cell_on hb0 d7;have E0:=cell_on hb0 e0;have E2:=cell_on hb0 e2;clear hb0 g0 g1 d0 d1 d2 d3 d4 d5 d6 d7 d8 e0 e1 e2 e3 e4 e5 e6)
        go_quiet (fail)
        exact hK.out _ _ _ _ _ _ _ _ _ _ _ _ _ _ _ _ _ _ _ _ _ _ _ _ _ _ _ _ _ _ _ _ _ (below_dn HB0.out _)
      | false =>
        rw [hk3] at hK
        go_wp2_with (go_at_call 21;(with_reducible refine DC2.out.mono ?_);rintro e w1 ⟨rfl,hb0⟩;have HB0:=hid hb0;have G0:=cell_on hb0 g0;have D7:=cell_on hb0 d7;have E0:=cell_on hb0 e0;have E2:=cell_on hb0 e2;clear hb0 g0 g1 d0 d1 d2 d3 d4 d5 d6 d7 d8 e0 e1 e2 e3 e4 e5 e6)
        go_quiet (fail)
        exact hK.out _ _ _ _ _ _ _ _ _ _ _ _ _ _ _ _ _ _ _ _ _ _ _ _ _ _ _ _ _ _ _ _ _ (below_dn HB0.out _)
  · have qk:(k == 19) = false:=by simp [hk]
    rw [if_neg hk] at hK
    clear hk hX hB
    go_wp2_with fail
    exact hK.out _ _ _ _ _ _ _ _ _ _ _ _ _ _ _ _ _ _ _ _ _ _ _ _ _ _ _ _ _ _ _ _ _ (Below.refl _ _)
end
section
open Go.RowKit Lx Go.Shelf Go.Maps
attribute [local go_sem] Oper.semAt_some
set_option maxHeartbeats 16000000 in
set_option maxRecDepth 100000 in
theorem in63 {u0 u1 u2 u4 u5 u6 u7 u8 u9 u10 u11 u12 u13 u14 u15 u16 u17 u20 u21 u22 u23 u24 u25 u26 u27 u28 u29 u30 u31 u32 u33 u34 u35 u36 u37 u38 u39 u40 u41 u42 u43 u44 u45 u46 u47 u48 u49 u50 u51 u52 u53 u54 u55 u56 u57 u58 u59 u60 u61 u62 u63 u64 u65 u66 u67 u68 u69 u70 u71 u72 u73 u74 u75 u76 u77 u78 u79 u80 u81 u82 u83 u84 u85 u86 u87 u88 u89 u90 u91 u92 u93 u94 u95 u96 u97 u98 u99 u100 u101 u102 u103 u104 u105 u106 u107 u108 u109 u110 u111 u112 u113 u114 u115 u116 u117 u118 u119 u120 u121 u122 u123 u124 u125 u126 u127 u128 u129 u130 u131 u132 u133 u134 u135 u136 u137 u138 u139 u140 u141 u142 u143 u144 u145 u146 u147 u148 u149 u150 u151 u152 u153 u154 u155 u156 u157 u158 u159 u160 u161 u162 u163 u164 u165 u166 u167 u168 u169 u170 u171 u172 u173 u174 u175 u176 u177 u178 u179 u180 u181 u182 u183 u184 u185 u186 u187 u188 u189 u190 u191 u192 u193 u194 u195 u196 u197 u198 u199 u200 u201 u202 u203 u204 u205 u206 u207 u208 u209 u210 u211 u212 u213 u214 u215 u216 u217 u218 u219 u220 u221 u222 u223 u224 u225 u226 u227 u228 u229 u230 u231 u232 u233 u234 u235 u236 u237 u238 u239 u240 u241 u242 u243 u244 u245 u246 u247 u248 u249 u250 u251 u252 u253 u254 u255 u256 u257 u258 u259 u260 u261 u262 u263 u264 u265 u266 u267 u268 u269 u270 u271 u272 u273 u274 u275 u276 u277 u278 u279 u280 u281 u282 u283 u284 u285 u286 u287 u288 u289 u290 u291 u292 u293 u294 u295 u296 u297 u298 u299 u300:Value} (p:Pr) (hs:Hid (Small p)) (E:Nat) (b:Bool) (v0:Value) (P:Int→Prop) (hP:Hid (∀ a,P a→a∈posL p)) (pos:Int) (i0 i1 i2 i3 i4 i5 i6 i7:Value) (T:TypeId)
    (Q:Exit→Act→World→Prop) (W:World) (hX:Hid (W.heap[E]? = some (.cells #[i0,i1,i2,i3,i4,i5,i6,i7,.int .i64 pos] T (0,0)))) (hF:Hid (FlGot W v0 P))
    (hK:Hid (∀ (v3 v289 v290 v291 v292 v293 v294:Value) W',FlGot W' v3 (fun a=>P a∨(b = true∧a = pos))→Below W.heap.size W W'→Q .normal ⟨[u0,u1,u2,v3,u4,u5,u6,u7,u8,u9,u10,u11,u12,u13,u14,u15,u16,u17,.pointer (some ⟨E,0,none⟩),.bool b,u20,u21,u22,u23,u24,u25,u26,u27,u28,u29,u30,u31,u32,u33,u34,u35,u36,u37,u38,u39,u40,u41,u42,u43,u44,u45,u46,u47,u48,u49,u50,u51,u52,u53,u54,u55,u56,u57,u58,u59,u60,u61,u62,u63,u64,u65,u66,u67,u68,u69,u70,u71,u72,u73,u74,u75,u76,u77,u78,u79,u80,u81,u82,u83,u84,u85,u86,u87,u88,u89,u90,u91,u92,u93,u94,u95,u96,u97,u98,u99,u100,u101,u102,u103,u104,u105,u106,u107,u108,u109,u110,u111,u112,u113,u114,u115,u116,u117,u118,u119,u120,u121,u122,u123,u124,u125,u126,u127,u128,u129,u130,u131,u132,u133,u134,u135,u136,u137,u138,u139,u140,u141,u142,u143,u144,u145,u146,u147,u148,u149,u150,u151,u152,u153,u154,u155,u156,u157,u158,u159,u160,u161,u162,u163,u164,u165,u166,u167,u168,u169,u170,u171,u172,u173,u174,u175,u176,u177,u178,u179,u180,u181,u182,u183,u184,u185,u186,u187,u188,u189,u190,u191,u192,u193,u194,u195,u196,u197,u198,u199,u200,u201,u202,u203,u204,u205,u206,u207,u208,u209,u210,u211,u212,u213,u214,u215,u216,u217,u218,u219,u220,u221,u222,u223,u224,u225,u226,u227,u228,u229,u230,u231,u232,u233,u234,u235,u236,u237,u238,u239,u240,u241,u242,u243,u244,u245,u246,u247,u248,u249,u250,u251,u252,u253,u254,u255,u256,u257,u258,u259,u260,u261,u262,u263,u264,u265,u266,u267,u268,u269,u270,u271,u272,u273,u274,u275,u276,u277,u278,u279,u280,u281,u282,u283,u284,u285,u286,u287,u288,v289,v290,v291,v292,v293,v294,u295,u296,u297,u298,u299,u300].toArray,[]⟩ W')) :
    (sqOf Tryz.f15 63).wp Tryz.prog Q ⟨[u0,u1,u2,v0,u4,u5,u6,u7,u8,u9,u10,u11,u12,u13,u14,u15,u16,u17,.pointer (some ⟨E,0,none⟩),.bool b,u20,u21,u22,u23,u24,u25,u26,u27,u28,u29,u30,u31,u32,u33,u34,u35,u36,u37,u38,u39,u40,u41,u42,u43,u44,u45,u46,u47,u48,u49,u50,u51,u52,u53,u54,u55,u56,u57,u58,u59,u60,u61,u62,u63,u64,u65,u66,u67,u68,u69,u70,u71,u72,u73,u74,u75,u76,u77,u78,u79,u80,u81,u82,u83,u84,u85,u86,u87,u88,u89,u90,u91,u92,u93,u94,u95,u96,u97,u98,u99,u100,u101,u102,u103,u104,u105,u106,u107,u108,u109,u110,u111,u112,u113,u114,u115,u116,u117,u118,u119,u120,u121,u122,u123,u124,u125,u126,u127,u128,u129,u130,u131,u132,u133,u134,u135,u136,u137,u138,u139,u140,u141,u142,u143,u144,u145,u146,u147,u148,u149,u150,u151,u152,u153,u154,u155,u156,u157,u158,u159,u160,u161,u162,u163,u164,u165,u166,u167,u168,u169,u170,u171,u172,u173,u174,u175,u176,u177,u178,u179,u180,u181,u182,u183,u184,u185,u186,u187,u188,u189,u190,u191,u192,u193,u194,u195,u196,u197,u198,u199,u200,u201,u202,u203,u204,u205,u206,u207,u208,u209,u210,u211,u212,u213,u214,u215,u216,u217,u218,u219,u220,u221,u222,u223,u224,u225,u226,u227,u228,u229,u230,u231,u232,u233,u234,u235,u236,u237,u238,u239,u240,u241,u242,u243,u244,u245,u246,u247,u248,u249,u250,u251,u252,u253,u254,u255,u256,u257,u258,u259,u260,u261,u262,u263,u264,u265,u266,u267,u268,u269,u270,u271,u272,u273,u274,u275,u276,u277,u278,u279,u280,u281,u282,u283,u284,u285,u286,u287,u288,u289,u290,u291,u292,u293,u294,u295,u296,u297,u298,u299,u300].toArray,[]⟩ W:=by
  simp only [sqOf,bodyOf,sq,Tryz.f15]
  simp only [Nat.reduceEqDiff,if_true,if_false]
  obtain ⟨d0,d1,d2,d3,d4,d5,d6,d7,d8⟩:=cells9 hX.out
  have AD:Hid (∀ W,FlGot W v0 P→_):=hid (fun W h=>flGot_add hs.out hP.out v0 pos W h)
  clear hX d0 d1 d2 d3 d4 d5 d6 d7
  cases b with
  | true =>
    go_wp2_with (go_at_call 25;(with_reducible refine (AD.out _ hF.out).mono ?_);rintro e w2 ⟨v1,rfl,hG1,hb1⟩;have HG1:=hid hG1;have HB1:=hid hb1;clear hG1 hb1)
    exact hK.out v1 _ _ _ _ _ _ _ (HG1.out.ext fun a=>by simp) HB1.out
  | false =>
    go_wp2_with fail
    exact hK.out v0 _ _ _ _ _ _ _ (hF.out.ext fun a=>by simp) (Below.refl _ _)
set_option maxHeartbeats 16000000 in
set_option maxRecDepth 100000 in
theorem in46 {u0 u1 u2 u4 u5 u6 u7 u8 u9 u11 u12 u14 u15 u16 u17 u18 u19 u20 u21 u22 u23 u24 u25 u26 u27 u28 u29 u30 u31 u32 u33 u34 u35 u36 u37 u38 u39 u40 u41 u42 u43 u44 u45 u46 u47 u48 u49 u50 u51 u52 u53 u54 u55 u56 u57 u58 u59 u60 u61 u62 u63 u64 u65 u66 u67 u68 u69 u70 u71 u72 u73 u74 u75 u76 u77 u78 u79 u80 u81 u82 u83 u84 u85 u86 u87 u88 u89 u90 u91 u92 u93 u94 u95 u96 u97 u98 u99 u100 u101 u102 u103 u104 u105 u106 u107 u108 u109 u110 u111 u112 u113 u114 u115 u116 u117 u118 u119 u120 u121 u122 u123 u124 u125 u126 u127 u128 u129 u130 u131 u132 u133 u134 u135 u136 u137 u138 u139 u140 u141 u142 u143 u144 u145 u146 u147 u148 u149 u150 u151 u152 u153 u154 u155 u156 u157 u158 u159 u160 u161 u162 u163 u164 u165 u166 u167 u168 u169 u170 u171 u172 u173 u174 u175 u176 u177 u178 u179 u180 u181 u182 u183 u184 u185 u186 u187 u188 u189 u190 u191 u192 u193 u194 u195 u196 u197 u198 u199 u200 u201 u202 u203 u204 u205 u206 u207 u208 u209 u210 u211 u212 u213 u214 u215 u216 u217 u218 u219 u220 u221 u222 u223 u224 u225 u226 u227 u228 u229 u230 u231 u232 u233 u234 u235 u236 u237 u238 u239 u240 u241 u242 u243 u244 u245 u246 u247 u248 u249 u250 u251 u252 u253 u254 u255 u256 u257 u258 u259 u260 u261 u262 u263 u264 u265 u266 u267 u268 u269 u270 u271 u272 u273 u274 u275 u276 u277 u278 u279 u280 u281 u282 u283 u284 u285 u286 u287 u288 u289 u290 u291 u292 u293 u294 u295 u296 u297 u298 u299 u300:Value} (p:Pr) (hs:Hid (Small p)) (E:Nat) (b:Bool) (v0:Value) (P:Int→Prop) (hP:Hid (∀ a,P a→a∈posL p)) (pos:Int) (i0 i1 i2 i3 i4 i5 i6 i7:Value) (T:TypeId)
    (Q:Exit→Act→World→Prop) (W:World) (hX:Hid (W.heap[E]? = some (.cells #[i0,i1,i2,i3,i4,i5,i6,i7,.int .i64 pos] T (0,0)))) (hF:Hid (FlGot W v0 P))
    (hK:Hid (∀ (v3 v206 v207 v208 v209 v210 v211:Value) W',FlGot W' v3 (fun a=>P a∨(b = true∧a = pos))→Below W.heap.size W W'→Q .normal ⟨[u0,u1,u2,v3,u4,u5,u6,u7,u8,u9,.pointer (some ⟨E,0,none⟩),u11,u12,.bool b,u14,u15,u16,u17,u18,u19,u20,u21,u22,u23,u24,u25,u26,u27,u28,u29,u30,u31,u32,u33,u34,u35,u36,u37,u38,u39,u40,u41,u42,u43,u44,u45,u46,u47,u48,u49,u50,u51,u52,u53,u54,u55,u56,u57,u58,u59,u60,u61,u62,u63,u64,u65,u66,u67,u68,u69,u70,u71,u72,u73,u74,u75,u76,u77,u78,u79,u80,u81,u82,u83,u84,u85,u86,u87,u88,u89,u90,u91,u92,u93,u94,u95,u96,u97,u98,u99,u100,u101,u102,u103,u104,u105,u106,u107,u108,u109,u110,u111,u112,u113,u114,u115,u116,u117,u118,u119,u120,u121,u122,u123,u124,u125,u126,u127,u128,u129,u130,u131,u132,u133,u134,u135,u136,u137,u138,u139,u140,u141,u142,u143,u144,u145,u146,u147,u148,u149,u150,u151,u152,u153,u154,u155,u156,u157,u158,u159,u160,u161,u162,u163,u164,u165,u166,u167,u168,u169,u170,u171,u172,u173,u174,u175,u176,u177,u178,u179,u180,u181,u182,u183,u184,u185,u186,u187,u188,u189,u190,u191,u192,u193,u194,u195,u196,u197,u198,u199,u200,u201,u202,u203,u204,u205,v206,v207,v208,v209,v210,v211,u212,u213,u214,u215,u216,u217,u218,u219,u220,u221,u222,u223,u224,u225,u226,u227,u228,u229,u230,u231,u232,u233,u234,u235,u236,u237,u238,u239,u240,u241,u242,u243,u244,u245,u246,u247,u248,u249,u250,u251,u252,u253,u254,u255,u256,u257,u258,u259,u260,u261,u262,u263,u264,u265,u266,u267,u268,u269,u270,u271,u272,u273,u274,u275,u276,u277,u278,u279,u280,u281,u282,u283,u284,u285,u286,u287,u288,u289,u290,u291,u292,u293,u294,u295,u296,u297,u298,u299,u300].toArray,[]⟩ W')) :
    (sqOf Tryz.f15 46).wp Tryz.prog Q ⟨[u0,u1,u2,v0,u4,u5,u6,u7,u8,u9,.pointer (some ⟨E,0,none⟩),u11,u12,.bool b,u14,u15,u16,u17,u18,u19,u20,u21,u22,u23,u24,u25,u26,u27,u28,u29,u30,u31,u32,u33,u34,u35,u36,u37,u38,u39,u40,u41,u42,u43,u44,u45,u46,u47,u48,u49,u50,u51,u52,u53,u54,u55,u56,u57,u58,u59,u60,u61,u62,u63,u64,u65,u66,u67,u68,u69,u70,u71,u72,u73,u74,u75,u76,u77,u78,u79,u80,u81,u82,u83,u84,u85,u86,u87,u88,u89,u90,u91,u92,u93,u94,u95,u96,u97,u98,u99,u100,u101,u102,u103,u104,u105,u106,u107,u108,u109,u110,u111,u112,u113,u114,u115,u116,u117,u118,u119,u120,u121,u122,u123,u124,u125,u126,u127,u128,u129,u130,u131,u132,u133,u134,u135,u136,u137,u138,u139,u140,u141,u142,u143,u144,u145,u146,u147,u148,u149,u150,u151,u152,u153,u154,u155,u156,u157,u158,u159,u160,u161,u162,u163,u164,u165,u166,u167,u168,u169,u170,u171,u172,u173,u174,u175,u176,u177,u178,u179,u180,u181,u182,u183,u184,u185,u186,u187,u188,u189,u190,u191,u192,u193,u194,u195,u196,u197,u198,u199,u200,u201,u202,u203,u204,u205,u206,u207,u208,u209,u210,u211,u212,u213,u214,u215,u216,u217,u218,u219,u220,u221,u222,u223,u224,u225,u226,u227,u228,u229,u230,u231,u232,u233,u234,u235,u236,u237,u238,u239,u240,u241,u242,u243,u244,u245,u246,u247,u248,u249,u250,u251,u252,u253,u254,u255,u256,u257,u258,u259,u260,u261,u262,u263,u264,u265,u266,u267,u268,u269,u270,u271,u272,u273,u274,u275,u276,u277,u278,u279,u280,u281,u282,u283,u284,u285,u286,u287,u288,u289,u290,u291,u292,u293,u294,u295,u296,u297,u298,u299,u300].toArray,[]⟩ W:=by
  simp only [sqOf,bodyOf,sq,Tryz.f15]
  simp only [Nat.reduceEqDiff,if_true,if_false]
  obtain ⟨d0,d1,d2,d3,d4,d5,d6,d7,d8⟩:=cells9 hX.out
  have AD:Hid (∀ W,FlGot W v0 P→_):=hid (fun W h=>flGot_add hs.out hP.out v0 pos W h)
  clear hX d0 d1 d2 d3 d4 d5 d6 d7
  cases b with
  | true =>
    go_wp2_with (go_at_call 25;(with_reducible refine (AD.out _ hF.out).mono ?_);rintro e w2 ⟨v1,rfl,hG1,hb1⟩;have HG1:=hid hG1;have HB1:=hid hb1;clear hG1 hb1)
    exact hK.out v1 _ _ _ _ _ _ _ (HG1.out.ext fun a=>by simp) HB1.out
  | false =>
    go_wp2_with fail
    exact hK.out v0 _ _ _ _ _ _ _ (hF.out.ext fun a=>by simp) (Below.refl _ _)
def FindT (d:De) (nm:ByteArray) (w:World) (e:Ending) (w' : World):Prop:=∃ (n0:ByteArray) (s t x:Int) (ok:Bool),e = .returned (.tuple #[.agg #[.string n0,.int .i64 s,.int .i64 t,.int .i64 x],.bool ok])∧s = (lookV d nm).sort∧x = (lookV d nm).index∧ok = okV d nm∧Below w.heap.size w w'
theorem refFind_t (v0:Value) (d:De) (nm:ByteArray) (w:World) (h:DeVal w v0 d) (h1:d.params.length≤600) (h2:d.items.length≤600) :
    Calls Tryz.prog 24 #[v0,.string nm] w fun e w'=>FindT d nm w e w' :=
  (refFind_is v0 d nm w h h1 h2).mono fun e w' ⟨h3,h4⟩=>by
    unfold FindT lookV okV
    cases hf:(varsN d).find? (fun y=>decide (y.name = nm)) with
    | none=>rw [hf] at h3;exact ⟨_,_,_,_,_,h3,rfl,rfl,rfl,h4⟩
    | some x=>rw [hf] at h3;exact ⟨_,_,_,_,_,h3,rfl,rfl,rfl,h4⟩
end
section
open Go.RowKit Lx Go.Shelf Go.Maps
attribute [local go_sem] Oper.semAt_some
set_option linter.unusedVariables false
theorem refE_calB (p:Pr) (d:De) (x:Ex):refE p d x = (if x.kind = 19 then calB p x.name x.args.length else if x.kind = 20 then !hasSt d x.name x.state else if x.kind = 3 then !okV d x.name || (lookV d x.name).sort == 5 else false):=by
  unfold refE calB
  rfl
set_option maxHeartbeats 16000000 in
set_option maxRecDepth 100000 in
theorem in14 {u0 u2 u4 u5 u7 u8 u9 u10 u11 u12 u13 u14 u15 u18 u19 u20 u21 u22 u23 u24 u25 u26 u27 u28 u29 u30 u31 u32 u33 u34 u35 u36 u37 u38 u39 u40 u41 u42 u43 u44 u45 u46 u47 u48 u49 u50 u51 u52 u53 u54 u55 u56 u57 u58 u59 u60 u61 u62 u63 u64 u65 u66 u67 u68 u69 u70 u71 u72 u73 u74 u75 u76 u77 u78 u79 u80 u81 u82 u83 u84 u85 u86 u87 u88 u89 u90 u91 u92 u93 u94 u95 u96 u97 u98 u99 u100 u101 u102 u103 u104 u105 u106 u107 u108 u109 u110 u111 u112 u113 u114 u115 u116 u117 u118 u119 u120 u121 u122 u123 u124 u125 u126 u127 u128 u129 u130 u131 u132 u133 u134 u135 u136 u137 u138 u139 u140 u141 u142 u143 u144 u145 u146 u147 u148 u149 u150 u151 u152 u153 u154 u155 u156 u157 u158 u159 u160 u161 u162 u163 u164 u165 u166 u167 u168 u169 u170 u171 u172 u173 u174 u175 u176 u177 u178 u179 u180 u181 u182 u183 u184 u185 u186 u187 u188 u189 u190 u191 u192 u193 u194 u195 u196 u197 u198 u199 u200 u201 u202 u203 u204 u205 u206 u207 u208 u209 u210 u211 u212 u213 u214 u215 u216 u217 u218 u219 u220 u221 u222 u223 u224 u225 u226 u227 u228 u229 u230 u231 u232 u233 u234 u235 u236 u237 u238 u239 u240 u241 u242 u243 u244 u245 u246 u247 u248 u249 u250 u251 u252 u253 u254 u255 u256 u257 u258 u259 u260 u261 u262 u263 u264 u265 u266 u267 u268 u269 u270 u271 u272 u273 u274 u275 u276 u277 u278 u279 u280 u281 u282 u283 u284 u285 u286 u287 u288 u289 u290 u291 u292 u293 u294 u295 u296 u297 u298 u299 u300:Value} (p:Pr) (hs:Hid (Small p)) (d:De) (B D e g:Nat) (S:Nat→Bool) (x:Ex) (hx:Hid (p.exprs[e]? = some x)) (v0:Value) (P:Int→Prop) (hP:Hid (∀ a,P a→a∈posL p)) (hpx:Hid (x.pos∈posL p))
    (o1 o2:Option Addr) (n c1 ne c2 db doff xb xoff:Nat) (nl:(n:Int)≤60) (nel:(ne:Int)≤300) (hlt:e < ne) (hn:Hid (p.decls.length = n)) (hd:Hid (0 < n→o1 = some ⟨db,doff,none⟩)) (he:Hid (0 < ne→o2 = some ⟨xb,xoff,none⟩))
    (g0 g1 g2 g3 g4 g5 g6:Value) (h1:d.params.length≤600) (h2:d.items.length≤600) (h3:Hid (∀ x∈d.items,x.states.length≤1000))
    (Q:Exit→Act→World→Prop) (W:World) (hdc:Hid (∀ i,i < n→∀ x,p.decls[i]? = some x→DeAt W db (doff+i*7) x)) (hB:Hid (W.heap[B]? = some (.cells #[.slice o1 n c1,.slice o2 ne c2] 25 (0,0)))) (hPA:Hid (ProgAt W (.slice o1 n c1) (.slice o2 ne c2) p)) (hXA:Hid (ExAt W xb (xoff+e*9) x))
    (hD:Hid (W.heap[D]? = some (.cells #[g0,g1,g2,g3,g4,g5,g6] 44 (0,0)))) (hDV:Hid (DeVal W (.agg #[g0,g1,g2,g3,g4,g5,g6]) d)) (hS:Hid (BoolRow W g ne S)) (hF:Hid (FlGot W v0 P))
    (hK:Hid (∀ (v3 v18 v19 v20 v21 v22 v221 v222 v223 v224 v225 v226 v227 v228 v229 v230 v231 v232 v233 v234 v235 v236 v237 v238 v239 v240 v241 v242 v243 v244 v245 v246 v247 v248 v249 v250 v251 v252 v253 v254 v255 v256 v257 v258 v259 v260 v261 v262 v263 v264 v265 v266 v267 v268 v269 v270 v271 v272 v273 v274 v275 v276 v277 v278 v279 v280 v281 v282 v283 v284 v285 v286 v287 v288 v289 v290 v291 v292 v293 v294:Value) W',FlGot W' v3 (fun a=>P a∨(S e = true∧refE p d x = true∧a = x.pos))→Below W.heap.size W W'→Q .normal ⟨[u0,.pointer (some ⟨B,0,none⟩),u2,v3,u4,u5,.pointer (some ⟨D,0,none⟩),u7,u8,u9,u10,u11,u12,u13,u14,u15,.slice (some ⟨g,0,none⟩) ne ne,.int .i64 (e:Int),v18,v19,v20,v21,v22,u23,u24,u25,u26,u27,u28,u29,u30,u31,u32,u33,u34,u35,u36,u37,u38,u39,u40,u41,u42,u43,u44,u45,u46,u47,u48,u49,u50,u51,u52,u53,u54,u55,u56,u57,u58,u59,u60,u61,u62,u63,u64,u65,u66,u67,u68,u69,u70,u71,u72,u73,u74,u75,u76,u77,u78,u79,u80,u81,u82,u83,u84,u85,u86,u87,u88,u89,u90,u91,u92,u93,u94,u95,u96,u97,u98,u99,u100,u101,u102,u103,u104,u105,u106,u107,u108,u109,u110,u111,u112,u113,u114,u115,u116,u117,u118,u119,u120,u121,u122,u123,u124,u125,u126,u127,u128,u129,u130,u131,u132,u133,u134,u135,u136,u137,u138,u139,u140,u141,u142,u143,u144,u145,u146,u147,u148,u149,u150,u151,u152,u153,u154,u155,u156,u157,u158,u159,u160,u161,u162,u163,u164,u165,u166,u167,u168,u169,u170,u171,u172,u173,u174,u175,u176,u177,u178,u179,u180,u181,u182,u183,u184,u185,u186,u187,u188,u189,u190,u191,u192,u193,u194,u195,u196,u197,u198,u199,u200,u201,u202,u203,u204,u205,u206,u207,u208,u209,u210,u211,u212,u213,u214,u215,u216,u217,u218,u219,u220,v221,v222,v223,v224,v225,v226,v227,v228,v229,v230,v231,v232,v233,v234,v235,v236,v237,v238,v239,v240,v241,v242,v243,v244,v245,v246,v247,v248,v249,v250,v251,v252,v253,v254,v255,v256,v257,v258,v259,v260,v261,v262,v263,v264,v265,v266,v267,v268,v269,v270,v271,v272,v273,v274,v275,v276,v277,v278,v279,v280,v281,v282,v283,v284,v285,v286,v287,v288,v289,v290,v291,v292,v293,v294,u295,u296,u297,u298,u299,u300].toArray,[]⟩ W')) :
    (blkOf Tryz.f15 14).wp Tryz.prog Q ⟨[u0,.pointer (some ⟨B,0,none⟩),u2,v0,u4,u5,.pointer (some ⟨D,0,none⟩),u7,u8,u9,u10,u11,u12,u13,u14,u15,.slice (some ⟨g,0,none⟩) ne ne,.int .i64 (e:Int),u18,u19,u20,u21,u22,u23,u24,u25,u26,u27,u28,u29,u30,u31,u32,u33,u34,u35,u36,u37,u38,u39,u40,u41,u42,u43,u44,u45,u46,u47,u48,u49,u50,u51,u52,u53,u54,u55,u56,u57,u58,u59,u60,u61,u62,u63,u64,u65,u66,u67,u68,u69,u70,u71,u72,u73,u74,u75,u76,u77,u78,u79,u80,u81,u82,u83,u84,u85,u86,u87,u88,u89,u90,u91,u92,u93,u94,u95,u96,u97,u98,u99,u100,u101,u102,u103,u104,u105,u106,u107,u108,u109,u110,u111,u112,u113,u114,u115,u116,u117,u118,u119,u120,u121,u122,u123,u124,u125,u126,u127,u128,u129,u130,u131,u132,u133,u134,u135,u136,u137,u138,u139,u140,u141,u142,u143,u144,u145,u146,u147,u148,u149,u150,u151,u152,u153,u154,u155,u156,u157,u158,u159,u160,u161,u162,u163,u164,u165,u166,u167,u168,u169,u170,u171,u172,u173,u174,u175,u176,u177,u178,u179,u180,u181,u182,u183,u184,u185,u186,u187,u188,u189,u190,u191,u192,u193,u194,u195,u196,u197,u198,u199,u200,u201,u202,u203,u204,u205,u206,u207,u208,u209,u210,u211,u212,u213,u214,u215,u216,u217,u218,u219,u220,u221,u222,u223,u224,u225,u226,u227,u228,u229,u230,u231,u232,u233,u234,u235,u236,u237,u238,u239,u240,u241,u242,u243,u244,u245,u246,u247,u248,u249,u250,u251,u252,u253,u254,u255,u256,u257,u258,u259,u260,u261,u262,u263,u264,u265,u266,u267,u268,u269,u270,u271,u272,u273,u274,u275,u276,u277,u278,u279,u280,u281,u282,u283,u284,u285,u286,u287,u288,u289,u290,u291,u292,u293,u294,u295,u296,u297,u298,u299,u300].toArray,[]⟩ W:=by
  simp only [blkOf,bodyOf,blk,Tryz.f15]
  simp only [Nat.reduceEqDiff,if_true,if_false]
  obtain ⟨s0,s1⟩:=hS.out.cell hlt
  have ixb:=ix_boolR (g:=g) hlt (by omega)
  have ixe:=ix_exs (cap:=c2) he.out hlt (by omega)
  unfold Ix at ixb ixe
  simp only [Nat.mul_one,Nat.zero_add] at ixb
  cases hSe:S e with
  | false =>
    rw [hSe] at s0
    have hK2:=hK.out v0
    go_wp2_with fail
    exact hK2 _ _ _ _ _ _ _ _ _ _ _ _ _ _ _ _ _ _ _ _ _ _ _ _ _ _ _ _ _ _ _ _ _ _ _ _ _ _ _ _ _ _ _ _ _ _ _ _ _ _ _ _ _ _ _ _ _ _ _ _ _ _ _ _ _ _ _ _ _ _ _ _ _ _ _ _ _ _ _ _ (hF.out.ext fun a=>by simp [hSe]) (Below.refl _ _)
  | true =>
    rw [hSe] at s0
    obtain ⟨oa,capa,hia,hxok,e0,e1,e2,e3,e4,e5,e6,e7,e8⟩:=ex_cells hXA.out
    obtain ⟨p0,p1⟩:=cells_two hB.out
    obtain ⟨z0,z1,z2,z3,z4,z5,z6⟩:=cells7R hD.out
    have hal:(x.args.length:Int)≤1000:=by
      have h:=hs.out.ex x (List.mem_of_getElem? hx.out)
      unfold wEx at h
      omega
    have hwd:=hs.out
    obtain ⟨XB,hXB⟩:∃ XB,XB = Obj.cells #[.int .i64 x.kind,.int .i64 x.a,.int .i64 x.b,.int .i64 x.c,.string x.name,.string x.state,.int .i64 x.v,.slice oa x.args.length capa,.int .i64 x.pos] 59 (0,0):=⟨_,rfl⟩
    have HXB:=hid hXB
    have H1:Hid (Below W.heap.size W (W.alloc XB)∧(W.alloc XB).heap[W.heap.size]? = some XB):=hid ⟨below_al (Below.refl W.heap.size W) _,al_new rfl⟩
    rw [hXB] at H1
    have hrE:=refE_calB p d x
    rw [hrE] at hK
    clear hrE hwd hia hxok hx
    have HKK:=hid hXA
    clear hXA HKK
    go_upto_region 55 with fail
    rw [← hXB] at H1 ⊢
    obtain ⟨W1,hW1⟩:∃ W1,W1 = W.alloc XB:=⟨_,rfl⟩
    obtain ⟨E,hE⟩:∃ E,E = W.heap.size:=⟨_,rfl⟩
    rw [← hW1,← hE] at H1 ⊢
    have hb1:Below W.heap.size W W1:=by rw [hW1];exact below_al (Below.refl W.heap.size W) _
    have hEB:W1.heap[E]? = some XB:=H1.out.2
    rw [HXB.out] at hEB
    obtain ⟨y0,y1,y2,y3,y4,y5,y6,y7,y8⟩:=cells9 hEB
    have HB1:=hid hb1
    have HEB:=hid hEB
    have hD1:Hid (W1.heap[D]? = some (.cells #[g0,g1,g2,g3,g4,g5,g6] 44 (0,0))):=hid ((hb1.block D (lt_of_heap hD.out)).trans hD.out)
    have hB1:Hid (W1.heap[B]? = some (.cells #[.slice o1 n c1,.slice o2 ne c2] 25 (0,0))):=hid ((hb1.block B (lt_of_heap hB.out)).trans hB.out)
    have hDV1:=hid (hDV.out.below hb1)
    have hPA1:=hid (hPA.out.below hb1)
    have hF1:=hid (hF.out.below hb1)
    have hdc1:Hid (∀ i,i < n→∀ x,p.decls[i]? = some x→DeAt W1 db (doff+i*7) x):=hid fun i hi y hy=>(hdc.out i hi y hy).below hb1
    clear e0 e1 e2 e3 e4 e5 e6 e7 e8 p0 p1 z0 z1 z2 z3 z4 z5 z6 s0 s1 ixb ixe hW1 hE hEB hXB H1 hD hB hDV hPA hF hdc hS hb1
    obtain ⟨z0,z1,z2,z3,z4,z5,z6⟩:=cells7R hD1.out
    have FT:=hid (refFind_t _ d x.name W1 hDV1.out h1 h2)
    unfold FindT at FT
    go_cut [20,21] from 231 to 237 (fun v20 v21 wx=>∃ (V:Nat) (ok:Bool) (s:Int) (j0 j2 j3:Value),v20 = .pointer (some ⟨V,0,none⟩)∧v21 = .bool ok∧Hid (s = (lookV d x.name).sort)∧Hid (ok = okV d x.name)∧Hid (Below W1.heap.size W1 wx)∧Hid (wx.heap[V]? = some (.cells #[j0,.int .i64 s,j2,j3] 36 (0,0))))
    case first =>
      go_wp2_with (go_at_call 24;(with_reducible refine FT.out.mono ?_);rintro e w1 ⟨n0,s,t,xx,ok,rfl,hs1,hx1,hok1,hb1⟩;have HS1:=hid hs1;have HO1:=hid hok1;have HB2:=hid hb1;clear hs1 hx1 hok1 hb1)
      go_meet
      case rel=>exact ⟨w1.heap.size,ok,s,_,_,_,rfl,rfl,HS1,HO1,hid (below_al HB2.out _),hid (al_new rfl)⟩
    case rest =>
      obtain ⟨V,ok,s,j0,j2,j3,rfl,rfl,HS1,HO1,HB2,HV⟩:=hcut
      clear FT z0 z1 z2 z3 z4 z5 z6 y0 y1 y2 y3 y4 y5 y6 y7 y8
      have hE2:=hid ((HB2.out.block E (lt_of_heap HEB.out)).trans HEB.out)
      have hD2:=hid ((HB2.out.block D (lt_of_heap hD1.out)).trans hD1.out)
      have hB2:=hid ((HB2.out.block B (lt_of_heap hB1.out)).trans hB1.out)
      have hDV2:=hid (hDV1.out.below HB2.out)
      have hPA2:=hid (hPA1.out.below HB2.out)
      have hF2:=hid (hF1.out.below HB2.out)
      have hdc2:Hid (∀ i,i < n→∀ x,p.decls[i]? = some x→DeAt wc db (doff+i*7) x):=hid fun i hi y hy=>(hdc1.out i hi y hy).below HB2.out
      have HB3:=hid (HB1.out.trans (HB2.out.mono HB1.out.size))
      go_step
      refine wp_seq_k fun K1 hK1=>?_
      refine in56 (E:=E) (V:=V) (k:=x.kind) (s:=s) (ok:=ok) (b0:=false) (T:=59) (T2:=36) (W:=wc) (hX:=hE2) (hV:=HV) (hK:=hid ?_)
      intros
      dsimp only
      refine hK1 _ _ ?_
      refine wp_seq_k fun K2 hK2=>?_
      refine in58 (D:=D) (E:=E) (k:=x.kind) (nm:=x.name) (st:=x.state) (d:=d) (T:=59) (W:=wc) (hX:=hE2) (hD:=hD2) (hDV:=hDV2) (h1:=h1) (h2:=h2) (h3:=h3) (hK:=hid ?_)
      intros
      rename_i W4 hb4
      dsimp only
      have hE4:=hid ((hb4.block E (lt_of_heap hE2.out)).trans hE2.out)
      have hB4:=hid ((hb4.block B (lt_of_heap hB2.out)).trans hB2.out)
      have hPA4:=hid (hPA2.out.below hb4)
      have hF4:=hid (hF2.out.below hb4)
      have hdc4:Hid (∀ i,i < n→∀ x,p.decls[i]? = some x→DeAt W4 db (doff+i*7) x):=hid fun i hi y hy=>(hdc2.out i hi y hy).below hb4
      refine hK2 _ _ ?_
      refine wp_seq_k fun K3 hK3=>?_
      refine in60 p hs (B:=B) (E:=E) (k:=x.kind) (nm:=x.name) (oa:=oa) (na:=x.args.length) (ca:=capa) (nal:=hal) (o1:=o1) (n:=n) (c1:=c1) (db:=db) (doff:=doff) (nl:=nl) (T:=59) (W:=W4) (hn:=hn) (hX:=hE4) (hB:=hB4) (hPA:=hPA4) (hd:=hd) (hdc:=hdc4) (hK:=hid ?_)
      intros
      rename_i W5 hb5
      dsimp only
      have hE5:=hid ((hb5.block E (lt_of_heap hE4.out)).trans hE4.out)
      have hF5:=hid (hF4.out.below hb5)
      refine hK3 _ _ ?_
      refine in63 p hs (E:=E) (v0:=v0) (P:=P) (hP:=hP) (pos:=x.pos) (T:=59) (W:=W5) (hX:=hE5) (hF:=hF5) (hK:=hid ?_)
      intros
      rename_i v9 _ _ _ _ _ _ W6 hg6 hb6
      dsimp only
      show Q Exit.normal _ _
      refine hK.out v9 _ _ _ _ _ _ _ _ _ _ _ _ _ _ _ _ _ _ _ _ _ _ _ _ _ _ _ _ _ _ _ _ _ _ _ _ _ _ _ _ _ _ _ _ _ _ _ _ _ _ _ _ _ _ _ _ _ _ _ _ _ _ _ _ _ _ _ _ _ _ _ _ _ _ _ _ _ _ _ _ (hg6.ext fun a=>?_) ((HB3.out.trans (hb4.mono HB3.out.size)).trans ((hb5.trans (hb6.mono hb5.size)).mono (Nat.le_trans HB3.out.size hb4.size)))
      rw [HS1.out,HO1.out,hSe]
      simp only [true_and]
end
section
open Go.RowKit Lx Go.Shelf Go.Maps
attribute [local go_sem] Oper.semAt_some
set_option linter.unusedVariables false
set_option maxHeartbeats 16000000 in
set_option maxRecDepth 100000 in
theorem in13 {u0 u2 u4 u5 u7 u8 u9 u10 u11 u12 u13 u14 u15 u18 u19 u20 u21 u22 u23 u24 u25 u26 u27 u28 u29 u30 u31 u32 u33 u34 u35 u36 u37 u38 u39 u40 u41 u42 u43 u44 u45 u46 u47 u48 u49 u50 u51 u52 u53 u54 u55 u56 u57 u58 u59 u60 u61 u62 u63 u64 u65 u66 u67 u68 u69 u70 u71 u72 u73 u74 u75 u76 u77 u78 u79 u80 u81 u82 u83 u84 u85 u86 u87 u88 u89 u90 u91 u92 u93 u94 u95 u96 u97 u98 u99 u100 u101 u102 u103 u104 u105 u106 u107 u108 u109 u110 u111 u112 u113 u114 u115 u116 u117 u118 u119 u120 u121 u122 u123 u124 u125 u126 u127 u128 u129 u130 u131 u132 u133 u134 u135 u136 u137 u138 u139 u140 u141 u142 u143 u144 u145 u146 u147 u148 u149 u150 u151 u152 u153 u154 u155 u156 u157 u158 u159 u160 u161 u162 u163 u164 u165 u166 u167 u168 u169 u170 u171 u172 u173 u174 u175 u176 u177 u178 u179 u180 u181 u182 u183 u184 u185 u186 u187 u188 u189 u190 u191 u192 u193 u194 u195 u196 u197 u198 u199 u200 u201 u202 u203 u204 u205 u206 u207 u208 u209 u210 u211 u212 u213 u214 u215 u216 u217 u218 u219 u220 u221 u222 u223 u224 u225 u226 u227 u228 u229 u230 u231 u232 u233 u234 u235 u236 u237 u238 u239 u240 u241 u242 u243 u244 u245 u246 u247 u248 u249 u250 u251 u252 u253 u254 u255 u256 u257 u258 u259 u260 u261 u262 u263 u264 u265 u266 u267 u268 u269 u270 u271 u272 u273 u274 u275 u276 u277 u278 u279 u280 u281 u282 u283 u284 u285 u286 u287 u288 u289 u290 u291 u292 u293 u294 u295 u296 u297 u298 u299 u300:Value} (p:Pr) (hs:Hid (Small p)) (d:De) (B D g:Nat) (S:Nat→Bool) (v0:Value) (P:Int→Prop) (hP:Hid (∀ a,P a→a∈posL p))
    (o1 o2:Option Addr) (n c1 ne c2 db doff xb xoff:Nat) (hSR:Hid (∀ k,k < ne→(S k = true↔Reach p (rootsN d) k))) (nl:(n:Int)≤60) (nel:(ne:Int)≤300) (hn:Hid (p.decls.length = n)) (hne:Hid (p.exprs.length = ne)) (hd:Hid (0 < n→o1 = some ⟨db,doff,none⟩)) (he:Hid (0 < ne→o2 = some ⟨xb,xoff,none⟩))
    (g0 g1 g2 g3 g4 g5 g6:Value) (h1:d.params.length≤600) (h2:d.items.length≤600) (h3:Hid (∀ x∈d.items,x.states.length≤1000))
    (Q:Exit→Act→World→Prop) (W:World) (hdc:Hid (∀ i,i < n→∀ x,p.decls[i]? = some x→DeAt W db (doff+i*7) x)) (hxc:Hid (∀ i,i < ne→∀ x,p.exprs[i]? = some x→ExAt W xb (xoff+i*9) x)) (hB:Hid (W.heap[B]? = some (.cells #[.slice o1 n c1,.slice o2 ne c2] 25 (0,0)))) (hPA:Hid (ProgAt W (.slice o1 n c1) (.slice o2 ne c2) p))
    (hD:Hid (W.heap[D]? = some (.cells #[g0,g1,g2,g3,g4,g5,g6] 44 (0,0)))) (hDV:Hid (DeVal W (.agg #[g0,g1,g2,g3,g4,g5,g6]) d)) (hS:Hid (BoolRow W g ne S)) (hF:Hid (FlGot W v0 P))
    (hK:Hid (∀ (v3 v17 v18 v19 v20 v21 v22 v215 v216 v217 v218 v219 v220 v221 v222 v223 v224 v225 v226 v227 v228 v229 v230 v231 v232 v233 v234 v235 v236 v237 v238 v239 v240 v241 v242 v243 v244 v245 v246 v247 v248 v249 v250 v251 v252 v253 v254 v255 v256 v257 v258 v259 v260 v261 v262 v263 v264 v265 v266 v267 v268 v269 v270 v271 v272 v273 v274 v275 v276 v277 v278 v279 v280 v281 v282 v283 v284 v285 v286 v287 v288 v289 v290 v291 v292 v293 v294:Value) W',FlGot W' v3 (fun a=>P a∨RefEs p d ne a)→Below W.heap.size W W'→Q .normal ⟨[u0,.pointer (some ⟨B,0,none⟩),u2,v3,u4,u5,.pointer (some ⟨D,0,none⟩),u7,u8,u9,u10,u11,u12,u13,u14,u15,.slice (some ⟨g,0,none⟩) ne ne,v17,v18,v19,v20,v21,v22,u23,u24,u25,u26,u27,u28,u29,u30,u31,u32,u33,u34,u35,u36,u37,u38,u39,u40,u41,u42,u43,u44,u45,u46,u47,u48,u49,u50,u51,u52,u53,u54,u55,u56,u57,u58,u59,u60,u61,u62,u63,u64,u65,u66,u67,u68,u69,u70,u71,u72,u73,u74,u75,u76,u77,u78,u79,u80,u81,u82,u83,u84,u85,u86,u87,u88,u89,u90,u91,u92,u93,u94,u95,u96,u97,u98,u99,u100,u101,u102,u103,u104,u105,u106,u107,u108,u109,u110,u111,u112,u113,u114,u115,u116,u117,u118,u119,u120,u121,u122,u123,u124,u125,u126,u127,u128,u129,u130,u131,u132,u133,u134,u135,u136,u137,u138,u139,u140,u141,u142,u143,u144,u145,u146,u147,u148,u149,u150,u151,u152,u153,u154,u155,u156,u157,u158,u159,u160,u161,u162,u163,u164,u165,u166,u167,u168,u169,u170,u171,u172,u173,u174,u175,u176,u177,u178,u179,u180,u181,u182,u183,u184,u185,u186,u187,u188,u189,u190,u191,u192,u193,u194,u195,u196,u197,u198,u199,u200,u201,u202,u203,u204,u205,u206,u207,u208,u209,u210,u211,u212,u213,u214,v215,v216,v217,v218,v219,v220,v221,v222,v223,v224,v225,v226,v227,v228,v229,v230,v231,v232,v233,v234,v235,v236,v237,v238,v239,v240,v241,v242,v243,v244,v245,v246,v247,v248,v249,v250,v251,v252,v253,v254,v255,v256,v257,v258,v259,v260,v261,v262,v263,v264,v265,v266,v267,v268,v269,v270,v271,v272,v273,v274,v275,v276,v277,v278,v279,v280,v281,v282,v283,v284,v285,v286,v287,v288,v289,v290,v291,v292,v293,v294,u295,u296,u297,u298,u299,u300].toArray,[]⟩ W')) :
    (blkOf Tryz.f15 13).wp Tryz.prog Q ⟨[u0,.pointer (some ⟨B,0,none⟩),u2,v0,u4,u5,.pointer (some ⟨D,0,none⟩),u7,u8,u9,u10,u11,u12,u13,u14,u15,.slice (some ⟨g,0,none⟩) ne ne,.int .i64 0,u18,u19,u20,u21,u22,u23,u24,u25,u26,u27,u28,u29,u30,u31,u32,u33,u34,u35,u36,u37,u38,u39,u40,u41,u42,u43,u44,u45,u46,u47,u48,u49,u50,u51,u52,u53,u54,u55,u56,u57,u58,u59,u60,u61,u62,u63,u64,u65,u66,u67,u68,u69,u70,u71,u72,u73,u74,u75,u76,u77,u78,u79,u80,u81,u82,u83,u84,u85,u86,u87,u88,u89,u90,u91,u92,u93,u94,u95,u96,u97,u98,u99,u100,u101,u102,u103,u104,u105,u106,u107,u108,u109,u110,u111,u112,u113,u114,u115,u116,u117,u118,u119,u120,u121,u122,u123,u124,u125,u126,u127,u128,u129,u130,u131,u132,u133,u134,u135,u136,u137,u138,u139,u140,u141,u142,u143,u144,u145,u146,u147,u148,u149,u150,u151,u152,u153,u154,u155,u156,u157,u158,u159,u160,u161,u162,u163,u164,u165,u166,u167,u168,u169,u170,u171,u172,u173,u174,u175,u176,u177,u178,u179,u180,u181,u182,u183,u184,u185,u186,u187,u188,u189,u190,u191,u192,u193,u194,u195,u196,u197,u198,u199,u200,u201,u202,u203,u204,u205,u206,u207,u208,u209,u210,u211,u212,u213,u214,u215,u216,u217,u218,u219,u220,u221,u222,u223,u224,u225,u226,u227,u228,u229,u230,u231,u232,u233,u234,u235,u236,u237,u238,u239,u240,u241,u242,u243,u244,u245,u246,u247,u248,u249,u250,u251,u252,u253,u254,u255,u256,u257,u258,u259,u260,u261,u262,u263,u264,u265,u266,u267,u268,u269,u270,u271,u272,u273,u274,u275,u276,u277,u278,u279,u280,u281,u282,u283,u284,u285,u286,u287,u288,u289,u290,u291,u292,u293,u294,u295,u296,u297,u298,u299,u300].toArray,[]⟩ W:=by
  simp only [blkOf,bodyOf,blk,Tryz.f15]
  simp only [Nat.reduceEqDiff,if_true,if_false]
  go_wp2_with fail
  go_loopw [3,17] (fun fv iv Y=>∃ (c:Nat) (v:Value),v = fv∧iv = .int .i64 (c:Int)∧c≤ne∧Hid (FlGot Y v (fun a=>P a∨RefEs p d c a))∧Hid (Below W.heap.size W Y)) (fun _ i _=>ne - litLen i)
  case atStart=>exact ⟨0,_,rfl,rfl,Nat.zero_le _,hid (hF.out.ext fun a=>⟨fun h=>.inl h,fun h=>h.elim id fun ⟨_,_,h,_⟩=>by omega⟩),hid (Below.refl _ _)⟩
  case round =>
    obtain ⟨c,v,rfl,rfl,hc,hG,hBl⟩:=hrel
    by_cases hca:c < ne
    · have q0:(c:Int) < (ne:Int):=by omega
      obtain ⟨x,hx⟩:∃ x,p.exprs[c]? = some x:=⟨_,List.getElem?_eq_getElem (by have:=hne.out;omega)⟩
      have HX:=hid hx
      have hdc2:Hid (∀ i,i < n→∀ x,p.decls[i]? = some x→DeAt wr db (doff+i*7) x):=hid fun i hi y hy=>(hdc.out i hi y hy).below hBl.out
      have hXA:Hid (ExAt wr xb (xoff+c*9) x):=hid ((hxc.out c hca x hx).below hBl.out)
      have hB2:Hid (wr.heap[B]? = some (.cells #[.slice o1 n c1,.slice o2 ne c2] 25 (0,0))):=hid ((hBl.out.block B (lt_of_heap hB.out)).trans hB.out)
      have hD2:Hid (wr.heap[D]? = some (.cells #[g0,g1,g2,g3,g4,g5,g6] 44 (0,0))):=hid ((hBl.out.block D (lt_of_heap hD.out)).trans hD.out)
      have hPA2:=hid (hPA.out.below hBl.out)
      have hDV2:=hid (hDV.out.below hBl.out)
      have hS2:=hid (hS.out.below hBl.out hS.out.lt)
      have hpx:Hid (x.pos∈posL p):=hid (by
        unfold posL
        exact List.mem_cons_of_mem _ (List.mem_append.2 (.inr (List.mem_map.2 ⟨x,List.mem_of_getElem? hx,rfl⟩))))
      have hP2:Hid (∀ a,(P a∨RefEs p d c a)→a∈posL p):=hid (fun a h=>h.elim (hP.out a) fun ⟨_,y,_,_,hy,_,e⟩=>by
        subst e
        unfold posL
        exact List.mem_cons_of_mem _ (List.mem_append.2 (.inr (List.mem_map.2 ⟨y,List.mem_of_getElem? hy,rfl⟩))))
      clear hx hB hD hF
      go_upto_block 14 with fail
      refine in14 p hs d (B:=B) (D:=D) (e:=c) (g:=g) (S:=S) (x:=x) HX (v0:=v) (P:=fun a=>P a∨RefEs p d c a) hP2 hpx (o1:=o1) (o2:=o2) (n:=n) (c1:=c1) (ne:=ne) (c2:=c2) (db:=db) (doff:=doff) (xb:=xb) (xoff:=xoff) nl nel hca hn hd he (g0:=g0) (g1:=g1) (g2:=g2) (g3:=g3) (g4:=g4) (g5:=g5) (g6:=g6) h1 h2 h3 (W:=wr) (hdc:=hdc2) (hB:=hB2) (hPA:=hPA2) (hXA:=hXA) (hD:=hD2) (hDV:=hDV2) (hS:=hS2) (hF:=hG) (hK:=hid ?_)
      intros
      rename_i v1 _ _ _ _ _ _ _ _ _ _ _ _ _ _ _ _ _ _ _ _ _ _ _ _ _ _ _ _ _ _ _ _ _ _ _ _ _ _ _ _ _ _ _ _ _ _ _ _ _ _ _ _ _ _ _ _ _ _ _ _ _ _ _ _ _ _ _ _ _ _ _ _ _ _ _ _ _ _ _ W2 hg2 hb2
      dsimp only
      go_wp2_with fail
      refine ⟨⟨c+1,v1,rfl,by go_num,by omega,hid (hg2.ext fun a=>?_),hid (hBl.out.trans (hb2.mono hBl.out.size))⟩,by simp [litLen];omega⟩
      rw [refEs_succ HX.out,hSR.out c hca,or_assoc]
    · obtain rfl:c = ne:=by omega
      have q0:¬ (c:Int) < (c:Int):=by omega
      clear hB hD hF
      go_wp2_with fail
      exact hK.out v _ _ _ _ _ _ _ _ _ _ _ _ _ _ _ _ _ _ _ _ _ _ _ _ _ _ _ _ _ _ _ _ _ _ _ _ _ _ _ _ _ _ _ _ _ _ _ _ _ _ _ _ _ _ _ _ _ _ _ _ _ _ _ _ _ _ _ _ _ _ _ _ _ _ _ _ _ _ _ _ _ _ _ _ _ _ _ hG.out hBl.out
end
end Go.Proofs.YtdlmfeflinbbjaaGreat
