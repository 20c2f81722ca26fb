import Derived.Test.YtdlmfeflinbbjaaGreatNmQD
import Derived.Sort.QuietIn
import Derived.Deep.CutBlock
import Derived.Deep.Cut
namespace Go.Proofs.YtdlmfeflinbbjaaGreat
open Go.Lib (hid)
section
noncomputable def blk (n:Nat):Code→Option Code
  | .block i c=>if i = n then some (.block i c) else blk n c
  | .seq a b=>match blk n a with
    | some c=>some c
    | none=>blk n b
  | .cond _ a b=>match blk n a with
    | some c=>some c
    | none=>blk n b
  | .loop c=>blk n c
  | _=>none
noncomputable def bodyOf (f:Func):Code:=match f.body with
  | some c=>c
  | none=>.skip
noncomputable def blkOf (f:Func) (n:Nat):Code:=match blk n (bodyOf f) with
  | some c=>c
  | none=>.skip
end
section
open Go.RowKit Lx Go.Shelf Go.Maps
attribute [local go_sem] Oper.semAt_some
def samS (l:List ByteArray) (a c:Nat):Bool:=(List.range c).any fun k=>decide (l[k]? = l[a]?)
theorem samS_succ (l:List ByteArray) (a c:Nat):samS l a (c+1) = (samS l a c || decide (l[c]? = l[a]?)):=by
  unfold samS
  rw [List.range_succ,List.any_append]
  simp
theorem same_at {l:List ByteArray} {a c:Nat} (ha:a < l.length) (hc:c < l.length):((l[a]?.getD ⟨#[]⟩).toList == (l[c]?.getD ⟨#[]⟩).toList) = decide (l[c]? = l[a]?):=by
  rw [List.getElem?_eq_getElem ha,List.getElem?_eq_getElem hc]
  simp only [Option.getD_some,Option.some.injEq]
  by_cases h:l[c] = l[a]
  · rw [h];simp
  · rw [decide_eq_false h]
    exact beq_false_of_ne fun e=>h ((toListE _ _).1 e).symm
theorem ix_strsR {o:Option Addr} {n cap g off:Nat} (h:0 < n→o = some ⟨g,off,none⟩) {j:Nat} (hj:j < n) (hn:n≤9223372036854775807):Ix 60 1 (.slice o n cap) g off j:=by
  intro W
  rw [h (by omega)]
  have h1:(j:Int) < (n:Int):=by omega
  have h2:(j:Int)≤9223372036854775807:=by omega
  go_simp
set_option maxHeartbeats 16000000 in
set_option maxRecDepth 100000 in
theorem in11 {u0 u1 u2 u3 u4 u5 u6 u7 u8 u9 u11 u12 u16 u17 u18 u19 u20 u21 u22 u23 u24 u25 u26 u27 u28 u29 u30 u31 u32 u33 u34 u35 u36 u37 u38 u39 u40 u41 u42 u43 u44 u45 u46 u47 u48 u49 u50 u51 u52 u53 u54 u55 u56 u57 u58 u59 u60 u61 u62 u63 u64 u65 u66 u67 u68 u69 u70 u71 u72 u73 u74 u75 u76 u77 u78 u79 u80 u81 u82 u83 u84 u85 u86 u87 u88 u89 u90 u91 u92 u93 u94 u95 u96 u97 u98 u99 u100 u101 u102 u103 u104 u105 u106 u107 u108 u109 u110 u111 u112 u113 u114 u115 u116 u117 u118 u119 u120 u121 u122 u123 u124 u125 u126 u127 u128 u129 u130 u131 u132 u133 u134 u135 u136 u137 u138 u139 u140 u141 u142 u143 u144 u145 u146 u147 u148 u149 u150 u151 u152 u153 u154 u155 u156 u157 u158 u159 u160 u161 u162 u163 u164 u165 u166 u167 u168 u169 u170 u171 u172 u173 u174 u175 u176 u177 u178 u179 u180 u181 u182 u183 u184 u185 u186 u187 u188 u189 u190 u191 u192 u193 u194 u195 u196 u197 u198 u199 u200 u201 u202 u203 u204 u205 u206 u207 u208 u209 u210 u211 u212 u213 u214 u215 u216 u217 u218 u219 u220 u221 u222 u223 u224 u225 u226 u227 u228 u229 u230 u231 u232 u233 u234 u235 u236 u237 u238 u239 u240 u241 u242 u243 u244 u245 u246 u247 u248 u249 u250 u251 u252 u253 u254 u255 u256 u257 u258 u259 u260 u261 u262 u263 u264 u265 u266 u267 u268 u269 u270 u271 u272 u273 u274 u275 u276 u277 u278 u279 u280 u281 u282 u283 u284 u285 u286 u287 u288 u289 u290 u291 u292 u293 u294 u295 u296 u297 u298 u299 u300:Value} (X a:Nat) (b0:Bool) (al:(a:Int)≤1000) (l:List ByteArray) (o:Option Addr) (n cap:Nat) (hln:Hid (l.length = n)) (hlt:a < n) (nl:(n:Int)≤1000) (T:TypeId) (i0 i1 i2 i3 i4 i6 i7 i8:Value)
    (Q:Exit→Act→World→Prop) (W:World) (hX:Hid (W.heap[X]? = some (.cells #[i0,i1,i2,i3,i4,.slice o n cap,i6,i7,i8] T (0,0)))) (hS:Hid (StrsAt W (.slice o n cap) l))
    (hK:Hid (∀ (v137 v138 v139 v140 v141 v142 v143 v144 v145 v146 v147 v148 v149 v150 v151 v152 v153 v154 v155:Value) W',Below W.heap.size W W'→Q .normal ⟨[u0,u1,u2,u3,u4,u5,u6,u7,u8,u9,.pointer (some ⟨X,0,none⟩),u11,u12,.bool (b0 || samS l a a),.int .i64 (a:Int),.int .i64 (a:Int),u16,u17,u18,u19,u20,u21,u22,u23,u24,u25,u26,u27,u28,u29,u30,u31,u32,u33,u34,u35,u36,u37,u38,u39,u40,u41,u42,u43,u44,u45,u46,u47,u48,u49,u50,u51,u52,u53,u54,u55,u56,u57,u58,u59,u60,u61,u62,u63,u64,u65,u66,u67,u68,u69,u70,u71,u72,u73,u74,u75,u76,u77,u78,u79,u80,u81,u82,u83,u84,u85,u86,u87,u88,u89,u90,u91,u92,u93,u94,u95,u96,u97,u98,u99,u100,u101,u102,u103,u104,u105,u106,u107,u108,u109,u110,u111,u112,u113,u114,u115,u116,u117,u118,u119,u120,u121,u122,u123,u124,u125,u126,u127,u128,u129,u130,u131,u132,u133,u134,u135,u136,v137,v138,v139,v140,v141,v142,v143,v144,v145,v146,v147,v148,v149,v150,v151,v152,v153,v154,v155,u156,u157,u158,u159,u160,u161,u162,u163,u164,u165,u166,u167,u168,u169,u170,u171,u172,u173,u174,u175,u176,u177,u178,u179,u180,u181,u182,u183,u184,u185,u186,u187,u188,u189,u190,u191,u192,u193,u194,u195,u196,u197,u198,u199,u200,u201,u202,u203,u204,u205,u206,u207,u208,u209,u210,u211,u212,u213,u214,u215,u216,u217,u218,u219,u220,u221,u222,u223,u224,u225,u226,u227,u228,u229,u230,u231,u232,u233,u234,u235,u236,u237,u238,u239,u240,u241,u242,u243,u244,u245,u246,u247,u248,u249,u250,u251,u252,u253,u254,u255,u256,u257,u258,u259,u260,u261,u262,u263,u264,u265,u266,u267,u268,u269,u270,u271,u272,u273,u274,u275,u276,u277,u278,u279,u280,u281,u282,u283,u284,u285,u286,u287,u288,u289,u290,u291,u292,u293,u294,u295,u296,u297,u298,u299,u300].toArray,[]⟩ W')) :
    (blkOf Tryz.f15 11).wp Tryz.prog Q ⟨[u0,u1,u2,u3,u4,u5,u6,u7,u8,u9,.pointer (some ⟨X,0,none⟩),u11,u12,.bool b0,.int .i64 (a:Int),.int .i64 0,u16,u17,u18,u19,u20,u21,u22,u23,u24,u25,u26,u27,u28,u29,u30,u31,u32,u33,u34,u35,u36,u37,u38,u39,u40,u41,u42,u43,u44,u45,u46,u47,u48,u49,u50,u51,u52,u53,u54,u55,u56,u57,u58,u59,u60,u61,u62,u63,u64,u65,u66,u67,u68,u69,u70,u71,u72,u73,u74,u75,u76,u77,u78,u79,u80,u81,u82,u83,u84,u85,u86,u87,u88,u89,u90,u91,u92,u93,u94,u95,u96,u97,u98,u99,u100,u101,u102,u103,u104,u105,u106,u107,u108,u109,u110,u111,u112,u113,u114,u115,u116,u117,u118,u119,u120,u121,u122,u123,u124,u125,u126,u127,u128,u129,u130,u131,u132,u133,u134,u135,u136,u137,u138,u139,u140,u141,u142,u143,u144,u145,u146,u147,u148,u149,u150,u151,u152,u153,u154,u155,u156,u157,u158,u159,u160,u161,u162,u163,u164,u165,u166,u167,u168,u169,u170,u171,u172,u173,u174,u175,u176,u177,u178,u179,u180,u181,u182,u183,u184,u185,u186,u187,u188,u189,u190,u191,u192,u193,u194,u195,u196,u197,u198,u199,u200,u201,u202,u203,u204,u205,u206,u207,u208,u209,u210,u211,u212,u213,u214,u215,u216,u217,u218,u219,u220,u221,u222,u223,u224,u225,u226,u227,u228,u229,u230,u231,u232,u233,u234,u235,u236,u237,u238,u239,u240,u241,u242,u243,u244,u245,u246,u247,u248,u249,u250,u251,u252,u253,u254,u255,u256,u257,u258,u259,u260,u261,u262,u263,u264,u265,u266,u267,u268,u269,u270,u271,u272,u273,u274,u275,u276,u277,u278,u279,u280,u281,u282,u283,u284,u285,u286,u287,u288,u289,u290,u291,u292,u293,u294,u295,u296,u297,u298,u299,u300].toArray,[]⟩ W:=by
  simp only [blkOf,bodyOf,blk,Tryz.f15]
  simp only [Nat.reduceEqDiff,if_true,if_false]
  go_wp2_with fail
  go_loopw [13,15] (fun bv iv Y=>∃ c:Nat,iv = .int .i64 (c:Int)∧c≤a∧bv = .bool (b0 || samS l a c)∧Hid (Below W.heap.size W Y)) (fun _ i _=>a - litLen i)
  case atStart=>exact ⟨0,rfl,Nat.zero_le _,by simp [samS],hid (Below.refl _ _)⟩
  case round =>
    obtain ⟨c,rfl,hc,rfl,hB⟩:=hrel
    obtain ⟨x0,x1,x2,x3,x4,x5,x6,x7,x8⟩:=cells9 ((hB.out.block X (lt_of_heap hX.out)).trans hX.out)
    by_cases hca:c < a
    · have q0:(c:Int) < (a:Int):=by omega
      obtain ⟨o',cap',b,off,e,_,_,h3,h4⟩:=id hS.out
      rw [hln.out] at e h3 h4
      cases e
      have ixa:=ix_strsR (cap:=cap) h3 hlt (by omega)
      have ixc:=ix_strsR (cap:=cap) h3 (show c < n by omega) (by omega)
      unfold Ix at ixa ixc
      have ca:=cell_on hB.out (h4 a hlt)
      have cc:=cell_on hB.out (h4 c (by omega))
      simp only [Nat.mul_one] at ixa ixc ca cc
      clear h3 h4 hS hX
      have HSU:=hid (samS_succ l a c)
      cases hb:(b0 || samS l a c) with
      | true =>
        go_wp2_with fail
        go_quiet (fail)
        go_wp2_with fail
        exact ⟨⟨c+1,by go_num,by omega,by rw [HSU.out,← Bool.or_assoc,hb];rfl,hid (below_dn hB.out _)⟩,by simp [litLen];omega⟩
      | false =>
        go_wp2_with fail
        go_quiet (fail)
        go_wp2_with fail
        exact ⟨⟨c+1,by go_num,by omega,by rw [HSU.out,← Bool.or_assoc,hb,Bool.false_or,same_at (by rw [hln.out];exact hlt) (by rw [hln.out];omega)],hid (below_dn hB.out _)⟩,by simp [litLen];omega⟩
    · obtain rfl:c = a:=by omega
      have q0:¬ (c:Int) < (c:Int):=by omega
      clear hS hX
      go_wp2_with fail
      exact hK.out _ _ _ _ _ _ _ _ _ _ _ _ _ _ _ _ _ _ _ _ hB.out
end
section
open Go.RowKit Lx Go.Shelf Go.Maps
attribute [local go_sem] Oper.semAt_some
def samT (l:List ByteArray) (c:Nat):Bool:=(List.range c).any fun a=>samS l a a
theorem samT_succ (l:List ByteArray) (c:Nat):samT l (c+1) = (samT l c || samS l c c):=by
  unfold samT
  rw [List.range_succ,List.any_append]
  simp
theorem samT_all (l:List ByteArray):samT l l.length = dupB l:=by
  have h:=dupB_iff l
  have e:samT l l.length = true↔dupB l = true:=by
    rw [h]
    unfold samT samS
    simp only [List.any_eq_true,List.mem_range,decide_eq_true_eq]
    constructor
    · rintro ⟨a,h1,k,h2,h3⟩;exact ⟨a,k,h2,h1,h3.symm⟩
    · rintro ⟨a,k,h2,h1,h3⟩;exact ⟨a,h1,k,h2,h3.symm⟩
  cases h1:samT l l.length <;> cases h2:dupB l
  · rfl
  · rw [h1,h2] at e;cases (e.2 rfl)
  · rw [h1,h2] at e;cases (e.1 rfl)
  · rfl
set_option maxHeartbeats 16000000 in
set_option maxRecDepth 100000 in
theorem in9 {u0 u1 u2 u3 u4 u5 u6 u7 u8 u9 u11 u12 u15 u16 u17 u18 u19 u20 u21 u22 u23 u24 u25 u26 u27 u28 u29 u30 u31 u32 u33 u34 u35 u36 u37 u38 u39 u40 u41 u42 u43 u44 u45 u46 u47 u48 u49 u50 u51 u52 u53 u54 u55 u56 u57 u58 u59 u60 u61 u62 u63 u64 u65 u66 u67 u68 u69 u70 u71 u72 u73 u74 u75 u76 u77 u78 u79 u80 u81 u82 u83 u84 u85 u86 u87 u88 u89 u90 u91 u92 u93 u94 u95 u96 u97 u98 u99 u100 u101 u102 u103 u104 u105 u106 u107 u108 u109 u110 u111 u112 u113 u114 u115 u116 u117 u118 u119 u120 u121 u122 u123 u124 u125 u126 u127 u128 u129 u130 u131 u132 u133 u134 u135 u136 u137 u138 u139 u140 u141 u142 u143 u144 u145 u146 u147 u148 u149 u150 u151 u152 u153 u154 u155 u156 u157 u158 u159 u160 u161 u162 u163 u164 u165 u166 u167 u168 u169 u170 u171 u172 u173 u174 u175 u176 u177 u178 u179 u180 u181 u182 u183 u184 u185 u186 u187 u188 u189 u190 u191 u192 u193 u194 u195 u196 u197 u198 u199 u200 u201 u202 u203 u204 u205 u206 u207 u208 u209 u210 u211 u212 u213 u214 u215 u216 u217 u218 u219 u220 u221 u222 u223 u224 u225 u226 u227 u228 u229 u230 u231 u232 u233 u234 u235 u236 u237 u238 u239 u240 u241 u242 u243 u244 u245 u246 u247 u248 u249 u250 u251 u252 u253 u254 u255 u256 u257 u258 u259 u260 u261 u262 u263 u264 u265 u266 u267 u268 u269 u270 u271 u272 u273 u274 u275 u276 u277 u278 u279 u280 u281 u282 u283 u284 u285 u286 u287 u288 u289 u290 u291 u292 u293 u294 u295 u296 u297 u298 u299 u300:Value} (X:Nat) (b0:Bool) (l:List ByteArray) (o:Option Addr) (n cap:Nat) (hln:Hid (l.length = n)) (nl:(n:Int)≤1000) (k:Int) (T:TypeId) (i1 i2 i3 i4 i6 i7 i8:Value)
    (Q:Exit→Act→World→Prop) (W:World) (hX:Hid (W.heap[X]? = some (.cells #[.int .i64 k,i1,i2,i3,i4,.slice o n cap,i6,i7,i8] T (0,0)))) (hS:Hid (StrsAt W (.slice o n cap) l))
    (hK:Hid (∀ (v14 v15 v125 v126 v127 v128 v129 v130 v131 v132 v133 v134 v135 v136 v137 v138 v139 v140 v141 v142 v143 v144 v145 v146 v147 v148 v149 v150 v151 v152 v153 v154 v155:Value) W',Below W.heap.size W W'→Q .normal ⟨[u0,u1,u2,u3,u4,u5,u6,u7,u8,u9,.pointer (some ⟨X,0,none⟩),u11,u12,.bool (b0 || (k == 6 && dupB l)),v14,v15,u16,u17,u18,u19,u20,u21,u22,u23,u24,u25,u26,u27,u28,u29,u30,u31,u32,u33,u34,u35,u36,u37,u38,u39,u40,u41,u42,u43,u44,u45,u46,u47,u48,u49,u50,u51,u52,u53,u54,u55,u56,u57,u58,u59,u60,u61,u62,u63,u64,u65,u66,u67,u68,u69,u70,u71,u72,u73,u74,u75,u76,u77,u78,u79,u80,u81,u82,u83,u84,u85,u86,u87,u88,u89,u90,u91,u92,u93,u94,u95,u96,u97,u98,u99,u100,u101,u102,u103,u104,u105,u106,u107,u108,u109,u110,u111,u112,u113,u114,u115,u116,u117,u118,u119,u120,u121,u122,u123,u124,v125,v126,v127,v128,v129,v130,v131,v132,v133,v134,v135,v136,v137,v138,v139,v140,v141,v142,v143,v144,v145,v146,v147,v148,v149,v150,v151,v152,v153,v154,v155,u156,u157,u158,u159,u160,u161,u162,u163,u164,u165,u166,u167,u168,u169,u170,u171,u172,u173,u174,u175,u176,u177,u178,u179,u180,u181,u182,u183,u184,u185,u186,u187,u188,u189,u190,u191,u192,u193,u194,u195,u196,u197,u198,u199,u200,u201,u202,u203,u204,u205,u206,u207,u208,u209,u210,u211,u212,u213,u214,u215,u216,u217,u218,u219,u220,u221,u222,u223,u224,u225,u226,u227,u228,u229,u230,u231,u232,u233,u234,u235,u236,u237,u238,u239,u240,u241,u242,u243,u244,u245,u246,u247,u248,u249,u250,u251,u252,u253,u254,u255,u256,u257,u258,u259,u260,u261,u262,u263,u264,u265,u266,u267,u268,u269,u270,u271,u272,u273,u274,u275,u276,u277,u278,u279,u280,u281,u282,u283,u284,u285,u286,u287,u288,u289,u290,u291,u292,u293,u294,u295,u296,u297,u298,u299,u300].toArray,[]⟩ W')) :
    (blkOf Tryz.f15 9).wp Tryz.prog Q ⟨[u0,u1,u2,u3,u4,u5,u6,u7,u8,u9,.pointer (some ⟨X,0,none⟩),u11,u12,.bool b0,.int .i64 0,u15,u16,u17,u18,u19,u20,u21,u22,u23,u24,u25,u26,u27,u28,u29,u30,u31,u32,u33,u34,u35,u36,u37,u38,u39,u40,u41,u42,u43,u44,u45,u46,u47,u48,u49,u50,u51,u52,u53,u54,u55,u56,u57,u58,u59,u60,u61,u62,u63,u64,u65,u66,u67,u68,u69,u70,u71,u72,u73,u74,u75,u76,u77,u78,u79,u80,u81,u82,u83,u84,u85,u86,u87,u88,u89,u90,u91,u92,u93,u94,u95,u96,u97,u98,u99,u100,u101,u102,u103,u104,u105,u106,u107,u108,u109,u110,u111,u112,u113,u114,u115,u116,u117,u118,u119,u120,u121,u122,u123,u124,u125,u126,u127,u128,u129,u130,u131,u132,u133,u134,u135,u136,u137,u138,u139,u140,u141,u142,u143,u144,u145,u146,u147,u148,u149,u150,u151,u152,u153,u154,u155,u156,u157,u158,u159,u160,u161,u162,u163,u164,u165,u166,u167,u168,u169,u170,u171,u172,u173,u174,u175,u176,u177,u178,u179,u180,u181,u182,u183,u184,u185,u186,u187,u188,u189,u190,u191,u192,u193,u194,u195,u196,u197,u198,u199,u200,u201,u202,u203,u204,u205,u206,u207,u208,u209,u210,u211,u212,u213,u214,u215,u216,u217,u218,u219,u220,u221,u222,u223,u224,u225,u226,u227,u228,u229,u230,u231,u232,u233,u234,u235,u236,u237,u238,u239,u240,u241,u242,u243,u244,u245,u246,u247,u248,u249,u250,u251,u252,u253,u254,u255,u256,u257,u258,u259,u260,u261,u262,u263,u264,u265,u266,u267,u268,u269,u270,u271,u272,u273,u274,u275,u276,u277,u278,u279,u280,u281,u282,u283,u284,u285,u286,u287,u288,u289,u290,u291,u292,u293,u294,u295,u296,u297,u298,u299,u300].toArray,[]⟩ W:=by
  simp only [blkOf,bodyOf,blk,Tryz.f15]
  simp only [Nat.reduceEqDiff,if_true,if_false]
  go_wp2_with fail
  go_loopw [13,14] (fun bv iv Y=>∃ c:Nat,iv = .int .i64 (c:Int)∧c≤n∧bv = .bool (b0 || samT l c)∧Hid (c = 0∨k = 6)∧Hid (Below W.heap.size W Y)) (fun _ i _=>n - litLen i)
  case atStart=>exact ⟨0,rfl,Nat.zero_le _,by simp [samT],hid (.inl rfl),hid (Below.refl _ _)⟩
  case round =>
    obtain ⟨c,rfl,hc,rfl,h6,hB⟩:=hrel
    obtain ⟨x0,x1,x2,x3,x4,x5,x6,x7,x8⟩:=cells9 ((hB.out.block X (lt_of_heap hX.out)).trans hX.out)
    by_cases hca:c < n
    · have q0:decide ((c:Int) < (n:Int)) = true:=decide_eq_true (by omega)
      by_cases hk:k = 6
      · have qk:(k == 6) = true:=by simp [hk]
        have HK:=hid hk
        have HSU:=hid (samT_succ l c)
        have hX2:Hid (wr.heap[X]? = some (.cells #[.int .i64 k,i1,i2,i3,i4,.slice o n cap,i6,i7,i8] T (0,0))):=hid ((hB.out.block X (lt_of_heap hX.out)).trans hX.out)
        have hS2:Hid (StrsAt wr (.slice o n cap) l):=hid (hS.out.below hB.out)
        clear hk hX hS
        go_upto_block 11 with fail
        refine in11 (X:=X) (a:=c) (b0:=b0 || samT l c) (al:=by omega) (l:=l) (o:=o) (n:=n) (cap:=cap) hln hca nl (T:=T) (W:=wr) (hX:=hX2) (hS:=hS2) (hK:=hid ?_)
        intros
        rename_i W2 hb2
        dsimp only
        go_wp2_with fail
        exact ⟨⟨c+1,by go_num,by omega,by rw [HSU.out,Bool.or_assoc],hid (.inr HK.out),hid (hB.out.trans (hb2.mono hB.out.size))⟩,by simp [litLen];omega⟩
      · have qk:(k == 6) = false:=by simp [hk]
        have HK:=hid hk
        clear hk hX hS
        go_wp2_with fail
        obtain rfl:c = 0:=by rcases h6.out with h | h;exact h;exact absurd h HK.out
        have e:(b0 || samT l 0) = (b0 || ((k == 6) && dupB l)):=by rw [qk];simp [samT]
        rw [e]
        exact hK.out _ _ _ _ _ _ _ _ _ _ _ _ _ _ _ _ _ _ _ _ _ _ _ _ _ _ _ _ _ _ _ _ _ _ hB.out
    · obtain rfl:c = n:=by omega
      have q0:decide ((c:Int) < (c:Int)) = false:=decide_eq_false (by omega)
      clear hX hS
      go_wp2_with fail
      have e:(b0 || samT l c) = (b0 || ((k == 6) && dupB l)):=by
        have e1:samT l c = dupB l:=by rw [← samT_all,hln.out]
        rw [e1]
        rcases h6.out with h | h
        · rw [h] at e1;rw [← e1];simp [samT]
        · rw [h];simp
      rw [e]
      exact hK.out _ _ _ _ _ _ _ _ _ _ _ _ _ _ _ _ _ _ _ _ _ _ _ _ _ _ _ _ _ _ _ _ _ _ hB.out
end
section
open Go.RowKit Lx Go.Shelf Go.Maps
attribute [local go_sem] Oper.semAt_some
def FlGot (W:World) (v:Value) (P:Int→Prop):Prop:=∃ cur,FlsAt W v cur∧Got P cur
theorem FlGot.below {W Y:World} {v:Value} {P:Int→Prop} (h:FlGot W v P) (hb:Below W.heap.size W Y):FlGot Y v P:=by
  obtain ⟨cur,h1,h2⟩:=h
  exact ⟨cur,h1.below hb,h2⟩
theorem FlGot.ext {W:World} {v:Value} {P Q:Int→Prop} (h:FlGot W v P) (e:∀ a,P a↔Q a):FlGot W v Q:=by
  obtain ⟨cur,h1,h2⟩:=h
  exact ⟨cur,h1,h2.ext e⟩
theorem flGot_add {p:Pr} (hs:Small p) {P:Int→Prop} (hP:∀ a,P a→a∈posL p) (v:Value) (a:Int) (W:World) (h:FlGot W v P) :
    Calls Tryz.prog 25 #[v,.agg #[.int .i64 4,.int .i64 a]] W fun r Y=>∃ v',r = .returned v'∧FlGot Y v' (fun b=>P b∨b = a)∧Below W.heap.size W Y:=by
  obtain ⟨cur,h1,h2⟩:=h
  refine (add_any v cur 4 a W h1 (Nat.le_trans (h2.len hP) (posL_len hs))).mono ?_
  rintro r Y ⟨v',e,h3,h4⟩
  exact ⟨v',e,⟨_,h3,h2.add fun b=>Iff.rfl⟩,h4⟩
def FlSt (w:World) (D:Nat) (PB DB:Obj) (W:World):Prop:=Below w.heap.size w W∧W.heap[w.heap.size]? = some PB∧w.heap.size < D∧W.heap[D]? = some DB
theorem FlSt.below {w X Y:World} {D:Nat} {PB DB:Obj} (h:FlSt w D PB DB X) (hb:Below X.heap.size X Y):FlSt w D PB DB Y :=
  ⟨h.1.trans (hb.mono h.1.size),(hb.block _ (lt_of_heap h.2.1)).trans h.2.1,h.2.2.1,(hb.block _ (lt_of_heap h.2.2.2)).trans h.2.2.2⟩
theorem cells7R {W:World} {B:Nat} {a b c d e f g:Value} {T:TypeId} (hB:W.heap[B]? = some (.cells #[a,b,c,d,e,f,g] T (0,0))):W.cell? ⟨B,0,none⟩ = some a∧W.cell? ⟨B,1,none⟩ = some b∧W.cell? ⟨B,2,none⟩ = some c∧W.cell? ⟨B,3,none⟩ = some d∧W.cell? ⟨B,4,none⟩ = some e∧W.cell? ⟨B,5,none⟩ = some f∧W.cell? ⟨B,6,none⟩ = some g :=
  ⟨by simp [World.cell?,hB],by simp [World.cell?,hB],by simp [World.cell?,hB],by simp [World.cell?,hB],by simp [World.cell?,hB],by simp [World.cell?,hB],by simp [World.cell?,hB]⟩
end
section
open Go.RowKit Lx Go.Shelf Go.Maps
attribute [local go_sem] Oper.semAt_some
theorem ix_pasR {o:Option Addr} {n cap b off:Nat} (h:0 < n→o = some ⟨b,off,none⟩) {j:Nat} (hj:j < n) (hn:(n:Int)≤9223372036854775807):Ix 41 2 (.slice o n cap) b off j:=by
  intro W
  rw [h (by omega)]
  have h1:(j:Int) < (n:Int):=by omega
  have h2:(j:Int)≤9223372036854775807:=by omega
  go_simp
set_option maxHeartbeats 16000000 in
set_option maxRecDepth 100000 in
theorem in4 {u0 u1 u2 u4 u5 u9 u10 u11 u12 u13 u14 u15 u16 u17 u18 u19 u20 u21 u22 u23 u24 u25 u26 u27 u28 u29 u30 u31 u32 u33 u34 u35 u36 u37 u38 u39 u40 u41 u42 u43 u44 u45 u46 u47 u48 u49 u50 u51 u52 u53 u54 u55 u56 u57 u58 u59 u60 u61 u62 u63 u64 u65 u66 u67 u68 u69 u70 u71 u72 u73 u74 u75 u76 u77 u78 u79 u80 u81 u82 u83 u84 u85 u86 u87 u88 u89 u90 u91 u92 u93 u94 u95 u96 u97 u98 u99 u100 u101 u102 u103 u104 u105 u106 u107 u108 u109 u110 u111 u112 u113 u114 u115 u116 u117 u118 u119 u120 u121 u122 u123 u124 u125 u126 u127 u128 u129 u130 u131 u132 u133 u134 u135 u136 u137 u138 u139 u140 u141 u142 u143 u144 u145 u146 u147 u148 u149 u150 u151 u152 u153 u154 u155 u156 u157 u158 u159 u160 u161 u162 u163 u164 u165 u166 u167 u168 u169 u170 u171 u172 u173 u174 u175 u176 u177 u178 u179 u180 u181 u182 u183 u184 u185 u186 u187 u188 u189 u190 u191 u192 u193 u194 u195 u196 u197 u198 u199 u200 u201 u202 u203 u204 u205 u206 u207 u208 u209 u210 u211 u212 u213 u214 u215 u216 u217 u218 u219 u220 u221 u222 u223 u224 u225 u226 u227 u228 u229 u230 u231 u232 u233 u234 u235 u236 u237 u238 u239 u240 u241 u242 u243 u244 u245 u246 u247 u248 u249 u250 u251 u252 u253 u254 u255 u256 u257 u258 u259 u260 u261 u262 u263 u264 u265 u266 u267 u268 u269 u270 u271 u272 u273 u274 u275 u276 u277 u278 u279 u280 u281 u282 u283 u284 u285 u286 u287 u288 u289 u290 u291 u292 u293 u294 u295 u296 u297 u298 u299 u300:Value} (p:Pr) (hs:Hid (Small p)) (D a:Nat) (v0:Value) (P:Int→Prop) (hP:Hid (∀ b,P b→b∈posL p)) (x:De) (hq:Hid (x.pos∈posL p)) (n:Nat) (hln:Hid (x.params.length = n)) (hlt:a < n) (nl:(n:Int)≤1000)
    (op:Option Addr) (capp bp offp:Nat) (T:TypeId) (i0 i1 i3 i4 i5:Value)
    (Q:Exit→Act→World→Prop) (W:World) (hX:Hid (W.heap[D]? = some (.cells #[i0,i1,.slice op n capp,i3,i4,i5,.int .i64 x.pos] T (0,0)))) (hp3:Hid (0 < n→op = some ⟨bp,offp,none⟩)) (hp4:Hid (∀ i,i < n→∀ y,x.params[i]? = some y→PaAt W bp (offp+i*2) y)) (hF:Hid (FlGot W v0 P))
    (hK:Hid (∀ (v3 v67 v68 v69 v70 v71 v72 v73 v74 v75 v76 v77 v78 v79 v80 v81 v82 v83 v84 v85 v86 v87 v88 v89:Value) W',FlGot W' v3 (fun b=>P b∨(samS (x.params.map (·.name)) a a = true∧b = x.pos))→Below W.heap.size W W'→Q .normal ⟨[u0,u1,u2,v3,u4,u5,.pointer (some ⟨D,0,none⟩),.int .i64 (a:Int),.int .i64 (a:Int),u9,u10,u11,u12,u13,u14,u15,u16,u17,u18,u19,u20,u21,u22,u23,u24,u25,u26,u27,u28,u29,u30,u31,u32,u33,u34,u35,u36,u37,u38,u39,u40,u41,u42,u43,u44,u45,u46,u47,u48,u49,u50,u51,u52,u53,u54,u55,u56,u57,u58,u59,u60,u61,u62,u63,u64,u65,u66,v67,v68,v69,v70,v71,v72,v73,v74,v75,v76,v77,v78,v79,v80,v81,v82,v83,v84,v85,v86,v87,v88,v89,u90,u91,u92,u93,u94,u95,u96,u97,u98,u99,u100,u101,u102,u103,u104,u105,u106,u107,u108,u109,u110,u111,u112,u113,u114,u115,u116,u117,u118,u119,u120,u121,u122,u123,u124,u125,u126,u127,u128,u129,u130,u131,u132,u133,u134,u135,u136,u137,u138,u139,u140,u141,u142,u143,u144,u145,u146,u147,u148,u149,u150,u151,u152,u153,u154,u155,u156,u157,u158,u159,u160,u161,u162,u163,u164,u165,u166,u167,u168,u169,u170,u171,u172,u173,u174,u175,u176,u177,u178,u179,u180,u181,u182,u183,u184,u185,u186,u187,u188,u189,u190,u191,u192,u193,u194,u195,u196,u197,u198,u199,u200,u201,u202,u203,u204,u205,u206,u207,u208,u209,u210,u211,u212,u213,u214,u215,u216,u217,u218,u219,u220,u221,u222,u223,u224,u225,u226,u227,u228,u229,u230,u231,u232,u233,u234,u235,u236,u237,u238,u239,u240,u241,u242,u243,u244,u245,u246,u247,u248,u249,u250,u251,u252,u253,u254,u255,u256,u257,u258,u259,u260,u261,u262,u263,u264,u265,u266,u267,u268,u269,u270,u271,u272,u273,u274,u275,u276,u277,u278,u279,u280,u281,u282,u283,u284,u285,u286,u287,u288,u289,u290,u291,u292,u293,u294,u295,u296,u297,u298,u299,u300].toArray,[]⟩ W')) :
    (blkOf Tryz.f15 4).wp Tryz.prog Q ⟨[u0,u1,u2,v0,u4,u5,.pointer (some ⟨D,0,none⟩),.int .i64 (a:Int),.int .i64 0,u9,u10,u11,u12,u13,u14,u15,u16,u17,u18,u19,u20,u21,u22,u23,u24,u25,u26,u27,u28,u29,u30,u31,u32,u33,u34,u35,u36,u37,u38,u39,u40,u41,u42,u43,u44,u45,u46,u47,u48,u49,u50,u51,u52,u53,u54,u55,u56,u57,u58,u59,u60,u61,u62,u63,u64,u65,u66,u67,u68,u69,u70,u71,u72,u73,u74,u75,u76,u77,u78,u79,u80,u81,u82,u83,u84,u85,u86,u87,u88,u89,u90,u91,u92,u93,u94,u95,u96,u97,u98,u99,u100,u101,u102,u103,u104,u105,u106,u107,u108,u109,u110,u111,u112,u113,u114,u115,u116,u117,u118,u119,u120,u121,u122,u123,u124,u125,u126,u127,u128,u129,u130,u131,u132,u133,u134,u135,u136,u137,u138,u139,u140,u141,u142,u143,u144,u145,u146,u147,u148,u149,u150,u151,u152,u153,u154,u155,u156,u157,u158,u159,u160,u161,u162,u163,u164,u165,u166,u167,u168,u169,u170,u171,u172,u173,u174,u175,u176,u177,u178,u179,u180,u181,u182,u183,u184,u185,u186,u187,u188,u189,u190,u191,u192,u193,u194,u195,u196,u197,u198,u199,u200,u201,u202,u203,u204,u205,u206,u207,u208,u209,u210,u211,u212,u213,u214,u215,u216,u217,u218,u219,u220,u221,u222,u223,u224,u225,u226,u227,u228,u229,u230,u231,u232,u233,u234,u235,u236,u237,u238,u239,u240,u241,u242,u243,u244,u245,u246,u247,u248,u249,u250,u251,u252,u253,u254,u255,u256,u257,u258,u259,u260,u261,u262,u263,u264,u265,u266,u267,u268,u269,u270,u271,u272,u273,u274,u275,u276,u277,u278,u279,u280,u281,u282,u283,u284,u285,u286,u287,u288,u289,u290,u291,u292,u293,u294,u295,u296,u297,u298,u299,u300].toArray,[]⟩ W:=by
  simp only [blkOf,bodyOf,blk,Tryz.f15]
  simp only [Nat.reduceEqDiff,if_true,if_false]
  go_wp2_with fail
  go_loopw [3,8] (fun fv iv Y=>∃ (c:Nat) (v:Value),v = fv∧iv = .int .i64 (c:Int)∧c≤a∧Hid (FlGot Y v (fun b=>P b∨(samS (x.params.map (·.name)) a c = true∧b = x.pos)))∧Hid (Below W.heap.size W Y)) (fun _ i _=>a - litLen i)
  case atStart=>exact ⟨0,_,rfl,rfl,Nat.zero_le _,hid (hF.out.ext fun b=>by simp [samS]),hid (Below.refl _ _)⟩
  case round =>
    obtain ⟨c,v,rfl,rfl,hc,hG,hB⟩:=hrel
    obtain ⟨x0,x1,x2,x3,x4,x5,x6⟩:=cells7R ((hB.out.block D (lt_of_heap hX.out)).trans hX.out)
    by_cases hca:c < a
    · have q0:(c:Int) < (a:Int):=by omega
      obtain ⟨ya,hya⟩:∃ y,x.params[a]? = some y:=⟨_,List.getElem?_eq_getElem (by rw [hln.out];exact hlt)⟩
      obtain ⟨yc,hyc⟩:∃ y,x.params[c]? = some y:=⟨_,List.getElem?_eq_getElem (by rw [hln.out];omega)⟩
      have ca:=cell_on hB.out (hp4.out a hlt ya hya).1
      have cc:=cell_on hB.out (hp4.out c (by omega) yc hyc).1
      have ixa:=ix_pasR (cap:=capp) hp3.out hlt (by omega)
      have ixc:=ix_pasR (cap:=capp) hp3.out (show c < n by omega) (by omega)
      unfold Ix at ixa ixc
      have HSU:=hid (samS_succ (x.params.map (·.name)) a c)
      rw [List.getElem?_map,List.getElem?_map,hya,hyc,Option.map_some,Option.map_some] at HSU
      have AD:Hid (∀ W,FlGot W v (fun b=>P b∨(samS (x.params.map (·.name)) a c = true∧b = x.pos))→_):=hid (fun W h=>flGot_add hs.out (fun b hb=>hb.elim (hP.out b) fun h2=>h2.2 ▸ hq.out) v x.pos W h)
      clear hX hF hya hyc
      go_wp2_with fail
      go_quiet (fail)
      cases hb:(ya.name.toList == yc.name.toList) with
      | true =>
        have e:yc.name = ya.name:=((toListE _ _).1 (by simpa using hb)).symm
        rw [e] at HSU
        go_wp2_with (go_at_call 25;(with_reducible refine (AD.out _ (hG.out.below (below_dn (Below.refl _ _) _))).mono ?_);rintro e w1 ⟨v1,rfl,hG1,hb1⟩;have HG1:=hid hG1;have HB1:=hid hb1;clear hG1 hb1)
        refine ⟨⟨c+1,v1,rfl,by go_num,by omega,hid (HG1.out.ext fun b=>?_),hid ((below_dn hB.out _).trans (HB1.out.mono (below_dn hB.out _).size))⟩,by simp [litLen];omega⟩
        rw [HSU.out]
        simp only [decide_true,Bool.or_true,true_and]
        constructor
        · rintro ((h | h) | h)
          · exact .inl h
          · exact .inr h.2
          · exact .inr h
        · rintro (h | h)
          · exact .inl (.inl h)
          · exact .inr h
      | false =>
        have e:¬ yc.name = ya.name:=fun e=>by rw [e] at hb;simp at hb
        go_wp2_with fail
        refine ⟨⟨c+1,v,rfl,by go_num,by omega,hid ((hG.out.below (below_dn (Below.refl _ _) _)).ext fun b=>?_),hid (below_dn hB.out _)⟩,by simp [litLen];omega⟩
        rw [HSU.out]
        simp [e]
    · obtain rfl:c = a:=by omega
      have q0:¬ (c:Int) < (c:Int):=by omega
      clear hX hF
      go_wp2_with fail
      exact hK.out v _ _ _ _ _ _ _ _ _ _ _ _ _ _ _ _ _ _ _ _ _ _ _ _ hG.out hB.out
end
section
open Go.RowKit Lx Go.Shelf Go.Maps
attribute [local go_sem] Oper.semAt_some
set_option maxHeartbeats 16000000 in
set_option maxRecDepth 100000 in
theorem in2 {u0 u1 u2 u4 u5 u8 u9 u10 u11 u12 u13 u14 u15 u16 u17 u18 u19 u20 u21 u22 u23 u24 u25 u26 u27 u28 u29 u30 u31 u32 u33 u34 u35 u36 u37 u38 u39 u40 u41 u42 u43 u44 u45 u46 u47 u48 u49 u50 u51 u52 u53 u54 u55 u56 u57 u58 u59 u60 u61 u62 u63 u64 u65 u66 u67 u68 u69 u70 u71 u72 u73 u74 u75 u76 u77 u78 u79 u80 u81 u82 u83 u84 u85 u86 u87 u88 u89 u90 u91 u92 u93 u94 u95 u96 u97 u98 u99 u100 u101 u102 u103 u104 u105 u106 u107 u108 u109 u110 u111 u112 u113 u114 u115 u116 u117 u118 u119 u120 u121 u122 u123 u124 u125 u126 u127 u128 u129 u130 u131 u132 u133 u134 u135 u136 u137 u138 u139 u140 u141 u142 u143 u144 u145 u146 u147 u148 u149 u150 u151 u152 u153 u154 u155 u156 u157 u158 u159 u160 u161 u162 u163 u164 u165 u166 u167 u168 u169 u170 u171 u172 u173 u174 u175 u176 u177 u178 u179 u180 u181 u182 u183 u184 u185 u186 u187 u188 u189 u190 u191 u192 u193 u194 u195 u196 u197 u198 u199 u200 u201 u202 u203 u204 u205 u206 u207 u208 u209 u210 u211 u212 u213 u214 u215 u216 u217 u218 u219 u220 u221 u222 u223 u224 u225 u226 u227 u228 u229 u230 u231 u232 u233 u234 u235 u236 u237 u238 u239 u240 u241 u242 u243 u244 u245 u246 u247 u248 u249 u250 u251 u252 u253 u254 u255 u256 u257 u258 u259 u260 u261 u262 u263 u264 u265 u266 u267 u268 u269 u270 u271 u272 u273 u274 u275 u276 u277 u278 u279 u280 u281 u282 u283 u284 u285 u286 u287 u288 u289 u290 u291 u292 u293 u294 u295 u296 u297 u298 u299 u300:Value} (p:Pr) (hs:Hid (Small p)) (D:Nat) (v0:Value) (P:Int→Prop) (hP:Hid (∀ b,P b→b∈posL p)) (x:De) (hq:Hid (x.pos∈posL p)) (n:Nat) (hln:Hid (x.params.length = n)) (nl:(n:Int)≤1000)
    (op:Option Addr) (capp bp offp:Nat) (T:TypeId) (i0 i1 i3 i4 i5:Value)
    (Q:Exit→Act→World→Prop) (W:World) (hX:Hid (W.heap[D]? = some (.cells #[i0,i1,.slice op n capp,i3,i4,i5,.int .i64 x.pos] T (0,0)))) (hp3:Hid (0 < n→op = some ⟨bp,offp,none⟩)) (hp4:Hid (∀ i,i < n→∀ y,x.params[i]? = some y→PaAt W bp (offp+i*2) y)) (hF:Hid (FlGot W v0 P))
    (hK:Hid (∀ (v3 v7 v8 v60 v61 v62 v63 v64 v65 v66 v67 v68 v69 v70 v71 v72 v73 v74 v75 v76 v77 v78 v79 v80 v81 v82 v83 v84 v85 v86 v87 v88 v89:Value) W',FlGot W' v3 (fun b=>P b∨(samT (x.params.map (·.name)) n = true∧b = x.pos))→Below W.heap.size W W'→Q .normal ⟨[u0,u1,u2,v3,u4,u5,.pointer (some ⟨D,0,none⟩),v7,v8,u9,u10,u11,u12,u13,u14,u15,u16,u17,u18,u19,u20,u21,u22,u23,u24,u25,u26,u27,u28,u29,u30,u31,u32,u33,u34,u35,u36,u37,u38,u39,u40,u41,u42,u43,u44,u45,u46,u47,u48,u49,u50,u51,u52,u53,u54,u55,u56,u57,u58,u59,v60,v61,v62,v63,v64,v65,v66,v67,v68,v69,v70,v71,v72,v73,v74,v75,v76,v77,v78,v79,v80,v81,v82,v83,v84,v85,v86,v87,v88,v89,u90,u91,u92,u93,u94,u95,u96,u97,u98,u99,u100,u101,u102,u103,u104,u105,u106,u107,u108,u109,u110,u111,u112,u113,u114,u115,u116,u117,u118,u119,u120,u121,u122,u123,u124,u125,u126,u127,u128,u129,u130,u131,u132,u133,u134,u135,u136,u137,u138,u139,u140,u141,u142,u143,u144,u145,u146,u147,u148,u149,u150,u151,u152,u153,u154,u155,u156,u157,u158,u159,u160,u161,u162,u163,u164,u165,u166,u167,u168,u169,u170,u171,u172,u173,u174,u175,u176,u177,u178,u179,u180,u181,u182,u183,u184,u185,u186,u187,u188,u189,u190,u191,u192,u193,u194,u195,u196,u197,u198,u199,u200,u201,u202,u203,u204,u205,u206,u207,u208,u209,u210,u211,u212,u213,u214,u215,u216,u217,u218,u219,u220,u221,u222,u223,u224,u225,u226,u227,u228,u229,u230,u231,u232,u233,u234,u235,u236,u237,u238,u239,u240,u241,u242,u243,u244,u245,u246,u247,u248,u249,u250,u251,u252,u253,u254,u255,u256,u257,u258,u259,u260,u261,u262,u263,u264,u265,u266,u267,u268,u269,u270,u271,u272,u273,u274,u275,u276,u277,u278,u279,u280,u281,u282,u283,u284,u285,u286,u287,u288,u289,u290,u291,u292,u293,u294,u295,u296,u297,u298,u299,u300].toArray,[]⟩ W')) :
    (blkOf Tryz.f15 2).wp Tryz.prog Q ⟨[u0,u1,u2,v0,u4,u5,.pointer (some ⟨D,0,none⟩),.int .i64 0,u8,u9,u10,u11,u12,u13,u14,u15,u16,u17,u18,u19,u20,u21,u22,u23,u24,u25,u26,u27,u28,u29,u30,u31,u32,u33,u34,u35,u36,u37,u38,u39,u40,u41,u42,u43,u44,u45,u46,u47,u48,u49,u50,u51,u52,u53,u54,u55,u56,u57,u58,u59,u60,u61,u62,u63,u64,u65,u66,u67,u68,u69,u70,u71,u72,u73,u74,u75,u76,u77,u78,u79,u80,u81,u82,u83,u84,u85,u86,u87,u88,u89,u90,u91,u92,u93,u94,u95,u96,u97,u98,u99,u100,u101,u102,u103,u104,u105,u106,u107,u108,u109,u110,u111,u112,u113,u114,u115,u116,u117,u118,u119,u120,u121,u122,u123,u124,u125,u126,u127,u128,u129,u130,u131,u132,u133,u134,u135,u136,u137,u138,u139,u140,u141,u142,u143,u144,u145,u146,u147,u148,u149,u150,u151,u152,u153,u154,u155,u156,u157,u158,u159,u160,u161,u162,u163,u164,u165,u166,u167,u168,u169,u170,u171,u172,u173,u174,u175,u176,u177,u178,u179,u180,u181,u182,u183,u184,u185,u186,u187,u188,u189,u190,u191,u192,u193,u194,u195,u196,u197,u198,u199,u200,u201,u202,u203,u204,u205,u206,u207,u208,u209,u210,u211,u212,u213,u214,u215,u216,u217,u218,u219,u220,u221,u222,u223,u224,u225,u226,u227,u228,u229,u230,u231,u232,u233,u234,u235,u236,u237,u238,u239,u240,u241,u242,u243,u244,u245,u246,u247,u248,u249,u250,u251,u252,u253,u254,u255,u256,u257,u258,u259,u260,u261,u262,u263,u264,u265,u266,u267,u268,u269,u270,u271,u272,u273,u274,u275,u276,u277,u278,u279,u280,u281,u282,u283,u284,u285,u286,u287,u288,u289,u290,u291,u292,u293,u294,u295,u296,u297,u298,u299,u300].toArray,[]⟩ W:=by
  simp only [blkOf,bodyOf,blk,Tryz.f15]
  simp only [Nat.reduceEqDiff,if_true,if_false]
  go_wp2_with fail
  go_loopw [3,7] (fun fv iv Y=>∃ (c:Nat) (v:Value),v = fv∧iv = .int .i64 (c:Int)∧c≤n∧Hid (FlGot Y v (fun b=>P b∨(samT (x.params.map (·.name)) c = true∧b = x.pos)))∧Hid (Below W.heap.size W Y)) (fun _ i _=>n - litLen i)
  case atStart=>exact ⟨0,_,rfl,rfl,Nat.zero_le _,hid (hF.out.ext fun b=>by simp [samT]),hid (Below.refl _ _)⟩
  case round =>
    obtain ⟨c,v,rfl,rfl,hc,hG,hB⟩:=hrel
    have hX2:Hid (wr.heap[D]? = some (.cells #[i0,i1,.slice op n capp,i3,i4,i5,.int .i64 x.pos] T (0,0))):=hid ((hB.out.block D (lt_of_heap hX.out)).trans hX.out)
    obtain ⟨x0,x1,x2,x3,x4,x5,x6⟩:=cells7R hX2.out
    by_cases hca:c < n
    · have q0:(c:Int) < (n:Int):=by omega
      have HSU:=hid (samT_succ (x.params.map (·.name)) c)
      have hp5:Hid (∀ i,i < n→∀ y,x.params[i]? = some y→PaAt wr bp (offp+i*2) y):=hid (fun i hi y hy=>(hp4.out i hi y hy).below hB.out)
      clear hX hF
      go_upto_block 4 with fail
      refine in4 p hs (D:=D) (a:=c) (v0:=v) (P:=fun b=>P b∨(samT (x.params.map (·.name)) c = true∧b = x.pos)) (hP:=hid fun b hb=>hb.elim (hP.out b) fun h2=>h2.2 ▸ hq.out) (x:=x) hq (n:=n) hln hca nl (op:=op) (capp:=capp) (bp:=bp) (offp:=offp) (T:=T) (W:=wr) (hX:=hX2) (hp3:=hp3) (hp4:=hp5) (hF:=hG) (hK:=hid ?_)
      intros
      rename_i v1 _ _ _ _ _ _ _ _ _ _ _ _ _ _ _ _ _ _ _ _ _ _ _ W2 hg2 hb2
      dsimp only
      go_wp2_with fail
      refine ⟨⟨c+1,v1,rfl,by go_num,by omega,hid (hg2.ext fun b=>?_),hid (hB.out.trans (hb2.mono hB.out.size))⟩,by simp [litLen];omega⟩
      rw [HSU.out]
      simp only [Bool.or_eq_true]
      constructor
      · rintro ((h | h) | h)
        · exact .inl h
        · exact .inr ⟨.inl h.1,h.2⟩
        · exact .inr ⟨.inr h.1,h.2⟩
      · rintro (h | ⟨h | h,h2⟩)
        · exact .inl (.inl h)
        · exact .inl (.inr ⟨h,h2⟩)
        · exact .inr ⟨h,h2⟩
    · obtain rfl:c = n:=by omega
      have q0:¬ (c:Int) < (c:Int):=by omega
      clear hX hF
      go_wp2_with fail
      exact hK.out v _ _ _ _ _ _ _ _ _ _ _ _ _ _ _ _ _ _ _ _ _ _ _ _ _ _ _ _ _ _ _ _ _ hG.out hB.out
end
section
open Go.RowKit Lx Go.Shelf Go.Maps
attribute [local go_sem] Oper.semAt_some
noncomputable def sq (n:Nat):Code→Option Code
  | .seq (.region i o d) b=>if i = n then some (.seq (.region i o d) b) else sq n b
  | .seq a b=>match sq n a with
    | some c=>some c
    | none=>sq n b
  | .cond _ a b=>match sq n a with
    | some c=>some c
    | none=>sq n b
  | .block _ c=>sq n c
  | .loop c=>sq n c
  | _=>none
noncomputable def sqOf (f:Func) (n:Nat):Code:=match sq n (bodyOf f) with
  | some c=>c
  | none=>.skip
set_option maxHeartbeats 16000000 in
set_option maxRecDepth 100000 in
theorem in9R {u0 u2 u7 u8 u9 u10 u11 u12 u13 u14 u15 u16 u17 u18 u19 u20 u21 u22 u23 u24 u25 u26 u27 u28 u29 u30 u31 u32 u33 u34 u35 u36 u37 u38 u39 u40 u41 u42 u43 u44 u45 u46 u47 u48 u49 u50 u51 u52 u53 u54 u55 u56 u57 u58 u59 u60 u61 u62 u63 u64 u65 u66 u67 u68 u69 u70 u71 u72 u73 u74 u75 u76 u77 u78 u79 u80 u81 u82 u83 u84 u85 u86 u87 u88 u89 u90 u91 u92 u93 u94 u95 u96 u97 u98 u99 u100 u101 u102 u103 u104 u105 u106 u107 u108 u109 u110 u111 u112 u113 u114 u115 u116 u117 u118 u119 u120 u121 u122 u123 u124 u125 u126 u127 u128 u129 u130 u131 u132 u133 u134 u135 u136 u137 u138 u139 u140 u141 u142 u143 u144 u145 u146 u147 u148 u149 u150 u151 u152 u153 u154 u155 u156 u157 u158 u159 u160 u161 u162 u163 u164 u165 u166 u167 u168 u169 u170 u171 u172 u173 u174 u175 u176 u177 u178 u179 u180 u181 u182 u183 u184 u185 u186 u187 u188 u189 u190 u191 u192 u193 u194 u195 u196 u197 u198 u199 u200 u201 u202 u203 u204 u205 u206 u207 u208 u209 u210 u211 u212 u213 u214 u215 u216 u217 u218 u219 u220 u221 u222 u223 u224 u225 u226 u227 u228 u229 u230 u231 u232 u233 u234 u235 u236 u237 u238 u239 u240 u241 u242 u243 u244 u245 u246 u247 u248 u249 u250 u251 u252 u253 u254 u255 u256 u257 u258 u259 u260 u261 u262 u263 u264 u265 u266 u267 u268 u269 u270 u271 u272 u273 u274 u275 u276 u277 u278 u279 u280 u281 u282 u283 u284 u285 u286 u287 u288 u289 u290 u291 u292 u293 u294 u295 u296 u297 u298 u299 u300:Value} (p:Pr) (hs:Hid (Small p)) (B D c H:Nat) (v0 sd se:Value) (P:Int→Prop) (hP:Hid (∀ b,P b→b∈posL p)) (x:De) (i2 i3 i4 i5:Value) (T:TypeId) (hHl:(H:Int)≤60) (hHy:Hid (hybs (p.decls.take (c+1)) = H))
    (Q:Exit→Act→World→Prop) (W:World) (hX:Hid (W.heap[D]? = some (.cells #[.int .i64 x.kind,.string x.name,i2,i3,i4,i5,.int .i64 x.pos] T (0,0)))) (hB:Hid (W.heap[B]? = some (.cells #[sd,se] 25 (0,0)))) (hPA:Hid (ProgAt W sd se p)) (hF:Hid (FlGot W v0 P))
    (hK:Hid (∀ (v3 v40 v41 v42 v43 v44 v45 v46 v47 v48 v49 v50 v51 v52 v53 v54 v55 v56 v57 v58 v59:Value) W',FlGot W' v3 (fun b=>P b∨(RefD p c x∧b = x.pos))→Below W.heap.size W W'→Q .normal ⟨[u0,.pointer (some ⟨B,0,none⟩),u2,v3,.int .i64 (H:Int),.int .i64 (c:Int),.pointer (some ⟨D,0,none⟩),u7,u8,u9,u10,u11,u12,u13,u14,u15,u16,u17,u18,u19,u20,u21,u22,u23,u24,u25,u26,u27,u28,u29,u30,u31,u32,u33,u34,u35,u36,u37,u38,u39,v40,v41,v42,v43,v44,v45,v46,v47,v48,v49,v50,v51,v52,v53,v54,v55,v56,v57,v58,v59,u60,u61,u62,u63,u64,u65,u66,u67,u68,u69,u70,u71,u72,u73,u74,u75,u76,u77,u78,u79,u80,u81,u82,u83,u84,u85,u86,u87,u88,u89,u90,u91,u92,u93,u94,u95,u96,u97,u98,u99,u100,u101,u102,u103,u104,u105,u106,u107,u108,u109,u110,u111,u112,u113,u114,u115,u116,u117,u118,u119,u120,u121,u122,u123,u124,u125,u126,u127,u128,u129,u130,u131,u132,u133,u134,u135,u136,u137,u138,u139,u140,u141,u142,u143,u144,u145,u146,u147,u148,u149,u150,u151,u152,u153,u154,u155,u156,u157,u158,u159,u160,u161,u162,u163,u164,u165,u166,u167,u168,u169,u170,u171,u172,u173,u174,u175,u176,u177,u178,u179,u180,u181,u182,u183,u184,u185,u186,u187,u188,u189,u190,u191,u192,u193,u194,u195,u196,u197,u198,u199,u200,u201,u202,u203,u204,u205,u206,u207,u208,u209,u210,u211,u212,u213,u214,u215,u216,u217,u218,u219,u220,u221,u222,u223,u224,u225,u226,u227,u228,u229,u230,u231,u232,u233,u234,u235,u236,u237,u238,u239,u240,u241,u242,u243,u244,u245,u246,u247,u248,u249,u250,u251,u252,u253,u254,u255,u256,u257,u258,u259,u260,u261,u262,u263,u264,u265,u266,u267,u268,u269,u270,u271,u272,u273,u274,u275,u276,u277,u278,u279,u280,u281,u282,u283,u284,u285,u286,u287,u288,u289,u290,u291,u292,u293,u294,u295,u296,u297,u298,u299,u300].toArray,[]⟩ W')) :
    (sqOf Tryz.f15 9).wp Tryz.prog Q ⟨[u0,.pointer (some ⟨B,0,none⟩),u2,v0,.int .i64 (H:Int),.int .i64 (c:Int),.pointer (some ⟨D,0,none⟩),u7,u8,u9,u10,u11,u12,u13,u14,u15,u16,u17,u18,u19,u20,u21,u22,u23,u24,u25,u26,u27,u28,u29,u30,u31,u32,u33,u34,u35,u36,u37,u38,u39,u40,u41,u42,u43,u44,u45,u46,u47,u48,u49,u50,u51,u52,u53,u54,u55,u56,u57,u58,u59,u60,u61,u62,u63,u64,u65,u66,u67,u68,u69,u70,u71,u72,u73,u74,u75,u76,u77,u78,u79,u80,u81,u82,u83,u84,u85,u86,u87,u88,u89,u90,u91,u92,u93,u94,u95,u96,u97,u98,u99,u100,u101,u102,u103,u104,u105,u106,u107,u108,u109,u110,u111,u112,u113,u114,u115,u116,u117,u118,u119,u120,u121,u122,u123,u124,u125,u126,u127,u128,u129,u130,u131,u132,u133,u134,u135,u136,u137,u138,u139,u140,u141,u142,u143,u144,u145,u146,u147,u148,u149,u150,u151,u152,u153,u154,u155,u156,u157,u158,u159,u160,u161,u162,u163,u164,u165,u166,u167,u168,u169,u170,u171,u172,u173,u174,u175,u176,u177,u178,u179,u180,u181,u182,u183,u184,u185,u186,u187,u188,u189,u190,u191,u192,u193,u194,u195,u196,u197,u198,u199,u200,u201,u202,u203,u204,u205,u206,u207,u208,u209,u210,u211,u212,u213,u214,u215,u216,u217,u218,u219,u220,u221,u222,u223,u224,u225,u226,u227,u228,u229,u230,u231,u232,u233,u234,u235,u236,u237,u238,u239,u240,u241,u242,u243,u244,u245,u246,u247,u248,u249,u250,u251,u252,u253,u254,u255,u256,u257,u258,u259,u260,u261,u262,u263,u264,u265,u266,u267,u268,u269,u270,u271,u272,u273,u274,u275,u276,u277,u278,u279,u280,u281,u282,u283,u284,u285,u286,u287,u288,u289,u290,u291,u292,u293,u294,u295,u296,u297,u298,u299,u300].toArray,[]⟩ W:=by
  simp only [sqOf,bodyOf,sq,Tryz.f15]
  simp only [Nat.reduceEqDiff,if_true,if_false]
  obtain ⟨d0,d1,d2,d3,d4,d5,d6⟩:=cells7R hX.out
  obtain ⟨g0,g1⟩:=cells_two hB.out
  have DCL:=hid (refDecl_any _ _ p x.name W hPA.out hs.out)
  have AD:Hid (∀ W,FlGot W v0 P→_):=hid (fun W h=>flGot_add hs.out hP.out v0 x.pos W h)
  obtain ⟨q,hq2⟩:∃ q,q = declIx p.decls x.name:=⟨_,rfl⟩
  rw [← hq2] at DCL
  have HRD:Hid (RefD p c x↔(x.kind = 3∧1 < H)∨q≠(c:Int)):=hid (by unfold RefD;rw [hHy.out,hq2])
  clear hq2
  have ex:Hid (∀ b,(RefD p c x∧b = x.pos)↔(RefD p c x∧b = x.pos)):=hid fun _=>Iff.rfl
  by_cases hk:x.kind = 3
  · have qk:(x.kind == 3) = true:=by simp [hk]
    by_cases h1:1 < H
    · have q1:decide ((1:Int) < (H:Int)) = true:=decide_eq_true (by omega)
      have HR:Hid (RefD p c x):=hid (HRD.out.2 (.inl ⟨hk,h1⟩))
      clear hk h1 hX hB
      go_wp2_with (go_at_call 25;(with_reducible refine (AD.out _ hF.out).mono ?_);rintro e w2 ⟨v1,rfl,hG1,hb1⟩;have HG1:=hid hG1;have HB1:=hid hb1;clear hG1 hb1)
      exact hK.out v1 _ _ _ _ _ _ _ _ _ _ _ _ _ _ _ _ _ _ _ _ _ (HG1.out.ext fun b=>by simp [HR.out]) HB1.out
    · have q1:decide ((1:Int) < (H:Int)) = false:=decide_eq_false (by omega)
      have H1:=hid h1
      by_cases h2:q = (c:Int)
      · have q2:(q != (c:Int)) = false:=by simp [h2]
        have HR:Hid (¬ RefD p c x):=hid (fun h=>(HRD.out.1 h).elim (fun h=>H1.out h.2) fun h=>h h2)
        clear hX hB h2 hk h1
        go_wp2_with (go_at_call 21;(with_reducible refine DCL.out.mono ?_);rintro e w1 ⟨rfl,hb0⟩;have HB0:=hid hb0;have HF1:=hid (hF.out.below hb0);have D6:=cell_on hb0 d6;clear hb0)
        exact hK.out v0 _ _ _ _ _ _ _ _ _ _ _ _ _ _ _ _ _ _ _ _ _ (HF1.out.ext fun b=>by simp [HR.out]) HB0.out
      · have q2:(q != (c:Int)) = true:=by simp [h2]
        have HR:Hid (RefD p c x):=hid (HRD.out.2 (.inr h2))
        clear hX hB h2 hk h1
        go_wp2_with first | (go_at_call 21;(with_reducible refine DCL.out.mono ?_);rintro e w1 ⟨rfl,hb0⟩;have HB0:=hid hb0;have HF1:=hid (hF.out.below hb0);have D6:=cell_on hb0 d6;clear hb0) | (go_at_call 25;(with_reducible refine (AD.out _ HF1.out).mono ?_);rintro e w2 ⟨v1,rfl,hG1,hb1⟩;have HG1:=hid hG1;have HB1:=hid hb1;clear hG1 hb1)
        exact hK.out v1 _ _ _ _ _ _ _ _ _ _ _ _ _ _ _ _ _ _ _ _ _ (HG1.out.ext fun b=>by simp [HR.out]) (HB0.out.trans (HB1.out.mono HB0.out.size))
  · have qk:(x.kind == 3) = false:=by simp [hk]
    have H1:=hid hk
    by_cases h2:q = (c:Int)
    · have q2:(q != (c:Int)) = false:=by simp [h2]
      have HR:Hid (¬ RefD p c x):=hid (fun h=>(HRD.out.1 h).elim (fun h=>H1.out h.1) fun h=>h h2)
      clear hX hB h2 hk
      go_wp2_with (go_at_call 21;(with_reducible refine DCL.out.mono ?_);rintro e w1 ⟨rfl,hb0⟩;have HB0:=hid hb0;have HF1:=hid (hF.out.below hb0);have D6:=cell_on hb0 d6;clear hb0)
      exact hK.out v0 _ _ _ _ _ _ _ _ _ _ _ _ _ _ _ _ _ _ _ _ _ (HF1.out.ext fun b=>by simp [HR.out]) HB0.out
    · have q2:(q != (c:Int)) = true:=by simp [h2]
      have HR:Hid (RefD p c x):=hid (HRD.out.2 (.inr h2))
      clear hX hB h2 hk
      go_wp2_with first | (go_at_call 21;(with_reducible refine DCL.out.mono ?_);rintro e w1 ⟨rfl,hb0⟩;have HB0:=hid hb0;have HF1:=hid (hF.out.below hb0);have D6:=cell_on hb0 d6;clear hb0) | (go_at_call 25;(with_reducible refine (AD.out _ HF1.out).mono ?_);rintro e w2 ⟨v1,rfl,hG1,hb1⟩;have HG1:=hid hG1;have HB1:=hid hb1;clear hG1 hb1)
      exact hK.out v1 _ _ _ _ _ _ _ _ _ _ _ _ _ _ _ _ _ _ _ _ _ (HG1.out.ext fun b=>by simp [HR.out]) (HB0.out.trans (HB1.out.mono HB0.out.size))
end
end Go.Proofs.YtdlmfeflinbbjaaGreat
