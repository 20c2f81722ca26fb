/- Joined: RgModeP, CdArgs. -/
import Derived.Test.YtlbhlncipajapaaGreatDoorPe32
import Derived.Test.YtlbhlncipajapaaGreatDoorPe31
namespace Go.Proofs.YtlbhlncipajapaaGreatDoor
open Go.RowKit Lx
set_option linter.unusedVariables false
theorem new_cell1 (W : World) (v : Value) (T : TypeId) : (W.alloc (.cells #[v] T)).cell? ⟨W.heap.size, 0, none⟩ = some v := by
  rw [World.cell?_alloc_new]; rfl
/-- no way out but the normal one -/
def onlyN (Q : Exit → Act → World → Prop) : Exit → Act → World → Prop
  | .normal, a, w => Q .normal a w
  | _, _, _ => False
theorem wp_onlyN {P : Program} {c : Code} {Q : Exit → Act → World → Prop} {a : Act} {w : World} (h : c.wp P (onlyN Q) a w) : c.wp P Q a w := by
  intro b k cs
  obtain ⟨e, a₁, w₁, hq, harr⟩ := h b k cs
  refine ⟨e, a₁, w₁, ?_, harr⟩
  cases e with
  | normal => exact hq
  | _ => exact hq.elim
/-- a store into a box of another type -/
theorem row_set {W : World} {B : Nat} {T T2 : TypeId} {s : Nat} {v : Value} {n : Nat} {xs : List Value} (h : W.ownsRow B T s v n xs) {A : Nat} {cs : Array Value} (hA : W.heap[A]? = some (.cells cs T2 (0, 0))) (i : Nat) (u : Value) (hT : T ≠ T2 := by decide) : (W.setCell ⟨A, i, none⟩ u).ownsRow B T s v n xs :=
  rd_own_same h fun k e => Below.heap_setCell W ⟨A, i, none⟩ u k fun hk => by
    obtain ⟨_, cs', hc⟩ := own_type h e
    rw [hk] at hc
    rw [show (⟨A, i, none⟩ : Addr).block = A from rfl, hA] at hc
    cases hc; exact hT rfl
set_option maxHeartbeats 16000000 in
set_option maxRecDepth 100000 in
theorem mode43 {u1 u2 u3 u5 u7 u8 u9 u10 u11 u12 u13 u14 u15 u16 u17 u18 u19 u20 u21 u22 u23 u24 u25 u26 u27 u28 u29 u30 u31 u32 u33 u34 u35 u36 u37 u38 u39 u40 u41 u42 u43 u44 u45 u46 u47 u48 u49 u50 u51 u52 u53 u54 u55 u56 u57 u58 u59 u60 u61 u62 u63 u64 u65 u66 u67 u68 u69 u70 u71 u72 u73 u74 u75 u76 u77 u78 u79 u80 u81 u82 u83 u84 u85 u86 u87 u88 u89 u90 u91 u92 u93 u94 u95 u96 u97 u98 u99 u100 u101 u102 u103 u104 u105 u106 u107 u108 u109 u110 u111 u112 u113 u114 u115 u116 u117 u118 u119 u120 u121 u122 u123 u124 u125 u126 u127 u128 u129 u130 u131 u132 u133 u134 u135 u136 u137 u138 u139 u140 u141 u142 u143 u144 u145 u146 u147 u148 u149 u150 u151 u152 u153 u154 u155 u156 u157 u158 u159 u160 u161 u162 u163 u164 u165 u166 u167 u168 u169 u170 u171 u172 u173 u174 u175 u176 u177 u178 u179 u180 u181 u182 u183 u184 u185 u186 u187 u188 u189 u190 : Value} (b g cap : Nat) (dv : Value) (ts : List Tok) (xb : Nat → Prop) (σ τ : RS) (v : List UInt8) (hv : Hid (v = nameV ts σ)) (hτ : Hid (τ = nameS ts σ)) (W0 W : World) (A : Nat) (nm : ByteArray) (pp : Int) (so : Option Addr) (sn sc : Nat) (xs : List Value) (hsn : sn ≤ 40000) (HS : Hid (IB W0 W b g cap dv ts xb σ A #[.int .i64 6, .string nm, .int .i64 0, .int .i64 0, .int .i64 0, .slice so sn sc, .string ⟨#[]⟩, .string ⟨#[]⟩, .int .i64 pp])) (HO : Hid (W.ownsRow W0.heap.size 9 1 (.slice so sn sc) sn xs))
    (K : Exit → Act → World → Prop) (hK : Hid (∀ (v129 v130 v131 v132 v133 v134 v135 : Value) (Y : World) (so' : Option Addr) (sc' : Nat), IB W0 Y b g cap dv ts xb τ A #[.int .i64 6, .string nm, .int .i64 0, .int .i64 0, .int .i64 0, .slice so' (sn + 1) sc', .string ⟨#[]⟩, .string ⟨#[]⟩, .int .i64 pp] → Y.ownsRow W0.heap.size 9 1 (.slice so' (sn + 1) sc') (sn + 1) (xs ++ [.string (str v)]) → K Exit.normal ⟨[.pointer (some ⟨b, 0, none⟩), u1, u2, u3, .pointer (some ⟨A, 0, none⟩), u5, .pointer (some ⟨A + 1, 0, none⟩), u7, u8, u9, u10, u11, u12, u13, u14, u15, u16, u17, u18, u19, u20, u21, u22, u23, u24, u25, u26, u27, u28, u29, u30, u31, u32, u33, u34, u35, u36, u37, u38, u39, u40, u41, u42, u43, u44, u45, u46, u47, u48, u49, u50, u51, u52, u53, u54, u55, u56, u57, u58, u59, u60, u61, u62, u63, u64, u65, u66, u67, u68, u69, u70, u71, u72, u73, u74, u75, u76, u77, u78, u79, u80, u81, u82, u83, u84, u85, u86, u87, u88, u89, u90, u91, u92, u93, u94, u95, u96, u97, u98, u99, u100, u101, u102, u103, u104, u105, u106, u107, u108, u109, u110, u111, u112, u113, u114, u115, u116, u117, u118, u119, u120, u121, u122, u123, u124, u125, u126, u127, u128, v129, v130, v131, v132, v133, v134, v135, u136, u137, u138, u139, u140, u141, u142, u143, u144, u145, u146, u147, u148, u149, u150, u151, u152, u153, u154, u155, u156, u157, u158, u159, u160, u161, u162, u163, u164, u165, u166, u167, u168, u169, u170, u171, u172, u173, u174, u175, u176, u177, u178, u179, u180, u181, u182, u183, u184, u185, u186, u187, u188, u189, u190].toArray, []⟩ Y)) :
    (rgnOf Tryz.f73 43).wp Tryz.prog K ⟨[.pointer (some ⟨b, 0, none⟩), u1, u2, u3, .pointer (some ⟨A, 0, none⟩), u5, .pointer (some ⟨A + 1, 0, none⟩), u7, u8, u9, u10, u11, u12, u13, u14, u15, u16, u17, u18, u19, u20, u21, u22, u23, u24, u25, u26, u27, u28, u29, u30, u31, u32, u33, u34, u35, u36, u37, u38, u39, u40, u41, u42, u43, u44, u45, u46, u47, u48, u49, u50, u51, u52, u53, u54, u55, u56, u57, u58, u59, u60, u61, u62, u63, u64, u65, u66, u67, u68, u69, u70, u71, u72, u73, u74, u75, u76, u77, u78, u79, u80, u81, u82, u83, u84, u85, u86, u87, u88, u89, u90, u91, u92, u93, u94, u95, u96, u97, u98, u99, u100, u101, u102, u103, u104, u105, u106, u107, u108, u109, u110, u111, u112, u113, u114, u115, u116, u117, u118, u119, u120, u121, u122, u123, u124, u125, u126, u127, u128, u129, u130, u131, u132, u133, u134, u135, u136, u137, u138, u139, u140, u141, u142, u143, u144, u145, u146, u147, u148, u149, u150, u151, u152, u153, u154, u155, u156, u157, u158, u159, u160, u161, u162, u163, u164, u165, u166, u167, u168, u169, u170, u171, u172, u173, u174, u175, u176, u177, u178, u179, u180, u181, u182, u183, u184, u185, u186, u187, u188, u189, u190].toArray, []⟩ W := by
  have NM : Hid (∀ W, Hid (Rd W b g cap dv ts xb σ) → Calls Tryz.prog 41 #[.pointer (some ⟨b, 0, none⟩)] W fun r Y => RdRet b g cap dv ts xb W (.string (str v)) τ r Y) := Lib.hid fun W h => by rw [hv.out, hτ.out]; exact name_any b g cap dv ts xb σ W h
  refine wp_onlyN ?_
  simp only [rgnOf, rgn, Tryz.f73]
  simp only [Nat.reduceEqDiff, if_true, if_false]
  have HD : Hid (IB W0 W.drew b g cap dv ts xb σ A #[.int .i64 6, .string nm, .int .i64 0, .int .i64 0, .int .i64 0, .slice so sn sc, .string ⟨#[]⟩, .string ⟨#[]⟩, .int .i64 pp]) := Lib.hid (HS.out.below (Below.refl _ _).drew)
  have HOD : Hid (W.drew.ownsRow W0.heap.size 9 1 (.slice so sn sc) sn xs) := Lib.hid HO.out
  obtain ⟨⟨x0, x1, x2, x3, x4, x5, x6, x7, x8⟩, xf⟩ := rgCells HD.out.box
  clear xf x0 x1 x2 x3 x4 x6 x7 x8
  have HR : Hid (Rd W.drew b g cap dv ts xb σ) := Lib.hid HD.out.rd
  have hb0 := HS.out.hb
  have hAW := HS.out.hA
  have mixed : Tryz.prog.follows .mixedOrders = true := by kernel_rfl
  have late : Tryz.prog.follows .lateStores = true := by kernel_rfl
  go_region_law (first
      | (refine step_call1 _ (by rfl) 41 #[.pointer (some ⟨b, 0, none⟩)] (by go_simp) _ (NM.out _ HR) ?_; rintro e w1 ⟨rfl, hr, hk⟩; refine ⟨_, rfl, ?_⟩; have HS1 := Lib.hid (HD.out.call hr hk); have HO1 := Lib.hid (own_keepT HOD.out (by decide) hb0 hk); have hsz : W0.heap.size ≤ w1.heap.size := HS1.out.rk.size; clear hr hk; obtain ⟨⟨_, _, _, _, _, y5, _, _, _⟩, yf⟩ := rgCells HS1.out.box; have y6 := yf 5; clear yf; have y7 : ∀ o, (w1.alloc o).cell? ⟨A + 1, 5, none⟩ = some (.slice so sn sc) := fun o => cell_on ((Below.refl _ _).alloc (Nat.le_refl _) o) y5)
      | (refine step_strs _ (by rfl) (.tmp 130) (.tmp 133) (by rfl) W0.heap.size (.slice so sn sc) sn xs (by rfl) (by exact HO1.out.alloc _) w1.heap.size (.string (str v)) (by rfl) (by exact new_cell1 _ _ _) (by rfl) hsn (by simp; omega) ?_; intro gg cc w2 ho hg; have HS2 := Lib.hid (((HS1.out.below ((Below.refl _ _).alloc (Nat.le_refl _) (.cells #[.string (str v)] 9)))).grown (HO1.out.alloc _) hg); have HO2 := Lib.hid ho; clear ho hg; obtain ⟨⟨_, _, _, _, _, z5, _, _, _⟩, zf⟩ := rgCells HS2.out.box; have z6 := zf 5; clear zf))
  all_goals (
    have HS3 := Lib.hid (HS2.out.set 5 (.slice (some ⟨gg, 0, none⟩) (sn + 1) cc) rfl)
    have HO3 : Hid ((w2.setCell ⟨A + 1, 5, none⟩ (.slice (some ⟨gg, 0, none⟩) (sn + 1) cc)).ownsRow W0.heap.size 9 1 (.slice (some ⟨gg, 0, none⟩) (sn + 1) cc) (sn + 1) (xs ++ [.string (str v)])) := Lib.hid (row_set HO2.out HS2.out.box _ _)
    exact hK.out _ _ _ _ _ _ _ _ _ _ HS3.out HO3.out)
set_option maxHeartbeats 16000000 in
set_option maxRecDepth 100000 in
theorem mode45 {u1 u2 u3 u5 u7 u8 u9 u10 u11 u12 u13 u14 u15 u16 u17 u18 u19 u20 u21 u22 u23 u24 u25 u26 u27 u28 u29 u30 u31 u32 u33 u34 u35 u36 u37 u38 u39 u40 u41 u42 u43 u44 u45 u46 u47 u48 u49 u50 u51 u52 u53 u54 u55 u56 u57 u58 u59 u60 u61 u62 u63 u64 u65 u66 u67 u68 u69 u70 u71 u72 u73 u74 u75 u76 u77 u78 u79 u80 u81 u82 u83 u84 u85 u86 u87 u88 u89 u90 u91 u92 u93 u94 u95 u96 u97 u98 u99 u100 u101 u102 u103 u104 u105 u106 u107 u108 u109 u110 u111 u112 u113 u114 u115 u116 u117 u118 u119 u120 u121 u122 u123 u124 u125 u126 u127 u128 u129 u130 u131 u132 u133 u134 u135 u136 u137 u138 u139 u140 u141 u142 u143 u144 u145 u146 u147 u148 u149 u150 u151 u152 u153 u154 u155 u156 u157 u158 u159 u160 u161 u162 u163 u164 u165 u166 u167 u168 u169 u170 u171 u172 u173 u174 u175 u176 u177 u178 u179 u180 u181 u182 u183 u184 u185 u186 u187 u188 u189 u190 : Value} (b g cap : Nat) (dv : Value) (ts : List Tok) (xb : Nat → Prop) (σ τ : RS) (v : List UInt8) (hv : Hid (v = nameV ts σ)) (hτ : Hid (τ = nameS ts σ)) (W0 W : World) (A : Nat) (nm : ByteArray) (pp : Int) (so : Option Addr) (sn sc : Nat) (xs : List Value) (hsn : sn ≤ 40000) (HS : Hid (IB W0 W b g cap dv ts xb σ A #[.int .i64 6, .string nm, .int .i64 0, .int .i64 0, .int .i64 0, .slice so sn sc, .string ⟨#[]⟩, .string ⟨#[]⟩, .int .i64 pp])) (HO : Hid (W.ownsRow W0.heap.size 9 1 (.slice so sn sc) sn xs))
    (K : Exit → Act → World → Prop) (hK : Hid (∀ (v138 v139 v140 v141 v142 v143 v144 : Value) (Y : World) (so' : Option Addr) (sc' : Nat), IB W0 Y b g cap dv ts xb τ A #[.int .i64 6, .string nm, .int .i64 0, .int .i64 0, .int .i64 0, .slice so' (sn + 1) sc', .string ⟨#[]⟩, .string ⟨#[]⟩, .int .i64 pp] → Y.ownsRow W0.heap.size 9 1 (.slice so' (sn + 1) sc') (sn + 1) (xs ++ [.string (str v)]) → K Exit.normal ⟨[.pointer (some ⟨b, 0, none⟩), u1, u2, u3, .pointer (some ⟨A, 0, none⟩), u5, .pointer (some ⟨A + 1, 0, none⟩), u7, u8, u9, u10, u11, u12, u13, u14, u15, u16, u17, u18, u19, u20, u21, u22, u23, u24, u25, u26, u27, u28, u29, u30, u31, u32, u33, u34, u35, u36, u37, u38, u39, u40, u41, u42, u43, u44, u45, u46, u47, u48, u49, u50, u51, u52, u53, u54, u55, u56, u57, u58, u59, u60, u61, u62, u63, u64, u65, u66, u67, u68, u69, u70, u71, u72, u73, u74, u75, u76, u77, u78, u79, u80, u81, u82, u83, u84, u85, u86, u87, u88, u89, u90, u91, u92, u93, u94, u95, u96, u97, u98, u99, u100, u101, u102, u103, u104, u105, u106, u107, u108, u109, u110, u111, u112, u113, u114, u115, u116, u117, u118, u119, u120, u121, u122, u123, u124, u125, u126, u127, u128, u129, u130, u131, u132, u133, u134, u135, u136, u137, v138, v139, v140, v141, v142, v143, v144, u145, u146, u147, u148, u149, u150, u151, u152, u153, u154, u155, u156, u157, u158, u159, u160, u161, u162, u163, u164, u165, u166, u167, u168, u169, u170, u171, u172, u173, u174, u175, u176, u177, u178, u179, u180, u181, u182, u183, u184, u185, u186, u187, u188, u189, u190].toArray, []⟩ Y)) :
    (rgnOf Tryz.f73 45).wp Tryz.prog K ⟨[.pointer (some ⟨b, 0, none⟩), u1, u2, u3, .pointer (some ⟨A, 0, none⟩), u5, .pointer (some ⟨A + 1, 0, none⟩), u7, u8, u9, u10, u11, u12, u13, u14, u15, u16, u17, u18, u19, u20, u21, u22, u23, u24, u25, u26, u27, u28, u29, u30, u31, u32, u33, u34, u35, u36, u37, u38, u39, u40, u41, u42, u43, u44, u45, u46, u47, u48, u49, u50, u51, u52, u53, u54, u55, u56, u57, u58, u59, u60, u61, u62, u63, u64, u65, u66, u67, u68, u69, u70, u71, u72, u73, u74, u75, u76, u77, u78, u79, u80, u81, u82, u83, u84, u85, u86, u87, u88, u89, u90, u91, u92, u93, u94, u95, u96, u97, u98, u99, u100, u101, u102, u103, u104, u105, u106, u107, u108, u109, u110, u111, u112, u113, u114, u115, u116, u117, u118, u119, u120, u121, u122, u123, u124, u125, u126, u127, u128, u129, u130, u131, u132, u133, u134, u135, u136, u137, u138, u139, u140, u141, u142, u143, u144, u145, u146, u147, u148, u149, u150, u151, u152, u153, u154, u155, u156, u157, u158, u159, u160, u161, u162, u163, u164, u165, u166, u167, u168, u169, u170, u171, u172, u173, u174, u175, u176, u177, u178, u179, u180, u181, u182, u183, u184, u185, u186, u187, u188, u189, u190].toArray, []⟩ W := by
  have NM : Hid (∀ W, Hid (Rd W b g cap dv ts xb σ) → Calls Tryz.prog 41 #[.pointer (some ⟨b, 0, none⟩)] W fun r Y => RdRet b g cap dv ts xb W (.string (str v)) τ r Y) := Lib.hid fun W h => by rw [hv.out, hτ.out]; exact name_any b g cap dv ts xb σ W h
  refine wp_onlyN ?_
  simp only [rgnOf, rgn, Tryz.f73]
  simp only [Nat.reduceEqDiff, if_true, if_false]
  have HD : Hid (IB W0 W.drew b g cap dv ts xb σ A #[.int .i64 6, .string nm, .int .i64 0, .int .i64 0, .int .i64 0, .slice so sn sc, .string ⟨#[]⟩, .string ⟨#[]⟩, .int .i64 pp]) := Lib.hid (HS.out.below (Below.refl _ _).drew)
  have HOD : Hid (W.drew.ownsRow W0.heap.size 9 1 (.slice so sn sc) sn xs) := Lib.hid HO.out
  obtain ⟨⟨x0, x1, x2, x3, x4, x5, x6, x7, x8⟩, xf⟩ := rgCells HD.out.box
  clear xf x0 x1 x2 x3 x4 x6 x7 x8
  have HR : Hid (Rd W.drew b g cap dv ts xb σ) := Lib.hid HD.out.rd
  have hb0 := HS.out.hb
  have hAW := HS.out.hA
  have mixed : Tryz.prog.follows .mixedOrders = true := by kernel_rfl
  have late : Tryz.prog.follows .lateStores = true := by kernel_rfl
  go_region_law (first
      | (refine step_call1 _ (by rfl) 41 #[.pointer (some ⟨b, 0, none⟩)] (by go_simp) _ (NM.out _ HR) ?_; rintro e w1 ⟨rfl, hr, hk⟩; refine ⟨_, rfl, ?_⟩; have HS1 := Lib.hid (HD.out.call hr hk); have HO1 := Lib.hid (own_keepT HOD.out (by decide) hb0 hk); have hsz : W0.heap.size ≤ w1.heap.size := HS1.out.rk.size; clear hr hk; obtain ⟨⟨_, _, _, _, _, y5, _, _, _⟩, yf⟩ := rgCells HS1.out.box; have y6 := yf 5; clear yf; have y7 : ∀ o, (w1.alloc o).cell? ⟨A + 1, 5, none⟩ = some (.slice so sn sc) := fun o => cell_on ((Below.refl _ _).alloc (Nat.le_refl _) o) y5)
      | (refine step_strs _ (by rfl) (.tmp 139) (.tmp 142) (by rfl) W0.heap.size (.slice so sn sc) sn xs (by rfl) (by exact HO1.out.alloc _) w1.heap.size (.string (str v)) (by rfl) (by exact new_cell1 _ _ _) (by rfl) hsn (by simp; omega) ?_; intro gg cc w2 ho hg; have HS2 := Lib.hid (((HS1.out.below ((Below.refl _ _).alloc (Nat.le_refl _) (.cells #[.string (str v)] 9)))).grown (HO1.out.alloc _) hg); have HO2 := Lib.hid ho; clear ho hg; obtain ⟨⟨_, _, _, _, _, z5, _, _, _⟩, zf⟩ := rgCells HS2.out.box; have z6 := zf 5; clear zf))
  all_goals (
    have HS3 := Lib.hid (HS2.out.set 5 (.slice (some ⟨gg, 0, none⟩) (sn + 1) cc) rfl)
    have HO3 : Hid ((w2.setCell ⟨A + 1, 5, none⟩ (.slice (some ⟨gg, 0, none⟩) (sn + 1) cc)).ownsRow W0.heap.size 9 1 (.slice (some ⟨gg, 0, none⟩) (sn + 1) cc) (sn + 1) (xs ++ [.string (str v)])) := Lib.hid (row_set HO2.out HS2.out.box _ _)
    exact hK.out _ _ _ _ _ _ _ _ _ _ HS3.out HO3.out)
end Go.Proofs.YtlbhlncipajapaaGreatDoor
namespace Go.Proofs.YtlbhlncipajapaaGreatDoor
open Go.RowKit Lx
set_option linter.unusedVariables false

theorem int_info : (Tryz.prog.info? 3).map (fun i => (i.zero, i.size, i.bytes)) = some (some (.int .i64 0), 1, 8) := by kernel_rfl
theorem cstep_int {ops : Array Oper} {o : Oper} {a : Act} {K : Act → World → Prop} {Q : Exit → Act → World → Prop} {E : Prop} (w : World) (hgd : o.guard = none) (s x : Operand)
    (ho : o.op = .call { callee := .builtin .append, args := #[s, x], argTypes := #[44, 44] })
    (B : Nat) (v : Value) (n : Nat) (xs : List Value) (hs : a.eval s = v) (hown : w.ownsRow B 3 1 v n xs) (kb : Nat) (u : Value) (hx : a.eval x = .slice (some ⟨kb, 0, none⟩) 1 1)
    (hc : w.cell? ⟨kb, 0, none⟩ = some u) (h1c : u.oneCell' = true) (hk : n ≤ 100000) (hB : B ≤ w.heap.size)
    (h : ∀ g cap w', w'.ownsRow B 3 1 (.slice (some ⟨g, 0, none⟩) (n + 1) cap) (n + 1) (xs ++ [u]) → w.grownBy w' v.ownBlock → (some g = v.ownBlock ∨ g = w.heap.size) → K (a.put o.dst (.slice (some ⟨g, 0, none⟩) (n + 1) cap)) w') : if Region.wanted o (yielded ops a.tmps) = true then Oper.wp Tryz.prog o a w K Q else E := by
  rw [if_pos (by simp [Region.wanted, hgd])]
  obtain ⟨i, h2, h3, h4, h5⟩ := info_parts int_info
  have hc' : ∀ j y, [u][j]? = some y → w.cell? ((⟨kb, 0, none⟩ : Addr).add j) = some y := fun j y hj => by
    cases j with
    | zero =>
      have e : (⟨kb, 0, none⟩ : Addr).add 0 = ⟨kb, 0, none⟩ := by unfold Addr.add; rfl
      rw [e, hc]; simpa using hj
    | succ j => simp at hj
  obtain ⟨v', w', hr, r1, r2, _⟩ := run_append_own (P := Tryz.prog) w B 44 o.type 3 i _ 1 8 Tryz.underlying44 h2 h3 h4 h5 rfl (by decide) v n xs hown ⟨kb, 0, none⟩ 1 1 [u] rfl hc' (by simpa using h1c) (by unfold maxLen; omega) (by omega) hB
  have r3 := row_after 44 3 1 8 Tryz.underlying44 h2 h3 h4 h5 (by decide) v n xs hown ⟨kb, 0, none⟩ [u] rfl hc' (by simpa using h1c) hk v' w' hr
  unfold Oper.wp execOp
  simp only [ho, resolve, invoke, builtin, Sem.run_bind, Sem.run_pure, Result.andThen_ok, List.map_toArray, List.map_cons, List.map_nil, hs, hx, hr]
  obtain ⟨g, cap, rfl⟩ := ownsRow_succ r1
  refine h g cap w' r1 r2 ?_
  rcases r3 with r3 | r3
  · exact .inl r3
  · exact .inr (Option.some.inj r3)
/-- what is read of a call's arguments: their numbers in a row that the box lb names -/
structure ArS (b g cap : Nat) (dv : Value) (ts : List Tok) (xb : Nat → Prop) (W0 : World) (lb rb : Nat) (xs : Nat → Prop) (o : Option Addr) (c : Nat) (acc : List Int) (σ : RS) (W : World) : Prop where
  xle : ∀ k, xb k → xs k
  cd : Cd W b g cap dv ts xs σ
  rx : RX b xb W0 W
  bx : BoxR W rb b
  lbx : W.heap[lb]? = some (.cells #[.slice o acc.length c] 44 (0, 0))
  own : W.ownsRow W0.heap.size 3 1 (.slice o acc.length c) acc.length (acc.map intC)
  ox : ∀ k, (Value.slice o acc.length c).ownBlock = some k → xs k
def ArI (b g cap : Nat) (dv : Value) (ts : List Tok) (xb : Nat → Prop) (W0 : World) (lb rb : Nat) (acc : List Int) (σ : RS) (W : World) : Prop := ∃ xs o c, ArS b g cap dv ts xb W0 lb rb xs o c acc σ W
def arOne (ts : List Tok) (f : Nat) (acc : List Int) (σ : RS) (acc' : List Int) (σ' : RS) : Prop := ∃ e l, runE ts f .expr σ = some (e, l, σ') ∧ acc' = acc ++ [e] ∧ acc.length ≤ 50000
theorem ArS.on {b g cap : Nat} {dv : Value} {ts : List Tok} {xb : Nat → Prop} {W0 : World} {lb rb : Nat} {xs : Nat → Prop} {o : Option Addr} {c : Nat} {acc : List Int} {σ σ' : RS} {W Y : World} (h : ArS b g cap dv ts xb W0 lb rb xs o c acc σ W) (hb : b < W0.heap.size) (hlb : lb ≠ b) (hrb : rb ≠ b) (hc : Cd Y b g cap dv ts xs σ') (hr : RX b xs W Y) : ArS b g cap dv ts xb W0 lb rb xs o c acc σ' Y :=
  ⟨h.xle, hc, h.rx.trans (hr.less h.xle), h.bx.keep hrb hr, hr.keep lb _ h.lbx hlb (NoEx.of (by decide)), own_keepT h.own (by decide) hb hr.rk, h.ox⟩
theorem arI_in {b g cap : Nat} {dv : Value} {ts : List Tok} {xb : Nat → Prop} {W0 : World} {lb rb : Nat} (hb : b < W0.heap.size) (hlb : lb ≠ b) (hrb : rb ≠ b) : ∀ (a : List Int) (σ : RS) (W : World), ArI b g cap dv ts xb W0 lb rb a σ W → ∃ xs : Nat → Prop, (∀ k, xb k → xs k) ∧ Cd W b g cap dv ts xs σ ∧ RX b xb W0 W ∧ ∀ σ' Y, Cd Y b g cap dv ts xs σ' → RX b xs W Y → ArI b g cap dv ts xb W0 lb rb a σ' Y := fun a σ W ⟨xs, o, c, h⟩ =>
  ⟨xs, h.xle, h.cd, h.rx, fun σ' Y hc hr => ⟨xs, o, c, h.on hb hlb hrb hc hr⟩⟩
/-- blocks of xs, and new ones, are what may differ -/
theorem Cd.off {W Y : World} {b g cap : Nat} {dv : Value} {ts : List Tok} {xs ys : Nat → Prop} {σ : RS} (h : Cd W b g cap dv ts xs σ) (hs : W.heap.size ≤ Y.heap.size) (hlow : ∀ k, k ≤ b → Y.heap[k]? = W.heap[k]?) (hy : ∀ k, k < W.heap.size → ¬ xs k → Y.heap[k]? = W.heap[k]?) (hys : ∀ k, ys k → xs k ∨ W.heap.size ≤ k) (hyl : ∀ k, ys k → k < Y.heap.size) : Cd Y b g cap dv ts ys σ := by
  have hsz := h.size
  obtain ⟨o, c, hc, ⟨q, q1, q2, q3⟩, h3⟩ := h.blk
  have hn : ∀ k, k < W.heap.size → ¬ xs k → ¬ ys k := fun k hk hx hk2 => by
    rcases hys k hk2 with h1 | h1
    · exact hx h1
    · omega
  refine ⟨hyl, ⟨o, c, (hlow b (Nat.le_refl _)).trans hc, ⟨q, q1, rd_own_same q2 fun k e => hy k (q2.lt k e).2 (h3 k e), fun p hp => ⟨rd_own_same (q3 p hp).1 fun k e => hy k ((q3 p hp).1.lt k e).2 ((q3 p hp).2 k e), fun k e => hn k ((q3 p hp).1.lt k e).2 ((q3 p hp).2 k e)⟩⟩, fun k e => hn k (q2.lt k e).2 (h3 k e)⟩, hn b hsz h.xnb, row_low h.row (hlow g (by have := h.lt; omega)), h.lt, h.at_, h.len, h.cp, h.ends, h.tx⟩
/-- one more: behind append and the store -/
theorem ArS.push {b g cap : Nat} {dv : Value} {ts : List Tok} {xb : Nat → Prop} {W0 : World} {lb rb : Nat} {xs : Nat → Prop} {o : Option Addr} {c : Nat} {acc : List Int} {e : Int} {σ : RS} {W W1 W2 : World} (h : ArS b g cap dv ts xb W0 lb rb xs o c acc σ W) (hb : b < W0.heap.size) (hlb : W0.heap.size ≤ lb) (hx0 : ∀ k, xb k → k < W0.heap.size) (hrb : rb < W0.heap.size + 1) (hrl : rb ≠ lb) (hrb2 : rb ≠ b) (hB : Below W.heap.size W W1) (gg cc : Nat)
    (ho : W2.ownsRow W0.heap.size 3 1 (.slice (some ⟨gg, 0, none⟩) (acc.length + 1) cc) (acc.length + 1) (acc.map intC ++ [intC e])) (hg : W1.grownBy W2 (Value.slice o acc.length c).ownBlock) (hn : some gg = (Value.slice o acc.length c).ownBlock ∨ gg = W1.heap.size) :
    ArI b g cap dv ts xb W0 lb rb (acc ++ [e]) σ (W2.setCell ⟨lb, 0, none⟩ (.slice (some ⟨gg, 0, none⟩) (acc.length + 1) cc)) := by
  have hw0 : W0.heap.size ≤ W.heap.size := h.rx.size
  have hs1 := hB.size
  have hs2 := hg.size
  have hlw := heap_lt h.lbx
  have hrw := heap_lt h.bx
  have own_ge : ∀ k, (Value.slice o acc.length c).ownBlock = some k → W0.heap.size ≤ k ∧ ∃ cs, W.heap[k]? = some (.cells cs 3 (0, 0)) := fun k hk => own_type h.own hk
  have same : ∀ k, k < W.heap.size → (Value.slice o acc.length c).ownBlock ≠ some k → W2.heap[k]? = W.heap[k]? := fun k hk hne => (hg.block k (by omega) (fun e => hne e.symm)).trans (hB.block k hk)
  have h2 : Cd W2 b g cap dv ts (fun k => xs k ∨ k = gg) σ := by
    refine h.cd.off (by omega) (fun k hk => same k (by omega) fun e => by have := (own_ge k e).1; omega) (fun k hk hx => same k hk fun e => hx (h.ox k e)) (fun k hk => ?_) (fun k hk => ?_)
    · rcases hk with hk | rfl
      · exact .inl hk
      · rcases hn with hn | hn
        · exact .inl (h.ox _ hn.symm)
        · exact .inr (by omega)
    · rcases hk with hk | rfl
      · exact Nat.lt_of_lt_of_le (h.cd.xlt k hk) (by omega)
      · exact (ho.lt _ rfl).2
  have hlb2 : W2.heap[lb]? = some (.cells #[.slice o acc.length c] 44 (0, 0)) := (same lb hlw fun e => by
    obtain ⟨_, cs, hc⟩ := own_ge lb e
    rw [h.lbx] at hc; cases hc).trans h.lbx
  have hrb3 : W2.heap[rb]? = W.heap[rb]? := same rb hrw fun e => by
    obtain ⟨_, cs, hc⟩ := own_ge rb e
    have hbx := h.bx
    unfold BoxR at hbx
    rw [hbx] at hc; cases hc
  have hgl : gg ≠ lb := fun e => by
    obtain ⟨_, cs, hc⟩ := own_type ho (k := gg) rfl
    rw [e, hlb2] at hc; cases hc
  have hbut : But lb W2 (W2.setCell ⟨lb, 0, none⟩ (.slice (some ⟨gg, 0, none⟩) (acc.length + 1) cc)) := (But.refl _ _).set 0 _
  have hlen : (acc ++ [e]).length = acc.length + 1 := by simp
  have r2 : RX b xb W0 W2 := by
    have r1 : RX b xb W0 W1 := h.rx.trans (RX.of_below hB (by omega) fun k hk => Nat.lt_of_lt_of_le (hx0 k hk) hw0)
    cases hk : (Value.slice o acc.length c).ownBlock with
    | none => rw [hk] at hg; exact r1.trans (RX.of_below (below_grown hg) (by omega) fun k hk => Nat.lt_of_lt_of_le (hx0 k hk) (by omega))
    | some k => rw [hk] at hg; exact r1.but hx0 (own_ge k hk).1 (by have := (own_ge k hk).1; omega) hb (but_grown hg)
  refine ⟨fun k => xs k ∨ k = gg, some ⟨gg, 0, none⟩, cc, fun k hk => .inl (h.xle k hk), h2.but hlb2 (by decide) (by decide) (by omega) hbut, r2.but hx0 hlb (by omega) hb hbut, ?_, ?_, ?_, ?_⟩
  · unfold BoxR
    rw [Below.heap_setCell W2 ⟨lb, 0, none⟩ _ rb hrl, hrb3]; exact h.bx
  · rw [set_blk hlb2, hlen]; simp
  · rw [hlen, List.map_append]
    exact rd_own_same ho fun k e => by
      obtain rfl : gg = k := by simpa [Value.ownBlock] using e
      exact Below.heap_setCell W2 ⟨lb, 0, none⟩ _ gg hgl
  · intro k e
    obtain rfl : gg = k := by simpa [Value.ownBlock] using e
    exact .inr rfl
theorem ArS.lb2 {b g cap : Nat} {dv : Value} {ts : List Tok} {xb : Nat → Prop} {W0 : World} {lb rb : Nat} {xs : Nat → Prop} {o : Option Addr} {c : Nat} {acc : List Int} {σ : RS} {W W1 W2 : World} (h : ArS b g cap dv ts xb W0 lb rb xs o c acc σ W) (hB : Below W.heap.size W W1) (hg : W1.grownBy W2 (Value.slice o acc.length c).ownBlock) : W2.heap[lb]? = some (.cells #[.slice o acc.length c] 44 (0, 0)) := by
  have hlw := heap_lt h.lbx
  refine ((hg.block lb (by have := hB.size; omega) (fun e => ?_)).trans (hB.block lb hlw)).trans h.lbx
  obtain ⟨_, cs, hc⟩ := own_type h.own e.symm
  rw [h.lbx] at hc; cases hc
theorem cell_one1 {W : World} {k : Nat} {x : Value} {T : TypeId} (h : W.heap[k]? = some (.cells #[x] T (0, 0))) : W.cell? ⟨k, 0, none⟩ = some x ∧ W.frozen? ⟨k, 0, none⟩ = false := ⟨by simp [World.cell?, h], by simp [World.frozen?, h]⟩
set_option maxHeartbeats 16000000 in
set_option maxRecDepth 100000 in
theorem args1_any (b g cap : Nat) (dv : Value) (ts : List Tok) (xb : Nat → Prop) (f : Nat) (IE : ∀ xb, RuleC b g cap dv ts xb 26 f .expr) (W0 : World) (lb rb : Nat) (hb : b < W0.heap.size) (hx0 : ∀ k, xb k → k < W0.heap.size) (hlb : W0.heap.size ≤ lb) (hrb : rb < W0.heap.size + 1) (hrl : rb ≠ lb) (hrb2 : rb ≠ b)
    (acc acc' : List Int) (σ σ' : RS) (hc : σ.code = 0) (h1 : arOne ts f acc σ acc' σ') (W : World) (h : Hid (ArI b g cap dv ts xb W0 lb rb acc σ W)) :
    Calls Tryz.prog 133 #[.pointer (some ⟨lb, 0, none⟩), .pointer (some ⟨rb, 0, none⟩)] W fun r Y => LsRet b xb W0 (ArI b g cap dv ts xb W0 lb rb) acc' σ' r Y := by
  obtain ⟨e, l, hr, rfl, hlen⟩ := h1
  obtain ⟨xs, o, c, hS⟩ := h.out
  have HS := Lib.hid hS
  have hbW : b < W.heap.size := hS.cd.size
  obtain ⟨l0, l1⟩ := cell_one1 hS.lbx
  have r0 := hS.bx.cell
  have hlb2 : lb ≠ b := by omega
  obtain ⟨n, hn⟩ : ∃ n, n = acc.length := ⟨_, rfl⟩
  rw [← hn] at l0
  have HN := Lib.hid hn
  have hn5 : n ≤ 50000 := by omega
  have HX := Lib.hid (show _ ∧ _ ∧ _ ∧ _ ∧ _ ∧ _ from ⟨hb, hx0, hlb, hrb, hrl, hrb2⟩)
  have HSD : Hid (ArS b g cap dv ts xb W0 lb rb xs o c acc σ W.drew) := Lib.hid (hS.on hb hlb2 hrb2 (hS.cd.below (below_dr (Below.refl _ _) 1)) (RX.of_below (below_dr (Below.refl _ _) 1) (Nat.le_of_lt hbW) hS.cd.xlt))
  have C0 : Hid (∀ W, Hid (Cd W b g cap dv ts xs σ) → Calls Tryz.prog 26 #[.pointer (some ⟨b, 0, none⟩)] W fun r Y => CdRet b g cap dv ts xs W (.int .i64 e) σ' r Y) := Lib.hid fun W h => IE xs σ e l σ' hc hr W h
  have HCD : Hid (Cd W.drew b g cap dv ts xs σ) := Lib.hid HSD.out.cd
  have l0' : W.drew.cell? ⟨lb, 0, none⟩ = some (.slice o n c) := l0
  have r0' : W.drew.cell? ⟨rb, 0, none⟩ = some (.pointer (some ⟨b, 0, none⟩)) := r0
  have mixed : Tryz.prog.follows .mixedOrders = true := by kernel_rfl
  have late : Tryz.prog.follows .lateStores = true := by kernel_rfl
  clear hr hc hS hn h hlen hx0 hrl hrb2 hrb
  by_cases hz : σ'.code = 0
  · have C1 : Hid (∀ W, Hid (Cd W b g cap dv ts xs σ) → Calls Tryz.prog 26 #[.pointer (some ⟨b, 0, none⟩)] W fun r Y => CdOk b g cap dv ts xs W (.int .i64 e) σ' r Y) := Lib.hid fun W h => (C0.out W h).mono fun r Y hh => hh.ok hz
    have HZ := Lib.hid hz
    clear C0 hz
    go_enter Tryz.func133, Tryz.ntmps133
    go_wp2_with fail
    refine wp_onlyN ?_
    go_region_law (first
      | (refine step_call1 _ (by rfl) 26 #[.pointer (some ⟨b, 0, none⟩)] (by go_simp) _ (C1.out _ HCD) ?_; rintro e1 w1 ⟨rfl, hr1, hk1⟩; refine ⟨_, rfl, ?_⟩; have HS1 := Lib.hid (HSD.out.on HX.out.1 hlb2 HX.out.2.2.2.2.2 hr1.out hk1.out); obtain ⟨y0, y1⟩ := cell_one1 HS1.out.lbx; rw [← HN.out] at y0; have y2 : ∀ oo, (w1.alloc oo).cell? ⟨lb, 0, none⟩ = some (.slice o n c) := fun oo => cell_on ((Below.refl _ _).alloc (Nat.le_refl _) oo) y0; have hw1 := HS1.out.rx.size)
      | (refine cstep_int _ (by rfl) (.tmp 2) (.tmp 5) (by rfl) W0.heap.size (.slice o n c) n (acc.map intC) (by rfl) (by have := HS1.out.own; rw [← HN.out] at this; exact this.alloc _) w1.heap.size (.int .i64 e) (by rfl) (by exact new_cell1 _ _ _) (by rfl) (by omega) (by simp; omega) ?_; intro gg cc w2 ho hg hgn; have HO := Lib.hid ho; have HG := Lib.hid hg; have HGN := Lib.hid hgn; clear ho hg hgn; have HP := Lib.hid (HS1.out.push (e := e) HX.out.1 HX.out.2.2.1 HX.out.2.1 HX.out.2.2.2.1 HX.out.2.2.2.2.1 HX.out.2.2.2.2.2 ((Below.refl _ _).alloc (Nat.le_refl _) (.cells #[.int .i64 e] 3)) gg cc (by have := HO.out; rw [HN.out] at this; exact this) (by have := HG.out; rw [HN.out] at this; exact this) (by have := HGN.out; rw [HN.out] at this; exact this)); obtain ⟨z8, z9⟩ := cell_one1 (HS1.out.lb2 ((Below.refl _ _).alloc (Nat.le_refl _) (.cells #[.int .i64 e] 3)) (by have := HG.out; rw [HN.out] at this; exact this)); rw [← HN.out] at z8))
    all_goals (
      unfold onlyN
      go_end0
      exact .inl ⟨HZ.out, rfl, by rw [HN.out]; exact HP.out⟩)
  · have C1 : Hid (∀ W, Hid (Cd W b g cap dv ts xs σ) → Calls Tryz.prog 26 #[.pointer (some ⟨b, 0, none⟩)] W fun r Y => CdBad b xs W σ'.code σ'.pos r Y) := Lib.hid fun W h => (C0.out W h).mono fun r Y hh => hh.bad hz
    have HZ := Lib.hid hz
    clear C0 hz
    go_enter Tryz.func133, Tryz.ntmps133
    go_wp2_with fail
    go_region_with (go_at_call 26; (with_reducible refine (C1.out _ HCD).mono ?_); rintro e1 w1 ⟨rfl, hk1⟩; refine dummyAny Tryz.prog w1 ⟨rfl, .inr ⟨HZ.out, rfl, HSD.out.rx.trans (hk1.out.less HSD.out.xle)⟩⟩ ?_)
    all_goals trivial
end Go.Proofs.YtlbhlncipajapaaGreatDoor
