/- Joined: RgItem, RgEnd, RgKind, RgMode. -/
import Derived.Test.YtlbhlncipajapaaGreatDoorPe22
import Derived.Test.YtlbhlncipajapaaGreatDoorPe26
import Derived.Deep.CutRange
import Derived.Deep.CutBlock
import Derived.Deep.RegionHeld3
namespace Go.Proofs.YtlbhlncipajapaaGreatDoor
open Go.RowKit Lx
set_option linter.unusedVariables false

set_option maxHeartbeats 8000000 in
set_option maxRecDepth 100000 in
theorem item_pre (b g cap : Nat) (dv : Value) (ts : List Tok) (xb : Nat → Prop) (σ : RS) (all : Bool) (W : World) (h : Hid (Rd W b g cap dv ts xb σ)) (R : Ending → World → Prop)
    (hc : Hid (∀ (V : World) (A : Nat) (u2 u3 u7 u8 u9 u10 u11 u12 u13 u14 u15 u16 u17 u18 u19 u20 u21 u22 u23 u24 u25 u26 u27 u28 u29 u30 u31 u32 u33 u34 u35 u36 u37 u38 u39 u40 u41 u42 u43 u44 u45 u46 u47 u48 u49 u50 u51 u52 u53 u54 u55 u56 u57 u58 u59 u60 u61 u62 u63 u64 u65 u66 u67 u68 u69 u70 u71 u72 u73 u74 u75 u76 u77 u78 u79 u80 u81 u82 u83 u84 u85 u86 u87 u88 u89 u90 u91 u92 u93 u94 u95 u96 u97 u98 u99 u100 u101 u102 u103 u104 u105 u106 u107 u108 u109 u110 u111 u112 u113 u114 u115 u116 u117 u118 u119 u120 u121 u122 u123 u124 u125 u126 u127 u128 u129 u130 u131 u132 u133 u134 u135 u136 u137 u138 u139 u140 u141 u142 u143 u144 u145 u146 u147 u148 u149 u150 u151 u152 u153 u154 u155 u156 u157 u158 u159 u160 u161 u162 u163 u164 u165 u166 u167 u168 u169 u170 u171 u172 u173 u174 u175 u176 u177 u178 u179 u180 u181 u182 u183 u184 u185 u186 u187 u188 u189 u190 : Value), IB W V b g cap dv ts xb σ A #[.int .i64 0, .string ⟨#[]⟩, .int .i64 0, .int .i64 0, .int .i64 0, .slice none 0 0, .string ⟨#[]⟩, .string ⟨#[]⟩, .int .i64 ((tokL ts σ.at_).at_ : Int)] →
      (sqhOf Tryz.f73 4).wp Tryz.prog (bodyPost Tryz.prog Tryz.f73 R) ⟨[.pointer (some ⟨b, 0, none⟩), .bool all, u2, u3, .pointer (some ⟨A, 0, none⟩), .bool false, .pointer (some ⟨A + 1, 0, none⟩), u7, u8, u9, u10, u11, u12, u13, u14, u15, u16, u17, u18, u19, u20, u21, u22, u23, u24, u25, u26, u27, u28, u29, u30, u31, u32, u33, u34, u35, u36, u37, u38, u39, u40, u41, u42, u43, u44, u45, u46, u47, u48, u49, u50, u51, u52, u53, u54, u55, u56, u57, u58, u59, u60, u61, u62, u63, u64, u65, u66, u67, u68, u69, u70, u71, u72, u73, u74, u75, u76, u77, u78, u79, u80, u81, u82, u83, u84, u85, u86, u87, u88, u89, u90, u91, u92, u93, u94, u95, u96, u97, u98, u99, u100, u101, u102, u103, u104, u105, u106, u107, u108, u109, u110, u111, u112, u113, u114, u115, u116, u117, u118, u119, u120, u121, u122, u123, u124, u125, u126, u127, u128, u129, u130, u131, u132, u133, u134, u135, u136, u137, u138, u139, u140, u141, u142, u143, u144, u145, u146, u147, u148, u149, u150, u151, u152, u153, u154, u155, u156, u157, u158, u159, u160, u161, u162, u163, u164, u165, u166, u167, u168, u169, u170, u171, u172, u173, u174, u175, u176, u177, u178, u179, u180, u181, u182, u183, u184, u185, u186, u187, u188, u189, u190].toArray, []⟩ V)) :
    Calls Tryz.prog 73 #[.pointer (some ⟨b, 0, none⟩), .bool all] W R := by
  obtain ⟨ps0, hps0⟩ : ∃ ps0, ps0 = (tokL ts σ.at_).at_ := ⟨_, rfl⟩
  rw [← hps0] at hc
  have HPS0 := Lib.hid hps0
  clear hps0
  obtain ⟨o, c, ⟨c0, c1, c3, c4, c5, c6, fr⟩, hx⟩ := h.out.cells
  have ht := h.out.tok
  have hgb : g ≠ b := by have := h.out.lt; omega
  have hl := h.out.at_
  have hn := h.out.len
  obtain ⟨t0, t1, t2, t3⟩ := ht
  obtain ⟨n, hnn⟩ : ∃ n, n = ts.length := ⟨_, rfl⟩
  obtain ⟨a, haa⟩ : ∃ a, a = σ.at_ := ⟨_, rfl⟩
  obtain ⟨cd, hcd⟩ : ∃ cd, cd = σ.code := ⟨_, rfl⟩
  obtain ⟨ps, hps⟩ : ∃ ps, ps = σ.pos := ⟨_, rfl⟩
  obtain ⟨dp, hdp⟩ : ∃ dp, dp = σ.deep := ⟨_, rfl⟩
  obtain ⟨kd, hkd⟩ : ∃ kd, kd = (tokL ts σ.at_).kind := ⟨_, rfl⟩
  obtain ⟨tx, htx⟩ : ∃ tx, tx = (tokL ts σ.at_).text := ⟨_, rfl⟩
  obtain ⟨tv, htv⟩ : ∃ tv, tv = (tokL ts σ.at_).v := ⟨_, rfl⟩
  obtain ⟨p, hp⟩ : ∃ p, p = (tokL ts σ.at_).at_ := ⟨_, rfl⟩
  rw [← hnn] at c0 hl hn
  rw [← hkd] at t0
  rw [← htx] at t1
  rw [← htv] at t2
  rw [← hp] at t3
  rw [← haa] at c1 t0 t1 t2 t3 hl
  rw [← hcd] at c5
  rw [← hdp] at c4
  rw [← hps] at c6
  have k0 : ((a : Nat) : Int) < (n : Int) := by omega
  have f1 := fr 1
  have f4 := fr 4
  have f5 := fr 5
  have f6 := fr 6
  have HCD := Lib.hid hcd
  have HPS := Lib.hid hps
  have HDP := Lib.hid hdp
  have HKD := Lib.hid hkd
  have HTX := Lib.hid htx
  have HTV := Lib.hid htv
  have HP := Lib.hid hp
  have HAA := Lib.hid haa
  have HNN := Lib.hid hnn
  clear fr hx hnn haa hcd hps hdp hkd htx htv hp c3
  have hbs : b < W.heap.size := h.out.size
  go_enter Tryz.func73, Tryz.ntmps73
  go_wp2_with fail
  go_region_held3 (fun w' => w'.cell? ⟨b, 0, none⟩ = some (.slice (some ⟨g, 0, none⟩) n cap) ∧ w'.cell? ⟨b, 1, none⟩ = some (.int .i64 (a : Int)) ∧ w'.cell? ⟨g, a * 4 + 3, none⟩ = some (.int .i64 (p : Int)))
    ((repeat' apply And.intro) <;> first | assumption | exact cell_set2 (by assumption) (by omega) | go_keep)
    (fail)
  obtain ⟨A, hA⟩ : ∃ A, A = W.heap.size := ⟨_, rfl⟩
  obtain ⟨V, hV⟩ : ∃ V, V = ((W.alloc (.cells #[.int .i64 0, .string ⟨#[]⟩, .int .i64 0, .int .i64 0, .int .i64 0, .slice none 0 0, .string ⟨#[]⟩, .string ⟨#[]⟩, .int .i64 0] 65)).alloc (.cells #[.int .i64 0, .string ⟨#[]⟩, .int .i64 0, .int .i64 0, .int .i64 0, .slice none 0 0, .string ⟨#[]⟩, .string ⟨#[]⟩, .int .i64 (p : Int)] 65)).drew := ⟨_, rfl⟩
  have hbV : Below W.heap.size W V := by rw [hV]; exact (((Below.refl _ _).alloc (Nat.le_refl _) _).alloc (by simp) _).drew
  have HB0 : V.heap[A]? = some (.cells itZ 65 (0, 0)) := by
    rw [hV, hA]
    exact (heap_alloc_old _ _ (by simp)).trans (heap_alloc_new W _)
  have HB1 : V.heap[A + 1]? = some (.cells #[.int .i64 0, .string ⟨#[]⟩, .int .i64 0, .int .i64 0, .int .i64 0, .slice none 0 0, .string ⟨#[]⟩, .string ⟨#[]⟩, .int .i64 (p : Int)] 65 (0, 0)) := by
    have := heap_alloc_new (W.alloc (.cells itZ 65)) (.cells #[.int .i64 0, .string ⟨#[]⟩, .int .i64 0, .int .i64 0, .int .i64 0, .slice none 0 0, .string ⟨#[]⟩, .string ⟨#[]⟩, .int .i64 (p : Int)] 65)
    rw [World.size_alloc, ← hA] at this
    rw [hV]; exact this
  have HPP : ps0 = p := by rw [HPS0.out, HP.out]
  have HIB : IB W V b g cap dv ts xb σ A #[.int .i64 0, .string ⟨#[]⟩, .int .i64 0, .int .i64 0, .int .i64 0, .slice none 0 0, .string ⟨#[]⟩, .string ⟨#[]⟩, .int .i64 (p : Int)] := ⟨h.out.below hbV, RK.of_below hbV (Nat.le_of_lt hbs), HB0, HB1, by omega, hbs⟩
  rw [HPP] at hc
  rw [← hV, ← hA]
  have HC := hc.out V A
  go_step
  go_step
  refine HC _ _ _ _ _ _ _ _ _ _ _ _ _ _ _ _ _ _ _ _ _ _ _ _ _ _ _ _ _ _ _ _ _ _ _ _ _ _ _ _ _ _ _ _ _ _ _ _ _ _ _ _ _ _ _ _ _ _ _ _ _ _ _ _ _ _ _ _ _ _ _ _ _ _ _ _ _ _ _ _ _ _ _ _ _ _ _ _ _ _ _ _ _ _ _ _ _ _ _ _ _ _ _ _ _ _ _ _ _ _ _ _ _ _ _ _ _ _ _ _ _ _ _ _ _ _ _ _ _ _ _ _ _ _ _ _ _ _ _ _ _ _ _ _ _ _ _ _ _ _ _ _ _ _ _ _ _ _ _ _ _ _ _ _ _ _ _ _ _ _ _ _ _ _ _ _ _ _ _ _ _ _ _ _ _ _ HIB
end Go.Proofs.YtlbhlncipajapaaGreatDoor
namespace Go.Proofs.YtlbhlncipajapaaGreatDoor
open Go.RowKit Lx
set_option linter.unusedVariables false

set_option maxHeartbeats 8000000 in
set_option maxRecDepth 100000 in
theorem item_end {u1 u2 u3 u7 u8 u9 u10 u11 u12 u13 u14 u15 u16 u17 u18 u19 u20 u21 u22 u23 u24 u25 u26 u27 u28 u29 u30 u31 u32 u33 u34 u35 u36 u37 u38 u39 u40 u41 u42 u43 u44 u45 u46 u47 u48 u49 u50 u51 u52 u53 u54 u55 u56 u57 u58 u59 u60 u61 u62 u63 u64 u65 u66 u67 u68 u69 u70 u71 u72 u73 u74 u75 u76 u77 u78 u79 u80 u81 u82 u83 u84 u85 u86 u87 u88 u89 u90 u91 u92 u93 u94 u95 u96 u97 u98 u99 u100 u101 u102 u103 u104 u105 u106 u107 u108 u109 u110 u111 u112 u113 u114 u115 u116 u117 u118 u119 u120 u121 u122 u123 u124 u125 u126 u127 u128 u129 u130 u131 u132 u133 u134 u135 u136 u137 u138 u139 u140 u141 u142 u143 u144 u145 u146 u147 u148 u149 u150 u151 u152 u153 u154 u155 u156 u157 u158 u159 u160 u161 u162 u163 u164 u165 u166 u167 u168 u169 u170 u171 u172 u173 u174 u175 u176 u177 u178 u179 u180 u181 u182 u183 u184 u185 u186 u187 u188 u189 u190 : Value} (b g cap : Nat) (dv : Value) (ts : List Tok) (xb : Nat → Prop) (σ τ : RS) (hτ : Hid (τ = wantS ts [59] σ)) (W0 W : World) (A : Nat) (b5 : Bool) (k ty ie jf pp : Int) (nm st nx : ByteArray) (so : Option Addr) (sn sc : Nat) (HS : Hid (IB W0 W b g cap dv ts xb σ A #[.int .i64 k, .string nm, .int .i64 ty, .int .i64 ie, .int .i64 jf, .slice so sn sc, .string st, .string nx, .int .i64 pp])) (R : Ending → World → Prop)
    (hR : Hid (∀ Z Y : World, Rd Y b g cap dv ts xb τ → RK b W Z → But A Z Y → RK b W0 Y → R (.returned (.tuple #[.agg #[.int .i64 k, .string nm, .int .i64 ty, .int .i64 ie, .int .i64 jf, .slice so sn sc, .string st, .string nx, .int .i64 pp], .bool (decide (τ.code = 0))])) Y)) :
    (sqhOf Tryz.f73 59).wp Tryz.prog (bodyPost Tryz.prog Tryz.f73 R) ⟨[.pointer (some ⟨b, 0, none⟩), u1, u2, u3, .pointer (some ⟨A, 0, none⟩), .bool b5, .pointer (some ⟨A + 1, 0, none⟩), u7, u8, u9, u10, u11, u12, u13, u14, u15, u16, u17, u18, u19, u20, u21, u22, u23, u24, u25, u26, u27, u28, u29, u30, u31, u32, u33, u34, u35, u36, u37, u38, u39, u40, u41, u42, u43, u44, u45, u46, u47, u48, u49, u50, u51, u52, u53, u54, u55, u56, u57, u58, u59, u60, u61, u62, u63, u64, u65, u66, u67, u68, u69, u70, u71, u72, u73, u74, u75, u76, u77, u78, u79, u80, u81, u82, u83, u84, u85, u86, u87, u88, u89, u90, u91, u92, u93, u94, u95, u96, u97, u98, u99, u100, u101, u102, u103, u104, u105, u106, u107, u108, u109, u110, u111, u112, u113, u114, u115, u116, u117, u118, u119, u120, u121, u122, u123, u124, u125, u126, u127, u128, u129, u130, u131, u132, u133, u134, u135, u136, u137, u138, u139, u140, u141, u142, u143, u144, u145, u146, u147, u148, u149, u150, u151, u152, u153, u154, u155, u156, u157, u158, u159, u160, u161, u162, u163, u164, u165, u166, u167, u168, u169, u170, u171, u172, u173, u174, u175, u176, u177, u178, u179, u180, u181, u182, u183, u184, u185, u186, u187, u188, u189, u190].toArray, []⟩ W := by
  have WT : Hid (∀ W, Hid (Rd W b g cap dv ts xb σ) → Calls Tryz.prog 37 #[.pointer (some ⟨b, 0, none⟩), .string ⟨#[59]⟩] W fun r Y => RdRet b g cap dv ts xb W (.tuple #[]) τ r Y) := Lib.hid fun W h => by rw [hτ.out]; exact want_any b g cap dv ts xb σ [59] W h
  obtain ⟨zc, hzc⟩ : ∃ zc, zc = τ.code := ⟨_, rfl⟩
  have HZC := Lib.hid hzc
  rw [← hzc] at hR
  clear hzc
  obtain ⟨Q, hQ⟩ : ∃ Q, Q = bodyPost Tryz.prog Tryz.f73 R := ⟨_, rfl⟩
  rw [← hQ]
  have HQ := Lib.hid hQ
  clear hQ
  simp only [sqhOf, sqh, headR, Tryz.f73]
  simp only [Option.some.injEq, Nat.reduceEqDiff, if_true, if_false]
  have HR0 := Lib.hid HS.out.rd
  go_wp2_with (go_at_call 37; (with_reducible refine Calls.mono (WT.out _ HR0) ?_); (rintro e Z ⟨rfl, hr, hk⟩); have HS2 := Lib.hid (HS.out.call hr hk); have HK2 := Lib.hid hk; clear hr hk; obtain ⟨⟨m0, m1, m2, m3, m4, m5, m6, m7, m8⟩, mf⟩ := rgCells HS2.out.box; obtain ⟨⟨n0, n1, n2, n3, n4, n5, n6, n7, n8⟩, nf⟩ := rgCells HS2.out.zero; obtain ⟨_, _, ⟨_, _, _, _, c5, _, _⟩, _⟩ := HS2.out.rd.cells; rw [← HZC.out] at c5; have f0 := nf 0; have f1 := nf 1; have f2 := nf 2; have f3 := nf 3; have f4 := nf 4; have f5 := nf 5; have f6 := nf 6; have f7 := nf 7; have f8 := nf 8; clear nf mf)
  have mixed : Tryz.prog.follows .mixedOrders = true := by kernel_rfl
  have hbA : b < A := by have := HS2.out.hA; have := HS2.out.hb; omega
  go_region_o
  obtain ⟨Y, hY⟩ : ∃ Y, Y = (set9 Z A (.int .i64 k) (.string nm) (.int .i64 ty) (.int .i64 ie) (.int .i64 jf) (.slice so sn sc) (.string st) (.string nx) (.int .i64 pp)).drew := ⟨_, rfl⟩
  have hY2 := hY
  unfold set9 at hY2
  rw [← hY2]
  have HB := Lib.hid (show But A Z Y by rw [hY]; exact (set9_but Z A _ _ _ _ _ _ _ _ _).drew)
  have HY : Hid (Y.heap[A]? = some (.cells #[.int .i64 k, .string nm, .int .i64 ty, .int .i64 ie, .int .i64 jf, .slice so sn sc, .string st, .string nx, .int .i64 pp] 65 (0, 0))) := Lib.hid (by rw [hY, (show ∀ X : World, X.drew.heap = X.heap from fun _ => rfl)]; exact set9_box HS2.out.zero _ _ _ _ _ _ _ _ _)
  clear hY hY2 n0 n1 n2 n3 n4 n5 n6 n7 n8 m0 m1 m2 m3 m4 m5 m6 m7 m8 f0 f1 f2 f3 f4 f5 f6 f7 f8 c5
  go_wp2_with fail
  obtain ⟨⟨r0, r1, r2, r3, r4, r5, r6, r7, r8⟩, _⟩ := rgCells HY.out
  rw [HQ.out]
  have hz : (zc == 0) = decide (zc = 0) := by by_cases h : zc = 0 <;> simp [h]
  refine bodyPost_ret (v := .tuple #[.agg #[.int .i64 k, .string nm, .int .i64 ty, .int .i64 ie, .int .i64 jf, .slice so sn sc, .string st, .string nx, .int .i64 pp], .bool (decide (zc = 0))]) (by simp [hz, results, Tryz.results73, go_sem, r0, r1, r2, r3, r4, r5, r6, r7, r8]) rfl ?_
  exact hR.out Z Y (HS2.out.rd.but HS2.out.zero (by decide) (by decide) hbA HB.out) HK2.out HB.out (HS2.out.rk.but HS2.out.hA hbA HS2.out.hb HB.out)
end Go.Proofs.YtlbhlncipajapaaGreatDoor
namespace Go.Proofs.YtlbhlncipajapaaGreatDoor
open Go.RowKit Lx
set_option linter.unusedVariables false

def kindV (ts : List Tok) (σ : RS) : Int := if isS ts [98, 111, 111, 108] σ = true then 2 else 1
def kindS (ts : List Tok) (σ : RS) : RS := if isS ts [98, 111, 111, 108] σ = true then stepS σ else wantS ts [102, 105, 120] σ
def it0 : It := ⟨0, ⟨#[]⟩, 0, 0, 0, [], ⟨#[]⟩, ⟨#[]⟩, 0⟩
/-- an item's answer -/
def ItRetG (b g cap : Nat) (dv : Value) (ts : List Tok) (xb : Nat → Prop) (W : World) (x : It) (ok : Bool) (σ : RS) (r : Ending) (Y : World) : Prop :=
  ∃ so sn sc, r = .returned (.tuple #[.agg #[.int .i64 x.kind, .string x.name, .int .i64 x.type, .int .i64 x.e, .int .i64 x.f, .slice so sn sc, .string x.state, .string x.next, .int .i64 x.pos], .bool ok]) ∧ Rd Y b g cap dv ts xb σ ∧ RK b W Y ∧ Y.ownsRow W.heap.size 9 1 (.slice so sn sc) x.states.length (x.states.map .string)
set_option maxHeartbeats 4000000 in
theorem kind_any (b g cap : Nat) (dv : Value) (ts : List Tok) (xb : Nat → Prop) (σ : RS) (W : World) (h : Hid (Rd W b g cap dv ts xb σ)) :
    Calls Tryz.prog 44 #[.pointer (some ⟨b, 0, none⟩)] W fun r Y => RdRet b g cap dv ts xb W (.int .i64 (kindV ts σ)) (kindS ts σ) r Y := by
  unfold kindV kindS
  cases hi : isS ts [98, 111, 111, 108] σ with
  | true =>
    have C : Hid (Calls Tryz.prog 36 #[.pointer (some ⟨b, 0, none⟩), .string ⟨#[98, 111, 111, 108]⟩] W fun r Y => RdRet b g cap dv ts xb W (.bool true) (stepS σ) r Y) := Lib.hid (took_true [98, 111, 111, 108] hi W h)
    clear hi
    go_enter Tryz.func44, Tryz.ntmps44
    go_wp2_with (go_at_call 36; (with_reducible refine C.out.mono ?_); rintro e w1 ⟨rfl, hr, hk⟩; have HR := Lib.hid hr; have HK := Lib.hid hk; clear hr hk)
    go_ret
    exact ⟨rfl, HR.out, HK.out⟩
  | false =>
    have C : Hid (Calls Tryz.prog 36 #[.pointer (some ⟨b, 0, none⟩), .string ⟨#[98, 111, 111, 108]⟩] W fun r Y => RdRet b g cap dv ts xb W (.bool false) σ r Y) := Lib.hid (took_false [98, 111, 111, 108] hi W h)
    have C2 : Hid (∀ W, Hid (Rd W b g cap dv ts xb σ) → Calls Tryz.prog 37 #[.pointer (some ⟨b, 0, none⟩), .string ⟨#[102, 105, 120]⟩] W fun r Y => RdRet b g cap dv ts xb W (.tuple #[]) (wantS ts [102, 105, 120] σ) r Y) := Lib.hid fun W h => want_any b g cap dv ts xb σ [102, 105, 120] W h
    clear hi
    go_enter Tryz.func44, Tryz.ntmps44
    go_wp2_with (first
      | (go_at_call 36; (with_reducible refine C.out.mono ?_); rintro e w1 ⟨rfl, hr, hk⟩; have HR := Lib.hid hr; have HK := Lib.hid hk; clear hr hk)
      | (go_at_call 37; (with_reducible refine (C2.out w1 HR).mono ?_); rintro e w2 ⟨rfl, hr, hk⟩; have HR2 := Lib.hid hr; have HK2 := Lib.hid hk; clear hr hk))
    go_ret
    exact ⟨rfl, HR2.out, HK.out.trans HK2.out⟩
end Go.Proofs.YtlbhlncipajapaaGreatDoor
namespace Go.Proofs.YtlbhlncipajapaaGreatDoor
open Go.RowKit Lx
set_option linter.unusedVariables false

theorem IB.below {W0 Y Z : World} {b g cap : Nat} {dv : Value} {ts : List Tok} {xb : Nat → Prop} {σ : RS} {A : Nat} {c : Array Value} (h : IB W0 Y b g cap dv ts xb σ A c) (hb : Below Y.heap.size Y Z) : IB W0 Z b g cap dv ts xb σ A c :=
  h.call (h.rd.below hb) (RK.of_below hb (by have := h.hb; have := h.rk.size; omega))
theorem IB.grown {W0 Y Z : World} {b g cap : Nat} {dv : Value} {ts : List Tok} {xb : Nat → Prop} {σ : RS} {A : Nat} {c : Array Value} (h : IB W0 Y b g cap dv ts xb σ A c) {v : Value} {n : Nat} {xs : List Value} (ho : Y.ownsRow W0.heap.size 9 1 v n xs) (hg : Y.grownBy Z v.ownBlock) : IB W0 Z b g cap dv ts xb σ A c := by
  have ne : ∀ (k : Nat) (cs : Array Value), Y.heap[k]? = some (.cells cs 65 (0, 0)) → Z.heap[k]? = some (.cells cs 65 (0, 0)) := fun k cs hk => (hg.block k (heap_lt hk) fun e => by
    obtain ⟨_, cs', hc⟩ := own_type ho e.symm
    rw [hk] at hc; cases hc).trans hk
  exact ⟨h.rd.grownT ho h.hb (by decide) (by decide) hg, h.rk.grownT h.hb ho hg, ne A _ h.zero, ne (A + 1) _ h.box, h.hA, h.hb⟩
/-- the region of this number -/
noncomputable def rgn (n : Nat) : Code → Option Code
  | .region i o d => if i = n then some (.region i o d) else none
  | .seq a b => match rgn n a with
    | some c => some c
    | none => rgn n b
  | .cond _ a b => match rgn n a with
    | some c => some c
    | none => rgn n b
  | .block _ c => rgn n c
  | .loop c => rgn n c
  | _ => none
noncomputable def rgnOf (f : Func) (n : Nat) : Code := match rgn n (match f.body with | some c => c | none => .skip) with
  | some c => c
  | none => .skip
/-- the states of a mode -/
def statesL (ts : List Tok) : Nat → List ByteArray → RS → Option (List ByteArray × RS)
  | 0, _, _ => none
  | f + 1, acc, σ => if acc.length ≤ 40000 then (if isS ts [44] σ = true then statesL ts f (acc ++ [str (nameV ts (stepS σ))]) (nameS ts (stepS σ)) else some (acc, σ)) else none
theorem str_info : (Tryz.prog.info? 9).map (fun i => (i.zero, i.size, i.bytes)) = some (some (.string ⟨#[]⟩), 1, 16) := by kernel_rfl
theorem step_strs {ops : Array Oper} {o : Oper} {a : Act} {K : Act → World → Prop} {Q : Exit → Act → World → Prop} {E : Prop} (w : World) (hgd : o.guard = none) (s x : Operand)
    (ho : o.op = Op.call { callee := Callee.builtin Builtin.append, args := #[s, x], argTypes := #[63, 63] }) (B : Nat) (v : Value) (n : Nat) (xs : List Value) (hs : a.eval s = v) (hown : w.ownsRow B 9 1 v n xs)
    (kb : Nat) (u : Value) (hx : a.eval x = .slice (some ⟨kb, 0, none⟩) 1 1) (hc : w.cell? ⟨kb, 0, none⟩ = some u) (h1c : u.oneCell' = true) (hk : n ≤ 40000) (hB : B ≤ w.heap.size)
    (h : ∀ g cap w', w'.ownsRow B 9 1 (.slice (some ⟨g, 0, none⟩) (n + 1) cap) (n + 1) (xs ++ [u]) → w.grownBy w' v.ownBlock → K (a.put o.dst (.slice (some ⟨g, 0, none⟩) (n + 1) cap)) w') : if Region.wanted o (yielded ops a.tmps) = true then Oper.wp Tryz.prog o a w K Q else E := by
  rw [if_pos (by simp [Region.wanted, hgd])]
  obtain ⟨i, h2, h3, h4, h5⟩ := info_parts str_info
  refine wp_append_own w s x 63 ho B 9 i _ 1 16 Tryz.underlying63 h2 h3 h4 h5 rfl (by decide) v n xs hs hown ⟨kb, 0, none⟩ 1 1 [u] hx rfl (fun j v hj => ?_) (by simpa using h1c) (by unfold maxLen; omega) (by omega) hB fun v' w' r1 r2 _ => ?_
  · cases j with
    | zero =>
      cases hj
      have e : (⟨kb, 0, none⟩ : Addr).add 0 = ⟨kb, 0, none⟩ := by unfold Addr.add; split <;> simp_all
      rw [e]; exact hc
    | succ j => simp at hj
  · obtain ⟨g, cap, rfl⟩ := ownsRow_succ r1
    exact h g cap w' r1 r2
theorem step_call1 {ops : Array Oper} {o : Oper} {a : Act} {K : Act → World → Prop} {Q : Exit → Act → World → Prop} {E : Prop} (w : World) (hgd : o.guard = none) (f : FuncId) (args : Array Value) (hr : (execOp a.eval o).run Tryz.prog w = .ok (.enter f args) w) (P : Ending → World → Prop) (C : Calls Tryz.prog f args w P)
    (h : ∀ e w', P e w' → ∃ val, e = .returned val ∧ K (a.put o.dst val) w') : if Region.wanted o (yielded ops a.tmps) = true then Oper.wp Tryz.prog o a w K Q else E := by
  rw [if_pos (by simp [Region.wanted, hgd])]
  unfold Oper.wp
  rw [hr, Oper.upon_enter]
  refine C.mono fun e w' hp => ?_
  obtain ⟨val, rfl, hk⟩ := h e w' hp
  exact hk
theorem wpList_strs (w : World) {ops : Array Oper} {rest : List Oper} {o : Oper} {a : Act} {Q : Exit → Act → World → Prop}
    (hg : o.guard = none) (s x : Operand) (hop : o.op = Op.call { callee := Callee.builtin Builtin.append, args := #[s, x], argTypes := #[63, 63] })
    (base : Nat) (v : Value) (k : Nat) (xs : List Value) (hs : a.eval s = v) (hown : w.ownsRow base 9 1 v k xs) (kb : Nat) (u : Value) (hx : a.eval x = .slice (some ⟨kb, 0, none⟩) 1 1)
    (hc : w.cell? ⟨kb, 0, none⟩ = some u) (h1c : u.oneCell' = true) (hk : k ≤ 40000) (b3 : base ≤ w.heap.size)
    (hK : ∀ g cap w', w'.ownsRow base 9 1 (.slice (some ⟨g, 0, none⟩) (k + 1) cap) (k + 1) (xs ++ [u]) → w.grownBy w' v.ownBlock → wpList Tryz.prog ops Q rest (a.put o.dst (.slice (some ⟨g, 0, none⟩) (k + 1) cap)) w') :
    wpList Tryz.prog ops Q (o :: rest) a w := by
  obtain ⟨i, h2, h3, h4, h5⟩ := info_parts str_info
  refine wpList_append_lies (w := w) hg s x 63 hop base 9 i _ 1 16 Tryz.underlying63 h2 h3 h4 h5 rfl (by decide) v k xs hs hown ⟨kb, 0, none⟩ 1 1 [u] hx rfl (fun j v hj => ?_) (by simpa using h1c) (by decide) (by unfold maxLen; omega) (by omega) b3 w.heap.size rfl fun g cap w' h1 h2 _ _ => hK g cap w' h1 h2
  cases j with
  | zero =>
    cases hj
    have e : (⟨kb, 0, none⟩ : Addr).add 0 = ⟨kb, 0, none⟩ := by unfold Addr.add; split <;> simp_all
    rw [e]; exact hc
  | succ j => simp at hj
end Go.Proofs.YtlbhlncipajapaaGreatDoor
