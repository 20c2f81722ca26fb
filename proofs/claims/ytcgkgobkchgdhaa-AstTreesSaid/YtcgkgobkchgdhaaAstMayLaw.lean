/- The law AstMay answers true: over any program. -/
import Derived.Test.YtcgkgobkchgdhaaAstAlive
import Derived.Test.YtcgkgobkchgdhaaAstRefMayP
import Derived.Deep.RegionHeld3
import Derived.Deep.CutRange
import Derived.Outline
namespace Go.Proofs.Ytcgkgobkchgdhaa
open Go.RowKit Go.Shelf

attribute [local go_sem] Oper.semAt_some

theorem ix_il {o : Option Addr} {n cap g : Nat} (h : 0 < n → o = some ⟨g, 0, none⟩) {j : Nat} (hj : j < n) (hn : n ≤ 9223372036854775807) : Ix 28 1 (.slice o n cap) g 0 j := by
  intro W
  rw [h (by omega)]
  have h1 : (j : Int) < (n : Int) := by omega
  have h2 : (j : Int) ≤ 9223372036854775807 := by omega
  go_simp
theorem own_sl {w : World} {base : Nat} {v : Value} {l : List Int} (h : w.ownsRow base 3 1 v l.length (l.map intV)) :
    ∃ o cap g, v = .slice o l.length cap ∧ (0 < l.length → o = some ⟨g, 0, none⟩) ∧ ∀ j, j < l.length → w.cell? ⟨g, j, none⟩ = some (.int .i64 (l.getD j 0)) := by
  rcases Nat.eq_zero_or_pos l.length with h0 | h0
  · have hl : l = [] := List.length_eq_zero_iff.1 h0
    subst hl
    rcases h.2 with ⟨rfl, _⟩ | ⟨g, cap, cur, rfl, _⟩
    · exact ⟨none, 0, 0, rfl, by simp, by simp⟩
    · exact ⟨some ⟨g, 0, none⟩, cap, g, rfl, fun _ => rfl, by simp⟩
  · obtain ⟨m, hm⟩ : ∃ m, l.length = m + 1 := ⟨l.length - 1, by omega⟩
    rw [hm] at h
    obtain ⟨g, cap, rfl⟩ := ownsRow_succ h
    refine ⟨some ⟨g, 0, none⟩, cap, g, by rw [hm], fun _ => rfl, fun j hj => ?_⟩
    have h2 := h.cells (g := g) rfl j (intV (l.getD j 0)) (by rw [List.getElem?_map, List.getElem?_eq_getElem hj, List.getD_eq_getElem?_getD, List.getElem?_eq_getElem hj]; rfl)
    have e : (⟨g, 0, none⟩ : Addr).add j = ⟨g, j, none⟩ := by unfold Addr.add; split <;> simp_all
    rw [e] at h2
    exact h2
set_option maxHeartbeats 8000000 in
set_option maxRecDepth 100000 in
theorem mayLaw_core (o1 o2 : Option Addr) (b off cap dcap : Nat) (p : Pr) (n m : Nat) (hn : Hid (p.exprs.length = n)) (w : World)
    (hpa : Hid (ProgAt w (.slice o1 m dcap) (.slice o2 n cap) p)) (he : Hid (0 < n → o2 = some ⟨b, off, none⟩)) (hc : Hid (∀ i, i < n → ∀ x, p.exprs[i]? = some x → ExAt w b (off + i * 9) x)) :
    Calls Try.prog 3 #[.agg #[.slice o1 m dcap, .slice o2 n cap]] w fun e w' => e = .returned (.bool true) ∧ Below w.heap.size w w' := by
  have hb0 := Lib.hid (below_al (Below.refl w.heap.size w) (.cells #[.slice o1 m dcap, .slice o2 n cap] 25))
  have hB0 := Lib.hid (World.alloc_heap_new w (.cells #[.slice o1 m dcap, .slice o2 n cap] 25))
  have CA := Lib.hid (alive_any (w.alloc (.cells #[.slice o1 m dcap, .slice o2 n cap] 25)))
  have CG : Hid (∀ W, Below w.heap.size w W → Calls Try.prog 9 #[.agg #[.slice o1 m dcap, .slice o2 n cap]] W fun e w' => GreatPost p W e w') := Lib.hid fun W hW => great_any _ _ p W (hpa.out.below hW)
  obtain ⟨W0, hW0⟩ : ∃ W0, W0 = w.alloc (.cells #[.slice o1 m dcap, .slice o2 n cap] 25) := ⟨_, rfl⟩
  go_enter Try.func3, Try.ntmps3
  go_wp2_with (fail)
  rw [← hW0] at hb0 hB0 CA ⊢
  go_at_call 8
  ((with_reducible refine CA.out.mono ?_))
  rintro e w1 ⟨rfl, hb⟩
  have hB1 := (hb.block _ (lt_of_heap hB0.out)).trans hB0.out
  have g1 : w1.cell? ⟨w.heap.size, 0, none⟩ = some (.slice o1 m dcap) := by simp [World.cell?, hB1]
  have g2 : w1.cell? ⟨w.heap.size, 1, none⟩ = some (.slice o2 n cap) := by simp [World.cell?, hB1]
  have hb1 := Lib.hid (hb0.out.trans (hb.mono hb0.out.size))
  clear hb hB1 CA
  go_wp2_with (fail)
  go_at_call 9
  ((with_reducible refine (CG.out w1 hb1.out).mono ?_))
  rintro e w2 ⟨g, rfl, hg, hb⟩
  have q1 := cell_on hb g1
  have q2 := cell_on hb g2
  have hb2 := Lib.hid (hb1.out.trans (hb.mono hb1.out.size))
  clear hb g1 g2 CG
  cases g with
  | true =>
    clear hg
    go_wp2_with (fail)
    exact ⟨rfl, _, results_tmp (t := 2) (by kernel_rfl) _ _ _, rfl, hb2.out⟩
  | false =>
    have hS := Lib.hid (hg rfl)
    have nl : (n : Int) ≤ 300 := by have := hS.out.exprs; have := hn.out; omega
    clear hg
    go_wp2_with (fail)
    go_loopw [3] (fun i wr => ∃ k : Nat, i = .int .i64 k ∧ k ≤ n ∧ Hid (Below w2.heap.size w2 wr)) (fun i _ => n - litLen i)
    case atStart => exact ⟨0, rfl, by omega, Lib.hid (Below.refl _ _)⟩
    case round =>
      obtain ⟨k, rfl, hk, hW⟩ := hrel
      have g1 := cell_on hW.out q1
      have g2 := cell_on hW.out q2
      rcases Nat.lt_or_ge k n with hlt | hge
      · have hl : (k : Int) < (n : Int) := by omega
        obtain ⟨x, hxk⟩ : ∃ x, p.exprs[k]? = some x := ⟨_, List.getElem?_eq_getElem (by have := hn.out; omega)⟩
        obtain ⟨s, c0, c1, c2, c3, c4, c5, c6, c7, c8, ha, hok⟩ := (hc.out k hlt x hxk).below (hb2.out.trans (hW.out.mono hb2.out.size))
        have ix := ix_exs (cap := cap) he.out hlt (by omega)
        unfold Ix at ix
        have hpl : (partsE x).length ≤ 1000 := parts_small hS.out hxk
        have CP : Hid (∀ W, Below wr.heap.size wr W → Calls Try.prog 10 #[.agg #[.int .i64 x.kind, .int .i64 x.a, .int .i64 x.b, .int .i64 x.c, .string x.name, .string x.state, .int .i64 x.v, s, .int .i64 x.pos]] W fun e w' => NewInts (partsE x) W e w') := Lib.hid fun W hW => parts_fn x s W (ha.below hW) hok hpl
        have CR : Hid (∀ W, Below wr.heap.size wr W → Calls Try.prog 11 #[.agg #[.int .i64 x.kind, .int .i64 x.a, .int .i64 x.b, .int .i64 x.c, .string x.name, .string x.state, .int .i64 x.v, s, .int .i64 x.pos]] W fun e w' => NewInts (partsE x) W e w') := Lib.hid fun W hW => refParts_any x s W (ha.below hW) hpl
        have HA := Lib.hid ha
        have hbd : Below wr.heap.size wr wr.drew := ⟨rfl, rfl, rfl, Nat.le_refl _, fun _ _ => rfl⟩
        clear ha hxk
        go_wp2_with (fail)
        go_region_held3 (fun w' => w'.cell? ⟨w.heap.size, 1, none⟩ = some (.slice o2 n cap) ∧ w'.cell? ⟨b, off + k * 9, none⟩ = some (.int .i64 x.kind) ∧ w'.cell? ⟨b, off + k * 9 + 1, none⟩ = some (.int .i64 x.a) ∧ w'.cell? ⟨b, off + k * 9 + 2, none⟩ = some (.int .i64 x.b) ∧ w'.cell? ⟨b, off + k * 9 + 3, none⟩ = some (.int .i64 x.c) ∧ w'.cell? ⟨b, off + k * 9 + 4, none⟩ = some (.string x.name) ∧ w'.cell? ⟨b, off + k * 9 + 5, none⟩ = some (.string x.state) ∧ w'.cell? ⟨b, off + k * 9 + 6, none⟩ = some (.int .i64 x.v) ∧ w'.cell? ⟨b, off + k * 9 + 7, none⟩ = some s ∧ w'.cell? ⟨b, off + k * 9 + 8, none⟩ = some (.int .i64 x.pos))
          (first | exact ⟨g2, c0, c1, c2, c3, c4, c5, c6, c7, c8⟩ | exact ⟨cell_on hb3 g2, cell_on hb3 c0, cell_on hb3 c1, cell_on hb3 c2, cell_on hb3 c3, cell_on hb3 c4, cell_on hb3 c5, cell_on hb3 c6, cell_on hb3 c7, cell_on hb3 c8⟩ | exact ⟨cell_on hb4 (cell_on hb3 g2), cell_on hb4 (cell_on hb3 c0), cell_on hb4 (cell_on hb3 c1), cell_on hb4 (cell_on hb3 c2), cell_on hb4 (cell_on hb3 c3), cell_on hb4 (cell_on hb3 c4), cell_on hb4 (cell_on hb3 c5), cell_on hb4 (cell_on hb3 c6), cell_on hb4 (cell_on hb3 c7), cell_on hb4 (cell_on hb3 c8)⟩)
          (first | (go_at_call 10; refine (CP.out _ hbd).mono ?_; rintro e w3 ⟨va, rfl, hra, hb3⟩)
                 | (go_at_call 11; refine (CR.out _ (hbd.trans hb3)).mono ?_; rintro e w4 ⟨vb, rfl, hrb, hb4⟩))
        obtain ⟨oa, ca, ga, rfl, hoa, hca⟩ := own_sl hra
        obtain ⟨ob, cb, gb, rfl, hob, hcb⟩ := own_sl hrb
        obtain ⟨L, hL⟩ : ∃ L, L = (partsE x).length := ⟨_, rfl⟩
        rw [← hL] at hoa hob ⊢
        have hll : (L : Int) ≤ 1000 := by omega
        have HB3 := Lib.hid (hbd.trans hb3)
        have HB4 := Lib.hid hb4
        have HL := Lib.hid hL
        have HCA := Lib.hid hca
        have HCB := Lib.hid hcb
        have HOA := Lib.hid hoa
        have HOB := Lib.hid hob
        clear hbd hb3 hb4 hL hca hcb hoa hob hra hrb g1 g2 c0 c1 c2 c3 c4 c5 c6 c7 c8 ix hpl CP CR HA
        go_wp2_with (fail)
        go_loopw [6] (fun i wq => ∃ j : Nat, i = .int .i64 j ∧ j ≤ L ∧ Hid (Below w4.heap.size w4 wq)) (fun i _ => L - litLen i)
        case atStart => exact ⟨0, rfl, by omega, Lib.hid (Below.refl _ _)⟩
        case round =>
          obtain ⟨j, rfl, hj, hQ⟩ := hrel
          rcases Nat.lt_or_ge j L with hjl | hjg
          · have hjl2 : (j : Int) < (L : Int) := by omega
            have z1 := cell_on hQ.out (cell_on HB4.out (HCA.out j (by rw [← HL.out]; exact hjl)))
            have z2 := cell_on hQ.out (HCB.out j (by rw [← HL.out]; exact hjl))
            have ix1 := ix_il (cap := ca) HOA.out hjl (by omega)
            have ix2 := ix_il (cap := cb) HOB.out hjl (by omega)
            unfold Ix at ix1 ix2
            obtain ⟨q, hq⟩ : ∃ q, q = (partsE x).getD j 0 := ⟨_, rfl⟩
            rw [← hq] at z1 z2
            clear hq
            go_wp2_with (fail)
            go_quiet (fail)
            go_wp2_with (fail)
            go_roundw
            case rel => exact ⟨j + 1, by go_num, by omega, Lib.hid (below_dr hQ.out _)⟩
            case measure => simp [litLen]; omega
          · obtain rfl : j = L := by omega
            go_wp2_with (fail)
            go_roundw
            case rel => exact ⟨k + 1, by go_num, by omega, Lib.hid (hW.out.trans ((HB3.out.trans ((HB4.out.trans (hQ.out.mono HB4.out.size)).mono HB3.out.size)).mono hW.out.size))⟩
            case measure => simp [litLen]; omega
      · obtain rfl : k = n := by omega
        have hbw := Lib.hid (hb2.out.trans (hW.out.mono hb2.out.size))
        have c1 : ∀ pr : Regrown, Calls Try.prog 12 #[.agg #[.slice o1 m dcap, .slice o2 k cap]] (Go.Sort.grow (redrawn wr pr.d) pr.os) fun e w'' => e = .returned (.bool (mayP p)) ∧ ∃ p : Regrown, w'' = Go.Sort.grow (redrawn wr p.d) p.os := fun pr => Calls.regrown_of (may_any _ _ p _ (hpa.out.below (hbw.out.trans ((below_regrown wr pr.d pr.os).mono hbw.out.size))) hS.out)
        have c2 : ∀ pr : Regrown, Calls Try.prog 13 #[.agg #[.slice o1 m dcap, .slice o2 k cap]] (Go.Sort.grow (redrawn wr pr.d) pr.os) fun e w'' => e = .returned (.bool (mayP p)) ∧ ∃ p : Regrown, w'' = Go.Sort.grow (redrawn wr p.d) p.os := fun pr => Calls.regrown_of (refMay_any _ _ p _ (hpa.out.below (hbw.out.trans ((below_regrown wr pr.d pr.os).mono hbw.out.size))) hS.out)
        have C1 := Lib.hid c1
        have C2 := Lib.hid c2
        generalize mayP p = r at C1 C2
        clear c1 c2
        go_wp2_with (fail)
        have G1 := fun pr : Regrown => cell_regrown g1 pr.d pr.os
        have G2 := fun pr : Regrown => cell_regrown g2 pr.d pr.os
        clear g1 g2
        refine wp_region_quiet_below (by kernel_rfl) (by kernel_rfl) ?_
        repeat (go_big_quiet_step (first | with_reducible exact C1.out _ | with_reducible exact C2.out _))
        refine wpQuiet_nil ?_
        intro w4 hw4
        have HB3 : Hid (Below wr.heap.size wr w4) := Lib.hid (by obtain ⟨pr, rfl⟩ := hw4; exact below_regrown _ _ _)
        clear hw4 C1 C2
        go_wp2_with (fail)
        exact ⟨rfl, _, results_tmp (t := 2) (by kernel_rfl) _ _ _, rfl, hbw.out.trans (HB3.out.mono hbw.out.size)⟩
theorem mayLaw_any (sd se : Value) (p : Pr) (w : World) (h : ProgAt w sd se p) :
    Calls Try.prog 3 #[.agg #[sd, se]] w fun e w' => e = .returned (.bool true) ∧ Below w.heap.size w w' := by
  obtain ⟨⟨o1, dcap, db, doff, rfl, hd1, hd2, hd3, hd4⟩, ⟨o2, cap, b, off, rfl, he1, he2, he3, he4⟩, h3, h4⟩ := id h
  exact mayLaw_core o1 o2 b off cap dcap p _ _ (Lib.hid rfl) w (Lib.hid h) (Lib.hid he3) (Lib.hid he4)
end Go.Proofs.Ytcgkgobkchgdhaa
