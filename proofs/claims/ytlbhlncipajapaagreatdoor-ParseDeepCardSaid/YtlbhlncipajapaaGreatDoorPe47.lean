/- Joined: AstOneE, AstMayk3, AstMayk19, AstMayk20, AstMayk0, AstMayE, AstMay, AstMayP, AstRefMayP. -/
import Derived.Test.YtlbhlncipajapaaGreatDoorPe43
import Derived.Test.YtlbhlncipajapaaGreatDoorPe44
import Derived.Test.YtlbhlncipajapaaGreatDoorPe45
import Derived.Test.YtlbhlncipajapaaGreatDoorPe46
import Derived.Lib.QuietBelow
namespace Go.Proofs.YtlbhlncipajapaaGreatDoor
open Go.RowKit

theorem one_out (x : Ex) (o : Option Addr) (na cap : Nat) (i : Nat) (w : World) (h : ¬ (1 ≤ x.kind ∧ x.kind ≤ 21)) :
    Calls Tryz.prog 22 #[.agg #[.int .i64 x.kind, .int .i64 x.a, .int .i64 x.b, .int .i64 x.c, .string x.name, .string x.state, .int .i64 x.v, .slice o na cap, .int .i64 x.pos], .int .i64 (i : Int)] w fun e w' => MayPost (mayE x i) w e w' := by
  rw [mayE_kind h]
  by_cases h1 : x.kind < 1
  · have q1 : decide (x.kind < 1) = true := decide_eq_true h1
    clear h h1
    go_enter Tryz.func22, Tryz.ntmps22
    go_wp2_with fail
    go_ret
    exact ⟨rfl, below_al (Below.refl _ _) _⟩
  · have q1 : decide (x.kind < 1) = false := decide_eq_false h1
    have q2 : decide (21 < x.kind) = true := decide_eq_true (by omega)
    clear h h1
    go_enter Tryz.func22, Tryz.ntmps22
    go_wp2_with fail
    go_ret
    exact ⟨rfl, below_al (Below.refl _ _) _⟩
theorem one_any (x : Ex) (o : Option Addr) (cap : Nat) (i : Nat) (w : World) (ha : IntsAt w (.slice o x.args.length cap) x.args) (hk : ExOk x) (hp : (partsE x).length ≤ 40000) :
    Calls Tryz.prog 22 #[.agg #[.int .i64 x.kind, .int .i64 x.a, .int .i64 x.b, .int .i64 x.c, .string x.name, .string x.state, .int .i64 x.v, .slice o x.args.length cap, .int .i64 x.pos], .int .i64 (i : Int)] w fun e w' => MayPost (mayE x i) w e w' := by
  by_cases h : 1 ≤ x.kind ∧ x.kind ≤ 21
  · have q1 : decide (x.kind < 1) = false := decide_eq_false (by omega)
    have q2 : decide (21 < x.kind) = false := decide_eq_false (by omega)
    by_cases h3 : x.kind = 3
    · exact one_k3 x o _ cap (Lib.hid rfl) i w (Lib.hid ha) (Lib.hid hp) q1 q2 (Lib.hid (by rw [h3]; rfl)) (by rw [h3]; rfl) (by rw [h3]; rfl) (by rw [h3]; rfl) (by rw [h3]; rfl) (by rw [h3]; rfl) (Lib.hid (by rw [h3]; rfl))
    by_cases h19 : x.kind = 19
    · exact one_k19 x o _ cap (Lib.hid rfl) i w (Lib.hid ha) (Lib.hid hp) q1 q2 (Lib.hid (by rw [h19]; rfl)) (by rw [h19]; rfl) (by rw [h19]; rfl) (by rw [h19]; rfl) (by rw [h19]; rfl) (by rw [h19]; rfl) (Lib.hid (by rw [h19]; rfl))
    by_cases h20 : x.kind = 20
    · exact one_k20 x o _ cap (Lib.hid rfl) i w (Lib.hid ha) (Lib.hid hp) q1 q2 (Lib.hid (by rw [h20]; rfl)) (by rw [h20]; rfl) (by rw [h20]; rfl) (by rw [h20]; rfl) (by rw [h20]; rfl) (by rw [h20]; rfl) (Lib.hid (by rw [h20]; rfl))
    by_cases h1 : x.kind = 1
    · exact one_k1 x o _ cap (Lib.hid rfl) i w (Lib.hid ha) (Lib.hid hp) q1 q2 (Lib.hid (by rw [h1]; rfl)) (by rw [h1]; rfl) (by rw [h1]; rfl) (by rw [h1]; rfl) (by rw [h1]; rfl) (by rw [h1]; rfl) (Lib.hid hk.v.2) (Lib.hid (by rw [h1]; rfl))
    by_cases h2 : x.kind = 2
    · exact one_k2 x o _ cap (Lib.hid rfl) i w (Lib.hid ha) (Lib.hid hp) q1 q2 (Lib.hid (by rw [h2]; rfl)) (by rw [h2]; rfl) (by rw [h2]; rfl) (by rw [h2]; rfl) (by rw [h2]; rfl) (by rw [h2]; rfl) (Lib.hid (by rw [h2]; rfl))
    have e3 : (x.kind == 3) = false := beq_false_of_ne h3
    have e19 : (x.kind == 19) = false := beq_false_of_ne h19
    have e20 : (x.kind == 20) = false := beq_false_of_ne h20
    have e1 : (x.kind == 1) = false := beq_false_of_ne h1
    have e2 : decide (2 < x.kind) = true := decide_eq_true (by omega)
    have hmv : mostV x.kind = 0 := by unfold mostV; rw [if_neg h1, if_neg h2]
    have hR : manyR x.kind = (manyOf x.kind : Int) := by unfold manyR; rw [if_neg h19]
    have hM : manyOf x.kind = 1 ∨ manyOf x.kind = 2 ∨ manyOf x.kind = 3 := by
      unfold manyOf
      by_cases m1 : x.kind = 4 ∨ x.kind = 5 ∨ x.kind = 16 ∨ x.kind = 21
      · rw [if_pos m1]; exact .inl rfl
      · rw [if_neg m1]
        by_cases m2 : (6 ≤ x.kind ∧ x.kind ≤ 14) ∨ x.kind = 17 ∨ x.kind = 18
        · rw [if_pos m2]; exact .inr (.inl rfl)
        · rw [if_neg m2, if_pos (by omega)]; exact .inr (.inr rfl)
    rcases hM with hM | hM | hM
    · exact one_m1 x o _ cap (Lib.hid rfl) i w (Lib.hid ha) (Lib.hid hp) q1 q2 (Lib.hid (by rw [hR, hM]; rfl)) e3 e19 e20 e2 e1 (Lib.hid hmv)
    · exact one_m2 x o _ cap (Lib.hid rfl) i w (Lib.hid ha) (Lib.hid hp) q1 q2 (Lib.hid (by rw [hR, hM]; rfl)) e3 e19 e20 e2 e1 (Lib.hid hmv)
    · exact one_m3 x o _ cap (Lib.hid rfl) i w (Lib.hid ha) (Lib.hid hp) q1 q2 (Lib.hid (by rw [hR, hM]; rfl)) e3 e19 e20 e2 e1 (Lib.hid hmv)
  · exact one_out x o _ cap i w h
end Go.Proofs.YtlbhlncipajapaaGreatDoor
namespace Go.Proofs.YtlbhlncipajapaaGreatDoor
open Go.RowKit Go.Shelf

attribute [local go_sem] Oper.semAt_some

end Go.Proofs.YtlbhlncipajapaaGreatDoor
namespace Go.Proofs.YtlbhlncipajapaaGreatDoor
open Go.RowKit Go.Shelf

attribute [local go_sem] Oper.semAt_some

end Go.Proofs.YtlbhlncipajapaaGreatDoor
namespace Go.Proofs.YtlbhlncipajapaaGreatDoor
open Go.RowKit Go.Shelf

attribute [local go_sem] Oper.semAt_some

end Go.Proofs.YtlbhlncipajapaaGreatDoor
namespace Go.Proofs.YtlbhlncipajapaaGreatDoor
open Go.RowKit Go.Shelf

attribute [local go_sem] Oper.semAt_some

end Go.Proofs.YtlbhlncipajapaaGreatDoor
namespace Go.Proofs.YtlbhlncipajapaaGreatDoor
open Go.RowKit Go.Shelf

end Go.Proofs.YtlbhlncipajapaaGreatDoor
namespace Go.Proofs.YtlbhlncipajapaaGreatDoor
open Go.RowKit

end Go.Proofs.YtlbhlncipajapaaGreatDoor
namespace Go.Proofs.YtlbhlncipajapaaGreatDoor
open Go.RowKit

theorem ex_cells {w : World} {b o : Nat} {x : Ex} (h : ExAt w b o x) : ∃ oa capa, IntsAt w (.slice oa x.args.length capa) x.args ∧ ExOk x ∧ w.cell? ⟨b, o, none⟩ = some (.int .i64 x.kind) ∧ w.cell? ⟨b, o + 1, none⟩ = some (.int .i64 x.a) ∧ w.cell? ⟨b, o + 2, none⟩ = some (.int .i64 x.b) ∧
  w.cell? ⟨b, o + 3, none⟩ = some (.int .i64 x.c) ∧ w.cell? ⟨b, o + 4, none⟩ = some (.string x.name) ∧ w.cell? ⟨b, o + 5, none⟩ = some (.string x.state) ∧ w.cell? ⟨b, o + 6, none⟩ = some (.int .i64 x.v) ∧
  w.cell? ⟨b, o + 7, none⟩ = some (.slice oa x.args.length capa) ∧ w.cell? ⟨b, o + 8, none⟩ = some (.int .i64 x.pos) := by
  obtain ⟨s, h0, h1, h2, h3, h4, h5, h6, h7, h8, h9, hk⟩ := h
  obtain ⟨oa, capa, ba, offa, rfl, _⟩ := id h9
  exact ⟨oa, capa, h9, hk, h0, h1, h2, h3, h4, h5, h6, h7, h8⟩
theorem de_cells {w : World} {b o : Nat} {x : De} (h : DeAt w b o x) : ∃ op capp oi capi bi offi, DeOk x ∧ w.cell? ⟨b, o, none⟩ = some (.int .i64 x.kind) ∧ w.cell? ⟨b, o + 1, none⟩ = some (.string x.name) ∧ w.cell? ⟨b, o + 2, none⟩ = some (.slice op x.params.length capp) ∧
  w.cell? ⟨b, o + 3, none⟩ = some (.slice oi x.items.length capi) ∧ w.cell? ⟨b, o + 4, none⟩ = some (.int .i64 x.type) ∧ w.cell? ⟨b, o + 5, none⟩ = some (.int .i64 x.e) ∧ w.cell? ⟨b, o + 6, none⟩ = some (.int .i64 x.pos) ∧
  (0 < x.items.length → oi = some ⟨bi, offi, none⟩) ∧ (∀ i, i < x.items.length → ∀ y, x.items[i]? = some y → ItAt w bi (offi + i * 9) y) := by
  obtain ⟨s, t, h0, h1, h2, h3, h4, h5, h6, ⟨op, capp, bp, offp, rfl, hp1, hp2, hp3, hp4⟩, ⟨oi, capi, bi, offi, rfl, hi1, hi2, hi3, hi4⟩, hk⟩ := h
  exact ⟨op, capp, oi, capi, bi, offi, hk, h0, h1, h2, h3, h4, h5, h6, hi3, hi4⟩
theorem de_cells' {w W : World} {b o : Nat} {x : De} (h : DeAt w b o x) (hb : Below w.heap.size w W) : ∃ op capp oi capi bi offi, DeOk x ∧ W.cell? ⟨b, o, none⟩ = some (.int .i64 x.kind) ∧ W.cell? ⟨b, o + 1, none⟩ = some (.string x.name) ∧ W.cell? ⟨b, o + 2, none⟩ = some (.slice op x.params.length capp) ∧
  W.cell? ⟨b, o + 3, none⟩ = some (.slice oi x.items.length capi) ∧ W.cell? ⟨b, o + 4, none⟩ = some (.int .i64 x.type) ∧ W.cell? ⟨b, o + 5, none⟩ = some (.int .i64 x.e) ∧ W.cell? ⟨b, o + 6, none⟩ = some (.int .i64 x.pos) ∧
  (0 < x.items.length → oi = some ⟨bi, offi, none⟩) ∧ (∀ i, i < x.items.length → ∀ y, x.items[i]? = some y → ItAt w bi (offi + i * 9) y) := by
  obtain ⟨op, capp, oi, capi, bi, offi, h0, h1, h2, h3, h4, h5, h6, h7, h8, h9⟩ := de_cells h
  exact ⟨op, capp, oi, capi, bi, offi, h0, cell_on hb h1, cell_on hb h2, cell_on hb h3, cell_on hb h4, cell_on hb h5, cell_on hb h6, cell_on hb h7, h8, h9⟩
theorem it_cells {w : World} {b o : Nat} {x : It} (h : ItAt w b o x) : ∃ os caps, ItOk x ∧ w.cell? ⟨b, o, none⟩ = some (.int .i64 x.kind) ∧ w.cell? ⟨b, o + 1, none⟩ = some (.string x.name) ∧ w.cell? ⟨b, o + 2, none⟩ = some (.int .i64 x.type) ∧
  w.cell? ⟨b, o + 3, none⟩ = some (.int .i64 x.e) ∧ w.cell? ⟨b, o + 4, none⟩ = some (.int .i64 x.f) ∧ w.cell? ⟨b, o + 5, none⟩ = some (.slice os x.states.length caps) ∧ w.cell? ⟨b, o + 6, none⟩ = some (.string x.state) ∧
  w.cell? ⟨b, o + 7, none⟩ = some (.string x.next) ∧ w.cell? ⟨b, o + 8, none⟩ = some (.int .i64 x.pos) := by
  obtain ⟨s, h0, h1, h2, h3, h4, h5, h6, h7, h8, ⟨os, caps, bs, offs, rfl, _⟩, hk⟩ := h
  exact ⟨os, caps, hk, h0, h1, h2, h3, h4, h5, h6, h7, h8⟩
theorem mayX_all {l : List Ex} {k : Nat} : (∀ i, i < k → mayX l i = true) → l.length ≤ k → (List.range l.length).all (mayX l) = true := fun h hk => by
  rw [List.all_eq_true]; intro i hi; exact h i (Nat.lt_of_lt_of_le (List.mem_range.1 hi) hk)
theorem mayP_ex {p : Pr} {i : Nat} {x : Ex} (h : p.exprs[i]? = some x) (hm : mayE x i = false) : mayP p = false := by
  have : (List.range p.exprs.length).all (mayX p.exprs) = false := by
    rw [List.all_eq_false]
    exact ⟨i, List.mem_range.2 (List.getElem?_eq_some_iff.1 h).1, by unfold mayX; rw [h]; simp [hm]⟩
  unfold mayP; rw [this]; rfl
theorem mayI_all {n k : Nat} {l : List It} (h : ∀ i, i < k → ∀ y, l[i]? = some y → mayI n y = true) (hk : l.length ≤ k) : l.all (mayI n) = true := by
  rw [List.all_eq_true]; intro y hy
  obtain ⟨i, hi, rfl⟩ := List.mem_iff_getElem.1 hy
  exact h i (by omega) _ (List.getElem?_eq_getElem hi)
theorem mayD_all {n k : Nat} {l : List De} (h : ∀ i, i < k → ∀ y, l[i]? = some y → mayD n y = true) (hk : l.length ≤ k) : l.all (mayD n) = true := by
  rw [List.all_eq_true]; intro y hy
  obtain ⟨i, hi, rfl⟩ := List.mem_iff_getElem.1 hy
  exact h i (by omega) _ (List.getElem?_eq_getElem hi)
theorem mayD_it {n i : Nat} {d : De} {y : It} (h : d.items[i]? = some y) (hm : mayI n y = false) : mayD n d = false := by
  have : d.items.all (mayI n) = false := by rw [List.all_eq_false]; exact ⟨y, List.mem_of_getElem? h, by simp [hm]⟩
  unfold mayD; rw [this]; simp
theorem mayP_de {p : Pr} {i : Nat} {d : De} (h : p.decls[i]? = some d) (hm : mayD p.exprs.length d = false) : mayP p = false := by
  have : p.decls.all (mayD p.exprs.length) = false := by
    rw [List.all_eq_false]
    exact ⟨d, List.mem_of_getElem? h, by simp [hm]⟩
  unfold mayP; rw [this]; simp
end Go.Proofs.YtlbhlncipajapaaGreatDoor
namespace Go.Proofs.YtlbhlncipajapaaGreatDoor
open Go.RowKit

/-- a program of lists within reach -/
structure Fits (p : Pr) : Prop where
  exprs : p.exprs.length ≤ 140737488351232
  decls : p.decls.length ≤ 140737488351232
  ex : ∀ x ∈ p.exprs, (partsE x).length ≤ 40000
  de : ∀ d ∈ p.decls, d.items.length ≤ 140737488351232
set_option maxHeartbeats 8000000 in
set_option maxRecDepth 100000 in
theorem refMay_core (o1 o2 : Option Addr) (b off cap db doff dcap : Nat) (p : Pr) (n m : Nat) (hn : Hid (p.exprs.length = n)) (hm : Hid (p.decls.length = m)) (nl : (n : Int) ≤ 140737488351232) (ml : (m : Int) ≤ 140737488351232) (w : World)
    (hS : Hid (Fits p)) (he : Hid (0 < n → o2 = some ⟨b, off, none⟩)) (hd : Hid (0 < m → o1 = some ⟨db, doff, none⟩))
    (hc : Hid (∀ i, i < n → ∀ x, p.exprs[i]? = some x → ExAt w b (off + i * 9) x)) (hdc : Hid (∀ i, i < m → ∀ x, p.decls[i]? = some x → DeAt w db (doff + i * 7) x)) :
    Calls Tryz.prog 11 #[.agg #[(.slice o1 m dcap), (.slice o2 n cap)]] w fun e w' => MayPost (mayP p) w e w' := by
  have hW0 := Lib.hid (below_al (Below.refl w.heap.size w) (.cells #[(.slice o1 m dcap), (.slice o2 n cap)] 26))
  have hB0 : Hid ((w.alloc (.cells #[(.slice o1 m dcap), (.slice o2 n cap)] 26)).heap[w.heap.size]? = some (.cells #[(.slice o1 m dcap), (.slice o2 n cap)] 26 (0, 0))) := Lib.hid (World.alloc_heap_new w _)
  go_enter Tryz.func11, Tryz.ntmps11
  go_wp2_with fail
  go_loopw [3] (fun i wr => ∃ (k : Nat), i = .int .i64 k ∧ k ≤ n ∧ Hid (∀ i, i < k → mayX p.exprs i = true) ∧ Hid (Below w.heap.size w wr) ∧ Hid (wr.heap[w.heap.size]? = some (.cells #[(.slice o1 m dcap), (.slice o2 n cap)] 26 (0, 0)))) (fun i _ => n - litLen i)
  case atStart => exact ⟨0, rfl, Nat.zero_le _, Lib.hid fun i hi => by omega, hW0, hB0⟩
  case round =>
    clear hW0 hB0
    obtain ⟨k, rfl, hk, hX, hW, hB⟩ := hrel
    have g1 : wr.cell? ⟨w.heap.size, 0, none⟩ = some (.slice o1 m dcap) := by simp [World.cell?, hB.out]
    have g2 : wr.cell? ⟨w.heap.size, 1, none⟩ = some (.slice o2 n cap) := by simp [World.cell?, hB.out]
    rcases Nat.lt_or_ge k n with hlt | hge
    · have hl : (k : Int) < (n : Int) := by omega
      obtain ⟨x, hxk⟩ : ∃ x, p.exprs[k]? = some x := ⟨_, List.getElem?_eq_getElem (by have := hn.out; omega)⟩
      obtain ⟨oa, capa, hargs, hok, c0, c1, c2, c3, c4, c5, c6, c7, c8⟩ := ex_cells ((hc.out k hlt x hxk).below hW.out)
      have HA := Lib.hid hargs
      have HO := Lib.hid hok
      have HX := Lib.hid hxk
      have hpl := Lib.hid (hS.out.ex _ (List.mem_of_getElem? hxk))
      have ix := ix_exs (cap := cap) he.out hlt (by omega)
      unfold Ix at ix
      clear hargs hok hxk
      have C : Hid (Calls Tryz.prog 22 #[.agg #[.int .i64 x.kind, .int .i64 x.a, .int .i64 x.b, .int .i64 x.c, .string x.name, .string x.state, .int .i64 x.v, .slice oa x.args.length capa, .int .i64 x.pos], .int .i64 (k : Int)] wr fun e w' => MayPost (mayE x k) wr e w') :=
        Lib.hid (one_any x oa capa k wr HA.out HO.out hpl.out)
      cases hme : mayE x k with
      | true =>
        rw [hme] at C
        have HM := Lib.hid hme
        clear hme
        go_wp2_with (go_at_call 22; ((with_reducible refine C.out.mono ?_); rintro e w1 ⟨rfl, hb1⟩; have HB1 := Lib.hid hb1; clear hb1))
        go_roundw
        case rel =>
          refine ⟨k + 1, by go_num, by omega, Lib.hid fun i hi => ?_, Lib.hid (hW.out.trans (HB1.out.mono hW.out.size)), Lib.hid ((HB1.out.block _ (lt_of_heap hB.out)).trans hB.out)⟩
          rcases Nat.lt_or_ge i k with h | h
          · exact hX.out i h
          · obtain rfl : i = k := by omega
            unfold mayX; rw [HX.out]; exact HM.out
        case measure => simp [litLen]; omega
      | false =>
        rw [hme] at C
        have HM := Lib.hid (mayP_ex HX.out hme)
        clear hme
        go_wp2_with (go_at_call 22; ((with_reducible refine C.out.mono ?_); rintro e w1 ⟨rfl, hb1⟩; have HB1 := Lib.hid hb1; clear hb1))
        go_ret
        exact ⟨by rw [HM.out]; rfl, hW.out.trans (HB1.out.mono hW.out.size)⟩
    · obtain rfl : k = n := by omega
      have hEX := Lib.hid (mayX_all hX.out (by rw [hn.out]; exact Nat.le_refl _))
      clear hX
      go_wp2_with fail
      clear g1 g2
      go_loopw [4] (fun i wr => ∃ (j : Nat), i = .int .i64 j ∧ j ≤ m ∧ Hid (∀ i, i < j → ∀ d, p.decls[i]? = some d → mayD k d = true) ∧ Hid (Below w.heap.size w wr) ∧ Hid (wr.heap[w.heap.size]? = some (.cells #[(.slice o1 m dcap), (.slice o2 k cap)] 26 (0, 0)))) (fun i _ => m - litLen i)
      case atStart => exact ⟨0, rfl, Nat.zero_le _, Lib.hid fun i hi => by omega, hW, hB⟩
      case round =>
        clear hW hB
        obtain ⟨j, rfl, hj, hX, hW, hB⟩ := hrel
        have g1 : wr.cell? ⟨w.heap.size, 0, none⟩ = some (.slice o1 m dcap) := by simp [World.cell?, hB.out]
        have g2 : wr.cell? ⟨w.heap.size, 1, none⟩ = some (.slice o2 k cap) := by simp [World.cell?, hB.out]
        have hz0 : w.heap.size < wr.heap.size := lt_of_heap hB.out
        rcases Nat.lt_or_ge j m with hlt | hge
        · have hl : (j : Int) < (m : Int) := by omega
          obtain ⟨d, hdj⟩ : ∃ x, p.decls[j]? = some x := ⟨_, List.getElem?_eq_getElem (by have := hm.out; omega)⟩
          obtain ⟨op, capp, oi, capi, bi, offi, hok, c0, c1, c2, c3, c4, c5, c6, hi3, hi4⟩ := de_cells' (hdc.out j hlt d hdj) hW.out
          have ix := ix_des (cap := dcap) hd.out hlt (by omega)
          unfold Ix at ix
          obtain ⟨ni, hni⟩ : ∃ ni, ni = d.items.length := ⟨_, rfl⟩
          rw [← hni] at c3 hi3 hi4
          have HN := Lib.hid hni
          clear hni
          have HI3 := Lib.hid hi3
          have HI4 := Lib.hid hi4
          have HDJ := Lib.hid hdj
          clear hi3 hi4 hok hdj
          have hnl : (ni : Int) ≤ 140737488351232 := by have := hS.out.de d (List.mem_of_getElem? HDJ.out); have := HN.out; omega
          have hal := Lib.hid (below_al (Below.refl wr.heap.size wr) (.cells #[.int .i64 d.kind, .string d.name, .slice op d.params.length capp, .slice oi ni capi, .int .i64 d.type, .int .i64 d.e, .int .i64 d.pos] 57))
          have hBn := Lib.hid (World.alloc_heap_new wr (.cells #[.int .i64 d.kind, .string d.name, .slice op d.params.length capp, .slice oi ni capi, .int .i64 d.type, .int .i64 d.e, .int .i64 d.pos] 57))
          obtain ⟨sv, hsv⟩ : ∃ sv, sv = standsE k (hasVal d.kind) d.e := ⟨_, rfl⟩
          obtain ⟨hv, hhv⟩ : ∃ hv, hv = hasVal d.kind := ⟨_, rfl⟩
          have CP : Hid (∀ W, Calls Tryz.prog 23 #[.agg #[.slice o1 m dcap, .slice o2 k cap], .int .i64 d.e, .bool hv] W fun r w' => r = .returned (.bool sv) ∧ Below W.heap.size W w') := Lib.hid fun W => by rw [hsv, hhv]; exact points_any _ _ _ _ _ _ _ _ _
          have HSV := Lib.hid hsv
          have hthree : ((d.kind == 1) = true ∧ hv = true) ∨ ((d.kind == 1) = false ∧ (d.kind == 2) = true ∧ hv = true) ∨ ((d.kind == 1) = false ∧ (d.kind == 2) = false ∧ hv = false) := by
            rw [hhv]
            by_cases k1 : d.kind = 1
            · exact .inl ⟨by rw [k1]; rfl, by rw [k1]; rfl⟩
            · by_cases k2 : d.kind = 2
              · exact .inr (.inl ⟨beq_false_of_ne k1, by rw [k2]; rfl, by rw [k2]; rfl⟩)
              · exact .inr (.inr ⟨beq_false_of_ne k1, beq_false_of_ne k2, by unfold hasVal; rw [decide_eq_false k1, decide_eq_false k2]; rfl⟩)
          clear hsv hhv
          cases sv with
          | false =>
            have HM := Lib.hid (mayP_de HDJ.out (show mayD p.exprs.length d = false by rw [hn.out]; unfold mayD; rw [← HSV.out]; rfl))
            rcases hthree with ⟨t1, rfl⟩ | ⟨t1, t2, rfl⟩ | ⟨t1, t2, rfl⟩
            all_goals
              go_wp2_with (go_at_call 23; ((with_reducible refine (CP.out _).mono ?_); rintro e w1 ⟨rfl, hb1⟩; have HB1 := Lib.hid hb1; clear hb1))
              go_ret
              exact ⟨by rw [HM.out]; rfl, hW.out.trans ((hal.out.trans (HB1.out.mono hal.out.size)).mono hW.out.size)⟩
          | true =>
            have CP' : Hid (∀ (W : World) (has : Bool) (q : Int), Calls Tryz.prog 23 #[.agg #[.slice o1 m dcap, .slice o2 k cap], .int .i64 q, .bool has] W fun r w' => r = .returned (.bool (standsE k has q)) ∧ Below W.heap.size W w') := Lib.hid fun W has q => points_any _ _ _ _ _ _ _ _ _
            rcases hthree with ⟨t1, rfl⟩ | ⟨t1, t2, rfl⟩ | ⟨t1, t2, rfl⟩
            all_goals
              go_wp2_with (go_at_call 23; ((with_reducible refine (CP.out _).mono ?_); rintro e w1 ⟨rfl, hb1⟩; have HB1 := Lib.hid hb1; clear hb1))
              have hbb := Lib.hid (hal.out.trans (HB1.out.mono hal.out.size))
              have hW4 := Lib.hid (hW.out.trans (hbb.out.mono hW.out.size))
              have hB4 : Hid (w1.heap[w.heap.size]? = some (.cells #[(.slice o1 m dcap), (.slice o2 k cap)] 26 (0, 0))) := Lib.hid ((hbb.out.block _ (lt_of_heap hB.out)).trans hB.out)
              have hD4 : Hid (w1.heap[wr.heap.size]? = some (.cells #[.int .i64 d.kind, .string d.name, .slice op d.params.length capp, .slice oi ni capi, .int .i64 d.type, .int .i64 d.e, .int .i64 d.pos] 57 (0, 0))) := Lib.hid ((HB1.out.block _ (lt_of_heap hBn.out)).trans hBn.out)
              clear hW hB hal hBn HB1 hbb c0 c1 c2 c3 c4 c5 c6 ix g1 g2 CP t1
              obtain ⟨q, hq⟩ : ∃ q, q = wr.heap.size := ⟨_, rfl⟩
              rw [← hq] at hD4 ⊢
              clear hq
              go_loopw [6] (fun i wr => ∃ (l : Nat), i = .int .i64 l ∧ l ≤ ni ∧ Hid (∀ i, i < l → ∀ y, d.items[i]? = some y → mayI k y = true) ∧ Hid (Below w.heap.size w wr) ∧ Hid (wr.heap[w.heap.size]? = some (.cells #[(.slice o1 m dcap), (.slice o2 k cap)] 26 (0, 0))) ∧ Hid (wr.heap[q]? = some (.cells #[.int .i64 d.kind, .string d.name, .slice op d.params.length capp, .slice oi ni capi, .int .i64 d.type, .int .i64 d.e, .int .i64 d.pos] 57 (0, 0)))) (fun i _ => ni - litLen i)
              case atStart => exact ⟨0, rfl, Nat.zero_le _, Lib.hid fun i hi => by omega, hW4, hB4, hD4⟩
              case round =>
                clear hW4 hB4 hD4
                obtain ⟨l, rfl, hl1, hY, hW, hB, hD⟩ := hrel
                have g1 : wr.cell? ⟨w.heap.size, 0, none⟩ = some (.slice o1 m dcap) := by simp [World.cell?, hB.out]
                have g2 : wr.cell? ⟨w.heap.size, 1, none⟩ = some (.slice o2 k cap) := by simp [World.cell?, hB.out]
                have g3 : wr.cell? ⟨q, 3, none⟩ = some (.slice oi ni capi) := by simp [World.cell?, hD.out]
                rcases Nat.lt_or_ge l ni with hlt2 | hge2
                · have hl2 : (l : Int) < (ni : Int) := by omega
                  obtain ⟨y, hyl⟩ : ∃ x, d.items[l]? = some x := ⟨_, List.getElem?_eq_getElem (by have := HN.out; omega)⟩
                  obtain ⟨os, caps, hok, i0, i1, i2, i3, i4, i5, i6, i7, i8⟩ := it_cells ((HI4.out l hlt2 y hyl).below hW.out)
                  have ix := ix_its (cap := capi) HI3.out hlt2 (by omega)
                  unfold Ix at ix
                  have HYL := Lib.hid hyl
                  clear hok hyl i1 i2 i5 i6 i7 i8
                  obtain ⟨he1, hhe⟩ : ∃ h, h = hasE y.kind := ⟨_, rfl⟩
                  obtain ⟨hf1, hhf⟩ : ∃ h, h = hasF y.kind := ⟨_, rfl⟩
                  have CH : Hid (∀ W, Calls Tryz.prog 24 #[.int .i64 y.kind] W fun e w' => e = .returned (.tuple #[.bool he1, .bool hf1]) ∧ W = w') := Lib.hid fun W => by rw [hhe, hhf]; exact (has_any _ W).mono fun _ _ h => ⟨h.1, h.2.symm⟩
                  have HHE := Lib.hid hhe
                  have HHF := Lib.hid hhf
                  clear hhe hhf
                  cases hs1 : standsE k he1 y.e with
                  | false =>
                    have S1 := Lib.hid hs1
                    have HM := Lib.hid (mayP_de HDJ.out (mayD_it HYL.out (show mayI p.exprs.length y = false by rw [hn.out]; unfold mayI; rw [← HHE.out, hs1]; rfl)))
                    clear hs1
                    go_wp2_with (go_at_call 24; ((with_reducible refine (CH.out _).mono ?_); rintro e w9 ⟨rfl, rfl⟩))
                    have Gg1 := fun pr : Regrown => cell_regrown g1 pr.d pr.os
                    have Gg2 := fun pr : Regrown => cell_regrown g2 pr.d pr.os
                    have Gg3 := fun pr : Regrown => cell_regrown g3 pr.d pr.os
                    have Gi3 := fun pr : Regrown => cell_regrown i3 pr.d pr.os
                    have Gi4 := fun pr : Regrown => cell_regrown i4 pr.d pr.os
                    clear g1 g2 g3 i0 i3 i4
                    have CE : Hid (∀ pr : Regrown, Calls Tryz.prog 23 #[.agg #[.slice o1 m dcap, .slice o2 k cap], .int .i64 (y.e), .bool he1] (Go.Sort.grow (redrawn wr pr.d) pr.os) fun e w'' => e = .returned (.bool false) ∧ ∃ p : Regrown, w'' = Go.Sort.grow (redrawn wr p.d) p.os) := Lib.hid fun pr => Calls.regrown_of (by rw [← S1.out]; exact CP'.out _ he1 y.e)
                    refine wp_region_quiet_below (by kernel_rfl) (by kernel_rfl) ?_
                    repeat (go_big_quiet_step (with_reducible exact CE.out _))
                    refine wpQuiet_nil ?_
                    intro w7 hw7
                    have HB3 : Hid (Below wr.heap.size wr w7) := Lib.hid (by obtain ⟨pr, rfl⟩ := hw7; exact below_regrown _ _ _)
                    clear hw7 Gg1 Gg2 Gg3 Gi3 Gi4 CE
                    go_wp2_with fail
                    go_ret
                    exact ⟨by rw [HM.out]; rfl, hW.out.trans (HB3.out.mono hW.out.size)⟩
                  | true =>
                    have S1 := Lib.hid hs1
                    clear hs1
                    cases hs2 : standsE k hf1 y.f with
                    | false =>
                      have S2 := Lib.hid hs2
                      have HM := Lib.hid (mayP_de HDJ.out (mayD_it HYL.out (show mayI p.exprs.length y = false by rw [hn.out]; unfold mayI; rw [← HHE.out, S1.out, ← HHF.out, hs2]; rfl)))
                      clear hs2
                      go_wp2_with (go_at_call 24; ((with_reducible refine (CH.out _).mono ?_); rintro e w9 ⟨rfl, rfl⟩))
                      have Gg1 := fun pr : Regrown => cell_regrown g1 pr.d pr.os
                      have Gg2 := fun pr : Regrown => cell_regrown g2 pr.d pr.os
                      have Gg3 := fun pr : Regrown => cell_regrown g3 pr.d pr.os
                      have Gi3 := fun pr : Regrown => cell_regrown i3 pr.d pr.os
                      have Gi4 := fun pr : Regrown => cell_regrown i4 pr.d pr.os
                      clear g1 g2 g3 i0 i3 i4
                      have CE : Hid (∀ pr : Regrown, Calls Tryz.prog 23 #[.agg #[.slice o1 m dcap, .slice o2 k cap], .int .i64 (y.e), .bool he1] (Go.Sort.grow (redrawn wr pr.d) pr.os) fun e w'' => e = .returned (.bool true) ∧ ∃ p : Regrown, w'' = Go.Sort.grow (redrawn wr p.d) p.os) := Lib.hid fun pr => Calls.regrown_of (by rw [← S1.out]; exact CP'.out _ he1 y.e)
                      have CF : Hid (∀ pr : Regrown, Calls Tryz.prog 23 #[.agg #[.slice o1 m dcap, .slice o2 k cap], .int .i64 (y.f), .bool hf1] (Go.Sort.grow (redrawn wr pr.d) pr.os) fun e w'' => e = .returned (.bool false) ∧ ∃ p : Regrown, w'' = Go.Sort.grow (redrawn wr p.d) p.os) := Lib.hid fun pr => Calls.regrown_of (by rw [← S2.out]; exact CP'.out _ hf1 y.f)
                      refine wp_region_quiet_below (by kernel_rfl) (by kernel_rfl) ?_
                      repeat (go_big_quiet_step (first | with_reducible exact CE.out _ | with_reducible exact CF.out _))
                      refine wpQuiet_nil ?_
                      intro w7 hw7
                      have HB3 : Hid (Below wr.heap.size wr w7) := Lib.hid (by obtain ⟨pr, rfl⟩ := hw7; exact below_regrown _ _ _)
                      clear hw7 Gg1 Gg2 Gg3 Gi3 Gi4 CE CF
                      go_wp2_with fail
                      go_ret
                      exact ⟨by rw [HM.out]; rfl, hW.out.trans (HB3.out.mono hW.out.size)⟩
                    | true =>
                      have S2 := Lib.hid hs2
                      clear hs2
                      go_wp2_with (go_at_call 24; ((with_reducible refine (CH.out _).mono ?_); rintro e w9 ⟨rfl, rfl⟩))
                      have Gg1 := fun pr : Regrown => cell_regrown g1 pr.d pr.os
                      have Gg2 := fun pr : Regrown => cell_regrown g2 pr.d pr.os
                      have Gg3 := fun pr : Regrown => cell_regrown g3 pr.d pr.os
                      have Gi3 := fun pr : Regrown => cell_regrown i3 pr.d pr.os
                      have Gi4 := fun pr : Regrown => cell_regrown i4 pr.d pr.os
                      clear g1 g2 g3 i0 i3 i4
                      have CE : Hid (∀ pr : Regrown, Calls Tryz.prog 23 #[.agg #[.slice o1 m dcap, .slice o2 k cap], .int .i64 (y.e), .bool he1] (Go.Sort.grow (redrawn wr pr.d) pr.os) fun e w'' => e = .returned (.bool true) ∧ ∃ p : Regrown, w'' = Go.Sort.grow (redrawn wr p.d) p.os) := Lib.hid fun pr => Calls.regrown_of (by rw [← S1.out]; exact CP'.out _ he1 y.e)
                      have CF : Hid (∀ pr : Regrown, Calls Tryz.prog 23 #[.agg #[.slice o1 m dcap, .slice o2 k cap], .int .i64 (y.f), .bool hf1] (Go.Sort.grow (redrawn wr pr.d) pr.os) fun e w'' => e = .returned (.bool true) ∧ ∃ p : Regrown, w'' = Go.Sort.grow (redrawn wr p.d) p.os) := Lib.hid fun pr => Calls.regrown_of (by rw [← S2.out]; exact CP'.out _ hf1 y.f)
                      refine wp_region_quiet_below (by kernel_rfl) (by kernel_rfl) ?_
                      repeat (go_big_quiet_step (first | with_reducible exact CE.out _ | with_reducible exact CF.out _))
                      refine wpQuiet_nil ?_
                      intro w7 hw7
                      have HB3 : Hid (Below wr.heap.size wr w7) := Lib.hid (by obtain ⟨pr, rfl⟩ := hw7; exact below_regrown _ _ _)
                      clear hw7 Gg1 Gg2 Gg3 Gi3 Gi4 CE CF
                      go_wp2_with fail
                      go_roundw
                      case rel =>
                        have hb8 := HB3.out
                        refine ⟨l + 1, by go_num, by omega, Lib.hid fun i hi y2 hy2 => ?_, Lib.hid (hW.out.trans (hb8.mono hW.out.size)), Lib.hid ((hb8.block _ (lt_of_heap hB.out)).trans hB.out), Lib.hid ((hb8.block _ (lt_of_heap hD.out)).trans hD.out)⟩
                        rcases Nat.lt_or_ge i l with h | h
                        · exact hY.out i h y2 hy2
                        · obtain rfl : i = l := by omega
                          rw [HYL.out] at hy2
                          obtain rfl := Option.some.inj hy2
                          unfold mayI; rw [← HHE.out, S1.out, ← HHF.out, S2.out]; rfl
                      case measure => simp [litLen]; omega
                · obtain rfl : l = ni := by omega
                  have hdd : Hid (mayD k d = true) := Lib.hid (by unfold mayD; rw [← HSV.out, mayI_all hY.out (by rw [HN.out]; exact Nat.le_refl _)]; rfl)
                  go_wp2_with fail
                  go_roundw
                  case rel =>
                    refine ⟨j + 1, by go_num, by omega, Lib.hid fun i hi d2 hd2 => ?_, hW, hB⟩
                    rcases Nat.lt_or_ge i j with h | h
                    · exact hX.out i h d2 hd2
                    · obtain rfl : i = j := by omega
                      rw [HDJ.out] at hd2
                      obtain rfl := Option.some.inj hd2
                      exact hdd.out
                  case measure => simp [litLen]; omega
        · obtain rfl : j = m := by omega
          have hP : Hid (mayP p = true) := Lib.hid (by unfold mayP; rw [hEX.out, hn.out, mayD_all hX.out (by rw [hm.out]; exact Nat.le_refl _)]; rfl)
          go_wp2_with fail
          go_ret
          exact ⟨by rw [hP.out]; rfl, hW.out⟩
theorem refMay_any (sd se : Value) (p : Pr) (w : World) (h : ProgAt w sd se p) (hs : Fits p) : Calls Tryz.prog 11 #[.agg #[sd, se]] w fun e w' => MayPost (mayP p) w e w' := by
  obtain ⟨⟨o1, dcap, db, doff, rfl, hd1, hd2, hd3, hd4⟩, ⟨o2, cap, b, off, rfl, he1, he2, he3, he4⟩, h3, h4⟩ := h
  exact refMay_core o1 o2 b off cap db doff dcap p _ _ (Lib.hid rfl) (Lib.hid rfl) (by have := hs.exprs; omega) (by have := hs.decls; omega) w (Lib.hid hs) (Lib.hid he3) (Lib.hid hd3) (Lib.hid he4) (Lib.hid hd4)
end Go.Proofs.YtlbhlncipajapaaGreatDoor
