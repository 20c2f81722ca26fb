/- Joined: NmMade, NmDeclOf, NmVarMath, NmVarsIt, NmVarsBox, NmVarsAll, NmFind. -/
import Derived.Test.YtnlbfdhhdnapnaaGreatNmJA
import Derived.Test.YtnlbfdhhdnapnaaGreatShelf
import Derived.Test.YtnlbfdhhdnapnaaGreatNmJB
import Derived.Test.YtnlbfdhhdnapnaaGreatOwnKit
import Derived.Test.YtnlbfdhhdnapnaaGreatTailIn
import Derived.RangeFuncBox
import Derived.RangeFuncNested
import Derived.Maps.AppendAt
import Derived.Maps.OwnIn
namespace Go.Proofs.YtnlbfdhhdnapnaaGreat
section
open Go.RowKit Lx Go.Shelf

/-- which sort of name an item makes: 0 for none -/
def madeS (k : Int) : Int := if k = 1 then 2 else if k = 2 then 3 else if k = 4 then 4 else if k = 6 then 5 else 0
def madeT (k t : Int) : Int := if k = 1 then t else if k = 2 then 1 else if k = 4 then t else 0
set_option maxHeartbeats 4000000 in
theorem made_any (k t e f p : Int) (nm st nx : ByteArray) (o : Option Addr) (n c : Nat) (w : World) : Calls Tryz.prog 64 #[.agg #[.int .i64 k, .string nm, .int .i64 t, .int .i64 e, .int .i64 f, .slice o n c, .string st, .string nx, .int .i64 p]] w fun r w' => r = .returned (.tuple #[.int .i64 (madeS k), .int .i64 (madeT k t)]) ∧ Below w.heap.size w w' := by
  have hal := Lib.hid ((Below.refl w.heap.size w).alloc (Nat.le_refl _) (.cells #[.int .i64 k, .string nm, .int .i64 t, .int .i64 e, .int .i64 f, .slice o n c, .string st, .string nx, .int .i64 p] 62))
  have hdr : Hid (Below w.heap.size w (w.alloc (.cells #[.int .i64 k, .string nm, .int .i64 t, .int .i64 e, .int .i64 f, .slice o n c, .string st, .string nx, .int .i64 p] 62)).drew) := Lib.hid ⟨hal.out.os, hal.out.tape, hal.out.output, hal.out.size, hal.out.block⟩
  have mixed : Tryz.prog.follows .mixedOrders = true := by kernel_rfl
  by_cases h1 : k = 1
  · subst h1
    go_enter Tryz.func64, Tryz.ntmps64
    go_wp2_with fail
    go_region_o
    all_goals (
      go_wp2_with fail
      go_ret2
      exact ⟨rfl, hdr.out⟩)
  by_cases h2 : k = 2
  · subst h2
    go_enter Tryz.func64, Tryz.ntmps64
    go_wp2_with fail
    go_ret2
    exact ⟨rfl, hal.out⟩
  by_cases h4 : k = 4
  · subst h4
    go_enter Tryz.func64, Tryz.ntmps64
    go_wp2_with fail
    go_region_o
    all_goals (
      go_wp2_with fail
      go_ret2
      exact ⟨rfl, hdr.out⟩)
  by_cases h6 : k = 6
  · subst h6
    go_enter Tryz.func64, Tryz.ntmps64
    go_wp2_with fail
    go_ret2
    exact ⟨rfl, hal.out⟩
  have e1 : madeS k = 0 := by unfold madeS; rw [if_neg h1, if_neg h2, if_neg h4, if_neg h6]
  have e2 : madeT k t = 0 := by unfold madeT; rw [if_neg h1, if_neg h2, if_neg h4]
  have E := Lib.hid (And.intro e1 e2)
  have r1 : (k == 1) = false := by simpa using h1
  have r2 : (k == 2) = false := by simpa using h2
  have r4 : (k == 4) = false := by simpa using h4
  have r6 : (k == 6) = false := by simpa using h6
  clear e1 e2
  go_enter Tryz.func64, Tryz.ntmps64
  go_wp2_with fail
  go_ret2
  exact ⟨by rw [E.out.1, E.out.2]; rfl, hal.out⟩
def VarV (nm : ByteArray) (a b c : Int) : Value := .agg #[.string nm, .int .i64 a, .int .i64 b, .int .i64 c]
/-- strings.Clone of any text -/
theorem cloneS_any (s : ByteArray) (hs : s.size ≤ 281474976710656) (w : World) : Calls Tryz.prog 65 #[.string s] w fun e w' => e = .returned (.string s) ∧ Below w.heap.size w w' := by
  go_enter Tryz.func65, Tryz.ntmps65
  go_wp2_with (go_at_call 103; refine (Tryz.stringslite_Clone s w hs).mono ?_; rintro e w' ⟨rfl, hb⟩)
  go_ret
  exact ⟨rfl, hb⟩
theorem set_hp {W : World} {g : Nat} {cs : Array Value} {T : TypeId} {fr : Nat × Nat} (h : W.heap[g]? = some (.cells cs T fr)) (i : Nat) (v : Value) : (W.setCell ⟨g, i, none⟩ v).heap[g]? = some (.cells (cs.setIfInBounds i v) T fr) := by
  have hl := (Array.getElem?_eq_some_iff.1 h).1
  simp [World.setCell, Array.getElem?_modify, h]
theorem set_ot {W : World} {g b : Nat} (h : b ≠ g) (i : Nat) (v : Value) : (W.setCell ⟨b, i, none⟩ v).heap[g]? = W.heap[g]? := by
  simp [World.setCell, Array.getElem?_modify, h]
theorem results_cell {fn : Func} {t : Tmp} {ty : TypeId} {P : Program} {w : World} {v : Value} (h : fn.results = #[.cell t ty]) (tmps : Array Value) (a : Addr) (ha : tmps.getD t undef = .pointer (some a)) (hl : (loadVar ty a).run P w = .ok v w) : (results fn tmps).run P w = .ok v w := by
  have ha' : tmps[t]?.getD undef = .pointer (some a) := by simpa [Array.getD_eq_getD_getElem?] using ha
  simp [results, h, ha', hl, asAddr]
theorem cells_four {W : World} {B : Nat} {a b c d : Value} {T : TypeId} (h : W.heap[B]? = some (.cells #[a, b, c, d] T (0, 0))) : (W.cell? ⟨B, 0, none⟩ = some a ∧ W.cell? ⟨B, 1, none⟩ = some b ∧ W.cell? ⟨B, 2, none⟩ = some c ∧ W.cell? ⟨B, 3, none⟩ = some d) ∧ W.frozen? ⟨B, 0, none⟩ = false ∧ W.frozen? ⟨B, 1, none⟩ = false ∧ W.frozen? ⟨B, 2, none⟩ = false ∧ W.frozen? ⟨B, 3, none⟩ = false :=
  ⟨⟨by simp [World.cell?, h], by simp [World.cell?, h], by simp [World.cell?, h], by simp [World.cell?, h]⟩, by simp [World.frozen?, h], by simp [World.frozen?, h], by simp [World.frozen?, h], by simp [World.frozen?, h]⟩
set_option maxHeartbeats 4000000 in
theorem own_any (nm : ByteArray) (a b c : Int) (w : World) (hs : nm.size ≤ 281474976710656) : Calls Tryz.prog 35 #[.agg #[.string nm, .int .i64 a, .int .i64 b, .int .i64 c]] w fun r w' => r = .returned (.agg #[.string nm, .int .i64 a, .int .i64 b, .int .i64 c]) ∧ Below w.heap.size w w' := by
  have CL := Lib.hid (fun w => cloneS_any nm hs w)
  have hal := Lib.hid (((Below.refl w.heap.size w).alloc (Nat.le_refl _) (.cells #[.string nm, .int .i64 a, .int .i64 b, .int .i64 c] 36)).alloc (by simp) (.cells #[.string ⟨#[]⟩, .int .i64 0, .int .i64 0, .int .i64 0] 36))
  have OB : Hid (((w.alloc (.cells #[.string nm, .int .i64 a, .int .i64 b, .int .i64 c] 36)).alloc (.cells #[.string ⟨#[]⟩, .int .i64 0, .int .i64 0, .int .i64 0] 36)).heap[w.heap.size]? = some (.cells #[.string nm, .int .i64 a, .int .i64 b, .int .i64 c] 36 (0, 0)) ∧ ((w.alloc (.cells #[.string nm, .int .i64 a, .int .i64 b, .int .i64 c] 36)).alloc (.cells #[.string ⟨#[]⟩, .int .i64 0, .int .i64 0, .int .i64 0] 36)).heap[w.heap.size + 1]? = some (.cells #[.string ⟨#[]⟩, .int .i64 0, .int .i64 0, .int .i64 0] 36 (0, 0))) := Lib.hid ⟨al_old (al_new rfl), al_new (by simp)⟩
  go_enter Tryz.func35, Tryz.ntmps35
  go_wp2_with (go_at_call 65; (with_reducible refine (CL.out _).mono ?_); rintro e w1 ⟨rfl, hb1⟩; have h1 := (hb1.block _ (lt_of_heap OB.out.1)).trans OB.out.1; have h2 := (hb1.block _ (lt_of_heap OB.out.2)).trans OB.out.2; obtain ⟨⟨c0, c1, c2, c3⟩, g0, g1, g2, g3⟩ := cells_four h1; obtain ⟨⟨e0, e1, e2, e3⟩, k0, k1, k2, k3⟩ := cells_four h2; have HB1 := Lib.hid hb1; have HH := Lib.hid (And.intro h1 h2); clear h1 h2 hb1)
  have hw := set_hp (set_hp (set_hp (set_hp ((set_ot (W := w1) (b := w.heap.size) (g := w.heap.size + 1) (by omega) 0 (.string nm)).trans HH.out.2) 0 (.string nm)) 1 (.int .i64 a)) 2 (.int .i64 b)) 3 (.int .i64 c)
  refine bodyPost_ret (results_cell rfl _ ⟨w.heap.size + 1, 0, none⟩ rfl (run_loadVar_row _ _ _ _ _ _ _ hw Tryz.underlying36 rfl (by kernel_rfl))) rfl ⟨rfl, ?_⟩
  exact ((((((hal.out.trans (HB1.out.mono hal.out.size)).setCell (p := ⟨w.heap.size, 0, none⟩) (Nat.le_refl _) _).setCell (p := ⟨w.heap.size + 1, 0, none⟩) (Nat.le_succ _) _).setCell (p := ⟨w.heap.size + 1, 1, none⟩) (Nat.le_succ _) _).setCell (p := ⟨w.heap.size + 1, 2, none⟩) (Nat.le_succ _) _).setCell (p := ⟨w.heap.size + 1, 3, none⟩) (Nat.le_succ _) _)
end
section
open Go.RowKit Lx Go.Shelf

/-- a declaration as a value -/
def DeVal (W : World) (v : Value) (x : De) : Prop := ∃ s t, v = .agg #[.int .i64 x.kind, .string x.name, s, t, .int .i64 x.type, .int .i64 x.e, .int .i64 x.pos] ∧
  SlAt s x.params.length 2 (fun b o i => ∀ y, x.params[i]? = some y → PaAt W b o y) ∧ SlAt t x.items.length 9 (fun b o i => ∀ y, x.items[i]? = some y → ItAt W b o y) ∧ DeOk x
theorem DeVal.below {w w' : World} {v : Value} {x : De} (h : DeVal w v x) (hb : Below w.heap.size w w') : DeVal w' v x := by
  obtain ⟨s, t, h1, h2, h3, h4⟩ := h
  exact ⟨s, t, h1, h2.mono fun _ _ _ _ h y hy => (h y hy).below hb, h3.mono fun _ _ _ _ h y hy => (h y hy).below hb, h4⟩
def noDe : De := ⟨0, ⟨#[]⟩, [], [], 0, 0, 0⟩
/-- whose names: none's, if there is no such declaration, or the program may not be -/
def declN (p : Pr) (d : Int) : De := if 0 ≤ d ∧ d < (p.decls.length : Int) ∧ mayN p = true then p.decls[d.toNat]?.getD noDe else noDe
theorem noDe_val (W : World) : DeVal W (.agg #[.int .i64 0, .string ⟨#[]⟩, .slice none 0 0, .slice none 0 0, .int .i64 0, .int .i64 0, .int .i64 0]) noDe :=
  ⟨_, _, rfl, slAt_none _ _ _ _ _ ⟨Nat.zero_le _, fun _ => rfl⟩ rfl, slAt_none _ _ _ _ _ ⟨Nat.zero_le _, fun _ => rfl⟩ rfl, ⟨by unfold i64ok noDe; decide, by unfold i64ok noDe; decide, Nat.zero_le _, Nat.zero_le _, Nat.zero_le _⟩⟩
theorem seven_box {W : World} {B : Nat} {T : TypeId} {v0 v1 v2 v3 v4 v5 v6 u0 u1 u2 u3 u4 u5 u6 : Value} (h : W.heap[B]? = some (.cells #[u0, u1, u2, u3, u4, u5, u6] T (0, 0))) : ((((((((W.setCell ⟨B, 0, none⟩ v0).setCell ⟨B, 1, none⟩ v1).setCell ⟨B, 2, none⟩ v2).setCell ⟨B, 3, none⟩ v3).setCell ⟨B, 4, none⟩ v4).setCell ⟨B, 5, none⟩ v5).setCell ⟨B, 6, none⟩ v6)).heap[B]? = some (.cells #[v0, v1, v2, v3, v4, v5, v6] T (0, 0)) :=
  by
  have e : (((((((#[u0, u1, u2, u3, u4, u5, u6] : Array Value).setIfInBounds 0 v0).setIfInBounds 1 v1).setIfInBounds 2 v2).setIfInBounds 3 v3).setIfInBounds 4 v4).setIfInBounds 5 v5).setIfInBounds 6 v6 = #[v0, v1, v2, v3, v4, v5, v6] := by simp
  rw [← e]
  exact set_hp (set_hp (set_hp (set_hp (set_hp (set_hp (set_hp h 0 v0) 1 v1) 2 v2) 3 v3) 4 v4) 5 v5) 6 v6
theorem seven_below {w W : World} {B : Nat} (hB : w.heap.size ≤ B) (h : Below w.heap.size w W) (v0 v1 v2 v3 v4 v5 v6 : Value) : Below w.heap.size w (((((((W.setCell ⟨B, 0, none⟩ v0).setCell ⟨B, 1, none⟩ v1).setCell ⟨B, 2, none⟩ v2).setCell ⟨B, 3, none⟩ v3).setCell ⟨B, 4, none⟩ v4).setCell ⟨B, 5, none⟩ v5).setCell ⟨B, 6, none⟩ v6) :=
  (((((((h.setCell (p := ⟨B, 0, none⟩) hB v0).setCell (p := ⟨B, 1, none⟩) hB v1).setCell (p := ⟨B, 2, none⟩) hB v2).setCell (p := ⟨B, 3, none⟩) hB v3).setCell (p := ⟨B, 4, none⟩) hB v4).setCell (p := ⟨B, 5, none⟩) hB v5).setCell (p := ⟨B, 6, none⟩) hB v6)
theorem dec_end {W : World} {B : Nat} {v0 v1 v2 v3 v4 v5 v6 : Value} (h : W.heap[B]? = some (.cells #[v0, v1, v2, v3, v4, v5, v6] 44 (0, 0))) : (loadVar 44 ⟨B, 0, none⟩).run Tryz.prog W = .ok (.agg #[v0, v1, v2, v3, v4, v5, v6]) W :=
  run_loadVar_row _ _ _ _ _ _ _ h Tryz.underlying44 rfl (by kernel_rfl)
theorem seven_froz {W : World} {B : Nat} {T : TypeId} {u0 u1 u2 u3 u4 u5 u6 : Value} (h : W.heap[B]? = some (.cells #[u0, u1, u2, u3, u4, u5, u6] T (0, 0))) : (∀ j, W.frozen? ⟨B, j, none⟩ = false) ∧ W.cell? ⟨B, 0, none⟩ = some u0 ∧ W.cell? ⟨B, 1, none⟩ = some u1 ∧ W.cell? ⟨B, 2, none⟩ = some u2 ∧ W.cell? ⟨B, 3, none⟩ = some u3 ∧ W.cell? ⟨B, 4, none⟩ = some u4 ∧ W.cell? ⟨B, 5, none⟩ = some u5 ∧ W.cell? ⟨B, 6, none⟩ = some u6 :=
  ⟨fun j => by simp [World.frozen?, h], by simp [World.cell?, h], by simp [World.cell?, h], by simp [World.cell?, h], by simp [World.cell?, h], by simp [World.cell?, h], by simp [World.cell?, h], by simp [World.cell?, h]⟩
set_option maxHeartbeats 8000000 in
set_option maxRecDepth 100000 in
theorem declOf_any (sd se : Value) (p : Pr) (d : Int) (w0 w : World) (hbw : Hid (Below w0.heap.size w0 w)) (h : ProgAt w0 sd se p) (hs : Small p) :
    Calls Tryz.prog 34 #[.agg #[sd, se], .int .i64 d] w fun r Y => ∃ v, r = .returned v ∧ DeVal w0 v (declN p d) ∧ Below w.heap.size w Y := by
  have MA := Lib.hid (fun W (hW : Below w.heap.size w W) => nmMay_any sd se p W (h.below (hbw.out.trans (hW.mono hbw.out.size))) hs)
  have HP := Lib.hid h
  obtain ⟨⟨o1, dcap, db, doff, rfl, hd1, hd2, hd3, hd4⟩, ⟨o2, cap, b, off, rfl, he1, he2, he3, he4⟩, h3, h4⟩ := h
  obtain ⟨n, hn⟩ : ∃ n, n = p.decls.length := ⟨_, rfl⟩
  rw [← hn] at hd1 hd3 hd4 h3 HP MA ⊢
  have HN := Lib.hid hn
  have D3 := Lib.hid hd3
  have D4 := Lib.hid hd4
  have hn2 : (n : Int) ≤ 140737488351232 := by unfold reachN at h3; omega
  have hal := Lib.hid (((Below.refl w.heap.size w).alloc (Nat.le_refl _) (.cells #[.slice o1 n dcap, .slice o2 p.exprs.length cap] 25)).alloc (by simp) (.cells #[.int .i64 0, .string ⟨#[]⟩, .slice none 0 0, .slice none 0 0, .int .i64 0, .int .i64 0, .int .i64 0] 44))
  clear hn hd1 hd2 hd3 hd4 he1 he2 he3 he4 h3 h4
  go_enter Tryz.func34, Tryz.ntmps34
  by_cases g0 : d < 0
  · have z0 : decide (d < 0) = true := decide_eq_true g0
    have HD : Hid (declN p d = noDe) := Lib.hid (by unfold declN; rw [if_neg (fun h => by omega)])
    go_wp2_with fail
    refine bodyPost_ret (results_cell rfl _ ⟨w.heap.size + 1, 0, none⟩ rfl (dec_end (al_new (by simp)))) rfl ⟨_, rfl, ?_, hal.out⟩
    rw [HD.out]
    exact noDe_val _
  have z0 : decide (d < 0) = false := decide_eq_false g0
  by_cases g1 : (n : Int) ≤ d
  · have z1 : decide ((n : Int) ≤ d) = true := decide_eq_true g1
    have HD : Hid (declN p d = noDe) := Lib.hid (by unfold declN; rw [if_neg (fun h => by have := HN.out; omega)])
    go_wp2_with fail
    refine bodyPost_ret (results_cell rfl _ ⟨w.heap.size + 1, 0, none⟩ rfl (dec_end (al_new (by simp)))) rfl ⟨_, rfl, ?_, hal.out⟩
    rw [HD.out]
    exact noDe_val _
  have z1 : decide ((n : Int) ≤ d) = false := decide_eq_false g1
  obtain ⟨k, rfl⟩ : ∃ k : Nat, d = (k : Int) := ⟨d.toNat, by omega⟩
  have hk : k < n := by omega
  obtain ⟨x, hx⟩ : ∃ x, p.decls[k]? = some x := ⟨_, List.getElem?_eq_getElem (by have := HN.out; omega)⟩
  have OB : Hid (((w.alloc (.cells #[.slice o1 n dcap, .slice o2 p.exprs.length cap] 25)).alloc (.cells #[.int .i64 0, .string ⟨#[]⟩, .slice none 0 0, .slice none 0 0, .int .i64 0, .int .i64 0, .int .i64 0] 44)).heap[w.heap.size]? = some (.cells #[.slice o1 n dcap, .slice o2 p.exprs.length cap] 25 (0, 0)) ∧ ((w.alloc (.cells #[.slice o1 n dcap, .slice o2 p.exprs.length cap] 25)).alloc (.cells #[.int .i64 0, .string ⟨#[]⟩, .slice none 0 0, .slice none 0 0, .int .i64 0, .int .i64 0, .int .i64 0] 44)).heap[w.heap.size + 1]? = some (.cells #[.int .i64 0, .string ⟨#[]⟩, .slice none 0 0, .slice none 0 0, .int .i64 0, .int .i64 0, .int .i64 0] 44 (0, 0))) := Lib.hid ⟨al_old (al_new rfl), al_new (by simp)⟩
  cases hm : mayN p with
  | false =>
    rw [hm] at MA
    have HD : Hid (declN p (k : Int) = noDe) := Lib.hid (by unfold declN; rw [if_neg (fun h => by rw [hm] at h; cases h.2.2)])
    clear hm
    go_wp2_with (go_at_call 30; (with_reducible refine (MA.out _ hal.out).mono ?_); rintro e w1 ⟨rfl, hb1⟩; have h2 := (hb1.block _ (lt_of_heap OB.out.2)).trans OB.out.2; obtain ⟨fz, c0, c1, c2, c3, c4, c5, c6⟩ := seven_froz h2; have HB1 := Lib.hid (hal.out.trans (hb1.mono hal.out.size)); have HH := Lib.hid h2; clear h2 hb1)
    refine bodyPost_ret (results_cell rfl _ ⟨w.heap.size + 1, 0, none⟩ rfl (dec_end (seven_box HH.out))) rfl ⟨_, rfl, ?_, seven_below (Nat.le_succ _) HB1.out _ _ _ _ _ _ _⟩
    rw [HD.out]
    exact noDe_val _
  | true =>
    rw [hm] at MA
    have HD : Hid (declN p (k : Int) = x) := Lib.hid (by unfold declN; rw [if_pos ⟨by omega, by have := HN.out; omega, hm⟩]; simp [hx])
    clear hm
    obtain ⟨s, t, q0, q1, q2, q3, q4, q5, q6, qs, qt, qk⟩ := D4.out k hk x hx
    have HQ := Lib.hid (And.intro qs (And.intro qt qk))
    obtain ⟨oS, cS, bS, fS, rfl, qs'⟩ := qs
    obtain ⟨oT, cT, bT, fT, rfl, qt'⟩ := qt
    have QC := Lib.hid (And.intro q0 (And.intro q1 (And.intro q2 (And.intro q3 (And.intro q4 (And.intro q5 q6))))))
    clear hx qs' qt' qk q0 q1 q2 q3 q4 q5 q6
    go_wp2_with (go_at_call 30; (with_reducible refine (MA.out _ hal.out).mono ?_); rintro e w1 ⟨rfl, hb1⟩; have h1 := (hb1.block _ (lt_of_heap OB.out.1)).trans OB.out.1; have h2 := (hb1.block _ (lt_of_heap OB.out.2)).trans OB.out.2; obtain ⟨fz, c0, c1, c2, c3, c4, c5, c6⟩ := seven_froz h2; obtain ⟨u0, u1⟩ := cells_two h1; have HB1 := Lib.hid (hal.out.trans (hb1.mono hal.out.size)); have HH := Lib.hid h2; have ix := ix_des (cap := dcap) D3.out hk (by omega); unfold Ix at ix; have HB2 := Lib.hid (hbw.out.trans (HB1.out.mono hbw.out.size)); have p0 := cell_on HB2.out QC.out.1; have p1 := cell_on HB2.out QC.out.2.1; have p2 := cell_on HB2.out QC.out.2.2.1; have p3 := cell_on HB2.out QC.out.2.2.2.1; have p4 := cell_on HB2.out QC.out.2.2.2.2.1; have p5 := cell_on HB2.out QC.out.2.2.2.2.2.1; have p6 := cell_on HB2.out QC.out.2.2.2.2.2.2; clear h1 h2 hb1)
    refine bodyPost_ret (results_cell rfl _ ⟨w.heap.size + 1, 0, none⟩ rfl (dec_end (seven_box HH.out))) rfl ⟨_, rfl, ?_, seven_below (Nat.le_succ _) HB1.out _ _ _ _ _ _ _⟩
    rw [HD.out]
    exact ⟨_, _, rfl, HQ.out.1, HQ.out.2.1, HQ.out.2.2⟩
end
section
structure Va where
  name : ByteArray
  sort : Int
  type : Int
  index : Int
/-- a declaration's names: its parameters', then those that its items make -/
def varsP (l : List Pa) : List Va := l.zipIdx.map fun z => ⟨z.1.name, 1, z.1.type, z.2⟩
def varsI (l : List It) : List Va := l.zipIdx.filterMap fun z => if madeS z.1.kind = 0 then none else some ⟨z.1.name, madeS z.1.kind, madeT z.1.kind z.1.type, z.2⟩
def varsN (d : De) : List Va := varsP d.params ++ varsI d.items
theorem varsP_take (l : List Pa) (c : Nat) (x : Pa) (h : l[c]? = some x) : varsP (l.take (c + 1)) = varsP (l.take c) ++ [⟨x.name, 1, x.type, c⟩] := by
  have hl := (List.getElem?_eq_some_iff.1 h).1
  unfold varsP
  rw [List.take_add_one, h]
  simp [List.zipIdx_append, Nat.min_eq_left (Nat.le_of_lt hl)]
theorem varsI_take (l : List It) (c : Nat) (x : It) (h : l[c]? = some x) : varsI (l.take (c + 1)) = varsI (l.take c) ++ if madeS x.kind = 0 then [] else [⟨x.name, madeS x.kind, madeT x.kind x.type, c⟩] := by
  have hl := (List.getElem?_eq_some_iff.1 h).1
  unfold varsI
  rw [List.take_add_one, h]
  simp only [Option.toList_some, List.zipIdx_append, List.filterMap_append]
  congr 1
  by_cases hm : madeS x.kind = 0 <;> simp [hm, Nat.min_eq_left (Nat.le_of_lt hl)]
theorem varsP_len (l : List Pa) : (varsP l).length = l.length := by simp [varsP]
theorem varsI_len (l : List It) : (varsI l).length ≤ l.length := by
  unfold varsI
  refine Nat.le_trans (List.length_filterMap_le _ _) ?_
  simp
/-- the first of a name, looked for from place k down: the law's own loop -/
def firstDown (l : List Va) (nm : ByteArray) : Nat → Nat → Nat
  | 0, f => f
  | k + 1, f => firstDown l nm k (if (l[k]?.map (·.name)) = some nm then k else f)
theorem firstDown_spec (l : List Va) (nm : ByteArray) : ∀ (k f : Nat), (∀ x, l[f]? = some x → x.name = nm) → (∀ j, k ≤ j → j < f → ∀ x, l[j]? = some x → ¬ x.name = nm) → f < l.length → k ≤ f + 1 →
    ∃ r x, firstDown l nm k f = r ∧ l[r]? = some x ∧ x.name = nm ∧ ∀ j, j < r → ∀ y, l[j]? = some y → ¬ y.name = nm
  | 0, f, h1, h2, h3, _ => ⟨f, l[f], rfl, List.getElem?_eq_getElem h3, h1 _ (List.getElem?_eq_getElem h3), fun j hj y hy => h2 j (Nat.zero_le _) hj y hy⟩
  | k + 1, f, h1, h2, h3, h4 => by
    obtain ⟨x, hx⟩ : ∃ x, l[k]? = some x := ⟨_, List.getElem?_eq_getElem (by omega)⟩
    unfold firstDown
    by_cases hn : x.name = nm
    · rw [if_pos (by rw [hx]; simp [hn])]
      refine firstDown_spec l nm k k (fun y hy => by rw [hx] at hy; cases hy; exact hn) (fun j hj hjk => by omega) (by omega) (by omega)
    · rw [if_neg (by rw [hx]; simp [hn])]
      refine firstDown_spec l nm k f h1 (fun j hj hjf y hy => ?_) h3 (by
        by_cases e : k = f
        · subst e; exact absurd (h1 x hx) hn
        · omega)
      rcases Nat.lt_or_ge k j with h | h
      · exact h2 j (by omega) hjf y hy
      · obtain rfl : j = k := by omega
        rw [hx] at hy; cases hy; exact hn
/-- found: the first of its name -/
theorem find_first {l : List Va} {nm : ByteArray} {r : Nat} {x : Va} (h1 : l[r]? = some x) (h2 : x.name = nm) (h3 : ∀ j, j < r → ∀ y, l[j]? = some y → ¬ y.name = nm) : l.find? (fun y => decide (y.name = nm)) = some x := by
  obtain ⟨hr, rfl⟩ := List.getElem?_eq_some_iff.1 h1
  rw [List.find?_eq_some_iff_getElem]
  exact ⟨by simpa using h2, r, hr, rfl, fun j hj => by simpa using h3 j hj _ (List.getElem?_eq_getElem (by omega))⟩
end
section
open Go.RowKit Lx Go.Shelf

attribute [local go_sem] Oper.semAt_some

/-- what the round's body writes lies in M, or is its row; what it reads of the row hangs on old blocks alone -/
structure Near (M : Nat → Prop) (rw : World → Option Nat) (w : World) : Prop where
  old : ∀ k, M k → k < w.heap.size
  row : ∀ k, rw w = some k → k < w.heap.size
  same : ∀ X Y : World, (∀ k, k < w.heap.size → Y.heap[k]? = X.heap[k]?) → rw Y = rw X
/-- what is still lies there still -/
def Kept (M : Nat → Prop) (rw : World → Option Nat) (w X : World) : Prop := w.heap.size ≤ X.heap.size ∧ (∀ k, rw X = some k → rw w = some k ∨ w.heap.size ≤ k) ∧ ∀ k, Still M rw w k → X.heap[k]? = w.heap[k]?
theorem Kept.keep {M : Nat → Prop} {rw : World → Option Nat} {w X Y : World} (h : Kept M rw w X) (k : KeepM M rw w.heap.size X Y) : Kept M rw w Y := by
  refine ⟨Nat.le_trans h.1 k.1, fun j hj => ?_, fun j hj => ?_⟩
  · rcases k.2.2 j hj with e | ⟨e, _⟩
    · exact h.2.1 j e
    · exact .inr (Nat.le_trans h.1 e)
  · refine (k.2.1 j (Nat.lt_of_lt_of_le hj.1 h.1) hj.2.1 (fun e => ?_) (.inl hj.1)).trans (h.2.2 j hj)
    rcases h.2.1 j e with e2 | e2
    · exact hj.2.2 e2
    · have := hj.1; omega
theorem Kept.below {M : Nat → Prop} {rw : World → Option Nat} {w X Y : World} (hN : Near M rw w) (h : Kept M rw w X) (hb : Below X.heap.size X Y) : Kept M rw w Y := by
  have hs : rw Y = rw X := hN.same X Y fun k hk => hb.block k (Nat.lt_of_lt_of_le hk h.1)
  exact ⟨Nat.le_trans h.1 hb.size, fun k hk => h.2.1 k (by rwa [hs] at hk), fun k hk => (hb.block k (Nat.lt_of_lt_of_le hk.1 h.1)).trans (h.2.2 k hk)⟩
theorem Kept.start {M : Nat → Prop} {rw : World → Option Nat} {w W : World} (hN : Near M rw w) (hb : Below w.heap.size w W) : Kept M rw w W :=
  ⟨hb.size, fun k hk => .inl (by rwa [hN.same w W fun k hk => hb.block k hk] at hk), fun k hk => hb.block k hk.1⟩
theorem varsP_pre (l : List Pa) (c : Nat) : varsP (l.take c) <+: varsP l := by
  obtain ⟨t, ht⟩ : ∃ t, varsP (l.take c ++ l.drop c) = varsP (l.take c) ++ t := ⟨_, by unfold varsP; rw [List.zipIdx_append, List.map_append]⟩
  rw [List.take_append_drop] at ht
  exact ⟨t, ht.symm⟩
theorem varsI_pre (l : List It) (c : Nat) : varsI (l.take c) <+: varsI l := by
  obtain ⟨t, ht⟩ : ∃ t, varsI (l.take c ++ l.drop c) = varsI (l.take c) ++ t := ⟨_, by unfold varsI; rw [List.zipIdx_append, List.filterMap_append]⟩
  rw [List.take_append_drop] at ht
  exact ⟨t, ht.symm⟩
def vaE (v : Va) : Array Value := #[VarV v.name v.sort v.type v.index]
set_option maxHeartbeats 8000000 in
set_option maxRecDepth 100000 in
theorem vars_core (n : Nat) (d : De) (op oi : Option Addr) (capp capi bp fp bi fi np ni : Nat) (hnp : Hid (d.params.length = np)) (hni : Hid (d.items.length = ni)) (lp' : (np : Int) ≤ 1000000) (li' : (ni : Int) ≤ 1000000) (M : Nat → Prop) (rw : World → Option Nat) (B : Nat) (w : World)
    (hA : Hid (Near M rw w)) (hB : Hid (Still M rw w B)) (hc : Hid (w.heap[B]? = some (.cells #[.int .i64 d.kind, .string d.name, .slice op np capp, .slice oi ni capi, .int .i64 d.type, .int .i64 d.e, .int .i64 d.pos] 44 (0, 0))))
    (hop : Hid (0 < np → op = some ⟨bp, fp, none⟩)) (hoi : Hid (0 < ni → oi = some ⟨bi, fi, none⟩)) (hSp : Hid (0 < np → Still M rw w bp)) (hSi : Hid (0 < ni → Still M rw w bi))
    (hvp : Hid (∀ j, j < np → ∀ x, d.params[j]? = some x → PaAt w bp (fp + j * 2) x)) (hvi : Hid (∀ j, j < ni → ∀ x, d.items[j]? = some x → ItAt w bi (fi + j * 9) x)) (lp : Nat) (J Jx : List Va → World → Prop)
    (W : World) (hW : Hid (Below w.heap.size w W)) (hJ : Hid (∀ s X Y, J s X → X.grownBy Y none → J s Y))
    (hY : Hid (∀ pre (v : Va) W1, J pre W1 → pre ++ [v] <+: varsN d → YieldAt Fence.wide (n - 1) Tryz.prog lp (vaE v) W1 fun e W' =>
      (e = .returned (.bool true) ∧ J (pre ++ [v]) W' ∧ KeepM M rw w.heap.size W1 W') ∨ (e = .returned (.bool false) ∧ Jx (pre ++ [v]) W')))
    (h0 : Hid (J [] W)) :
    CallsIn Fence.wide n Tryz.prog 63 #[.func (.yield lp) #[] #[], .pointer (some ⟨B, 0, none⟩)] W fun e W' => (∃ v, e = .returned v) ∧
      ((∃ ys : List Va, ys = varsN d ∧ J ys W') ∨ (∃ pre : List Va, pre <+: varsN d ∧ Jx pre W')) := by
  have hBW : W.heap[B]? = some (.cells #[.int .i64 d.kind, .string d.name, .slice op np capp, .slice oi ni capi, .int .i64 d.type, .int .i64 d.e, .int .i64 d.pos] 44 (0, 0)) := (hW.out.block _ hB.out.1).trans hc.out
  obtain ⟨_, b0, b1, b2, b3, b4, b5, b6⟩ := seven_froz hBW
  have HK := Lib.hid (Kept.start hA.out hW.out)
  clear hBW b0 b1 b4 b5 b6
  refine callsIn_of_wp Tryz.func63 rfl trivial ?_ rfl
  simp only [Tryz.ntmps63, List.size_toArray, List.length_cons, List.length_nil, Nat.reduceAdd, Nat.reduceSub, Array.replicate_succ, Array.replicate_zero, List.push_toArray, List.append_toArray, List.nil_append, List.cons_append]
  gi_wp2_with fail
  clear b2 b3
  gi_loopw [12] (fun i wr => ∃ (j : Nat), i = .int .i64 j ∧ Hid (j ≤ np) ∧ Hid (J (varsP (d.params.take j)) wr) ∧ Hid (Kept M rw w wr)) (fun i _ => np - litLen i)
  case atStart => exact ⟨0, rfl, Lib.hid (Nat.zero_le _), h0, HK⟩
  case round =>
    obtain ⟨j, rfl, hj, hJp, hKp⟩ := hrel
    have jl := hj.out
    rcases Nat.lt_or_ge j np with hlt | hge
    · have q3 : (j : Int) < (np : Int) := by omega
      have ix : Ix 41 2 (.slice op np capp) bp fp j := by
        intro W
        rw [hop.out (by omega)]
        have h1 : (j : Int) < (np : Int) := by omega
        have h2 : (j : Int) ≤ 9223372036854775807 := by omega
        go_simp
      unfold Ix at ix
      obtain ⟨x, hx⟩ : ∃ x, d.params[j]? = some x := ⟨_, List.getElem?_eq_getElem (by have := hnp.out; omega)⟩
      have hp := hvp.out j hlt x hx
      have p0 : wr.cell? ⟨bp, fp + j * 2, none⟩ = some (.string x.name) := (cell_same' (hKp.out.2.2 _ (hSp.out (by omega))) _).trans hp.1
      have p1 : wr.cell? ⟨bp, fp + j * 2 + 1, none⟩ = some (.int .i64 x.type) := (cell_same' (hKp.out.2.2 _ (hSp.out (by omega))) _).trans hp.2.1
      have HX := Lib.hid hx
      clear hp hx
      have HJa := Lib.hid (hJ.out _ _ _ hJp.out (World.grownBy_alloc wr (.cells #[.string x.name, .int .i64 x.type] 67) none))
      have HKa := Lib.hid (hKp.out.below hA.out ((Below.refl wr.heap.size wr).alloc (Nat.le_refl _) (.cells #[.string x.name, .int .i64 x.type] 67)))
      have hlen : varsP (d.params.take j) ++ [⟨x.name, 1, x.type, j⟩] <+: varsN d := by
        rw [← varsP_take _ _ _ HX.out]
        exact (varsP_pre _ _).trans (List.prefix_append _ _)
      obtain ⟨fn, tmps, assign, body, hy, hR⟩ := hY.out _ ⟨x.name, 1, x.type, j⟩ _ HJa.out hlen
      have hy' : (Instr.yield lp #[.agg #[.string x.name, .int .i64 1, .int .i64 x.type, .int .i64 (j : Int)]]).run Tryz.prog (wr.alloc (.cells #[.string x.name, .int .i64 x.type] 67)) = .ok (.round lp fn tmps assign body) (wr.alloc (.cells #[.string x.name, .int .i64 x.type] 67)) := hy
      have HR := Lib.hid hR
      have HT : Hid (varsP (d.params.take j) ++ [⟨x.name, 1, x.type, j⟩] = varsP (d.params.take (j + 1))) := Lib.hid (varsP_take _ _ _ HX.out).symm
      clear hy hR hlen
      gi_wp2_with fail
      refine ⟨fun h => (by cases h), HR.out.mono ?_⟩
      rintro e W3 (⟨rfl, hJ3, hk3⟩ | ⟨rfl, hJx3⟩)
      · have HK3 := Lib.hid (HKa.out.keep hk3)
        have HJ3 := Lib.hid hJ3
        rw [HT.out] at HJ3
        clear hJ3 hk3
        gi_wp2_with fail
        go_roundw
        case rel => exact ⟨j + 1, by go_num, Lib.hid (by omega), HJ3, HK3⟩
        case measure => simp [litLen]; omega
      · have HJx3 := Lib.hid hJx3
        rw [HT.out] at HJx3
        clear hJx3
        gi_wp2_with fail
        refine bodyPost_ret (results_none rfl _ _ _) rfl ?_
        exact ⟨⟨_, rfl⟩, .inr ⟨_, (varsP_pre _ _).trans (List.prefix_append _ _), HJx3.out⟩⟩
    · obtain rfl : j = np := by omega
      have HJ1 := Lib.hid hJp.out
      rw [show d.params.take j = d.params by rw [← hnp.out]; exact List.take_length] at HJ1
      have hBr := (hKp.out.2.2 _ hB.out).trans hc.out
      obtain ⟨_, b0, b1, b2, b3, b4, b5, b6⟩ := seven_froz hBr
      have HK1 := Lib.hid hKp.out
      clear hJp hKp hBr b0 b1 b2 b4 b5 b6
      gi_wp2_with fail
      clear b3
      gi_loopw [30] (fun i wr => ∃ (k : Nat), i = .int .i64 k ∧ Hid (k ≤ ni) ∧ Hid (J (varsP d.params ++ varsI (d.items.take k)) wr) ∧ Hid (Kept M rw w wr)) (fun i _ => ni - litLen i)
      case atStart => exact ⟨0, rfl, Lib.hid (Nat.zero_le _), (by simpa [varsI] using HJ1), HK1⟩
      case round =>
        clear HJ1 HK1
        obtain ⟨k, rfl, hk, hJq, hKq⟩ := hrel
        have kl := hk.out
        rcases Nat.lt_or_ge k ni with hlt | hge
        · have q3 : (k : Int) < (ni : Int) := by omega
          have ix : Ix 42 9 (.slice oi ni capi) bi fi k := by
            intro W
            rw [hoi.out (by omega)]
            have h1 : (k : Int) < (ni : Int) := by omega
            have h2 : (k : Int) ≤ 9223372036854775807 := by omega
            go_simp
          unfold Ix at ix
          obtain ⟨x, hx⟩ : ∃ x, d.items[k]? = some x := ⟨_, List.getElem?_eq_getElem (by have := hni.out; omega)⟩
          obtain ⟨os, caps, iok, i0, i1, i2, i3, i4, i5, i6, i7, i8⟩ := it_cells (hvi.out k hlt x hx)
          have hb := hKq.out.2.2 _ (hSi.out (by omega))
          have p0 := (cell_same' hb _).trans i0
          have p1 := (cell_same' hb _).trans i1
          have p2 := (cell_same' hb _).trans i2
          have p3 := (cell_same' hb _).trans i3
          have p4 := (cell_same' hb _).trans i4
          have p5 := (cell_same' hb _).trans i5
          have p6 := (cell_same' hb _).trans i6
          have p7 := (cell_same' hb _).trans i7
          have p8 := (cell_same' hb _).trans i8
          have HX := Lib.hid hx
          clear hx hb i0 i1 i2 i3 i4 i5 i6 i7 i8 iok
          obtain ⟨S, hSd⟩ : ∃ S, S = madeS x.kind := ⟨_, rfl⟩
          obtain ⟨T, hTd⟩ : ∃ T, T = madeT x.kind x.type := ⟨_, rfl⟩
          have MD : Hid (∀ W, Calls Tryz.prog 64 #[.agg #[.int .i64 x.kind, .string x.name, .int .i64 x.type, .int .i64 x.e, .int .i64 x.f, .slice os x.states.length caps, .string x.state, .string x.next, .int .i64 x.pos]] W fun r w' => r = .returned (.tuple #[.int .i64 S, .int .i64 T]) ∧ Below W.heap.size W w') := Lib.hid (fun W => by rw [hSd, hTd]; exact made_any _ _ _ _ _ _ _ _ _ _ _ W)
          have HIT : Hid (varsI (d.items.take (k + 1)) = varsI (d.items.take k) ++ if S = 0 then [] else [⟨x.name, S, T, k⟩]) := Lib.hid (by rw [hSd, hTd]; exact varsI_take _ _ _ HX.out)
          have HJa := Lib.hid (hJ.out _ _ _ hJq.out (World.grownBy_alloc wr (.cells #[.int .i64 x.kind, .string x.name, .int .i64 x.type, .int .i64 x.e, .int .i64 x.f, .slice os x.states.length caps, .string x.state, .string x.next, .int .i64 x.pos] 62) none))
          have HKa := Lib.hid (hKq.out.below hA.out ((Below.refl wr.heap.size wr).alloc (Nat.le_refl _) (.cells #[.int .i64 x.kind, .string x.name, .int .i64 x.type, .int .i64 x.e, .int .i64 x.f, .slice os x.states.length caps, .string x.state, .string x.next, .int .i64 x.pos] 62)))
          have HBX : Hid ((wr.alloc (.cells #[.int .i64 x.kind, .string x.name, .int .i64 x.type, .int .i64 x.e, .int .i64 x.f, .slice os x.states.length caps, .string x.state, .string x.next, .int .i64 x.pos] 62)).heap[wr.heap.size]? = some (.cells #[.int .i64 x.kind, .string x.name, .int .i64 x.type, .int .i64 x.e, .int .i64 x.f, .slice os x.states.length caps, .string x.state, .string x.next, .int .i64 x.pos] 62 (0, 0))) := Lib.hid (al_new rfl)
          clear hSd hTd
          gi_wp2_with fail
          refine ⟨trivial, fun h => (by cases h), (callsIn_wide.2 (MD.out _)).mono ?_⟩
          rintro e w1 ⟨rfl, hb1⟩
          have h1 := (hb1.block _ (lt_of_heap HBX.out)).trans HBX.out
          have r1 : w1.cell? ⟨wr.heap.size, 1, none⟩ = some (.string x.name) := by simp [World.cell?, h1]
          have HJb := Lib.hid (hJ.out _ _ _ HJa.out ⟨hb1.os, hb1.tape, hb1.output, hb1.size, fun k hk _ => hb1.block k hk⟩)
          have HKb := Lib.hid (HKa.out.below hA.out hb1)
          clear h1 hb1 HJa HKa HBX
          dsimp only
          by_cases hz : S = 0
          · have HT : Hid (varsI (d.items.take (k + 1)) = varsI (d.items.take k)) := Lib.hid (by rw [HIT.out, if_pos hz, List.append_nil])
            have qz : (S != 0) = false := by simp [hz]
            clear hz
            gi_wp2_with fail
            refine ⟨fun f h => (by cases h), ?_⟩
            gi_wp2_with fail
            go_roundw
            case rel => exact ⟨k + 1, by go_num, Lib.hid (by omega), (by rw [HT.out]; exact HJb), HKb⟩
            case measure => simp [litLen]; omega
          · have HT : Hid (varsP d.params ++ varsI (d.items.take k) ++ [⟨x.name, S, T, k⟩] = varsP d.params ++ varsI (d.items.take (k + 1))) := Lib.hid (by rw [HIT.out, if_neg hz, List.append_assoc])
            have qz : (S != 0) = true := by simpa using hz
            have hlen : varsP d.params ++ varsI (d.items.take k) ++ [⟨x.name, S, T, k⟩] <+: varsN d := by
              rw [HT.out]
              exact (List.prefix_append_right_inj _).2 (varsI_pre _ _)
            obtain ⟨fn, tmps, assign, body, hy, hR⟩ := hY.out _ ⟨x.name, S, T, k⟩ _ HJb.out hlen
            have hy' : (Instr.yield lp #[.agg #[.string x.name, .int .i64 S, .int .i64 T, .int .i64 (k : Int)]]).run Tryz.prog w1 = .ok (.round lp fn tmps assign body) w1 := hy
            have HR := Lib.hid hR
            clear hy hR hlen hz
            gi_wp2_with fail
            refine ⟨fun h => (by cases h), HR.out.mono ?_⟩
            rintro e W3 (⟨rfl, hJ3, hk3⟩ | ⟨rfl, hJx3⟩)
            · have HK3 := Lib.hid (HKb.out.keep hk3)
              have HJ3 := Lib.hid hJ3
              rw [HT.out] at HJ3
              clear hJ3 hk3
              gi_wp2_with fail
              go_roundw
              case rel => exact ⟨k + 1, by go_num, Lib.hid (by omega), HJ3, HK3⟩
              case measure => simp [litLen]; omega
            · have HJx3 := Lib.hid hJx3
              rw [HT.out] at HJx3
              clear hJx3
              gi_wp2_with fail
              refine bodyPost_ret (results_none rfl _ _ _) rfl ?_
              exact ⟨⟨_, rfl⟩, .inr ⟨_, (List.prefix_append_right_inj _).2 (varsI_pre _ _), HJx3.out⟩⟩
        · obtain rfl : k = ni := by omega
          have HJ2 := Lib.hid hJq.out
          rw [show d.items.take k = d.items by rw [← hni.out]; exact List.take_length] at HJ2
          gi_wp2_with fail
          go_end0
          exact ⟨⟨_, rfl⟩, .inl ⟨_, rfl, HJ2.out⟩⟩
/-- a declaration, boxed, whose blocks aren't among those that are written -/
def DeSrc (M : Nat → Prop) (rw : World → Option Nat) (w : World) (d : De) (B : Nat) : Prop := ∃ s t, w.heap[B]? = some (.cells #[.int .i64 d.kind, .string d.name, s, t, .int .i64 d.type, .int .i64 d.e, .int .i64 d.pos] 44 (0, 0)) ∧ Still M rw w B ∧
  SlAt s d.params.length 2 (fun b o i => Still M rw w b ∧ ∀ y, d.params[i]? = some y → PaAt w b o y) ∧ SlAt t d.items.length 9 (fun b o i => Still M rw w b ∧ ∀ y, d.items[i]? = some y → ItAt w b o y)
theorem vars_stops (n : Nat) (d : De) (B : Nat) (M : Nat → Prop) (rw : World → Option Nat) (w : World) (hA : Near M rw w) (hs : DeSrc M rw w d B) (h1 : d.params.length ≤ 1000000) (h2 : d.items.length ≤ 1000000) :
    SeqStopsK (α := {v : Va // v ∈ varsN d}) Fence.wide n Tryz.prog 63 #[.pointer (some ⟨B, 0, none⟩)] (fun v => vaE v.1) (KeepM M rw w.heap.size) (fun ys => ys.map (·.1) = varsN d) (fun pre => pre.map (·.1) <+: varsN d) (varsN d).length w := by
  obtain ⟨s, t, hB, hS, ⟨op, capp, bp, fp, rfl, _, _, hp1, hp2⟩, ⟨oi, capi, bi, fi, rfl, _, _, hi1, hi2⟩⟩ := hs
  intro lp J Jx W hW hJ _ hY h0
  refine (vars_core n d op oi capp capi bp fp bi fi _ _ (Lib.hid rfl) (Lib.hid rfl) (by omega) (by omega) M rw B w (Lib.hid hA) (Lib.hid hS) (Lib.hid hB) (Lib.hid hp1) (Lib.hid hi1)
    (Lib.hid fun h => (hp2 0 h).1) (Lib.hid fun h => (hi2 0 h).1) (Lib.hid fun j hj => (hp2 j hj).2) (Lib.hid fun j hj => (hi2 j hj).2) lp (fun l W => ∃ l' : List {v : Va // v ∈ varsN d}, l'.map (·.1) = l ∧ J l' W) (fun l W => ∃ l' : List {v : Va // v ∈ varsN d}, l'.map (·.1) = l ∧ Jx l' W) W (Lib.hid hW)
    (Lib.hid ?_) (Lib.hid ?_) (Lib.hid ⟨[], rfl, h0⟩)).mono ?_
  · rintro s X Y ⟨l', e, h⟩ h2
    exact ⟨l', e, hJ l' X Y none h h2 (fun r e => by cases e)⟩
  · rintro pre v W1 ⟨l', rfl, hj⟩ hp
    have hv : v ∈ varsN d := hp.subset (by simp)
    have hl : l'.length < (varsN d).length := by have := hp.length_le; simp at this; omega
    obtain ⟨fn, tmps, assign, body, e1, e2⟩ := hY l' ⟨v, hv⟩ W1 hj hl
    refine ⟨fn, tmps, assign, body, e1, e2.mono ?_⟩
    rintro e W' (⟨rfl, h1, h2⟩ | ⟨rfl, h1⟩)
    · exact .inl ⟨rfl, ⟨l' ++ [⟨v, hv⟩], by simp, h1⟩, h2⟩
    · exact .inr ⟨rfl, ⟨l' ++ [⟨v, hv⟩], by simp, h1⟩⟩
  · rintro e W' ⟨hv, (⟨ys, rfl, l', e, h⟩ | ⟨pre, hp, l', rfl, h⟩)⟩
    · exact ⟨hv, .inl ⟨l', e, h⟩⟩
    · exact ⟨hv, .inr ⟨l', hp, h⟩⟩
end
section
open Go.RowKit Lx Go.Shelf

theorem deSrc_of {w W : World} {s t : Value} {d : De} {B : Nat} {M : Nat → Prop} {rw : World → Option Nat} (hs : SlAt s d.params.length 2 (fun b o i => ∀ y, d.params[i]? = some y → PaAt w b o y)) (ht : SlAt t d.items.length 9 (fun b o i => ∀ y, d.items[i]? = some y → ItAt w b o y)) (hb : Below w.heap.size w W)
    (hB : W.heap[B]? = some (.cells #[.int .i64 d.kind, .string d.name, s, t, .int .i64 d.type, .int .i64 d.e, .int .i64 d.pos] 44 (0, 0))) (hM : ∀ k, M k → w.heap.size ≤ k ∧ k ≠ B) (hr : ∀ k, rw W = some k → w.heap.size ≤ k ∧ k ≠ B) : DeSrc M rw W d B := by
  have still : ∀ k, k < w.heap.size → Still M rw W k := fun k hk => ⟨Nat.lt_of_lt_of_le hk hb.size, fun h => by have := (hM k h).1; omega, fun h => by have := (hr k h).1; omega⟩
  refine ⟨s, t, hB, ⟨lt_of_heap hB, fun h => (hM B h).2 rfl, fun h => (hr B h).2 rfl⟩, hs.mono fun b o i hi h => ?_, ht.mono fun b o i hi h => ?_⟩
  · obtain ⟨y, hy⟩ : ∃ y, d.params[i]? = some y := ⟨_, List.getElem?_eq_getElem hi⟩
    exact ⟨still _ (World.block_lt_of_cell? _ _ (h y hy).1), fun z hz => (h z hz).below hb⟩
  · obtain ⟨y, hy⟩ : ∃ y, d.items[i]? = some y := ⟨_, List.getElem?_eq_getElem hi⟩
    obtain ⟨_, h0, _⟩ := h y hy
    exact ⟨still _ (World.block_lt_of_cell? _ _ h0), fun z hz => (h z hz).below hb⟩
end
section
open Go.RowKit Lx Go.Shelf

attribute [local go_sem] Oper.semAt_some

theorem var_info : (Tryz.prog.info? 36).map (fun i => (i.zero, i.size, i.bytes)) = some (some (.agg #[.string ByteArray.empty, .int .i64 0, .int .i64 0, .int .i64 0]), 4, 40) := by kernel_rfl
def vaC (v : Va) : List Value := [.string v.name, .int .i64 v.sort, .int .i64 v.type, .int .i64 v.index]
def vaCs (l : List Va) : List Value := l.flatMap vaC
theorem vaCs_snoc (l : List Va) (x : Va) : vaCs (l ++ [x]) = vaCs l ++ vaC x := by simp [vaCs]
/-- slice value s holds these names -/
def VasAt (W : World) (s : Value) (l : List Va) : Prop := SlAt s l.length 4 fun b o i => ∀ x, l[i]? = some x → W.cell? ⟨b, o, none⟩ = some (.string x.name) ∧ W.cell? ⟨b, o + 1, none⟩ = some (.int .i64 x.sort) ∧ W.cell? ⟨b, o + 2, none⟩ = some (.int .i64 x.type) ∧ W.cell? ⟨b, o + 3, none⟩ = some (.int .i64 x.index)
theorem VasAt.below {w w' : World} {s : Value} {l : List Va} (h : VasAt w s l) (hb : Below w.heap.size w w') : VasAt w' s l := h.mono fun _ _ _ _ h x hx => ⟨cell_on hb (h x hx).1, cell_on hb (h x hx).2.1, cell_on hb (h x hx).2.2.1, cell_on hb (h x hx).2.2.2⟩
theorem vaCs_get (l : List Va) : ∀ (i : Nat) (x : Va), l[i]? = some x → ∀ j, j < 4 → (vaCs l)[i * 4 + j]? = (vaC x)[j]? := by
  induction l with
  | nil => intro i x h; simp at h
  | cons y l ih =>
    intro i x h j hj
    have e : vaCs (y :: l) = vaC y ++ vaCs l := by simp [vaCs]
    rw [e]
    cases i with
    | zero =>
      simp at h
      subst h
      rw [List.getElem?_append_left (by simp [vaC]; omega)]
      simp
    | succ i =>
      rw [List.getElem?_append_right (by simp [vaC]; omega)]
      rw [show (i + 1) * 4 + j - (vaC y).length = i * 4 + j by simp [vaC]; omega]
      exact ih i x (by simpa using h) j hj
theorem vasAt_own {W : World} {B : Nat} {v : Value} {l : List Va} (h : W.ownsRow B 36 4 v l.length (vaCs l)) : VasAt W v l := by
  have h0 := h
  obtain ⟨hlen, h1 | ⟨g, cap, cur, rfl, hb, hg, hnc, hcm, hcs, htk⟩⟩ := h
  · rw [h1.1]
    unfold VasAt
    rw [h1.2]
    exact slAt_none _ _ _ _ _ ⟨Nat.zero_le _, fun _ => rfl⟩ rfl
  · have hc := h0.cells (g := g) rfl
    refine slAt_some hnc hcm fun i _ x hx => ?_
    have hz : ∀ j, j < 4 → (⟨g, 0, none⟩ : Addr).add (i * 4 + j) = ⟨g, i * 4 + j, none⟩ := fun j _ => by unfold Addr.add; split <;> simp_all
    have k : ∀ j u, j < 4 → (vaC x)[j]? = some u → W.cell? ⟨g, i * 4 + j, none⟩ = some u := fun j u hj hu => by
      rw [← hz j hj]
      exact hc _ _ ((vaCs_get l i x hx j hj).trans hu)
    rw [Nat.zero_add]
    exact ⟨k 0 _ (by omega) rfl, k 1 _ (by omega) rfl, k 2 _ (by omega) rfl, k 3 _ (by omega) rfl⟩
/-- between two rounds: l's box at w.heap.size + 1 -/
def VInv (w : World) (N : Nat) (pre : List Va) (W : World) : Prop :=
  (∃ v, Boxed W (w.heap.size + 1) 31 v ∧ W.ownsRow (w.heap.size + 1 + 1) 36 4 v pre.length (vaCs pre)) ∧ Below w.heap.size w W ∧ N ≤ W.heap.size
/-- the loop's variable, boxed -/
def VarX (P D : Value) (d : Int) (q B N : Nat) (x : Va) (a : Act) (W : World) : Prop :=
  ∃ X, N ≤ X ∧ W.heap[X]? = some (.cells #[.string x.name, .int .i64 x.sort, .int .i64 x.type, .int .i64 x.index] 36 (0, 0)) ∧
    a = { tmps := #[P, .int .i64 d, .pointer (some ⟨q, 0, none⟩), undef, .slice none 0 0, .pointer (some ⟨q + 1, 0, none⟩), .pointer (some ⟨X, 0, none⟩), P, .int .i64 d, D, .func (.func 63) #[] #[.pointer (some ⟨B, 0, none⟩)], VarV x.name x.sort x.type x.index, undef, undef, undef, undef, undef, undef], defers := [] }
theorem varX_own (P D : Value) (d : Int) (q B N : Nat) (x : Va) (a : Act) : OwnFrom N (fun (_ : Unit) W => VarX P D d q B N x a W) := by
  rintro s X Y row ⟨B, hB, h, ha⟩ hg hrow
  exact ⟨B, hB, (hg.block _ (lt_of_heap h) (fun e => by obtain ⟨_, o, ho, hc⟩ := hrow B e.symm; rw [h] at ho; cases ho; cases hc)).trans h, ha⟩
theorem vinv_own (w : World) (N : Nat) (hN : w.heap.size + 1 < N) : OwnFrom N (VInv w N) := by
  rintro s X Y row ⟨⟨v, hv, hr⟩, h5, h6⟩ hg hrow
  have hne : ∀ b, b < N → some b ≠ row := fun b hb e => by have := (hrow b e.symm).1; omega
  exact ⟨⟨v, hv.kept hg (hne _ hN), row_kept hr hg hrow⟩, h5.grown hg h5.size (fun k e => by have := (hrow k e).1; omega), Nat.le_trans h6 hg.size⟩
theorem keep_below {B : Nat} {W Y : World} (h : Below W.heap.size W Y) : KeepsFrom B W Y := ⟨h.size, fun k _ _ hk _ => (h.block k (lt_of_heap hk)).trans hk⟩
theorem keepM_below {M : Nat → Prop} {L N : Nat} {W Y : World} (h : Below W.heap.size W Y) (hL : L < W.heap.size) : KeepM M (rowOf L) N W Y :=
  ⟨h.size, fun k hk _ _ _ => h.block k hk, fun k hk => .inl (by rw [← rowOf_same (h.block L hL)]; exact hk)⟩
theorem va_round {w W W8 W9 : World} {B N : Nat} {v v' : Value} {l : List Va} {x : Va} (hB : w.heap.size + 1 < B) (h1 : Boxed W (w.heap.size + 1) 31 v) (h2 : W.ownsRow (w.heap.size + 1 + 1) 36 4 v l.length (vaCs l)) (h7 : Below w.heap.size w W) (hN : B ≤ W.heap.size)
    (h8 : Below W.heap.size W W8) (hown : W9.ownsRow (w.heap.size + 1 + 1) 36 4 v' (l.length + 1) (vaCs l ++ vaC x)) (hgrow : W8.grownBy W9 v.ownBlock) (hat : v'.ownBlock = v.ownBlock ∨ v'.ownBlock = some W8.heap.size) :
    KeepsFrom B W (W9.setCell ⟨w.heap.size + 1, 0, none⟩ v') ∧ KeepM (fun k => k = w.heap.size + 1) (rowOf (w.heap.size + 1)) N W (W9.setCell ⟨w.heap.size + 1, 0, none⟩ v') ∧ VInv w B (l ++ [x]) (W9.setCell ⟨w.heap.size + 1, 0, none⟩ v') := by
  obtain ⟨L, hL⟩ : ∃ L, L = w.heap.size + 1 := ⟨_, rfl⟩
  unfold VInv
  rw [← hL] at hB h1 h2 hown ⊢
  have hLW := lt_of_heap h1
  have g10 := grownBy_setCell' W9 L v'
  have z10 : W.heap.size ≤ (W9.setCell ⟨L, 0, none⟩ v').heap.size := Nat.le_trans h8.size (Nat.le_trans hgrow.size g10.size)
  have hvb : ∀ g, v.ownBlock = some g → L + 1 ≤ g ∧ ∃ cur : Array Value, W.heap[g]? = some (.cells cur 36 (0, 0)) := fun g hg => own_lt h2 hg
  have keep : ∀ k, k < W.heap.size → k ≠ L → v.ownBlock ≠ some k → (W9.setCell ⟨L, 0, none⟩ v').heap[k]? = W.heap[k]? := fun k hk hl hr =>
    (g10.block k (Nat.lt_of_lt_of_le (Nat.lt_of_lt_of_le hk h8.size) hgrow.size) (fun e => hl (Option.some.inj e))).trans ((hgrow.block k (Nat.lt_of_lt_of_le hk h8.size) (fun e => hr e.symm)).trans (h8.block k hk))
  have b9 : Boxed W9 L 31 v := (hgrow.block L (Nat.lt_of_lt_of_le hLW h8.size) (fun e => by have := (hvb L e.symm).1; omega)).trans ((h8.block L hLW).trans h1)
  have b10 : Boxed (W9.setCell ⟨L, 0, none⟩ v') L 31 v' := b9.set v'
  refine ⟨⟨z10, fun k o hk hh ho => ?_⟩, ⟨z10, fun k hk hM hr _ => keep k hk hM (by rw [rowOf_box h1] at hr; exact hr), fun k hk => ?_⟩, ⟨v', b10, ?_⟩, ?_, Nat.le_trans hN z10⟩
  · refine (keep k (lt_of_heap hh) (by omega) fun e => ?_).trans hh
    obtain ⟨_, cur, hc⟩ := hvb k e
    rw [hh] at hc
    cases hc
    cases ho
  · rw [rowOf_box b10] at hk
    rcases hat with h | h
    · left; rw [rowOf_box h1, ← h]; exact hk
    · right
      rw [hk] at h
      have := Option.some.inj h
      have h8s := h8.size
      refine ⟨by omega, ?_⟩
      obtain ⟨_, cur, hc⟩ := own_lt hown hk
      exact Nat.lt_of_lt_of_le (lt_of_heap hc) g10.size
  · have h10 := own_same (Y := W9.setCell ⟨L, 0, none⟩ v') hown fun g hg => by
      obtain ⟨hg1, cur, hc⟩ := own_lt hown hg
      exact set_other W9 L g 0 v' (by omega)
    rw [vaCs_snoc, List.length_append]
    exact h10
  · have c3 := h7.trans (h8.mono h7.size)
    have c4 := c3.grown hgrow c3.size (fun k e => by have := (hvb _ e).1; omega)
    exact c4.grown g10 c4.size (fun k e => by have := Option.some.inj e; omega)
theorem wpOpIn_one {F : Fence} {n : Nat} {P : Program} {ops : Array Oper} {Q : Exit → Act → World → Prop} {i : Nat} {o : Oper} {K : Act → World → Prop} {a : Act} {w : World} (h0 : ops[i]? = some o)
    (h : ∀ Q2 : Exit → Act → World → Prop, (∀ a w, K a w → Q2 .normal a w) → wpListIn F n P ops Q2 [o] a w) : wpOpIn F n P ops Q i K a w := by
  have h1 := h (fun e a w => match e with | .normal => K a w | e => Q e a w) (fun _ _ h => h)
  unfold wpOpIn
  simp only [h0]
  have h2 : if Region.wanted o (yielded ops a.tmps) then o.wpIn F n P a w K (fun e a w => match e with | .normal => K a w | e => Q e a w) else (∀ f, o.about P w a.eval = some f → F.fn f) ∧ K (a.put o.dst undef) w := h1
  split
  · rename_i hw
    rw [if_pos hw] at h2
    refine ⟨h2.1, ?_⟩
    have h3 := h2.2
    revert h3
    generalize (o.semAt F.round a.eval).run P w = r
    intro h3
    match r, h3 with
    | .ok (.value _) _, h3 => exact h3
    | .ok .skip _, h3 => exact h3
    | .ok (.defer _) _, h3 => exact h3
    | .ok (.enter _ _) _, h3 =>
      refine ⟨h3.1, h3.2.mono fun e w' he => ?_⟩
      match e, he with
      | .returned _, he => exact he
      | .panicked _, he => exact he
      | .outgrown, he => exact he
    | .ok (.row _ _) _, h3 => exact h3
    | .ok (.round _ _ _ _ _) _, h3 =>
      refine ⟨h3.1, h3.2.mono fun e w' he => ?_⟩
      match e, he with
      | .returned _, he => exact he
      | .panicked _, he => exact he
      | .outgrown, he => exact he
    | .halt (.panic _) _, h3 => exact h3
  · rename_i hw
    rw [if_neg hw] at h2
    exact h2
theorem any_of_seq {n : Nat} {P : Program} {md : Region.Mode} {ops : Array Oper} {Q : Exit → Act → World → Prop} {lp : Nat} {listed : Array Bool} {a : Act} {w : World} (k : Nat) {f : Nat} (hf : (ops.toList.drop k).length = f) (hB : Region.seqB md ops f k listed = true)
    (h : wpListIn (Fence.wide.inRound lp) n P ops Q (ops.toList.drop k) a w) : wpAnyIn (Fence.wide.inRound lp) n P md ops Q f listed a w := by
  subst hf
  exact wpAnyIn_of_seq _ k _ _ _ (fun j => by simp [List.getElem?_drop]) hB h
theorem cell_four_new (W : World) (a b c d : Value) (T : TypeId) (j : Nat) (u : Value) (h : [a, b, c, d][j]? = some u) : (W.alloc (.cells #[a, b, c, d] T)).cell? ((⟨W.heap.size, 0, none⟩ : Addr).add j) = some u := by
  have e : (⟨W.heap.size, 0, none⟩ : Addr).add j = ⟨W.heap.size, j, none⟩ := by unfold Addr.add; split <;> simp_all
  rw [e, World.cell?_alloc_new, ← h, ← Array.getElem?_toList]
theorem va_name {D : De} {W : World} {v : Value} (h : DeVal W v D) : ∀ x ∈ varsN D, x.name.size ≤ 281474976710656 := by
  obtain ⟨s, t, _, h1, h2, _⟩ := h
  intro x hx
  unfold varsN at hx
  rcases List.mem_append.1 hx with hx | hx
  · unfold varsP at hx
    obtain ⟨⟨y, i⟩, hy, rfl⟩ := List.mem_map.1 hx
    obtain ⟨_, _, _, _, _, _, _, _, hp⟩ := h1
    have hyi := List.mk_mem_zipIdx_iff_getElem?.1 hy
    obtain ⟨_, _, h3, _⟩ := hp i (List.getElem?_eq_some_iff.1 hyi).1 y hyi
    unfold reachN at h3
    show y.name.size ≤ _
    omega
  · unfold varsI at hx
    obtain ⟨⟨y, i⟩, hy, hf⟩ := List.mem_filterMap.1 hx
    dsimp only at hf
    split at hf
    · cases hf
    · cases hf
      obtain ⟨_, _, _, _, _, _, _, _, hp⟩ := h2
      have hyi := List.mk_mem_zipIdx_iff_getElem?.1 hy
      obtain ⟨os, caps, iok, _⟩ := it_cells (hp i (List.getElem?_eq_some_iff.1 hyi).1 y hyi)
      have h3 := iok.name
      unfold reachN at h3
      show y.name.size ≤ _
      omega
theorem declN_small {p : Pr} {d : Int} (hs : Small p) : (declN p d).params.length ≤ 600 ∧ (declN p d).items.length ≤ 600 := by
  unfold declN
  split
  · cases h : p.decls[d.toNat]? with
    | none => exact ⟨Nat.zero_le _, Nat.zero_le _⟩
    | some x =>
      obtain ⟨h1, h2, _⟩ := hs.de x (List.mem_of_getElem? h)
      unfold wDe at h1
      exact ⟨show x.params.length ≤ 600 by omega, h2⟩
  · exact ⟨Nat.zero_le _, Nat.zero_le _⟩
theorem varsN_len (D : De) (h : D.params.length ≤ 600 ∧ D.items.length ≤ 600) : (varsN D).length ≤ 1200 := by
  unfold varsN
  have := varsP_len D.params
  have := varsI_len D.items
  rw [List.length_append]
  omega
set_option maxHeartbeats 8000000 in
set_option maxRecDepth 100000 in
theorem varsAll_core (o1 o2 : Option Addr) (n1 c1 n2 c2 : Nat) (p : Pr) (d : Int) (w : World) (hp : Hid (ProgAt w (.slice o1 n1 c1) (.slice o2 n2 c2) p)) (hs : Hid (Small p)) :
    CallsIn Fence.wide 5 Tryz.prog 17 #[.agg #[.slice o1 n1 c1, .slice o2 n2 c2], .int .i64 d] w fun r w' => ∃ v, r = .returned v ∧ w'.ownsRow (w.heap.size + 1 + 1) 36 4 v (varsN (declN p d)).length (vaCs (varsN (declN p d))) ∧ Below w.heap.size w w' := by
  have hb0 := Lib.hid ((below_al (Below.refl w.heap.size w) (.cells #[.slice o1 n1 c1, .slice o2 n2 c2] 25)).alloc (by simp) (.cells #[.slice none 0 0] 31))
  have DC := Lib.hid (declOf_any _ _ p d w _ hb0 hp.out hs.out)
  have bL0 : Hid (((w.alloc (.cells #[.slice o1 n1 c1, .slice o2 n2 c2] 25)).alloc (.cells #[.slice none 0 0] 31)).heap[w.heap.size + 1]? = some (.cells #[.slice none 0 0] 31 (0, 0))) := Lib.hid (al_new (by simp))
  have hsm := Lib.hid (declN_small (d := d) hs.out)
  obtain ⟨D, hD⟩ : ∃ D, D = declN p d := ⟨_, rfl⟩
  rw [← hD] at DC hsm ⊢
  clear hD
  refine callsIn_of_wp_marks Tryz.func17 rfl trivial ?_ rfl
  simp only [Tryz.ntmps17, List.size_toArray, List.length_cons, List.length_nil, Nat.reduceAdd, Nat.reduceSub, Array.replicate_succ, Array.replicate_zero, List.push_toArray, List.append_toArray, List.nil_append, List.cons_append]
  gi_wp2_with (first
    | (refine ⟨trivial, ?_⟩; gi_at_call 34; ((with_reducible refine (callsIn_wide.2 DC.out).mono ?_); rintro r w1 ⟨v1, rfl, hv1, hb1⟩; have HV := Lib.hid hv1; obtain ⟨s1, t1, rfl, hs1, ht1, hk1⟩ := hv1; have HS1 := Lib.hid hs1; have HT1 := Lib.hid ht1; obtain ⟨ps, qs, bs, fs, rfl, _⟩ := hs1; obtain ⟨pt, qt, bt, ft, rfl, _⟩ := ht1; have HB1 := Lib.hid (hb0.out.trans (hb1.mono hb0.out.size)); have BL1 := Lib.hid ((hb1.block _ (lt_of_heap bL0.out)).trans bL0.out); clear hk1 hb1))
    | (refine ⟨trivial, ?_⟩; gi_at_call 33; ((with_reducible refine (callsIn_wide.2 (vars_any _ _ _ _ _ _ _ _ ⟨_, _, _, _, _, _, _, _, _, _, _, rfl, rfl, rfl, rfl, rfl, rfl, rfl⟩)).mono ?_); rintro r w2 ⟨rfl, rfl⟩)))
  have hz1 : Hid (w.heap.size + 1 < w1.heap.size) := Lib.hid (lt_of_heap BL1.out)
  obtain ⟨W3, hW3⟩ : ∃ W3, W3 = w1.alloc (.cells #[.int .i64 D.kind, .string D.name, .slice ps D.params.length qs, .slice pt D.items.length qt, .int .i64 D.type, .int .i64 D.e, .int .i64 D.pos] 44) := ⟨_, rfl⟩
  have hB3 : Hid (W3.heap[w1.heap.size]? = some (.cells #[.int .i64 D.kind, .string D.name, .slice ps D.params.length qs, .slice pt D.items.length qt, .int .i64 D.type, .int .i64 D.e, .int .i64 D.pos] 44 (0, 0))) := Lib.hid (by rw [hW3]; exact al_new rfl)
  have hbw3 : Hid (Below w1.heap.size w1 W3) := Lib.hid (by rw [hW3]; exact below_al (Below.refl _ _) _)
  have hB03 := Lib.hid (HB1.out.trans (hbw3.out.mono HB1.out.size))
  have hz3 : Hid (w.heap.size + 1 < W3.heap.size) := Lib.hid (Nat.lt_of_lt_of_le hz1.out hbw3.out.size)
  have hL3 : Hid (W3.heap[w.heap.size + 1]? = some (.cells #[.slice none 0 0] 31 (0, 0))) := Lib.hid ((hbw3.out.block _ hz1.out).trans BL1.out)
  have hrow : Hid (rowOf (w.heap.size + 1) W3 = none) := Lib.hid (rowOf_box hL3.out)
  have hlen := Lib.hid (varsN_len D hsm.out)
  rw [← hW3]
  clear hW3
  refine wpIn_rangeFunc_ownH (α := {v : Va // v ∈ varsN D}) rfl (by decide) (gf := 63) (lb := #[.pointer (some ⟨w1.heap.size, 0, none⟩)]) rfl trivial (enters_of Tryz.func63 (by kernel_rfl) rfl)
    (vars_stops 4 D w1.heap.size (fun k => k = w.heap.size + 1) (rowOf (w.heap.size + 1)) W3 ⟨fun k hk => by have := hz3.out; omega, fun k hk => (by rw [hrow.out] at hk; cases hk), fun X Y h => rowOf_same (h _ hz3.out)⟩
      (deSrc_of (w := w) HS1.out HT1.out hB03.out hB3.out (fun k hk => by have := hz1.out; omega) (fun k hk => by rw [hrow.out] at hk; cases hk)) (by have := hsm.out; omega) (by have := hsm.out; omega))
    (fun h k => h.trans k) (fun W l o o' h1 h2 h3 _ => keepM_putObj hz3.out W l o o' h1 h2 h3) (Below.refl _ _) (fun _ => rfl)
    (fun pre W => VInv w W3.heap.size (pre.map (·.1)) W) (fun _ _ _ => False) (fun s X Y row k1 k2 k3 => vinv_own w _ hz3.out (s.map (·.1)) X Y row k1 k2 k3) (fun _ _ _ _ _ hs _ _ => hs) ⟨⟨_, hL3.out, World.ownsRow_nil _ _ _ _⟩, hB03.out, Nat.le_refl _⟩
    (fun x => VarX (.agg #[.slice o1 n1 c1, .slice o2 n2 c2]) (.agg #[.int .i64 D.kind, .string D.name, .slice ps D.params.length qs, .slice pt D.items.length qt, .int .i64 D.type, .int .i64 D.e, .int .i64 D.pos]) d w.heap.size w1.heap.size W3.heap.size x.1) (fun x a => varX_own _ _ _ _ _ _ _ _) ?assign ?body ?done ?stop
  case assign =>
    rintro lp pre ⟨⟨nm, so, ty, ix⟩, hx⟩ W K hi hK
    dsimp only [vaE, VarV]
    gi_wp2
    have hBW : w.heap.size + 1 < W.heap.size := Nat.lt_of_lt_of_le hz3.out hi.2.2
    exact hK _ _ ((KeepsOthers.alloc _ _).from _) (keepM_below (below_al (Below.refl _ _) _) hBW) ((vinv_own w _ hz3.out).alloc _ hi) ⟨W.heap.size, hi.2.2, World.alloc_heap_new W _, rfl⟩
  case body =>
    rintro lp pre ⟨⟨nm, so, ty, ix⟩, hx⟩ a' W hlp hrec ⟨⟨v, hv, hrw⟩, hB, hN⟩ ⟨X, hX, hXh, rfl⟩ hlt
    have hxn : nm.size ≤ 281474976710656 := va_name HV.out _ hx
    have hpl : pre.length ≤ 1200 := by have := hlen.out; have h : pre.length < (varsN D).length := hlt; omega
    have HVB := Lib.hid hv
    rw [List.length_map] at hrw
    have HRW := Lib.hid hrw
    have HBW := Lib.hid hB
    have HN := Lib.hid hN
    have HXH := Lib.hid hXh
    clear hv hrw hB hN hXh hrec hlt
    dsimp only
    gi_wp2_with (fail)
    refine wpIn_region_any (by kernel_rfl) ?_
    obtain ⟨Wd, hWd⟩ : ∃ Wd : World, Wd = { W with drawn := W.drawn + 1 } := ⟨_, rfl⟩
    rw [← hWd]
    have bd := Lib.hid (show Below W.heap.size W Wd by rw [hWd]; exact ⟨rfl, rfl, rfl, Nat.le_refl _, fun _ _ => rfl⟩)
    have cl : Wd.cell? ⟨w.heap.size + 1, 0, none⟩ = some v := cell_on bd.out HVB.out.cell
    obtain ⟨⟨y0, y1, y2, y3⟩, y4, y5, y6, y7⟩ := cells_four ((bd.out.block _ (lt_of_heap HXH.out)).trans HXH.out)
    obtain ⟨ii, si2, si3, si4, si5⟩ := info_parts var_info
    have ROWAT : Hid (∀ Y, Below Wd.heap.size Wd Y → Y.ownsRow (w.heap.size + 1 + 1) 36 4 v pre.length (vaCs (pre.map (·.1)))) := Lib.hid (fun Y hY => own_same HRW.out fun g hg => by
      obtain ⟨_, cur, hcur⟩ := own_lt HRW.out hg
      exact (bd.out.trans (hY.mono bd.out.size)).block g (lt_of_heap hcur))
    have ZAT : Hid (∀ Y, Below Wd.heap.size Wd Y → w.heap.size + 1 + 1 ≤ Y.heap.size) := Lib.hid fun Y hY => by have := (bd.out.trans (hY.mono bd.out.size)).size; have := HN.out; have := hz3.out; omega
    have FZ : Hid (∀ Y Z : World, Below Wd.heap.size Wd Y → Y.grownBy Z v.ownBlock → Boxed Z (w.heap.size + 1) 31 v) := Lib.hid fun Y Z hY hZ => by
      have h1 : Boxed Y (w.heap.size + 1) 31 v := ((bd.out.trans (hY.mono bd.out.size)).block _ (lt_of_heap HVB.out)).trans HVB.out
      exact h1.kept hZ fun e => by have := (own_lt HRW.out e.symm).1; omega
    have FIN : Hid (∀ (Y Z : World) (v' : Value), Below Wd.heap.size Wd Y → Z.ownsRow (w.heap.size + 1 + 1) 36 4 v' (pre.length + 1) (vaCs (pre.map (·.1)) ++ vaC ⟨nm, so, ty, ix⟩) → Y.grownBy Z v.ownBlock → (v'.ownBlock = v.ownBlock ∨ v'.ownBlock = some Y.heap.size) →
        KeepsFrom W3.heap.size W (Z.setCell ⟨w.heap.size + 1, 0, none⟩ v') ∧ KeepM (fun k => k = w.heap.size + 1) (rowOf (w.heap.size + 1)) W3.heap.size W (Z.setCell ⟨w.heap.size + 1, 0, none⟩ v') ∧ VInv w W3.heap.size ((pre ++ [(⟨⟨nm, so, ty, ix⟩, hx⟩ : {v : Va // v ∈ varsN D})]).map (·.1)) (Z.setCell ⟨w.heap.size + 1, 0, none⟩ v')) := Lib.hid fun Y Z v' hY hZ hg ha => by
      rw [List.map_append]
      exact va_round hz3.out HVB.out (by rw [List.length_map]; exact HRW.out) HBW.out HN.out (bd.out.trans (hY.mono bd.out.size)) (by rw [List.length_map]; exact hZ) hg ha
    clear hWd
    refine wpAnyIn_all (rs := [0, 1]) (fuel := 5) (by kernel_rfl) (by simp) fun i hi => ?_
    rcases List.mem_cons.1 hi with rfl | hi
    · refine wpOpIn_one rfl fun Q2 hQ2 => ?_
      gi_wp2_with (fail)
      refine any_of_seq 1 (by rfl) (by kernel_rfl) ?_
      simp only [List.drop_succ_cons, List.drop_zero]
      gi_wp2_with (first | (refine ⟨trivial, ?_⟩; gi_at_call 35; refine (CallsIn.inRound lp (callsIn_wide.2 (own_any nm so ty ix _ hxn))).mono ?_; rintro e7 W7 ⟨rfl, hb7⟩; have c7 := cell_on hb7 cl; have c8 : (W7.alloc (.cells #[.string nm, .int .i64 so, .int .i64 ty, .int .i64 ix] 36)).cell? ⟨w.heap.size + 1, 0, none⟩ = some v := cell_on (below_al (Below.refl W7.heap.size W7) _) c7) | (gi_at_builtin; refine wpListIn_append_own_at _ rfl _ _ 31 rfl (w.heap.size + 1 + 1) 36 ii (.agg #[.string ByteArray.empty, .int .i64 0, .int .i64 0, .int .i64 0]) 4 40 Tryz.underlying31 si2 si3 si4 si5 rfl (by decide) v pre.length _ rfl (ROWAT.out _ (hb7.alloc (Nat.le_trans (Nat.le_refl _) hb7.size) _)) ⟨W7.heap.size, 0, none⟩ 1 1 [.string nm, .int .i64 so, .int .i64 ty, .int .i64 ix] rfl rfl (cell_four_new _ _ _ _ _ _) (by simp [Value.oneCell']) (by unfold maxLen; omega) (by omega) (ZAT.out _ (hb7.alloc (Nat.le_trans (Nat.le_refl _) hb7.size) _)) ?_; intro v' W9 hown hgrow hnil hat; obtain ⟨g', cap', rfl⟩ := ownsRow_succ hown; have hc9 := (FZ.out _ _ (hb7.alloc (Nat.le_trans (Nat.le_refl _) hb7.size) _) hgrow).cell; have hf9 := (FZ.out _ _ (hb7.alloc (Nat.le_trans (Nat.le_refl _) hb7.size) _) hgrow).frozen; have HOWN := Lib.hid hown; have HGROW := Lib.hid hgrow; have HAT := Lib.hid hat; have HB7 := Lib.hid hb7; clear hown hgrow hnil hat hb7))
      exact FIN.out _ _ _ (HB7.out.alloc (Nat.le_trans (Nat.le_refl _) HB7.out.size) _) HOWN.out HGROW.out HAT.out
    obtain rfl := List.mem_singleton.1 hi
    clear hi
    refine wpOpIn_one rfl fun Q2 hQ2 => ?_
    gi_wp2_with (fail)
    refine wpAnyIn_all (rs := [0, 2]) (fuel := 4) (by kernel_rfl) (by simp) fun i hi => ?_
    rcases List.mem_cons.1 hi with rfl | hi
    · refine wpOpIn_one rfl fun Q2 hQ2 => ?_
      gi_wp2_with (fail)
      refine any_of_seq 2 (by rfl) (by kernel_rfl) ?_
      simp only [List.drop_succ_cons, List.drop_zero]
      gi_wp2_with (first | (refine ⟨trivial, ?_⟩; gi_at_call 35; refine (CallsIn.inRound lp (callsIn_wide.2 (own_any nm so ty ix _ hxn))).mono ?_; rintro e7 W7 ⟨rfl, hb7⟩; have c7 := cell_on hb7 cl; have c8 : (W7.alloc (.cells #[.string nm, .int .i64 so, .int .i64 ty, .int .i64 ix] 36)).cell? ⟨w.heap.size + 1, 0, none⟩ = some v := cell_on (below_al (Below.refl W7.heap.size W7) _) c7) | (gi_at_builtin; refine wpListIn_append_own_at _ rfl _ _ 31 rfl (w.heap.size + 1 + 1) 36 ii (.agg #[.string ByteArray.empty, .int .i64 0, .int .i64 0, .int .i64 0]) 4 40 Tryz.underlying31 si2 si3 si4 si5 rfl (by decide) v pre.length _ rfl (ROWAT.out _ (hb7.alloc (Nat.le_trans (Nat.le_refl _) hb7.size) _)) ⟨W7.heap.size, 0, none⟩ 1 1 [.string nm, .int .i64 so, .int .i64 ty, .int .i64 ix] rfl rfl (cell_four_new _ _ _ _ _ _) (by simp [Value.oneCell']) (by unfold maxLen; omega) (by omega) (ZAT.out _ (hb7.alloc (Nat.le_trans (Nat.le_refl _) hb7.size) _)) ?_; intro v' W9 hown hgrow hnil hat; obtain ⟨g', cap', rfl⟩ := ownsRow_succ hown; have hc9 := (FZ.out _ _ (hb7.alloc (Nat.le_trans (Nat.le_refl _) hb7.size) _) hgrow).cell; have hf9 := (FZ.out _ _ (hb7.alloc (Nat.le_trans (Nat.le_refl _) hb7.size) _) hgrow).frozen; have HOWN := Lib.hid hown; have HGROW := Lib.hid hgrow; have HAT := Lib.hid hat; have HB7 := Lib.hid hb7; clear hown hgrow hnil hat hb7))
      exact FIN.out _ _ _ (HB7.out.alloc (Nat.le_trans (Nat.le_refl _) HB7.out.size) _) HOWN.out HGROW.out HAT.out
    obtain rfl := List.mem_singleton.1 hi
    clear hi
    refine wpOpIn_one rfl fun Q2 hQ2 => ?_
    gi_wp2_with (refine ⟨trivial, ?_⟩; gi_at_call 35; refine (CallsIn.inRound lp (callsIn_wide.2 (own_any nm so ty ix _ hxn))).mono ?_; rintro e7 W7 ⟨rfl, hb7⟩; have c7 := cell_on hb7 cl; have c8 : (W7.alloc (.cells #[.string nm, .int .i64 so, .int .i64 ty, .int .i64 ix] 36)).cell? ⟨w.heap.size + 1, 0, none⟩ = some v := cell_on (below_al (Below.refl W7.heap.size W7) _) c7)
    refine wpAnyIn_all (rs := [0, 3]) (fuel := 3) (by kernel_rfl) (by simp) fun i hi => ?_
    rcases List.mem_cons.1 hi with rfl | hi
    · refine wpOpIn_one rfl fun Q2 hQ2 => ?_
      gi_wp2_with (fail)
      refine any_of_seq 3 (by rfl) (by kernel_rfl) ?_
      simp only [List.drop_succ_cons, List.drop_zero]
      gi_wp2_with (first | (refine ⟨trivial, ?_⟩; gi_at_call 35; refine (CallsIn.inRound lp (callsIn_wide.2 (own_any nm so ty ix _ hxn))).mono ?_; rintro e7 W7 ⟨rfl, hb7⟩; have c7 := cell_on hb7 cl; have c8 : (W7.alloc (.cells #[.string nm, .int .i64 so, .int .i64 ty, .int .i64 ix] 36)).cell? ⟨w.heap.size + 1, 0, none⟩ = some v := cell_on (below_al (Below.refl W7.heap.size W7) _) c7) | (gi_at_builtin; refine wpListIn_append_own_at _ rfl _ _ 31 rfl (w.heap.size + 1 + 1) 36 ii (.agg #[.string ByteArray.empty, .int .i64 0, .int .i64 0, .int .i64 0]) 4 40 Tryz.underlying31 si2 si3 si4 si5 rfl (by decide) v pre.length _ rfl (ROWAT.out _ (hb7.alloc (Nat.le_trans (Nat.le_refl _) hb7.size) _)) ⟨W7.heap.size, 0, none⟩ 1 1 [.string nm, .int .i64 so, .int .i64 ty, .int .i64 ix] rfl rfl (cell_four_new _ _ _ _ _ _) (by simp [Value.oneCell']) (by unfold maxLen; omega) (by omega) (ZAT.out _ (hb7.alloc (Nat.le_trans (Nat.le_refl _) hb7.size) _)) ?_; intro v' W9 hown hgrow hnil hat; obtain ⟨g', cap', rfl⟩ := ownsRow_succ hown; have hc9 := (FZ.out _ _ (hb7.alloc (Nat.le_trans (Nat.le_refl _) hb7.size) _) hgrow).cell; have hf9 := (FZ.out _ _ (hb7.alloc (Nat.le_trans (Nat.le_refl _) hb7.size) _) hgrow).frozen; have HOWN := Lib.hid hown; have HGROW := Lib.hid hgrow; have HAT := Lib.hid hat; have HB7 := Lib.hid hb7; clear hown hgrow hnil hat hb7))
      exact FIN.out _ _ _ (HB7.out.alloc (Nat.le_trans (Nat.le_refl _) HB7.out.size) _) HOWN.out HGROW.out HAT.out
    obtain rfl := List.mem_singleton.1 hi
    clear hi
    refine wpOpIn_one rfl fun Q2 hQ2 => ?_
    gi_wp2_with (fail)
    refine wpAnyIn_all (rs := [0]) (fuel := 2) (by kernel_rfl) (by simp) fun i hi => ?_
    obtain rfl := List.mem_singleton.1 hi
    refine wpOpIn_one rfl fun Q2 hQ2 => ?_
    gi_wp2_with (fail)
    refine any_of_seq 4 (by rfl) (by kernel_rfl) ?_
    simp only [List.drop_succ_cons, List.drop_zero]
    gi_wp2_with (first | (refine ⟨trivial, ?_⟩; gi_at_call 35; refine (CallsIn.inRound lp (callsIn_wide.2 (own_any nm so ty ix _ hxn))).mono ?_; rintro e7 W7 ⟨rfl, hb7⟩; have c7 := cell_on hb7 cl; have c8 : (W7.alloc (.cells #[.string nm, .int .i64 so, .int .i64 ty, .int .i64 ix] 36)).cell? ⟨w.heap.size + 1, 0, none⟩ = some v := cell_on (below_al (Below.refl W7.heap.size W7) _) c7) | (gi_at_builtin; refine wpListIn_append_own_at _ rfl _ _ 31 rfl (w.heap.size + 1 + 1) 36 ii (.agg #[.string ByteArray.empty, .int .i64 0, .int .i64 0, .int .i64 0]) 4 40 Tryz.underlying31 si2 si3 si4 si5 rfl (by decide) v pre.length _ rfl (ROWAT.out _ (hb7.alloc (Nat.le_trans (Nat.le_refl _) hb7.size) _)) ⟨W7.heap.size, 0, none⟩ 1 1 [.string nm, .int .i64 so, .int .i64 ty, .int .i64 ix] rfl rfl (cell_four_new _ _ _ _ _ _) (by simp [Value.oneCell']) (by unfold maxLen; omega) (by omega) (ZAT.out _ (hb7.alloc (Nat.le_trans (Nat.le_refl _) hb7.size) _)) ?_; intro v' W9 hown hgrow hnil hat; obtain ⟨g', cap', rfl⟩ := ownsRow_succ hown; have hc9 := (FZ.out _ _ (hb7.alloc (Nat.le_trans (Nat.le_refl _) hb7.size) _) hgrow).cell; have hf9 := (FZ.out _ _ (hb7.alloc (Nat.le_trans (Nat.le_refl _) hb7.size) _) hgrow).frozen; have HOWN := Lib.hid hown; have HGROW := Lib.hid hgrow; have HAT := Lib.hid hat; have HB7 := Lib.hid hb7; clear hown hgrow hnil hat hb7))
    exact FIN.out _ _ _ (HB7.out.alloc (Nat.le_trans (Nat.le_refl _) HB7.out.size) _) HOWN.out HGROW.out HAT.out
  case done =>
    rintro E ys W hE hys ⟨⟨v, hv, hrw⟩, hB, hN⟩ hmark
    have y0 := hv.cell
    have HRW := Lib.hid hrw
    have HBW := Lib.hid hB
    have HK := Lib.hid hmark
    have HE := Lib.hid hE
    have HYS := Lib.hid hys
    clear hv hrw hB hN hmark hE hys
    dsimp only
    gi_wp2
    refine ⟨by simp, .inl ⟨_, _, rfl, run_takeDeferred HK.out, ?_⟩⟩
    refine ⟨_, results_tmp (t := 4) (by kernel_rfl) _ _ _, v, rfl, ?_, ?_⟩
    · rw [← HYS.out]
      exact own_same (Y := W.putObj E (.deferred none)) HRW.out fun g hg => World.putObj_heap_other fun h => by
        obtain ⟨_, cur, hc⟩ := own_lt HRW.out hg
        rw [h, HK.out] at hc; cases hc
    · exact HBW.out.grown (grownBy_putObj' W E _) HBW.out.size (fun k e => by cases e; have := HE.out; have := hz3.out; omega)
  case stop =>
    rintro E c pre W _ _ h _
    exact h.elim
theorem varsAll_any (sd se : Value) (p : Pr) (d : Int) (w : World) (h : ProgAt w sd se p) (hs : Small p) :
    Calls Tryz.prog 17 #[.agg #[sd, se], .int .i64 d] w fun r Y => ∃ v, r = .returned v ∧ VasAt Y v (varsN (declN p d)) ∧ Below w.heap.size w Y := by
  obtain ⟨⟨o1, dcap, db, doff, rfl, hd1, hd2, hd3, hd4⟩, ⟨o2, cap, b, off, rfl, he1, he2, he3, he4⟩, h3, h4⟩ := id h
  exact (callsIn_wide.1 (varsAll_core o1 o2 _ dcap _ cap p d w (Lib.hid h) (Lib.hid hs))).mono fun r Y ⟨v, h1, h2, h3⟩ => ⟨v, h1, vasAt_own h2, h3⟩
end
section
open Go.RowKit Lx Go.Shelf

attribute [local go_sem] Oper.semAt_some

def noVa : Va := ⟨⟨#[]⟩, 0, 0, 0⟩
def vaB (x : Va) : Array Value := #[.string x.name, .int .i64 x.sort, .int .i64 x.type, .int .i64 x.index]
/-- between two rounds: the name's box, the results' -/
def FdInv (w : World) (nm : ByteArray) (N : Nat) (pre : List Va) (W : World) : Prop :=
  W.heap[w.heap.size + 1]? = some (.cells #[.string nm] 9 (0, 0)) ∧ W.heap[w.heap.size + 1 + 1]? = some (.cells (vaB noVa) 36 (0, 0)) ∧ W.heap[w.heap.size + 1 + 1 + 1]? = some (.cells #[.bool false] 4 (0, 0)) ∧
  (∀ y ∈ pre, ¬ y.name = nm) ∧ Below w.heap.size w W ∧ N ≤ W.heap.size
/-- left by a return -/
def FdLeft (w : World) (nm : ByteArray) (N : Nat) (c : Code) (pre : List Va) (W : World) : Prop :=
  c = .ret ∧ ∃ pre' x, pre = pre' ++ [x] ∧ x.name = nm ∧ (∀ y ∈ pre', ¬ y.name = nm) ∧ W.heap[w.heap.size + 1 + 1]? = some (.cells (vaB x) 36 (0, 0)) ∧ W.heap[w.heap.size + 1 + 1 + 1]? = some (.cells #[.bool true] 4 (0, 0)) ∧ Below w.heap.size w W ∧ N ≤ W.heap.size
/-- the loop's variable, boxed -/
def FdX (P D : Value) (nm : ByteArray) (d : Int) (q B N : Nat) (x : Va) (a : Act) (W : World) : Prop :=
  ∃ X, N ≤ X ∧ W.heap[X]? = some (.cells #[.string x.name, .int .i64 x.sort, .int .i64 x.type, .int .i64 x.index] 36 (0, 0)) ∧
    a = { tmps := #[P, .int .i64 d, .string nm, .pointer (some ⟨q, 0, none⟩), undef, .pointer (some ⟨q + 1, 0, none⟩), .pointer (some ⟨q + 1 + 1, 0, none⟩), .pointer (some ⟨q + 1 + 1 + 1, 0, none⟩), .pointer (some ⟨X, 0, none⟩), P, .int .i64 d, D, .func (.func 63) #[] #[.pointer (some ⟨B, 0, none⟩)], VarV x.name x.sort x.type x.index, undef, undef, undef, undef, undef, undef, undef], defers := [] }
theorem fdX_own (P D : Value) (nm : ByteArray) (d : Int) (q B N : Nat) (x : Va) (a : Act) : OwnFrom N (fun (_ : Unit) W => FdX P D nm d q B N x a W) := by
  rintro s X Y row ⟨B, hB, h, ha⟩ hg hrow
  exact ⟨B, hB, (hg.block _ (lt_of_heap h) (fun e => by obtain ⟨_, o, ho, hc⟩ := hrow B e.symm; rw [h] at ho; cases ho; cases hc)).trans h, ha⟩
theorem fdInv_own (w : World) (nm : ByteArray) (N : Nat) (hN : w.heap.size + 1 + 1 + 1 < N) : OwnFrom N (FdInv w nm N) := by
  rintro s X Y row ⟨h1, h2, h3, h4, h5, h6⟩ hg hrow
  have hne : ∀ b, b < N → some b ≠ row := fun b hb e => by have := (hrow b e.symm).1; omega
  exact ⟨(hg.block _ (lt_of_heap h1) (hne _ (by omega))).trans h1, (hg.block _ (lt_of_heap h2) (hne _ (by omega))).trans h2, (hg.block _ (lt_of_heap h3) (hne _ (by omega))).trans h3, h4, h5.grown hg h5.size (fun k e => by have := (hrow k e).1; omega), Nat.le_trans h6 hg.size⟩
theorem fdLeft_own (w : World) (nm : ByteArray) (N : Nat) (hN : w.heap.size + 1 + 1 + 1 < N) (c : Code) : OwnFrom N (FdLeft w nm N c) := by
  rintro s X Y row ⟨hc, p, x, hp, hk, hy, h2, h3, h5, h6⟩ hg hrow
  have hne : ∀ b, b < N → some b ≠ row := fun b hb e => by have := (hrow b e.symm).1; omega
  exact ⟨hc, p, x, hp, hk, hy, (hg.block _ (lt_of_heap h2) (hne _ (by omega))).trans h2, (hg.block _ (lt_of_heap h3) (hne _ (by omega))).trans h3, h5.grown hg h5.size (fun k e => by have := (hrow k e).1; omega), Nat.le_trans h6 hg.size⟩
theorem results_two {fn : Func} {t1 t2 : Tmp} {y1 y2 : TypeId} {P : Program} {w : World} {v1 v2 : Value} (h : fn.results = #[.cell t1 y1, .cell t2 y2]) (tmps : Array Value) (a1 a2 : Addr) (ha1 : tmps.getD t1 undef = .pointer (some a1)) (ha2 : tmps.getD t2 undef = .pointer (some a2)) (hl1 : (loadVar y1 a1).run P w = .ok v1 w) (hl2 : (loadVar y2 a2).run P w = .ok v2 w) : (results fn tmps).run P w = .ok (.tuple #[v1, v2]) w := by
  have ha1' : tmps[t1]?.getD undef = .pointer (some a1) := by simpa [Array.getD_eq_getD_getElem?] using ha1
  have ha2' : tmps[t2]?.getD undef = .pointer (some a2) := by simpa [Array.getD_eq_getD_getElem?] using ha2
  simp [results, h, ha1', ha2', hl1, hl2, asAddr]
theorem keepN_putObj {N : Nat} (W : World) (l : Nat) (o o' : Obj) (hl : N ≤ l) (h : W.heap[l]? = some o) (hc : o.isCells = false) : KeepM (fun _ => False) (fun _ => none) N W (W.putObj l o') := by
  have hg := grownBy_putObj' W l o'
  refine ⟨hg.size, fun k hk _ _ hh => hg.block k hk (fun e => ?_), fun k hk => by cases hk⟩
  cases e
  rcases hh with h1 | ⟨o2, h1, h2⟩
  · omega
  · rw [h] at h1; cases h1; rw [hc] at h2; cases h2
theorem keepN_below {N : Nat} {W Y : World} (h : Below W.heap.size W Y) : KeepM (fun _ => False) (fun _ => none) N W Y := ⟨h.size, fun k hk _ _ _ => h.block k hk, fun k hk => by cases hk⟩
theorem toListE (a b : ByteArray) : a.toList = b.toList ↔ a = b := ⟨fun h => by rw [ByteArray.toList_eq, ByteArray.toList_eq] at h; exact ByteArray.ext (Array.toList_inj.1 h), fun h => h ▸ rfl⟩
theorem cell_f {W : World} {B : Nat} {a : Value} {T : TypeId} (h : W.heap[B]? = some (.cells #[a] T (0, 0))) : W.cell? ⟨B, 0, none⟩ = some a ∧ W.frozen? ⟨B, 0, none⟩ = false := ⟨by simp [World.cell?, h], by simp [World.frozen?, h]⟩
theorem load_bool {V : World} {B : Nat} {b : Bool} (h : V.heap[B]? = some (.cells #[.bool b] 4 (0, 0))) : (loadVar 4 ⟨B, 0, none⟩).run Tryz.prog V = .ok (.bool b) V := by
  have h1 := (cell_f h).1
  simp [go_sem, h1]
def FindPost (l : List Va) (nm : ByteArray) (w : World) (e : Ending) (w' : World) : Prop :=
  ∃ (b : Bool) (x : Va), e = .returned (.tuple #[VarV x.name x.sort x.type x.index, .bool b]) ∧ (b = true → l.find? (fun y => decide (y.name = nm)) = some x) ∧ (b = false → x = noVa ∧ ∀ y ∈ l, ¬ y.name = nm) ∧ Below w.heap.size w w'
theorem find_pre {l pre : List Va} {x : Va} {nm : ByteArray} (h : pre ++ [x] <+: l) (hx : x.name = nm) (hp : ∀ y ∈ pre, ¬ y.name = nm) : l.find? (fun y => decide (y.name = nm)) = some x := by
  obtain ⟨t, rfl⟩ := h
  have h0 : pre.find? (fun y => decide (y.name = nm)) = none := List.find?_eq_none.2 fun y hy => by simpa using hp y hy
  rw [List.append_assoc, List.find?_append, h0]
  simp [hx]
set_option maxHeartbeats 8000000 in
set_option maxRecDepth 100000 in
theorem find_core (o1 o2 : Option Addr) (n1 c1 n2 c2 : Nat) (p : Pr) (d : Int) (nm : ByteArray) (w : World) (hp : Hid (ProgAt w (.slice o1 n1 c1) (.slice o2 n2 c2) p)) (hs : Hid (Small p)) :
    CallsIn Fence.wide 5 Tryz.prog 19 #[.agg #[.slice o1 n1 c1, .slice o2 n2 c2], .int .i64 d, .string nm] w fun r w' => FindPost (varsN (declN p d)) nm w r w' := by
  have hb0 := Lib.hid ((((below_al (Below.refl w.heap.size w) (.cells #[.slice o1 n1 c1, .slice o2 n2 c2] 25)).alloc (by simp) (.cells #[.string nm] 9)).alloc (by simp; omega) (.cells #[.string ⟨#[]⟩, .int .i64 0, .int .i64 0, .int .i64 0] 36)).alloc (by simp; omega) (.cells #[.bool false] 4))
  have DC := Lib.hid (declOf_any _ _ p d w _ hb0 hp.out hs.out)
  have bL1 : Hid (((((w.alloc (.cells #[.slice o1 n1 c1, .slice o2 n2 c2] 25)).alloc (.cells #[.string nm] 9)).alloc (.cells #[.string ⟨#[]⟩, .int .i64 0, .int .i64 0, .int .i64 0] 36)).alloc (.cells #[.bool false] 4)).heap[w.heap.size + 1]? = some (.cells #[.string nm] 9 (0, 0))) := Lib.hid (al_old (al_old (al_new (by simp))))
  have bL2 : Hid (((((w.alloc (.cells #[.slice o1 n1 c1, .slice o2 n2 c2] 25)).alloc (.cells #[.string nm] 9)).alloc (.cells #[.string ⟨#[]⟩, .int .i64 0, .int .i64 0, .int .i64 0] 36)).alloc (.cells #[.bool false] 4)).heap[w.heap.size + 1 + 1]? = some (.cells (vaB noVa) 36 (0, 0))) := Lib.hid (al_old (al_new (by simp)))
  have bL3 : Hid (((((w.alloc (.cells #[.slice o1 n1 c1, .slice o2 n2 c2] 25)).alloc (.cells #[.string nm] 9)).alloc (.cells #[.string ⟨#[]⟩, .int .i64 0, .int .i64 0, .int .i64 0] 36)).alloc (.cells #[.bool false] 4)).heap[w.heap.size + 1 + 1 + 1]? = some (.cells #[.bool false] 4 (0, 0))) := Lib.hid (al_new (by simp))
  have hsm := Lib.hid (declN_small (d := d) hs.out)
  obtain ⟨D, hD⟩ : ∃ D, D = declN p d := ⟨_, rfl⟩
  rw [← hD] at DC hsm ⊢
  clear hD
  refine callsIn_of_wp_marks Tryz.func19 rfl trivial ?_ rfl
  simp only [Tryz.ntmps19, List.size_toArray, List.length_cons, List.length_nil, Nat.reduceAdd, Nat.reduceSub, Array.replicate_succ, Array.replicate_zero, List.push_toArray, List.append_toArray, List.nil_append, List.cons_append]
  gi_wp2_with (first
    | (refine ⟨trivial, ?_⟩; gi_at_call 34; ((with_reducible refine (callsIn_wide.2 DC.out).mono ?_); rintro r w1 ⟨v1, rfl, hv1, hb1⟩; have HV := Lib.hid hv1; obtain ⟨s1, t1, rfl, hs1, ht1, hk1⟩ := hv1; have HS1 := Lib.hid hs1; have HT1 := Lib.hid ht1; obtain ⟨ps, qs, bs, fs, rfl, _⟩ := hs1; obtain ⟨pt, qt, bt, ft, rfl, _⟩ := ht1; have HB1 := Lib.hid (hb0.out.trans (hb1.mono hb0.out.size)); have BL1 := Lib.hid ((hb1.block _ (lt_of_heap bL1.out)).trans bL1.out); have BL2 := Lib.hid ((hb1.block _ (lt_of_heap bL2.out)).trans bL2.out); have BL3 := Lib.hid ((hb1.block _ (lt_of_heap bL3.out)).trans bL3.out); clear hk1 hb1))
    | (refine ⟨trivial, ?_⟩; gi_at_call 33; ((with_reducible refine (callsIn_wide.2 (vars_any _ _ _ _ _ _ _ _ ⟨_, _, _, _, _, _, _, _, _, _, _, rfl, rfl, rfl, rfl, rfl, rfl, rfl⟩)).mono ?_); rintro r w2 ⟨rfl, rfl⟩)))
  have hz1 : Hid (w.heap.size + 1 + 1 + 1 < w1.heap.size) := Lib.hid (lt_of_heap BL3.out)
  obtain ⟨W3, hW3⟩ : ∃ W3, W3 = w1.alloc (.cells #[.int .i64 D.kind, .string D.name, .slice ps D.params.length qs, .slice pt D.items.length qt, .int .i64 D.type, .int .i64 D.e, .int .i64 D.pos] 44) := ⟨_, rfl⟩
  have hB3 : Hid (W3.heap[w1.heap.size]? = some (.cells #[.int .i64 D.kind, .string D.name, .slice ps D.params.length qs, .slice pt D.items.length qt, .int .i64 D.type, .int .i64 D.e, .int .i64 D.pos] 44 (0, 0))) := Lib.hid (by rw [hW3]; exact al_new rfl)
  have hbw3 : Hid (Below w1.heap.size w1 W3) := Lib.hid (by rw [hW3]; exact below_al (Below.refl _ _) _)
  have hB03 := Lib.hid (HB1.out.trans (hbw3.out.mono HB1.out.size))
  have hz3 : Hid (w.heap.size + 1 + 1 + 1 < W3.heap.size) := Lib.hid (Nat.lt_of_lt_of_le hz1.out hbw3.out.size)
  have hL1 := Lib.hid ((hbw3.out.block _ (lt_of_heap BL1.out)).trans BL1.out)
  have hL2 := Lib.hid ((hbw3.out.block _ (lt_of_heap BL2.out)).trans BL2.out)
  have hL3 := Lib.hid ((hbw3.out.block _ (lt_of_heap BL3.out)).trans BL3.out)
  rw [← hW3]
  clear hW3
  refine wpIn_rangeFunc_ownH (α := {v : Va // v ∈ varsN D}) rfl (by decide) (gf := 63) (lb := #[.pointer (some ⟨w1.heap.size, 0, none⟩)]) rfl trivial (enters_of Tryz.func63 (by kernel_rfl) rfl)
    (vars_stops 4 D w1.heap.size (fun _ => False) (fun _ => none) W3 ⟨fun k hk => hk.elim, fun k hk => (by cases hk), fun X Y h => rfl⟩
      (deSrc_of (w := w) HS1.out HT1.out hB03.out hB3.out (fun k hk => hk.elim) (fun k hk => by cases hk)) (by have := hsm.out; omega) (by have := hsm.out; omega))
    (fun h k => h.trans k) (fun W l o o' h1 h2 h3 _ => keepN_putObj W l o o' h1 h2 h3) (Below.refl _ _) (fun _ => rfl)
    (fun pre W => FdInv w nm W3.heap.size (pre.map (·.1)) W) (fun c pre W => FdLeft w nm W3.heap.size c (pre.map (·.1)) W) (fun s X Y row k1 k2 k3 => fdInv_own w nm _ hz3.out (s.map (·.1)) X Y row k1 k2 k3) (fun c s X Y row k1 k2 k3 => fdLeft_own w nm _ hz3.out c (s.map (·.1)) X Y row k1 k2 k3) ⟨hL1.out, hL2.out, hL3.out, fun y hy => by simp at hy, hB03.out, Nat.le_refl _⟩
    (fun x => FdX (.agg #[.slice o1 n1 c1, .slice o2 n2 c2]) (.agg #[.int .i64 D.kind, .string D.name, .slice ps D.params.length qs, .slice pt D.items.length qt, .int .i64 D.type, .int .i64 D.e, .int .i64 D.pos]) nm d w.heap.size w1.heap.size W3.heap.size x.1) (fun x a => fdX_own _ _ _ _ _ _ _ _ _) ?assign ?body ?done ?stop
  case assign =>
    rintro lp pre ⟨⟨nx, so, ty, ix⟩, hx⟩ W K hi hK
    dsimp only [vaE, VarV]
    gi_wp2
    exact hK _ _ ((KeepsOthers.alloc _ _).from _) (keepN_below (below_al (Below.refl _ _) _)) ((fdInv_own w nm _ hz3.out).alloc _ hi) ⟨W.heap.size, hi.2.2.2.2.2, World.alloc_heap_new W _, rfl⟩
  case body =>
    rintro lp pre ⟨⟨nx, so, ty, ix⟩, hx⟩ a' W hlp hrec ⟨h1, h2, h3, h4, hB, hN⟩ ⟨X, hX, hXh, rfl⟩ hlt
    have hxn : nx.size ≤ 281474976710656 := va_name HV.out _ hx
    obtain ⟨⟨y0, y1, y2, y3⟩, y4, y5, y6, y7⟩ := cells_four hXh
    have n0 : W.cell? ⟨w.heap.size + 1, 0, none⟩ = some (.string nm) := by simp [World.cell?, h1]
    have H1 := Lib.hid h1
    have H2 := Lib.hid h2
    have H3 := Lib.hid h3
    have H4 := Lib.hid h4
    have HB := Lib.hid hB
    have HN := Lib.hid hN
    have HXH := Lib.hid hXh
    clear h1 h2 h3 h4 hB hN hXh hrec hlt
    dsimp only
    by_cases he : nx = nm
    · have HE := Lib.hid he
      have q1 : (nx.toList == nm.toList) = true := by rw [he]; simp
      clear he
      gi_wp2_with (refine ⟨trivial, ?_⟩; gi_at_call 35; refine (CallsIn.inRound lp (callsIn_wide.2 (own_any nx so ty ix _ hxn))).mono ?_; rintro e7 W7 ⟨rfl, hb7⟩; have HB7 := Lib.hid hb7; obtain ⟨⟨z0, z1, z2, z3⟩, z4, z5, z6, z7⟩ := cells_four ((hb7.block _ (lt_of_heap H2.out)).trans H2.out); have K2 := Lib.hid ((hb7.block _ (lt_of_heap H2.out)).trans H2.out); have K3 := Lib.hid ((hb7.block _ (lt_of_heap H3.out)).trans H3.out); obtain ⟨z8, z9⟩ := cell_f ((hb7.block _ (lt_of_heap H3.out)).trans H3.out); clear hb7)
      refine ⟨(keep_below HB7.out).trans ((((((KeepsOthers.setCell _ _ _).trans (KeepsOthers.setCell _ _ _)).trans (KeepsOthers.setCell _ _ _)).trans (KeepsOthers.setCell _ _ _)).trans (KeepsOthers.setCell _ _ _)).from _), ?_⟩
      refine ⟨rfl, pre.map (·.1), ⟨nx, so, ty, ix⟩, by rw [List.map_append]; rfl, HE.out, H4.out, ?_, ?_, ?_, ?_⟩
      · exact (set_ot (by omega) _ _).trans (set_hp (set_hp (set_hp (set_hp K2.out 0 _) 1 _) 2 _) 3 _)
      · exact set_hp ((set_ot (by omega) _ _).trans ((set_ot (by omega) _ _).trans ((set_ot (by omega) _ _).trans ((set_ot (by omega) _ _).trans K3.out)))) 0 _
      · exact (((((HB.out.trans (HB7.out.mono HB.out.size)).setCell (p := ⟨w.heap.size + 1 + 1, 0, none⟩) (show w.heap.size ≤ w.heap.size + 1 + 1 by omega) _).setCell (p := ⟨w.heap.size + 1 + 1, 1, none⟩) (show w.heap.size ≤ w.heap.size + 1 + 1 by omega) _).setCell (p := ⟨w.heap.size + 1 + 1, 2, none⟩) (show w.heap.size ≤ w.heap.size + 1 + 1 by omega) _).setCell (p := ⟨w.heap.size + 1 + 1, 3, none⟩) (show w.heap.size ≤ w.heap.size + 1 + 1 by omega) _).setCell (p := ⟨w.heap.size + 1 + 1 + 1, 0, none⟩) (show w.heap.size ≤ w.heap.size + 1 + 1 + 1 by omega) _
      · simp only [World.size_setCell]
        exact Nat.le_trans HN.out HB7.out.size
    · have HE := Lib.hid he
      have q1 : (nx.toList == nm.toList) = false := beq_false_of_ne fun h => he ((toListE nx nm).1 h)
      clear he
      gi_wp2_with fail
      refine ⟨KeepsFrom.refl _ _, keepN_below (Below.refl _ _), H1.out, H2.out, H3.out, ?_, HB.out, HN.out⟩
      intro y hy
      have hy2 : y ∈ (pre ++ [(⟨⟨nx, so, ty, ix⟩, hx⟩ : {v : Va // v ∈ varsN D})]).map (·.1) := hy
      rw [List.map_append] at hy2
      rcases List.mem_append.1 hy2 with h | h
      · exact H4.out y h
      · rw [List.mem_singleton.1 h]; exact HE.out
  case done =>
    rintro E ys W hE hys ⟨h1, h2, h3, h4, hB, hN⟩ hmark
    obtain ⟨⟨z0, z1, z2, z3⟩, z4, z5, z6, z7⟩ := cells_four h2
    obtain ⟨z8, z9⟩ := cell_f h3
    have H2 := Lib.hid h2
    have H3 := Lib.hid h3
    have H4 := Lib.hid h4
    have HB := Lib.hid hB
    have HK := Lib.hid hmark
    have HE := Lib.hid hE
    have HYS := Lib.hid hys
    clear h1 h2 h3 h4 hB hN hmark hE hys
    dsimp only
    gi_wp2_with fail
    have n2 : w.heap.size + 1 + 1 ≠ E := by have := HE.out; have := hz3.out; omega
    have n3 : w.heap.size + 1 + 1 + 1 ≠ E := by have := HE.out; have := hz3.out; omega
    refine ⟨by simp, .inl ⟨_, _, rfl, run_takeDeferred ((((((KeepsOthers.setCell _ _ _).trans (KeepsOthers.setCell _ _ _)).trans (KeepsOthers.setCell _ _ _)).trans (KeepsOthers.setCell _ _ _)).trans (KeepsOthers.setCell _ _ _)).same E _ HK.out rfl), ?_⟩⟩
    refine ⟨_, results_two rfl _ ⟨w.heap.size + 1 + 1, 0, none⟩ ⟨w.heap.size + 1 + 1 + 1, 0, none⟩ rfl rfl (run_loadVar_row _ _ _ _ (vaB noVa) _ _ ((World.putObj_heap_other n2).trans ((set_ot (by omega) _ _).trans (set_hp (set_hp (set_hp (set_hp H2.out 0 _) 1 _) 2 _) 3 _))) Tryz.underlying36 rfl (by kernel_rfl)) (load_bool ((World.putObj_heap_other n3).trans (set_hp ((set_ot (by omega) _ _).trans ((set_ot (by omega) _ _).trans ((set_ot (by omega) _ _).trans ((set_ot (by omega) _ _).trans H3.out)))) 0 _))), ?_⟩
    refine ⟨false, noVa, rfl, (fun h => by cases h), fun _ => ⟨rfl, fun y hy => ?_⟩, ?_⟩
    · rw [← HYS.out] at hy
      exact H4.out y hy
    · exact ((((((HB.out.setCell (p := ⟨w.heap.size + 1 + 1, 0, none⟩) (show w.heap.size ≤ w.heap.size + 1 + 1 by omega) _).setCell (p := ⟨w.heap.size + 1 + 1, 1, none⟩) (show w.heap.size ≤ w.heap.size + 1 + 1 by omega) _).setCell (p := ⟨w.heap.size + 1 + 1, 2, none⟩) (show w.heap.size ≤ w.heap.size + 1 + 1 by omega) _).setCell (p := ⟨w.heap.size + 1 + 1, 3, none⟩) (show w.heap.size ≤ w.heap.size + 1 + 1 by omega) _).setCell (p := ⟨w.heap.size + 1 + 1 + 1, 0, none⟩) (show w.heap.size ≤ w.heap.size + 1 + 1 + 1 by omega) _)).grown (grownBy_putObj' _ E _) (by simp only [World.size_setCell]; exact HB.out.size) (fun k e => by cases e; have := HE.out; have := hz3.out; omega)
  case stop =>
    rintro E c pre W hE hpre ⟨rfl, pre', x, hpx, hx, hno, h2, h3, hB, hN⟩ hmark
    have n2 : w.heap.size + 1 + 1 ≠ E := by have := hz3.out; omega
    have n3 : w.heap.size + 1 + 1 + 1 ≠ E := by have := hz3.out; omega
    have H2 := Lib.hid ((World.putObj_heap_other (o := .deferred none) n2).trans h2)
    have H3 := Lib.hid ((World.putObj_heap_other (o := .deferred none) n3).trans h3)
    have HF := Lib.hid (find_pre (nm := nm) (l := varsN D) (by rw [← hpx]; exact hpre) hx hno)
    have HB := Lib.hid hB
    have HK := Lib.hid hmark
    have HE := Lib.hid hE
    clear h2 h3 hB hN hmark hE hpre hpx hx hno
    dsimp only
    gi_wp2_with fail
    refine ⟨by simp, .inl ⟨_, _, rfl, run_takeDeferred HK.out, ?_⟩⟩
    refine ⟨_, results_two rfl _ ⟨w.heap.size + 1 + 1, 0, none⟩ ⟨w.heap.size + 1 + 1 + 1, 0, none⟩ rfl rfl (run_loadVar_row _ _ _ _ (vaB x) _ _ H2.out Tryz.underlying36 rfl (by kernel_rfl)) (load_bool H3.out), ?_⟩
    exact ⟨true, x, rfl, fun _ => HF.out, (fun h => by cases h), HB.out.grown (grownBy_putObj' W E _) HB.out.size (fun k e => by cases e; have := HE.out; have := hz3.out; omega)⟩
theorem find_any (sd se : Value) (p : Pr) (d : Int) (nm : ByteArray) (w : World) (h : ProgAt w sd se p) (hs : Small p) :
    Calls Tryz.prog 19 #[.agg #[sd, se], .int .i64 d, .string nm] w fun r Y => FindPost (varsN (declN p d)) nm w r Y := by
  obtain ⟨⟨o1, dcap, db, doff, rfl, hd1, hd2, hd3, hd4⟩, ⟨o2, cap, b, off, rfl, he1, he2, he3, he4⟩, h3, h4⟩ := id h
  exact callsIn_wide.1 (find_core o1 o2 _ dcap _ cap p d nm w (Lib.hid h) (Lib.hid hs))
end
end Go.Proofs.YtnlbfdhhdnapnaaGreat
