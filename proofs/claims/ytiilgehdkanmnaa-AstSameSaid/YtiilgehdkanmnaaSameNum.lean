/- numberOf: the number of a key, the next one if it is met for the first time. -/
import Derived.Test.YtiilgehdkanmnaaSameKeys
import Derived.Maps.OwnSet
namespace Go.Proofs.Ytiilgehdkanmnaa
open Go.RowKit Go.Shelf Go.Maps

attribute [local go_sem] Oper.semAt_some

/-- a map, in block b, that gives the keys their numbers -/
def MapFn (K : TypeId) (w : World) (b : Nat) (n : Nat) (F : Value → Option Nat) : Prop := ∃ D : DataW Unit, w.ownsMap Try.prog K (plainElem Try.prog 3) b n D ∧
  ∀ kv l, keyOf Try.prog K kv = some l → Maps.has D l = (F kv).isSome ∧ ∀ c, F kv = some c → D.atKey l (.lit (.int .i64 0)) = .lit (.int .i64 (c : Int))
open Classical in
noncomputable def putF (F : Value → Option Nat) (k : Value) (c : Nat) : Value → Option Nat := fun x => if x = k then some c else F x
theorem mapFn_made (K : TypeId) (w : World) : MapFn K (w.alloc (.map #[] 0)) w.heap.size 0 (fun _ => none) :=
  ⟨_, World.ownsMap_made _ _ _ _, fun kv l _ => ⟨rfl, fun c h => by cases h⟩⟩
theorem MapFn.kept {K : TypeId} {w w' : World} {b n : Nat} {F : Value → Option Nat} {row : Option Nat} (h : MapFn K w b n F) (hg : w.grownBy w' row) (hne : some b ≠ row) : MapFn K w' b n F := by
  obtain ⟨D, h1, h2⟩ := h
  exact ⟨D, h1.kept hg hne, h2⟩
theorem mapFn_put {K : TypeId} (KK : Keyed Try.prog K) {w w' : World} {b n c : Nat} {F : Value → Option Nat} {D : DataW Unit} {kv : Value} {l : Lit} (hD : w.ownsMap Try.prog K (plainElem Try.prog 3) b n D)
    (h : ∀ kv l, keyOf Try.prog K kv = some l → Maps.has D l = (F kv).isSome ∧ ∀ c, F kv = some c → D.atKey l (.lit (.int .i64 0)) = .lit (.int .i64 (c : Int))) (hl : keyOf Try.prog K kv = some l)
    (hp : w'.ownsMap Try.prog K (plainElem Try.prog 3) b (n + 1) (D.put l (.lit (.int .i64 (c : Int))))) : MapFn K w' b (n + 1) (putF F kv c) := by
  refine ⟨_, hp, fun kx lx hx => ?_⟩
  by_cases e : kx = kv
  · subst e
    rw [hl] at hx
    cases hx
    unfold putF
    rw [if_pos rfl, has_put_same hD.isMap (KK.key hl), atKey_put_same hD.isMap (KK.key hl)]
    exact ⟨rfl, fun c' h => by cases h; rfl⟩
  · have hne : lx ≠ l := fun h => e (KK.inj hx (h ▸ hl))
    unfold putF
    rw [if_neg e, has_put_other hne, atKey_put_other hne]
    exact h kx lx hx
/-- the closure next -/
def nextV (B : Nat) : Value := .func (.func 39) #[] #[.pointer (some ⟨B, 0, none⟩)]
theorem next_any (B last : Nat) (hl : (last : Int) ≤ 1000000) (w : World) (h : Boxed w B 3 (.int .i64 (last : Int))) :
    Calls Try.prog 39 #[.pointer (some ⟨B, 0, none⟩)] w fun r Y => r = .returned (.int .i64 ((last : Int) + 1)) ∧ Y = w.setCell ⟨B, 0, none⟩ (.int .i64 ((last : Int) + 1)) := by
  have c1 := h.cell
  have f1 := h.frozen
  have c2 := (h.set (.int .i64 ((last : Int) + 1))).cell
  go_enter Try.func39, Try.ntmps39
  go_wp2_with (fail)
  exact ⟨rfl, _, results_tmp (t := 1) (by kernel_rfl) _ _ _, rfl, rfl⟩
/-- how numberOf ends -/
def NumPost (K : TypeId) (kv : Value) (w : World) (b n B last : Nat) (F : Value → Option Nat) (r : Ending) (Y : World) : Prop :=
  (∃ c, F kv = some c ∧ r = .returned (.int .i64 (c : Int)) ∧ MapFn K Y b n F ∧ Boxed Y B 3 (.int .i64 (last : Int)) ∧ Below w.heap.size w Y) ∨
  (F kv = none ∧ r = .returned (.int .i64 ((last : Int) + 1)) ∧ MapFn K Y b (n + 1) (putF F kv (last + 1)) ∧ Boxed Y B 3 (.int .i64 ((last : Int) + 1)) ∧ (Y.os = w.os ∧ Y.tape = w.tape ∧ Y.output = w.output ∧ w.heap.size ≤ Y.heap.size) ∧ ∀ k, k < w.heap.size → k ≠ b → k ≠ B → Y.heap[k]? = w.heap[k]?)
set_option maxHeartbeats 4000000 in
theorem num_head (x : Ex) (hx : ExOk x) (w : World) (b n B last : Nat) (F : Value → Option Nat) (hM : MapFn 78 w b n F) (hB : Boxed w B 3 (.int .i64 (last : Int))) (hn : n ≤ 1000000) (hl : (last : Int) ≤ 1000000) (hbB : b ≠ B) :
    Calls Try.prog 41 #[.map (some b), headV x, nextV B] w fun r Y => NumPost 78 (headV x) w b n B last F r Y := by
  obtain ⟨l, hkey⟩ := head_key x hx
  obtain ⟨D, hD, hF⟩ := hM
  have hF1 := hF _ _ hkey
  have hblt : b < w.heap.size := by
    obtain ⟨es, ck, h, _⟩ := hD
    exact lt_of_heap h
  have hb0 := below_al (Below.refl w.heap.size w) (.cells #[.int .i64 x.kind, .string x.name, .string x.state, .int .i64 x.v] 78)
  have hDa := hD.alloc (.cells #[.int .i64 x.kind, .string x.name, .string x.state, .int .i64 x.v] 78)
  have hz : ∀ W : World, (zeroValue 3).run Try.prog W = .ok (.int .i64 0) W := fun _ => by kernel_rfl
  unfold headV at hkey hF1 ⊢
  cases hf : F (.agg #[.int .i64 x.kind, .string x.name, .string x.state, .int .i64 x.v]) with
  | some c =>
    rw [hf] at hF1
    have hhas : Maps.has D l = true := hF1.1
    have hat0 := hF1.2 c rfl
    have fin := Lib.hid (show NumPost 78 (.agg #[.int .i64 x.kind, .string x.name, .string x.state, .int .i64 x.v]) w b n B last F (.returned (.int .i64 (c : Int))) (w.alloc (.cells #[.int .i64 x.kind, .string x.name, .string x.state, .int .i64 x.v] 78)) from .inl ⟨c, hf, rfl, ⟨D, hDa, hF⟩, (hb0.block B hB.lt).trans hB, hb0⟩)
    have HDA := Lib.hid hDa
    have HAT := Lib.hid hat0
    clear hD hF hF1 hB hb0 hDa hat0 hf
    go_enter Try.func41, Try.ntmps41
    go_wp2_with (at_lookup; refine wpList_lookup_own_ok_int _ rfl _ _ 73 rfl 78 3 .i64 head_keyed Try.underlying73 Try.underlying3 (hz _) b n D rfl HDA.out _ l rfl hkey ?_; intro c' hat hwc; obtain rfl : c' = (c : Int) := (by have := HAT.out.symm.trans hat; cases this; rfl))
    exact ⟨rfl, _, results_tmp (t := 6) (by kernel_rfl) _ _ _, fin.out⟩
  | none =>
    rw [hf] at hF1
    have hhas : Maps.has D l = false := hF1.1
    obtain ⟨W2, hW2⟩ : ∃ W2, W2 = (w.alloc (.cells #[.int .i64 x.kind, .string x.name, .string x.state, .int .i64 x.v] 78)).setCell ⟨B, 0, none⟩ (.int .i64 ((last : Int) + 1)) := ⟨_, rfl⟩
    have hkb := World.alloc_heap_new w (.cells #[.int .i64 x.kind, .string x.name, .string x.state, .int .i64 x.v] 78)
    have hBa : Boxed (w.alloc (.cells #[.int .i64 x.kind, .string x.name, .string x.state, .int .i64 x.v] 78)) B 3 (.int .i64 (last : Int)) := hB.alloc _
    have hBlt := hB.lt
    have hg2 := grownBy_setCell' (w.alloc (.cells #[.int .i64 x.kind, .string x.name, .string x.state, .int .i64 x.v] 78)) B (.int .i64 ((last : Int) + 1))
    have hD2 := hDa.kept hg2 (fun h => hbB (Option.some.inj h))
    have hB2 := hBa.set (.int .i64 ((last : Int) + 1))
    have hk2 := (hg2.block w.heap.size (by rw [World.size_alloc]; omega) (fun h => by have := Option.some.inj h; omega)).trans hkb
    rw [← hW2] at hg2 hD2 hB2 hk2
    have CX := Lib.hid (next_any B last hl _ hBa)
    rw [← hW2] at CX
    have hc : ∀ j u, (#[.int .i64 x.kind, .string x.name, .string x.state, .int .i64 x.v])[j]? = some u → W2.cell? ⟨w.heap.size, j, none⟩ = some u := fun j u hu => by simp only [World.cell?, hk2]; exact hu
    have ck0 := hc 0 _ rfl
    have ck1 := hc 1 _ rfl
    have ck2 := hc 2 _ rfl
    have ck3 := hc 3 _ rfl
    have hwf : (Lit.int .i64 ((last : Int) + 1)).wf = true := i64_wf ⟨by omega, by omega⟩
    have hmx : n < maxLen := by unfold maxLen; omega
    have fin : ∀ Y : World, Y.ownsMap Try.prog 78 (plainElem Try.prog 3) b (n + 1) (D.put l (.lit (.int .i64 ((last : Int) + 1)))) → W2.grownBy Y (some b) → NumPost 78 (.agg #[.int .i64 x.kind, .string x.name, .string x.state, .int .i64 x.v]) w b n B last F (.returned (.int .i64 ((last : Int) + 1))) Y := fun Y h1 h2 => by
      refine .inr ⟨hf, rfl, mapFn_put head_keyed hD hF hkey h1, (h2.block B (lt_of_heap hB2) (fun h => hbB (Option.some.inj h).symm)).trans hB2, ⟨h2.os.trans (hg2.os.trans hb0.os), h2.tape.trans (hg2.tape.trans hb0.tape), h2.output.trans (hg2.output.trans hb0.output), Nat.le_trans hb0.size (Nat.le_trans hg2.size h2.size)⟩, fun k hk h3 h4 => ?_⟩
      exact (h2.block k (Nat.lt_of_lt_of_le hk (Nat.le_trans hb0.size hg2.size)) (fun h => h3 (Option.some.inj h))).trans ((hg2.block k (Nat.lt_of_lt_of_le hk hb0.size) (fun h => h4 (Option.some.inj h))).trans (hb0.block k hk))
    have FIN := Lib.hid fin
    have HDA := Lib.hid hDa
    have HD2 := Lib.hid hD2
    clear fin hc hD hF hF1 hb0 hDa hf hkb hBa hg2 hD2 hB2 hk2 hW2 hB
    unfold nextV
    go_enter Try.func41, Try.ntmps41
    go_wp2_with (first
      | (at_lookup; refine wpList_lookup_own_ok_int _ rfl _ _ 73 rfl 78 3 .i64 head_keyed Try.underlying73 Try.underlying3 (hz _) b n D rfl HDA.out _ l rfl hkey ?_; intro c' hat hwc)
      | (go_at_call 39; ((with_reducible refine CX.out.mono ?_)); rintro r Y ⟨rfl, rfl⟩)
      | (at_mapUpdate; refine wpList_mapUpdate_own _ rfl _ _ _ 73 rfl 78 3 head_keyed Try.underlying73 (plainElem Try.prog 3) b n D rfl HD2.out hmx _ _ l rfl rfl hkey _ [] (plainElem_int Try.underlying3 hwf) ?_; intro Y hY hgY))
    exact ⟨rfl, _, results_tmp (t := 6) (by kernel_rfl) _ _ _, FIN.out _ hY hgY⟩
set_option maxHeartbeats 4000000 in
theorem num_link (c0 z0 : Nat) (hc0 : c0 ≤ 1000000) (hz0 : z0 ≤ 1000000) (w : World) (b n B last : Nat) (F : Value → Option Nat) (hM : MapFn 81 w b n F) (hB : Boxed w B 3 (.int .i64 (last : Int))) (hn : n ≤ 1000000) (hl : (last : Int) ≤ 1000000) (hbB : b ≠ B) :
    Calls Try.prog 42 #[.map (some b), linkV c0 z0, nextV B] w fun r Y => NumPost 81 (linkV c0 z0) w b n B last F r Y := by
  obtain ⟨l, hkey⟩ := link_key c0 z0 hc0 hz0
  obtain ⟨D, hD, hF⟩ := hM
  have hF1 := hF _ _ hkey
  have hblt : b < w.heap.size := by
    obtain ⟨es, ck, h, _⟩ := hD
    exact lt_of_heap h
  have hb0 := below_al (Below.refl w.heap.size w) (.cells #[.int .i64 (c0 : Int), .int .i64 (z0 : Int)] 81)
  have hDa := hD.alloc (.cells #[.int .i64 (c0 : Int), .int .i64 (z0 : Int)] 81)
  have hz : ∀ W : World, (zeroValue 3).run Try.prog W = .ok (.int .i64 0) W := fun _ => by kernel_rfl
  unfold linkV at hkey hF1 ⊢
  cases hf : F (.agg #[.int .i64 (c0 : Int), .int .i64 (z0 : Int)]) with
  | some c =>
    rw [hf] at hF1
    have hhas : Maps.has D l = true := hF1.1
    have hat0 := hF1.2 c rfl
    have fin := Lib.hid (show NumPost 81 (.agg #[.int .i64 (c0 : Int), .int .i64 (z0 : Int)]) w b n B last F (.returned (.int .i64 (c : Int))) (w.alloc (.cells #[.int .i64 (c0 : Int), .int .i64 (z0 : Int)] 81)) from .inl ⟨c, hf, rfl, ⟨D, hDa, hF⟩, (hb0.block B hB.lt).trans hB, hb0⟩)
    have HDA := Lib.hid hDa
    have HAT := Lib.hid hat0
    clear hD hF hF1 hB hb0 hDa hat0 hf
    go_enter Try.func42, Try.ntmps42
    go_wp2_with (at_lookup; refine wpList_lookup_own_ok_int _ rfl _ _ 74 rfl 81 3 .i64 link_keyed Try.underlying74 Try.underlying3 (hz _) b n D rfl HDA.out _ l rfl hkey ?_; intro c' hat hwc; obtain rfl : c' = (c : Int) := (by have := HAT.out.symm.trans hat; cases this; rfl))
    exact ⟨rfl, _, results_tmp (t := 6) (by kernel_rfl) _ _ _, fin.out⟩
  | none =>
    rw [hf] at hF1
    have hhas : Maps.has D l = false := hF1.1
    obtain ⟨W2, hW2⟩ : ∃ W2, W2 = (w.alloc (.cells #[.int .i64 (c0 : Int), .int .i64 (z0 : Int)] 81)).setCell ⟨B, 0, none⟩ (.int .i64 ((last : Int) + 1)) := ⟨_, rfl⟩
    have hkb := World.alloc_heap_new w (.cells #[.int .i64 (c0 : Int), .int .i64 (z0 : Int)] 81)
    have hBa : Boxed (w.alloc (.cells #[.int .i64 (c0 : Int), .int .i64 (z0 : Int)] 81)) B 3 (.int .i64 (last : Int)) := hB.alloc _
    have hBlt := hB.lt
    have hg2 := grownBy_setCell' (w.alloc (.cells #[.int .i64 (c0 : Int), .int .i64 (z0 : Int)] 81)) B (.int .i64 ((last : Int) + 1))
    have hD2 := hDa.kept hg2 (fun h => hbB (Option.some.inj h))
    have hB2 := hBa.set (.int .i64 ((last : Int) + 1))
    have hk2 := (hg2.block w.heap.size (by rw [World.size_alloc]; omega) (fun h => by have := Option.some.inj h; omega)).trans hkb
    rw [← hW2] at hg2 hD2 hB2 hk2
    have CX := Lib.hid (next_any B last hl _ hBa)
    rw [← hW2] at CX
    have hc : ∀ j u, (#[.int .i64 (c0 : Int), .int .i64 (z0 : Int)])[j]? = some u → W2.cell? ⟨w.heap.size, j, none⟩ = some u := fun j u hu => by simp only [World.cell?, hk2]; exact hu
    have ck0 := hc 0 _ rfl
    have ck1 := hc 1 _ rfl
    have hwf : (Lit.int .i64 ((last : Int) + 1)).wf = true := i64_wf ⟨by omega, by omega⟩
    have hmx : n < maxLen := by unfold maxLen; omega
    have fin : ∀ Y : World, Y.ownsMap Try.prog 81 (plainElem Try.prog 3) b (n + 1) (D.put l (.lit (.int .i64 ((last : Int) + 1)))) → W2.grownBy Y (some b) → NumPost 81 (.agg #[.int .i64 (c0 : Int), .int .i64 (z0 : Int)]) w b n B last F (.returned (.int .i64 ((last : Int) + 1))) Y := fun Y h1 h2 => by
      refine .inr ⟨hf, rfl, mapFn_put link_keyed hD hF hkey h1, (h2.block B (lt_of_heap hB2) (fun h => hbB (Option.some.inj h).symm)).trans hB2, ⟨h2.os.trans (hg2.os.trans hb0.os), h2.tape.trans (hg2.tape.trans hb0.tape), h2.output.trans (hg2.output.trans hb0.output), Nat.le_trans hb0.size (Nat.le_trans hg2.size h2.size)⟩, fun k hk h3 h4 => ?_⟩
      exact (h2.block k (Nat.lt_of_lt_of_le hk (Nat.le_trans hb0.size hg2.size)) (fun h => h3 (Option.some.inj h))).trans ((hg2.block k (Nat.lt_of_lt_of_le hk hb0.size) (fun h => h4 (Option.some.inj h))).trans (hb0.block k hk))
    have FIN := Lib.hid fin
    have HDA := Lib.hid hDa
    have HD2 := Lib.hid hD2
    clear fin hc hD hF hF1 hb0 hDa hf hkb hBa hg2 hD2 hB2 hk2 hW2 hB
    unfold nextV
    go_enter Try.func42, Try.ntmps42
    go_wp2_with (first
      | (at_lookup; refine wpList_lookup_own_ok_int _ rfl _ _ 74 rfl 81 3 .i64 link_keyed Try.underlying74 Try.underlying3 (hz _) b n D rfl HDA.out _ l rfl hkey ?_; intro c' hat hwc)
      | (go_at_call 39; ((with_reducible refine CX.out.mono ?_)); rintro r Y ⟨rfl, rfl⟩)
      | (at_mapUpdate; refine wpList_mapUpdate_own _ rfl _ _ _ 74 rfl 81 3 link_keyed Try.underlying74 (plainElem Try.prog 3) b n D rfl HD2.out hmx _ _ l rfl rfl hkey _ [] (plainElem_int Try.underlying3 hwf) ?_; intro Y hY hgY))
    exact ⟨rfl, _, results_tmp (t := 6) (by kernel_rfl) _ _ _, FIN.out _ hY hgY⟩
end Go.Proofs.Ytiilgehdkanmnaa
