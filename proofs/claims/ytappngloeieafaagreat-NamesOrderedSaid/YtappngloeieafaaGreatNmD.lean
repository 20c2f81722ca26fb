/- The law NamesOrdered. -/
import Derived.Test.YtappngloeieafaaGreatNmC
namespace Go.Proofs.YtappngloeieafaaGreat
open Go.RowKit Lx Go.Shelf Go.Sort Go.Lib

theorem flat_at {W : World} {b f : Nat} {l : List Flt} (h : ∀ i, i < l.length → ∀ x, l[i]? = some x → W.cell? ⟨b, f + i * 2, none⟩ = some (.int .i64 x.1) ∧ W.cell? ⟨b, f + i * 2 + 1, none⟩ = some (.int .i64 x.2)) (j : Nat) (u : Value) (hu : (l.flatMap encF)[j]? = some u) : W.cell? ((⟨b, f, none⟩ : Addr).add j) = some u := by
  have hj := (List.getElem?_eq_some_iff.1 hu).1
  rw [flat_len] at hj
  have ea : (⟨b, f, none⟩ : Addr).add j = ⟨b, f + j, none⟩ := by unfold Addr.add; split <;> simp_all
  rw [ea]
  obtain ⟨x, hx⟩ : ∃ x, l[j / 2]? = some x := ⟨_, List.getElem?_eq_getElem (by omega)⟩
  obtain ⟨f0, f1⟩ := flat_get l _ x hx
  obtain ⟨c0, c1⟩ := h (j / 2) (by omega) x hx
  rcases (show j = j / 2 * 2 ∨ j = j / 2 * 2 + 1 by omega) with e | e
  · rw [e, f0] at hu
    injection hu with hu
    rw [e, ← hu]; exact c0
  · rw [e, f1] at hu
    injection hu with hu
    rw [e, ← hu, ← Nat.add_assoc]; exact c1
theorem enc_one (l : List Flt) (u : Value) (hu : u ∈ l.flatMap encF) : u.oneCell' = true := by
  obtain ⟨x, _, hx⟩ := List.mem_flatMap.1 hu
  simp [encF] at hx
  rcases hx with rfl | rfl <;> rfl
/-- a row of the call's own, behind what there was -/
structure OwnR (W0 Z : World) (B : Nat) (v : Value) (l : List Flt) : Prop where
  below : Below W0.heap.size W0 Z
  own : Z.ownsRow B 51 2 v l.length (l.flatMap encF)
  low : W0.heap.size ≤ B
  base : B ≤ Z.heap.size
theorem ownR_made (W : World) : OwnR W (W.alloc (.cells #[] 51)) W.heap.size (.slice (some ⟨W.heap.size, 0, none⟩) 0 0) [] :=
  ⟨(Below.refl _ _).alloc (Nat.le_refl _) _, World.ownsRow_made W #[] 0 (Nat.le_refl _) (Nat.zero_le _) (by simp), Nat.le_refl _, by simp⟩
theorem OwnR.grow {W0 Z Y : World} {B : Nat} {v v' : Value} {l r : List Flt} (h : OwnR W0 Z B v l) (ho : Y.ownsRow B 51 2 v' (l.length + r.length) (l.flatMap encF ++ r.flatMap encF)) (hg : Z.grownBy Y v.ownBlock) : OwnR W0 Y B v' (l ++ r) := by
  have hne : ∀ k, k < W0.heap.size → v.ownBlock ≠ some k := fun k hk e => by
    have := (h.own.lt k e).1
    have := h.low
    omega
  have hb := h.below
  refine ⟨⟨hg.os.trans hb.os, hg.tape.trans hb.tape, hg.output.trans hb.output, Nat.le_trans hb.size hg.size, fun k hk => (hg.block k (by have := hb.size; omega) (fun e => hne k hk e.symm)).trans (hb.block k hk)⟩, ?_, h.low, Nat.le_trans h.base hg.size⟩
  rw [List.length_append, List.flatMap_append]
  exact ho
set_option maxHeartbeats 4000000 in
theorem wpList_rowF {W0 Z : World} {B : Nat} {v : Value} {l : List Flt} (h : Hid (OwnR W0 Z B v l)) (r : List Flt) (ad : Addr) (c : Nat) (hr : Hid (∀ j u, (r.flatMap encF)[j]? = some u → W0.cell? (ad.add j) = some u)) (hk : l.length + r.length ≤ 1000) {ops : Array Oper} {rest : List Oper} {o : Oper} {act : Act} {Q : Exit → Act → World → Prop}
    (s x : Operand) (hop : o.op = Op.call { callee := Callee.builtin Builtin.append, args := #[s, x], argTypes := #[28, 28] }) (hg : Region.wanted o (yielded ops act.tmps) = true) (hs : act.eval s = v) (hx : act.eval x = .slice (some ad) r.length c)
    (hK : ∀ v' w', Hid (OwnR W0 w' B v' (l ++ r)) → wpList Tryz.prog ops Q rest (act.put o.dst v') w') :
    wpList Tryz.prog ops Q (o :: rest) act Z := by
  obtain ⟨i, h2, h3, h4, h5⟩ := info_parts flt_info
  refine wpList_step fun K hKK => ?_
  rw [if_pos hg]
  refine wp_append_own Z s x 28 hop B 51 i _ 2 16 Tryz.underlying28 h2 h3 h4 h5 rfl (by decide) v l.length (l.flatMap encF) hs h.out.own ad r.length c (r.flatMap encF) hx (flat_len r) (fun j u hu => cell_on h.out.below (hr.out j u hu)) (fun u hu => enc_one r u hu) (by unfold maxLen; omega) (by omega) h.out.base fun v' w' ho hgr _ => hKK _ _ (hK _ _ (Lib.hid (h.out.grow ho hgr)))
set_option maxHeartbeats 8000000 in
set_option maxRecDepth 100000 in
theorem ordered_law (s : Value) (l : List Flt) (w : World) (hs : FlsAt w s l) (hn : l.length ≤ reachN) :
    Calls Tryz.prog 8 #[s] w fun r Y => r = .returned (.bool true) ∧ Below w.heap.size w Y := by
  have HS := Lib.hid hs
  obtain ⟨o1, cap1, b1, f1, rfl, _, hC, e1, c1⟩ := hs
  have HC := Lib.hid hC
  clear hC
  obtain ⟨n, hnn⟩ : ∃ n, n = l.length := ⟨_, rfl⟩
  rw [← hnn] at e1 c1 hn HS ⊢
  have HN := Lib.hid hnn
  have E1 := Lib.hid e1
  have C1 := Lib.hid c1
  have hn2 : (n : Int) ≤ 140737488351232 := by unfold reachN at hn; omega
  clear hnn e1 c1 hn
  have AL := Lib.hid (alive_nm w)
  go_enter Tryz.func8, Tryz.ntmps8
  by_cases g : 40 < (n : Int)
  · have g1 : decide ((40 : Int) < (n : Int)) = true := decide_eq_true g
    go_wp2_with (go_at_call 9; (with_reducible refine AL.out.mono ?_); rintro e w1 ⟨rfl, hb1⟩)
    go_ret
    exact ⟨rfl, hb1⟩
  have g1 : decide ((40 : Int) < (n : Int)) = false := decide_eq_false g
  have hn40 : n ≤ 40 := by omega
  have q1 : decide (((ordF l).length : Int) ≤ (n : Int)) = true := decide_eq_true (by have := ord_length l; have := HN.out; omega)
  have q2 : decide ((ordF l).length ≤ n) = true := decide_eq_true (by have := ord_length l; have := HN.out; omega)
  cases o1 with
  | none =>
    have hz : n = 0 := by
      rcases Nat.eq_zero_or_pos n with h | h
      · exact h
      · have := E1.out h; cases this
    have hc0 : cap1 = 0 := HC.out.2 rfl
    subst hz
    subst hc0
    have LN : Hid (l = []) := Lib.hid (List.eq_nil_of_length_eq_zero HN.out.symm)
    go_wp2_with (first
    | (go_at_call 9; (with_reducible refine AL.out.mono ?_); rintro e w1 ⟨rfl, hb1⟩; have HB1 := Lib.hid hb1; clear hb1; have OR := Lib.hid (order_any (.slice none 0 0) l w1 (HS.out.below HB1.out) (by have := HN.out; omega)))
    | (go_at_call 26; (with_reducible refine OR.out.mono ?_); rintro e w2 ⟨v2, rfl, hf2, hb2⟩; have HB2 := Lib.hid (HB1.out.trans (hb2.mono HB1.out.size)); have HF2 := Lib.hid hf2; obtain ⟨o2, cap2, b2, f2, rfl, hx2⟩ := hf2; clear hb2 hx2 OR; have OR2 := Lib.hid (order_any _ (ordF l) w2 HF2.out (by have := ord_length l; have := HN.out; omega)))
    | (go_at_call 26; (with_reducible refine OR2.out.mono ?_); rintro e w3 ⟨v3, rfl, hf3, hb3⟩; have HB3 := Lib.hid (HB2.out.trans (hb3.mono HB2.out.size)); have HF3 := Lib.hid hf3; have HG3 := Lib.hid (HF2.out.below hb3); clear hf3 hb3 OR2; have SM := Lib.hid (same_fl v3 _ (ordF (ordF l)) (ordF l) w3 HF3.out HG3.out (by have := ord_length l; have := ord_length (ordF l); have := HN.out; omega)); rw [decide_eq_true (ord_twice l)] at SM)
    | (go_at_call 14; (with_reducible refine SM.out.mono ?_); rintro e w4 ⟨rfl, hb4⟩; have HB6 := Lib.hid ((HB3.out.trans (hb4.mono HB3.out.size)).trans (((Below.refl w4.heap.size w4).alloc (Nat.le_refl _) (.cells #[] 51)).mono (HB3.out.trans (hb4.mono HB3.out.size)).size)); have HG6 := Lib.hid ((HG3.out.below hb4).below ((Below.refl w4.heap.size w4).alloc (Nat.le_refl _) (.cells #[] 51))); clear hb4 SM; have OR3 : Hid (Calls Tryz.prog 26 #[.slice (some ⟨w4.heap.size, 0, none⟩) 0 0] (w4.alloc (.cells #[] 51)) fun r Y => ∃ v, r = .returned v ∧ FlsAt Y v (ordF (l ++ l)) ∧ Below (w4.alloc (.cells #[] 51)).heap.size (w4.alloc (.cells #[] 51)) Y) := Lib.hid (order_any _ (l ++ l) _ (by rw [LN.out]; exact slAt_none _ _ _ _ _ ⟨Nat.zero_le _, fun h => by cases h⟩ rfl) (by rw [LN.out]; decide)))
    | (go_at_call 26; (with_reducible refine OR3.out.mono ?_); rintro e w7 ⟨v7, rfl, hf7, hb7⟩; have HB7 := Lib.hid (HB6.out.trans (hb7.mono HB6.out.size)); have HF7 := Lib.hid hf7; have HG7 := Lib.hid (HG6.out.below hb7); clear hf7 hb7 OR3; have SM2 := Lib.hid (same_fl v7 _ (ordF (l ++ l)) (ordF l) w7 HF7.out HG7.out (by have h1 := ord_length (l ++ l); have := HN.out; rw [List.length_append] at h1; omega)); rw [decide_eq_true (ord_doubled l)] at SM2)
    | (go_at_call 14; (with_reducible refine SM2.out.mono ?_); rintro e w8 ⟨rfl, hb8⟩; have HB8 := Lib.hid (HB7.out.trans (hb8.mono HB7.out.size)); clear hb8 SM2))
    go_ret
    exact ⟨by rw [decide_eq_true (show ordF l = [] by rw [LN.out]; exact ord_nil)]; rfl, HB8.out⟩
  | some a =>
    have RA : Hid (∀ j u, (l.flatMap encF)[j]? = some u → w.cell? (a.add j) = some u) := Lib.hid (fun j u hu => by
      rcases Nat.eq_zero_or_pos n with h | h
      · rw [List.eq_nil_of_length_eq_zero (HN.out.symm.trans h)] at hu
        simp at hu
      · have e := E1.out h
        injection e with e
        subst e
        exact flat_at (by rw [← HN.out]; exact C1.out) j u hu)
    go_wp2_with (first
    | (go_at_call 9; (with_reducible refine AL.out.mono ?_); rintro e w1 ⟨rfl, hb1⟩; have HB1 := Lib.hid hb1; clear hb1; have OR := Lib.hid (order_any (.slice (some a) n cap1) l w1 (HS.out.below HB1.out) (by have := HN.out; omega)))
    | (go_at_call 26; (with_reducible refine OR.out.mono ?_); rintro e w2 ⟨v2, rfl, hf2, hb2⟩; have HB2 := Lib.hid (HB1.out.trans (hb2.mono HB1.out.size)); have HF2 := Lib.hid hf2; obtain ⟨o2, cap2, b2, f2, rfl, hx2⟩ := hf2; clear hb2 hx2 OR; have OR2 := Lib.hid (order_any _ (ordF l) w2 HF2.out (by have := ord_length l; have := HN.out; omega)))
    | (go_at_call 26; (with_reducible refine OR2.out.mono ?_); rintro e w3 ⟨v3, rfl, hf3, hb3⟩; have HB3 := Lib.hid (HB2.out.trans (hb3.mono HB2.out.size)); have HF3 := Lib.hid hf3; have HG3 := Lib.hid (HF2.out.below hb3); clear hf3 hb3 OR2; have SM := Lib.hid (same_fl v3 _ (ordF (ordF l)) (ordF l) w3 HF3.out HG3.out (by have := ord_length l; have := ord_length (ordF l); have := HN.out; omega)); rw [decide_eq_true (ord_twice l)] at SM)
    | (go_at_call 14; (with_reducible refine SM.out.mono ?_); rintro e w4 ⟨rfl, hb4⟩; have HB4 := Lib.hid (HB3.out.trans (hb4.mono HB3.out.size)); have HG4 := Lib.hid (HG3.out.below hb4); clear hb4 SM; have R0 := Lib.hid (ownR_made w4); have RC : Hid (∀ j u, (l.flatMap encF)[j]? = some u → w4.cell? (a.add j) = some u) := Lib.hid (fun j u hu => cell_on HB4.out (RA.out j u hu)))
    | (at_builtin; refine wpList_rowF R0 l a cap1 RC (by have := HN.out; simp; omega) _ _ rfl rfl rfl (by rw [← HN.out]; rfl) ?_; intro v5 w5 h5; clear R0)
    | (at_builtin; refine wpList_rowF h5 l a cap1 RC (by have := HN.out; simp; omega) _ _ rfl rfl rfl (by rw [← HN.out]; rfl) ?_; intro v6 w6 h6; clear RC; have HB6 := Lib.hid (HB4.out.trans (h6.out.below.mono HB4.out.size)); have HG6 := Lib.hid (HG4.out.below h6.out.below); have OR3 := Lib.hid (order_any v6 (l ++ l) w6 (flsAt_own h6.out.own) (by have := HN.out; simp; omega)))
    | (go_at_call 26; (with_reducible refine OR3.out.mono ?_); rintro e w7 ⟨v7, rfl, hf7, hb7⟩; have HB7 := Lib.hid (HB6.out.trans (hb7.mono HB6.out.size)); have HF7 := Lib.hid hf7; have HG7 := Lib.hid (HG6.out.below hb7); clear hf7 hb7 OR3; have SM2 := Lib.hid (same_fl v7 _ (ordF (l ++ l)) (ordF l) w7 HF7.out HG7.out (by have h1 := ord_length (l ++ l); have := HN.out; rw [List.length_append] at h1; omega)); rw [decide_eq_true (ord_doubled l)] at SM2)
    | (go_at_call 14; (with_reducible refine SM2.out.mono ?_); rintro e w8 ⟨rfl, hb8⟩; have HB8 := Lib.hid (HB7.out.trans (hb8.mono HB7.out.size)); clear hb8 SM2))
    go_ret
    exact ⟨rfl, HB8.out⟩
end Go.Proofs.YtappngloeieafaaGreat
