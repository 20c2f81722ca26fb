/- What the reference's Mul answers of two numbers in bits: their product. -/
import Derived.Test.YtehngngkdnmhgaaRefHeld
import Derived.Laws.AppendOwnNone
namespace Go.Proofs.Ytehngngkdnmhgaa
open Go.RowKit

/-- a bit laid ahead of a list that is read: the row is new -/
theorem wpList_cons {ops : Array Oper} {rest : List Oper} {o : Oper} {a : Act} {Q : Exit → Act → World → Prop} (wr : World) (hgd : o.guard = none) (s x : Operand)
    (ho : o.op = .call { callee := .builtin .append, args := #[s, x], argTypes := #[27, 27] })
    (b : Bool) (A : Option Addr) (c : Nat) (zs : List Bool) (hs : a.eval s = .slice (some ⟨wr.heap.size, 0, none⟩) 1 1) (hx : a.eval x = .slice A zs.length c)
    (hr : RB wr A c zs) (hn : (A = none ∧ c = 0 ∧ zs = []) ∨ zs ≠ []) (hlen : zs.length ≤ 1000000)
    (h : ∀ v' w', OB w' wr.heap.size v' (b :: zs) → Below wr.heap.size wr w' → wpList Try.prog ops Q rest (a.put o.dst v') w') :
    wpList Try.prog ops Q (o :: rest) a (wr.alloc (.cells #[.bool b] 4)) := by
  obtain ⟨i0, hi, hz0, hz1, hz2⟩ := info_parts boolInfo
  have hown : (wr.alloc (.cells #[.bool b] 4)).ownsRow wr.heap.size 4 1 (.slice (some ⟨wr.heap.size, 0, none⟩) 1 1) 1 [.bool b] :=
    ⟨rfl, .inr ⟨wr.heap.size, 1, #[.bool b], rfl, Nat.le_refl _, heap_alloc_new wr _, by omega, by unfold maxLen; omega, rfl, rfl⟩⟩
  rcases hn with ⟨rfl, rfl, rfl⟩ | hn
  · refine wpList_append_own_none hgd s x 27 ho wr.heap.size 4 i0 1 Try.underlying27 hi _ 1 [.bool b] hs hown hx ?_
    exact h _ _ hown ((Below.refl _ wr).alloc (Nat.le_refl _) _)
  · obtain ⟨ad, rfl, hbl, hc⟩ := hr.2.2 hn
    refine wpList_append_own _ hgd s x 27 ho wr.heap.size 4 i0 (.bool false) 1 1 Try.underlying27 hi hz0 hz1 hz2 rfl (by decide) _ 1 [.bool b] hs
      hown ad zs.length c (zs.map Value.bool) hx (by simp) ?_ ?_ (by unfold maxLen; omega) (by omega) (by simp) fun v' w' h1 h2 _ => ?_
    · intro j u hu
      rw [List.getElem?_map] at hu
      cases hj : zs[j]? with
      | none => rw [hj] at hu; cases hu
      | some y =>
        rw [hj] at hu
        injection hu with hu
        subst hu
        exact (World.cell?_alloc_lt _ _ _ (by rw [add_block]; exact hbl)).trans (hc j y hj)
    · intro u hu
      obtain ⟨y, _, rfl⟩ := List.mem_map.1 hu
      rfl
    · refine h v' w' ?_ ?_
      · unfold OB
        rw [List.map_cons, List.length_cons, Nat.add_comm]
        exact h1
      · refine ((Below.refl _ wr).alloc (Nat.le_refl _) _).grown h2 (by simp) fun k hk => ?_
        injection hk with hk
        simp at hk
        omega
/-- what Mul has made of the bits from k on -/
def MulAt (xs ys zs : List Bool) (k : Nat) : Prop := k ≤ ys.length ∧ val zs = val xs * val (ys.drop k) ∧ zs.length ≤ xs.length + 2 * (ys.length - k)
theorem mulAt_start (xs ys : List Bool) : MulAt xs ys [] ys.length := ⟨Nat.le_refl _, by rw [List.drop_length]; simp [val], by simp⟩
theorem mulAt_no {xs ys zs : List Bool} {k : Nat} (h : MulAt xs ys zs (k + 1)) (hb : ys[k]? = some false) : MulAt xs ys (false :: zs) k := by
  obtain ⟨h1, h2, h3⟩ := h
  refine ⟨by omega, ?_, by rw [List.length_cons]; omega⟩
  rw [val_drop_cons hb, val, h2, Nat.mul_add, Nat.mul_left_comm]
  simp [bit]
theorem mulAt_yes {xs ys zs ws : List Bool} {k : Nat} (h : MulAt xs ys zs (k + 1)) (hb : ys[k]? = some true) (hv : val ws = val (false :: zs) + val xs) (hl : ws.length ≤ max (zs.length + 1) xs.length + 1) : MulAt xs ys ws k := by
  obtain ⟨h1, h2, h3⟩ := h
  refine ⟨by omega, ?_, by omega⟩
  rw [val_drop_cons hb, hv, val, h2, Nat.mul_add, Nat.mul_left_comm]
  simp [bit]
  omega
def MulQ (P l : Nat) (zs : List Bool) : Prop := val zs = P ∧ zs.length ≤ l
theorem chain2 {B : Nat} {W a b : World} (h : Below B W a) (k : Below a.heap.size a b) (hB : B ≤ a.heap.size := by omega) : Below B W b := h.trans (k.mono hB)
theorem keep_cell {B : Nat} {W w1 : World} {g i j : Nat} {v : Value} (hb : Below B W w1) (hi : g + i < B) (hv : W.cell? ⟨g + i, j, none⟩ = some v) : w1.cell? ⟨g + i, j, none⟩ = some v := (hb.cell (p := ⟨g + i, j, none⟩) hi).trans hv
theorem far_20dd (w : World) (g o o2 o' : Nat) (u u2 : Value) : (((w.setCell ⟨g + 1 + 1, o, none⟩ u).setCell ⟨g + 1 + 1, o2, none⟩ u2).drew).cell? ⟨g, o', none⟩ = w.cell? ⟨g, o', none⟩ :=
  (far_20 (w.setCell ⟨g + 1 + 1, o, none⟩ u) g o2 o' u2).trans (far_20 w g o o' u)
theorem far_21dd (w : World) (g o o2 o' : Nat) (u u2 : Value) : (((w.setCell ⟨g + 1 + 1, o, none⟩ u).setCell ⟨g + 1 + 1, o2, none⟩ u2).drew).cell? ⟨g + 1, o', none⟩ = w.cell? ⟨g + 1, o', none⟩ :=
  (far_21 (w.setCell ⟨g + 1 + 1, o, none⟩ u) g o2 o' u2).trans (far_21 w g o o' u)
set_option maxHeartbeats 4000000 in
theorem mul_ref (A B : Option Addr) (c d : Nat) (xs ys : List Bool) (s t : Bool) (w : World) (hx : RB w A c xs) (hy : RB w B d ys) (lx : xs.length ≤ 1000) (ly : ys.length ≤ 1000) :
    Calls Try.prog 29 #[.agg #[.slice A xs.length c, .bool s], .agg #[.slice B ys.length d, .bool t]] w fun e w' => BigPost (s != t) (MulQ (val xs * val ys) (xs.length + 2 * ys.length)) w e w' := by
  have HX := Lib.hid hx; have HY := Lib.hid hy; have LX := Lib.hid lx; have LY := Lib.hid ly
  obtain ⟨m, hm⟩ : ∃ m : Nat, m = ys.length := ⟨_, rfl⟩
  obtain ⟨Q, hQ⟩ : ∃ Q : List Bool → Prop, Q = MulQ (val xs * val ys) (xs.length + 2 * ys.length) := ⟨_, rfl⟩
  rw [← hQ]
  have QE := Lib.hid hQ
  obtain ⟨S, hS⟩ : ∃ S : Bool, S = (s != t) := ⟨_, rfl⟩
  rw [← hS]
  have SE := Lib.hid hS
  rw [← hm]
  rw [← hm] at ly
  have M := Lib.hid hm
  have ly' : (m : Int) ≤ 1000 := by omega
  clear hx hy lx ly hm hQ hS
  go_enter Try.func29, Try.ntmps29
  go_upto_region 1 with (fail)
  obtain ⟨W2, hW2⟩ : ∃ W2 : World, W2 = ((w.alloc (.cells #[.slice A xs.length c, .bool s] 29)).alloc (.cells #[.slice B m d, .bool t] 29)).alloc (.cells #[.slice none 0 0, .bool false] 29) := ⟨_, rfl⟩
  rw [← hW2]
  have hz2 : W2.heap.size = w.heap.size + 3 := by rw [hW2]; simp
  have hbel : Below w.heap.size w W2 := by rw [hW2]; exact (((Below.refl _ w).alloc (Nat.le_refl _) _).alloc (by simp) _).alloc (by simp; omega) _
  have c0 : W2.cell? ⟨w.heap.size, 0, none⟩ = some (.slice A xs.length c) := by rw [hW2]; go_simp
  have c1 : W2.cell? ⟨w.heap.size, 1, none⟩ = some (.bool s) := by rw [hW2]; go_simp
  have c2 : W2.cell? ⟨w.heap.size + 1, 0, none⟩ = some (.slice B m d) := by rw [hW2]; go_simp
  have c3 : W2.cell? ⟨w.heap.size + 1, 1, none⟩ = some (.bool t) := by rw [hW2]; go_simp
  have c4 : W2.cell? ⟨w.heap.size + 1 + 1, 0, none⟩ = some (.slice none 0 0) := by rw [hW2]; go_simp
  have c5 : W2.cell? ⟨w.heap.size + 1 + 1, 1, none⟩ = some (.bool false) := by rw [hW2]; go_simp
  have f4 : W2.frozen? ⟨w.heap.size + 1 + 1, 0, none⟩ = false := by rw [hW2]; go_simp
  have f5 : W2.frozen? ⟨w.heap.size + 1 + 1, 1, none⟩ = false := by rw [hW2]; go_simp
  have BL := Lib.hid hbel
  have Z2 := Lib.hid hz2
  clear hW2 hbel hz2
  have HX2 := Lib.hid (rb_below HX.out BL.out)
  have HY2 := Lib.hid (rb_below HY.out BL.out)
  go_wp2_with fail
  go_loopw [6, 5] (fun i v wr => ∃ (k : Nat) (A' : Option Addr) (c' : Nat) (zs : List Bool), Hid (MulAt xs ys zs k) ∧ k ≤ m ∧ i = .int .i64 ((k : Int) - 1) ∧ v = .slice A' zs.length c' ∧ Hid (RB wr A' c' zs) ∧ Hid ((A' = none ∧ c' = 0 ∧ zs = []) ∨ zs ≠ []) ∧ Hid (∀ ad, A' = some ad → W2.heap.size ≤ ad.block) ∧ Hid (Below W2.heap.size W2 wr)) (fun i _ _ => (intOf i + 1).toNat)
  case atStart => exact ⟨m, none, 0, [], Lib.hid (by rw [M.out]; exact mulAt_start xs ys), Nat.le_refl _, rfl, rfl, Lib.hid (rb_nil _), Lib.hid (.inl ⟨rfl, rfl, rfl⟩), Lib.hid (fun ad e => by cases e), Lib.hid (Below.refl _ _)⟩
  case round =>
    rename_i wr
    obtain ⟨k, A', c', zs, hp, hk, rfl, rfl, hr, hn, hf, hb⟩ := hrel
    have d0 : wr.cell? ⟨w.heap.size, 0, none⟩ = some (.slice A xs.length c) := keep_cell (g := w.heap.size) (i := 0) hb.out (by rw [Z2.out]; omega) c0
    have d1 : wr.cell? ⟨w.heap.size, 1, none⟩ = some (.bool s) := keep_cell (g := w.heap.size) (i := 0) hb.out (by rw [Z2.out]; omega) c1
    have d2 : wr.cell? ⟨w.heap.size + 1, 0, none⟩ = some (.slice B m d) := keep_cell (g := w.heap.size) (i := 1) hb.out (by rw [Z2.out]; omega) c2
    have d3 : wr.cell? ⟨w.heap.size + 1, 1, none⟩ = some (.bool t) := keep_cell (g := w.heap.size) (i := 1) hb.out (by rw [Z2.out]; omega) c3
    have d4 : wr.cell? ⟨w.heap.size + 1 + 1, 0, none⟩ = some (.slice none 0 0) := keep_cell (g := w.heap.size) (i := 2) hb.out (by rw [Z2.out]; omega) c4
    have d5 : wr.cell? ⟨w.heap.size + 1 + 1, 1, none⟩ = some (.bool false) := keep_cell (g := w.heap.size) (i := 2) hb.out (by rw [Z2.out]; omega) c5
    have e4 : wr.frozen? ⟨w.heap.size + 1 + 1, 0, none⟩ = false := (Below.frozen hb.out (p := ⟨w.heap.size + 1 + 1, 0, none⟩) (by have := Z2.out; show w.heap.size + 1 + 1 < W2.heap.size; omega)).trans f4
    have e5 : wr.frozen? ⟨w.heap.size + 1 + 1, 1, none⟩ = false := (Below.frozen hb.out (p := ⟨w.heap.size + 1 + 1, 1, none⟩) (by have := Z2.out; show w.heap.size + 1 + 1 < W2.heap.size; omega)).trans f5
    rcases k with _ | k
    · go_wp2_with fail
      go_region_held3 (fun w' => w'.cell? ⟨w.heap.size, 1, none⟩ = some (.bool s) ∧ w'.cell? ⟨w.heap.size + 1, 1, none⟩ = some (.bool t))
        ((repeat' apply And.intro) <;> first | assumption | exact (far_20dd _ _ _ _ _ _ _).trans d1 | exact (far_21dd _ _ _ _ _ _ _).trans d3 | go_keep)
        (first | (go_at_call 32; refine (trim_any A' c' zs _ (rb_drew hr.out)).mono ?_; rintro e w1 ⟨j, hj, rfl, hv, ht, rfl⟩; have V := Lib.hid hv; have T := Lib.hid ht; have J := Lib.hid hj; clear hv ht hj))
      go_wp2_with fail
      have hlj : (zs.take j).length = j := by rw [List.length_take]; have := J.out; omega
      have hne : ∀ ad, A' = some ad → ad.block ≠ w.heap.size + 1 + 1 := fun ad e => by have h1 := hf.out ad e; have h2 := Z2.out; omega
      refine bodyPost_ret (v := .agg #[.slice A' j c', .bool (!(s == t))]) (by simp [results, Try.results29, go_sem, d4, d5]) rfl ⟨A', c', zs.take j, ?_, ?_, ?_, ?_⟩
      · rw [hlj, SE.out]; rfl
      · exact rb_set_far (rb_set_far (rb_take hr.out j) hne _) hne _
      · rw [QE.out]
        have h1 := hp.out.2.1
        rw [List.drop_zero] at h1
        exact ⟨V.out.trans h1, by rw [hlj]; have h2 := hp.out.2.2; have h3 := J.out; omega⟩
      · exact (((BL.out.trans (hb.out.mono (by rw [Z2.out]; omega))).setCell (p := ⟨w.heap.size + 1 + 1, 0, none⟩) (by show w.heap.size ≤ w.heap.size + 1 + 1; omega) (.slice A' j c')).setCell (p := ⟨w.heap.size + 1 + 1, 1, none⟩) (by show w.heap.size ≤ w.heap.size + 1 + 1; omega) (.bool (!(s == t)))).drew
    · have hky : k < ys.length := by rw [← M.out]; omega
      obtain ⟨ay, rfl, hby, hcy⟩ := HY2.out.2.2 (by rintro rfl; simp at hky)
      obtain ⟨b, hbk⟩ : ∃ b, ys[k]? = some b := ⟨_, List.getElem?_eq_getElem hky⟩
      have cy : wr.cell? (ay.add k) = some (.bool b) := (hb.out.cell (by rw [add_block]; exact hby)).trans (hcy k b hbk)
      have YK := Lib.hid hbk
      have cy0 := Lib.hid (hcy k b hbk)
      have LX2 := Lib.hid (show xs.length ≤ 100000 by have := LX.out; omega)
      have BY := Lib.hid hby
      have i1 : ((k + 1 : Nat) : Int) - 1 = (k : Int) := by omega
      rw [i1]
      have hkm : (k : Int) < m := by omega
      have L1 := Lib.hid (show zs.length ≤ 1000000 by have h1 := hp.out.2.2; have h2 := LX.out; have h3 := LY.out; omega)
      clear hcy hby hbk hky i1
      cases b
      · go_wp2_with (at_builtin; refine wpList_cons _ rfl (.tmp 15) (.tmp 16) rfl false A' c' zs rfl rfl hr.out hn.out L1.out ?_; intro v1 w1 ho1 hb1; obtain ⟨z1, hz1⟩ : ∃ z1, z1 = false :: zs := ⟨_, rfl⟩; rw [← hz1] at ho1; obtain ⟨A1, c1', rfl, hr1⟩ := ob_rb ho1; have hbb := chain2 hb.out hb1 hb.out.size; have FR := Lib.hid (ob_fresh ho1); have R1 := Lib.hid hr1; have HZ1 := Lib.hid hz1; have LZ := Lib.hid (show z1.length ≤ 100000 by (rw [hz1, List.length_cons]; have h1 := hp.out.2.2; have h2 := LX.out; have h3 := LY.out; omega)); have cy1 := (hbb.cell (by rw [add_block]; exact BY.out)).trans cy0.out; have k2 : w1.cell? ⟨w.heap.size + 1, 0, none⟩ = some (.slice (some ay) m d) := keep_cell (g := w.heap.size) (i := 1) hbb (by rw [Z2.out]; omega) c2; have k0 : w1.cell? ⟨w.heap.size, 0, none⟩ = some (.slice A xs.length c) := keep_cell (g := w.heap.size) (i := 0) hbb (by rw [Z2.out]; omega) c0; have BB1 := Lib.hid hbb; clear hz1 ho1 hb1 hr1 hbb)
        have FR' : ∀ ad, A1 = some ad → W2.heap.size ≤ ad.block := fun ad e => Nat.le_trans hb.out.size (FR.out ad e)
        have MA : MulAt xs ys z1 k := by rw [HZ1.out]; exact mulAt_no hp.out YK.out
        have NE : z1 ≠ [] := by rw [HZ1.out]; simp
        go_roundw
        case rel => exact ⟨k, A1, c1', z1, Lib.hid MA, by omega, rfl, rfl, R1, Lib.hid (.inr NE), Lib.hid FR', BB1⟩
        case measure => simp [intOf]
      · go_wp2_with (first
          | (at_builtin; refine wpList_cons _ rfl (.tmp 15) (.tmp 16) rfl false A' c' zs rfl rfl hr.out hn.out L1.out ?_; intro v1 w1 ho1 hb1; obtain ⟨z1, hz1⟩ : ∃ z1, z1 = false :: zs := ⟨_, rfl⟩; rw [← hz1] at ho1; obtain ⟨A1, c1', rfl, hr1⟩ := ob_rb ho1; have hbb := chain2 hb.out hb1 hb.out.size; have FR := Lib.hid (ob_fresh ho1); have R1 := Lib.hid hr1; have HZ1 := Lib.hid hz1; have LZ := Lib.hid (show z1.length ≤ 100000 by (rw [hz1, List.length_cons]; have h1 := hp.out.2.2; have h2 := LX.out; have h3 := LY.out; omega)); have cy1 := (hbb.cell (by rw [add_block]; exact BY.out)).trans cy0.out; have k2 : w1.cell? ⟨w.heap.size + 1, 0, none⟩ = some (.slice (some ay) m d) := keep_cell (g := w.heap.size) (i := 1) hbb (by rw [Z2.out]; omega) c2; have k0 : w1.cell? ⟨w.heap.size, 0, none⟩ = some (.slice A xs.length c) := keep_cell (g := w.heap.size) (i := 0) hbb (by rw [Z2.out]; omega) c0; have BB1 := Lib.hid hbb; clear hz1 ho1 hb1 hr1 hbb)
          | (go_at_call 41; refine (plus_any A1 A c1' c z1 xs _ R1.out (rb_below HX2.out BB1.out) LZ.out LX2.out).mono ?_; rintro e w2 ⟨A2, c2', ws, rfl, hr2, hq2, hb2, hf2⟩; have R2 := Lib.hid hr2; have Q2 := Lib.hid hq2; have B2 := Lib.hid hb2; have F2 := Lib.hid hf2; clear hr2 hq2 hb2 hf2))
        have FR' : ∀ ad, A2 = some ad → W2.heap.size ≤ ad.block := fun ad e => Nat.le_trans BB1.out.size (F2.out ad e)
        have MA : MulAt xs ys ws k := mulAt_yes hp.out YK.out (by rw [Q2.out.1, HZ1.out]) (by have h := Q2.out.2.1; rw [HZ1.out, List.length_cons] at h; exact h)
        have NE : ws ≠ [] := by
          have h : 0 < ws.length := by have h1 := Q2.out.2.2; rw [HZ1.out, List.length_cons] at h1; omega
          rintro rfl
          simp at h
        go_roundw
        case rel => exact ⟨k, A2, c2', ws, Lib.hid MA, by omega, rfl, rfl, R2, Lib.hid (.inr NE), Lib.hid FR', Lib.hid (chain2 BB1.out B2.out BB1.out.size)⟩
        case measure => simp [intOf]
end Go.Proofs.Ytehngngkdnmhgaa
