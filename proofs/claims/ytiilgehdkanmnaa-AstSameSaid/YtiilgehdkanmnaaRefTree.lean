/- The reference's Tree, onto a list. -/
import Derived.Test.YtiilgehdkanmnaaAstKit
import Derived.Shelf.RegionOpen
namespace Go.Proofs.Ytiilgehdkanmnaa
open Go.RowKit Go.Shelf

attribute [local go_sem] Oper.semAt_some

/-- a list, and of another as much as there is room -/
def cutL (m : Nat) (l t : List Nat) : List Nat := l ++ t.take (m - l.length)
theorem cutL_append (m : Nat) (l t1 t2 : List Nat) : cutL m (cutL m l t1) t2 = cutL m l (t1 ++ t2) := by
  unfold cutL
  rw [List.take_append, List.append_assoc, List.length_append, List.length_take]
  congr 3
  omega
theorem cutL_len (m : Nat) (l t : List Nat) (h : l.length ≤ 100000) (hm : m ≤ 100000) : (cutL m l t).length ≤ 100000 := by
  unfold cutL
  rw [List.length_append, List.length_take]
  omega
theorem cutL_full (m : Nat) (l t : List Nat) (h : m ≤ l.length) : cutL m l t = l := by
  unfold cutL
  rw [Nat.sub_eq_zero_of_le h]
  simp
theorem cutL_one (m : Nat) (l : List Nat) (e : Nat) (h : l.length < m) : cutL m l [e] = l ++ [e] := by
  unfold cutL
  obtain ⟨k, hk⟩ : ∃ k, m - l.length = k + 1 := ⟨m - l.length - 1, by omega⟩
  rw [hk]
  simp
theorem own_slice {X : World} {base : Nat} {v : Value} {k : Nat} {xs : List Value} (h : X.ownsRow base 3 1 v k xs) : ∃ o cap, v = .slice o k cap := by
  rcases h.2 with ⟨rfl, rfl⟩ | ⟨g, cap, cur, rfl, _⟩
  · exact ⟨none, 0, rfl⟩
  · exact ⟨_, cap, rfl⟩
theorem own_sl2 {w : World} {base : Nat} {v : Value} {l : List Int} (h : w.ownsRow base 3 1 v l.length (l.map intV)) :
    ∃ o cap g, v = .slice o l.length cap ∧ (0 < l.length → o = some ⟨g, 0, none⟩) ∧ (0 < l.length → base ≤ g) ∧ ∀ j, j < l.length → w.cell? ⟨g, j, none⟩ = some (.int .i64 (l.getD j 0)) := by
  obtain ⟨o, cap, g, h1, h2, h3⟩ := own_sl h
  refine ⟨o, cap, g, h1, h2, fun hp => ?_, h3⟩
  exact (own_lt h (by rw [h1, h2 hp]; rfl)).1
/-- where the list lies, behind a call -/
def RowAfter (W : World) (lv : Value) (v : Value) (Y : World) : Prop := W.grownBy Y lv.ownBlock ∧ (v.ownBlock = lv.ownBlock ∨ ∃ g, v.ownBlock = some g ∧ W.heap.size ≤ g)
theorem RowAfter.trans {W Y Z : World} {a b c : Value} (h : RowAfter W a b Y) (k : RowAfter Y b c Z) : RowAfter W a c Z := by
  refine ⟨⟨k.1.os.trans h.1.os, k.1.tape.trans h.1.tape, k.1.output.trans h.1.output, Nat.le_trans h.1.size k.1.size, fun j hj hne => ?_⟩, ?_⟩
  · refine (k.1.block j (Nat.lt_of_lt_of_le hj h.1.size) fun e => ?_).trans (h.1.block j hj hne)
    rcases h.2 with h2 | ⟨g, h2, h3⟩
    · exact hne (e.trans h2)
    · rw [h2] at e; have := Option.some.inj e; omega
  · rcases k.2 with k2 | ⟨g, k2, k3⟩
    · rw [k2]; exact h.2
    · exact .inr ⟨g, k2, Nat.le_trans h.1.size k3⟩
set_option maxHeartbeats 8000000 in
set_option maxRecDepth 100000 in
theorem refTree_core (p : Pr) (o1 : Option Addr) (m dcap b off cap nn : Nat) (hnn : Hid (p.exprs.length = nn)) (nl : (nn : Int) ≤ 300) (hm : Hid (mayP p = true)) (hS : Hid (Small p)) (w0 : World) (hc : Hid (∀ i, i < nn → ∀ x, p.exprs[i]? = some x → ExAt w0 b (off + i * 9) x)) (most : Nat) (hmost : (most : Int) ≤ 100000) :
    ∀ e : Nat, e < nn → ∀ (l : List Nat) (lv : Value) (W : World), (l.length : Int) ≤ 100000 → Below w0.heap.size w0 W → W.ownsRow w0.heap.size 3 1 lv l.length (l.map natV) →
      CallsIn Fence.wide 5 Try.prog 31 #[.agg #[.slice o1 m dcap, .slice (some ⟨b, off, none⟩) nn cap], .int .i64 (e : Int), lv, .int .i64 (most : Int)] W fun r Y =>
        ∃ v, r = .returned v ∧ Y.ownsRow w0.heap.size 3 1 v (cutL most l (tree p e)).length ((cutL most l (tree p e)).map natV) ∧ RowAfter W lv v Y := by
  intro e
  induction e using Nat.strongRecOn with
  | _ e ih =>
  intro he l lv W hll hW hown
  obtain ⟨o, cl, rfl⟩ := own_slice hown
  obtain ⟨k, hk⟩ : ∃ k, k = l.length := ⟨_, rfl⟩
  rw [← hk] at hown hll ⊢
  have IH := Lib.hid ih
  have HOWN := Lib.hid hown
  have HW := Lib.hid hW
  have HK := Lib.hid hk
  clear ih hown hW hk
  by_cases hfull : most ≤ k
  · have hf : (most : Int) ≤ (k : Int) := by omega
    refine callsIn_of_wp Try.func31 rfl trivial ?_ rfl
    simp only [Try.ntmps31, List.size_toArray, List.length_cons, List.length_nil, Nat.reduceAdd, Nat.reduceSub, Array.replicate_succ, Array.replicate_zero, List.push_toArray, List.append_toArray, List.nil_append, List.cons_append]
    gi_wp2
    refine ⟨rfl, _, results_tmp (t := 8) (by kernel_rfl) _ _ _, _, rfl, ?_, ?_⟩
    · rw [cutL_full most l _ (by rw [← HK.out]; exact hfull), ← HK.out]
      refine own_same HOWN.out fun g hg => ?_
      obtain ⟨_, cur, hcur⟩ := own_lt HOWN.out hg
      exact heap_old _ _ _ (lt_of_heap hcur)
    · exact ⟨World.grownBy_alloc _ _ _, .inl rfl⟩
  · have hf : ¬ (most : Int) ≤ (k : Int) := by omega
    obtain ⟨x, hxk⟩ : ∃ x, p.exprs[e]? = some x := ⟨_, List.getElem?_eq_getElem (by have := hnn.out; omega)⟩
    refine callsIn_of_wp Try.func31 rfl trivial ?_ rfl
    simp only [Try.ntmps31, List.size_toArray, List.length_cons, List.length_nil, Nat.reduceAdd, Nat.reduceSub, Array.replicate_succ, Array.replicate_zero, List.push_toArray, List.append_toArray, List.nil_append, List.cons_append]
    have hrb : ∀ g, (Value.slice o k cl).ownBlock = some g → w0.heap.size ≤ g ∧ g < W.heap.size := fun g hg => by
      obtain ⟨h1, cur, hcur⟩ := own_lt HOWN.out hg
      exact ⟨h1, lt_of_heap hcur⟩
    obtain ⟨Wb, hWb⟩ : ∃ Wb, Wb = (W.alloc (.cells #[.slice o1 m dcap, .slice (some ⟨b, off, none⟩) nn cap] 25)).alloc (.cells #[.int .i64 (e : Int)] 3) := ⟨_, rfl⟩
    have zb : Wb.heap.size = W.heap.size + 2 := by rw [hWb, World.size_alloc, World.size_alloc]
    have bb : Below W.heap.size W Wb := by rw [hWb]; exact ((Below.refl _ W).alloc (Nat.le_refl _) _).alloc (by rw [World.size_alloc]; omega) _
    have pb : Wb.heap[W.heap.size]? = some (.cells #[.slice o1 m dcap, .slice (some ⟨b, off, none⟩) nn cap] 25 (0, 0)) := by
      rw [hWb, heap_old _ _ _ (by rw [World.size_alloc]; omega)]; exact World.alloc_heap_new W _
    have cb : Wb.cell? ⟨W.heap.size + 1, 0, none⟩ = some (.int .i64 (e : Int)) := by
      have h := World.alloc_heap_new (W.alloc (.cells #[.slice o1 m dcap, .slice (some ⟨b, off, none⟩) nn cap] 25)) (.cells #[.int .i64 (e : Int)] 3)
      rw [World.size_alloc, ← hWb] at h
      simp [World.cell?, h]
    have ob : Wb.ownsRow w0.heap.size 3 1 (.slice o k cl) k (l.map natV) := own_same HOWN.out fun g hg => bb.block g (hrb g hg).2
    have hw0b := HW.out.trans (bb.mono HW.out.size)
    have app : ∀ (v1 : Value) (W2 : World), W2.ownsRow w0.heap.size 3 1 v1 (k + 1) (l.map natV ++ [.int .i64 (e : Int)]) → Wb.grownBy W2 (Value.slice o k cl).ownBlock → (v1.ownBlock = (Value.slice o k cl).ownBlock ∨ v1.ownBlock = some Wb.heap.size) →
        Below w0.heap.size w0 W2 ∧ W2.heap[W.heap.size]? = some (.cells #[.slice o1 m dcap, .slice (some ⟨b, off, none⟩) nn cap] 25 (0, 0)) ∧ RowAfter W (.slice o k cl) v1 W2 ∧ (v1.ownBlock = (Value.slice o k cl).ownBlock ∨ v1.ownBlock = some (W.heap.size + 2)) := fun v1 W2 h1 h2 h3 => by
      refine ⟨hw0b.grown h2 hw0b.size fun g hg => (hrb g hg).1, (h2.block _ (by omega) fun h => by have := (hrb _ h.symm).2; omega).trans pb, ⟨⟨h2.os.trans bb.os, h2.tape.trans bb.tape, h2.output.trans bb.output, by have := h2.size; omega, fun j hj hne => (h2.block j (by omega) hne).trans (bb.block j hj)⟩, h3.imp id fun h => ⟨_, h, by omega⟩⟩, by rw [← zb]; exact h3⟩
    have APP := Lib.hid app
    have OB := Lib.hid ob
    have ZB : w0.heap.size ≤ Wb.heap.size := hw0b.size
    have hpl := parts_small hS.out hxk
    rw [hWb] at OB cb ZB
    have HWB := Lib.hid hWb
    clear app ob pb bb zb hWb hw0b hrb
    have HXK := Lib.hid hxk
    have ix := ix_exs (cap := cap) (o := some ⟨b, off, none⟩) (n := nn) (b := b) (off := off) (fun _ => rfl) he (by omega)
    unfold Ix at ix
    gi_wp2_with (first
      | (gi_at_builtin; refine wpListIn_append_int _ rfl _ _ rfl w0.heap.size (.slice o k cl) k _ rfl OB.out ⟨W.heap.size + 1, 0, none⟩ [.int .i64 (e : Int)] rfl rfl (fun j u hu => by
          match j, hu with
          | 0, hu => cases hu; exact cb) (by simp [Value.oneCell']) (by omega) ZB ?_; intro v1 W2 hown1 hgrow1 hat1; obtain ⟨q0, q1, q2, q3⟩ := APP.out v1 W2 hown1 (by rw [HWB.out]; exact hgrow1) (by rw [HWB.out]; exact hat1); have p0 : W2.cell? ⟨W.heap.size, 0, none⟩ = some (.slice o1 m dcap) := (by simp [World.cell?, q1]); have p1 : W2.cell? ⟨W.heap.size, 1, none⟩ = some (.slice (some ⟨b, off, none⟩) nn cap) := (by simp [World.cell?, q1]);
          obtain ⟨sx, d0, d1, d2, d3, d4, d5, d6, d7, d8, ha, hok⟩ := (hc.out e he x HXK.out).below q0; have CP := Lib.hid (refParts_any x sx W2 ha hpl); unfold exV exCells at CP; have Q0 := Lib.hid q0; have Q1 := Lib.hid q1; have Q2 := Lib.hid q2; have Q3 := Lib.hid q3; have O1 := Lib.hid hown1; clear q0 q1 q2 q3 hown1 hgrow1 hat1 ha hok OB cb)
      | (refine ⟨trivial, ?_⟩; gi_at_call 33; refine (callsIn_wide.2 CP.out).mono ?_; rintro r W4 ⟨kv, rfl, hk4, hb4⟩; obtain ⟨ok, ck, gk, rfl, hok4, hgk4, hck4⟩ := own_sl2 hk4; clear d0 d1 d2 d3 d4 d5 d6 d7 d8 CP))
    obtain ⟨np, hnp⟩ : ∃ np, np = (partsE x).length := ⟨_, rfl⟩
    rw [← hnp] at hok4 hgk4 hck4 hpl ⊢
    have HNP := Lib.hid hnp
    have HOK4 := Lib.hid hok4
    have HGK4 := Lib.hid hgk4
    have HCK4 := Lib.hid hck4
    have HB4 := Lib.hid hb4
    have P0 := Lib.hid p0
    have P1 := Lib.hid p1
    obtain ⟨Lj, hLj⟩ : ∃ Lj : Nat → List Nat, Lj = fun j => cutL most l (e :: (((partsE x).take j).map Int.toNat).flatMap (tree p)) := ⟨_, rfl⟩
    have hll2 : l.length ≤ 100000 := by have := HK.out; omega
    have hLlen : ∀ j, ((Lj j).length : Int) ≤ 100000 := fun j => by
      have := cutL_len most l (e :: (((partsE x).take j).map Int.toNat).flatMap (tree p)) hll2 (by omega)
      rw [hLj]; simp only; omega
    have o4 : W4.ownsRow w0.heap.size 3 1 v1 (k + 1) (l.map natV ++ [.int .i64 (e : Int)]) := own_same O1.out fun g hg => by
      obtain ⟨_, cur, hcur⟩ := own_lt O1.out hg
      exact hb4.block g (lt_of_heap hcur)
    have hstart : ∃ (o' : Option Addr) (c' : Nat), v1 = .slice o' (Lj 0).length c' ∧ W4.ownsRow w0.heap.size 3 1 v1 (Lj 0).length ((Lj 0).map natV) := by
      have e0 : Lj 0 = l ++ [e] := by rw [hLj]; exact cutL_one most l e (by have := HK.out; omega)
      obtain ⟨o', c', hv⟩ := own_slice o4
      rw [e0, List.length_append, ← HK.out, List.map_append]
      exact ⟨o', c', hv, o4⟩
    have hstep : ∀ j, j < np → cutL most (Lj j) (tree p ((partsE x).getD j 0).toNat) = Lj (j + 1) := fun j hj => by
      rw [hLj]
      simp only
      rw [cutL_append]
      congr 1
      rw [List.cons_append]
      congr 1
      rw [List.take_succ_eq_append_getElem (by rw [← hnp]; exact hj), List.map_append, List.flatMap_append, List.getD_eq_getElem?_getD, List.getElem?_eq_getElem (by rw [← hnp]; exact hj)]
      simp
    have hend : Lj np = cutL most l (tree p e) := by
      rw [hLj, hnp]
      simp only
      rw [List.take_length, tree_eq (ahead_of hm.out) e]
      congr 2
      unfold partsN
      rw [HXK.out]
    have hmp := may_part hm.out HXK.out
    have HST := Lib.hid hstart
    have HSTEP := Lib.hid hstep
    have HEND := Lib.hid hend
    have HLL := Lib.hid hLlen
    have HMP := Lib.hid hmp
    clear hLj hll2 hLlen o4 hstart hstep hend hmp hnp hok4 hgk4 hck4 hb4 p0 p1 hk4 ix
    gi_loopw [2, 10] (fun v i wr => ∃ (j : Nat) (oj : Option Addr) (cj lj : Nat), i = .int .i64 (j : Int) ∧ v = .slice oj lj cj ∧ Hid (lj = (Lj j).length) ∧ Hid (j ≤ np) ∧ Hid (wr.ownsRow w0.heap.size 3 1 (.slice oj lj cj) (Lj j).length ((Lj j).map natV)) ∧ Hid (RowAfter W4 v1 (.slice oj lj cj) wr)) (fun _ i _ => np - litLen i)
    case atStart =>
      obtain ⟨o', c', hv, ho⟩ := HST.out
      exact ⟨0, o', c', _, rfl, hv, Lib.hid rfl, Lib.hid (Nat.zero_le _), Lib.hid (by rw [← hv]; exact ho), Lib.hid ⟨⟨rfl, rfl, rfl, Nat.le_refl _, fun _ _ _ => rfl⟩, .inl (by rw [hv])⟩⟩
    case round =>
      obtain ⟨j, oj, cj, lj, rfl, rfl, hlj, hj, hO, hRA⟩ := hrel
      have hv1 : ∀ g, v1.ownBlock = some g → g ≠ W.heap.size ∧ g < W2.heap.size := fun g hg => by
        obtain ⟨_, cur, hcur⟩ := own_lt O1.out hg
        refine ⟨fun h => ?_, lt_of_heap hcur⟩
        rcases Q3.out with h3 | h3
        · rw [h3] at hg
          obtain ⟨_, cur2, hcur2⟩ := own_lt HOWN.out hg
          have := lt_of_heap hcur2
          omega
        · rw [h3] at hg; have := Option.some.inj hg; omega
      have zW : W.heap.size < W2.heap.size := lt_of_heap Q1.out
      have hbox : ∀ (o : Nat) (u : Value), W2.cell? ⟨W.heap.size, o, none⟩ = some u → wr.cell? ⟨W.heap.size, o, none⟩ = some u := fun o u hu =>
        (cell_same' (hRA.out.1.block _ (Nat.lt_of_lt_of_le zW HB4.out.size) fun h => (hv1 _ h.symm).1 rfl) o).trans (cell_on HB4.out hu)
      have c0 := hbox _ _ P0.out
      have c1 := hbox _ _ P1.out
      rcases Nat.lt_or_ge j np with hlt | hge
      · have hl : (j : Int) < (np : Int) := by omega
        have ck0 := HCK4.out j hlt
        have hgkl := HGK4.out (by omega)
        have hne : some gk ≠ v1.ownBlock := fun h => by
          have h2 := (hv1 gk h.symm).2
          omega
        have ckj : wr.cell? ⟨gk, j, none⟩ = some (.int .i64 ((partsE x).getD j 0)) := (cell_same' (hRA.out.1.block gk (World.block_lt_of_cell? _ _ ck0) hne) j).trans ck0
        have ix := ix_il (cap := ck) HOK4.out hlt (by omega)
        unfold Ix at ix
        have hpl2 : j < (partsE x).length := by rw [← HNP.out]; exact hlt
        obtain ⟨m0, m1⟩ := HMP.out ((partsE x).getD j 0) (by rw [List.getD_eq_getElem?_getD, List.getElem?_eq_getElem hpl2]; exact List.getElem_mem hpl2)
        have hst := HSTEP.out j hlt
        obtain ⟨q, hq⟩ : ∃ q, q = (partsE x).getD j 0 := ⟨_, rfl⟩
        rw [← hq] at ckj m0 m1 hst
        have hqz : ((q.toNat : Nat) : Int) = q := Int.toNat_of_nonneg m0
        have hwr : Below w0.heap.size w0 wr := by
          have h4 := Q0.out.trans (HB4.out.mono Q0.out.size)
          exact h4.grown hRA.out.1 h4.size fun g hg => by
            obtain ⟨hg1, _⟩ := own_lt O1.out hg
            exact hg1
        have C := IH.out q.toNat (by omega) (by omega) (Lj j) (.slice oj lj cj) wr.drew (HLL.out j) ⟨hwr.os, hwr.tape, hwr.output, hwr.size, hwr.block⟩ (own_same hO.out fun _ _ => rfl)
        rw [hqz, hst] at C
        have C2 := Lib.hid (callsIn_wide.1 C)
        have HZ := Lib.hid hv1
        clear C hst hq hqz hwr m0 m1 hpl2 ck0 hgkl hbox zW hv1 hne
        have mo : Try.prog.follows .mixedOrders = true := by kernel_rfl
        gi_wp2_with (fail)
        gi_region_with_o (refine ⟨trivial, ?_⟩; gi_at_call 31; refine (callsIn_wide.2 C2.out).mono ?_; rintro r Y ⟨v', rfl, ho', hr'⟩)
        all_goals gi_wp2
        all_goals
          obtain ⟨o', c', rfl⟩ := own_slice ho'
          refine ⟨⟨j + 1, o', c', _, by go_num, rfl, Lib.hid rfl, Lib.hid (by omega), Lib.hid ho', Lib.hid (hRA.out.trans ⟨⟨hr'.1.os, hr'.1.tape, hr'.1.output, hr'.1.size, hr'.1.block⟩, hr'.2⟩)⟩, ?_⟩
          simp [litLen]
          omega
      · obtain rfl : j = np := by have := hj.out; omega
        have HZ := Lib.hid hv1
        clear hbox zW hv1 hge
        gi_wp2
        refine ⟨rfl, _, results_tmp (t := 8) (by kernel_rfl) _ _ _, _, rfl, ?_, ?_⟩
        · rw [← HEND.out]
          have h := hO.out
          rw [← hlj.out] at h ⊢
          exact h
        · exact Q2.out.trans (RowAfter.trans ⟨⟨HB4.out.os, HB4.out.tape, HB4.out.output, HB4.out.size, fun k hk _ => HB4.out.block k hk⟩, .inl rfl⟩ hRA.out)
end Go.Proofs.Ytiilgehdkanmnaa
