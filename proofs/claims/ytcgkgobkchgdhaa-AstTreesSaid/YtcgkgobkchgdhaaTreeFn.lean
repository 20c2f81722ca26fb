/- ast.Tree. -/
import Derived.Test.YtcgkgobkchgdhaaTreeIter
import Derived.Test.YtcgkgobkchgdhaaNames
namespace Go.Proofs.Ytcgkgobkchgdhaa
open Go.RowKit Go.Shelf

attribute [local go_sem] Oper.semAt_some run_store_func

/-- between two rounds: l's box at L -/
def TInv (w : World) (L : Nat) (l : List Nat) (W : World) : Prop := (∃ v, Boxed W L 28 v ∧ W.ownsRow (L + 3) 3 1 v l.length (l.map natV)) ∧ Below w.heap.size w W ∧ L + 3 ≤ W.heap.size
theorem tinv_abides {w : World} {L N : Nat} (hL : L < N) (hw : w.heap.size ≤ L) {l : List Nat} {X Y : World} {row : Option Nat} (h : TInv w L l X) (hg : X.grownBy Y row) (hr : ∀ r, row = some r → N ≤ r ∧ ∃ o : Obj, X.heap[r]? = some o ∧ (o.isCells = false ∨ ¬ rowOf L X = some r)) : TInv w L l Y := by
  obtain ⟨⟨v, h1, h2⟩, h3, h4⟩ := h
  have hne : ∀ k, k < N → some k ≠ row := fun k hk e => by have := (hr k e.symm).1; omega
  refine ⟨⟨v, (hg.block _ (lt_of_heap h1) (hne _ hL)).trans h1, own_same h2 fun g hgv => ?_⟩, h3.grown hg h3.size fun k e => by have := (hr k e).1; omega, Nat.le_trans h4 hg.size⟩
  obtain ⟨_, cur, hc⟩ := own_lt h2 hgv
  refine hg.block g (lt_of_heap hc) fun e => ?_
  obtain ⟨_, o, ho, hh⟩ := hr g e.symm
  rw [hc] at ho
  cases ho
  rcases hh with hh | hh
  · cases hh
  · exact hh (by rw [rowOf_box h1]; exact hgv)
theorem tree_round {w : World} {L B N : Nat} {l : List Nat} {z : Nat} {W W8 W9 : World} {v v' : Value} (hw : w.heap.size ≤ L) (hB : L < B) (h1 : Boxed W L 28 v) (h2 : W.ownsRow (L + 3) 3 1 v l.length (l.map natV)) (h7 : Below w.heap.size w W)
    (h6 : L + 3 ≤ W.heap.size) (h8 : Below W.heap.size W W8) (hown : W9.ownsRow (L + 3) 3 1 v' (l.length + 1) (l.map natV ++ [natV z])) (hgrow : W8.grownBy W9 v.ownBlock) (hat : v'.ownBlock = v.ownBlock ∨ v'.ownBlock = some W8.heap.size) :
    KeepsFrom B W (W9.setCell ⟨L, 0, none⟩ v') ∧ KeepM (fun k => k = L) (rowOf L) N W (W9.setCell ⟨L, 0, none⟩ v') ∧ TInv w L (l ++ [z]) (W9.setCell ⟨L, 0, none⟩ v') := by
  have hLW := lt_of_heap h1
  have g10 := grownBy_setCell' W9 L v'
  have z10 : W.heap.size ≤ (W9.setCell ⟨L, 0, none⟩ v').heap.size := Nat.le_trans h8.size (Nat.le_trans hgrow.size g10.size)
  have hvb : ∀ g, v.ownBlock = some g → L + 3 ≤ g ∧ ∃ cur : Array Value, W.heap[g]? = some (.cells cur 3 (0, 0)) := fun g hg => own_lt h2 hg
  have keep : ∀ k, k < W.heap.size → k ≠ L → v.ownBlock ≠ some k → (W9.setCell ⟨L, 0, none⟩ v').heap[k]? = W.heap[k]? := fun k hk hl hr =>
    (g10.block k (Nat.lt_of_lt_of_le (Nat.lt_of_lt_of_le hk h8.size) hgrow.size) (fun e => hl (Option.some.inj e))).trans ((hgrow.block k (Nat.lt_of_lt_of_le hk h8.size) (fun e => hr e.symm)).trans (h8.block k hk))
  have b9 : Boxed W9 L 28 v := (hgrow.block L (Nat.lt_of_lt_of_le hLW h8.size) (fun e => by have := (hvb L e.symm).1; omega)).trans ((h8.block L hLW).trans h1)
  have b10 : Boxed (W9.setCell ⟨L, 0, none⟩ v') L 28 v' := b9.set v'
  refine ⟨⟨z10, fun k o hk hh ho => ?_⟩, ⟨z10, fun k hk hM hr _ => keep k hk hM (by rw [rowOf_box h1] at hr; exact hr), fun k hk => ?_⟩, ⟨v', b10, ?_⟩, ?_, Nat.le_trans h6 z10⟩
  · refine (keep k (lt_of_heap hh) (by omega) fun e => ?_).trans hh
    obtain ⟨_, cur, hc⟩ := hvb k e
    rw [hh] at hc
    cases hc
    cases ho
  · rw [rowOf_box b10] at hk
    rcases hat with h | h
    · left; rw [rowOf_box h1, ← h]; exact hk
    · right
      rw [hk] at h
      have := Option.some.inj h
      have := h8.size
      refine ⟨by omega, ?_⟩
      obtain ⟨_, cur, hc⟩ := own_lt hown hk
      exact Nat.lt_of_lt_of_le (lt_of_heap hc) g10.size
  · have h10 := own_same (Y := W9.setCell ⟨L, 0, none⟩ v') hown fun g hg => by
      obtain ⟨hg1, cur, hc⟩ := own_lt hown hg
      exact set_other W9 L g 0 v' (by omega)
    rw [List.map_append, List.length_append]
    exact h10
  · have c3 := h7.trans (h8.mono h7.size)
    have c4 := c3.grown hgrow c3.size (fun k e => by have := (hvb _ e).1; omega)
    exact c4.grown g10 c4.size (fun k e => by have := Option.some.inj e; omega)
set_option maxHeartbeats 8000000 in
set_option maxRecDepth 100000 in
theorem treeFn_core (o1 : Option Addr) (b off cap dcap : Nat) (p : Pr) (n m : Nat) (hn : Hid (p.exprs.length = n)) (nl : (n : Int) ≤ 300) (e : Nat) (hen : e < n) (w : World)
    (hpa : Hid (ProgAt w (.slice o1 m dcap) (.slice (some ⟨b, off, none⟩) n cap) p)) (hS : Hid (Small p)) (hm : Hid (mayP p = true)) (hc : Hid (∀ i, i < n → ∀ x, p.exprs[i]? = some x → ExAt w b (off + i * 9) x)) :
    CallsIn Fence.wide 5 Try.prog 14 #[.agg #[.slice o1 m dcap, .slice (some ⟨b, off, none⟩) n cap], .int .i64 (e : Int)] w fun r w' => ∃ v, r = .returned v ∧ w'.ownsRow w.heap.size 3 1 v ((tree p e).take 100000).length (((tree p e).take 100000).map natV) ∧ Below w.heap.size w w' := by
  have hb0 := Lib.hid (below_al (Below.refl w.heap.size w) (.cells #[.slice o1 m dcap, .slice (some ⟨b, off, none⟩) n cap] 25))
  have hB0 := Lib.hid (World.alloc_heap_new w (.cells #[.slice o1 m dcap, .slice (some ⟨b, off, none⟩) n cap] 25))
  have CI : Hid (Calls Try.prog 35 #[.agg #[.slice o1 m dcap, .slice (some ⟨b, off, none⟩) n cap], .int .i64 (e : Int)] (w.alloc (.cells #[.slice o1 m dcap, .slice (some ⟨b, off, none⟩) n cap] 25)) fun r w' => MayPost true (w.alloc (.cells #[.slice o1 m dcap, .slice (some ⟨b, off, none⟩) n cap] 25)) r w') := Lib.hid (by
    have h := isIn_any _ _ p (e : Int) _ (hpa.out.below hb0.out) hS.out
    rwa [show inP p (e : Int) = true by unfold inP; rw [hm.out, decide_eq_true (show (0 : Int) ≤ e by omega), decide_eq_true (show (e : Int) < (p.exprs.length : Int) by rw [hn.out]; omega)]; rfl] at h)
  refine callsIn_of_wp_marks Try.func14 rfl trivial ?_ rfl
  simp only [Try.ntmps14, List.size_toArray, List.length_cons, List.length_nil, Nat.reduceAdd, Nat.reduceSub, Array.replicate_succ, Array.replicate_zero, List.push_toArray, List.append_toArray, List.nil_append, List.cons_append]
  gi_wp2_with (fail)
  refine ⟨trivial, ?_⟩
  gi_at_call 35
  ((with_reducible refine (callsIn_wide.2 CI.out).mono ?_))
  rintro r w1 ⟨rfl, hb⟩
  have HB := Lib.hid hb
  have hbw := Lib.hid (hb0.out.trans (hb.mono hb0.out.size))
  have hB1 := Lib.hid ((hb.block _ (lt_of_heap hB0.out)).trans hB0.out)
  have g1 : w1.cell? ⟨w.heap.size, 0, none⟩ = some (.slice o1 m dcap) := by simp [World.cell?, hB1.out]
  have g2 : w1.cell? ⟨w.heap.size, 1, none⟩ = some (.slice (some ⟨b, off, none⟩) n cap) := by simp [World.cell?, hB1.out]
  have g3 : (w1.alloc (.cells #[.slice none 0 0] 28)).cell? ⟨w.heap.size, 0, none⟩ = some (.slice o1 m dcap) := cell_on (below_al (Below.refl w1.heap.size w1) _) g1
  have g4 : (w1.alloc (.cells #[.slice none 0 0] 28)).cell? ⟨w.heap.size, 1, none⟩ = some (.slice (some ⟨b, off, none⟩) n cap) := cell_on (below_al (Below.refl w1.heap.size w1) _) g2
  clear hb
  gi_wp2_with (refine ⟨trivial, ?_⟩; gi_at_call 36; ((with_reducible refine (callsIn_wide.2 (tree_any _ _ _ _ _ _ _ _)).mono ?_); rintro r w2 ⟨rfl, rfl⟩))
  obtain ⟨f1, f2, f3, fb, fz⟩ := three w1 (.cells #[.slice none 0 0] 28) (.cells #[.slice o1 m dcap, .slice (some ⟨b, off, none⟩) n cap] 25) (.cells #[.int .i64 (e : Int)] 3)
  generalize (((w1.alloc (.cells #[.slice none 0 0] 28)).alloc (.cells #[.slice o1 m dcap, .slice (some ⟨b, off, none⟩) n cap] 25)).alloc (.cells #[.int .i64 (e : Int)] 3)) = W3 at f1 f2 f3 fb fz ⊢
  have hz1 : w.heap.size ≤ w1.heap.size := hbw.out.size
  have hrow : rowOf w1.heap.size W3 = none := rowOf_box f1
  have hA3 : Aside (fun k => k = w1.heap.size) (rowOf w1.heap.size) W3 := ⟨fun k hk => by omega, fun k hk => (by rw [hrow] at hk; cases hk), fun X Y h => rowOf_same (h _ (by omega))⟩
  refine wpIn_range_tells (α := {z : Nat // z ≤ e}) rfl (by decide) (gf := 52) (lb := #[.pointer (some ⟨w1.heap.size + 1, 0, none⟩), .pointer (some ⟨w1.heap.size + 1 + 1, 0, none⟩)]) rfl trivial (enters_of Try.func52 (by kernel_rfl) rfl)
    (tree_tells p o1 m dcap b off cap n e (w1.heap.size + 1) (w1.heap.size + 1 + 1) hn nl hm hen w W3 (fun k => k = w1.heap.size) (rowOf w1.heap.size) (Lib.hid hA3) (Lib.hid fun k hk => by
      rcases hk with hk | hk
      · omega
      · rw [hrow] at hk; cases hk) (Lib.hid (hbw.out.trans (fb.mono hz1))) (Lib.hid ⟨by omega, by omega, by rw [hrow]; exact fun h => by cases h⟩) (Lib.hid ⟨by omega, by omega, by rw [hrow]; exact fun h => by cases h⟩) (Lib.hid f2) (Lib.hid f3) hc _)
    (fun h k => h.trans k) (fun W l o o' h1 h2 h3 _ => keepM_putObj (by omega) W l o o' h1 h2 h3) (fun _ => rfl)
    (fun (pre : List {z : Nat // z ≤ e}) W => TInv w w1.heap.size (pre.map (·.1)) W ∧ pre.length < 100000) (fun c (pre : List {z : Nat // z ≤ e}) W => c = .exit 0 ∧ TInv w w1.heap.size (pre.map (·.1)) W ∧ pre.length = 100000) (by intro s X Y row hs hg hr; exact ⟨tinv_abides (by omega) hz1 hs.1 hg hr, hs.2⟩) (by intro c s X Y row hs hg hr; exact ⟨hs.1, tinv_abides (by omega) hz1 hs.2.1 hg hr, hs.2.2⟩)
    ⟨⟨⟨_, f1, World.ownsRow_nil _ _ _ _⟩, hbw.out.trans (fb.mono hz1), by omega⟩, by simp⟩
    (fun z => { tmps := #[.agg #[.slice o1 m dcap, .slice (some ⟨b, off, none⟩) n cap], .int .i64 (e : Int), .pointer (some ⟨w.heap.size, 0, none⟩), undef, .slice none 0 0, .pointer (some ⟨w1.heap.size, 0, none⟩), .int .i64 (z.1 : Int), .agg #[.slice o1 m dcap, .slice (some ⟨b, off, none⟩) n cap], .int .i64 (e : Int), .bool true, .bool false, .agg #[.slice o1 m dcap, .slice (some ⟨b, off, none⟩) n cap], .int .i64 (e : Int), treeV (w1.heap.size + 1) (w1.heap.size + 1 + 1), .int .i64 (z.1 : Int), undef, undef, undef, undef, undef, undef, undef, undef], defers := [] }) ?assign ?body ?done ?stop
  case assign =>
    rintro lp z W K hK
    gi_wp2
    exact hK
  case body =>
    rintro lp pre ⟨z, hze⟩ W ⟨⟨⟨v, h1, h2⟩, h3, h4⟩, hlt2⟩
    obtain ⟨k, hk⟩ : ∃ k, k = (pre.map (·.1)).length := ⟨_, rfl⟩
    have hk2 : k = pre.length := by rw [hk, List.length_map]
    rw [← hk] at h2
    have y0 : W.cell? ⟨w1.heap.size, 0, none⟩ = some v := h1.cell
    have r8 : (W.alloc (.cells #[.int .i64 (z : Int)] 3)).ownsRow (w1.heap.size + 3) 3 1 v k ((pre.map (·.1)).map natV) := own_same h2 fun g hg => by
      obtain ⟨_, cur, hcur⟩ := own_lt h2 hg
      exact heap_old _ _ _ (lt_of_heap hcur)
    have hLz := lt_of_heap h1
    have fz8 : ∀ Z : World, (W.alloc (.cells #[.int .i64 (z : Int)] 3)).grownBy Z v.ownBlock → Boxed Z w1.heap.size 28 v := fun Z hZ =>
      (h1.alloc _).kept hZ fun e => by have := (own_lt h2 e.symm).1; omega
    have fin : ∀ (Z : World) (v' : Value), Z.ownsRow (w1.heap.size + 3) 3 1 v' (k + 1) ((pre.map (·.1)).map natV ++ [.int .i64 (z : Int)]) → (W.alloc (.cells #[.int .i64 (z : Int)] 3)).grownBy Z v.ownBlock → (v'.ownBlock = v.ownBlock ∨ v'.ownBlock = some (W.alloc (.cells #[.int .i64 (z : Int)] 3)).heap.size) →
        KeepsFrom W3.heap.size W (Z.setCell ⟨w1.heap.size, 0, none⟩ v') ∧ KeepM (fun k => k = w1.heap.size) (rowOf w1.heap.size) W3.heap.size W (Z.setCell ⟨w1.heap.size, 0, none⟩ v') ∧ TInv w w1.heap.size ((pre ++ [(⟨z, hze⟩ : {z : Nat // z ≤ e})]).map (·.1)) (Z.setCell ⟨w1.heap.size, 0, none⟩ v') := fun Z v' hZ hg ha => by
      rw [List.map_append]
      exact tree_round hz1 (by omega) h1 (by rw [← hk]; exact h2) h3 h4 (below_al (Below.refl _ _) _) (by rw [← hk]; exact hZ) hg ha
    have FIN := Lib.hid fin
    have FZ := Lib.hid fz8
    have R8 := Lib.hid r8
    have HK := Lib.hid hk2
    have hkl : (k : Int) < 100000 := by omega
    have hbase : w1.heap.size + 3 ≤ (W.alloc (.cells #[.int .i64 (z : Int)] 3)).heap.size := by
      rw [World.size_alloc]
      omega
    have FZW := Lib.hid fz
    clear fz
    clear fin fz8 r8 hk2 hk h2 h3 h1 hlt2 hA3 hrow
    dsimp only
    by_cases hq : k + 1 = 100000
    · have hq1 : ((k : Int) + 1 == 100000) = true := by simp; omega
      gi_wp2_with (gi_at_builtin; refine wpListIn_append_int _ rfl _ _ rfl (w1.heap.size + 3) v k _ rfl R8.out ⟨W.heap.size, 0, none⟩ [.int .i64 (z : Int)] rfl rfl (cell_one_new _ _ _) (by simp [Value.oneCell']) (by omega) hbase ?_; intro v' W9 hown hgrow hat; obtain ⟨g', cap', rfl⟩ := ownsRow_succ hown; have hb9 := (FZ.out _ hgrow); have hc9 := hb9.cell; have hf9 := hb9.frozen; have hd9 := (hb9.set (.slice (some ⟨g', 0, none⟩) (k + 1) cap')).cell; have HF := Lib.hid (FIN.out _ _ hown hgrow hat); clear hown hgrow hat hb9)
      have HF2 := HF.out
      rw [hq] at HF2
      obtain ⟨k1, k2, k3⟩ := HF2
      have HQ := HK.out
      refine ⟨k1, k2, rfl, k3, ?_⟩
      rw [List.length_append, ← HQ]
      exact hq
    · have hq1 : ((k : Int) + 1 == 100000) = false := by simp; omega
      gi_wp2_with (gi_at_builtin; refine wpListIn_append_int _ rfl _ _ rfl (w1.heap.size + 3) v k _ rfl R8.out ⟨W.heap.size, 0, none⟩ [.int .i64 (z : Int)] rfl rfl (cell_one_new _ _ _) (by simp [Value.oneCell']) (by omega) hbase ?_; intro v' W9 hown hgrow hat; obtain ⟨g', cap', rfl⟩ := ownsRow_succ hown; have hb9 := (FZ.out _ hgrow); have hc9 := hb9.cell; have hf9 := hb9.frozen; have hd9 := (hb9.set (.slice (some ⟨g', 0, none⟩) (k + 1) cap')).cell; have HF := Lib.hid (FIN.out _ _ hown hgrow hat); clear hown hgrow hat hb9)
      obtain ⟨k1, k2, k3⟩ := HF.out
      have HQ := HK.out
      refine ⟨k1, k2, k3, ?_⟩
      rw [List.length_append, ← HQ]
      show k + 1 < 100000
      omega
  case done =>
    rintro D ys W hDge hys ⟨⟨⟨v, h1, h2⟩, h3, h4⟩, hl2⟩ hmark
    have hls : (tree p e).take 100000 = ys.map (·.1) := by rw [← hys]; exact List.take_of_length_le (by rw [List.length_map]; omega)
    have H2 := Lib.hid h2
    have H3 := Lib.hid h3
    have HK := Lib.hid hmark
    have HD := Lib.hid hDge
    have HL := Lib.hid hls
    have y0 : W.cell? ⟨w1.heap.size, 0, none⟩ = some v := h1.cell
    clear h1 h2 h3 h4 hl2 hmark hDge hys hls
    dsimp only
    gi_wp2
    refine ⟨by simp, .inl ⟨_, _, rfl, run_takeDeferred HK.out, ?_⟩⟩
    have hDz : w1.heap.size + 3 ≤ D := by rw [← fz]; exact HD.out
    refine ⟨_, results_tmp (t := 4) (by kernel_rfl) _ _ _, v, rfl, ?_, ?_⟩
    · rw [HL.out]
      have h8 := own_same (Y := W.putObj D (.deferred none)) H2.out fun g hg => World.putObj_heap_other fun h => by
        obtain ⟨_, cur, hc⟩ := own_lt H2.out hg
        rw [h, HK.out] at hc; cases hc
      exact owns_low h8 (by omega)
    · exact H3.out.grown (grownBy_putObj' W D _) H3.out.size (fun k e => by cases e; omega)
  case stop =>
    rintro D c pre W hDge ⟨rest, hrest⟩ ⟨rfl, ⟨⟨v, h1, h2⟩, h3, h4⟩, hl2⟩ hmark
    have hls : (tree p e).take 100000 = pre.map (·.1) := by rw [← hrest]; exact List.take_left' (by rw [List.length_map]; exact hl2)
    have H2 := Lib.hid h2
    have H3 := Lib.hid h3
    have HK := Lib.hid hmark
    have HD := Lib.hid hDge
    have HL := Lib.hid hls
    have y0 : W.cell? ⟨w1.heap.size, 0, none⟩ = some v := h1.cell
    clear h1 h2 h3 h4 hl2 hmark hDge hrest hls
    dsimp only
    gi_wp2
    refine ⟨by simp, .inl ⟨_, _, rfl, run_takeDeferred HK.out, ?_⟩⟩
    have hDz : w1.heap.size + 3 ≤ D := by rw [← fz]; exact HD.out
    refine ⟨_, results_tmp (t := 4) (by kernel_rfl) _ _ _, v, rfl, ?_, ?_⟩
    · rw [HL.out]
      have h8 := own_same (Y := W.putObj D (.deferred none)) H2.out fun g hg => World.putObj_heap_other fun h => by
        obtain ⟨_, cur, hc⟩ := own_lt H2.out hg
        rw [h, HK.out] at hc; cases hc
      exact owns_low h8 (by omega)
    · exact H3.out.grown (grownBy_putObj' W D _) H3.out.size (fun k e => by cases e; omega)
/-- the tree that is told -/
def treeP (p : Pr) (e : Int) : List Nat := if inP p e = true then (tree p e.toNat).take 100000 else []
set_option maxHeartbeats 8000000 in
theorem treeFn_any (sd se : Value) (p : Pr) (e : Int) (w : World) (h : ProgAt w sd se p) (hs : Small p) :
    CallsIn Fence.wide 5 Try.prog 14 #[.agg #[sd, se], .int .i64 e] w fun r w' => ∃ v, r = .returned v ∧ w'.ownsRow w.heap.size 3 1 v (treeP p e).length ((treeP p e).map natV) ∧ Below w.heap.size w w' := by
  obtain ⟨⟨o1, dcap, db, doff, rfl, hd1, hd2, hd3, hd4⟩, ⟨o2, cap, b, off, rfl, he1, he2, he3, he4⟩, h3, h4⟩ := id h
  by_cases hi : inP p e = true
  · have hi2 := hi
    unfold inP at hi2
    rw [Bool.and_eq_true, Bool.and_eq_true, decide_eq_true_eq, decide_eq_true_eq] at hi2
    obtain ⟨⟨h1, h2⟩, hmp⟩ := hi2
    obtain ⟨k, rfl⟩ := Int.eq_ofNat_of_zero_le h1
    have hk : k < p.exprs.length := by omega
    have ho := he3 (by omega)
    subst ho
    unfold treeP
    rw [if_pos hi]
    exact treeFn_core o1 b off cap dcap p _ _ (Lib.hid rfl) (by have := hs.exprs; omega) k hk w (Lib.hid h) (Lib.hid hs) (Lib.hid hmp) (Lib.hid he4)
  · have hif : inP p e = false := by simpa using hi
    have hb0 := Lib.hid (below_al (Below.refl w.heap.size w) (.cells #[.slice o1 p.decls.length dcap, .slice o2 p.exprs.length cap] 25))
    have CI := Lib.hid (isIn_any _ _ p e _ (h.below hb0.out) hs)
    rw [hif] at CI
    have hz : treeP p e = [] := by unfold treeP; rw [if_neg hi]
    rw [hz]
    clear hs h hd1 hd2 hd3 hd4 he1 he2 he3 he4 h3 h4 hi hif hz
    refine callsIn_of_wp_marks Try.func14 rfl trivial ?_ rfl
    simp only [Try.ntmps14, List.size_toArray, List.length_cons, List.length_nil, Nat.reduceAdd, Nat.reduceSub, Array.replicate_succ, Array.replicate_zero, List.push_toArray, List.append_toArray, List.nil_append, List.cons_append]
    gi_wp2_with (fail)
    refine ⟨trivial, ?_⟩
    gi_at_call 35
    ((with_reducible refine (callsIn_wide.2 CI.out).mono ?_))
    rintro r w1 ⟨rfl, hb⟩
    have HB := Lib.hid hb
    clear hb
    gi_wp2
    exact ⟨_, results_tmp (t := 4) (by kernel_rfl) _ _ _, _, rfl, World.ownsRow_nil _ _ _ _, hb0.out.trans (HB.out.mono hb0.out.size)⟩
end Go.Proofs.Ytcgkgobkchgdhaa
