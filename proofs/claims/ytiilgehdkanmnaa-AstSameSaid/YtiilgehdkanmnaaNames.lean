/- ast.Names. -/
import Derived.Test.YtiilgehdkanmnaaMetAny
import Derived.Test.YtiilgehdkanmnaaNamesMath
import Derived.Maps.OwnSet
import Derived.Maps.OwnIn
namespace Go.Proofs.Ytiilgehdkanmnaa
open Go.RowKit Go.Shelf Go.Maps
open Classical

attribute [local go_sem] Oper.semAt_some

theorem key_str (S : ByteArray) (h : S.size ≤ maxLen) : keyOf Try.prog 9 (.string S) = some (.string S.data.toList) := by
  simp [keyOf, mapKey, Try.underlying9, h]
theorem str_keyed : Keyed Try.prog 9 := string_keyed Try.underlying9
theorem zero_unit (w : World) : (zeroValue 68).run Try.prog w = .ok (.agg #[]) w := by kernel_rfl
/-- between two rounds: l's box at L, the map at L + 1, its box at L + 2 -/
def NInv (w : World) (L : Nat) (o1 : Option Addr) (m dcap b off n cap : Nat) (p : Pr) (pre : List Nat) (W : World) : Prop :=
  (∃ v, Boxed W L 35 v ∧ W.ownsRow (L + 3) 9 1 v (namesL p pre).length ((namesL p pre).map Value.string)) ∧
  (∃ D : DataW Unit, W.ownsMap Try.prog 9 unitElem (L + 1) (namesL p pre).length D ∧ ∀ x : ByteArray, Maps.has D (.string x.data.toList) = decide (x ∈ namesL p pre)) ∧
  W.heap[L + 2]? = some (.cells #[.map (some (L + 1))] 66 (0, 0)) ∧ W.heap[w.heap.size]? = some (.cells #[.slice o1 m dcap, .slice (some ⟨b, off, none⟩) n cap] 25 (0, 0)) ∧ Below w.heap.size w W
theorem five (w : World) (o1 o2 o3 o4 o5 : Obj) : let W := ((((w.alloc o1).alloc o2).alloc o3).alloc o4).alloc o5
    W.heap[w.heap.size]? = some o1 ∧ W.heap[w.heap.size + 1]? = some o2 ∧ W.heap[w.heap.size + 2]? = some o3 ∧ W.heap[w.heap.size + 3]? = some o4 ∧ W.heap[w.heap.size + 4]? = some o5 ∧ Below w.heap.size w W ∧ W.heap.size = w.heap.size + 5 := by
  obtain ⟨a1, a2, a3, a4, a5⟩ := three w o1 o2 o3
  have z4 : ((((w.alloc o1).alloc o2).alloc o3).alloc o4).heap.size = w.heap.size + 4 := by rw [World.size_alloc, a5]
  have b4 := World.alloc_heap_new (((w.alloc o1).alloc o2).alloc o3) o4
  have b5 := World.alloc_heap_new ((((w.alloc o1).alloc o2).alloc o3).alloc o4) o5
  rw [a5] at b4
  rw [z4] at b5
  have up : ∀ k, k < w.heap.size + 3 → (((((w.alloc o1).alloc o2).alloc o3).alloc o4).alloc o5).heap[k]? = (((w.alloc o1).alloc o2).alloc o3).heap[k]? := fun k hk => by
    rw [heap_old _ _ _ (by omega), heap_old _ _ _ (by omega)]
  refine ⟨(up _ (by omega)).trans a1, (up _ (by omega)).trans a2, (up _ (by omega)).trans a3, ?_, b5, (a4.alloc (by omega) o4).alloc (by omega) o5, by rw [World.size_alloc, z4]⟩
  rw [heap_old _ _ _ (by omega)]; exact b4
theorem ninv_abides {w : World} {L : Nat} {o1 : Option Addr} {m dcap b off n cap e N : Nat} {p : Pr} (hL : L + 2 < N) (hw : w.heap.size < L) :
    AbidesW (fun X k => rowOf L X = some k) N (fun (pre : List {z : Nat // z ≤ e}) W => NInv w L o1 m dcap b off n cap p (pre.map (·.1)) W) := by
  rintro pre X Y row ⟨⟨v, h1, h2⟩, ⟨D, h3, h4⟩, h5, h6, h7⟩ hg hr
  have hne : ∀ k, k < N → some k ≠ row := fun k hk e => by have := (hr k e.symm).1; omega
  have hs : ∀ {k : Nat} {o : Obj}, k < N → X.heap[k]? = some o → Y.heap[k]? = some o := fun hk h => (hg.block _ (lt_of_heap h) (hne _ hk)).trans h
  refine ⟨⟨v, hs (by omega) h1, own_same h2 fun g hgv => ?_⟩, ⟨D, ?_, h4⟩, hs (by omega) h5, hs (by omega) h6, h7.grown hg h7.size (fun k e => by have := (hr k e).1; omega)⟩
  · obtain ⟨_, cur, hc⟩ := own_lt h2 hgv
    refine hg.block g (lt_of_heap hc) fun e => ?_
    obtain ⟨_, o, ho, hh⟩ := hr g e.symm
    rw [hc] at ho
    cases ho
    rcases hh with hh | hh
    · cases hh
    · exact hh (by show rowOf L X = some g; rw [rowOf_box h1]; exact hgv)
  · exact h3.kept hg (hne _ (by omega))
theorem wpOpIn_one {F : Fence} {n : Nat} {P : Program} {ops : Array Oper} {Q : Exit → Act → World → Prop} {i : Nat} {o : Oper} {K : Act → World → Prop} {a : Act} {w : World} (h0 : ops[i]? = some o)
    (h : ∀ Q2 : Exit → Act → World → Prop, (∀ a w, K a w → Q2 .normal a w) → wpListIn F n P ops Q2 [o] a w) : wpOpIn F n P ops Q i K a w := by
  have h1 := h (fun e a w => match e with | .normal => K a w | e => Q e a w) (fun _ _ h => h)
  unfold wpOpIn
  simp only [h0]
  have h2 : if Region.wanted o (yielded ops a.tmps) then o.wpIn F n P a w K (fun e a w => match e with | .normal => K a w | e => Q e a w) else (∀ f, o.about P w a.eval = some f → F.fn f) ∧ K (a.put o.dst undef) w := h1
  split
  · rename_i hw
    rw [if_pos hw] at h2
    refine ⟨h2.1, ?_⟩
    have h3 := h2.2
    revert h3
    generalize (o.semAt F.round a.eval).run P w = r
    intro h3
    match r, h3 with
    | .ok (.value _) _, h3 => exact h3
    | .ok .skip _, h3 => exact h3
    | .ok (.defer _) _, h3 => exact h3
    | .ok (.enter _ _) _, h3 =>
      refine ⟨h3.1, h3.2.mono fun e w' he => ?_⟩
      match e, he with
      | .returned _, he => exact he
      | .panicked _, he => exact he
      | .outgrown, he => exact he
    | .ok (.row _ _) _, h3 => exact h3
    | .ok (.round _ _ _ _ _) _, h3 =>
      refine ⟨h3.1, h3.2.mono fun e w' he => ?_⟩
      match e, he with
      | .returned _, he => exact he
      | .panicked _, he => exact he
      | .outgrown, he => exact he
    | .halt (.panic _) _, h3 => exact h3
  · rename_i hw
    rw [if_neg hw] at h2
    exact h2
theorem clone_any (s : ByteArray) (hs : s.size ≤ 281474976710656) (w : World) : Calls Try.prog 36 #[.string s] w fun e w' => e = .returned (.string s) ∧ Below w.heap.size w w' := by
  go_enter Try.func36, Try.ntmps36
  go_wp2_with (go_at_call 52; refine (Try.stringslite_Clone s w hs).mono ?_; rintro e w' ⟨rfl, hb⟩)
  exact ⟨rfl, _, results_tmp (t := 2) (by kernel_rfl) _ _ _, rfl, hb⟩
theorem str_info : (Try.prog.info? 9).map (fun i => (i.zero, i.size, i.bytes)) = some (some (.string ByteArray.empty), 1, 16) := by kernel_rfl
theorem grown_none {X Y : World} (h : Below X.heap.size X Y) : X.grownBy Y none := ⟨h.os, h.tape, h.output, h.size, fun k hk _ => h.block k hk⟩
theorem names_round {w : World} {L B N : Nat} {o1 : Option Addr} {m dcap b off n cap : Nat} {p : Pr} {l l2 : List Nat} {W Wx W6 W8 W9 : World} {v v' : Value} {D : DataW Unit} {s : ByteArray} (hw : w.heap.size < L) (hB : L + 2 ≤ B)
    (h1 : Boxed W L 35 v) (h2 : W.ownsRow (L + 3) 9 1 v (namesL p l).length ((namesL p l).map Value.string)) (h3 : W.ownsMap Try.prog 9 unitElem (L + 1) (namesL p l).length D)
    (h4 : ∀ x : ByteArray, Maps.has D (.string x.data.toList) = decide (x ∈ namesL p l))
    (h5 : W.heap[L + 2]? = some (.cells #[.map (some (L + 1))] 66 (0, 0))) (h6 : W.heap[w.heap.size]? = some (.cells #[.slice o1 m dcap, .slice (some ⟨b, off, none⟩) n cap] 25 (0, 0))) (h7 : Below w.heap.size w W)
    (hx : Below W.heap.size W Wx) (hM6 : W6.ownsMap Try.prog 9 unitElem (L + 1) ((namesL p l).length + 1) (D.put (.string s.data.toList) (.agg []))) (hG6 : Wx.grownBy W6 (some (L + 1)))
    (h8 : Below W6.heap.size W6 W8) (hown : W9.ownsRow (L + 3) 9 1 v' ((namesL p l).length + 1) ((namesL p l).map Value.string ++ [.string s])) (hgrow : W8.grownBy W9 v.ownBlock) (hat : v'.ownBlock = v.ownBlock ∨ v'.ownBlock = some W8.heap.size)
    (e1 : namesL p l2 = namesL p l ++ [s]) :
    KeepsFrom B W (W9.setCell ⟨L, 0, none⟩ v') ∧ KeepM (fun k => k = L ∨ k = L + 1 ∨ k = L + 2) (rowOf L) N W (W9.setCell ⟨L, 0, none⟩ v') ∧ NInv w L o1 m dcap b off n cap p l2 (W9.setCell ⟨L, 0, none⟩ v') := by
  have hLW := lt_of_heap h5
  have g10 := grownBy_setCell' W9 L v'
  have z : W.heap.size ≤ W6.heap.size := Nat.le_trans hx.size hG6.size
  have z8 : W.heap.size ≤ W8.heap.size := Nat.le_trans z h8.size
  have z10 : W.heap.size ≤ (W9.setCell ⟨L, 0, none⟩ v').heap.size := Nat.le_trans z8 (Nat.le_trans hgrow.size g10.size)
  have hvb : ∀ g, v.ownBlock = some g → L + 3 ≤ g ∧ ∃ cur : Array Value, W.heap[g]? = some (.cells cur 9 (0, 0)) := fun g hg => own_lt h2 hg
  have k8 : ∀ k, k < W.heap.size → k ≠ L + 1 → W8.heap[k]? = W.heap[k]? := fun k hk hne =>
    (h8.block k (by omega)).trans ((hG6.block k (Nat.lt_of_lt_of_le hk hx.size) (fun e => hne (Option.some.inj e))).trans (hx.block k hk))
  have keep : ∀ k, k < W.heap.size → k ≠ L → k ≠ L + 1 → v.ownBlock ≠ some k → (W9.setCell ⟨L, 0, none⟩ v').heap[k]? = W.heap[k]? := fun k hk hl hne hr =>
    (g10.block k (Nat.lt_of_lt_of_le (Nat.lt_of_lt_of_le hk z8) hgrow.size) (fun e => hl (Option.some.inj e))).trans ((hgrow.block k (by omega) (fun e => hr e.symm)).trans (k8 k hk hne))
  have b9 : Boxed W9 L 35 v := (hgrow.block L (by omega) (fun e => by have := (hvb L e.symm).1; omega)).trans ((k8 L (by omega) (by omega)).trans h1)
  have b10 : Boxed (W9.setCell ⟨L, 0, none⟩ v') L 35 v' := b9.set v'
  refine ⟨⟨z10, fun k o hk hh ho => ?_⟩, ⟨z10, fun k hk hM hr _ => keep k hk (fun e => hM (.inl e)) (fun e => hM (.inr (.inl e))) (by rw [rowOf_box h1] at hr; exact hr), fun k hk => ?_⟩, ?_⟩
  · refine (keep k (lt_of_heap hh) (by omega) (by omega) fun e => ?_).trans hh
    obtain ⟨_, cur, hc⟩ := hvb k e
    rw [hh] at hc
    cases hc
    cases ho
  · rw [rowOf_box b10] at hk
    rcases hat with h | h
    · left; rw [rowOf_box h1, ← h]; exact hk
    · right
      rw [hk] at h
      have := Option.some.inj h
      refine ⟨by omega, ?_⟩
      obtain ⟨_, cur, hc⟩ := own_lt hown hk
      exact Nat.lt_of_lt_of_le (lt_of_heap hc) g10.size
  · unfold NInv
    rw [e1]
    refine ⟨⟨v', b10, ?_⟩, ⟨D.put (.string s.data.toList) (.agg []), ?_, fun y => ?_⟩, (keep _ hLW (by omega) (by omega) (fun e => by have := (hvb _ e).1; omega)).trans h5, (keep _ (lt_of_heap h6) (by omega) (by omega) (fun e => by have := (hvb _ e).1; omega)).trans h6, ?_⟩
    · have h10 := own_same (Y := W9.setCell ⟨L, 0, none⟩ v') hown fun g hg => by
        obtain ⟨hg1, cur, hc⟩ := own_lt hown hg
        exact set_other W9 L g 0 v' (by omega)
      rw [List.map_append, List.length_append]
      exact h10
    · rw [List.length_append]
      refine ((hM6.kept (grown_none h8) (by simp)).kept hgrow fun e => ?_).kept g10 (fun e => by have := Option.some.inj e; omega)
      have := (hvb _ e.symm).1
      omega
    · by_cases hy : y = s
      · subst hy
        rw [has_put_same h3.isMap (by unfold WideAt.IsKeyLit; trivial)]
        simp
      · rw [has_put_other (fun e => hy ?_), h4]
        · simp [hy]
        · have e2 : y.data.toList = s.data.toList := Lit.string.inj e
          exact ByteArray.ext (Array.toList_inj.1 e2)
    · have c1 := h7.trans (hx.mono h7.size)
      have c2 := c1.grown hG6 c1.size (fun k e => by have := Option.some.inj e; omega)
      have c3 := c2.trans (h8.mono c2.size)
      have c4 := c3.grown hgrow c3.size (fun k e => by have := (hvb _ e).1; omega)
      exact c4.grown g10 c4.size (fun k e => by have := Option.some.inj e; omega)
theorem any_of_seq {n : Nat} {P : Program} {md : Region.Mode} {ops : Array Oper} {Q : Exit → Act → World → Prop} {lp : Nat} {listed : Array Bool} {a : Act} {w : World} (k : Nat) {f : Nat} (hf : (ops.toList.drop k).length = f) (hB : Region.seqB md ops f k listed = true)
    (h : wpListIn (Fence.wide.inRound lp) n P ops Q (ops.toList.drop k) a w) : wpAnyIn (Fence.wide.inRound lp) n P md ops Q f listed a w := by
  subst hf
  exact wpAnyIn_of_seq _ k _ _ _ (fun j => by simp [List.getElem?_drop]) hB h
theorem keep_below {B : Nat} {W Y : World} (h : Below W.heap.size W Y) : KeepsFrom B W Y := ⟨h.size, fun k _ _ hk _ => (h.block k (lt_of_heap hk)).trans hk⟩
theorem keepM_below {M : Nat → Prop} {L N : Nat} {W Y : World} (h : Below W.heap.size W Y) (hL : L < W.heap.size) : KeepM M (rowOf L) N W Y :=
  ⟨h.size, fun k hk _ _ _ => h.block k hk, fun k hk => .inl (by rw [← rowOf_same (h.block L hL)]; exact hk)⟩
theorem ninv_below {w : World} {L : Nat} {o1 : Option Addr} {m dcap b off n cap : Nat} {p : Pr} {l l2 : List Nat} {W Y : World} {v : Value} {D : DataW Unit} (e1 : namesL p l2 = namesL p l) (hb : Below W.heap.size W Y)
    (h1 : Boxed W L 35 v) (h2 : W.ownsRow (L + 3) 9 1 v (namesL p l).length ((namesL p l).map Value.string))
    (h3 : Y.ownsMap Try.prog 9 unitElem (L + 1) (namesL p l).length D) (h4 : ∀ x : ByteArray, Maps.has D (.string x.data.toList) = decide (x ∈ namesL p l))
    (h5 : W.heap[L + 2]? = some (.cells #[.map (some (L + 1))] 66 (0, 0))) (h6 : W.heap[w.heap.size]? = some (.cells #[.slice o1 m dcap, .slice (some ⟨b, off, none⟩) n cap] 25 (0, 0))) (h7 : Below w.heap.size w W) :
    NInv w L o1 m dcap b off n cap p l2 Y := by
  unfold NInv
  rw [e1]
  refine ⟨⟨v, (hb.block _ (lt_of_heap h1)).trans h1, own_same h2 fun g hg => ?_⟩, ⟨D, h3, h4⟩, (hb.block _ (lt_of_heap h5)).trans h5, (hb.block _ (lt_of_heap h6)).trans h6, h7.trans (hb.mono h7.size)⟩
  obtain ⟨_, cur, hc⟩ := own_lt h2 hg
  exact hb.block _ (lt_of_heap hc)
set_option maxHeartbeats 8000000 in
set_option maxRecDepth 100000 in
theorem names_core (o1 : Option Addr) (b off cap dcap : Nat) (p : Pr) (n m : Nat) (hn : Hid (p.exprs.length = n)) (nl : (n : Int) ≤ 300) (e : Nat) (hen : e < n) (w : World)
    (hpa : Hid (ProgAt w (.slice o1 m dcap) (.slice (some ⟨b, off, none⟩) n cap) p)) (hS : Hid (Small p)) (hm : Hid (mayP p = true)) (hc : Hid (∀ i, i < n → ∀ x, p.exprs[i]? = some x → ExAt w b (off + i * 9) x)) :
    CallsIn Fence.wide 5 Try.prog 13 #[.agg #[.slice o1 m dcap, .slice (some ⟨b, off, none⟩) n cap], .int .i64 (e : Int)] w fun r w' => ∃ v, r = .returned v ∧ w'.ownsRow w.heap.size 9 1 v (namesL p (metP p e)).length ((namesL p (metP p e)).map Value.string) ∧ Below w.heap.size w w' := by
  have hb0 := Lib.hid (below_al (Below.refl w.heap.size w) (.cells #[.slice o1 m dcap, .slice (some ⟨b, off, none⟩) n cap] 25))
  have hB0 := Lib.hid (World.alloc_heap_new w (.cells #[.slice o1 m dcap, .slice (some ⟨b, off, none⟩) n cap] 25))
  have CI : Hid (Calls Try.prog 18 #[.agg #[.slice o1 m dcap, .slice (some ⟨b, off, none⟩) n cap], .int .i64 (e : Int)] (w.alloc (.cells #[.slice o1 m dcap, .slice (some ⟨b, off, none⟩) n cap] 25)) fun r w' => MayPost true (w.alloc (.cells #[.slice o1 m dcap, .slice (some ⟨b, off, none⟩) n cap] 25)) r w') := Lib.hid (by
    have h := isIn_any _ _ p (e : Int) _ (hpa.out.below hb0.out) hS.out
    rwa [show inP p (e : Int) = true by unfold inP; rw [hm.out, decide_eq_true (show (0 : Int) ≤ e by omega), decide_eq_true (show (e : Int) < (p.exprs.length : Int) by rw [hn.out]; omega)]; rfl] at h)
  have hmm := @run_makeMap Try.prog
  refine callsIn_of_wp_marks Try.func13 rfl trivial ?_ rfl
  simp only [Try.ntmps13, List.size_toArray, List.length_cons, List.length_nil, Nat.reduceAdd, Nat.reduceSub, Array.replicate_succ, Array.replicate_zero, List.push_toArray, List.append_toArray, List.nil_append, List.cons_append]
  gi_wp2_with (fail)
  refine ⟨trivial, ?_⟩
  gi_at_call 18
  ((with_reducible refine (callsIn_wide.2 CI.out).mono ?_))
  rintro r w1 ⟨rfl, hb⟩
  have HB := Lib.hid hb
  have hB1 := Lib.hid ((hb.block _ (lt_of_heap hB0.out)).trans hB0.out)
  have g1 : w1.cell? ⟨w.heap.size, 0, none⟩ = some (.slice o1 m dcap) := by simp [World.cell?, hB1.out]
  have g2 : w1.cell? ⟨w.heap.size, 1, none⟩ = some (.slice (some ⟨b, off, none⟩) n cap) := by simp [World.cell?, hB1.out]
  have hz1 : w.heap.size < w1.heap.size := lt_of_heap hB1.out
  have hbw := Lib.hid (hb0.out.trans (hb.mono hb0.out.size))
  clear hb
  have hq := Lib.hid (three w1 (.cells #[.slice none 0 0] 35) (.map #[] 0) (.cells #[.map (some (w1.heap.size + 1))] 66))
  have hB2 := (hq.out.2.2.2.1.block w.heap.size hz1).trans hB1.out
  have g3 : (((w1.alloc (.cells #[.slice none 0 0] 35)).alloc (.map #[] 0)).alloc (.cells #[.map (some (w1.heap.size + 1))] 66)).cell? ⟨w.heap.size, 0, none⟩ = some (.slice o1 m dcap) := by simp only [World.cell?, hB2]; rfl
  have g4 : (((w1.alloc (.cells #[.slice none 0 0] 35)).alloc (.map #[] 0)).alloc (.cells #[.map (some (w1.heap.size + 1))] 66)).cell? ⟨w.heap.size, 1, none⟩ = some (.slice (some ⟨b, off, none⟩) n cap) := by simp only [World.cell?, hB2]; rfl
  gi_wp2_with (refine ⟨trivial, ?_⟩; gi_at_call 35; ((with_reducible refine (callsIn_wide.2 (met_any _ _ _ _ _ _ _ _)).mono ?_); rintro r w2 ⟨rfl, rfl⟩))
  obtain ⟨L, hLd⟩ : ∃ L, L = w1.heap.size := ⟨_, rfl⟩
  obtain ⟨f1, f2, f3, f4, f5, fb, fz⟩ := (five w1 (.cells #[.slice none 0 0] 35) (.map #[] 0) (.cells #[.map (some (w1.heap.size + 1))] 66) (.cells #[.slice o1 m dcap, .slice (some ⟨b, off, none⟩) n cap] 25) (.cells #[.int .i64 (e : Int)] 3))
  have hMD : Hid ((((((w1.alloc (.cells #[.slice none 0 0] 35)).alloc (.map #[] 0)).alloc (.cells #[.map (some (w1.heap.size + 1))] 66)).alloc (.cells #[.slice o1 m dcap, .slice (some ⟨b, off, none⟩) n cap] 25)).alloc (.cells #[.int .i64 (e : Int)] 3)).ownsMap Try.prog 9 (unitElem (H := Unit)) (w1.heap.size + 1) 0 (.map [])) := Lib.hid (by
    have h := (((World.ownsMap_made (H := Unit) (w1.alloc (.cells #[.slice none 0 0] 35)) Try.prog 9 unitElem).alloc (.cells #[.map (some (w1.heap.size + 1))] 66)).alloc (.cells #[.slice o1 m dcap, .slice (some ⟨b, off, none⟩) n cap] 25)).alloc (.cells #[.int .i64 (e : Int)] 3)
    rwa [World.size_alloc] at h)
  generalize (((((w1.alloc (.cells #[.slice none 0 0] 35)).alloc (.map #[] 0)).alloc (.cells #[.map (some (w1.heap.size + 1))] 66)).alloc (.cells #[.slice o1 m dcap, .slice (some ⟨b, off, none⟩) n cap] 25)).alloc (.cells #[.int .i64 (e : Int)] 3)) = W3 at hMD f1 f2 f3 f4 f5 fb fz ⊢
  have hrow : rowOf w1.heap.size W3 = none := rowOf_box f1
  have hA3 : Aside (fun k => k = w1.heap.size ∨ k = w1.heap.size + 1 ∨ k = w1.heap.size + 2) (rowOf w1.heap.size) W3 := ⟨fun k hk => by omega, fun k hk => (by rw [hrow] at hk; cases hk), fun X Y h => rowOf_same (h _ (by omega))⟩
  have hn2 : p.exprs.length = n := hn.out
  refine wpIn_range_writes (α := {z : Nat // z ≤ e}) rfl (by decide) (gf := 49) (lb := #[.pointer (some ⟨w1.heap.size + 1 + 1 + 1 + 1, 0, none⟩), .pointer (some ⟨w1.heap.size + 1 + 1 + 1, 0, none⟩)]) rfl trivial (enters_of Try.func49 (by kernel_rfl) rfl)
    (met_stops 4 (by decide) p o1 m dcap b off cap e (w1.heap.size + 1 + 1 + 1) (w1.heap.size + 1 + 1 + 1 + 1) hS.out hm.out (by rw [hn.out]; exact hen) w W3 (fun k => k = w1.heap.size ∨ k = w1.heap.size + 1 ∨ k = w1.heap.size + 2) (rowOf w1.heap.size) hA3 (fun k hk => by
      rcases hk with hk | hk
      · omega
      · rw [hrow] at hk; cases hk) (hbw.out.trans (fb.mono hbw.out.size)) ⟨by omega, by omega, by rw [hrow]; exact fun h => by cases h⟩ ⟨by omega, by omega, by rw [hrow]; exact fun h => by cases h⟩ (by rw [hn2]; exact f4) f5 (by rw [hn2]; exact hc.out))
    (fun h k => h.trans k) (fun W l o o' h1 h2 h3 _ => keepM_putObj (by omega) W l o o' h1 h2 h3) (fun _ => rfl)
    (fun pre W => NInv w w1.heap.size o1 m dcap b off n cap p (pre.map (·.1)) W) (fun _ _ _ => False) (ninv_abides (by omega) hz1) (fun _ _ _ _ _ hs _ _ => hs) ⟨⟨_, f1, World.ownsRow_nil _ _ _ _⟩, ⟨_, hMD.out, fun x => by simp [namesL, Maps.has]⟩, f3, (fb.block _ hz1).trans hB1.out, hbw.out.trans (fb.mono hbw.out.size)⟩
    (fun z => { tmps := #[.agg #[.slice o1 m dcap, .slice (some ⟨b, off, none⟩) n cap], .int .i64 (e : Int), .pointer (some ⟨w.heap.size, 0, none⟩), undef, .slice none 0 0, .pointer (some ⟨w1.heap.size, 0, none⟩), .pointer (some ⟨w1.heap.size + 1 + 1, 0, none⟩), .int .i64 (z.1 : Int), undef, undef, undef, .agg #[.slice o1 m dcap, .slice (some ⟨b, off, none⟩) n cap], .int .i64 (e : Int), .bool true, .bool false, .map (some (w1.heap.size + 1)), .agg #[.slice o1 m dcap, .slice (some ⟨b, off, none⟩) n cap], .int .i64 (e : Int), metV (w1.heap.size + 1 + 1 + 1 + 1) (w1.heap.size + 1 + 1 + 1), .int .i64 (z.1 : Int), undef, undef, undef, undef, undef, undef, undef, undef, undef, undef, undef, undef, undef, undef, undef, undef, undef, undef, undef, undef, undef, undef, undef, undef, undef, undef, undef, undef, undef], defers := [] }) ?assign ?body ?done ?stop
  case assign =>
    rintro lp z W K hK
    gi_wp2
    exact hK
  case body =>
    rintro lp pre ⟨z, hze⟩ W ⟨⟨v, h1, h2⟩, ⟨D, h3, h4⟩, h5, h6, h7⟩ hlt2
    obtain ⟨x, hxk⟩ : ∃ x, p.exprs[z]? = some x := ⟨_, List.getElem?_eq_getElem (by omega)⟩
    obtain ⟨oa, capa, hargs, hok, b0, b1, b2, b3, b4, b5, b6, b7, b8⟩ := ex_cells (hc.out z (by omega) x hxk)
    have c0 := cell_on h7 b0
    have c1 := cell_on h7 b1
    have c2 := cell_on h7 b2
    have c3 := cell_on h7 b3
    have c4 := cell_on h7 b4
    have c5 := cell_on h7 b5
    have c6 := cell_on h7 b6
    have c7 := cell_on h7 b7
    have c8 := cell_on h7 b8
    have y0 : W.cell? ⟨w1.heap.size, 0, none⟩ = some v := by simp [World.cell?, show W.heap[w1.heap.size]? = _ from h1]
    have y1 : W.cell? ⟨w.heap.size, 1, none⟩ = some (.slice (some ⟨b, off, none⟩) n cap) := by simp [World.cell?, h6]
    have y2 : W.cell? ⟨w1.heap.size + 2, 0, none⟩ = some (.map (some (w1.heap.size + 1))) := by simp [World.cell?, h5]
    have ix := ix_exs (cap := cap) (o := some ⟨b, off, none⟩) (n := n) (b := b) (off := off) (fun _ => rfl) (show z < n by omega) (by omega)
    unfold Ix at ix
    obtain ⟨W4, hW4⟩ : ∃ W4, W4 = W.alloc (.cells (exCells x (.slice oa x.args.length capa)) 34) := ⟨_, rfl⟩
    have up : ∀ {k : Nat} {ob : Obj}, W.heap[k]? = some ob → W4.heap[k]? = some ob := fun h => by rw [hW4, heap_old _ _ _ (lt_of_heap h)]; exact h
    have u0 : W4.cell? ⟨w1.heap.size, 0, none⟩ = some v := by simp [World.cell?, up h1]
    have u2 : W4.cell? ⟨w1.heap.size + 1 + 1, 0, none⟩ = some (.map (some (w1.heap.size + 1))) := by simp only [World.cell?, show W4.heap[w1.heap.size + 1 + 1]? = _ from up h5]; rfl
    have hx4 : W4.heap[W.heap.size]? = some (.cells (exCells x (.slice oa x.args.length capa)) 34 (0, 0)) := by rw [hW4]; exact World.alloc_heap_new W _
    have x0 : W4.cell? ⟨W.heap.size, 0, none⟩ = some (.int .i64 x.kind) := by simp [World.cell?, hx4, exCells]
    have x4 : W4.cell? ⟨W.heap.size, 4, none⟩ = some (.string x.name) := by simp [World.cell?, hx4, exCells]
    have up5 : ∀ {a : Addr} {u : Value}, W4.cell? a = some u → (W4.alloc (.cells #[] 68)).cell? a = some u := fun h => cell_on (below_al (Below.refl W4.heap.size W4) _) h
    have u5 := up5 u0
    have u6 := up5 u2
    have x5 := up5 x0
    have x6 := up5 x4
    clear up5
    unfold exCells at hW4
    rw [hW4] at u0 u2 x0 x4 u5 u6 x5 x6
    have H1 := Lib.hid h1
    have H2 := Lib.hid h2
    have H3 := Lib.hid h3
    have H4 := Lib.hid h4
    have H5 := Lib.hid h5
    have H6 := Lib.hid h6
    have H7 := Lib.hid h7
    clear h1 h2 h3 h4 h5 h6 h7 b0 b1 b2 b3 b4 b5 b6 b7 b8 hA3 hrow
    dsimp only
    have hxs0 : x.name.size ≤ 60099 := by
      have := hS.out.ex x (List.mem_of_getElem? hxk)
      unfold wEx at this
      omega
    have hxs : x.name.size ≤ maxLen := by unfold maxLen; omega
    have hkm := (H3.out.alloc (.cells #[.int .i64 x.kind, .int .i64 x.a, .int .i64 x.b, .int .i64 x.c, .string x.name, .string x.state, .int .i64 x.v, .slice oa x.args.length capa, .int .i64 x.pos] 34))
    have hh := H4.out x.name
    have hpl : (namesL p (pre.map (·.1))).length ≤ 300 := by
      have h1 := namesL_len p (pre.map (·.1))
      have h2 := metP_len (ahead_of hm.out) e
      rw [List.length_map] at h1
      omega
    have hmx : (namesL p (pre.map (·.1))).length < maxLen := by unfold maxLen; omega
    by_cases hin : x.name ∈ namesL p (pre.map (·.1))
    · rw [decide_eq_true hin] at hh
      have HIN := Lib.hid hin
      clear hin
      gi_wp2_with (gi_at_lookup; refine wpListIn_lookup_own_unit _ rfl _ _ 66 rfl 9 68 str_keyed Try.underlying66 (zero_unit _) _ _ D rfl hkm _ _ rfl (key_str x.name hxs) ?_)
      have e1 := names_skip (pre := pre.map (·.1)) hxk fun _ => HIN.out
      have hbb := ((Below.refl W.heap.size W).alloc (Nat.le_refl _) (.cells #[.int .i64 x.kind, .int .i64 x.a, .int .i64 x.b, .int .i64 x.c, .string x.name, .string x.state, .int .i64 x.v, .slice oa x.args.length capa, .int .i64 x.pos] 34)).alloc (by rw [World.size_alloc]; omega) (.cells #[] 68)
      exact ⟨keep_below hbb, keepM_below hbb (lt_of_heap H1.out), ninv_below (by rw [List.map_append]; exact e1) hbb H1.out H2.out (hkm.alloc _) H4.out H5.out H6.out H7.out⟩
    rcases Classical.em (x.kind = 3) with hk3 | hk3
    rotate_left
    · rw [decide_eq_false hin] at hh
      have hk4 : (x.kind != 3) = true := by simpa using hk3
      have HK3 := Lib.hid hk3
      have HIN := Lib.hid hin
      clear hk3 hin
      gi_wp2_with (gi_at_lookup; refine wpListIn_lookup_own_unit _ rfl _ _ 66 rfl 9 68 str_keyed Try.underlying66 (zero_unit _) _ _ D rfl hkm _ _ rfl (key_str x.name hxs) ?_)
      have e1 := names_skip (pre := pre.map (·.1)) hxk fun hk => absurd hk HK3.out
      have hbb := ((Below.refl W.heap.size W).alloc (Nat.le_refl _) (.cells #[.int .i64 x.kind, .int .i64 x.a, .int .i64 x.b, .int .i64 x.c, .string x.name, .string x.state, .int .i64 x.v, .slice oa x.args.length capa, .int .i64 x.pos] 34)).alloc (by rw [World.size_alloc]; omega) (.cells #[] 68)
      exact ⟨keep_below hbb, keepM_below hbb (lt_of_heap H1.out), ninv_below (by rw [List.map_append]; exact e1) hbb H1.out H2.out (hkm.alloc _) H4.out H5.out H6.out H7.out⟩
    rw [decide_eq_false hin] at hh
    have hk4 : (x.kind != 3) = false := by rw [hk3]; rfl
    have HK3 := Lib.hid hk3
    have HIN := Lib.hid hin
    clear hk3 hin
    gi_wp2_with (first | (gi_at_lookup; refine wpListIn_lookup_own_unit _ rfl _ _ 66 rfl 9 68 str_keyed Try.underlying66 (zero_unit _) _ _ D rfl hkm _ _ rfl (key_str x.name hxs) ?_) | (gi_at_mapUpdate; refine wpListIn_mapUpdate_own _ rfl _ _ _ 66 rfl 9 68 str_keyed Try.underlying66 _ (w1.heap.size + 1) _ D rfl (hkm.alloc _) hmx _ _ _ rfl rfl (key_str x.name hxs) _ [] unitElem_mk ?_; intro W6 hM6 hG6))
    obtain ⟨ii, si2, si3, si4, si5⟩ := info_parts str_info
    have k6 : ∀ k, k < W.heap.size → k ≠ w1.heap.size + 1 → W6.heap[k]? = W.heap[k]? := fun k hk hne =>
      (hG6.block k (by rw [World.size_alloc, World.size_alloc]; omega) (fun e => hne (Option.some.inj e))).trans ((heap_old _ _ _ (by rw [World.size_alloc]; omega)).trans (heap_old _ _ _ hk))
    have kx : W6.heap[W.heap.size]? = some (.cells (exCells x (.slice oa x.args.length capa)) 34 (0, 0)) :=
      (hG6.block _ (by rw [World.size_alloc, World.size_alloc]; omega) (fun e => by have := Option.some.inj e; have := lt_of_heap H5.out; omega)).trans ((heap_old _ _ _ (by rw [World.size_alloc]; omega)).trans (by unfold exCells; exact World.alloc_heap_new W _))
    have z6 : W.heap.size ≤ W6.heap.size := by have := hG6.size; rw [World.size_alloc, World.size_alloc] at this; omega
    have b6 : W6.heap[w1.heap.size]? = some (.cells #[v] 35 (0, 0)) := (k6 _ (lt_of_heap H1.out) (by omega)).trans H1.out
    have r6 : W6.ownsRow (w1.heap.size + 3) 9 1 v (namesL p (pre.map (·.1))).length ((namesL p (pre.map (·.1))).map Value.string) := own_same H2.out fun g hg => by
      obtain ⟨hg1, cur, hcur⟩ := own_lt H2.out hg
      exact k6 g (lt_of_heap hcur) (by omega)
    refine wpIn_region_any (by kernel_rfl) ?_
    obtain ⟨Wd, hWd⟩ : ∃ Wd : World, Wd = { W6 with drawn := W6.drawn + 1 } := ⟨_, rfl⟩
    rw [← hWd]
    have bd : Below W6.heap.size W6 Wd := by rw [hWd]; exact ⟨rfl, rfl, rfl, Nat.le_refl _, fun _ _ => rfl⟩
    have cl : Wd.cell? ⟨w1.heap.size, 0, none⟩ = some v := cell_on bd (by simp [World.cell?, b6])
    have cx : Wd.cell? ⟨W.heap.size, 4, none⟩ = some (.string x.name) := cell_on bd (by simp [World.cell?, kx, exCells])
    have HB6 := Lib.hid b6
    have HR6 := Lib.hid r6
    have HK6 := Lib.hid k6
    have HKX := Lib.hid kx
    have HBD := Lib.hid bd
    have rowAt : ∀ Y, Below W6.heap.size W6 Y → Y.ownsRow (w1.heap.size + 3) 9 1 v (namesL p (pre.map (·.1))).length ((namesL p (pre.map (·.1))).map Value.string) := fun Y hY => own_same r6 fun g hg => by
      obtain ⟨_, cur, hcur⟩ := own_lt r6 hg
      exact hY.block g (lt_of_heap hcur)
    have zAt : ∀ Y, Below W6.heap.size W6 Y → w1.heap.size + 3 ≤ Y.heap.size := fun Y hY => by have := hY.size; have := lt_of_heap H5.out; omega
    have hxc : x.name.size ≤ 281474976710656 := by omega
    have fz : ∀ Y Z : World, Below W6.heap.size W6 Y → Y.grownBy Z v.ownBlock → Boxed Z w1.heap.size 35 v := fun Y Z hY hZ => by
      have h1 : Boxed Y w1.heap.size 35 v := (hY.block _ (lt_of_heap b6)).trans b6
      exact h1.kept hZ fun e => by have := (own_lt H2.out e.symm).1; omega
    have e1 := names_step (pre := pre.map (·.1)) hxk HK3.out HIN.out
    have fin : ∀ (Y Z : World) (v' : Value), Below W6.heap.size W6 Y → Z.ownsRow (w1.heap.size + 3) 9 1 v' ((namesL p (pre.map (·.1))).length + 1) ((namesL p (pre.map (·.1))).map Value.string ++ [.string x.name]) → Y.grownBy Z v.ownBlock → (v'.ownBlock = v.ownBlock ∨ v'.ownBlock = some Y.heap.size) →
        KeepsFrom W3.heap.size W (Z.setCell ⟨w1.heap.size, 0, none⟩ v') ∧ KeepM (fun k => k = w1.heap.size ∨ k = w1.heap.size + 1 ∨ k = w1.heap.size + 2) (rowOf w1.heap.size) W3.heap.size W (Z.setCell ⟨w1.heap.size, 0, none⟩ v') ∧ NInv w w1.heap.size o1 m dcap b off n cap p ((pre ++ [(⟨z, hze⟩ : {z : Nat // z ≤ e})]).map (·.1)) (Z.setCell ⟨w1.heap.size, 0, none⟩ v') := fun Y Z v' hY hZ hg ha =>
      names_round hz1 (by omega) H1.out H2.out H3.out H4.out H5.out H6.out H7.out (((Below.refl W.heap.size W).alloc (Nat.le_refl _) _).alloc (by rw [World.size_alloc]; omega) _) hM6 hG6 hY hZ hg ha (by rw [List.map_append]; exact e1)
    have ROWAT := Lib.hid rowAt
    have FIN := Lib.hid fin
    have ZAT := Lib.hid zAt
    have FZ := Lib.hid fz
    clear b6 r6 k6 kx bd hWd hM6 hG6 rowAt fin zAt fz e1
    refine wpAnyIn_all (rs := [0, 1]) (fuel := 6) (by kernel_rfl) (by simp) fun i hi => ?_
    rcases List.mem_cons.1 hi with rfl | hi
    · refine wpOpIn_one rfl fun Q2 hQ2 => ?_
      gi_wp2_with (fail)
      refine any_of_seq 1 (by rfl) (by kernel_rfl) ?_
      simp only [List.drop_succ_cons, List.drop_zero]
      gi_wp2_with (first | (refine ⟨trivial, ?_⟩; gi_at_call 36; refine (CallsIn.inRound lp (callsIn_wide.2 (clone_any x.name hxc _))).mono ?_; rintro e7 W7 ⟨rfl, hb7⟩; have c7 := cell_on hb7 cl; have c8 : (W7.alloc (.cells #[.string x.name] 9)).cell? ⟨w1.heap.size, 0, none⟩ = some v := cell_on (below_al (Below.refl W7.heap.size W7) _) c7) | (gi_at_builtin; refine wpListIn_append_own_at _ rfl _ _ 35 rfl (w1.heap.size + 3) 9 ii (.string ByteArray.empty) 1 16 Try.underlying35 si2 si3 si4 si5 rfl (by decide) v _ _ rfl (ROWAT.out _ (((HBD.out.trans (hb7.mono HBD.out.size)).alloc (Nat.le_trans HBD.out.size hb7.size) _))) ⟨W7.heap.size, 0, none⟩ 1 1 [.string x.name] rfl rfl (cell_one_new _ _ _) (by simp [Value.oneCell']) (by unfold maxLen; omega) (by omega) (ZAT.out _ (((HBD.out.trans (hb7.mono HBD.out.size)).alloc (Nat.le_trans HBD.out.size hb7.size) _))) ?_; intro v' W9 hown hgrow hnil hat; obtain ⟨g', cap', rfl⟩ := ownsRow_succ hown; have hc9 := (FZ.out _ _ ((HBD.out.trans (hb7.mono HBD.out.size)).alloc (Nat.le_trans HBD.out.size hb7.size) _) hgrow).cell; have hf9 := (FZ.out _ _ ((HBD.out.trans (hb7.mono HBD.out.size)).alloc (Nat.le_trans HBD.out.size hb7.size) _) hgrow).frozen; have HOWN := Lib.hid hown; have HGROW := Lib.hid hgrow; have HAT := Lib.hid hat; have HB7 := Lib.hid hb7; clear hown hgrow hnil hat hb7))
      exact FIN.out _ _ _ ((HBD.out.trans (HB7.out.mono HBD.out.size)).alloc (Nat.le_trans HBD.out.size HB7.out.size) _) HOWN.out HGROW.out HAT.out
    obtain rfl := List.mem_singleton.1 hi
    clear hi
    refine wpOpIn_one rfl fun Q2 hQ2 => ?_
    gi_wp2_with (fail)
    refine wpAnyIn_all (rs := [0, 2]) (fuel := 5) (by kernel_rfl) (by simp) fun i hi => ?_
    rcases List.mem_cons.1 hi with rfl | hi
    · refine wpOpIn_one rfl fun Q2 hQ2 => ?_
      gi_wp2_with (fail)
      refine any_of_seq 2 (by rfl) (by kernel_rfl) ?_
      simp only [List.drop_succ_cons, List.drop_zero]
      gi_wp2_with (first | (refine ⟨trivial, ?_⟩; gi_at_call 36; refine (CallsIn.inRound lp (callsIn_wide.2 (clone_any x.name hxc _))).mono ?_; rintro e7 W7 ⟨rfl, hb7⟩; have c7 := cell_on hb7 cl; have c8 : (W7.alloc (.cells #[.string x.name] 9)).cell? ⟨w1.heap.size, 0, none⟩ = some v := cell_on (below_al (Below.refl W7.heap.size W7) _) c7) | (gi_at_builtin; refine wpListIn_append_own_at _ rfl _ _ 35 rfl (w1.heap.size + 3) 9 ii (.string ByteArray.empty) 1 16 Try.underlying35 si2 si3 si4 si5 rfl (by decide) v _ _ rfl (ROWAT.out _ (((HBD.out.trans (hb7.mono HBD.out.size)).alloc (Nat.le_trans HBD.out.size hb7.size) _))) ⟨W7.heap.size, 0, none⟩ 1 1 [.string x.name] rfl rfl (cell_one_new _ _ _) (by simp [Value.oneCell']) (by unfold maxLen; omega) (by omega) (ZAT.out _ (((HBD.out.trans (hb7.mono HBD.out.size)).alloc (Nat.le_trans HBD.out.size hb7.size) _))) ?_; intro v' W9 hown hgrow hnil hat; obtain ⟨g', cap', rfl⟩ := ownsRow_succ hown; have hc9 := (FZ.out _ _ ((HBD.out.trans (hb7.mono HBD.out.size)).alloc (Nat.le_trans HBD.out.size hb7.size) _) hgrow).cell; have hf9 := (FZ.out _ _ ((HBD.out.trans (hb7.mono HBD.out.size)).alloc (Nat.le_trans HBD.out.size hb7.size) _) hgrow).frozen; have HOWN := Lib.hid hown; have HGROW := Lib.hid hgrow; have HAT := Lib.hid hat; have HB7 := Lib.hid hb7; clear hown hgrow hnil hat hb7))
      exact FIN.out _ _ _ ((HBD.out.trans (HB7.out.mono HBD.out.size)).alloc (Nat.le_trans HBD.out.size HB7.out.size) _) HOWN.out HGROW.out HAT.out
    obtain rfl := List.mem_singleton.1 hi
    clear hi
    refine wpOpIn_one rfl fun Q2 hQ2 => ?_
    gi_wp2_with (fail)
    refine wpAnyIn_all (rs := [0, 3]) (fuel := 4) (by kernel_rfl) (by simp) fun i hi => ?_
    rcases List.mem_cons.1 hi with rfl | hi
    · refine wpOpIn_one rfl fun Q2 hQ2 => ?_
      gi_wp2_with (fail)
      refine any_of_seq 3 (by rfl) (by kernel_rfl) ?_
      simp only [List.drop_succ_cons, List.drop_zero]
      gi_wp2_with (first | (refine ⟨trivial, ?_⟩; gi_at_call 36; refine (CallsIn.inRound lp (callsIn_wide.2 (clone_any x.name hxc _))).mono ?_; rintro e7 W7 ⟨rfl, hb7⟩; have c7 := cell_on hb7 cl; have c8 : (W7.alloc (.cells #[.string x.name] 9)).cell? ⟨w1.heap.size, 0, none⟩ = some v := cell_on (below_al (Below.refl W7.heap.size W7) _) c7) | (gi_at_builtin; refine wpListIn_append_own_at _ rfl _ _ 35 rfl (w1.heap.size + 3) 9 ii (.string ByteArray.empty) 1 16 Try.underlying35 si2 si3 si4 si5 rfl (by decide) v _ _ rfl (ROWAT.out _ (((HBD.out.trans (hb7.mono HBD.out.size)).alloc (Nat.le_trans HBD.out.size hb7.size) _))) ⟨W7.heap.size, 0, none⟩ 1 1 [.string x.name] rfl rfl (cell_one_new _ _ _) (by simp [Value.oneCell']) (by unfold maxLen; omega) (by omega) (ZAT.out _ (((HBD.out.trans (hb7.mono HBD.out.size)).alloc (Nat.le_trans HBD.out.size hb7.size) _))) ?_; intro v' W9 hown hgrow hnil hat; obtain ⟨g', cap', rfl⟩ := ownsRow_succ hown; have hc9 := (FZ.out _ _ ((HBD.out.trans (hb7.mono HBD.out.size)).alloc (Nat.le_trans HBD.out.size hb7.size) _) hgrow).cell; have hf9 := (FZ.out _ _ ((HBD.out.trans (hb7.mono HBD.out.size)).alloc (Nat.le_trans HBD.out.size hb7.size) _) hgrow).frozen; have HOWN := Lib.hid hown; have HGROW := Lib.hid hgrow; have HAT := Lib.hid hat; have HB7 := Lib.hid hb7; clear hown hgrow hnil hat hb7))
      exact FIN.out _ _ _ ((HBD.out.trans (HB7.out.mono HBD.out.size)).alloc (Nat.le_trans HBD.out.size HB7.out.size) _) HOWN.out HGROW.out HAT.out
    obtain rfl := List.mem_singleton.1 hi
    clear hi
    refine wpOpIn_one rfl fun Q2 hQ2 => ?_
    gi_wp2_with ((refine ⟨trivial, ?_⟩; gi_at_call 36; refine (CallsIn.inRound lp (callsIn_wide.2 (clone_any x.name hxc _))).mono ?_; rintro e7 W7 ⟨rfl, hb7⟩; have c7 := cell_on hb7 cl; have c8 : (W7.alloc (.cells #[.string x.name] 9)).cell? ⟨w1.heap.size, 0, none⟩ = some v := cell_on (below_al (Below.refl W7.heap.size W7) _) c7))
    refine wpAnyIn_all (rs := [0, 4]) (fuel := 3) (by kernel_rfl) (by simp) fun i hi => ?_
    rcases List.mem_cons.1 hi with rfl | hi
    · refine wpOpIn_one rfl fun Q2 hQ2 => ?_
      gi_wp2_with (fail)
      refine any_of_seq 4 (by rfl) (by kernel_rfl) ?_
      simp only [List.drop_succ_cons, List.drop_zero]
      gi_wp2_with (first | (refine ⟨trivial, ?_⟩; gi_at_call 36; refine (CallsIn.inRound lp (callsIn_wide.2 (clone_any x.name hxc _))).mono ?_; rintro e7 W7 ⟨rfl, hb7⟩; have c7 := cell_on hb7 cl; have c8 : (W7.alloc (.cells #[.string x.name] 9)).cell? ⟨w1.heap.size, 0, none⟩ = some v := cell_on (below_al (Below.refl W7.heap.size W7) _) c7) | (gi_at_builtin; refine wpListIn_append_own_at _ rfl _ _ 35 rfl (w1.heap.size + 3) 9 ii (.string ByteArray.empty) 1 16 Try.underlying35 si2 si3 si4 si5 rfl (by decide) v _ _ rfl (ROWAT.out _ (((HBD.out.trans (hb7.mono HBD.out.size)).alloc (Nat.le_trans HBD.out.size hb7.size) _))) ⟨W7.heap.size, 0, none⟩ 1 1 [.string x.name] rfl rfl (cell_one_new _ _ _) (by simp [Value.oneCell']) (by unfold maxLen; omega) (by omega) (ZAT.out _ (((HBD.out.trans (hb7.mono HBD.out.size)).alloc (Nat.le_trans HBD.out.size hb7.size) _))) ?_; intro v' W9 hown hgrow hnil hat; obtain ⟨g', cap', rfl⟩ := ownsRow_succ hown; have hc9 := (FZ.out _ _ ((HBD.out.trans (hb7.mono HBD.out.size)).alloc (Nat.le_trans HBD.out.size hb7.size) _) hgrow).cell; have hf9 := (FZ.out _ _ ((HBD.out.trans (hb7.mono HBD.out.size)).alloc (Nat.le_trans HBD.out.size hb7.size) _) hgrow).frozen; have HOWN := Lib.hid hown; have HGROW := Lib.hid hgrow; have HAT := Lib.hid hat; have HB7 := Lib.hid hb7; clear hown hgrow hnil hat hb7))
      exact FIN.out _ _ _ ((HBD.out.trans (HB7.out.mono HBD.out.size)).alloc (Nat.le_trans HBD.out.size HB7.out.size) _) HOWN.out HGROW.out HAT.out
    obtain rfl := List.mem_singleton.1 hi
    clear hi
    refine wpOpIn_one rfl fun Q2 hQ2 => ?_
    gi_wp2_with (fail)
    refine wpAnyIn_all (rs := [0]) (fuel := 2) (by kernel_rfl) (by simp) fun i hi => ?_
    obtain rfl := List.mem_singleton.1 hi
    refine wpOpIn_one rfl fun Q2 hQ2 => ?_
    gi_wp2_with (fail)
    refine any_of_seq 5 (by rfl) (by kernel_rfl) ?_
    simp only [List.drop_succ_cons, List.drop_zero]
    gi_wp2_with (first | (refine ⟨trivial, ?_⟩; gi_at_call 36; refine (CallsIn.inRound lp (callsIn_wide.2 (clone_any x.name hxc _))).mono ?_; rintro e7 W7 ⟨rfl, hb7⟩; have c7 := cell_on hb7 cl; have c8 : (W7.alloc (.cells #[.string x.name] 9)).cell? ⟨w1.heap.size, 0, none⟩ = some v := cell_on (below_al (Below.refl W7.heap.size W7) _) c7) | (gi_at_builtin; refine wpListIn_append_own_at _ rfl _ _ 35 rfl (w1.heap.size + 3) 9 ii (.string ByteArray.empty) 1 16 Try.underlying35 si2 si3 si4 si5 rfl (by decide) v _ _ rfl (ROWAT.out _ (((HBD.out.trans (hb7.mono HBD.out.size)).alloc (Nat.le_trans HBD.out.size hb7.size) _))) ⟨W7.heap.size, 0, none⟩ 1 1 [.string x.name] rfl rfl (cell_one_new _ _ _) (by simp [Value.oneCell']) (by unfold maxLen; omega) (by omega) (ZAT.out _ (((HBD.out.trans (hb7.mono HBD.out.size)).alloc (Nat.le_trans HBD.out.size hb7.size) _))) ?_; intro v' W9 hown hgrow hnil hat; obtain ⟨g', cap', rfl⟩ := ownsRow_succ hown; have hc9 := (FZ.out _ _ ((HBD.out.trans (hb7.mono HBD.out.size)).alloc (Nat.le_trans HBD.out.size hb7.size) _) hgrow).cell; have hf9 := (FZ.out _ _ ((HBD.out.trans (hb7.mono HBD.out.size)).alloc (Nat.le_trans HBD.out.size hb7.size) _) hgrow).frozen; have HOWN := Lib.hid hown; have HGROW := Lib.hid hgrow; have HAT := Lib.hid hat; have HB7 := Lib.hid hb7; clear hown hgrow hnil hat hb7))
    exact FIN.out _ _ _ ((HBD.out.trans (HB7.out.mono HBD.out.size)).alloc (Nat.le_trans HBD.out.size HB7.out.size) _) HOWN.out HGROW.out HAT.out
  case done =>
    rintro D ys W hDge hys ⟨⟨v, h1, h2⟩, _, _, h6, h7⟩ hmark
    have y0 : W.cell? ⟨w1.heap.size, 0, none⟩ = some v := by simp [World.cell?, show W.heap[w1.heap.size]? = _ from h1]
    have H2 := Lib.hid h2
    have H7 := Lib.hid h7
    have HK := Lib.hid hmark
    have HD := Lib.hid hDge
    have HYS := Lib.hid hys
    clear h1 h2 h6 h7 hmark hDge hys
    dsimp only
    gi_wp2
    refine ⟨by simp, .inl ⟨_, _, rfl, run_takeDeferred HK.out, ?_⟩⟩
    have hDz : w1.heap.size + 5 ≤ D := by rw [← fz]; exact HD.out
    refine ⟨_, results_tmp (t := 4) (by kernel_rfl) _ _ _, v, rfl, ?_, ?_⟩
    · rw [← HYS.out]
      have h8 := own_same (Y := W.putObj D (.deferred none)) H2.out fun g hg => World.putObj_heap_other fun h => by
        obtain ⟨_, cur, hc⟩ := own_lt H2.out hg
        rw [h, HK.out] at hc; cases hc
      refine ⟨h8.1, ?_⟩
      rcases h8.2 with h | ⟨g, cap3, cur, a1, a2, a3⟩
      · exact .inl h
      · exact .inr ⟨g, cap3, cur, a1, by omega, a3⟩
    · exact H7.out.grown (grownBy_putObj' W D _) H7.out.size (fun k e => by cases e; omega)
  case stop =>
    rintro D c pre W _ _ h _
    exact h.elim
/-- the names that are told -/
noncomputable def namesP (p : Pr) (e : Int) : List ByteArray := if inP p e = true then namesL p (metP p e.toNat) else []
set_option maxHeartbeats 8000000 in
theorem names_any (sd se : Value) (p : Pr) (e : Int) (w : World) (h : ProgAt w sd se p) (hs : Small p) :
    CallsIn Fence.wide 5 Try.prog 13 #[.agg #[sd, se], .int .i64 e] w fun r w' => ∃ v, r = .returned v ∧ w'.ownsRow w.heap.size 9 1 v (namesP p e).length ((namesP p e).map Value.string) ∧ Below w.heap.size w w' := by
  obtain ⟨⟨o1, dcap, db, doff, rfl, hd1, hd2, hd3, hd4⟩, ⟨o2, cap, b, off, rfl, he1, he2, he3, he4⟩, h3, h4⟩ := id h
  by_cases hi : inP p e = true
  · have hi2 := hi
    unfold inP at hi2
    rw [Bool.and_eq_true, Bool.and_eq_true, decide_eq_true_eq, decide_eq_true_eq] at hi2
    obtain ⟨⟨h1, h2⟩, hmp⟩ := hi2
    obtain ⟨k, rfl⟩ := Int.eq_ofNat_of_zero_le h1
    have hk : k < p.exprs.length := by omega
    have ho := he3 (by omega)
    subst ho
    unfold namesP
    rw [if_pos hi]
    exact names_core o1 b off cap dcap p _ _ (Lib.hid rfl) (by have := hs.exprs; omega) k hk w (Lib.hid h) (Lib.hid hs) (Lib.hid hmp) (Lib.hid he4)
  · have hif : inP p e = false := by simpa using hi
    have hb0 := Lib.hid (below_al (Below.refl w.heap.size w) (.cells #[.slice o1 p.decls.length dcap, .slice o2 p.exprs.length cap] 25))
    have CI := Lib.hid (isIn_any _ _ p e _ (h.below hb0.out) hs)
    rw [hif] at CI
    have hz : namesP p e = [] := by unfold namesP; rw [if_neg hi]
    rw [hz]
    clear hs h hd1 hd2 hd3 hd4 he1 he2 he3 he4 h3 h4 hi hif hz
    refine callsIn_of_wp_marks Try.func13 rfl trivial ?_ rfl
    simp only [Try.ntmps13, List.size_toArray, List.length_cons, List.length_nil, Nat.reduceAdd, Nat.reduceSub, Array.replicate_succ, Array.replicate_zero, List.push_toArray, List.append_toArray, List.nil_append, List.cons_append]
    gi_wp2_with (fail)
    refine ⟨trivial, ?_⟩
    gi_at_call 18
    ((with_reducible refine (callsIn_wide.2 CI.out).mono ?_))
    rintro r w1 ⟨rfl, hb⟩
    have HB := Lib.hid hb
    clear hb
    gi_wp2
    exact ⟨_, results_tmp (t := 4) (by kernel_rfl) _ _ _, _, rfl, World.ownsRow_nil _ _ _ _, hb0.out.trans (HB.out.mono hb0.out.size)⟩
end Go.Proofs.Ytiilgehdkanmnaa
