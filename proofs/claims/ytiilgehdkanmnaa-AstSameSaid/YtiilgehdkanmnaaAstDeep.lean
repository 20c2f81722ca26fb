/- ast.Deep: how deep an expression is. -/
import Derived.Test.YtiilgehdkanmnaaAstIsIn
import Derived.Test.YtiilgehdkanmnaaTailIn
import Derived.Laws.MakeOwn
import Derived.Laws.OwnMore
namespace Go.Proofs.Ytiilgehdkanmnaa
open Go.RowKit Go.Shelf

attribute [local go_sem] Oper.semAt_some

theorem run_make_ints (n : Nat) (hn : n ≤ 1000000) (W : World) : (Instr.makeSlice 32 (.int .i64 (n : Int)) (.int .i64 (n : Int))).run Try.prog W = .ok (.slice (some ⟨W.heap.size, 0, none⟩) n n) (W.alloc (.cells (madeCells #[.int .i64 0] n) 3)) := by
  obtain ⟨i, h2, h3, h4, h5⟩ := info_parts int_info
  have hr := run_make (P := Try.prog) W 32 3 i _ Try.underlying32 h2 h3 .i64 .i64 n n (by omega) (by omega) (by rw [h5]; omega) (by omega)
  simp only [Int.toNat_natCast, h4, Nat.mul_one] at hr
  exact hr
/-! DEEP -/
/-- the greatest of some depths -/
def maxOf (ds : List Nat) (ps : List Int) : Nat := ps.foldl (fun m p => max m (ds.getD p.toNat 0)) 0
def stepD (ds : List Nat) (x : Ex) : List Nat := ds ++ [maxOf ds (partsE x) + 1]
/-- how deep each expression is -/
def deeps (l : List Ex) : List Nat := l.foldl stepD []
theorem deeps_snoc (l : List Ex) (x : Ex) : deeps (l ++ [x]) = stepD (deeps l) x := by unfold deeps; rw [List.foldl_append]; rfl
theorem foldD_len : ∀ (l : List Ex) (acc : List Nat), (l.foldl stepD acc).length = acc.length + l.length
  | [], acc => by simp
  | x :: l, acc => by rw [List.foldl_cons, foldD_len l]; unfold stepD; simp; omega
theorem foldD_pre : ∀ (l : List Ex) (acc : List Nat) (j : Nat), j < acc.length → (l.foldl stepD acc).getD j 0 = acc.getD j 0
  | [], acc, j, _ => rfl
  | x :: l, acc, j, hj => by
    rw [List.foldl_cons, foldD_pre l _ j (by unfold stepD; simp; omega)]
    unfold stepD
    rw [List.getD_eq_getElem?_getD, List.getD_eq_getElem?_getD, List.getElem?_append_left hj]
theorem deeps_len (l : List Ex) : (deeps l).length = l.length := by unfold deeps; rw [foldD_len]; simp
theorem deeps_take {l : List Ex} {k : Nat} {x : Ex} (h : l[k]? = some x) : deeps (l.take (k + 1)) = stepD (deeps (l.take k)) x := by
  obtain ⟨hk, rfl⟩ := List.getElem?_eq_some_iff.1 h
  rw [List.take_succ_eq_append_getElem hk, deeps_snoc]
theorem deeps_pre (l : List Ex) (k j : Nat) (hj : j < k) (hk : k ≤ l.length) : (deeps (l.take k)).getD j 0 = (deeps l).getD j 0 := by
  have h : deeps l = (l.drop k).foldl stepD (deeps (l.take k)) := by
    unfold deeps; rw [← List.foldl_append, List.take_append_drop]
  rw [h, foldD_pre _ _ j (by rw [deeps_len, List.length_take]; omega)]
theorem maxOf_snoc (ds : List Nat) (ps : List Int) (p : Int) : maxOf ds (ps ++ [p]) = max (maxOf ds ps) (ds.getD p.toNat 0) := by unfold maxOf; rw [List.foldl_append]; rfl
theorem maxOf_le (ds : List Nat) : ∀ (ps : List Int) (k : Nat), (∀ j, ds.getD j 0 ≤ k) → maxOf ds ps ≤ k := by
  intro ps k h
  unfold maxOf
  have : ∀ (ps : List Int) (m : Nat), m ≤ k → ps.foldl (fun m p => max m (ds.getD p.toNat 0)) m ≤ k := by
    intro ps
    induction ps with
    | nil => exact fun m hm => hm
    | cons a l ih => exact fun m hm => ih _ (Nat.max_le.2 ⟨hm, h _⟩)
  exact this ps 0 (Nat.zero_le _)
theorem foldD_le : ∀ (l : List Ex) (acc : List Nat), (∀ j, acc.getD j 0 ≤ acc.length) → ∀ j, (l.foldl stepD acc).getD j 0 ≤ acc.length + l.length
  | [], acc, h, j => h j
  | x :: l, acc, h, j => by
    have hl : (stepD acc x).length = acc.length + 1 := by unfold stepD; simp
    have := foldD_le l (stepD acc x) (fun j => by
      rw [hl]; unfold stepD
      rw [List.getD_eq_getElem?_getD, List.getElem?_append]
      have h2 := h j
      rw [List.getD_eq_getElem?_getD] at h2
      split
      · omega
      · cases hj : j - acc.length with
        | zero => exact Nat.succ_le_succ (maxOf_le _ _ _ h)
        | succ i => exact Nat.zero_le _) j
    rw [List.foldl_cons, List.length_cons]; omega
theorem deeps_le (l : List Ex) (j : Nat) : (deeps l).getD j 0 ≤ l.length := by
  have := foldD_le l [] (fun j => by simp) j
  simpa [deeps] using this
theorem wrap64_small {x : Int} (h1 : 0 ≤ x) (h2 : x < 1000000) : wrap64 x = x := by
  unfold wrap64; omega
/-- block q holds so many numbers -/
def RowD (W : World) (q e : Nat) (f : Nat → Nat) : Prop := ∃ cs : Array Value, W.heap[q]? = some (.cells cs 3 (0, 0)) ∧ cs.size = e + 1 ∧ ∀ j, j < e + 1 → cs[j]? = some (.int .i64 (f j : Int))
theorem RowD.cell {W : World} {q e : Nat} {f : Nat → Nat} (h : RowD W q e f) {j : Nat} (hj : j < e + 1) : W.cell? ⟨q, j, none⟩ = some (.int .i64 (f j : Int)) := by
  obtain ⟨cs, h1, _, h3⟩ := h; simp [World.cell?, h1, h3 j hj]
theorem RowD.frozen {W : World} {q e : Nat} {f : Nat → Nat} (h : RowD W q e f) (j : Nat) : W.frozen? ⟨q, j, none⟩ = false := by
  obtain ⟨cs, h1, _, h3⟩ := h; simp [World.frozen?, h1]
theorem RowD.same {W W' : World} {q e : Nat} {f : Nat → Nat} (h : RowD W q e f) (hb : W'.heap[q]? = W.heap[q]?) : RowD W' q e f := by
  obtain ⟨cs, h1, h2, h3⟩ := h; exact ⟨cs, hb.trans h1, h2, h3⟩
theorem RowD.set {W : World} {q e : Nat} {f : Nat → Nat} (h : RowD W q e f) {i : Nat} (hi : i < e + 1) (v : Nat) : RowD (W.setCell ⟨q, i, none⟩ (.int .i64 (v : Int))) q e (fun j => if j = i then v else f j) := by
  obtain ⟨cs, h1, h2, h3⟩ := h
  refine ⟨_, set_heap h1 i _, by simp [h2], fun j hj => ?_⟩
  rw [Array.getElem?_setIfInBounds]
  by_cases hji : i = j
  · subst hji; rw [if_pos rfl, if_pos (by omega)]; show _ = some (Value.int .i64 ((if i = i then v else f i : Nat) : Int)); rw [if_pos rfl]
  · rw [if_neg hji, h3 j hj]; show _ = some (Value.int .i64 ((if j = i then v else f j : Nat) : Int)); rw [if_neg (Ne.symm hji)]
theorem RowD.new (W : World) (e : Nat) : RowD (W.alloc (.cells (madeCells #[.int .i64 0] (e + 1)) 3)) W.heap.size e (fun _ => 0) := by
  refine ⟨_, World.alloc_heap_new W _, by simp [madeCells], fun j hj => ?_⟩
  rw [← Array.getElem?_toList, toList_madeCells_one, List.getElem?_replicate, if_pos hj]; rfl
/-- marks of rounds, each to be taken -/
def marks (Ds : List Nat) : List Deferred := Ds.map fun D => { target := .collected D, args := #[] }
def Marked (lo : Nat) (Ds : List Nat) (W : World) : Prop := Ds.Nodup ∧ ∀ D ∈ Ds, lo ≤ D ∧ W.heap[D]? = some (.deferred (some []))
theorem leaves_list {F : Fence} {n : Nat} {P : Program} {fn : Func} {tmps : Array Value} {R : Ending → World → Prop} {v : Value} (hres : ∀ w, (results fn tmps).run P w = .ok v w) (lo : Nat) : ∀ (Ds : List Nat) (w : World), Marked lo Ds w → lo ≤ w.heap.size → (∀ w', Below lo w w' → R (.returned v) w') → LeavesInM F n P fn tmps R (marks Ds) .returning w
  | [], w, _, _, h => ⟨v, hres w, h w (Below.refl _ _)⟩
  | D :: Ds, w, hm, hl, h => by
    obtain ⟨hnd, hall⟩ := hm
    obtain ⟨h1, h2⟩ := hall D (List.mem_cons_self ..)
    have hd := List.nodup_cons.1 hnd
    have hg := grownBy_putObj' w D (.deferred none)
    have hb : Below lo w (w.putObj D (.deferred none)) := ⟨hg.os, hg.tape, hg.output, hg.size, fun k hk => hg.block k (Nat.lt_of_lt_of_le hk hl) (fun e => by cases e; omega)⟩
    refine ⟨by simp, .inl ⟨D, _, rfl, run_takeDeferred h2, leaves_list hres lo Ds _ ⟨hd.2, fun D' hD' => ⟨(hall D' (List.mem_cons_of_mem _ hD')).1, ?_⟩⟩ (Nat.le_trans hl hb.size) fun w' hw' => h w' (hb.trans hw')⟩⟩
    have hne : D' ≠ D := fun e => hd.1 (e ▸ hD')
    exact (World.putObj_heap_other hne).trans (hall D' (List.mem_cons_of_mem _ hD')).2
theorem three (w : World) (o1 o2 o3 : Obj) : let W := ((w.alloc o1).alloc o2).alloc o3
    W.heap[w.heap.size]? = some o1 ∧ W.heap[w.heap.size + 1]? = some o2 ∧ W.heap[w.heap.size + 2]? = some o3 ∧ Below w.heap.size w W ∧ W.heap.size = w.heap.size + 3 := by
  have z1 : (w.alloc o1).heap.size = w.heap.size + 1 := World.size_alloc _ _
  have z2 : ((w.alloc o1).alloc o2).heap.size = w.heap.size + 2 := by rw [World.size_alloc, z1]
  have a1 := World.alloc_heap_new w o1
  have a2 := World.alloc_heap_new (w.alloc o1) o2
  have a3 := World.alloc_heap_new ((w.alloc o1).alloc o2) o3
  rw [z1] at a2
  rw [z2] at a3
  refine ⟨?_, ?_, a3, (((Below.refl _ w).alloc (Nat.le_refl _) o1).alloc (by omega) o2).alloc (by omega) o3, by rw [World.size_alloc, z2]⟩
  · rw [heap_old _ _ _ (by omega), heap_old _ _ _ (by omega), a1]
  · rw [heap_old _ _ _ (by omega), a2]
theorem may_part {p : Pr} (h : mayP p = true) {k : Nat} {x : Ex} (hx : p.exprs[k]? = some x) : ∀ z ∈ partsE x, 0 ≤ z ∧ z < (k : Int) := by
  unfold mayP at h
  rw [Bool.and_eq_true, List.all_eq_true] at h
  have h1 := h.1 k (List.mem_range.2 (List.getElem?_eq_some_iff.1 hx).1)
  unfold mayX at h1
  rw [hx] at h1
  replace h1 : mayE x k = true := h1
  intro z hz
  by_cases hc : 0 ≤ z ∧ z < (k : Int)
  · exact hc
  · have := mayE_parts (i := k) hz (by
      unfold partOk
      by_cases h0 : 0 ≤ z
      · rw [decide_eq_false (show ¬ z < (k : Int) from fun h => hc ⟨h0, h⟩)]; simp
      · rw [decide_eq_false h0]; rfl)
    rw [this] at h1; cases h1
/-- what the walk keeps between two expressions -/
def DInv (o1 o2 : Option Addr) (m n dcap cap : Nat) (l : List Ex) (w : World) (q e k : Nat) (Ds : List Nat) (W : World) : Prop :=
  k ≤ e + 1 ∧ (∃ f, RowD W q e f ∧ (∀ j, j < k → f j = (deeps (l.take k)).getD j 0) ∧ ∀ j, k ≤ j → f j = 0) ∧ W.heap[q + 1]? = some (.cells #[.slice (some ⟨q, 0, none⟩) (e + 1) (e + 1)] 32 (0, 0)) ∧
  W.heap[w.heap.size]? = some (.cells #[.slice o1 m dcap, .slice o2 n cap] 25 (0, 0)) ∧ Below w.heap.size w W ∧ Marked (q + 2) Ds W
/-- .. and between two of its parts -/
def DRow (o1 o2 : Option Addr) (m n dcap cap : Nat) (x : Ex) (ds : List Nat) (w : World) (q e k bi N : Nat) (Ds : List Nat) (pre : List (PartOf x)) (W : World) : Prop :=
  (∃ f, RowD W q e f ∧ (∀ j, j < k → f j = ds.getD j 0) ∧ f k = maxOf ds (pre.map (·.1)) ∧ ∀ j, k < j → f j = 0) ∧ W.heap[q + 1]? = some (.cells #[.slice (some ⟨q, 0, none⟩) (e + 1) (e + 1)] 32 (0, 0)) ∧
  W.heap[w.heap.size]? = some (.cells #[.slice o1 m dcap, .slice o2 n cap] 25 (0, 0)) ∧ W.heap[bi]? = some (.cells #[.int .i64 (k : Int)] 3 (0, 0)) ∧ Below w.heap.size w W ∧ Marked (q + 2) Ds W ∧ N ≤ W.heap.size
theorem drow_own {o1 o2 : Option Addr} {m n dcap cap : Nat} {x : Ex} {ds : List Nat} {w : World} {q e k bi N : Nat} {Ds : List Nat} (h1 : q + 1 < N) (h2 : w.heap.size < N) (h3 : bi < N) (h4 : ∀ D ∈ Ds, D < N) : OwnFrom N (DRow o1 o2 m n dcap cap x ds w q e k bi N Ds) := by
  rintro pre X Y row ⟨⟨f, r1, r2⟩, a1, a2, a3, a4, ⟨a5, a6⟩, a7⟩ hg hrow
  have hne : ∀ b, b < N → some b ≠ row := fun b hb e => by have := (hrow b e.symm).1; omega
  have hs : ∀ {b : Nat} {o : Obj}, b < N → X.heap[b]? = some o → Y.heap[b]? = some o := fun hb h => (hg.block _ (lt_of_heap h) (hne _ hb)).trans h
  refine ⟨⟨f, r1.same (hg.block _ (by obtain ⟨cs, hc, _⟩ := r1; exact lt_of_heap hc) (hne _ (by omega))), r2⟩, hs h1 a1, hs h2 a2, hs h3 a3, a4.grown hg a4.size (fun k e => by have := (hrow k e).1; omega), ⟨a5, fun D hD => ⟨(a6 D hD).1, hs (h4 D hD) (a6 D hD).2⟩⟩, Nat.le_trans a7 hg.size⟩
theorem keep_set (W : World) (q k N : Nat) (v : Value) : KeepM (fun j => j = q) (fun _ => none) N W (W.setCell ⟨q, k, none⟩ v).drew :=
  ⟨((Below.refl 0 W).setCell (p := ⟨q, k, none⟩) (Nat.zero_le _) v).size, fun j _ hn _ _ => set_other W q j k v hn, fun _ h => .inl h⟩
theorem drow_step {o1 o2 : Option Addr} {m n dcap cap : Nat} {x : Ex} {ds : List Nat} {w : World} {q e k bi N zn v : Nat} {Ds : List Nat} {pre : List (PartOf x)} {hzm : (zn : Int) ∈ partsE x} {W : World} {f : Nat → Nat} (hwq : w.heap.size < q) (hbi : q + 1 < bi) (hke : k < e + 1)
    (r1 : RowD W q e f) (r2 : ∀ j, j < k → f j = ds.getD j 0) (r3 : f k = maxOf ds (pre.map (·.1))) (r4 : ∀ j, k < j → f j = 0)
    (a1 : W.heap[q + 1]? = some (.cells #[.slice (some ⟨q, 0, none⟩) (e + 1) (e + 1)] 32 (0, 0))) (a2 : W.heap[w.heap.size]? = some (.cells #[.slice o1 m dcap, .slice o2 n cap] 25 (0, 0))) (a3 : W.heap[bi]? = some (.cells #[.int .i64 (k : Int)] 3 (0, 0)))
    (a4 : Below w.heap.size w W) (a5 : Marked (q + 2) Ds W) (a6 : N ≤ W.heap.size) (hz : zn < k) (hv : v = max (f k) (f zn)) :
    DRow o1 o2 m n dcap cap x ds w q e k bi N Ds (pre ++ [⟨(zn : Int), hzm⟩]) (W.setCell ⟨q, k, none⟩ (.int .i64 (v : Int))).drew := by
  refine ⟨⟨_, (r1.set hke v).same rfl, fun j hj => ?_, ?_, fun j hj => ?_⟩, (set_other W q (q + 1) k _ (by omega)).trans a1, (set_other W q w.heap.size k _ (by omega)).trans a2, (set_other W q bi k _ (by omega)).trans a3, (a4.setCell (p := ⟨q, k, none⟩) (Nat.le_of_lt hwq) _).drew, ⟨a5.1, fun D hD => ⟨(a5.2 D hD).1, (set_other W q D k _ (by have := (a5.2 D hD).1; omega)).trans (a5.2 D hD).2⟩⟩, Nat.le_trans a6 ((Below.refl 0 W).setCell (p := ⟨q, k, none⟩) (Nat.zero_le _) _).size⟩
  · show (if j = k then v else f j) = _
    rw [if_neg (by omega)]; exact r2 j hj
  · show (if k = k then v else f k) = _
    rw [if_pos rfl, List.map_append, List.map_singleton, maxOf_snoc, ← r3, hv, r2 zn hz]; rfl
  · show (if j = k then v else f j) = _
    rw [if_neg (by omega)]; exact r4 j hj
theorem DInv.drew {o1 o2 : Option Addr} {m n dcap cap : Nat} {l : List Ex} {w : World} {q e k : Nat} {Ds : List Nat} {W : World} (h : DInv o1 o2 m n dcap cap l w q e k Ds W) : DInv o1 o2 m n dcap cap l w q e k Ds W.drew := by
  obtain ⟨h1, ⟨f, h2, h3⟩, h4, h5, h6, h7⟩ := h
  exact ⟨h1, ⟨f, h2.same rfl, h3⟩, h4, h5, h6.drew, h7⟩
theorem dinv_next {o1 o2 : Option Addr} {m n dcap cap : Nat} {l : List Ex} {x : Ex} {w : World} {q e k fk D : Nat} {Ds : List Nat} {W : World} {f : Nat → Nat} (hx : l[k]? = some x) (hwq : w.heap.size < q) (hke : k < e + 1)
    (r1 : RowD W q e f) (r2 : ∀ j, j < k → f j = (deeps (l.take k)).getD j 0) (r3 : fk = maxOf (deeps (l.take k)) (partsE x)) (r4 : ∀ j, k < j → f j = 0)
    (a1 : W.heap[q + 1]? = some (.cells #[.slice (some ⟨q, 0, none⟩) (e + 1) (e + 1)] 32 (0, 0))) (a2 : W.heap[w.heap.size]? = some (.cells #[.slice o1 m dcap, .slice o2 n cap] 25 (0, 0)))
    (a4 : Below w.heap.size w W) (a5 : Ds.Nodup) (a6 : ∀ D ∈ Ds, q + 2 ≤ D ∧ W.heap[D]? = some (.deferred (some []))) (hD : D ∉ Ds) (hDq : q + 2 ≤ D) (hDm : W.heap[D]? = some (.deferred (some []))) :
    DInv o1 o2 m n dcap cap l w q e (k + 1) (D :: Ds) (W.setCell ⟨q, k, none⟩ (.int .i64 ((fk : Int) + 1))) := by
  have hkl := (List.getElem?_eq_some_iff.1 hx).1
  have hlen : (deeps (l.take k)).length = k := by rw [deeps_len, List.length_take]; omega
  refine ⟨by omega, ⟨_, r1.set hke (fk + 1), fun j hj => ?_, fun j hj => ?_⟩, (set_other W q (q + 1) k _ (by omega)).trans a1, (set_other W q w.heap.size k _ (by omega)).trans a2, a4.setCell (p := ⟨q, k, none⟩) (Nat.le_of_lt hwq) _, List.nodup_cons.2 ⟨hD, a5⟩, fun D' hD' => ?_⟩
  · show (if j = k then fk + 1 else f j) = _
    rw [deeps_take hx]
    unfold stepD
    rw [List.getD_eq_getElem?_getD, List.getElem?_append]
    by_cases h : j = k
    · subst h; rw [if_pos rfl, hlen, if_neg (by omega), Nat.sub_self, r3]; rfl
    · rw [if_neg h, hlen, if_pos (by omega), r2 j (by omega), List.getD_eq_getElem?_getD]
  · show (if j = k then fk + 1 else f j) = _
    rw [if_neg (by omega)]; exact r4 j (by omega)
  · rcases List.mem_cons.1 hD' with rfl | h
    · exact ⟨hDq, (set_other W q _ k _ (by omega)).trans hDm⟩
    · exact ⟨(a6 D' h).1, (set_other W q D' k _ (by have := (a6 D' h).1; omega)).trans (a6 D' h).2⟩
set_option maxHeartbeats 8000000 in
set_option maxRecDepth 100000 in
theorem deep_core (o1 : Option Addr) (b off cap dcap : Nat) (p : Pr) (n m : Nat) (hn : Hid (p.exprs.length = n)) (nl : (n : Int) ≤ 300) (e : Nat) (hen : e < n) (hnc : (n : Int) ≤ (cap : Int)) (w : World)
    (hpa : Hid (ProgAt w (.slice o1 m dcap) (.slice (some ⟨b, off, none⟩) n cap) p)) (hS : Hid (Small p)) (hm : Hid (mayP p = true)) (hc : Hid (∀ i, i < n → ∀ x, p.exprs[i]? = some x → ExAt w b (off + i * 9) x)) :
    CallsIn Fence.wide 5 Try.prog 12 #[.agg #[.slice o1 m dcap, .slice (some ⟨b, off, none⟩) n cap], .int .i64 (e : Int)] w fun r w' => r = .returned (.int .i64 (((deeps p.exprs).getD e 0 : Nat) : Int)) ∧ Below w.heap.size w w' := by
  have hb0 := Lib.hid (below_al (Below.refl w.heap.size w) (.cells #[.slice o1 m dcap, .slice (some ⟨b, off, none⟩) n cap] 25))
  have hB0 := Lib.hid (World.alloc_heap_new w (.cells #[.slice o1 m dcap, .slice (some ⟨b, off, none⟩) n cap] 25))
  have CI : Hid (Calls Try.prog 18 #[.agg #[.slice o1 m dcap, .slice (some ⟨b, off, none⟩) n cap], .int .i64 (e : Int)] (w.alloc (.cells #[.slice o1 m dcap, .slice (some ⟨b, off, none⟩) n cap] 25)) fun r w' => MayPost true (w.alloc (.cells #[.slice o1 m dcap, .slice (some ⟨b, off, none⟩) n cap] 25)) r w') := Lib.hid (by
    have h := isIn_any _ _ p (e : Int) _ (hpa.out.below hb0.out) hS.out
    rwa [show inP p (e : Int) = true by unfold inP; rw [hm.out, decide_eq_true (show (0 : Int) ≤ e by omega), decide_eq_true (show (e : Int) < (p.exprs.length : Int) by rw [hn.out]; omega)]; rfl] at h)
  have hmk := run_make_ints (e + 1) (by omega)
  rw [Int.natCast_add, Int.natCast_one] at hmk
  have hen2 : (e : Int) + 1 ≤ (n : Int) := by omega
  have hec : (e : Int) + 1 ≤ (cap : Int) := by omega
  refine callsIn_of_wp_marks Try.func12 rfl trivial ?_ rfl
  simp only [Try.ntmps12, List.size_toArray, List.length_cons, List.length_nil, Nat.reduceAdd, Nat.reduceSub, Array.replicate_succ, Array.replicate_zero, List.push_toArray, List.append_toArray, List.nil_append, List.cons_append]
  gi_wp2_with (fail)
  refine ⟨trivial, ?_⟩
  gi_at_call 18
  ((with_reducible refine (callsIn_wide.2 CI.out).mono ?_))
  rintro r w1 ⟨rfl, hb⟩
  have HB := Lib.hid hb
  have hB1 := Lib.hid ((hb.block _ (lt_of_heap hB0.out)).trans hB0.out)
  have g1 : w1.cell? ⟨w.heap.size, 0, none⟩ = some (.slice o1 m dcap) := by simp [World.cell?, hB1.out]
  have g2 : w1.cell? ⟨w.heap.size, 1, none⟩ = some (.slice (some ⟨b, off, none⟩) n cap) := by simp [World.cell?, hB1.out]
  have hz1 : w.heap.size < w1.heap.size := lt_of_heap hB1.out
  have hbw := Lib.hid (hb0.out.trans (hb.mono hb0.out.size))
  clear hb
  gi_wp2
  obtain ⟨q, hq⟩ : ∃ q, q = w1.heap.size := ⟨_, rfl⟩
  have hI0 : Hid (DInv o1 (some ⟨b, off, none⟩) m n dcap cap p.exprs w q e 0 [] ((w1.alloc (.cells (madeCells #[.int .i64 0] (e + 1)) 3)).alloc (.cells #[.slice (some ⟨w1.heap.size, 0, none⟩) (e + 1) (e + 1)] 32))) := Lib.hid (by
    subst hq
    refine ⟨Nat.zero_le _, ⟨_, (RowD.new w1 e).same (heap_old _ _ _ (by simp)), fun j hj => by omega, fun j _ => rfl⟩, ?_, ?_, (hbw.out.alloc hbw.out.size _).alloc (by simp; omega) _, List.nodup_nil, fun D hD => by simp at hD⟩
    · have := World.alloc_heap_new (w1.alloc (.cells (madeCells #[.int .i64 0] (e + 1)) 3)) (.cells #[.slice (some ⟨w1.heap.size, 0, none⟩) (e + 1) (e + 1)] 32)
      rwa [World.size_alloc] at this
    · rw [heap_old _ _ _ (by simp; omega), heap_old _ _ _ hz1]; exact hB1.out)
  rw [← hq] at hI0 ⊢
  have hwq : w.heap.size < q := by omega
  clear hq hb0 hB0 CI hmk HB hB1 g1 g2 hz1 hbw
  refine wpIn_loop (fun a W => ∃ (k : Nat) (Ds : List Nat) (u6 u7 u8 u23 u24 u25 u26 u27 u28 u29 u30 u31 u32 u33 u34 u35 u36 u37 u38 u39 u40 u41 u42 u43 u44 u45 u46 u47 u48 : Value), a = { tmps := #[.agg #[.slice o1 m dcap, .slice (some ⟨b, off, none⟩) n cap], .int .i64 (e : Int), .pointer (some ⟨w.heap.size, 0, none⟩), undef, .int .i64 0, .pointer (some ⟨q + 1, 0, none⟩), u6, u7, u8, .agg #[.slice o1 m dcap, .slice (some ⟨b, off, none⟩) n cap], .int .i64 (e : Int), .bool true, .bool false, .int .i64 (e : Int), .int .i64 ((e : Int) + 1), .slice (some ⟨q, 0, none⟩) (e + 1) (e + 1), .pointer (some ⟨w.heap.size, 1, none⟩), .slice (some ⟨b, off, none⟩) n cap, .int .i64 (e : Int), .int .i64 ((e : Int) + 1), .slice (some ⟨b, off, none⟩) (e + 1) cap, .int .i64 ((e : Int) + 1), .int .i64 (k : Int), u23, u24, u25, u26, u27, u28, u29, u30, u31, u32, u33, u34, u35, u36, u37, u38, u39, u40, u41, u42, u43, u44, u45, u46, u47, u48, undef, undef, undef, undef], defers := marks Ds } ∧ DInv o1 (some ⟨b, off, none⟩) m n dcap cap p.exprs w q e k Ds W) (fun a _ => e + 1 - litLen (a.tmps.getD 22 undef)) ?h0 ?round
  case h0 => exact ⟨0, [], _, _, _, _, _, _, _, _, _, _, _, _, _, _, _, _, _, _, _, _, _, _, _, _, _, _, _, _, _,  rfl, hI0.out⟩
  case round =>
    clear hI0
    rintro a wr ⟨k, Ds, u6, u7, u8, u23, u24, u25, u26, u27, u28, u29, u30, u31, u32, u33, u34, u35, u36, u37, u38, u39, u40, u41, u42, u43, u44, u45, u46, u47, u48, rfl, hk, ⟨f, hR, hf1, hf2⟩, h5, hB, hW, hM⟩
    have HR := Lib.hid hR
    have HF1 := Lib.hid hf1
    have HF2 := Lib.hid hf2
    have H5 := Lib.hid h5
    have HBp := Lib.hid hB
    have HW := Lib.hid hW
    have HM := Lib.hid hM
    have g5 : wr.cell? ⟨q + 1, 0, none⟩ = some (.slice (some ⟨q, 0, none⟩) (e + 1) (e + 1)) := by simp [World.cell?, h5]
    have hq1 : q + 1 < wr.heap.size := lt_of_heap h5
    clear hR hf1 hf2 h5 hB hW hM
    rcases Nat.lt_or_ge k (e + 1) with hlt | hge
    · have hl : (k : Int) < (e : Int) + 1 := by omega
      obtain ⟨x, hxk⟩ : ∃ x, p.exprs[k]? = some x := ⟨_, List.getElem?_eq_getElem (by have := hn.out; omega)⟩
      obtain ⟨oa, capa, hargs, hok, b0, b1, b2, b3, b4, b5, b6, b7, b8⟩ := ex_cells (hc.out k (by omega) x hxk)
      have c0 := cell_on HW.out b0
      have c1 := cell_on HW.out b1
      have c2 := cell_on HW.out b2
      have c3 := cell_on HW.out b3
      have c4 := cell_on HW.out b4
      have c5 := cell_on HW.out b5
      have c6 := cell_on HW.out b6
      have c7 := cell_on HW.out b7
      have c8 := cell_on HW.out b8
      clear b0 b1 b2 b3 b4 b5 b6 b7 b8
      have HA := Lib.hid hargs
      have HO := Lib.hid hok
      have HX := Lib.hid hxk
      have ix := ix_exs (cap := cap) (o := some ⟨b, off, none⟩) (n := e + 1) (b := b) (off := off) (fun _ => rfl) hlt (by omega)
      unfold Ix at ix
      clear hargs hok hxk
      gi_wp2_with (refine ⟨trivial, ?_⟩; gi_at_call 34; ((with_reducible refine (callsIn_wide.2 (parts_any _ _ _ _ _ _ _ _ _ _)).mono ?_); rintro r w2 ⟨rfl, rfl⟩))
      obtain ⟨f1, f2, f3, fb, fz⟩ := three wr (.cells #[.int .i64 (k : Int)] 3) (.cells (exCells x (.slice oa x.args.length capa)) 34) (.cells (exCells x (.slice oa x.args.length capa)) 34)
      have FZ := Lib.hid fz
      have hkparts := Lib.hid (may_part hm.out HX.out)
      have hAr : Hid (Around (fun j => j = q) (fun _ => none) (((wr.alloc (.cells #[.int .i64 (k : Int)] 3)).alloc (.cells (exCells x (.slice oa x.args.length capa)) 34)).alloc (.cells (exCells x (.slice oa x.args.length capa)) 34))) := Lib.hid ⟨fun j hj => by subst hj; rw [fz]; omega, fun j hj => (by cases hj), fun W hW => rfl⟩
      have hSr : Hid (Srcs (((wr.alloc (.cells #[.int .i64 (k : Int)] 3)).alloc (.cells (exCells x (.slice oa x.args.length capa)) 34)).alloc (.cells (exCells x (.slice oa x.args.length capa)) 34)) x (wr.heap.size + 1 + 1) (fun j => j = q ∨ (none : Option Nat) = some j)) :=
        Lib.hid (srcs_of HA.out HO.out (HW.out.trans (fb.mono HW.out.size)) f3 (fun j hj => by rcases hj with rfl | h; omega; cases h) (fun h => by rcases h with h | h; omega; cases h))
      have hMk : Hid (∀ D ∈ Ds, D < wr.heap.size) := Lib.hid fun D hD => lt_of_heap (HM.out.2 D hD).2
      have hinv : Hid (DRow o1 (some ⟨b, off, none⟩) m n dcap cap x (deeps (p.exprs.take k)) w q e k wr.heap.size (wr.heap.size + 3) Ds [] (((wr.alloc (.cells #[.int .i64 (k : Int)] 3)).alloc (.cells (exCells x (.slice oa x.args.length capa)) 34)).alloc (.cells (exCells x (.slice oa x.args.length capa)) 34))) := Lib.hid
        ⟨⟨f, HR.out.same (fb.block _ (by omega)), HF1.out, by rw [HF2.out k (Nat.le_refl _)]; rfl, fun j hj => HF2.out j (by omega)⟩, (fb.block _ hq1).trans H5.out, (fb.block _ (by omega)).trans HBp.out, f1, HW.out.trans (fb.mono HW.out.size), ⟨HM.out.1, fun D hD => ⟨(HM.out.2 D hD).1, (fb.block _ (hMk.out D hD)).trans (HM.out.2 D hD).2⟩⟩, by rw [fz]; exact Nat.le_refl _⟩
      have hIo := Lib.hid (drow_own (o1 := o1) (o2 := some ⟨b, off, none⟩) (m := m) (n := n) (dcap := dcap) (cap := cap) (x := x) (ds := deeps (p.exprs.take k)) (w := w) (q := q) (e := e) (k := k) (bi := wr.heap.size) (N := wr.heap.size + 3) (Ds := Ds) (by omega) (by omega) (by omega) (fun D hD => by have := hMk.out D hD; omega))
      unfold exCells at hAr hSr hinv FZ
      rw [← FZ.out] at hIo hinv
      clear f1 f2 f3 fb fz
      unfold partsV
      refine wpIn_rangeFunc_ownG (α := PartOf x) rfl (by decide) (gf := 47) (lb := #[.pointer (some ⟨wr.heap.size + 1 + 1, 0, none⟩)]) rfl trivial (enters_of Try.func47 (by kernel_rfl) rfl)
        (parts_stops 4 (by decide) x _ _ _ _ hAr.out hSr.out) (fun h k => h.trans k) (fun W l o o' h1 h2 h3 _ => keepM_none W l o o' h1 h2 h3) (Below.refl _ _) (fun _ => rfl)
        (DRow o1 (some ⟨b, off, none⟩) m n dcap cap x (deeps (p.exprs.take k)) w q e k wr.heap.size _ Ds) (fun _ _ _ => False) hIo.out (fun _ _ _ _ _ hs _ _ => hs) hinv.out
        (fun z => { tmps := #[.agg #[.slice o1 m dcap, .slice (some ⟨b, off, none⟩) n cap], .int .i64 (e : Int), .pointer (some ⟨w.heap.size, 0, none⟩), undef, .int .i64 0, .pointer (some ⟨q + 1, 0, none⟩), .pointer (some ⟨wr.heap.size, 0, none⟩), .pointer (some ⟨wr.heap.size + 1, 0, none⟩), .int .i64 z.1, .agg #[.slice o1 m dcap, .slice (some ⟨b, off, none⟩) n cap], .int .i64 (e : Int), .bool true, .bool false, .int .i64 (e : Int), .int .i64 ((e : Int) + 1), .slice (some ⟨q, 0, none⟩) (e + 1) (e + 1), .pointer (some ⟨w.heap.size, 1, none⟩), .slice (some ⟨b, off, none⟩) n cap, .int .i64 (e : Int), .int .i64 ((e : Int) + 1), .slice (some ⟨b, off, none⟩) (e + 1) cap, .int .i64 ((e : Int) + 1), .int .i64 (k : Int), .bool true, .int .i64 (k : Int), .pointer (some ⟨b, off + k * 9, none⟩), .agg #[.int .i64 x.kind, .int .i64 x.a, .int .i64 x.b, .int .i64 x.c, .string x.name, .string x.state, .int .i64 x.v, .slice oa x.args.length capa, .int .i64 x.pos], .agg #[.int .i64 x.kind, .int .i64 x.a, .int .i64 x.b, .int .i64 x.c, .string x.name, .string x.state, .int .i64 x.v, .slice oa x.args.length capa, .int .i64 x.pos], .func (.func 47) #[] #[.pointer (some ⟨wr.heap.size + 1 + 1, 0, none⟩)], .int .i64 z.1, u30, u31, u32, u33, u34, u35, u36, u37, u38, u39, u40, u41, u42, u43, u44, u45, u46, u47, u48, undef, undef, undef, undef], defers := [] }) ?assign ?body ?done ?stop
      case assign =>
        rintro lp z W K hK
        gi_wp2
        exact hK
      case body =>
        rintro lp pre ⟨z, hzm⟩ W ⟨⟨f, r1, r2, r3, r4⟩, a1, a2, a3, a4, a5, a6⟩ hlt2
        obtain ⟨hz0, hz1⟩ := hkparts.out z hzm
        obtain ⟨zn, rfl⟩ := Int.eq_ofNat_of_zero_le hz0
        have hzk : zn < k := by omega
        have y0 : W.cell? ⟨q + 1, 0, none⟩ = some (.slice (some ⟨q, 0, none⟩) (e + 1) (e + 1)) := by simp [World.cell?, a1]
        have y1 : W.cell? ⟨wr.heap.size, 0, none⟩ = some (.int .i64 (k : Int)) := by simp [World.cell?, a3]
        have y2 := r1.cell (j := k) hlt
        have y3 := r1.cell (j := zn) (by omega)
        have y4 := r1.frozen k
        have R1 := Lib.hid r1
        have R2 := Lib.hid r2
        have R3 := Lib.hid r3
        have R4 := Lib.hid r4
        have B1 := Lib.hid a1
        have B2 := Lib.hid a2
        have B3 := Lib.hid a3
        have B4 := Lib.hid a4
        have B5 := Lib.hid a5
        have B6 := Lib.hid a6
        have hmx : Try.prog.follows .mixedOrders = true := by kernel_rfl
        obtain ⟨fk, hfk⟩ : ∃ fk, fk = f k := ⟨_, rfl⟩
        obtain ⟨fz, hfz⟩ : ∃ fz, fz = f zn := ⟨_, rfl⟩
        rw [← hfk] at y2
        rw [← hfz] at y3
        have HFK := Lib.hid hfk
        have HFZ := Lib.hid hfz
        clear r1 r2 r3 r4 a1 a2 a3 a4 a5 a6 hlt2 hfk hfz
        dsimp only
        gi_wp2
        refine tailIn_by_quiet 12 (by kernel_rfl) (by kernel_rfl) (by kernel_rfl) ?_
        simp only [List.take_succ_cons, List.take_zero, List.drop_succ_cons, List.drop_zero]
        repeat (go_big_quiet_step (fail))
        refine wpQuiet_nil ?_
        have hN6 := B6.out
        rcases Nat.lt_or_ge fk fz with hlz | hgz
        · have hlzi : (fk : Int) < (fz : Int) := by omega
          gi_wp2
          exact ⟨((KeepsOthers.setCell _ _ _).trans (KeepsOthers.drew _)).from _, keep_set _ _ _ _ _, drow_step (zn := zn) hwq (by omega) hlt R1.out R2.out R3.out R4.out B1.out B2.out B3.out B4.out B5.out (by simpa using hN6) hzk (by rw [← HFK.out, ← HFZ.out]; omega)⟩
        · have hlzi : ¬ (fk : Int) < (fz : Int) := by omega
          gi_wp2
          exact ⟨((KeepsOthers.setCell _ _ _).trans (KeepsOthers.drew _)).from _, keep_set _ _ _ _ _, drow_step (zn := zn) hwq (by omega) hlt R1.out R2.out R3.out R4.out B1.out B2.out B3.out B4.out B5.out (by simpa using hN6) hzk (by rw [← HFK.out, ← HFZ.out]; omega)⟩
      case done =>
        rintro D c W hDge hcm ⟨⟨f, r1, r2, r3, r4⟩, a1, a2, a3, a4, ⟨a5, a6⟩, a7⟩ hmark
        have y0 : W.cell? ⟨q + 1, 0, none⟩ = some (.slice (some ⟨q, 0, none⟩) (e + 1) (e + 1)) := by simp [World.cell?, a1]
        have y1 : W.cell? ⟨wr.heap.size, 0, none⟩ = some (.int .i64 (k : Int)) := by simp [World.cell?, a3]
        have y2 := r1.cell (j := k) hlt
        have y4 := r1.frozen k
        have R1 := Lib.hid r1
        have R2 := Lib.hid r2
        have R3 := Lib.hid r3
        have R4 := Lib.hid r4
        have B1 := Lib.hid a1
        have B2 := Lib.hid a2
        have B3 := Lib.hid a3
        have B4 := Lib.hid a4
        have B5 := Lib.hid a5
        have B6 := Lib.hid a6
        have B7 := Lib.hid a7
        have B8 := Lib.hid hmark
        have B9 := Lib.hid hcm
        have B10 := Lib.hid hDge
        obtain ⟨fk, hfk⟩ : ∃ fk, fk = f k := ⟨_, rfl⟩
        rw [← hfk] at y2
        have HFK := Lib.hid hfk
        clear r1 r2 r3 r4 a1 a2 a3 a4 a5 a6 a7 hmark hcm hDge hfk
        have hfkb : fk ≤ k := by
          rw [HFK.out, R3.out]
          exact maxOf_le _ _ k (fun j => Nat.le_trans (deeps_le _ j) (by rw [List.length_take]; omega))
        have hwrap : wrap64 ((fk : Int) + 1) = (fk : Int) + 1 := wrap64_small (by omega) (by omega)
        dsimp only
        gi_wp2
        try rw [hwrap]
        have hnx := dinv_next (o1 := o1) (o2 := some ⟨b, off, none⟩) (m := m) (n := n) (dcap := dcap) (cap := cap) (w := w) (D := D) HX.out hwq hlt R1.out R2.out (show fk = maxOf (deeps (p.exprs.take k)) (partsE x) by rw [← B9.out, HFK.out]; exact R3.out) R4.out B1.out B2.out B4.out B5.out B6.out (fun h => by have := hMk.out D h; have := B10.out; rw [FZ.out] at this; omega) (by have := B10.out; rw [FZ.out] at this; omega) B8.out
        refine ⟨⟨k + 1, D :: Ds, _, _, _, _, _, _, _, _, _, _, _, _, _, _, _, _, _, _, _, _, _, _, _, _, _, _, _, _, _, rfl, by first | exact hnx | exact hnx.drew | exact hnx.drew.drew⟩, ?_⟩
        show e + 1 - ((k : Int) + 1).toNat < e + 1 - (k : Int).toNat
        omega
      case stop =>
        rintro D c pre W _ _ h _
        exact h.elim
    · have hke : k = e + 1 := by omega
      subst hke
      have hge2 : ¬ ((e + 1 : Nat) : Int) < (e : Int) + 1 := by omega
      have y := HR.out.cell (j := e) (by omega)
      rw [HF1.out e (by omega), deeps_pre p.exprs (e + 1) e (by omega) (by have := hn.out; omega)] at y
      obtain ⟨dv, hdv⟩ : ∃ dv, dv = (deeps p.exprs).getD e 0 := ⟨_, rfl⟩
      rw [← hdv] at y
      have HDV := Lib.hid hdv
      clear hdv
      gi_wp2
      refine leaves_list (v := .int .i64 (dv : Int)) ?_ (q + 2) Ds wr HM.out (by omega) fun w' hb => ⟨by rw [HDV.out]; simp, HW.out.trans (hb.mono (by omega))⟩
      exact fun w => results_tmp (t := 4) (by kernel_rfl) _ _ _
/-- the depth that is told -/
def deepP (p : Pr) (e : Int) : Int := if inP p e = true then (((deeps p.exprs).getD e.toNat 0 : Nat) : Int) else 0
set_option maxHeartbeats 8000000 in
theorem deep_any (sd se : Value) (p : Pr) (e : Int) (w : World) (h : ProgAt w sd se p) (hs : Small p) :
    CallsIn Fence.wide 5 Try.prog 12 #[.agg #[sd, se], .int .i64 e] w fun r w' => r = .returned (.int .i64 (deepP p e)) ∧ Below w.heap.size w w' := by
  obtain ⟨⟨o1, dcap, db, doff, rfl, hd1, hd2, hd3, hd4⟩, ⟨o2, cap, b, off, rfl, he1, he2, he3, he4⟩, h3, h4⟩ := id h
  by_cases hi : inP p e = true
  · have hi2 := hi
    unfold inP at hi2
    rw [Bool.and_eq_true, Bool.and_eq_true, decide_eq_true_eq, decide_eq_true_eq] at hi2
    obtain ⟨⟨h1, h2⟩, hmp⟩ := hi2
    obtain ⟨k, rfl⟩ := Int.eq_ofNat_of_zero_le h1
    have hk : k < p.exprs.length := by omega
    have ho := he3 (by omega)
    subst ho
    unfold deepP
    rw [if_pos hi]
    exact deep_core o1 b off cap dcap p _ _ (Lib.hid rfl) (by have := hs.exprs; omega) k hk (by omega) w (Lib.hid h) (Lib.hid hs) (Lib.hid hmp) (Lib.hid he4)
  · have hif : inP p e = false := by simpa using hi
    have hb0 := Lib.hid (below_al (Below.refl w.heap.size w) (.cells #[.slice o1 p.decls.length dcap, .slice o2 p.exprs.length cap] 25))
    have CI := Lib.hid (isIn_any _ _ p e _ (h.below hb0.out) hs)
    rw [hif] at CI
    have hz : deepP p e = 0 := by unfold deepP; rw [if_neg hi]
    rw [hz]
    clear hs h hd1 hd2 hd3 hd4 he1 he2 he3 he4 h3 h4 hi hif hz
    refine callsIn_of_wp_marks Try.func12 rfl trivial ?_ rfl
    simp only [Try.ntmps12, List.size_toArray, List.length_cons, List.length_nil, Nat.reduceAdd, Nat.reduceSub, Array.replicate_succ, Array.replicate_zero, List.push_toArray, List.append_toArray, List.nil_append, List.cons_append]
    gi_wp2_with (fail)
    refine ⟨trivial, ?_⟩
    gi_at_call 18
    ((with_reducible refine (callsIn_wide.2 CI.out).mono ?_))
    rintro r w1 ⟨rfl, hb⟩
    have HB := Lib.hid hb
    clear hb
    gi_wp2
    exact ⟨_, results_tmp (t := 4) (by kernel_rfl) _ _ _, rfl, hb0.out.trans (HB.out.mono hb0.out.size)⟩
end Go.Proofs.Ytiilgehdkanmnaa
