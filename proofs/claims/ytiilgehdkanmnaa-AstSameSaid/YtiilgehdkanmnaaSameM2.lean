/- The classifier: its memory, its closure, itself. -/
import Derived.Test.YtiilgehdkanmnaaRefSame
namespace Go.Proofs.Ytiilgehdkanmnaa
section
open Go.RowKit Go.Shelf

/-- block q holds n numbers -/
def RowN (W : World) (q n : Nat) (f : Nat → Nat) : Prop := ∃ cs : Array Value, W.heap[q]? = some (.cells cs 3 (0, 0)) ∧ cs.size = n ∧ ∀ j, j < n → cs[j]? = some (.int .i64 (f j : Int))
theorem RowN.cell {W : World} {q n : Nat} {f : Nat → Nat} (h : RowN W q n f) {j : Nat} (hj : j < n) : W.cell? ⟨q, j, none⟩ = some (.int .i64 (f j : Int)) := by
  obtain ⟨cs, h1, _, h3⟩ := h; simp [World.cell?, h1, h3 j hj]
theorem RowN.frozen {W : World} {q n : Nat} {f : Nat → Nat} (h : RowN W q n f) (j : Nat) : W.frozen? ⟨q, j, none⟩ = false := by
  obtain ⟨cs, h1, _, h3⟩ := h; simp [World.frozen?, h1]
theorem RowN.lt {W : World} {q n : Nat} {f : Nat → Nat} (h : RowN W q n f) : q < W.heap.size := by
  obtain ⟨cs, h1, _⟩ := h; exact lt_of_heap h1
theorem RowN.same {W W' : World} {q n : Nat} {f : Nat → Nat} (h : RowN W q n f) (hb : W'.heap[q]? = W.heap[q]?) : RowN W' q n f := by
  obtain ⟨cs, h1, h2, h3⟩ := h; exact ⟨cs, hb.trans h1, h2, h3⟩
theorem RowN.congr {W : World} {q n : Nat} {f g : Nat → Nat} (h : RowN W q n f) (hb : ∀ j, j < n → f j = g j) : RowN W q n g := by
  obtain ⟨cs, h1, h2, h3⟩ := h; exact ⟨cs, h1, h2, fun j hj => by rw [h3 j hj, hb j hj]⟩
theorem RowN.set {W : World} {q n : Nat} {f : Nat → Nat} (h : RowN W q n f) {i : Nat} (hi : i < n) (v : Nat) : RowN (W.setCell ⟨q, i, none⟩ (.int .i64 (v : Int))) q n (fun j => if j = i then v else f j) := by
  obtain ⟨cs, h1, h2, h3⟩ := h
  refine ⟨_, set_heap h1 i _, by simp [h2], fun j hj => ?_⟩
  rw [Array.getElem?_setIfInBounds]
  by_cases hji : i = j
  · subst hji; rw [if_pos rfl, if_pos (by omega)]; show _ = some (Value.int .i64 ((if i = i then v else f i : Nat) : Int)); rw [if_pos rfl]
  · rw [if_neg hji, h3 j hj]; show _ = some (Value.int .i64 ((if j = i then v else f j : Nat) : Int)); rw [if_neg (Ne.symm hji)]
theorem RowN.new (W : World) (n : Nat) : RowN (W.alloc (.cells (madeCells #[.int .i64 0] n) 3)) W.heap.size n (fun _ => 0) := by
  refine ⟨_, World.alloc_heap_new W _, by simp [madeCells], fun j hj => ?_⟩
  rw [← Array.getElem?_toList, toList_madeCells_one, List.getElem?_replicate, if_pos hj]; rfl
theorem MapFn.same {K : TypeId} {W W' : World} {b n : Nat} {F : Value → Option Nat} (h : MapFn K W b n F) (hb : W'.heap[b]? = W.heap[b]?) : MapFn K W' b n F := by
  obtain ⟨D, ⟨es, ck, h1, h2⟩, h3⟩ := h
  exact ⟨D, ⟨es, ck, hb.trans h1, h2⟩, h3⟩
theorem MapFn.lt {K : TypeId} {W : World} {b n : Nat} {F : Value → Option Nat} (h : MapFn K W b n F) : b < W.heap.size := by
  obtain ⟨D, ⟨es, ck, h1, h2⟩, h3⟩ := h
  exact lt_of_heap h1
/-- the blocks that a classifier writes -/
def CM (s k : Nat) : Prop := k = s ∨ k = s + 1 ∨ k = s + 4
/-- what classifier made: heads in block s, links in s + 1, their boxes, last's, next's -/
structure CMem (W : World) (s last : Nat) (F G : Value → Option Nat) : Prop where
  heads : ∃ n, n ≤ last ∧ MapFn 78 W s n F
  links : ∃ n, n ≤ last ∧ MapFn 81 W (s + 1) n G
  hbox : W.heap[s + 2]? = some (.cells #[.map (some s)] 73 (0, 0))
  lbox : W.heap[s + 3]? = some (.cells #[.map (some (s + 1))] 74 (0, 0))
  lastb : Boxed W (s + 4) 3 (.int .i64 (last : Int))
  nbox : W.heap[s + 5]? = some (.cells #[nextV (s + 4)] 75 (0, 0))
  good : Good F G last
theorem CMem.same {W W' : World} {s last : Nat} {F G : Value → Option Nat} (h : CMem W s last F G) (hs : ∀ k, s ≤ k → k < s + 6 → W'.heap[k]? = W.heap[k]?) : CMem W' s last F G := by
  obtain ⟨⟨n, h1, h2⟩, ⟨m, h3, h4⟩, h5, h6, h7, h8, h9⟩ := h
  exact ⟨⟨n, h1, h2.same (hs _ (by omega) (by omega))⟩, ⟨m, h3, h4.same (hs _ (by omega) (by omega))⟩, (hs _ (by omega) (by omega)).trans h5, (hs _ (by omega) (by omega)).trans h6, (hs _ (by omega) (by omega)).trans h7, (hs _ (by omega) (by omega)).trans h8, h9⟩
theorem CMem.lt {W : World} {s last : Nat} {F G : Value → Option Nat} (h : CMem W s last F G) : s + 5 < W.heap.size := lt_of_heap h.nbox
/-- all but what the classifier writes is as it was -/
structure StaysBut (s : Nat) (W Y : World) : Prop where
  os : Y.os = W.os
  tape : Y.tape = W.tape
  output : Y.output = W.output
  size : W.heap.size ≤ Y.heap.size
  block : ∀ k, k < W.heap.size → ¬ CM s k → Y.heap[k]? = W.heap[k]?
theorem StaysBut.refl (s : Nat) (W : World) : StaysBut s W W := ⟨rfl, rfl, rfl, Nat.le_refl _, fun _ _ _ => rfl⟩
theorem StaysBut.trans {s : Nat} {X Y Z : World} (h : StaysBut s X Y) (k : StaysBut s Y Z) : StaysBut s X Z :=
  ⟨k.os.trans h.os, k.tape.trans h.tape, k.output.trans h.output, Nat.le_trans h.size k.size, fun j hj hm => (k.block j (Nat.lt_of_lt_of_le hj h.size) hm).trans (h.block j hj hm)⟩
theorem StaysBut.of_below {s : Nat} {X Y : World} (h : Below X.heap.size X Y) : StaysBut s X Y := ⟨h.os, h.tape, h.output, h.size, fun j hj _ => h.block j hj⟩
theorem StaysBut.set {s : Nat} {X Y : World} (h : StaysBut s X Y) {k : Nat} (hk : X.heap.size ≤ k) (i : Nat) (v : Value) : StaysBut s X (Y.setCell ⟨k, i, none⟩ v) :=
  ⟨h.os, h.tape, h.output, Nat.le_trans h.size ((Below.refl 0 Y).setCell (p := ⟨k, i, none⟩) (Nat.zero_le _) v).size, fun j hj hm => (set_other Y k j i v (by omega)).trans (h.block j hj hm)⟩
theorem StaysBut.below {s : Nat} {w0 X Y : World} (h : StaysBut s X Y) (hw : Below w0.heap.size w0 X) (hs : w0.heap.size ≤ s) : Below w0.heap.size w0 Y :=
  ⟨h.os.trans hw.os, h.tape.trans hw.tape, h.output.trans hw.output, Nat.le_trans hw.size h.size, fun k hk => (h.block k (Nat.lt_of_lt_of_le hk hw.size) (fun hm => by rcases hm with h1 | h1 | h1 <;> omega)).trans (hw.block k hk)⟩
theorem head_cls (x : Ex) (hx : ExOk x) (W : World) (s last : Nat) (F G : Value → Option Nat) (h : CMem W s last F G) (hl : (last : Int) ≤ 900000) :
    Calls Try.prog 41 #[.map (some s), headV x, nextV (s + 4)] W fun r Y => ∃ (c last' : Nat) (F' : Value → Option Nat), r = .returned (.int .i64 (c : Int)) ∧ CMem Y s last' F' G ∧ ExtF F F' ∧ F' (headV x) = some c ∧ c ≤ last' ∧ last' ≤ last + 1 ∧ last ≤ last' ∧ StaysBut s W Y := by
  obtain ⟨n, h1, h2⟩ := h.heads
  refine (num_head x hx W s n (s + 4) last F h2 h.lastb (by omega) (by omega) (by omega)).mono ?_
  rintro r Y (⟨c, e1, rfl, e3, e4, e5⟩ | ⟨e1, rfl, e3, e4, ⟨e5, e6, e7, e8⟩, e9⟩)
  · have hlt := h.lt
    have hs : ∀ k, s ≤ k → k < s + 6 → Y.heap[k]? = W.heap[k]? := fun k _ hk => e5.block k (by omega)
    exact ⟨c, last, F, rfl, h.same hs, ExtF.refl F, e1, h.good.fle _ _ e1, by omega, Nat.le_refl _, .of_below e5⟩
  · have hlt := h.lt
    have hs : ∀ k, s < k → k < s + 6 → k ≠ s + 4 → Y.heap[k]? = W.heap[k]? := fun k hk1 hk hk2 => e9 k (by omega) (by omega) hk2
    obtain ⟨m, h3, h4⟩ := h.links
    exact ⟨last + 1, last + 1, _, by rw [Int.natCast_add]; rfl, ⟨⟨n + 1, by omega, e3⟩, ⟨m, by omega, h4.same (hs _ (by omega) (by omega) (by omega))⟩, (hs _ (by omega) (by omega) (by omega)).trans h.hbox, (hs _ (by omega) (by omega) (by omega)).trans h.lbox, (by rw [Int.natCast_add]; exact e4), (hs _ (by omega) (by omega) (by omega)).trans h.nbox, h.good.putHead _⟩,
      extF_put e1 _, putF_self _ _ _, Nat.le_refl _, Nat.le_refl _, Nat.le_succ _, ⟨e5, e6, e7, e8, fun k hk hm => e9 k hk (fun e => hm (.inl e)) (fun e => hm (.inr (.inr e)))⟩⟩
theorem link_cls (c0 z0 : Nat) (hc0 : c0 ≤ 1000000) (hz0 : z0 ≤ 1000000) (W : World) (s last : Nat) (F G : Value → Option Nat) (h : CMem W s last F G) (hl : (last : Int) ≤ 900000) :
    Calls Try.prog 42 #[.map (some (s + 1)), linkV c0 z0, nextV (s + 4)] W fun r Y => ∃ (c last' : Nat) (G' : Value → Option Nat), r = .returned (.int .i64 (c : Int)) ∧ CMem Y s last' F G' ∧ ExtF G G' ∧ G' (linkV c0 z0) = some c ∧ c ≤ last' ∧ last' ≤ last + 1 ∧ last ≤ last' ∧ StaysBut s W Y := by
  obtain ⟨n, h1, h2⟩ := h.links
  refine (num_link c0 z0 hc0 hz0 W (s + 1) n (s + 4) last G h2 h.lastb (by omega) (by omega) (by omega)).mono ?_
  rintro r Y (⟨c, e1, rfl, e3, e4, e5⟩ | ⟨e1, rfl, e3, e4, ⟨e5, e6, e7, e8⟩, e9⟩)
  · have hlt := h.lt
    have hs : ∀ k, s ≤ k → k < s + 6 → Y.heap[k]? = W.heap[k]? := fun k _ hk => e5.block k (by omega)
    exact ⟨c, last, G, rfl, h.same hs, ExtF.refl G, e1, h.good.gle _ _ e1, by omega, Nat.le_refl _, .of_below e5⟩
  · have hlt := h.lt
    have hs : ∀ k, s ≤ k → k < s + 6 → k ≠ s + 1 → k ≠ s + 4 → Y.heap[k]? = W.heap[k]? := fun k hk1 hk hk2 hk3 => e9 k (by omega) hk2 hk3
    obtain ⟨m, h3, h4⟩ := h.heads
    exact ⟨last + 1, last + 1, _, by rw [Int.natCast_add]; rfl, ⟨⟨m, by omega, h4.same (hs _ (by omega) (by omega) (by omega) (by omega))⟩, ⟨n + 1, by omega, e3⟩, (hs _ (by omega) (by omega) (by omega) (by omega)).trans h.hbox, (hs _ (by omega) (by omega) (by omega) (by omega)).trans h.lbox, (by rw [Int.natCast_add]; exact e4), (hs _ (by omega) (by omega) (by omega) (by omega)).trans h.nbox, h.good.putLink _⟩,
      extF_put e1 _, putF_self _ _ _, Nat.le_refl _, Nat.le_refl _, Nat.le_succ _, ⟨e5, e6, e7, e8, fun k hk hm => e9 k hk (fun e => hm (.inr (.inl e))) (fun e => hm (.inr (.inr e)))⟩⟩
/-- what the walk keeps between two expressions -/
def CInv (w : World) (q s n : Nat) (l : List Ex) (F0 G0 : Value → Option Nat) (last0 k : Nat) (Ds : List Nat) (W : World) : Prop :=
  k ≤ n ∧ (∃ (F G : Value → Option Nat) (last : Nat) (cs : List Nat), CMem W s last F G ∧ ExtF F0 F ∧ ExtF G0 G ∧ last ≤ last0 + k * 1000 ∧ ClsAll F G (l.take k) cs ∧ (∀ j, cs.getD j 0 ≤ last) ∧ RowN W q n (fun j => cs.getD j 0)) ∧
  W.heap[q + 1]? = some (.cells #[.slice (some ⟨q, 0, none⟩) n n] 32 (0, 0)) ∧ StaysBut s w W ∧ Marked (q + 2) Ds W
/-- .. and between two of its parts -/
def CRow (w : World) (q s n C N : Nat) (x : Ex) (cs : List Nat) (F1 G1 : Value → Option Nat) (last1 : Nat) (Ds : List Nat) (pre : List (PartOf x)) (W : World) : Prop :=
  (∃ (F G : Value → Option Nat) (last c : Nat), CMem W s last F G ∧ ExtF F1 F ∧ ExtF G1 G ∧ last ≤ last1 + 1 + pre.length ∧ last1 ≤ last ∧ c ≤ last ∧ Boxed W C 3 (.int .i64 (c : Int)) ∧ clsOf F G (headV x) (pre.map fun z => cs.getD z.1.toNat 0) = some c) ∧ RowN W q n (fun j => cs.getD j 0) ∧
  W.heap[q + 1]? = some (.cells #[.slice (some ⟨q, 0, none⟩) n n] 32 (0, 0)) ∧ StaysBut s w W ∧ Marked (q + 2) Ds W ∧ N ≤ W.heap.size
theorem StaysBut.grown {s : Nat} {w X Y : World} {row : Option Nat} (h : StaysBut s w X) (hg : X.grownBy Y row) (hr : ∀ k, row = some k → w.heap.size ≤ k) : StaysBut s w Y :=
  ⟨hg.os.trans h.os, hg.tape.trans h.tape, hg.output.trans h.output, Nat.le_trans h.size hg.size, fun k hk hm => (hg.block k (Nat.lt_of_lt_of_le hk h.size) (fun e => by have := hr k e.symm; omega)).trans (h.block k hk hm)⟩
theorem crow_own {w : World} {q s n C N : Nat} {x : Ex} {cs : List Nat} {F1 G1 : Value → Option Nat} {last1 : Nat} {Ds : List Nat} (h1 : q + 1 < N) (h2 : w.heap.size < N) (h3 : C < N) (h4 : ∀ D ∈ Ds, D < N) (h5 : s + 5 < N) : OwnFrom N (CRow w q s n C N x cs F1 G1 last1 Ds) := by
  rintro pre X Y row ⟨⟨F, G, last, c, r1, r2, r3, r4, r44, r5, r6, r7⟩, a0, a1, a2, ⟨a5, a6⟩, a7⟩ hg hrow
  have hne : ∀ b, b < N → some b ≠ row := fun b hb e => by have := (hrow b e.symm).1; omega
  have hs : ∀ {b : Nat}, b < N → Y.heap[b]? = X.heap[b]? := fun {b} hb => hg.block _ (by omega) (hne _ hb)
  exact ⟨⟨F, G, last, c, r1.same (fun k _ hk => hs (by omega)), r2, r3, r4, r44, r5, (hs h3).trans r6, r7⟩, a0.same (hs (by omega)), (hs h1).trans a1, a2.grown hg (fun k e => by have := (hrow k e).1; omega), ⟨a5, fun D hD => ⟨(a6 D hD).1, (hs (h4 D hD)).trans (a6 D hD).2⟩⟩, Nat.le_trans a7 hg.size⟩
theorem getD_snoc_lt (cs : List Nat) (c : Nat) {j : Nat} (h : j < cs.length) : (cs ++ [c]).getD j 0 = cs.getD j 0 := by
  rw [List.getD_eq_getElem?_getD, List.getD_eq_getElem?_getD, List.getElem?_append_left h]
theorem getD_snoc_eq (cs : List Nat) (c : Nat) : (cs ++ [c]).getD cs.length 0 = c := by
  rw [List.getD_eq_getElem?_getD, List.getElem?_append_right (Nat.le_refl _)]; simp
theorem getD_snoc_gt (cs : List Nat) (c : Nat) {j : Nat} (h : cs.length < j) : (cs ++ [c]).getD j 0 = cs.getD j 0 := by
  rw [List.getD_eq_getElem?_getD, List.getD_eq_getElem?_getD, List.getElem?_eq_none (by simp; omega), List.getElem?_eq_none (by omega)]
theorem clsAll_snoc {F G F' G' : Value → Option Nat} {l : List Ex} {k : Nat} {x : Ex} {cs : List Nat} {c : Nat} (hA : AheadL l) (hx : l[k]? = some x) (h : ClsAll F G (l.take k) cs) (hF : ExtF F F') (hG : ExtF G G') (hc : clsOf F' G' (headV x) ((partsE x).map fun z => cs.getD z.toNat 0) = some c) :
    ClsAll F' G' (l.take (k + 1)) (cs ++ [c]) := by
  have hk := (List.getElem?_eq_some_iff.1 hx).1
  have hlen : cs.length = k := by rw [h.1, List.length_take]; omega
  have hz : ∀ (i : Nat) (y : Ex), l[i]? = some y → i ≤ k → ((partsE y).map fun z => (cs ++ [c]).getD z.toNat 0) = (partsE y).map fun z => cs.getD z.toNat 0 := fun i y hy hi => List.map_congr_left fun z hzm => by
    have := hA i y hy z hzm
    exact getD_snoc_lt cs c (by omega)
  refine ⟨by rw [List.length_append, hlen, List.length_take]; simp; omega, fun i y hy => ?_⟩
  rw [List.getElem?_take] at hy
  split at hy
  · rename_i hik
    rw [hz i y hy (by omega)]
    rcases Nat.lt_or_ge i k with h1 | h1
    · rw [getD_snoc_lt cs c (by omega)]
      exact (h.ext hF hG).2 i y (by rw [List.getElem?_take, if_pos h1]; exact hy)
    · obtain rfl : i = k := by omega
      have e := hx.symm.trans hy
      cases e
      rw [show (cs ++ [c]).getD i 0 = c by rw [← hlen]; exact getD_snoc_eq cs c]
      exact hc
  · cases hy
theorem crow_step {w : World} {q s n C N : Nat} {x : Ex} {cs : List Nat} {F1 G1 : Value → Option Nat} {last1 : Nat} {Ds : List Nat} {pre : List (PartOf x)} {W W7 : World} {F2 G2 G3 : Value → Option Nat} {last2 last3 c2 c3 zn : Nat} (hzm : (zn : Int) ∈ partsE x)
    (k1 : q + 1 < N) (k2 : w.heap.size ≤ C) (k3 : C < N) (k4 : ∀ D ∈ Ds, D < N ∧ D ≠ C) (k5 : s + 5 < q) (k6 : q + 1 < C)
    (r2 : ExtF F1 F2) (r3 : ExtF G1 G2) (r4 : last2 ≤ last1 + 1 + pre.length) (r44 : last1 ≤ last2) (r7 : clsOf F2 G2 (headV x) (pre.map fun z => cs.getD z.1.toNat 0) = some c2) (a0 : RowN W q n (fun j => cs.getD j 0))
    (a1 : W.heap[q + 1]? = some (.cells #[.slice (some ⟨q, 0, none⟩) n n] 32 (0, 0))) (a2 : StaysBut s w W) (a3 : Marked (q + 2) Ds W) (a4 : N ≤ W.heap.size)
    (hM : CMem W7 s last3 F2 G3) (hE : ExtF G2 G3) (hc : G3 (linkV c2 (cs.getD zn 0)) = some c3) (h1 : c3 ≤ last3) (h2 : last3 ≤ last2 + 1) (h22 : last2 ≤ last3) (hB : Boxed W7 C 3 (.int .i64 (c2 : Int))) (hS : StaysBut s W W7) :
    KeepsFrom N W (W7.setCell ⟨C, 0, none⟩ (.int .i64 (c3 : Int))) ∧ KeepM (fun j => CM s j ∨ j = C) (fun _ => none) N W (W7.setCell ⟨C, 0, none⟩ (.int .i64 (c3 : Int))) ∧
      CRow w q s n C N x cs F1 G1 last1 Ds (pre ++ [⟨(zn : Int), hzm⟩]) (W7.setCell ⟨C, 0, none⟩ (.int .i64 (c3 : Int))) := by
  have hz : W.heap.size ≤ (W7.setCell ⟨C, 0, none⟩ (.int .i64 (c3 : Int))).heap.size := Nat.le_trans hS.size ((Below.refl 0 W7).setCell (p := ⟨C, 0, none⟩) (Nat.zero_le _) _).size
  have hb : ∀ k, k < W.heap.size → ¬ CM s k → k ≠ C → (W7.setCell ⟨C, 0, none⟩ (.int .i64 (c3 : Int))).heap[k]? = W.heap[k]? := fun k h3 h4 h5 => (set_other W7 C k 0 _ h5).trans (hS.block k h3 h4)
  have hn : ∀ k, s + 5 < k → ¬ CM s k := fun k hk hm => by rcases hm with h3 | h3 | h3 <;> omega
  refine ⟨⟨hz, fun k o h3 h4 _ => (hb k (lt_of_heap h4) (hn k (by omega)) (by omega)).trans h4⟩, ⟨hz, fun k h3 h4 _ _ => hb k h3 (fun h => h4 (.inl h)) (fun h => h4 (.inr h)), fun k h3 => by cases h3⟩, ⟨F2, G3, last3, c3, hM.same (fun k h3 h4 => set_other W7 C k 0 _ (by omega)), r2, r3.trans hE, by simp; omega, by omega, h1, hB.set _, ?_⟩, a0.same (hb q (by omega) (hn q k5) (by omega)), (hb _ (by omega) (hn _ (by omega)) (by omega)).trans a1, ?_, ⟨a3.1, fun D hD => ⟨(a3.2 D hD).1, (hb D (by have := k4 D hD; omega) (hn D (by have := (a3.2 D hD).1; omega)) (k4 D hD).2).trans (a3.2 D hD).2⟩⟩, Nat.le_trans a4 hz⟩
  · rw [List.map_append, List.map_singleton, clsOf_snoc, clsOf_ext (ExtF.refl F2) hE _ _ _ _ rfl r7]
    exact hc
  · exact (a2.trans hS).set (by omega) 0 _
theorem cinv_next {w : World} {q s n : Nat} {l : List Ex} {x : Ex} {cs : List Nat} {F0 G0 F G F2 G2 : Value → Option Nat} {last0 last last2 c k D : Nat} {Ds : List Nat} {W : World} (hA : AheadL l) (hx : l[k]? = some x) (hkn : k < n) (hps : (partsE x).length ≤ 900) (k5 : s + 5 < q) (hwq : w.heap.size ≤ q)
    (hF : ExtF F0 F) (hG : ExtF G0 G) (hl : last ≤ last0 + k * 1000) (hcs : ClsAll F G (l.take k) cs) (hcl : ∀ j, cs.getD j 0 ≤ last)
    (r1 : CMem W s last2 F2 G2) (r2 : ExtF F F2) (r3 : ExtF G G2) (r4 : last2 ≤ last + 1 + (partsE x).length) (hll : last ≤ last2) (r5 : c ≤ last2) (r7 : clsOf F2 G2 (headV x) ((partsE x).map fun z => cs.getD z.toNat 0) = some c)
    (a0 : RowN W q n (fun j => cs.getD j 0)) (a1 : W.heap[q + 1]? = some (.cells #[.slice (some ⟨q, 0, none⟩) n n] 32 (0, 0))) (a2 : StaysBut s w W) (a5 : Ds.Nodup) (a6 : ∀ D ∈ Ds, q + 2 ≤ D ∧ W.heap[D]? = some (.deferred (some []))) (hD : D ∉ Ds) (hDq : q + 2 ≤ D) (hDm : W.heap[D]? = some (.deferred (some []))) :
    CInv w q s n l F0 G0 last0 (k + 1) (D :: Ds) (W.setCell ⟨q, k, none⟩ (.int .i64 (c : Int))) := by
  have hk := (List.getElem?_eq_some_iff.1 hx).1
  have hlen : cs.length = k := by rw [hcs.1, List.length_take]; omega
  refine ⟨by omega, ⟨F2, G2, last2, cs ++ [c], r1.same (fun j h1 h2 => set_other W q j k _ (by omega)), hF.trans r2, hG.trans r3, by omega, clsAll_snoc hA hx hcs r2 r3 r7, fun j => ?_, (a0.set hkn c).congr fun j hj => ?_⟩, (set_other W q (q + 1) k _ (by omega)).trans a1, a2.set hwq k _, List.nodup_cons.2 ⟨hD, a5⟩, fun D' hD' => ?_⟩
  · rcases Nat.lt_trichotomy j k with h | h | h
    · rw [getD_snoc_lt cs c (by omega)]; exact Nat.le_trans (hcl j) hll
    · rw [show (cs ++ [c]).getD j 0 = c by rw [h, ← hlen]; exact getD_snoc_eq cs c]; exact r5
    · rw [getD_snoc_gt cs c (by omega)]; exact Nat.le_trans (hcl j) hll
  · show (if j = k then c else cs.getD j 0) = _
    rcases Nat.lt_trichotomy j k with h | h | h
    · rw [if_neg (by omega), getD_snoc_lt cs c (by omega)]
    · rw [if_pos h, show (cs ++ [c]).getD j 0 = c by rw [h, ← hlen]; exact getD_snoc_eq cs c]
    · rw [if_neg (by omega), getD_snoc_gt cs c (by omega)]
  · rcases List.mem_cons.1 hD' with rfl | h
    · exact ⟨hDq, (set_other W q _ k _ (by omega)).trans hDm⟩
    · exact ⟨(a6 D' h).1, (set_other W q D' k _ (by have := (a6 D' h).1; omega)).trans (a6 D' h).2⟩
end
section
open Go.RowKit Go.Shelf

attribute [local go_sem] Oper.semAt_some

theorem x_box {wr Y : World} {s c : Nat} {k a b e v p : Int} {name state : ByteArray} {sl : Value} (h : StaysBut s (wr.alloc (.cells #[.int .i64 k, .int .i64 a, .int .i64 b, .int .i64 e, .string name, .string state, .int .i64 v, sl, .int .i64 p] 34)) Y) (hs : s + 5 < wr.heap.size) :
    (Y.alloc (.cells #[.int .i64 (c : Int)] 3)).cell? ⟨wr.heap.size, 0, none⟩ = some (.int .i64 k) ∧ (Y.alloc (.cells #[.int .i64 (c : Int)] 3)).cell? ⟨wr.heap.size, 1, none⟩ = some (.int .i64 a) ∧ (Y.alloc (.cells #[.int .i64 (c : Int)] 3)).cell? ⟨wr.heap.size, 2, none⟩ = some (.int .i64 b) ∧
    (Y.alloc (.cells #[.int .i64 (c : Int)] 3)).cell? ⟨wr.heap.size, 3, none⟩ = some (.int .i64 e) ∧ (Y.alloc (.cells #[.int .i64 (c : Int)] 3)).cell? ⟨wr.heap.size, 4, none⟩ = some (.string name) ∧ (Y.alloc (.cells #[.int .i64 (c : Int)] 3)).cell? ⟨wr.heap.size, 5, none⟩ = some (.string state) ∧
    (Y.alloc (.cells #[.int .i64 (c : Int)] 3)).cell? ⟨wr.heap.size, 6, none⟩ = some (.int .i64 v) ∧ (Y.alloc (.cells #[.int .i64 (c : Int)] 3)).cell? ⟨wr.heap.size, 7, none⟩ = some sl ∧ (Y.alloc (.cells #[.int .i64 (c : Int)] 3)).cell? ⟨wr.heap.size, 8, none⟩ = some (.int .i64 p) := by
  have hz := h.size
  rw [World.size_alloc] at hz
  have hb := (heap_old Y (.cells #[.int .i64 (c : Int)] 3) wr.heap.size (by omega)).trans ((h.block wr.heap.size (by rw [World.size_alloc]; omega) (fun hm => by rcases hm with h1 | h1 | h1 <;> omega)).trans (World.alloc_heap_new wr _))
  refine ⟨?_, ?_, ?_, ?_, ?_, ?_, ?_, ?_, ?_⟩ <;> simp only [World.cell?, hb] <;> rfl
set_option maxHeartbeats 8000000 in
set_option maxRecDepth 100000 in
theorem cls_core (o : Option Addr) (b off n cap : Nat) (l : List Ex) (hn : Hid (l.length = n)) (nl : (n : Int) ≤ 300) (hnc : (n : Int) ≤ (cap : Int)) (hcm : (cap : Int) ≤ 9223372036854775807) (ho : Hid (0 < n → o = some ⟨b, off, none⟩)) (hA : Hid (AheadL l)) (hargs : Hid (∀ x ∈ l, (partsE x).length ≤ 900))
    (w0 w : World) (hw : Hid (Below w0.heap.size w0 w)) (s : Nat) (hs : Hid (w0.heap.size ≤ s)) (hc : Hid (∀ i, i < n → ∀ x, l[i]? = some x → ExAt w0 b (off + i * 9) x)) (last0 : Nat) (F0 G0 : Value → Option Nat) (hM : Hid (CMem w s last0 F0 G0)) (hl : Hid (last0 ≤ 400000)) :
    CallsIn Fence.wide 5 Try.prog 40 #[.slice o n cap, .pointer (some ⟨s + 2, 0, none⟩), .pointer (some ⟨s + 5, 0, none⟩), .pointer (some ⟨s + 3, 0, none⟩)] w fun r Y =>
      ∃ (cs : List Nat) (F G : Value → Option Nat) (last q : Nat), r = .returned (.slice (some ⟨q, 0, none⟩) n n) ∧ w.heap.size ≤ q ∧ RowN Y q n (fun j => cs.getD j 0) ∧ ClsAll F G l cs ∧ ExtF F0 F ∧ ExtF G0 G ∧ CMem Y s last F G ∧ last ≤ last0 + 300000 ∧ StaysBut s w Y := by
  have hmk := run_make_ints n (by omega)
  refine callsIn_of_wp_marks Try.func40 rfl trivial ?_ rfl
  simp only [Try.ntmps40, List.size_toArray, List.length_cons, List.length_nil, Nat.reduceAdd, Nat.reduceSub, Array.replicate_succ, Array.replicate_zero, List.push_toArray, List.append_toArray, List.nil_append, List.cons_append]
  gi_wp2_with (fail)
  obtain ⟨q, hq⟩ : ∃ q, q = w.heap.size := ⟨_, rfl⟩
  have hI0 : Hid (CInv w q s n l F0 G0 last0 0 [] ((w.alloc (.cells (madeCells #[.int .i64 0] n) 3)).alloc (.cells #[.slice (some ⟨w.heap.size, 0, none⟩) n n] 32))) := Lib.hid (by
    subst hq
    have hb : Below w.heap.size w ((w.alloc (.cells (madeCells #[.int .i64 0] n) 3)).alloc (.cells #[.slice (some ⟨w.heap.size, 0, none⟩) n n] 32)) := (((Below.refl _ w).alloc (Nat.le_refl _) _).alloc (by rw [World.size_alloc]; omega) _)
    have hlt := hM.out.lt
    refine ⟨Nat.zero_le _, ⟨F0, G0, last0, [], hM.out.same (fun k _ hk => hb.block k (by omega)), ExtF.refl _, ExtF.refl _, by omega, ⟨by simp, fun i x hx => by simp at hx⟩, fun j => by simp, ((RowN.new w n).same (heap_old _ _ _ (by rw [World.size_alloc]; omega))).congr (fun j _ => by simp)⟩, ?_, .of_below hb, List.nodup_nil, fun D hD => by simp at hD⟩
    have := World.alloc_heap_new (w.alloc (.cells (madeCells #[.int .i64 0] n) 3)) (.cells #[.slice (some ⟨w.heap.size, 0, none⟩) n n] 32)
    rwa [World.size_alloc] at this)
  rw [← hq] at hI0 ⊢
  --LOOP
  have hsq : s + 5 < q := by have := hM.out.lt; omega
  have hwq : w.heap.size = q := hq.symm
  clear hq hmk
  refine wpIn_loop (fun a W => ∃ (k : Nat) (Ds : List Nat) (u7 u8 u9 u10 u17 u18 u19 u20 u21 u22 u23 u24 u25 u26 u27 u28 u29 u30 u31 u32 u33 u34 u35 u36 u37 u38 u39 u40 u41 u42 u43 u44 u45 u46 u47 u48 u49 : Value), a = { tmps := #[.slice o n cap, .pointer (some ⟨s + 2, 0, none⟩), .pointer (some ⟨s + 5, 0, none⟩), .pointer (some ⟨s + 3, 0, none⟩), undef, .slice none 0 0, .pointer (some ⟨q + 1, 0, none⟩), u7, u8, u9, u10, .slice o n cap, .int .i64 (n : Int), .slice (some ⟨q, 0, none⟩) n n, .slice o n cap, .int .i64 (n : Int), .int .i64 (k : Int), u17, u18, u19, u20, u21, u22, u23, u24, u25, u26, u27, u28, u29, u30, u31, u32, u33, u34, u35, u36, u37, u38, u39, u40, u41, u42, u43, u44, u45, u46, u47, u48, u49, undef], defers := marks Ds } ∧ CInv w q s n l F0 G0 last0 k Ds W) (fun a _ => n - litLen (a.tmps.getD 16 undef)) ?h0 ?round
  case h0 => exact ⟨0, [], _, _, _, _, _, _, _, _, _, _, _, _, _, _, _, _, _, _, _, _, _, _, _, _, _, _, _, _, _, _, _, _, _, _, _, _, _, rfl, hI0.out⟩
  case round =>
    clear hI0
    rintro a wr ⟨k, Ds, u7, u8, u9, u10, u17, u18, u19, u20, u21, u22, u23, u24, u25, u26, u27, u28, u29, u30, u31, u32, u33, u34, u35, u36, u37, u38, u39, u40, u41, u42, u43, u44, u45, u46, u47, u48, u49, rfl, hk, ⟨F, G, last, cs, hM1, hF1, hG1, hl1, hcs, hcl, hR⟩, h5, hW, hMk⟩
    have HM1 := Lib.hid hM1
    have HF1 := Lib.hid hF1
    have HG1 := Lib.hid hG1
    have HCS := Lib.hid hcs
    have HCL := Lib.hid hcl
    have HR := Lib.hid hR
    have H5 := Lib.hid h5
    have HW := Lib.hid hW
    have HMK := Lib.hid hMk
    have g5 : wr.cell? ⟨q + 1, 0, none⟩ = some (.slice (some ⟨q, 0, none⟩) n n) := by simp [World.cell?, h5]
    have hq1 : q + 1 < wr.heap.size := lt_of_heap h5
    clear hM1 hF1 hG1 hcs hcl hR h5 hW hMk
    rcases Nat.lt_or_ge k n with hlt | hge
    · have hl' : (k : Int) < (n : Int) := by omega
      obtain ⟨x, hxk⟩ : ∃ x, l[k]? = some x := ⟨_, List.getElem?_eq_getElem (by have := hn.out; omega)⟩
      have HBW := Lib.hid (HW.out.below hw.out hs.out)
      obtain ⟨oa, capa, hia, hok, b0, b1, b2, b3, b4, b5, b6, b7, b8⟩ := ex_cells (hc.out k hlt x hxk)
      have c0 := cell_on HBW.out b0
      have c1 := cell_on HBW.out b1
      have c2 := cell_on HBW.out b2
      have c3 := cell_on HBW.out b3
      have c4 := cell_on HBW.out b4
      have c5 := cell_on HBW.out b5
      have c6 := cell_on HBW.out b6
      have c7 := cell_on HBW.out b7
      have c8 := cell_on HBW.out b8
      clear b0 b1 b2 b3 b4 b5 b6 b7 b8
      have HIA := Lib.hid hia
      have HOK := Lib.hid hok
      have HX := Lib.hid hxk
      have ix := ix_exs (cap := cap) (o := o) (n := n) (b := b) (off := off) ho.out hlt (by omega)
      unfold Ix at ix
      clear hia hok hxk
      have hal := below_al (Below.refl wr.heap.size wr) (.cells #[.int .i64 x.kind, .int .i64 x.a, .int .i64 x.b, .int .i64 x.c, .string x.name, .string x.state, .int .i64 x.v, .slice oa x.args.length capa, .int .i64 x.pos] 34)
      have hls : (last : Int) ≤ 900000 := by have := hl.out; omega
      have hslt := HM1.out.lt
      have CH := Lib.hid (head_cls x HOK.out (wr.alloc (.cells #[.int .i64 x.kind, .int .i64 x.a, .int .i64 x.b, .int .i64 x.c, .string x.name, .string x.state, .int .i64 x.v, .slice oa x.args.length capa, .int .i64 x.pos] 34)) s last F G (HM1.out.same fun k _ hk => hal.block k (by omega)) hls)
      have m1 : (wr.alloc (.cells #[.int .i64 x.kind, .int .i64 x.a, .int .i64 x.b, .int .i64 x.c, .string x.name, .string x.state, .int .i64 x.v, .slice oa x.args.length capa, .int .i64 x.pos] 34)).cell? ⟨s + 2, 0, none⟩ = some (.map (some s)) := cell_on hal (by simp [World.cell?, HM1.out.hbox])
      have m2 : (wr.alloc (.cells #[.int .i64 x.kind, .int .i64 x.a, .int .i64 x.b, .int .i64 x.c, .string x.name, .string x.state, .int .i64 x.v, .slice oa x.args.length capa, .int .i64 x.pos] 34)).cell? ⟨s + 5, 0, none⟩ = some (nextV (s + 4)) := cell_on hal (by simp [World.cell?, HM1.out.nbox])
      have HAL := Lib.hid hal
      unfold headV nextV at CH
      unfold nextV at m2
      clear hal
      gi_wp2_with (first
        | (refine ⟨trivial, ?_⟩; gi_at_call 41; ((with_reducible refine (callsIn_wide.2 CH.out).mono ?_); rintro r Y ⟨c, last1, F1, rfl, hM1, hF1, hc1, hcl1, hll1, hlm1, hS1⟩; have hX := x_box (c := c) hS1 (by omega); have HX2 := Lib.hid hX; have d0 := hX.1; have d1 := hX.2.1; have d2 := hX.2.2.1; have d3 := hX.2.2.2.1; have d4 := hX.2.2.2.2.1; have d5 := hX.2.2.2.2.2.1; have d6 := hX.2.2.2.2.2.2.1; have d7 := hX.2.2.2.2.2.2.2.1; have d8 := hX.2.2.2.2.2.2.2.2; have HMY := Lib.hid hM1; have HFY := Lib.hid hF1; have HCY := Lib.hid hc1; have HSY := Lib.hid hS1; clear hX hM1 hF1 hc1 hS1 m1 m2 CH))
        | (refine ⟨trivial, ?_⟩; gi_at_call 34; ((with_reducible refine (callsIn_wide.2 (parts_any _ _ _ _ _ _ _ _ _ _)).mono ?_); rintro r w2 ⟨rfl, rfl⟩)))
      have hEX := below_al (Below.refl wr.heap.size wr) (.cells #[.int .i64 x.kind, .int .i64 x.a, .int .i64 x.b, .int .i64 x.c, .string x.name, .string x.state, .int .i64 x.v, .slice oa x.args.length capa, .int .i64 x.pos] 34)
      have hwY := Lib.hid ((HW.out.trans (.of_below hEX)).trans HSY.out)
      have hrY := Lib.hid ((StaysBut.of_below hEX).trans HSY.out)
      obtain ⟨f1, f2⟩ := two_alloc Y (.cells #[.int .i64 (c : Int)] 3) (.cells #[.int .i64 x.kind, .int .i64 x.a, .int .i64 x.b, .int .i64 x.c, .string x.name, .string x.state, .int .i64 x.v, .slice oa x.args.length capa, .int .i64 x.pos] 34)
      obtain ⟨W3, hW3⟩ : ∃ W3, W3 = ((Y.alloc (.cells #[.int .i64 (c : Int)] 3)).alloc (.cells #[.int .i64 x.kind, .int .i64 x.a, .int .i64 x.b, .int .i64 x.c, .string x.name, .string x.state, .int .i64 x.v, .slice oa x.args.length capa, .int .i64 x.pos] 34)) := ⟨_, rfl⟩
      have hY3 : Below Y.heap.size Y W3 := by rw [hW3]; exact ((Below.refl _ Y).alloc (Nat.le_refl _) _).alloc (by rw [World.size_alloc]; omega) _
      have hz3 : W3.heap.size = Y.heap.size + 2 := by rw [hW3, World.size_alloc, World.size_alloc]
      rw [← hW3] at f1 f2 ⊢
      have hzY := hrY.out.size
      have HY3 := Lib.hid hY3
      have hw3 := Lib.hid (hwY.out.trans (.of_below hY3))
      have hr3 := Lib.hid (hrY.out.trans (.of_below hY3))
      have hnC : ∀ k, s + 5 < k → ¬ CM s k := fun k hk hm => by rcases hm with h3 | h3 | h3 <;> omega
      have hkparts := Lib.hid (hA.out k x HX.out)
      have hplen := Lib.hid (hargs.out x (List.mem_of_getElem? HX.out))
      have hclen : cs.length = k := by rw [HCS.out.1, List.length_take]; have := hn.out; omega
      have hAr : Hid (Around (fun j => CM s j ∨ j = Y.heap.size) (fun _ => none) W3) := Lib.hid ⟨fun j hj => by rcases hj with (h | h | h) | h <;> omega, fun j hj => (by cases hj), fun W hW => rfl⟩
      have hSr : Hid (Srcs W3 x (Y.heap.size + 1) (fun j => (CM s j ∨ j = Y.heap.size) ∨ (none : Option Nat) = some j)) :=
        Lib.hid (srcs_of HIA.out HOK.out (hw3.out.below hw.out hs.out) f2 (fun j hj => by have h0 := hs.out; have h00 := hw.out.size; rcases hj with ((h | h | h) | h) | h; omega; omega; omega; omega; cases h) (fun h => by rcases h with ((h | h | h) | h) | h; omega; omega; omega; omega; cases h))
      have hMk : Hid (∀ D ∈ Ds, D < wr.heap.size) := Lib.hid fun D hD => lt_of_heap (HMK.out.2 D hD).2
      have hsame3 : ∀ k, k < wr.heap.size → ¬ CM s k → W3.heap[k]? = wr.heap[k]? := fun k h1 h2 => hr3.out.block k h1 h2
      have hinv : Hid (CRow w q s n Y.heap.size (Y.heap.size + 2) x cs F G last Ds [] W3) := Lib.hid
        ⟨⟨F1, G, last1, c, HMY.out.same (fun k _ hk => hY3.block k (by omega)), HFY.out, ExtF.refl _, by simp; omega, hlm1, hcl1, f1, HCY.out⟩, HR.out.same (hsame3 _ (by omega) (hnC _ hsq)), (hsame3 _ hq1 (hnC _ (by omega))).trans H5.out, hw3.out, ⟨HMK.out.1, fun D hD => ⟨(HMK.out.2 D hD).1, (hsame3 _ (hMk.out D hD) (hnC _ (by have := (HMK.out.2 D hD).1; omega))).trans (HMK.out.2 D hD).2⟩⟩, by omega⟩
      have hIo := Lib.hid (crow_own (w := w) (q := q) (s := s) (n := n) (C := Y.heap.size) (N := Y.heap.size + 2) (x := x) (cs := cs) (F1 := F) (G1 := G) (last1 := last) (Ds := Ds) (by omega) (by omega) (by omega) (fun D hD => by have := hMk.out D hD; omega) (by omega))
      rw [← hz3] at hIo hinv
      have HZ3 := Lib.hid hz3
      clear f1 f2 hY3 hW3 hEX d0 d1 d2 d3 d4 d5 d6 d7 d8 HX2 hsame3
      unfold partsV
      refine wpIn_rangeFunc_ownG (α := PartOf x) rfl (by decide) (gf := 47) (lb := #[.pointer (some ⟨Y.heap.size + 1, 0, none⟩)]) rfl trivial (enters_of Try.func47 (by kernel_rfl) rfl)
        (parts_stops 4 (by decide) x _ _ _ _ hAr.out hSr.out) (fun h k => h.trans k) (fun W l o o' h1 h2 h3 _ => keepM_none W l o o' h1 h2 h3) (Below.refl _ _) (fun _ => rfl)
        (CRow w q s n Y.heap.size _ x cs F G last Ds) (fun _ _ _ => False) hIo.out (fun _ _ _ _ _ hs _ _ => hs) hinv.out
        (fun z => { tmps := #[.slice o n cap, .pointer (some ⟨s + 2, 0, none⟩), .pointer (some ⟨s + 5, 0, none⟩), .pointer (some ⟨s + 3, 0, none⟩), undef, .slice none 0 0, .pointer (some ⟨q + 1, 0, none⟩), .int .i64 (k : Int), .pointer (some ⟨wr.heap.size, 0, none⟩), .pointer (some ⟨Y.heap.size, 0, none⟩), .int .i64 z.1, .slice o n cap, .int .i64 (n : Int), .slice (some ⟨q, 0, none⟩) n n, .slice o n cap, .int .i64 (n : Int), .int .i64 (k : Int), .bool true, .int .i64 (k : Int), .pointer (some ⟨b, off + k * 9, none⟩), .agg #[.int .i64 x.kind, .int .i64 x.a, .int .i64 x.b, .int .i64 x.c, .string x.name, .string x.state, .int .i64 x.v, .slice oa x.args.length capa, .int .i64 x.pos], .map (some s), .pointer (some ⟨wr.heap.size, 0, none⟩), .int .i64 x.kind, .pointer (some ⟨wr.heap.size, 4, none⟩), .string x.name, .pointer (some ⟨wr.heap.size, 5, none⟩), .string x.state, .pointer (some ⟨wr.heap.size, 6, none⟩), .int .i64 x.v, .agg #[.int .i64 x.kind, .string x.name, .string x.state, .int .i64 x.v], .func (.func 39) #[] #[.pointer (some ⟨s + 4, 0, none⟩)], .int .i64 (c : Int), .agg #[.int .i64 x.kind, .int .i64 x.a, .int .i64 x.b, .int .i64 x.c, .string x.name, .string x.state, .int .i64 x.v, .slice oa x.args.length capa, .int .i64 x.pos], .func (.func 47) #[] #[.pointer (some ⟨Y.heap.size + 1, 0, none⟩)], .int .i64 z.1, u36, u37, u38, u39, u40, u41, u42, u43, u44, u45, u46, u47, u48, u49, undef], defers := [] }) ?assign ?body ?done ?stop
      case assign =>
        rintro lp z W K hK
        gi_wp2
        exact hK
      case body =>
        rintro lp pre ⟨z, hzm⟩ W ⟨⟨F2, G2, last2, c2, r1, r2, r3, r4, r44, r5, r6, r7⟩, a0, a1, a2, a5, a6⟩ hlt2
        obtain ⟨hz0, hz1⟩ := hkparts.out z hzm
        obtain ⟨zn, rfl⟩ := Int.eq_ofNat_of_zero_le hz0
        have hzk : zn < k := by omega
        have HR1 := Lib.hid r1
        have HR2 := Lib.hid r2
        have HR3 := Lib.hid r3
        have HR6 := Lib.hid r6
        have HR7 := Lib.hid r7
        have HA0 := Lib.hid a0
        have HA1 := Lib.hid a1
        have HA2 := Lib.hid a2
        have HA5 := Lib.hid a5
        have HA6 := Lib.hid a6
        have y0 : W.cell? ⟨s + 3, 0, none⟩ = some (.map (some (s + 1))) := by simp [World.cell?, r1.lbox]
        have y1 : W.cell? ⟨Y.heap.size, 0, none⟩ = some (.int .i64 (c2 : Int)) := r6.cell
        have y2 : W.cell? ⟨q + 1, 0, none⟩ = some (.slice (some ⟨q, 0, none⟩) n n) := by simp [World.cell?, a1]
        have y3 := a0.cell (j := zn) (by omega)
        have y4 : W.cell? ⟨s + 5, 0, none⟩ = some (nextV (s + 4)) := by simp [World.cell?, r1.nbox]
        obtain ⟨cz, hcz⟩ : ∃ cz, cz = cs.getD zn 0 := ⟨_, rfl⟩
        have hczl : cz ≤ last := by rw [hcz]; exact HCL.out zn
        have hpl := hplen.out
        have hll0 := hl.out
        have CL := Lib.hid (link_cls c2 cz (by omega) (by omega) W.drew s last2 F2 G2 (r1.same fun _ _ _ => rfl) (by omega))
        rw [← hcz] at y3
        have HCZ := Lib.hid hcz
        unfold nextV at y4 CL
        unfold linkV at CL
        have hmx : Try.prog.follows .mixedOrders = true := by kernel_rfl
        have hzn : (zn : Int) < (n : Int) := by omega
        clear r1 r2 r3 r6 r7 a0 a1 a2 a5 a6 hcz
        dsimp only
        gi_wp2
        refine tailIn_by_quiet 8 (by kernel_rfl) (by kernel_rfl) (by kernel_rfl) ?_
        simp only [List.take_succ_cons, List.take_zero, List.drop_succ_cons, List.drop_zero]
        repeat (go_big_quiet_step (fail))
        refine wpQuiet_nil ?_
        gi_wp2_with (refine ⟨trivial, ?_⟩; gi_at_call 42; ((with_reducible refine (CallsIn.inRound lp (callsIn_wide.2 CL.out)).mono ?_); rintro e7 W7 ⟨c3, last3, G3, rfl, hM3, hG3, hc3, hcl3, hll3, hlm3, hS3⟩; have hB7 : Boxed W7 Y.heap.size 3 (.int .i64 (c2 : Int)) := (hS3.block _ HR6.out.lt (hnC _ (by omega))).trans HR6.out; have hcell7 := hB7.cell; have hfr7 := hB7.frozen; have HB7 := Lib.hid hB7; have HM3 := Lib.hid hM3; have HG3 := Lib.hid hG3; have HC3 := Lib.hid hc3; have HS3 := Lib.hid hS3; clear hM3 hG3 hc3 hS3 hB7))
        exact crow_step (cs := cs) hzm (by omega) (by omega) (by omega) (fun D hD => by have := hMk.out D hD; omega) hsq (by omega) HR2.out HR3.out r4 r44 HR7.out HA0.out HA1.out HA2.out HA5.out HA6.out HM3.out HG3.out (by rw [← HCZ.out]; exact HC3.out) hcl3 hll3 hlm3 HB7.out ⟨HS3.out.os, HS3.out.tape, HS3.out.output, HS3.out.size, HS3.out.block⟩
      case done =>
        rintro D pr W hDge hcm ⟨⟨F2, G2, last2, c2, r1, r2, r3, r4, r44, r5, r6, r7⟩, a0, a1, a2, ⟨a5, a55⟩, a6⟩ hmark
        have HR1 := Lib.hid r1
        have HR2 := Lib.hid r2
        have HR3 := Lib.hid r3
        have HR7 := Lib.hid r7
        have HA0 := Lib.hid a0
        have HA1 := Lib.hid a1
        have HA2 := Lib.hid a2
        have HA5 := Lib.hid a5
        have HA55 := Lib.hid a55
        have HMKD := Lib.hid hmark
        have HCMM := Lib.hid hcm
        have HDG := Lib.hid hDge
        have y1 : W.cell? ⟨Y.heap.size, 0, none⟩ = some (.int .i64 (c2 : Int)) := r6.cell
        have y2 : W.cell? ⟨q + 1, 0, none⟩ = some (.slice (some ⟨q, 0, none⟩) n n) := by simp [World.cell?, a1]
        have y3 := a0.cell (j := k) hlt
        have y4 := a0.frozen k
        have hlen : pr.length = (partsE x).length := by rw [← hcm, List.length_map]
        clear r1 r2 r3 r6 r7 a0 a1 a2 a5 a55 a6 hmark hcm hDge
        dsimp only
        gi_wp2
        have hnx := cinv_next (w := w) (D := D) (Ds := Ds) hA.out HX.out hlt hplen.out hsq (by omega) HF1.out HG1.out hl1 HCS.out HCL.out HR1.out HR2.out HR3.out (by rw [← hlen]; exact r4) r44 r5 (by rw [← HCMM.out, List.map_map]; exact HR7.out) HA0.out HA1.out HA2.out HA5.out HA55.out (fun h => by have := hMk.out D h; have := HDG.out; omega) (by have := HDG.out; omega) HMKD.out
        refine ⟨⟨k + 1, D :: Ds, _, _, _, _, _, _, _, _, _, _, _, _, _, _, _, _, _, _, _, _, _, _, _, _, _, _, _, _, _, _, _, _, _, _, _, _, _, rfl, by first | exact hnx | exact ⟨hnx.1, hnx.2⟩⟩, ?_⟩
        show n - ((k : Int) + 1).toNat < n - (k : Int).toNat
        omega
      case stop =>
        rintro D c pre W _ _ h _
        exact h.elim
    · have hkn : k = n := by omega
      subst hkn
      have hge2 : ¬ (k : Int) < (k : Int) := by omega
      have hlt2 := HCS.out
      rw [List.take_of_length_le (by rw [hn.out]; exact Nat.le_refl _)] at hlt2
      have FIN : Hid (∀ w', Below (q + 2) wr w' → ∃ (cs : List Nat) (F G : Value → Option Nat) (last q1 : Nat), Ending.returned (.slice (some ⟨q, 0, none⟩) k k) = .returned (.slice (some ⟨q1, 0, none⟩) k k) ∧ w.heap.size ≤ q1 ∧ RowN w' q1 k (fun j => cs.getD j 0) ∧ ClsAll F G l cs ∧ ExtF F0 F ∧ ExtF G0 G ∧ CMem w' s last F G ∧ last ≤ last0 + 300000 ∧ StaysBut s w w') := Lib.hid fun w' hb =>
        ⟨cs, F, G, last, q, rfl, by omega, HR.out.same (hb.block q (by omega)), hlt2, HF1.out, HG1.out, HM1.out.same (fun j _ hj => hb.block j (by omega)), by omega, ⟨hb.os.trans HW.out.os, hb.tape.trans HW.out.tape, hb.output.trans HW.out.output, Nat.le_trans HW.out.size hb.size, fun j hj hm => (hb.block j (by omega)).trans (HW.out.block j hj hm)⟩⟩
      clear hlt2
      gi_wp2
      refine leaves_list (v := .slice (some ⟨q, 0, none⟩) k k) ?_ (q + 2) Ds wr HMK.out (by omega) fun w' hb => by
        obtain ⟨cs', F', G', last', q1, e1, e2, e3, e4, e5, e6, e7, e8, e9⟩ := FIN.out w' hb
        exact ⟨cs', F', G', last', q1, e1, by omega, by first | exact e3 | (simpa only [List.getD_eq_getElem?_getD] using e3), e4, e5, e6, e7, e8, e9⟩
      exact fun w => results_tmp (t := 5) (by kernel_rfl) _ _ _
end
section
open Go.RowKit Go.Shelf

theorem run_store_func (P : Program) (w : World) (a : Addr) (fn : Fn) (first : Array Value) (caps : Array Value) (m : Mode) : (store a (.func fn first caps) m).run P w = stored P w a (.func fn first caps) m := run_store P w a _ m rfl
attribute [local go_sem] Oper.semAt_some run_store_func

/-- classifier's answer -/
def clsV (s : Nat) : Value := .func (.func 40) #[] #[.pointer (some ⟨s + 2, 0, none⟩), .pointer (some ⟨s + 5, 0, none⟩), .pointer (some ⟨s + 3, 0, none⟩)]
theorem cmem_new (w : World) : CMem ((((((w.alloc (.map #[] 0)).alloc (.map #[] 0)).alloc (.cells #[.map (some w.heap.size)] 73)).alloc (.cells #[.map (some (w.heap.size + 1))] 74)).alloc (.cells #[.int .i64 0] 3)).alloc (.cells #[nextV (w.heap.size + 4)] 75)) w.heap.size 0 (fun _ => none) (fun _ => none) ∧
    Below w.heap.size w ((((((w.alloc (.map #[] 0)).alloc (.map #[] 0)).alloc (.cells #[.map (some w.heap.size)] 73)).alloc (.cells #[.map (some (w.heap.size + 1))] 74)).alloc (.cells #[.int .i64 0] 3)).alloc (.cells #[nextV (w.heap.size + 4)] 75)) := by
  obtain ⟨W1, h1⟩ : ∃ W1, W1 = w.alloc (.map #[] 0) := ⟨_, rfl⟩
  obtain ⟨W2, h2⟩ : ∃ W2, W2 = W1.alloc (.map #[] 0) := ⟨_, rfl⟩
  obtain ⟨W3, h3⟩ : ∃ W3, W3 = W2.alloc (.cells #[.map (some w.heap.size)] 73) := ⟨_, rfl⟩
  obtain ⟨W4, h4⟩ : ∃ W4, W4 = W3.alloc (.cells #[.map (some (w.heap.size + 1))] 74) := ⟨_, rfl⟩
  obtain ⟨W5, h5⟩ : ∃ W5, W5 = W4.alloc (.cells #[.int .i64 0] 3) := ⟨_, rfl⟩
  obtain ⟨W6, h6⟩ : ∃ W6, W6 = W5.alloc (.cells #[nextV (w.heap.size + 4)] 75) := ⟨_, rfl⟩
  have z1 : W1.heap.size = w.heap.size + 1 := by rw [h1, World.size_alloc]
  have z2 : W2.heap.size = w.heap.size + 2 := by rw [h2, World.size_alloc, z1]
  have z3 : W3.heap.size = w.heap.size + 3 := by rw [h3, World.size_alloc, z2]
  have z4 : W4.heap.size = w.heap.size + 4 := by rw [h4, World.size_alloc, z3]
  have z5 : W5.heap.size = w.heap.size + 5 := by rw [h5, World.size_alloc, z4]
  have b6 : ∀ k, k < W5.heap.size → W6.heap[k]? = W5.heap[k]? := fun k hk => by rw [h6]; exact heap_old _ _ _ hk
  have b5 : ∀ k, k < W4.heap.size → W5.heap[k]? = W4.heap[k]? := fun k hk => by rw [h5]; exact heap_old _ _ _ hk
  have b4 : ∀ k, k < W3.heap.size → W4.heap[k]? = W3.heap[k]? := fun k hk => by rw [h4]; exact heap_old _ _ _ hk
  have b3 : ∀ k, k < W2.heap.size → W3.heap[k]? = W2.heap[k]? := fun k hk => by rw [h3]; exact heap_old _ _ _ hk
  have b2 : ∀ k, k < W1.heap.size → W2.heap[k]? = W1.heap[k]? := fun k hk => by rw [h2]; exact heap_old _ _ _ hk
  have n1 := mapFn_made 78 w
  have n2 := mapFn_made 81 W1
  have n3 : W3.heap[w.heap.size + 2]? = some (.cells #[.map (some w.heap.size)] 73 (0, 0)) := by rw [h3, ← z2]; exact World.alloc_heap_new W2 _
  have n4 : W4.heap[w.heap.size + 3]? = some (.cells #[.map (some (w.heap.size + 1))] 74 (0, 0)) := by rw [h4, ← z3]; exact World.alloc_heap_new W3 _
  have n5 : W5.heap[w.heap.size + 4]? = some (.cells #[.int .i64 0] 3 (0, 0)) := by rw [h5, ← z4]; exact World.alloc_heap_new W4 _
  have n6 : W6.heap[w.heap.size + 5]? = some (.cells #[nextV (w.heap.size + 4)] 75 (0, 0)) := by rw [h6, ← z5]; exact World.alloc_heap_new W5 _
  have hb : Below w.heap.size w W6 := by
    rw [h6, h5, h4, h3, h2, h1]
    exact below_al (below_al (below_al (below_al (below_al (below_al (Below.refl _ w) _) _) _) _) _) _
  rw [← h1] at n1
  rw [← h2, z1] at n2
  rw [← h1, ← h2, ← h3, ← h4, ← h5, ← h6]
  refine ⟨⟨⟨0, Nat.le_refl _, n1.same ?_⟩, ⟨0, Nat.le_refl _, n2.same ?_⟩, ?_, ?_, ?_, n6, good_start⟩, hb⟩
  · rw [b6 _ (by omega), b5 _ (by omega), b4 _ (by omega), b3 _ (by omega), b2 _ (by omega)]
  · rw [b6 _ (by omega), b5 _ (by omega), b4 _ (by omega), b3 _ (by omega)]
  · rw [b6 _ (by omega), b5 _ (by omega), b4 _ (by omega)]; exact n3
  · rw [b6 _ (by omega), b5 _ (by omega)]; exact n4
  · show W6.heap[w.heap.size + 4]? = _
    rw [b6 _ (by omega)]; exact n5
set_option maxHeartbeats 4000000 in
theorem classifier_any (w : World) : Calls Try.prog 19 #[] w fun r Y => r = .returned (clsV w.heap.size) ∧ CMem Y w.heap.size 0 (fun _ => none) (fun _ => none) ∧ Below w.heap.size w Y := by
  have hfin := Lib.hid (cmem_new w)
  unfold nextV at hfin
  have hmm := @run_makeMap Try.prog
  go_enter Try.func19, Try.ntmps19
  go_wp2_with (fail)
  exact ⟨rfl, _, results_tmp (t := 0) (by kernel_rfl) _ _ _, rfl, hfin.out⟩
end
end Go.Proofs.Ytiilgehdkanmnaa
