/- tree's walk: the tree of an expression, each number as it is met. -/
import Derived.Test.YtcgkgobkchgdhaaTreeParts
import Derived.Test.YtcgkgobkchgdhaaRangeT
import Derived.Test.YtcgkgobkchgdhaaMet
import Derived.Shelf.RegionOpen
namespace Go.Proofs.Ytcgkgobkchgdhaa
open Go.RowKit Go.Shelf

attribute [local go_sem] Oper.semAt_some

/-- the boxes of the walk: yield's at s0, more's, its own -/
structure TreeMem (M : Nat → Prop) (rw : World → Option Nat) (w : World) (s0 b0 lp : Nat) (more : Bool) (X : World) : Prop where
  hs0 : w.heap.size ≤ s0
  size : s0 + 3 ≤ X.heap.size
  base : ∀ k, k < w.heap.size → ¬ M k → rw w ≠ some k → X.heap[k]? = w.heap[k]?
  rown : RowNew rw w (s0 + 3) X
  rlt : ∀ k, rw X = some k → k < X.heap.size
  yb : Boxed X s0 77 (.func (.yield lp) #[] #[])
  mb : Boxed X (s0 + 1) 4 (.bool more)
  wb : Boxed X (s0 + 2) 77 (walkV s0 (s0 + 1) b0 (s0 + 2))
namespace TreeMem
variable {M : Nat → Prop} {rw : World → Option Nat} {w : World} {s0 b0 lp : Nat} {more : Bool} {X Y : World}
theorem low (h : TreeMem M rw w s0 b0 lp more X) {k : Nat} (hk : k < s0 + 3) (hr : rw w ≠ some k) : rw X ≠ some k := fun e => by
  rcases h.rown k e with h1 | h1
  · exact hr h1
  · omega
theorem box (h : TreeMem M rw w s0 b0 lp more X) (ha : Aside M rw w) {k : Nat} (h1 : s0 ≤ k) (h2 : k < s0 + 3) : rw X ≠ some k := h.low h2 fun e => by
  have := ha.row k e; have := h.hs0; omega
theorem keep (h : TreeMem M rw w s0 b0 lp more X) (ha : Aside M rw w) (hk : KeepM M rw w.heap.size X Y) : TreeMem M rw w s0 b0 lp more Y := by
  have hs := h.hs0
  have hz := h.size
  have own : ∀ k o, s0 ≤ k → k < s0 + 3 → X.heap[k]? = some o → o.isCells = true → Y.heap[k]? = some o := fun k o h1 h2 ho hc =>
    (hk.2.1 k (by omega) (fun hM => by have := ha.old k hM; omega) (h.box ha h1 h2) (.inr ⟨o, ho, hc⟩)).trans ho
  refine ⟨hs, Nat.le_trans hz hk.1, fun k hkw hM hr => ?_, h.rown.keep hz hk, fun k e => ?_, own _ _ (by omega) (by omega) h.yb rfl, own _ _ (by omega) (by omega) h.mb rfl, own _ _ (by omega) (by omega) h.wb rfl⟩
  · exact (hk.2.1 k (by omega) hM (h.low (by omega) hr) (.inl hkw)).trans (h.base k hkw hM hr)
  · rcases hk.2.2 k e with h1 | h1
    · exact Nat.lt_of_lt_of_le (h.rlt k h1) hk.1
    · exact h1.2
theorem same (h : TreeMem M rw w s0 b0 lp more X) (ha : Aside M rw w) (hs : X.heap.size ≤ Y.heap.size) (hb : ∀ k, k < X.heap.size → Y.heap[k]? = X.heap[k]?) : TreeMem M rw w s0 b0 lp more Y := by
  have hz := h.size
  have h0 := h.hs0
  have hrw : rw Y = rw X := ha.same X Y fun k hk => hb k (by omega)
  refine ⟨h0, by omega, fun k hkw hM hr => (hb k (by omega)).trans (h.base k hkw hM hr), fun k e => h.rown k (by rw [← hrw]; exact e), fun k e => ?_, (hb _ (by omega)).trans h.yb, (hb _ (by omega)).trans h.mb, (hb _ (by omega)).trans h.wb⟩
  rw [hrw] at e
  exact Nat.lt_of_lt_of_le (h.rlt k e) hs
theorem set (h : TreeMem M rw w s0 b0 lp more X) (ha : Aside M rw w) (b' : Bool) : TreeMem M rw w s0 b0 lp b' (X.setCell ⟨s0 + 1, 0, none⟩ (.bool b')) := by
  have hz := h.size
  have h0 := h.hs0
  have hg := grownBy_setCell' X (s0 + 1) (.bool b')
  have hb : ∀ k, k ≠ s0 + 1 → (X.setCell ⟨s0 + 1, 0, none⟩ (.bool b')).heap[k]? = X.heap[k]? := fun k hk => set_other X (s0 + 1) k 0 _ hk
  have hrw : rw (X.setCell ⟨s0 + 1, 0, none⟩ (.bool b')) = rw X := ha.same _ _ fun k hk => hb k (by omega)
  refine ⟨h0, Nat.le_trans hz hg.size, fun k hkw hM hr => (hb k (by omega)).trans (h.base k hkw hM hr), fun k e => h.rown k (by rw [← hrw]; exact e), fun k e => ?_, (hb _ (by omega)).trans h.yb, h.mb.set _, (hb _ (by omega)).trans h.wb⟩
  rw [hrw] at e
  exact Nat.lt_of_lt_of_le (h.rlt k e) hg.size
end TreeMem
/-- what the walk may write: what the range's body may, and more's box -/
def AndBox (M : Nat → Prop) (s0 : Nat) (k : Nat) : Prop := M k ∨ k = s0 + 1
theorem keepM_and {M : Nat → Prop} {rw : World → Option Nat} {n s0 : Nat} {X Y : World} (h : KeepM M rw n X Y) : KeepM (AndBox M s0) rw n X Y := ⟨h.1, fun k hk hM => h.2.1 k hk fun h => hM (.inl h), h.2.2⟩
theorem keepM_same {M : Nat → Prop} {rw : World → Option Nat} {n : Nat} {X Y : World} (hs : X.heap.size ≤ Y.heap.size) (hb : ∀ k, k < X.heap.size → Y.heap[k]? = X.heap[k]?) (hr : rw Y = rw X) : KeepM M rw n X Y := ⟨hs, fun k hk _ _ _ => hb k hk, fun k e => .inl (by rw [← hr]; exact e)⟩
theorem keepM_set {M : Nat → Prop} {rw : World → Option Nat} {n s0 : Nat} {X : World} {v : Value} (hr : rw (X.setCell ⟨s0 + 1, 0, none⟩ v) = rw X) : KeepM (AndBox M s0) rw n X (X.setCell ⟨s0 + 1, 0, none⟩ v) :=
  ⟨(grownBy_setCell' X (s0 + 1) v).size, fun k _ hM _ _ => set_other X (s0 + 1) k 0 v fun e => hM (.inr e), fun k e => .inl (by rw [← hr]; exact e)⟩
theorem roundIn_wide {n n' : Nat} {P : Program} {l : Nat} {f : FuncId} {tmps : Array Value} {assign body : Code} {w : World} {R : Ending → World → Prop} (h : RoundIn Fence.wide n P l f tmps assign body w R) : RoundIn Fence.wide n' P l f tmps assign body w R :=
  ⟨h.1, fun c cs _ => h.2 c cs (room_wide _)⟩
theorem yieldAt_wide {n n' : Nat} {P : Program} {l : Nat} {args : Array Value} {W : World} {R : Ending → World → Prop} (h : YieldAt Fence.wide n P l args W R) : YieldAt Fence.wide n' P l args W R := by
  obtain ⟨fn, tmps, assign, body, hy, hR⟩ := h
  exact ⟨fn, tmps, assign, body, hy, roundIn_wide hR⟩
/-- how the walk ends -/
def WalkPost (M : Nat → Prop) (rw : World → Option Nat) (w : World) (s0 b0 lp E : Nat) (p : Pr) (J Jx : List {z : Nat // z ≤ E} → World → Prop) (e : Nat) (pre : List {z : Nat // z ≤ E}) (X : World) (r : Ending) (Y : World) : Prop :=
  (r = .returned (.bool true) ∧ (∃ T : List {z : Nat // z ≤ E}, T.map (·.1) = tree p e ∧ J (pre ++ T) Y) ∧ TreeMem M rw w s0 b0 lp true Y ∧ KeepM (AndBox M s0) rw w.heap.size X Y) ∨
  (r = .returned (.bool false) ∧ (∃ T : List {z : Nat // z ≤ E}, T.map (·.1) <+: tree p e ∧ Jx (pre ++ T) Y) ∧ TreeMem M rw w s0 b0 lp false Y)
set_option maxHeartbeats 8000000 in
set_option maxRecDepth 100000 in
theorem walk_any (p : Pr) (o1 : Option Addr) (m dcap b off cap nn : Nat) (hnn : Hid (p.exprs.length = nn)) (nl : (nn : Int) ≤ 300) (hm : Hid (mayP p = true)) (w0 w : World) (E : Nat) (hE : E < nn) (M : Nat → Prop) (rw : World → Option Nat) (hA : Hid (Aside M rw w))
    (hlow : Hid (∀ k, (M k ∨ rw w = some k) → w0.heap.size ≤ k)) (hw0 : Hid (Below w0.heap.size w0 w)) (hc : Hid (∀ i, i < nn → ∀ x, p.exprs[i]? = some x → ExAt w0 b (off + i * 9) x)) (b0 : Nat) (hB : Hid (Still M rw w b0))
    (hBc : Hid (w.heap[b0]? = some (.cells #[.slice o1 m dcap, .slice (some ⟨b, off, none⟩) nn cap] 25 (0, 0)))) (s0 lp : Nat) (J Jx : List {z : Nat // z ≤ E} → World → Prop)
    (hJ : Hid (AbidesW (fun X k => rw X = some k) s0 J)) (hJx : Hid (AbidesW (fun X k => rw X = some k) s0 Jx))
    (hY : Hid (∀ pre (z : {z : Nat // z ≤ E}) W1, J pre W1 → YieldAt Fence.wide 4 Try.prog lp #[.int .i64 (z.1 : Int)] W1 fun r W' =>
      (r = .returned (.bool true) ∧ J (pre ++ [z]) W' ∧ KeepM M rw w.heap.size W1 W') ∨ (r = .returned (.bool false) ∧ Jx (pre ++ [z]) W' ∧ KeepM M rw w.heap.size W1 W'))) :
    ∀ e : Nat, e ≤ E → ∀ (pre : List {z : Nat // z ≤ E}) (X : World), J pre X → TreeMem M rw w s0 b0 lp true X →
      CallsIn Fence.wide 5 Try.prog 53 #[.int .i64 (e : Int), .pointer (some ⟨s0, 0, none⟩), .pointer (some ⟨s0 + 1, 0, none⟩), .pointer (some ⟨b0, 0, none⟩), .pointer (some ⟨s0 + 2, 0, none⟩)] X fun r Y => WalkPost M rw w s0 b0 lp E p J Jx e pre X r Y := by
  intro e
  induction e using Nat.strongRecOn with
  | _ e ih =>
  intro he pre X hJ0 hT0
  have y1 := hT0.yb.cell
  have f1 := hT0.mb.frozen
  have c1 := hT0.mb.cell
  obtain ⟨fn, tmps, assign, body, hy, hR⟩ := hY.out pre ⟨e, he⟩ X hJ0
  have hy' : (Instr.yield lp #[.int .i64 (e : Int)]).run Try.prog X = .ok (.round lp fn tmps assign body) X := hy
  have HR := Lib.hid hR
  have HT := Lib.hid hT0
  have IH := Lib.hid ih
  clear hy hR hT0 ih
  refine callsIn_of_wp Try.func53 rfl trivial ?_ rfl
  simp only [Try.ntmps53, List.size_toArray, List.length_cons, List.length_nil, Nat.reduceAdd, Nat.reduceSub, Array.replicate_succ, Array.replicate_zero, List.push_toArray, List.append_toArray, List.nil_append, List.cons_append]
  gi_wp2
  refine HR.out.mono ?_
  rintro r W3 (⟨rfl, hJ3, hk3⟩ | ⟨rfl, hJx3, hk3⟩)
  · have hT3 := HT.out.keep hA.out hk3
    have m3 := hT3.mb.cell
    have mf3 := hT3.mb.frozen
    have hT4 := hT3.set hA.out true
    have m4 := hT4.mb.cell
    have hin : ∀ k, k < w0.heap.size → (W3.setCell ⟨s0 + 1, 0, none⟩ (.bool true)).heap[k]? = w0.heap[k]? := fun k hk => by
      have hno : ¬ (M k ∨ rw w = some k) := fun h => by have := hlow.out k h; omega
      exact (hT4.base k (Nat.lt_of_lt_of_le hk hw0.out.size) (fun h => hno (.inl h)) (fun h => hno (.inr h))).trans (hw0.out.block k hk)
    have hbx := (hT4.base b0 hB.out.1 hB.out.2.1 hB.out.2.2).trans hBc.out
    have p1 : (W3.setCell ⟨s0 + 1, 0, none⟩ (.bool true)).cell? ⟨b0, 1, none⟩ = some (.slice (some ⟨b, off, none⟩) nn cap) := by simp only [World.cell?, hbx]; rfl
    obtain ⟨x, hxk⟩ : ∃ x, p.exprs[e]? = some x := ⟨_, List.getElem?_eq_getElem (by have := hnn.out; omega)⟩
    obtain ⟨sx, d0, d1, d2, d3, d4, d5, d6, d7, d8, ha, hok⟩ := hc.out e (by omega) x hxk
    have up : ∀ {j : Nat} {u : Value}, w0.cell? ⟨b, j, none⟩ = some u → (W3.setCell ⟨s0 + 1, 0, none⟩ (.bool true)).cell? ⟨b, j, none⟩ = some u := fun h => (cell_same' (hin b (World.block_lt_of_cell? _ _ h)) _).trans h
    have e0 := up d0
    have e1 := up d1
    have e2 := up d2
    have e3 := up d3
    have e4 := up d4
    have e5 := up d5
    have e6 := up d6
    have e7 := up d7
    have e8 := up d8
    clear up d0 d1 d2 d3 d4 d5 d6 d7 d8
    have ix := ix_exs (cap := cap) (o := some ⟨b, off, none⟩) (n := nn) (b := b) (off := off) (fun _ => rfl) (show e < nn by omega) (by omega)
    unfold Ix at ix
    obtain ⟨W4, hW4⟩ : ∃ W4, W4 = (W3.setCell ⟨s0 + 1, 0, none⟩ (.bool true)) := ⟨_, rfl⟩
    obtain ⟨W5, hW5⟩ : ∃ W5, W5 = W4.drew.alloc (.cells (exCells x sx) 31) := ⟨_, rfl⟩
    have hg4 : W3.grownBy W4 (some (s0 + 1)) := by rw [hW4]; exact grownBy_setCell' W3 (s0 + 1) _
    rw [← hW4] at hT4 m4 hin p1 e0 e1 e2 e3 e4 e5 e6 e7 e8
    have hb5 : Below W4.heap.size W4 W5 := by rw [hW5]; exact (Below.refl W4.heap.size W4.drew).alloc (Nat.le_refl _) _ |> fun h => ⟨h.os, h.tape, h.output, h.size, h.block⟩
    have hx5 : W5.heap[W4.heap.size]? = some (.cells (exCells x sx) 31 (0, 0)) := by rw [hW5]; exact World.alloc_heap_new W4.drew _
    have hT5 := hT4.same hA.out hb5.size hb5.block
    have hr5 : rw W5 = rw W4 := hA.out.same _ _ fun k hk => hb5.block k (by have := hT4.size; have := hT4.hs0; omega)
    have hr4 : rw W4 = rw W3 := by rw [hW4]; exact hA.out.same _ _ fun k hk => set_other W3 (s0 + 1) k 0 _ (by have := hT4.hs0; omega)
    have hK4 : KeepM (AndBox M s0) rw w.heap.size W3 W4 := by rw [hW4]; exact keepM_set (by rw [← hW4]; exact hr4)
    have hK5 : KeepM (AndBox M s0) rw w.heap.size X W5 := ((keepM_and hk3).trans hK4).trans (keepM_same hb5.size hb5.block hr5)
    have hJ5 : J (pre ++ [⟨e, he⟩]) W5 := by
      have h4 : J (pre ++ [⟨e, he⟩]) W4 := hJ.out _ W3 W4 _ hJ3 hg4 fun r hr => by
        cases hr
        exact ⟨by omega, _, hT3.mb, .inr (hT3.box hA.out (by omega) (by omega))⟩
      exact hJ.out _ W4 W5 none h4 ⟨hb5.os, hb5.tape, hb5.output, hb5.size, fun k hk _ => hb5.block k hk⟩ (fun r hr => by cases hr)
    have hpn : partsN p e = (partsE x).map Int.toNat := by unfold partsN; rw [hxk]
    have hte : tree p e = e :: ((partsE x).map Int.toNat).flatMap (tree p) := by rw [tree_eq (ahead_of hm.out) e, hpn]
    have hmp := may_part hm.out hxk
    have CPF : Hid (Calls Try.prog 49 #[walkV s0 (s0 + 1) b0 (s0 + 2), .pointer (some ⟨W4.heap.size, 0, none⟩)] W5 fun r Y => (∃ v, r = .returned v) ∧ ∃ bb : Bool, Y.cell? ⟨s0 + 1, 0, none⟩ = some (.bool bb) ∧ Hid (WalkPost M rw w s0 b0 lp E p J Jx e pre X (.returned (.bool bb)) Y)) := Lib.hid (by
      have hz4 := hT4.size
      have hz0 := hT4.hs0
      refine (callsIn_wide.1 (partsFn_any 5 (by decide) x W4.heap.size (AndBox M s0) rw W5 ⟨fun k hk => ?_, hT5.rlt, fun W' hW' => hA.out.same _ _ fun k hk => hW'.block k (by have := hT5.size; omega)⟩
        (srcs_at ha hok (fun k hk => (hb5.block k (by have := hw0.out.size; omega)).trans (hin k hk)) hx5 (fun k hk => ?_) (fun hk => ?_)) s0 (s0 + 1) b0 (s0 + 2) w.heap.size
        (fun ys Z => ∃ T : List {z : Nat // z ≤ E}, T.map (·.1) = e :: (ys.map fun q => q.1.toNat).flatMap (tree p) ∧ J (pre ++ T) Z ∧ TreeMem M rw w s0 b0 lp true Z ∧ KeepM (AndBox M s0) rw w.heap.size X Z)
        (fun ys Z => ∃ T : List {z : Nat // z ≤ E}, T.map (·.1) <+: e :: (ys.map fun q => q.1.toNat).flatMap (tree p) ∧ Jx (pre ++ T) Z ∧ TreeMem M rw w s0 b0 lp false Z)
        W5 (Below.refl _ _) ?_ ?_ ⟨[⟨e, he⟩], rfl, hJ5, hT5, hK5⟩)).mono ?_
      · rcases hk with hk | hk
        · have := hA.out.old k hk; have := hT5.size; omega
        · have := hT5.size; omega
      · rcases hk with (hk | hk) | hk
        · exact hlow.out k (.inl hk)
        · have := hw0.out.size; omega
        · rcases hT5.rown k hk with h1 | h1
          · exact hlow.out k (.inr h1)
          · have := hw0.out.size; omega
      · rcases hk with (hk | hk) | hk
        · have := hA.out.old _ hk; omega
        · omega
        · rw [hr5] at hk; have := hT4.rlt _ hk; omega
      · rintro ys Z1 Z2 ⟨T, h1, h2, h3, h4⟩ hg
        have hbl : ∀ k, k < Z1.heap.size → Z2.heap[k]? = Z1.heap[k]? := fun k hk => hg.block k hk (by simp)
        exact ⟨T, h1, hJ.out _ Z1 Z2 none h2 hg (fun r hr => by cases hr), h3.same hA.out hg.size hbl, h4.trans (keepM_same hg.size hbl (hA.out.same _ _ fun k hk => hbl k (by have := h3.size; omega)))⟩
      · rintro ys q Z1 ⟨T, h1, h2, h3, h4⟩ _
        obtain ⟨q0, q1⟩ := hmp q.1 q.2
        have hq : ((q.1.toNat : Nat) : Int) = q.1 := Int.toNat_of_nonneg q0
        have := IH.out q.1.toNat (by omega) (by omega) (pre ++ T) Z1 h2 h3
        rw [hq] at this
        refine callsIn_wide.2 ((callsIn_wide.1 this).mono fun r Y hr => ?_)
        rcases hr with ⟨rfl, ⟨T', t1, t2⟩, t3, t4⟩ | ⟨rfl, ⟨T', t1, t2⟩, t3⟩
        · refine .inl ⟨rfl, ⟨T ++ T', ?_, by rw [← List.append_assoc]; exact t2, t3, h4.trans t4⟩, t4⟩
          rw [List.map_append, h1, t1, List.map_append, List.flatMap_append]
          simp
        · refine .inr ⟨rfl, T ++ T', ?_, by rw [← List.append_assoc]; exact t2, t3⟩
          rw [List.map_append, h1, List.map_append, List.flatMap_append, List.cons_append]
          obtain ⟨r', hr'⟩ := t1
          exact ⟨r', by simp [← hr']⟩
      · rintro r Y ⟨hv, ⟨ys, hys, T, t1, t2, t3, t4⟩ | ⟨ys, hys, T, t1, t2, t3⟩⟩
        · refine ⟨hv, true, t3.mb.cell, Lib.hid (.inl ⟨rfl, ⟨T, ?_, t2⟩, t3, t4⟩)⟩
          rw [t1, hte]
          have h2 := congrArg (List.map Int.toNat) hys
          rw [List.map_map] at h2
          exact congrArg (fun l => e :: l.flatMap (tree p)) h2
        · refine ⟨hv, false, t3.mb.cell, Lib.hid (.inr ⟨rfl, ⟨T, ?_, t2⟩, t3⟩)⟩
          refine t1.trans ?_
          rw [hte]
          obtain ⟨r', hr'⟩ := hys
          refine ⟨(r'.map Int.toNat).flatMap (tree p), ?_⟩
          have h2 := congrArg (List.map Int.toNat) hr'
          rw [List.map_append, List.map_map] at h2
          have h3 := congrArg (fun l => e :: l.flatMap (tree p)) h2
          simp only [List.flatMap_append] at h3
          exact h3)
    have w4 := hT4.wb.cell
    have w5 := hT5.wb.cell
    rw [hW5] at w5 CPF
    unfold exCells at w5 CPF
    unfold walkV at w4 w5 CPF
    clear hte hpn hx5 hg4 hr5 hr4 hK4 hK5 hJ5 hb5 hT5 hT4 hT3 hJ3 hk3 hin hmp ha
    have p2 := p1
    have ew := e0
    rw [hW4] at m4
    clear hW5
    clear p2 ew
    gi_wp2_with (fail)
    rw [← hW4]
    clear hW4 m4 m3 mf3 y1 f1 c1
    have cpa := parts_any x.kind x.a x.b x.c x.v x.pos x.name x.state sx W4.drew
    unfold partsV at cpa
    have CPA := Lib.hid cpa
    clear cpa
    have mo : Try.prog.follows .mixedOrders = true := by kernel_rfl
    have w6 := w5
    rw [World.alloc_drew] at w6
    gi_region_with_o (first
      | (refine ⟨trivial, ?_⟩; gi_at_call 25; refine (callsIn_wide.2 CPA.out).mono ?_; rintro e' w6 ⟨rfl, rfl⟩)
      | (refine ⟨trivial, ?_⟩; gi_at_call 49; refine (callsIn_wide.2 CPF.out).mono ?_; rintro e' Y ⟨⟨v, rfl⟩, bb, cm, hP⟩))
    all_goals (gi_wp2; exact ⟨rfl, _, results_tmp (t := 6) (by kernel_rfl) _ _ _, hP.out⟩)
  · have hT3 := HT.out.keep hA.out hk3
    have m3 := hT3.mb.cell
    have mf3 := hT3.mb.frozen
    have hT4 := hT3.set hA.out false
    have m4 := hT4.mb.cell
    have hg4 := grownBy_setCell' W3 (s0 + 1) (.bool false)
    have fin : Hid (WalkPost M rw w s0 b0 lp E p J Jx e pre X (.returned (.bool false)) (W3.setCell ⟨s0 + 1, 0, none⟩ (.bool false))) := Lib.hid (.inr ⟨rfl, ⟨[⟨e, he⟩], ⟨(partsN p e).flatMap (tree p), by rw [tree_eq (ahead_of hm.out) e]; rfl⟩, hJx.out _ W3 _ _ hJx3 hg4 fun r hr => by
      cases hr
      exact ⟨by omega, _, hT3.mb, .inr (hT3.box hA.out (by omega) (by omega))⟩⟩, hT4⟩)
    clear hT3 hT4 hg4 hJx3 hk3 y1 f1 c1
    gi_wp2
    exact ⟨rfl, _, results_tmp (t := 6) (by kernel_rfl) _ _ _, fin.out⟩
end Go.Proofs.Ytcgkgobkchgdhaa
