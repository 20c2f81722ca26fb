/- Joined: LexIter. -/
import Derived.Test.YtlbhlncipajapaaGreatDoorPe05
import Derived.RangeFuncNested
import Derived.RangeFuncBound
import Derived.RangeFuncCalls
import Derived.RangeFuncLeaves
import Derived.Shelf.Abstract
import Derived.Shelf.RegionOpen
import Derived.OwnWalkIn
import Derived.TacticsInMore
import Derived.LoopNIn
import Derived.LoopIn
namespace Go.Proofs.YtlbhlncipajapaaGreatDoor.Lx
open Go.RowKit Go.Shelf

attribute [local go_sem] Oper.semAt_some

/-- the block of the slice that lies in block B -/
def rowOf (B : Nat) (W : World) : Option Nat := (W.cell? ⟨B, 0, none⟩).bind Value.ownBlock
/-- what a round that goes on keeps: all that lay there but the slice's own cell and row -/
def Keep (B n₁ : Nat) (X Y : World) : Prop := X.heap.size ≤ Y.heap.size ∧
  (∀ k, k < X.heap.size → k ≠ B → rowOf B X ≠ some k → (k < n₁ ∨ ∃ o, X.heap[k]? = some o ∧ o.isCells = true) → Y.heap[k]? = X.heap[k]?) ∧
  (∀ k, rowOf B Y = some k → rowOf B X = some k ∨ (X.heap.size ≤ k ∧ k < Y.heap.size))
theorem Keep.trans {B n₁ : Nat} {X Y Z : World} (h : Keep B n₁ X Y) (k : Keep B n₁ Y Z) : Keep B n₁ X Z := by
  refine ⟨Nat.le_trans h.1 k.1, fun j hj hB hr hc => ?_, fun j hj => ?_⟩
  · have e := h.2.1 j hj hB hr hc
    refine (k.2.1 j (Nat.lt_of_lt_of_le hj h.1) hB (fun hh => ?_) ?_).trans e
    · rcases h.2.2 j hh with h1 | h1
      · exact hr h1
      · omega
    · rcases hc with h1 | ⟨o, h1, h2⟩
      · exact .inl h1
      · exact .inr ⟨o, e.trans h1, h2⟩
  · rcases k.2.2 j hj with h1 | h1
    · rcases h.2.2 j h1 with h2 | h2
      · exact .inl h2
      · exact .inr ⟨h2.1, Nat.lt_of_lt_of_le h2.2 k.1⟩
    · exact .inr ⟨Nat.le_trans h.1 h1.1, h1.2⟩
/-- since the iterator was made: nothing has turned but that slice, whose row is new -/
def Held (B : Nat) (w W : World) : Prop := w.heap.size ≤ W.heap.size ∧ (∀ k, k < w.heap.size → k ≠ B → W.heap[k]? = w.heap[k]?) ∧ (∀ k, rowOf B W = some k → w.heap.size ≤ k ∧ k < W.heap.size)
theorem rowOf_same {B : Nat} {X Y : World} (h : Y.heap[B]? = X.heap[B]?) : rowOf B Y = rowOf B X := by unfold rowOf; rw [cell_same h]
theorem Held.below {B : Nat} {w X Y : World} (h : Held B w X) (hB : B < w.heap.size) (hb : Below X.heap.size X Y) : Held B w Y := by
  have hBX := Nat.lt_of_lt_of_le hB h.1
  refine ⟨Nat.le_trans h.1 hb.size, fun k hk hn => (hb.block k (Nat.lt_of_lt_of_le hk h.1)).trans (h.2.1 k hk hn), fun k hk => ?_⟩
  rw [rowOf_same (hb.block B hBX)] at hk
  have := h.2.2 k hk
  exact ⟨this.1, Nat.lt_of_lt_of_le this.2 hb.size⟩
theorem Held.keep {B : Nat} {w X Y : World} (h : Held B w X) (hk : Keep B w.heap.size X Y) : Held B w Y := by
  refine ⟨Nat.le_trans h.1 hk.1, fun k h1 hn => (hk.2.1 k (Nat.lt_of_lt_of_le h1 h.1) hn (fun hh => ?_) (.inl h1)).trans (h.2.1 k h1 hn), fun k h1 => ?_⟩
  · have := (h.2.2 k hh).1; omega
  · rcases hk.2.2 k h1 with h2 | h2
    · have := h.2.2 k h2; exact ⟨this.1, Nat.lt_of_lt_of_le this.2 hk.1⟩
    · exact ⟨Nat.le_trans h.1 h2.1, h2.2⟩
theorem Below.to_grown {w w' : World} (h : Below w.heap.size w w') : w.grownBy w' none := ⟨h.os, h.tape, h.output, h.size, fun k hk _ => h.block k hk⟩
/-- a box laid just now is kept -/
theorem Held.box {B : Nat} {w X Y : World} (h : Held B w X) (hB : B < w.heap.size) (cs : Array Value) (T : TypeId) (hk : Keep B w.heap.size (X.alloc (.cells cs T)) Y) : Y.heap[X.heap.size]? = some (.cells cs T) := by
  have hb : Below X.heap.size X (X.alloc (.cells cs T)) := (Below.refl _ _).alloc (Nat.le_refl _) _
  have hBX := Nat.lt_of_lt_of_le hB h.1
  refine (hk.2.1 X.heap.size (by simp) (by omega) (fun hh => ?_) (.inr ⟨_, World.alloc_heap_new X _, rfl⟩)).trans (World.alloc_heap_new X _)
  rw [rowOf_same (hb.block B hBX)] at hh
  have := (h.2.2 _ hh).2
  omega

/-- the text's end -/
def endT (n : Nat) : Tok := ⟨5, [], 0, n⟩
/-- what the iterator hands on -/
def handed (l : List UInt8) (ts : List Tok) (r : Option Nat) : List Tok := ts ++ [match r with | none => endT l.length | some f => tokAt l f]
/-- the iterator's own cells -/
def Src (g A R : Nat) (l : List UInt8) (b : Nat) (v1 v2 v3 v4 v5 : Value) (w : World) : Prop :=
  g ≤ A ∧ A < w.heap.size ∧ g ≤ R ∧ R < w.heap.size ∧ w.cell? ⟨A, 0, none⟩ = some (.string (str l)) ∧ ReadAt w R (.string (str l)) (.map (some b)) v1 v2 v3 v4 v5 ∧ ReaderFrom g w b v1 v2 v3 v4 v5 ∧ Signs w
theorem ReadAt.same {w w' : World} {g : Nat} {s m v1 v2 v3 v4 v5 : Value} (h : ReadAt w g s m v1 v2 v3 v4 v5) (hb : w'.heap[g]? = w.heap[g]?) : ReadAt w' g s m v1 v2 v3 v4 v5 :=
  ⟨(cell_same hb 0).trans h.1, (cell_same hb 1).trans h.2.1, (cell_same hb 2).trans h.2.2.1, (cell_same hb 3).trans h.2.2.2.1, (cell_same hb 4).trans h.2.2.2.2.1, (cell_same hb 5).trans h.2.2.2.2.2.1, (cell_same hb 6).trans h.2.2.2.2.2.2⟩
theorem Src.held {g A R B : Nat} {l : List UInt8} {b : Nat} {v1 v2 v3 v4 v5 : Value} {w W : World} (h : Src g A R l b v1 v2 v3 v4 v5 w) (hg : B < g) (hs : B ≠ 0) (hh : Held B w W) : Src g A R l b v1 v2 v3 v4 v5 W := by
  obtain ⟨h1, h2, h3, h4, h5, h6, h7, t, fr, h8⟩ := h
  have hS := (Array.getElem?_eq_some_iff.1 h8).1
  exact ⟨h1, Nat.lt_of_lt_of_le h2 hh.1, h3, Nat.lt_of_lt_of_le h4 hh.1, (cell_same (hh.2.1 A h2 (by omega)) 0).trans h5, h6.same (hh.2.1 R h4 (by omega)), h7.kept (fun k hk hl => hh.2.1 k hl (by omega)) hh.1,
    t, fr, (hh.2.1 _ hS (Ne.symm hs)).trans h8⟩
theorem gives_reader {l : List UInt8} {w w' : World} {e : Ending} (h : GivesReader l w e w') : ∃ b k1 l1 k2 l2 k3 l3 k4 l4 k5 l5,
    e = .returned (.agg #[.string (str l), .map (some b), .func (.func k1) #[] l1, .func (.func k2) #[] l2, .func (.func k3) #[] l3, .func (.func k4) #[] l4, .func (.func k5) #[] l5]) ∧
    ReaderFrom (w.heap.size + 1) w' b (.func (.func k1) #[] l1) (.func (.func k2) #[] l2) (.func (.func k3) #[] l3) (.func (.func k4) #[] l4) (.func (.func k5) #[] l5) ∧ Below w.heap.size w w' := by
  obtain ⟨b, v1, v2, v3, v4, v5, he, hr, hb⟩ := h
  obtain ⟨h0, hw, ⟨k1, l1, rfl, r1⟩, ⟨k2, l2, rfl, r2⟩, ⟨k3, l3, rfl, r3⟩, ⟨k4, l4, rfl, r4⟩, ⟨k5, l5, rfl, r5⟩⟩ := hr
  exact ⟨b, k1, l1, k2, l2, k3, l3, k4, l4, k5, l5, he, ⟨h0, hw, ⟨k1, l1, rfl, r1⟩, ⟨k2, l2, rfl, r2⟩, ⟨k3, l3, rfl, r3⟩, ⟨k4, l4, rfl, r4⟩, ⟨k5, l5, rfl, r5⟩⟩, hb⟩
/-- the iterator comes back -/
def GivesTokens (l : List UInt8) (w : World) (e : Ending) (w' : World) : Prop :=
  ∃ A R b v1 v2 v3 v4 v5, e = .returned (.func (.func 82) #[] #[.pointer (some ⟨R, 0, none⟩), .pointer (some ⟨A, 0, none⟩)]) ∧ Src w.heap.size A R l b v1 v2 v3 v4 v5 w' ∧ Below w.heap.size w w'
set_option maxHeartbeats 4000000 in
theorem tokens_any (l : List UInt8) (w : World) (hS : Signs w) : Calls Tryz.prog 58 #[.string (str l)] w fun e w' => GivesTokens l w e w' := by
  have HS := Lib.hid hS
  clear hS
  have hb0 := Lib.hid ((Below.refl w.heap.size w).alloc (Nat.le_refl _) (.cells #[.string (str l)] 9))
  go_enter Tryz.func58, Tryz.ntmps58
  go_wp2_with (go_at_call 81; ((with_reducible refine (reader_any l _).mono ?_); rintro e w1 hgr; obtain ⟨b, k1, l1, k2, l2, k3, l3, k4, l4, k5, l5, rfl, hr, hb⟩ := gives_reader hgr; clear hgr; have HR := Lib.hid hr; have HB := Lib.hid hb; clear hr hb))
  go_ret
  have hsz := HB.out.size
  simp only [World.size_alloc] at hsz
  have hba : Below w1.heap.size w1 (w1.alloc (.cells #[.string (str l), .map (some b), .func (.func k1) #[] l1, .func (.func k2) #[] l2, .func (.func k3) #[] l3, .func (.func k4) #[] l4, .func (.func k5) #[] l5] 118)) := (Below.refl _ _).alloc (Nat.le_refl _) _
  have hbw := hb0.out.trans (HB.out.mono hb0.out.size)
  refine ⟨_, _, _, _, _, _, _, _, rfl, ⟨Nat.le_refl _, by simp; omega, ?_, by simp, ?_, readAt_new w1 _ _ _ _ _ _ _ _, ?_, ?_⟩, hbw.alloc hbw.size _⟩
  · omega
  · exact (hba.cell (p := ⟨w.heap.size, 0, none⟩) (by show w.heap.size < w1.heap.size; omega)).trans ((HB.out.cell (p := ⟨w.heap.size, 0, none⟩) (by simp)).trans (World.cell?_alloc_new w _ _ _))
  · have h := HR.out
    rw [World.size_alloc] at h
    exact ReaderFrom.kept (⟨by have := h.1; omega, h.2.1, h.2.2.1.low (by omega), h.2.2.2.1.low (by omega), h.2.2.2.2.1.low (by omega), h.2.2.2.2.2.1.low (by omega), h.2.2.2.2.2.2.low (by omega)⟩ : ReaderFrom w.heap.size w1 b (.func (.func k1) #[] l1) (.func (.func k2) #[] l2) (.func (.func k3) #[] l3) (.func (.func k4) #[] l4) (.func (.func k5) #[] l5)) (fun k _ hk => hba.block k hk) hba.size
  · exact (HS.out.below hbw).below hba

set_option maxHeartbeats 8000000 in
set_option maxRecDepth 100000 in
theorem iter_core (F : Fence) (n : Nat) (hF : F = Fence.wide) (hn : 1 ≤ n) (l : List UInt8) (m : Nat) (hm : Hid (l.length = m)) (ml : (m : Int) ≤ 30000) (hs : (str l).size = m) (B g A R b : Nat) (v1 v2 v3 v4 v5 : Value) (w : World)
    (hB : Hid (B < g)) (hBs : Hid (B ≠ 0)) (hBw : Hid (B < w.heap.size)) (hsrc : Hid (Src g A R l b v1 v2 v3 v4 v5 w)) (ts0 : List Tok) (r : Option Nat) (ht0 : Hid (lexT l ts0 r)) (lp : Nat) (J Jx : List Tok → World → Prop)
    (W : World) (hW : Hid (Held B w W)) (hJ : Hid (∀ s X Y, J s X → X.grownBy Y none → J s Y))
    (hY : Hid (∀ pre x W1, J pre W1 → pre.length < (handed l ts0 r).length → YieldAt F (n - 1) Tryz.prog lp #[tokV x] W1 fun e W' =>
      (e = .returned (.bool true) ∧ J (pre ++ [x]) W' ∧ Keep B w.heap.size W1 W') ∨ (e = .returned (.bool false) ∧ Jx (pre ++ [x]) W')))
    (h0 : Hid (J [] W)) :
    CallsIn F n Tryz.prog 82 #[.func (.yield lp) #[] #[], .pointer (some ⟨R, 0, none⟩), .pointer (some ⟨A, 0, none⟩)] W fun e W' => (∃ v, e = .returned v) ∧
      ((∃ ys, ys = handed l ts0 r ∧ J ys W') ∨ (∃ pre, pre <+: handed l ts0 r ∧ Jx pre W')) := by
  subst hF
  have hW0 := Lib.hid (hsrc.out.held hB.out hBs.out hW.out)
  obtain ⟨_, _, _, _, cA, ⟨c0, c1, c2, c3, c4, c5, c6⟩, _, _⟩ := hW0.out
  have hbs := hW0.out.2.2.2.2.2.2.1.at_
  have G0 : Hid (Calls Tryz.prog 83 #[.agg #[.string (str l), .map (some b), v1, v2, v3, v4, v5], .int .i64 0] W fun e w' => NumPost (gapTo false l 0) W e w') :=
    Lib.hid (gaps_any l (by have := hm.out; omega) (.map (some b)) v1 v2 v3 v4 v5 0 (Nat.zero_le _) W hbs.2.1 hbs.2.2.1)
  have g0l := Lib.hid (gapTo_le false (Nat.zero_le l.length))
  have ht1 : Hid (Toks l (gapTo false l 0) ts0 r) := ht0
  obtain ⟨a0, ha0⟩ : ∃ a0, a0 = gapTo false l 0 := ⟨_, rfl⟩
  rw [← ha0] at G0 g0l ht1
  clear hbs ha0
  refine callsIn_of_wp Tryz.func82 rfl trivial ?_ rfl
  simp only [Tryz.ntmps82, List.size_toArray, List.length_cons, List.length_nil, Nat.reduceAdd, Nat.reduceSub, Array.replicate_succ, Array.replicate_zero, List.push_toArray, List.append_toArray, List.nil_append, List.cons_append]
  gi_wp2_with (refine ⟨trivial, ?_⟩; gi_at_call 83; ((with_reducible refine (callsIn_wide.2 G0.out).mono ?_); rintro e w1 ⟨rfl, hb1⟩; have HB1 := Lib.hid hb1; clear hb1))
  have hw1 := Lib.hid (hW.out.below hBw.out HB1.out)
  have hJ1 := Lib.hid (hJ.out _ _ _ h0.out (Below.to_grown HB1.out))
  gi_loopw [4] (fun i wr => ∃ (j : Nat) (pre ts : List Tok), i = .int .i64 j ∧ Hid (j ≤ m) ∧ Hid (Toks l j ts r) ∧ Hid (handed l ts0 r = pre ++ handed l ts r) ∧ Hid (J pre wr) ∧ Hid (Held B w wr)) (fun i _ => m - litLen i)
  case atStart => exact ⟨a0, [], ts0, rfl, Lib.hid (by rw [← hm.out]; exact g0l.out), ht1, Lib.hid rfl, hJ1, hw1⟩
  case round =>
    obtain ⟨j, pre, ts, rfl, hj, htk, hpre, hJp, hH⟩ := hrel
    have hSr := Lib.hid (hsrc.out.held hB.out hBs.out hH.out)
    obtain ⟨_, _, _, _, dA, ⟨d0, d1, d2, d3, d4, d5, d6⟩, _, _⟩ := hSr.out
    have jl := hj.out
    rcases Nat.lt_or_ge j m with hlt | hge
    · have q3 : decide ((j : Int) < (m : Int)) = true := decide_eq_true (by omega)
      have TK := Lib.hid (token_any l (by have := hm.out; omega) b v1 v2 v3 v4 v5 j (by rw [hm.out]; exact hlt) wr hSr.out.2.2.2.2.2.2.1.at_ hSr.out.2.2.2.2.2.2.2)
      obtain ⟨t, hte⟩ : ∃ t, t = tokAt l j := ⟨_, rfl⟩
      rw [← hte] at TK
      have HT := Lib.hid hte
      clear hte
      have hmem : Hid (∃ us, handed l ts0 r = pre ++ t :: us) := Lib.hid (by
        rw [hpre.out]
        rcases htk.out with hh | ⟨hh, h1⟩ | ⟨hh, h1, h2⟩
        · have := hm.out; omega
        · exact ⟨[], by unfold handed; rw [HT.out]; rfl⟩
        · exact ⟨_, by unfold handed; rw [HT.out]; rfl⟩)
      have hkind : Hid ((t.kind = 0 ∧ ts = [] ∧ r = some j) ∨ (t.kind ≠ 0 ∧ ∃ us, ts = t :: us ∧ Toks l (gapTo false l (j + t.text.length)) us r ∧ j + t.text.length ≤ l.length ∧ 1 ≤ t.text.length)) := Lib.hid (by
        rcases htk.out with hh | ⟨hh, h1⟩ | ⟨hh, h1, h2⟩
        · have := hm.out; omega
        · exact .inl ⟨by rw [HT.out]; exact (tokAt_kind l j).2 h1, rfl, rfl⟩
        · have h3 := tokAt_len h1
          rw [HT.out]
          exact .inr ⟨fun h => h1 ((tokAt_kind l j).1 h), _, rfl, h2, h3.2, h3.1⟩)
      clear HT
      obtain ⟨kk, tx, vv, aa⟩ := t
      have TK' : Hid (Calls Tryz.prog 84 #[.agg #[.string (str l), .map (some b), v1, v2, v3, v4, v5], .int .i64 (j : Int)] wr fun e w' => TokRet (kk : Int) vv (aa : Int) (str tx) wr e w') := TK
      clear TK
      obtain ⟨us, hus⟩ := hmem.out
      have HU := Lib.hid hus
      clear hus
      rcases hkind.out with ⟨hk0, hts, hr⟩ | ⟨hk0, us2, hts, htk2, hle, hl1⟩
      · have hk0' : kk = 0 := hk0
        subst hk0'
        have hfull := Lib.hid (show handed l ts0 r = pre ++ [⟨0, tx, vv, aa⟩] by
          have h := HU.out
          rw [hpre.out, hts] at h
          have h2 := congrArg List.length h
          unfold handed at h2
          simp at h2
          obtain rfl : us = [] := by cases us with | nil => rfl | cons _ _ => simp at h2
          exact HU.out)
        clear hts hr hk0
        gi_wp2_with (refine ⟨trivial, ?_⟩; gi_at_call 84; ((with_reducible refine (callsIn_wide.2 TK'.out).mono ?_); rintro e w2 ⟨rfl, hb2⟩; have HB2 := Lib.hid hb2; clear hb2; have hH2 := Lib.hid (hH.out.below hBw.out HB2.out); obtain ⟨fn, tmps, assign, body, hy, hR⟩ := hY.out pre ⟨0, tx, vv, aa⟩ (w2.alloc (.cells #[.int .i64 0, .string (str tx), .int .i64 vv, .int .i64 (aa : Int)] 43)) (hJ.out _ _ _ (hJ.out _ _ _ hJp.out (Below.to_grown HB2.out)) (World.grownBy_alloc _ _ _)) (by rw [hfull.out]; simp); have hy' : (Instr.yield lp #[.agg #[.int .i64 0, .string (str tx), .int .i64 vv, .int .i64 (aa : Int)]]).run Tryz.prog (w2.alloc (.cells #[.int .i64 0, .string (str tx), .int .i64 vv, .int .i64 (aa : Int)] 43)) = .ok (.round lp fn tmps assign body) (w2.alloc (.cells #[.int .i64 0, .string (str tx), .int .i64 vv, .int .i64 (aa : Int)] 43)) := hy; have HR := Lib.hid hR; clear hy hR))
        refine HR.out.mono ?_
        rintro e W3 (⟨rfl, hJ3, hk3⟩ | ⟨rfl, hJx3⟩)
        · have hbx := hH2.out.box hBw.out _ _ hk3
          have x0 : W3.cell? ⟨w2.heap.size, 0, none⟩ = some (.int .i64 0) := by simp [World.cell?, hbx]
          gi_wp2
          refine bodyPost_ret (results_none rfl _ _ _) rfl ?_
          exact ⟨⟨_, rfl⟩, .inl ⟨_, rfl, by rw [hfull.out]; exact hJ3⟩⟩
        · gi_wp2
          refine bodyPost_ret (results_none rfl _ _ _) rfl ?_
          exact ⟨⟨_, rfl⟩, .inr ⟨_, ⟨[], by rw [hfull.out]; simp⟩, hJx3⟩⟩
      · have hkn : ¬ (kk : Int) = 0 := fun e => hk0 (by show kk = 0; omega)
        have hkb : ((kk : Int) == 0) = false := beq_false_of_ne hkn
        have htx : Hid (tx.length = tx.length) := Lib.hid rfl
        obtain ⟨q, hq⟩ : ∃ q, q = tx.length := ⟨_, rfl⟩
        have hqs : (str tx).size = q := by rw [str_size, hq]
        obtain ⟨y, hy0⟩ : ∃ y, y = j + q := ⟨_, rfl⟩
        have e1 : (j : Int) + (q : Int) = (y : Int) := by omega
        have hle' : y ≤ l.length := by rw [hy0, hq]; exact hle
        have htk3 := Lib.hid (show Toks l (gapTo false l y) us2 r by rw [hy0, hq]; exact htk2)
        have hjy := Lib.hid (show j < y by rw [hy0, hq]; have : 1 ≤ tx.length := hl1; omega)
        have hgy := Lib.hid (gapTo_ge false l y)
        have hgy2 := Lib.hid (gapTo_le false hle')
        have hyl := Lib.hid hle'
        have ym : (y : Int) ≤ (m : Int) := by have := hm.out; omega
        have hfull := Lib.hid (show handed l ts0 r = (pre ++ [⟨kk, tx, vv, aa⟩]) ++ handed l us2 r by rw [hpre.out, hts]; unfold handed; simp)
        clear hts htk2 hk0 hle hl1 hq hy0 hle' hkn
        gi_wp2_with (first | (refine ⟨trivial, ?_⟩; gi_at_call 84; ((with_reducible refine (callsIn_wide.2 TK'.out).mono ?_); rintro e w2 ⟨rfl, hb2⟩; have HB2 := Lib.hid hb2; clear hb2; have hH2 := Lib.hid (hH.out.below hBw.out HB2.out); obtain ⟨fn, tmps, assign, body, hy, hR⟩ := hY.out pre ⟨kk, tx, vv, aa⟩ (w2.alloc (.cells #[.int .i64 (kk : Int), .string (str tx), .int .i64 vv, .int .i64 (aa : Int)] 43)) (hJ.out _ _ _ (hJ.out _ _ _ hJp.out (Below.to_grown HB2.out)) (World.grownBy_alloc _ _ _)) (by rw [hfull.out]; simp only [List.length_append, List.length_singleton]; omega); have hy' : (Instr.yield lp #[.agg #[.int .i64 (kk : Int), .string (str tx), .int .i64 vv, .int .i64 (aa : Int)]]).run Tryz.prog (w2.alloc (.cells #[.int .i64 (kk : Int), .string (str tx), .int .i64 vv, .int .i64 (aa : Int)] 43)) = .ok (.round lp fn tmps assign body) (w2.alloc (.cells #[.int .i64 (kk : Int), .string (str tx), .int .i64 vv, .int .i64 (aa : Int)] 43)) := hy; have HR := Lib.hid hR; clear hy hR)))
        refine HR.out.mono ?_
        rintro e W3 (⟨rfl, hJ3, hk3⟩ | ⟨rfl, hJx3⟩)
        · have hbx := hH2.out.box hBw.out _ _ hk3
          have x0 : W3.cell? ⟨w2.heap.size, 0, none⟩ = some (.int .i64 (kk : Int)) := by simp [World.cell?, hbx]
          have x1 : W3.cell? ⟨w2.heap.size, 1, none⟩ = some (.string (str tx)) := by simp [World.cell?, hbx]
          have hH3 := Lib.hid ((hH2.out.below hBw.out ((Below.refl _ _).alloc (Nat.le_refl _) _)).keep hk3)
          have hS3 := Lib.hid (hsrc.out.held hB.out hBs.out hH3.out)
          obtain ⟨_, _, _, _, eA, ⟨e0, e1', e2, e3, e4, e5, e6⟩, _, _⟩ := hS3.out
          have hrd := hS3.out.2.2.2.2.2.2.1.at_
          have G3 := Lib.hid (gaps_any l (by have := hm.out; omega) (.map (some b)) v1 v2 v3 v4 v5 y hyl.out W3 hrd.2.1 hrd.2.2.1)
          have HJ3 := Lib.hid hJ3
          clear hrd hbx hk3 hJ3
          gi_wp2_with (refine ⟨trivial, ?_⟩; gi_at_call 83; ((with_reducible refine (callsIn_wide.2 G3.out).mono ?_); rintro e w4 ⟨rfl, hb4⟩; have HB4 := Lib.hid hb4; clear hb4))
          go_roundw
          case rel => exact ⟨gapTo false l y, _, us2, rfl, Lib.hid (by rw [← hm.out]; exact hgy2.out), htk3, hfull, Lib.hid (hJ.out _ _ _ HJ3.out (Below.to_grown HB4.out)), Lib.hid (hH3.out.below hBw.out HB4.out)⟩
          case measure => have := hgy.out; have := hjy.out; simp [litLen]; omega
        · gi_wp2
          refine bodyPost_ret (results_none rfl _ _ _) rfl ?_
          exact ⟨⟨_, rfl⟩, .inr ⟨_, ⟨handed l us2 r, by rw [hfull.out]⟩, hJx3⟩⟩
    · have q3 : decide ((j : Int) < (m : Int)) = false := decide_eq_false (by omega)
      obtain rfl : j = m := by omega
      obtain ⟨rfl, rfl⟩ : ts = [] ∧ r = none := by
        rcases htk.out with hh | ⟨hh, h1⟩ | ⟨hh, h1, h2⟩
        · exact ⟨rfl, rfl⟩
        · have := hm.out; omega
        · have := hm.out; omega
      have hfull := Lib.hid (show handed l ts0 none = pre ++ [endT j] by rw [hpre.out]; unfold handed; rw [hm.out]; rfl)
      obtain ⟨fn, tmps, assign, body, hy, hR⟩ := hY.out pre (endT j) wr hJp.out (by rw [hfull.out]; simp)
      have hy' : (Instr.yield lp #[.agg #[.int .i64 5, .string ⟨#[]⟩, .int .i64 0, .int .i64 (j : Int)]]).run Tryz.prog wr = .ok (.round lp fn tmps assign body) wr := hy
      have HR := Lib.hid hR
      clear hy hR
      gi_wp2
      refine HR.out.mono ?_
      rintro e W3 (⟨rfl, hJ3, hk3⟩ | ⟨rfl, hJx3⟩)
      · gi_wp2
        go_end0
        exact ⟨⟨_, rfl⟩, .inl ⟨_, rfl, by rw [hfull.out]; exact hJ3⟩⟩
      · gi_wp2
        go_end0
        exact ⟨⟨_, rfl⟩, .inr ⟨_, ⟨[], by rw [hfull.out]; simp⟩, hJx3⟩⟩
/-- the iterator's contract -/
theorem iter_stops (n : Nat) (hn : 1 ≤ n) (l : List UInt8) (nl : l.length ≤ 30000) (B g A R b : Nat) (v1 v2 v3 v4 v5 : Value) (w : World) (hB : B < g) (hBs : B ≠ 0) (hBw : B < w.heap.size) (hrow : rowOf B w = none)
    (hsrc : Src g A R l b v1 v2 v3 v4 v5 w) (ts : List Tok) (r : Option Nat) (ht : lexT l ts r) :
    SeqStopsK Fence.wide n Tryz.prog 82 #[.pointer (some ⟨R, 0, none⟩), .pointer (some ⟨A, 0, none⟩)] (fun t : Tok => #[tokV t]) (Keep B w.heap.size) (fun ys => ys = handed l ts r) (fun pre => pre <+: handed l ts r) (handed l ts r).length w :=
  fun lp J Jx W hW hJ _ hY h0 => iter_core Fence.wide n rfl hn l _ (Lib.hid rfl) (by omega) (str_size l) B g A R b v1 v2 v3 v4 v5 w (Lib.hid hB) (Lib.hid hBs) (Lib.hid hBw) (Lib.hid hsrc) ts r (Lib.hid ht) lp J Jx W
    (Lib.hid ⟨hW.size, fun k hk _ => hW.block k hk, fun k hk => by rw [rowOf_same (hW.block B hBw), hrow] at hk; cases hk⟩) (Lib.hid fun s X Y h1 h2 => hJ s X Y none h1 h2 (fun r e => by cases e)) (Lib.hid hY) (Lib.hid h0)
end Go.Proofs.YtlbhlncipajapaaGreatDoor.Lx
