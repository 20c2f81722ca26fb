/- verify.instructions: all instructions of an object, with their places, as an iterator. -/
import Derived.Test.YtceadfkjknjaoaaDoorVeFits
import Derived.Shelf.Abstract
import Derived.Shelf.RegionOpen
import Derived.OwnWalkIn
import Derived.TacticsInMore
import Derived.LoopNIn
import Derived.LoopIn
namespace Go.Proofs.YtceadfkjknjaoaaDoor
open Go.RowKit Go.Shelf Co

attribute [local go_sem] Oper.semAt_some

theorem Below.to_grown {w w' : World} (h : Below w.heap.size w w') : w.grownBy w' none := ⟨h.os, h.tape, h.output, h.size, fun k hk _ => h.block k hk⟩
/-- what is handed on: a piece, a number, the instruction there -/
abbrev Pl := Nat × Nat × Six
def encP (o : Ob) (q : Pl) : Array Value := #[.agg #[.int .i64 (q.1 : Int), .int .i64 (q.2.1 : Int), .int .i64 (((pieceL o q.1).length : Int) - 1 - (q.2.1 : Int))], .agg #[.int .i64 q.2.2.op, .int .i64 q.2.2.d, .int .i64 q.2.2.a, .int .i64 q.2.2.b, .int .i64 q.2.2.c, .int .i64 q.2.2.v]]
def insP (o : Ob) (k : Nat) : List Pl := (List.range (pieceL o k).length).map fun i => (k, i, (pieceL o k).getD i ⟨0, 0, 0, 0, 0, 0⟩)
def insTo (o : Ob) (k : Nat) : List Pl := (List.range k).flatMap (insP o)
theorem insTo_succ (o : Ob) (k : Nat) : insTo o (k + 1) = insTo o k ++ insP o k := by unfold insTo; rw [List.range_succ, List.flatMap_append]; simp
theorem insP_len (o : Ob) (k : Nat) : (insP o k).length = (pieceL o k).length := by unfold insP; simp
theorem insP_take {o : Ob} {k i : Nat} {x : Six} (h : (pieceL o k)[i]? = some x) : (insP o k).take (i + 1) = (insP o k).take i ++ [(k, i, x)] := by
  obtain ⟨hl, hx⟩ := List.getElem?_eq_some_iff.1 h
  rw [List.take_succ_eq_append_getElem (by rw [insP_len]; exact hl)]
  congr 2
  unfold insP
  simp [h]
theorem insTo_pre (o : Ob) : ∀ {k : Nat}, k ≤ 4 → insTo o k <+: insTo o 4 := by
  intro k hk
  have step : ∀ j, insTo o j <+: insTo o (j + 1) := fun j => by rw [insTo_succ]; exact List.prefix_append _ _
  rcases (show k = 0 ∨ k = 1 ∨ k = 2 ∨ k = 3 ∨ k = 4 by omega) with rfl | rfl | rfl | rfl | rfl
  · exact (step 0).trans ((step 1).trans ((step 2).trans (step 3)))
  · exact (step 1).trans ((step 2).trans (step 3))
  · exact (step 2).trans (step 3)
  · exact step 3
  · exact List.prefix_refl _
theorem pre_at {o : Ob} {k i : Nat} (hk : k < 4) : insTo o k ++ (insP o k).take i <+: insTo o 4 := by
  refine List.IsPrefix.trans ?_ (insTo_pre o (k := k + 1) (by omega))
  rw [insTo_succ]
  exact (List.prefix_append_right_inj _).2 (List.take_prefix _ _)
theorem pre_len {o : Ob} {k i : Nat} (hk : k < 4) (hi : i < (pieceL o k).length) : (insTo o k ++ (insP o k).take i).length < (insTo o 4).length := by
  have h1 := (pre_at (o := o) (i := i + 1) hk).length_le
  have h2 := insP_len o k
  simp only [List.length_append, List.length_take] at h1 ⊢
  omega
theorem ins_mem {o : Ob} {q : Pl} (h : q ∈ insTo o 4) : q.1 < 4 ∧ (pieceL o q.1)[q.2.1]? = some q.2.2 := by
  unfold insTo insP at h
  simp only [List.mem_flatMap, List.mem_map, List.mem_range] at h
  obtain ⟨k, hk, i, hi, rfl⟩ := h
  exact ⟨hk, by simp [List.getD, hi]⟩
theorem mem_ins {o : Ob} {k i : Nat} {x : Six} (hk : k < 4) (hx : (pieceL o k)[i]? = some x) : (k, i, x) ∈ insTo o 4 := by
  obtain ⟨hl, h⟩ := List.getElem?_eq_some_iff.1 hx
  unfold insTo insP
  simp only [List.mem_flatMap, List.mem_map, List.mem_range]
  exact ⟨k, hk, i, hl, by simp [List.getD, hx]⟩
theorem wpListIn_index {F : Fence} {n : Nat} {ops : Array Oper} {rest : List Oper} {o : Oper} {a : Act} {Q : Exit → Act → World → Prop} (w : World) (hgd : o.guard = none) (t : TypeId) (x i : Operand) (ho : o.op = .index t x i) (cs : Array Value) (c : Nat) (v : Value)
    (hx : a.eval x = .agg cs) (hi : a.eval i = .int .i64 (c : Int)) (hrun : (Instr.index t (.agg cs) (.int .i64 (c : Int))).run Tryd.prog w = .ok v w) (h : wpListIn F n Tryd.prog ops Q rest (a.put o.dst v) w) : wpListIn F n Tryd.prog ops Q (o :: rest) a w := by
  refine wpListIn_plain hgd fun K hK => ?_
  unfold Oper.wpIn
  refine ⟨?_, ?_⟩
  · simp [Oper.about, ho]
  · rw [Oper.semAt_plain F _ _ (by rw [ho]; intro c hc'; cases hc')]
    simp [execOp, ho, hx, hi, hrun, Result.andThen]
    exact hK _ _ h
/-- one of an object's -/
abbrev PlOf (o : Ob) := { q : Pl // q ∈ insTo o 4 }
/-- what a round that goes on keeps -/
def KeepA (n₁ : Nat) (X Y : World) : Prop := X.heap.size ≤ Y.heap.size ∧ ∀ k, k < X.heap.size → (k < n₁ ∨ ∃ o, X.heap[k]? = some o ∧ o.isCells = true) → Y.heap[k]? = X.heap[k]?
theorem KeepA.trans {n₁ : Nat} {X Y Z : World} (h : KeepA n₁ X Y) (k : KeepA n₁ Y Z) : KeepA n₁ X Z := by
  refine ⟨Nat.le_trans h.1 k.1, fun j hj hc => ?_⟩
  have e := h.2 j hj hc
  refine (k.2 j (Nat.lt_of_lt_of_le hj h.1) ?_).trans e
  rcases hc with h1 | ⟨o, h1, h2⟩
  · exact .inl h1
  · exact .inr ⟨o, e.trans h1, h2⟩
/-- what lay in w lies there still -/
def Same0 (w X : World) : Prop := w.heap.size ≤ X.heap.size ∧ ∀ k, k < w.heap.size → X.heap[k]? = w.heap[k]?
theorem Same0.keep {w X Y : World} (h : Same0 w X) (hk : KeepA w.heap.size X Y) : Same0 w Y :=
  ⟨Nat.le_trans h.1 hk.1, fun k hlt => (hk.2 k (Nat.lt_of_lt_of_le hlt h.1) (.inl hlt)).trans (h.2 k hlt)⟩
theorem Same0.alloc {w X : World} (h : Same0 w X) (o : Obj) : Same0 w (X.alloc o) :=
  ⟨Nat.le_trans h.1 (by simp), fun k hlt => (al_old (Nat.lt_of_lt_of_le hlt h.1)).trans (h.2 k hlt)⟩
theorem Same0.cell {w X : World} (h : Same0 w X) {b o : Nat} {v : Value} (hc : w.cell? ⟨b, o, none⟩ = some v) : X.cell? ⟨b, o, none⟩ = some v := by
  rw [← hc]; exact World.cell?_of_block (h.2 b (World.block_lt_of_cell? _ _ hc))
theorem six_same {w X : World} (h : Same0 w X) {b o : Nat} {x : Six} (hx : SixAt w b o x) : SixAt X b o x := by
  obtain ⟨h0, h1, h2, h3, h4, h5⟩ := hx
  exact ⟨h.cell h0, h.cell h1, h.cell h2, h.cell h3, h.cell h4, h.cell h5⟩
/-- a piece's slice, and what lies there -/
def PieceAt (w : World) (l : List Six) (s : Value) : Prop := ∃ q d b off, s = .slice q l.length d ∧ (0 < l.length → q = some ⟨b, off, none⟩) ∧ ∀ i, i < l.length → ∀ x, l[i]? = some x → SixAt w b (off + i * 6) x
set_option maxHeartbeats 16000000 in
set_option maxRecDepth 100000 in
theorem instr_core (F : Fence) (n : Nat) (hF : F = Fence.wide) (hn : 1 ≤ n) (o : Ob) (o1 o2 o3 o4 q1 q2 q3 q4 : Option Addr) (n1 n2 n3 n4 m1 m2 m3 m4 c1 c2 c3 c4 d1 d2 d3 d4 : Nat) (xc yf : Int) (B : Nat) (w : World)
    (hl : Hid (∀ k, k < 4 → (pieceL o k).length ≤ 140737488351232)) (hc : Hid (w.heap[B]? = some (.cells #[.slice o1 n1 c1, .slice o2 n2 c2, .slice o3 n3 c3, .slice o4 n4 c4, .int .i64 xc, .int .i64 yf, .slice q1 m1 d1, .slice q2 m2 d2, .slice q3 m3 d3, .slice q4 m4 d4] 29 (0, 0))))
    (hp : Hid (∀ k, k < 4 → PieceAt w (pieceL o k) ([Value.slice q1 m1 d1, .slice q2 m2 d2, .slice q3 m3 d3, .slice q4 m4 d4].getD k undef)))
    (lp : Nat) (J Jx : List (PlOf o) → World → Prop) (W : World) (hW : Hid (Below w.heap.size w W)) (hJ : Hid (∀ s X Y, J s X → X.grownBy Y none → J s Y))
    (hY : Hid (∀ pre (q : PlOf o) W1, J pre W1 → pre.length < (insTo o 4).length → YieldAt F (n - 1) Tryd.prog lp (encP o q.1) W1 fun e W' =>
      (e = .returned (.bool true) ∧ J (pre ++ [q]) W' ∧ KeepA w.heap.size W1 W') ∨ (e = .returned (.bool false) ∧ Jx (pre ++ [q]) W')))
    (h0 : Hid (J [] W)) :
    CallsIn F n Tryd.prog 29 #[.func (.yield lp) #[] #[], .pointer (some ⟨B, 0, none⟩)] W fun e W' => (∃ v, e = .returned v) ∧
      ((∃ ys : List (PlOf o), ys.map (·.1) = insTo o 4 ∧ J ys W') ∨ (∃ pre : List (PlOf o), pre.map (·.1) <+: insTo o 4 ∧ Jx pre W')) := by
  subst hF
  have hBlt := lt_of_heap hc.out
  have hBW : W.heap[B]? = _ := (hW.out.block _ hBlt).trans hc.out
  have x0 : W.cell? ⟨B, 0, none⟩ = some (.slice o1 n1 c1) := by simp [World.cell?, hBW]
  have x1 : W.cell? ⟨B, 1, none⟩ = some (.slice o2 n2 c2) := by simp [World.cell?, hBW]
  have x2 : W.cell? ⟨B, 2, none⟩ = some (.slice o3 n3 c3) := by simp [World.cell?, hBW]
  have x3 : W.cell? ⟨B, 3, none⟩ = some (.slice o4 n4 c4) := by simp [World.cell?, hBW]
  have x4 : W.cell? ⟨B, 4, none⟩ = some (.int .i64 xc) := by simp [World.cell?, hBW]
  have x5 : W.cell? ⟨B, 5, none⟩ = some (.int .i64 yf) := by simp [World.cell?, hBW]
  have x6 : W.cell? ⟨B, 6, none⟩ = some (.slice q1 m1 d1) := by simp [World.cell?, hBW]
  have x7 : W.cell? ⟨B, 7, none⟩ = some (.slice q2 m2 d2) := by simp [World.cell?, hBW]
  have x8 : W.cell? ⟨B, 8, none⟩ = some (.slice q3 m3 d3) := by simp [World.cell?, hBW]
  have x9 : W.cell? ⟨B, 9, none⟩ = some (.slice q4 m4 d4) := by simp [World.cell?, hBW]
  clear hBW hBlt
  have PC := Lib.hid (pieces_any o1 o2 o3 o4 q1 q2 q3 q4 n1 n2 n3 n4 m1 m2 m3 m4 c1 c2 c3 c4 d1 d2 d3 d4 xc yf)
  have hs0 : Hid (Same0 w W) := Lib.hid ⟨hW.out.size, fun k hk => hW.out.block k hk⟩
  refine callsIn_of_wp Tryd.func29 rfl trivial ?_ rfl
  simp only [Tryd.ntmps29, List.size_toArray, List.length_cons, List.length_nil, Nat.reduceAdd, Nat.reduceSub, Array.replicate_succ, Array.replicate_zero, List.push_toArray, List.append_toArray, List.nil_append, List.cons_append]
  gi_wp2_with (refine ⟨trivial, ?_⟩; gi_at_call 22; ((with_reducible refine (callsIn_wide.2 (PC.out _)).mono ?_); rintro e w1 ⟨rfl, hb1⟩; have HJ1 := Lib.hid (hJ.out _ _ _ h0.out (Below.to_grown hb1)); have HS1 := Lib.hid (show Same0 w w1 from ⟨Nat.le_trans hs0.out.1 hb1.size, fun k hk => (hb1.block k (Nat.lt_of_lt_of_le hk hs0.out.1)).trans (hs0.out.2 k hk)⟩); clear hb1))
  clear x0 x1 x2 x3 x4 x5 x6 x7 x8 x9
  gi_loopw [9] (fun i wr => ∃ (k : Nat) (pre : List (PlOf o)), i = .int .i64 (k : Int) ∧ Hid (pre.map (·.1) = insTo o k) ∧ Hid (J pre wr) ∧ k ≤ 4 ∧ Hid (Same0 w wr)) (fun i _ => match i with | .int _ z => 4 - z.toNat | _ => 0)
  case atStart => exact ⟨0, [], rfl, Lib.hid rfl, HJ1, Nat.zero_le _, HS1⟩
  case round =>
    obtain ⟨k, pre, rfl, hpk, hJk, hk, hSk⟩ := hrel
    rcases Nat.lt_or_ge k 4 with hk4 | hk4
    · have hk5 : (k : Int) < 4 := by omega
      have ix := Lib.hid (ix_four _ _ _ _ ⟨q1, m1, d1, rfl⟩ ⟨q2, m2, d2, rfl⟩ ⟨q3, m3, d3, rfl⟩ ⟨q4, m4, d4, rfl⟩ k hk4 wr)
      obtain ⟨q, dq, b, off, hq, hq1, hq2⟩ := hp.out k hk4
      rw [hq] at ix
      obtain ⟨m, hm⟩ : ∃ m, m = (pieceL o k).length := ⟨_, rfl⟩
      have hml := hl.out k hk4
      rw [← hm] at ix hq1 hml
      have HM := Lib.hid hm
      have hm2 : (m : Int) ≤ 140737488351232 := by omega
      have HQ1 := Lib.hid hq1
      have HQ2 := Lib.hid hq2
      have hp0 : Hid (pre.map (·.1) = insTo o k ++ (insP o k).take 0) := Lib.hid (by rw [List.take_zero, List.append_nil]; exact hpk.out)
      clear hq hq1 hq2 hm hml
      gi_wp2_with (first | (refine wpListIn_index _ rfl _ (.tmp 8) (.tmp 9) rfl _ _ _ rfl rfl ix.out ?_) | fail)
      gi_loopw [15] (fun i wq => ∃ (c : Nat) (pre : List (PlOf o)), i = .int .i64 (c : Int) ∧ Hid (pre.map (·.1) = insTo o k ++ (insP o k).take c) ∧ Hid (J pre wq) ∧ c ≤ m ∧ Hid (Same0 w wq)) (fun i _ => match i with | .int _ z => m - z.toNat | _ => 0)
      case atStart => exact ⟨0, pre, rfl, hp0, hJk, Nat.zero_le _, hSk⟩
      case round =>
        obtain ⟨c, pre2, rfl, hpc, hJc, hc, hSc⟩ := hrel
        rcases Nat.lt_or_ge c m with hlt | hge
        · have hcl : (c : Int) < (m : Int) := by omega
          obtain ⟨x, hx⟩ : ∃ x, (pieceL o k)[c]? = some x := ⟨_, List.getElem?_eq_getElem (by rw [← HM.out]; exact hlt)⟩
          have htk := Lib.hid (insP_take hx)
          have hmem := mem_ins hk4 hx
          obtain ⟨z0, z1, z2, z3, z4, z5⟩ := six_same hSc.out (HQ2.out c (by rw [← HM.out]; exact hlt) x hx)
          have ix1 := ix_sixes (cap := dq) HQ1.out hlt (by omega)
          unfold Ix at ix1
          obtain ⟨op, d, a, b1, c5, v⟩ := x
          simp only at z0 z1 z2 z3 z4 z5
          have hJa := hJ.out _ _ _ hJc.out (World.grownBy_alloc wr (.cells #[.int .i64 op, .int .i64 d, .int .i64 a, .int .i64 b1, .int .i64 c5, .int .i64 v] 39) none)
          obtain ⟨fn, tmps, assign, body, hy, hR⟩ := hY.out _ ⟨(k, c, ⟨op, d, a, b1, c5, v⟩), hmem⟩ _ hJa (by have := pre_len (i := c) hk4 (by rw [← HM.out]; exact hlt); rw [← hpc.out, List.length_map] at this; exact this)
          have hy' : (Instr.yield lp #[.agg #[.int .i64 (k : Int), .int .i64 (c : Int), .int .i64 ((m : Int) - 1 - (c : Int))], .agg #[.int .i64 op, .int .i64 d, .int .i64 a, .int .i64 b1, .int .i64 c5, .int .i64 v]]).run Tryd.prog (wr.alloc (.cells #[.int .i64 op, .int .i64 d, .int .i64 a, .int .i64 b1, .int .i64 c5, .int .i64 v] 39)) = .ok (.round lp fn tmps assign body) (wr.alloc (.cells #[.int .i64 op, .int .i64 d, .int .i64 a, .int .i64 b1, .int .i64 c5, .int .i64 v] 39)) := by
            rw [HM.out]; exact hy
          have HR := Lib.hid hR
          have HSA := Lib.hid (hSc.out.alloc (.cells #[.int .i64 op, .int .i64 d, .int .i64 a, .int .i64 b1, .int .i64 c5, .int .i64 v] 39))
          have hpn : Hid ((pre2 ++ [(⟨(k, c, ⟨op, d, a, b1, c5, v⟩), hmem⟩ : PlOf o)]).map (·.1) = insTo o k ++ (insP o k).take (c + 1)) := Lib.hid (by rw [List.map_append, hpc.out, htk.out, List.append_assoc]; rfl)
          clear hy hR hx hJa
          gi_wp2
          refine HR.out.mono ?_
          rintro e W3 (⟨rfl, hJ3, hk3⟩ | ⟨rfl, hJx3⟩)
          · have hS3 := Lib.hid (HSA.out.keep hk3)
            have HJ3 := Lib.hid hJ3
            clear hJ3 hk3
            gi_wp2
            go_roundw
            case rel => exact ⟨c + 1, _, by go_num, hpn, HJ3, by omega, hS3⟩
            case measure => simp; omega
          · gi_wp2
            refine bodyPost_ret (results_none rfl _ _ _) rfl ?_
            refine ⟨⟨_, rfl⟩, .inr ⟨_, ?_, hJx3⟩⟩
            rw [hpn.out]
            exact pre_at hk4
        · obtain rfl : m = c := by omega
          have hno : ¬ (m : Int) < (m : Int) := by omega
          have hpn : Hid (pre2.map (·.1) = insTo o (k + 1)) := Lib.hid (by
            have h := hpc.out
            rw [List.take_of_length_le (by rw [insP_len, ← HM.out]; exact Nat.le_refl _), ← insTo_succ] at h
            exact h)
          gi_wp2
          go_roundw
          case rel => exact ⟨k + 1, pre2, by go_num, hpn, hJc, by omega, hSc⟩
          case measure => simp; omega
    · obtain rfl : k = 4 := by omega
      have hno : ¬ ((4 : Nat) : Int) < 4 := by omega
      gi_wp2
      go_end0
      exact ⟨⟨_, rfl⟩, .inl ⟨pre, hpk.out, hJk.out⟩⟩
theorem instr_stops (n : Nat) (hn : 1 ≤ n) (o : Ob) (o1 o2 o3 o4 q1 q2 q3 q4 : Option Addr) (n1 n2 n3 n4 m1 m2 m3 m4 c1 c2 c3 c4 d1 d2 d3 d4 : Nat) (xc yf : Int) (B : Nat) (w : World)
    (hl : ∀ k, k < 4 → (pieceL o k).length ≤ 140737488351232) (hc : w.heap[B]? = some (.cells #[.slice o1 n1 c1, .slice o2 n2 c2, .slice o3 n3 c3, .slice o4 n4 c4, .int .i64 xc, .int .i64 yf, .slice q1 m1 d1, .slice q2 m2 d2, .slice q3 m3 d3, .slice q4 m4 d4] 29 (0, 0)))
    (hp : ∀ k, k < 4 → PieceAt w (pieceL o k) ([Value.slice q1 m1 d1, .slice q2 m2 d2, .slice q3 m3 d3, .slice q4 m4 d4].getD k undef)) :
    SeqStopsK Fence.wide n Tryd.prog 29 #[.pointer (some ⟨B, 0, none⟩)] (fun q : PlOf o => encP o q.1) (KeepA w.heap.size) (fun ys => ys.map (·.1) = insTo o 4) (fun pre => pre.map (·.1) <+: insTo o 4) (insTo o 4).length w :=
  fun lp J Jx W hW hJ _ hY h0 => instr_core Fence.wide n rfl hn o o1 o2 o3 o4 q1 q2 q3 q4 n1 n2 n3 n4 m1 m2 m3 m4 c1 c2 c3 c4 d1 d2 d3 d4 xc yf B w (Lib.hid hl) (Lib.hid hc) (Lib.hid hp) lp J Jx W
    (Lib.hid hW) (Lib.hid fun s X Y h1 h2 => hJ s X Y none h1 h2 (fun r e => by cases e)) (Lib.hid hY) (Lib.hid h0)
def instrV (B : Nat) : Value := .func (.func 29) #[] #[.pointer (some ⟨B, 0, none⟩)]
theorem instr_any (a0 a1 a2 a3 a6 a7 a8 a9 : Value) (x y : Int) (w : World) : Calls Tryd.prog 24 #[.agg #[a0, a1, a2, a3, .int .i64 x, .int .i64 y, a6, a7, a8, a9]] w fun e w' => e = .returned (instrV w.heap.size) ∧
    w.alloc (.cells #[a0, a1, a2, a3, .int .i64 x, .int .i64 y, a6, a7, a8, a9] 29) = w' := by
  go_enter Tryd.func24, Tryd.ntmps24
  go_wp2_with fail
  go_ret
  exact ⟨rfl, rfl⟩
end Go.Proofs.YtceadfkjknjaoaaDoor
