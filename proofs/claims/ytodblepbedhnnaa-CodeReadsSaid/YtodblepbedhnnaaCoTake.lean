/- code.writeNumber, writeIns, writeList: a number is handed to whoever takes it, folded. -/
import Derived.Test.YtodblepbedhnnaaCoOpen
import Derived.WalkKit
import Derived.Lib.Hide
import Derived.Lib.Zigzag
import Derived.Deep.QuietTactic
import Derived.Deep.RegionHeld3
import Derived.IntWalk
import Derived.Below
import Derived.Laws.Rows
namespace Go.Proofs.Ytodblepbedhnnaa
open Go.RowKit Co

theorem fold_zig (v : Int) : fold v = Lib.zigzag v := by unfold fold Lib.zigzag; split <;> omega
/-- the block that the slice in box X lies in -/
def rowX (X : Nat) (w : World) : Option Nat := (w.cell? ⟨X, 0, none⟩).bind Value.ownBlock
theorem rowX_same {X : Nat} {w w' : World} (h : w'.heap[X]? = w.heap[X]?) : rowX X w' = rowX X w := by unfold rowX; rw [World.cell?_of_block h]
/-- w' is w, but for box X and the row behind it -/
structure Fr (X : Nat) (w w' : World) : Prop where
  size : w.heap.size ≤ w'.heap.size
  same : ∀ k, k < w.heap.size → k ≠ X → rowX X w ≠ some k → w'.heap[k]? = w.heap[k]?
  row : rowX X w' = rowX X w ∨ ∃ r, rowX X w' = some r ∧ w.heap.size ≤ r
theorem Fr.refl (X : Nat) (w : World) : Fr X w w := ⟨Nat.le_refl _, fun _ _ _ _ => rfl, .inl rfl⟩
theorem Fr.trans {X : Nat} {a b c : World} (h : Fr X a b) (k : Fr X b c) : Fr X a c := by
  refine ⟨Nat.le_trans h.size k.size, fun i hi hx hr => ?_, ?_⟩
  · rw [k.same i (Nat.lt_of_lt_of_le hi h.size) hx, h.same i hi hx hr]
    intro e
    rcases h.row with h1 | ⟨r, h1, h2⟩
    · exact hr (by rw [← h1, e])
    · rw [h1] at e
      have := Option.some.inj e
      omega
  · rcases k.row with h1 | ⟨r, h1, h2⟩
    · rw [h1]; exact h.row
    · exact .inr ⟨r, h1, Nat.le_trans h.size h2⟩
theorem Fr.alloc {X : Nat} {w : World} (hX : X < w.heap.size) (o : Obj) : Fr X w (w.alloc o) := by
  have hb := (Below.refl w.heap.size w).alloc (Nat.le_refl _) o
  exact ⟨hb.size, fun k hk _ _ => hb.block k hk, .inl (rowX_same (hb.block X hX))⟩
/-- a taker: a function value; what it keeps, of what it was handed -/
structure Taker (n X : Nat) (w0 : World) (I : List Nat → World → Prop) : Prop where
  run : ∀ (args : Array Value) (w : World), (callFunc n args).run Try.prog w = .ok (.enter n args) w
  take : ∀ (us : List Nat) (u : Nat) (w : World), us.length ≤ 30000 → u < 18446744073709551616 → I us w →
    Calls Try.prog n #[.int .u64 (u : Int), .pointer (some ⟨X, 0, none⟩)] w fun e w' => e = .returned (.tuple #[]) ∧ I (us ++ [u]) w' ∧ Fr X w w'
  more : ∀ {us : List Nat} {w : World} (o : Obj), I us w → I us (w.alloc o)
  lt : ∀ {us : List Nat} {w : World}, I us w → X < w.heap.size ∧ ∀ r, rowX X w = some r → r < w.heap.size
  below : ∀ {us : List Nat} {w : World}, I us w → Below w0.heap.size w0 w
theorem Taker.new {n X : Nat} {w0 : World} {I : List Nat → World → Prop} (T : Taker n X w0 I) {us : List Nat} {w w' : World} {o : Obj} (hI : I us w) (h : Fr X (w.alloc o) w') : w'.heap[w.heap.size]? = (w.alloc o).heap[w.heap.size]? := by
  obtain ⟨h1, h2⟩ := T.lt hI
  have h3 : rowX X (w.alloc o) = rowX X w := rowX_same (((Below.refl w.heap.size w).alloc (Nat.le_refl _) o).block X h1)
  refine h.same _ (by rw [World.size_alloc]; omega) (by omega) fun e => ?_
  rw [h3] at e
  have := h2 _ e
  omega
set_option maxHeartbeats 4000000 in
set_option maxRecDepth 100000 in
theorem wnum_int (n X : Nat) (w0 : World) (I : List Nat → World → Prop) (T : Taker n X w0 I) (v : Int) (hv : i64 v) (us : List Nat) (hl : us.length ≤ 30000) (w : World) (hI : I us w) :
    Calls Try.prog 36 #[.func (.func n) #[] #[.pointer (some ⟨X, 0, none⟩)], .int .i64 v] w fun e w' => e = .returned (.tuple #[]) ∧ I (us ++ [fold v]) w' ∧ Fr X w w' := by
  have C := Lib.hid (T.take us (fold v) w hl (fold_lt hv) hI)
  have R := T.run #[.int .u64 (fold v : Int), .pointer (some ⟨X, 0, none⟩)] w
  clear T hI hl
  obtain ⟨h1, h2⟩ := hv
  rcases Int.lt_or_le v 0 with hn | hn
  · have hz := Lib.zigzag_neg h1 hn
    rw [← fold_zig] at hz
    have hd : decide (v < 0) = true := decide_eq_true hn
    go_enter Try.func36, Try.ntmps36
    go_wp2_with ((with_reducible refine C.out.mono ?_); rintro e w1 ⟨rfl, hI⟩)
    go_end0
    exact ⟨rfl, hI⟩
  · have hz : v * 2 = ((fold v : Nat) : Int) := by rw [fold_zig, Lib.zigzag_nonneg hn]
    have hd : decide (v < 0) = false := decide_eq_false (by omega)
    go_enter Try.func36, Try.ntmps36
    go_wp2_with ((with_reducible refine C.out.mono ?_); rintro e w1 ⟨rfl, hI⟩)
    go_end0
    exact ⟨rfl, hI⟩
set_option maxHeartbeats 4000000 in
set_option maxRecDepth 100000 in
theorem wnum_int64 (n X : Nat) (w0 : World) (I : List Nat → World → Prop) (T : Taker n X w0 I) (v : Int) (hv : i64 v) (us : List Nat) (hl : us.length ≤ 30000) (w : World) (hI : I us w) :
    Calls Try.prog 38 #[.func (.func n) #[] #[.pointer (some ⟨X, 0, none⟩)], .int .i64 v] w fun e w' => e = .returned (.tuple #[]) ∧ I (us ++ [fold v]) w' ∧ Fr X w w' := by
  have C := Lib.hid (T.take us (fold v) w hl (fold_lt hv) hI)
  have R := T.run #[.int .u64 (fold v : Int), .pointer (some ⟨X, 0, none⟩)] w
  clear T hI hl
  obtain ⟨h1, h2⟩ := hv
  rcases Int.lt_or_le v 0 with hn | hn
  · have hz := Lib.zigzag_neg h1 hn
    rw [← fold_zig] at hz
    have hd : decide (v < 0) = true := decide_eq_true hn
    go_enter Try.func38, Try.ntmps38
    go_wp2_with ((with_reducible refine C.out.mono ?_); rintro e w1 ⟨rfl, hI⟩)
    go_end0
    exact ⟨rfl, hI⟩
  · have hz : v * 2 = ((fold v : Nat) : Int) := by rw [fold_zig, Lib.zigzag_nonneg hn]
    have hd : decide (v < 0) = false := decide_eq_false (by omega)
    go_enter Try.func38, Try.ntmps38
    go_wp2_with ((with_reducible refine C.out.mono ?_); rintro e w1 ⟨rfl, hI⟩)
    go_end0
    exact ⟨rfl, hI⟩
/-- an element of an array by value -/
theorem run_index_agg {t e : TypeId} {n : Nat} (ht : Try.prog.underlying t = some (.array n e)) (hz : ∀ w, (sizeOf e).run Try.prog w = .ok 1 w) (ha : ∀ w, (isAgg e).run Try.prog w = .ok false w) {cs : Array Value} {c : Nat} (hc : c < n) {v : Value} (hv : cs[c]? = some v) (w : World) :
    (Instr.index t (.agg cs) (.int .i64 (c : Int))).run Try.prog w = .ok v w := by
  have h1 : (0 : Int) ≤ (c : Int) ∧ (c : Int) < (n : Int) := by omega
  simp [Instr.index, run_underlying ht, asIntOf, h1, part, hz, ha, hv, hc]
theorem wpList_index {ops : Array Oper} {rest : List Oper} {o : Oper} {a : Act} {Q : Exit → Act → World → Prop} (w : World) (hgd : o.guard = none) (t : TypeId) (x i : Operand) (ho : o.op = .index t x i) (cs : Array Value) (c : Nat) (v : Value)
    (hx : a.eval x = .agg cs) (hi : a.eval i = .int .i64 (c : Int)) (hrun : (Instr.index t (.agg cs) (.int .i64 (c : Int))).run Try.prog w = .ok v w) (h : wpList Try.prog ops Q rest (a.put o.dst v) w) : wpList Try.prog ops Q (o :: rest) a w := by
  refine wpList_plain hgd fun K hK => ?_
  unfold Oper.wp
  simp [execOp, ho, hx, hi, hrun, Result.andThen]
  exact hK _ _ h
/-- an instruction's numbers -/
def numsI (x : Six) : List Nat := [fold x.op, fold x.d, fold x.a, fold x.b, fold x.c, fold x.v]
set_option maxHeartbeats 8000000 in
set_option maxRecDepth 100000 in
theorem wins_any (n X : Nat) (w0 : World) (I : List Nat → World → Prop) (T : Taker n X w0 I) (x : Six) (hx : x.ok) (us : List Nat) (hl : us.length + 6 ≤ 30000) (w : World) (hI : I us w) :
    Calls Try.prog 40 #[.func (.func n) #[] #[.pointer (some ⟨X, 0, none⟩)], .agg #[.int .i64 x.op, .int .i64 x.d, .int .i64 x.a, .int .i64 x.b, .int .i64 x.c, .int .i64 x.v]] w fun e w' => e = .returned (.tuple #[]) ∧ I (us ++ numsI x) w' ∧ Fr X w w' := by
  obtain ⟨k1, k2, k3, k4, k5, k6⟩ := hx
  have N : Hid (∀ (v : Int) (vs : List Nat) (W : World), i64 v → vs.length ≤ 30000 → I vs W → Calls Try.prog 36 #[.func (.func n) #[] #[.pointer (some ⟨X, 0, none⟩)], .int .i64 v] W fun e w' => e = .returned (.tuple #[]) ∧ I (vs ++ [fold v]) w' ∧ Fr X W w') := Lib.hid fun v vs W h1 h2 h3 => wnum_int n X w0 I T v h1 vs h2 W h3
  have M : Hid (∀ (v : Int) (vs : List Nat) (W : World), i64 v → vs.length ≤ 30000 → I vs W → Calls Try.prog 38 #[.func (.func n) #[] #[.pointer (some ⟨X, 0, none⟩)], .int .i64 v] W fun e w' => e = .returned (.tuple #[]) ∧ I (vs ++ [fold v]) w' ∧ Fr X W w') := Lib.hid fun v vs W h1 h2 h3 => wnum_int64 n X w0 I T v h1 vs h2 W h3
  have hl' := Lib.hid hl
  have HI := Lib.hid hI
  have HA := Lib.hid (T.more (.cells #[.int .i64 x.op, .int .i64 x.d, .int .i64 x.a, .int .i64 x.b, .int .i64 x.c, .int .i64 x.v] 59) hI)
  have K := Lib.hid (And.intro k1 (And.intro k2 (And.intro k3 (And.intro k4 (And.intro k5 k6)))))
  have HT := Lib.hid T
  clear T hI hl k1 k2 k3 k4 k5 k6
  go_enter Try.func40, Try.ntmps40
  go_wp2_with fail
  go_loopw [17] (fun i wr => ∃ c : Nat, i = .int .i64 (c : Int) ∧ c ≤ 5 ∧ Hid (I (us ++ (numsI x).take c) wr) ∧ Hid (Fr X (w.alloc (.cells #[.int .i64 x.op, .int .i64 x.d, .int .i64 x.a, .int .i64 x.b, .int .i64 x.c, .int .i64 x.v] 59)) wr)) (fun i _ => match i with | .int _ z => 5 - z.toNat | _ => 0)
  case atStart => exact ⟨0, rfl, by omega, by rw [List.take_zero, List.append_nil]; exact HA, Lib.hid (Fr.refl _ _)⟩
  case round =>
    obtain ⟨c, rfl, hc, hJ, hF⟩ := hrel
    have hlen : ((us ++ (numsI x).take c).length) ≤ 30000 := by have := hl'.out; simp [numsI]; omega
    rcases Nat.lt_or_ge c 5 with hlt | hge
    · obtain ⟨v, hvd⟩ : ∃ v : Int, v = [x.op, x.d, x.a, x.b, x.c].getD c 0 := ⟨_, rfl⟩
      have hvi : i64 v := by
        obtain ⟨k1, k2, k3, k4, k5, k6⟩ := K.out
        match c, hlt with
        | 0, _ => exact hvd ▸ k1
        | 1, _ => exact hvd ▸ k2
        | 2, _ => exact hvd ▸ k3
        | 3, _ => exact hvd ▸ k4
        | 4, _ => exact hvd ▸ k5
      have hsn : us ++ (numsI x).take (c + 1) = (us ++ (numsI x).take c) ++ [fold v] := by
        subst hvd
        match c, hlt with
        | 0, _ => simp [numsI]
        | 1, _ => simp [numsI]
        | 2, _ => simp [numsI]
        | 3, _ => simp [numsI]
        | 4, _ => simp [numsI]
      have C := Lib.hid (N.out v _ _ hvi hlen hJ.out)
      rw [← hsn] at C
      clear hlen hvi hsn hJ
      rcases (show c = 0 ∨ c = 1 ∨ c = 2 ∨ c = 3 ∨ c = 4 by omega) with rfl | rfl | rfl | rfl | rfl
      · obtain rfl : v = x.op := hvd
        have ix := Lib.hid (run_index_agg (cs := #[.int .i64 x.op, .int .i64 x.d, .int .i64 x.a, .int .i64 x.b, .int .i64 x.c]) Try.underlying91 Try.sizeOf3 Try.isAgg3 (c := 0) (by omega) rfl wr)
        go_wp2_with (first | (refine wpList_index _ rfl _ (.tmp 16) (.tmp 17) rfl _ _ _ rfl rfl ix.out ?_) | (go_at_call 36; (with_reducible refine C.out.mono ?_); rintro e w1 ⟨rfl, hI1, hF1⟩; have HI1 := Lib.hid hI1; have HF1 := Lib.hid hF1; clear hI1 hF1))
        exact ⟨⟨1, rfl, by omega, HI1, Lib.hid (hF.out.trans HF1.out)⟩, by simp⟩
      · obtain rfl : v = x.d := hvd
        have ix := Lib.hid (run_index_agg (cs := #[.int .i64 x.op, .int .i64 x.d, .int .i64 x.a, .int .i64 x.b, .int .i64 x.c]) Try.underlying91 Try.sizeOf3 Try.isAgg3 (c := 1) (by omega) rfl wr)
        go_wp2_with (first | (refine wpList_index _ rfl _ (.tmp 16) (.tmp 17) rfl _ _ _ rfl rfl ix.out ?_) | (go_at_call 36; (with_reducible refine C.out.mono ?_); rintro e w1 ⟨rfl, hI1, hF1⟩; have HI1 := Lib.hid hI1; have HF1 := Lib.hid hF1; clear hI1 hF1))
        exact ⟨⟨2, rfl, by omega, HI1, Lib.hid (hF.out.trans HF1.out)⟩, by simp⟩
      · obtain rfl : v = x.a := hvd
        have ix := Lib.hid (run_index_agg (cs := #[.int .i64 x.op, .int .i64 x.d, .int .i64 x.a, .int .i64 x.b, .int .i64 x.c]) Try.underlying91 Try.sizeOf3 Try.isAgg3 (c := 2) (by omega) rfl wr)
        go_wp2_with (first | (refine wpList_index _ rfl _ (.tmp 16) (.tmp 17) rfl _ _ _ rfl rfl ix.out ?_) | (go_at_call 36; (with_reducible refine C.out.mono ?_); rintro e w1 ⟨rfl, hI1, hF1⟩; have HI1 := Lib.hid hI1; have HF1 := Lib.hid hF1; clear hI1 hF1))
        exact ⟨⟨3, rfl, by omega, HI1, Lib.hid (hF.out.trans HF1.out)⟩, by simp⟩
      · obtain rfl : v = x.b := hvd
        have ix := Lib.hid (run_index_agg (cs := #[.int .i64 x.op, .int .i64 x.d, .int .i64 x.a, .int .i64 x.b, .int .i64 x.c]) Try.underlying91 Try.sizeOf3 Try.isAgg3 (c := 3) (by omega) rfl wr)
        go_wp2_with (first | (refine wpList_index _ rfl _ (.tmp 16) (.tmp 17) rfl _ _ _ rfl rfl ix.out ?_) | (go_at_call 36; (with_reducible refine C.out.mono ?_); rintro e w1 ⟨rfl, hI1, hF1⟩; have HI1 := Lib.hid hI1; have HF1 := Lib.hid hF1; clear hI1 hF1))
        exact ⟨⟨4, rfl, by omega, HI1, Lib.hid (hF.out.trans HF1.out)⟩, by simp⟩
      · obtain rfl : v = x.c := hvd
        have ix := Lib.hid (run_index_agg (cs := #[.int .i64 x.op, .int .i64 x.d, .int .i64 x.a, .int .i64 x.b, .int .i64 x.c]) Try.underlying91 Try.sizeOf3 Try.isAgg3 (c := 4) (by omega) rfl wr)
        go_wp2_with (first | (refine wpList_index _ rfl _ (.tmp 16) (.tmp 17) rfl _ _ _ rfl rfl ix.out ?_) | (go_at_call 36; (with_reducible refine C.out.mono ?_); rintro e w1 ⟨rfl, hI1, hF1⟩; have HI1 := Lib.hid hI1; have HF1 := Lib.hid hF1; clear hI1 hF1))
        exact ⟨⟨5, rfl, by omega, HI1, Lib.hid (hF.out.trans HF1.out)⟩, by simp⟩
    · obtain rfl : c = 5 := by omega
      have hb : wr.heap[w.heap.size]? = some (.cells #[.int .i64 x.op, .int .i64 x.d, .int .i64 x.a, .int .i64 x.b, .int .i64 x.c, .int .i64 x.v] 59 (0, 0)) := (HT.out.new HI.out hF.out).trans (heap_alloc_new w _)
      have c5 : wr.cell? ⟨w.heap.size, 5, none⟩ = some (.int .i64 x.v) := by simp [World.cell?, hb]
      have C := Lib.hid (M.out x.v _ _ K.out.2.2.2.2.2 hlen hJ.out)
      have hsn : (us ++ (numsI x).take 5) ++ [fold x.v] = us ++ numsI x := by simp [numsI]
      rw [hsn] at C
      clear hb hsn hJ hlen
      go_wp2_with (go_at_call 38; (with_reducible refine C.out.mono ?_); rintro e w1 ⟨rfl, hI1, hF1⟩; have HI1 := Lib.hid hI1; have HF1 := Lib.hid hF1; clear hI1 hF1)
      go_end0
      exact ⟨rfl, HI1.out, (Fr.alloc (HT.out.lt HI.out).1 _).trans (hF.out.trans HF1.out)⟩
end Go.Proofs.Ytodblepbedhnnaa
