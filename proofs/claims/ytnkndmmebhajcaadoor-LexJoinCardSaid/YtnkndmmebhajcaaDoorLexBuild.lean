/- A strings.Builder of the call's own; lex.Join. -/
import Derived.Test.YtnkndmmebhajcaaDoorLexTwo
import Derived.Lib.Builder
import Derived.Lib.AppendStr
import Derived.Lib.UnsafeStr
import Derived.Lib.OthersKept
import Derived.Lib.Walk
import Derived.Laws.Externs
namespace Go.Proofs.YtnkndmmebhajcaaDoor
open Go.RowKit

theorem size_builder : (Tryd.prog.info? 55).map (·.size) = some 2 := by kernel_rfl
theorem lies_builder : liesAt Tryd.prog Tryd.prog.depth 55 (2 / Tryd.prog.cellsOf 55) 0 55 1 = true := by kernel_rfl
theorem info_byte : (Tryd.prog.info? 5).map (fun i => (i.zero, i.size, i.bytes)) = some (some (.int .u8 0), 1, 1) := by kernel_rfl
set_option maxHeartbeats 1000000 in
theorem copy_used (b : Nat) (w : World) (h0 : w.cell? ⟨b, 0, none⟩ = some (.pointer (some ⟨b, 0, none⟩))) :
    Calls Tryd.prog 37 #[.pointer (some ⟨b, 0, none⟩)] w fun e w' => e = .returned (.tuple #[]) ∧ w' = w := by
  obtain ⟨j, hj, _⟩ := Option.map_eq_some_iff.1 size_builder
  go_enter Tryd.func37, Tryd.ntmps37
  go_wp2_with fail
  rw [Lib.run_neq_ptr_same w _ Tryd.underlying52 hj]
  go_wp2_with fail
  go_end0
  exact ⟨rfl, rfl⟩
set_option maxHeartbeats 1000000 in
theorem copy_fresh (b : Nat) (w : World) (h0 : w.cell? ⟨b, 0, none⟩ = some (.pointer none)) (hsh : w.shape? b = some (55, 2)) (hfz : w.frozen? ⟨b, 0, none⟩ = false) :
    Calls Tryd.prog 37 #[.pointer (some ⟨b, 0, none⟩)] w fun e w' => e = .returned (.tuple #[]) ∧ w' = w.setCell ⟨b, 0, none⟩ (.pointer (some ⟨b, 0, none⟩)) := by
  obtain ⟨j, hj, hjs⟩ := Option.map_eq_some_iff.1 size_builder
  go_enter Tryd.func37, Tryd.ntmps37
  go_wp2_with fail
  rw [Lib.run_to_unsafe w ⟨b, 0, none⟩ Tryd.underlying52 Tryd.underlying81 hj (by rw [hjs]; decide) hsh (Nat.zero_lt_succ 1)]
  simp only [Result.andThen]
  rw [Oper.upon_value]
  go_wp2_with fail
  rw [run_callFunc_extern Tryd.func49 (by kernel_rfl) (by kernel_rfl) (by kernel_rfl) (e := Extern.AbiNoEscape.same) (by kernel_rfl)]
  rw [Lib.run_noEscape]
  simp only [Result.andThen]
  rw [Oper.upon_value]
  go_wp2_with fail
  rw [Lib.run_from_unsafe w ⟨b, 0, none⟩ Tryd.underlying81 Tryd.underlying52 hj hsh lies_builder]
  simp only [Result.andThen]
  rw [Oper.upon_value]
  go_wp2_with fail
  go_end0
  exact ⟨rfl, rfl⟩
theorem ownsRow_kind {w : World} {B : Nat} {e : TypeId} {v : Value} {n : Nat} {xs : List Value} (h : w.ownsRow B e 1 v n xs) : ∀ g, v.ownBlock = some g → ∃ c fz, w.heap[g]? = some (.cells c e fz) := by
  intro g hg
  rcases h.2 with ⟨rfl, _⟩ | ⟨g', cap, cur, rfl, _, hgg, _⟩
  · simp [Value.ownBlock] at hg
  · simp [Value.ownBlock] at hg
    subst hg
    exact ⟨cur, _, hgg⟩
theorem copy_any (B b : Nat) (bs : List Value) (w : World) (h : Lib.IsBuilder 55 5 B b bs w) :
    Calls Tryd.prog 37 #[.pointer (some ⟨b, 0, none⟩)] w fun e w' => e = .returned (.tuple #[]) ∧ (Lib.BuilderAt 55 5 B b (.pointer (some ⟨b, 0, none⟩)) bs w' ∧ Below B w w' ∧ Lib.OthersKept 5 (some b) w w') := by
  rcases h with h | h
  · exact (copy_fresh b w h.cell0 h.shape h.frozen0).mono fun e w' ⟨h1, h2⟩ => ⟨h1, by rw [h2]; exact h.used _, by rw [h2]; exact (Below.refl B w).setCell (p := ⟨b, 0, none⟩) h.1 _, by rw [h2]; exact (Lib.OthersKept.refl _ _ w).setCell (p := ⟨b, 0, none⟩) rfl _⟩
  · exact (copy_used b w h.cell0).mono fun e w' ⟨h1, h2⟩ => ⟨h1, by rw [h2]; exact h, by rw [h2]; exact Below.refl B _, by rw [h2]; exact Lib.OthersKept.refl _ _ w⟩
set_option maxHeartbeats 2000000 in
theorem write_str (B b : Nat) (m t : List UInt8) (w : World) (h : Lib.IsBuilder 55 5 B b (Lib.byteCells m) w) (hlen : m.length + t.length ≤ 1000000) (hBw : B ≤ w.heap.size) :
    Calls Tryd.prog 23 #[.pointer (some ⟨b, 0, none⟩), .string (str t)] w fun e w' => e = .returned (.tuple #[.int .i64 (t.length : Int), .nilIface]) ∧ Lib.IsBuilder 55 5 B b (Lib.byteCells (m ++ t)) w' ∧ Below B w w' ∧ Lib.OthersKept 5 (some b) w w' := by
  obtain ⟨i0, hi, hz0, hz1, hz2⟩ := info_parts info_byte
  have hts : (str t).size = t.length := str_size t
  have hml : (Lib.byteCells m).length = m.length := Lib.byteCells_length m
  have C := Lib.hid (copy_any B b _ w h)
  have HML := Lib.hid hml
  clear hml h
  go_enter Tryd.func23, Tryd.ntmps23
  go_wp2_with (go_at_call 37; refine C.out.mono ?_)
  rintro e w1 ⟨rfl, h1, hb1, ho1⟩
  obtain ⟨hB, v, hbk, hown, hne⟩ := h1
  have c0 : w1.cell? ⟨b, 0, none⟩ = some (.pointer (some ⟨b, 0, none⟩)) := by rw [Lib.cell_of_heap hbk]; rfl
  have c1 : w1.cell? ⟨b, 1, none⟩ = some v := by rw [Lib.cell_of_heap hbk]; rfl
  go_wp2_with (at_builtin; refine Lib.wpList_append_own_string _ rfl _ _ 53 9 rfl B 5 i0 Tryd.underlying53 Tryd.underlying9 hi hz0 hz1 hz2 _ _ _ rfl hown (str t) rfl ?c3 ?c4 ?c5 ?_)
  case c3 => unfold maxLen; have := HML.out; omega
  case c4 => have := HML.out; omega
  case c5 => have := hb1.size; omega
  intro v' w2 hown' hgrow _
  have hlt : b < w1.heap.size := lt_of_heap hbk
  have hb2 : w2.heap[b]? = some (.cells #[.pointer (some ⟨b, 0, none⟩), v] 55 (0, 0)) := by
    rw [hgrow.block b hlt (fun e => hne e.symm)]
    exact hbk
  have d0 : w2.cell? ⟨b, 0, none⟩ = some (.pointer (some ⟨b, 0, none⟩)) := by rw [Lib.cell_of_heap hb2]; rfl
  have d1 : w2.cell? ⟨b, 1, none⟩ = some v := by rw [Lib.cell_of_heap hb2]; rfl
  have f1 : w2.frozen? ⟨b, 1, none⟩ = false := Lib.frozen_of_heap hb2 1
  obtain ⟨ao, n', cap, rfl⟩ : ∃ ao n' cap, v' = .slice ao n' cap := by
    rcases hown'.2 with ⟨hv, _⟩ | ⟨g, cap, cur, hv, _⟩
    · exact ⟨_, _, _, hv⟩
    · exact ⟨_, _, _, hv⟩
  go_wp2_with fail
  go_ret2
  have ecat : Lib.byteCells (m ++ t) = Lib.byteCells m ++ Lib.strCells (str t) := by rw [Lib.strCells_eq, str_data]; unfold Lib.byteCells; rw [List.map_append]
  refine ⟨rfl, .inr ?_, ?_, ?_⟩
  · rw [ecat]
    exact Lib.BuilderAt.put (T := 55) (e := 5) hB hb2 (bs' := Lib.byteCells m ++ Lib.strCells (str t)) (by simpa [Lib.strCells_length, hts] using hown') (by decide)
  · exact (hb1.grown hgrow (by have := hb1.size; omega) (fun k hk => (hown.lt k hk).1)).setCell (p := ⟨b, 1, none⟩) hB _
  · exact (ho1.grown hgrow (fun k hk => ownsRow_kind hown k hk)).setCell (p := ⟨b, 1, none⟩) rfl _
theorem builder_alloc {B b : Nat} {bs : List Value} {w : World} (h : Lib.IsBuilder 55 5 B b bs w) (o : Obj) : Lib.IsBuilder 55 5 B b bs (w.alloc o) := by
  rcases h with ⟨hB, v, hb, hown, hne⟩ | ⟨hB, v, hb, hown, hne⟩
  · exact .inl ⟨hB, v, (heap_old w o b (lt_of_heap hb)).trans hb, hown.alloc o, hne⟩
  · exact .inr ⟨hB, v, (heap_old w o b (lt_of_heap hb)).trans hb, hown.alloc o, hne⟩
theorem join_snoc {ts : List Tok} {j : Nat} {t : Tok} (h : ts[j]? = some t) : joinT (ts.take (j + 1)) = joinT (ts.take j) ++ (if j = 0 then [] else [32]) ++ t.text := by
  induction ts generalizing j with
  | nil => simp at h
  | cons u ts ih =>
    cases j with
    | zero => simp at h; subst h; simp [joinT]
    | succ j =>
      have h2 := ih (j := j) (by simpa using h)
      rw [if_neg (by omega), List.take_succ_cons, List.take_succ_cons, join_cons, join_cons]
      cases j with
      | zero =>
        cases ts with
        | nil => simp at h
        | cons x ts => simp at h; subst h; simp [joinR, joinT]
      | succ j =>
        rw [if_neg (by omega)] at h2
        cases ts with
        | nil => simp at h
        | cons x ts =>
          rw [List.take_succ_cons] at h2 ⊢
          rw [List.take_succ_cons] at h2 ⊢
          show u.text ++ 32 :: joinT (x :: ts.take (j + 1)) = u.text ++ 32 :: joinT (x :: ts.take j) ++ [32] ++ t.text
          rw [h2]
          simp
theorem toks_sum {l : List UInt8} {a : Nat} {ts : List Tok} {r : Option Nat} (h : Toks l a ts r) : (ts.map fun t => t.text.length).sum + a ≤ max a l.length := by
  induction h with
  | fin h => simp; omega
  | bad h => simp; omega
  | @tok a ts r h h1 h2 ih =>
    have h3 := gapTo_ge false l (a + (tokAt l a).text.length)
    have h4 := tokAt_len h1
    have h5 := gapTo_le false (l := l) (a := a + (tokAt l a).text.length) h4.2
    simp only [List.map_cons, List.sum_cons]
    omega
theorem join_le (ts : List Tok) : (joinT ts).length ≤ (ts.map fun t => t.text.length).sum + ts.length := by
  induction ts with
  | nil => simp [joinT]
  | cons t ts ih =>
    rw [join_cons, List.length_append]
    simp only [List.map_cons, List.sum_cons, List.length_cons]
    have : (joinR ts).length ≤ (joinT ts).length + 1 := by
      cases ts with
      | nil => simp [joinR]
      | cons u ts => simp [joinR]
    omega
theorem join_take_le (ts : List Tok) (j : Nat) : (joinT (ts.take j)).length ≤ (ts.map fun t => t.text.length).sum + ts.length := by
  have h1 := join_le (ts.take j)
  have h2 : ((ts.take j).map fun t => t.text.length).sum ≤ (ts.map fun t => t.text.length).sum := by
    conv => rhs; rw [← List.take_append_drop j ts]
    rw [List.map_append, List.sum_append]
    omega
  have h3 : (ts.take j).length ≤ ts.length := by rw [List.length_take]; omega
  omega
end Go.Proofs.YtnkndmmebhajcaaDoor
