/- alive: the document's example of layer 4. -/
import Derived.Test.YtiilgehdkanmnaaNames
namespace Go.Proofs.Ytiilgehdkanmnaa
open Go.RowKit Go.Shelf
open Classical

attribute [local go_sem] Oper.semAt_some

def exX : ByteArray := ⟨#[120]⟩
def exP : Pr := ⟨[], [⟨1, 0, 0, 0, ByteArray.empty, ByteArray.empty, 4294967296, [], 0⟩, ⟨3, 0, 0, 0, exX, ByteArray.empty, 0, [], 0⟩, ⟨6, 0, 1, 0, ByteArray.empty, ByteArray.empty, 0, [], 0⟩]⟩
theorem ex_deep : deepP exP 2 = 2 := by decide +kernel
theorem ex_parts : partsE ⟨6, 0, 1, 0, ByteArray.empty, ByteArray.empty, 0, [], 0⟩ = [0, 1] := by decide +kernel
theorem ex_met : metP exP 2 = [2, 0, 1] := by decide +kernel
theorem ex_names : namesP exP 2 = [exX] := by
  unfold namesP
  rw [if_pos (by decide +kernel), show (2 : Int).toNat = 2 from rfl, ex_met]
  show namesL exP (([] ++ [2] ++ [0]) ++ [1]) = _
  have e1 : namesL exP [] = [] := rfl
  have e2 : namesL exP ([] ++ [2]) = [] := (names_skip (x := ⟨6, 0, 1, 0, ByteArray.empty, ByteArray.empty, 0, [], 0⟩) rfl (by decide)).trans e1
  have e3 : namesL exP ([] ++ [2] ++ [0]) = [] := (names_skip (x := ⟨1, 0, 0, 0, ByteArray.empty, ByteArray.empty, 4294967296, [], 0⟩) rfl (by decide)).trans e2
  rw [names_step (x := ⟨3, 0, 0, 0, exX, ByteArray.empty, 0, [], 0⟩) rfl rfl (by rw [e3]; simp), e3]
  rfl
theorem ex_list : (exX.toList == [120]) = true := by decide +kernel
theorem ex_small : Small exP := by
  constructor <;> decide +kernel
def exRow : Array Value := #[.int .i64 1, .int .i64 0, .int .i64 0, .int .i64 0, .string ⟨#[]⟩, .string ⟨#[]⟩, .int .i64 4294967296, .slice none 0 0, .int .i64 0, .int .i64 3, .int .i64 0, .int .i64 0, .int .i64 0, .string ⟨#[120]⟩, .string ⟨#[]⟩, .int .i64 0, .slice none 0 0, .int .i64 0, .int .i64 6, .int .i64 0, .int .i64 1, .int .i64 0, .string ⟨#[]⟩, .string ⟨#[]⟩, .int .i64 0, .slice none 0 0, .int .i64 0]
theorem ex_at (W : World) (b : Nat) (h : W.heap[b]? = some (.cells exRow 34 (0, 0))) : ∀ i, i < 3 → ∀ x, exP.exprs[i]? = some x → ExAt W b (0 + i * 9) x := by
  have hc : ∀ j v, exRow[j]? = some v → W.cell? ⟨b, j, none⟩ = some v := fun j v hv => by simp [World.cell?, h, hv]
  have hn : IntsAt W (.slice none 0 0) [] := slAt_none _ _ _ _ _ ⟨Nat.zero_le _, fun _ => rfl⟩ rfl
  intro i hi x hx
  match i, hi, hx with
  | 0, _, hx =>
    cases hx
    exact ⟨.slice none 0 0, hc _ _ rfl, hc _ _ rfl, hc _ _ rfl, hc _ _ rfl, hc _ _ rfl, hc _ _ rfl, hc _ _ rfl, hc _ _ rfl, hc _ _ rfl, hn, by constructor <;> first | exact ⟨by decide, by decide⟩ | decide⟩
  | 1, _, hx =>
    cases hx
    exact ⟨.slice none 0 0, hc _ _ rfl, hc _ _ rfl, hc _ _ rfl, hc _ _ rfl, hc _ _ rfl, hc _ _ rfl, hc _ _ rfl, hc _ _ rfl, hc _ _ rfl, hn, by constructor <;> first | exact ⟨by decide, by decide⟩ | decide⟩
  | 2, _, hx =>
    cases hx
    exact ⟨.slice none 0 0, hc _ _ rfl, hc _ _ rfl, hc _ _ rfl, hc _ _ rfl, hc _ _ rfl, hc _ _ rfl, hc _ _ rfl, hc _ _ rfl, hc _ _ rfl, hn, by constructor <;> first | exact ⟨by decide, by decide⟩ | decide⟩
theorem ex_prog (W : World) (b : Nat) (h : W.heap[b]? = some (.cells exRow 34 (0, 0))) : ProgAt W (.slice none 0 0) (.slice (some ⟨b, 0, none⟩) 3 3) exP :=
  ⟨slAt_none _ _ _ _ _ ⟨Nat.zero_le _, fun _ => rfl⟩ rfl, slAt_some (by decide) (by decide) (ex_at W b h), by decide, by decide⟩
set_option maxHeartbeats 8000000 in
set_option maxRecDepth 100000 in
theorem alive_any (w : World) : Calls Try.prog 4 #[] w fun e w' => e = .returned (.bool true) ∧ Below w.heap.size w w' := by
  have hb0 := Lib.hid (((Below.refl w.heap.size w).alloc (Nat.le_refl _) (.cells exRow 34)).alloc (by rw [World.size_alloc]; omega) (.cells #[.slice none 0 0, .slice (some ⟨w.heap.size, 0, none⟩) 3 3] 25))
  have hB0 : Hid (((w.alloc (.cells exRow 34)).alloc (.cells #[.slice none 0 0, .slice (some ⟨w.heap.size, 0, none⟩) 3 3] 25)).heap[w.heap.size]? = some (.cells exRow 34 (0, 0))) := Lib.hid (by
    rw [heap_old _ _ _ (by rw [World.size_alloc]; omega)]; exact World.alloc_heap_new w _)
  have hB1 : Hid (((w.alloc (.cells exRow 34)).alloc (.cells #[.slice none 0 0, .slice (some ⟨w.heap.size, 0, none⟩) 3 3] 25)).heap[w.heap.size + 1]? = some (.cells #[.slice none 0 0, .slice (some ⟨w.heap.size, 0, none⟩) 3 3] 25 (0, 0))) := Lib.hid (by
    have h := World.alloc_heap_new (w.alloc (.cells exRow 34)) (.cells #[.slice none 0 0, .slice (some ⟨w.heap.size, 0, none⟩) 3 3] 25)
    rwa [World.size_alloc] at h)
  have CN := names_any (.slice none 0 0) (.slice (some ⟨w.heap.size, 0, none⟩) 3 3) exP 2 ((w.alloc (.cells exRow 34)).alloc (.cells #[.slice none 0 0, .slice (some ⟨w.heap.size, 0, none⟩) 3 3] 25)) (ex_prog _ _ hB0.out) ex_small
  rw [ex_names] at CN
  replace CN := Lib.hid (callsIn_wide.1 CN)
  obtain ⟨W2, hW2⟩ : ∃ W2, W2 = (w.alloc (.cells exRow 34)).alloc (.cells #[.slice none 0 0, .slice (some ⟨w.heap.size, 0, none⟩) 3 3] 25) := ⟨_, rfl⟩
  rw [← hW2] at hb0 hB0 hB1 CN
  unfold exRow at hW2
  go_enter Try.func4, Try.ntmps4
  go_wp2_with (fail)
  rw [← hW2]
  go_at_call 13
  ((with_reducible refine CN.out.mono ?_))
  rintro e w1 ⟨v, rfl, hown, hb⟩
  obtain ⟨g, cap, rfl⟩ := ownsRow_succ hown
  have k1 : w1.heap[w.heap.size + 1]? = _ := (hb.block _ (lt_of_heap hB1.out)).trans hB1.out
  have k0 : w1.heap[w.heap.size]? = _ := (hb.block _ (lt_of_heap hB0.out)).trans hB0.out
  have p0 : w1.cell? ⟨w.heap.size + 1, 0, none⟩ = some (.slice none 0 0) := by simp [World.cell?, k1]
  have p1 : w1.cell? ⟨w.heap.size + 1, 1, none⟩ = some (.slice (some ⟨w.heap.size, 0, none⟩) 3 3) := by simp [World.cell?, k1]
  have n0 : w1.cell? ⟨g, 0, none⟩ = some (.string exX) := by
    have := hown.cells (g := g) rfl 0 (.string exX) rfl
    exact this
  have hc : ∀ j v, exRow[j]? = some v → w1.cell? ⟨w.heap.size, j, none⟩ = some v := fun j v hv => by simp [World.cell?, k0, hv]
  have e0 := hc 18 (.int .i64 6) rfl
  have e1 := hc 19 (.int .i64 0) rfl
  have e2 := hc 20 (.int .i64 1) rfl
  have e3 := hc 21 (.int .i64 0) rfl
  have e4 := hc 22 (.string ⟨#[]⟩) rfl
  have e5 := hc 23 (.string ⟨#[]⟩) rfl
  have e6 := hc 24 (.int .i64 0) rfl
  have e7 := hc 25 (.slice none 0 0) rfl
  have e8 := hc 26 (.int .i64 0) rfl
  have HB := Lib.hid (hb0.out.trans (hb.mono hb0.out.size))
  obtain ⟨s2, q0, q1, q2, q3, q4, q5, q6, q7, q8, q9, q10⟩ := ex_at w1 w.heap.size k0 2 (by omega) _ rfl
  have hs2 : s2 = .slice none 0 0 := by
    have := q7.symm.trans e7
    exact Option.some.inj this
  subst hs2
  have CP := parts_fn _ _ w1 q9 q10 (by rw [ex_parts]; decide)
  rw [ex_parts] at CP
  have CP : Hid (Calls Try.prog 14 #[.agg #[.int .i64 6, .int .i64 0, .int .i64 1, .int .i64 0, .string ⟨#[]⟩, .string ⟨#[]⟩, .int .i64 0, .slice none 0 0, .int .i64 0]] w1 fun e w' => NewInts [0, 1] w1 e w') := Lib.hid CP
  have CD : Hid (∀ W, Below w1.heap.size w1 W → Calls Try.prog 12 #[.agg #[.slice none 0 0, .slice (some ⟨w.heap.size, 0, none⟩) 3 3], .int .i64 2] W fun r w' => r = .returned (.int .i64 2) ∧ Below W.heap.size W w') := Lib.hid fun W hW => by
    have h := callsIn_wide.1 (deep_any (.slice none 0 0) (.slice (some ⟨w.heap.size, 0, none⟩) 3 3) exP 2 W (ex_prog _ _ ((hW.block _ (lt_of_heap k0)).trans k0)) ex_small)
    rwa [ex_deep] at h
  have K0 := Lib.hid k0
  clear hb k1 k0 hown CN hc q0 q1 q2 q3 q4 q5 q6 q7 q8 q9 q10
  go_wp2_with (first
    | (go_at_call 14; ((with_reducible refine CP.out.mono ?_)); rintro e w2 ⟨v, rfl, hown2, hb2⟩; obtain ⟨g2, cap2, rfl⟩ := ownsRow_succ hown2; have p2 := cell_on hb2 p0; have p3 := cell_on hb2 p1; have n2 := cell_on hb2 n0; have HB2 := Lib.hid hb2; clear hown2 hb2)
    | (go_at_call 12; ((with_reducible refine (CD.out _ HB2.out).mono ?_)); rintro e w3 ⟨rfl, hb3⟩; have n3 := cell_on hb3 n2; have HB3 := Lib.hid hb3; clear hb3))
  rw [ex_list]
  exact ⟨rfl, _, results_tmp (t := 0) (by kernel_rfl) _ _ _, rfl, HB.out.trans ((HB2.out.trans (HB3.out.mono HB2.out.size)).mono HB.out.size)⟩
end Go.Proofs.Ytiilgehdkanmnaa
