/- The law of VerifyCut. -/
import Derived.Test.YtceadfkjknjaoaaDoorVeRRight
import Derived.Test.YtceadfkjknjaoaaDoorVeGreat
namespace Go.Proofs.YtceadfkjknjaoaaDoor
open Go.RowKit Co

attribute [local go_sem] Oper.semAt_some

theorem still_of_quiet {P : Program} {ops : Array Oper} {w : World} {Q : Act → Prop} : ∀ (l : List Oper) (a : Act), wpQuiet P ops (fun w' => w' = w) Q l a → wpStill P ops w Q l a
  | [], _, h => h
  | o :: rest, a, h => by
    unfold wpQuiet at h
    unfold wpStill
    by_cases hw : Region.wanted o (yielded ops a.tmps) = true
    · rw [if_pos hw] at h ⊢
      obtain ⟨v, h1, h2⟩ := h
      have h3 := h1 w rfl
      have h4 := still_of_quiet rest _ h2
      unfold Oper.quietAt at h3
      unfold Oper.still
      revert h3
      generalize (execOp a.eval o).run P w = r
      intro h3
      match r, h3 with
      | .ok (.value u) w', ⟨e1, e2⟩ => exact ⟨e1, by rw [e2]; exact h4⟩
      | .ok .skip w', ⟨e1, e2⟩ => exact ⟨e1, by rw [← e2]; exact h4⟩
      | .ok (.enter f args) w', ⟨e1, e2⟩ => exact ⟨e1, v, e2, h4⟩
    · rw [if_neg hw] at h ⊢
      exact still_of_quiet rest _ h
theorem tail_by_quiet {id : Nat} {P : Program} {Q : Exit → Act → World → Prop} {a : Act} {w : World} {l : List Oper} (n : Nat) (hm : P.follows .mixedOrders = true) (hB : Region.lexTailB .any l.toArray n = true)
    (h : wpQuiet P l.toArray (fun w' => w' = w.drew) (fun a' => wpList P l.toArray Q (l.drop n) a' w.drew) (l.take n) a) : (Code.region id l.toArray true).wp P Q a w := wp_region_still_tail n hm hB (still_of_quiet _ _ h)
/-- a beginning of an object -/
def cutO (o : Ob) (i j k : Nat) : Ob := ⟨o.inn, o.out, o.state, o.mem, o.cross, o.flags, o.deriv.take i, o.zero.take j, [], o.at_.take k⟩
theorem slice_pre (q : Option Addr) (len d i : Nat) (h : i ≤ d) (hq : q = none → d = 0) (W : World) : (Instr.sliceAt 22 (.slice q len d) none (some (.int .i64 (i : Int))) none).run Tryd.prog W = .ok (.slice q i d) W := by
  have h1 : (i : Int) ≤ (d : Int) := by omega
  cases q with
  | none =>
    obtain rfl := hq rfl
    obtain rfl : i = 0 := by omega
    go_simp
  | some a => go_simp
theorem cell_of_heap {W : World} {B c : Nat} {cs : Array Value} {T : TypeId} {fr : Nat × Nat} {u : Value} (h : W.heap[B]? = some (.cells cs T fr)) (hc : cs.toList[c]? = some u) : W.cell? ⟨B, c, none⟩ = some u := by
  rw [Array.getElem?_toList] at hc
  simp [World.cell?, h, hc]
theorem ten_of {W : World} {B : Nat} {a0 a1 a2 a3 a4 a5 a6 a7 a8 a9 : Value} {c : Nat} {u : Value} (h : [a0, a1, a2, a3, a4, a5, a6, a7, a8, a9][c]? = some u) (v0 : W.cell? ⟨B, 0, none⟩ = some a0) (v1 : W.cell? ⟨B, 1, none⟩ = some a1) (v2 : W.cell? ⟨B, 2, none⟩ = some a2) (v3 : W.cell? ⟨B, 3, none⟩ = some a3) (v4 : W.cell? ⟨B, 4, none⟩ = some a4) (v5 : W.cell? ⟨B, 5, none⟩ = some a5) (v6 : W.cell? ⟨B, 6, none⟩ = some a6) (v7 : W.cell? ⟨B, 7, none⟩ = some a7) (v8 : W.cell? ⟨B, 8, none⟩ = some a8) (v9 : W.cell? ⟨B, 9, none⟩ = some a9) : W.cell? ⟨B, c, none⟩ = some u := by
  match c, h with
  | 0, h => rw [← h]; exact v0
  | 1, h => rw [← h]; exact v1
  | 2, h => rw [← h]; exact v2
  | 3, h => rw [← h]; exact v3
  | 4, h => rw [← h]; exact v4
  | 5, h => rw [← h]; exact v5
  | 6, h => rw [← h]; exact v6
  | 7, h => rw [← h]; exact v7
  | 8, h => rw [← h]; exact v8
  | 9, h => rw [← h]; exact v9
  | n + 10, h => simp at h
theorem one_free {o : Ob} {p : Nat} {x : Six} {bh bh' : Int} (hp : p ≠ 2) (h : oneOk o p x bh = true) : oneOk o p x bh' = true := by
  unfold oneOk at h ⊢
  have hop : x.op ≠ 19 := by
    intro e
    unfold opOk onlyStep at h
    rw [e] at h
    simp [hp] at h
  have hb : oneB x bh' = oneB x bh := by unfold oneB; rw [if_neg hop, if_neg hop]
  rw [hb]
  exact h
theorem piece_cut {o : Ob} {i j k p c : Nat} {x : Six} (hp : p < 4) (h : (pieceL (cutO o i j k) p)[c]? = some x) : p ≠ 2 ∧ (pieceL o p)[c]? = some x := by
  rcases (show p = 0 ∨ p = 1 ∨ p = 2 ∨ p = 3 by omega) with rfl | rfl | rfl | rfl
  · refine ⟨by omega, ?_⟩
    have h : (o.deriv.take i)[c]? = some x := h
    rw [List.getElem?_take] at h
    split at h
    · exact h
    · cases h
  · refine ⟨by omega, ?_⟩
    have h : (o.zero.take j)[c]? = some x := h
    rw [List.getElem?_take] at h
    split at h
    · exact h
    · cases h
  · have h : ([] : List Six)[c]? = some x := h
    simp at h
  · refine ⟨by omega, ?_⟩
    have h : (o.at_.take k)[c]? = some x := h
    rw [List.getElem?_take] at h
    split at h
    · exact h
    · cases h
theorem len_cut (o : Ob) (i j k p : Nat) (hp : p < 4) : (pieceL (cutO o i j k) p).length ≤ (pieceL o p).length := by
  rcases (show p = 0 ∨ p = 1 ∨ p = 2 ∨ p = 3 by omega) with rfl | rfl | rfl | rfl
  · exact List.length_take_le' _ _
  · exact List.length_take_le' _ _
  · exact Nat.zero_le _
  · exact List.length_take_le' _ _
theorem right_cut {o : Ob} (i j k : Nat) (h : rightB o = true) : rightB (cutO o i j k) = true := by
  unfold rightB at h ⊢
  simp only [Bool.and_eq_true] at h ⊢
  obtain ⟨⟨h1, h2⟩, h3⟩ := h
  refine ⟨⟨(lens_iff _).2 fun p hp => Nat.le_trans (len_cut o i j k p hp) ((lens_iff o).1 h1 p hp), h2⟩, ?_⟩
  refine List.all_eq_true.2 fun q hq => ?_
  obtain ⟨hk4, hx⟩ := ins_mem hq
  obtain ⟨hp2, hx2⟩ := piece_cut hk4 hx
  have hok := List.all_eq_true.1 h3 (q.1, q.2.1, q.2.2) (mem_ins hk4 hx2)
  rw [okR_same hk4] at hok ⊢
  exact one_free (o := o) hp2 hok
theorem most_cut (o : Ob) (i j k : Nat) : mostO (cutO o i j k) ≤ mostO o := by
  unfold mostO
  have h1 : (o.deriv.take i).length ≤ o.deriv.length := List.length_take_le' _ _
  have h2 : (o.zero.take j).length ≤ o.zero.length := List.length_take_le' _ _
  have h3 : (o.at_.take k).length ≤ o.at_.length := List.length_take_le' _ _
  show ((o.deriv.take i).length : Int) + ((o.zero.take j).length : Int) + 0 + ((o.at_.take k).length : Int) ≤ _
  omega
theorem sixes_take {w : World} {q : Option Addr} {d : Nat} {l : List Six} (h : SixesAt w (.slice q l.length d) l) {i : Nat} (hi : i ≤ l.length) : SixesAt w (.slice q i d) (l.take i) := by
  obtain ⟨o, cap, b, off, e, h1, h2, h3, h4⟩ := h
  cases e
  have hl : (l.take i).length = i := by rw [List.length_take]; omega
  unfold SixesAt
  rw [hl]
  exact ⟨q, d, b, off, rfl, Nat.le_trans hi h1, h2, fun hp => h3 (by omega), fun c hc x hx => h4 c (by omega) x (by
    rw [List.getElem?_take, if_pos hc] at hx
    exact hx)⟩
theorem sixes_cap {w : World} {q : Option Addr} {d : Nat} {l : List Six} (h : SixesAt w (.slice q l.length d) l) : l.length ≤ d ∧ (q = none → d = 0) := by
  obtain ⟨o, cap, b, off, e, h1, h2, _⟩ := h
  cases e
  exact ⟨h1, h2.2⟩
theorem six_ok_take {l : List Six} (h : sixOk l) (i : Nat) : sixOk (l.take i) := ⟨Nat.le_trans (List.length_take_le' _ _) h.1, fun x hx => h.2 x (List.mem_of_mem_take hx)⟩
theorem cut_ok {o : Ob} (h : o.ok) (i j k : Nat) : (cutO o i j k).ok := by
  obtain ⟨a1, a2, a3, a4, a5, a6, a7, a8, a9, a10⟩ := h
  exact ⟨a1, a2, a3, a4, a5, a6, six_ok_take a7 i, six_ok_take a8 j, six_none, six_ok_take a10 k⟩
theorem cut_len {o : Ob} (h : ObLen o) (i j k : Nat) : ObLen (cutO o i j k) :=
  ⟨h.inn, h.out, h.state, h.mem, Nat.le_trans (List.length_take_le' _ _) h.deriv, Nat.le_trans (List.length_take_le' _ _) h.zero, Nat.zero_le _, Nat.le_trans (List.length_take_le' _ _) h.at_⟩
theorem rest_of {n : Int} (_h0 : 0 ≤ n) (m : Nat) : ∃ i : Nat, n % ((m : Int) + 1) = (i : Int) ∧ i ≤ m := by
  have h1 := Int.emod_nonneg n (show (m : Int) + 1 ≠ 0 by omega)
  have h2 := Int.emod_lt_of_pos n (show (0 : Int) < (m : Int) + 1 by omega)
  exact ⟨(n % ((m : Int) + 1)).toNat, by omega, by omega⟩
set_option maxHeartbeats 32000000 in
set_option maxRecDepth 100000 in
theorem cut_law (o : Ob) (s1 s2 s3 s4 t1 t2 t3 t4 : Value) (n : Int) (hn1 : 0 ≤ n) (hn2 : n < 256) (w : World) (hT : TabAt w) (hO : ObAt w s1 s2 s3 s4 t1 t2 t3 t4 o) (hL : ObLen o) (hK : o.ok) :
    Calls Tryd.prog 4 #[.agg (obCells s1 s2 s3 s4 o.cross o.flags t1 t2 t3 t4), .int .u8 n] w fun e w' => e = .returned (.bool true) ∧ Below w.heap.size w w' := by
  have n5 : (o.deriv.length : Int) ≤ 140737488351232 := by have := hL.deriv; unfold reachN at this; omega
  have n6 : (o.zero.length : Int) ≤ 140737488351232 := by have := hL.zero; unfold reachN at this; omega
  have n8 : (o.at_.length : Int) ≤ 140737488351232 := by have := hL.at_; unfold reachN at this; omega
  have HT := Lib.hid hT
  have HO := Lib.hid hO
  have HL := Lib.hid hL
  have HK := Lib.hid hK
  have AL := Lib.hid (fun (W : World) (hb : Below w.heap.size w W) => alive_any W (hT.below hb))
  have GR := Lib.hid (fun (W : World) (hb : Below w.heap.size w W) => great_any o s1 s2 s3 s4 t1 t2 t3 t4 W (hO.below hb) hL)
  have RR := Lib.hid (fun (W : World) (hb : Below w.heap.size w W) => rright_any o s1 s2 s3 s4 t1 t2 t3 t4 W (hO.below hb) hL)
  obtain ⟨o1, c1, o2, c2, o3, c3, o4, c4, q1, d1, q2, d2, q3, d3, q4, d4, rfl, rfl, rfl, rfl, rfl, rfl, rfl, rfl⟩ := obAt_slices hO
  clear hT hO hL hK
  unfold obCells at GR RR ⊢
  unfold RRPost at RR
  have X0 := Lib.hid (ten_cells w (.slice o1 o.inn.length c1) (.slice o2 o.out.length c2) (.slice o3 o.state.length c3) (.slice o4 o.mem.length c4) (.int .i64 o.cross) (.int .i64 o.flags) (.slice q1 o.deriv.length d1) (.slice q2 o.zero.length d2) (.slice q3 o.step.length d3) (.slice q4 o.at_.length d4))
  have HA := Lib.hid ((Below.refl w.heap.size w).alloc (Nat.le_refl _) (.cells #[.slice o1 o.inn.length c1, .slice o2 o.out.length c2, .slice o3 o.state.length c3, .slice o4 o.mem.length c4, .int .i64 o.cross, .int .i64 o.flags, .slice q1 o.deriv.length d1, .slice q2 o.zero.length d2, .slice q3 o.step.length d3, .slice q4 o.at_.length d4] 29))
  go_enter Tryd.func4, Tryd.ntmps4
  go_wp2_with (first
    | (go_at_call 6; (with_reducible refine (AL.out _ HA.out).mono ?_); rintro e w1 ⟨rfl, hb1⟩; have HB1 := Lib.hid (HA.out.trans (hb1.mono HA.out.size)); have y0 := cell_on hb1 (X0.out 0 _ rfl); have y1 := cell_on hb1 (X0.out 1 _ rfl); have y2 := cell_on hb1 (X0.out 2 _ rfl); have y3 := cell_on hb1 (X0.out 3 _ rfl); have y4 := cell_on hb1 (X0.out 4 _ rfl); have y5 := cell_on hb1 (X0.out 5 _ rfl); have y6 := cell_on hb1 (X0.out 6 _ rfl); have y7 := cell_on hb1 (X0.out 7 _ rfl); have y8 := cell_on hb1 (X0.out 8 _ rfl); have y9 := cell_on hb1 (X0.out 9 _ rfl); clear hb1)
    | (go_at_call 10; (with_reducible refine (GR.out _ HB1.out).mono ?_); rintro e w2 ⟨g, rfl, hb2⟩; have HB2 := Lib.hid (HB1.out.trans (hb2.mono HB1.out.size)); have u0 := cell_on hb2 y0; have u1 := cell_on hb2 y1; have u2 := cell_on hb2 y2; have u3 := cell_on hb2 y3; have u4 := cell_on hb2 y4; have u5 := cell_on hb2 y5; have u6 := cell_on hb2 y6; have u7 := cell_on hb2 y7; have u8 := cell_on hb2 y8; have u9 := cell_on hb2 y9; clear hb2 y0 y1 y2 y3 y4 y5 y6 y7 y8 y9; cases g)
    | (go_at_call 11; (with_reducible refine (RR.out _ HB2.out).mono ?_); rintro e w3 ⟨r, rfl, hr, hb3⟩; have HR := Lib.hid hr; have HB3 := Lib.hid (HB2.out.trans (hb3.mono HB2.out.size)); have v0 := cell_on hb3 u0; have v1 := cell_on hb3 u1; have v2 := cell_on hb3 u2; have v3 := cell_on hb3 u3; have v4 := cell_on hb3 u4; have v5 := cell_on hb3 u5; have v6 := cell_on hb3 u6; have v7 := cell_on hb3 u7; have v8 := cell_on hb3 u8; have v9 := cell_on hb3 u9; clear hr hb3 u0 u1 u2 u3 u4 u5 u6 u7 u8 u9; cases r))
  · go_ret
    exact ⟨rfl, HB3.out⟩
  · have hP0 : (w3.alloc (.cells #[.slice o1 o.inn.length c1, .slice o2 o.out.length c2, .slice o3 o.state.length c3, .slice o4 o.mem.length c4, .int .i64 o.cross, .int .i64 o.flags, .slice q1 o.deriv.length d1, .slice q2 o.zero.length d2, .slice q3 o.step.length d3, .slice q4 o.at_.length d4] 29)).heap[w3.heap.size]? = some (.cells #[.slice o1 o.inn.length c1, .slice o2 o.out.length c2, .slice o3 o.state.length c3, .slice o4 o.mem.length c4, .int .i64 o.cross, .int .i64 o.flags, .slice q1 o.deriv.length d1, .slice q2 o.zero.length d2, .slice q3 o.step.length d3, .slice q4 o.at_.length d4] 29 (0, 0)) := al_new rfl
    have hb4 : Below w3.heap.size w3 (w3.alloc (.cells #[.slice o1 o.inn.length c1, .slice o2 o.out.length c2, .slice o3 o.state.length c3, .slice o4 o.mem.length c4, .int .i64 o.cross, .int .i64 o.flags, .slice q1 o.deriv.length d1, .slice q2 o.zero.length d2, .slice q3 o.step.length d3, .slice q4 o.at_.length d4] 29)) := (Below.refl _ _).alloc (Nat.le_refl _) _
    obtain ⟨w4, hw4⟩ : ∃ w4, w4 = w3.alloc (.cells #[.slice o1 o.inn.length c1, .slice o2 o.out.length c2, .slice o3 o.state.length c3, .slice o4 o.mem.length c4, .int .i64 o.cross, .int .i64 o.flags, .slice q1 o.deriv.length d1, .slice q2 o.zero.length d2, .slice q3 o.step.length d3, .slice q4 o.at_.length d4] 29) := ⟨_, rfl⟩
    rw [← hw4] at hP0 hb4 ⊢
    have hXw : Hid (∀ W, Below w3.heap.size w3 W → W.cell? ⟨w.heap.size, 6, none⟩ = some (.slice q1 o.deriv.length d1) ∧ W.cell? ⟨w.heap.size, 7, none⟩ = some (.slice q2 o.zero.length d2) ∧ W.cell? ⟨w.heap.size, 9, none⟩ = some (.slice q4 o.at_.length d4)) := Lib.hid fun W hb => ⟨cell_on hb v6, cell_on hb v7, cell_on hb v9⟩
    have hPW : Hid (w.heap.size < w3.heap.size) := Lib.hid (World.block_lt_of_cell? _ _ v6)
    have HP0 := Lib.hid hP0
    have HB4 := Lib.hid hb4
    have hVw : Hid (∀ W, Below w3.heap.size w3 W → ∀ c u, [Value.slice o1 o.inn.length c1, .slice o2 o.out.length c2, .slice o3 o.state.length c3, .slice o4 o.mem.length c4, .int .i64 o.cross, .int .i64 o.flags, .slice q1 o.deriv.length d1, .slice q2 o.zero.length d2, .slice q3 o.step.length d3, .slice q4 o.at_.length d4][c]? = some u → W.cell? ⟨w.heap.size, c, none⟩ = some u) := Lib.hid fun W hb c u h => cell_on hb (ten_of h v0 v1 v2 v3 v4 v5 v6 v7 v8 v9)
    clear hw4 hP0 hb4 v0 v1 v2 v3 v4 v5 v6 v7 v8 v9
    obtain ⟨P, hP⟩ : ∃ P, P = w3.heap.size := ⟨_, rfl⟩
    rw [← hP] at HP0 ⊢
    have HPE : Hid (w3.heap.size ≤ P) := Lib.hid (by omega)
    clear hP
    obtain ⟨cp1, cn1⟩ := sixes_cap HO.out.deriv
    obtain ⟨cp2, cn2⟩ := sixes_cap HO.out.zero
    obtain ⟨cp4, cn4⟩ := sixes_cap HO.out.at_
    obtain ⟨i, hi, hi2⟩ := rest_of hn1 o.deriv.length
    obtain ⟨j, hj, hj2⟩ := rest_of hn1 o.zero.length
    obtain ⟨k, hk, hk2⟩ := rest_of hn1 o.at_.length
    have sl1 := slice_pre q1 o.deriv.length d1 i (Nat.le_trans hi2 cp1) cn1
    have sl2 := slice_pre q2 o.zero.length d2 j (Nat.le_trans hj2 cp2) cn2
    have sl4 := slice_pre q4 o.at_.length d4 k (Nat.le_trans hk2 cp4) cn4
    have HI := Lib.hid hi2
    have HJ := Lib.hid hj2
    have HKK := Lib.hid hk2
    clear cp1 cn1 cp2 cn2 cp4 cn4 hi2 hj2 hk2
    have xc : ∀ W, W = w4.drew → W.cell? ⟨w.heap.size, 6, none⟩ = some (.slice q1 o.deriv.length d1) := fun W h => by rw [h]; exact (hXw.out _ HB4.out).1
    have pc : w4.drew.cell? ⟨P, 6, none⟩ = some (.slice q1 o.deriv.length d1) := by have h : w4.drew.heap[P]? = _ := HP0.out; simp [World.cell?, h]
    have pf : w4.drew.frozen? ⟨P, 6, none⟩ = false := by have h : w4.drew.heap[P]? = _ := HP0.out; simp [World.frozen?, h]
    refine tail_by_quiet 11 (by kernel_rfl) (by kernel_rfl) ?_
    simp only [List.take_succ_cons, List.take_zero, List.drop_succ_cons, List.drop_zero]
    repeat (go_big_quiet_step (fail))
    refine wpQuiet_nil ?_
    go_wp2_with fail
    have HP5 : Hid (((w4.setCell ⟨P, 6, none⟩ (.slice q1 i d1)).drew).heap[P]? = some (.cells #[.slice o1 o.inn.length c1, .slice o2 o.out.length c2, .slice o3 o.state.length c3, .slice o4 o.mem.length c4, .int .i64 o.cross, .int .i64 o.flags, .slice q1 i d1, .slice q2 o.zero.length d2, .slice q3 o.step.length d3, .slice q4 o.at_.length d4] 29 (0, 0))) := Lib.hid (by
      have h : w4.heap[P]? = some (.cells #[.slice o1 o.inn.length c1, .slice o2 o.out.length c2, .slice o3 o.state.length c3, .slice o4 o.mem.length c4, .int .i64 o.cross, .int .i64 o.flags, .slice q1 o.deriv.length d1, .slice q2 o.zero.length d2, .slice q3 o.step.length d3, .slice q4 o.at_.length d4] 29 (0, 0)) := HP0.out
      exact set_heap h 6 (.slice q1 i d1))
    have HB5 : Hid (Below w3.heap.size w3 ((w4.setCell ⟨P, 6, none⟩ (.slice q1 i d1)).drew)) := Lib.hid ((HB4.out.setCell (p := ⟨P, 6, none⟩) HPE.out _).drew)
    clear xc pc pf
    obtain ⟨w5, hw5⟩ : ∃ w5, w5 = (w4.setCell ⟨P, 6, none⟩ (.slice q1 i d1)).drew := ⟨_, rfl⟩
    rw [← hw5] at HP5 HB5 ⊢
    clear hw5
    have xc : ∀ W, W = w5.drew → W.cell? ⟨w.heap.size, 7, none⟩ = some (.slice q2 o.zero.length d2) := fun W h => by rw [h]; exact (hXw.out _ HB5.out).2.1
    have pc : w5.drew.cell? ⟨P, 7, none⟩ = some (.slice q2 o.zero.length d2) := by have h : w5.drew.heap[P]? = _ := HP5.out; simp [World.cell?, h]
    have pf : w5.drew.frozen? ⟨P, 7, none⟩ = false := by have h : w5.drew.heap[P]? = _ := HP5.out; simp [World.frozen?, h]
    refine tail_by_quiet 11 (by kernel_rfl) (by kernel_rfl) ?_
    simp only [List.take_succ_cons, List.take_zero, List.drop_succ_cons, List.drop_zero]
    repeat (go_big_quiet_step (fail))
    refine wpQuiet_nil ?_
    go_wp2_with fail
    have HP6 : Hid (((w5.setCell ⟨P, 7, none⟩ (.slice q2 j d2)).drew).heap[P]? = some (.cells #[.slice o1 o.inn.length c1, .slice o2 o.out.length c2, .slice o3 o.state.length c3, .slice o4 o.mem.length c4, .int .i64 o.cross, .int .i64 o.flags, .slice q1 i d1, .slice q2 j d2, .slice q3 o.step.length d3, .slice q4 o.at_.length d4] 29 (0, 0))) := Lib.hid (by
      have h : w5.heap[P]? = some (.cells #[.slice o1 o.inn.length c1, .slice o2 o.out.length c2, .slice o3 o.state.length c3, .slice o4 o.mem.length c4, .int .i64 o.cross, .int .i64 o.flags, .slice q1 i d1, .slice q2 o.zero.length d2, .slice q3 o.step.length d3, .slice q4 o.at_.length d4] 29 (0, 0)) := HP5.out
      exact set_heap h 7 (.slice q2 j d2))
    have HB6 : Hid (Below w3.heap.size w3 ((w5.setCell ⟨P, 7, none⟩ (.slice q2 j d2)).drew)) := Lib.hid ((HB5.out.setCell (p := ⟨P, 7, none⟩) HPE.out _).drew)
    clear xc pc pf
    obtain ⟨w6, hw6⟩ : ∃ w6, w6 = (w5.setCell ⟨P, 7, none⟩ (.slice q2 j d2)).drew := ⟨_, rfl⟩
    rw [← hw6] at HP6 HB6 ⊢
    clear hw6
    have pc8 : (w6.setCell ⟨P, 9, none⟩ (.slice q4 k d4)).drew.cell? ⟨P, 8, none⟩ = some (.slice q3 o.step.length d3) := by have h : (w6.setCell ⟨P, 9, none⟩ (.slice q4 k d4)).drew.heap[P]? = _ := set_heap HP6.out 9 (.slice q4 k d4); simp [World.cell?, h]
    have pf8 : (w6.setCell ⟨P, 9, none⟩ (.slice q4 k d4)).drew.frozen? ⟨P, 8, none⟩ = false := by have h : (w6.setCell ⟨P, 9, none⟩ (.slice q4 k d4)).drew.heap[P]? = _ := set_heap HP6.out 9 (.slice q4 k d4); simp [World.frozen?, h]
    have xc : ∀ W, W = w6.drew → W.cell? ⟨w.heap.size, 9, none⟩ = some (.slice q4 o.at_.length d4) := fun W h => by rw [h]; exact (hXw.out _ HB6.out).2.2
    have pc : w6.drew.cell? ⟨P, 9, none⟩ = some (.slice q4 o.at_.length d4) := by have h : w6.drew.heap[P]? = _ := HP6.out; simp [World.cell?, h]
    have pf : w6.drew.frozen? ⟨P, 9, none⟩ = false := by have h : w6.drew.heap[P]? = _ := HP6.out; simp [World.frozen?, h]
    refine tail_by_quiet 11 (by kernel_rfl) (by kernel_rfl) ?_
    simp only [List.take_succ_cons, List.take_zero, List.drop_succ_cons, List.drop_zero]
    repeat (go_big_quiet_step (fail))
    refine wpQuiet_nil ?_
    go_wp2_with fail
    have HP7 : Hid ((((w6.setCell ⟨P, 9, none⟩ (.slice q4 k d4)).setCell ⟨P, 8, none⟩ (.slice none 0 0)).drew).heap[P]? = some (.cells #[.slice o1 o.inn.length c1, .slice o2 o.out.length c2, .slice o3 o.state.length c3, .slice o4 o.mem.length c4, .int .i64 o.cross, .int .i64 o.flags, .slice q1 i d1, .slice q2 j d2, .slice none 0 0, .slice q4 k d4] 29 (0, 0))) := Lib.hid (by
      have h : w6.heap[P]? = some (.cells #[.slice o1 o.inn.length c1, .slice o2 o.out.length c2, .slice o3 o.state.length c3, .slice o4 o.mem.length c4, .int .i64 o.cross, .int .i64 o.flags, .slice q1 i d1, .slice q2 j d2, .slice q3 o.step.length d3, .slice q4 o.at_.length d4] 29 (0, 0)) := HP6.out
      exact set_heap (set_heap h 9 (.slice q4 k d4)) 8 (.slice none 0 0))
    have HB7 : Hid (Below w3.heap.size w3 (((w6.setCell ⟨P, 9, none⟩ (.slice q4 k d4)).setCell ⟨P, 8, none⟩ (.slice none 0 0)).drew)) := Lib.hid (((HB6.out.setCell (p := ⟨P, 9, none⟩) HPE.out _).setCell (p := ⟨P, 8, none⟩) HPE.out _).drew)
    clear xc pc pf pc8 pf8
    obtain ⟨w7, hw7⟩ : ∃ w7, w7 = ((w6.setCell ⟨P, 9, none⟩ (.slice q4 k d4)).setCell ⟨P, 8, none⟩ (.slice none 0 0)).drew := ⟨_, rfl⟩
    rw [← hw7] at HP7 HB7 ⊢
    clear hw7
    have HOC : Hid (ObAt w (.slice o1 o.inn.length c1) (.slice o2 o.out.length c2) (.slice o3 o.state.length c3) (.slice o4 o.mem.length c4) (.slice q1 i d1) (.slice q2 j d2) (.slice none 0 0) (.slice q4 k d4) (cutO o i j k)) := Lib.hid ⟨HO.out.inn, HO.out.out, HO.out.state, HO.out.mem, sixes_take HO.out.deriv HI.out, sixes_take HO.out.zero HJ.out, six_at_none w, sixes_take HO.out.at_ HKK.out⟩
    have HB7W := Lib.hid (HB3.out.trans (HB7.out.mono HB3.out.size))
    have far : Hid (∀ pr : Regrown, Below w.heap.size w (Go.Sort.grow (redrawn w7 pr.d) pr.os)) := Lib.hid fun pr => HB7W.out.trans ((below_regrown w7 pr.d pr.os).mono HB7W.out.size)
    have CQ1 := Lib.hid fun pr : Regrown => Calls.regrown_of (rightO_any (cutO o i j k) _ _ _ _ _ _ _ _ (Go.Sort.grow (redrawn w7 pr.d) pr.os) (HT.out.below (far.out pr)) (HOC.out.below (far.out pr)) (cut_len HL.out i j k) (cut_ok HK.out i j k))
    have CQ2 := Lib.hid fun pr : Regrown => Calls.regrown_of (most_any (cutO o i j k) _ _ _ _ _ _ _ _ (Go.Sort.grow (redrawn w7 pr.d) pr.os) (HOC.out.below (far.out pr)) (cut_len HL.out i j k))
    have CQ3 := Lib.hid fun pr : Regrown => Calls.regrown_of (most_any o _ _ _ _ _ _ _ _ (Go.Sort.grow (redrawn w7 pr.d) pr.os) (HO.out.below (far.out pr)) HL.out)
    have hle := most_cut o i j k
    have hrt := right_cut i j k (HR.out (by trivial))
    simp only [hrt] at CQ1
    have ec : (cutO o i j k).cross = o.cross := rfl
    have ef : (cutO o i j k).flags = o.flags := rfl
    rw [ec, ef] at CQ1 CQ2
    unfold obCells at CQ1 CQ2 CQ3
    obtain ⟨ma, hma⟩ : ∃ ma, ma = mostO (cutO o i j k) := ⟨_, rfl⟩
    obtain ⟨mb, hmb⟩ : ∃ mb, mb = mostO o := ⟨_, rfl⟩
    simp only [← hma] at CQ2 hle
    simp only [← hmb] at CQ3 hle
    clear hma hmb hrt ec ef
    have hp := HP7.out
    have E := fun (c : Nat) (u : Value) (h : [Value.slice o1 o.inn.length c1, .slice o2 o.out.length c2, .slice o3 o.state.length c3, .slice o4 o.mem.length c4, .int .i64 o.cross, .int .i64 o.flags, .slice q1 i d1, .slice q2 j d2, .slice none 0 0, .slice q4 k d4][c]? = some u) (pr : Regrown) => cell_regrown (cell_of_heap hp h) pr.d pr.os
    have G := fun (c : Nat) (u : Value) (h : [Value.slice o1 o.inn.length c1, .slice o2 o.out.length c2, .slice o3 o.state.length c3, .slice o4 o.mem.length c4, .int .i64 o.cross, .int .i64 o.flags, .slice q1 o.deriv.length d1, .slice q2 o.zero.length d2, .slice q3 o.step.length d3, .slice q4 o.at_.length d4][c]? = some u) (pr : Regrown) => cell_regrown (hVw.out w7 HB7.out c u h) pr.d pr.os
    have E0 := E 0 _ rfl
    have G0 := G 0 _ rfl
    have E1 := E 1 _ rfl
    have G1 := G 1 _ rfl
    have E2 := E 2 _ rfl
    have G2 := G 2 _ rfl
    have E3 := E 3 _ rfl
    have G3 := G 3 _ rfl
    have E4 := E 4 _ rfl
    have G4 := G 4 _ rfl
    have E5 := E 5 _ rfl
    have G5 := G 5 _ rfl
    have E6 := E 6 _ rfl
    have G6 := G 6 _ rfl
    have E7 := E 7 _ rfl
    have G7 := G 7 _ rfl
    have E8 := E 8 _ rfl
    have G8 := G 8 _ rfl
    have E9 := E 9 _ rfl
    have G9 := G 9 _ rfl
    clear E G hp
    refine wp_region_quiet_below (by kernel_rfl) (by kernel_rfl) ?_
    repeat (go_big_quiet_step (first | with_reducible exact CQ1.out _ | with_reducible exact CQ2.out _ | with_reducible exact CQ3.out _))
    refine wpQuiet_nil ?_
    intro w8 hw8
    have HB8 : Hid (Below w7.heap.size w7 w8) := Lib.hid (by obtain ⟨pr, rfl⟩ := hw8; exact below_regrown _ _ _)
    clear hw8 E0 G0 E1 G1 E2 G2 E3 G3 E4 G4 E5 G5 E6 G6 E7 G7 E8 G8 E9 G9 CQ1 CQ2 CQ3
    go_wp2_with fail
    go_ret
    exact ⟨rfl, HB7W.out.trans (HB8.out.mono HB7W.out.size)⟩
  · go_ret
    exact ⟨rfl, HB2.out⟩
end Go.Proofs.YtceadfkjknjaoaaDoor
