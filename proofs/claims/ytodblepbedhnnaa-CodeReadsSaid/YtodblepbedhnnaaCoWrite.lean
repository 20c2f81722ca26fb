/- code.write: all numbers of an object are handed to a taker. -/
import Derived.Test.YtodblepbedhnnaaCoList
namespace Go.Proofs.Ytodblepbedhnnaa
open Go.RowKit Co

/-- an object's numbers -/
def numsA (o : Ob) : List Nat := numsL o.inn ++ (numsL o.out ++ (numsL o.state ++ (numsL o.mem ++ [fold o.cross, fold o.flags])))
def numsO (o : Ob) : List Nat := numsA o ++ (numsS o.deriv ++ (numsS o.zero ++ (numsS o.step ++ numsS o.at_)))
theorem numsL_len (l : List Int) : (numsL l).length = l.length + 1 := by simp [numsL]
theorem numsS_len (l : List Six) : (numsS l).length = 6 * l.length + 1 := by unfold numsS; rw [List.length_cons, six_len]
/-- an object that isn't great -/
def ObSmall (o : Ob) : Prop := o.inn.length + o.out.length + o.state.length + o.mem.length ≤ 5000 ∧ o.deriv.length + o.zero.length + o.step.length + o.at_.length ≤ 3000
theorem numsA_len (o : Ob) : (numsA o).length = o.inn.length + o.out.length + o.state.length + o.mem.length + 6 := by unfold numsA; simp only [List.length_append, numsL_len, List.length_cons, List.length_nil]; omega
/-- the first pieces' numbers -/
def pcsTo (o : Ob) : Nat → List Nat
  | 0 => []
  | 1 => numsS o.deriv
  | 2 => numsS o.deriv ++ numsS o.zero
  | 3 => numsS o.deriv ++ (numsS o.zero ++ numsS o.step)
  | _ => numsS o.deriv ++ (numsS o.zero ++ (numsS o.step ++ numsS o.at_))
set_option maxHeartbeats 16000000 in
set_option maxRecDepth 100000 in
theorem write_any (n X : Nat) (w0 : World) (I : List Nat → World → Prop) (T : Taker n X w0 I) (o : Ob) (s1 s2 s3 s4 t1 t2 t3 t4 : Value) (hO : ObAt w0 s1 s2 s3 s4 t1 t2 t3 t4 o) (hok : o.ok) (hsm : ObSmall o) (us : List Nat) (hl : us.length ≤ 10) (w : World) (hI : I us w) :
    Calls Try.prog 15 #[.agg (obCells s1 s2 s3 s4 o.cross o.flags t1 t2 t3 t4), .func (.func n) #[] #[.pointer (some ⟨X, 0, none⟩)]] w fun e w' => e = .returned (.tuple #[]) ∧ I (us ++ numsO o) w' ∧ Fr X w w' := by
  obtain ⟨k1, k2, k3, k4, k5, k6, k7, k8, k9, k10⟩ := hok
  have K5 := Lib.hid k5
  have K6 := Lib.hid k6
  have SM := Lib.hid hsm
  have HL := Lib.hid hl
  have W1 : Hid (∀ vs W, vs.length ≤ 6000 → I vs W → Calls Try.prog 35 #[.func (.func n) #[] #[.pointer (some ⟨X, 0, none⟩)], s1, .func (.func 36) #[] #[]] W fun e w' => e = .returned (.tuple #[]) ∧ I (vs ++ numsL o.inn) w' ∧ Fr X W w') := Lib.hid fun vs W h1 h2 => wlist_int n X w0 I T o.inn s1 hO.inn k1.2 vs (by have := hsm.1; omega) W h2
  have W2 : Hid (∀ vs W, vs.length ≤ 6000 → I vs W → Calls Try.prog 35 #[.func (.func n) #[] #[.pointer (some ⟨X, 0, none⟩)], s2, .func (.func 36) #[] #[]] W fun e w' => e = .returned (.tuple #[]) ∧ I (vs ++ numsL o.out) w' ∧ Fr X W w') := Lib.hid fun vs W h1 h2 => wlist_int n X w0 I T o.out s2 hO.out k2.2 vs (by have := hsm.1; omega) W h2
  have W3 : Hid (∀ vs W, vs.length ≤ 6000 → I vs W → Calls Try.prog 37 #[.func (.func n) #[] #[.pointer (some ⟨X, 0, none⟩)], s3, .func (.func 38) #[] #[]] W fun e w' => e = .returned (.tuple #[]) ∧ I (vs ++ numsL o.state) w' ∧ Fr X W w') := Lib.hid fun vs W h1 h2 => wlist_int64 n X w0 I T o.state s3 hO.state k3.2 vs (by have := hsm.1; omega) W h2
  have W4 : Hid (∀ vs W, vs.length ≤ 6000 → I vs W → Calls Try.prog 37 #[.func (.func n) #[] #[.pointer (some ⟨X, 0, none⟩)], s4, .func (.func 38) #[] #[]] W fun e w' => e = .returned (.tuple #[]) ∧ I (vs ++ numsL o.mem) w' ∧ Fr X W w') := Lib.hid fun vs W h1 h2 => wlist_int64 n X w0 I T o.mem s4 hO.mem k4.2 vs (by have := hsm.1; omega) W h2
  have P1 : Hid (∀ vs W, vs.length + 6 * o.deriv.length ≤ 29000 → I vs W → Calls Try.prog 39 #[.func (.func n) #[] #[.pointer (some ⟨X, 0, none⟩)], t1, .func (.func 40) #[] #[]] W fun e w' => e = .returned (.tuple #[]) ∧ I (vs ++ numsS o.deriv) w' ∧ Fr X W w') := Lib.hid fun vs W h1 h2 => wlist_ins n X w0 I T o.deriv t1 hO.deriv k7.2 vs (by have := hsm.2; omega) W h2
  have P2 : Hid (∀ vs W, vs.length + 6 * o.zero.length ≤ 29000 → I vs W → Calls Try.prog 39 #[.func (.func n) #[] #[.pointer (some ⟨X, 0, none⟩)], t2, .func (.func 40) #[] #[]] W fun e w' => e = .returned (.tuple #[]) ∧ I (vs ++ numsS o.zero) w' ∧ Fr X W w') := Lib.hid fun vs W h1 h2 => wlist_ins n X w0 I T o.zero t2 hO.zero k8.2 vs (by have := hsm.2; omega) W h2
  have P3 : Hid (∀ vs W, vs.length + 6 * o.step.length ≤ 29000 → I vs W → Calls Try.prog 39 #[.func (.func n) #[] #[.pointer (some ⟨X, 0, none⟩)], t3, .func (.func 40) #[] #[]] W fun e w' => e = .returned (.tuple #[]) ∧ I (vs ++ numsS o.step) w' ∧ Fr X W w') := Lib.hid fun vs W h1 h2 => wlist_ins n X w0 I T o.step t3 hO.step k9.2 vs (by have := hsm.2; omega) W h2
  have P4 : Hid (∀ vs W, vs.length + 6 * o.at_.length ≤ 29000 → I vs W → Calls Try.prog 39 #[.func (.func n) #[] #[.pointer (some ⟨X, 0, none⟩)], t4, .func (.func 40) #[] #[]] W fun e w' => e = .returned (.tuple #[]) ∧ I (vs ++ numsS o.at_) w' ∧ Fr X W w') := Lib.hid fun vs W h1 h2 => wlist_ins n X w0 I T o.at_ t4 hO.at_ k10.2 vs (by have := hsm.2; omega) W h2
  have N : Hid (∀ v vs W, i64 v → vs.length ≤ 6000 → I vs W → Calls Try.prog 36 #[.func (.func n) #[] #[.pointer (some ⟨X, 0, none⟩)], .int .i64 v] W fun e w' => e = .returned (.tuple #[]) ∧ I (vs ++ [fold v]) w' ∧ Fr X W w') := Lib.hid fun v vs W h0 h1 h2 => wnum_int n X w0 I T v h0 vs (by omega) W h2
  obtain ⟨o1, c1, b1, f1, rfl, _, _, _, _⟩ := hO.inn
  obtain ⟨o2, c2, b2, f2, rfl, _, _, _, _⟩ := hO.out
  obtain ⟨o3, c3, b3, f3, rfl, _, _, _, _⟩ := hO.state
  obtain ⟨o4, c4, b4, f4, rfl, _, _, _, _⟩ := hO.mem
  obtain ⟨q1, d1, e1, g1, rfl, _, _, _, _⟩ := hO.deriv
  obtain ⟨q2, d2, e2, g2, rfl, _, _, _, _⟩ := hO.zero
  obtain ⟨q3, d3, e3, g3, rfl, _, _, _, _⟩ := hO.step
  obtain ⟨q4, d4, e4, g4, rfl, _, _, _, _⟩ := hO.at_
  obtain ⟨n1, hn1⟩ : ∃ m, m = o.inn.length := ⟨_, rfl⟩
  obtain ⟨n2, hn2⟩ : ∃ m, m = o.out.length := ⟨_, rfl⟩
  obtain ⟨n3, hn3⟩ : ∃ m, m = o.state.length := ⟨_, rfl⟩
  obtain ⟨n4, hn4⟩ : ∃ m, m = o.mem.length := ⟨_, rfl⟩
  obtain ⟨m1, hm1⟩ : ∃ m, m = o.deriv.length := ⟨_, rfl⟩
  obtain ⟨m2, hm2⟩ : ∃ m, m = o.zero.length := ⟨_, rfl⟩
  obtain ⟨m3, hm3⟩ : ∃ m, m = o.step.length := ⟨_, rfl⟩
  obtain ⟨m4, hm4⟩ : ∃ m, m = o.at_.length := ⟨_, rfl⟩
  have SP : Hid (m1 + m2 + m3 + m4 ≤ 3000) := Lib.hid (by have := hsm.2; omega)
  have SL : Hid (n1 + n2 + n3 + n4 ≤ 5000) := Lib.hid (by have := hsm.1; omega)
  rw [← hn1] at W1
  rw [← hn2] at W2
  rw [← hn3] at W3
  rw [← hn4] at W4
  rw [← hm1] at P1
  rw [← hm2] at P2
  rw [← hm3] at P3
  rw [← hm4] at P4
  unfold obCells
  rw [← hn1, ← hn2, ← hn3, ← hn4, ← hm1, ← hm2, ← hm3, ← hm4]
  have L1 : Hid ((numsL o.inn).length = n1 + 1) := Lib.hid (by rw [hn1]; exact numsL_len _)
  have L2 : Hid ((numsL o.out).length = n2 + 1) := Lib.hid (by rw [hn2]; exact numsL_len _)
  have L3 : Hid ((numsL o.state).length = n3 + 1) := Lib.hid (by rw [hn3]; exact numsL_len _)
  have L4 : Hid ((numsL o.mem).length = n4 + 1) := Lib.hid (by rw [hn4]; exact numsL_len _)
  have S1 : Hid ((numsS o.deriv).length = 6 * m1 + 1) := Lib.hid (by rw [hm1]; exact numsS_len _)
  have S2 : Hid ((numsS o.zero).length = 6 * m2 + 1) := Lib.hid (by rw [hm2]; exact numsS_len _)
  have S3 : Hid ((numsS o.step).length = 6 * m3 + 1) := Lib.hid (by rw [hm3]; exact numsS_len _)
  have HI := Lib.hid hI
  have HT := Lib.hid T
  obtain ⟨x, hx⟩ : ∃ x, x = o.cross := ⟨_, rfl⟩
  obtain ⟨y, hy⟩ : ∃ y, y = o.flags := ⟨_, rfl⟩
  have HX := Lib.hid hx
  have HY := Lib.hid hy
  rw [← hx, ← hy]
  have BX : Hid (∀ W, Fr X (w.alloc (.cells #[.slice o1 n1 c1, .slice o2 n2 c2, .slice o3 n3 c3, .slice o4 n4 c4, .int .i64 x, .int .i64 y, .slice q1 m1 d1, .slice q2 m2 d2, .slice q3 m3 d3, .slice q4 m4 d4] 26)) W → W.heap[w.heap.size]? = some (.cells #[.slice o1 n1 c1, .slice o2 n2 c2, .slice o3 n3 c3, .slice o4 n4 c4, .int .i64 x, .int .i64 y, .slice q1 m1 d1, .slice q2 m2 d2, .slice q3 m3 d3, .slice q4 m4 d4] 26 (0, 0))) := Lib.hid fun W h => (T.new hI h).trans (heap_alloc_new w _)
  have C1 := Lib.hid (W1.out us _ (by omega) (T.more (.cells #[.slice o1 n1 c1, .slice o2 n2 c2, .slice o3 n3 c3, .slice o4 n4 c4, .int .i64 x, .int .i64 y, .slice q1 m1 d1, .slice q2 m2 d2, .slice q3 m3 d3, .slice q4 m4 d4] 26) hI))
  clear T hI hO k1 k2 k3 k4 k5 k6 k7 k8 k9 k10 hsm hl hn1 hn2 hn3 hn4 hm1 hm2 hm3 hm4 hx hy
  go_enter Try.func15, Try.ntmps15
  go_wp2_with (first
    | (go_at_call 35; ((with_reducible refine C1.out.mono ?_); rintro e w1 ⟨rfl, hi1, hf1⟩; have F1 := Lib.hid (hf1); have hb1 := BX.out _ F1.out; have z11 : w1.cell? ⟨w.heap.size, 1, none⟩ = some (.slice o2 n2 c2) := (by simp [World.cell?, hb1]); have C2 := Lib.hid (W2.out (us ++ numsL o.inn) _ (by have h0 := HL.out; have h1 := L1.out; have h2 := L2.out; have h3 := L3.out; have h4 := L4.out; have h5 := SL.out; (try simp only [List.length_append]); omega) hi1); clear hb1 hf1 hi1))
    | (go_at_call 35; ((with_reducible refine C2.out.mono ?_); rintro e w2 ⟨rfl, hi2, hf2⟩; have F2 := Lib.hid (F1.out.trans hf2); have hb2 := BX.out _ F2.out; have z22 : w2.cell? ⟨w.heap.size, 2, none⟩ = some (.slice o3 n3 c3) := (by simp [World.cell?, hb2]); have C3 := Lib.hid (W3.out ((us ++ numsL o.inn) ++ numsL o.out) _ (by have h0 := HL.out; have h1 := L1.out; have h2 := L2.out; have h3 := L3.out; have h4 := L4.out; have h5 := SL.out; (try simp only [List.length_append]); omega) hi2); clear hb2 hf2 hi2 z11 F1))
    | (go_at_call 37; ((with_reducible refine C3.out.mono ?_); rintro e w3 ⟨rfl, hi3, hf3⟩; have F3 := Lib.hid (F2.out.trans hf3); have hb3 := BX.out _ F3.out; have z33 : w3.cell? ⟨w.heap.size, 3, none⟩ = some (.slice o4 n4 c4) := (by simp [World.cell?, hb3]); have C4 := Lib.hid (W4.out (((us ++ numsL o.inn) ++ numsL o.out) ++ numsL o.state) _ (by have h0 := HL.out; have h1 := L1.out; have h2 := L2.out; have h3 := L3.out; have h4 := L4.out; have h5 := SL.out; (try simp only [List.length_append]); omega) hi3); clear hb3 hf3 hi3 z22 F2))
    | (go_at_call 37; ((with_reducible refine C4.out.mono ?_); rintro e w4 ⟨rfl, hi4, hf4⟩; have F4 := Lib.hid (F3.out.trans hf4); have hb4 := BX.out _ F4.out; have z44 : w4.cell? ⟨w.heap.size, 4, none⟩ = some (.int .i64 x) := (by simp [World.cell?, hb4]); have C5 := Lib.hid (N.out x ((((us ++ numsL o.inn) ++ numsL o.out) ++ numsL o.state) ++ numsL o.mem) _ (by rw [HX.out]; exact K5.out) (by have h0 := HL.out; have h1 := L1.out; have h2 := L2.out; have h3 := L3.out; have h4 := L4.out; have h5 := SL.out; (try simp only [List.length_append]); omega) hi4); clear hb4 hf4 hi4 z33 F3))
    | (go_at_call 36; ((with_reducible refine C5.out.mono ?_); rintro e w5 ⟨rfl, hi5, hf5⟩; have F5 := Lib.hid (F4.out.trans hf5); have hb5 := BX.out _ F5.out; have z55 : w5.cell? ⟨w.heap.size, 5, none⟩ = some (.int .i64 y) := (by simp [World.cell?, hb5]); have C6 := Lib.hid (N.out y (((((us ++ numsL o.inn) ++ numsL o.out) ++ numsL o.state) ++ numsL o.mem) ++ [fold x]) _ (by rw [HY.out]; exact K6.out) (by have h0 := HL.out; have h1 := L1.out; have h2 := L2.out; have h3 := L3.out; have h4 := L4.out; have h5 := SL.out; (try simp only [List.length_append, List.length_cons, List.length_nil]); omega) hi5); clear hb5 hf5 hi5 z44 F4))
    | (go_at_call 36; ((with_reducible refine C6.out.mono ?_); rintro e w6 ⟨rfl, hi6, hf6⟩; have F6 := Lib.hid (F5.out.trans hf6); have hb6 := BX.out _ F6.out; have z66 : w6.cell? ⟨w.heap.size, 6, none⟩ = some (.slice q1 m1 d1) := (by simp [World.cell?, hb6]); have z67 : w6.cell? ⟨w.heap.size, 7, none⟩ = some (.slice q2 m2 d2) := (by simp [World.cell?, hb6]); have z68 : w6.cell? ⟨w.heap.size, 8, none⟩ = some (.slice q3 m3 d3) := (by simp [World.cell?, hb6]); have z69 : w6.cell? ⟨w.heap.size, 9, none⟩ = some (.slice q4 m4 d4) := (by simp [World.cell?, hb6]); have C7 := Lib.hid hi6; clear hb6 hf6 hi6 z55 F5)))
  obtain ⟨V, hV⟩ : ∃ V, V = ((((((us ++ numsL o.inn) ++ numsL o.out) ++ numsL o.state) ++ numsL o.mem) ++ [fold x]) ++ [fold y]) := ⟨_, rfl⟩
  have VL : Hid (V.length ≤ 5020) := Lib.hid (by rw [hV]; have h0 := HL.out; have h1 := L1.out; have h2 := L2.out; have h3 := L3.out; have h4 := L4.out; have h5 := SL.out; simp only [List.length_append, List.length_cons, List.length_nil]; omega)
  rw [← hV] at C7
  have HV := Lib.hid hV
  clear hV
  go_loopw [39] (fun i wr => ∃ c : Nat, i = .int .i64 (c : Int) ∧ c ≤ 4 ∧ Hid (I (V ++ pcsTo o c) wr) ∧ Hid (Fr X w6 wr)) (fun i _ => match i with | .int _ z => 4 - z.toNat | _ => 0)
  case atStart => exact ⟨0, rfl, by omega, by rw [show pcsTo o 0 = [] from rfl, List.append_nil]; exact C7, Lib.hid (Fr.refl _ _)⟩
  case round =>
    obtain ⟨c, rfl, hc, hJ, hF⟩ := hrel
    rcases Nat.lt_or_ge c 4 with hlt | hge
    · rcases (show c = 0 ∨ c = 1 ∨ c = 2 ∨ c = 3 by omega) with rfl | rfl | rfl | rfl
      · have ix := Lib.hid (run_index_agg (cs := #[.slice q1 m1 d1, .slice q2 m2 d2, .slice q3 m3 d3, .slice q4 m4 d4]) Try.underlying72 Try.sizeOf24 Try.isAgg24 (c := 0) (by omega) rfl wr)
        have C := Lib.hid (P1.out _ wr (by have h0 := VL.out; have h1 := S1.out; have h2 := S2.out; have h3 := S3.out; have h4 := SP.out; simp only [pcsTo, List.length_append, List.length_nil]; omega) hJ.out)
        rw [show (V ++ pcsTo o 0) ++ numsS o.deriv = V ++ pcsTo o 1 by simp [pcsTo]] at C
        clear hJ
        go_wp2_with (first | (refine wpList_index _ rfl _ (.tmp 38) (.tmp 39) rfl _ _ _ rfl rfl ix.out ?_) | (go_at_call 39; (with_reducible refine C.out.mono ?_); rintro e wz ⟨rfl, hI1, hF1⟩; have HI1 := Lib.hid hI1; have HF1 := Lib.hid hF1; clear hI1 hF1))
        exact ⟨⟨1, rfl, by omega, HI1, Lib.hid (hF.out.trans HF1.out)⟩, by simp⟩
      · have ix := Lib.hid (run_index_agg (cs := #[.slice q1 m1 d1, .slice q2 m2 d2, .slice q3 m3 d3, .slice q4 m4 d4]) Try.underlying72 Try.sizeOf24 Try.isAgg24 (c := 1) (by omega) rfl wr)
        have C := Lib.hid (P2.out _ wr (by have h0 := VL.out; have h1 := S1.out; have h2 := S2.out; have h3 := S3.out; have h4 := SP.out; simp only [pcsTo, List.length_append]; omega) hJ.out)
        rw [show (V ++ pcsTo o 1) ++ numsS o.zero = V ++ pcsTo o 2 by simp [pcsTo]] at C
        clear hJ
        go_wp2_with (first | (refine wpList_index _ rfl _ (.tmp 38) (.tmp 39) rfl _ _ _ rfl rfl ix.out ?_) | (go_at_call 39; (with_reducible refine C.out.mono ?_); rintro e wz ⟨rfl, hI1, hF1⟩; have HI1 := Lib.hid hI1; have HF1 := Lib.hid hF1; clear hI1 hF1))
        exact ⟨⟨2, rfl, by omega, HI1, Lib.hid (hF.out.trans HF1.out)⟩, by simp⟩
      · have ix := Lib.hid (run_index_agg (cs := #[.slice q1 m1 d1, .slice q2 m2 d2, .slice q3 m3 d3, .slice q4 m4 d4]) Try.underlying72 Try.sizeOf24 Try.isAgg24 (c := 2) (by omega) rfl wr)
        have C := Lib.hid (P3.out _ wr (by have h0 := VL.out; have h1 := S1.out; have h2 := S2.out; have h3 := S3.out; have h4 := SP.out; simp only [pcsTo, List.length_append]; omega) hJ.out)
        rw [show (V ++ pcsTo o 2) ++ numsS o.step = V ++ pcsTo o 3 by simp [pcsTo]] at C
        clear hJ
        go_wp2_with (first | (refine wpList_index _ rfl _ (.tmp 38) (.tmp 39) rfl _ _ _ rfl rfl ix.out ?_) | (go_at_call 39; (with_reducible refine C.out.mono ?_); rintro e wz ⟨rfl, hI1, hF1⟩; have HI1 := Lib.hid hI1; have HF1 := Lib.hid hF1; clear hI1 hF1))
        exact ⟨⟨3, rfl, by omega, HI1, Lib.hid (hF.out.trans HF1.out)⟩, by simp⟩
      · have ix := Lib.hid (run_index_agg (cs := #[.slice q1 m1 d1, .slice q2 m2 d2, .slice q3 m3 d3, .slice q4 m4 d4]) Try.underlying72 Try.sizeOf24 Try.isAgg24 (c := 3) (by omega) rfl wr)
        have C := Lib.hid (P4.out _ wr (by have h0 := VL.out; have h1 := S1.out; have h2 := S2.out; have h3 := S3.out; have h4 := SP.out; simp only [pcsTo, List.length_append]; omega) hJ.out)
        rw [show (V ++ pcsTo o 3) ++ numsS o.at_ = V ++ pcsTo o 4 by simp [pcsTo]] at C
        clear hJ
        go_wp2_with (first | (refine wpList_index _ rfl _ (.tmp 38) (.tmp 39) rfl _ _ _ rfl rfl ix.out ?_) | (go_at_call 39; (with_reducible refine C.out.mono ?_); rintro e wz ⟨rfl, hI1, hF1⟩; have HI1 := Lib.hid hI1; have HF1 := Lib.hid hF1; clear hI1 hF1))
        exact ⟨⟨4, rfl, by omega, HI1, Lib.hid (hF.out.trans HF1.out)⟩, by simp⟩
    · obtain rfl : c = 4 := by omega
      have hend : I (us ++ numsO o) wr := by
        have h1 := hJ.out
        rw [HV.out, HX.out, HY.out] at h1
        have e : us ++ numsO o = ((((((us ++ numsL o.inn) ++ numsL o.out) ++ numsL o.state) ++ numsL o.mem) ++ [fold o.cross]) ++ [fold o.flags]) ++ pcsTo o 4 := by simp [numsO, numsA, pcsTo]
        rw [e]
        exact h1
      have HE := Lib.hid hend
      clear hend hJ
      go_wp2_with fail
      go_end0
      exact ⟨rfl, HE.out, (Fr.alloc (HT.out.lt HI.out).1 _).trans (F6.out.trans hF.out)⟩
end Go.Proofs.Ytodblepbedhnnaa
