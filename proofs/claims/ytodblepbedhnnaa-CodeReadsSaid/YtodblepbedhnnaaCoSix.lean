/- Two instructions compared. -/
import Derived.Test.YtodblepbedhnnaaCoEqI
namespace Go.Proofs.Ytodblepbedhnnaa
open Go.RowKit Co

attribute [local go_sem] Oper.semAt_some

def sixB (a0 a1 a2 a3 a4 a5 b0 b1 b2 b3 b4 b5 : Int) : Bool := a0 == b0 && (a1 == b1 && (a2 == b2 && (a3 == b3 && (a4 == b4 && a5 == b5))))
theorem run_neq6 (a0 a1 a2 a3 a4 a5 b0 b1 b2 b3 b4 b5 : Int) (w : World) :
    (binOp .neq 59 (.agg #[.int .i64 a0, .int .i64 a1, .int .i64 a2, .int .i64 a3, .int .i64 a4, .int .i64 a5]) (.agg #[.int .i64 b0, .int .i64 b1, .int .i64 b2, .int .i64 b3, .int .i64 b4, .int .i64 b5])).run Try.prog w = .ok (.bool (!(sixB a0 a1 a2 a3 a4 a5 b0 b1 b2 b3 b4 b5))) w := by
  unfold sixB
  rw [run_neq_struct, run_equalIn_agg w 9999 59 _ _ (by kernel_rfl) (by kernel_rfl)]
  go_simp
  by_cases h0 : a0 = b0
  · by_cases h1 : a1 = b1
    · by_cases h2 : a2 = b2
      · by_cases h3 : a3 = b3
        · by_cases h4 : a4 = b4
          · by_cases h5 : a5 = b5
            · simp [h0, h1, h2, h3, h4, h5]
            · simp [h0, h1, h2, h3, h4, h5]
          · simp [h0, h1, h2, h3, h4]
        · simp [h0, h1, h2, h3]
      · simp [h0, h1, h2]
    · simp [h0, h1]
  · simp [h0]
theorem guard6 : Try.prog.eqGuardType Try.prog.depth 59 = false := by kernel_rfl
instance decSix : DecidableEq Six := fun x y =>
  if h : x.op = y.op ∧ x.d = y.d ∧ x.a = y.a ∧ x.b = y.b ∧ x.c = y.c ∧ x.v = y.v then isTrue (by cases x; cases y; simp_all) else isFalse (fun e => h (by subst e; simp))
theorem sixB_ne {x y : Six} (h : x ≠ y) : sixB x.op x.d x.a x.b x.c x.v y.op y.d y.a y.b y.c y.v = false := by
  cases hb : sixB x.op x.d x.a x.b x.c x.v y.op y.d y.a y.b y.c y.v with
  | false => rfl
  | true =>
    unfold sixB at hb
    simp only [Bool.and_eq_true, beq_iff_eq] at hb
    obtain ⟨h0, h1, h2, h3, h4, h5⟩ := hb
    cases x; cases y
    exact absurd (by simp_all) h
set_option maxHeartbeats 8000000 in
set_option maxRecDepth 100000 in
theorem eqSixes_any (L M : List Six) (s t : Value) (w0 w : World) (hs : SixesAt w0 s L) (ht : SixesAt w0 t M) (hb : Below w0.heap.size w0 w) (ll : L.length ≤ 9223372036854775807) (lm : M.length ≤ 9223372036854775807) :
    Calls Try.prog 49 #[s, t] w fun e w' => e = .returned (.bool (decide (L = M))) ∧ Below w0.heap.size w0 w' := by
  obtain ⟨o1, cap1, b1, f1, rfl, _, _, e1, c1⟩ := hs
  obtain ⟨o2, cap2, b2, f2, rfl, _, _, e2, c2⟩ := ht
  obtain ⟨D, hD⟩ : ∃ D, D = decide (L = M) := ⟨_, rfl⟩
  rw [← hD]
  obtain ⟨n, hn⟩ : ∃ n, n = L.length := ⟨_, rfl⟩
  obtain ⟨m, hm⟩ : ∃ m, m = M.length := ⟨_, rfl⟩
  rw [← hn] at e1 c1 ll ⊢
  rw [← hm] at e2 c2 lm ⊢
  by_cases hnm : n = m
  · subst hnm
    have HN := Lib.hid hn
    have HM := Lib.hid hm
    have HD := Lib.hid hD
    have E1 := Lib.hid e1
    have E2 := Lib.hid e2
    have C1 := Lib.hid c1
    have C2 := Lib.hid c2
    have HB := Lib.hid hb
    have hnl : (n : Int) ≤ 9223372036854775807 := by omega
    clear hn hm hD e1 e2 c1 c2 hb ll lm
    go_enter Try.func49, Try.ntmps49
    have z1 : ((n : Int) != (n : Int)) = false := by simp
    go_wp2_with (fail)
    clear z1
    go_loopw [5] (fun i wr => ∃ (c : Nat), i = .int .i64 (c : Int) ∧ c ≤ n ∧ Hid (L.take c = M.take c) ∧ Hid (Below w0.heap.size w0 wr)) (fun i _ => n - litLen i)
    case atStart => exact ⟨0, rfl, Nat.zero_le _, Lib.hid rfl, HB⟩
    case round =>
      obtain ⟨c, rfl, hc, hT, hWr⟩ := hrel
      rcases Nat.lt_or_ge c n with hlt | hge
      · have hl : (c : Int) < (n : Int) := by omega
        have hLc : c < L.length := by rw [← HN.out]; exact hlt
        have hMc : c < M.length := by rw [← HM.out]; exact hlt
        obtain ⟨x, hx⟩ : ∃ x, L[c]? = some x := ⟨_, List.getElem?_eq_getElem hLc⟩
        obtain ⟨y, hy⟩ : ∃ y, M[c]? = some y := ⟨_, List.getElem?_eq_getElem hMc⟩
        have r := (C1.out c hlt x hx).below hWr.out
        have q := (C2.out c hlt y hy).below hWr.out
        have ix1 := ix_sixes (cap := cap1) E1.out hlt (by omega)
        have ix2 := ix_sixes (cap := cap2) E2.out hlt (by omega)
        unfold Ix at ix1 ix2
        have HDR : Hid (Below w0.heap.size w0 wr.drew) := Lib.hid (hWr.out.trans ⟨rfl, rfl, rfl, Nat.le_refl _, fun _ _ => rfl⟩)
        have NX := Lib.hid (fun (h : x = y) => (by rw [take_next hx, take_next hy, hT.out, h] : L.take (c + 1) = M.take (c + 1)))
        have HX := Lib.hid hx
        have HY := Lib.hid hy
        clear hx hy hLc hMc
        by_cases hxy : x = y
        · subst hxy
          have HT : Hid (L.take (c + 1) = M.take (c + 1)) := Lib.hid (NX.out rfl)
          unfold SixAt at r q
          obtain ⟨r0, r1, r2, r3, r4, r5⟩ := r
          obtain ⟨q0, q1, q2, q3, q4, q5⟩ := q
          have NE : ∀ W : World, (binOp .neq 59 (.agg #[.int .i64 x.op, .int .i64 x.d, .int .i64 x.a, .int .i64 x.b, .int .i64 x.c, .int .i64 x.v]) (.agg #[.int .i64 x.op, .int .i64 x.d, .int .i64 x.a, .int .i64 x.b, .int .i64 x.c, .int .i64 x.v])).run Try.prog W = .ok (.bool false) W := fun W => by rw [run_neq6]; simp [sixB]
          go_wp2_with (fail)
          go_region_held3 (fun w' => (w'.cell? ⟨b1, f1 + c * 6, none⟩ = some (.int .i64 x.op) ∧ w'.cell? ⟨b1, f1 + c * 6 + 1, none⟩ = some (.int .i64 x.d) ∧ w'.cell? ⟨b1, f1 + c * 6 + 2, none⟩ = some (.int .i64 x.a) ∧ w'.cell? ⟨b1, f1 + c * 6 + 3, none⟩ = some (.int .i64 x.b) ∧ w'.cell? ⟨b1, f1 + c * 6 + 4, none⟩ = some (.int .i64 x.c) ∧ w'.cell? ⟨b1, f1 + c * 6 + 5, none⟩ = some (.int .i64 x.v)) ∧ (w'.cell? ⟨b2, f2 + c * 6, none⟩ = some (.int .i64 x.op) ∧ w'.cell? ⟨b2, f2 + c * 6 + 1, none⟩ = some (.int .i64 x.d) ∧ w'.cell? ⟨b2, f2 + c * 6 + 2, none⟩ = some (.int .i64 x.a) ∧ w'.cell? ⟨b2, f2 + c * 6 + 3, none⟩ = some (.int .i64 x.b) ∧ w'.cell? ⟨b2, f2 + c * 6 + 4, none⟩ = some (.int .i64 x.c) ∧ w'.cell? ⟨b2, f2 + c * 6 + 5, none⟩ = some (.int .i64 x.v)))
            (first | exact ⟨⟨r0, r1, r2, r3, r4, r5⟩, q0, q1, q2, q3, q4, q5⟩)
            (first | fail)
          all_goals (go_wp2_with fail)
          exact ⟨⟨c + 1, by go_num, by omega, HT, HDR⟩, by simp [litLen]; omega⟩
        · have hDF : D = false := by
            rw [HD.out, decide_eq_false_iff_not]
            intro h
            subst h
            exact hxy (Option.some.inj (HX.out.symm.trans HY.out))
          subst hDF
          unfold SixAt at r q
          obtain ⟨r0, r1, r2, r3, r4, r5⟩ := r
          obtain ⟨q0, q1, q2, q3, q4, q5⟩ := q
          have NE : ∀ W : World, (binOp .neq 59 (.agg #[.int .i64 x.op, .int .i64 x.d, .int .i64 x.a, .int .i64 x.b, .int .i64 x.c, .int .i64 x.v]) (.agg #[.int .i64 y.op, .int .i64 y.d, .int .i64 y.a, .int .i64 y.b, .int .i64 y.c, .int .i64 y.v])).run Try.prog W = .ok (.bool true) W := fun W => by rw [run_neq6, sixB_ne hxy]; rfl
          clear hxy
          go_wp2_with (fail)
          go_region_held3 (fun w' => (w'.cell? ⟨b1, f1 + c * 6, none⟩ = some (.int .i64 x.op) ∧ w'.cell? ⟨b1, f1 + c * 6 + 1, none⟩ = some (.int .i64 x.d) ∧ w'.cell? ⟨b1, f1 + c * 6 + 2, none⟩ = some (.int .i64 x.a) ∧ w'.cell? ⟨b1, f1 + c * 6 + 3, none⟩ = some (.int .i64 x.b) ∧ w'.cell? ⟨b1, f1 + c * 6 + 4, none⟩ = some (.int .i64 x.c) ∧ w'.cell? ⟨b1, f1 + c * 6 + 5, none⟩ = some (.int .i64 x.v)) ∧ (w'.cell? ⟨b2, f2 + c * 6, none⟩ = some (.int .i64 y.op) ∧ w'.cell? ⟨b2, f2 + c * 6 + 1, none⟩ = some (.int .i64 y.d) ∧ w'.cell? ⟨b2, f2 + c * 6 + 2, none⟩ = some (.int .i64 y.a) ∧ w'.cell? ⟨b2, f2 + c * 6 + 3, none⟩ = some (.int .i64 y.b) ∧ w'.cell? ⟨b2, f2 + c * 6 + 4, none⟩ = some (.int .i64 y.c) ∧ w'.cell? ⟨b2, f2 + c * 6 + 5, none⟩ = some (.int .i64 y.v)))
            (first | exact ⟨⟨r0, r1, r2, r3, r4, r5⟩, q0, q1, q2, q3, q4, q5⟩)
            (first | fail)
          all_goals (go_wp2_with fail)
          all_goals (first | (go_ret; exact ⟨rfl, HDR.out⟩) | trace_state)
      · obtain rfl : c = n := by omega
        have hno : ¬ (c : Int) < (c : Int) := by omega
        have hDT : D = true := by
          have h := hT.out
          rw [HD.out, decide_eq_true_iff]
          have h1 : L.take c = L := by rw [HN.out, List.take_length]
          have h2 : M.take c = M := by rw [HM.out, List.take_length]
          rw [h1, h2] at h
          exact h
        subst hDT
        go_wp2_with (fail)
        go_ret
        exact ⟨rfl, hWr.out⟩
  · have hDF : D = false := by
      rw [hD, decide_eq_false_iff_not]
      intro h
      subst h
      exact hnm (hn.trans hm.symm)
    subst hDF
    have z1 : ((n : Int) != (m : Int)) = true := by simp; omega
    have HB := Lib.hid hb
    have h1 : (n : Int) ≤ 9223372036854775807 := by omega
    have h2 : (m : Int) ≤ 9223372036854775807 := by omega
    clear hn hm hnm e1 e2 c1 c2 hb ll lm hD
    go_enter Try.func49, Try.ntmps49
    go_wp2_with (fail)
    go_ret
    exact ⟨rfl, HB.out⟩
set_option maxHeartbeats 8000000 in
set_option maxRecDepth 100000 in
theorem seqSixes_any (L M : List Six) (s t : Value) (w0 w : World) (hs : SixesAt w0 s L) (ht : SixesAt w0 t M) (hb : Below w0.heap.size w0 w) (ll : L.length ≤ 9223372036854775807) (lm : M.length ≤ 9223372036854775807) :
    Calls Try.prog 30 #[s, t] w fun e w' => e = .returned (.bool (decide (L = M))) ∧ Below w0.heap.size w0 w' := by
  obtain ⟨o1, cap1, b1, f1, rfl, _, _, e1, c1⟩ := hs
  obtain ⟨o2, cap2, b2, f2, rfl, _, _, e2, c2⟩ := ht
  obtain ⟨D, hD⟩ : ∃ D, D = decide (L = M) := ⟨_, rfl⟩
  rw [← hD]
  obtain ⟨n, hn⟩ : ∃ n, n = L.length := ⟨_, rfl⟩
  obtain ⟨m, hm⟩ : ∃ m, m = M.length := ⟨_, rfl⟩
  rw [← hn] at e1 c1 ll ⊢
  rw [← hm] at e2 c2 lm ⊢
  by_cases hnm : n = m
  · subst hnm
    have HN := Lib.hid hn
    have HM := Lib.hid hm
    have HD := Lib.hid hD
    have E1 := Lib.hid e1
    have E2 := Lib.hid e2
    have C1 := Lib.hid c1
    have C2 := Lib.hid c2
    have HB := Lib.hid hb
    have hnl : (n : Int) ≤ 9223372036854775807 := by omega
    clear hn hm hD e1 e2 c1 c2 hb ll lm
    go_enter Try.func30, Try.ntmps30
    have z1 : ((n : Int) != (n : Int)) = false := by simp
    go_wp2_with (fail)
    clear z1
    go_loopw [13] (fun i wr => ∃ (c : Nat), i = .int .i64 (c : Int) ∧ c ≤ n ∧ Hid (L.take c = M.take c) ∧ Hid (Below w0.heap.size w0 wr)) (fun i _ => n - litLen i)
    case atStart => exact ⟨0, rfl, Nat.zero_le _, Lib.hid rfl, HB⟩
    case round =>
      obtain ⟨c, rfl, hc, hT, hWr⟩ := hrel
      rcases Nat.lt_or_ge c n with hlt | hge
      · have hl : (c : Int) < (n : Int) := by omega
        have hLc : c < L.length := by rw [← HN.out]; exact hlt
        have hMc : c < M.length := by rw [← HM.out]; exact hlt
        obtain ⟨x, hx⟩ : ∃ x, L[c]? = some x := ⟨_, List.getElem?_eq_getElem hLc⟩
        obtain ⟨y, hy⟩ : ∃ y, M[c]? = some y := ⟨_, List.getElem?_eq_getElem hMc⟩
        have r := (C1.out c hlt x hx).below hWr.out
        have q := (C2.out c hlt y hy).below hWr.out
        have ix1 := ix_sixes (cap := cap1) E1.out hlt (by omega)
        have ix2 := ix_sixes (cap := cap2) E2.out hlt (by omega)
        unfold Ix at ix1 ix2
        have HDR : Hid (Below w0.heap.size w0 wr.drew) := Lib.hid (hWr.out.trans ⟨rfl, rfl, rfl, Nat.le_refl _, fun _ _ => rfl⟩)
        have NX := Lib.hid (fun (h : x = y) => (by rw [take_next hx, take_next hy, hT.out, h] : L.take (c + 1) = M.take (c + 1)))
        have HX := Lib.hid hx
        have HY := Lib.hid hy
        clear hx hy hLc hMc
        by_cases hxy : x = y
        · subst hxy
          have HT : Hid (L.take (c + 1) = M.take (c + 1)) := Lib.hid (NX.out rfl)
          unfold SixAt at r q
          obtain ⟨r0, r1, r2, r3, r4, r5⟩ := r
          obtain ⟨q0, q1, q2, q3, q4, q5⟩ := q
          have NE : ∀ W : World, (binOp .neq 59 (.agg #[.int .i64 x.op, .int .i64 x.d, .int .i64 x.a, .int .i64 x.b, .int .i64 x.c, .int .i64 x.v]) (.agg #[.int .i64 x.op, .int .i64 x.d, .int .i64 x.a, .int .i64 x.b, .int .i64 x.c, .int .i64 x.v])).run Try.prog W = .ok (.bool false) W := fun W => by rw [run_neq6]; simp [sixB]
          go_wp2_with (fail)
          go_region_held3 (fun w' => (w'.cell? ⟨b1, f1 + c * 6, none⟩ = some (.int .i64 x.op) ∧ w'.cell? ⟨b1, f1 + c * 6 + 1, none⟩ = some (.int .i64 x.d) ∧ w'.cell? ⟨b1, f1 + c * 6 + 2, none⟩ = some (.int .i64 x.a) ∧ w'.cell? ⟨b1, f1 + c * 6 + 3, none⟩ = some (.int .i64 x.b) ∧ w'.cell? ⟨b1, f1 + c * 6 + 4, none⟩ = some (.int .i64 x.c) ∧ w'.cell? ⟨b1, f1 + c * 6 + 5, none⟩ = some (.int .i64 x.v)) ∧ (w'.cell? ⟨b2, f2 + c * 6, none⟩ = some (.int .i64 x.op) ∧ w'.cell? ⟨b2, f2 + c * 6 + 1, none⟩ = some (.int .i64 x.d) ∧ w'.cell? ⟨b2, f2 + c * 6 + 2, none⟩ = some (.int .i64 x.a) ∧ w'.cell? ⟨b2, f2 + c * 6 + 3, none⟩ = some (.int .i64 x.b) ∧ w'.cell? ⟨b2, f2 + c * 6 + 4, none⟩ = some (.int .i64 x.c) ∧ w'.cell? ⟨b2, f2 + c * 6 + 5, none⟩ = some (.int .i64 x.v)))
            (first | exact ⟨⟨r0, r1, r2, r3, r4, r5⟩, q0, q1, q2, q3, q4, q5⟩)
            (first | fail)
          all_goals (go_wp2_with fail)
          exact ⟨⟨c + 1, by go_num, by omega, HT, HDR⟩, by simp [litLen]; omega⟩
        · have hDF : D = false := by
            rw [HD.out, decide_eq_false_iff_not]
            intro h
            subst h
            exact hxy (Option.some.inj (HX.out.symm.trans HY.out))
          subst hDF
          unfold SixAt at r q
          obtain ⟨r0, r1, r2, r3, r4, r5⟩ := r
          obtain ⟨q0, q1, q2, q3, q4, q5⟩ := q
          have NE : ∀ W : World, (binOp .neq 59 (.agg #[.int .i64 x.op, .int .i64 x.d, .int .i64 x.a, .int .i64 x.b, .int .i64 x.c, .int .i64 x.v]) (.agg #[.int .i64 y.op, .int .i64 y.d, .int .i64 y.a, .int .i64 y.b, .int .i64 y.c, .int .i64 y.v])).run Try.prog W = .ok (.bool true) W := fun W => by rw [run_neq6, sixB_ne hxy]; rfl
          clear hxy
          go_wp2_with (fail)
          go_region_held3 (fun w' => (w'.cell? ⟨b1, f1 + c * 6, none⟩ = some (.int .i64 x.op) ∧ w'.cell? ⟨b1, f1 + c * 6 + 1, none⟩ = some (.int .i64 x.d) ∧ w'.cell? ⟨b1, f1 + c * 6 + 2, none⟩ = some (.int .i64 x.a) ∧ w'.cell? ⟨b1, f1 + c * 6 + 3, none⟩ = some (.int .i64 x.b) ∧ w'.cell? ⟨b1, f1 + c * 6 + 4, none⟩ = some (.int .i64 x.c) ∧ w'.cell? ⟨b1, f1 + c * 6 + 5, none⟩ = some (.int .i64 x.v)) ∧ (w'.cell? ⟨b2, f2 + c * 6, none⟩ = some (.int .i64 y.op) ∧ w'.cell? ⟨b2, f2 + c * 6 + 1, none⟩ = some (.int .i64 y.d) ∧ w'.cell? ⟨b2, f2 + c * 6 + 2, none⟩ = some (.int .i64 y.a) ∧ w'.cell? ⟨b2, f2 + c * 6 + 3, none⟩ = some (.int .i64 y.b) ∧ w'.cell? ⟨b2, f2 + c * 6 + 4, none⟩ = some (.int .i64 y.c) ∧ w'.cell? ⟨b2, f2 + c * 6 + 5, none⟩ = some (.int .i64 y.v)))
            (first | exact ⟨⟨r0, r1, r2, r3, r4, r5⟩, q0, q1, q2, q3, q4, q5⟩)
            (first | fail)
          all_goals (go_wp2_with fail)
          all_goals (first | (go_ret; exact ⟨rfl, HDR.out⟩) | trace_state)
      · obtain rfl : c = n := by omega
        have hno : ¬ (c : Int) < (c : Int) := by omega
        have hDT : D = true := by
          have h := hT.out
          rw [HD.out, decide_eq_true_iff]
          have h1 : L.take c = L := by rw [HN.out, List.take_length]
          have h2 : M.take c = M := by rw [HM.out, List.take_length]
          rw [h1, h2] at h
          exact h
        subst hDT
        go_wp2_with (fail)
        go_ret
        exact ⟨rfl, hWr.out⟩
  · have hDF : D = false := by
      rw [hD, decide_eq_false_iff_not]
      intro h
      subst h
      exact hnm (hn.trans hm.symm)
    subst hDF
    have z1 : ((n : Int) != (m : Int)) = true := by simp; omega
    have HB := Lib.hid hb
    have h1 : (n : Int) ≤ 9223372036854775807 := by omega
    have h2 : (m : Int) ≤ 9223372036854775807 := by omega
    clear hn hm hnm e1 e2 c1 c2 hb ll lm hD
    go_enter Try.func30, Try.ntmps30
    go_wp2_with (fail)
    go_ret
    exact ⟨rfl, HB.out⟩
end Go.Proofs.Ytodblepbedhnnaa
