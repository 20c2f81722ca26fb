/- Lists compared: the reference's ints and numbers, and slices.Equal of both. -/
import Derived.Test.YtodblepbedhnnaaCoRBytes
import Derived.Deep.RegionHeld3
import Derived.Deep.CutRange
namespace Go.Proofs.Ytodblepbedhnnaa
open Go.RowKit Co

attribute [local go_sem] Oper.semAt_some

theorem take_eq_next {α : Type} {L M : List α} {c : Nat} (h1 : c < L.length) (h2 : c < M.length) (h : L.take c = M.take c) : (L.take (c + 1) = M.take (c + 1) → L[c] = M[c]) ∧ (∀ {d : α}, L.getD c d = M.getD c d → L.take (c + 1) = M.take (c + 1)) := by
  have e1 := take_next (List.getElem?_eq_getElem h1)
  have e2 := take_next (List.getElem?_eq_getElem h2)
  rw [e1, e2, h]
  refine ⟨fun k => by have := List.append_cancel_left k; simpa using this, fun {d} k => ?_⟩
  rw [List.getD_eq_getElem?_getD, List.getD_eq_getElem?_getD, List.getElem?_eq_getElem h1, List.getElem?_eq_getElem h2] at k
  have k' : L[c] = M[c] := k
  rw [k']
set_option maxHeartbeats 8000000 in
set_option maxRecDepth 100000 in
theorem eqInts_any (L M : List Int) (s t : Value) (w0 w : World) (hs : IntsAt w0 s L) (ht : IntsAt w0 t M) (hb : Below w0.heap.size w0 w) (ll : L.length ≤ 9223372036854775807) (lm : M.length ≤ 9223372036854775807) :
    Calls Try.prog 47 #[s, t] w fun e w' => e = .returned (.bool (decide (L = M))) ∧ Below w0.heap.size w0 w' := by
  obtain ⟨o1, cap1, b1, f1, rfl, _, _, e1, c1⟩ := hs
  obtain ⟨o2, cap2, b2, f2, rfl, _, _, e2, c2⟩ := ht
  obtain ⟨D, hD⟩ : ∃ D, D = decide (L = M) := ⟨_, rfl⟩
  rw [← hD]
  obtain ⟨n, hn⟩ : ∃ n, n = L.length := ⟨_, rfl⟩
  obtain ⟨m, hm⟩ : ∃ m, m = M.length := ⟨_, rfl⟩
  rw [← hn] at e1 c1 ll ⊢
  rw [← hm] at e2 c2 lm ⊢
  by_cases hnm : n = m
  · subst hnm
    have HN := Lib.hid hn
    have HM := Lib.hid hm
    have HD := Lib.hid hD
    have E1 := Lib.hid e1
    have E2 := Lib.hid e2
    have C1 := Lib.hid c1
    have C2 := Lib.hid c2
    have HB := Lib.hid hb
    have hnl : (n : Int) ≤ 9223372036854775807 := by omega
    clear hn hm hD e1 e2 c1 c2 hb ll lm
    go_enter Try.func47, Try.ntmps47
    have z1 : ((n : Int) != (n : Int)) = false := by simp
    go_wp2_with (fail)
    clear z1
    go_loopw [5] (fun i wr => ∃ (c : Nat), i = .int .i64 (c : Int) ∧ c ≤ n ∧ Hid (L.take c = M.take c) ∧ Hid (Below w0.heap.size w0 wr)) (fun i _ => n - litLen i)
    case atStart => exact ⟨0, rfl, Nat.zero_le _, Lib.hid rfl, HB⟩
    case round =>
      obtain ⟨c, rfl, hc, hT, hWr⟩ := hrel
      rcases Nat.lt_or_ge c n with hlt | hge
      · have hl : (c : Int) < (n : Int) := by omega
        have r1 := cell_on hWr.out (C1.out c hlt)
        have r2 := cell_on hWr.out (C2.out c hlt)
        have ix1 := ix_ints (cap := cap1) E1.out hlt (by omega)
        have ix2 := ix_ints (cap := cap2) E2.out hlt (by omega)
        unfold Ix at ix1 ix2
        obtain ⟨x, hx⟩ : ∃ x, x = L.getD c 0 := ⟨_, rfl⟩
        obtain ⟨y, hy⟩ : ∃ y, y = M.getD c 0 := ⟨_, rfl⟩
        rw [← hx, Nat.mul_one] at r1
        rw [← hy, Nat.mul_one] at r2
        have HDR : Hid (Below w0.heap.size w0 wr.drew) := Lib.hid (hWr.out.trans ⟨rfl, rfl, rfl, Nat.le_refl _, fun _ _ => rfl⟩)
        have NX := Lib.hid (take_eq_next (show c < L.length by rw [← HN.out]; exact hlt) (show c < M.length by rw [← HM.out]; exact hlt) hT.out)
        have HX := Lib.hid hx
        have HY := Lib.hid hy
        clear hx hy
        by_cases hxy : x = y
        · subst hxy
          have HT : Hid (L.take (c + 1) = M.take (c + 1)) := Lib.hid (NX.out.2 (by rw [← HX.out, ← HY.out]))
          have z2 : (x != x) = false := by simp
          go_wp2_with (fail)
          go_region_held3 (fun w' => w'.cell? ⟨b1, f1 + c, none⟩ = some (.int .i64 x) ∧ w'.cell? ⟨b2, f2 + c, none⟩ = some (.int .i64 x))
            (first | exact ⟨r1, r2⟩)
            (first | fail)
          all_goals (go_wp2_with fail)
          exact ⟨⟨c + 1, by go_num, by omega, HT, HDR⟩, by simp [litLen]; omega⟩
        · have z2 : (x != y) = true := by simp [hxy]
          have hDF : D = false := by
            rw [HD.out, decide_eq_false_iff_not]
            intro h
            subst h
            exact hxy (by rw [HX.out, HY.out])
          subst hDF
          clear hxy
          go_wp2_with (fail)
          go_region_held3 (fun w' => w'.cell? ⟨b1, f1 + c, none⟩ = some (.int .i64 x) ∧ w'.cell? ⟨b2, f2 + c, none⟩ = some (.int .i64 y))
            (first | exact ⟨r1, r2⟩)
            (first | fail)
          all_goals (go_wp2_with fail)
          all_goals (first | (go_ret; exact ⟨rfl, HDR.out⟩) | trace_state)
      · obtain rfl : c = n := by omega
        have hno : ¬ (c : Int) < (c : Int) := by omega
        have hDT : D = true := by
          have h := hT.out
          rw [HD.out, decide_eq_true_iff]
          have h1 : L.take c = L := by rw [HN.out, List.take_length]
          have h2 : M.take c = M := by rw [HM.out, List.take_length]
          rw [h1, h2] at h
          exact h
        subst hDT
        go_wp2_with (fail)
        go_ret
        exact ⟨rfl, hWr.out⟩
  · have hDF : D = false := by
      rw [hD, decide_eq_false_iff_not]
      intro h
      subst h
      exact hnm (hn.trans hm.symm)
    subst hDF
    have z1 : ((n : Int) != (m : Int)) = true := by simp; omega
    have HB := Lib.hid hb
    have h1 : (n : Int) ≤ 9223372036854775807 := by omega
    have h2 : (m : Int) ≤ 9223372036854775807 := by omega
    clear hn hm hnm e1 e2 c1 c2 hb ll lm hD
    go_enter Try.func47, Try.ntmps47
    go_wp2_with (fail)
    go_ret
    exact ⟨rfl, HB.out⟩
set_option maxHeartbeats 8000000 in
set_option maxRecDepth 100000 in
theorem eqNums_any (L M : List Int) (s t : Value) (w0 w : World) (hs : IntsAt w0 s L) (ht : IntsAt w0 t M) (hb : Below w0.heap.size w0 w) (ll : L.length ≤ 9223372036854775807) (lm : M.length ≤ 9223372036854775807) :
    Calls Try.prog 48 #[s, t] w fun e w' => e = .returned (.bool (decide (L = M))) ∧ Below w0.heap.size w0 w' := by
  obtain ⟨o1, cap1, b1, f1, rfl, _, _, e1, c1⟩ := hs
  obtain ⟨o2, cap2, b2, f2, rfl, _, _, e2, c2⟩ := ht
  obtain ⟨D, hD⟩ : ∃ D, D = decide (L = M) := ⟨_, rfl⟩
  rw [← hD]
  obtain ⟨n, hn⟩ : ∃ n, n = L.length := ⟨_, rfl⟩
  obtain ⟨m, hm⟩ : ∃ m, m = M.length := ⟨_, rfl⟩
  rw [← hn] at e1 c1 ll ⊢
  rw [← hm] at e2 c2 lm ⊢
  by_cases hnm : n = m
  · subst hnm
    have HN := Lib.hid hn
    have HM := Lib.hid hm
    have HD := Lib.hid hD
    have E1 := Lib.hid e1
    have E2 := Lib.hid e2
    have C1 := Lib.hid c1
    have C2 := Lib.hid c2
    have HB := Lib.hid hb
    have hnl : (n : Int) ≤ 9223372036854775807 := by omega
    clear hn hm hD e1 e2 c1 c2 hb ll lm
    go_enter Try.func48, Try.ntmps48
    have z1 : ((n : Int) != (n : Int)) = false := by simp
    go_wp2_with (fail)
    clear z1
    go_loopw [5] (fun i wr => ∃ (c : Nat), i = .int .i64 (c : Int) ∧ c ≤ n ∧ Hid (L.take c = M.take c) ∧ Hid (Below w0.heap.size w0 wr)) (fun i _ => n - litLen i)
    case atStart => exact ⟨0, rfl, Nat.zero_le _, Lib.hid rfl, HB⟩
    case round =>
      obtain ⟨c, rfl, hc, hT, hWr⟩ := hrel
      rcases Nat.lt_or_ge c n with hlt | hge
      · have hl : (c : Int) < (n : Int) := by omega
        have r1 := cell_on hWr.out (C1.out c hlt)
        have r2 := cell_on hWr.out (C2.out c hlt)
        have ix1 := ix_i64s (cap := cap1) E1.out hlt (by omega)
        have ix2 := ix_i64s (cap := cap2) E2.out hlt (by omega)
        unfold Ix at ix1 ix2
        obtain ⟨x, hx⟩ : ∃ x, x = L.getD c 0 := ⟨_, rfl⟩
        obtain ⟨y, hy⟩ : ∃ y, y = M.getD c 0 := ⟨_, rfl⟩
        rw [← hx, Nat.mul_one] at r1
        rw [← hy, Nat.mul_one] at r2
        have HDR : Hid (Below w0.heap.size w0 wr.drew) := Lib.hid (hWr.out.trans ⟨rfl, rfl, rfl, Nat.le_refl _, fun _ _ => rfl⟩)
        have NX := Lib.hid (take_eq_next (show c < L.length by rw [← HN.out]; exact hlt) (show c < M.length by rw [← HM.out]; exact hlt) hT.out)
        have HX := Lib.hid hx
        have HY := Lib.hid hy
        clear hx hy
        by_cases hxy : x = y
        · subst hxy
          have HT : Hid (L.take (c + 1) = M.take (c + 1)) := Lib.hid (NX.out.2 (by rw [← HX.out, ← HY.out]))
          have z2 : (x != x) = false := by simp
          go_wp2_with (fail)
          go_region_held3 (fun w' => w'.cell? ⟨b1, f1 + c, none⟩ = some (.int .i64 x) ∧ w'.cell? ⟨b2, f2 + c, none⟩ = some (.int .i64 x))
            (first | exact ⟨r1, r2⟩)
            (first | fail)
          all_goals (go_wp2_with fail)
          exact ⟨⟨c + 1, by go_num, by omega, HT, HDR⟩, by simp [litLen]; omega⟩
        · have z2 : (x != y) = true := by simp [hxy]
          have hDF : D = false := by
            rw [HD.out, decide_eq_false_iff_not]
            intro h
            subst h
            exact hxy (by rw [HX.out, HY.out])
          subst hDF
          clear hxy
          go_wp2_with (fail)
          go_region_held3 (fun w' => w'.cell? ⟨b1, f1 + c, none⟩ = some (.int .i64 x) ∧ w'.cell? ⟨b2, f2 + c, none⟩ = some (.int .i64 y))
            (first | exact ⟨r1, r2⟩)
            (first | fail)
          all_goals (go_wp2_with fail)
          all_goals (first | (go_ret; exact ⟨rfl, HDR.out⟩) | trace_state)
      · obtain rfl : c = n := by omega
        have hno : ¬ (c : Int) < (c : Int) := by omega
        have hDT : D = true := by
          have h := hT.out
          rw [HD.out, decide_eq_true_iff]
          have h1 : L.take c = L := by rw [HN.out, List.take_length]
          have h2 : M.take c = M := by rw [HM.out, List.take_length]
          rw [h1, h2] at h
          exact h
        subst hDT
        go_wp2_with (fail)
        go_ret
        exact ⟨rfl, hWr.out⟩
  · have hDF : D = false := by
      rw [hD, decide_eq_false_iff_not]
      intro h
      subst h
      exact hnm (hn.trans hm.symm)
    subst hDF
    have z1 : ((n : Int) != (m : Int)) = true := by simp; omega
    have HB := Lib.hid hb
    have h1 : (n : Int) ≤ 9223372036854775807 := by omega
    have h2 : (m : Int) ≤ 9223372036854775807 := by omega
    clear hn hm hnm e1 e2 c1 c2 hb ll lm hD
    go_enter Try.func48, Try.ntmps48
    go_wp2_with (fail)
    go_ret
    exact ⟨rfl, HB.out⟩
set_option maxHeartbeats 8000000 in
set_option maxRecDepth 100000 in
theorem seqInts_any (L M : List Int) (s t : Value) (w0 w : World) (hs : IntsAt w0 s L) (ht : IntsAt w0 t M) (hb : Below w0.heap.size w0 w) (ll : L.length ≤ 9223372036854775807) (lm : M.length ≤ 9223372036854775807) :
    Calls Try.prog 28 #[s, t] w fun e w' => e = .returned (.bool (decide (L = M))) ∧ Below w0.heap.size w0 w' := by
  obtain ⟨o1, cap1, b1, f1, rfl, _, _, e1, c1⟩ := hs
  obtain ⟨o2, cap2, b2, f2, rfl, _, _, e2, c2⟩ := ht
  obtain ⟨D, hD⟩ : ∃ D, D = decide (L = M) := ⟨_, rfl⟩
  rw [← hD]
  obtain ⟨n, hn⟩ : ∃ n, n = L.length := ⟨_, rfl⟩
  obtain ⟨m, hm⟩ : ∃ m, m = M.length := ⟨_, rfl⟩
  rw [← hn] at e1 c1 ll ⊢
  rw [← hm] at e2 c2 lm ⊢
  by_cases hnm : n = m
  · subst hnm
    have HN := Lib.hid hn
    have HM := Lib.hid hm
    have HD := Lib.hid hD
    have E1 := Lib.hid e1
    have E2 := Lib.hid e2
    have C1 := Lib.hid c1
    have C2 := Lib.hid c2
    have HB := Lib.hid hb
    have hnl : (n : Int) ≤ 9223372036854775807 := by omega
    clear hn hm hD e1 e2 c1 c2 hb ll lm
    go_enter Try.func28, Try.ntmps28
    have z1 : ((n : Int) != (n : Int)) = false := by simp
    go_wp2_with (fail)
    clear z1
    go_loopw [13] (fun i wr => ∃ (c : Nat), i = .int .i64 (c : Int) ∧ c ≤ n ∧ Hid (L.take c = M.take c) ∧ Hid (Below w0.heap.size w0 wr)) (fun i _ => n - litLen i)
    case atStart => exact ⟨0, rfl, Nat.zero_le _, Lib.hid rfl, HB⟩
    case round =>
      obtain ⟨c, rfl, hc, hT, hWr⟩ := hrel
      rcases Nat.lt_or_ge c n with hlt | hge
      · have hl : (c : Int) < (n : Int) := by omega
        have r1 := cell_on hWr.out (C1.out c hlt)
        have r2 := cell_on hWr.out (C2.out c hlt)
        have ix1 := ix_ints (cap := cap1) E1.out hlt (by omega)
        have ix2 := ix_ints (cap := cap2) E2.out hlt (by omega)
        unfold Ix at ix1 ix2
        obtain ⟨x, hx⟩ : ∃ x, x = L.getD c 0 := ⟨_, rfl⟩
        obtain ⟨y, hy⟩ : ∃ y, y = M.getD c 0 := ⟨_, rfl⟩
        rw [← hx, Nat.mul_one] at r1
        rw [← hy, Nat.mul_one] at r2
        have HDR : Hid (Below w0.heap.size w0 wr.drew) := Lib.hid (hWr.out.trans ⟨rfl, rfl, rfl, Nat.le_refl _, fun _ _ => rfl⟩)
        have NX := Lib.hid (take_eq_next (show c < L.length by rw [← HN.out]; exact hlt) (show c < M.length by rw [← HM.out]; exact hlt) hT.out)
        have HX := Lib.hid hx
        have HY := Lib.hid hy
        clear hx hy
        by_cases hxy : x = y
        · subst hxy
          have HT : Hid (L.take (c + 1) = M.take (c + 1)) := Lib.hid (NX.out.2 (by rw [← HX.out, ← HY.out]))
          have z2 : (x != x) = false := by simp
          go_wp2_with (fail)
          go_region_held3 (fun w' => w'.cell? ⟨b1, f1 + c, none⟩ = some (.int .i64 x) ∧ w'.cell? ⟨b2, f2 + c, none⟩ = some (.int .i64 x))
            (first | exact ⟨r1, r2⟩)
            (first | fail)
          all_goals (go_wp2_with fail)
          exact ⟨⟨c + 1, by go_num, by omega, HT, HDR⟩, by simp [litLen]; omega⟩
        · have z2 : (x != y) = true := by simp [hxy]
          have hDF : D = false := by
            rw [HD.out, decide_eq_false_iff_not]
            intro h
            subst h
            exact hxy (by rw [HX.out, HY.out])
          subst hDF
          clear hxy
          go_wp2_with (fail)
          go_region_held3 (fun w' => w'.cell? ⟨b1, f1 + c, none⟩ = some (.int .i64 x) ∧ w'.cell? ⟨b2, f2 + c, none⟩ = some (.int .i64 y))
            (first | exact ⟨r1, r2⟩)
            (first | fail)
          all_goals (go_wp2_with fail)
          all_goals (first | (go_ret; exact ⟨rfl, HDR.out⟩) | trace_state)
      · obtain rfl : c = n := by omega
        have hno : ¬ (c : Int) < (c : Int) := by omega
        have hDT : D = true := by
          have h := hT.out
          rw [HD.out, decide_eq_true_iff]
          have h1 : L.take c = L := by rw [HN.out, List.take_length]
          have h2 : M.take c = M := by rw [HM.out, List.take_length]
          rw [h1, h2] at h
          exact h
        subst hDT
        go_wp2_with (fail)
        go_ret
        exact ⟨rfl, hWr.out⟩
  · have hDF : D = false := by
      rw [hD, decide_eq_false_iff_not]
      intro h
      subst h
      exact hnm (hn.trans hm.symm)
    subst hDF
    have z1 : ((n : Int) != (m : Int)) = true := by simp; omega
    have HB := Lib.hid hb
    have h1 : (n : Int) ≤ 9223372036854775807 := by omega
    have h2 : (m : Int) ≤ 9223372036854775807 := by omega
    clear hn hm hnm e1 e2 c1 c2 hb ll lm hD
    go_enter Try.func28, Try.ntmps28
    go_wp2_with (fail)
    go_ret
    exact ⟨rfl, HB.out⟩
set_option maxHeartbeats 8000000 in
set_option maxRecDepth 100000 in
theorem seqNums_any (L M : List Int) (s t : Value) (w0 w : World) (hs : IntsAt w0 s L) (ht : IntsAt w0 t M) (hb : Below w0.heap.size w0 w) (ll : L.length ≤ 9223372036854775807) (lm : M.length ≤ 9223372036854775807) :
    Calls Try.prog 29 #[s, t] w fun e w' => e = .returned (.bool (decide (L = M))) ∧ Below w0.heap.size w0 w' := by
  obtain ⟨o1, cap1, b1, f1, rfl, _, _, e1, c1⟩ := hs
  obtain ⟨o2, cap2, b2, f2, rfl, _, _, e2, c2⟩ := ht
  obtain ⟨D, hD⟩ : ∃ D, D = decide (L = M) := ⟨_, rfl⟩
  rw [← hD]
  obtain ⟨n, hn⟩ : ∃ n, n = L.length := ⟨_, rfl⟩
  obtain ⟨m, hm⟩ : ∃ m, m = M.length := ⟨_, rfl⟩
  rw [← hn] at e1 c1 ll ⊢
  rw [← hm] at e2 c2 lm ⊢
  by_cases hnm : n = m
  · subst hnm
    have HN := Lib.hid hn
    have HM := Lib.hid hm
    have HD := Lib.hid hD
    have E1 := Lib.hid e1
    have E2 := Lib.hid e2
    have C1 := Lib.hid c1
    have C2 := Lib.hid c2
    have HB := Lib.hid hb
    have hnl : (n : Int) ≤ 9223372036854775807 := by omega
    clear hn hm hD e1 e2 c1 c2 hb ll lm
    go_enter Try.func29, Try.ntmps29
    have z1 : ((n : Int) != (n : Int)) = false := by simp
    go_wp2_with (fail)
    clear z1
    go_loopw [13] (fun i wr => ∃ (c : Nat), i = .int .i64 (c : Int) ∧ c ≤ n ∧ Hid (L.take c = M.take c) ∧ Hid (Below w0.heap.size w0 wr)) (fun i _ => n - litLen i)
    case atStart => exact ⟨0, rfl, Nat.zero_le _, Lib.hid rfl, HB⟩
    case round =>
      obtain ⟨c, rfl, hc, hT, hWr⟩ := hrel
      rcases Nat.lt_or_ge c n with hlt | hge
      · have hl : (c : Int) < (n : Int) := by omega
        have r1 := cell_on hWr.out (C1.out c hlt)
        have r2 := cell_on hWr.out (C2.out c hlt)
        have ix1 := ix_i64s (cap := cap1) E1.out hlt (by omega)
        have ix2 := ix_i64s (cap := cap2) E2.out hlt (by omega)
        unfold Ix at ix1 ix2
        obtain ⟨x, hx⟩ : ∃ x, x = L.getD c 0 := ⟨_, rfl⟩
        obtain ⟨y, hy⟩ : ∃ y, y = M.getD c 0 := ⟨_, rfl⟩
        rw [← hx, Nat.mul_one] at r1
        rw [← hy, Nat.mul_one] at r2
        have HDR : Hid (Below w0.heap.size w0 wr.drew) := Lib.hid (hWr.out.trans ⟨rfl, rfl, rfl, Nat.le_refl _, fun _ _ => rfl⟩)
        have NX := Lib.hid (take_eq_next (show c < L.length by rw [← HN.out]; exact hlt) (show c < M.length by rw [← HM.out]; exact hlt) hT.out)
        have HX := Lib.hid hx
        have HY := Lib.hid hy
        clear hx hy
        by_cases hxy : x = y
        · subst hxy
          have HT : Hid (L.take (c + 1) = M.take (c + 1)) := Lib.hid (NX.out.2 (by rw [← HX.out, ← HY.out]))
          have z2 : (x != x) = false := by simp
          go_wp2_with (fail)
          go_region_held3 (fun w' => w'.cell? ⟨b1, f1 + c, none⟩ = some (.int .i64 x) ∧ w'.cell? ⟨b2, f2 + c, none⟩ = some (.int .i64 x))
            (first | exact ⟨r1, r2⟩)
            (first | fail)
          all_goals (go_wp2_with fail)
          exact ⟨⟨c + 1, by go_num, by omega, HT, HDR⟩, by simp [litLen]; omega⟩
        · have z2 : (x != y) = true := by simp [hxy]
          have hDF : D = false := by
            rw [HD.out, decide_eq_false_iff_not]
            intro h
            subst h
            exact hxy (by rw [HX.out, HY.out])
          subst hDF
          clear hxy
          go_wp2_with (fail)
          go_region_held3 (fun w' => w'.cell? ⟨b1, f1 + c, none⟩ = some (.int .i64 x) ∧ w'.cell? ⟨b2, f2 + c, none⟩ = some (.int .i64 y))
            (first | exact ⟨r1, r2⟩)
            (first | fail)
          all_goals (go_wp2_with fail)
          all_goals (first | (go_ret; exact ⟨rfl, HDR.out⟩) | trace_state)
      · obtain rfl : c = n := by omega
        have hno : ¬ (c : Int) < (c : Int) := by omega
        have hDT : D = true := by
          have h := hT.out
          rw [HD.out, decide_eq_true_iff]
          have h1 : L.take c = L := by rw [HN.out, List.take_length]
          have h2 : M.take c = M := by rw [HM.out, List.take_length]
          rw [h1, h2] at h
          exact h
        subst hDT
        go_wp2_with (fail)
        go_ret
        exact ⟨rfl, hWr.out⟩
  · have hDF : D = false := by
      rw [hD, decide_eq_false_iff_not]
      intro h
      subst h
      exact hnm (hn.trans hm.symm)
    subst hDF
    have z1 : ((n : Int) != (m : Int)) = true := by simp; omega
    have HB := Lib.hid hb
    have h1 : (n : Int) ≤ 9223372036854775807 := by omega
    have h2 : (m : Int) ≤ 9223372036854775807 := by omega
    clear hn hm hnm e1 e2 c1 c2 hb ll lm hD
    go_enter Try.func29, Try.ntmps29
    go_wp2_with (fail)
    go_ret
    exact ⟨rfl, HB.out⟩
end Go.Proofs.Ytodblepbedhnnaa
