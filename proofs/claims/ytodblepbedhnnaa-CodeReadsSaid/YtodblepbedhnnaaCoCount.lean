/- code's reader: how many a list has; a number of any type. -/
import Derived.Test.YtodblepbedhnnaaCoNum
namespace Go.Proofs.Ytodblepbedhnnaa
open Go.RowKit Co

attribute [local go_sem] Oper.semAt_some

/-- what is read is what was told, and memory is as it was but for the reader -/
def ReadsN (f : Nat) : Prop := ∀ (w0 : World) (R : Nat) (s : St) (w : World), Rd w0 R s w → Calls Try.prog f #[.pointer (some ⟨R, 0, none⟩)] w fun e w' => e = .returned (.int .i64 (num s).1) ∧ Rd w0 R (num s).2 w' ∧ Sm R w w'
set_option maxHeartbeats 4000000 in
set_option maxRecDepth 100000 in
theorem rnum_int : ReadsN 42 := by
  intro w0 R s w h
  have C := Lib.hid (number_any w0 R s w h)
  obtain ⟨x, hx⟩ : ∃ x, x = (num s).1 := ⟨_, rfl⟩
  rw [← hx] at C ⊢
  have z : (x != x) = false := by simp
  clear hx h
  go_enter Try.func42, Try.ntmps42
  go_wp2_with (go_at_call 52; (with_reducible refine C.out.mono ?_); rintro e w1 ⟨rfl, h2, h3⟩; have H2 := Lib.hid h2; have H3 := Lib.hid h3; clear h2 h3)
  go_ret
  exact ⟨rfl, H2.out, H3.out⟩
set_option maxHeartbeats 4000000 in
set_option maxRecDepth 100000 in
theorem rnum_int64 : ReadsN 44 := by
  intro w0 R s w h
  have C := Lib.hid (number_any w0 R s w h)
  obtain ⟨x, hx⟩ : ∃ x, x = (num s).1 := ⟨_, rfl⟩
  rw [← hx] at C ⊢
  have z : (x != x) = false := by simp
  clear hx h
  go_enter Try.func44, Try.ntmps44
  go_wp2_with (go_at_call 52; (with_reducible refine C.out.mono ?_); rintro e w1 ⟨rfl, h2, h3⟩; have H2 := Lib.hid h2; have H3 := Lib.hid h3; clear h2 h3)
  go_ret
  exact ⟨rfl, H2.out, H3.out⟩
theorem num_range (s : St) : i64 (num s).1 := by
  rw [num_D]
  cases h : rdD s with
  | none => exact ⟨by simp, by simp⟩
  | some p =>
    obtain ⟨u, r⟩ := p
    cases s with
    | none => cases h
    | some l =>
      have h2 : num (some l) = (unfold u, some r) := by rw [num_D, h]
      exact (enc_num h2).2
theorem cnt_lost {k : Nat} {s : St} (h : (num s).2 = none) : cnt k s = (0, none) := by
  unfold cnt
  rw [pair_eta _ h]
theorem cnt_bad {k : Nat} {s : St} {r : List UInt8} (h : (num s).2 = some r) (hb : (num s).1 < 0 ∨ ((r.length / k : Nat) : Int) < (num s).1) : cnt k s = (0, none) := by
  unfold cnt
  rw [pair_eta _ h]
  simp only
  rw [if_pos hb]
theorem cnt_ok {k : Nat} {s : St} {r : List UInt8} (h : (num s).2 = some r) (hb : ¬ ((num s).1 < 0 ∨ ((r.length / k : Nat) : Int) < (num s).1)) : cnt k s = ((num s).1.toNat, some r) := by
  unfold cnt
  rw [pair_eta _ h]
  simp only
  rw [if_neg hb]
theorem rd_slice {w0 w : World} {R : Nat} {r : List UInt8} (h : Rd w0 R (some r) w) : ∃ o cap, w.cell? ⟨R, 0, none⟩ = some (.slice o r.length cap) ∧ r.length ≤ 1000000 := by
  obtain ⟨v, l, h1, h2, h3, h4⟩ := h.box
  obtain rfl : r = l := by rcases h4 with h4 | h4 <;> cases h4; rfl
  obtain ⟨o, cap, b, off, rfl, _⟩ := h2
  exact ⟨o, cap, (two_cells h1).1, h3⟩
theorem cnt_le (k : Nat) (s : St) (w0 : World) (R : Nat) (w : World) (h : Rd w0 R (cnt k s).2 w) : (cnt k s).1 ≤ 1000000 := by
  rcases hs : (num s).2 with _ | r
  · rw [cnt_lost hs]; exact Nat.zero_le _
  · by_cases hb : (num s).1 < 0 ∨ ((r.length / k : Nat) : Int) < (num s).1
    · rw [cnt_bad hs hb]; exact Nat.zero_le _
    · rw [cnt_ok hs hb] at h ⊢
      obtain ⟨_, _, _, h1⟩ := rd_slice h
      have := Nat.div_le_self r.length k
      simp only
      omega
set_option maxHeartbeats 8000000 in
set_option maxRecDepth 100000 in
theorem count1_any (w0 : World) (R : Nat) (s : St) (w : World) (h : Rd w0 R s w) :
    Calls Try.prog 51 #[.pointer (some ⟨R, 0, none⟩), .int .i64 1] w fun e w' => e = .returned (.int .i64 ((cnt 1 s).1 : Int)) ∧ Rd w0 R (cnt 1 s).2 w' ∧ Sm R w w' := by
  have C := Lib.hid (number_any w0 R s w h)
  have hrange := num_range s
  obtain ⟨x, hx⟩ : ∃ x, x = (num s).1 := ⟨_, rfl⟩
  clear h
  rcases hs : (num s).2 with _ | r
  · rw [cnt_lost hs]
    rw [hs] at C
    rw [← hx] at C
    clear hs hx hrange
    go_enter Try.func51, Try.ntmps51
    go_wp2_with (go_at_call 52; (with_reducible refine C.out.mono ?_); rintro e w1 ⟨rfl, h2, h3⟩; obtain ⟨v, c0, c1, f0, f1⟩ := rd_cells h2; simp only [lostB] at c1; have H2 := Lib.hid h2; have H3 := Lib.hid h3; clear h2 h3)
    go_ret
    exact ⟨rfl, H2.out.lose, H3.out.trans (Sm.set _ _ _ _)⟩
  · obtain ⟨q, hq⟩ : ∃ q, q = r.length / 1 := ⟨_, rfl⟩
    by_cases hb : (num s).1 < 0 ∨ ((r.length / 1 : Nat) : Int) < (num s).1
    · rw [cnt_bad hs hb]
      rw [hs, ← hx] at C
      rw [← hx, ← hq] at hb
      rw [← hx] at hrange
      obtain ⟨x1, x2⟩ := hrange
      clear hs hx
      rcases Int.lt_or_le x 0 with hn | hn
      · clear hb
        go_enter Try.func51, Try.ntmps51
        go_wp2_with (go_at_call 52; (with_reducible refine C.out.mono ?_); rintro e w1 ⟨rfl, h2, h3⟩; obtain ⟨v, c0, c1, f0, f1⟩ := rd_cells h2; simp only [lostB] at c1; have H2 := Lib.hid h2; have H3 := Lib.hid h3; clear h2 h3)
        go_ret
        exact ⟨rfl, H2.out.lose, H3.out.trans (Sm.set _ _ _ _)⟩
      · have hb2 : (q : Int) < x := by omega
        have HQ := Lib.hid hq
        clear hb hq
        go_enter Try.func51, Try.ntmps51
        go_wp2_with (go_at_call 52; (with_reducible refine C.out.mono ?_); rintro e w1 ⟨rfl, h2, h3⟩; obtain ⟨v, c00, c1, f0, f1⟩ := rd_cells h2; obtain ⟨o, cap, c0, hrl⟩ := rd_slice h2; simp only [lostB] at c1; have H2 := Lib.hid h2; have H3 := Lib.hid h3; obtain ⟨m, hm⟩ : ∃ m, m = r.length := ⟨_, rfl⟩; rw [← hm] at c0 hrl; have hqm : (m : Int) / 1 = (q : Int) := (by have := HQ.out; omega); have hml : (m : Int) ≤ 1000000 := (by omega); clear h2 h3 c00 hm)
        go_ret
        exact ⟨rfl, H2.out.lose, H3.out.trans (Sm.set _ _ _ _)⟩
    · rw [cnt_ok hs hb]
      rw [hs, ← hx] at C
      rw [← hx, ← hq] at hb
      rw [← hx] at hrange
      obtain ⟨x1, x2⟩ := hrange
      have hn : 0 ≤ x := by omega
      have hb2 : x ≤ (q : Int) := by omega
      have HQ := Lib.hid hq
      have HX : Hid (((num s).1.toNat : Int) = x) := Lib.hid (by omega)
      clear hs hx hb hq
      go_enter Try.func51, Try.ntmps51
      go_wp2_with (go_at_call 52; (with_reducible refine C.out.mono ?_); rintro e w1 ⟨rfl, h2, h3⟩; obtain ⟨v, c00, c1, f0, f1⟩ := rd_cells h2; obtain ⟨o, cap, c0, hrl⟩ := rd_slice h2; simp only [lostB] at c1; have H2 := Lib.hid h2; have H3 := Lib.hid h3; obtain ⟨m, hm⟩ : ∃ m, m = r.length := ⟨_, rfl⟩; rw [← hm] at c0 hrl; have hqm : (m : Int) / 1 = (q : Int) := (by have := HQ.out; omega); have hml : (m : Int) ≤ 1000000 := (by omega); clear h2 h3 c00 hm)
      go_ret
      exact ⟨by rw [HX.out]; rfl, H2.out, H3.out⟩
set_option maxHeartbeats 8000000 in
set_option maxRecDepth 100000 in
theorem count6_any (w0 : World) (R : Nat) (s : St) (w : World) (h : Rd w0 R s w) :
    Calls Try.prog 51 #[.pointer (some ⟨R, 0, none⟩), .int .i64 6] w fun e w' => e = .returned (.int .i64 ((cnt 6 s).1 : Int)) ∧ Rd w0 R (cnt 6 s).2 w' ∧ Sm R w w' := by
  have C := Lib.hid (number_any w0 R s w h)
  have hrange := num_range s
  obtain ⟨x, hx⟩ : ∃ x, x = (num s).1 := ⟨_, rfl⟩
  clear h
  rcases hs : (num s).2 with _ | r
  · rw [cnt_lost hs]
    rw [hs] at C
    rw [← hx] at C
    clear hs hx hrange
    go_enter Try.func51, Try.ntmps51
    go_wp2_with (go_at_call 52; (with_reducible refine C.out.mono ?_); rintro e w1 ⟨rfl, h2, h3⟩; obtain ⟨v, c0, c1, f0, f1⟩ := rd_cells h2; simp only [lostB] at c1; have H2 := Lib.hid h2; have H3 := Lib.hid h3; clear h2 h3)
    go_ret
    exact ⟨rfl, H2.out.lose, H3.out.trans (Sm.set _ _ _ _)⟩
  · obtain ⟨q, hq⟩ : ∃ q, q = r.length / 6 := ⟨_, rfl⟩
    by_cases hb : (num s).1 < 0 ∨ ((r.length / 6 : Nat) : Int) < (num s).1
    · rw [cnt_bad hs hb]
      rw [hs, ← hx] at C
      rw [← hx, ← hq] at hb
      rw [← hx] at hrange
      obtain ⟨x1, x2⟩ := hrange
      clear hs hx
      rcases Int.lt_or_le x 0 with hn | hn
      · clear hb
        go_enter Try.func51, Try.ntmps51
        go_wp2_with (go_at_call 52; (with_reducible refine C.out.mono ?_); rintro e w1 ⟨rfl, h2, h3⟩; obtain ⟨v, c0, c1, f0, f1⟩ := rd_cells h2; simp only [lostB] at c1; have H2 := Lib.hid h2; have H3 := Lib.hid h3; clear h2 h3)
        go_ret
        exact ⟨rfl, H2.out.lose, H3.out.trans (Sm.set _ _ _ _)⟩
      · have hb2 : (q : Int) < x := by omega
        have HQ := Lib.hid hq
        clear hb hq
        go_enter Try.func51, Try.ntmps51
        go_wp2_with (go_at_call 52; (with_reducible refine C.out.mono ?_); rintro e w1 ⟨rfl, h2, h3⟩; obtain ⟨v, c00, c1, f0, f1⟩ := rd_cells h2; obtain ⟨o, cap, c0, hrl⟩ := rd_slice h2; simp only [lostB] at c1; have H2 := Lib.hid h2; have H3 := Lib.hid h3; obtain ⟨m, hm⟩ : ∃ m, m = r.length := ⟨_, rfl⟩; rw [← hm] at c0 hrl; have hqm : (m : Int) / 6 = (q : Int) := (by have := HQ.out; omega); have hml : (m : Int) ≤ 1000000 := (by omega); clear h2 h3 c00 hm)
        go_ret
        exact ⟨rfl, H2.out.lose, H3.out.trans (Sm.set _ _ _ _)⟩
    · rw [cnt_ok hs hb]
      rw [hs, ← hx] at C
      rw [← hx, ← hq] at hb
      rw [← hx] at hrange
      obtain ⟨x1, x2⟩ := hrange
      have hn : 0 ≤ x := by omega
      have hb2 : x ≤ (q : Int) := by omega
      have HQ := Lib.hid hq
      have HX : Hid (((num s).1.toNat : Int) = x) := Lib.hid (by omega)
      clear hs hx hb hq
      go_enter Try.func51, Try.ntmps51
      go_wp2_with (go_at_call 52; (with_reducible refine C.out.mono ?_); rintro e w1 ⟨rfl, h2, h3⟩; obtain ⟨v, c00, c1, f0, f1⟩ := rd_cells h2; obtain ⟨o, cap, c0, hrl⟩ := rd_slice h2; simp only [lostB] at c1; have H2 := Lib.hid h2; have H3 := Lib.hid h3; obtain ⟨m, hm⟩ : ∃ m, m = r.length := ⟨_, rfl⟩; rw [← hm] at c0 hrl; have hqm : (m : Int) / 6 = (q : Int) := (by have := HQ.out; omega); have hml : (m : Int) ≤ 1000000 := (by omega); clear h2 h3 c00 hm)
      go_ret
      exact ⟨by rw [HX.out]; rfl, H2.out, H3.out⟩
end Go.Proofs.Ytodblepbedhnnaa
