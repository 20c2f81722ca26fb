/- What parse.Expr and the reference say of a text whose run is known. -/
import Derived.Test.YtlbhlncipajapaaGreatDoorPe41
import Derived.Test.YtlbhlncipajapaaGreatDoorPdA
namespace Go.Proofs.YtlbhlncipajapaaGreatDoor
open Go.RowKit Lx
set_option linter.unusedVariables false

theorem run_exprs {l : List UInt8} {ts : List Tok} {f : Nat} {v : Int} {lx : List Int} {τ : RS} (ht : lexT l ts none) (hl' : l.length ≤ 20000) (hr : runE (ts ++ [endT l.length]) f .expr rs0 = some (v, lx, τ)) (hn : τ.exprs.length ≤ 40000) :
    ∃ (es : List Ex) (p : Int),
    (∀ W, Signs W → Calls Tryz.prog 12 #[.string (str l)] W fun r Y => ExprX es (if τ.code = 0 then (if (tokL (ts ++ [endT l.length]) τ.at_).kind = 5 then 0 else 2) else τ.code) p W r Y) ∧
    (∀ W, Calls Tryz.prog 9 #[.string (str l), .bool true] W fun r Y => ExprX es (if τ.code = 0 then (if (tokL (ts ++ [endT l.length]) τ.at_).kind = 5 then 0 else 2) else τ.code) p W r Y) := by
  by_cases h0 : τ.code = 0
  · obtain ⟨hv, hpos⟩ := last_expr hr h0
    rw [if_pos h0]
    by_cases h5 : (tokL (ts ++ [endT l.length]) τ.at_).kind = 5
    · rw [if_pos h5]
      refine ⟨τ.exprs, 0, fun W hS => ?_, fun W => ?_⟩
      · exact expr_call _ _ _ _ hn W (Lib.hid fun W2 hb => read_ok l ts ht hl' f τ v lx hr h0 h5 W2 (hS.below hb))
      · exact (parse_expr_ok l ts (Lib.hid ht) hl' f v lx τ (Lib.hid hr) (Lib.hid h0) (Lib.hid h5) W).mono fun r Y h => by rw [hv] at h; exact h
    · rw [if_neg h5]
      refine ⟨[], ((tokL (ts ++ [endT l.length]) τ.at_).at_ : Int), fun W hS => ?_, fun W => ?_⟩
      · exact expr_call _ _ _ _ (by simp) W (Lib.hid fun W2 hb => (read_more l ts ht hl' f τ v lx hr h0 h5 W2 (hS.below hb)).mono fun r Y h => readX_none h)
      · have e1 : (failS (ts ++ [endT l.length]) 2 τ).code = 2 := by unfold failS; rw [if_pos h0]
        have e2 : (failS (ts ++ [endT l.length]) 2 τ).pos = ((tokL (ts ++ [endT l.length]) τ.at_).at_ : Int) := by unfold failS; rw [if_pos h0]
        exact (parse_expr_more l ts (Lib.hid ht) hl' f v lx τ (Lib.hid hr) (Lib.hid h0) (Lib.hid h5) W).mono fun r Y h => by rw [e1, e2] at h; exact exprX_none h
  · rw [if_neg h0]
    refine ⟨[], τ.pos, fun W hS => ?_, fun W => ?_⟩
    · exact expr_call _ _ _ _ (by simp) W (Lib.hid fun W2 hb => (read_bad l ts ht hl' f τ v lx hr h0 W2 (hS.below hb)).mono fun r Y h => readX_none h)
    · exact (parse_expr_bad l ts (Lib.hid ht) hl' f v lx τ (Lib.hid hr) (Lib.hid h0) W).mono fun r Y h => exprX_none h
theorem deep_exprs {k n : Nat} (hk : k < 3) (hn : n < 60) : ∃ (es : List Ex) (cd f : Int), (cd = 3 ↔ 30 < dDeep k n) ∧
    (∀ W, Signs W → Calls Tryz.prog 12 #[.string (str (dText k n))] W fun r Y => ExprX es cd f W r Y) ∧
    (∀ W, Calls Tryz.prog 9 #[.string (str (dText k n)), .bool true] W fun r Y => ExprX es cd f W r Y) := by
  have hok : dOk k n = true := by
    match k, hk with
    | 0, _ => exact d_0 n hn
    | 1, _ => exact d_1 n hn
    | 2, _ => exact d_2 n hn
  have hl' := d_len k hk n hn
  obtain ⟨c, hc, hdeep⟩ := dOk_some hok
  unfold dCode at hc
  obtain ⟨l, hl⟩ : ∃ l, l = dText k n := ⟨_, rfl⟩
  rw [← hl] at hc hl' ⊢
  obtain ⟨ts, h1, h2⟩ := Option.bind_eq_some_iff.1 hc
  obtain ⟨⟨v, lx, τ⟩, h3, h4⟩ := Option.map_eq_some_iff.1 h2
  have ht : lexT l ts none := toksF_ok _ _ _ _ rfl h1
  have hcnt := toks_count ht
  have g1 := gapTo_le false (Nat.zero_le l.length)
  have hen : (ts ++ [endT l.length]).length ≤ 20001 := by rw [List.length_append]; simp only [List.length_cons, List.length_nil]; omega
  obtain ⟨f2, v2, lx2, τ2, hr2, hg2, _, _⟩ := tot_all (end_ok ht l.length) (tok_ok ht hl' l.length) _ .expr rs0 (Nat.le_refl _) ⟨(end_ok ht l.length).1, Nat.le_refl _, Int.le_refl _, by decide, by omega⟩ trivial
  obtain rfl : τ2 = τ := by
    have e1 := runE_le (ts := ts ++ [endT l.length]) (Nat.le_max_left 500 f2) _ _ _ h3
    have e2 := runE_le (ts := ts ++ [endT l.length]) (Nat.le_max_right 500 f2) _ _ _ hr2
    rw [e1] at e2
    injection e2 with e3; injection e3 with e4 e5; injection e5 with e6 e7
    exact e7.symm
  have hlt := hg2.lt
  have hroom : τ2.exprs.length ≤ τ2.at_ := by have := hg2.room; simp only [rs0, List.length_nil] at this; omega
  obtain ⟨es, p, c1, c2⟩ := run_exprs ht hl' h3 (by omega)
  dsimp only at h4
  rw [h4] at c1 c2
  exact ⟨es, c, p, hdeep, c1, c2⟩
end Go.Proofs.YtlbhlncipajapaaGreatDoor
namespace Go.Proofs.YtlbhlncipajapaaGreatDoor
open Go.RowKit Lx
set_option linter.unusedVariables false

theorem d_next0 (n : Nat) : (⟨#[40]⟩ : ByteArray) ++ str (dText 0 n) ++ (⟨#[41]⟩ : ByteArray) = str (dText 0 (n + 1)) := by
  show str [40] ++ str (dText 0 n) ++ str [41] = _
  rw [str_cat, str_cat]
  rfl
set_option maxHeartbeats 8000000 in
theorem deep_law0 (a b : Int) (ha : 0 ≤ a ∧ a ≤ 255) (hb : 0 ≤ b ∧ b ≤ 255) (hk : b % 3 = 0) (w : World) (hS : Signs w) : Calls Tryz.prog 5 #[.int .u8 a, .int .u8 b] w fun r Y => r = .returned (.bool true) ∧ Below w.heap.size w Y := by
  have AL : Hid (Calls Tryz.prog 7 #[] w fun r Y => r = .returned (.bool true) ∧ Hid (Below w.heap.size w Y)) := Lib.hid ((alive_px w hS).mono fun r Y h => ⟨h.1, Lib.hid h.2⟩)
  obtain ⟨N, hN, hN60⟩ : ∃ N : Nat, a.tmod 60 = (N : Int) ∧ N < 60 := ⟨(a % 60).toNat, by rw [Int.tmod_eq_emod_of_nonneg ha.1]; omega, by omega⟩
  have hN6 : (N : Int) ≤ 60 := by omega
  obtain ⟨es, cd, f, hdeep, hC, hR⟩ := deep_exprs (k := 0) (by decide) hN60
  obtain ⟨L, hL⟩ : ∃ L, L = es.length := ⟨_, rfl⟩
  obtain ⟨M, hM⟩ : ∃ M : Int, M = ((es.length - 1 : Nat) : Int) := ⟨_, rfl⟩
  have CC : Hid (∀ W, Below w.heap.size w W → Calls Tryz.prog 12 #[.string (str (dText 0 N))] W fun r Y => ∃ o c, r = .returned (.tuple #[.agg #[.slice none 0 0, .slice o L c], .int .i64 M, .agg #[.int .i64 cd, .int .i64 f]]) ∧ Hid (Below W.heap.size W Y)) := Lib.hid fun W hW => (hC W (hS.below hW)).mono fun r Y ⟨o, c, h1, h2, h3⟩ => ⟨o, c, by rw [hL, hM]; exact h1, Lib.hid h3⟩
  have RR : Hid (∀ W, Calls Tryz.prog 9 #[.string (str (dText 0 N)), .bool true] W fun r Y => ∃ o c, r = .returned (.tuple #[.agg #[.slice none 0 0, .slice o L c], .int .i64 M, .agg #[.int .i64 cd, .int .i64 f]]) ∧ Hid (Below W.heap.size W Y)) := Lib.hid fun W => (hR W).mono fun r Y ⟨o, c, h1, h2, h3⟩ => ⟨o, c, by rw [hL, hM]; exact h1, Lib.hid h3⟩
  have HN := Lib.hid hN
  have HN6 := Lib.hid hN60
  have HDE := Lib.hid hdeep
  have hkt : b.tmod 3 = 0 := by rw [Int.tmod_eq_emod_of_nonneg hb.1]; exact hk
  have q0 : (cd == cd) = true := by simp
  have q1 : (f == f) = true := by simp
  have z0 : (b.tmod 3 == 0) = true := by rw [hkt]; rfl
  have z1 : (b.tmod 3 == 1) = false := by rw [hkt]; rfl
  have z2 : (b.tmod 3 == 2) = false := by rw [hkt]; rfl
  have hsz : Hid (∀ c, c ≤ N → (str (dText 0 c)).size ≤ 20000) := Lib.hid fun c hc => by rw [str_size]; exact d_len 0 (by decide) c (by omega)
  clear hC hR hL hM hS hk hkt ha hb hdeep hN60
  go_enter Tryz.func5, Tryz.ntmps5
  go_wp2_with (first
    | (go_at_call 7; (with_reducible refine AL.out.mono ?_); rintro e w1 ⟨rfl, hb1⟩))
  go_loopw [7, 8] (fun s i wr => ∃ (c : Nat), i = .int .i64 (c : Int) ∧ c ≤ N ∧ s = .string (str (dText 0 c)) ∧ wr = w1) (fun _ i _ => N - litLen i)
  case atStart => exact ⟨0, rfl, Nat.zero_le _, rfl, rfl⟩
  case round =>
    obtain ⟨c, rfl, hc, rfl, rfl⟩ := hrel
    rcases Nat.lt_or_ge c N with hlt | hge
    · have hl : (c : Int) < (N : Int) := by omega
      have hs := hsz.out c hc
      have g1 : ¬ 9223372036854775807 < 1 + (str (dText 0 c)).size := by omega
      have g2 : ¬ 9223372036854775807 < 1 + (str (dText 0 c)).size + 1 := by omega
      go_wp2_with (fail)
      exact ⟨⟨c + 1, by go_num, by omega, by rw [d_next0], by first | rfl | trivial⟩, by simp [litLen]; omega⟩
    · obtain rfl : c = N := by omega
      have hno : ¬ (c : Int) < (c : Int) := by omega
      have hd : ((cd == 3) = true ∧ (30 : Int) < 2 + 2 * (c : Int)) ∨ ((cd == 3) = false ∧ ¬ (30 : Int) < 2 + 2 * (c : Int)) := by
        have h3 : cd = 3 ↔ 30 < 2 + 2 * c := by have := HDE.out; simpa [dDeep] using this
        by_cases h : cd = 3
        · exact .inl ⟨by rw [h]; rfl, by have := h3.1 h; omega⟩
        · exact .inr ⟨by simpa using h, fun h4 => h (h3.2 (by omega))⟩
      rcases hd with ⟨p1, p2⟩ | ⟨p1, p2⟩
      all_goals (
        go_wp2_with (first
          | (go_at_call 12; (with_reducible refine (CC.out _ hb1.out).mono ?_); rintro e w2 ⟨o, c2, rfl, h2⟩)
          | (go_at_call 9; (with_reducible refine (RR.out _).mono ?_); rintro e w3 ⟨o', c', rfl, h3⟩;
              obtain ⟨V2, hV2⟩ : ∃ V2, V2 = (w2.alloc (.cells #[.slice none 0 0, .slice o L c2] 26)).alloc (.cells #[.int .i64 cd, .int .i64 f] 29) := ⟨_, rfl⟩;
              obtain ⟨v1, v2⟩ := rg_two_boxes w2 #[.slice none 0 0, .slice o L c2] #[.int .i64 cd, .int .i64 f] 26 29;
              rw [← hV2] at h3 v1 v2;
              have hbv : Below w2.heap.size w2 V2 := (by rw [hV2]; exact ((Below.refl _ _).alloc (Nat.le_refl _) _).alloc (by simp) _);
              have x2 := (h3.out.block _ (heap_lt v2)).trans v2;
              have n2 : w2.heap.size + 1 < w3.heap.size := heap_lt x2;
              have n1 : w2.heap.size < w3.heap.size := (by omega);
              have u0 : w3.cell? ⟨w2.heap.size + 1, 0, none⟩ = some (.int .i64 cd) := (by simp [World.cell?, x2]);
              have u1 : w3.cell? ⟨w2.heap.size + 1, 1, none⟩ = some (.int .i64 f) := (by simp [World.cell?, x2]);
              have HB3 := Lib.hid ((hb1.out.trans (h2.out.mono hb1.out.size)).trans ((hbv.trans (h3.out.mono hbv.size)).mono (Nat.le_trans hb1.out.size h2.out.size)));
              clear hV2 hbv x2 v1 v2))
        go_ret
        exact ⟨by first | rfl | (simp [p2]; done) | (show Ending.returned (.bool (!decide _)) = _; rw [decide_eq_false p2]; rfl) | (show Ending.returned (.bool (decide _)) = _; rw [decide_eq_true p2]), (HB3.out.alloc HB3.out.size _).alloc (HB3.out.alloc HB3.out.size _).size _⟩)
theorem d_next1 (n : Nat) : (⟨#[45, 32]⟩ : ByteArray) ++ str (dText 1 n) ++ (⟨#[]⟩ : ByteArray) = str (dText 1 (n + 1)) := by
  show str [45, 32] ++ str (dText 1 n) ++ str [] = _
  rw [str_cat, str_cat]
  rfl
set_option maxHeartbeats 8000000 in
theorem deep_law1 (a b : Int) (ha : 0 ≤ a ∧ a ≤ 255) (hb : 0 ≤ b ∧ b ≤ 255) (hk : b % 3 = 1) (w : World) (hS : Signs w) : Calls Tryz.prog 5 #[.int .u8 a, .int .u8 b] w fun r Y => r = .returned (.bool true) ∧ Below w.heap.size w Y := by
  have AL : Hid (Calls Tryz.prog 7 #[] w fun r Y => r = .returned (.bool true) ∧ Hid (Below w.heap.size w Y)) := Lib.hid ((alive_px w hS).mono fun r Y h => ⟨h.1, Lib.hid h.2⟩)
  obtain ⟨N, hN, hN60⟩ : ∃ N : Nat, a.tmod 60 = (N : Int) ∧ N < 60 := ⟨(a % 60).toNat, by rw [Int.tmod_eq_emod_of_nonneg ha.1]; omega, by omega⟩
  have hN6 : (N : Int) ≤ 60 := by omega
  obtain ⟨es, cd, f, hdeep, hC, hR⟩ := deep_exprs (k := 1) (by decide) hN60
  obtain ⟨L, hL⟩ : ∃ L, L = es.length := ⟨_, rfl⟩
  obtain ⟨M, hM⟩ : ∃ M : Int, M = ((es.length - 1 : Nat) : Int) := ⟨_, rfl⟩
  have CC : Hid (∀ W, Below w.heap.size w W → Calls Tryz.prog 12 #[.string (str (dText 1 N))] W fun r Y => ∃ o c, r = .returned (.tuple #[.agg #[.slice none 0 0, .slice o L c], .int .i64 M, .agg #[.int .i64 cd, .int .i64 f]]) ∧ Hid (Below W.heap.size W Y)) := Lib.hid fun W hW => (hC W (hS.below hW)).mono fun r Y ⟨o, c, h1, h2, h3⟩ => ⟨o, c, by rw [hL, hM]; exact h1, Lib.hid h3⟩
  have RR : Hid (∀ W, Calls Tryz.prog 9 #[.string (str (dText 1 N)), .bool true] W fun r Y => ∃ o c, r = .returned (.tuple #[.agg #[.slice none 0 0, .slice o L c], .int .i64 M, .agg #[.int .i64 cd, .int .i64 f]]) ∧ Hid (Below W.heap.size W Y)) := Lib.hid fun W => (hR W).mono fun r Y ⟨o, c, h1, h2, h3⟩ => ⟨o, c, by rw [hL, hM]; exact h1, Lib.hid h3⟩
  have HN := Lib.hid hN
  have HN6 := Lib.hid hN60
  have HDE := Lib.hid hdeep
  have hkt : b.tmod 3 = 1 := by rw [Int.tmod_eq_emod_of_nonneg hb.1]; exact hk
  have q0 : (cd == cd) = true := by simp
  have q1 : (f == f) = true := by simp
  have z0 : (b.tmod 3 == 0) = false := by rw [hkt]; rfl
  have z1 : (b.tmod 3 == 1) = true := by rw [hkt]; rfl
  have z2 : (b.tmod 3 == 2) = false := by rw [hkt]; rfl
  have hsz : Hid (∀ c, c ≤ N → (str (dText 1 c)).size ≤ 20000) := Lib.hid fun c hc => by rw [str_size]; exact d_len 1 (by decide) c (by omega)
  clear hC hR hL hM hS hk hkt ha hb hdeep hN60
  go_enter Tryz.func5, Tryz.ntmps5
  go_wp2_with (first
    | (go_at_call 7; (with_reducible refine AL.out.mono ?_); rintro e w1 ⟨rfl, hb1⟩))
  go_loopw [7, 8] (fun s i wr => ∃ (c : Nat), i = .int .i64 (c : Int) ∧ c ≤ N ∧ s = .string (str (dText 1 c)) ∧ wr = w1) (fun _ i _ => N - litLen i)
  case atStart => exact ⟨0, rfl, Nat.zero_le _, rfl, rfl⟩
  case round =>
    obtain ⟨c, rfl, hc, rfl, rfl⟩ := hrel
    rcases Nat.lt_or_ge c N with hlt | hge
    · have hl : (c : Int) < (N : Int) := by omega
      have hs := hsz.out c hc
      have g1 : ¬ 9223372036854775807 < 2 + (str (dText 1 c)).size := by omega
      have g2 : ¬ 9223372036854775807 < 2 + (str (dText 1 c)).size + 0 := by omega
      go_wp2_with (fail)
      exact ⟨⟨c + 1, by go_num, by omega, by rw [d_next1], by first | rfl | trivial⟩, by simp [litLen]; omega⟩
    · obtain rfl : c = N := by omega
      have hno : ¬ (c : Int) < (c : Int) := by omega
      have hd : ((cd == 3) = true ∧ (30 : Int) < 2 + (c : Int)) ∨ ((cd == 3) = false ∧ ¬ (30 : Int) < 2 + (c : Int)) := by
        have h3 : cd = 3 ↔ 30 < 2 + c := by have := HDE.out; simpa [dDeep] using this
        by_cases h : cd = 3
        · exact .inl ⟨by rw [h]; rfl, by have := h3.1 h; omega⟩
        · exact .inr ⟨by simpa using h, fun h4 => h (h3.2 (by omega))⟩
      rcases hd with ⟨p1, p2⟩ | ⟨p1, p2⟩
      all_goals (
        go_wp2_with (first
          | (go_at_call 12; (with_reducible refine (CC.out _ hb1.out).mono ?_); rintro e w2 ⟨o, c2, rfl, h2⟩)
          | (go_at_call 9; (with_reducible refine (RR.out _).mono ?_); rintro e w3 ⟨o', c', rfl, h3⟩;
              obtain ⟨V2, hV2⟩ : ∃ V2, V2 = (w2.alloc (.cells #[.slice none 0 0, .slice o L c2] 26)).alloc (.cells #[.int .i64 cd, .int .i64 f] 29) := ⟨_, rfl⟩;
              obtain ⟨v1, v2⟩ := rg_two_boxes w2 #[.slice none 0 0, .slice o L c2] #[.int .i64 cd, .int .i64 f] 26 29;
              rw [← hV2] at h3 v1 v2;
              have hbv : Below w2.heap.size w2 V2 := (by rw [hV2]; exact ((Below.refl _ _).alloc (Nat.le_refl _) _).alloc (by simp) _);
              have x2 := (h3.out.block _ (heap_lt v2)).trans v2;
              have n2 : w2.heap.size + 1 < w3.heap.size := heap_lt x2;
              have n1 : w2.heap.size < w3.heap.size := (by omega);
              have u0 : w3.cell? ⟨w2.heap.size + 1, 0, none⟩ = some (.int .i64 cd) := (by simp [World.cell?, x2]);
              have u1 : w3.cell? ⟨w2.heap.size + 1, 1, none⟩ = some (.int .i64 f) := (by simp [World.cell?, x2]);
              have HB3 := Lib.hid ((hb1.out.trans (h2.out.mono hb1.out.size)).trans ((hbv.trans (h3.out.mono hbv.size)).mono (Nat.le_trans hb1.out.size h2.out.size)));
              clear hV2 hbv x2 v1 v2))
        go_ret
        exact ⟨by first | rfl | (simp [p2]; done) | (show Ending.returned (.bool (!decide _)) = _; rw [decide_eq_false p2]; rfl) | (show Ending.returned (.bool (decide _)) = _; rw [decide_eq_true p2]), (HB3.out.alloc HB3.out.size _).alloc (HB3.out.alloc HB3.out.size _).size _⟩)
theorem d_next2 (n : Nat) : (⟨#[105, 102, 32, 97, 32, 116, 104, 101, 110, 32]⟩ : ByteArray) ++ str (dText 2 n) ++ (⟨#[32, 101, 108, 115, 101, 32, 98]⟩ : ByteArray) = str (dText 2 (n + 1)) := by
  show str [105, 102, 32, 97, 32, 116, 104, 101, 110, 32] ++ str (dText 2 n) ++ str [32, 101, 108, 115, 101, 32, 98] = _
  rw [str_cat, str_cat]
  rfl
set_option maxHeartbeats 8000000 in
theorem deep_law2 (a b : Int) (ha : 0 ≤ a ∧ a ≤ 255) (hb : 0 ≤ b ∧ b ≤ 255) (hk : b % 3 = 2) (w : World) (hS : Signs w) : Calls Tryz.prog 5 #[.int .u8 a, .int .u8 b] w fun r Y => r = .returned (.bool true) ∧ Below w.heap.size w Y := by
  have AL : Hid (Calls Tryz.prog 7 #[] w fun r Y => r = .returned (.bool true) ∧ Hid (Below w.heap.size w Y)) := Lib.hid ((alive_px w hS).mono fun r Y h => ⟨h.1, Lib.hid h.2⟩)
  obtain ⟨N, hN, hN60⟩ : ∃ N : Nat, a.tmod 60 = (N : Int) ∧ N < 60 := ⟨(a % 60).toNat, by rw [Int.tmod_eq_emod_of_nonneg ha.1]; omega, by omega⟩
  have hN6 : (N : Int) ≤ 60 := by omega
  obtain ⟨es, cd, f, hdeep, hC, hR⟩ := deep_exprs (k := 2) (by decide) hN60
  obtain ⟨L, hL⟩ : ∃ L, L = es.length := ⟨_, rfl⟩
  obtain ⟨M, hM⟩ : ∃ M : Int, M = ((es.length - 1 : Nat) : Int) := ⟨_, rfl⟩
  have CC : Hid (∀ W, Below w.heap.size w W → Calls Tryz.prog 12 #[.string (str (dText 2 N))] W fun r Y => ∃ o c, r = .returned (.tuple #[.agg #[.slice none 0 0, .slice o L c], .int .i64 M, .agg #[.int .i64 cd, .int .i64 f]]) ∧ Hid (Below W.heap.size W Y)) := Lib.hid fun W hW => (hC W (hS.below hW)).mono fun r Y ⟨o, c, h1, h2, h3⟩ => ⟨o, c, by rw [hL, hM]; exact h1, Lib.hid h3⟩
  have RR : Hid (∀ W, Calls Tryz.prog 9 #[.string (str (dText 2 N)), .bool true] W fun r Y => ∃ o c, r = .returned (.tuple #[.agg #[.slice none 0 0, .slice o L c], .int .i64 M, .agg #[.int .i64 cd, .int .i64 f]]) ∧ Hid (Below W.heap.size W Y)) := Lib.hid fun W => (hR W).mono fun r Y ⟨o, c, h1, h2, h3⟩ => ⟨o, c, by rw [hL, hM]; exact h1, Lib.hid h3⟩
  have HN := Lib.hid hN
  have HN6 := Lib.hid hN60
  have HDE := Lib.hid hdeep
  have hkt : b.tmod 3 = 2 := by rw [Int.tmod_eq_emod_of_nonneg hb.1]; exact hk
  have q0 : (cd == cd) = true := by simp
  have q1 : (f == f) = true := by simp
  have z0 : (b.tmod 3 == 0) = false := by rw [hkt]; rfl
  have z1 : (b.tmod 3 == 1) = false := by rw [hkt]; rfl
  have z2 : (b.tmod 3 == 2) = true := by rw [hkt]; rfl
  have hsz : Hid (∀ c, c ≤ N → (str (dText 2 c)).size ≤ 20000) := Lib.hid fun c hc => by rw [str_size]; exact d_len 2 (by decide) c (by omega)
  clear hC hR hL hM hS hk hkt ha hb hdeep hN60
  go_enter Tryz.func5, Tryz.ntmps5
  go_wp2_with (first
    | (go_at_call 7; (with_reducible refine AL.out.mono ?_); rintro e w1 ⟨rfl, hb1⟩))
  go_loopw [7, 8] (fun s i wr => ∃ (c : Nat), i = .int .i64 (c : Int) ∧ c ≤ N ∧ s = .string (str (dText 2 c)) ∧ wr = w1) (fun _ i _ => N - litLen i)
  case atStart => exact ⟨0, rfl, Nat.zero_le _, rfl, rfl⟩
  case round =>
    obtain ⟨c, rfl, hc, rfl, rfl⟩ := hrel
    rcases Nat.lt_or_ge c N with hlt | hge
    · have hl : (c : Int) < (N : Int) := by omega
      have hs := hsz.out c hc
      have g1 : ¬ 9223372036854775807 < 10 + (str (dText 2 c)).size := by omega
      have g2 : ¬ 9223372036854775807 < 10 + (str (dText 2 c)).size + 7 := by omega
      go_wp2_with (fail)
      exact ⟨⟨c + 1, by go_num, by omega, by rw [d_next2], by first | rfl | trivial⟩, by simp [litLen]; omega⟩
    · obtain rfl : c = N := by omega
      have hno : ¬ (c : Int) < (c : Int) := by omega
      have hd : ((cd == 3) = true ∧ (30 : Int) < 2 + (c : Int)) ∨ ((cd == 3) = false ∧ ¬ (30 : Int) < 2 + (c : Int)) := by
        have h3 : cd = 3 ↔ 30 < 2 + c := by have := HDE.out; simpa [dDeep] using this
        by_cases h : cd = 3
        · exact .inl ⟨by rw [h]; rfl, by have := h3.1 h; omega⟩
        · exact .inr ⟨by simpa using h, fun h4 => h (h3.2 (by omega))⟩
      rcases hd with ⟨p1, p2⟩ | ⟨p1, p2⟩
      all_goals (
        go_wp2_with (first
          | (go_at_call 12; (with_reducible refine (CC.out _ hb1.out).mono ?_); rintro e w2 ⟨o, c2, rfl, h2⟩)
          | (go_at_call 9; (with_reducible refine (RR.out _).mono ?_); rintro e w3 ⟨o', c', rfl, h3⟩;
              obtain ⟨V2, hV2⟩ : ∃ V2, V2 = (w2.alloc (.cells #[.slice none 0 0, .slice o L c2] 26)).alloc (.cells #[.int .i64 cd, .int .i64 f] 29) := ⟨_, rfl⟩;
              obtain ⟨v1, v2⟩ := rg_two_boxes w2 #[.slice none 0 0, .slice o L c2] #[.int .i64 cd, .int .i64 f] 26 29;
              rw [← hV2] at h3 v1 v2;
              have hbv : Below w2.heap.size w2 V2 := (by rw [hV2]; exact ((Below.refl _ _).alloc (Nat.le_refl _) _).alloc (by simp) _);
              have x2 := (h3.out.block _ (heap_lt v2)).trans v2;
              have n2 : w2.heap.size + 1 < w3.heap.size := heap_lt x2;
              have n1 : w2.heap.size < w3.heap.size := (by omega);
              have u0 : w3.cell? ⟨w2.heap.size + 1, 0, none⟩ = some (.int .i64 cd) := (by simp [World.cell?, x2]);
              have u1 : w3.cell? ⟨w2.heap.size + 1, 1, none⟩ = some (.int .i64 f) := (by simp [World.cell?, x2]);
              have HB3 := Lib.hid ((hb1.out.trans (h2.out.mono hb1.out.size)).trans ((hbv.trans (h3.out.mono hbv.size)).mono (Nat.le_trans hb1.out.size h2.out.size)));
              clear hV2 hbv x2 v1 v2))
        go_ret
        exact ⟨by first | rfl | (simp [p2]; done) | (show Ending.returned (.bool (!decide _)) = _; rw [decide_eq_false p2]; rfl) | (show Ending.returned (.bool (decide _)) = _; rw [decide_eq_true p2]), (HB3.out.alloc HB3.out.size _).alloc (HB3.out.alloc HB3.out.size _).size _⟩)
theorem deep_law (a b : Int) (ha : 0 ≤ a ∧ a ≤ 255) (hb : 0 ≤ b ∧ b ≤ 255) (w : World) (hS : Signs w) : Calls Tryz.prog 5 #[.int .u8 a, .int .u8 b] w fun r Y => r = .returned (.bool true) ∧ Below w.heap.size w Y := by
  rcases (by omega : b % 3 = 0 ∨ b % 3 = 1 ∨ b % 3 = 2) with h | h | h
  · exact deep_law0 a b ha hb h w hS
  · exact deep_law1 a b ha hb h w hS
  · exact deep_law2 a b ha hb h w hS
end Go.Proofs.YtlbhlncipajapaaGreatDoor
