/- Joined: CdExpr1, CdExpr2, CdList. -/
import Derived.Test.YtlbhlncipajapaaGreatDoorPe30
import Derived.Deep.RegionHeld2
namespace Go.Proofs.YtlbhlncipajapaaGreatDoor
open Go.RowKit Lx
set_option linter.unusedVariables false

/-- a call that is refused: beside it, to no end, the way on -/
theorem two_ways {P : Program} {f : Nat} {args : Array Value} {w : World} {R : Ending → World → Prop} {c : List PanicEntry} {P0 : World → Prop} (C : Calls P f args w fun r Y => r = .panicked c ∧ P0 Y) (h1 : ∀ Y, P0 Y → R (.panicked c) Y) (v : Value) (_h2 : Hid False → R (.returned v) w) : Calls P f args w R :=
  C.mono fun r Y h => by rw [h.1]; exact h1 Y h.2
def arL : List (List UInt8) := [[45, 62], [102, 98, 121]]
theorem ar_sg : ∀ s ∈ arL, s ∈ sgL := fun s hs => by
  have : arL.all (fun s => decide (s ∈ sgL)) = true := by decide +kernel
  exact of_decide_eq_true (List.all_eq_true.1 this s hs)
set_option maxHeartbeats 8000000 in
theorem expr1_if (b g cap : Nat) (dv : Value) (ts : List Tok) (xb : Nat → Prop) (x : RS) (hc : x.code = 0) (hi : isS ts [105, 102] x = true) (v : Int) (τ : RS)
    (C : ∀ W, Hid (Cd W b g cap dv ts xb x) → Calls Tryz.prog 50 #[.pointer (some ⟨b, 0, none⟩)] W fun r Y => CdRet b g cap dv ts xb W (.int .i64 v) τ r Y)
    (k : Nat) (hkb : k ≠ b) (W : World) (h : Hid (Cd W b g cap dv ts xb x)) (hk : Hid (BoxR W k b)) :
    Calls Tryz.prog 48 #[.pointer (some ⟨k, 0, none⟩)] W fun r Y => CdRet b g cap dv ts xb W (.int .i64 v) τ r Y := by
  obtain ⟨W1, hW1⟩ : ∃ W1, W1 = W.alloc (.cells #[.string ⟨#[105, 102]⟩] 9) := ⟨_, rfl⟩
  have hb1 : Below W.heap.size W W1 := by rw [hW1]; exact (Below.refl _ _).alloc (Nat.le_refl _) _
  have hbs := h.out.size
  have hks := heap_lt hk.out
  have H1 : Hid (Cd W1 b g cap dv ts xb x) := Lib.hid (h.out.below hb1)
  have HB := Lib.hid (RX.of_below (xb := xb) hb1 (Nat.le_of_lt hbs) h.out.xlt)
  have bx := hk.out.cell
  have bx1 : W1.cell? ⟨k, 0, none⟩ = some (.pointer (some ⟨b, 0, none⟩)) := (hk.out.keep hkb HB.out).cell
  have F := Lib.hid (fits_any b g cap dv ts xb x W.heap.size 1 [[105, 102]] W1 H1 hc (by decide) rfl (by decide) (Lib.hid (by rw [hW1]; exact strs_new W [[105, 102]] _)))
  have e : fitsB ts [[105, 102]] x = true := by unfold fitsB; simp [hi]
  rw [e] at F
  have C0 := Lib.hid (C W1 H1)
  clear C e hi hb1 hkb
  by_cases h0 : τ.code = 0
  · have C1 := Lib.hid (C0.out.mono fun r Y hh => hh.ok h0)
    have H0 := Lib.hid h0
    clear C0 h0 hc
    go_enter Tryz.func48, Tryz.ntmps48
    go_wp2_with (first
      | (go_at_call 49; rw [← hW1]; clear hW1; (with_reducible refine F.out.mono ?_); rintro e w1 ⟨rfl, hw1⟩; obtain rfl := hw1.symm)
      | (go_at_call 50; (with_reducible refine C1.out.mono ?_); rintro e w2 ⟨rfl, hr, hk2⟩))
    go_ret
    exact ⟨HB.out.trans hk2.out, .inl ⟨H0.out, rfl, hr.out⟩⟩
  · have C1 := Lib.hid (C0.out.mono fun r Y hh => hh.bad h0)
    have H0 := Lib.hid h0
    clear C0 h0 hc
    go_enter Tryz.func48, Tryz.ntmps48
    go_wp2_with (first
      | (go_at_call 49; rw [← hW1]; clear hW1; (with_reducible refine F.out.mono ?_); rintro e w1 ⟨rfl, hw1⟩; obtain rfl := hw1.symm)
      | (go_at_call 50; (with_reducible refine C1.out.mono ?_); rintro e w2 ⟨rfl, hk2⟩))
    exact ⟨rfl, HB.out.trans hk2.out, .inr ⟨H0.out, rfl⟩⟩
set_option maxHeartbeats 16000000 in
theorem expr1_or (b g cap : Nat) (dv : Value) (ts : List Tok) (xb : Nat → Prop) (x : RS) (hc : x.code = 0) (hi : isS ts [105, 102] x = false) (o : Int) (y : RS)
    (CO : ∀ W, Hid (Cd W b g cap dv ts xb x) → Calls Tryz.prog 52 #[.pointer (some ⟨b, 0, none⟩)] W fun r Y => CdRet b g cap dv ts xb W (.int .i64 o) y r Y)
    (v : Int) (m : Bool) (τ : RS) (hst : Stays y τ)
    (CP : y.code = 0 → ∀ k W, Hid (Cd W b g cap dv ts xb y) → Hid (StrsIn W k arL) → Calls Tryz.prog 51 #[.pointer (some ⟨b, 0, none⟩), .int .i64 o, .func (.func 26) #[.pointer (some ⟨b, 0, none⟩)] #[], .slice (some ⟨k, 0, none⟩) 2 2] W fun r Y => CdRet b g cap dv ts xb W (.tuple #[.int .i64 v, .bool m]) τ r Y)
    (k : Nat) (hkb : k ≠ b) (W : World) (h : Hid (Cd W b g cap dv ts xb x)) (hk : Hid (BoxR W k b)) :
    Calls Tryz.prog 48 #[.pointer (some ⟨k, 0, none⟩)] W fun r Y => CdRet b g cap dv ts xb W (.int .i64 v) τ r Y := by
  obtain ⟨W1, hW1⟩ : ∃ W1, W1 = W.alloc (.cells #[.string ⟨#[105, 102]⟩] 9) := ⟨_, rfl⟩
  have hb1 : Below W.heap.size W W1 := by rw [hW1]; exact (Below.refl _ _).alloc (Nat.le_refl _) _
  have hbs := h.out.size
  have hks := heap_lt hk.out
  have H1 : Hid (Cd W1 b g cap dv ts xb x) := Lib.hid (h.out.below hb1)
  have HB := Lib.hid (RX.of_below (xb := xb) hb1 (Nat.le_of_lt hbs) h.out.xlt)
  have bx := hk.out.cell
  have HK1 : Hid (BoxR W1 k b) := Lib.hid (hk.out.keep hkb HB.out)
  have bx1 := HK1.out.cell
  have F := Lib.hid (fits_any b g cap dv ts xb x W.heap.size 1 [[105, 102]] W1 H1 hc (by decide) rfl (by decide) (Lib.hid (by rw [hW1]; exact strs_new W [[105, 102]] _)))
  have e : fitsB ts [[105, 102]] x = false := by unfold fitsB; simp [hi]
  rw [e] at F
  have HKB := Lib.hid hkb
  have MF := runF
  have HCO := Lib.hid CO
  have HCP := Lib.hid CP
  have HST := Lib.hid hst
  clear e hi hb1 hkb hst CO CP hc
  have HRa : Hid (Cd W1.drew b g cap dv ts xb x) := Lib.hid (H1.out.below (below_dr (Below.refl _ _) 1))
  have hba : Below W1.heap.size W1 (W1.alloc (.cells #[.string ⟨#[45, 62]⟩, .string ⟨#[102, 98, 121]⟩] 9)).drew := below_dr ((Below.refl _ _).alloc (Nat.le_refl _) _) 1
  have HRb : Hid (Cd (W1.alloc (.cells #[.string ⟨#[45, 62]⟩, .string ⟨#[102, 98, 121]⟩] 9)).drew b g cap dv ts xb x) := Lib.hid (H1.out.below hba)
  have HSb : Hid ((W1.alloc (.cells #[.string ⟨#[45, 62]⟩, .string ⟨#[102, 98, 121]⟩] 9)).drew.heap[W1.heap.size]? = some (.cells (arL.map fun s => Value.string (str s)).toArray 9 (0, 0))) := Lib.hid (heap_alloc_new W1 _)
  have HXa : Hid (RX b xb W1 W1.drew) := Lib.hid (RX.of_below (below_dr (Below.refl _ _) 1) (Nat.le_of_lt H1.out.size) H1.out.xlt)
  have HXb : Hid (RX b xb W1 (W1.alloc (.cells #[.string ⟨#[45, 62]⟩, .string ⟨#[102, 98, 121]⟩] 9)).drew) := Lib.hid (RX.of_below hba (Nat.le_of_lt H1.out.size) H1.out.xlt)
  have hb1s := H1.out.size
  have hk1s := heap_lt HK1.out
  have SN : Hid (∀ w : World, StrsIn (w.alloc (.cells #[.string ⟨#[45, 62]⟩, .string ⟨#[102, 98, 121]⟩] 9)) w.heap.size arL) := Lib.hid fun w => strs_new w arL _
  clear hba
  by_cases hy : y.code = 0
  · have CO1 : Hid (∀ W, Hid (Cd W b g cap dv ts xb x) → Calls Tryz.prog 52 #[.pointer (some ⟨b, 0, none⟩)] W fun r Y => CdOk b g cap dv ts xb W (.int .i64 o) y r Y) := Lib.hid fun W h => (HCO.out W h).mono fun r Y hh => hh.ok hy
    have CP0 := Lib.hid (HCP.out hy)
    have HY := Lib.hid hy
    clear HCO HCP hy
    by_cases h0 : τ.code = 0
    · have CP1 : Hid (∀ k W, Hid (Cd W b g cap dv ts xb y) → Hid (StrsIn W k arL) → Calls Tryz.prog 51 #[.pointer (some ⟨b, 0, none⟩), .int .i64 o, .func (.func 26) #[.pointer (some ⟨b, 0, none⟩)] #[], .slice (some ⟨k, 0, none⟩) 2 2] W fun r Y => CdOk b g cap dv ts xb W (.tuple #[.int .i64 v, .bool m]) τ r Y) := Lib.hid fun k W h hs => (CP0.out k W h hs).mono fun r Y hh => hh.ok h0
      have H0 := Lib.hid h0
      clear CP0 h0
      go_enter Tryz.func48, Tryz.ntmps48
      go_wp2_with (go_at_call 49; rw [← hW1]; clear hW1; (with_reducible refine F.out.mono ?_); rintro e w1 ⟨rfl, hw1⟩; obtain rfl := hw1.symm)
      go_region_held3 (fun w' => w'.cell? ⟨k, 0, none⟩ = some (.pointer (some ⟨b, 0, none⟩)))
        (first | assumption | go_keep)
        (first
          | (go_at_call 52; (with_reducible refine (CO1.out _ ?_).mono ?_); (focus (first | with_reducible exact HRa | with_reducible exact HRb)); rintro e w5 ⟨rfl, hr5, hk5⟩; (first | (have HSK := Lib.hid (strs_of (hk5.out.keep _ _ HSb.out (Nat.ne_of_gt hb1s) noex_str)); have HXX := HXb) | (have HXX := HXa)); have HB5 := Lib.hid (HK1.out.keep HKB.out (HXX.out.trans hk5.out)); have z5 := HB5.out.cell; have HX5 := Lib.hid (HXX.out.trans hk5.out); have HR5a := Lib.hid (hr5.out.below ((Below.refl w5.heap.size w5).alloc (Nat.le_refl _) (.cells #[.string ⟨#[45, 62]⟩, .string ⟨#[102, 98, 121]⟩] 9))); have HX5a := Lib.hid (HX5.out.trans (RX.of_below ((Below.refl w5.heap.size w5).alloc (Nat.le_refl _) (.cells #[.string ⟨#[45, 62]⟩, .string ⟨#[102, 98, 121]⟩] 9)) (Nat.le_of_lt hr5.out.size) hr5.out.xlt)); have HB5a := Lib.hid (HK1.out.keep HKB.out HX5a.out); have HS5a := Lib.hid (SN.out w5))
          | (go_at_call 51; (with_reducible refine (CP1.out _ _ ?_ ?_).mono ?_); (focus (first | with_reducible exact hr5 | with_reducible exact HR5a)); (focus (first | with_reducible exact HSK | with_reducible exact HS5a)); rintro e w6 ⟨rfl, hr6, hk6⟩; (first | (have HX6 := Lib.hid (HX5.out.trans hk6.out)) | (have HX6 := Lib.hid (HX5a.out.trans hk6.out))); have z6 := (HK1.out.keep HKB.out HX6.out).cell))
      all_goals (
        go_wp2_with fail
        go_ret
        exact ⟨HB.out.trans HX6.out, .inl ⟨H0.out, rfl, hr6.out⟩⟩)
    · have CP1 : Hid (∀ k W, Hid (Cd W b g cap dv ts xb y) → Hid (StrsIn W k arL) → Calls Tryz.prog 51 #[.pointer (some ⟨b, 0, none⟩), .int .i64 o, .func (.func 26) #[.pointer (some ⟨b, 0, none⟩)] #[], .slice (some ⟨k, 0, none⟩) 2 2] W fun r Y => CdBad b xb W τ.code τ.pos r Y) := Lib.hid fun k W h hs => (CP0.out k W h hs).mono fun r Y hh => hh.bad h0
      have H0 := Lib.hid h0
      clear CP0 h0
      go_enter Tryz.func48, Tryz.ntmps48
      go_wp2_with (go_at_call 49; rw [← hW1]; clear hW1; (with_reducible refine F.out.mono ?_); rintro e w1 ⟨rfl, hw1⟩; obtain rfl := hw1.symm)
      go_region_held2 (fun w' => w'.cell? ⟨k, 0, none⟩ = some (.pointer (some ⟨b, 0, none⟩)))
        (first | assumption | go_keep)
        (first
          | (go_at_call 52; (with_reducible refine (CO1.out _ ?_).mono ?_); (focus (first | with_reducible exact HRa | with_reducible exact HRb)); rintro e w5 ⟨rfl, hr5, hk5⟩; (first | (have HSK := Lib.hid (strs_of (hk5.out.keep _ _ HSb.out (Nat.ne_of_gt hb1s) noex_str)); have HXX := HXb) | (have HXX := HXa)); have HB5 := Lib.hid (HK1.out.keep HKB.out (HXX.out.trans hk5.out)); have z5 := HB5.out.cell; have HX5 := Lib.hid (HXX.out.trans hk5.out); have HR5a := Lib.hid (hr5.out.below ((Below.refl w5.heap.size w5).alloc (Nat.le_refl _) (.cells #[.string ⟨#[45, 62]⟩, .string ⟨#[102, 98, 121]⟩] 9))); have HX5a := Lib.hid (HX5.out.trans (RX.of_below ((Below.refl w5.heap.size w5).alloc (Nat.le_refl _) (.cells #[.string ⟨#[45, 62]⟩, .string ⟨#[102, 98, 121]⟩] 9)) (Nat.le_of_lt hr5.out.size) hr5.out.xlt)); have HB5a := Lib.hid (HK1.out.keep HKB.out HX5a.out); have HS5a := Lib.hid (SN.out w5))
          | (go_at_call 51; (with_reducible refine two_ways (CP1.out _ _ ?_ ?_) ?_ (.tuple #[.int .i64 0, .bool false]) ?_); (focus (first | with_reducible exact hr5 | with_reducible exact HR5a)); (focus (first | with_reducible exact HSK | with_reducible exact HS5a)); (focus (intro Y hY; (first | (have HX6 := Lib.hid (HX5.out.trans hY.out)) | (have HX6 := Lib.hid (HX5a.out.trans hY.out))); exact ⟨rfl, HB.out.trans HX6.out, .inr ⟨H0.out, rfl⟩⟩)); intro hf; have z6 := HB5a.out.cell))
      all_goals exact hf.out.elim
  · have CO1 : Hid (∀ W, Hid (Cd W b g cap dv ts xb x) → Calls Tryz.prog 52 #[.pointer (some ⟨b, 0, none⟩)] W fun r Y => CdBad b xb W y.code y.pos r Y) := Lib.hid fun W h => (HCO.out W h).mono fun r Y hh => hh.bad hy
    have HY := Lib.hid hy
    clear HCO HCP hy
    go_enter Tryz.func48, Tryz.ntmps48
    go_wp2_with (go_at_call 49; rw [← hW1]; clear hW1; (with_reducible refine F.out.mono ?_); rintro e w1 ⟨rfl, hw1⟩; obtain rfl := hw1.symm)
    go_region_held2 (fun w' => w'.cell? ⟨k, 0, none⟩ = some (.pointer (some ⟨b, 0, none⟩)))
      (first | assumption | go_keep)
      (first
        | (go_at_call 52; (with_reducible refine two_ways (CO1.out _ ?_) ?_ (.int .i64 0) ?_); (focus (first | with_reducible exact HRa | with_reducible exact HRb)); (focus (intro Y hY; (first | (have HX5 := Lib.hid (HXb.out.trans hY.out)) | (have HX5 := Lib.hid (HXa.out.trans hY.out))); exact ⟨rfl, CdBad.ret (g := g) (cap := cap) (dv := dv) (ts := ts) ⟨rfl, Lib.hid (HB.out.trans HX5.out)⟩ HY.out HST.out⟩)); intro hf)
        | (go_at_call 51; refine two_ways (c := []) (P0 := fun _ => False) hf.out.elim (fun Y hY => hY.elim) (.tuple #[.int .i64 0, .bool false]) (fun hf2 => ?_)))
    all_goals exact hf.out.elim
end Go.Proofs.YtlbhlncipajapaaGreatDoor
namespace Go.Proofs.YtlbhlncipajapaaGreatDoor
open Go.RowKit Lx
set_option linter.unusedVariables false

set_option maxHeartbeats 4000000 in
theorem expr_rule (b g cap : Nat) (dv : Value) (ts : List Tok) (f : Nat) (IO : ∀ xb, RuleC b g cap dv ts xb 52 f (.bin 1)) (IE : ∀ xb, RuleC b g cap dv ts xb 26 f .expr) (xb : Nat → Prop) : RuleC b g cap dv ts xb 26 (f + 1) .expr := by
  intro σ v l τ hc hr W h
  obtain ⟨hok, hcase⟩ := expr_cases hr
  have hbs := h.out.size
  have D : Hid (∀ (k : Nat), k ≠ b → ∀ W, Hid (Cd W b g cap dv ts xb σ) → Hid (BoxR W k b) → Calls Tryz.prog 47 #[.pointer (some ⟨b, 0, none⟩), .func (.func 48) #[] #[.pointer (some ⟨k, 0, none⟩)]] W fun r Y => CdRet b g cap dv ts xb W (.int .i64 v) τ r Y) := Lib.hid (by
    refine deep_rule b g cap dv ts xb _ enters_expr1 σ hc hok v τ ?_
    rcases hcase with ⟨h1, h2⟩ | ⟨h1, h2, va, la, s2, vb, lb, s3, vc, lc, s4, r1, r2, r3, h4, h5⟩ | ⟨h1, h2, o, lo, y, r1, h3⟩
    · injection h2 with e1 e2; injection e2 with e2 e3
      exact .inl ⟨h1, e3⟩
    · injection h5 with e1 e2; injection e2 with e2 e3
      obtain ⟨k1, k2, k3⟩ := okS_iff.1 h4
      refine .inr ⟨h1, _, e3, k2, (show s4.deep ≤ 31 by omega), fun k hk W h hb => ?_⟩
      refine expr1_if b g cap dv ts xb (enterS ts σ) h1 h2 v _ (fun W h => ?_) k hk W h hb
      rw [e1]
      exact choice_any b g cap dv ts xb f IE (enterS ts σ) h1 h2 va vb vc la lb lc s2 s3 s4 r1 r2 r3 h4 W h
    · rcases h3 with ⟨ha, bv, lb, z, r2, hz, h5⟩ | ⟨ha, hb2, bv, lb, z, r2, hz, h5⟩ | ⟨ha, hb2, hy, h5⟩
      · injection h5 with e1 e2; injection e2 with e2 e3
        obtain ⟨k1, k2, k3⟩ := okS_iff.1 hz
        refine .inr ⟨h1, _, e3, k2, (show z.deep ≤ 31 by omega), fun k hk W h hb => ?_⟩
        refine expr1_or b g cap dv ts xb (enterS ts σ) h1 h2 o y (fun W h => IO xb (enterS ts σ) o lo y h1 r1 W h) v true _ ((stays_step y).trans ((stuck ts f .expr _ _ r2).trans (stays_put _ _))) (fun hyc k W h hs => ?_) k hk W h hb
        rw [e1]
        exact pair_yes b g cap dv ts xb y o _ k 2 arL W h hyc ar_sg rfl (by decide) hs [45, 62] 17 ha (by decide) (by decide) enters_expr bv z hz fun W h => IE xb (stepS y) bv lb z hyc r2 W h
      · injection h5 with e1 e2; injection e2 with e2 e3
        obtain ⟨k1, k2, k3⟩ := okS_iff.1 hz
        refine .inr ⟨h1, _, e3, k2, (show z.deep ≤ 31 by omega), fun k hk W h hb => ?_⟩
        refine expr1_or b g cap dv ts xb (enterS ts σ) h1 h2 o y (fun W h => IO xb (enterS ts σ) o lo y h1 r1 W h) v true _ ((stays_step y).trans ((stuck ts f .expr _ _ r2).trans (stays_put _ _))) (fun hyc k W h hs => ?_) k hk W h hb
        rw [e1]
        exact pair_yes b g cap dv ts xb y o _ k 2 arL W h hyc ar_sg rfl (by decide) hs [102, 98, 121] 18 hb2 (by decide) (by decide) enters_expr bv z hz fun W h => IE xb (stepS y) bv lb z hyc r2 W h
      · injection h5 with e1 e2; injection e2 with e2 e3
        obtain ⟨k1, k2, k3⟩ := okS_iff.1 hy
        refine .inr ⟨h1, y, e3, k2, by omega, fun k hk W h hb => ?_⟩
        refine expr1_or b g cap dv ts xb (enterS ts σ) h1 h2 o y (fun W h => IO xb (enterS ts σ) o lo y h1 r1 W h) v false y (Stays.refl y) (fun hyc k W h hs => ?_) k hk W h hb
        rw [e1]
        have hno : fitsB ts arL y = false := by unfold fitsB arL; simp [ha, hb2]
        exact (pair_no b g cap dv ts xb y o _ k 2 arL W h hyc ar_sg rfl (by decide) hs hno).mono fun r Y hh => ⟨by rw [hh.2]; exact RX.refl _ _ _, .inl ⟨hyc, hh.1, by rw [hh.2]; exact h.out⟩⟩)
  have MF := runF
  clear hcase hr hok
  obtain ⟨W1, hW1⟩ : ∃ W1, W1 = W.alloc (.cells #[.pointer (some ⟨b, 0, none⟩)] 48) := ⟨_, rfl⟩
  have hb1 : Below W.heap.size W W1 := by rw [hW1]; exact (Below.refl _ _).alloc (Nat.le_refl _) _
  have C := Lib.hid (D.out W.heap.size (by omega) W1 (Lib.hid (h.out.below hb1)) (Lib.hid (by rw [hW1]; exact boxR_new W b)))
  have HB := Lib.hid (RX.of_below (xb := xb) hb1 (Nat.le_of_lt hbs) h.out.xlt)
  clear D hb1
  by_cases h0 : τ.code = 0
  · have C1 := Lib.hid (C.out.mono fun r Y hh => hh.ok h0)
    have H0 := Lib.hid h0
    clear C h0 hc
    go_enter Tryz.func26, Tryz.ntmps26
    go_wp2_with (go_at_call 47; rw [← hW1]; clear hW1; (with_reducible refine C1.out.mono ?_); rintro e w2 ⟨rfl, hr, hk⟩)
    go_ret
    exact ⟨HB.out.trans hk.out, .inl ⟨H0.out, rfl, hr.out⟩⟩
  · have C1 := Lib.hid (C.out.mono fun r Y hh => hh.bad h0)
    have H0 := Lib.hid h0
    clear C h0 hc
    go_enter Tryz.func26, Tryz.ntmps26
    go_wp2_with (go_at_call 47; rw [← hW1]; clear hW1; (with_reducible refine C1.out.mono ?_); rintro e w2 ⟨rfl, hk⟩)
    exact ⟨rfl, HB.out.trans hk.out, .inr ⟨H0.out, rfl⟩⟩
end Go.Proofs.YtlbhlncipajapaaGreatDoor
namespace Go.Proofs.YtlbhlncipajapaaGreatDoor
open Go.RowKit Lx
set_option linter.unusedVariables false

/-- one more behind each comma -/
inductive LR {α : Type} (one : α → RS → α → RS → Prop) (ts : List Tok) : Nat → α → RS → α → RS → Prop where
  | stop {a : α} {σ : RS} (h : isS ts [44] σ = false) : LR one ts 0 a σ a σ
  | more {n : Nat} {a a' a'' : α} {σ σ' σ'' : RS} (h : isS ts [44] σ = true) (h1 : one a (stepS σ) a' σ') (h2 : LR one ts n a' σ' a'' σ'') : LR one ts (n + 1) a σ a'' σ''
theorem LR.stays {α : Type} {one : α → RS → α → RS → Prop} {ts : List Tok} (hs : ∀ a σ a' σ', one a σ a' σ' → Stays σ σ') {n : Nat} {a a' : α} {σ σ' : RS} (h : LR one ts n a σ a' σ') : Stays σ σ' := by
  induction h with
  | stop => exact Stays.refl _
  | more h h1 h2 ih => exact (stays_step _).trans ((hs _ _ _ _ h1).trans ih)
/-- what a list's rule answers: I of what was read -/
def LsRet {α : Type} (b : Nat) (xb : Nat → Prop) (W0 : World) (I : α → RS → World → Prop) (a : α) (σ : RS) (r : Ending) (Y : World) : Prop :=
  (σ.code = 0 ∧ r = .returned (.tuple #[]) ∧ I a σ Y) ∨ (σ.code ≠ 0 ∧ r = .panicked [{ v := refusalV σ.code σ.pos, recovered := false }] ∧ RX b xb W0 Y)
def LsI {α : Type} (ts : List Tok) (I : α → RS → World → Prop) (one : α → RS → α → RS → Prop) (a2 : α) (σ2 : RS) (n : Nat) (W : World) : Prop :=
  ∃ a σ, σ.code = 0 ∧ I a σ W ∧ LR one ts n a σ a2 σ2
set_option maxHeartbeats 8000000 in
theorem list_any {α : Type} (b g cap : Nat) (dv : Value) (ts : List Tok) (xb : Nat → Prop) (W0 : World) (I : α → RS → World → Prop) (one : α → RS → α → RS → Prop)
    (hI : ∀ a σ W, I a σ W → ∃ xs : Nat → Prop, (∀ k, xb k → xs k) ∧ Cd W b g cap dv ts xs σ ∧ RX b xb W0 W ∧ ∀ σ' Y, Cd Y b g cap dv ts xs σ' → RX b xs W Y → I a σ' Y) (hst : ∀ a σ a' σ', one a σ a' σ' → Stays σ σ')
    (K : Nat) (q1 q2 : Value) (hK : ∀ args w, (callFunc K args).run Tryz.prog w = .ok (.enter K args) w)
    (C : ∀ a σ a' σ', σ.code = 0 → one a σ a' σ' → ∀ W, Hid (I a σ W) → Calls Tryz.prog K #[q1, q2] W fun r Y => LsRet b xb W0 I a' σ' r Y)
    (s : List UInt8) (hs : s ∈ sgL) (a0 a1 a2 : α) (σ σ1 σ2 : RS) (n : Nat) (hc : σ.code = 0) (h1 : one a0 σ a1 σ1) (h2 : LR one ts n a1 σ1 a2 σ2) (W : World) (h : Hid (I a0 σ W)) :
    Calls Tryz.prog 86 #[.pointer (some ⟨b, 0, none⟩), .string (str s), .func (.func K) #[] #[q1, q2]] W fun r Y => LsRet b xb W0 I a2 (wantS ts s σ2) r Y := by
  have C0 := Lib.hid (C a0 σ a1 σ1 hc h1 W h)
  have HC := Lib.hid C
  have HLR := Lib.hid h2
  have HI := Lib.hid hI
  have HST := Lib.hid hst
  have HSG := Lib.hid hs
  have H10 := Lib.hid (h2.stays hst)
  clear C h1 h2 hI hst hs hc
  by_cases hz : σ1.code = 0
  · have C1 : Hid (Calls Tryz.prog K #[q1, q2] W fun r Y => r = .returned (.tuple #[]) ∧ Hid (I a1 σ1 Y)) := Lib.hid (C0.out.mono fun r Y hh => by
      rcases hh with ⟨_, e, h4⟩ | ⟨h3, _⟩
      · exact ⟨e, Lib.hid h4⟩
      · exact absurd hz h3)
    have HZ := Lib.hid hz
    obtain ⟨m, hm⟩ := least_of (LsI ts I one a2 σ2)
    have HM := Lib.hid hm
    clear C0 hz hm
    go_enter Tryz.func86, Tryz.ntmps86
    go_wp2_with ((with_reducible refine C1.out.mono ?_); rintro e w1 ⟨rfl, hj1⟩)
    go_loopw [9] (fun _ wr => Hid (∃ n, LsI ts I one a2 σ2 n wr)) (fun _ wr => m wr)
    case atStart => exact Lib.hid ⟨n, a1, σ1, HZ.out, hj1.out, HLR.out⟩
    case round =>
      obtain ⟨hm1, hm2⟩ := HM.out _ hrel.out
      obtain ⟨a, τ, hcode, hja, hlr⟩ := hm1
      obtain ⟨nn, hmn⟩ : ∃ nn, nn = m wr := ⟨_, rfl⟩
      rw [← hmn] at hlr
      obtain ⟨xs, hxs, hcd, hrx, hsta⟩ := HI.out a τ wr hja
      have HMN := Lib.hid hmn
      have HCD := Lib.hid hcd
      have HCO := Lib.hid hcode
      have HXS := Lib.hid hxs
      have HRX := Lib.hid hrx
      have HSTA := Lib.hid hsta
      clear hcd hcode hja hmn hm2 hrel hxs hrx hsta
      have TK := Lib.hid (takes_any b g cap dv ts xs τ [44] wr HCD HCO.out (by decide))
      cases hlr with
      | stop hi =>
        have TK2 : Hid (Calls Tryz.prog 62 #[.pointer (some ⟨b, 0, none⟩), .string ⟨#[44]⟩] wr fun r Y => r = .returned (.bool false) ∧ Hid (Cd Y b g cap dv ts xs σ2) ∧ Hid (RX b xs wr Y)) := Lib.hid (TK.out.mono fun r Y hh => by unfold TakesRet tookS at hh; rw [hi] at hh; exact hh)
        clear TK hi
        by_cases hw : (wantS ts s σ2).code = 0
        · have WA : Hid (∀ w, Hid (Cd w b g cap dv ts xs σ2) → Calls Tryz.prog 67 #[.pointer (some ⟨b, 0, none⟩), .slice (some ⟨w.heap.size, 0, none⟩) 1 1] (w.alloc (.cells #[.string (str s)] 9)) fun r Y => CdOk b g cap dv ts xs w (.tuple #[]) (wantS ts s σ2) r Y) := Lib.hid fun w h => (wants_one b g cap dv ts xs σ2 s w h HCO.out HSG.out).mono fun r Y hh => hh.ok hw
          have HW := Lib.hid hw
          clear hw
          go_wp2_with (first
            | (go_at_call 62; (with_reducible refine TK2.out.mono ?_); rintro e w2 ⟨rfl, hr2, hk2⟩)
            | (go_at_call 67; (with_reducible refine (WA.out _ hr2).mono ?_); rintro e w3 ⟨rfl, hr3, hk3⟩))
          go_end0
          exact .inl ⟨HW.out, rfl, HSTA.out _ _ hr3.out (hk2.out.trans hk3.out)⟩
        · have WA : Hid (∀ w, Hid (Cd w b g cap dv ts xs σ2) → Calls Tryz.prog 67 #[.pointer (some ⟨b, 0, none⟩), .slice (some ⟨w.heap.size, 0, none⟩) 1 1] (w.alloc (.cells #[.string (str s)] 9)) fun r Y => CdBad b xs w (wantS ts s σ2).code (wantS ts s σ2).pos r Y) := Lib.hid fun w h => (wants_one b g cap dv ts xs σ2 s w h HCO.out HSG.out).mono fun r Y hh => hh.bad hw
          have HW := Lib.hid hw
          clear hw
          go_wp2_with (first
            | (go_at_call 62; (with_reducible refine TK2.out.mono ?_); rintro e w2 ⟨rfl, hr2, hk2⟩)
            | (go_at_call 67; (with_reducible refine (WA.out _ hr2).mono ?_); rintro e w3 ⟨rfl, hk3⟩))
          exact ⟨rfl, .inr ⟨HW.out, rfl, HRX.out.trans ((hk2.out.trans hk3.out).less HXS.out)⟩⟩
      | more hi h3 h4 =>
        rename_i nk a' σ'
        have TK2 : Hid (Calls Tryz.prog 62 #[.pointer (some ⟨b, 0, none⟩), .string ⟨#[44]⟩] wr fun r Y => r = .returned (.bool true) ∧ Hid (I a (stepS τ) Y)) := Lib.hid (TK.out.mono fun r Y hh => by unfold TakesRet tookS at hh; rw [hi] at hh; exact ⟨hh.1, Lib.hid (HSTA.out _ _ hh.2.1.out hh.2.2.out)⟩)
        have H3 := Lib.hid h3
        have H4 := Lib.hid h4
        clear TK hi h3 h4
        by_cases hz2 : σ'.code = 0
        · have C2 : Hid (∀ w, Hid (I a (stepS τ) w) → Calls Tryz.prog K #[q1, q2] w fun r Y => r = .returned (.tuple #[]) ∧ Hid (I a' σ' Y)) := Lib.hid fun w hcw => (HC.out a (stepS τ) a' σ' HCO.out H3.out w hcw).mono fun r Y hh => by
            rcases hh with ⟨_, e, h4⟩ | ⟨h3, _⟩
            · exact ⟨e, Lib.hid h4⟩
            · exact absurd hz2 h3
          have HZ2 := Lib.hid hz2
          clear hz2
          go_wp2_with (first
            | (go_at_call 62; (with_reducible refine TK2.out.mono ?_); rintro e w2 ⟨rfl, hr2⟩)
            | ((with_reducible refine (C2.out _ hr2).mono ?_); rintro e w3 ⟨rfl, hj3⟩))
          have HI3 : LsI ts I one a2 σ2 nk w3 := ⟨a', σ', HZ2.out, hj3.out, H4.out⟩
          exact ⟨Lib.hid ⟨nk, HI3⟩, by have h5 := (HM.out _ ⟨nk, HI3⟩).2 nk HI3; have h6 := HMN.out; omega⟩
        · have C2 : Hid (∀ w, Hid (I a (stepS τ) w) → Calls Tryz.prog K #[q1, q2] w fun r Y => r = .panicked [{ v := refusalV σ'.code σ'.pos, recovered := false }] ∧ RX b xb W0 Y) := Lib.hid fun w hcw => (HC.out a (stepS τ) a' σ' HCO.out H3.out w hcw).mono fun r Y hh => by
            rcases hh with ⟨h3, _⟩ | ⟨_, h3⟩
            · exact absurd h3 hz2
            · exact h3
          have HZ2 := Lib.hid hz2
          have HS2 : Hid (Stays σ' (wantS ts s σ2)) := Lib.hid ((H4.out.stays HST.out).trans (stays_want _ _ _))
          clear hz2
          go_wp2_with (first
            | (go_at_call 62; (with_reducible refine TK2.out.mono ?_); rintro e w2 ⟨rfl, hr2⟩)
            | ((with_reducible refine (C2.out _ hr2).mono ?_); rintro e w3 ⟨rfl, hr3⟩))
          obtain ⟨s1, s2⟩ := HS2.out HZ2.out
          exact ⟨rfl, .inr ⟨by rw [s1]; exact HZ2.out, by rw [s1, s2], hr3⟩⟩
  · have C1 : Hid (Calls Tryz.prog K #[q1, q2] W fun r Y => r = .panicked [{ v := refusalV σ1.code σ1.pos, recovered := false }] ∧ RX b xb W0 Y) := Lib.hid (C0.out.mono fun r Y hh => by
      rcases hh with ⟨h3, _⟩ | ⟨_, h3⟩
      · exact absurd h3 hz
      · exact h3)
    have HZ := Lib.hid hz
    clear C0 hz
    go_enter Tryz.func86, Tryz.ntmps86
    go_wp2_with ((with_reducible refine C1.out.mono ?_); rintro e w1 ⟨rfl, hr1⟩)
    obtain ⟨s1, s2⟩ := (H10.out.trans (stays_want ts s σ2)) HZ.out
    exact ⟨rfl, .inr ⟨by rw [s1]; exact HZ.out, by rw [s1, s2], hr1⟩⟩
end Go.Proofs.YtlbhlncipajapaaGreatDoor
