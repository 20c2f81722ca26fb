/- Joined: CdArgs2, CdNamed, CdNamed2. -/
import Derived.Test.YtlbhlncipajapaaGreatDoorPe33
namespace Go.Proofs.YtlbhlncipajapaaGreatDoor
open Go.RowKit Lx
set_option linter.unusedVariables false

theorem args_LR {ts : List Tok} {f : Nat} : ∀ (n : Nat) (acc : List Int) (σ : RS) (R : Int × List Int × RS), n ≤ f + 1 → runE ts n (.args acc) σ = some R → ∃ m, LR (arOne ts f) ts m acc σ R.2.1 R.2.2 := by
  intro n
  induction n with
  | zero => intro acc σ R _ h; cases h
  | succ n ih =>
    intro acc σ R hn h
    simp only [runE] at h
    split at h
    · unfold argsG at h
      split at h
      · rename_i hl
        split at h
        · rename_i hi
          obtain ⟨a, h1, h2⟩ := bind_some' h
          obtain ⟨m, hm⟩ := ih (acc ++ [a.1]) a.2.2 R (by omega) h2
          exact ⟨m + 1, .more hi ⟨a.1, a.2.1, runE_le (by omega) _ _ _ h1, rfl, by omega⟩ hm⟩
        · rename_i hi
          obtain rfl := Option.some.inj h
          exact ⟨0, .stop (by simpa using hi)⟩
      · cases h
    · cases h
theorem arOne_stays {ts : List Tok} {f : Nat} : ∀ a σ a' σ', arOne ts f a σ a' σ' → Stays σ σ' := fun a σ a' σ' ⟨e, l, h, _⟩ => stuck ts f .expr σ _ h
/-- the arguments come back, in a row of their own -/
def ArgsRet (b g cap : Nat) (dv : Value) (ts : List Tok) (xb : Nat → Prop) (W : World) (acc : List Int) (τ : RS) (r : Ending) (Y : World) : Prop :=
  (τ.code = 0 ∧ ∃ o c, r = .returned (.slice o acc.length c) ∧ Hid (∃ xs : Nat → Prop, (∀ k, xb k → xs k) ∧ Cd Y b g cap dv ts xs τ) ∧ Hid (RX b xb W Y) ∧ Hid (Y.ownsRow W.heap.size 3 1 (.slice o acc.length c) acc.length (acc.map intC))) ∨ (τ.code ≠ 0 ∧ r = .panicked [{ v := refusalV τ.code τ.pos, recovered := false }] ∧ Hid (RX b xb W Y))
theorem enters_args1 : ∀ args w, (callFunc 133 args).run Tryz.prog w = .ok (.enter 133 args) w := enters_of Tryz.func133 (by kernel_rfl) rfl
set_option maxHeartbeats 8000000 in
theorem args_none (b g cap : Nat) (dv : Value) (ts : List Tok) (xb : Nat → Prop) (y : RS) (hc : y.code = 0) (hi : isS ts [41] y = true) (W : World) (h : Hid (Cd W b g cap dv ts xb y)) :
    Calls Tryz.prog 131 #[.pointer (some ⟨b, 0, none⟩)] W fun r Y => ArgsRet b g cap dv ts xb W [] (stepS y) r Y := by
  obtain ⟨W1, hW1⟩ : ∃ W1, W1 = W.alloc (.cells #[.pointer (some ⟨b, 0, none⟩)] 48) := ⟨_, rfl⟩
  have hb1 : Below W.heap.size W W1 := by rw [hW1]; exact (Below.refl _ _).alloc (Nat.le_refl _) _
  have H1 : Hid (Cd W1 b g cap dv ts xb y) := Lib.hid (h.out.below hb1)
  have T := Lib.hid (takes_any b g cap dv ts xb y [41] W1 H1 hc (by decide))
  have T2 : Hid (Calls Tryz.prog 62 #[.pointer (some ⟨b, 0, none⟩), .string ⟨#[41]⟩] W1 fun r Y => r = .returned (.bool true) ∧ Hid (Cd Y b g cap dv ts xb (stepS y)) ∧ Hid (RX b xb W1 Y)) := Lib.hid (T.out.mono fun r Y hh => by unfold TakesRet tookS at hh; rw [hi] at hh; exact hh)
  have HB := Lib.hid (RX.of_below (xb := xb) hb1 (Nat.le_of_lt h.out.size) h.out.xlt)
  have HC := Lib.hid hc
  clear T hb1 hi hc
  go_enter Tryz.func131, Tryz.ntmps131
  go_wp2_with (go_at_call 62; rw [← hW1]; clear hW1; (with_reducible refine T2.out.mono ?_); rintro e w1 ⟨rfl, hr, hk⟩)
  go_ret
  exact .inl ⟨HC.out, none, 0, rfl, Lib.hid ⟨xb, fun _ h => h, hr.out⟩, Lib.hid (HB.out.trans hk.out), Lib.hid (World.ownsRow_nil _ _ _ _)⟩
set_option maxHeartbeats 16000000 in
theorem args_some (b g cap : Nat) (dv : Value) (ts : List Tok) (xb : Nat → Prop) (f : Nat) (IE : ∀ xb, RuleC b g cap dv ts xb 26 f .expr) (y s1 s2 : RS) (hc : y.code = 0) (hi : isS ts [41] y = false) (e0 v : Int) (l0 acc : List Int) (r1 : runE ts f .expr y = some (e0, l0, s1)) (r2 : runE ts f (.args [e0]) s1 = some (v, acc, s2)) (W : World) (h : Hid (Cd W b g cap dv ts xb y)) :
    Calls Tryz.prog 131 #[.pointer (some ⟨b, 0, none⟩)] W fun r Y => ArgsRet b g cap dv ts xb W acc (wantS ts [41] s2) r Y := by
  obtain ⟨W1, hW1⟩ : ∃ W1, W1 = W.alloc (.cells #[.pointer (some ⟨b, 0, none⟩)] 48) := ⟨_, rfl⟩
  have hb1 : Below W.heap.size W W1 := by rw [hW1]; exact (Below.refl _ _).alloc (Nat.le_refl _) _
  have H1 : Hid (Cd W1 b g cap dv ts xb y) := Lib.hid (h.out.below hb1)
  have T := Lib.hid (takes_any b g cap dv ts xb y [41] W1 H1 hc (by decide))
  have T2 : Hid (Calls Tryz.prog 62 #[.pointer (some ⟨b, 0, none⟩), .string ⟨#[41]⟩] W1 fun r Y => r = .returned (.bool false) ∧ Hid (Cd Y b g cap dv ts xb y) ∧ Hid (RX b xb W1 Y)) := Lib.hid (T.out.mono fun r Y hh => by unfold TakesRet tookS at hh; rw [hi] at hh; exact hh)
  have HB := Lib.hid (RX.of_below (xb := xb) hb1 (Nat.le_of_lt h.out.size) h.out.xlt)
  have hbs := h.out.size
  have HX0 := Lib.hid h.out.xlt
  have HBX : Hid (BoxR W1 W.heap.size b) := Lib.hid (by rw [hW1]; exact boxR_new W b)
  have b1 := HBX.out.cell
  obtain ⟨m, hm⟩ := args_LR f [e0] s1 (v, acc, s2) (Nat.le_succ _) r2
  have HL : Hid (∀ lb, W.heap.size ≤ lb → W.heap.size ≠ lb → ∀ w, Hid (ArI b g cap dv ts xb W lb W.heap.size [] y w) → Calls Tryz.prog 86 #[.pointer (some ⟨b, 0, none⟩), .string ⟨#[41]⟩, .func (.func 133) #[] #[.pointer (some ⟨lb, 0, none⟩), .pointer (some ⟨W.heap.size, 0, none⟩)]] w fun r Y => LsRet b xb W (ArI b g cap dv ts xb W lb W.heap.size) acc (wantS ts [41] s2) r Y) := Lib.hid fun lb hl hne w hw =>
    list_any b g cap dv ts xb W _ (arOne ts f) (arI_in hbs (by omega) (by omega)) arOne_stays _ _ _ enters_args1 (fun a σ a' σ' hc h1 W' h' => args1_any b g cap dv ts xb f IE W lb W.heap.size hbs HX0.out hl (by omega) hne (by omega) a a' σ σ' hc h1 W' h') [41] (by decide) [] [e0] acc y s1 s2 m hc ⟨e0, l0, r1, rfl, by simp⟩ hm w hw
  have MF := runF
  clear T hb1 hi r1 r2 hm
  by_cases hz : (wantS ts [41] s2).code = 0
  · have HZ := Lib.hid hz
    clear hz hc
    go_enter Tryz.func131, Tryz.ntmps131
    go_wp2_with (first
      | (go_at_call 62; rw [← hW1]; clear hW1; (with_reducible refine T2.out.mono ?_); rintro e w1 ⟨rfl, hr, hk⟩; have HK := Lib.hid (HB.out.trans hk.out); have HBw := Lib.hid (HBX.out.keep (by omega) hk.out); have bw := HBw.out.cell; have hw1 := HK.out.size; have hw1b := heap_lt HBw.out))
    have hb2 : Below w1.heap.size w1 (w1.alloc (.cells #[.slice none 0 0] 44)) := (Below.refl _ _).alloc (Nat.le_refl _) _
    have HI : Hid (ArI b g cap dv ts xb W w1.heap.size W.heap.size [] y (w1.alloc (.cells #[.slice none 0 0] 44))) := Lib.hid ⟨xb, none, 0, fun _ h => h, hr.out.below hb2, HK.out.trans (RX.of_below hb2 (Nat.le_of_lt hr.out.size) hr.out.xlt), (hb2.block _ hw1b).trans HBw.out, heap_alloc_new w1 _, World.ownsRow_nil _ _ _ _, fun k e => by cases e⟩
    refine (HL.out w1.heap.size hw1 (by omega) _ HI).mono ?_
    intro r Y hY
    rcases hY with ⟨_, rfl, xs, o, c, hS⟩ | ⟨hn, _⟩
    · obtain ⟨y0, y1⟩ := cell_one1 hS.lbx
      have HS := Lib.hid hS
      obtain ⟨n, hn⟩ : ∃ n, n = acc.length := ⟨_, rfl⟩
      rw [← hn] at y0
      have HN := Lib.hid hn
      clear hS hn hb2 HI
      dsimp only
      go_wp2_with fail
      go_ret
      exact .inl ⟨HZ.out, o, c, by rw [HN.out]; rfl, Lib.hid ⟨xs, HS.out.xle, HS.out.cd⟩, Lib.hid HS.out.rx, Lib.hid HS.out.own⟩
    · exact absurd HZ.out hn
  · have HZ := Lib.hid hz
    clear hz hc
    go_enter Tryz.func131, Tryz.ntmps131
    go_wp2_with (first
      | (go_at_call 62; rw [← hW1]; clear hW1; (with_reducible refine T2.out.mono ?_); rintro e w1 ⟨rfl, hr, hk⟩; have HK := Lib.hid (HB.out.trans hk.out); have HBw := Lib.hid (HBX.out.keep (by omega) hk.out); have bw := HBw.out.cell; have hw1 := HK.out.size; have hw1b := heap_lt HBw.out))
    have hb2 : Below w1.heap.size w1 (w1.alloc (.cells #[.slice none 0 0] 44)) := (Below.refl _ _).alloc (Nat.le_refl _) _
    have HI : Hid (ArI b g cap dv ts xb W w1.heap.size W.heap.size [] y (w1.alloc (.cells #[.slice none 0 0] 44))) := Lib.hid ⟨xb, none, 0, fun _ h => h, hr.out.below hb2, HK.out.trans (RX.of_below hb2 (Nat.le_of_lt hr.out.size) hr.out.xlt), (hb2.block _ hw1b).trans HBw.out, heap_alloc_new w1 _, World.ownsRow_nil _ _ _ _, fun k e => by cases e⟩
    refine (HL.out w1.heap.size hw1 (by omega) _ HI).mono ?_
    intro r Y hY
    rcases hY with ⟨hn, _⟩ | ⟨_, rfl, hY⟩
    · exact absurd hn HZ.out
    · exact ⟨rfl, .inr ⟨HZ.out, rfl, Lib.hid hY⟩⟩
end Go.Proofs.YtlbhlncipajapaaGreatDoor
namespace Go.Proofs.YtlbhlncipajapaaGreatDoor
open Go.RowKit Lx
set_option linter.unusedVariables false

theorem paren_is {ts : List Tok} {σ : RS} (h : isS ts [40] σ = true) : isS ts [105, 115] σ = false := by
  cases h2 : isS ts [105, 115] σ with
  | false => rfl
  | true => have := (isS_tx h).symm.trans (isS_tx h2); exact absurd this (by decide)
set_option maxHeartbeats 8000000 in
theorem named_plain (b g cap : Nat) (dv : Value) (ts : List Tok) (xb : Nat → Prop) (σ : RS) (hc : σ.code = 0) (hk : (tokL ts σ.at_).kind = 1) (ok : okS (stepS σ) = true) (h40 : isS ts [40] (stepS σ) = false) (his : isS ts [105, 115] (stepS σ) = false) (W : World) (h : Hid (Cd W b g cap dv ts xb σ)) :
    Calls Tryz.prog 129 #[.pointer (some ⟨b, 0, none⟩)] W fun r Y => CdRet b g cap dv ts xb W (.int .i64 (σ.exprs.length : Int)) (putS { ex0 with kind := 3, name := str (tokL ts σ.at_).text, pos := ((tokL ts σ.at_).at_ : Int) } (stepS σ)) r Y := by
  obtain ⟨o, c, ⟨c0, c1, c2, c3, fr⟩, hx⟩ := h.out.cells
  obtain ⟨t0, t1, t2, t3⟩ := h.out.tok
  have hl := h.out.at_
  have hbs := h.out.size
  have hgs : g < W.heap.size := by have := h.out.lt; omega
  obtain ⟨P, hP⟩ : ∃ P, P = (tokL ts σ.at_).at_ := ⟨_, rfl⟩
  obtain ⟨m, hmm⟩ : ∃ m, m = ts.length - σ.at_ := ⟨_, rfl⟩
  obtain ⟨a4, haa⟩ : ∃ a4, a4 = σ.at_ * 4 := ⟨_, rfl⟩
  rw [← hmm, ← haa] at c0
  rw [← hP, ← haa] at t3
  rw [← hP]
  have k0 : (0 : Int) < (m : Int) := by omega
  obtain ⟨xb', hxb'⟩ : ∃ xb', xb' = xbA xb W.heap.size := ⟨_, rfl⟩
  obtain ⟨W1, hW1⟩ : ∃ W1, W1 = W.alloc (.cells #[.int .i64 3, .int .i64 0, .int .i64 0, .int .i64 0, .string ⟨#[]⟩, .string ⟨#[]⟩, .int .i64 0, .slice none 0 0, .int .i64 (P : Int)] 46) := ⟨_, rfl⟩
  have H1 : Hid (Cd W1 b g cap dv ts xb' σ) := Lib.hid (by rw [hW1, hxb']; exact h.out.newX _)
  have HA : Hid (W1.heap[W.heap.size]? = some (.cells #[.int .i64 3, .int .i64 0, .int .i64 0, .int .i64 0, .string ⟨#[]⟩, .string ⟨#[]⟩, .int .i64 0, .slice none 0 0, .int .i64 (P : Int)] 46 (0, 0))) := Lib.hid (by rw [hW1]; exact heap_alloc_new W _)
  have HB1 : Hid (RX b xb W W1) := Lib.hid (RX.of_below (by rw [hW1]; exact (Below.refl _ _).alloc (Nat.le_refl _) _) (Nat.le_of_lt hbs) h.out.xlt)
  have HXA : Hid (xb' W.heap.size ∧ ∀ k, xb k → xb' k) := Lib.hid (by rw [hxb']; exact ⟨.inr rfl, xbA_le xb _⟩)
  have hnb : nameB ts σ = true := by unfold nameB; rw [decide_eq_true hc, decide_eq_true hk]; rfl
  have en : nameS ts σ = stepS σ := by unfold nameS; rw [if_pos hnb]
  have ev : nameV ts σ = (tokL ts σ.at_).text := by unfold nameV; rw [if_pos hnb]
  obtain ⟨X, hX⟩ : ∃ X, X = str (tokL ts σ.at_).text := ⟨_, rfl⟩
  rw [← hX]
  have NM : Hid (Calls Tryz.prog 63 #[.pointer (some ⟨b, 0, none⟩)] W1 fun r Y => CdOk b g cap dv ts xb' W1 (.string X) (stepS σ) r Y) := Lib.hid ((cname_any b g cap dv ts xb' σ W1 H1 hc).mono fun r Y hh => by rw [en, ev, ← hX] at hh; exact hh.ok hc)
  have TK : Hid (∀ w, Hid (Cd w b g cap dv ts xb' (stepS σ)) → Calls Tryz.prog 62 #[.pointer (some ⟨b, 0, none⟩), .string ⟨#[40]⟩] w fun r Y => r = .returned (.bool false) ∧ Hid (Cd Y b g cap dv ts xb' (stepS σ)) ∧ Hid (RX b xb' w Y)) := Lib.hid fun w hw => (takes_any b g cap dv ts xb' (stepS σ) [40] w hw hc (by decide)).mono fun r Y hh => by unfold TakesRet tookS at hh; rw [h40] at hh; exact hh
  have TI : Hid (∀ w, Hid (Cd w b g cap dv ts xb' (stepS σ)) → Calls Tryz.prog 62 #[.pointer (some ⟨b, 0, none⟩), .string ⟨#[105, 115]⟩] w fun r Y => r = .returned (.bool false) ∧ Hid (Cd Y b g cap dv ts xb' (stepS σ)) ∧ Hid (RX b xb' w Y)) := Lib.hid fun w hw => (takes_any b g cap dv ts xb' (stepS σ) [105, 115] w hw hc (by decide)).mono fun r Y hh => by unfold TakesRet tookS at hh; rw [his] at hh; exact hh
  have PU : Hid (∀ W, Hid (Cd W b g cap dv ts xb (stepS σ)) → Calls Tryz.prog 75 #[.pointer (some ⟨b, 0, none⟩), .agg #[.int .i64 3, .int .i64 0, .int .i64 0, .int .i64 0, .string X, .string ⟨#[]⟩, .int .i64 0, .slice none 0 0, .int .i64 (P : Int)]] W fun r Y => CdOk b g cap dv ts xb W (.int .i64 (σ.exprs.length : Int)) (putS { ex0 with kind := 3, name := X, pos := (P : Int) } (stepS σ)) r Y) := Lib.hid fun W h =>
    (cput_any b g cap dv ts xb (stepS σ) { ex0 with kind := 3, name := X, pos := (P : Int) } none 0 0 W h hc (okS_iff.1 ok).1 (Lib.hid (World.ownsRow_nil _ _ _ _)) (Lib.hid fun k hk => by cases hk)).mono fun r Y hh => hh.ok hc
  have HC := Lib.hid hc
  clear hmm haa t0 t1 t2 hl hx c1 c2 c3 fr hxb' hP hX hk hnb en ev h40 his ok hc
  go_enter Tryz.func129, Tryz.ntmps129
  go_wp2_with (first
    | (go_at_call 63; rw [← hW1]; clear hW1; (with_reducible refine NM.out.mono ?_); rintro e w2 ⟨rfl, hr2, hk2⟩; have HA2 := Lib.hid ((hk2.out.xs _ HXA.out.1).trans HA.out); obtain ⟨⟨y0, y1, y2, y3, y4, y5, y6, y7, y8⟩, yf⟩ := nine_of HA2.out; have f4 := yf 4; clear yf; have HR3 := Lib.hid (hr2.out.butX HXA.out.1 hbs ((But.refl _ _).set 4 (.string X))); have HA3 := Lib.hid (set_blk HA2.out 4 (.string X)))
    | (go_at_call 62; (with_reducible refine (TK.out _ HR3).mono ?_); rintro e w4 ⟨rfl, hr4, hk4⟩; have HA4 := Lib.hid ((hk4.out.xs _ HXA.out.1).trans HA3.out))
    | (go_at_call 62; (with_reducible refine (TI.out _ hr4).mono ?_); rintro e w5 ⟨rfl, hr5, hk5⟩; have HA5 := Lib.hid ((hk5.out.xs _ HXA.out.1).trans HA4.out); obtain ⟨⟨z0, z1, z2, z3, z4, z5, z6, z7, z8⟩, zf⟩ := nine_of (show w5.heap[W.heap.size]? = some (.cells #[.int .i64 3, .int .i64 0, .int .i64 0, .int .i64 0, .string X, .string ⟨#[]⟩, .int .i64 0, .slice none 0 0, .int .i64 (P : Int)] 46 (0, 0)) by simpa using HA5.out); clear zf)
    | (go_at_call 75; (with_reducible refine (PU.out _ (Lib.hid (hr5.out.less HXA.out.2))).mono ?_); rintro e w6 ⟨rfl, hr6, hk6⟩))
  go_ret
  have K3 : RX b xb W (w2.setCell ⟨W.heap.size, 4, none⟩ (.string X)) := (HB1.out.trans (hk2.out.less HXA.out.2)).but h.out.xlt (Nat.le_refl _) hbs hbs ((But.refl _ _).set 4 _)
  exact ⟨K3.trans (((hk4.out.trans hk5.out).less HXA.out.2).trans hk6.out), .inl ⟨HC.out, rfl, hr6.out⟩⟩
end Go.Proofs.YtlbhlncipajapaaGreatDoor
namespace Go.Proofs.YtlbhlncipajapaaGreatDoor
open Go.RowKit Lx
set_option linter.unusedVariables false

set_option maxHeartbeats 8000000 in
theorem named_is (b g cap : Nat) (dv : Value) (ts : List Tok) (xb : Nat → Prop) (σ : RS) (hc : σ.code = 0) (hk : (tokL ts σ.at_).kind = 1) (ok : okS (nameS ts (stepS (stepS σ))) = true) (h40 : isS ts [40] (stepS σ) = false) (his : isS ts [105, 115] (stepS σ) = true) (W : World) (h : Hid (Cd W b g cap dv ts xb σ)) :
    Calls Tryz.prog 129 #[.pointer (some ⟨b, 0, none⟩)] W fun r Y => CdRet b g cap dv ts xb W (.int .i64 ((nameS ts (stepS (stepS σ))).exprs.length : Int)) (putS { ex0 with kind := 20, name := str (tokL ts σ.at_).text, state := str (nameV ts (stepS (stepS σ))), pos := ((tokL ts σ.at_).at_ : Int) } (nameS ts (stepS (stepS σ)))) r Y := by
  obtain ⟨o, c, ⟨c0, c1, c2, c3, fr⟩, hx⟩ := h.out.cells
  obtain ⟨t0, t1, t2, t3⟩ := h.out.tok
  have hl := h.out.at_
  have hbs := h.out.size
  have hgs : g < W.heap.size := by have := h.out.lt; omega
  obtain ⟨P, hP⟩ : ∃ P, P = (tokL ts σ.at_).at_ := ⟨_, rfl⟩
  obtain ⟨m, hmm⟩ : ∃ m, m = ts.length - σ.at_ := ⟨_, rfl⟩
  obtain ⟨a4, haa⟩ : ∃ a4, a4 = σ.at_ * 4 := ⟨_, rfl⟩
  rw [← hmm, ← haa] at c0
  rw [← hP, ← haa] at t3
  rw [← hP]
  have k0 : (0 : Int) < (m : Int) := by omega
  obtain ⟨xb', hxb'⟩ : ∃ xb', xb' = xbA xb W.heap.size := ⟨_, rfl⟩
  obtain ⟨W1, hW1⟩ : ∃ W1, W1 = W.alloc (.cells #[.int .i64 3, .int .i64 0, .int .i64 0, .int .i64 0, .string ⟨#[]⟩, .string ⟨#[]⟩, .int .i64 0, .slice none 0 0, .int .i64 (P : Int)] 46) := ⟨_, rfl⟩
  have H1 : Hid (Cd W1 b g cap dv ts xb' σ) := Lib.hid (by rw [hW1, hxb']; exact h.out.newX _)
  have HA : Hid (W1.heap[W.heap.size]? = some (.cells #[.int .i64 3, .int .i64 0, .int .i64 0, .int .i64 0, .string ⟨#[]⟩, .string ⟨#[]⟩, .int .i64 0, .slice none 0 0, .int .i64 (P : Int)] 46 (0, 0))) := Lib.hid (by rw [hW1]; exact heap_alloc_new W _)
  have HB1 : Hid (RX b xb W W1) := Lib.hid (RX.of_below (by rw [hW1]; exact (Below.refl _ _).alloc (Nat.le_refl _) _) (Nat.le_of_lt hbs) h.out.xlt)
  have HXA : Hid (xb' W.heap.size ∧ ∀ k, xb k → xb' k) := Lib.hid (by rw [hxb']; exact ⟨.inr rfl, xbA_le xb _⟩)
  have hnb : nameB ts σ = true := by unfold nameB; rw [decide_eq_true hc, decide_eq_true hk]; rfl
  have en : nameS ts σ = stepS σ := by unfold nameS; rw [if_pos hnb]
  have ev : nameV ts σ = (tokL ts σ.at_).text := by unfold nameV; rw [if_pos hnb]
  obtain ⟨X, hX⟩ : ∃ X, X = str (tokL ts σ.at_).text := ⟨_, rfl⟩
  rw [← hX]
  have NM : Hid (Calls Tryz.prog 63 #[.pointer (some ⟨b, 0, none⟩)] W1 fun r Y => CdOk b g cap dv ts xb' W1 (.string X) (stepS σ) r Y) := Lib.hid ((cname_any b g cap dv ts xb' σ W1 H1 hc).mono fun r Y hh => by rw [en, ev, ← hX] at hh; exact hh.ok hc)
  have TK : Hid (∀ w, Hid (Cd w b g cap dv ts xb' (stepS σ)) → Calls Tryz.prog 62 #[.pointer (some ⟨b, 0, none⟩), .string ⟨#[40]⟩] w fun r Y => r = .returned (.bool false) ∧ Hid (Cd Y b g cap dv ts xb' (stepS σ)) ∧ Hid (RX b xb' w Y)) := Lib.hid fun w hw => (takes_any b g cap dv ts xb' (stepS σ) [40] w hw hc (by decide)).mono fun r Y hh => by unfold TakesRet tookS at hh; rw [h40] at hh; exact hh
  have TI : Hid (∀ w, Hid (Cd w b g cap dv ts xb' (stepS σ)) → Calls Tryz.prog 62 #[.pointer (some ⟨b, 0, none⟩), .string ⟨#[105, 115]⟩] w fun r Y => r = .returned (.bool true) ∧ Hid (Cd Y b g cap dv ts xb' (stepS (stepS σ))) ∧ Hid (RX b xb' w Y)) := Lib.hid fun w hw => (takes_any b g cap dv ts xb' (stepS σ) [105, 115] w hw hc (by decide)).mono fun r Y hh => by unfold TakesRet tookS at hh; rw [his] at hh; exact hh
  obtain ⟨y, hy⟩ : ∃ y, y = nameS ts (stepS (stepS σ)) := ⟨_, rfl⟩
  obtain ⟨S, hS⟩ : ∃ S, S = str (nameV ts (stepS (stepS σ))) := ⟨_, rfl⟩
  rw [← hy] at ok ⊢
  rw [← hS]
  have N2 : Hid (∀ w, Hid (Cd w b g cap dv ts xb' (stepS (stepS σ))) → Calls Tryz.prog 63 #[.pointer (some ⟨b, 0, none⟩)] w fun r Y => CdRet b g cap dv ts xb' w (.string S) y r Y) := Lib.hid fun w hw => by
    have := cname_any b g cap dv ts xb' (stepS (stepS σ)) w hw hc
    rw [← hy, ← hS] at this
    exact this
  have HC := Lib.hid hc
  clear hmm haa t0 t1 t2 hl hx c1 c2 c3 fr hxb' hP hX hk hnb en ev h40 his hc hy hS
  by_cases hz : y.code = 0
  · have M2 : Hid (∀ w, Hid (Cd w b g cap dv ts xb' (stepS (stepS σ))) → Calls Tryz.prog 63 #[.pointer (some ⟨b, 0, none⟩)] w fun r Y => CdOk b g cap dv ts xb' w (.string S) y r Y) := Lib.hid fun w hw => (N2.out w hw).mono fun r Y hh => hh.ok hz
    have PU : Hid (∀ W, Hid (Cd W b g cap dv ts xb y) → Calls Tryz.prog 75 #[.pointer (some ⟨b, 0, none⟩), .agg #[.int .i64 20, .int .i64 0, .int .i64 0, .int .i64 0, .string X, .string S, .int .i64 0, .slice none 0 0, .int .i64 (P : Int)]] W fun r Y => CdOk b g cap dv ts xb W (.int .i64 (y.exprs.length : Int)) (putS { ex0 with kind := 20, name := X, state := S, pos := (P : Int) } y) r Y) := Lib.hid fun W h =>
      (cput_any b g cap dv ts xb y { ex0 with kind := 20, name := X, state := S, pos := (P : Int) } none 0 0 W h hz (okS_iff.1 ok).1 (Lib.hid (World.ownsRow_nil _ _ _ _)) (Lib.hid fun k hk => by cases hk)).mono fun r Y hh => hh.ok hz
    have HZ := Lib.hid hz
    clear N2 hz
    go_enter Tryz.func129, Tryz.ntmps129
    go_wp2_with (first
      | (go_at_call 63; rw [← hW1]; clear hW1; (with_reducible refine NM.out.mono ?_); rintro e w2 ⟨rfl, hr2, hk2⟩; have HA2 := Lib.hid ((hk2.out.xs _ HXA.out.1).trans HA.out); obtain ⟨⟨y0, y1, y2, y3, y4, y5, y6, y7, y8⟩, yf⟩ := nine_of HA2.out; have f4 := yf 4; clear yf; have HR3 := Lib.hid (hr2.out.butX HXA.out.1 hbs ((But.refl _ _).set 4 (.string X))); have HA3 := Lib.hid (set_blk HA2.out 4 (.string X)))
      | (go_at_call 62; (with_reducible refine (TK.out _ HR3).mono ?_); rintro e w4 ⟨rfl, hr4, hk4⟩; have HA4 := Lib.hid ((hk4.out.xs _ HXA.out.1).trans HA3.out))
      | (go_at_call 62; (with_reducible refine (TI.out _ hr4).mono ?_); rintro e w5 ⟨rfl, hr5, hk5⟩; have HA5 := Lib.hid (show w5.heap[W.heap.size]? = some (.cells #[.int .i64 3, .int .i64 0, .int .i64 0, .int .i64 0, .string X, .string ⟨#[]⟩, .int .i64 0, .slice none 0 0, .int .i64 (P : Int)] 46 (0, 0)) by simpa using (hk5.out.xs _ HXA.out.1).trans HA4.out); obtain ⟨⟨z0, z1, z2, z3, z4, z5, z6, z7, z8⟩, zf⟩ := nine_of HA5.out; have f0 := zf 0; clear zf; have HR5 := Lib.hid (hr5.out.butX HXA.out.1 hbs ((But.refl _ _).set 0 (.int .i64 20))); have HA6 := Lib.hid (set_blk HA5.out 0 (.int .i64 20)))
      | (go_at_call 63; (with_reducible refine (M2.out _ HR5).mono ?_); rintro e w6 ⟨rfl, hr6, hk6⟩; have HA7 := Lib.hid (show w6.heap[W.heap.size]? = some (.cells #[.int .i64 20, .int .i64 0, .int .i64 0, .int .i64 0, .string X, .string ⟨#[]⟩, .int .i64 0, .slice none 0 0, .int .i64 (P : Int)] 46 (0, 0)) by simpa using (hk6.out.xs _ HXA.out.1).trans HA6.out); obtain ⟨⟨v0, v1, v2, v3, v4, v5, v6, v7, v8⟩, vf⟩ := nine_of HA7.out; have g5 := vf 5; clear vf; have HR7 := Lib.hid ((hr6.out.butX HXA.out.1 hbs ((But.refl _ _).set 5 (.string S))).less HXA.out.2))
      | (go_at_call 75; (with_reducible refine (PU.out _ HR7).mono ?_); rintro e w8 ⟨rfl, hr8, hk8⟩))
    go_ret
    have K3 : RX b xb W (w2.setCell ⟨W.heap.size, 4, none⟩ (.string X)) := (HB1.out.trans (hk2.out.less HXA.out.2)).but h.out.xlt (Nat.le_refl _) hbs hbs ((But.refl _ _).set 4 _)
    have K5 := (K3.trans ((hk4.out.trans hk5.out).less HXA.out.2)).but h.out.xlt (Nat.le_refl _) hbs hbs ((But.refl W.heap.size w5).set 0 (.int .i64 20))
    have K7 := (K5.trans (hk6.out.less HXA.out.2)).but h.out.xlt (Nat.le_refl _) hbs hbs ((But.refl W.heap.size w6).set 5 (.string S))
    exact ⟨K7.trans hk8.out, .inl ⟨HZ.out, rfl, hr8.out⟩⟩
  · have M2 : Hid (∀ w, Hid (Cd w b g cap dv ts xb' (stepS (stepS σ))) → Calls Tryz.prog 63 #[.pointer (some ⟨b, 0, none⟩)] w fun r Y => CdBad b xb' w y.code y.pos r Y) := Lib.hid fun w hw => (N2.out w hw).mono fun r Y hh => hh.bad hz
    have HZ := Lib.hid hz
    clear N2 hz
    go_enter Tryz.func129, Tryz.ntmps129
    go_wp2_with (first
      | (go_at_call 63; rw [← hW1]; clear hW1; (with_reducible refine NM.out.mono ?_); rintro e w2 ⟨rfl, hr2, hk2⟩; have HA2 := Lib.hid ((hk2.out.xs _ HXA.out.1).trans HA.out); obtain ⟨⟨y0, y1, y2, y3, y4, y5, y6, y7, y8⟩, yf⟩ := nine_of HA2.out; have f4 := yf 4; clear yf; have HR3 := Lib.hid (hr2.out.butX HXA.out.1 hbs ((But.refl _ _).set 4 (.string X))); have HA3 := Lib.hid (set_blk HA2.out 4 (.string X)))
      | (go_at_call 62; (with_reducible refine (TK.out _ HR3).mono ?_); rintro e w4 ⟨rfl, hr4, hk4⟩; have HA4 := Lib.hid ((hk4.out.xs _ HXA.out.1).trans HA3.out))
      | (go_at_call 62; (with_reducible refine (TI.out _ hr4).mono ?_); rintro e w5 ⟨rfl, hr5, hk5⟩; have HA5 := Lib.hid (show w5.heap[W.heap.size]? = some (.cells #[.int .i64 3, .int .i64 0, .int .i64 0, .int .i64 0, .string X, .string ⟨#[]⟩, .int .i64 0, .slice none 0 0, .int .i64 (P : Int)] 46 (0, 0)) by simpa using (hk5.out.xs _ HXA.out.1).trans HA4.out); obtain ⟨⟨z0, z1, z2, z3, z4, z5, z6, z7, z8⟩, zf⟩ := nine_of HA5.out; have f0 := zf 0; clear zf; have HR5 := Lib.hid (hr5.out.butX HXA.out.1 hbs ((But.refl _ _).set 0 (.int .i64 20))); have HA6 := Lib.hid (set_blk HA5.out 0 (.int .i64 20)))
      | (go_at_call 63; (with_reducible refine (M2.out _ HR5).mono ?_); rintro e w6 ⟨rfl, hk6⟩))
    have K3 : RX b xb W (w2.setCell ⟨W.heap.size, 4, none⟩ (.string X)) := (HB1.out.trans (hk2.out.less HXA.out.2)).but h.out.xlt (Nat.le_refl _) hbs hbs ((But.refl _ _).set 4 _)
    have K5 := (K3.trans ((hk4.out.trans hk5.out).less HXA.out.2)).but h.out.xlt (Nat.le_refl _) hbs hbs ((But.refl W.heap.size w5).set 0 (.int .i64 20))
    exact ⟨rfl, K5.trans (hk6.out.less HXA.out.2), .inr ⟨HZ.out, rfl⟩⟩
end Go.Proofs.YtlbhlncipajapaaGreatDoor
