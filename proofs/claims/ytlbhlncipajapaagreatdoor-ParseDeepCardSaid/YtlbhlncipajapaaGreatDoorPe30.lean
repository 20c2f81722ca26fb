/- Joined: CdPre, CdChoice, CdExpr. -/
import Derived.Test.YtlbhlncipajapaaGreatDoorPe29
import Derived.Test.YtlbhlncipajapaaGreatDoorPe19
namespace Go.Proofs.YtlbhlncipajapaaGreatDoor
open Go.RowKit Lx
set_option linter.unusedVariables false

theorem prefix_zero {ts : List Tok} {σ : RS} (h : prefixK ts σ prefixL = 0) : ∀ p ∈ prefixL, isS ts p.1 σ = false := by
  unfold prefixK at h
  cases hf : prefixL.find? fun p => isS ts p.1 σ with
  | none => intro p hp; simpa using List.find?_eq_none.1 hf p hp
  | some p =>
    rw [hf] at h
    have hm := List.mem_of_find?_eq_some hf
    have : prefixL.all (fun p => decide (p.2 ≠ 0)) = true := by decide +kernel
    exact absurd h (of_decide_eq_true (List.all_eq_true.1 this p hm))
theorem prefix_some {ts : List Tok} {σ : RS} (h : prefixK ts σ prefixL ≠ 0) : ∃ s, (s, prefixK ts σ prefixL) ∈ prefixL ∧ isS ts s σ = true := by
  unfold prefixK at h ⊢
  cases hf : prefixL.find? fun p => isS ts p.1 σ with
  | none => rw [hf] at h; exact absurd rfl h
  | some p => exact ⟨p.1, List.mem_of_find?_eq_some hf, by simpa using List.find?_some hf⟩
/-- a box that holds the reader -/
def BoxR (W : World) (k b : Nat) : Prop := W.heap[k]? = some (.cells #[.pointer (some ⟨b, 0, none⟩)] 48 (0, 0))
theorem BoxR.cell {W : World} {k b : Nat} (h : BoxR W k b) : W.cell? ⟨k, 0, none⟩ = some (.pointer (some ⟨b, 0, none⟩)) := by unfold BoxR at h; simp [World.cell?, h]
theorem BoxR.keep {W Y : World} {k b : Nat} {xb : Nat → Prop} (h : BoxR W k b) (hk : k ≠ b) (hr : RX b xb W Y) : BoxR Y k b := hr.keep k _ h hk fun cs e => by cases e
set_option maxHeartbeats 8000000 in
theorem pre1_any (b g cap : Nat) (dv : Value) (ts : List Tok) (xb : Nat → Prop) (f : Nat) (IA : RuleC b g cap dv ts xb 125 f .atom) (IP : RuleC b g cap dv ts xb 119 f .pre)
    (x : RS) (hc : x.code = 0) (v : Int) (l : List Int) (τ y : RS) (hcase : (prefixK ts x prefixL = 0 ∧ runE ts f .atom x = some (v, l, τ)) ∨ (prefixK ts x prefixL ≠ 0 ∧ ∃ v' l', runE ts f .pre (stepS x) = some (v', l', y) ∧ okS y = true ∧ v = (y.exprs.length : Int) ∧ τ = putS { ex0 with kind := prefixK ts x prefixL, a := v', pos := ((tokL ts x.at_).at_ : Int) } y))
    (k : Nat) (hkb : k ≠ b) (W : World) (h : Hid (Cd W b g cap dv ts xb x)) (hk : Hid (BoxR W k b)) :
    Calls Tryz.prog 123 #[.pointer (some ⟨k, 0, none⟩)] W fun r Y => CdRet b g cap dv ts xb W (.int .i64 v) τ r Y := by
  obtain ⟨o, c, ⟨c0, c1, c2, c3, fr⟩, hx⟩ := h.out.cells
  obtain ⟨t0, t1, t2, t3⟩ := h.out.tok
  have hl := h.out.at_
  have bx := hk.out.cell
  have HKB := Lib.hid hkb
  have HC := Lib.hid hc
  obtain ⟨m, hmm⟩ : ∃ m, m = ts.length - x.at_ := ⟨_, rfl⟩
  obtain ⟨a4, haa⟩ : ∃ a4, a4 = x.at_ * 4 := ⟨_, rfl⟩
  obtain ⟨tx, htx⟩ : ∃ tx, tx = (tokL ts x.at_).text := ⟨_, rfl⟩
  rw [← hmm, ← haa] at c0
  rw [← htx, ← haa] at t1
  have HTX := Lib.hid htx
  have k0 : (0 : Int) < (m : Int) := by omega
  clear hmm haa t0 t2 t3 hl hx c1 c2 c3 fr htx hkb hc
  rcases hcase with ⟨hz, hr⟩ | ⟨hz, v', l', hr, ok, rfl, hτ⟩
  · have hno := prefix_zero hz
    have ne : ∀ p ∈ prefixL, tx ≠ p.1 := fun p hp e => by
      have h1 := hno p hp
      rw [isS_text h.out.tx (prefix_sg (k := p.2) (by exact hp)) HC.out, ← HTX.out, e] at h1
      simp at h1
    have A := Lib.hid fun w => ahead_zero tx (ne ([45], 4) (by decide)) (ne ([110, 111, 116], 5) (by decide)) (ne ([112, 114, 101], 16) (by decide)) (ne ([115, 113, 114, 116], 21) (by decide)) w
    have C := Lib.hid (IA x v l τ HC.out hr W h)
    clear hno ne hz hr
    by_cases ht : τ.code = 0
    · have C1 := Lib.hid (C.out.mono fun r Y hh => hh.ok ht)
      have HT := Lib.hid ht
      clear C ht
      go_enter Tryz.func123, Tryz.ntmps123
      go_wp2_with (first
        | (go_at_call 124; (with_reducible refine (A.out _).mono ?_); rintro e w1 ⟨rfl, hw1⟩; obtain rfl := hw1.symm)
        | (go_at_call 125; (with_reducible refine C1.out.mono ?_); rintro e w2 ⟨rfl, hr, hk2⟩))
      go_ret
      exact ⟨hk2.out, .inl ⟨HT.out, rfl, hr.out⟩⟩
    · have C1 := Lib.hid (C.out.mono fun r Y hh => hh.bad ht)
      have HT := Lib.hid ht
      clear C ht
      go_enter Tryz.func123, Tryz.ntmps123
      go_wp2_with (first
        | (go_at_call 124; (with_reducible refine (A.out _).mono ?_); rintro e w1 ⟨rfl, hw1⟩; obtain rfl := hw1.symm)
        | (go_at_call 125; (with_reducible refine C1.out.mono ?_); rintro e w2 ⟨rfl, hk2⟩))
      exact ⟨rfl, hk2.out, .inr ⟨HT.out, rfl⟩⟩
  · obtain ⟨s, hs, hi⟩ := prefix_some hz
    have hst : tx = s := HTX.out.trans (isS_tx hi)
    have A : Hid (∀ w, Calls Tryz.prog 124 #[.string (str tx)] w fun r Y => r = .returned (.int .i64 (prefixK ts x prefixL)) ∧ Y = w) := Lib.hid fun w => by rw [hst]; exact ahead_of hs w
    have T := Lib.hid (take_any b g cap dv ts xb x W h (isS_kind hi).1)
    obtain ⟨kd, hkd⟩ : ∃ kd, kd = prefixK ts x prefixL := ⟨_, rfl⟩
    have q0 : (kd == 0) = false := beq_false_of_ne (by rw [hkd]; exact hz)
    rw [← hkd] at A hτ
    unfold TakeRet tokV at T
    obtain ⟨K, hK⟩ : ∃ K, K = (tokL ts x.at_).kind := ⟨_, rfl⟩
    obtain ⟨X, hX⟩ : ∃ X, X = str (tokL ts x.at_).text := ⟨_, rfl⟩
    obtain ⟨V, hV⟩ : ∃ V, V = (tokL ts x.at_).v := ⟨_, rfl⟩
    obtain ⟨P, hP⟩ : ∃ P, P = (tokL ts x.at_).at_ := ⟨_, rfl⟩
    rw [← hK, ← hX, ← hV, ← hP] at T
    rw [← hP] at hτ
    have C : Hid (∀ W, Hid (Cd W b g cap dv ts xb (stepS x)) → Calls Tryz.prog 119 #[.pointer (some ⟨b, 0, none⟩)] W fun r Y => CdRet b g cap dv ts xb W (.int .i64 v') y r Y) := Lib.hid fun W h => IP (stepS x) v' l' y HC.out hr W h
    have FA := field_at
    have hbk : k < W.heap.size := heap_lt hk.out
    have hbs := h.out.size
    have HTAU := Lib.hid hτ
    have HYT : Hid (τ.code = y.code ∧ τ.pos = y.pos) := Lib.hid (by rw [hτ]; exact ⟨rfl, rfl⟩)
    clear hs hi hst hkd hz hr hK hX hV hP hτ HTX
    by_cases hy : y.code = 0
    · have C1 : Hid (∀ W, Hid (Cd W b g cap dv ts xb (stepS x)) → Calls Tryz.prog 119 #[.pointer (some ⟨b, 0, none⟩)] W fun r Y => CdOk b g cap dv ts xb W (.int .i64 v') y r Y) := Lib.hid fun W h => (C.out W h).mono fun r Y hh => hh.ok hy
      have PU : Hid (∀ W, Hid (Cd W b g cap dv ts xb y) → Calls Tryz.prog 75 #[.pointer (some ⟨b, 0, none⟩), .agg #[.int .i64 kd, .int .i64 v', .int .i64 0, .int .i64 0, .string ⟨#[]⟩, .string ⟨#[]⟩, .int .i64 0, .slice none 0 0, .int .i64 (P : Int)]] W fun r Y => CdOk b g cap dv ts xb W (.int .i64 (y.exprs.length : Int)) τ r Y) := Lib.hid fun W h => by
        rw [HTAU.out]
        exact (cput_any b g cap dv ts xb y { ex0 with kind := kd, a := v', pos := (P : Int) } none 0 0 W h hy (okS_iff.1 ok).1 (Lib.hid (World.ownsRow_nil _ _ _ _)) (Lib.hid fun k hk => by cases hk)).mono fun r Y hh => hh.ok hy
      have HY := Lib.hid hy
      clear C hy
      go_enter Tryz.func123, Tryz.ntmps123
      go_wp2_with (first
        | (go_at_call 124; (with_reducible refine (A.out _).mono ?_); rintro e w1 ⟨rfl, hw1⟩; obtain rfl := hw1.symm)
        | (go_at_call 61; (with_reducible refine T.out.mono ?_); rintro e w2 ⟨rfl, hr2, hk2⟩; have HB2 := Lib.hid (hk.out.keep HKB.out hk2.out); have z2 := HB2.out.cell))
      have HRD : Hid (Cd w2.drew b g cap dv ts xb (stepS x)) := Lib.hid (hr2.out.below (below_dr (Below.refl _ _) 1))
      go_region_held3 (fun w' => w'.cell? ⟨k, 0, none⟩ = some (.pointer (some ⟨b, 0, none⟩)))
        (first | assumption | go_keep)
        (first
          | (go_at_call 75; (with_reducible refine (PU.out _ ?_).mono ?_); (focus with_reducible exact hr5); rintro e w6 ⟨rfl, hr6, hk6⟩; have z6 := (HB5.out.keep HKB.out hk6.out).cell)
          | (go_at_call 119; (with_reducible refine (C1.out _ ?_).mono ?_); (focus with_reducible exact HRD); rintro e w5 ⟨rfl, hr5, hk5⟩; have HB5 := Lib.hid (BoxR.keep (W := w2.drew) HB2.out HKB.out hk5.out); have z5 := HB5.out.cell))
      go_wp2_with fail
      go_ret
      exact ⟨hk2.out.trans ((RX.of_below (below_dr (Below.refl _ _) 1) (Nat.le_of_lt hr2.out.size) hr2.out.xlt).trans (hk5.out.trans hk6.out)), .inl ⟨HYT.out.1.trans HY.out, rfl, hr6.out⟩⟩
    · have C1 : Hid (∀ W, Hid (Cd W b g cap dv ts xb (stepS x)) → Calls Tryz.prog 119 #[.pointer (some ⟨b, 0, none⟩)] W fun r Y => CdBad b xb W y.code y.pos r Y) := Lib.hid fun W h => (C.out W h).mono fun r Y hh => hh.bad hy
      have HY := Lib.hid hy
      clear C hy
      go_enter Tryz.func123, Tryz.ntmps123
      go_wp2_with (first
        | (go_at_call 124; (with_reducible refine (A.out _).mono ?_); rintro e w1 ⟨rfl, hw1⟩; obtain rfl := hw1.symm)
        | (go_at_call 61; (with_reducible refine T.out.mono ?_); rintro e w2 ⟨rfl, hr2, hk2⟩; have HB2 := Lib.hid (hk.out.keep HKB.out hk2.out); have z2 := HB2.out.cell))
      have HRD : Hid (Cd w2.drew b g cap dv ts xb (stepS x)) := Lib.hid (hr2.out.below (below_dr (Below.refl _ _) 1))
      have z3 : w2.drew.cell? ⟨k, 0, none⟩ = some (.pointer (some ⟨b, 0, none⟩)) := z2
      go_region_with (go_at_call 119; (with_reducible refine (C1.out _ ?_).mono ?_); (focus with_reducible exact HRD); rintro e w5 ⟨rfl, hk5⟩; refine dummyAny Tryz.prog w5 ⟨rfl, hk2.out.trans ((RX.of_below (below_dr (Below.refl _ _) 1) (Nat.le_of_lt hr2.out.size) hr2.out.xlt).trans hk5.out), .inr ⟨by rw [HYT.out.1]; exact HY.out, by rw [HYT.out.1, HYT.out.2]⟩⟩ ?_)
      all_goals trivial
end Go.Proofs.YtlbhlncipajapaaGreatDoor
namespace Go.Proofs.YtlbhlncipajapaaGreatDoor
open Go.RowKit Lx
set_option linter.unusedVariables false

theorem enter_too {ts : List Tok} {σ : RS} (hc : σ.code = 0) (hd : σ.deep = 30) : (enterS ts σ).code = 3 ∧ (enterS ts σ).pos = ((tokL ts σ.at_).at_ : Int) := by
  unfold enterS tooDeep failS
  rw [decide_eq_true hc, decide_eq_true hd, if_pos hc]
  exact ⟨rfl, rfl⟩
theorem enter_go {ts : List Tok} {σ : RS} (hd : σ.deep ≠ 30) : enterS ts σ = { σ with deep := σ.deep + 1 } := by
  unfold enterS tooDeep
  rw [decide_eq_false hd, Bool.and_false]
  rfl
theorem boxR_new (W : World) (b : Nat) : BoxR (W.alloc (.cells #[.pointer (some ⟨b, 0, none⟩)] 48)) W.heap.size b := heap_alloc_new W _
/-- a rule that is read one deeper -/
theorem deep_rule (b g cap : Nat) (dv : Value) (ts : List Tok) (xb : Nat → Prop) (F : Nat) (hF : ∀ args w, (callFunc F args).run Tryz.prog w = .ok (.enter F args) w) (σ : RS) (hc : σ.code = 0) (hok : okS σ = true) (v : Int) (τ : RS)
    (hcase : ((enterS ts σ).code ≠ 0 ∧ τ = leaveS (enterS ts σ)) ∨ ((enterS ts σ).code = 0 ∧ ∃ y, τ = leaveS y ∧ 0 ≤ y.deep ∧ y.deep ≤ 31 ∧ ∀ (k : Nat), k ≠ b → ∀ W, Hid (Cd W b g cap dv ts xb (enterS ts σ)) → Hid (BoxR W k b) → Calls Tryz.prog F #[.pointer (some ⟨k, 0, none⟩)] W fun r Y => CdRet b g cap dv ts xb W (.int .i64 v) y r Y))
    (k : Nat) (hkb : k ≠ b) (W : World) (h : Hid (Cd W b g cap dv ts xb σ)) (hk : Hid (BoxR W k b)) :
    Calls Tryz.prog 47 #[.pointer (some ⟨b, 0, none⟩), .func (.func F) #[] #[.pointer (some ⟨k, 0, none⟩)]] W fun r Y => CdRet b g cap dv ts xb W (.int .i64 v) τ r Y := by
  obtain ⟨ok1, ok2, ok3⟩ := okS_iff.1 hok
  by_cases hd : σ.deep = 30
  · obtain ⟨e1, e2⟩ := enter_too (ts := ts) hc hd
    rcases hcase with ⟨h1, h2⟩ | ⟨h1, _⟩
    · refine (deeper_deep b g cap dv ts xb σ _ W h hc hd).mono fun r Y hh => ?_
      refine ⟨hh.2.out, .inr ⟨?_, ?_⟩⟩
      · rw [h2]; show (enterS ts σ).code ≠ 0; rw [e1]; decide
      · rw [h2]; show r = .panicked [{ v := refusalV (enterS ts σ).code (enterS ts σ).pos, recovered := false }]; rw [e1, e2]; exact hh.1
    · rw [e1] at h1; cases h1
  · have e := enter_go (ts := ts) hd
    rcases hcase with ⟨h1, h2⟩ | ⟨h1, y, h2, y0, y1, C⟩
    · rw [e] at h1; exact absurd hc h1
    · rw [h2]
      refine deeper_go b g cap dv ts xb σ F (.pointer (some ⟨k, 0, none⟩)) v y W h hc hd ok2 ok3 y0 y1 hF fun W' h' hr' => ?_
      exact C k hkb W' (Lib.hid (by rw [e]; exact h'.out)) (Lib.hid (hk.out.keep hkb hr'.out))
theorem enters_pre1 : ∀ args w, (callFunc 123 args).run Tryz.prog w = .ok (.enter 123 args) w := enters_of Tryz.func123 (by kernel_rfl) rfl
theorem enters_expr1 : ∀ args w, (callFunc 48 args).run Tryz.prog w = .ok (.enter 48 args) w := enters_of Tryz.func48 (by kernel_rfl) rfl
set_option maxHeartbeats 4000000 in
theorem pre_rule (b g cap : Nat) (dv : Value) (ts : List Tok) (xb : Nat → Prop) (f : Nat) (IA : RuleC b g cap dv ts xb 125 f .atom) (IP : RuleC b g cap dv ts xb 119 f .pre) : RuleC b g cap dv ts xb 119 (f + 1) .pre := by
  intro σ v l τ hc hr W h
  obtain ⟨hok, hcase⟩ := pre_cases hr
  have hbs := h.out.size
  have D : Hid (∀ (k : Nat), k ≠ b → ∀ W, Hid (Cd W b g cap dv ts xb σ) → Hid (BoxR W k b) → Calls Tryz.prog 47 #[.pointer (some ⟨b, 0, none⟩), .func (.func 123) #[] #[.pointer (some ⟨k, 0, none⟩)]] W fun r Y => CdRet b g cap dv ts xb W (.int .i64 v) τ r Y) := Lib.hid (by
    refine deep_rule b g cap dv ts xb _ enters_pre1 σ hc hok v τ ?_
    rcases hcase with ⟨h1, h2⟩ | ⟨h1, h2, v', l', y, h3, h4, h5⟩ | ⟨h1, h2, v', l', y, h3, h4, h5⟩
    · injection h2 with e1 e2; injection e2 with e2 e3
      exact .inl ⟨h1, e3⟩
    · injection h5 with e1 e2; injection e2 with e2 e3
      obtain ⟨k1, k2, k3⟩ := okS_iff.1 h4
      exact .inr ⟨h1, y, e3, k2, by omega, fun k hk W h hb => pre1_any b g cap dv ts xb f IA IP (enterS ts σ) h1 v l' y y (.inl ⟨h2, by rw [e1]; exact h3⟩) k hk W h hb⟩
    · injection h5 with e1 e2; injection e2 with e2 e3
      obtain ⟨k1, k2, k3⟩ := okS_iff.1 h4
      exact .inr ⟨h1, _, e3, k2, (show y.deep ≤ 31 by omega), fun k hk W h hb => pre1_any b g cap dv ts xb f IA IP (enterS ts σ) h1 v l' _ y (.inr ⟨h2, v', l', h3, h4, e1, rfl⟩) k hk W h hb⟩)
  have MF := runF
  clear hcase hr hok
  obtain ⟨W1, hW1⟩ : ∃ W1, W1 = W.alloc (.cells #[.pointer (some ⟨b, 0, none⟩)] 48) := ⟨_, rfl⟩
  have hb1 : Below W.heap.size W W1 := by rw [hW1]; exact (Below.refl _ _).alloc (Nat.le_refl _) _
  have C := Lib.hid (D.out W.heap.size (by omega) W1 (Lib.hid (h.out.below hb1)) (Lib.hid (by rw [hW1]; exact boxR_new W b)))
  have HB := Lib.hid (RX.of_below (xb := xb) hb1 (Nat.le_of_lt hbs) h.out.xlt)
  clear D hb1
  by_cases h0 : τ.code = 0
  · have C1 := Lib.hid (C.out.mono fun r Y hh => hh.ok h0)
    have H0 := Lib.hid h0
    clear C h0 hc
    go_enter Tryz.func119, Tryz.ntmps119
    go_wp2_with (go_at_call 47; rw [← hW1]; clear hW1; (with_reducible refine C1.out.mono ?_); rintro e w2 ⟨rfl, hr, hk⟩)
    go_ret
    exact ⟨HB.out.trans hk.out, .inl ⟨H0.out, rfl, hr.out⟩⟩
  · have C1 := Lib.hid (C.out.mono fun r Y hh => hh.bad h0)
    have H0 := Lib.hid h0
    clear C h0 hc
    go_enter Tryz.func119, Tryz.ntmps119
    go_wp2_with (go_at_call 47; rw [← hW1]; clear hW1; (with_reducible refine C1.out.mono ?_); rintro e w2 ⟨rfl, hk⟩)
    exact ⟨rfl, HB.out.trans hk.out, .inr ⟨H0.out, rfl⟩⟩
end Go.Proofs.YtlbhlncipajapaaGreatDoor
namespace Go.Proofs.YtlbhlncipajapaaGreatDoor
open Go.RowKit Lx
set_option linter.unusedVariables false

theorem Cd.butX {W Y : World} {b g cap : Nat} {dv : Value} {ts : List Tok} {xb : Nat → Prop} {σ : RS} (h : Cd W b g cap dv ts xb σ) {A : Nat} (hA : xb A) (hb : b < A) (hy : But A W Y) : Cd Y b g cap dv ts xb σ := by
  have hs := h.size
  obtain ⟨o, c, hc, ⟨q, q1, q2, q3⟩, h3⟩ := h.blk
  exact ⟨fun k hk => Nat.lt_of_lt_of_le (h.xlt k hk) hy.size, ⟨o, c, (hy.block b (by omega) hs).trans hc, ⟨q, q1, rd_own_same q2 fun k e => hy.block k (fun e2 => h3 k e (by rw [e2]; exact hA)) (q2.lt k e).2, fun p hp => ⟨rd_own_same (q3 p hp).1 fun k e => hy.block k (fun e2 => (q3 p hp).2 k e (by rw [e2]; exact hA)) ((q3 p hp).1.lt k e).2, (q3 p hp).2⟩⟩, h3⟩, h.xnb, row_low h.row (hy.block g (by have := h.lt; omega) (by have := h.lt; omega)), h.lt, h.at_, h.len, h.cp, h.ends, h.tx⟩
/-- one block more that nothing of the reader's is -/
def xbA (xb : Nat → Prop) (A : Nat) : Nat → Prop := fun k => xb k ∨ k = A
theorem Cd.newX {W : World} {b g cap : Nat} {dv : Value} {ts : List Tok} {xb : Nat → Prop} {σ : RS} (h : Cd W b g cap dv ts xb σ) (o : Obj) : Cd (W.alloc o) b g cap dv ts (xbA xb W.heap.size) σ := by
  have hs := h.size
  have h' := h.alloc o
  obtain ⟨oo, c, hc, ⟨q, q1, q2, q3⟩, h3⟩ := h.blk
  have hb : Below W.heap.size W (W.alloc o) := (Below.refl _ _).alloc (Nat.le_refl _) o
  refine ⟨fun k hk => ?_, ⟨oo, c, (hb.block b hs).trans hc, ⟨q, q1, rd_own_same q2 fun k e => hb.block k (q2.lt k e).2, fun p hp => ⟨rd_own_same (q3 p hp).1 fun k e => hb.block k ((q3 p hp).1.lt k e).2, fun k e hx => ?_⟩⟩, fun k e hx => ?_⟩, fun hx => ?_, h'.row, h.lt, h.at_, h.len, h.cp, h.ends, h.tx⟩
  · rcases hk with hk | hk
    · exact h'.xlt k hk
    · rw [hk]; simp
  · rcases hx with hx | hx
    · exact (q3 p hp).2 k e hx
    · have := ((q3 p hp).1.lt k e).2; omega
  · rcases hx with hx | hx
    · exact h3 k e hx
    · have := (q2.lt k e).2; omega
  · rcases hx with hx | hx
    · exact h.xnb hx
    · omega
theorem Cd.less {W : World} {b g cap : Nat} {dv : Value} {ts : List Tok} {xb xb' : Nat → Prop} {σ : RS} (h : Cd W b g cap dv ts xb' σ) (hx : ∀ k, xb k → xb' k) : Cd W b g cap dv ts xb σ := by
  obtain ⟨o, c, hc, ⟨q, q1, q2, q3⟩, h3⟩ := h.blk
  exact ⟨fun k hk => h.xlt k (hx k hk), ⟨o, c, hc, ⟨q, q1, q2, fun p hp => ⟨(q3 p hp).1, fun k e hk => (q3 p hp).2 k e (hx k hk)⟩⟩, fun k e hk => h3 k e (hx k hk)⟩, fun hk => h.xnb (hx b hk), h.row, h.lt, h.at_, h.len, h.cp, h.ends, h.tx⟩
theorem RX.less {b : Nat} {xb xb' : Nat → Prop} {W Y : World} (h : RX b xb' W Y) (hx : ∀ k, xb k → xb' k) : RX b xb W Y := ⟨h.rk, fun k hk => h.xs k (hx k hk)⟩
theorem xbA_le (xb : Nat → Prop) (A : Nat) : ∀ k, xb k → xbA xb A k := fun k hk => .inl hk
/-- what stands behind a word or sign -/
theorem behind_rule (b g cap : Nat) (dv : Value) (ts : List Tok) (xb : Nat → Prop) (F f : Nat) (j : Job) (hF : ∀ args w, (callFunc F args).run Tryz.prog w = .ok (.enter F args) w) (I : RuleC b g cap dv ts xb F f j) (σ : RS) (hc : σ.code = 0) (s : List UInt8) (hs : s ∈ sgL) (v : Int) (l : List Int) (τ : RS) (hr : runE ts f j (wantS ts s σ) = some (v, l, τ)) (W : World) (h : Hid (Cd W b g cap dv ts xb σ)) :
    Calls Tryz.prog 65 #[.pointer (some ⟨b, 0, none⟩), .string (str s), .func (.func F) #[.pointer (some ⟨b, 0, none⟩)] #[]] W fun r Y => CdRet b g cap dv ts xb W (.int .i64 v) τ r Y := by
  refine behind_int b g cap dv ts xb σ s F _ W h hc hs hF (fun hw r Y hh => hh.ret hw (stuck ts f j _ _ hr)) fun hw W' h' hk => ?_
  exact (I (wantS ts s σ) v l τ hw hr W' h').mono fun r Y hh => ⟨hk.out.trans hh.1, hh.2⟩
theorem nine_of {W : World} {k : Nat} {x0 x1 x2 x3 x4 x5 x6 x7 x8 : Value} {T : TypeId} (h : W.heap[k]? = some (.cells #[x0, x1, x2, x3, x4, x5, x6, x7, x8] T (0, 0))) :
    (W.cell? ⟨k, 0, none⟩ = some x0 ∧ W.cell? ⟨k, 1, none⟩ = some x1 ∧ W.cell? ⟨k, 2, none⟩ = some x2 ∧ W.cell? ⟨k, 3, none⟩ = some x3 ∧ W.cell? ⟨k, 4, none⟩ = some x4 ∧ W.cell? ⟨k, 5, none⟩ = some x5 ∧ W.cell? ⟨k, 6, none⟩ = some x6 ∧ W.cell? ⟨k, 7, none⟩ = some x7 ∧ W.cell? ⟨k, 8, none⟩ = some x8) ∧ ∀ i, W.frozen? ⟨k, i, none⟩ = false :=
  ⟨⟨by simp [World.cell?, h], by simp [World.cell?, h], by simp [World.cell?, h], by simp [World.cell?, h], by simp [World.cell?, h], by simp [World.cell?, h], by simp [World.cell?, h], by simp [World.cell?, h], by simp [World.cell?, h]⟩, fun i => by simp [World.frozen?, h]⟩
set_option maxHeartbeats 8000000 in
theorem choice_any (b g cap : Nat) (dv : Value) (ts : List Tok) (xb : Nat → Prop) (f : Nat) (IE : ∀ xb, RuleC b g cap dv ts xb 26 f .expr) (x : RS) (hc : x.code = 0) (hi : isS ts [105, 102] x = true)
    (va vb vc : Int) (la lb lc : List Int) (s2 s3 s4 : RS) (r1 : runE ts f .expr (stepS x) = some (va, la, s2)) (r2 : runE ts f .expr (wantS ts [116, 104, 101, 110] s2) = some (vb, lb, s3)) (r3 : runE ts f .expr (wantS ts [101, 108, 115, 101] s3) = some (vc, lc, s4)) (ok : okS s4 = true)
    (W : World) (h : Hid (Cd W b g cap dv ts xb x)) :
    Calls Tryz.prog 50 #[.pointer (some ⟨b, 0, none⟩)] W fun r Y => CdRet b g cap dv ts xb W (.int .i64 (s4.exprs.length : Int)) (putS { ex0 with kind := 15, a := va, b := vb, c := vc, pos := ((tokL ts x.at_).at_ : Int) } s4) r Y := by
  obtain ⟨o, c, ⟨c0, c1, c2, c3, fr⟩, hx⟩ := h.out.cells
  obtain ⟨t0, t1, t2, t3⟩ := h.out.tok
  have hl := h.out.at_
  have hbs := h.out.size
  have hgs : g < W.heap.size := by have := h.out.lt; omega
  have S2 := Lib.hid ((stuck ts f .expr _ _ r2))
  have S3 := Lib.hid ((stuck ts f .expr _ _ r3))
  have SW2 := Lib.hid (stays_want ts [116, 104, 101, 110] s2)
  have SW3 := Lib.hid (stays_want ts [101, 108, 115, 101] s3)
  obtain ⟨P, hP⟩ : ∃ P, P = (tokL ts x.at_).at_ := ⟨_, rfl⟩
  obtain ⟨m, hmm⟩ : ∃ m, m = ts.length - x.at_ := ⟨_, rfl⟩
  obtain ⟨a4, haa⟩ : ∃ a4, a4 = x.at_ * 4 := ⟨_, rfl⟩
  rw [← hmm, ← haa] at c0
  rw [← hP, ← haa] at t3
  rw [← hP]
  have k0 : (0 : Int) < (m : Int) := by omega
  obtain ⟨xb', hxb'⟩ : ∃ xb', xb' = xbA xb W.heap.size := ⟨_, rfl⟩
  obtain ⟨W1, hW1⟩ : ∃ W1, W1 = W.alloc (.cells #[.int .i64 15, .int .i64 0, .int .i64 0, .int .i64 0, .string ⟨#[]⟩, .string ⟨#[]⟩, .int .i64 0, .slice none 0 0, .int .i64 (P : Int)] 46) := ⟨_, rfl⟩
  have H1 : Hid (Cd W1 b g cap dv ts xb' x) := Lib.hid (by rw [hW1, hxb']; exact h.out.newX _)
  have HA : Hid (W1.heap[W.heap.size]? = some (.cells #[.int .i64 15, .int .i64 0, .int .i64 0, .int .i64 0, .string ⟨#[]⟩, .string ⟨#[]⟩, .int .i64 0, .slice none 0 0, .int .i64 (P : Int)] 46 (0, 0))) := Lib.hid (by rw [hW1]; exact heap_alloc_new W _)
  have HB1 : Hid (RX b xb W W1) := Lib.hid (RX.of_below (by rw [hW1]; exact (Below.refl _ _).alloc (Nat.le_refl _) _) (Nat.le_of_lt hbs) h.out.xlt)
  have HXA : Hid (xb' W.heap.size ∧ ∀ k, xb k → xb' k) := Lib.hid (by rw [hxb']; exact ⟨.inr rfl, xbA_le xb _⟩)
  have B1 : Hid (∀ W, Hid (Cd W b g cap dv ts xb' x) → Calls Tryz.prog 65 #[.pointer (some ⟨b, 0, none⟩), .string ⟨#[105, 102]⟩, .func (.func 26) #[.pointer (some ⟨b, 0, none⟩)] #[]] W fun r Y => CdRet b g cap dv ts xb' W (.int .i64 va) s2 r Y) := Lib.hid fun W h =>
    behind_rule b g cap dv ts xb' _ f .expr enters_expr (IE xb') x hc [105, 102] (by decide) va la s2 (by unfold wantS; rw [if_pos hi]; exact r1) W h
  have B2 : Hid (s2.code = 0 → ∀ W, Hid (Cd W b g cap dv ts xb' s2) → Calls Tryz.prog 65 #[.pointer (some ⟨b, 0, none⟩), .string ⟨#[116, 104, 101, 110]⟩, .func (.func 26) #[.pointer (some ⟨b, 0, none⟩)] #[]] W fun r Y => CdRet b g cap dv ts xb' W (.int .i64 vb) s3 r Y) := Lib.hid fun hc W h =>
    behind_rule b g cap dv ts xb' _ f .expr enters_expr (IE xb') s2 hc [116, 104, 101, 110] (by decide) vb lb s3 r2 W h
  have B3 : Hid (s3.code = 0 → ∀ W, Hid (Cd W b g cap dv ts xb' s3) → Calls Tryz.prog 65 #[.pointer (some ⟨b, 0, none⟩), .string ⟨#[101, 108, 115, 101]⟩, .func (.func 26) #[.pointer (some ⟨b, 0, none⟩)] #[]] W fun r Y => CdRet b g cap dv ts xb' W (.int .i64 vc) s4 r Y) := Lib.hid fun hc W h =>
    behind_rule b g cap dv ts xb' _ f .expr enters_expr (IE xb') s3 hc [101, 108, 115, 101] (by decide) vc lc s4 r3 W h
  obtain ⟨τ, hτ⟩ : ∃ τ, τ = putS { ex0 with kind := 15, a := va, b := vb, c := vc, pos := (P : Int) } s4 := ⟨_, rfl⟩
  rw [← hτ]
  have HTAU := Lib.hid hτ
  have HS4 : Hid (Stays s4 τ) := Lib.hid (by rw [hτ]; exact stays_put _ _)
  have MF := runF
  clear hmm haa t0 t1 t2 hl hx c1 c2 c3 fr r1 r2 r3 hi hxb' hP hτ
  by_cases h2 : s2.code = 0
  · have B1' : Hid (∀ W, Hid (Cd W b g cap dv ts xb' x) → Calls Tryz.prog 65 #[.pointer (some ⟨b, 0, none⟩), .string ⟨#[105, 102]⟩, .func (.func 26) #[.pointer (some ⟨b, 0, none⟩)] #[]] W fun r Y => CdOk b g cap dv ts xb' W (.int .i64 va) s2 r Y) := Lib.hid fun W h => (B1.out W h).mono fun r Y hh => hh.ok h2
    have B2a := Lib.hid (B2.out h2)
    have H2 := Lib.hid h2
    clear B1 B2 h2
    by_cases h3 : s3.code = 0
    · have B2' : Hid (∀ W, Hid (Cd W b g cap dv ts xb' s2) → Calls Tryz.prog 65 #[.pointer (some ⟨b, 0, none⟩), .string ⟨#[116, 104, 101, 110]⟩, .func (.func 26) #[.pointer (some ⟨b, 0, none⟩)] #[]] W fun r Y => CdOk b g cap dv ts xb' W (.int .i64 vb) s3 r Y) := Lib.hid fun W h => (B2a.out W h).mono fun r Y hh => hh.ok h3
      have B3a := Lib.hid (B3.out h3)
      have H3 := Lib.hid h3
      clear B2a B3 h3
      by_cases h4 : s4.code = 0
      · have B3' : Hid (∀ W, Hid (Cd W b g cap dv ts xb' s3) → Calls Tryz.prog 65 #[.pointer (some ⟨b, 0, none⟩), .string ⟨#[101, 108, 115, 101]⟩, .func (.func 26) #[.pointer (some ⟨b, 0, none⟩)] #[]] W fun r Y => CdOk b g cap dv ts xb' W (.int .i64 vc) s4 r Y) := Lib.hid fun W h => (B3a.out W h).mono fun r Y hh => hh.ok h4
        have PU : Hid (∀ W, Hid (Cd W b g cap dv ts xb s4) → Calls Tryz.prog 75 #[.pointer (some ⟨b, 0, none⟩), .agg #[.int .i64 15, .int .i64 va, .int .i64 vb, .int .i64 vc, .string ⟨#[]⟩, .string ⟨#[]⟩, .int .i64 0, .slice none 0 0, .int .i64 (P : Int)]] W fun r Y => CdOk b g cap dv ts xb W (.int .i64 (s4.exprs.length : Int)) τ r Y) := Lib.hid fun W h => by
          rw [HTAU.out]
          exact (cput_any b g cap dv ts xb s4 { ex0 with kind := 15, a := va, b := vb, c := vc, pos := (P : Int) } none 0 0 W h h4 (okS_iff.1 ok).1 (Lib.hid (World.ownsRow_nil _ _ _ _)) (Lib.hid fun k hk => by cases hk)).mono fun r Y hh => hh.ok h4
        have H4 := Lib.hid h4
        clear B3a h4
        go_enter Tryz.func50, Tryz.ntmps50
        go_wp2_with (first
          | (go_at_call 65; rw [← hW1]; clear hW1; (with_reducible refine (B1'.out _ H1).mono ?_); rintro e w2 ⟨rfl, hr2, hk2⟩)
          | (go_at_call 65; (with_reducible refine (B2'.out _ hr2).mono ?_); rintro e w3 ⟨rfl, hr3, hk3⟩)
          | (go_at_call 65; (with_reducible refine (B3'.out _ hr3).mono ?_); rintro e w4 ⟨rfl, hr4, hk4⟩; have HK := Lib.hid (hk2.out.trans (hk3.out.trans hk4.out)); have HA4 := Lib.hid ((HK.out.xs _ HXA.out.1).trans HA.out); obtain ⟨⟨y0, y1, y2, y3, y4, y5, y6, y7, y8⟩, yf⟩ := nine_of HA4.out; have f1 := yf 1; have f2 := yf 2; have f3 := yf 3; clear yf))
        obtain ⟨W5, hW5⟩ : ∃ W5, W5 = ((w4.setCell ⟨W.heap.size, 1, none⟩ (.int .i64 va)).setCell ⟨W.heap.size, 2, none⟩ (.int .i64 vb)).setCell ⟨W.heap.size, 3, none⟩ (.int .i64 vc) := ⟨_, rfl⟩
        have hbut : But W.heap.size w4 W5 := by rw [hW5]; exact (((But.refl _ _).set 1 _).set 2 _).set 3 _
        have HR5 : Hid (Cd W5 b g cap dv ts xb s4) := Lib.hid ((hr4.out.butX HXA.out.1 hbs hbut).less HXA.out.2)
        have HK5 : Hid (RX b xb W W5) := Lib.hid ((HB1.out.trans (HK.out.less HXA.out.2)).but h.out.xlt (Nat.le_refl _) hbs hbs hbut)
        rw [← hW5]
        clear hW5 hbut y0 y1 y2 y3 y4 y5 y6 y7 y8 f1 f2 f3
        refine (PU.out _ HR5).mono ?_
        rintro e w6 ⟨rfl, hr6, hk6⟩
        dsimp only
        go_wp2_with fail
        go_ret
        exact ⟨HK5.out.trans hk6.out, .inl ⟨by rw [HTAU.out]; exact H4.out, rfl, hr6.out⟩⟩
      · have B3' : Hid (∀ W, Hid (Cd W b g cap dv ts xb' s3) → Calls Tryz.prog 65 #[.pointer (some ⟨b, 0, none⟩), .string ⟨#[101, 108, 115, 101]⟩, .func (.func 26) #[.pointer (some ⟨b, 0, none⟩)] #[]] W fun r Y => CdBad b xb' W s4.code s4.pos r Y) := Lib.hid fun W h => (B3a.out W h).mono fun r Y hh => hh.bad h4
        have H4 := Lib.hid h4
        clear B3a h4
        go_enter Tryz.func50, Tryz.ntmps50
        go_wp2_with (first
          | (go_at_call 65; rw [← hW1]; clear hW1; (with_reducible refine (B1'.out _ H1).mono ?_); rintro e w2 ⟨rfl, hr2, hk2⟩)
          | (go_at_call 65; (with_reducible refine (B2'.out _ hr2).mono ?_); rintro e w3 ⟨rfl, hr3, hk3⟩)
          | (go_at_call 65; (with_reducible refine (B3'.out _ hr3).mono ?_); rintro e w4 ⟨rfl, hk4⟩))
        exact ⟨rfl, CdBad.ret (g := g) (cap := cap) (dv := dv) (ts := ts) ⟨rfl, Lib.hid (HB1.out.trans ((hk2.out.trans (hk3.out.trans hk4.out)).less HXA.out.2))⟩ H4.out HS4.out⟩
    · have B2' : Hid (∀ W, Hid (Cd W b g cap dv ts xb' s2) → Calls Tryz.prog 65 #[.pointer (some ⟨b, 0, none⟩), .string ⟨#[116, 104, 101, 110]⟩, .func (.func 26) #[.pointer (some ⟨b, 0, none⟩)] #[]] W fun r Y => CdBad b xb' W s3.code s3.pos r Y) := Lib.hid fun W h => (B2a.out W h).mono fun r Y hh => hh.bad h3
      have H3 := Lib.hid h3
      clear B2a B3 h3
      go_enter Tryz.func50, Tryz.ntmps50
      go_wp2_with (first
        | (go_at_call 65; rw [← hW1]; clear hW1; (with_reducible refine (B1'.out _ H1).mono ?_); rintro e w2 ⟨rfl, hr2, hk2⟩)
        | (go_at_call 65; (with_reducible refine (B2'.out _ hr2).mono ?_); rintro e w3 ⟨rfl, hk3⟩))
      exact ⟨rfl, CdBad.ret (g := g) (cap := cap) (dv := dv) (ts := ts) ⟨rfl, Lib.hid (HB1.out.trans ((hk2.out.trans hk3.out).less HXA.out.2))⟩ H3.out (SW3.out.trans (S3.out.trans HS4.out))⟩
  · have B1' : Hid (∀ W, Hid (Cd W b g cap dv ts xb' x) → Calls Tryz.prog 65 #[.pointer (some ⟨b, 0, none⟩), .string ⟨#[105, 102]⟩, .func (.func 26) #[.pointer (some ⟨b, 0, none⟩)] #[]] W fun r Y => CdBad b xb' W s2.code s2.pos r Y) := Lib.hid fun W h => (B1.out W h).mono fun r Y hh => hh.bad h2
    have H2 := Lib.hid h2
    clear B1 B2 B3 h2
    go_enter Tryz.func50, Tryz.ntmps50
    go_wp2_with (go_at_call 65; rw [← hW1]; clear hW1; (with_reducible refine (B1'.out _ H1).mono ?_); rintro e w2 ⟨rfl, hk2⟩)
    exact ⟨rfl, CdBad.ret (g := g) (cap := cap) (dv := dv) (ts := ts) ⟨rfl, Lib.hid (HB1.out.trans (hk2.out.less HXA.out.2))⟩ H2.out (SW2.out.trans (S2.out.trans (SW3.out.trans (S3.out.trans HS4.out))))⟩
end Go.Proofs.YtlbhlncipajapaaGreatDoor
