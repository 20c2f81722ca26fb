/- Joined: CdChain, CdLev. -/
import Derived.Test.YtlbhlncipajapaaGreatDoorPe28
import Derived.Test.YtlbhlncipajapaaGreatDoorPe24
namespace Go.Proofs.YtlbhlncipajapaaGreatDoor
open Go.RowKit Lx
set_option linter.unusedVariables false

/-- the signs of a level -/
def lvL : Nat → List (List UInt8)
  | 1 => [[111, 114]]
  | 2 => [[97, 110, 100]]
  | 3 => [[60], [60, 61], [61, 61]]
  | 4 => [[43], [45]]
  | 5 => [[42], [47]]
  | _ => []
theorem isS_tx {ts : List Tok} {s : List UInt8} {σ : RS} (h : isS ts s σ = true) : (tokL ts σ.at_).text = s := by
  unfold isS at h
  simp only [Bool.and_eq_true, beq_iff_eq] at h
  exact h.2.2
theorem lv_all : levelsL.all (fun p => decide (p.1 ∈ lvL p.2.1.toNat ∧ (p.1, p.2.2) ∈ betweenL)) = true := by decide +kernel
theorem lv_one : [1, 2, 3, 4, 5].all (fun n => (lvL n).all fun s => levelsL.all fun p => !decide (p.1 = s) || decide (p.2.1 = (n : Int))) = true := by decide +kernel
theorem lv_in : [1, 2, 3, 4, 5].all (fun n => (lvL n).all fun s => levelsL.any fun p => decide (p.1 = s)) = true := by decide +kernel
theorem lv_sg : [1, 2, 3, 4, 5].all (fun n => (lvL n).all fun s => decide (s ∈ sgL)) = true := by decide +kernel
theorem lv_mem {n : Nat} (h1 : 1 ≤ n) (h5 : n ≤ 5) : n ∈ [1, 2, 3, 4, 5] := by simp; omega
theorem lv_sgL {n : Nat} (h1 : 1 ≤ n) (h5 : n ≤ 5) : ∀ s ∈ lvL n, s ∈ sgL := fun s hs => of_decide_eq_true (List.all_eq_true.1 (List.all_eq_true.1 lv_sg n (lv_mem h1 h5)) s hs)
theorem level_yes {ts : List Tok} {σ : RS} {n : Nat} (h1 : 1 ≤ n) (h : (levelS ts σ).1 = (n : Int)) : ∃ s, isS ts s σ = true ∧ s ∈ lvL n ∧ (s, (levelS ts σ).2) ∈ betweenL := by
  unfold levelS levelIn at h ⊢
  cases hf : levelsL.find? fun p => isS ts p.1 σ with
  | none => rw [hf] at h; simp at h; omega
  | some p =>
    rw [hf] at h
    have hp := of_decide_eq_true (List.all_eq_true.1 lv_all p (List.mem_of_find?_eq_some hf))
    have e : p.2.1 = (n : Int) := h
    refine ⟨p.1, by simpa using List.find?_some hf, ?_, hp.2⟩
    have := hp.1
    rwa [e, Int.toNat_natCast] at this
theorem level_no {ts : List Tok} {σ : RS} {n : Nat} (h1 : 1 ≤ n) (h5 : n ≤ 5) (h : (levelS ts σ).1 ≠ (n : Int)) : fitsB ts (lvL n) σ = false := by
  cases hb : fitsB ts (lvL n) σ with
  | false => rfl
  | true =>
    exfalso
    unfold fitsB at hb
    obtain ⟨s, hs, hi⟩ := List.any_eq_true.1 hb
    have htx := isS_tx hi
    obtain ⟨q, hq, hqs⟩ := List.any_eq_true.1 (List.all_eq_true.1 (List.all_eq_true.1 lv_in n (lv_mem h1 h5)) s hs)
    have hqs := of_decide_eq_true hqs
    apply h
    unfold levelS levelIn
    cases hf : levelsL.find? fun p => isS ts p.1 σ with
    | none =>
      have := List.find?_eq_none.1 hf q hq
      rw [hqs] at this
      exact absurd hi this
    | some p =>
      have hp := List.find?_some hf
      have htp := isS_tx (by simpa using hp)
      have h2 := List.all_eq_true.1 (List.all_eq_true.1 (List.all_eq_true.1 lv_one n (lv_mem h1 h5)) s hs) p (List.mem_of_find?_eq_some hf)
      rw [← htp, htx] at h2
      simpa using h2
/-- what chain's loop keeps: the expression, whether there may be more -/
def ChI (ts : List Tok) (xb : Nat → Prop) (b g cap : Nat) (dv : Value) (least f : Nat) (R : Int × List Int × RS) (W : World) (n : Nat) (x : Value × Value × World) : Prop :=
  ∃ (a : Int) (m : Bool) (σ : RS), x.1 = .int .i64 a ∧ x.2.1 = .bool m ∧ Cd x.2.2 b g cap dv ts xb σ ∧ σ.code = 0 ∧ RX b xb W x.2.2 ∧ ((m = true ∧ n ≤ f ∧ 1 ≤ n ∧ runE ts n (.loop least a) σ = some R) ∨ (m = false ∧ n = 0 ∧ R = (a, [], σ)))
set_option maxHeartbeats 8000000 in
theorem chain_any (b g cap : Nat) (dv : Value) (ts : List Tok) (xb : Nat → Prop) (f : Nat) (least : Nat) (h1 : 1 ≤ least) (h5 : least ≤ 5) (h3 : least ≠ 3) (F : Nat) (k n : Nat) (hF : ∀ args w, (callFunc F args).run Tryz.prog w = .ok (.enter F args) w)
    (IH : Hid (∀ σ v l τ, σ.code = 0 → runE ts f (.bin (least + 1)) σ = some (v, l, τ) → ∀ W, Hid (Cd W b g cap dv ts xb σ) → Calls Tryz.prog F #[.pointer (some ⟨b, 0, none⟩)] W fun r Y => CdRet b g cap dv ts xb W (.int .i64 v) τ r Y))
    (σ σ1 : RS) (hc : σ.code = 0) (a0 : Int) (la : List Int) (R : Int × List Int × RS)
    (ha : Hid (runE ts f (.bin (least + 1)) σ = some (a0, la, σ1))) (hl : Hid (runE ts f (.loop least a0) σ1 = some R)) (W : World) (h : Hid (Cd W b g cap dv ts xb σ)) (hn : Hid (n = (lvL least).length)) (hn9 : (n : Int) ≤ 9) (hkb : k ≠ b) (hk : Hid (W.heap[k]? = some (.cells ((lvL least).map fun s => Value.string (str s)).toArray 9 (0, 0)))) :
    Calls Tryz.prog 77 #[.pointer (some ⟨b, 0, none⟩), .func (.func F) #[.pointer (some ⟨b, 0, none⟩)] #[], .slice (some ⟨k, 0, none⟩) n n] W fun r Y => CdRet b g cap dv ts xb W (.int .i64 R.1) R.2.2 r Y := by
  have C0 := Lib.hid (IH.out σ a0 la σ1 hc ha.out W h)
  have HST := Lib.hid (stuck ts f (.loop least a0) σ1 R hl.out)
  have HKB := Lib.hid hkb
  have H135 := Lib.hid (show _ ∧ _ ∧ _ from ⟨h1, h5, h3⟩)
  have hbs := h.out.size
  clear hkb h1 h5 h3 hc
  by_cases h0 : σ1.code = 0
  · have C1 := Lib.hid (C0.out.mono fun r Y hh => hh.ok h0)
    have H0 := Lib.hid h0
    obtain ⟨m, hm⟩ := least_of (ChI ts xb b g cap dv least f R W)
    have HM := Lib.hid hm
    clear C0 h0 hm
    go_enter Tryz.func77, Tryz.ntmps77
    go_wp2_with ((with_reducible refine C1.out.mono ?_); rintro e w1 ⟨rfl, hr, hk1⟩)
    go_loopw [7, 8] (fun i j wr => ∃ (a : Int) (m : Bool), i = .int .i64 a ∧ j = .bool m ∧ Hid (∃ n, ChI ts xb b g cap dv least f R W n (i, j, wr))) (fun i j wr => m (i, j, wr))
    case atStart =>
      refine ⟨a0, true, rfl, rfl, Lib.hid ⟨f, a0, true, σ1, rfl, rfl, hr.out, H0.out, hk1.out, .inl ⟨rfl, Nat.le_refl _, ?_, hl.out⟩⟩⟩
      cases f with
      | zero => have := hl.out; cases this
      | succ f => omega
    case round =>
      obtain ⟨av, mv, rfl, rfl, hI⟩ := hrel
      obtain ⟨hm1, hm2⟩ := HM.out _ hI.out
      obtain ⟨a', m', τ, e1, e2, hcd, hcode, hrx, hor⟩ := hm1
      have e : av = a' := by injection e1
      subst e
      have e : mv = m' := by injection e2
      subst e
      obtain ⟨nn, hmn⟩ : ∃ nn, nn = m (.int .i64 av, .bool mv, wr) := ⟨_, rfl⟩
      rw [← hmn] at hor
      have HCD := Lib.hid hcd
      have HCO := Lib.hid hcode
      have HRX := Lib.hid hrx
      have HMN := Lib.hid hmn
      have HSK := Lib.hid (strs_of (hrx.keep k _ hk.out HKB.out noex_str))
      clear hcd hcode hrx hmn hm2 hI e1 e2
      cases mv with
      | false =>
        have HE : Hid (R = (av, [], τ)) := Lib.hid (by
          rcases hor with ⟨h0, _⟩ | ⟨_, _, h0⟩
          · cases h0
          · exact h0)
        clear hor
        go_wp2_with fail
        go_ret
        rw [HE.out]
        exact ⟨HRX.out, .inl ⟨HCO.out, rfl, HCD.out⟩⟩
      | true =>
        have HO : Hid (nn ≤ f ∧ 1 ≤ nn ∧ runE ts nn (.loop least av) τ = some R) := Lib.hid (by
          rcases hor with ⟨_, h0⟩ | ⟨h0, _⟩
          · exact h0
          · cases h0)
        clear hor
        obtain ⟨kk, hkk, hcase⟩ := loop_cases HO.out.2.2
        have HKK := Lib.hid hkk
        by_cases hle : (levelS ts τ).1 = (least : Int)
        · obtain ⟨s, hs1, hs2, hs3⟩ := level_yes H135.out.1 hle
          have HREST : Hid (∃ bv lb y, runE ts kk (.bin (least + 1)) (stepS τ) = some (bv, lb, y) ∧ okS y = true ∧ runE ts kk (.loop least (y.exprs.length : Int)) (putS (twoE (levelS ts τ).2 av bv (tokL ts τ.at_).at_) y) = some R) := Lib.hid (by
            rcases hcase with ⟨h0, _⟩ | ⟨_, h0, _⟩ | ⟨_, _, bv, lb, y, r1, r2, h0⟩
            · exact absurd HCO.out h0
            · exact absurd hle h0
            · rcases h0 with ⟨h0, _⟩ | ⟨_, h0⟩
              · exact absurd h0 H135.out.2.2
              · exact ⟨bv, lb, y, r1, r2, h0⟩)
          obtain ⟨bv, lb, y, r1, r2, r3⟩ := HREST.out
          have PY := Lib.hid (pair_yes b g cap dv ts xb τ av F k n (lvL least) wr HCD HCO.out (lv_sgL H135.out.1 H135.out.2.1) hn.out hn9 HSK s (levelS ts τ).2 hs1 hs2 hs3 hF bv y r2 fun W h => IH.out (stepS τ) bv lb y HCO.out (runE_le (by have := HO.out.1; have := HKK.out; omega) _ _ _ r1) W h)
          have HR3 := Lib.hid r3
          obtain ⟨x, hx⟩ : ∃ x, x = putS (twoE (levelS ts τ).2 av bv (tokL ts τ.at_).at_) y := ⟨_, rfl⟩
          rw [← hx] at PY HR3
          have HYC : Hid (x.code = y.code) := Lib.hid (by rw [hx]; rfl)
          obtain ⟨ln, hln⟩ : ∃ ln, ln = (y.exprs.length : Int) := ⟨_, rfl⟩
          rw [← hln] at PY HR3
          clear hs1 hs2 hs3 r1 r2 r3 hx hln hcase hle HREST hkk
          by_cases hxc : x.code = 0
          · have PZ := Lib.hid (PY.out.mono fun r Y hh => hh.ok hxc)
            have HXC := Lib.hid hxc
            clear PY hxc
            go_wp2_with (go_at_call 51; (with_reducible refine PZ.out.mono ?_); rintro e w2 ⟨rfl, hr2, hk2⟩)
            have HI : ChI ts xb b g cap dv least f R W kk (.int .i64 ln, .bool true, w2) := ⟨_, _, _, rfl, rfl, hr2.out, HXC.out, HRX.out.trans hk2.out, .inl ⟨rfl, by have := HO.out.1; have := HKK.out; omega, by
              cases kk with
              | zero => have := HR3.out; cases this
              | succ kk => omega, HR3.out⟩⟩
            exact ⟨⟨_, _, rfl, rfl, Lib.hid ⟨kk, HI⟩⟩, by have h5 := (HM.out _ ⟨kk, HI⟩).2 kk HI; have h6 := HMN.out; have h7 := HKK.out; omega⟩
          · have PZ := Lib.hid (PY.out.mono fun r Y hh => hh.bad hxc)
            have HXC := Lib.hid hxc
            have HS2 := Lib.hid (stuck ts kk (.loop least ln) x R HR3.out)
            clear PY hxc
            go_wp2_with (go_at_call 51; (with_reducible refine PZ.out.mono ?_); rintro e w2 ⟨rfl, hk2⟩)
            exact ⟨rfl, CdBad.ret (v := .int .i64 R.1) (g := g) (cap := cap) (dv := dv) (ts := ts) ⟨rfl, Lib.hid (HRX.out.trans hk2.out)⟩ HXC.out HS2.out⟩
        · have HE : Hid (R = (av, [], τ)) := Lib.hid (by
            rcases hcase with ⟨h0, _⟩ | ⟨_, _, h0⟩ | ⟨_, h0, _⟩
            · exact absurd HCO.out h0
            · exact h0
            · exact absurd h0 hle)
          have PN := Lib.hid (pair_no b g cap dv ts xb τ av (.func (.func F) #[.pointer (some ⟨b, 0, none⟩)] #[]) k n (lvL least) wr HCD HCO.out (lv_sgL H135.out.1 H135.out.2.1) hn.out hn9 HSK (level_no H135.out.1 H135.out.2.1 hle))
          clear hcase hle hkk
          go_wp2_with (go_at_call 51; (with_reducible refine PN.out.mono ?_); rintro e w2 ⟨rfl, hw2⟩; obtain rfl := hw2.symm)
          have HI : ChI ts xb b g cap dv least f R W 0 (.int .i64 av, .bool false, wr) := ⟨_, _, _, rfl, rfl, HCD.out, HCO.out, HRX.out, .inr ⟨rfl, rfl, HE.out⟩⟩
          exact ⟨⟨_, _, rfl, rfl, Lib.hid ⟨0, HI⟩⟩, by have h5 := (HM.out _ ⟨0, HI⟩).2 0 HI; have h6 := HMN.out; have h7 := HO.out.2.1; omega⟩
  · have C1 := Lib.hid (C0.out.mono fun r Y hh => hh.bad h0)
    have H0 := Lib.hid h0
    clear C0 h0
    go_enter Tryz.func77, Tryz.ntmps77
    go_wp2_with ((with_reducible refine C1.out.mono ?_); rintro e w1 ⟨rfl, hk1⟩)
    exact ⟨rfl, CdBad.ret (v := .int .i64 R.1) (g := g) (cap := cap) (dv := dv) (ts := ts) ⟨rfl, hk1⟩ H0.out HST.out⟩
end Go.Proofs.YtlbhlncipajapaaGreatDoor
namespace Go.Proofs.YtlbhlncipajapaaGreatDoor
open Go.RowKit Lx
set_option linter.unusedVariables false

theorem bin_cases {ts : List Tok} {f least : Nat} (h5 : least ≤ 5) {σ : RS} {R : Int × List Int × RS} (h : runE ts (f + 1) (.bin least) σ = some R) : ∃ a la σ1, runE ts f (.bin (least + 1)) σ = some (a, la, σ1) ∧ runE ts f (.loop least a) σ1 = some R := by
  simp only [runE] at h
  split at h
  · unfold binG at h
    rw [if_neg (by omega)] at h
    obtain ⟨a, h1, h2⟩ := bind_some' h
    exact ⟨a.1, a.2.1, a.2.2, h1, h2⟩
  · cases h
/-- a rule's contract, for a job -/
def RuleC (b g cap : Nat) (dv : Value) (ts : List Tok) (xb : Nat → Prop) (F : Nat) (f : Nat) (j : Job) : Prop := ∀ σ v l τ, σ.code = 0 → runE ts f j σ = some (v, l, τ) → ∀ W, Hid (Cd W b g cap dv ts xb σ) → Calls Tryz.prog F #[.pointer (some ⟨b, 0, none⟩)] W fun r Y => CdRet b g cap dv ts xb W (.int .i64 v) τ r Y
theorem runF (fn : Fn) (first cap : Array Value) (w : World) : (Instr.makeFunc fn first cap).run Tryz.prog w = .ok (.func fn first cap) w := rfl
theorem enters_and : ∀ args w, (callFunc 78 args).run Tryz.prog w = .ok (.enter 78 args) w := enters_of Tryz.func78 (by kernel_rfl) rfl
theorem enters_rel : ∀ args w, (callFunc 92 args).run Tryz.prog w = .ok (.enter 92 args) w := enters_of Tryz.func92 (by kernel_rfl) rfl
theorem enters_sum : ∀ args w, (callFunc 105 args).run Tryz.prog w = .ok (.enter 105 args) w := enters_of Tryz.func105 (by kernel_rfl) rfl
theorem enters_term : ∀ args w, (callFunc 115 args).run Tryz.prog w = .ok (.enter 115 args) w := enters_of Tryz.func115 (by kernel_rfl) rfl
theorem enters_prefix : ∀ args w, (callFunc 119 args).run Tryz.prog w = .ok (.enter 119 args) w := enters_of Tryz.func119 (by kernel_rfl) rfl
theorem enters_expr : ∀ args w, (callFunc 26 args).run Tryz.prog w = .ok (.enter 26 args) w := enters_of Tryz.func26 (by kernel_rfl) rfl
theorem enters_name : ∀ args w, (callFunc 63 args).run Tryz.prog w = .ok (.enter 63 args) w := enters_of Tryz.func63 (by kernel_rfl) rfl
theorem enters_types : ∀ args w, (callFunc 66 args).run Tryz.prog w = .ok (.enter 66 args) w := enters_of Tryz.func66 (by kernel_rfl) rfl
theorem enters_lets : ∀ args w, (callFunc 69 args).run Tryz.prog w = .ok (.enter 69 args) w := enters_of Tryz.func69 (by kernel_rfl) rfl
theorem enters_items : ∀ args w, (callFunc 70 args).run Tryz.prog w = .ok (.enter 70 args) w := enters_of Tryz.func70 (by kernel_rfl) rfl
theorem enters_states : ∀ args w, (callFunc 104 args).run Tryz.prog w = .ok (.enter 104 args) w := enters_of Tryz.func104 (by kernel_rfl) rfl
set_option maxHeartbeats 4000000 in
theorem or_rule (b g cap : Nat) (dv : Value) (ts : List Tok) (xb : Nat → Prop) (f : Nat) (IH : RuleC b g cap dv ts xb 78 f (.bin (1 + 1))) : RuleC b g cap dv ts xb 52 (f + 1) (.bin 1) := by
  intro σ v l τ hc hr W h
  obtain ⟨a, la, σ1, ha, hl⟩ := bin_cases (by decide) hr
  obtain ⟨W1, hW1⟩ : ∃ W1, W1 = W.alloc (.cells #[.string ⟨#[111, 114]⟩] 9) := ⟨_, rfl⟩
  have hb1 : Below W.heap.size W W1 := by rw [hW1]; exact (Below.refl _ _).alloc (Nat.le_refl _) _
  have hbs := h.out.size
  have C := Lib.hid (chain_any b g cap dv ts xb f 1 (by decide) (by decide) (by decide) 78 W.heap.size 1 enters_and (Lib.hid IH) σ σ1 hc a la (v, l, τ) (Lib.hid ha) (Lib.hid hl) W1 (Lib.hid (h.out.below hb1)) (Lib.hid rfl) (by decide) (by omega) (Lib.hid (by rw [hW1]; exact heap_alloc_new W _)))
  have HB := Lib.hid (RX.of_below (xb := xb) hb1 (Nat.le_of_lt hbs) h.out.xlt)
  have MF := runF
  clear ha hl hr hb1
  by_cases h0 : τ.code = 0
  · have C1 := Lib.hid (C.out.mono fun r Y hh => hh.ok h0)
    have H0 := Lib.hid h0
    clear C h0 hc
    go_enter Tryz.func52, Tryz.ntmps52
    go_wp2_with (go_at_call 77; rw [← hW1]; clear hW1; (with_reducible refine C1.out.mono ?_); rintro e w2 ⟨rfl, hr, hk⟩)
    go_ret
    exact ⟨HB.out.trans hk.out, .inl ⟨H0.out, rfl, hr.out⟩⟩
  · have C1 := Lib.hid (C.out.mono fun r Y hh => hh.bad h0)
    have H0 := Lib.hid h0
    clear C h0 hc
    go_enter Tryz.func52, Tryz.ntmps52
    go_wp2_with (go_at_call 77; rw [← hW1]; clear hW1; (with_reducible refine C1.out.mono ?_); rintro e w2 ⟨rfl, hk⟩)
    exact ⟨rfl, HB.out.trans hk.out, .inr ⟨H0.out, rfl⟩⟩
set_option maxHeartbeats 4000000 in
theorem and_rule (b g cap : Nat) (dv : Value) (ts : List Tok) (xb : Nat → Prop) (f : Nat) (IH : RuleC b g cap dv ts xb 92 f (.bin (2 + 1))) : RuleC b g cap dv ts xb 78 (f + 1) (.bin 2) := by
  intro σ v l τ hc hr W h
  obtain ⟨a, la, σ1, ha, hl⟩ := bin_cases (by decide) hr
  obtain ⟨W1, hW1⟩ : ∃ W1, W1 = W.alloc (.cells #[.string ⟨#[97, 110, 100]⟩] 9) := ⟨_, rfl⟩
  have hb1 : Below W.heap.size W W1 := by rw [hW1]; exact (Below.refl _ _).alloc (Nat.le_refl _) _
  have hbs := h.out.size
  have C := Lib.hid (chain_any b g cap dv ts xb f 2 (by decide) (by decide) (by decide) 92 W.heap.size 1 enters_rel (Lib.hid IH) σ σ1 hc a la (v, l, τ) (Lib.hid ha) (Lib.hid hl) W1 (Lib.hid (h.out.below hb1)) (Lib.hid rfl) (by decide) (by omega) (Lib.hid (by rw [hW1]; exact heap_alloc_new W _)))
  have HB := Lib.hid (RX.of_below (xb := xb) hb1 (Nat.le_of_lt hbs) h.out.xlt)
  have MF := runF
  clear ha hl hr hb1
  by_cases h0 : τ.code = 0
  · have C1 := Lib.hid (C.out.mono fun r Y hh => hh.ok h0)
    have H0 := Lib.hid h0
    clear C h0 hc
    go_enter Tryz.func78, Tryz.ntmps78
    go_wp2_with (go_at_call 77; rw [← hW1]; clear hW1; (with_reducible refine C1.out.mono ?_); rintro e w2 ⟨rfl, hr, hk⟩)
    go_ret
    exact ⟨HB.out.trans hk.out, .inl ⟨H0.out, rfl, hr.out⟩⟩
  · have C1 := Lib.hid (C.out.mono fun r Y hh => hh.bad h0)
    have H0 := Lib.hid h0
    clear C h0 hc
    go_enter Tryz.func78, Tryz.ntmps78
    go_wp2_with (go_at_call 77; rw [← hW1]; clear hW1; (with_reducible refine C1.out.mono ?_); rintro e w2 ⟨rfl, hk⟩)
    exact ⟨rfl, HB.out.trans hk.out, .inr ⟨H0.out, rfl⟩⟩
set_option maxHeartbeats 4000000 in
theorem sum_rule (b g cap : Nat) (dv : Value) (ts : List Tok) (xb : Nat → Prop) (f : Nat) (IH : RuleC b g cap dv ts xb 115 f (.bin (4 + 1))) : RuleC b g cap dv ts xb 105 (f + 1) (.bin 4) := by
  intro σ v l τ hc hr W h
  obtain ⟨a, la, σ1, ha, hl⟩ := bin_cases (by decide) hr
  obtain ⟨W1, hW1⟩ : ∃ W1, W1 = W.alloc (.cells #[.string ⟨#[43]⟩, .string ⟨#[45]⟩] 9) := ⟨_, rfl⟩
  have hb1 : Below W.heap.size W W1 := by rw [hW1]; exact (Below.refl _ _).alloc (Nat.le_refl _) _
  have hbs := h.out.size
  have C := Lib.hid (chain_any b g cap dv ts xb f 4 (by decide) (by decide) (by decide) 115 W.heap.size 2 enters_term (Lib.hid IH) σ σ1 hc a la (v, l, τ) (Lib.hid ha) (Lib.hid hl) W1 (Lib.hid (h.out.below hb1)) (Lib.hid rfl) (by decide) (by omega) (Lib.hid (by rw [hW1]; exact heap_alloc_new W _)))
  have HB := Lib.hid (RX.of_below (xb := xb) hb1 (Nat.le_of_lt hbs) h.out.xlt)
  have MF := runF
  clear ha hl hr hb1
  by_cases h0 : τ.code = 0
  · have C1 := Lib.hid (C.out.mono fun r Y hh => hh.ok h0)
    have H0 := Lib.hid h0
    clear C h0 hc
    go_enter Tryz.func105, Tryz.ntmps105
    go_wp2_with (go_at_call 77; rw [← hW1]; clear hW1; (with_reducible refine C1.out.mono ?_); rintro e w2 ⟨rfl, hr, hk⟩)
    go_ret
    exact ⟨HB.out.trans hk.out, .inl ⟨H0.out, rfl, hr.out⟩⟩
  · have C1 := Lib.hid (C.out.mono fun r Y hh => hh.bad h0)
    have H0 := Lib.hid h0
    clear C h0 hc
    go_enter Tryz.func105, Tryz.ntmps105
    go_wp2_with (go_at_call 77; rw [← hW1]; clear hW1; (with_reducible refine C1.out.mono ?_); rintro e w2 ⟨rfl, hk⟩)
    exact ⟨rfl, HB.out.trans hk.out, .inr ⟨H0.out, rfl⟩⟩
set_option maxHeartbeats 4000000 in
theorem term_rule (b g cap : Nat) (dv : Value) (ts : List Tok) (xb : Nat → Prop) (f : Nat) (IH : RuleC b g cap dv ts xb 119 f (.bin (5 + 1))) : RuleC b g cap dv ts xb 115 (f + 1) (.bin 5) := by
  intro σ v l τ hc hr W h
  obtain ⟨a, la, σ1, ha, hl⟩ := bin_cases (by decide) hr
  obtain ⟨W1, hW1⟩ : ∃ W1, W1 = W.alloc (.cells #[.string ⟨#[42]⟩, .string ⟨#[47]⟩] 9) := ⟨_, rfl⟩
  have hb1 : Below W.heap.size W W1 := by rw [hW1]; exact (Below.refl _ _).alloc (Nat.le_refl _) _
  have hbs := h.out.size
  have C := Lib.hid (chain_any b g cap dv ts xb f 5 (by decide) (by decide) (by decide) 119 W.heap.size 2 enters_prefix (Lib.hid IH) σ σ1 hc a la (v, l, τ) (Lib.hid ha) (Lib.hid hl) W1 (Lib.hid (h.out.below hb1)) (Lib.hid rfl) (by decide) (by omega) (Lib.hid (by rw [hW1]; exact heap_alloc_new W _)))
  have HB := Lib.hid (RX.of_below (xb := xb) hb1 (Nat.le_of_lt hbs) h.out.xlt)
  have MF := runF
  clear ha hl hr hb1
  by_cases h0 : τ.code = 0
  · have C1 := Lib.hid (C.out.mono fun r Y hh => hh.ok h0)
    have H0 := Lib.hid h0
    clear C h0 hc
    go_enter Tryz.func115, Tryz.ntmps115
    go_wp2_with (go_at_call 77; rw [← hW1]; clear hW1; (with_reducible refine C1.out.mono ?_); rintro e w2 ⟨rfl, hr, hk⟩)
    go_ret
    exact ⟨HB.out.trans hk.out, .inl ⟨H0.out, rfl, hr.out⟩⟩
  · have C1 := Lib.hid (C.out.mono fun r Y hh => hh.bad h0)
    have H0 := Lib.hid h0
    clear C h0 hc
    go_enter Tryz.func115, Tryz.ntmps115
    go_wp2_with (go_at_call 77; rw [← hW1]; clear hW1; (with_reducible refine C1.out.mono ?_); rintro e w2 ⟨rfl, hk⟩)
    exact ⟨rfl, HB.out.trans hk.out, .inr ⟨H0.out, rfl⟩⟩
set_option maxHeartbeats 8000000 in
theorem rel_rule (b g cap : Nat) (dv : Value) (ts : List Tok) (xb : Nat → Prop) (f : Nat) (IH : RuleC b g cap dv ts xb 105 f (.bin (3 + 1))) : RuleC b g cap dv ts xb 92 (f + 1) (.bin 3) := by
  intro σ v l τ hc hr W h
  obtain ⟨a, la, σ1, ha, hl⟩ := bin_cases (by decide) hr
  have HST := Lib.hid (stuck ts f (.loop 3 a) σ1 _ hl)
  have C0 := Lib.hid (IH σ a la σ1 hc ha W h)
  have HL := Lib.hid hl
  have MF := runF
  have SN : Hid (∀ w : World, StrsIn (w.alloc (.cells #[.string ⟨#[60]⟩, .string ⟨#[60, 61]⟩, .string ⟨#[61, 61]⟩] 9)) w.heap.size (lvL 3)) := Lib.hid fun w => strs_new w (lvL 3) _
  have hbs := h.out.size
  clear ha hl hr hc
  by_cases h0 : σ1.code = 0
  · have C1 := Lib.hid (C0.out.mono fun r Y hh => hh.ok h0)
    have H0 := Lib.hid h0
    clear C0 h0
    obtain ⟨m, hm, hcase⟩ := loop_cases HL.out
    have HMM := Lib.hid hm
    by_cases hle : (levelS ts σ1).1 = ((3 : Nat) : Int)
    · obtain ⟨s, hs1, hs2, hs3⟩ := level_yes (by decide) hle
      have HREST : Hid (∃ bv lb y, runE ts m (.bin (3 + 1)) (stepS σ1) = some (bv, lb, y) ∧ okS y = true ∧ ((v, l, τ) : Int × List Int × RS) = ((y.exprs.length : Int), [], putS (twoE (levelS ts σ1).2 a bv (tokL ts σ1.at_).at_) y)) := Lib.hid (by
        rcases hcase with ⟨h0, _⟩ | ⟨_, h0, _⟩ | ⟨_, _, bv, lb, y, r1, r2, h0⟩
        · exact absurd H0.out h0
        · exact absurd hle h0
        · rcases h0 with ⟨_, h0⟩ | ⟨h0, _⟩
          · exact ⟨bv, lb, y, r1, r2, h0⟩
          · exact absurd rfl h0)
      obtain ⟨bv, lb, y, r1, r2, r3⟩ := HREST.out
      injection r3 with r3 r4
      injection r4 with r4 r5
      have PY : Hid (∀ w k, Hid (Cd w b g cap dv ts xb σ1) → Hid (StrsIn w k (lvL 3)) → Calls Tryz.prog 51 #[.pointer (some ⟨b, 0, none⟩), .int .i64 a, .func (.func 105) #[.pointer (some ⟨b, 0, none⟩)] #[], .slice (some ⟨k, 0, none⟩) 3 3] w fun r Y => CdRet b g cap dv ts xb w (.tuple #[.int .i64 v, .bool true]) τ r Y) := Lib.hid fun w k h hk => by
        rw [r3, r5]
        exact pair_yes b g cap dv ts xb σ1 a 105 k 3 (lvL 3) w h H0.out (lv_sgL (by decide) (by decide)) rfl (by decide) hk s (levelS ts σ1).2 hs1 hs2 hs3 enters_sum bv y r2 fun W h => IH (stepS σ1) bv lb y H0.out (runE_le (by have := HMM.out; omega) _ _ _ r1) W h
      clear hcase r1 r2 r3 r4 r5 hs1 hs2 hs3 HREST hle hm
      by_cases ht : τ.code = 0
      · have PZ : Hid (∀ w k, Hid (Cd w b g cap dv ts xb σ1) → Hid (StrsIn w k (lvL 3)) → Calls Tryz.prog 51 #[.pointer (some ⟨b, 0, none⟩), .int .i64 a, .func (.func 105) #[.pointer (some ⟨b, 0, none⟩)] #[], .slice (some ⟨k, 0, none⟩) 3 3] w fun r Y => CdOk b g cap dv ts xb w (.tuple #[.int .i64 v, .bool true]) τ r Y) := Lib.hid fun w k h hk => (PY.out w k h hk).mono fun r Y hh => hh.ok ht
        have HT := Lib.hid ht
        clear PY ht
        go_enter Tryz.func92, Tryz.ntmps92
        go_wp2_with (first
          | (go_at_call 105; (with_reducible refine C1.out.mono ?_); rintro e w1 ⟨rfl, hr, hk⟩; have HBX := Lib.hid ((Below.refl w1.heap.size w1).alloc (Nat.le_refl _) (.cells #[.string ⟨#[60]⟩, .string ⟨#[60, 61]⟩, .string ⟨#[61, 61]⟩] 9)))
          | (go_at_call 51; (with_reducible refine (PZ.out _ _ (Lib.hid (hr.out.below HBX.out)) (Lib.hid (SN.out w1))).mono ?_); rintro e w2 ⟨rfl, hr2, hk2⟩))
        go_ret
        exact ⟨hk.out.trans ((RX.of_below HBX.out (Nat.le_of_lt hr.out.size) hr.out.xlt).trans hk2.out), .inl ⟨HT.out, rfl, hr2.out⟩⟩
      · have PZ : Hid (∀ w k, Hid (Cd w b g cap dv ts xb σ1) → Hid (StrsIn w k (lvL 3)) → Calls Tryz.prog 51 #[.pointer (some ⟨b, 0, none⟩), .int .i64 a, .func (.func 105) #[.pointer (some ⟨b, 0, none⟩)] #[], .slice (some ⟨k, 0, none⟩) 3 3] w fun r Y => CdBad b xb w τ.code τ.pos r Y) := Lib.hid fun w k h hk => (PY.out w k h hk).mono fun r Y hh => hh.bad ht
        have HT := Lib.hid ht
        clear PY ht
        go_enter Tryz.func92, Tryz.ntmps92
        go_wp2_with (first
          | (go_at_call 105; (with_reducible refine C1.out.mono ?_); rintro e w1 ⟨rfl, hr, hk⟩; have HBX := Lib.hid ((Below.refl w1.heap.size w1).alloc (Nat.le_refl _) (.cells #[.string ⟨#[60]⟩, .string ⟨#[60, 61]⟩, .string ⟨#[61, 61]⟩] 9)))
          | (go_at_call 51; (with_reducible refine (PZ.out _ _ (Lib.hid (hr.out.below HBX.out)) (Lib.hid (SN.out w1))).mono ?_); rintro e w2 ⟨rfl, hk2⟩))
        exact ⟨rfl, hk.out.trans ((RX.of_below HBX.out (Nat.le_of_lt hr.out.size) hr.out.xlt).trans hk2.out), .inr ⟨HT.out, rfl⟩⟩
    · have HE : Hid (((v, l, τ) : Int × List Int × RS) = (a, [], σ1)) := Lib.hid (by
        rcases hcase with ⟨h0, _⟩ | ⟨_, _, h0⟩ | ⟨_, h0, _⟩
        · exact absurd H0.out h0
        · exact h0
        · exact absurd h0 hle)
      have PN : Hid (∀ w k, Hid (Cd w b g cap dv ts xb σ1) → Hid (StrsIn w k (lvL 3)) → Calls Tryz.prog 51 #[.pointer (some ⟨b, 0, none⟩), .int .i64 a, .func (.func 105) #[.pointer (some ⟨b, 0, none⟩)] #[], .slice (some ⟨k, 0, none⟩) 3 3] w fun r Y => r = .returned (.tuple #[.int .i64 a, .bool false]) ∧ Y = w) := Lib.hid fun w k h hk =>
        pair_no b g cap dv ts xb σ1 a _ k 3 (lvL 3) w h H0.out (lv_sgL (by decide) (by decide)) rfl (by decide) hk (level_no (by decide) (by decide) hle)
      clear hcase hle hm
      go_enter Tryz.func92, Tryz.ntmps92
      go_wp2_with (first
        | (go_at_call 105; (with_reducible refine C1.out.mono ?_); rintro e w1 ⟨rfl, hr, hk⟩; have HBX := Lib.hid ((Below.refl w1.heap.size w1).alloc (Nat.le_refl _) (.cells #[.string ⟨#[60]⟩, .string ⟨#[60, 61]⟩, .string ⟨#[61, 61]⟩] 9)))
        | (go_at_call 51; (with_reducible refine (PN.out _ _ (Lib.hid (hr.out.below HBX.out)) (Lib.hid (SN.out w1))).mono ?_); rintro e w2 ⟨rfl, rfl⟩))
      go_ret
      have HE' := HE.out
      injection HE' with e1 e2
      injection e2 with e2 e3
      rw [e1, e3]
      exact ⟨hk.out.trans (RX.of_below HBX.out (Nat.le_of_lt hr.out.size) hr.out.xlt), .inl ⟨H0.out, rfl, hr.out.below HBX.out⟩⟩
  · have C1 := Lib.hid (C0.out.mono fun r Y hh => hh.bad h0)
    have H0 := Lib.hid h0
    clear C0 h0
    go_enter Tryz.func92, Tryz.ntmps92
    go_wp2_with (go_at_call 105; (with_reducible refine C1.out.mono ?_); rintro e w1 ⟨rfl, hk⟩)
    exact ⟨rfl, CdBad.ret (v := .int .i64 v) (g := g) (cap := cap) (dv := dv) (ts := ts) ⟨rfl, hk⟩ H0.out HST.out⟩
end Go.Proofs.YtlbhlncipajapaaGreatDoor
