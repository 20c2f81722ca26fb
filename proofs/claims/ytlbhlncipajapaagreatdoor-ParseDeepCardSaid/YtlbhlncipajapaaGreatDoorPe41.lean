/- Joined: RgRun2, CdExprAll, CdAlX, RgOwn, PxAlive. -/
import Derived.Test.YtlbhlncipajapaaGreatDoorPe40
import Derived.Test.YtlbhlncipajapaaGreatDoorPe38
import Derived.Test.YtlbhlncipajapaaGreatDoorPe39
import Derived.Test.YtlbhlncipajapaaGreatDoorPe27
import Derived.Test.YtlbhlncipajapaaGreatDoorPe26
import Derived.Test.YtlbhlncipajapaaGreatDoorPe24
namespace Go.Proofs.YtlbhlncipajapaaGreatDoor
open Lx
set_option linter.unusedVariables false

def exprS' (ts : List Tok) (f : Nat) (σ : RS) : Option (Int × RS) := (runE ts f .expr σ).map fun r => (r.1, r.2.2)
theorem prefixK_some {ts : List Tok} {σ : RS} (h : prefixK ts σ prefixL ≠ 0) : ∃ s, isS ts s σ = true ∧ (prefixK ts σ prefixL = 4 ∨ prefixK ts σ prefixL = 5 ∨ prefixK ts σ prefixL = 16 ∨ prefixK ts σ prefixL = 21) := by
  unfold prefixK at h ⊢
  cases hf : prefixL.find? fun p => isS ts p.1 σ with
  | none => rw [hf] at h; exact absurd rfl h
  | some p =>
    have h1 := List.find?_some hf
    have h2 := List.mem_of_find?_eq_some hf
    refine ⟨p.1, h1, ?_⟩
    unfold prefixL at h2
    simp only [List.mem_cons, List.not_mem_nil, or_false] at h2
    rcases h2 with rfl | rfl | rfl | rfl <;> simp
theorem levelS_some {ts : List Tok} {σ : RS} {n : Nat} (hn : 1 ≤ n) (h : (levelS ts σ).1 = (n : Int)) : ∃ s, isS ts s σ = true ∧ 6 ≤ (levelS ts σ).2 ∧ (levelS ts σ).2 ≤ 14 := by
  unfold levelS levelIn at h ⊢
  cases hf : levelsL.find? fun p => isS ts p.1 σ with
  | none => rw [hf] at h; dsimp only at h; omega
  | some p =>
    have h1 := List.find?_some hf
    have h2 := List.mem_of_find?_eq_some hf
    refine ⟨p.1, h1, ?_⟩
    unfold levelsL at h2
    simp only [List.mem_cons, List.not_mem_nil, or_false] at h2
    rcases h2 with rfl | rfl | rfl | rfl | rfl | rfl | rfl | rfl | rfl <;> simp
theorem tok_get {ts : List Tok} {i : Nat} (h : i < ts.length) : ts[i]? = some (tokL ts i) := by
  unfold tokL; rw [List.getD_eq_getElem?_getD, List.getElem?_eq_getElem h]; rfl
theorem St.small {ts : List Tok} {σ : RS} (h : St ts σ) : σ.exprs.length ≤ 30000 := by have := h.room; have := h.lt; have := h.len; omega
section
variable {ts : List Tok} (he : EndOk ts) (ht : TokOk ts)
include he
theorem tot_pre {σ : RS} (hs : St ts σ) (ih : ∀ j' σ', meas ts j' σ' < meas ts .pre σ → St ts σ' → JobOk σ' j' → Res ts j' σ') : Res ts .pre σ := by
  obtain ⟨ge, gd, ga, gx, gc⟩ := go_enter' (ts := ts) hs.lt
  obtain ⟨x, hx⟩ : ∃ x, x = enterS ts σ := ⟨_, rfl⟩
  rw [← hx] at ge gd ga gx gc
  have hd0 := hs.d0
  have hd30 := hs.d30
  by_cases h0 : x.code = 0
  · have hd := gc h0
    have sx : St ts x := hs.go ge (by omega) (by omega)
    by_cases hk : prefixK ts x prefixL = 0
    · obtain ⟨f1, a, l1, τ, r1, k1, d1, v1⟩ := ih .atom x (meas_deep (by omega) gd hd0 hd30 (by simp [rankJ])) sx h0
      have s1 : St ts τ := sx.go k1 (by omega) (by omega)
      refine ⟨f1 + 1, a, [], leaveS τ, ?_, go_zero ((ge.trans k1).trans (go_leave k1.lt)), by show τ.deep - 1 = σ.deep; omega, leave_ix v1⟩
      rw [runE_go hs.ok]
      simp only [preG]
      rw [← hx, if_pos h0, if_pos hk, runE_le (f := f1) (by omega) _ _ _ r1]
      simp only [Option.bind_some]
      rw [if_pos s1.ok]
    · obtain ⟨s, hi, hkk⟩ := prefixK_some hk
      have g1 := go_step' he sx.lt (isS_kind hi).1
      have s1 : St ts (stepS x) := sx.go g1 (by show 0 ≤ x.deep; omega) (by show x.deep ≤ 30; omega)
      obtain ⟨f1, a, l1, τ, r1, k1, d1, v1⟩ := ih .pre (stepS x) (meas_at (by unfold stepS; simp; omega) hs.lt (by simp [rankJ])) s1 trivial
      have q1 : τ.deep = x.deep := d1
      have s2 : St ts τ := s1.go k1 (by omega) (by omega)
      obtain ⟨X, hX⟩ : ∃ X : Ex, X = { ex0 with kind := prefixK ts x prefixL, a := a, pos := ((tokL ts x.at_).at_ : Int) } := ⟨_, rfl⟩
      have P := ((g1.trans k1).less (m := 0 + 1) (by omega)).put (x := X) fun hz _ => hX ▸ good1 s2.small hkk (v1 hz)
      refine ⟨f1 + 1, (τ.exprs.length : Int), [], leaveS (putS X τ), ?_, go_zero ((ge.trans P).trans (go_leave P.lt)), by show τ.deep - 1 = σ.deep; omega, leave_ix (ix_put X τ)⟩
      rw [runE_go hs.ok]
      simp only [preG]
      rw [← hx, if_pos h0, if_neg hk, runE_le (f := f1) (by omega) _ _ _ r1]
      simp only [Option.bind_some]
      rw [putA_ok s2.ok, hX]
  · refine ⟨1, 0, [], leaveS x, ?_, go_zero (ge.trans (go_leave ge.lt)), by show x.deep - 1 = σ.deep; omega, fun hz => absurd hz h0⟩
    rw [runE_go hs.ok]
    simp only [preG]
    rw [← hx, if_neg h0]
omit he in
theorem tot_bin {least : Nat} {σ : RS} (hs : St ts σ) (h1 : 1 ≤ least) (h6 : least ≤ 6) (ih : ∀ j' σ', meas ts j' σ' < meas ts (.bin least) σ → St ts σ' → JobOk σ' j' → Res ts j' σ') : Res ts (.bin least) σ := by
  have hd0 := hs.d0
  have hd30 := hs.d30
  by_cases h5 : 5 < least
  · obtain ⟨f1, a, l1, τ, r1, k1, d1, v1⟩ := ih .pre σ (meas_rank (Nat.le_refl _) rfl (by simp [rankJ]; omega)) hs trivial
    refine ⟨f1 + 1, a, l1, τ, ?_, k1, d1, v1⟩
    rw [runE_go hs.ok]
    simp only [binG]
    rw [if_pos h5, r1]
  · obtain ⟨f1, a, l1, τ, r1, k1, d1, v1⟩ := ih (.bin (least + 1)) σ (meas_rank (Nat.le_refl _) rfl (by simp [rankJ]; omega)) hs ⟨by omega, by omega⟩
    have s1 : St ts τ := hs.go k1 (by omega) (by omega)
    obtain ⟨f2, c, l2, υ, r2, k2, d2, v2⟩ := ih (.loop least a) τ (meas_rank k1.at_ d1 (by simp [rankJ]; omega)) s1 ⟨h1, by omega, v1⟩
    refine ⟨f1 + f2 + 1, c, l2, υ, ?_, go_zero (k1.trans k2), by omega, v2⟩
    rw [runE_go hs.ok]
    simp only [binG]
    rw [if_neg h5, runE_le (f := f1) (by omega) _ _ _ r1]
    simp only [Option.bind_some]
    rw [runE_le (f := f2) (by omega) _ _ _ r2]
theorem tot_loop {least : Nat} {a : Int} {σ : RS} (hs : St ts σ) (h1 : 1 ≤ least) (h5 : least ≤ 5) (ha : IxOk σ a) (ih : ∀ j' σ', meas ts j' σ' < meas ts (.loop least a) σ → St ts σ' → JobOk σ' j' → Res ts j' σ') : Res ts (.loop least a) σ := by
  have hd0 := hs.d0
  have hd30 := hs.d30
  by_cases h0 : σ.code = 0
  · by_cases hl : (levelS ts σ).1 = (least : Int)
    · obtain ⟨s, hi, hk1, hk2⟩ := levelS_some h1 hl
      have g1 := go_step' he hs.lt (isS_kind hi).1
      have s1 : St ts (stepS σ) := hs.go g1 hd0 hd30
      obtain ⟨f1, b, l1, τ, r1, k1, d1, v1⟩ := ih (.bin (least + 1)) (stepS σ) (meas_at (by unfold stepS; simp) hs.lt (by simp [rankJ] <;> omega)) s1 ⟨by omega, by omega⟩
      have q1 : τ.deep = σ.deep := d1
      have s2 : St ts τ := s1.go k1 (by omega) (by omega)
      obtain ⟨X, hX⟩ : ∃ X : Ex, X = { ex0 with kind := (levelS ts σ).2, a := a, b := b, pos := ((tokL ts σ.at_).at_ : Int) } := ⟨_, rfl⟩
      have G := g1.trans k1
      have P := (G.less (m := 0 + 1) (by omega)).put (x := X) fun hz _ => hX ▸ good2 s2.small (by omega) ((ha.go g1).go k1 hz) (v1 hz)
      have s3 : St ts (putS X τ) := hs.go P (by show 0 ≤ τ.deep; omega) (by show τ.deep ≤ 30; omega)
      by_cases h3 : least = 3
      · refine ⟨f1 + 1, (τ.exprs.length : Int), [], putS X τ, ?_, P, q1, ix_put X τ⟩
        rw [runE_go hs.ok]
        simp only [loopG]
        rw [if_pos h0, if_pos hl, runE_le (f := f1) (by omega) _ _ _ r1]
        simp only [Option.bind_some]
        rw [putA_ok s2.ok, if_pos h3, hX]
      · obtain ⟨f2, c, l2, υ, r2, k2, d2, v2⟩ := ih (.loop least (τ.exprs.length : Int)) (putS X τ) (meas_at (by have := G.at_; have := G.room; have := G.more; show σ.at_ < τ.at_; omega) hs.lt (by simp [rankJ])) s3 ⟨h1, h5, ix_put X τ⟩
        refine ⟨f1 + f2 + 1, c, l2, υ, ?_, go_zero (P.trans k2), by rw [d2]; exact q1, v2⟩
        rw [runE_go hs.ok]
        simp only [loopG]
        rw [if_pos h0, if_pos hl, runE_le (f := f1) (by omega) _ _ _ r1]
        simp only [Option.bind_some]
        rw [putA_ok s2.ok, if_neg h3, ← hX, runE_le (f := f2) (by omega) _ _ _ r2]
    · refine ⟨1, a, [], σ, ?_, Go.refl hs.lt, rfl, ha⟩
      rw [runE_go hs.ok]
      simp only [loopG]
      rw [if_pos h0, if_neg hl]
  · refine ⟨1, a, [], σ, ?_, Go.refl hs.lt, rfl, ha⟩
    rw [runE_go hs.ok]
    simp only [loopG]
    rw [if_neg h0]
theorem tot_args {acc : List Int} {σ : RS} (hs : St ts σ) (hl : acc.length ≤ σ.at_) (ha : ∀ a ∈ acc, IxOk σ a) (ih : ∀ j' σ', meas ts j' σ' < meas ts (.args acc) σ → St ts σ' → JobOk σ' j' → Res ts j' σ') : Res ts (.args acc) σ := by
  have hd0 := hs.d0
  have hd30 := hs.d30
  have hlen : acc.length ≤ 40000 := by have := hs.lt; have := hs.len; omega
  by_cases hi : isS ts [44] σ = true
  · have g1 := go_step' he hs.lt (isS_kind hi).1
    have s1 : St ts (stepS σ) := hs.go g1 hd0 hd30
    obtain ⟨f1, b, l1, τ, r1, k1, d1, v1⟩ := ih .expr (stepS σ) (meas_at (by unfold stepS; simp) hs.lt (by simp [rankJ])) s1 trivial
    have q1 : τ.deep = σ.deep := d1
    have s2 : St ts τ := s1.go k1 (by omega) (by omega)
    have G := g1.trans k1
    have hat : σ.at_ < τ.at_ := by have := k1.at_; have : (stepS σ).at_ = σ.at_ + 1 := rfl; omega
    obtain ⟨f2, c, l2, υ, r2, k2, d2, v2⟩ := ih (.args (acc ++ [b])) τ (meas_at hat hs.lt (by simp [rankJ])) s2 ⟨by simp; omega, fun a h => by
      rcases List.mem_append.1 h with h | h
      · exact ((ha a h).go g1).go k1
      · obtain rfl := List.mem_singleton.1 h; exact v1⟩
    refine ⟨f1 + f2 + 1, c, l2, υ, ?_, go_zero (G.trans k2), by omega, v2⟩
    rw [runE_go hs.ok]
    simp only [argsG]
    rw [if_pos hlen, if_pos hi, runE_le (f := f1) (by omega) _ _ _ r1]
    simp only [Option.bind_some]
    rw [runE_le (f := f2) (by omega) _ _ _ r2]
  · refine ⟨1, 0, acc, σ, ?_, Go.refl hs.lt, rfl, hl, ha⟩
    rw [runE_go hs.ok]
    simp only [argsG]
    rw [if_pos hlen, if_neg hi]
include ht
theorem tot_atom {σ : RS} (hs : St ts σ) (h0 : σ.code = 0) (ih : ∀ j' σ', meas ts j' σ' < meas ts .atom σ → St ts σ' → JobOk σ' j' → Res ts j' σ') : Res ts .atom σ := by
  have hd0 := hs.d0
  have hd30 := hs.d30
  obtain ⟨t1, t2, t3⟩ := ht _ _ (tok_get hs.lt)
  have one : ∀ (X : Ex), (tokL ts σ.at_).kind ≠ 5 → GoodX X (stepS σ).exprs.length → Go ts 0 σ (putS X (stepS σ)) ∧ okS (stepS σ) = true := fun X hk hX =>
    have g1 := go_step' he hs.lt hk
    ⟨(g1.less (m := 0 + 1) (by omega)).put fun _ _ => hX, (hs.go g1 hd0 hd30).ok⟩
  have sml : (stepS σ).exprs.length ≤ 30000 := hs.small
  by_cases k2 : (tokL ts σ.at_).kind = 2
  · obtain ⟨P, o⟩ := one { ex0 with kind := 1, v := (tokL ts σ.at_).v, pos := ((tokL ts σ.at_).at_ : Int) } (by omega) (goodN sml (t2 k2))
    refine ⟨1, ((stepS σ).exprs.length : Int), [], _, ?_, P, rfl, ix_put _ _⟩
    rw [runE_go hs.ok]
    simp only [atomG]
    rw [if_pos k2, putA_ok o]
  by_cases i1 : isS ts [116, 114, 117, 101] σ = true
  · obtain ⟨P, o⟩ := one { ex0 with kind := 2, v := 1, pos := ((tokL ts σ.at_).at_ : Int) } (isS_kind i1).1 (goodT sml)
    refine ⟨1, ((stepS σ).exprs.length : Int), [], _, ?_, P, rfl, ix_put _ _⟩
    rw [runE_go hs.ok]
    simp only [atomG]
    rw [if_neg k2, if_pos i1, putA_ok o]
  by_cases i2 : isS ts [102, 97, 108, 115, 101] σ = true
  · obtain ⟨P, o⟩ := one { ex0 with kind := 2, pos := ((tokL ts σ.at_).at_ : Int) } (isS_kind i2).1 (goodF sml)
    refine ⟨1, ((stepS σ).exprs.length : Int), [], _, ?_, P, rfl, ix_put _ _⟩
    rw [runE_go hs.ok]
    simp only [atomG]
    rw [if_neg k2, if_neg i1, if_pos i2, putA_ok o]
  by_cases k1 : (tokL ts σ.at_).kind = 1
  · have g1 := go_step' he hs.lt (by omega)
    have s1 : St ts (stepS σ) := hs.go g1 hd0 hd30
    have c1 : (stepS σ).code = 0 := h0
    by_cases i3 : isS ts [105, 115] (stepS σ) = true
    · have g2 := go_step' he s1.lt (isS_kind i3).1
      have s2 : St ts (stepS (stepS σ)) := s1.go g2 hd0 hd30
      have g3 := go_name he s2.lt
      have s3 : St ts (nameS ts (stepS (stepS σ))) := s2.go g3 (by rw [name_deep]; exact hd0) (by rw [name_deep]; exact hd30)
      obtain ⟨X, hX⟩ : ∃ X : Ex, X = { ex0 with kind := 20, name := str (tokL ts σ.at_).text, state := str (nameV ts (stepS (stepS σ))), pos := ((tokL ts σ.at_).at_ : Int) } := ⟨_, rfl⟩
      have G := (g1.trans g2).trans g3
      have P := (G.less (m := 0 + 1) (by omega)).put (x := X) fun hz _ => by
        have hb : nameB ts (stepS (stepS σ)) = true := by
          by_cases hb : nameB ts (stepS (stepS σ)) = true
          · exact hb
          · exfalso
            unfold nameS at hz
            rw [if_neg hb] at hz
            unfold failS at hz
            rw [if_pos (show (stepS (stepS σ)).code = 0 from h0)] at hz
            exact absurd (show (2 : Int) = 0 from hz) (by decide)
        obtain ⟨u1, u2, u3⟩ := ht _ _ (tok_get s2.lt)
        have hv : nameV ts (stepS (stepS σ)) = (tokL ts (stepS (stepS σ)).at_).text := by unfold nameV; rw [if_pos hb]
        have hk : (tokL ts (stepS (stepS σ)).at_).kind = 1 := by
          unfold nameB at hb
          simp only [Bool.and_eq_true, decide_eq_true_eq] at hb
          exact hb.2
        rw [hX, hv]
        exact good_is s3.small (t1 k1) t3 (u1 hk) u3
      refine ⟨1, ((nameS ts (stepS (stepS σ))).exprs.length : Int), [], putS X (nameS ts (stepS (stepS σ))), ?_, P, (name_deep ts _).trans rfl, ix_put _ _⟩
      rw [runE_go hs.ok]
      simp only [atomG]
      rw [if_neg k2, if_neg i1, if_neg i2, if_pos k1, if_pos i3, putA_ok s3.ok, hX]
    by_cases i4 : isS ts [40] (stepS σ) = true
    · have g2 := go_step' he s1.lt (isS_kind i4).1
      have s2 : St ts (stepS (stepS σ)) := s1.go g2 hd0 hd30
      by_cases i5 : isS ts [41] (stepS (stepS σ)) = true
      · have g3 := go_step' he s2.lt (isS_kind i5).1
        have s3 : St ts (stepS (stepS (stepS σ))) := s2.go g3 hd0 hd30
        obtain ⟨X, hX⟩ : ∃ X : Ex, X = { ex0 with kind := 19, name := str (tokL ts σ.at_).text, pos := ((tokL ts σ.at_).at_ : Int) } := ⟨_, rfl⟩
        have P := (((g1.trans g2).trans g3).less (m := 0 + 1) (by omega)).put (x := X) fun hz _ => hX ▸ good_call (al := []) s3.small (t1 k1) t3 (by simp) (fun x hx => by cases hx)
        refine ⟨1, ((stepS (stepS (stepS σ))).exprs.length : Int), [], putS X (stepS (stepS (stepS σ))), ?_, P, rfl, ix_put _ _⟩
        rw [runE_go hs.ok]
        simp only [atomG]
        rw [if_neg k2, if_neg i1, if_neg i2, if_pos k1, if_neg i3, if_pos i4, if_pos i5, putA_ok s3.ok, hX]
      · obtain ⟨f1, a, l1, τ, r1, m1, d1, v1⟩ := ih .expr (stepS (stepS σ)) (meas_at (by show σ.at_ < σ.at_ + 1 + 1; omega) hs.lt (by simp [rankJ])) s2 trivial
        have q1 : τ.deep = σ.deep := d1
        have s3 : St ts τ := s2.go m1 (by omega) (by omega)
        have hat : σ.at_ + 2 ≤ τ.at_ := by have := m1.at_; have : (stepS (stepS σ)).at_ = σ.at_ + 1 + 1 := rfl; omega
        obtain ⟨f2, c, l2, υ, r2, m2, d2, v2, w2⟩ := ih (.args [a]) τ (meas_at (by omega) hs.lt (by simp [rankJ])) s3 ⟨by simp; omega, fun x hx => by obtain rfl := List.mem_singleton.1 hx; exact v1⟩
        have q2 : υ.deep = σ.deep := by omega
        have s4 : St ts υ := s3.go m2 (by omega) (by omega)
        have g4 := go_want he s4.lt [41]
        have s5 : St ts (wantS ts [41] υ) := s4.go g4 (by rw [want_deep]; omega) (by rw [want_deep]; omega)
        obtain ⟨X, hX⟩ : ∃ X : Ex, X = { ex0 with kind := 19, name := str (tokL ts σ.at_).text, args := l2, pos := ((tokL ts σ.at_).at_ : Int) } := ⟨_, rfl⟩
        have G := (((g1.trans g2).trans m1).trans m2).trans g4
        have P := (G.less (m := 0 + 1) (by omega)).put (x := X) fun hz _ => hX ▸ good_call s5.small (t1 k1) t3 (by have := s4.lt; have := s4.len; omega) fun x hx => (w2 x hx).go g4 hz
        refine ⟨f1 + f2 + 1, ((wantS ts [41] υ).exprs.length : Int), [], putS X (wantS ts [41] υ), ?_, P, (want_deep ts _ _).trans q2, ix_put _ _⟩
        rw [runE_go hs.ok]
        simp only [atomG]
        rw [if_neg k2, if_neg i1, if_neg i2, if_pos k1, if_neg i3, if_pos i4, if_neg i5, runE_le (f := f1) (by omega) _ _ _ r1]
        simp only [Option.bind_some]
        rw [runE_le (f := f2) (by omega) _ _ _ r2]
        simp only [Option.bind_some]
        rw [putA_ok s5.ok, hX]
    · obtain ⟨P, o⟩ := one { ex0 with kind := 3, name := str (tokL ts σ.at_).text, pos := ((tokL ts σ.at_).at_ : Int) } (by omega) (good_nm sml (t1 k1) t3)
      refine ⟨1, ((stepS σ).exprs.length : Int), [], _, ?_, P, rfl, ix_put _ _⟩
      rw [runE_go hs.ok]
      simp only [atomG]
      rw [if_neg k2, if_neg i1, if_neg i2, if_pos k1, if_neg i3, if_neg i4, putA_ok o]
  · have g1 := go_want he hs.lt [40]
    have s1 : St ts (wantS ts [40] σ) := hs.go g1 (by rw [want_deep]; exact hd0) (by rw [want_deep]; exact hd30)
    obtain ⟨f1, a, l1, τ, r1, m1, d1, v1⟩ := ih .expr _ (meas_rank g1.at_ (want_deep ts _ _) (by simp [rankJ])) s1 trivial
    have g2 := go_want he m1.lt [41]
    refine ⟨f1 + 1, a, [], wantS ts [41] τ, ?_, go_zero ((g1.trans m1).trans g2), by rw [want_deep, d1, want_deep], IxOk.go v1 g2⟩
    rw [runE_go hs.ok]
    simp only [atomG]
    rw [if_neg k2, if_neg i1, if_neg i2, if_neg k1, r1]
    rfl
theorem tot_all : ∀ (M : Nat) (j : Job) (σ : RS), meas ts j σ ≤ M → St ts σ → JobOk σ j → Res ts j σ := by
  intro M
  induction M with
  | zero =>
    intro j σ hm hs hj
    exfalso
    unfold meas at hm
    have := hs.lt
    have h2 : 1 * 1024 ≤ (ts.length - σ.at_) * 1024 := Nat.mul_le_mul_right _ (by omega)
    omega
  | succ M ih =>
    intro j σ hm hs hj
    have ih' : ∀ j' σ', meas ts j' σ' < meas ts j σ → St ts σ' → JobOk σ' j' → Res ts j' σ' := fun j' σ' h => ih j' σ' (by omega)
    cases j with
    | expr => exact tot_expr he hs ih'
    | pre => exact tot_pre he hs ih'
    | atom => exact tot_atom he ht hs hj ih'
    | bin least => exact tot_bin hs hj.1 hj.2 ih'
    | loop least a => exact tot_loop he hs hj.1 hj.2.1 hj.2.2 ih'
    | args acc => exact tot_args he hs hj.1 hj.2 ih'
/-- an expression's rule comes to an end -/
theorem expr_ends {σ : RS} (hs : St ts σ) : ∃ f v τ, exprS' ts f σ = some (v, τ) ∧ Go ts 0 σ τ ∧ τ.deep = σ.deep ∧ IxOk τ v := by
  obtain ⟨f, v, l, τ, h1, h2, h3, h4⟩ := tot_all he ht _ .expr σ (Nat.le_refl _) hs trivial
  exact ⟨f, v, τ, by unfold exprS'; rw [h1]; rfl, h2, h3, h4⟩
end
end Go.Proofs.YtlbhlncipajapaaGreatDoor
namespace Go.Proofs.YtlbhlncipajapaaGreatDoor
open Go.RowKit Lx
set_option linter.unusedVariables false

theorem exprX_none {cd f : Int} {W : World} {r : Ending} {Y : World} (h : r = .returned (.tuple #[.agg #[.slice none 0 0, .slice none 0 0], .int .i64 0, .agg #[.int .i64 cd, .int .i64 f]]) ∧ Below W.heap.size W Y) : ExprX [] cd f W r Y :=
  ⟨none, 0, h.1, ⟨[], rfl, World.ownsRow_nil _ _ _ _, fun p hp => by cases hp⟩, h.2⟩
theorem readX_none {cd f : Int} {W : World} {r : Ending} {Y : World} (h : r = .returned (.tuple #[.agg #[.slice none 0 0, .slice none 0 0], .agg #[.int .i64 cd, .int .i64 f]]) ∧ Below W.heap.size W Y) : ReadX [] cd f W r Y :=
  ⟨none, 0, h.1, h.2, ⟨[], rfl, World.ownsRow_nil _ _ _ _, fun p hp => by cases hp⟩⟩
theorem exprs_any (l : List UInt8) : ∃ (es : List Ex) (cd f : Int), es.length ≤ 20001 ∧ AllGood es ∧ (∀ x ∈ es, (partsE x).length ≤ 40000) ∧
    (∀ W, Signs W → Calls Tryz.prog 12 #[.string (str l)] W fun r Y => ExprX es cd f W r Y) ∧
    (∀ W, Calls Tryz.prog 9 #[.string (str l), .bool true] W fun r Y => ExprX es cd f W r Y) := by
  have hno : AllGood [] := fun i x hx => by cases i <;> cases hx
  obtain ⟨ts, r, ht⟩ : ∃ ts r, lexT l ts r := toks_all l _
  by_cases hl : 20000 < l.length
  · refine ⟨[], 10, 0, by simp, hno, (fun x hx => by cases hx), fun W hS => ?_, fun W => ?_⟩
    · exact expr_call _ _ _ _ (by simp) W (Lib.hid fun W2 hb => (read_lex (str l) _ 10 0 (by decide) W2 (Lib.hid fun W3 hb3 => (lex_too l hl W3 ((hS.below hb).below hb3)).mono fun e w' h => h)).mono fun r Y h => readX_none h)
    · exact (parse_lexbad (str l) true 10 0 (by decide) W (Lib.hid fun W => (ref_lex_any l ts r ht W).mono fun e w' h => h.1 hl)).mono fun r Y h => exprX_none h
  · have hl' : l.length ≤ 20000 := by omega
    cases r with
    | some f =>
      refine ⟨[], 1, (f : Int), by simp, hno, (fun x hx => by cases hx), fun W hS => ?_, fun W => ?_⟩
      · exact expr_call _ _ _ _ (by simp) W (Lib.hid fun W2 hb => (read_lex (str l) _ 1 f (by decide) W2 (Lib.hid fun W3 hb3 => (lex_bad l ts f ht hl' W3 ((hS.below hb).below hb3)).mono fun e w' h => h)).mono fun r Y h => readX_none h)
      · exact (parse_lexbad (str l) true 1 f (by decide) W (Lib.hid fun W => (ref_lex_any l ts _ ht W).mono fun e w' h => h.2 hl')).mono fun r Y h => exprX_none h
    | none =>
      have he := end_ok ht l.length
      have hk := tok_ok ht hl' l.length
      have hc := toks_count ht
      have g1 := gapTo_le false (Nat.zero_le l.length)
      have hlen : (ts ++ [endT l.length]).length ≤ 20001 := by rw [List.length_append]; simp only [List.length_cons, List.length_nil]; omega
      obtain ⟨f, v, lx, τ, hr, hg, _, _⟩ := tot_all he hk _ .expr rs0 (Nat.le_refl _) ⟨he.1, Nat.le_refl _, Int.le_refl _, by decide, by omega⟩ trivial
      by_cases h0 : τ.code = 0
      · have hlt := hg.lt
        have hroom : τ.exprs.length ≤ τ.at_ := by have := hg.room; simp only [rs0, List.length_nil] at this; omega
        obtain ⟨hv, hpos⟩ := last_expr hr h0
        by_cases h5 : (tokL (ts ++ [endT l.length]) τ.at_).kind = 5
        · refine ⟨τ.exprs, 0, 0, by omega, hg.good h0 hno, parts_ao (args_all _ _ _ _ _ hr (fun x hx => by cases hx)).1, fun W hS => ?_, fun W => ?_⟩
          · exact expr_call _ _ _ _ (by omega) W (Lib.hid fun W2 hb => read_ok l ts ht hl' f τ v lx hr h0 h5 W2 (hS.below hb))
          · exact (parse_expr_ok l ts (Lib.hid ht) hl' f v lx τ (Lib.hid hr) (Lib.hid h0) (Lib.hid h5) W).mono fun r Y h => by rw [hv] at h; exact h
        · refine ⟨[], 2, ((tokL (ts ++ [endT l.length]) τ.at_).at_ : Int), by simp, hno, (fun x hx => by cases hx), fun W hS => ?_, fun W => ?_⟩
          · exact expr_call _ _ _ _ (by simp) W (Lib.hid fun W2 hb => (read_more l ts ht hl' f τ v lx hr h0 h5 W2 (hS.below hb)).mono fun r Y h => readX_none h)
          · have e1 : (failS (ts ++ [endT l.length]) 2 τ).code = 2 := by unfold failS; rw [if_pos h0]
            have e2 : (failS (ts ++ [endT l.length]) 2 τ).pos = ((tokL (ts ++ [endT l.length]) τ.at_).at_ : Int) := by unfold failS; rw [if_pos h0]
            exact (parse_expr_more l ts (Lib.hid ht) hl' f v lx τ (Lib.hid hr) (Lib.hid h0) (Lib.hid h5) W).mono fun r Y h => by rw [e1, e2] at h; exact exprX_none h
      · refine ⟨[], τ.code, τ.pos, by simp, hno, (fun x hx => by cases hx), fun W hS => ?_, fun W => ?_⟩
        · exact expr_call _ _ _ _ (by simp) W (Lib.hid fun W2 hb => (read_bad l ts ht hl' f τ v lx hr h0 W2 (hS.below hb)).mono fun r Y h => readX_none h)
        · exact (parse_expr_bad l ts (Lib.hid ht) hl' f v lx τ (Lib.hid hr) (Lib.hid h0) W).mono fun r Y h => exprX_none h
/-- parse.Expr at a text whose run is known -/
theorem expr_run {l : List UInt8} {ts : List Tok} {f : Nat} {v : Int} {lx : List Int} {τ : RS} (ht : lexT l ts none) (hl : l.length ≤ 20000) (hr : runE (ts ++ [endT l.length]) f .expr rs0 = some (v, lx, τ)) (h0 : τ.code = 0) (h5 : (tokL (ts ++ [endT l.length]) τ.at_).kind = 5) (hn : τ.exprs.length ≤ 40000) (W : World) (hS : Signs W) :
    Calls Tryz.prog 12 #[.string (str l)] W fun r Y => ExprX τ.exprs 0 0 W r Y :=
  expr_call _ _ _ _ hn W (Lib.hid fun W2 hb => read_ok l ts ht hl f τ v lx hr h0 h5 W2 (hS.below hb))
end Go.Proofs.YtlbhlncipajapaaGreatDoor
namespace Go.Proofs.YtlbhlncipajapaaGreatDoor
open Go.RowKit Lx

def alL : List UInt8 := [49, 32, 43, 32, 50, 32, 42, 32, 120]
def alT : List Tok := [tokAt alL 0, tokAt alL 2, tokAt alL 4, tokAt alL 6, tokAt alL 8]
def alU : List Tok := [⟨2, [49], 4294967296, 0⟩, ⟨4, [43], 0, 2⟩, ⟨2, [50], 8589934592, 4⟩, ⟨4, [42], 0, 6⟩, ⟨1, [120], 0, 8⟩]
theorem al_lex : lexT alL alT none := by
  unfold lexT alT
  rw [show gapTo false alL 0 = 0 by decide +kernel]
  refine .tok (by decide) (by decide +kernel) ?_
  rw [show gapTo false alL (0 + (tokAt alL 0).text.length) = 2 by decide +kernel]
  refine .tok (by decide) (by decide +kernel) ?_
  rw [show gapTo false alL (2 + (tokAt alL 2).text.length) = 4 by decide +kernel]
  refine .tok (by decide) (by decide +kernel) ?_
  rw [show gapTo false alL (4 + (tokAt alL 4).text.length) = 6 by decide +kernel]
  refine .tok (by decide) (by decide +kernel) ?_
  rw [show gapTo false alL (6 + (tokAt alL 6).text.length) = 8 by decide +kernel]
  refine .tok (by decide) (by decide +kernel) ?_
  rw [show gapTo false alL (8 + (tokAt alL 8).text.length) = 9 by decide +kernel]
  exact .fin (by decide)
theorem al_toks : alT = alU := by
  have h0 : tokAt alL 0 = ⟨2, [49], 4294967296, 0⟩ := by kernel_rfl
  have h1 : tokAt alL 2 = ⟨4, [43], 0, 2⟩ := by kernel_rfl
  have h2 : tokAt alL 4 = ⟨2, [50], 8589934592, 4⟩ := by kernel_rfl
  have h3 : tokAt alL 6 = ⟨4, [42], 0, 6⟩ := by kernel_rfl
  have h4 : tokAt alL 8 = ⟨1, [120], 0, 8⟩ := by kernel_rfl
  unfold alT alU
  rw [h0, h1, h2, h3, h4]
/-- the example's expressions -/
def alX : List Ex := [{ ex0 with kind := 1, v := 4294967296, pos := 0 }, { ex0 with kind := 1, v := 8589934592, pos := 4 }, { ex0 with kind := 3, name := str [120], pos := 8 }, { ex0 with kind := 8, a := 1, b := 2, pos := 6 }, { ex0 with kind := 6, a := 0, b := 3, pos := 2 }]
theorem al_run : ∃ lx, runE (alT ++ [endT alL.length]) 20 .expr rs0 = some (4, lx, ⟨5, alX, 0, 0, 0⟩) := by
  rw [al_toks]
  exact ⟨[], by kernel_rfl⟩
end Go.Proofs.YtlbhlncipajapaaGreatDoor
namespace Go.Proofs.YtlbhlncipajapaaGreatDoor
open Go.RowKit Lx
set_option linter.unusedVariables false

theorem flatMap_len {α : Type} {enc : α → List Value} {s : Nat} (hs : ∀ x, (enc x).length = s) : ∀ l : List α, (l.flatMap enc).length = l.length * s
  | [] => by simp
  | x :: l => by rw [List.flatMap_cons, List.length_append, hs, flatMap_len hs l, List.length_cons, Nat.add_mul]; omega
theorem flatMap_get {α : Type} {enc : α → List Value} {s : Nat} (hs : ∀ x, (enc x).length = s) : ∀ (l : List α) (i : Nat) (x : α) (j : Nat) (u : Value), l[i]? = some x → (enc x)[j]? = some u → (l.flatMap enc)[i * s + j]? = some u
  | [], i, x, j, u, h, _ => by cases h
  | y :: l, 0, x, j, u, h, hu => by
    cases h
    have hj : j < (enc y).length := (List.getElem?_eq_some_iff.1 hu).1
    rw [List.flatMap_cons, Nat.zero_mul, Nat.zero_add, List.getElem?_append_left hj]; exact hu
  | y :: l, i + 1, x, j, u, h, hu => by
    have h2 : l[i]? = some x := by simpa using h
    have hy := hs y
    rw [List.flatMap_cons, List.getElem?_append_right (by rw [hy, Nat.add_mul]; omega), hy]
    have := flatMap_get hs l i x j u h2 hu
    rw [show (i + 1) * s + j - s = i * s + j by rw [Nat.add_mul]; omega]
    exact this
/-- a row of one's own, read as a slice -/
theorem own_slAt {α : Type} {W : World} {B : Nat} {T : TypeId} {s : Nat} {v : Value} {l : List α} {enc : α → List Value} (hs : ∀ x, (enc x).length = s) (h : W.ownsRow B T s v l.length (l.flatMap enc)) :
    SlAt v l.length s fun b o i => ∀ x, l[i]? = some x → ∀ j u, (enc x)[j]? = some u → W.cell? ⟨b, o + j, none⟩ = some u := by
  rcases h.2 with ⟨rfl, h0⟩ | ⟨g, cap, cur, rfl, hb, hg, hnc, hcm, hcs, htk⟩
  · rw [h0]; exact slAt_none _ _ _ _ _ ⟨Nat.zero_le _, fun _ => rfl⟩ rfl
  · refine slAt_some hnc hcm fun i hi x hx j u hu => ?_
    have h1 := flatMap_get hs l i x j u hx hu
    rw [← htk, List.getElem?_take] at h1
    split at h1
    · rw [Array.getElem?_toList] at h1
      simp [World.cell?, hg, h1]
    · cases h1
theorem ints_own {W : World} {B : Nat} {v : Value} {l : List Int} (h : W.ownsRow B 3 1 v l.length (l.map intC)) : IntsAt W v l := by
  rw [List.map_eq_flatMap] at h
  exact (own_slAt (enc := fun n => [intC n]) (fun _ => rfl) h).mono fun b o i hi hx => by
    obtain ⟨x, hx'⟩ : ∃ x, l[i]? = some x := ⟨_, List.getElem?_eq_getElem hi⟩
    have := hx x hx' 0 _ rfl
    rw [List.getD_eq_getElem?_getD, hx']; exact this
theorem strs_own {W : World} {B : Nat} {v : Value} {l : List ByteArray} (h : W.ownsRow B 9 1 v l.length (l.map .string)) : StrsAt W v l := by
  rw [List.map_eq_flatMap] at h
  exact (own_slAt (enc := fun n => [Value.string n]) (fun _ => rfl) h).mono fun b o i hi hx => by
    obtain ⟨x, hx'⟩ : ∃ x, l[i]? = some x := ⟨_, List.getElem?_eq_getElem hi⟩
    have := hx x hx' 0 _ rfl
    rw [List.getD_eq_getElem?_getD, hx']; exact this
theorem exs_own {W : World} {b : Nat} {xb : Nat → Prop} {v : Value} {l : List Ex} (h : ExsOwn W b xb v l) (hg : AllGood l) : ExsAt W v l := by
  obtain ⟨q, rfl, h2, h3⟩ := h
  rw [List.length_map] at h2
  unfold ExsAt
  rw [List.length_map]
  refine (own_slAt (enc := fun p : Ex × Value => exC p.1 p.2) (fun _ => rfl) h2).mono fun b o i hi hx x hx2 => ?_
  rw [List.getElem?_map] at hx2
  obtain ⟨p, hp, rfl⟩ := Option.map_eq_some_iff.1 hx2
  have c := hx p hp
  refine ⟨p.2, c 0 _ rfl, c 1 _ rfl, c 2 _ rfl, c 3 _ rfl, c 4 _ rfl, c 5 _ rfl, c 6 _ rfl, c 7 _ rfl, c 8 _ rfl, ints_own (h3 p (List.mem_of_getElem? hp)).1, ?_⟩
  exact (hg i p.1 (by rw [List.getElem?_map, hp]; rfl)).2
end Go.Proofs.YtlbhlncipajapaaGreatDoor
namespace Go.Proofs.YtlbhlncipajapaaGreatDoor
open Go.RowKit Lx
set_option linter.unusedVariables false

/-- what the example's answer is, cell by cell -/
def AlAt (w : World) (r : Ending) (Y : World) : Prop :=
  ∃ b off c, r = .returned (.tuple #[.agg #[.slice none 0 0, .slice (some ⟨b, off, none⟩) 5 c], .int .i64 4, .agg #[.int .i64 0, .int .i64 0]]) ∧ Hid (Below w.heap.size w Y ∧ Y.cell? ⟨b, off + 2 * 9 + 4, none⟩ = some (.string ⟨#[120]⟩) ∧ Y.cell? ⟨b, off + 3 * 9, none⟩ = some (.int .i64 8))
theorem al_good : AllGood alX := by
  intro i x hx
  have hi : i < 5 := by
    rcases Nat.lt_or_ge i 5 with h | h
    · exact h
    · rw [List.getElem?_eq_none (by exact h)] at hx; cases hx
  have hm : ∀ y, mayE y i = true → ExOk y → GoodX y i := fun y h1 h2 => ⟨h1, h2⟩
  match i, hi with
  | 0, _ => cases hx; exact hm _ (by decide) ⟨by unfold i64ok; decide, by unfold i64ok; decide, by unfold i64ok; decide, by unfold i64ok; decide, by unfold i64ok; decide, by decide, by decide, by decide, fun n hn => by cases hn⟩
  | 1, _ => cases hx; exact hm _ (by decide) ⟨by unfold i64ok; decide, by unfold i64ok; decide, by unfold i64ok; decide, by unfold i64ok; decide, by unfold i64ok; decide, by decide, by decide, by decide, fun n hn => by cases hn⟩
  | 2, _ => cases hx; exact hm _ (by decide) ⟨by unfold i64ok; decide, by unfold i64ok; decide, by unfold i64ok; decide, by unfold i64ok; decide, by unfold i64ok; decide, by decide, by decide, by decide, fun n hn => by cases hn⟩
  | 3, _ => cases hx; exact hm _ (by decide) ⟨by unfold i64ok; decide, by unfold i64ok; decide, by unfold i64ok; decide, by unfold i64ok; decide, by unfold i64ok; decide, by decide, by decide, by decide, fun n hn => by cases hn⟩
  | 4, _ => cases hx; exact hm _ (by decide) ⟨by unfold i64ok; decide, by unfold i64ok; decide, by unfold i64ok; decide, by unfold i64ok; decide, by unfold i64ok; decide, by decide, by decide, by decide, fun n hn => by cases hn⟩
theorem al_expr (w : World) (hS : Signs w) : Calls Tryz.prog 12 #[.string ⟨#[49, 32, 43, 32, 50, 32, 42, 32, 120]⟩] w fun r Y => AlAt w r Y := by
  obtain ⟨lx, hr⟩ := al_run
  refine (expr_run al_lex (by decide) hr rfl (by rw [al_toks]; decide) (by decide) w hS).mono fun r Y ⟨o, c, h1, h2, h3⟩ => ?_
  obtain ⟨o', cap, b, off, e0, e1, _, e2, e3⟩ := exs_own h2 al_good
  cases e0
  have e4 := e2 (by decide)
  subst e4
  obtain ⟨_, _, _, _, _, a4, _⟩ := e3 2 (by decide) _ rfl
  obtain ⟨_, b0, _⟩ := e3 3 (by decide) _ rfl
  exact ⟨b, off, c, h1, Lib.hid ⟨h3, a4, b0⟩⟩
set_option maxHeartbeats 4000000 in
theorem alive_px (w : World) (hS : Signs w) : Calls Tryz.prog 7 #[] w fun r Y => r = .returned (.bool true) ∧ Below w.heap.size w Y := by
  have C := Lib.hid (al_expr w hS)
  unfold AlAt at C
  go_enter Tryz.func7, Tryz.ntmps7
  go_wp2_with (go_at_call 12; (with_reducible refine C.out.mono ?_); rintro e w2 ⟨b, off, c, rfl, h2⟩; have a4 := h2.out.2.1; have b0 := h2.out.2.2; have hb := World.block_lt_of_cell? _ _ a4)
  go_ret
  exact ⟨rfl, (h2.out.1.alloc h2.out.1.size _).alloc (h2.out.1.alloc h2.out.1.size _).size _⟩
end Go.Proofs.YtlbhlncipajapaaGreatDoor
