/- Joined: LexLit, LexSigned. -/
import Derived.Test.YtlbhlncipajapaaGreatDoorPe00
import Derived.Test.YtlbhlncipajapaaGreatDoorPe11
namespace Go.Proofs.YtlbhlncipajapaaGreatDoor.Lx
open Go.RowKit

theorem st_take {l : List UInt8} {k : Nat} {c : UInt8} (h : l[k]? = some c) : st (l.take (k + 1)) = step (st (l.take k)) c := by rw [take_at h, st_snoc]
theorem not_okay {l : List UInt8} {k : Nat} {c : UInt8} (h : l[k]? = some c) (hc : okay c = false) : litR l = false := by
  have : l.all okay = false := by
    rw [List.all_eq_false]
    exact ⟨c, List.mem_of_getElem? h, by rw [hc]; simp⟩
  unfold litR
  rw [this]
  rfl
set_option maxHeartbeats 8000000 in
set_option maxRecDepth 100000 in
theorem lit_core (l : List UInt8) (n : Nat) (hn : l.length = n) (hl : (n : Int) ≤ 30000) (R : Bool) (hR : R = litR l) (w : World) :
    Calls Tryz.prog 79 #[.string (str l)] w fun e w' => e = .returned (.bool R) ∧ w' = w := by
  have hs := str_size l
  rw [hn] at hs
  have HN := Lib.hid hn
  have HR := Lib.hid hR
  clear hn hR
  go_enter Tryz.func79, Tryz.ntmps79
  go_wp2_with fail
  go_loop [6, 3, 4, 5] (fun i a b d => ∃ k A B D : Nat, k ≤ n ∧ Hid (st (l.take k) = (A, B, D)) ∧ Hid ((l.take k).all okay = true) ∧ (A : Int) ≤ 30000 ∧ (B : Int) ≤ 30000 ∧ (D : Int) ≤ 30000 ∧ i = .int .i64 k ∧ a = .int .i64 A ∧ b = .int .i64 B ∧ d = .int .i64 D) (fun i _ _ _ => n - litLen i)
  case atStart => exact ⟨0, 0, 0, 0, by omega, Lib.hid rfl, Lib.hid rfl, by omega, by omega, by omega, rfl, rfl, rfl, rfl⟩
  case round =>
    obtain ⟨k, A, B, D, hk, hst, hok, hA, hB, hD, rfl, rfl, rfl, rfl⟩ := hrel
    rcases Nat.lt_or_ge k n with hlt | hge
    · obtain ⟨c, hc⟩ : ∃ c, l[k]? = some c := ⟨l[k]'(by have := HN.out; omega), List.getElem?_eq_getElem _⟩
      have hix : ∀ h, (str l)[k]'h = c := fun h => str_at l hc h
      have q3 : decide ((k : Int) < (n : Int)) = true := decide_eq_true (by omega)
      have ST := Lib.hid (st_take hc)
      have T := Lib.hid (take_at hc)
      have C := Lib.hid hc
      have hle := Lib.hid (st_le (l.take (k + 1)))
      have hlen : Hid ((l.take (k + 1)).length ≤ 30000) := Lib.hid (by rw [List.length_take]; have := HN.out; omega)
      have cl : (c.toNat : Int) ≤ 255 := by have := c.toNat_lt; omega
      clear hc
      by_cases c46 : c = 46
      · subst c46
        have e46 : ((46 : UInt8).toNat : Int) = 46 := rfl
        have q4 : decide (((46 : UInt8).toNat : Int) = 46) = true := by decide
        go_wp2_with fail
        have hs2 : st (l.take (k + 1)) = (A, B, D + 1) := by rw [ST.out, hst.out]; rfl
        have hb := hle.out
        rw [hs2] at hb
        have hb' : A + B + (D + 1) = (l.take (k + 1)).length := hb
        have hl2 := hlen.out
        refine ⟨⟨k + 1, A, B, D + 1, by omega, Lib.hid hs2, Lib.hid ?_, by omega, by omega, by omega, rfl, rfl, rfl, rfl⟩, by simp [litLen]; omega⟩
        rw [T.out, List.all_append, hok.out]; rfl
      · have n46 : ¬ (c.toNat : Int) = 46 := fun e => c46 (UInt8.toNat_inj.1 (by show c.toNat = 46; omega))
        have q4 : decide ((c.toNat : Int) = 46) = false := decide_eq_false n46
        by_cases d1 : (c.toNat : Int) < 48
        · have d1' : decide ((c.toNat : Int) < 48) = true := decide_eq_true d1
          go_wp2_with fail
          go_ret
          exact ⟨by rw [HR.out, not_okay C.out (by unfold okay isDig; simp; exact ⟨c46, by omega⟩)]; rfl, rfl⟩
        · have d1' : decide ((c.toNat : Int) < 48) = false := decide_eq_false d1
          by_cases d2 : (57 : Int) < (c.toNat : Int)
          · have d2' : decide ((57 : Int) < (c.toNat : Int)) = true := decide_eq_true d2
            go_wp2_with fail
            go_ret
            exact ⟨by rw [HR.out, not_okay C.out (by unfold okay isDig; simp; exact ⟨c46, by omega⟩)]; rfl, rfl⟩
          · have d2' : decide ((57 : Int) < (c.toNat : Int)) = false := decide_eq_false d2
            have hok2 : (l.take (k + 1)).all okay = true := by rw [T.out, List.all_append, hok.out]; simp [okay]; right; exact isDig_iff.2 (by omega)
            have HOK := Lib.hid hok2
            clear hok2
            by_cases d0 : D = 0
            · subst d0
              go_wp2_with fail
              have hs2 : st (l.take (k + 1)) = (A + 1, B, 0) := by rw [ST.out, hst.out]; unfold step; rw [if_neg c46, if_pos rfl]
              have hb := hle.out
              rw [hs2] at hb
              have hb' : A + 1 + B + 0 = (l.take (k + 1)).length := hb
              have hl2 := hlen.out
              exact ⟨⟨k + 1, A + 1, B, 0, by omega, Lib.hid hs2, HOK, by omega, by omega, by omega, rfl, rfl, rfl, rfl⟩, by simp [litLen]; omega⟩
            · have q5 : decide ((D : Int) = 0) = false := decide_eq_false (by omega)
              have q6 : ¬ (D : Int) = 0 := by omega
              go_wp2_with fail
              have hs2 : st (l.take (k + 1)) = (A, B + 1, D) := by rw [ST.out, hst.out]; unfold step; rw [if_neg c46, if_neg d0]
              have hb := hle.out
              rw [hs2] at hb
              have hb' : A + (B + 1) + D = (l.take (k + 1)).length := hb
              have hl2 := hlen.out
              exact ⟨⟨k + 1, A, B + 1, D, by omega, Lib.hid hs2, HOK, by omega, by omega, by omega, rfl, rfl, rfl, rfl⟩, by simp [litLen]; omega⟩
    · have q3 : decide ((k : Int) < (n : Int)) = false := decide_eq_false (by omega)
      have hst' : st l = (A, B, D) := by have := hst.out; rw [List.take_of_length_le (by rw [HN.out]; exact hge)] at this; exact this
      have hok' : l.all okay = true := by have := hok.out; rw [List.take_of_length_le (by rw [HN.out]; exact hge)] at this; exact this
      have hR : R = (decide (1 ≤ A) && (decide (A ≤ 10) && (decide (D ≤ 1) && ((!(decide (D = 1)) || (decide (1 ≤ B) && decide (B ≤ 40))) && (decide (A = 1) || !(l.head? == some 48)))))) := by
        rw [HR.out]; unfold litR; rw [hst', hok', Bool.true_and]
      have hAn : A + B + D = n := by have := st_le l; rw [hst'] at this; have h2 : A + B + D = l.length := this; rw [h2, HN.out]
      clear HR hst hok hst' hok'
      have RE := Lib.hid hR
      clear hR
      by_cases t1 : (A : Int) < 1
      · have u1 : decide ((A : Int) < 1) = true := decide_eq_true t1
        have hv : R = false := by
          refine Bool.eq_false_iff.2 fun hT => ?_
          rw [RE.out] at hT
          simp only [Bool.and_eq_true, decide_eq_true_eq, Bool.or_eq_true, Bool.not_eq_true', decide_eq_false_iff_not] at hT
          omega
        subst hv
        go_wp2_with fail
        go_ret
        exact ⟨rfl, rfl⟩
      · have u1 : decide ((A : Int) < 1) = false := decide_eq_false t1
        by_cases t2 : (10 : Int) < (A : Int)
        · have u2 : decide ((10 : Int) < (A : Int)) = true := decide_eq_true t2
          have hv : R = false := by
            refine Bool.eq_false_iff.2 fun hT => ?_
            rw [RE.out] at hT
            simp only [Bool.and_eq_true, decide_eq_true_eq, Bool.or_eq_true, Bool.not_eq_true', decide_eq_false_iff_not] at hT
            omega
          subst hv
          go_wp2_with fail
          go_ret
          exact ⟨rfl, rfl⟩
        · have u2 : decide ((10 : Int) < (A : Int)) = false := decide_eq_false t2
          by_cases t3 : (1 : Int) < (D : Int)
          · have u3 : decide ((1 : Int) < (D : Int)) = true := decide_eq_true t3
            have hv : R = false := by
              refine Bool.eq_false_iff.2 fun hT => ?_
              rw [RE.out] at hT
              simp only [Bool.and_eq_true, decide_eq_true_eq, Bool.or_eq_true, Bool.not_eq_true', decide_eq_false_iff_not] at hT
              omega
            subst hv
            go_wp2_with fail
            go_ret
            exact ⟨rfl, rfl⟩
          · have u3 : decide ((1 : Int) < (D : Int)) = false := decide_eq_false t3
            by_cases t4 : (D : Int) = 1
            · have u4 : decide ((D : Int) = 1) = true := decide_eq_true t4
              by_cases t5 : (B : Int) < 1
              · have u5 : decide ((B : Int) < 1) = true := decide_eq_true t5
                have hv : R = false := by
                  refine Bool.eq_false_iff.2 fun hT => ?_
                  rw [RE.out] at hT
                  simp only [Bool.and_eq_true, decide_eq_true_eq, Bool.or_eq_true, Bool.not_eq_true', decide_eq_false_iff_not] at hT
                  omega
                subst hv
                go_wp2_with fail
                go_ret
                exact ⟨rfl, rfl⟩
              · have u5 : decide ((B : Int) < 1) = false := decide_eq_false t5
                by_cases t6 : (40 : Int) < (B : Int)
                · have u6 : decide ((40 : Int) < (B : Int)) = true := decide_eq_true t6
                  have hv : R = false := by
                    refine Bool.eq_false_iff.2 fun hT => ?_
                    rw [RE.out] at hT
                    simp only [Bool.and_eq_true, decide_eq_true_eq, Bool.or_eq_true, Bool.not_eq_true', decide_eq_false_iff_not] at hT
                    omega
                  subst hv
                  go_wp2_with fail
                  go_ret
                  exact ⟨rfl, rfl⟩
                · have u6 : decide ((40 : Int) < (B : Int)) = false := decide_eq_false t6
                  by_cases t7 : (A : Int) = 1
                  · have u7 : decide ((A : Int) = 1) = true := decide_eq_true t7
                    have hv : R = true := by
                      rw [RE.out]
                      simp only [Bool.and_eq_true, decide_eq_true_eq, Bool.or_eq_true, Bool.not_eq_true', decide_eq_false_iff_not]
                      exact ⟨by omega, by omega, by omega, by omega, Or.inl (by omega)⟩
                    subst hv
                    go_wp2_with fail
                    go_ret
                    exact ⟨rfl, rfl⟩
                  · have u7 : decide ((A : Int) = 1) = false := decide_eq_false t7
                    have m7 : ((A : Int) == 1) = false := beq_false_of_ne t7
                    obtain ⟨c, l', hl'⟩ : ∃ c l', l = c :: l' := by
                      cases l with
                      | nil => have := HN.out; simp at this; omega
                      | cons c l' => exact ⟨c, l', rfl⟩
                    have hix : ∀ h, (str l)[0]'h = c := fun h => str_at l (by rw [hl']; rfl) h
                    by_cases h48 : c = 48
                    · have HC := Lib.hid (show (l.head? == some 48) = true by rw [hl', h48]; rfl)
                      clear hl'
                      subst h48
                      have hv : R = false := by
                        refine Bool.eq_false_iff.2 fun hT => ?_
                        rw [RE.out, HC.out] at hT
                        simp only [Bool.not_true, Bool.or_false, Bool.and_eq_true, decide_eq_true_eq] at hT
                        omega
                      subst hv
                      go_wp2_with fail
                      go_ret
                      exact ⟨rfl, rfl⟩
                    · have HC := Lib.hid (show (l.head? == some 48) = false by rw [hl']; simpa using h48)
                      have n48 : ¬ (c.toNat : Int) = 48 := fun e => h48 (UInt8.toNat_inj.1 (by show c.toNat = 48; omega))
                      have m48 : ((c.toNat : Int) != 48) = true := bne_iff_ne.2 n48
                      clear hl'
                      have hv : R = true := by
                        rw [RE.out, HC.out]
                        simp only [Bool.not_false, Bool.or_true, Bool.and_true, Bool.and_eq_true, decide_eq_true_eq, Bool.or_eq_true, Bool.not_eq_true', decide_eq_false_iff_not]
                        exact ⟨by omega, by omega, by omega, by omega⟩
                      subst hv
                      go_wp2_with fail
                      go_ret
                      exact ⟨rfl, rfl⟩
            · have u4 : decide ((D : Int) = 1) = false := decide_eq_false t4
              by_cases t8 : (A : Int) = 1
              · have u8 : decide ((A : Int) = 1) = true := decide_eq_true t8
                have hv : R = true := by
                  rw [RE.out]
                  simp only [Bool.and_eq_true, decide_eq_true_eq, Bool.or_eq_true, Bool.not_eq_true', decide_eq_false_iff_not]
                  exact ⟨by omega, by omega, by omega, by omega, Or.inl (by omega)⟩
                subst hv
                go_wp2_with fail
                go_ret
                exact ⟨rfl, rfl⟩
              · have u8 : decide ((A : Int) = 1) = false := decide_eq_false t8
                have m8 : ((A : Int) == 1) = false := beq_false_of_ne t8
                obtain ⟨c, l', hl'⟩ : ∃ c l', l = c :: l' := by
                  cases l with
                  | nil => have := HN.out; simp at this; omega
                  | cons c l' => exact ⟨c, l', rfl⟩
                have hix : ∀ h, (str l)[0]'h = c := fun h => str_at l (by rw [hl']; rfl) h
                by_cases h48 : c = 48
                · have HC := Lib.hid (show (l.head? == some 48) = true by rw [hl', h48]; rfl)
                  clear hl'
                  subst h48
                  have hv : R = false := by
                    refine Bool.eq_false_iff.2 fun hT => ?_
                    rw [RE.out, HC.out] at hT
                    simp only [Bool.not_true, Bool.or_false, Bool.and_eq_true, decide_eq_true_eq] at hT
                    omega
                  subst hv
                  go_wp2_with fail
                  go_ret
                  exact ⟨rfl, rfl⟩
                · have HC := Lib.hid (show (l.head? == some 48) = false by rw [hl']; simpa using h48)
                  have n48 : ¬ (c.toNat : Int) = 48 := fun e => h48 (UInt8.toNat_inj.1 (by show c.toNat = 48; omega))
                  have m48 : ((c.toNat : Int) != 48) = true := bne_iff_ne.2 n48
                  clear hl'
                  have hv : R = true := by
                    rw [RE.out, HC.out]
                    simp only [Bool.not_false, Bool.or_true, Bool.and_true, Bool.and_eq_true, decide_eq_true_eq, Bool.or_eq_true, Bool.not_eq_true', decide_eq_false_iff_not]
                    exact ⟨by omega, by omega, by omega, by omega⟩
                  subst hv
                  go_wp2_with fail
                  go_ret
                  exact ⟨rfl, rfl⟩
theorem lit_ref (l : List UInt8) (hl : l.length ≤ 30000) (w : World) :
    Calls Tryz.prog 79 #[.string (str l)] w fun e w' => e = .returned (.bool (litR l)) ∧ w' = w := lit_core l _ rfl (by omega) _ rfl w
end Go.Proofs.YtlbhlncipajapaaGreatDoor.Lx
namespace Go.Proofs.YtlbhlncipajapaaGreatDoor.Lx
open Go.RowKit
set_option maxRecDepth 100000

theorem litR_lit {l : List UInt8} (h : litR l = true) : litL l = true := by
  unfold litR at h
  simp only [Bool.and_eq_true, decide_eq_true_eq, Bool.or_eq_true, Bool.not_eq_true', decide_eq_false_iff_not] at h
  obtain ⟨h1, h2, h3, h4, h5, h6⟩ := h
  rcases part_cases l with hp | ⟨a, b, rfl, hp⟩
  · have hs := st_plain l hp 0 0
    have e1 : (st l).1 = l.length := by unfold st; rw [hs]; show 0 + l.length = _; omega
    rw [e1] at h2 h3 h6
    unfold litL digitsL
    rw [ahead_none l hp, okay_dig h1 hp, decide_eq_true h2, decide_eq_true h3, show pointed l = false by unfold pointed; simpa using hp]
    simp only [Bool.and_self, Bool.true_and, Bool.not_false, Bool.true_or, Bool.and_true, Bool.not_eq_true', Bool.and_eq_false_iff, decide_eq_false_iff_not]
    rcases h6 with h6 | h6
    · left; omega
    · right; exact h6
  · have hs := st_plain a hp 0 0
    have e0 : st (a ++ 46 :: b) = b.foldl step (a.length, 0, 1) := by
      unfold st
      rw [List.foldl_append, hs, List.foldl_cons, show step (0 + a.length, 0, 0) 46 = (a.length, 0, 1) by unfold step; rw [if_pos rfl]; simp]
    have hmono : (b.foldl step (a.length, 0, 1)).2.2 = 1 := by
      have := st_le (a ++ 46 :: b)
      rw [e0] at this h4
      rcases Nat.eq_zero_or_pos (b.foldl step (a.length, 0, 1)).2.2 with h0 | h0
      · exfalso
        have hge : ∀ (l : List UInt8) (s : Nat × Nat × Nat), s.2.2 ≤ (l.foldl step s).2.2 := by
          intro l
          induction l with
          | nil => intro s; exact Nat.le_refl _
          | cons c l ih =>
            intro s
            rw [List.foldl_cons]
            refine Nat.le_trans ?_ (ih _)
            unfold step
            split
            · exact Nat.le_succ _
            · split <;> exact Nat.le_refl _
        have := hge b (a.length, 0, 1)
        rw [h0] at this
        exact absurd this (by show ¬ 1 ≤ 0; omega)
      · omega
    obtain ⟨hb, hbs⟩ := st_behind b a.length 0 1 (Nat.le_refl _) hmono
    rw [e0, hbs] at h2 h3 h5 h6
    have h2' : 1 ≤ a.length := h2
    have h3' : a.length ≤ 10 := h3
    have h5' : 1 ≤ b.length ∧ b.length ≤ 40 := by
      rcases h5 with h5 | h5
      · exact absurd rfl h5
      · obtain ⟨p1, p2⟩ := h5
        have p1' : 1 ≤ 0 + b.length := p1
        have p2' : 0 + b.length ≤ 40 := p2
        omega
    rw [List.all_append, List.all_cons, Bool.and_eq_true, Bool.and_eq_true] at h1
    unfold litL digitsL
    rw [ahead_point a b hp, behind_point a b hp, okay_dig h1.1 hp, okay_dig h1.2.2 hb, decide_eq_true h2', decide_eq_true h3', decide_eq_true h5'.1, decide_eq_true h5'.2]
    simp only [Bool.and_self, Bool.true_and, Bool.or_true, Bool.and_true, Bool.not_eq_true', Bool.and_eq_false_iff, decide_eq_false_iff_not]
    rcases h6 with h6 | h6
    · left
      have h6' : a.length = 1 := h6
      omega
    · right
      cases a with
      | nil => simp at h2'
      | cons c a => exact h6

theorem st_tail (l : List UInt8) (h : 46 ∉ l) (a b : Nat) : l.foldl step (a, b, 1) = (a, b + l.length, 1) := by
  induction l generalizing b with
  | nil => rfl
  | cons c l ih =>
    simp only [List.mem_cons, not_or] at h
    rw [List.foldl_cons, show step (a, b, 1) c = (a, b + 1, 1) by unfold step; rw [if_neg (Ne.symm h.1), if_neg (by simp)], ih h.2, List.length_cons]
    simp only [Prod.mk.injEq, and_true, true_and]
    omega
theorem dig_okay {l : List UInt8} (h : l.all isDig = true) : l.all okay = true ∧ 46 ∉ l := by
  refine ⟨List.all_eq_true.2 fun x hx => by unfold okay; rw [List.all_eq_true.1 h x hx]; simp, fun hx => ?_⟩
  have := List.all_eq_true.1 h 46 hx
  revert this
  decide
theorem lit_litR {l : List UInt8} (h : litL l = true) : litR l = true := by
  unfold litL digitsL at h
  simp only [Bool.and_eq_true, decide_eq_true_eq, Bool.or_eq_true, Bool.not_eq_true', Bool.and_eq_false_iff, decide_eq_false_iff_not] at h
  obtain ⟨⟨h1, h2, h3⟩, h4, h5⟩ := h
  rcases part_cases l with hp | ⟨a, b, rfl, hp⟩
  · rw [ahead_none l hp] at h1 h2 h3 h4
    have hs := st_plain l hp 0 0
    have e1 : st l = (l.length, 0, 0) := by unfold st; rw [hs]; simp
    unfold litR
    rw [e1, (dig_okay h3).1]
    simp only [Bool.true_and, Bool.and_eq_true, decide_eq_true_eq, Bool.or_eq_true, Bool.not_eq_true', decide_eq_false_iff_not]
    refine ⟨h1, h2, by omega, .inl (by omega), ?_⟩
    rcases h4 with h4 | h4
    · left; omega
    · right; exact h4
  · rw [ahead_point a b hp, behind_point a b hp] at *
    have hpt : pointed (a ++ 46 :: b) = true := by unfold pointed; simp
    rw [hpt] at h5
    have h5' : 1 ≤ b.length ∧ b.length ≤ 40 ∧ b.all isDig = true := by
      rcases h5 with h5 | h5
      · cases h5
      · exact h5
    obtain ⟨h6, h7, h8⟩ := h5'
    have hs := st_plain a hp 0 0
    have e0 : st (a ++ 46 :: b) = (a.length, b.length, 1) := by
      unfold st
      rw [List.foldl_append, hs, List.foldl_cons, show step (0 + a.length, 0, 0) 46 = (a.length, 0, 1) by unfold step; rw [if_pos rfl]; simp, st_tail b (dig_okay h8).2]
      simp
    unfold litR
    rw [e0, List.all_append, List.all_cons, (dig_okay h3).1, (dig_okay h8).1]
    have h46 : okay 46 = true := rfl
    rw [h46]
    simp only [Bool.and_self, Bool.true_and, Bool.and_eq_true, decide_eq_true_eq, Bool.or_eq_true, Bool.not_eq_true', decide_eq_false_iff_not]
    refine ⟨h1, h2, by omega, .inr ⟨h6, h7⟩, ?_⟩
    rcases h4 with h4 | h4
    · left; omega
    · right
      cases a with
      | nil => simp at h1
      | cons c a => exact h4
theorem litR_litL (l : List UInt8) : litR l = litL l := by
  cases h : litL l with
  | true => exact lit_litR h
  | false =>
    cases h2 : litR l with
    | false => rfl
    | true => rw [litR_lit h2] at h; cases h
/-- what the reference's Size answers of a literal -/
def RefSize : Prop := ∀ t : List UInt8, litL t = true → ∀ W, Calls Tryz.prog 80 #[.string (str t)] W fun e w' => e = .returned (.tuple #[.int .u64 ((readL t).1 : Int), .bool (!(readL t).2)]) ∧ Below W.heap.size W w'
set_option maxHeartbeats 4000000 in
theorem signed_none (t : List UInt8) (n : Nat) (hs : (str t).size = n) (n0 : 0 < n) (c : UInt8) (hix : ∀ h, (str t)[0]'h = c) (k2 : ((c.toNat : Int) == 45) = false) (w : World)
    (L : Hid (∀ w, Calls Tryz.prog 79 #[.string (str t)] w fun e w' => e = .returned (.bool false) ∧ w' = w)) :
    Calls Tryz.prog 56 #[.string (str t)] w fun e w' => e = .returned (.tuple #[.int .i64 0, .bool false]) ∧ Below w.heap.size w w' := by
  go_enter Tryz.func56, Tryz.ntmps56
  go_wp2_with (go_at_call 79; ((with_reducible refine (L.out _).mono ?_); rintro e w' ⟨rfl, rfl⟩))
  go_ret2
  exact ⟨rfl, Below.refl _ _⟩
set_option maxHeartbeats 4000000 in
theorem signed_some (t : List UInt8) (n : Nat) (hs : (str t).size = n) (n0 : 0 < n) (c : UInt8) (hix : ∀ h, (str t)[0]'h = c) (k2 : ((c.toNat : Int) == 45) = false) (w : World)
    (L : Hid (∀ w, Calls Tryz.prog 79 #[.string (str t)] w fun e w' => e = .returned (.bool true) ∧ w' = w))
    (Z : Nat) (ov : Bool) (hz : ov = true ∨ (Z : Int) ≤ 9223372036854775808) (S : Hid (∀ w, Calls Tryz.prog 80 #[.string (str t)] w fun e w' => e = .returned (.tuple #[.int .u64 (Z : Int), .bool ov]) ∧ Below w.heap.size w w')) :
    Calls Tryz.prog 56 #[.string (str t)] w fun e w' => e = .returned (.tuple #[.int .i64 (if ov = false ∧ Z ≤ 9223372036854775807 then (Z : Int) else 0), .bool (decide (ov = false ∧ Z ≤ 9223372036854775807))]) ∧ Below w.heap.size w w' := by
  cases ov with
  | true =>
    rw [if_neg (by simp)]
    go_enter Tryz.func56, Tryz.ntmps56
    go_wp2_with (first | (go_at_call 79; ((with_reducible refine (L.out _).mono ?_); rintro e w' ⟨rfl, rfl⟩)) | (go_at_call 80; ((with_reducible refine (S.out _).mono ?_); rintro e w1 ⟨rfl, hb⟩; have HB := Lib.hid hb; clear hb)))
    go_ret2
    exact ⟨by simp, HB.out⟩
  | false =>
    have hz2 : (Z : Int) ≤ 9223372036854775808 := by rcases hz with h | h; cases h; exact h
    clear hz
    by_cases hq : (Z : Int) ≤ 9223372036854775807
    · have q1 : ((Z : Int) == 9223372036854775808) = false := beq_false_of_ne (by omega)
      have qn : ¬ (Z : Int) = 9223372036854775808 := by omega
      rw [if_pos ⟨rfl, by omega⟩, decide_eq_true (by exact ⟨rfl, by omega⟩)]
      go_enter Tryz.func56, Tryz.ntmps56
      go_wp2_with (first | (go_at_call 79; ((with_reducible refine (L.out _).mono ?_); rintro e w' ⟨rfl, rfl⟩)) | (go_at_call 80; ((with_reducible refine (S.out _).mono ?_); rintro e w1 ⟨rfl, hb⟩; have HB := Lib.hid hb; clear hb)))
      go_ret2
      exact ⟨rfl, HB.out⟩
    · have hq2 : (Z : Int) = 9223372036854775808 := by omega
      have q1 : ((Z : Int) == 9223372036854775808) = true := by rw [hq2]; rfl
      rw [if_neg (by rintro ⟨_, h⟩; omega), decide_eq_false (by rintro ⟨_, h⟩; omega)]
      clear hq
      go_enter Tryz.func56, Tryz.ntmps56
      go_wp2_with (first | (go_at_call 79; ((with_reducible refine (L.out _).mono ?_); rintro e w' ⟨rfl, rfl⟩)) | (go_at_call 80; ((with_reducible refine (S.out _).mono ?_); rintro e w1 ⟨rfl, hb⟩; have HB := Lib.hid hb; clear hb)))
      go_ret2
      exact ⟨rfl, HB.out⟩
set_option maxHeartbeats 4000000 in
theorem signed_nil (w : World) (L : Hid (∀ w, Calls Tryz.prog 79 #[.string ⟨#[]⟩] w fun e w' => e = .returned (.bool false) ∧ w' = w)) :
    Calls Tryz.prog 56 #[.string ⟨#[]⟩] w fun e w' => e = .returned (.tuple #[.int .i64 0, .bool false]) ∧ Below w.heap.size w w' := by
  go_enter Tryz.func56, Tryz.ntmps56
  go_wp2_with (go_at_call 79; ((with_reducible refine (L.out _).mono ?_); rintro e w' ⟨rfl, rfl⟩))
  go_ret2
  exact ⟨rfl, Below.refl _ _⟩
theorem parse_none {t : List UInt8} (h : litL t = false) : parseL t = (0, false) := by
  have : readL t = (0, false) := by unfold readL; rw [if_neg (by rw [h]; simp)]
  unfold parseL
  rw [this]
  simp
theorem ref_signed (SZ : RefSize) : RefSigned := fun t ht hh W => by
  have L : Hid (∀ w, Calls Tryz.prog 79 #[.string (str t)] w fun e w' => e = .returned (.bool (litL t)) ∧ w' = w) := Lib.hid fun w => by rw [← litR_litL]; exact lit_ref t ht w
  cases t with
  | nil => rw [parse_none (by rfl)]; exact signed_nil W L
  | cons c t =>
    have hc : c ≠ 45 := fun e => hh (by rw [e]; rfl)
    have hix : ∀ h, (str (c :: t))[0]'h = c := fun h => str_at (c :: t) (j := 0) rfl h
    have k2 := (byte_ne hc 45 rfl).2.2.2.1
    cases hl : litL (c :: t) with
    | false =>
      rw [parse_none hl]
      rw [hl] at L
      exact signed_none (c :: t) _ (str_size _) (by simp) c hix k2 W L
    | true =>
      rw [hl] at L
      have S := Lib.hid (SZ (c :: t) hl)
      refine (signed_some (c :: t) _ (str_size _) (by simp) c hix k2 W L (readL (c :: t)).1 (!(readL (c :: t)).2) ?_ S).mono fun e w' ⟨he, hb⟩ => ⟨?_, hb⟩
      · cases h2 : (readL (c :: t)).2 with
        | false => left; rfl
        | true =>
          right
          unfold readL at h2 ⊢
          split at h2
          · rename_i h3; rw [if_pos h3]; simp only [decide_eq_true_eq] at h2; show ((sizeL (c :: t) : Nat) : Int) ≤ _; omega
          · cases h2
      · rw [he]
        unfold parseL
        cases h2 : (readL (c :: t)).2 with
        | false => simp
        | true =>
          by_cases h3 : (readL (c :: t)).1 ≤ 9223372036854775807
          · simp [h3]
          · simp [h3]
end Go.Proofs.YtlbhlncipajapaaGreatDoor.Lx
