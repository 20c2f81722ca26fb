/- The reference's Signed at a text that begins with no minus, given what its Size answers; the two ways to say a literal. -/
import Derived.Test.YtnkndmmebhajcaaDoorLexRefOne
import Derived.Test.YtnkndmmebhajcaaDoorLexLit
namespace Go.Proofs.YtnkndmmebhajcaaDoor
open Go.RowKit
set_option maxRecDepth 100000

theorem litR_lit {l : List UInt8} (h : litR l = true) : litL l = true := by
  unfold litR at h
  simp only [Bool.and_eq_true, decide_eq_true_eq, Bool.or_eq_true, Bool.not_eq_true', decide_eq_false_iff_not] at h
  obtain ⟨h1, h2, h3, h4, h5, h6⟩ := h
  rcases part_cases l with hp | ⟨a, b, rfl, hp⟩
  · have hs := st_plain l hp 0 0
    have e1 : (st l).1 = l.length := by unfold st; rw [hs]; show 0 + l.length = _; omega
    rw [e1] at h2 h3 h6
    unfold litL digitsL
    rw [ahead_none l hp, okay_dig h1 hp, decide_eq_true h2, decide_eq_true h3, show pointed l = false by unfold pointed; simpa using hp]
    simp only [Bool.and_self, Bool.true_and, Bool.not_false, Bool.true_or, Bool.and_true, Bool.not_eq_true', Bool.and_eq_false_iff, decide_eq_false_iff_not]
    rcases h6 with h6 | h6
    · left; omega
    · right; exact h6
  · have hs := st_plain a hp 0 0
    have e0 : st (a ++ 46 :: b) = b.foldl step (a.length, 0, 1) := by
      unfold st
      rw [List.foldl_append, hs, List.foldl_cons, show step (0 + a.length, 0, 0) 46 = (a.length, 0, 1) by unfold step; rw [if_pos rfl]; simp]
    have hmono : (b.foldl step (a.length, 0, 1)).2.2 = 1 := by
      have := st_le (a ++ 46 :: b)
      rw [e0] at this h4
      rcases Nat.eq_zero_or_pos (b.foldl step (a.length, 0, 1)).2.2 with h0 | h0
      · exfalso
        have hge : ∀ (l : List UInt8) (s : Nat × Nat × Nat), s.2.2 ≤ (l.foldl step s).2.2 := by
          intro l
          induction l with
          | nil => intro s; exact Nat.le_refl _
          | cons c l ih =>
            intro s
            rw [List.foldl_cons]
            refine Nat.le_trans ?_ (ih _)
            unfold step
            split
            · exact Nat.le_succ _
            · split <;> exact Nat.le_refl _
        have := hge b (a.length, 0, 1)
        rw [h0] at this
        exact absurd this (by show ¬ 1 ≤ 0; omega)
      · omega
    obtain ⟨hb, hbs⟩ := st_behind b a.length 0 1 (Nat.le_refl _) hmono
    rw [e0, hbs] at h2 h3 h5 h6
    have h2' : 1 ≤ a.length := h2
    have h3' : a.length ≤ 10 := h3
    have h5' : 1 ≤ b.length ∧ b.length ≤ 40 := by
      rcases h5 with h5 | h5
      · exact absurd rfl h5
      · obtain ⟨p1, p2⟩ := h5
        have p1' : 1 ≤ 0 + b.length := p1
        have p2' : 0 + b.length ≤ 40 := p2
        omega
    rw [List.all_append, List.all_cons, Bool.and_eq_true, Bool.and_eq_true] at h1
    unfold litL digitsL
    rw [ahead_point a b hp, behind_point a b hp, okay_dig h1.1 hp, okay_dig h1.2.2 hb, decide_eq_true h2', decide_eq_true h3', decide_eq_true h5'.1, decide_eq_true h5'.2]
    simp only [Bool.and_self, Bool.true_and, Bool.or_true, Bool.and_true, Bool.not_eq_true', Bool.and_eq_false_iff, decide_eq_false_iff_not]
    rcases h6 with h6 | h6
    · left
      have h6' : a.length = 1 := h6
      omega
    · right
      cases a with
      | nil => simp at h2'
      | cons c a => exact h6

theorem st_tail (l : List UInt8) (h : 46 ∉ l) (a b : Nat) : l.foldl step (a, b, 1) = (a, b + l.length, 1) := by
  induction l generalizing b with
  | nil => rfl
  | cons c l ih =>
    simp only [List.mem_cons, not_or] at h
    rw [List.foldl_cons, show step (a, b, 1) c = (a, b + 1, 1) by unfold step; rw [if_neg (Ne.symm h.1), if_neg (by simp)], ih h.2, List.length_cons]
    simp only [Prod.mk.injEq, and_true, true_and]
    omega
theorem dig_okay {l : List UInt8} (h : l.all isDig = true) : l.all okay = true ∧ 46 ∉ l := by
  refine ⟨List.all_eq_true.2 fun x hx => by unfold okay; rw [List.all_eq_true.1 h x hx]; simp, fun hx => ?_⟩
  have := List.all_eq_true.1 h 46 hx
  revert this
  decide
theorem lit_litR {l : List UInt8} (h : litL l = true) : litR l = true := by
  unfold litL digitsL at h
  simp only [Bool.and_eq_true, decide_eq_true_eq, Bool.or_eq_true, Bool.not_eq_true', Bool.and_eq_false_iff, decide_eq_false_iff_not] at h
  obtain ⟨⟨h1, h2, h3⟩, h4, h5⟩ := h
  rcases part_cases l with hp | ⟨a, b, rfl, hp⟩
  · rw [ahead_none l hp] at h1 h2 h3 h4
    have hs := st_plain l hp 0 0
    have e1 : st l = (l.length, 0, 0) := by unfold st; rw [hs]; simp
    unfold litR
    rw [e1, (dig_okay h3).1]
    simp only [Bool.true_and, Bool.and_eq_true, decide_eq_true_eq, Bool.or_eq_true, Bool.not_eq_true', decide_eq_false_iff_not]
    refine ⟨h1, h2, by omega, .inl (by omega), ?_⟩
    rcases h4 with h4 | h4
    · left; omega
    · right; exact h4
  · rw [ahead_point a b hp, behind_point a b hp] at *
    have hpt : pointed (a ++ 46 :: b) = true := by unfold pointed; simp
    rw [hpt] at h5
    have h5' : 1 ≤ b.length ∧ b.length ≤ 40 ∧ b.all isDig = true := by
      rcases h5 with h5 | h5
      · cases h5
      · exact h5
    obtain ⟨h6, h7, h8⟩ := h5'
    have hs := st_plain a hp 0 0
    have e0 : st (a ++ 46 :: b) = (a.length, b.length, 1) := by
      unfold st
      rw [List.foldl_append, hs, List.foldl_cons, show step (0 + a.length, 0, 0) 46 = (a.length, 0, 1) by unfold step; rw [if_pos rfl]; simp, st_tail b (dig_okay h8).2]
      simp
    unfold litR
    rw [e0, List.all_append, List.all_cons, (dig_okay h3).1, (dig_okay h8).1]
    have h46 : okay 46 = true := rfl
    rw [h46]
    simp only [Bool.and_self, Bool.true_and, Bool.and_eq_true, decide_eq_true_eq, Bool.or_eq_true, Bool.not_eq_true', decide_eq_false_iff_not]
    refine ⟨h1, h2, by omega, .inr ⟨h6, h7⟩, ?_⟩
    rcases h4 with h4 | h4
    · left; omega
    · right
      cases a with
      | nil => simp at h1
      | cons c a => exact h4
theorem litR_litL (l : List UInt8) : litR l = litL l := by
  cases h : litL l with
  | true => exact lit_litR h
  | false =>
    cases h2 : litR l with
    | false => rfl
    | true => rw [litR_lit h2] at h; cases h
/-- what the reference's Size answers of a literal -/
def RefSize : Prop := ∀ t : List UInt8, litL t = true → ∀ W, Calls Tryd.prog 47 #[.string (str t)] W fun e w' => e = .returned (.tuple #[.int .u64 ((readL t).1 : Int), .bool (!(readL t).2)]) ∧ Below W.heap.size W w'
set_option maxHeartbeats 4000000 in
theorem signed_none (t : List UInt8) (n : Nat) (hs : (str t).size = n) (n0 : 0 < n) (c : UInt8) (hix : ∀ h, (str t)[0]'h = c) (k2 : ((c.toNat : Int) == 45) = false) (w : World)
    (L : Hid (∀ w, Calls Tryd.prog 46 #[.string (str t)] w fun e w' => e = .returned (.bool false) ∧ w' = w)) :
    Calls Tryd.prog 32 #[.string (str t)] w fun e w' => e = .returned (.tuple #[.int .i64 0, .bool false]) ∧ Below w.heap.size w w' := by
  go_enter Tryd.func32, Tryd.ntmps32
  go_wp2_with (go_at_call 46; ((with_reducible refine (L.out _).mono ?_); rintro e w' ⟨rfl, rfl⟩))
  go_ret2
  exact ⟨rfl, Below.refl _ _⟩
set_option maxHeartbeats 4000000 in
theorem signed_some (t : List UInt8) (n : Nat) (hs : (str t).size = n) (n0 : 0 < n) (c : UInt8) (hix : ∀ h, (str t)[0]'h = c) (k2 : ((c.toNat : Int) == 45) = false) (w : World)
    (L : Hid (∀ w, Calls Tryd.prog 46 #[.string (str t)] w fun e w' => e = .returned (.bool true) ∧ w' = w))
    (Z : Nat) (ov : Bool) (hz : ov = true ∨ (Z : Int) ≤ 9223372036854775808) (S : Hid (∀ w, Calls Tryd.prog 47 #[.string (str t)] w fun e w' => e = .returned (.tuple #[.int .u64 (Z : Int), .bool ov]) ∧ Below w.heap.size w w')) :
    Calls Tryd.prog 32 #[.string (str t)] w fun e w' => e = .returned (.tuple #[.int .i64 (if ov = false ∧ Z ≤ 9223372036854775807 then (Z : Int) else 0), .bool (decide (ov = false ∧ Z ≤ 9223372036854775807))]) ∧ Below w.heap.size w w' := by
  cases ov with
  | true =>
    rw [if_neg (by simp)]
    go_enter Tryd.func32, Tryd.ntmps32
    go_wp2_with (first | (go_at_call 46; ((with_reducible refine (L.out _).mono ?_); rintro e w' ⟨rfl, rfl⟩)) | (go_at_call 47; ((with_reducible refine (S.out _).mono ?_); rintro e w1 ⟨rfl, hb⟩; have HB := Lib.hid hb; clear hb)))
    go_ret2
    exact ⟨by simp, HB.out⟩
  | false =>
    have hz2 : (Z : Int) ≤ 9223372036854775808 := by rcases hz with h | h; cases h; exact h
    clear hz
    by_cases hq : (Z : Int) ≤ 9223372036854775807
    · have q1 : ((Z : Int) == 9223372036854775808) = false := beq_false_of_ne (by omega)
      have qn : ¬ (Z : Int) = 9223372036854775808 := by omega
      rw [if_pos ⟨rfl, by omega⟩, decide_eq_true (by exact ⟨rfl, by omega⟩)]
      go_enter Tryd.func32, Tryd.ntmps32
      go_wp2_with (first | (go_at_call 46; ((with_reducible refine (L.out _).mono ?_); rintro e w' ⟨rfl, rfl⟩)) | (go_at_call 47; ((with_reducible refine (S.out _).mono ?_); rintro e w1 ⟨rfl, hb⟩; have HB := Lib.hid hb; clear hb)))
      go_ret2
      exact ⟨rfl, HB.out⟩
    · have hq2 : (Z : Int) = 9223372036854775808 := by omega
      have q1 : ((Z : Int) == 9223372036854775808) = true := by rw [hq2]; rfl
      rw [if_neg (by rintro ⟨_, h⟩; omega), decide_eq_false (by rintro ⟨_, h⟩; omega)]
      clear hq
      go_enter Tryd.func32, Tryd.ntmps32
      go_wp2_with (first | (go_at_call 46; ((with_reducible refine (L.out _).mono ?_); rintro e w' ⟨rfl, rfl⟩)) | (go_at_call 47; ((with_reducible refine (S.out _).mono ?_); rintro e w1 ⟨rfl, hb⟩; have HB := Lib.hid hb; clear hb)))
      go_ret2
      exact ⟨rfl, HB.out⟩
set_option maxHeartbeats 4000000 in
theorem signed_nil (w : World) (L : Hid (∀ w, Calls Tryd.prog 46 #[.string ⟨#[]⟩] w fun e w' => e = .returned (.bool false) ∧ w' = w)) :
    Calls Tryd.prog 32 #[.string ⟨#[]⟩] w fun e w' => e = .returned (.tuple #[.int .i64 0, .bool false]) ∧ Below w.heap.size w w' := by
  go_enter Tryd.func32, Tryd.ntmps32
  go_wp2_with (go_at_call 46; ((with_reducible refine (L.out _).mono ?_); rintro e w' ⟨rfl, rfl⟩))
  go_ret2
  exact ⟨rfl, Below.refl _ _⟩
theorem parse_none {t : List UInt8} (h : litL t = false) : parseL t = (0, false) := by
  have : readL t = (0, false) := by unfold readL; rw [if_neg (by rw [h]; simp)]
  unfold parseL
  rw [this]
  simp
theorem ref_signed (SZ : RefSize) : RefSigned := fun t ht hh W => by
  have L : Hid (∀ w, Calls Tryd.prog 46 #[.string (str t)] w fun e w' => e = .returned (.bool (litL t)) ∧ w' = w) := Lib.hid fun w => by rw [← litR_litL]; exact lit_ref t ht w
  cases t with
  | nil => rw [parse_none (by rfl)]; exact signed_nil W L
  | cons c t =>
    have hc : c ≠ 45 := fun e => hh (by rw [e]; rfl)
    have hix : ∀ h, (str (c :: t))[0]'h = c := fun h => str_at (c :: t) (j := 0) rfl h
    have k2 := (byte_ne hc 45 rfl).2.2.2.1
    cases hl : litL (c :: t) with
    | false =>
      rw [parse_none hl]
      rw [hl] at L
      exact signed_none (c :: t) _ (str_size _) (by simp) c hix k2 W L
    | true =>
      rw [hl] at L
      have S := Lib.hid (SZ (c :: t) hl)
      refine (signed_some (c :: t) _ (str_size _) (by simp) c hix k2 W L (readL (c :: t)).1 (!(readL (c :: t)).2) ?_ S).mono fun e w' ⟨he, hb⟩ => ⟨?_, hb⟩
      · cases h2 : (readL (c :: t)).2 with
        | false => left; rfl
        | true =>
          right
          unfold readL at h2 ⊢
          split at h2
          · rename_i h3; rw [if_pos h3]; simp only [decide_eq_true_eq] at h2; show ((sizeL (c :: t) : Nat) : Int) ≤ _; omega
          · cases h2
      · rw [he]
        unfold parseL
        cases h2 : (readL (c :: t)).2 with
        | false => simp
        | true =>
          by_cases h3 : (readL (c :: t)).1 ≤ 9223372036854775807
          · simp [h3]
          · simp [h3]
theorem tokens_of_size (SZ : RefSize) (s1 : ByteArray) (w : World) (hS : Signs w) : Calls Tryd.prog 3 #[.string s1] w fun e w' => e = .returned (.bool true) ∧ Below w.heap.size w w' :=
  tokens_of_signed (ref_signed SZ) s1 w hS
end Go.Proofs.YtnkndmmebhajcaaDoor
