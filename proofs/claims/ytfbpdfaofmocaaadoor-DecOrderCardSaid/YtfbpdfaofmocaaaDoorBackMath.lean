/- A number's text is read again as the number; cut off it is the beginning of all of it. -/
import Derived.Test.YtfbpdfaofmocaaaDoorReadMath
import Derived.Test.YtfbpdfaofmocaaaDoorDecRead
namespace Go.Proofs.YtfbpdfaofmocaaaDoor
set_option maxRecDepth 100000

theorem digs_dig (n : Nat) : (digs n).all isDig = true := by
  induction n using Nat.strongRecOn with
  | _ n ih =>
    rw [digs]
    by_cases h : n < 10
    · rw [if_pos h]; simp only [List.all_cons, List.all_nil, Bool.and_true]; exact dg_dig h
    · rw [if_neg h, List.all_append, ih (n / 10) (by omega)]; simp only [List.all_cons, List.all_nil, Bool.and_true, Bool.true_and]; exact dg_dig (by omega)
theorem numL_digs (n : Nat) : numL (digs n) = n := by
  induction n using Nat.strongRecOn with
  | _ n ih =>
    rw [digs]
    by_cases h : n < 10
    · rw [if_pos h]; simp only [numL]; rw [dg_val h]; simp
    · rw [if_neg h, numL_snoc, ih (n / 10) (by omega), dg_val (by omega)]; omega
theorem digs_pos (n : Nat) : 1 ≤ (digs n).length := by
  rw [digs]
  by_cases h : n < 10
  · rw [if_pos h]; simp
  · rw [if_neg h]; simp
theorem digs_first (n : Nat) (h : 1 ≤ n) : (digs n).head? ≠ some 48 := by
  induction n using Nat.strongRecOn with
  | _ n ih =>
    rw [digs]
    by_cases h' : n < 10
    · rw [if_pos h']
      intro e
      simp only [List.head?_cons, Option.some.injEq] at e
      have := dg_val h'
      rw [e] at this
      have e48 : (48 : UInt8).toNat = 48 := rfl
      omega
    · rw [if_neg h']
      have h1 := digs_pos (n / 10)
      have h2 := ih (n / 10) (by omega) (by omega)
      cases hd : digs (n / 10) with
      | nil => rw [hd] at h1; simp at h1
      | cons c l => rw [hd] at h2; simpa using h2
theorem digs_len (k : Nat) : ∀ n, n < 10 ^ (k + 1) → (digs n).length ≤ k + 1 := by
  induction k with
  | zero => intro n h; rw [digs_small (by omega)]; simp
  | succ k ih =>
    intro n h
    rw [digs]
    by_cases h' : n < 10
    · rw [if_pos h']; simp
    · rw [if_neg h', List.length_append]
      have := ih (n / 10) (by rw [Nat.div_lt_iff_lt_mul (by omega), ← Nat.pow_succ]; exact h)
      simp
      omega
theorem dig_point {l : List UInt8} (h : l.all isDig = true) : 46 ∉ l := fun e => by
  have := isDig_iff.1 (List.all_eq_true.1 h 46 e)
  have e46 : (46 : UInt8).toNat = 46 := rfl
  omega
theorem frac_num (n b : Nat) (hb : b < 4294967296) : numL (frac n b) * 4294967296 + rest n b = b * 10 ^ n := by
  induction n with
  | zero => simp [frac, rest, numL]
  | succ n ih =>
    have h1 := rest_lt n hb
    rw [frac_snoc, numL_snoc, dg_val (by omega), rest_succ, Nat.pow_succ, ← Nat.mul_assoc, ← ih]
    clear ih
    generalize numL (frac n b) = F
    generalize rest n b = r at *
    omega
theorem frac_dig (n b : Nat) (hb : b < 4294967296) : (frac n b).all isDig = true := by
  induction n with
  | zero => rfl
  | succ n ih =>
    have h1 := rest_lt n hb
    rw [frac_snoc, List.all_append, ih]
    simp only [List.all_cons, List.all_nil, Bool.and_true, Bool.true_and]
    exact dg_dig (by omega)
theorem strip_zeros (l : List UInt8) (k : Nat) : strip (l ++ List.replicate k 48) = strip l := by
  induction k with
  | zero => simp
  | succ k ih => rw [List.replicate_succ', ← List.append_assoc, strip_zero, ih]
theorem strip_split (l : List UInt8) : ∃ k, l = strip l ++ List.replicate k 48 := by
  suffices h : ∀ n (l : List UInt8), l.length = n → ∃ k, l = strip l ++ List.replicate k 48 from h _ l rfl
  intro n
  induction n with
  | zero => intro l hl; rw [List.eq_nil_of_length_eq_zero hl]; exact ⟨0, rfl⟩
  | succ n ih =>
    intro l hl
    have hne : l ≠ [] := by rintro rfl; simp at hl
    obtain ⟨l', c, rfl⟩ : ∃ l' c, l = l' ++ [c] := ⟨l.dropLast, l.getLast hne, (List.dropLast_concat_getLast hne).symm⟩
    by_cases hc : c = 48
    · subst hc
      obtain ⟨k, hk⟩ := ih l' (by simpa using hl)
      refine ⟨k + 1, ?_⟩
      rw [strip_zero, List.replicate_succ', ← List.append_assoc, ← hk]
    · exact ⟨0, by rw [strip_other l' hc]; simp⟩
theorem strip_strip (l : List UInt8) : strip (strip l) = strip l := by
  obtain ⟨k, hk⟩ := strip_split l
  conv => rhs; rw [hk, strip_zeros]
theorem bitsL_zeros (l : List UInt8) (k : Nat) : bitsL (l ++ List.replicate k 48) = bitsL l := by
  induction k with
  | zero => simp
  | succ k ih =>
    rw [List.replicate_succ', ← List.append_assoc, ← ih]
    generalize l ++ List.replicate k 48 = m
    unfold bitsL
    rw [numL_snoc, List.length_append, show ((48 : UInt8).toNat - 48) = 0 from rfl, Nat.add_zero, List.length_singleton, Nat.pow_succ, Nat.mul_right_comm]
    exact Nat.mul_div_mul_right _ _ (by omega)
theorem bitsL_strip (l : List UInt8) : bitsL (strip l) = bitsL l := by
  obtain ⟨k, hk⟩ := strip_split l
  conv => rhs; rw [hk, bitsL_zeros]
theorem strip_dig {l : List UInt8} (h : l.all isDig = true) : (strip l).all isDig = true := by
  obtain ⟨k, hk⟩ := strip_split l
  rw [hk, List.all_append, Bool.and_eq_true] at h
  exact h.1
theorem no_rest (c F r z : Nat) (h : F * c + r = c * z) (h1 : r < c) : F * c = c * z := by
  have e1 : (F * c + r) % c = r := by rw [Nat.add_comm, Nat.add_mul_mod_self_right, Nat.mod_eq_of_lt h1]
  rw [h, Nat.mul_mod_right] at e1
  omega
theorem bitsL_frac (b : Nat) (hb : b < 4294967296) : bitsL (frac 32 b) = b := by
  have h := frac_num 32 b hb
  unfold bitsL
  rw [frac_length]
  have h2 : numL (frac 32 b) * 4294967296 = b * 10 ^ 32 := by
    have h1 := rest_lt 32 hb
    have e : b * 10 ^ 32 = 4294967296 * (b * 5 ^ 32) := by rw [show (10 : Nat) ^ 32 = 4294967296 * 5 ^ 32 by decide +kernel]; rw [Nat.mul_left_comm]
    rw [e] at h ⊢
    exact no_rest 4294967296 _ _ _ h h1
  rw [h2, Nat.mul_div_cancel _ (by decide +kernel)]
/-- a number's text without its sign -/
def plainL (u n : Nat) : List UInt8 := digs (u / 4294967296) ++ tail (strip (frac n (u % 4294967296)))
theorem shortL_plain (q : Int) (n : Int) : shortL q n = (if q < 0 then [45] else []) ++ plainL q.natAbs (clip n) := by unfold shortL plainL; rw [List.append_assoc]
theorem plain_parts (u n : Nat) : ahead (plainL u n) = digs (u / 4294967296) ∧ behind (plainL u n) = strip (frac n (u % 4294967296)) ∧ (pointed (plainL u n) = true → strip (frac n (u % 4294967296)) ≠ []) := by
  unfold plainL
  have h1 := dig_point (digs_dig (u / 4294967296))
  generalize strip (frac n (u % 4294967296)) = f
  unfold tail
  by_cases hf : f = []
  · subst hf
    rw [if_pos rfl, List.append_nil]
    exact ⟨ahead_none _ h1, behind_none _ h1, fun h => absurd (by unfold pointed at h; simpa using h) h1⟩
  · rw [if_neg hf]
    exact ⟨ahead_point _ _ h1, behind_point _ _ h1, fun _ => hf⟩
theorem plain_lit (u : Nat) (n : Nat) (hn : n ≤ 32) (hu : u ≤ 9223372036854775808) : litL (plainL u n) = true := by
  obtain ⟨h1, h2, h3⟩ := plain_parts u n
  have hl := digs_len 9 (u / 4294967296) (Nat.lt_of_lt_of_le (show u / 4294967296 < 10000000000 by omega) (Nat.le_of_eq rfl))
  have hs := strip_length (frac n (u % 4294967296))
  rw [frac_length] at hs
  have hd := strip_dig (frac_dig n (u % 4294967296) (Nat.mod_lt _ (by omega)))
  unfold litL digitsL
  rw [h1, h2, digs_dig, hd, decide_eq_true (digs_pos _), decide_eq_true hl, decide_eq_true (p := _ ≤ 40) (by omega)]
  have e1 : (decide (1 < (digs (u / 4294967296)).length) && (digs (u / 4294967296)).head? == some 48) = false := by
    rw [Bool.and_eq_false_iff]
    rcases Nat.eq_zero_or_pos (u / 4294967296) with h0 | h0
    · left; rw [h0, digs_small (by omega)]; rfl
    · right; exact beq_false_of_ne (digs_first _ h0)
  rw [e1]
  cases hp : pointed (plainL u n) with
  | false => rfl
  | true =>
    have h4 := h3 hp
    have : 1 ≤ (strip (frac n (u % 4294967296))).length := by
      rcases Nat.eq_zero_or_pos (strip (frac n (u % 4294967296))).length with h | h
      · exact absurd (List.eq_nil_of_length_eq_zero h) h4
      · exact h
    rw [decide_eq_true this]
    rfl
theorem plain_read (u : Nat) (hu : u ≤ 9223372036854775808) : readL (plainL u 32) = (u, true) := by
  obtain ⟨h1, h2, -⟩ := plain_parts u 32
  have hs : sizeL (plainL u 32) = u := by
    unfold sizeL
    rw [h1, h2, numL_digs, bitsL_strip, bitsL_frac _ (Nat.mod_lt _ (by omega))]
    omega
  unfold readL
  rw [if_pos ⟨plain_lit u 32 (by omega) hu, by rw [h1, numL_digs]; omega⟩, hs, decide_eq_true hu]
theorem plain_head (u n : Nat) : (plainL u n).head? ≠ some 45 := by
  have h := digs_dig (u / 4294967296)
  have hp := digs_pos (u / 4294967296)
  unfold plainL
  cases hd : digs (u / 4294967296) with
  | nil => rw [hd] at hp; simp at hp
  | cons c l =>
    rw [hd] at h
    simp only [List.all_cons, Bool.and_eq_true] at h
    have hc := isDig_iff.1 h.1
    intro e
    simp only [List.cons_append, List.head?_cons, Option.some.injEq] at e
    subst e
    have e45 : (45 : UInt8).toNat = 45 := rfl
    omega
theorem clip_32 : clip 32 = 32 := rfl
theorem signed_back (q : Int) (h1 : -9223372036854775808 ≤ q) (h2 : q ≤ 9223372036854775807) : signedL (shortL q 32) = (q, true) := by
  rw [shortL_plain, clip_32]
  by_cases hq : q < 0
  · rw [if_pos hq]
    show signedL (45 :: plainL q.natAbs 32) = _
    rw [signedL_minus, plain_read _ (by omega), if_pos rfl]
    show (-((q.natAbs : Nat) : Int), true) = _
    rw [show -((q.natAbs : Nat) : Int) = q by omega]
  · rw [if_neg hq, List.nil_append, signedL_plain (plain_head _ _)]
    unfold parseL
    rw [plain_read _ (by omega), if_pos ⟨rfl, by show q.natAbs ≤ _; omega⟩]
    show (((q.natAbs : Nat) : Int), true) = _
    rw [show ((q.natAbs : Nat) : Int) = q by omega]
theorem lit_minus (l : List UInt8) : litL (45 :: l) = false := by
  have h : ahead (45 :: l) = 45 :: ahead l := rfl
  unfold litL digitsL
  rw [h]
  have : (45 :: ahead l).all isDig = false := by simp only [List.all_cons]; rfl
  rw [this]
  simp
theorem lit_back (q : Int) (h1 : -9223372036854775808 ≤ q) (h2 : q ≤ 9223372036854775807) : litL (shortL q 32) = decide (0 ≤ q) := by
  rw [shortL_plain, clip_32]
  by_cases hq : q < 0
  · rw [if_pos hq, decide_eq_false (by omega)]
    exact lit_minus _
  · rw [if_neg hq, decide_eq_true (by omega), List.nil_append]
    exact plain_lit _ _ (by omega) (by omega)
theorem frac_take (m n b : Nat) (h : m ≤ n) : frac m b = (frac n b).take m := by
  induction n with
  | zero => obtain rfl : m = 0 := by omega
            rfl
  | succ n ih =>
    rcases Nat.lt_or_ge n m with hl | hl
    · obtain rfl : m = n + 1 := by omega
      rw [List.take_of_length_le (by rw [frac_length]; exact Nat.le_refl _)]
    · rw [frac_snoc, List.take_append_of_le_length (by rw [frac_length]; exact hl)]
      exact ih hl
theorem strip_prefix (l m : List UInt8) (h : l <+: m) : strip l <+: strip m := by
  obtain ⟨k, hk⟩ := strip_split l
  obtain ⟨j, hj⟩ := strip_split m
  rcases Nat.le_total l.length (strip m).length with hle | hge
  · have h1 : l <+: strip m := List.prefix_of_prefix_length_le h (by rw [hj]; simp [strip_strip, strip_zeros]) hle
    exact (show strip l <+: l by conv => rhs; rw [hk]
                                 exact List.prefix_append _ _).trans h1
  · have h0 : strip m <+: m := by conv => rhs; rw [hj]
                                  exact List.prefix_append _ _
    obtain ⟨r, hr⟩ := List.prefix_of_prefix_length_le h0 h hge
    have h2 : strip m ++ r <+: strip m ++ List.replicate j 48 := by rw [hr, ← hj]; exact h
    have h3 := (List.prefix_append_right_inj _).1 h2
    have h4 : r = List.replicate r.length 48 := List.eq_replicate_iff.2 ⟨rfl, fun x hx => List.eq_of_mem_replicate (h3.subset hx)⟩
    have : strip l = strip m := by rw [← hr, h4, strip_zeros, strip_strip]
    rw [this]
    exact List.prefix_refl _
theorem short_prefix (q n : Int) : shortL q n <+: shortL q 32 := by
  rw [shortL_plain, shortL_plain, clip_32]
  refine (List.prefix_append_right_inj _).2 ?_
  unfold plainL
  refine (List.prefix_append_right_inj _).2 ?_
  have h := strip_prefix _ _ (by rw [frac_take (clip n) 32 (q.natAbs % 4294967296) (by unfold clip; omega)]; exact List.take_prefix _ _ : frac (clip n) (q.natAbs % 4294967296) <+: frac 32 (q.natAbs % 4294967296))
  generalize strip (frac (clip n) (q.natAbs % 4294967296)) = f at h
  generalize strip (frac 32 (q.natAbs % 4294967296)) = g at h
  unfold tail
  by_cases hf : f = []
  · rw [if_pos hf]; exact List.nil_prefix
  · have hg : g ≠ [] := by rintro rfl; exact hf (List.prefix_nil.1 h)
    rw [if_neg hf, if_neg hg]
    exact List.cons_prefix_cons.2 ⟨rfl, h⟩
end Go.Proofs.YtfbpdfaofmocaaaDoor
