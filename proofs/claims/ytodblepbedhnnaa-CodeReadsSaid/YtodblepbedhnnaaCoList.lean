/- code.writeList: a list's length and its elements are handed to a taker. -/
import Derived.Test.YtodblepbedhnnaaCoTake
namespace Go.Proofs.Ytodblepbedhnnaa
open Go.RowKit Co

/-- a list's numbers -/
def numsL (l : List Int) : List Nat := fold (l.length : Int) :: l.map fold
def numsS (l : List Six) : List Nat := fold (l.length : Int) :: l.flatMap numsI
/-- slice s is read by index -/
def Ix (t sz : Nat) (s : Value) (b off : Nat) (j : Nat) : Prop := ∀ W, (Instr.indexAt t s (.int .i64 (j : Int))).run Try.prog W = .ok (.pointer (some ⟨b, off + j * sz, none⟩)) W
theorem ix_ints {o : Option Addr} {n cap b off : Nat} (h : 0 < n → o = some ⟨b, off, none⟩) {j : Nat} (hj : j < n) (hn : n ≤ 9223372036854775807) : Ix 22 1 (.slice o n cap) b off j := by
  intro W
  rw [h (by omega)]
  have h1 : (j : Int) < (n : Int) := by omega
  have h2 : (j : Int) ≤ 9223372036854775807 := by omega
  go_simp
theorem ix_i64s {o : Option Addr} {n cap b off : Nat} (h : 0 < n → o = some ⟨b, off, none⟩) {j : Nat} (hj : j < n) (hn : n ≤ 9223372036854775807) : Ix 23 1 (.slice o n cap) b off j := by
  intro W
  rw [h (by omega)]
  have h1 : (j : Int) < (n : Int) := by omega
  have h2 : (j : Int) ≤ 9223372036854775807 := by omega
  go_simp
theorem ix_sixes {o : Option Addr} {n cap b off : Nat} (h : 0 < n → o = some ⟨b, off, none⟩) {j : Nat} (hj : j < n) (hn : n ≤ 9223372036854775807) : Ix 24 6 (.slice o n cap) b off j := by
  intro W
  rw [h (by omega)]
  have h1 : (j : Int) < (n : Int) := by omega
  have h2 : (j : Int) ≤ 9223372036854775807 := by omega
  go_simp
theorem take_next {α : Type} {l : List α} {c : Nat} {x : α} (h : l[c]? = some x) : l.take (c + 1) = l.take c ++ [x] := by
  obtain ⟨h1, rfl⟩ := List.getElem?_eq_some_iff.1 h
  rw [List.take_succ_eq_append_getElem h1]
theorem take_num_len (l : List Int) (c : Nat) (us : List Nat) (_hc : c < l.length) {m : Nat} (hl : us.length + 1 * m + 1 ≤ 30000) (hm : m = l.length) {u : Nat} : (us ++ (u :: (l.take c).map fold)).length ≤ 30000 := by simp; omega
theorem six_len : ∀ (l : List Six), (l.flatMap numsI).length = 6 * l.length
  | [] => rfl
  | x :: l => by rw [List.flatMap_cons, List.length_append, six_len l, List.length_cons]; simp [numsI]; omega
theorem take_six_len (l : List Six) (c : Nat) (us : List Nat) (_hc : c < l.length) {m : Nat} (hl : us.length + 6 * m + 1 ≤ 30000) (hm : m = l.length) {u : Nat} : (us ++ (u :: (l.take c).flatMap numsI)).length + 6 ≤ 30000 := by
  rw [List.length_append, List.length_cons, six_len, List.length_take]; omega
theorem take_num_snoc {l : List Int} {c : Nat} {x : Int} (us : List Nat) (m : Int) (h : l[c]? = some x) : (us ++ (fold m :: (l.take c).map fold)) ++ [fold x] = us ++ (fold m :: (l.take (c + 1)).map fold) := by
  rw [take_next h]; simp
theorem take_six_snoc {l : List Six} {c : Nat} {x : Six} (us : List Nat) (m : Int) (h : l[c]? = some x) : (us ++ (fold m :: (l.take c).flatMap numsI)) ++ numsI x = us ++ (fold m :: (l.take (c + 1)).flatMap numsI) := by
  rw [take_next h]; simp
set_option maxHeartbeats 8000000 in
set_option maxRecDepth 100000 in
theorem wlist_int (n X : Nat) (w0 : World) (I : List Nat → World → Prop) (T : Taker n X w0 I) (l : List Int) (s : Value) (hL : IntsAt w0 s l) (hok : ∀ x ∈ l, i64 x) (us : List Nat) (hl : us.length + 1 * l.length + 1 ≤ 30000) (w : World) (hI : I us w) :
    Calls Try.prog 35 #[.func (.func n) #[] #[.pointer (some ⟨X, 0, none⟩)], s, .func (.func 36) #[] #[]] w fun e w' => e = .returned (.tuple #[]) ∧ I (us ++ numsL l) w' ∧ Fr X w w' := by
  have LEN := Lib.hid (wnum_int n X w0 I T (l.length : Int) (by unfold i64; omega) us (by omega) w hI)
  obtain ⟨o, cap, b, off, rfl, _, _, e1, c1⟩ := hL
  have N : Hid (∀ (v : Int) (vs : List Nat) (W : World), i64 v → vs.length ≤ 30000 → I vs W → Calls Try.prog 36 #[.func (.func n) #[] #[.pointer (some ⟨X, 0, none⟩)], .int .i64 v] W fun e w' => e = .returned (.tuple #[]) ∧ I (vs ++ [fold v]) w' ∧ Fr X W w') := Lib.hid fun v vs W h1 h2 h3 => wnum_int n X w0 I T v h1 vs h2 W h3
  obtain ⟨m, hm⟩ : ∃ m, m = l.length := ⟨_, rfl⟩
  rw [← hm] at LEN e1 c1 hl ⊢
  have HM := Lib.hid hm
  have E1 := Lib.hid e1
  have C1 := Lib.hid c1
  have HL := Lib.hid hl
  have HOK := Lib.hid hok
  have HT := Lib.hid T
  have hml : (m : Int) ≤ 30000 := by omega
  clear hm e1 c1 hl hok T hI
  go_enter Try.func35, Try.ntmps35
  go_wp2_with (go_at_call 36; (with_reducible refine LEN.out.mono ?_); rintro e w1 ⟨rfl, hI1, hF1⟩; have HI1 := Lib.hid hI1; have HF1 := Lib.hid hF1; clear hI1 hF1)
  go_loopw [14] (fun i wr => ∃ c : Nat, i = .int .i64 (c : Int) ∧ c ≤ m ∧ Hid (I (us ++ (fold (m : Int) :: (l.take c).map fold)) wr) ∧ Hid (Fr X w wr)) (fun i _ => match i with | .int _ z => m - z.toNat | _ => 0)
  case atStart => exact ⟨0, rfl, Nat.zero_le _, by rw [List.take_zero]; exact HI1, HF1⟩
  case round =>
    obtain ⟨c, rfl, hc, hJ, hF⟩ := hrel
    rcases Nat.lt_or_ge c m with hlt | hge
    · have hcl : (c : Int) < (m : Int) := by omega
      have hlt2 : c < l.length := by rw [← HM.out]; exact hlt
      obtain ⟨x, hx⟩ : ∃ x, l[c]? = some x := ⟨_, List.getElem?_eq_getElem hlt2⟩
      have xok := HOK.out x (List.mem_of_getElem? hx)
      have ix1 := ix_ints (cap := cap) E1.out hlt (by omega)
      have hlen := take_num_len l c us hlt2 HL.out HM.out (u := fold (m : Int))
      have hsn := take_num_snoc us (m : Int) hx
      have C := Lib.hid (N.out x _ _ xok hlen hJ.out)
      rw [hsn] at C
      have r1 := cell_on (HT.out.below hJ.out) (C1.out c hlt)
      rw [List.getD_eq_getElem?_getD, hx, Option.getD_some, Nat.mul_one] at r1
      have ix1 := ix1
      clear hlen hsn hJ hx xok hlt2
      unfold Ix at ix1
      go_wp2_with (go_at_call 36; (with_reducible refine C.out.mono ?_); rintro e w2 ⟨rfl, hI2, hF2⟩; have HI2 := Lib.hid hI2; have HF2 := Lib.hid hF2; clear hI2 hF2)
      exact ⟨⟨c + 1, by go_num, by omega, HI2, Lib.hid (hF.out.trans HF2.out)⟩, by simp; omega⟩
    · obtain rfl : c = m := by omega
      have hno : ¬ (c : Int) < (c : Int) := by omega
      have hend : I (us ++ numsL l) wr := by
        have := hJ.out
        rw [HM.out, List.take_length] at this
        exact this
      have HE := Lib.hid hend
      clear hend hJ
      go_wp2_with fail
      go_end0
      exact ⟨rfl, HE.out, hF.out⟩
set_option maxHeartbeats 8000000 in
set_option maxRecDepth 100000 in
theorem wlist_int64 (n X : Nat) (w0 : World) (I : List Nat → World → Prop) (T : Taker n X w0 I) (l : List Int) (s : Value) (hL : IntsAt w0 s l) (hok : ∀ x ∈ l, i64 x) (us : List Nat) (hl : us.length + 1 * l.length + 1 ≤ 30000) (w : World) (hI : I us w) :
    Calls Try.prog 37 #[.func (.func n) #[] #[.pointer (some ⟨X, 0, none⟩)], s, .func (.func 38) #[] #[]] w fun e w' => e = .returned (.tuple #[]) ∧ I (us ++ numsL l) w' ∧ Fr X w w' := by
  have LEN := Lib.hid (wnum_int n X w0 I T (l.length : Int) (by unfold i64; omega) us (by omega) w hI)
  obtain ⟨o, cap, b, off, rfl, _, _, e1, c1⟩ := hL
  have N : Hid (∀ (v : Int) (vs : List Nat) (W : World), i64 v → vs.length ≤ 30000 → I vs W → Calls Try.prog 38 #[.func (.func n) #[] #[.pointer (some ⟨X, 0, none⟩)], .int .i64 v] W fun e w' => e = .returned (.tuple #[]) ∧ I (vs ++ [fold v]) w' ∧ Fr X W w') := Lib.hid fun v vs W h1 h2 h3 => wnum_int64 n X w0 I T v h1 vs h2 W h3
  obtain ⟨m, hm⟩ : ∃ m, m = l.length := ⟨_, rfl⟩
  rw [← hm] at LEN e1 c1 hl ⊢
  have HM := Lib.hid hm
  have E1 := Lib.hid e1
  have C1 := Lib.hid c1
  have HL := Lib.hid hl
  have HOK := Lib.hid hok
  have HT := Lib.hid T
  have hml : (m : Int) ≤ 30000 := by omega
  clear hm e1 c1 hl hok T hI
  go_enter Try.func37, Try.ntmps37
  go_wp2_with (go_at_call 36; (with_reducible refine LEN.out.mono ?_); rintro e w1 ⟨rfl, hI1, hF1⟩; have HI1 := Lib.hid hI1; have HF1 := Lib.hid hF1; clear hI1 hF1)
  go_loopw [14] (fun i wr => ∃ c : Nat, i = .int .i64 (c : Int) ∧ c ≤ m ∧ Hid (I (us ++ (fold (m : Int) :: (l.take c).map fold)) wr) ∧ Hid (Fr X w wr)) (fun i _ => match i with | .int _ z => m - z.toNat | _ => 0)
  case atStart => exact ⟨0, rfl, Nat.zero_le _, by rw [List.take_zero]; exact HI1, HF1⟩
  case round =>
    obtain ⟨c, rfl, hc, hJ, hF⟩ := hrel
    rcases Nat.lt_or_ge c m with hlt | hge
    · have hcl : (c : Int) < (m : Int) := by omega
      have hlt2 : c < l.length := by rw [← HM.out]; exact hlt
      obtain ⟨x, hx⟩ : ∃ x, l[c]? = some x := ⟨_, List.getElem?_eq_getElem hlt2⟩
      have xok := HOK.out x (List.mem_of_getElem? hx)
      have ix1 := ix_i64s (cap := cap) E1.out hlt (by omega)
      have hlen := take_num_len l c us hlt2 HL.out HM.out (u := fold (m : Int))
      have hsn := take_num_snoc us (m : Int) hx
      have C := Lib.hid (N.out x _ _ xok hlen hJ.out)
      rw [hsn] at C
      have r1 := cell_on (HT.out.below hJ.out) (C1.out c hlt)
      rw [List.getD_eq_getElem?_getD, hx, Option.getD_some, Nat.mul_one] at r1
      have ix1 := ix1
      clear hlen hsn hJ hx xok hlt2
      unfold Ix at ix1
      go_wp2_with (go_at_call 38; (with_reducible refine C.out.mono ?_); rintro e w2 ⟨rfl, hI2, hF2⟩; have HI2 := Lib.hid hI2; have HF2 := Lib.hid hF2; clear hI2 hF2)
      exact ⟨⟨c + 1, by go_num, by omega, HI2, Lib.hid (hF.out.trans HF2.out)⟩, by simp; omega⟩
    · obtain rfl : c = m := by omega
      have hno : ¬ (c : Int) < (c : Int) := by omega
      have hend : I (us ++ numsL l) wr := by
        have := hJ.out
        rw [HM.out, List.take_length] at this
        exact this
      have HE := Lib.hid hend
      clear hend hJ
      go_wp2_with fail
      go_end0
      exact ⟨rfl, HE.out, hF.out⟩
set_option maxHeartbeats 8000000 in
set_option maxRecDepth 100000 in
theorem wlist_ins (n X : Nat) (w0 : World) (I : List Nat → World → Prop) (T : Taker n X w0 I) (l : List Six) (s : Value) (hL : SixesAt w0 s l) (hok : ∀ x ∈ l, x.ok) (us : List Nat) (hl : us.length + 6 * l.length + 1 ≤ 30000) (w : World) (hI : I us w) :
    Calls Try.prog 39 #[.func (.func n) #[] #[.pointer (some ⟨X, 0, none⟩)], s, .func (.func 40) #[] #[]] w fun e w' => e = .returned (.tuple #[]) ∧ I (us ++ numsS l) w' ∧ Fr X w w' := by
  have LEN := Lib.hid (wnum_int n X w0 I T (l.length : Int) (by unfold i64; omega) us (by omega) w hI)
  obtain ⟨o, cap, b, off, rfl, _, _, e1, c1⟩ := hL
  have N : Hid (∀ (x : Six) (vs : List Nat) (W : World), x.ok → vs.length + 6 ≤ 30000 → I vs W → Calls Try.prog 40 #[.func (.func n) #[] #[.pointer (some ⟨X, 0, none⟩)], .agg #[.int .i64 x.op, .int .i64 x.d, .int .i64 x.a, .int .i64 x.b, .int .i64 x.c, .int .i64 x.v]] W fun e w' => e = .returned (.tuple #[]) ∧ I (vs ++ numsI x) w' ∧ Fr X W w') := Lib.hid fun x vs W h1 h2 h3 => wins_any n X w0 I T x h1 vs h2 W h3
  obtain ⟨m, hm⟩ : ∃ m, m = l.length := ⟨_, rfl⟩
  rw [← hm] at LEN e1 c1 hl ⊢
  have HM := Lib.hid hm
  have E1 := Lib.hid e1
  have C1 := Lib.hid c1
  have HL := Lib.hid hl
  have HOK := Lib.hid hok
  have HT := Lib.hid T
  have hml : (m : Int) ≤ 30000 := by omega
  clear hm e1 c1 hl hok T hI
  go_enter Try.func39, Try.ntmps39
  go_wp2_with (go_at_call 36; (with_reducible refine LEN.out.mono ?_); rintro e w1 ⟨rfl, hI1, hF1⟩; have HI1 := Lib.hid hI1; have HF1 := Lib.hid hF1; clear hI1 hF1)
  go_loopw [14] (fun i wr => ∃ c : Nat, i = .int .i64 (c : Int) ∧ c ≤ m ∧ Hid (I (us ++ (fold (m : Int) :: (l.take c).flatMap numsI)) wr) ∧ Hid (Fr X w wr)) (fun i _ => match i with | .int _ z => m - z.toNat | _ => 0)
  case atStart => exact ⟨0, rfl, Nat.zero_le _, by rw [List.take_zero]; exact HI1, HF1⟩
  case round =>
    obtain ⟨c, rfl, hc, hJ, hF⟩ := hrel
    rcases Nat.lt_or_ge c m with hlt | hge
    · have hcl : (c : Int) < (m : Int) := by omega
      have hlt2 : c < l.length := by rw [← HM.out]; exact hlt
      obtain ⟨x, hx⟩ : ∃ x, l[c]? = some x := ⟨_, List.getElem?_eq_getElem hlt2⟩
      have xok := HOK.out x (List.mem_of_getElem? hx)
      have ix1 := ix_sixes (cap := cap) E1.out hlt (by omega)
      have hlen := take_six_len l c us hlt2 HL.out HM.out (u := fold (m : Int))
      have hsn := take_six_snoc us (m : Int) hx
      have HA := HT.out.more (.cells #[.int .i64 x.op, .int .i64 x.d, .int .i64 x.a, .int .i64 x.b, .int .i64 x.c, .int .i64 x.v] 59) hJ.out
      have HFA := Lib.hid (hF.out.trans (Fr.alloc (HT.out.lt hJ.out).1 (.cells #[.int .i64 x.op, .int .i64 x.d, .int .i64 x.a, .int .i64 x.b, .int .i64 x.c, .int .i64 x.v] 59)))
      have C := Lib.hid (N.out x _ _ xok hlen HA)
      rw [hsn] at C
      obtain ⟨r0, r1, r2, r3, r4, r5⟩ := (C1.out c hlt x hx).below (HT.out.below hJ.out)
      clear hlen hsn hJ hx xok hlt2 HA
      unfold Ix at ix1
      go_wp2_with (go_at_call 40; (with_reducible refine C.out.mono ?_); rintro e w2 ⟨rfl, hI2, hF2⟩; have HI2 := Lib.hid hI2; have HF2 := Lib.hid hF2; clear hI2 hF2)
      exact ⟨⟨c + 1, by go_num, by omega, HI2, Lib.hid (HFA.out.trans HF2.out)⟩, by simp; omega⟩
    · obtain rfl : c = m := by omega
      have hno : ¬ (c : Int) < (c : Int) := by omega
      have hend : I (us ++ numsS l) wr := by
        have := hJ.out
        rw [HM.out, List.take_length] at this
        exact this
      have HE := Lib.hid hend
      clear hend hJ
      go_wp2_with fail
      go_end0
      exact ⟨rfl, HE.out, hF.out⟩
end Go.Proofs.Ytodblepbedhnnaa
