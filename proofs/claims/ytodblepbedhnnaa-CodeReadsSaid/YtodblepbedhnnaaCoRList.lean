/- code.readList: a list is read. -/
import Derived.Test.YtodblepbedhnnaaCoIns
import Derived.Laws.MakeOwn
namespace Go.Proofs.Ytodblepbedhnnaa
open Go.RowKit Co

attribute [local go_sem] Oper.semAt_some

/-- a row that a call made: so many elements, so many cells -/
def NewRow (B : Nat) (T : TypeId) (n : Nat) (cs : List Value) (v : Value) (w' : World) : Prop :=
  (v = .slice none 0 0 ∧ n = 0) ∨ ∃ L, B ≤ L ∧ v = .slice (some ⟨L, 0, none⟩) n n ∧ n ≤ 1000000 ∧ w'.heap[L]? = some (.cells cs.toArray T (0, 0))
theorem NewRow.keep {B R : Nat} {T : TypeId} {n : Nat} {cs : List Value} {v : Value} {w w' : World} (h : NewRow B T n cs v w) (hR : R < B) (hs : Sm R w w') : NewRow B T n cs v w' := by
  rcases h with h | ⟨L, h1, h2, h3, h4⟩
  · exact .inl h
  · exact .inr ⟨L, h1, h2, h3, (hs.same _ (lt_of_heap h4) (by omega)).trans h4⟩
def iv (x : Int) : Value := .int .i64 x
def sixesV (l : List Six) : List Value := l.flatMap fun x => (sixV x).toList
theorem NewRow.ints {B : Nat} {T : TypeId} {l : List Int} {v : Value} {w : World} (h : NewRow B T l.length (l.map iv) v w) : IntsAt w v l := by
  rcases h with ⟨rfl, h⟩ | ⟨L, h1, rfl, h3, h4⟩
  · unfold IntsAt; rw [h]; exact slAt_none _ _ _ _ _ ⟨Nat.zero_le _, fun _ => rfl⟩ rfl
  · refine slAt_some (Nat.le_refl _) (by unfold maxLen; omega) fun i hi => ?_
    rw [Nat.zero_add, Nat.mul_one]
    simp [World.cell?, h4, List.getElem?_eq_getElem hi, List.getD, iv]
theorem flat_six : ∀ (l : List Six) (i : Nat) (x : Six), l[i]? = some x → ∀ j, j < 6 → (sixesV l)[i * 6 + j]? = (sixV x)[j]?
  | [], i, x, h, _, _ => by simp at h
  | y :: l, 0, x, h, j, hj => by
    simp at h
    subst h
    unfold sixesV
    rw [List.flatMap_cons, Nat.zero_mul, Nat.zero_add, List.getElem?_append_left (by simpa [sixV] using hj), Array.getElem?_toList]
  | y :: l, i + 1, x, h, j, hj => by
    have ih := flat_six l i x (by simpa using h) j hj
    unfold sixesV at ih ⊢
    rw [List.flatMap_cons, List.getElem?_append_right (by simp [sixV]; omega), ← ih]
    congr 1
    simp [sixV]
    omega
theorem NewRow.sixes {B : Nat} {T : TypeId} {l : List Six} {v : Value} {w : World} (h : NewRow B T l.length (sixesV l) v w) : SixesAt w v l := by
  rcases h with ⟨rfl, h⟩ | ⟨L, h1, rfl, h3, h4⟩
  · unfold SixesAt; rw [h]; exact slAt_none _ _ _ _ _ ⟨Nat.zero_le _, fun _ => rfl⟩ rfl
  · refine slAt_some (Nat.le_refl _) (by unfold maxLen; omega) fun i hi x hx => ?_
    have hc : ∀ j, j < 6 → w.cell? ⟨L, 0 + i * 6 + j, none⟩ = (sixV x)[j]? := fun j hj => by
      rw [← flat_six l i x hx j hj, Nat.zero_add]
      simp [World.cell?, h4]
    exact ⟨hc 0 (by omega), hc 1 (by omega), hc 2 (by omega), hc 3 (by omega), hc 4 (by omega), hc 5 (by omega)⟩
theorem int_parts : ∃ i, Try.prog.info? 3 = some i ∧ i.zero = some (.int .i64 0) ∧ i.size = 1 ∧ i.bytes = 8 := by
  have h : (Try.prog.info? 3).map (fun i => (i.zero, i.size, i.bytes)) = some (some (.int .i64 0), 1, 8) := by kernel_rfl
  obtain ⟨i, h1, h2⟩ := Option.map_eq_some_iff.1 h
  simp only [Prod.mk.injEq] at h2
  exact ⟨i, h1, h2.1, h2.2.1, h2.2.2⟩
theorem int64_parts : ∃ i, Try.prog.info? 2 = some i ∧ i.zero = some (.int .i64 0) ∧ i.size = 1 ∧ i.bytes = 8 := by
  have h : (Try.prog.info? 2).map (fun i => (i.zero, i.size, i.bytes)) = some (some (.int .i64 0), 1, 8) := by kernel_rfl
  obtain ⟨i, h1, h2⟩ := Option.map_eq_some_iff.1 h
  simp only [Prod.mk.injEq] at h2
  exact ⟨i, h1, h2.1, h2.2.1, h2.2.2⟩
theorem ins_parts : ∃ i, Try.prog.info? 59 = some i ∧ i.zero = some (.agg #[.int .i64 0, .int .i64 0, .int .i64 0, .int .i64 0, .int .i64 0, .int .i64 0]) ∧ i.size = 6 ∧ i.bytes = 48 := by
  have h : (Try.prog.info? 59).map (fun i => (i.zero, i.size, i.bytes)) = some (some (.agg #[.int .i64 0, .int .i64 0, .int .i64 0, .int .i64 0, .int .i64 0, .int .i64 0]), 6, 48) := by kernel_rfl
  obtain ⟨i, h1, h2⟩ := Option.map_eq_some_iff.1 h
  simp only [Prod.mk.injEq] at h2
  exact ⟨i, h1, h2.1, h2.2.1, h2.2.2⟩
theorem made_zero (n : Nat) : madeCells #[.int .i64 0] n = (List.replicate n (iv 0)).toArray := by
  apply Array.toList_inj.1
  rw [toList_madeCells_one]
  rfl
theorem made_six (n : Nat) : madeCells #[.int .i64 0, .int .i64 0, .int .i64 0, .int .i64 0, .int .i64 0, .int .i64 0] n = (List.replicate n (iv 0)).toArray := by
  apply Array.toList_inj.1
  apply List.ext_getElem?
  intro j
  rw [Array.getElem?_toList]
  unfold madeCells
  rw [Array.getElem?_map, List.getElem?_replicate]
  by_cases hj : j < n
  · rw [if_pos hj, Array.getElem?_range, if_pos hj]
    have h6 : j % 6 < 6 := Nat.mod_lt _ (by omega)
    show some _ = some _
    congr 1
    show #[Value.int .i64 0, .int .i64 0, .int .i64 0, .int .i64 0, .int .i64 0, .int .i64 0][j % 6]! = iv 0
    obtain ⟨k, hk⟩ : ∃ k, k = j % 6 := ⟨_, rfl⟩
    rw [← hk] at h6 ⊢
    match k, h6 with
    | 0, _ => rfl
    | 1, _ => rfl
    | 2, _ => rfl
    | 3, _ => rfl
    | 4, _ => rfl
    | 5, _ => rfl
  · rw [if_neg hj, Array.getElem?_range, if_neg hj]
    rfl
theorem make_ints (n : Nat) (hn : (n : Int) ≤ 1000000) (w : World) : (Instr.makeSlice 22 (.int .i64 (n : Int)) (.int .i64 (n : Int))).run Try.prog w = .ok (.slice (some ⟨w.heap.size, 0, none⟩) n n) (w.alloc (.cells (List.replicate n (iv 0)).toArray 3)) := by
  obtain ⟨i, h1, h2, h3, h4⟩ := int_parts
  have h := run_makeSlice (P := Try.prog) w 22 3 i (.int .i64 0) Try.underlying22 h1 h2 .i64 .i64 (n : Int) (n : Int) (by omega) (by omega) (by rw [h3]; omega) (by rw [h4]; omega) (by omega)
  rw [h3] at h
  rw [← made_zero]
  simpa [Value.cells] using h
theorem make_i64s (n : Nat) (hn : (n : Int) ≤ 1000000) (w : World) : (Instr.makeSlice 23 (.int .i64 (n : Int)) (.int .i64 (n : Int))).run Try.prog w = .ok (.slice (some ⟨w.heap.size, 0, none⟩) n n) (w.alloc (.cells (List.replicate n (iv 0)).toArray 2)) := by
  obtain ⟨i, h1, h2, h3, h4⟩ := int64_parts
  have h := run_makeSlice (P := Try.prog) w 23 2 i (.int .i64 0) Try.underlying23 h1 h2 .i64 .i64 (n : Int) (n : Int) (by omega) (by omega) (by rw [h3]; omega) (by rw [h4]; omega) (by omega)
  rw [h3] at h
  rw [← made_zero]
  simpa [Value.cells] using h
theorem make_sixes (n : Nat) (hn : (n : Int) ≤ 1000000) (w : World) : (Instr.makeSlice 24 (.int .i64 (n : Int)) (.int .i64 (n : Int))).run Try.prog w = .ok (.slice (some ⟨w.heap.size, 0, none⟩) n n) (w.alloc (.cells (List.replicate (n * 6) (iv 0)).toArray 59)) := by
  obtain ⟨i, h1, h2, h3, h4⟩ := ins_parts
  have h := run_makeSlice (P := Try.prog) w 24 59 i (.agg #[.int .i64 0, .int .i64 0, .int .i64 0, .int .i64 0, .int .i64 0, .int .i64 0]) Try.underlying24 h1 h2 .i64 .i64 (n : Int) (n : Int) (by omega) (by omega) (by rw [h3]; omega) (by rw [h4]; omega) (by omega)
  rw [h3] at h
  rw [← made_six]
  simpa [Value.cells] using h
/-- in the loop: so many are read -/
structure LiJ (w0 : World) (R L : Nat) (T : TypeId) (s : St) (cs : List Value) (w wr : World) : Prop where
  rd : Rd w0 R s wr
  row : wr.heap[L]? = some (.cells cs.toArray T (0, 0))
  sm : Sm R w wr
theorem liJ_start {w0 w w1 : World} {R : Nat} {s : St} {T : TypeId} {cs : List Value} (h : Rd w0 R s w1) (hs : Sm R w w1) : LiJ w0 R w1.heap.size T s cs w (w1.alloc (.cells cs.toArray T)) := ⟨h.alloc _, heap_alloc_new w1 _, hs.trans (Sm.alloc R w1 _)⟩
theorem LiJ.next {w0 w wr w1 : World} {R L : Nat} {T : TypeId} {s s' : St} {cs : List Value} (h : LiJ w0 R L T s cs w wr) (hR : R < L) (h1 : Rd w0 R s' w1) (h2 : Sm R wr w1) :
    LiJ w0 R L T s' cs w w1 := ⟨h1, (h2.same _ (lt_of_heap h.row) (by omega)).trans h.row, h.sm.trans h2⟩
theorem LiJ.put {w0 w wr : World} {R L : Nat} {T : TypeId} {s : St} {cs : List Value} (h : LiJ w0 R L T s cs w wr) (hL : w.heap.size ≤ L) (hR : R < L) (hl : w0.heap.size ≤ L) (i : Nat) (v : Value) : LiJ w0 R L T s (cs.set i v) w (wr.setCell ⟨L, i, none⟩ v) := by
  refine ⟨h.rd.other (by omega) hl v, ?_, h.sm.own hL v⟩
  have h1 := set_heap h.row i v
  rw [List.setIfInBounds_toArray] at h1
  exact h1
theorem LiJ.at {w0 w wr : World} {R L : Nat} {T : TypeId} {s : St} {cs : List Value} (h : LiJ w0 R L T s cs w wr) {i : Nat} {v : Value} (hi : cs[i]? = some v) : wr.cell? ⟨L, i, none⟩ = some v ∧ wr.frozen? ⟨L, i, none⟩ = false :=
  ⟨by simp [World.cell?, h.row, hi], by simp [World.frozen?, h.row]⟩
theorem row_put {A : List Value} {m : Nat} {v z : Value} : (A ++ List.replicate (m + 1) z).set A.length v = (A ++ [v]) ++ List.replicate m z := by
  rw [List.set_append_right _ _ (Nat.le_refl _), Nat.sub_self, List.replicate_succ]; simp
theorem row_next {A : List Value} {m : Nat} {z : Value} : (A ++ List.replicate (m + 1) z)[A.length]? = some z := by
  rw [List.getElem?_append_right (Nat.le_refl _), Nat.sub_self]; rfl
theorem ix_off0 {t : TypeId} {sz L n c : Nat} (h : Ix t sz (.slice (some ⟨L, 0, none⟩) n n) L 0 c) (W : World) : (Instr.indexAt t (.slice (some ⟨L, 0, none⟩) n n) (.int .i64 (c : Int))).run Try.prog W = .ok (.pointer (some ⟨L, c * sz, none⟩)) W := by
  have := h W
  rwa [Nat.zero_add] at this
set_option maxHeartbeats 8000000 in
set_option maxRecDepth 100000 in
theorem rlist_int (w0 : World) (R : Nat) (s : St) (w : World) (h : Rd w0 R s w) :
    Calls Try.prog 41 #[.pointer (some ⟨R, 0, none⟩), .int .i64 1, .func (.func 42) #[] #[]] w fun e w' => ∃ v, e = .returned v ∧ NewRow w.heap.size 3 (lst 1 num s).1.length ((lst 1 num s).1.map iv) v w' ∧ Rd w0 R (lst 1 num s).2 w' ∧ Sm R w w' := by
  have C := Lib.hid (count1_any w0 R s w h)
  have HRL := Lib.hid h.lt
  have HWL := Lib.hid h.below.size
  have LE := Lib.hid (cnt_le 1 s w0 R)
  unfold lst
  obtain ⟨n, hn⟩ : ∃ n, n = (cnt 1 s).1 := ⟨_, rfl⟩
  obtain ⟨s1, hs1⟩ : ∃ s1, s1 = (cnt 1 s).2 := ⟨_, rfl⟩
  rw [← hn, ← hs1] at C LE ⊢
  clear hn hs1 h
  go_enter Try.func41, Try.ntmps41
  by_cases hn0 : n = 0
  · subst hn0
    have C0 : Hid (Calls Try.prog 51 #[.pointer (some ⟨R, 0, none⟩), .int .i64 1] w fun e w' => e = .returned (.int .i64 0) ∧ Rd w0 R s1 w' ∧ Sm R w w') := C
    clear C
    go_wp2_with (go_at_call 51; (with_reducible refine C0.out.mono ?_); rintro e w1 ⟨rfl, h2, h3⟩; have H2 := Lib.hid h2; have H3 := Lib.hid h3; clear h2 h3)
    go_ret
    exact ⟨_, rfl, .inl ⟨rfl, rfl⟩, H2.out, H3.out⟩
  · have hq : ((n : Int) == 0) = false := by simpa using hn0
    go_wp2_with (go_at_call 51; (with_reducible refine C.out.mono ?_); rintro e w1 ⟨rfl, h2, h3⟩; have hle := LE.out w1 h2; have hnl : (n : Int) ≤ 1000000 := (by omega); have hmk := make_ints n hnl w1; have HST := Lib.hid (liJ_start (T := 3) (cs := List.replicate n (iv 0)) h2 h3); have hz := h3.size; clear h2 h3 hle)
    obtain ⟨L, hL⟩ : ∃ L, L = w1.heap.size := ⟨_, rfl⟩
    rw [← hL] at HST hz ⊢
    clear hmk hL
    go_loopw [19] (fun i wr => ∃ c : Nat, i = .int .i64 (c : Int) ∧ c ≤ n ∧ Hid (LiJ w0 R L 3 (many num c s1).2 ((many num c s1).1.map iv ++ List.replicate (n - c) (iv 0)) w wr)) (fun i _ => match i with | .int _ z => n - z.toNat | _ => 0)
    case atStart => exact ⟨0, rfl, by omega, HST⟩
    case round =>
      obtain ⟨c, rfl, hc, hJ⟩ := hrel
      rcases Nat.lt_or_ge c n with hlt | hge
      · have hcl : (c : Int) < (n : Int) := by omega
        have RN := Lib.hid (rnum_int w0 R (many num c s1).2 wr hJ.out.rd)
        have hsn := many_snoc num c s1
        have hl0 := many_length num c s1
        obtain ⟨m, hm⟩ : ∃ m, n - c = m + 1 := ⟨n - c - 1, by omega⟩
        have hm2 : n - (c + 1) = m := by omega
        have hrow : ((many num c s1).1.map iv ++ List.replicate (n - c) (iv 0))[c]? = some (iv 0) := by
          rw [hm]
          have := row_next (A := (many num c s1).1.map iv) (m := m) (z := iv 0)
          rwa [List.length_map, hl0] at this
        obtain ⟨x, hx⟩ : ∃ x, x = (num (many num c s1).2).1 := ⟨_, rfl⟩
        have hset : ((many num c s1).1.map iv ++ List.replicate (n - c) (iv 0)).set c (iv x) = (many num (c + 1) s1).1.map iv ++ List.replicate (n - (c + 1)) (iv 0) := by
          rw [hm, hm2, hsn, hx]
          have := row_put (A := (many num c s1).1.map iv) (m := m) (z := iv 0) (v := iv (num (many num c s1).2).1)
          rw [List.length_map, hl0] at this
          rw [this]
          simp
        have hs2 : (many num (c + 1) s1).2 = (num (many num c s1).2).2 := by rw [hsn]
        rw [← hx, ← hs2] at RN
        have HSET := Lib.hid hset
        have HROW := Lib.hid hrow
        have ix1 := ix_off0 (n := n) (L := L) (ix_ints (o := some ⟨L, 0, none⟩) (cap := n) (fun _ => rfl) hlt (by omega))
        rw [Nat.mul_one] at ix1
        clear hsn hl0 hm hm2 hrow hx hset hs2
        go_wp2_with (go_at_call 42; (with_reducible refine RN.out.mono ?_); rintro e w2 ⟨rfl, h2, h3⟩; have HJ2 := Lib.hid (hJ.out.next (by have := HRL.out; omega) h2 h3); obtain ⟨e0, e1⟩ := HJ2.out.at HROW.out; unfold iv at e0; clear h2 h3)
        refine ⟨⟨c + 1, by go_num, by omega, ?_⟩, by simp; omega⟩
        have hp := HJ2.out.put hz (by have := HRL.out; omega) (by have := HWL.out; omega) c (iv x)
        rw [HSET.out] at hp
        exact Lib.hid hp
      · obtain rfl : c = n := by omega
        have hno : ¬ (c : Int) < (c : Int) := by omega
        go_wp2_with fail
        go_ret
        have hl := many_length num c s1
        have hr := hJ.out.row
        rw [Nat.sub_self, List.replicate_zero, List.append_nil] at hr
        exact ⟨_, rfl, .inr ⟨L, hz, by rw [hl]; rfl, by rw [hl]; omega, hr⟩, hJ.out.rd, hJ.out.sm⟩
set_option maxHeartbeats 8000000 in
set_option maxRecDepth 100000 in
theorem rlist_int64 (w0 : World) (R : Nat) (s : St) (w : World) (h : Rd w0 R s w) :
    Calls Try.prog 43 #[.pointer (some ⟨R, 0, none⟩), .int .i64 1, .func (.func 44) #[] #[]] w fun e w' => ∃ v, e = .returned v ∧ NewRow w.heap.size 2 (lst 1 num s).1.length ((lst 1 num s).1.map iv) v w' ∧ Rd w0 R (lst 1 num s).2 w' ∧ Sm R w w' := by
  have C := Lib.hid (count1_any w0 R s w h)
  have HRL := Lib.hid h.lt
  have HWL := Lib.hid h.below.size
  have LE := Lib.hid (cnt_le 1 s w0 R)
  unfold lst
  obtain ⟨n, hn⟩ : ∃ n, n = (cnt 1 s).1 := ⟨_, rfl⟩
  obtain ⟨s1, hs1⟩ : ∃ s1, s1 = (cnt 1 s).2 := ⟨_, rfl⟩
  rw [← hn, ← hs1] at C LE ⊢
  clear hn hs1 h
  go_enter Try.func43, Try.ntmps43
  by_cases hn0 : n = 0
  · subst hn0
    have C0 : Hid (Calls Try.prog 51 #[.pointer (some ⟨R, 0, none⟩), .int .i64 1] w fun e w' => e = .returned (.int .i64 0) ∧ Rd w0 R s1 w' ∧ Sm R w w') := C
    clear C
    go_wp2_with (go_at_call 51; (with_reducible refine C0.out.mono ?_); rintro e w1 ⟨rfl, h2, h3⟩; have H2 := Lib.hid h2; have H3 := Lib.hid h3; clear h2 h3)
    go_ret
    exact ⟨_, rfl, .inl ⟨rfl, rfl⟩, H2.out, H3.out⟩
  · have hq : ((n : Int) == 0) = false := by simpa using hn0
    go_wp2_with (go_at_call 51; (with_reducible refine C.out.mono ?_); rintro e w1 ⟨rfl, h2, h3⟩; have hle := LE.out w1 h2; have hnl : (n : Int) ≤ 1000000 := (by omega); have hmk := make_i64s n hnl w1; have HST := Lib.hid (liJ_start (T := 2) (cs := List.replicate n (iv 0)) h2 h3); have hz := h3.size; clear h2 h3 hle)
    obtain ⟨L, hL⟩ : ∃ L, L = w1.heap.size := ⟨_, rfl⟩
    rw [← hL] at HST hz ⊢
    clear hmk hL
    go_loopw [19] (fun i wr => ∃ c : Nat, i = .int .i64 (c : Int) ∧ c ≤ n ∧ Hid (LiJ w0 R L 2 (many num c s1).2 ((many num c s1).1.map iv ++ List.replicate (n - c) (iv 0)) w wr)) (fun i _ => match i with | .int _ z => n - z.toNat | _ => 0)
    case atStart => exact ⟨0, rfl, by omega, HST⟩
    case round =>
      obtain ⟨c, rfl, hc, hJ⟩ := hrel
      rcases Nat.lt_or_ge c n with hlt | hge
      · have hcl : (c : Int) < (n : Int) := by omega
        have RN := Lib.hid (rnum_int64 w0 R (many num c s1).2 wr hJ.out.rd)
        have hsn := many_snoc num c s1
        have hl0 := many_length num c s1
        obtain ⟨m, hm⟩ : ∃ m, n - c = m + 1 := ⟨n - c - 1, by omega⟩
        have hm2 : n - (c + 1) = m := by omega
        have hrow : ((many num c s1).1.map iv ++ List.replicate (n - c) (iv 0))[c]? = some (iv 0) := by
          rw [hm]
          have := row_next (A := (many num c s1).1.map iv) (m := m) (z := iv 0)
          rwa [List.length_map, hl0] at this
        obtain ⟨x, hx⟩ : ∃ x, x = (num (many num c s1).2).1 := ⟨_, rfl⟩
        have hset : ((many num c s1).1.map iv ++ List.replicate (n - c) (iv 0)).set c (iv x) = (many num (c + 1) s1).1.map iv ++ List.replicate (n - (c + 1)) (iv 0) := by
          rw [hm, hm2, hsn, hx]
          have := row_put (A := (many num c s1).1.map iv) (m := m) (z := iv 0) (v := iv (num (many num c s1).2).1)
          rw [List.length_map, hl0] at this
          rw [this]
          simp
        have hs2 : (many num (c + 1) s1).2 = (num (many num c s1).2).2 := by rw [hsn]
        rw [← hx, ← hs2] at RN
        have HSET := Lib.hid hset
        have HROW := Lib.hid hrow
        have ix1 := ix_off0 (n := n) (L := L) (ix_i64s (o := some ⟨L, 0, none⟩) (cap := n) (fun _ => rfl) hlt (by omega))
        rw [Nat.mul_one] at ix1
        clear hsn hl0 hm hm2 hrow hx hset hs2
        go_wp2_with (go_at_call 44; (with_reducible refine RN.out.mono ?_); rintro e w2 ⟨rfl, h2, h3⟩; have HJ2 := Lib.hid (hJ.out.next (by have := HRL.out; omega) h2 h3); obtain ⟨e0, e1⟩ := HJ2.out.at HROW.out; unfold iv at e0; clear h2 h3)
        refine ⟨⟨c + 1, by go_num, by omega, ?_⟩, by simp; omega⟩
        have hp := HJ2.out.put hz (by have := HRL.out; omega) (by have := HWL.out; omega) c (iv x)
        rw [HSET.out] at hp
        exact Lib.hid hp
      · obtain rfl : c = n := by omega
        have hno : ¬ (c : Int) < (c : Int) := by omega
        go_wp2_with fail
        go_ret
        have hl := many_length num c s1
        have hr := hJ.out.row
        rw [Nat.sub_self, List.replicate_zero, List.append_nil] at hr
        exact ⟨_, rfl, .inr ⟨L, hz, by rw [hl]; rfl, by rw [hl]; omega, hr⟩, hJ.out.rd, hJ.out.sm⟩
theorem six_put {A : List Value} {m : Nat} {z v0 v1 v2 v3 v4 v5 : Value} : ((((((A ++ List.replicate (m + 6) z).set A.length v0).set (A.length + 1) v1).set (A.length + 2) v2).set (A.length + 3) v3).set (A.length + 4) v4).set (A.length + 5) v5 = (A ++ [v0, v1, v2, v3, v4, v5]) ++ List.replicate m z := by
  have e : List.replicate (m + 6) z = z :: z :: z :: z :: z :: z :: List.replicate m z := rfl
  rw [e]
  have st : ∀ (B : List Value) (j : Nat) (v : Value), (A ++ B).set (A.length + j) v = A ++ B.set j v := fun B j v => by
    rw [List.set_append_right _ _ (by omega), Nat.add_sub_cancel_left]
  have s0 : ∀ (B : List Value) (v : Value), (A ++ B).set A.length v = A ++ B.set 0 v := fun B v => st B 0 v
  rw [s0, st, st, st, st, st]
  simp
theorem six_next {A : List Value} {m j : Nat} {z : Value} (hj : j < 6) : (A ++ List.replicate (m + 6) z)[A.length + j]? = some z := by
  rw [List.getElem?_append_right (by omega), Nat.add_sub_cancel_left, List.getElem?_replicate, if_pos (by omega)]
theorem sixesV_len : ∀ (l : List Six), (sixesV l).length = l.length * 6
  | [] => rfl
  | x :: l => by unfold sixesV; rw [List.flatMap_cons, List.length_append]; have := sixesV_len l; unfold sixesV at this; rw [this, List.length_cons]; simp [sixV]; omega
set_option maxHeartbeats 16000000 in
set_option maxRecDepth 100000 in
theorem rlist_ins (w0 : World) (R : Nat) (s : St) (w : World) (h : Rd w0 R s w) :
    Calls Try.prog 45 #[.pointer (some ⟨R, 0, none⟩), .int .i64 6, .func (.func 46) #[] #[]] w fun e w' => ∃ v, e = .returned v ∧ NewRow w.heap.size 59 (lst 6 six s).1.length (sixesV (lst 6 six s).1) v w' ∧ Rd w0 R (lst 6 six s).2 w' ∧ Sm R w w' := by
  have C := Lib.hid (count6_any w0 R s w h)
  have HRL := Lib.hid h.lt
  have HWL := Lib.hid h.below.size
  have LE := Lib.hid (cnt_le 6 s w0 R)
  unfold lst
  obtain ⟨n, hn⟩ : ∃ n, n = (cnt 6 s).1 := ⟨_, rfl⟩
  obtain ⟨s1, hs1⟩ : ∃ s1, s1 = (cnt 6 s).2 := ⟨_, rfl⟩
  rw [← hn, ← hs1] at C LE ⊢
  clear hn hs1 h
  go_enter Try.func45, Try.ntmps45
  by_cases hn0 : n = 0
  · subst hn0
    have C0 : Hid (Calls Try.prog 51 #[.pointer (some ⟨R, 0, none⟩), .int .i64 6] w fun e w' => e = .returned (.int .i64 0) ∧ Rd w0 R s1 w' ∧ Sm R w w') := C
    clear C
    go_wp2_with (go_at_call 51; (with_reducible refine C0.out.mono ?_); rintro e w1 ⟨rfl, h2, h3⟩; have H2 := Lib.hid h2; have H3 := Lib.hid h3; clear h2 h3)
    go_ret
    exact ⟨_, rfl, .inl ⟨rfl, rfl⟩, H2.out, H3.out⟩
  · have hq : ((n : Int) == 0) = false := by simpa using hn0
    go_wp2_with (go_at_call 51; (with_reducible refine C.out.mono ?_); rintro e w1 ⟨rfl, h2, h3⟩; have hle := LE.out w1 h2; have hnl : (n : Int) ≤ 1000000 := (by omega); have hmk := make_sixes n hnl w1; have HST := Lib.hid (liJ_start (T := 59) (cs := List.replicate (n * 6) (iv 0)) h2 h3); have hz := h3.size; clear h2 h3 hle)
    obtain ⟨L, hL⟩ : ∃ L, L = w1.heap.size := ⟨_, rfl⟩
    rw [← hL] at HST hz ⊢
    clear hmk hL
    go_loopw [19] (fun i wr => ∃ c : Nat, i = .int .i64 (c : Int) ∧ c ≤ n ∧ Hid (LiJ w0 R L 59 (many six c s1).2 (sixesV (many six c s1).1 ++ List.replicate ((n - c) * 6) (iv 0)) w wr)) (fun i _ => match i with | .int _ z => n - z.toNat | _ => 0)
    case atStart => exact ⟨0, rfl, by omega, HST⟩
    case round =>
      obtain ⟨c, rfl, hc, hJ⟩ := hrel
      rcases Nat.lt_or_ge c n with hlt | hge
      · have hcl : (c : Int) < (n : Int) := by omega
        have RN := Lib.hid (rins_any w0 R (many six c s1).2 wr hJ.out.rd)
        have hsn := many_snoc six c s1
        have hl0 := many_length six c s1
        have hl6 : (sixesV (many six c s1).1).length = c * 6 := by rw [sixesV_len, hl0]
        obtain ⟨m, hm⟩ : ∃ m, n - c = m + 1 := ⟨n - c - 1, by omega⟩
        have hm2 : n - (c + 1) = m := by omega
        have hm6 : (n - c) * 6 = m * 6 + 6 := by omega
        have hrow : ∀ j, j < 6 → (sixesV (many six c s1).1 ++ List.replicate ((n - c) * 6) (iv 0))[c * 6 + j]? = some (iv 0) := fun j hj => by
          rw [hm6, ← hl6]
          exact six_next hj
        obtain ⟨x, hx⟩ : ∃ x, x = (six (many six c s1).2).1 := ⟨_, rfl⟩
        have hset : (((((((sixesV (many six c s1).1 ++ List.replicate ((n - c) * 6) (iv 0)).set (c * 6) (iv x.op)).set (c * 6 + 1) (iv x.d)).set (c * 6 + 2) (iv x.a)).set (c * 6 + 3) (iv x.b)).set (c * 6 + 4) (iv x.c)).set (c * 6 + 5) (iv x.v)) = sixesV (many six (c + 1) s1).1 ++ List.replicate ((n - (c + 1)) * 6) (iv 0) := by
          rw [hm6, hm2, hsn, ← hl6, six_put, hx]
          unfold sixesV
          rw [List.flatMap_append]
          rfl
        have hs2 : (many six (c + 1) s1).2 = (six (many six c s1).2).2 := by rw [hsn]
        rw [← hx, ← hs2] at RN
        unfold sixV at RN
        have HSET := Lib.hid hset
        have HROW := Lib.hid hrow
        have ix1 := ix_off0 (n := n) (L := L) (ix_sixes (o := some ⟨L, 0, none⟩) (cap := n) (fun _ => rfl) hlt (by omega))
        clear hsn hl0 hl6 hm hm2 hm6 hrow hx hset hs2
        go_wp2_with (go_at_call 46; (with_reducible refine RN.out.mono ?_); rintro e w2 ⟨rfl, h2, h3⟩; have HJ2 := Lib.hid (hJ.out.next (by have := HRL.out; omega) h2 h3); obtain ⟨e0, g0⟩ := HJ2.out.at (HROW.out 0 (by omega)); obtain ⟨e1, g1⟩ := HJ2.out.at (HROW.out 1 (by omega)); obtain ⟨e2, g2⟩ := HJ2.out.at (HROW.out 2 (by omega)); obtain ⟨e3, g3⟩ := HJ2.out.at (HROW.out 3 (by omega)); obtain ⟨e4, g4⟩ := HJ2.out.at (HROW.out 4 (by omega)); obtain ⟨e5, g5⟩ := HJ2.out.at (HROW.out 5 (by omega)); unfold iv at e0 e1 e2 e3 e4 e5; rw [Nat.add_zero] at e0 g0; clear h2 h3)
        refine ⟨⟨c + 1, by go_num, by omega, ?_⟩, by simp; omega⟩
        have a1 : w.heap.size ≤ L := hz
        have a2 : R < L := by have := HRL.out; omega
        have a3 : w0.heap.size ≤ L := by have := HWL.out; omega
        have hp := (((((HJ2.out.put a1 a2 a3 (c * 6) (iv x.op)).put a1 a2 a3 (c * 6 + 1) (iv x.d)).put a1 a2 a3 (c * 6 + 2) (iv x.a)).put a1 a2 a3 (c * 6 + 3) (iv x.b)).put a1 a2 a3 (c * 6 + 4) (iv x.c)).put a1 a2 a3 (c * 6 + 5) (iv x.v)
        rw [HSET.out] at hp
        exact Lib.hid hp
      · obtain rfl : c = n := by omega
        have hno : ¬ (c : Int) < (c : Int) := by omega
        go_wp2_with fail
        go_ret
        have hl := many_length six c s1
        have hr := hJ.out.row
        rw [Nat.sub_self, Nat.zero_mul, List.replicate_zero, List.append_nil] at hr
        exact ⟨_, rfl, .inr ⟨L, hz, by rw [hl]; rfl, by rw [hl]; omega, hr⟩, hJ.out.rd, hJ.out.sm⟩
end Go.Proofs.Ytodblepbedhnnaa
