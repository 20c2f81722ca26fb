/- Joined: LexReader. -/
import Derived.Test.YtlbhlncipajapaaGreatDoorPe04
import Derived.Laws.EntriesVeiled
namespace Go.Proofs.YtlbhlncipajapaaGreatDoor.Lx
open Go.RowKit

/-- a token comes back, its parts written out -/
def TokRet (k v a : Int) (S : ByteArray) (w : World) (e : Ending) (w' : World) : Prop := e = .returned (.agg #[.int .i64 k, .string S, .int .i64 v, .int .i64 a]) ∧ Below w.heap.size w w'
set_option maxHeartbeats 4000000 in
theorem token_core (l : List UInt8) (n : Nat) (hn : Hid (l.length = n)) (nl : (n : Int) ≤ 30000) (hs : (str l).size = n) (b : Nat) (v1 v2 v5 : Value) (k3 k4 : FuncId) (lb3 lb4 : Array Value) (a : Nat) (ha : a < n) (w : World)
    (hr : Hid (Reader w b v1 v2 (.func (.func k3) #[] lb3) (.func (.func k4) #[] lb4) v5)) (hS : Hid (Signs w))
    (ek3 : ∀ args w, (callFunc k3 args).run Tryz.prog w = .ok (.enter k3 args) w) (ek4 : ∀ args w, (callFunc k4 args).run Tryz.prog w = .ok (.enter k4 args) w)
    (hc3 : Hid (∀ w', Below w.heap.size w w' → ∀ c : UInt8, Calls Tryz.prog k3 (#[.int .u8 (c.toNat : Int)] ++ lb3) w' fun e w'' => e = .returned (.bool (isDig c)) ∧ w'' = w'))
    (hc4 : Hid (∀ w', Below w.heap.size w w' → ∀ c : UInt8, Calls Tryz.prog k4 (#[.int .u8 (c.toNat : Int)] ++ lb4) w' fun e w'' => e = .returned (.bool (isLetter c)) ∧ w'' = w')) :
    Calls Tryz.prog 84 #[.agg #[.string (str l), .map (some b), v1, v2, .func (.func k3) #[] lb3, .func (.func k4) #[] lb4, v5], .int .i64 (a : Int)] w fun e w' => TokPost (tokAt l a) w e w' := by
  obtain ⟨c, hc⟩ := isBehind hn.out ha
  have hix : ∀ h, (str l)[a]'h = c := fun h => str_at l hc h
  have HC := Lib.hid hc
  clear hc
  have hal : (a : Int) < (n : Int) := by omega
  have hb0 := Lib.hid (((Below.refl w.heap.size w).alloc (Nat.le_refl _) (.cells #[.string (str l), .map (some b), v1, v2, .func (.func k3) #[] lb3, .func (.func k4) #[] lb4, v5] 118)).alloc (by simp) (.cells #[.int .i64 0, .string ⟨#[]⟩, .int .i64 0, .int .i64 0] 43))
  have hM0 := Lib.hid (show RoomAt ((w.alloc (.cells #[.string (str l), .map (some b), v1, v2, .func (.func k3) #[] lb3, .func (.func k4) #[] lb4, v5] 118)).alloc (.cells #[.int .i64 0, .string ⟨#[]⟩, .int .i64 0, .int .i64 0] 43)) (w.heap.size + 1) by have := roomAt_new (w.alloc (.cells #[.string (str l), .map (some b), v1, v2, .func (.func k3) #[] lb3, .func (.func k4) #[] lb4, v5] 118)) 43; rwa [World.size_alloc] at this)
  have C4 := Lib.hid (hc4.out _ hb0.out c)
  have C3 := Lib.hid (hc3.out _ hb0.out c)
  obtain ⟨kk, vv, aa, S, HTK⟩ : ∃ kk vv aa S, Hid (∀ (w : World) (e : Ending) (w' : World), TokPost (tokAt l a) w e w' = TokRet kk vv aa S w e w') := ⟨_, _, _, _, Lib.hid fun _ _ _ => rfl⟩
  suffices goal : Calls Tryz.prog 84 #[.agg #[.string (str l), .map (some b), v1, v2, .func (.func k3) #[] lb3, .func (.func k4) #[] lb4, v5], .int .i64 (a : Int)] w fun e w' => TokRet kk vv aa S w e w' from
    goal.mono fun e w' h => by rw [HTK.out]; exact h
  obtain ⟨b4, hb4⟩ : ∃ x, x = isLetter c := ⟨_, rfl⟩
  rw [← hb4] at C4
  have H4 := Lib.hid hb4
  clear hb4
  obtain ⟨b3, hb3⟩ : ∃ x, x = isDig c := ⟨_, rfl⟩
  rw [← hb3] at C3
  have H3 := Lib.hid hb3
  clear hb3
  have nl' := Lib.hid (show l.length ≤ 30000 by rw [hn.out]; omega)
  cases b4 with
  | true =>
    have CN := Lib.hid ((name_any l nl'.out b v1 v2 (.func (.func k3) #[] lb3) (.func (.func k4) #[] lb4) v5 a c HC.out H4.out.symm _ (hr.out.mono hb0.out)).mono fun e w' h => (HTK.out _ e w').mp h)
    go_enter Tryz.func84, Tryz.ntmps84
    go_wp2_with (first | (go_at_call 99; ((with_reducible refine CN.out.mono ?_); rintro e w2 ⟨rfl, hb2⟩; obtain ⟨r0, r1, r2, r3, f0, f1, f2, f3⟩ := hM0.out.below hb2 (by simp); have HB2 := Lib.hid hb2; clear hb2)) | ((with_reducible refine C4.out.mono ?_); rintro e w' ⟨rfl, rfl⟩))
    exact bodyPost_ret (v := .agg #[.int .i64 kk, .string S, .int .i64 vv, .int .i64 aa]) (by simp [results, Tryz.results84, go_sem, r0, r1, r2, r3]) rfl ⟨rfl, below_four (hb0.out.trans (HB2.out.mono hb0.out.size)) (Nat.le_succ _) _ _ _ _⟩
  | false =>
    cases b3 with
    | true =>
      have CN := Lib.hid ((number_any l nl'.out (.map (some b)) v1 v2 (.func (.func k3) #[] lb3) (.func (.func k4) #[] lb4) v5 a c HC.out H4.out.symm H3.out.symm _ (hr.out.mono hb0.out).2.2.2.1).mono fun e w' h => (HTK.out _ e w').mp h)
      go_enter Tryz.func84, Tryz.ntmps84
      go_wp2_with (first | (go_at_call 100; ((with_reducible refine CN.out.mono ?_); rintro e w2 ⟨rfl, hb2⟩; obtain ⟨r0, r1, r2, r3, f0, f1, f2, f3⟩ := hM0.out.below hb2 (by simp); have HB2 := Lib.hid hb2; clear hb2)) | ((with_reducible refine C4.out.mono ?_); rintro e w' ⟨rfl, rfl⟩) | ((with_reducible refine C3.out.mono ?_); rintro e w' ⟨rfl, rfl⟩))
      exact bodyPost_ret (v := .agg #[.int .i64 kk, .string S, .int .i64 vv, .int .i64 aa]) (by simp [results, Tryz.results84, go_sem, r0, r1, r2, r3]) rfl ⟨rfl, below_four (hb0.out.trans (HB2.out.mono hb0.out.size)) (Nat.le_succ _) _ _ _ _⟩
    | false =>
      have CN := Lib.hid ((sign_any l nl'.out (.map (some b)) v1 v2 (.func (.func k3) #[] lb3) (.func (.func k4) #[] lb4) v5 a c HC.out H4.out.symm H3.out.symm _ (hS.out.below hb0.out)).mono fun e w' h => (HTK.out _ e w').mp h)
      go_enter Tryz.func84, Tryz.ntmps84
      go_wp2_with (first | (go_at_call 101; ((with_reducible refine CN.out.mono ?_); rintro e w2 ⟨rfl, hb2⟩; obtain ⟨r0, r1, r2, r3, f0, f1, f2, f3⟩ := hM0.out.below hb2 (by simp); have HB2 := Lib.hid hb2; clear hb2)) | ((with_reducible refine C4.out.mono ?_); rintro e w' ⟨rfl, rfl⟩) | ((with_reducible refine C3.out.mono ?_); rintro e w' ⟨rfl, rfl⟩))
      exact bodyPost_ret (v := .agg #[.int .i64 kk, .string S, .int .i64 vv, .int .i64 aa]) (by simp [results, Tryz.results84, go_sem, r0, r1, r2, r3]) rfl ⟨rfl, below_four (hb0.out.trans (HB2.out.mono hb0.out.size)) (Nat.le_succ _) _ _ _ _⟩
theorem token_any (l : List UInt8) (nl : l.length ≤ 30000) (b : Nat) (v1 v2 v3 v4 v5 : Value) (a : Nat) (ha : a < l.length) (w : World) (hr : Reader w b v1 v2 v3 v4 v5) (hS : Signs w) :
    Calls Tryz.prog 84 #[.agg #[.string (str l), .map (some b), v1, v2, v3, v4, v5], .int .i64 (a : Int)] w fun e w' => TokPost (tokAt l a) w e w' := by
  have hr' := hr
  obtain ⟨_, _, _, ⟨k3, lb3, rfl, ek3, hc3⟩, ⟨k4, lb4, rfl, ek4, hc4⟩, _⟩ := hr
  exact token_core l _ (Lib.hid rfl) (by omega) (str_size l) b v1 v2 v5 k3 k4 lb3 lb4 a ha w (Lib.hid hr') (Lib.hid hS) ek3 ek4 (Lib.hid hc3) (Lib.hid hc4)

/-! ### a reader made -/
theorem byte_int (c : UInt8) (k : Nat) (hk : k < 256) : (c == UInt8.ofNat k) = decide ((c.toNat : Int) = (k : Int)) := by
  rw [Bool.eq_iff_iff]
  simp only [beq_iff_eq, decide_eq_true_eq]
  constructor
  · rintro rfl; rw [UInt8.toNat_ofNat_of_lt' hk]
  · intro h; exact UInt8.toNat_inj.1 (by rw [UInt8.toNat_ofNat_of_lt' hk]; omega)
theorem among_one (x c : UInt8) : decide (0 ≤ Lib.indexByte [x] c) = (c == x) := by
  by_cases h : x = c
  · subst h; simp [Lib.indexByte]
  · have h1 : (x == c) = false := beq_false_of_ne h
    have h2 : (c == x) = false := beq_false_of_ne (Ne.symm h)
    rw [h2]
    simp [Lib.indexByte, h1]
theorem index_ge (l : List UInt8) (c : UInt8) : -1 ≤ Lib.indexByte l c := by
  induction l with
  | nil => exact Int.le_refl _
  | cons x l ih =>
    unfold Lib.indexByte
    split
    · omega
    · split <;> omega
theorem among_cons (x : UInt8) (l : List UInt8) (c : UInt8) : decide (0 ≤ Lib.indexByte (x :: l) c) = (c == x || decide (0 ≤ Lib.indexByte l c)) := by
  have hg := index_ge l c
  by_cases h : x = c
  · subst h; simp [Lib.indexByte]
  · have h1 : (x == c) = false := beq_false_of_ne h
    have h2 : (c == x) = false := beq_false_of_ne (Ne.symm h)
    rw [h2, Bool.false_or]
    rw [show Lib.indexByte (x :: l) c = if (x == c) = true then 0 else if (Lib.indexByte l c == -1) = true then -1 else Lib.indexByte l c + 1 from rfl, h1]
    simp only [Bool.false_eq_true, if_false]
    by_cases h3 : Lib.indexByte l c = -1
    · rw [h3]; rfl
    · have h4 : (Lib.indexByte l c == -1) = false := beq_false_of_ne h3
      rw [h4]
      simp only [Bool.false_eq_true, if_false]
      rw [Bool.eq_iff_iff]
      simp only [decide_eq_true_eq]
      omega
theorem among_blank (c : UInt8) : decide (0 ≤ Lib.indexByte [32, 9, 10, 13] c) = isBlank c := by
  rw [among_cons, among_cons, among_cons, among_one]; rfl
theorem span_dig (c : UInt8) : (decide ((48 : Int) ≤ (c.toNat : Int)) && decide ((c.toNat : Int) ≤ 57)) = isDig c := by
  unfold isDig
  congr 1
  · rw [Bool.eq_iff_iff]; simp only [decide_eq_true_eq]; omega
  · rw [Bool.eq_iff_iff]; simp only [decide_eq_true_eq]; omega
theorem span_nat (x y : Nat) (c : UInt8) : (decide ((x : Int) ≤ (c.toNat : Int)) && decide ((c.toNat : Int) ≤ (y : Int))) = (decide (x ≤ c.toNat) && decide (c.toNat ≤ y)) := by
  congr 1
  · rw [Bool.eq_iff_iff]; simp only [decide_eq_true_eq]; omega
  · rw [Bool.eq_iff_iff]; simp only [decide_eq_true_eq]; omega
/-- a reader's words and classes, in blocks from g on -/
def ReaderFrom (g : Nat) (w : World) (b : Nat) (v1 v2 v3 v4 v5 : Value) : Prop :=
  g ≤ b ∧ WordMap w b ∧ ClassFrom g w v1 isBlank ∧ ClassFrom g w v2 isComment ∧ ClassFrom g w v3 isDig ∧ ClassFrom g w v4 isLetter ∧ ClassFrom g w v5 isName
theorem ReaderFrom.at_ {g : Nat} {w : World} {b : Nat} {v1 v2 v3 v4 v5 : Value} (h : ReaderFrom g w b v1 v2 v3 v4 v5) : Reader w b v1 v2 v3 v4 v5 :=
  ⟨h.2.1, h.2.2.1.at_, h.2.2.2.1.at_, h.2.2.2.2.1.at_, h.2.2.2.2.2.1.at_, h.2.2.2.2.2.2.at_⟩
/-- a reader of this text comes back -/
def GivesReader (l : List UInt8) (w : World) (e : Ending) (w' : World) : Prop :=
  ∃ b v1 v2 v3 v4 v5, e = .returned (.agg #[.string (str l), .map (some b), v1, v2, v3, v4, v5]) ∧ ReaderFrom (w.heap.size + 1) w' b v1 v2 v3 v4 v5 ∧ Below w.heap.size w w'
def pU : UInt8 → Bool := fun c => decide ((97 : Int) ≤ (c.toNat : Int)) && decide ((c.toNat : Int) ≤ 122)
def pV : UInt8 → Bool := fun c => decide ((65 : Int) ≤ (c.toNat : Int)) && decide ((c.toNat : Int) ≤ 90)
def pW : UInt8 → Bool := fun c => decide (0 ≤ Lib.indexByte [95] c)
theorem letter_any (c : UInt8) : ([pU, pV, pW].any fun p => p c) = isLetter c := by
  simp only [List.any_cons, List.any_nil, Bool.or_false]
  unfold isLetter pU pV pW
  rw [among_one, show (decide ((97 : Int) ≤ (c.toNat : Int)) && decide ((c.toNat : Int) ≤ 122)) = (decide (97 ≤ c.toNat) && decide (c.toNat ≤ 122)) from span_nat 97 122 c,
    show (decide ((65 : Int) ≤ (c.toNat : Int)) && decide ((c.toNat : Int) ≤ 90)) = (decide (65 ≤ c.toNat) && decide (c.toNat ≤ 90)) from span_nat 65 90 c]
theorem inName_any (c : UInt8) : ([isLetter, isDig].any fun p => p c) = isName c := by
  simp only [List.any_cons, List.any_nil, Bool.or_false]
  rfl
theorem classes_two {B : Nat} {w : World} {k1 k2 : FuncId} {lb1 lb2 : Array Value} {p1 p2 : UInt8 → Bool} (h1 : ClassFrom B w (.func (.func k1) #[] lb1) p1) (h2 : ClassFrom B w (.func (.func k2) #[] lb2) p2) (T : TypeId) (hB : B ≤ w.heap.size) :
    ClassesFrom B (w.alloc (.cells #[.func (.func k1) #[] lb1, .func (.func k2) #[] lb2] T)) w.heap.size [p1, p2] := by
  have hb : Below w.heap.size w (w.alloc (.cells #[.func (.func k1) #[] lb1, .func (.func k2) #[] lb2] T)) := (Below.refl _ w).alloc (Nat.le_refl _) _
  obtain ⟨_, _, e1, ek1, L1, hL1, hc1⟩ := h1
  obtain ⟨_, _, e2, ek2, L2, hL2, hc2⟩ := h2
  cases e1; cases e2
  refine ⟨hB, by simp, L1 ++ L2, fun b hm => ?_, fun w' hg hw j p hp => ?_⟩
  · rcases List.mem_append.1 hm with hm | hm
    · exact ⟨(hL1 b hm).1, by have := (hL1 b hm).2; simp; omega⟩
    · exact ⟨(hL2 b hm).1, by have := (hL2 b hm).2; simp; omega⟩
  · rcases j with _ | _ | j
    · cases hp; exact ⟨k1, lb1, (cell_same hg 0).trans (by rw [World.cell?_alloc_new]; rfl), ek1, hc1 w' fun b hm => (hw b (List.mem_append_left _ hm)).trans (hb.block b (hL1 b hm).2)⟩
    · cases hp; exact ⟨k2, lb2, (cell_same hg 1).trans (by rw [World.cell?_alloc_new]; rfl), ek2, hc2 w' fun b hm => (hw b (List.mem_append_right _ hm)).trans (hb.block b (hL2 b hm).2)⟩
    · cases hp
theorem classes_three {B : Nat} {w : World} {k1 k2 k3 : FuncId} {lb1 lb2 lb3 : Array Value} {p1 p2 p3 : UInt8 → Bool} (h1 : ClassFrom B w (.func (.func k1) #[] lb1) p1) (h2 : ClassFrom B w (.func (.func k2) #[] lb2) p2) (h3 : ClassFrom B w (.func (.func k3) #[] lb3) p3) (T : TypeId) (hB : B ≤ w.heap.size) :
    ClassesFrom B (w.alloc (.cells #[.func (.func k1) #[] lb1, .func (.func k2) #[] lb2, .func (.func k3) #[] lb3] T)) w.heap.size [p1, p2, p3] := by
  have hb : Below w.heap.size w (w.alloc (.cells #[.func (.func k1) #[] lb1, .func (.func k2) #[] lb2, .func (.func k3) #[] lb3] T)) := (Below.refl _ w).alloc (Nat.le_refl _) _
  obtain ⟨_, _, e1, ek1, L1, hL1, hc1⟩ := h1
  obtain ⟨_, _, e2, ek2, L2, hL2, hc2⟩ := h2
  obtain ⟨_, _, e3, ek3, L3, hL3, hc3⟩ := h3
  cases e1; cases e2; cases e3
  refine ⟨hB, by simp, L1 ++ (L2 ++ L3), fun b hm => ?_, fun w' hg hw j p hp => ?_⟩
  · rcases List.mem_append.1 hm with hm | hm
    · exact ⟨(hL1 b hm).1, by have := (hL1 b hm).2; simp; omega⟩
    · rcases List.mem_append.1 hm with hm | hm
      · exact ⟨(hL2 b hm).1, by have := (hL2 b hm).2; simp; omega⟩
      · exact ⟨(hL3 b hm).1, by have := (hL3 b hm).2; simp; omega⟩
  · rcases j with _ | _ | _ | j
    · cases hp; exact ⟨k1, lb1, (cell_same hg 0).trans (by rw [World.cell?_alloc_new]; rfl), ek1, hc1 w' fun b hm => (hw b (List.mem_append_left _ hm)).trans (hb.block b (hL1 b hm).2)⟩
    · cases hp; exact ⟨k2, lb2, (cell_same hg 1).trans (by rw [World.cell?_alloc_new]; rfl), ek2, hc2 w' fun b hm => (hw b (List.mem_append_right _ (List.mem_append_left _ hm))).trans (hb.block b (hL2 b hm).2)⟩
    · cases hp; exact ⟨k3, lb3, (cell_same hg 2).trans (by rw [World.cell?_alloc_new]; rfl), ek3, hc3 w' fun b hm => (hw b (List.mem_append_right _ (List.mem_append_right _ hm))).trans (hb.block b (hL3 b hm).2)⟩
    · cases hp
theorem WordMap.kept {w w' : World} {b : Nat} (h : WordMap w b) (hk : w'.heap[b]? = w.heap[b]?) (hs : w.heap.size ≤ w'.heap.size) : WordMap w' b := by
  obtain ⟨hlt, n, D, ⟨es, clock, h1, h2, h3, h4⟩, hh⟩ := h
  exact ⟨Nat.lt_of_lt_of_le hlt hs, n, D, ⟨es, clock, hk.trans h1, h2, h3, h4⟩, hh⟩
/-- seven cells of block g written -/
def set7 (w : World) (g : Nat) (x0 x1 x2 x3 x4 x5 x6 : Value) : World := ((((((w.setCell ⟨g, 0, none⟩ x0).setCell ⟨g, 1, none⟩ x1).setCell ⟨g, 2, none⟩ x2).setCell ⟨g, 3, none⟩ x3).setCell ⟨g, 4, none⟩ x4).setCell ⟨g, 5, none⟩ x5).setCell ⟨g, 6, none⟩ x6
theorem set7_heap (w : World) (g : Nat) (x0 x1 x2 x3 x4 x5 x6 : Value) (b : Nat) (h : b ≠ g) : (set7 w g x0 x1 x2 x3 x4 x5 x6).heap[b]? = w.heap[b]? := by
  unfold set7
  rw [Below.heap_setCell _ ⟨g, 6, none⟩ _ b h, Below.heap_setCell _ ⟨g, 5, none⟩ _ b h, Below.heap_setCell _ ⟨g, 4, none⟩ _ b h, Below.heap_setCell _ ⟨g, 3, none⟩ _ b h, Below.heap_setCell _ ⟨g, 2, none⟩ _ b h, Below.heap_setCell _ ⟨g, 1, none⟩ _ b h, Below.heap_setCell _ ⟨g, 0, none⟩ _ b h]
theorem set7_below {B g : Nat} {w w1 : World} (h : Below B w w1) (hg : B ≤ g) (x0 x1 x2 x3 x4 x5 x6 : Value) : Below B w (set7 w1 g x0 x1 x2 x3 x4 x5 x6) :=
  ((((((h.setCell (p := ⟨g, 0, none⟩) hg _).setCell (p := ⟨g, 1, none⟩) hg _).setCell (p := ⟨g, 2, none⟩) hg _).setCell (p := ⟨g, 3, none⟩) hg _).setCell (p := ⟨g, 4, none⟩) hg _).setCell (p := ⟨g, 5, none⟩) hg _).setCell (p := ⟨g, 6, none⟩) hg _
theorem set7_class {g : Nat} {w : World} {v : Value} {p : UInt8 → Bool} (h : ClassFrom (g + 1) w v p) (x0 x1 x2 x3 x4 x5 x6 : Value) : ClassFrom (g + 1) (set7 w g x0 x1 x2 x3 x4 x5 x6) v p :=
  h.kept (fun b hb _ => set7_heap w g _ _ _ _ _ _ _ b (by omega)) (set7_below (B := 0) (Below.refl 0 w) (Nat.zero_le _) _ _ _ _ _ _ _).size (Nat.le_refl _)
/-- block g may be written at seven places -/
 def Free (w : World) (g : Nat) : Prop := w.frozen? ⟨g, 0, none⟩ = false ∧ w.frozen? ⟨g, 1, none⟩ = false ∧ w.frozen? ⟨g, 2, none⟩ = false ∧ w.frozen? ⟨g, 3, none⟩ = false ∧ w.frozen? ⟨g, 4, none⟩ = false ∧ w.frozen? ⟨g, 5, none⟩ = false ∧ w.frozen? ⟨g, 6, none⟩ = false
theorem free_new (w : World) (cs : Array Value) (T : TypeId) : Free (w.alloc (.cells cs T)) w.heap.size := ⟨World.frozen?_alloc_new _ _ _ _, World.frozen?_alloc_new _ _ _ _, World.frozen?_alloc_new _ _ _ _, World.frozen?_alloc_new _ _ _ _, World.frozen?_alloc_new _ _ _ _, World.frozen?_alloc_new _ _ _ _, World.frozen?_alloc_new _ _ _ _⟩
theorem Free.below {w w' : World} {g B : Nat} (h : Free w g) (hb : Below B w w') (hg : g < B) : Free w' g :=
  ⟨(hb.frozen (p := ⟨g, 0, none⟩) hg).trans h.1, (hb.frozen (p := ⟨g, 1, none⟩) hg).trans h.2.1, (hb.frozen (p := ⟨g, 2, none⟩) hg).trans h.2.2.1, (hb.frozen (p := ⟨g, 3, none⟩) hg).trans h.2.2.2.1, (hb.frozen (p := ⟨g, 4, none⟩) hg).trans h.2.2.2.2.1, (hb.frozen (p := ⟨g, 5, none⟩) hg).trans h.2.2.2.2.2.1, (hb.frozen (p := ⟨g, 6, none⟩) hg).trans h.2.2.2.2.2.2⟩

/-- the words come back -/
def GivesWords (g : Nat) (w : World) (e : Ending) (w' : World) : Prop := ∃ b, e = .returned (.map (some b)) ∧ g ≤ b ∧ WordMap w' b ∧ Below w.heap.size w w'
theorem gives_words (g : Nat) (w : World) (hg : g ≤ w.heap.size) : Calls Tryz.prog 96 #[] w fun e w' => GivesWords g w e w' := (words_any w).mono fun _ _ ⟨h1, h2, h3⟩ => ⟨_, h1, hg, h2, h3⟩
theorem gives_func {g : Nat} {w w' : World} {p : UInt8 → Bool} {e : Ending} (h : GivesClass g w p e w') : ∃ k lb, e = .returned (.func (.func k) #[] lb) ∧ ClassFrom g w' (.func (.func k) #[] lb) p ∧ Below w.heap.size w w' := by
  obtain ⟨_, he, ⟨k, lb, rfl, hk⟩, hb⟩ := h
  exact ⟨k, lb, he, ⟨k, lb, rfl, hk⟩, hb⟩
theorem below_next {g : Nat} {A W W' : World} (h : Below (g + 1) A W) (hA : Hid (g + 1 ≤ A.heap.size)) (hb : Below W.heap.size W W') : Below (g + 1) A W' := h.trans (hb.mono (Nat.le_trans hA.out h.size))
theorem below_row {g : Nat} {A W : World} (h : Below (g + 1) A W) (hA : Hid (g + 1 ≤ A.heap.size)) (o : Obj) : Below (g + 1) A (W.alloc o) := h.alloc (Nat.le_trans hA.out h.size) o
set_option maxHeartbeats 8000000 in
theorem reader_any (l : List UInt8) (w : World) :
    Calls Tryz.prog 81 #[.string (str l)] w fun e w' => GivesReader l w e w' := by
  have K1 : Hid (∀ W, w.heap.size + 1 ≤ W.heap.size → Calls Tryz.prog 93 #[.int .u8 48, .int .u8 57] W fun e w' => GivesClass (w.heap.size + 1) W isDig e w') :=
    Lib.hid fun W h => (span_any 48 57 W _ h).mono fun e w' ⟨v, h1, h2, h3⟩ => ⟨v, h1, h2.congr span_dig, h3⟩
  have K2 : Hid (∀ W, w.heap.size + 1 ≤ W.heap.size → Calls Tryz.prog 93 #[.int .u8 97, .int .u8 122] W fun e w' => GivesClass (w.heap.size + 1) W pU e w') := Lib.hid fun W h => span_any 97 122 W _ h
  have K3 : Hid (∀ W, w.heap.size + 1 ≤ W.heap.size → Calls Tryz.prog 93 #[.int .u8 65, .int .u8 90] W fun e w' => GivesClass (w.heap.size + 1) W pV e w') := Lib.hid fun W h => span_any 65 90 W _ h
  have K4 : Hid (∀ W, w.heap.size + 1 ≤ W.heap.size → Calls Tryz.prog 95 #[.string ⟨#[95]⟩] W fun e w' => GivesClass (w.heap.size + 1) W pW e w') := Lib.hid fun W h => among_any ⟨#[95]⟩ W _ h
  have K7 : Hid (∀ W, w.heap.size + 1 ≤ W.heap.size → Calls Tryz.prog 95 #[.string ⟨#[32, 9, 10, 13]⟩] W fun e w' => GivesClass (w.heap.size + 1) W isBlank e w') :=
    Lib.hid fun W h => (among_any ⟨#[32, 9, 10, 13]⟩ W _ h).mono fun e w' ⟨v, h1, h2, h3⟩ => ⟨v, h1, h2.congr among_blank, h3⟩
  have K8 : Hid (∀ W, w.heap.size + 1 ≤ W.heap.size → Calls Tryz.prog 95 #[.string ⟨#[10]⟩] W fun e w' => GivesClass (w.heap.size + 1) W (fun c => c == 10) e w') :=
    Lib.hid fun W h => (among_any ⟨#[10]⟩ W _ h).mono fun e w' ⟨v, h1, h2, h3⟩ => ⟨v, h1, h2.congr fun c => among_one 10 c, h3⟩
  have HB := Lib.hid (Below.refl (w.heap.size + 1) (w.alloc (.cells #[.string ⟨#[]⟩, .map none, .nilFunc, .nilFunc, .nilFunc, .nilFunc, .nilFunc] 118)))
  have hA : Hid (w.heap.size + 1 ≤ (w.alloc (.cells #[.string ⟨#[]⟩, .map none, .nilFunc, .nilFunc, .nilFunc, .nilFunc, .nilFunc] 118)).heap.size) := Lib.hid (by simp)
  go_enter Tryz.func81, Tryz.ntmps81
  go_wp2_with (first | (go_at_call 93; ((with_reducible refine (K1.out _ (by exact Nat.le_trans hA.out HB.out.size)).mono ?_); rintro e _ hgc; obtain ⟨kvd, lvd, rfl, hc, hb⟩ := gives_func hgc; clear hgc; have CD := Lib.hid hc; replace HB := Lib.hid (below_next HB.out hA hb); clear hc hb)) | (go_at_call 93; ((with_reducible refine (K2.out _ (by exact Nat.le_trans hA.out HB.out.size)).mono ?_); rintro e _ hgc; obtain ⟨kva, lva, rfl, hc, hb⟩ := gives_func hgc; clear hgc; have C1 := Lib.hid hc; replace HB := Lib.hid (below_next HB.out hA hb); replace CD := Lib.hid (CD.out.mono hb); clear hc hb)) | (go_at_call 93; ((with_reducible refine (K3.out _ (by exact Nat.le_trans hA.out HB.out.size)).mono ?_); rintro e _ hgc; obtain ⟨kvb, lvb, rfl, hc, hb⟩ := gives_func hgc; clear hgc; have C2 := Lib.hid hc; replace HB := Lib.hid (below_next HB.out hA hb); replace CD := Lib.hid (CD.out.mono hb); replace C1 := Lib.hid (C1.out.mono hb); clear hc hb)) | (go_at_call 95; ((with_reducible refine (K4.out _ (by exact Nat.le_trans hA.out HB.out.size)).mono ?_); rintro e _ hgc; obtain ⟨kvc, lvc, rfl, hc, hb⟩ := gives_func hgc; clear hgc; have C3 := Lib.hid hc; replace HB := Lib.hid (below_next HB.out hA hb); replace CD := Lib.hid (CD.out.mono hb); replace C1 := Lib.hid (C1.out.mono hb); replace C2 := Lib.hid (C2.out.mono hb); clear hc hb)) | (go_at_call 94; have HB3 := HB; replace CD := Lib.hid (CD.out.mono ((Below.refl _ _).alloc (Nat.le_refl _) (.cells #[.func (.func kva) #[] lva, .func (.func kvb) #[] lvb, .func (.func kvc) #[] lvc] 116))); replace HB := Lib.hid (below_row HB.out hA (.cells #[.func (.func kva) #[] lva, .func (.func kvb) #[] lvb, .func (.func kvc) #[] lvc] 116)); ((with_reducible refine (either_any _ 3 [pU, pV, pW] rfl (by decide) _ _ (by exact classes_three C1.out C2.out C3.out _ (Nat.le_trans hA.out HB3.out.size))).mono ?_); rintro e _ hgc; obtain ⟨kvl, lvl, rfl, hc, hb⟩ := gives_func hgc; clear hgc; have CL := Lib.hid hc; replace HB := Lib.hid (below_next HB.out hA hb); replace CD := Lib.hid (CD.out.mono hb); clear hc hb)) | (go_at_call 96; ((with_reducible refine (gives_words _ _ (by exact Nat.le_trans hA.out HB.out.size)).mono ?_); rintro e _ ⟨mb, rfl, hmb0, hc, hb⟩; have CW := Lib.hid hc; replace HB := Lib.hid (below_next HB.out hA hb); replace CD := Lib.hid (CD.out.mono hb); replace CL := Lib.hid (CL.out.mono hb); have hmb := Lib.hid hmb0; clear hc hb hmb0)) | (go_at_call 95; ((with_reducible refine (K7.out _ (by exact Nat.le_trans hA.out HB.out.size)).mono ?_); rintro e _ hgc; obtain ⟨kvk, lvk, rfl, hc, hb⟩ := gives_func hgc; clear hgc; have CK := Lib.hid hc; replace HB := Lib.hid (below_next HB.out hA hb); replace CD := Lib.hid (CD.out.mono hb); replace CL := Lib.hid (CL.out.mono hb); replace CW := Lib.hid (CW.out.below hb CW.out.1); clear hc hb)) | (go_at_call 95; ((with_reducible refine (K8.out _ (by exact Nat.le_trans hA.out HB.out.size)).mono ?_); rintro e _ hgc; obtain ⟨kvn, lvn, rfl, hc, hb⟩ := gives_func hgc; clear hgc; have CN := Lib.hid hc; replace HB := Lib.hid (below_next HB.out hA hb); replace CD := Lib.hid (CD.out.mono hb); replace CL := Lib.hid (CL.out.mono hb); replace CK := Lib.hid (CK.out.mono hb); replace CW := Lib.hid (CW.out.below hb CW.out.1); clear hc hb)) | (go_at_call 97; ((with_reducible refine (but_any (.func (.func kvn) #[] lvn) _ _ _ (by exact Nat.le_trans hA.out HB.out.size) CN.out).mono ?_); rintro e _ hgc; obtain ⟨kvm, lvm, rfl, hc, hb⟩ := gives_func hgc; clear hgc; have CM := Lib.hid hc; replace HB := Lib.hid (below_next HB.out hA hb); replace CD := Lib.hid (CD.out.mono hb); replace CL := Lib.hid (CL.out.mono hb); replace CK := Lib.hid (CK.out.mono hb); replace CW := Lib.hid (CW.out.below hb CW.out.1); clear hc hb)) | (go_at_call 94; have CL2 := Lib.hid (CL.out.congr letter_any); have CD2 := CD; have HB2 := HB; replace CD := Lib.hid (CD.out.mono ((Below.refl _ _).alloc (Nat.le_refl _) (.cells #[.func (.func kvl) #[] lvl, .func (.func kvd) #[] lvd] 116))); replace CL := Lib.hid (CL.out.mono ((Below.refl _ _).alloc (Nat.le_refl _) (.cells #[.func (.func kvl) #[] lvl, .func (.func kvd) #[] lvd] 116))); replace CK := Lib.hid (CK.out.mono ((Below.refl _ _).alloc (Nat.le_refl _) (.cells #[.func (.func kvl) #[] lvl, .func (.func kvd) #[] lvd] 116))); replace CM := Lib.hid (CM.out.mono ((Below.refl _ _).alloc (Nat.le_refl _) (.cells #[.func (.func kvl) #[] lvl, .func (.func kvd) #[] lvd] 116))); replace CW := Lib.hid (CW.out.below ((Below.refl _ _).alloc (Nat.le_refl _) (.cells #[.func (.func kvl) #[] lvl, .func (.func kvd) #[] lvd] 116)) CW.out.1); replace HB := Lib.hid (below_row HB.out hA (.cells #[.func (.func kvl) #[] lvl, .func (.func kvd) #[] lvd] 116)); ((with_reducible refine (either_any _ 2 [isLetter, isDig] rfl (by decide) _ _ (by exact classes_two CL2.out CD2.out _ (Nat.le_trans hA.out HB2.out.size))).mono ?_); rintro e _ hgc; obtain ⟨kvi, lvi, rfl, hc, hb⟩ := gives_func hgc; clear hgc; have CI := Lib.hid hc; replace HB := Lib.hid (below_next HB.out hA hb); replace CD := Lib.hid (CD.out.mono hb); replace CL := Lib.hid (CL.out.mono hb); replace CK := Lib.hid (CK.out.mono hb); replace CM := Lib.hid (CM.out.mono hb); replace CW := Lib.hid (CW.out.below hb CW.out.1); obtain ⟨r0, r1, r2, r3, r4, r5, r6⟩ := (readAt_new w (.string ⟨#[]⟩) (.map none) .nilFunc .nilFunc .nilFunc .nilFunc .nilFunc 118).below HB.out (Nat.lt_succ_self _); obtain ⟨f0, f1, f2, f3, f4, f5, f6⟩ := (free_new w #[.string ⟨#[]⟩, .map none, .nilFunc, .nilFunc, .nilFunc, .nilFunc, .nilFunc] 118).below HB.out (Nat.lt_succ_self _); clear hc hb)))
  have hbw := Lib.hid (((Below.refl w.heap.size w).alloc (Nat.le_refl _) (.cells #[.string ⟨#[]⟩, .map none, .nilFunc, .nilFunc, .nilFunc, .nilFunc, .nilFunc] 118)).trans (HB.out.mono (Nat.le_succ _)))
  refine bodyPost_ret (v := .agg #[.string (str l), .map (some mb), .func (.func kvk) #[] lvk, .func (.func kvm) #[] lvm, .func (.func kvd) #[] lvd, .func (.func kvl) #[] lvl, .func (.func kvi) #[] lvi]) (by simp [results, Tryz.results81, go_sem, r0, r1, r2, r3, r4, r5, r6]) rfl ⟨_, _, _, _, _, _, rfl, ⟨hmb.out, ?_, ?_, ?_, ?_, ?_, ?_⟩, ?_⟩
  · exact CW.out.kept (set7_heap _ _ _ _ _ _ _ _ _ _ (by have := hmb.out; omega)) (set7_below (B := 0) (Below.refl 0 _) (Nat.zero_le _) _ _ _ _ _ _ _).size
  · exact set7_class CK.out _ _ _ _ _ _ _
  · exact set7_class CM.out _ _ _ _ _ _ _
  · exact set7_class CD.out _ _ _ _ _ _ _
  · exact set7_class (CL.out.congr letter_any) _ _ _ _ _ _ _
  · exact set7_class (CI.out.congr inName_any) _ _ _ _ _ _ _
  · exact set7_below hbw.out (Nat.le_refl _) _ _ _ _ _ _ _
theorem ReaderFrom.kept {g : Nat} {w w1 : World} {b : Nat} {v1 v2 v3 v4 v5 : Value} (h : ReaderFrom g w b v1 v2 v3 v4 v5) (hk : ∀ k, g ≤ k → k < w.heap.size → w1.heap[k]? = w.heap[k]?) (hs : w.heap.size ≤ w1.heap.size) : ReaderFrom g w1 b v1 v2 v3 v4 v5 :=
  ⟨h.1, h.2.1.kept (hk b h.1 h.2.1.1) hs, h.2.2.1.kept hk hs (Nat.le_refl _), h.2.2.2.1.kept hk hs (Nat.le_refl _), h.2.2.2.2.1.kept hk hs (Nat.le_refl _), h.2.2.2.2.2.1.kept hk hs (Nat.le_refl _), h.2.2.2.2.2.2.kept hk hs (Nat.le_refl _)⟩
end Go.Proofs.YtlbhlncipajapaaGreatDoor.Lx
