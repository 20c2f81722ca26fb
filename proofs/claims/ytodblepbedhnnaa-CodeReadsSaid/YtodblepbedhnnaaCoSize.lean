/- code.Size: how many bytes an object has. -/
import Derived.Test.YtodblepbedhnnaaCoWrite
import Derived.Test.YtodblepbedhnnaaShelf
import Derived.Deep.RegionLaw
import Derived.StillTailTactics
import Derived.BigQuiet
namespace Go.Proofs.Ytodblepbedhnnaa
open Go.RowKit Co

attribute [local go_sem] Oper.semAt_some

theorem bitLen_pos {v : Nat} (h : v ≠ 0) (hv : v < 2 ^ 64) : 1 ≤ Lib.bitLen v := by rw [Lib.bitLen_half v h hv]; omega
theorem num_len : ∀ (n u : Nat), u < n → u < 2 ^ 64 → (numL u).length = max 1 ((Lib.bitLen u + 6) / 7)
  | 0, _, h, _ => by omega
  | n + 1, u, h, hu => by
    rcases Nat.lt_or_ge u 128 with h1 | h1
    · have := Lib.bitLen_le u 7 (by omega) (by omega)
      rw [numL_small h1, List.length_singleton]; omega
    · have h2 := Lib.bitLen_shift 7 u (by omega) hu
      have h3 := num_len n (u / 128) (by omega) (by omega)
      have h4 := bitLen_pos (v := u / 128) (by omega) (by omega)
      rw [show (2 : Nat) ^ 7 = 128 from rfl] at h2
      rw [numL_big h1, List.length_cons, h3, h2]; omega
theorem still_of_quiet {P : Program} {ops : Array Oper} {w : World} {Q : Act → Prop} : ∀ (l : List Oper) (a : Act), wpQuiet P ops (fun w' => w' = w) Q l a → wpStill P ops w Q l a
  | [], _, h => h
  | o :: rest, a, h => by
    unfold wpQuiet at h
    unfold wpStill
    by_cases hw : Region.wanted o (yielded ops a.tmps) = true
    · rw [if_pos hw] at h ⊢
      obtain ⟨v, h1, h2⟩ := h
      have h3 := h1 w rfl
      have h4 := still_of_quiet rest _ h2
      unfold Oper.quietAt at h3
      unfold Oper.still
      revert h3
      generalize (execOp a.eval o).run P w = r
      intro h3
      match r, h3 with
      | .ok (.value u) w', ⟨e1, e2⟩ => exact ⟨e1, by rw [e2]; exact h4⟩
      | .ok .skip w', ⟨e1, e2⟩ => exact ⟨e1, by rw [← e2]; exact h4⟩
      | .ok (.enter f args) w', ⟨e1, e2⟩ => exact ⟨e1, v, e2, h4⟩
    · rw [if_neg hw] at h ⊢
      exact still_of_quiet rest _ h
theorem tail_by_quiet {id : Nat} {P : Program} {Q : Exit → Act → World → Prop} {a : Act} {w : World} {l : List Oper} (n : Nat) (hm : P.follows .mixedOrders = true) (hB : Region.lexTailB .any l.toArray n = true)
    (h : wpQuiet P l.toArray (fun w' => w' = w.drew) (fun a' => wpList P l.toArray Q (l.drop n) a' w.drew) (l.take n) a) : (Code.region id l.toArray true).wp P Q a w := wp_region_still_tail n hm hB (still_of_quiet _ _ h)
/-- what is counted of numbers -/
def sizeN (us : List Nat) : Nat := (us.flatMap numL).length
theorem sizeN_snoc (us : List Nat) (u : Nat) : sizeN (us ++ [u]) = sizeN us + (numL u).length := by simp [sizeN]
/-- the count in its box -/
structure SzI (w0 : World) (X : Nat) (us : List Nat) (w : World) : Prop where
  below : Below w0.heap.size w0 w
  low : w0.heap.size ≤ X
  box : w.heap[X]? = some (.cells #[.int .i64 ((8 + sizeN us : Nat) : Int)] 3 (0, 0))
  most : sizeN us ≤ 10 * us.length
theorem lt_of_heap {w : World} {k : Nat} {o : Obj} (h : w.heap[k]? = some o) : k < w.heap.size := (Array.getElem?_eq_some_iff.1 h).1
theorem set_heap {W : World} {g : Nat} {cs : Array Value} {T : TypeId} {fr : Nat × Nat} (h : W.heap[g]? = some (.cells cs T fr)) (i : Nat) (v : Value) : (W.setCell ⟨g, i, none⟩ v).heap[g]? = some (.cells (cs.setIfInBounds i v) T fr) := by
  simp [World.setCell, Array.getElem?_modify, h]
theorem set_other {W : World} {g k i : Nat} {v : Value} (h : k ≠ g) : (W.setCell ⟨g, i, none⟩ v).heap[k]? = W.heap[k]? := Below.heap_setCell W ⟨g, i, none⟩ v k h
theorem size_core (w0 w : World) (X : Nat) (us : List Nat) (u : Nat) (hu : u < 18446744073709551616) (h : SzI w0 X us w) :
    SzI w0 X (us ++ [u]) (w.drew.setCell ⟨X, 0, none⟩ (.int .i64 ((8 + sizeN (us ++ [u]) : Nat) : Int))) ∧ Fr X w (w.drew.setCell ⟨X, 0, none⟩ (.int .i64 ((8 + sizeN (us ++ [u]) : Nat) : Int))) := by
  have hb : w.drew.heap[X]? = some (.cells #[.int .i64 ((8 + sizeN us : Nat) : Int)] 3 (0, 0)) := h.box
  have h2 := set_heap hb 0 (.int .i64 ((8 + sizeN (us ++ [u]) : Nat) : Int))
  have h3 : (w.drew.setCell ⟨X, 0, none⟩ (.int .i64 ((8 + sizeN (us ++ [u]) : Nat) : Int))).heap[X]? = some (.cells #[.int .i64 ((8 + sizeN (us ++ [u]) : Nat) : Int)] 3 (0, 0)) := h2
  have hm := numL_ten hu
  refine ⟨⟨h.below.drew.setCell (p := ⟨X, 0, none⟩) h.low _, h.low, h3, by have := h.most; rw [sizeN_snoc, List.length_append, List.length_singleton]; omega⟩, ⟨by simp [World.setCell], fun k _ hx _ => set_other (W := w.drew) hx, .inl ?_⟩⟩
  unfold rowX World.cell?
  rw [h3, h.box]
  rfl
set_option maxHeartbeats 8000000 in
set_option maxRecDepth 100000 in
theorem sz_take (w0 : World) (X : Nat) (us : List Nat) (u : Nat) (w : World) (hl : us.length ≤ 30000) (hu : u < 18446744073709551616) (h : SzI w0 X us w) :
    Calls Try.prog 26 #[.int .u64 (u : Int), .pointer (some ⟨X, 0, none⟩)] w fun e w' => e = .returned (.tuple #[]) ∧ SzI w0 X (us ++ [u]) w' ∧ Fr X w w' := by
  have L := num_len _ u (Nat.lt_succ_self _) (by omega)
  have hb : Lib.bitLen u ≤ 64 := Lib.bitLen_le u 64 (by omega) (by omega)
  have C := Lib.hid (Try.bits_Len64 (u : Int))
  have c0 : w.cell? ⟨X, 0, none⟩ = some (.int .i64 ((8 + sizeN us : Nat) : Int)) := by simp [World.cell?, h.box]
  have f0 : w.frozen? ⟨X, 0, none⟩ = false := by simp [World.frozen?, h.box]
  have hm := h.most
  have HF := Lib.hid h
  obtain ⟨s, hs⟩ : ∃ s, s = 8 + sizeN us := ⟨_, rfl⟩
  rw [← hs] at c0
  have s1 : (s : Int) ≤ 300008 := by omega
  clear h
  go_enter Try.func26, Try.ntmps26
  obtain ⟨β, hβ⟩ : ∃ β, β = Lib.bitLen u := ⟨_, rfl⟩
  rw [← hβ] at L hb
  have C2 : Hid (∀ W, Calls Try.prog 27 #[.int .u64 (u : Int)] W fun e w' => e = .returned (.int .i64 (β : Int)) ∧ w' = W) := Lib.hid fun W => by
    have h := C.out W (by omega) (by omega)
    rwa [Int.toNat_natCast, ← hβ] at h
  clear C hβ
  obtain ⟨k, hk⟩ : ∃ k : Nat, k = max 1 ((β + 6) / 7) := ⟨_, rfl⟩
  rw [← hk] at L
  have x1 : (β : Int) ≤ 64 := by omega
  have LL := Lib.hid L
  have HS := Lib.hid hs
  clear L hs
  go_wp2_with fail
  refine tail_by_quiet 8 (by kernel_rfl) (by kernel_rfl) ?_
  simp only [List.take_succ_cons, List.take_zero, List.drop_succ_cons, List.drop_zero]
  have d0 : ∀ W, W = w.drew → W.cell? ⟨X, 0, none⟩ = some (.int .i64 (s : Int)) := fun W h => by rw [h]; exact c0
  repeat (go_big_quiet_step (fail))
  go_big_quiet_want
  go_big_quiet_op
  apply Exists.intro
  refine ⟨by exact (C2.out _), ?_⟩
  go_big_quiet_on
  repeat (go_big_quiet_step (fail))
  refine wpQuiet_nil ?_
  go_wp2_with fail
  have hv : (s : Int) + max 1 (((β : Int) + 7 - 1) / 7) = ((8 + sizeN (us ++ [u]) : Nat) : Int) := by
    have h1 := HS.out
    have h2 := LL.out
    rw [sizeN_snoc, h2]
    omega
  rw [hv]
  go_end0
  exact ⟨rfl, size_core w0 w X us u hu HF.out⟩
theorem sz_run (args : Array Value) (w : World) : (callFunc 26 args).run Try.prog w = .ok (.enter 26 args) w := by
  go_simp
theorem sz_taker (w0 : World) (X : Nat) : Taker 26 X w0 (SzI w0 X) where
  run := sz_run
  take := fun us u w h1 h2 h3 => sz_take w0 X us u w h1 h2 h3
  more := fun {us w} o h => ⟨h.below.alloc h.below.size o, h.low, (Below.heap_alloc w o X (lt_of_heap h.box)).trans h.box, h.most⟩
  lt := fun {us w} h => ⟨lt_of_heap h.box, fun r hr => by
    unfold rowX World.cell? at hr
    rw [h.box] at hr
    cases hr⟩
  below := fun h => h.below
/-- an object of ten slices and numbers, as a value -/
theorem obAt_slices {w : World} {s1 s2 s3 s4 t1 t2 t3 t4 : Value} {o : Ob} (h : ObAt w s1 s2 s3 s4 t1 t2 t3 t4 o) :
    ∃ o1 n1 c1 o2 n2 c2 o3 n3 c3 o4 n4 c4 q1 m1 d1 q2 m2 d2 q3 m3 d3 q4 m4 d4, s1 = .slice o1 n1 c1 ∧ s2 = .slice o2 n2 c2 ∧ s3 = .slice o3 n3 c3 ∧ s4 = .slice o4 n4 c4 ∧ t1 = .slice q1 m1 d1 ∧ t2 = .slice q2 m2 d2 ∧ t3 = .slice q3 m3 d3 ∧ t4 = .slice q4 m4 d4 := by
  obtain ⟨_, _, _, _, rfl, _⟩ := h.inn
  obtain ⟨_, _, _, _, rfl, _⟩ := h.out
  obtain ⟨_, _, _, _, rfl, _⟩ := h.state
  obtain ⟨_, _, _, _, rfl, _⟩ := h.mem
  obtain ⟨_, _, _, _, rfl, _⟩ := h.deriv
  obtain ⟨_, _, _, _, rfl, _⟩ := h.zero
  obtain ⟨_, _, _, _, rfl, _⟩ := h.step
  obtain ⟨_, _, _, _, rfl, _⟩ := h.at_
  exact ⟨_, _, _, _, _, _, _, _, _, _, _, _, _, _, _, _, _, _, _, _, _, _, _, _, rfl, rfl, rfl, rfl, rfl, rfl, rfl, rfl⟩
set_option maxHeartbeats 8000000 in
set_option maxRecDepth 100000 in
theorem size_any (o : Ob) (s1 s2 s3 s4 t1 t2 t3 t4 : Value) (w : World) (hO : ObAt w s1 s2 s3 s4 t1 t2 t3 t4 o) (hok : o.ok) (hsm : ObSmall o) :
    Calls Try.prog 12 #[.agg (obCells s1 s2 s3 s4 o.cross o.flags t1 t2 t3 t4)] w fun e w' => e = .returned (.int .i64 ((8 + sizeN (numsO o) : Nat) : Int)) ∧ sizeN (numsO o) ≤ 300000 ∧ Below w.heap.size w w' := by
  have WR := fun (W : World) (hI : SzI w (w.heap.size + 1) [] W) => write_any 26 (w.heap.size + 1) w (SzI w (w.heap.size + 1)) (sz_taker w _) o s1 s2 s3 s4 t1 t2 t3 t4 hO hok hsm [] (by simp) W hI
  obtain ⟨o1, n1, c1, o2, n2, c2, o3, n3, c3, o4, n4, c4, q1, m1, d1, q2, m2, d2, q3, m3, d3, q4, m4, d4, rfl, rfl, rfl, rfl, rfl, rfl, rfl, rfl⟩ := obAt_slices hO
  have hx := Lib.hid WR
  have SM := Lib.hid hsm
  clear WR hO hok hsm
  unfold obCells at hx ⊢
  obtain ⟨x, hxe⟩ : ∃ x, x = o.cross := ⟨_, rfl⟩
  obtain ⟨y, hye⟩ : ∃ y, y = o.flags := ⟨_, rfl⟩
  rw [← hxe, ← hye] at hx
  rw [← hxe, ← hye]
  clear hxe hye
  have z1 : (w.alloc (.cells #[.slice o1 n1 c1, .slice o2 n2 c2, .slice o3 n3 c3, .slice o4 n4 c4, .int .i64 x, .int .i64 y, .slice q1 m1 d1, .slice q2 m2 d2, .slice q3 m3 d3, .slice q4 m4 d4] 26)).heap.size = w.heap.size + 1 := World.size_alloc _ _
  have hs : SzI w (w.heap.size + 1) [] ((w.alloc (.cells #[.slice o1 n1 c1, .slice o2 n2 c2, .slice o3 n3 c3, .slice o4 n4 c4, .int .i64 x, .int .i64 y, .slice q1 m1 d1, .slice q2 m2 d2, .slice q3 m3 d3, .slice q4 m4 d4] 26)).alloc (.cells #[.int .i64 8] 3)) := by
    refine ⟨((Below.refl _ w).alloc (Nat.le_refl _) _).alloc (by rw [z1]; omega) _, by omega, ?_, by simp [sizeN]⟩
    have h := heap_alloc_new (w.alloc (.cells #[.slice o1 n1 c1, .slice o2 n2 c2, .slice o3 n3 c3, .slice o4 n4 c4, .int .i64 x, .int .i64 y, .slice q1 m1 d1, .slice q2 m2 d2, .slice q3 m3 d3, .slice q4 m4 d4] 26)) (.cells #[.int .i64 8] 3)
    rw [z1] at h
    exact h
  have C := Lib.hid (hx.out _ hs)
  clear hx hs z1
  go_enter Try.func12, Try.ntmps12
  go_wp2_with (go_at_call 15; (with_reducible refine C.out.mono ?_); rintro e w1 ⟨rfl, hI, hF⟩; have HI := Lib.hid hI; have c1 : w1.cell? ⟨w.heap.size + 1, 0, none⟩ = some (.int .i64 ((8 + sizeN ([] ++ numsO o) : Nat) : Int)) := (by simp [World.cell?, hI.box]); clear hI hF)
  go_ret
  have h := HI.out.most
  have h1 := numsA_len o
  have h2 : (numsO o).length ≤ 24000 := by
    unfold numsO
    simp only [List.length_append, h1, numsS_len]
    obtain ⟨h3, h4⟩ := SM.out
    omega
  rw [List.nil_append] at h
  exact ⟨rfl, by omega, HI.out.below⟩
end Go.Proofs.Ytodblepbedhnnaa
