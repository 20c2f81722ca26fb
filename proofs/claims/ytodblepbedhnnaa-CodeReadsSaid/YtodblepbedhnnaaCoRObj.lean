/- The reference's Object: what is read. -/
import Derived.Test.YtodblepbedhnnaaCoRCanon
import Derived.Test.YtodblepbedhnnaaCoRBytes
import Derived.Lib.QuietBelow
import Derived.Deep.Cut
namespace Go.Proofs.Ytodblepbedhnnaa
open Go.RowKit Co

attribute [local go_sem] Oper.semAt_some

theorem own_slice {B n sz : Nat} {T : TypeId} {v : Value} {xs : List Value} {w : World} (h : w.ownsRow B T sz v n xs) : ∃ o m c, v = .slice o m c := by
  rcases h.2 with ⟨h1, _⟩ | ⟨g, cap, cur, h1, _⟩
  · exact ⟨_, _, _, h1⟩
  · exact ⟨_, _, _, h1⟩
theorem own_kp {B m n sz : Nat} {T : TypeId} {v : Value} {xs : List Value} {w w' : World} (h : w.ownsRow B T sz v n xs) (hm : m ≤ B) (hs : Kp m w w') : w'.ownsRow B T sz v n xs := by
  obtain ⟨h0, h⟩ := h
  refine ⟨h0, ?_⟩
  rcases h with h | ⟨g, cap, cur, h1, h2, h3, h4⟩
  · exact .inl h
  · exact .inr ⟨g, cap, cur, h1, h2, (hs.same g (by omega) (lt_of_heap h3)).trans h3, h4⟩
theorem ten_seen {W : World} {B : Nat} {a0 a1 a2 a3 a4 a5 a6 a7 a8 a9 : Value} {T : TypeId} (h : W.heap[B]? = some (.cells #[a0, a1, a2, a3, a4, a5, a6, a7, a8, a9] T (0, 0))) : W.cell? ⟨B, 0, none⟩ = some a0 ∧ W.cell? ⟨B, 1, none⟩ = some a1 ∧ W.cell? ⟨B, 2, none⟩ = some a2 ∧ W.cell? ⟨B, 3, none⟩ = some a3 ∧ W.cell? ⟨B, 4, none⟩ = some a4 ∧ W.cell? ⟨B, 5, none⟩ = some a5 ∧ W.cell? ⟨B, 6, none⟩ = some a6 ∧ W.cell? ⟨B, 7, none⟩ = some a7 ∧ W.cell? ⟨B, 8, none⟩ = some a8 ∧ W.cell? ⟨B, 9, none⟩ = some a9 :=
  ⟨by simp [World.cell?, h], by simp [World.cell?, h], by simp [World.cell?, h], by simp [World.cell?, h], by simp [World.cell?, h], by simp [World.cell?, h], by simp [World.cell?, h], by simp [World.cell?, h], by simp [World.cell?, h], by simp [World.cell?, h]⟩
theorem none_of {B : List UInt8} (h : ∀ o, objOf B = some o → False) : objOf B = none := by
  cases e : objOf B with
  | none => rfl
  | some o => exact (h o e).elim
theorem bytesO_eight (o : Ob) : 8 ≤ (bytesO o).length := by
  unfold bytesO sealN four signs
  simp only [List.length_append, List.length_cons, List.length_nil]
  omega
/-- all but two blocks as they were -/
structure K2 (R O : Nat) (w w' : World) : Prop where
  size : w.heap.size ≤ w'.heap.size
  same : ∀ k, k < w.heap.size → k ≠ R → k ≠ O → w'.heap[k]? = w.heap[k]?
theorem K2.refl (R O : Nat) (w : World) : K2 R O w w := ⟨Nat.le_refl _, fun _ _ _ _ => rfl⟩
theorem K2.trans {R O : Nat} {a b c : World} (h : K2 R O a b) (k : K2 R O b c) : K2 R O a c := ⟨Nat.le_trans h.size k.size, fun j hj h1 h2 => (k.same j (Nat.lt_of_lt_of_le hj h.size) h1 h2).trans (h.same j hj h1 h2)⟩
theorem K2.step {R O i : Nat} {a b : World} (h : Sm R a b) (v : Value) : K2 R O a (b.setCell ⟨O, i, none⟩ v) := ⟨by simp only [World.setCell, Array.size_modify]; exact h.size, fun j hj h1 h2 => (set_other h2).trans (h.same j hj h1)⟩
theorem own_k2 {R O B n sz : Nat} {T : TypeId} {v : Value} {xs : List Value} {w w' : World} (h : w.ownsRow B T sz v n xs) (hR : R < B) (hO : O < B) (hs : K2 R O w w') : w'.ownsRow B T sz v n xs := by
  obtain ⟨h0, h⟩ := h
  refine ⟨h0, ?_⟩
  rcases h with h | ⟨g, cap, cur, h1, h2, h3, h4⟩
  · exact .inl h
  · exact .inr ⟨g, cap, cur, h1, h2, (hs.same g (lt_of_heap h3) (by omega) (by omega)).trans h3, h4⟩
set_option maxHeartbeats 16000000 in
set_option maxRecDepth 100000 in
theorem robj_any (s : Value) (B : List UInt8) (w : World) (hs : BytesAt w s B) (hl : B.length ≤ 5000) :
    Calls Try.prog 14 #[s] w fun e w' => ObjPost w (objOf B) e w' := by
  have HBA := Lib.hid hs
  have HLB : Hid (B.length ≤ 1000000) := Lib.hid (by omega)
  have HLM := Lib.hid hl
  obtain ⟨o, cap, b, off, rfl, _, _, e1, c1⟩ := hs
  obtain ⟨n, hn⟩ : ∃ n, n = B.length := ⟨_, rfl⟩
  rw [← hn] at HBA ⊢
  have HN := Lib.hid hn
  have hnl : (n : Int) ≤ 5000 := by omega
  have h1 : (w.alloc (.cells #[.slice none 0 0, .slice none 0 0, .slice none 0 0, .slice none 0 0, .int .i64 0, .int .i64 0, .slice none 0 0, .slice none 0 0, .slice none 0 0, .slice none 0 0] 26)).heap.size = w.heap.size + 1 := World.size_alloc _ _
  have h2 : ((w.alloc (.cells #[.slice none 0 0, .slice none 0 0, .slice none 0 0, .slice none 0 0, .int .i64 0, .int .i64 0, .slice none 0 0, .slice none 0 0, .slice none 0 0, .slice none 0 0] 26)).alloc (.cells #[.slice o n cap, .int .i64 4, .bool false] 62)).heap.size = w.heap.size + 2 := by rw [World.size_alloc, h1]
  have hb1 := (Below.refl w.heap.size w).alloc (Nat.le_refl _) (.cells #[.slice none 0 0, .slice none 0 0, .slice none 0 0, .slice none 0 0, .int .i64 0, .int .i64 0, .slice none 0 0, .slice none 0 0, .slice none 0 0, .slice none 0 0] 26)
  have hb2 := hb1.alloc hb1.size (.cells #[.slice o n cap, .int .i64 4, .bool false] 62)
  have hb3 := hb2.alloc hb2.size (.cells #[.slice none 0 0, .slice none 0 0, .slice none 0 0, .slice none 0 0, .int .i64 0, .int .i64 0, .slice none 0 0, .slice none 0 0, .slice none 0 0, .slice none 0 0] 26)
  have HX0 : Hid ((((w.alloc (.cells #[.slice none 0 0, .slice none 0 0, .slice none 0 0, .slice none 0 0, .int .i64 0, .int .i64 0, .slice none 0 0, .slice none 0 0, .slice none 0 0, .slice none 0 0] 26)).alloc (.cells #[.slice o n cap, .int .i64 4, .bool false] 62)).alloc (.cells #[.slice none 0 0, .slice none 0 0, .slice none 0 0, .slice none 0 0, .int .i64 0, .int .i64 0, .slice none 0 0, .slice none 0 0, .slice none 0 0, .slice none 0 0] 26)).heap[w.heap.size + 2]? = some (.cells #[.slice none 0 0, .slice none 0 0, .slice none 0 0, .slice none 0 0, .int .i64 0, .int .i64 0, .slice none 0 0, .slice none 0 0, .slice none 0 0, .slice none 0 0] 26 (0, 0))) := Lib.hid (by have h := heap_alloc_new ((w.alloc (.cells #[.slice none 0 0, .slice none 0 0, .slice none 0 0, .slice none 0 0, .int .i64 0, .int .i64 0, .slice none 0 0, .slice none 0 0, .slice none 0 0, .slice none 0 0] 26)).alloc (.cells #[.slice o n cap, .int .i64 4, .bool false] 62)) (.cells #[.slice none 0 0, .slice none 0 0, .slice none 0 0, .slice none 0 0, .int .i64 0, .int .i64 0, .slice none 0 0, .slice none 0 0, .slice none 0 0, .slice none 0 0] 26); rw [h2] at h; exact h)
  have HR0 : Hid (RR w (w.heap.size + 1) (.slice o n cap) 4 false (((w.alloc (.cells #[.slice none 0 0, .slice none 0 0, .slice none 0 0, .slice none 0 0, .int .i64 0, .int .i64 0, .slice none 0 0, .slice none 0 0, .slice none 0 0, .slice none 0 0] 26)).alloc (.cells #[.slice o n cap, .int .i64 4, .bool false] 62)).alloc (.cells #[.slice none 0 0, .slice none 0 0, .slice none 0 0, .slice none 0 0, .int .i64 0, .int .i64 0, .slice none 0 0, .slice none 0 0, .slice none 0 0, .slice none 0 0] 26))) := Lib.hid ⟨hb3, by omega, by
    have h := heap_alloc_new (w.alloc (.cells #[.slice none 0 0, .slice none 0 0, .slice none 0 0, .slice none 0 0, .int .i64 0, .int .i64 0, .slice none 0 0, .slice none 0 0, .slice none 0 0, .slice none 0 0] 26)) (.cells #[.slice o n cap, .int .i64 4, .bool false] 62)
    rw [h1] at h
    rw [Below.heap_alloc _ _ _ (by rw [h2]; omega)]
    exact h⟩
  have HKO0 := Lib.hid (lt_of_heap HX0.out)
  clear hn e1 c1 hl h1 h2 hb1 hb2 hb3
  rcases Nat.lt_or_ge n 4 with h4 | h4
  · have h4' : (n : Int) < 4 := by omega
    have hno : Hid (objOf B = none) := Lib.hid (none_of fun o' ho => by
      have h5 := congrArg List.length (bytes_objOf ho).1
      have h6 := bytesO_eight o'
      have h7 := HN.out
      omega)
    have HBP := Lib.hid HR0.out.below
    have hpp : (((w.alloc (.cells #[.slice none 0 0, .slice none 0 0, .slice none 0 0, .slice none 0 0, .int .i64 0, .int .i64 0, .slice none 0 0, .slice none 0 0, .slice none 0 0, .slice none 0 0] 26)).alloc (.cells #[.slice o n cap, .int .i64 4, .bool false] 62)).alloc (.cells #[.slice none 0 0, .slice none 0 0, .slice none 0 0, .slice none 0 0, .int .i64 0, .int .i64 0, .slice none 0 0, .slice none 0 0, .slice none 0 0, .slice none 0 0] 26)).heap[w.heap.size]? = some (.cells #[.slice none 0 0, .slice none 0 0, .slice none 0 0, .slice none 0 0, .int .i64 0, .int .i64 0, .slice none 0 0, .slice none 0 0, .slice none 0 0, .slice none 0 0] 26 (0, 0)) := by
      rw [Below.heap_alloc _ _ _ (by rw [World.size_alloc, World.size_alloc]; omega), Below.heap_alloc _ _ _ (by rw [World.size_alloc]; omega)]
      exact heap_alloc_new w _
    have HPP := Lib.hid hpp
    clear hpp
    go_enter Try.func14, Try.ntmps14
    go_upto_region 4 with (fail)
    have HXO : Hid ((((w.alloc (.cells #[.slice none 0 0, .slice none 0 0, .slice none 0 0, .slice none 0 0, .int .i64 0, .int .i64 0, .slice none 0 0, .slice none 0 0, .slice none 0 0, .slice none 0 0] 26)).alloc (.cells #[.slice o n cap, .int .i64 4, .bool false] 62)).alloc (.cells #[.slice none 0 0, .slice none 0 0, .slice none 0 0, .slice none 0 0, .int .i64 0, .int .i64 0, .slice none 0 0, .slice none 0 0, .slice none 0 0, .slice none 0 0] 26)).heap[w.heap.size + 1 + 1]? = some (.cells #[.slice none 0 0, .slice none 0 0, .slice none 0 0, .slice none 0 0, .int .i64 0, .int .i64 0, .slice none 0 0, .slice none 0 0, .slice none 0 0, .slice none 0 0] 26 (0, 0))) := HX0
    obtain ⟨Wn, hWn⟩ : ∃ Wn, Wn = (((w.alloc (.cells #[.slice none 0 0, .slice none 0 0, .slice none 0 0, .slice none 0 0, .int .i64 0, .int .i64 0, .slice none 0 0, .slice none 0 0, .slice none 0 0, .slice none 0 0] 26)).alloc (.cells #[.slice o n cap, .int .i64 4, .bool false] 62)).alloc (.cells #[.slice none 0 0, .slice none 0 0, .slice none 0 0, .slice none 0 0, .int .i64 0, .int .i64 0, .slice none 0 0, .slice none 0 0, .slice none 0 0, .slice none 0 0] 26)) := ⟨_, rfl⟩
    rw [← hWn] at HPP HXO HBP ⊢
    obtain ⟨Op, hOp⟩ : ∃ Op, Op = w.heap.size + 1 + 1 := ⟨_, rfl⟩
    rw [← hOp] at HXO ⊢
    clear hWn hOp HX0 HR0 HKO0
    obtain ⟨f0, f1, f2, f3, f4, f5, f6, f7, f8, f9⟩ := ten_frozen HPP.out
    obtain ⟨g0, g1, g2, g3, g4, g5, g6, g7, g8, g9⟩ := ten_seen HPP.out
    obtain ⟨k0, k1, k2, k3, k4, k5, k6, k7, k8, k9⟩ := ten_seen HXO.out
    go_wp2_with fail
    refine bodyPost_ret (results_two rfl _ ⟨w.heap.size, 0, none⟩ rfl (ten_end (ten_box HPP.out)) rfl) rfl ?_
    rw [hno.out]
    exact ⟨ten_below HBP.out (Nat.le_refl _) _ _ _ _ _ _ _ _ _ _, rfl⟩
  have h4' : ¬ (n : Int) < 4 := by omega
  have C1 := Lib.hid (rrints_any w (w.heap.size + 1) 4 (.slice o n cap) B false HBA.out HLB.out (by have := HN.out; omega) _ HR0.out)
  go_enter Try.func14, Try.ntmps14
  go_upto_region 15 with (first
    | (go_at_call 31; (with_reducible refine C1.out.mono ?_); rintro e w1 ⟨u1, l1, q1, b1, rfl, hN, hO, hR, hS⟩; obtain ⟨o1, n1, d1, rfl⟩ := own_slice hO; have HO1 := Lib.hid (own_low (i := 0) (u := .slice o1 n1 d1) hO (show w.heap.size + 2 < _ from HKO0.out)); clear hO; have HN1 := Lib.hid hN; have HL1 : Hid (q1 ≤ B.length) := Lib.hid (hN.2.2.1); have hx := (hS.same (w.heap.size + 2) HKO0.out (by omega)).trans HX0.out; have HX1 : Hid ((w1.setCell ⟨w.heap.size + 2, 0, none⟩ (.slice o1 n1 d1)).heap[w.heap.size + 2]? = some (.cells #[.slice o1 n1 d1, .slice none 0 0, .slice none 0 0, .slice none 0 0, .int .i64 0, .int .i64 0, .slice none 0 0, .slice none 0 0, .slice none 0 0, .slice none 0 0] 26 (0, 0))) := Lib.hid (by have h := set_heap hx 0 (.slice o1 n1 d1); simpa using h); have HKO1 : Hid (w.heap.size + 2 < (w1.setCell ⟨w.heap.size + 2, 0, none⟩ (.slice o1 n1 d1)).heap.size) := Lib.hid (lt_of_heap HX1.out); have HR1 := Lib.hid (hR.other (K := w.heap.size + 2) (i := 0) (by omega) (by omega) (.slice o1 n1 d1)); have HS1 : Hid (K2 (w.heap.size + 1) (w.heap.size + 2) (((w.alloc (.cells #[.slice none 0 0, .slice none 0 0, .slice none 0 0, .slice none 0 0, .int .i64 0, .int .i64 0, .slice none 0 0, .slice none 0 0, .slice none 0 0, .slice none 0 0] 26)).alloc (.cells #[.slice o n cap, .int .i64 4, .bool false] 62)).alloc (.cells #[.slice none 0 0, .slice none 0 0, .slice none 0 0, .slice none 0 0, .int .i64 0, .int .i64 0, .slice none 0 0, .slice none 0 0, .slice none 0 0, .slice none 0 0] 26)) (w1.setCell ⟨w.heap.size + 2, 0, none⟩ (.slice o1 n1 d1))) := Lib.hid (K2.step hS _); have y1 : w1.cell? ⟨w.heap.size + 2, 0, none⟩ = some (.slice none 0 0) := (by simp [World.cell?, hx]); have g1 : w1.frozen? ⟨w.heap.size + 2, 0, none⟩ = false := (by simp [World.frozen?, hx]); have C2 := Lib.hid (rrints_any w (w.heap.size + 1) q1 (.slice o n cap) B b1 HBA.out HLB.out HL1.out _ HR1.out); clear hN hR hS hx)
    | (go_at_call 31; (with_reducible refine C2.out.mono ?_); rintro e w2 ⟨u2, l2, q2, b2, rfl, hN, hO, hR, hS⟩; clear y1 g1; obtain ⟨o2, n2, d2, rfl⟩ := own_slice hO; have HO2 := Lib.hid (own_low (i := 1) (u := .slice o2 n2 d2) hO (show w.heap.size + 2 < _ from HKO1.out)); clear hO; have HN2 := Lib.hid hN; have HL2 : Hid (q2 ≤ B.length) := Lib.hid (hN.2.2.1); have hx := (hS.same (w.heap.size + 2) HKO1.out (by omega)).trans HX1.out; have HX2 : Hid ((w2.setCell ⟨w.heap.size + 2, 1, none⟩ (.slice o2 n2 d2)).heap[w.heap.size + 2]? = some (.cells #[.slice o1 n1 d1, .slice o2 n2 d2, .slice none 0 0, .slice none 0 0, .int .i64 0, .int .i64 0, .slice none 0 0, .slice none 0 0, .slice none 0 0, .slice none 0 0] 26 (0, 0))) := Lib.hid (by have h := set_heap hx 1 (.slice o2 n2 d2); simpa using h); have HKO2 : Hid (w.heap.size + 2 < (w2.setCell ⟨w.heap.size + 2, 1, none⟩ (.slice o2 n2 d2)).heap.size) := Lib.hid (lt_of_heap HX2.out); have HR2 := Lib.hid (hR.other (K := w.heap.size + 2) (i := 1) (by omega) (by omega) (.slice o2 n2 d2)); have HS2 : Hid (K2 (w.heap.size + 1) (w.heap.size + 2) (w1.setCell ⟨w.heap.size + 2, 0, none⟩ (.slice o1 n1 d1)) (w2.setCell ⟨w.heap.size + 2, 1, none⟩ (.slice o2 n2 d2))) := Lib.hid (K2.step hS _); have y2 : w2.cell? ⟨w.heap.size + 2, 1, none⟩ = some (.slice none 0 0) := (by simp [World.cell?, hx]); have g2 : w2.frozen? ⟨w.heap.size + 2, 1, none⟩ = false := (by simp [World.frozen?, hx]); have C3 := Lib.hid (rrnums_any w (w.heap.size + 1) q2 (.slice o n cap) B b2 HBA.out HLB.out HL2.out _ HR2.out); clear hN hR hS hx)
    | (go_at_call 32; (with_reducible refine C3.out.mono ?_); rintro e w3 ⟨u3, l3, q3, b3, rfl, hN, hO, hR, hS⟩; clear y2 g2; obtain ⟨o3, n3, d3, rfl⟩ := own_slice hO; have HO3 := Lib.hid (own_low (i := 2) (u := .slice o3 n3 d3) hO (show w.heap.size + 2 < _ from HKO2.out)); clear hO; have HN3 := Lib.hid hN; have HL3 : Hid (q3 ≤ B.length) := Lib.hid (hN.2.2.1); have hx := (hS.same (w.heap.size + 2) HKO2.out (by omega)).trans HX2.out; have HX3 : Hid ((w3.setCell ⟨w.heap.size + 2, 2, none⟩ (.slice o3 n3 d3)).heap[w.heap.size + 2]? = some (.cells #[.slice o1 n1 d1, .slice o2 n2 d2, .slice o3 n3 d3, .slice none 0 0, .int .i64 0, .int .i64 0, .slice none 0 0, .slice none 0 0, .slice none 0 0, .slice none 0 0] 26 (0, 0))) := Lib.hid (by have h := set_heap hx 2 (.slice o3 n3 d3); simpa using h); have HKO3 : Hid (w.heap.size + 2 < (w3.setCell ⟨w.heap.size + 2, 2, none⟩ (.slice o3 n3 d3)).heap.size) := Lib.hid (lt_of_heap HX3.out); have HR3 := Lib.hid (hR.other (K := w.heap.size + 2) (i := 2) (by omega) (by omega) (.slice o3 n3 d3)); have HS3 : Hid (K2 (w.heap.size + 1) (w.heap.size + 2) (w2.setCell ⟨w.heap.size + 2, 1, none⟩ (.slice o2 n2 d2)) (w3.setCell ⟨w.heap.size + 2, 2, none⟩ (.slice o3 n3 d3))) := Lib.hid (K2.step hS _); have y3 : w3.cell? ⟨w.heap.size + 2, 2, none⟩ = some (.slice none 0 0) := (by simp [World.cell?, hx]); have g3 : w3.frozen? ⟨w.heap.size + 2, 2, none⟩ = false := (by simp [World.frozen?, hx]); have C4 := Lib.hid (rrnums_any w (w.heap.size + 1) q3 (.slice o n cap) B b3 HBA.out HLB.out HL3.out _ HR3.out); clear hN hR hS hx)
    | (go_at_call 32; (with_reducible refine C4.out.mono ?_); rintro e w4 ⟨u4, l4, q4, b4, rfl, hN, hO, hR, hS⟩; clear y3 g3; obtain ⟨o4, n4, d4, rfl⟩ := own_slice hO; have HO4 := Lib.hid (own_low (i := 3) (u := .slice o4 n4 d4) hO (show w.heap.size + 2 < _ from HKO3.out)); clear hO; have HN4 := Lib.hid hN; have HL4 : Hid (q4 ≤ B.length) := Lib.hid (hN.2.2.1); have hx := (hS.same (w.heap.size + 2) HKO3.out (by omega)).trans HX3.out; have HX4 : Hid ((w4.setCell ⟨w.heap.size + 2, 3, none⟩ (.slice o4 n4 d4)).heap[w.heap.size + 2]? = some (.cells #[.slice o1 n1 d1, .slice o2 n2 d2, .slice o3 n3 d3, .slice o4 n4 d4, .int .i64 0, .int .i64 0, .slice none 0 0, .slice none 0 0, .slice none 0 0, .slice none 0 0] 26 (0, 0))) := Lib.hid (by have h := set_heap hx 3 (.slice o4 n4 d4); simpa using h); have HKO4 : Hid (w.heap.size + 2 < (w4.setCell ⟨w.heap.size + 2, 3, none⟩ (.slice o4 n4 d4)).heap.size) := Lib.hid (lt_of_heap HX4.out); have HR4 := Lib.hid (hR.other (K := w.heap.size + 2) (i := 3) (by omega) (by omega) (.slice o4 n4 d4)); have HS4 : Hid (K2 (w.heap.size + 1) (w.heap.size + 2) (w3.setCell ⟨w.heap.size + 2, 2, none⟩ (.slice o3 n3 d3)) (w4.setCell ⟨w.heap.size + 2, 3, none⟩ (.slice o4 n4 d4))) := Lib.hid (K2.step hS _); have y4 : w4.cell? ⟨w.heap.size + 2, 3, none⟩ = some (.slice none 0 0) := (by simp [World.cell?, hx]); have g4 : w4.frozen? ⟨w.heap.size + 2, 3, none⟩ = false := (by simp [World.frozen?, hx]); have C5 := Lib.hid (rrnum_any w (w.heap.size + 1) q4 (.slice o n cap) B b4 HBA.out HLB.out (by have := HL4.out; have := HLB.out; omega) _ HR4.out); clear hN hR hS hx)
    | (go_at_call 33; (with_reducible refine C5.out.mono ?_); rintro e w5 ⟨x5, q5, b5, rfl, hN, hR, hS⟩; clear y4 g4; have HN5 := Lib.hid hN; have HL5 : Hid (q5 ≤ B.length) := Lib.hid (hN.2.2.1 HL4.out); have hx := (hS.same (w.heap.size + 2) HKO4.out (by omega)).trans HX4.out; have HX5 : Hid ((w5.setCell ⟨w.heap.size + 2, 4, none⟩ (.int .i64 x5)).heap[w.heap.size + 2]? = some (.cells #[.slice o1 n1 d1, .slice o2 n2 d2, .slice o3 n3 d3, .slice o4 n4 d4, .int .i64 x5, .int .i64 0, .slice none 0 0, .slice none 0 0, .slice none 0 0, .slice none 0 0] 26 (0, 0))) := Lib.hid (by have h := set_heap hx 4 (.int .i64 x5); simpa using h); have HKO5 : Hid (w.heap.size + 2 < (w5.setCell ⟨w.heap.size + 2, 4, none⟩ (.int .i64 x5)).heap.size) := Lib.hid (lt_of_heap HX5.out); have HR5 := Lib.hid (hR.other (K := w.heap.size + 2) (i := 4) (by omega) (by omega) (.int .i64 x5)); have HS5 : Hid (K2 (w.heap.size + 1) (w.heap.size + 2) (w4.setCell ⟨w.heap.size + 2, 3, none⟩ (.slice o4 n4 d4)) (w5.setCell ⟨w.heap.size + 2, 4, none⟩ (.int .i64 x5))) := Lib.hid (K2.step hS _); have y5 : w5.cell? ⟨w.heap.size + 2, 4, none⟩ = some (.int .i64 0) := (by simp [World.cell?, hx]); have g5 : w5.frozen? ⟨w.heap.size + 2, 4, none⟩ = false := (by simp [World.frozen?, hx]); have C6 := Lib.hid (rrnum_any w (w.heap.size + 1) q5 (.slice o n cap) B (b4 || b5) HBA.out HLB.out (by have := HL5.out; have := HLB.out; omega) _ HR5.out); clear hN hR hS hx)
    | (go_at_call 33; (with_reducible refine C6.out.mono ?_); rintro e w6 ⟨x6, q6, b6, rfl, hN, hR, hS⟩; clear y5 g5; have HN6 := Lib.hid hN; have HL6 : Hid (q6 ≤ B.length) := Lib.hid (hN.2.2.1 HL5.out); have hx := (hS.same (w.heap.size + 2) HKO5.out (by omega)).trans HX5.out; have HX6 : Hid ((w6.setCell ⟨w.heap.size + 2, 5, none⟩ (.int .i64 x6)).heap[w.heap.size + 2]? = some (.cells #[.slice o1 n1 d1, .slice o2 n2 d2, .slice o3 n3 d3, .slice o4 n4 d4, .int .i64 x5, .int .i64 x6, .slice none 0 0, .slice none 0 0, .slice none 0 0, .slice none 0 0] 26 (0, 0))) := Lib.hid (by have h := set_heap hx 5 (.int .i64 x6); simpa using h); have HKO6 : Hid (w.heap.size + 2 < (w6.setCell ⟨w.heap.size + 2, 5, none⟩ (.int .i64 x6)).heap.size) := Lib.hid (lt_of_heap HX6.out); have HR6 := Lib.hid (hR.other (K := w.heap.size + 2) (i := 5) (by omega) (by omega) (.int .i64 x6)); have HS6 : Hid (K2 (w.heap.size + 1) (w.heap.size + 2) (w5.setCell ⟨w.heap.size + 2, 4, none⟩ (.int .i64 x5)) (w6.setCell ⟨w.heap.size + 2, 5, none⟩ (.int .i64 x6))) := Lib.hid (K2.step hS _); have y6 : w6.cell? ⟨w.heap.size + 2, 5, none⟩ = some (.int .i64 0) := (by simp [World.cell?, hx]); have g6 : w6.frozen? ⟨w.heap.size + 2, 5, none⟩ = false := (by simp [World.frozen?, hx]); have C7 := Lib.hid (rrpiece_any w (w.heap.size + 1) q6 (.slice o n cap) B ((b4 || b5) || b6) HBA.out HLB.out HL6.out _ HR6.out); clear hN hR hS hx)
    | (go_at_call 34; (with_reducible refine C7.out.mono ?_); rintro e w7 ⟨u7, l7, q7, b7, rfl, hN, hO, hR, hS⟩; clear y6 g6; obtain ⟨o7, n7, d7, rfl⟩ := own_slice hO; have HO7 := Lib.hid (own_low (i := 6) (u := .slice o7 n7 d7) hO (show w.heap.size + 2 < _ from HKO6.out)); clear hO; have HN7 := Lib.hid hN; have HL7 : Hid (q7 ≤ B.length) := Lib.hid (hN.2.2.1); have hx := (hS.same (w.heap.size + 2) HKO6.out (by omega)).trans HX6.out; have HX7 : Hid ((w7.setCell ⟨w.heap.size + 2, 6, none⟩ (.slice o7 n7 d7)).heap[w.heap.size + 2]? = some (.cells #[.slice o1 n1 d1, .slice o2 n2 d2, .slice o3 n3 d3, .slice o4 n4 d4, .int .i64 x5, .int .i64 x6, .slice o7 n7 d7, .slice none 0 0, .slice none 0 0, .slice none 0 0] 26 (0, 0))) := Lib.hid (by have h := set_heap hx 6 (.slice o7 n7 d7); simpa using h); have HKO7 : Hid (w.heap.size + 2 < (w7.setCell ⟨w.heap.size + 2, 6, none⟩ (.slice o7 n7 d7)).heap.size) := Lib.hid (lt_of_heap HX7.out); have HR7 := Lib.hid (hR.other (K := w.heap.size + 2) (i := 6) (by omega) (by omega) (.slice o7 n7 d7)); have HS7 : Hid (K2 (w.heap.size + 1) (w.heap.size + 2) (w6.setCell ⟨w.heap.size + 2, 5, none⟩ (.int .i64 x6)) (w7.setCell ⟨w.heap.size + 2, 6, none⟩ (.slice o7 n7 d7))) := Lib.hid (K2.step hS _); have y7 : w7.cell? ⟨w.heap.size + 2, 6, none⟩ = some (.slice none 0 0) := (by simp [World.cell?, hx]); have g7 : w7.frozen? ⟨w.heap.size + 2, 6, none⟩ = false := (by simp [World.frozen?, hx]); have C8 := Lib.hid (rrpiece_any w (w.heap.size + 1) q7 (.slice o n cap) B b7 HBA.out HLB.out HL7.out _ HR7.out); clear hN hR hS hx)
    | (go_at_call 34; (with_reducible refine C8.out.mono ?_); rintro e w8 ⟨u8, l8, q8, b8, rfl, hN, hO, hR, hS⟩; clear y7 g7; obtain ⟨o8, n8, d8, rfl⟩ := own_slice hO; have HO8 := Lib.hid (own_low (i := 7) (u := .slice o8 n8 d8) hO (show w.heap.size + 2 < _ from HKO7.out)); clear hO; have HN8 := Lib.hid hN; have HL8 : Hid (q8 ≤ B.length) := Lib.hid (hN.2.2.1); have hx := (hS.same (w.heap.size + 2) HKO7.out (by omega)).trans HX7.out; have HX8 : Hid ((w8.setCell ⟨w.heap.size + 2, 7, none⟩ (.slice o8 n8 d8)).heap[w.heap.size + 2]? = some (.cells #[.slice o1 n1 d1, .slice o2 n2 d2, .slice o3 n3 d3, .slice o4 n4 d4, .int .i64 x5, .int .i64 x6, .slice o7 n7 d7, .slice o8 n8 d8, .slice none 0 0, .slice none 0 0] 26 (0, 0))) := Lib.hid (by have h := set_heap hx 7 (.slice o8 n8 d8); simpa using h); have HKO8 : Hid (w.heap.size + 2 < (w8.setCell ⟨w.heap.size + 2, 7, none⟩ (.slice o8 n8 d8)).heap.size) := Lib.hid (lt_of_heap HX8.out); have HR8 := Lib.hid (hR.other (K := w.heap.size + 2) (i := 7) (by omega) (by omega) (.slice o8 n8 d8)); have HS8 : Hid (K2 (w.heap.size + 1) (w.heap.size + 2) (w7.setCell ⟨w.heap.size + 2, 6, none⟩ (.slice o7 n7 d7)) (w8.setCell ⟨w.heap.size + 2, 7, none⟩ (.slice o8 n8 d8))) := Lib.hid (K2.step hS _); have y8 : w8.cell? ⟨w.heap.size + 2, 7, none⟩ = some (.slice none 0 0) := (by simp [World.cell?, hx]); have g8 : w8.frozen? ⟨w.heap.size + 2, 7, none⟩ = false := (by simp [World.frozen?, hx]); have C9 := Lib.hid (rrpiece_any w (w.heap.size + 1) q8 (.slice o n cap) B b8 HBA.out HLB.out HL8.out _ HR8.out); clear hN hR hS hx)
    | (go_at_call 34; (with_reducible refine C9.out.mono ?_); rintro e w9 ⟨u9, l9, q9, b9, rfl, hN, hO, hR, hS⟩; clear y8 g8; obtain ⟨o9, n9, d9, rfl⟩ := own_slice hO; have HO9 := Lib.hid (own_low (i := 8) (u := .slice o9 n9 d9) hO (show w.heap.size + 2 < _ from HKO8.out)); clear hO; have HN9 := Lib.hid hN; have HL9 : Hid (q9 ≤ B.length) := Lib.hid (hN.2.2.1); have hx := (hS.same (w.heap.size + 2) HKO8.out (by omega)).trans HX8.out; have HX9 : Hid ((w9.setCell ⟨w.heap.size + 2, 8, none⟩ (.slice o9 n9 d9)).heap[w.heap.size + 2]? = some (.cells #[.slice o1 n1 d1, .slice o2 n2 d2, .slice o3 n3 d3, .slice o4 n4 d4, .int .i64 x5, .int .i64 x6, .slice o7 n7 d7, .slice o8 n8 d8, .slice o9 n9 d9, .slice none 0 0] 26 (0, 0))) := Lib.hid (by have h := set_heap hx 8 (.slice o9 n9 d9); simpa using h); have HKO9 : Hid (w.heap.size + 2 < (w9.setCell ⟨w.heap.size + 2, 8, none⟩ (.slice o9 n9 d9)).heap.size) := Lib.hid (lt_of_heap HX9.out); have HR9 := Lib.hid (hR.other (K := w.heap.size + 2) (i := 8) (by omega) (by omega) (.slice o9 n9 d9)); have HS9 : Hid (K2 (w.heap.size + 1) (w.heap.size + 2) (w8.setCell ⟨w.heap.size + 2, 7, none⟩ (.slice o8 n8 d8)) (w9.setCell ⟨w.heap.size + 2, 8, none⟩ (.slice o9 n9 d9))) := Lib.hid (K2.step hS _); have y9 : w9.cell? ⟨w.heap.size + 2, 8, none⟩ = some (.slice none 0 0) := (by simp [World.cell?, hx]); have g9 : w9.frozen? ⟨w.heap.size + 2, 8, none⟩ = false := (by simp [World.frozen?, hx]); have C10 := Lib.hid (rrpiece_any w (w.heap.size + 1) q9 (.slice o n cap) B b9 HBA.out HLB.out HL9.out _ HR9.out); clear hN hR hS hx)
    | (go_at_call 34; (with_reducible refine C10.out.mono ?_); rintro e w10 ⟨u10, l10, q10, b10, rfl, hN, hO, hR, hS⟩; clear y9 g9; obtain ⟨o10, n10, d10, rfl⟩ := own_slice hO; have HO10 := Lib.hid (own_low (i := 9) (u := .slice o10 n10 d10) hO (show w.heap.size + 2 < _ from HKO9.out)); clear hO; have HN10 := Lib.hid hN; have HL10 : Hid (q10 ≤ B.length) := Lib.hid (hN.2.2.1); have hx := (hS.same (w.heap.size + 2) HKO9.out (by omega)).trans HX9.out; have HX10 : Hid ((w10.setCell ⟨w.heap.size + 2, 9, none⟩ (.slice o10 n10 d10)).heap[w.heap.size + 2]? = some (.cells #[.slice o1 n1 d1, .slice o2 n2 d2, .slice o3 n3 d3, .slice o4 n4 d4, .int .i64 x5, .int .i64 x6, .slice o7 n7 d7, .slice o8 n8 d8, .slice o9 n9 d9, .slice o10 n10 d10] 26 (0, 0))) := Lib.hid (by have h := set_heap hx 9 (.slice o10 n10 d10); simpa using h); have HKO10 : Hid (w.heap.size + 2 < (w10.setCell ⟨w.heap.size + 2, 9, none⟩ (.slice o10 n10 d10)).heap.size) := Lib.hid (lt_of_heap HX10.out); have HR10 := Lib.hid (hR.other (K := w.heap.size + 2) (i := 9) (by omega) (by omega) (.slice o10 n10 d10)); have HS10 : Hid (K2 (w.heap.size + 1) (w.heap.size + 2) (w9.setCell ⟨w.heap.size + 2, 8, none⟩ (.slice o9 n9 d9)) (w10.setCell ⟨w.heap.size + 2, 9, none⟩ (.slice o10 n10 d10))) := Lib.hid (K2.step hS _); have y10 : w10.cell? ⟨w.heap.size + 2, 9, none⟩ = some (.slice none 0 0) := (by simp [World.cell?, hx]); have g10 : w10.frozen? ⟨w.heap.size + 2, 9, none⟩ = false := (by simp [World.frozen?, hx]); clear hN hR hS hx))
  have K10 := K2.refl (w.heap.size + 1) (w.heap.size + 2) (w10.setCell ⟨w.heap.size + 2, 9, none⟩ (.slice o10 n10 d10))
  have K9 := HS10.out.trans K10
  have K8 := HS9.out.trans K9
  have K7 := HS8.out.trans K8
  have K6 := HS7.out.trans K7
  have K5 := HS6.out.trans K6
  have K4 := HS5.out.trans K5
  have K3 := HS4.out.trans K4
  have K2 := HS3.out.trans K3
  have K1 := HS2.out.trans K2
  have K0 := HS1.out.trans K1
  have hOb : Hid (∀ W', Kp (w.heap.size + 3) (w10.setCell ⟨w.heap.size + 2, 9, none⟩ (.slice o10 n10 d10)) W' → ObAt W' (.slice o1 n1 d1) (.slice o2 n2 d2) (.slice o3 n3 d3) (.slice o4 n4 d4) (.slice o7 n7 d7) (.slice o8 n8 d8) (.slice o9 n9 d9) (.slice o10 n10 d10) ⟨l1, l2, l3, l4, x5, x6, l7, l8, l9, l10⟩) := Lib.hid fun W' hk => ⟨own_ints (own_kp (own_k2 HO1.out (by have := HKO0.out; omega) (by have := HKO0.out; omega) K1) (by have := HKO0.out; omega) hk), own_ints (own_kp (own_k2 HO2.out (by have := HKO1.out; omega) (by have := HKO1.out; omega) K2) (by have := HKO1.out; omega) hk), own_ints (own_kp (own_k2 HO3.out (by have := HKO2.out; omega) (by have := HKO2.out; omega) K3) (by have := HKO2.out; omega) hk), own_ints (own_kp (own_k2 HO4.out (by have := HKO3.out; omega) (by have := HKO3.out; omega) K4) (by have := HKO3.out; omega) hk), own_sixes (own_kp (own_k2 HO7.out (by have := HKO6.out; omega) (by have := HKO6.out; omega) K7) (by have := HKO6.out; omega) hk), own_sixes (own_kp (own_k2 HO8.out (by have := HKO7.out; omega) (by have := HKO7.out; omega) K8) (by have := HKO7.out; omega) hk), own_sixes (own_kp (own_k2 HO9.out (by have := HKO8.out; omega) (by have := HKO8.out; omega) K9) (by have := HKO8.out; omega) hk), own_sixes (own_kp (own_k2 HO10.out (by have := HKO9.out; omega) (by have := HKO9.out; omega) K10) (by have := HKO9.out; omega) hk)⟩
  have hAll := Lib.hid (chain_obj HLM.out HN1.out HN2.out HN3.out HN4.out HN5.out HN6.out HN7.out HN8.out HN9.out HN10.out)
  have hPV : Hid ((w10.setCell ⟨w.heap.size + 2, 9, none⟩ (.slice o10 n10 d10)).heap[w.heap.size]? = some (.cells #[.slice none 0 0, .slice none 0 0, .slice none 0 0, .slice none 0 0, .int .i64 0, .int .i64 0, .slice none 0 0, .slice none 0 0, .slice none 0 0, .slice none 0 0] 26 (0, 0))) := Lib.hid (by
    refine (K0.same w.heap.size (by have := HKO0.out; omega) (by omega) (by omega)).trans ?_
    rw [Below.heap_alloc _ _ _ (by rw [World.size_alloc, World.size_alloc]; omega), Below.heap_alloc _ _ _ (by rw [World.size_alloc]; omega)]
    exact heap_alloc_new w _)
  have hXV := Lib.hid HX10.out
  have hRV := Lib.hid HR10.out
  clear K0 K1 K2 K3 K4 K5 K6 K7 K8 K9 K10 y10 g10
  obtain ⟨V, hV⟩ : ∃ V, V = (w10.setCell ⟨w.heap.size + 2, 9, none⟩ (.slice o10 n10 d10)) := ⟨_, rfl⟩
  rw [← hV] at hOb hPV hXV hRV ⊢
  clear hV HX0 HX1 HX2 HX3 HX4 HX5 HX6 HX7 HX8 HX9 HX10 HR0 HR1 HR2 HR3 HR4 HR5 HR6 HR7 HR8 HR9 HR10 HS1 HS2 HS3 HS4 HS5 HS6 HS7 HS8 HS9 HS10 HO1 HO2 HO3 HO4 HO7 HO8 HO9 HO10 HKO0 HKO1 HKO2 HKO3 HKO4 HKO5 HKO6 HKO7 HKO8 HKO9 HKO10
  obtain ⟨f0, f1, f2, f3, f4, f5, f6, f7, f8, f9⟩ := ten_frozen hPV.out
  obtain ⟨g0, g1, g2, g3, g4, g5, g6, g7, g8, g9⟩ := ten_seen hPV.out
  obtain ⟨⟨z0, z1, z2⟩, _, _, _⟩ := rr_cells hRV.out
  have HBV := Lib.hid hRV.out.below
  cases b10 with
  | true =>
    have hno : Hid (objOf B = none) := Lib.hid (none_of fun o' ho => by have := (hAll.out.same o' ho).1; cases this)
    go_wp2_with fail
    refine bodyPost_ret (results_two rfl _ ⟨w.heap.size, 0, none⟩ rfl (ten_end (ten_box hPV.out)) rfl) rfl ?_
    rw [hno.out]
    exact ⟨ten_below HBV.out (Nat.le_refl _) _ _ _ _ _ _ _ _ _ _, rfl⟩
  | false =>
    have hsm := hAll.out.small rfl
    have RB := Lib.hid (rbytes_any ⟨l1, l2, l3, l4, x5, x6, l7, l8, l9, l10⟩ _ _ _ _ _ _ _ _ V (hOb.out V ⟨Nat.le_refl _, fun _ _ _ => rfl⟩) hAll.out.ok (by unfold ObSmall; have := HLM.out; simp only at hsm ⊢; omega))
    unfold obCells at RB
    have hsame : Hid (∀ o', objOf B = some o' → B = bytesO ⟨l1, l2, l3, l4, x5, x6, l7, l8, l9, l10⟩) := Lib.hid fun o' ho => by
      have h1 := (hAll.out.same o' ho).2
      rw [← h1]
      exact (bytes_objOf ho).1
    have hback : Hid (B = bytesO ⟨l1, l2, l3, l4, x5, x6, l7, l8, l9, l10⟩ → objOf B = some ⟨l1, l2, l3, l4, x5, x6, l7, l8, l9, l10⟩) := Lib.hid fun h => by rw [h]; exact objOf_bytes hAll.out.ok
    obtain ⟨C, hC⟩ : ∃ C, C = bytesO ⟨l1, l2, l3, l4, x5, x6, l7, l8, l9, l10⟩ := ⟨_, rfl⟩
    simp only [← hC] at RB hsame hback
    obtain ⟨y0, y1, y2, y3, y4, y5, y6, y7, y8, y9⟩ := ten_seen hXV.out
    clear hC hsm f0 f1 f2 f3 f4 f5 f6 f7 f8 f9 g0 g1 g2 g3 g4 g5 g6 g7 g8 g9
    go_upto_region 18 with (go_at_call 10; (with_reducible refine RB.out.mono ?_); rintro e W ⟨g, capb, rfl, hown, hbb⟩; have HOWN := Lib.hid hown; have HBB := Lib.hid hbb; clear hown hbb)
    have HPW := Lib.hid ((HBB.out.block _ (lt_of_heap hPV.out)).trans hPV.out)
    have HXW := Lib.hid ((HBB.out.block _ (lt_of_heap hXV.out)).trans hXV.out)
    have HBW := Lib.hid (HBV.out.trans (HBB.out.mono HBV.out.size))
    have HOW := Lib.hid (fun (W' : World) (hk : Kp (w.heap.size + 3) W W') => hOb.out W' (Kp.trans ⟨HBB.out.size, fun k _ hk => HBB.out.block k hk⟩ hk))
    have CC := Lib.hid (fun (c : Nat) (x : UInt8) (hx : C[c]? = some x) => (own_cell HOWN.out hx).1)
    obtain ⟨m, hm⟩ : ∃ m, m = C.length := ⟨_, rfl⟩
    rw [← hm]
    have HM := Lib.hid hm
    clear hm y0 y1 y2 y3 y4 y5 y6 y7 y8 y9 z0 z1 z2 RB hXV hPV hRV HOWN
    by_cases hlen : m = n
    · subst hlen
      clear HBB HBV hOb
      have hba := HBA.out
      unfold BytesAt at hba
      rw [← HN.out] at hba
      obtain ⟨o', cap', b', off', he, _, _, he1, hc1⟩ := hba
      cases he
      have HE1 := Lib.hid he1
      have HC1 := Lib.hid hc1
      clear he1 hc1
      go_wp2_with fail
      go_loopw [7] (fun i wr => ∃ (k : Nat), i = .int .i64 (k : Int) ∧ Hid (B.take k = C.take k) ∧ k ≤ m ∧ Hid (Below W.heap.size W wr)) (fun i _ => match i with | .int _ z => m - z.toNat | _ => 0)
      case atStart => exact ⟨0, rfl, Lib.hid (by rw [List.take_zero, List.take_zero]), Nat.zero_le _, Lib.hid (Below.refl _ _)⟩
      case round =>
        obtain ⟨k, rfl, hI, hk, hB⟩ := hrel
        rcases Nat.lt_or_ge k m with hlt | hge
        · have hkl : (k : Int) < (m : Int) := by omega
          obtain ⟨x, hx⟩ : ∃ x, B[k]? = some x := ⟨_, List.getElem?_eq_getElem (by rw [← HN.out]; exact hlt)⟩
          obtain ⟨y, hy⟩ : ∃ y, C[k]? = some y := ⟨_, List.getElem?_eq_getElem (by rw [← HM.out]; exact hlt)⟩
          have r1 := cell_on (HBW.out.trans (hB.out.mono HBW.out.size)) (HC1.out k hlt x hx)
          have r2 := cell_on hB.out (CC.out k y hy)
          have ix1 := ix_bytes (cap := cap) HE1.out hlt (by omega)
          have ix2 := ix_bytes (o := some ⟨g, 0, none⟩) (b := g) (off := 0) (cap := capb) (fun _ => rfl) hlt (by omega)
          unfold Ix at ix1 ix2
          rw [Nat.mul_one] at r1 ix1 ix2
          rw [Nat.zero_add] at ix2
          have G1 := fun pr : Regrown => cell_regrown r1 pr.d pr.os
          have G2 := fun pr : Regrown => cell_regrown r2 pr.d pr.os
          have HX := Lib.hid hx
          have HY := Lib.hid hy
          clear hx hy r1 r2
          by_cases hxy : x = y
          · have hI2 : Hid (B.take (k + 1) = C.take (k + 1)) := Lib.hid (by rw [take_next HX.out, take_next HY.out, hI.out, hxy])
            have q0 : ((x.toNat : Int) != (y.toNat : Int)) = false := by rw [hxy]; simp
            clear hxy
            go_wp2_with fail
            refine wp_region_quiet_below (by kernel_rfl) (by kernel_rfl) ?_
            repeat (go_big_quiet_step (fail))
            refine wpQuiet_nil ?_
            intro w4 hw4
            have HB4 : Hid (Below W.heap.size W w4) := Lib.hid (by obtain ⟨pr, rfl⟩ := hw4; exact hB.out.trans ((below_regrown _ _ _).mono hB.out.size))
            clear hw4 G1 G2
            go_wp2_with fail
            exact ⟨⟨k + 1, by go_num, hI2, by omega, HB4⟩, by simp; omega⟩
          · have hno : Hid (objOf B = none) := Lib.hid (none_of fun o' ho => hxy (by
              have h1 := HX.out
              rw [hsame.out o' ho, HY.out] at h1
              exact (Option.some.inj h1).symm))
            have q0 : ((x.toNat : Int) != (y.toNat : Int)) = true := bne_iff_ne.2 (fun h => hxy (UInt8.toNat_inj.1 (by omega)))
            clear hxy
            go_wp2_with fail
            refine wp_region_quiet_below (by kernel_rfl) (by kernel_rfl) ?_
            repeat (go_big_quiet_step (fail))
            refine wpQuiet_nil ?_
            intro w4 hw4
            have HB4 : Hid (Below W.heap.size W w4) := Lib.hid (by obtain ⟨pr, rfl⟩ := hw4; exact hB.out.trans ((below_regrown _ _ _).mono hB.out.size))
            clear hw4 G1 G2
            have HP4 := Lib.hid ((HB4.out.block _ (lt_of_heap HPW.out)).trans HPW.out)
            obtain ⟨f0, f1, f2, f3, f4, f5, f6, f7, f8, f9⟩ := ten_frozen HP4.out
            obtain ⟨g0, g1, g2, g3, g4, g5, g6, g7, g8, g9⟩ := ten_seen HP4.out
            go_wp2_with fail
            refine bodyPost_ret (results_two rfl _ ⟨w.heap.size, 0, none⟩ rfl (ten_end (ten_box HP4.out)) rfl) rfl ?_
            rw [hno.out]
            exact ⟨ten_below (HBW.out.trans (HB4.out.mono HBW.out.size)) (Nat.le_refl _) _ _ _ _ _ _ _ _ _ _, rfl⟩
        · obtain rfl : m = k := by omega
          have hno : ¬ (m : Int) < (m : Int) := by omega
          have hyes : Hid (objOf B = some ⟨l1, l2, l3, l4, x5, x6, l7, l8, l9, l10⟩) := Lib.hid (hback.out (by
            have h := hI.out
            rwa [List.take_of_length_le (by rw [← HN.out]; exact Nat.le_refl _), List.take_of_length_le (by rw [← HM.out]; exact Nat.le_refl _)] at h))
          have HP4 := Lib.hid ((hB.out.block _ (lt_of_heap HPW.out)).trans HPW.out)
          have HX4 := Lib.hid ((hB.out.block _ (lt_of_heap HXW.out)).trans HXW.out)
          obtain ⟨f0, f1, f2, f3, f4, f5, f6, f7, f8, f9⟩ := ten_frozen HP4.out
          obtain ⟨g0, g1, g2, g3, g4, g5, g6, g7, g8, g9⟩ := ten_seen HP4.out
          obtain ⟨y0, y1, y2, y3, y4, y5, y6, y7, y8, y9⟩ := ten_seen HX4.out
          go_wp2_with fail
          refine bodyPost_ret (results_two rfl _ ⟨w.heap.size, 0, none⟩ rfl (ten_end (ten_box HP4.out)) rfl) rfl ?_
          rw [hyes.out]
          exact ⟨ten_below (HBW.out.trans (hB.out.mono HBW.out.size)) (Nat.le_refl _) _ _ _ _ _ _ _ _ _ _, _, _, _, _, _, _, _, _, rfl, HOW.out _ (Kp.trans ⟨hB.out.size, fun k _ hk => hB.out.block k hk⟩ (ten_kp _ (by omega) _ _ _ _ _ _ _ _ _ _))⟩
    · have hno : Hid (objOf B = none) := Lib.hid (none_of fun o' ho => hlen (by rw [HM.out, HN.out, ← hsame.out o' ho]))
      have q0 : ((m : Int) != (n : Int)) = true := bne_iff_ne.2 (by omega)
      obtain ⟨f0, f1, f2, f3, f4, f5, f6, f7, f8, f9⟩ := ten_frozen HPW.out
      obtain ⟨g0, g1, g2, g3, g4, g5, g6, g7, g8, g9⟩ := ten_seen HPW.out
      clear hlen
      go_wp2_with fail
      refine bodyPost_ret (results_two rfl _ ⟨w.heap.size, 0, none⟩ rfl (ten_end (ten_box HPW.out)) rfl) rfl ?_
      rw [hno.out]
      exact ⟨ten_below HBW.out (Nat.le_refl _) _ _ _ _ _ _ _ _ _ _, rfl⟩
end Go.Proofs.Ytodblepbedhnnaa
