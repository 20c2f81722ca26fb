/- code's reader: one byte. -/
import Derived.Test.YtodblepbedhnnaaCoSum
namespace Go.Proofs.Ytodblepbedhnnaa
open Go.RowKit Co

attribute [local go_sem] Oper.semAt_some

def lostB : St → Bool
  | none => true
  | some _ => false
/-- the reader in block R has this left, of bytes that lie in w0 -/
structure Rd (w0 : World) (R : Nat) (s : St) (w : World) : Prop where
  below : Below w0.heap.size w0 w
  low : w0.heap.size ≤ R
  box : ∃ v l, w.heap[R]? = some (.cells #[v, .bool (lostB s)] 48 (0, 0)) ∧ BytesAt w0 v l ∧ l.length ≤ 1000000 ∧ (s = none ∨ s = some l)
/-- w' is w, but for block R -/
structure Sm (R : Nat) (w w' : World) : Prop where
  size : w.heap.size ≤ w'.heap.size
  same : ∀ k, k < w.heap.size → k ≠ R → w'.heap[k]? = w.heap[k]?
theorem Sm.refl (R : Nat) (w : World) : Sm R w w := ⟨Nat.le_refl _, fun _ _ _ => rfl⟩
theorem Sm.trans {R : Nat} {a b c : World} (h : Sm R a b) (k : Sm R b c) : Sm R a c := ⟨Nat.le_trans h.size k.size, fun i hi hR => (k.same i (Nat.lt_of_lt_of_le hi h.size) hR).trans (h.same i hi hR)⟩
theorem Sm.set (R i : Nat) (w : World) (v : Value) : Sm R w (w.setCell ⟨R, i, none⟩ v) := ⟨by simp [World.setCell], fun _ _ h => set_other h⟩
theorem Sm.alloc (R : Nat) (w : World) (o : Obj) : Sm R w (w.alloc o) := ⟨by rw [World.size_alloc]; omega, fun k hk _ => Below.heap_alloc w o k hk⟩
theorem two_cells {W : World} {B : Nat} {a b : Value} {T : TypeId} (h : W.heap[B]? = some (.cells #[a, b] T (0, 0))) : W.cell? ⟨B, 0, none⟩ = some a ∧ W.cell? ⟨B, 1, none⟩ = some b ∧ W.frozen? ⟨B, 0, none⟩ = false ∧ W.frozen? ⟨B, 1, none⟩ = false :=
  ⟨by simp [World.cell?, h], by simp [World.cell?, h], by simp [World.frozen?, h], by simp [World.frozen?, h]⟩
/-- it is lost now -/
theorem Rd.lose {w0 w : World} {R : Nat} {s : St} (h : Rd w0 R s w) : Rd w0 R none (w.setCell ⟨R, 1, none⟩ (.bool true)) := by
  obtain ⟨v, l, h1, h2, h3, _⟩ := h.box
  exact ⟨h.below.setCell (p := ⟨R, 1, none⟩) h.low _, h.low, v, l, set_heap h1 1 _, h2, h3, .inl rfl⟩
theorem Rd.step {w0 w : World} {R : Nat} {l t : List UInt8} {v : Value} (h : Rd w0 R (some l) w) (hv : BytesAt w0 v t) (ht : t.length ≤ 1000000) : Rd w0 R (some t) (w.setCell ⟨R, 0, none⟩ v) := by
  obtain ⟨u, l', h1, _, _, _⟩ := h.box
  exact ⟨h.below.setCell (p := ⟨R, 0, none⟩) h.low _, h.low, v, t, set_heap h1 0 _, hv, ht, .inr rfl⟩
theorem Rd.alloc {w0 w : World} {R : Nat} {s : St} (h : Rd w0 R s w) (o : Obj) : Rd w0 R s (w.alloc o) := by
  obtain ⟨v, l, h1, h2⟩ := h.box
  exact ⟨h.below.alloc h.below.size o, h.low, v, l, (Below.heap_alloc w o R (lt_of_heap h1)).trans h1, h2⟩
theorem Rd.lt {w0 w : World} {R : Nat} {s : St} (h : Rd w0 R s w) : R < w.heap.size := by
  obtain ⟨v, l, h1, _⟩ := h.box
  exact lt_of_heap h1
theorem Rd.other {w0 w : World} {R k i : Nat} {s : St} (h : Rd w0 R s w) (hk : k ≠ R) (hl : w0.heap.size ≤ k) (v : Value) : Rd w0 R s (w.setCell ⟨k, i, none⟩ v) := by
  obtain ⟨u, l, h1, h2⟩ := h.box
  exact ⟨h.below.setCell (p := ⟨k, i, none⟩) hl _, h.low, u, l, (set_other (Ne.symm hk)).trans h1, h2⟩
theorem Rd.drew {w0 w : World} {R : Nat} {s : St} (h : Rd w0 R s w) : Rd w0 R s w.drew := ⟨h.below.drew, h.low, h.box⟩
/-- one byte -/
def oct : St → UInt8 × St
  | none => (0, none)
  | some [] => (0, none)
  | some (c :: t) => (c, some t)
theorem bytesAt_tail {w : World} {n cap b off : Nat} {c : UInt8} {t : List UInt8} (hn : n + 1 ≤ cap) (hc : cap ≤ maxLen) (hl : t.length = n) (h : ∀ i, i < n + 1 → ∀ x, (c :: t)[i]? = some x → w.cell? ⟨b, off + i * 1, none⟩ = some (.int .u8 (x.toNat : Int))) :
    BytesAt w (.slice (some ⟨b, off + 1, none⟩) n (cap - 1)) t := by
  subst hl
  refine slAt_some (by omega) (by omega) fun i hi x hx => ?_
  have := h (i + 1) (by omega) x (by simpa using hx)
  rw [show off + 1 + i * 1 = off + (i + 1) * 1 by omega]
  exact this
set_option maxHeartbeats 8000000 in
set_option maxRecDepth 100000 in
theorem octet_any (w0 : World) (R : Nat) (s : St) (w : World) (h : Rd w0 R s w) :
    Calls Try.prog 53 #[.pointer (some ⟨R, 0, none⟩)] w fun e w' => e = .returned (.int .u8 ((oct s).1.toNat : Int)) ∧ Rd w0 R (oct s).2 w' ∧ Sm R w w' := by
  have HR := Lib.hid h
  obtain ⟨v, l, h1, h2, h3, h4⟩ := h.box
  obtain ⟨c0, c1, f0, f1⟩ := two_cells h1
  obtain ⟨o, cap, b, off, rfl, hnc, hcm, e1, k1⟩ := h2
  rcases s with _ | l'
  · simp only [lostB] at c1
    have hend : oct none = (0, none) := rfl
    rw [hend]
    clear h1 h4 h e1 k1 hend
    go_enter Try.func53, Try.ntmps53
    go_wp2_with fail
    go_ret
    exact ⟨rfl, HR.out.lose, Sm.set _ _ _ _⟩
  · obtain rfl : l' = l := by rcases h4 with h4 | h4 <;> cases h4; rfl
    simp only [lostB] at c1
    rcases l' with _ | ⟨c, t⟩
    · have hend : oct (some []) = (0, none) := rfl
      rw [hend]
      simp only [List.length_nil] at c0
      clear h1 h4 h e1 k1 hend
      go_enter Try.func53, Try.ntmps53
      go_wp2_with fail
      go_ret
      exact ⟨rfl, HR.out.lose, Sm.set _ _ _ _⟩
    · have hend : oct (some (c :: t)) = (c, some t) := rfl
      rw [hend]
      have ho := e1 (by simp)
      obtain ⟨m, hm⟩ : ∃ m, m = (c :: t).length := ⟨_, rfl⟩
      rw [← hm] at c0 hnc k1 h3
      have hm1 : t.length = m - 1 := by rw [hm]; simp
      have hm2 : 0 < m := by rw [hm]; simp
      have hx := cell_on h.below (k1 0 (by omega) c rfl)
      rw [Nat.zero_mul, Nat.add_zero] at hx
      have HT := Lib.hid (HR.out.step (bytesAt_tail (c := c) (n := m - 1) (by omega) hcm.1 hm1 (fun i hi => k1 i (by omega))) (by omega))
      subst ho
      have q1 : (0 : Int) < (m : Int) := by omega
      have q2 : (m : Int) ≤ 1000000 := by omega
      have q3 : (m : Int) ≤ (cap : Int) := by omega
      by_cases hc1 : cap = 1
      · subst hc1
        obtain rfl : m = 1 := by omega
        obtain rfl : t = [] := List.length_eq_zero_iff.1 (by omega)
        have HT2 := Lib.hid (HR.out.step (v := .slice (some ⟨b, off, none⟩) 0 0) (t := []) (slAt_none _ _ _ _ _ ⟨Nat.zero_le _, fun h => by cases h⟩ rfl) (by simp))
        clear h1 h4 h e1 k1 hend hm hm1 h3 hm2 hnc hcm HR HT
        go_enter Try.func53, Try.ntmps53
        go_wp2_with fail
        go_ret
        exact ⟨rfl, HT2.out, Sm.set _ _ _ _⟩
      have q4 : (1 : Int) < (cap : Int) := by omega
      clear h1 h4 h e1 k1 hend hm hm1 h3 hm2 hnc hcm HR hc1
      go_enter Try.func53, Try.ntmps53
      go_wp2_with fail
      go_ret
      exact ⟨rfl, HT.out, Sm.set _ _ _ _⟩
end Go.Proofs.Ytodblepbedhnnaa
