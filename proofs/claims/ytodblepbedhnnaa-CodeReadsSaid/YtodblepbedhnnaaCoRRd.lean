/- The reference's reader: one number. -/
import Derived.Test.YtodblepbedhnnaaCoTurned
import Derived.Deep.RegionHeld3
import Derived.Deep.CutRange
namespace Go.Proofs.Ytodblepbedhnnaa
open Go.RowKit Co

attribute [local go_sem] Oper.semAt_some

/-- so many bytes of a number are read, and this came of it -/
def RNum (B : List UInt8) (p u k : Nat) : Prop := u < 18446744073709551616 ∧ ∀ x r, i64 x → B.drop p = encN x ++ r → ∃ t, B.drop (p + k) = numL t ++ r ∧ (encN x).length = k + (numL t).length ∧ fold x = u + t * 128 ^ k
/-- a number that was read, or not -/
def NumR (B : List UInt8) (p : Nat) (v : Int) (q : Nat) (bd : Bool) : Prop := i64 v ∧ p ≤ q ∧ (p ≤ B.length → q ≤ B.length) ∧ (bd = false → p < q) ∧ ∀ x r, i64 x → B.drop p = encN x ++ r → v = x ∧ q = p + (encN x).length ∧ bd = false
theorem numL_pos (t : Nat) : 1 ≤ (numL t).length := by
  rcases Nat.lt_or_ge t 128 with h | h
  · rw [numL_small h]; simp
  · rw [numL_big h]; simp
theorem rn_start (B : List UInt8) (p : Nat) : RNum B p 0 0 := ⟨by omega, fun x r _ h => ⟨fold x, h, by simp [encN], by simp⟩⟩
theorem rn_lost {B : List UInt8} {p u k : Nat} (h : RNum B p u k) (hk : p ≤ B.length → p + k ≤ B.length) (hb : B.length ≤ p + k ∨ 10 ≤ k) : NumR B p 0 (p + k) true := by
  refine ⟨by unfold i64; omega, by omega, hk, (by simp), fun x r hx hd => ?_⟩
  obtain ⟨t, h1, h2, h3⟩ := h.2 x r hx hd
  have hp := numL_pos t
  have ht := numL_ten (fold_lt hx)
  have e : (encN x).length = (numL (fold x)).length := rfl
  rcases hb with hb | hb
  · have := congrArg List.length h1
    rw [List.length_drop, List.length_append] at this
    omega
  · omega
theorem rn_sum {c u k u' : Nat} (hu : u' = (u + c % 128 * (128 ^ k % 18446744073709551616) % 18446744073709551616) % 18446744073709551616) : u' = (u + c % 128 * 128 ^ k) % 18446744073709551616 := by
  rw [hu, Nat.mul_mod_mod, Nat.add_mod_mod]
theorem rn_step {B : List UInt8} {p u k u' : Nat} {c : UInt8} (h : RNum B p u k) (hc : B[p + k]? = some c) (hu : u' = (u + c.toNat % 128 * (128 ^ k % 18446744073709551616) % 18446744073709551616) % 18446744073709551616) :
    (c.toNat < 128 → NumR B p (unfold u') (p + k + 1) false) ∧ (128 ≤ c.toNat → RNum B p u' (k + 1)) := by
  have hs := rn_sum hu
  have hlt : u' < 18446744073709551616 := by rw [hu]; exact Nat.mod_lt _ (by omega)
  obtain ⟨hi, hci⟩ := List.getElem?_eq_some_iff.1 hc
  have hdr : B.drop (p + k) = c :: B.drop (p + k + 1) := by rw [List.drop_eq_getElem_cons hi, hci]
  refine ⟨fun h1 => ⟨unfold_ok hlt, by omega, fun _ => by omega, fun _ => by omega, fun x r hx hd => ?_⟩, fun h1 => ⟨hlt, fun x r hx hd => ?_⟩⟩
  · obtain ⟨t, e1, e2, e3⟩ := h.2 x r hx hd
    have hf := fold_lt hx
    rcases Nat.lt_or_ge t 128 with ht | ht
    · rw [hdr, numL_small ht] at e1
      have e4 : c = UInt8.ofNat t := (List.cons.inj e1).1
      have e5 : c.toNat = t := by rw [e4, byte_val (by omega)]
      have e6 : c.toNat % 128 = t := by omega
      rw [e6, ← e3, Nat.mod_eq_of_lt hf] at hs
      rw [numL_small ht] at e2
      refine ⟨by rw [hs, unfold_fold], ?_, rfl⟩
      rw [e2]; simp; omega
    · rw [hdr, numL_big ht] at e1
      have e4 : c = UInt8.ofNat (t % 128 + 128) := (List.cons.inj e1).1
      have e5 : c.toNat = t % 128 + 128 := by rw [e4, byte_val (by omega)]
      omega
  · obtain ⟨t, e1, e2, e3⟩ := h.2 x r hx hd
    have hf := fold_lt hx
    rcases Nat.lt_or_ge t 128 with ht | ht
    · rw [hdr, numL_small ht] at e1
      have e4 : c = UInt8.ofNat t := (List.cons.inj e1).1
      have e5 : c.toNat = t := by rw [e4, byte_val (by omega)]
      omega
    · rw [hdr, numL_big ht] at e1
      have e4 : c = UInt8.ofNat (t % 128 + 128) := (List.cons.inj e1).1
      have e5 : c.toNat = t % 128 + 128 := by rw [e4, byte_val (by omega)]
      have e6 : c.toNat % 128 = t % 128 := by omega
      have e7 : t * 128 ^ k = t % 128 * 128 ^ k + t / 128 * 128 ^ (k + 1) := by
        have hd := Nat.div_add_mod t 128
        conv => lhs; rw [← hd]
        rw [Nat.add_mul, Nat.pow_succ, Nat.add_comm, Nat.mul_comm 128 (t / 128), Nat.mul_assoc, Nat.mul_comm 128 (128 ^ k)]
      have e8 : u' = u + t % 128 * 128 ^ k := by
        rw [hs, e6]
        refine Nat.mod_eq_of_lt ?_
        omega
      rw [numL_big ht, List.length_cons] at e2
      exact ⟨t / 128, (List.cons.inj e1).2, by omega, by rw [e8]; omega⟩
/-- the reader in memory -/
structure RR (w0 : World) (R : Nat) (s : Value) (p : Nat) (bad : Bool) (w : World) : Prop where
  below : Below w0.heap.size w0 w
  low : w0.heap.size ≤ R
  box : w.heap[R]? = some (.cells #[s, .int .i64 (p : Int), .bool bad] 62 (0, 0))
theorem rr_cells {w0 w : World} {R p : Nat} {s : Value} {bad : Bool} (h : RR w0 R s p bad w) : (w.cell? ⟨R, 0, none⟩ = some s ∧ w.cell? ⟨R, 1, none⟩ = some (.int .i64 (p : Int)) ∧ w.cell? ⟨R, 2, none⟩ = some (.bool bad)) ∧ w.frozen? ⟨R, 0, none⟩ = false ∧ w.frozen? ⟨R, 1, none⟩ = false ∧ w.frozen? ⟨R, 2, none⟩ = false := by
  have hb := h.box
  exact ⟨⟨by simp [World.cell?, hb], by simp [World.cell?, hb], by simp [World.cell?, hb]⟩, by simp [World.frozen?, hb], by simp [World.frozen?, hb], by simp [World.frozen?, hb]⟩
theorem RR.drew {w0 w : World} {R p : Nat} {s : Value} {bad : Bool} (h : RR w0 R s p bad w) : RR w0 R s p bad w.drew := ⟨h.below.trans ⟨rfl, rfl, rfl, Nat.le_refl _, fun _ _ => rfl⟩, h.low, h.box⟩
theorem RR.at_ {w0 w : World} {R p : Nat} {s : Value} {bad : Bool} (h : RR w0 R s p bad w) (q : Nat) : RR w0 R s q bad (w.setCell ⟨R, 1, none⟩ (.int .i64 (q : Int))) := by
  refine ⟨h.below.setCell (p := ⟨R, 1, none⟩) h.low _, h.low, ?_⟩
  have := set_heap h.box 1 (.int .i64 (q : Int))
  simpa using this
theorem RR.spoil {w0 w : World} {R p : Nat} {s : Value} {bad : Bool} (h : RR w0 R s p bad w) : RR w0 R s p true (w.setCell ⟨R, 2, none⟩ (.bool true)) := by
  refine ⟨h.below.setCell (p := ⟨R, 2, none⟩) h.low _, h.low, ?_⟩
  have := set_heap h.box 2 (.bool true)
  simpa using this
end Go.Proofs.Ytodblepbedhnnaa
