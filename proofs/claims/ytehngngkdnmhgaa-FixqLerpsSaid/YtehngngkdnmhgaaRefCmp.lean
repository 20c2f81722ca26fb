/- What the reference's Cmp answers of two lists of bits in memory. -/
import Derived.Test.YtehngngkdnmhgaaRefTrim
namespace Go.Proofs.Ytehngngkdnmhgaa
open Go.RowKit

theorem take_getElem {xs : List Bool} {n k : Nat} (h : k < n) : (xs.take n)[k]? = xs[k]? := by rw [List.getElem?_take, if_pos h]
theorem drop_step {xs ys : List Bool} {k : Nat} {b : Bool} (h1 : xs[k]? = some b) (h2 : ys[k]? = some b) (h : xs.drop (k + 1) = ys.drop (k + 1)) : xs.drop k = ys.drop k := by
  obtain ⟨k1, e1⟩ := List.getElem?_eq_some_iff.1 h1
  obtain ⟨k2, e2⟩ := List.getElem?_eq_some_iff.1 h2
  rw [List.drop_eq_getElem_cons k1, List.drop_eq_getElem_cons k2, e1, e2, h]
/-- the answer, and the world but for draws -/
def CmpPost (z : Int) (w : World) (e : Ending) (w' : World) : Prop := e = .returned (.int .i64 z) ∧ ∃ n, w' = w.drewN n
set_option maxHeartbeats 1000000 in
theorem cmp_any (A B : Option Addr) (c d : Nat) (xs ys : List Bool) (w : World) (hx : RB w A c xs) (hy : RB w B d ys) :
    Calls Try.prog 28 #[.slice A xs.length c, .slice B ys.length d] w fun e w' => CmpPost (cmpV (val xs) (val ys)) w e w' := by
  have HX := Lib.hid hx
  have HY := Lib.hid hy
  clear hx hy
  obtain ⟨z, hz⟩ : ∃ z : Int, z = cmpV (val xs) (val ys) := ⟨_, rfl⟩
  rw [← hz]
  have Z := Lib.hid hz
  clear hz
  go_enter Try.func28, Try.ntmps28
  go_upto_region 2 with (first | (go_at_call 32; (with_reducible refine (trim_any A c xs _ HX.out).mono ?_); rintro e w' ⟨n, hn, rfl, hv, ht, rfl⟩; have VX := Lib.hid hv; have TX := Lib.hid ht; have NX := Lib.hid hn; clear hv ht hn) | (go_at_call 32; (with_reducible refine (trim_any B d ys _ HY.out).mono ?_); rintro e w' ⟨m, hm, rfl, hv, ht, rfl⟩; have VY := Lib.hid hv; have TY := Lib.hid ht; have NY := Lib.hid hm; clear hv ht hm))
  have nb : (n : Int) ≤ 9223372036854775807 := by have := NX.out; have := HX.out.1; have := HX.out.2.1; omega
  have mb : (m : Int) ≤ 9223372036854775807 := by have := NY.out; have := HY.out.1; have := HY.out.2.1; omega
  have lx : (xs.take n).length = n := by rw [List.length_take]; have := NX.out; omega
  have ly : (ys.take m).length = m := by rw [List.length_take]; have := NY.out; omega
  have LX := Lib.hid lx
  have LY := Lib.hid ly
  clear lx ly
  rcases Nat.lt_trichotomy n m with h | h | h
  · have e0 : z = -1 := by rw [Z.out]; apply cmpV_lt; rw [← VX.out, ← VY.out]; exact tr_longer TY.out (by rw [LX.out, LY.out]; exact h)
    subst e0
    have z1 : (n == m) = false := beq_false_of_ne (by omega)
    have z2 : ((n : Int) == (m : Int)) = false := beq_false_of_ne (by omega)
    go_wp2_with fail
    go_ret
    exact ⟨rfl, 0, rfl⟩
  · subst h
    clear mb
    go_wp2_with fail
    go_loopw [5] (fun x wr => ∃ k : Nat, k ≤ n ∧ Hid ((xs.take n).drop k = (ys.take n).drop k) ∧ x = .int .i64 ((k : Int) - 1) ∧ ∃ q, wr = w.drewN q) (fun x _ => (intOf x + 1).toNat)
    case atStart => exact ⟨n, Nat.le_refl _, Lib.hid (by rw [List.drop_of_length_le (by rw [LX.out]; omega), List.drop_of_length_le (by rw [LY.out]; omega)]), by go_num, 0, rfl⟩
    case round =>
      obtain ⟨k, hk, hd, rfl, q, rfl⟩ := hrel
      rcases k with _ | k
      · have e0 : z = 0 := by
          rw [Z.out]; apply cmpV_eq; rw [← VX.out, ← VY.out]
          have := hd.out
          rw [List.drop_zero, List.drop_zero] at this
          rw [this]
        subst e0
        go_wp2_with fail
        go_ret
        exact ⟨rfl, _, rfl⟩
      · have hkx : k < xs.length := by have := NX.out; omega
        have hky : k < ys.length := by have := NY.out; omega
        obtain ⟨ax, rfl, hbx, hcx⟩ := HX.out.2.2 (by rintro rfl; simp at hkx)
        obtain ⟨ay, rfl, hby, hcy⟩ := HY.out.2.2 (by rintro rfl; simp at hky)
        obtain ⟨b, hb⟩ : ∃ b, xs[k]? = some b := ⟨_, List.getElem?_eq_getElem hkx⟩
        obtain ⟨b', hb'⟩ : ∃ b', ys[k]? = some b' := ⟨_, List.getElem?_eq_getElem hky⟩
        have c1 : w.cell? (ax.add k) = some (.bool b) := hcx k b hb
        have c2 : w.cell? (ay.add k) = some (.bool b') := hcy k b' hb'
        have i1 : ((k + 1 : Nat) : Int) - 1 = (k : Int) := by omega
        have hkn : (k : Int) < n := by omega
        have hb1 : (xs.take n)[k]? = some b := by rw [take_getElem (by omega)]; exact hb
        have hb2 : (ys.take n)[k]? = some b' := by rw [take_getElem (by omega)]; exact hb'
        have B1 := Lib.hid hb1
        have B2 := Lib.hid hb2
        clear hb hb' hcx hcy hbx hby hb1 hb2
        rw [i1]
        clear i1
        cases b <;> cases b'
        · have hd2 := drop_step B1.out B2.out hd.out
          have D2 := Lib.hid hd2
          clear hd2
          go_wp2_with fail
          go_quiet (fail)
          go_wp2_with fail
          go_roundw
          case rel => exact ⟨k, by omega, D2, rfl, _, rfl⟩
          case measure => simp [intOf]
        · have e0 : z = -1 := by rw [Z.out]; apply cmpV_lt; rw [← VX.out, ← VY.out]; exact top_decides (by rw [LX.out, LY.out]) hd.out B1.out B2.out
          subst e0
          go_wp2_with fail
          go_quiet (fail)
          go_wp2_with fail
          go_ret
          exact ⟨rfl, _, rfl⟩
        · have e0 : z = 1 := by rw [Z.out]; apply cmpV_gt; rw [← VX.out, ← VY.out]; exact top_decides (by rw [LX.out, LY.out]) hd.out.symm B2.out B1.out
          subst e0
          go_wp2_with fail
          go_quiet (fail)
          go_wp2_with fail
          go_ret
          exact ⟨rfl, _, rfl⟩
        · have hd2 := drop_step B1.out B2.out hd.out
          have D2 := Lib.hid hd2
          clear hd2
          go_wp2_with fail
          go_quiet (fail)
          go_wp2_with fail
          go_roundw
          case rel => exact ⟨k, by omega, D2, rfl, _, rfl⟩
          case measure => simp [intOf]
  · have e0 : z = 1 := by rw [Z.out]; apply cmpV_gt; rw [← VX.out, ← VY.out]; exact tr_longer TX.out (by rw [LX.out, LY.out]; exact h)
    subst e0
    have z1 : (n == m) = false := beq_false_of_ne (by omega)
    have z2 : ((n : Int) == (m : Int)) = false := beq_false_of_ne (by omega)
    go_wp2_with fail
    go_ret
    exact ⟨rfl, 0, rfl⟩
end Go.Proofs.Ytehngngkdnmhgaa
