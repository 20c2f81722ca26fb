/- What the reference's Sqrt answers of a number that isn't below 0: the greatest whose square isn't above it, times 2^32. -/
import Derived.Test.YtehngngkdnmhgaaRefUp
import Derived.Test.YtehngngkdnmhgaaSqrtMath
namespace Go.Proofs.Ytehngngkdnmhgaa
open Go.RowKit

/-- on the way: r is what was found of the root of n, j bits are still to come -/
def AtJ (n r j : Nat) : Prop := r + 2 ^ j ≤ 281474976710656 ∧ Way n r (2 ^ j)
theorem atJ_start {n : Nat} (h : n < 281474976710656 * 281474976710656) : AtJ n 0 48 := ⟨by decide, by simp, by rw [Nat.zero_add]; exact h⟩
theorem atJ_end {n r : Nat} (h : AtJ n r 0) : r = isqrt n := isqrt_of h.2.1 h.2.2
theorem atJ_step {n r j : Nat} (h : AtJ n r (j + 1)) : r + 2 ^ j < 281474976710656 ∧ ((r + 2 ^ j) * (r + 2 ^ j) ≤ n → AtJ n (r + 2 ^ j) j) ∧ (n < (r + 2 ^ j) * (r + 2 ^ j) → AtJ n r j) := by
  obtain ⟨h1, h2⟩ := h
  have hp := Nat.pow_pos (n := j) (show 0 < 2 by omega)
  have e : 2 ^ (j + 1) = 2 ^ j + 2 ^ j := by rw [Nat.pow_succ]; omega
  rw [e] at h1 h2
  exact ⟨by omega, fun ht => ⟨by omega, way_yes h2 ht⟩, fun ht => ⟨by omega, way_no h2 ht⟩⟩
theorem of_nat (t : Nat) (w : World) (h : (t : Int) ≤ 9223372036854775807) : Calls Try.prog 18 #[.int .i64 t] w fun e w' => BigPost false (OfQ t) w e w' := by
  have c := of_any (t : Int) w ⟨by omega, h⟩
  rw [show decide ((t : Int) < 0) = false from decide_eq_false (by omega), Int.natAbs_natCast] at c
  exact c
theorem cmp_at (A B : Option Addr) (c d : Nat) (xs ys : List Bool) (p q : Nat) (w : World) (hx : RB w A c xs) (hy : RB w B d ys) (hp : val xs = p) (hq : val ys = q) :
    Calls Try.prog 28 #[.slice A xs.length c, .slice B ys.length d] w fun e w' => CmpPost (cmpV p q) w e w' := by
  subst hp hq; exact cmp_any A B c d xs ys w hx hy
theorem fieldL (A : Option Addr) (n c : Nat) (b : Bool) (w : World) : (Instr.field 29 (.agg #[.slice A n c, .bool b]) 0).run Try.prog w = .ok (.slice A n c) w := by kernel_rfl
def SqrtPost (r : Nat) (w : World) (e : Ending) (w' : World) : Prop := e = .returned (.int .i64 r) ∧ Below w.heap.size w w'
set_option maxHeartbeats 4000000 in
theorem sqrt_ref (a n : Nat) (w : World) (ha : (a : Int) ≤ 9223372036854775807) (hn : n = 4294967296 * a) :
    Calls Try.prog 22 #[.int .i64 a] w fun e w' => SqrtPost (isqrt n) w e w' := by
  obtain ⟨R, hR⟩ : ∃ R : Nat, R = isqrt n := ⟨_, rfl⟩
  rw [← hR]
  have RE := Lib.hid hR; have NE := Lib.hid hn
  have N2 := Lib.hid (show n < 281474976710656 * 281474976710656 by omega)
  clear hR hn
  go_enter Try.func22, Try.ntmps22
  go_wp2_with (first
    | (go_at_call 18; (with_reducible refine (of_nat a _ ha).mono ?_); rintro e w1 ⟨A1, c1, z1, rfl, hr, hq, hw⟩; have L1 := Lib.hid (show z1.length ≤ 1000 from Nat.le_trans hq.2 (by omega)); have R1 := Lib.hid hr; have Q1 := Lib.hid hq; have B1 := Lib.hid hw; clear hr hq hw)
    | (go_at_call 27; (with_reducible refine (up_ref A1 c1 z1 false _ R1.out L1.out).mono ?_); rintro e w2 ⟨A2, c2, z2, rfl, hr, hq, hw⟩; have R2 := Lib.hid hr; have Q2 := Lib.hid hq; have B2 := Lib.hid hw; clear hr hq hw))
  obtain ⟨W3, hW3⟩ : ∃ W3 : World, W3 = w2.alloc (.cells #[.slice A2 z2.length c2, .bool false] 29) := ⟨_, rfl⟩
  rw [← hW3]
  obtain ⟨g, hg⟩ : ∃ g : Nat, g = w2.heap.size := ⟨_, rfl⟩
  rw [← hg]
  have cw : W3.cell? ⟨g, 0, none⟩ = some (.slice A2 z2.length c2) := by rw [hW3, hg]; go_simp
  have z3 : W3.heap.size = g + 1 := by rw [hW3, hg]; simp
  have bl : Below w.heap.size w W3 := by rw [hW3]; exact ((B1.out.trans (B2.out.mono B1.out.size)).alloc (Nat.le_trans B1.out.size B2.out.size) _)
  have rw3 : RB W3 A2 c2 z2 := by rw [hW3]; exact rb_below R2.out ((Below.refl _ _).alloc (Nat.le_refl _) _)
  have vn : val z2 = n := by rw [Q2.out.1, Q1.out.1, NE.out]
  have BL := Lib.hid bl; have Z3 := Lib.hid z3; have RW := Lib.hid rw3; have VN := Lib.hid vn
  clear hW3 hg z3 bl rw3 vn
  go_loopw [5, 4] (fun i r wr => ∃ (j ρ : Nat), j ≤ 48 ∧ Hid (AtJ n ρ j) ∧ (ρ : Int) ≤ 281474976710655 ∧ i = .int .i64 ((j : Int) - 1) ∧ r = .int .i64 ρ ∧ Hid (Below W3.heap.size W3 wr)) (fun i _ _ => (intOf i + 1).toNat)
  case atStart => exact ⟨48, 0, Nat.le_refl _, Lib.hid (atJ_start N2.out), by omega, rfl, rfl, Lib.hid (Below.refl _ _)⟩
  case round =>
    rename_i wr
    obtain ⟨j, ρ, hj, hat, hρ, rfl, rfl, hb⟩ := hrel
    rcases j with _ | j
    · obtain rfl : ρ = R := (atJ_end hat.out).trans RE.out.symm
      go_wp2_with fail
      go_ret
      exact ⟨rfl, BL.out.trans (hb.out.mono BL.out.size)⟩
    · have i1 : ((j + 1 : Nat) : Int) - 1 = (j : Int) := by omega
      rw [i1]
      have hj' : (j : Int) ≤ 47 := by omega
      clear i1
      obtain ⟨wo, rfl⟩ : ∃ wo : World, wo = wr := ⟨_, rfl⟩
      go_wp2_with fail
      go_loop [8, 7] (fun k p => ∃ κ π : Nat, κ ≤ j ∧ Hid (π = 2 ^ κ) ∧ (π : Int) ≤ 140737488355328 ∧ k = .int .i64 κ ∧ p = .int .i64 π) (fun k _ => j - (intOf k).toNat)
      case atStart => exact ⟨0, 1, Nat.zero_le _, Lib.hid rfl, by omega, rfl, rfl⟩
      case round =>
        obtain ⟨κ, π, hκ, hπ, hπ2, rfl, rfl⟩ := hrel
        by_cases hlt : κ < j
        · have z1 : decide (κ < j) = true := decide_eq_true hlt
          have hπ3 : 2 * π = 2 ^ (κ + 1) := by rw [hπ.out, Nat.pow_succ, Nat.mul_comm]
          have hle : 2 ^ (κ + 1) ≤ 2 ^ 47 := Nat.pow_le_pow_right (by omega) (by omega)
          have hπ4 : 2 * (π : Int) ≤ 140737488355328 := by rw [← hπ3] at hle; omega
          have P3 := Lib.hid hπ3
          clear hπ3 hle
          go_wp2_with fail
          go_round
          case rel => exact ⟨κ + 1, 2 * π, by omega, P3, by omega, rfl, congrArg (Value.int .i64) (by omega)⟩
          case measure => simp [intOf]; omega
        · obtain rfl : κ = j := by omega
          have z1 : decide (κ < κ) = false := by simp
          have hstep := atJ_step hat.out
          rw [← hπ.out] at hstep
          obtain ⟨t, ht⟩ : ∃ t : Nat, t = ρ + π := ⟨_, rfl⟩
          rw [← ht] at hstep
          have t1 : (ρ : Int) + (π : Int) = (t : Int) := by omega
          have t2 : (t : Int) ≤ 281474976710655 := by omega
          have t3 : (t : Int) ≤ 9223372036854775807 := by omega
          have cw' : wo.cell? ⟨g, 0, none⟩ = some (.slice A2 z2.length c2) := (hb.out.cell (p := ⟨g, 0, none⟩) (by rw [Z3.out]; show g < g + 1; omega)).trans cw
          obtain ⟨z, hz⟩ : ∃ z : Int, z = cmpV (t * t) n := ⟨_, rfl⟩
          have HS := Lib.hid hstep; have ZE := Lib.hid hz
          clear hstep hz ht
          have gl := Lib.hid (show g < W3.heap.size by rw [Z3.out]; omega)
          have tok1 : True := trivial
          have hfield := fieldL
          go_wp2_with fail
          go_region_held3 (fun w' => w'.cell? ⟨g, 0, none⟩ = some (.slice A2 z2.length c2))
            (first | assumption | go_keep)
            (first
              | (go_at_call 18; have _k := tok1; clear tok1 _k; (with_reducible refine (of_nat t _ t3).mono ?_); rintro e u1 ⟨A3, c3, y1, rfl, hr, hq, hw⟩; have D1 := Lib.hid (chain2 hb.out.drew hw hb.out.size); have k1 : u1.cell? ⟨g, 0, none⟩ = some (.slice A2 z2.length c2) := (D1.out.cell (p := ⟨g, 0, none⟩) gl.out).trans cw; have M1 := Lib.hid (show y1.length ≤ 1000 from Nat.le_trans hq.2 (by omega)); have R3 := Lib.hid hr; have Q3 := Lib.hid hq.1; clear hr hq hw)
              | (go_at_call 18; (with_reducible refine (of_nat t _ t3).mono ?_); rintro e u2 ⟨A4, c4, y2, rfl, hr, hq, hw⟩; have D2 := Lib.hid (chain2 D1.out hw D1.out.size); have k2 : u2.cell? ⟨g, 0, none⟩ = some (.slice A2 z2.length c2) := (D2.out.cell (p := ⟨g, 0, none⟩) gl.out).trans cw; have M2 := Lib.hid (show y2.length ≤ 1000 from Nat.le_trans hq.2 (by omega)); have R4 := Lib.hid hr; have Q4 := Lib.hid hq.1; have R3' := Lib.hid (rb_below R3.out hw); clear hr hq hw)
              | (go_at_call 29; (with_reducible refine (mul_ref A3 A4 c3 c4 y1 y2 false false _ R3'.out R4.out M1.out M2.out).mono ?_); rintro e u3 ⟨A5, c5, y3, rfl, hr, hq, hw⟩; have D3 := Lib.hid (chain2 D2.out hw D2.out.size); have k3 : u3.cell? ⟨g, 0, none⟩ = some (.slice A2 z2.length c2) := (D3.out.cell (p := ⟨g, 0, none⟩) gl.out).trans cw; have R5 := Lib.hid hr; have Q5 := Lib.hid (show val y3 = t * t by (rw [hq.1, Q3.out, Q4.out])); clear hr hq hw)
              | (go_at_call 29; (with_reducible refine (mul_ref A4 A3 c4 c3 y2 y1 false false _ R4.out R3'.out M2.out M1.out).mono ?_); rintro e u3 ⟨A5, c5, y3, rfl, hr, hq, hw⟩; have D3 := Lib.hid (chain2 D2.out hw D2.out.size); have k3 : u3.cell? ⟨g, 0, none⟩ = some (.slice A2 z2.length c2) := (D3.out.cell (p := ⟨g, 0, none⟩) gl.out).trans cw; have R5 := Lib.hid hr; have Q5 := Lib.hid (show val y3 = t * t by (rw [hq.1, Q3.out, Q4.out])); clear hr hq hw)
              | (go_at_call 28; (with_reducible refine (cmp_at A5 A2 c5 c2 y3 z2 (t * t) n _ R5.out (rb_below RW.out D3.out) Q5.out VN.out).mono ?_); rintro e u4 ⟨rfl, q, rfl⟩))
          by_cases hc : t * t ≤ n
          · have e36 : cmpV (t * t) n ≤ 0 := (by unfold cmpV; split; omega; rw [if_neg (by omega)]; omega)
            have HA := Lib.hid (HS.out.2.1 hc)
            clear hc
            go_wp2_with fail
            go_roundw
            case rel => exact ⟨κ, t, by omega, HA, t2, rfl, rfl, Lib.hid (below_drewN D3.out _)⟩
            case measure => simp [intOf]
          · have e36 : 0 < cmpV (t * t) n := (by unfold cmpV; rw [if_neg (by omega), if_pos (by omega)]; omega)
            have HA := Lib.hid (HS.out.2.2 (by omega))
            clear hc
            go_wp2_with fail
            go_roundw
            case rel => exact ⟨κ, ρ, by omega, HA, hρ, rfl, rfl, Lib.hid (below_drewN D3.out _)⟩
            case measure => simp [intOf]
end Go.Proofs.Ytehngngkdnmhgaa
