/- What the reference's minus answers of a list of bits and a lesser one: a trimmed list that is worth their difference. -/
import Derived.Test.YtehngngkdnmhgaaRefPlus
namespace Go.Proofs.Ytehngngkdnmhgaa
open Go.RowKit

theorem full_sub (x y c : Bool) : bit ((x != y) != c) + bit y + bit c = bit x + 2 * bit (!x && (y || c) || y && c) := by cases x <;> cases y <;> cases c <;> decide
/-- what minus has made of the first k bits -/
def MinusAt (xs ys zs : List Bool) (k : Nat) (c : Bool) : Prop := zs.length = k ∧ k ≤ xs.length ∧ val zs + val (ys.take k) = val (xs.take k) + 2 ^ k * bit c
theorem minusAt_zero (xs ys : List Bool) : MinusAt xs ys [] 0 false := ⟨rfl, by omega, by simp [val, bit]⟩
theorem minusAt_step {xs ys zs : List Bool} {k : Nat} {c x y o c' : Bool} (h : MinusAt xs ys zs k c) (hx : xs[k]? = some x) (hy : ys.getD k false = y) (ho : ((x != y) != c) = o) (hc : (!x && (y || c) || y && c) = c') :
    MinusAt xs ys (zs ++ [o]) (k + 1) c' := by
  obtain ⟨h1, h2, h3⟩ := h
  obtain ⟨hk, _⟩ := List.getElem?_eq_some_iff.1 hx
  have hf := full_sub x y c
  rw [ho, hc] at hf
  refine ⟨by rw [List.length_append, h1]; rfl, by omega, ?_⟩
  rw [val_snoc, h1, val_take_getD, val_take_succ hx, hy, Nat.pow_succ, Nat.mul_assoc]
  have e : 2 ^ k * bit o + 2 ^ k * bit y + 2 ^ k * bit c = 2 ^ k * bit x + 2 ^ k * (2 * bit c') := by rw [← Nat.mul_add, ← Nat.mul_add, hf, Nat.mul_add]
  omega
theorem minusAt_end {xs ys zs : List Bool} {k : Nat} {c : Bool} (h : MinusAt xs ys zs k c) (hk : ¬ k < xs.length) (hle : val ys ≤ val xs) : val zs = val xs - val ys := by
  obtain ⟨h1, h2, h3⟩ := h
  obtain rfl : k = xs.length := by omega
  rw [List.take_length] at h3
  have h4 := val_lt xs
  have h5 : val (ys.take xs.length) = val ys := by
    have h6 := val_split ys xs.length
    by_cases hl : ys.length ≤ xs.length
    · rw [List.take_of_length_le hl]
    · rw [Nat.min_eq_left (by omega)] at h6
      have h7 : val (ys.drop xs.length) = 0 := by
        rcases Nat.eq_zero_or_pos (val (ys.drop xs.length)) with h8 | h8
        · exact h8
        · have := Nat.mul_le_mul_left (2 ^ xs.length) h8
          omega
      rw [h7] at h6
      omega
  rw [h5] at h3
  have h8 := val_lt zs
  rw [h1] at h8
  cases c
  · simp [bit] at h3; omega
  · simp [bit] at h3; omega
def MinusQ (xs ys zs : List Bool) : Prop := val zs = val xs - val ys ∧ Tr zs ∧ zs.length ≤ xs.length
set_option maxHeartbeats 4000000 in
theorem minus_any (A B : Option Addr) (c d : Nat) (xs ys : List Bool) (w : World) (hx : RB w A c xs) (hy : RB w B d ys) (lx : xs.length ≤ 100000) (ly : ys.length ≤ 100000) (hle : val ys ≤ val xs) :
    Calls Try.prog 42 #[.slice A xs.length c, .slice B ys.length d] w fun e w' => SlicePost (MinusQ xs ys) w e w' := by
  obtain ⟨n, hn⟩ : ∃ n : Nat, n = xs.length := ⟨_, rfl⟩
  obtain ⟨m, hm⟩ : ∃ m : Nat, m = ys.length := ⟨_, rfl⟩
  rw [← hn, ← hm]
  rw [← hn] at lx
  rw [← hm] at ly
  have N := Lib.hid hn; have M := Lib.hid hm; have LE := Lib.hid hle
  have HX := Lib.hid hx; have HY := Lib.hid hy
  clear hx hy hn hm hle
  have lx' : (n : Int) ≤ 100000 := by omega
  have ly' : (m : Int) ≤ 100000 := by omega
  go_enter Try.func42, Try.ntmps42
  go_wp2_with fail
  go_loopw [7, 6, 5] (fun i cc v wr => ∃ (k : Nat) (cb : Bool) (zs : List Bool), Hid (MinusAt xs ys zs k cb) ∧ i = .int .i64 k ∧ cc = .bool cb ∧ Hid (OB wr w.heap.size v zs) ∧ Hid (Below w.heap.size w wr)) (fun i _ _ _ => n - (intOf i).toNat)
  case atStart => exact ⟨0, false, [], Lib.hid (minusAt_zero xs ys), rfl, rfl, Lib.hid (ob_nil w _), Lib.hid (Below.refl _ _)⟩
  case round =>
    rename_i wr
    obtain ⟨k, cb, zs, hp, rfl, rfl, ho, hb⟩ := hrel
    have hk : (k : Int) ≤ 100000 := by have h := hp.out.2.1; rw [← N.out] at h; omega
    have L1 := Lib.hid (show zs.length ≤ 1000000 by rw [hp.out.1]; omega)
    have L2 := Lib.hid hb.out.size
    by_cases k1 : k < n
    · have hkx : k < xs.length := by rw [← N.out]; exact k1
      obtain ⟨ax, rfl, hbx, hcx⟩ := HX.out.2.2 (by rintro rfl; simp at hkx)
      obtain ⟨x, hxk⟩ : ∃ x, xs[k]? = some x := ⟨_, List.getElem?_eq_getElem hkx⟩
      have cx : wr.cell? (ax.add k) = some (.bool x) := (hb.out.cell (by rw [add_block]; exact hbx)).trans (hcx k x hxk)
      have gx := Lib.hid hxk
      have z1 : decide (k < n) = true := decide_eq_true k1
      have bx := Lib.hid (show (ax.add k).block < w.heap.size by rw [add_block]; exact hbx)
      clear hcx hbx hxk hkx
      by_cases k2 : k < m
      · have hky : k < ys.length := by rw [← M.out]; exact k2
        obtain ⟨ay, rfl, hby, hcy⟩ := HY.out.2.2 (by rintro rfl; simp at hky)
        obtain ⟨y, hyk⟩ : ∃ y, ys[k]? = some y := ⟨_, List.getElem?_eq_getElem hky⟩
        have cy : wr.cell? (ay.add k) = some (.bool y) := (hb.out.cell (by rw [add_block]; exact hby)).trans (hcy k y hyk)
        have gy := Lib.hid (show ys.getD k false = y by rw [List.getD_eq_getElem?_getD, hyk]; rfl)
        have z2 : decide (k < m) = true := decide_eq_true k2
        clear hcy hby hyk hky
        cases x <;> cases y <;> cases cb
        all_goals
          have P2 := Lib.hid (minusAt_step hp.out gx.out gy.out rfl rfl)
          go_wp2_with (at_builtin; refine wpList_push _ rfl (.tmp 25) (.tmp 34) rfl w.heap.size u5 zs _ rfl rfl ho.out ?_ ?_ ?_; exact L1.out; exact L2.out; intro v1 w1 ho1 hb1; have O1 := Lib.hid ho1; have B1 := Lib.hid hb1; have cx1 := (hb1.cell bx.out).trans cx; clear ho1 hb1)
          go_roundw
          case rel => exact ⟨k + 1, _, zs ++ [_], P2, rfl, rfl, O1, Lib.hid (hb.out.trans B1.out)⟩
          case measure => simp [intOf]; omega
      · have gy := Lib.hid (show ys.getD k false = false by rw [List.getD_eq_getElem?_getD, List.getElem?_eq_none (by rw [← M.out]; omega)]; rfl)
        have z2 : decide (k < m) = false := decide_eq_false k2
        cases x <;> cases cb
        all_goals
          have P2 := Lib.hid (minusAt_step hp.out gx.out gy.out rfl rfl)
          go_wp2_with (at_builtin; refine wpList_push _ rfl (.tmp 25) (.tmp 34) rfl w.heap.size u5 zs _ rfl rfl ho.out ?_ ?_ ?_; exact L1.out; exact L2.out; intro v1 w1 ho1 hb1; have O1 := Lib.hid ho1; have B1 := Lib.hid hb1; have cx1 := (hb1.cell bx.out).trans cx; clear ho1 hb1)
          go_roundw
          case rel => exact ⟨k + 1, _, zs ++ [_], P2, rfl, rfl, O1, Lib.hid (hb.out.trans B1.out)⟩
          case measure => simp [intOf]; omega
    · have hz : val zs = val xs - val ys := minusAt_end hp.out (by rw [← N.out]; exact k1) LE.out
      have hzl : zs.length ≤ xs.length := by rw [hp.out.1]; exact hp.out.2.1
      have z1 : decide (k < n) = false := decide_eq_false k1
      have HZ := Lib.hid hz
      have HZL := Lib.hid hzl
      clear hz hzl
      obtain ⟨A', c', rfl, hr⟩ := ob_rb ho.out
      have HR := Lib.hid hr
      clear hr
      go_wp2_with (go_at_call 32; refine (trim_any A' c' zs _ HR.out).mono ?_; rintro e w' ⟨j, hj, rfl, hv, ht, rfl⟩; have V := Lib.hid hv; have T := Lib.hid ht; have J := Lib.hid hj; clear hv ht hj)
      go_ret
      have hl : (zs.take j).length = j := by rw [List.length_take]; have := J.out; omega
      refine ⟨A', c', zs.take j, ?_, rb_take HR.out j, ⟨V.out.trans HZ.out, T.out, ?_⟩, hb.out, ob_fresh ho.out⟩
      · rw [hl]; rfl
      · rw [hl]; have := J.out; have := HZL.out; omega
end Go.Proofs.Ytehngngkdnmhgaa
