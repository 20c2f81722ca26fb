/- What the reference's plus answers of two lists of bits: a list that is worth their sum. -/
import Derived.Test.YtehngngkdnmhgaaRefRows
namespace Go.Proofs.Ytehngngkdnmhgaa
open Go.RowKit

theorem full_adder (x y c : Bool) : bit ((x != y) != c) + 2 * bit (x && y || x && c || y && c) = bit x + bit y + bit c := by cases x <;> cases y <;> cases c <;> decide
theorem val_take_getD (xs : List Bool) (k : Nat) : val (xs.take (k + 1)) = val (xs.take k) + 2 ^ k * bit (xs.getD k false) := by
  by_cases h : k < xs.length
  · have hx : xs[k]? = some xs[k] := List.getElem?_eq_getElem h
    rw [val_take_succ hx, List.getD_eq_getElem?_getD, hx]; rfl
  · rw [List.take_of_length_le (by omega), List.take_of_length_le (by omega), List.getD_eq_getElem?_getD, List.getElem?_eq_none (by omega)]
    simp [bit]
/-- what plus has made of the first k bits -/
def PlusAt (xs ys zs : List Bool) (k : Nat) (c : Bool) : Prop :=
  zs.length = k ∧ val zs + 2 ^ k * bit c = val (xs.take k) + val (ys.take k) ∧ (k ≤ max xs.length ys.length ∨ (k = max xs.length ys.length + 1 ∧ c = false))
theorem plusAt_zero (xs ys : List Bool) : PlusAt xs ys [] 0 false := ⟨rfl, by simp [val, bit], .inl (by omega)⟩
theorem plusAt_step {xs ys zs : List Bool} {k : Nat} {c x y o c' : Bool} (h : PlusAt xs ys zs k c) (hx : xs.getD k false = x) (hy : ys.getD k false = y) (ho : ((x != y) != c) = o) (hc : (x && y || x && c || y && c) = c')
    (hk : k < xs.length ∨ k < ys.length ∨ c = true) : PlusAt xs ys (zs ++ [o]) (k + 1) c' := by
  obtain ⟨h1, h2, h3⟩ := h
  have hf := full_adder x y c
  rw [ho, hc] at hf
  refine ⟨by rw [List.length_append, h1]; rfl, ?_, ?_⟩
  · rw [val_snoc, h1, val_take_getD, val_take_getD, hx, hy, Nat.pow_succ, Nat.mul_assoc]
    have e : 2 ^ k * bit o + 2 ^ k * (2 * bit c') = 2 ^ k * bit x + 2 ^ k * bit y + 2 ^ k * bit c := by rw [← Nat.mul_add, hf, Nat.mul_add, Nat.mul_add]
    omega
  · by_cases hm : k < max xs.length ys.length
    · exact .inl (by omega)
    · refine .inr ⟨?_, ?_⟩
      · rcases h3 with h3 | ⟨h3, h4⟩
        · omega
        · rw [h4] at hk; simp at hk; omega
      · have e1 : xs.getD k false = false := by rw [List.getD_eq_getElem?_getD, List.getElem?_eq_none (by omega)]; rfl
        have e2 : ys.getD k false = false := by rw [List.getD_eq_getElem?_getD, List.getElem?_eq_none (by omega)]; rfl
        rw [e1] at hx; rw [e2] at hy
        subst hx hy
        rw [← hc]; cases c <;> rfl
theorem plusAt_end {xs ys zs : List Bool} {k : Nat} (h : PlusAt xs ys zs k false) (hx : ¬ k < xs.length) (hy : ¬ k < ys.length) : val zs = val xs + val ys ∧ zs.length ≤ max xs.length ys.length + 1 ∧ max xs.length ys.length ≤ zs.length := by
  obtain ⟨h1, h2, h3⟩ := h
  rw [List.take_of_length_le (by omega), List.take_of_length_le (by omega)] at h2
  simp [bit] at h2
  exact ⟨h2, by omega, by omega⟩
def PlusQ (xs ys zs : List Bool) : Prop := val zs = val xs + val ys ∧ zs.length ≤ max xs.length ys.length + 1 ∧ max xs.length ys.length ≤ zs.length
set_option maxHeartbeats 4000000 in
theorem plus_any (A B : Option Addr) (c d : Nat) (xs ys : List Bool) (w : World) (hx : RB w A c xs) (hy : RB w B d ys) (lx : xs.length ≤ 100000) (ly : ys.length ≤ 100000) :
    Calls Try.prog 41 #[.slice A xs.length c, .slice B ys.length d] w fun e w' => SlicePost (PlusQ xs ys) w e w' := by
  obtain ⟨n, hn⟩ : ∃ n : Nat, n = xs.length := ⟨_, rfl⟩
  obtain ⟨m, hm⟩ : ∃ m : Nat, m = ys.length := ⟨_, rfl⟩
  rw [← hn, ← hm]
  rw [← hn] at lx
  rw [← hm] at ly
  have N := Lib.hid hn; have M := Lib.hid hm
  have HX := Lib.hid hx; have HY := Lib.hid hy
  clear hx hy hn hm
  have lx' : (n : Int) ≤ 100000 := by omega
  have ly' : (m : Int) ≤ 100000 := by omega
  go_enter Try.func41, Try.ntmps41
  go_wp2_with fail
  go_loopw [7, 6, 5] (fun i cc v wr => ∃ (k : Nat) (cb : Bool) (zs : List Bool), Hid (PlusAt xs ys zs k cb) ∧ i = .int .i64 k ∧ cc = .bool cb ∧ Hid (OB wr w.heap.size v zs) ∧ Hid (Below w.heap.size w wr)) (fun i cc _ _ => 2 * (max n m - (intOf i).toNat) + boolOf cc)
  case atStart => exact ⟨0, false, [], Lib.hid (plusAt_zero xs ys), rfl, rfl, Lib.hid (ob_nil w _), Lib.hid (Below.refl _ _)⟩
  case round =>
    rename_i wr
    obtain ⟨k, cb, zs, hp, rfl, rfl, ho, hb⟩ := hrel
    have hk1 : k ≤ max n m + 1 := by have h := hp.out.2.2; rw [← N.out, ← M.out] at h; omega
    have hk : (k : Int) ≤ 100001 := by omega
    have L1 := Lib.hid (show zs.length ≤ 1000000 by rw [hp.out.1]; omega)
    have L2 := Lib.hid hb.out.size
    by_cases k1 : k < n
    · by_cases k2 : k < m
      · have hkx : k < xs.length := by rw [← N.out]; exact k1
        obtain ⟨ax, rfl, hbx, hcx⟩ := HX.out.2.2 (by rintro rfl; simp at hkx)
        obtain ⟨x, hxk⟩ : ∃ x, xs[k]? = some x := ⟨_, List.getElem?_eq_getElem hkx⟩
        have cx : wr.cell? (ax.add k) = some (.bool x) := (hb.out.cell (by rw [add_block]; exact hbx)).trans (hcx k x hxk)
        have gx := Lib.hid (show xs.getD k false = x by rw [List.getD_eq_getElem?_getD, hxk]; rfl)
        have z1 : decide (k < n) = true := decide_eq_true k1
        clear hcx hbx hxk hkx
        have hky : k < ys.length := by rw [← M.out]; exact k2
        obtain ⟨ay, rfl, hby, hcy⟩ := HY.out.2.2 (by rintro rfl; simp at hky)
        obtain ⟨y, hyk⟩ : ∃ y, ys[k]? = some y := ⟨_, List.getElem?_eq_getElem hky⟩
        have cy : wr.cell? (ay.add k) = some (.bool y) := (hb.out.cell (by rw [add_block]; exact hby)).trans (hcy k y hyk)
        have gy := Lib.hid (show ys.getD k false = y by rw [List.getD_eq_getElem?_getD, hyk]; rfl)
        have z2 : decide (k < m) = true := decide_eq_true k2
        clear hcy hby hyk hky
        cases x <;> cases y <;> cases cb
        all_goals
          have P2 := Lib.hid (plusAt_step hp.out gx.out gy.out rfl rfl (.inl (by rw [← N.out]; exact k1)))
          go_wp2_with fail
          go_quiet (fail)
          go_wp2_with (at_builtin; refine wpList_push _ rfl (.tmp 45) (.tmp 51) rfl w.heap.size u5 zs _ rfl rfl ho.out ?_ ?_ ?_; exact L1.out; exact L2.out; intro v1 w1 ho1 hb1; have O1 := Lib.hid ho1; have B1 := Lib.hid hb1; clear ho1 hb1)
          go_roundw
          case rel => exact ⟨k + 1, _, zs ++ [_], P2, rfl, rfl, O1, Lib.hid ((below_drewN hb.out _).trans B1.out)⟩
          case measure => simp [intOf, boolOf, bit]; omega
      · have hkx : k < xs.length := by rw [← N.out]; exact k1
        obtain ⟨ax, rfl, hbx, hcx⟩ := HX.out.2.2 (by rintro rfl; simp at hkx)
        obtain ⟨x, hxk⟩ : ∃ x, xs[k]? = some x := ⟨_, List.getElem?_eq_getElem hkx⟩
        have cx : wr.cell? (ax.add k) = some (.bool x) := (hb.out.cell (by rw [add_block]; exact hbx)).trans (hcx k x hxk)
        have gx := Lib.hid (show xs.getD k false = x by rw [List.getD_eq_getElem?_getD, hxk]; rfl)
        have z1 : decide (k < n) = true := decide_eq_true k1
        clear hcx hbx hxk hkx
        have gy := Lib.hid (show ys.getD k false = false by rw [List.getD_eq_getElem?_getD, List.getElem?_eq_none (by rw [← M.out]; omega)]; rfl)
        have z2 : decide (k < m) = false := decide_eq_false k2
        cases x <;> cases cb
        all_goals
          have P2 := Lib.hid (plusAt_step hp.out gx.out gy.out rfl rfl (.inl (by rw [← N.out]; exact k1)))
          go_wp2_with fail
          go_quiet (fail)
          go_wp2_with (at_builtin; refine wpList_push _ rfl (.tmp 45) (.tmp 51) rfl w.heap.size u5 zs _ rfl rfl ho.out ?_ ?_ ?_; exact L1.out; exact L2.out; intro v1 w1 ho1 hb1; have O1 := Lib.hid ho1; have B1 := Lib.hid hb1; clear ho1 hb1)
          go_roundw
          case rel => exact ⟨k + 1, _, zs ++ [_], P2, rfl, rfl, O1, Lib.hid ((below_drewN hb.out _).trans B1.out)⟩
          case measure => simp [intOf, boolOf, bit]; omega
    · by_cases k2 : k < m
      · have gx := Lib.hid (show xs.getD k false = false by rw [List.getD_eq_getElem?_getD, List.getElem?_eq_none (by rw [← N.out]; omega)]; rfl)
        have z1 : decide (k < n) = false := decide_eq_false k1
        have hky : k < ys.length := by rw [← M.out]; exact k2
        obtain ⟨ay, rfl, hby, hcy⟩ := HY.out.2.2 (by rintro rfl; simp at hky)
        obtain ⟨y, hyk⟩ : ∃ y, ys[k]? = some y := ⟨_, List.getElem?_eq_getElem hky⟩
        have cy : wr.cell? (ay.add k) = some (.bool y) := (hb.out.cell (by rw [add_block]; exact hby)).trans (hcy k y hyk)
        have gy := Lib.hid (show ys.getD k false = y by rw [List.getD_eq_getElem?_getD, hyk]; rfl)
        have z2 : decide (k < m) = true := decide_eq_true k2
        clear hcy hby hyk hky
        cases y <;> cases cb
        all_goals
          have P2 := Lib.hid (plusAt_step hp.out gx.out gy.out rfl rfl (.inr (.inl (by rw [← M.out]; exact k2))))
          go_wp2_with fail
          go_quiet (fail)
          go_wp2_with (at_builtin; refine wpList_push _ rfl (.tmp 45) (.tmp 51) rfl w.heap.size u5 zs _ rfl rfl ho.out ?_ ?_ ?_; exact L1.out; exact L2.out; intro v1 w1 ho1 hb1; have O1 := Lib.hid ho1; have B1 := Lib.hid hb1; clear ho1 hb1)
          go_roundw
          case rel => exact ⟨k + 1, _, zs ++ [_], P2, rfl, rfl, O1, Lib.hid ((below_drewN hb.out _).trans B1.out)⟩
          case measure => simp [intOf, boolOf, bit]; omega
      · have gx := Lib.hid (show xs.getD k false = false by rw [List.getD_eq_getElem?_getD, List.getElem?_eq_none (by rw [← N.out]; omega)]; rfl)
        have z1 : decide (k < n) = false := decide_eq_false k1
        have gy := Lib.hid (show ys.getD k false = false by rw [List.getD_eq_getElem?_getD, List.getElem?_eq_none (by rw [← M.out]; omega)]; rfl)
        have z2 : decide (k < m) = false := decide_eq_false k2
        cases cb
        · have P2 := Lib.hid (plusAt_end hp.out (by rw [← N.out]; exact k1) (by rw [← M.out]; exact k2))
          go_wp2_with fail
          go_ret
          exact slicePost_of ho.out P2.out hb.out
        · have P2 := Lib.hid (plusAt_step hp.out gx.out gy.out rfl rfl (.inr (.inr rfl)))
          go_wp2_with fail
          go_quiet (fail)
          go_wp2_with (at_builtin; refine wpList_push _ rfl (.tmp 45) (.tmp 51) rfl w.heap.size u5 zs _ rfl rfl ho.out ?_ ?_ ?_; exact L1.out; exact L2.out; intro v1 w1 ho1 hb1; have O1 := Lib.hid ho1; have B1 := Lib.hid hb1; clear ho1 hb1)
          go_roundw
          case rel => exact ⟨k + 1, _, zs ++ [_], P2, rfl, rfl, O1, Lib.hid ((below_drewN hb.out _).trans B1.out)⟩
          case measure => simp [intOf, boolOf, bit]; omega
end Go.Proofs.Ytehngngkdnmhgaa
