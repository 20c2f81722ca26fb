/- What the reference's Held answers of a number in bits: the number, held, and whether it was. -/
import Derived.Test.YtehngngkdnmhgaaRefAdd
import Derived.Test.YtehngngkdnmhgaaFixMath
namespace Go.Proofs.Ytehngngkdnmhgaa
open Go.RowKit

theorem val_drop_cons {xs : List Bool} {k : Nat} {b : Bool} (h : xs[k]? = some b) : val (xs.drop k) = bit b + 2 * val (xs.drop (k + 1)) := by
  obtain ⟨hk, hb⟩ := List.getElem?_eq_some_iff.1 h
  rw [List.drop_eq_getElem_cons hk, hb]; rfl
theorem val_drop_le (xs : List Bool) (k : Nat) : val (xs.drop k) ≤ val xs := by rw [val_drop]; exact Nat.div_le_self _ _
def edge : List Bool := List.replicate 63 false ++ [true]
theorem edge_val : val edge = 9223372036854775808 := by unfold edge; rw [val_snoc, val_zeros, List.length_replicate]; simp [bit]
theorem edge_len : edge.length = 64 := by simp [edge]
theorem edge_at (j : Nat) (u : Bool) (h : edge[j]? = some u) : ((Array.replicate 64 (Value.bool false)).setIfInBounds 63 (.bool true))[j]? = some (.bool u) := by
  have hj : j < 64 := by
    have := (List.getElem?_eq_some_iff.1 h).1
    rw [edge_len] at this; exact this
  have key : ∀ j : Fin 64, ((Array.replicate 64 (Value.bool false)).setIfInBounds 63 (.bool true))[j.val]? = (edge[j.val]?).map Value.bool := by
    intro j
    rw [Array.getElem?_setIfInBounds]
    simp only [edge, List.getElem?_append, List.length_replicate, List.getElem?_replicate, Array.getElem?_replicate, Array.size_replicate]
    rcases Nat.lt_or_ge j.val 63 with h | h
    · rw [if_neg (by omega), if_pos h, if_pos j.isLt, if_pos h]; rfl
    · have e : j.val = 63 := by omega
      rw [e]; rfl
  rw [key ⟨j, hj⟩, h]; rfl
/-- a held number, and whether it was held, that are returned -/
def HeldPost (X : Int) (w : World) (e : Ending) (w' : World) : Prop := e = .returned (.tuple #[.int .i64 (held X), .int .i64 (over X)]) ∧ Below w.heap.size w w'
theorem cell_new (w : World) (cs : Array Value) (t : TypeId) (j : Nat) : (w.alloc (.cells cs t)).cell? ((⟨w.heap.size, 0, none⟩ : Addr).add j) = cs[j]? := by
  have hadd : (⟨w.heap.size, 0, none⟩ : Addr).add j = ⟨w.heap.size, j, none⟩ := by unfold Addr.add; split <;> simp_all
  rw [hadd]
  exact cell_of_row _ _ _ _ _ (0, 0) (heap_alloc_new w _)
theorem rb_edge (w : World) (cs : Array Value) (t : TypeId) :
    RB ((w.alloc (.cells cs t)).alloc (.cells ((Array.replicate 64 (.bool false)).setIfInBounds 63 (.bool true)) 4)) (some ⟨w.heap.size + 1, 0, none⟩) 64 edge := by
  refine ⟨⟨by rw [edge_len]; omega, fun e => by cases e⟩, by omega, fun _ => ⟨_, rfl, by simp, fun j u hu => ?_⟩⟩
  have h := cell_new (w.alloc (.cells cs t)) ((Array.replicate 64 (.bool false)).setIfInBounds 63 (.bool true)) 4 j
  have e : (w.alloc (.cells cs t)).heap.size = w.heap.size + 1 := by simp
  rw [e] at h
  rw [h]
  exact edge_at j u hu
set_option maxHeartbeats 2000000 in
theorem held_walk (A : Option Addr) (c : Nat) (xs : List Bool) (s : Bool) (z : Int) (w : World) (h : RB w A c xs) (hl : xs.length ≤ 1000000) (hz : z = cmpV (val xs) 9223372036854775808) :
    Calls Try.prog 16 #[.agg #[.slice A xs.length c, .bool s]] w fun e w' => HeldPost (sval s (val xs)) w e w' := by
  have H := Lib.hid h
  have Z := Lib.hid hz
  have LL := Lib.hid hl
  clear h hz hl
  have hmk : ∀ w, (Instr.makeSlice 27 (.int .i64 64) (.int .i64 64)).run Try.prog w = .ok (.slice (some ⟨w.heap.size, 0, none⟩) 64 64) (w.alloc (.cells (Array.replicate 64 (.bool false)) 4)) := fun _ => by kernel_rfl
  go_enter Try.func16, Try.ntmps16
  go_wp2_with (go_at_call 32; refine (trim_any A c xs _ (rb_below H.out ((Below.refl _ w).alloc (Nat.le_refl _) _))).mono ?_; rintro e w' ⟨n, hn, rfl, hv, ht, rfl⟩; have V := Lib.hid hv; have T := Lib.hid ht; have N := Lib.hid hn; clear hv ht hn)
  clear hmk
  obtain ⟨ys, hys⟩ : ∃ ys, ys = xs.take n := ⟨_, rfl⟩
  have YS := Lib.hid hys
  obtain rfl : n = ys.length := by rw [hys, List.length_take]; have := N.out; omega
  obtain ⟨W, hW⟩ : ∃ W : World, W = (w.alloc (.cells #[.slice A xs.length c, .bool s] 29)).alloc (.cells ((Array.replicate 64 (.bool false)).setIfInBounds 63 (.bool true)) 4) := ⟨_, rfl⟩
  rw [← hW]
  have hbel : Below w.heap.size w W := by rw [hW]; exact ((Below.refl _ w).alloc (Nat.le_refl _) _).alloc (by simp) _
  have hcell : W.cell? ⟨w.heap.size, 1, none⟩ = some (.bool s) := by rw [hW]; go_simp
  have hrb : RB W A c ys := by rw [hys]; exact rb_take (rb_below H.out hbel) _
  have hed : RB W (some ⟨w.heap.size + 1, 0, none⟩) 64 edge := by rw [hW]; exact rb_edge w _ _
  have vy : val ys = val xs := by rw [hys]; exact V.out
  have ylen : ys.length ≤ 1000000 := by rw [hys, List.length_take]; have := LL.out; omega
  clear hW hys V
  have cm := cmp_any A (some ⟨w.heap.size + 1, 0, none⟩) c 64 ys edge W hrb hed
  rw [edge_len, edge_val, vy, ← Z.out] at cm
  refine cm.mono ?_
  clear cm hed
  rintro e w' ⟨rfl, q, rfl⟩
  obtain ⟨W4, hW4⟩ : ∃ W4 : World, W4 = W.drewN q := ⟨_, rfl⟩
  rw [← hW4]
  replace hbel : Below w.heap.size w W4 := by rw [hW4]; exact below_drewN hbel q
  replace hcell : W4.cell? ⟨w.heap.size, 1, none⟩ = some (.bool s) := by rw [hW4]; exact hcell
  replace hrb : RB W4 A c ys := by rw [hW4]; exact hrb
  clear hW4
  have BL := Lib.hid hbel
  have R := Lib.hid hrb
  have VY := Lib.hid vy
  have ylen' : (ys.length : Int) ≤ 1000000 := by omega
  clear hbel hrb vy ylen N LL YS
  rcases Nat.lt_trichotomy (val xs) 9223372036854775808 with hx | hx | hx
  · have ez : z = -1 := by rw [Z.out]; exact cmpV_lt hx
    subst ez
    have HX := Lib.hid hx
    clear hx
    cases s
    all_goals
      go_wp2_with fail
      go_loop [8, 7] (fun i x => ∃ k : Nat, k ≤ ys.length ∧ i = .int .i64 ((k : Int) - 1) ∧ x = .int .i64 ((val (ys.drop k) : Nat) : Int)) (fun i _ => (intOf i + 1).toNat)
      case atStart => exact ⟨ys.length, Nat.le_refl _, rfl, by rw [List.drop_length]; rfl⟩
      case round =>
        obtain ⟨k, hk, rfl, rfl⟩ := hrel
        rcases k with _ | k
        · have e0 : val (ys.drop 0) = val xs := by rw [List.drop_zero]; exact VY.out
          rw [e0]
          clear e0
          have hx1 : ((val xs : Nat) : Int) ≤ 9223372036854775807 := by have := HX.out; omega
          generalize hv : val xs = v at *
          go_wp2_with fail
          go_ret2
          refine ⟨?_, BL.out⟩
          have hs0 : sval true v = -(v : Int) := rfl
          have hs1 : sval false v = (v : Int) := rfl
          first
            | (rw [hs0, held_in (by omega) (by omega), over_in (by omega) (by omega)]; rfl)
            | (rw [hs1, held_in (by omega) (by omega), over_in (by omega) (by omega)]; rfl)
        · obtain ⟨ad, rfl, hb, hc⟩ := R.out.2.2 (by rintro rfl; simp at hk)
          obtain ⟨b, hb2⟩ : ∃ b, ys[k]? = some b := ⟨_, List.getElem?_eq_getElem hk⟩
          have cx : W4.cell? (ad.add k) = some (.bool b) := hc k b hb2
          have hd := val_drop_cons hb2
          have hle : val (ys.drop k) ≤ val xs := by rw [← VY.out]; exact val_drop_le _ _
          have hx1 := HX.out
          obtain ⟨m, hm⟩ : ∃ m : Nat, m = val (ys.drop (k + 1)) := ⟨_, rfl⟩
          rw [← hm] at hd ⊢
          have i1 : ((k + 1 : Nat) : Int) - 1 = (k : Int) := by omega
          rw [i1]
          have hkn : (k : Int) < ys.length := by omega
          have HD := Lib.hid hd
          have hm1 : 2 * (m : Int) + 1 ≤ 9223372036854775808 := by have := bit_le b; omega
          have hm2 : 2 * m + bit b ≤ 9223372036854775807 := by omega
          have HM := Lib.hid hm2
          clear hb hc hb2 hd hle hx1 hm i1 hm2
          cases b
          · have hm3 : 2 * (m : Int) ≤ 9223372036854775807 := by have := HM.out; simp [bit] at this; omega
            go_wp2_with fail
            go_round
            case rel => exact ⟨k, by omega, rfl, congrArg (Value.int .i64) (by rw [HD.out]; simp [bit])⟩
            case measure => simp [intOf]
          · have hm3 : 2 * (m : Int) + 1 ≤ 9223372036854775807 := by have := HM.out; simp [bit] at this; omega
            go_wp2_with fail
            go_round
            case rel => exact ⟨k, by omega, rfl, congrArg (Value.int .i64) (by rw [HD.out]; simp [bit]; omega)⟩
            case measure => simp [intOf]
  · have ez : z = 0 := by rw [Z.out]; exact cmpV_eq hx
    subst ez
    have HX := Lib.hid hx
    clear hx
    cases s
    · go_wp2_with fail
      go_ret2
      refine ⟨?_, BL.out⟩
      have hs1 : sval false (val xs) = (val xs : Int) := rfl
      have := HX.out
      rw [hs1, held_hi (by omega), over_out (.inr (by omega))]
      rfl
    · go_wp2_with fail
      go_ret2
      refine ⟨?_, BL.out⟩
      have hs1 : sval true (val xs) = -(val xs : Int) := rfl
      rw [hs1, HX.out, held_in (by omega) (by omega), over_in (by omega) (by omega)]
      rfl
  · have ez : z = 1 := by rw [Z.out]; exact cmpV_gt hx
    subst ez
    have HX := Lib.hid hx
    clear hx
    cases s
    · go_wp2_with fail
      go_ret2
      refine ⟨?_, BL.out⟩
      have hs1 : sval false (val xs) = (val xs : Int) := rfl
      have := HX.out
      rw [hs1, held_hi (by omega), over_out (.inr (by omega))]
      rfl
    · go_wp2_with fail
      go_ret2
      refine ⟨?_, BL.out⟩
      have hs1 : sval true (val xs) = -(val xs : Int) := rfl
      have := HX.out
      rw [hs1, held_lo (by omega), over_out (.inl (by omega))]
      rfl
theorem held_ref (A : Option Addr) (c : Nat) (xs : List Bool) (s : Bool) (w : World) (h : RB w A c xs) (hl : xs.length ≤ 1000000) :
    Calls Try.prog 16 #[.agg #[.slice A xs.length c, .bool s]] w fun e w' => HeldPost (sval s (val xs)) w e w' := held_walk A c xs s _ w h hl rfl
end Go.Proofs.Ytehngngkdnmhgaa
