/- What the reference's Of answers of a number: its bits, and whether it is below 0. -/
import Derived.Test.YtehngngkdnmhgaaRefMinus
import Derived.Test.YtehngngkdnmhgaaFixMath
namespace Go.Proofs.Ytehngngkdnmhgaa
open Go.RowKit
/-- what Of has made so far: zs of the low bits, u of what is left -/
def OfAt (N : Nat) (zs : List Bool) (u : Nat) : Prop := val zs + 2 ^ zs.length * u = N ∧ zs.length ≤ 64
theorem ofAt_step {N u h : Nat} {zs : List Bool} {b : Bool} (hN : N < 18446744073709551616) (hu : u = 2 * h + bit b) (h0 : 0 < u) (hat : OfAt N zs u) : OfAt N (zs ++ [b]) h := by
  obtain ⟨h1, h2⟩ := hat
  refine ⟨?_, ?_⟩
  · rw [val_snoc, List.length_append, List.length_singleton, Nat.pow_succ, Nat.mul_assoc, ← h1, hu, Nat.mul_add]
    omega
  · rw [List.length_append, List.length_singleton]
    rcases Nat.lt_or_ge zs.length 64 with hl | hl
    · exact hl
    · have e : zs.length = 64 := by omega
      rw [e] at h1
      have h5 : 2 ^ 64 * 1 ≤ 2 ^ 64 * u := Nat.mul_le_mul_left _ h0
      omega
theorem ofAt_end {N : Nat} {zs : List Bool} (h : OfAt N zs 0) : val zs = N ∧ zs.length ≤ 64 := ⟨by have := h.1; omega, h.2⟩
def OfQ (N : Nat) (zs : List Bool) : Prop := val zs = N ∧ zs.length ≤ 64
/-- the facts on the block of a result, kept -/
theorem kept2 {w wr : World} {g : Nat} {x y : Value} {t : TypeId} (hg : g = w.heap.size) (hb : Below (g + 1) (w.alloc (.cells #[x, y] t)) wr) :
    wr.cell? ⟨g, 0, none⟩ = some x ∧ wr.cell? ⟨g, 1, none⟩ = some y ∧ wr.frozen? ⟨g, 0, none⟩ = false ∧ wr.frozen? ⟨g, 1, none⟩ = false ∧ g < wr.heap.size := by
  subst hg
  refine ⟨(hb.cell (p := ⟨w.heap.size, 0, none⟩) (by simp)).trans (by simp), (hb.cell (p := ⟨w.heap.size, 1, none⟩) (by simp)).trans (by simp), (hb.frozen (p := ⟨w.heap.size, 0, none⟩) (by simp)).trans (by simp), (hb.frozen (p := ⟨w.heap.size, 1, none⟩) (by simp)).trans (by simp), ?_⟩
  have := hb.size
  simp at this
  omega
theorem ob_rb' {w : World} {B c n : Nat} {A : Option Addr} {xs : List Bool} (h : OB w B (.slice A n c) xs) : RB w A c xs := by
  obtain ⟨A', c', e, hr⟩ := ob_rb h
  injection e with e1 e2 e3
  subst e1 e3
  exact hr
theorem ob_set {w : World} {B : Nat} {v : Value} {xs : List Bool} (h : OB w B v xs) {p : Addr} (hp : p.block < B) (u : Value) : OB (w.setCell p u) B v xs := ownsRow_setCell_below h hp u
theorem of_walk (a : Int) (N : Nat) (s : Bool) (w : World) (h1 : -9223372036854775808 ≤ a) (h2 : a ≤ 9223372036854775807) (hN : N = a.natAbs) (hs : decide (a < 0) = s) :
    Calls Try.prog 18 #[.int .i64 a] w fun e w' => BigPost s (OfQ N) w e w' := by
  have HN := Lib.hid hN
  have hN2 : N < 18446744073709551616 := by omega
  have HL := Lib.hid hN2
  clear hN2
  have start : ∃ u : Nat, u = N ∧ ((u : Int) = a ∨ a < 0) ∧ ((u : Int) = -(a + 1) + 1 ∨ 0 ≤ a) := ⟨N, rfl, by omega, by omega⟩
  have ST := Lib.hid start
  clear start hN
  cases s
  · have h0 : 0 ≤ a := by simpa using hs
    go_enter Try.func18, Try.ntmps18
    go_wp2_with fail
    go_loopw [4, 3] (fun x v wr => ∃ (u : Nat) (zs : List Bool), Hid (OfAt N zs u) ∧ (u : Int) ≤ 18446744073709551615 ∧ x = .int .u64 u ∧ Hid (OB wr (w.heap.size + 1) v zs) ∧ Hid (Below (w.heap.size + 1) (w.alloc (.cells #[.slice none 0 0, .bool false] 29)) wr)) (fun x _ _ => (intOf x).toNat)
    case atStart =>
      obtain ⟨u, hu, hu2, hu3⟩ := ST.out
      have := HL.out
      exact ⟨N, [], Lib.hid ⟨by simp [val], by simp⟩, by omega, congrArg (Value.int .u64) (by omega), Lib.hid (ob_nil _ _), Lib.hid (Below.refl _ _)⟩
    case round =>
      rename_i wr
      obtain ⟨u, zs, hp, hul, rfl, ho, hb⟩ := hrel
      have L1 := Lib.hid (show zs.length ≤ 1000000 by have := hp.out.2; omega)
      have L2 := Lib.hid (show w.heap.size + 1 ≤ wr.heap.size by have := hb.out.size; simp at this; omega)
      rcases Nat.eq_zero_or_pos u with hu | hu
      · subst hu
        obtain ⟨c0, c1, f0, f1, hz⟩ := kept2 rfl hb.out
        obtain ⟨A', c', rfl, hr⟩ := ob_rb ho.out
        clear hr
        go_wp2_with fail
        refine bodyPost_ret (v := .agg #[.slice A' zs.length c', .bool false]) (by simp [results, Try.results18, go_sem, c0, c1]) rfl ⟨A', c', zs, rfl, ?_, ofAt_end hp.out, ?_⟩
        · exact ob_rb' (ob_set (ob_set ho.out (by simp) _) (by simp) _)
        · exact (((((Below.refl _ w).alloc (Nat.le_refl _) _).trans (hb.out.mono (by omega))).setCell (by simp) _).setCell (by simp) _)
      · obtain ⟨h, hh⟩ : ∃ h : Nat, h = u / 2 := ⟨_, rfl⟩
        have e1 : (u : Int) / 2 = (h : Int) := by omega
        rcases Nat.mod_two_eq_zero_or_one u with hm | hm
        · have P2 := Lib.hid (ofAt_step (b := false) HL.out (show u = 2 * h + bit false by simp [bit]; omega) hu hp.out)
          have e2 : (u : Int) % 2 = 0 := by omega
          have hb2 : (h : Int) ≤ 18446744073709551615 := by omega
          have hlt := Lib.hid (show h < u by omega)
          clear hm hh
          go_wp2_with (at_builtin; refine wpList_push _ rfl (.tmp 16) (.tmp 20) rfl (w.heap.size + 1) u3 zs _ rfl rfl ho.out ?_ ?_ ?_; exact L1.out; exact L2.out; intro v1 w1 ho1 hb1; have O1 := Lib.hid ho1; have B1 := Lib.hid hb1; clear ho1 hb1)
          go_roundw
          case rel => exact ⟨h, zs ++ [false], P2, hb2, rfl, O1, Lib.hid (hb.out.trans B1.out)⟩
          case measure => have := hlt.out; simp [intOf]; omega
        · have P2 := Lib.hid (ofAt_step (b := true) HL.out (show u = 2 * h + bit true by simp [bit]; omega) hu hp.out)
          have e2 : (u : Int) % 2 = 1 := by omega
          have hb2 : (h : Int) ≤ 18446744073709551615 := by omega
          have hlt := Lib.hid (show h < u by omega)
          clear hm hh
          go_wp2_with (at_builtin; refine wpList_push _ rfl (.tmp 16) (.tmp 20) rfl (w.heap.size + 1) u3 zs _ rfl rfl ho.out ?_ ?_ ?_; exact L1.out; exact L2.out; intro v1 w1 ho1 hb1; have O1 := Lib.hid ho1; have B1 := Lib.hid hb1; clear ho1 hb1)
          go_roundw
          case rel => exact ⟨h, zs ++ [true], P2, hb2, rfl, O1, Lib.hid (hb.out.trans B1.out)⟩
          case measure => have := hlt.out; simp [intOf]; omega
  · have h0 : a < 0 := by simpa using hs
    have hs' : decide (a < 0) = true := hs
    clear hs
    go_enter Try.func18, Try.ntmps18
    go_wp2_with fail
    go_loopw [4, 3] (fun x v wr => ∃ (u : Nat) (zs : List Bool), Hid (OfAt N zs u) ∧ (u : Int) ≤ 18446744073709551615 ∧ x = .int .u64 u ∧ Hid (OB wr (w.heap.size + 1) v zs) ∧ Hid (Below (w.heap.size + 1) (w.alloc (.cells #[.slice none 0 0, .bool false] 29)) wr)) (fun x _ _ => (intOf x).toNat)
    case atStart =>
      obtain ⟨u, hu, hu2, hu3⟩ := ST.out
      have := HL.out
      exact ⟨N, [], Lib.hid ⟨by simp [val], by simp⟩, by omega, congrArg (Value.int .u64) (by omega), Lib.hid (ob_nil _ _), Lib.hid (Below.refl _ _)⟩
    case round =>
      rename_i wr
      obtain ⟨u, zs, hp, hul, rfl, ho, hb⟩ := hrel
      have L1 := Lib.hid (show zs.length ≤ 1000000 by have := hp.out.2; omega)
      have L2 := Lib.hid (show w.heap.size + 1 ≤ wr.heap.size by have := hb.out.size; simp at this; omega)
      rcases Nat.eq_zero_or_pos u with hu | hu
      · subst hu
        obtain ⟨c0, c1, f0, f1, hz⟩ := kept2 rfl hb.out
        obtain ⟨A', c', rfl, hr⟩ := ob_rb ho.out
        clear hr
        go_wp2_with fail
        refine bodyPost_ret (v := .agg #[.slice A' zs.length c', .bool true]) (by simp [results, Try.results18, go_sem, c0, c1]) rfl ⟨A', c', zs, rfl, ?_, ofAt_end hp.out, ?_⟩
        · exact ob_rb' (ob_set (ob_set ho.out (by simp) _) (by simp) _)
        · exact (((((Below.refl _ w).alloc (Nat.le_refl _) _).trans (hb.out.mono (by omega))).setCell (by simp) _).setCell (by simp) _)
      · obtain ⟨h, hh⟩ : ∃ h : Nat, h = u / 2 := ⟨_, rfl⟩
        have e1 : (u : Int) / 2 = (h : Int) := by omega
        rcases Nat.mod_two_eq_zero_or_one u with hm | hm
        · have P2 := Lib.hid (ofAt_step (b := false) HL.out (show u = 2 * h + bit false by simp [bit]; omega) hu hp.out)
          have e2 : (u : Int) % 2 = 0 := by omega
          have hb2 : (h : Int) ≤ 18446744073709551615 := by omega
          have hlt := Lib.hid (show h < u by omega)
          clear hm hh
          go_wp2_with (at_builtin; refine wpList_push _ rfl (.tmp 16) (.tmp 20) rfl (w.heap.size + 1) u3 zs _ rfl rfl ho.out ?_ ?_ ?_; exact L1.out; exact L2.out; intro v1 w1 ho1 hb1; have O1 := Lib.hid ho1; have B1 := Lib.hid hb1; clear ho1 hb1)
          go_roundw
          case rel => exact ⟨h, zs ++ [false], P2, hb2, rfl, O1, Lib.hid (hb.out.trans B1.out)⟩
          case measure => have := hlt.out; simp [intOf]; omega
        · have P2 := Lib.hid (ofAt_step (b := true) HL.out (show u = 2 * h + bit true by simp [bit]; omega) hu hp.out)
          have e2 : (u : Int) % 2 = 1 := by omega
          have hb2 : (h : Int) ≤ 18446744073709551615 := by omega
          have hlt := Lib.hid (show h < u by omega)
          clear hm hh
          go_wp2_with (at_builtin; refine wpList_push _ rfl (.tmp 16) (.tmp 20) rfl (w.heap.size + 1) u3 zs _ rfl rfl ho.out ?_ ?_ ?_; exact L1.out; exact L2.out; intro v1 w1 ho1 hb1; have O1 := Lib.hid ho1; have B1 := Lib.hid hb1; clear ho1 hb1)
          go_roundw
          case rel => exact ⟨h, zs ++ [true], P2, hb2, rfl, O1, Lib.hid (hb.out.trans B1.out)⟩
          case measure => have := hlt.out; simp [intOf]; omega
theorem of_any (a : Int) (w : World) (ha : fits a) : Calls Try.prog 18 #[.int .i64 a] w fun e w' => BigPost (decide (a < 0)) (OfQ a.natAbs) w e w' := of_walk a _ _ w ha.1 ha.2 rfl rfl
end Go.Proofs.Ytehngngkdnmhgaa
