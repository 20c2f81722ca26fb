/- The reference's reader: how many things. -/
import Derived.Test.YtodblepbedhnnaaCoRNum
namespace Go.Proofs.Ytodblepbedhnnaa
open Go.RowKit Co

attribute [local go_sem] Oper.semAt_some

/-- a count that was read, or not -/
def ManyR (B : List UInt8) (p m q : Nat) (bd : Bool) : Prop := p ≤ q ∧ q + m ≤ B.length ∧ (bd = false → p < q) ∧ ∀ (N : Nat) r, i64 (N : Int) → N ≤ r.length → B.drop p = encN (N : Int) ++ r → m = N ∧ q = p + (encN (N : Int)).length ∧ bd = false
theorem many_lost {B : List UInt8} {p q : Nat} {v : Int} {bd : Bool} (h : NumR B p v q bd) (hp : p ≤ B.length) (hv : v < 0 ∨ (B.length : Int) - (q : Int) < v) : ManyR B p 0 q true := by
  refine ⟨h.2.1, by have := h.2.2.1 hp; omega, by simp, fun N r hi hr hd => ?_⟩
  obtain ⟨e1, e2, _⟩ := h.2.2.2.2 N r hi hd
  have hlen := congrArg List.length hd
  rw [List.length_drop, List.length_append] at hlen
  omega
theorem many_got {B : List UInt8} {p q : Nat} {v : Int} {bd : Bool} (h : NumR B p v q bd) (hp : p ≤ B.length) (hv : 0 ≤ v) (hw : v ≤ (B.length : Int) - (q : Int)) : ManyR B p v.toNat q bd := by
  refine ⟨h.2.1, by have := h.2.2.1 hp; omega, h.2.2.2.1, fun N r hi hr hd => ?_⟩
  obtain ⟨e1, e2, e3⟩ := h.2.2.2.2 N r hi hd
  exact ⟨by omega, e2, e3⟩
theorem RR.upon {w0 w W : World} {R p : Nat} {s : Value} {bad : Bool} (h : RR w0 R s p bad w) (hb : Below w.heap.size w W) : RR w0 R s p bad W := ⟨h.below.trans (hb.mono h.below.size), h.low, (hb.block _ (lt_of_heap h.box)).trans h.box⟩
theorem Sm.upon {R : Nat} {w v W : World} (h : Sm R w v) (hb : Below v.heap.size v W) : Sm R w W := h.trans ⟨hb.size, fun k hk _ => hb.block k hk⟩
def ManyPost (w0 : World) (R : Nat) (s : Value) (bad : Bool) (w : World) (B : List UInt8) (p : Nat) (e : Ending) (w' : World) : Prop := ∃ m q bd, e = .returned (.int .i64 ((m : Nat) : Int)) ∧ ManyR B p m q bd ∧ RR w0 R s q (bad || bd) w' ∧ Sm R w w'
set_option maxHeartbeats 8000000 in
set_option maxRecDepth 100000 in
theorem rmany_any (w0 : World) (R p : Nat) (s : Value) (B : List UInt8) (bad : Bool) (hs : BytesAt w0 s B) (hl : B.length ≤ 1000000) (hp : p ≤ B.length) (w : World) (h : RR w0 R s p bad w) :
    Calls Try.prog 50 #[.pointer (some ⟨R, 0, none⟩)] w fun e w' => ManyPost w0 R s bad w B p e w' := by
  have CN := Lib.hid (rrnum_any w0 R p s B bad hs hl (by omega) w h)
  obtain ⟨o, cap, b, off, rfl, _, _, e1, c1⟩ := hs
  obtain ⟨n, hn⟩ : ∃ n, n = B.length := ⟨_, rfl⟩
  rw [← hn] at CN hl ⊢
  have HN := Lib.hid hn
  have HP := Lib.hid hp
  have hnl : (n : Int) ≤ 1000000 := by omega
  clear hn e1 c1 hl h hp
  go_enter Try.func50, Try.ntmps50
  go_wp2_with (go_at_call 33; (with_reducible refine CN.out.mono ?_); rintro e w1 ⟨v, q, bd, rfl, hN, hR, hS⟩; have HNR := Lib.hid hN; have HR := Lib.hid hR; have HS := Lib.hid hS; have hq : (q : Int) ≤ (n : Int) := (by have := hN.2.2.1 HP.out; have := HN.out; omega); have v1 : -9223372036854775808 ≤ v := hN.1.1; have v2 : v ≤ 9223372036854775807 := hN.1.2; obtain ⟨⟨z0, z1, z2⟩, f0, f1, f2⟩ := rr_cells hR; clear hN hR hS)
  rcases Int.lt_or_le v 0 with hv | hv
  · refine wp_region_quiet_below (by kernel_rfl) (by kernel_rfl) ?_
    repeat (go_big_quiet_step (fail))
    refine wpQuiet_nil ?_
    intro w4 hw4
    have HB4 : Hid (Below w1.heap.size w1 w4) := Lib.hid (by obtain ⟨pr, rfl⟩ := hw4; exact below_regrown _ _ _)
    clear z0 z1 z2 f0 f1 f2 hw4
    have HR4 := Lib.hid (HR.out.upon HB4.out)
    obtain ⟨⟨z0, z1, z2⟩, f0, f1, f2⟩ := rr_cells HR4.out
    go_wp2_with fail
    go_ret
    refine ⟨0, q, true, rfl, many_lost HNR.out HP.out (.inl hv), ?_, (HS.out.upon HB4.out).trans (Sm.set R 2 w4 _)⟩
    rw [Bool.or_true]
    exact HR4.out.spoil
  · have hv' : ¬ v < 0 := by omega
    have q0 : (0 : Int) ≤ (q : Int) := by omega
    have wD : IntKind.i64.wrap ((n : Int) - (q : Int)) = (n : Int) - (q : Int) := by rw [IntKind.wrap_i64]; omega
    rcases Int.lt_or_le ((n : Int) - (q : Int)) v with hw | hw
    · have HRS := Lib.hid HR.out.spoil.drew
      have HSS : Hid (Sm R w (w1.setCell ⟨R, 2, none⟩ (.bool true)).drew) := Lib.hid ((HS.out.trans (Sm.set R 2 w1 (.bool true))).trans ⟨Nat.le_refl _, fun _ _ _ => rfl⟩)
      go_region_held3 (fun w' => w'.cell? ⟨R, 0, none⟩ = some (.slice o n cap) ∧ w'.cell? ⟨R, 1, none⟩ = some (.int .i64 (q : Int)))
        (first | exact ⟨z0, z1⟩)
        (first | fail)
      all_goals (go_wp2_with fail)
      go_ret
      refine ⟨0, q, true, rfl, many_lost HNR.out HP.out (.inr (by rw [← HN.out]; exact hw)), ?_, HSS.out⟩
      rw [Bool.or_true]
      exact HRS.out
    · have hw' : ¬ ((n : Int) - (q : Int) < v) := by omega
      have HRD := Lib.hid HR.out.drew
      have HSD : Hid (Sm R w w1.drew) := Lib.hid (HS.out.trans ⟨Nat.le_refl _, fun _ _ _ => rfl⟩)
      go_region_held3 (fun w' => w'.cell? ⟨R, 0, none⟩ = some (.slice o n cap) ∧ w'.cell? ⟨R, 1, none⟩ = some (.int .i64 (q : Int)))
        (first | exact ⟨z0, z1⟩)
        (first | fail)
      all_goals (go_wp2_with fail)
      go_ret
      refine ⟨v.toNat, q, bd, ?_, many_got HNR.out HP.out hv (by rw [← HN.out]; exact hw), HRD.out, HSD.out⟩
      rw [Int.toNat_of_nonneg hv]
      first | rfl | simp
end Go.Proofs.Ytodblepbedhnnaa
