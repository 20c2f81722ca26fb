/- ast.May, isIn, at any program that is small. -/
import Derived.Test.YtiilgehdkanmnaaAstMayP
namespace Go.Proofs.Ytiilgehdkanmnaa
open Go.RowKit

theorem may_any (sd se : Value) (p : Pr) (w : World) (h : ProgAt w sd se p) (hs : Small p) : Calls Try.prog 20 #[.agg #[sd, se]] w fun e w' => MayPost (mayP p) w e w' := by
  obtain ⟨⟨o1, dcap, db, doff, rfl, hd1, hd2, hd3, hd4⟩, ⟨o2, cap, b, off, rfl, he1, he2, he3, he4⟩, h3, h4⟩ := h
  exact may_core o1 o2 b off cap db doff dcap p _ _ (Lib.hid rfl) (Lib.hid rfl) (by have := hs.exprs; omega) (by have := hs.decls; omega) w (Lib.hid hs) (Lib.hid he3) (Lib.hid hd3) (Lib.hid he4) (Lib.hid hd4)
/-- is e the number of an expression of a program that may be -/
def inP (p : Pr) (e : Int) : Bool := decide (0 ≤ e) && decide (e < (p.exprs.length : Int)) && mayP p
theorem isIn_any (sd se : Value) (p : Pr) (e : Int) (w : World) (h : ProgAt w sd se p) (hs : Small p) : Calls Try.prog 18 #[.agg #[sd, se], .int .i64 e] w fun r w' => MayPost (inP p e) w r w' := by
  obtain ⟨⟨o1, dcap, db, doff, rfl, hd⟩, ⟨o2, cap, b, off, rfl, he⟩, h3, h4⟩ := id h
  have hal := Lib.hid (below_al (Below.refl w.heap.size w) (.cells #[.slice o1 p.decls.length dcap, .slice o2 p.exprs.length cap] 25))
  have C := Lib.hid (may_any _ _ p _ (h.below hal.out) hs)
  have hl : (p.exprs.length : Int) ≤ 300 := by have := hs.exprs; omega
  clear hs h hd he h3 h4
  unfold inP
  by_cases h1 : 0 ≤ e
  · have t1 : decide (0 ≤ e) = true := decide_eq_true h1
    by_cases h2 : e < (p.exprs.length : Int)
    · have t2 : decide (e < (p.exprs.length : Int)) = true := decide_eq_true h2
      rw [t1, t2]
      clear h1
      go_enter Try.func18, Try.ntmps18
      go_wp2_with (go_at_call 20; ((with_reducible refine C.out.mono ?_); rintro r w1 ⟨rfl, hb⟩; have HB := Lib.hid hb; clear hb))
      go_ret
      exact ⟨by simp, hal.out.trans (HB.out.mono hal.out.size)⟩
    · have t2 : decide (e < (p.exprs.length : Int)) = false := decide_eq_false h2
      rw [t1, t2]
      clear h1
      go_enter Try.func18, Try.ntmps18
      go_wp2_with fail
      go_ret
      exact ⟨by simp, hal.out⟩
  · have t1 : decide (0 ≤ e) = false := decide_eq_false h1
    rw [t1]
    clear h1
    go_enter Try.func18, Try.ntmps18
    go_wp2_with fail
    go_ret
    exact ⟨by simp, hal.out⟩
end Go.Proofs.Ytiilgehdkanmnaa
