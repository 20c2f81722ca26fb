/- The size of a tree, at most a most. -/
import Derived.Test.YtiilgehdkanmnaaRefTree
namespace Go.Proofs.Ytiilgehdkanmnaa
open Go.RowKit Go.Shelf

attribute [local go_sem] Oper.semAt_some

set_option maxHeartbeats 8000000 in
set_option maxRecDepth 100000 in
theorem size_core (p : Pr) (o1 : Option Addr) (m dcap b off cap nn : Nat) (hnn : Hid (p.exprs.length = nn)) (nl : (nn : Int) ≤ 300) (hm : Hid (mayP p = true)) (hS : Hid (Small p)) (w : World) (hc : Hid (∀ i, i < nn → ∀ x, p.exprs[i]? = some x → ExAt w b (off + i * 9) x)) (most : Nat) (hmost : (most : Int) ≤ 100000) (e : Nat) (he : e < nn) :
    Calls Try.prog 9 #[.agg #[.slice o1 m dcap, .slice (some ⟨b, off, none⟩) nn cap], .int .i64 (e : Int), .int .i64 (most : Int)] w fun r Y => r = .returned (.int .i64 ((cutL most [] (tree p e)).length : Int)) ∧ Below w.heap.size w Y := by
  have hb0 := Lib.hid (below_al (Below.refl w.heap.size w) (.cells #[.slice o1 m dcap, .slice (some ⟨b, off, none⟩) nn cap] 25))
  have C := Lib.hid (callsIn_wide.1 (refTree_core p o1 m dcap b off cap nn hnn nl hm hS (w.alloc (.cells #[.slice o1 m dcap, .slice (some ⟨b, off, none⟩) nn cap] 25)) (Lib.hid fun i hi x hx => (hc.out i hi x hx).below hb0.out) most hmost e he [] (.slice none 0 0) _ (by simp) (Below.refl _ _) (World.ownsRow_nil _ _ _ _)))
  obtain ⟨L, hL⟩ : ∃ L, L = cutL most [] (tree p e) := ⟨_, rfl⟩
  rw [← hL] at C ⊢
  clear hL
  go_enter Try.func9, Try.ntmps9
  go_wp2_with (go_at_call 31; ((with_reducible refine C.out.mono ?_)); rintro r Y ⟨v, rfl, ho, hr, _⟩; obtain ⟨o', c', rfl⟩ := own_slice ho; have HR := Lib.hid hr; clear ho hr)
  go_ret
  exact ⟨rfl, hb0.out.trans ((grown_below HR.out).mono hb0.out.size)⟩
theorem cut_size (most : Nat) (l : List Nat) : (cutL most [] l).length = min most l.length := by
  unfold cutL
  simp
end Go.Proofs.Ytiilgehdkanmnaa
