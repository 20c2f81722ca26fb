/- met: its iterator's word. -/
import Derived.Test.YtiilgehdkanmnaaMet
namespace Go.Proofs.Ytiilgehdkanmnaa
open Go.RowKit Go.Shelf

theorem met_stops (n : Nat) (hn : 1 ≤ n) (p : Pr) (o1 : Option Addr) (m dcap b off cap e B E : Nat) (hS : Small p) (hm : mayP p = true) (he : e < p.exprs.length) (w0 w : World)
    (M : Nat → Prop) (rw : World → Option Nat) (hA : Aside M rw w) (hlow : ∀ k, (M k ∨ rw w = some k) → w0.heap.size ≤ k) (hw0 : Below w0.heap.size w0 w)
    (hB : Still M rw w B) (hE : Still M rw w E) (hBc : w.heap[B]? = some (.cells #[.slice o1 m dcap, .slice (some ⟨b, off, none⟩) p.exprs.length cap] 25 (0, 0))) (hEc : w.heap[E]? = some (.cells #[.int .i64 (e : Int)] 3 (0, 0)))
    (hc : ∀ i, i < p.exprs.length → ∀ x, p.exprs[i]? = some x → ExAt w0 b (off + i * 9) x) :
    SeqW Fence.wide n Try.prog 49 #[.pointer (some ⟨E, 0, none⟩), .pointer (some ⟨B, 0, none⟩)] (fun z : {z : Nat // z ≤ e} => #[.int .i64 (z.1 : Int)]) (KeepM M rw w.heap.size) (fun X k => rw X = some k)
      (fun ys => ys.map (·.1) = metP p e) (fun pre => pre.map (·.1) <+: metP p e) (metP p e).length w :=
  fun lp J Jx W hW hJ _ hY h0 => met_core Fence.wide n rfl hn p o1 m dcap b off _ cap e B E (Lib.hid rfl) (by have := hS.exprs; omega) he w0 w M rw (Lib.hid hA) (Lib.hid hlow) (Lib.hid hw0) (Lib.hid hB) (Lib.hid hE) (Lib.hid hBc) (Lib.hid hEc)
    (Lib.hid hc) (Lib.hid hS) (Lib.hid hm) lp J Jx W (Lib.hid hW) (Lib.hid hJ) (Lib.hid hY) (Lib.hid h0)
/-- the iterator's function value -/
def metV (E B : Nat) : Value := .func (.func 49) #[] #[.pointer (some ⟨E, 0, none⟩), .pointer (some ⟨B, 0, none⟩)]
theorem met_any (o1 o2 : Option Addr) (m dcap n cap : Nat) (e : Int) (w : World) : Calls Try.prog 35 #[.agg #[.slice o1 m dcap, .slice o2 n cap], .int .i64 e] w fun r w' =>
    r = .returned (metV (w.heap.size + 1) w.heap.size) ∧ w' = (w.alloc (.cells #[.slice o1 m dcap, .slice o2 n cap] 25)).alloc (.cells #[.int .i64 e] 3) := by
  go_enter Try.func35, Try.ntmps35
  go_wp2_with fail
  go_ret
  exact ⟨rfl, rfl⟩
end Go.Proofs.Ytiilgehdkanmnaa
