/- tree: the iterator over the numbers of an expression's tree. -/
import Derived.Test.YtcgkgobkchgdhaaTreeWalk
namespace Go.Proofs.Ytcgkgobkchgdhaa
open Go.RowKit Go.Shelf

theorem run_store_func (P : Program) (w : World) (a : Addr) (fn : Fn) (first : Array Value) (caps : Array Value) (m : Mode) : (store a (.func fn first caps) m).run P w = stored P w a (.func fn first caps) m := run_store P w a _ m rfl
attribute [local go_sem] Oper.semAt_some run_store_func

set_option maxHeartbeats 8000000 in
set_option maxRecDepth 100000 in
theorem tree_tells (p : Pr) (o1 : Option Addr) (m dcap b off cap nn e B E : Nat) (hnn : Hid (p.exprs.length = nn)) (nl : (nn : Int) ≤ 300) (hm : Hid (mayP p = true)) (he : e < nn) (w0 w : World)
    (M : Nat → Prop) (rw : World → Option Nat) (hA : Hid (Aside M rw w)) (hlow : Hid (∀ k, (M k ∨ rw w = some k) → w0.heap.size ≤ k)) (hw0 : Hid (Below w0.heap.size w0 w))
    (hB : Hid (Still M rw w B)) (hE : Hid (Still M rw w E)) (hBc : Hid (w.heap[B]? = some (.cells #[.slice o1 m dcap, .slice (some ⟨b, off, none⟩) nn cap] 25 (0, 0)))) (hEc : Hid (w.heap[E]? = some (.cells #[.int .i64 (e : Int)] 3 (0, 0))))
    (hc : Hid (∀ i, i < nn → ∀ x, p.exprs[i]? = some x → ExAt w0 b (off + i * 9) x)) (n : Nat) :
    SeqT Fence.wide n Try.prog 52 #[.pointer (some ⟨B, 0, none⟩), .pointer (some ⟨E, 0, none⟩)] (fun z : {z : Nat // z ≤ e} => #[.int .i64 (z.1 : Int)]) (KeepM M rw w.heap.size) (fun X k => rw X = some k)
      (fun ys => ys.map (·.1) = tree p e) (fun pre => pre.map (·.1) <+: tree p e) w := by
  intro lp J Jx W hW hJ hJx hY h0
  obtain ⟨W1, hW1⟩ : ∃ W1, W1 = (((W.alloc (.cells #[.func (.yield lp) #[] #[]] 77)).alloc (.cells #[.bool true] 4)).alloc (.cells #[.func (.func 53) #[] #[.pointer (some ⟨W.heap.size, 0, none⟩), .pointer (some ⟨W.heap.size + 1, 0, none⟩), .pointer (some ⟨B, 0, none⟩), .pointer (some ⟨W.heap.size + 1 + 1, 0, none⟩)]] 77)) := ⟨_, rfl⟩
  obtain ⟨a1, a2, a3, a4, a5⟩ := three W (.cells #[.func (.yield lp) #[] #[]] 77) (.cells #[.bool true] 4) (.cells #[walkV W.heap.size (W.heap.size + 1) B (W.heap.size + 2)] 77)
  have e1 : W1 = ((W.alloc (.cells #[.func (.yield lp) #[] #[]] 77)).alloc (.cells #[.bool true] 4)).alloc (.cells #[walkV W.heap.size (W.heap.size + 1) B (W.heap.size + 2)] 77) := hW1
  rw [← e1] at a1 a2 a3 a4 a5
  have hEW : W.heap[E]? = some (.cells #[.int .i64 (e : Int)] 3 (0, 0)) := (hW.block _ hE.out.1).trans hEc.out
  have ce : W.cell? ⟨E, 0, none⟩ = some (.int .i64 (e : Int)) := by simp [World.cell?, hEW]
  have ce1 : W1.cell? ⟨E, 0, none⟩ = some (.int .i64 (e : Int)) := cell_on a4 ce
  rw [hW1] at ce1
  have hr1 : rw W1 = rw w := hA.out.same _ _ fun k hk => (a4.block k (Nat.lt_of_lt_of_le hk hW.size)).trans (hW.block k hk)
  have hT1 : TreeMem M rw w W.heap.size B lp true W1 := ⟨hW.size, by omega, fun k hk _ _ => (a4.block k (Nat.lt_of_lt_of_le hk hW.size)).trans (hW.block k hk), fun k hk => .inl (by rw [← hr1]; exact hk),
    fun k hk => by have := hA.out.row k (by rw [← hr1]; exact hk); have := hW.size; omega, a1, a2, a3⟩
  have hJ1 : J [] W1 := hJ _ W W1 none h0 ⟨a4.os, a4.tape, a4.output, a4.size, fun k hk _ => a4.block k hk⟩ (fun r hr => by cases hr)
  have CW := Lib.hid (walk_any p o1 m dcap b off cap nn hnn nl hm w0 w e he M rw hA hlow hw0 hc B hB hBc W.heap.size lp J Jx (Lib.hid hJ) (Lib.hid hJx) (Lib.hid fun pre z X hX => yieldAt_wide (hY pre z X hX)) e (Nat.le_refl _) [] W1 hJ1 hT1)
  rw [hW1] at CW
  clear h0 hY hEW hJ1 hT1 hr1 e1 hW1 a1 a2 a3 a4 a5
  refine callsIn_wide.2 ((callsIn_wide (n := 5)).1 ?_)
  refine callsIn_of_wp Try.func52 rfl trivial ?_ rfl
  simp only [Try.ntmps52, List.size_toArray, List.length_cons, List.length_nil, Nat.reduceAdd, Nat.reduceSub, Array.replicate_succ, Array.replicate_zero, List.push_toArray, List.append_toArray, List.nil_append, List.cons_append]
  gi_wp2_with (fail)
  refine ⟨trivial, ?_⟩
  refine (callsIn_wide.2 (callsIn_wide.1 CW.out)).mono ?_
  rintro r Y (⟨rfl, ⟨T, t1, t2⟩, _⟩ | ⟨rfl, ⟨T, t1, t2⟩, _⟩)
  · gi_wp2
    go_end0
    exact ⟨⟨_, rfl⟩, .inl ⟨T, t1, t2⟩⟩
  · gi_wp2
    go_end0
    exact ⟨⟨_, rfl⟩, .inr ⟨T, t1, t2⟩⟩
/-- tree's value -/
def treeV (B E : Nat) : Value := .func (.func 52) #[] #[.pointer (some ⟨B, 0, none⟩), .pointer (some ⟨E, 0, none⟩)]
theorem tree_any (o1 o2 : Option Addr) (m dcap n cap : Nat) (e : Int) (w : World) : Calls Try.prog 36 #[.agg #[.slice o1 m dcap, .slice o2 n cap], .int .i64 e] w fun r w' =>
    r = .returned (treeV w.heap.size (w.heap.size + 1)) ∧ ((w.alloc (.cells #[.slice o1 m dcap, .slice o2 n cap] 25)).alloc (.cells #[.int .i64 e] 3)) = w' := by
  go_enter Try.func36, Try.ntmps36
  go_wp2_with (fail)
  go_ret
  exact ⟨rfl, rfl⟩
end Go.Proofs.Ytcgkgobkchgdhaa
