/- Two arrays of four bytes, compared. -/
import Derived.Test.YtodblepbedhnnaaChecked
import Derived.WalkKit
import Derived.BigQuiet
namespace Go.Proofs.Ytodblepbedhnnaa
open Go.RowKit

theorem run_part4 {w : World} (cs : Array Value) (i : Nat) (v : Value) (h : cs[i]? = some v) : (part 5 cs i).run Try.prog w = .ok v w := by
  unfold part
  simp [Try.isAgg5, h]
theorem run_equal4 (a0 a1 a2 a3 b0 b1 b2 b3 : Int) (d : Nat) (w : World) :
    (Op.equalIn (d + 2) 42 (.agg #[.int .u8 a0, .int .u8 a1, .int .u8 a2, .int .u8 a3]) (.agg #[.int .u8 b0, .int .u8 b1, .int .u8 b2, .int .u8 b3])).run Try.prog w = .ok (a0 == b0 && a1 == b1 && a2 == b2 && a3 == b3) w := by
  have e : ∀ (a b : Int) (w : World), (Op.equalIn (d + 1) 5 (.int .u8 a) (.int .u8 b)).run Try.prog w = .ok (a == b) w := fun a b w => run_equalIn_int w d 5 .u8 .u8 a b Try.underlying5
  rw [show d + 2 = (d + 1) + 1 from rfl]
  unfold Op.equalIn
  simp [run_underlying Try.underlying42]
  have p : ∀ (cs : Array Value) (i : Nat) (v : Value) (w : World), cs[i]? = some v → (part 5 cs i).run Try.prog w = .ok v w := fun cs i v w h => run_part4 cs i v h
  rw [show List.range' 0 4 = [0, 1, 2, 3] from rfl]
  have x0 : ∀ (c0 c1 c2 c3 : Int) (w : World), (part 5 #[.int .u8 c0, .int .u8 c1, .int .u8 c2, .int .u8 c3] 0).run Try.prog w = .ok (.int .u8 c0) w := fun _ _ _ _ w => p _ _ _ w rfl
  have x1 : ∀ (c0 c1 c2 c3 : Int) (w : World), (part 5 #[.int .u8 c0, .int .u8 c1, .int .u8 c2, .int .u8 c3] 1).run Try.prog w = .ok (.int .u8 c1) w := fun _ _ _ _ w => p _ _ _ w rfl
  have x2 : ∀ (c0 c1 c2 c3 : Int) (w : World), (part 5 #[.int .u8 c0, .int .u8 c1, .int .u8 c2, .int .u8 c3] 2).run Try.prog w = .ok (.int .u8 c2) w := fun _ _ _ _ w => p _ _ _ w rfl
  have x3 : ∀ (c0 c1 c2 c3 : Int) (w : World), (part 5 #[.int .u8 c0, .int .u8 c1, .int .u8 c2, .int .u8 c3] 3).run Try.prog w = .ok (.int .u8 c3) w := fun _ _ _ _ w => p _ _ _ w rfl
  simp only [List.forIn_cons, List.forIn_nil, Sem.run_bind, x0, e, Result.andThen_ok]
  cases h0 : (a0 == b0) <;> simp [Result.andThen]
  cases h1 : (a1 == b1) <;> simp [Result.andThen, x1, e, h1]
  cases h2 : (a2 == b2) <;> simp [Result.andThen, x2, e, h2]
  cases h3 : (a3 == b3) <;> simp [x3, e, h3]
theorem run_neq4 (a0 a1 a2 a3 b0 b1 b2 b3 : Int) (w : World) :
    (binOp .neq 42 (.agg #[.int .u8 a0, .int .u8 a1, .int .u8 a2, .int .u8 a3]) (.agg #[.int .u8 b0, .int .u8 b1, .int .u8 b2, .int .u8 b3])).run Try.prog w = .ok (.bool (!(a0 == b0 && a1 == b1 && a2 == b2 && a3 == b3))) w := by
  rw [run_neq_struct, run_equal4]
  rfl
theorem guard4 : Try.prog.eqGuardType Try.prog.depth 42 = false := by kernel_rfl
theorem wpQuiet_neq4 {ops : Array Oper} {C : World → Prop} {Q : Act → Prop} {a : Act} {o : Oper} {rest : List Oper} {x y : Operand} {a0 a1 a2 a3 b0 b1 b2 b3 : Int} (hw : Region.wanted o (yielded ops a.tmps) = true) (ho : o.op = .binOp .neq 42 x y 42)
    (hx : a.eval x = .agg #[.int .u8 a0, .int .u8 a1, .int .u8 a2, .int .u8 a3]) (hy : a.eval y = .agg #[.int .u8 b0, .int .u8 b1, .int .u8 b2, .int .u8 b3]) {r : Bool} (hr : (!(a0 == b0 && a1 == b1 && a2 == b2 && a3 == b3)) = r) (h : wpQuiet Try.prog ops C Q rest (a.put o.dst (.bool r))) : wpQuiet Try.prog ops C Q (o :: rest) a := by
  subst hr
  unfold wpQuiet
  rw [if_pos hw]
  refine ⟨_, fun w _ => ?_, h⟩
  unfold Oper.quietAt
  have h1 := run_neq4 a0 a1 a2 a3 b0 b1 b2 b3 w
  have h2 := run_eqGuard_agg (w := w) .neq 42 x y #[.int .u8 a0, .int .u8 a1, .int .u8 a2, .int .u8 a3] #[.int .u8 b0, .int .u8 b1, .int .u8 b2, .int .u8 b3] guard4
  simp only [execOp, ho, hx, hy]
  simp [h1, h2, Oper.quietUpon, Result.andThen]
end Go.Proofs.Ytodblepbedhnnaa
