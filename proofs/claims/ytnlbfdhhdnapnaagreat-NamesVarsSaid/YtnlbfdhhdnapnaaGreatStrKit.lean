/- A byte made a string: 'string([]byte{x})'. -/
import Derived.Test.YtnlbfdhhdnapnaaGreatRows
import Derived.Test.YtnlbfdhhdnapnaaGreatDigMath
import Derived.WalkKit
import Derived.Laws.BytesString
namespace Go.Proofs.YtnlbfdhhdnapnaaGreat
open Go.RowKit

/-- a string of these bytes -/
def str (l : List UInt8) : ByteArray := ⟨l.toArray⟩
theorem str_cat (a b : List UInt8) : str a ++ str b = str (a ++ b) := by unfold str; apply ByteArray.ext; simp
theorem str_nil : str [] = ⟨#[]⟩ := rfl
theorem str_size (l : List UInt8) : (str l).size = l.length := by unfold str; simp [ByteArray.size]
def byteOf (x : Int) : UInt8 := UInt8.ofNat x.toNat
theorem byteOf_dg (n : Nat) : byteOf (48 + (n : Int)) = dg n := by unfold byteOf dg; congr 1
theorem byte_str (w : World) (x : Int) : (convert 170 9 (.slice (some ⟨w.heap.size, 0, none⟩) 1 1)).run Tryz.prog (w.alloc (.cells #[.int .u8 x] 5)) =
    .ok (.string (str [byteOf x])) (w.alloc (.cells #[.int .u8 x] 5)) := by
  rw [run_convert_bytes_string _ _ _ 5 _ _ _ Tryz.underlying170 Tryz.underlying5 Tryz.underlying9, run_bytesToString _ _ _ _ [x]]
  · rfl
  · simp [loadCells, go_sem]
theorem wpList_byte {ops : Array Oper} {rest : List Oper} {o : Oper} {a : Act} {Q : Exit → Act → World → Prop} (w : World) (hgd : o.guard = none) (t : Operand)
    (ho : o.op = .convert 170 9 t) (x : Int) (b : UInt8) (hb : byteOf x = b) (hx : a.eval t = .slice (some ⟨w.heap.size, 0, none⟩) 1 1)
    (h : wpList Tryz.prog ops Q rest (a.put o.dst (.string (str [b]))) (w.alloc (.cells #[.int .u8 x] 5))) : wpList Tryz.prog ops Q (o :: rest) a (w.alloc (.cells #[.int .u8 x] 5)) := by
  subst hb
  refine wpList_plain hgd fun K hK => ?_
  unfold Oper.wp
  simp [execOp, ho, hx, byte_str, Result.andThen]
  exact hK _ _ h
theorem wpList_cat {ops : Array Oper} {rest : List Oper} {o : Oper} {a : Act} {Q : Exit → Act → World → Prop} (w : World) (hgd : o.guard = none) (s t : Operand)
    (ho : o.op = .binOp .add 9 s t 9) (l m : List UInt8) (hs : a.eval s = .string (str l)) (ht : a.eval t = .string (str m)) (hl : l.length + m.length ≤ 9223372036854775807)
    (h : wpList Tryz.prog ops Q rest (a.put o.dst (.string (str (l ++ m)))) w) : wpList Tryz.prog ops Q (o :: rest) a w := by
  refine wpList_plain hgd fun K hK => ?_
  unfold Oper.wp
  have hrun := run_string_add_sum (P := Tryz.prog) (w := w) (str l) (str m) (by rw [str_size, str_size]; omega)
  rw [str_cat] at hrun
  simp only [execOp, ho, hs, ht]
  simp [eqGuard, binOp_string_add, hrun, Result.andThen]
  exact hK _ _ h
end Go.Proofs.YtnlbfdhhdnapnaaGreat
