/- Strings of bytes, by lists; small words of a walk. -/
import Derived.Test.YtnkndmmebhajcaaDoorStrKit
import Derived.Test.YtnkndmmebhajcaaDoorLexMath
import Derived.Test.YtnkndmmebhajcaaDoorRow
import Derived.Test.YtnkndmmebhajcaaDoorShelf
import Derived.Outline
import Derived.Lib.Hide
import Derived.Lib.Strings
import Derived.Below
import Derived.Deep.Draws
import Derived.WalkSpells
import Derived.WalkLawsBesides
namespace Go.Proofs.YtnkndmmebhajcaaDoor
open Go.RowKit

def litLen : Value → Nat | .int _ n => n.toNat | _ => 0
theorem str_data (l : List UInt8) : (str l).data.toList = l := by unfold str; simp
theorem str_of (s : ByteArray) : s = str s.data.toList := by unfold str; simp
theorem str_nil_size : (str []).size = 0 := rfl
theorem str_nil_empty : (str []).toList.isEmpty = true := by decide +kernel
theorem str_at (l : List UInt8) {j : Nat} {c : UInt8} (h : l[j]? = some c) (hj : j < (str l).size) : (str l)[j]'hj = c := by
  obtain ⟨h1, h2⟩ := List.getElem?_eq_some_iff.1 h
  rw [← h2]; rfl
theorem str_toList (l : List UInt8) : (str l).toList = l := by rw [Lib.toList_data]; rfl
theorem str_some_empty (l : List UInt8) (h : 0 < l.length) : (str l).toList.isEmpty = false := by
  rw [str_toList]; cases l with
  | nil => simp at h
  | cons x r => rfl
theorem str_extract (l : List UInt8) (j : Nat) : (str l).extract 0 j = str (l.take j) := by rw [Lib.extract_eq]; rfl
theorem str_slice (l : List UInt8) (i j : Nat) : (str l).extract i j = str ((l.take j).drop i) := by
  rw [Lib.extract_eq, str_data]
  unfold str
  rw [List.drop_take]
/-- a text that is returned -/
def StrPost (l : List UInt8) (w : World) (e : Ending) (w' : World) : Prop := e = .returned (.string (str l)) ∧ Below w.heap.size w w'
theorem below_al {a w : World} (h : Below a.heap.size a w) (o : Obj) : Below a.heap.size a (w.alloc o) := h.alloc h.size o
theorem below_dr {B : Nat} {a w : World} (h : Below B a w) (n : Nat) : Below B a (w.drewN n) := ⟨h.os, h.tape, h.output, h.size, h.block⟩
end Go.Proofs.YtnkndmmebhajcaaDoor
