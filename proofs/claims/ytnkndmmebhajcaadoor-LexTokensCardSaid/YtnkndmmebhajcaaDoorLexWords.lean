/- lex: the words, as a map. -/
import Derived.Test.YtnkndmmebhajcaaDoorLexKit
import Derived.Maps.OwnSet
namespace Go.Proofs.YtnkndmmebhajcaaDoor
open Go.RowKit Go.Maps

/-- block b is a map that has just these keys -/
def KeyMap (w : World) (b : Nat) (L : List (List UInt8)) : Prop := ∃ D : DataW Unit, w.ownsMap Tryd.prog 9 unitElem b L.length D ∧ ∀ x, Maps.has D (.string x) = L.contains x
/-- block b is the map of the words -/
def WordMap (w : World) (b : Nat) : Prop := b < w.heap.size ∧ ∃ (n : Nat) (D : DataW Unit), w.ownsMap Tryd.prog 9 unitElem b n D ∧ ∀ x, Maps.has D (.string x) = wordL x
theorem key_str (S : ByteArray) (h : S.size ≤ maxLen) : keyOf Tryd.prog 9 (.string S) = some (.string S.data.toList) := by
  simp [keyOf, mapKey, Tryd.underlying9, h]
theorem str_keyed : Keyed Tryd.prog 9 := string_keyed Tryd.underlying9
theorem zero_unit (w : World) : (zeroValue 47).run Tryd.prog w = .ok (.agg #[]) w := by kernel_rfl
theorem keyMap_made (w : World) : KeyMap (w.alloc (.map #[] 0)) w.heap.size [] := ⟨_, World.ownsMap_made _ _ _ _, fun _ => rfl⟩
theorem contains_back (l : List (List UInt8)) (x : List UInt8) : l.reverse.contains x = l.contains x := by rw [Bool.eq_iff_iff]; simp
theorem words_back : wordsL.reverse = [[98, 111, 111, 108], [102, 105, 120], [115, 101, 116], [114, 101, 116, 117, 114, 110], [115, 113, 114, 116], [105, 115], [111, 114], [97, 110, 100], [110, 111, 116], [102, 97, 108, 115, 101], [116, 114, 117, 101], [102, 98, 121], [112, 114, 101], [101, 108, 115, 101], [116, 104, 101, 110], [105, 102], [111, 117, 116], [103, 111, 116, 111], [102, 114, 111, 109], [109, 111, 100, 101], [109, 101, 109], [117, 112], [111, 110], [114, 101, 115, 101, 116], [105, 110, 105, 116], [100, 101, 114], [108, 101, 116], [104, 121, 98, 114, 105, 100], [110, 111, 100, 101], [102, 117, 110]] := rfl
theorem keyMap_put {w : World} {b : Nat} {D : DataW Unit} {L : List (List UInt8)} {n : Nat} (hD : w.ownsMap Tryd.prog 9 unitElem b n D) (h : ∀ x, Maps.has D (.string x) = L.contains x) (y x : List UInt8) (d : DataW Unit) :
    Maps.has (D.put (.string y) d) (.string x) = (y :: L).contains x := by
  by_cases e : x = y
  · subst e
    rw [has_put_same hD.isMap (by unfold WideAt.IsKeyLit; trivial)]
    simp
  · rw [has_put_other (by intro e2; cases e2; exact e rfl), h, List.contains_cons, beq_false_of_ne e, Bool.false_or]
theorem wpList_insert_key {ops : Array Oper} {rest : List Oper} {o : Oper} {a : Act} {Q : Exit → Act → World → Prop} (w : World) (hg : o.guard = none) (m x v : Operand)
    (hop : o.op = Op.insert 49 m x v) (b : Nat) (L : List (List UInt8)) (hL : L.length < 1000) (h : KeyMap w b L) (S : ByteArray) (hS : S.size ≤ 1000) (hm : a.eval m = .map (some b)) (hx : a.eval x = .string S) (hv : a.eval v = .agg #[])
    (hK : ∀ w', KeyMap w' b (S.data.toList :: L) → w.grownBy w' (some b) → wpList Tryd.prog ops Q rest (a.put o.dst undef) w') : wpList Tryd.prog ops Q (o :: rest) a w := by
  obtain ⟨D, hD, hh⟩ := h
  refine wpList_plain hg fun K' hK' => ?_
  obtain ⟨w', hrun, r1, r2⟩ := hD.update str_keyed Tryd.underlying49 (by unfold maxLen; omega) (key_str S (by unfold maxLen; omega)) (unitElem_mk (H := Unit))
  unfold Oper.wp
  simp [execOp, hop, hm, hx, hv, hrun, Result.andThen]
  exact hK' _ _ (hK w' ⟨_, r1, fun y => keyMap_put hD hh _ y _⟩ r2)
set_option maxHeartbeats 8000000 in
set_option maxRecDepth 100000 in
theorem words_any (w : World) : Calls Tryd.prog 22 #[] w fun e w' => e = .returned (.map (some w.heap.size)) ∧ WordMap w' w.heap.size ∧ Below w.heap.size w w' := by
  have hmm := @run_makeMap Tryd.prog
  have hM := Lib.hid (keyMap_made w)
  have hB := Lib.hid ((Below.refl w.heap.size w).alloc (Nat.le_refl _) (.map #[] 0))
  go_enter Tryd.func22, Tryd.ntmps22
  go_wp2_with (refine wpList_insert_key _ rfl _ _ _ rfl w.heap.size _ ?_ hM.out _ ?_ rfl rfl rfl ?_; (focus (decide)); (focus (decide)); intro w1 hM1 hg1; replace hM := Lib.hid hM1; replace hB := Lib.hid (hB.out.grown hg1 hB.out.size (fun j e => by cases e; exact Nat.le_refl _)); clear hM1 hg1)
  go_ret
  refine ⟨rfl, ⟨?_, ?_⟩, hB.out⟩
  · obtain ⟨D, h1, h2⟩ := hM.out
    exact h1.lt
  · obtain ⟨D, h1, h2⟩ := hM.out
    exact ⟨_, D, h1, fun x => by unfold wordL; rw [h2, ← contains_back, ← words_back]; rfl⟩
theorem WordMap.below {w w' : World} {b B : Nat} (h : WordMap w b) (hb : Below B w w') (hB : b < B) : WordMap w' b := by
  obtain ⟨hlt, n, D, hD, hh⟩ := h
  refine ⟨Nat.lt_of_lt_of_le hlt hb.size, n, D, ?_, hh⟩
  obtain ⟨es, clock, h1, h2, h3, h4⟩ := hD
  exact ⟨es, clock, (hb.block b hB).trans h1, h2, h3, h4⟩
/-- is a text a word? -/
def wordIn (S : ByteArray) : Bool := wordL S.data.toList
set_option maxHeartbeats 1000000 in
theorem word_lex (S : ByteArray) (hS : S.size ≤ maxLen) (w : World) : Calls Tryd.prog 13 #[.string S] w fun e w' => e = .returned (.bool (wordIn S)) ∧ Below w.heap.size w w' := by
  have hkey := Lib.hid (key_str S hS)
  obtain ⟨R, hR⟩ : ∃ R, R = wordIn S := ⟨_, rfl⟩
  rw [← hR]
  have HR := Lib.hid hR
  clear hR
  go_enter Tryd.func13, Tryd.ntmps13
  go_wp2_with (first | (go_at_call 22; ((with_reducible refine (words_any w).mono ?_); rintro e w1 ⟨rfl, ⟨hlt, n, D, hD, hh⟩, hb⟩; have HD := Lib.hid hD; have HB := Lib.hid hb; have HH := Lib.hid (hh S.data.toList); clear hD hh hb hlt)) | (at_lookup; refine wpList_lookup_own_unit _ rfl _ _ 49 rfl 9 47 str_keyed Tryd.underlying49 (zero_unit _) w.heap.size n D rfl HD.out _ _ rfl hkey.out ?_; rw [HH.out, show wordL S.data.toList = R from HR.out.symm]))
  go_ret
  exact ⟨rfl, HB.out.alloc HB.out.size _⟩
end Go.Proofs.YtnkndmmebhajcaaDoor
