/- lex: the sign at a place; the table of signs. -/
import Derived.Test.YtnkndmmebhajcaaDoorLexNum
import Derived.Laws.Rows
import Derived.LaidLaws
import Derived.ChangeArms
import Derived.Lib.LaidTab
namespace Go.Proofs.YtnkndmmebhajcaaDoor
open Go.RowKit

def signCells : Array Value := (signsL.map fun s => Value.string (str s)).toArray
/-- the table of signs lies as the program lays it -/
def Signs (w : World) : Prop := ∃ t fr, w.heap[1]? = some (.cells signCells t fr)
theorem Signs.below {w w' : World} (h : Signs w) (hb : Below w.heap.size w w') : Signs w' := by
  obtain ⟨t, fr, h⟩ := h
  exact ⟨t, fr, (hb.block _ (Array.getElem?_eq_some_iff.1 h).1).trans h⟩
theorem sign_index (w : World) (j : Nat) (hj : j < 17) (s : List UInt8) (hs : signsL[j]? = some s) : (Instr.index 84 (.agg signCells) (.int .i64 (j : Int))).run Tryd.prog w = .ok (.string (str s)) w := by
  have key : (Instr.index 84 (.agg signCells) (.int .i64 (j : Int))).run Tryd.prog w = .ok (.string (str ((signsL[j]?).getD []))) w := by
    clear hs
    rcases j with _ | _ | _ | _ | _ | _ | _ | _ | _ | _ | _ | _ | _ | _ | _ | _ | _ | j
    all_goals first | omega | kernel_rfl
  rw [hs] at key
  exact key
theorem signs_size : (Tryd.prog.info? 84).map (·.size) = some signCells.size := by kernel_rfl
theorem under_signs : ∃ n e, Tryd.prog.underlying 84 = some (.array n e) := ⟨17, 9, Tryd.underlying84⟩

theorem no_prefix {d : List UInt8} {L : List (List UInt8)} (hno : L.all (fun s => !s.isPrefixOf d) = true) : L.find? (fun s => s.isPrefixOf d) = none := List.find?_eq_none.2 fun x hx => by
  have h : (!x.isPrefixOf d) = true := List.all_eq_true.1 hno x hx
  intro h2
  have h2' : x.isPrefixOf d = true := h2
  rw [h2'] at h
  exact absurd h (by decide)
theorem sign_hit {d s : List UInt8} {j : Nat} (hs : signsL[j]? = some s) (hno : (signsL.take j).all (fun s => !s.isPrefixOf d) = true) (hp : s.isPrefixOf d = true) : signOf d = some s := by
  have e : signsL = signsL.take j ++ s :: signsL.drop (j + 1) := by
    obtain ⟨hj, rfl⟩ := List.getElem?_eq_some_iff.1 hs
    rw [← List.drop_eq_getElem_cons hj, List.take_append_drop]
  have h : signOf d = (signsL.take j ++ s :: signsL.drop (j + 1)).find? (fun s => s.isPrefixOf d) := by unfold signOf; exact congrArg (fun L : List (List UInt8) => List.find? (fun s : List UInt8 => List.isPrefixOf s d) L) e
  rw [h, List.find?_append, no_prefix hno, Option.none_or]
  exact List.find?_cons_of_pos hp
theorem sign_none {d : List UInt8} (hno : signsL.all (fun s => !s.isPrefixOf d) = true) : signOf d = none := no_prefix hno
theorem all_take_next {α : Type} (f : α → Bool) {l : List α} {j : Nat} {x : α} (h : l[j]? = some x) (ha : (l.take j).all f = true) (hx : f x = true) : (l.take (j + 1)).all f = true := by
  obtain ⟨h1, rfl⟩ := List.getElem?_eq_some_iff.1 h
  rw [List.take_succ_eq_append_getElem h1, List.all_append, ha]
  simp [hx]
theorem prefix_take {d s : List UInt8} (h : s.isPrefixOf d = true) : d.take s.length = s := (List.prefix_iff_eq_take.1 (List.isPrefixOf_iff_prefix.1 h)).symm
set_option maxHeartbeats 4000000 in
theorem sign_core (l : List UInt8) (n : Nat) (hn : Hid (l.length = n)) (nl : (n : Int) ≤ 30000) (hs : (str l).size = n) (m v1 v2 v3 v4 v5 : Value) (a : Nat) (hla : (a : Int) ≤ (n : Int)) (w : World) (hS : Hid (Signs w))
    (D : ByteArray) (hD : (str l).extract a n = D) (hDE : Hid (D = str (l.drop a))) (tk : Tok) (hN : Hid (signOf (l.drop a) = none → tk = ⟨0, [], 0, a⟩)) (hY : Hid (∀ s, signOf (l.drop a) = some s → tk = ⟨4, s, 0, a⟩)) :
    Calls Tryd.prog 45 #[.agg #[.string (str l), m, v1, v2, v3, v4, v5], .int .i64 (a : Int)] w fun e w' => TokPost tk w e w' := by
  have hb0 := Lib.hid (((Below.refl w.heap.size w).alloc (Nat.le_refl _) (.cells #[.string (str l), m, v1, v2, v3, v4, v5] 64)).alloc (by simp) (.cells #[.int .i64 0, .string ⟨#[]⟩, .int .i64 0, .int .i64 0] 36))
  obtain ⟨T, fr, hT⟩ := hS.out.below hb0.out
  have HT := Lib.hid hT
  clear hT hS
  obtain ⟨cs, hcs⟩ : ∃ cs, cs = signCells := ⟨_, rfl⟩
  have HX : Hid (∀ (w : World) (j : Nat), j < 17 → ∀ s, signsL[j]? = some s → (Instr.index 84 (.agg cs) (.int .i64 (j : Int))).run Tryd.prog w = .ok (.string (str s)) w) := Lib.hid fun w j hj s h => by rw [hcs]; exact sign_index w j hj s h
  have hsz := Lib.hid signs_size
  rw [← hcs] at hsz HT
  clear hcs
  go_enter Tryd.func45, Tryd.ntmps45
  go_wp2_with (refine wpList_load_row rfl 84 _ rfl 1 rfl T cs fr _ HT.out Tryd.underlying84 rfl hsz.out ?_)
  have hM0 := Lib.hid (show RoomAt ((w.alloc (.cells #[.string (str l), m, v1, v2, v3, v4, v5] 64)).alloc (.cells #[.int .i64 0, .string ⟨#[]⟩, .int .i64 0, .int .i64 0] 36)) (w.heap.size + 1) by have := roomAt_new (w.alloc (.cells #[.string (str l), m, v1, v2, v3, v4, v5] 64)) 36; rwa [World.size_alloc] at this)
  go_loop [8] (fun i => ∃ j : Nat, j ≤ 17 ∧ Hid ((signsL.take j).all (fun s => !s.isPrefixOf (l.drop a)) = true) ∧ i = .int .i64 j) (fun i => 17 - litLen i)
  case atStart => exact ⟨0, by omega, Lib.hid rfl, rfl⟩
  case round =>
    obtain ⟨j, hj, hno, rfl⟩ := hrel
    rcases Nat.lt_or_ge j 17 with hlt | hge
    · have q3 : decide ((j : Int) < 17) = true := decide_eq_true (by omega)
      obtain ⟨s, hsj⟩ : ∃ s, signsL[j]? = some s := ⟨signsL[j]'(by show j < 17; exact hlt), List.getElem?_eq_getElem _⟩
      have hix := fun w => HX.out w j hlt s hsj
      have HJ := Lib.hid hsj
      obtain ⟨k, hk⟩ : ∃ k, k = s.length := ⟨_, rfl⟩
      have hks : (str s).size = k := by rw [str_size, hk]
      have HK := Lib.hid hk
      have hk2 := signs_len (List.mem_of_getElem? hsj)
      rw [← hk] at hk2
      have kl : (k : Int) ≤ 2 := by omega
      have hP := fun w => Tryd.strings_HasPrefix D (str s) w
      rw [hDE.out, str_data, str_data, ← hDE.out] at hP
      clear hsj hk hk2
      obtain ⟨b, hb⟩ : ∃ b, b = s.isPrefixOf (l.drop a) := ⟨_, rfl⟩
      have hP2 := Lib.hid (show ∀ w, Calls Tryd.prog 57 #[.string D, .string (str s)] w fun e w' => e = .returned (.bool b) ∧ w' = w by rw [hb]; exact hP)
      have HB := Lib.hid hb
      clear hP hb
      cases b with
      | true =>
        have hpl := Lib.hid (List.isPrefixOf_iff_prefix.1 HB.out.symm).length_le
        have hpt := Lib.hid (prefix_take HB.out.symm)
        obtain ⟨y, hy⟩ : ∃ y, y = a + k := ⟨_, rfl⟩
        have e1 : (a : Int) + (k : Int) = (y : Int) := by omega
        have yl : (y : Int) ≤ (n : Int) := by have h := hpl.out; rw [List.length_drop, hn.out, ← HK.out] at h; omega
        have al : (a : Int) ≤ (y : Int) := by omega
        have hex : (str l).extract a y = str s := by rw [slice_str]; congr 1; rw [hy, show a + k - a = k by omega, HK.out]; exact hpt.out
        have HT2 := Lib.hid (hY.out s (sign_hit HJ.out hno.out HB.out.symm))
        clear hy
        go_wp2_with (go_at_call 57; ((with_reducible refine (hP2.out _).mono ?_); rintro e w1 ⟨rfl, rfl⟩))
        rw [HT2.out]
        exact bodyPost_ret (v := tokV ⟨4, s, 0, a⟩) (by simp [results, Tryd.results45, go_sem, tokV]) rfl ⟨rfl, ((Below.refl w.heap.size w).alloc (Nat.le_refl _) _).alloc (by simp) _⟩
      | false =>
        go_wp2_with (go_at_call 57; ((with_reducible refine (hP2.out _).mono ?_); rintro e w1 ⟨rfl, rfl⟩))
        exact ⟨⟨j + 1, by omega, Lib.hid (all_take_next _ HJ.out hno.out (by rw [← HB.out]; rfl)), rfl⟩, by simp [litLen]; omega⟩
    · have q3 : decide ((j : Int) < 17) = false := decide_eq_false (by omega)
      have HT2 := Lib.hid (hN.out (sign_none (by have := hno.out; rwa [List.take_of_length_le (by show 17 ≤ j; exact hge)] at this)))
      go_wp2_with fail
      rw [HT2.out]
      exact bodyPost_ret (v := tokV ⟨0, [], 0, a⟩) (by simp [results, Tryd.results45, go_sem, tokV, str_nil]) rfl ⟨rfl, ((Below.refl w.heap.size w).alloc (Nat.le_refl _) _).alloc (by simp) _⟩
theorem tokAt_num {l : List UInt8} {a : Nat} {c : UInt8} (hc : l[a]? = some c) (h1 : isLetter c = false) (h2 : isDig c = true) :
    tokAt l a = if (parseL ((l.drop a).take (numN (l.drop a)))).2 = true then ⟨2, (l.drop a).take (numN (l.drop a)), ((parseL ((l.drop a).take (numN (l.drop a)))).1 : Int), a⟩ else ⟨0, [], 0, a⟩ := by
  unfold tokAt oneL
  rw [drop_cons hc]
  simp only [h1, h2, if_true, Bool.false_eq_true, if_false]
  split <;> rfl
theorem tokAt_sign {l : List UInt8} {a : Nat} {c : UInt8} (hc : l[a]? = some c) (h1 : isLetter c = false) (h2 : isDig c = false) :
    tokAt l a = tokOf ((signOf (l.drop a)).map fun s => (4, s.length, 0)) (l.drop a) a := by
  unfold tokAt oneL
  rw [drop_cons hc]
  simp only [h1, h2, Bool.false_eq_true, if_false]
theorem number_any (l : List UInt8) (nl : l.length ≤ 30000) (m v1 v2 v3 v4 v5 : Value) (a : Nat) (c : UInt8) (hc : l[a]? = some c) (h1 : isLetter c = false) (h2 : isDig c = true) (w : World) (hr : ClassAt w v3 isDig) :
    Calls Tryd.prog 44 #[.agg #[.string (str l), m, v1, v2, v3, v4, v5], .int .i64 (a : Int)] w fun e w' => TokPost (tokAt l a) w e w' := by
  have ha : a < l.length := (List.getElem?_eq_some_iff.1 hc).1
  have e : (str l).extract a (numTo l a) = str ((l.drop a).take (numN (l.drop a))) := by
    rw [slice_str]; congr 2; unfold numTo; omega
  have hlen : ((l.drop a).take (numN (l.drop a))).length ≤ 30000 := by rw [List.length_take, List.length_drop]; omega
  refine number_core l _ (Lib.hid rfl) (by omega) (str_size l) m v1 v2 v3 v4 v5 a (by omega) w (Lib.hid hr) _ (Lib.hid rfl) (by unfold numTo; omega) (numTo_le (by omega)) _ e _ _ (Lib.hid fun w => parse_dec _ w (by omega)) _ (Lib.hid rfl) _ (Lib.hid (tokAt_num hc h1 h2))
theorem sign_any (l : List UInt8) (nl : l.length ≤ 30000) (m v1 v2 v3 v4 v5 : Value) (a : Nat) (c : UInt8) (hc : l[a]? = some c) (h1 : isLetter c = false) (h2 : isDig c = false) (w : World) (hS : Signs w) :
    Calls Tryd.prog 45 #[.agg #[.string (str l), m, v1, v2, v3, v4, v5], .int .i64 (a : Int)] w fun e w' => TokPost (tokAt l a) w e w' := by
  have ha : a < l.length := (List.getElem?_eq_some_iff.1 hc).1
  have ht := tokAt_sign hc h1 h2
  refine sign_core l _ (Lib.hid rfl) (by omega) (str_size l) m v1 v2 v3 v4 v5 a (by omega) w (Lib.hid hS) _ (by rw [slice_str, List.take_of_length_le (by rw [List.length_drop]; omega)]) (Lib.hid rfl) _ (Lib.hid fun h => by rw [ht, h]; rfl) (Lib.hid fun s h => by rw [ht, h]; exact congrArg (Tok.mk 4 · 0 a) (prefix_take (signOf_mem h).2))
end Go.Proofs.YtnkndmmebhajcaaDoor
