/- lex: a reader; the token at a place. -/
import Derived.Test.YtnkndmmebhajcaaDoorLexRun
import Derived.Test.YtnkndmmebhajcaaDoorLexWords
import Derived.Test.YtnkndmmebhajcaaDoorTokMath
import Derived.Deep.RegionHeld3
import Derived.Deep.QuietTactic
import Derived.BigQuiet
namespace Go.Proofs.YtnkndmmebhajcaaDoor
open Go.RowKit

/-- a reader's words and classes -/
def Reader (w : World) (b : Nat) (v1 v2 v3 v4 v5 : Value) : Prop :=
  WordMap w b ∧ ClassAt w v1 isBlank ∧ ClassAt w v2 isComment ∧ ClassAt w v3 isDig ∧ ClassAt w v4 isLetter ∧ ClassAt w v5 isName
theorem Reader.mono {w w' : World} {b : Nat} {v1 v2 v3 v4 v5 : Value} (h : Reader w b v1 v2 v3 v4 v5) (hb : Below w.heap.size w w') : Reader w' b v1 v2 v3 v4 v5 :=
  ⟨h.1.below hb h.1.1, h.2.1.mono hb, h.2.2.1.mono hb, h.2.2.2.1.mono hb, h.2.2.2.2.1.mono hb, h.2.2.2.2.2.mono hb⟩
theorem ReadAt.drew {w : World} {g : Nat} {s m v1 v2 v3 v4 v5 : Value} (h : ReadAt w g s m v1 v2 v3 v4 v5) : ReadAt w.drew g s m v1 v2 v3 v4 v5 := h
/-- a token comes back -/
def TokPost (t : Tok) (w : World) (e : Ending) (w' : World) : Prop := e = .returned (tokV t) ∧ Below w.heap.size w w'
theorem slice_str (l : List UInt8) (a b : Nat) : (str l).extract a b = str ((l.drop a).take (b - a)) := by
  rw [str_slice]
  congr 1
  rw [List.take_drop]
  by_cases h : a ≤ b
  · rw [show a + (b - a) = b by omega]
  · rw [List.drop_eq_nil_of_le (by rw [List.length_take]; omega), List.drop_eq_nil_of_le (by rw [List.length_take]; omega)]
/-- a place for a token lies in block g, and may be written -/
def RoomAt (w : World) (g : Nat) : Prop :=
  w.cell? ⟨g, 0, none⟩ = some (.int .i64 0) ∧ w.cell? ⟨g, 1, none⟩ = some (.string ⟨#[]⟩) ∧ w.cell? ⟨g, 2, none⟩ = some (.int .i64 0) ∧ w.cell? ⟨g, 3, none⟩ = some (.int .i64 0) ∧
  w.frozen? ⟨g, 0, none⟩ = false ∧ w.frozen? ⟨g, 1, none⟩ = false ∧ w.frozen? ⟨g, 2, none⟩ = false ∧ w.frozen? ⟨g, 3, none⟩ = false
theorem RoomAt.below {w w' : World} {g B : Nat} (h : RoomAt w g) (hb : Below B w w') (hg : g < B) : RoomAt w' g :=
  ⟨(hb.cell (p := ⟨g, 0, none⟩) hg).trans h.1, (hb.cell (p := ⟨g, 1, none⟩) hg).trans h.2.1, (hb.cell (p := ⟨g, 2, none⟩) hg).trans h.2.2.1, (hb.cell (p := ⟨g, 3, none⟩) hg).trans h.2.2.2.1,
   (hb.frozen (p := ⟨g, 0, none⟩) hg).trans h.2.2.2.2.1, (hb.frozen (p := ⟨g, 1, none⟩) hg).trans h.2.2.2.2.2.1, (hb.frozen (p := ⟨g, 2, none⟩) hg).trans h.2.2.2.2.2.2.1, (hb.frozen (p := ⟨g, 3, none⟩) hg).trans h.2.2.2.2.2.2.2⟩
theorem roomAt_new (w : World) (T : TypeId) : RoomAt (w.alloc (.cells #[.int .i64 0, .string ⟨#[]⟩, .int .i64 0, .int .i64 0] T)) w.heap.size :=
  ⟨by rw [World.cell?_alloc_new]; rfl, by rw [World.cell?_alloc_new]; rfl, by rw [World.cell?_alloc_new]; rfl, by rw [World.cell?_alloc_new]; rfl,
   World.frozen?_alloc_new _ _ _ _, World.frozen?_alloc_new _ _ _ _, World.frozen?_alloc_new _ _ _ _, World.frozen?_alloc_new _ _ _ _⟩
theorem RoomAt.drew {w : World} {g : Nat} (h : RoomAt w g) : RoomAt w.drew g := h
theorem below_four {B g : Nat} {w w1 : World} (h : Below B w w1) (hg : B ≤ g) (x0 x1 x2 x3 : Value) : Below B w ((((w1.setCell ⟨g, 0, none⟩ x0).setCell ⟨g, 1, none⟩ x1).setCell ⟨g, 2, none⟩ x2).setCell ⟨g, 3, none⟩ x3) :=
  (((h.setCell (p := ⟨g, 0, none⟩) hg _).setCell (p := ⟨g, 1, none⟩) hg _).setCell (p := ⟨g, 2, none⟩) hg _).setCell (p := ⟨g, 3, none⟩) hg _
set_option maxHeartbeats 4000000 in
theorem name_core (l : List UInt8) (n : Nat) (hn : Hid (l.length = n)) (nl : (n : Int) ≤ 30000) (hs : (str l).size = n) (b : Nat) (v1 v2 v3 v4 v5 : Value) (a : Nat) (ha : a ≤ n) (w : World) (hr : Hid (Reader w b v1 v2 v3 v4 v5))
    (x : Nat) (hx : Hid (runTo isName l a = x)) (hax : a ≤ x) (hxn : x ≤ n) (T : ByteArray) (hT : (str l).extract a x = T) (m : Nat) (hm : T.size = m) (hmE : Hid (m = x - a ∧ T = str ((l.drop a).take m))) (ml : (m : Int) ≤ 30000) (TN : Hid (16 < m → tokAt l a = ⟨0, [], 0, a⟩)) (TW : Hid (m ≤ 16 → tokAt l a = ⟨if wordIn T = true then 3 else 1, (l.drop a).take m, 0, a⟩)) :
    Calls Tryd.prog 43 #[.agg #[.string (str l), .map (some b), v1, v2, v3, v4, v5], .int .i64 (a : Int)] w fun e w' => TokPost (tokAt l a) w e w' := by
  have B1 : Hid (∀ (w' : World), Below w.heap.size w w' → Calls Tryd.prog 42 #[.agg #[.string (str l), .map (some b), v1, v2, v3, v4, v5], .int .i64 (a : Int), v5] w' fun e w'' => NumPost x w' e w'') :=
    Lib.hid fun w' hb => by have := behind_any l (by have := hn.out; omega) (.map (some b)) v1 v2 v3 v4 v5 v5 isName a (by have := hn.out; omega) w' (hr.out.2.2.2.2.2.mono hb); rwa [hx.out] at this
  have hTE := Lib.hid hT
  have x1 : (0 : Int) ≤ (a : Int) := by omega
  have x2 : (a : Int) ≤ (x : Int) := by omega
  have x3 : (x : Int) ≤ (n : Int) := by omega
  have hb0 := Lib.hid (((Below.refl w.heap.size w).alloc (Nat.le_refl _) (.cells #[.string (str l), .map (some b), v1, v2, v3, v4, v5] 64)).alloc (by simp) (.cells #[.int .i64 0, .string ⟨#[]⟩, .int .i64 0, .int .i64 0] 36))
  have hR0 := Lib.hid (ReadAt.drew <| (readAt_new w (.string (str l)) (.map (some b)) v1 v2 v3 v4 v5 64).below ((Below.refl (w.heap.size + 1) _).alloc (by simp) (.cells #[.int .i64 0, .string ⟨#[]⟩, .int .i64 0, .int .i64 0] 36)) (Nat.lt_succ_self _))
  have hM0 := Lib.hid (RoomAt.drew (by have := roomAt_new (w.alloc (.cells #[.string (str l), .map (some b), v1, v2, v3, v4, v5] 64)) 36; rwa [World.size_alloc] at this))
  go_enter Tryd.func43, Tryd.ntmps43
  go_wp2_with fail
  go_region_held3 (fun w' => w'.cell? ⟨w.heap.size, 0, none⟩ = some (.string (str l)) ∧ w'.cell? ⟨w.heap.size, 1, none⟩ = some (.map (some b)) ∧ w'.cell? ⟨w.heap.size, 2, none⟩ = some v1 ∧ w'.cell? ⟨w.heap.size, 3, none⟩ = some v2 ∧ w'.cell? ⟨w.heap.size, 4, none⟩ = some v3 ∧ w'.cell? ⟨w.heap.size, 5, none⟩ = some v4 ∧ w'.cell? ⟨w.heap.size, 6, none⟩ = some v5)
    ((repeat' apply And.intro) <;> first | assumption | go_keep)
    (first | (go_at_call 42; (with_reducible refine (B1.out _ (by exact hb0.out.drew)).mono ?_); rintro e w1 ⟨rfl, hb1⟩; obtain ⟨dS, d1, d2, d3, d4, d5, d6⟩ := hR0.out.below hb1 (by simp; omega); obtain ⟨r0, r1, r2, r3, f0, f1, f2, f3⟩ := hM0.out.below hb1 (by simp); have HB1 := Lib.hid hb1; clear hb1))
  by_cases h16 : (16 : Int) < (m : Int)
  · have q1 : decide ((16 : Int) < (m : Int)) = true := decide_eq_true h16
    go_wp2_with fail
    rw [TN.out (by omega)]
    exact bodyPost_ret (v := tokV ⟨0, [], 0, a⟩) (by simp [results, Tryd.results43, go_sem, r0, r1, r2, r3, tokV, str_nil]) rfl ⟨rfl, below_four (hb0.out.drew.trans (HB1.out.mono (by simp; omega))) (Nat.le_succ _) _ _ _ _⟩
  · have q1 : decide ((16 : Int) < (m : Int)) = false := decide_eq_false h16
    have hbw := Lib.hid (hb0.out.drew.trans (HB1.out.mono (by simp; omega)))
    obtain ⟨hlt, nD, D, hD, hh⟩ := hr.out.1.below hbw.out hr.out.1.1
    have HD := Lib.hid hD
    have HH := Lib.hid (show Maps.has D (.string T.data.toList) = wordIn T from hh T.data.toList)
    have hkey := Lib.hid (key_str T (by unfold maxLen; omega))
    clear hh hD hlt
    have hsz : Hid (w.heap.size + 1 < w1.heap.size) := Lib.hid (by have := HB1.out.size; simp at this; omega)
    have hTW := Lib.hid (TW.out (by omega))
    have hba := Lib.hid (hbw.out.alloc hbw.out.size (.cells #[] 47))
    obtain ⟨s0, s1, s2, s3, g0, g1, g2, g3⟩ := (show RoomAt w1 (w.heap.size + 1) from ⟨r0, r1, r2, r3, f0, f1, f2, f3⟩).below ((Below.refl w1.heap.size w1).alloc (Nat.le_refl _) (.cells #[] 47)) hsz.out
    cases hW : wordIn T with
    | true =>
      rw [hW] at HH
      have HWt := Lib.hid (show tokAt l a = ⟨3, (l.drop a).take m, 0, a⟩ by rw [hTW.out, hW]; rfl)
      clear hW hTW
      go_wp2_with (at_lookup; refine wpList_lookup_own_unit _ rfl _ _ 49 rfl 9 47 str_keyed Tryd.underlying49 (zero_unit _) b nD D rfl HD.out _ _ rfl hkey.out ?_; rw [HH.out])
      rw [HWt.out]
      refine bodyPost_ret (v := tokV ⟨3, (l.drop a).take m, 0, a⟩) (by simp [results, Tryd.results43, go_sem, s0, s1, s2, s3, tokV, hmE.out.2]) rfl ⟨rfl, ?_⟩
      exact below_four hba.out (Nat.le_succ _) _ _ _ _
    | false =>
      rw [hW] at HH
      have HWt := Lib.hid (show tokAt l a = ⟨1, (l.drop a).take m, 0, a⟩ by rw [hTW.out, hW]; rfl)
      clear hW hTW
      go_wp2_with (at_lookup; refine wpList_lookup_own_unit _ rfl _ _ 49 rfl 9 47 str_keyed Tryd.underlying49 (zero_unit _) b nD D rfl HD.out _ _ rfl hkey.out ?_; rw [HH.out])
      rw [HWt.out]
      refine bodyPost_ret (v := tokV ⟨1, (l.drop a).take m, 0, a⟩) (by simp [results, Tryd.results43, go_sem, s0, s1, s2, s3, tokV, hmE.out.2]) rfl ⟨rfl, ?_⟩
      exact below_four hba.out (Nat.le_succ _) _ _ _ _
theorem tokAt_name {l : List UInt8} {a : Nat} {c : UInt8} (hc : l[a]? = some c) (h : isLetter c = true) :
    tokAt l a = if nameN (l.drop a) ≤ 16 then ⟨if wordL ((l.drop a).take (nameN (l.drop a))) = true then 3 else 1, (l.drop a).take (nameN (l.drop a)), 0, a⟩ else ⟨0, [], 0, a⟩ := by
  unfold tokAt oneL
  rw [drop_cons hc]
  simp only [h, if_true]
  split <;> rfl
theorem name_any (l : List UInt8) (nl : l.length ≤ 30000) (b : Nat) (v1 v2 v3 v4 v5 : Value) (a : Nat) (c : UInt8) (hc : l[a]? = some c) (h : isLetter c = true) (w : World) (hr : Reader w b v1 v2 v3 v4 v5) :
    Calls Tryd.prog 43 #[.agg #[.string (str l), .map (some b), v1, v2, v3, v4, v5], .int .i64 (a : Int)] w fun e w' => TokPost (tokAt l a) w e w' := by
  have ha : a < l.length := (List.getElem?_eq_some_iff.1 hc).1
  have ht := tokAt_name hc h
  have hl : ((l.drop a).take (nameN (l.drop a))).length = nameN (l.drop a) := by rw [List.length_take]; have := nameN_le (l.drop a); omega
  have hle := runTo_le isName (Nat.le_of_lt ha)
  have e : (str l).extract a (runTo isName l a) = str ((l.drop a).take (nameN (l.drop a))) := by
    rw [slice_str, runTo_name]; congr 2; omega
  refine name_core l _ (Lib.hid rfl) (by omega) (str_size l) b v1 v2 v3 v4 v5 a (by omega) w (Lib.hid hr) _ (Lib.hid rfl) (runTo_ge _ _ _) hle _ e (nameN (l.drop a)) (by rw [str_size, hl]) (Lib.hid ⟨by rw [runTo_name]; omega, rfl⟩) (by have := nameN_le (l.drop a); rw [List.length_drop] at this; omega) (Lib.hid fun hh => ?_) (Lib.hid fun hh => ?_)
  · rw [ht, if_neg (by omega)]
  · rw [ht, if_pos hh]; unfold wordIn; rw [str_data]
end Go.Proofs.YtnkndmmebhajcaaDoor
