/- The reference's Great; the document's examples. -/
import Derived.Test.YtodblepbedhnnaaCoBytes
import Derived.Laws.IdiomStrings
namespace Go.Proofs.Ytodblepbedhnnaa
open Go.RowKit Co

attribute [local go_sem] Oper.semAt_some

set_option maxHeartbeats 8000000 in
set_option maxRecDepth 100000 in
theorem great_a (o1 o2 o3 o4 q1 q2 q3 q4 : Option Addr) (n1 n2 n3 n4 m1 m2 m3 m4 c1 c2 c3 c4 d1 d2 d3 d4 : Nat) (x y : Int) (h1 : (n1 : Int) ≤ 140737488351232) (h2 : (n2 : Int) ≤ 140737488351232) (h3 : (n3 : Int) ≤ 140737488351232) (h4 : (n4 : Int) ≤ 140737488351232) (_k1 : (m1 : Int) ≤ 140737488351232) (_k2 : (m2 : Int) ≤ 140737488351232) (_k3 : (m3 : Int) ≤ 140737488351232) (_k4 : (m4 : Int) ≤ 140737488351232) (hs : 400 < ((n1 : Int) + n2 + n3 + n4)) (w : World) : Calls Try.prog 7 #[.agg #[.slice o1 n1 c1, .slice o2 n2 c2, .slice o3 n3 c3, .slice o4 n4 c4, .int .i64 x, .int .i64 y, .slice q1 m1 d1, .slice q2 m2 d2, .slice q3 m3 d3, .slice q4 m4 d4]] w fun e w' => e = .returned (.bool true) ∧ Below w.heap.size w w' := by
  have g1 : decide ((400 : Int) < ((n1 : Int) + n2 + n3 + n4)) = true := decide_eq_true hs
  go_enter Try.func7, Try.ntmps7
  go_wp2_with fail
  go_ret
  exact ⟨rfl, (Below.refl _ _).alloc (Nat.le_refl _) _⟩
set_option maxHeartbeats 8000000 in
set_option maxRecDepth 100000 in
theorem great_b (o1 o2 o3 o4 q1 q2 q3 q4 : Option Addr) (n1 n2 n3 n4 m1 m2 m3 m4 c1 c2 c3 c4 d1 d2 d3 d4 : Nat) (x y : Int) (h1 : (n1 : Int) ≤ 140737488351232) (h2 : (n2 : Int) ≤ 140737488351232) (h3 : (n3 : Int) ≤ 140737488351232) (h4 : (n4 : Int) ≤ 140737488351232) (k1 : (m1 : Int) ≤ 140737488351232) (k2 : (m2 : Int) ≤ 140737488351232) (k3 : (m3 : Int) ≤ 140737488351232) (k4 : (m4 : Int) ≤ 140737488351232) (hs : ((n1 : Int) + n2 + n3 + n4) ≤ 400) (ht : 3000 < ((m1 : Int) + m2 + m3 + m4)) (w : World) : Calls Try.prog 7 #[.agg #[.slice o1 n1 c1, .slice o2 n2 c2, .slice o3 n3 c3, .slice o4 n4 c4, .int .i64 x, .int .i64 y, .slice q1 m1 d1, .slice q2 m2 d2, .slice q3 m3 d3, .slice q4 m4 d4]] w fun e w' => e = .returned (.bool true) ∧ Below w.heap.size w w' := by
  have g1 : decide ((400 : Int) < ((n1 : Int) + n2 + n3 + n4)) = false := decide_eq_false (by omega)
  have g2 : decide ((3000 : Int) < ((m1 : Int) + m2 + m3 + m4)) = true := decide_eq_true ht
  go_enter Try.func7, Try.ntmps7
  go_wp2_with fail
  go_ret
  exact ⟨rfl, (Below.refl _ _).alloc (Nat.le_refl _) _⟩
set_option maxHeartbeats 8000000 in
set_option maxRecDepth 100000 in
theorem great_c (o1 o2 o3 o4 q1 q2 q3 q4 : Option Addr) (n1 n2 n3 n4 m1 m2 m3 m4 c1 c2 c3 c4 d1 d2 d3 d4 : Nat) (x y : Int) (h1 : (n1 : Int) ≤ 140737488351232) (h2 : (n2 : Int) ≤ 140737488351232) (h3 : (n3 : Int) ≤ 140737488351232) (h4 : (n4 : Int) ≤ 140737488351232) (k1 : (m1 : Int) ≤ 140737488351232) (k2 : (m2 : Int) ≤ 140737488351232) (k3 : (m3 : Int) ≤ 140737488351232) (k4 : (m4 : Int) ≤ 140737488351232) (hs : ((n1 : Int) + n2 + n3 + n4) ≤ 400) (ht : ((m1 : Int) + m2 + m3 + m4) ≤ 3000) (w : World) : Calls Try.prog 7 #[.agg #[.slice o1 n1 c1, .slice o2 n2 c2, .slice o3 n3 c3, .slice o4 n4 c4, .int .i64 x, .int .i64 y, .slice q1 m1 d1, .slice q2 m2 d2, .slice q3 m3 d3, .slice q4 m4 d4]] w fun e w' => e = .returned (.bool false) ∧ Below w.heap.size w w' := by
  have g1 : decide ((400 : Int) < ((n1 : Int) + n2 + n3 + n4)) = false := decide_eq_false (by omega)
  have g2 : decide ((3000 : Int) < ((m1 : Int) + m2 + m3 + m4)) = false := decide_eq_false (by omega)
  go_enter Try.func7, Try.ntmps7
  go_wp2_with fail
  go_ret
  exact ⟨rfl, (Below.refl _ _).alloc (Nat.le_refl _) _⟩
theorem great_any (o : Ob) (s1 s2 s3 s4 t1 t2 t3 t4 : Value) (w : World) (hO : ObAt w s1 s2 s3 s4 t1 t2 t3 t4 o) (hl : ObLen o) :
    Calls Try.prog 7 #[.agg (obCells s1 s2 s3 s4 o.cross o.flags t1 t2 t3 t4)] w fun e w' => ∃ g : Bool, e = .returned (.bool g) ∧ (g = false → ObSmall o) ∧ Below w.heap.size w w' := by
  obtain ⟨l1, l2, l3, l4, l5, l6, l7, l8⟩ := hl
  unfold reachN at l1 l2 l3 l4 l5 l6 l7 l8
  obtain ⟨_, _, _, _, rfl, _⟩ := hO.inn
  obtain ⟨_, _, _, _, rfl, _⟩ := hO.out
  obtain ⟨_, _, _, _, rfl, _⟩ := hO.state
  obtain ⟨_, _, _, _, rfl, _⟩ := hO.mem
  obtain ⟨_, _, _, _, rfl, _⟩ := hO.deriv
  obtain ⟨_, _, _, _, rfl, _⟩ := hO.zero
  obtain ⟨_, _, _, _, rfl, _⟩ := hO.step
  obtain ⟨_, _, _, _, rfl, _⟩ := hO.at_
  unfold obCells
  rcases Int.lt_or_le 400 ((o.inn.length : Int) + o.out.length + o.state.length + o.mem.length) with h1 | h1
  · exact (great_a _ _ _ _ _ _ _ _ _ _ _ _ _ _ _ _ _ _ _ _ _ _ _ _ _ _ (by omega) (by omega) (by omega) (by omega) (by omega) (by omega) (by omega) (by omega) h1 w).mono fun e w' h => ⟨true, h.1, (fun h => by cases h), h.2⟩
  · rcases Int.lt_or_le 3000 ((o.deriv.length : Int) + o.zero.length + o.step.length + o.at_.length) with h2 | h2
    · exact (great_b _ _ _ _ _ _ _ _ _ _ _ _ _ _ _ _ _ _ _ _ _ _ _ _ _ _ (by omega) (by omega) (by omega) (by omega) (by omega) (by omega) (by omega) (by omega) h1 h2 w).mono fun e w' h => ⟨true, h.1, (fun h => by cases h), h.2⟩
    · exact (great_c _ _ _ _ _ _ _ _ _ _ _ _ _ _ _ _ _ _ _ _ _ _ _ _ _ _ (by omega) (by omega) (by omega) (by omega) (by omega) (by omega) (by omega) (by omega) h1 h2 w).mono fun e w' h => ⟨false, h.1, fun _ => ⟨by omega, by omega⟩, h.2⟩
/-- the document's example -/
def exOb : Ob := ⟨[], [], [-1, 64], [], 0, 0, [], [], [], []⟩
theorem ex_ok : exOb.ok := by
  refine ⟨⟨by simp [exOb], by simp [exOb]⟩, ⟨by simp [exOb], by simp [exOb]⟩, ⟨by simp [exOb], ?_⟩, ⟨by simp [exOb], by simp [exOb]⟩, ⟨by simp [exOb], by simp [exOb]⟩, ⟨by simp [exOb], by simp [exOb]⟩, ⟨by simp [exOb], by simp [exOb]⟩, ⟨by simp [exOb], by simp [exOb]⟩, ⟨by simp [exOb], by simp [exOb]⟩, ⟨by simp [exOb], by simp [exOb]⟩⟩
  intro x hx
  simp [exOb] at hx
  rcases hx with rfl | rfl <;> exact ⟨by omega, by omega⟩
theorem ex_small : ObSmall exOb := by unfold ObSmall exOb; simp
theorem ex_bytes : bytesO exOb = [65, 83, 84, 49, 0, 0, 4, 1, 128, 1, 0, 0, 0, 0, 0, 0, 0] ++ four (sumN (signs ++ encO exOb)) := by
  have z0 : encN 0 = [0] := by unfold encN fold; rw [if_pos (by omega)]; exact numL_small (by decide)
  have z2 : encN 2 = [4] := by unfold encN fold; rw [if_pos (by omega)]; exact numL_small (by decide)
  have zm : encN (-1) = [1] := by unfold encN fold; rw [if_neg (by omega)]; exact numL_small (by decide)
  have z64 : encN 64 = [128, 1] := by
    unfold encN fold
    rw [if_pos (by omega)]
    show numL 128 = _
    rw [numL_big (by omega), numL_small (by omega)]
    rfl
  have e : encO exOb = [0, 0, 4, 1, 128, 1, 0, 0, 0, 0, 0, 0, 0] := by
    unfold encO exOb encL
    simp [z0, z2, zm, z64]
  unfold bytesO sealN
  rw [e]
  rfl
theorem ex_len : (bytesO exOb).length = 21 := by rw [ex_bytes]; rfl
theorem ex_cells {w : World} {B g cap : Nat} (h : w.ownsRow B 5 1 (.slice (some ⟨g, 0, none⟩) (bytesO exOb).length cap) (bytesO exOb).length (bc (bytesO exOb))) :
    B ≤ g ∧ (convert 29 9 (.slice (some ⟨g, 0, none⟩) 4 cap)).run Try.prog w = .ok (.string ⟨#[65, 83, 84, 49]⟩) w ∧ w.cell? ⟨g, 6, none⟩ = some (.int .u8 4) ∧ w.cell? ⟨g, 7, none⟩ = some (.int .u8 1) ∧ w.cell? ⟨g, 8, none⟩ = some (.int .u8 128) ∧ w.cell? ⟨g, 9, none⟩ = some (.int .u8 1) ∧ 21 ≤ cap := by
  obtain ⟨hB, cur, hc, h1, h2, h3, h4⟩ := own_at h
  rw [ex_len] at h1 h4
  have hj : ∀ (j : Nat) (x : UInt8), (bytesO exOb)[j]? = some x → w.cell? ⟨g, j, none⟩ = some (.int .u8 (x.toNat : Int)) := fun j x hx => by
    have hl : j < 21 := by have := (List.getElem?_eq_some_iff.1 hx).1; rw [ex_len] at this; exact this
    have hz : (bc (bytesO exOb))[j]? = some (.int .u8 (x.toNat : Int)) := by unfold bc; rw [List.getElem?_map, hx]; rfl
    rw [← h4, List.getElem?_take, if_pos hl, Array.getElem?_toList] at hz
    simp [World.cell?, hc, hz]
  refine ⟨hB, ?_, hj 6 4 (by rw [ex_bytes]; rfl), hj 7 1 (by rw [ex_bytes]; rfl), hj 8 128 (by rw [ex_bytes]; rfl), hj 9 1 (by rw [ex_bytes]; rfl), h1⟩
  have := run_convert_bytes_back (P := Try.prog) w 29 9 5 ⟨g, 0, none⟩ cap [65, 83, 84, 49] Try.underlying29 Try.underlying5 Try.underlying9 (fun j hj' => by
    rw [Go.WideShapes.add_plain, Nat.zero_add]
    match j, hj' with
    | 0, _ => exact hj 0 65 (by rw [ex_bytes]; rfl)
    | 1, _ => exact hj 1 83 (by rw [ex_bytes]; rfl)
    | 2, _ => exact hj 2 84 (by rw [ex_bytes]; rfl)
    | 3, _ => exact hj 3 49 (by rw [ex_bytes]; rfl))
  exact this
set_option maxHeartbeats 16000000 in
set_option maxRecDepth 100000 in
theorem alive_any (w : World) : Calls Try.prog 6 #[] w fun e w' => e = .returned (.bool true) ∧ Below w.heap.size w w' := by
  have hb : Below w.heap.size w (w.alloc (.cells #[.int .i64 (-1), .int .i64 64] 2)) := (Below.refl _ w).alloc (Nat.le_refl _) _
  have hI : ∀ l : List Int, l = [] → IntsAt (w.alloc (.cells #[.int .i64 (-1), .int .i64 64] 2)) (.slice none 0 0) l := fun l h => by subst h; exact slAt_none _ _ _ _ _ ⟨Nat.zero_le _, fun _ => rfl⟩ rfl
  have hS : ∀ l : List Six, l = [] → SixesAt (w.alloc (.cells #[.int .i64 (-1), .int .i64 64] 2)) (.slice none 0 0) l := fun l h => by subst h; exact slAt_none _ _ _ _ _ ⟨Nat.zero_le _, fun _ => rfl⟩ rfl
  have hM : IntsAt (w.alloc (.cells #[.int .i64 (-1), .int .i64 64] 2)) (.slice (some ⟨w.heap.size, 0, none⟩) 2 2) [-1, 64] := by
    refine slAt_some (Nat.le_refl _) (by decide) fun i hi => ?_
    match i, hi with
    | 0, _ => show World.cell? _ ⟨w.heap.size, 0, none⟩ = _; rw [World.cell?_alloc_new]; rfl
    | 1, _ => show World.cell? _ ⟨w.heap.size, 1, none⟩ = _; rw [World.cell?_alloc_new]; rfl
  have BY := Lib.hid (bytes_any exOb (.slice none 0 0) (.slice none 0 0) (.slice (some ⟨w.heap.size, 0, none⟩) 2 2) (.slice none 0 0) (.slice none 0 0) (.slice none 0 0) (.slice none 0 0) (.slice none 0 0) _ ⟨hI _ rfl, hI _ rfl, hM, hI _ rfl, hS _ rfl, hS _ rfl, hS _ rfl, hS _ rfl⟩ ex_ok ex_small)
  unfold obCells at BY
  have e1 : exOb.cross = 0 := rfl
  have e2 : exOb.flags = 0 := rfl
  rw [e1, e2] at BY
  have HB := Lib.hid hb
  clear hb hI hS hM e1 e2
  go_enter Try.func6, Try.ntmps6
  go_wp2_with (go_at_call 8; (with_reducible refine BY.out.mono ?_); rintro e w1 ⟨g, cap, rfl, ho, hb1⟩; obtain ⟨hB, hat⟩ := ex_cells ho; obtain ⟨a4, a6, a7, a8, a9, ac⟩ := hat; have HB1 := Lib.hid hb1; have hlen := ex_len; clear ho hb1 hB)
  go_ret
  exact ⟨rfl, HB.out.trans (HB1.out.mono HB.out.size)⟩
end Go.Proofs.Ytodblepbedhnnaa
