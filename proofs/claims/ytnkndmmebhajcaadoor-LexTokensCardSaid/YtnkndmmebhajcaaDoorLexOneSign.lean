/- The reference's One at a sign. -/
import Derived.Test.YtnkndmmebhajcaaDoorLexRefLex
namespace Go.Proofs.YtnkndmmebhajcaaDoor
open Go.RowKit

/-- the two answers at a sign -/
def SignRet (a : Nat) (o : Option (List UInt8)) (w : World) (e : Ending) (w' : World) : Prop :=
  (∃ s, o = some s ∧ OneRet 4 0 (a : Int) (str s) true w e w') ∨ (o = none ∧ OneRet 0 0 0 ⟨#[]⟩ false w e w')
theorem prefix_eq (d s : List UInt8) : s.isPrefixOf d = (d.take s.length == s) := by
  cases h : s.isPrefixOf d with
  | true => rw [prefix_take h]; simp
  | false =>
    symm
    rw [beq_eq_false_iff_ne]
    intro e
    have : s.isPrefixOf d = true := by rw [List.isPrefixOf_iff_prefix, ← e]; exact List.take_prefix _ _
    rw [h] at this
    cases this
set_option maxHeartbeats 8000000 in
set_option maxRecDepth 100000 in
theorem one_sign (l : List UInt8) (n : Nat) (hn : Hid (l.length = n)) (nl : (n : Int) ≤ 30000) (hs : (str l).size = n) (a : Nat) (han : (a : Int) < (n : Int)) (c : UInt8) (hix : ∀ h, (str l)[a]'h = c) (hcl : Hid (isLetter c = false)) (hcd : Hid (isDig c = false)) (o : Option (List UInt8)) (ho : Hid (signOf (l.drop a) = o)) (w : World) :
    Calls Tryd.prog 19 #[.string (str l), .int .i64 (a : Int)] w fun e w' => SignRet a o w e w' := by
  have L0 : Hid (∀ w, Calls Tryd.prog 30 #[.int .u8 (c.toNat : Int)] w fun e w' => e = .returned (.bool false) ∧ w' = w) := Lib.hid fun w => by have := letter_ref c w; rwa [hcl.out] at this
  have D0 : Hid (∀ w, Calls Tryd.prog 31 #[.int .u8 (c.toNat : Int)] w fun e w' => e = .returned (.bool false) ∧ w' = w) := Lib.hid fun w => by have := digit_ref c w; rwa [hcd.out] at this
  have hb0 := Lib.hid ((Below.refl w.heap.size w).alloc (Nat.le_refl _) (.cells #[.int .i64 0, .string ⟨#[]⟩, .int .i64 0, .int .i64 0] 36))
  have hrm := Lib.hid (roomAt_new w 36)
  have hb1 := Lib.hid (((Below.refl (w.heap.size + 1) (w.alloc (.cells #[.int .i64 0, .string ⟨#[]⟩, .int .i64 0, .int .i64 0] 36))).alloc (by simp) (.cells signCells 9)))
  have hcell : Hid (∀ (j : Nat) s, signsL[j]? = some s → ((w.alloc (.cells #[.int .i64 0, .string ⟨#[]⟩, .int .i64 0, .int .i64 0] 36)).alloc (.cells signCells 9)).cell? ⟨w.heap.size + 1, j, none⟩ = some (.string (str s))) := Lib.hid fun j s hs => by
    have : ((w.alloc (.cells #[.int .i64 0, .string ⟨#[]⟩, .int .i64 0, .int .i64 0] 36)).alloc (.cells signCells 9)).cell? ⟨(w.alloc (.cells #[.int .i64 0, .string ⟨#[]⟩, .int .i64 0, .int .i64 0] 36)).heap.size, j, none⟩ = some (.string (str s)) := by
      rw [World.cell?_alloc_new]
      unfold signCells
      rw [List.getElem?_toArray, List.getElem?_map, hs]
      rfl
    rwa [World.size_alloc] at this
  go_enter Tryd.func19, Tryd.ntmps19
  go_wp2_with (first | (go_at_call 30; ((with_reducible refine (L0.out _).mono ?_); rintro e w' ⟨rfl, rfl⟩)) | (go_at_call 31; ((with_reducible refine (D0.out _).mono ?_); rintro e w' ⟨rfl, rfl⟩)))
  obtain ⟨W1, hW1⟩ : ∃ W1, W1 = (w.alloc (.cells #[.int .i64 0, .string ⟨#[]⟩, .int .i64 0, .int .i64 0] 36)).alloc (.cells signCells 9) := ⟨_, rfl⟩
  rw [← hW1] at hcell hb1
  change Code.wp _ _ _ _ ((w.alloc (.cells #[.int .i64 0, .string ⟨#[]⟩, .int .i64 0, .int .i64 0] 36)).alloc (.cells signCells 9))
  rw [← hW1]
  have HW := Lib.hid hW1
  have HSZ : Hid (W1.heap.size = w.heap.size + 1 + 1) := Lib.hid (by rw [hW1]; simp)
  clear hW1
  go_loopw [12] (fun i wr => ∃ j : Nat, j ≤ 17 ∧ Hid ((signsL.take j).all (fun s => !s.isPrefixOf (l.drop a)) = true) ∧ i = .int .i64 j ∧ Hid (Below (w.heap.size + 1 + 1) W1 wr)) (fun i _ => 17 - litLen i)
  case atStart => exact ⟨0, by omega, Lib.hid rfl, rfl, Lib.hid (Below.refl _ _)⟩
  case round =>
    obtain ⟨j, hj, hno, rfl, hB⟩ := hrel
    have hBB := Lib.hid (hb1.out.trans (hB.out.mono (Nat.le_succ _)))
    obtain ⟨r0, r1, r2, r3, f0, f1, f2, f3⟩ := hrm.out.below hBB.out (Nat.lt_succ_self _)
    have hBw := Lib.hid (hb0.out.trans (hBB.out.mono (Nat.le_succ _)))
    rcases Nat.lt_or_ge j 17 with hlt | hge
    · have q3 : decide ((j : Int) < 17) = true := decide_eq_true (by omega)
      obtain ⟨s, hsj⟩ : ∃ s, signsL[j]? = some s := ⟨signsL[j]'(by show j < 17; exact hlt), List.getElem?_eq_getElem _⟩
      have hc : wr.cell? ⟨w.heap.size + 1, j, none⟩ = some (.string (str s)) := (hB.out.cell (p := ⟨w.heap.size + 1, j, none⟩) (Nat.lt_succ_self _)).trans (hcell.out j s hsj)
      have HJ := Lib.hid hsj
      have hk := signs_len (List.mem_of_getElem? hsj)
      obtain ⟨k, hk0⟩ : ∃ k, k = s.length := ⟨_, rfl⟩
      have hks : (str s).size = k := by rw [str_size, hk0]
      obtain ⟨x, hx⟩ : ∃ x, x = a + k := ⟨_, rfl⟩
      have hax : (a : Int) + (k : Int) = (x : Int) := by omega
      have hk2 : (k : Int) ≤ 2 := by omega
      have hxa : (a : Int) ≤ (x : Int) := by omega
      have hx3 : (x : Int) ≤ 30010 := by omega
      have HK0 := Lib.hid hk0
      have HX := Lib.hid hx
      clear hsj hk hk0 hx
      by_cases hxn : (x : Int) ≤ (n : Int)
      · have q4 : decide ((x : Int) ≤ (n : Int)) = true := decide_eq_true hxn
        obtain ⟨T, hT⟩ : ∃ T, T = (str l).extract a x := ⟨_, rfl⟩
        have hT2 : (str l).extract a x = T := hT.symm
        have HT : Hid (T = str ((l.drop a).take k)) := Lib.hid (by rw [hT, slice_str, HX.out, Nat.add_sub_cancel_left])
        have hpf := Lib.hid (prefix_eq (l.drop a) s)
        rcases hBv : s.isPrefixOf (l.drop a) with _ | _
        · have hq : (T.toList == (str s).toList) = false := by rw [HT.out, bytes_eq, HK0.out, ← hpf.out]; exact hBv
          have HBV := Lib.hid hBv
          clear hT hBv
          go_wp2_with fail
          go_quiet (fail)
          go_wp2_with fail
          have hdr : Below wr.heap.size wr (wr.drewN nq) := below_dr (Below.refl _ wr) nq
          exact ⟨⟨j + 1, by omega, Lib.hid (all_take_next _ HJ.out hno.out (by rw [HBV.out]; rfl)), rfl, Lib.hid (hB.out.trans (hdr.mono (by have := hB.out.size; rw [HSZ.out] at this; exact this)))⟩, by simp [litLen]; omega⟩
        · have hq : (T.toList == (str s).toList) = true := by rw [HT.out, bytes_eq, HK0.out, ← hpf.out]; exact hBv
          obtain rfl : o = some s := by rw [← ho.out]; exact sign_hit HJ.out hno.out hBv
          clear hT hBv ho
          go_wp2_with fail
          go_quiet (fail)
          have hdr : Below wr.heap.size wr (wr.drewN nq) := below_dr (Below.refl _ wr) nq
          have hBB2 := Lib.hid (hBB.out.trans (hdr.mono (by have := hB.out.size; rw [HSZ.out] at this; omega)))
          obtain ⟨p0, p1, p2, p3, g0, g1, g2, g3⟩ := hrm.out.below hBB2.out (Nat.lt_succ_self _)
          have hc2 : (wr.drewN nq).cell? ⟨w.heap.size + 1, j, none⟩ = some (.string (str s)) := (hdr.cell (p := ⟨w.heap.size + 1, j, none⟩) (by have := hB.out.size; rw [HSZ.out] at this; show w.heap.size + 1 < _; omega)).trans hc
          have HDR := Lib.hid (hb0.out.trans (hBB2.out.mono (Nat.le_succ _)))
          clear hdr
          go_wp2_with fail
          exact bodyPost_ret (v := .tuple #[.agg #[.int .i64 4, .string (str s), .int .i64 0, .int .i64 (a : Int)], .bool true]) (by simp [results, Tryd.results19, go_sem, p0, p1, p2, p3]) rfl (.inl ⟨s, rfl, rfl, below_four HDR.out (Nat.le_refl _) _ _ _ _⟩)
      · have q4 : decide ((x : Int) ≤ (n : Int)) = false := decide_eq_false hxn
        have q5 : decide (x ≤ n) = false := decide_eq_false (by omega)
        have q6 : ¬ (x ≤ n) := by omega
        have HBV : Hid (s.isPrefixOf (l.drop a) = false) := Lib.hid (by
          cases h : s.isPrefixOf (l.drop a) with
          | false => rfl
          | true =>
            have h2 := List.IsPrefix.length_le (List.isPrefixOf_iff_prefix.1 h)
            rw [List.length_drop] at h2
            have := HK0.out
            have := HX.out
            have := hn.out
            omega)
        go_wp2_with fail
        go_quiet (fail)
        go_wp2_with fail
        have hdr : Below wr.heap.size wr (wr.drewN nq) := below_dr (Below.refl _ wr) nq
        exact ⟨⟨j + 1, by omega, Lib.hid (all_take_next _ HJ.out hno.out (by rw [HBV.out]; rfl)), rfl, Lib.hid (hB.out.trans (hdr.mono (by have := hB.out.size; rw [HSZ.out] at this; exact this)))⟩, by simp [litLen]; omega⟩
    · have q3 : decide ((j : Int) < 17) = false := decide_eq_false (by omega)
      obtain rfl : o = none := by rw [← ho.out]; exact sign_none (by have := hno.out; rwa [List.take_of_length_le (by show 17 ≤ j; exact hge)] at this)
      clear ho
      go_wp2_with fail
      exact bodyPost_ret (v := .tuple #[.agg #[.int .i64 0, .string ⟨#[]⟩, .int .i64 0, .int .i64 0], .bool false]) (by simp [results, Tryd.results19, go_sem, r0, r1, r2, r3]) rfl (.inr ⟨rfl, rfl, below_four hBw.out (Nat.le_refl _) _ _ _ _⟩)
end Go.Proofs.YtnkndmmebhajcaaDoor
