/- dec.bitsBehind: what decimal digits behind a point say, in bits behind it. -/
import Derived.Test.YtnkndmmebhajcaaDoorLexCut
import Derived.Laws.BitsAllLaws
namespace Go.Proofs.YtnkndmmebhajcaaDoor
open Go.RowKit

theorem or_low (i a b : Nat) (hb : b < 2 ^ i) (h1 : 2 ^ i * a < 18446744073709551616) (h2 : b < 18446744073709551616) : bits .or .u64 ((2 ^ i * a : Nat) : Int) (b : Int) = ((2 ^ i * a + b : Nat) : Int) := by
  rw [u64_or_nat _ _ h1 h2, Nat.two_pow_add_eq_or_of_lt hb]

set_option maxHeartbeats 4000000 in
theorem double_any (x c C : Nat) (w : World) (x1 : (48 : Int) ≤ (x : Int)) (x2 : (x : Int) ≤ 57) (c1 : (c : Int) ≤ 1) (hc : w.cell? ⟨C, 0, none⟩ = some (.int .u8 (c : Int))) (hf : w.frozen? ⟨C, 0, none⟩ = false) :
    Calls Tryd.prog 70 #[.int .u8 (x : Int), .pointer (some ⟨C, 0, none⟩)] w fun e w' =>
      e = .returned (.int .u8 ((48 + (2 * (x - 48) + c) % 10 : Nat) : Int)) ∧ w' = w.setCell ⟨C, 0, none⟩ (.int .u8 (((2 * (x - 48) + c) / 10 : Nat) : Int)) := by
  obtain ⟨T, hT⟩ : ∃ T : Nat, T = 2 * (x - 48) + c := ⟨_, rfl⟩
  obtain ⟨y, hy⟩ : ∃ y : Nat, y = x - 48 := ⟨_, rfl⟩
  obtain ⟨t, ht⟩ : ∃ t : Nat, t = T / 10 := ⟨_, rfl⟩
  obtain ⟨r, hr⟩ : ∃ r : Nat, r = T % 10 := ⟨_, rfl⟩
  rw [← hT, ← ht, ← hr]
  have e1 : (x : Int) - 48 = (y : Int) := by omega
  have e2 : 2 * (y : Int) + (c : Int) = (T : Int) := by omega
  have e3 : (T : Int) / 10 = (t : Int) := by omega
  have e4 : (T : Int) % 10 = (r : Int) := by omega
  have e5 : ((48 + r : Nat) : Int) = (r : Int) + 48 := by omega
  have y1 : (y : Int) ≤ 9 := by omega
  have t1 : (T : Int) ≤ 19 := by omega
  have r1 : (r : Int) ≤ 9 := by omega
  rw [e5]
  clear hT hy ht hr e5
  go_enter Tryd.func70, Tryd.ntmps70
  go_wp2_with fail
  go_ret
  exact ⟨rfl, rfl⟩

/-- inside a round: the digits from j on are doubled -/
def InRow (w : World) (R C : Nat) (m : List UInt8) (j : Nat) : Prop := Row w R (m.take j ++ dbl (m.drop j)) ∧ Row w C [UInt8.ofNat (cry (m.drop j))]
theorem drop_at {l : List UInt8} {k : Nat} {c : UInt8} (h : l[k]? = some c) : l.drop k = c :: l.drop (k + 1) := by
  obtain ⟨h1, rfl⟩ := List.getElem?_eq_some_iff.1 h
  exact List.drop_eq_getElem_cons h1
theorem row_other {w : World} {B D o : Nat} {v : Value} {l : List UInt8} (h : Row w B l) (hne : B ≠ D) : Row (w.setCell ⟨D, o, none⟩ v) B l :=
  row_far h (Below.heap_setCell w ⟨D, o, none⟩ v B hne)
theorem byte_val {n : Nat} (h : n < 256) : (UInt8.ofNat n).toNat = n := UInt8.toNat_ofNat_of_lt' h
theorem inRow_start {w : World} {R C : Nat} {m : List UInt8} (h : Row w R m) (hc : ∃ x, Row w C [x]) (hne : R ≠ C) : InRow (w.setCell ⟨C, 0, none⟩ (.int .u8 0)) R C m m.length := by
  obtain ⟨x, hx⟩ := hc
  unfold InRow
  rw [List.take_length, List.drop_length]
  refine ⟨?_, row_set hx 0 0 (by simp)⟩
  rw [show dbl [] = [] from rfl, List.append_nil]
  exact row_other h hne
theorem inRow_next {w : World} {R C : Nat} {m : List UInt8} {j : Nat} {x : UInt8} (h : InRow w R C m (j + 1)) (hx : m[j]? = some x) (hne : R ≠ C) (hm : m.all isDig = true) :
    InRow ((w.setCell ⟨C, 0, none⟩ (.int .u8 (((2 * (x.toNat - 48) + cry (m.drop (j + 1))) / 10 : Nat) : Int))).setCell ⟨R, j, none⟩ (.int .u8 ((48 + (2 * (x.toNat - 48) + cry (m.drop (j + 1))) % 10 : Nat) : Int))) R C m j := by
  obtain ⟨h1, h2⟩ := h
  have hj : j < m.length := (List.getElem?_eq_some_iff.1 hx).1
  have hd := drop_at hx
  have hxd := isDig_iff.1 (List.all_eq_true.1 hm x (List.mem_of_getElem? hx))
  have hc1 : cry (m.drop (j + 1)) ≤ 1 := cry_le _ (List.all_eq_true.2 fun y hy => List.all_eq_true.1 hm y (List.mem_of_mem_drop hy))
  have h3 := row_other (D := C) (o := 0) (v := .int .u8 (((2 * (x.toNat - 48) + cry (m.drop (j + 1))) / 10 : Nat) : Int)) h1 hne
  have h4 := row_set h3 j (dg ((2 * (x.toNat - 48) + cry (m.drop (j + 1))) % 10)) (by simp; omega)
  rw [dg_val (by omega)] at h4
  have h5 := row_set h2 0 (UInt8.ofNat ((2 * (x.toNat - 48) + cry (m.drop (j + 1))) / 10)) (by simp)
  rw [byte_val (by omega)] at h5
  have e1 : (m.take (j + 1) ++ dbl (m.drop (j + 1))).set j (dg ((2 * (x.toNat - 48) + cry (m.drop (j + 1))) % 10)) = m.take j ++ dbl (m.drop j) := by
    rw [take_at hx, List.append_assoc, List.set_append_right _ _ (by simp; omega), hd]
    have : j - (m.take j).length = 0 := by simp; omega
    rw [this]
    rfl
  rw [e1] at h4
  refine ⟨h4, ?_⟩
  have e2 : cry (m.drop j) = (2 * (x.toNat - 48) + cry (m.drop (j + 1))) / 10 := by rw [hd]; rfl
  rw [e2]
  exact row_other h5 (Ne.symm hne)
theorem row_new0 (w : World) (T : TypeId) : Row (w.alloc (.cells #[.int .u8 0] T)) w.heap.size [0] := fun j x h => by
  have e : j = 0 := by have := (List.getElem?_eq_some_iff.1 h).1; simp at this; omega
  subst e
  cases h
  exact ⟨by rw [World.cell?_alloc_new]; rfl, World.frozen?_alloc_new _ _ _ _⟩
set_option maxHeartbeats 4000000 in
set_option maxRecDepth 100000 in
theorem bits_core (l : List UInt8) (n : Nat) (hn : l.length = n) (hl : (n : Int) ≤ 100) (hd : l.all isDig = true) (w W1 : World) (K : Nat)
    (hcv : (convert 9 53 (.string (str l))).run Tryd.prog w = .ok (.slice (some ⟨w.heap.size, 0, none⟩) n K) W1) (hr : Hid (Row W1 w.heap.size l)) (hb : Hid (Below w.heap.size w W1)) (hz : Hid (W1.heap.size = w.heap.size + 1))
    (P : Nat) (hP : Hid (P = bitsL l)) :
    Calls Tryd.prog 67 #[.string (str l)] w fun e w' => e = .returned (.int .u64 (P : Int)) ∧ Below w.heap.size w w' := by
  have HN := Lib.hid hn
  have HD := Lib.hid hd
  clear hn hd
  obtain ⟨R, hR⟩ : ∃ R, R = w.heap.size := ⟨_, rfl⟩
  rw [← hR] at hcv hr hz
  have RE := Lib.hid hR
  clear hR
  go_enter Tryd.func67, Tryd.ntmps67
  go_wp2_with fail
  go_loopw [11, 6] (fun i b wr => ∃ (k B : Nat) (m : List UInt8), k ≤ 32 ∧ i = .int .i64 k ∧ b = .int .u64 B ∧ Hid (DblAt l k m B) ∧ Hid (Row wr R m) ∧ Hid (∃ x, Row wr W1.heap.size [x]) ∧ Hid (Below w.heap.size w wr)) (fun i _ _ => 32 - litLen i)
  case atStart => exact ⟨0, 0, l, by omega, rfl, rfl, Lib.hid (dblAt_zero l HD.out), Lib.hid (row_far hr.out (Below.heap_alloc _ _ _ (by rw [hz.out]; omega))), Lib.hid ⟨0, row_new0 _ _⟩, Lib.hid (hb.out.alloc hb.out.size _)⟩
  case round =>
    obtain ⟨k, B, m, hk, rfl, rfl, hD, hRow, hC, hBel⟩ := hrel
    rcases Nat.lt_or_ge k 32 with hlt | hge
    · obtain ⟨x, hx⟩ := hC.out
      have q3 : decide ((k : Int) < 32) = true := decide_eq_true (by omega)
      have c0 := row_cell hx (j := 0) rfl
      have f0 := row_frozen hx (j := 0) rfl
      have hne : Hid (R ≠ W1.heap.size) := Lib.hid (by rw [hz.out]; omega)
      have hml : Hid (m.length = n) := Lib.hid (by rw [hD.out.2.1]; exact HN.out)
      have hmd : Hid (m.all isDig = true) := Lib.hid hD.out.1
      have hst := Lib.hid (inRow_start hRow.out ⟨x, hx⟩ hne.out)
      rw [hml.out] at hst
      clear hx
      go_wp2_with fail
      go_loopw [7] (fun t wi => ∃ j : Nat, j ≤ n ∧ t = .int .i64 ((j : Int) - 1) ∧ Hid (InRow wi R W1.heap.size m j) ∧ Hid (Below w.heap.size w wi)) (fun t _ => (intOf t + 1).toNat)
      case atStart => exact ⟨n, by omega, rfl, hst, Lib.hid (hBel.out.setCell (by show w.heap.size ≤ W1.heap.size; exact hb.out.size) _)⟩
      case round =>
        obtain ⟨j, hj, rfl, hI, hBi⟩ := hrel
        rcases j with _ | j
        · have c1 := row_cell hI.out.2 (j := 0) rfl
          go_wp2_with fail
          have h1 := cry_le m hmd.out
          have hBk := dblAt_lt hD.out HD.out
          have hBk2 : 2 ^ k ≤ 2 ^ 31 := Nat.pow_le_pow_right (by omega) (by omega)
          have hor := or_low 1 B (cry m) (by omega) (by omega) (by omega)
          have e1 : bits BinOp.or IntKind.u64 (IntKind.u64.wrap ((B : Int) * 2)) ((cry m : Int) % 256) = ((2 * B + cry m : Nat) : Int) := by
            rw [show IntKind.u64.wrap ((B : Int) * 2) = ((2 ^ 1 * B : Nat) : Int) by rw [IntKind.wrap_u64]; omega, show (cry m : Int) % 256 = (cry m : Int) by omega, hor]
          rw [e1]
          refine ⟨⟨k + 1, 2 * B + cry m, dbl m, by omega, rfl, rfl, Lib.hid (dblAt_next hD.out), ?_, Lib.hid ⟨_, hI.out.2⟩, hBi⟩, by simp [litLen]; omega⟩
          have := hI.out.1
          rw [List.take_zero, List.drop_zero, List.nil_append] at this
          exact Lib.hid this
        · have hj2 : j < m.length := by rw [hml.out]; omega
          obtain ⟨x, hx⟩ : ∃ x, m[j]? = some x := ⟨m[j], List.getElem?_eq_getElem hj2⟩
          have hxd := isDig_iff.1 (List.all_eq_true.1 hmd.out x (List.mem_of_getElem? hx))
          have hcy : cry (m.drop (j + 1)) ≤ 1 := cry_le _ (List.all_eq_true.2 fun y hy => List.all_eq_true.1 hmd.out y (List.mem_of_mem_drop hy))
          have hxr : (m.take (j + 1) ++ dbl (m.drop (j + 1)))[j]? = some x := by
            rw [List.getElem?_append_left (by simp; omega), List.getElem?_take, if_pos (by omega), hx]
          have c1 := row_cell hI.out.1 hxr
          have f1 := row_frozen hI.out.1 hxr
          have c2 := row_cell hI.out.2 (j := 0) rfl
          have f2 := row_frozen hI.out.2 (j := 0) rfl
          rw [byte_val (by omega)] at c2
          have hnx := inRow_next hI.out hx hne.out hmd.out
          obtain ⟨X, hX⟩ : ∃ X, X = x.toNat := ⟨_, rfl⟩
          obtain ⟨c, hc⟩ : ∃ c, c = cry (m.drop (j + 1)) := ⟨_, rfl⟩
          rw [← hX] at c1 hnx hxd
          rw [← hc] at c2 hnx hcy
          have D := Lib.hid (double_any X c W1.heap.size wr (by omega) (by omega) (by omega) c2 f2)
          have hneb : R ≠ W1.heap.size := hne.out
          obtain ⟨v1, hv1⟩ : ∃ v1, v1 = (2 * (X - 48) + c) / 10 := ⟨_, rfl⟩
          obtain ⟨v2, hv2⟩ : ∃ v2, v2 = 48 + (2 * (X - 48) + c) % 10 := ⟨_, rfl⟩
          rw [← hv1, ← hv2] at D hnx
          have c3 : (wr.setCell ⟨W1.heap.size, 0, none⟩ (.int .u8 (v1 : Int))).cell? ⟨R, j, none⟩ = some (.int .u8 (X : Int)) := by rw [World.cell?_setCell_other _ _ _ _ (by simp)]; exact c1
          have f3 : (wr.setCell ⟨W1.heap.size, 0, none⟩ (.int .u8 (v1 : Int))).frozen? ⟨R, j, none⟩ = false := by rw [World.frozen?_setCell]; exact f1
          have q4 : decide ((0 : Int) ≤ (j : Int)) = true := decide_eq_true (by omega)
          have HNX := Lib.hid hnx
          have jn : (j : Int) < (n : Int) := by omega
          clear hv1 hv2 hX hc hnx hxr hx hxd hcy hneb
          go_wp2_with (go_at_call 70; refine D.out.mono ?_; rintro e w2 ⟨rfl, rfl⟩)
          exact ⟨⟨j, by omega, rfl, HNX, Lib.hid ((hBi.out.setCell (p := ⟨W1.heap.size, 0, none⟩) hb.out.size _).setCell (p := ⟨R, j, none⟩) (by show w.heap.size ≤ R; rw [RE.out]; exact Nat.le_refl _) _)⟩, by simp [intOf]⟩
    · have q3 : decide ((k : Int) < 32) = false := decide_eq_false (by omega)
      obtain rfl : k = 32 := by omega
      have hBP : B = P := by rw [hP.out]; exact dblAt_end hD.out
      go_wp2_with fail
      go_ret
      exact ⟨by rw [hBP]; rfl, hBel.out⟩

theorem bits_behind (l : List UInt8) (hl : l.length ≤ 100) (hd : l.all isDig = true) (w : World) :
    Calls Tryd.prog 67 #[.string (str l)] w fun e w' => e = .returned (.int .u64 ((bitsL l : Nat) : Int)) ∧ Below w.heap.size w w' := by
  have hcv := Lib.run_convert_string_bytes (P := Tryd.prog) w 9 53 5 (str l) Tryd.underlying9 Tryd.underlying53 Tryd.underlying5
  rw [str_size] at hcv
  have hrow : Row (Lib.bytesWorld w 5 (str l)) w.heap.size l := fun j x hx => by
    obtain ⟨hj, rfl⟩ := List.getElem?_eq_some_iff.1 hx
    refine ⟨?_, ?_⟩
    · rw [Lib.bytesWorld_cell w _ _ j (by rw [str_size]; exact hj), str_data]
      simp [List.getD, hj]
    · have hsz : (Lib.bytesCells w 5 (str l)).size ≥ l.length := by unfold Lib.bytesCells; simp [str]
      unfold World.frozen?
      rw [Lib.bytesWorld_at_new]
      simp
      omega
  exact bits_core l l.length rfl (by omega) hd w _ _ hcv (Lib.hid hrow) (Lib.hid ⟨rfl, rfl, rfl, by rw [Lib.bytesWorld_size]; omega, fun k hk => Lib.bytesWorld_at_old w _ _ k hk⟩) (Lib.hid (Lib.bytesWorld_size w _ _)) _ (Lib.hid rfl)
end Go.Proofs.YtnkndmmebhajcaaDoor
