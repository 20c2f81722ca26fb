/- dec.Short: a number's text, cut off. -/
import Derived.Test.YtfbpdfaofmocaaaDoorDecRow
import Derived.Test.YtfbpdfaofmocaaaDoorFormatUint
import Derived.Lib.Join
namespace Go.Proofs.YtfbpdfaofmocaaaDoor
open Go.RowKit

theorem str_data (l : List UInt8) : (str l).data.toList = l := by unfold str; simp
theorem join_flat : ∀ xs : List (List UInt8), Lib.join xs [] = xs.flatten := by
  intro xs
  cases xs with
  | nil => rfl
  | cons x r => rw [Lib.join_cons]; unfold Lib.joinTail; simp
theorem joined_any (bk c : Nat) (ls : List (List UInt8)) (w : World) (hcells : ∀ (j : Nat) x, ls[j]? = some x → w.cell? ⟨bk, j, none⟩ = some (.string (str x))) (hbk : bk < w.heap.size) (hN : ls.length ≤ 100)
    (hcap : ls.length ≤ c) (hlen : ls.flatten.length ≤ 1000) :
    Calls Tryd.prog 22 #[.slice (some ⟨bk, 0, none⟩) ls.length c] w fun e w' => StrPost ls.flatten w e w' := by
  have em : (ls.map str).map (·.data.toList) = ls := by
    rw [List.map_map]
    conv => rhs; rw [← List.map_id ls]
    exact List.map_congr_left (fun x _ => str_data x)
  have h := Tryd.strings_Join bk 0 c (ls.map str) ⟨#[]⟩ w (fun j x hx => by
    rw [List.getElem?_map] at hx
    obtain ⟨y, hy, rfl⟩ := Option.map_eq_some_iff.1 hx
    rw [Nat.zero_add]
    exact hcells j y hy) hbk (by rw [List.length_map]; omega) (by rw [List.length_map]; exact hcap) (by rw [em]; show (Lib.join ls []).length ≤ _; rw [join_flat]; omega)
  rw [em, show Lib.join ls (({data := #[]} : ByteArray)).data.toList = ls.flatten from join_flat ls, List.length_map] at h
  have H := Lib.hid h
  clear h
  go_enter Tryd.func22, Tryd.ntmps22
  go_wp2_with (go_at_call 32; refine H.out.mono ?_; rintro e w' ⟨rfl, hb⟩)
  go_ret
  exact ⟨rfl, hb⟩

theorem trim_zero (l : List UInt8) (w : World) (h : l.length ≤ 1000) :
    Calls Tryd.prog 20 #[.string (str l), .string ⟨#[48]⟩] w fun e w' => e = .returned (.string (str (strip l))) ∧ w' = w := by
  have h := Tryd.strings_TrimRight_one (str l) 48 (by decide) w (by rw [str_size]; omega)
  rw [str_data] at h
  exact h

theorem cells_two (w : World) (T : TypeId) (a b : List UInt8) : ∀ (j : Nat) x, [a, b][j]? = some x → (w.alloc (.cells #[.string (str a), .string (str b)] T)).cell? ⟨w.heap.size, j, none⟩ = some (.string (str x)) := fun j x h => by
  rw [World.cell?_alloc_new]
  match j, h with
  | 0, h => cases h; rfl
  | 1, h => cases h; rfl
theorem cells_four (w : World) (T : TypeId) (a b c d : List UInt8) : ∀ (j : Nat) x, [a, b, c, d][j]? = some x → (w.alloc (.cells #[.string (str a), .string (str b), .string (str c), .string (str d)] T)).cell? ⟨w.heap.size, j, none⟩ = some (.string (str x)) := fun j x h => by
  rw [World.cell?_alloc_new]
  match j, h with
  | 0, h => cases h; rfl
  | 1, h => cases h; rfl
  | 2, h => cases h; rfl
  | 3, h => cases h; rfl
set_option maxHeartbeats 4000000 in
set_option maxRecDepth 100000 in
theorem short_pos (q n : Int) (u N α β : Nat) (R : List UInt8) (w : World) (hq : decide (q < 0) = false) (es : IntKind.u64.wrap q = (u : Int)) (m0 : Int) (em : max n 0 = m0) (en : min m0 32 = (N : Int)) (ea : (u : Int) / 4294967296 = (α : Int)) (eb : IntKind.u32.wrap (u : Int) = (β : Int))
    (f : List UInt8) (hR : R = [] ++ digs α ++ tail f) (hlen : Hid ((digs α).length + f.length ≤ 900))
    (F : Hid (∀ w', Below w.heap.size w w' → Calls Tryd.prog 19 #[.int .u64 α, .int .i64 10] w' fun e w'' => e = .returned (.string (str (digs α))) ∧ Below w'.heap.size w' w''))
    (g : List UInt8) (D : Hid (∀ w', Calls Tryd.prog 21 #[.int .u32 (β : Int), .int .i64 (N : Int)] w' fun e w'' => StrPost g w' e w''))
    (T : Hid (∀ w', Calls Tryd.prog 20 #[.string (str g), .string ⟨#[48]⟩] w' fun e w'' => e = .returned (.string (str f)) ∧ w'' = w')) :
    Calls Tryd.prog 13 #[.int .i64 q, .int .i64 n] w fun e w' => StrPost R w e w' := by
  have HR := Lib.hid hR
  clear hR
  rcases Nat.eq_zero_or_pos f.length with hf | hf
  · obtain rfl := List.eq_nil_of_length_eq_zero hf
    rw [str_nil] at T
    clear hf
    go_enter Tryd.func13, Tryd.ntmps13
    go_wp2_with (first
      | (go_at_call 19; refine (F.out _ (Below.refl _ _)).mono ?_; rintro e w1 ⟨rfl, b1⟩; have B1 := Lib.hid b1; clear b1)
      | (go_at_call 21; refine (D.out _).mono ?_; rintro e w2 ⟨rfl, b2⟩; have B2 := Lib.hid b2; clear b2)
      | (go_at_call 20; refine (T.out _).mono ?_; rintro e w3 ⟨rfl, rfl⟩)
      | (go_at_call 22; refine (joined_any _ 2 [[], digs α] _ (cells_two _ _ _ _) (by simp) (by simp) (by simp) (by have := hlen.out; simp at this ⊢; omega)).mono ?_; rintro e w4 ⟨rfl, b4⟩; have B4 := Lib.hid b4; clear b4))
    go_ret
    exact ⟨by rw [HR.out]; simp [tail], (B1.out.trans (B2.out.mono B1.out.size)).trans (((Below.refl _ _).alloc (Nat.le_refl _) _).trans (B4.out.mono (by simp)) |>.mono (Nat.le_trans B1.out.size B2.out.size))⟩
  · have z1 := str_some_empty f hf
    have ht : tail f = 46 :: f := by unfold tail; rw [if_neg (by rintro rfl; simp at hf)]
    have HT := Lib.hid ht
    clear ht hf
    go_enter Tryd.func13, Tryd.ntmps13
    go_wp2_with (first
      | (go_at_call 19; refine (F.out _ (Below.refl _ _)).mono ?_; rintro e w1 ⟨rfl, b1⟩; have B1 := Lib.hid b1; clear b1)
      | (go_at_call 21; refine (D.out _).mono ?_; rintro e w2 ⟨rfl, b2⟩; have B2 := Lib.hid b2; clear b2)
      | (go_at_call 20; refine (T.out _).mono ?_; rintro e w3 ⟨rfl, rfl⟩)
      | (go_at_call 22; refine (joined_any _ 4 [[], digs α, [46], f] _ (cells_four _ _ _ _ _ _) (by simp) (by simp) (by simp) (by have := hlen.out; simp at this ⊢; omega)).mono ?_; rintro e w4 ⟨rfl, b4⟩; have B4 := Lib.hid b4; clear b4))
    go_ret
    exact ⟨by rw [HR.out, HT.out]; simp, (B1.out.trans (B2.out.mono B1.out.size)).trans (((Below.refl _ _).alloc (Nat.le_refl _) _).trans (B4.out.mono (by simp)) |>.mono (Nat.le_trans B1.out.size B2.out.size))⟩
set_option maxHeartbeats 4000000 in
set_option maxRecDepth 100000 in
theorem short_below (q n : Int) (u N α β : Nat) (R : List UInt8) (w : World) (hq : decide (q < 0) = true) (v : Int) (es0 : IntKind.u64.wrap q = v) (es : IntKind.u64.wrap (-v) = (u : Int)) (m0 : Int) (em : max n 0 = m0) (en : min m0 32 = (N : Int)) (ea : (u : Int) / 4294967296 = (α : Int)) (eb : IntKind.u32.wrap (u : Int) = (β : Int))
    (f : List UInt8) (hR : R = [45] ++ digs α ++ tail f) (hlen : Hid ((digs α).length + f.length ≤ 900))
    (F : Hid (∀ w', Below w.heap.size w w' → Calls Tryd.prog 19 #[.int .u64 α, .int .i64 10] w' fun e w'' => e = .returned (.string (str (digs α))) ∧ Below w'.heap.size w' w''))
    (g : List UInt8) (D : Hid (∀ w', Calls Tryd.prog 21 #[.int .u32 (β : Int), .int .i64 (N : Int)] w' fun e w'' => StrPost g w' e w''))
    (T : Hid (∀ w', Calls Tryd.prog 20 #[.string (str g), .string ⟨#[48]⟩] w' fun e w'' => e = .returned (.string (str f)) ∧ w'' = w')) :
    Calls Tryd.prog 13 #[.int .i64 q, .int .i64 n] w fun e w' => StrPost R w e w' := by
  have HR := Lib.hid hR
  clear hR
  rcases Nat.eq_zero_or_pos f.length with hf | hf
  · obtain rfl := List.eq_nil_of_length_eq_zero hf
    rw [str_nil] at T
    clear hf
    go_enter Tryd.func13, Tryd.ntmps13
    go_wp2_with (first
      | (go_at_call 19; refine (F.out _ (Below.refl _ _)).mono ?_; rintro e w1 ⟨rfl, b1⟩; have B1 := Lib.hid b1; clear b1)
      | (go_at_call 21; refine (D.out _).mono ?_; rintro e w2 ⟨rfl, b2⟩; have B2 := Lib.hid b2; clear b2)
      | (go_at_call 20; refine (T.out _).mono ?_; rintro e w3 ⟨rfl, rfl⟩)
      | (go_at_call 22; refine (joined_any _ 2 [[45], digs α] _ (cells_two _ _ _ _) (by simp) (by simp) (by simp) (by have := hlen.out; simp at this ⊢; omega)).mono ?_; rintro e w4 ⟨rfl, b4⟩; have B4 := Lib.hid b4; clear b4))
    go_ret
    exact ⟨by rw [HR.out]; simp [tail], (B1.out.trans (B2.out.mono B1.out.size)).trans (((Below.refl _ _).alloc (Nat.le_refl _) _).trans (B4.out.mono (by simp)) |>.mono (Nat.le_trans B1.out.size B2.out.size))⟩
  · have z1 := str_some_empty f hf
    have ht : tail f = 46 :: f := by unfold tail; rw [if_neg (by rintro rfl; simp at hf)]
    have HT := Lib.hid ht
    clear ht hf
    go_enter Tryd.func13, Tryd.ntmps13
    go_wp2_with (first
      | (go_at_call 19; refine (F.out _ (Below.refl _ _)).mono ?_; rintro e w1 ⟨rfl, b1⟩; have B1 := Lib.hid b1; clear b1)
      | (go_at_call 21; refine (D.out _).mono ?_; rintro e w2 ⟨rfl, b2⟩; have B2 := Lib.hid b2; clear b2)
      | (go_at_call 20; refine (T.out _).mono ?_; rintro e w3 ⟨rfl, rfl⟩)
      | (go_at_call 22; refine (joined_any _ 4 [[45], digs α, [46], f] _ (cells_four _ _ _ _ _ _) (by simp) (by simp) (by simp) (by have := hlen.out; simp at this ⊢; omega)).mono ?_; rintro e w4 ⟨rfl, b4⟩; have B4 := Lib.hid b4; clear b4))
    go_ret
    exact ⟨by rw [HR.out, HT.out]; simp, (B1.out.trans (B2.out.mono B1.out.size)).trans (((Below.refl _ _).alloc (Nat.le_refl _) _).trans (B4.out.mono (by simp)) |>.mono (Nat.le_trans B1.out.size B2.out.size))⟩

theorem digs_length (n : Nat) (h : n < 18446744073709551616) : (digs n).length ≤ 20 := by
  rcases Nat.eq_zero_or_pos n with rfl | h1
  · decide +kernel
  · rw [← digs_dec, Lib.decDigits_length]
    have := Lib.numDigits_eq n h1 h
    split at this <;> omega
theorem strip_length (l : List UInt8) : (strip l).length ≤ l.length := by
  unfold strip
  rw [List.length_reverse]
  refine Nat.le_trans ((List.dropWhile_suffix _).length_le) ?_
  rw [List.length_reverse]
  exact Nat.le_refl _
/-- dec.Short answers a number's text, cut off. -/
theorem short_dec (q n : Int) (w : World) (htab : Tab w) (h1 : -9223372036854775808 ≤ q) (h2 : q ≤ 9223372036854775807) :
    Calls Tryd.prog 13 #[.int .i64 q, .int .i64 n] w fun e w' => StrPost (shortL q n) w e w' := by
  have hN : ((clip n : Nat) : Int) ≤ 32 := by unfold clip; omega
  have hlen : (digs (q.natAbs / 4294967296)).length + (strip (frac (clip n) (q.natAbs % 4294967296))).length ≤ 900 := by
    have a1 := digs_length (q.natAbs / 4294967296) (by omega)
    have a2 := strip_length (frac (clip n) (q.natAbs % 4294967296))
    rw [frac_length] at a2
    omega
  have F : ∀ w', Below w.heap.size w w' → Calls Tryd.prog 19 #[.int .u64 ((q.natAbs / 4294967296 : Nat) : Int), .int .i64 10] w' fun e w'' => e = .returned (.string (str (digs (q.natAbs / 4294967296)))) ∧ Below w'.heap.size w' w'' :=
    fun w' hb => format_uint _ (by omega) w' (tab_below htab hb)
  have D : ∀ w', Calls Tryd.prog 21 #[.int .u32 ((q.natAbs % 4294967296 : Nat) : Int), .int .i64 (clip n : Int)] w' fun e w'' => StrPost (frac (clip n) (q.natAbs % 4294967296)) w' e w'' :=
    fun w' => digits_behind (clip n) hN _ (by omega) w'
  have T : ∀ w', Calls Tryd.prog 20 #[.string (str (frac (clip n) (q.natAbs % 4294967296))), .string ⟨#[48]⟩] w' fun e w'' => e = .returned (.string (str (strip (frac (clip n) (q.natAbs % 4294967296))))) ∧ w'' = w' :=
    fun w' => trim_zero _ w' (by rw [frac_length]; omega)
  by_cases hq : q < 0
  · have es : IntKind.u64.wrap (-(IntKind.u64.wrap q)) = ((q.natAbs : Nat) : Int) := by rw [IntKind.wrap_u64, IntKind.wrap_u64]; omega
    exact short_below q n q.natAbs (clip n) (q.natAbs / 4294967296) (q.natAbs % 4294967296) _ w (decide_eq_true hq) _ rfl es _ rfl (by unfold clip; omega) (by omega) (by rw [IntKind.wrap_u32]; omega)
      _ (by unfold shortL; rw [if_pos hq]) (Lib.hid hlen) (Lib.hid F) _ (Lib.hid D) (Lib.hid T)
  · have es : IntKind.u64.wrap q = ((q.natAbs : Nat) : Int) := by rw [IntKind.wrap_u64]; omega
    exact short_pos q n q.natAbs (clip n) (q.natAbs / 4294967296) (q.natAbs % 4294967296) _ w (decide_eq_false hq) es _ rfl (by unfold clip; omega) (by omega) (by rw [IntKind.wrap_u32]; omega)
      _ (by unfold shortL; rw [if_neg hq]) (Lib.hid hlen) (Lib.hid F) _ (Lib.hid D) (Lib.hid T)
theorem print_dec (q : Int) (w : World) (htab : Tab w) (h1 : -9223372036854775808 ≤ q) (h2 : q ≤ 9223372036854775807) :
    Calls Tryd.prog 9 #[.int .i64 q] w fun e w' => StrPost (shortL q 32) w e w' := by
  go_enter Tryd.func9, Tryd.ntmps9
  go_wp2_with (go_at_call 13; refine (short_dec q 32 w htab h1 h2).mono ?_; rintro e w' ⟨rfl, hb⟩)
  go_ret
  exact ⟨rfl, hb⟩
end Go.Proofs.YtfbpdfaofmocaaaDoor
