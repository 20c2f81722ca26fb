/- The law DecOrder. -/
import Derived.Test.YtfbpdfaofmocaaaDoorDecSigns
import Derived.Test.YtfbpdfaofmocaaaDoorRefLit
namespace Go.Proofs.YtfbpdfaofmocaaaDoor
open Go.RowKit

structure OrderGives (S T : ByteArray) (z1 z2 : Nat) (c1 c2 : Bool) (w : World) : Prop where
  a : Calls Tryd.prog 8 #[] w fun e w' => AlivePost w e w'
  e1 : S.size = z1
  e2 : T.size = z2
  l1 : ∀ w', Calls Tryd.prog 14 #[.string S] w' fun e w'' => e = .returned (.bool c1) ∧ w'' = w'
  l2 : ∀ w', Calls Tryd.prog 14 #[.string T] w' fun e w'' => e = .returned (.bool c2) ∧ w'' = w'
set_option maxHeartbeats 2000000 in
theorem order_far (S T : ByteArray) (z1 z2 : Nat) (e1 : S.size = z1) (e2 : T.size = z2) (w : World) (A : Hid (Calls Tryd.prog 8 #[] w fun e w' => AlivePost w e w'))
    (h : (100 : Int) < (z1 : Int) ∨ ¬ (z1 : Int) = (z2 : Int)) :
    Calls Tryd.prog 6 #[.string S, .string T] w fun e w' => AlivePost w e w' := by
  by_cases h1 : (100 : Int) < (z1 : Int)
  · have q1 : decide ((100 : Int) < (z1 : Int)) = true := decide_eq_true h1
    go_enter Tryd.func6, Tryd.ntmps6
    go_wp2_with (first
      | (go_at_call 8; refine A.out.mono ?_; rintro e w1 ⟨rfl, b1⟩; have B1 := Lib.hid b1; clear b1))
    go_ret
    exact ⟨rfl, B1.out⟩
  · have q1 : decide ((100 : Int) < (z1 : Int)) = false := decide_eq_false h1
    have h2 : ¬ (z1 : Int) = (z2 : Int) := h.resolve_left h1
    have q2 : ((z1 : Int) != (z2 : Int)) = true := bne_iff_ne.2 h2
    go_enter Tryd.func6, Tryd.ntmps6
    go_wp2_with (first
      | (go_at_call 8; refine A.out.mono ?_; rintro e w1 ⟨rfl, b1⟩; have B1 := Lib.hid b1; clear b1))
    go_ret
    exact ⟨rfl, B1.out⟩
set_option maxHeartbeats 2000000 in
theorem order_early (S T : ByteArray) (n : Nat) (c1 c2 : Bool) (w : World) (G : OrderGives S T n n c1 c2 w) (h1 : ¬ (100 : Int) < (n : Int))
    (h : c1 = false ∨ c2 = false ∨ (Op.bytesLess S.toList T.toList || S.toList == T.toList) = false) :
    Calls Tryd.prog 6 #[.string S, .string T] w fun e w' => AlivePost w e w' := by
  obtain ⟨a, e1, e2, l1, l2⟩ := G
  have A := Lib.hid a
  have L1 := Lib.hid l1
  have L2 := Lib.hid l2
  clear a l1 l2
  have q1 : decide ((100 : Int) < (n : Int)) = false := decide_eq_false h1
  cases c1 with
  | false =>
    go_enter Tryd.func6, Tryd.ntmps6
    go_wp2_with (first
      | (go_at_call 8; refine A.out.mono ?_; rintro e w1 ⟨rfl, b1⟩; have B1 := Lib.hid b1; clear b1)
      | (go_at_call 14; ((with_reducible refine (L1.out _).mono ?_); rintro e w2 ⟨rfl, rfl⟩)))
    go_ret
    exact ⟨rfl, B1.out⟩
  | true =>
    cases c2 with
    | false =>
      go_enter Tryd.func6, Tryd.ntmps6
      go_wp2_with (first
        | (go_at_call 8; refine A.out.mono ?_; rintro e w1 ⟨rfl, b1⟩; have B1 := Lib.hid b1; clear b1)
        | (go_at_call 14; ((with_reducible refine (L1.out _).mono ?_); rintro e w2 ⟨rfl, rfl⟩))
        | (go_at_call 14; ((with_reducible refine (L2.out _).mono ?_); rintro e w3 ⟨rfl, rfl⟩)))
      all_goals (
        go_ret
        exact ⟨rfl, B1.out⟩)
    | true =>
      have hc : (Op.bytesLess S.toList T.toList || S.toList == T.toList) = false := by
        rcases h with h | h | h
        · cases h
        · cases h
        · exact h
      go_enter Tryd.func6, Tryd.ntmps6
      go_wp2_with (first
        | (go_at_call 8; refine A.out.mono ?_; rintro e w1 ⟨rfl, b1⟩; have B1 := Lib.hid b1; clear b1)
        | (go_at_call 14; ((with_reducible refine (L1.out _).mono ?_); rintro e w2 ⟨rfl, rfl⟩))
        | (go_at_call 14; ((with_reducible refine (L2.out _).mono ?_); rintro e w3 ⟨rfl, rfl⟩)))
      go_ret
      exact ⟨rfl, B1.out⟩

structure OrderParse (S T : ByteArray) (p q : Int) (ok is : Bool) : Prop where
  p1 : ∀ w', Calls Tryd.prog 15 #[.string S] w' fun e w'' => e = .returned (.tuple #[.int .i64 p, .bool ok]) ∧ Below w'.heap.size w' w''
  p2 : ∀ w', Calls Tryd.prog 15 #[.string T] w' fun e w'' => e = .returned (.tuple #[.int .i64 q, .bool is]) ∧ Below w'.heap.size w' w''
theorem shape_take {l : List UInt8} {k : Nat} {c : UInt8} (h : l[k]? = some c) : shape (l.take (k + 1)) = shape (l.take k) ++ [c == 46] := by
  rw [take_at h]; unfold shape; rw [List.map_append]; rfl
set_option maxHeartbeats 4000000 in
theorem order_late (l m : List UInt8) (n : Nat) (w : World) (G : OrderGives (str l) (str m) n n true true w) (hl : l.length = n) (hm : m.length = n) (hn : (n : Int) ≤ 100)
    (hc : (Op.bytesLess l m || l == m) = true) (p q : Int) (ok is : Bool) (hP : OrderParse (str l) (str m) p q ok is) (hs : shape l = shape m → is = true → ok = true ∧ p ≤ q) :
    Calls Tryd.prog 6 #[.string (str l), .string (str m)] w fun e w' => AlivePost w e w' := by
  obtain ⟨a, e1, e2, l1, l2⟩ := G
  obtain ⟨p1, p2⟩ := hP
  have A := Lib.hid a
  have L1 := Lib.hid l1
  have L2 := Lib.hid l2
  have P1 := Lib.hid p1
  have P2 := Lib.hid p2
  have HS := Lib.hid hs
  have HL := Lib.hid hl
  have HM := Lib.hid hm
  clear a l1 l2 p1 p2 hs hl hm
  have q1 : decide ((100 : Int) < (n : Int)) = false := decide_eq_false (by omega)
  have hc' : (Op.bytesLess (str l).toList (str m).toList || (str l).toList == (str m).toList) = true := by rw [str_toList, str_toList]; exact hc
  clear hc
  go_enter Tryd.func6, Tryd.ntmps6
  go_wp2_with (first
    | (go_at_call 8; refine A.out.mono ?_; rintro e w1 ⟨rfl, b1⟩; have B1 := Lib.hid b1; clear b1)
    | (go_at_call 14; ((with_reducible refine (L1.out _).mono ?_); rintro e w2 ⟨rfl, rfl⟩))
    | (go_at_call 14; ((with_reducible refine (L2.out _).mono ?_); rintro e w3 ⟨rfl, rfl⟩)))
  go_loopw [5] (fun i wr => ∃ k : Nat, k ≤ n ∧ Hid (shape (l.take k) = shape (m.take k)) ∧ i = .int .i64 k ∧ Hid (Below w.heap.size w wr)) (fun i _ => n - litLen i)
  case atStart => exact ⟨0, by omega, Lib.hid rfl, rfl, B1⟩
  case round =>
    obtain ⟨k, hk, hsh, rfl, hB⟩ := hrel
    rcases Nat.lt_or_ge k n with hlt | hge
    · obtain ⟨c, hcl⟩ : ∃ c, l[k]? = some c := ⟨l[k]'(by have := HL.out; omega), List.getElem?_eq_getElem _⟩
      obtain ⟨d, hdm⟩ : ∃ d, m[k]? = some d := ⟨m[k]'(by have := HM.out; omega), List.getElem?_eq_getElem _⟩
      have hix : ∀ h, (str l)[k]'h = c := fun h => str_at l hcl h
      have hiy : ∀ h, (str m)[k]'h = d := fun h => str_at m hdm h
      have q3 : decide ((k : Int) < (n : Int)) = true := decide_eq_true (by omega)
      have T1 := Lib.hid (shape_take hcl)
      have T2 := Lib.hid (shape_take hdm)
      clear hcl hdm
      have mixed : Tryd.prog.follows Departure.mixedOrders = true := by kernel_rfl
      have I1 : ∀ w, (Instr.index 9 (.string (str l)) (.int .i64 (k : Int))).run Tryd.prog w = .ok (.int .u8 (c.toNat : Int)) w := fun w => by
        rw [run_index_string w 9 (str l) .i64 (k : Int) Tryd.underlying9, dif_pos ⟨by omega, by rw [e1]; omega⟩]
        rw [← hix (by rw [e1]; omega)]; rfl
      have I2 : ∀ w, (Instr.index 9 (.string (str m)) (.int .i64 (k : Int))).run Tryd.prog w = .ok (.int .u8 (d.toNat : Int)) w := fun w => by
        rw [run_index_string w 9 (str m) .i64 (k : Int) Tryd.underlying9, dif_pos ⟨by omega, by rw [e2]; omega⟩]
        rw [← hiy (by rw [e2]; omega)]; rfl
      by_cases c46 : c = 46
      · have nc : (c.toNat : Int) = 46 := by rw [c46]; rfl
        rw [nc] at I1
        by_cases d46 : d = 46
        · have nd : (d.toNat : Int) = 46 := by rw [d46]; rfl
          rw [nd] at I2
          have hbb : (c == 46) = (d == 46) := by rw [c46, d46]
          clear hix hiy
          go_wp2_with fail
          go_region_o
          go_wp2_with fail
          exact ⟨⟨k + 1, by omega, Lib.hid (by rw [T1.out, T2.out, hsh.out, hbb]), rfl, Lib.hid hB.out.drew⟩, by simp [litLen]; omega⟩
        · have nd : ¬ (d.toNat : Int) = 46 := fun e => d46 (UInt8.toNat_inj.1 (by show d.toNat = 46; omega))
          have nd' : ((d.toNat : Int) == 46) = false := beq_false_of_ne nd
          clear hix hiy
          go_wp2_with fail
          go_region_o
          go_wp2_with fail
          go_ret
          exact ⟨rfl, hB.out.drew⟩
      · have nc : ¬ (c.toNat : Int) = 46 := fun e => c46 (UInt8.toNat_inj.1 (by show c.toNat = 46; omega))
        have nc' : ((c.toNat : Int) == 46) = false := beq_false_of_ne nc
        by_cases d46 : d = 46
        · have nd : (d.toNat : Int) = 46 := by rw [d46]; rfl
          rw [nd] at I2
          clear hix hiy
          go_wp2_with fail
          go_region_o
          go_wp2_with fail
          go_ret
          exact ⟨rfl, hB.out.drew⟩
        · have nd : ¬ (d.toNat : Int) = 46 := fun e => d46 (UInt8.toNat_inj.1 (by show d.toNat = 46; omega))
          have nd' : ((d.toNat : Int) == 46) = false := beq_false_of_ne nd
          have hbb : (c == 46) = (d == 46) := by rw [beq_false_of_ne c46, beq_false_of_ne d46]
          clear hix hiy
          go_wp2_with fail
          go_region_o
          go_wp2_with fail
          exact ⟨⟨k + 1, by omega, Lib.hid (by rw [T1.out, T2.out, hsh.out, hbb]), rfl, Lib.hid hB.out.drew⟩, by simp [litLen]; omega⟩
    · have q3 : decide ((k : Int) < (n : Int)) = false := decide_eq_false (by omega)
      have hsl : shape l = shape m := by
        have := hsh.out
        rw [List.take_of_length_le (by rw [HL.out]; exact hge), List.take_of_length_le (by rw [HM.out]; exact hge)] at this
        exact this
      have hfin := HS.out hsl
      clear hsl hsh
      cases is with
      | false =>
        go_wp2_with (first
          | (go_at_call 15; ((with_reducible refine (P1.out _).mono ?_); rintro e w2 ⟨rfl, b2⟩; have B2 := Lib.hid (hB.out.trans (b2.mono hB.out.size)); clear b2))
          | (go_at_call 15; ((with_reducible refine (P2.out _).mono ?_); rintro e w3 ⟨rfl, b3⟩; have B3 := Lib.hid (B2.out.trans (b3.mono B2.out.size)); clear b3)))
        go_ret
        exact ⟨rfl, B3.out⟩
      | true =>
        obtain ⟨rfl, hpq⟩ := hfin rfl
        have q4 : decide (p ≤ q) = true := decide_eq_true hpq
        clear hfin
        go_wp2_with (first
          | (go_at_call 15; ((with_reducible refine (P1.out _).mono ?_); rintro e w2 ⟨rfl, b2⟩; have B2 := Lib.hid (hB.out.trans (b2.mono hB.out.size)); clear b2))
          | (go_at_call 15; ((with_reducible refine (P2.out _).mono ?_); rintro e w3 ⟨rfl, b3⟩; have B3 := Lib.hid (B2.out.trans (b3.mono B2.out.size)); clear b3)))
        go_ret
        exact ⟨rfl, B3.out⟩
theorem order_holds (S T : ByteArray) (w : World) (tab : Tab w) :
    Calls Tryd.prog 6 #[.string S, .string T] w fun e w' => AlivePost w e w' := by
  by_cases h : (100 : Int) < (S.size : Int) ∨ ¬ (S.size : Int) = (T.size : Int)
  · exact order_far S T _ _ rfl rfl w (Lib.hid (alive_any w tab)) h
  · obtain ⟨h1, h2⟩ : ¬ (100 : Int) < (S.size : Int) ∧ (S.size : Int) = (T.size : Int) := ⟨fun e => h (Or.inl e), Classical.byContradiction fun e => h (Or.inr e)⟩
    clear h
    obtain ⟨l, rfl⟩ : ∃ l, S = str l := ⟨_, str_of S⟩
    obtain ⟨m, rfl⟩ : ∃ m, T = str m := ⟨_, str_of T⟩
    rw [str_size] at h1 h2
    rw [str_size] at h2
    have hm : m.length = l.length := by omega
    have G : OrderGives (str l) (str m) l.length l.length (litR l) (litR m) w := ⟨alive_any w tab, str_size l, (str_size m).trans hm, fun w' => lit_ref l (by omega) w', fun w' => lit_ref m (by omega) w'⟩
    by_cases he : litR l = false ∨ litR m = false ∨ (Op.bytesLess (str l).toList (str m).toList || (str l).toList == (str m).toList) = false
    · exact order_early _ _ _ _ _ w G h1 he
    · have k1 : litR l = true := by cases hr : litR l with
        | true => rfl
        | false => exact absurd (Or.inl hr) he
      have k2 : litR m = true := by cases hr : litR m with
        | true => rfl
        | false => exact absurd (Or.inr (Or.inl hr)) he
      have k3 : (Op.bytesLess l m || l == m) = true := by
        cases hr : (Op.bytesLess l m || l == m) with
        | true => rfl
        | false => exact absurd (Or.inr (Or.inr (by rw [str_toList, str_toList]; exact hr))) he
      rw [k1, k2] at G
      refine order_late l m l.length w G rfl hm (by omega) k3 ((parseL l).1 : Int) ((parseL m).1 : Int) (parseL l).2 (parseL m).2 ⟨fun w' => parse_dec l w' (by omega), fun w' => parse_dec m w' (by omega)⟩ (fun hs hp => ?_)
      have k4 : Op.bytesLess l m = true ∨ l = m := by
        rw [Bool.or_eq_true] at k3
        rcases k3 with k3 | k3
        · exact Or.inl k3
        · exact Or.inr (by simpa using k3)
      obtain ⟨r1, r2⟩ := parse_order (litR_lit k1) (litR_lit k2) hs k4 hp
      exact ⟨r1, by omega⟩
end Go.Proofs.YtfbpdfaofmocaaaDoor
