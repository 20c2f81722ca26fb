/- Joined: LexSize, RLex, AstMath. -/
import Derived.Test.YtlbhlncipajapaaGreatDoorPe12
import Derived.Test.YtlbhlncipajapaaGreatDoorPe10
import Derived.Test.YtlbhlncipajapaaGreatDoorPe11
import Derived.Test.YtlbhlncipajapaaGreatDoorPe09
import Derived.RangeFuncBox
import Derived.Deep.Slices
namespace Go.Proofs.YtlbhlncipajapaaGreatDoor.Lx
open Go.RowKit

theorem int_info : (Tryz.prog.info? 3).map (fun i => (i.zero, i.size, i.bytes)) = some (some (.int .i64 0), 1, 8) := by kernel_rfl
theorem wpList_append_int (w : World) {ops : Array Oper} {rest : List Oper} {o : Oper} {a : Act} {Q : Exit → Act → World → Prop}
    (hg : o.guard = none) (s x : Operand) (hop : o.op = Op.call { callee := Callee.builtin Builtin.append, args := #[s, x], argTypes := #[44, 44] })
    (base : Nat) (v : Value) (k : Nat) (xs : List Value) (hs : a.eval s = v) (hown : w.ownsRow base 3 1 v k xs) (ad : Addr) (news : List Value) (hx : a.eval x = .slice (some ad) 1 1) (hn : news.length = 1 * 1)
    (hc : ∀ j u, news[j]? = some u → w.cell? (ad.add j) = some u) (h1c : ∀ u ∈ news, u.oneCell' = true) (hk : k ≤ 40000) (b3 : base ≤ w.heap.size)
    (hK : ∀ v' w', w'.ownsRow base 3 1 v' (k + 1) (xs ++ news) → w.grownBy w' v.ownBlock → wpList Tryz.prog ops Q rest (a.put o.dst v') w') :
    wpList Tryz.prog ops Q (o :: rest) a w := by
  obtain ⟨i, h2, h3, h4, h5⟩ := info_parts int_info
  refine wpList_plain hg fun K hK' => ?_
  obtain ⟨v', w', hrun, r1, r2, _⟩ := run_append_own (P := Tryz.prog) w base 44 o.type 3 i _ 1 8 Tryz.underlying44 h2 h3 h4 h5 rfl (by decide) v k xs hown ad 1 1 news hn hc h1c (by unfold maxLen; omega) (by omega) b3
  unfold Oper.wp execOp
  simp only [hop, resolve, invoke, builtin, Sem.run_bind, Sem.run_pure, Result.andThen_ok, List.map_toArray, List.map_cons, List.map_nil, hs, hx, hrun]
  exact hK' _ _ (hK v' w' r1 r2)
def cellI (c : UInt8) : Value := .int .i64 ((c.toNat - 48 : Nat) : Int)
/-- block B holds these digits as numbers, and may be written -/
def IRow (w : World) (B : Nat) (l : List UInt8) : Prop :=
  ∀ (j : Nat) (x : UInt8), l[j]? = some x → w.cell? ⟨B, j, none⟩ = some (cellI x) ∧ w.frozen? ⟨B, j, none⟩ = false
theorem irow_set {w : World} {B : Nat} {l : List UInt8} (h : IRow w B l) (j : Nat) (x : UInt8) (hj : j < l.length) : IRow (w.setCell ⟨B, j, none⟩ (cellI x)) B (l.set j x) := fun i y hy => by
  obtain ⟨x0, h0⟩ : ∃ x0, l[j]? = some x0 := ⟨l[j], List.getElem?_eq_getElem hj⟩
  refine ⟨?_, by
    rw [World.frozen?_setCell]
    exact (h i (l[i]'(by have := (List.getElem?_eq_some_iff.1 hy).1; simpa using this)) (List.getElem?_eq_getElem _)).2⟩
  by_cases e : i = j
  · subst e
    rw [World.cell?_setCell_same _ _ _ (h i x0 h0).1]
    rw [List.getElem?_set_self hj] at hy
    cases hy
    rfl
  · rw [World.cell?_setCell_other _ _ _ _ (by simp)]
    rw [List.getElem?_set_ne (Ne.symm e)] at hy
    exact (h i y hy).1
theorem irow_next {w : World} {R : Nat} {m : List UInt8} {j : Nat} {x : UInt8} (h : IRow w R (m.take (j + 1) ++ dbl (m.drop (j + 1)))) (hx : m[j]? = some x) (r : Nat) (hr : r = (2 * (x.toNat - 48) + cry (m.drop (j + 1))) % 10) :
    IRow (w.setCell ⟨R, j, none⟩ (.int .i64 (r : Int))) R (m.take j ++ dbl (m.drop j)) := by
  have hj : j < m.length := (List.getElem?_eq_some_iff.1 hx).1
  have hd := drop_at hx
  have h4 := irow_set h j (dg r) (by simp; omega)
  have hv : cellI (dg r) = .int .i64 (r : Int) := by unfold cellI; rw [dg_val (by omega), Nat.add_sub_cancel_left]
  rw [hv] at h4
  have e1 : (m.take (j + 1) ++ dbl (m.drop (j + 1))).set j (dg r) = m.take j ++ dbl (m.drop j) := by
    rw [take_at hx, List.append_assoc, List.set_append_right _ _ (by simp; omega), hd]
    have : j - (m.take j).length = 0 := by simp; omega
    rw [this, hr]
    rfl
  rw [e1] at h4
  exact h4
theorem irow_of_owns {w : World} {base g n cap : Nat} {l : List UInt8} (h : w.ownsRow base 3 1 (.slice (some ⟨g, 0, none⟩) n cap) n (l.map cellI)) : IRow w g l := fun j x hx => by
  refine ⟨?_, ?_⟩
  · have := h.cells (g := g) rfl j (cellI x) (by rw [List.getElem?_map, hx]; rfl)
    have e : (⟨g, 0, none⟩ : Addr).add j = ⟨g, j, none⟩ := by unfold Addr.add; split <;> simp_all
    rwa [e] at this
  · rcases h.2 with ⟨h1, _⟩ | ⟨g', cap', cur, h1, _, hgg, _⟩
    · cases h1
    · cases h1
      exact Lib.frozen_of_heap hgg j
set_option maxHeartbeats 8000000 in
set_option maxRecDepth 100000 in
theorem size_plain (a : List UInt8) (n : Nat) (hn : Hid (a.length = n)) (hs : (str a).size = n) (n10 : (n : Int) ≤ 10) (hd : Hid (a.all isDig = true)) (V : Nat) (hV : Hid (numL a = V)) (vb : (V : Int) ≤ 9999999999) (Z : Int) (ov : Bool) (hZ : Hid (V ≤ 2147483648 → Z = ((V * 4294967296 : Nat) : Int) ∧ ov = decide (9223372036854775808 < V * 4294967296)) ) (hZ2 : Hid (¬ V ≤ 2147483648 → Z = 0 ∧ ov = true)) (w : World) :
    Calls Tryz.prog 80 #[.string (str a)] w fun e w' => e = .returned (.tuple #[.int .u64 Z, .bool ov]) ∧ Below w.heap.size w w' := by
  go_enter Tryz.func80, Tryz.ntmps80
  go_wp2_with fail
  go_loop [5, 4] (fun x y => ∃ k v : Nat, k ≤ n ∧ x = .int .i64 k ∧ y = .int .u64 (v : Int) ∧ Hid (v = numL (a.take k))) (fun x _ => n - litLen x)
  case atStart => exact ⟨0, 0, by omega, rfl, rfl, Lib.hid rfl⟩
  case round =>
    obtain ⟨k, v, hk, rfl, rfl, hv⟩ := hrel
    rcases Nat.lt_or_ge k n with hlt | hge
    · obtain ⟨c, hc⟩ : ∃ c, a[k]? = some c := ⟨a[k]'(by have := hn.out; omega), List.getElem?_eq_getElem _⟩
      have hix : ∀ h, (str a)[k]'h = c := fun h => str_at a hc h
      have q3 : decide ((k : Int) < (n : Int)) = true := decide_eq_true (by omega)
      have hcd := isDig_iff.1 (List.all_eq_true.1 hd.out c (List.mem_of_getElem? hc))
      have hnx : numL (a.take (k + 1)) = numL (a.take k) * 10 + (c.toNat - 48) := by rw [take_at hc, numL_snoc]
      have h1 := numL_le _ (all_take hd.out k) (by rw [List.length_take]; omega)
      have h2 := numL_le _ (all_take hd.out (k + 1)) (by rw [List.length_take]; omega)
      have hc46 : c ≠ 46 := fun e => by rw [e] at hcd; revert hcd; decide
      obtain ⟨k1, k2, k3, k4, k5⟩ := byte_ne hc46 46 rfl
      obtain ⟨X, hX⟩ : ∃ X, X = c.toNat := ⟨_, rfl⟩
      rw [← hX] at hcd hnx k3 k4 k5
      obtain ⟨y, hy⟩ : ∃ y, y = X - 48 := ⟨_, rfl⟩
      rw [← hy] at hnx
      have hv' := hv.out
      rw [← hv'] at hnx h1
      obtain ⟨v2, hv2⟩ : ∃ v2, v2 = numL (a.take (k + 1)) := ⟨_, rfl⟩
      rw [← hv2] at hnx h2
      have V2 := Lib.hid hv2
      have e0 : (X : Int) - 48 = (y : Int) := by omega
      have e1 : 10 * (v : Int) + (y : Int) = (v2 : Int) := by omega
      have e1' : (v : Int) * 10 + (y : Int) = (v2 : Int) := by omega
      have b0 : (48 : Int) ≤ (X : Int) := by omega
      have b1 : (X : Int) ≤ 57 := by omega
      have b2 : (v : Int) ≤ 9999999999 := by omega
      have b3 : (v2 : Int) ≤ 9999999999 := by omega
      have b4 : (y : Int) ≤ 9 := by omega
      have hX2 : c.toNat = X := hX.symm
      clear hX hy hv2 hnx h1 h2 hcd hc hv' hc46 hv
      go_wp2_with fail
      exact ⟨⟨k + 1, v2, by omega, rfl, rfl, V2⟩, by simp [litLen]; omega⟩
    · have q3 : decide ((k : Int) < (n : Int)) = false := decide_eq_false (by omega)
      obtain rfl : v = V := by rw [hv.out, show k = a.length by rw [hn.out]; omega, List.take_length, hV.out]
      clear hv
      obtain rfl : k = n := by omega
      go_wp2_with fail
      go_loop [5, 6] (fun i s => i = .int .i64 ((k : Int) + 1) ∧ s = .slice none 0 0) (fun _ _ => 0)
      case atStart => exact ⟨rfl, rfl⟩
      case round =>
        obtain ⟨rfl, rfl⟩ := hrel
        have q4 : decide ((k : Int) + 1 < (k : Int)) = false := decide_eq_false (by omega)
        by_cases hg : (2147483648 : Int) < (v : Int)
        · have q5 : decide ((2147483648 : Int) < (v : Int)) = true := decide_eq_true hg
          have E := Lib.hid (hZ2.out (by omega))
          go_wp2_with fail
          go_ret2
          exact ⟨by rw [E.out.1, E.out.2]; rfl, Below.refl _ _⟩
        · have q5 : decide ((2147483648 : Int) < (v : Int)) = false := decide_eq_false hg
          have E := Lib.hid (hZ.out (by omega))
          go_wp2_with fail
          go_loop [8, 7] (fun i u => ∃ κ U : Nat, κ ≤ 32 ∧ i = .int .i64 κ ∧ u = .int .u64 (U : Int) ∧ Hid (U = v * 2 ^ κ)) (fun i _ => 32 - litLen i)
          case atStart => exact ⟨0, v, by omega, rfl, rfl, Lib.hid (by simp)⟩
          case round =>
            obtain ⟨κ, U, hκ, rfl, rfl, hU⟩ := hrel
            rcases Nat.lt_or_ge κ 32 with hlt2 | hge2
            · have q6 : decide ((κ : Int) < 32) = true := decide_eq_true (by omega)
              have hb : Hid (U ≤ 4611686018427387904) := Lib.hid (by
                rw [hU.out]
                have h1 : 2 ^ κ ≤ 2 ^ 31 := Nat.pow_le_pow_right (by omega) (by omega)
                have h2 := Nat.mul_le_mul (show v ≤ 2147483648 by omega) h1
                omega)
              obtain ⟨U2, hU2⟩ : ∃ U2, U2 = 2 * U := ⟨_, rfl⟩
              have e1 : 2 * (U : Int) = (U2 : Int) := by omega
              have ub : (U2 : Int) ≤ 9223372036854775808 := by have := hb.out; omega
              have HU2 := Lib.hid (show U2 = v * 2 ^ (κ + 1) by rw [hU2, hU.out, Nat.pow_succ]; exact (Nat.mul_comm _ _).trans (Nat.mul_assoc _ _ _))
              clear hU2 hU hb
              go_wp2_with fail
              go_loop [10, 9] (fun t c => t = .int .i64 (-1) ∧ c = .int .i64 0) (fun _ _ => 0)
              case atStart => exact ⟨rfl, rfl⟩
              case round =>
                obtain ⟨rfl, rfl⟩ := hrel
                go_wp2_with fail
                exact ⟨⟨κ + 1, U2, by omega, rfl, rfl, HU2⟩, by simp [litLen]; omega⟩
            · have q6 : decide ((κ : Int) < 32) = false := decide_eq_false (by omega)
              obtain rfl : κ = 32 := by omega
              have hE := E.out
              have hU' := hU.out
              rw [show (2 : Nat) ^ 32 = 4294967296 from rfl] at hU'
              rw [← hU'] at hE
              by_cases ho : (9223372036854775808 : Int) < (U : Int)
              · have q7 : decide ((9223372036854775808 : Int) < (U : Int)) = true := decide_eq_true ho
                obtain ⟨rfl, hov⟩ := hE
                rw [decide_eq_true (by omega)] at hov
                subst hov
                clear hU hU'
                go_wp2_with fail
                go_ret2
                exact ⟨rfl, Below.refl _ _⟩
              · have q7 : decide ((9223372036854775808 : Int) < (U : Int)) = false := decide_eq_false ho
                obtain ⟨rfl, hov⟩ := hE
                rw [decide_eq_false (by omega)] at hov
                subst hov
                clear hU hU'
                go_wp2_with fail
                go_ret2
                exact ⟨rfl, Below.refl _ _⟩
set_option maxHeartbeats 16000000 in
set_option maxRecDepth 100000 in
theorem size_point (t a b : List UInt8) (n p q' : Nat) (hn : Hid (a.length = p)) (hqb : Hid (b.length = q' + 1)) (hA : Hid (∀ (j : Nat) (c : UInt8), a[j]? = some c → t[j]? = some c)) (hP : Hid (t[p]? = some 46)) (hB : Hid (∀ (j : Nat) (c : UInt8), b[j]? = some c → t[p + 1 + j]? = some c)) (hs : (str t).size = n) (en : Hid ((n : Int) = (p : Int) + 1 + (q' : Int) + 1)) (nb : (n : Int) ≤ 100) (n10 : (p : Int) ≤ 10) (q40 : (q' : Int) ≤ 39) (hd : Hid (a.all isDig = true)) (hdb : Hid (b.all isDig = true)) (V : Nat) (hV : Hid (numL a = V)) (vb : (V : Int) ≤ 9999999999) (Z : Int) (ov : Bool) (hZ : Hid (V ≤ 2147483648 → Z = ((V * 4294967296 + bitsL b : Nat) : Int) ∧ ov = decide (9223372036854775808 < V * 4294967296 + bitsL b)) ) (hZ2 : Hid (¬ V ≤ 2147483648 → Z = 0 ∧ ov = true)) (w : World) :
    Calls Tryz.prog 80 #[.string (str t)] w fun e w' => e = .returned (.tuple #[.int .u64 Z, .bool ov]) ∧ Below w.heap.size w w' := by
  go_enter Tryz.func80, Tryz.ntmps80
  go_wp2_with fail
  go_loop [5, 4] (fun x y => ∃ k v : Nat, k ≤ p ∧ x = .int .i64 k ∧ y = .int .u64 (v : Int) ∧ Hid (v = numL (a.take k))) (fun x _ => p - litLen x)
  case atStart => exact ⟨0, 0, by omega, rfl, rfl, Lib.hid rfl⟩
  case round =>
    obtain ⟨k, v, hk, rfl, rfl, hv⟩ := hrel
    rcases Nat.lt_or_ge k p with hlt | hge
    · obtain ⟨c, hc⟩ : ∃ c, a[k]? = some c := ⟨a[k]'(by have := hn.out; omega), List.getElem?_eq_getElem _⟩
      have hix : ∀ h, (str t)[k]'h = c := fun h => str_at t (hA.out k c hc) h
      have kn : (k : Int) < (n : Int) := by have := en.out; omega
      have q3 : decide ((k : Int) < (n : Int)) = true := decide_eq_true (by have := en.out; omega)
      have hcd := isDig_iff.1 (List.all_eq_true.1 hd.out c (List.mem_of_getElem? hc))
      have hnx : numL (a.take (k + 1)) = numL (a.take k) * 10 + (c.toNat - 48) := by rw [take_at hc, numL_snoc]
      have h1 := numL_le _ (all_take hd.out k) (by rw [List.length_take]; omega)
      have h2 := numL_le _ (all_take hd.out (k + 1)) (by rw [List.length_take]; omega)
      have hc46 : c ≠ 46 := fun e => by rw [e] at hcd; revert hcd; decide
      obtain ⟨k1, k2, k3, k4, k5⟩ := byte_ne hc46 46 rfl
      obtain ⟨X, hX⟩ : ∃ X, X = c.toNat := ⟨_, rfl⟩
      rw [← hX] at hcd hnx k3 k4 k5
      obtain ⟨y, hy⟩ : ∃ y, y = X - 48 := ⟨_, rfl⟩
      rw [← hy] at hnx
      have hv' := hv.out
      rw [← hv'] at hnx h1
      obtain ⟨v2, hv2⟩ : ∃ v2, v2 = numL (a.take (k + 1)) := ⟨_, rfl⟩
      rw [← hv2] at hnx h2
      have V2 := Lib.hid hv2
      have e0 : (X : Int) - 48 = (y : Int) := by omega
      have e1 : 10 * (v : Int) + (y : Int) = (v2 : Int) := by omega
      have e1' : (v : Int) * 10 + (y : Int) = (v2 : Int) := by omega
      have b0 : (48 : Int) ≤ (X : Int) := by omega
      have b1 : (X : Int) ≤ 57 := by omega
      have b2 : (v : Int) ≤ 9999999999 := by omega
      have b3 : (v2 : Int) ≤ 9999999999 := by omega
      have b4 : (y : Int) ≤ 9 := by omega
      have hX2 : c.toNat = X := hX.symm
      clear hX hy hv2 hnx h1 h2 hcd hc hv' hc46 hv
      go_wp2_with fail
      exact ⟨⟨k + 1, v2, by omega, rfl, rfl, V2⟩, by simp [litLen]; omega⟩
    · obtain rfl : v = V := by rw [hv.out, show k = a.length by rw [hn.out]; omega, List.take_length, hV.out]
      clear hv
      obtain rfl : k = p := by omega
      have q3 : decide ((k : Int) < (n : Int)) = true := decide_eq_true (by have := en.out; omega)
      have kn : (k : Int) < (n : Int) := by have := en.out; omega
      obtain ⟨d, hd46⟩ : ∃ d : UInt8, d = 46 := ⟨_, rfl⟩
      have hixp : ∀ h, (str t)[k]'h = d := fun h => str_at t (by rw [hd46]; exact hP.out) h
      have k1 : (d != 46) = false := by rw [hd46]; rfl
      have k2 : ((d.toNat : Int) != 46) = false := by rw [hd46]; rfl
      have k3 : (d.toNat : Int) = 46 := by rw [hd46]; rfl
      clear hd46
      go_wp2_with fail
      go_loopw [5, 6] (fun i s wr => ∃ j x : Nat, j ≤ q' + 1 ∧ Hid ((x : Int) = (k : Int) + 1 + (j : Int)) ∧ i = .int .i64 x ∧ Hid (wr.ownsRow w.heap.size 3 1 s j ((b.take j).map cellI)) ∧ Hid (Below w.heap.size w wr)) (fun i _ _ => n - litLen i)
      case atStart => exact ⟨0, k + 1, by omega, Lib.hid (by omega), rfl, Lib.hid (World.ownsRow_nil _ _ _ _), Lib.hid (Below.refl _ _)⟩
      case round =>
        obtain ⟨j, x, hj, hx, rfl, hO, hBw⟩ := hrel
        rcases Nat.lt_or_ge j (q' + 1) with hjl | hjg
        · have q4 : decide ((x : Int) < (n : Int)) = true := decide_eq_true (by have := hx.out; have := en.out; omega)
          have xn : (x : Int) < (n : Int) := by have := hx.out; have := en.out; omega
          obtain ⟨c, hc⟩ : ∃ c, b[j]? = some c := ⟨b[j]'(by have := hqb.out; omega), List.getElem?_eq_getElem _⟩
          have hix : ∀ h, (str t)[x]'h = c := fun h => str_at t (by rw [show x = k + 1 + j by have := hx.out; omega]; exact hB.out j c hc) h
          have hcd := isDig_iff.1 (List.all_eq_true.1 hdb.out c (List.mem_of_getElem? hc))
          have HT := Lib.hid (take_at hc)
          obtain ⟨X, hX⟩ : ∃ X, X = c.toNat := ⟨_, rfl⟩
          rw [← hX] at hcd
          obtain ⟨y, hy⟩ : ∃ y, y = X - 48 := ⟨_, rfl⟩
          have HY : Hid (cellI c = .int .i64 (y : Int)) := Lib.hid (by unfold cellI; rw [← hX, hy])
          have e0 : (X : Int) - 48 = (y : Int) := by omega
          have b0 : (48 : Int) ≤ (X : Int) := by omega
          have b1 : (X : Int) ≤ 57 := by omega
          have hX2 : c.toNat = X := hX.symm
          clear hX hy hcd hc
          go_wp2_with (at_builtin; refine wpList_append_int _ rfl _ _ rfl w.heap.size _ j _ rfl (hO.out.alloc _) ⟨wr.heap.size, 0, none⟩ [.int .i64 (y : Int)] rfl rfl (cell_one_new _ _ _) (by simp [Value.oneCell']) (by omega) (by have := hBw.out.size; simp; omega) ?_; intro v' w3 hown' hgrow; have G1 := Lib.hid hown'; have G2 := Lib.hid ((hBw.out.alloc hBw.out.size (.cells #[.int .i64 (y : Int)] 3)).grown hgrow (by have := hBw.out.size; simp; omega) (fun k hk => (hO.out.lt k hk).1)); clear hown' hgrow)
          exact ⟨⟨j + 1, x + 1, by omega, Lib.hid (by have := hx.out; omega), rfl, Lib.hid (by rw [HT.out, List.map_append, List.map_singleton, HY.out]; exact G1.out), G2⟩, by simp [litLen]; omega⟩
        · have q4 : decide ((x : Int) < (n : Int)) = false := decide_eq_false (by have := hx.out; have := en.out; omega)
          have xg : (n : Int) ≤ (x : Int) := by have := hx.out; have := en.out; omega
          obtain rfl : j = q' + 1 := by omega
          obtain ⟨g, cap, rfl⟩ := ownsRow_succ hO.out
          have HI : Hid (IRow wr g b) := Lib.hid (by
            have := hO.out
            rw [List.take_of_length_le (by rw [hqb.out]; exact Nat.le_refl _)] at this
            exact irow_of_owns this)
          have HG := Lib.hid (hO.out.lt g rfl).1
          obtain ⟨q, hq⟩ : ∃ q, q = q' + 1 := ⟨_, rfl⟩
          rw [← hq]
          have qb : (q : Int) ≤ 40 := by omega
          have hqe : Hid (b.length = q) := Lib.hid (by rw [hqb.out, hq])
          have cq : ((q' : Int) + 1) = (q : Int) := by omega
          clear hO hq
          by_cases hg : (2147483648 : Int) < (v : Int)
          · have q5 : decide ((2147483648 : Int) < (v : Int)) = true := decide_eq_true hg
            have E := Lib.hid (hZ2.out (by omega))
            go_wp2_with fail
            go_ret2
            exact ⟨by rw [E.out.1, E.out.2]; rfl, hBw.out⟩
          · have q5 : decide ((2147483648 : Int) < (v : Int)) = false := decide_eq_false hg
            have E := Lib.hid (hZ.out (by omega))
            go_wp2_with fail
            go_loopw [8, 7] (fun i u wr => ∃ (κ U B : Nat) (m : List UInt8), κ ≤ 32 ∧ i = .int .i64 κ ∧ u = .int .u64 (U : Int) ∧ Hid (U = v * 2 ^ κ + B) ∧ Hid (DblAt b κ m B) ∧ Hid (IRow wr g m) ∧ Hid (Below w.heap.size w wr)) (fun i _ _ => 32 - litLen i)
            case atStart => exact ⟨0, v, 0, b, by omega, rfl, rfl, Lib.hid (by simp), Lib.hid (dblAt_zero b hdb.out), HI, hBw⟩
            case round =>
              obtain ⟨κ, U, B, m, hκ, rfl, rfl, hU, hD, hR, hBb⟩ := hrel
              rcases Nat.lt_or_ge κ 32 with hlt2 | hge2
              · have q6 : decide ((κ : Int) < 32) = true := decide_eq_true (by omega)
                have hml : Hid (m.length = q) := Lib.hid (by rw [hD.out.2.1]; exact hqe.out)
                have hub : Hid (U ≤ 4611686020574871552) := Lib.hid (by
                  have h0 := dblAt_lt hD.out hdb.out
                  rw [hU.out]
                  have h1 : 2 ^ κ ≤ 2 ^ 31 := Nat.pow_le_pow_right (by omega) (by omega)
                  have h2 := Nat.mul_le_mul (show v ≤ 2147483648 by omega) h1
                  omega)
                obtain ⟨U1, hU1⟩ : ∃ U1, U1 = 2 * U := ⟨_, rfl⟩
                have e1 : 2 * (U : Int) = (U1 : Int) := by omega
                have ub : (U1 : Int) ≤ 9223372041149743104 := by have := hub.out; omega
                have HU1 := Lib.hid hU1
                clear hU1
                go_wp2_with fail
                go_loopw [10, 9] (fun t c wi => ∃ j C : Nat, j ≤ q ∧ t = .int .i64 ((j : Int) - 1) ∧ c = .int .i64 (C : Int) ∧ (C : Int) ≤ 1 ∧ Hid (C = cry (m.drop j)) ∧ Hid (IRow wi g (m.take j ++ dbl (m.drop j))) ∧ Hid (Below w.heap.size w wi)) (fun t _ _ => (intOf t + 1).toNat)
                case atStart =>
                  exact ⟨q, 0, Nat.le_refl _, rfl, rfl, by omega, Lib.hid (by rw [List.drop_of_length_le (by rw [hml.out]; exact Nat.le_refl _)]; rfl), Lib.hid (by rw [List.take_of_length_le (by rw [hml.out]; exact Nat.le_refl _), List.drop_of_length_le (by rw [hml.out]; exact Nat.le_refl _), show dbl [] = [] from rfl, List.append_nil]; exact hR.out), hBb⟩
                case round =>
                  obtain ⟨j, C, hj, rfl, rfl, hC1, hC, hI, hBi⟩ := hrel
                  rcases j with _ | j
                  · obtain ⟨U2, hU2⟩ : ∃ U2, U2 = U1 + C := ⟨_, rfl⟩
                    have e2 : (U1 : Int) + (C : Int) = (U2 : Int) := by omega
                    have ub2 : (U2 : Int) ≤ 9223372041149743105 := by omega
                    have c0 : (0 : Int) ≤ (C : Int) := by omega
                    have HU2 : Hid (U2 = v * 2 ^ (κ + 1) + (2 * B + cry m)) := Lib.hid (by
                      have h1 := hC.out
                      rw [List.drop_zero] at h1
                      have h2 : v * 2 ^ (κ + 1) = 2 * (v * 2 ^ κ) := by rw [Nat.pow_succ]; exact ((Nat.mul_comm _ _).trans (Nat.mul_assoc _ _ _)).symm
                      rw [hU2, HU1.out, hU.out, h2, h1]
                      omega)
                    clear hU2
                    go_wp2_with fail
                    exact ⟨⟨κ + 1, U2, 2 * B + cry m, dbl m, by omega, rfl, rfl, HU2, Lib.hid (dblAt_next hD.out), Lib.hid (by have := hI.out; rw [List.take_zero, List.drop_zero, List.nil_append] at this; exact this), hBi⟩, by simp [litLen]; omega⟩
                  · have hj2 : j < m.length := by rw [hml.out]; omega
                    obtain ⟨x', hx'⟩ : ∃ x', m[j]? = some x' := ⟨m[j], List.getElem?_eq_getElem hj2⟩
                    have hxd := isDig_iff.1 (List.all_eq_true.1 hD.out.1 x' (List.mem_of_getElem? hx'))
                    have hxr : (m.take (j + 1) ++ dbl (m.drop (j + 1)))[j]? = some x' := by
                      rw [List.getElem?_append_left (by simp; omega), List.getElem?_take, if_pos (by omega), hx']
                    obtain ⟨c1o, f1⟩ := hI.out j x' hxr
                    obtain ⟨y, hy⟩ : ∃ y, y = x'.toNat - 48 := ⟨_, rfl⟩
                    have c1 : wr.cell? ⟨g, j, none⟩ = some (.int .i64 (y : Int)) := by rw [c1o]; unfold cellI; rw [hy]
                    obtain ⟨T, hT⟩ : ∃ T, T = 2 * y + C := ⟨_, rfl⟩
                    obtain ⟨s, hs'⟩ : ∃ s, s = T / 10 := ⟨_, rfl⟩
                    obtain ⟨r, hr⟩ : ∃ r, r = T % 10 := ⟨_, rfl⟩
                    have HN := Lib.hid (irow_next hI.out hx' r (by rw [hr, hT, hy, hC.out]))
                    have HC2 : Hid (s = cry (m.drop j)) := Lib.hid (by rw [hs', hT, hy, hC.out, drop_at hx']; rfl)
                    have y9 : (y : Int) ≤ 9 := by omega
                    have y0 : (0 : Int) ≤ (y : Int) := by omega
                    have e2 : 2 * (y : Int) + (C : Int) = (T : Int) := by omega
                    have t19 : (T : Int) ≤ 19 := by omega
                    have e3 : (T : Int) / 10 = (s : Int) := by omega
                    have e4 : (T : Int) % 10 = (r : Int) := by omega
                    have e5 : Int.tdiv (T : Int) 10 = (s : Int) := by rw [Int.tdiv_eq_ediv_of_nonneg (by omega)]; exact e3
                    have e6 : Int.tmod (T : Int) 10 = (r : Int) := by rw [Int.tmod_eq_emod_of_nonneg (by omega)]; exact e4
                    have s1 : (s : Int) ≤ 1 := by omega
                    have r9 : (r : Int) ≤ 9 := by omega
                    have jq : (j : Int) < (q : Int) := by omega
                    have q7 : decide ((0 : Int) ≤ (j : Int)) = true := decide_eq_true (by omega)
                    clear hy hT hs' hr hxr hx' hxd hj2 c1o
                    rw [show ((j + 1 : Nat) : Int) - 1 = (j : Int) by omega]
                    go_wp2_with fail
                    exact ⟨⟨j, s, by omega, rfl, rfl, s1, HC2, HN, Lib.hid (hBi.out.setCell (p := ⟨g, j, none⟩) HG.out _)⟩, by simp [intOf]⟩
              · have q6 : decide ((κ : Int) < 32) = false := decide_eq_false (by omega)
                obtain rfl : κ = 32 := by omega
                have hE := E.out
                have hU' := hU.out
                rw [show (2 : Nat) ^ 32 = 4294967296 from rfl, dblAt_end hD.out] at hU'
                rw [← hU'] at hE
                by_cases ho : (9223372036854775808 : Int) < (U : Int)
                · have q7 : decide ((9223372036854775808 : Int) < (U : Int)) = true := decide_eq_true ho
                  obtain ⟨rfl, hov⟩ := hE
                  rw [decide_eq_true (by omega)] at hov
                  subst hov
                  clear hU hU'
                  go_wp2_with fail
                  go_ret2
                  exact ⟨rfl, hBb.out⟩
                · have q7 : decide ((9223372036854775808 : Int) < (U : Int)) = false := decide_eq_false ho
                  obtain ⟨rfl, hov⟩ := hE
                  rw [decide_eq_false (by omega)] at hov
                  subst hov
                  clear hU hU'
                  go_wp2_with fail
                  go_ret2
                  exact ⟨rfl, hBb.out⟩
set_option maxRecDepth 100000 in
theorem ref_size : RefSize := fun t ht W => by
  obtain ⟨h1, h2, h3, h4, h5⟩ := litL_parts ht
  have hv := numL_le (ahead t) h3 h2
  have hZ : numL (ahead t) ≤ 2147483648 → ((readL t).1 : Int) = ((numL (ahead t) * 4294967296 + bitsL (behind t) : Nat) : Int) ∧ (!(readL t).2) = decide (9223372036854775808 < numL (ahead t) * 4294967296 + bitsL (behind t)) := fun h => by
    unfold readL
    rw [if_pos ⟨ht, h⟩]
    refine ⟨by simp only [sizeL], ?_⟩
    show (!decide (numL (ahead t) * 4294967296 + bitsL (behind t) ≤ 9223372036854775808)) = _
    by_cases hh : numL (ahead t) * 4294967296 + bitsL (behind t) ≤ 9223372036854775808
    · rw [decide_eq_true hh, decide_eq_false (by omega)]; rfl
    · rw [decide_eq_false hh, decide_eq_true (by omega)]; rfl
  have hZ2 : ¬ numL (ahead t) ≤ 2147483648 → ((readL t).1 : Int) = 0 ∧ (!(readL t).2) = true := fun h => by
    unfold readL
    rw [if_neg (fun hh => h hh.2)]
    exact ⟨by simp, by simp⟩
  rcases part_cases t with hp | ⟨a, b, rfl, hp⟩
  · rw [behind_none t hp, ahead_none t hp] at *
    have e0 : bitsL [] = 0 := by unfold bitsL; rfl
    rw [e0, Nat.add_zero] at hZ
    exact size_plain t _ (Lib.hid rfl) (str_size t) (by omega) (Lib.hid h3) _ (Lib.hid rfl) (by omega) _ _ (Lib.hid hZ) (Lib.hid hZ2) W
  · have hl := ht
    rw [behind_point a b hp, ahead_point a b hp] at *
    have hb1 : 1 ≤ b.length := by
      unfold litL digitsL at hl
      have hpt : pointed (a ++ 46 :: b) = true := by unfold pointed; simp
      rw [behind_point a b hp, ahead_point a b hp, hpt] at hl
      simp only [Bool.and_eq_true, decide_eq_true_eq, Bool.not_true, Bool.false_or] at hl
      exact hl.2.2.1
    exact size_point (a ++ 46 :: b) a b _ a.length (b.length - 1) (Lib.hid rfl) (Lib.hid (by omega)) (Lib.hid fun j c h => by rw [List.getElem?_append_left (List.getElem?_eq_some_iff.1 h).1]; exact h) (Lib.hid (by rw [List.getElem?_append_right (Nat.le_refl _)]; simp)) (Lib.hid fun j c h => by rw [List.getElem?_append_right (by omega), show a.length + 1 + j - a.length = j + 1 by omega]; exact h) (str_size _) (Lib.hid (by simp only [List.length_append, List.length_cons]; omega)) (by simp only [List.length_append, List.length_cons]; omega) (by omega) (by omega) (Lib.hid h3) (Lib.hid h5) _ (Lib.hid rfl) (by omega) _ _ (Lib.hid hZ) (Lib.hid hZ2) W
end Go.Proofs.YtlbhlncipajapaaGreatDoor.Lx
namespace Go.Proofs.YtlbhlncipajapaaGreatDoor.Lx
end Go.Proofs.YtlbhlncipajapaaGreatDoor.Lx
namespace Go.Proofs.YtlbhlncipajapaaGreatDoor

/-- an expression -/
structure Ex where
  kind : Int
  a : Int
  b : Int
  c : Int
  name : ByteArray
  state : ByteArray
  v : Int
  args : List Int
  pos : Int
/-- an item -/
structure It where
  kind : Int
  name : ByteArray
  type : Int
  e : Int
  f : Int
  states : List ByteArray
  state : ByteArray
  next : ByteArray
  pos : Int
/-- a parameter -/
structure Pa where
  name : ByteArray
  type : Int
/-- a declaration -/
structure De where
  kind : Int
  name : ByteArray
  params : List Pa
  items : List It
  type : Int
  e : Int
  pos : Int
/-- a program -/
structure Pr where
  decls : List De
  exprs : List Ex

/-- how many of A, B, C are parts -/
def manyOf (k : Int) : Nat := if k = 4 ∨ k = 5 ∨ k = 16 ∨ k = 21 then 1 else if (6 ≤ k ∧ k ≤ 14) ∨ k = 17 ∨ k = 18 then 2 else if k = 15 then 3 else 0
/-- the parts of an expression -/
def partsE (x : Ex) : List Int := if x.kind = 19 then x.args else [x.a, x.b, x.c].take (manyOf x.kind)
/-- the greatest V -/
def mostV (k : Int) : Int := if k = 1 then 9223372036854775807 else if k = 2 then 1 else 0
def namedK (k : Int) : Bool := decide (k = 3) || decide (k = 19) || decide (k = 20)
/-- may an expression be, at a number -/
def mayE (x : Ex) (i : Nat) : Bool :=
  decide (1 ≤ x.kind) && decide (x.kind ≤ 21) && (partsE x).all (fun p => decide (0 ≤ p) && decide (p < (i : Int))) && ([x.a, x.b, x.c].drop (manyOf x.kind)).all (fun p => decide (p = 0)) &&
  (namedK x.kind == decide (x.name.size ≠ 0)) && (decide (x.kind = 20) == decide (x.state.size ≠ 0)) && (decide (x.kind = 19) || decide (x.args.length = 0)) && decide (0 ≤ x.v) && decide (x.v ≤ mostV x.kind)
def hasVal (k : Int) : Bool := decide (k = 1) || decide (k = 2)
def hasE (k : Int) : Bool := decide (k = 1) || decide (k = 4) || decide (k = 2) || decide (k = 3) || decide (k = 5)
def hasF (k : Int) : Bool := decide (k = 2) || decide (k = 3) || decide (k = 5) || decide (k = 7)
/-- does a number stand where it may -/
def standsE (n : Nat) (has : Bool) (e : Int) : Bool := if has then decide (0 ≤ e) && decide (e < (n : Int)) else decide (e = 0)
def mayI (n : Nat) (x : It) : Bool := standsE n (hasE x.kind) x.e && standsE n (hasF x.kind) x.f
def mayD (n : Nat) (d : De) : Bool := standsE n (hasVal d.kind) d.e && d.items.all (mayI n)
def mayX (l : List Ex) (i : Nat) : Bool := match l[i]? with | some x => mayE x i | none => true
/-- may a program be -/
def mayP (p : Pr) : Bool := (List.range p.exprs.length).all (mayX p.exprs) && p.decls.all (mayD p.exprs.length)

end Go.Proofs.YtlbhlncipajapaaGreatDoor
