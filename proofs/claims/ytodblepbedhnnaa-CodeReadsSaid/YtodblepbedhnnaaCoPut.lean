/- code.Bytes' taker: a number's bytes are put behind those that are there. -/
import Derived.Test.YtodblepbedhnnaaCoSize
import Derived.Deep.AppendLies
import Derived.Laws.BitsAllLaws
import Derived.Laws.OwnMore
import Derived.Laws.Shifts
import Derived.WalkKit
namespace Go.Proofs.Ytodblepbedhnnaa
open Go.RowKit Co

attribute [local go_sem] Oper.semAt_some

/-- bytes as cells -/
def bc (l : List UInt8) : List Value := l.map fun x => Value.int .u8 (x.toNat : Int)
theorem bc_len (l : List UInt8) : (bc l).length = l.length := by simp [bc]
theorem bc_snoc (l : List UInt8) (x : UInt8) : bc (l ++ [x]) = bc l ++ [.int .u8 (x.toNat : Int)] := by simp [bc]
/-- a row of bytes behind box X -/
structure RowB (w0 : World) (X : Nat) (l : List UInt8) (w : World) : Prop where
  below : Below w0.heap.size w0 w
  low : w0.heap.size ≤ X
  row : ∃ g cap, w.heap[X]? = some (.cells #[.slice (some ⟨g, 0, none⟩) l.length cap] 29 (0, 0)) ∧ w.ownsRow w0.heap.size 5 1 (.slice (some ⟨g, 0, none⟩) l.length cap) l.length (bc l)
theorem info_byte : (Try.prog.info? 5).map (fun i => (i.zero, i.size, i.bytes)) = some (some (.int .u8 0), 1, 1) := by kernel_rfl
theorem byte_parts : ∃ i, Try.prog.info? 5 = some i ∧ i.zero = some (.int .u8 0) ∧ i.size = 1 ∧ i.bytes = 1 := by
  obtain ⟨i, h1, h2⟩ := Option.map_eq_some_iff.1 info_byte
  simp only [Prod.mk.injEq] at h2
  exact ⟨i, h1, h2.1, h2.2.1, h2.2.2⟩
theorem own_at {w : World} {B g n cap : Nat} {xs : List Value} (h : w.ownsRow B 5 1 (.slice (some ⟨g, 0, none⟩) n cap) n xs) : B ≤ g ∧ ∃ cur : Array Value, w.heap[g]? = some (.cells cur 5 (0, 0)) ∧ n ≤ cap ∧ cap ≤ maxLen ∧ cur.size = cap ∧ cur.toList.take n = xs := by
  rcases h.2 with ⟨h1, _⟩ | ⟨g', cap', cur, h1, h2, h3, h4, h5, h6, h7⟩
  · cases h1
  · cases h1
    rw [Nat.mul_one] at h6 h7
    exact ⟨h2, cur, h3, h4, h5, h6, h7⟩
theorem own_mk {w : World} {B g n cap : Nat} {xs : List Value} (h1 : B ≤ g) {cur : Array Value} (h2 : w.heap[g]? = some (.cells cur 5 (0, 0))) (h3 : n ≤ cap) (h4 : cap ≤ maxLen) (h5 : cur.size = cap) (h6 : cur.toList.take n = xs) (h7 : xs.length = n) : w.ownsRow B 5 1 (.slice (some ⟨g, 0, none⟩) n cap) n xs :=
  ⟨by rw [h7, Nat.mul_one], .inr ⟨g, cap, cur, rfl, h1, h2, h3, h4, by rw [h5, Nat.mul_one], by rw [Nat.mul_one, h6]⟩⟩
theorem rowX_at {w : World} {X g n cap : Nat} {T : TypeId} (h : w.heap[X]? = some (.cells #[.slice (some ⟨g, 0, none⟩) n cap] T (0, 0))) : rowX X w = some g := by unfold rowX World.cell?; rw [h]; rfl
/-- what an append and its store make -/
theorem row_push {w0 w Y : World} {X : Nat} {l m : List UInt8} (h : RowB w0 X l w) {g cap g' cap' : Nat} (hX : w.heap[X]? = some (.cells #[.slice (some ⟨g, 0, none⟩) l.length cap] 29 (0, 0))) (hg : w.ownsRow w0.heap.size 5 1 (.slice (some ⟨g, 0, none⟩) l.length cap) l.length (bc l)) {o : Obj}
    (ho : Y.ownsRow w0.heap.size 5 1 (.slice (some ⟨g', 0, none⟩) (l.length + m.length) cap') (l.length + m.length) (bc l ++ bc m)) (hgr : (w.alloc o).grownBy Y (some g)) (hw : g' = g ∨ g' = w.heap.size + 1) :
    RowB w0 X (l ++ m) (Y.setCell ⟨X, 0, none⟩ (.slice (some ⟨g', 0, none⟩) (l.length + m.length) cap')) ∧ Fr X w (Y.setCell ⟨X, 0, none⟩ (.slice (some ⟨g', 0, none⟩) (l.length + m.length) cap')) := by
  obtain ⟨hB, cur, hcur, _⟩ := own_at hg
  have hXl := lt_of_heap hX
  have hgl := lt_of_heap hcur
  have hne : X ≠ g := fun e => by rw [e, hcur] at hX; injection hX with hX; injection hX with _ hT; exact absurd hT (by decide)
  have hYX : Y.heap[X]? = some (.cells #[.slice (some ⟨g, 0, none⟩) l.length cap] 29 (0, 0)) := (hgr.block X (by rw [World.size_alloc]; omega) (fun e => hne (Option.some.inj e))).trans ((Below.heap_alloc w o X hXl).trans hX)
  obtain ⟨hB', cur', hcur', hc1, hc2, hc3, hc4⟩ := own_at ho
  have hne' : g' ≠ X := fun e => by rw [e, hYX] at hcur'; injection hcur' with hX; injection hX with _ hT; exact absurd hT (by decide)
  have hZX := set_heap hYX 0 (.slice (some ⟨g', 0, none⟩) (l.length + m.length) cap')
  have hlen : (l ++ m).length = l.length + m.length := List.length_append
  have hb : Below w0.heap.size w0 Y := (h.below.alloc h.below.size o).grown hgr (by rw [World.size_alloc]; have := h.below.size; omega) (fun k e => by have := Option.some.inj e; omega)
  refine ⟨⟨hb.setCell (p := ⟨X, 0, none⟩) h.low _, h.low, g', cap', by rw [hlen]; exact hZX, ?_⟩, ?_, ?_, ?_⟩
  · rw [hlen]
    have hh : bc (l ++ m) = bc l ++ bc m := by simp [bc]
    rw [hh]
    exact own_mk hB' ((set_other hne').trans hcur') hc1 hc2 hc3 hc4 (by rw [List.length_append, bc_len, bc_len])
  · have := hgr.size
    rw [World.size_alloc] at this
    show w.heap.size ≤ (Y.heap.modify _ _).size
    rw [Array.size_modify]
    omega
  · intro k hk hkX hr
    rw [rowX_at hX] at hr
    rw [set_other hkX, hgr.block k (by rw [World.size_alloc]; omega) (fun e => hr e.symm), Below.heap_alloc w o k hk]
  · have e : rowX X (Y.setCell ⟨X, 0, none⟩ (.slice (some ⟨g', 0, none⟩) (l.length + m.length) cap')) = some g' := rowX_at hZX
    rw [e, rowX_at hX]
    rcases hw with rfl | rfl
    · exact .inl rfl
    · exact .inr ⟨_, rfl, by omega⟩
theorem or_128 : ∀ n : Fin 256, n.val ||| 128 = n.val % 128 + 128 := by decide +kernel
theorem or_byte (u : Nat) : bits .or .u8 ((u % 256 : Nat) : Int) 128 = ((u % 128 + 128 : Nat) : Int) := by
  have h := u8_or_nat (u % 256) 128 (by omega) (by omega)
  have h2 := or_128 ⟨u % 256, by omega⟩
  simp only at h2
  rw [show ((128 : Nat) : Int) = 128 from rfl] at h
  rw [h, h2]
  congr 1
  omega
/-- behind an append: the box is as it was -/
theorem box_kept {w0 w Y : World} {X g n cap : Nat} {xs : List Value} (hX : w.heap[X]? = some (.cells #[.slice (some ⟨g, 0, none⟩) n cap] 29 (0, 0))) (hg : w.ownsRow w0.heap.size 5 1 (.slice (some ⟨g, 0, none⟩) n cap) n xs) {o : Obj} (hgr : (w.alloc o).grownBy Y (some g)) :
    Y.heap[X]? = some (.cells #[.slice (some ⟨g, 0, none⟩) n cap] 29 (0, 0)) := by
  obtain ⟨hB, cur, hcur, _⟩ := own_at hg
  have hXl := lt_of_heap hX
  have hne : X ≠ g := fun e => by rw [e, hcur] at hX; injection hX with hX; injection hX with _ hT; exact absurd hT (by decide)
  exact (hgr.block X (by rw [World.size_alloc]; omega) (fun e => hne (Option.some.inj e))).trans ((Below.heap_alloc w o X hXl).trans hX)
theorem wpList_pushB {w0 Z : World} {X : Nat} {l : List UInt8} (h : Hid (RowB w0 X l Z)) {g cap : Nat} (hX : Hid (Z.heap[X]? = some (.cells #[.slice (some ⟨g, 0, none⟩) l.length cap] 29 (0, 0)))) (hg : Hid (Z.ownsRow w0.heap.size 5 1 (.slice (some ⟨g, 0, none⟩) l.length cap) l.length (bc l)))
    (x : UInt8) (z : Int) (hz : z = (x.toNat : Int)) (hk : l.length ≤ 1000000) {ops : Array Oper} {rest : List Oper} {o : Oper} {act : Act} {Q : Exit → Act → World → Prop} (hgd : o.guard = none) (s t : Operand)
    (hop : o.op = Op.call { callee := Callee.builtin Builtin.append, args := #[s, t], argTypes := #[29, 29] }) (hs : act.eval s = .slice (some ⟨g, 0, none⟩) l.length cap) {H : Nat} (hH : Z.heap.size = H) (hx : act.eval t = .slice (some ⟨H, 0, none⟩) 1 1)
    (hK : ∀ g' cap' Y, Hid (RowB w0 X (l ++ [x]) (Y.setCell ⟨X, 0, none⟩ (.slice (some ⟨g', 0, none⟩) (l.length + 1) cap')) ∧ Fr X Z (Y.setCell ⟨X, 0, none⟩ (.slice (some ⟨g', 0, none⟩) (l.length + 1) cap'))) → Y.cell? ⟨X, 0, none⟩ = some (.slice (some ⟨g, 0, none⟩) l.length cap) → Y.frozen? ⟨X, 0, none⟩ = false →
      wpList Try.prog ops Q rest (act.put o.dst (.slice (some ⟨g', 0, none⟩) (l.length + 1) cap')) Y) :
    wpList Try.prog ops Q (o :: rest) act (Z.alloc (.cells #[.int .u8 z] 5)) := by
  subst hz hH
  obtain ⟨i, h2, h3, h4, h5⟩ := byte_parts
  refine wpList_append_lies (w := _) hgd s t 29 hop w0.heap.size 5 i (.int .u8 0) 1 1 Try.underlying29 h2 h3 h4 h5 rfl (by decide) _ l.length (bc l) hs (hg.out.alloc _) ⟨Z.heap.size, 0, none⟩ 1 1 [.int .u8 (x.toNat : Int)] hx rfl (fun j u hu => ?_) (by simp [Value.oneCell']) (by decide) (by unfold maxLen; omega) (by omega) (by rw [World.size_alloc]; have := h.out.below.size; omega) _ rfl fun g' cap' Y ho hgr hw _ => ?_
  · have hj : j = 0 := by have := (List.getElem?_eq_some_iff.1 hu).1; simp at this; omega
    subst hj
    cases hu
    show (Z.alloc _).cell? ⟨Z.heap.size, 0, none⟩ = _
    rw [World.cell?_alloc_new]
    rfl
  · have hb := box_kept hX.out hg.out hgr
    refine hK g' cap' Y (Lib.hid (row_push (m := [x]) h.out hX.out hg.out ho hgr ?_)) (by simp [World.cell?, hb]) (by simp [World.frozen?, hb])
    rcases hw with h1 | h1
    · exact .inl (Option.some.inj h1).symm
    · rw [World.size_alloc] at h1; exact .inr h1
set_option maxHeartbeats 8000000 in
set_option maxRecDepth 100000 in
theorem put_any (w0 : World) (X : Nat) (l : List UInt8) (u : Nat) (hu : u < 18446744073709551616) (hl : l.length ≤ 500000) (w : World) (h : RowB w0 X l w) :
    Calls Try.prog 16 #[.int .u64 (u : Int), .pointer (some ⟨X, 0, none⟩)] w fun e w' => e = .returned (.tuple #[]) ∧ RowB w0 X (l ++ numL u) w' ∧ Fr X w w' := by
  have HR := Lib.hid h
  have HU := Lib.hid hu
  have HL := Lib.hid hl
  clear h hu hl
  go_enter Try.func16, Try.ntmps16
  go_wp2_with fail
  go_loopw [0] (fun f wr => ∃ (t : Nat) (m : List UInt8), f = .int .u64 (t : Int) ∧ t ≤ u ∧ Hid (RowB w0 X m wr) ∧ Hid (m ++ numL t = l ++ numL u) ∧ Hid (Fr X w wr)) (fun f _ => match f with | .int _ z => z.toNat | _ => 0)
  case atStart => exact ⟨u, l, rfl, Nat.le_refl _, HR, Lib.hid rfl, Lib.hid (Fr.refl _ _)⟩
  case round =>
    obtain ⟨t, m, rfl, ht, hR, hM, hF⟩ := hrel
    have hml : Hid (m.length ≤ 600000) := Lib.hid (by
      have h1 := congrArg List.length hM.out
      have h2 := numL_ten HU.out
      have h3 := HL.out
      rw [List.length_append, List.length_append] at h1
      omega)
    have tb : (t : Int) ≤ 18446744073709551615 := by have := HU.out; omega
    obtain ⟨g, cap, hX, hg⟩ := hR.out.row
    have c0 : wr.cell? ⟨X, 0, none⟩ = some (.slice (some ⟨g, 0, none⟩) m.length cap) := by simp [World.cell?, hX]
    have HX := Lib.hid hX
    have HG := Lib.hid hg
    clear hX hg
    rcases Nat.lt_or_ge t 128 with h1 | h1
    · have q1 : decide ((128 : Int) ≤ (t : Int)) = false := decide_eq_false (by omega)
      have hz : (t : Int) = ((UInt8.ofNat t).toNat : Int) := by rw [byte_val (by omega)]
      have HZ := Lib.hid hz
      have HM : Hid (m ++ [UInt8.ofNat t] = l ++ numL u) := Lib.hid (by rw [← hM.out, numL_small h1])
      clear hz hM
      go_wp2_with (at_builtin; refine wpList_pushB hR HX HG (UInt8.ofNat t) _ HZ.out (by have := hml.out; omega) rfl (.tmp 13) (.tmp 16) rfl rfl rfl rfl ?_; intro g1 cap1 Y HP hc1 hf1)
      go_end0
      have h := HP.out
      rw [HM.out] at h
      exact ⟨rfl, h.1, hF.out.trans h.2⟩
    · have q1 : decide ((128 : Int) ≤ (t : Int)) = true := decide_eq_true (by omega)
      have hz : bits .or .u8 ((t : Int) % 256) 128 = ((UInt8.ofNat (t % 128 + 128)).toNat : Int) := by
        rw [byte_val (by omega), ← or_byte]
        congr 1
      have HZ := Lib.hid hz
      have HM : Hid ((m ++ [UInt8.ofNat (t % 128 + 128)]) ++ numL (t / 128) = l ++ numL u) := Lib.hid (by rw [← hM.out, numL_big h1]; simp)
      have HT : Hid (t / 128 ≤ u ∧ t / 128 < t) := Lib.hid ⟨by omega, by omega⟩
      have xd : (t : Int).fdiv (2 ^ min (Int.toNat 7) IntKind.u64.bits) = ((t / 128 : Nat) : Int) := by
        rw [show (2 : Int) ^ min (Int.toNat 7) IntKind.u64.bits = 128 from rfl, Int.fdiv_eq_ediv_of_nonneg _ (by omega)]; omega
      clear hz hM
      go_wp2_with (at_builtin; refine wpList_pushB hR HX HG (UInt8.ofNat (t % 128 + 128)) _ HZ.out (by have := hml.out; omega) rfl (.tmp 7) (.tmp 11) rfl rfl rfl rfl ?_; intro g1 cap1 Y HP hc1 hf1)
      exact ⟨⟨t / 128, m ++ [UInt8.ofNat (t % 128 + 128)], rfl, HT.out.1, Lib.hid HP.out.1, HM, Lib.hid (hF.out.trans HP.out.2)⟩, by have := HT.out.2; simp; omega⟩
theorem put_run (args : Array Value) (w : World) : (callFunc 16 args).run Try.prog w = .ok (.enter 16 args) w := by
  go_simp
/-- the signs, and numbers behind them -/
def rowN (us : List Nat) : List UInt8 := signs ++ us.flatMap numL
structure PtI (w0 : World) (X : Nat) (us : List Nat) (w : World) : Prop where
  row : RowB w0 X (rowN us) w
  most : (rowN us).length ≤ 4 + 10 * us.length
theorem row_lt {w0 w : World} {X : Nat} {l : List UInt8} (h : RowB w0 X l w) : X < w.heap.size ∧ ∀ r, rowX X w = some r → r < w.heap.size := by
  obtain ⟨g, cap, hX, hg⟩ := h.row
  obtain ⟨_, cur, hc, _⟩ := own_at hg
  refine ⟨lt_of_heap hX, fun r hr => ?_⟩
  rw [rowX_at hX] at hr
  cases hr
  exact lt_of_heap hc
theorem RowB.alloc {w0 w : World} {X : Nat} {l : List UInt8} (h : RowB w0 X l w) (o : Obj) : RowB w0 X l (w.alloc o) := by
  obtain ⟨h1, _⟩ := row_lt h
  obtain ⟨g, cap, hX, hg⟩ := h.row
  exact ⟨h.below.alloc h.below.size o, h.low, g, cap, (Below.heap_alloc w o X h1).trans hX, hg.alloc o⟩
theorem pt_taker (w0 : World) (X : Nat) : Taker 16 X w0 (PtI w0 X) where
  run := put_run
  take := fun us u w h1 h2 h3 => (put_any w0 X (rowN us) u h2 (by have := h3.most; omega) w h3.row).mono fun e w' ⟨k1, k2, k3⟩ => by
    have e1 : rowN us ++ numL u = rowN (us ++ [u]) := by simp [rowN]
    rw [e1] at k2
    refine ⟨k1, ⟨k2, ?_⟩, k3⟩
    rw [← e1, List.length_append, List.length_append, List.length_singleton]
    have := h3.most
    have := numL_ten h2
    omega
  more := fun {us w} o h => ⟨h.row.alloc o, h.most⟩
  lt := fun {us w} h => row_lt h.row
  below := fun h => h.row.below
end Go.Proofs.Ytodblepbedhnnaa
