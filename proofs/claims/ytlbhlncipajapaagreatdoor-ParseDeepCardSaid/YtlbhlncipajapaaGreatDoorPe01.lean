/- Joined: LexCls, LexRun, LexWords. -/
import Derived.Test.YtlbhlncipajapaaGreatDoorPe00
import Derived.Lib.Hide
import Derived.WalkKit
import Derived.Below
import Derived.Maps.OwnSet
namespace Go.Proofs.YtlbhlncipajapaaGreatDoor.Lx
open Go.RowKit

/-- function k stands in the program -/
def Enters (k : FuncId) : Prop := ∀ args w, (callFunc k args).run Tryz.prog w = .ok (.enter k args) w
/-- a function value that tells whether a byte is of a class, wherever what lay is as it was -/
def ClassAt (w : World) (v : Value) (p : UInt8 → Bool) : Prop :=
  ∃ k lb, v = .func (.func k) #[] lb ∧ Enters k ∧
    ∀ w', Below w.heap.size w w' → ∀ c : UInt8, Calls Tryz.prog k (#[.int .u8 (c.toNat : Int)] ++ lb) w' fun e w'' => e = .returned (.bool (p c)) ∧ w'' = w'
theorem ClassAt.mono {w w1 : World} {v : Value} {p : UInt8 → Bool} (h : ClassAt w v p) (hb : Below w.heap.size w w1) : ClassAt w1 v p := by
  obtain ⟨k, lb, hv, ek, hc⟩ := h
  exact ⟨k, lb, hv, ek, fun w' hb' c => hc w' (hb.trans (hb'.mono hb.size)) c⟩
theorem ClassAt.congr {w : World} {v : Value} {p q : UInt8 → Bool} (h : ClassAt w v p) (e : ∀ c, p c = q c) : ClassAt w v q := by
  obtain rfl : p = q := funext e
  exact h
/-- .. and that reads blocks from g on alone -/
def ClassFrom (g : Nat) (w : World) (v : Value) (p : UInt8 → Bool) : Prop :=
  ∃ k lb, v = .func (.func k) #[] lb ∧ Enters k ∧ ∃ L : List Nat, (∀ b ∈ L, g ≤ b ∧ b < w.heap.size) ∧
    ∀ w' : World, (∀ b ∈ L, w'.heap[b]? = w.heap[b]?) → ∀ c : UInt8, Calls Tryz.prog k (#[.int .u8 (c.toNat : Int)] ++ lb) w' fun e w'' => e = .returned (.bool (p c)) ∧ w'' = w'
theorem ClassFrom.at_ {g : Nat} {w : World} {v : Value} {p : UInt8 → Bool} (h : ClassFrom g w v p) : ClassAt w v p := by
  obtain ⟨k, lb, hv, ek, L, hL, hc⟩ := h
  exact ⟨k, lb, hv, ek, fun w' hb c => hc w' (fun b hm => hb.block b (hL b hm).2) c⟩
theorem ClassFrom.kept {g B : Nat} {w w1 : World} {v : Value} {p : UInt8 → Bool} (h : ClassFrom g w v p) (hk : ∀ b, g ≤ b → b < w.heap.size → w1.heap[b]? = w.heap[b]?) (hs : w.heap.size ≤ w1.heap.size) (hB : B ≤ g) : ClassFrom B w1 v p := by
  obtain ⟨k, lb, hv, ek, L, hL, hc⟩ := h
  exact ⟨k, lb, hv, ek, L, fun b hm => ⟨Nat.le_trans hB (hL b hm).1, Nat.lt_of_lt_of_le (hL b hm).2 hs⟩, fun w' hw c => hc w' (fun b hm => (hw b hm).trans (hk b (hL b hm).1 (hL b hm).2)) c⟩
theorem ClassFrom.mono {g : Nat} {w w1 : World} {v : Value} {p : UInt8 → Bool} (h : ClassFrom g w v p) (hb : Below w.heap.size w w1) : ClassFrom g w1 v p := h.kept (fun b _ h2 => hb.block b h2) hb.size (Nat.le_refl _)
theorem ClassFrom.low {g B : Nat} {w : World} {v : Value} {p : UInt8 → Bool} (h : ClassFrom g w v p) (hB : B ≤ g) : ClassFrom B w v p := h.kept (fun _ _ _ => rfl) (Nat.le_refl _) hB
theorem ClassFrom.congr {g : Nat} {w : World} {v : Value} {p q : UInt8 → Bool} (h : ClassFrom g w v p) (e : ∀ c, p c = q c) : ClassFrom g w v q := by
  obtain rfl : p = q := funext e
  exact h
/-- a class comes back, and what lay is as it was -/
def GivesClass (g : Nat) (w : World) (p : UInt8 → Bool) (e : Ending) (w' : World) : Prop := ∃ v, e = .returned v ∧ ClassFrom g w' v p ∧ Below w.heap.size w w'
theorem cell_same {w w' : World} {b : Nat} (h : w'.heap[b]? = w.heap[b]?) (j : Nat) : w'.cell? ⟨b, j, none⟩ = w.cell? ⟨b, j, none⟩ := World.cell?_of_block (w := w) h
theorem byte_u8 (c : UInt8) : ((c.toNat : Int).toNat).toUInt8 = c := by simp

theorem span1_any (A B : Nat) (x y c : Int) (w : World) (h1 : w.cell? ⟨A, 0, none⟩ = some (.int .u8 x)) (h2 : w.cell? ⟨B, 0, none⟩ = some (.int .u8 y)) (R : Bool) (hR : Hid (R = (decide (x ≤ c) && decide (c ≤ y)))) :
    Calls Tryz.prog 106 #[.int .u8 c, .pointer (some ⟨A, 0, none⟩), .pointer (some ⟨B, 0, none⟩)] w fun e w' => e = .returned (.bool R) ∧ w' = w := by
  by_cases hx : x ≤ c
  · have q1 : decide (x ≤ c) = true := decide_eq_true hx
    by_cases hy : c ≤ y
    · have q2 : decide (c ≤ y) = true := decide_eq_true hy
      obtain rfl : R = true := by rw [hR.out, q1, q2]; rfl
      clear hR
      go_enter Tryz.func106, Tryz.ntmps106
      go_wp2_with fail
      go_ret
      exact ⟨rfl, rfl⟩
    · have q2 : decide (c ≤ y) = false := decide_eq_false hy
      obtain rfl : R = false := by rw [hR.out, q1, q2]; rfl
      clear hR
      go_enter Tryz.func106, Tryz.ntmps106
      go_wp2_with fail
      go_ret
      exact ⟨rfl, rfl⟩
  · have q1 : decide (x ≤ c) = false := decide_eq_false hx
    obtain rfl : R = false := by rw [hR.out, q1]; rfl
    clear hR
    go_enter Tryz.func106, Tryz.ntmps106
    go_wp2_with fail
    go_ret
    exact ⟨rfl, rfl⟩
theorem enters_span1 : Enters 106 := enters_of Tryz.func106 (by kernel_rfl) rfl
theorem span_any (x y : Int) (w : World) (g : Nat) (hg : g ≤ w.heap.size) :
    Calls Tryz.prog 93 #[.int .u8 x, .int .u8 y] w fun e w' => GivesClass g w (fun c => decide (x ≤ (c.toNat : Int)) && decide ((c.toNat : Int) ≤ y)) e w' := by
  go_enter Tryz.func93, Tryz.ntmps93
  go_wp2_with fail
  go_ret
  refine ⟨_, rfl, ⟨_, _, rfl, enters_span1, [w.heap.size, w.heap.size + 1], fun b hb => ?_, fun w' hb c => ?_⟩, ((Below.refl _ w).alloc (Nat.le_refl _) _).alloc (by simp) _⟩
  · simp at hb
    rcases hb with rfl | rfl
    · exact ⟨hg, by simp; omega⟩
    · exact ⟨by omega, by simp⟩
  have c1 : w'.cell? ⟨w.heap.size, 0, none⟩ = some (.int .u8 x) := (cell_same (hb w.heap.size (by simp)) 0).trans (by rw [World.cell?_alloc_old _ _ _ (by simp), World.cell?_alloc_new]; rfl)
  have c2 : w'.cell? ⟨w.heap.size + 1, 0, none⟩ = some (.int .u8 y) := (cell_same (hb (w.heap.size + 1) (by simp)) 0).trans (by
    have h := World.cell?_alloc_new (w.alloc (.cells #[.int .u8 x] 5)) #[.int .u8 y] 5 0
    rw [World.size_alloc] at h
    rw [h]; rfl)
  exact span1_any w.heap.size (w.heap.size + 1) x y c.toNat w' c1 c2 _ (Lib.hid rfl)

theorem among1_any (A : Nat) (S : ByteArray) (c : UInt8) (w : World) (h1 : w.cell? ⟨A, 0, none⟩ = some (.string S)) (R : Bool) (hR : Hid (R = decide (0 ≤ Lib.indexByte S.data.toList c))) :
    Calls Tryz.prog 108 #[.int .u8 (c.toNat : Int), .pointer (some ⟨A, 0, none⟩)] w fun e w' => e = .returned (.bool R) ∧ w' = w := by
  have hI := Tryz.strings_IndexByte S (c.toNat : Int) w
  rw [byte_u8] at hI
  obtain ⟨i, hi⟩ : ∃ i, i = Lib.indexByte S.data.toList c := ⟨_, rfl⟩
  rw [← hi] at hI hR
  have H := Lib.hid hI
  clear hI hi
  by_cases h0 : 0 ≤ i
  · have q : decide (0 ≤ i) = true := decide_eq_true h0
    obtain rfl : R = true := by rw [hR.out, q]
    clear hR
    go_enter Tryz.func108, Tryz.ntmps108
    go_wp2_with (go_at_call 109; refine H.out.mono ?_; rintro e w' ⟨rfl, rfl⟩)
    go_ret
    exact ⟨rfl, rfl⟩
  · have q : decide (0 ≤ i) = false := decide_eq_false h0
    obtain rfl : R = false := by rw [hR.out, q]
    clear hR
    go_enter Tryz.func108, Tryz.ntmps108
    go_wp2_with (go_at_call 109; refine H.out.mono ?_; rintro e w' ⟨rfl, rfl⟩)
    go_ret
    exact ⟨rfl, rfl⟩
theorem enters_among1 : Enters 108 := enters_of Tryz.func108 (by kernel_rfl) rfl
theorem among_any (S : ByteArray) (w : World) (g : Nat) (hg : g ≤ w.heap.size) :
    Calls Tryz.prog 95 #[.string S] w fun e w' => GivesClass g w (fun c => decide (0 ≤ Lib.indexByte S.data.toList c)) e w' := by
  go_enter Tryz.func95, Tryz.ntmps95
  go_wp2_with fail
  go_ret
  refine ⟨_, rfl, ⟨_, _, rfl, enters_among1, [w.heap.size], fun b hb => ?_, fun w' hb c => ?_⟩, (Below.refl _ w).alloc (Nat.le_refl _) _⟩
  · simp at hb
    subst hb
    exact ⟨hg, by simp⟩
  exact among1_any w.heap.size S c w' ((cell_same (hb w.heap.size (by simp)) 0).trans (World.cell?_alloc_new w _ _ _)) _ (Lib.hid rfl)

theorem but1_any (A : Nat) (k : FuncId) (lb : Array Value) (c : Int) (R : Bool) (w : World) (h1 : w.cell? ⟨A, 0, none⟩ = some (.func (.func k) #[] lb)) (ek : ∀ args w, (callFunc k args).run Tryz.prog w = .ok (.enter k args) w)
    (C : Hid (Calls Tryz.prog k (#[.int .u8 c] ++ lb) w fun e w' => e = .returned (.bool R) ∧ w' = w)) :
    Calls Tryz.prog 110 #[.int .u8 c, .pointer (some ⟨A, 0, none⟩)] w fun e w' => e = .returned (.bool (!R)) ∧ w' = w := by
  go_enter Tryz.func110, Tryz.ntmps110
  go_wp2_with ((with_reducible refine C.out.mono ?_); rintro e w' ⟨rfl, rfl⟩)
  go_ret
  exact ⟨rfl, rfl⟩
theorem enters_but1 : Enters 110 := enters_of Tryz.func110 (by kernel_rfl) rfl
theorem but_any (v : Value) (p : UInt8 → Bool) (w : World) (g : Nat) (hg : g ≤ w.heap.size) (hv : ClassFrom g w v p) :
    Calls Tryz.prog 97 #[v] w fun e w' => GivesClass g w (fun c => !p c) e w' := by
  obtain ⟨k, lb, rfl, ek, L, hL, hc⟩ := hv
  have EK := Lib.hid ek
  have HC := Lib.hid hc
  have HL := Lib.hid hL
  clear ek hc hL
  go_enter Tryz.func97, Tryz.ntmps97
  go_wp2_with fail
  go_ret
  have hb0 : Below w.heap.size w (w.alloc (.cells #[.func (.func k) #[] lb] 116)) := (Below.refl _ w).alloc (Nat.le_refl _) _
  refine ⟨_, rfl, ⟨_, _, rfl, enters_but1, w.heap.size :: L, fun b hb => ?_, fun w' hb c => ?_⟩, hb0⟩
  · rcases List.mem_cons.1 hb with rfl | hb
    · exact ⟨hg, by simp⟩
    · exact ⟨(HL.out b hb).1, by have := (HL.out b hb).2; simp; omega⟩
  exact but1_any w.heap.size k lb c.toNat _ w' ((cell_same (hb w.heap.size (by simp)) 0).trans (World.cell?_alloc_new w _ _ _)) EK.out
    (Lib.hid (HC.out w' (fun b hm => (hb b (List.mem_cons_of_mem _ hm)).trans (hb0.block b (HL.out b hm).2)) c))

/-- in cells j of block g lie classes -/
def ClassesAt (w : World) (g : Nat) (ps : List (UInt8 → Bool)) : Prop := g < w.heap.size ∧ ∀ j p, ps[j]? = some p → ∃ v, w.cell? ⟨g, j, none⟩ = some v ∧ ClassAt w v p
/-- what is known of a list of classes: each one's blocks -/
def ClassesFrom (B : Nat) (w : World) (g : Nat) (ps : List (UInt8 → Bool)) : Prop := B ≤ g ∧ g < w.heap.size ∧ ∃ L : List Nat, (∀ b ∈ L, B ≤ b ∧ b < w.heap.size) ∧ ∀ w' : World, w'.heap[g]? = w.heap[g]? → (∀ b ∈ L, w'.heap[b]? = w.heap[b]?) →
  ∀ (j : Nat) p, ps[j]? = some p → ∃ k lb, w'.cell? ⟨g, j, none⟩ = some (.func (.func k) #[] lb) ∧ Enters k ∧ ∀ c : UInt8, Calls Tryz.prog k (#[.int .u8 (c.toNat : Int)] ++ lb) w' fun e w'' => e = .returned (.bool (p c)) ∧ w'' = w'
theorem any_take {α : Type} (f : α → Bool) {l : List α} {j : Nat} {x : α} (h : l[j]? = some x) : (l.take (j + 1)).any f = ((l.take j).any f || f x) := by
  obtain ⟨h1, rfl⟩ := List.getElem?_eq_some_iff.1 h
  rw [List.take_succ_eq_append_getElem h1, List.any_append]
  simp
theorem any_true {α : Type} (f : α → Bool) {l : List α} {j : Nat} {x : α} (h : l[j]? = some x) (hf : f x = true) : l.any f = true := List.any_eq_true.2 ⟨x, List.mem_of_getElem? h, hf⟩
set_option maxHeartbeats 1000000 in
theorem either1_any (A g : Nat) (n : Nat) (ps : List (UInt8 → Bool)) (hn : Hid (ps.length = n)) (nl : (n : Int) ≤ 1000) (c : UInt8) (w : World) (h1 : w.cell? ⟨A, 0, none⟩ = some (.slice (some ⟨g, 0, none⟩) n n)) (hg : Hid (∀ (j : Nat) p, ps[j]? = some p → ∃ k lb, w.cell? ⟨g, j, none⟩ = some (.func (.func k) #[] lb) ∧ Enters k ∧ ∀ c : UInt8, Calls Tryz.prog k (#[.int .u8 (c.toNat : Int)] ++ lb) w fun e w'' => e = .returned (.bool (p c)) ∧ w'' = w)) (R : Bool) (hR : Hid (R = ps.any fun p => p c)) :
    Calls Tryz.prog 107 #[.int .u8 (c.toNat : Int), .pointer (some ⟨A, 0, none⟩)] w fun e w' => e = .returned (.bool R) ∧ w' = w := by
  go_enter Tryz.func107, Tryz.ntmps107
  go_wp2_with fail
  go_loop [8] (fun i => ∃ k : Nat, k ≤ n ∧ Hid ((ps.take k).any (fun p => p c) = false) ∧ i = .int .i64 k) (fun i => n - litLen i)
  case atStart => exact ⟨0, by omega, Lib.hid rfl, rfl⟩
  case round =>
    obtain ⟨j, hj, hno, rfl⟩ := hrel
    rcases Nat.lt_or_ge j n with hlt | hge
    · have q3 : decide ((j : Int) < (n : Int)) = true := decide_eq_true (by omega)
      obtain ⟨p, hp⟩ : ∃ p, ps[j]? = some p := ⟨ps[j]'(by have := hn.out; omega), List.getElem?_eq_getElem _⟩
      obtain ⟨k, lb, hv, ek, hc⟩ := hg.out j p hp
      have C := Lib.hid (hc c)
      have ek' : ∀ args w, (callFunc k args).run Tryz.prog w = .ok (.enter k args) w := ek
      have HT := Lib.hid (any_take (fun p => p c) hp)
      have HY := Lib.hid (any_true (fun p => p c) hp)
      clear hc ek hp
      obtain ⟨b, hb⟩ : ∃ b, b = p c := ⟨_, rfl⟩
      rw [← hb] at C HT HY
      clear hb
      cases b with
      | true =>
        obtain rfl : R = true := by rw [hR.out]; exact HY.out rfl
        clear hR
        go_wp2_with ((with_reducible refine C.out.mono ?_); rintro e w' ⟨rfl, rfl⟩)
        go_ret
        exact ⟨rfl, rfl⟩
      | false =>
        go_wp2_with ((with_reducible refine C.out.mono ?_); rintro e w' ⟨rfl, rfl⟩)
        exact ⟨⟨j + 1, by omega, Lib.hid (by rw [HT.out, hno.out]; rfl), rfl⟩, by simp [litLen]; omega⟩
    · have q3 : decide ((j : Int) < (n : Int)) = false := decide_eq_false (by omega)
      obtain rfl : R = false := by rw [hR.out, ← hno.out, List.take_of_length_le (by rw [hn.out]; exact hge)]
      clear hR
      go_wp2_with fail
      go_ret
      exact ⟨rfl, rfl⟩
theorem enters_either1 : Enters 107 := enters_of Tryz.func107 (by kernel_rfl) rfl
theorem either_any (g n : Nat) (ps : List (UInt8 → Bool)) (hn : ps.length = n) (nl : (n : Int) ≤ 1000) (w : World) (B : Nat) (hg : ClassesFrom B w g ps) :
    Calls Tryz.prog 94 #[.slice (some ⟨g, 0, none⟩) n n] w fun e w' => GivesClass B w (fun c => ps.any fun p => p c) e w' := by
  have HN := Lib.hid hn
  obtain ⟨h1, h2, L, hL, hc⟩ := hg
  have H1 := Lib.hid h1
  have H2 := Lib.hid h2
  have HL := Lib.hid hL
  have HC := Lib.hid hc
  clear hn h1 h2 hL hc
  go_enter Tryz.func94, Tryz.ntmps94
  go_wp2_with fail
  go_ret
  have hb0 : Below w.heap.size w (w.alloc (.cells #[.slice (some ⟨g, 0, none⟩) n n] 135)) := (Below.refl _ w).alloc (Nat.le_refl _) _
  have h2 := H2.out
  have h1 := H1.out
  refine ⟨_, rfl, ⟨_, _, rfl, enters_either1, w.heap.size :: g :: L, fun b hb => ?_, fun w' hb c => ?_⟩, hb0⟩
  · rcases List.mem_cons.1 hb with rfl | hb
    · exact ⟨by omega, by simp⟩
    · rcases List.mem_cons.1 hb with rfl | hb
      · exact ⟨h1, by simp; omega⟩
      · exact ⟨(HL.out b hb).1, by have := (HL.out b hb).2; simp; omega⟩
  · refine either1_any w.heap.size g n ps HN nl c w' ((cell_same (hb w.heap.size (by simp)) 0).trans (World.cell?_alloc_new w _ _ _)) (Lib.hid (HC.out w' ?_ fun b hm => ?_)) _ (Lib.hid rfl)
    · exact (hb g (by simp)).trans (hb0.block g h2)
    · exact (hb b (by simp [hm])).trans (hb0.block b (HL.out b hm).2)
end Go.Proofs.YtlbhlncipajapaaGreatDoor.Lx
namespace Go.Proofs.YtlbhlncipajapaaGreatDoor.Lx
open Go.RowKit

/-- a number comes back, and what lay is as it was -/
def NumPost (n : Nat) (w : World) (e : Ending) (w' : World) : Prop := e = .returned (.int .i64 (n : Int)) ∧ Below w.heap.size w w'
theorem isBehind {l : List UInt8} {a n : Nat} (hn : l.length = n) (h : a < n) : ∃ c, l[a]? = some c := ⟨l[a]'(by omega), List.getElem?_eq_getElem _⟩
set_option maxHeartbeats 2000000 in
theorem behind_core (l : List UInt8) (n : Nat) (hn : Hid (l.length = n)) (nl : (n : Int) ≤ 30000) (hs : (str l).size = n) (m v1 v2 v3 v4 v5 : Value) (k : FuncId) (lb : Array Value) (p : UInt8 → Bool) (a : Nat) (ha : a ≤ n) (w : World)
    (ek : ∀ args w, (callFunc k args).run Tryz.prog w = .ok (.enter k args) w)
    (hc : Hid (∀ w', Below w.heap.size w w' → ∀ c : UInt8, Calls Tryz.prog k (#[.int .u8 (c.toNat : Int)] ++ lb) w' fun e w'' => e = .returned (.bool (p c)) ∧ w'' = w')) (R : Nat) (hR : Hid (runTo p l a = R)) :
    Calls Tryz.prog 98 #[.agg #[.string (str l), m, v1, v2, v3, v4, v5], .int .i64 (a : Int), .func (.func k) #[] lb] w fun e w' => NumPost R w e w' := by
  go_enter Tryz.func98, Tryz.ntmps98
  go_wp2_with fail
  go_loop [1] (fun i => ∃ j : Nat, j ≤ n ∧ Hid (runTo p l j = R) ∧ i = .int .i64 j) (fun i => n - litLen i)
  case atStart => exact ⟨a, ha, hR, rfl⟩
  case round =>
    obtain ⟨j, hj, hr, rfl⟩ := hrel
    rcases Nat.lt_or_ge j n with hlt | hge
    · have q3 : decide ((j : Int) < (n : Int)) = true := decide_eq_true (by omega)
      obtain ⟨c, hcj⟩ := isBehind hn.out hlt
      have hix : ∀ h, (str l)[j]'h = c := fun h => str_at l hcj h
      have HC := Lib.hid hcj
      have C := Lib.hid (hc.out _ ((Below.refl w.heap.size w).alloc (Nat.le_refl _) (.cells #[.string (str l), m, v1, v2, v3, v4, v5] 118)) c)
      clear hcj
      obtain ⟨b, hb⟩ : ∃ b, b = p c := ⟨_, rfl⟩
      rw [← hb] at C
      have HB := Lib.hid hb
      clear hb
      cases b with
      | true =>
        go_wp2_with ((with_reducible refine C.out.mono ?_); rintro e w' ⟨rfl, rfl⟩)
        exact ⟨⟨j + 1, by omega, Lib.hid (by rw [← runTo_step HC.out HB.out.symm]; exact hr.out), rfl⟩, by simp [litLen]; omega⟩
      | false =>
        go_wp2_with ((with_reducible refine C.out.mono ?_); rintro e w' ⟨rfl, rfl⟩)
        go_ret
        exact ⟨by rw [← hr.out, runTo_stop HC.out HB.out.symm]; rfl, (Below.refl _ w).alloc (Nat.le_refl _) _⟩
    · have q3 : decide ((j : Int) < (n : Int)) = false := decide_eq_false (by omega)
      go_wp2_with fail
      go_ret
      exact ⟨by rw [← hr.out, runTo_end (by rw [hn.out]; exact hge)]; rfl, (Below.refl _ w).alloc (Nat.le_refl _) _⟩
theorem behind_any (l : List UInt8) (nl : l.length ≤ 30000) (m v1 v2 v3 v4 v5 v : Value) (p : UInt8 → Bool) (a : Nat) (ha : a ≤ l.length) (w : World) (hv : ClassAt w v p) :
    Calls Tryz.prog 98 #[.agg #[.string (str l), m, v1, v2, v3, v4, v5], .int .i64 (a : Int), v] w fun e w' => NumPost (runTo p l a) w e w' := by
  obtain ⟨k, lb, rfl, ek, hc⟩ := hv
  exact behind_core l _ (Lib.hid rfl) (by omega) (str_size l) m v1 v2 v3 v4 v5 k lb p a ha w ek (Lib.hid hc) _ (Lib.hid rfl)
/-- a reader lies in block g -/
def ReadAt (w : World) (g : Nat) (s m v1 v2 v3 v4 v5 : Value) : Prop :=
  w.cell? ⟨g, 0, none⟩ = some s ∧ w.cell? ⟨g, 1, none⟩ = some m ∧ w.cell? ⟨g, 2, none⟩ = some v1 ∧ w.cell? ⟨g, 3, none⟩ = some v2 ∧ w.cell? ⟨g, 4, none⟩ = some v3 ∧ w.cell? ⟨g, 5, none⟩ = some v4 ∧ w.cell? ⟨g, 6, none⟩ = some v5
theorem ReadAt.below {w w' : World} {g B : Nat} {s m v1 v2 v3 v4 v5 : Value} (h : ReadAt w g s m v1 v2 v3 v4 v5) (hb : Below B w w') (hg : g < B) : ReadAt w' g s m v1 v2 v3 v4 v5 :=
  ⟨(hb.cell (p := ⟨g, 0, none⟩) hg).trans h.1, (hb.cell (p := ⟨g, 1, none⟩) hg).trans h.2.1, (hb.cell (p := ⟨g, 2, none⟩) hg).trans h.2.2.1, (hb.cell (p := ⟨g, 3, none⟩) hg).trans h.2.2.2.1,
    (hb.cell (p := ⟨g, 4, none⟩) hg).trans h.2.2.2.2.1, (hb.cell (p := ⟨g, 5, none⟩) hg).trans h.2.2.2.2.2.1, (hb.cell (p := ⟨g, 6, none⟩) hg).trans h.2.2.2.2.2.2⟩
theorem readAt_new (w : World) (s m v1 v2 v3 v4 v5 : Value) (T : TypeId) : ReadAt (w.alloc (.cells #[s, m, v1, v2, v3, v4, v5] T)) w.heap.size s m v1 v2 v3 v4 v5 :=
  ⟨by rw [World.cell?_alloc_new]; rfl, by rw [World.cell?_alloc_new]; rfl, by rw [World.cell?_alloc_new]; rfl, by rw [World.cell?_alloc_new]; rfl, by rw [World.cell?_alloc_new]; rfl, by rw [World.cell?_alloc_new]; rfl, by rw [World.cell?_alloc_new]; rfl⟩
set_option maxHeartbeats 4000000 in
theorem gaps_core (l : List UInt8) (n : Nat) (hn : Hid (l.length = n)) (nl : (n : Int) ≤ 30000) (hs : (str l).size = n) (m v1 v2 v3 v4 v5 : Value) (a : Nat) (ha : a ≤ n) (w : World)
    (h1 : Hid (ClassAt w v1 isBlank)) (h2 : Hid (ClassAt w v2 isComment)) (R : Nat) (hR : Hid (gapTo false l a = R)) :
    Calls Tryz.prog 83 #[.agg #[.string (str l), m, v1, v2, v3, v4, v5], .int .i64 (a : Int)] w fun e w' => NumPost R w e w' := by
  have B1 : Hid (∀ (w' : World), Below w.heap.size w w' → ∀ j : Nat, j ≤ n → Calls Tryz.prog 98 #[.agg #[.string (str l), m, v1, v2, v3, v4, v5], .int .i64 (j : Int), v1] w' fun e w'' => NumPost (runTo isBlank l j) w' e w'') :=
    Lib.hid fun w' hb j hj => behind_any l (by have := hn.out; omega) m v1 v2 v3 v4 v5 v1 isBlank j (by have := hn.out; omega) w' (h1.out.mono hb)
  have B2 : Hid (∀ (w' : World), Below w.heap.size w w' → ∀ j : Nat, j ≤ n → Calls Tryz.prog 98 #[.agg #[.string (str l), m, v1, v2, v3, v4, v5], .int .i64 (j : Int), v2] w' fun e w'' => NumPost (runTo isComment l j) w' e w'') :=
    Lib.hid fun w' hb j hj => behind_any l (by have := hn.out; omega) m v1 v2 v3 v4 v5 v2 isComment j (by have := hn.out; omega) w' (h2.out.mono hb)
  have hb0 := Lib.hid ((Below.refl w.heap.size w).alloc (Nat.le_refl _) (.cells #[.string (str l), m, v1, v2, v3, v4, v5] 118))
  have hr1 := Lib.hid (runTo_le isBlank (show a ≤ l.length by rw [hn.out]; exact ha))
  have hg1 := Lib.hid (gapTo_blanks l a)
  obtain ⟨b, hb⟩ : ∃ b, b = runTo isBlank l a := ⟨_, rfl⟩
  have HE := Lib.hid (show gapTo false l b = R ∧ (l[b]? ≠ some 35 → gapTo false l b = b) ∧ b ≤ n by
    rw [hb]
    exact ⟨hg1.out.trans hR.out, fun h => gapTo_here h, by rw [← hn.out]; exact hr1.out⟩)
  have HB := Lib.hid hb
  have P1 := Lib.hid (B1.out _ hb0.out a ha)
  rw [← hb] at P1
  clear hb hg1 hr1
  go_enter Tryz.func83, Tryz.ntmps83
  go_wp2_with (go_at_call 98; ((with_reducible refine P1.out.mono ?_); rintro e w1 ⟨rfl, hb1⟩; have HB1 := Lib.hid hb1; clear hb1))
  have hsz : Hid (w.heap.size < w1.heap.size) := Lib.hid (by have := HB1.out.size; simp at this; omega)
  go_loopw [1] (fun i wr => ∃ j : Nat, j ≤ n ∧ Hid (gapTo false l j = R ∧ (l[j]? ≠ some 35 → gapTo false l j = j)) ∧ i = .int .i64 j ∧ Hid (Below (w.heap.size + 1) (w.alloc (.cells #[.string (str l), m, v1, v2, v3, v4, v5] 118)) wr)) (fun i _ => n - litLen i)
  case atStart => exact ⟨b, HE.out.2.2, Lib.hid ⟨HE.out.1, HE.out.2.1⟩, rfl, Lib.hid (by have := HB1.out; rwa [World.size_alloc] at this)⟩
  case round =>
    obtain ⟨j, hj, hJ, rfl, hB⟩ := hrel
    have hbw : Hid (Below w.heap.size w wr) := Lib.hid (hb0.out.trans (hB.out.mono (Nat.le_succ _)))
    have hRA := Lib.hid ((readAt_new w (.string (str l)) m v1 v2 v3 v4 v5 118).below hB.out (Nat.lt_succ_self _))
    obtain ⟨cS, c1, c2, c3, c4, c5, c6⟩ := hRA.out
    have hgw : Hid (w.heap.size < wr.heap.size) := Lib.hid (by have := hB.out.size; simp at this; omega)
    rcases Nat.lt_or_ge j n with hlt | hge
    · have q3 : decide ((j : Int) < (n : Int)) = true := decide_eq_true (by omega)
      obtain ⟨c, hcj⟩ := isBehind hn.out hlt
      have hix : ∀ h, (str l)[j]'h = c := fun h => str_at l hcj h
      have HC := Lib.hid hcj
      clear hcj
      by_cases h35 : c = 35
      · subst h35
        have e35 : ((35 : UInt8) == 35) = true := rfl
        have hlt2 := Lib.hid (runTo_hash HC.out)
        have hgp := Lib.hid (gapTo_hashes HC.out)
        have hle1 := Lib.hid (runTo_le isComment (show j ≤ l.length by rw [hn.out]; exact hj))
        have P2 := Lib.hid (B2.out wr hbw.out j hj)
        obtain ⟨x, hx⟩ : ∃ x, x = runTo isComment l j := ⟨_, rfl⟩
        rw [← hx] at P2 hlt2 hgp hle1
        have hxn : x ≤ n := by rw [← hn.out]; exact hle1.out
        have hle2 := Lib.hid (runTo_le isBlank (show x ≤ l.length from hle1.out))
        have P3 : Hid (∀ (w' : World), Below w.heap.size w w' → Calls Tryz.prog 98 #[.agg #[.string (str l), m, v1, v2, v3, v4, v5], .int .i64 (x : Int), v1] w' fun e w'' => NumPost (runTo isBlank l x) w' e w'') := Lib.hid fun w' hb => B1.out w' hb x hxn
        have hend := Lib.hid (fun h => gapTo_here (l := l) (a := x) h)
        obtain ⟨y, hy⟩ : ∃ y, y = runTo isBlank l x := ⟨_, rfl⟩
        rw [← hy] at P3 hlt2 hgp hle2 hend
        have HX := Lib.hid hx
        have HY := Lib.hid hy
        clear hx hy
        go_wp2_with (first | (go_at_call 98; ((with_reducible refine P2.out.mono ?_); rintro e w2 ⟨rfl, hb2⟩; obtain ⟨dS, d1, d2, d3, d4, d5, d6⟩ := hRA.out.below hb2 hgw.out; have HB2 := Lib.hid hb2; clear hb2)) | (go_at_call 98; ((with_reducible refine (P3.out _ (hbw.out.trans (HB2.out.mono hbw.out.size))).mono ?_); rintro e w3 ⟨rfl, hb3⟩; have HB3 := Lib.hid hb3; clear hb3)))
        have hle := hle2.out
        have hlt3 := hlt2.out
        rw [hn.out] at hle
        exact ⟨⟨y, hle, Lib.hid ⟨hgp.out.trans hJ.out.1, hend.out⟩, rfl, Lib.hid ((hB.out.trans (HB2.out.mono (by have := hgw.out; omega))).trans (HB3.out.mono (by have := hgw.out; have := HB2.out.size; omega)))⟩, by simp [litLen]; omega⟩
      · have e35 : (c == 35) = false := beq_false_of_ne h35
        have n35 : ¬ (c.toNat : Int) = 35 := fun e => h35 (UInt8.toNat_inj.1 (by show c.toNat = 35; omega))
        go_wp2_with fail
        go_ret
        exact ⟨by rw [← hJ.out.1, hJ.out.2 (by rw [HC.out]; simpa using h35)]; rfl, hbw.out⟩
    · have q3 : decide ((j : Int) < (n : Int)) = false := decide_eq_false (by omega)
      go_wp2_with fail
      go_ret
      exact ⟨by rw [← hJ.out.1, hJ.out.2 (by rw [List.getElem?_eq_none (by rw [hn.out]; exact hge)]; simp)]; rfl, hbw.out⟩
theorem gaps_any (l : List UInt8) (nl : l.length ≤ 30000) (m v1 v2 v3 v4 v5 : Value) (a : Nat) (ha : a ≤ l.length) (w : World) (h1 : ClassAt w v1 isBlank) (h2 : ClassAt w v2 isComment) :
    Calls Tryz.prog 83 #[.agg #[.string (str l), m, v1, v2, v3, v4, v5], .int .i64 (a : Int)] w fun e w' => NumPost (gapTo false l a) w e w' :=
  gaps_core l _ (Lib.hid rfl) (by omega) (str_size l) m v1 v2 v3 v4 v5 a ha w (Lib.hid h1) (Lib.hid h2) _ (Lib.hid rfl)
end Go.Proofs.YtlbhlncipajapaaGreatDoor.Lx
namespace Go.Proofs.YtlbhlncipajapaaGreatDoor.Lx
open Go.RowKit Go.Maps

/-- block b is a map that has just these keys -/
def KeyMap (w : World) (b : Nat) (L : List (List UInt8)) : Prop := ∃ D : DataW Unit, w.ownsMap Tryz.prog 9 unitElem b L.length D ∧ ∀ x, Maps.has D (.string x) = L.contains x
/-- block b is the map of the words -/
def WordMap (w : World) (b : Nat) : Prop := b < w.heap.size ∧ ∃ (n : Nat) (D : DataW Unit), w.ownsMap Tryz.prog 9 unitElem b n D ∧ ∀ x, Maps.has D (.string x) = wordL x
theorem key_str (S : ByteArray) (h : S.size ≤ maxLen) : keyOf Tryz.prog 9 (.string S) = some (.string S.data.toList) := by
  simp [keyOf, mapKey, Tryz.underlying9, h]
theorem str_keyed : Keyed Tryz.prog 9 := string_keyed Tryz.underlying9
theorem zero_unit (w : World) : (zeroValue 137).run Tryz.prog w = .ok (.agg #[]) w := by kernel_rfl
theorem keyMap_made (w : World) : KeyMap (w.alloc (.map #[] 0)) w.heap.size [] := ⟨_, World.ownsMap_made _ _ _ _, fun _ => rfl⟩
theorem contains_back (l : List (List UInt8)) (x : List UInt8) : l.reverse.contains x = l.contains x := by rw [Bool.eq_iff_iff]; simp
theorem words_back : wordsL.reverse = [[98, 111, 111, 108], [102, 105, 120], [115, 101, 116], [114, 101, 116, 117, 114, 110], [115, 113, 114, 116], [105, 115], [111, 114], [97, 110, 100], [110, 111, 116], [102, 97, 108, 115, 101], [116, 114, 117, 101], [102, 98, 121], [112, 114, 101], [101, 108, 115, 101], [116, 104, 101, 110], [105, 102], [111, 117, 116], [103, 111, 116, 111], [102, 114, 111, 109], [109, 111, 100, 101], [109, 101, 109], [117, 112], [111, 110], [114, 101, 115, 101, 116], [105, 110, 105, 116], [100, 101, 114], [108, 101, 116], [104, 121, 98, 114, 105, 100], [110, 111, 100, 101], [102, 117, 110]] := rfl
theorem keyMap_put {w : World} {b : Nat} {D : DataW Unit} {L : List (List UInt8)} {n : Nat} (hD : w.ownsMap Tryz.prog 9 unitElem b n D) (h : ∀ x, Maps.has D (.string x) = L.contains x) (y x : List UInt8) (d : DataW Unit) :
    Maps.has (D.put (.string y) d) (.string x) = (y :: L).contains x := by
  by_cases e : x = y
  · subst e
    rw [has_put_same hD.isMap (by unfold WideAt.IsKeyLit; trivial)]
    simp
  · rw [has_put_other (by intro e2; cases e2; exact e rfl), h, List.contains_cons, beq_false_of_ne e, Bool.false_or]
theorem wpList_insert_key {ops : Array Oper} {rest : List Oper} {o : Oper} {a : Act} {Q : Exit → Act → World → Prop} (w : World) (hg : o.guard = none) (m x v : Operand)
    (hop : o.op = Op.insert 115 m x v) (b : Nat) (L : List (List UInt8)) (hL : L.length < 1000) (h : KeyMap w b L) (S : ByteArray) (hS : S.size ≤ 1000) (hm : a.eval m = .map (some b)) (hx : a.eval x = .string S) (hv : a.eval v = .agg #[])
    (hK : ∀ w', KeyMap w' b (S.data.toList :: L) → w.grownBy w' (some b) → wpList Tryz.prog ops Q rest (a.put o.dst undef) w') : wpList Tryz.prog ops Q (o :: rest) a w := by
  obtain ⟨D, hD, hh⟩ := h
  refine wpList_plain hg fun K' hK' => ?_
  obtain ⟨w', hrun, r1, r2⟩ := hD.update str_keyed Tryz.underlying115 (by unfold maxLen; omega) (key_str S (by unfold maxLen; omega)) (unitElem_mk (H := Unit))
  unfold Oper.wp
  simp [execOp, hop, hm, hx, hv, hrun, Result.andThen]
  exact hK' _ _ (hK w' ⟨_, r1, fun y => keyMap_put hD hh _ y _⟩ r2)
set_option maxHeartbeats 8000000 in
set_option maxRecDepth 100000 in
theorem words_any (w : World) : Calls Tryz.prog 96 #[] w fun e w' => e = .returned (.map (some w.heap.size)) ∧ WordMap w' w.heap.size ∧ Below w.heap.size w w' := by
  have hmm := @run_makeMap Tryz.prog
  have hM := Lib.hid (keyMap_made w)
  have hB := Lib.hid ((Below.refl w.heap.size w).alloc (Nat.le_refl _) (.map #[] 0))
  go_enter Tryz.func96, Tryz.ntmps96
  go_wp2_with (refine wpList_insert_key _ rfl _ _ _ rfl w.heap.size _ ?_ hM.out _ ?_ rfl rfl rfl ?_; (focus (decide)); (focus (decide)); intro w1 hM1 hg1; replace hM := Lib.hid hM1; replace hB := Lib.hid (hB.out.grown hg1 hB.out.size (fun j e => by cases e; exact Nat.le_refl _)); clear hM1 hg1)
  go_ret
  refine ⟨rfl, ⟨?_, ?_⟩, hB.out⟩
  · obtain ⟨D, h1, h2⟩ := hM.out
    exact h1.lt
  · obtain ⟨D, h1, h2⟩ := hM.out
    exact ⟨_, D, h1, fun x => by unfold wordL; rw [h2, ← contains_back, ← words_back]; rfl⟩
theorem WordMap.below {w w' : World} {b B : Nat} (h : WordMap w b) (hb : Below B w w') (hB : b < B) : WordMap w' b := by
  obtain ⟨hlt, n, D, hD, hh⟩ := h
  refine ⟨Nat.lt_of_lt_of_le hlt hb.size, n, D, ?_, hh⟩
  obtain ⟨es, clock, h1, h2, h3, h4⟩ := hD
  exact ⟨es, clock, (hb.block b hB).trans h1, h2, h3, h4⟩
/-- is a text a word? -/
def wordIn (S : ByteArray) : Bool := wordL S.data.toList
end Go.Proofs.YtlbhlncipajapaaGreatDoor.Lx
