/- lex: classes of bytes as function values: span, among, but, either. -/
import Derived.Test.YtnkndmmebhajcaaDoorLexKit
import Derived.Lib.Hide
import Derived.WalkKit
import Derived.Below
namespace Go.Proofs.YtnkndmmebhajcaaDoor
open Go.RowKit

/-- function k stands in the program -/
def Enters (k : FuncId) : Prop := ∀ args w, (callFunc k args).run Tryd.prog w = .ok (.enter k args) w
/-- a function value that tells whether a byte is of a class, wherever what lay is as it was -/
def ClassAt (w : World) (v : Value) (p : UInt8 → Bool) : Prop :=
  ∃ k lb, v = .func (.func k) #[] lb ∧ Enters k ∧
    ∀ w', Below w.heap.size w w' → ∀ c : UInt8, Calls Tryd.prog k (#[.int .u8 (c.toNat : Int)] ++ lb) w' fun e w'' => e = .returned (.bool (p c)) ∧ w'' = w'
theorem ClassAt.mono {w w1 : World} {v : Value} {p : UInt8 → Bool} (h : ClassAt w v p) (hb : Below w.heap.size w w1) : ClassAt w1 v p := by
  obtain ⟨k, lb, hv, ek, hc⟩ := h
  exact ⟨k, lb, hv, ek, fun w' hb' c => hc w' (hb.trans (hb'.mono hb.size)) c⟩
theorem ClassAt.congr {w : World} {v : Value} {p q : UInt8 → Bool} (h : ClassAt w v p) (e : ∀ c, p c = q c) : ClassAt w v q := by
  obtain rfl : p = q := funext e
  exact h
/-- .. and that reads blocks from g on alone -/
def ClassFrom (g : Nat) (w : World) (v : Value) (p : UInt8 → Bool) : Prop :=
  ∃ k lb, v = .func (.func k) #[] lb ∧ Enters k ∧ ∃ L : List Nat, (∀ b ∈ L, g ≤ b ∧ b < w.heap.size) ∧
    ∀ w' : World, (∀ b ∈ L, w'.heap[b]? = w.heap[b]?) → ∀ c : UInt8, Calls Tryd.prog k (#[.int .u8 (c.toNat : Int)] ++ lb) w' fun e w'' => e = .returned (.bool (p c)) ∧ w'' = w'
theorem ClassFrom.at_ {g : Nat} {w : World} {v : Value} {p : UInt8 → Bool} (h : ClassFrom g w v p) : ClassAt w v p := by
  obtain ⟨k, lb, hv, ek, L, hL, hc⟩ := h
  exact ⟨k, lb, hv, ek, fun w' hb c => hc w' (fun b hm => hb.block b (hL b hm).2) c⟩
theorem ClassFrom.kept {g B : Nat} {w w1 : World} {v : Value} {p : UInt8 → Bool} (h : ClassFrom g w v p) (hk : ∀ b, g ≤ b → b < w.heap.size → w1.heap[b]? = w.heap[b]?) (hs : w.heap.size ≤ w1.heap.size) (hB : B ≤ g) : ClassFrom B w1 v p := by
  obtain ⟨k, lb, hv, ek, L, hL, hc⟩ := h
  exact ⟨k, lb, hv, ek, L, fun b hm => ⟨Nat.le_trans hB (hL b hm).1, Nat.lt_of_lt_of_le (hL b hm).2 hs⟩, fun w' hw c => hc w' (fun b hm => (hw b hm).trans (hk b (hL b hm).1 (hL b hm).2)) c⟩
theorem ClassFrom.mono {g : Nat} {w w1 : World} {v : Value} {p : UInt8 → Bool} (h : ClassFrom g w v p) (hb : Below w.heap.size w w1) : ClassFrom g w1 v p := h.kept (fun b _ h2 => hb.block b h2) hb.size (Nat.le_refl _)
theorem ClassFrom.low {g B : Nat} {w : World} {v : Value} {p : UInt8 → Bool} (h : ClassFrom g w v p) (hB : B ≤ g) : ClassFrom B w v p := h.kept (fun _ _ _ => rfl) (Nat.le_refl _) hB
theorem ClassFrom.congr {g : Nat} {w : World} {v : Value} {p q : UInt8 → Bool} (h : ClassFrom g w v p) (e : ∀ c, p c = q c) : ClassFrom g w v q := by
  obtain rfl : p = q := funext e
  exact h
/-- a class comes back, and what lay is as it was -/
def GivesClass (g : Nat) (w : World) (p : UInt8 → Bool) (e : Ending) (w' : World) : Prop := ∃ v, e = .returned v ∧ ClassFrom g w' v p ∧ Below w.heap.size w w'
theorem cell_same {w w' : World} {b : Nat} (h : w'.heap[b]? = w.heap[b]?) (j : Nat) : w'.cell? ⟨b, j, none⟩ = w.cell? ⟨b, j, none⟩ := World.cell?_of_block (w := w) h
theorem byte_u8 (c : UInt8) : ((c.toNat : Int).toNat).toUInt8 = c := by simp

theorem span1_any (A B : Nat) (x y c : Int) (w : World) (h1 : w.cell? ⟨A, 0, none⟩ = some (.int .u8 x)) (h2 : w.cell? ⟨B, 0, none⟩ = some (.int .u8 y)) (R : Bool) (hR : Hid (R = (decide (x ≤ c) && decide (c ≤ y)))) :
    Calls Tryd.prog 50 #[.int .u8 c, .pointer (some ⟨A, 0, none⟩), .pointer (some ⟨B, 0, none⟩)] w fun e w' => e = .returned (.bool R) ∧ w' = w := by
  by_cases hx : x ≤ c
  · have q1 : decide (x ≤ c) = true := decide_eq_true hx
    by_cases hy : c ≤ y
    · have q2 : decide (c ≤ y) = true := decide_eq_true hy
      obtain rfl : R = true := by rw [hR.out, q1, q2]; rfl
      clear hR
      go_enter Tryd.func50, Tryd.ntmps50
      go_wp2_with fail
      go_ret
      exact ⟨rfl, rfl⟩
    · have q2 : decide (c ≤ y) = false := decide_eq_false hy
      obtain rfl : R = false := by rw [hR.out, q1, q2]; rfl
      clear hR
      go_enter Tryd.func50, Tryd.ntmps50
      go_wp2_with fail
      go_ret
      exact ⟨rfl, rfl⟩
  · have q1 : decide (x ≤ c) = false := decide_eq_false hx
    obtain rfl : R = false := by rw [hR.out, q1]; rfl
    clear hR
    go_enter Tryd.func50, Tryd.ntmps50
    go_wp2_with fail
    go_ret
    exact ⟨rfl, rfl⟩
theorem enters_span1 : Enters 50 := enters_of Tryd.func50 (by kernel_rfl) rfl
theorem span_any (x y : Int) (w : World) (g : Nat) (hg : g ≤ w.heap.size) :
    Calls Tryd.prog 38 #[.int .u8 x, .int .u8 y] w fun e w' => GivesClass g w (fun c => decide (x ≤ (c.toNat : Int)) && decide ((c.toNat : Int) ≤ y)) e w' := by
  go_enter Tryd.func38, Tryd.ntmps38
  go_wp2_with fail
  go_ret
  refine ⟨_, rfl, ⟨_, _, rfl, enters_span1, [w.heap.size, w.heap.size + 1], fun b hb => ?_, fun w' hb c => ?_⟩, ((Below.refl _ w).alloc (Nat.le_refl _) _).alloc (by simp) _⟩
  · simp at hb
    rcases hb with rfl | rfl
    · exact ⟨hg, by simp; omega⟩
    · exact ⟨by omega, by simp⟩
  have c1 : w'.cell? ⟨w.heap.size, 0, none⟩ = some (.int .u8 x) := (cell_same (hb w.heap.size (by simp)) 0).trans (by rw [World.cell?_alloc_old _ _ _ (by simp), World.cell?_alloc_new]; rfl)
  have c2 : w'.cell? ⟨w.heap.size + 1, 0, none⟩ = some (.int .u8 y) := (cell_same (hb (w.heap.size + 1) (by simp)) 0).trans (by
    have h := World.cell?_alloc_new (w.alloc (.cells #[.int .u8 x] 5)) #[.int .u8 y] 5 0
    rw [World.size_alloc] at h
    rw [h]; rfl)
  exact span1_any w.heap.size (w.heap.size + 1) x y c.toNat w' c1 c2 _ (Lib.hid rfl)

theorem among1_any (A : Nat) (S : ByteArray) (c : UInt8) (w : World) (h1 : w.cell? ⟨A, 0, none⟩ = some (.string S)) (R : Bool) (hR : Hid (R = decide (0 ≤ Lib.indexByte S.data.toList c))) :
    Calls Tryd.prog 52 #[.int .u8 (c.toNat : Int), .pointer (some ⟨A, 0, none⟩)] w fun e w' => e = .returned (.bool R) ∧ w' = w := by
  have hI := Tryd.strings_IndexByte S (c.toNat : Int) w
  rw [byte_u8] at hI
  obtain ⟨i, hi⟩ : ∃ i, i = Lib.indexByte S.data.toList c := ⟨_, rfl⟩
  rw [← hi] at hI hR
  have H := Lib.hid hI
  clear hI hi
  by_cases h0 : 0 ≤ i
  · have q : decide (0 ≤ i) = true := decide_eq_true h0
    obtain rfl : R = true := by rw [hR.out, q]
    clear hR
    go_enter Tryd.func52, Tryd.ntmps52
    go_wp2_with (go_at_call 53; refine H.out.mono ?_; rintro e w' ⟨rfl, rfl⟩)
    go_ret
    exact ⟨rfl, rfl⟩
  · have q : decide (0 ≤ i) = false := decide_eq_false h0
    obtain rfl : R = false := by rw [hR.out, q]
    clear hR
    go_enter Tryd.func52, Tryd.ntmps52
    go_wp2_with (go_at_call 53; refine H.out.mono ?_; rintro e w' ⟨rfl, rfl⟩)
    go_ret
    exact ⟨rfl, rfl⟩
theorem enters_among1 : Enters 52 := enters_of Tryd.func52 (by kernel_rfl) rfl
theorem among_any (S : ByteArray) (w : World) (g : Nat) (hg : g ≤ w.heap.size) :
    Calls Tryd.prog 40 #[.string S] w fun e w' => GivesClass g w (fun c => decide (0 ≤ Lib.indexByte S.data.toList c)) e w' := by
  go_enter Tryd.func40, Tryd.ntmps40
  go_wp2_with fail
  go_ret
  refine ⟨_, rfl, ⟨_, _, rfl, enters_among1, [w.heap.size], fun b hb => ?_, fun w' hb c => ?_⟩, (Below.refl _ w).alloc (Nat.le_refl _) _⟩
  · simp at hb
    subst hb
    exact ⟨hg, by simp⟩
  exact among1_any w.heap.size S c w' ((cell_same (hb w.heap.size (by simp)) 0).trans (World.cell?_alloc_new w _ _ _)) _ (Lib.hid rfl)

theorem but1_any (A : Nat) (k : FuncId) (lb : Array Value) (c : Int) (R : Bool) (w : World) (h1 : w.cell? ⟨A, 0, none⟩ = some (.func (.func k) #[] lb)) (ek : ∀ args w, (callFunc k args).run Tryd.prog w = .ok (.enter k args) w)
    (C : Hid (Calls Tryd.prog k (#[.int .u8 c] ++ lb) w fun e w' => e = .returned (.bool R) ∧ w' = w)) :
    Calls Tryd.prog 54 #[.int .u8 c, .pointer (some ⟨A, 0, none⟩)] w fun e w' => e = .returned (.bool (!R)) ∧ w' = w := by
  go_enter Tryd.func54, Tryd.ntmps54
  go_wp2_with ((with_reducible refine C.out.mono ?_); rintro e w' ⟨rfl, rfl⟩)
  go_ret
  exact ⟨rfl, rfl⟩
theorem enters_but1 : Enters 54 := enters_of Tryd.func54 (by kernel_rfl) rfl
theorem but_any (v : Value) (p : UInt8 → Bool) (w : World) (g : Nat) (hg : g ≤ w.heap.size) (hv : ClassFrom g w v p) :
    Calls Tryd.prog 41 #[v] w fun e w' => GivesClass g w (fun c => !p c) e w' := by
  obtain ⟨k, lb, rfl, ek, L, hL, hc⟩ := hv
  have EK := Lib.hid ek
  have HC := Lib.hid hc
  have HL := Lib.hid hL
  clear ek hc hL
  go_enter Tryd.func41, Tryd.ntmps41
  go_wp2_with fail
  go_ret
  have hb0 : Below w.heap.size w (w.alloc (.cells #[.func (.func k) #[] lb] 62)) := (Below.refl _ w).alloc (Nat.le_refl _) _
  refine ⟨_, rfl, ⟨_, _, rfl, enters_but1, w.heap.size :: L, fun b hb => ?_, fun w' hb c => ?_⟩, hb0⟩
  · rcases List.mem_cons.1 hb with rfl | hb
    · exact ⟨hg, by simp⟩
    · exact ⟨(HL.out b hb).1, by have := (HL.out b hb).2; simp; omega⟩
  exact but1_any w.heap.size k lb c.toNat _ w' ((cell_same (hb w.heap.size (by simp)) 0).trans (World.cell?_alloc_new w _ _ _)) EK.out
    (Lib.hid (HC.out w' (fun b hm => (hb b (List.mem_cons_of_mem _ hm)).trans (hb0.block b (HL.out b hm).2)) c))

/-- in cells j of block g lie classes -/
def ClassesAt (w : World) (g : Nat) (ps : List (UInt8 → Bool)) : Prop := g < w.heap.size ∧ ∀ j p, ps[j]? = some p → ∃ v, w.cell? ⟨g, j, none⟩ = some v ∧ ClassAt w v p
/-- what is known of a list of classes: each one's blocks -/
def ClassesFrom (B : Nat) (w : World) (g : Nat) (ps : List (UInt8 → Bool)) : Prop := B ≤ g ∧ g < w.heap.size ∧ ∃ L : List Nat, (∀ b ∈ L, B ≤ b ∧ b < w.heap.size) ∧ ∀ w' : World, w'.heap[g]? = w.heap[g]? → (∀ b ∈ L, w'.heap[b]? = w.heap[b]?) →
  ∀ (j : Nat) p, ps[j]? = some p → ∃ k lb, w'.cell? ⟨g, j, none⟩ = some (.func (.func k) #[] lb) ∧ Enters k ∧ ∀ c : UInt8, Calls Tryd.prog k (#[.int .u8 (c.toNat : Int)] ++ lb) w' fun e w'' => e = .returned (.bool (p c)) ∧ w'' = w'
theorem any_take {α : Type} (f : α → Bool) {l : List α} {j : Nat} {x : α} (h : l[j]? = some x) : (l.take (j + 1)).any f = ((l.take j).any f || f x) := by
  obtain ⟨h1, rfl⟩ := List.getElem?_eq_some_iff.1 h
  rw [List.take_succ_eq_append_getElem h1, List.any_append]
  simp
theorem any_true {α : Type} (f : α → Bool) {l : List α} {j : Nat} {x : α} (h : l[j]? = some x) (hf : f x = true) : l.any f = true := List.any_eq_true.2 ⟨x, List.mem_of_getElem? h, hf⟩
set_option maxHeartbeats 1000000 in
theorem either1_any (A g : Nat) (n : Nat) (ps : List (UInt8 → Bool)) (hn : Hid (ps.length = n)) (nl : (n : Int) ≤ 1000) (c : UInt8) (w : World) (h1 : w.cell? ⟨A, 0, none⟩ = some (.slice (some ⟨g, 0, none⟩) n n)) (hg : Hid (∀ (j : Nat) p, ps[j]? = some p → ∃ k lb, w.cell? ⟨g, j, none⟩ = some (.func (.func k) #[] lb) ∧ Enters k ∧ ∀ c : UInt8, Calls Tryd.prog k (#[.int .u8 (c.toNat : Int)] ++ lb) w fun e w'' => e = .returned (.bool (p c)) ∧ w'' = w)) (R : Bool) (hR : Hid (R = ps.any fun p => p c)) :
    Calls Tryd.prog 51 #[.int .u8 (c.toNat : Int), .pointer (some ⟨A, 0, none⟩)] w fun e w' => e = .returned (.bool R) ∧ w' = w := by
  go_enter Tryd.func51, Tryd.ntmps51
  go_wp2_with fail
  go_loop [8] (fun i => ∃ k : Nat, k ≤ n ∧ Hid ((ps.take k).any (fun p => p c) = false) ∧ i = .int .i64 k) (fun i => n - litLen i)
  case atStart => exact ⟨0, by omega, Lib.hid rfl, rfl⟩
  case round =>
    obtain ⟨j, hj, hno, rfl⟩ := hrel
    rcases Nat.lt_or_ge j n with hlt | hge
    · have q3 : decide ((j : Int) < (n : Int)) = true := decide_eq_true (by omega)
      obtain ⟨p, hp⟩ : ∃ p, ps[j]? = some p := ⟨ps[j]'(by have := hn.out; omega), List.getElem?_eq_getElem _⟩
      obtain ⟨k, lb, hv, ek, hc⟩ := hg.out j p hp
      have C := Lib.hid (hc c)
      have ek' : ∀ args w, (callFunc k args).run Tryd.prog w = .ok (.enter k args) w := ek
      have HT := Lib.hid (any_take (fun p => p c) hp)
      have HY := Lib.hid (any_true (fun p => p c) hp)
      clear hc ek hp
      obtain ⟨b, hb⟩ : ∃ b, b = p c := ⟨_, rfl⟩
      rw [← hb] at C HT HY
      clear hb
      cases b with
      | true =>
        obtain rfl : R = true := by rw [hR.out]; exact HY.out rfl
        clear hR
        go_wp2_with ((with_reducible refine C.out.mono ?_); rintro e w' ⟨rfl, rfl⟩)
        go_ret
        exact ⟨rfl, rfl⟩
      | false =>
        go_wp2_with ((with_reducible refine C.out.mono ?_); rintro e w' ⟨rfl, rfl⟩)
        exact ⟨⟨j + 1, by omega, Lib.hid (by rw [HT.out, hno.out]; rfl), rfl⟩, by simp [litLen]; omega⟩
    · have q3 : decide ((j : Int) < (n : Int)) = false := decide_eq_false (by omega)
      obtain rfl : R = false := by rw [hR.out, ← hno.out, List.take_of_length_le (by rw [hn.out]; exact hge)]
      clear hR
      go_wp2_with fail
      go_ret
      exact ⟨rfl, rfl⟩
theorem enters_either1 : Enters 51 := enters_of Tryd.func51 (by kernel_rfl) rfl
theorem either_any (g n : Nat) (ps : List (UInt8 → Bool)) (hn : ps.length = n) (nl : (n : Int) ≤ 1000) (w : World) (B : Nat) (hg : ClassesFrom B w g ps) :
    Calls Tryd.prog 39 #[.slice (some ⟨g, 0, none⟩) n n] w fun e w' => GivesClass B w (fun c => ps.any fun p => p c) e w' := by
  have HN := Lib.hid hn
  obtain ⟨h1, h2, L, hL, hc⟩ := hg
  have H1 := Lib.hid h1
  have H2 := Lib.hid h2
  have HL := Lib.hid hL
  have HC := Lib.hid hc
  clear hn h1 h2 hL hc
  go_enter Tryd.func39, Tryd.ntmps39
  go_wp2_with fail
  go_ret
  have hb0 : Below w.heap.size w (w.alloc (.cells #[.slice (some ⟨g, 0, none⟩) n n] 83)) := (Below.refl _ w).alloc (Nat.le_refl _) _
  have h2 := H2.out
  have h1 := H1.out
  refine ⟨_, rfl, ⟨_, _, rfl, enters_either1, w.heap.size :: g :: L, fun b hb => ?_, fun w' hb c => ?_⟩, hb0⟩
  · rcases List.mem_cons.1 hb with rfl | hb
    · exact ⟨by omega, by simp⟩
    · rcases List.mem_cons.1 hb with rfl | hb
      · exact ⟨h1, by simp; omega⟩
      · exact ⟨(HL.out b hb).1, by have := (HL.out b hb).2; simp; omega⟩
  · refine either1_any w.heap.size g n ps HN nl c w' ((cell_same (hb w.heap.size (by simp)) 0).trans (World.cell?_alloc_new w _ _ _)) (Lib.hid (HC.out w' ?_ fun b hm => ?_)) _ (Lib.hid rfl)
    · exact (hb g (by simp)).trans (hb0.block g h2)
    · exact (hb b (by simp [hm])).trans (hb0.block b (HL.out b hm).2)
end Go.Proofs.YtnkndmmebhajcaaDoor
