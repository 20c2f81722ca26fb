/- lex: how far bytes of a class go; gaps. -/
import Derived.Test.YtnkndmmebhajcaaDoorLexCls
namespace Go.Proofs.YtnkndmmebhajcaaDoor
open Go.RowKit

/-- a number comes back, and what lay is as it was -/
def NumPost (n : Nat) (w : World) (e : Ending) (w' : World) : Prop := e = .returned (.int .i64 (n : Int)) ∧ Below w.heap.size w w'
theorem isBehind {l : List UInt8} {a n : Nat} (hn : l.length = n) (h : a < n) : ∃ c, l[a]? = some c := ⟨l[a]'(by omega), List.getElem?_eq_getElem _⟩
set_option maxHeartbeats 2000000 in
theorem behind_core (l : List UInt8) (n : Nat) (hn : Hid (l.length = n)) (nl : (n : Int) ≤ 30000) (hs : (str l).size = n) (m v1 v2 v3 v4 v5 : Value) (k : FuncId) (lb : Array Value) (p : UInt8 → Bool) (a : Nat) (ha : a ≤ n) (w : World)
    (ek : ∀ args w, (callFunc k args).run Tryd.prog w = .ok (.enter k args) w)
    (hc : Hid (∀ w', Below w.heap.size w w' → ∀ c : UInt8, Calls Tryd.prog k (#[.int .u8 (c.toNat : Int)] ++ lb) w' fun e w'' => e = .returned (.bool (p c)) ∧ w'' = w')) (R : Nat) (hR : Hid (runTo p l a = R)) :
    Calls Tryd.prog 42 #[.agg #[.string (str l), m, v1, v2, v3, v4, v5], .int .i64 (a : Int), .func (.func k) #[] lb] w fun e w' => NumPost R w e w' := by
  go_enter Tryd.func42, Tryd.ntmps42
  go_wp2_with fail
  go_loop [1] (fun i => ∃ j : Nat, j ≤ n ∧ Hid (runTo p l j = R) ∧ i = .int .i64 j) (fun i => n - litLen i)
  case atStart => exact ⟨a, ha, hR, rfl⟩
  case round =>
    obtain ⟨j, hj, hr, rfl⟩ := hrel
    rcases Nat.lt_or_ge j n with hlt | hge
    · have q3 : decide ((j : Int) < (n : Int)) = true := decide_eq_true (by omega)
      obtain ⟨c, hcj⟩ := isBehind hn.out hlt
      have hix : ∀ h, (str l)[j]'h = c := fun h => str_at l hcj h
      have HC := Lib.hid hcj
      have C := Lib.hid (hc.out _ ((Below.refl w.heap.size w).alloc (Nat.le_refl _) (.cells #[.string (str l), m, v1, v2, v3, v4, v5] 64)) c)
      clear hcj
      obtain ⟨b, hb⟩ : ∃ b, b = p c := ⟨_, rfl⟩
      rw [← hb] at C
      have HB := Lib.hid hb
      clear hb
      cases b with
      | true =>
        go_wp2_with ((with_reducible refine C.out.mono ?_); rintro e w' ⟨rfl, rfl⟩)
        exact ⟨⟨j + 1, by omega, Lib.hid (by rw [← runTo_step HC.out HB.out.symm]; exact hr.out), rfl⟩, by simp [litLen]; omega⟩
      | false =>
        go_wp2_with ((with_reducible refine C.out.mono ?_); rintro e w' ⟨rfl, rfl⟩)
        go_ret
        exact ⟨by rw [← hr.out, runTo_stop HC.out HB.out.symm]; rfl, (Below.refl _ w).alloc (Nat.le_refl _) _⟩
    · have q3 : decide ((j : Int) < (n : Int)) = false := decide_eq_false (by omega)
      go_wp2_with fail
      go_ret
      exact ⟨by rw [← hr.out, runTo_end (by rw [hn.out]; exact hge)]; rfl, (Below.refl _ w).alloc (Nat.le_refl _) _⟩
theorem behind_any (l : List UInt8) (nl : l.length ≤ 30000) (m v1 v2 v3 v4 v5 v : Value) (p : UInt8 → Bool) (a : Nat) (ha : a ≤ l.length) (w : World) (hv : ClassAt w v p) :
    Calls Tryd.prog 42 #[.agg #[.string (str l), m, v1, v2, v3, v4, v5], .int .i64 (a : Int), v] w fun e w' => NumPost (runTo p l a) w e w' := by
  obtain ⟨k, lb, rfl, ek, hc⟩ := hv
  exact behind_core l _ (Lib.hid rfl) (by omega) (str_size l) m v1 v2 v3 v4 v5 k lb p a ha w ek (Lib.hid hc) _ (Lib.hid rfl)
/-- a reader lies in block g -/
def ReadAt (w : World) (g : Nat) (s m v1 v2 v3 v4 v5 : Value) : Prop :=
  w.cell? ⟨g, 0, none⟩ = some s ∧ w.cell? ⟨g, 1, none⟩ = some m ∧ w.cell? ⟨g, 2, none⟩ = some v1 ∧ w.cell? ⟨g, 3, none⟩ = some v2 ∧ w.cell? ⟨g, 4, none⟩ = some v3 ∧ w.cell? ⟨g, 5, none⟩ = some v4 ∧ w.cell? ⟨g, 6, none⟩ = some v5
theorem ReadAt.below {w w' : World} {g B : Nat} {s m v1 v2 v3 v4 v5 : Value} (h : ReadAt w g s m v1 v2 v3 v4 v5) (hb : Below B w w') (hg : g < B) : ReadAt w' g s m v1 v2 v3 v4 v5 :=
  ⟨(hb.cell (p := ⟨g, 0, none⟩) hg).trans h.1, (hb.cell (p := ⟨g, 1, none⟩) hg).trans h.2.1, (hb.cell (p := ⟨g, 2, none⟩) hg).trans h.2.2.1, (hb.cell (p := ⟨g, 3, none⟩) hg).trans h.2.2.2.1,
    (hb.cell (p := ⟨g, 4, none⟩) hg).trans h.2.2.2.2.1, (hb.cell (p := ⟨g, 5, none⟩) hg).trans h.2.2.2.2.2.1, (hb.cell (p := ⟨g, 6, none⟩) hg).trans h.2.2.2.2.2.2⟩
theorem readAt_new (w : World) (s m v1 v2 v3 v4 v5 : Value) (T : TypeId) : ReadAt (w.alloc (.cells #[s, m, v1, v2, v3, v4, v5] T)) w.heap.size s m v1 v2 v3 v4 v5 :=
  ⟨by rw [World.cell?_alloc_new]; rfl, by rw [World.cell?_alloc_new]; rfl, by rw [World.cell?_alloc_new]; rfl, by rw [World.cell?_alloc_new]; rfl, by rw [World.cell?_alloc_new]; rfl, by rw [World.cell?_alloc_new]; rfl, by rw [World.cell?_alloc_new]; rfl⟩
set_option maxHeartbeats 4000000 in
theorem gaps_core (l : List UInt8) (n : Nat) (hn : Hid (l.length = n)) (nl : (n : Int) ≤ 30000) (hs : (str l).size = n) (m v1 v2 v3 v4 v5 : Value) (a : Nat) (ha : a ≤ n) (w : World)
    (h1 : Hid (ClassAt w v1 isBlank)) (h2 : Hid (ClassAt w v2 isComment)) (R : Nat) (hR : Hid (gapTo false l a = R)) :
    Calls Tryd.prog 27 #[.agg #[.string (str l), m, v1, v2, v3, v4, v5], .int .i64 (a : Int)] w fun e w' => NumPost R w e w' := by
  have B1 : Hid (∀ (w' : World), Below w.heap.size w w' → ∀ j : Nat, j ≤ n → Calls Tryd.prog 42 #[.agg #[.string (str l), m, v1, v2, v3, v4, v5], .int .i64 (j : Int), v1] w' fun e w'' => NumPost (runTo isBlank l j) w' e w'') :=
    Lib.hid fun w' hb j hj => behind_any l (by have := hn.out; omega) m v1 v2 v3 v4 v5 v1 isBlank j (by have := hn.out; omega) w' (h1.out.mono hb)
  have B2 : Hid (∀ (w' : World), Below w.heap.size w w' → ∀ j : Nat, j ≤ n → Calls Tryd.prog 42 #[.agg #[.string (str l), m, v1, v2, v3, v4, v5], .int .i64 (j : Int), v2] w' fun e w'' => NumPost (runTo isComment l j) w' e w'') :=
    Lib.hid fun w' hb j hj => behind_any l (by have := hn.out; omega) m v1 v2 v3 v4 v5 v2 isComment j (by have := hn.out; omega) w' (h2.out.mono hb)
  have hb0 := Lib.hid ((Below.refl w.heap.size w).alloc (Nat.le_refl _) (.cells #[.string (str l), m, v1, v2, v3, v4, v5] 64))
  have hr1 := Lib.hid (runTo_le isBlank (show a ≤ l.length by rw [hn.out]; exact ha))
  have hg1 := Lib.hid (gapTo_blanks l a)
  obtain ⟨b, hb⟩ : ∃ b, b = runTo isBlank l a := ⟨_, rfl⟩
  have HE := Lib.hid (show gapTo false l b = R ∧ (l[b]? ≠ some 35 → gapTo false l b = b) ∧ b ≤ n by
    rw [hb]
    exact ⟨hg1.out.trans hR.out, fun h => gapTo_here h, by rw [← hn.out]; exact hr1.out⟩)
  have HB := Lib.hid hb
  have P1 := Lib.hid (B1.out _ hb0.out a ha)
  rw [← hb] at P1
  clear hb hg1 hr1
  go_enter Tryd.func27, Tryd.ntmps27
  go_wp2_with (go_at_call 42; ((with_reducible refine P1.out.mono ?_); rintro e w1 ⟨rfl, hb1⟩; have HB1 := Lib.hid hb1; clear hb1))
  have hsz : Hid (w.heap.size < w1.heap.size) := Lib.hid (by have := HB1.out.size; simp at this; omega)
  go_loopw [1] (fun i wr => ∃ j : Nat, j ≤ n ∧ Hid (gapTo false l j = R ∧ (l[j]? ≠ some 35 → gapTo false l j = j)) ∧ i = .int .i64 j ∧ Hid (Below (w.heap.size + 1) (w.alloc (.cells #[.string (str l), m, v1, v2, v3, v4, v5] 64)) wr)) (fun i _ => n - litLen i)
  case atStart => exact ⟨b, HE.out.2.2, Lib.hid ⟨HE.out.1, HE.out.2.1⟩, rfl, Lib.hid (by have := HB1.out; rwa [World.size_alloc] at this)⟩
  case round =>
    obtain ⟨j, hj, hJ, rfl, hB⟩ := hrel
    have hbw : Hid (Below w.heap.size w wr) := Lib.hid (hb0.out.trans (hB.out.mono (Nat.le_succ _)))
    have hRA := Lib.hid ((readAt_new w (.string (str l)) m v1 v2 v3 v4 v5 64).below hB.out (Nat.lt_succ_self _))
    obtain ⟨cS, c1, c2, c3, c4, c5, c6⟩ := hRA.out
    have hgw : Hid (w.heap.size < wr.heap.size) := Lib.hid (by have := hB.out.size; simp at this; omega)
    rcases Nat.lt_or_ge j n with hlt | hge
    · have q3 : decide ((j : Int) < (n : Int)) = true := decide_eq_true (by omega)
      obtain ⟨c, hcj⟩ := isBehind hn.out hlt
      have hix : ∀ h, (str l)[j]'h = c := fun h => str_at l hcj h
      have HC := Lib.hid hcj
      clear hcj
      by_cases h35 : c = 35
      · subst h35
        have e35 : ((35 : UInt8) == 35) = true := rfl
        have hlt2 := Lib.hid (runTo_hash HC.out)
        have hgp := Lib.hid (gapTo_hashes HC.out)
        have hle1 := Lib.hid (runTo_le isComment (show j ≤ l.length by rw [hn.out]; exact hj))
        have P2 := Lib.hid (B2.out wr hbw.out j hj)
        obtain ⟨x, hx⟩ : ∃ x, x = runTo isComment l j := ⟨_, rfl⟩
        rw [← hx] at P2 hlt2 hgp hle1
        have hxn : x ≤ n := by rw [← hn.out]; exact hle1.out
        have hle2 := Lib.hid (runTo_le isBlank (show x ≤ l.length from hle1.out))
        have P3 : Hid (∀ (w' : World), Below w.heap.size w w' → Calls Tryd.prog 42 #[.agg #[.string (str l), m, v1, v2, v3, v4, v5], .int .i64 (x : Int), v1] w' fun e w'' => NumPost (runTo isBlank l x) w' e w'') := Lib.hid fun w' hb => B1.out w' hb x hxn
        have hend := Lib.hid (fun h => gapTo_here (l := l) (a := x) h)
        obtain ⟨y, hy⟩ : ∃ y, y = runTo isBlank l x := ⟨_, rfl⟩
        rw [← hy] at P3 hlt2 hgp hle2 hend
        have HX := Lib.hid hx
        have HY := Lib.hid hy
        clear hx hy
        go_wp2_with (first | (go_at_call 42; ((with_reducible refine P2.out.mono ?_); rintro e w2 ⟨rfl, hb2⟩; obtain ⟨dS, d1, d2, d3, d4, d5, d6⟩ := hRA.out.below hb2 hgw.out; have HB2 := Lib.hid hb2; clear hb2)) | (go_at_call 42; ((with_reducible refine (P3.out _ (hbw.out.trans (HB2.out.mono hbw.out.size))).mono ?_); rintro e w3 ⟨rfl, hb3⟩; have HB3 := Lib.hid hb3; clear hb3)))
        have hle := hle2.out
        have hlt3 := hlt2.out
        rw [hn.out] at hle
        exact ⟨⟨y, hle, Lib.hid ⟨hgp.out.trans hJ.out.1, hend.out⟩, rfl, Lib.hid ((hB.out.trans (HB2.out.mono (by have := hgw.out; omega))).trans (HB3.out.mono (by have := hgw.out; have := HB2.out.size; omega)))⟩, by simp [litLen]; omega⟩
      · have e35 : (c == 35) = false := beq_false_of_ne h35
        have n35 : ¬ (c.toNat : Int) = 35 := fun e => h35 (UInt8.toNat_inj.1 (by show c.toNat = 35; omega))
        go_wp2_with fail
        go_ret
        exact ⟨by rw [← hJ.out.1, hJ.out.2 (by rw [HC.out]; simpa using h35)]; rfl, hbw.out⟩
    · have q3 : decide ((j : Int) < (n : Int)) = false := decide_eq_false (by omega)
      go_wp2_with fail
      go_ret
      exact ⟨by rw [← hJ.out.1, hJ.out.2 (by rw [List.getElem?_eq_none (by rw [hn.out]; exact hge)]; simp)]; rfl, hbw.out⟩
theorem gaps_any (l : List UInt8) (nl : l.length ≤ 30000) (m v1 v2 v3 v4 v5 : Value) (a : Nat) (ha : a ≤ l.length) (w : World) (h1 : ClassAt w v1 isBlank) (h2 : ClassAt w v2 isComment) :
    Calls Tryd.prog 27 #[.agg #[.string (str l), m, v1, v2, v3, v4, v5], .int .i64 (a : Int)] w fun e w' => NumPost (gapTo false l a) w e w' :=
  gaps_core l _ (Lib.hid rfl) (by omega) (str_size l) m v1 v2 v3 v4 v5 a ha w (Lib.hid h1) (Lib.hid h2) _ (Lib.hid rfl)
end Go.Proofs.YtnkndmmebhajcaaDoor
