/- lex: a number's end; the number at a place. -/
import Derived.Test.YtnkndmmebhajcaaDoorLexTok
namespace Go.Proofs.YtnkndmmebhajcaaDoor
open Go.RowKit

def numTo (l : List UInt8) (a : Nat) : Nat := a + numN (l.drop a)
theorem head_drop (l : List UInt8) (k : Nat) : (l.drop k).head? = l[k]? := by rw [List.head?_drop]
theorem numTo_end {l : List UInt8} {a : Nat} (h : l[runTo isDig l a]? ≠ some 46) : numTo l a = runTo isDig l a := by
  unfold numTo numN
  rw [List.drop_drop, ← runTo_dig, head_drop, if_neg (fun hh => h hh.1)]
  exact (runTo_dig l a).symm
theorem numTo_dot {l : List UInt8} {a : Nat} (h : l[runTo isDig l a]? = some 46) : numTo l a = if runTo isDig l a + 1 < runTo isDig l (runTo isDig l a + 1) then runTo isDig l (runTo isDig l a + 1) else runTo isDig l a := by
  have e : a + (digN (l.drop a) + 1) = runTo isDig l a + 1 := by rw [runTo_dig]; omega
  unfold numTo numN
  rw [List.drop_drop, List.drop_drop, ← runTo_dig, head_drop, h, e]
  rw [runTo_dig l (runTo isDig l a + 1)]
  generalize digN (l.drop (runTo isDig l a + 1)) = q
  rw [runTo_dig]
  generalize digN (l.drop a) = p
  by_cases hq : 0 < q
  · rw [if_pos ⟨rfl, hq⟩, if_pos (by omega)]; omega
  · rw [if_neg (fun hh => hq hh.2), if_neg (by omega)]
set_option maxHeartbeats 4000000 in
theorem numEnd_core (l : List UInt8) (n : Nat) (hn : Hid (l.length = n)) (nl : (n : Int) ≤ 30000) (hs : (str l).size = n) (m v1 v2 v3 v4 v5 : Value) (a : Nat) (ha : a ≤ n) (w : World)
    (h3 : Hid (ClassAt w v3 isDig)) (x : Nat) (hx : Hid (runTo isDig l a = x)) (hxn : x ≤ n) (R : Nat) (hR : Hid (numTo l a = R)) :
    Calls Tryd.prog 55 #[.agg #[.string (str l), m, v1, v2, v3, v4, v5], .int .i64 (a : Int)] w fun e w' => NumPost R w e w' := by
  have B1 : Hid (∀ (w' : World), Below w.heap.size w w' → ∀ j : Nat, j ≤ n → Calls Tryd.prog 42 #[.agg #[.string (str l), m, v1, v2, v3, v4, v5], .int .i64 (j : Int), v3] w' fun e w'' => NumPost (runTo isDig l j) w' e w'') :=
    Lib.hid fun w' hb j hj => behind_any l (by have := hn.out; omega) m v1 v2 v3 v4 v5 v3 isDig j (by have := hn.out; omega) w' (h3.out.mono hb)
  have hb0 := Lib.hid ((Below.refl w.heap.size w).alloc (Nat.le_refl _) (.cells #[.string (str l), m, v1, v2, v3, v4, v5] 64))
  have hR0 := Lib.hid (readAt_new w (.string (str l)) m v1 v2 v3 v4 v5 64)
  have P1 := Lib.hid (B1.out _ hb0.out a ha)
  rw [hx.out] at P1
  rcases Nat.lt_or_ge x n with hlt | hge
  · have nx : ¬ (x : Int) = (n : Int) := by omega
    have bx : ((x : Int) == (n : Int)) = false := beq_false_of_ne nx
    obtain ⟨c, hc⟩ := isBehind hn.out hlt
    have hix : ∀ h, (str l)[x]'h = c := fun h => str_at l hc h
    have HC := Lib.hid hc
    clear hc
    by_cases h46 : c = 46
    · subst h46
      obtain ⟨r, hr⟩ : ∃ r, r = x + 1 := ⟨_, rfl⟩
      have P2 := Lib.hid fun (w' : World) (hb : Below w.heap.size w w') => B1.out w' hb r (by omega)
      have hD := Lib.hid (numTo_dot (l := l) (a := a) (by rw [hx.out]; exact HC.out))
      rw [hx.out, ← hr] at hD
      have hge2 := Lib.hid (runTo_ge isDig l r)
      have hle2 := Lib.hid (runTo_le isDig (show r ≤ l.length by rw [hn.out]; omega))
      obtain ⟨y, hy⟩ : ∃ y, y = runTo isDig l r := ⟨_, rfl⟩
      rw [← hy] at hD P2 hge2 hle2
      have e1 : (x : Int) + 1 = (r : Int) := by omega
      have e46 : ((46 : UInt8) != 46) = false := rfl
      have yl : (y : Int) ≤ (n : Int) := by have := hle2.out; rw [hn.out] at this; omega
      clear hr hy
      by_cases hq : (r : Int) < (y : Int)
      · have q : decide ((r : Int) < (y : Int)) = true := decide_eq_true hq
        have hRy := Lib.hid (show R = y by rw [← hR.out, hD.out, if_pos (by omega)])
        go_enter Tryd.func55, Tryd.ntmps55
        go_wp2_with (first | (go_at_call 42; ((with_reducible refine P1.out.mono ?_); rintro e w2 ⟨rfl, hb2⟩; obtain ⟨dS, d1, d2, d3, d4, d5, d6⟩ := hR0.out.below hb2 (by simp); have HB2 := Lib.hid hb2; clear hb2)) | (go_at_call 42; ((with_reducible refine (P2.out _ (hb0.out.trans (HB2.out.mono hb0.out.size))).mono ?_); rintro e w3 ⟨rfl, hb3⟩; have HB3 := Lib.hid hb3; clear hb3)))
        go_ret
        exact ⟨by rw [hRy.out]; rfl, (hb0.out.trans (HB2.out.mono hb0.out.size)).trans (HB3.out.mono (hb0.out.trans (HB2.out.mono hb0.out.size)).size)⟩
      · have q : decide ((r : Int) < (y : Int)) = false := decide_eq_false hq
        have hRy := Lib.hid (show R = x by rw [← hR.out, hD.out, if_neg (by omega)])
        go_enter Tryd.func55, Tryd.ntmps55
        go_wp2_with (first | (go_at_call 42; ((with_reducible refine P1.out.mono ?_); rintro e w2 ⟨rfl, hb2⟩; obtain ⟨dS, d1, d2, d3, d4, d5, d6⟩ := hR0.out.below hb2 (by simp); have HB2 := Lib.hid hb2; clear hb2)) | (go_at_call 42; ((with_reducible refine (P2.out _ (hb0.out.trans (HB2.out.mono hb0.out.size))).mono ?_); rintro e w3 ⟨rfl, hb3⟩; have HB3 := Lib.hid hb3; clear hb3)))
        go_ret
        exact ⟨by rw [hRy.out]; rfl, (hb0.out.trans (HB2.out.mono hb0.out.size)).trans (HB3.out.mono (hb0.out.trans (HB2.out.mono hb0.out.size)).size)⟩
    · have n46 : (c != 46) = true := bne_iff_ne.2 h46
      have m46 : ((c.toNat : Int) != 46) = true := bne_iff_ne.2 fun e => h46 (UInt8.toNat_inj.1 (by show c.toNat = 46; omega))
      have k46 : ¬ (c.toNat : Int) = 46 := fun e => h46 (UInt8.toNat_inj.1 (by show c.toNat = 46; omega))
      have hRy := Lib.hid (show R = x by rw [← hR.out, numTo_end (by rw [hx.out, HC.out]; simpa using h46), hx.out])
      go_enter Tryd.func55, Tryd.ntmps55
      go_wp2_with (go_at_call 42; ((with_reducible refine P1.out.mono ?_); rintro e w2 ⟨rfl, hb2⟩; obtain ⟨dS, d1, d2, d3, d4, d5, d6⟩ := hR0.out.below hb2 (by simp); have HB2 := Lib.hid hb2; clear hb2))
      go_ret
      exact ⟨by rw [hRy.out]; rfl, hb0.out.trans (HB2.out.mono hb0.out.size)⟩
  · obtain rfl : n = x := by omega
    have bx : ((n : Int) == (n : Int)) = true := by simp
    have hRy := Lib.hid (show R = n by rw [← hR.out, numTo_end (by rw [hx.out, List.getElem?_eq_none (by rw [hn.out]; exact Nat.le_refl _)]; simp), hx.out])
    go_enter Tryd.func55, Tryd.ntmps55
    go_wp2_with (go_at_call 42; ((with_reducible refine P1.out.mono ?_); rintro e w2 ⟨rfl, hb2⟩; obtain ⟨dS, d1, d2, d3, d4, d5, d6⟩ := hR0.out.below hb2 (by simp); have HB2 := Lib.hid hb2; clear hb2))
    go_ret
    exact ⟨by rw [hRy.out]; rfl, hb0.out.trans (HB2.out.mono hb0.out.size)⟩
theorem numEnd_any (l : List UInt8) (nl : l.length ≤ 30000) (m v1 v2 v3 v4 v5 : Value) (a : Nat) (ha : a ≤ l.length) (w : World) (h3 : ClassAt w v3 isDig) :
    Calls Tryd.prog 55 #[.agg #[.string (str l), m, v1, v2, v3, v4, v5], .int .i64 (a : Int)] w fun e w' => NumPost (numTo l a) w e w' :=
  numEnd_core l _ (Lib.hid rfl) (by omega) (str_size l) m v1 v2 v3 v4 v5 a ha w (Lib.hid h3) _ (Lib.hid rfl) (runTo_le isDig ha) _ (Lib.hid rfl)
theorem numTo_le {l : List UInt8} {a : Nat} (h : a ≤ l.length) : numTo l a ≤ l.length := by
  unfold numTo
  have := numN_le (l.drop a)
  rw [List.length_drop] at this
  omega

set_option maxHeartbeats 4000000 in
theorem number_core (l : List UInt8) (n : Nat) (hn : Hid (l.length = n)) (nl : (n : Int) ≤ 30000) (hs : (str l).size = n) (m v1 v2 v3 v4 v5 : Value) (a : Nat) (ha : a ≤ n) (w : World) (h3 : Hid (ClassAt w v3 isDig))
    (x : Nat) (hx : Hid (numTo l a = x)) (hax : a ≤ x) (hxn : x ≤ n) (T : ByteArray) (hT : (str l).extract a x = T) (V : Int) (O : Bool)
    (PA : Hid (∀ w, Calls Tryd.prog 56 #[.string T] w fun e w' => e = .returned (.tuple #[.int .i64 V, .bool O]) ∧ Below w.heap.size w w'))
    (t : List UInt8) (ht : Hid (T = str t)) (tk : Tok) (hk : Hid (tk = if O = true then ⟨2, t, V, a⟩ else ⟨0, [], 0, a⟩)) :
    Calls Tryd.prog 44 #[.agg #[.string (str l), m, v1, v2, v3, v4, v5], .int .i64 (a : Int)] w fun e w' => TokPost tk w e w' := by
  have B1 : Hid (∀ (w' : World), Below w.heap.size w w' → Calls Tryd.prog 55 #[.agg #[.string (str l), m, v1, v2, v3, v4, v5], .int .i64 (a : Int)] w' fun e w'' => NumPost x w' e w'') :=
    Lib.hid fun w' hb => by have := numEnd_any l (by have := hn.out; omega) m v1 v2 v3 v4 v5 a (by have := hn.out; omega) w' (h3.out.mono hb); rwa [hx.out] at this
  have x1 : (0 : Int) ≤ (a : Int) := by omega
  have x2 : (a : Int) ≤ (x : Int) := by omega
  have x3 : (x : Int) ≤ (n : Int) := by omega
  have hb0 := Lib.hid (((Below.refl w.heap.size w).alloc (Nat.le_refl _) (.cells #[.string (str l), m, v1, v2, v3, v4, v5] 64)).alloc (by simp) (.cells #[.int .i64 0, .string ⟨#[]⟩, .int .i64 0, .int .i64 0] 36))
  have hR0 := Lib.hid (ReadAt.drew <| (readAt_new w (.string (str l)) m v1 v2 v3 v4 v5 64).below ((Below.refl (w.heap.size + 1) _).alloc (by simp) (.cells #[.int .i64 0, .string ⟨#[]⟩, .int .i64 0, .int .i64 0] 36)) (Nat.lt_succ_self _))
  have hM0 := Lib.hid (RoomAt.drew (by have := roomAt_new (w.alloc (.cells #[.string (str l), m, v1, v2, v3, v4, v5] 64)) 36; rwa [World.size_alloc] at this))
  cases O with
  | true =>
    have hk2 := Lib.hid (hk.out.trans (if_pos rfl))
    clear hk
    go_enter Tryd.func44, Tryd.ntmps44
    go_wp2_with fail
    go_region_held3 (fun w' => w'.cell? ⟨w.heap.size, 0, none⟩ = some (.string (str l)) ∧ w'.cell? ⟨w.heap.size, 1, none⟩ = some m ∧ w'.cell? ⟨w.heap.size, 2, none⟩ = some v1 ∧ w'.cell? ⟨w.heap.size, 3, none⟩ = some v2 ∧ w'.cell? ⟨w.heap.size, 4, none⟩ = some v3 ∧ w'.cell? ⟨w.heap.size, 5, none⟩ = some v4 ∧ w'.cell? ⟨w.heap.size, 6, none⟩ = some v5)
      ((repeat' apply And.intro) <;> first | assumption | go_keep)
      (first | (go_at_call 55; (with_reducible refine (B1.out _ (by exact hb0.out.drew)).mono ?_); rintro e w1 ⟨rfl, hb1⟩; obtain ⟨dS, d1, d2, d3, d4, d5, d6⟩ := hR0.out.below hb1 (by simp; omega); have HM1 := Lib.hid (hM0.out.below hb1 (by simp)); have HB1 := Lib.hid hb1; clear hb1))
    have hs1 : Hid (w.heap.size + 1 < w1.heap.size) := Lib.hid (by have := HB1.out.size; simp at this; omega)
    go_wp2_with (go_at_call 56; ((with_reducible refine (PA.out _).mono ?_); rintro e w2 ⟨rfl, hb2⟩; obtain ⟨r0, r1, r2, r3, f0, f1, f2, f3⟩ := HM1.out.below hb2 hs1.out; have HB2 := Lib.hid hb2; clear hb2))
    have hbw := Lib.hid (hb0.out.drew.trans (HB1.out.mono (by simp; omega)))
    rw [hk2.out]
    exact bodyPost_ret (v := tokV ⟨2, t, V, a⟩) (by simp [results, Tryd.results44, go_sem, r0, r1, r2, r3, tokV, ht.out]) rfl ⟨rfl, below_four (hbw.out.trans (HB2.out.mono hbw.out.size)) (Nat.le_succ _) _ _ _ _⟩
  | false =>
    have hk2 := Lib.hid (hk.out.trans (if_neg (by simp)))
    clear hk
    go_enter Tryd.func44, Tryd.ntmps44
    go_wp2_with fail
    go_region_held3 (fun w' => w'.cell? ⟨w.heap.size, 0, none⟩ = some (.string (str l)) ∧ w'.cell? ⟨w.heap.size, 1, none⟩ = some m ∧ w'.cell? ⟨w.heap.size, 2, none⟩ = some v1 ∧ w'.cell? ⟨w.heap.size, 3, none⟩ = some v2 ∧ w'.cell? ⟨w.heap.size, 4, none⟩ = some v3 ∧ w'.cell? ⟨w.heap.size, 5, none⟩ = some v4 ∧ w'.cell? ⟨w.heap.size, 6, none⟩ = some v5)
      ((repeat' apply And.intro) <;> first | assumption | go_keep)
      (first | (go_at_call 55; (with_reducible refine (B1.out _ (by exact hb0.out.drew)).mono ?_); rintro e w1 ⟨rfl, hb1⟩; obtain ⟨dS, d1, d2, d3, d4, d5, d6⟩ := hR0.out.below hb1 (by simp; omega); have HM1 := Lib.hid (hM0.out.below hb1 (by simp)); have HB1 := Lib.hid hb1; clear hb1))
    have hs1 : Hid (w.heap.size + 1 < w1.heap.size) := Lib.hid (by have := HB1.out.size; simp at this; omega)
    go_wp2_with (go_at_call 56; ((with_reducible refine (PA.out _).mono ?_); rintro e w2 ⟨rfl, hb2⟩; obtain ⟨r0, r1, r2, r3, f0, f1, f2, f3⟩ := HM1.out.below hb2 hs1.out; have HB2 := Lib.hid hb2; clear hb2))
    have hbw := Lib.hid (hb0.out.drew.trans (HB1.out.mono (by simp; omega)))
    rw [hk2.out]
    exact bodyPost_ret (v := tokV ⟨0, [], 0, a⟩) (by simp [results, Tryd.results44, go_sem, r0, r1, r2, r3, tokV, str_nil]) rfl ⟨rfl, below_four (hbw.out.trans (HB2.out.mono hbw.out.size)) (Nat.le_succ _) _ _ _ _⟩
end Go.Proofs.YtnkndmmebhajcaaDoor
