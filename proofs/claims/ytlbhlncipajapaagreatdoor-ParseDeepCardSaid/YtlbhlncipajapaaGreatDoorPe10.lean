/- Joined: LexOne, LexRefLex. -/
import Derived.Test.YtlbhlncipajapaaGreatDoorPe09
namespace Go.Proofs.YtlbhlncipajapaaGreatDoor.Lx
open Go.RowKit

/-- a token lies in block g, and may be written -/
def Tok4 (w : World) (g : Nat) (k v a : Int) (S : ByteArray) : Prop :=
  w.cell? ⟨g, 0, none⟩ = some (.int .i64 k) ∧ w.cell? ⟨g, 1, none⟩ = some (.string S) ∧ w.cell? ⟨g, 2, none⟩ = some (.int .i64 v) ∧ w.cell? ⟨g, 3, none⟩ = some (.int .i64 a) ∧
  w.frozen? ⟨g, 0, none⟩ = false ∧ w.frozen? ⟨g, 1, none⟩ = false ∧ w.frozen? ⟨g, 2, none⟩ = false ∧ w.frozen? ⟨g, 3, none⟩ = false
theorem Tok4.below {w w' : World} {g B : Nat} {k v a : Int} {S : ByteArray} (h : Tok4 w g k v a S) (hb : Below B w w') (hg : g < B) : Tok4 w' g k v a S :=
  ⟨(hb.cell (p := ⟨g, 0, none⟩) hg).trans h.1, (hb.cell (p := ⟨g, 1, none⟩) hg).trans h.2.1, (hb.cell (p := ⟨g, 2, none⟩) hg).trans h.2.2.1, (hb.cell (p := ⟨g, 3, none⟩) hg).trans h.2.2.2.1,
   (hb.frozen (p := ⟨g, 0, none⟩) hg).trans h.2.2.2.2.1, (hb.frozen (p := ⟨g, 1, none⟩) hg).trans h.2.2.2.2.2.1, (hb.frozen (p := ⟨g, 2, none⟩) hg).trans h.2.2.2.2.2.2.1, (hb.frozen (p := ⟨g, 3, none⟩) hg).trans h.2.2.2.2.2.2.2⟩
theorem tok4_new (w : World) (k v a : Int) (S : ByteArray) (T : TypeId) : Tok4 (w.alloc (.cells #[.int .i64 k, .string S, .int .i64 v, .int .i64 a] T)) w.heap.size k v a S :=
  ⟨by rw [World.cell?_alloc_new]; rfl, by rw [World.cell?_alloc_new]; rfl, by rw [World.cell?_alloc_new]; rfl, by rw [World.cell?_alloc_new]; rfl,
   World.frozen?_alloc_new _ _ _ _, World.frozen?_alloc_new _ _ _ _, World.frozen?_alloc_new _ _ _ _, World.frozen?_alloc_new _ _ _ _⟩
/-- what One answers -/
def OneRet (k v a : Int) (S : ByteArray) (ok : Bool) (w : World) (e : Ending) (w' : World) : Prop := e = .returned (.tuple #[.agg #[.int .i64 k, .string S, .int .i64 v, .int .i64 a], .bool ok]) ∧ Below w.heap.size w w'
theorem run_next {p : UInt8 → Bool} {l : List UInt8} {j x : Nat} {c : UInt8} (h : l[j]? = some c) (hr : runTo p l j = x) (hp : p c = true) : runTo p l (j + 1) = x := by rw [← runTo_step h hp]; exact hr
set_option maxHeartbeats 8000000 in
set_option maxRecDepth 100000 in
theorem one_name (l : List UInt8) (n : Nat) (hn : Hid (l.length = n)) (nl : (n : Int) ≤ 30000) (hs : (str l).size = n) (a : Nat) (han : (a : Int) < (n : Int)) (c : UInt8) (hix : ∀ h, (str l)[a]'h = c) (hcl : Hid (isLetter c = true)) (x : Nat) (hx : Hid (runTo isName l a = x)) (hax : (a : Int) ≤ (x : Int)) (hxn : (x : Int) ≤ (n : Int))
    (T : ByteArray) (hT : (str l).extract a x = T) (t : List UInt8) (hTt : Hid (T = str t)) (m : Nat) (hm : (x : Int) - (a : Int) = (m : Int)) (K : Int) (Wb : Bool) (hWb : Hid (Wb = wordL t)) (hK : Hid (K = if Wb = true then 3 else 1)) (B : Bool) (hB : Hid (B = decide ((m : Int) ≤ 16))) (w : World) :
    Calls Tryz.prog 28 #[.string (str l), .int .i64 (a : Int)] w fun e w' => OneRet K 0 a T B w e w' := by
  have LT : Hid (∀ (c : UInt8) w, Calls Tryz.prog 53 #[.int .u8 (c.toNat : Int)] w fun e w' => e = .returned (.bool (isLetter c)) ∧ w' = w) := Lib.hid letter_ref
  have DT : Hid (∀ (c : UInt8) w, Calls Tryz.prog 54 #[.int .u8 (c.toNat : Int)] w fun e w' => e = .returned (.bool (isDig c)) ∧ w' = w) := Lib.hid digit_ref
  have L0 : Hid (∀ w, Calls Tryz.prog 53 #[.int .u8 (c.toNat : Int)] w fun e w' => e = .returned (.bool true) ∧ w' = w) := Lib.hid fun w => by have := letter_ref c w; rwa [hcl.out] at this
  have CW : Hid (∀ w, Calls Tryz.prog 55 #[.string T] w fun e w' => e = .returned (.bool Wb) ∧ Below w.heap.size w w') := Lib.hid fun w => by rw [hTt.out]; exact word_ref t Wb hWb w
  have hb0 := Lib.hid ((Below.refl w.heap.size w).alloc (Nat.le_refl _) (.cells #[.int .i64 0, .string ⟨#[]⟩, .int .i64 0, .int .i64 0] 43))
  have hrm := Lib.hid (roomAt_new w 43)
  have hbx := Lib.hid (by have := tok4_new (w.alloc (.cells #[.int .i64 0, .string ⟨#[]⟩, .int .i64 0, .int .i64 0] 43)) 1 0 a T 43; rwa [World.size_alloc] at this)
  have a0 : (0 : Int) ≤ (a : Int) := by omega
  have HE : Hid (∀ j : Nat, runTo isName l j = x → (n ≤ j ∨ ∃ c, l[j]? = some c ∧ isName c = false) → j = x) := Lib.hid fun j h1 h2 => by
    rcases h2 with h2 | ⟨c, h2, h3⟩
    · rw [runTo_end (by rw [hn.out]; exact h2)] at h1; exact h1
    · rw [runTo_stop h2 h3] at h1; exact h1
  go_enter Tryz.func28, Tryz.ntmps28
  go_wp2_with (go_at_call 53; ((with_reducible refine (L0.out _).mono ?_); rintro e w' ⟨rfl, rfl⟩))
  go_loop [7] (fun i => ∃ j : Nat, a ≤ j ∧ j ≤ n ∧ Hid (runTo isName l j = x) ∧ i = .int .i64 j) (fun i => n - litLen i)
  case atStart => exact ⟨a, Nat.le_refl _, by omega, hx, rfl⟩
  case round =>
    obtain ⟨j, haj, hj, hr, rfl⟩ := hrel
    rcases Nat.lt_or_ge j n with hlt | hge
    · have q3 : decide ((j : Int) < (n : Int)) = true := decide_eq_true (by omega)
      have jn : (j : Int) < (n : Int) := by omega
      obtain ⟨d, hdj⟩ := isBehind hn.out hlt
      have hix2 : ∀ h, (str l)[j]'h = d := fun h => str_at l hdj h
      have HD := Lib.hid hdj
      clear hdj
      obtain ⟨b1, hb1⟩ : ∃ b, b = isLetter d := ⟨_, rfl⟩
      obtain ⟨b2, hb2⟩ : ∃ b, b = isDig d := ⟨_, rfl⟩
      have LD := Lib.hid (LT.out d)
      have DD := Lib.hid (DT.out d)
      rw [← hb1] at LD
      rw [← hb2] at DD
      have H1 := Lib.hid hb1
      have H2 := Lib.hid hb2
      clear hb1 hb2
      cases b1 with
      | true =>
        go_wp2_with (go_at_call 53; ((with_reducible refine (LD.out _).mono ?_); rintro e w' ⟨rfl, rfl⟩))
        exact ⟨⟨j + 1, by omega, by omega, Lib.hid (run_next HD.out hr.out (by unfold isName; rw [← H1.out]; rfl)), rfl⟩, by simp [litLen]; omega⟩
      | false =>
        cases b2 with
        | true =>
          go_wp2_with (first | (go_at_call 53; ((with_reducible refine (LD.out _).mono ?_); rintro e w' ⟨rfl, rfl⟩)) | (go_at_call 54; ((with_reducible refine (DD.out _).mono ?_); rintro e w' ⟨rfl, rfl⟩)))
          exact ⟨⟨j + 1, by omega, by omega, Lib.hid (run_next HD.out hr.out (by unfold isName; rw [← H2.out]; simp)), rfl⟩, by simp [litLen]; omega⟩
        | false =>
          obtain rfl : j = x := HE.out j hr.out (.inr ⟨d, HD.out, by unfold isName; rw [← H1.out, ← H2.out]; rfl⟩)
          have hb0' := Lib.hid ((Below.refl (w.heap.size + 1) (w.alloc (.cells #[.int .i64 0, .string ⟨#[]⟩, .int .i64 0, .int .i64 0] 43))).alloc (by simp) (.cells #[.int .i64 1, .string T, .int .i64 0, .int .i64 (a : Int)] 43))
          have hbb := Lib.hid (hb0.out.alloc hb0.out.size (.cells #[.int .i64 1, .string T, .int .i64 0, .int .i64 (a : Int)] 43))
          rcases Wb with _ | _
          · obtain rfl : K = 1 := by rw [hK.out]; rfl
            by_cases h16 : (m : Int) ≤ 16
            · have q16 : decide ((m : Int) ≤ 16) = true := decide_eq_true h16
              obtain rfl : B = true := by rw [hB.out, q16]
              go_wp2_with (first | (go_at_call 53; ((with_reducible refine (LD.out _).mono ?_); rintro e w' ⟨rfl, rfl⟩)) | (go_at_call 54; ((with_reducible refine (DD.out _).mono ?_); rintro e w' ⟨rfl, rfl⟩)) | (go_at_call 55; ((with_reducible refine (CW.out _).mono ?_); rintro e w3 ⟨rfl, hb3⟩; obtain ⟨x0, x1, x2, x3, y0, y1, y2, y3⟩ := hbx.out.below hb3 (by simp); obtain ⟨r0, r1, r2, r3, f0, f1, f2, f3⟩ := hrm.out.below (hb0'.out.trans (hb3.mono (by simp))) (Nat.lt_succ_self _); have HB3 := Lib.hid hb3; clear hb3)))
              exact bodyPost_ret (v := .tuple #[.agg #[.int .i64 1, .string T, .int .i64 0, .int .i64 (a : Int)], .bool true]) (by simp [results, Tryz.results28, go_sem, r0, r1, r2, r3]) rfl ⟨rfl, below_four (hbb.out.trans (HB3.out.mono hbb.out.size)) (Nat.le_refl _) _ _ _ _⟩
            · have q16 : decide ((m : Int) ≤ 16) = false := decide_eq_false h16
              obtain rfl : B = false := by rw [hB.out, q16]
              go_wp2_with (first | (go_at_call 53; ((with_reducible refine (LD.out _).mono ?_); rintro e w' ⟨rfl, rfl⟩)) | (go_at_call 54; ((with_reducible refine (DD.out _).mono ?_); rintro e w' ⟨rfl, rfl⟩)) | (go_at_call 55; ((with_reducible refine (CW.out _).mono ?_); rintro e w3 ⟨rfl, hb3⟩; obtain ⟨x0, x1, x2, x3, y0, y1, y2, y3⟩ := hbx.out.below hb3 (by simp); obtain ⟨r0, r1, r2, r3, f0, f1, f2, f3⟩ := hrm.out.below (hb0'.out.trans (hb3.mono (by simp))) (Nat.lt_succ_self _); have HB3 := Lib.hid hb3; clear hb3)))
              exact bodyPost_ret (v := .tuple #[.agg #[.int .i64 1, .string T, .int .i64 0, .int .i64 (a : Int)], .bool false]) (by simp [results, Tryz.results28, go_sem, r0, r1, r2, r3]) rfl ⟨rfl, below_four (hbb.out.trans (HB3.out.mono hbb.out.size)) (Nat.le_refl _) _ _ _ _⟩
          · obtain rfl : K = 3 := by rw [hK.out]; rfl
            by_cases h16 : (m : Int) ≤ 16
            · have q16 : decide ((m : Int) ≤ 16) = true := decide_eq_true h16
              obtain rfl : B = true := by rw [hB.out, q16]
              go_wp2_with (first | (go_at_call 53; ((with_reducible refine (LD.out _).mono ?_); rintro e w' ⟨rfl, rfl⟩)) | (go_at_call 54; ((with_reducible refine (DD.out _).mono ?_); rintro e w' ⟨rfl, rfl⟩)) | (go_at_call 55; ((with_reducible refine (CW.out _).mono ?_); rintro e w3 ⟨rfl, hb3⟩; obtain ⟨x0, x1, x2, x3, y0, y1, y2, y3⟩ := hbx.out.below hb3 (by simp); obtain ⟨r0, r1, r2, r3, f0, f1, f2, f3⟩ := hrm.out.below (hb0'.out.trans (hb3.mono (by simp))) (Nat.lt_succ_self _); have HB3 := Lib.hid hb3; clear hb3)))
              exact bodyPost_ret (v := .tuple #[.agg #[.int .i64 3, .string T, .int .i64 0, .int .i64 (a : Int)], .bool true]) (by simp [results, Tryz.results28, go_sem, r0, r1, r2, r3]) rfl ⟨rfl, below_four ((hbb.out.trans (HB3.out.mono hbb.out.size)).setCell (p := ⟨w.heap.size + 1, 0, none⟩) (Nat.le_succ _) _) (Nat.le_refl _) _ _ _ _⟩
            · have q16 : decide ((m : Int) ≤ 16) = false := decide_eq_false h16
              obtain rfl : B = false := by rw [hB.out, q16]
              go_wp2_with (first | (go_at_call 53; ((with_reducible refine (LD.out _).mono ?_); rintro e w' ⟨rfl, rfl⟩)) | (go_at_call 54; ((with_reducible refine (DD.out _).mono ?_); rintro e w' ⟨rfl, rfl⟩)) | (go_at_call 55; ((with_reducible refine (CW.out _).mono ?_); rintro e w3 ⟨rfl, hb3⟩; obtain ⟨x0, x1, x2, x3, y0, y1, y2, y3⟩ := hbx.out.below hb3 (by simp); obtain ⟨r0, r1, r2, r3, f0, f1, f2, f3⟩ := hrm.out.below (hb0'.out.trans (hb3.mono (by simp))) (Nat.lt_succ_self _); have HB3 := Lib.hid hb3; clear hb3)))
              exact bodyPost_ret (v := .tuple #[.agg #[.int .i64 3, .string T, .int .i64 0, .int .i64 (a : Int)], .bool false]) (by simp [results, Tryz.results28, go_sem, r0, r1, r2, r3]) rfl ⟨rfl, below_four ((hbb.out.trans (HB3.out.mono hbb.out.size)).setCell (p := ⟨w.heap.size + 1, 0, none⟩) (Nat.le_succ _) _) (Nat.le_refl _) _ _ _ _⟩
    · have q3 : decide ((j : Int) < (n : Int)) = false := decide_eq_false (by omega)
      obtain rfl : j = x := HE.out j hr.out (.inl hge)
      have hb0' := Lib.hid ((Below.refl (w.heap.size + 1) (w.alloc (.cells #[.int .i64 0, .string ⟨#[]⟩, .int .i64 0, .int .i64 0] 43))).alloc (by simp) (.cells #[.int .i64 1, .string T, .int .i64 0, .int .i64 (a : Int)] 43))
      have hbb := Lib.hid (hb0.out.alloc hb0.out.size (.cells #[.int .i64 1, .string T, .int .i64 0, .int .i64 (a : Int)] 43))
      rcases Wb with _ | _
      · obtain rfl : K = 1 := by rw [hK.out]; rfl
        by_cases h16 : (m : Int) ≤ 16
        · have q16 : decide ((m : Int) ≤ 16) = true := decide_eq_true h16
          obtain rfl : B = true := by rw [hB.out, q16]
          go_wp2_with (first | (go_at_call 55; ((with_reducible refine (CW.out _).mono ?_); rintro e w3 ⟨rfl, hb3⟩; obtain ⟨x0, x1, x2, x3, y0, y1, y2, y3⟩ := hbx.out.below hb3 (by simp); obtain ⟨r0, r1, r2, r3, f0, f1, f2, f3⟩ := hrm.out.below (hb0'.out.trans (hb3.mono (by simp))) (Nat.lt_succ_self _); have HB3 := Lib.hid hb3; clear hb3)))
          exact bodyPost_ret (v := .tuple #[.agg #[.int .i64 1, .string T, .int .i64 0, .int .i64 (a : Int)], .bool true]) (by simp [results, Tryz.results28, go_sem, r0, r1, r2, r3]) rfl ⟨rfl, below_four (hbb.out.trans (HB3.out.mono hbb.out.size)) (Nat.le_refl _) _ _ _ _⟩
        · have q16 : decide ((m : Int) ≤ 16) = false := decide_eq_false h16
          obtain rfl : B = false := by rw [hB.out, q16]
          go_wp2_with (first | (go_at_call 55; ((with_reducible refine (CW.out _).mono ?_); rintro e w3 ⟨rfl, hb3⟩; obtain ⟨x0, x1, x2, x3, y0, y1, y2, y3⟩ := hbx.out.below hb3 (by simp); obtain ⟨r0, r1, r2, r3, f0, f1, f2, f3⟩ := hrm.out.below (hb0'.out.trans (hb3.mono (by simp))) (Nat.lt_succ_self _); have HB3 := Lib.hid hb3; clear hb3)))
          exact bodyPost_ret (v := .tuple #[.agg #[.int .i64 1, .string T, .int .i64 0, .int .i64 (a : Int)], .bool false]) (by simp [results, Tryz.results28, go_sem, r0, r1, r2, r3]) rfl ⟨rfl, below_four (hbb.out.trans (HB3.out.mono hbb.out.size)) (Nat.le_refl _) _ _ _ _⟩
      · obtain rfl : K = 3 := by rw [hK.out]; rfl
        by_cases h16 : (m : Int) ≤ 16
        · have q16 : decide ((m : Int) ≤ 16) = true := decide_eq_true h16
          obtain rfl : B = true := by rw [hB.out, q16]
          go_wp2_with (first | (go_at_call 55; ((with_reducible refine (CW.out _).mono ?_); rintro e w3 ⟨rfl, hb3⟩; obtain ⟨x0, x1, x2, x3, y0, y1, y2, y3⟩ := hbx.out.below hb3 (by simp); obtain ⟨r0, r1, r2, r3, f0, f1, f2, f3⟩ := hrm.out.below (hb0'.out.trans (hb3.mono (by simp))) (Nat.lt_succ_self _); have HB3 := Lib.hid hb3; clear hb3)))
          exact bodyPost_ret (v := .tuple #[.agg #[.int .i64 3, .string T, .int .i64 0, .int .i64 (a : Int)], .bool true]) (by simp [results, Tryz.results28, go_sem, r0, r1, r2, r3]) rfl ⟨rfl, below_four ((hbb.out.trans (HB3.out.mono hbb.out.size)).setCell (p := ⟨w.heap.size + 1, 0, none⟩) (Nat.le_succ _) _) (Nat.le_refl _) _ _ _ _⟩
        · have q16 : decide ((m : Int) ≤ 16) = false := decide_eq_false h16
          obtain rfl : B = false := by rw [hB.out, q16]
          go_wp2_with (first | (go_at_call 55; ((with_reducible refine (CW.out _).mono ?_); rintro e w3 ⟨rfl, hb3⟩; obtain ⟨x0, x1, x2, x3, y0, y1, y2, y3⟩ := hbx.out.below hb3 (by simp); obtain ⟨r0, r1, r2, r3, f0, f1, f2, f3⟩ := hrm.out.below (hb0'.out.trans (hb3.mono (by simp))) (Nat.lt_succ_self _); have HB3 := Lib.hid hb3; clear hb3)))
          exact bodyPost_ret (v := .tuple #[.agg #[.int .i64 3, .string T, .int .i64 0, .int .i64 (a : Int)], .bool false]) (by simp [results, Tryz.results28, go_sem, r0, r1, r2, r3]) rfl ⟨rfl, below_four ((hbb.out.trans (HB3.out.mono hbb.out.size)).setCell (p := ⟨w.heap.size + 1, 0, none⟩) (Nat.le_succ _) _) (Nat.le_refl _) _ _ _ _⟩
end Go.Proofs.YtlbhlncipajapaaGreatDoor.Lx
namespace Go.Proofs.YtlbhlncipajapaaGreatDoor.Lx
open Go.RowKit

/-- what the reference's One answers -/
def RefOne : Prop := ∀ (l : List UInt8) (a : Nat), a < l.length → l.length ≤ 20000 → ∀ W,
  (oneL (l.drop a) ≠ none → Calls Tryz.prog 28 #[.string (str l), .int .i64 (a : Int)] W fun e w' => OneRet ((tokAt l a).kind : Int) (tokAt l a).v (a : Int) (str (tokAt l a).text) true W e w') ∧
  (oneL (l.drop a) = none → Calls Tryz.prog 28 #[.string (str l), .int .i64 (a : Int)] W fun e w' => ∃ (k v a' : Int) (S : ByteArray), OneRet k v a' S false W e w')
theorem own_below {B : Nat} {e : TypeId} {k : Nat} {v : Value} {n : Nat} {xs : List Value} {w w' : World} (h : w.ownsRow B e k v n xs) (hb : Below w.heap.size w w') : w'.ownsRow B e k v n xs :=
  h.kept (row := none) ⟨hb.os, hb.tape, hb.output, hb.size, fun j hj _ => hb.block j hj⟩ (by cases hv : v.ownBlock <;> simp)
theorem wpList_append_tok (w : World) {ops : Array Oper} {rest : List Oper} {o : Oper} {a : Act} {Q : Exit → Act → World → Prop}
    (hg : o.guard = none) (s x : Operand) (hop : o.op = Op.call { callee := Callee.builtin Builtin.append, args := #[s, x], argTypes := #[39, 39] })
    (base : Nat) (v : Value) (k : Nat) (xs : List Value) (hs : a.eval s = v) (hown : w.ownsRow base 43 4 v k xs) (ad : Addr) (news : List Value) (hx : a.eval x = .slice (some ad) 1 1) (hn : news.length = 1 * 4)
    (hc : ∀ j u, news[j]? = some u → w.cell? (ad.add j) = some u) (h1c : ∀ u ∈ news, u.oneCell' = true) (hk : k ≤ 40000) (b3 : base ≤ w.heap.size)
    (hK : ∀ v' w', w'.ownsRow base 43 4 v' (k + 1) (xs ++ news) → w.grownBy w' v.ownBlock → wpList Tryz.prog ops Q rest (a.put o.dst v') w') :
    wpList Tryz.prog ops Q (o :: rest) a w := by
  obtain ⟨i, h2, h3, h4, h5⟩ := info_parts tok_info
  refine wpList_plain hg fun K hK' => ?_
  obtain ⟨v', w', hrun, r1, r2, _⟩ := run_append_own (P := Tryz.prog) w base 39 o.type 43 i _ 4 40 Tryz.underlying39 h2 h3 h4 h5 rfl (by decide) v k xs hown ad 1 1 news hn hc h1c (by unfold maxLen; omega) (by omega) b3
  unfold Oper.wp execOp
  simp only [hop, resolve, invoke, builtin, Sem.run_bind, Sem.run_pure, Result.andThen_ok, List.map_toArray, List.map_cons, List.map_nil, hs, hx, hrun]
  exact hK' _ _ (hK v' w' r1 r2)
/-- a fault lies in block g, and may be written -/
def Room2 (w : World) (g : Nat) : Prop := w.cell? ⟨g, 0, none⟩ = some (.int .i64 0) ∧ w.cell? ⟨g, 1, none⟩ = some (.int .i64 0) ∧ w.frozen? ⟨g, 0, none⟩ = false ∧ w.frozen? ⟨g, 1, none⟩ = false
theorem Room2.below {w w' : World} {g B : Nat} (h : Room2 w g) (hb : Below B w w') (hg : g < B) : Room2 w' g :=
  ⟨(hb.cell (p := ⟨g, 0, none⟩) hg).trans h.1, (hb.cell (p := ⟨g, 1, none⟩) hg).trans h.2.1, (hb.frozen (p := ⟨g, 0, none⟩) hg).trans h.2.2.1, (hb.frozen (p := ⟨g, 1, none⟩) hg).trans h.2.2.2⟩
theorem room2_new (w : World) (T : TypeId) : Room2 (w.alloc (.cells #[.int .i64 0, .int .i64 0] T)) w.heap.size :=
  ⟨by rw [World.cell?_alloc_new]; rfl, by rw [World.cell?_alloc_new]; rfl, World.frozen?_alloc_new _ _ _ _, World.frozen?_alloc_new _ _ _ _⟩
set_option maxHeartbeats 4000000 in
theorem ref_long (l : List UInt8) (n : Nat) (hs : (str l).size = n) (nl : (20000 : Int) < (n : Int)) (w : World) :
    Calls Tryz.prog 13 #[.string (str l)] w fun e w' => NoRow 10 0 w e w' := by
  have q : decide ((20000 : Int) < (n : Int)) = true := decide_eq_true nl
  go_enter Tryz.func13, Tryz.ntmps13
  go_wp2_with fail
  exact bodyPost_ret (v := .tuple #[.slice none 0 0, .agg #[.int .i64 10, .int .i64 0]]) (by simp [results, Tryz.results13, go_sem]) rfl ⟨rfl, (Below.refl w.heap.size w).alloc (Nat.le_refl _) _⟩
/-- the loop's state -/
def LexAt (l : List UInt8) (ts : List Tok) (r : Option Nat) (w : World) (a : Nat) (v : Value) (m : Nat) (wr : World) : Prop :=
  ∃ pre rest : List Tok, ts = pre ++ rest ∧ pre.length = m ∧ Toks l a rest r ∧ wr.ownsRow (w.heap.size + 1) 43 4 v m (tokCells pre) ∧ Below (w.heap.size + 1) (w.alloc (.cells #[.int .i64 0, .int .i64 0] 29)) wr
set_option maxHeartbeats 8000000 in
set_option maxRecDepth 100000 in
theorem ref_short (O : Hid RefOne) (l : List UInt8) (n : Nat) (hn : Hid (l.length = n)) (hs : (str l).size = n) (nl : (n : Int) ≤ 20000) (ts : List Tok) (r : Option Nat) (ht : Hid (lexT l ts r)) (w : World) :
    Calls Tryz.prog 13 #[.string (str l)] w fun e w' => match r with | some f => NoRow 1 (f : Int) w e w' | none => SomeRow (ts ++ [endT l.length]) (ts.length + 1) w e w' := by
  have q : decide ((20000 : Int) < (n : Int)) = false := decide_eq_false (by omega)
  have SK : Hid (∀ (a : Nat), a ≤ n → ∀ W, Calls Tryz.prog 27 #[.string (str l), .int .i64 (a : Int)] W fun e w' => e = .returned (.int .i64 ((gapTo false l a : Nat) : Int)) ∧ w' = W) := Lib.hid fun a ha W => skip_ref l (by have := hn.out; omega) a (by have := hn.out; omega) W
  have HB := Lib.hid ((Below.refl w.heap.size w).alloc (Nat.le_refl _) (.cells #[.int .i64 0, .int .i64 0] 29))
  have RM := Lib.hid (room2_new w 29)
  obtain ⟨G0, hG0⟩ : ∃ G0, G0 = gapTo false l 0 := ⟨_, rfl⟩
  have S0 : Hid (∀ W, Calls Tryz.prog 27 #[.string (str l), .int .i64 0] W fun e w' => e = .returned (.int .i64 (G0 : Int)) ∧ w' = W) := Lib.hid (by rw [hG0]; exact SK.out 0 (by omega))
  have HG0 := Lib.hid hG0
  clear hG0
  go_enter Tryz.func13, Tryz.ntmps13
  go_wp2_with (go_at_call 27; ((with_reducible refine (S0.out _).mono ?_); rintro e w' ⟨rfl, rfl⟩))
  go_loopw [5, 4] (fun i v wr => ∃ a m : Nat, i = .int .i64 a ∧ a ≤ n ∧ m ≤ n ∧ Hid (LexAt l ts r w a v m wr)) (fun i _ _ => n - litLen i)
  case atStart =>
    exact ⟨G0, 0, rfl, by rw [← hn.out, HG0.out]; exact gapTo_le false (Nat.zero_le _), Nat.zero_le _, Lib.hid ⟨[], ts, rfl, rfl, by rw [HG0.out]; exact ht.out, World.ownsRow_nil _ _ _ _, Below.refl _ _⟩⟩
  case round =>
    obtain ⟨a, m, rfl, ha, hm, hL⟩ := hrel
    rcases Nat.lt_or_ge a n with hlt | hge
    · have q3 : decide ((a : Int) < (n : Int)) = true := decide_eq_true (by omega)
      have O1 := Lib.hid (O.out l a (by have := hn.out; omega) (by have := hn.out; omega) wr)
      by_cases ho : oneL (l.drop a) = none
      · have C : Hid (Calls Tryz.prog 28 #[.string (str l), .int .i64 (a : Int)] wr fun e w' => ∃ (k v a' : Int) (S : ByteArray), e = .returned (.tuple #[.agg #[.int .i64 k, .string S, .int .i64 v, .int .i64 a'], .bool false]) ∧ Below wr.heap.size wr w') := Lib.hid (O1.out.2 ho)
        have hr : Hid (r = some a ∧ ∃ pre rest : List Tok, Below (w.heap.size + 1) (w.alloc (.cells #[.int .i64 0, .int .i64 0] 29)) wr) := Lib.hid (by
          obtain ⟨pre, rest, _, _, h3, _, h5⟩ := hL.out
          cases h3 with
          | fin h => exact absurd h (by have := hn.out; omega)
          | bad => exact ⟨rfl, [], [], h5⟩
          | tok _ h1 => exact absurd ho h1)
        obtain rfl := hr.out.1
        have BB : Hid (Below (w.heap.size + 1) (w.alloc (.cells #[.int .i64 0, .int .i64 0] 29)) wr) := Lib.hid (by obtain ⟨_, _, _, h⟩ := hr.out; exact h)
        have SB : Hid (w.heap.size + 1 ≤ wr.heap.size) := Lib.hid (by have := BB.out.size; simpa using this)
        clear ho
        go_wp2_with (go_at_call 28; ((with_reducible refine C.out.mono ?_); rintro e w1 ⟨kk, vv, aa, S, rfl, hb1⟩; have B1 := Lib.hid ((BB.out.trans (hb1.mono SB.out)).alloc (Nat.le_trans SB.out hb1.size) (.cells #[.int .i64 kk, .string S, .int .i64 vv, .int .i64 aa] 43)); obtain ⟨r0, r1, f0, f1⟩ := RM.out.below B1.out (Nat.lt_succ_self _); clear hb1))
        exact bodyPost_ret (v := .tuple #[.slice none 0 0, .agg #[.int .i64 1, .int .i64 (a : Int)]]) (by simp [results, Tryz.results13, go_sem, r0, r1]) rfl ⟨rfl, ((HB.out.trans (B1.out.mono (Nat.le_succ _))).setCell (p := ⟨w.heap.size, 0, none⟩) (Nat.le_refl _) _).setCell (p := ⟨w.heap.size, 1, none⟩) (Nat.le_refl _) _⟩
      · have hlen := tokAt_len ho
        have hat : (tokAt l a).at_ = a := by unfold tokAt; cases oneL (l.drop a) <;> rfl
        have hO := O1.out.1 ho
        obtain ⟨pre, rest, hts, hpm, hrest, hrow, hBB⟩ := hL.out
        obtain ⟨rest2, rfl, hrest2⟩ : ∃ rest2, rest = tokAt l a :: rest2 ∧ Toks l (gapTo false l (a + (tokAt l a).text.length)) rest2 r := by
          cases hrest with
          | fin h => exact absurd h (by have := hn.out; omega)
          | bad _ h => exact absurd h ho
          | tok _ _ h => exact ⟨_, rfl, h⟩
        generalize tokAt l a = t at *
        obtain ⟨kk, tx, vv, aa⟩ := t
        obtain rfl : aa = a := hat
        have C : Hid (Calls Tryz.prog 28 #[.string (str l), .int .i64 (aa : Int)] wr fun e w' => e = .returned (.tuple #[.agg #[.int .i64 (kk : Int), .string (str tx), .int .i64 vv, .int .i64 (aa : Int)], .bool true]) ∧ Below wr.heap.size wr w') := Lib.hid hO
        obtain ⟨L, hL2⟩ : ∃ L, L = tx.length := ⟨_, rfl⟩
        have hsz : (str tx).size = L := by rw [str_size, hL2]
        have hl1 : 1 ≤ L := by rw [hL2]; exact hlen.1
        have hl2 : aa + L ≤ n := by rw [hL2, ← hn.out]; exact hlen.2
        have hl3 : (L : Int) ≤ 20000 := by omega
        obtain ⟨G1, hG1⟩ : ∃ G1, G1 = gapTo false l (aa + L) := ⟨_, rfl⟩
        have hg1 : aa < G1 := by rw [hG1]; have := gapTo_ge false l (aa + L); omega
        have hg2 : G1 ≤ n := by rw [hG1, ← hn.out]; exact gapTo_le false (by rw [hn.out]; exact hl2)
        have SK1 : Hid (∀ W, Calls Tryz.prog 27 #[.string (str l), .int .i64 ((aa : Int) + (L : Int))] W fun e w' => e = .returned (.int .i64 (G1 : Int)) ∧ w' = W) := Lib.hid (by rw [hG1]; exact SK.out (aa + L) hl2)
        have HR2 : Hid (Toks l G1 rest2 r) := Lib.hid (by rw [hG1, hL2]; exact hrest2)
        have HTS := Lib.hid hts
        have HPM := Lib.hid hpm
        have HROW := Lib.hid hrow
        have BB := Lib.hid hBB
        have SB : Hid (w.heap.size + 1 ≤ wr.heap.size) := Lib.hid (by have := hBB.size; simpa using this)
        have hmn : m + 1 ≤ n := by
          have h1 := toks_count ht.out
          have h2 := gapTo_le false (Nat.zero_le l.length)
          rw [hts] at h1
          simp only [List.length_append, List.length_cons] at h1
          have := hn.out
          omega
        have HM := Lib.hid hmn
        clear hlen hO hrest hrest2 hts hpm hrow hBB ho hL2 hG1 hmn
        go_wp2_with (first | (go_at_call 28; ((with_reducible refine C.out.mono ?_); rintro e w1 ⟨rfl, hb1⟩; have B1 := Lib.hid (BB.out.trans (hb1.mono SB.out)); have S1 := Lib.hid (Nat.le_trans SB.out hb1.size); have SW := Lib.hid hb1.size; have R1 := Lib.hid (own_below HROW.out hb1); have CF : Hid (∀ j u, [Value.int .i64 (kk : Int), .string (str tx), .int .i64 vv, .int .i64 (aa : Int)][j]? = some u → ((w1.alloc (.cells #[.int .i64 (kk : Int), .string (str tx), .int .i64 vv, .int .i64 (aa : Int)] 43)).alloc (.cells #[.int .i64 (kk : Int), .string (str tx), .int .i64 vv, .int .i64 (aa : Int)] 43)).cell? ((⟨w1.heap.size + 1, 0, none⟩ : Addr).add j) = some u) := Lib.hid (fun j u hju => by have := cell_four_new (w1.alloc (.cells #[.int .i64 (kk : Int), .string (str tx), .int .i64 vv, .int .i64 (aa : Int)] 43)) _ _ _ _ 43 j u hju; rwa [World.size_alloc] at this); clear hb1)) | (at_builtin; refine wpList_append_tok _ rfl _ _ rfl (w.heap.size + 1) _ m _ rfl ((R1.out.alloc _).alloc _) ⟨w1.heap.size + 1, 0, none⟩ [.int .i64 (kk : Int), .string (str tx), .int .i64 vv, .int .i64 (aa : Int)] rfl rfl CF.out (by simp [Value.oneCell']) (by have := HM.out; omega) (by have := S1.out; simp; omega) ?_; intro v' w3 hown' hgrow; have y1 : w3.cell? ⟨w1.heap.size, 1, none⟩ = some (.string (str tx)) := hgrow.cell (by rw [World.cell?_alloc_old _ _ _ (by simp), World.cell?_alloc_new]; rfl) (fun e => by have := (HROW.out.lt _ e.symm).2; have := SW.out; simp at *; omega); have G1' := Lib.hid hown'; have G2' := Lib.hid (((B1.out.alloc (by have := S1.out; simp; omega) (.cells #[.int .i64 (kk : Int), .string (str tx), .int .i64 vv, .int .i64 (aa : Int)] 43)).alloc (by have := S1.out; simp; omega) (.cells #[.int .i64 (kk : Int), .string (str tx), .int .i64 vv, .int .i64 (aa : Int)] 43)).grown hgrow (by have := S1.out; simp; omega) (fun k hk => (HROW.out.lt k hk).1)); clear hown' hgrow) | (go_at_call 27; ((with_reducible refine (SK1.out _).mono ?_); rintro e w' ⟨rfl, rfl⟩)))
        exact ⟨⟨G1, m + 1, rfl, hg2, HM.out, Lib.hid ⟨pre ++ [⟨kk, tx, vv, aa⟩], rest2, by rw [HTS.out]; simp, by simp [HPM.out], HR2.out, by rw [tokCells_snoc]; exact G1'.out, G2'.out⟩⟩, by simp [litLen]; omega⟩
    · have q3 : decide ((a : Int) < (n : Int)) = false := decide_eq_false (by omega)
      obtain ⟨pre, rest, hts, hpm, hrest, hrow, hBB⟩ := hL.out
      obtain ⟨rfl, rfl⟩ : rest = [] ∧ r = none := by
        cases hrest with
        | fin h => exact ⟨rfl, rfl⟩
        | bad h => exact absurd h (by have := hn.out; omega)
        | tok h => exact absurd h (by have := hn.out; omega)
      have HTS := Lib.hid (show ts = pre by rw [hts]; simp)
      have HPM := Lib.hid hpm
      have HROW := Lib.hid hrow
      have BB := Lib.hid hBB
      have SB : Hid (w.heap.size + 1 ≤ wr.heap.size) := Lib.hid (by have := hBB.size; simpa using this)
      have CF : Hid (∀ j u, [Value.int .i64 5, .string ⟨#[]⟩, .int .i64 0, .int .i64 (n : Int)][j]? = some u → (wr.alloc (.cells #[.int .i64 5, .string ⟨#[]⟩, .int .i64 0, .int .i64 (n : Int)] 43)).cell? ((⟨wr.heap.size, 0, none⟩ : Addr).add j) = some u) := Lib.hid (cell_four_new wr _ _ _ _ 43)
      clear hts hpm hrest hrow hBB
      go_wp2_with (at_builtin; refine wpList_append_tok _ rfl _ _ rfl (w.heap.size + 1) _ m _ rfl (HROW.out.alloc _) ⟨wr.heap.size, 0, none⟩ [.int .i64 5, .string ⟨#[]⟩, .int .i64 0, .int .i64 (n : Int)] rfl rfl CF.out (by simp [Value.oneCell']) (by omega) (by have := SB.out; simp; omega) ?_; intro v' w3 hown' hgrow; obtain ⟨g', cap', rfl⟩ := ownsRow_succ hown'; have G1' := Lib.hid hown'; have G2' := Lib.hid ((BB.out.alloc (by have := SB.out; simp; omega) (.cells #[.int .i64 5, .string ⟨#[]⟩, .int .i64 0, .int .i64 (n : Int)] 43)).grown hgrow (by have := SB.out; simp; omega) (fun k hk => (HROW.out.lt k hk).1)); obtain ⟨r0, r1, f0, f1⟩ := RM.out.below G2'.out (Nat.lt_succ_self _); clear hown' hgrow)
      have hg := G1'.out.lt g' rfl
      refine bodyPost_ret (v := .tuple #[.slice (some ⟨g', 0, none⟩) (m + 1) cap', .agg #[.int .i64 0, .int .i64 0]]) (by simp [results, Tryz.results13, go_sem, r0, r1]) rfl ⟨g', cap', by rw [HTS.out, HPM.out], ((HB.out.trans (G2'.out.mono (Nat.le_succ _))).setCell (p := ⟨w.heap.size, 0, none⟩) (Nat.le_refl _) _).setCell (p := ⟨w.heap.size, 1, none⟩) (Nat.le_refl _) _, by simp; exact hg.2, ?_⟩
      have hcells : ∀ j u, (tokCells (ts ++ [endT l.length]))[j]? = some u → ((w3.setCell ⟨w.heap.size, 0, none⟩ (.int .i64 0)).setCell ⟨w.heap.size, 1, none⟩ (.int .i64 0)).cell? ⟨g', j, none⟩ = some u := fun j u hu => by
        rw [World.cell?_setCell_other _ _ _ _ (by intro e; injection e with e; omega), World.cell?_setCell_other _ _ _ _ (by intro e; injection e with e; omega)]
        refine row_cells G1'.out j u ?_
        rw [HTS.out, tokCells_snoc] at hu
        rw [← hn.out]
        exact hu
      intro i t hi
      obtain ⟨h1, h2, h3, h4⟩ := tokCells_at hi
      exact ⟨hcells _ _ h1, hcells _ _ h2, hcells _ _ h3, hcells _ _ h4⟩
theorem ref_lex (O : RefOne) : RefLex := fun l ts r ht W => by
  rcases Nat.lt_or_ge 20000 l.length with h | h
  · exact (ref_long l _ (str_size l) (by omega) W).mono fun e w' h2 => ⟨fun _ => h2, fun h3 => absurd h3 (by omega)⟩
  · exact (ref_short (Lib.hid O) l _ (Lib.hid rfl) (str_size l) (by omega) ts r (Lib.hid ht) W).mono fun e w' h2 => ⟨fun h3 => absurd h3 (by omega), fun _ => by cases r <;> exact h2⟩
end Go.Proofs.YtlbhlncipajapaaGreatDoor.Lx
