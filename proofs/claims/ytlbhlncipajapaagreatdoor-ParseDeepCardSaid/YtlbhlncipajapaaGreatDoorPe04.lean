/- Joined: LexNum, LexSign. -/
import Derived.Test.YtlbhlncipajapaaGreatDoorPe03
import Derived.Laws.Rows
import Derived.LaidLaws
import Derived.ChangeArms
import Derived.Lib.LaidTab
namespace Go.Proofs.YtlbhlncipajapaaGreatDoor.Lx
open Go.RowKit

def numTo (l : List UInt8) (a : Nat) : Nat := a + numN (l.drop a)
theorem head_drop (l : List UInt8) (k : Nat) : (l.drop k).head? = l[k]? := by rw [List.head?_drop]
theorem numTo_end {l : List UInt8} {a : Nat} (h : l[runTo isDig l a]? ≠ some 46) : numTo l a = runTo isDig l a := by
  unfold numTo numN
  rw [List.drop_drop, ← runTo_dig, head_drop, if_neg (fun hh => h hh.1)]
  exact (runTo_dig l a).symm
theorem numTo_dot {l : List UInt8} {a : Nat} (h : l[runTo isDig l a]? = some 46) : numTo l a = if runTo isDig l a + 1 < runTo isDig l (runTo isDig l a + 1) then runTo isDig l (runTo isDig l a + 1) else runTo isDig l a := by
  have e : a + (digN (l.drop a) + 1) = runTo isDig l a + 1 := by rw [runTo_dig]; omega
  unfold numTo numN
  rw [List.drop_drop, List.drop_drop, ← runTo_dig, head_drop, h, e]
  rw [runTo_dig l (runTo isDig l a + 1)]
  generalize digN (l.drop (runTo isDig l a + 1)) = q
  rw [runTo_dig]
  generalize digN (l.drop a) = p
  by_cases hq : 0 < q
  · rw [if_pos ⟨rfl, hq⟩, if_pos (by omega)]; omega
  · rw [if_neg (fun hh => hq hh.2), if_neg (by omega)]
set_option maxHeartbeats 4000000 in
theorem numEnd_core (l : List UInt8) (n : Nat) (hn : Hid (l.length = n)) (nl : (n : Int) ≤ 30000) (hs : (str l).size = n) (m v1 v2 v3 v4 v5 : Value) (a : Nat) (ha : a ≤ n) (w : World)
    (h3 : Hid (ClassAt w v3 isDig)) (x : Nat) (hx : Hid (runTo isDig l a = x)) (hxn : x ≤ n) (R : Nat) (hR : Hid (numTo l a = R)) :
    Calls Tryz.prog 111 #[.agg #[.string (str l), m, v1, v2, v3, v4, v5], .int .i64 (a : Int)] w fun e w' => NumPost R w e w' := by
  have B1 : Hid (∀ (w' : World), Below w.heap.size w w' → ∀ j : Nat, j ≤ n → Calls Tryz.prog 98 #[.agg #[.string (str l), m, v1, v2, v3, v4, v5], .int .i64 (j : Int), v3] w' fun e w'' => NumPost (runTo isDig l j) w' e w'') :=
    Lib.hid fun w' hb j hj => behind_any l (by have := hn.out; omega) m v1 v2 v3 v4 v5 v3 isDig j (by have := hn.out; omega) w' (h3.out.mono hb)
  have hb0 := Lib.hid ((Below.refl w.heap.size w).alloc (Nat.le_refl _) (.cells #[.string (str l), m, v1, v2, v3, v4, v5] 118))
  have hR0 := Lib.hid (readAt_new w (.string (str l)) m v1 v2 v3 v4 v5 118)
  have P1 := Lib.hid (B1.out _ hb0.out a ha)
  rw [hx.out] at P1
  rcases Nat.lt_or_ge x n with hlt | hge
  · have nx : ¬ (x : Int) = (n : Int) := by omega
    have bx : ((x : Int) == (n : Int)) = false := beq_false_of_ne nx
    obtain ⟨c, hc⟩ := isBehind hn.out hlt
    have hix : ∀ h, (str l)[x]'h = c := fun h => str_at l hc h
    have HC := Lib.hid hc
    clear hc
    by_cases h46 : c = 46
    · subst h46
      obtain ⟨r, hr⟩ : ∃ r, r = x + 1 := ⟨_, rfl⟩
      have P2 := Lib.hid fun (w' : World) (hb : Below w.heap.size w w') => B1.out w' hb r (by omega)
      have hD := Lib.hid (numTo_dot (l := l) (a := a) (by rw [hx.out]; exact HC.out))
      rw [hx.out, ← hr] at hD
      have hge2 := Lib.hid (runTo_ge isDig l r)
      have hle2 := Lib.hid (runTo_le isDig (show r ≤ l.length by rw [hn.out]; omega))
      obtain ⟨y, hy⟩ : ∃ y, y = runTo isDig l r := ⟨_, rfl⟩
      rw [← hy] at hD P2 hge2 hle2
      have e1 : (x : Int) + 1 = (r : Int) := by omega
      have e46 : ((46 : UInt8) != 46) = false := rfl
      have yl : (y : Int) ≤ (n : Int) := by have := hle2.out; rw [hn.out] at this; omega
      clear hr hy
      by_cases hq : (r : Int) < (y : Int)
      · have q : decide ((r : Int) < (y : Int)) = true := decide_eq_true hq
        have hRy := Lib.hid (show R = y by rw [← hR.out, hD.out, if_pos (by omega)])
        go_enter Tryz.func111, Tryz.ntmps111
        go_wp2_with (first | (go_at_call 98; ((with_reducible refine P1.out.mono ?_); rintro e w2 ⟨rfl, hb2⟩; obtain ⟨dS, d1, d2, d3, d4, d5, d6⟩ := hR0.out.below hb2 (by simp); have HB2 := Lib.hid hb2; clear hb2)) | (go_at_call 98; ((with_reducible refine (P2.out _ (hb0.out.trans (HB2.out.mono hb0.out.size))).mono ?_); rintro e w3 ⟨rfl, hb3⟩; have HB3 := Lib.hid hb3; clear hb3)))
        go_ret
        exact ⟨by rw [hRy.out]; rfl, (hb0.out.trans (HB2.out.mono hb0.out.size)).trans (HB3.out.mono (hb0.out.trans (HB2.out.mono hb0.out.size)).size)⟩
      · have q : decide ((r : Int) < (y : Int)) = false := decide_eq_false hq
        have hRy := Lib.hid (show R = x by rw [← hR.out, hD.out, if_neg (by omega)])
        go_enter Tryz.func111, Tryz.ntmps111
        go_wp2_with (first | (go_at_call 98; ((with_reducible refine P1.out.mono ?_); rintro e w2 ⟨rfl, hb2⟩; obtain ⟨dS, d1, d2, d3, d4, d5, d6⟩ := hR0.out.below hb2 (by simp); have HB2 := Lib.hid hb2; clear hb2)) | (go_at_call 98; ((with_reducible refine (P2.out _ (hb0.out.trans (HB2.out.mono hb0.out.size))).mono ?_); rintro e w3 ⟨rfl, hb3⟩; have HB3 := Lib.hid hb3; clear hb3)))
        go_ret
        exact ⟨by rw [hRy.out]; rfl, (hb0.out.trans (HB2.out.mono hb0.out.size)).trans (HB3.out.mono (hb0.out.trans (HB2.out.mono hb0.out.size)).size)⟩
    · have n46 : (c != 46) = true := bne_iff_ne.2 h46
      have m46 : ((c.toNat : Int) != 46) = true := bne_iff_ne.2 fun e => h46 (UInt8.toNat_inj.1 (by show c.toNat = 46; omega))
      have k46 : ¬ (c.toNat : Int) = 46 := fun e => h46 (UInt8.toNat_inj.1 (by show c.toNat = 46; omega))
      have hRy := Lib.hid (show R = x by rw [← hR.out, numTo_end (by rw [hx.out, HC.out]; simpa using h46), hx.out])
      go_enter Tryz.func111, Tryz.ntmps111
      go_wp2_with (go_at_call 98; ((with_reducible refine P1.out.mono ?_); rintro e w2 ⟨rfl, hb2⟩; obtain ⟨dS, d1, d2, d3, d4, d5, d6⟩ := hR0.out.below hb2 (by simp); have HB2 := Lib.hid hb2; clear hb2))
      go_ret
      exact ⟨by rw [hRy.out]; rfl, hb0.out.trans (HB2.out.mono hb0.out.size)⟩
  · obtain rfl : n = x := by omega
    have bx : ((n : Int) == (n : Int)) = true := by simp
    have hRy := Lib.hid (show R = n by rw [← hR.out, numTo_end (by rw [hx.out, List.getElem?_eq_none (by rw [hn.out]; exact Nat.le_refl _)]; simp), hx.out])
    go_enter Tryz.func111, Tryz.ntmps111
    go_wp2_with (go_at_call 98; ((with_reducible refine P1.out.mono ?_); rintro e w2 ⟨rfl, hb2⟩; obtain ⟨dS, d1, d2, d3, d4, d5, d6⟩ := hR0.out.below hb2 (by simp); have HB2 := Lib.hid hb2; clear hb2))
    go_ret
    exact ⟨by rw [hRy.out]; rfl, hb0.out.trans (HB2.out.mono hb0.out.size)⟩
theorem numEnd_any (l : List UInt8) (nl : l.length ≤ 30000) (m v1 v2 v3 v4 v5 : Value) (a : Nat) (ha : a ≤ l.length) (w : World) (h3 : ClassAt w v3 isDig) :
    Calls Tryz.prog 111 #[.agg #[.string (str l), m, v1, v2, v3, v4, v5], .int .i64 (a : Int)] w fun e w' => NumPost (numTo l a) w e w' :=
  numEnd_core l _ (Lib.hid rfl) (by omega) (str_size l) m v1 v2 v3 v4 v5 a ha w (Lib.hid h3) _ (Lib.hid rfl) (runTo_le isDig ha) _ (Lib.hid rfl)
theorem numTo_le {l : List UInt8} {a : Nat} (h : a ≤ l.length) : numTo l a ≤ l.length := by
  unfold numTo
  have := numN_le (l.drop a)
  rw [List.length_drop] at this
  omega

set_option maxHeartbeats 4000000 in
theorem number_core (l : List UInt8) (n : Nat) (hn : Hid (l.length = n)) (nl : (n : Int) ≤ 30000) (hs : (str l).size = n) (m v1 v2 v3 v4 v5 : Value) (a : Nat) (ha : a ≤ n) (w : World) (h3 : Hid (ClassAt w v3 isDig))
    (x : Nat) (hx : Hid (numTo l a = x)) (hax : a ≤ x) (hxn : x ≤ n) (T : ByteArray) (hT : (str l).extract a x = T) (V : Int) (O : Bool)
    (PA : Hid (∀ w, Calls Tryz.prog 112 #[.string T] w fun e w' => e = .returned (.tuple #[.int .i64 V, .bool O]) ∧ Below w.heap.size w w'))
    (t : List UInt8) (ht : Hid (T = str t)) (tk : Tok) (hk : Hid (tk = if O = true then ⟨2, t, V, a⟩ else ⟨0, [], 0, a⟩)) :
    Calls Tryz.prog 100 #[.agg #[.string (str l), m, v1, v2, v3, v4, v5], .int .i64 (a : Int)] w fun e w' => TokPost tk w e w' := by
  have B1 : Hid (∀ (w' : World), Below w.heap.size w w' → Calls Tryz.prog 111 #[.agg #[.string (str l), m, v1, v2, v3, v4, v5], .int .i64 (a : Int)] w' fun e w'' => NumPost x w' e w'') :=
    Lib.hid fun w' hb => by have := numEnd_any l (by have := hn.out; omega) m v1 v2 v3 v4 v5 a (by have := hn.out; omega) w' (h3.out.mono hb); rwa [hx.out] at this
  have x1 : (0 : Int) ≤ (a : Int) := by omega
  have x2 : (a : Int) ≤ (x : Int) := by omega
  have x3 : (x : Int) ≤ (n : Int) := by omega
  have hb0 := Lib.hid (((Below.refl w.heap.size w).alloc (Nat.le_refl _) (.cells #[.string (str l), m, v1, v2, v3, v4, v5] 118)).alloc (by simp) (.cells #[.int .i64 0, .string ⟨#[]⟩, .int .i64 0, .int .i64 0] 43))
  have hR0 := Lib.hid (ReadAt.drew <| (readAt_new w (.string (str l)) m v1 v2 v3 v4 v5 118).below ((Below.refl (w.heap.size + 1) _).alloc (by simp) (.cells #[.int .i64 0, .string ⟨#[]⟩, .int .i64 0, .int .i64 0] 43)) (Nat.lt_succ_self _))
  have hM0 := Lib.hid (RoomAt.drew (by have := roomAt_new (w.alloc (.cells #[.string (str l), m, v1, v2, v3, v4, v5] 118)) 43; rwa [World.size_alloc] at this))
  cases O with
  | true =>
    have hk2 := Lib.hid (hk.out.trans (if_pos rfl))
    clear hk
    go_enter Tryz.func100, Tryz.ntmps100
    go_wp2_with fail
    go_region_held3 (fun w' => w'.cell? ⟨w.heap.size, 0, none⟩ = some (.string (str l)) ∧ w'.cell? ⟨w.heap.size, 1, none⟩ = some m ∧ w'.cell? ⟨w.heap.size, 2, none⟩ = some v1 ∧ w'.cell? ⟨w.heap.size, 3, none⟩ = some v2 ∧ w'.cell? ⟨w.heap.size, 4, none⟩ = some v3 ∧ w'.cell? ⟨w.heap.size, 5, none⟩ = some v4 ∧ w'.cell? ⟨w.heap.size, 6, none⟩ = some v5)
      ((repeat' apply And.intro) <;> first | assumption | go_keep)
      (first | (go_at_call 111; (with_reducible refine (B1.out _ (by exact hb0.out.drew)).mono ?_); rintro e w1 ⟨rfl, hb1⟩; obtain ⟨dS, d1, d2, d3, d4, d5, d6⟩ := hR0.out.below hb1 (by simp; omega); have HM1 := Lib.hid (hM0.out.below hb1 (by simp)); have HB1 := Lib.hid hb1; clear hb1))
    have hs1 : Hid (w.heap.size + 1 < w1.heap.size) := Lib.hid (by have := HB1.out.size; simp at this; omega)
    go_wp2_with (go_at_call 112; ((with_reducible refine (PA.out _).mono ?_); rintro e w2 ⟨rfl, hb2⟩; obtain ⟨r0, r1, r2, r3, f0, f1, f2, f3⟩ := HM1.out.below hb2 hs1.out; have HB2 := Lib.hid hb2; clear hb2))
    have hbw := Lib.hid (hb0.out.drew.trans (HB1.out.mono (by simp; omega)))
    rw [hk2.out]
    exact bodyPost_ret (v := tokV ⟨2, t, V, a⟩) (by simp [results, Tryz.results100, go_sem, r0, r1, r2, r3, tokV, ht.out]) rfl ⟨rfl, below_four (hbw.out.trans (HB2.out.mono hbw.out.size)) (Nat.le_succ _) _ _ _ _⟩
  | false =>
    have hk2 := Lib.hid (hk.out.trans (if_neg (by simp)))
    clear hk
    go_enter Tryz.func100, Tryz.ntmps100
    go_wp2_with fail
    go_region_held3 (fun w' => w'.cell? ⟨w.heap.size, 0, none⟩ = some (.string (str l)) ∧ w'.cell? ⟨w.heap.size, 1, none⟩ = some m ∧ w'.cell? ⟨w.heap.size, 2, none⟩ = some v1 ∧ w'.cell? ⟨w.heap.size, 3, none⟩ = some v2 ∧ w'.cell? ⟨w.heap.size, 4, none⟩ = some v3 ∧ w'.cell? ⟨w.heap.size, 5, none⟩ = some v4 ∧ w'.cell? ⟨w.heap.size, 6, none⟩ = some v5)
      ((repeat' apply And.intro) <;> first | assumption | go_keep)
      (first | (go_at_call 111; (with_reducible refine (B1.out _ (by exact hb0.out.drew)).mono ?_); rintro e w1 ⟨rfl, hb1⟩; obtain ⟨dS, d1, d2, d3, d4, d5, d6⟩ := hR0.out.below hb1 (by simp; omega); have HM1 := Lib.hid (hM0.out.below hb1 (by simp)); have HB1 := Lib.hid hb1; clear hb1))
    have hs1 : Hid (w.heap.size + 1 < w1.heap.size) := Lib.hid (by have := HB1.out.size; simp at this; omega)
    go_wp2_with (go_at_call 112; ((with_reducible refine (PA.out _).mono ?_); rintro e w2 ⟨rfl, hb2⟩; obtain ⟨r0, r1, r2, r3, f0, f1, f2, f3⟩ := HM1.out.below hb2 hs1.out; have HB2 := Lib.hid hb2; clear hb2))
    have hbw := Lib.hid (hb0.out.drew.trans (HB1.out.mono (by simp; omega)))
    rw [hk2.out]
    exact bodyPost_ret (v := tokV ⟨0, [], 0, a⟩) (by simp [results, Tryz.results100, go_sem, r0, r1, r2, r3, tokV, str_nil]) rfl ⟨rfl, below_four (hbw.out.trans (HB2.out.mono hbw.out.size)) (Nat.le_succ _) _ _ _ _⟩
end Go.Proofs.YtlbhlncipajapaaGreatDoor.Lx
namespace Go.Proofs.YtlbhlncipajapaaGreatDoor.Lx
open Go.RowKit

def signCells : Array Value := (signsL.map fun s => Value.string (str s)).toArray
/-- the table of signs lies as the program lays it -/
def Signs (w : World) : Prop := ∃ t fr, w.heap[0]? = some (.cells signCells t fr)
theorem Signs.below {w w' : World} (h : Signs w) (hb : Below w.heap.size w w') : Signs w' := by
  obtain ⟨t, fr, h⟩ := h
  exact ⟨t, fr, (hb.block _ (Array.getElem?_eq_some_iff.1 h).1).trans h⟩
theorem sign_index (w : World) (j : Nat) (hj : j < 17) (s : List UInt8) (hs : signsL[j]? = some s) : (Instr.index 139 (.agg signCells) (.int .i64 (j : Int))).run Tryz.prog w = .ok (.string (str s)) w := by
  have key : (Instr.index 139 (.agg signCells) (.int .i64 (j : Int))).run Tryz.prog w = .ok (.string (str ((signsL[j]?).getD []))) w := by
    clear hs
    rcases j with _ | _ | _ | _ | _ | _ | _ | _ | _ | _ | _ | _ | _ | _ | _ | _ | _ | j
    all_goals first | omega | kernel_rfl
  rw [hs] at key
  exact key
theorem signs_size : (Tryz.prog.info? 139).map (·.size) = some signCells.size := by kernel_rfl
theorem under_signs : ∃ n e, Tryz.prog.underlying 139 = some (.array n e) := ⟨17, 9, Tryz.underlying139⟩

theorem no_prefix {d : List UInt8} {L : List (List UInt8)} (hno : L.all (fun s => !s.isPrefixOf d) = true) : L.find? (fun s => s.isPrefixOf d) = none := List.find?_eq_none.2 fun x hx => by
  have h : (!x.isPrefixOf d) = true := List.all_eq_true.1 hno x hx
  intro h2
  have h2' : x.isPrefixOf d = true := h2
  rw [h2'] at h
  exact absurd h (by decide)
theorem sign_hit {d s : List UInt8} {j : Nat} (hs : signsL[j]? = some s) (hno : (signsL.take j).all (fun s => !s.isPrefixOf d) = true) (hp : s.isPrefixOf d = true) : signOf d = some s := by
  have e : signsL = signsL.take j ++ s :: signsL.drop (j + 1) := by
    obtain ⟨hj, rfl⟩ := List.getElem?_eq_some_iff.1 hs
    rw [← List.drop_eq_getElem_cons hj, List.take_append_drop]
  have h : signOf d = (signsL.take j ++ s :: signsL.drop (j + 1)).find? (fun s => s.isPrefixOf d) := by unfold signOf; exact congrArg (fun L : List (List UInt8) => List.find? (fun s : List UInt8 => List.isPrefixOf s d) L) e
  rw [h, List.find?_append, no_prefix hno, Option.none_or]
  exact List.find?_cons_of_pos hp
theorem sign_none {d : List UInt8} (hno : signsL.all (fun s => !s.isPrefixOf d) = true) : signOf d = none := no_prefix hno
theorem all_take_next {α : Type} (f : α → Bool) {l : List α} {j : Nat} {x : α} (h : l[j]? = some x) (ha : (l.take j).all f = true) (hx : f x = true) : (l.take (j + 1)).all f = true := by
  obtain ⟨h1, rfl⟩ := List.getElem?_eq_some_iff.1 h
  rw [List.take_succ_eq_append_getElem h1, List.all_append, ha]
  simp [hx]
theorem prefix_take {d s : List UInt8} (h : s.isPrefixOf d = true) : d.take s.length = s := (List.prefix_iff_eq_take.1 (List.isPrefixOf_iff_prefix.1 h)).symm
set_option maxHeartbeats 4000000 in
set_option maxRecDepth 20000 in
theorem sign_core (l : List UInt8) (n : Nat) (hn : Hid (l.length = n)) (nl : (n : Int) ≤ 30000) (hs : (str l).size = n) (m v1 v2 v3 v4 v5 : Value) (a : Nat) (hla : (a : Int) ≤ (n : Int)) (w : World) (hS : Hid (Signs w))
    (D : ByteArray) (hD : (str l).extract a n = D) (hDE : Hid (D = str (l.drop a))) (tk : Tok) (hN : Hid (signOf (l.drop a) = none → tk = ⟨0, [], 0, a⟩)) (hY : Hid (∀ s, signOf (l.drop a) = some s → tk = ⟨4, s, 0, a⟩)) :
    Calls Tryz.prog 101 #[.agg #[.string (str l), m, v1, v2, v3, v4, v5], .int .i64 (a : Int)] w fun e w' => TokPost tk w e w' := by
  have hb0 := Lib.hid (((Below.refl w.heap.size w).alloc (Nat.le_refl _) (.cells #[.string (str l), m, v1, v2, v3, v4, v5] 118)).alloc (by simp) (.cells #[.int .i64 0, .string ⟨#[]⟩, .int .i64 0, .int .i64 0] 43))
  obtain ⟨T, fr, hT⟩ := hS.out.below hb0.out
  have HT := Lib.hid hT
  clear hT hS
  obtain ⟨cs, hcs⟩ : ∃ cs, cs = signCells := ⟨_, rfl⟩
  have HX : Hid (∀ (w : World) (j : Nat), j < 17 → ∀ s, signsL[j]? = some s → (Instr.index 139 (.agg cs) (.int .i64 (j : Int))).run Tryz.prog w = .ok (.string (str s)) w) := Lib.hid fun w j hj s h => by rw [hcs]; exact sign_index w j hj s h
  have hsz := Lib.hid signs_size
  rw [← hcs] at hsz HT
  clear hcs
  go_enter Tryz.func101, Tryz.ntmps101
  go_wp2_with (refine wpList_load_row rfl 139 _ rfl 0 rfl T cs fr _ HT.out Tryz.underlying139 rfl hsz.out ?_)
  have hM0 := Lib.hid (show RoomAt ((w.alloc (.cells #[.string (str l), m, v1, v2, v3, v4, v5] 118)).alloc (.cells #[.int .i64 0, .string ⟨#[]⟩, .int .i64 0, .int .i64 0] 43)) (w.heap.size + 1) by have := roomAt_new (w.alloc (.cells #[.string (str l), m, v1, v2, v3, v4, v5] 118)) 43; rwa [World.size_alloc] at this)
  go_loop [8] (fun i => ∃ j : Nat, j ≤ 17 ∧ Hid ((signsL.take j).all (fun s => !s.isPrefixOf (l.drop a)) = true) ∧ i = .int .i64 j) (fun i => 17 - litLen i)
  case atStart => exact ⟨0, by omega, Lib.hid rfl, rfl⟩
  case round =>
    obtain ⟨j, hj, hno, rfl⟩ := hrel
    rcases Nat.lt_or_ge j 17 with hlt | hge
    · have q3 : decide ((j : Int) < 17) = true := decide_eq_true (by omega)
      obtain ⟨s, hsj⟩ : ∃ s, signsL[j]? = some s := ⟨signsL[j]'(by show j < 17; exact hlt), List.getElem?_eq_getElem _⟩
      have hix := fun w => HX.out w j hlt s hsj
      have HJ := Lib.hid hsj
      obtain ⟨k, hk⟩ : ∃ k, k = s.length := ⟨_, rfl⟩
      have hks : (str s).size = k := by rw [str_size, hk]
      have HK := Lib.hid hk
      have hk2 := signs_len (List.mem_of_getElem? hsj)
      rw [← hk] at hk2
      have kl : (k : Int) ≤ 2 := by omega
      have hP := fun w => Tryz.strings_HasPrefix D (str s) w
      rw [hDE.out, str_data, str_data, ← hDE.out] at hP
      clear hsj hk hk2
      obtain ⟨b, hb⟩ : ∃ b, b = s.isPrefixOf (l.drop a) := ⟨_, rfl⟩
      have hP2 := Lib.hid (show ∀ w, Calls Tryz.prog 113 #[.string D, .string (str s)] w fun e w' => e = .returned (.bool b) ∧ w' = w by rw [hb]; exact hP)
      have HB := Lib.hid hb
      clear hP hb
      cases b with
      | true =>
        have hpl := Lib.hid (List.isPrefixOf_iff_prefix.1 HB.out.symm).length_le
        have hpt := Lib.hid (prefix_take HB.out.symm)
        obtain ⟨y, hy⟩ : ∃ y, y = a + k := ⟨_, rfl⟩
        have e1 : (a : Int) + (k : Int) = (y : Int) := by omega
        have yl : (y : Int) ≤ (n : Int) := by have h := hpl.out; rw [List.length_drop, hn.out, ← HK.out] at h; omega
        have al : (a : Int) ≤ (y : Int) := by omega
        have hex : (str l).extract a y = str s := by rw [slice_str]; congr 1; rw [hy, show a + k - a = k by omega, HK.out]; exact hpt.out
        have HT2 := Lib.hid (hY.out s (sign_hit HJ.out hno.out HB.out.symm))
        clear hy
        go_wp2_with (go_at_call 113; ((with_reducible refine (hP2.out _).mono ?_); rintro e w1 ⟨rfl, rfl⟩))
        rw [HT2.out]
        exact bodyPost_ret (v := tokV ⟨4, s, 0, a⟩) (by simp [results, Tryz.results101, go_sem, tokV]) rfl ⟨rfl, ((Below.refl w.heap.size w).alloc (Nat.le_refl _) _).alloc (by simp) _⟩
      | false =>
        go_wp2_with (go_at_call 113; ((with_reducible refine (hP2.out _).mono ?_); rintro e w1 ⟨rfl, rfl⟩))
        exact ⟨⟨j + 1, by omega, Lib.hid (all_take_next _ HJ.out hno.out (by rw [← HB.out]; rfl)), rfl⟩, by simp [litLen]; omega⟩
    · have q3 : decide ((j : Int) < 17) = false := decide_eq_false (by omega)
      have HT2 := Lib.hid (hN.out (sign_none (by have := hno.out; rwa [List.take_of_length_le (by show 17 ≤ j; exact hge)] at this)))
      go_wp2_with fail
      rw [HT2.out]
      exact bodyPost_ret (v := tokV ⟨0, [], 0, a⟩) (by simp [results, Tryz.results101, go_sem, tokV, str_nil]) rfl ⟨rfl, ((Below.refl w.heap.size w).alloc (Nat.le_refl _) _).alloc (by simp) _⟩
theorem tokAt_num {l : List UInt8} {a : Nat} {c : UInt8} (hc : l[a]? = some c) (h1 : isLetter c = false) (h2 : isDig c = true) :
    tokAt l a = if (parseL ((l.drop a).take (numN (l.drop a)))).2 = true then ⟨2, (l.drop a).take (numN (l.drop a)), ((parseL ((l.drop a).take (numN (l.drop a)))).1 : Int), a⟩ else ⟨0, [], 0, a⟩ := by
  unfold tokAt oneL
  rw [drop_cons hc]
  simp only [h1, h2, if_true, Bool.false_eq_true, if_false]
  split <;> rfl
theorem tokAt_sign {l : List UInt8} {a : Nat} {c : UInt8} (hc : l[a]? = some c) (h1 : isLetter c = false) (h2 : isDig c = false) :
    tokAt l a = tokOf ((signOf (l.drop a)).map fun s => (4, s.length, 0)) (l.drop a) a := by
  unfold tokAt oneL
  rw [drop_cons hc]
  simp only [h1, h2, Bool.false_eq_true, if_false]
theorem number_any (l : List UInt8) (nl : l.length ≤ 30000) (m v1 v2 v3 v4 v5 : Value) (a : Nat) (c : UInt8) (hc : l[a]? = some c) (h1 : isLetter c = false) (h2 : isDig c = true) (w : World) (hr : ClassAt w v3 isDig) :
    Calls Tryz.prog 100 #[.agg #[.string (str l), m, v1, v2, v3, v4, v5], .int .i64 (a : Int)] w fun e w' => TokPost (tokAt l a) w e w' := by
  have ha : a < l.length := (List.getElem?_eq_some_iff.1 hc).1
  have e : (str l).extract a (numTo l a) = str ((l.drop a).take (numN (l.drop a))) := by
    rw [slice_str]; congr 2; unfold numTo; omega
  have hlen : ((l.drop a).take (numN (l.drop a))).length ≤ 30000 := by rw [List.length_take, List.length_drop]; omega
  refine number_core l _ (Lib.hid rfl) (by omega) (str_size l) m v1 v2 v3 v4 v5 a (by omega) w (Lib.hid hr) _ (Lib.hid rfl) (by unfold numTo; omega) (numTo_le (by omega)) _ e _ _ (Lib.hid fun w => parse_dec _ w (by omega)) _ (Lib.hid rfl) _ (Lib.hid (tokAt_num hc h1 h2))
theorem sign_any (l : List UInt8) (nl : l.length ≤ 30000) (m v1 v2 v3 v4 v5 : Value) (a : Nat) (c : UInt8) (hc : l[a]? = some c) (h1 : isLetter c = false) (h2 : isDig c = false) (w : World) (hS : Signs w) :
    Calls Tryz.prog 101 #[.agg #[.string (str l), m, v1, v2, v3, v4, v5], .int .i64 (a : Int)] w fun e w' => TokPost (tokAt l a) w e w' := by
  have ha : a < l.length := (List.getElem?_eq_some_iff.1 hc).1
  have ht := tokAt_sign hc h1 h2
  refine sign_core l _ (Lib.hid rfl) (by omega) (str_size l) m v1 v2 v3 v4 v5 a (by omega) w (Lib.hid hS) _ (by rw [slice_str, List.take_of_length_le (by rw [List.length_drop]; omega)]) (Lib.hid rfl) _ (Lib.hid fun h => by rw [ht, h]; rfl) (Lib.hid fun s h => by rw [ht, h]; exact congrArg (Tok.mk 4 · 0 a) (prefix_take (signOf_mem h).2))
end Go.Proofs.YtlbhlncipajapaaGreatDoor.Lx
