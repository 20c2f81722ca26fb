/- The reference's reader: level. -/
import Derived.Test.YtnlbfdhhdnapnaaGreatRdSmall
namespace Go.Proofs.YtnlbfdhhdnapnaaGreat
open Go.RowKit Lx

def levA : Array Value := (levelsL.map fun p => Value.string (str p.1)).toArray
def levB : Array Value := (levelsL.map fun p => Value.int .i64 p.2.1).toArray
def levC : Array Value := (levelsL.map fun p => Value.int .i64 p.2.2).toArray
theorem map_cell {α : Type} (W : World) (l : List α) (f : α → Value) (T : TypeId) (j : Nat) (x : α) (h : l[j]? = some x) : (W.alloc (.cells (l.map f).toArray T)).cell? ⟨W.heap.size, j, none⟩ = some (f x) := by
  rw [World.cell?_alloc_new, List.getElem?_toArray, List.getElem?_map, h]; rfl
theorem level_hit {ts : List Tok} {σ : RS} {j : Nat} {p : List UInt8 × Int × Int} (h : levelsL[j]? = some p) (hno : (levelsL.take j).all (fun q => !isS ts q.1 σ) = true) (hp : isS ts p.1 σ = true) : levelS ts σ = p.2 := by
  have : levelsL.find? (fun q => isS ts q.1 σ) = some p := by
    have hl := (List.getElem?_eq_some_iff.1 h).1
    have e : levelsL = levelsL.take j ++ p :: levelsL.drop (j + 1) := by
      rw [← (List.getElem?_eq_some_iff.1 h).2]; simp
    rw [e, List.find?_append, List.find?_eq_none.2 (fun x hx => by simpa using List.all_eq_true.1 hno x hx), Option.none_or]
    simp [hp]
  unfold levelS levelIn
  rw [this]
theorem level_none {ts : List Tok} {σ : RS} (hno : levelsL.all (fun q => !isS ts q.1 σ) = true) : levelS ts σ = (0, 0) := by
  have : levelsL.find? (fun q => isS ts q.1 σ) = none := List.find?_eq_none.2 (fun x hx => by simpa using List.all_eq_true.1 hno x hx)
  unfold levelS levelIn
  rw [this]
set_option maxHeartbeats 8000000 in
set_option maxRecDepth 100000 in
theorem level_any (b g cap : Nat) (dv : Value) (ts : List Tok) (xb : Nat → Prop) (σ : RS) (W : World) (h : Hid (Rd W b g cap dv ts xb σ)) (L K : Int) (hLK : Hid (levelS ts σ = (L, K))) :
    Calls Tryz.prog 119 #[.pointer (some ⟨b, 0, none⟩)] W fun r Y => r = .returned (.tuple #[.int .i64 L, .int .i64 K]) ∧ Below W.heap.size W Y := by
  have IS := Lib.hid (fun s W h => is_any b g cap dv ts xb σ s W h)
  obtain ⟨W1, hW1⟩ : ∃ W1, W1 = ((W.alloc (.cells levA 9)).alloc (.cells levB 3)).alloc (.cells levC 3) := ⟨_, rfl⟩
  have hb1 : Below W.heap.size W W1 := by rw [hW1]; exact (((Below.refl _ _).alloc (Nat.le_refl _) _).alloc (by simp) _).alloc (by simp; omega) _
  have hs1 : W1.heap.size = W.heap.size + 3 := by rw [hW1]; simp
  have hcell : ∀ (j : Nat) p, levelsL[j]? = some p → W1.cell? ⟨W.heap.size, j, none⟩ = some (.string (str p.1)) ∧ W1.cell? ⟨W.heap.size + 1, j, none⟩ = some (.int .i64 p.2.1) ∧ W1.cell? ⟨W.heap.size + 1 + 1, j, none⟩ = some (.int .i64 p.2.2) := fun j p hp => by
    have hA := map_cell W levelsL (fun p => Value.string (str p.1)) 9 j p hp
    have hB := map_cell (W.alloc (.cells levA 9)) levelsL (fun p => Value.int .i64 p.2.1) 3 j p hp
    have hC := map_cell ((W.alloc (.cells levA 9)).alloc (.cells levB 3)) levelsL (fun p => Value.int .i64 p.2.2) 3 j p hp
    rw [World.size_alloc] at hB
    rw [World.size_alloc, World.size_alloc] at hC
    refine ⟨?_, ?_, ?_⟩
    · rw [hW1, World.cell?_alloc_old _ _ _ (by simp; omega), World.cell?_alloc_old _ _ _ (by simp)]; exact hA
    · rw [hW1, World.cell?_alloc_old _ _ _ (by simp)]; exact hB
    · rw [hW1]; exact hC
  have HB1 := Lib.hid hb1
  have HS1 := Lib.hid hs1
  have HC := Lib.hid hcell
  clear hb1 hs1 hcell
  go_enter Tryz.func119, Tryz.ntmps119
  go_wp2_with fail
  change Code.wp _ _ _ _ (((W.alloc (.cells levA 9)).alloc (.cells levB 3)).alloc (.cells levC 3))
  rw [← hW1]
  clear hW1
  go_loopw [7] (fun i wr => ∃ j : Nat, j ≤ 9 ∧ Hid ((levelsL.take j).all (fun q => !isS ts q.1 σ) = true) ∧ i = .int .i64 j ∧ Hid (Below W1.heap.size W1 wr)) (fun i _ => 9 - litLen i)
  case atStart => exact ⟨0, by omega, Lib.hid rfl, rfl, Lib.hid (Below.refl _ _)⟩
  case round =>
    obtain ⟨j, hj, hno, rfl, hB⟩ := hrel
    have HBW := Lib.hid (HB1.out.trans (hB.out.mono HB1.out.size))
    rcases Nat.lt_or_ge j 9 with hlt | hge
    · have q3 : decide ((j : Int) < 9) = true := decide_eq_true (by omega)
      obtain ⟨p, hp⟩ : ∃ p, levelsL[j]? = some p := ⟨levelsL[j]'(by show j < 9; exact hlt), List.getElem?_eq_getElem _⟩
      obtain ⟨a1, a2, a3⟩ := HC.out j p hp
      have up : ∀ {x i v}, x < W.heap.size + 3 → W1.cell? ⟨x, i, none⟩ = some v → wr.cell? ⟨x, i, none⟩ = some v := fun {x i v} hx hh => (hB.out.cell (p := ⟨x, i, none⟩) (by have := HS1.out; show x < _; omega)).trans hh
      have c1 := up (by omega) a1
      have c2 := up (by omega) a2
      have c3 := up (by omega) a3
      have hsw : Hid (W.heap.size + 3 ≤ wr.heap.size) := Lib.hid (by have := hB.out.size; have := HS1.out; omega)
      obtain ⟨s, L1, K1⟩ := p
      dsimp only at c1 c2 c3
      have HP := Lib.hid hp
      clear a1 a2 a3 up hp
      have hr := Lib.hid (h.out.below HBW.out)
      have jr : (j : Int) < 9 := by omega
      cases hR : isS ts s σ with
      | true =>
        have C : Hid (Calls Tryz.prog 81 #[.pointer (some ⟨b, 0, none⟩), .string (str s)] wr fun r Y => r = .returned (.bool true) ∧ Below wr.heap.size wr Y ∧ Y.cell? ⟨W.heap.size + 1, j, none⟩ = some (.int .i64 L1) ∧ Y.cell? ⟨W.heap.size + 1 + 1, j, none⟩ = some (.int .i64 K1)) := Lib.hid ((IS.out s wr hr).mono fun r Y ⟨e1, e2⟩ => by
          rw [hR] at e1
          exact ⟨e1, e2, (e2.cell (p := ⟨W.heap.size + 1, j, none⟩) (by have := hsw.out; show W.heap.size + 1 < _; omega)).trans c2, (e2.cell (p := ⟨W.heap.size + 1 + 1, j, none⟩) (by have := hsw.out; show W.heap.size + 1 + 1 < _; omega)).trans c3⟩)
        have hv := level_hit HP.out hno.out hR
        have HV : Hid (L = L1 ∧ K = K1) := Lib.hid (by rw [hLK.out] at hv; cases hv; exact ⟨rfl, rfl⟩)
        clear hR hv
        go_wp2_with (go_at_call 81; (with_reducible refine C.out.mono ?_); rintro e w1 ⟨rfl, hb, y2, y3⟩; have HB := Lib.hid hb; clear hb)
        go_quiet (fail)
        go_wp2_with fail
        go_ret2
        obtain ⟨rfl, rfl⟩ := HV.out
        exact ⟨rfl, below_dr (HBW.out.trans (HB.out.mono HBW.out.size)) _⟩
      | false =>
        have C : Hid (Calls Tryz.prog 81 #[.pointer (some ⟨b, 0, none⟩), .string (str s)] wr fun r Y => r = .returned (.bool false) ∧ Below wr.heap.size wr Y) := Lib.hid ((IS.out s wr hr).mono fun r Y ⟨e1, e2⟩ => by
          rw [hR] at e1; exact ⟨e1, e2⟩)
        have HN := Lib.hid (all_take_next (fun q : List UInt8 × Int × Int => !isS ts q.1 σ) HP.out hno.out (by show (!isS ts s σ) = true; rw [hR]; rfl))
        clear hR
        go_wp2_with (go_at_call 81; (with_reducible refine C.out.mono ?_); rintro e w1 ⟨rfl, hb⟩; have HB := Lib.hid hb; clear hb)
        exact ⟨⟨j + 1, by omega, HN, rfl, Lib.hid (hB.out.trans (HB.out.mono hB.out.size))⟩, by simp [litLen]; omega⟩
    · have q3 : decide ((j : Int) < 9) = false := decide_eq_false (by omega)
      have HV : Hid (L = 0 ∧ K = 0) := Lib.hid (by
        have hv := level_none (ts := ts) (σ := σ) (by have := hno.out; rwa [List.take_of_length_le (show levelsL.length ≤ j by show 9 ≤ j; omega)] at this)
        rw [hLK.out] at hv; cases hv; exact ⟨rfl, rfl⟩)
      go_wp2_with fail
      go_ret2
      obtain ⟨rfl, rfl⟩ := HV.out
      exact ⟨rfl, HBW.out⟩
end Go.Proofs.YtnlbfdhhdnapnaaGreat
