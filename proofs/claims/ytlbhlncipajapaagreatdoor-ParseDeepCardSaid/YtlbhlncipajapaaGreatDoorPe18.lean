/- Joined: RdLevel, RdStep, RdMore, RdBin. -/
import Derived.Test.YtlbhlncipajapaaGreatDoorPe16
namespace Go.Proofs.YtlbhlncipajapaaGreatDoor
open Go.RowKit Lx

def levA : Array Value := (levelsL.map fun p => Value.string (str p.1)).toArray
def levB : Array Value := (levelsL.map fun p => Value.int .i64 p.2.1).toArray
def levC : Array Value := (levelsL.map fun p => Value.int .i64 p.2.2).toArray
theorem map_cell {α : Type} (W : World) (l : List α) (f : α → Value) (T : TypeId) (j : Nat) (x : α) (h : l[j]? = some x) : (W.alloc (.cells (l.map f).toArray T)).cell? ⟨W.heap.size, j, none⟩ = some (f x) := by
  rw [World.cell?_alloc_new, List.getElem?_toArray, List.getElem?_map, h]; rfl
theorem level_hit {ts : List Tok} {σ : RS} {j : Nat} {p : List UInt8 × Int × Int} (h : levelsL[j]? = some p) (hno : (levelsL.take j).all (fun q => !isS ts q.1 σ) = true) (hp : isS ts p.1 σ = true) : levelS ts σ = p.2 := by
  have : levelsL.find? (fun q => isS ts q.1 σ) = some p := by
    have hl := (List.getElem?_eq_some_iff.1 h).1
    have e : levelsL = levelsL.take j ++ p :: levelsL.drop (j + 1) := by
      rw [← (List.getElem?_eq_some_iff.1 h).2]; simp
    rw [e, List.find?_append, List.find?_eq_none.2 (fun x hx => by simpa using List.all_eq_true.1 hno x hx), Option.none_or]
    simp [hp]
  unfold levelS levelIn
  rw [this]
theorem level_none {ts : List Tok} {σ : RS} (hno : levelsL.all (fun q => !isS ts q.1 σ) = true) : levelS ts σ = (0, 0) := by
  have : levelsL.find? (fun q => isS ts q.1 σ) = none := List.find?_eq_none.2 (fun x hx => by simpa using List.all_eq_true.1 hno x hx)
  unfold levelS levelIn
  rw [this]
set_option maxHeartbeats 8000000 in
set_option maxRecDepth 100000 in
theorem level_any (b g cap : Nat) (dv : Value) (ts : List Tok) (xb : Nat → Prop) (σ : RS) (W : World) (h : Hid (Rd W b g cap dv ts xb σ)) (L K : Int) (hLK : Hid (levelS ts σ = (L, K))) :
    Calls Tryz.prog 72 #[.pointer (some ⟨b, 0, none⟩)] W fun r Y => r = .returned (.tuple #[.int .i64 L, .int .i64 K]) ∧ Below W.heap.size W Y := by
  have IS := Lib.hid (fun s W h => is_any b g cap dv ts xb σ s W h)
  obtain ⟨W1, hW1⟩ : ∃ W1, W1 = ((W.alloc (.cells levA 9)).alloc (.cells levB 3)).alloc (.cells levC 3) := ⟨_, rfl⟩
  have hb1 : Below W.heap.size W W1 := by rw [hW1]; exact (((Below.refl _ _).alloc (Nat.le_refl _) _).alloc (by simp) _).alloc (by simp; omega) _
  have hs1 : W1.heap.size = W.heap.size + 3 := by rw [hW1]; simp
  have hcell : ∀ (j : Nat) p, levelsL[j]? = some p → W1.cell? ⟨W.heap.size, j, none⟩ = some (.string (str p.1)) ∧ W1.cell? ⟨W.heap.size + 1, j, none⟩ = some (.int .i64 p.2.1) ∧ W1.cell? ⟨W.heap.size + 1 + 1, j, none⟩ = some (.int .i64 p.2.2) := fun j p hp => by
    have hA := map_cell W levelsL (fun p => Value.string (str p.1)) 9 j p hp
    have hB := map_cell (W.alloc (.cells levA 9)) levelsL (fun p => Value.int .i64 p.2.1) 3 j p hp
    have hC := map_cell ((W.alloc (.cells levA 9)).alloc (.cells levB 3)) levelsL (fun p => Value.int .i64 p.2.2) 3 j p hp
    rw [World.size_alloc] at hB
    rw [World.size_alloc, World.size_alloc] at hC
    refine ⟨?_, ?_, ?_⟩
    · rw [hW1, World.cell?_alloc_old _ _ _ (by simp; omega), World.cell?_alloc_old _ _ _ (by simp)]; exact hA
    · rw [hW1, World.cell?_alloc_old _ _ _ (by simp)]; exact hB
    · rw [hW1]; exact hC
  have HB1 := Lib.hid hb1
  have HS1 := Lib.hid hs1
  have HC := Lib.hid hcell
  clear hb1 hs1 hcell
  go_enter Tryz.func72, Tryz.ntmps72
  go_wp2_with fail
  change Code.wp _ _ _ _ (((W.alloc (.cells levA 9)).alloc (.cells levB 3)).alloc (.cells levC 3))
  rw [← hW1]
  clear hW1
  go_loopw [7] (fun i wr => ∃ j : Nat, j ≤ 9 ∧ Hid ((levelsL.take j).all (fun q => !isS ts q.1 σ) = true) ∧ i = .int .i64 j ∧ Hid (Below W1.heap.size W1 wr)) (fun i _ => 9 - litLen i)
  case atStart => exact ⟨0, by omega, Lib.hid rfl, rfl, Lib.hid (Below.refl _ _)⟩
  case round =>
    obtain ⟨j, hj, hno, rfl, hB⟩ := hrel
    have HBW := Lib.hid (HB1.out.trans (hB.out.mono HB1.out.size))
    rcases Nat.lt_or_ge j 9 with hlt | hge
    · have q3 : decide ((j : Int) < 9) = true := decide_eq_true (by omega)
      obtain ⟨p, hp⟩ : ∃ p, levelsL[j]? = some p := ⟨levelsL[j]'(by show j < 9; exact hlt), List.getElem?_eq_getElem _⟩
      obtain ⟨a1, a2, a3⟩ := HC.out j p hp
      have up : ∀ {x i v}, x < W.heap.size + 3 → W1.cell? ⟨x, i, none⟩ = some v → wr.cell? ⟨x, i, none⟩ = some v := fun {x i v} hx hh => (hB.out.cell (p := ⟨x, i, none⟩) (by have := HS1.out; show x < _; omega)).trans hh
      have c1 := up (by omega) a1
      have c2 := up (by omega) a2
      have c3 := up (by omega) a3
      have hsw : Hid (W.heap.size + 3 ≤ wr.heap.size) := Lib.hid (by have := hB.out.size; have := HS1.out; omega)
      obtain ⟨s, L1, K1⟩ := p
      dsimp only at c1 c2 c3
      have HP := Lib.hid hp
      clear a1 a2 a3 up hp
      have hr := Lib.hid (h.out.below HBW.out)
      have jr : (j : Int) < 9 := by omega
      cases hR : isS ts s σ with
      | true =>
        have C : Hid (Calls Tryz.prog 40 #[.pointer (some ⟨b, 0, none⟩), .string (str s)] wr fun r Y => r = .returned (.bool true) ∧ Below wr.heap.size wr Y ∧ Y.cell? ⟨W.heap.size + 1, j, none⟩ = some (.int .i64 L1) ∧ Y.cell? ⟨W.heap.size + 1 + 1, j, none⟩ = some (.int .i64 K1)) := Lib.hid ((IS.out s wr hr).mono fun r Y ⟨e1, e2⟩ => by
          rw [hR] at e1
          exact ⟨e1, e2, (e2.cell (p := ⟨W.heap.size + 1, j, none⟩) (by have := hsw.out; show W.heap.size + 1 < _; omega)).trans c2, (e2.cell (p := ⟨W.heap.size + 1 + 1, j, none⟩) (by have := hsw.out; show W.heap.size + 1 + 1 < _; omega)).trans c3⟩)
        have hv := level_hit HP.out hno.out hR
        have HV : Hid (L = L1 ∧ K = K1) := Lib.hid (by rw [hLK.out] at hv; cases hv; exact ⟨rfl, rfl⟩)
        clear hR hv
        go_wp2_with (go_at_call 40; (with_reducible refine C.out.mono ?_); rintro e w1 ⟨rfl, hb, y2, y3⟩; have HB := Lib.hid hb; clear hb)
        go_quiet (fail)
        go_wp2_with fail
        go_ret2
        obtain ⟨rfl, rfl⟩ := HV.out
        exact ⟨rfl, below_dr (HBW.out.trans (HB.out.mono HBW.out.size)) _⟩
      | false =>
        have C : Hid (Calls Tryz.prog 40 #[.pointer (some ⟨b, 0, none⟩), .string (str s)] wr fun r Y => r = .returned (.bool false) ∧ Below wr.heap.size wr Y) := Lib.hid ((IS.out s wr hr).mono fun r Y ⟨e1, e2⟩ => by
          rw [hR] at e1; exact ⟨e1, e2⟩)
        have HN := Lib.hid (all_take_next (fun q : List UInt8 × Int × Int => !isS ts q.1 σ) HP.out hno.out (by show (!isS ts s σ) = true; rw [hR]; rfl))
        clear hR
        go_wp2_with (go_at_call 40; (with_reducible refine C.out.mono ?_); rintro e w1 ⟨rfl, hb⟩; have HB := Lib.hid hb; clear hb)
        exact ⟨⟨j + 1, by omega, HN, rfl, Lib.hid (hB.out.trans (HB.out.mono hB.out.size))⟩, by simp [litLen]; omega⟩
    · have q3 : decide ((j : Int) < 9) = false := decide_eq_false (by omega)
      have HV : Hid (L = 0 ∧ K = 0) := Lib.hid (by
        have hv := level_none (ts := ts) (σ := σ) (by have := hno.out; rwa [List.take_of_length_le (show levelsL.length ≤ j by show 9 ≤ j; omega)] at this)
        rw [hLK.out] at hv; cases hv; exact ⟨rfl, rfl⟩)
      go_wp2_with fail
      go_ret2
      obtain ⟨rfl, rfl⟩ := HV.out
      exact ⟨rfl, HBW.out⟩
end Go.Proofs.YtlbhlncipajapaaGreatDoor
namespace Go.Proofs.YtlbhlncipajapaaGreatDoor
open Go.RowKit Lx

/-- .. and what the next step asks of it -/
def IsRet (b a : Nat) (R : Bool) (W : World) (r : Ending) (Y : World) : Prop := r = .returned (.bool R) ∧ Below W.heap.size W Y ∧ Y.cell? ⟨b, 1, none⟩ = some (.int .i64 (a : Int)) ∧ Y.frozen? ⟨b, 1, none⟩ = false
set_option maxHeartbeats 4000000 in
theorem took_any (b g cap : Nat) (dv : Value) (ts : List Tok) (xb : Nat → Prop) (σ : RS) (s : List UInt8) (W : World) (h : Hid (Rd W b g cap dv ts xb σ)) :
    Calls Tryz.prog 36 #[.pointer (some ⟨b, 0, none⟩), .string (str s)] W fun r Y => RdRet b g cap dv ts xb W (.bool (isS ts s σ)) (tookS ts s σ) r Y := by
  have hI := is_any b g cap dv ts xb σ s W h
  obtain ⟨o, c, ⟨c0, c1, c3, c4, c5, c6, fr⟩, hx⟩ := h.out.cells
  have ht := h.out.tok
  have hgb : g ≠ b := by have := h.out.lt; omega
  have hl := h.out.at_
  have hn := h.out.len
  obtain ⟨t0, t1, t2, t3⟩ := ht
  obtain ⟨n, hnn⟩ : ∃ n, n = ts.length := ⟨_, rfl⟩
  obtain ⟨a, haa⟩ : ∃ a, a = σ.at_ := ⟨_, rfl⟩
  obtain ⟨cd, hcd⟩ : ∃ cd, cd = σ.code := ⟨_, rfl⟩
  obtain ⟨ps, hps⟩ : ∃ ps, ps = σ.pos := ⟨_, rfl⟩
  obtain ⟨dp, hdp⟩ : ∃ dp, dp = σ.deep := ⟨_, rfl⟩
  obtain ⟨kd, hkd⟩ : ∃ kd, kd = (tokL ts σ.at_).kind := ⟨_, rfl⟩
  obtain ⟨tx, htx⟩ : ∃ tx, tx = (tokL ts σ.at_).text := ⟨_, rfl⟩
  obtain ⟨tv, htv⟩ : ∃ tv, tv = (tokL ts σ.at_).v := ⟨_, rfl⟩
  obtain ⟨p, hp⟩ : ∃ p, p = (tokL ts σ.at_).at_ := ⟨_, rfl⟩
  rw [← hnn] at c0 hl hn
  rw [← hkd] at t0
  rw [← htx] at t1
  rw [← htv] at t2
  rw [← hp] at t3
  rw [← haa] at c1 t0 t1 t2 t3 hl
  rw [← hcd] at c5
  rw [← hdp] at c4
  rw [← hps] at c6
  have k0 : ((a : Nat) : Int) < (n : Int) := by omega
  have f1 := fr 1
  have f4 := fr 4
  have f5 := fr 5
  have f6 := fr 6
  have HCD := Lib.hid hcd
  have HPS := Lib.hid hps
  have HDP := Lib.hid hdp
  have HKD := Lib.hid hkd
  have HTX := Lib.hid htx
  have HTV := Lib.hid htv
  have HP := Lib.hid hp
  have HAA := Lib.hid haa
  have HNN := Lib.hid hnn
  clear fr hx hnn haa hcd hps hdp hkd htx htv hp c3
  have ha : (a : Int) ≤ 40000 := by omega
  have hbs : b < W.heap.size := h.out.size
  have C : Hid (Calls Tryz.prog 40 #[.pointer (some ⟨b, 0, none⟩), .string (str s)] W (IsRet b a (isS ts s σ) W)) := Lib.hid (hI.mono fun r Y hY => ⟨hY.1, hY.2, (hY.2.cell (p := ⟨b, 1, none⟩) hbs).trans c1, (hY.2.frozen (p := ⟨b, 1, none⟩) hbs).trans f1⟩)
  clear hI
  cases hR : isS ts s σ with
  | true =>
    rw [hR] at C
    have hk := (isS_kind hR).1
    have HT := Lib.hid (show tookS ts s σ = stepS σ by unfold tookS; rw [if_pos hR])
    clear hR
    go_enter Tryz.func36, Tryz.ntmps36
    go_wp2_with (go_at_call 40; (with_reducible refine C.out.mono ?_); rintro e w1 ⟨rfl, hb, y1, y2⟩; have HB := Lib.hid hb; clear hb)
    go_ret
    have h1 := h.out.below HB.out
    rw [HT.out]
    have h2 := h1.setAt hk
    rw [← HAA.out] at h2
    exact ⟨rfl, h2, (RK.of_below HB.out (Nat.le_of_lt hbs)).trans (RK.set 1 _)⟩
  | false =>
    rw [hR] at C
    have HT := Lib.hid (show tookS ts s σ = σ by unfold tookS; rw [hR]; rfl)
    clear hR
    go_enter Tryz.func36, Tryz.ntmps36
    go_wp2_with (go_at_call 40; (with_reducible refine C.out.mono ?_); rintro e w1 ⟨rfl, hb, y1, y2⟩; have HB := Lib.hid hb; clear hb)
    go_ret
    rw [HT.out]
    exact ⟨rfl, h.out.below HB.out, RK.of_below HB.out (Nat.le_of_lt hbs)⟩
set_option maxHeartbeats 4000000 in
theorem want_any (b g cap : Nat) (dv : Value) (ts : List Tok) (xb : Nat → Prop) (σ : RS) (s : List UInt8) (W : World) (h : Hid (Rd W b g cap dv ts xb σ)) :
    Calls Tryz.prog 37 #[.pointer (some ⟨b, 0, none⟩), .string (str s)] W fun r Y => RdRet b g cap dv ts xb W (.tuple #[]) (wantS ts s σ) r Y := by
  have C := Lib.hid (took_any b g cap dv ts xb σ s W h)
  cases hR : isS ts s σ with
  | true =>
    rw [hR] at C
    have HT := Lib.hid (show wantS ts s σ = tookS ts s σ by unfold tookS wantS; rw [if_pos hR, if_pos hR])
    clear hR
    go_enter Tryz.func37, Tryz.ntmps37
    go_wp2_with (go_at_call 36; (with_reducible refine C.out.mono ?_); rintro e w1 ⟨rfl, hr, hk⟩; have HR := Lib.hid hr; have HK := Lib.hid hk; clear hr hk)
    go_end0
    rw [HT.out]
    exact ⟨rfl, HR.out, HK.out⟩
  | false =>
    rw [hR] at C
    have HT := Lib.hid (show tookS ts s σ = σ by unfold tookS; rw [hR]; rfl)
    have HU := Lib.hid (show wantS ts s σ = failS ts 2 σ by unfold wantS; rw [hR]; rfl)
    rw [HT.out] at C
    clear hR
    go_enter Tryz.func37, Tryz.ntmps37
    go_wp2_with (first | (go_at_call 36; (with_reducible refine C.out.mono ?_); rintro e w1 ⟨rfl, hr, hk⟩; have HR := Lib.hid hr; have HK := Lib.hid hk; clear hr hk) | (go_at_call 20; (with_reducible refine (fail_any b g cap dv ts xb σ 2 w1 HR).mono ?_); rintro e w2 ⟨rfl, hr, hk⟩; have HR2 := Lib.hid hr; have HK2 := Lib.hid hk; clear hr hk))
    go_end0
    rw [HU.out]
    exact ⟨rfl, HR2.out, HK.out.trans HK2.out⟩
set_option maxHeartbeats 8000000 in
theorem name_any (b g cap : Nat) (dv : Value) (ts : List Tok) (xb : Nat → Prop) (σ : RS) (W : World) (h : Hid (Rd W b g cap dv ts xb σ)) :
    Calls Tryz.prog 41 #[.pointer (some ⟨b, 0, none⟩)] W fun r Y => RdRet b g cap dv ts xb W (.string (str (nameV ts σ))) (nameS ts σ) r Y := by
  have F := Lib.hid (fun W h => fail_any b g cap dv ts xb σ 2 W h)
  obtain ⟨o, c, ⟨c0, c1, c3, c4, c5, c6, fr⟩, hx⟩ := h.out.cells
  have ht := h.out.tok
  have hgb : g ≠ b := by have := h.out.lt; omega
  have hl := h.out.at_
  have hn := h.out.len
  obtain ⟨t0, t1, t2, t3⟩ := ht
  obtain ⟨n, hnn⟩ : ∃ n, n = ts.length := ⟨_, rfl⟩
  obtain ⟨a, haa⟩ : ∃ a, a = σ.at_ := ⟨_, rfl⟩
  obtain ⟨cd, hcd⟩ : ∃ cd, cd = σ.code := ⟨_, rfl⟩
  obtain ⟨ps, hps⟩ : ∃ ps, ps = σ.pos := ⟨_, rfl⟩
  obtain ⟨dp, hdp⟩ : ∃ dp, dp = σ.deep := ⟨_, rfl⟩
  obtain ⟨kd, hkd⟩ : ∃ kd, kd = (tokL ts σ.at_).kind := ⟨_, rfl⟩
  obtain ⟨tx, htx⟩ : ∃ tx, tx = (tokL ts σ.at_).text := ⟨_, rfl⟩
  obtain ⟨tv, htv⟩ : ∃ tv, tv = (tokL ts σ.at_).v := ⟨_, rfl⟩
  obtain ⟨p, hp⟩ : ∃ p, p = (tokL ts σ.at_).at_ := ⟨_, rfl⟩
  rw [← hnn] at c0 hl hn
  rw [← hkd] at t0
  rw [← htx] at t1
  rw [← htv] at t2
  rw [← hp] at t3
  rw [← haa] at c1 t0 t1 t2 t3 hl
  rw [← hcd] at c5
  rw [← hdp] at c4
  rw [← hps] at c6
  have k0 : ((a : Nat) : Int) < (n : Int) := by omega
  have f1 := fr 1
  have f4 := fr 4
  have f5 := fr 5
  have f6 := fr 6
  have HCD := Lib.hid hcd
  have HPS := Lib.hid hps
  have HDP := Lib.hid hdp
  have HKD := Lib.hid hkd
  have HTX := Lib.hid htx
  have HTV := Lib.hid htv
  have HP := Lib.hid hp
  have HAA := Lib.hid haa
  have HNN := Lib.hid hnn
  clear fr hx hnn haa hcd hps hdp hkd htx htv hp c3
  have ha : (a : Int) ≤ 40000 := by omega
  have hbs : b < W.heap.size := h.out.size
  by_cases hz : cd = 0
  · subst hz
    by_cases h1 : kd = 1
    · subst h1
      have q1 : ((1 : Int) != 1) = false := by decide
      have HN := Lib.hid (show nameB ts σ = true by unfold nameB; rw [← HCD.out, ← HKD.out]; rfl)
      have HT := Lib.hid (show nameS ts σ = stepS σ by unfold nameS; rw [if_pos HN.out])
      have HV := Lib.hid (show nameV ts σ = tx by unfold nameV; rw [if_pos HN.out, HTX.out])
      go_enter Tryz.func41, Tryz.ntmps41
      go_wp2_with fail
      go_quiet (fail)
      go_wp2_with fail
      have v0 : ((W.drewN nq).setCell ⟨b, 1, none⟩ (.int .i64 ((a : Int) + 1))).cell? ⟨b, 0, none⟩ = some (.slice (some ⟨g, 0, none⟩) n cap) := by rw [World.cell?_setCell_other _ _ _ _ (by simp)]; exact c0
      have v1 : ((W.drewN nq).setCell ⟨b, 1, none⟩ (.int .i64 ((a : Int) + 1))).cell? ⟨b, 1, none⟩ = some (.int .i64 ((a : Int) + 1)) := World.cell?_setCell_same (W.drewN nq) ⟨b, 1, none⟩ _ c1
      have v2 : ((W.drewN nq).setCell ⟨b, 1, none⟩ (.int .i64 ((a : Int) + 1))).cell? ⟨g, a * 4 + 1, none⟩ = some (.string (str tx)) := by rw [World.cell?_setCell_other _ _ _ _ (by intro e; injection e with e1; exact hgb e1.symm)]; exact t1
      have wz : IntKind.i64.wrap ((a : Int) + 1 - 1) = (a : Int) := by rw [IntKind.wrap_i64]; omega
      have HD := Lib.hid (below_dr (Below.refl W.heap.size W) nq)
      have H1 : Hid (Rd ((W.drewN nq).setCell ⟨b, 1, none⟩ (.int .i64 ((a : Int) + 1))) b g cap dv ts xb (stepS σ)) := Lib.hid (by rw [HAA.out]; exact (h.out.below HD.out).setAt (by rw [← HKD.out]; decide))
      have K1 : Hid (RK b W ((W.drewN nq).setCell ⟨b, 1, none⟩ (.int .i64 ((a : Int) + 1)))) := Lib.hid ((RK.of_below HD.out (Nat.le_of_lt hbs)).trans (RK.set 1 _))
      go_quiet (fail)
      go_wp2_with fail
      go_ret
      rw [HT.out, HV.out]
      exact ⟨rfl, H1.out.below (below_dr (Below.refl _ _) _), K1.out.trans (RK.of_below (below_dr (Below.refl _ _) _) (Nat.le_trans (Nat.le_of_lt hbs) K1.out.size))⟩
    · have n1 : ((kd : Int) != 1) = true := by rw [bne_iff_ne]; omega
      have HN := Lib.hid (show nameB ts σ = false by unfold nameB; rw [← HKD.out, decide_eq_false h1, Bool.and_false])
      have HT := Lib.hid (show nameS ts σ = failS ts 2 σ by unfold nameS; rw [HN.out]; rfl)
      have HV := Lib.hid (show nameV ts σ = [] by unfold nameV; rw [HN.out]; rfl)
      go_enter Tryz.func41, Tryz.ntmps41
      go_wp2_with fail
      go_quiet (fail)
      have HD := Lib.hid (below_dr (Below.refl W.heap.size W) nq)
      have FF := Lib.hid (F.out (W.drewN nq) (Lib.hid (h.out.below HD.out)))
      go_wp2_with (go_at_call 20; (with_reducible refine FF.out.mono ?_); rintro e w1 ⟨rfl, hr, hk⟩; have HR := Lib.hid hr; have HK := Lib.hid hk; clear hr hk)
      go_ret
      rw [HT.out, HV.out]
      exact ⟨rfl, HR.out, (RK.of_below HD.out (Nat.le_of_lt hbs)).trans HK.out⟩
  · have n0 : (cd != 0) = true := by rw [bne_iff_ne]; exact hz
    have HN := Lib.hid (show nameB ts σ = false by unfold nameB; rw [← HCD.out, decide_eq_false hz]; rfl)
    have HT := Lib.hid (show nameS ts σ = failS ts 2 σ by unfold nameS; rw [HN.out]; rfl)
    have HV := Lib.hid (show nameV ts σ = [] by unfold nameV; rw [HN.out]; rfl)
    go_enter Tryz.func41, Tryz.ntmps41
    go_wp2_with fail
    go_quiet (fail)
    have HD := Lib.hid (below_dr (Below.refl W.heap.size W) nq)
    have FF := Lib.hid (F.out (W.drewN nq) (Lib.hid (h.out.below HD.out)))
    go_wp2_with (go_at_call 20; (with_reducible refine FF.out.mono ?_); rintro e w1 ⟨rfl, hr, hk⟩; have HR := Lib.hid hr; have HK := Lib.hid hk; clear hr hk)
    go_ret
    rw [HT.out, HV.out]
    exact ⟨rfl, HR.out, (RK.of_below HD.out (Nat.le_of_lt hbs)).trans HK.out⟩
end Go.Proofs.YtlbhlncipajapaaGreatDoor
namespace Go.Proofs.YtlbhlncipajapaaGreatDoor
open Go.RowKit Lx

set_option maxHeartbeats 4000000 in
theorem enter_any (b g cap : Nat) (dv : Value) (ts : List Tok) (xb : Nat → Prop) (σ : RS) (W : World) (h : Hid (Rd W b g cap dv ts xb σ)) (d0 : 0 ≤ σ.deep) (d1 : σ.deep ≤ 30) :
    Calls Tryz.prog 35 #[.pointer (some ⟨b, 0, none⟩)] W fun r Y => RdRet b g cap dv ts xb W (.bool (decide ((enterS ts σ).code = 0))) (enterS ts σ) r Y := by
  have F := Lib.hid (fun W h => fail_any b g cap dv ts xb σ 3 W h)
  obtain ⟨o, c, ⟨c0, c1, c3, c4, c5, c6, fr⟩, hx⟩ := h.out.cells
  have ht := h.out.tok
  have hgb : g ≠ b := by have := h.out.lt; omega
  have hl := h.out.at_
  have hn := h.out.len
  obtain ⟨t0, t1, t2, t3⟩ := ht
  obtain ⟨n, hnn⟩ : ∃ n, n = ts.length := ⟨_, rfl⟩
  obtain ⟨a, haa⟩ : ∃ a, a = σ.at_ := ⟨_, rfl⟩
  obtain ⟨cd, hcd⟩ : ∃ cd, cd = σ.code := ⟨_, rfl⟩
  obtain ⟨ps, hps⟩ : ∃ ps, ps = σ.pos := ⟨_, rfl⟩
  obtain ⟨dp, hdp⟩ : ∃ dp, dp = σ.deep := ⟨_, rfl⟩
  obtain ⟨kd, hkd⟩ : ∃ kd, kd = (tokL ts σ.at_).kind := ⟨_, rfl⟩
  obtain ⟨tx, htx⟩ : ∃ tx, tx = (tokL ts σ.at_).text := ⟨_, rfl⟩
  obtain ⟨tv, htv⟩ : ∃ tv, tv = (tokL ts σ.at_).v := ⟨_, rfl⟩
  obtain ⟨p, hp⟩ : ∃ p, p = (tokL ts σ.at_).at_ := ⟨_, rfl⟩
  rw [← hnn] at c0 hl hn
  rw [← hkd] at t0
  rw [← htx] at t1
  rw [← htv] at t2
  rw [← hp] at t3
  rw [← haa] at c1 t0 t1 t2 t3 hl
  rw [← hcd] at c5
  rw [← hdp] at c4
  rw [← hps] at c6
  have k0 : ((a : Nat) : Int) < (n : Int) := by omega
  have f1 := fr 1
  have f4 := fr 4
  have f5 := fr 5
  have f6 := fr 6
  have HCD := Lib.hid hcd
  have HPS := Lib.hid hps
  have HDP := Lib.hid hdp
  have HKD := Lib.hid hkd
  have HTX := Lib.hid htx
  have HTV := Lib.hid htv
  have HP := Lib.hid hp
  have HAA := Lib.hid haa
  have HNN := Lib.hid hnn
  clear fr hx hnn haa hcd hps hdp hkd htx htv hp c3
  have dd0 : 0 ≤ dp := by rw [HDP.out]; exact d0
  have dd1 : dp ≤ 30 := by rw [HDP.out]; exact d1
  clear d0 d1
  have hbs : b < W.heap.size := h.out.size
  by_cases hz : cd = 0
  · subst hz
    by_cases h30 : dp = 30
    · subst h30
      have HT := Lib.hid (show enterS ts σ = { failS ts 3 σ with deep := 31 } by
        have e : tooDeep σ = true := by unfold tooDeep; rw [← HCD.out, ← HDP.out]; rfl
        have e2 : (failS ts 3 σ).deep = 30 := by unfold failS; split <;> exact HDP.out.symm
        unfold enterS; rw [e]; show { failS ts 3 σ with deep := (failS ts 3 σ).deep + 1 } = _; rw [e2]; rfl)
      have HC := Lib.hid (show (failS ts 3 σ).deep = 30 ∧ (failS ts 3 σ).code = 3 by unfold failS; rw [if_pos HCD.out.symm]; exact ⟨HDP.out.symm, rfl⟩)
      have F1 : Hid (Calls Tryz.prog 20 #[.pointer (some ⟨b, 0, none⟩), .int .i64 3] W fun r Y => r = .returned (.tuple #[]) ∧ Y.cell? ⟨b, 4, none⟩ = some (.int .i64 30) ∧ Y.cell? ⟨b, 5, none⟩ = some (.int .i64 3) ∧ Y.frozen? ⟨b, 4, none⟩ = false ∧ Hid (Rd Y b g cap dv ts xb (failS ts 3 σ)) ∧ Hid (RK b W Y)) := Lib.hid ((F.out W h).mono fun r Y ⟨h1, h2, h3⟩ => by
        obtain ⟨o, c, hc, _⟩ := h2.cells
        exact ⟨h1, hc.c4.trans (by rw [HC.out.1]), hc.c5.trans (by rw [HC.out.2]), hc.fr 4, Lib.hid h2, Lib.hid h3⟩)
      go_enter Tryz.func35, Tryz.ntmps35
      go_wp2_with (go_at_call 20; (with_reducible refine F1.out.mono ?_); rintro e w1 ⟨rfl, y4, y5, z4, HR, HK⟩)
      go_ret
      rw [HT.out]
      exact ⟨by show Ending.returned (Value.bool false) = Ending.returned (.bool (decide ((failS ts 3 σ).code = 0))); rw [HC.out.2]; rfl, HR.out.setDeep 31, HK.out.trans (RK.set 4 _)⟩
    · have q1 : (dp == 30) = false := beq_false_of_ne h30
      have HT := Lib.hid (show enterS ts σ = { σ with deep := dp + 1 } by
        have e : tooDeep σ = false := by unfold tooDeep; rw [← HDP.out, decide_eq_false h30, Bool.and_false]
        unfold enterS; rw [e]; show { σ with deep := σ.deep + 1 } = _; rw [← HDP.out])
      go_enter Tryz.func35, Tryz.ntmps35
      go_wp2_with fail
      go_ret
      rw [HT.out]
      exact ⟨by show _ = Ending.returned (.bool (decide (σ.code = 0))); rw [← HCD.out]; rfl, h.out.setDeep (dp + 1), RK.set 4 _⟩
  · have q1 : (cd == 0) = false := beq_false_of_ne hz
    have HT := Lib.hid (show enterS ts σ = { σ with deep := dp + 1 } by
        have e : tooDeep σ = false := by unfold tooDeep; rw [← HCD.out, decide_eq_false hz, Bool.false_and]
        unfold enterS; rw [e]; show { σ with deep := σ.deep + 1 } = _; rw [← HDP.out])
    go_enter Tryz.func35, Tryz.ntmps35
    go_wp2_with fail
    go_ret
    rw [HT.out]
    exact ⟨by show Ending.returned (Value.bool false) = Ending.returned (.bool (decide (σ.code = 0))); rw [← HCD.out, decide_eq_false hz], h.out.setDeep (dp + 1), RK.set 4 _⟩
end Go.Proofs.YtlbhlncipajapaaGreatDoor
namespace Go.Proofs.YtlbhlncipajapaaGreatDoor
open Go.RowKit Lx

/-- the rules' contracts, for so many calls in one another -/
structure FC (b g cap : Nat) (dv : Value) (ts : List Tok) (xb : Nat → Prop) (f : Nat) : Prop where
  expr : ∀ σ v l τ, runE ts f .expr σ = some (v, l, τ) → ∀ W, Hid (Rd W b g cap dv ts xb σ) → Calls Tryz.prog 18 #[.pointer (some ⟨b, 0, none⟩)] W fun r Y => RdRet b g cap dv ts xb W (.int .i64 v) τ r Y
  pre : ∀ σ v l τ, runE ts f .pre σ = some (v, l, τ) → ∀ W, Hid (Rd W b g cap dv ts xb σ) → Calls Tryz.prog 71 #[.pointer (some ⟨b, 0, none⟩)] W fun r Y => RdRet b g cap dv ts xb W (.int .i64 v) τ r Y
  atom : ∀ σ v l τ, σ.code = 0 → runE ts f .atom σ = some (v, l, τ) → ∀ W, Hid (Rd W b g cap dv ts xb σ) → Calls Tryz.prog 90 #[.pointer (some ⟨b, 0, none⟩)] W fun r Y => RdRet b g cap dv ts xb W (.int .i64 v) τ r Y
  bin : ∀ (least : Nat), 1 ≤ least → least ≤ 6 → ∀ σ v l τ, runE ts f (.bin least) σ = some (v, l, τ) → ∀ W, Hid (Rd W b g cap dv ts xb σ) → Calls Tryz.prog 39 #[.pointer (some ⟨b, 0, none⟩), .int .i64 (least : Int)] W fun r Y => RdRet b g cap dv ts xb W (.int .i64 v) τ r Y
theorem okS_iff {σ : RS} : okS σ = true ↔ σ.exprs.length ≤ 40000 ∧ 0 ≤ σ.deep ∧ σ.deep ≤ 30 := by unfold okS; simp
theorem level_kind {ts : List Tok} {σ : RS} {n : Nat} (hn : 1 ≤ n) (h : (levelS ts σ).1 = (n : Int)) : (tokL ts σ.at_).kind ≠ 5 := by
  unfold levelS levelIn at h
  cases hf : levelsL.find? fun p => isS ts p.1 σ with
  | none => rw [hf] at h; simp at h; omega
  | some p => exact (isS_kind (by simpa using List.find?_some hf)).1
theorem level_code {ts : List Tok} {σ : RS} {n : Nat} (hn : 1 ≤ n) (h : (levelS ts σ).1 = (n : Int)) : ∃ s, isS ts s σ = true := by
  unfold levelS levelIn at h
  cases hf : levelsL.find? fun p => isS ts p.1 σ with
  | none => rw [hf] at h; simp at h; omega
  | some p => exact ⟨p.1, by simpa using List.find?_some hf⟩
/-- the expression of two parts -/
def twoE (k a b : Int) (p : Nat) : Ex := { ex0 with kind := k, a := a, b := b, pos := (p : Int) }
theorem loop_cases {ts : List Tok} {n least : Nat} {a : Int} {σ : RS} {R : Int × List Int × RS} (h : runE ts n (.loop least a) σ = some R) :
    ∃ m, n = m + 1 ∧ ((σ.code ≠ 0 ∧ R = (a, [], σ)) ∨ (σ.code = 0 ∧ (levelS ts σ).1 ≠ (least : Int) ∧ R = (a, [], σ)) ∨
      (σ.code = 0 ∧ (levelS ts σ).1 = (least : Int) ∧ ∃ bv lb τ, runE ts m (.bin (least + 1)) (stepS σ) = some (bv, lb, τ) ∧ okS τ = true ∧
        ((least = 3 ∧ R = ((τ.exprs.length : Int), [], putS (twoE (levelS ts σ).2 a bv (tokL ts σ.at_).at_) τ)) ∨ (least ≠ 3 ∧ runE ts m (.loop least (τ.exprs.length : Int)) (putS (twoE (levelS ts σ).2 a bv (tokL ts σ.at_).at_) τ) = some R)))) := by
  cases n with
  | zero => cases h
  | succ m =>
    refine ⟨m, rfl, ?_⟩
    simp only [runE] at h
    split at h
    · unfold loopG at h
      split at h
      · rename_i h0
        split at h
        · rename_i hl
          refine .inr (.inr ⟨h0, hl, ?_⟩)
          cases hb : runE ts m (.bin (least + 1)) (stepS σ) with
          | none => rw [hb] at h; cases h
          | some q =>
            obtain ⟨bv, lb, τ⟩ := q
            rw [hb] at h
            simp only [Option.bind_some] at h
            unfold putA at h
            split at h
            · rename_i hok
              refine ⟨bv, lb, τ, rfl, hok, ?_⟩
              split at h
              · rename_i h3
                exact .inl ⟨h3, (Option.some.inj h).symm⟩
              · rename_i h3
                exact .inr ⟨h3, h⟩
            · cases h
        · rename_i hl
          exact .inr (.inl ⟨h0, hl, (Option.some.inj h).symm⟩)
      · rename_i h0
        exact .inl ⟨h0, (Option.some.inj h).symm⟩
    · cases h
theorem least_of {α : Type} (P : Nat → α → Prop) : ∃ m : α → Nat, ∀ x, (∃ n, P n x) → P (m x) x ∧ ∀ k, P k x → m x ≤ k := by
  have key : ∀ x, ∃ n, (∃ n, P n x) → P n x ∧ ∀ k, P k x → n ≤ k := fun x => by
    by_cases h : ∃ n, P n x
    · obtain ⟨n, hn⟩ := h
      induction n using Nat.strongRecOn with
      | ind n ih =>
        by_cases h2 : ∃ k, k < n ∧ P k x
        · obtain ⟨k, hk, hp⟩ := h2
          exact ih k hk hp
        · exact ⟨n, fun _ => ⟨hn, fun k hk => Nat.le_of_not_lt fun hlt => h2 ⟨k, hlt, hk⟩⟩⟩
    · exact ⟨0, fun h2 => absurd h2 h⟩
  exact ⟨fun x => (key x).choose, fun x => (key x).choose_spec⟩
/-- the value of a put expression without arguments -/
theorem put_two (b g cap : Nat) (dv : Value) (ts : List Tok) (xb : Nat → Prop) (τ : RS) (k x y : Int) (p : Nat) (W : World) (h : Hid (Rd W b g cap dv ts xb τ)) (hok : okS τ = true) :
    Calls Tryz.prog 38 #[.pointer (some ⟨b, 0, none⟩), .agg #[.int .i64 k, .int .i64 x, .int .i64 y, .int .i64 0, .string ⟨#[]⟩, .string ⟨#[]⟩, .int .i64 0, .slice none 0 0, .int .i64 (p : Int)]] W fun r Y => RdRet b g cap dv ts xb W (.int .i64 (τ.exprs.length : Int)) (putS (twoE k x y p) τ) r Y :=
  put_any b g cap dv ts xb τ (twoE k x y p) none 0 0 W h (okS_iff.1 hok).1 (Lib.hid (World.ownsRow_nil _ _ _ _)) (Lib.hid fun k hk => by cases hk)
end Go.Proofs.YtlbhlncipajapaaGreatDoor
