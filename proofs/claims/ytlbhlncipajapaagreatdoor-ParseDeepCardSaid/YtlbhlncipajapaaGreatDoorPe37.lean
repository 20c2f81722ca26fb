/- Joined: CdRead4, CdRead5, CdRead6. -/
import Derived.Test.YtlbhlncipajapaaGreatDoorPe36
namespace Go.Proofs.YtlbhlncipajapaaGreatDoor
open Go.RowKit Lx
set_option linter.unusedVariables false

set_option maxHeartbeats 8000000 in
set_option maxRecDepth 20000 in
theorem read_more (l : List UInt8) (ts : List Tok) (ht : lexT l ts none) (hl : l.length ≤ 20000) (f : Nat) (τ : RS) (v : Int) (l0 : List Int) (hr : runE (ts ++ [endT l.length]) f .expr rs0 = some (v, l0, τ)) (hz : τ.code = 0) (h5 : ¬ (tokL (ts ++ [endT l.length]) τ.at_).kind = 5) (W : World) (hS : Signs W) :
    Calls Tryz.prog 15 #[.string (str l), .func (.func 25) #[] #[]] W fun r Y => r = .returned (.tuple #[.agg #[.slice none 0 0, .slice none 0 0], .agg #[.int .i64 2, .int .i64 ((tokL (ts ++ [endT l.length]) τ.at_).at_ : Int)]]) ∧ Below W.heap.size W Y := by
  obtain ⟨P, hP⟩ : ∃ P : Int, P = ((tokL (ts ++ [endT l.length]) τ.at_).at_ : Int) := ⟨_, rfl⟩
  rw [← hP]
  obtain ⟨c2, hc2⟩ : ∃ c2 : Int, c2 = 2 := ⟨_, rfl⟩
  rw [← hc2]
  obtain ⟨us, hus⟩ : ∃ us, us = ts ++ [endT l.length] := ⟨_, rfl⟩
  have hlen : us.length = ts.length + 1 := by rw [hus, List.length_append]; rfl
  obtain ⟨n, hn⟩ : ∃ n, n = us.length := ⟨_, rfl⟩
  have hts : ts.length ≤ 20000 := by have hcnt := toks_count ht; have g1 := gapTo_le false (Nat.zero_le l.length); omega
  have HE : Hid (EndOk us ∧ TxOk us ∧ us.length ≤ 40000) := Lib.hid ⟨by rw [hus]; exact end_ok ht _, by rw [hus]; exact lexed_tx ht _, by omega⟩
  obtain ⟨W2, hW2⟩ : ∃ W2, W2 = (W.alloc (.cells #[.slice none 0 0, .slice none 0 0] 26)).alloc (.cells #[.int .i64 0, .int .i64 0] 29) := ⟨_, rfl⟩
  have hb2 : Below W.heap.size W W2 := by rw [hW2]; exact ((Below.refl _ _).alloc (Nat.le_refl _) _).alloc (by simp) _
  have hs2 : W2.heap.size = W.heap.size + 2 := by rw [hW2]; simp
  have LX : Hid (Calls Tryz.prog 31 #[.string (str l)] W2 fun r Y => ∃ g cap, r = .returned (.tuple #[.slice (some ⟨g, 0, none⟩) n cap, .agg #[.int .i64 0, .int .i64 0]]) ∧ Hid (Below W2.heap.size W2 Y ∧ RowAt Y g us ∧ W2.heap.size ≤ g ∧ n ≤ cap)) := Lib.hid ((lex_any l ts none ht W2 (hS.below hb2)).mono fun e w' ⟨v, c, f', he, hb, h⟩ => by
    rcases h with ⟨h1, _⟩ | ⟨_, _, rfl, rfl, h2⟩ | ⟨_, g, h2, _⟩
    · omega
    · obtain ⟨g', cap', rfl⟩ := ownsRow_succ h2
      have hlt := h2.lt g' rfl
      rw [← hus] at h2
      refine ⟨g', cap', by rw [he, hn, hlen], Lib.hid ⟨hb, ⟨hlt.2, fun i t hi => ?_⟩, hlt.1, by rw [hn, hlen]; exact capL h2⟩⟩
      obtain ⟨h1, h3, h4, h5⟩ := tokCells_at hi
      exact ⟨row_cells h2 _ _ h1, row_cells h2 _ _ h3, row_cells h2 _ _ h4, row_cells h2 _ _ h5⟩
    · cases h2)
  have EX : Hid (∀ w b g cap, Hid (Cd w b g cap (.slice none 0 0) us (fun _ => False) rs0) → Calls Tryz.prog 25 #[.pointer (some ⟨b, 0, none⟩)] w fun r Y => CdOk b g cap (.slice none 0 0) us (fun _ => False) w (.tuple #[]) τ r Y) := Lib.hid fun w b g cap h => (expr_fn b g cap _ us _ f rs0 τ v l0 rfl (by rw [hus]; exact hr) w h).mono fun r Y hh => hh.ok hz
  have WE : Hid (∀ w b g cap, Hid (Cd w b g cap (.slice none 0 0) us (fun _ => False) τ) → Calls Tryz.prog 33 #[.pointer (some ⟨b, 0, none⟩), .int .i64 5] w fun r Y => r = .panicked [{ v := refusalV c2 P, recovered := false }] ∧ Hid (RX b (fun _ => False) w Y)) := Lib.hid fun w b g cap h => (want_end b g cap _ us _ τ w h hz).mono fun r Y hh => by
    rcases hh.2 with ⟨e5, _⟩ | ⟨_, e5⟩
    · rw [hus] at e5; exact absurd e5 h5
    · rw [hc2, hP, ← hus]; exact ⟨e5, Lib.hid hh.1⟩
  have HA : Hid (W2.heap[W.heap.size + 1]? = some (.cells #[.int .i64 0, .int .i64 0] 29 (0, 0))) := Lib.hid (by rw [hW2]; simpa using heap_alloc_new (W.alloc (.cells #[.slice none 0 0, .slice none 0 0] 26)) (.cells #[.int .i64 0, .int .i64 0] 29))
  have HP : Hid (W2.heap[W.heap.size]? = some (.cells #[.slice none 0 0, .slice none 0 0] 26 (0, 0))) := Lib.hid (by
    rw [hW2, ((Below.refl _ _).alloc (Nat.le_refl _) _ : Below (W.alloc (.cells #[.slice none 0 0, .slice none 0 0] 26)).heap.size _ _).block _ (by simp)]
    exact heap_alloc_new _ _)
  have HB2 := Lib.hid hb2
  have MF := runF
  clear hr hlen hus hts hS hb2 hz ht hP h5 hc2
  have HN := Lib.hid hn
  clear hn
  go_enter_defers Tryz.func15, Tryz.ntmps15
  go_wp2_with (first
    | (go_at_call 31; rw [← hW2]; clear hW2; (with_reducible refine LX.out.mono ?_); rintro e w3 ⟨g, cap, rfl, h3⟩; have HA3 := Lib.hid ((h3.out.1.block _ (heap_lt HA.out)).trans HA.out); have d0 : w3.cell? ⟨W.heap.size + 1, 0, none⟩ = some (.int .i64 0) := (by simp [World.cell?, HA3.out]); have d1 : w3.cell? ⟨W.heap.size + 1, 1, none⟩ = some (.int .i64 0) := (by simp [World.cell?, HA3.out]); have z0 : w3.frozen? ⟨W.heap.size + 1, 0, none⟩ = false := (by simp [World.frozen?, HA3.out]); have z1 : w3.frozen? ⟨W.heap.size + 1, 1, none⟩ = false := (by simp [World.frozen?, HA3.out])))
  obtain ⟨X, hX⟩ : ∃ X, X = (w3.setCell ⟨W.heap.size + 1, 0, none⟩ (.int .i64 0)).setCell ⟨W.heap.size + 1, 1, none⟩ (.int .i64 0) := ⟨_, rfl⟩
  have hxs : w3.heap.size = X.heap.size := by rw [hX]; simp
  have hbu : But (W.heap.size + 1) w3 X := by rw [hX]; exact ((But.refl _ _).set 0 _).set 1 _
  have hfx : X.heap[W.heap.size + 1]? = some (.cells #[.int .i64 0, .int .i64 0] 29 (0, 0)) := by rw [hX, set_blk (set_blk HA3.out 0 (.int .i64 0)) 1 (.int .i64 0)]; rfl
  obtain ⟨h31, h32, h33, h34⟩ := h3.out
  have hpx : X.heap[W.heap.size]? = some (.cells #[.slice none 0 0, .slice none 0 0] 26 (0, 0)) := (hbu.block _ (by omega) (Nat.lt_of_lt_of_le (heap_lt HP.out) h31.size)).trans ((h31.block _ (heap_lt HP.out)).trans HP.out)
  have hrx : RowAt X g us := row_low h32 (hbu.block g (by omega) h32.1)
  rw [← hX, hxs]
  obtain ⟨Z, hZ⟩ : ∃ Z, Z = X.alloc (.cells #[.slice (some ⟨g, 0, none⟩) n cap, .slice none 0 0, .slice none 0 0, .int .i64 0] 78) := ⟨_, rfl⟩
  have HZ : Hid (Cd Z X.heap.size g cap (.slice none 0 0) us (fun _ => False) rs0) := Lib.hid (by
    obtain rfl := HN.out
    rw [hZ]; exact cd_new hrx HE.out.2.2 h34 HE.out.1 HE.out.2.1)
  have hbz : Below X.heap.size X Z := by rw [hZ]; exact (Below.refl _ _).alloc (Nat.le_refl _) _
  have hfz := (hbz.block _ (heap_lt hfx)).trans hfx
  have hpz := (hbz.block _ (heap_lt hpx)).trans hpx
  have hx1 := heap_lt hfx
  rw [← hZ]
  refine (EX.out Z _ g cap HZ).mono ?_
  rintro e w4 ⟨rfl, hr4, hk4⟩
  dsimp only
  clear hX hxs hZ
  go_wp2_with (go_at_call 33; (with_reducible refine (WE.out _ _ _ _ hr4).mono ?_); rintro e w5 ⟨rfl, hk4'⟩)
  have hk5 := Lib.hid (hk4.out.trans hk4'.out)
  have hf5 := hk5.out.keep _ _ hfz (by omega) (fun cs e => by cases e)
  have hp5 := hk5.out.keep _ _ hpz (by omega) (fun cs e => by cases e)
  refine leaves_cons (f := 32) (args := #[.pointer (some ⟨W.heap.size + 1, 0, none⟩)]) (by simp) (by simp [go_sem]) ?_
  refine (catch_panicking (W.heap.size + 1) c2 P _ _ w5 hf5).mono ?_
  rintro e u' w6 ⟨rfl, rfl, hf6, hb6⟩
  have hp6 := (hb6.block _ (by omega) (heap_lt hp5)).trans hp5
  have f0 : w6.cell? ⟨W.heap.size + 1, 0, none⟩ = some (.int .i64 c2) := by simp [World.cell?, hf6]
  have f1 : w6.cell? ⟨W.heap.size + 1, 1, none⟩ = some (.int .i64 P) := by simp [World.cell?, hf6]
  have p0 : w6.cell? ⟨W.heap.size, 0, none⟩ = some (.slice none 0 0) := by simp [World.cell?, hp6]
  have p1 : w6.cell? ⟨W.heap.size, 1, none⟩ = some (.slice none 0 0) := by simp [World.cell?, hp6]
  have h32s := h31.size
  have hfin : Below W.heap.size W w6 := below_chain HB2.out (by omega) h31 (by omega) hbu (by omega) hbz (by omega) hk5.out.rk hb6
  simp [Leaves, settle, results, Tryz.results15, go_sem, f0, f1, p0, p1, hfin]
end Go.Proofs.YtlbhlncipajapaaGreatDoor
namespace Go.Proofs.YtlbhlncipajapaaGreatDoor
open Go.RowKit Lx
set_option linter.unusedVariables false

set_option maxHeartbeats 8000000 in
set_option maxRecDepth 20000 in
theorem read_ok (l : List UInt8) (ts : List Tok) (ht : lexT l ts none) (hl : l.length ≤ 20000) (f : Nat) (τ : RS) (v : Int) (l0 : List Int) (hr : runE (ts ++ [endT l.length]) f .expr rs0 = some (v, l0, τ)) (hz : τ.code = 0) (h5 : (tokL (ts ++ [endT l.length]) τ.at_).kind = 5) (W : World) (hS : Signs W) :
    Calls Tryz.prog 15 #[.string (str l), .func (.func 25) #[] #[]] W fun r Y => ∃ o c, r = .returned (.tuple #[.agg #[.slice none 0 0, .slice o τ.exprs.length c], .agg #[.int .i64 0, .int .i64 0]]) ∧ Below W.heap.size W Y ∧ ExsOwn Y W.heap.size (fun _ => False) (.slice o τ.exprs.length c) τ.exprs := by
  obtain ⟨L, hL⟩ : ∃ L, L = τ.exprs.length := ⟨_, rfl⟩
  rw [← hL]
  obtain ⟨us, hus⟩ : ∃ us, us = ts ++ [endT l.length] := ⟨_, rfl⟩
  have hlen : us.length = ts.length + 1 := by rw [hus, List.length_append]; rfl
  obtain ⟨n, hn⟩ : ∃ n, n = us.length := ⟨_, rfl⟩
  have hts : ts.length ≤ 20000 := by have hcnt := toks_count ht; have g1 := gapTo_le false (Nat.zero_le l.length); omega
  have HE : Hid (EndOk us ∧ TxOk us ∧ us.length ≤ 40000) := Lib.hid ⟨by rw [hus]; exact end_ok ht _, by rw [hus]; exact lexed_tx ht _, by omega⟩
  obtain ⟨W2, hW2⟩ : ∃ W2, W2 = (W.alloc (.cells #[.slice none 0 0, .slice none 0 0] 26)).alloc (.cells #[.int .i64 0, .int .i64 0] 29) := ⟨_, rfl⟩
  have hb2 : Below W.heap.size W W2 := by rw [hW2]; exact ((Below.refl _ _).alloc (Nat.le_refl _) _).alloc (by simp) _
  have hs2 : W2.heap.size = W.heap.size + 2 := by rw [hW2]; simp
  have LX : Hid (Calls Tryz.prog 31 #[.string (str l)] W2 fun r Y => ∃ g cap, r = .returned (.tuple #[.slice (some ⟨g, 0, none⟩) n cap, .agg #[.int .i64 0, .int .i64 0]]) ∧ Hid (Below W2.heap.size W2 Y ∧ RowAt Y g us ∧ W2.heap.size ≤ g ∧ n ≤ cap)) := Lib.hid ((lex_any l ts none ht W2 (hS.below hb2)).mono fun e w' ⟨v, c, f', he, hb, h⟩ => by
    rcases h with ⟨h1, _⟩ | ⟨_, _, rfl, rfl, h2⟩ | ⟨_, g, h2, _⟩
    · omega
    · obtain ⟨g', cap', rfl⟩ := ownsRow_succ h2
      have hlt := h2.lt g' rfl
      rw [← hus] at h2
      refine ⟨g', cap', by rw [he, hn, hlen], Lib.hid ⟨hb, ⟨hlt.2, fun i t hi => ?_⟩, hlt.1, by rw [hn, hlen]; exact capL h2⟩⟩
      obtain ⟨h1, h3, h4, h5⟩ := tokCells_at hi
      exact ⟨row_cells h2 _ _ h1, row_cells h2 _ _ h3, row_cells h2 _ _ h4, row_cells h2 _ _ h5⟩
    · cases h2)
  have EX : Hid (∀ w b g cap, Hid (Cd w b g cap (.slice none 0 0) us (fun _ => False) rs0) → Calls Tryz.prog 25 #[.pointer (some ⟨b, 0, none⟩)] w fun r Y => CdOk b g cap (.slice none 0 0) us (fun _ => False) w (.tuple #[]) τ r Y) := Lib.hid fun w b g cap h => (expr_fn b g cap _ us _ f rs0 τ v l0 rfl (by rw [hus]; exact hr) w h).mono fun r Y hh => hh.ok hz
  obtain ⟨tv, htv⟩ : ∃ tv, tv = tokV (tokL us τ.at_) := ⟨_, rfl⟩
  have WE : Hid (∀ w b g cap, Hid (Cd w b g cap (.slice none 0 0) us (fun _ => False) τ) → Calls Tryz.prog 33 #[.pointer (some ⟨b, 0, none⟩), .int .i64 5] w fun r Y => r = .returned tv ∧ (∃ s d o c, Hid (Y.heap[b]? = some (.cells #[s, .slice none 0 0, .slice o L c, .int .i64 d] 78 (0, 0))) ∧ Hid (ExsOwn Y b (fun _ => False) (.slice o L c) τ.exprs)) ∧ Hid (RX b (fun _ => False) w Y)) := Lib.hid fun w b g cap h => (want_end b g cap _ us _ τ w h hz).mono fun r Y hh => by
    rcases hh.2 with ⟨_, e5, s, d, o, c, e6, e7⟩ | ⟨e5, _⟩
    · exact ⟨by rw [htv]; exact e5, ⟨s, d, o, c, Lib.hid (by rw [hL]; exact e6), Lib.hid (by rw [hL]; exact e7)⟩, Lib.hid hh.1⟩
    · rw [hus] at e5; exact absurd h5 e5
  have HA : Hid (W2.heap[W.heap.size + 1]? = some (.cells #[.int .i64 0, .int .i64 0] 29 (0, 0))) := Lib.hid (by rw [hW2]; simpa using heap_alloc_new (W.alloc (.cells #[.slice none 0 0, .slice none 0 0] 26)) (.cells #[.int .i64 0, .int .i64 0] 29))
  have HP : Hid (W2.heap[W.heap.size]? = some (.cells #[.slice none 0 0, .slice none 0 0] 26 (0, 0))) := Lib.hid (by
    rw [hW2, ((Below.refl _ _).alloc (Nat.le_refl _) _ : Below (W.alloc (.cells #[.slice none 0 0, .slice none 0 0] 26)).heap.size _ _).block _ (by simp)]
    exact heap_alloc_new _ _)
  have HB2 := Lib.hid hb2
  have MF := runF
  clear hr hlen hus hts hS hb2 hz ht h5 htv
  have HL := Lib.hid hL
  clear hL
  have HN := Lib.hid hn
  clear hn
  go_enter_defers Tryz.func15, Tryz.ntmps15
  go_wp2_with (first
    | (go_at_call 31; rw [← hW2]; clear hW2; (with_reducible refine LX.out.mono ?_); rintro e w3 ⟨g, cap, rfl, h3⟩; have HA3 := Lib.hid ((h3.out.1.block _ (heap_lt HA.out)).trans HA.out); have d0 : w3.cell? ⟨W.heap.size + 1, 0, none⟩ = some (.int .i64 0) := (by simp [World.cell?, HA3.out]); have d1 : w3.cell? ⟨W.heap.size + 1, 1, none⟩ = some (.int .i64 0) := (by simp [World.cell?, HA3.out]); have z0 : w3.frozen? ⟨W.heap.size + 1, 0, none⟩ = false := (by simp [World.frozen?, HA3.out]); have z1 : w3.frozen? ⟨W.heap.size + 1, 1, none⟩ = false := (by simp [World.frozen?, HA3.out])))
  obtain ⟨X, hX⟩ : ∃ X, X = (w3.setCell ⟨W.heap.size + 1, 0, none⟩ (.int .i64 0)).setCell ⟨W.heap.size + 1, 1, none⟩ (.int .i64 0) := ⟨_, rfl⟩
  have hxs : w3.heap.size = X.heap.size := by rw [hX]; simp
  have hbu : But (W.heap.size + 1) w3 X := by rw [hX]; exact ((But.refl _ _).set 0 _).set 1 _
  have hfx : X.heap[W.heap.size + 1]? = some (.cells #[.int .i64 0, .int .i64 0] 29 (0, 0)) := by rw [hX, set_blk (set_blk HA3.out 0 (.int .i64 0)) 1 (.int .i64 0)]; rfl
  obtain ⟨h31, h32, h33, h34⟩ := h3.out
  have hpx : X.heap[W.heap.size]? = some (.cells #[.slice none 0 0, .slice none 0 0] 26 (0, 0)) := (hbu.block _ (by omega) (Nat.lt_of_lt_of_le (heap_lt HP.out) h31.size)).trans ((h31.block _ (heap_lt HP.out)).trans HP.out)
  have hrx : RowAt X g us := row_low h32 (hbu.block g (by omega) h32.1)
  rw [← hX, hxs]
  obtain ⟨Z, hZ⟩ : ∃ Z, Z = X.alloc (.cells #[.slice (some ⟨g, 0, none⟩) n cap, .slice none 0 0, .slice none 0 0, .int .i64 0] 78) := ⟨_, rfl⟩
  have HZ : Hid (Cd Z X.heap.size g cap (.slice none 0 0) us (fun _ => False) rs0) := Lib.hid (by
    obtain rfl := HN.out
    rw [hZ]; exact cd_new hrx HE.out.2.2 h34 HE.out.1 HE.out.2.1)
  have hbz : Below X.heap.size X Z := by rw [hZ]; exact (Below.refl _ _).alloc (Nat.le_refl _) _
  have hfz := (hbz.block _ (heap_lt hfx)).trans hfx
  have hpz := (hbz.block _ (heap_lt hpx)).trans hpx
  have hx1 := heap_lt hfx
  rw [← hZ]
  refine (EX.out Z _ g cap HZ).mono ?_
  rintro e w4 ⟨rfl, hr4, hk4⟩
  dsimp only
  clear hX hxs hZ
  go_wp2_with (go_at_call 33; (with_reducible refine (WE.out _ _ _ _ hr4).mono ?_); rintro e w5 ⟨rfl, ⟨s, d, o, c, hb5, hx5⟩, hk4'⟩; have hk5 := Lib.hid (hk4.out.trans hk4'.out); have hf5 := Lib.hid (hk5.out.keep _ _ hfz (by omega) (fun cs e => by cases e)); have hp5 := Lib.hid (hk5.out.keep _ _ hpz (by omega) (fun cs e => by cases e)); obtain ⟨⟨b0, b1, b2, b3⟩, bf⟩ := four_of hb5.out; clear b0 b3 bf; have p0 : w5.cell? ⟨W.heap.size, 0, none⟩ = some (.slice none 0 0) := (by simp [World.cell?, hp5.out]); have p1 : w5.cell? ⟨W.heap.size, 1, none⟩ = some (.slice none 0 0) := (by simp [World.cell?, hp5.out]); have f0 : w5.cell? ⟨W.heap.size + 1, 0, none⟩ = some (.int .i64 0) := (by simp [World.cell?, hf5.out]); have f1 : w5.cell? ⟨W.heap.size + 1, 1, none⟩ = some (.int .i64 0) := (by simp [World.cell?, hf5.out]); have y0 : w5.frozen? ⟨W.heap.size, 0, none⟩ = false := (by simp [World.frozen?, hp5.out]); have y1 : w5.frozen? ⟨W.heap.size, 1, none⟩ = false := (by simp [World.frozen?, hp5.out]); have y2 : w5.frozen? ⟨W.heap.size + 1, 0, none⟩ = false := (by simp [World.frozen?, hf5.out]); have y3 : w5.frozen? ⟨W.heap.size + 1, 1, none⟩ = false := (by simp [World.frozen?, hf5.out]))
  obtain ⟨V, hV⟩ : ∃ V, V = (((w5.setCell ⟨W.heap.size, 0, none⟩ (.slice none 0 0)).setCell ⟨W.heap.size, 1, none⟩ (.slice o L c)).setCell ⟨W.heap.size + 1, 0, none⟩ (.int .i64 0)).setCell ⟨W.heap.size + 1, 1, none⟩ (.int .i64 0) := ⟨_, rfl⟩
  obtain ⟨V1, hV1⟩ : ∃ V1, V1 = (w5.setCell ⟨W.heap.size, 0, none⟩ (.slice none 0 0)).setCell ⟨W.heap.size, 1, none⟩ (.slice o L c) := ⟨_, rfl⟩
  have n1 : But W.heap.size w5 V1 := by rw [hV1]; exact ((But.refl _ _).set 0 _).set 1 _
  have n2 : But (W.heap.size + 1) V1 V := by rw [hV, ← hV1]; exact ((But.refl _ _).set 0 _).set 1 _
  have a1 : V1.heap[W.heap.size]? = some (.cells #[.slice none 0 0, .slice o L c] 26 (0, 0)) := by rw [hV1, set_blk (set_blk hp5.out 0 (.slice none 0 0)) 1 (.slice o L c)]; rfl
  have a2 := (n2.block _ (by omega) (heap_lt a1)).trans a1
  have a3 : V1.heap[W.heap.size + 1]? = some (.cells #[.int .i64 0, .int .i64 0] 29 (0, 0)) := (n1.block _ (by omega) (heap_lt hf5.out)).trans hf5.out
  have a4 : V.heap[W.heap.size + 1]? = some (.cells #[.int .i64 0, .int .i64 0] 29 (0, 0)) := by rw [hV, ← hV1, set_blk (set_blk a3 0 (.int .i64 0)) 1 (.int .i64 0)]; rfl
  rw [← hV]
  clear hV hV1
  refine leaves_cons (f := 32) (args := #[.pointer (some ⟨W.heap.size + 1, 0, none⟩)]) (by simp) (by simp [go_sem]) ?_
  refine (catch_idle (W.heap.size + 1) V).mono ?_
  rintro e u' w6 ⟨rfl, rfl, hb6⟩
  have hp6 := (hb6.block _ (heap_lt a2)).trans a2
  have hf6 := (hb6.block _ (heap_lt a4)).trans a4
  have g0 : w6.cell? ⟨W.heap.size + 1, 0, none⟩ = some (.int .i64 0) := by simp [World.cell?, hf6]
  have g1 : w6.cell? ⟨W.heap.size + 1, 1, none⟩ = some (.int .i64 0) := by simp [World.cell?, hf6]
  have g2 : w6.cell? ⟨W.heap.size, 0, none⟩ = some (.slice none 0 0) := by simp [World.cell?, hp6]
  have g3 : w6.cell? ⟨W.heap.size, 1, none⟩ = some (.slice o L c) := by simp [World.cell?, hp6]
  have h32s := h31.size
  have s1 := n1.size
  have s2 := n2.size
  have hw5 : Below W.heap.size W w5 := below_chain HB2.out (by omega) h31 (by omega) hbu (by omega) hbz (by omega) hk5.out.rk (But.refl _ _)
  have hfin : Below W.heap.size W w6 := by
    have sw := hw5.size
    refine ⟨hb6.os.trans (n2.os.trans (n1.os.trans hw5.os)), hb6.tape.trans (n2.tape.trans (n1.tape.trans hw5.tape)), hb6.output.trans (n2.output.trans (n1.output.trans hw5.output)), by have := hb6.size; omega, fun k hk => ?_⟩
    rw [hb6.block k (by omega), n2.block k (by omega) (by omega), n1.block k (by omega) (by omega), hw5.block k hk]
  have hown : ExsOwn w6 W.heap.size (fun _ => False) (.slice o L c) τ.exprs := (hx5.out.same fun k h1 h2 => by
    rw [hb6.block k (by omega), n2.block k (by omega) (by omega), n1.block k (by omega) h2]).base (by omega)
  simp only [Leaves, settle]
  simp [results, Tryz.results15, go_sem, g0, g1, g2, g3]
  exact ⟨o, c, ⟨rfl, rfl⟩, hfin, hown⟩
end Go.Proofs.YtlbhlncipajapaaGreatDoor
namespace Go.Proofs.YtlbhlncipajapaaGreatDoor
open Go.RowKit Lx
set_option linter.unusedVariables false

set_option maxHeartbeats 8000000 in
set_option maxRecDepth 20000 in
theorem read_lex (s : ByteArray) (F : Value) (c f : Int) (hc : c ≠ 0) (W : World) (LX : Hid (∀ W2, Below W.heap.size W W2 → Calls Tryz.prog 31 #[.string s] W2 fun r Y => NoRow c f W2 r Y)) :
    Calls Tryz.prog 15 #[.string s, F] W fun r Y => r = .returned (.tuple #[.agg #[.slice none 0 0, .slice none 0 0], .agg #[.int .i64 c, .int .i64 f]]) ∧ Below W.heap.size W Y := by
  obtain ⟨W2, hW2⟩ : ∃ W2, W2 = (W.alloc (.cells #[.slice none 0 0, .slice none 0 0] 26)).alloc (.cells #[.int .i64 0, .int .i64 0] 29) := ⟨_, rfl⟩
  have hb2 : Below W.heap.size W W2 := by rw [hW2]; exact ((Below.refl _ _).alloc (Nat.le_refl _) _).alloc (by simp) _
  have hs2 : W2.heap.size = W.heap.size + 2 := by rw [hW2]; simp
  have hP : W2.heap[W.heap.size]? = some (.cells #[.slice none 0 0, .slice none 0 0] 26 (0, 0)) := by
    rw [hW2, heap_alloc_old _ _ (by simp)]; exact heap_alloc_new W _
  have hF : W2.heap[W.heap.size + 1]? = some (.cells #[.int .i64 0, .int .i64 0] 29 (0, 0)) := by
    have := heap_alloc_new (W.alloc (.cells #[.slice none 0 0, .slice none 0 0] 26)) (.cells #[.int .i64 0, .int .i64 0] 29)
    rw [World.size_alloc] at this
    rw [hW2]; exact this
  have L2 := Lib.hid (LX.out W2 hb2)
  have HB2 := Lib.hid hb2
  have HPF := Lib.hid (show _ ∧ _ from ⟨hP, hF⟩)
  have HS2 := Lib.hid hs2
  have q3 : (c != 0) = true := bne_iff_ne.2 hc
  have q4 : (c == 0) = false := beq_false_of_ne hc
  clear hb2 hs2 hP hF hc LX
  have AT : Hid (∀ w3, Below W2.heap.size W2 w3 → W.heap.size + 1 < w3.heap.size ∧ w3.heap[W.heap.size]? = some (.cells #[.slice none 0 0, .slice none 0 0] 26 (0, 0)) ∧ w3.heap[W.heap.size + 1]? = some (.cells #[.int .i64 0, .int .i64 0] 29 (0, 0))) := by
    refine Lib.hid fun w3 hb3 => ?_
    have h2 := HS2.out
    have h3 := hb3.size
    exact ⟨by omega, (hb3.block W.heap.size (by omega)).trans HPF.out.1, (hb3.block (W.heap.size + 1) (by omega)).trans HPF.out.2⟩
  go_enter_defers Tryz.func15, Tryz.ntmps15
  go_wp2_with (go_at_call 31; rw [← hW2]; clear hW2; (with_reducible refine L2.out.mono ?_); rintro e w3 ⟨rfl, hb3⟩; have HB3 := Lib.hid hb3; obtain ⟨hlt, hP, hF⟩ := AT.out w3 hb3; have HPP := Lib.hid (show _ ∧ _ from ⟨hP, hF⟩); have HLT := Lib.hid hlt; have d0 : w3.cell? ⟨W.heap.size + 1, 0, none⟩ = some (.int .i64 0) := (by simp [World.cell?, hF]); have d1 : w3.cell? ⟨W.heap.size + 1, 1, none⟩ = some (.int .i64 0) := (by simp [World.cell?, hF]); have z0 : w3.frozen? ⟨W.heap.size + 1, 0, none⟩ = false := (by simp [World.frozen?, hF]); have z1 : w3.frozen? ⟨W.heap.size + 1, 1, none⟩ = false := (by simp [World.frozen?, hF]); clear hb3 hP hF hlt)
  have hlt := HLT.out
  obtain ⟨X, hX⟩ : ∃ X, X = (w3.setCell ⟨W.heap.size + 1, 0, none⟩ (.int .i64 c)).setCell ⟨W.heap.size + 1, 1, none⟩ (.int .i64 f) := ⟨_, rfl⟩
  have hFX : X.heap[W.heap.size + 1]? = some (.cells #[.int .i64 c, .int .i64 f] 29 (0, 0)) := by rw [hX, set_blk (set_blk HPP.out.2 0 _) 1 _]; rfl
  have hPX : X.heap[W.heap.size]? = some (.cells #[.slice none 0 0, .slice none 0 0] 26 (0, 0)) := by
    rw [hX, Below.heap_setCell _ _ _ _ (by simp), Below.heap_setCell _ _ _ _ (by simp)]; exact HPP.out.1
  have hbX : Below W.heap.size W X := by
    have h := HB2.out.trans (HB3.out.mono (by have := HS2.out; omega))
    rw [hX]; exact (h.setCell (p := ⟨W.heap.size + 1, 0, none⟩) (Nat.le_succ _) _).setCell (p := ⟨W.heap.size + 1, 1, none⟩) (Nat.le_succ _) _
  rw [← hX]
  have p0' : X.cell? ⟨W.heap.size, 0, none⟩ = some (.slice none 0 0) := by simp [World.cell?, hPX]
  have p1' : X.cell? ⟨W.heap.size, 1, none⟩ = some (.slice none 0 0) := by simp [World.cell?, hPX]
  have p2' : X.frozen? ⟨W.heap.size, 0, none⟩ = false := by simp [World.frozen?, hPX]
  have p3' : X.frozen? ⟨W.heap.size, 1, none⟩ = false := by simp [World.frozen?, hPX]
  have u0' : X.cell? ⟨W.heap.size + 1, 0, none⟩ = some (.int .i64 c) := by simp [World.cell?, hFX]
  have u1' : X.cell? ⟨W.heap.size + 1, 1, none⟩ = some (.int .i64 f) := by simp [World.cell?, hFX]
  have u2' : X.frozen? ⟨W.heap.size + 1, 0, none⟩ = false := by simp [World.frozen?, hFX]
  have u3' : X.frozen? ⟨W.heap.size + 1, 1, none⟩ = false := by simp [World.frozen?, hFX]
  have HX := Lib.hid (show _ ∧ _ ∧ _ from ⟨hPX, hFX, hbX⟩)
  clear hX d0 d1 z0 z1 hFX hPX hbX
  have mixed : Tryz.prog.follows .mixedOrders = true := by kernel_rfl
  have late : Tryz.prog.follows .lateStores = true := by kernel_rfl
  go_region_o
  go_wp2_with fail
  obtain ⟨Y, hY⟩ : ∃ Y, Y = (((X.setCell ⟨W.heap.size, 0, none⟩ (.slice none 0 0)).setCell ⟨W.heap.size, 1, none⟩ (.slice none 0 0)).setCell ⟨W.heap.size + 1, 0, none⟩ (.int .i64 c)).setCell ⟨W.heap.size + 1, 1, none⟩ (.int .i64 f) := ⟨_, rfl⟩
  rw [← hY]
  have k1 : Y.drew.heap[W.heap.size]? = some (.cells #[.slice none 0 0, .slice none 0 0] 26 (0, 0)) := by
    show Y.heap[W.heap.size]? = _
    rw [hY, Below.heap_setCell _ _ _ _ (by simp), Below.heap_setCell _ _ _ _ (by simp), set_blk (set_blk HX.out.1 0 _) 1 _]; rfl
  have k2 : Y.drew.heap[W.heap.size + 1]? = some (.cells #[.int .i64 c, .int .i64 f] 29 (0, 0)) := by
    show Y.heap[W.heap.size + 1]? = _
    rw [hY, set_blk (set_blk (((Below.heap_setCell _ _ _ _ (by simp)).trans (Below.heap_setCell _ _ _ _ (by simp))).trans HX.out.2.1) 0 _) 1 _]; rfl
  have r0 : Y.drew.cell? ⟨W.heap.size, 0, none⟩ = some (.slice none 0 0) := by simp [World.cell?, k1]
  have r1 : Y.drew.cell? ⟨W.heap.size, 1, none⟩ = some (.slice none 0 0) := by simp [World.cell?, k1]
  have r2 : Y.drew.cell? ⟨W.heap.size + 1, 0, none⟩ = some (.int .i64 c) := by simp [World.cell?, k2]
  have r3 : Y.drew.cell? ⟨W.heap.size + 1, 1, none⟩ = some (.int .i64 f) := by simp [World.cell?, k2]
  have hbX : Below W.heap.size W Y := by
    rw [hY]
    exact (((HX.out.2.2.setCell (p := ⟨W.heap.size, 0, none⟩) (Nat.le_refl _) _).setCell (p := ⟨W.heap.size, 1, none⟩) (Nat.le_refl _) _).setCell (p := ⟨W.heap.size + 1, 0, none⟩) (Nat.le_succ _) _).setCell (p := ⟨W.heap.size + 1, 1, none⟩) (Nat.le_succ _) _
  have hbY : Below W.heap.size W Y.drew := hbX.trans (below_dr (Below.refl _ _) 1)

  simp [bodyPostD, Leaves, results, Tryz.results15, go_sem, r0, r1, r2, r3, hbY]
end Go.Proofs.YtlbhlncipajapaaGreatDoor
