/- Joined: CdExprFn, RgExpA, RgExpB. -/
import Derived.Test.YtlbhlncipajapaaGreatDoorPe37
import Derived.Test.YtlbhlncipajapaaGreatDoorPe26
namespace Go.Proofs.YtlbhlncipajapaaGreatDoor
open Go.RowKit Lx
set_option linter.unusedVariables false

/-- expressions alone come back, and a fault -/
def ReadX (es : List Ex) (cd f : Int) (W : World) (r : Ending) (Y : World) : Prop :=
  ∃ o c, r = .returned (.tuple #[.agg #[.slice none 0 0, .slice o es.length c], .agg #[.int .i64 cd, .int .i64 f]]) ∧ Below W.heap.size W Y ∧ ExsOwn Y W.heap.size (fun _ => False) (.slice o es.length c) es
/-- expressions alone come back, the last one's number, and a fault -/
def ExprX (es : List Ex) (cd f : Int) (W : World) (r : Ending) (Y : World) : Prop :=
  ∃ o c, r = .returned (.tuple #[.agg #[.slice none 0 0, .slice o es.length c], .int .i64 ((es.length - 1 : Nat) : Int), .agg #[.int .i64 cd, .int .i64 f]]) ∧ ExsOwn Y W.heap.size (fun _ => False) (.slice o es.length c) es ∧ Below W.heap.size W Y
theorem rg_two_boxes (w : World) (c d : Array Value) (S T : Nat) : ((w.alloc (.cells c S)).alloc (.cells d T)).heap[w.heap.size]? = some (.cells c S (0, 0)) ∧ ((w.alloc (.cells c S)).alloc (.cells d T)).heap[w.heap.size + 1]? = some (.cells d T (0, 0)) := by
  constructor
  · rw [heap_alloc_old _ _ (by simp)]; exact heap_alloc_new w _
  · have := heap_alloc_new (w.alloc (.cells c S)) (.cells d T)
    rw [World.size_alloc] at this
    exact this
set_option maxHeartbeats 8000000 in
set_option maxRecDepth 100000 in
theorem expr_call (s : ByteArray) (es : List Ex) (cd f : Int) (hl : es.length ≤ 40000) (W : World) (C : Hid (∀ W2, Below W.heap.size W W2 → Calls Tryz.prog 15 #[.string s, .func (.func 25) #[] #[]] W2 fun r Y => ReadX es cd f W2 r Y)) :
    Calls Tryz.prog 12 #[.string s] W fun r Y => ExprX es cd f W r Y := by
  obtain ⟨W2, hW2⟩ : ∃ W2, W2 = (W.alloc (.cells #[.slice none 0 0, .slice none 0 0] 26)).alloc (.cells #[.int .i64 0, .int .i64 0] 29) := ⟨_, rfl⟩
  have hb2 : Below W.heap.size W W2 := by rw [hW2]; exact ((Below.refl _ _).alloc (Nat.le_refl _) _).alloc (by simp) _
  have hs2 : W2.heap.size = W.heap.size + 2 := by rw [hW2]; simp
  have hP : W2.heap[W.heap.size]? = some (.cells #[.slice none 0 0, .slice none 0 0] 26 (0, 0)) := by
    rw [hW2, heap_alloc_old _ _ (by simp)]; exact heap_alloc_new W _
  have hF : W2.heap[W.heap.size + 1]? = some (.cells #[.int .i64 0, .int .i64 0] 29 (0, 0)) := by
    have := heap_alloc_new (W.alloc (.cells #[.slice none 0 0, .slice none 0 0] 26)) (.cells #[.int .i64 0, .int .i64 0] 29)
    rw [World.size_alloc] at this
    rw [hW2]; exact this
  obtain ⟨L, hL⟩ : ∃ L, L = es.length := ⟨_, rfl⟩
  have C2 : Hid (Calls Tryz.prog 15 #[.string s, .func (.func 25) #[] #[]] W2 fun r Y => ∃ o c, r = .returned (.tuple #[.agg #[.slice none 0 0, .slice o L c], .agg #[.int .i64 cd, .int .i64 f]]) ∧ Hid (Below W2.heap.size W2 Y ∧ ExsOwn Y W2.heap.size (fun _ => False) (.slice o L c) es)) := Lib.hid ((C.out W2 hb2).mono fun r Y ⟨o, c, h1, h2, h3⟩ => ⟨o, c, by rw [hL]; exact h1, Lib.hid ⟨h2, by rw [hL]; exact h3⟩⟩)
  have hL4 : (L : Int) ≤ 40000 := by omega
  have HL := Lib.hid hL
  have HB2 := Lib.hid hb2
  have HPF := Lib.hid (show _ ∧ _ from ⟨hP, hF⟩)
  have HS2 := Lib.hid hs2
  have M1 : IntKind.i64.wrap ((L : Int) - 1) = ((L : Int) - 1) := by rw [IntKind.wrap_i64]; omega
  clear hb2 hs2 hP hF C hL hl
  go_enter Tryz.func12, Tryz.ntmps12
  go_wp2_with (go_at_call 15; rw [← hW2]; clear hW2; (with_reducible refine C2.out.mono ?_); rintro e w3 ⟨o, c, rfl, h3⟩)
  obtain ⟨V, hV⟩ : ∃ V, V = (w3.alloc (.cells #[.slice none 0 0, .slice o L c] 26)).alloc (.cells #[.int .i64 cd, .int .i64 f] 29) := ⟨_, rfl⟩
  obtain ⟨v1, v2⟩ := rg_two_boxes w3 #[.slice none 0 0, .slice o L c] #[.int .i64 cd, .int .i64 f] 26 29
  have hbV : Below w3.heap.size w3 V := by rw [hV]; exact ((Below.refl _ _).alloc (Nat.le_refl _) _).alloc (by simp) _
  rw [← hV] at v1 v2 ⊢
  have h2 := HS2.out
  have h3s := h3.out.1.size
  have hPV : V.heap[W.heap.size]? = some (.cells #[.slice none 0 0, .slice none 0 0] 26 (0, 0)) := (hbV.block _ (by omega)).trans ((h3.out.1.block _ (by omega)).trans HPF.out.1)
  have hFV : V.heap[W.heap.size + 1]? = some (.cells #[.int .i64 0, .int .i64 0] 29 (0, 0)) := (hbV.block _ (by omega)).trans ((h3.out.1.block _ (by omega)).trans HPF.out.2)
  have p0' : V.cell? ⟨W.heap.size, 0, none⟩ = some (.slice none 0 0) := by simp [World.cell?, hPV]
  have p1' : V.cell? ⟨W.heap.size, 1, none⟩ = some (.slice none 0 0) := by simp [World.cell?, hPV]
  have p2' : V.frozen? ⟨W.heap.size, 0, none⟩ = false := by simp [World.frozen?, hPV]
  have p3' : V.frozen? ⟨W.heap.size, 1, none⟩ = false := by simp [World.frozen?, hPV]
  have u0' : V.cell? ⟨W.heap.size + 1, 0, none⟩ = some (.int .i64 0) := by simp [World.cell?, hFV]
  have u1' : V.cell? ⟨W.heap.size + 1, 1, none⟩ = some (.int .i64 0) := by simp [World.cell?, hFV]
  have u2' : V.frozen? ⟨W.heap.size + 1, 0, none⟩ = false := by simp [World.frozen?, hFV]
  have u3' : V.frozen? ⟨W.heap.size + 1, 1, none⟩ = false := by simp [World.frozen?, hFV]
  have a0 : V.cell? ⟨w3.heap.size, 0, none⟩ = some (.slice none 0 0) := by simp [World.cell?, v1]
  have a1 : V.cell? ⟨w3.heap.size, 1, none⟩ = some (.slice o L c) := by simp [World.cell?, v1]
  have a2 : V.cell? ⟨w3.heap.size + 1, 0, none⟩ = some (.int .i64 cd) := by simp [World.cell?, v2]
  have a3 : V.cell? ⟨w3.heap.size + 1, 1, none⟩ = some (.int .i64 f) := by simp [World.cell?, v2]
  have HV := Lib.hid (show _ ∧ _ ∧ _ from ⟨hPV, hFV, hbV⟩)
  have n1 : W.heap.size < w3.heap.size := by omega
  have n2 : W.heap.size + 1 < w3.heap.size := by omega
  clear hPV hFV hbV v1 v2 hV h2
  have mixed : Tryz.prog.follows .mixedOrders = true := by kernel_rfl
  have late : Tryz.prog.follows .lateStores = true := by kernel_rfl
  go_region_o
  go_wp2_with fail
  obtain ⟨Y, hY⟩ : ∃ Y, Y = (((V.setCell ⟨W.heap.size, 0, none⟩ (.slice none 0 0)).setCell ⟨W.heap.size, 1, none⟩ (.slice o L c)).setCell ⟨W.heap.size + 1, 0, none⟩ (.int .i64 cd)).setCell ⟨W.heap.size + 1, 1, none⟩ (.int .i64 f) := ⟨_, rfl⟩
  rw [← hY]
  have k1 : Y.drew.heap[W.heap.size]? = some (.cells #[.slice none 0 0, .slice o L c] 26 (0, 0)) := by
    show Y.heap[W.heap.size]? = _
    rw [hY, Below.heap_setCell _ _ _ _ (by simp), Below.heap_setCell _ _ _ _ (by simp), set_blk (set_blk HV.out.1 0 _) 1 _]; rfl
  have k2 : Y.drew.heap[W.heap.size + 1]? = some (.cells #[.int .i64 cd, .int .i64 f] 29 (0, 0)) := by
    show Y.heap[W.heap.size + 1]? = _
    rw [hY, set_blk (set_blk (((Below.heap_setCell _ _ _ _ (by simp)).trans (Below.heap_setCell _ _ _ _ (by simp))).trans HV.out.2.1) 0 _) 1 _]; rfl
  have hYk : ∀ k, W.heap.size + 1 < k → Y.drew.heap[k]? = V.heap[k]? := fun k hk => by
    show Y.heap[k]? = _
    rw [hY, Below.heap_setCell _ _ _ _ (by simp; omega), Below.heap_setCell _ _ _ _ (by simp; omega), Below.heap_setCell _ _ _ _ (by simp; omega), Below.heap_setCell _ _ _ _ (by simp; omega)]
  have r0 : Y.drew.cell? ⟨W.heap.size, 0, none⟩ = some (.slice none 0 0) := by simp [World.cell?, k1]
  have r1 : Y.drew.cell? ⟨W.heap.size, 1, none⟩ = some (.slice o L c) := by simp [World.cell?, k1]
  have r2 : Y.drew.cell? ⟨W.heap.size + 1, 0, none⟩ = some (.int .i64 cd) := by simp [World.cell?, k2]
  have r3 : Y.drew.cell? ⟨W.heap.size + 1, 1, none⟩ = some (.int .i64 f) := by simp [World.cell?, k2]
  have hb3 : Below W.heap.size W w3 := HB2.out.trans (h3.out.1.mono HB2.out.size)
  have hb4 : Below W.heap.size W V := hb3.trans (HV.out.2.2.mono hb3.size)
  have hbX : Below W.heap.size W Y := by
    rw [hY]
    exact (((hb4.setCell (p := ⟨W.heap.size, 0, none⟩) (Nat.le_refl _) _).setCell (p := ⟨W.heap.size, 1, none⟩) (Nat.le_refl _) _).setCell (p := ⟨W.heap.size + 1, 0, none⟩) (Nat.le_succ _) _).setCell (p := ⟨W.heap.size + 1, 1, none⟩) (Nat.le_succ _) _
  have hbY : Below W.heap.size W Y.drew := hbX.trans (below_dr (Below.refl _ _) 1)
  have hown : ExsOwn Y.drew W.heap.size (fun _ => False) (.slice o L c) es := (h3.out.2.same fun k hk hk2 => (hYk k (by have := HS2.out; omega)).trans (HV.out.2.2.block k hk2)).base HB2.out.size
  have hmax : max ((L : Int) - 1) 0 = ((es.length - 1 : Nat) : Int) := by have := HL.out; omega
  refine bodyPost_ret (v := .tuple #[.agg #[.slice none 0 0, .slice o L c], .int .i64 (max ((L : Int) - 1) 0), .agg #[.int .i64 cd, .int .i64 f]]) (by simp [results, Tryz.results12, go_sem, r0, r1, r2, r3]) rfl ?_
  rw [hmax]
  exact ⟨o, c, by rw [← HL.out], by rw [← HL.out]; exact hown, hbY⟩
end Go.Proofs.YtlbhlncipajapaaGreatDoor
namespace Go.Proofs.YtlbhlncipajapaaGreatDoor
open Go.RowKit Lx
set_option linter.unusedVariables false

/-- nothing comes back but a fault -/
def NoPr (c f : Int) (W : World) (r : Ending) (Y : World) : Prop :=
  r = .returned (.tuple #[.agg #[.slice none 0 0, .slice none 0 0], .int .i64 0, .agg #[.int .i64 c, .int .i64 f]]) ∧ Below W.heap.size W Y
set_option maxHeartbeats 8000000 in
set_option maxRecDepth 100000 in
theorem parse_expr_bad (l : List UInt8) (tl : List Tok) (ht : Hid (lexT l tl none)) (hl : l.length ≤ 20000) (f : Nat) (v : Int) (lx : List Int) (τ : RS) (hr : Hid (runE (tl ++ [endT l.length]) f .expr rs0 = some (v, lx, τ))) (hc0 : Hid (τ.code ≠ 0)) (W : World) :
    Calls Tryz.prog 9 #[.string (str l), .bool true] W fun r Y => NoPr τ.code τ.pos W r Y := by
  obtain ⟨ts, hus⟩ : ∃ ts, ts = tl ++ [endT l.length] := ⟨_, rfl⟩
  have hcount := toks_count ht.out
  have g1 := gapTo_le false (Nat.zero_le l.length)
  have hul : ts.length = tl.length + 1 := by rw [hus]; simp
  have hu4 : ts.length ≤ 40000 := by omega
  have hend : EndOk ts := by rw [hus]; exact end_ok ht.out _
  obtain ⟨p0, hp0⟩ : ∃ p0, p0 = ts.length := ⟨_, rfl⟩
  have LX : Hid (∀ W, Calls Tryz.prog 13 #[.string (str l)] W fun r Y => SomeRow ts p0 W r Y) := Lib.hid fun W => (ref_lex_any l tl none ht.out W).mono fun e w' h => by
    have := h.2 hl
    rw [hp0, hul, hus]; exact this
  have EX : Hid (∀ b g cap W, Hid (Rd W b g cap (.slice none 0 0) ts (fun _ => False) rs0) → Calls Tryz.prog 18 #[.pointer (some ⟨b, 0, none⟩)] W fun r Y => RdRet b g cap (.slice none 0 0) ts (fun _ => False) W (.int .i64 v) τ r Y) := Lib.hid fun b g cap W h => (fc_all b g cap (.slice none 0 0) ts f _).expr rs0 v lx τ (by rw [hus]; exact hr.out) W h
  have HE := Lib.hid hend
  have HP0 := Lib.hid hp0
  have HU4 := Lib.hid hu4
  clear hcount g1 hul hend hus hp0 hu4 hl
  obtain ⟨W2, hW2⟩ : ∃ W2, W2 = (W.alloc (.cells #[.slice none 0 0, .slice none 0 0] 26)).alloc (.cells #[.int .i64 0, .int .i64 0] 29) := ⟨_, rfl⟩
  have hb2 : Below W.heap.size W W2 := by rw [hW2]; exact ((Below.refl _ _).alloc (Nat.le_refl _) _).alloc (by simp) _
  have hs2 : W2.heap.size = W.heap.size + 2 := by rw [hW2]; simp
  have hP : W2.heap[W.heap.size]? = some (.cells #[.slice none 0 0, .slice none 0 0] 26 (0, 0)) := by
    rw [hW2, heap_alloc_old _ _ (by simp)]; exact heap_alloc_new W _
  have hF : W2.heap[W.heap.size + 1]? = some (.cells #[.int .i64 0, .int .i64 0] 29 (0, 0)) := by
    have := heap_alloc_new (W.alloc (.cells #[.slice none 0 0, .slice none 0 0] 26)) (.cells #[.int .i64 0, .int .i64 0] 29)
    rw [World.size_alloc] at this
    rw [hW2]; exact this
  have HB2 := Lib.hid hb2
  have HS2 := Lib.hid hs2
  have HPF := Lib.hid (show _ ∧ _ from ⟨hP, hF⟩)
  clear hb2 hs2 hP hF
  go_enter Tryz.func9, Tryz.ntmps9
  go_wp2_with (go_at_call 13; rw [← hW2]; clear hW2; (with_reducible refine (LX.out W2).mono ?_); rintro e w3 ⟨g, cap, rfl, hb3, hrow⟩; have HB3 := Lib.hid hb3; have HROW := Lib.hid hrow; clear hb3 hrow)
  have hs3 : W.heap.size + 2 ≤ w3.heap.size := by have := HB3.out.size; have := HS2.out; omega
  obtain ⟨b, hb⟩ : ∃ b, b = w3.heap.size + 1 := ⟨_, rfl⟩
  obtain ⟨W4, hW4⟩ : ∃ W4, W4 = (w3.alloc (.cells #[.int .i64 0, .int .i64 0] 29)).alloc (.cells #[.slice (some ⟨g, 0, none⟩) p0 cap, .int .i64 0, .slice none 0 0, .slice none 0 0, .int .i64 0, .int .i64 0, .int .i64 0] 52) := ⟨_, rfl⟩
  have HR4 : Hid (Rd W4 b g cap (.slice none 0 0) ts (fun _ => False) rs0) := Lib.hid (by
    have h1 := rd_new (w := w3.alloc (.cells #[.int .i64 0, .int .i64 0] 29)) (cap := cap) (HROW.out.below ((Below.refl _ _).alloc (Nat.le_refl _) _)) HU4.out HE.out
    rw [World.size_alloc, ← hb] at h1
    rw [hW4, HP0.out]
    exact h1)
  have HB4 : Hid (Below w3.heap.size w3 W4) := Lib.hid (by rw [hW4]; exact ((Below.refl _ _).alloc (Nat.le_refl _) _).alloc (by simp) _)
  rw [← hW4, ← hb]
  clear hW4
  refine (EX.out b g cap W4 HR4).mono ?_
  rintro e w5 ⟨rfl, hr5, hk5⟩
  dsimp only
  have HR5 := Lib.hid hr5
  have HK5' := Lib.hid hk5
  have hlow : ∀ k, k < W.heap.size + 2 → w5.heap[k]? = W2.heap[k]? := fun k hk => (hk5.low k (by omega)).trans ((HB4.out.block k (by omega)).trans (HB3.out.block k (by have := HS2.out; omega)))
  have hP := (hlow W.heap.size (by omega)).trans HPF.out.1
  have hF := (hlow (W.heap.size + 1) (by omega)).trans HPF.out.2
  have HKW := Lib.hid HK5'.out
  have p0' : w5.cell? ⟨W.heap.size, 0, none⟩ = some (.slice none 0 0) := by simp [World.cell?, hP]
  have p1' : w5.cell? ⟨W.heap.size, 1, none⟩ = some (.slice none 0 0) := by simp [World.cell?, hP]
  have p2' : w5.frozen? ⟨W.heap.size, 0, none⟩ = false := by simp [World.frozen?, hP]
  have p3' : w5.frozen? ⟨W.heap.size, 1, none⟩ = false := by simp [World.frozen?, hP]
  have u0' : w5.cell? ⟨W.heap.size + 1, 0, none⟩ = some (.int .i64 0) := by simp [World.cell?, hF]
  have u1' : w5.cell? ⟨W.heap.size + 1, 1, none⟩ = some (.int .i64 0) := by simp [World.cell?, hF]
  have u2' : w5.frozen? ⟨W.heap.size + 1, 0, none⟩ = false := by simp [World.frozen?, hF]
  have u3' : w5.frozen? ⟨W.heap.size + 1, 1, none⟩ = false := by simp [World.frozen?, hF]
  have HPP := Lib.hid (show _ ∧ _ from ⟨hP, hF⟩)
  clear hr5 hk5 hlow hP hF
  obtain ⟨o, c, ⟨c0, c1, c3, c4, c5, c6, fr⟩, hx⟩ := HR5.out.cells
  have ht := HR5.out.tok
  have hgb : g ≠ b := by have := HR5.out.lt; omega
  have hl := HR5.out.at_
  have hn := HR5.out.len
  obtain ⟨t0, t1, t2, t3⟩ := ht
  obtain ⟨n, hnn⟩ : ∃ n, n = ts.length := ⟨_, rfl⟩
  obtain ⟨a, haa⟩ : ∃ a, a = τ.at_ := ⟨_, rfl⟩
  obtain ⟨cd, hcd⟩ : ∃ cd, cd = τ.code := ⟨_, rfl⟩
  obtain ⟨ps, hps⟩ : ∃ ps, ps = τ.pos := ⟨_, rfl⟩
  obtain ⟨dp, hdp⟩ : ∃ dp, dp = τ.deep := ⟨_, rfl⟩
  obtain ⟨kd, hkd⟩ : ∃ kd, kd = (tokL ts τ.at_).kind := ⟨_, rfl⟩
  obtain ⟨tx, htx⟩ : ∃ tx, tx = (tokL ts τ.at_).text := ⟨_, rfl⟩
  obtain ⟨tv, htv⟩ : ∃ tv, tv = (tokL ts τ.at_).v := ⟨_, rfl⟩
  obtain ⟨p, hp⟩ : ∃ p, p = (tokL ts τ.at_).at_ := ⟨_, rfl⟩
  rw [← hnn] at c0 hl hn
  rw [← hkd] at t0
  rw [← htx] at t1
  rw [← htv] at t2
  rw [← hp] at t3
  rw [← haa] at c1 t0 t1 t2 t3 hl
  rw [← hcd] at c5
  rw [← hdp] at c4
  rw [← hps] at c6
  have k0 : ((a : Nat) : Int) < (n : Int) := by omega
  have f1 := fr 1
  have f4 := fr 4
  have f5 := fr 5
  have f6 := fr 6
  have HCD := Lib.hid hcd
  have HPS := Lib.hid hps
  have HDP := Lib.hid hdp
  have HKD := Lib.hid hkd
  have HTX := Lib.hid htx
  have HTV := Lib.hid htv
  have HP := Lib.hid hp
  have HAA := Lib.hid haa
  have HNN := Lib.hid hnn
  clear fr hx hnn haa hcd hps hdp hkd htx htv hp c3
  have q1 : (cd == 0) = false := by rw [HCD.out]; exact beq_false_of_ne hc0.out
  have q3 : (cd != 0) = true := by rw [HCD.out]; exact bne_iff_ne.2 hc0.out
  have HBB := Lib.hid hb
  have hbw2 : W.heap.size + 1 < b := by omega
  clear hb
  go_wp2_with fail
  go_quiet (fail)
  go_wp2_with fail
  have mixed : Tryz.prog.follows .mixedOrders = true := by kernel_rfl
  have late : Tryz.prog.follows .lateStores = true := by kernel_rfl
  go_region_o
  go_wp2_with fail
  obtain ⟨w6, hw6⟩ : ∃ w6, w6 = w5.drewN (nq + 1) := ⟨_, rfl⟩
  rw [← hw6]
  have hb6 : Below w5.heap.size w5 w6 := by rw [hw6]; exact below_dr (Below.refl _ _) _
  have hP6 : w6.heap[W.heap.size]? = some (.cells #[.slice none 0 0, .slice none 0 0] 26 (0, 0)) := by rw [hw6]; exact HPP.out.1
  have hF6 : w6.heap[W.heap.size + 1]? = some (.cells #[.int .i64 0, .int .i64 0] 29 (0, 0)) := by rw [hw6]; exact HPP.out.2
  obtain ⟨Y, hY⟩ : ∃ Y, Y = (((w6.setCell ⟨W.heap.size, 0, none⟩ (.slice none 0 0)).setCell ⟨W.heap.size, 1, none⟩ (.slice none 0 0)).setCell ⟨W.heap.size + 1, 0, none⟩ (.int .i64 cd)).setCell ⟨W.heap.size + 1, 1, none⟩ (.int .i64 ps) := ⟨_, rfl⟩
  rw [← hY]
  have k1 : Y.heap[W.heap.size]? = some (.cells #[.slice none 0 0, .slice none 0 0] 26 (0, 0)) := by
    rw [hY, Below.heap_setCell _ _ _ _ (by simp), Below.heap_setCell _ _ _ _ (by simp), set_blk (set_blk hP6 0 _) 1 _]; rfl
  have k2 : Y.heap[W.heap.size + 1]? = some (.cells #[.int .i64 cd, .int .i64 ps] 29 (0, 0)) := by
    rw [hY, set_blk (set_blk (((Below.heap_setCell _ _ _ _ (by simp)).trans (Below.heap_setCell _ _ _ _ (by simp))).trans hF6) 0 _) 1 _]; rfl
  have r0 : Y.cell? ⟨W.heap.size, 0, none⟩ = some (.slice none 0 0) := by simp [World.cell?, k1]
  have r1 : Y.cell? ⟨W.heap.size, 1, none⟩ = some (.slice none 0 0) := by simp [World.cell?, k1]
  have r2 : Y.cell? ⟨W.heap.size + 1, 0, none⟩ = some (.int .i64 cd) := by simp [World.cell?, k2]
  have r3 : Y.cell? ⟨W.heap.size + 1, 1, none⟩ = some (.int .i64 ps) := by simp [World.cell?, k2]
  have hb05 : Below W.heap.size W w5 := (HB2.out.trans ((HB3.out.trans (HB4.out.mono HB3.out.size)).mono (by have := HS2.out; omega))).trans (HKW.out.below (by have := HBB.out; omega))
  have hb06 : Below W.heap.size W w6 := hb05.trans (hb6.mono hb05.size)
  have hbY : Below W.heap.size W Y := by
    rw [hY]
    exact (((hb06.setCell (p := ⟨W.heap.size, 0, none⟩) (Nat.le_refl _) _).setCell (p := ⟨W.heap.size, 1, none⟩) (Nat.le_refl _) _).setCell (p := ⟨W.heap.size + 1, 0, none⟩) (Nat.le_succ _) _).setCell (p := ⟨W.heap.size + 1, 1, none⟩) (Nat.le_succ _) _
  refine bodyPost_ret (v := .tuple #[.agg #[.slice none 0 0, .slice none 0 0], .int .i64 0, .agg #[.int .i64 cd, .int .i64 ps]]) (by simp [results, Tryz.results9, go_sem, r0, r1, r2, r3]) rfl ?_
  exact ⟨by rw [HCD.out, HPS.out], hbY⟩
end Go.Proofs.YtlbhlncipajapaaGreatDoor
namespace Go.Proofs.YtlbhlncipajapaaGreatDoor
open Go.RowKit Lx
set_option linter.unusedVariables false

set_option maxHeartbeats 8000000 in
set_option maxRecDepth 100000 in
theorem parse_expr_more (l : List UInt8) (tl : List Tok) (ht : Hid (lexT l tl none)) (hl : l.length ≤ 20000) (f : Nat) (v : Int) (lx : List Int) (τ : RS) (hr : Hid (runE (tl ++ [endT l.length]) f .expr rs0 = some (v, lx, τ))) (hc0 : Hid (τ.code = 0)) (hk5 : Hid ((tokL (tl ++ [endT l.length]) τ.at_).kind ≠ 5)) (W : World) :
    Calls Tryz.prog 9 #[.string (str l), .bool true] W fun r Y => NoPr (failS (tl ++ [endT l.length]) 2 τ).code (failS (tl ++ [endT l.length]) 2 τ).pos W r Y := by
  have hcode : (2 : Int) = (failS (tl ++ [endT l.length]) 2 τ).code := by unfold failS; rw [if_pos hc0.out]
  obtain ⟨P2, hP2⟩ : ∃ P2, P2 = (failS (tl ++ [endT l.length]) 2 τ).pos := ⟨_, rfl⟩
  obtain ⟨C2, hC2⟩ : ∃ C2, C2 = (failS (tl ++ [endT l.length]) 2 τ).code := ⟨_, rfl⟩
  have hC0 : C2 = 2 := hC2.trans hcode.symm
  rw [← hP2, ← hC2]
  clear hcode
  obtain ⟨ts, hus⟩ : ∃ ts, ts = tl ++ [endT l.length] := ⟨_, rfl⟩
  have hcount := toks_count ht.out
  have g1 := gapTo_le false (Nat.zero_le l.length)
  have hul : ts.length = tl.length + 1 := by rw [hus]; simp
  have hu4 : ts.length ≤ 40000 := by omega
  have hend : EndOk ts := by rw [hus]; exact end_ok ht.out _
  obtain ⟨p0, hp0⟩ : ∃ p0, p0 = ts.length := ⟨_, rfl⟩
  have LX : Hid (∀ W, Calls Tryz.prog 13 #[.string (str l)] W fun r Y => SomeRow ts p0 W r Y) := Lib.hid fun W => (ref_lex_any l tl none ht.out W).mono fun e w' h => by
    have := h.2 hl
    rw [hp0, hul, hus]; exact this
  have EX : Hid (∀ b g cap W, Hid (Rd W b g cap (.slice none 0 0) ts (fun _ => False) rs0) → Calls Tryz.prog 18 #[.pointer (some ⟨b, 0, none⟩)] W fun r Y => RdRet b g cap (.slice none 0 0) ts (fun _ => False) W (.int .i64 v) τ r Y) := Lib.hid fun b g cap W h => (fc_all b g cap (.slice none 0 0) ts f _).expr rs0 v lx τ (by rw [hus]; exact hr.out) W h
  have HPC : Hid (P2 = (failS ts 2 τ).pos ∧ C2 = (failS ts 2 τ).code) := Lib.hid ⟨by rw [hus]; exact hP2, by rw [hus]; exact hC2⟩
  clear hP2 hC2
  have HC0' := Lib.hid hC0
  clear hC0
  have HE := Lib.hid hend
  have FF : Hid (∀ b g cap W, Hid (Rd W b g cap (.slice none 0 0) ts (fun _ => False) τ) → Calls Tryz.prog 20 #[.pointer (some ⟨b, 0, none⟩), .int .i64 2] W fun r Y => RdRet b g cap (.slice none 0 0) ts (fun _ => False) W (.tuple #[]) (failS ts 2 τ) r Y) := Lib.hid fun b g cap W h => fail_any b g cap _ ts _ τ 2 W h
  have HP0 := Lib.hid hp0
  have HU4 := Lib.hid hu4
  have HK5 : Hid ((tokL ts τ.at_).kind ≠ 5) := Lib.hid (by rw [hus]; exact hk5.out)
  clear hcount g1 hul hend hus hp0 hu4 hl hk5
  obtain ⟨W2, hW2⟩ : ∃ W2, W2 = (W.alloc (.cells #[.slice none 0 0, .slice none 0 0] 26)).alloc (.cells #[.int .i64 0, .int .i64 0] 29) := ⟨_, rfl⟩
  have hb2 : Below W.heap.size W W2 := by rw [hW2]; exact ((Below.refl _ _).alloc (Nat.le_refl _) _).alloc (by simp) _
  have hs2 : W2.heap.size = W.heap.size + 2 := by rw [hW2]; simp
  have hP : W2.heap[W.heap.size]? = some (.cells #[.slice none 0 0, .slice none 0 0] 26 (0, 0)) := by
    rw [hW2, heap_alloc_old _ _ (by simp)]; exact heap_alloc_new W _
  have hF : W2.heap[W.heap.size + 1]? = some (.cells #[.int .i64 0, .int .i64 0] 29 (0, 0)) := by
    have := heap_alloc_new (W.alloc (.cells #[.slice none 0 0, .slice none 0 0] 26)) (.cells #[.int .i64 0, .int .i64 0] 29)
    rw [World.size_alloc] at this
    rw [hW2]; exact this
  have HB2 := Lib.hid hb2
  have HS2 := Lib.hid hs2
  have HPF := Lib.hid (show _ ∧ _ from ⟨hP, hF⟩)
  clear hb2 hs2 hP hF
  go_enter Tryz.func9, Tryz.ntmps9
  go_wp2_with (go_at_call 13; rw [← hW2]; clear hW2; (with_reducible refine (LX.out W2).mono ?_); rintro e w3 ⟨g, cap, rfl, hb3, hrow⟩; have HB3 := Lib.hid hb3; have HROW := Lib.hid hrow; clear hb3 hrow)
  have hs3 : W.heap.size + 2 ≤ w3.heap.size := by have := HB3.out.size; have := HS2.out; omega
  obtain ⟨b, hb⟩ : ∃ b, b = w3.heap.size + 1 := ⟨_, rfl⟩
  obtain ⟨W4, hW4⟩ : ∃ W4, W4 = (w3.alloc (.cells #[.int .i64 0, .int .i64 0] 29)).alloc (.cells #[.slice (some ⟨g, 0, none⟩) p0 cap, .int .i64 0, .slice none 0 0, .slice none 0 0, .int .i64 0, .int .i64 0, .int .i64 0] 52) := ⟨_, rfl⟩
  have HR4 : Hid (Rd W4 b g cap (.slice none 0 0) ts (fun _ => False) rs0) := Lib.hid (by
    have h1 := rd_new (w := w3.alloc (.cells #[.int .i64 0, .int .i64 0] 29)) (cap := cap) (HROW.out.below ((Below.refl _ _).alloc (Nat.le_refl _) _)) HU4.out HE.out
    rw [World.size_alloc, ← hb] at h1
    rw [hW4, HP0.out]
    exact h1)
  have HB4 : Hid (Below w3.heap.size w3 W4) := Lib.hid (by rw [hW4]; exact ((Below.refl _ _).alloc (Nat.le_refl _) _).alloc (by simp) _)
  rw [← hW4, ← hb]
  clear hW4
  refine (EX.out b g cap W4 HR4).mono ?_
  rintro e w5 ⟨rfl, hr5, hk5⟩
  dsimp only
  have HR5 := Lib.hid hr5
  have HK5' := Lib.hid hk5
  have hlow : ∀ k, k < W.heap.size + 2 → w5.heap[k]? = W2.heap[k]? := fun k hk => (hk5.low k (by omega)).trans ((HB4.out.block k (by omega)).trans (HB3.out.block k (by have := HS2.out; omega)))
  have hP := (hlow W.heap.size (by omega)).trans HPF.out.1
  have hF := (hlow (W.heap.size + 1) (by omega)).trans HPF.out.2
  clear hr5 hk5 hlow hP hF
  obtain ⟨o, c, ⟨c0, c1, c3, c4, c5, c6, fr⟩, hx⟩ := HR5.out.cells
  have ht := HR5.out.tok
  have hgb : g ≠ b := by have := HR5.out.lt; omega
  have hl := HR5.out.at_
  have hn := HR5.out.len
  obtain ⟨t0, t1, t2, t3⟩ := ht
  obtain ⟨n, hnn⟩ : ∃ n, n = ts.length := ⟨_, rfl⟩
  obtain ⟨a, haa⟩ : ∃ a, a = τ.at_ := ⟨_, rfl⟩
  obtain ⟨cd, hcd⟩ : ∃ cd, cd = τ.code := ⟨_, rfl⟩
  obtain ⟨ps, hps⟩ : ∃ ps, ps = τ.pos := ⟨_, rfl⟩
  obtain ⟨dp, hdp⟩ : ∃ dp, dp = τ.deep := ⟨_, rfl⟩
  obtain ⟨kd, hkd⟩ : ∃ kd, kd = (tokL ts τ.at_).kind := ⟨_, rfl⟩
  obtain ⟨tx, htx⟩ : ∃ tx, tx = (tokL ts τ.at_).text := ⟨_, rfl⟩
  obtain ⟨tv, htv⟩ : ∃ tv, tv = (tokL ts τ.at_).v := ⟨_, rfl⟩
  obtain ⟨p, hp⟩ : ∃ p, p = (tokL ts τ.at_).at_ := ⟨_, rfl⟩
  rw [← hnn] at c0 hl hn
  rw [← hkd] at t0
  rw [← htx] at t1
  rw [← htv] at t2
  rw [← hp] at t3
  rw [← haa] at c1 t0 t1 t2 t3 hl
  rw [← hcd] at c5
  rw [← hdp] at c4
  rw [← hps] at c6
  have k0 : ((a : Nat) : Int) < (n : Int) := by omega
  have f1 := fr 1
  have f4 := fr 4
  have f5 := fr 5
  have f6 := fr 6
  have HCD := Lib.hid hcd
  have HPS := Lib.hid hps
  have HDP := Lib.hid hdp
  have HKD := Lib.hid hkd
  have HTX := Lib.hid htx
  have HTV := Lib.hid htv
  have HP := Lib.hid hp
  have HAA := Lib.hid haa
  have HNN := Lib.hid hnn
  clear fr hx hnn haa hcd hps hdp hkd htx htv hp c3
  have q1 : (cd == 0) = true := by rw [HCD.out, hc0.out]; rfl
  have q2 : ((kd : Int) != 5) = true := by rw [HKD.out]; exact bne_iff_ne.2 (fun e => HK5.out (by exact_mod_cast e))
  have HBB := Lib.hid hb
  have hbw2 : W.heap.size + 1 < b := by omega
  clear hb
  go_wp2_with fail
  go_quiet (fail)
  obtain ⟨wd, hwd⟩ : ∃ wd, wd = w5.drewN nq := ⟨_, rfl⟩
  have hbd : Below w5.heap.size w5 wd := by rw [hwd]; exact below_dr (Below.refl _ _) _
  have HRd : Hid (Rd wd b g cap (.slice none 0 0) ts (fun _ => False) τ) := Lib.hid (HR5.out.below hbd)
  have HKd : Hid (RK b W4 wd) := Lib.hid (HK5'.out.trans (RK.of_below hbd (Nat.le_of_lt HR5.out.size)))
  have HCD' := Lib.hid HCD.out
  have HWD := Lib.hid hwd
  clear hbd t0 t1 t2 t3 c0 c1 c4 c5 c6 f1 f4 f5 f6 k0 hl hn hgb
  rw [← hwd]
  clear hwd
  go_wp2_with (go_at_call 20; (with_reducible refine (FF.out b g cap _ HRd).mono ?_); rintro e w7 ⟨rfl, hr7, hk7⟩; have HR7 := Lib.hid hr7; have HKW := Lib.hid (HKd.out.trans hk7); clear hr7 hk7; obtain ⟨o7, c7, ⟨d0, d1, d3, d4, d5, d6, fr7⟩, hx7⟩ := HR7.out.cells; rw [← HPC.out.1] at d6; rw [← HPC.out.2] at d5; have z5 := fr7 5; have z6 := fr7 6; have q3 : (C2 != 0) = true := (by rw [HC0'.out]; rfl); clear d0 d1 d3 d4 fr7 hx7; have hlow : ∀ k, k < W.heap.size + 2 → w7.heap[k]? = W2.heap[k]? := (fun k hk => (HKW.out.low k (by have := HBB.out; omega)).trans ((HB4.out.block k (by omega)).trans (HB3.out.block k (by have := HS2.out; omega)))); have hP := (hlow W.heap.size (by omega)).trans HPF.out.1; have hF := (hlow (W.heap.size + 1) (by omega)).trans HPF.out.2; have p0' : w7.cell? ⟨W.heap.size, 0, none⟩ = some (.slice none 0 0) := (by simp [World.cell?, hP]); have p1' : w7.cell? ⟨W.heap.size, 1, none⟩ = some (.slice none 0 0) := (by simp [World.cell?, hP]); have p2' : w7.frozen? ⟨W.heap.size, 0, none⟩ = false := (by simp [World.frozen?, hP]); have p3' : w7.frozen? ⟨W.heap.size, 1, none⟩ = false := (by simp [World.frozen?, hP]); have u0' : w7.cell? ⟨W.heap.size + 1, 0, none⟩ = some (.int .i64 0) := (by simp [World.cell?, hF]); have u1' : w7.cell? ⟨W.heap.size + 1, 1, none⟩ = some (.int .i64 0) := (by simp [World.cell?, hF]); have u2' : w7.frozen? ⟨W.heap.size + 1, 0, none⟩ = false := (by simp [World.frozen?, hF]); have u3' : w7.frozen? ⟨W.heap.size + 1, 1, none⟩ = false := (by simp [World.frozen?, hF]); have HPP := Lib.hid (show _ ∧ _ from ⟨hP, hF⟩); clear hP hF hlow)
  have mixed : Tryz.prog.follows .mixedOrders = true := by kernel_rfl
  have late : Tryz.prog.follows .lateStores = true := by kernel_rfl
  go_region_o
  go_wp2_with fail
  have hP6 := HPP.out.1
  have hF6 := HPP.out.2
  obtain ⟨Y, hY⟩ : ∃ Y, Y = (((w7.setCell ⟨W.heap.size, 0, none⟩ (.slice none 0 0)).setCell ⟨W.heap.size, 1, none⟩ (.slice none 0 0)).setCell ⟨W.heap.size + 1, 0, none⟩ (.int .i64 C2)).setCell ⟨W.heap.size + 1, 1, none⟩ (.int .i64 P2) := ⟨_, rfl⟩
  rw [← hY]
  have k1 : Y.drew.heap[W.heap.size]? = some (.cells #[.slice none 0 0, .slice none 0 0] 26 (0, 0)) := by
    show Y.heap[W.heap.size]? = _
    rw [hY, Below.heap_setCell _ _ _ _ (by simp), Below.heap_setCell _ _ _ _ (by simp), set_blk (set_blk hP6 0 _) 1 _]; rfl
  have k2 : Y.drew.heap[W.heap.size + 1]? = some (.cells #[.int .i64 C2, .int .i64 P2] 29 (0, 0)) := by
    show Y.heap[W.heap.size + 1]? = _
    rw [hY, set_blk (set_blk (((Below.heap_setCell _ _ _ _ (by simp)).trans (Below.heap_setCell _ _ _ _ (by simp))).trans hF6) 0 _) 1 _]; rfl
  have r0 : Y.drew.cell? ⟨W.heap.size, 0, none⟩ = some (.slice none 0 0) := by simp [World.cell?, k1]
  have r1 : Y.drew.cell? ⟨W.heap.size, 1, none⟩ = some (.slice none 0 0) := by simp [World.cell?, k1]
  have r2 : Y.drew.cell? ⟨W.heap.size + 1, 0, none⟩ = some (.int .i64 C2) := by simp [World.cell?, k2]
  have r3 : Y.drew.cell? ⟨W.heap.size + 1, 1, none⟩ = some (.int .i64 P2) := by simp [World.cell?, k2]
  have hb05 : Below W.heap.size W w7 := (HB2.out.trans ((HB3.out.trans (HB4.out.mono HB3.out.size)).mono (by have := HS2.out; omega))).trans (HKW.out.below (by have := HBB.out; omega))
  have hbX : Below W.heap.size W Y := by
    rw [hY]
    exact (((hb05.setCell (p := ⟨W.heap.size, 0, none⟩) (Nat.le_refl _) _).setCell (p := ⟨W.heap.size, 1, none⟩) (Nat.le_refl _) _).setCell (p := ⟨W.heap.size + 1, 0, none⟩) (Nat.le_succ _) _).setCell (p := ⟨W.heap.size + 1, 1, none⟩) (Nat.le_succ _) _
  have hbY : Below W.heap.size W Y.drew := hbX.trans (below_dr (Below.refl _ _) 1)
  exact bodyPost_ret (v := .tuple #[.agg #[.slice none 0 0, .slice none 0 0], .int .i64 0, .agg #[.int .i64 C2, .int .i64 P2]]) (by simp [results, Tryz.results9, go_sem, r0, r1, r2, r3]) rfl ⟨rfl, hbY⟩
end Go.Proofs.YtlbhlncipajapaaGreatDoor
