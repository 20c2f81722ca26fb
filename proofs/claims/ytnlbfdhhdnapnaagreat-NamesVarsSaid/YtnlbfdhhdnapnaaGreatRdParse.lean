/- The reference's Parse of an expression's text. -/
import Derived.Test.YtnlbfdhhdnapnaaGreatRdAll
namespace Go.Proofs.YtnlbfdhhdnapnaaGreat
open Go.RowKit Lx

theorem toks_four {l : List UInt8} {a : Nat} {ts : List Tok} {r : Option Nat} (h : Toks l a ts r) : ∀ t ∈ ts, t.kind ≤ 4 := by
  induction h with
  | fin => simp
  | bad => simp
  | tok h1 h2 _ ih =>
    intro t ht
    rcases List.mem_cons.1 ht with rfl | ht
    · unfold tokAt tokOf
      split
      · simp
      · rename_i k n v hk
        exact (oneL_some hk).2.1
    · exact ih t ht
theorem end_ok {l : List UInt8} {ts : List Tok} {r : Option Nat} (h : lexT l ts r) (n : Nat) : EndOk (ts ++ [endT n]) := by
  refine ⟨by simp, fun i t hi => ?_⟩
  rw [List.length_append]
  rcases Nat.lt_or_ge i ts.length with h1 | h1
  · rw [List.getElem?_append_left h1] at hi
    have := toks_four h t (List.mem_of_getElem? hi)
    simp; omega
  · rw [List.getElem?_append_right h1] at hi
    have h2 : i - ts.length = 0 := by
      rcases Nat.eq_zero_or_pos (i - ts.length) with h3 | h3
      · exact h3
      · rw [List.getElem?_eq_none (by simp; omega)] at hi; cases hi
    rw [h2] at hi
    obtain rfl : endT n = t := by simpa using hi
    simp [endT]; omega
theorem ref_lex_any : RefLex := ref_lex (ref_one (ref_signed ref_size))
/-- the reader at first -/
def rs0 : RS := ⟨0, [], 0, 0, 0⟩
theorem rd_new {w : World} {g cap : Nat} {ts : List Tok} (hr : RowAt w g ts) (hl : ts.length ≤ 40000) (he : EndOk ts) :
    Rd (w.alloc (.cells #[.slice (some ⟨g, 0, none⟩) ts.length cap, .int .i64 0, .slice none 0 0, .slice none 0 0, .int .i64 0, .int .i64 0, .int .i64 0] 92)) w.heap.size g cap (.slice none 0 0) ts (fun _ => False) rs0 :=
  ⟨fun k hk => hk.elim, ⟨none, 0, heap_alloc_new w _, [], rfl, World.ownsRow_nil _ _ _ _, fun p hp => by cases hp⟩, hr.below ((Below.refl _ _).alloc (Nat.le_refl _) _), hr.1, he.1, hl, he⟩
theorem ExsOwn.base {W : World} {b B : Nat} {xb : Nat → Prop} {v : Value} {l : List Ex} (h : ExsOwn W b xb v l) (hb : B ≤ b) : ExsOwn W B xb v l := by
  obtain ⟨q, h1, h2, h3⟩ := h
  exact ⟨q, h1, own_base h2 (by omega), fun p hp => ⟨own_base (h3 p hp).1 (by omega), (h3 p hp).2⟩⟩
/-- a program of expressions alone comes back, and one's number -/
def ParsedE (v : Int) (es : List Ex) (W : World) (r : Ending) (Y : World) : Prop :=
  ∃ o c, r = .returned (.tuple #[.agg #[.slice none 0 0, .slice o es.length c], .int .i64 v, .agg #[.int .i64 0, .int .i64 0]]) ∧ ExsOwn Y W.heap.size (fun _ => False) (.slice o es.length c) es ∧ Below W.heap.size W Y
set_option maxHeartbeats 8000000 in
set_option maxRecDepth 100000 in
theorem parse_expr_ok (l : List UInt8) (tl : List Tok) (ht : Hid (lexT l tl none)) (hl : l.length ≤ 20000) (f : Nat) (v : Int) (lx : List Int) (τ : RS) (hr : Hid (runE (tl ++ [endT l.length]) f .expr rs0 = some (v, lx, τ))) (hc0 : Hid (τ.code = 0)) (hk5 : Hid ((tokL (tl ++ [endT l.length]) τ.at_).kind = 5)) (W : World) :
    Calls Tryz.prog 27 #[.string (str l), .bool true] W fun r Y => ParsedE v τ.exprs W r Y := by
  obtain ⟨ts, hus⟩ : ∃ ts, ts = tl ++ [endT l.length] := ⟨_, rfl⟩
  have hcount := toks_count ht.out
  have g1 := gapTo_le false (Nat.zero_le l.length)
  have hul : ts.length = tl.length + 1 := by rw [hus]; simp
  have hu4 : ts.length ≤ 40000 := by omega
  have hend : EndOk ts := by rw [hus]; exact end_ok ht.out _
  obtain ⟨p0, hp0⟩ : ∃ p0, p0 = ts.length := ⟨_, rfl⟩
  have LX : Hid (∀ W, Calls Tryz.prog 48 #[.string (str l)] W fun r Y => SomeRow ts p0 W r Y) := Lib.hid fun W => (ref_lex_any l tl none ht.out W).mono fun e w' h => by
    have := h.2 hl
    rw [hp0, hul, hus]; exact this
  have EX : Hid (∀ b g cap W, Hid (Rd W b g cap (.slice none 0 0) ts (fun _ => False) rs0) → Calls Tryz.prog 49 #[.pointer (some ⟨b, 0, none⟩)] W fun r Y => RdRet b g cap (.slice none 0 0) ts (fun _ => False) W (.int .i64 v) τ r Y) := Lib.hid fun b g cap W h => (fc_all b g cap (.slice none 0 0) ts f _).expr rs0 v lx τ (by rw [hus]; exact hr.out) W h
  have HE := Lib.hid hend
  have HP0 := Lib.hid hp0
  have HU4 := Lib.hid hu4
  have HK5 : Hid ((tokL ts τ.at_).kind = 5) := Lib.hid (by rw [hus]; exact hk5.out)
  clear hcount g1 hul hend hus hp0 hu4 hl hk5
  obtain ⟨W2, hW2⟩ : ∃ W2, W2 = (W.alloc (.cells #[.slice none 0 0, .slice none 0 0] 25)).alloc (.cells #[.int .i64 0, .int .i64 0] 51) := ⟨_, rfl⟩
  have hb2 : Below W.heap.size W W2 := by rw [hW2]; exact ((Below.refl _ _).alloc (Nat.le_refl _) _).alloc (by simp) _
  have hs2 : W2.heap.size = W.heap.size + 2 := by rw [hW2]; simp
  have hP : W2.heap[W.heap.size]? = some (.cells #[.slice none 0 0, .slice none 0 0] 25 (0, 0)) := by
    rw [hW2, heap_alloc_old _ _ (by simp)]; exact heap_alloc_new W _
  have hF : W2.heap[W.heap.size + 1]? = some (.cells #[.int .i64 0, .int .i64 0] 51 (0, 0)) := by
    have := heap_alloc_new (W.alloc (.cells #[.slice none 0 0, .slice none 0 0] 25)) (.cells #[.int .i64 0, .int .i64 0] 51)
    rw [World.size_alloc] at this
    rw [hW2]; exact this
  have HB2 := Lib.hid hb2
  have HS2 := Lib.hid hs2
  have HPF := Lib.hid (show _ ∧ _ from ⟨hP, hF⟩)
  clear hb2 hs2 hP hF
  go_enter Tryz.func27, Tryz.ntmps27
  go_wp2_with (go_at_call 48; rw [← hW2]; clear hW2; (with_reducible refine (LX.out W2).mono ?_); rintro e w3 ⟨g, cap, rfl, hb3, hrow⟩; have HB3 := Lib.hid hb3; have HROW := Lib.hid hrow; clear hb3 hrow)
  have hs3 : W.heap.size + 2 ≤ w3.heap.size := by have := HB3.out.size; have := HS2.out; omega
  obtain ⟨b, hb⟩ : ∃ b, b = w3.heap.size + 1 := ⟨_, rfl⟩
  obtain ⟨W4, hW4⟩ : ∃ W4, W4 = (w3.alloc (.cells #[.int .i64 0, .int .i64 0] 51)).alloc (.cells #[.slice (some ⟨g, 0, none⟩) p0 cap, .int .i64 0, .slice none 0 0, .slice none 0 0, .int .i64 0, .int .i64 0, .int .i64 0] 92) := ⟨_, rfl⟩
  have HR4 : Hid (Rd W4 b g cap (.slice none 0 0) ts (fun _ => False) rs0) := Lib.hid (by
    have h1 := rd_new (w := w3.alloc (.cells #[.int .i64 0, .int .i64 0] 51)) (cap := cap) (HROW.out.below ((Below.refl _ _).alloc (Nat.le_refl _) _)) HU4.out HE.out
    rw [World.size_alloc, ← hb] at h1
    rw [hW4, HP0.out]
    exact h1)
  have HB4 : Hid (Below w3.heap.size w3 W4) := Lib.hid (by rw [hW4]; exact ((Below.refl _ _).alloc (Nat.le_refl _) _).alloc (by simp) _)
  rw [← hW4, ← hb]
  clear hW4
  refine (EX.out b g cap W4 HR4).mono ?_
  rintro e w5 ⟨rfl, hr5, hk5⟩
  dsimp only
  have HR5 := Lib.hid hr5
  have HK5' := Lib.hid hk5
  have hlow : ∀ k, k < W.heap.size + 2 → w5.heap[k]? = W2.heap[k]? := fun k hk => (hk5.low k (by omega)).trans ((HB4.out.block k (by omega)).trans (HB3.out.block k (by have := HS2.out; omega)))
  have hP := (hlow W.heap.size (by omega)).trans HPF.out.1
  have hF := (hlow (W.heap.size + 1) (by omega)).trans HPF.out.2
  obtain ⟨o5, cc5, hblk, hex⟩ := hr5.blk
  have n2 : w5.cell? ⟨b, 2, none⟩ = some (.slice none 0 0) := by simp [World.cell?, hblk]
  have n3 : w5.cell? ⟨b, 3, none⟩ = some (.slice o5 τ.exprs.length cc5) := by simp [World.cell?, hblk]
  have HEX := Lib.hid hex
  clear hr5 hk5 hlow hblk hex
  have p0' : w5.cell? ⟨W.heap.size, 0, none⟩ = some (.slice none 0 0) := by simp [World.cell?, hP]
  have p1' : w5.cell? ⟨W.heap.size, 1, none⟩ = some (.slice none 0 0) := by simp [World.cell?, hP]
  have p2' : w5.frozen? ⟨W.heap.size, 0, none⟩ = false := by simp [World.frozen?, hP]
  have p3' : w5.frozen? ⟨W.heap.size, 1, none⟩ = false := by simp [World.frozen?, hP]
  have u0' : w5.cell? ⟨W.heap.size + 1, 0, none⟩ = some (.int .i64 0) := by simp [World.cell?, hF]
  have u1' : w5.cell? ⟨W.heap.size + 1, 1, none⟩ = some (.int .i64 0) := by simp [World.cell?, hF]
  have u2' : w5.frozen? ⟨W.heap.size + 1, 0, none⟩ = false := by simp [World.frozen?, hF]
  have u3' : w5.frozen? ⟨W.heap.size + 1, 1, none⟩ = false := by simp [World.frozen?, hF]
  obtain ⟨nE, hnE⟩ : ∃ nE, nE = τ.exprs.length := ⟨_, rfl⟩
  rw [← hnE] at n3
  have HNE := Lib.hid hnE
  have HPP := Lib.hid (show _ ∧ _ from ⟨hP, hF⟩)
  clear hP hF hnE
  obtain ⟨o, c, ⟨c0, c1, c3, c4, c5, c6, fr⟩, hx⟩ := HR5.out.cells
  have ht := HR5.out.tok
  have hgb : g ≠ b := by have := HR5.out.lt; omega
  have hl := HR5.out.at_
  have hn := HR5.out.len
  obtain ⟨t0, t1, t2, t3⟩ := ht
  obtain ⟨n, hnn⟩ : ∃ n, n = ts.length := ⟨_, rfl⟩
  obtain ⟨a, haa⟩ : ∃ a, a = τ.at_ := ⟨_, rfl⟩
  obtain ⟨cd, hcd⟩ : ∃ cd, cd = τ.code := ⟨_, rfl⟩
  obtain ⟨ps, hps⟩ : ∃ ps, ps = τ.pos := ⟨_, rfl⟩
  obtain ⟨dp, hdp⟩ : ∃ dp, dp = τ.deep := ⟨_, rfl⟩
  obtain ⟨kd, hkd⟩ : ∃ kd, kd = (tokL ts τ.at_).kind := ⟨_, rfl⟩
  obtain ⟨tx, htx⟩ : ∃ tx, tx = (tokL ts τ.at_).text := ⟨_, rfl⟩
  obtain ⟨tv, htv⟩ : ∃ tv, tv = (tokL ts τ.at_).v := ⟨_, rfl⟩
  obtain ⟨p, hp⟩ : ∃ p, p = (tokL ts τ.at_).at_ := ⟨_, rfl⟩
  rw [← hnn] at c0 hl hn
  rw [← hkd] at t0
  rw [← htx] at t1
  rw [← htv] at t2
  rw [← hp] at t3
  rw [← haa] at c1 t0 t1 t2 t3 hl
  rw [← hcd] at c5
  rw [← hdp] at c4
  rw [← hps] at c6
  have k0 : ((a : Nat) : Int) < (n : Int) := by omega
  have f1 := fr 1
  have f4 := fr 4
  have f5 := fr 5
  have f6 := fr 6
  have HCD := Lib.hid hcd
  have HPS := Lib.hid hps
  have HDP := Lib.hid hdp
  have HKD := Lib.hid hkd
  have HTX := Lib.hid htx
  have HTV := Lib.hid htv
  have HP := Lib.hid hp
  have HAA := Lib.hid haa
  have HNN := Lib.hid hnn
  clear fr hx hnn haa hcd hps hdp hkd htx htv hp c3
  have q1 : (cd == 0) = true := by rw [HCD.out, hc0.out]; rfl
  have q2 : ((kd : Int) != 5) = false := by rw [HKD.out, HK5.out]; rfl
  have q3 : (cd != 0) = false := by rw [HCD.out, hc0.out]; rfl
  have HBB := Lib.hid hb
  clear hb
  go_wp2_with fail
  go_quiet (fail)
  go_wp2_with fail
  obtain ⟨w6, hw6⟩ : ∃ w6, w6 = w5.drewN nq := ⟨_, rfl⟩
  rw [← hw6]
  have hb6 : Below w5.heap.size w5 w6 := by rw [hw6]; exact below_dr (Below.refl _ _) _
  have hP6 : w6.heap[W.heap.size]? = some (.cells #[.slice none 0 0, .slice none 0 0] 25 (0, 0)) := by rw [hw6]; exact HPP.out.1
  have hF6 : w6.heap[W.heap.size + 1]? = some (.cells #[.int .i64 0, .int .i64 0] 51 (0, 0)) := by rw [hw6]; exact HPP.out.2
  obtain ⟨Y, hY⟩ : ∃ Y, Y = (((w6.setCell ⟨W.heap.size, 0, none⟩ (.slice none 0 0)).setCell ⟨W.heap.size, 1, none⟩ (.slice o5 nE cc5)).setCell ⟨W.heap.size + 1, 0, none⟩ (.int .i64 0)).setCell ⟨W.heap.size + 1, 1, none⟩ (.int .i64 0) := ⟨_, rfl⟩
  rw [← hY]
  have k1 : Y.heap[W.heap.size]? = some (.cells #[.slice none 0 0, .slice o5 nE cc5] 25 (0, 0)) := by
    rw [hY, Below.heap_setCell _ _ _ _ (by simp), Below.heap_setCell _ _ _ _ (by simp), set_blk (set_blk hP6 0 _) 1 _]; rfl
  have k2 : Y.heap[W.heap.size + 1]? = some (.cells #[.int .i64 0, .int .i64 0] 51 (0, 0)) := by
    rw [hY, set_blk (set_blk (((Below.heap_setCell _ _ _ _ (by simp)).trans (Below.heap_setCell _ _ _ _ (by simp))).trans hF6) 0 _) 1 _]; rfl
  have hYk : ∀ k, W.heap.size + 1 < k → Y.heap[k]? = w6.heap[k]? := fun k hk => by
    rw [hY, Below.heap_setCell _ _ _ _ (by simp; omega), Below.heap_setCell _ _ _ _ (by simp; omega), Below.heap_setCell _ _ _ _ (by simp; omega), Below.heap_setCell _ _ _ _ (by simp; omega)]
  have r0 : Y.cell? ⟨W.heap.size, 0, none⟩ = some (.slice none 0 0) := by simp [World.cell?, k1]
  have r1 : Y.cell? ⟨W.heap.size, 1, none⟩ = some (.slice o5 nE cc5) := by simp [World.cell?, k1]
  have r2 : Y.cell? ⟨W.heap.size + 1, 0, none⟩ = some (.int .i64 0) := by simp [World.cell?, k2]
  have r3 : Y.cell? ⟨W.heap.size + 1, 1, none⟩ = some (.int .i64 0) := by simp [World.cell?, k2]
  have hb05 : Below W.heap.size W w5 := (HB2.out.trans ((HB3.out.trans (HB4.out.mono HB3.out.size)).mono (by have := HS2.out; omega))).trans (HK5'.out.below (by have := HBB.out; omega))
  have hb06 : Below W.heap.size W w6 := hb05.trans (hb6.mono hb05.size)
  have hbY : Below W.heap.size W Y := by
    rw [hY]
    exact (((hb06.setCell (p := ⟨W.heap.size, 0, none⟩) (Nat.le_refl _) _).setCell (p := ⟨W.heap.size, 1, none⟩) (Nat.le_refl _) _).setCell (p := ⟨W.heap.size + 1, 0, none⟩) (Nat.le_succ _) _).setCell (p := ⟨W.heap.size + 1, 1, none⟩) (Nat.le_succ _) _
  refine bodyPost_ret (v := .tuple #[.agg #[.slice none 0 0, .slice o5 nE cc5], .int .i64 v, .agg #[.int .i64 0, .int .i64 0]]) (by simp [results, Tryz.results27, go_sem, r0, r1, r2, r3]) rfl ⟨o5, cc5, by rw [HNE.out], ?_, hbY⟩
  exact (HEX.out.same fun k hk hk2 => (hYk k (by have := HBB.out; omega)).trans (hb6.block k hk2)).base (by have := HBB.out; omega)
end Go.Proofs.YtnlbfdhhdnapnaaGreat
