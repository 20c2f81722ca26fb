/- The reference's rule for an item: none. -/
import Derived.Test.YtappngloeieafaaGreatRdItem
namespace Go.Proofs.YtappngloeieafaaGreat
open Go.RowKit Lx

theorem it_copy' {W : World} {A : Nat} {k0 : Int} {n0 : ByteArray} {p0 : Int} (h : W.heap[A]? = some (.cells (itA k0 n0 p0) 62 (0, 0))) (k : Int) (nm : ByteArray) (p : Int) :
    (((((((((W.setCell ⟨A, 0, none⟩ (.int .i64 k)).setCell ⟨A, 1, none⟩ (.string nm)).setCell ⟨A, 2, none⟩ (.int .i64 0)).setCell ⟨A, 3, none⟩ (.int .i64 0)).setCell ⟨A, 4, none⟩ (.int .i64 0)).setCell ⟨A, 5, none⟩ (.slice none 0 0)).setCell ⟨A, 6, none⟩ (.string ⟨#[]⟩)).setCell ⟨A, 7, none⟩ (.string ⟨#[]⟩)).setCell ⟨A, 8, none⟩ (.int .i64 p)).heap[A]? = some (.cells (itA k nm p) 62 (0, 0)) := by
  have h1 := set_blk h 0 (.int .i64 k)
  have h2 := set_blk h1 1 (.string nm)
  have h3 := set_blk h2 2 (.int .i64 0)
  have h4 := set_blk h3 3 (.int .i64 0)
  have h5 := set_blk h4 4 (.int .i64 0)
  have h6 := set_blk h5 5 (.slice none 0 0)
  have h7 := set_blk h6 6 (.string ⟨#[]⟩)
  have h8 := set_blk h7 7 (.string ⟨#[]⟩)
  have h9 := set_blk h8 8 (.int .i64 p)
  rw [h9]
  simp [itA]
def itemWords : List (List UInt8) := [[108, 101, 116], [100, 101, 114], [114, 101, 115, 101, 116], [109, 101, 109], [111, 110], [109, 111, 100, 101], [102, 114, 111, 109], [111, 117, 116]]
set_option maxHeartbeats 8000000 in
set_option maxRecDepth 100000 in
theorem item_none (b g cap : Nat) (dv : Value) (ts : List Tok) (xb : Nat → Prop) (σ : RS) (ho : ∀ s ∈ itemWords, isS ts s σ = false) (W : World) (h : Hid (Rd W b g cap dv ts xb σ)) :
    Calls Tryz.prog 120 #[.pointer (some ⟨b, 0, none⟩), .bool true] W fun r Y => ItRet b g cap dv ts xb W 0 ⟨#[]⟩ ((tokL ts σ.at_).at_ : Int) false σ r Y := by
  have TF : Hid (∀ (d : Array UInt8) W, d.toList ∈ itemWords → Hid (Rd W b g cap dv ts xb σ) → Calls Tryz.prog 77 #[.pointer (some ⟨b, 0, none⟩), .string ⟨d⟩] W fun r Y => RdRet b g cap dv ts xb W (.bool false) σ r Y) := Lib.hid fun d W hd h => by
    have := took_false (b := b) (g := g) (cap := cap) (dv := dv) (xb := xb) d.toList (ho _ hd) W h
    simpa [str] using this
  obtain ⟨ps0, hps0⟩ : ∃ ps0, ps0 = (tokL ts σ.at_).at_ := ⟨_, rfl⟩
  rw [← hps0]
  have HPS0 := Lib.hid hps0
  clear hps0 ho
  obtain ⟨o, c, ⟨c0, c1, c3, c4, c5, c6, fr⟩, hx⟩ := h.out.cells
  have ht := h.out.tok
  have hgb : g ≠ b := by have := h.out.lt; omega
  have hl := h.out.at_
  have hn := h.out.len
  obtain ⟨t0, t1, t2, t3⟩ := ht
  obtain ⟨n, hnn⟩ : ∃ n, n = ts.length := ⟨_, rfl⟩
  obtain ⟨a, haa⟩ : ∃ a, a = σ.at_ := ⟨_, rfl⟩
  obtain ⟨cd, hcd⟩ : ∃ cd, cd = σ.code := ⟨_, rfl⟩
  obtain ⟨ps, hps⟩ : ∃ ps, ps = σ.pos := ⟨_, rfl⟩
  obtain ⟨dp, hdp⟩ : ∃ dp, dp = σ.deep := ⟨_, rfl⟩
  obtain ⟨kd, hkd⟩ : ∃ kd, kd = (tokL ts σ.at_).kind := ⟨_, rfl⟩
  obtain ⟨tx, htx⟩ : ∃ tx, tx = (tokL ts σ.at_).text := ⟨_, rfl⟩
  obtain ⟨tv, htv⟩ : ∃ tv, tv = (tokL ts σ.at_).v := ⟨_, rfl⟩
  obtain ⟨p, hp⟩ : ∃ p, p = (tokL ts σ.at_).at_ := ⟨_, rfl⟩
  rw [← hnn] at c0 hl hn
  rw [← hkd] at t0
  rw [← htx] at t1
  rw [← htv] at t2
  rw [← hp] at t3
  rw [← haa] at c1 t0 t1 t2 t3 hl
  rw [← hcd] at c5
  rw [← hdp] at c4
  rw [← hps] at c6
  have k0 : ((a : Nat) : Int) < (n : Int) := by omega
  have f1 := fr 1
  have f4 := fr 4
  have f5 := fr 5
  have f6 := fr 6
  have HCD := Lib.hid hcd
  have HPS := Lib.hid hps
  have HDP := Lib.hid hdp
  have HKD := Lib.hid hkd
  have HTX := Lib.hid htx
  have HTV := Lib.hid htv
  have HP := Lib.hid hp
  have HAA := Lib.hid haa
  have HNN := Lib.hid hnn
  clear fr hx hnn haa hcd hps hdp hkd htx htv hp c3
  have hbs : b < W.heap.size := h.out.size
  go_enter Tryz.func120, Tryz.ntmps120
  go_wp2_with fail
  go_region_held3 (fun w' => w'.cell? ⟨b, 0, none⟩ = some (.slice (some ⟨g, 0, none⟩) n cap) ∧ w'.cell? ⟨b, 1, none⟩ = some (.int .i64 (a : Int)) ∧ w'.cell? ⟨g, a * 4 + 3, none⟩ = some (.int .i64 (p : Int)))
    ((repeat' apply And.intro) <;> first | assumption | exact cell_set2 (by assumption) (by omega) | go_keep)
    (fail)
  obtain ⟨A, hA⟩ : ∃ A, A = W.heap.size := ⟨_, rfl⟩
  obtain ⟨V, hV⟩ : ∃ V, V = ((W.alloc (.cells #[.int .i64 0, .string ⟨#[]⟩, .int .i64 0, .int .i64 0, .int .i64 0, .slice none 0 0, .string ⟨#[]⟩, .string ⟨#[]⟩, .int .i64 0] 62)).alloc (.cells #[.int .i64 0, .string ⟨#[]⟩, .int .i64 0, .int .i64 0, .int .i64 0, .slice none 0 0, .string ⟨#[]⟩, .string ⟨#[]⟩, .int .i64 (p : Int)] 62)).drew := ⟨_, rfl⟩
  have hbV : Below W.heap.size W V := by rw [hV]; exact (((Below.refl _ _).alloc (Nat.le_refl _) _).alloc (by simp) _).drew
  have HB0 : Hid (ItB V A 0 ⟨#[]⟩ 0) := Lib.hid (by
    unfold ItB
    rw [hV, hA]
    exact (heap_alloc_old _ _ (by simp)).trans (heap_alloc_new W _))
  have HB1 : Hid (ItB V (A + 1) 0 ⟨#[]⟩ (p : Int)) := Lib.hid (by
    unfold ItB
    have := heap_alloc_new (W.alloc (.cells (itA 0 ⟨#[]⟩ 0) 62)) (.cells (itA 0 ⟨#[]⟩ p) 62)
    rw [World.size_alloc, ← hA] at this
    rw [hV]; exact this)
  have HR : Hid (Rd V b g cap dv ts xb σ) := Lib.hid (h.out.below hbV)
  have HT : Hid (RK b W V) := Lib.hid (RK.of_below hbV (Nat.le_of_lt hbs))
  rw [← hV, ← hA]
  have HAW := Lib.hid hA
  have hbA : b < A := by omega
  have HPP : Hid (ps0 = p) := Lib.hid (by rw [HPS0.out, HP.out])
  clear hV hA hbV hbs hgb hn hl k0 t0 t1 t2 t3 c0 c1 c4 c5 c6 f1 f4 f5 f6 HCD HPS HDP HKD HTX HTV HAA HNN HP HPS0
  go_wp2_with (go_at_call 77; (with_reducible refine Calls.mono (TF.out _ _ ?_ HR) ?_); (focus exact (by decide)); (rintro e w1 ⟨rfl, hr, hk⟩); have HX0 := HB0; have HX1 := HB1; have HTx := HT; clear HR HB0 HB1 HT; have HR := Lib.hid hr; have HB0 := Lib.hid (HX0.out.keep hk (by omega)); have HB1 := Lib.hid (HX1.out.keep hk (by omega)); have HT := Lib.hid (HTx.out.trans hk); clear hr hk HX0 HX1 HTx; obtain ⟨m0, m1, m2, m3, m4, m5, m6, m7, m8, mf⟩ := HB1.out.cells; obtain ⟨n0, n1, n2, n3, n4, n5, n6, n7, n8, nf⟩ := HB0.out.cells; have f0 := nf 0; have f1 := nf 1; have f2 := nf 2; have f3 := nf 3; have f4 := nf 4; have f5 := nf 5; have f6 := nf 6; have f7 := nf 7; have f8 := nf 8; clear nf mf)
  obtain ⟨Y, hY⟩ : ∃ Y, Y = ((((((((w1.setCell ⟨A, 0, none⟩ (.int .i64 0)).setCell ⟨A, 1, none⟩ (.string ⟨#[]⟩)).setCell ⟨A, 2, none⟩ (.int .i64 0)).setCell ⟨A, 3, none⟩ (.int .i64 0)).setCell ⟨A, 4, none⟩ (.int .i64 0)).setCell ⟨A, 5, none⟩ (.slice none 0 0)).setCell ⟨A, 6, none⟩ (.string ⟨#[]⟩)).setCell ⟨A, 7, none⟩ (.string ⟨#[]⟩)).setCell ⟨A, 8, none⟩ (.int .i64 (p : Int)) := ⟨_, rfl⟩
  rw [← hY]
  have HB := Lib.hid (show But A w1 Y by rw [hY]; exact (((((((((But.refl A w1).set 0 _).set 1 _).set 2 _).set 3 _).set 4 _).set 5 _).set 6 _).set 7 _).set 8 _)
  have HY : Hid (ItB Y A 0 ⟨#[]⟩ (p : Int)) := Lib.hid (by
    unfold ItB
    rw [hY]
    exact it_copy' HB0.out 0 ⟨#[]⟩ p)
  clear hY n0 n1 n2 n3 n4 n5 n6 n7 n8 m0 m1 m2 m3 m4 m5 m6 m7 m8 f0 f1 f2 f3 f4 f5 f6 f7 f8
  obtain ⟨r0, r1, r2, r3, r4, r5, r6, r7, r8, _⟩ := HY.out.cells
  refine bodyPost_ret (v := .tuple #[.agg (itA 0 ⟨#[]⟩ (p : Int)), .bool false]) (by simp [results, Tryz.results120, go_sem, itA, r0, r1, r2, r3, r4, r5, r6, r7, r8]) rfl ?_
  rw [HPP.out]
  exact ⟨rfl, HR.out.but HB0.out (by decide) (by decide) hbA HB.out, HT.out.but (by have := HAW.out; omega) hbA h.out.size HB.out⟩
end Go.Proofs.YtappngloeieafaaGreat
