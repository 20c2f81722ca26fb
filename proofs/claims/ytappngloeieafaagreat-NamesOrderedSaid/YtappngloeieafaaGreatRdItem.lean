/- The reference's rules for no parameters, and for an item that is an out, or none. -/
import Derived.Test.YtappngloeieafaaGreatRdExprW
import Derived.Shelf.RegionOpenPlain
namespace Go.Proofs.YtappngloeieafaaGreat
open Go.RowKit Lx

theorem NoEx.of {T : TypeId} (h : T ≠ 59) {cs : Array Value} : NoEx (.cells cs T (0, 0)) := fun cs' e => by cases e; exact h rfl
set_option maxHeartbeats 4000000 in
theorem params_none (b g cap : Nat) (dv : Value) (ts : List Tok) (xb : Nat → Prop) (σ : RS) (hp : isS ts [41] (wantS ts [40] σ) = true) (W : World) (h : Hid (Rd W b g cap dv ts xb σ)) :
    Calls Tryz.prog 83 #[.pointer (some ⟨b, 0, none⟩)] W fun r Y => RdRet b g cap dv ts xb W (.slice none 0 0) (stepS (wantS ts [40] σ)) r Y := by
  have C1 : Hid (Calls Tryz.prog 78 #[.pointer (some ⟨b, 0, none⟩), .string ⟨#[40]⟩] W fun r Y => RdRet b g cap dv ts xb W (.tuple #[]) (wantS ts [40] σ) r Y) := Lib.hid (want_any b g cap dv ts xb σ [40] W h)
  have C2 : Hid (∀ W, Hid (Rd W b g cap dv ts xb (wantS ts [40] σ)) → Calls Tryz.prog 77 #[.pointer (some ⟨b, 0, none⟩), .string ⟨#[41]⟩] W fun r Y => RdRet b g cap dv ts xb W (.bool true) (stepS (wantS ts [40] σ)) r Y) := Lib.hid fun W h => took_true (σ := wantS ts [40] σ) [41] hp W h
  clear hp
  go_enter Tryz.func83, Tryz.ntmps83
  go_wp2_with (first
    | (go_at_call 78; (with_reducible refine C1.out.mono ?_); rintro e w1 ⟨rfl, hr, hk⟩; have HR := Lib.hid hr; have HK := Lib.hid hk; clear hr hk)
    | (go_at_call 77; (with_reducible refine (C2.out w1 HR).mono ?_); rintro e w2 ⟨rfl, hr, hk⟩; have HR2 := Lib.hid hr; have HK2 := Lib.hid hk; clear hr hk))
  go_ret
  exact ⟨rfl, HR2.out, HK.out.trans HK2.out⟩
/-- an item that has a kind, a name and a place at most -/
def itA (k : Int) (nm : ByteArray) (p : Int) : Array Value := #[.int .i64 k, .string nm, .int .i64 0, .int .i64 0, .int .i64 0, .slice none 0 0, .string ⟨#[]⟩, .string ⟨#[]⟩, .int .i64 p]
theorem it_copy {W : World} {A : Nat} {k0 : Int} {n0 : ByteArray} {p0 : Int} (h : W.heap[A]? = some (.cells (itA k0 n0 p0) 62 (0, 0))) (k : Int) (nm : ByteArray) (p : Int) :
    (((((((((W.setCell ⟨A, 0, none⟩ (.int .i64 k)).setCell ⟨A, 1, none⟩ (.string nm)).setCell ⟨A, 2, none⟩ (.int .i64 0)).setCell ⟨A, 3, none⟩ (.int .i64 0)).setCell ⟨A, 4, none⟩ (.int .i64 0)).setCell ⟨A, 5, none⟩ (.slice none 0 0)).setCell ⟨A, 6, none⟩ (.string ⟨#[]⟩)).setCell ⟨A, 7, none⟩ (.string ⟨#[]⟩)).setCell ⟨A, 8, none⟩ (.int .i64 p)).drew.heap[A]? = some (.cells (itA k nm p) 62 (0, 0)) := by
  have h1 := set_blk h 0 (.int .i64 k)
  have h2 := set_blk h1 1 (.string nm)
  have h3 := set_blk h2 2 (.int .i64 0)
  have h4 := set_blk h3 3 (.int .i64 0)
  have h5 := set_blk h4 4 (.int .i64 0)
  have h6 := set_blk h5 5 (.slice none 0 0)
  have h7 := set_blk h6 6 (.string ⟨#[]⟩)
  have h8 := set_blk h7 7 (.string ⟨#[]⟩)
  have h9 := set_blk h8 8 (.int .i64 p)
  have hd : ∀ X : World, X.drew.heap = X.heap := fun _ => rfl
  rw [hd, h9]
  simp [itA]
/-- .. in a box -/
def ItB (W : World) (A : Nat) (k : Int) (nm : ByteArray) (p : Int) : Prop := W.heap[A]? = some (.cells (itA k nm p) 62 (0, 0))
theorem ItB.keep {b : Nat} {W Y : World} {A : Nat} {k : Int} {nm : ByteArray} {p : Int} (h : ItB W A k nm p) (hk : RK b W Y) (hb : b ≠ A) : ItB Y A k nm p := hk.keep A _ h (Ne.symm hb) (.of (by decide))
structure ItCells (W : World) (A : Nat) (k : Int) (nm : ByteArray) (p : Int) : Prop where
  c0 : W.cell? ⟨A, 0, none⟩ = some (.int .i64 k)
  c1 : W.cell? ⟨A, 1, none⟩ = some (.string nm)
  c2 : W.cell? ⟨A, 2, none⟩ = some (.int .i64 0)
  c3 : W.cell? ⟨A, 3, none⟩ = some (.int .i64 0)
  c4 : W.cell? ⟨A, 4, none⟩ = some (.int .i64 0)
  c5 : W.cell? ⟨A, 5, none⟩ = some (.slice none 0 0)
  c6 : W.cell? ⟨A, 6, none⟩ = some (.string ⟨#[]⟩)
  c7 : W.cell? ⟨A, 7, none⟩ = some (.string ⟨#[]⟩)
  c8 : W.cell? ⟨A, 8, none⟩ = some (.int .i64 p)
  fr : ∀ i, W.frozen? ⟨A, i, none⟩ = false
theorem ItB.cells {W : World} {A : Nat} {k : Int} {nm : ByteArray} {p : Int} (h : ItB W A k nm p) : ItCells W A k nm p := by
  unfold ItB itA at h
  exact ⟨by simp [World.cell?, h], by simp [World.cell?, h], by simp [World.cell?, h], by simp [World.cell?, h], by simp [World.cell?, h], by simp [World.cell?, h], by simp [World.cell?, h], by simp [World.cell?, h], by simp [World.cell?, h], fun i => by simp [World.frozen?, h]⟩
theorem own_type {W : World} {B : Nat} {e : TypeId} {s : Nat} {v : Value} {n : Nat} {xs : List Value} (h : W.ownsRow B e s v n xs) {k : Nat} (hk : v.ownBlock = some k) : B ≤ k ∧ ∃ cs, W.heap[k]? = some (.cells cs e (0, 0)) := by
  rcases h.2 with ⟨rfl, _⟩ | ⟨g, cap, cur, rfl, hb, hg, _⟩
  · cases hk
  · obtain rfl : g = k := by simpa [Value.ownBlock] using hk
    exact ⟨hb, cur, hg⟩
/-- a store into a box of another type -/
theorem Rd.setBox {W : World} {b g cap : Nat} {dv : Value} {ts : List Tok} {xb : Nat → Prop} {σ : RS} (h : Rd W b g cap dv ts xb σ) {A : Nat} {cs : Array Value} {T : TypeId} {fr : Nat × Nat} (hA : W.heap[A]? = some (.cells cs T fr)) (h1 : T ≠ 59) (h2 : T ≠ 3) (hb : b < A) (i : Nat) (v : Value) : Rd (W.setCell ⟨A, i, none⟩ v) b g cap dv ts xb σ := by
  have sm : ∀ k, k ≠ A → (W.setCell ⟨A, i, none⟩ v).heap[k]? = W.heap[k]? := fun k hk => Below.heap_setCell W ⟨A, i, none⟩ v k (by simpa using hk)
  obtain ⟨o, c, hc, q, q1, q2, q3⟩ := h.blk
  refine ⟨fun k hk => Nat.lt_of_lt_of_le (h.xlt k hk) ((Below.refl A W).setCell (p := ⟨A, i, none⟩) (Nat.le_refl _) v).size, ⟨o, c, (sm b (by omega)).trans hc, q, q1, rd_own_same q2 fun k e => sm k ?_, fun p hp => ⟨rd_own_same (q3 p hp).1 fun k e => sm k ?_, (q3 p hp).2⟩⟩, row_low h.row (sm g (by have := h.lt; omega)), h.lt, h.at_, h.len, h.ends⟩
  · rintro rfl
    obtain ⟨_, cs', hk⟩ := own_type q2 e
    rw [hA] at hk; cases hk; exact h1 rfl
  · rintro rfl
    obtain ⟨_, cs', hk⟩ := own_type (q3 p hp).1 e
    rw [hA] at hk; cases hk; exact h2 rfl
theorem RK.setNew {b : Nat} {W Y : World} (h : RK b W Y) {A : Nat} (hA : W.heap.size ≤ A) (hb : b < A) (i : Nat) (v : Value) : RK b W (Y.setCell ⟨A, i, none⟩ v) := by
  have hs := (Below.refl A Y).setCell (p := ⟨A, i, none⟩) (Nat.le_refl _) v
  exact ⟨hs.os.trans h.os, hs.tape.trans h.tape, hs.output.trans h.output, Nat.le_trans h.size hs.size, fun k hk => (hs.block k (by omega)).trans (h.low k hk), fun k o hk hkb hn => (hs.block k (by have := heap_lt hk; omega)).trans (h.keep k o hk hkb hn)⟩
theorem ItB.set {W : World} {A : Nat} {k : Int} {nm : ByteArray} {p : Int} (h : ItB W A k nm p) {i : Nat} {v : Value} {k' : Int} {nm' : ByteArray} {p' : Int} (he : (itA k nm p).setIfInBounds i v = itA k' nm' p') : ItB (W.setCell ⟨A, i, none⟩ v) A k' nm' p' := by
  unfold ItB at h ⊢
  rw [set_blk h, he]
theorem ItB.other {W : World} {A : Nat} {k : Int} {nm : ByteArray} {p : Int} (h : ItB W A k nm p) {A' : Nat} (hn : A ≠ A') (i : Nat) (v : Value) : ItB (W.setCell ⟨A', i, none⟩ v) A k nm p := (Below.heap_setCell W ⟨A', i, none⟩ v A (by simpa using hn)).trans h
/-- all that lay there but block A -/
structure But (A : Nat) (W Y : World) : Prop where
  os : Y.os = W.os
  tape : Y.tape = W.tape
  output : Y.output = W.output
  size : W.heap.size ≤ Y.heap.size
  block : ∀ k, k ≠ A → k < W.heap.size → Y.heap[k]? = W.heap[k]?
theorem But.refl (A : Nat) (W : World) : But A W W := ⟨rfl, rfl, rfl, Nat.le_refl _, fun _ _ _ => rfl⟩
theorem But.set {A : Nat} {W Y : World} (h : But A W Y) (i : Nat) (v : Value) : But A W (Y.setCell ⟨A, i, none⟩ v) := by
  have hs := (Below.refl A Y).setCell (p := ⟨A, i, none⟩) (Nat.le_refl _) v
  exact ⟨hs.os.trans h.os, hs.tape.trans h.tape, hs.output.trans h.output, Nat.le_trans h.size hs.size, fun k hk hl => (Below.heap_setCell Y ⟨A, i, none⟩ v k (by simpa using hk)).trans (h.block k hk hl)⟩
theorem But.drew {A : Nat} {W Y : World} (h : But A W Y) : But A W Y.drew := ⟨h.os, h.tape, h.output, h.size, h.block⟩
theorem Rd.but {W Y : World} {b g cap : Nat} {dv : Value} {ts : List Tok} {xb : Nat → Prop} {σ : RS} (h : Rd W b g cap dv ts xb σ) {A : Nat} {cs : Array Value} {T : TypeId} {fr : Nat × Nat} (hA : W.heap[A]? = some (.cells cs T fr)) (h1 : T ≠ 59) (h2 : T ≠ 3) (hb : b < A) (hy : But A W Y) : Rd Y b g cap dv ts xb σ := by
  have hs := h.size
  obtain ⟨o, c, hc, q, q1, q2, q3⟩ := h.blk
  refine ⟨fun k hk => Nat.lt_of_lt_of_le (h.xlt k hk) hy.size, ⟨o, c, (hy.block b (by omega) hs).trans hc, q, q1, rd_own_same q2 fun k e => hy.block k ?_ (q2.lt k e).2, fun p hp => ⟨rd_own_same (q3 p hp).1 fun k e => hy.block k ?_ ((q3 p hp).1.lt k e).2, (q3 p hp).2⟩⟩, row_low h.row (hy.block g (by have := h.lt; omega) (by have := h.lt; omega)), h.lt, h.at_, h.len, h.ends⟩
  · rintro rfl
    obtain ⟨_, cs', hk⟩ := own_type q2 e
    rw [hA] at hk; cases hk; exact h1 rfl
  · rintro rfl
    obtain ⟨_, cs', hk⟩ := own_type (q3 p hp).1 e
    rw [hA] at hk; cases hk; exact h2 rfl
theorem RK.but {b : Nat} {W V Y : World} (h : RK b W V) {A : Nat} (hA : W.heap.size ≤ A) (hb : b < A) (hbs : b < W.heap.size) (hy : But A V Y) : RK b W Y :=
  ⟨hy.os.trans h.os, hy.tape.trans h.tape, hy.output.trans h.output, Nat.le_trans h.size hy.size, fun k hk => (hy.block k (by omega) (by have := h.size; omega)).trans (h.low k hk), fun k o hk hkb hn => by
    have := heap_lt hk
    exact (hy.block k (by omega) (by have := h.size; omega)).trans (h.keep k o hk hkb hn)⟩
/-- an item's answer -/
def ItRet (b g cap : Nat) (dv : Value) (ts : List Tok) (xb : Nat → Prop) (W : World) (k : Int) (nm : ByteArray) (p : Int) (ok : Bool) (σ : RS) (r : Ending) (Y : World) : Prop :=
  RdRet b g cap dv ts xb W (.tuple #[.agg (itA k nm p), .bool ok]) σ r Y
theorem tok_kind {ts : List Tok} {s : List UInt8} {σ : RS} (h : isS ts s σ = true) : (tokL ts σ.at_).kind ≠ 5 := (isS_kind h).1
set_option maxHeartbeats 8000000 in
set_option maxRecDepth 100000 in
theorem item_out (b g cap : Nat) (dv : Value) (ts : List Tok) (xb : Nat → Prop) (σ : RS) (ho : isS ts [111, 117, 116] σ = true) (W : World) (h : Hid (Rd W b g cap dv ts xb σ)) :
    Calls Tryz.prog 120 #[.pointer (some ⟨b, 0, none⟩), .bool true] W fun r Y => ItRet b g cap dv ts xb W 8 (str (nameV ts (stepS σ))) ((tokL ts σ.at_).at_ : Int) (decide ((wantS ts [59] (nameS ts (stepS σ))).code = 0)) (wantS ts [59] (nameS ts (stepS σ))) r Y := by
  have TF : Hid (∀ (d : Array UInt8) W, d.toList ≠ [111, 117, 116] → Hid (Rd W b g cap dv ts xb σ) → Calls Tryz.prog 77 #[.pointer (some ⟨b, 0, none⟩), .string ⟨d⟩] W fun r Y => RdRet b g cap dv ts xb W (.bool false) σ r Y) := Lib.hid fun d W hd h => by
    have := took_false (b := b) (g := g) (cap := cap) (dv := dv) (xb := xb) d.toList (isS_one ho (Ne.symm hd)) W h
    simpa [str] using this
  have TT : Hid (∀ W, Hid (Rd W b g cap dv ts xb σ) → Calls Tryz.prog 77 #[.pointer (some ⟨b, 0, none⟩), .string ⟨#[111, 117, 116]⟩] W fun r Y => RdRet b g cap dv ts xb W (.bool true) (stepS σ) r Y) := Lib.hid fun W h => took_true [111, 117, 116] ho W h
  have NM := Lib.hid (fun W h => name_any b g cap dv ts xb (stepS σ) W h)
  obtain ⟨nv, hnv⟩ : ∃ nv, nv = nameV ts (stepS σ) := ⟨_, rfl⟩
  obtain ⟨y, hy⟩ : ∃ y, y = nameS ts (stepS σ) := ⟨_, rfl⟩
  rw [← hnv, ← hy] at NM
  rw [← hnv, ← hy]
  have WT : Hid (∀ W, Hid (Rd W b g cap dv ts xb y) → Calls Tryz.prog 78 #[.pointer (some ⟨b, 0, none⟩), .string ⟨#[59]⟩] W fun r Y => RdRet b g cap dv ts xb W (.tuple #[]) (wantS ts [59] y) r Y) := Lib.hid fun W h => want_any b g cap dv ts xb y [59] W h
  obtain ⟨z, hz⟩ : ∃ z, z = wantS ts [59] y := ⟨_, rfl⟩
  rw [← hz] at WT
  rw [← hz]
  obtain ⟨zc, hzc⟩ : ∃ zc, zc = z.code := ⟨_, rfl⟩
  rw [← hzc]
  have HZC := Lib.hid hzc
  clear hzc
  obtain ⟨ps0, hps0⟩ : ∃ ps0, ps0 = (tokL ts σ.at_).at_ := ⟨_, rfl⟩
  rw [← hps0]
  have HPS0 := Lib.hid hps0
  clear hnv hy hz hps0 ho
  obtain ⟨o, c, ⟨c0, c1, c3, c4, c5, c6, fr⟩, hx⟩ := h.out.cells
  have ht := h.out.tok
  have hgb : g ≠ b := by have := h.out.lt; omega
  have hl := h.out.at_
  have hn := h.out.len
  obtain ⟨t0, t1, t2, t3⟩ := ht
  obtain ⟨n, hnn⟩ : ∃ n, n = ts.length := ⟨_, rfl⟩
  obtain ⟨a, haa⟩ : ∃ a, a = σ.at_ := ⟨_, rfl⟩
  obtain ⟨cd, hcd⟩ : ∃ cd, cd = σ.code := ⟨_, rfl⟩
  obtain ⟨ps, hps⟩ : ∃ ps, ps = σ.pos := ⟨_, rfl⟩
  obtain ⟨dp, hdp⟩ : ∃ dp, dp = σ.deep := ⟨_, rfl⟩
  obtain ⟨kd, hkd⟩ : ∃ kd, kd = (tokL ts σ.at_).kind := ⟨_, rfl⟩
  obtain ⟨tx, htx⟩ : ∃ tx, tx = (tokL ts σ.at_).text := ⟨_, rfl⟩
  obtain ⟨tv, htv⟩ : ∃ tv, tv = (tokL ts σ.at_).v := ⟨_, rfl⟩
  obtain ⟨p, hp⟩ : ∃ p, p = (tokL ts σ.at_).at_ := ⟨_, rfl⟩
  rw [← hnn] at c0 hl hn
  rw [← hkd] at t0
  rw [← htx] at t1
  rw [← htv] at t2
  rw [← hp] at t3
  rw [← haa] at c1 t0 t1 t2 t3 hl
  rw [← hcd] at c5
  rw [← hdp] at c4
  rw [← hps] at c6
  have k0 : ((a : Nat) : Int) < (n : Int) := by omega
  have f1 := fr 1
  have f4 := fr 4
  have f5 := fr 5
  have f6 := fr 6
  have HCD := Lib.hid hcd
  have HPS := Lib.hid hps
  have HDP := Lib.hid hdp
  have HKD := Lib.hid hkd
  have HTX := Lib.hid htx
  have HTV := Lib.hid htv
  have HP := Lib.hid hp
  have HAA := Lib.hid haa
  have HNN := Lib.hid hnn
  clear fr hx hnn haa hcd hps hdp hkd htx htv hp c3
  have hbs : b < W.heap.size := h.out.size
  go_enter Tryz.func120, Tryz.ntmps120
  go_wp2_with fail
  go_region_held3 (fun w' => w'.cell? ⟨b, 0, none⟩ = some (.slice (some ⟨g, 0, none⟩) n cap) ∧ w'.cell? ⟨b, 1, none⟩ = some (.int .i64 (a : Int)) ∧ w'.cell? ⟨g, a * 4 + 3, none⟩ = some (.int .i64 (p : Int)))
    ((repeat' apply And.intro) <;> first | assumption | exact cell_set2 (by assumption) (by omega) | go_keep)
    (fail)
  obtain ⟨A, hA⟩ : ∃ A, A = W.heap.size := ⟨_, rfl⟩
  obtain ⟨V, hV⟩ : ∃ V, V = ((W.alloc (.cells #[.int .i64 0, .string ⟨#[]⟩, .int .i64 0, .int .i64 0, .int .i64 0, .slice none 0 0, .string ⟨#[]⟩, .string ⟨#[]⟩, .int .i64 0] 62)).alloc (.cells #[.int .i64 0, .string ⟨#[]⟩, .int .i64 0, .int .i64 0, .int .i64 0, .slice none 0 0, .string ⟨#[]⟩, .string ⟨#[]⟩, .int .i64 (p : Int)] 62)).drew := ⟨_, rfl⟩
  have hbV : Below W.heap.size W V := by rw [hV]; exact (((Below.refl _ _).alloc (Nat.le_refl _) _).alloc (by simp) _).drew
  have HB0 : Hid (ItB V A 0 ⟨#[]⟩ 0) := Lib.hid (by
    unfold ItB
    rw [hV, hA]
    exact (heap_alloc_old _ _ (by simp)).trans (heap_alloc_new W _))
  have HB1 : Hid (ItB V (A + 1) 0 ⟨#[]⟩ (p : Int)) := Lib.hid (by
    unfold ItB
    have := heap_alloc_new (W.alloc (.cells (itA 0 ⟨#[]⟩ 0) 62)) (.cells (itA 0 ⟨#[]⟩ p) 62)
    rw [World.size_alloc, ← hA] at this
    rw [hV]; exact this)
  have HR : Hid (Rd V b g cap dv ts xb σ) := Lib.hid (h.out.below hbV)
  have HT : Hid (RK b W V) := Lib.hid (RK.of_below hbV (Nat.le_of_lt hbs))
  rw [← hV, ← hA]
  have HAW := Lib.hid hA
  have hbA : b < A := by omega
  have HPP : Hid (ps0 = p) := Lib.hid (by rw [HPS0.out, HP.out])
  clear hV hA hbV hbs hgb hn hl k0 t0 t1 t2 t3 c0 c1 c4 c5 c6 f1 f4 f5 f6 HCD HPS HDP HKD HTX HTV HAA HNN HP HPS0
  go_wp2_with (first
    | (go_at_call 77; (with_reducible refine Calls.mono (TF.out _ _ ?_ HR) ?_); (focus exact (by decide)); (rintro e w1 ⟨rfl, hr, hk⟩); have HX0 := HB0; have HX1 := HB1; have HTx := HT; clear HR HB0 HB1 HT; have HR := Lib.hid hr; have HB0 := Lib.hid (HX0.out.keep hk (by omega)); have HB1 := Lib.hid (HX1.out.keep hk (by omega)); have HT := Lib.hid (HTx.out.trans hk); clear hr hk HX0 HX1 HTx)
    | (go_at_call 77; (with_reducible refine Calls.mono (TT.out _ HR) ?_); (rintro e w2 ⟨rfl, hr, hk⟩); have HR2 := Lib.hid hr; have HC0 := Lib.hid (HB0.out.keep hk (by omega)); have HC1 := Lib.hid (HB1.out.keep hk (by omega)); have HT2 := Lib.hid (HT.out.trans hk); clear hr hk; obtain ⟨x0, x1, _, _, _, _, _, _, _, xf⟩ := HC1.out.cells; have x2 := xf 0; clear xf))
  obtain ⟨w3, hw3⟩ : ∃ w3, w3 = w2.setCell ⟨A + 1, 0, none⟩ (.int .i64 8) := ⟨_, rfl⟩
  have HR3 : Hid (Rd w3 b g cap dv ts xb (stepS σ)) := Lib.hid (by rw [hw3]; exact HR2.out.setBox HC1.out (by decide) (by decide) (by omega) _ _)
  have HD0 : Hid (ItB w3 A 0 ⟨#[]⟩ 0) := Lib.hid (by rw [hw3]; exact HC0.out.other (by omega) _ _)
  have HD1 : Hid (ItB w3 (A + 1) 8 ⟨#[]⟩ (p : Int)) := Lib.hid (by rw [hw3]; exact HC1.out.set rfl)
  have HT3 : Hid (RK b W w3) := Lib.hid (by rw [hw3]; exact HT2.out.setNew (by have := HAW.out; omega) (by omega) _ _)
  rw [← hw3]
  clear hw3 x0 x1 x2 HR2 HC0 HC1 HT2 HR HB0 HB1 HT
  refine (NM.out w3 HR3).mono ?_
  rintro e w4 ⟨rfl, hr, hk⟩
  dsimp only
  have HR4 := Lib.hid hr
  have HE0 := Lib.hid (HD0.out.keep hk (by omega))
  have HE1 := Lib.hid (HD1.out.keep hk (by omega))
  have HT4 := Lib.hid (HT3.out.trans hk)
  clear hr hk
  obtain ⟨_, x1, _, _, _, _, _, _, _, xf⟩ := HE1.out.cells
  have x2 := xf 1
  clear xf
  go_wp2_with fail
  obtain ⟨w5, hw5⟩ : ∃ w5, w5 = w4.setCell ⟨A + 1, 1, none⟩ (.string (str nv)) := ⟨_, rfl⟩
  have HR5 : Hid (Rd w5 b g cap dv ts xb y) := Lib.hid (by rw [hw5]; exact HR4.out.setBox HE1.out (by decide) (by decide) (by omega) _ _)
  have HF0 : Hid (ItB w5 A 0 ⟨#[]⟩ 0) := Lib.hid (by rw [hw5]; exact HE0.out.other (by omega) _ _)
  have HF1 : Hid (ItB w5 (A + 1) 8 (str nv) (p : Int)) := Lib.hid (by rw [hw5]; exact HE1.out.set rfl)
  have HT5 : Hid (RK b W w5) := Lib.hid (by rw [hw5]; exact HT4.out.setNew (by have := HAW.out; omega) (by omega) _ _)
  rw [← hw5]
  clear hw5 x1 x2 HR4 HE0 HE1 HT4 HR3 HD0 HD1 HT3
  refine (WT.out w5 HR5).mono ?_
  rintro e w6 ⟨rfl, hr, hk⟩
  dsimp only
  have HR6 := Lib.hid hr
  have HG0 := Lib.hid (HF0.out.keep hk (by omega))
  have HG1 := Lib.hid (HF1.out.keep hk (by omega))
  have HT6 := Lib.hid (HT5.out.trans hk)
  clear hr hk
  obtain ⟨m0, m1, m2, m3, m4, m5, m6, m7, m8, mf⟩ := HG1.out.cells
  obtain ⟨n0, n1, n2, n3, n4, n5, n6, n7, n8, nf⟩ := HG0.out.cells
  obtain ⟨_, _, ⟨_, _, _, _, c5, _, _⟩, _⟩ := HR6.out.cells
  rw [← HZC.out] at c5
  clear HR5 HF0 HF1 HT5
  have f0 := nf 0
  have f1 := nf 1
  have f2 := nf 2
  have f3 := nf 3
  have f4 := nf 4
  have f5 := nf 5
  have f6 := nf 6
  have f7 := nf 7
  have f8 := nf 8
  clear nf mf
  go_wp2_with fail
  have mixed : Tryz.prog.follows .mixedOrders = true := by kernel_rfl
  go_region_o
  obtain ⟨Y, hY⟩ : ∃ Y, Y = (((((((((w6.setCell ⟨A, 0, none⟩ (.int .i64 8)).setCell ⟨A, 1, none⟩ (.string (str nv))).setCell ⟨A, 2, none⟩ (.int .i64 0)).setCell ⟨A, 3, none⟩ (.int .i64 0)).setCell ⟨A, 4, none⟩ (.int .i64 0)).setCell ⟨A, 5, none⟩ (.slice none 0 0)).setCell ⟨A, 6, none⟩ (.string ⟨#[]⟩)).setCell ⟨A, 7, none⟩ (.string ⟨#[]⟩)).setCell ⟨A, 8, none⟩ (.int .i64 (p : Int))).drew := ⟨_, rfl⟩
  rw [← hY]
  have HB := Lib.hid (show But A w6 Y by rw [hY]; exact ((((((((((But.refl A w6).set 0 _).set 1 _).set 2 _).set 3 _).set 4 _).set 5 _).set 6 _).set 7 _).set 8 _).drew)
  have HY : Hid (ItB Y A 8 (str nv) (p : Int)) := Lib.hid (by
    rw [hY]
    exact it_copy HG0.out 8 (str nv) p)
  clear hY n0 n1 n2 n3 n4 n5 n6 n7 n8 m0 m1 m2 m3 m4 m5 m6 m7 m8 f0 f1 f2 f3 f4 f5 f6 f7 f8 c5
  go_wp2_with fail
  obtain ⟨r0, r1, r2, r3, r4, r5, r6, r7, r8, _⟩ := HY.out.cells
  have hz : (zc == 0) = decide (zc = 0) := by by_cases h : zc = 0 <;> simp [h]
  refine bodyPost_ret (v := .tuple #[.agg (itA 8 (str nv) (p : Int)), .bool (decide (zc = 0))]) (by simp [hz, results, Tryz.results120, go_sem, itA, r0, r1, r2, r3, r4, r5, r6, r7, r8]) rfl ?_
  rw [HPP.out]
  exact ⟨rfl, HR6.out.but HG0.out (by decide) (by decide) hbA HB.out, HT6.out.but (by have := HAW.out; omega) hbA h.out.size HB.out⟩
end Go.Proofs.YtappngloeieafaaGreat
