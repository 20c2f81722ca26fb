/- The reference's rule for a declaration: a hybrid without parameters. -/
import Derived.Test.YtappngloeieafaaGreatRdItems
namespace Go.Proofs.YtappngloeieafaaGreat
open Go.RowKit Lx

def declG (ts : List Tok) (f : Nat) (σ : RS) : Option (ByteArray × List It3 × Int × RS) :=
  if isS ts [102, 117, 110] σ = true ∨ isS ts [110, 111, 100, 101] σ = true then none else
  if isS ts [41] (wantS ts [40] (nameS ts (wantS ts [104, 121, 98, 114, 105, 100] σ))) = true then
    (itemsL ts f [] (wantS ts [123] (stepS (wantS ts [40] (nameS ts (wantS ts [104, 121, 98, 114, 105, 100] σ)))))).bind fun r =>
      some (str (nameV ts (wantS ts [104, 121, 98, 114, 105, 100] σ)), r.1, ((tokL ts σ.at_).at_ : Int), wantS ts [125] r.2)
  else none
def deA (k : Int) (nm : ByteArray) (v : Value) (p : Int) : Array Value := #[.int .i64 k, .string nm, .slice none 0 0, v, .int .i64 0, .int .i64 0, .int .i64 p]
def DeB (W : World) (A : Nat) (k : Int) (nm : ByteArray) (v : Value) (p : Int) : Prop := W.heap[A]? = some (.cells (deA k nm v p) 44 (0, 0))
theorem DeB.keep {b : Nat} {W Y : World} {A : Nat} {k : Int} {nm : ByteArray} {v : Value} {p : Int} (h : DeB W A k nm v p) (hk : RK b W Y) (hb : b ≠ A) : DeB Y A k nm v p := hk.keep A _ h (Ne.symm hb) (.of (by decide))
structure DeCells (W : World) (A : Nat) (k : Int) (nm : ByteArray) (v : Value) (p : Int) : Prop where
  c0 : W.cell? ⟨A, 0, none⟩ = some (.int .i64 k)
  c1 : W.cell? ⟨A, 1, none⟩ = some (.string nm)
  c2 : W.cell? ⟨A, 2, none⟩ = some (.slice none 0 0)
  c3 : W.cell? ⟨A, 3, none⟩ = some v
  c4 : W.cell? ⟨A, 4, none⟩ = some (.int .i64 0)
  c5 : W.cell? ⟨A, 5, none⟩ = some (.int .i64 0)
  c6 : W.cell? ⟨A, 6, none⟩ = some (.int .i64 p)
  fr : ∀ i, W.frozen? ⟨A, i, none⟩ = false
theorem DeB.cells {W : World} {A : Nat} {k : Int} {nm : ByteArray} {v : Value} {p : Int} (h : DeB W A k nm v p) : DeCells W A k nm v p := by
  unfold DeB deA at h
  exact ⟨by simp [World.cell?, h], by simp [World.cell?, h], by simp [World.cell?, h], by simp [World.cell?, h], by simp [World.cell?, h], by simp [World.cell?, h], by simp [World.cell?, h], fun i => by simp [World.frozen?, h]⟩
theorem DeB.set {W : World} {A : Nat} {k : Int} {nm : ByteArray} {v : Value} {p : Int} (h : DeB W A k nm v p) {i : Nat} {u : Value} {k' : Int} {nm' : ByteArray} {v' : Value} {p' : Int} (he : (deA k nm v p).setIfInBounds i u = deA k' nm' v' p') : DeB (W.setCell ⟨A, i, none⟩ u) A k' nm' v' p' := by
  unfold DeB at h ⊢
  rw [set_blk h, he]
theorem DeB.other {W : World} {A : Nat} {k : Int} {nm : ByteArray} {v : Value} {p : Int} (h : DeB W A k nm v p) {A' : Nat} (hn : A ≠ A') (i : Nat) (u : Value) : DeB (W.setCell ⟨A', i, none⟩ u) A k nm v p := (Below.heap_setCell W ⟨A', i, none⟩ u A (by simpa using hn)).trans h
theorem de_copy {W : World} {A : Nat} {k0 : Int} {n0 : ByteArray} {v0 : Value} {p0 : Int} (h : DeB W A k0 n0 v0 p0) (k : Int) (nm : ByteArray) (v : Value) (p : Int) :
    DeB (((((((W.setCell ⟨A, 0, none⟩ (.int .i64 k)).setCell ⟨A, 1, none⟩ (.string nm)).setCell ⟨A, 2, none⟩ (.slice none 0 0)).setCell ⟨A, 3, none⟩ v).setCell ⟨A, 4, none⟩ (.int .i64 0)).setCell ⟨A, 5, none⟩ (.int .i64 0)).setCell ⟨A, 6, none⟩ (.int .i64 p)) A k nm v p := by
  unfold DeB at h ⊢
  have h1 := set_blk h 0 (.int .i64 k)
  have h2 := set_blk h1 1 (.string nm)
  have h3 := set_blk h2 2 (.slice none 0 0)
  have h4 := set_blk h3 3 v
  have h5 := set_blk h4 4 (.int .i64 0)
  have h6 := set_blk h5 5 (.int .i64 0)
  have h7 := set_blk h6 6 (.int .i64 p)
  rw [h7]
  simp [deA]
def DeRet (b g cap : Nat) (dv : Value) (ts : List Tok) (xb : Nat → Prop) (W : World) (nm : ByteArray) (l : List It3) (p : Int) (σ : RS) (r : Ending) (Y : World) : Prop :=
  ∃ o c, r = .returned (.agg #[.int .i64 3, .string nm, .slice none 0 0, .slice o l.length c, .int .i64 0, .int .i64 0, .int .i64 p]) ∧ ItSt W Y b g cap dv ts xb σ l (.slice o l.length c)
set_option maxHeartbeats 8000000 in
set_option maxRecDepth 100000 in
theorem decl_core (b g cap : Nat) (dv : Value) (ts : List Tok) (xb : Nat → Prop) (σ x y z u τ : RS) (f : Nat) (nv : List UInt8) (R : List It3 × RS) (hf : isS ts [102, 117, 110] σ = false) (hn' : isS ts [110, 111, 100, 101] σ = false) (hx : x = wantS ts [104, 121, 98, 114, 105, 100] σ) (hv : nv = nameV ts x) (hy : y = nameS ts x)
    (hpar : isS ts [41] (wantS ts [40] y) = true) (hz : z = stepS (wantS ts [40] y)) (hu : u = wantS ts [123] z) (hi : itemsL ts f [] u = some R) (hτ : τ = wantS ts [125] R.2) (W : World) (h : Hid (Rd W b g cap dv ts xb σ)) :
    Calls Tryz.prog 50 #[.pointer (some ⟨b, 0, none⟩)] W fun r Y => DeRet b g cap dv ts xb W (str nv) R.1 ((tokL ts σ.at_).at_ : Int) τ r Y := by
  have TF : Hid (∀ W, Hid (Rd W b g cap dv ts xb σ) → Calls Tryz.prog 77 #[.pointer (some ⟨b, 0, none⟩), .string ⟨#[102, 117, 110]⟩] W fun r Y => RdRet b g cap dv ts xb W (.bool false) σ r Y) := Lib.hid fun W h => took_false [102, 117, 110] hf W h
  have TN : Hid (∀ W, Hid (Rd W b g cap dv ts xb σ) → Calls Tryz.prog 77 #[.pointer (some ⟨b, 0, none⟩), .string ⟨#[110, 111, 100, 101]⟩] W fun r Y => RdRet b g cap dv ts xb W (.bool false) σ r Y) := Lib.hid fun W h => took_false [110, 111, 100, 101] hn' W h
  have WH : Hid (∀ W, Hid (Rd W b g cap dv ts xb σ) → Calls Tryz.prog 78 #[.pointer (some ⟨b, 0, none⟩), .string ⟨#[104, 121, 98, 114, 105, 100]⟩] W fun r Y => RdRet b g cap dv ts xb W (.tuple #[]) x r Y) := Lib.hid fun W h => by rw [hx]; exact want_any b g cap dv ts xb σ [104, 121, 98, 114, 105, 100] W h
  have NM : Hid (∀ W, Hid (Rd W b g cap dv ts xb x) → Calls Tryz.prog 82 #[.pointer (some ⟨b, 0, none⟩)] W fun r Y => RdRet b g cap dv ts xb W (.string (str nv)) y r Y) := Lib.hid fun W h => by rw [hv, hy]; exact name_any b g cap dv ts xb x W h
  have PA : Hid (∀ W, Hid (Rd W b g cap dv ts xb y) → Calls Tryz.prog 83 #[.pointer (some ⟨b, 0, none⟩)] W fun r Y => RdRet b g cap dv ts xb W (.slice none 0 0) z r Y) := Lib.hid fun W h => by rw [hz]; exact params_none b g cap dv ts xb y hpar W h
  have WB : Hid (∀ W, Hid (Rd W b g cap dv ts xb z) → Calls Tryz.prog 78 #[.pointer (some ⟨b, 0, none⟩), .string ⟨#[123]⟩] W fun r Y => RdRet b g cap dv ts xb W (.tuple #[]) u r Y) := Lib.hid fun W h => by rw [hu]; exact want_any b g cap dv ts xb z [123] W h
  have IT : Hid (∀ W, Hid (Rd W b g cap dv ts xb u) → Calls Tryz.prog 84 #[.pointer (some ⟨b, 0, none⟩), .bool true] W fun r Y => ItsRet b g cap dv ts xb W R.1 R.2 r Y) := Lib.hid fun W h => items_any b g cap dv ts xb u f R (Lib.hid hi) W h
  have WE : Hid (∀ W, Hid (Rd W b g cap dv ts xb R.2) → Calls Tryz.prog 78 #[.pointer (some ⟨b, 0, none⟩), .string ⟨#[125]⟩] W fun r Y => RdRet b g cap dv ts xb W (.tuple #[]) τ r Y) := Lib.hid fun W h => by rw [hτ]; exact want_any b g cap dv ts xb R.2 [125] W h
  obtain ⟨ps0, hps0⟩ : ∃ ps0, ps0 = (tokL ts σ.at_).at_ := ⟨_, rfl⟩
  rw [← hps0]
  have HPS0 := Lib.hid hps0
  clear hf hn' hx hv hy hpar hz hu hi hτ hps0
  obtain ⟨R1, R2⟩ := R
  dsimp only at IT WE ⊢
  obtain ⟨o, c, ⟨c0, c1, c3, c4, c5, c6, fr⟩, hx⟩ := h.out.cells
  have ht := h.out.tok
  have hgb : g ≠ b := by have := h.out.lt; omega
  have hl := h.out.at_
  have hn := h.out.len
  obtain ⟨t0, t1, t2, t3⟩ := ht
  obtain ⟨n, hnn⟩ : ∃ n, n = ts.length := ⟨_, rfl⟩
  obtain ⟨a, haa⟩ : ∃ a, a = σ.at_ := ⟨_, rfl⟩
  obtain ⟨cd, hcd⟩ : ∃ cd, cd = σ.code := ⟨_, rfl⟩
  obtain ⟨ps, hps⟩ : ∃ ps, ps = σ.pos := ⟨_, rfl⟩
  obtain ⟨dp, hdp⟩ : ∃ dp, dp = σ.deep := ⟨_, rfl⟩
  obtain ⟨kd, hkd⟩ : ∃ kd, kd = (tokL ts σ.at_).kind := ⟨_, rfl⟩
  obtain ⟨tx, htx⟩ : ∃ tx, tx = (tokL ts σ.at_).text := ⟨_, rfl⟩
  obtain ⟨tv, htv⟩ : ∃ tv, tv = (tokL ts σ.at_).v := ⟨_, rfl⟩
  obtain ⟨p, hp⟩ : ∃ p, p = (tokL ts σ.at_).at_ := ⟨_, rfl⟩
  rw [← hnn] at c0 hl hn
  rw [← hkd] at t0
  rw [← htx] at t1
  rw [← htv] at t2
  rw [← hp] at t3
  rw [← haa] at c1 t0 t1 t2 t3 hl
  rw [← hcd] at c5
  rw [← hdp] at c4
  rw [← hps] at c6
  have k0 : ((a : Nat) : Int) < (n : Int) := by omega
  have f1 := fr 1
  have f4 := fr 4
  have f5 := fr 5
  have f6 := fr 6
  have HCD := Lib.hid hcd
  have HPS := Lib.hid hps
  have HDP := Lib.hid hdp
  have HKD := Lib.hid hkd
  have HTX := Lib.hid htx
  have HTV := Lib.hid htv
  have HP := Lib.hid hp
  have HAA := Lib.hid haa
  have HNN := Lib.hid hnn
  clear fr hx hnn haa hcd hps hdp hkd htx htv hp c3
  have hbs : b < W.heap.size := h.out.size
  go_enter Tryz.func50, Tryz.ntmps50
  go_wp2_with fail
  go_region_held3 (fun w' => w'.cell? ⟨b, 0, none⟩ = some (.slice (some ⟨g, 0, none⟩) n cap) ∧ w'.cell? ⟨b, 1, none⟩ = some (.int .i64 (a : Int)) ∧ w'.cell? ⟨g, a * 4 + 3, none⟩ = some (.int .i64 (p : Int)))
    ((repeat' apply And.intro) <;> first | assumption | exact cell_set2 (by assumption) (by omega) | go_keep)
    (fail)
  obtain ⟨A, hA⟩ : ∃ A, A = W.heap.size := ⟨_, rfl⟩
  obtain ⟨V, hV⟩ : ∃ V, V = ((W.alloc (.cells #[.int .i64 0, .string ⟨#[]⟩, .slice none 0 0, .slice none 0 0, .int .i64 0, .int .i64 0, .int .i64 0] 44)).alloc (.cells #[.int .i64 0, .string ⟨#[]⟩, .slice none 0 0, .slice none 0 0, .int .i64 0, .int .i64 0, .int .i64 (p : Int)] 44)).drew := ⟨_, rfl⟩
  have hbV : Below W.heap.size W V := by rw [hV]; exact (((Below.refl _ _).alloc (Nat.le_refl _) _).alloc (by simp) _).drew
  have HB0 : Hid (DeB V A 0 ⟨#[]⟩ (.slice none 0 0) 0) := Lib.hid (by
    unfold DeB
    rw [hV, hA]
    exact (heap_alloc_old _ _ (by simp)).trans (heap_alloc_new W _))
  have HB1 : Hid (DeB V (A + 1) 0 ⟨#[]⟩ (.slice none 0 0) (p : Int)) := Lib.hid (by
    unfold DeB
    have := heap_alloc_new (W.alloc (.cells (deA 0 ⟨#[]⟩ (.slice none 0 0) 0) 44)) (.cells (deA 0 ⟨#[]⟩ (.slice none 0 0) p) 44)
    rw [World.size_alloc, ← hA] at this
    rw [hV]; exact this)
  have HR : Hid (Rd V b g cap dv ts xb σ) := Lib.hid (h.out.below hbV)
  have HT : Hid (RK b W V) := Lib.hid (RK.of_below hbV (Nat.le_of_lt hbs))
  rw [← hV, ← hA]
  have HAW := Lib.hid hA
  have hbA : b < A := by omega
  have HPP : Hid (ps0 = p) := Lib.hid (by rw [HPS0.out, HP.out])
  clear hV hA hbV hgb hn hl k0 t0 t1 t2 t3 c0 c1 c4 c5 c6 f1 f4 f5 f6 HCD HPS HDP HKD HTX HTV HAA HNN HP HPS0
  go_wp2_with (first
    | (go_at_call 77; (with_reducible refine Calls.mono (TF.out V HR) ?_); (rintro e w1 ⟨rfl, hr, hk⟩); have HR1 := Lib.hid hr; have HC0 := Lib.hid (HB0.out.keep hk (by omega)); have HC1 := Lib.hid (HB1.out.keep hk (by omega)); have HT1 := Lib.hid (HT.out.trans hk); clear hr hk)
    | (go_at_call 77; (with_reducible refine Calls.mono (TN.out w1 HR1) ?_); (rintro e w2 ⟨rfl, hr, hk⟩); have HR2 := Lib.hid hr; have HD0 := Lib.hid (HC0.out.keep hk (by omega)); have HD1 := Lib.hid (HC1.out.keep hk (by omega)); have HT2 := Lib.hid (HT1.out.trans hk); clear hr hk; obtain ⟨x0, _, _, _, _, _, _, xf⟩ := HD1.out.cells; have x1 := xf 0; clear xf))
  obtain ⟨w3, hw3⟩ : ∃ w3, w3 = w2.setCell ⟨A + 1, 0, none⟩ (.int .i64 3) := ⟨_, rfl⟩
  have HR3 : Hid (Rd w3 b g cap dv ts xb σ) := Lib.hid (by rw [hw3]; exact HR2.out.setBox HD1.out (by decide) (by decide) (by omega) _ _)
  have HE0 : Hid (DeB w3 A 0 ⟨#[]⟩ (.slice none 0 0) 0) := Lib.hid (by rw [hw3]; exact HD0.out.other (by omega) _ _)
  have HE1 : Hid (DeB w3 (A + 1) 3 ⟨#[]⟩ (.slice none 0 0) (p : Int)) := Lib.hid (by rw [hw3]; exact HD1.out.set rfl)
  have HT3 : Hid (RK b W w3) := Lib.hid (by rw [hw3]; exact HT2.out.setNew (by have := HAW.out; omega) (by omega) _ _)
  rw [← hw3]
  clear hw3 x0 x1 HR2 HC0 HC1 HT1 HT2 HR1 HB0 HB1 HD0 HD1 HT HR
  refine (WH.out w3 HR3).mono ?_
  rintro e w4 ⟨rfl, hr, hk⟩
  dsimp only
  have HR4 := Lib.hid hr
  have HF0 := Lib.hid (HE0.out.keep hk (by omega))
  have HF1 := Lib.hid (HE1.out.keep hk (by omega))
  have HT4 := Lib.hid (HT3.out.trans hk)
  clear hr hk HR3 HE0 HE1 HT3
  go_wp2_with (go_at_call 82; (with_reducible refine Calls.mono (NM.out w4 HR4) ?_); (rintro e w5 ⟨rfl, hr, hk⟩); have HR5 := Lib.hid hr; have HG0 := Lib.hid (HF0.out.keep hk (by omega)); have HG1 := Lib.hid (HF1.out.keep hk (by omega)); have HT5 := Lib.hid (HT4.out.trans hk); clear hr hk; obtain ⟨_, x0, _, _, _, _, _, xf⟩ := HG1.out.cells; have x1 := xf 1; clear xf)
  obtain ⟨w6, hw6⟩ : ∃ w6, w6 = w5.setCell ⟨A + 1, 1, none⟩ (.string (str nv)) := ⟨_, rfl⟩
  have HR6 : Hid (Rd w6 b g cap dv ts xb y) := Lib.hid (by rw [hw6]; exact HR5.out.setBox HG1.out (by decide) (by decide) (by omega) _ _)
  have HH0 : Hid (DeB w6 A 0 ⟨#[]⟩ (.slice none 0 0) 0) := Lib.hid (by rw [hw6]; exact HG0.out.other (by omega) _ _)
  have HH1 : Hid (DeB w6 (A + 1) 3 (str nv) (.slice none 0 0) (p : Int)) := Lib.hid (by rw [hw6]; exact HG1.out.set rfl)
  have HT6 : Hid (RK b W w6) := Lib.hid (by rw [hw6]; exact HT5.out.setNew (by have := HAW.out; omega) (by omega) _ _)
  rw [← hw6]
  clear hw6 x0 x1 HR5 HG0 HG1 HT5 HR4 HF0 HF1 HT4
  refine (PA.out w6 HR6).mono ?_
  rintro e w7 ⟨rfl, hr, hk⟩
  dsimp only
  have HI0 := Lib.hid (HH0.out.keep hk (by omega))
  have HI1 := Lib.hid (HH1.out.keep hk (by omega))
  have HT7 := Lib.hid (HT6.out.trans hk)
  have HR8 : Hid (Rd (w7.setCell ⟨A + 1, 2, none⟩ (.slice none 0 0)) b g cap dv ts xb z) := Lib.hid (hr.setBox HI1.out (by decide) (by decide) (by omega) _ _)
  have HJ0 : Hid (DeB (w7.setCell ⟨A + 1, 2, none⟩ (.slice none 0 0)) A 0 ⟨#[]⟩ (.slice none 0 0) 0) := Lib.hid (HI0.out.other (by omega) _ _)
  have HJ1 : Hid (DeB (w7.setCell ⟨A + 1, 2, none⟩ (.slice none 0 0)) (A + 1) 3 (str nv) (.slice none 0 0) (p : Int)) := Lib.hid (HI1.out.set rfl)
  have HT8 : Hid (RK b W (w7.setCell ⟨A + 1, 2, none⟩ (.slice none 0 0))) := Lib.hid (HT7.out.setNew (by have := HAW.out; omega) (by omega) _ _)
  obtain ⟨_, _, x0, _, _, _, _, xf⟩ := HI1.out.cells
  have x1 := xf 2
  obtain ⟨x2, _, _, _, _, _, _, _⟩ := HJ1.out.cells
  clear hr hk xf HR6 HH0 HH1 HT6
  go_wp2_with (first
    | (go_at_call 78; (with_reducible refine Calls.mono (WB.out _ HR8) ?_); (rintro e w9 ⟨rfl, hr, hk⟩); have HR9 := Lib.hid hr; have HK0 := Lib.hid (HJ0.out.keep hk (by omega)); have HK1 := Lib.hid (HJ1.out.keep hk (by omega)); have HT9 := Lib.hid (HT8.out.trans hk); clear hr hk)
    | (go_at_call 84; (with_reducible refine Calls.mono (IT.out w9 HR9) ?_); (rintro e w10 ⟨v, rfl, hr, hk, ho⟩); obtain ⟨vo, vc, rfl⟩ := own_form ho; have HR10 := Lib.hid hr; have HO10 := Lib.hid ho; have HL0 := Lib.hid (HK0.out.keep hk (by omega)); have HL1 := Lib.hid (HK1.out.keep hk (by omega)); have HT10 := Lib.hid (HT9.out.trans hk); clear hr hk ho; obtain ⟨_, _, _, y0, _, _, _, yf⟩ := HL1.out.cells; have y1 := yf 3; clear yf))
  obtain ⟨w11, hw11⟩ : ∃ w11, w11 = w10.setCell ⟨A + 1, 3, none⟩ (.slice vo R1.length vc) := ⟨_, rfl⟩
  have HR11 : Hid (Rd w11 b g cap dv ts xb R2) := Lib.hid (by rw [hw11]; exact HR10.out.setBox HL1.out (by decide) (by decide) (by omega) _ _)
  have HM0 : Hid (DeB w11 A 0 ⟨#[]⟩ (.slice none 0 0) 0) := Lib.hid (by rw [hw11]; exact HL0.out.other (by omega) _ _)
  have HM1 : Hid (DeB w11 (A + 1) 3 (str nv) (.slice vo R1.length vc) (p : Int)) := Lib.hid (by rw [hw11]; exact HL1.out.set rfl)
  have HT11 : Hid (RK b W w11) := Lib.hid (by rw [hw11]; exact HT10.out.setNew (by have := HAW.out; omega) (by omega) _ _)
  have w9s : A + 1 < w9.heap.size := heap_lt HK1.out
  have HO11 : Hid (w11.ownsRow w9.heap.size 62 9 (.slice vo R1.length vc) R1.length (it3C R1)) := Lib.hid (by rw [hw11]; exact rd_own_same HO10.out fun k e => Below.heap_setCell w10 ⟨A + 1, 3, none⟩ _ k (by have := (HO10.out.lt k e).1; simp; omega))
  rw [← hw11]
  clear hw11 x0 x1 x2 y0 y1 HR10 HO10 HL0 HL1 HT10 HR9 HK0 HK1 HT9 HR8 HJ0 HJ1 HT8
  refine (WE.out w11 HR11).mono ?_
  rintro e w12 ⟨rfl, hr, hk⟩
  dsimp only
  have HR12 := Lib.hid hr
  have HN0 := Lib.hid (HM0.out.keep hk (by omega))
  have HN1 := Lib.hid (HM1.out.keep hk (by omega))
  have HT12 := Lib.hid (HT11.out.trans hk)
  have HO12 := Lib.hid (own_keepT HO11.out (by decide) (by omega) hk)
  clear hr hk HR11 HM0 HM1 HT11 HO11
  obtain ⟨m0, m1, m2, m3, m4, m5, m6, mf⟩ := HN1.out.cells
  obtain ⟨n0, n1, n2, n3, n4, n5, n6, nf⟩ := HN0.out.cells
  have f0 := nf 0
  have f1 := nf 1
  have f2 := nf 2
  have f3 := nf 3
  have f4 := nf 4
  have f5 := nf 5
  have f6 := nf 6
  clear nf mf
  go_wp2_with fail
  obtain ⟨Y, hY⟩ : ∃ Y, Y = (((((((w12.setCell ⟨A, 0, none⟩ (.int .i64 3)).setCell ⟨A, 1, none⟩ (.string (str nv))).setCell ⟨A, 2, none⟩ (.slice none 0 0)).setCell ⟨A, 3, none⟩ (.slice vo R1.length vc)).setCell ⟨A, 4, none⟩ (.int .i64 0)).setCell ⟨A, 5, none⟩ (.int .i64 0)).setCell ⟨A, 6, none⟩ (.int .i64 (p : Int))) := ⟨_, rfl⟩
  rw [← hY]
  have HB := Lib.hid (show But A w12 Y by rw [hY]; exact (((((((But.refl A w12).set 0 _).set 1 _).set 2 _).set 3 _).set 4 _).set 5 _).set 6 _)
  have HY : Hid (DeB Y A 3 (str nv) (.slice vo R1.length vc) (p : Int)) := Lib.hid (by rw [hY]; exact de_copy HN0.out 3 (str nv) _ p)
  clear hY n0 n1 n2 n3 n4 n5 n6 m0 m1 m2 m3 m4 m5 m6 f0 f1 f2 f3 f4 f5 f6
  obtain ⟨r0, r1, r2, r3, r4, r5, r6, _⟩ := HY.out.cells
  refine bodyPost_ret (v := .agg #[.int .i64 3, .string (str nv), .slice none 0 0, .slice vo R1.length vc, .int .i64 0, .int .i64 0, .int .i64 (p : Int)]) (by simp [results, Tryz.results50, go_sem, r0, r1, r2, r3, r4, r5, r6]) rfl ?_
  rw [HPP.out]
  refine ⟨vo, vc, rfl, HR12.out.but HN0.out (by decide) (by decide) hbA HB.out, HT12.out.but (by have := HAW.out; omega) hbA hbs HB.out, ?_⟩
  exact rd_own_same (own_base HO12.out (by have := HAW.out; omega)) fun k e => HB.out.block k (by have := (HO12.out.lt k e).1; omega) (HO12.out.lt k e).2
theorem decl_any (b g cap : Nat) (dv : Value) (ts : List Tok) (xb : Nat → Prop) (σ : RS) (f : Nat) (nm : ByteArray) (l : List It3) (p0 : Int) (τ : RS) (hr : declG ts f σ = some (nm, l, p0, τ)) (W : World) (h : Hid (Rd W b g cap dv ts xb σ)) :
    Calls Tryz.prog 50 #[.pointer (some ⟨b, 0, none⟩)] W fun r Y => DeRet b g cap dv ts xb W nm l p0 τ r Y := by
  unfold declG at hr
  split at hr
  · cases hr
  rename_i hfn
  split at hr
  case isFalse => cases hr
  rename_i hpar
  cases hi : itemsL ts f [] (wantS ts [123] (stepS (wantS ts [40] (nameS ts (wantS ts [104, 121, 98, 114, 105, 100] σ))))) with
  | none => rw [hi] at hr; cases hr
  | some R =>
    rw [hi] at hr
    cases hr
    exact decl_core b g cap dv ts xb σ _ _ _ _ _ f _ R (by simpa using fun e => hfn (.inl e)) (by simpa using fun e => hfn (.inr e)) rfl rfl rfl hpar rfl rfl hi rfl W h
end Go.Proofs.YtappngloeieafaaGreat
