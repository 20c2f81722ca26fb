/- The reference's reader: atom, calls and 'is'. -/
import Derived.Test.YtnlbfdhhdnapnaaGreatRdAtom
import Derived.Deep.AppendLies
namespace Go.Proofs.YtnlbfdhhdnapnaaGreat
open Go.RowKit Lx

set_option maxHeartbeats 8000000 in
set_option maxRecDepth 100000 in
theorem atom_is (b g cap : Nat) (dv : Value) (ts : List Tok) (xb : Nat → Prop) (σ : RS) (W : World) (h : Hid (Rd W b g cap dv ts xb σ)) (_ : (tokL ts σ.at_).kind ≠ 2) (ht : isS ts [116, 114, 117, 101] σ = false) (hf : isS ts [102, 97, 108, 115, 101] σ = false) (h1 : (tokL ts σ.at_).kind = 1) (hi : isS ts [105, 115] (stepS σ) = true) (ok : okS (nameS ts (stepS (stepS σ))) = true) :
    Calls Tryz.prog 134 #[.pointer (some ⟨b, 0, none⟩)] W fun r Y => RdRet b g cap dv ts xb W (.int .i64 ((nameS ts (stepS (stepS σ))).exprs.length : Int)) (putS { ex0 with kind := 20, name := str (tokL ts σ.at_).text, state := str (nameV ts (stepS (stepS σ))), pos := ((tokL ts σ.at_).at_ : Int) } (nameS ts (stepS (stepS σ)))) r Y := by
  obtain ⟨o, c, ⟨c0, c1, c3, c4, c5, c6, fr⟩, hx⟩ := h.out.cells
  have ht := h.out.tok
  have hgb : g ≠ b := by have := h.out.lt; omega
  have hl := h.out.at_
  have hn := h.out.len
  obtain ⟨t0, t1, t2, t3⟩ := ht
  obtain ⟨n, hnn⟩ : ∃ n, n = ts.length := ⟨_, rfl⟩
  obtain ⟨a, haa⟩ : ∃ a, a = σ.at_ := ⟨_, rfl⟩
  obtain ⟨cd, hcd⟩ : ∃ cd, cd = σ.code := ⟨_, rfl⟩
  obtain ⟨ps, hps⟩ : ∃ ps, ps = σ.pos := ⟨_, rfl⟩
  obtain ⟨dp, hdp⟩ : ∃ dp, dp = σ.deep := ⟨_, rfl⟩
  obtain ⟨kd, hkd⟩ : ∃ kd, kd = (tokL ts σ.at_).kind := ⟨_, rfl⟩
  obtain ⟨tx, htx⟩ : ∃ tx, tx = (tokL ts σ.at_).text := ⟨_, rfl⟩
  obtain ⟨tv, htv⟩ : ∃ tv, tv = (tokL ts σ.at_).v := ⟨_, rfl⟩
  obtain ⟨p, hp⟩ : ∃ p, p = (tokL ts σ.at_).at_ := ⟨_, rfl⟩
  rw [← hnn] at c0 hl hn
  rw [← hkd] at t0
  rw [← htx] at t1
  rw [← htv] at t2
  rw [← hp] at t3
  rw [← haa] at c1 t0 t1 t2 t3 hl
  rw [← hcd] at c5
  rw [← hdp] at c4
  rw [← hps] at c6
  have k0 : ((a : Nat) : Int) < (n : Int) := by omega
  have f1 := fr 1
  have f4 := fr 4
  have f5 := fr 5
  have f6 := fr 6
  have HCD := Lib.hid hcd
  have HPS := Lib.hid hps
  have HDP := Lib.hid hdp
  have HKD := Lib.hid hkd
  have HTX := Lib.hid htx
  have HTV := Lib.hid htv
  have HP := Lib.hid hp
  have HAA := Lib.hid haa
  have HNN := Lib.hid hnn
  clear fr hx hnn haa hcd hps hdp hkd htx htv hp c3
  have hgs : g < W.heap.size := by have := h.out.lt; have := h.out.size; omega
  have hbs : b < W.heap.size := h.out.size
  have ha4 : (a : Int) ≤ 40000 := by omega
  obtain ⟨A, hA⟩ : ∃ A, A = W.heap.size := ⟨_, rfl⟩
  obtain ⟨W1, hW1⟩ : ∃ W1, W1 = (W.alloc (.cells #[.int .i64 (kd : Int), .string (str tx), .int .i64 tv, .int .i64 (p : Int)] 95)).drew := ⟨_, rfl⟩
  have hb1 : Below W.heap.size W W1 := by rw [hW1]; exact ((Below.refl W.heap.size W).alloc (Nat.le_refl _) _).drew
  have HBX : Hid (Box4 W1 A kd tx tv p) := Lib.hid (by rw [hW1, hA]; exact heap_alloc_new W _)
  have HR1 : Hid (Rd W1 b g cap dv ts xb σ) := Lib.hid (h.out.below hb1)
  have HK1 : Hid (RK b W W1) := Lib.hid (RK.of_below hb1 (Nat.le_of_lt hbs))
  have hbA : b ≠ A := by omega
  have q1 := (hb1.cell (p := ⟨b, 1, none⟩) hbs).trans c1
  have qf := (hb1.frozen (p := ⟨b, 1, none⟩) hbs).trans f1
  obtain ⟨x0, x1, x2, x3⟩ := HBX.out.cells
  have HAW := Lib.hid hA
  clear hb1
  have q2 : ((kd : Int) == 2) = false := beq_false_of_ne (by rw [HKD.out, h1]; decide)
  have q1' : ((kd : Int) == 1) = true := by rw [HKD.out, h1]; rfl
  have hk5 : (tokL ts σ.at_).kind ≠ 5 := by rw [h1]; decide
  have TK : Hid (∀ W, Hid (Rd W b g cap dv ts xb σ) → Hid (Box4 W A kd tx tv p) → Calls Tryz.prog 77 #[.pointer (some ⟨b, 0, none⟩), .string ⟨#[116, 114, 117, 101]⟩] W fun r Y => RdBox b g cap dv ts xb A kd tx tv p W (.bool false) σ a r Y) := Lib.hid fun W h hx => (took_false [116, 114, 117, 101] ht W h).mono fun r Y hr => hr.box (by first | exact HAA.out.symm | (rw [HAA.out]; rfl)) hx hbA
  have FK : Hid (∀ W, Hid (Rd W b g cap dv ts xb σ) → Hid (Box4 W A kd tx tv p) → Calls Tryz.prog 77 #[.pointer (some ⟨b, 0, none⟩), .string ⟨#[102, 97, 108, 115, 101]⟩] W fun r Y => RdBox b g cap dv ts xb A kd tx tv p W (.bool false) σ a r Y) := Lib.hid fun W h hx => (took_false [102, 97, 108, 115, 101] hf W h).mono fun r Y hr => hr.box (by first | exact HAA.out.symm | (rw [HAA.out]; rfl)) hx hbA
  have IK : Hid (∀ W, Hid (Rd W b g cap dv ts xb (stepS σ)) → Hid (Box4 W A kd tx tv p) → Calls Tryz.prog 77 #[.pointer (some ⟨b, 0, none⟩), .string ⟨#[105, 115]⟩] W fun r Y => RdBox b g cap dv ts xb A kd tx tv p W (.bool true) (stepS (stepS σ)) (a + 1 + 1) r Y) := Lib.hid fun W h hx => (took_true [105, 115] hi W h).mono fun r Y hr => hr.box (by first | exact HAA.out.symm | (rw [HAA.out]; rfl)) hx hbA
  obtain ⟨τ, hτ⟩ : ∃ τ, τ = nameS ts (stepS (stepS σ)) := ⟨_, rfl⟩
  obtain ⟨NV, hNV⟩ : ∃ NV, NV = str (nameV ts (stepS (stepS σ))) := ⟨_, rfl⟩
  rw [← hτ] at ok
  rw [← hτ, ← hNV]
  have NA : Hid (∀ W, Hid (Rd W b g cap dv ts xb (stepS (stepS σ))) → Hid (Box4 W A kd tx tv p) → Calls Tryz.prog 82 #[.pointer (some ⟨b, 0, none⟩)] W fun r Y => RdBox b g cap dv ts xb A kd tx tv p W (.string NV) τ τ.at_ r Y) := Lib.hid fun W h hx => (name_any b g cap dv ts xb (stepS (stepS σ)) W h).mono fun r Y hr => by
    rw [← hτ, ← hNV] at hr
    exact hr.box rfl hx hbA
  have PU : Hid (∀ W, Hid (Rd W b g cap dv ts xb τ) → Hid (Box4 W A kd tx tv p) → Calls Tryz.prog 79 #[.pointer (some ⟨b, 0, none⟩), .agg #[.int .i64 20, .int .i64 0, .int .i64 0, .int .i64 0, .string (str tx), .string NV, .int .i64 0, .slice none 0 0, .int .i64 (p : Int)]] W fun r Y => RdBox b g cap dv ts xb A kd tx tv p W (.int .i64 (τ.exprs.length : Int)) (putS { ex0 with kind := 20, name := str tx, state := NV, pos := (p : Int) } τ) τ.at_ r Y) :=
    Lib.hid fun W h hx => (put_any b g cap dv ts xb τ { ex0 with kind := 20, name := str tx, state := NV, pos := (p : Int) } none 0 0 W h (okS_iff.1 ok).1 (Lib.hid (World.ownsRow_nil _ _ _ _)) (Lib.hid fun k hk => by cases hk)).mono fun r Y hr => hr.box rfl hx hbA
  clear ok ht hf h1 hi hτ hNV
  go_enter Tryz.func134, Tryz.ntmps134
  go_wp2_with fail
  go_region_held3 (fun w' => w'.cell? ⟨b, 0, none⟩ = some (.slice (some ⟨g, 0, none⟩) n cap) ∧ w'.cell? ⟨b, 1, none⟩ = some (.int .i64 (a : Int)) ∧ w'.cell? ⟨g, a * 4, none⟩ = some (.int .i64 (kd : Int)) ∧ w'.cell? ⟨g, a * 4 + 1, none⟩ = some (.string (str tx)) ∧ w'.cell? ⟨g, a * 4 + 2, none⟩ = some (.int .i64 tv) ∧ w'.cell? ⟨g, a * 4 + 3, none⟩ = some (.int .i64 (p : Int)))
    ((repeat' apply And.intro) <;> first | assumption | go_keep)
    (fail)
  rw [← hW1, ← hA]
  clear hW1 hA t0 t1 t2 t3 c0 c1 c4 c5 c6 f1 f4 f5 f6 k0 hgs
  go_wp2_with (first
    | (go_at_call 77; (with_reducible refine (TK.out W1 HR1 HBX).mono ?_); rintro e w2 ⟨rfl, y0, y1, y3, yb, yf, HR2, HK2, HX2⟩)
    | (go_at_call 77; (with_reducible refine (FK.out w2 HR2 HX2).mono ?_); rintro e w3 ⟨rfl, y0, y1, y3, yb, yf, HR3, HK3, HX3⟩)
    | (go_at_call 77; (with_reducible refine (IK.out _ (rd_step HR3 hk5 HAA) (box_step HX3 hbA _)).mono ?_); rintro e w4 ⟨rfl, y0, y1, y3, yb, yf, HR4, HK4, HX4⟩))
  go_region_held3 (fun w' => w'.cell? ⟨A, 1, none⟩ = some (.string (str tx)) ∧ w'.cell? ⟨A, 3, none⟩ = some (.int .i64 (p : Int)))
    ((repeat' apply And.intro) <;> first | assumption | go_keep)
    (first
    | (go_at_call 82; (with_reducible refine (NA.out _ (rd_drew HR4) (box_drew HX4)).mono ?_); rintro e w5 ⟨rfl, z0, z1, z3, zb, zf, HR5, HK5, HX5⟩)
    | (go_at_call 79; (with_reducible refine (PU.out w5 HR5 HX5).mono ?_); rintro e w6 ⟨rfl, u0, u1, u3, ub, uf, HR6, HK6, HX6⟩))
  go_wp2_with fail
  go_ret
  rw [← HP.out, ← HTX.out]
  exact ⟨rfl, HR6.out, HK1.out.trans (HK2.out.trans (HK3.out.trans ((RK.set 1 _).trans (HK4.out.trans ((RK.of_below (Below.refl _ _).drew (Nat.le_of_lt HR4.out.size)).trans (HK5.out.trans HK6.out))))))⟩
end Go.Proofs.YtnlbfdhhdnapnaaGreat
