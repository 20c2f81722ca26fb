/- The reference's reader: fail, Is, Took, Want, Name, enter. -/
import Derived.Test.YtnlbfdhhdnapnaaGreatRdMem
import Derived.WalkKit
import Derived.BigQuiet
import Derived.Deep.QuietTactic
import Derived.Deep.RegionHeld3
import Derived.WalkSpells
namespace Go.Proofs.YtnlbfdhhdnapnaaGreat
open Go.RowKit Lx

/-- a method's answer -/
def RdRet (b g cap : Nat) (dv : Value) (ts : List Tok) (xb : Nat → Prop) (W : World) (v : Value) (σ : RS) (r : Ending) (Y : World) : Prop := r = .returned v ∧ Rd Y b g cap dv ts xb σ ∧ RK b W Y
theorem cell_set2 {W : World} {b i j c k : Nat} {x y v : Value} (h : W.cell? ⟨c, k, none⟩ = some v) (hn : c ≠ b ∨ (k ≠ i ∧ k ≠ j)) : ((W.setCell ⟨b, i, none⟩ x).setCell ⟨b, j, none⟩ y).drew.cell? ⟨c, k, none⟩ = some v := by
  show ((W.setCell ⟨b, i, none⟩ x).setCell ⟨b, j, none⟩ y).cell? ⟨c, k, none⟩ = some v
  rw [World.cell?_setCell_other _ _ _ _ (by intro e; injection e with e1 e2; omega), World.cell?_setCell_other _ _ _ _ (by intro e; injection e with e1 e2; omega)]
  exact h
set_option maxHeartbeats 4000000 in
theorem fail_any (b g cap : Nat) (dv : Value) (ts : List Tok) (xb : Nat → Prop) (σ : RS) (e : Int) (W : World) (h : Hid (Rd W b g cap dv ts xb σ)) :
    Calls Tryz.prog 51 #[.pointer (some ⟨b, 0, none⟩), .int .i64 e] W fun r Y => RdRet b g cap dv ts xb W (.tuple #[]) (failS ts e σ) r Y := by
  obtain ⟨o, c, ⟨c0, c1, c3, c4, c5, c6, fr⟩, hx⟩ := h.out.cells
  have ht := h.out.tok
  have hgb : g ≠ b := by have := h.out.lt; omega
  have hl := h.out.at_
  have hn := h.out.len
  obtain ⟨t0, t1, t2, t3⟩ := ht
  obtain ⟨n, hnn⟩ : ∃ n, n = ts.length := ⟨_, rfl⟩
  obtain ⟨a, haa⟩ : ∃ a, a = σ.at_ := ⟨_, rfl⟩
  obtain ⟨cd, hcd⟩ : ∃ cd, cd = σ.code := ⟨_, rfl⟩
  obtain ⟨ps, hps⟩ : ∃ ps, ps = σ.pos := ⟨_, rfl⟩
  obtain ⟨dp, hdp⟩ : ∃ dp, dp = σ.deep := ⟨_, rfl⟩
  obtain ⟨kd, hkd⟩ : ∃ kd, kd = (tokL ts σ.at_).kind := ⟨_, rfl⟩
  obtain ⟨tx, htx⟩ : ∃ tx, tx = (tokL ts σ.at_).text := ⟨_, rfl⟩
  obtain ⟨tv, htv⟩ : ∃ tv, tv = (tokL ts σ.at_).v := ⟨_, rfl⟩
  obtain ⟨p, hp⟩ : ∃ p, p = (tokL ts σ.at_).at_ := ⟨_, rfl⟩
  rw [← hnn] at c0 hl hn
  rw [← hkd] at t0
  rw [← htx] at t1
  rw [← htv] at t2
  rw [← hp] at t3
  rw [← haa] at c1 t0 t1 t2 t3 hl
  rw [← hcd] at c5
  rw [← hdp] at c4
  rw [← hps] at c6
  have k0 : ((a : Nat) : Int) < (n : Int) := by omega
  have f1 := fr 1
  have f4 := fr 4
  have f5 := fr 5
  have f6 := fr 6
  have HCD := Lib.hid hcd
  have HPS := Lib.hid hps
  have HDP := Lib.hid hdp
  have HKD := Lib.hid hkd
  have HTX := Lib.hid htx
  have HTV := Lib.hid htv
  have HP := Lib.hid hp
  have HAA := Lib.hid haa
  have HNN := Lib.hid hnn
  clear fr hx hnn haa hcd hps hdp hkd htx htv hp c3
  by_cases hz : cd = 0
  · subst hz
    have d5 : W.drew.cell? ⟨b, 5, none⟩ = some (.int .i64 0) := c5
    have d6 : W.drew.cell? ⟨b, 6, none⟩ = some (.int .i64 ps) := c6
    have e5 : W.drew.frozen? ⟨b, 5, none⟩ = false := f5
    have e6 : W.drew.frozen? ⟨b, 6, none⟩ = false := f6
    go_enter Tryz.func51, Tryz.ntmps51
    go_wp2_with fail
    go_region_held3 (fun w' => w'.cell? ⟨b, 0, none⟩ = some (.slice (some ⟨g, 0, none⟩) n cap) ∧ w'.cell? ⟨b, 1, none⟩ = some (.int .i64 (a : Int)) ∧ w'.cell? ⟨g, a * 4 + 3, none⟩ = some (.int .i64 (p : Int)))
      ((repeat' apply And.intro) <;> first | assumption | exact cell_set2 (by assumption) (by omega) | go_keep)
      (fail)
    go_wp2_with fail
    go_end0
    have hf : failS ts e σ = { σ with code := e, pos := (p : Int) } := by unfold failS; rw [if_pos HCD.out.symm, HP.out]
    rw [hf]
    have hb := below_dr (Below.refl W.heap.size W) 1
    exact ⟨rfl, (h.out.below hb).setBad e p, (RK.of_below hb (Nat.le_of_lt h.out.size)).trans ((RK.set 5 _).trans (RK.set 6 _))⟩
  · have k1 : (cd == 0) = false := beq_false_of_ne hz
    go_enter Tryz.func51, Tryz.ntmps51
    go_wp2_with fail
    go_end0
    have hf : failS ts e σ = σ := by unfold failS; rw [if_neg (by rw [← HCD.out]; exact hz)]
    rw [hf]
    exact ⟨rfl, h.out, RK.refl _ _⟩
/-- a token in a box of the call's own -/
def box4 (W : World) (k : Nat) (tx : List UInt8) (v : Int) (p : Nat) : World := (((((W.alloc (.cells #[.int .i64 0, .string ⟨#[]⟩, .int .i64 0, .int .i64 0] 95)).setCell ⟨W.heap.size, 0, none⟩ (.int .i64 (k : Int))).setCell ⟨W.heap.size, 1, none⟩ (.string (str tx))).setCell ⟨W.heap.size, 2, none⟩ (.int .i64 v)).setCell ⟨W.heap.size, 3, none⟩ (.int .i64 (p : Int)))
set_option maxHeartbeats 8000000 in
theorem is_any (b g cap : Nat) (dv : Value) (ts : List Tok) (xb : Nat → Prop) (σ : RS) (s : List UInt8) (W : World) (h : Hid (Rd W b g cap dv ts xb σ)) :
    Calls Tryz.prog 81 #[.pointer (some ⟨b, 0, none⟩), .string (str s)] W fun r Y => r = .returned (.bool (isS ts s σ)) ∧ Below W.heap.size W Y := by
  obtain ⟨o, c, ⟨c0, c1, c3, c4, c5, c6, fr⟩, hx⟩ := h.out.cells
  have ht := h.out.tok
  have hgb : g ≠ b := by have := h.out.lt; omega
  have hl := h.out.at_
  have hn := h.out.len
  obtain ⟨t0, t1, t2, t3⟩ := ht
  obtain ⟨n, hnn⟩ : ∃ n, n = ts.length := ⟨_, rfl⟩
  obtain ⟨a, haa⟩ : ∃ a, a = σ.at_ := ⟨_, rfl⟩
  obtain ⟨cd, hcd⟩ : ∃ cd, cd = σ.code := ⟨_, rfl⟩
  obtain ⟨ps, hps⟩ : ∃ ps, ps = σ.pos := ⟨_, rfl⟩
  obtain ⟨dp, hdp⟩ : ∃ dp, dp = σ.deep := ⟨_, rfl⟩
  obtain ⟨kd, hkd⟩ : ∃ kd, kd = (tokL ts σ.at_).kind := ⟨_, rfl⟩
  obtain ⟨tx, htx⟩ : ∃ tx, tx = (tokL ts σ.at_).text := ⟨_, rfl⟩
  obtain ⟨tv, htv⟩ : ∃ tv, tv = (tokL ts σ.at_).v := ⟨_, rfl⟩
  obtain ⟨p, hp⟩ : ∃ p, p = (tokL ts σ.at_).at_ := ⟨_, rfl⟩
  rw [← hnn] at c0 hl hn
  rw [← hkd] at t0
  rw [← htx] at t1
  rw [← htv] at t2
  rw [← hp] at t3
  rw [← haa] at c1 t0 t1 t2 t3 hl
  rw [← hcd] at c5
  rw [← hdp] at c4
  rw [← hps] at c6
  have k0 : ((a : Nat) : Int) < (n : Int) := by omega
  have f1 := fr 1
  have f4 := fr 4
  have f5 := fr 5
  have f6 := fr 6
  have HCD := Lib.hid hcd
  have HPS := Lib.hid hps
  have HDP := Lib.hid hdp
  have HKD := Lib.hid hkd
  have HTX := Lib.hid htx
  have HTV := Lib.hid htv
  have HP := Lib.hid hp
  have HAA := Lib.hid haa
  have HNN := Lib.hid hnn
  clear fr hx hnn haa hcd hps hdp hkd htx htv hp c3
  have hgs : g < W.heap.size := by have := h.out.lt; have := h.out.size; omega
  have hbs : b < W.heap.size := h.out.size
  obtain ⟨R, hR⟩ : ∃ R, R = isS ts s σ := ⟨_, rfl⟩
  rw [← hR]
  have HR : Hid (R = (decide (cd = 0) && ((decide (kd = 3) || decide (kd = 4)) && tx == s))) := Lib.hid (by rw [hR, HCD.out, HKD.out, HTX.out]; rfl)
  clear hR
  have HB := Lib.hid (((Below.refl W.heap.size W).alloc (Nat.le_refl _) (.cells #[.int .i64 (kd : Int), .string (str tx), .int .i64 tv, .int .i64 (p : Int)] 95)).drew)
  obtain ⟨b5, x0, x1⟩ : (W.alloc (.cells #[.int .i64 (kd : Int), .string (str tx), .int .i64 tv, .int .i64 (p : Int)] 95)).drew.cell? ⟨b, 5, none⟩ = some (.int .i64 cd) ∧
      (W.alloc (.cells #[.int .i64 (kd : Int), .string (str tx), .int .i64 tv, .int .i64 (p : Int)] 95)).drew.cell? ⟨W.heap.size, 0, none⟩ = some (.int .i64 (kd : Int)) ∧
      (W.alloc (.cells #[.int .i64 (kd : Int), .string (str tx), .int .i64 tv, .int .i64 (p : Int)] 95)).drew.cell? ⟨W.heap.size, 1, none⟩ = some (.string (str tx)) :=
    ⟨(HB.out.cell (p := ⟨b, 5, none⟩) hbs).trans c5, by show (W.alloc _).cell? _ = _; rw [World.cell?_alloc_new]; rfl, by show (W.alloc _).cell? _ = _; rw [World.cell?_alloc_new]; rfl⟩
  by_cases hz : cd = 0
  · subst hz
    by_cases h3 : kd = 3
    · subst h3
      by_cases he : tx = s
      · have hq : ((str tx).toList == (str s).toList) = true := by rw [he]; simp
        have HE := Lib.hid he
        clear he
        go_enter Tryz.func81, Tryz.ntmps81
        go_wp2_with fail
        go_region_held3 (fun w' => w'.cell? ⟨b, 0, none⟩ = some (.slice (some ⟨g, 0, none⟩) n cap) ∧ w'.cell? ⟨b, 1, none⟩ = some (.int .i64 (a : Int)) ∧ w'.cell? ⟨g, a * 4, none⟩ = some (.int .i64 (3 : Int)) ∧ w'.cell? ⟨g, a * 4 + 1, none⟩ = some (.string (str tx)) ∧ w'.cell? ⟨g, a * 4 + 2, none⟩ = some (.int .i64 tv) ∧ w'.cell? ⟨g, a * 4 + 3, none⟩ = some (.int .i64 (p : Int)))
          ((repeat' apply And.intro) <;> first | assumption | go_keep)
          (fail)
        go_wp2_with fail
        go_ret
        exact ⟨by rw [HR.out]; simp [HE.out], HB.out⟩
      · have hq : ((str tx).toList == (str s).toList) = false := by rw [bytes_eq]; exact beq_false_of_ne he
        have HE := Lib.hid he
        clear he
        go_enter Tryz.func81, Tryz.ntmps81
        go_wp2_with fail
        go_region_held3 (fun w' => w'.cell? ⟨b, 0, none⟩ = some (.slice (some ⟨g, 0, none⟩) n cap) ∧ w'.cell? ⟨b, 1, none⟩ = some (.int .i64 (a : Int)) ∧ w'.cell? ⟨g, a * 4, none⟩ = some (.int .i64 (3 : Int)) ∧ w'.cell? ⟨g, a * 4 + 1, none⟩ = some (.string (str tx)) ∧ w'.cell? ⟨g, a * 4 + 2, none⟩ = some (.int .i64 tv) ∧ w'.cell? ⟨g, a * 4 + 3, none⟩ = some (.int .i64 (p : Int)))
          ((repeat' apply And.intro) <;> first | assumption | go_keep)
          (fail)
        go_wp2_with fail
        go_ret
        exact ⟨by rw [HR.out]; simp [HE.out], HB.out⟩
    · have n3 : ((kd : Int) == 3) = false := beq_false_of_ne (by omega)
      by_cases h4 : kd = 4
      · subst h4
        by_cases he : tx = s
        · have hq : ((str tx).toList == (str s).toList) = true := by rw [he]; simp
          have HE := Lib.hid he
          clear he
          go_enter Tryz.func81, Tryz.ntmps81
          go_wp2_with fail
          go_region_held3 (fun w' => w'.cell? ⟨b, 0, none⟩ = some (.slice (some ⟨g, 0, none⟩) n cap) ∧ w'.cell? ⟨b, 1, none⟩ = some (.int .i64 (a : Int)) ∧ w'.cell? ⟨g, a * 4, none⟩ = some (.int .i64 (4 : Int)) ∧ w'.cell? ⟨g, a * 4 + 1, none⟩ = some (.string (str tx)) ∧ w'.cell? ⟨g, a * 4 + 2, none⟩ = some (.int .i64 tv) ∧ w'.cell? ⟨g, a * 4 + 3, none⟩ = some (.int .i64 (p : Int)))
            ((repeat' apply And.intro) <;> first | assumption | go_keep)
            (fail)
          go_wp2_with fail
          go_ret
          exact ⟨by rw [HR.out]; simp [HE.out], HB.out⟩
        · have hq : ((str tx).toList == (str s).toList) = false := by rw [bytes_eq]; exact beq_false_of_ne he
          have HE := Lib.hid he
          clear he
          go_enter Tryz.func81, Tryz.ntmps81
          go_wp2_with fail
          go_region_held3 (fun w' => w'.cell? ⟨b, 0, none⟩ = some (.slice (some ⟨g, 0, none⟩) n cap) ∧ w'.cell? ⟨b, 1, none⟩ = some (.int .i64 (a : Int)) ∧ w'.cell? ⟨g, a * 4, none⟩ = some (.int .i64 (4 : Int)) ∧ w'.cell? ⟨g, a * 4 + 1, none⟩ = some (.string (str tx)) ∧ w'.cell? ⟨g, a * 4 + 2, none⟩ = some (.int .i64 tv) ∧ w'.cell? ⟨g, a * 4 + 3, none⟩ = some (.int .i64 (p : Int)))
            ((repeat' apply And.intro) <;> first | assumption | go_keep)
            (fail)
          go_wp2_with fail
          go_ret
          exact ⟨by rw [HR.out]; simp [HE.out], HB.out⟩
      · have n4 : ((kd : Int) == 4) = false := beq_false_of_ne (by omega)
        go_enter Tryz.func81, Tryz.ntmps81
        go_wp2_with fail
        go_region_held3 (fun w' => w'.cell? ⟨b, 0, none⟩ = some (.slice (some ⟨g, 0, none⟩) n cap) ∧ w'.cell? ⟨b, 1, none⟩ = some (.int .i64 (a : Int)) ∧ w'.cell? ⟨g, a * 4, none⟩ = some (.int .i64 (kd : Int)) ∧ w'.cell? ⟨g, a * 4 + 1, none⟩ = some (.string (str tx)) ∧ w'.cell? ⟨g, a * 4 + 2, none⟩ = some (.int .i64 tv) ∧ w'.cell? ⟨g, a * 4 + 3, none⟩ = some (.int .i64 (p : Int)))
          ((repeat' apply And.intro) <;> first | assumption | go_keep)
          (fail)
        go_wp2_with fail
        go_ret
        exact ⟨by rw [HR.out]; simp [h3, h4], HB.out⟩
  · have n0 : (cd == 0) = false := beq_false_of_ne hz
    go_enter Tryz.func81, Tryz.ntmps81
    go_wp2_with fail
    go_region_held3 (fun w' => w'.cell? ⟨b, 0, none⟩ = some (.slice (some ⟨g, 0, none⟩) n cap) ∧ w'.cell? ⟨b, 1, none⟩ = some (.int .i64 (a : Int)) ∧ w'.cell? ⟨g, a * 4, none⟩ = some (.int .i64 (kd : Int)) ∧ w'.cell? ⟨g, a * 4 + 1, none⟩ = some (.string (str tx)) ∧ w'.cell? ⟨g, a * 4 + 2, none⟩ = some (.int .i64 tv) ∧ w'.cell? ⟨g, a * 4 + 3, none⟩ = some (.int .i64 (p : Int)))
      ((repeat' apply And.intro) <;> first | assumption | go_keep)
      (fail)
    go_wp2_with fail
    go_ret
    exact ⟨by rw [HR.out]; simp [hz], HB.out⟩
end Go.Proofs.YtnlbfdhhdnapnaaGreat
