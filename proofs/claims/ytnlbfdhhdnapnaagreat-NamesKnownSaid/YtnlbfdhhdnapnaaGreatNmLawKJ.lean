/- The law NamesKnown answers true: over any program and any number. -/
import Derived.Test.YtnlbfdhhdnapnaaGreatNmJK
import Derived.Test.YtnlbfdhhdnapnaaGreatNmRefMayJ
import Derived.Test.YtnlbfdhhdnapnaaGreatNmJB
import Derived.Deep.RegionWith
import Derived.Deep.Cut
namespace Go.Proofs.YtnlbfdhhdnapnaaGreat
open Go.RowKit Lx Go.Shelf Go.Lib

theorem ix_vars {o : Option Addr} {n cap b off : Nat} (h : 0 < n → o = some ⟨b, off, none⟩) {j : Nat} (hj : j < n) (hn : n ≤ 9223372036854775807) : Ix 31 4 (.slice o n cap) b off j := by
  intro W
  rw [h (by omega)]
  have h1 : (j : Int) < (n : Int) := by omega
  have h2 : (j : Int) ≤ 9223372036854775807 := by omega
  go_simp
def kLen : Value → Nat
  | .int _ z => (z + 1).toNat
  | _ => 0
theorem set4_box {W : World} {B : Nat} {y : Va} {a b c e : Value} {T : TypeId} (h : W.heap[B]? = some (.cells #[a, b, c, e] T (0, 0))) : ((((W.setCell ⟨B, 0, none⟩ (.string y.name)).setCell ⟨B, 1, none⟩ (.int .i64 y.sort)).setCell ⟨B, 2, none⟩ (.int .i64 y.type)).setCell ⟨B, 3, none⟩ (.int .i64 y.index)).heap[B]? = some (.cells (vaB y) T (0, 0)) := set_hp (set_hp (set_hp (set_hp h 0 _) 1 _) 2 _) 3 _
theorem set4_below {w W : World} {B : Nat} (y : Va) (hB : w.heap.size ≤ B) (h : Below w.heap.size w W) : Below w.heap.size w ((((W.setCell ⟨B, 0, none⟩ (.string y.name)).setCell ⟨B, 1, none⟩ (.int .i64 y.sort)).setCell ⟨B, 2, none⟩ (.int .i64 y.type)).setCell ⟨B, 3, none⟩ (.int .i64 y.index)) :=
  (((h.setCell (p := ⟨B, 0, none⟩) hB _).setCell (p := ⟨B, 1, none⟩) hB _).setCell (p := ⟨B, 2, none⟩) hB _).setCell (p := ⟨B, 3, none⟩) hB _
theorem leafA {P : Prop} {wr w7 : World} {y : Va} (hb : Below wr.drew.heap.size wr.drew w7) (hy : P) : Below wr.heap.size wr (w7.alloc (.cells #[.string y.name, .int .i64 y.sort, .int .i64 y.type, .int .i64 y.index] 36)) ∧ wr.heap.size ≤ w7.heap.size ∧ (w7.alloc (.cells #[.string y.name, .int .i64 y.sort, .int .i64 y.type, .int .i64 y.index] 36)).heap[w7.heap.size]? = some (.cells (vaB y) 36 (0, 0)) ∧ P := by
  have h0 : Below wr.heap.size wr w7 := ⟨hb.os, hb.tape, hb.output, hb.size, hb.block⟩
  exact ⟨h0.alloc h0.size _, h0.size, al_new rfl, hy⟩
theorem leafB {P : Prop} {wr w7 : World} {y : Va} (hb : Below (wr.alloc (.cells #[.string ⟨#[]⟩, .int .i64 0, .int .i64 0, .int .i64 0] 36)).drew.heap.size (wr.alloc (.cells #[.string ⟨#[]⟩, .int .i64 0, .int .i64 0, .int .i64 0] 36)).drew w7) (hy : P) : Below wr.heap.size wr ((((w7.setCell ⟨wr.heap.size, 0, none⟩ (.string y.name)).setCell ⟨wr.heap.size, 1, none⟩ (.int .i64 y.sort)).setCell ⟨wr.heap.size, 2, none⟩ (.int .i64 y.type)).setCell ⟨wr.heap.size, 3, none⟩ (.int .i64 y.index)) ∧ wr.heap.size ≤ wr.heap.size ∧ ((((w7.setCell ⟨wr.heap.size, 0, none⟩ (.string y.name)).setCell ⟨wr.heap.size, 1, none⟩ (.int .i64 y.sort)).setCell ⟨wr.heap.size, 2, none⟩ (.int .i64 y.type)).setCell ⟨wr.heap.size, 3, none⟩ (.int .i64 y.index)).heap[wr.heap.size]? = some (.cells (vaB y) 36 (0, 0)) ∧ P := by
  have h1 := (Below.refl wr.heap.size wr).alloc (Nat.le_refl _) (.cells #[.string ⟨#[]⟩, .int .i64 0, .int .i64 0, .int .i64 0] 36)
  have h2 : Below (wr.alloc (.cells #[.string ⟨#[]⟩, .int .i64 0, .int .i64 0, .int .i64 0] 36)).heap.size (wr.alloc (.cells #[.string ⟨#[]⟩, .int .i64 0, .int .i64 0, .int .i64 0] 36)) w7 := ⟨hb.os, hb.tape, hb.output, hb.size, hb.block⟩
  exact ⟨set4_below y (Nat.le_refl _) (h1.trans (h2.mono h1.size)), Nat.le_refl _, set4_box ((h2.block _ (lt_of_heap (al_new rfl))).trans (al_new rfl)), hy⟩
set_option maxHeartbeats 8000000 in
set_option maxRecDepth 100000 in
theorem known_core (o1 o2 : Option Addr) (dcap cap m n : Nat) (p : Pr) (d : Int) (w : World) (hpa : Hid (ProgAt w (.slice o1 m dcap) (.slice o2 n cap) p)) :
    Calls Tryz.prog 7 #[.agg #[.slice o1 m dcap, .slice o2 n cap], .int .i64 d] w fun e w' => e = .returned (.bool true) ∧ Below w.heap.size w w' := by
  have hb0 := Lib.hid (below_al (Below.refl w.heap.size w) (.cells #[.slice o1 m dcap, .slice o2 n cap] 25))
  have hB0 := Lib.hid (World.alloc_heap_new w (.cells #[.slice o1 m dcap, .slice o2 n cap] 25))
  have CA := Lib.hid (alive_nm (w.alloc (.cells #[.slice o1 m dcap, .slice o2 n cap] 25)))
  have CG : Hid (∀ W, Below w.heap.size w W → Calls Tryz.prog 10 #[.agg #[.slice o1 m dcap, .slice o2 n cap]] W fun e w' => GreatPost p W e w') := Lib.hid fun W hW => great_any _ _ p W (hpa.out.below hW)
  obtain ⟨W0, hW0⟩ : ∃ W0, W0 = w.alloc (.cells #[.slice o1 m dcap, .slice o2 n cap] 25) := ⟨_, rfl⟩
  go_enter Tryz.func7, Tryz.ntmps7
  go_wp2_with (fail)
  rw [← hW0] at hb0 hB0 CA ⊢
  go_at_call 9
  ((with_reducible refine CA.out.mono ?_))
  rintro r w1 ⟨rfl, hb⟩
  have hB1 := (hb.block _ (lt_of_heap hB0.out)).trans hB0.out
  have g1 : w1.cell? ⟨w.heap.size, 0, none⟩ = some (.slice o1 m dcap) := by simp [World.cell?, hB1]
  have g2 : w1.cell? ⟨w.heap.size, 1, none⟩ = some (.slice o2 n cap) := by simp [World.cell?, hB1]
  have hb1 := Lib.hid (hb0.out.trans (hb.mono hb0.out.size))
  clear hb hB1 CA
  go_wp2_with (fail)
  go_at_call 10
  ((with_reducible refine (CG.out w1 hb1.out).mono ?_))
  rintro r w2 ⟨g, rfl, hg, hb⟩
  have q1 := cell_on hb g1
  have q2 := cell_on hb g2
  have hb2 := Lib.hid (hb1.out.trans (hb.mono hb1.out.size))
  clear hb g1 g2 CG
  cases g with
  | true =>
    clear hg
    go_wp2_with (fail)
    exact ⟨rfl, _, results_tmp (t := 4) (by kernel_rfl) _ _ _, rfl, hb2.out⟩
  | false =>
    have hS := Lib.hid (hg rfl)
    have CM := Lib.hid (refMayN_any _ _ p w2 (hpa.out.below hb2.out) hS.out)
    obtain ⟨mb, hmb⟩ : ∃ mb, mb = mayN p := ⟨_, rfl⟩
    rw [← hmb] at CM
    clear hg
    go_wp2_with (fail)
    go_at_call 11
    ((with_reducible refine CM.out.mono ?_))
    rintro r w3 ⟨rfl, hb⟩
    have s1 := cell_on hb q1
    have s2 := cell_on hb q2
    have hb3 := Lib.hid (hb2.out.trans (hb.mono hb2.out.size))
    clear hb q1 q2 CM
    cases mb with
    | false =>
      clear hmb
      go_wp2_with (fail)
      exact ⟨rfl, _, results_tmp (t := 4) (by kernel_rfl) _ _ _, rfl, hb3.out⟩
    | true =>
      clear hmb
      obtain ⟨L, hL⟩ : ∃ L, L = varsN (declN p d) := ⟨_, rfl⟩
      have hLl : L.length ≤ 1200 := by rw [hL]; exact varsN_len _ (declN_small hS.out)
      have CV : Hid (Calls Tryz.prog 17 #[.agg #[.slice o1 m dcap, .slice o2 n cap], .int .i64 d] w3 fun r Y => ∃ v, r = .returned v ∧ VasAt Y v L ∧ Below w3.heap.size w3 Y) := Lib.hid (by rw [hL]; exact varsAll_any _ _ p d w3 (hpa.out.below hb3.out) hS.out)
      have CF : Hid (∀ (x : Va) (W : World), Below w.heap.size w W → x ∈ L → Calls Tryz.prog 19 #[.agg #[.slice o1 m dcap, .slice o2 n cap], .int .i64 d, .string x.name] W fun e w' => ∃ y, e = .returned (.tuple #[.agg #[.string y.name, .int .i64 y.sort, .int .i64 y.type, .int .i64 y.index], .bool true]) ∧ L.find? (fun y => decide (y.name = x.name)) = some y ∧ Below W.heap.size W w') := Lib.hid fun x W hW hx => (find_any _ _ p d x.name W (hpa.out.below hW) hS.out).mono fun e Y ⟨b, y, h1, h2, h3, h4⟩ => by
        rw [← hL] at h2 h3
        cases b with
        | true => exact ⟨y, h1, h2 rfl, h4⟩
        | false => exact absurd rfl ((h3 rfl).2 x hx)
      have HLL := Lib.hid hLl
      clear hL
      go_wp2_with (go_at_call 17; ((with_reducible refine CV.out.mono ?_)); rintro r w4 ⟨v4, rfl, hv4, hb⟩; have HV4 := Lib.hid hv4; obtain ⟨ov, cv, bv, fv, rfl, _, _, hov, hcv⟩ := hv4; have HOV := Lib.hid hov; have HCV := Lib.hid hcv; have r1 := cell_on hb s1; have r2 := cell_on hb s2; have hb4 := Lib.hid (hb3.out.trans (hb.mono hb3.out.size)); clear hb hov hcv s1 s2 CV)
      obtain ⟨l, hll⟩ : ∃ l, l = L.length := ⟨_, rfl⟩
      rw [← hll] at HOV HCV HLL ⊢
      have HLN := Lib.hid hll
      clear hll
      have hl2 : (l : Int) ≤ 1200 := by have := HLL.out; omega
      go_loopw [6] (fun i wr => ∃ c : Nat, i = .int .i64 (c : Int) ∧ c ≤ l ∧ Hid (Below w4.heap.size w4 wr)) (fun i _ => l - litLen i)
      case atStart => exact ⟨0, rfl, Nat.zero_le _, Lib.hid (Below.refl _ _)⟩
      case round =>
        obtain ⟨c, rfl, hc, hW⟩ := hrel
        have z1 := cell_on hW.out r1
        have z2 := cell_on hW.out r2
        rcases Nat.lt_or_ge c l with hlt | hge
        · have hl : (c : Int) < (l : Int) := by omega
          obtain ⟨x, hx⟩ : ∃ x, L[c]? = some x := ⟨_, List.getElem?_eq_getElem (by have := HLN.out; omega)⟩
          obtain ⟨u0, u1, u2, u3⟩ := HCV.out c hlt x hx
          have x0 := cell_on hW.out u0
          have ixc := ix_vars (cap := cv) HOV.out hlt (by omega)
          unfold Ix at ixc
          have HXC := Lib.hid hx
          have HBW := Lib.hid (hb4.out.trans (hW.out.mono hb4.out.size))
          have FD := Lib.hid (fun W (hw : Below wr.heap.size wr W) => CF.out x W (HBW.out.trans (hw.mono HBW.out.size)) (List.mem_of_getElem? HXC.out))
          clear hx u0 u1 u2 u3
          have hbd : Below wr.heap.size wr wr.drew := ⟨rfl, rfl, rfl, Nat.le_refl _, fun _ _ => rfl⟩
          have hbe : ∀ o, Below wr.heap.size wr (wr.alloc o).drew := fun o => by have h := (Below.refl wr.heap.size wr).alloc (Nat.le_refl _) o; exact ⟨h.os, h.tape, h.output, h.size, h.block⟩
          have x0a : ∀ o, (wr.alloc o).drew.cell? ⟨bv, fv + c * 4, none⟩ = some (.string x.name) := fun o => cell_on (hbe o) x0
          have z1a : ∀ o, (wr.alloc o).drew.cell? ⟨w.heap.size, 0, none⟩ = some (.slice o1 m dcap) := fun o => cell_on (hbe o) z1
          have z2a : ∀ o, (wr.alloc o).drew.cell? ⟨w.heap.size, 1, none⟩ = some (.slice o2 n cap) := fun o => cell_on (hbe o) z2
          have mixed : Tryz.prog.follows .mixedOrders = true := by kernel_rfl
          have late : Tryz.prog.follows .lateStores = true := by kernel_rfl
          go_wp2_with (fail)
          go_cut [7, 8] from 29 (fun s7 s8 wx => ∃ (B : Nat) (y : Va), s7 = .pointer (some ⟨B, 0, none⟩) ∧ s8 = .bool true ∧ Hid (Below wr.heap.size wr wx ∧ wr.heap.size ≤ B ∧ wx.heap[B]? = some (.cells (vaB y) 36 (0, 0)) ∧ L.find? (fun z => decide (z.name = x.name)) = some y))
          case first =>
            go_region_with (go_at_call 19; refine (FD.out _ ?_).mono ?_; (first | with_reducible exact hbd | with_reducible exact hbe _); rintro e w7 ⟨y, rfl, hy, hb7⟩; (first | (have hn7 := (hb7.block wr.heap.size (by show wr.heap.size < (wr.alloc _).heap.size; rw [World.size_alloc]; exact Nat.lt_succ_self _)).trans (World.alloc_heap_new wr _); obtain ⟨⟨c0, c1, c2, c3⟩, f0, f1, f2, f3⟩ := cells_four hn7; clear hn7) | skip))
            all_goals (go_wp2_with fail; go_meet)
            all_goals (first | with_reducible exact ⟨_, y, rfl, rfl, Lib.hid (leafA hb7 hy)⟩ | with_reducible exact ⟨_, y, rfl, rfl, Lib.hid (leafB hb7 hy)⟩ | trace_state)
          case rest =>
          obtain ⟨B, y, rfl, rfl, HX⟩ := hcut
          obtain ⟨wx, hwx⟩ : ∃ wx, wx = wc := ⟨_, rfl⟩
          rw [← hwx] at HX ⊢
          have HWX := Lib.hid (hW.out.trans (HX.out.1.mono hW.out.size))
          have x0' := cell_on HX.out.1 x0
          clear hwx hbe x0a z1a z2a hbd z1 z2 x0
          obtain ⟨F0, hF0⟩ : ∃ F0, F0 = firstDown L x.name (c + 1) c := ⟨_, rfl⟩
          have HF0 := Lib.hid hF0
          have FF : Hid (L[F0]? = some y ∧ F0 < l) := Lib.hid (by
            obtain ⟨r, z, h1, h2, h3, h4⟩ := firstDown_spec L x.name (c + 1) c (fun q hq => by rw [HXC.out] at hq; cases hq; rfl) (fun j h1 h2 => by omega) (by have := HLN.out; omega) (Nat.le_refl _)
            have h5 := find_first h2 h3 h4
            have h6 := HX.out.2.2.2
            rw [h5] at h6
            cases h6
            rw [hF0, h1]
            exact ⟨h2, by have := (List.getElem?_eq_some_iff.1 h2).1; have := HLN.out; omega⟩)
          clear hF0
          go_wp2_with (fail)
          go_loopw [9, 10] (fun s9 s10 wq => ∃ (a f : Nat), s9 = .int .i64 (f : Int) ∧ s10 = .int .i64 ((a : Int) - 1) ∧ a ≤ c + 1 ∧ f ≤ c ∧ Hid (firstDown L x.name a f = F0) ∧ Hid (Below wx.heap.size wx wq)) (fun _ s10 _ => kLen s10)
          case atStart => exact ⟨c + 1, c, rfl, by go_num, Nat.le_refl _, Nat.le_refl _, Lib.hid HF0.out.symm, Lib.hid (Below.refl _ _)⟩
          case round =>
            obtain ⟨a, f, rfl, h10, ha, hf, hfd, hQ⟩ := hrel
            rcases a with _ | a
            · rw [show (((0 : Nat) : Int) - 1) = -1 from rfl] at h10
              obtain rfl := h10
              have HF1 : Hid (f = F0) := hfd
              obtain rfl := HF1.out
              have hfl : f < l := FF.out.2
              have ixf := ix_vars (cap := cv) HOV.out hfl (by omega)
              unfold Ix at ixf
              obtain ⟨v0, v1, v2, v3⟩ := HCV.out f hfl y FF.out.1
              have e0 := cell_on hQ.out (cell_on HWX.out v0)
              have e1 := cell_on hQ.out (cell_on HWX.out v1)
              have e2 := cell_on hQ.out (cell_on HWX.out v2)
              have e3 := cell_on hQ.out (cell_on HWX.out v3)
              obtain ⟨⟨y0, y1, y2, y3⟩, _⟩ := cells_four ((hQ.out.block _ (lt_of_heap HX.out.2.2.1)).trans HX.out.2.2.1)
              clear v0 v1 v2 v3
              go_wp2_with (fail)
              go_quiet (fail)
              go_wp2_with (fail)
              exact ⟨⟨c + 1, by go_num, by omega, Lib.hid (HWX.out.trans ((hQ.out.trans ((below_dr (Below.refl _ _) _).mono hQ.out.size)).mono HWX.out.size))⟩, by simp [litLen]; omega⟩
            · have e10 : (((a + 1 : Nat) : Int) - 1) = (a : Int) := by omega
              rw [e10] at h10
              obtain rfl := h10
              clear e10
              have hal : a < l := by omega
              have hal2 : (a : Int) < (l : Int) := by omega
              obtain ⟨z, hz⟩ : ∃ z, L[a]? = some z := ⟨_, List.getElem?_eq_getElem (by have := HLN.out; omega)⟩
              have z0 := cell_on hQ.out (cell_on HWX.out (HCV.out a hal z hz).1)
              have x1 := cell_on hQ.out x0'
              have ixa := ix_vars (cap := cv) HOV.out hal (by omega)
              unfold Ix at ixa
              have HZ := Lib.hid hz
              have hge : (0 : Int) ≤ (a : Int) := by omega
              clear hz
              by_cases he : z.name = x.name
              · have qe : (z.name.toList == x.name.toList) = true := by rw [he]; simp
                have HE := Lib.hid he
                clear he
                go_wp2_with (fail)
                go_quiet (fail)
                go_wp2_with (fail)
                exact ⟨⟨a, a, rfl, by go_num, by omega, by omega, Lib.hid (by rw [← hfd.out]; show firstDown L x.name a a = firstDown L x.name a _; rw [if_pos (by rw [HZ.out]; simp [HE.out])]), Lib.hid (hQ.out.trans ((below_dr (Below.refl _ _) _).mono hQ.out.size))⟩, by simp [kLen]⟩
              · have qe : (z.name.toList == x.name.toList) = false := beq_false_of_ne fun h => he ((toListE _ _).1 h)
                have HE := Lib.hid he
                clear he
                go_wp2_with (fail)
                go_quiet (fail)
                go_wp2_with (fail)
                exact ⟨⟨a, f, rfl, by go_num, by omega, by omega, Lib.hid (by rw [← hfd.out]; show firstDown L x.name a f = firstDown L x.name a _; rw [if_neg (by rw [HZ.out]; simp [HE.out])]), Lib.hid (hQ.out.trans ((below_dr (Below.refl _ _) _).mono hQ.out.size))⟩, by simp [kLen]⟩
        · obtain rfl : c = l := by omega
          go_wp2_with (fail)
          go_ret
          exact ⟨rfl, hb4.out.trans (hW.out.mono hb4.out.size)⟩
theorem known_law (sd se : Value) (p : Pr) (d : Int) (w : World) (h : ProgAt w sd se p) : Calls Tryz.prog 7 #[.agg #[sd, se], .int .i64 d] w fun e w' => e = .returned (.bool true) ∧ Below w.heap.size w w' := by
  obtain ⟨⟨o1, dcap, db, doff, rfl, hd1, hd2, hd3, hd4⟩, ⟨o2, cap, b, off, rfl, he1, he2, he3, he4⟩, h3, h4⟩ := id h
  exact known_core o1 o2 dcap cap _ _ p d w (Lib.hid h)
end Go.Proofs.YtnlbfdhhdnapnaaGreat
