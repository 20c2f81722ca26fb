/- The law NamesVars answers true: over any program, any number, any name. -/
import Derived.Test.YtnlbfdhhdnapnaaGreatNmJR
import Derived.Test.YtnlbfdhhdnapnaaGreatNmRefMayJ
import Derived.Test.YtnlbfdhhdnapnaaGreatNmJB
import Derived.Deep.RegionWith
import Derived.Deep.Cut
namespace Go.Proofs.YtnlbfdhhdnapnaaGreat
open Go.RowKit Lx Go.Shelf Go.Lib

/-- what Find finds -/
def findX (l : List Va) (nm : ByteArray) : Va := (l.find? fun y => decide (y.name = nm)).getD noVa
def findB (l : List Va) (nm : ByteArray) : Bool := (l.find? fun y => decide (y.name = nm)).isSome
theorem findPost_is {l : List Va} {nm : ByteArray} {w w' : World} {e : Ending} (h : FindPost l nm w e w') : e = .returned (.tuple #[.agg #[.string (findX l nm).name, .int .i64 (findX l nm).sort, .int .i64 (findX l nm).type, .int .i64 (findX l nm).index], .bool (findB l nm)]) ∧ Below w.heap.size w w' := by
  obtain ⟨b, x, rfl, h1, h2, h3⟩ := h
  refine ⟨?_, h3⟩
  cases b with
  | true => unfold findX findB; rw [h1 rfl]; rfl
  | false =>
    obtain ⟨rfl, hn⟩ := h2 rfl
    have : l.find? (fun y => decide (y.name = nm)) = none := List.find?_eq_none.2 fun y hy => by simpa using hn y hy
    unfold findX findB
    rw [this]
    rfl
theorem declN_may {p : Pr} {d : Int} (h : mayN p = false) : declN p d = noDe := by unfold declN; rw [if_neg (fun h2 => by rw [h] at h2; cases h2.2.2)]
theorem declN_out {p : Pr} {d : Int} (h : d < 0 ∨ (p.decls.length : Int) ≤ d) : declN p d = noDe := by unfold declN; rw [if_neg (fun h2 => by omega)]
theorem varsN_no : varsN noDe = [] := rfl
theorem rootsN_no : rootsN noDe = [] := rfl
theorem ix_nints {o : Option Addr} {n cap b off : Nat} (h : 0 < n → o = some ⟨b, off, none⟩) {j : Nat} (hj : j < n) (hn : n ≤ 9223372036854775807) : Ix 33 1 (.slice o n cap) b off j := by
  intro W
  rw [h (by omega)]
  have h1 : (j : Int) < (n : Int) := by omega
  have h2 : (j : Int) ≤ 9223372036854775807 := by omega
  go_simp
set_option maxHeartbeats 8000000 in
set_option maxRecDepth 100000 in
theorem varsLaw_core (o1 o2 : Option Addr) (dcap cap m n db doff : Nat) (p : Pr) (d : Int) (nm : ByteArray) (w : World) (hpa : Hid (ProgAt w (.slice o1 m dcap) (.slice o2 n cap) p)) (hml : Hid (m = p.decls.length)) (hd3 : Hid (0 < m → o1 = some ⟨db, doff, none⟩)) (hm2 : (m : Int) ≤ 140737488351232)
    (hd4 : Hid (∀ k, k < m → ∀ x, p.decls[k]? = some x → DeAt w db (doff + k * 7) x)) :
    Calls Tryz.prog 4 #[.agg #[.slice o1 m dcap, .slice o2 n cap], .int .i64 d, .string nm] w fun e w' => e = .returned (.bool true) ∧ Below w.heap.size w w' := by
  have hb0 := Lib.hid (below_al (Below.refl w.heap.size w) (.cells #[.slice o1 m dcap, .slice o2 n cap] 25))
  have hB0 := Lib.hid (World.alloc_heap_new w (.cells #[.slice o1 m dcap, .slice o2 n cap] 25))
  have CA := Lib.hid (alive_nm (w.alloc (.cells #[.slice o1 m dcap, .slice o2 n cap] 25)))
  have CG : Hid (∀ W, Below w.heap.size w W → Calls Tryz.prog 10 #[.agg #[.slice o1 m dcap, .slice o2 n cap]] W fun e w' => GreatPost p W e w') := Lib.hid fun W hW => great_any _ _ p W (hpa.out.below hW)
  obtain ⟨W0, hW0⟩ : ∃ W0, W0 = w.alloc (.cells #[.slice o1 m dcap, .slice o2 n cap] 25) := ⟨_, rfl⟩
  go_enter Tryz.func4, Tryz.ntmps4
  go_wp2_with (fail)
  rw [← hW0] at hb0 hB0 CA ⊢
  go_at_call 9
  ((with_reducible refine CA.out.mono ?_))
  rintro r w1 ⟨rfl, hb⟩
  have hB1 := (hb.block _ (lt_of_heap hB0.out)).trans hB0.out
  have g1 : w1.cell? ⟨w.heap.size, 0, none⟩ = some (.slice o1 m dcap) := by simp [World.cell?, hB1]
  have g2 : w1.cell? ⟨w.heap.size, 1, none⟩ = some (.slice o2 n cap) := by simp [World.cell?, hB1]
  have hb1 := Lib.hid (hb0.out.trans (hb.mono hb0.out.size))
  clear hb hB1 CA
  go_wp2_with (fail)
  go_at_call 10
  ((with_reducible refine (CG.out w1 hb1.out).mono ?_))
  rintro r w2 ⟨g, rfl, hg, hb⟩
  have q1 := cell_on hb g1
  have q2 := cell_on hb g2
  have hb2 := Lib.hid (hb1.out.trans (hb.mono hb1.out.size))
  clear hb g1 g2 CG
  cases g with
  | true =>
    clear hg
    go_wp2_with (fail)
    exact ⟨rfl, _, results_tmp (t := 6) (by kernel_rfl) _ _ _, rfl, hb2.out⟩
  | false =>
    have hS := Lib.hid (hg rfl)
    clear hg
    obtain ⟨L, hL⟩ : ∃ L, L = varsN (declN p d) := ⟨_, rfl⟩
    obtain ⟨R, hR⟩ : ∃ R, R = rootsN (declN p d) := ⟨_, rfl⟩
    have hLl : L.length ≤ 1200 := by rw [hL]; exact varsN_len _ (declN_small hS.out)
    have hRl : R.length ≤ 1201 := by rw [hR]; have h1 := rootsN_len (declN p d); have h2 := declN_small (d := d) hS.out; omega
    obtain ⟨y, hy⟩ : ∃ y, y = findX L nm := ⟨_, rfl⟩
    obtain ⟨bb, hbb⟩ : ∃ bb, bb = findB L nm := ⟨_, rfl⟩
    obtain ⟨mb, hmb⟩ : ∃ mb, mb = mayN p := ⟨_, rfl⟩
    have CV : Hid (∀ W, Below w.heap.size w W → Calls Tryz.prog 17 #[.agg #[.slice o1 m dcap, .slice o2 n cap], .int .i64 d] W fun r Y => ∃ v, r = .returned v ∧ VasAt Y v L ∧ Below W.heap.size W Y) := Lib.hid fun W hW => by rw [hL]; exact varsAll_any _ _ p d W (hpa.out.below hW) hS.out
    have CR : Hid (∀ W, Below w.heap.size w W → Calls Tryz.prog 18 #[.agg #[.slice o1 m dcap, .slice o2 n cap], .int .i64 d] W fun r Y => ∃ v, r = .returned v ∧ IntsV Y v R ∧ Below W.heap.size W Y) := Lib.hid fun W hW => by rw [hR]; exact rootsAll_any _ _ p d W (hpa.out.below hW) hS.out
    have CF : Hid (∀ W, Below w.heap.size w W → Calls Tryz.prog 19 #[.agg #[.slice o1 m dcap, .slice o2 n cap], .int .i64 d, .string nm] W fun e Y => e = .returned (.tuple #[.agg #[.string y.name, .int .i64 y.sort, .int .i64 y.type, .int .i64 y.index], .bool bb]) ∧ Below W.heap.size W Y) := Lib.hid fun W hW => by rw [hy, hbb, hL]; exact (find_any _ _ p d nm W (hpa.out.below hW) hS.out).mono fun e Y h => findPost_is h
    have CM : Hid (∀ W, Below w.heap.size w W → Calls Tryz.prog 11 #[.agg #[.slice o1 m dcap, .slice o2 n cap]] W fun e w' => MayPost mb W e w') := Lib.hid fun W hW => by rw [hmb]; exact refMayN_any _ _ p W (hpa.out.below hW) hS.out
    have CD : Hid (∀ W, Below w.heap.size w W → Calls Tryz.prog 20 #[.agg #[.slice o1 m dcap, .slice o2 n cap], .string nm] W fun r Y => r = .returned (.int .i64 (if mb = true then declIx p.decls nm else -1)) ∧ Below W.heap.size W Y) := Lib.hid fun W hW => by rw [hmb]; exact nDecl_any _ _ p nm W (hpa.out.below hW) hS.out
    have CE : Hid (∀ W, Below w.heap.size w W → Calls Tryz.prog 21 #[.agg #[.slice o1 m dcap, .slice o2 n cap], .string nm] W fun r Y => r = .returned (.int .i64 (declIx p.decls nm)) ∧ Below W.heap.size W Y) := Lib.hid fun W hW => refDecl_any _ _ p nm W (hpa.out.below hW) hS.out
    have NO : Hid (declN p d = noDe → L = [] ∧ R = [] ∧ bb = false ∧ y = noVa) := Lib.hid fun h => by
      have e1 : L = [] := by rw [hL, h]; rfl
      refine ⟨e1, by rw [hR, h]; rfl, ?_, ?_⟩
      · rw [hbb, e1]; rfl
      · rw [hy, e1]; rfl
    have HL := Lib.hid hL
    have HR := Lib.hid hR
    have HY := Lib.hid hy
    have HBB := Lib.hid hbb
    have HMB := Lib.hid hmb
    clear hL hR hy hbb hmb
    have hbd : Below w2.heap.size w2 w2.drew := ⟨rfl, rfl, rfl, Nat.le_refl _, fun _ _ => rfl⟩
    have hbw2 : Below w.heap.size w w2.drew := hb2.out.trans (hbd.mono hb2.out.size)
    have mixed : Tryz.prog.follows .mixedOrders = true := by kernel_rfl
    have late : Tryz.prog.follows .lateStores = true := by kernel_rfl
    go_wp2_with (fail)
    go_cut [7, 8] from 17 (fun s7 s8 wx => Hid (VasAt wx s7 L ∧ IntsV wx s8 R ∧ Below w2.heap.size w2 wx))
    case first =>
      go_region_with (first
        | (go_at_call 17; refine (CV.out _ ?_).mono ?_; (with_reducible exact hbw2); rintro e w5 ⟨v7, rfl, hv7, hb5⟩; have k1 := cell_on hb5 q1; have k2 := cell_on hb5 q2; have hbw5 : Below w.heap.size w w5 := hbw2.trans (hb5.mono hbw2.size))
        | (go_at_call 18; refine (CR.out _ ?_).mono ?_; (with_reducible exact hbw5); rintro e w6 ⟨v8, rfl, hv8, hb6⟩))
      all_goals (go_wp2_with fail; go_meet)
      all_goals exact Lib.hid ⟨hv7.below hb6, hv8, hbd.trans ((hb5.trans (hb6.mono hb5.size)).mono hbd.size)⟩
    case rest =>
    obtain ⟨wx, hwx⟩ : ∃ wx, wx = wc := ⟨_, rfl⟩
    rw [← hwx] at hcut ⊢
    obtain ⟨hv7, hv8, hbx⟩ := hcut.out
    obtain ⟨ov, cv, bv, fv, rfl, _, _, hov, hcv⟩ := hv7
    obtain ⟨or, cr, br, fr, rfl, _, _, hor, hcr⟩ := hv8
    have HOV := Lib.hid hov
    have HCV := Lib.hid hcv
    have HOR := Lib.hid hor
    have HCR := Lib.hid hcr
    have HBX := Lib.hid (hb2.out.trans (hbx.mono hb2.out.size))
    have r1 := cell_on hbx q1
    have r2 := cell_on hbx q2
    clear hwx hcut hov hcv hor hcr hbx q1 q2 hbd hbw2
    obtain ⟨l, hl⟩ : ∃ l, l = L.length := ⟨_, rfl⟩
    obtain ⟨lr, hlr⟩ : ∃ lr, lr = R.length := ⟨_, rfl⟩
    rw [← hl] at HOV HCV hLl ⊢
    rw [← hlr] at HOR HCR hRl ⊢
    have HLN := Lib.hid hl
    have HRN := Lib.hid hlr
    clear hl hlr
    have hl2 : (l : Int) ≤ 1200 := by omega
    have hr2 : (lr : Int) ≤ 1201 := by omega
    go_wp2_with (go_at_call 19; (with_reducible refine (CF.out _ HBX.out).mono ?_); rintro e w7 ⟨rfl, hb7⟩; have k1 := cell_on hb7 r1; have k2 := cell_on hb7 r2; have m1 : ∀ o, (w7.alloc o).cell? ⟨w.heap.size, 0, none⟩ = some (.slice o1 m dcap) := fun o => cell_on (below_al (Below.refl w7.heap.size w7) o) k1; have m2 : ∀ o, (w7.alloc o).cell? ⟨w.heap.size, 1, none⟩ = some (.slice o2 n cap) := fun o => cell_on (below_al (Below.refl w7.heap.size w7) o) k2; have HB7 := Lib.hid hb7; clear hb7 r1 r2)
    obtain ⟨w8, hw8⟩ : ∃ w8, w8 = w7.alloc (.cells #[.string y.name, .int .i64 y.sort, .int .i64 y.type, .int .i64 y.index] 36) := ⟨_, rfl⟩
    rw [← hw8]
    have HBX8 : Hid (Below wx.heap.size wx w8) := Lib.hid (by rw [hw8]; exact HB7.out.alloc HB7.out.size _)
    have HB8 := Lib.hid (HBX.out.trans (HBX8.out.mono HBX.out.size))
    have HY8 : Hid (w8.heap[w7.heap.size]? = some (.cells (vaB y) 36 (0, 0))) := Lib.hid (by rw [hw8]; exact al_new rfl)
    have n1 : w8.cell? ⟨w.heap.size, 0, none⟩ = some (.slice o1 m dcap) := by rw [hw8]; exact m1 _
    have n2 : w8.cell? ⟨w.heap.size, 1, none⟩ = some (.slice o2 n cap) := by rw [hw8]; exact m2 _
    obtain ⟨B, hBd⟩ : ∃ B, B = w7.heap.size := ⟨_, rfl⟩
    rw [← hBd] at HY8 ⊢
    clear hw8 m1 m2 k1 k2 hBd HB7
    go_at_call 11
    ((with_reducible refine (CM.out _ HB8.out).mono ?_))
    rintro r w9 ⟨rfl, hb⟩
    have s1 := cell_on hb n1
    have s2 := cell_on hb n2
    have HY9 := Lib.hid ((hb.block _ (lt_of_heap HY8.out)).trans HY8.out)
    have HB9 := Lib.hid (HB8.out.trans (hb.mono HB8.out.size))
    have HBX9 := Lib.hid (HBX8.out.trans (hb.mono HBX8.out.size))
    clear hb n1 n2 CM
    cases mb with
    | false =>
      obtain ⟨e1, e2, rfl, rfl⟩ := NO.out (declN_may HMB.out.symm)
      obtain rfl : l = 0 := by rw [HLN.out, e1]; rfl
      obtain rfl : lr = 0 := by rw [HRN.out, e2]; rfl
      have CDD := Lib.hid (CD.out w9 HB9.out)
      rw [if_neg (by decide)] at CDD
      go_wp2_with (go_at_call 20; (with_reducible refine CDD.out.mono ?_); rintro e w10 ⟨rfl, hb10⟩)
      go_ret
      exact ⟨rfl, HB9.out.trans (hb10.mono HB9.out.size)⟩
    | true =>
      have CDD := CD
      rw [if_pos rfl] at CDD
      obtain ⟨dx, hdx⟩ : ∃ dx, dx = declIx p.decls nm := ⟨_, rfl⟩
      rw [← hdx] at CDD CE
      clear CD hdx
      have hbd : Below w9.heap.size w9 w9.drew := ⟨rfl, rfl, rfl, Nat.le_refl _, fun _ _ => rfl⟩
      have hbw9 : Below w.heap.size w w9.drew := HB9.out.trans (hbd.mono HB9.out.size)
      go_wp2_with (fail)
      go_cut [61] from 17 (fun s61 wz => s61 = .bool false ∧ Hid (Below w9.heap.size w9 wz))
      case first =>
        go_region_with (first
          | (go_at_call 20; refine (CDD.out _ ?_).mono ?_; (with_reducible exact hbw9); rintro e w10 ⟨rfl, hb10⟩; have k1 := cell_on hb10 s1; have k2 := cell_on hb10 s2; have hbw10 : Below w.heap.size w w10 := hbw9.trans (hb10.mono hbw9.size))
          | (go_at_call 21; refine (CE.out _ ?_).mono ?_; (with_reducible exact hbw10); rintro e w11 ⟨rfl, hb11⟩))
        all_goals (go_wp2_with fail; go_meet)
        all_goals exact ⟨rfl, Lib.hid (hbd.trans ((hb10.trans (hb11.mono hb10.size)).mono hbd.size))⟩
      case rest =>
      obtain ⟨rfl, hcut⟩ := hcut
      obtain ⟨wy, hwy⟩ : ∃ wy, wy = wc := ⟨_, rfl⟩
      rw [← hwy] at hcut ⊢
      have t1 := cell_on hcut.out s1
      have t2 := cell_on hcut.out s2
      have HYY := Lib.hid ((hcut.out.block _ (lt_of_heap HY9.out)).trans HY9.out)
      have HBY := Lib.hid (HB9.out.trans (hcut.out.mono HB9.out.size))
      have HBXY := Lib.hid (HBX9.out.trans (hcut.out.mono HBX9.out.size))
      clear hcut hwy s1 s2 hbd hbw9 CDD CE
      by_cases z0 : d < 0
      · obtain ⟨e1, e2, rfl, rfl⟩ := NO.out (declN_out (.inl z0))
        obtain rfl : l = 0 := by rw [HLN.out, e1]; rfl
        obtain rfl : lr = 0 := by rw [HRN.out, e2]; rfl
        have z0' : decide (d < 0) = true := decide_eq_true z0
        obtain ⟨⟨y0, y1, y2, y3⟩, _⟩ := cells_four HYY.out
        change wy.cell? ⟨B, 0, none⟩ = some (.string ⟨#[]⟩) at y0
        change wy.cell? ⟨B, 1, none⟩ = some (.int .i64 0) at y1
        change wy.cell? ⟨B, 2, none⟩ = some (.int .i64 0) at y2
        change wy.cell? ⟨B, 3, none⟩ = some (.int .i64 0) at y3
        go_wp2_with fail
        go_ret
        exact ⟨rfl, HBY.out⟩
      have z0' : decide (d < 0) = false := decide_eq_false z0
      by_cases z1 : (m : Int) ≤ d
      · obtain ⟨e1, e2, rfl, rfl⟩ := NO.out (declN_out (.inr (by rw [← hml.out]; exact z1)))
        obtain rfl : l = 0 := by rw [HLN.out, e1]; rfl
        obtain rfl : lr = 0 := by rw [HRN.out, e2]; rfl
        have z1' : decide ((m : Int) ≤ d) = true := decide_eq_true z1
        obtain ⟨⟨y0, y1, y2, y3⟩, _⟩ := cells_four HYY.out
        change wy.cell? ⟨B, 0, none⟩ = some (.string ⟨#[]⟩) at y0
        change wy.cell? ⟨B, 1, none⟩ = some (.int .i64 0) at y1
        change wy.cell? ⟨B, 2, none⟩ = some (.int .i64 0) at y2
        change wy.cell? ⟨B, 3, none⟩ = some (.int .i64 0) at y3
        go_wp2_with fail
        go_ret
        exact ⟨rfl, HBY.out⟩
      have z1' : decide ((m : Int) ≤ d) = false := decide_eq_false z1
      obtain ⟨k, rfl⟩ := Int.eq_ofNat_of_zero_le (show 0 ≤ d by omega)
      have hk : k < m := by omega
      obtain ⟨x, hx⟩ : ∃ x, p.decls[k]? = some x := ⟨_, List.getElem?_eq_getElem (by have := hml.out; omega)⟩
      have hDx : declN p (k : Int) = x := by unfold declN; rw [if_pos ⟨by omega, by have := hml.out; omega, HMB.out.symm⟩]; simp [hx]
      obtain ⟨s, t, u0, u1, u2, u3, u4, u5, u6, us, ut, uk⟩ := hd4.out k hk x hx
      have hlow := hS.out.de x (List.mem_of_getElem? hx)
      have HDV0 := Lib.hid (show DeVal w (.agg #[.int .i64 x.kind, .string x.name, s, t, .int .i64 x.type, .int .i64 x.e, .int .i64 x.pos]) x from ⟨s, t, rfl, us, ut, uk⟩)
      obtain ⟨oS, cS, bS, fS, rfl, us'⟩ := us
      obtain ⟨oT, cT, bT, fT, rfl, ut'⟩ := ut
      have hkind : 1 ≤ x.kind := by
        have h := HMB.out.symm
        unfold mayN at h
        rw [Bool.and_eq_true] at h
        have h2 := List.all_eq_true.1 h.1 x (List.mem_of_getElem? hx)
        unfold kindsD at h2
        simp only [Bool.and_eq_true, decide_eq_true_eq] at h2
        omega
      have hpl : x.params.length ≤ 600 := by have := hlow.1; unfold wDe at this; omega
      have hil : x.items.length ≤ 600 := hlow.2.1
      obtain ⟨X, hX⟩ : ∃ X, X = (.agg #[.int .i64 x.kind, .string x.name, .slice oS x.params.length cS, .slice oT x.items.length cT, .int .i64 x.type, .int .i64 x.e, .int .i64 x.pos] : Value) := ⟨_, rfl⟩
      have CV2 : Hid (∀ W, Below w.heap.size w W → Calls Tryz.prog 22 #[.agg #[.int .i64 x.kind, .string x.name, .slice oS x.params.length cS, .slice oT x.items.length cT, .int .i64 x.type, .int .i64 x.e, .int .i64 x.pos]] W fun r Y => ∃ v, r = .returned v ∧ VasAt Y v L ∧ Below W.heap.size W Y) := Lib.hid fun W hW => by rw [HL.out, hDx]; exact refVars_any _ x W (HDV0.out.below hW) hpl hil
      have CR2 : Hid (∀ W, Below w.heap.size w W → Calls Tryz.prog 23 #[.agg #[.int .i64 x.kind, .string x.name, .slice oS x.params.length cS, .slice oT x.items.length cT, .int .i64 x.type, .int .i64 x.e, .int .i64 x.pos]] W fun r Y => ∃ v, r = .returned v ∧ IntsV Y v R ∧ Below W.heap.size W Y) := Lib.hid fun W hW => by rw [HR.out, hDx]; exact refRoots_any _ x W (HDV0.out.below hW) hkind hil
      have CF2 : Hid (∀ W, Below w.heap.size w W → Calls Tryz.prog 24 #[.agg #[.int .i64 x.kind, .string x.name, .slice oS x.params.length cS, .slice oT x.items.length cT, .int .i64 x.type, .int .i64 x.e, .int .i64 x.pos], .string nm] W fun e Y => e = .returned (.tuple #[.agg #[.string y.name, .int .i64 y.sort, .int .i64 y.type, .int .i64 y.index], .bool bb]) ∧ Below W.heap.size W Y) := Lib.hid fun W hW => by rw [HY.out, HBB.out, HL.out, hDx]; exact (refFind_any _ x nm W (HDV0.out.below hW) hpl hil).mono fun e Y h => findPost_is h
      have v0 := cell_on HBY.out u0
      have v1 := cell_on HBY.out u1
      have v2 := cell_on HBY.out u2
      have v3 := cell_on HBY.out u3
      have v4 := cell_on HBY.out u4
      have v5 := cell_on HBY.out u5
      have v6 := cell_on HBY.out u6
      have U := Lib.hid (And.intro u0 (And.intro u1 (And.intro u2 (And.intro u3 (And.intro u4 (And.intro u5 u6))))))
      have ixk := ix_des (cap := dcap) hd3.out hk (by omega)
      unfold Ix at ixk
      have hkm : (k : Int) < (m : Int) := by omega
      have hbd : Below wy.heap.size wy wy.drew := ⟨rfl, rfl, rfl, Nat.le_refl _, fun _ _ => rfl⟩
      have hbwy : Below w.heap.size w wy.drew := HBY.out.trans (hbd.mono HBY.out.size)
      clear hX X hx us' ut' uk hlow hDx u0 u1 u2 u3 u4 u5 u6 NO CV CR CF hkind
      go_wp2_with (fail)
      go_cut [11, 12] from 17 (fun s11 s12 wz => Hid (VasAt wz s11 L ∧ IntsV wz s12 R ∧ Below wy.heap.size wy wz))
      case first =>
        go_region_with (first
          | (go_at_call 22; refine (CV2.out _ ?_).mono ?_; (with_reducible exact hbwy); rintro e w10 ⟨v11, rfl, hv11, hb10⟩; have k1 := cell_on hb10 t1; have k2 := cell_on hb10 t2; have hbw10 : Below w.heap.size w w10 := hbwy.trans (hb10.mono hbwy.size); have j0 := cell_on hbw10 U.out.1; have j1 := cell_on hbw10 U.out.2.1; have j2 := cell_on hbw10 U.out.2.2.1; have j3 := cell_on hbw10 U.out.2.2.2.1; have j4 := cell_on hbw10 U.out.2.2.2.2.1; have j5 := cell_on hbw10 U.out.2.2.2.2.2.1; have j6 := cell_on hbw10 U.out.2.2.2.2.2.2)
          | (go_at_call 23; refine (CR2.out _ ?_).mono ?_; (with_reducible exact hbw10); rintro e w11 ⟨v12, rfl, hv12, hb11⟩))
        all_goals (go_wp2_with fail; go_meet)
        all_goals exact Lib.hid ⟨hv11.below hb11, hv12, hbd.trans ((hb10.trans (hb11.mono hb10.size)).mono hbd.size)⟩
      case rest =>
      obtain ⟨hv11, hv12, hbz⟩ := hcut.out
      obtain ⟨o11, c11, b11, f11, rfl, _, _, h11, e11⟩ := hv11
      obtain ⟨o12, c12, b12, f12, rfl, _, _, h12, e12⟩ := hv12
      obtain ⟨wz, hwz⟩ : ∃ wz, wz = wc := ⟨_, rfl⟩
      rw [← hwz] at hbz e11 e12 ⊢
      rw [← HLN.out] at h11 e11 ⊢
      rw [← HRN.out] at h12 e12 ⊢
      have H11 := Lib.hid h11
      have E11 := Lib.hid e11
      have H12 := Lib.hid h12
      have E12 := Lib.hid e12
      have HBZ := Lib.hid (HBY.out.trans (hbz.mono HBY.out.size))
      have HBXZ := Lib.hid (HBXY.out.trans (hbz.mono HBXY.out.size))
      have HYZ := Lib.hid ((hbz.block _ (lt_of_heap HYY.out)).trans HYY.out)
      have a1 := cell_on hbz t1
      have a2 := cell_on hbz t2
      have j0 := cell_on HBZ.out U.out.1
      have j1 := cell_on HBZ.out U.out.2.1
      have j2 := cell_on HBZ.out U.out.2.2.1
      have j3 := cell_on HBZ.out U.out.2.2.2.1
      have j4 := cell_on HBZ.out U.out.2.2.2.2.1
      have j5 := cell_on HBZ.out U.out.2.2.2.2.2.1
      have j6 := cell_on HBZ.out U.out.2.2.2.2.2.2
      clear hcut hwz h11 e11 h12 e12 hbz t1 t2 v0 v1 v2 v3 v4 v5 v6 hbd hbwy CV2 CR2
      go_wp2_with (go_at_call 24; (with_reducible refine (CF2.out _ HBZ.out).mono ?_); rintro e w12 ⟨rfl, hb12⟩; have HB12 := Lib.hid hb12; obtain ⟨⟨y0, y1, y2, y3⟩, _⟩ := cells_four ((hb12.block _ (lt_of_heap HYZ.out)).trans HYZ.out); have x0 : ∀ o, (w12.alloc o).cell? ⟨B, 0, none⟩ = some (.string y.name) := fun o => cell_on (below_al (Below.refl w12.heap.size w12) o) y0; have x1 : ∀ o, (w12.alloc o).cell? ⟨B, 1, none⟩ = some (.int .i64 y.sort) := fun o => cell_on (below_al (Below.refl w12.heap.size w12) o) y1; have x2 : ∀ o, (w12.alloc o).cell? ⟨B, 2, none⟩ = some (.int .i64 y.type) := fun o => cell_on (below_al (Below.refl w12.heap.size w12) o) y2; have x3 : ∀ o, (w12.alloc o).cell? ⟨B, 3, none⟩ = some (.int .i64 y.index) := fun o => cell_on (below_al (Below.refl w12.heap.size w12) o) y3; clear hb12 y0 y1 y2 y3 a1 a2 j0 j1 j2 j3 j4 j5 j6)
      obtain ⟨w13, hw13⟩ : ∃ w13, w13 = w12.alloc (.cells #[.string y.name, .int .i64 y.sort, .int .i64 y.type, .int .i64 y.index] 36) := ⟨_, rfl⟩
      rw [← hw13]
      have HB13 : Hid (Below wz.heap.size wz w13) := Lib.hid (by rw [hw13]; exact HB12.out.alloc HB12.out.size _)
      have HBX13 := Lib.hid (HBXZ.out.trans (HB13.out.mono HBXZ.out.size))
      have HBW13 := Lib.hid (HBZ.out.trans (HB13.out.mono HBZ.out.size))
      clear hw13 x0 x1 x2 x3 HB12
      go_loopw [15] (fun i wr => ∃ c : Nat, i = .int .i64 (c : Int) ∧ c ≤ l ∧ Hid (Below w13.heap.size w13 wr)) (fun i _ => l - litLen i)
      case atStart => exact ⟨0, rfl, Nat.zero_le _, Lib.hid (Below.refl _ _)⟩
      case round =>
        obtain ⟨c, rfl, hc, hW⟩ := hrel
        rcases Nat.lt_or_ge c l with hlt | hge
        · have hcl : (c : Int) < (l : Int) := by omega
          obtain ⟨q, hq⟩ : ∃ q, L[c]? = some q := ⟨_, List.getElem?_eq_getElem (by have := HLN.out; omega)⟩
          obtain ⟨p0, p1, p2, p3⟩ := HCV.out c hlt q hq
          obtain ⟨p4, p5, p6, p7⟩ := E11.out c hlt q hq
          have hA := HBX13.out.trans (hW.out.mono HBX13.out.size)
          have hB' := HB13.out.trans (hW.out.mono HB13.out.size)
          have d0 := cell_on hA p0
          have d1 := cell_on hA p1
          have d2 := cell_on hA p2
          have d3 := cell_on hA p3
          have d4 := cell_on hB' p4
          have d5 := cell_on hB' p5
          have d6 := cell_on hB' p6
          have d7 := cell_on hB' p7
          have ixa := ix_vas (cap := cv) HOV.out hlt (by omega)
          have ixb := ix_vas (cap := c11) H11.out hlt (by omega)
          unfold Ix at ixa ixb
          clear hq p0 p1 p2 p3 p4 p5 p6 p7 hA hB' ixk
          go_wp2_with (fail)
          go_quiet (fail)
          go_wp2_with (fail)
          exact ⟨⟨c + 1, by go_num, by omega, Lib.hid (hW.out.trans ((below_dr (Below.refl _ _) _).mono hW.out.size))⟩, by simp [litLen]; omega⟩
        · obtain rfl : c = l := by omega
          have hno : ¬ (c : Int) < (c : Int) := by omega
          clear ixk
          go_wp2_with (fail)
          go_loopw [16] (fun i wq => ∃ e : Nat, i = .int .i64 (e : Int) ∧ e ≤ lr ∧ Hid (Below wr.heap.size wr wq)) (fun i _ => lr - litLen i)
          case atStart => exact ⟨0, rfl, Nat.zero_le _, Lib.hid (Below.refl _ _)⟩
          case round =>
            obtain ⟨e, rfl, he, hV⟩ := hrel
            have hW2 := Lib.hid (hW.out.trans (hV.out.mono hW.out.size))
            rcases Nat.lt_or_ge e lr with hlt | hge
            · have hcl : (e : Int) < (lr : Int) := by omega
              obtain ⟨q, hq⟩ : ∃ q, R[e]? = some q := ⟨_, List.getElem?_eq_getElem (by have := HRN.out; omega)⟩
              have d0 := cell_on (HBX13.out.trans (hW2.out.mono HBX13.out.size)) (HCR.out e hlt q hq)
              have d4 := cell_on (HB13.out.trans (hW2.out.mono HB13.out.size)) (E12.out e hlt q hq)
              have ixa := ix_nints (cap := cr) HOR.out hlt (by omega)
              have ixb := ix_nints (cap := c12) H12.out hlt (by omega)
              unfold Ix at ixa ixb
              rw [Nat.mul_one] at d0 d4 ixa ixb
              clear hq
              go_wp2_with (fail)
              go_quiet (fail)
              go_wp2_with (fail)
              exact ⟨⟨e + 1, by go_num, by omega, Lib.hid (hV.out.trans ((below_dr (Below.refl _ _) _).mono hV.out.size))⟩, by simp [litLen]; omega⟩
            · obtain rfl : e = lr := by omega
              have hno2 : ¬ (e : Int) < (e : Int) := by omega
              go_wp2_with (fail)
              go_ret
              exact ⟨rfl, HBW13.out.trans (hW2.out.mono HBW13.out.size)⟩
theorem varsLaw_any (sd se : Value) (p : Pr) (d : Int) (nm : ByteArray) (w : World) (h : ProgAt w sd se p) : Calls Tryz.prog 4 #[.agg #[sd, se], .int .i64 d, .string nm] w fun e w' => e = .returned (.bool true) ∧ Below w.heap.size w w' := by
  obtain ⟨⟨o1, dcap, db, doff, rfl, hd1, hd2, hd3, hd4⟩, ⟨o2, cap, b, off, rfl, he1, he2, he3, he4⟩, h3, h4⟩ := id h
  exact varsLaw_core o1 o2 dcap cap _ _ db doff p d nm w (Lib.hid h) (Lib.hid rfl) (Lib.hid hd3) (by unfold reachN at h3; omega) (Lib.hid hd4)
end Go.Proofs.YtnlbfdhhdnapnaaGreat
