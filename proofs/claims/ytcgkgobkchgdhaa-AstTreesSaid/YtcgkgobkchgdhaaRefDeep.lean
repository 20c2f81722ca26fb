/- The reference's Deep. -/
import Derived.Test.YtcgkgobkchgdhaaNamesLaw
namespace Go.Proofs.Ytcgkgobkchgdhaa
open Go.RowKit Go.Shelf

attribute [local go_sem] Oper.semAt_some

set_option maxHeartbeats 8000000 in
set_option maxRecDepth 100000 in
theorem refDeep_core (p : Pr) (o1 o2 : Option Addr) (m dcap b off cap n : Nat) (hn : Hid (p.exprs.length = n)) (nl : (n : Int) ≤ 300) (hm : Hid (mayP p = true)) (hS : Hid (Small p)) (w : World) (he : Hid (0 < n → o2 = some ⟨b, off, none⟩)) (hc : Hid (∀ i, i < n → ∀ x, p.exprs[i]? = some x → ExAt w b (off + i * 9) x)) :
    CallsIn Fence.wide 5 Try.prog 18 #[.agg #[.slice o1 m dcap, .slice o2 n cap]] w fun r Y =>
      ∃ v, r = .returned v ∧ Y.ownsRow w.heap.size 3 1 v (deeps p.exprs).length ((deeps p.exprs).map natV) ∧ Below w.heap.size w Y := by
  obtain ⟨Wb, hWb⟩ : ∃ Wb, Wb = w.alloc (.cells #[.slice o1 m dcap, .slice o2 n cap] 25) := ⟨_, rfl⟩
  have hb0 := Lib.hid (below_al (Below.refl w.heap.size w) (.cells #[.slice o1 m dcap, .slice o2 n cap] 25))
  have hB0 := World.alloc_heap_new w (.cells #[.slice o1 m dcap, .slice o2 n cap] 25)
  rw [← hWb] at hb0 hB0
  have g2 : Wb.cell? ⟨w.heap.size, 1, none⟩ = some (.slice o2 n cap) := by simp [World.cell?, hB0]
  have zb : Wb.heap.size = w.heap.size + 1 := by rw [hWb, World.size_alloc]
  refine callsIn_of_wp Try.func18 rfl trivial ?_ rfl
  simp only [Try.ntmps18, List.size_toArray, List.length_cons, List.length_nil, Nat.reduceAdd, Nat.reduceSub, Array.replicate_succ, Array.replicate_zero, List.push_toArray, List.append_toArray, List.nil_append, List.cons_append]
  gi_wp2_with (fail)
  rw [← hWb]
  clear hWb hB0
  gi_loopw [3, 4] (fun v i wr => ∃ a : Nat, i = .int .i64 (a : Int) ∧ a ≤ n ∧ Hid (wr.ownsRow Wb.heap.size 3 1 v (deeps (p.exprs.take a)).length ((deeps (p.exprs.take a)).map natV)) ∧ Hid (Below Wb.heap.size Wb wr)) (fun _ i _ => n - litLen i)
  case atStart => exact ⟨0, rfl, by omega, Lib.hid (World.ownsRow_nil _ _ _ _), Lib.hid (Below.refl _ _)⟩
  case round =>
    obtain ⟨a, rfl, ha, hO, hW⟩ := hrel
    have z2 := cell_on hW.out g2
    rcases Nat.lt_or_ge a n with hlt | hge
    · have hl : (a : Int) < (n : Int) := by omega
      obtain ⟨x, hxk⟩ : ∃ x, p.exprs[a]? = some x := ⟨_, List.getElem?_eq_getElem (by have := hn.out; omega)⟩
      have hla : (deeps (p.exprs.take a)).length = a := by rw [deeps_len, List.length_take]; have := hn.out; omega
      obtain ⟨ds, hds⟩ : ∃ ds, ds = deeps (p.exprs.take a) := ⟨_, rfl⟩
      have hO1 := hO.out
      rw [← hds] at hO1 hla
      obtain ⟨oj, cj, gj, rfl, hoj, hcj⟩ := own_nats hO1
      rw [hla] at hO1 hoj hcj ⊢
      obtain ⟨s, c0, c1, c2, c3, c4, c5, c6, c7, c8, hia, hok⟩ := (hc.out a hlt x hxk).below (hb0.out.trans (hW.out.mono hb0.out.size))
      have ix := ix_exs (cap := cap) he.out hlt (by omega)
      unfold Ix at ix
      have CP := Lib.hid (refParts_any x s wr hia (parts_small hS.out hxk))
      unfold exV exCells at CP
      have hmp := may_part hm.out hxk
      have hnext : deeps (p.exprs.take (a + 1)) = ds ++ [maxOf ds (partsE x) + 1] := by rw [deeps_take hxk, ← hds]; rfl
      have hmax : ∀ c, maxOf ds ((partsE x).take c) ≤ 300 := fun c => by
        refine maxOf_le ds _ 300 fun j => ?_
        rw [hds]
        have := deeps_le (p.exprs.take a) j
        rw [List.length_take] at this
        omega
      have HNX := Lib.hid hnext
      have HMP := Lib.hid hmp
      have HMX := Lib.hid hmax
      have hpl := parts_small hS.out hxk
      have HO1 := Lib.hid hO1
      clear hia hok hxk hmp hnext hmax hds hO1 hla
      gi_wp2_with (refine ⟨trivial, ?_⟩; gi_at_call 11; refine (callsIn_wide.2 CP.out).mono ?_; rintro r w5 ⟨kv, rfl, hk5, hb5⟩; obtain ⟨ok, ck, gk, rfl, hok5, _, hck5⟩ := own_sl2 hk5; clear hk5 c0 c1 c2 c3 c4 c5 c6 c7 c8 CP ix)
      obtain ⟨np, hnp⟩ : ∃ np, np = (partsE x).length := ⟨_, rfl⟩
      rw [← hnp] at hok5 hck5 hpl ⊢
      have HNP := Lib.hid hnp
      have HOK5 := Lib.hid hok5
      have HCK5 := Lib.hid hck5
      have HB5 := Lib.hid hb5
      have HOJ := Lib.hid hoj
      have HCJ := Lib.hid fun j hj => cell_on hb5 (hcj j hj)
      have hO5 : w5.ownsRow Wb.heap.size 3 1 (.slice oj a cj) a (ds.map natV) := own_same HO1.out fun g hg => by
        obtain ⟨_, cur, hcur⟩ := own_lt HO1.out hg
        exact hb5.block g (lt_of_heap hcur)
      have HO5 := Lib.hid hO5
      clear hnp hok5 hck5 hb5 hoj hcj hO5
      gi_loopw [5, 7] (fun d i wq => ∃ (c dm : Nat), i = .int .i64 (c : Int) ∧ d = .int .i64 (dm : Int) ∧ c ≤ np ∧ Hid (dm = maxOf ds ((partsE x).take c)) ∧ wq = w5) (fun _ i _ => np - litLen i)
      case atStart => exact ⟨0, 0, rfl, rfl, by omega, Lib.hid rfl, rfl⟩
      case round =>
        obtain ⟨c, dm, rfl, rfl, hcn, hD, hwq⟩ := hrel
        rw [hwq]
        clear hwq
        have hdm : (dm : Int) ≤ 300 := by have := HMX.out c; rw [← hD.out] at this; omega
        rcases Nat.lt_or_ge c np with hlc | hgc
        · have hl2 : (c : Int) < (np : Int) := by omega
          have hlx : c < (partsE x).length := by rw [← HNP.out]; exact hlc
          have s1 := HCK5.out c hlc
          have ix1 := ix_il (cap := ck) HOK5.out hlc (by omega)
          obtain ⟨m0, m1⟩ := HMP.out ((partsE x).getD c 0) (by rw [List.getD_eq_getElem?_getD, List.getElem?_eq_getElem hlx]; exact List.getElem_mem hlx)
          have htk : (partsE x).take (c + 1) = (partsE x).take c ++ [(partsE x).getD c 0] := by
            rw [List.take_succ_eq_append_getElem hlx, List.getD_eq_getElem?_getD, List.getElem?_eq_getElem hlx]; rfl
          obtain ⟨q, hq⟩ := Int.eq_ofNat_of_zero_le m0
          rw [hq] at s1 m1 htk
          have hqa : q < a := by omega
          have s2 := HCJ.out q hqa
          have ix2 := ix_il (cap := cj) HOJ.out hqa (by omega)
          unfold Ix at ix1 ix2
          obtain ⟨D, hDq⟩ : ∃ D, D = ds.getD q 0 := ⟨_, rfl⟩
          rw [← hDq] at s2
          have hD1 : maxOf ds ((partsE x).take (c + 1)) = max dm D := by rw [htk, maxOf_snoc, ← hD.out, hDq]; rfl
          have HD1 := Lib.hid hD1
          clear hD1 htk hDq hq m0 m1 hlx
          by_cases hgt : dm < D
          · have hgt2 : (dm : Int) < (D : Int) := by omega
            gi_wp2
            refine ⟨⟨c + 1, D, by go_num, rfl, by omega, Lib.hid (by rw [HD1.out]; omega), by first | trivial | rfl⟩, by simp [litLen]; omega⟩
          · have hgt2 : ¬ (dm : Int) < (D : Int) := by omega
            gi_wp2
            refine ⟨⟨c + 1, dm, by go_num, rfl, by omega, Lib.hid (by rw [HD1.out]; omega), by first | trivial | rfl⟩, by simp [litLen]; omega⟩
        · obtain rfl : c = np := by omega
          have hfin : dm = maxOf ds (partsE x) := by rw [hD.out, HNP.out, List.take_length]
          have r8 : (w5.alloc (.cells #[.int .i64 ((dm : Int) + 1)] 3)).ownsRow Wb.heap.size 3 1 (.slice oj a cj) a (ds.map natV) := own_same HO5.out fun g hg => by
            obtain ⟨_, cur, hcur⟩ := own_lt HO5.out hg
            exact heap_old _ _ _ (lt_of_heap hcur)
          have hb5a := (HB5.out.alloc HB5.out.size (.cells #[.int .i64 ((dm : Int) + 1)] 3))
          have hbase : Wb.heap.size ≤ (w5.alloc (.cells #[.int .i64 ((dm : Int) + 1)] 3)).heap.size := Nat.le_trans hW.out.size hb5a.size
          have hvb : ∀ g, (Value.slice oj a cj).ownBlock = some g → Wb.heap.size ≤ g := fun g hg => (own_lt HO5.out hg).1
          have fin : ∀ (v' : Value) (W9 : World), W9.ownsRow Wb.heap.size 3 1 v' (a + 1) (ds.map natV ++ [.int .i64 ((dm : Int) + 1)]) → (w5.alloc (.cells #[.int .i64 ((dm : Int) + 1)] 3)).grownBy W9 (Value.slice oj a cj).ownBlock →
              W9.ownsRow Wb.heap.size 3 1 v' (deeps (p.exprs.take (a + 1))).length ((deeps (p.exprs.take (a + 1))).map natV) ∧ Below Wb.heap.size Wb W9 := fun v' W9 h1 h2 => by
            have hl3 : ds.length = a := by have := HO5.out.1; simpa using this
            refine ⟨?_, ?_⟩
            · rw [HNX.out, List.length_append, List.map_append, hl3, ← hfin]
              exact h1
            · have h4 := hW.out.trans (hb5a.mono hW.out.size)
              exact h4.grown h2 h4.size fun g hg => hvb g hg
          have FIN := Lib.hid fin
          have R8 := Lib.hid r8
          clear fin r8 hb5a hvb hfin
          gi_wp2_with (gi_at_builtin; refine wpListIn_append_int _ rfl _ _ rfl Wb.heap.size (.slice oj a cj) a _ rfl R8.out ⟨w5.heap.size, 0, none⟩ [.int .i64 ((dm : Int) + 1)] rfl rfl (cell_one_new _ _ _) (by simp [Value.oneCell']) (by omega) hbase ?_; intro v' W9 hown hgrow hat; have HF := Lib.hid (FIN.out _ _ hown hgrow); clear hown hgrow hat)
          exact ⟨⟨a + 1, by go_num, by omega, Lib.hid HF.out.1, Lib.hid HF.out.2⟩, by simp [litLen]; omega⟩
    · obtain rfl : a = n := by omega
      gi_wp2
      refine ⟨rfl, _, results_tmp (t := 2) (by kernel_rfl) _ _ _, _, rfl, ?_, ?_⟩
      · have h := hO.out
        rw [List.take_of_length_le (by rw [hn.out]; exact Nat.le_refl _)] at h
        exact owns_low h (by omega)
      · exact hb0.out.trans (hW.out.mono hb0.out.size)
end Go.Proofs.Ytcgkgobkchgdhaa
