/- The law AstDeep answers true: over any program and any number. -/
import Derived.Test.YtcgkgobkchgdhaaTreeSize
namespace Go.Proofs.Ytcgkgobkchgdhaa
open Go.RowKit Go.Shelf

attribute [local go_sem] Oper.semAt_some

/-- an expression is one deeper than its deepest part -/
theorem deeps_at {p : Pr} (hm : mayP p = true) {e : Nat} {x : Ex} (hx : p.exprs[e]? = some x) : (deeps p.exprs).getD e 0 = maxOf (deeps p.exprs) (partsE x) + 1 := by
  have hlt : e < p.exprs.length := (List.getElem?_eq_some_iff.1 hx).1
  have h1 := deeps_pre p.exprs (e + 1) e (by omega) (by omega)
  rw [← h1, deeps_take hx]
  unfold stepD
  have hl : (deeps (p.exprs.take e)).length = e := by rw [deeps_len, List.length_take]; omega
  have h2 : (deeps (p.exprs.take e) ++ [maxOf (deeps (p.exprs.take e)) (partsE x) + 1]).getD e 0 = maxOf (deeps (p.exprs.take e)) (partsE x) + 1 := by
    rw [List.getD_eq_getElem?_getD, List.getElem?_append_right (by omega), hl]
    simp
  rw [h2]
  congr 1
  have hp := may_part hm hx
  unfold maxOf
  have : ∀ (ps : List Int) (acc : Nat), (∀ z ∈ ps, 0 ≤ z ∧ z < (e : Int)) → ps.foldl (fun m q => max m ((deeps (p.exprs.take e)).getD q.toNat 0)) acc = ps.foldl (fun m q => max m ((deeps p.exprs).getD q.toNat 0)) acc := by
    intro ps
    induction ps with
    | nil => intro acc _; rfl
    | cons q ps ih =>
      intro acc h
      rw [List.foldl_cons, List.foldl_cons, deeps_pre p.exprs e q.toNat (by have := h q (List.mem_cons_self ..); omega) (by omega)]
      exact ih _ fun z hz => h z (List.mem_cons_of_mem _ hz)
  exact this _ _ hp
/-- how long the trees of the first parts are, and one more -/
def lensP (p : Pr) (ps : List Int) : Nat := ((ps.map Int.toNat).flatMap (tree p)).length + 1
theorem lensP_snoc (p : Pr) (ps : List Int) (q : Int) : lensP p (ps ++ [q]) = lensP p ps + (tree p q.toNat).length := by
  unfold lensP
  rw [List.map_append, List.flatMap_append, List.length_append]
  simp
  omega
theorem lensP_all {p : Pr} (hm : mayP p = true) {e : Nat} {x : Ex} (hx : p.exprs[e]? = some x) : lensP p (partsE x) = (tree p e).length := by
  unfold lensP
  rw [tree_eq (ahead_of hm) e, List.length_cons]
  unfold partsN
  rw [hx]
theorem lensP_take (p : Pr) (ps : List Int) (j : Nat) : lensP p (ps.take j) ≤ lensP p ps := by
  have h := List.take_append_drop j ps
  have h2 : lensP p ps = lensP p (ps.take j ++ ps.drop j) := by rw [h]
  rw [h2]
  unfold lensP
  rw [List.map_append, List.flatMap_append, List.length_append]
  omega
set_option maxHeartbeats 8000000 in
set_option maxRecDepth 100000 in
theorem deepLaw_core (o1 o2 : Option Addr) (b off cap dcap : Nat) (p : Pr) (n m : Nat) (hn : Hid (p.exprs.length = n)) (e : Int) (we : -9223372036854775808 ≤ e ∧ e ≤ 9223372036854775807) (w : World)
    (hpa : Hid (ProgAt w (.slice o1 m dcap) (.slice o2 n cap) p)) (he : Hid (0 < n → o2 = some ⟨b, off, none⟩)) (hc : Hid (∀ i, i < n → ∀ x, p.exprs[i]? = some x → ExAt w b (off + i * 9) x)) :
    Calls Try.prog 6 #[.agg #[.slice o1 m dcap, .slice o2 n cap], .int .i64 e] w fun e w' => e = .returned (.bool true) ∧ Below w.heap.size w w' := by
  have hb0 := Lib.hid (below_al (Below.refl w.heap.size w) (.cells #[.slice o1 m dcap, .slice o2 n cap] 25))
  have hB0 := Lib.hid (World.alloc_heap_new w (.cells #[.slice o1 m dcap, .slice o2 n cap] 25))
  have CA := Lib.hid (alive_any (w.alloc (.cells #[.slice o1 m dcap, .slice o2 n cap] 25)))
  have CG : Hid (∀ W, Below w.heap.size w W → Calls Try.prog 9 #[.agg #[.slice o1 m dcap, .slice o2 n cap]] W fun e w' => GreatPost p W e w') := Lib.hid fun W hW => great_any _ _ p W (hpa.out.below hW)
  obtain ⟨W0, hW0⟩ : ∃ W0, W0 = w.alloc (.cells #[.slice o1 m dcap, .slice o2 n cap] 25) := ⟨_, rfl⟩
  go_enter Try.func6, Try.ntmps6
  go_wp2_with (fail)
  rw [← hW0] at hb0 hB0 CA ⊢
  go_at_call 8
  ((with_reducible refine CA.out.mono ?_))
  rintro r w1 ⟨rfl, hb⟩
  have hB1 := (hb.block _ (lt_of_heap hB0.out)).trans hB0.out
  have g1 : w1.cell? ⟨w.heap.size, 0, none⟩ = some (.slice o1 m dcap) := by simp [World.cell?, hB1]
  have g2 : w1.cell? ⟨w.heap.size, 1, none⟩ = some (.slice o2 n cap) := by simp [World.cell?, hB1]
  have hb1 := Lib.hid (hb0.out.trans (hb.mono hb0.out.size))
  clear hb hB1 CA
  go_wp2_with (fail)
  go_at_call 9
  ((with_reducible refine (CG.out w1 hb1.out).mono ?_))
  rintro r w2 ⟨g, rfl, hg, hb⟩
  have q1 := cell_on hb g1
  have q2 := cell_on hb g2
  have hb2 := Lib.hid (hb1.out.trans (hb.mono hb1.out.size))
  clear hb g1 g2 CG
  cases g with
  | true =>
    clear hg
    go_wp2_with (fail)
    exact ⟨rfl, _, results_tmp (t := 4) (by kernel_rfl) _ _ _, rfl, hb2.out⟩
  | false =>
    have hS := Lib.hid (hg rfl)
    have nl : (n : Int) ≤ 300 := by have := hS.out.exprs; have := hn.out; omega
    have CM := Lib.hid (refMay_any _ _ p w2 (hpa.out.below hb2.out) hS.out)
    obtain ⟨mb, hmb⟩ : ∃ mb, mb = mayP p := ⟨_, rfl⟩
    rw [← hmb] at CM
    clear hg
    go_wp2_with (fail)
    go_at_call 13
    ((with_reducible refine CM.out.mono ?_))
    rintro r w3 ⟨rfl, hb⟩
    have s1 := cell_on hb q1
    have s2 := cell_on hb q2
    have hb3 := Lib.hid (hb2.out.trans (hb.mono hb2.out.size))
    clear hb q1 q2 CM
    cases mb with
    | false =>
      clear hmb
      go_wp2_with (fail)
      exact ⟨rfl, _, results_tmp (t := 4) (by kernel_rfl) _ _ _, rfl, hb3.out⟩
    | true =>
      have hm := Lib.hid hmb.symm
      clear hmb
      by_cases h0 : e < 0
      · go_wp2_with (fail)
        exact ⟨rfl, _, results_tmp (t := 4) (by kernel_rfl) _ _ _, rfl, hb3.out⟩
      by_cases h1 : (n : Int) ≤ e
      · go_wp2_with (fail)
        exact ⟨rfl, _, results_tmp (t := 4) (by kernel_rfl) _ _ _, rfl, hb3.out⟩
      obtain ⟨k, rfl⟩ := Int.eq_ofNat_of_zero_le (show 0 ≤ e by omega)
      have hk : k < n := by omega
      have ho := he.out (by omega)
      subst ho
      obtain ⟨L, hL⟩ : ∃ L, L = (tree p k).length := ⟨_, rfl⟩
      obtain ⟨L2, hL2⟩ : ∃ L2, L2 = min 2000 L := ⟨_, rfl⟩
      have CZ : Hid (Calls Try.prog 21 #[.agg #[.slice o1 m dcap, .slice (some ⟨b, off, none⟩) n cap], .int .i64 (k : Int), .int .i64 2000] w3 fun r Y => r = .returned (.int .i64 (L2 : Int)) ∧ Below w3.heap.size w3 Y) := Lib.hid (by
        have h := size_core p o1 m dcap b off cap n hn nl hm hS w3 (Lib.hid fun i hi x hx => (hc.out i hi x hx).below hb3.out) 2000 (by omega) k hk
        rw [cut_size, ← hL, ← hL2] at h
        exact h)
      have hL2b : (L2 : Int) ≤ 2000 := by omega
      have HL := Lib.hid hL
      have HL2 := Lib.hid hL2
      clear hL hL2
      by_cases hbig : 2000 ≤ L2
      · have hbig2 : (2000 : Int) ≤ (L2 : Int) := by omega
        go_wp2_with (go_at_call 21; ((with_reducible refine CZ.out.mono ?_)); rintro r w4 ⟨rfl, hb⟩; have hb4 := Lib.hid (hb3.out.trans (hb.mono hb3.out.size)); clear hb s1 s2 CZ)
        exact ⟨rfl, _, results_tmp (t := 4) (by kernel_rfl) _ _ _, rfl, hb4.out⟩
      have hbig2 : ¬ (2000 : Int) ≤ (L2 : Int) := by omega
      have hLs : L < 2000 := by have := HL2.out; omega
      obtain ⟨x, hxk⟩ : ∃ x, p.exprs[k]? = some x := ⟨_, List.getElem?_eq_getElem (by have := hn.out; omega)⟩
      have ix := ix_exs (cap := cap) (o := some ⟨b, off, none⟩) (n := n) (b := b) (off := off) (fun _ => rfl) hk (by omega)
      unfold Ix at ix
      have HXK := Lib.hid hxk
      have HPS := Lib.hid (parts_small hS.out hxk)
      have HLS := Lib.hid hLs
      clear hxk hLs hbig
      go_wp2_with (first
        | (go_at_call 21; ((with_reducible refine CZ.out.mono ?_)); rintro r w4 ⟨rfl, hb⟩; have u1 := cell_on hb s1; have u2 := cell_on hb s2; have hb4 := Lib.hid (hb3.out.trans (hb.mono hb3.out.size)); obtain ⟨s, c0, c1, c2, c3, c4, c5, c6, c7, c8, ha, hok⟩ := (hc.out k hk x HXK.out).below hb4.out; have CP := Lib.hid (parts_fn x s w4 ha hok HPS.out); unfold exV exCells at CP; clear hb s1 s2 CZ ha hok)
        | (go_at_call 10; ((with_reducible refine CP.out.mono ?_)); rintro r w5 ⟨kv, rfl, hk5, hb⟩; obtain ⟨ok, ck, gk, rfl, hok5, _, hck5⟩ := own_sl2 hk5; have v1 := cell_on hb u1; have v2 := cell_on hb u2; have hb5 := Lib.hid (hb4.out.trans (hb.mono hb4.out.size)); clear hb u1 u2 CP c0 c1 c2 c3 c4 c5 c6 c7 c8 hk5))
      obtain ⟨np, hnp⟩ : ∃ np, np = (partsE x).length := ⟨_, rfl⟩
      rw [← hnp] at hok5 hck5 ⊢
      have hnpl : (np : Int) ≤ 1000 := by have := parts_small hS.out HXK.out; omega
      have HNP := Lib.hid hnp
      have HOK5 := Lib.hid hok5
      have HCK5 := Lib.hid hck5
      clear hnp hok5 hck5
      go_loopw [5, 6, 8] (fun d q i wr => ∃ (j dm qn : Nat), i = .int .i64 (j : Int) ∧ d = .int .i64 (dm : Int) ∧ q = .int .i64 (qn : Int) ∧ j ≤ np ∧ Hid (dm = maxOf (deeps p.exprs) ((partsE x).take j)) ∧ Hid (qn = lensP p ((partsE x).take j)) ∧ Hid (Below w5.heap.size w5 wr)) (fun _ _ i _ => np - litLen i)
      case atStart => exact ⟨0, 0, 1, rfl, rfl, rfl, by omega, Lib.hid rfl, Lib.hid rfl, Lib.hid (Below.refl _ _)⟩
      case round =>
        obtain ⟨j, dm, qn, rfl, rfl, rfl, hj, hD, hQ, hW⟩ := hrel
        have y1 := cell_on hW.out v1
        have y2 := cell_on hW.out v2
        rcases Nat.lt_or_ge j np with hlt | hge
        · have hl : (j : Int) < (np : Int) := by omega
          have hlx : j < (partsE x).length := by rw [← HNP.out]; exact hlt
          have z1 := cell_on hW.out (HCK5.out j hlt)
          have ix := ix_il (cap := ck) HOK5.out hlt (by omega)
          unfold Ix at ix
          obtain ⟨m0, m1⟩ := may_part hm.out HXK.out ((partsE x).getD j 0) (by rw [List.getD_eq_getElem?_getD, List.getElem?_eq_getElem hlx]; exact List.getElem_mem hlx)
          have htk : (partsE x).take (j + 1) = (partsE x).take j ++ [(partsE x).getD j 0] := by
            rw [List.take_succ_eq_append_getElem hlx, List.getD_eq_getElem?_getD, List.getElem?_eq_getElem hlx]; rfl
          have hdm : (dm : Int) ≤ 300 := by
            have := maxOf_le (deeps p.exprs) ((partsE x).take j) p.exprs.length (fun i => deeps_le p.exprs i)
            rw [← hD.out] at this
            have := hn.out
            omega
          have hqm : (qn : Int) ≤ 2000 := by
            have h1 := lensP_take p (partsE x) j
            rw [← hQ.out, lensP_all hm.out HXK.out, ← HL.out] at h1
            have := HLS.out
            omega
          have hqt : lensP p ((partsE x).take (j + 1)) ≤ 2000 := by
            have h1 := lensP_take p (partsE x) (j + 1)
            rw [lensP_all hm.out HXK.out, ← HL.out] at h1
            have := HLS.out
            omega
          obtain ⟨q, hq⟩ : ∃ q, q = (partsE x).getD j 0 := ⟨_, rfl⟩
          rw [← hq] at z1 m0 m1 htk
          have hin : inP p q = true := by
            unfold inP
            rw [hm.out, decide_eq_true m0, decide_eq_true (show q < (p.exprs.length : Int) by rw [hn.out]; omega)]
            rfl
          obtain ⟨D, hDq⟩ : ∃ D, D = (deeps p.exprs).getD q.toNat 0 := ⟨_, rfl⟩
          have hdp : deepP p q = (D : Int) := by unfold deepP; rw [if_pos hin, hDq]
          have hDl : (D : Int) ≤ 300 := by
            have := deeps_le p.exprs q.toNat
            rw [← hDq] at this
            have := hn.out
            omega
          have hbw := hb5.out.trans (hW.out.mono hb5.out.size)
          have CD : ∀ W, Below wr.heap.size wr W → Calls Try.prog 16 #[.agg #[.slice o1 m dcap, .slice (some ⟨b, off, none⟩) n cap], .int .i64 q] W fun r w' => r = .returned (.int .i64 (D : Int)) ∧ Below W.heap.size W w' := fun W h => by
            have := callsIn_wide.1 (deep_any (.slice o1 m dcap) (.slice (some ⟨b, off, none⟩) n cap) p q W (hpa.out.below (hbw.trans (h.mono hbw.size))) hS.out)
            rwa [hdp] at this
          have CT : ∀ W, Below wr.heap.size wr W → Calls Try.prog 14 #[.agg #[.slice o1 m dcap, .slice (some ⟨b, off, none⟩) n cap], .int .i64 q] W fun r w' => ∃ v, r = .returned v ∧ w'.ownsRow W.heap.size 3 1 v (treeP p q).length ((treeP p q).map natV) ∧ Below W.heap.size W w' := fun W h =>
            callsIn_wide.1 (treeFn_any (.slice o1 m dcap) (.slice (some ⟨b, off, none⟩) n cap) p q W (hpa.out.below (hbw.trans (h.mono hbw.size))) hS.out)
          have hD1 : maxOf (deeps p.exprs) ((partsE x).take (j + 1)) = max dm D := by rw [htk, maxOf_snoc, ← hD.out, hDq]
          have hQ1 : lensP p ((partsE x).take (j + 1)) = qn + (treeP p q).length := by
            rw [htk, lensP_snoc, ← hQ.out]
            congr 1
            unfold treeP
            rw [if_pos hin, List.take_of_length_le]
            rw [htk, lensP_snoc] at hqt
            omega
          obtain ⟨tl, htl⟩ : ∃ tl, tl = (treeP p q).length := ⟨_, rfl⟩
          have htl2 : (qn : Int) + tl ≤ 2000 := by rw [hQ1, ← htl] at hqt; omega
          rw [← htl] at hQ1 CT
          have CD1 := Lib.hid CD
          have CT1 := Lib.hid CT
          have HD1 := Lib.hid hD1
          have HQ1 := Lib.hid hQ1
          clear CD CT hD1 hQ1 htl hqt hin hdp hDq hq htk m0 m1 hlx hbw
          have cQ : ∀ pr : Regrown, Calls Try.prog 16 #[.agg #[.slice o1 m dcap, .slice (some ⟨b, off, none⟩) n cap], .int .i64 q] (Go.Sort.grow (redrawn wr pr.d) pr.os) fun e w'' => e = .returned (.int .i64 (D : Int)) ∧ ∃ p : Regrown, w'' = Go.Sort.grow (redrawn wr p.d) p.os := fun pr => Calls.regrown_of (CD1.out _ (below_regrown wr pr.d pr.os))
          have CQ := Lib.hid cQ
          clear cQ
          go_wp2_with (fail)
          have G1 := fun pr : Regrown => cell_regrown y1 pr.d pr.os
          have G2 := fun pr : Regrown => cell_regrown y2 pr.d pr.os
          have G3 := fun pr : Regrown => cell_regrown z1 pr.d pr.os
          refine wp_region_quiet_below (by kernel_rfl) (by kernel_rfl) ?_
          repeat (go_big_quiet_step (with_reducible exact CQ.out _))
          refine wpQuiet_nil ?_
          intro w6 hw6
          have HB6 : Hid (Below wr.heap.size wr w6) := Lib.hid (by obtain ⟨pr, rfl⟩ := hw6; exact below_regrown _ _ _)
          clear hw6 G1 G2 G3 CQ
          have y3 := cell_on HB6.out y1
          have y4 := cell_on HB6.out y2
          have z2 := cell_on HB6.out z1
          clear y1 y2 z1
          by_cases hgt : dm < D
          · have hgt2 : (dm : Int) < (D : Int) := by omega
            go_wp2_with (fail)
            have cQ : ∀ pr : Regrown, Calls Try.prog 16 #[.agg #[.slice o1 m dcap, .slice (some ⟨b, off, none⟩) n cap], .int .i64 q] (Go.Sort.grow (redrawn w6 pr.d) pr.os) fun e w'' => e = .returned (.int .i64 (D : Int)) ∧ ∃ p : Regrown, w'' = Go.Sort.grow (redrawn w6 p.d) p.os := fun pr => Calls.regrown_of (CD1.out _ (HB6.out.trans ((below_regrown w6 pr.d pr.os).mono HB6.out.size)))
            have CQ := Lib.hid cQ
            clear cQ
            have G1 := fun pr : Regrown => cell_regrown y3 pr.d pr.os
            have G2 := fun pr : Regrown => cell_regrown y4 pr.d pr.os
            have G3 := fun pr : Regrown => cell_regrown z2 pr.d pr.os
            refine wp_region_quiet_below (by kernel_rfl) (by kernel_rfl) ?_
            repeat (go_big_quiet_step (with_reducible exact CQ.out _))
            refine wpQuiet_nil ?_
            intro w8 hw8
            have HB8 : Hid (Below wr.heap.size wr w8) := Lib.hid (by obtain ⟨pr, rfl⟩ := hw8; exact HB6.out.trans ((below_regrown _ _ _).mono HB6.out.size))
            have hb8 : Below w6.heap.size w6 w8 := by obtain ⟨pr, rfl⟩ := hw8; exact below_regrown _ _ _
            have y5 := cell_on hb8 y3
            have y6 := cell_on hb8 y4
            have z3 := cell_on hb8 z2
            clear hw8 G1 G2 G3 CQ hb8 y3 y4 z2
            go_wp2_with (fail)
            have hbd : Below wr.heap.size wr w8.drew := ⟨HB8.out.os, HB8.out.tape, HB8.out.output, HB8.out.size, HB8.out.block⟩
            go_region_held3 (fun w' => w'.cell? ⟨w.heap.size, 0, none⟩ = some (.slice o1 m dcap) ∧ w'.cell? ⟨w.heap.size, 1, none⟩ = some (.slice (some ⟨b, off, none⟩) n cap) ∧ w'.cell? ⟨gk, j, none⟩ = some (.int .i64 q))
              (first | exact ⟨y5, y6, z3⟩ | exact ⟨cell_on hb7 y5, cell_on hb7 y6, cell_on hb7 z3⟩)
              (first | (go_at_call 14; refine (CT1.out _ hbd).mono ?_; rintro r w7 ⟨tv, rfl, hto, hb7⟩; obtain ⟨t0, tc, rfl⟩ := own_slice hto))
            have HB7 := Lib.hid (hbd.trans (hb7.mono hbd.size))
            clear hbd hb7 hto y5 y6 z3
            go_wp2_with (fail)
            go_roundw
            case rel => exact ⟨j + 1, max dm D, qn + tl, by go_num, by rw [show max dm D = D by omega], by rw [IntKind.wrap_i64]; exact congrArg (Value.int .i64) (by omega), by omega, Lib.hid HD1.out.symm, Lib.hid HQ1.out.symm, Lib.hid (hW.out.trans (HB7.out.mono hW.out.size))⟩
            case measure => simp [litLen]; omega
          · have hgt2 : ¬ (dm : Int) < (D : Int) := by omega
            go_wp2_with (fail)
            have hbd : Below wr.heap.size wr w6.drew := ⟨HB6.out.os, HB6.out.tape, HB6.out.output, HB6.out.size, HB6.out.block⟩
            go_region_held3 (fun w' => w'.cell? ⟨w.heap.size, 0, none⟩ = some (.slice o1 m dcap) ∧ w'.cell? ⟨w.heap.size, 1, none⟩ = some (.slice (some ⟨b, off, none⟩) n cap) ∧ w'.cell? ⟨gk, j, none⟩ = some (.int .i64 q))
              (first | exact ⟨y3, y4, z2⟩ | exact ⟨cell_on hb7 y3, cell_on hb7 y4, cell_on hb7 z2⟩)
              (first | (go_at_call 14; refine (CT1.out _ hbd).mono ?_; rintro r w7 ⟨tv, rfl, hto, hb7⟩; obtain ⟨t0, tc, rfl⟩ := own_slice hto))
            have HB7 := Lib.hid (hbd.trans (hb7.mono hbd.size))
            clear hbd hb7 hto y3 y4 z2
            go_wp2_with (fail)
            go_roundw
            case rel => exact ⟨j + 1, max dm D, qn + tl, by go_num, by rw [show max dm D = dm by omega], by rw [IntKind.wrap_i64]; exact congrArg (Value.int .i64) (by omega), by omega, Lib.hid HD1.out.symm, Lib.hid HQ1.out.symm, Lib.hid (hW.out.trans (HB7.out.mono hW.out.size))⟩
            case measure => simp [litLen]; omega
        · obtain rfl : j = np := by omega
          have hall : (partsE x).take j = partsE x := by rw [HNP.out, List.take_length]
          have hDm : (deeps p.exprs).getD k 0 = dm + 1 := by rw [deeps_at hm.out HXK.out, hD.out, hall]
          have hLq : L = qn := by rw [HL.out, hQ.out, hall, lensP_all hm.out HXK.out]
          have hin : inP p (k : Int) = true := by
            unfold inP
            rw [hm.out, decide_eq_true (show (0 : Int) ≤ (k : Int) by omega), decide_eq_true (show (k : Int) < (p.exprs.length : Int) by rw [hn.out]; omega)]
            rfl
          have hdp : deepP p (k : Int) = (dm : Int) + 1 := by unfold deepP; rw [if_pos hin]; show (((deeps p.exprs).getD k 0 : Nat) : Int) = _; rw [hDm]; rfl
          have htp : (treeP p (k : Int)).length = qn := by
            unfold treeP
            rw [if_pos hin]
            show ((tree p k).take 100000).length = qn
            rw [List.take_of_length_le (by rw [← HL.out]; have := HLS.out; omega), ← HL.out, hLq]
          have hdl : (dm : Int) ≤ 300 := by
            have := deeps_le p.exprs k
            rw [hDm] at this
            have := hn.out
            omega
          have hbw := Lib.hid (hb5.out.trans (hW.out.mono hb5.out.size))
          have CD := callsIn_wide.1 (deep_any (.slice o1 m dcap) (.slice (some ⟨b, off, none⟩) n cap) p (k : Int) wr (hpa.out.below hbw.out) hS.out)
          rw [hdp] at CD
          have CT : ∀ W, Below w.heap.size w W → Calls Try.prog 14 #[.agg #[.slice o1 m dcap, .slice (some ⟨b, off, none⟩) n cap], .int .i64 (k : Int)] W fun r w' => ∃ v, r = .returned v ∧ w'.ownsRow W.heap.size 3 1 v qn ((treeP p (k : Int)).map natV) ∧ Below W.heap.size W w' := fun W h => by
            have h2 := callsIn_wide.1 (treeFn_any (.slice o1 m dcap) (.slice (some ⟨b, off, none⟩) n cap) p (k : Int) W (hpa.out.below h) hS.out)
            rwa [htp] at h2
          have CD1 := Lib.hid CD
          have CT1 := Lib.hid CT
          clear CD CT hDm hLq hdp htp hin hall
          go_wp2_with (first
            | (go_at_call 16; ((with_reducible refine CD1.out.mono ?_)); rintro r w6 ⟨rfl, hb⟩; have y3 := cell_on hb y1; have y4 := cell_on hb y2; have hb6 := Lib.hid (hbw.out.trans (hb.mono hbw.out.size)); clear hb)
            | (go_at_call 14; ((with_reducible refine (CT1.out _ hb6.out).mono ?_)); rintro r w7 ⟨tv, rfl, hto, hb⟩; obtain ⟨t0, tc, rfl⟩ := own_slice hto; have hb7 := Lib.hid (hb6.out.trans (hb.mono hb6.out.size)); clear hto hb))
          exact ⟨rfl, _, results_tmp (t := 4) (by kernel_rfl) _ _ _, rfl, hb7.out⟩
theorem deepLaw_any (sd se : Value) (p : Pr) (e : Int) (we : -9223372036854775808 ≤ e ∧ e ≤ 9223372036854775807) (w : World) (h : ProgAt w sd se p) :
    Calls Try.prog 6 #[.agg #[sd, se], .int .i64 e] w fun e w' => e = .returned (.bool true) ∧ Below w.heap.size w w' := by
  obtain ⟨⟨o1, dcap, db, doff, rfl, hd1, hd2, hd3, hd4⟩, ⟨o2, cap, b, off, rfl, he1, he2, he3, he4⟩, h3, h4⟩ := id h
  exact deepLaw_core o1 o2 b off cap dcap p _ _ (Lib.hid rfl) e we w (Lib.hid h) (Lib.hid he3) (Lib.hid he4)
end Go.Proofs.Ytcgkgobkchgdhaa
