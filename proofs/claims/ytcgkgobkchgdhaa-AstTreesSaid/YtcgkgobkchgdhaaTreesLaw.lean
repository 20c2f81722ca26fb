/- The law AstTrees answers true: over any program and any number. -/
import Derived.Test.YtcgkgobkchgdhaaRefDeep
import Derived.Deep.RegionWith
namespace Go.Proofs.Ytcgkgobkchgdhaa
open Go.RowKit Go.Shelf
open Classical

attribute [local go_sem] Oper.semAt_some

theorem namesL_pre (p : Pr) : ∀ (l2 l1 : List Nat), namesL p l1 <+: namesL p (l1 ++ l2)
  | [], l1 => by rw [List.append_nil]; exact List.prefix_refl _
  | z :: l2, l1 => by
    have h1 : namesL p l1 <+: namesL p (l1 ++ [z]) := by
      rw [namesL_snoc]
      unfold stepN
      split
      · split
        · exact List.prefix_append _ _
        · exact List.prefix_refl _
      · exact List.prefix_refl _
    have h2 := namesL_pre p l2 (l1 ++ [z])
    rw [List.append_assoc] at h2
    exact h1.trans h2
set_option maxHeartbeats 8000000 in
set_option maxRecDepth 100000 in
theorem treesLaw_core (o1 o2 : Option Addr) (b off cap dcap : Nat) (p : Pr) (n m : Nat) (hn : Hid (p.exprs.length = n)) (e : Int) (we : -9223372036854775808 ≤ e ∧ e ≤ 9223372036854775807) (w : World)
    (hpa : Hid (ProgAt w (.slice o1 m dcap) (.slice o2 n cap) p)) (he : Hid (0 < n → o2 = some ⟨b, off, none⟩)) (hc : Hid (∀ i, i < n → ∀ x, p.exprs[i]? = some x → ExAt w b (off + i * 9) x)) :
    Calls Try.prog 4 #[.agg #[.slice o1 m dcap, .slice o2 n cap], .int .i64 e] w fun e w' => e = .returned (.bool true) ∧ Below w.heap.size w w' := by
  have hb0 := Lib.hid (below_al (Below.refl w.heap.size w) (.cells #[.slice o1 m dcap, .slice o2 n cap] 25))
  have hB0 := Lib.hid (World.alloc_heap_new w (.cells #[.slice o1 m dcap, .slice o2 n cap] 25))
  have CA := Lib.hid (alive_any (w.alloc (.cells #[.slice o1 m dcap, .slice o2 n cap] 25)))
  have CG : Hid (∀ W, Below w.heap.size w W → Calls Try.prog 9 #[.agg #[.slice o1 m dcap, .slice o2 n cap]] W fun e w' => GreatPost p W e w') := Lib.hid fun W hW => great_any _ _ p W (hpa.out.below hW)
  obtain ⟨W0, hW0⟩ : ∃ W0, W0 = w.alloc (.cells #[.slice o1 m dcap, .slice o2 n cap] 25) := ⟨_, rfl⟩
  go_enter Try.func4, Try.ntmps4
  go_wp2_with (fail)
  rw [← hW0] at hb0 hB0 CA ⊢
  go_at_call 8
  ((with_reducible refine CA.out.mono ?_))
  rintro r w1 ⟨rfl, hb⟩
  have hB1 := (hb.block _ (lt_of_heap hB0.out)).trans hB0.out
  have g1 : w1.cell? ⟨w.heap.size, 0, none⟩ = some (.slice o1 m dcap) := by simp [World.cell?, hB1]
  have g2 : w1.cell? ⟨w.heap.size, 1, none⟩ = some (.slice o2 n cap) := by simp [World.cell?, hB1]
  have hb1 := Lib.hid (hb0.out.trans (hb.mono hb0.out.size))
  clear hb hB1 CA
  go_wp2_with (fail)
  go_at_call 9
  ((with_reducible refine (CG.out w1 hb1.out).mono ?_))
  rintro r w2 ⟨g, rfl, hg, hb⟩
  have q1 := cell_on hb g1
  have q2 := cell_on hb g2
  have hb2 := Lib.hid (hb1.out.trans (hb.mono hb1.out.size))
  clear hb g1 g2 CG
  cases g with
  | true =>
    clear hg
    go_wp2_with (fail)
    exact ⟨rfl, _, results_tmp (t := 4) (by kernel_rfl) _ _ _, rfl, hb2.out⟩
  | false =>
    have hS := Lib.hid (hg rfl)
    have nl : (n : Int) ≤ 300 := by have := hS.out.exprs; have := hn.out; omega
    obtain ⟨mb, hmb⟩ : ∃ mb, mb = mayP p := ⟨_, rfl⟩
    obtain ⟨T, hT⟩ : ∃ T, T = treeP p e := ⟨_, rfl⟩
    obtain ⟨N, hN⟩ : ∃ N, N = namesP p e := ⟨_, rfl⟩
    have CN : Hid (∀ W, Below w.heap.size w W → Calls Try.prog 15 #[.agg #[.slice o1 m dcap, .slice o2 n cap], .int .i64 e] W fun r w' => ∃ v, r = .returned v ∧ w'.ownsRow W.heap.size 9 1 v N.length (N.map Value.string) ∧ Below W.heap.size W w') := Lib.hid fun W h => by
      have h2 := callsIn_wide.1 (names_any (.slice o1 m dcap) (.slice o2 n cap) p e W (hpa.out.below h) hS.out)
      rwa [← hN] at h2
    have CT : Hid (∀ W, Below w.heap.size w W → Calls Try.prog 14 #[.agg #[.slice o1 m dcap, .slice o2 n cap], .int .i64 e] W fun r w' => ∃ v, r = .returned v ∧ w'.ownsRow W.heap.size 3 1 v T.length (T.map natV) ∧ Below W.heap.size W w') := Lib.hid fun W h => by
      have h2 := callsIn_wide.1 (treeFn_any (.slice o1 m dcap) (.slice o2 n cap) p e W (hpa.out.below h) hS.out)
      rwa [← hT] at h2
    obtain ⟨DD, hDD⟩ : ∃ DD, DD = deepP p e := ⟨_, rfl⟩
    have CD : Hid (∀ W, Below w.heap.size w W → Calls Try.prog 16 #[.agg #[.slice o1 m dcap, .slice o2 n cap], .int .i64 e] W fun r w' => r = .returned (.int .i64 DD) ∧ Below W.heap.size W w') := Lib.hid fun W h => by
      have h2 := callsIn_wide.1 (deep_any (.slice o1 m dcap) (.slice o2 n cap) p e W (hpa.out.below h) hS.out)
      rwa [← hDD] at h2
    obtain ⟨tl, htl⟩ : ∃ tl, tl = T.length := ⟨_, rfl⟩
    obtain ⟨nlen, hnl⟩ : ∃ nlen, nlen = N.length := ⟨_, rfl⟩
    rw [← htl] at CT
    rw [← hnl] at CN
    have htl5 : (tl : Int) ≤ 100000 := by
      rw [htl, hT]
      unfold treeP
      split
      · rw [List.length_take]; omega
      · simp
    have hnl5 : (nlen : Int) ≤ 300 := by
      rw [hnl, hN]
      unfold namesP
      split
      · rename_i hin
        unfold inP at hin
        rw [Bool.and_eq_true, Bool.and_eq_true, decide_eq_true_eq, decide_eq_true_eq] at hin
        have h1 := namesL_len p (metP p e.toNat)
        have h2 := metP_len (ahead_of hin.2) e.toNat
        have := hn.out
        omega
      · simp
    have HTL := Lib.hid htl
    have HNL := Lib.hid hnl
    have HT := Lib.hid hT
    have HN := Lib.hid hN
    have HDD := Lib.hid hDD
    clear hg htl hnl hT hN hDD
    go_wp2_with (fail)
    have hbd : Below w.heap.size w w2.drew := ⟨hb2.out.os, hb2.out.tape, hb2.out.output, hb2.out.size, hb2.out.block⟩
    go_region_held3 (fun w' => w'.cell? ⟨w.heap.size, 0, none⟩ = some (.slice o1 m dcap) ∧ w'.cell? ⟨w.heap.size, 1, none⟩ = some (.slice o2 n cap))
      (first | exact ⟨q1, q2⟩ | exact ⟨cell_on hb3 q1, cell_on hb3 q2⟩ | exact ⟨cell_on hb4 (cell_on hb3 q1), cell_on hb4 (cell_on hb3 q2)⟩)
      (first | (go_at_call 14; refine (CT.out _ hbd).mono ?_; rintro r w3 ⟨tv, rfl, ht3, hb3⟩)
             | (go_at_call 15; refine (CN.out _ (hbd.trans (hb3.mono hbd.size))).mono ?_; rintro r w4 ⟨nv, rfl, hn4, hb4⟩))
    obtain ⟨ot, ct, gt, rfl, hot, hct⟩ := own_nats (HTL.out ▸ ht3)
    obtain ⟨ol, cl, gl, rfl, hol, hcl⟩ := own_strs (HNL.out ▸ hn4)
    rw [← HTL.out] at hot hct ⊢
    rw [← HNL.out] at hol hcl ⊢
    have hd4 := Lib.hid (hbd.trans (hb3.mono hbd.size) |>.trans (hb4.mono (Nat.le_trans hbd.size hb3.size)))
    have y1 := cell_on hb4 (cell_on hb3 q1)
    have y2 := cell_on hb4 (cell_on hb3 q2)
    have HCT := Lib.hid fun j hj => cell_on hb4 (hct j hj)
    have HCL := Lib.hid hcl
    have HOT := Lib.hid hot
    have HOL := Lib.hid hol
    clear hbd hb3 hb4 ht3 hn4 hct hcl hot hol q1 q2
    have CM := Lib.hid (refMay_any _ _ p w4 (hpa.out.below hd4.out) hS.out)
    rw [← hmb] at CM
    have none : inP p e = false → tl = 0 ∧ nlen = 0 ∧ DD = 0 := fun hi => by
      have h1 : treeP p e = [] := by unfold treeP; rw [if_neg (by rw [hi]; exact Bool.false_ne_true)]
      have h2 : namesP p e = [] := by unfold namesP; rw [if_neg (by rw [hi]; exact Bool.false_ne_true)]
      have h3 : deepP p e = 0 := by unfold deepP; rw [if_neg (by rw [hi]; exact Bool.false_ne_true)]
      refine ⟨?_, ?_, by rw [HDD.out, h3]⟩
      · rw [HTL.out, HT.out, h1]; rfl
      · rw [HNL.out, HN.out, h2]; rfl
    go_wp2_with (fail)
    go_at_call 13
    ((with_reducible refine CM.out.mono ?_))
    rintro r w5 ⟨rfl, hb⟩
    have v1 := cell_on hb y1
    have v2 := cell_on hb y2
    have hb5 := Lib.hid (hd4.out.trans (hb.mono hd4.out.size))
    have HCT5 := Lib.hid fun j hj => cell_on hb (HCT.out j hj)
    have HCL5 := Lib.hid fun j hj => cell_on hb (HCL.out j hj)
    clear hb y1 y2 CM HCT HCL
    cases mb with
    | false =>
      obtain ⟨rfl, rfl, rfl⟩ := none (by unfold inP; rw [← hmb, Bool.and_false])
      clear none hmb
      go_wp2_with (go_at_call 16; ((with_reducible refine (CD.out _ hb5.out).mono ?_)); rintro r w6 ⟨rfl, hb⟩; have hb6 := Lib.hid (hb5.out.trans (hb.mono hb5.out.size)); clear hb)
      exact ⟨rfl, _, results_tmp (t := 4) (by kernel_rfl) _ _ _, rfl, hb6.out⟩

    | true =>
      have hm := Lib.hid hmb.symm
      clear hmb
      by_cases h0 : e < 0
      · obtain ⟨rfl, rfl, rfl⟩ := none (by unfold inP; rw [decide_eq_false (show ¬ 0 ≤ e by omega)]; rfl)
        clear none
        go_wp2_with (go_at_call 16; ((with_reducible refine (CD.out _ hb5.out).mono ?_)); rintro r w6 ⟨rfl, hb⟩; have hb6 := Lib.hid (hb5.out.trans (hb.mono hb5.out.size)); clear hb)
        exact ⟨rfl, _, results_tmp (t := 4) (by kernel_rfl) _ _ _, rfl, hb6.out⟩

      by_cases h1 : (n : Int) ≤ e
      · obtain ⟨rfl, rfl, rfl⟩ := none (by unfold inP; rw [decide_eq_false (show ¬ e < (p.exprs.length : Int) by rw [hn.out]; omega), Bool.and_false]; rfl)
        clear none
        go_wp2_with (go_at_call 16; ((with_reducible refine (CD.out _ hb5.out).mono ?_)); rintro r w6 ⟨rfl, hb⟩; have hb6 := Lib.hid (hb5.out.trans (hb.mono hb5.out.size)); clear hb)
        exact ⟨rfl, _, results_tmp (t := 4) (by kernel_rfl) _ _ _, rfl, hb6.out⟩

      clear none
      obtain ⟨k, rfl⟩ := Int.eq_ofNat_of_zero_le (show 0 ≤ e by omega)
      have hk : k < n := by omega
      have ho := he.out (by omega)
      subst ho
      have hin : inP p (k : Int) = true := by
        unfold inP
        rw [hm.out, decide_eq_true (show (0 : Int) ≤ (k : Int) by omega), decide_eq_true (show (k : Int) < (p.exprs.length : Int) by rw [hn.out]; omega)]
        rfl
      have hTT : T = (tree p k).take 100000 := by rw [HT.out]; unfold treeP; rw [if_pos hin]; rfl
      have hNN : N = namesL p (tree p k) := by rw [HN.out]; unfold namesP; rw [if_pos hin]; exact names_met p k
      have hDv : DD = (((deeps p.exprs).getD k 0 : Nat) : Int) := by rw [HDD.out]; unfold deepP; rw [if_pos hin]; rfl
      have hcut : cutL 100000 [] (tree p k) = T := by rw [hTT]; rfl
      have hTk : ∀ z ∈ T, z ≤ k := fun z hz => treeN_le (ahead_of hm.out) (k + 1) k z (by rw [hTT] at hz; exact List.mem_of_mem_take hz)
      have CU : Hid (∀ W, Below w.heap.size w W → Calls Try.prog 17 #[.agg #[.slice o1 m dcap, .slice (some ⟨b, off, none⟩) n cap], .int .i64 (k : Int), .slice none 0 0, .int .i64 100000] W fun r w' => ∃ v, r = .returned v ∧ w'.ownsRow W.heap.size 3 1 v T.length (T.map natV) ∧ Below W.heap.size W w') := Lib.hid fun W h => by
        have h2 := callsIn_wide.1 (refTree_core p o1 m dcap b off cap n hn nl hm hS W (Lib.hid fun i hi x hx => (hc.out i hi x hx).below h) 100000 (by omega) k hk [] (.slice none 0 0) W (by simp) (Below.refl _ _) (World.ownsRow_nil _ _ _ _))
        rw [hcut] at h2
        exact h2.mono fun r Y ⟨v, h3, h4, h5, _⟩ => ⟨v, h3, h4, grown_below h5⟩
      have CE : Hid (∀ W, Below w.heap.size w W → Calls Try.prog 18 #[.agg #[.slice o1 m dcap, .slice (some ⟨b, off, none⟩) n cap]] W fun r w' => ∃ v, r = .returned v ∧ w'.ownsRow W.heap.size 3 1 v (deeps p.exprs).length ((deeps p.exprs).map natV) ∧ Below W.heap.size W w') := Lib.hid fun W h =>
        callsIn_wide.1 (refDeep_core p o1 _ m dcap b off cap n hn nl hm hS W (Lib.hid fun _ => rfl) (Lib.hid fun i hi x hx => (hc.out i hi x hx).below h))
      rw [hDv] at CD
      obtain ⟨D, hD⟩ : ∃ D, D = (deeps p.exprs).getD k 0 := ⟨_, rfl⟩
      rw [← hD] at CD
      have hdl : (deeps p.exprs).length = n := by rw [deeps_len, hn.out]
      rw [← HTL.out] at CU
      have HTT := Lib.hid hTT
      have HNN := Lib.hid hNN
      have HTK := Lib.hid hTk
      have HD := Lib.hid hD
      have HDL := Lib.hid hdl
      clear hTT hNN hDv hcut hTk hD hdl hin
      go_wp2_with (go_at_call 17; ((with_reducible refine (CU.out _ hb5.out).mono ?_)); rintro r w6 ⟨uv, rfl, hu6, hb⟩; obtain ⟨ou, cu, gu, rfl, hou, hcu⟩ := own_nats (HTL.out ▸ hu6); rw [← HTL.out] at hou hcu ⊢; have z1 := cell_on hb v1; have z2 := cell_on hb v2; have hb6 := Lib.hid (hb5.out.trans (hb.mono hb5.out.size)); have HCT6 := Lib.hid fun j hj => cell_on hb (HCT5.out j hj); have HCL6 := Lib.hid fun j hj => cell_on hb (HCL5.out j hj); clear hb v1 v2 HCT5 HCL5 hu6)
      have hbd : Below w.heap.size w w6.drew := ⟨hb6.out.os, hb6.out.tape, hb6.out.output, hb6.out.size, hb6.out.block⟩
      have hkl : (k : Int) < (n : Int) := by omega
      go_cut [69] from 54 to 69 (fun s69 wx => s69 = .bool false ∧ Hid (Below w6.heap.size w6 wx))
      case first =>
        go_region_with (first
          | (go_at_call 16; refine (CD.out _ hbd).mono ?_; rintro r w7 ⟨rfl, hb7⟩; have k1 := cell_on hb7 z1; have k2 := cell_on hb7 z2)
          | (go_at_call 18; refine (CE.out _ (hbd.trans (hb7.mono hbd.size))).mono ?_; rintro r w8 ⟨dv, rfl, hd8, hb8⟩; obtain ⟨od, cd, gd, rfl, hod, hcd⟩ := own_nats hd8; rw [HDL.out] at hod hcd ⊢; have ixd := ix_il (cap := cd) hod hk (by omega); have cdk := hcd k hk; rw [← HD.out] at cdk; unfold Ix at ixd; clear hcd))
        all_goals (go_wp2_with fail; go_meet)
        all_goals exact ⟨rfl, Lib.hid ((show Below w6.heap.size w6 w7 from ⟨hb7.os, hb7.tape, hb7.output, hb7.size, hb7.block⟩).trans (hb8.mono hb7.size))⟩
      case rest =>
      obtain ⟨rfl, hbx⟩ := hcut
      obtain ⟨w8, hw8⟩ : ∃ w8, w8 = wc := ⟨_, rfl⟩
      rw [← hw8] at hbx ⊢
      have hb8w := Lib.hid (hb6.out.trans (hbx.out.mono hb6.out.size))
      have y1 := cell_on hbx.out z1
      have y2 := cell_on hbx.out z2
      have HCT := Lib.hid fun j hj => cell_on hbx.out (HCT6.out j hj)
      have HCL := Lib.hid fun j hj => cell_on hbx.out (HCL6.out j hj)
      have HCU := Lib.hid fun j hj => cell_on hbx.out (hcu j hj)
      have HOU := Lib.hid hou
      clear hw8 hbd hbx z1 z2 HCT6 HCL6 hcu hou
      have hNT : ∀ i, namesL p (T.take i) <+: N := fun i => by
        have h1 := namesL_pre p ((tree p k).drop (min i 100000)) ((tree p k).take (min i 100000))
        rw [List.take_append_drop] at h1
        rw [HTT.out, List.take_take, HNN.out]
        exact h1
      have HNT := Lib.hid hNT
      clear hNT
      go_wp2_with (fail)
      go_loopw [8, 9] (fun q i wr => ∃ (a cn : Nat), i = .int .i64 (a : Int) ∧ q = .int .i64 (cn : Int) ∧ a ≤ tl ∧ cn ≤ nlen ∧ Hid (cn = (namesL p (T.take a)).length) ∧ Hid (Below w8.heap.size w8 wr)) (fun _ i _ => tl - litLen i)
      case atStart => exact ⟨0, 0, rfl, rfl, by omega, by omega, Lib.hid rfl, Lib.hid (Below.refl _ _)⟩
      case round =>
        obtain ⟨a, cn, rfl, rfl, ha, hcl, hcn, hW⟩ := hrel
        have z1 := cell_on hW.out y1
        have z2 := cell_on hW.out y2
        rcases Nat.lt_or_ge a tl with hlt | hge
        · have hl : (a : Int) < (tl : Int) := by omega
          have hta := cell_on hW.out (HCT.out a hlt)
          have hua := cell_on hW.out (HCU.out a hlt)
          have ixt := ix_il (cap := ct) HOT.out hlt (by omega)
          have ixu := ix_il (cap := cu) HOU.out hlt (by omega)
          have hlx : a < T.length := by rw [← HTL.out]; exact hlt
          obtain ⟨z, hz⟩ : ∃ z, z = T.getD a 0 := ⟨_, rfl⟩
          have hzT : T[a]? = some z := by rw [hz, List.getD_eq_getElem?_getD, List.getElem?_eq_getElem hlx]; rfl
          have hzk := HTK.out z (List.mem_of_getElem? hzT)
          rw [← hz] at hta hua
          obtain ⟨x, hxk⟩ : ∃ x, p.exprs[z]? = some x := ⟨_, List.getElem?_eq_getElem (by have := hn.out; omega)⟩
          have hbw := hb8w.out.trans (hW.out.mono hb8w.out.size)
          have ixz := ix_exs (cap := cap) (o := some ⟨b, off, none⟩) (n := n) (b := b) (off := off) (fun _ => rfl) (show z < n by omega) (by omega)
          unfold Ix at ixt ixu ixz
          have htk : T.take (a + 1) = T.take a ++ [z] := by
            rw [List.take_succ_eq_append_getElem hlx]
            have := List.getElem?_eq_getElem hlx
            rw [hzT] at this
            rw [← Option.some.inj this]
          have HXK := Lib.hid hxk
          have HTKK := Lib.hid htk
          have HBW := Lib.hid hbw
          clear hzT hz hlx hbw htk hxk
          go_wp2_with (fail)
          go_quiet (fail)
          clear ixt hta
          rename_i nq
          have hbq : Below wr.heap.size wr (wr.drewN nq) := below_dr (Below.refl _ _) _
          obtain ⟨wq, hwq⟩ : ∃ wq, wq = wr.drewN nq := ⟨_, rfl⟩
          rw [← hwq] at hbq ⊢
          have hqw := Lib.hid (hW.out.trans (hbq.mono hW.out.size))
          have ZZ1 := cell_on hbq z1
          have ZZ2 := cell_on hbq z2
          have hub := cell_on hbq hua
          obtain ⟨_, c0, c1, c2, c3, c4, c5, c6, c7, c8, ⟨oa, capa, ba, offa, rfl, _⟩, hok⟩ := (hc.out z (by omega) x HXK.out).below (hb8w.out.trans (hqw.out.mono hb8w.out.size))
          have up : ∀ {ad : Addr} {u : Value}, wq.cell? ad = some u → (wq.alloc (.cells #[.int .i64 0, .int .i64 0, .int .i64 0, .int .i64 0, .string ⟨#[]⟩, .string ⟨#[]⟩, .int .i64 0, .slice none 0 0, .int .i64 0] 31)).cell? ad = some u := fun h => cell_on (below_al (Below.refl wq.heap.size wq) _) h
          have U2 := up ZZ2
          have Ut := up hub
          have U0 := up c0
          have U1 := up c1
          have U3 := up c2
          have U4 := up c3
          have U5 := up c4
          have U6 := up c5
          have U7 := up c6
          have U8 := up c7
          have U9 := up c8
          clear up hok hwq hbq z1 z2 hua
          go_upto_region 17 with (fail)
          go_cut [10] from 85 to 92 (fun s9 wx => s9 = .pointer (some ⟨wq.heap.size, 0, none⟩) ∧ wx = (wq.alloc (.cells #[.int .i64 x.kind, .int .i64 x.a, .int .i64 x.b, .int .i64 x.c, .string x.name, .string x.state, .int .i64 x.v, .slice oa x.args.length capa, .int .i64 x.pos] 31)).drew)
          case first =>
            go_region
            all_goals (go_wp2_with fail; go_meet)
            all_goals exact ⟨rfl, rfl⟩
          case rest =>
            obtain ⟨rfl, hwx⟩ := hcut
            obtain ⟨wx, hwz⟩ : ∃ wx, wx = wc := ⟨_, rfl⟩
            rw [← hwz] at hwx ⊢
            have hbx : Below wq.heap.size wq wx := by rw [hwx]; exact (fun h : Below wq.heap.size wq (wq.alloc _) => ⟨h.os, h.tape, h.output, h.size, h.block⟩) (below_al (Below.refl wq.heap.size wq) _)
            have hxb : wx.heap[wq.heap.size]? = some (.cells (exCells x (.slice oa x.args.length capa)) 31 (0, 0)) := by rw [hwx]; exact World.alloc_heap_new wq _
            have e0 : wx.cell? ⟨wq.heap.size, 0, none⟩ = some (.int .i64 x.kind) := by simp [World.cell?, hxb, exCells]
            have e4 : wx.cell? ⟨wq.heap.size, 4, none⟩ = some (.string x.name) := by simp [World.cell?, hxb, exCells]
            have HBX := Lib.hid (hqw.out.trans (hbx.mono hqw.out.size))
            have y3 := cell_on hbx ZZ1
            have y4 := cell_on hbx ZZ2
            clear hwz hwx hbx hxb U0 U1 U2 U3 U4 U5 U6 U7 U8 U9 Ut c0 c1 c2 c3 c4 c5 c6 c7 c8 ZZ1 ZZ2 hub ixu ixz
            have hpre : N.take cn = namesL p (T.take a) := by
              have h1 := List.prefix_iff_eq_take.1 (HNT.out a)
              rw [← hcn.out] at h1
              exact h1.symm
            have hnext : x.kind = 3 → x.name ∉ N.take cn → (cn : Int) < (nlen : Int) ∧ N.getD cn ByteArray.empty = x.name := fun h3 hnot => by
              have h1 := HNT.out (a + 1)
              rw [HTKK.out, names_step HXK.out h3 (by rw [← hpre]; exact hnot)] at h1
              obtain ⟨rest, hrest⟩ := h1
              have hlen : N.length = cn + 1 + rest.length := by rw [← hrest, List.length_append, List.length_append, ← hcn.out]; rfl
              refine ⟨by rw [HNL.out, hlen]; omega, ?_⟩
              rw [← hrest, List.append_assoc, List.getD_eq_getElem?_getD, List.getElem?_append_right (by rw [← hcn.out]; exact Nat.le_refl _), ← hcn.out, Nat.sub_self]
              rfl
            have HPRE := Lib.hid hpre
            have HNEXT := Lib.hid hnext
            clear hpre hnext
            go_wp2_with (fail)
            go_loopw [11, 12] (fun kn i wy => ∃ (c : Nat) (kb : Bool), i = .int .i64 (c : Int) ∧ kn = .bool kb ∧ c ≤ cn ∧ Hid (kb = true ↔ (x.kind ≠ 3 ∨ x.name ∈ N.take c)) ∧ Hid (Below wx.heap.size wx wy)) (fun _ i _ => cn - litLen i)
            case atStart => exact ⟨0, (x.kind != 3), rfl, rfl, by omega, Lib.hid (by simp), Lib.hid (Below.refl _ _)⟩
            case round =>
              obtain ⟨c, kb, rfl, rfl, hca, hkb, hQ⟩ := hrel
              have f0 := cell_on hQ.out e4
              have f1 := cell_on hQ.out y3
              have f2 := cell_on hQ.out y4
              have hbq := Lib.hid (HBX.out.trans (hQ.out.mono HBX.out.size))
              rcases Nat.lt_or_ge c cn with hlc | hgc
              · have hl2 : (c : Int) < (cn : Int) := by omega
                have hnc := cell_on hbq.out (HCL.out c (by omega))
                have ixn := ix_strs (cap := cl) HOL.out (show c < nlen by omega) (by omega)
                unfold Ix at ixn
                have hcx : c < N.length := by rw [← HNL.out]; omega
                have htk2 : N.take (c + 1) = N.take c ++ [N.getD c ByteArray.empty] := by
                  rw [List.take_succ_eq_append_getElem hcx, List.getD_eq_getElem?_getD, List.getElem?_eq_getElem hcx]; rfl
                obtain ⟨u, hu⟩ : ∃ u, u = N.getD c ByteArray.empty := ⟨_, rfl⟩
                rw [← hu] at hnc htk2
                have HT2 := Lib.hid htk2
                clear htk2 hu hcx
                cases kb with
                | true =>
                  go_wp2_with (fail)
                  go_quiet (fail)
                  go_wp2_with (fail)
                  go_roundw
                  case rel => exact ⟨c + 1, true, by go_num, rfl, by omega, Lib.hid (by
                    have := hkb.out.1 (by first | exact trivial | rfl)
                    exact ⟨fun _ => this.imp id fun h => by rw [HT2.out]; exact List.mem_append_left _ h, fun _ => rfl⟩), Lib.hid (below_dr hQ.out _)⟩
                  case measure => simp [litLen]; omega
                | false =>
                  have hk0 : ¬ (x.kind ≠ 3 ∨ x.name ∈ N.take c) := fun h => by have := hkb.out.2 h; cases this
                  have HK0 := Lib.hid hk0
                  clear hk0
                  go_wp2_with (fail)
                  go_quiet (fail)
                  go_wp2_with (fail)
                  refine ⟨⟨c + 1, (u.toList == x.name.toList), by go_num, rfl, by omega, Lib.hid ?_, Lib.hid (below_dr hQ.out _)⟩, by simp [litLen]; omega⟩
                  rw [beq_iff_eq, toList_iff, HT2.out, List.mem_append, List.mem_singleton]
                  exact ⟨fun h => .inr (.inr h.symm), fun h => h.elim (fun h => absurd (.inl h) HK0.out) fun h => h.elim (fun h => absurd (.inr h) HK0.out) fun h => h.symm⟩
              · obtain rfl : c = cn := by omega
                cases kb with
                | true =>
                  go_wp2_with (fail)
                  exact ⟨⟨a + 1, c, by go_num, rfl, by omega, by omega, Lib.hid (by
                    have hkn := hkb.out.1 (by first | exact trivial | rfl)
                    rw [HPRE.out] at hkn
                    rw [HTKK.out, names_skip HXK.out fun h3 => hkn.resolve_left fun h => h h3]
                    exact hcn.out), Lib.hid hbq.out⟩, by simp [litLen]; omega⟩
                | false =>
                  have hk0 : ¬ (x.kind ≠ 3 ∨ x.name ∈ N.take c) := fun h => by have := hkb.out.2 h; cases this
                  have h3 : x.kind = 3 := Classical.byContradiction fun h => hk0 (.inl h)
                  obtain ⟨hcl2, hgd⟩ := HNEXT.out h3 fun h => hk0 (.inr h)
                  have hnc := cell_on hbq.out (HCL.out c (by omega))
                  rw [hgd] at hnc
                  have ixn := ix_strs (cap := cl) HOL.out (show c < nlen by omega) (by omega)
                  unfold Ix at ixn
                  have HK0 := Lib.hid hk0
                  have H3 := Lib.hid h3
                  have hg1 : decide (nlen ≤ c) = false := decide_eq_false (by omega)
                  have hg2 : decide ((nlen : Int) ≤ (c : Int)) = false := decide_eq_false (by omega)
                  have hg3 : ¬ nlen ≤ c := by omega
                  clear hk0 h3 hgd
                  go_wp2_with (fail)
                  go_quiet (fail)
                  go_wp2_with (fail)
                  exact ⟨⟨a + 1, c + 1, by go_num, by go_num, by omega, by omega, Lib.hid (by
                    rw [HTKK.out, names_step HXK.out H3.out (by rw [← HPRE.out]; exact fun h => HK0.out (.inr h)), List.length_append, ← hcn.out]
                    rfl), Lib.hid (below_dr hbq.out _)⟩, by simp [litLen]; omega⟩
        · obtain rfl : a = tl := by omega
          have hfin : cn = nlen ∨ a = 100000 := by
            by_cases hle : (tree p k).length ≤ 100000
            · left
              have h1 : T = tree p k := by rw [HTT.out, List.take_of_length_le hle]
              rw [hcn.out, HTL.out, List.take_length, h1, ← HNN.out, ← HNL.out]
            · right
              rw [HTL.out, HTT.out, List.length_take]
              omega
          rcases hfin with h | h
          · subst h
            go_wp2_with (fail)
            exact ⟨rfl, _, results_tmp (t := 4) (by kernel_rfl) _ _ _, rfl, hb8w.out.trans (hW.out.mono hb8w.out.size)⟩
          · by_cases hne : cn = nlen
            · subst hne
              go_wp2_with (fail)
              exact ⟨rfl, _, results_tmp (t := 4) (by kernel_rfl) _ _ _, rfl, hb8w.out.trans (hW.out.mono hb8w.out.size)⟩
            · have hb1 : ((cn : Int) == (nlen : Int)) = false := beq_false_of_ne (by omega)
              have hb2 : ((a : Int) == 100000) = true := by rw [h]; rfl
              have HH := Lib.hid h
              clear h
              go_wp2_with (fail)
              exact ⟨rfl, _, results_tmp (t := 4) (by kernel_rfl) _ _ _, rfl, hb8w.out.trans (hW.out.mono hb8w.out.size)⟩
theorem treesLaw_any (sd se : Value) (p : Pr) (e : Int) (we : -9223372036854775808 ≤ e ∧ e ≤ 9223372036854775807) (w : World) (h : ProgAt w sd se p) :
    Calls Try.prog 4 #[.agg #[sd, se], .int .i64 e] w fun e w' => e = .returned (.bool true) ∧ Below w.heap.size w w' := by
  obtain ⟨⟨o1, dcap, db, doff, rfl, hd1, hd2, hd3, hd4⟩, ⟨o2, cap, b, off, rfl, he1, he2, he3, he4⟩, h3, h4⟩ := id h
  exact treesLaw_core o1 o2 b off cap dcap p _ _ (Lib.hid rfl) e we w (Lib.hid h) (Lib.hid he3) (Lib.hid he4)
end Go.Proofs.Ytcgkgobkchgdhaa
