/- The law AstNames answers true: over any program and any number. -/
import Derived.Test.YtcgkgobkchgdhaaDeepLaw
import Derived.Outline
import Derived.Deep.CutRange
namespace Go.Proofs.Ytcgkgobkchgdhaa
open Go.RowKit Go.Shelf
open Classical

attribute [local go_sem] Oper.semAt_some

/-- a beginning of a program -/
def cutP (p : Pr) (k : Nat) : Pr := ⟨[], p.exprs.take (k + 1)⟩
theorem cutP_at {p : Pr} {k i : Nat} (h : i ≤ k) : (cutP p k).exprs[i]? = p.exprs[i]? := by
  show (p.exprs.take (k + 1))[i]? = _
  rw [List.getElem?_take, if_pos (by omega)]
theorem cutP_parts {p : Pr} {k i : Nat} (h : i ≤ k) : partsN (cutP p k) i = partsN p i := by unfold partsN; rw [cutP_at h]
theorem cutP_treeN {p : Pr} (ha : Ahead p) {k : Nat} : ∀ (f e : Nat), e ≤ k → treeN (cutP p k) f e = treeN p f e
  | 0, _, _ => rfl
  | f + 1, e, h => by
    show e :: (partsN (cutP p k) e).flatMap (treeN (cutP p k) f) = e :: (partsN p e).flatMap (treeN p f)
    rw [cutP_parts h, List.flatMap_def, List.flatMap_def]
    congr 2
    apply List.map_congr_left
    intro z hz
    have := ha e z hz
    exact cutP_treeN ha f z (by omega)
theorem cutP_names {p : Pr} {k : Nat} : ∀ (l : List Nat) (acc : List ByteArray), (∀ z ∈ l, z ≤ k) → l.foldl (stepN (cutP p k)) acc = l.foldl (stepN p) acc
  | [], _, _ => rfl
  | z :: l, acc, h => by
    rw [List.foldl_cons, List.foldl_cons]
    have e1 : stepN (cutP p k) acc z = stepN p acc z := by unfold stepN; rw [cutP_at (h z (List.mem_cons_self ..))]
    rw [e1]
    exact cutP_names l _ fun y hy => h y (List.mem_cons_of_mem _ hy)
theorem cutP_may {p : Pr} (hm : mayP p = true) {k : Nat} (hk : k < p.exprs.length) : mayP (cutP p k) = true := by
  unfold mayP at hm ⊢
  rw [Bool.and_eq_true] at hm ⊢
  refine ⟨?_, rfl⟩
  have h1 := List.all_eq_true.1 hm.1
  refine List.all_eq_true.2 fun i hi => ?_
  have hi2 : i < k + 1 := by
    have := List.mem_range.1 hi
    have h3 : (cutP p k).exprs.length ≤ k + 1 := by show (p.exprs.take (k + 1)).length ≤ k + 1; rw [List.length_take]; omega
    omega
  have h2 := h1 i (List.mem_range.2 (by omega))
  unfold mayX at h2 ⊢
  rw [cutP_at (show i ≤ k by omega)]
  exact h2
theorem cutP_small {p : Pr} (h : Small p) (k : Nat) : Small (cutP p k) := by
  refine ⟨?_, Nat.zero_le _, fun x hx => h.ex x (List.mem_of_mem_take hx), fun d hd => by cases hd⟩
  show (p.exprs.take (k + 1)).length ≤ 300
  have := h.exprs
  rw [List.length_take]
  omega
theorem toList_iff (a b : ByteArray) : a.toList = b.toList ↔ a = b := ⟨fun h => by rw [ByteArray.toList_eq, ByteArray.toList_eq] at h; exact ByteArray.ext (Array.toList_inj.1 h), fun h => h ▸ rfl⟩
theorem names_mem {p : Pr} {l : List Nat} {z : Nat} {y : Ex} (hy : p.exprs[z]? = some y) (s : ByteArray) : s ∈ namesL p (l ++ [z]) ↔ (s ∈ namesL p l ∨ (y.kind = 3 ∧ y.name = s)) := by
  by_cases h : y.kind = 3 ∧ y.name ∉ namesL p l
  · rw [names_step hy h.1 h.2, List.mem_append, List.mem_singleton]
    exact or_congr Iff.rfl ⟨fun e => ⟨h.1, e.symm⟩, fun e => e.2.symm⟩
  · have h2 : y.kind = 3 → y.name ∈ namesL p l := fun hk => Classical.byContradiction fun hn => h ⟨hk, hn⟩
    rw [names_skip hy h2]
    exact ⟨.inl, fun e => e.elim id fun e => e.2 ▸ h2 e.1⟩
theorem ix_strs {o : Option Addr} {n cap g : Nat} (h : 0 < n → o = some ⟨g, 0, none⟩) {j : Nat} (hj : j < n) (hn : n ≤ 9223372036854775807) : Ix 33 1 (.slice o n cap) g 0 j := by
  intro W
  rw [h (by omega)]
  have h1 : (j : Int) < (n : Int) := by omega
  have h2 : (j : Int) ≤ 9223372036854775807 := by omega
  go_simp
theorem own_elems {w : World} {base : Nat} {e : TypeId} {v : Value} {l : List Value} (h : w.ownsRow base e 1 v l.length l) :
    ∃ o cap g, v = .slice o l.length cap ∧ (0 < l.length → o = some ⟨g, 0, none⟩) ∧ ∀ j u, l[j]? = some u → w.cell? ⟨g, j, none⟩ = some u := by
  rcases Nat.eq_zero_or_pos l.length with h0 | h0
  · have hl : l = [] := List.length_eq_zero_iff.1 h0
    subst hl
    rcases h.2 with ⟨rfl, _⟩ | ⟨g, cap, cur, rfl, _⟩
    · exact ⟨none, 0, 0, rfl, by simp, by simp⟩
    · exact ⟨some ⟨g, 0, none⟩, cap, g, rfl, fun _ => rfl, by simp⟩
  · obtain ⟨m, hm⟩ : ∃ m, l.length = m + 1 := ⟨l.length - 1, by omega⟩
    rw [hm] at h
    obtain ⟨g, cap, rfl⟩ := ownsRow_succ h
    refine ⟨some ⟨g, 0, none⟩, cap, g, by rw [hm], fun _ => rfl, fun j u hj => ?_⟩
    have h2 := h.cells (g := g) rfl j u hj
    have e : (⟨g, 0, none⟩ : Addr).add j = ⟨g, j, none⟩ := by unfold Addr.add; split <;> simp_all
    rw [e] at h2
    exact h2
theorem own_strs {w : World} {base : Nat} {v : Value} {l : List ByteArray} (h : w.ownsRow base 9 1 v l.length (l.map Value.string)) :
    ∃ o cap g, v = .slice o l.length cap ∧ (0 < l.length → o = some ⟨g, 0, none⟩) ∧ ∀ j, j < l.length → w.cell? ⟨g, j, none⟩ = some (.string (l.getD j ByteArray.empty)) := by
  obtain ⟨o, cap, g, h1, h2, h3⟩ := own_elems (l := l.map Value.string) (by rw [List.length_map]; exact h)
  rw [List.length_map] at h1 h2
  exact ⟨o, cap, g, h1, h2, fun j hj => h3 j _ (by rw [List.getElem?_map, List.getElem?_eq_getElem hj, List.getD_eq_getElem?_getD, List.getElem?_eq_getElem hj]; rfl)⟩
theorem own_nats {w : World} {base : Nat} {v : Value} {l : List Nat} (h : w.ownsRow base 3 1 v l.length (l.map natV)) :
    ∃ o cap g, v = .slice o l.length cap ∧ (0 < l.length → o = some ⟨g, 0, none⟩) ∧ ∀ j, j < l.length → w.cell? ⟨g, j, none⟩ = some (.int .i64 ((l.getD j 0 : Nat) : Int)) := by
  obtain ⟨o, cap, g, h1, h2, h3⟩ := own_elems (l := l.map natV) (by rw [List.length_map]; exact h)
  rw [List.length_map] at h1 h2
  exact ⟨o, cap, g, h1, h2, fun j hj => h3 j _ (by rw [List.getElem?_map, List.getElem?_eq_getElem hj, List.getD_eq_getElem?_getD, List.getElem?_eq_getElem hj]; rfl)⟩
set_option maxHeartbeats 8000000 in
set_option maxRecDepth 100000 in
theorem namesLaw_core (o1 o2 : Option Addr) (b off cap dcap : Nat) (p : Pr) (n m : Nat) (hn : Hid (p.exprs.length = n)) (e : Int) (we : -9223372036854775808 ≤ e ∧ e ≤ 9223372036854775807) (w : World)
    (hpa : Hid (ProgAt w (.slice o1 m dcap) (.slice o2 n cap) p)) (he : Hid (0 < n → o2 = some ⟨b, off, none⟩)) (hc : Hid (∀ i, i < n → ∀ x, p.exprs[i]? = some x → ExAt w b (off + i * 9) x)) :
    Calls Try.prog 7 #[.agg #[.slice o1 m dcap, .slice o2 n cap], .int .i64 e] w fun e w' => e = .returned (.bool true) ∧ Below w.heap.size w w' := by
  have hb0 := Lib.hid (below_al (Below.refl w.heap.size w) (.cells #[.slice o1 m dcap, .slice o2 n cap] 25))
  have hB0 := Lib.hid (World.alloc_heap_new w (.cells #[.slice o1 m dcap, .slice o2 n cap] 25))
  have CA := Lib.hid (alive_any (w.alloc (.cells #[.slice o1 m dcap, .slice o2 n cap] 25)))
  have CG : Hid (∀ W, Below w.heap.size w W → Calls Try.prog 9 #[.agg #[.slice o1 m dcap, .slice o2 n cap]] W fun e w' => GreatPost p W e w') := Lib.hid fun W hW => great_any _ _ p W (hpa.out.below hW)
  obtain ⟨W0, hW0⟩ : ∃ W0, W0 = w.alloc (.cells #[.slice o1 m dcap, .slice o2 n cap] 25) := ⟨_, rfl⟩
  go_enter Try.func7, Try.ntmps7
  go_wp2_with (fail)
  rw [← hW0] at hb0 hB0 CA ⊢
  go_at_call 8
  ((with_reducible refine CA.out.mono ?_))
  rintro r w1 ⟨rfl, hb⟩
  have hB1 := (hb.block _ (lt_of_heap hB0.out)).trans hB0.out
  have g1 : w1.cell? ⟨w.heap.size, 0, none⟩ = some (.slice o1 m dcap) := by simp [World.cell?, hB1]
  have g2 : w1.cell? ⟨w.heap.size, 1, none⟩ = some (.slice o2 n cap) := by simp [World.cell?, hB1]
  have hb1 := Lib.hid (hb0.out.trans (hb.mono hb0.out.size))
  clear hb hB1 CA
  go_wp2_with (fail)
  go_at_call 9
  ((with_reducible refine (CG.out w1 hb1.out).mono ?_))
  rintro r w2 ⟨g, rfl, hg, hb⟩
  have q1 := cell_on hb g1
  have q2 := cell_on hb g2
  have hb2 := Lib.hid (hb1.out.trans (hb.mono hb1.out.size))
  clear hb g1 g2 CG
  cases g with
  | true =>
    clear hg
    go_wp2_with (fail)
    exact ⟨rfl, _, results_tmp (t := 4) (by kernel_rfl) _ _ _, rfl, hb2.out⟩
  | false =>
    have hS := Lib.hid (hg rfl)
    have nl : (n : Int) ≤ 300 := by have := hS.out.exprs; have := hn.out; omega
    have CM := Lib.hid (refMay_any _ _ p w2 (hpa.out.below hb2.out) hS.out)
    obtain ⟨mb, hmb⟩ : ∃ mb, mb = mayP p := ⟨_, rfl⟩
    rw [← hmb] at CM
    clear hg
    go_wp2_with (fail)
    go_at_call 13
    ((with_reducible refine CM.out.mono ?_))
    rintro r w3 ⟨rfl, hb⟩
    have s1 := cell_on hb q1
    have s2 := cell_on hb q2
    have hb3 := Lib.hid (hb2.out.trans (hb.mono hb2.out.size))
    clear hb q1 q2 CM
    cases mb with
    | false =>
      clear hmb
      go_wp2_with (fail)
      exact ⟨rfl, _, results_tmp (t := 4) (by kernel_rfl) _ _ _, rfl, hb3.out⟩
    | true =>
      have hm := Lib.hid hmb.symm
      clear hmb
      by_cases h0 : e < 0
      · go_wp2_with (fail)
        exact ⟨rfl, _, results_tmp (t := 4) (by kernel_rfl) _ _ _, rfl, hb3.out⟩
      by_cases h1 : (n : Int) ≤ e
      · go_wp2_with (fail)
        exact ⟨rfl, _, results_tmp (t := 4) (by kernel_rfl) _ _ _, rfl, hb3.out⟩
      obtain ⟨k, rfl⟩ := Int.eq_ofNat_of_zero_le (show 0 ≤ e by omega)
      have hk : k < n := by omega
      have ho := he.out (by omega)
      subst ho
      obtain ⟨L, hL⟩ : ∃ L, L = (tree p k).length := ⟨_, rfl⟩
      obtain ⟨L2, hL2⟩ : ∃ L2, L2 = min 2000 L := ⟨_, rfl⟩
      have CZ : Hid (Calls Try.prog 21 #[.agg #[.slice o1 m dcap, .slice (some ⟨b, off, none⟩) n cap], .int .i64 (k : Int), .int .i64 2000] w3 fun r Y => r = .returned (.int .i64 (L2 : Int)) ∧ Below w3.heap.size w3 Y) := Lib.hid (by
        have h := size_core p o1 m dcap b off cap n hn nl hm hS w3 (Lib.hid fun i hi x hx => (hc.out i hi x hx).below hb3.out) 2000 (by omega) k hk
        rw [cut_size, ← hL, ← hL2] at h
        exact h)
      have hL2b : (L2 : Int) ≤ 2000 := by omega
      have HL := Lib.hid hL
      have HL2 := Lib.hid hL2
      clear hL hL2
      by_cases hbig : 2000 ≤ L2
      · have hbig2 : (2000 : Int) ≤ (L2 : Int) := by omega
        go_wp2_with (go_at_call 21; ((with_reducible refine CZ.out.mono ?_)); rintro r w4 ⟨rfl, hb⟩; have hb4 := Lib.hid (hb3.out.trans (hb.mono hb3.out.size)); clear hb s1 s2 CZ)
        exact ⟨rfl, _, results_tmp (t := 4) (by kernel_rfl) _ _ _, rfl, hb4.out⟩
      have hbig2 : ¬ (2000 : Int) ≤ (L2 : Int) := by omega
      have hLs : L < 2000 := by have := HL2.out; omega
      have HLS := Lib.hid hLs
      clear hLs hbig
      have hin : inP p (k : Int) = true := by
        unfold inP
        rw [hm.out, decide_eq_true (show (0 : Int) ≤ (k : Int) by omega), decide_eq_true (show (k : Int) < (p.exprs.length : Int) by rw [hn.out]; omega)]
        rfl
      have htp : treeP p (k : Int) = tree p k := by
        unfold treeP
        rw [if_pos hin]
        show (tree p k).take 100000 = tree p k
        rw [List.take_of_length_le (by rw [← HL.out]; have := HLS.out; omega)]
      have hnp : namesP p (k : Int) = namesL p (tree p k) := by
        unfold namesP
        rw [if_pos hin]
        show namesL p (metP p k) = _
        exact names_met p k
      obtain ⟨T, hT⟩ : ∃ T, T = tree p k := ⟨_, rfl⟩
      obtain ⟨N, hN⟩ : ∃ N, N = namesL p T := ⟨_, rfl⟩
      have CN : Hid (∀ W, Below w.heap.size w W → Calls Try.prog 15 #[.agg #[.slice o1 m dcap, .slice (some ⟨b, off, none⟩) n cap], .int .i64 (k : Int)] W fun r w' => ∃ v, r = .returned v ∧ w'.ownsRow W.heap.size 9 1 v N.length (N.map Value.string) ∧ Below W.heap.size W w') := Lib.hid fun W h => by
        have h2 := callsIn_wide.1 (names_any (.slice o1 m dcap) (.slice (some ⟨b, off, none⟩) n cap) p (k : Int) W (hpa.out.below h) hS.out)
        rwa [hnp, ← hT, ← hN] at h2
      have CT : Hid (∀ W, Below w.heap.size w W → Calls Try.prog 14 #[.agg #[.slice o1 m dcap, .slice (some ⟨b, off, none⟩) n cap], .int .i64 (k : Int)] W fun r w' => ∃ v, r = .returned v ∧ w'.ownsRow W.heap.size 3 1 v T.length (T.map natV) ∧ Below W.heap.size W w') := Lib.hid fun W h => by
        have h2 := callsIn_wide.1 (treeFn_any (.slice o1 m dcap) (.slice (some ⟨b, off, none⟩) n cap) p (k : Int) W (hpa.out.below h) hS.out)
        rwa [htp, ← hT] at h2
      have hTl : (T.length : Int) < 2000 := by rw [hT, ← HL.out]; have := HLS.out; omega
      have hTk : ∀ z ∈ T, z ≤ k := fun z hz => treeN_le (ahead_of hm.out) (k + 1) k z (by rw [hT] at hz; exact hz)
      have hNl : N.length ≤ T.length := by rw [hN]; exact namesL_len p T
      have HT := Lib.hid hT
      have HN := Lib.hid hN
      have HTK := Lib.hid hTk
      obtain ⟨tl, htl⟩ : ∃ tl, tl = T.length := ⟨_, rfl⟩
      obtain ⟨nlen, hnl⟩ : ∃ nlen, nlen = N.length := ⟨_, rfl⟩
      rw [← htl] at CT hTl hNl
      rw [← hnl] at CN hNl
      have HTL := Lib.hid htl
      have HNL := Lib.hid hnl
      clear hT hN hTk htl hnl hin htp hnp
      go_wp2_with (first
        | (go_at_call 21; ((with_reducible refine CZ.out.mono ?_)); rintro r w4 ⟨rfl, hb⟩; have u1 := cell_on hb s1; have u2 := cell_on hb s2; have hb4 := Lib.hid (hb3.out.trans (hb.mono hb3.out.size)); clear hb s1 s2 CZ)
        | (go_at_call 15; ((with_reducible refine (CN.out _ hb4.out).mono ?_)); rintro r w5 ⟨lv, rfl, hl5, hb⟩; have v1 := cell_on hb u1; have v2 := cell_on hb u2; have hb5 := Lib.hid (hb4.out.trans (hb.mono hb4.out.size)); clear hb u1 u2)
        | (go_at_call 14; ((with_reducible refine (CT.out _ hb5.out).mono ?_)); rintro r w6 ⟨tv, rfl, ht6, hb⟩; have y1 := cell_on hb v1; have y2 := cell_on hb v2; have hb6 := Lib.hid (hb5.out.trans (hb.mono hb5.out.size)); obtain ⟨ol, cl, gl, rfl, hol, hcl⟩ := own_strs (HNL.out ▸ hl5); have hcl6 := Lib.hid fun j hj => cell_on hb (hcl j hj); obtain ⟨ot, ct, gt, rfl, hot, hct⟩ := own_nats (HTL.out ▸ ht6); clear hb v1 v2 hl5 ht6))
      rw [← HNL.out] at hol hcl6 ⊢
      rw [← HTL.out] at hot hct ⊢
      have HOL := Lib.hid hol
      have HCL := hcl6
      have HOT := Lib.hid hot
      have HCT := Lib.hid hct
      clear hol hcl6 hot hct hcl
      go_loopw [7, 8] (fun q i wr => ∃ (a cn : Nat), i = .int .i64 (a : Int) ∧ q = .int .i64 (cn : Int) ∧ a ≤ tl ∧ Hid (cn = (namesL p (T.take a)).length) ∧ Hid (Below w6.heap.size w6 wr)) (fun _ i _ => tl - litLen i)
      case atStart => exact ⟨0, 0, rfl, rfl, by omega, Lib.hid rfl, Lib.hid (Below.refl _ _)⟩
      case round =>
        obtain ⟨a, cn, rfl, rfl, ha, hcn, hW⟩ := hrel
        have z1 := cell_on hW.out y1
        have z2 := cell_on hW.out y2
        rcases Nat.lt_or_ge a tl with hlt | hge
        · have hl : (a : Int) < (tl : Int) := by omega
          have hta := cell_on hW.out (HCT.out a hlt)
          have ixt := ix_il (cap := ct) HOT.out hlt (by omega)
          have hlx : a < T.length := by rw [← HTL.out]; exact hlt
          obtain ⟨z, hz⟩ : ∃ z, z = T.getD a 0 := ⟨_, rfl⟩
          have hzT : T[a]? = some z := by rw [hz, List.getD_eq_getElem?_getD, List.getElem?_eq_getElem hlx]; rfl
          have hzk := HTK.out z (List.mem_of_getElem? hzT)
          rw [← hz] at hta
          obtain ⟨x, hxk⟩ : ∃ x, p.exprs[z]? = some x := ⟨_, List.getElem?_eq_getElem (by have := hn.out; omega)⟩
          have hbw := hb6.out.trans (hW.out.mono hb6.out.size)
          obtain ⟨_, c0, c1, c2, c3, c4, c5, c6, c7, c8, ⟨oa, capa, ba, offa, rfl, _⟩, hok⟩ := (hc.out z (by omega) x hxk).below hbw
          have ixz := ix_exs (cap := cap) (o := some ⟨b, off, none⟩) (n := n) (b := b) (off := off) (fun _ => rfl) (show z < n by omega) (by omega)
          unfold Ix at ixt ixz
          have HXK := Lib.hid hxk
          have HZT := Lib.hid hzT
          have HZ := Lib.hid hzk
          have HBW := Lib.hid hbw
          clear hxk hzT hz hzk hlx hbw hok
          have up : ∀ {ad : Addr} {u : Value}, wr.cell? ad = some u → (wr.alloc (.cells #[.int .i64 0, .int .i64 0, .int .i64 0, .int .i64 0, .string ⟨#[]⟩, .string ⟨#[]⟩, .int .i64 0, .slice none 0 0, .int .i64 0] 31)).cell? ad = some u := fun h => cell_on (below_al (Below.refl wr.heap.size wr) _) h
          have U2 := up z2
          have Ut := up hta
          have U0 := up c0
          have U1 := up c1
          have U3 := up c2
          have U4 := up c3
          have U5 := up c4
          have U6 := up c5
          have U7 := up c6
          have U8 := up c7
          have U9 := up c8
          clear up
          go_upto_region 11 with (fail)
          go_cut [9] from 53 to 60 (fun s9 wx => s9 = .pointer (some ⟨wr.heap.size, 0, none⟩) ∧ wx = (wr.alloc (.cells #[.int .i64 x.kind, .int .i64 x.a, .int .i64 x.b, .int .i64 x.c, .string x.name, .string x.state, .int .i64 x.v, .slice oa x.args.length capa, .int .i64 x.pos] 31)).drew)
          case first =>
            go_region
            all_goals (go_wp2_with fail; go_meet)
            all_goals exact ⟨rfl, rfl⟩
          case rest =>
            obtain ⟨rfl, hwx⟩ := hcut
            obtain ⟨wx, hwq⟩ : ∃ wx, wx = wc := ⟨_, rfl⟩
            rw [← hwq] at hwx ⊢
            have hbx : Below wr.heap.size wr wx := by rw [hwx]; exact (fun h : Below wr.heap.size wr (wr.alloc _) => ⟨h.os, h.tape, h.output, h.size, h.block⟩) (below_al (Below.refl wr.heap.size wr) _)
            have hxb : wx.heap[wr.heap.size]? = some (.cells (exCells x (.slice oa x.args.length capa)) 31 (0, 0)) := by rw [hwx]; exact World.alloc_heap_new wr _
            have e0 : wx.cell? ⟨wr.heap.size, 0, none⟩ = some (.int .i64 x.kind) := by simp [World.cell?, hxb, exCells]
            have e4 : wx.cell? ⟨wr.heap.size, 4, none⟩ = some (.string x.name) := by simp [World.cell?, hxb, exCells]
            have HBX := Lib.hid (hW.out.trans (hbx.mono hW.out.size))
            have y3 := cell_on hbx z1
            have y4 := cell_on hbx z2
            clear hwq hwx hbx hxb U0 U1 U2 U3 U4 U5 U6 U7 U8 U9 Ut c0 c1 c2 c3 c4 c5 c6 c7 c8 z1 z2 hta ixt ixz
            go_wp2_with (fail)
            go_loopw [10, 11] (fun kn i wq => ∃ (c : Nat) (kb : Bool), i = .int .i64 (c : Int) ∧ kn = .bool kb ∧ c ≤ a ∧ Hid (kb = true ↔ (x.kind ≠ 3 ∨ x.name ∈ namesL p (T.take c))) ∧ Hid (Below wx.heap.size wx wq)) (fun _ i _ => a - litLen i)
            case atStart => exact ⟨0, (x.kind != 3), rfl, rfl, by omega, Lib.hid (by simp [namesL]), Lib.hid (Below.refl _ _)⟩
            case round =>
              obtain ⟨c, kb, rfl, rfl, hca, hkb, hQ⟩ := hrel
              have f0 := cell_on hQ.out e4
              have f1 := cell_on hQ.out y3
              have f2 := cell_on hQ.out y4
              rcases Nat.lt_or_ge c a with hlc | hgc
              · have hl2 : (c : Int) < (a : Int) := by omega
                have hbq := HBX.out.trans (hQ.out.mono HBX.out.size)
                have htc := cell_on hbq (HCT.out c (by omega))
                have ixt := ix_il (cap := ct) HOT.out (show c < tl by omega) (by omega)
                have hlx : c < T.length := by rw [← HTL.out]; omega
                obtain ⟨z2, hz⟩ : ∃ z2, z2 = T.getD c 0 := ⟨_, rfl⟩
                have hzT : T[c]? = some z2 := by rw [hz, List.getD_eq_getElem?_getD, List.getElem?_eq_getElem hlx]; rfl
                have hzk := HTK.out z2 (List.mem_of_getElem? hzT)
                rw [← hz] at htc
                obtain ⟨y, hyk⟩ : ∃ y, p.exprs[z2]? = some y := ⟨_, List.getElem?_eq_getElem (by have := hn.out; omega)⟩
                obtain ⟨_, d0, _, _, _, d4, _, _, _, _, _, _⟩ := (hc.out z2 (by omega) y hyk).below (hb6.out.trans (hbq.mono hb6.out.size))
                have ixz := ix_exs (cap := cap) (o := some ⟨b, off, none⟩) (n := n) (b := b) (off := off) (fun _ => rfl) (show z2 < n by omega) (by omega)
                unfold Ix at ixt ixz
                have hmem : ∀ s : ByteArray, s ∈ namesL p (T.take (c + 1)) ↔ (s ∈ namesL p (T.take c) ∨ (y.kind = 3 ∧ y.name = s)) := fun s => by
                  rw [List.take_succ_eq_append_getElem hlx]
                  have e1 : T[c] = z2 := by have := List.getElem?_eq_getElem hlx; rw [hzT] at this; exact (Option.some.inj this).symm
                  rw [e1]
                  exact names_mem hyk s
                have HME := Lib.hid hmem
                clear hmem hyk hzk hzT hz hlx hbq
                cases kb with
                | true =>
                  go_wp2_with (fail)
                  go_quiet (fail)
                  go_wp2_with (fail)
                  go_roundw
                  case rel => exact ⟨c + 1, true, by go_num, rfl, by omega, Lib.hid (by
                    have := hkb.out.1 (by first | exact trivial | rfl)
                    exact ⟨fun _ => this.imp id fun h => (HME.out _).2 (.inl h), fun _ => rfl⟩), Lib.hid (below_dr hQ.out _)⟩
                  case measure => simp [litLen]; omega
                | false =>
                  have hk0 : ¬ (x.kind ≠ 3 ∨ x.name ∈ namesL p (T.take c)) := fun h => by have := hkb.out.2 h; cases this
                  have HK0 := Lib.hid hk0
                  clear hk0
                  by_cases hy3 : y.kind = 3
                  · have hy3b : (y.kind == 3) = true := by rw [hy3]; rfl
                    have HY3 := Lib.hid hy3
                    clear hy3
                    go_wp2_with (fail)
                    go_quiet (fail)
                    go_wp2_with (fail)
                    refine ⟨⟨c + 1, (y.name.toList == x.name.toList), by go_num, rfl, by omega, Lib.hid ?_, Lib.hid (below_dr hQ.out _)⟩, by simp [litLen]; omega⟩
                    rw [beq_iff_eq, toList_iff]
                    exact ⟨fun h => .inr ((HME.out _).2 (.inr ⟨HY3.out, h⟩)), fun h => h.elim (fun h => absurd (.inl h) HK0.out) fun h => ((HME.out _).1 h).elim (fun h => absurd (.inr h) HK0.out) fun h => h.2⟩
                  · have hy3b : (y.kind == 3) = false := beq_false_of_ne hy3
                    have HY3 := Lib.hid hy3
                    clear hy3
                    go_wp2_with (fail)
                    go_quiet (fail)
                    go_wp2_with (fail)
                    go_roundw
                    case rel => exact ⟨c + 1, false, by go_num, rfl, by omega, Lib.hid (by
                      refine ⟨fun h => (by cases h), fun h => absurd (h.imp id fun h => ((HME.out _).1 h).resolve_right fun h => HY3.out h.1) HK0.out⟩), Lib.hid (below_dr hQ.out _)⟩
                    case measure => simp [litLen]; omega
              · obtain rfl : c = a := by omega
                have hbq := HBX.out.trans (hQ.out.mono HBX.out.size)
                have htk : T.take (c + 1) = T.take c ++ [z] := by
                  have hlx : c < T.length := by rw [← HTL.out]; omega
                  rw [List.take_succ_eq_append_getElem hlx]
                  have := List.getElem?_eq_getElem hlx
                  rw [HZT.out] at this
                  rw [← Option.some.inj this]
                have HB := Lib.hid hbq
                have HTK2 := Lib.hid htk
                clear hbq htk
                cases kb with
                | true =>
                  go_wp2_with (fail)
                  go_roundw
                  case rel => exact ⟨c + 1, cn, by go_num, rfl, by omega, Lib.hid (by
                    rw [HTK2.out, names_skip HXK.out fun h3 => (hkb.out.1 (by first | exact trivial | rfl)).resolve_left fun h => h h3]
                    exact hcn.out), Lib.hid HB.out⟩
                  case measure => simp [litLen]; omega
                | false =>
                  have hk0 : ¬ (x.kind ≠ 3 ∨ x.name ∈ namesL p (T.take c)) := fun h => by have := hkb.out.2 h; cases this
                  have HK0 := Lib.hid hk0
                  clear hk0
                  have hcnl : (cn : Int) ≤ 2000 := by
                    have h1 := namesL_len p (T.take c)
                    rw [← hcn.out, List.length_take] at h1
                    omega
                  go_wp2_with (fail)
                  go_roundw
                  case rel => exact ⟨c + 1, cn + 1, by go_num, by go_num, by omega, Lib.hid (by
                    have h3 : x.kind = 3 := Classical.byContradiction fun h => HK0.out (.inl h)
                    rw [HTK2.out, names_step HXK.out h3 fun h => HK0.out (.inr h), List.length_append, ← hcn.out]
                    rfl), Lib.hid HB.out⟩
                  case measure => simp [litLen]; omega
        · obtain rfl : a = tl := by omega
          have hcN : cn = nlen := by rw [hcn.out, HTL.out, List.take_length, ← HN.out, ← HNL.out]
          subst hcN
          have hcp : n ≤ cap ∧ cap ≤ maxLen := by
            obtain ⟨_, ⟨o', cap', b', off', hs, h1, h2, _⟩, _⟩ := hpa.out
            have e1 := (Value.slice.inj hs)
            exact ⟨by omega, by rw [e1.2.2]; exact h2.1⟩
          have hcp1 : (k : Int) + 1 ≤ (cap : Int) := by omega
          have hcp2 : (cap : Int) ≤ 9223372036854775807 := by have := hcp.2; unfold maxLen at this; omega
          have hkl : k < p.exprs.length := by have := hn.out; omega
          have hql : (cutP p k).exprs.length = k + 1 := by show (p.exprs.take (k + 1)).length = k + 1; rw [List.length_take]; omega
          have hqn : namesP (cutP p k) (k : Int) = N := by
            unfold namesP
            have hin2 : inP (cutP p k) (k : Int) = true := by
              unfold inP
              rw [cutP_may hm.out hkl, decide_eq_true (show (0 : Int) ≤ (k : Int) by omega), decide_eq_true (show (k : Int) < ((cutP p k).exprs.length : Int) by rw [hql]; omega)]
              rfl
            rw [if_pos hin2]
            show namesL (cutP p k) (metP (cutP p k) k) = N
            rw [names_met, HN.out, HT.out]
            show (treeN (cutP p k) (k + 1) k).foldl (stepN (cutP p k)) [] = (treeN p (k + 1) k).foldl (stepN p) []
            rw [cutP_treeN (ahead_of hm.out) _ _ (Nat.le_refl k)]
            exact cutP_names _ _ fun z hz => treeN_le (ahead_of hm.out) (k + 1) k z hz
          have CQ : Hid (∀ W, Below w.heap.size w W → Calls Try.prog 15 #[.agg #[.slice none 0 0, .slice (some ⟨b, off, none⟩) (k + 1) cap], .int .i64 (k : Int)] W fun r w' => ∃ v, r = .returned v ∧ w'.ownsRow W.heap.size 9 1 v N.length (N.map Value.string) ∧ Below W.heap.size W w') := Lib.hid fun W h => by
            have hP : ProgAt W (.slice none 0 0) (.slice (some ⟨b, off, none⟩) (k + 1) cap) (cutP p k) := by
              refine ⟨slAt_none _ _ _ _ _ ⟨Nat.zero_le _, fun _ => rfl⟩ rfl, ?_, Nat.zero_le _, by rw [hql]; unfold reachN; omega⟩
              unfold ExsAt
              rw [hql]
              exact slAt_some (by omega) hcp.2 fun i hi y hy => (hc.out i (by omega) y (by rw [cutP_at (show i ≤ k by omega)] at hy; exact hy)).below h
            have h2 := callsIn_wide.1 (names_any (.slice none 0 0) (.slice (some ⟨b, off, none⟩) (k + 1) cap) (cutP p k) (k : Int) W hP (cutP_small hS.out k))
            rwa [hqn] at h2
          rw [← HNL.out] at CQ
          have HW2 := Lib.hid (hb6.out.trans (hW.out.mono hb6.out.size))
          have hbal := Lib.hid (HW2.out.trans ((below_al (Below.refl wr.heap.size wr) (.cells #[.slice none 0 0, .slice (some ⟨b, off, none⟩) (k + 1) cap] 25)).mono HW2.out.size))
          clear hcp hkl hql hqn
          go_wp2_with (go_at_call 15; ((with_reducible refine (CQ.out _ hbal.out).mono ?_)); rintro r w8 ⟨mv, rfl, hm8, hb⟩; have hb8 := Lib.hid (hbal.out.trans (hb.mono hbal.out.size)); have hcl8 := Lib.hid fun j hj => cell_on hb (cell_on (below_al (Below.refl wr.heap.size wr) (.cells #[.slice none 0 0, .slice (some ⟨b, off, none⟩) (k + 1) cap] 25)) (cell_on hW.out (HCL.out j hj))); obtain ⟨om, cm, gm, rfl, hom, hcm⟩ := own_strs (HNL.out ▸ hm8); rw [← HNL.out] at hom hcm ⊢; clear hb hm8)
          have HOM := Lib.hid hom
          have HCM := Lib.hid hcm
          clear hom hcm
          go_loopw [14] (fun i wq => ∃ (c : Nat), i = .int .i64 (c : Int) ∧ c ≤ cn ∧ Hid (Below w8.heap.size w8 wq)) (fun i _ => cn - litLen i)
          case atStart => exact ⟨0, rfl, by omega, Lib.hid (Below.refl _ _)⟩
          case round =>
            obtain ⟨c, rfl, hcc, hQ⟩ := hrel
            rcases Nat.lt_or_ge c cn with hlc | hgc
            · have hl2 : (c : Int) < (cn : Int) := by omega
              have s1 := cell_on hQ.out (hcl8.out c hlc)
              have s2 := cell_on hQ.out (HCM.out c hlc)
              have ix1 := ix_strs (cap := cl) HOL.out hlc (by omega)
              have ix2 := ix_strs (cap := cm) HOM.out hlc (by omega)
              unfold Ix at ix1 ix2
              obtain ⟨u, hu⟩ : ∃ u, u = N.getD c ByteArray.empty := ⟨_, rfl⟩
              rw [← hu] at s1 s2
              clear hu
              go_wp2_with (fail)
              go_quiet (fail)
              go_wp2_with (fail)
              go_roundw
              case rel => exact ⟨c + 1, by go_num, by omega, Lib.hid (below_dr hQ.out _)⟩
              case measure => simp [litLen]; omega
            · obtain rfl : c = cn := by omega
              go_wp2_with (fail)
              exact ⟨rfl, _, results_tmp (t := 4) (by kernel_rfl) _ _ _, rfl, hb8.out.trans (hQ.out.mono hb8.out.size)⟩
theorem namesLaw_any (sd se : Value) (p : Pr) (e : Int) (we : -9223372036854775808 ≤ e ∧ e ≤ 9223372036854775807) (w : World) (h : ProgAt w sd se p) :
    Calls Try.prog 7 #[.agg #[sd, se], .int .i64 e] w fun e w' => e = .returned (.bool true) ∧ Below w.heap.size w w' := by
  obtain ⟨⟨o1, dcap, db, doff, rfl, hd1, hd2, hd3, hd4⟩, ⟨o2, cap, b, off, rfl, he1, he2, he3, he4⟩, h3, h4⟩ := id h
  exact namesLaw_core o1 o2 b off cap dcap p _ _ (Lib.hid rfl) e we w (Lib.hid h) (Lib.hid he3) (Lib.hid he4)
end Go.Proofs.Ytcgkgobkchgdhaa
