import Derived.Test.YtdlmfeflinbbjaaGreatAstOnesJ
import Derived.Test.YtdlmfeflinbbjaaGreatAstMayP
import Derived.Lib.QuietBelow
namespace Go.Proofs.YtdlmfeflinbbjaaGreat
open Go.Lib (hid)
open Go.RowKit
theorem parts_small {p:Pr} (h:Small p) {i:Nat} {x:Ex} (hx:p.exprs[i]? = some x):(partsE x).length≤1000:=by
  by_cases h19:x.kind = 19
  · rw [partsE_19 h19]
    have:=h.ex x (List.mem_of_getElem? hx)
    unfold wEx at this
    omega
  · rw [partsE_len h19];have:=manyOf_le x.kind;omega
set_option maxHeartbeats 8000000 in
set_option maxRecDepth 100000 in
theorem refMay_core (o1 o2:Option Addr) (b off cap db doff dcap:Nat) (p:Pr) (n m:Nat) (hn:Hid (p.exprs.length = n)) (hm:Hid (p.decls.length = m)) (nl:(n:Int)≤300) (ml:(m:Int)≤60) (w:World)
    (hS:Hid (Small p)) (he:Hid (0 < n→o2 = some ⟨b,off,none⟩)) (hd:Hid (0 < m→o1 = some ⟨db,doff,none⟩))
    (hc:Hid (∀ i,i < n→∀ x,p.exprs[i]? = some x→ExAt w b (off+i*9) x)) (hdc:Hid (∀ i,i < m→∀ x,p.decls[i]? = some x→DeAt w db (doff+i*7) x)) :
    Calls Tryz.prog 28 #[.agg #[(.slice o1 m dcap),(.slice o2 n cap)]] w fun e w'=>MayPost (mayP p) w e w':=by
  have hW0:=hid (below_al (Below.refl w.heap.size w) (.cells #[(.slice o1 m dcap),(.slice o2 n cap)] 25))
  have hB0:Hid ((w.alloc (.cells #[(.slice o1 m dcap),(.slice o2 n cap)] 25)).heap[w.heap.size]? = some (.cells #[(.slice o1 m dcap),(.slice o2 n cap)] 25 (0,0))):=hid (World.alloc_heap_new w _)
  go_enter Tryz.func28,Tryz.ntmps28
  go_wp2_with fail
  go_loopw [3] (fun i wr=>∃ (k:Nat),i = .int .i64 k∧k≤n∧Hid (∀ i,i < k→mayX p.exprs i = true)∧Hid (Below w.heap.size w wr)∧Hid (wr.heap[w.heap.size]? = some (.cells #[(.slice o1 m dcap),(.slice o2 n cap)] 25 (0,0)))) (fun i _=>n - litLen i)
  case atStart=>exact ⟨0,rfl,Nat.zero_le _,hid fun i hi=>by omega,hW0,hB0⟩
  case round =>
    clear hW0 hB0
    obtain ⟨k,rfl,hk,hX,hW,hB⟩:=hrel
    have g1:wr.cell? ⟨w.heap.size,0,none⟩ = some (.slice o1 m dcap):=by simp [World.cell?,hB.out]
    have g2:wr.cell? ⟨w.heap.size,1,none⟩ = some (.slice o2 n cap):=by simp [World.cell?,hB.out]
    rcases Nat.lt_or_ge k n with hlt | hge
    · have hl:(k:Int) < (n:Int):=by omega
      obtain ⟨x,hxk⟩:∃ x,p.exprs[k]? = some x:=⟨_,List.getElem?_eq_getElem (by have:=hn.out;omega)⟩
      obtain ⟨oa,capa,hargs,hok,c0,c1,c2,c3,c4,c5,c6,c7,c8⟩:=ex_cells ((hc.out k hlt x hxk).below hW.out)
      have HA:=hid hargs
      have HO:=hid hok
      have HX:=hid hxk
      have hpl:=hid (parts_small hS.out hxk)
      have ix:=ix_exs (cap:=cap) he.out hlt (by omega)
      unfold Ix at ix
      clear hargs hok hxk
      have C:Hid (Calls Tryz.prog 52 #[.agg #[.int .i64 x.kind,.int .i64 x.a,.int .i64 x.b,.int .i64 x.c,.string x.name,.string x.state,.int .i64 x.v,.slice oa x.args.length capa,.int .i64 x.pos],.int .i64 (k:Int)] wr fun e w'=>MayPost (mayE x k) wr e w') :=
        hid (one_any x oa capa k wr HA.out HO.out hpl.out)
      cases hme:mayE x k with
      | true =>
        rw [hme] at C
        have HM:=hid hme
        clear hme
        go_wp2_with (go_at_call 52;((with_reducible refine C.out.mono ?_);rintro e w1 ⟨rfl,hb1⟩;have HB1:=hid hb1;clear hb1))
        go_roundw
        case rel =>
          refine ⟨k+1,by go_num,by omega,hid fun i hi=>?_,hid (hW.out.trans (HB1.out.mono hW.out.size)),hid ((HB1.out.block _ (lt_of_heap hB.out)).trans hB.out)⟩
          rcases Nat.lt_or_ge i k with h | h
          · exact hX.out i h
          · obtain rfl:i = k:=by omega
            unfold mayX;rw [HX.out];exact HM.out
        case measure=>simp [litLen];omega
      | false =>
        rw [hme] at C
        have HM:=hid (mayP_ex HX.out hme)
        clear hme
        go_wp2_with (go_at_call 52;((with_reducible refine C.out.mono ?_);rintro e w1 ⟨rfl,hb1⟩;have HB1:=hid hb1;clear hb1))
        go_ret
        exact ⟨by rw [HM.out];rfl,hW.out.trans (HB1.out.mono hW.out.size)⟩
    · obtain rfl:k = n:=by omega
      have hEX:=hid (mayX_all hX.out (by rw [hn.out];exact Nat.le_refl _))
      clear hX
      go_wp2_with fail
      clear g1 g2
      go_loopw [4] (fun i wr=>∃ (j:Nat),i = .int .i64 j∧j≤m∧Hid (∀ i,i < j→∀ d,p.decls[i]? = some d→mayD k d = true)∧Hid (Below w.heap.size w wr)∧Hid (wr.heap[w.heap.size]? = some (.cells #[(.slice o1 m dcap),(.slice o2 k cap)] 25 (0,0)))) (fun i _=>m - litLen i)
      case atStart=>exact ⟨0,rfl,Nat.zero_le _,hid fun i hi=>by omega,hW,hB⟩
      case round =>
        clear hW hB
        obtain ⟨j,rfl,hj,hX,hW,hB⟩:=hrel
        have g1:wr.cell? ⟨w.heap.size,0,none⟩ = some (.slice o1 m dcap):=by simp [World.cell?,hB.out]
        have g2:wr.cell? ⟨w.heap.size,1,none⟩ = some (.slice o2 k cap):=by simp [World.cell?,hB.out]
        have hz0:w.heap.size < wr.heap.size:=lt_of_heap hB.out
        rcases Nat.lt_or_ge j m with hlt | hge
        · have hl:(j:Int) < (m:Int):=by omega
          obtain ⟨d,hdj⟩:∃ x,p.decls[j]? = some x:=⟨_,List.getElem?_eq_getElem (by have:=hm.out;omega)⟩
          obtain ⟨op,capp,oi,capi,bi,offi,hok,c0,c1,c2,c3,c4,c5,c6,hi3,hi4⟩:=de_cells' (hdc.out j hlt d hdj) hW.out
          have ix:=ix_des (cap:=dcap) hd.out hlt (by omega)
          unfold Ix at ix
          obtain ⟨ni,hni⟩:∃ ni,ni = d.items.length:=⟨_,rfl⟩
          rw [← hni] at c3 hi3 hi4
          have HN:=hid hni
          clear hni
          have HI3:=hid hi3
          have HI4:=hid hi4
          have HDJ:=hid hdj
          clear hi3 hi4 hok hdj
          have hnl:(ni:Int)≤600:=by have:=(hS.out.de d (List.mem_of_getElem? HDJ.out)).2.1;have:=HN.out;omega
          have hal:=hid (below_al (Below.refl wr.heap.size wr) (.cells #[.int .i64 d.kind,.string d.name,.slice op d.params.length capp,.slice oi ni capi,.int .i64 d.type,.int .i64 d.e,.int .i64 d.pos] 44))
          have hBn:=hid (World.alloc_heap_new wr (.cells #[.int .i64 d.kind,.string d.name,.slice op d.params.length capp,.slice oi ni capi,.int .i64 d.type,.int .i64 d.e,.int .i64 d.pos] 44))
          obtain ⟨sv,hsv⟩:∃ sv,sv = standsE k (hasVal d.kind) d.e:=⟨_,rfl⟩
          obtain ⟨hv,hhv⟩:∃ hv,hv = hasVal d.kind:=⟨_,rfl⟩
          have CP:Hid (∀ W,Calls Tryz.prog 53 #[.agg #[.slice o1 m dcap,.slice o2 k cap],.int .i64 d.e,.bool hv] W fun r w'=>r = .returned (.bool sv)∧Below W.heap.size W w'):=hid fun W=>by rw [hsv,hhv];exact points_any _ _ _ _ _ _ _ _ _
          have HSV:=hid hsv
          have hthree:((d.kind == 1) = true∧hv = true)∨((d.kind == 1) = false∧(d.kind == 2) = true∧hv = true)∨((d.kind == 1) = false∧(d.kind == 2) = false∧hv = false):=by
            rw [hhv]
            by_cases k1:d.kind = 1
            · exact .inl ⟨by rw [k1];rfl,by rw [k1];rfl⟩
            · by_cases k2:d.kind = 2
              · exact .inr (.inl ⟨beq_false_of_ne k1,by rw [k2];rfl,by rw [k2];rfl⟩)
              · exact .inr (.inr ⟨beq_false_of_ne k1,beq_false_of_ne k2,by unfold hasVal;rw [decide_eq_false k1,decide_eq_false k2];rfl⟩)
          clear hsv hhv
          cases sv with
          | false =>
            have HM:=hid (mayP_de HDJ.out (show mayD p.exprs.length d = false by rw [hn.out];unfold mayD;rw [← HSV.out];rfl))
            rcases hthree with ⟨t1,rfl⟩ | ⟨t1,t2,rfl⟩ | ⟨t1,t2,rfl⟩
            all_goals
              go_wp2_with (go_at_call 53;((with_reducible refine (CP.out _).mono ?_);rintro e w1 ⟨rfl,hb1⟩;have HB1:=hid hb1;clear hb1))
              go_ret
              exact ⟨by rw [HM.out];rfl,hW.out.trans ((hal.out.trans (HB1.out.mono hal.out.size)).mono hW.out.size)⟩
          | true =>
            have CP' : Hid (∀ (W:World) (has:Bool) (q:Int),Calls Tryz.prog 53 #[.agg #[.slice o1 m dcap,.slice o2 k cap],.int .i64 q,.bool has] W fun r w'=>r = .returned (.bool (standsE k has q))∧Below W.heap.size W w'):=hid fun W has q=>points_any _ _ _ _ _ _ _ _ _
            rcases hthree with ⟨t1,rfl⟩ | ⟨t1,t2,rfl⟩ | ⟨t1,t2,rfl⟩
            all_goals
              go_wp2_with (go_at_call 53;((with_reducible refine (CP.out _).mono ?_);rintro e w1 ⟨rfl,hb1⟩;have HB1:=hid hb1;clear hb1))
              have hbb:=hid (hal.out.trans (HB1.out.mono hal.out.size))
              have hW4:=hid (hW.out.trans (hbb.out.mono hW.out.size))
              have hB4:Hid (w1.heap[w.heap.size]? = some (.cells #[(.slice o1 m dcap),(.slice o2 k cap)] 25 (0,0))):=hid ((hbb.out.block _ (lt_of_heap hB.out)).trans hB.out)
              have hD4:Hid (w1.heap[wr.heap.size]? = some (.cells #[.int .i64 d.kind,.string d.name,.slice op d.params.length capp,.slice oi ni capi,.int .i64 d.type,.int .i64 d.e,.int .i64 d.pos] 44 (0,0))):=hid ((HB1.out.block _ (lt_of_heap hBn.out)).trans hBn.out)
              clear hW hB hal hBn HB1 hbb c0 c1 c2 c3 c4 c5 c6 ix g1 g2 CP t1
              obtain ⟨q,hq⟩:∃ q,q = wr.heap.size:=⟨_,rfl⟩
              rw [← hq] at hD4 ⊢
              clear hq
              go_loopw [6] (fun i wr=>∃ (l:Nat),i = .int .i64 l∧l≤ni∧Hid (∀ i,i < l→∀ y,d.items[i]? = some y→mayI k y = true)∧Hid (Below w.heap.size w wr)∧Hid (wr.heap[w.heap.size]? = some (.cells #[(.slice o1 m dcap),(.slice o2 k cap)] 25 (0,0)))∧Hid (wr.heap[q]? = some (.cells #[.int .i64 d.kind,.string d.name,.slice op d.params.length capp,.slice oi ni capi,.int .i64 d.type,.int .i64 d.e,.int .i64 d.pos] 44 (0,0)))) (fun i _=>ni - litLen i)
              case atStart=>exact ⟨0,rfl,Nat.zero_le _,hid fun i hi=>by omega,hW4,hB4,hD4⟩
              case round =>
                clear hW4 hB4 hD4
                obtain ⟨l,rfl,hl1,hY,hW,hB,hD⟩:=hrel
                have g1:wr.cell? ⟨w.heap.size,0,none⟩ = some (.slice o1 m dcap):=by simp [World.cell?,hB.out]
                have g2:wr.cell? ⟨w.heap.size,1,none⟩ = some (.slice o2 k cap):=by simp [World.cell?,hB.out]
                have g3:wr.cell? ⟨q,3,none⟩ = some (.slice oi ni capi):=by simp [World.cell?,hD.out]
                rcases Nat.lt_or_ge l ni with hlt2 | hge2
                · have hl2:(l:Int) < (ni:Int):=by omega
                  obtain ⟨y,hyl⟩:∃ x,d.items[l]? = some x:=⟨_,List.getElem?_eq_getElem (by have:=HN.out;omega)⟩
                  obtain ⟨os,caps,hok,i0,i1,i2,i3,i4,i5,i6,i7,i8⟩:=it_cells ((HI4.out l hlt2 y hyl).below hW.out)
                  have ix:=ix_its (cap:=capi) HI3.out hlt2 (by omega)
                  unfold Ix at ix
                  have HYL:=hid hyl
                  clear hok hyl i1 i2 i5 i6 i7 i8
                  obtain ⟨he1,hhe⟩:∃ h,h = hasE y.kind:=⟨_,rfl⟩
                  obtain ⟨hf1,hhf⟩:∃ h,h = hasF y.kind:=⟨_,rfl⟩
                  have CH:Hid (∀ W,Calls Tryz.prog 40 #[.int .i64 y.kind] W fun e w'=>e = .returned (.tuple #[.bool he1,.bool hf1])∧W = w'):=hid fun W=>by rw [hhe,hhf];exact (has_any _ W).mono fun _ _ h=>⟨h.1,h.2.symm⟩
                  have HHE:=hid hhe
                  have HHF:=hid hhf
                  clear hhe hhf
                  cases hs1:standsE k he1 y.e with
                  | false =>
                    have S1:=hid hs1
                    have HM:=hid (mayP_de HDJ.out (mayD_it HYL.out (show mayI p.exprs.length y = false by rw [hn.out];unfold mayI;rw [← HHE.out,hs1];rfl)))
                    clear hs1
                    go_wp2_with (go_at_call 40;((with_reducible refine (CH.out _).mono ?_);rintro e w9 ⟨rfl,rfl⟩))
                    have Gg1:=fun pr:Regrown=>cell_regrown g1 pr.d pr.os
                    have Gg2:=fun pr:Regrown=>cell_regrown g2 pr.d pr.os
                    have Gg3:=fun pr:Regrown=>cell_regrown g3 pr.d pr.os
                    have Gi3:=fun pr:Regrown=>cell_regrown i3 pr.d pr.os
                    have Gi4:=fun pr:Regrown=>cell_regrown i4 pr.d pr.os
                    clear g1 g2 g3 i0 i3 i4
                    have CE:Hid (∀ pr:Regrown,Calls Tryz.prog 53 #[.agg #[.slice o1 m dcap,.slice o2 k cap],.int .i64 (y.e),.bool he1] (Go.Sort.grow (redrawn wr pr.d) pr.os) fun e w''=>e = .returned (.bool false)∧∃ p:Regrown,w'' = Go.Sort.grow (redrawn wr p.d) p.os):=hid fun pr=>Calls.regrown_of (by rw [← S1.out];exact CP'.out _ he1 y.e)
                    refine wp_region_quiet_below (by kernel_rfl) (by kernel_rfl) ?_
                    repeat (go_big_quiet_step (with_reducible exact CE.out _))
                    refine wpQuiet_nil ?_
                    intro w7 hw7
                    have HB3:Hid (Below wr.heap.size wr w7):=hid (by obtain ⟨pr,rfl⟩:=hw7;exact below_regrown _ _ _)
                    clear hw7 Gg1 Gg2 Gg3 Gi3 Gi4 CE
                    go_wp2_with fail
                    go_ret
                    exact ⟨by rw [HM.out];rfl,hW.out.trans (HB3.out.mono hW.out.size)⟩
                  | true =>
                    have S1:=hid hs1
                    clear hs1
                    cases hs2:standsE k hf1 y.f with
                    | false =>
                      have S2:=hid hs2
                      have HM:=hid (mayP_de HDJ.out (mayD_it HYL.out (show mayI p.exprs.length y = false by rw [hn.out];unfold mayI;rw [← HHE.out,S1.out,← HHF.out,hs2];rfl)))
                      clear hs2
                      go_wp2_with (go_at_call 40;((with_reducible refine (CH.out _).mono ?_);rintro e w9 ⟨rfl,rfl⟩))
                      have Gg1:=fun pr:Regrown=>cell_regrown g1 pr.d pr.os
                      have Gg2:=fun pr:Regrown=>cell_regrown g2 pr.d pr.os
                      have Gg3:=fun pr:Regrown=>cell_regrown g3 pr.d pr.os
                      have Gi3:=fun pr:Regrown=>cell_regrown i3 pr.d pr.os
                      have Gi4:=fun pr:Regrown=>cell_regrown i4 pr.d pr.os
                      clear g1 g2 g3 i0 i3 i4
                      have CE:Hid (∀ pr:Regrown,Calls Tryz.prog 53 #[.agg #[.slice o1 m dcap,.slice o2 k cap],.int .i64 (y.e),.bool he1] (Go.Sort.grow (redrawn wr pr.d) pr.os) fun e w''=>e = .returned (.bool true)∧∃ p:Regrown,w'' = Go.Sort.grow (redrawn wr p.d) p.os):=hid fun pr=>Calls.regrown_of (by rw [← S1.out];exact CP'.out _ he1 y.e)
                      have CF:Hid (∀ pr:Regrown,Calls Tryz.prog 53 #[.agg #[.slice o1 m dcap,.slice o2 k cap],.int .i64 (y.f),.bool hf1] (Go.Sort.grow (redrawn wr pr.d) pr.os) fun e w''=>e = .returned (.bool false)∧∃ p:Regrown,w'' = Go.Sort.grow (redrawn wr p.d) p.os):=hid fun pr=>Calls.regrown_of (by rw [← S2.out];exact CP'.out _ hf1 y.f)
                      refine wp_region_quiet_below (by kernel_rfl) (by kernel_rfl) ?_
                      repeat (go_big_quiet_step (first | with_reducible exact CE.out _ | with_reducible exact CF.out _))
                      refine wpQuiet_nil ?_
                      intro w7 hw7
                      have HB3:Hid (Below wr.heap.size wr w7):=hid (by obtain ⟨pr,rfl⟩:=hw7;exact below_regrown _ _ _)
                      clear hw7 Gg1 Gg2 Gg3 Gi3 Gi4 CE CF
                      go_wp2_with fail
                      go_ret
                      exact ⟨by rw [HM.out];rfl,hW.out.trans (HB3.out.mono hW.out.size)⟩
                    | true =>
                      have S2:=hid hs2
                      clear hs2
                      go_wp2_with (go_at_call 40;((with_reducible refine (CH.out _).mono ?_);rintro e w9 ⟨rfl,rfl⟩))
                      have Gg1:=fun pr:Regrown=>cell_regrown g1 pr.d pr.os
                      have Gg2:=fun pr:Regrown=>cell_regrown g2 pr.d pr.os
                      have Gg3:=fun pr:Regrown=>cell_regrown g3 pr.d pr.os
                      have Gi3:=fun pr:Regrown=>cell_regrown i3 pr.d pr.os
                      have Gi4:=fun pr:Regrown=>cell_regrown i4 pr.d pr.os
                      clear g1 g2 g3 i0 i3 i4
                      have CE:Hid (∀ pr:Regrown,Calls Tryz.prog 53 #[.agg #[.slice o1 m dcap,.slice o2 k cap],.int .i64 (y.e),.bool he1] (Go.Sort.grow (redrawn wr pr.d) pr.os) fun e w''=>e = .returned (.bool true)∧∃ p:Regrown,w'' = Go.Sort.grow (redrawn wr p.d) p.os):=hid fun pr=>Calls.regrown_of (by rw [← S1.out];exact CP'.out _ he1 y.e)
                      have CF:Hid (∀ pr:Regrown,Calls Tryz.prog 53 #[.agg #[.slice o1 m dcap,.slice o2 k cap],.int .i64 (y.f),.bool hf1] (Go.Sort.grow (redrawn wr pr.d) pr.os) fun e w''=>e = .returned (.bool true)∧∃ p:Regrown,w'' = Go.Sort.grow (redrawn wr p.d) p.os):=hid fun pr=>Calls.regrown_of (by rw [← S2.out];exact CP'.out _ hf1 y.f)
                      refine wp_region_quiet_below (by kernel_rfl) (by kernel_rfl) ?_
                      repeat (go_big_quiet_step (first | with_reducible exact CE.out _ | with_reducible exact CF.out _))
                      refine wpQuiet_nil ?_
                      intro w7 hw7
                      have HB3:Hid (Below wr.heap.size wr w7):=hid (by obtain ⟨pr,rfl⟩:=hw7;exact below_regrown _ _ _)
                      clear hw7 Gg1 Gg2 Gg3 Gi3 Gi4 CE CF
                      go_wp2_with fail
                      go_roundw
                      case rel =>
                        have hb8:=HB3.out
                        refine ⟨l+1,by go_num,by omega,hid fun i hi y2 hy2=>?_,hid (hW.out.trans (hb8.mono hW.out.size)),hid ((hb8.block _ (lt_of_heap hB.out)).trans hB.out),hid ((hb8.block _ (lt_of_heap hD.out)).trans hD.out)⟩
                        rcases Nat.lt_or_ge i l with h | h
                        · exact hY.out i h y2 hy2
                        · obtain rfl:i = l:=by omega
                          rw [HYL.out] at hy2
                          obtain rfl:=Option.some.inj hy2
                          unfold mayI;rw [← HHE.out,S1.out,← HHF.out,S2.out];rfl
                      case measure=>simp [litLen];omega
                · obtain rfl:l = ni:=by omega
                  have hdd:Hid (mayD k d = true):=hid (by unfold mayD;rw [← HSV.out,mayI_all hY.out (by rw [HN.out];exact Nat.le_refl _)];rfl)
                  go_wp2_with fail
                  go_roundw
                  case rel =>
                    refine ⟨j+1,by go_num,by omega,hid fun i hi d2 hd2=>?_,hW,hB⟩
                    rcases Nat.lt_or_ge i j with h | h
                    · exact hX.out i h d2 hd2
                    · obtain rfl:i = j:=by omega
                      rw [HDJ.out] at hd2
                      obtain rfl:=Option.some.inj hd2
                      exact hdd.out
                  case measure=>simp [litLen];omega
        · obtain rfl:j = m:=by omega
          have hP:Hid (mayP p = true):=hid (by unfold mayP;rw [hEX.out,hn.out,mayD_all hX.out (by rw [hm.out];exact Nat.le_refl _)];rfl)
          go_wp2_with fail
          go_ret
          exact ⟨by rw [hP.out];rfl,hW.out⟩
theorem refMay_any (sd se:Value) (p:Pr) (w:World) (h:ProgAt w sd se p) (hs:Small p):Calls Tryz.prog 28 #[.agg #[sd,se]] w fun e w'=>MayPost (mayP p) w e w':=by
  obtain ⟨⟨o1,dcap,db,doff,rfl,hd1,hd2,hd3,hd4⟩,⟨o2,cap,b,off,rfl,he1,he2,he3,he4⟩,h3,h4⟩:=h
  exact refMay_core o1 o2 b off cap db doff dcap p _ _ (hid rfl) (hid rfl) (by have:=hs.exprs;omega) (by have:=hs.decls;omega) w (hid hs) (hid he3) (hid hd3) (hid he4) (hid hd4)
end Go.Proofs.YtdlmfeflinbbjaaGreat
