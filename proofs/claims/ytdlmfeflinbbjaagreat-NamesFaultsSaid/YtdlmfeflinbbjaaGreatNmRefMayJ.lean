import Derived.Test.YtdlmfeflinbbjaaGreatNmJA
import Derived.Test.YtdlmfeflinbbjaaGreatNmJB
import Derived.Test.YtdlmfeflinbbjaaGreatAstRefMayPJ
namespace Go.Proofs.YtdlmfeflinbbjaaGreat
open Go.Lib (hid)
open Go.RowKit Lx Go.Shelf
attribute [local go_sem] Oper.semAt_some
set_option maxHeartbeats 8000000 in
set_option maxRecDepth 100000 in
theorem refMayN_core (o1 o2:Option Addr) (db doff dcap n cap:Nat) (p:Pr) (m:Nat) (hm:Hid (p.decls.length = m)) (ml:(m:Int)≤60) (w:World) (hS:Hid (Small p)) (hd:Hid (0 < m→o1 = some ⟨db,doff,none⟩))
    (hdc:Hid (∀ i,i < m→∀ x,p.decls[i]? = some x→DeAt w db (doff+i*7) x))
    (MAY:Hid (∀ W,Below w.heap.size w W→Calls Tryz.prog 28 #[.agg #[(.slice o1 m dcap),(.slice o2 n cap)]] W fun e w'=>MayPost (mayP p) W e w')) :
    Calls Tryz.prog 11 #[.agg #[(.slice o1 m dcap),(.slice o2 n cap)]] w fun e w'=>MayPost (mayN p) w e w':=by
  have hW0:=hid (below_al (Below.refl w.heap.size w) (.cells #[(.slice o1 m dcap),(.slice o2 n cap)] 25))
  have hB0:Hid ((w.alloc (.cells #[(.slice o1 m dcap),(.slice o2 n cap)] 25)).heap[w.heap.size]? = some (.cells #[(.slice o1 m dcap),(.slice o2 n cap)] 25 (0,0))):=hid (World.alloc_heap_new w _)
  go_enter Tryz.func11,Tryz.ntmps11
  go_wp2_with fail
  go_loopw [3] (fun i wr=>∃ (j:Nat),i = .int .i64 j∧j≤m∧Hid (∀ i,i < j→∀ d,p.decls[i]? = some d→kindsD d = true)∧Hid (Below w.heap.size w wr)∧Hid (wr.heap[w.heap.size]? = some (.cells #[(.slice o1 m dcap),(.slice o2 n cap)] 25 (0,0)))) (fun i _=>m - litLen i)
  case atStart=>exact ⟨0,rfl,Nat.zero_le _,hid fun i hi=>by omega,hW0,hB0⟩
  case round =>
    clear hW0 hB0
    obtain ⟨j,rfl,hj,hX,hW,hB⟩:=hrel
    obtain ⟨g1,g2⟩:=cells_two hB.out
    rcases Nat.lt_or_ge j m with hlt | hge
    · have hl:(j:Int) < (m:Int):=by omega
      obtain ⟨d,hdj⟩:∃ x,p.decls[j]? = some x:=⟨_,List.getElem?_eq_getElem (by have:=hm.out;omega)⟩
      obtain ⟨op,capp,oi,capi,bi,offi,hok,c0,c1,c2,c3,c4,c5,c6,hi3,hi4⟩:=de_cells' (hdc.out j hlt d hdj) hW.out
      have ix:=ix_des (cap:=dcap) hd.out hlt (by omega)
      unfold Ix at ix
      have hds:=hS.out.de d (List.mem_of_getElem? hdj)
      obtain ⟨ni,hni⟩:∃ ni,ni = d.items.length:=⟨_,rfl⟩
      rw [← hni] at c3 hi3 hi4
      have nil' : (ni:Int)≤600:=by have:=hds.2.1;omega
      have HN:=hid hni
      have HI3:=hid hi3
      have HI4:=hid hi4
      have HDJ:=hid hdj
      have KL:(1≤d.kind∧d.kind≤3)∨d.kind < 1∨3 < d.kind:=by omega
      clear hni hi3 hi4 hok hdj hds c1 c2 c4 c5 c6
      rcases KL with ⟨k1,k2⟩ | k1 | k1
      · have q1:decide (d.kind < 1) = false:=decide_eq_false (by omega)
        have q2:decide (3 < d.kind) = false:=decide_eq_false (by omega)
        go_wp2_with fail
        have KD:=hid (show 1≤d.kind∧d.kind≤3 from ⟨k1,k2⟩)
        have HC:=hid (And.intro c3 (And.intro g1 g2))
        clear c0 c3 g1 g2 q1 q2 k1 k2
        go_loopw [4] (fun i wq=>∃ (l:Nat),i = .int .i64 l∧l≤ni∧wq = wr∧Hid (∀ i,i < l→∀ y,d.items[i]? = some y→kindsI y = true)) (fun i _=>ni - litLen i)
        case atStart=>exact ⟨0,rfl,Nat.zero_le _,rfl,hid fun i hi=>by omega⟩
        case round =>
          obtain ⟨l,rfl,hl',rfl,hY⟩:=hrel
          obtain ⟨c3,g1,g2⟩:=HC.out
          rcases Nat.lt_or_ge l ni with hlt2 | hge2
          · have hl2:(l:Int) < (ni:Int):=by omega
            obtain ⟨y,hyl⟩:∃ x,d.items[l]? = some x:=⟨_,List.getElem?_eq_getElem (by have:=HN.out;omega)⟩
            obtain ⟨os,caps,iok,i0,i1,i2,i3,i4,i5,i6,i7,i8⟩:=it_cells ((HI4.out l hlt2 y hyl).below hW.out)
            have ix2:=ix_its (cap:=capi) (n:=ni) HI3.out hlt2 (by omega)
            unfold Ix at ix2
            have HYL:=hid hyl
            have KY:(1≤y.kind∧y.kind≤8)∨y.kind < 1∨8 < y.kind:=by omega
            clear hyl iok i1 i2 i3 i4 i5 i6 i7 i8
            rcases KY with ⟨k1,k2⟩ | k1 | k1
            · have q1:decide (y.kind < 1) = false:=decide_eq_false (by omega)
              have q2:decide (8 < y.kind) = false:=decide_eq_false (by omega)
              have KYH:=hid (show kindsI y = true by unfold kindsI;rw [decide_eq_true k1,decide_eq_true k2];rfl)
              go_wp2_with fail
              exact ⟨⟨l+1,by go_num,by omega,by first | exact trivial | rfl,hid fun i hi z hz=>by
                rcases Nat.lt_or_ge i l with h | h
                · exact hY.out i h z hz
                · obtain rfl:i = l:=by omega
                  have:=HYL.out;rw [hz] at this;cases this;exact KYH.out⟩,by simp [litLen];omega⟩
            · have q1:decide (y.kind < 1) = true:=decide_eq_true k1
              have HNO:=hid (mayN_no HDJ.out (kindsD_it HYL.out (show kindsI y = false by unfold kindsI;rw [decide_eq_false (by omega:¬ 1≤y.kind)];rfl)))
              clear hX hY
              go_wp2_with fail
              go_ret
              exact ⟨by rw [HNO.out];rfl,hW.out⟩
            · have q1:decide (y.kind < 1) = false:=decide_eq_false (by omega)
              have q2:decide (8 < y.kind) = true:=decide_eq_true (by omega)
              have HNO:=hid (mayN_no HDJ.out (kindsD_it HYL.out (show kindsI y = false by unfold kindsI;rw [decide_eq_false (by omega:¬ y.kind≤8)];simp)))
              clear hX hY
              go_wp2_with fail
              go_ret
              exact ⟨by rw [HNO.out];rfl,hW.out⟩
          · obtain rfl:l = ni:=by omega
            have HA:=hid (all_of hY.out (by rw [← HN.out];exact Nat.le_refl _))
            clear hY
            go_wp2_with fail
            exact ⟨⟨j+1,by go_num,by omega,hid fun i hi z hz=>by
              rcases Nat.lt_or_ge i j with h | h
              · exact hX.out i h z hz
              · obtain rfl:i = j:=by omega
                have:=HDJ.out;rw [hz] at this;cases this
                unfold kindsD;rw [decide_eq_true KD.out.1,decide_eq_true KD.out.2,HA.out];rfl,hW,hB⟩,by simp [litLen];omega⟩
      · have q1:decide (d.kind < 1) = true:=decide_eq_true k1
        have HNO:=hid (mayN_no HDJ.out (show kindsD d = false by unfold kindsD;rw [decide_eq_false (by omega:¬ 1≤d.kind)];rfl))
        clear hX
        go_wp2_with fail
        go_ret
        exact ⟨by rw [HNO.out];rfl,hW.out⟩
      · have q1:decide (d.kind < 1) = false:=decide_eq_false (by omega)
        have q2:decide (3 < d.kind) = true:=decide_eq_true (by omega)
        have HNO:=hid (mayN_no HDJ.out (show kindsD d = false by unfold kindsD;rw [decide_eq_false (by omega:¬ d.kind≤3)];simp))
        clear hX
        go_wp2_with fail
        go_ret
        exact ⟨by rw [HNO.out];rfl,hW.out⟩
    · obtain rfl:j = m:=by omega
      have HA:=hid (all_of hX.out (by rw [hm.out];exact Nat.le_refl _))
      have C:=hid (MAY.out wr hW.out)
      clear hX
      go_wp2_with (go_at_call 28;((with_reducible refine C.out.mono ?_);rintro e w1 ⟨rfl,hb1⟩;have HB1:=hid hb1;clear hb1))
      go_ret
      exact ⟨by unfold mayN;rw [HA.out];rfl,hW.out.trans (HB1.out.mono hW.out.size)⟩
theorem refMayN_any (sd se:Value) (p:Pr) (w:World) (h:ProgAt w sd se p) (hs:Small p):Calls Tryz.prog 11 #[.agg #[sd,se]] w fun e w'=>MayPost (mayN p) w e w':=by
  obtain ⟨⟨o1,dcap,db,doff,rfl,hd1,hd2,hd3,hd4⟩,⟨o2,cap,b,off,rfl,he1,he2,he3,he4⟩,h3,h4⟩:=id h
  exact refMayN_core o1 o2 db doff dcap _ cap p _ (hid rfl) (by have:=hs.decls;omega) w (hid hs) (hid hd3) (hid hd4) (hid fun W hW=>refMay_any _ _ p W (h.below hW) hs)
end Go.Proofs.YtdlmfeflinbbjaaGreat
