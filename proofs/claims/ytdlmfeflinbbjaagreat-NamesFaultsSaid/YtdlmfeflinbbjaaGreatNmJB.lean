import Derived.Test.YtdlmfeflinbbjaaGreatNmJA
import Derived.Test.YtdlmfeflinbbjaaGreatShelf
namespace Go.Proofs.YtdlmfeflinbbjaaGreat
open Go.Lib (hid)
section
open Go.RowKit Lx Go.Shelf
attribute [local go_sem] Oper.semAt_some
theorem nm_small:Small nmP:=by
  refine ⟨by decide,by decide,fun x hx=>by simp [nmP] at hx,fun d hd=>?_⟩
  obtain rfl:=List.mem_singleton.1 hd
  exact ⟨by decide,by decide,fun y hy=>by obtain rfl:=List.mem_singleton.1 hy;decide⟩
theorem nm_may:mayN nmP = true:=by kernel_rfl
theorem may_nm (gd gi cd ce ci:Nat) (oe:Option Addr) (w:World) (h:NmAt w gd gi (some ⟨gd,0,none⟩) oe cd ce ci):Calls Tryz.prog 30 #[.agg #[.slice (some ⟨gd,0,none⟩) 1 cd,.slice oe 0 ce]] w fun e Y=>e = .returned (.bool true)∧Below w.heap.size w Y:=by
  have:=nmMay_any _ _ nmP w h.prog nm_small
  rw [nm_may] at this
  exact this
set_option maxHeartbeats 2000000 in
theorem wrong_any (o o2:Option Addr) (n c n2 c2:Nat) (w:World):Calls Tryz.prog 29 #[.agg #[.slice o n c,.slice o2 n2 c2]] w fun r Y=>r = .returned (.func (.func 54) #[] #[.pointer (some ⟨w.heap.size,0,none⟩)])∧w.alloc (.cells #[.slice o n c,.slice o2 n2 c2] 25) = Y:=by
  go_enter Tryz.func29,Tryz.ntmps29
  go_wp2_with fail
  go_ret
  exact ⟨rfl,rfl⟩
theorem cells_two {W:World} {B:Nat} {a b:Value} {T:TypeId} (h:W.heap[B]? = some (.cells #[a,b] T (0,0))):W.cell? ⟨B,0,none⟩ = some a∧W.cell? ⟨B,1,none⟩ = some b:=⟨by simp [World.cell?,h],by simp [World.cell?,h]⟩
theorem cell_sole {W:World} {B:Nat} {a:Value} {T:TypeId} (h:W.heap[B]? = some (.cells #[a] T (0,0))):W.cell? ⟨B,0,none⟩ = some a:=by simp [World.cell?,h]
set_option maxHeartbeats 8000000 in
theorem wrong_one (n:Nat) (w:World) (B gd gi cd ce ci:Nat) (oe:Option Addr) (M:Nat→Prop) (h0:NmAt w gd gi (some ⟨gd,0,none⟩) oe cd ce ci) (hB:w.heap[B]? = some (.cells #[.slice (some ⟨gd,0,none⟩) 1 cd,.slice oe 0 ce] 25 (0,0))) (hM:∀ k,M k→k < w.heap.size) (hMd:¬ M gd) (hMi:¬ M gi) :
    OneY Fence.wide n Tryz.prog 54 #[.pointer (some ⟨B,0,none⟩)] #[.int .i64 13] M w:=by
  intro l W R hW hY
  have H0:=hid (h0.below hW)
  have HB:=hid ((hW.block _ (lt_of_heap hB)).trans hB)
  have HY:=hid (fun X hX=>YieldAt.deep (F:=Fence.wide) rfl 3 (hY X hX))
  have HM:=hid (show ∀ k,M k→k < W.heap.size from fun k hk=>Nat.lt_of_lt_of_le (hM k hk) hW.size)
  have HMN:=hid (show ¬ M gd∧¬ M gi from ⟨hMd,hMi⟩)
  clear h0 hB hM hY hW hMd hMi
  have key:CallsIn Fence.wide 6 Tryz.prog 54 #[.func (.yield l) #[] #[],.pointer (some ⟨B,0,none⟩)] W fun e Y=>(∃ u,e = .returned u)∧∃ X Z,Below W.heap.size W X∧R X Z∧Cons M X Z∧After W.heap.size X Z Y:=by
    obtain ⟨b0,b1⟩:=cells_two (al_old (o:=.cells #[.func (.yield l) #[] #[]] 100) HB.out)
    have MA:=hid (fun X hX=>may_nm gd gi cd ce ci oe X (H0.out.below hX))
    have FA:=hid (fun X hX=>firsts_any X gd gi cd ce ci oe (hid (H0.out.below hX)))
    refine callsIn_of_wp_marks Tryz.func54 rfl trivial ?_ rfl
    simp only [Tryz.ntmps54,List.size_toArray,List.length_cons,List.length_nil,Nat.reduceAdd,Nat.reduceSub,Array.replicate_succ,Array.replicate_zero,List.push_toArray,List.append_toArray,List.nil_append,List.cons_append]
    have HBa:=hid ((Below.refl W.heap.size W).alloc (Nat.le_refl _) (.cells #[.func (.yield l) #[] #[]] 100))
    gi_wp2_with (first
      | (refine ⟨trivial,?_⟩;gi_at_call 30;((with_reducible refine (callsIn_wide.2 (MA.out _ HBa.out)).mono ?_);rintro e w1 ⟨rfl,hb1⟩;have HB1:=hid (HBa.out.trans (hb1.mono HBa.out.size));have hbx:=(HB1.out.block _ (lt_of_heap HB.out)).trans HB.out;obtain ⟨c0,c1⟩:=cells_two hbx;have HYB1:=hid ((hb1.block _ (by simp)).trans (al_new (W:=W) rfl));clear hb1 hbx))
      | (refine ⟨trivial,?_⟩;gi_at_call 55;((with_reducible refine (callsIn_wide.2 (FA.out _ HB1.out)).mono ?_);rintro e w2 ⟨rfl,hm2,hb2⟩;have HM2:=hid hm2;have HB2:=hid (HB1.out.trans (hb2.mono HB1.out.size));have hbx:=(HB2.out.block _ (lt_of_heap HB.out)).trans HB.out;obtain ⟨d0,d1⟩:=cells_two (al_old (o:=.cells #[.map (some (w1.heap.size+1))] 101) hbx);have HYB2:=hid ((hb2.block _ (lt_of_heap HYB1.out)).trans HYB1.out);clear hb2 hbx hm2))
      | (refine ⟨trivial,?_⟩;gi_at_call 56;((with_reducible refine (callsIn_wide.2 (wrongDecls_any _ _ _ _ _ _ _ _)).mono ?_);rintro e w3 ⟨rfl,rfl⟩)))
    obtain ⟨V3,hV3⟩:∃ V3,V3 = ((w2.alloc (.cells #[.map (some (w1.heap.size+1))] 101)).alloc (.cells #[.slice (some ⟨gd,0,none⟩) 1 cd,.slice oe 0 ce] 25)).alloc (.cells #[.map (some (w1.heap.size+1))] 101):=⟨_,rfl⟩
    have v1:V3.heap[w2.heap.size+1]? = some (.cells #[.slice (some ⟨gd,0,none⟩) 1 cd,.slice oe 0 ce] 25 (0,0)):=by rw [hV3];exact al_old (al_new (by simp))
    have v2:V3.heap[w2.heap.size+1+1]? = some (.cells #[.map (some (w1.heap.size+1))] 101 (0,0)):=by rw [hV3];exact al_new (by simp)
    have vm:V3.heap[w1.heap.size+1]? = some oneMap:=by rw [hV3];exact al_old (al_old (al_old HM2.out))
    have vb2:Below w2.heap.size w2 V3:=by rw [hV3];exact (((Below.refl _ _).alloc (Nat.le_refl _) _).alloc (by simp) _).alloc (by simp;omega) _
    have vB:=HB2.out.trans (vb2.mono HB2.out.size)
    have vy:V3.heap[W.heap.size]? = some (.cells #[.func (.yield l) #[] #[]] 100 (0,0)):=(vb2.block _ (lt_of_heap HYB2.out)).trans HYB2.out
    rw [← hV3]
    have HV:=hid (show _∧_ from ⟨vB,vy⟩)
    refine range_none rfl (by decide) (gf:=87) (lb:=#[.pointer (some ⟨w2.heap.size+1,0,none⟩),.pointer (some ⟨w2.heap.size+1+1,0,none⟩)]) rfl trivial (enters_of Tryz.func87 (by kernel_rfl) rfl) (wrongDecls_none _ _ gd gi cd ce ci oe (H0.out.below vB) (w2.heap.size+1) (w2.heap.size+1+1) (w1.heap.size+1) v1 v2 vm) ?_
    clear v1 v2 vm vb2 vB vy hV3 b0 b1 c0 c1 d0 d1
    rintro D0 Y0 hD0 hY0 hK0
    have hbY:=HV.out.1.trans (hY0.mono HV.out.1.size)
    have HY0:=hid hbY
    have HK0:=hid hK0
    have HYS:Hid (W.heap.size≤Y0.heap.size):=hid hbY.size
    have HD0:Hid (W.heap.size≤D0):=hid (Nat.le_trans HV.out.1.size hD0)
    have HYB:=hid ((hY0.block _ (lt_of_heap HV.out.2)).trans HV.out.2)
    obtain ⟨b0,b1⟩:=cells_two ((hbY.block _ (lt_of_heap HB.out)).trans HB.out)
    clear hD0 hY0 hK0 hbY
    have WA:=hid (fun X=>walker_any (some ⟨gd,0,none⟩) 1 cd oe ce X)
    gi_wp2_with (refine ⟨trivial,?_⟩;gi_at_call 57;((with_reducible refine (callsIn_wide.2 (WA.out _)).mono ?_);rintro e w4 ⟨E,rfl,hE,hP,hb4⟩;have HP:=hid hP;have HE:=hid hE;have HB4:=hid (HY0.out.trans (hb4.mono HY0.out.size));have HK4:=hid ((hb4.block _ (lt_of_heap HK0.out)).trans HK0.out);have HYB4:=hid ((hb4.block _ (lt_of_heap HYB.out)).trans HYB.out);obtain ⟨c0,c1⟩:=cells_two ((HB4.out.block _ (lt_of_heap HB.out)).trans HB.out);have HS4:=hid hb4.size;clear hE hP hb4))
    refine loop_once ?_
    clear b0 b1
    have H4:=hid (H0.out.below HB4.out)
    obtain ⟨_,k0,k1,k2,k3,k4,k5,k6,_,_,_,_,_,_,_,_,_,_,_,_⟩:=H4.out
    have SA:=hid (fun X hX=>callsIn_wide.1 (scope_any X gi ci (hid ((H4.out.below hX).it))))
    have HBd:=hid ((Below.refl w4.heap.size w4).alloc (Nat.le_refl _) (.cells #[.int .i64 3,.string (str [109]),.slice none 0 0,.slice (some ⟨gi,0,none⟩) 1 ci,.int .i64 0,.int .i64 0,.int .i64 0] 44))
    have WI:=hid (fun m1 m2 X=>wrongItems_any none (some ⟨gi,0,none⟩) 0 0 1 ci m1 m2 3 0 0 0 (str [109]) X)
    gi_wp2_with (first
      | (refine ⟨trivial,?_⟩;gi_at_call 58;((with_reducible refine (callsIn_wide.2 (SA.out _ HBd.out)).mono ?_);rintro e w5 ⟨m1,m2,rfl,hm1,hm2,hq1,hq2,hb5⟩;have HQ1:=hid hq1;have HB5:=hid hb5;have hbx:=(hb5.block _ (by simp)).trans (al_new (W:=w4) (o:=.cells #[.int .i64 3,.string (str [109]),.slice none 0 0,.slice (some ⟨gi,0,none⟩) 1 ci,.int .i64 0,.int .i64 0,.int .i64 0] 44) rfl);obtain ⟨e0,e1,e2,e3,e4,e5,e6⟩:=NmBox.c (gi:=gi) (ci:=ci) (al_old (o:=.cells #[.map (some m1),.map (some m2)] 109) hbx);clear hm1 hm2 hq1 hq2 hb5 hbx))
      | (refine ⟨trivial,?_⟩;gi_at_call 59;((with_reducible refine (callsIn_wide.2 (WI.out _ _ _)).mono ?_);rintro e w6 ⟨rfl,rfl⟩)))
    obtain ⟨V6,hV6⟩:∃ V6,V6 = ((w5.alloc (.cells #[.map (some m1),.map (some m2)] 109)).alloc (.cells #[.int .i64 3,.string (str [109]),.slice none 0 0,.slice (some ⟨gi,0,none⟩) 1 ci,.int .i64 0,.int .i64 0,.int .i64 0] 44)).alloc (.cells #[.map (some m1),.map (some m2)] 109):=⟨_,rfl⟩
    have v1:NmBox V6 (w5.heap.size+1) gi ci:=by unfold NmBox;rw [hV6];exact al_old (al_new (by simp))
    have v2:V6.heap[w5.heap.size+1+1]? = some (.cells #[.map (some m1),.map (some m2)] 109 (0,0)):=by rw [hV6];exact al_new (by simp)
    have vm:V6.heap[m1]? = some (.map #[] 0):=by rw [hV6];exact al_old (al_old (al_old HQ1.out))
    have vb5:Below w5.heap.size w5 V6:=by rw [hV6];exact (((Below.refl _ _).alloc (Nat.le_refl _) _).alloc (by simp) _).alloc (by simp;omega) _
    have vb4:Below w4.heap.size w4 V6:=HBd.out.trans ((HB5.out.trans (vb5.mono HB5.out.size)).mono HBd.out.size)
    have vB:Below W.heap.size W V6:=HB4.out.trans (vb4.mono HB4.out.size)
    have HV6:=hid (show _∧_ from ⟨vb4,vB⟩)
    have HM6:=hid (show ∀ k,M k→k < V6.heap.size from fun k hk=>Nat.lt_of_lt_of_le (HM.out k hk) vB.size)
    have OI:=hid (wrongItems_one 5 V6 (w5.heap.size+1) (w5.heap.size+1+1) gi ci m1 m2 M v1 (H0.out.below vB).it v2 vm)
    rw [← hV6]
    clear hV6 v1 v2 vm vb5 vb4 vB k0 k1 k2 k3 k4 k5 k6 e0 e1 e2 e3 e4 e5 e6 c0 c1 SA WI
    apply range_one (F:=Fence.wide) (n:=6) (gf:=91) (lb:=#[.pointer (some ⟨w5.heap.size+1,0,none⟩),.pointer (some ⟨w5.heap.size+1+1,0,none⟩)]) (args:=#[.int .i64 13]) (M:=M) rfl (by decide) rfl trivial (enters_of Tryz.func91 (by kernel_rfl) rfl) HM6.out OI.out rfl R
    case hassign =>
      intro l' X K hK
      gi_wp2
      exact hK
    case hbody =>
      intro l' Z hl' hZ
      have hbZ:=HV6.out.2.trans (hZ.mono HV6.out.2.size)
      have yb:=cell_sole ((hZ.block _ (lt_of_heap ((HV6.out.1.block _ (lt_of_heap HYB4.out)).trans HYB4.out))).trans ((HV6.out.1.block _ (lt_of_heap HYB4.out)).trans HYB4.out))
      obtain ⟨fn,tmps,assign,body,hy,hR⟩:=HY.out Z hbZ
      have hy' : (Instr.yield l #[.int .i64 13]).run Tryz.prog Z = .ok (.round l fn tmps assign body) Z:=hy
      have HR:=hid hR
      clear hy hR hbZ hZ
      gi_wp2
      refine HR.out.mono ?_
      rintro e W' ⟨rfl,hr,hc⟩
      have HX:=hid (show _∧_ from ⟨hc,hr⟩)
      clear hr hc hy' yb
      gi_wp2
      exact HX.out
    case hdone =>
      rintro D1 Z W' Y1 hD1 hD1' hZ hR hC hA hK1
      have hbZ:=HV6.out.2.trans (hZ.mono HV6.out.2.size)
      have hs6:=HV6.out.2.size
      have hsZ:=hZ.size
      have hsW:=hC.size
      have hsY:=hA.size
      have on6:∀ {k:Nat} {o:Obj},V6.heap[k]? = some o→¬ M k→Y1.heap[k]? = some o:=fun {k o} ho hm=>by
        have hl:=lt_of_heap ho
        exact (hA.block k (by omega) (.inl hl)).trans ((hC.block k (by omega) hm).trans ((hZ.block k hl).trans ho))
      have on4:∀ {k:Nat} {o:Obj},w4.heap[k]? = some o→¬ M k→Y1.heap[k]? = some o:=fun {k o} ho hm=>on6 ((HV6.out.1.block k (lt_of_heap ho)).trans ho) hm
      have nM:∀ k,W.heap.size≤k→¬ M k:=fun k hk h=>by have:=HM.out k h;omega
      have cd1:∀ {j:Nat} {v:Value},W.cell? ⟨gd,j,none⟩ = some v→Y1.cell? ⟨gd,j,none⟩ = some v:=fun {j v} hv=>by
        have hl:=World.block_lt_of_cell? _ _ hv
        simp only at hl
        have e:Y1.heap[gd]? = W.heap[gd]?:=(hA.block gd (by omega) (.inl (by omega))).trans ((hC.block gd (by omega) HMN.out.1).trans (hbZ.block gd hl))
        rw [← hv];exact cell_same' e j
      have cd2:∀ {j:Nat} {v:Value},W.cell? ⟨gi,j,none⟩ = some v→Y1.cell? ⟨gi,j,none⟩ = some v:=fun {j v} hv=>by
        have hl:=World.block_lt_of_cell? _ _ hv
        simp only at hl
        have e:Y1.heap[gi]? = W.heap[gi]?:=(hA.block gi (by omega) (.inl (by omega))).trans ((hC.block gi (by omega) HMN.out.2).trans (hbZ.block gi hl))
        rw [← hv];exact cell_same' e j
      have hN:NmAt Y1 gd gi (some ⟨gd,0,none⟩) oe cd ce ci:=by
        obtain ⟨a1,a2,a3,a4,a5,a6,a7,a8,a9,a10,a11,a12,a13,a14,a15,a16,a17,a18,a19,a20⟩:=H0.out
        exact ⟨a1,cd1 a2,cd1 a3,cd1 a4,cd1 a5,cd1 a6,cd1 a7,cd1 a8,cd2 a9,cd2 a10,cd2 a11,cd2 a12,cd2 a13,cd2 a14,cd2 a15,cd2 a16,cd2 a17,a18,a19,a20⟩
      have HN:=hid hN
      have HP1:=hid (on4 HP.out (nM _ HYS.out))
      have HK1:=hid (on4 HK4.out (nM _ HD0.out))
      have HKD:=HK1
      have HDK:=hid hK1
      have HALL:=hid (show _∧_∧_∧_∧_∧_ from ⟨hD1,hD1',hbZ,hR,hC,hA⟩)
      clear hbZ hs6 hsZ hsW hsY on6 on4 nM cd1 cd2 hN hD1 hD1' hZ hR hC hA hK1
      dsimp only
      have W1:=hid (fun X=>walker1_any Y0.heap.size E 0 X)
      gi_wp2_with (refine ⟨trivial,?_⟩;gi_at_call 88;((with_reducible refine (callsIn_wide.2 (W1.out _)).mono ?_);rintro e w7 ⟨rfl,rfl⟩))
      obtain ⟨V7,hV7⟩:∃ V7,V7 = Y1.alloc (.cells #[.int .i64 0] 3):=⟨_,rfl⟩
      have vb:Below Y1.heap.size Y1 V7:=by rw [hV7];exact (Below.refl _ _).alloc (Nat.le_refl _) _
      have v1:V7.heap[Y1.heap.size]? = some (.cells #[.int .i64 0] 3 (0,0)):=by rw [hV7];exact al_new rfl
      rw [← hV7]
      have HV7:=hid vb
      refine range_none rfl (by decide) (gf:=89) (lb:=#[.pointer (some ⟨Y0.heap.size,0,none⟩),.pointer (some ⟨Y1.heap.size,0,none⟩),.pointer (some ⟨E,0,none⟩)]) rfl trivial (enters_of Tryz.func89 (by kernel_rfl) rfl) (walk_none _ _ Y0.heap.size E Y1.heap.size gd gi cd ce ci oe (HN.out.below vb) ((vb.block _ (lt_of_heap HP1.out)).trans HP1.out) v1) ?_
      clear hV7 vb v1
      rintro D2 Y2 hD2 hY2 hK2
      have HF:=hid (show _∧_∧_ from ⟨hD2,HV7.out.trans (hY2.mono HV7.out.size),hK2⟩)
      have HV7s:=hid HV7.out.size
      clear hD2 hY2 hK2
      dsimp only
      gi_wp2
      obtain ⟨hD1,hD1',hbZ,hR,hC,hA⟩:=HALL.out
      obtain ⟨hD2,hY2,hK2⟩:=HF.out
      have hsW:=hC.size
      have hsY:=hA.size
      have hs7:=HV7s.out
      have hd0:D0 < V6.heap.size:=Nat.lt_of_lt_of_le (lt_of_heap HK4.out) HV6.out.1.size
      have hd0':=HD0.out
      have hv6:=HV6.out.2.size
      refine leaves_marks (fun w=>results_none (by kernel_rfl) _ _ _) [D2,D1,D0] Y2 ?_ ?_ ?_
      · simp only [List.nodup_cons,List.mem_cons,List.not_mem_nil,not_or,not_false_eq_true,List.nodup_nil,and_true,or_false]
        omega
      · intro D hD
        simp only [List.mem_cons,List.not_mem_nil,or_false] at hD
        rcases hD with rfl | rfl | rfl
        · exact hK2
        · exact (hY2.block _ (lt_of_heap HDK.out)).trans HDK.out
        · exact (hY2.block _ (lt_of_heap HKD.out)).trans HKD.out
      · intro Yf e1 e2 e3 e4 e5
        refine ⟨⟨_,rfl⟩,Z,W',hbZ,hR,hC,e1.trans (hY2.os.trans hA.os),e2.trans (hY2.tape.trans hA.tape),e3.trans (hY2.output.trans hA.output),?_,fun k hk1 hk2=>?_⟩
        · have:=hY2.size;omega
        · have hkd:k ∉ [D2,D1,D0]:=by
            simp only [List.mem_cons,List.not_mem_nil,or_false,not_or]
            omega
          exact (e5 k hkd).trans ((hY2.block k (by omega)).trans (hA.block k hk1 (by omega)))
  exact (callsIn_wide.2 (callsIn_wide.1 key))
end
section
open Go.RowKit Lx Go.Shelf
attribute [local go_sem] Oper.semAt_some
theorem flt_info:(Tryz.prog.info? 51).map (fun i=>(i.zero,i.size,i.bytes)) = some (some (.agg #[.int .i64 0,.int .i64 0]),2,16):=by kernel_rfl
def FltAt (W:World) (g:Nat):Prop:=W.cell? ⟨g,0,none⟩ = some (.int .i64 4)∧W.cell? ⟨g,1,none⟩ = some (.int .i64 13)
theorem app_one (Z:World):∃ c X,(Builtin.append_ #[28,28] 28 #[.slice none 0 0,.slice (some ⟨Z.heap.size,0,none⟩) 1 1]).run Tryz.prog (Z.alloc (.cells #[.int .i64 4,.int .i64 13] 51)) = .ok (.slice (some ⟨Z.heap.size+1,0,none⟩) 1 c) X∧Below Z.heap.size Z X∧FltAt X (Z.heap.size+1):=by
  obtain ⟨i,h2,h3,h4,h5⟩:=info_parts flt_info
  have hc:∀ j v,[Value.int .i64 4,.int .i64 13][j]? = some v→(Z.alloc (.cells #[.int .i64 4,.int .i64 13] 51)).cell? ((⟨Z.heap.size,0,none⟩:Addr).add j) = some v:=fun j v hv=>by
    have e:(⟨Z.heap.size,0,none⟩:Addr).add j = ⟨Z.heap.size,j,none⟩:=by unfold Addr.add;split <;> simp_all
    rw [e,World.cell?_alloc_new,← hv,← Array.getElem?_toList]
  have h:=run_append_nil (P:=Tryz.prog) (Z.alloc (.cells #[.int .i64 4,.int .i64 13] 51)) 28 28 51 i _ Tryz.underlying28 h2 h3 ⟨Z.heap.size,0,none⟩ 1 1 [.int .i64 4,.int .i64 13] (by rw [h4];rfl) hc (by decide) (by decide) (by rw [h5];decide)
  refine ⟨_,_,by rw [h,World.size_alloc],?_,?_⟩
  · exact ((((Below.refl Z.heap.size Z).alloc (Nat.le_refl _) _).drew).alloc (by simp) _)
  · have hs:Z.heap.size+1 = ((Z.alloc (.cells #[.int .i64 4,.int .i64 13] 51)).drew).heap.size:=by simp
    unfold FltAt
    rw [hs]
    exact ⟨by rw [World.cell?_alloc_new,Array.getElem?_append_left (by decide)];rfl,by rw [World.cell?_alloc_new,Array.getElem?_append_left (by decide)];rfl⟩
theorem wpListIn_app {F:Fence} {n:Nat} (w:World) {ops:Array Oper} {rest:List Oper} {o:Oper} {a:Act} {Q:Exit→Act→World→Prop} {T:TypeId}
    (hg:o.guard = none) (s x:Operand) (hop:o.op = Op.call { callee:=Callee.builtin Builtin.append,args:=#[s,x],argTypes:=#[T,T] })
    (v u:Value) (hs:a.eval s = v) (hx:a.eval x = u) (v' : Value) (w' : World) (hrun:(Builtin.append_ #[T,T] o.type #[v,u]).run Tryz.prog w = .ok v' w') (hK:wpListIn F n Tryz.prog ops Q rest (a.put o.dst v') w') :
    wpListIn F n Tryz.prog ops Q (o :: rest) a w:=by
  refine wpListIn_plain hg fun K hK'=>?_
  unfold Oper.wpIn
  refine ⟨?_,?_⟩
  · simp [Oper.about,hop,resolve,Target.leads,Sem.run_pure]
  · rw [Oper.semAt_plain F _ _ (by rw [hop];intro c hc';cases hc')]
    simp [execOp,hop,resolve,invoke,builtin,hs,hx,hrun,Result.andThen]
    exact hK' _ _ hK
def FaR (L:Nat) (Z W:World):Prop:=∃ g c,W.heap[L]? = some (.cells #[.slice (some ⟨g,0,none⟩) 1 c] 28 (0,0))∧Z.heap.size≤g∧g < W.heap.size∧FltAt W g
def FaRet (w:World) (r:Ending) (Y:World):Prop:=∃ g c,r = .returned (.slice (some ⟨g,0,none⟩) 1 c)∧FltAt Y g∧Below w.heap.size w Y
set_option maxHeartbeats 8000000 in
theorem faults_nm (w:World) (gd gi cd ce ci:Nat) (oe:Option Addr) (h0:NmAt w gd gi (some ⟨gd,0,none⟩) oe cd ce ci)
    (ORD:Hid (∀ g c X,g < X.heap.size→FltAt X g→Calls Tryz.prog 26 #[.slice (some ⟨g,0,none⟩) 1 c] X fun r Y=>FaRet X r Y)) :
    Calls Tryz.prog 12 #[.agg #[.slice (some ⟨gd,0,none⟩) 1 cd,.slice oe 0 ce]] w fun r Y=>FaRet w r Y:=by
  have H0:=hid h0
  have hgd:=World.block_lt_of_cell? _ _ h0.k
  have hgi:=World.block_lt_of_cell? _ _ h0.i0
  simp only at hgd hgi
  clear h0
  have key:CallsIn Fence.wide 8 Tryz.prog 12 #[.agg #[.slice (some ⟨gd,0,none⟩) 1 cd,.slice oe 0 ce]] w fun r Y=>FaRet w r Y:=by
    have WA:=hid (fun X=>wrong_any (some ⟨gd,0,none⟩) oe 1 cd 0 ce X)
    refine callsIn_of_wp_marks Tryz.func12 rfl trivial ?_ rfl
    simp only [Tryz.ntmps12,List.size_toArray,List.length_cons,List.length_nil,Nat.reduceAdd,Nat.reduceSub,Array.replicate_succ,Array.replicate_zero,List.push_toArray,List.append_toArray,List.nil_append,List.cons_append]
    obtain ⟨c0,c1⟩:=cells_two (al_old (o:=.cells #[.slice none 0 0] 28) (al_new (W:=w) (o:=.cells #[.slice (some ⟨gd,0,none⟩) 1 cd,.slice oe 0 ce] 25) rfl))
    gi_wp2_with (refine ⟨trivial,?_⟩;gi_at_call 29;((with_reducible refine (callsIn_wide.2 (WA.out _)).mono ?_);rintro e w1 ⟨rfl,rfl⟩))
    obtain ⟨V,hV⟩:∃ V,V = ((w.alloc (.cells #[.slice (some ⟨gd,0,none⟩) 1 cd,.slice oe 0 ce] 25)).alloc (.cells #[.slice none 0 0] 28)).alloc (.cells #[.slice (some ⟨gd,0,none⟩) 1 cd,.slice oe 0 ce] 25):=⟨_,rfl⟩
    have v1:V.heap[w.heap.size+1]? = some (.cells #[.slice none 0 0] 28 (0,0)):=by rw [hV];exact al_old (al_new (by simp))
    have v2:V.heap[w.heap.size+1+1]? = some (.cells #[.slice (some ⟨gd,0,none⟩) 1 cd,.slice oe 0 ce] 25 (0,0)):=by rw [hV];exact al_new (by simp)
    have vB:Below w.heap.size w V:=by rw [hV];exact (((Below.refl _ _).alloc (Nat.le_refl _) _).alloc (by simp) _).alloc (by simp;omega) _
    have vS:V.heap.size = w.heap.size+3:=by rw [hV];simp
    have HV:=hid (show _∧_∧_ from ⟨v1,vB,vS⟩)
    have OW:=hid (wrong_one 7 V (w.heap.size+1+1) gd gi cd ce ci oe (fun k=>k = w.heap.size+1) (H0.out.below vB) v2 (fun k hk=>by omega) (by omega) (by omega))
    rw [← hV]
    clear hV v1 v2 vB c0 c1
    apply range_one (F:=Fence.wide) (n:=8) (gf:=54) (lb:=#[.pointer (some ⟨w.heap.size+1+1,0,none⟩)]) (args:=#[.int .i64 13]) (M:=fun k=>k = w.heap.size+1) rfl (by decide) rfl trivial (enters_of Tryz.func54 (by kernel_rfl) rfl) (fun k hk=>by omega) OW.out rfl (FaR (w.heap.size+1))
    case hassign =>
      intro l' X K hK
      gi_wp2
      exact hK
    case hbody =>
      intro l' Z hl' hZ
      have z1:=(hZ.block _ (lt_of_heap HV.out.1)).trans HV.out.1
      have hzs:=hZ.size
      have hz1:=lt_of_heap z1
      obtain ⟨c,X,hap,hb,hf⟩:=app_one Z
      have x1:=(hb.block _ hz1).trans z1
      have l0:=cell_sole (al_old (o:=.cells #[.int .i64 4,.int .i64 13] 51) z1)
      have l0':=cell_sole z1
      have l1:=cell_sole x1
      have l2:X.frozen? ⟨w.heap.size+1,0,none⟩ = false:=by simp [World.frozen?,x1]
      have HX:=hid (show _∧_∧_ from ⟨hb,hf,x1⟩)
      have HZS:=hid hzs
      have HAP:=hid hap
      clear hb hf x1 z1 hZ vS hzs hap
      gi_wp2_with (gi_at_builtin;refine wpListIn_app _ rfl _ _ rfl _ _ rfl rfl _ _ HAP.out ?_)
      obtain ⟨hb,hf,x1⟩:=HX.out
      have ks:∀ k,k≠w.heap.size+1→(X.setCell ⟨w.heap.size+1,0,none⟩ (.slice (some ⟨Z.heap.size+1,0,none⟩) 1 c)).heap[k]? = X.heap[k]?:=fun k hk=>Below.heap_setCell X ⟨w.heap.size+1,0,none⟩ _ k (by simpa using hk)
      have hst:=(Below.refl X.heap.size X)
      have hg:=grownBy_setCell' X (w.heap.size+1) (.slice (some ⟨Z.heap.size+1,0,none⟩) 1 c)
      have hgl:Z.heap.size+1 < X.heap.size:=World.block_lt_of_cell? _ _ hf.1
      refine ⟨⟨hg.os.trans hb.os,hg.tape.trans hb.tape,hg.output.trans hb.output,Nat.le_trans hb.size hg.size,fun k hk hm=>(ks k hm).trans (hb.block k hk)⟩,Z.heap.size+1,c,?_,by omega,Nat.lt_of_lt_of_le hgl hg.size,?_⟩
      · rw [set_blk x1];rfl
      · exact ⟨(cell_same' (ks _ (by omega)) 0).trans hf.1,(cell_same' (ks _ (by omega)) 1).trans hf.2⟩
    case hdone =>
      rintro D1 Z W' Y1 hD1 hD1' hZ ⟨g,c,hg1,hg2,hg3,hg4⟩ hC hA hK1
      have hcs:=hC.size
      have has:=hA.size
      have hzs:=hZ.size
      have y1:=(hA.block (w.heap.size+1) (by omega) (.inl (by omega))).trans hg1
      have yg:Y1.heap[g]? = W'.heap[g]?:=hA.block g hg3 (.inr hg2)
      have hY:Below w.heap.size w Y1:=by
        have hv:=HV.out.2.1
        refine ⟨hA.os.trans (hC.os.trans (hZ.os.trans hv.os)),hA.tape.trans (hC.tape.trans (hZ.tape.trans hv.tape)),hA.output.trans (hC.output.trans (hZ.output.trans hv.output)),by omega,fun k hk=>?_⟩
        exact (hA.block k (by omega) (.inl (by omega))).trans ((hC.block k (by omega) (by omega)).trans ((hZ.block k (by omega)).trans (hv.block k hk)))
      have l1:=cell_sole y1
      have HYF:=hid (show FltAt Y1 g from ⟨(cell_same' yg 0).trans hg4.1,(cell_same' yg 1).trans hg4.2⟩)
      have HYB:=hid hY
      have HK:=hid hK1
      have HD:=hid (show w.heap.size≤D1 by omega)
      have HO:=hid (ORD.out g c Y1 (by omega) HYF.out)
      clear hD1 hD1' hZ hg1 hg2 hg3 hg4 hC hA hK1 hcs has hzs y1 yg hY vS
      dsimp only
      gi_wp2_with (refine ⟨trivial,?_⟩;gi_at_call 26;((with_reducible refine (callsIn_wide.2 HO.out).mono ?_);rintro e w9 ⟨g9,c9,rfl,hf9,hb9⟩;have H9:=hid (show _∧_ from ⟨hf9,hb9⟩);clear hf9 hb9))
      obtain ⟨hf9,hb9⟩:=H9.out
      have hk9:=(hb9.block _ (lt_of_heap HK.out)).trans HK.out
      refine ⟨by simp,.inl ⟨_,_,rfl,run_takeDeferred hk9,?_⟩⟩
      have hne:D1≠g9:=fun e=>by
        have:=hf9.1
        rw [← e] at this
        simp [World.cell?,hk9] at this
      have po:(w9.putObj D1 (.deferred none)).heap[g9]? = w9.heap[g9]?:=World.putObj_heap_other (by omega)
      exact ⟨_,results_tmp (t:=2) (by kernel_rfl) _ _ _,g9,c9,rfl,⟨(cell_same' po 0).trans hf9.1,(cell_same' po 1).trans hf9.2⟩,below_put (HYB.out.trans (hb9.mono HYB.out.size)) HD.out _⟩
  exact callsIn_wide.1 key
end
section
open Go.RowKit Lx Go.Shelf Go.Sort Go.Lib
abbrev Flt:=Int × Int
def encF (x:Flt):List Value:=[.int .i64 x.1,.int .i64 x.2]
def orV (x y:Int):Int:=if x≠0 then x else y
def cmpF (x y:Flt):Int:=orV (Lib.compareInt x.2 y.2) (Lib.compareInt x.1 y.1)
set_option maxHeartbeats 4000000 in
theorem or_any (g c:Nat) (x y:Int) (W:World) (h0:W.cell? ⟨g,0,none⟩ = some (.int .i64 x)) (h1:W.cell? ⟨g,1,none⟩ = some (.int .i64 y)) :
    Calls Tryz.prog 44 #[.slice (some ⟨g,0,none⟩) 2 c] W fun e w'=>e = .returned (.int .i64 (orV x y))∧w' = W:=by
  by_cases hx:x = 0
  · subst hx
    have HO:=hid (show orV 0 y = y by unfold orV;simp)
    go_enter Tryz.func44,Tryz.ntmps44
    go_wp2_with fail
    go_loopw [8] (fun i wr=>∃ j:Nat,i = .int .i64 j∧j≤2∧Hid (2≤j→y = 0)∧wr = W) (fun i _=>2 - litLen i)
    case atStart=>exact ⟨0,rfl,by omega,hid (by omega),rfl⟩
    case round =>
      obtain ⟨j,rfl,hj,hy,rfl⟩:=hrel
      rcases (show j = 0∨j = 1∨j = 2 by omega) with rfl | rfl | rfl
      · go_wp2_with fail
        exact ⟨⟨1,rfl,by omega,hid (by omega),by first | rfl | trivial⟩,by simp [litLen]⟩
      · by_cases hy0:y = 0
        · have q1:(y != 0) = false:=by rw [hy0];rfl
          have HY:=hid hy0
          clear hy0
          go_wp2_with fail
          exact ⟨⟨2,rfl,by omega,hid fun _=>HY.out,by first | rfl | trivial⟩,by simp [litLen]⟩
        · have q1:(y != 0) = true:=bne_iff_ne.2 hy0
          clear hy0
          go_wp2_with fail
          go_ret
          exact ⟨by rw [HO.out];rfl,by first | rfl | trivial⟩
      · go_wp2_with fail
        go_ret
        exact ⟨by rw [HO.out,hy.out (by omega)];rfl,by first | rfl | trivial⟩
  · have HO:=hid (show orV x y = x by unfold orV;rw [if_pos hx])
    have q1:(x != 0) = true:=bne_iff_ne.2 hx
    clear hx
    go_enter Tryz.func44,Tryz.ntmps44
    go_wp2_with fail
    go_loopw [8] (fun i wr=>i = .int .i64 0∧wr = W) (fun _ _=>0)
    case atStart=>exact ⟨rfl,rfl⟩
    case round =>
      obtain ⟨rfl,rfl⟩:=hrel
      go_wp2_with fail
      go_ret
      exact ⟨by rw [HO.out];rfl,by first | rfl | trivial⟩
theorem last_two (X:World) (B:Nat) (hB:B = X.heap.size) (u v:Value) (T:TypeId):(X.alloc (.cells #[u,v] T)).drew.cell? ⟨B,0,none⟩ = some u∧(X.alloc (.cells #[u,v] T)).drew.cell? ⟨B,1,none⟩ = some v:=by
  have h:(X.alloc (.cells #[u,v] T)).drew.heap = (X.alloc (.cells #[u,v] T)).heap:=rfl
  exact cells_two (by rw [h];exact al_new hB)
theorem three_grown (W:World) (a b c:Obj):∃ q os,(((W.alloc a).alloc b).alloc c).drew = grow (W.drewN q) os:=by
  have h:(((W.alloc a).alloc b).alloc c).drew = (((W.drewN 1).alloc a).alloc b).alloc c:=rfl
  rw [h,alloc_eq_grow (W.drewN 1),alloc_eq_grow (grow _ _),alloc_eq_grow (grow _ _),grow_grow,grow_grow]
  exact ⟨1,_,rfl⟩
set_option maxHeartbeats 4000000 in
theorem order_cmp (x y:Flt) (W:World):Calls Tryz.prog 43 #[.agg #[.int .i64 x.1,.int .i64 x.2],.agg #[.int .i64 y.1,.int .i64 y.2]] W fun e w'=>e = .returned (.int .i64 (cmpF x y))∧∃ q os',w' = grow (W.drewN q) os':=by
  obtain ⟨xc,xa⟩:=x
  obtain ⟨yc,ya⟩:=y
  have CA:=hid (fun W=>Tryz.cmp_Compare_int xa ya W)
  have CC:Hid (∀ W',Calls Tryz.prog 46 #[.int .i64 xc,.int .i64 yc] W' fun e w'=>e = .returned (.int .i64 (Lib.compareInt xc yc))∧W' = w'):=hid fun W'=>(AnyG.cmp_Compare_int Tryz.cmpErr xc yc W').mono fun e w' h=>⟨h.1,h.2.symm⟩
  obtain ⟨ra,hra⟩:∃ ra,ra = Lib.compareInt xa ya:=⟨_,rfl⟩
  obtain ⟨rc,hrc⟩:∃ rc,rc = Lib.compareInt xc yc:=⟨_,rfl⟩
  rw [← hrc] at CC
  rw [← hra] at CA
  have HR:=hid (show cmpF (xc,xa) (yc,ya) = orV ra rc by unfold cmpF;rw [hra,hrc])
  clear hra hrc
  dsimp only
  go_enter Tryz.func43,Tryz.ntmps43
  go_wp2_with fail
  go_region_held3 (fun w'=>w'.cell? ⟨W.heap.size,0,none⟩ = some (.int .i64 xc)∧w'.cell? ⟨W.heap.size,1,none⟩ = some (.int .i64 xa)∧w'.cell? ⟨W.heap.size+1,0,none⟩ = some (.int .i64 yc)∧w'.cell? ⟨W.heap.size+1,1,none⟩ = some (.int .i64 ya))
    ((repeat' apply And.intro) <;> first | assumption | go_keep)
    (first
      | (go_at_call 45;(with_reducible refine Calls.mono (CA.out _) ?_);(rintro e wa ⟨rfl,rfl⟩))
      | (go_at_call 46;(with_reducible refine Calls.mono (CC.out _) ?_);(rintro e wa ⟨rfl,rfl⟩))
      | (go_at_call 44;(with_reducible refine Calls.mono (or_any _ _ ra rc _ ?_ ?_) ?_);(focus exact (last_two _ _ (by simp) _ _ _).1);(focus exact (last_two _ _ (by simp) _ _ _).2);(rintro e wa ⟨rfl,rfl⟩)))
  go_wp2_with fail
  go_ret
  exact ⟨by rw [HR.out];rfl,three_grown _ _ _ _⟩
end
section
open Go.RowKit Lx Go.Shelf Go.Sort Go.Lib
def ltF (x y:Flt):Bool:=decide (x.2 < y.2) || (decide (x.2 = y.2) && decide (x.1 < y.1))
theorem cmpF_lt (x y:Flt):ltOf cmpF x y = ltF x y:=by
  obtain ⟨a,b⟩:=x
  obtain ⟨c,d⟩:=y
  unfold ltOf cmpF orV Lib.compareInt ltF
  by_cases h1:b < d
  · simp [h1]
  · by_cases h2:d < b
    · have:¬ b = d:=by omega
      simp [h1,h2,this]
    · have:b = d:=by omega
      subst this
      by_cases h3:a < c
      · simp [h3]
      · by_cases h4:c < a <;> simp [h3,h4]
theorem swoF:SWO (ltOf cmpF) where
  irrefl x:=by rw [cmpF_lt];unfold ltF;simp
  trans x y z h1 h2:=by rw [cmpF_lt] at *;unfold ltF at *;simp at *;omega
  ntrans x y z h1 h2:=by rw [cmpF_lt] at *;unfold ltF at *;simp at *;omega
theorem totF (x y:Flt) (h1:ltOf cmpF x y = false) (h2:ltOf cmpF y x = false):x = y:=by
  rw [cmpF_lt] at *
  unfold ltF at *
  obtain ⟨a,b⟩:=x
  obtain ⟨c,d⟩:=y
  simp at *
  omega
theorem cmpLaysF (blk off size:Nat) (w:World):CmpLays Tryz.prog 43 #[] encF 2 cmpF blk off size w:=fun _ _ _ _ x y=>order_cmp x y _
def sortF (l:List Flt):List Flt:=l.mergeSort fun x y=>!(ltOf cmpF) y x
theorem but_sorted {α:Type} [Inhabited α] (enc:α→List Value) (k:Nat) (w:World) (blk off n:Nat) (d:Array α) (os:Array Obj):But blk w (sortWorldK enc k w blk off n d os):=by
  refine ⟨rfl,rfl,rfl,by simp [sortWorldK,putRowK,putRow,mapBlock,grow,Sort.ahead],fun j hj hl=>?_⟩
  have hj' : blk≠j:=fun e=>hj e.symm
  simp only [sortWorldK,putRowK,putRow,mapBlock,grow,Sort.ahead]
  rw [Array.getElem?_append_left (by simpa using hl),Array.getElem?_modify,if_neg hj']
theorem sort_any (blk off cap:Nat) (d:Array Flt) (w:World) (hH:HoldsK encF 2 w blk off d) (hblk:blk < w.heap.size) (hsz:d.size < 4611686018427387904) :
    Calls Tryz.prog 42 #[.slice (some ⟨blk,off,none⟩) d.size cap,.func (.func 43) #[] #[]] w fun e w'=>e = .returned (.tuple #[])∧HoldsK encF 2 w' blk off (sortF d.toList).toArray∧But blk w w':=by
  have eg:∀ args w,(callFunc 43 args).run Tryz.prog w = .ok (.enter 43 args) w:=enters_of Tryz.func43 (by kernel_rfl) rfl
  have h:=AnyQ.slices_SortFunc_total Tryz.sortF 2 Tryz.isAgg51 Tryz.sizeOf51 encF (fun _=>rfl) (fun x v hv=>by simp [encF] at hv;rcases hv with rfl | rfl <;> rfl) cmpF swoF 43 #[] blk off cap d w eg (cmpLaysF blk off d.size w) hH hblk hsz totF
  refine h.mono ?_
  rintro e w' ⟨he,n,os,rfl⟩
  exact ⟨he,holdsK_sortWorldK_c encF 2 w blk off d _ n os hH hblk (by simp),but_sorted encF 2 w blk off n _ os⟩
end
section
open Go.RowKit Lx Go.Shelf Go.Sort Go.Lib
theorem flat_len (l:List Flt):(l.flatMap encF).length = l.length*2:=by
  induction l with
  | nil=>rfl
  | cons x l ih=>rw [List.flatMap_cons,List.length_append,ih];simp [encF];omega
theorem flat_get:∀ (l:List Flt) (i:Nat) (x:Flt),l[i]? = some x→(l.flatMap encF)[i*2]? = some (.int .i64 x.1)∧(l.flatMap encF)[i*2+1]? = some (.int .i64 x.2)
  | y :: l,0,x,h=>by
    obtain rfl:y = x:=by simpa using h
    exact ⟨rfl,rfl⟩
  | y :: l,i+1,x,h=>by
    have ih:=flat_get l i x (by simpa using h)
    rw [List.flatMap_cons,show (i+1)*2 = i*2+2 by omega,List.getElem?_append_right (by simp [encF]),List.getElem?_append_right (by simp only [encF,List.length_cons,List.length_nil];omega)]
    simp only [encF,List.length_cons,List.length_nil]
    rw [show i*2+2 - (0+1+1) = i*2 by omega,show i*2+2+1 - (0+1+1) = i*2+1 by omega]
    exact ih
theorem clone_any (b off n c:Nat) (l:List Flt) (w:World) (hl:l.length = n) (hn:n≤1000000) (hc:∀ j u,(l.flatMap encF)[j]? = some u→w.cell? ⟨b,off+j,none⟩ = some u) :
    Calls Tryz.prog 41 #[.slice (some ⟨b,off,none⟩) n c] w fun e w'=>∃ v',e = .returned v'∧w'.ownsRow w.heap.size 51 2 v' n (l.flatMap encF)∧v'≠.slice none 0 0∧Below w.heap.size w w':=by
  obtain ⟨i,h2,h3,h4,h5⟩:=info_parts flt_info
  exact AnyE.slices_Clone Tryz.cloneF i _ 2 16 h2 h3 h4 h5 rfl (by decide) Tryz.sizeOf51 b off n c (l.flatMap encF) w (by rw [flat_len,hl]) (by unfold maxLen;omega) (by omega) hc (fun u hu=>by obtain ⟨x,_,hx⟩:=List.mem_flatMap.1 hu;simp [encF] at hx;rcases hx with rfl | rfl <;> rfl)
def FltsAt (W:World) (g off:Nat) (l:List Flt):Prop:=∀ i x,l[i]? = some x→W.cell? ⟨g,off+i*2,none⟩ = some (.int .i64 x.1)∧W.cell? ⟨g,off+i*2+1,none⟩ = some (.int .i64 x.2)
theorem flatK_get (l:List Flt) (i:Nat) (x:Flt) (h:l[i]? = some x):(flatK encF 2 l.toArray)[i*2]! = .int .i64 x.1∧(flatK encF 2 l.toArray)[i*2+1]! = .int .i64 x.2:=by
  have hi:=(List.getElem?_eq_some_iff.1 h).1
  have hx:l.toArray[i]! = x:=by rw [getElem!_pos _ i (by simpa using hi)];simpa using (List.getElem?_eq_some_iff.1 h).2
  rw [get_flatK encF 2 _ _ (by simp;omega),get_flatK encF 2 _ _ (by simp;omega),show i*2 / 2 = i by omega,show (i*2+1) / 2 = i by omega,show i*2 % 2 = 0 by omega,show (i*2+1) % 2 = 1 by omega,hx]
  exact ⟨rfl,rfl⟩
theorem holds_of {W:World} {g off:Nat} {l:List Flt} (h:FltsAt W g off l) (fz:∀ j,W.frozen? ⟨g,j,none⟩ = false):HoldsK encF 2 W g off l.toArray:=by
  intro j hj
  have hj2:j < l.length*2:=by simpa using hj
  obtain ⟨x,hx⟩:∃ x,l[j / 2]? = some x:=⟨_,List.getElem?_eq_getElem (by omega)⟩
  have hg:=h _ _ hx
  have hf:=flatK_get _ _ _ hx
  refine ⟨?_,fz _⟩
  rcases (show j = j / 2*2∨j = j / 2*2+1 by omega) with e | e
  · rw [e,show id (flatK encF 2 l.toArray)[j / 2*2]! = (flatK encF 2 l.toArray)[j / 2*2]! from rfl,hf.1];exact hg.1
  · rw [e,show id (flatK encF 2 l.toArray)[j / 2*2+1]! = (flatK encF 2 l.toArray)[j / 2*2+1]! from rfl,hf.2,← Nat.add_assoc];exact hg.2
theorem of_holds {W:World} {g off:Nat} {l:List Flt} (h:HoldsK encF 2 W g off l.toArray):FltsAt W g off l:=by
  intro i x hx
  have hi:=(List.getElem?_eq_some_iff.1 hx).1
  have hf:=flatK_get _ _ _ hx
  have h0:=(h (i*2) (by simp;omega)).1
  have h1:=(h (i*2+1) (by simp;omega)).1
  rw [show id (flatK encF 2 l.toArray)[i*2]! = (flatK encF 2 l.toArray)[i*2]! from rfl,hf.1] at h0
  rw [show id (flatK encF 2 l.toArray)[i*2+1]! = (flatK encF 2 l.toArray)[i*2+1]! from rfl,hf.2] at h1
  exact ⟨h0,h1⟩
theorem own_flts {W:World} {B g n cap:Nat} {l:List Flt} (h:W.ownsRow B 51 2 (.slice (some ⟨g,0,none⟩) n cap) n (l.flatMap encF)):FltsAt W g 0 l∧(∀ j,W.frozen? ⟨g,j,none⟩ = false)∧B≤g∧g < W.heap.size:=by
  have hc:=h.cells (g:=g) rfl
  obtain ⟨hb,cs,hk⟩:=own_type h (k:=g) rfl
  have e:∀ j,(⟨g,0,none⟩:Addr).add j = ⟨g,j,none⟩:=fun j=>by unfold Addr.add;split <;> simp_all
  refine ⟨fun i x hx=>?_,fun j=>by simp [World.frozen?,hk],hb,heap_lt hk⟩
  obtain ⟨h1,h2⟩:=flat_get l i x hx
  have k1:=hc _ _ h1
  have k2:=hc _ _ h2
  rw [e] at k1 k2
  rw [Nat.zero_add]
  exact ⟨k1,k2⟩
theorem compact_one (a:Addr) (c:Nat) (w:World):Calls Tryz.prog 47 #[.slice (some a) 1 c] w fun e w'=>e = .returned (.slice (some a) 1 c)∧w' = w:=by
  go_enter Tryz.func47,Tryz.ntmps47
  go_wp2_with fail
  go_ret
  exact ⟨rfl,rfl⟩
theorem sort_one (x:Flt):sortF [x] = [x]:=by unfold sortF;simp
set_option maxHeartbeats 4000000 in
theorem order_one (g c:Nat) (X:World) (hf:FltAt X g):Calls Tryz.prog 26 #[.slice (some ⟨g,0,none⟩) 1 c] X fun r Y=>FaRet X r Y:=by
  have CL:=hid (clone_any g 0 1 c [((4:Int),(13:Int))] X rfl (by decide) (fun j u hu=>by
    have hj:j < 2:=by
      have:=(List.getElem?_eq_some_iff.1 hu).1
      simpa [encF] using this
    rcases (show j = 0∨j = 1 by omega) with rfl | rfl
    · obtain rfl:Value.int .i64 4 = u:=by simpa [encF] using hu
      exact hf.1
    · obtain rfl:Value.int .i64 13 = u:=by simpa [encF] using hu
      exact hf.2))
  have SO:=hid (fun blk cap w (hH:HoldsK encF 2 w blk 0 [((4:Int),(13:Int))].toArray) hblk=>sort_any blk 0 cap #[((4:Int),(13:Int))] w hH hblk (by decide))
  clear hf
  go_enter Tryz.func26,Tryz.ntmps26
  go_wp2_with (go_at_call 41;(with_reducible refine CL.out.mono ?_);rintro e w1 ⟨v1,rfl,ho,hne,hb⟩;obtain ⟨g1,c1,rfl,_,_,_⟩:=own_one ho;have HO:=hid ho;have HB:=hid hb;clear ho hne hb)
  obtain ⟨hF,hZ,hge,hlt⟩:=own_flts HO.out
  have SO1:=hid (SO.out g1 c1 w1 (holds_of hF hZ) hlt)
  have HGE:=hid hge
  clear hF hZ hge hlt
  have SO2:Hid (Calls Tryz.prog 42 #[.slice (some ⟨g1,0,none⟩) 1 c1,.func (.func 43) #[] #[]] w1 fun e w'=>e = .returned (.tuple #[])∧HoldsK encF 2 w' g1 0 [((4:Int),(13:Int))].toArray∧But g1 w1 w'):=hid (by
    have:=SO1.out
    rw [sort_one] at this
    exact this)
  refine SO2.out.mono ?_
  rintro e w2 ⟨rfl,hH,hBt⟩
  dsimp only
  have HH:=hid hH
  have HBt:=hid hBt
  clear hH hBt
  go_wp2_with (go_at_call 47;(with_reducible refine (compact_one _ _ _).mono ?_);rintro e w3 ⟨rfl,rfl⟩)
  go_ret
  have hc:=of_holds HH.out 0 _ rfl
  refine ⟨g1,c1,rfl,hc,?_⟩
  have hb:=HB.out
  have ht:=HBt.out
  exact ⟨ht.os.trans hb.os,ht.tape.trans hb.tape,ht.output.trans hb.output,Nat.le_trans hb.size ht.size,fun k hk=>(ht.block k (by have:=HGE.out;omega) (by have:=hb.size;omega)).trans (hb.block k hk)⟩
theorem faults_ex (w:World) (gd gi cd ce ci:Nat) (oe:Option Addr) (h0:NmAt w gd gi (some ⟨gd,0,none⟩) oe cd ce ci) :
    Calls Tryz.prog 12 #[.agg #[.slice (some ⟨gd,0,none⟩) 1 cd,.slice oe 0 ce]] w fun r Y=>FaRet w r Y :=
  faults_nm w gd gi cd ce ci oe h0 (hid fun g c X _ hf=>order_one g c X hf)
end
section
open Go.RowKit Lx Go.Shelf
def NmParsed (w:World) (r:Ending) (Y:World):Prop:=∃ gd gi cd ce ci oe,r = .returned (.tuple #[.agg #[.slice (some ⟨gd,0,none⟩) 1 cd,.slice oe 0 ce],.int .i64 0,.agg #[.int .i64 0,.int .i64 0]])∧NmAt Y gd gi (some ⟨gd,0,none⟩) oe cd ce ci∧Below w.heap.size w Y
theorem nm_parsed (w:World):Calls Tryz.prog 27 #[.string ⟨#[104,121,98,114,105,100,32,109,40,41,32,123,32,111,117,116,32,120,59,32,125]⟩,.bool false] w fun r Y=>NmParsed w r Y:=by
  refine (nm_parse w).mono ?_
  rintro r Y ⟨od,cd,oe,ce,rfl,hd,he,hb⟩
  obtain ⟨gd,gi,ci,h⟩:=nm_at hd he
  obtain rfl:=h.at_
  exact ⟨gd,gi,cd,ce,ci,oe,rfl,h,hb⟩
set_option maxHeartbeats 4000000 in
theorem alive_nm (w:World):Calls Tryz.prog 9 #[] w fun r Y=>r = .returned (.bool true)∧Below w.heap.size w Y:=by
  have PA:=hid (nm_parsed w)
  go_enter Tryz.func9,Tryz.ntmps9
  go_wp2_with (go_at_call 27;(with_reducible refine PA.out.mono ?_);rintro e w1 ⟨gd,gi,cd,ce,ci,oe,rfl,hn,hb⟩;have HN:=hid hn;have HB:=hid hb;clear hn hb)
  obtain ⟨w2,hw2⟩:∃ w2,w2 = (w1.alloc (.cells #[.slice (some ⟨gd,0,none⟩) 1 cd,.slice oe 0 ce] 25)).alloc (.cells #[.int .i64 0,.int .i64 0] 51):=⟨_,rfl⟩
  have hb2:Below w1.heap.size w1 w2:=by rw [hw2];exact ((Below.refl _ _).alloc (Nat.le_refl _) _).alloc (by simp) _
  have x1:w2.heap[w1.heap.size+1]? = some (.cells #[.int .i64 0,.int .i64 0] 51 (0,0)):=by rw [hw2];exact al_new (by simp)
  have HB2:=hid (HB.out.trans (hb2.mono HB.out.size))
  have HX:=hid x1
  have FA:=hid (faults_ex w2 gd gi cd ce ci oe (HN.out.below hb2))
  rw [← hw2]
  clear hw2 hb2 x1
  refine FA.out.mono ?_
  rintro e w3 ⟨g,c,rfl,⟨f0,f1⟩,hb3⟩
  dsimp only
  obtain ⟨u0,u1⟩:=cells_two ((hb3.block _ (lt_of_heap HX.out)).trans HX.out)
  have HB3:=hid (HB2.out.trans (hb3.mono HB2.out.size))
  clear hb3
  go_wp2_with fail
  go_ret
  exact ⟨rfl,HB3.out⟩
end
end Go.Proofs.YtdlmfeflinbbjaaGreat
