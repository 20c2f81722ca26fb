import Derived.Test.YtdlmfeflinbbjaaGreatRdProgWJ
import Derived.Test.YtdlmfeflinbbjaaGreatAstMayAny
import Derived.Test.YtdlmfeflinbbjaaGreatPost
import Derived.Test.YtdlmfeflinbbjaaGreatAstRow
import Derived.RangeFuncNested
import Derived.Maps.OwnIn
import Derived.Maps.AppendAt
import Derived.Shelf.Abstract
import Derived.Shelf.RegionOpen
import Derived.OwnWalkIn
import Derived.TacticsInMore
import Derived.LoopNIn
import Derived.LoopIn
import Derived.WideMake
namespace Go.Proofs.YtdlmfeflinbbjaaGreat
open Go.Lib (hid)
section
open Go.RowKit Lx
def nmL:List UInt8:=[104,121,98,114,105,100,32,109,40,41,32,123,32,111,117,116,32,120,59,32,125]
def nmT:List Tok:=[tokAt nmL 0,tokAt nmL 7,tokAt nmL 8,tokAt nmL 9,tokAt nmL 11,tokAt nmL 13,tokAt nmL 17,tokAt nmL 18,tokAt nmL 20]
def nmU:List Tok:=[⟨3,[104,121,98,114,105,100],0,0⟩,⟨1,[109],0,7⟩,⟨4,[40],0,8⟩,⟨4,[41],0,9⟩,⟨4,[123],0,11⟩,⟨3,[111,117,116],0,13⟩,⟨1,[120],0,17⟩,⟨4,[59],0,18⟩,⟨4,[125],0,20⟩]
theorem nm_lex:lexT nmL nmT none:=by
  unfold lexT nmT
  rw [show gapTo false nmL 0 = 0 by decide +kernel]
  refine .tok (by decide) (by decide +kernel) ?_
  rw [show gapTo false nmL (0+(tokAt nmL 0).text.length) = 7 by decide +kernel]
  refine .tok (by decide) (by decide +kernel) ?_
  rw [show gapTo false nmL (7+(tokAt nmL 7).text.length) = 8 by decide +kernel]
  refine .tok (by decide) (by decide +kernel) ?_
  rw [show gapTo false nmL (8+(tokAt nmL 8).text.length) = 9 by decide +kernel]
  refine .tok (by decide) (by decide +kernel) ?_
  rw [show gapTo false nmL (9+(tokAt nmL 9).text.length) = 11 by decide +kernel]
  refine .tok (by decide) (by decide +kernel) ?_
  rw [show gapTo false nmL (11+(tokAt nmL 11).text.length) = 13 by decide +kernel]
  refine .tok (by decide) (by decide +kernel) ?_
  rw [show gapTo false nmL (13+(tokAt nmL 13).text.length) = 17 by decide +kernel]
  refine .tok (by decide) (by decide +kernel) ?_
  rw [show gapTo false nmL (17+(tokAt nmL 17).text.length) = 18 by decide +kernel]
  refine .tok (by decide) (by decide +kernel) ?_
  rw [show gapTo false nmL (18+(tokAt nmL 18).text.length) = 20 by decide +kernel]
  refine .tok (by decide) (by decide +kernel) ?_
  rw [show gapTo false nmL (20+(tokAt nmL 20).text.length) = 21 by decide +kernel]
  exact .fin (by decide)
theorem nm_toks:nmT = nmU:=by
  have h0:tokAt nmL 0 = ⟨3,[104,121,98,114,105,100],0,0⟩:=by kernel_rfl
  have h1:tokAt nmL 7 = ⟨1,[109],0,7⟩:=by kernel_rfl
  have h2:tokAt nmL 8 = ⟨4,[40],0,8⟩:=by kernel_rfl
  have h3:tokAt nmL 9 = ⟨4,[41],0,9⟩:=by kernel_rfl
  have h4:tokAt nmL 11 = ⟨4,[123],0,11⟩:=by kernel_rfl
  have h5:tokAt nmL 13 = ⟨3,[111,117,116],0,13⟩:=by kernel_rfl
  have h6:tokAt nmL 17 = ⟨1,[120],0,17⟩:=by kernel_rfl
  have h7:tokAt nmL 18 = ⟨4,[59],0,18⟩:=by kernel_rfl
  have h8:tokAt nmL 20 = ⟨4,[125],0,20⟩:=by kernel_rfl
  unfold nmT nmU
  rw [h0,h1,h2,h3,h4,h5,h6,h7,h8]
def nmDs:List De3:=[(str [109],[(8,str [120],13)],0)]
theorem nm_run:declsL (nmT ++ [endT nmL.length]) 5 5 [] rs0 = some (nmDs,⟨9,[],0,0,0⟩):=by
  rw [nm_toks]
  kernel_rfl
theorem nm_parse (W:World):Calls Tryz.prog 27 #[.string (str nmL),.bool false] W fun r Y=>ParsedP nmDs [] W r Y :=
  parse_prog_ok nmL nmT (hid nm_lex) (by decide) 5 5 _ (hid nm_run) W
def nmP:Pr:=⟨[⟨3,str [109],[],[⟨8,str [120],0,0,0,[],⟨#[]⟩,⟨#[]⟩,13⟩],0,0,0⟩],[]⟩
structure NmAt (W:World) (gd gi:Nat) (od oe:Option Addr) (cd ce ci:Nat):Prop where
  at_:od = some ⟨gd,0,none⟩
  k:W.cell? ⟨gd,0,none⟩ = some (.int .i64 3)
  nm:W.cell? ⟨gd,1,none⟩ = some (.string (str [109]))
  ps:W.cell? ⟨gd,2,none⟩ = some (.slice none 0 0)
  is_:W.cell? ⟨gd,3,none⟩ = some (.slice (some ⟨gi,0,none⟩) 1 ci)
  ty:W.cell? ⟨gd,4,none⟩ = some (.int .i64 0)
  e:W.cell? ⟨gd,5,none⟩ = some (.int .i64 0)
  p:W.cell? ⟨gd,6,none⟩ = some (.int .i64 0)
  i0:W.cell? ⟨gi,0,none⟩ = some (.int .i64 8)
  i1:W.cell? ⟨gi,1,none⟩ = some (.string (str [120]))
  i2:W.cell? ⟨gi,2,none⟩ = some (.int .i64 0)
  i3:W.cell? ⟨gi,3,none⟩ = some (.int .i64 0)
  i4:W.cell? ⟨gi,4,none⟩ = some (.int .i64 0)
  i5:W.cell? ⟨gi,5,none⟩ = some (.slice none 0 0)
  i6:W.cell? ⟨gi,6,none⟩ = some (.string ⟨#[]⟩)
  i7:W.cell? ⟨gi,7,none⟩ = some (.string ⟨#[]⟩)
  i8:W.cell? ⟨gi,8,none⟩ = some (.int .i64 13)
  cd1:1≤cd∧cd≤maxLen
  ci1:1≤ci∧ci≤maxLen
  ce1:CapOk oe ce
theorem own_one {W:World} {B:Nat} {T:TypeId} {s:Nat} {v:Value} {n:Nat} {xs:List Value} (h:W.ownsRow B T s v (n+1) xs):∃ g cap,v = .slice (some ⟨g,0,none⟩) (n+1) cap∧n+1≤cap∧cap≤maxLen∧∀ j u,xs[j]? = some u→W.cell? ⟨g,j,none⟩ = some u:=by
  rcases h.2 with ⟨_,hn⟩ | ⟨g,cap,cur,rfl,hb,hg,hnc,hcm,rest⟩
  · cases hn
  · refine ⟨g,cap,rfl,hnc,hcm,fun j u hu=>?_⟩
    have:=h.cells (g:=g) rfl j u hu
    have e:(⟨g,0,none⟩:Addr).add j = ⟨g,j,none⟩:=by unfold Addr.add;split <;> simp_all
    rwa [e] at this
theorem nm_at {W:World} {B:Nat} {od oe:Option Addr} {cd ce:Nat} (hd:DesOwn W B (.slice od 1 cd) nmDs) (he:ExsOwn W B (fun _=>False) (.slice oe 0 ce) []):∃ gd gi ci,NmAt W gd gi od oe cd ce ci:=by
  obtain ⟨q,h1,h2,h3⟩:=hd
  match q,h1 with
  | [(x,v)],h1 =>
    obtain rfl:x = (str [109],[((8:Int),str [120],(13:Int))],(0:Int)):=by simpa [nmDs] using h1
    obtain ⟨gd,cap,e,k1,k2,hc⟩:=own_one h2
    injection e with e1 _ e2
    obtain ⟨gi,ci,rfl,k3,k4,hi⟩:=own_one (h3 _ (List.mem_singleton.2 rfl))
    obtain ⟨q',_,h5,_⟩:=he
    have hce:CapOk oe ce:=by
      rcases h5.2 with ⟨h6,_⟩ | ⟨g,cap',cur,h6,_,_,_,hcm,_⟩
      · injection h6 with a1 _ a2
        exact ⟨by rw [a2];unfold maxLen;omega,fun _=>a2⟩
      · injection h6 with a1 _ a2
        exact ⟨by rw [a2];exact hcm,fun h=>by rw [a1] at h;cases h⟩
    exact ⟨gd,gi,ci,e1,hc 0 _ rfl,hc 1 _ rfl,hc 2 _ rfl,hc 3 _ rfl,hc 4 _ rfl,hc 5 _ rfl,hc 6 _ rfl,hi 0 _ rfl,hi 1 _ rfl,hi 2 _ rfl,hi 3 _ rfl,hi 4 _ rfl,hi 5 _ rfl,hi 6 _ rfl,hi 7 _ rfl,hi 8 _ rfl,by rw [e2];exact ⟨k1,k2⟩,⟨k3,k4⟩,hce⟩
theorem NmAt.below {W Y:World} {gd gi:Nat} {od oe:Option Addr} {cd ce ci:Nat} (h:NmAt W gd gi od oe cd ce ci) (hb:Below W.heap.size W Y):NmAt Y gd gi od oe cd ce ci :=
  ⟨h.at_,cell_on hb h.k,cell_on hb h.nm,cell_on hb h.ps,cell_on hb h.is_,cell_on hb h.ty,cell_on hb h.e,cell_on hb h.p,cell_on hb h.i0,cell_on hb h.i1,cell_on hb h.i2,cell_on hb h.i3,cell_on hb h.i4,cell_on hb h.i5,cell_on hb h.i6,cell_on hb h.i7,cell_on hb h.i8,h.cd1,h.ci1,h.ce1⟩
theorem NmAt.prog {W:World} {gd gi:Nat} {od oe:Option Addr} {cd ce ci:Nat} (h:NmAt W gd gi od oe cd ce ci):ProgAt W (.slice od 1 cd) (.slice oe 0 ce) nmP:=by
  have hk:∀ n:Nat,n≤100→i64ok (n:Int):=fun n hn=>by unfold i64ok;omega
  refine ⟨?_,slAt_none _ _ _ _ _ h.ce1 rfl,by decide,by decide⟩
  rw [h.at_]
  refine slAt_some (n:=1) h.cd1.1 h.cd1.2 fun i hi x hx=>?_
  obtain rfl:i = 0:=by omega
  obtain rfl:(⟨3,str [109],[],[⟨8,str [120],0,0,0,[],⟨#[]⟩,⟨#[]⟩,13⟩],0,0,0⟩:De) = x:=by simpa [nmP] using hx
  refine ⟨_,_,h.k,h.nm,h.ps,h.is_,h.ty,h.e,h.p,slAt_none _ _ _ _ _ ⟨Nat.zero_le _,fun _=>rfl⟩ rfl,slAt_some (n:=1) h.ci1.1 h.ci1.2 fun j hj y hy=>?_,⟨hk 3 (by omega),hk 0 (by omega),by decide,by decide,by decide⟩⟩
  obtain rfl:j = 0:=by omega
  obtain rfl:(⟨8,str [120],0,0,0,[],⟨#[]⟩,⟨#[]⟩,13⟩:It) = y:=by simpa using hy
  exact ⟨_,h.i0,h.i1,h.i2,h.i3,h.i4,h.i5,h.i6,h.i7,h.i8,slAt_none _ _ _ _ _ ⟨Nat.zero_le _,fun _=>rfl⟩ rfl,⟨hk 8 (by omega),hk 0 (by omega),hk 0 (by omega),by decide,by decide,by decide,by decide,by simp⟩⟩
end
section
open Go.RowKit
def kindsI (y:It):Bool:=decide (1≤y.kind) && decide (y.kind≤8)
def kindsD (d:De):Bool:=(decide (1≤d.kind) && decide (d.kind≤3)) && d.items.all kindsI
def mayN (p:Pr):Bool:=p.decls.all kindsD && mayP p
theorem mayN_no {p:Pr} {i:Nat} {d:De} (h:p.decls[i]? = some d) (hd:kindsD d = false):mayN p = false:=by
  have:p.decls.all kindsD = false:=by rw [List.all_eq_false];exact ⟨d,List.mem_of_getElem? h,by simp [hd]⟩
  unfold mayN;rw [this];rfl
theorem kindsD_it {d:De} {i:Nat} {y:It} (h:d.items[i]? = some y) (hy:kindsI y = false):kindsD d = false:=by
  have:d.items.all kindsI = false:=by rw [List.all_eq_false];exact ⟨y,List.mem_of_getElem? h,by simp [hy]⟩
  unfold kindsD;rw [this,Bool.and_false]
theorem all_of {α:Type} {l:List α} {f:α→Bool} {n:Nat} (h:∀ i,i < n→∀ x,l[i]? = some x→f x = true) (hn:l.length≤n):l.all f = true:=by
  rw [List.all_eq_true]
  intro x hx
  obtain ⟨i,hi,rfl⟩:=List.getElem_of_mem hx
  exact h i (by omega) _ (List.getElem?_eq_getElem hi)
set_option maxHeartbeats 8000000 in
set_option maxRecDepth 100000 in
theorem nmMay_core (o1 o2:Option Addr) (db doff dcap n cap:Nat) (p:Pr) (m:Nat) (hm:Hid (p.decls.length = m)) (ml:(m:Int)≤60) (w:World) (hS:Hid (Small p)) (hd:Hid (0 < m→o1 = some ⟨db,doff,none⟩))
    (hdc:Hid (∀ i,i < m→∀ x,p.decls[i]? = some x→DeAt w db (doff+i*7) x))
    (MAY:Hid (∀ W,Below w.heap.size w W→Calls Tryz.prog 61 #[.agg #[(.slice o1 m dcap),(.slice o2 n cap)]] W fun e w'=>MayPost (mayP p) W e w')) :
    Calls Tryz.prog 30 #[.agg #[(.slice o1 m dcap),(.slice o2 n cap)]] w fun e w'=>MayPost (mayN p) w e w':=by
  have hW0:=hid (below_al (Below.refl w.heap.size w) (.cells #[(.slice o1 m dcap),(.slice o2 n cap)] 25))
  have hB0:Hid ((w.alloc (.cells #[(.slice o1 m dcap),(.slice o2 n cap)] 25)).heap[w.heap.size]? = some (.cells #[(.slice o1 m dcap),(.slice o2 n cap)] 25 (0,0))):=hid (World.alloc_heap_new w _)
  go_enter Tryz.func30,Tryz.ntmps30
  go_wp2_with fail
  go_loopw [10] (fun i wr=>∃ (j:Nat),i = .int .i64 j∧j≤m∧Hid (∀ i,i < j→∀ d,p.decls[i]? = some d→kindsD d = true)∧Hid (Below w.heap.size w wr)∧Hid (wr.heap[w.heap.size]? = some (.cells #[(.slice o1 m dcap),(.slice o2 n cap)] 25 (0,0)))) (fun i _=>m - litLen i)
  case atStart=>exact ⟨0,rfl,Nat.zero_le _,hid fun i hi=>by omega,hW0,hB0⟩
  case round =>
    clear hW0 hB0
    obtain ⟨j,rfl,hj,hX,hW,hB⟩:=hrel
    have g1:wr.cell? ⟨w.heap.size,0,none⟩ = some (.slice o1 m dcap):=by simp [World.cell?,hB.out]
    have g2:wr.cell? ⟨w.heap.size,1,none⟩ = some (.slice o2 n cap):=by simp [World.cell?,hB.out]
    rcases Nat.lt_or_ge j m with hlt | hge
    · have hl:(j:Int) < (m:Int):=by omega
      obtain ⟨d,hdj⟩:∃ x,p.decls[j]? = some x:=⟨_,List.getElem?_eq_getElem (by have:=hm.out;omega)⟩
      obtain ⟨op,capp,oi,capi,bi,offi,hok,c0,c1,c2,c3,c4,c5,c6,hi3,hi4⟩:=de_cells' (hdc.out j hlt d hdj) hW.out
      have ix:=ix_des (cap:=dcap) hd.out hlt (by omega)
      unfold Ix at ix
      have hds:=hS.out.de d (List.mem_of_getElem? hdj)
      obtain ⟨ni,hni⟩:∃ ni,ni = d.items.length:=⟨_,rfl⟩
      rw [← hni] at c3 hi3 hi4
      have nil' : (ni:Int)≤600:=by have:=hds.2.1;omega
      have HN:=hid hni
      have HI3:=hid hi3
      have HI4:=hid hi4
      have HDJ:=hid hdj
      have KL:(1≤d.kind∧d.kind≤3)∨d.kind < 1∨3 < d.kind:=by omega
      clear hni hi3 hi4 hok hdj hds
      rcases KL with ⟨k1,k2⟩ | k1 | k1
      · have q1:decide (d.kind < 1) = false:=decide_eq_false (by omega)
        have q2:decide (3 < d.kind) = false:=decide_eq_false (by omega)
        go_wp2_with fail
        obtain ⟨W2,hW2⟩:∃ W2,W2 = wr.alloc (.cells #[.int .i64 d.kind,.string d.name,.slice op d.params.length capp,.slice oi ni capi,.int .i64 d.type,.int .i64 d.e,.int .i64 d.pos] 44):=⟨_,rfl⟩
        rw [← hW2]
        have hb2:Below wr.heap.size wr W2:=by rw [hW2];exact (Below.refl _ _).alloc (Nat.le_refl _) _
        have HW2:=hid (hW.out.trans (hb2.mono hW.out.size))
        have HI:=hid hW.out
        have HB2:=hid ((hb2.block _ (lt_of_heap hB.out)).trans hB.out)
        have HI4' : Hid (∀ i,i < ni→∀ y,d.items[i]? = some y→ItAt W2 bi (offi+i*9) y):=hid fun i hi y hy=>(HI4.out i hi y hy).below HW2.out
        have KD:=hid (show 1≤d.kind∧d.kind≤3 from ⟨k1,k2⟩)
        clear hW2 hb2 c0 c1 c2 c3 c4 c5 c6 ix g1 g2 q1 q2 k1 k2
        go_loopw [25] (fun i wq=>∃ (l:Nat),i = .int .i64 l∧l≤ni∧Hid (∀ i,i < l→∀ y,d.items[i]? = some y→kindsI y = true)∧Hid (Below W2.heap.size W2 wq)) (fun i _=>ni - litLen i)
        case atStart=>exact ⟨0,rfl,Nat.zero_le _,hid fun i hi=>by omega,hid (Below.refl _ _)⟩
        case round =>
          obtain ⟨l,rfl,hl',hY,hQ⟩:=hrel
          rcases Nat.lt_or_ge l ni with hlt2 | hge2
          · have hl2:(l:Int) < (ni:Int):=by omega
            obtain ⟨y,hyl⟩:∃ x,d.items[l]? = some x:=⟨_,List.getElem?_eq_getElem (by have:=HN.out;omega)⟩
            obtain ⟨os,caps,iok,i0,i1,i2,i3,i4,i5,i6,i7,i8⟩:=it_cells ((HI4'.out l hlt2 y hyl).below hQ.out)
            have ix:=ix_its (cap:=capi) (n:=ni) HI3.out hlt2 (by omega)
            unfold Ix at ix
            have HYL:=hid hyl
            have KY:(1≤y.kind∧y.kind≤8)∨y.kind < 1∨8 < y.kind:=by omega
            clear hyl iok
            rcases KY with ⟨k1,k2⟩ | k1 | k1
            · have q1:decide (y.kind < 1) = false:=decide_eq_false (by omega)
              have q2:decide (8 < y.kind) = false:=decide_eq_false (by omega)
              have KYH:=hid (show kindsI y = true by unfold kindsI;rw [decide_eq_true k1,decide_eq_true k2];rfl)
              go_wp2_with fail
              exact ⟨⟨l+1,by go_num,by omega,hid fun i hi z hz=>by
                rcases Nat.lt_or_ge i l with h | h
                · exact hY.out i h z hz
                · obtain rfl:i = l:=by omega
                  have:=HYL.out;rw [hz] at this;cases this;exact KYH.out,hid (hQ.out.alloc hQ.out.size _)⟩,by simp [litLen];omega⟩
            · have q1:decide (y.kind < 1) = true:=decide_eq_true k1
              have HNO:=hid (mayN_no HDJ.out (kindsD_it HYL.out (show kindsI y = false by unfold kindsI;rw [decide_eq_false (by omega:¬ 1≤y.kind)];rfl)))
              clear hX hY
              go_wp2_with fail
              go_ret
              exact ⟨by rw [HNO.out];rfl,HW2.out.trans ((hQ.out.alloc hQ.out.size _).mono HW2.out.size)⟩
            · have q1:decide (y.kind < 1) = false:=decide_eq_false (by omega)
              have q2:decide (8 < y.kind) = true:=decide_eq_true (by omega)
              have HNO:=hid (mayN_no HDJ.out (kindsD_it HYL.out (show kindsI y = false by unfold kindsI;rw [decide_eq_false (by omega:¬ y.kind≤8)];simp)))
              clear hX hY
              go_wp2_with fail
              go_ret
              exact ⟨by rw [HNO.out];rfl,HW2.out.trans ((hQ.out.alloc hQ.out.size _).mono HW2.out.size)⟩
          · obtain rfl:l = ni:=by omega
            have HA:=hid (all_of hY.out (by rw [← HN.out];exact Nat.le_refl _))
            clear hY
            go_wp2_with fail
            exact ⟨⟨j+1,by go_num,by omega,hid fun i hi z hz=>by
              rcases Nat.lt_or_ge i j with h | h
              · exact hX.out i h z hz
              · obtain rfl:i = j:=by omega
                have:=HDJ.out;rw [hz] at this;cases this
                unfold kindsD;rw [decide_eq_true KD.out.1,decide_eq_true KD.out.2,HA.out];rfl,hid (HW2.out.trans (hQ.out.mono HW2.out.size)),hid ((hQ.out.block _ (lt_of_heap HB2.out)).trans HB2.out)⟩,by simp [litLen];omega⟩
      · have q1:decide (d.kind < 1) = true:=decide_eq_true k1
        have HNO:=hid (mayN_no HDJ.out (show kindsD d = false by unfold kindsD;rw [decide_eq_false (by omega:¬ 1≤d.kind)];rfl))
        clear hX
        go_wp2_with fail
        go_ret
        exact ⟨by rw [HNO.out];rfl,hW.out.alloc hW.out.size _⟩
      · have q1:decide (d.kind < 1) = false:=decide_eq_false (by omega)
        have q2:decide (3 < d.kind) = true:=decide_eq_true (by omega)
        have HNO:=hid (mayN_no HDJ.out (show kindsD d = false by unfold kindsD;rw [decide_eq_false (by omega:¬ d.kind≤3)];simp))
        clear hX
        go_wp2_with fail
        go_ret
        exact ⟨by rw [HNO.out];rfl,hW.out.alloc hW.out.size _⟩
    · obtain rfl:j = m:=by omega
      have HA:=hid (all_of hX.out (by rw [hm.out];exact Nat.le_refl _))
      have C:=hid (MAY.out wr hW.out)
      clear hX
      go_wp2_with (go_at_call 61;((with_reducible refine C.out.mono ?_);rintro e w1 ⟨rfl,hb1⟩;have HB1:=hid hb1;clear hb1))
      go_ret
      exact ⟨by unfold mayN;rw [HA.out];rfl,hW.out.trans (HB1.out.mono hW.out.size)⟩
theorem nmMay_any (sd se:Value) (p:Pr) (w:World) (h:ProgAt w sd se p) (hs:Small p):Calls Tryz.prog 30 #[.agg #[sd,se]] w fun e w'=>MayPost (mayN p) w e w':=by
  obtain ⟨⟨o1,dcap,db,doff,rfl,hd1,hd2,hd3,hd4⟩,⟨o2,cap,b,off,rfl,he1,he2,he3,he4⟩,h3,h4⟩:=id h
  exact nmMay_core o1 o2 db doff dcap _ cap p _ (hid rfl) (by have:=hs.decls;omega) w (hid hs) (hid hd3) (hid hd4) (hid fun W hW=>may_any _ _ p W (h.below hW) hs)
end
section
open Go.RowKit Go.Shelf
structure Cons (M:Nat→Prop) (X Y:World):Prop where
  os:Y.os = X.os
  tape:Y.tape = X.tape
  output:Y.output = X.output
  size:X.heap.size≤Y.heap.size
  block:∀ k,k < X.heap.size→¬ M k→Y.heap[k]? = X.heap[k]?
structure After (B:Nat) (X Z Y:World):Prop where
  os:Y.os = Z.os
  tape:Y.tape = Z.tape
  output:Y.output = Z.output
  size:Z.heap.size≤Y.heap.size
  block:∀ k,k < Z.heap.size→(k < B∨X.heap.size≤k)→Y.heap[k]? = Z.heap[k]?
variable {F:Fence} {n:Nat} {P:Program}
def NoneY (F:Fence) (n:Nat) (P:Program) (g:Nat) (lb:Array Value) (w:World):Prop :=
  ∀ (l:Nat) (W:World),Below w.heap.size w W→CallsIn F n P g (#[.func (.yield l) #[] #[]] ++ lb) W fun e Y=>(∃ u,e = .returned u)∧Below W.heap.size W Y
def OneY (F:Fence) (n:Nat) (P:Program) (g:Nat) (lb args:Array Value) (M:Nat→Prop) (w:World):Prop :=
  ∀ (l:Nat) (W:World) (R:World→World→Prop),Below w.heap.size w W →
    (∀ X,Below W.heap.size W X→YieldAt F (n - 1) P l args X fun e Y=>e = .returned (.bool true)∧R X Y∧Cons M X Y) →
    CallsIn F n P g (#[.func (.yield l) #[] #[]] ++ lb) W fun e Y=>(∃ u,e = .returned u)∧∃ X Z,Below W.heap.size W X∧R X Z∧Cons M X Z∧After W.heap.size X Z Y
theorem YieldAt.inRound {m:Nat} {l l₀:Nat} {args:Array Value} {W:World} {R:Ending→World→Prop} (h:YieldAt F m P l args W R):YieldAt (F.inRound l₀) m P l args W R:=h
theorem room_none {F:Fence} (hd:F.depth = none) (k:Nat):F.room k:=fun d h=>by rw [hd] at h;cases h
theorem YieldAt.deep {F:Fence} (hd:F.depth = none) {m:Nat} (m' : Nat) {P:Program} {l:Nat} {args:Array Value} {W:World} {R:Ending→World→Prop} (h:YieldAt F m P l args W R):YieldAt F m' P l args W R:=by
  obtain ⟨fn,tmps,assign,body,hy,h1,h2⟩:=h
  exact ⟨fn,tmps,assign,body,hy,h1,fun c cs _=>h2 c cs (room_none hd _)⟩
theorem below_put {B:Nat} {w W:World} (h:Below B w W) {l:Nat} (hl:B≤l) (o:Obj):Below B w (W.putObj l o):=by
  have hg:=grownBy_putObj' W l o
  exact ⟨hg.os.trans h.os,hg.tape.trans h.tape,hg.output.trans h.output,Nat.le_trans h.size hg.size,fun k hk=>(World.putObj_heap_other (by omega)).trans (h.block k hk)⟩
theorem range_none {g:Operand} {ps:Array Tmp} {assign body:Code} {Q:Exit→Act→World→Prop} {a:Act} {w:World}
    (hro:F.round = none) (h1:1≤n) {gf:Nat} {lb:Array Value} (hg:a.eval g = .func (.func gf) #[] lb) (hFg:F.fn gf) (eg:∀ args w,(callFunc gf args).run P w = .ok (.enter gf args) w)
    (hseq:NoneY F (n - 1) P gf lb w)
    (hdone:∀ (D:Nat) (Y:World),w.heap.size≤D→Below w.heap.size w Y→Y.heap[D]? = some (.deferred (some []))→Q .normal { a with defers:={ target:=.collected D,args:=#[] } :: a.defers } Y) :
    (Code.rangeFunc g ps assign body).wpIn F n P Q a w:=by
  refine wpIn_rangeFunc fun fn hfn=>?_
  rw [hro]
  obtain ⟨D,hD⟩:∃ D,D = w.heap.size:=⟨_,rfl⟩
  obtain ⟨R,hR⟩:∃ R:LoopState→Option Code→Loop,R = fun st pe=>{ state:=st,pending:=pe,fn,tmps:=a.tmps,params:=ps,assign,body,defers:=D }:=⟨_,rfl⟩
  obtain ⟨V,hV⟩:∃ V,V = (w.alloc (.deferred (some []))).alloc (.loop (R .ready none)):=⟨_,rfl⟩
  have z1:(w.alloc (.deferred (some []))).heap.size = D+1:=by rw [World.size_alloc,hD]
  have z2:V.heap.size = D+2:=by rw [hV,World.size_alloc,z1]
  have vD:V.heap[D]? = some (.deferred (some [])):=by rw [hV,heap_old _ _ _ (by rw [z1];omega),hD];exact World.alloc_heap_new w _
  have vL:V.heap[D+1]? = some (.loop (R .ready none)):=by
    have:=World.alloc_heap_new (w.alloc (.deferred (some []))) (.loop (R .ready none))
    rw [z1] at this;rw [hV];exact this
  have vB:Below w.heap.size w V:=by rw [hV];exact ((Below.refl _ w).alloc (Nat.le_refl _) _).alloc (by rw [z1,hD];omega) _
  have hcall:=hseq (D+1) V vB
  refine ⟨D+1,[{ target:=.collected D,args:=#[] }],V,{ target:=.fn (.func gf) lb,args:=#[.func (.yield (D+1)) #[] #[]] },V,gf,#[.func (.yield (D+1)) #[] #[]] ++ lb,V,?_,?_,?_,?_,fun _=>h1,?_⟩
  · rw [hV,hR,hD];exact run_enterLoop_outer _ _ _ _ _
  · simp only [resolve,hg]
    simp [go_sem]
  · intro f' hf'
    simp [Target.leads] at hf'
    subst hf'
    exact hFg
  · simp [invoke,go_sem,eg]
  · refine hcall.mono ?_
    rintro r Y ⟨⟨v,rfl⟩,hb⟩
    have hl:=(hb.block (D+1) (by omega)).trans vL
    have hk:=(hb.block D (by omega)).trans vD
    exact ⟨none,_,by have:=run_endLoop (P:=P) hl (by rw [hR];simp);rw [hR] at this;exact this,hdone _ _ (by omega) (below_put (vB.trans (hb.mono vB.size)) (by omega) _) ((World.putObj_heap_other (by omega)).trans hk)⟩
def onePost (M:Nat→Prop) (R:World→World→Prop) (Z:World):Exit→Act→World→Prop
  | .normal,_,W=>Cons M Z W∧R Z W
  | _,_,_=>False
theorem range_one {g:Operand} {ps:Array Tmp} {assign body:Code} {Q:Exit→Act→World→Prop} {a:Act} {w:World}
    (hro:F.round = none) (h1:1≤n) {gf:Nat} {lb:Array Value} (hg:a.eval g = .func (.func gf) #[] lb) (hFg:F.fn gf) (eg:∀ args w,(callFunc gf args).run P w = .ok (.enter gf args) w)
    {args:Array Value} {M:Nat→Prop} (hM:∀ k,M k→k < w.heap.size) (hseq:OneY F (n - 1) P gf lb args M w) (hps:args.size = ps.size) (R:World→World→Prop) (a₁:Act)
    (hassign:∀ (l:Nat) (W:World) (K:Act→World→Prop),K a₁ W→assign.wpIn (F.inRound l) (n - 1 - 1) P (Exit.then K (fun _ _ _=>False)) { tmps:=(ps.zip args).foldl (fun t (p,v)=>t.setIfInBounds p v) a.tmps,defers:=[] } W)
    (hbody:∀ (l:Nat) (Z:World),w.heap.size≤l→Below w.heap.size w Z→body.wpIn (F.inRound l) (n - 1 - 1) P (onePost M R Z) a₁ Z)
    (hdone:∀ (D:Nat) (Z W Y:World),w.heap.size≤D→D < Z.heap.size→Below w.heap.size w Z→R Z W→Cons M Z W→After w.heap.size Z W Y→Y.heap[D]? = some (.deferred (some []))→Q .normal { a with defers:={ target:=.collected D,args:=#[] } :: a.defers } Y) :
    (Code.rangeFunc g ps assign body).wpIn F n P Q a w:=by
  refine wpIn_rangeFunc fun fn hfn=>?_
  rw [hro]
  obtain ⟨D,hD⟩:∃ D,D = w.heap.size:=⟨_,rfl⟩
  obtain ⟨L,hL⟩:∃ L:LoopState→Option Code→Loop,L = fun st pe=>{ state:=st,pending:=pe,fn,tmps:=a.tmps,params:=ps,assign,body,defers:=D }:=⟨_,rfl⟩
  obtain ⟨V,hV⟩:∃ V,V = (w.alloc (.deferred (some []))).alloc (.loop (L .ready none)):=⟨_,rfl⟩
  have z1:(w.alloc (.deferred (some []))).heap.size = D+1:=by rw [World.size_alloc,hD]
  have z2:V.heap.size = D+2:=by rw [hV,World.size_alloc,z1]
  have vD:V.heap[D]? = some (.deferred (some [])):=by rw [hV,heap_old _ _ _ (by rw [z1];omega),hD];exact World.alloc_heap_new w _
  have vL:V.heap[D+1]? = some (.loop (L .ready none)):=by
    have:=World.alloc_heap_new (w.alloc (.deferred (some []))) (.loop (L .ready none))
    rw [z1] at this;rw [hV];exact this
  have vB:Below w.heap.size w V:=by rw [hV];exact ((Below.refl _ w).alloc (Nat.le_refl _) _).alloc (by rw [z1,hD];omega) _
  have nM:∀ k,D≤k→¬ M k:=fun k hk h=>by have:=hM k h;omega
  have hcall:=hseq (D+1) V (fun X Y=>∃ Z W,Z = X.putObj (D+1) (.loop { L .ready none with state:=.busy })∧R Z W∧Cons M Z W∧Y = W.putObj (D+1) (.loop (L .ready none))) vB (by
    intro X hX
    have hl:=(hX.block (D+1) (by omega)).trans vL
    have hlt:=lt_of_heap hl
    have hy:=run_yield (P:=P) (args:=args) hl (by rw [hL];exact hps)
    rw [hL] at hy
    refine ⟨fn,_,assign,body,hy,roundIn_of_wpIn hfn (hassign _ X _ ?_)⟩
    clear hy
    refine ⟨_,run_beginRound hl (by rw [hL]),?_⟩
    obtain ⟨Z,hZ⟩:∃ Z,Z = X.putObj (D+1) (.loop { L .ready none with state:=.busy }):=⟨_,rfl⟩
    have zL:Z.heap[D+1]? = some (.loop { L .ready none with state:=.busy }):=by rw [hZ];exact World.putObj_heap_same hlt
    have zs:Z.heap.size = X.heap.size:=by rw [hZ];simp
    have zB:Below w.heap.size w Z:=by rw [hZ];exact below_put (vB.trans (hX.mono vB.size)) (by omega) _
    rw [← hZ]
    refine wpIn_mono (hbody _ Z (by omega) zB) ?_
    rintro q a3 W3 hp
    cases q with
    | normal =>
      obtain ⟨hc,hr⟩:=hp
      have wL:=(hc.block (D+1) (by omega) (nM _ (by omega))).trans zL
      have he:=run_endRound (P:=P) none wL
      rw [hL] at he
      have hgz:=grownBy_putObj' X (D+1) (.loop { L .ready none with state:=.busy })
      rw [← hZ] at hgz
      have hgw:=grownBy_putObj' W3 (D+1) (.loop (L .ready none))
      refine ⟨_,_,he,rfl,⟨Z,W3,by first | rfl | exact hZ,hr,hc,by rw [hL];rfl⟩,?_⟩
      show Cons M X (W3.putObj (D+1) _)
      rw [hL] at hgw
      refine ⟨hgw.os.trans (hc.os.trans hgz.os),hgw.tape.trans (hc.tape.trans hgz.tape),hgw.output.trans (hc.output.trans hgz.output),Nat.le_trans (by omega) (Nat.le_trans hc.size hgw.size),fun k hk hm=>?_⟩
      by_cases hkd:k = D+1
      · subst hkd
        rw [hl,hL]
        exact World.putObj_heap_same (lt_of_heap wL)
      · refine (World.putObj_heap_other (by omega)).trans ((hc.block k (by omega) hm).trans ?_)
        rw [hZ]
        exact World.putObj_heap_other (by omega)
    | ret=>exact hp.elim
    | exit id=>exact hp.elim
    | goto t=>exact hp.elim
    | panic ch=>exact hp.elim
    | outgrown=>exact hp.elim)
  refine ⟨D+1,[{ target:=.collected D,args:=#[] }],V,{ target:=.fn (.func gf) lb,args:=#[.func (.yield (D+1)) #[] #[]] },V,gf,#[.func (.yield (D+1)) #[] #[]] ++ lb,V,?_,?_,?_,?_,fun _=>h1,?_⟩
  · rw [hV,hL,hD];exact run_enterLoop_outer _ _ _ _ _
  · simp only [resolve,hg]
    simp [go_sem]
  · intro f' hf'
    simp [Target.leads] at hf'
    subst hf'
    exact hFg
  · simp [invoke,go_sem,eg]
  · refine hcall.mono ?_
    rintro r Y ⟨⟨v,rfl⟩,X,Z1,hX,⟨Z,W,hZ,hr,hc,rfl⟩,_,hA⟩
    have zs:Z.heap.size = X.heap.size:=by rw [hZ];simp
    have zB:Below w.heap.size w Z:=by rw [hZ];exact below_put (vB.trans (hX.mono vB.size)) (by omega) _
    have hXs:=hX.size
    have wsz:(W.putObj (D+1) (.loop (L .ready none))).heap.size = W.heap.size:=by simp
    have hcs:=hc.size
    have hl:Y.heap[D+1]? = some (.loop (L .ready none)):=(hA.block (D+1) (by omega) (.inl (by omega))).trans (World.putObj_heap_same (by omega))
    have hk:Y.heap[D]? = some (.deferred (some [])):=by
      refine (hA.block D (by omega) (.inl (by omega))).trans ((World.putObj_heap_other (by omega)).trans ((hc.block D (by omega) (nM _ (Nat.le_refl _))).trans ?_))
      rw [hZ]
      exact (World.putObj_heap_other (by omega)).trans ((hX.block D (by omega)).trans vD)
    have he:=run_endLoop (P:=P) hl (by rw [hL];simp)
    rw [hL] at he
    have hgW:=grownBy_putObj' W (D+1) (.loop (L .ready none))
    refine ⟨none,_,he,hdone D Z W _ (by omega) (by omega) zB hr hc ?_ ((World.putObj_heap_other (by omega)).trans hk)⟩
    refine ⟨hA.os.trans hgW.os,hA.tape.trans hgW.tape,hA.output.trans hgW.output,?_,fun k hk1 hk2=>?_⟩
    · have:=hA.size
      rw [World.putObj_size];omega
    · have hkd:k≠D+1:=by omega
      exact (World.putObj_heap_other (by omega)).trans ((hA.block k (by omega) (by omega)).trans (World.putObj_heap_other (by omega)))
end
section
open Go.RowKit Lx
def NmBox (W:World) (B gi ci:Nat):Prop:=W.heap[B]? = some (.cells #[.int .i64 3,.string (str [109]),.slice none 0 0,.slice (some ⟨gi,0,none⟩) 1 ci,.int .i64 0,.int .i64 0,.int .i64 0] 44 (0,0))
structure NmIt (W:World) (gi:Nat):Prop where
  i0:W.cell? ⟨gi,0,none⟩ = some (.int .i64 8)
  i1:W.cell? ⟨gi,1,none⟩ = some (.string (str [120]))
  i2:W.cell? ⟨gi,2,none⟩ = some (.int .i64 0)
  i3:W.cell? ⟨gi,3,none⟩ = some (.int .i64 0)
  i4:W.cell? ⟨gi,4,none⟩ = some (.int .i64 0)
  i5:W.cell? ⟨gi,5,none⟩ = some (.slice none 0 0)
  i6:W.cell? ⟨gi,6,none⟩ = some (.string ⟨#[]⟩)
  i7:W.cell? ⟨gi,7,none⟩ = some (.string ⟨#[]⟩)
  i8:W.cell? ⟨gi,8,none⟩ = some (.int .i64 13)
theorem NmIt.on {W Y:World} {gi:Nat} (h:NmIt W gi) (hb:Below W.heap.size W Y):NmIt Y gi:=⟨cell_on hb h.i0,cell_on hb h.i1,cell_on hb h.i2,cell_on hb h.i3,cell_on hb h.i4,cell_on hb h.i5,cell_on hb h.i6,cell_on hb h.i7,cell_on hb h.i8⟩
theorem NmBox.on {W Y:World} {B gi ci:Nat} (h:NmBox W B gi ci) (hb:Below W.heap.size W Y):NmBox Y B gi ci:=(hb.block _ (heap_lt h)).trans h
theorem NmAt.it {W:World} {gd gi:Nat} {od oe:Option Addr} {cd ce ci:Nat} (h:NmAt W gd gi od oe cd ce ci):NmIt W gi:=⟨h.i0,h.i1,h.i2,h.i3,h.i4,h.i5,h.i6,h.i7,h.i8⟩
structure NmBoxC (W:World) (B gi ci:Nat):Prop where
  b0:W.cell? ⟨B,0,none⟩ = some (.int .i64 3)
  b1:W.cell? ⟨B,1,none⟩ = some (.string (str [109]))
  b2:W.cell? ⟨B,2,none⟩ = some (.slice none 0 0)
  b3:W.cell? ⟨B,3,none⟩ = some (.slice (some ⟨gi,0,none⟩) 1 ci)
  b4:W.cell? ⟨B,4,none⟩ = some (.int .i64 0)
  b5:W.cell? ⟨B,5,none⟩ = some (.int .i64 0)
  b6:W.cell? ⟨B,6,none⟩ = some (.int .i64 0)
theorem NmBox.c {W:World} {B gi ci:Nat} (h:NmBox W B gi ci):NmBoxC W B gi ci:=by
  unfold NmBox at h
  exact ⟨by simp [World.cell?,h],by simp [World.cell?,h],by simp [World.cell?,h],by simp [World.cell?,h],by simp [World.cell?,h],by simp [World.cell?,h],by simp [World.cell?,h]⟩
set_option maxHeartbeats 2000000 in
theorem vars_any (d0 d1 d2 d3 d4 d5 d6:Value) (w:World) (h:∃ k nm o n c o2 n2 c2 t e p,d0 = .int .i64 k∧d1 = .string nm∧d2 = .slice o n c∧d3 = .slice o2 n2 c2∧d4 = .int .i64 t∧d5 = .int .i64 e∧d6 = .int .i64 p) :
    Calls Tryz.prog 33 #[.agg #[d0,d1,d2,d3,d4,d5,d6]] w fun r w'=>r = .returned (.func (.func 63) #[] #[.pointer (some ⟨w.heap.size,0,none⟩)])∧w.alloc (.cells #[d0,d1,d2,d3,d4,d5,d6] 44) = w':=by
  obtain ⟨k,nm,o,n,c,o2,n2,c2,t,e,p,rfl,rfl,rfl,rfl,rfl,rfl,rfl⟩:=h
  go_enter Tryz.func33,Tryz.ntmps33
  go_wp2_with fail
  go_ret
  exact ⟨rfl,rfl⟩
set_option maxHeartbeats 2000000 in
theorem roots_any (d0 d1 d2 d3 d4 d5 d6:Value) (w:World) (h:∃ k nm o n c o2 n2 c2 t e p,d0 = .int .i64 k∧d1 = .string nm∧d2 = .slice o n c∧d3 = .slice o2 n2 c2∧d4 = .int .i64 t∧d5 = .int .i64 e∧d6 = .int .i64 p) :
    Calls Tryz.prog 37 #[.agg #[d0,d1,d2,d3,d4,d5,d6]] w fun r w'=>r = .returned (.func (.func 67) #[] #[.pointer (some ⟨w.heap.size,0,none⟩)])∧w.alloc (.cells #[d0,d1,d2,d3,d4,d5,d6] 44) = w':=by
  obtain ⟨k,nm,o,n,c,o2,n2,c2,t,e,p,rfl,rfl,rfl,rfl,rfl,rfl,rfl⟩:=h
  go_enter Tryz.func37,Tryz.ntmps37
  go_wp2_with fail
  go_ret
  exact ⟨rfl,rfl⟩
set_option maxHeartbeats 2000000 in
theorem made_out (w:World):Calls Tryz.prog 64 #[.agg #[.int .i64 8,.string (str [120]),.int .i64 0,.int .i64 0,.int .i64 0,.slice none 0 0,.string ⟨#[]⟩,.string ⟨#[]⟩,.int .i64 13]] w fun r w'=>r = .returned (.tuple #[.int .i64 0,.int .i64 0])∧Below w.heap.size w w':=by
  have hal:=hid ((Below.refl w.heap.size w).alloc (Nat.le_refl _) (.cells #[.int .i64 8,.string (str [120]),.int .i64 0,.int .i64 0,.int .i64 0,.slice none 0 0,.string ⟨#[]⟩,.string ⟨#[]⟩,.int .i64 13] 62))
  go_enter Tryz.func64,Tryz.ntmps64
  go_wp2_with fail
  go_ret2
  exact ⟨rfl,hal.out⟩
set_option maxHeartbeats 2000000 in
theorem hasE_out (w:World):Calls Tryz.prog 68 #[.int .i64 8] w fun r w'=>r = .returned (.bool false)∧w = w':=by
  go_enter Tryz.func68,Tryz.ntmps68
  go_wp2_with fail
  go_ret
  exact ⟨rfl,rfl⟩
set_option maxHeartbeats 2000000 in
theorem hasF_out (w:World):Calls Tryz.prog 69 #[.int .i64 8] w fun r w'=>r = .returned (.bool false)∧w = w':=by
  go_enter Tryz.func69,Tryz.ntmps69
  go_wp2_with fail
  go_ret
  exact ⟨rfl,rfl⟩
set_option maxHeartbeats 4000000 in
theorem vars_none (n:Nat) (w:World) (B gi ci:Nat) (hB:NmBox w B gi ci) (hI:NmIt w gi):NoneY Fence.wide n Tryz.prog 63 #[.pointer (some ⟨B,0,none⟩)] w:=by
  intro l W hW
  refine callsIn_wide.2 ?_
  have HB:=hid (hB.on hW)
  have HI:=hid (hI.on hW)
  clear hB hI hW
  obtain ⟨b0,b1,b2,b3,b4,b5,b6⟩:=HB.out.c
  change Calls Tryz.prog 63 #[.func (.yield l) #[] #[],.pointer (some ⟨B,0,none⟩)] W _
  go_enter Tryz.func63,Tryz.ntmps63
  go_wp2_with fail
  go_loopw [12] (fun i wr=>i = .int .i64 0∧wr = W) (fun _ _=>0)
  case atStart=>exact ⟨rfl,rfl⟩
  case round =>
    obtain ⟨rfl,rfl⟩:=hrel
    go_wp2_with fail
    go_loopw [30] (fun i wq=>∃ j:Nat,i = .int .i64 j∧j≤1∧Hid (Below wr.heap.size wr wq)) (fun i _=>1 - litLen i)
    case atStart=>exact ⟨0,rfl,by omega,hid (Below.refl _ _)⟩
    case round =>
      obtain ⟨j,rfl,hj,hQ⟩:=hrel
      rcases Nat.lt_or_ge j 1 with hlt | hge
      · obtain rfl:j = 0:=by omega
        obtain ⟨i0,i1,i2,i3,i4,i5,i6,i7,i8⟩:=HI.out.on hQ.out
        go_wp2_with (go_at_call 64;((with_reducible refine (made_out _).mono ?_);rintro e w1 ⟨rfl,hb1⟩;have HB1:=hid hb1;clear hb1))
        exact ⟨⟨1,rfl,by omega,hid (hQ.out.trans ((((Below.refl _ _).alloc (Nat.le_refl _) _).trans (HB1.out.mono (by simp))).mono hQ.out.size))⟩,by simp [litLen]⟩
      · obtain rfl:j = 1:=by omega
        go_wp2_with fail
        go_end0
        exact ⟨⟨_,rfl⟩,hQ.out⟩
set_option maxHeartbeats 4000000 in
theorem roots_none (n:Nat) (w:World) (B gi ci:Nat) (hB:NmBox w B gi ci) (hI:NmIt w gi):NoneY Fence.wide n Tryz.prog 67 #[.pointer (some ⟨B,0,none⟩)] w:=by
  intro l W hW
  refine callsIn_wide.2 ?_
  have HB:=hid (hB.on hW)
  have HI:=hid (hI.on hW)
  clear hB hI hW
  obtain ⟨b0,b1,b2,b3,b4,b5,b6⟩:=HB.out.c
  change Calls Tryz.prog 67 #[.func (.yield l) #[] #[],.pointer (some ⟨B,0,none⟩)] W _
  go_enter Tryz.func67,Tryz.ntmps67
  go_wp2_with fail
  go_loopw [8] (fun i wq=>∃ j:Nat,i = .int .i64 j∧j≤1∧Hid (Below W.heap.size W wq)) (fun i _=>1 - litLen i)
  case atStart=>exact ⟨0,rfl,by omega,hid (Below.refl _ _)⟩
  case round =>
    obtain ⟨j,rfl,hj,hQ⟩:=hrel
    rcases Nat.lt_or_ge j 1 with hlt | hge
    · obtain rfl:j = 0:=by omega
      obtain ⟨i0,i1,i2,i3,i4,i5,i6,i7,i8⟩:=HI.out.on hQ.out
      go_wp2_with (first
        | (go_at_call 68;((with_reducible refine (hasE_out _).mono ?_);rintro e w1 ⟨rfl,rfl⟩))
        | (go_at_call 69;((with_reducible refine (hasF_out _).mono ?_);rintro e w1 ⟨rfl,rfl⟩)))
      exact ⟨⟨1,rfl,by omega,hid (hQ.out.alloc hQ.out.size _)⟩,by simp [litLen]⟩
    · obtain rfl:j = 1:=by omega
      obtain ⟨c0,_⟩:=(HB.out.on hQ.out).c
      go_wp2_with fail
      go_end0
      exact ⟨⟨_,rfl⟩,hQ.out⟩
end
section
open Go.RowKit Lx Go.Shelf
attribute [local go_sem] Oper.semAt_some
def ScRet (w:World) (r:Ending) (Y:World):Prop:=∃ m1 m2,r = .returned (.agg #[.map (some m1),.map (some m2)])∧w.heap.size≤m1∧w.heap.size≤m2∧Y.heap[m1]? = some (.map #[] 0)∧Y.heap[m2]? = some (.map #[] 0)∧Below w.heap.size w Y
theorem al_new {W:World} {o:Obj} {k:Nat} (h:k = W.heap.size):(W.alloc o).heap[k]? = some o:=by subst h;exact World.alloc_heap_new W o
theorem al_old {W:World} {o o' : Obj} {k:Nat} (h:W.heap[k]? = some o'):(W.alloc o).heap[k]? = some o':=(heap_old W o k (lt_of_heap h)).trans h
theorem six (w:World) (o0 o1 o2 o3 o4 o5:Obj):∃ V,V = (((((w.alloc o0).alloc o1).alloc o2).alloc o3).alloc o4).alloc o5∧V.heap[w.heap.size]? = some o0∧V.heap[w.heap.size+1]? = some o1∧V.heap[w.heap.size+2]? = some o2∧V.heap[w.heap.size+3]? = some o3∧V.heap[w.heap.size+4]? = some o4∧V.heap[w.heap.size+5]? = some o5∧Below w.heap.size w V∧V.heap.size = w.heap.size+6:=by
  refine ⟨_,rfl,al_old (al_old (al_old (al_old (al_old (al_new rfl))))),al_old (al_old (al_old (al_old (al_new (by simp))))),al_old (al_old (al_old (al_new (by simp)))),al_old (al_old (al_new (by simp))),al_old (al_new (by simp)),al_new (by simp),?_,by simp⟩
  exact (((((((Below.refl w.heap.size w).alloc (Nat.le_refl _) _).alloc (by simp) _).alloc (by simp;omega) _).alloc (by simp;omega) _).alloc (by simp;omega) _).alloc (by simp;omega) _)
set_option maxHeartbeats 4000000 in
theorem scope_any (w:World) (gi ci:Nat) (hI:Hid (NmIt w gi)):CallsIn Fence.wide 4 Tryz.prog 58 #[.agg #[.int .i64 3,.string (str [109]),.slice none 0 0,.slice (some ⟨gi,0,none⟩) 1 ci,.int .i64 0,.int .i64 0,.int .i64 0]] w fun r Y=>ScRet w r Y:=by
  have hmm:=@run_makeMap Tryz.prog
  refine callsIn_of_wp_marks Tryz.func58 rfl trivial ?_ rfl
  simp only [Tryz.ntmps58,List.size_toArray,List.length_cons,List.length_nil,Nat.reduceAdd,Nat.reduceSub,Array.replicate_succ,Array.replicate_zero,List.push_toArray,List.append_toArray,List.nil_append,List.cons_append]
  gi_wp2_with (refine ⟨trivial,?_⟩;gi_at_call 33;((with_reducible refine (callsIn_wide.2 (vars_any _ _ _ _ _ _ _ _ ⟨_,_,_,_,_,_,_,_,_,_,_,rfl,rfl,rfl,rfl,rfl,rfl,rfl⟩)).mono ?_);rintro r w2 ⟨rfl,rfl⟩))
  obtain ⟨V,hV,v0,v1,v2,v3,v4,v5,vB,vS⟩:=six w (.cells #[.int .i64 3,.string (str [109]),.slice none 0 0,.slice (some ⟨gi,0,none⟩) 1 ci,.int .i64 0,.int .i64 0,.int .i64 0] 44) (.cells #[.map none,.map none] 109) (.map #[] 0) (.map #[] 0) (.cells #[.map (some (w.heap.size+1+1)),.map (some (w.heap.size+1+1+1))] 109) (.cells #[.int .i64 3,.string (str [109]),.slice none 0 0,.slice (some ⟨gi,0,none⟩) 1 ci,.int .i64 0,.int .i64 0,.int .i64 0] 44)
  rw [← hV]
  have HVI:=hid (hI.out.on vB)
  refine range_none rfl (by decide) (gf:=63) (lb:=#[.pointer (some ⟨w.heap.size+5,0,none⟩)]) rfl trivial (enters_of Tryz.func63 (by kernel_rfl) rfl) (vars_none _ _ _ gi ci v5 HVI.out) ?_
  rintro D Y hD hY hK
  have y0:NmBox Y w.heap.size gi ci:=(hY.block _ (by omega)).trans v0
  have y1:=(hY.block _ (by omega)).trans v1
  have y2:=(hY.block _ (by omega)).trans v2
  have y3:=(hY.block _ (by omega)).trans v3
  have y4:=(hY.block _ (by omega)).trans v4
  have hI2:=HVI.out.on hY
  obtain ⟨b0,b1,b2,b3,b4,b5,b6⟩:=y0.c
  have s0:Y.cell? ⟨w.heap.size+1+1+1+1,0,none⟩ = some (.map (some (w.heap.size+1+1))):=by simp only [World.cell?,show Y.heap[w.heap.size+1+1+1+1]? = _ from y4];rfl
  have s1:Y.cell? ⟨w.heap.size+1+1+1+1,1,none⟩ = some (.map (some (w.heap.size+1+1+1))):=by simp only [World.cell?,show Y.heap[w.heap.size+1+1+1+1]? = _ from y4];rfl
  have HYB:=hid (vB.trans (hY.mono vB.size))
  have HH:=hid (show _∧_∧_∧_∧_ from ⟨y1,y2,y3,y4,hK⟩)
  have HIY:=hid hI2
  have HD:=hid (show w.heap.size+6≤D by omega)
  clear y0 y1 y2 y3 y4 hI2 v0 v1 v2 v3 v4 v5 vB vS hV hY hD hK HVI hmm
  gi_wp2
  gi_loopw [35] (fun i wr=>∃ j:Nat,i = .int .i64 j∧j≤1∧Hid (Below Y.heap.size Y wr)) (fun i _=>1 - litLen i)
  case atStart=>exact ⟨0,rfl,by omega,hid (Below.refl _ _)⟩
  case round =>
    obtain ⟨j,rfl,hj,hQ⟩:=hrel
    clear b0 b1 b2 b3 b4 b5 b6 s0 s1
    rcases Nat.lt_or_ge j 1 with hlt | hge
    · obtain rfl:j = 0:=by omega
      obtain ⟨i0,i1,i2,i3,i4,i5,i6,i7,i8⟩:=HIY.out.on hQ.out
      gi_wp2
      obtain ⟨X,hX⟩:∃ X,X = wr.alloc (.cells #[.int .i64 8,.string (str [120]),.int .i64 0,.int .i64 0,.int .i64 0,.slice none 0 0,.string ⟨#[]⟩,.string ⟨#[]⟩,.int .i64 13] 62):=⟨_,rfl⟩
      rw [← hX]
      have HX:=hid (hQ.out.trans ((show Below wr.heap.size wr X by rw [hX];exact (Below.refl _ _).alloc (Nat.le_refl _) _).mono hQ.out.size))
      clear hX i0 i1 i2 i3 i4 i5 i6 i7 i8
      gi_loopw [43] (fun i wq=>i = .int .i64 0∧wq = X) (fun _ _=>0)
      case atStart=>exact ⟨rfl,rfl⟩
      case round =>
        obtain ⟨rfl,rfl⟩:=hrel
        gi_wp2
        go_roundw
        case rel=>exact ⟨1,by go_num,by omega,HX⟩
        case measure=>simp [litLen]
    · obtain rfl:j = 1:=by omega
      obtain ⟨y1,y2,y3,y4,hK⟩:=HH.out
      have z1:=(hQ.out.block _ (lt_of_heap y1)).trans y1
      have z4:=(hQ.out.block _ (lt_of_heap y4)).trans y4
      have s0:wr.cell? ⟨w.heap.size+1+1+1+1,0,none⟩ = some (.map (some (w.heap.size+1+1))):=by simp only [World.cell?,show wr.heap[w.heap.size+1+1+1+1]? = _ from z4];rfl
      have s1:wr.cell? ⟨w.heap.size+1+1+1+1,1,none⟩ = some (.map (some (w.heap.size+1+1+1))):=by simp only [World.cell?,show wr.heap[w.heap.size+1+1+1+1]? = _ from z4];rfl
      have r0:wr.cell? ⟨w.heap.size+1,0,none⟩ = some (.map none):=by simp [World.cell?,z1]
      have r1:wr.cell? ⟨w.heap.size+1,1,none⟩ = some (.map none):=by simp [World.cell?,z1]
      have f0:wr.frozen? ⟨w.heap.size+1,0,none⟩ = false:=by simp [World.frozen?,z1]
      have f1:wr.frozen? ⟨w.heap.size+1,1,none⟩ = false:=by simp [World.frozen?,z1]
      have HZ:=hid (show _∧_∧_∧_ from ⟨z1,(hQ.out.block _ (lt_of_heap y2)).trans y2,(hQ.out.block _ (lt_of_heap y3)).trans y3,(hQ.out.block _ (lt_of_heap hK)).trans hK⟩)
      clear y1 y2 y3 y4 hK z1 z4
      gi_wp2
      obtain ⟨Z,hZ⟩:∃ Z,Z = (wr.setCell ⟨w.heap.size+1,0,none⟩ (.map (some (w.heap.size+1+1)))).setCell ⟨w.heap.size+1,1,none⟩ (.map (some (w.heap.size+1+1+1))):=⟨_,rfl⟩
      rw [← hZ]
      obtain ⟨z1,z2,z3,zD⟩:=HZ.out
      have hd:=HD.out
      have k1:Z.heap[w.heap.size+1]? = some (.cells #[.map (some (w.heap.size+1+1)),.map (some (w.heap.size+1+1+1))] 109 (0,0)):=by rw [hZ,set_blk (set_blk z1 0 _) 1 _];rfl
      have ks:∀ k,k≠w.heap.size+1→Z.heap[k]? = wr.heap[k]?:=fun k hk=>by rw [hZ,Below.heap_setCell _ _ _ _ (by simpa using hk),Below.heap_setCell _ _ _ _ (by simpa using hk)]
      have hb:=HYB.out.trans (hQ.out.mono HYB.out.size)
      have hbZ:Below w.heap.size w Z:=by rw [hZ];exact (hb.setCell (p:=⟨w.heap.size+1,0,none⟩) (Nat.le_succ _) _).setCell (p:=⟨w.heap.size+1,1,none⟩) (Nat.le_succ _) _
      have kD:Z.heap[D]? = some (.deferred (some [])):=(ks D (by omega)).trans zD
      refine ⟨by simp,.inl ⟨_,_,rfl,run_takeDeferred kD,?_⟩⟩
      have po:∀ k,k≠D→(Z.putObj D (.deferred none)).heap[k]? = Z.heap[k]?:=fun k hk=>World.putObj_heap_other (by omega)
      have e1:=(po (w.heap.size+1) (by omega)).trans k1
      have r2:(Z.putObj D (.deferred none)).cell? ⟨w.heap.size+1,0,none⟩ = some (.map (some (w.heap.size+1+1))):=by simp [World.cell?,e1]
      have r3:(Z.putObj D (.deferred none)).cell? ⟨w.heap.size+1,1,none⟩ = some (.map (some (w.heap.size+1+1+1))):=by simp [World.cell?,e1]
      refine ⟨.agg #[.map (some (w.heap.size+1+1)),.map (some (w.heap.size+1+1+1))],by simp [results,Tryz.results58,go_sem,r2,r3],_,_,rfl,by omega,by omega,(po _ (by omega)).trans ((ks _ (by omega)).trans z2),(po _ (by omega)).trans ((ks _ (by omega)).trans z3),below_put hbZ (by omega) _⟩
end
section
open Go.RowKit Lx
theorem run_look {P:Program} {T kt et:TypeId} (hm:P.underlying T = some (.map kt et)) (hk:P.underlying kt = some .string) {W:World} {r clock:Nat} {es:Array MapEntry} (hb:W.heap[r]? = some (.map es clock)) (s:ByteArray) {z:Value} (hz:∀ W,(zeroValue et).run P W = .ok z W)
    {a:Option (Nat × Value)} (hf:Instr.findNow .string (.string s) es.toList 0 = some a) (ok:Bool) :
    (Instr.lookup T (.map (some r)) (.string s) ok).run P W = .ok (match a with | some x=>(if ok then .tuple #[x.2,.bool true] else x.2) | none=>(if ok then .tuple #[z,.bool false] else z)) W:=by
  have hc:∀ e,(Instr.checkKey e 10000 kt (.string s)).run P W = .ok () W:=fun e=>MapKept.run_checkKey (k:=.string s) hk (by simp [MapKept.IsKey]) e 9999
  cases a with
  | none=>cases ok <;> simp [Instr.lookup,run_underlying hm,MapKept.run_getObj_map hb,hc,MapKept.run_findKey hk hf,hz,Result.andThen]
  | some x=>cases ok <;> simp [Instr.lookup,run_underlying hm,MapKept.run_getObj_map hb,hc,MapKept.run_findKey hk hf,Result.andThen]
def oneMap:Obj:=.map #[{ key:=.string (str [109]),val:=.int .i64 0,born:=0 }] 1
theorem zero_int (W:World):(zeroValue 3).run Tryz.prog W = .ok (.int .i64 0) W:=Tryz.zeroValue3 W
theorem zero_var (W:World):(zeroValue 36).run Tryz.prog W = .ok (.agg #[.string ⟨#[]⟩,.int .i64 0,.int .i64 0,.int .i64 0]) W:=Tryz.zeroValue36 W
def FiI (w:World) (i:Value) (Y:World):Prop:=(i = .int .i64 0∧Y.heap[w.heap.size+1]? = some (.map #[] 0)∧Below w.heap.size w Y)∨(i = .int .i64 1∧Y.heap[w.heap.size+1]? = some oneMap∧Below w.heap.size w Y)
set_option maxHeartbeats 4000000 in
theorem firsts_any (w:World) (gd gi cd ce ci:Nat) (oe:Option Addr) (h:Hid (NmAt w gd gi (some ⟨gd,0,none⟩) oe cd ce ci)):Calls Tryz.prog 55 #[.agg #[.slice (some ⟨gd,0,none⟩) 1 cd,.slice oe 0 ce]] w fun r Y =>
    r = .returned (.map (some (w.heap.size+1)))∧Y.heap[w.heap.size+1]? = some oneMap∧Below w.heap.size w Y:=by
  have hmm:=@run_makeMap Tryz.prog
  have HB0:=hid (((Below.refl w.heap.size w).alloc (Nat.le_refl _) (.cells #[.slice (some ⟨gd,0,none⟩) 1 cd,.slice oe 0 ce] 25)).alloc (by simp) (.map #[] 0))
  have HM0:Hid (((w.alloc (.cells #[.slice (some ⟨gd,0,none⟩) 1 cd,.slice oe 0 ce] 25)).alloc (.map #[] 0)).heap[w.heap.size+1]? = some (.map #[] 0)):=hid (al_new (by simp))
  go_enter Tryz.func55,Tryz.ntmps55
  go_wp2_with fail
  go_loopw [12] (fun i wr=>∃ j:Nat,i = .int .i64 j∧Hid (FiI w (.int .i64 j) wr)) (fun i _=>1 - litLen i)
  case atStart=>exact ⟨0,rfl,hid (.inl ⟨rfl,HM0.out,HB0.out⟩)⟩
  case round =>
    clear hmm
    obtain ⟨j,rfl,hF⟩:=hrel
    rcases hF.out with ⟨hj,hm,hb⟩ | ⟨hj,hm,hb⟩
    · obtain rfl:j = 0:=by injection hj with _ e;omega
      obtain ⟨_,k0,k1,k2,k3,k4,k5,k6,_,_,_,_,_,_,_,_,_,_,_,_⟩:=h.out.below hb
      obtain ⟨W2,hW2⟩:∃ W2,W2 = wr.alloc (.cells #[.int .i64 3,.string (str [109]),.slice none 0 0,.slice (some ⟨gi,0,none⟩) 1 ci,.int .i64 0,.int .i64 0,.int .i64 0] 44):=⟨_,rfl⟩
      have hm2:W2.heap[w.heap.size+1]? = some (.map #[] 0):=by rw [hW2];exact al_old hm
      have lk:=run_look (P:=Tryz.prog) Tryz.underlying101 Tryz.underlying9 hm2 (str [109]) zero_int (a:=none) rfl true
      have up:=run_mapUpdate_first (P:=Tryz.prog) W2 101 9 3 (w.heap.size+1) 0 (str [109]) (.int .i64 0) Tryz.underlying101 Tryz.underlying9 hm2
      dsimp only [if_true] at lk
      have HW2:=hid hW2
      have HM2:=hid hm2
      have HBW:=hid hb
      clear hj hm hb hm2 hF
      rw [hW2] at lk up
      clear hW2
      go_wp2_with fail
      have hl:=lt_of_heap HM2.out
      have hp:FiI w (.int .i64 1) (W2.putObj (w.heap.size+1) oneMap):=.inr ⟨rfl,World.putObj_heap_same hl,below_put (HBW.out.trans ((show Below wr.heap.size wr W2 by rw [HW2.out];exact (Below.refl _ _).alloc (Nat.le_refl _) _).mono HBW.out.size)) (by omega) _⟩
      rw [HW2.out] at hp
      exact ⟨⟨1,rfl,hid hp⟩,by simp [litLen]⟩
    · obtain rfl:j = 1:=by injection hj with _ e;omega
      have HX:=hid (show _∧_ from ⟨hm,hb⟩)
      clear hj hm hb hF
      go_wp2_with fail
      go_ret
      exact ⟨rfl,HX.out.1,HX.out.2⟩
end
section
open Go.RowKit Lx
set_option maxHeartbeats 2000000 in
theorem wrongDecls_any (o1 o2:Option Addr) (n1 c1 n2 c2 mb:Nat) (w:World):Calls Tryz.prog 56 #[.agg #[.slice o1 n1 c1,.slice o2 n2 c2],.map (some mb)] w fun r w'=>r = .returned (.func (.func 87) #[] #[.pointer (some ⟨w.heap.size,0,none⟩),.pointer (some ⟨w.heap.size+1,0,none⟩)]) ∧
    (w.alloc (.cells #[.slice o1 n1 c1,.slice o2 n2 c2] 25)).alloc (.cells #[.map (some mb)] 101) = w':=by
  go_enter Tryz.func56,Tryz.ntmps56
  go_wp2_with fail
  go_ret
  exact ⟨rfl,rfl⟩
theorem oneMap_self:(str [109] == str [109]) = true:=(MapKept.bytes_beq _ _).2 rfl
def DcI (i h:Value):Prop:=(i = .int .i64 0∧h = .int .i64 0)∨(i = .int .i64 1∧h = .int .i64 1)
set_option maxHeartbeats 4000000 in
theorem wrongDecls_none (n:Nat) (w:World) (gd gi cd ce ci:Nat) (oe:Option Addr) (h0:NmAt w gd gi (some ⟨gd,0,none⟩) oe cd ce ci) (B C mb:Nat) (hB:w.heap[B]? = some (.cells #[.slice (some ⟨gd,0,none⟩) 1 cd,.slice oe 0 ce] 25 (0,0))) (hC:w.heap[C]? = some (.cells #[.map (some mb)] 101 (0,0))) (hm:w.heap[mb]? = some oneMap) :
    NoneY Fence.wide n Tryz.prog 87 #[.pointer (some ⟨B,0,none⟩),.pointer (some ⟨C,0,none⟩)] w:=by
  intro l W hW
  refine callsIn_wide.2 ?_
  have H0:=hid (h0.below hW)
  have HX:=hid (show _∧_∧_ from ⟨(hW.block _ (lt_of_heap hB)).trans hB,(hW.block _ (lt_of_heap hC)).trans hC,(hW.block _ (lt_of_heap hm)).trans hm⟩)
  clear h0 hB hC hm hW
  change Calls Tryz.prog 87 #[.func (.yield l) #[] #[],.pointer (some ⟨B,0,none⟩),.pointer (some ⟨C,0,none⟩)] W _
  obtain ⟨x1,x2,x3⟩:=HX.out
  have g0:W.cell? ⟨B,0,none⟩ = some (.slice (some ⟨gd,0,none⟩) 1 cd):=by simp [World.cell?,x1]
  clear x1 x2 x3
  go_enter Tryz.func87,Tryz.ntmps87
  go_wp2_with fail
  go_loopw [4,11] (fun h i wr=>∃ j:Nat,i = .int .i64 j∧Hid (DcI i h)∧(∃ k:Int,h = .int .i64 k)∧Hid (Below W.heap.size W wr)) (fun _ i _=>1 - litLen i)
  case atStart=>exact ⟨0,rfl,hid (.inl ⟨rfl,rfl⟩),⟨0,rfl⟩,hid (Below.refl _ _)⟩
  case round =>
    obtain ⟨j,rfl,hF,⟨k,rfl⟩,hQ⟩:=hrel
    rcases hF.out with ⟨hj,hk⟩ | ⟨hj,hk⟩
    · obtain rfl:j = 0:=by injection hj with _ e;omega
      obtain rfl:k = 0:=by injection hk
      clear hj hk hF
      obtain ⟨_,k0,k1,k2,k3,k4,k5,k6,_,_,_,_,_,_,_,_,_,_,_,_⟩:=H0.out.below hQ.out
      obtain ⟨x1,x2,x3⟩:=HX.out
      obtain ⟨W2,hW2⟩:∃ W2,W2 = wr.alloc (.cells #[.int .i64 3,.string (str [109]),.slice none 0 0,.slice (some ⟨gi,0,none⟩) 1 ci,.int .i64 0,.int .i64 0,.int .i64 0] 44):=⟨_,rfl⟩
      have hm2:W2.heap[mb]? = some oneMap:=by rw [hW2];exact al_old ((hQ.out.block _ (lt_of_heap x3)).trans x3)
      have g2:W2.cell? ⟨C,0,none⟩ = some (.map (some mb)):=by
        have:W2.heap[C]? = some (.cells #[.map (some mb)] 101 (0,0)):=by rw [hW2];exact al_old ((hQ.out.block _ (lt_of_heap x2)).trans x2)
        simp [World.cell?,this]
      have lk:=run_look (P:=Tryz.prog) Tryz.underlying101 Tryz.underlying9 hm2 (str [109]) zero_int (a:=some (0,.int .i64 0)) (by simp [Instr.findNow,Instr.sameNow,oneMap_self]) false
      dsimp only [if_true] at lk
      simp only [Bool.false_eq_true,if_false] at lk
      rw [hW2] at lk g2
      clear hW2 hm2 x1 x2 x3 g0
      go_wp2_with fail
      exact ⟨⟨1,rfl,hid (.inr ⟨rfl,rfl⟩),⟨1,rfl⟩,hid (hQ.out.alloc hQ.out.size _)⟩,by simp [litLen]⟩
    · obtain rfl:j = 1:=by injection hj with _ e;omega
      obtain rfl:k = 1:=by injection hk
      clear hj hk hF
      go_wp2_with fail
      go_end0
      exact ⟨⟨_,rfl⟩,hQ.out⟩
end
section
open Go.RowKit Lx Go.Shelf
attribute [local go_sem] Oper.semAt_some
set_option maxHeartbeats 4000000 in
theorem isA_none (m1 m2 a n c:Nat) (s:ByteArray) (w:World) (hm:w.heap[m1]? = some (.map #[] 0)):Calls Tryz.prog 96 #[.agg #[.map (some m1),.map (some m2)],.string s,.slice (some ⟨a,0,none⟩) n c] w fun r w'=>r = .returned (.bool false)∧Below w.heap.size w w':=by
  have hm2:(w.alloc (.cells #[.map (some m1),.map (some m2)] 109)).heap[m1]? = some (.map #[] 0):=al_old hm
  have lk:=run_look (P:=Tryz.prog) Tryz.underlying106 Tryz.underlying9 hm2 s zero_var (a:=none) rfl true
  dsimp only [if_true] at lk
  have HB:=hid (((Below.refl w.heap.size w).alloc (Nat.le_refl _) (.cells #[.map (some m1),.map (some m2)] 109)).alloc (by simp) (.cells #[.string ⟨#[]⟩,.int .i64 0,.int .i64 0,.int .i64 0] 36))
  clear hm hm2
  go_enter Tryz.func96,Tryz.ntmps96
  go_wp2_with fail
  go_ret
  exact ⟨rfl,HB.out⟩
set_option maxHeartbeats 4000000 in
theorem misses_out (m1 m2:Nat) (w:World) (hm:w.heap[m1]? = some (.map #[] 0)):Calls Tryz.prog 95 #[.agg #[.map (some m1),.map (some m2)],.agg #[.int .i64 8,.string (str [120]),.int .i64 0,.int .i64 0,.int .i64 0,.slice none 0 0,.string ⟨#[]⟩,.string ⟨#[]⟩,.int .i64 13]] w fun r w'=>r = .returned (.bool true)∧Below w.heap.size w w':=by
  have CA:=hid (fun a n c W hm=>isA_none m1 m2 a n c (str [120]) W hm)
  have HM:=hid hm
  clear hm
  go_enter Tryz.func95,Tryz.ntmps95
  go_wp2_with (go_at_call 96;(with_reducible refine Calls.mono (CA.out _ _ _ _ ?_) ?_);(focus exact al_old (al_old (al_old HM.out)));(rintro e w1 ⟨rfl,hb1⟩);have HB1:=hid hb1;clear hb1)
  go_ret
  exact ⟨rfl,(((Below.refl w.heap.size w).alloc (Nat.le_refl _) _).alloc (by simp) _).alloc (by simp;omega) _ |>.trans (HB1.out.mono (by simp;omega))⟩
set_option maxHeartbeats 4000000 in
theorem taken_out (m1 m2:Nat) (k:Int) (w:World):Calls Tryz.prog 94 #[.agg #[.map (some m1),.map (some m2)],.int .i64 k,.agg #[.int .i64 8,.string (str [120]),.int .i64 0,.int .i64 0,.int .i64 0,.slice none 0 0,.string ⟨#[]⟩,.string ⟨#[]⟩,.int .i64 13]] w fun r w'=>r = .returned (.bool false)∧Below w.heap.size w w':=by
  have CM:=hid made_out
  go_enter Tryz.func94,Tryz.ntmps94
  go_wp2_with (go_at_call 64;(with_reducible refine Calls.mono (CM.out _) ?_);(rintro e w1 ⟨rfl,hb1⟩);have HB1:=hid hb1;clear hb1)
  go_ret
  exact ⟨rfl,((Below.refl w.heap.size w).alloc (Nat.le_refl _) _).alloc (by simp) _ |>.trans (HB1.out.mono (by simp;omega))⟩
set_option maxHeartbeats 4000000 in
theorem twice_nil (f:Value) (w:World) (hf:f = .func (.func 92) #[] #[]):Calls Tryz.prog 93 #[.slice none 0 0,f] w fun r w'=>r = .returned (.bool false)∧Below w.heap.size w w':=by
  subst hf
  have hmm:=@run_makeMap Tryz.prog
  obtain ⟨V,hV⟩:∃ V,V = w.alloc (.map #[] 0):=⟨_,rfl⟩
  have hm:V.heap[w.heap.size]? = some (.map #[] 0):=by rw [hV];exact al_new rfl
  have HB:Hid (Below w.heap.size w V):=hid (by rw [hV];exact (Below.refl w.heap.size w).alloc (Nat.le_refl _) (.map #[] 0))
  have ln:=run_len_map (P:=Tryz.prog) V 164 3 w.heap.size #[] 0 (by kernel_rfl) hm
  have ln' : (Builtin.len_ #[164] 3 #[.map (some w.heap.size)]).run Tryz.prog V = .ok (.int .i64 0) V:=ln
  clear ln hm
  go_enter Tryz.func93,Tryz.ntmps93
  go_wp2_with fail
  rw [← hV]
  clear hV hmm
  go_loopw [11] (fun i wr=>i = .int .i64 0∧wr = V) (fun _ _=>0)
  case atStart=>exact ⟨rfl,rfl⟩
  case round =>
    obtain ⟨rfl,rfl⟩:=hrel
    go_wp2_with fail
    go_ret
    exact ⟨rfl,HB.out⟩
end
section
open Go.RowKit Lx Go.Shelf
attribute [local go_sem] Oper.semAt_some
theorem After.refl (B:Nat) (X Z:World):After B X Z Z:=⟨rfl,rfl,rfl,Nat.le_refl _,fun _ _ _=>rfl⟩
set_option maxHeartbeats 2000000 in
theorem wrongItems_any (o o2:Option Addr) (n c n2 c2 m1 m2:Nat) (k t e p:Int) (nm:ByteArray) (w:World):Calls Tryz.prog 59 #[.agg #[.int .i64 k,.string nm,.slice o n c,.slice o2 n2 c2,.int .i64 t,.int .i64 e,.int .i64 p],.agg #[.map (some m1),.map (some m2)]] w fun r w' =>
    r = .returned (.func (.func 91) #[] #[.pointer (some ⟨w.heap.size,0,none⟩),.pointer (some ⟨w.heap.size+1,0,none⟩)])∧(w.alloc (.cells #[.int .i64 k,.string nm,.slice o n c,.slice o2 n2 c2,.int .i64 t,.int .i64 e,.int .i64 p] 44)).alloc (.cells #[.map (some m1),.map (some m2)] 109) = w':=by
  go_enter Tryz.func59,Tryz.ntmps59
  go_wp2_with fail
  go_ret
  exact ⟨rfl,rfl⟩
def WiI (M:Nat→Prop) (R:World→World→Prop) (W:World) (i:Value) (Y:World):Prop:=(i = .int .i64 0∧Below W.heap.size W Y)∨(i = .int .i64 1∧∃ X,Below W.heap.size W X∧R X Y∧Cons M X Y)
set_option maxHeartbeats 8000000 in
theorem wrongItems_one (n:Nat) (w:World) (B C gi ci m1 m2:Nat) (M:Nat→Prop) (hB:NmBox w B gi ci) (hI:NmIt w gi) (hC:w.heap[C]? = some (.cells #[.map (some m1),.map (some m2)] 109 (0,0))) (hm:w.heap[m1]? = some (.map #[] 0)) :
    OneY Fence.wide n Tryz.prog 91 #[.pointer (some ⟨B,0,none⟩),.pointer (some ⟨C,0,none⟩)] #[.int .i64 13] M w:=by
  intro l W R hW hY
  have HB:=hid (hB.on hW)
  have HI:=hid (hI.on hW)
  have HC:=hid ((hW.block _ (lt_of_heap hC)).trans hC)
  have HM:=hid ((hW.block _ (lt_of_heap hm)).trans hm)
  have HY:=hid (fun X hX=>YieldAt.deep (F:=Fence.wide) rfl 3 (hY X hX))
  clear hB hI hC hm hY hW
  have key:CallsIn Fence.wide 4 Tryz.prog 91 #[.func (.yield l) #[] #[],.pointer (some ⟨B,0,none⟩),.pointer (some ⟨C,0,none⟩)] W fun e Y=>(∃ u,e = .returned u)∧∃ X Z,Below W.heap.size W X∧R X Z∧Cons M X Z∧After W.heap.size X Z Y:=by
    obtain ⟨b0,b1,b2,b3,b4,b5,b6⟩:=HB.out.c
    have TN:=hid (fun W=>twice_nil (.func (.func 92) #[] #[]) W rfl)
    refine callsIn_of_wp Tryz.func91 rfl trivial ?_ rfl
    simp only [Tryz.ntmps91,List.size_toArray,List.length_cons,List.length_nil,Nat.reduceAdd,Nat.reduceSub,Array.replicate_succ,Array.replicate_zero,List.push_toArray,List.append_toArray,List.nil_append,List.cons_append]
    gi_wp2_with (refine ⟨trivial,?_⟩;gi_at_call 93;((with_reducible refine (callsIn_wide.2 (TN.out _)).mono ?_);rintro e w1 ⟨rfl,hb1⟩;have HB1:=hid hb1;obtain ⟨c0,c1,c2,c3,c4,c5,c6⟩:=(HB.out.on hb1).c;clear hb1))
    refine ⟨fun _ h=>(by cases h),?_⟩
    gi_wp2
    clear b0 b1 b2 b3 b4 b5 b6 c0 c1 c2 c3 c4 c5 c6
    gi_loopw [21] (fun i wr=>∃ j:Nat,i = .int .i64 j∧Hid (WiI M R W (.int .i64 j) wr)) (fun i _=>1 - litLen i)
    case atStart=>exact ⟨0,rfl,hid (.inl ⟨rfl,HB1.out⟩)⟩
    case round =>
      obtain ⟨j,rfl,hF⟩:=hrel
      rcases hF.out with ⟨hj,hb⟩ | ⟨hj,hx⟩
      · obtain rfl:j = 0:=by injection hj with _ e;omega
        clear hj hF
        obtain ⟨i0,i1,i2,i3,i4,i5,i6,i7,i8⟩:=HI.out.on hb
        obtain ⟨W2,hW2⟩:∃ W2,W2 = wr.alloc (.cells #[.int .i64 8,.string (str [120]),.int .i64 0,.int .i64 0,.int .i64 0,.slice none 0 0,.string ⟨#[]⟩,.string ⟨#[]⟩,.int .i64 13] 62):=⟨_,rfl⟩
        have hb2:Below wr.heap.size wr W2:=by rw [hW2];exact (Below.refl _ _).alloc (Nat.le_refl _) _
        have HBX:Hid (ItB W2 wr.heap.size 8 (str [120]) 13):=hid (by unfold ItB;rw [hW2];exact World.alloc_heap_new _ _)
        have HB2:=hid (hb.trans (hb2.mono hb.size))
        have sc:∀ (Y:World),Below W.heap.size W Y→Y.cell? ⟨C,0,none⟩ = some (.map (some m1))∧Y.cell? ⟨C,1,none⟩ = some (.map (some m2)):=fun Y h=>by
          have:=(h.block _ (lt_of_heap HC.out)).trans HC.out
          exact ⟨by simp [World.cell?,this],by simp [World.cell?,this]⟩
        have it:∀ (Y:World),Below W2.heap.size W2 Y→ItB Y wr.heap.size 8 (str [120]) 13:=fun Y h=>(h.block _ (lt_of_heap HBX.out)).trans HBX.out
        obtain ⟨s0,s1⟩:=sc _ HB2.out
        have SC:=hid sc
        have IT:=hid it
        have HW2:=hid hW2
        have TK:=hid (taken_out m1 m2 0)
        have MS:=hid (fun W hm=>misses_out m1 m2 W hm)
        rw [hW2] at s0 s1
        clear sc it hb2 hb hW2
        gi_wp2_with (first
          | (refine ⟨trivial,?_⟩;gi_at_call 94;((with_reducible refine (callsIn_wide.2 (TK.out _)).mono ?_);rintro e w2 ⟨rfl,hb2⟩;rw [← HW2.out] at hb2;have HBa:=hid (HB2.out.trans (hb2.mono HB2.out.size));obtain ⟨s2,s3⟩:=SC.out _ HBa.out;obtain ⟨x0,x1,x2,x3,x4,x5,x6,x7,x8,_⟩:=(IT.out _ hb2).cells;have HBb:=hid hb2;clear hb2))
          | (refine ⟨trivial,?_⟩;gi_at_call 95;((with_reducible refine (callsIn_wide.2 (MS.out _ ((HBa.out.block _ (lt_of_heap HM.out)).trans HM.out))).mono ?_);rintro e w3 ⟨rfl,hb3⟩;have HBc:=hid (HBa.out.trans (hb3.mono HBa.out.size));have x8':=(IT.out _ (HBb.out.trans (hb3.mono HBb.out.size))).cells.c8;obtain ⟨fn,tmps,assign,body,hy,hR⟩:=HY.out w3 HBc.out;have hy' : (Instr.yield l #[.int .i64 13]).run Tryz.prog w3 = .ok (.round l fn tmps assign body) w3:=hy;have HR:=hid hR;clear hy hR hb3)))
        refine HR.out.mono ?_
        rintro e W' ⟨rfl,hr,hc⟩
        have HX:=hid (show WiI M R W (.int .i64 1) W' from .inr ⟨rfl,w3,HBc.out,hr,hc⟩)
        clear hr hc x0 x1 x2 x3 x4 x5 x6 x7 x8 x8' s0 s1 s2 s3 i0 i1 i2 i3 i4 i5 i6 i7 i8 hy'
        gi_wp2
        go_roundw
        case rel=>exact ⟨1,rfl,HX⟩
        case measure=>simp [litLen]
      · obtain rfl:j = 1:=by injection hj with _ e;omega
        have HX:=hid hx
        clear hj hF hx
        gi_wp2
        go_end0
        obtain ⟨X,h1,h2,h3⟩:=HX.out
        exact ⟨⟨_,rfl⟩,X,wr,h1,h2,h3,After.refl _ _ _⟩
  exact (callsIn_wide.2 (callsIn_wide.1 key))
end
section
open Go.RowKit Lx Go.Shelf
attribute [local go_sem] Oper.semAt_some
set_option maxHeartbeats 4000000 in
theorem append_roots (w:World) (B gi ci:Nat) (hB:Hid (NmBox w B gi ci)) (hI:Hid (NmIt w gi)):CallsIn Fence.wide 4 Tryz.prog 66 #[.slice none 0 0,.func (.func 67) #[] #[.pointer (some ⟨B,0,none⟩)]] w fun r Y=>r = .returned (.slice none 0 0)∧Below w.heap.size w Y:=by
  refine callsIn_of_wp_marks Tryz.func66 rfl trivial ?_ rfl
  simp only [Tryz.ntmps66,List.size_toArray,List.length_cons,List.length_nil,Nat.reduceAdd,Nat.reduceSub,Array.replicate_succ,Array.replicate_zero,List.push_toArray,List.append_toArray,List.nil_append,List.cons_append]
  gi_wp2
  obtain ⟨V,hV⟩:∃ V,V = w.alloc (.cells #[.slice none 0 0] 33):=⟨_,rfl⟩
  have v0:V.heap[w.heap.size]? = some (.cells #[.slice none 0 0] 33 (0,0)):=by rw [hV];exact al_new rfl
  have vB:Below w.heap.size w V:=by rw [hV];exact (Below.refl _ _).alloc (Nat.le_refl _) _
  rw [← hV]
  refine range_none rfl (by decide) (gf:=67) (lb:=#[.pointer (some ⟨B,0,none⟩)]) rfl trivial (enters_of Tryz.func67 (by kernel_rfl) rfl) (roots_none _ _ B gi ci (hB.out.on vB) (hI.out.on vB)) ?_
  rintro D Y hD hY hK
  have y0:=(hY.block _ (lt_of_heap v0)).trans v0
  have s0:Y.cell? ⟨w.heap.size,0,none⟩ = some (.slice none 0 0):=by simp [World.cell?,y0]
  have hz:=lt_of_heap v0
  have HB:=hid (vB.trans (hY.mono vB.size))
  have HK:=hid hK
  clear hV v0 vB hY y0 hK
  gi_wp2
  refine ⟨by simp,.inl ⟨_,_,rfl,run_takeDeferred HK.out,?_⟩⟩
  exact ⟨_,results_tmp (t:=4) (by kernel_rfl) _ _ _,rfl,below_put HB.out (by omega) _⟩
set_option maxHeartbeats 2000000 in
theorem collect_roots (w:World) (B gi ci:Nat) (hB:Hid (NmBox w B gi ci)) (hI:Hid (NmIt w gi)):Calls Tryz.prog 36 #[.func (.func 67) #[] #[.pointer (some ⟨B,0,none⟩)]] w fun r Y=>r = .returned (.slice none 0 0)∧Below w.heap.size w Y:=by
  have C:=hid (callsIn_wide.1 (append_roots w B gi ci hB hI))
  go_enter Tryz.func36,Tryz.ntmps36
  go_wp2_with (go_at_call 66;((with_reducible refine C.out.mono ?_);rintro e w1 ⟨rfl,hb1⟩;have HB1:=hid hb1;clear hb1))
  go_ret
  exact ⟨rfl,HB1.out⟩
set_option maxHeartbeats 2000000 in
theorem walker_any (o:Option Addr) (n c:Nat) (oe:Option Addr) (ce:Nat) (w:World):Calls Tryz.prog 57 #[.agg #[.slice o n c,.slice oe 0 ce]] w fun r Y=>∃ E,r = .returned (.func (.func 88) #[] #[.pointer (some ⟨w.heap.size,0,none⟩),.pointer (some ⟨E,0,none⟩)])∧w.heap.size≤E∧Y.heap[w.heap.size]? = some (.cells #[.slice o n c,.slice oe 0 ce] 25 (0,0))∧Below w.heap.size w Y:=by
  have hmk:∀ w,(Instr.makeSlice 33 (.int .i64 0) (.int .i64 0)).run Tryz.prog w = .ok (.slice (some ⟨w.heap.size,0,none⟩) 0 0) (w.alloc (.cells #[] 3)):=fun _=>by kernel_rfl
  go_enter Tryz.func57,Tryz.ntmps57
  go_wp2_with fail
  go_ret
  exact ⟨_,rfl,by omega,al_old (al_old (al_new rfl)),(((Below.refl w.heap.size w).alloc (Nat.le_refl _) _).alloc (by simp) _).alloc (by simp;omega) _⟩
set_option maxHeartbeats 2000000 in
theorem walker1_any (P E:Nat) (k:Int) (w:World):Calls Tryz.prog 88 #[.int .i64 k,.pointer (some ⟨P,0,none⟩),.pointer (some ⟨E,0,none⟩)] w fun r Y=>r = .returned (.func (.func 89) #[] #[.pointer (some ⟨P,0,none⟩),.pointer (some ⟨w.heap.size,0,none⟩),.pointer (some ⟨E,0,none⟩)])∧w.alloc (.cells #[.int .i64 k] 3) = Y:=by
  go_enter Tryz.func88,Tryz.ntmps88
  go_wp2_with fail
  go_ret
  exact ⟨rfl,rfl⟩
set_option maxHeartbeats 4000000 in
theorem walk_none (n:Nat) (w:World) (P E K gd gi cd ce ci:Nat) (oe:Option Addr) (h0:NmAt w gd gi (some ⟨gd,0,none⟩) oe cd ce ci) (hP:w.heap[P]? = some (.cells #[.slice (some ⟨gd,0,none⟩) 1 cd,.slice oe 0 ce] 25 (0,0))) (hK:w.heap[K]? = some (.cells #[.int .i64 0] 3 (0,0))) :
    NoneY Fence.wide n Tryz.prog 89 #[.pointer (some ⟨P,0,none⟩),.pointer (some ⟨K,0,none⟩),.pointer (some ⟨E,0,none⟩)] w:=by
  intro l W hW
  refine callsIn_wide.2 ?_
  have H0:=hid (h0.below hW)
  have x1:=(hW.block _ (lt_of_heap hP)).trans hP
  have x2:=(hW.block _ (lt_of_heap hK)).trans hK
  have g0:W.cell? ⟨P,0,none⟩ = some (.slice (some ⟨gd,0,none⟩) 1 cd):=by simp [World.cell?,x1]
  have g1:W.cell? ⟨K,0,none⟩ = some (.int .i64 0):=by simp [World.cell?,x2]
  obtain ⟨_,k0,k1,k2,k3,k4,k5,k6,_,_,_,_,_,_,_,_,_,_,_,_⟩:=H0.out
  have RA:=hid (roots_any (.int .i64 3) (.string (str [109])) (.slice none 0 0) (.slice (some ⟨gi,0,none⟩) 1 ci) (.int .i64 0) (.int .i64 0) (.int .i64 0) W ⟨_,_,_,_,_,_,_,_,_,_,_,rfl,rfl,rfl,rfl,rfl,rfl,rfl⟩)
  have CR:=hid (collect_roots (W.alloc (.cells #[.int .i64 3,.string (str [109]),.slice none 0 0,.slice (some ⟨gi,0,none⟩) 1 ci,.int .i64 0,.int .i64 0,.int .i64 0] 44)) W.heap.size gi ci (hid (al_new rfl)) (hid (H0.out.it.on ((Below.refl _ _).alloc (Nat.le_refl _) _))))
  clear h0 hP hK hW x1 x2
  change Calls Tryz.prog 89 #[.func (.yield l) #[] #[],.pointer (some ⟨P,0,none⟩),.pointer (some ⟨K,0,none⟩),.pointer (some ⟨E,0,none⟩)] W _
  go_enter Tryz.func89,Tryz.ntmps89
  go_wp2_with (first
    | (go_at_call 37;((with_reducible refine RA.out.mono ?_);rintro e w1 ⟨rfl,rfl⟩))
    | (go_at_call 36;((with_reducible refine CR.out.mono ?_);rintro e w2 ⟨rfl,hb2⟩;have HB2:=hid (((Below.refl W.heap.size W).alloc (Nat.le_refl _) _).trans (hb2.mono (by simp)));clear hb2)))
  clear g0 g1 k0 k1 k2 k3 k4 k5 k6 RA CR
  go_loopw [5] (fun v wr=>v = .slice none 0 0∧wr = w2) (fun _ _=>0)
  case atStart=>exact ⟨rfl,rfl⟩
  case round =>
    obtain ⟨rfl,rfl⟩:=hrel
    go_wp2_with fail
    go_end0
    exact ⟨⟨_,rfl⟩,HB2.out⟩
end
section
open Go.RowKit Go.Shelf
open Classical in
theorem loop_once {F:Fence} {n:Nat} {P:Program} {c:Code} {Q:Exit→Act→World→Prop} {a:Act} {w:World}
    (h:c.wpIn F n P (Exit.then (fun a1 w1=>c.wpIn F n P (Exit.then (fun _ _=>False) Q) a1 w1) Q) a w):(Code.loop c).wpIn F n P Q a w:=by
  refine wpIn_loop (fun a' w'=>(a' = a∧w' = w)∨c.wpIn F n P (Exit.then (fun _ _=>False) Q) a' w') (fun a' w'=>if c.wpIn F n P (Exit.then (fun _ _=>False) Q) a' w' then 0 else 1) (.inl ⟨rfl,rfl⟩) ?_
  intro a' w' hI
  have last:c.wpIn F n P (Exit.then (fun _ _=>False) Q) a' w'→c.wpIn F n P (Exit.then (fun a1 w1=>((a1 = a∧w1 = w)∨c.wpIn F n P (Exit.then (fun _ _=>False) Q) a1 w1)∧(if c.wpIn F n P (Exit.then (fun _ _=>False) Q) a1 w1 then 0 else 1) < (if c.wpIn F n P (Exit.then (fun _ _=>False) Q) a' w' then 0 else 1)) Q) a' w':=fun hl=>by
    refine wpIn_mono hl ?_
    intro e a1 w1 h1
    cases e with
    | normal=>exact h1.elim
    | ret=>exact h1
    | exit id=>exact h1
    | goto t=>exact h1
    | panic ch=>exact h1
    | outgrown=>exact h1
  by_cases hl:c.wpIn F n P (Exit.then (fun _ _=>False) Q) a' w'
  · exact last hl
  · rcases hI with ⟨rfl,rfl⟩ | hI
    · refine wpIn_mono h ?_
      intro e a1 w1 h1
      cases e with
      | normal =>
        have h2:c.wpIn F n P (Exit.then (fun _ _=>False) Q) a1 w1:=h1
        exact ⟨.inr h2,by rw [if_pos h2,if_neg hl];omega⟩
      | ret=>exact h1
      | exit id=>exact h1
      | goto t=>exact h1
      | panic ch=>exact h1
      | outgrown=>exact h1
    · exact absurd hI hl
def markL (Ds:List Nat):List Deferred:=Ds.map fun D=>{ target:=.collected D,args:=#[] }
theorem leaves_marks {F:Fence} {n:Nat} {P:Program} {fn:Func} {tmps:Array Value} {R:Ending→World→Prop} {v:Value} (hres:∀ w,(results fn tmps).run P w = .ok v w):∀ (Ds:List Nat) (w:World),Ds.Nodup→(∀ D∈Ds,w.heap[D]? = some (.deferred (some []))) →
    (∀ w',w'.os = w.os→w'.tape = w.tape→w'.output = w.output→w'.heap.size = w.heap.size→(∀ k,k ∉ Ds→w'.heap[k]? = w.heap[k]?)→R (.returned v) w')→LeavesInM F n P fn tmps R (markL Ds) .returning w
  | [],w,_,_,h=>⟨v,hres w,h w rfl rfl rfl rfl fun _ _=>rfl⟩
  | D :: Ds,w,hnd,hall,h=>by
    have h2:=hall D (List.mem_cons_self ..)
    have hd:=List.nodup_cons.1 hnd
    have hg:=grownBy_putObj' w D (.deferred none)
    refine ⟨by simp,.inl ⟨D,_,rfl,run_takeDeferred h2,leaves_marks hres Ds _ hd.2 (fun D' hD'=>?_) fun w' e1 e2 e3 e4 e5=>h w' (e1.trans hg.os) (e2.trans hg.tape) (e3.trans hg.output) (e4.trans World.putObj_size) fun k hk=>?_⟩⟩
    · have hne:D'≠D:=fun e=>hd.1 (e ▸ hD')
      exact (World.putObj_heap_other hne).trans (hall D' (List.mem_cons_of_mem _ hD'))
    · have hk1:k≠D:=fun e=>hk (e ▸ List.mem_cons_self ..)
      exact (e5 k (fun hm=>hk (List.mem_cons_of_mem _ hm))).trans (World.putObj_heap_other hk1)
end
end Go.Proofs.YtdlmfeflinbbjaaGreat
