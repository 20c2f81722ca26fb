import Derived.Test.YtdlmfeflinbbjaaGreatNmJK
import Derived.Test.YtdlmfeflinbbjaaGreatAstAppend
import Derived.StillTailTactics
import Derived.Deep.AppendLies
import Derived.Deep.RegionLaw
namespace Go.Proofs.YtdlmfeflinbbjaaGreat
open Go.Lib (hid)
section
open Go.RowKit Lx Go.Shelf
attribute [local go_sem] Oper.semAt_some
def hasEk (k:Int):Bool:=decide (k = 1) || decide (k = 2) || decide (k = 3) || decide (k = 4) || decide (k = 5)
def hasFk (k:Int):Bool:=decide (k = 2) || decide (k = 3) || decide (k = 5) || decide (k = 7)
def rootsX (x:It):List Int:=(if hasEk x.kind = true then [x.e] else []) ++ (if hasFk x.kind = true then [x.f] else [])
def rootsI (l:List It):List Int:=l.flatMap rootsX
def rootsN (d:De):List Int:=rootsI d.items ++ (if d.kind = 1∨d.kind = 2 then [d.e] else [])
theorem rootsI_take (l:List It) (c:Nat) (x:It) (h:l[c]? = some x):rootsI (l.take (c+1)) = rootsI (l.take c) ++ rootsX x:=by
  unfold rootsI
  rw [List.take_add_one,h]
  simp
theorem rootsI_pre (l:List It) (c:Nat):rootsI (l.take c) <+: rootsI l:=by
  refine ⟨rootsI (l.drop c),?_⟩
  unfold rootsI
  rw [← List.flatMap_append,List.take_append_drop]
theorem rootsI_len (l:List It):(rootsI l).length≤2*l.length:=by
  induction l with
  | nil=>simp [rootsI]
  | cons x l ih =>
    have e:rootsI (x :: l) = rootsX x ++ rootsI l:=by simp [rootsI]
    have h:(rootsX x).length≤2:=by unfold rootsX;split <;> split <;> simp
    rw [e,List.length_append,List.length_cons]
    omega
structure Kept2 (M:Nat→Prop) (rw:World→Option Nat) (w X:World):Prop where
  kept:Kept M rw w X
  lt:∀ k,rw X = some k→k < X.heap.size
theorem Kept2.keep {M:Nat→Prop} {rw:World→Option Nat} {w X Y:World} (h:Kept2 M rw w X) (k:KeepM M rw w.heap.size X Y):Kept2 M rw w Y :=
  ⟨h.kept.keep k,fun j hj=>by
    rcases k.2.2 j hj with e | ⟨_,e⟩
    · exact Nat.lt_of_lt_of_le (h.lt j e) k.1
    · exact e⟩
theorem Kept2.below {M:Nat→Prop} {rw:World→Option Nat} {w X Y:World} (hN:Near M rw w) (h:Kept2 M rw w X) (hb:Below X.heap.size X Y):Kept2 M rw w Y :=
  ⟨h.kept.below hN hb,fun k hk=>by
    rw [hN.same X Y fun k hk=>hb.block k (Nat.lt_of_lt_of_le hk h.kept.1)] at hk
    exact Nat.lt_of_lt_of_le (h.lt k hk) hb.size⟩
theorem Kept2.start {M:Nat→Prop} {rw:World→Option Nat} {w W:World} (hN:Near M rw w) (hb:Below w.heap.size w W):Kept2 M rw w W :=
  ⟨Kept.start hN hb,fun k hk=>by
    rw [hN.same w W fun k hk=>hb.block k hk] at hk
    exact Nat.lt_of_lt_of_le (hN.row k hk) hb.size⟩
theorem Kept2.box {M:Nat→Prop} {rw:World→Option Nat} {w X Y:World} {cs:Array Value} {T:TypeId} (hN:Near M rw w) (h:Kept2 M rw w X) (k:KeepM M rw w.heap.size (X.alloc (.cells cs T)) Y):Y.heap[X.heap.size]? = some (.cells cs T (0,0)):=by
  have h1:(X.alloc (.cells cs T)).heap[X.heap.size]? = some (.cells cs T (0,0)):=al_new rfl
  refine (k.2.1 _ (lt_of_heap h1) (fun hM=>?_) (fun e=>?_) (.inr ⟨_,h1,rfl⟩)).trans h1
  · have:=hN.old _ hM;have:=h.kept.1;omega
  · rw [hN.same X _ fun k hk=>((Below.refl X.heap.size X).alloc (Nat.le_refl _) _).block k (Nat.lt_of_lt_of_le hk h.kept.1)] at e
    have:=h.lt _ e
    omega
set_option maxHeartbeats 4000000 in
theorem nHasE_any (k:Int) (w:World):Calls Tryz.prog 68 #[.int .i64 k] w fun r w'=>r = .returned (.bool (hasEk k))∧w = w':=by
  by_cases h1:k = 1
  · subst h1;go_enter Tryz.func68,Tryz.ntmps68;go_wp2_with fail;go_ret;exact ⟨rfl,rfl⟩
  by_cases h2:k = 2
  · subst h2;go_enter Tryz.func68,Tryz.ntmps68;go_wp2_with fail;go_ret;exact ⟨rfl,rfl⟩
  by_cases h3:k = 3
  · subst h3;go_enter Tryz.func68,Tryz.ntmps68;go_wp2_with fail;go_ret;exact ⟨rfl,rfl⟩
  by_cases h4:k = 4
  · subst h4;go_enter Tryz.func68,Tryz.ntmps68;go_wp2_with fail;go_ret;exact ⟨rfl,rfl⟩
  by_cases h5:k = 5
  · subst h5;go_enter Tryz.func68,Tryz.ntmps68;go_wp2_with fail;go_ret;exact ⟨rfl,rfl⟩
  have E:=hid (show hasEk k = false by unfold hasEk;rw [decide_eq_false h1,decide_eq_false h2,decide_eq_false h3,decide_eq_false h4,decide_eq_false h5];rfl)
  have r1:(k == 1) = false:=by simpa using h1
  have r2:(k == 2) = false:=by simpa using h2
  have r3:(k == 3) = false:=by simpa using h3
  have r4:(k == 4) = false:=by simpa using h4
  have r5:(k == 5) = false:=by simpa using h5
  go_enter Tryz.func68,Tryz.ntmps68
  go_wp2_with fail
  go_ret
  exact ⟨by rw [E.out];rfl,rfl⟩
set_option maxHeartbeats 4000000 in
theorem nHasF_any (k:Int) (w:World):Calls Tryz.prog 69 #[.int .i64 k] w fun r w'=>r = .returned (.bool (hasFk k))∧w = w':=by
  by_cases h2:k = 2
  · subst h2;go_enter Tryz.func69,Tryz.ntmps69;go_wp2_with fail;go_ret;exact ⟨rfl,rfl⟩
  by_cases h3:k = 3
  · subst h3;go_enter Tryz.func69,Tryz.ntmps69;go_wp2_with fail;go_ret;exact ⟨rfl,rfl⟩
  by_cases h5:k = 5
  · subst h5;go_enter Tryz.func69,Tryz.ntmps69;go_wp2_with fail;go_ret;exact ⟨rfl,rfl⟩
  by_cases h7:k = 7
  · subst h7;go_enter Tryz.func69,Tryz.ntmps69;go_wp2_with fail;go_ret;exact ⟨rfl,rfl⟩
  have E:=hid (show hasFk k = false by unfold hasFk;rw [decide_eq_false h2,decide_eq_false h3,decide_eq_false h5,decide_eq_false h7];rfl)
  have r2:(k == 2) = false:=by simpa using h2
  have r3:(k == 3) = false:=by simpa using h3
  have r5:(k == 5) = false:=by simpa using h5
  have r7:(k == 7) = false:=by simpa using h7
  go_enter Tryz.func69,Tryz.ntmps69
  go_wp2_with fail
  go_ret
  exact ⟨by rw [E.out];rfl,rfl⟩
set_option maxHeartbeats 8000000 in
set_option maxRecDepth 100000 in
theorem roots_core (n:Nat) (d:De) (op oi:Option Addr) (capp capi bi fi np ni:Nat) (hni:Hid (d.items.length = ni)) (li' : (ni:Int)≤1000000) (M:Nat→Prop) (rw:World→Option Nat) (B:Nat) (w:World)
    (hA:Hid (Near M rw w)) (hB:Hid (Still M rw w B)) (hc:Hid (w.heap[B]? = some (.cells #[.int .i64 d.kind,.string d.name,.slice op np capp,.slice oi ni capi,.int .i64 d.type,.int .i64 d.e,.int .i64 d.pos] 44 (0,0))))
    (hoi:Hid (0 < ni→oi = some ⟨bi,fi,none⟩)) (hSi:Hid (0 < ni→Still M rw w bi))
    (hvi:Hid (∀ j,j < ni→∀ x,d.items[j]? = some x→ItAt w bi (fi+j*9) x)) (lp:Nat) (J Jx:List Int→World→Prop)
    (W:World) (hW:Hid (Below w.heap.size w W)) (hJ:Hid (∀ s X Y,J s X→X.grownBy Y none→J s Y))
    (hY:Hid (∀ pre (v:Int) W1,J pre W1→pre ++ [v] <+: rootsN d→YieldAt Fence.wide (n - 1) Tryz.prog lp #[.int .i64 v] W1 fun e W' =>
      (e = .returned (.bool true)∧J (pre ++ [v]) W'∧KeepM M rw w.heap.size W1 W')∨(e = .returned (.bool false)∧Jx (pre ++ [v]) W')))
    (h0:Hid (J [] W)) :
    CallsIn Fence.wide n Tryz.prog 67 #[.func (.yield lp) #[] #[],.pointer (some ⟨B,0,none⟩)] W fun e W'=>(∃ v,e = .returned v) ∧
      ((∃ ys:List Int,ys = rootsN d∧J ys W')∨(∃ pre:List Int,pre <+: rootsN d∧Jx pre W')):=by
  have hBW:W.heap[B]? = some (.cells #[.int .i64 d.kind,.string d.name,.slice op np capp,.slice oi ni capi,.int .i64 d.type,.int .i64 d.e,.int .i64 d.pos] 44 (0,0)):=(hW.out.block _ hB.out.1).trans hc.out
  obtain ⟨_,b0,b1,b2,b3,b4,b5,b6⟩:=seven_froz hBW
  have HK:=hid (Kept2.start hA.out hW.out)
  clear hBW b0 b1 b2 b4 b5 b6
  refine callsIn_of_wp Tryz.func67 rfl trivial ?_ rfl
  simp only [Tryz.ntmps67,List.size_toArray,List.length_cons,List.length_nil,Nat.reduceAdd,Nat.reduceSub,Array.replicate_succ,Array.replicate_zero,List.push_toArray,List.append_toArray,List.nil_append,List.cons_append]
  gi_wp2_with fail
  clear b3
  gi_loopw [8] (fun i wr=>∃ (k:Nat),i = .int .i64 k∧Hid (k≤ni)∧Hid (J (rootsI (d.items.take k)) wr)∧Hid (Kept2 M rw w wr)) (fun i _=>ni - litLen i)
  case atStart=>exact ⟨0,rfl,hid (Nat.zero_le _),(by simpa [rootsI] using h0),HK⟩
  case round =>
    clear HK
    obtain ⟨k,rfl,hk,hJq,hKq⟩:=hrel
    have kl:=hk.out
    rcases Nat.lt_or_ge k ni with hlt | hge
    · have q3:(k:Int) < (ni:Int):=by omega
      have ix:Ix 42 9 (.slice oi ni capi) bi fi k:=by
        intro W
        rw [hoi.out (by omega)]
        have h1:(k:Int) < (ni:Int):=by omega
        have h2:(k:Int)≤9223372036854775807:=by omega
        go_simp
      unfold Ix at ix
      obtain ⟨x,hx⟩:∃ x,d.items[k]? = some x:=⟨_,List.getElem?_eq_getElem (by have:=hni.out;omega)⟩
      obtain ⟨os,caps,iok,i0,i1,i2,i3,i4,i5,i6,i7,i8⟩:=it_cells (hvi.out k hlt x hx)
      have hb:=hKq.out.kept.2.2 _ (hSi.out (by omega))
      have p0:=(cell_same' hb _).trans i0
      have p1:=(cell_same' hb _).trans i1
      have p2:=(cell_same' hb _).trans i2
      have p3:=(cell_same' hb _).trans i3
      have p4:=(cell_same' hb _).trans i4
      have p5:=(cell_same' hb _).trans i5
      have p6:=(cell_same' hb _).trans i6
      have p7:=(cell_same' hb _).trans i7
      have p8:=(cell_same' hb _).trans i8
      have HX:=hid hx
      clear hx hb i0 i1 i2 i3 i4 i5 i6 i7 i8 iok
      have HIT:Hid (rootsI (d.items.take (k+1)) = rootsI (d.items.take k) ++ rootsX x):=hid (rootsI_take _ _ _ HX.out)
      have ME:=hid (fun W=>nHasE_any x.kind W)
      have MF:=hid (fun W=>nHasF_any x.kind W)
      obtain ⟨Wa,hWa⟩:∃ Wa,Wa = wr.alloc (.cells #[.int .i64 x.kind,.string x.name,.int .i64 x.type,.int .i64 x.e,.int .i64 x.f,.slice os x.states.length caps,.string x.state,.string x.next,.int .i64 x.pos] 62):=⟨_,rfl⟩
      have HJa:Hid (J (rootsI (d.items.take k)) Wa):=hid (by rw [hWa];exact hJ.out _ _ _ hJq.out (World.grownBy_alloc wr _ none))
      have HKa:Hid (Kept2 M rw w Wa):=hid (by rw [hWa];exact hKq.out.below hA.out ((Below.refl wr.heap.size wr).alloc (Nat.le_refl _) _))
      have HBX:Hid (Wa.heap[wr.heap.size]? = some (.cells #[.int .i64 x.kind,.string x.name,.int .i64 x.type,.int .i64 x.e,.int .i64 x.f,.slice os x.states.length caps,.string x.state,.string x.next,.int .i64 x.pos] 62 (0,0))):=hid (by rw [hWa];exact al_new rfl)
      have a0:Wa.cell? ⟨wr.heap.size,0,none⟩ = some (.int .i64 x.kind):=by simp [World.cell?,HBX.out]
      have a3:Wa.cell? ⟨wr.heap.size,3,none⟩ = some (.int .i64 x.e):=by simp [World.cell?,HBX.out]
      have a4:Wa.cell? ⟨wr.heap.size,4,none⟩ = some (.int .i64 x.f):=by simp [World.cell?,HBX.out]
      cases hE:hasEk x.kind with
      | false =>
        have QE:=hid hE
        rw [hE] at ME
        clear hE
        gi_wp2_with fail
        rw [← hWa]
        refine ⟨trivial,fun h=>(by cases h),(callsIn_wide.2 (ME.out _)).mono ?_⟩
        rintro e we ⟨rfl,rfl⟩
        clear hWa
        gi_wp2_with fail
        refine ⟨fun f h=>(by cases h),?_⟩
        cases hF:hasFk x.kind with
        | false =>
          have QF:=hid hF
          rw [hF] at MF
          clear hF
          have HT:Hid (rootsI (d.items.take (k+1)) = rootsI (d.items.take k)):=hid (by rw [HIT.out];unfold rootsX;rw [QE.out,QF.out];simp)
          gi_wp2_with fail
          refine ⟨trivial,fun h=>(by cases h),(callsIn_wide.2 (MF.out _)).mono ?_⟩
          rintro e wf ⟨rfl,rfl⟩
          gi_wp2_with fail
          exact ⟨⟨k+1,by go_num,hid (by omega),(by rw [HT.out];exact HJa),HKa⟩,by simp [litLen];omega⟩
        | true =>
          have QF:=hid hF
          rw [hF] at MF
          clear hF
          have HT:Hid (rootsI (d.items.take (k+1)) = rootsI (d.items.take k) ++ [x.f]):=hid (by rw [HIT.out];unfold rootsX;rw [QE.out,QF.out];simp)
          have hlen:rootsI (d.items.take k) ++ [x.f] <+: rootsN d:=by rw [← HT.out];exact (rootsI_pre _ _).trans (List.prefix_append _ _)
          obtain ⟨fn,tmps,assign,body,hy,hR⟩:=hY.out _ x.f _ HJa.out hlen
          have hy' : (Instr.yield lp #[.int .i64 x.f]).run Tryz.prog Wa = .ok (.round lp fn tmps assign body) Wa:=hy
          have HR:=hid hR
          clear hy hR hlen
          gi_wp2_with fail
          refine ⟨trivial,fun h=>(by cases h),(callsIn_wide.2 (MF.out _)).mono ?_⟩
          rintro e wf ⟨rfl,rfl⟩
          gi_wp2_with fail
          refine ⟨fun h=>(by cases h),HR.out.mono ?_⟩
          rintro e W3 (⟨rfl,hJ3,hk3⟩ | ⟨rfl,hJx3⟩)
          · have HK3:=hid (HKa.out.keep hk3)
            have HJ3:=hid hJ3
            rw [← HT.out] at HJ3
            clear hJ3 hk3
            gi_wp2_with fail
            go_roundw
            case rel=>exact ⟨k+1,by go_num,hid (by omega),HJ3,HK3⟩
            case measure=>simp [litLen];omega
          · have HJx3:=hid hJx3
            rw [← HT.out] at HJx3
            clear hJx3
            gi_wp2_with fail
            refine bodyPost_ret (results_none rfl _ _ _) rfl ?_
            exact ⟨⟨_,rfl⟩,.inr ⟨_,(rootsI_pre _ _).trans (List.prefix_append _ _),HJx3.out⟩⟩
      | true =>
        have QE:=hid hE
        rw [hE] at ME
        clear hE
        have HTE:Hid (rootsX x = [x.e] ++ (if hasFk x.kind = true then [x.f] else [])):=hid (by unfold rootsX;rw [QE.out];rfl)
        have hlen:rootsI (d.items.take k) ++ [x.e] <+: rootsN d:=by
          refine List.IsPrefix.trans ?_ ((rootsI_pre d.items (k+1)).trans (List.prefix_append _ _))
          rw [HIT.out,HTE.out,← List.append_assoc]
          exact List.prefix_append _ _
        obtain ⟨fn,tmps,assign,body,hy,hR⟩:=hY.out _ x.e _ HJa.out hlen
        have hy' : (Instr.yield lp #[.int .i64 x.e]).run Tryz.prog Wa = .ok (.round lp fn tmps assign body) Wa:=hy
        have HR:=hid hR
        clear hy hR hlen
        gi_wp2_with fail
        rw [← hWa]
        have HWA:=hid hWa
        clear hWa
        refine ⟨trivial,fun h=>(by cases h),(callsIn_wide.2 (ME.out _)).mono ?_⟩
        rintro e we ⟨rfl,rfl⟩
        gi_wp2_with fail
        refine ⟨fun h=>(by cases h),HR.out.mono ?_⟩
        rintro e W2 (⟨rfl,hJ2,hk2⟩ | ⟨rfl,hJx2⟩)
        · have HK2:=hid (HKa.out.keep hk2)
          have HJ2:=hid hJ2
          have HB2:=hid (hKq.out.box hA.out (by rw [HWA.out] at hk2;exact hk2))
          have b0:W2.cell? ⟨wr.heap.size,0,none⟩ = some (.int .i64 x.kind):=by simp [World.cell?,HB2.out]
          have b4:W2.cell? ⟨wr.heap.size,4,none⟩ = some (.int .i64 x.f):=by simp [World.cell?,HB2.out]
          clear hJ2 hk2 a0 a3 a4
          gi_wp2_with fail
          cases hF:hasFk x.kind with
          | false =>
            have QF:=hid hF
            rw [hF] at MF
            clear hF
            have HT:Hid (rootsI (d.items.take (k+1)) = (rootsI (d.items.take k) ++ [x.e])):=hid (by rw [HIT.out];unfold rootsX;rw [QE.out,QF.out];simp)
            gi_wp2_with fail
            refine ⟨trivial,fun h=>(by cases h),(callsIn_wide.2 (MF.out _)).mono ?_⟩
            rintro e wf ⟨rfl,rfl⟩
            gi_wp2_with fail
            refine ⟨fun f h=>(by cases h),?_⟩
            gi_wp2_with fail
            exact ⟨⟨k+1,by go_num,hid (by omega),(by rw [HT.out];exact HJ2),HK2⟩,by simp [litLen];omega⟩
          | true =>
            have QF:=hid hF
            rw [hF] at MF
            clear hF
            have HT:Hid (rootsI (d.items.take (k+1)) = (rootsI (d.items.take k) ++ [x.e]) ++ [x.f]):=hid (by rw [HIT.out];unfold rootsX;rw [QE.out,QF.out];simp)
            have hlen:(rootsI (d.items.take k) ++ [x.e]) ++ [x.f] <+: rootsN d:=by rw [← HT.out];exact (rootsI_pre _ _).trans (List.prefix_append _ _)
            obtain ⟨fn,tmps,assign,body,hy,hR⟩:=hY.out _ x.f _ HJ2.out hlen
            have hy' : (Instr.yield lp #[.int .i64 x.f]).run Tryz.prog W2 = .ok (.round lp fn tmps assign body) W2:=hy
            have HR:=hid hR
            clear hy hR hlen
            gi_wp2_with fail
            refine ⟨trivial,fun h=>(by cases h),(callsIn_wide.2 (MF.out _)).mono ?_⟩
            rintro e wf ⟨rfl,rfl⟩
            gi_wp2_with fail
            refine ⟨fun h=>(by cases h),HR.out.mono ?_⟩
            rintro e W3 (⟨rfl,hJ3,hk3⟩ | ⟨rfl,hJx3⟩)
            · have HK3:=hid (HK2.out.keep hk3)
              have HJ3:=hid hJ3
              rw [← HT.out] at HJ3
              clear hJ3 hk3
              gi_wp2_with fail
              go_roundw
              case rel=>exact ⟨k+1,by go_num,hid (by omega),HJ3,HK3⟩
              case measure=>simp [litLen];omega
            · have HJx3:=hid hJx3
              rw [← HT.out] at HJx3
              clear hJx3
              gi_wp2_with fail
              refine bodyPost_ret (results_none rfl _ _ _) rfl ?_
              exact ⟨⟨_,rfl⟩,.inr ⟨_,(rootsI_pre _ _).trans (List.prefix_append _ _),HJx3.out⟩⟩
        · have HJx2:=hid hJx2
          clear hJx2
          gi_wp2_with fail
          refine bodyPost_ret (results_none rfl _ _ _) rfl ?_
          exact ⟨⟨_,rfl⟩,.inr ⟨_,(by
            refine List.IsPrefix.trans ?_ ((rootsI_pre d.items (k+1)).trans (List.prefix_append _ _))
            rw [HIT.out,HTE.out,← List.append_assoc]
            exact List.prefix_append _ _),HJx2.out⟩⟩
    · obtain rfl:k = ni:=by omega
      have HJ2:=hid hJq.out
      rw [show d.items.take k = d.items by rw [← hni.out];exact List.take_length] at HJ2
      have hBr:=(hKq.out.kept.2.2 _ hB.out).trans hc.out
      obtain ⟨_,b0,b1,b2,b3,b4,b5,b6⟩:=seven_froz hBr
      clear hJq hBr b1 b2 b3 b4 b6
      have q3:¬ (k:Int) < (k:Int):=by omega
      by_cases h1:d.kind = 1
      · have HT:Hid (rootsN d = rootsI d.items ++ [d.e]):=hid (by unfold rootsN;rw [if_pos (.inl h1)])
        have z1:(d.kind == 1) = true:=by simpa using h1
        clear h1
        obtain ⟨fn,tmps,assign,body,hy,hR⟩:=hY.out _ d.e _ HJ2.out (by rw [HT.out];exact List.prefix_rfl)
        have hy' : (Instr.yield lp #[.int .i64 d.e]).run Tryz.prog wr = .ok (.round lp fn tmps assign body) wr:=hy
        have HR:=hid hR
        clear hy hR
        gi_wp2_with fail
        refine ⟨fun h=>(by cases h),HR.out.mono ?_⟩
        rintro e W3 (⟨rfl,hJ3,hk3⟩ | ⟨rfl,hJx3⟩)
        · have HJ3:=hid hJ3
          clear hJ3 hk3
          gi_wp2_with fail
          go_end0
          exact ⟨⟨_,rfl⟩,.inl ⟨_,rfl,by rw [HT.out];exact HJ3.out⟩⟩
        · have HJx3:=hid hJx3
          clear hJx3
          gi_wp2_with fail
          go_end0
          exact ⟨⟨_,rfl⟩,.inr ⟨_,(by rw [HT.out];exact List.prefix_rfl),HJx3.out⟩⟩
      by_cases h2:d.kind = 2
      · have HT:Hid (rootsN d = rootsI d.items ++ [d.e]):=hid (by unfold rootsN;rw [if_pos (.inr h2)])
        have z1:(d.kind == 1) = false:=by simpa using h1
        have z2:(d.kind == 2) = true:=by simpa using h2
        clear h1 h2
        obtain ⟨fn,tmps,assign,body,hy,hR⟩:=hY.out _ d.e _ HJ2.out (by rw [HT.out];exact List.prefix_rfl)
        have hy' : (Instr.yield lp #[.int .i64 d.e]).run Tryz.prog wr = .ok (.round lp fn tmps assign body) wr:=hy
        have HR:=hid hR
        clear hy hR
        gi_wp2_with fail
        refine ⟨fun h=>(by cases h),HR.out.mono ?_⟩
        rintro e W3 (⟨rfl,hJ3,hk3⟩ | ⟨rfl,hJx3⟩)
        · have HJ3:=hid hJ3
          clear hJ3 hk3
          gi_wp2_with fail
          go_end0
          exact ⟨⟨_,rfl⟩,.inl ⟨_,rfl,by rw [HT.out];exact HJ3.out⟩⟩
        · have HJx3:=hid hJx3
          clear hJx3
          gi_wp2_with fail
          go_end0
          exact ⟨⟨_,rfl⟩,.inr ⟨_,(by rw [HT.out];exact List.prefix_rfl),HJx3.out⟩⟩
      · have HT:Hid (rootsN d = rootsI d.items):=hid (by unfold rootsN;rw [if_neg (fun h=>h.elim h1 h2),List.append_nil])
        have z1:(d.kind == 1) = false:=by simpa using h1
        have z2:(d.kind == 2) = false:=by simpa using h2
        clear h1 h2
        gi_wp2_with fail
        go_end0
        exact ⟨⟨_,rfl⟩,.inl (by rw [HT.out];exact HJ2.out)⟩
theorem roots_stops (n:Nat) (d:De) (B:Nat) (M:Nat→Prop) (rw:World→Option Nat) (w:World) (hA:Near M rw w) (hs:DeSrc M rw w d B) (h2:d.items.length≤1000000) :
    SeqStopsK (α:=Int) Fence.wide n Tryz.prog 67 #[.pointer (some ⟨B,0,none⟩)] (fun v=>#[.int .i64 v]) (KeepM M rw w.heap.size) (fun ys=>ys = rootsN d) (fun pre=>pre <+: rootsN d) (rootsN d).length w:=by
  obtain ⟨s,t,hB,hS,⟨op,capp,bp,fp,rfl,_,_,hp1,hp2⟩,⟨oi,capi,bi,fi,rfl,_,_,hi1,hi2⟩⟩:=hs
  intro lp J Jx W hW hJ _ hY h0
  refine roots_core n d op oi capp capi bi fi _ _ (hid rfl) (by omega) M rw B w (hid hA) (hid hS) (hid hB) (hid hi1) (hid fun h=>(hi2 0 h).1) (hid fun j hj=>(hi2 j hj).2) lp J Jx W (hid hW)
    (hid fun s X Y h1 h2=>hJ s X Y none h1 h2 (fun r e=>by cases e)) (hid fun pre v W1 hj hp=>hY pre v W1 hj (by have:=hp.length_le;simp at this;omega)) (hid h0)
end
section
open Go.RowKit Lx Go.Shelf
attribute [local go_sem] Oper.semAt_some
def RInv (w:World) (pre:List Int) (W:World):Prop :=
  (∃ v',Boxed W w.heap.size 33 v'∧W.ownsRow w.heap.size 3 1 v' pre.length (pre.map intV))∧w.grownBy W none∧w.heap.size+1≤W.heap.size
theorem rinv_own (w:World):OwnFrom (w.heap.size+1) (RInv w):=by
  rintro s X Y row ⟨⟨v',hv,hr⟩,hg0,hN⟩ hg hrow
  have hne:∀ b,b < w.heap.size+1→some b≠row:=fun b hb e=>by have:=(hrow b e.symm).1;omega
  refine ⟨⟨v',hv.kept hg (hne _ (Nat.lt_succ_self _)),row_kept hr hg hrow⟩,⟨hg.os.trans hg0.os,hg.tape.trans hg0.tape,hg.output.trans hg0.output,Nat.le_trans hg0.size hg.size,fun i hi hr=>(hg.block i (Nat.lt_of_lt_of_le hi hg0.size) (hne _ (by omega))).trans (hg0.block i hi hr)⟩,Nat.le_trans hN hg.size⟩
theorem rootsN_len (d:De):(rootsN d).length≤2*d.items.length+1:=by
  unfold rootsN
  have:=rootsI_len d.items
  rw [List.length_append]
  split <;> simp <;> omega
set_option maxHeartbeats 8000000 in
set_option maxRecDepth 100000 in
theorem appendR_core (d:De) (B:Nat) (w0 w:World) (s t:Value) (hs:Hid (SlAt s d.params.length 2 (fun b o i=>∀ y,d.params[i]? = some y→PaAt w0 b o y))) (ht:Hid (SlAt t d.items.length 9 (fun b o i=>∀ y,d.items[i]? = some y→ItAt w0 b o y))) (hb:Hid (Below w0.heap.size w0 w))
    (hB:Hid (w.heap[B]? = some (.cells #[.int .i64 d.kind,.string d.name,s,t,.int .i64 d.type,.int .i64 d.e,.int .i64 d.pos] 44 (0,0)))) (hl:Hid (d.params.length≤600∧d.items.length≤600)) :
    CallsIn Fence.wide 5 Tryz.prog 66 #[.slice none 0 0,.func (.func 67) #[] #[.pointer (some ⟨B,0,none⟩)]] w fun e w'=>∃ v,e = .returned v∧w'.ownsRow w.heap.size 3 1 v (rootsN d).length ((rootsN d).map intV)∧Below w.heap.size w w':=by
  have hlen:=hid (rootsN_len d)
  refine callsIn_of_wp_marks Tryz.func66 rfl trivial ?_ rfl
  simp only [Tryz.ntmps66,List.size_toArray,List.length_cons,List.length_nil,Nat.reduceAdd,Nat.reduceSub,Array.replicate_succ,Array.replicate_zero,List.push_toArray,List.append_toArray,List.nil_append,List.cons_append]
  gi_wp2
  have bL:=hid (Boxed.new w 33 (.slice none 0 0))
  have hrow:Hid (rowOf w.heap.size (w.alloc (.cells #[.slice none 0 0] 33)) = none):=hid (rowOf_box bL.out)
  have hz:Hid (B < w.heap.size):=hid (lt_of_heap hB.out)
  have hbz:=hid hb.out.size
  have hinv:RInv w [] (w.alloc (.cells #[.slice none 0 0] 33)):=⟨⟨_,bL.out,World.ownsRow_nil _ _ _ _⟩,World.grownBy_alloc _ _ _,by simp⟩
  refine wpIn_rangeFunc_ownG (α:=Int) rfl (by decide) (gf:=67) (lb:=#[.pointer (some ⟨B,0,none⟩)]) rfl trivial (enters_of Tryz.func67 (by kernel_rfl) rfl)
    (roots_stops 4 d B (fun k=>k = w.heap.size) (rowOf w.heap.size) (w.alloc (.cells #[.slice none 0 0] 33)) ⟨fun k hk=>by rw [World.size_alloc];omega,fun k hk=>(by rw [hrow.out] at hk;cases hk),fun X Y h=>rowOf_same (h _ (by simp))⟩
      (deSrc_of (w:=w0) hs.out ht.out (hb.out.alloc hb.out.size _) (al_old hB.out) (fun k hk=>by have:=hz.out;have:=hbz.out;omega) (fun k hk=>by rw [hrow.out] at hk;cases hk)) (by have:=hl.out;omega))
    (fun h k=>h.trans k) (fun W l o o' h1 h2 h3 _=>keepM_putObj (by simp) W l o o' h1 h2 h3) (Below.refl _ _) (fun _=>rfl)
    (RInv w) (fun _ _ _=>False) (by have:=rinv_own w;simpa using this) (fun _ _ _ _ _ hs _ _=>hs) hinv
    (fun p=>{ tmps:=#[.slice none 0 0,.func (.func 67) #[] #[.pointer (some ⟨B,0,none⟩)],.pointer (some ⟨w.heap.size,0,none⟩),undef,.slice none 0 0,.int .i64 p,.func (.func 67) #[] #[.pointer (some ⟨B,0,none⟩)],.int .i64 p,undef,undef,undef,undef,undef],defers:=[] }) ?assign ?body ?done ?stop
  case assign =>
    rintro lp p W K hK
    gi_wp2
    exact hK
  case body =>
    rintro lp pre p W ⟨⟨v',hv,hr⟩,hg0,hN⟩ hlt
    have hc:=hv.cell
    have HV:=hid hv
    have HR:=hid hr
    have HG:=hid hg0
    have HN:=hid hN
    have hpl:pre.length≤1000000:=by have:=hlen.out;have:=hl.out;have h:pre.length < (rootsN d).length:=hlt;omega
    clear hv hr hg0 hN hlt
    gi_wp2_with (gi_at_builtin;refine wpListIn_append_int _ rfl _ _ rfl w.heap.size v' pre.length _ rfl (HR.out.alloc _) ⟨W.heap.size,0,none⟩ [.int .i64 p] rfl rfl (cell_one_new _ _ _) (by simp [Value.oneCell']) (by omega) (by have:=HN.out;simp;omega) ?_;intro v2 w3 hown' hgrow hr3;obtain ⟨g',cap',rfl⟩:=ownsRow_succ hown';obtain ⟨hv1,hv2,hr2,hk2,hb2⟩:=HV.out.appended (by decide) HR.out (by have:=HN.out;omega) (Nat.le_refl _) hown' hgrow;have hc1:=hv1.cell;have hf1:=hv1.frozen;have G2:=hid hgrow;have G3:=hid hr3;have G4:=hid hv2;have G5:=hid hr2;have G6:=hid hk2;have G7:=hid hb2;clear hown' hgrow hr3 hv1 hv2 hr2 hk2 hb2)
    have hsame:∀ j,j < W.heap.size→j≠w.heap.size→some j≠v'.ownBlock→(w3.setCell ⟨w.heap.size,0,none⟩ (.slice (some ⟨g',0,none⟩) (pre.length+1) cap')).heap[j]? = W.heap[j]?:=fun j hj hB hr =>
      (set_other _ _ _ _ _ hB).trans ((G2.out.block j (by simp;omega) hr).trans (heap_old _ _ _ hj))
    have hsz:=G7.out.size
    refine ⟨G6.out.from _,⟨hsz,fun j hj hB hr _=>hsame j hj hB (by rw [rowOf_box HV.out] at hr;exact Ne.symm hr),fun j hj=>?_⟩,⟨⟨_,G4.out,?_⟩,?_,Nat.le_trans HN.out hsz⟩⟩
    · rw [rowOf_box HV.out]
      have hlt:=(G5.out.lt j (by rw [rowOf_box G4.out] at hj;exact hj)).2
      rw [rowOf_box G4.out] at hj
      rcases G3.out with h | h
      · rw [h] at hj;exact .inl hj
      · rw [h] at hj
        cases hj
        exact .inr ⟨by simp,hlt⟩
    · have:=G5.out
      rw [List.length_append,List.length_singleton,List.map_append]
      exact this
    · refine ⟨G7.out.os.trans HG.out.os,G7.out.tape.trans HG.out.tape,G7.out.output.trans HG.out.output,Nat.le_trans HG.out.size hsz,fun j hj hr=>(hsame j (by have:=HN.out;omega) (by omega) (fun e=>?_)).trans (HG.out.block j hj hr)⟩
      have:=(own_lt HR.out e.symm).1
      omega
  case done =>
    rintro D ys W hD hys ⟨⟨v',hv,hr⟩,hg0,hN⟩ hK
    have hc:=hv.cell
    have HR:=hid hr
    have HG:=hid hg0
    have HK:=hid hK
    have HYS:=hid hys
    have hD' : w.heap.size≤D:=by simp at hD;omega
    clear hv hr hg0 hN hD hK hys
    gi_wp2
    refine ⟨by simp,.inl ⟨_,_,rfl,run_takeDeferred HK.out,?_⟩⟩
    refine ⟨_,results_tmp rfl _ _ _,v',rfl,?_,grown_below (grown_trans' HG.out (grownBy_putObj' W D _) hD')⟩
    have:=ownsRow_putObj HR.out (.deferred none) HK.out rfl
    rw [← HYS.out]
    exact this
  case stop =>
    rintro D c pre W _ _ h _
    exact h.elim
end
section
open Go.RowKit Lx Go.Shelf
structure GrSt (w:World) (bx:Obj) (e:TypeId) (sz:Nat) (Z:World) (v:Value) (n:Nat) (xs:List Value):Prop where
  below:Below w.heap.size w Z
  box:Z.heap[w.heap.size]? = some bx
  own:Z.ownsRow (w.heap.size+1) e sz v n xs
theorem GrSt.on {w Z Y:World} {bx:Obj} {e:TypeId} {sz n:Nat} {v:Value} {xs:List Value} (h:GrSt w bx e sz Z v n xs) (hb:Below Z.heap.size Z Y):GrSt w bx e sz Y v n xs :=
  ⟨h.below.trans (hb.mono h.below.size),(hb.block _ (lt_of_heap h.box)).trans h.box,own_same h.own fun g hg=>by
    obtain ⟨_,cur,hc⟩:=own_lt h.own hg
    exact hb.block g (lt_of_heap hc)⟩
theorem GrSt.drew {w Z:World} {bx:Obj} {e:TypeId} {sz n:Nat} {v:Value} {xs:List Value} (h:GrSt w bx e sz Z v n xs):GrSt w bx e sz Z.drew v n xs:=h.on ⟨rfl,rfl,rfl,Nat.le_refl _,fun _ _=>rfl⟩
theorem GrSt.push {w Z Y:World} {bx:Obj} {e:TypeId} {sz n:Nat} {v v' : Value} {xs news:List Value} {o:Obj} (h:GrSt w bx e sz Z v n xs) (ho:Y.ownsRow (w.heap.size+1) e sz v' (n+1) (xs ++ news)) (hg:(Z.alloc o).grownBy Y v.ownBlock):GrSt w bx e sz Y v' (n+1) (xs ++ news):=by
  have hne:∀ k,k≤w.heap.size→v.ownBlock≠some k:=fun k hk e=>by
    have:=(own_lt h.own e).1
    omega
  have hb:Below w.heap.size w (Z.alloc o):=h.below.alloc h.below.size _
  refine ⟨hb.grown hg hb.size fun k e=>by have:=(own_lt h.own e).1;omega,?_,ho⟩
  exact (hg.block _ (by rw [World.size_alloc];have:=lt_of_heap h.box;omega) (fun e=>hne _ (Nat.le_refl _) e.symm)).trans (al_old h.box)
theorem wpList_gr {w Z Z' : World} {bx:Obj} {e t:TypeId} {sz bytes n:Nat} {v:Value} {xs:List Value} {z:Value} {i:TypeInfo} (ht : Tryz.prog.underlying t = some (.slice e)) (hi : Tryz.prog.info? e = some i) (hz:i.zero = some z) (hsize:i.size = sz) (hby:i.bytes = bytes) (hzs:z.cells.size = sz) (hsz:0 < sz) (hbl:bytes≤1000)
    (h:Hid (GrSt w bx e sz Z v n xs)) (news:Array Value) (hl:news.size = sz) (h1:∀ u∈news.toList,u.oneCell' = true) (hZ:Z' = Z.alloc (.cells news e)) (hk:n≤1000000) {ops:Array Oper} {rest:List Oper} {o:Oper} {act:Act} {Q:Exit→Act→World→Prop}
    (hg:o.guard = none) (s x:Operand) (hop:o.op = Op.call { callee:=Callee.builtin Builtin.append,args:=#[s,x],argTypes:=#[t,t] }) (hs:act.eval s = v) {H:Nat} (hH:Z.heap.size = H) (hx:act.eval x = .slice (some ⟨H,0,none⟩) 1 1)
    (hK:∀ v' w',Hid (GrSt w bx e sz w' v' (n+1) (xs ++ news.toList))→wpList Tryz.prog ops Q rest (act.put o.dst v') w') :
    wpList Tryz.prog ops Q (o :: rest) act Z':=by
  subst hZ
  subst hH
  refine wpList_append_lies (w:=_) hg s x t hop (w.heap.size+1) e i z sz bytes ht hi hz hsize hby hzs hsz v n xs hs (h.out.own.alloc _) ⟨Z.heap.size,0,none⟩ 1 1 news.toList hx (by rw [Array.length_toList,hl,Nat.one_mul]) (fun j u hu=>?_) h1 (by decide) (by unfold maxLen;omega) (Nat.le_trans (Nat.mul_le_mul (show n+1≤1000001 by omega) hbl) (by decide)) (by have:=lt_of_heap h.out.box;rw [World.size_alloc];omega) _ rfl fun g cap w' ho hgr _ _=>hK _ _ (hid (h.out.push ho hgr))
  have e:(⟨Z.heap.size,0,none⟩:Addr).add j = ⟨Z.heap.size,j,none⟩:=by unfold Addr.add;split <;> simp_all
  rw [e,World.cell?_alloc_new,← hu,← Array.getElem?_toList]
theorem step_gr {w Z Z' : World} {bx:Obj} {e t:TypeId} {sz bytes n:Nat} {v:Value} {xs:List Value} {z:Value} {i:TypeInfo} (ht : Tryz.prog.underlying t = some (.slice e)) (hi : Tryz.prog.info? e = some i) (hz:i.zero = some z) (hsize:i.size = sz) (hby:i.bytes = bytes) (hzs:z.cells.size = sz) (hsz:0 < sz) (hbl:bytes≤1000)
    (h:Hid (GrSt w bx e sz Z v n xs)) (news:Array Value) (hl:news.size = sz) (h1:∀ u∈news.toList,u.oneCell' = true) (hZ:Z' = Z.alloc (.cells news e)) (hk:n≤1000000) {ops:Array Oper} {o:Oper} {act:Act} {K:Act→World→Prop} {Q:Exit→Act→World→Prop} {E:Prop}
    (hg:o.guard = none) (s x:Operand) (hop:o.op = Op.call { callee:=Callee.builtin Builtin.append,args:=#[s,x],argTypes:=#[t,t] }) (hs:act.eval s = v) {H:Nat} (hH:Z.heap.size = H) (hx:act.eval x = .slice (some ⟨H,0,none⟩) 1 1)
    (hK:∀ v' w',Hid (GrSt w bx e sz w' v' (n+1) (xs ++ news.toList))→K (act.put o.dst v') w') :
    if Region.wanted o (yielded ops act.tmps) = true then Oper.wp Tryz.prog o act Z' K Q else E:=by
  subst hZ
  subst hH
  refine step_append_lies (w:=_) hg s x t hop (w.heap.size+1) e i z sz bytes ht hi hz hsize hby hzs hsz v n xs hs (h.out.own.alloc _) ⟨Z.heap.size,0,none⟩ 1 1 news.toList hx (by rw [Array.length_toList,hl,Nat.one_mul]) (fun j u hu=>?_) h1 (by decide) (by unfold maxLen;omega) (Nat.le_trans (Nat.mul_le_mul (show n+1≤1000001 by omega) hbl) (by decide)) (by have:=lt_of_heap h.out.box;rw [World.size_alloc];omega) _ rfl fun g cap w' ho hgr _ _=>hK _ _ (hid (h.out.push ho hgr))
  have e:(⟨Z.heap.size,0,none⟩:Addr).add j = ⟨Z.heap.size,j,none⟩:=by unfold Addr.add;split <;> simp_all
  rw [e,World.cell?_alloc_new,← hu,← Array.getElem?_toList]
def IntsV (W:World) (v:Value) (l:List Int):Prop:=SlAt v l.length 1 fun b o i=>∀ x,l[i]? = some x→W.cell? ⟨b,o,none⟩ = some (.int .i64 x)
theorem IntsV.below {w w' : World} {s:Value} {l:List Int} (h:IntsV w s l) (hb:Below w.heap.size w w'):IntsV w' s l:=h.mono fun _ _ _ _ h x hx=>cell_on hb (h x hx)
theorem intsV_own {W:World} {B:Nat} {v:Value} {l:List Int} (h:W.ownsRow B 3 1 v l.length (l.map intV)):IntsV W v l:=by
  have h0:=h
  obtain ⟨hlen,h1 | ⟨g,cap,cur,rfl,hb,hg,hnc,hcm,hcs,htk⟩⟩:=h
  · rw [h1.1]
    unfold IntsV
    rw [h1.2]
    exact slAt_none _ _ _ _ _ ⟨Nat.zero_le _,fun _=>rfl⟩ rfl
  · have hc:=h0.cells (g:=g) rfl
    refine slAt_some hnc hcm fun i _ x hx=>?_
    have hz:(⟨g,0,none⟩:Addr).add i = ⟨g,0+i*1,none⟩:=by unfold Addr.add;split <;> simp_all
    rw [← hz]
    exact hc _ _ (by rw [List.getElem?_map,hx];rfl)
end
section
open Go.RowKit Lx Go.Shelf
set_option maxHeartbeats 8000000 in
set_option maxRecDepth 100000 in
theorem refVars_core (d:De) (op oi:Option Addr) (capp capi bp fp bi fi np ni:Nat) (w:World) (hnp:Hid (d.params.length = np)) (hni:Hid (d.items.length = ni)) (lp' : (np:Int)≤100000) (li' : (ni:Int)≤100000)
    (hop:Hid (0 < np→op = some ⟨bp,fp,none⟩)) (hoi:Hid (0 < ni→oi = some ⟨bi,fi,none⟩)) (hvp:Hid (∀ j,j < np→∀ x,d.params[j]? = some x→PaAt w bp (fp+j*2) x)) (hvi:Hid (∀ j,j < ni→∀ x,d.items[j]? = some x→ItAt w bi (fi+j*9) x)) :
    Calls Tryz.prog 22 #[.agg #[.int .i64 d.kind,.string d.name,.slice op np capp,.slice oi ni capi,.int .i64 d.type,.int .i64 d.e,.int .i64 d.pos]] w fun r Y=>∃ v,r = .returned v∧Y.ownsRow (w.heap.size+1) 36 4 v (varsN d).length (vaCs (varsN d))∧Below w.heap.size w Y:=by
  obtain ⟨ii,si2,si3,si4,si5⟩:=info_parts var_info
  have mixed : Tryz.prog.follows .mixedOrders = true:=by kernel_rfl
  have H0:Hid (GrSt w (.cells #[.int .i64 d.kind,.string d.name,.slice op np capp,.slice oi ni capi,.int .i64 d.type,.int .i64 d.e,.int .i64 d.pos] 44) 36 4 (w.alloc (.cells #[.int .i64 d.kind,.string d.name,.slice op np capp,.slice oi ni capi,.int .i64 d.type,.int .i64 d.e,.int .i64 d.pos] 44)) (.slice none 0 0) (varsP (d.params.take 0)).length (vaCs (varsP (d.params.take 0)))):=hid ⟨(Below.refl _ _).alloc (Nat.le_refl _) _,al_new rfl,World.ownsRow_nil _ _ _ _⟩
  go_enter Tryz.func22,Tryz.ntmps22
  go_wp2_with fail
  go_loopw [3,4] (fun s3 s4 wr=>∃ (j:Nat) (v:Value),v = s3∧s4 = .int .i64 (j:Int)∧j≤np∧Hid (GrSt w (.cells #[.int .i64 d.kind,.string d.name,.slice op np capp,.slice oi ni capi,.int .i64 d.type,.int .i64 d.e,.int .i64 d.pos] 44) 36 4 wr v (varsP (d.params.take j)).length (vaCs (varsP (d.params.take j))))) (fun _ s4 _=>np - litLen s4)
  case atStart=>exact ⟨0,_,rfl,rfl,Nat.zero_le _,H0⟩
  case round =>
    clear H0
    obtain ⟨j,v,rfl,rfl,hj,hG⟩:=hrel
    obtain ⟨_,_,_,b2,b3,_⟩:=seven_froz hG.out.box
    rcases Nat.lt_or_ge j np with hlt | hge
    · have q3:(j:Int) < (np:Int):=by omega
      have ix:Ix 41 2 (.slice op np capp) bp fp j:=by
        intro W
        rw [hop.out (by omega)]
        have h1:(j:Int) < (np:Int):=by omega
        have h2:(j:Int)≤9223372036854775807:=by omega
        go_simp
      unfold Ix at ix
      obtain ⟨x,hx⟩:∃ x,d.params[j]? = some x:=⟨_,List.getElem?_eq_getElem (by have:=hnp.out;omega)⟩
      have hp:=hvp.out j hlt x hx
      have p0:=cell_on hG.out.below hp.1
      have p1:=cell_on hG.out.below hp.2.1
      have HT:Hid (varsP (d.params.take (j+1)) = varsP (d.params.take j) ++ [⟨x.name,1,x.type,j⟩]):=hid (varsP_take _ _ _ hx)
      have hk:(varsP (d.params.take j)).length≤1000000:=by rw [varsP_len,List.length_take];omega
      clear hx hp
      go_wp2_with fail
      have HG:=hid hG.out.drew
      go_region_law (refine step_gr (i:=ii) Tryz.underlying31 si2 si3 si4 si5 (by rfl) (by decide) (by decide) HG #[.string x.name,.int .i64 1,.int .i64 x.type,.int .i64 (j:Int)] (by rfl) (by simp [Value.oneCell']) (by rfl) hk (by rfl) (.tmp 14) (.tmp 29) (by rfl) (by rfl) (by rfl) (by rfl) ?_;intro v3 w3 h3)
      all_goals (
        go_wp2_with fail
        exact ⟨⟨j+1,v3,rfl,by go_num,by omega,hid (by rw [HT.out,List.length_append,vaCs_snoc];exact h3.out)⟩,by simp [litLen];omega⟩)
    · obtain rfl:j = np:=by omega
      have q3:¬ (j:Int) < (j:Int):=by omega
      have HG1:=hid hG.out
      rw [show d.params.take j = d.params by rw [← hnp.out];exact List.take_length] at HG1
      clear hG
      go_wp2_with fail
      clear b2 b3
      go_loopw [3,5] (fun s3 s5 wr=>∃ (k:Nat) (v:Value),v = s3∧s5 = .int .i64 (k:Int)∧k≤ni∧Hid (GrSt w (.cells #[.int .i64 d.kind,.string d.name,.slice op j capp,.slice oi ni capi,.int .i64 d.type,.int .i64 d.e,.int .i64 d.pos] 44) 36 4 wr v (varsP d.params ++ varsI (d.items.take k)).length (vaCs (varsP d.params ++ varsI (d.items.take k))))) (fun _ s5 _=>ni - litLen s5)
      case atStart=>exact ⟨0,v,rfl,rfl,Nat.zero_le _,(by simpa [varsI] using HG1)⟩
      case round =>
        clear HG1
        obtain ⟨k,v,rfl,rfl,hk,hQ⟩:=hrel
        obtain ⟨_,_,_,b2,b3,_⟩:=seven_froz hQ.out.box
        rcases Nat.lt_or_ge k ni with hlt | hge
        · have q3:(k:Int) < (ni:Int):=by omega
          have ix:Ix 42 9 (.slice oi ni capi) bi fi k:=by
            intro W
            rw [hoi.out (by omega)]
            have h1:(k:Int) < (ni:Int):=by omega
            have h2:(k:Int)≤9223372036854775807:=by omega
            go_simp
          unfold Ix at ix
          obtain ⟨x,hx⟩:∃ x,d.items[k]? = some x:=⟨_,List.getElem?_eq_getElem (by have:=hni.out;omega)⟩
          obtain ⟨os,caps,iok,i0,i1,i2,i3,i4,i5,i6,i7,i8⟩:=it_cells (hvi.out k hlt x hx)
          have p0:=cell_on hQ.out.below i0
          have p1:=cell_on hQ.out.below i1
          have p2:=cell_on hQ.out.below i2
          have p3:=cell_on hQ.out.below i3
          have p4:=cell_on hQ.out.below i4
          have p5:=cell_on hQ.out.below i5
          have p6:=cell_on hQ.out.below i6
          have p7:=cell_on hQ.out.below i7
          have p8:=cell_on hQ.out.below i8
          have HIT:=hid (varsI_take _ _ _ hx)
          have hkl:(varsP d.params ++ varsI (d.items.take k)).length≤1000000:=by
            have h1:=varsI_len (d.items.take k)
            rw [List.length_take] at h1
            rw [List.length_append,varsP_len]
            have:=hnp.out
            omega
          have HG:=hid (hQ.out.on ((Below.refl wr.heap.size wr).alloc (Nat.le_refl _) (.cells #[.int .i64 x.kind,.string x.name,.int .i64 x.type,.int .i64 x.e,.int .i64 x.f,.slice os x.states.length caps,.string x.state,.string x.next,.int .i64 x.pos] 62)))
          have HSZ:(wr.alloc (.cells #[.int .i64 x.kind,.string x.name,.int .i64 x.type,.int .i64 x.e,.int .i64 x.f,.slice os x.states.length caps,.string x.state,.string x.next,.int .i64 x.pos] 62)).heap.size = wr.heap.size+1:=World.size_alloc _ _
          clear hx i0 i1 i2 i3 i4 i5 i6 i7 i8 iok
          by_cases e1:x.kind = 1
          · have HT:Hid (varsI (d.items.take (k+1)) = varsI (d.items.take k) ++ [⟨x.name,2,x.type,k⟩]):=hid (by rw [HIT.out,show madeS x.kind = 2 by rw [e1];rfl,show madeT x.kind x.type = x.type by rw [e1];rfl];rfl)
            have r1:(x.kind == 1) = true:=by simpa using e1
            clear e1
            go_wp2_with (at_builtin;refine wpList_gr (i:=ii) Tryz.underlying31 si2 si3 si4 si5 rfl (by decide) (by decide) HG #[.string x.name,.int .i64 2,.int .i64 x.type,.int .i64 (k:Int)] rfl (by simp [Value.oneCell']) rfl hkl rfl _ _ rfl rfl HSZ rfl ?_;intro v3 w3 h3)
            exact ⟨⟨k+1,v3,rfl,by go_num,by omega,hid (by rw [HT.out,← List.append_assoc,List.length_append,vaCs_snoc];exact h3.out)⟩,by simp [litLen];omega⟩
          have r1:(x.kind == 1) = false:=by simpa using e1
          by_cases e2:x.kind = 2
          · have HT:Hid (varsI (d.items.take (k+1)) = varsI (d.items.take k) ++ [⟨x.name,3,1,k⟩]):=hid (by rw [HIT.out,show madeS x.kind = 3 by rw [e2];rfl,show madeT x.kind x.type = 1 by rw [e2];rfl];rfl)
            have r2:(x.kind == 2) = true:=by simpa using e2
            clear e2
            go_wp2_with (at_builtin;refine wpList_gr (i:=ii) Tryz.underlying31 si2 si3 si4 si5 rfl (by decide) (by decide) HG #[.string x.name,.int .i64 3,.int .i64 1,.int .i64 (k:Int)] rfl (by simp [Value.oneCell']) rfl hkl rfl _ _ rfl rfl HSZ rfl ?_;intro v3 w3 h3)
            exact ⟨⟨k+1,v3,rfl,by go_num,by omega,hid (by rw [HT.out,← List.append_assoc,List.length_append,vaCs_snoc];exact h3.out)⟩,by simp [litLen];omega⟩
          have r2:(x.kind == 2) = false:=by simpa using e2
          by_cases e4:x.kind = 4
          · have HT:Hid (varsI (d.items.take (k+1)) = varsI (d.items.take k) ++ [⟨x.name,4,x.type,k⟩]):=hid (by rw [HIT.out,show madeS x.kind = 4 by rw [e4];rfl,show madeT x.kind x.type = x.type by rw [e4];rfl];rfl)
            have r4:(x.kind == 4) = true:=by simpa using e4
            clear e4
            go_wp2_with (at_builtin;refine wpList_gr (i:=ii) Tryz.underlying31 si2 si3 si4 si5 rfl (by decide) (by decide) HG #[.string x.name,.int .i64 4,.int .i64 x.type,.int .i64 (k:Int)] rfl (by simp [Value.oneCell']) rfl hkl rfl _ _ rfl rfl HSZ rfl ?_;intro v3 w3 h3)
            exact ⟨⟨k+1,v3,rfl,by go_num,by omega,hid (by rw [HT.out,← List.append_assoc,List.length_append,vaCs_snoc];exact h3.out)⟩,by simp [litLen];omega⟩
          have r4:(x.kind == 4) = false:=by simpa using e4
          by_cases e6:x.kind = 6
          · have HT:Hid (varsI (d.items.take (k+1)) = varsI (d.items.take k) ++ [⟨x.name,5,0,k⟩]):=hid (by rw [HIT.out,show madeS x.kind = 5 by rw [e6];rfl,show madeT x.kind x.type = 0 by rw [e6];rfl];rfl)
            have r6:(x.kind == 6) = true:=by simpa using e6
            clear e6
            go_wp2_with (at_builtin;refine wpList_gr (i:=ii) Tryz.underlying31 si2 si3 si4 si5 rfl (by decide) (by decide) HG #[.string x.name,.int .i64 5,.int .i64 0,.int .i64 (k:Int)] rfl (by simp [Value.oneCell']) rfl hkl rfl _ _ rfl rfl HSZ rfl ?_;intro v3 w3 h3)
            exact ⟨⟨k+1,v3,rfl,by go_num,by omega,hid (by rw [HT.out,← List.append_assoc,List.length_append,vaCs_snoc];exact h3.out)⟩,by simp [litLen];omega⟩
          have r6:(x.kind == 6) = false:=by simpa using e6
          have HT:Hid (varsI (d.items.take (k+1)) = varsI (d.items.take k)):=hid (by rw [HIT.out,show madeS x.kind = 0 by unfold madeS;rw [if_neg e1,if_neg e2,if_neg e4,if_neg e6]];simp)
          go_wp2_with fail
          exact ⟨⟨k+1,v,rfl,by go_num,by omega,by rw [HT.out];exact HG⟩,by simp [litLen];omega⟩
        · obtain rfl:k = ni:=by omega
          have q3:¬ (k:Int) < (k:Int):=by omega
          have HG2:=hid hQ.out
          rw [show d.items.take k = d.items by rw [← hni.out];exact List.take_length] at HG2
          clear hQ
          go_wp2_with fail
          go_ret
          exact ⟨_,rfl,HG2.out.own,HG2.out.below⟩
theorem refVars_any (v0:Value) (d:De) (w:World) (h:DeVal w v0 d) (h1:d.params.length≤600) (h2:d.items.length≤600) :
    Calls Tryz.prog 22 #[v0] w fun r Y=>∃ v,r = .returned v∧VasAt Y v (varsN d)∧Below w.heap.size w Y:=by
  obtain ⟨s,t,rfl,⟨op,capp,bp,fp,rfl,_,_,hp1,hp2⟩,⟨oi,capi,bi,fi,rfl,_,_,hi1,hi2⟩,_⟩:=h
  exact (refVars_core d op oi capp capi bp fp bi fi _ _ w (hid rfl) (hid rfl) (by omega) (by omega) (hid hp1) (hid hi1) (hid hp2) (hid hi2)).mono fun r Y ⟨v,h1,h2,h3⟩=>⟨v,h1,vasAt_own h2,h3⟩
end
section
open Go.RowKit Lx Go.Shelf
theorem int_inf:(Tryz.prog.info? 3).map (fun i=>(i.zero,i.size,i.bytes)) = some (some (.int .i64 0),1,8):=by kernel_rfl
set_option maxHeartbeats 4000000 in
theorem refHas_any (k:Int) (w:World):Calls Tryz.prog 40 #[.int .i64 k] w fun r w'=>r = .returned (.tuple #[.bool (hasEk k),.bool (hasFk k)])∧w = w':=by
  by_cases h1:k = 1
  · subst h1;go_enter Tryz.func40,Tryz.ntmps40;go_wp2_with fail;go_ret2;exact ⟨rfl,rfl⟩
  by_cases h2:k = 2
  · subst h2;go_enter Tryz.func40,Tryz.ntmps40;go_wp2_with fail;go_ret2;exact ⟨rfl,rfl⟩
  by_cases h3:k = 3
  · subst h3;go_enter Tryz.func40,Tryz.ntmps40;go_wp2_with fail;go_ret2;exact ⟨rfl,rfl⟩
  by_cases h4:k = 4
  · subst h4;go_enter Tryz.func40,Tryz.ntmps40;go_wp2_with fail;go_ret2;exact ⟨rfl,rfl⟩
  by_cases h5:k = 5
  · subst h5;go_enter Tryz.func40,Tryz.ntmps40;go_wp2_with fail;go_ret2;exact ⟨rfl,rfl⟩
  by_cases h7:k = 7
  · subst h7;go_enter Tryz.func40,Tryz.ntmps40;go_wp2_with fail;go_ret2;exact ⟨rfl,rfl⟩
  have E:=hid (show hasEk k = false∧hasFk k = false by
    constructor
    · unfold hasEk;rw [decide_eq_false h1,decide_eq_false h2,decide_eq_false h3,decide_eq_false h4,decide_eq_false h5];rfl
    · unfold hasFk;rw [decide_eq_false h2,decide_eq_false h3,decide_eq_false h5,decide_eq_false h7];rfl)
  have r2:(k == 2) = false:=by simpa using h2
  have r3:(k == 3) = false:=by simpa using h3
  have r5:(k == 5) = false:=by simpa using h5
  have r7:(k == 7) = false:=by simpa using h7
  by_cases g1:1≤k
  · have g5:¬ k≤5:=by omega
    have a1:decide (1≤k) = true:=decide_eq_true g1
    have a5:decide (k≤5) = false:=decide_eq_false g5
    go_enter Tryz.func40,Tryz.ntmps40
    go_wp2_with fail
    go_ret2
    exact ⟨by rw [E.out.1,E.out.2];rfl,rfl⟩
  · have a1:decide (1≤k) = false:=decide_eq_false g1
    go_enter Tryz.func40,Tryz.ntmps40
    go_wp2_with fail
    go_ret2
    exact ⟨by rw [E.out.1,E.out.2];rfl,rfl⟩
set_option maxHeartbeats 8000000 in
set_option maxRecDepth 100000 in
theorem refRoots_core (d:De) (op oi:Option Addr) (capp capi bi fi np ni:Nat) (w:World) (hni:Hid (d.items.length = ni)) (li' : (ni:Int)≤100000) (hkd:Hid (1≤d.kind))
    (hoi:Hid (0 < ni→oi = some ⟨bi,fi,none⟩)) (hvi:Hid (∀ j,j < ni→∀ x,d.items[j]? = some x→ItAt w bi (fi+j*9) x)) :
    Calls Tryz.prog 23 #[.agg #[.int .i64 d.kind,.string d.name,.slice op np capp,.slice oi ni capi,.int .i64 d.type,.int .i64 d.e,.int .i64 d.pos]] w fun r Y=>∃ v,r = .returned v∧Y.ownsRow (w.heap.size+1) 3 1 v (rootsN d).length ((rootsN d).map intV)∧Below w.heap.size w Y:=by
  obtain ⟨ii,si2,si3,si4,si5⟩:=info_parts int_inf
  have H0:Hid (GrSt w (.cells #[.int .i64 d.kind,.string d.name,.slice op np capp,.slice oi ni capi,.int .i64 d.type,.int .i64 d.e,.int .i64 d.pos] 44) 3 1 (w.alloc (.cells #[.int .i64 d.kind,.string d.name,.slice op np capp,.slice oi ni capi,.int .i64 d.type,.int .i64 d.e,.int .i64 d.pos] 44)) (.slice none 0 0) (rootsI (d.items.take 0)).length ((rootsI (d.items.take 0)).map intV)):=hid ⟨(Below.refl _ _).alloc (Nat.le_refl _) _,al_new rfl,World.ownsRow_nil _ _ _ _⟩
  go_enter Tryz.func23,Tryz.ntmps23
  go_wp2_with fail
  go_loopw [3,4] (fun s3 s4 wr=>∃ (k:Nat) (v:Value),v = s3∧s4 = .int .i64 (k:Int)∧k≤ni∧Hid (GrSt w (.cells #[.int .i64 d.kind,.string d.name,.slice op np capp,.slice oi ni capi,.int .i64 d.type,.int .i64 d.e,.int .i64 d.pos] 44) 3 1 wr v (rootsI (d.items.take k)).length ((rootsI (d.items.take k)).map intV))) (fun _ s4 _=>ni - litLen s4)
  case atStart=>exact ⟨0,_,rfl,rfl,Nat.zero_le _,H0⟩
  case round =>
    clear H0
    obtain ⟨k,v,rfl,rfl,hk,hQ⟩:=hrel
    obtain ⟨_,b0,_,_,b3,_,b5,_⟩:=seven_froz hQ.out.box
    rcases Nat.lt_or_ge k ni with hlt | hge
    · have q3:(k:Int) < (ni:Int):=by omega
      have ix:Ix 42 9 (.slice oi ni capi) bi fi k:=by
        intro W
        rw [hoi.out (by omega)]
        have h1:(k:Int) < (ni:Int):=by omega
        have h2:(k:Int)≤9223372036854775807:=by omega
        go_simp
      unfold Ix at ix
      obtain ⟨x,hx⟩:∃ x,d.items[k]? = some x:=⟨_,List.getElem?_eq_getElem (by have:=hni.out;omega)⟩
      obtain ⟨os,caps,iok,i0,i1,i2,i3,i4,i5,i6,i7,i8⟩:=it_cells (hvi.out k hlt x hx)
      have I3:=hid i3
      have I4:=hid i4
      have p0:=cell_on hQ.out.below i0
      have p3:=cell_on hQ.out.below i3
      have p4:=cell_on hQ.out.below i4
      have HIT:=hid (rootsI_take _ _ _ hx)
      have hkl:(rootsI (d.items.take k)).length≤1000000:=by
        have h1:=rootsI_len (d.items.take k)
        rw [List.length_take] at h1
        omega
      have HG:=hid hQ.out
      have MH:=hid (fun W=>refHas_any x.kind W)
      have mixed : Tryz.prog.follows .mixedOrders = true:=by kernel_rfl
      have late : Tryz.prog.follows .lateStores = true:=by kernel_rfl
      clear hx i0 i1 i2 i3 i4 i5 i6 i7 i8 iok
      obtain ⟨be,hbe⟩:∃ be,be = hasEk x.kind:=⟨_,rfl⟩
      obtain ⟨bf,hbf⟩:∃ bf,bf = hasFk x.kind:=⟨_,rfl⟩
      have QE:=hid hbe
      have QF:=hid hbf
      rw [← hbe,← hbf] at MH
      clear hbe hbf
      have HRX:Hid (rootsX x = (if be = true then [x.e] else []) ++ (if bf = true then [x.f] else [])):=hid (by unfold rootsX;rw [QE.out,QF.out])
      have CALL:=True.intro
      cases be with
      | false =>
        cases bf with
        | false =>
          have HT:Hid (rootsI (d.items.take (k+1)) = rootsI (d.items.take k)):=hid (by rw [HIT.out,HRX.out];simp)
          go_wp2_with (go_at_call 40;(with_reducible refine (MH.out _).mono ?_);rintro e w1 ⟨rfl,rfl⟩)
          exact ⟨⟨k+1,v,rfl,by go_num,by omega,by rw [HT.out];exact HG⟩,by simp [litLen];omega⟩
        | true =>
          have HT:Hid (rootsI (d.items.take (k+1)) = rootsI (d.items.take k) ++ [x.f]):=hid (by rw [HIT.out,HRX.out];simp)
          go_wp2_with (first | (go_at_call 40;(with_reducible refine (MH.out _).mono ?_);rintro e w1 ⟨rfl,rfl⟩) | (at_builtin;refine wpList_gr (i:=ii) Tryz.underlying33 si2 si3 si4 si5 rfl (by decide) (by decide) HG #[.int .i64 x.f] rfl (by simp [Value.oneCell']) rfl hkl rfl _ _ rfl rfl rfl rfl ?_;intro v3 w3 h3))
          exact ⟨⟨k+1,v3,rfl,by go_num,by omega,hid (by rw [HT.out,List.length_append,List.map_append];exact h3.out)⟩,by simp [litLen];omega⟩
      | true =>
        cases bf with
        | false =>
          have HT:Hid (rootsI (d.items.take (k+1)) = rootsI (d.items.take k) ++ [x.e]):=hid (by rw [HIT.out,HRX.out];simp)
          go_wp2_with (first | (go_at_call 40;(with_reducible refine (MH.out _).mono ?_);rintro e w1 ⟨rfl,rfl⟩) | (at_builtin;refine wpList_gr (i:=ii) Tryz.underlying33 si2 si3 si4 si5 rfl (by decide) (by decide) HG #[.int .i64 x.e] rfl (by simp [Value.oneCell']) rfl hkl rfl _ _ rfl rfl rfl rfl ?_;intro v3 w3 h3))
          exact ⟨⟨k+1,v3,rfl,by go_num,by omega,hid (by rw [HT.out,List.length_append,List.map_append];exact h3.out)⟩,by simp [litLen];omega⟩
        | true =>
          have HT:Hid (rootsI (d.items.take (k+1)) = rootsI (d.items.take k) ++ [x.e] ++ [x.f]):=hid (by rw [HIT.out,HRX.out];simp)
          have hkl2:(rootsI (d.items.take k)).length+1≤1000000:=by
            have h1:=rootsI_len (d.items.take k)
            rw [List.length_take] at h1
            omega
          go_wp2_with (first
            | (go_at_call 40;(with_reducible refine (MH.out _).mono ?_);rintro e w1 ⟨rfl,rfl⟩)
            | (at_builtin;refine wpList_gr (i:=ii) Tryz.underlying33 si2 si3 si4 si5 rfl (by decide) (by decide) HG #[.int .i64 x.e] rfl (by simp [Value.oneCell']) rfl hkl rfl _ _ rfl rfl rfl rfl ?_;intro v2 w2 h2;obtain ⟨_,_,_,_,c3,_⟩:=seven_froz h2.out.box;have k4:=cell_on h2.out.below I4.out;clear p0 p3 p4 b0 b3 b5)
            | (at_builtin;refine wpList_gr (i:=ii) Tryz.underlying33 si2 si3 si4 si5 rfl (by decide) (by decide) h2 #[.int .i64 x.f] rfl (by simp [Value.oneCell']) rfl hkl2 rfl _ _ rfl rfl rfl rfl ?_;intro v3 w3 h3))
          exact ⟨⟨k+1,v3,rfl,by go_num,by omega,hid (by rw [HT.out,List.length_append,List.length_append,List.map_append,List.map_append];exact h3.out)⟩,by simp [litLen];omega⟩
    · obtain rfl:k = ni:=by omega
      have q3:¬ (k:Int) < (k:Int):=by omega
      have HG2:=hid hQ.out
      rw [show d.items.take k = d.items by rw [← hni.out];exact List.take_length] at HG2
      clear hQ
      have hkl:(rootsI d.items).length≤1000000:=by
        have h1:=rootsI_len d.items
        have:=hni.out
        omega
      by_cases h3:d.kind < 3
      · have HT:Hid (rootsN d = rootsI d.items ++ [d.e]):=hid (by unfold rootsN;rw [if_pos (by have:=hkd.out;omega)])
        have z3:decide (d.kind < 3) = true:=decide_eq_true h3
        go_wp2_with (at_builtin;refine wpList_gr (i:=ii) Tryz.underlying33 si2 si3 si4 si5 rfl (by decide) (by decide) HG2 #[.int .i64 d.e] rfl (by simp [Value.oneCell']) rfl hkl rfl _ _ rfl rfl rfl rfl ?_;intro v3 w3 h3)
        go_ret
        exact ⟨_,rfl,by rw [HT.out,List.length_append,List.map_append];exact h3.out.own,h3.out.below⟩
      · have HT:Hid (rootsN d = rootsI d.items):=hid (by unfold rootsN;rw [if_neg (by omega),List.append_nil])
        have z3:decide (d.kind < 3) = false:=decide_eq_false h3
        go_wp2_with fail
        go_ret
        exact ⟨_,rfl,by rw [HT.out];exact HG2.out.own,HG2.out.below⟩
theorem refRoots_any (v0:Value) (d:De) (w:World) (h:DeVal w v0 d) (h1:1≤d.kind) (h2:d.items.length≤600) :
    Calls Tryz.prog 23 #[v0] w fun r Y=>∃ v,r = .returned v∧IntsV Y v (rootsN d)∧Below w.heap.size w Y:=by
  obtain ⟨s,t,rfl,⟨op,capp,bp,fp,rfl,_,_,hp1,hp2⟩,⟨oi,capi,bi,fi,rfl,_,_,hi1,hi2⟩,_⟩:=h
  exact (refRoots_core d op oi capp capi bi fi _ _ w (hid rfl) (by omega) (hid h1) (hid hi1) (hid hi2)).mono fun r Y ⟨v,h1,h2,h3⟩=>⟨v,h1,intsV_own h2,h3⟩
end
section
open Go.RowKit Lx Go.Shelf
theorem results_ct {fn:Func} {t1 t2:Tmp} {y1:TypeId} {P:Program} {w:World} {v1:Value} (h:fn.results = #[.cell t1 y1,.tmp t2]) (tmps:Array Value) (a1:Addr) (ha1:tmps.getD t1 undef = .pointer (some a1)) (hl1:(loadVar y1 a1).run P w = .ok v1 w):(results fn tmps).run P w = .ok (.tuple #[v1,tmps.getD t2 undef]) w:=by
  have ha1' : tmps[t1]?.getD undef = .pointer (some a1):=by simpa [Array.getD_eq_getD_getElem?] using ha1
  simp [results,h,ha1',hl1,asAddr,Array.getD_eq_getD_getElem?]
theorem ix_vas {o:Option Addr} {n cap b off:Nat} (h:0 < n→o = some ⟨b,off,none⟩) {j:Nat} (hj:j < n) (hn:n≤9223372036854775807):Ix 31 4 (.slice o n cap) b off j:=by
  intro W
  rw [h (by omega)]
  have h1:(j:Int) < (n:Int):=by omega
  have h2:(j:Int)≤9223372036854775807:=by omega
  go_simp
theorem not_yet {l:List Va} {nm:ByteArray} {c:Nat} {x:Va} (h:∀ j,j < c→∀ y,l[j]? = some y→¬ y.name = nm) (hx:l[c]? = some x) (hne:¬ x.name = nm):∀ j,j < c+1→∀ y,l[j]? = some y→¬ y.name = nm:=fun j hj y hy=>by
  rcases Nat.lt_or_ge j c with h1 | h1
  · exact h j h1 y hy
  · obtain rfl:j = c:=by omega
    rw [hx] at hy;cases hy;exact hne
set_option maxHeartbeats 8000000 in
set_option maxRecDepth 100000 in
theorem refFind_any (v0:Value) (d:De) (nm:ByteArray) (w:World) (h:DeVal w v0 d) (h1:d.params.length≤600) (h2:d.items.length≤600) :
    Calls Tryz.prog 24 #[v0,.string nm] w fun r Y=>FindPost (varsN d) nm w r Y:=by
  have HD:=hid h
  obtain ⟨s,t,rfl,⟨op,capp,bp,fp,rfl,_⟩,⟨oi,capi,bi,fi,rfl,_⟩,_⟩:=h
  have hb0:=hid ((below_al (Below.refl w.heap.size w) (.cells #[.int .i64 d.kind,.string d.name,.slice op d.params.length capp,.slice oi d.items.length capi,.int .i64 d.type,.int .i64 d.e,.int .i64 d.pos] 44)).alloc (by simp) (.cells #[.string ⟨#[]⟩,.int .i64 0,.int .i64 0,.int .i64 0] 36))
  have hV:Hid (((w.alloc (.cells #[.int .i64 d.kind,.string d.name,.slice op d.params.length capp,.slice oi d.items.length capi,.int .i64 d.type,.int .i64 d.e,.int .i64 d.pos] 44)).alloc (.cells #[.string ⟨#[]⟩,.int .i64 0,.int .i64 0,.int .i64 0] 36)).heap[w.heap.size+1]? = some (.cells (vaB noVa) 36 (0,0))):=hid (al_new (by simp))
  have CV:=hid (refVars_any _ d _ (HD.out.below hb0.out) h1 h2)
  obtain ⟨L,hL⟩:∃ L,L = varsN d:=⟨_,rfl⟩
  have hLl:L.length≤1200:=by rw [hL];exact varsN_len _ ⟨h1,h2⟩
  rw [← hL] at CV ⊢
  clear hL
  go_enter Tryz.func24,Tryz.ntmps24
  go_wp2_with (go_at_call 22;((with_reducible refine CV.out.mono ?_));rintro r w4 ⟨v4,rfl,hv4,hb⟩;obtain ⟨ov,cv,bv,fv,rfl,_,_,hov,hcv⟩:=hv4;have HOV:=hid hov;have HCV:=hid hcv;have hb4:=hid (hb0.out.trans (hb.mono hb0.out.size));have HV4:=hid ((hb.block _ (lt_of_heap hV.out)).trans hV.out);clear hb hov hcv CV)
  obtain ⟨l,hll⟩:∃ l,l = L.length:=⟨_,rfl⟩
  rw [← hll] at HOV HCV hLl ⊢
  have HLN:=hid hll
  clear hll
  have hl2:(l:Int)≤1200:=by omega
  go_loopw [7] (fun i wr=>∃ c:Nat,i = .int .i64 (c:Int)∧c≤l∧wr = w4∧Hid (∀ j,j < c→∀ y,L[j]? = some y→¬ y.name = nm)) (fun i _=>l - litLen i)
  case atStart=>exact ⟨0,rfl,Nat.zero_le _,rfl,hid fun j hj=>by omega⟩
  case round =>
    obtain ⟨c,rfl,hc,rfl,hno⟩:=hrel
    rcases Nat.lt_or_ge c l with hlt | hge
    · have hl:(c:Int) < (l:Int):=by omega
      obtain ⟨x,hx⟩:∃ x,L[c]? = some x:=⟨_,List.getElem?_eq_getElem (by have:=HLN.out;omega)⟩
      obtain ⟨u0,u1,u2,u3⟩:=HCV.out c hlt x hx
      have ixc:=ix_vas (cap:=cv) HOV.out hlt (by omega)
      unfold Ix at ixc
      have HXC:=hid hx
      clear hx
      by_cases he:x.name = nm
      · have qe:(x.name.toList == nm.toList) = true:=by rw [he];simp
        have HE:=hid he
        obtain ⟨⟨z0,z1,z2,z3⟩,z4,z5,z6,z7⟩:=cells_four HV4.out
        clear he
        go_wp2_with (fail)
        refine bodyPost_ret (results_ct rfl _ ⟨w.heap.size+1,0,none⟩ rfl (run_loadVar_row _ _ _ _ (vaB x) _ _ (set_hp (set_hp (set_hp (set_hp HV4.out 0 _) 1 _) 2 _) 3 _) Tryz.underlying36 rfl (by kernel_rfl))) rfl ?_
        refine ⟨true,x,rfl,fun _=>find_first HXC.out HE.out hno.out,(fun h=>by cases h),?_⟩
        exact (((hb4.out.setCell (p:=⟨w.heap.size+1,0,none⟩) (Nat.le_succ _) _).setCell (p:=⟨w.heap.size+1,1,none⟩) (Nat.le_succ _) _).setCell (p:=⟨w.heap.size+1,2,none⟩) (Nat.le_succ _) _).setCell (p:=⟨w.heap.size+1,3,none⟩) (Nat.le_succ _) _
      · have qe:(x.name.toList == nm.toList) = false:=beq_false_of_ne fun h=>he ((toListE _ _).1 h)
        have HNX:=hid (not_yet hno.out HXC.out he)
        clear he
        go_wp2_with (fail)
        exact ⟨⟨c+1,by go_num,by omega,by first | exact trivial | rfl,HNX⟩,by simp [litLen];omega⟩
    · obtain rfl:c = l:=by omega
      have hno2:¬ (c:Int) < (c:Int):=by omega
      obtain ⟨⟨z0,z1,z2,z3⟩,z4,z5,z6,z7⟩:=cells_four HV4.out
      go_wp2_with (fail)
      refine bodyPost_ret (results_ct rfl _ ⟨w.heap.size+1,0,none⟩ rfl (run_loadVar_row _ _ _ _ (vaB noVa) _ _ (set_hp (set_hp (set_hp (set_hp HV4.out 0 _) 1 _) 2 _) 3 _) Tryz.underlying36 rfl (by kernel_rfl))) rfl ?_
      refine ⟨false,noVa,rfl,(fun h=>by cases h),fun _=>⟨rfl,fun y hy=>?_⟩,?_⟩
      · obtain ⟨j,hj⟩:=List.mem_iff_getElem?.1 hy
        exact hno.out j (by have:=(List.getElem?_eq_some_iff.1 hj).1;have:=HLN.out;omega) y hj
      · exact (((hb4.out.setCell (p:=⟨w.heap.size+1,0,none⟩) (Nat.le_succ _) _).setCell (p:=⟨w.heap.size+1,1,none⟩) (Nat.le_succ _) _).setCell (p:=⟨w.heap.size+1,2,none⟩) (Nat.le_succ _) _).setCell (p:=⟨w.heap.size+1,3,none⟩) (Nat.le_succ _) _
def declIx (l:List De) (nm:ByteArray):Int:=match l.findIdx? (fun d=>decide (d.name = nm)) with
  | some i=>(i:Int)
  | none=>-1
theorem declIx_at {l:List De} {nm:ByteArray} {c:Nat} {x:De} (hx:l[c]? = some x) (he:x.name = nm) (hno:∀ j,j < c→∀ y,l[j]? = some y→¬ y.name = nm):declIx l nm = (c:Int):=by
  have h:l.findIdx? (fun d=>decide (d.name = nm)) = some c:=by
    obtain ⟨hc,rfl⟩:=List.getElem?_eq_some_iff.1 hx
    rw [List.findIdx?_eq_some_iff_getElem]
    exact ⟨hc,by simpa using he,fun j hj=>by simpa using hno j hj _ (List.getElem?_eq_getElem (by omega))⟩
  unfold declIx
  rw [h]
theorem declIx_none {l:List De} {nm:ByteArray} (hno:∀ y∈l,¬ y.name = nm):declIx l nm = -1:=by
  have h:l.findIdx? (fun d=>decide (d.name = nm)) = none:=by
    rw [List.findIdx?_eq_none_iff]
    exact fun y hy=>by simpa using hno y hy
  unfold declIx
  rw [h]
theorem not_yetD {l:List De} {nm:ByteArray} {c:Nat} {x:De} (h:∀ j,j < c→∀ y,l[j]? = some y→¬ y.name = nm) (hx:l[c]? = some x) (hne:¬ x.name = nm):∀ j,j < c+1→∀ y,l[j]? = some y→¬ y.name = nm:=fun j hj y hy=>by
  rcases Nat.lt_or_ge j c with h1 | h1
  · exact h j h1 y hy
  · obtain rfl:j = c:=by omega
    rw [hx] at hy;cases hy;exact hne
set_option maxHeartbeats 8000000 in
set_option maxRecDepth 100000 in
theorem refDecl_any (sd se:Value) (p:Pr) (nm:ByteArray) (w:World) (h:ProgAt w sd se p) (hs:Small p) :
    Calls Tryz.prog 21 #[.agg #[sd,se],.string nm] w fun r Y=>r = .returned (.int .i64 (declIx p.decls nm))∧Below w.heap.size w Y:=by
  obtain ⟨⟨o1,dcap,db,doff,rfl,hd1,hd2,hd3,hd4⟩,⟨o2,cap,b,off,rfl,he1,he2,he3,he4⟩,h3,h4⟩:=h
  obtain ⟨n,hn⟩:∃ n,n = p.decls.length:=⟨_,rfl⟩
  obtain ⟨m,hm⟩:∃ m,m = p.exprs.length:=⟨_,rfl⟩
  rw [← hn] at hd1 hd3 hd4 h3 ⊢
  rw [← hm]
  have HN:=hid hn
  have hn2:(n:Int)≤60:=by have:=hs.decls;omega
  have D3:=hid hd3
  have D4:=hid hd4
  have hal:=hid (below_al (Below.refl w.heap.size w) (.cells #[.slice o1 n dcap,.slice o2 m cap] 25))
  obtain ⟨W0,hW0⟩:∃ W0,W0 = w.alloc (.cells #[.slice o1 n dcap,.slice o2 m cap] 25):=⟨_,rfl⟩
  have hB0:Hid (W0.heap[w.heap.size]? = some (.cells #[.slice o1 n dcap,.slice o2 m cap] 25 (0,0))):=hid (by rw [hW0];exact al_new rfl)
  clear hn hm hd1 hd2 hd3 hd4 he1 he2 he3 he4 h3 h4
  go_enter Tryz.func21,Tryz.ntmps21
  go_wp2_with fail
  rw [← hW0] at hal ⊢
  clear hW0
  go_loopw [5] (fun i wr=>∃ c:Nat,i = .int .i64 (c:Int)∧c≤n∧wr = W0∧Hid (∀ j,j < c→∀ y,p.decls[j]? = some y→¬ y.name = nm)) (fun i _=>n - litLen i)
  case atStart=>exact ⟨0,rfl,Nat.zero_le _,rfl,hid fun j hj=>by omega⟩
  case round =>
    obtain ⟨c,rfl,hc,rfl,hno⟩:=hrel
    obtain ⟨g1,g2⟩:=cells_two hB0.out
    rcases Nat.lt_or_ge c n with hlt | hge
    · have hl:(c:Int) < (n:Int):=by omega
      obtain ⟨x,hx⟩:∃ x,p.decls[c]? = some x:=⟨_,List.getElem?_eq_getElem (by have:=HN.out;omega)⟩
      obtain ⟨s,t,q0,q1,q2,q3,q4,q5,q6,qs,qt,qk⟩:=D4.out c hlt x hx
      have u1:=cell_on hal.out q1
      have ixc:=ix_des (cap:=dcap) D3.out hlt (by omega)
      unfold Ix at ixc
      have HXC:=hid hx
      clear hx q0 q1 q2 q3 q4 q5 q6 qs qt qk
      by_cases he:x.name = nm
      · have qe:(x.name.toList == nm.toList) = true:=by rw [he];simp
        have HE:=hid he
        clear he
        go_wp2_with (fail)
        go_ret
        exact ⟨by rw [declIx_at HXC.out HE.out hno.out];rfl,hal.out⟩
      · have qe:(x.name.toList == nm.toList) = false:=beq_false_of_ne fun h=>he ((toListE _ _).1 h)
        have HNX:=hid (not_yetD hno.out HXC.out he)
        clear he
        go_wp2_with (fail)
        exact ⟨⟨c+1,by go_num,by omega,by first | exact trivial | rfl,HNX⟩,by simp [litLen];omega⟩
    · obtain rfl:c = n:=by omega
      have hno2:¬ (c:Int) < (c:Int):=by omega
      go_wp2_with (fail)
      go_ret
      refine ⟨?_,hal.out⟩
      rw [declIx_none (fun y hy=>by
        obtain ⟨j,hj⟩:=List.mem_iff_getElem?.1 hy
        exact hno.out j (by have:=(List.getElem?_eq_some_iff.1 hj).1;have:=HN.out;omega) y hj)]
      rfl
end
section
open Go.RowKit Lx Go.Shelf
end
end Go.Proofs.YtdlmfeflinbbjaaGreat
