import Derived.Test.YtdlmfeflinbbjaaGreatNmFaultsG
namespace Go.Proofs.YtdlmfeflinbbjaaGreat
open Go.Lib (hid)
section
open Go.RowKit Lx Go.Shelf Go.Maps
attribute [local go_sem] Oper.semAt_some
theorem mode_item {d:De} {x:Va} (hx:x∈varsN d) (h5:x.sort = 5):∃ k:Nat,x.index = (k:Int)∧∃ y,d.items[k]? = some y:=by
  unfold varsN varsP varsI at hx
  rcases List.mem_append.1 hx with h | h
  · obtain ⟨⟨a,k⟩,h1,rfl⟩:=List.mem_map.1 h
    dsimp only at h5
    omega
  · obtain ⟨⟨a,k⟩,h1,h2⟩:=List.mem_filterMap.1 h
    have hk:=List.mem_zipIdx_iff_getElem?.1 h1
    dsimp only at h2 hk
    split at h2
    · cases h2
    · cases h2
      exact ⟨k,rfl,a,hk⟩
theorem hasPair_item {l:List It} {k:Nat} {y:It} (h:l[k]? = some y) (nm:ByteArray):hasPair (stL l) (k:Int) nm = y.states.any fun s=>decide (s = nm):=by
  rw [Bool.eq_iff_iff,hasPair_iff,List.any_eq_true]
  unfold stL
  constructor
  · intro hm
    obtain ⟨⟨a,i⟩,h1,h2⟩:=List.mem_flatMap.1 hm
    obtain ⟨s,h3,h4⟩:=List.mem_map.1 h2
    have hi:=List.mem_zipIdx_iff_getElem?.1 h1
    dsimp only at hi h3 h4
    simp only [Prod.mk.injEq] at h4
    obtain rfl:i = k:=by omega
    rw [h] at hi
    cases hi
    exact ⟨s,h3,by simp [h4.2]⟩
  · rintro ⟨s,h1,h2⟩
    obtain rfl:=of_decide_eq_true h2
    exact List.mem_flatMap.2 ⟨(y,k),List.mem_zipIdx_iff_getElem?.2 h,List.mem_map.2 ⟨s,h1,rfl⟩⟩
def FindIs (d:De) (nm:ByteArray) (w:World) (e:Ending) (w' : World):Prop:=(match (varsN d).find? (fun y=>decide (y.name = nm)) with
  | some x=>e = .returned (.tuple #[.agg #[.string x.name,.int .i64 x.sort,.int .i64 x.type,.int .i64 x.index],.bool true])
  | none=>e = .returned (.tuple #[.agg #[.string ⟨#[]⟩,.int .i64 0,.int .i64 0,.int .i64 0],.bool false]))∧Below w.heap.size w w'
theorem refFind_is (v0:Value) (d:De) (nm:ByteArray) (w:World) (h:DeVal w v0 d) (h1:d.params.length≤600) (h2:d.items.length≤600) :
    Calls Tryz.prog 24 #[v0,.string nm] w fun e w'=>FindIs d nm w e w' :=
  (refFind_any v0 d nm w h h1 h2).mono fun e w' ⟨q,x,e1,e2,e3,e4⟩=>by
    refine ⟨?_,e4⟩
    cases hf:(varsN d).find? (fun y=>decide (y.name = nm)) with
    | none =>
      cases q with
      | true=>have h:=e2 rfl;rw [hf] at h;cases h
      | false=>rw [e1,(e3 rfl).1];rfl
    | some y =>
      cases q with
      | true=>have h:=e2 rfl;rw [hf] at h;cases h;exact e1
      | false=>exact absurd (List.mem_of_find?_eq_some hf) (fun hm=>(e3 rfl).2 y hm (by simpa using List.find?_some hf))
set_option maxHeartbeats 8000000 in
set_option maxRecDepth 100000 in
theorem refState_any (v0:Value) (d:De) (mode nm:ByteArray) (w:World) (h:DeVal w v0 d) (h1:d.params.length≤600) (h2:d.items.length≤600) (hst:∀ x∈d.items,x.states.length≤1000) :
    Calls Tryz.prog 31 #[v0,.string mode,.string nm] w fun r Y=>r = .returned (.bool (hasSt d mode nm))∧Below w.heap.size w Y:=by
  have HDV:=hid h
  obtain ⟨s,t,rfl,⟨op,capp,bp,fp,rfl,_⟩,⟨oi,capi,bi,fi,rfl,_,_,hi1,hi2⟩,_⟩:=h
  have HI1:=hid hi1
  have HI2:=hid hi2
  have HST:=hid hst
  have hb0:=hid (below_al (Below.refl w.heap.size w) (.cells #[.int .i64 d.kind,.string d.name,.slice op d.params.length capp,.slice oi d.items.length capi,.int .i64 d.type,.int .i64 d.e,.int .i64 d.pos] 44))
  have B0:Hid ((w.alloc (.cells #[.int .i64 d.kind,.string d.name,.slice op d.params.length capp,.slice oi d.items.length capi,.int .i64 d.type,.int .i64 d.e,.int .i64 d.pos] 44)).heap[w.heap.size]? = some (.cells #[.int .i64 d.kind,.string d.name,.slice op d.params.length capp,.slice oi d.items.length capi,.int .i64 d.type,.int .i64 d.e,.int .i64 d.pos] 44 (0,0))):=hid (World.alloc_heap_new w _)
  have FD:=hid (fun W (hW:Below w.heap.size w W)=>refFind_is _ d mode W (HDV.out.below hW) h1 h2)
  unfold FindIs at FD
  obtain ⟨ni,hni⟩:∃ ni,ni = d.items.length:=⟨_,rfl⟩
  have HNI:=hid hni
  rw [← hni] at h2 HI1 HI2 hb0 B0 FD ⊢
  clear hi1 hi2 hst hni
  cases hf:(varsN d).find? (fun y=>decide (y.name = mode)) with
  | none =>
    rw [hf] at FD
    have R:Hid (hasSt d mode nm = false):=hid (by unfold hasSt;rw [hf])
    clear hf
    go_enter Tryz.func31,Tryz.ntmps31
    go_wp2_with (go_at_call 24;(with_reducible refine (FD.out _ hb0.out).mono ?_);rintro e w1 ⟨rfl,hb1⟩;have HB1:=hid (hb0.out.trans (hb1.mono hb0.out.size));have BX:=hid ((hb1.block _ (lt_of_heap B0.out)).trans B0.out);clear hb1)
    go_ret
    exact ⟨by rw [R.out];rfl,below_al HB1.out _⟩
  | some x =>
    rw [hf] at FD
    obtain ⟨xn,xs,xt,xi⟩:=x
    dsimp only at FD
    by_cases h5:xs = 5
    · obtain ⟨k,hk,y,hy⟩:=mode_item (List.mem_of_find?_eq_some hf) h5
      dsimp only at hk
      subst hk
      have q5:(xs != 5) = false:=by simp [h5]
      have R:Hid (hasSt d mode nm = y.states.any fun s=>decide (s = nm)):=hid (by unfold hasSt;rw [hf];dsimp only;rw [h5,hasPair_item hy];simp)
      have hkl:k < ni:=by rw [HNI.out];exact (List.getElem?_eq_some_iff.1 hy).1
      have hkl2:(k:Int) < (ni:Int):=by omega
      have ix:=ix_its (cap:=capi) HI1.out hkl (by omega)
      unfold Ix at ix
      obtain ⟨sv,i0,i1,i2,i3,i4,i5,i6,i7,i8,⟨os,caps,bs,offs,rfl,_,_,hso,hsc⟩,hok⟩:=HI2.out k hkl y hy
      have hsl:=HST.out y (List.mem_of_getElem? hy)
      have I5:=hid i5
      have HSO:=hid hso
      have HSC:=hid hsc
      obtain ⟨ns,hns⟩:∃ ns,ns = y.states.length:=⟨_,rfl⟩
      rw [← hns] at I5 HSO HSC hsl
      have HNS:=hid hns
      clear hf h5 i0 i1 i2 i3 i4 i5 i6 i7 i8 hso hsc hok hns hy
      go_enter Tryz.func31,Tryz.ntmps31
      go_wp2_with (go_at_call 24;(with_reducible refine (FD.out _ hb0.out).mono ?_);rintro e w1 ⟨rfl,hb1⟩;have HB1:=hid (hb0.out.trans (hb1.mono hb0.out.size));obtain ⟨_,b0,b1,b2,b3,b4,b5,b6⟩:=seven_froz (al_old (o:=.cells #[.string xn,.int .i64 xs,.int .i64 xt,.int .i64 (k:Int)] 36) ((hb1.block _ (lt_of_heap B0.out)).trans B0.out));have p5:=cell_on (below_al HB1.out (.cells #[.string xn,.int .i64 xs,.int .i64 xt,.int .i64 (k:Int)] 36)) I5.out;clear hb1)
      obtain ⟨V,hV⟩:∃ V,V = w1.alloc (.cells #[.string xn,.int .i64 xs,.int .i64 xt,.int .i64 (k:Int)] 36):=⟨_,rfl⟩
      have hbV:Below w.heap.size w V:=by rw [hV];exact below_al HB1.out _
      rw [← hV]
      have HBV:=hid hbV
      clear hV hbV b0 b1 b2 b3 b4 b5 b6 p5
      go_loopw [10] (fun i wr=>∃ c:Nat,i = .int .i64 c∧c≤ns∧wr = V∧Hid (∀ e,e < c→∀ s,y.states[e]? = some s→¬ s = nm)) (fun i _=>ns - litLen i)
      case atStart=>exact ⟨0,rfl,Nat.zero_le _,rfl,hid fun e he=>by omega⟩
      case round =>
        obtain ⟨c,rfl,hc,rfl,hno⟩:=hrel
        rcases Nat.lt_or_ge c ns with hlt | hge
        · have q4:(c:Int) < (ns:Int):=by omega
          have ixs:=ix_strT (cap:=caps) HSO.out hlt (by omega)
          unfold Ix at ixs
          simp only [Nat.mul_one] at ixs
          obtain ⟨s,hs⟩:∃ s,y.states[c]? = some s:=⟨_,List.getElem?_eq_getElem (by have:=HNS.out;omega)⟩
          have e0:wr.cell? ⟨bs,offs+c,none⟩ = some (.string s):=cell_on HBV.out (by
            have h:=HSC.out c hlt
            rw [Nat.mul_one,List.getD,hs] at h
            exact h)
          have HS:=hid hs
          clear hs
          by_cases he:s = nm
          · have q6:(s.toList == nm.toList) = true:=by rw [he];simp
            have HE:=hid he
            clear he
            go_wp2_with fail
            go_ret
            exact ⟨by rw [R.out,List.any_eq_true.2 ⟨s,List.mem_of_getElem? HS.out,by simpa using HE.out⟩];rfl,HBV.out⟩
          · have q6:(s.toList == nm.toList) = false:=beq_false_of_ne fun h=>he ((toListE s nm).1 h)
            have HE:=hid he
            clear he
            go_wp2_with fail
            go_round
            case rel=>exact ⟨c+1,by go_num,by omega,trivial,hid fun e h1 s' h2=>by
              by_cases e2:e = c
              · subst e2;rw [HS.out] at h2;cases h2;exact HE.out
              · exact hno.out e (by omega) s' h2⟩
            case measure=>simp [litLen];omega
        · obtain rfl:c = ns:=by omega
          go_wp2_with fail
          go_ret
          refine ⟨?_,HBV.out⟩
          rw [R.out,List.any_eq_false.2 fun s hs=>by
            obtain ⟨e,he,rfl⟩:=List.getElem_of_mem hs
            simpa using hno.out e (by have:=HNS.out;omega) _ (List.getElem?_eq_getElem he)]
          rfl
    · have q5:(xs != 5) = true:=by simpa using h5
      have R:Hid (hasSt d mode nm = false):=hid (by unfold hasSt;rw [hf];simp [h5])
      clear hf h5
      go_enter Tryz.func31,Tryz.ntmps31
      go_wp2_with (go_at_call 24;(with_reducible refine (FD.out _ hb0.out).mono ?_);rintro e w1 ⟨rfl,hb1⟩;have HB1:=hid (hb0.out.trans (hb1.mono hb0.out.size));have BX:=hid ((hb1.block _ (lt_of_heap B0.out)).trans B0.out);clear hb1)
      go_ret
      exact ⟨by rw [R.out];rfl,below_al HB1.out _⟩
end
section
open Go.RowKit Lx Go.Shelf Go.Maps
attribute [local go_sem] Oper.semAt_some
theorem run_make_boolsR (n:Nat) (hn:n≤1000000) (W:World):(Instr.makeSlice 69 (.int .i64 (n:Int)) (.int .i64 (n:Int))).run Tryz.prog W = .ok (.slice (some ⟨W.heap.size,0,none⟩) n n) (W.alloc (.cells (madeCells #[.bool false] n) 4)):=by
  obtain ⟨i,h2,h3,h4,h5⟩:=info_parts (show (Tryz.prog.info? 4).map (fun i=>(i.zero,i.size,i.bytes)) = some (some (.bool false),1,1) by kernel_rfl)
  have hr:=run_make (P:=Tryz.prog) W 69 4 i _ Tryz.underlying69 h2 h3 .i64 .i64 n n (by omega) (by omega) (by rw [h5];omega) (by omega)
  simp only [Int.toNat_natCast,h4,Nat.mul_one] at hr
  exact hr
theorem ix_boolR {g n:Nat} {j:Nat} (hj:j < n) (hn:n≤9223372036854775807):Ix 69 1 (.slice (some ⟨g,0,none⟩) n n) g 0 j:=by
  intro W
  have h1:(j:Int) < (n:Int):=by omega
  have h2:(j:Int)≤9223372036854775807:=by omega
  go_simp
theorem ix_intR {o:Option Addr} {n cap b off:Nat} (h:0 < n→o = some ⟨b,off,none⟩) {j:Nat} (hj:j < n) (hn:n≤9223372036854775807):Ix 33 1 (.slice o n cap) b off j:=ix_ints h hj hn
def BoolRow (X:World) (g ne:Nat) (S:Nat→Bool):Prop:=∃ cs:Array Value,X.heap[g]? = some (.cells cs 4 (0,0))∧cs.size = ne∧∀ j,j < ne→cs[j]? = some (.bool (S j))
theorem BoolRow.lt {X:World} {g ne:Nat} {S:Nat→Bool} (h:BoolRow X g ne S):g < X.heap.size:=by obtain ⟨cs,h1,_⟩:=h;exact lt_of_heap h1
theorem BoolRow.below {X Y:World} {g ne s:Nat} {S:Nat→Bool} (h:BoolRow X g ne S) (hb:Below s X Y) (hg:g < s):BoolRow Y g ne S:=by
  obtain ⟨cs,h1,h2⟩:=h
  exact ⟨cs,(hb.block g hg).trans h1,h2⟩
theorem BoolRow.cell {X:World} {g ne:Nat} {S:Nat→Bool} (h:BoolRow X g ne S) {j:Nat} (hj:j < ne):X.cell? ⟨g,j,none⟩ = some (.bool (S j))∧X.frozen? ⟨g,j,none⟩ = false:=by
  obtain ⟨cs,h1,h2,h3⟩:=h
  exact ⟨by simp [World.cell?,h1,h3 j hj],by simp [World.frozen?,h1]⟩
def setS (S:Nat→Bool) (z:Nat):Nat→Bool:=fun j=>if j = z then true else S j
theorem BoolRow.set {X:World} {g ne:Nat} {S:Nat→Bool} (h:BoolRow X g ne S) (z:Nat):BoolRow (X.setCell ⟨g,z,none⟩ (.bool true)) g ne (setS S z):=by
  obtain ⟨cs,h1,h2,h3⟩:=h
  refine ⟨_,set_heap h1 z _,by simp [h2],fun j hj=>?_⟩
  rw [Array.getElem?_setIfInBounds]
  unfold setS
  by_cases hji:z = j
  · subst hji;rw [if_pos rfl,if_pos (by omega),if_pos rfl]
  · rw [if_neg hji,h3 j hj,if_neg (Ne.symm hji)]
def kLenR:Value→Nat
  | .int _ z=>(z+1).toNat
  | _=>0
def ReachedPost (p:Pr) (d:De) (w:World) (r:Ending) (Y:World):Prop:=∃ (g:Nat) (S:Nat→Bool),r = .returned (.slice (some ⟨g,0,none⟩) p.exprs.length p.exprs.length)∧BoolRow Y g p.exprs.length S∧(∀ k,k < p.exprs.length→(S k = true↔Reach p (rootsN d) k))∧Below w.heap.size w Y
set_option maxHeartbeats 16000000 in
set_option maxRecDepth 100000 in
theorem reached_core (p:Pr) (d:De) (o1 o2:Option Addr) (n1 c1 ne c2 xb xoff:Nat) (v0:Value) (k0 t0 f0 q0:Int) (nm0:ByteArray) (op oi:Option Addr) (np cp ni ci:Nat) (hv0:v0 = .agg #[.int .i64 k0,.string nm0,.slice op np cp,.slice oi ni ci,.int .i64 t0,.int .i64 f0,.int .i64 q0]) (w:World) (hne:Hid (p.exprs.length = ne)) (nel:(ne:Int)≤300)
    (hx:Hid (0 < ne→o2 = some ⟨xb,xoff,none⟩)) (hxc:Hid (∀ i,i < ne→∀ x,p.exprs[i]? = some x→ExAt w xb (xoff+i*9) x)) (hdv:Hid (DeVal w v0 d)) (hdk:1≤d.kind) (hdi:d.items.length≤600) (hsm:Hid (Small p)) (hmay:Hid (mayP p = true)) (hro:Hid (∀ r∈rootsN d,∃ z:Nat,r = (z:Int)∧z < ne)) :
    Calls Tryz.prog 32 #[.agg #[.slice o1 n1 c1,.slice o2 ne c2],v0] w fun r Y=>ReachedPost p d w r Y:=by
  have hmk:=run_make_boolsR ne (by omega)
  have hb0:=hid (below_al (below_al (below_al (Below.refl w.heap.size w) (.cells #[.slice o1 n1 c1,.slice o2 ne c2] 25)) (.cells #[.int .i64 k0,.string nm0,.slice op np cp,.slice oi ni ci,.int .i64 t0,.int .i64 f0,.int .i64 q0] 44)) (.cells (madeCells #[.bool false] ne) 4))
  have RT:=hid (fun W (hW:Below w.heap.size w W)=>refRoots_any v0 d W (hdv.out.below hW) hdk hdi)
  subst hv0
  have P0:Hid ((((w.alloc (.cells #[.slice o1 n1 c1,.slice o2 ne c2] 25)).alloc (.cells #[.int .i64 k0,.string nm0,.slice op np cp,.slice oi ni ci,.int .i64 t0,.int .i64 f0,.int .i64 q0] 44)).alloc (.cells (madeCells #[.bool false] ne) 4)).heap[w.heap.size]? = some (.cells #[.slice o1 n1 c1,.slice o2 ne c2] 25 (0,0))):=hid (al_old (al_old (al_new rfl)))
  have R0:Hid (BoolRow (((w.alloc (.cells #[.slice o1 n1 c1,.slice o2 ne c2] 25)).alloc (.cells #[.int .i64 k0,.string nm0,.slice op np cp,.slice oi ni ci,.int .i64 t0,.int .i64 f0,.int .i64 q0] 44)).alloc (.cells (madeCells #[.bool false] ne) 4)) (w.heap.size+1+1) ne (fun _=>false)):=hid ⟨_,al_new (by simp),by simp [madeCells],fun j hj=>by rw [← Array.getElem?_toList,toList_madeCells_one,List.getElem?_replicate,if_pos hj]⟩
  go_enter Tryz.func32,Tryz.ntmps32
  go_wp2_with (go_at_call 23;(with_reducible refine (RT.out _ hb0.out).mono ?_);rintro e w1 ⟨rv,rfl,hrv,hb1⟩;have HRV:=hid hrv;have HB1:=hid (hb0.out.trans (hb1.mono hb0.out.size));have P1:=hid ((hb1.block _ (lt_of_heap P0.out)).trans P0.out);have R1:=hid (R0.out.below hb1 R0.out.lt);clear hb1;obtain ⟨ro,rcap,rb,roff,rfl,_,_,hr1,hr2⟩:=hrv)
  have HR1:=hid hr1
  have HR2:=hid hr2
  clear hr1 hr2 hmk
  obtain ⟨nr,hnr⟩:∃ nr,nr = (rootsN d).length:=⟨_,rfl⟩
  rw [← hnr] at HR1 HR2 ⊢
  have HNR:=hid hnr
  have nrl:(nr:Int)≤100000:=by have:=rootsN_len d;omega
  clear hnr
  go_loopw [7] (fun i wr=>∃ c:Nat,i = .int .i64 c∧c≤nr∧Hid (∃ S,BoolRow wr (w.heap.size+1+1) ne S∧(∀ k,k < ne→S k = true→Reach p (rootsN d) k)∧∀ e r,e < c→(rootsN d)[e]? = some (r:Int)→S r.toNat = true)∧Hid (Below w.heap.size w wr∧(∀ k,k < w1.heap.size→k≠w.heap.size+1+1→wr.heap[k]? = w1.heap[k]?)∧w1.heap.size≤wr.heap.size)) (fun i _=>nr - litLen i)
  case atStart=>exact ⟨0,rfl,Nat.zero_le _,hid ⟨_,R1.out,(fun k _ h=>by cases h),(fun e r h=>by omega)⟩,hid ⟨HB1.out,fun _ _ _=>rfl,Nat.le_refl _⟩⟩
  case round =>
    obtain ⟨c,rfl,hc,hS,hB⟩:=hrel
    rcases Nat.lt_or_ge c nr with hlt | hge
    · have hl:(c:Int) < (nr:Int):=by omega
      obtain ⟨r,hr⟩:∃ r,(rootsN d)[c]? = some r:=⟨_,List.getElem?_eq_getElem (by have:=HNR.out;omega)⟩
      obtain ⟨z,rfl,hz⟩:=hro.out r (List.mem_of_getElem? hr)
      have hrb:rb < w1.heap.size:=World.block_lt_of_cell? _ _ (HR2.out c hlt _ hr)
      have hrn:rb≠w.heap.size+1+1:=fun e=>by
        have h1:=HR2.out c hlt _ hr
        obtain ⟨cs,h2,h3,h4⟩:=R1.out
        rw [e] at h1
        unfold World.cell? at h1
        rw [h2] at h1
        dsimp only at h1
        rcases Nat.lt_or_ge (roff+c*1) ne with h5 | h5
        · rw [h4 _ h5] at h1;cases h1
        · rw [Array.getElem?_eq_none (by omega)] at h1;cases h1
      have cr:wr.cell? ⟨rb,roff+c,none⟩ = some (.int .i64 (z:Int)):=by
        have h1:=HR2.out c hlt _ hr
        rw [Nat.mul_one] at h1
        exact (cell_same' (hB.out.2.1 rb hrb hrn) _).trans h1
      have ixr:=ix_intR (cap:=rcap) HR1.out hlt (by omega)
      have ixz:=ix_boolR (g:=w.heap.size+1+1) hz (by omega)
      unfold Ix at ixr ixz
      simp only [Nat.mul_one,Nat.zero_add] at ixr ixz
      have zl:(z:Int) < (ne:Int):=by omega
      obtain ⟨S,h1,h2,h3⟩:=hS.out
      obtain ⟨g0,g1⟩:=h1.cell hz
      have HS2:Hid (∃ S,BoolRow (wr.setCell ⟨w.heap.size+1+1,z,none⟩ (.bool true)) (w.heap.size+1+1) ne S∧(∀ k,k < ne→S k = true→Reach p (rootsN d) k)∧∀ e r,e < c+1→(rootsN d)[e]? = some (r:Int)→S r.toNat = true):=hid ⟨_,h1.set z,fun k hk hs=>by
          unfold setS at hs
          by_cases e:k = z
          · subst e;exact .root (List.mem_of_getElem? hr)
          · rw [if_neg e] at hs;exact h2 k hk hs,fun e r he hr2=>by
          unfold setS
          by_cases e2:e = c
          · subst e2;rw [hr] at hr2;cases hr2;simp
          · split
            · rfl
            · exact h3 e r (by omega) hr2⟩
      have HB2:Hid (Below w.heap.size w (wr.setCell ⟨w.heap.size+1+1,z,none⟩ (.bool true))∧(∀ k,k < w1.heap.size→k≠w.heap.size+1+1→(wr.setCell ⟨w.heap.size+1+1,z,none⟩ (.bool true)).heap[k]? = w1.heap[k]?)∧w1.heap.size≤(wr.setCell ⟨w.heap.size+1+1,z,none⟩ (.bool true)).heap.size):=hid ⟨hB.out.1.setCell (p:=⟨w.heap.size+1+1,z,none⟩) (show w.heap.size≤w.heap.size+1+1 by omega) _,fun k h1 h2=>(set_other wr _ k z _ h2).trans (hB.out.2.1 k h1 h2),by simp only [World.size_setCell];exact hB.out.2.2⟩
      clear hS hB h1 h2 h3 hr hrb hrn
      go_wp2_with fail
      exact ⟨⟨c+1,by go_num,by omega,HS2,HB2⟩,by simp [litLen];omega⟩
    · obtain rfl:c = nr:=by omega
      have hpx:=(hB.out.2.1 w.heap.size (lt_of_heap P1.out) (by omega)).trans P1.out
      have b1:=(cells_two hpx).2
      have HS0:Hid (∃ S,BoolRow wr (w.heap.size+1+1) ne S∧(∀ k,k < ne→S k = true→Reach p (rootsN d) k)∧(∀ r,r∈rootsN d→S r.toNat = true)∧∀ e,ne≤e→e < ne→S e = true→∀ z∈partsN p e,S z = true):=hid (by
        obtain ⟨S,h1,h2,h3⟩:=hS.out
        exact ⟨S,h1,h2,fun r hr=>by obtain ⟨e,he,rfl⟩:=List.getElem_of_mem hr;exact h3 e _ (by rw [HNR.out];exact he) (List.getElem?_eq_getElem he),fun e h4 h5=>by omega⟩)
      have HB0:Hid (Below w.heap.size w wr∧wr.heap[w.heap.size]? = some (.cells #[.slice o1 n1 c1,.slice o2 ne c2] 25 (0,0))):=hid ⟨hB.out.1,hpx⟩
      clear hS hB hpx
      go_wp2_with fail
      clear b1
      go_loopw [8] (fun i X=>∃ (c:Nat) (z:Int),i = .int .i64 z∧Hid (z = (c:Int) - 1)∧c≤ne∧Hid (∃ S,BoolRow X (w.heap.size+1+1) ne S∧(∀ k,k < ne→S k = true→Reach p (rootsN d) k)∧(∀ r,r∈rootsN d→S r.toNat = true)∧∀ e,c≤e→e < ne→S e = true→∀ z∈partsN p e,S z = true)∧Hid (Below w.heap.size w X∧X.heap[w.heap.size]? = some (.cells #[.slice o1 n1 c1,.slice o2 ne c2] 25 (0,0)))) (fun i _=>kLenR i)
      case atStart=>exact ⟨ne,_,rfl,hid rfl,Nat.le_refl _,HS0,HB0⟩
      case round =>
        clear HS0 HB0
        obtain ⟨c,z,rfl,hz,hc,hS,hB⟩:=hrel
        rcases c with _ | c
        · have q0:decide ((0:Int)≤z) = false:=decide_eq_false (by have:=hz.out;omega)
          go_wp2_with fail
          go_ret
          obtain ⟨S,h1,h2,h3,h4⟩:=hS.out
          refine ⟨_,S,by rw [hne.out];rfl,by rw [hne.out];exact h1,fun k hk=>⟨h2 k (by rw [← hne.out];exact hk),fun hr=>?_⟩,hB.out.1⟩
          clear hk
          have key:∀ k,Reach p (rootsN d) k→k < ne∧S k = true:=fun k hr=>by
            induction hr with
            | @root n h=>exact ⟨by obtain ⟨z2,e1,e2⟩:=hro.out _ h;omega,by simpa using h3 _ h⟩
            | @part n m _ hm ih=>exact ⟨by have:=ahead_of hmay.out n m hm;omega,h4 n (Nat.zero_le _) ih.1 ih.2 m hm⟩
          exact (key k hr).2
        · obtain rfl:z = (c:Int):=by have:=hz.out;omega
          clear hz
          have hcn:c < ne:=hc
          have q0:(c:Int) < (ne:Int):=by omega
          obtain ⟨x,hxc2⟩:∃ x,p.exprs[c]? = some x:=⟨_,List.getElem?_eq_getElem (by rw [hne.out];exact hcn)⟩
          obtain ⟨s,e0,e1,e2,e3,e4,e5,e6,e7,e8,ha,hok⟩:=hxc.out c hcn x hxc2
          obtain ⟨oa,ca,ba,fa,rfl,_⟩:=id ha
          have hBl:=hB.out.1
          have p0:=cell_on hBl e0
          have p1:=cell_on hBl e1
          have p2:=cell_on hBl e2
          have p3:=cell_on hBl e3
          have p4:=cell_on hBl e4
          have p5:=cell_on hBl e5
          have p6:=cell_on hBl e6
          have p7:=cell_on hBl e7
          have p8:=cell_on hBl e8
          have b1:=(cells_two hB.out.2).2
          have ix:=ix_exs (cap:=c2) hx.out hcn (by omega)
          unfold Ix at ix
          have PF:=hid (refParts_any x (.slice oa x.args.length ca) wr (ha.mono fun _ _ _ _ h=>cell_on hBl h) (parts_small hsm.out hxc2))
          unfold exV exCells at PF
          have HPN:=hid (parts_nat hmay.out hxc2)
          have HPL:=hid (parts_small hsm.out hxc2)
          clear e0 e1 e2 e3 e4 e5 e6 e7 e8 ha hok hBl hxc2
          go_wp2_with (go_at_call 62;(with_reducible refine PF.out.mono ?_);rintro e w4 ⟨y,rfl,hy,hb4⟩;have HY:=hid hy;have HB4:=hid hb4;clear hy hb4)
          have hIV:=intsV_own HY.out
          obtain ⟨ao,acap,ab,aoff,rfl,_,_,ha1,ha2⟩:=hIV
          have HA1:=hid ha1
          have HA2:=hid ha2
          have hbase:∀ g2,(Value.slice ao (partsE x).length acap).ownBlock = some g2→wr.heap.size≤g2:=fun g2 h=>(own_lt HY.out h).1
          have hnb:0 < (partsE x).length→wr.heap.size≤ab:=fun h=>hbase ab (by rw [ha1 h];rfl)
          obtain ⟨np2,hnp2⟩:∃ np2,np2 = (partsE x).length:=⟨_,rfl⟩
          rw [← hnp2] at HA1 HA2 hnb ⊢
          have HNP:=hid hnp2
          have npl:(np2:Int)≤1000:=by have:=HPL.out;omega
          have HNB:=hid hnb
          have HS4:Hid (∃ S,BoolRow w4 (w.heap.size+1+1) ne S∧(∀ k,k < ne→S k = true→Reach p (rootsN d) k)∧(∀ r,r∈rootsN d→S r.toNat = true)∧(∀ e,c+1≤e→e < ne→S e = true→∀ z∈partsN p e,S z = true)∧(S c = true→∀ e,e < 0→∀ z,(partsN p c)[e]? = some z→S z = true)):=hid (by
            obtain ⟨S,h1,h2,h3,h4⟩:=hS.out
            exact ⟨S,h1.below HB4.out h1.lt,h2,h3,h4,fun _ e he=>by omega⟩)
          have HG:Hid (w.heap.size+1+1 < wr.heap.size):=hid (by obtain ⟨S,h1,_⟩:=hS.out;exact h1.lt)
          have HBB:Hid (Below w.heap.size w w4∧w4.heap[w.heap.size]? = some (.cells #[.slice o1 n1 c1,.slice o2 ne c2] 25 (0,0))):=hid ⟨hB.out.1.trans (HB4.out.mono hB.out.1.size),(HB4.out.block _ (lt_of_heap hB.out.2)).trans hB.out.2⟩
          clear hS hB ha1 ha2 hbase hnb hnp2 p0 p1 p2 p3 p4 p5 p6 p7 p8 b1 ix PF
          go_loopw [10] (fun i X=>∃ m:Nat,i = .int .i64 m∧m≤np2∧Hid (∃ S,BoolRow X (w.heap.size+1+1) ne S∧(∀ k,k < ne→S k = true→Reach p (rootsN d) k)∧(∀ r,r∈rootsN d→S r.toNat = true)∧(∀ e,c+1≤e→e < ne→S e = true→∀ z∈partsN p e,S z = true)∧(S c = true→∀ e,e < m→∀ z,(partsN p c)[e]? = some z→S z = true))∧Hid ((Below w.heap.size w X∧X.heap[w.heap.size]? = some (.cells #[.slice o1 n1 c1,.slice o2 ne c2] 25 (0,0)))∧(∀ k,k < w4.heap.size→k≠w.heap.size+1+1→X.heap[k]? = w4.heap[k]?))) (fun i _=>np2 - litLen i)
          case atStart=>exact ⟨0,rfl,Nat.zero_le _,HS4,hid ⟨HBB.out,fun _ _ _=>rfl⟩⟩
          case round =>
            clear HS4 HBB
            obtain ⟨m,rfl,hm,hS,hB⟩:=hrel
            obtain ⟨S,h1,h2,h3,h4,h5⟩:=hS.out
            have ixc:=ix_boolR (g:=w.heap.size+1+1) hcn (by omega)
            unfold Ix at ixc
            simp only [Nat.mul_one,Nat.zero_add] at ixc
            obtain ⟨g0,g1⟩:=h1.cell hcn
            have HB2:=hid hB.out.1
            have HC:Hid (S c = true→m = np2→∀ z∈partsN p c,S z = true):=hid fun hs hmn z hz=>by
              obtain ⟨e,he,rfl⟩:=List.getElem_of_mem hz
              have hlen:(partsE x).length = (partsN p c).length:=by have:=congrArg List.length HPN.out;simpa using this
              exact h5 hs e (by rw [hmn,HNP.out,hlen];exact he) _ (List.getElem?_eq_getElem he)
            have HEND:Hid ((S c = true→∀ z∈partsN p c,S z = true)→∃ S,BoolRow wr (w.heap.size+1+1) ne S∧(∀ k,k < ne→S k = true→Reach p (rootsN d) k)∧(∀ r,r∈rootsN d→S r.toNat = true)∧∀ e,c≤e→e < ne→S e = true→∀ z∈partsN p e,S z = true):=hid fun h=>⟨S,h1,h2,h3,fun e he hen hse z hz=>by
              by_cases e2:e = c
              · subst e2;exact h hse z hz
              · exact h4 e (by omega) hen hse z hz⟩
            rcases Nat.lt_or_ge m np2 with hlt | hge
            · have hl:(m:Int) < (np2:Int):=by omega
              cases hsc:S c with
              | false =>
                rw [hsc] at g0
                have HE2:=hid (HEND.out (fun h=>by rw [hsc] at h;cases h))
                clear hS hB h1 h2 h3 h4 h5 hsc
                go_wp2_with fail
                go_roundw
                case rel=>exact ⟨c,(c:Int) - 1,rfl,hid rfl,by omega,HE2,HB2⟩
                case measure=>show ((c:Int) - 1+1).toNat < ((c:Int)+1).toNat;omega
              | true =>
                rw [hsc] at g0
                obtain ⟨zz,hzz⟩:∃ zz,(partsN p c)[m]? = some zz:=⟨_,List.getElem?_eq_getElem (by
                  have hlen:(partsE x).length = (partsN p c).length:=by have:=congrArg List.length HPN.out;simpa using this
                  rw [← hlen,← HNP.out];exact hlt)⟩
                have hzc:zz < c:=ahead_of hmay.out c zz (List.mem_of_getElem? hzz)
                have hzn:zz < ne:=by omega
                have hpv:(partsE x)[m]? = some (zz:Int):=by
                  have h6:=congrArg (fun l=>l[m]?) HPN.out
                  simp only [List.getElem?_map,hzz,Option.map_some] at h6
                  cases h7:(partsE x)[m]? with
                  | none=>rw [h7] at h6;cases h6
                  | some q=>rw [h7] at h6;simp only [Option.map_some,Option.some.injEq,intV,natV,Value.int.injEq,true_and] at h6;rw [h6]
                have c4:=HA2.out m hlt _ hpv
                rw [Nat.mul_one] at c4
                have hab:ab < w4.heap.size:=World.block_lt_of_cell? _ _ c4
                have c5:=(cell_same' (hB.out.2 ab hab (by have:=HNB.out (by omega);have:=HG.out;omega)) _).trans c4
                have ixr:=ix_intR (cap:=acap) HA1.out hlt (by omega)
                have ixz:=ix_boolR (g:=w.heap.size+1+1) hzn (by omega)
                unfold Ix at ixr ixz
                simp only [Nat.mul_one,Nat.zero_add] at ixr ixz
                have zl:(zz:Int) < (ne:Int):=by omega
                obtain ⟨k0',k1'⟩:=h1.cell hzn
                have HN2:Hid (∃ S,BoolRow (wr.setCell ⟨w.heap.size+1+1,zz,none⟩ (.bool true)) (w.heap.size+1+1) ne S∧(∀ k,k < ne→S k = true→Reach p (rootsN d) k)∧(∀ r,r∈rootsN d→S r.toNat = true)∧(∀ e,c+1≤e→e < ne→S e = true→∀ z∈partsN p e,S z = true)∧(S c = true→∀ e,e < m+1→∀ z,(partsN p c)[e]? = some z→S z = true)):=hid ⟨setS S zz,h1.set zz,fun k hk hs=>by
                    unfold setS at hs
                    by_cases e:k = zz
                    · subst e;exact .part (h2 c hcn hsc) (List.mem_of_getElem? hzz)
                    · rw [if_neg e] at hs;exact h2 k hk hs,fun r hr=>by
                    unfold setS
                    split
                    · rfl
                    · exact h3 r hr,fun e he hen hse z hz=>by
                    unfold setS at hse ⊢
                    rw [if_neg (by omega)] at hse
                    split
                    · rfl
                    · exact h4 e he hen hse z hz,fun _ e he z hz=>by
                    unfold setS
                    by_cases e2:e = m
                    · subst e2;rw [hzz] at hz;cases hz;rw [if_pos rfl]
                    · split
                      · rfl
                      · exact h5 hsc e (by omega) z hz⟩
                have HB5:Hid ((Below w.heap.size w (wr.setCell ⟨w.heap.size+1+1,zz,none⟩ (.bool true))∧(wr.setCell ⟨w.heap.size+1+1,zz,none⟩ (.bool true)).heap[w.heap.size]? = some (.cells #[.slice o1 n1 c1,.slice o2 ne c2] 25 (0,0)))∧(∀ k,k < w4.heap.size→k≠w.heap.size+1+1→(wr.setCell ⟨w.heap.size+1+1,zz,none⟩ (.bool true)).heap[k]? = w4.heap[k]?)):=hid ⟨⟨hB.out.1.1.setCell (p:=⟨w.heap.size+1+1,zz,none⟩) (show w.heap.size≤w.heap.size+1+1 by omega) _,(set_other wr _ _ zz _ (by omega)).trans hB.out.1.2⟩,fun k h6 h7=>(set_other wr _ k zz _ h7).trans (hB.out.2 k h6 h7)⟩
                clear hS hB h1 h2 h3 h4 h5 hsc hzz hpv c4 HEND HC
                go_wp2_with fail
                go_roundw
                case rel=>exact ⟨m+1,by go_num,by omega,HN2,HB5⟩
                case measure=>simp [litLen];omega
            · obtain rfl:m = np2:=by omega
              have HE2:=hid (HEND.out (fun h=>HC.out h rfl))
              clear hS hB h1 h2 h3 h4 h5
              go_wp2_with fail
              go_roundw
              case rel=>exact ⟨c,(c:Int) - 1,rfl,hid rfl,by omega,HE2,HB2⟩
              case measure=>show ((c:Int) - 1+1).toNat < ((c:Int)+1).toNat;omega
end
section
open Go.RowKit Lx Go.Shelf Go.Maps
theorem sort_range {d:De} {x:Va} (hx:x∈varsN d):1≤x.sort∧x.sort≤5:=by
  unfold varsN varsP varsI at hx
  rcases List.mem_append.1 hx with h | h
  · obtain ⟨⟨a,k⟩,h1,rfl⟩:=List.mem_map.1 h
    dsimp only
    omega
  · obtain ⟨⟨a,k⟩,h1,h2⟩:=List.mem_filterMap.1 h
    dsimp only at h2
    split at h2
    · cases h2
    · rename_i hm
      cases h2
      dsimp only
      unfold madeS at hm ⊢
      repeat' split
      all_goals first | omega | (exfalso;omega)
theorem isAS_one (d:De) (nm:ByteArray) (k:Int):isAS d nm [k] = match (varsN d).find? (fun y=>decide (y.name = nm)) with
  | some v=>v.sort == k
  | none=>false:=by
  unfold isAS
  cases (varsN d).find? (fun y=>decide (y.name = nm)) <;> simp
theorem isAS_three (d:De) (nm:ByteArray):isAS d nm [2,3,4] = match (varsN d).find? (fun y=>decide (y.name = nm)) with
  | some v=>!(v.sort == 1 || v.sort == 5)
  | none=>false:=by
  unfold isAS
  cases h:(varsN d).find? (fun y=>decide (y.name = nm)) with
  | none=>rfl
  | some v =>
    obtain ⟨h1,h2⟩:=sort_range (List.mem_of_find?_eq_some h)
    have:v.sort = 1∨v.sort = 2∨v.sort = 3∨v.sort = 4∨v.sort = 5:=by omega
    dsimp only
    rcases this with e | e | e | e | e <;> rw [e] <;> rfl
theorem isAS_four (d:De) (nm:ByteArray):isAS d nm [1,2,3,4] = match (varsN d).find? (fun y=>decide (y.name = nm)) with
  | some v=>!(v.sort == 5)
  | none=>false:=by
  unfold isAS
  cases h:(varsN d).find? (fun y=>decide (y.name = nm)) with
  | none=>rfl
  | some v =>
    obtain ⟨h1,h2⟩:=sort_range (List.mem_of_find?_eq_some h)
    have:v.sort = 1∨v.sort = 2∨v.sort = 3∨v.sort = 4∨v.sort = 5:=by omega
    dsimp only
    rcases this with e | e | e | e | e <;> rw [e] <;> rfl
theorem cnt_all:∀ l:List (List UInt8),cntD l = l.length↔l.Nodup
  | []=>by simp [cntD]
  | x :: l=>by
    have h:=cntD_le l
    have ih:=cnt_all l
    unfold cntD
    rw [List.nodup_cons]
    by_cases hx:l.contains x = true
    · rw [if_pos hx]
      have hm:x∈l:=by simpa using hx
      simp only [List.length_cons]
      exact ⟨fun e=>by omega,fun e=>absurd hm e.1⟩
    · rw [if_neg hx]
      have hm:x ∉ l:=by simpa using hx
      simp only [List.length_cons]
      exact ⟨fun e=>⟨hm,ih.1 (by omega)⟩,fun e=>by have:=ih.2 e.2;omega⟩
theorem dupB_iff (l:List ByteArray):dupB l = true↔∃ i k,k < i∧i < l.length∧l[i]? = l[k]?:=by
  unfold dupB
  rw [decide_eq_true_eq]
  have hle:=cntD_le (l.map (fun s=>s.data.toList)).reverse
  have hall:=cnt_all (l.map (fun s=>s.data.toList)).reverse
  rw [List.length_reverse,List.length_map] at hle hall
  rw [(List.reverse_perm _).nodup_iff] at hall
  have hinj:∀ a b:ByteArray,a.data.toList = b.data.toList→a = b:=fun a b h=>ByteArray.ext (Array.toList_inj.1 h)
  constructor
  · intro hlt
    have hn:¬ (l.map (fun s=>s.data.toList)).Nodup:=fun h=>by have:=hall.2 h;omega
    apply Classical.byContradiction
    intro hno
    apply hn
    rw [List.nodup_iff_pairwise_ne,List.pairwise_iff_getElem]
    intro k i hk hi hki e
    rw [List.length_map] at hi hk
    apply hno
    refine ⟨i,k,hki,hi,?_⟩
    rw [List.getElem_map,List.getElem_map] at e
    rw [List.getElem?_eq_getElem hi,List.getElem?_eq_getElem hk,hinj _ _ e]
  · rintro ⟨i,k,hki,hi,e⟩
    have hn:¬ (l.map (fun s=>s.data.toList)).Nodup:=fun h=>by
      rw [List.nodup_iff_pairwise_ne,List.pairwise_iff_getElem] at h
      have hk:k < l.length:=by omega
      rw [List.getElem?_eq_getElem hi,List.getElem?_eq_getElem hk,Option.some.injEq] at e
      exact h k i (by rw [List.length_map];exact hk) (by rw [List.length_map];exact hi) hki (by rw [List.getElem_map,List.getElem_map,e])
    have:¬ cntD (l.map (fun s=>s.data.toList)).reverse = l.length:=fun h=>hn (hall.1 h)
    omega
theorem zip_find (nm:ByteArray):∀ (l:List De) (n:Nat),((l.zipIdx n).find? fun z=>decide (z.1.name = nm)).map (·.2) = (l.findIdx? fun d=>decide (d.name = nm)).map (n+·)
  | [],_=>rfl
  | x :: l,n=>by
    rw [List.zipIdx_cons,List.find?_cons,List.findIdx?_cons]
    by_cases h:x.name = nm
    · simp [h]
    · rw [decide_eq_false h]
      dsimp only
      rw [zip_find nm l (n+1)]
      simp only [Bool.false_eq_true,if_false,Option.map_map]
      congr 1
      funext i
      simp only [Function.comp]
      omega
theorem declIx_called (p:Pr) (nm:ByteArray):declIx p.decls nm = ((calledN p nm).map fun z=>(z.2:Int)).getD (-1):=by
  have h:=zip_find nm p.decls 0
  unfold declIx calledN
  cases hc:p.decls.zipIdx.find? (fun z=>decide (z.1.name = nm)) with
  | none =>
    rw [hc] at h
    cases hf:p.decls.findIdx? (fun d=>decide (d.name = nm)) with
    | none=>rfl
    | some i=>rw [hf] at h;cases h
  | some z =>
    rw [hc] at h
    cases hf:p.decls.findIdx? (fun d=>decide (d.name = nm)) with
    | none=>rw [hf] at h;cases h
    | some i =>
      rw [hf] at h
      simp only [Option.map_some,Option.some.injEq,Nat.zero_add] at h
      rw [← h];rfl
theorem firstIx_decl {p:Pr} {i:Nat} {d:De} (hd:p.decls[i]? = some d):firstIx p d.name = declIx p.decls d.name:=by
  rw [declIx_called]
  unfold firstIx
  cases hc:calledN p d.name with
  | some z=>rfl
  | none =>
    unfold calledN at hc
    have:=List.find?_eq_none.1 hc (d,i) (List.mem_zipIdx_iff_getElem?.2 hd)
    simp at this
end
section
open Go.RowKit Lx Go.Shelf Go.Maps
theorem nodup_sub:∀ (l m:List Int),l.Nodup→(∀ x∈l,x∈m)→l.length≤m.length
  | [],_,_,_=>Nat.zero_le _
  | a :: l,m,hn,hs=>by
    obtain ⟨h1,h2⟩:=List.nodup_cons.1 hn
    have hm:a∈m:=hs a List.mem_cons_self
    have h3:=nodup_sub l (m.erase a) h2 fun x hx=>by
      have hne:x≠a:=fun e=>h1 (e ▸ hx)
      exact (List.mem_erase_of_ne hne).2 (hs x (List.mem_cons_of_mem _ hx))
    have h4:=List.length_erase_of_mem hm
    have h5:=List.length_pos_of_mem hm
    simp only [List.length_cons]
    omega
def posL (p:Pr):List Int:=0 :: (p.decls.map (·.pos) ++ p.decls.flatMap (fun d=>d.items.map (·.pos)) ++ p.exprs.map (·.pos))
theorem flat_le {k:Nat}:∀ l:List De,(∀ d∈l,d.items.length≤k)→(l.flatMap (fun d=>d.items.map (·.pos))).length≤l.length*k
  | [],_=>Nat.zero_le _
  | d :: l,h=>by
    have h1:=flat_le l fun x hx=>h x (List.mem_cons_of_mem _ hx)
    have h2:=h d List.mem_cons_self
    rw [List.flatMap_cons,List.length_append,List.length_map,List.length_cons,Nat.add_mul]
    omega
theorem posL_len {p:Pr} (hs:Small p):(posL p).length≤100000:=by
  have h1:=flat_le p.decls (k:=600) fun d hd=>(hs.de d hd).2.1
  have h2:=hs.decls
  have h3:=hs.exprs
  have h4:p.decls.length*600≤60*600:=Nat.mul_le_mul_right _ h2
  unfold posL
  simp only [List.length_cons,List.length_append,List.length_map]
  omega
structure Got (P:Int→Prop) (l:List Flt):Prop where
  strict:StrictF l
  mem:∀ f,f∈l↔f.1 = 4∧P f.2
theorem Got.start {P:Int→Prop} (h:∀ a,¬ P a):Got P []:=⟨List.Pairwise.nil,fun f=>⟨fun h3=>(by cases h3),fun h2=>absurd h2.2 (h _)⟩⟩
theorem Got.ext {P Q:Int→Prop} {l:List Flt} (h:Got P l) (e:∀ a,P a↔Q a):Got Q l:=⟨h.strict,fun f=>by rw [h.mem,e]⟩
theorem Got.add {P Q:Int→Prop} {l:List Flt} {a:Int} (h:Got P l) (e:∀ b,Q b↔P b∨b = a):Got Q (addF l (4,a)):=⟨strict_add l _ h.strict,fun f=>by
  rw [mem_add,h.mem,e]
  constructor
  · rintro (rfl | ⟨h1,h2⟩)
    · exact ⟨rfl,.inr rfl⟩
    · exact ⟨h1,.inl h2⟩
  · rintro ⟨h1,h2 | h2⟩
    · exact .inr ⟨h1,h2⟩
    · exact .inl (Prod.ext h1 h2)⟩
theorem Got.len {P:Int→Prop} {l:List Flt} (h:Got P l) {m:List Int} (hm:∀ a,P a→a∈m):l.length≤m.length:=by
  have hn:(l.map (·.2)).Nodup:=by
    rw [List.nodup_iff_pairwise_ne,List.pairwise_map]
    refine h.strict.imp_of_mem fun {a b} ha hb hab e=>?_
    have h1:=((h.mem a).1 ha).1
    have h2:=((h.mem b).1 hb).1
    rw [show a = b from Prod.ext (h1.trans h2.symm) e] at hab
    exact ltF_irr _ hab
  have h2:=nodup_sub (l.map (·.2)) m hn fun x hx=>by
    obtain ⟨f,hf,rfl⟩:=List.mem_map.1 hx
    exact hm _ ((h.mem f).1 hf).2
  rwa [List.length_map] at h2
theorem Got.one {P:Int→Prop} {l m:List Flt} (h:Got P l) (h2:Got P m):l = m:=strict_ext h.strict h2.strict fun x=>by rw [h.mem,h2.mem]
def okV (d:De) (nm:ByteArray):Bool:=((varsN d).find? (fun v=>decide (v.name = nm))).isSome
def refI (d:De) (i:Int) (k:Int) (nm st nx:ByteArray) (l:List ByteArray):Bool :=
  if k = 1∨k = 2∨k = 4∨k = 6 then ((lookV d nm).sort == 1 || (lookV d nm).index != i) || (k == 6 && dupB l)
  else if k = 3 then !okV d nm || (lookV d nm).sort != 3
  else if k = 5 then !okV d nm || (lookV d nm).sort != 4
  else if k = 7 then !hasSt d nm st || !hasSt d nm nx
  else if k = 8 then (!okV d nm || (lookV d nm).sort == 1) || (lookV d nm).sort == 5
  else false
theorem isAS_ok (d:De) (nm:ByteArray) (k:Int):(!isAS d nm [k]) = (!okV d nm || (lookV d nm).sort != k):=by
  rw [isAS_one]
  unfold okV lookV
  cases (varsN d).find? (fun v=>decide (v.name = nm)) <;> simp [bne]
theorem isAS_ok3 (d:De) (nm:ByteArray):(!isAS d nm [2,3,4]) = ((!okV d nm || (lookV d nm).sort == 1) || (lookV d nm).sort == 5):=by
  rw [isAS_three]
  unfold okV lookV
  cases (varsN d).find? (fun v=>decide (v.name = nm)) <;> simp
theorem isAS_ok4 (d:De) (nm:ByteArray):(!isAS d nm [1,2,3,4]) = (!okV d nm || (lookV d nm).sort == 5):=by
  rw [isAS_four]
  unfold okV lookV
  cases (varsN d).find? (fun v=>decide (v.name = nm)) <;> simp
theorem refI_eq (d:De) (i:Nat) (x:It):badI d i x = refI d i x.kind x.name x.state x.next x.states:=by
  unfold badI takenI missI refI
  rw [isAS_ok,isAS_ok,isAS_ok3]
  unfold madeS
  by_cases h1:x.kind = 1
  · simp [h1]
  by_cases h2:x.kind = 2
  · simp [h2]
  by_cases h4:x.kind = 4
  · simp [h4]
  by_cases h6:x.kind = 6
  · simp [h6]
  simp only [h1,h2,h4,h6,if_false,or_self,if_true,Bool.false_or]
def refE (p:Pr) (d:De) (x:Ex):Bool :=
  if x.kind = 19 then (match calledN p x.name with
    | some z=>z.1.kind == 3 || ((z.1.params.length:Int) != (x.args.length:Int))
    | none=>true)
  else if x.kind = 20 then !hasSt d x.name x.state
  else if x.kind = 3 then !okV d x.name || (lookV d x.name).sort == 5 else false
theorem refE_eq (p:Pr) (d:De) (x:Ex):wrongE p d x = refE p d x:=by
  unfold wrongE refE
  rw [isAS_ok4]
  by_cases h1:x.kind = 3
  · rw [if_pos h1,if_neg (by omega),if_neg (by omega),if_pos h1]
  · by_cases h2:x.kind = 20
    · rw [if_neg h1,if_pos h2,if_neg (by omega),if_pos h2]
    · rw [if_neg h1,if_neg h2]
      by_cases h3:x.kind = 19
      · rw [if_pos h3,if_pos h3]
        cases calledN p x.name <;> rfl
      · rw [if_neg h3,if_neg h3,if_neg h2,if_neg h1]
def RefIs (d:De) (c:Nat) (a:Int):Prop:=∃ j x,j < c∧d.items[j]? = some x∧refI d j x.kind x.name x.state x.next x.states = true∧a = x.pos
def RefPs (d:De) (c:Nat):Prop:=∃ i k,k < i∧i < c∧i < d.params.length∧(d.params.map (·.name))[i]? = (d.params.map (·.name))[k]?
def RefEs (p:Pr) (d:De) (c:Nat) (a:Int):Prop:=∃ e x,e < c∧Reach p (rootsN d) e∧p.exprs[e]? = some x∧refE p d x = true∧a = x.pos
def RefD (p:Pr) (i:Nat) (d:De):Prop:=(d.kind = 3∧1 < hybs (p.decls.take (i+1)))∨declIx p.decls d.name≠(i:Int)
def RefIn (p:Pr) (i:Nat) (d:De) (a:Int):Prop:=((RefD p i d∨RefPs d d.params.length)∧a = d.pos)∨RefIs d d.items.length a∨RefEs p d p.exprs.length a
def RefTo (p:Pr) (c:Nat) (a:Int):Prop:=∃ i d,i < c∧p.decls[i]? = some d∧RefIn p i d a
theorem refTo_succ {p:Pr} {c:Nat} {d:De} (hd:p.decls[c]? = some d) (a:Int):RefTo p (c+1) a↔RefTo p c a∨RefIn p c d a:=by
  unfold RefTo
  constructor
  · rintro ⟨i,e,h1,h2,h3⟩
    by_cases hi:i = c
    · subst hi;rw [hd] at h2;cases h2;exact .inr h3
    · exact .inl ⟨i,e,by omega,h2,h3⟩
  · rintro (⟨i,e,h1,h2,h3⟩ | h)
    · exact ⟨i,e,by omega,h2,h3⟩
    · exact ⟨c,d,by omega,hd,h⟩
theorem refIs_succ {d:De} {c:Nat} {x:It} (hx:d.items[c]? = some x) (a:Int):RefIs d (c+1) a↔RefIs d c a∨(refI d c x.kind x.name x.state x.next x.states = true∧a = x.pos):=by
  unfold RefIs
  constructor
  · rintro ⟨i,e,h1,h2,h3⟩
    by_cases hi:i = c
    · subst hi;rw [hx] at h2;cases h2;exact .inr h3
    · exact .inl ⟨i,e,by omega,h2,h3⟩
  · rintro (⟨i,e,h1,h2,h3⟩ | h)
    · exact ⟨i,e,by omega,h2,h3⟩
    · exact ⟨c,x,by omega,hx,h⟩
theorem refEs_succ {p:Pr} {d:De} {c:Nat} {x:Ex} (hx:p.exprs[c]? = some x) (a:Int):RefEs p d (c+1) a↔RefEs p d c a∨(Reach p (rootsN d) c∧refE p d x = true∧a = x.pos):=by
  unfold RefEs
  constructor
  · rintro ⟨i,e,h1,h0,h2,h3⟩
    by_cases hi:i = c
    · subst hi;rw [hx] at h2;cases h2;exact .inr ⟨h0,h3⟩
    · exact .inl ⟨i,e,by omega,h0,h2,h3⟩
  · rintro (⟨i,e,h1,h2,h3⟩ | ⟨h0,h⟩)
    · exact ⟨i,e,by omega,h2,h3⟩
    · exact ⟨c,x,by omega,h0,hx,h⟩
theorem refD_eq {p:Pr} {i:Nat} {d:De} (hd:p.decls[i]? = some d):twiceD p i d = true↔RefD p i d:=by
  unfold twiceD RefD
  rw [firstIx_decl hd]
  simp only [Bool.or_eq_true,bne_iff_ne,Bool.and_eq_true,beq_iff_eq,decide_eq_true_eq]
  exact or_comm
theorem mem_declsU {p:Pr} {a:Int}:a∈declsU p p.decls.length↔∃ i d,p.decls[i]? = some d∧twiceD p i d = true∧a = d.pos:=by
  unfold declsU
  rw [List.take_length,List.mem_filterMap]
  constructor
  · rintro ⟨⟨d,i⟩,h1,h2⟩
    have h3:=List.mem_zipIdx_iff_getElem?.1 h1
    dsimp only at h2 h3
    split at h2
    · rename_i ht;cases h2;exact ⟨i,d,h3,ht,rfl⟩
    · cases h2
  · rintro ⟨i,d,h1,h2,rfl⟩
    exact ⟨(d,i),List.mem_zipIdx_iff_getElem?.2 h1,by dsimp only;rw [if_pos h2]⟩
theorem mem_itemsU {d:De} {a:Int}:a∈itemsU d d.items.length↔RefIs d d.items.length a:=by
  unfold itemsU RefIs
  rw [List.take_length,List.mem_filterMap]
  constructor
  · rintro ⟨⟨x,i⟩,h1,h2⟩
    have h3:=List.mem_zipIdx_iff_getElem?.1 h1
    dsimp only at h2 h3
    split at h2
    · rename_i ht
      cases h2
      exact ⟨i,x,(List.getElem?_eq_some_iff.1 h3).1,h3,by rw [← refI_eq];exact ht,rfl⟩
    · cases h2
  · rintro ⟨i,x,_,h1,h2,rfl⟩
    exact ⟨(x,i),List.mem_zipIdx_iff_getElem?.2 h1,by dsimp only;rw [refI_eq,if_pos h2]⟩
theorem mem_itemsP {d:De} {a:Int}:a∈itemsP d↔RefPs d d.params.length∧a = d.pos:=by
  have h:=dupB_iff (d.params.map (·.name))
  rw [List.length_map] at h
  have e:RefPs d d.params.length↔dupB (d.params.map (·.name)) = true:=by
    rw [h]
    unfold RefPs
    constructor
    · rintro ⟨i,k,h1,h2,_,h4⟩;exact ⟨i,k,h1,h2,h4⟩
    · rintro ⟨i,k,h1,h2,h4⟩;exact ⟨i,k,h1,h2,h2,h4⟩
  rw [e]
  unfold itemsP
  by_cases hd:dupB (d.params.map (·.name)) = true
  · rw [if_pos hd];simp [hd]
  · rw [if_neg hd];simp [hd]
theorem refTo_all {p:Pr} (hm:mayN p = true) (a:Int):WrongAt p a↔RefTo p p.decls.length a∨(hybs p.decls = 0∧a = 0):=by
  unfold WrongAt declsW itemsW RefTo RefIn
  have h0:a∈(if hybs p.decls = 0 then [(0:Int)] else [])↔hybs p.decls = 0∧a = 0:=by split <;> simp [*]
  rw [List.mem_append,mem_declsU,h0]
  constructor
  · rintro ⟨_,((⟨i,d,h1,h2,h3⟩ | h) | ⟨d,hd,h | ⟨k,x,h1,h2,h3,h4⟩⟩)⟩
    · exact .inl ⟨i,d,(List.getElem?_eq_some_iff.1 h1).1,h1,.inl ⟨.inl ((refD_eq h1).1 h2),h3⟩⟩
    · exact .inr h
    · obtain ⟨i,hi⟩:=List.mem_iff_getElem?.1 hd
      rcases List.mem_append.1 h with h | h
      · obtain ⟨h5,h6⟩:=mem_itemsP.1 h
        exact .inl ⟨i,d,(List.getElem?_eq_some_iff.1 hi).1,hi,.inl ⟨.inr h5,h6⟩⟩
      · exact .inl ⟨i,d,(List.getElem?_eq_some_iff.1 hi).1,hi,.inr (.inl (mem_itemsU.1 h))⟩
    · obtain ⟨i,hi⟩:=List.mem_iff_getElem?.1 hd
      exact .inl ⟨i,d,(List.getElem?_eq_some_iff.1 hi).1,hi,.inr (.inr ⟨k,x,(List.getElem?_eq_some_iff.1 h2).1,h1,h2,by rw [← refE_eq];exact h3,h4⟩)⟩
  · refine fun h=>⟨hm,?_⟩
    rcases h with ⟨i,d,_,hi,(⟨h5 | h5,h6⟩ | h5 | ⟨k,x,_,h1,h2,h3,h4⟩)⟩ | h
    · exact .inl (.inl ⟨i,d,hi,(refD_eq hi).2 h5,h6⟩)
    · exact .inr ⟨d,List.mem_of_getElem? hi,.inl (List.mem_append.2 (.inl (mem_itemsP.2 ⟨h5,h6⟩)))⟩
    · exact .inr ⟨d,List.mem_of_getElem? hi,.inl (List.mem_append.2 (.inr (mem_itemsU.2 h5)))⟩
    · exact .inr ⟨d,List.mem_of_getElem? hi,.inr ⟨k,x,h1,h2,by rw [refE_eq];exact h3,h4⟩⟩
    · exact .inl (.inr h)
theorem refTo_pos {p:Pr} {c:Nat} {a:Int} (h:RefTo p c a):a∈posL p:=by
  obtain ⟨i,d,_,hi,h⟩:=h
  have hd:=List.mem_of_getElem? hi
  unfold posL
  rcases h with ⟨_,rfl⟩ | ⟨j,x,_,hx,_,rfl⟩ | ⟨e,x,_,_,hx,_,rfl⟩
  · exact List.mem_cons_of_mem _ (List.mem_append.2 (.inl (List.mem_append.2 (.inl (List.mem_map.2 ⟨d,hd,rfl⟩)))))
  · exact List.mem_cons_of_mem _ (List.mem_append.2 (.inl (List.mem_append.2 (.inr (List.mem_flatMap.2 ⟨d,hd,List.mem_map.2 ⟨x,List.mem_of_getElem? hx,rfl⟩⟩)))))
  · exact List.mem_cons_of_mem _ (List.mem_append.2 (.inr (List.mem_map.2 ⟨x,List.mem_of_getElem? hx,rfl⟩)))
theorem ordF_got {l:List Flt} {P:Int→Prop} (h:∀ x,x∈l↔∃ a,P a∧x = (4,a)):Got P (ordF l):=⟨(ord_spec l).1,fun f=>by
  rw [(ord_spec l).2,h]
  constructor
  · rintro ⟨a,h1,rfl⟩;exact ⟨rfl,h1⟩
  · rintro ⟨h1,h2⟩;exact ⟨f.2,h2,Prod.ext h1 rfl⟩⟩
end
end Go.Proofs.YtdlmfeflinbbjaaGreat
