import Derived.Test.YtdlmfeflinbbjaaGreatNmJA
import Derived.Test.YtdlmfeflinbbjaaGreatShelf
import Derived.Test.YtdlmfeflinbbjaaGreatNmJB
import Derived.Test.YtdlmfeflinbbjaaGreatOwnKit
import Derived.Test.YtdlmfeflinbbjaaGreatTailIn
import Derived.RangeFuncBox
import Derived.RangeFuncNested
import Derived.Maps.AppendAt
import Derived.Maps.OwnIn
namespace Go.Proofs.YtdlmfeflinbbjaaGreat
open Go.Lib (hid)
section
open Go.RowKit Lx Go.Shelf
def madeS (k:Int):Int:=if k = 1 then 2 else if k = 2 then 3 else if k = 4 then 4 else if k = 6 then 5 else 0
def madeT (k t:Int):Int:=if k = 1 then t else if k = 2 then 1 else if k = 4 then t else 0
set_option maxHeartbeats 4000000 in
theorem made_any (k t e f p:Int) (nm st nx:ByteArray) (o:Option Addr) (n c:Nat) (w:World):Calls Tryz.prog 64 #[.agg #[.int .i64 k,.string nm,.int .i64 t,.int .i64 e,.int .i64 f,.slice o n c,.string st,.string nx,.int .i64 p]] w fun r w'=>r = .returned (.tuple #[.int .i64 (madeS k),.int .i64 (madeT k t)])∧Below w.heap.size w w':=by
  have hal:=hid ((Below.refl w.heap.size w).alloc (Nat.le_refl _) (.cells #[.int .i64 k,.string nm,.int .i64 t,.int .i64 e,.int .i64 f,.slice o n c,.string st,.string nx,.int .i64 p] 62))
  have hdr:Hid (Below w.heap.size w (w.alloc (.cells #[.int .i64 k,.string nm,.int .i64 t,.int .i64 e,.int .i64 f,.slice o n c,.string st,.string nx,.int .i64 p] 62)).drew):=hid ⟨hal.out.os,hal.out.tape,hal.out.output,hal.out.size,hal.out.block⟩
  have mixed : Tryz.prog.follows .mixedOrders = true:=by kernel_rfl
  by_cases h1:k = 1
  · subst h1
    go_enter Tryz.func64,Tryz.ntmps64
    go_wp2_with fail
    go_region_o
    all_goals (
      go_wp2_with fail
      go_ret2
      exact ⟨rfl,hdr.out⟩)
  by_cases h2:k = 2
  · subst h2
    go_enter Tryz.func64,Tryz.ntmps64
    go_wp2_with fail
    go_ret2
    exact ⟨rfl,hal.out⟩
  by_cases h4:k = 4
  · subst h4
    go_enter Tryz.func64,Tryz.ntmps64
    go_wp2_with fail
    go_region_o
    all_goals (
      go_wp2_with fail
      go_ret2
      exact ⟨rfl,hdr.out⟩)
  by_cases h6:k = 6
  · subst h6
    go_enter Tryz.func64,Tryz.ntmps64
    go_wp2_with fail
    go_ret2
    exact ⟨rfl,hal.out⟩
  have e1:madeS k = 0:=by unfold madeS;rw [if_neg h1,if_neg h2,if_neg h4,if_neg h6]
  have e2:madeT k t = 0:=by unfold madeT;rw [if_neg h1,if_neg h2,if_neg h4]
  have E:=hid (And.intro e1 e2)
  have r1:(k == 1) = false:=by simpa using h1
  have r2:(k == 2) = false:=by simpa using h2
  have r4:(k == 4) = false:=by simpa using h4
  have r6:(k == 6) = false:=by simpa using h6
  clear e1 e2
  go_enter Tryz.func64,Tryz.ntmps64
  go_wp2_with fail
  go_ret2
  exact ⟨by rw [E.out.1,E.out.2];rfl,hal.out⟩
def VarV (nm:ByteArray) (a b c:Int):Value:=.agg #[.string nm,.int .i64 a,.int .i64 b,.int .i64 c]
theorem set_hp {W:World} {g:Nat} {cs:Array Value} {T:TypeId} {fr:Nat × Nat} (h:W.heap[g]? = some (.cells cs T fr)) (i:Nat) (v:Value):(W.setCell ⟨g,i,none⟩ v).heap[g]? = some (.cells (cs.setIfInBounds i v) T fr):=by
  have hl:=(Array.getElem?_eq_some_iff.1 h).1
  simp [World.setCell,Array.getElem?_modify,h]
theorem set_ot {W:World} {g b:Nat} (h:b≠g) (i:Nat) (v:Value):(W.setCell ⟨b,i,none⟩ v).heap[g]? = W.heap[g]?:=by
  simp [World.setCell,Array.getElem?_modify,h]
theorem results_cell {fn:Func} {t:Tmp} {ty:TypeId} {P:Program} {w:World} {v:Value} (h:fn.results = #[.cell t ty]) (tmps:Array Value) (a:Addr) (ha:tmps.getD t undef = .pointer (some a)) (hl:(loadVar ty a).run P w = .ok v w):(results fn tmps).run P w = .ok v w:=by
  have ha' : tmps[t]?.getD undef = .pointer (some a):=by simpa [Array.getD_eq_getD_getElem?] using ha
  simp [results,h,ha',hl,asAddr]
theorem cells_four {W:World} {B:Nat} {a b c d:Value} {T:TypeId} (h:W.heap[B]? = some (.cells #[a,b,c,d] T (0,0))):(W.cell? ⟨B,0,none⟩ = some a∧W.cell? ⟨B,1,none⟩ = some b∧W.cell? ⟨B,2,none⟩ = some c∧W.cell? ⟨B,3,none⟩ = some d)∧W.frozen? ⟨B,0,none⟩ = false∧W.frozen? ⟨B,1,none⟩ = false∧W.frozen? ⟨B,2,none⟩ = false∧W.frozen? ⟨B,3,none⟩ = false :=
  ⟨⟨by simp [World.cell?,h],by simp [World.cell?,h],by simp [World.cell?,h],by simp [World.cell?,h]⟩,by simp [World.frozen?,h],by simp [World.frozen?,h],by simp [World.frozen?,h],by simp [World.frozen?,h]⟩
end
section
open Go.RowKit Lx Go.Shelf
def DeVal (W:World) (v:Value) (x:De):Prop:=∃ s t,v = .agg #[.int .i64 x.kind,.string x.name,s,t,.int .i64 x.type,.int .i64 x.e,.int .i64 x.pos] ∧
  SlAt s x.params.length 2 (fun b o i=>∀ y,x.params[i]? = some y→PaAt W b o y)∧SlAt t x.items.length 9 (fun b o i=>∀ y,x.items[i]? = some y→ItAt W b o y)∧DeOk x
theorem DeVal.below {w w' : World} {v:Value} {x:De} (h:DeVal w v x) (hb:Below w.heap.size w w'):DeVal w' v x:=by
  obtain ⟨s,t,h1,h2,h3,h4⟩:=h
  exact ⟨s,t,h1,h2.mono fun _ _ _ _ h y hy=>(h y hy).below hb,h3.mono fun _ _ _ _ h y hy=>(h y hy).below hb,h4⟩
def noDe:De:=⟨0,⟨#[]⟩,[],[],0,0,0⟩
def declN (p:Pr) (d:Int):De:=if 0≤d∧d < (p.decls.length:Int)∧mayN p = true then p.decls[d.toNat]?.getD noDe else noDe
theorem seven_froz {W:World} {B:Nat} {T:TypeId} {u0 u1 u2 u3 u4 u5 u6:Value} (h:W.heap[B]? = some (.cells #[u0,u1,u2,u3,u4,u5,u6] T (0,0))):(∀ j,W.frozen? ⟨B,j,none⟩ = false)∧W.cell? ⟨B,0,none⟩ = some u0∧W.cell? ⟨B,1,none⟩ = some u1∧W.cell? ⟨B,2,none⟩ = some u2∧W.cell? ⟨B,3,none⟩ = some u3∧W.cell? ⟨B,4,none⟩ = some u4∧W.cell? ⟨B,5,none⟩ = some u5∧W.cell? ⟨B,6,none⟩ = some u6 :=
  ⟨fun j=>by simp [World.frozen?,h],by simp [World.cell?,h],by simp [World.cell?,h],by simp [World.cell?,h],by simp [World.cell?,h],by simp [World.cell?,h],by simp [World.cell?,h],by simp [World.cell?,h]⟩
end
section
structure Va where
  name:ByteArray
  sort:Int
  type:Int
  index:Int
def varsP (l:List Pa):List Va:=l.zipIdx.map fun z=>⟨z.1.name,1,z.1.type,z.2⟩
def varsI (l:List It):List Va:=l.zipIdx.filterMap fun z=>if madeS z.1.kind = 0 then none else some ⟨z.1.name,madeS z.1.kind,madeT z.1.kind z.1.type,z.2⟩
def varsN (d:De):List Va:=varsP d.params ++ varsI d.items
theorem varsP_take (l:List Pa) (c:Nat) (x:Pa) (h:l[c]? = some x):varsP (l.take (c+1)) = varsP (l.take c) ++ [⟨x.name,1,x.type,c⟩]:=by
  have hl:=(List.getElem?_eq_some_iff.1 h).1
  unfold varsP
  rw [List.take_add_one,h]
  simp [List.zipIdx_append,Nat.min_eq_left (Nat.le_of_lt hl)]
theorem varsI_take (l:List It) (c:Nat) (x:It) (h:l[c]? = some x):varsI (l.take (c+1)) = varsI (l.take c) ++ if madeS x.kind = 0 then [] else [⟨x.name,madeS x.kind,madeT x.kind x.type,c⟩]:=by
  have hl:=(List.getElem?_eq_some_iff.1 h).1
  unfold varsI
  rw [List.take_add_one,h]
  simp only [Option.toList_some,List.zipIdx_append,List.filterMap_append]
  congr 1
  by_cases hm:madeS x.kind = 0 <;> simp [hm,Nat.min_eq_left (Nat.le_of_lt hl)]
theorem varsP_len (l:List Pa):(varsP l).length = l.length:=by simp [varsP]
theorem varsI_len (l:List It):(varsI l).length≤l.length:=by
  unfold varsI
  refine Nat.le_trans (List.length_filterMap_le _ _) ?_
  simp
def firstDown (l:List Va) (nm:ByteArray):Nat→Nat→Nat
  | 0,f=>f
  | k+1,f=>firstDown l nm k (if (l[k]?.map (·.name)) = some nm then k else f)
theorem find_first {l:List Va} {nm:ByteArray} {r:Nat} {x:Va} (h1:l[r]? = some x) (h2:x.name = nm) (h3:∀ j,j < r→∀ y,l[j]? = some y→¬ y.name = nm):l.find? (fun y=>decide (y.name = nm)) = some x:=by
  obtain ⟨hr,rfl⟩:=List.getElem?_eq_some_iff.1 h1
  rw [List.find?_eq_some_iff_getElem]
  exact ⟨by simpa using h2,r,hr,rfl,fun j hj=>by simpa using h3 j hj _ (List.getElem?_eq_getElem (by omega))⟩
end
section
open Go.RowKit Lx Go.Shelf
attribute [local go_sem] Oper.semAt_some
structure Near (M:Nat→Prop) (rw:World→Option Nat) (w:World):Prop where
  old:∀ k,M k→k < w.heap.size
  row:∀ k,rw w = some k→k < w.heap.size
  same:∀ X Y:World,(∀ k,k < w.heap.size→Y.heap[k]? = X.heap[k]?)→rw Y = rw X
def Kept (M:Nat→Prop) (rw:World→Option Nat) (w X:World):Prop:=w.heap.size≤X.heap.size∧(∀ k,rw X = some k→rw w = some k∨w.heap.size≤k)∧∀ k,Still M rw w k→X.heap[k]? = w.heap[k]?
theorem Kept.keep {M:Nat→Prop} {rw:World→Option Nat} {w X Y:World} (h:Kept M rw w X) (k:KeepM M rw w.heap.size X Y):Kept M rw w Y:=by
  refine ⟨Nat.le_trans h.1 k.1,fun j hj=>?_,fun j hj=>?_⟩
  · rcases k.2.2 j hj with e | ⟨e,_⟩
    · exact h.2.1 j e
    · exact .inr (Nat.le_trans h.1 e)
  · refine (k.2.1 j (Nat.lt_of_lt_of_le hj.1 h.1) hj.2.1 (fun e=>?_) (.inl hj.1)).trans (h.2.2 j hj)
    rcases h.2.1 j e with e2 | e2
    · exact hj.2.2 e2
    · have:=hj.1;omega
theorem Kept.below {M:Nat→Prop} {rw:World→Option Nat} {w X Y:World} (hN:Near M rw w) (h:Kept M rw w X) (hb:Below X.heap.size X Y):Kept M rw w Y:=by
  have hs:rw Y = rw X:=hN.same X Y fun k hk=>hb.block k (Nat.lt_of_lt_of_le hk h.1)
  exact ⟨Nat.le_trans h.1 hb.size,fun k hk=>h.2.1 k (by rwa [hs] at hk),fun k hk=>(hb.block k (Nat.lt_of_lt_of_le hk.1 h.1)).trans (h.2.2 k hk)⟩
theorem Kept.start {M:Nat→Prop} {rw:World→Option Nat} {w W:World} (hN:Near M rw w) (hb:Below w.heap.size w W):Kept M rw w W :=
  ⟨hb.size,fun k hk=>.inl (by rwa [hN.same w W fun k hk=>hb.block k hk] at hk),fun k hk=>hb.block k hk.1⟩
theorem varsP_pre (l:List Pa) (c:Nat):varsP (l.take c) <+: varsP l:=by
  obtain ⟨t,ht⟩:∃ t,varsP (l.take c ++ l.drop c) = varsP (l.take c) ++ t:=⟨_,by unfold varsP;rw [List.zipIdx_append,List.map_append]⟩
  rw [List.take_append_drop] at ht
  exact ⟨t,ht.symm⟩
theorem varsI_pre (l:List It) (c:Nat):varsI (l.take c) <+: varsI l:=by
  obtain ⟨t,ht⟩:∃ t,varsI (l.take c ++ l.drop c) = varsI (l.take c) ++ t:=⟨_,by unfold varsI;rw [List.zipIdx_append,List.filterMap_append]⟩
  rw [List.take_append_drop] at ht
  exact ⟨t,ht.symm⟩
def vaE (v:Va):Array Value:=#[VarV v.name v.sort v.type v.index]
set_option maxHeartbeats 8000000 in
set_option maxRecDepth 100000 in
theorem vars_core (n:Nat) (d:De) (op oi:Option Addr) (capp capi bp fp bi fi np ni:Nat) (hnp:Hid (d.params.length = np)) (hni:Hid (d.items.length = ni)) (lp' : (np:Int)≤1000000) (li' : (ni:Int)≤1000000) (M:Nat→Prop) (rw:World→Option Nat) (B:Nat) (w:World)
    (hA:Hid (Near M rw w)) (hB:Hid (Still M rw w B)) (hc:Hid (w.heap[B]? = some (.cells #[.int .i64 d.kind,.string d.name,.slice op np capp,.slice oi ni capi,.int .i64 d.type,.int .i64 d.e,.int .i64 d.pos] 44 (0,0))))
    (hop:Hid (0 < np→op = some ⟨bp,fp,none⟩)) (hoi:Hid (0 < ni→oi = some ⟨bi,fi,none⟩)) (hSp:Hid (0 < np→Still M rw w bp)) (hSi:Hid (0 < ni→Still M rw w bi))
    (hvp:Hid (∀ j,j < np→∀ x,d.params[j]? = some x→PaAt w bp (fp+j*2) x)) (hvi:Hid (∀ j,j < ni→∀ x,d.items[j]? = some x→ItAt w bi (fi+j*9) x)) (lp:Nat) (J Jx:List Va→World→Prop)
    (W:World) (hW:Hid (Below w.heap.size w W)) (hJ:Hid (∀ s X Y,J s X→X.grownBy Y none→J s Y))
    (hY:Hid (∀ pre (v:Va) W1,J pre W1→pre ++ [v] <+: varsN d→YieldAt Fence.wide (n - 1) Tryz.prog lp (vaE v) W1 fun e W' =>
      (e = .returned (.bool true)∧J (pre ++ [v]) W'∧KeepM M rw w.heap.size W1 W')∨(e = .returned (.bool false)∧Jx (pre ++ [v]) W')))
    (h0:Hid (J [] W)) :
    CallsIn Fence.wide n Tryz.prog 63 #[.func (.yield lp) #[] #[],.pointer (some ⟨B,0,none⟩)] W fun e W'=>(∃ v,e = .returned v) ∧
      ((∃ ys:List Va,ys = varsN d∧J ys W')∨(∃ pre:List Va,pre <+: varsN d∧Jx pre W')):=by
  have hBW:W.heap[B]? = some (.cells #[.int .i64 d.kind,.string d.name,.slice op np capp,.slice oi ni capi,.int .i64 d.type,.int .i64 d.e,.int .i64 d.pos] 44 (0,0)):=(hW.out.block _ hB.out.1).trans hc.out
  obtain ⟨_,b0,b1,b2,b3,b4,b5,b6⟩:=seven_froz hBW
  have HK:=hid (Kept.start hA.out hW.out)
  clear hBW b0 b1 b4 b5 b6
  refine callsIn_of_wp Tryz.func63 rfl trivial ?_ rfl
  simp only [Tryz.ntmps63,List.size_toArray,List.length_cons,List.length_nil,Nat.reduceAdd,Nat.reduceSub,Array.replicate_succ,Array.replicate_zero,List.push_toArray,List.append_toArray,List.nil_append,List.cons_append]
  gi_wp2_with fail
  clear b2 b3
  gi_loopw [12] (fun i wr=>∃ (j:Nat),i = .int .i64 j∧Hid (j≤np)∧Hid (J (varsP (d.params.take j)) wr)∧Hid (Kept M rw w wr)) (fun i _=>np - litLen i)
  case atStart=>exact ⟨0,rfl,hid (Nat.zero_le _),h0,HK⟩
  case round =>
    obtain ⟨j,rfl,hj,hJp,hKp⟩:=hrel
    have jl:=hj.out
    rcases Nat.lt_or_ge j np with hlt | hge
    · have q3:(j:Int) < (np:Int):=by omega
      have ix:Ix 41 2 (.slice op np capp) bp fp j:=by
        intro W
        rw [hop.out (by omega)]
        have h1:(j:Int) < (np:Int):=by omega
        have h2:(j:Int)≤9223372036854775807:=by omega
        go_simp
      unfold Ix at ix
      obtain ⟨x,hx⟩:∃ x,d.params[j]? = some x:=⟨_,List.getElem?_eq_getElem (by have:=hnp.out;omega)⟩
      have hp:=hvp.out j hlt x hx
      have p0:wr.cell? ⟨bp,fp+j*2,none⟩ = some (.string x.name):=(cell_same' (hKp.out.2.2 _ (hSp.out (by omega))) _).trans hp.1
      have p1:wr.cell? ⟨bp,fp+j*2+1,none⟩ = some (.int .i64 x.type):=(cell_same' (hKp.out.2.2 _ (hSp.out (by omega))) _).trans hp.2.1
      have HX:=hid hx
      clear hp hx
      have HJa:=hid (hJ.out _ _ _ hJp.out (World.grownBy_alloc wr (.cells #[.string x.name,.int .i64 x.type] 67) none))
      have HKa:=hid (hKp.out.below hA.out ((Below.refl wr.heap.size wr).alloc (Nat.le_refl _) (.cells #[.string x.name,.int .i64 x.type] 67)))
      have hlen:varsP (d.params.take j) ++ [⟨x.name,1,x.type,j⟩] <+: varsN d:=by
        rw [← varsP_take _ _ _ HX.out]
        exact (varsP_pre _ _).trans (List.prefix_append _ _)
      obtain ⟨fn,tmps,assign,body,hy,hR⟩:=hY.out _ ⟨x.name,1,x.type,j⟩ _ HJa.out hlen
      have hy' : (Instr.yield lp #[.agg #[.string x.name,.int .i64 1,.int .i64 x.type,.int .i64 (j:Int)]]).run Tryz.prog (wr.alloc (.cells #[.string x.name,.int .i64 x.type] 67)) = .ok (.round lp fn tmps assign body) (wr.alloc (.cells #[.string x.name,.int .i64 x.type] 67)):=hy
      have HR:=hid hR
      have HT:Hid (varsP (d.params.take j) ++ [⟨x.name,1,x.type,j⟩] = varsP (d.params.take (j+1))):=hid (varsP_take _ _ _ HX.out).symm
      clear hy hR hlen
      gi_wp2_with fail
      refine ⟨fun h=>(by cases h),HR.out.mono ?_⟩
      rintro e W3 (⟨rfl,hJ3,hk3⟩ | ⟨rfl,hJx3⟩)
      · have HK3:=hid (HKa.out.keep hk3)
        have HJ3:=hid hJ3
        rw [HT.out] at HJ3
        clear hJ3 hk3
        gi_wp2_with fail
        go_roundw
        case rel=>exact ⟨j+1,by go_num,hid (by omega),HJ3,HK3⟩
        case measure=>simp [litLen];omega
      · have HJx3:=hid hJx3
        rw [HT.out] at HJx3
        clear hJx3
        gi_wp2_with fail
        refine bodyPost_ret (results_none rfl _ _ _) rfl ?_
        exact ⟨⟨_,rfl⟩,.inr ⟨_,(varsP_pre _ _).trans (List.prefix_append _ _),HJx3.out⟩⟩
    · obtain rfl:j = np:=by omega
      have HJ1:=hid hJp.out
      rw [show d.params.take j = d.params by rw [← hnp.out];exact List.take_length] at HJ1
      have hBr:=(hKp.out.2.2 _ hB.out).trans hc.out
      obtain ⟨_,b0,b1,b2,b3,b4,b5,b6⟩:=seven_froz hBr
      have HK1:=hid hKp.out
      clear hJp hKp hBr b0 b1 b2 b4 b5 b6
      gi_wp2_with fail
      clear b3
      gi_loopw [30] (fun i wr=>∃ (k:Nat),i = .int .i64 k∧Hid (k≤ni)∧Hid (J (varsP d.params ++ varsI (d.items.take k)) wr)∧Hid (Kept M rw w wr)) (fun i _=>ni - litLen i)
      case atStart=>exact ⟨0,rfl,hid (Nat.zero_le _),(by simpa [varsI] using HJ1),HK1⟩
      case round =>
        clear HJ1 HK1
        obtain ⟨k,rfl,hk,hJq,hKq⟩:=hrel
        have kl:=hk.out
        rcases Nat.lt_or_ge k ni with hlt | hge
        · have q3:(k:Int) < (ni:Int):=by omega
          have ix:Ix 42 9 (.slice oi ni capi) bi fi k:=by
            intro W
            rw [hoi.out (by omega)]
            have h1:(k:Int) < (ni:Int):=by omega
            have h2:(k:Int)≤9223372036854775807:=by omega
            go_simp
          unfold Ix at ix
          obtain ⟨x,hx⟩:∃ x,d.items[k]? = some x:=⟨_,List.getElem?_eq_getElem (by have:=hni.out;omega)⟩
          obtain ⟨os,caps,iok,i0,i1,i2,i3,i4,i5,i6,i7,i8⟩:=it_cells (hvi.out k hlt x hx)
          have hb:=hKq.out.2.2 _ (hSi.out (by omega))
          have p0:=(cell_same' hb _).trans i0
          have p1:=(cell_same' hb _).trans i1
          have p2:=(cell_same' hb _).trans i2
          have p3:=(cell_same' hb _).trans i3
          have p4:=(cell_same' hb _).trans i4
          have p5:=(cell_same' hb _).trans i5
          have p6:=(cell_same' hb _).trans i6
          have p7:=(cell_same' hb _).trans i7
          have p8:=(cell_same' hb _).trans i8
          have HX:=hid hx
          clear hx hb i0 i1 i2 i3 i4 i5 i6 i7 i8 iok
          obtain ⟨S,hSd⟩:∃ S,S = madeS x.kind:=⟨_,rfl⟩
          obtain ⟨T,hTd⟩:∃ T,T = madeT x.kind x.type:=⟨_,rfl⟩
          have MD:Hid (∀ W,Calls Tryz.prog 64 #[.agg #[.int .i64 x.kind,.string x.name,.int .i64 x.type,.int .i64 x.e,.int .i64 x.f,.slice os x.states.length caps,.string x.state,.string x.next,.int .i64 x.pos]] W fun r w'=>r = .returned (.tuple #[.int .i64 S,.int .i64 T])∧Below W.heap.size W w'):=hid (fun W=>by rw [hSd,hTd];exact made_any _ _ _ _ _ _ _ _ _ _ _ W)
          have HIT:Hid (varsI (d.items.take (k+1)) = varsI (d.items.take k) ++ if S = 0 then [] else [⟨x.name,S,T,k⟩]):=hid (by rw [hSd,hTd];exact varsI_take _ _ _ HX.out)
          have HJa:=hid (hJ.out _ _ _ hJq.out (World.grownBy_alloc wr (.cells #[.int .i64 x.kind,.string x.name,.int .i64 x.type,.int .i64 x.e,.int .i64 x.f,.slice os x.states.length caps,.string x.state,.string x.next,.int .i64 x.pos] 62) none))
          have HKa:=hid (hKq.out.below hA.out ((Below.refl wr.heap.size wr).alloc (Nat.le_refl _) (.cells #[.int .i64 x.kind,.string x.name,.int .i64 x.type,.int .i64 x.e,.int .i64 x.f,.slice os x.states.length caps,.string x.state,.string x.next,.int .i64 x.pos] 62)))
          have HBX:Hid ((wr.alloc (.cells #[.int .i64 x.kind,.string x.name,.int .i64 x.type,.int .i64 x.e,.int .i64 x.f,.slice os x.states.length caps,.string x.state,.string x.next,.int .i64 x.pos] 62)).heap[wr.heap.size]? = some (.cells #[.int .i64 x.kind,.string x.name,.int .i64 x.type,.int .i64 x.e,.int .i64 x.f,.slice os x.states.length caps,.string x.state,.string x.next,.int .i64 x.pos] 62 (0,0))):=hid (al_new rfl)
          clear hSd hTd
          gi_wp2_with fail
          refine ⟨trivial,fun h=>(by cases h),(callsIn_wide.2 (MD.out _)).mono ?_⟩
          rintro e w1 ⟨rfl,hb1⟩
          have h1:=(hb1.block _ (lt_of_heap HBX.out)).trans HBX.out
          have r1:w1.cell? ⟨wr.heap.size,1,none⟩ = some (.string x.name):=by simp [World.cell?,h1]
          have HJb:=hid (hJ.out _ _ _ HJa.out ⟨hb1.os,hb1.tape,hb1.output,hb1.size,fun k hk _=>hb1.block k hk⟩)
          have HKb:=hid (HKa.out.below hA.out hb1)
          clear h1 hb1 HJa HKa HBX
          dsimp only
          by_cases hz:S = 0
          · have HT:Hid (varsI (d.items.take (k+1)) = varsI (d.items.take k)):=hid (by rw [HIT.out,if_pos hz,List.append_nil])
            have qz:(S != 0) = false:=by simp [hz]
            clear hz
            gi_wp2_with fail
            refine ⟨fun f h=>(by cases h),?_⟩
            gi_wp2_with fail
            go_roundw
            case rel=>exact ⟨k+1,by go_num,hid (by omega),(by rw [HT.out];exact HJb),HKb⟩
            case measure=>simp [litLen];omega
          · have HT:Hid (varsP d.params ++ varsI (d.items.take k) ++ [⟨x.name,S,T,k⟩] = varsP d.params ++ varsI (d.items.take (k+1))):=hid (by rw [HIT.out,if_neg hz,List.append_assoc])
            have qz:(S != 0) = true:=by simpa using hz
            have hlen:varsP d.params ++ varsI (d.items.take k) ++ [⟨x.name,S,T,k⟩] <+: varsN d:=by
              rw [HT.out]
              exact (List.prefix_append_right_inj _).2 (varsI_pre _ _)
            obtain ⟨fn,tmps,assign,body,hy,hR⟩:=hY.out _ ⟨x.name,S,T,k⟩ _ HJb.out hlen
            have hy' : (Instr.yield lp #[.agg #[.string x.name,.int .i64 S,.int .i64 T,.int .i64 (k:Int)]]).run Tryz.prog w1 = .ok (.round lp fn tmps assign body) w1:=hy
            have HR:=hid hR
            clear hy hR hlen hz
            gi_wp2_with fail
            refine ⟨fun h=>(by cases h),HR.out.mono ?_⟩
            rintro e W3 (⟨rfl,hJ3,hk3⟩ | ⟨rfl,hJx3⟩)
            · have HK3:=hid (HKb.out.keep hk3)
              have HJ3:=hid hJ3
              rw [HT.out] at HJ3
              clear hJ3 hk3
              gi_wp2_with fail
              go_roundw
              case rel=>exact ⟨k+1,by go_num,hid (by omega),HJ3,HK3⟩
              case measure=>simp [litLen];omega
            · have HJx3:=hid hJx3
              rw [HT.out] at HJx3
              clear hJx3
              gi_wp2_with fail
              refine bodyPost_ret (results_none rfl _ _ _) rfl ?_
              exact ⟨⟨_,rfl⟩,.inr ⟨_,(List.prefix_append_right_inj _).2 (varsI_pre _ _),HJx3.out⟩⟩
        · obtain rfl:k = ni:=by omega
          have HJ2:=hid hJq.out
          rw [show d.items.take k = d.items by rw [← hni.out];exact List.take_length] at HJ2
          gi_wp2_with fail
          go_end0
          exact ⟨⟨_,rfl⟩,.inl ⟨_,rfl,HJ2.out⟩⟩
def DeSrc (M:Nat→Prop) (rw:World→Option Nat) (w:World) (d:De) (B:Nat):Prop:=∃ s t,w.heap[B]? = some (.cells #[.int .i64 d.kind,.string d.name,s,t,.int .i64 d.type,.int .i64 d.e,.int .i64 d.pos] 44 (0,0))∧Still M rw w B ∧
  SlAt s d.params.length 2 (fun b o i=>Still M rw w b∧∀ y,d.params[i]? = some y→PaAt w b o y)∧SlAt t d.items.length 9 (fun b o i=>Still M rw w b∧∀ y,d.items[i]? = some y→ItAt w b o y)
theorem vars_stops (n:Nat) (d:De) (B:Nat) (M:Nat→Prop) (rw:World→Option Nat) (w:World) (hA:Near M rw w) (hs:DeSrc M rw w d B) (h1:d.params.length≤1000000) (h2:d.items.length≤1000000) :
    SeqStopsK (α:={v:Va // v∈varsN d}) Fence.wide n Tryz.prog 63 #[.pointer (some ⟨B,0,none⟩)] (fun v=>vaE v.1) (KeepM M rw w.heap.size) (fun ys=>ys.map (·.1) = varsN d) (fun pre=>pre.map (·.1) <+: varsN d) (varsN d).length w:=by
  obtain ⟨s,t,hB,hS,⟨op,capp,bp,fp,rfl,_,_,hp1,hp2⟩,⟨oi,capi,bi,fi,rfl,_,_,hi1,hi2⟩⟩:=hs
  intro lp J Jx W hW hJ _ hY h0
  refine (vars_core n d op oi capp capi bp fp bi fi _ _ (hid rfl) (hid rfl) (by omega) (by omega) M rw B w (hid hA) (hid hS) (hid hB) (hid hp1) (hid hi1)
    (hid fun h=>(hp2 0 h).1) (hid fun h=>(hi2 0 h).1) (hid fun j hj=>(hp2 j hj).2) (hid fun j hj=>(hi2 j hj).2) lp (fun l W=>∃ l' : List {v:Va // v∈varsN d},l'.map (·.1) = l∧J l' W) (fun l W=>∃ l' : List {v:Va // v∈varsN d},l'.map (·.1) = l∧Jx l' W) W (hid hW)
    (hid ?_) (hid ?_) (hid ⟨[],rfl,h0⟩)).mono ?_
  · rintro s X Y ⟨l',e,h⟩ h2
    exact ⟨l',e,hJ l' X Y none h h2 (fun r e=>by cases e)⟩
  · rintro pre v W1 ⟨l',rfl,hj⟩ hp
    have hv:v∈varsN d:=hp.subset (by simp)
    have hl:l'.length < (varsN d).length:=by have:=hp.length_le;simp at this;omega
    obtain ⟨fn,tmps,assign,body,e1,e2⟩:=hY l' ⟨v,hv⟩ W1 hj hl
    refine ⟨fn,tmps,assign,body,e1,e2.mono ?_⟩
    rintro e W' (⟨rfl,h1,h2⟩ | ⟨rfl,h1⟩)
    · exact .inl ⟨rfl,⟨l' ++ [⟨v,hv⟩],by simp,h1⟩,h2⟩
    · exact .inr ⟨rfl,⟨l' ++ [⟨v,hv⟩],by simp,h1⟩⟩
  · rintro e W' ⟨hv,(⟨ys,rfl,l',e,h⟩ | ⟨pre,hp,l',rfl,h⟩)⟩
    · exact ⟨hv,.inl ⟨l',e,h⟩⟩
    · exact ⟨hv,.inr ⟨l',hp,h⟩⟩
end
section
open Go.RowKit Lx Go.Shelf
theorem deSrc_of {w W:World} {s t:Value} {d:De} {B:Nat} {M:Nat→Prop} {rw:World→Option Nat} (hs:SlAt s d.params.length 2 (fun b o i=>∀ y,d.params[i]? = some y→PaAt w b o y)) (ht:SlAt t d.items.length 9 (fun b o i=>∀ y,d.items[i]? = some y→ItAt w b o y)) (hb:Below w.heap.size w W)
    (hB:W.heap[B]? = some (.cells #[.int .i64 d.kind,.string d.name,s,t,.int .i64 d.type,.int .i64 d.e,.int .i64 d.pos] 44 (0,0))) (hM:∀ k,M k→w.heap.size≤k∧k≠B) (hr:∀ k,rw W = some k→w.heap.size≤k∧k≠B):DeSrc M rw W d B:=by
  have still:∀ k,k < w.heap.size→Still M rw W k:=fun k hk=>⟨Nat.lt_of_lt_of_le hk hb.size,fun h=>by have:=(hM k h).1;omega,fun h=>by have:=(hr k h).1;omega⟩
  refine ⟨s,t,hB,⟨lt_of_heap hB,fun h=>(hM B h).2 rfl,fun h=>(hr B h).2 rfl⟩,hs.mono fun b o i hi h=>?_,ht.mono fun b o i hi h=>?_⟩
  · obtain ⟨y,hy⟩:∃ y,d.params[i]? = some y:=⟨_,List.getElem?_eq_getElem hi⟩
    exact ⟨still _ (World.block_lt_of_cell? _ _ (h y hy).1),fun z hz=>(h z hz).below hb⟩
  · obtain ⟨y,hy⟩:∃ y,d.items[i]? = some y:=⟨_,List.getElem?_eq_getElem hi⟩
    obtain ⟨_,h0,_⟩:=h y hy
    exact ⟨still _ (World.block_lt_of_cell? _ _ h0),fun z hz=>(h z hz).below hb⟩
end
section
open Go.RowKit Lx Go.Shelf
attribute [local go_sem] Oper.semAt_some
theorem var_info:(Tryz.prog.info? 36).map (fun i=>(i.zero,i.size,i.bytes)) = some (some (.agg #[.string ByteArray.empty,.int .i64 0,.int .i64 0,.int .i64 0]),4,40):=by kernel_rfl
def vaC (v:Va):List Value:=[.string v.name,.int .i64 v.sort,.int .i64 v.type,.int .i64 v.index]
def vaCs (l:List Va):List Value:=l.flatMap vaC
theorem vaCs_snoc (l:List Va) (x:Va):vaCs (l ++ [x]) = vaCs l ++ vaC x:=by simp [vaCs]
def VasAt (W:World) (s:Value) (l:List Va):Prop:=SlAt s l.length 4 fun b o i=>∀ x,l[i]? = some x→W.cell? ⟨b,o,none⟩ = some (.string x.name)∧W.cell? ⟨b,o+1,none⟩ = some (.int .i64 x.sort)∧W.cell? ⟨b,o+2,none⟩ = some (.int .i64 x.type)∧W.cell? ⟨b,o+3,none⟩ = some (.int .i64 x.index)
theorem VasAt.below {w w' : World} {s:Value} {l:List Va} (h:VasAt w s l) (hb:Below w.heap.size w w'):VasAt w' s l:=h.mono fun _ _ _ _ h x hx=>⟨cell_on hb (h x hx).1,cell_on hb (h x hx).2.1,cell_on hb (h x hx).2.2.1,cell_on hb (h x hx).2.2.2⟩
theorem vaCs_get (l:List Va):∀ (i:Nat) (x:Va),l[i]? = some x→∀ j,j < 4→(vaCs l)[i*4+j]? = (vaC x)[j]?:=by
  induction l with
  | nil=>intro i x h;simp at h
  | cons y l ih =>
    intro i x h j hj
    have e:vaCs (y :: l) = vaC y ++ vaCs l:=by simp [vaCs]
    rw [e]
    cases i with
    | zero =>
      simp at h
      subst h
      rw [List.getElem?_append_left (by simp [vaC];omega)]
      simp
    | succ i =>
      rw [List.getElem?_append_right (by simp [vaC];omega)]
      rw [show (i+1)*4+j - (vaC y).length = i*4+j by simp [vaC];omega]
      exact ih i x (by simpa using h) j hj
theorem vasAt_own {W:World} {B:Nat} {v:Value} {l:List Va} (h:W.ownsRow B 36 4 v l.length (vaCs l)):VasAt W v l:=by
  have h0:=h
  obtain ⟨hlen,h1 | ⟨g,cap,cur,rfl,hb,hg,hnc,hcm,hcs,htk⟩⟩:=h
  · rw [h1.1]
    unfold VasAt
    rw [h1.2]
    exact slAt_none _ _ _ _ _ ⟨Nat.zero_le _,fun _=>rfl⟩ rfl
  · have hc:=h0.cells (g:=g) rfl
    refine slAt_some hnc hcm fun i _ x hx=>?_
    have hz:∀ j,j < 4→(⟨g,0,none⟩:Addr).add (i*4+j) = ⟨g,i*4+j,none⟩:=fun j _=>by unfold Addr.add;split <;> simp_all
    have k:∀ j u,j < 4→(vaC x)[j]? = some u→W.cell? ⟨g,i*4+j,none⟩ = some u:=fun j u hj hu=>by
      rw [← hz j hj]
      exact hc _ _ ((vaCs_get l i x hx j hj).trans hu)
    rw [Nat.zero_add]
    exact ⟨k 0 _ (by omega) rfl,k 1 _ (by omega) rfl,k 2 _ (by omega) rfl,k 3 _ (by omega) rfl⟩
def VInv (w:World) (N:Nat) (pre:List Va) (W:World):Prop :=
  (∃ v,Boxed W (w.heap.size+1) 31 v∧W.ownsRow (w.heap.size+1+1) 36 4 v pre.length (vaCs pre))∧Below w.heap.size w W∧N≤W.heap.size
def VarX (P D:Value) (d:Int) (q B N:Nat) (x:Va) (a:Act) (W:World):Prop :=
  ∃ X,N≤X∧W.heap[X]? = some (.cells #[.string x.name,.int .i64 x.sort,.int .i64 x.type,.int .i64 x.index] 36 (0,0)) ∧
    a = { tmps:=#[P,.int .i64 d,.pointer (some ⟨q,0,none⟩),undef,.slice none 0 0,.pointer (some ⟨q+1,0,none⟩),.pointer (some ⟨X,0,none⟩),P,.int .i64 d,D,.func (.func 63) #[] #[.pointer (some ⟨B,0,none⟩)],VarV x.name x.sort x.type x.index,undef,undef,undef,undef,undef,undef],defers:=[] }
theorem keep_below {B:Nat} {W Y:World} (h:Below W.heap.size W Y):KeepsFrom B W Y:=⟨h.size,fun k _ _ hk _=>(h.block k (lt_of_heap hk)).trans hk⟩
theorem cell_four_new (W:World) (a b c d:Value) (T:TypeId) (j:Nat) (u:Value) (h : [a,b,c,d][j]? = some u):(W.alloc (.cells #[a,b,c,d] T)).cell? ((⟨W.heap.size,0,none⟩:Addr).add j) = some u:=by
  have e:(⟨W.heap.size,0,none⟩:Addr).add j = ⟨W.heap.size,j,none⟩:=by unfold Addr.add;split <;> simp_all
  rw [e,World.cell?_alloc_new,← h,← Array.getElem?_toList]
theorem va_name {D:De} {W:World} {v:Value} (h:DeVal W v D):∀ x∈varsN D,x.name.size≤281474976710656:=by
  obtain ⟨s,t,_,h1,h2,_⟩:=h
  intro x hx
  unfold varsN at hx
  rcases List.mem_append.1 hx with hx | hx
  · unfold varsP at hx
    obtain ⟨⟨y,i⟩,hy,rfl⟩:=List.mem_map.1 hx
    obtain ⟨_,_,_,_,_,_,_,_,hp⟩:=h1
    have hyi:=List.mk_mem_zipIdx_iff_getElem?.1 hy
    obtain ⟨_,_,h3,_⟩:=hp i (List.getElem?_eq_some_iff.1 hyi).1 y hyi
    unfold reachN at h3
    show y.name.size≤_
    omega
  · unfold varsI at hx
    obtain ⟨⟨y,i⟩,hy,hf⟩:=List.mem_filterMap.1 hx
    dsimp only at hf
    split at hf
    · cases hf
    · cases hf
      obtain ⟨_,_,_,_,_,_,_,_,hp⟩:=h2
      have hyi:=List.mk_mem_zipIdx_iff_getElem?.1 hy
      obtain ⟨os,caps,iok,_⟩:=it_cells (hp i (List.getElem?_eq_some_iff.1 hyi).1 y hyi)
      have h3:=iok.name
      unfold reachN at h3
      show y.name.size≤_
      omega
theorem varsN_len (D:De) (h:D.params.length≤600∧D.items.length≤600):(varsN D).length≤1200:=by
  unfold varsN
  have:=varsP_len D.params
  have:=varsI_len D.items
  rw [List.length_append]
  omega
end
section
open Go.RowKit Lx Go.Shelf
attribute [local go_sem] Oper.semAt_some
def noVa:Va:=⟨⟨#[]⟩,0,0,0⟩
def vaB (x:Va):Array Value:=#[.string x.name,.int .i64 x.sort,.int .i64 x.type,.int .i64 x.index]
def FdInv (w:World) (nm:ByteArray) (N:Nat) (pre:List Va) (W:World):Prop :=
  W.heap[w.heap.size+1]? = some (.cells #[.string nm] 9 (0,0))∧W.heap[w.heap.size+1+1]? = some (.cells (vaB noVa) 36 (0,0))∧W.heap[w.heap.size+1+1+1]? = some (.cells #[.bool false] 4 (0,0)) ∧
  (∀ y∈pre,¬ y.name = nm)∧Below w.heap.size w W∧N≤W.heap.size
def FdLeft (w:World) (nm:ByteArray) (N:Nat) (c:Code) (pre:List Va) (W:World):Prop :=
  c = .ret∧∃ pre' x,pre = pre' ++ [x]∧x.name = nm∧(∀ y∈pre',¬ y.name = nm)∧W.heap[w.heap.size+1+1]? = some (.cells (vaB x) 36 (0,0))∧W.heap[w.heap.size+1+1+1]? = some (.cells #[.bool true] 4 (0,0))∧Below w.heap.size w W∧N≤W.heap.size
def FdX (P D:Value) (nm:ByteArray) (d:Int) (q B N:Nat) (x:Va) (a:Act) (W:World):Prop :=
  ∃ X,N≤X∧W.heap[X]? = some (.cells #[.string x.name,.int .i64 x.sort,.int .i64 x.type,.int .i64 x.index] 36 (0,0)) ∧
    a = { tmps:=#[P,.int .i64 d,.string nm,.pointer (some ⟨q,0,none⟩),undef,.pointer (some ⟨q+1,0,none⟩),.pointer (some ⟨q+1+1,0,none⟩),.pointer (some ⟨q+1+1+1,0,none⟩),.pointer (some ⟨X,0,none⟩),P,.int .i64 d,D,.func (.func 63) #[] #[.pointer (some ⟨B,0,none⟩)],VarV x.name x.sort x.type x.index,undef,undef,undef,undef,undef,undef,undef],defers:=[] }
theorem toListE (a b:ByteArray):a.toList = b.toList↔a = b:=⟨fun h=>by rw [ByteArray.toList_eq,ByteArray.toList_eq] at h;exact ByteArray.ext (Array.toList_inj.1 h),fun h=>h ▸ rfl⟩
theorem cell_f {W:World} {B:Nat} {a:Value} {T:TypeId} (h:W.heap[B]? = some (.cells #[a] T (0,0))):W.cell? ⟨B,0,none⟩ = some a∧W.frozen? ⟨B,0,none⟩ = false:=⟨by simp [World.cell?,h],by simp [World.frozen?,h]⟩
theorem load_bool {V:World} {B:Nat} {b:Bool} (h:V.heap[B]? = some (.cells #[.bool b] 4 (0,0))):(loadVar 4 ⟨B,0,none⟩).run Tryz.prog V = .ok (.bool b) V:=by
  have h1:=(cell_f h).1
  simp [go_sem,h1]
def FindPost (l:List Va) (nm:ByteArray) (w:World) (e:Ending) (w' : World):Prop :=
  ∃ (b:Bool) (x:Va),e = .returned (.tuple #[VarV x.name x.sort x.type x.index,.bool b])∧(b = true→l.find? (fun y=>decide (y.name = nm)) = some x)∧(b = false→x = noVa∧∀ y∈l,¬ y.name = nm)∧Below w.heap.size w w'
end
end Go.Proofs.YtdlmfeflinbbjaaGreat
