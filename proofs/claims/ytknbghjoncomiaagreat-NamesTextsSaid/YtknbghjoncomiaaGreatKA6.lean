/- Joined: NmGA, NmGB, NmJK, NmIter, NmMap, NmFirstsG, NmScopeK, NmHasSt, NmTwice, NmMisses. -/
import Derived.Test.YtknbghjoncomiaaGreatKA4
import Derived.Test.YtknbghjoncomiaaGreatKA5
import Derived.Test.YtknbghjoncomiaaGreatKA0
import Derived.RangeFuncNested
import Derived.Maps.OwnIn
import Derived.Maps.AppendAt
import Derived.Shelf.Abstract
import Derived.Shelf.RegionOpen
import Derived.OwnWalkIn
import Derived.TacticsInMore
import Derived.LoopNIn
import Derived.LoopIn
import Derived.WideMake
import Derived.Test.YtknbghjoncomiaaGreatShelf
import Derived.RangeFuncBox
import Derived.Maps.OwnSet
import Derived.DeepKeys4
namespace Go.Proofs.YtknbghjoncomiaaGreat
section
open Go.Lib (hid)
set_option maxHeartbeats 8000000
section
open Go.RowKit
def QCp (y:It):Bool:=decide (1≤y.kind) && decide (y.kind≤8)
def QCC (d:De):Bool:=(decide (1≤d.kind) && decide (d.kind≤3)) && d.items.all QCp
def QFa (p:Pr):Bool:=p.decls.all QCC && QFE p
theorem QFD {p:Pr} {i:Nat} {d:De} (h:p.decls[i]? = some d) (hd:QCC d = false):QFa p = false:=by
 have:p.decls.all QCC = false:=by rw [List.all_eq_false];exact ⟨d,List.mem_of_getElem? h,by simp [hd]⟩
 unfold QFa;rw [this];rfl
theorem QHR {d:De} {i:Nat} {y:It} (h:d.items[i]? = some y) (hy:QCp y = false):QCC d = false:=by
 have:d.items.all QCp = false:=by rw [List.all_eq_false];exact ⟨y,List.mem_of_getElem? h,by simp [hy]⟩
 unfold QCC;rw [this,Bool.and_false]
theorem QOh {α:Type} {l:List α} {f:α→Bool} {n:Nat} (h:∀ i,i < n→∀ x,l[i]? = some x→f x = true) (hn:l.length≤n):l.all f = true:=by
 rw [List.all_eq_true]
 intro x hx
 obtain ⟨i,hi,rfl⟩:=List.getElem_of_mem hx
 exact h i (by omega) _ (List.getElem?_eq_getElem hi)
set_option maxRecDepth 100000 in
theorem QKJ (o1 o2:Option Addr) (db doff dcap n cap:Nat) (p:Pr) (m:Nat) (hm:Hid (p.decls.length = m)) (ml:(m:Int)≤60) (w:World) (hS:Hid (Small p)) (hd:Hid (0 < m→o1 = some ⟨db,doff,none⟩))
  (hdc:Hid (∀ i,i < m→∀ x,p.decls[i]? = some x→DeAt w db (doff+i*7) x))
  (MAY:Hid (∀ W,Below w.heap.size w W→Calls Tryz.prog 52 #[.agg #[(.slice o1 m dcap),(.slice o2 n cap)]] W fun e w'=>QBa (QFE p) W e w')) :
  Calls Tryz.prog 22 #[.agg #[(.slice o1 m dcap),(.slice o2 n cap)]] w fun e w'=>QBa (QFa p) w e w':=by
 have hW0:=hid (QA5 (Below.refl w.heap.size w) (.cells #[(.slice o1 m dcap),(.slice o2 n cap)] 26))
 have hB0:Hid ((w.alloc (.cells #[(.slice o1 m dcap),(.slice o2 n cap)] 26)).heap[w.heap.size]? = some (.cells #[(.slice o1 m dcap),(.slice o2 n cap)] 26 (0,0))):=hid (World.alloc_heap_new w _)
 go_enter Tryz.func22,Tryz.ntmps22
 go_wp2_with fail
 go_loopw [10] (fun i wr=>∃ (j:Nat),i = .int .i64 j∧j≤m∧Hid (∀ i,i < j→∀ d,p.decls[i]? = some d→QCC d = true)∧Hid (Below w.heap.size w wr)∧Hid (wr.heap[w.heap.size]? = some (.cells #[(.slice o1 m dcap),(.slice o2 n cap)] 26 (0,0)))) (fun i _=>m - QA2 i)
 case atStart=>exact ⟨0,rfl,Nat.zero_le _,hid fun i hi=>by omega,hW0,hB0⟩
 case round =>
  clear hW0 hB0
  obtain ⟨j,rfl,hj,hX,hW,hB⟩:=hrel
  have g1:wr.cell? ⟨w.heap.size,0,none⟩ = some (.slice o1 m dcap):=by simp [World.cell?,hB.out]
  have g2:wr.cell? ⟨w.heap.size,1,none⟩ = some (.slice o2 n cap):=by simp [World.cell?,hB.out]
  rcases Nat.lt_or_ge j m with hlt | hge
  ·have hl:(j:Int) < (m:Int):=by omega
   obtain ⟨d,hdj⟩:∃ x,p.decls[j]? = some x:=⟨_,List.getElem?_eq_getElem (by have:=hm.out;omega)⟩
   obtain ⟨op,capp,oi,capi,bi,offi,hok,c0,c1,c2,c3,c4,c5,c6,hi3,hi4⟩:=de_cells' (hdc.out j hlt d hdj) hW.out
   have ix:=QCh (cap:=dcap) hd.out hlt (by omega)
   unfold Ix at ix
   have hds:=hS.out.de d (List.mem_of_getElem? hdj)
   obtain ⟨ni,hni⟩:∃ ni,ni = d.items.length:=⟨_,rfl⟩
   rw [← hni] at c3 hi3 hi4
   have nil' : (ni:Int)≤600:=by have:=hds.2.1;omega
   have HN:=hid hni
   have HI3:=hid hi3
   have HI4:=hid hi4
   have HDJ:=hid hdj
   have KL:(1≤d.kind∧d.kind≤3)∨d.kind < 1∨3 < d.kind:=by omega
   clear hni hi3 hi4 hok hdj hds
   rcases KL with ⟨k1,k2⟩ | k1 | k1
   ·have q1:decide (d.kind < 1) = false:=decide_eq_false (by omega)
    have q2:decide (3 < d.kind) = false:=decide_eq_false (by omega)
    go_wp2_with fail
    obtain ⟨W2,hW2⟩:∃ W2,W2 = wr.alloc (.cells #[.int .i64 d.kind,.string d.name,.slice op d.params.length capp,.slice oi ni capi,.int .i64 d.type,.int .i64 d.e,.int .i64 d.pos] 36):=⟨_,rfl⟩
    rw [← hW2]
    have hb2:Below wr.heap.size wr W2:=by rw [hW2];exact (Below.refl _ _).alloc (Nat.le_refl _) _
    have HW2:=hid (hW.out.trans (hb2.mono hW.out.size))
    have HI:=hid hW.out
    have HB2:=hid ((hb2.block _ (lt_of_heap hB.out)).trans hB.out)
    have HI4' : Hid (∀ i,i < ni→∀ y,d.items[i]? = some y→ItAt W2 bi (offi+i*9) y):=hid fun i hi y hy=>(HI4.out i hi y hy).below HW2.out
    have KD:=hid (show 1≤d.kind∧d.kind≤3 from ⟨k1,k2⟩)
    clear hW2 hb2 c0 c1 c2 c3 c4 c5 c6 ix g1 g2 q1 q2 k1 k2
    go_loopw [25] (fun i wq=>∃ (l:Nat),i = .int .i64 l∧l≤ni∧Hid (∀ i,i < l→∀ y,d.items[i]? = some y→QCp y = true)∧Hid (Below W2.heap.size W2 wq)) (fun i _=>ni - QA2 i)
    case atStart=>exact ⟨0,rfl,Nat.zero_le _,hid fun i hi=>by omega,hid (Below.refl _ _)⟩
    case round =>
     obtain ⟨l,rfl,hl',hY,hQ⟩:=hrel
     rcases Nat.lt_or_ge l ni with hlt2 | hge2
     ·have hl2:(l:Int) < (ni:Int):=by omega
      obtain ⟨y,hyl⟩:∃ x,d.items[l]? = some x:=⟨_,List.getElem?_eq_getElem (by have:=HN.out;omega)⟩
      obtain ⟨os,caps,iok,i0,i1,i2,i3,i4,i5,i6,i7,i8⟩:=QCf ((HI4'.out l hlt2 y hyl).below hQ.out)
      have ix:=QEL (cap:=capi) (n:=ni) HI3.out hlt2 (by omega)
      unfold Ix at ix
      have HYL:=hid hyl
      have KY:(1≤y.kind∧y.kind≤8)∨y.kind < 1∨8 < y.kind:=by omega
      clear hyl iok
      rcases KY with ⟨k1,k2⟩ | k1 | k1
      ·have q1:decide (y.kind < 1) = false:=decide_eq_false (by omega)
       have q2:decide (8 < y.kind) = false:=decide_eq_false (by omega)
       have KYH:=hid (show QCp y = true by unfold QCp;rw [decide_eq_true k1,decide_eq_true k2];rfl)
       go_wp2_with fail
       exact ⟨⟨l+1,by go_num,by omega,hid fun i hi z hz=>by
        rcases Nat.lt_or_ge i l with h | h
        ·exact hY.out i h z hz
        ·obtain rfl:i = l:=by omega
         have:=HYL.out;rw [hz] at this;cases this;exact KYH.out,hid (hQ.out.alloc hQ.out.size _)⟩,by simp [QA2];omega⟩
      ·have q1:decide (y.kind < 1) = true:=decide_eq_true k1
       have HNO:=hid (QFD HDJ.out (QHR HYL.out (show QCp y = false by unfold QCp;rw [decide_eq_false (by omega:¬ 1≤y.kind)];rfl)))
       clear hX hY
       go_wp2_with fail
       go_ret
       exact ⟨by rw [HNO.out];rfl,HW2.out.trans ((hQ.out.alloc hQ.out.size _).mono HW2.out.size)⟩
      ·have q1:decide (y.kind < 1) = false:=decide_eq_false (by omega)
       have q2:decide (8 < y.kind) = true:=decide_eq_true (by omega)
       have HNO:=hid (QFD HDJ.out (QHR HYL.out (show QCp y = false by unfold QCp;rw [decide_eq_false (by omega:¬ y.kind≤8)];simp)))
       clear hX hY
       go_wp2_with fail
       go_ret
       exact ⟨by rw [HNO.out];rfl,HW2.out.trans ((hQ.out.alloc hQ.out.size _).mono HW2.out.size)⟩
     ·obtain rfl:l = ni:=by omega
      have HA:=hid (QOh hY.out (by rw [← HN.out];exact Nat.le_refl _))
      clear hY
      go_wp2_with fail
      exact ⟨⟨j+1,by go_num,by omega,hid fun i hi z hz=>by
       rcases Nat.lt_or_ge i j with h | h
       ·exact hX.out i h z hz
       ·obtain rfl:i = j:=by omega
        have:=HDJ.out;rw [hz] at this;cases this
        unfold QCC;rw [decide_eq_true KD.out.1,decide_eq_true KD.out.2,HA.out];rfl,hid (HW2.out.trans (hQ.out.mono HW2.out.size)),hid ((hQ.out.block _ (lt_of_heap HB2.out)).trans HB2.out)⟩,by simp [QA2];omega⟩
   ·have q1:decide (d.kind < 1) = true:=decide_eq_true k1
    have HNO:=hid (QFD HDJ.out (show QCC d = false by unfold QCC;rw [decide_eq_false (by omega:¬ 1≤d.kind)];rfl))
    clear hX
    go_wp2_with fail
    go_ret
    exact ⟨by rw [HNO.out];rfl,hW.out.alloc hW.out.size _⟩
   ·have q1:decide (d.kind < 1) = false:=decide_eq_false (by omega)
    have q2:decide (3 < d.kind) = true:=decide_eq_true (by omega)
    have HNO:=hid (QFD HDJ.out (show QCC d = false by unfold QCC;rw [decide_eq_false (by omega:¬ d.kind≤3)];simp))
    clear hX
    go_wp2_with fail
    go_ret
    exact ⟨by rw [HNO.out];rfl,hW.out.alloc hW.out.size _⟩
  ·obtain rfl:j = m:=by omega
   have HA:=hid (QOh hX.out (by rw [hm.out];exact Nat.le_refl _))
   have C:=hid (MAY.out wr hW.out)
   clear hX
   go_wp2_with (go_at_call 52;((with_reducible refine C.out.mono ?_);rintro e w1 ⟨rfl,hb1⟩;have HB1:=hid hb1;clear hb1))
   go_ret
   exact ⟨by unfold QFa;rw [HA.out];rfl,hW.out.trans (HB1.out.mono hW.out.size)⟩
theorem QHW (sd se:Value) (p:Pr) (w:World) (h:ProgAt w sd se p) (hs:Small p):Calls Tryz.prog 22 #[.agg #[sd,se]] w fun e w'=>QBa (QFa p) w e w':=by
 obtain ⟨⟨o1,dcap,db,doff,rfl,hd1,hd2,hd3,hd4⟩,⟨o2,cap,b,off,rfl,he1,he2,he3,he4⟩,h3,h4⟩:=id h
 exact QKJ o1 o2 db doff dcap _ cap p _ (hid rfl) (by have:=hs.decls;omega) w (hid hs) (hid hd3) (hid hd4) (hid fun W hW=>may_any _ _ p W (h.below hW) hs)
end
section
open Go.RowKit Go.Shelf
structure Cons (M:Nat→Prop) (X Y:World):Prop where
 os:Y.os = X.os
 tape:Y.tape = X.tape
 output:Y.output = X.output
 size:X.heap.size≤Y.heap.size
 block:∀ k,k < X.heap.size→¬ M k→Y.heap[k]? = X.heap[k]?
structure After (B:Nat) (X Z Y:World):Prop where
 os:Y.os = Z.os
 tape:Y.tape = Z.tape
 output:Y.output = Z.output
 size:Z.heap.size≤Y.heap.size
 block:∀ k,k < Z.heap.size→(k < B∨X.heap.size≤k)→Y.heap[k]? = Z.heap[k]?
variable {F:Fence} {n:Nat} {P:Program}
theorem QMW {F:Fence} (hd:F.depth = none) (k:Nat):F.room k:=fun d h=>by rw [hd] at h;cases h
theorem YieldAt.deep {F:Fence} (hd:F.depth = none) {m:Nat} (m' : Nat) {P:Program} {l:Nat} {args:Array Value} {W:World} {R:Ending→World→Prop} (h:YieldAt F m P l args W R):YieldAt F m' P l args W R:=by
 obtain ⟨fn,tmps,assign,body,hy,h1,h2⟩:=h
 exact ⟨fn,tmps,assign,body,hy,h1,fun c cs _=>h2 c cs (QMW hd _)⟩
theorem QL9 {B:Nat} {w W:World} (h:Below B w W) {l:Nat} (hl:B≤l) (o:Obj):Below B w (W.putObj l o):=by
 have hg:=grownBy_putObj' W l o
 exact ⟨hg.os.trans h.os,hg.tape.trans h.tape,hg.output.trans h.output,Nat.le_trans h.size hg.size,fun k hk=>(World.putObj_heap_other (by omega)).trans (h.block k hk)⟩
end
section
open Go.RowKit Lx
theorem QOa (d0 d1 d2 d3 d4 d5 d6:Value) (w:World) (h:∃ k nm o n c o2 n2 c2 t e p,d0 = .int .i64 k∧d1 = .string nm∧d2 = .slice o n c∧d3 = .slice o2 n2 c2∧d4 = .int .i64 t∧d5 = .int .i64 e∧d6 = .int .i64 p) :
  Calls Tryz.prog 66 #[.agg #[d0,d1,d2,d3,d4,d5,d6]] w fun r w'=>r = .returned (.func (.func 93) #[] #[.pointer (some ⟨w.heap.size,0,none⟩)])∧w.alloc (.cells #[d0,d1,d2,d3,d4,d5,d6] 36) = w':=by
 obtain ⟨k,nm,o,n,c,o2,n2,c2,t,e,p,rfl,rfl,rfl,rfl,rfl,rfl,rfl⟩:=h
 go_enter Tryz.func66,Tryz.ntmps66
 go_wp2_with fail
 go_ret
 exact ⟨rfl,rfl⟩
theorem QMX (d0 d1 d2 d3 d4 d5 d6:Value) (w:World) (h:∃ k nm o n c o2 n2 c2 t e p,d0 = .int .i64 k∧d1 = .string nm∧d2 = .slice o n c∧d3 = .slice o2 n2 c2∧d4 = .int .i64 t∧d5 = .int .i64 e∧d6 = .int .i64 p) :
  Calls Tryz.prog 64 #[.agg #[d0,d1,d2,d3,d4,d5,d6]] w fun r w'=>r = .returned (.func (.func 89) #[] #[.pointer (some ⟨w.heap.size,0,none⟩)])∧w.alloc (.cells #[d0,d1,d2,d3,d4,d5,d6] 36) = w':=by
 obtain ⟨k,nm,o,n,c,o2,n2,c2,t,e,p,rfl,rfl,rfl,rfl,rfl,rfl,rfl⟩:=h
 go_enter Tryz.func64,Tryz.ntmps64
 go_wp2_with fail
 go_ret
 exact ⟨rfl,rfl⟩
end
section
open Go.RowKit Lx Go.Shelf
attribute [local go_sem] Oper.semAt_some
theorem QAR {W:World} {o:Obj} {k:Nat} (h:k = W.heap.size):(W.alloc o).heap[k]? = some o:=by subst h;exact World.alloc_heap_new W o
theorem QAa {W:World} {o o' : Obj} {k:Nat} (h:W.heap[k]? = some o'):(W.alloc o).heap[k]? = some o':=(QAq W o k (lt_of_heap h)).trans h
theorem six (w:World) (o0 o1 o2 o3 o4 o5:Obj):∃ V,V = (((((w.alloc o0).alloc o1).alloc o2).alloc o3).alloc o4).alloc o5∧V.heap[w.heap.size]? = some o0∧V.heap[w.heap.size+1]? = some o1∧V.heap[w.heap.size+2]? = some o2∧V.heap[w.heap.size+3]? = some o3∧V.heap[w.heap.size+4]? = some o4∧V.heap[w.heap.size+5]? = some o5∧Below w.heap.size w V∧V.heap.size = w.heap.size+6:=by
 refine ⟨_,rfl,QAa (QAa (QAa (QAa (QAa (QAR rfl))))),QAa (QAa (QAa (QAa (QAR (by simp))))),QAa (QAa (QAa (QAR (by simp)))),QAa (QAa (QAR (by simp))),QAa (QAR (by simp)),QAR (by simp),?_,by simp⟩
 exact (((((((Below.refl w.heap.size w).alloc (Nat.le_refl _) _).alloc (by simp) _).alloc (by simp;omega) _).alloc (by simp;omega) _).alloc (by simp;omega) _).alloc (by simp;omega) _)
end
section
open Go.RowKit Lx
end
section
open Go.RowKit Lx
theorem QFi (o1 o2:Option Addr) (n1 c1 n2 c2 mb:Nat) (w:World):Calls Tryz.prog 37 #[.agg #[.slice o1 n1 c1,.slice o2 n2 c2],.map (some mb)] w fun r w'=>r = .returned (.func (.func 60) #[] #[.pointer (some ⟨w.heap.size,0,none⟩),.pointer (some ⟨w.heap.size+1,0,none⟩)]) ∧
  (w.alloc (.cells #[.slice o1 n1 c1,.slice o2 n2 c2] 26)).alloc (.cells #[.map (some mb)] 83) = w':=by
 go_enter Tryz.func37,Tryz.ntmps37
 go_wp2_with fail
 go_ret
 exact ⟨rfl,rfl⟩
end
section
open Go.RowKit Lx Go.Shelf
attribute [local go_sem] Oper.semAt_some
end
section
open Go.RowKit Lx Go.Shelf
attribute [local go_sem] Oper.semAt_some
theorem After.refl (B:Nat) (X Z:World):After B X Z Z:=⟨rfl,rfl,rfl,Nat.le_refl _,fun _ _ _=>rfl⟩
theorem QFk (o o2:Option Addr) (n c n2 c2 m1 m2:Nat) (k t e p:Int) (nm:ByteArray) (w:World):Calls Tryz.prog 40 #[.agg #[.int .i64 k,.string nm,.slice o n c,.slice o2 n2 c2,.int .i64 t,.int .i64 e,.int .i64 p],.agg #[.map (some m1),.map (some m2)]] w fun r w' =>
  r = .returned (.func (.func 67) #[] #[.pointer (some ⟨w.heap.size,0,none⟩),.pointer (some ⟨w.heap.size+1,0,none⟩)])∧(w.alloc (.cells #[.int .i64 k,.string nm,.slice o n c,.slice o2 n2 c2,.int .i64 t,.int .i64 e,.int .i64 p] 36)).alloc (.cells #[.map (some m1),.map (some m2)] 91) = w':=by
 go_enter Tryz.func40,Tryz.ntmps40
 go_wp2_with fail
 go_ret
 exact ⟨rfl,rfl⟩
end
section
open Go.RowKit Lx Go.Shelf
attribute [local go_sem] Oper.semAt_some
theorem QIh (P E:Nat) (k:Int) (w:World):Calls Tryz.prog 61 #[.int .i64 k,.pointer (some ⟨P,0,none⟩),.pointer (some ⟨E,0,none⟩)] w fun r Y=>r = .returned (.func (.func 62) #[] #[.pointer (some ⟨P,0,none⟩),.pointer (some ⟨w.heap.size,0,none⟩),.pointer (some ⟨E,0,none⟩)])∧w.alloc (.cells #[.int .i64 k] 3) = Y:=by
 go_enter Tryz.func61,Tryz.ntmps61
 go_wp2_with fail
 go_ret
 exact ⟨rfl,rfl⟩
end
section
open Go.RowKit Go.Shelf
open Classical in
def markL (Ds:List Nat):List Deferred:=Ds.map fun D=>{ target:=.collected D,args:=#[] }
theorem QEM {F:Fence} {n:Nat} {P:Program} {fn:Func} {tmps:Array Value} {R:Ending→World→Prop} {v:Value} (hres:∀ w,(results fn tmps).run P w = .ok v w):∀ (Ds:List Nat) (w:World),Ds.Nodup→(∀ D∈Ds,w.heap[D]? = some (.deferred (some []))) →
  (∀ w',w'.os = w.os→w'.tape = w.tape→w'.output = w.output→w'.heap.size = w.heap.size→(∀ k,k ∉ Ds→w'.heap[k]? = w.heap[k]?)→R (.returned v) w')→LeavesInM F n P fn tmps R (markL Ds) .returning w
 | [],w,_,_,h=>⟨v,hres w,h w rfl rfl rfl rfl fun _ _=>rfl⟩
 | D :: Ds,w,hnd,hall,h=>by
  have h2:=hall D (List.mem_cons_self ..)
  have hd:=List.nodup_cons.1 hnd
  have hg:=grownBy_putObj' w D (.deferred none)
  refine ⟨by simp,.inl ⟨D,_,rfl,run_takeDeferred h2,QEM hres Ds _ hd.2 (fun D' hD'=>?_) fun w' e1 e2 e3 e4 e5=>h w' (e1.trans hg.os) (e2.trans hg.tape) (e3.trans hg.output) (e4.trans World.putObj_size) fun k hk=>?_⟩⟩
  ·have hne:D'≠D:=fun e=>hd.1 (e ▸ hD')
   exact (World.putObj_heap_other hne).trans (hall D' (List.mem_cons_of_mem _ hD'))
  ·have hk1:k≠D:=fun e=>hk (e ▸ List.mem_cons_self ..)
   exact (e5 k (fun hm=>hk (List.mem_cons_of_mem _ hm))).trans (World.putObj_heap_other hk1)
end
end
section
open Go.Lib (hid)
set_option maxHeartbeats 4000000
section
open Go.RowKit Lx Go.Shelf
attribute [local go_sem] Oper.semAt_some
theorem QHt (o o2:Option Addr) (n c n2 c2:Nat) (w:World):Calls Tryz.prog 15 #[.agg #[.slice o n c,.slice o2 n2 c2]] w fun r Y=>r = .returned (.func (.func 35) #[] #[.pointer (some ⟨w.heap.size,0,none⟩)])∧w.alloc (.cells #[.slice o n c,.slice o2 n2 c2] 26) = Y:=by
 go_enter Tryz.func15,Tryz.ntmps15
 go_wp2_with fail
 go_ret
 exact ⟨rfl,rfl⟩
theorem QAA {W:World} {B:Nat} {a b:Value} {T:TypeId} (h:W.heap[B]? = some (.cells #[a,b] T (0,0))):W.cell? ⟨B,0,none⟩ = some a∧W.cell? ⟨B,1,none⟩ = some b:=⟨by simp [World.cell?,h],by simp [World.cell?,h]⟩
theorem QDc {W:World} {B:Nat} {a:Value} {T:TypeId} (h:W.heap[B]? = some (.cells #[a] T (0,0))):W.cell? ⟨B,0,none⟩ = some a:=by simp [World.cell?,h]
end
section
open Go.RowKit Lx Go.Shelf
attribute [local go_sem] Oper.semAt_some
theorem QEe:(Tryz.prog.info? 29).map (fun i=>(i.zero,i.size,i.bytes)) = some (some (.agg #[.int .i64 0,.int .i64 0]),2,16):=by kernel_rfl
end
section
open Go.RowKit Lx Go.Shelf Go.Sort Go.Lib
abbrev Flt:=Int × Int
def QC4 (x:Flt):List Value:=[.int .i64 x.1,.int .i64 x.2]
def orV (x y:Int):Int:=if x≠0 then x else y
def QKp (x y:Flt):Int:=orV (Lib.compareInt x.2 y.2) (Lib.compareInt x.1 y.1)
theorem or_any (g c:Nat) (x y:Int) (W:World) (h0:W.cell? ⟨g,0,none⟩ = some (.int .i64 x)) (h1:W.cell? ⟨g,1,none⟩ = some (.int .i64 y)) :
  Calls Tryz.prog 45 #[.slice (some ⟨g,0,none⟩) 2 c] W fun e w'=>e = .returned (.int .i64 (orV x y))∧w' = W:=by
 by_cases hx:x = 0
 ·subst hx
  have HO:=hid (show orV 0 y = y by unfold orV;simp)
  go_enter Tryz.func45,Tryz.ntmps45
  go_wp2_with fail
  go_loopw [8] (fun i wr=>∃ j:Nat,i = .int .i64 j∧j≤2∧Hid (2≤j→y = 0)∧wr = W) (fun i _=>2 - QA2 i)
  case atStart=>exact ⟨0,rfl,by omega,hid (by omega),rfl⟩
  case round =>
   obtain ⟨j,rfl,hj,hy,rfl⟩:=hrel
   rcases (show j = 0∨j = 1∨j = 2 by omega) with rfl | rfl | rfl
   ·go_wp2_with fail
    exact ⟨⟨1,rfl,by omega,hid (by omega),by first | rfl | trivial⟩,by simp [QA2]⟩
   ·by_cases hy0:y = 0
    ·have q1:(y != 0) = false:=by rw [hy0];rfl
     have HY:=hid hy0
     clear hy0
     go_wp2_with fail
     exact ⟨⟨2,rfl,by omega,hid fun _=>HY.out,by first | rfl | trivial⟩,by simp [QA2]⟩
    ·have q1:(y != 0) = true:=bne_iff_ne.2 hy0
     clear hy0
     go_wp2_with fail
     go_ret
     exact ⟨by rw [HO.out];rfl,by first | rfl | trivial⟩
   ·go_wp2_with fail
    go_ret
    exact ⟨by rw [HO.out,hy.out (by omega)];rfl,by first | rfl | trivial⟩
 ·have HO:=hid (show orV x y = x by unfold orV;rw [if_pos hx])
  have q1:(x != 0) = true:=bne_iff_ne.2 hx
  clear hx
  go_enter Tryz.func45,Tryz.ntmps45
  go_wp2_with fail
  go_loopw [8] (fun i wr=>i = .int .i64 0∧wr = W) (fun _ _=>0)
  case atStart=>exact ⟨rfl,rfl⟩
  case round =>
   obtain ⟨rfl,rfl⟩:=hrel
   go_wp2_with fail
   go_ret
   exact ⟨by rw [HO.out];rfl,by first | rfl | trivial⟩
theorem QJ5 (X:World) (B:Nat) (hB:B = X.heap.size) (u v:Value) (T:TypeId):(X.alloc (.cells #[u,v] T)).drew.cell? ⟨B,0,none⟩ = some u∧(X.alloc (.cells #[u,v] T)).drew.cell? ⟨B,1,none⟩ = some v:=by
 have h:(X.alloc (.cells #[u,v] T)).drew.heap = (X.alloc (.cells #[u,v] T)).heap:=rfl
 exact QAA (by rw [h];exact QAR hB)
theorem QIb (W:World) (a b c:Obj):∃ q os,(((W.alloc a).alloc b).alloc c).drew = grow (W.drewN q) os:=by
 have h:(((W.alloc a).alloc b).alloc c).drew = (((W.drewN 1).alloc a).alloc b).alloc c:=rfl
 rw [h,alloc_eq_grow (W.drewN 1),alloc_eq_grow (grow _ _),alloc_eq_grow (grow _ _),grow_grow,grow_grow]
 exact ⟨1,_,rfl⟩
theorem QMD (x y:Flt) (W:World):Calls Tryz.prog 44 #[.agg #[.int .i64 x.1,.int .i64 x.2],.agg #[.int .i64 y.1,.int .i64 y.2]] W fun e w'=>e = .returned (.int .i64 (QKp x y))∧∃ q os',w' = grow (W.drewN q) os':=by
 obtain ⟨xc,xa⟩:=x
 obtain ⟨yc,ya⟩:=y
 have CA:=hid (fun W=>Tryz.cmp_Compare_int xa ya W)
 have CC:Hid (∀ W',Calls Tryz.prog 47 #[.int .i64 xc,.int .i64 yc] W' fun e w'=>e = .returned (.int .i64 (Lib.compareInt xc yc))∧W' = w'):=hid fun W'=>(AnyG.cmp_Compare_int Tryz.cmpErr xc yc W').mono fun e w' h=>⟨h.1,h.2.symm⟩
 obtain ⟨ra,hra⟩:∃ ra,ra = Lib.compareInt xa ya:=⟨_,rfl⟩
 obtain ⟨rc,hrc⟩:∃ rc,rc = Lib.compareInt xc yc:=⟨_,rfl⟩
 rw [← hrc] at CC
 rw [← hra] at CA
 have HR:=hid (show QKp (xc,xa) (yc,ya) = orV ra rc by unfold QKp;rw [hra,hrc])
 clear hra hrc
 dsimp only
 go_enter Tryz.func44,Tryz.ntmps44
 go_wp2_with fail
 go_region_held3 (fun w'=>w'.cell? ⟨W.heap.size,0,none⟩ = some (.int .i64 xc)∧w'.cell? ⟨W.heap.size,1,none⟩ = some (.int .i64 xa)∧w'.cell? ⟨W.heap.size+1,0,none⟩ = some (.int .i64 yc)∧w'.cell? ⟨W.heap.size+1,1,none⟩ = some (.int .i64 ya))
  ((repeat' apply And.intro) <;> first | assumption | go_keep)
  (first
   | (go_at_call 46;(with_reducible refine Calls.mono (CA.out _) ?_);(rintro e wa ⟨rfl,rfl⟩))
   | (go_at_call 47;(with_reducible refine Calls.mono (CC.out _) ?_);(rintro e wa ⟨rfl,rfl⟩))
   | (go_at_call 45;(with_reducible refine Calls.mono (or_any _ _ ra rc _ ?_ ?_) ?_);(focus exact (QJ5 _ _ (by simp) _ _ _).1);(focus exact (QJ5 _ _ (by simp) _ _ _).2);(rintro e wa ⟨rfl,rfl⟩)))
 go_wp2_with fail
 go_ret
 exact ⟨by rw [HR.out];rfl,QIb _ _ _ _⟩
end
section
open Go.RowKit Lx Go.Shelf Go.Sort Go.Lib
def ltF (x y:Flt):Bool:=decide (x.2 < y.2) || (decide (x.2 = y.2) && decide (x.1 < y.1))
theorem QDK (x y:Flt):ltOf QKp x y = ltF x y:=by
 obtain ⟨a,b⟩:=x
 obtain ⟨c,d⟩:=y
 unfold ltOf QKp orV Lib.compareInt ltF
 by_cases h1:b < d
 ·simp [h1]
 ·by_cases h2:d < b
  ·have:¬ b = d:=by omega
   simp [h1,h2,this]
  ·have:b = d:=by omega
   subst this
   by_cases h3:a < c
   ·simp [h3]
   ·by_cases h4:c < a <;> simp [h3,h4]
theorem swoF:SWO (ltOf QKp) where
 irrefl x:=by rw [QDK];unfold ltF;simp
 trans x y z h1 h2:=by rw [QDK] at *;unfold ltF at *;simp at *;omega
 ntrans x y z h1 h2:=by rw [QDK] at *;unfold ltF at *;simp at *;omega
theorem totF (x y:Flt) (h1:ltOf QKp x y = false) (h2:ltOf QKp y x = false):x = y:=by
 rw [QDK] at *
 unfold ltF at *
 obtain ⟨a,b⟩:=x
 obtain ⟨c,d⟩:=y
 simp at *
 omega
theorem QN9 (blk off size:Nat) (w:World):CmpLays Tryz.prog 44 #[] QC4 2 QKp blk off size w:=fun _ _ _ _ x y=>QMD x y _
def sortF (l:List Flt):List Flt:=l.mergeSort fun x y=>!(ltOf QKp) y x
theorem QJj {α:Type} [Inhabited α] (enc:α→List Value) (k:Nat) (w:World) (blk off n:Nat) (d:Array α) (os:Array Obj):But blk w (sortWorldK enc k w blk off n d os):=by
 refine ⟨rfl,rfl,rfl,by simp [sortWorldK,putRowK,putRow,mapBlock,grow,Sort.ahead],fun j hj hl=>?_⟩
 have hj' : blk≠j:=fun e=>hj e.symm
 simp only [sortWorldK,putRowK,putRow,mapBlock,grow,Sort.ahead]
 rw [Array.getElem?_append_left (by simpa using hl),Array.getElem?_modify,if_neg hj']
theorem QOJ (blk off cap:Nat) (d:Array Flt) (w:World) (hH:HoldsK QC4 2 w blk off d) (hblk:blk < w.heap.size) (hsz:d.size < 4611686018427387904) :
  Calls Tryz.prog 43 #[.slice (some ⟨blk,off,none⟩) d.size cap,.func (.func 44) #[] #[]] w fun e w'=>e = .returned (.tuple #[])∧HoldsK QC4 2 w' blk off (sortF d.toList).toArray∧But blk w w':=by
 have eg:∀ args w,(callFunc 44 args).run Tryz.prog w = .ok (.enter 44 args) w:=enters_of Tryz.func44 (by kernel_rfl) rfl
 have h:=AnyQ.slices_SortFunc_total Tryz.sortF 2 Tryz.isAgg29 Tryz.sizeOf29 QC4 (fun _=>rfl) (fun x v hv=>by simp [QC4] at hv;rcases hv with rfl | rfl <;> rfl) QKp swoF 44 #[] blk off cap d w eg (QN9 blk off d.size w) hH hblk hsz totF
 refine h.mono ?_
 rintro e w' ⟨he,n,os,rfl⟩
 exact ⟨he,holdsK_sortWorldK_c QC4 2 w blk off d _ n os hH hblk (by simp),QJj QC4 2 w blk off n _ os⟩
end
section
open Go.RowKit Lx Go.Shelf Go.Sort Go.Lib
theorem QIx (l:List Flt):(l.flatMap QC4).length = l.length*2:=by
 induction l with
 | nil=>rfl
 | cons x l ih=>rw [List.flatMap_cons,List.length_append,ih];simp [QC4];omega
theorem QGR:∀ (l:List Flt) (i:Nat) (x:Flt),l[i]? = some x→(l.flatMap QC4)[i*2]? = some (.int .i64 x.1)∧(l.flatMap QC4)[i*2+1]? = some (.int .i64 x.2)
 | y :: l,0,x,h=>by
  obtain rfl:y = x:=by simpa using h
  exact ⟨rfl,rfl⟩
 | y :: l,i+1,x,h=>by
  have ih:=QGR l i x (by simpa using h)
  rw [List.flatMap_cons,show (i+1)*2 = i*2+2 by omega,List.getElem?_append_right (by simp [QC4]),List.getElem?_append_right (by simp only [QC4,List.length_cons,List.length_nil];omega)]
  simp only [QC4,List.length_cons,List.length_nil]
  rw [show i*2+2 - (0+1+1) = i*2 by omega,show i*2+2+1 - (0+1+1) = i*2+1 by omega]
  exact ih
theorem QLB (b off n c:Nat) (l:List Flt) (w:World) (hl:l.length = n) (hn:n≤1000000) (hc:∀ j u,(l.flatMap QC4)[j]? = some u→w.cell? ⟨b,off+j,none⟩ = some u) :
  Calls Tryz.prog 42 #[.slice (some ⟨b,off,none⟩) n c] w fun e w'=>∃ v',e = .returned v'∧w'.ownsRow w.heap.size 29 2 v' n (l.flatMap QC4)∧v'≠.slice none 0 0∧Below w.heap.size w w':=by
 obtain ⟨i,h2,h3,h4,h5⟩:=info_parts QEe
 exact AnyE.slices_Clone Tryz.cloneF i _ 2 16 h2 h3 h4 h5 rfl (by decide) Tryz.sizeOf29 b off n c (l.flatMap QC4) w (by rw [QIx,hl]) (by unfold maxLen;omega) (by omega) hc (fun u hu=>by obtain ⟨x,_,hx⟩:=List.mem_flatMap.1 hu;simp [QC4] at hx;rcases hx with rfl | rfl <;> rfl)
def QFn (W:World) (g off:Nat) (l:List Flt):Prop:=∀ i x,l[i]? = some x→W.cell? ⟨g,off+i*2,none⟩ = some (.int .i64 x.1)∧W.cell? ⟨g,off+i*2+1,none⟩ = some (.int .i64 x.2)
theorem QHE (l:List Flt) (i:Nat) (x:Flt) (h:l[i]? = some x):(flatK QC4 2 l.toArray)[i*2]! = .int .i64 x.1∧(flatK QC4 2 l.toArray)[i*2+1]! = .int .i64 x.2:=by
 have hi:=(List.getElem?_eq_some_iff.1 h).1
 have hx:l.toArray[i]! = x:=by rw [getElem!_pos _ i (by simpa using hi)];simpa using (List.getElem?_eq_some_iff.1 h).2
 rw [get_flatK QC4 2 _ _ (by simp;omega),get_flatK QC4 2 _ _ (by simp;omega),show i*2 / 2 = i by omega,show (i*2+1) / 2 = i by omega,show i*2 % 2 = 0 by omega,show (i*2+1) % 2 = 1 by omega,hx]
 exact ⟨rfl,rfl⟩
theorem QNL {W:World} {g off:Nat} {l:List Flt} (h:QFn W g off l) (fz:∀ j,W.frozen? ⟨g,j,none⟩ = false):HoldsK QC4 2 W g off l.toArray:=by
 intro j hj
 have hj2:j < l.length*2:=by simpa using hj
 obtain ⟨x,hx⟩:∃ x,l[j / 2]? = some x:=⟨_,List.getElem?_eq_getElem (by omega)⟩
 have hg:=h _ _ hx
 have hf:=QHE _ _ _ hx
 refine ⟨?_,fz _⟩
 rcases (show j = j / 2*2∨j = j / 2*2+1 by omega) with e | e
 ·rw [e,show id (flatK QC4 2 l.toArray)[j / 2*2]! = (flatK QC4 2 l.toArray)[j / 2*2]! from rfl,hf.1];exact hg.1
 ·rw [e,show id (flatK QC4 2 l.toArray)[j / 2*2+1]! = (flatK QC4 2 l.toArray)[j / 2*2+1]! from rfl,hf.2,← Nat.add_assoc];exact hg.2
theorem QNv {W:World} {g off:Nat} {l:List Flt} (h:HoldsK QC4 2 W g off l.toArray):QFn W g off l:=by
 intro i x hx
 have hi:=(List.getElem?_eq_some_iff.1 hx).1
 have hf:=QHE _ _ _ hx
 have h0:=(h (i*2) (by simp;omega)).1
 have h1:=(h (i*2+1) (by simp;omega)).1
 rw [show id (flatK QC4 2 l.toArray)[i*2]! = (flatK QC4 2 l.toArray)[i*2]! from rfl,hf.1] at h0
 rw [show id (flatK QC4 2 l.toArray)[i*2+1]! = (flatK QC4 2 l.toArray)[i*2+1]! from rfl,hf.2] at h1
 exact ⟨h0,h1⟩
theorem QJH {W:World} {B g n cap:Nat} {l:List Flt} (h:W.ownsRow B 29 2 (.slice (some ⟨g,0,none⟩) n cap) n (l.flatMap QC4)):QFn W g 0 l∧(∀ j,W.frozen? ⟨g,j,none⟩ = false)∧B≤g∧g < W.heap.size:=by
 have hc:=h.cells (g:=g) rfl
 obtain ⟨hb,cs,hk⟩:=QBD h (k:=g) rfl
 have e:∀ j,(⟨g,0,none⟩:Addr).add j = ⟨g,j,none⟩:=fun j=>by unfold Addr.add;split <;> simp_all
 refine ⟨fun i x hx=>?_,fun j=>by simp [World.frozen?,hk],hb,QBn hk⟩
 obtain ⟨h1,h2⟩:=QGR l i x hx
 have k1:=hc _ _ h1
 have k2:=hc _ _ h2
 rw [e] at k1 k2
 rw [Nat.zero_add]
 exact ⟨k1,k2⟩
end
section
open Go.RowKit Lx Go.Shelf
end
end
section
open Go.Lib (hid)
set_option maxHeartbeats 8000000
section
open Go.RowKit Lx Go.Shelf
def QCI (k:Int):Int:=if k = 1 then 2 else if k = 2 then 3 else if k = 4 then 4 else if k = 6 then 5 else 0
def QEU (k t:Int):Int:=if k = 1 then t else if k = 2 then 1 else if k = 4 then t else 0
theorem QJ6 (k t e f p:Int) (nm st nx:ByteArray) (o:Option Addr) (n c:Nat) (w:World):Calls Tryz.prog 94 #[.agg #[.int .i64 k,.string nm,.int .i64 t,.int .i64 e,.int .i64 f,.slice o n c,.string st,.string nx,.int .i64 p]] w fun r w'=>r = .returned (.tuple #[.int .i64 (QCI k),.int .i64 (QEU k t)])∧Below w.heap.size w w':=by
 have hal:=hid ((Below.refl w.heap.size w).alloc (Nat.le_refl _) (.cells #[.int .i64 k,.string nm,.int .i64 t,.int .i64 e,.int .i64 f,.slice o n c,.string st,.string nx,.int .i64 p] 57))
 have hdr:Hid (Below w.heap.size w (w.alloc (.cells #[.int .i64 k,.string nm,.int .i64 t,.int .i64 e,.int .i64 f,.slice o n c,.string st,.string nx,.int .i64 p] 57)).drew):=hid ⟨hal.out.os,hal.out.tape,hal.out.output,hal.out.size,hal.out.block⟩
 have mixed : Tryz.prog.follows .mixedOrders = true:=by kernel_rfl
 by_cases h1:k = 1
 ·subst h1
  go_enter Tryz.func94,Tryz.ntmps94
  go_wp2_with fail
  go_region_o
  all_goals (
   go_wp2_with fail
   go_ret2
   exact ⟨rfl,hdr.out⟩)
 by_cases h2:k = 2
 ·subst h2
  go_enter Tryz.func94,Tryz.ntmps94
  go_wp2_with fail
  go_ret2
  exact ⟨rfl,hal.out⟩
 by_cases h4:k = 4
 ·subst h4
  go_enter Tryz.func94,Tryz.ntmps94
  go_wp2_with fail
  go_region_o
  all_goals (
   go_wp2_with fail
   go_ret2
   exact ⟨rfl,hdr.out⟩)
 by_cases h6:k = 6
 ·subst h6
  go_enter Tryz.func94,Tryz.ntmps94
  go_wp2_with fail
  go_ret2
  exact ⟨rfl,hal.out⟩
 have e1:QCI k = 0:=by unfold QCI;rw [if_neg h1,if_neg h2,if_neg h4,if_neg h6]
 have e2:QEU k t = 0:=by unfold QEU;rw [if_neg h1,if_neg h2,if_neg h4]
 have E:=hid (And.intro e1 e2)
 have r1:(k == 1) = false:=by simpa using h1
 have r2:(k == 2) = false:=by simpa using h2
 have r4:(k == 4) = false:=by simpa using h4
 have r6:(k == 6) = false:=by simpa using h6
 clear e1 e2
 go_enter Tryz.func94,Tryz.ntmps94
 go_wp2_with fail
 go_ret2
 exact ⟨by rw [E.out.1,E.out.2];rfl,hal.out⟩
def QGK (nm:ByteArray) (a b c:Int):Value:=.agg #[.string nm,.int .i64 a,.int .i64 b,.int .i64 c]
theorem QCw {W:World} {g:Nat} {cs:Array Value} {T:TypeId} {fr:Nat × Nat} (h:W.heap[g]? = some (.cells cs T fr)) (i:Nat) (v:Value):(W.setCell ⟨g,i,none⟩ v).heap[g]? = some (.cells (cs.setIfInBounds i v) T fr):=by
 have hl:=(Array.getElem?_eq_some_iff.1 h).1
 simp [World.setCell,Array.getElem?_modify,h]
theorem set_ot {W:World} {g b:Nat} (h:b≠g) (i:Nat) (v:Value):(W.setCell ⟨b,i,none⟩ v).heap[g]? = W.heap[g]?:=by
 simp [World.setCell,Array.getElem?_modify,h]
theorem QCu {fn:Func} {t:Tmp} {ty:TypeId} {P:Program} {w:World} {v:Value} (h:fn.results = #[.cell t ty]) (tmps:Array Value) (a:Addr) (ha:tmps.getD t undef = .pointer (some a)) (hl:(loadVar ty a).run P w = .ok v w):(results fn tmps).run P w = .ok v w:=by
 have ha' : tmps[t]?.getD undef = .pointer (some a):=by simpa [Array.getD_eq_getD_getElem?] using ha
 simp [results,h,ha',hl,asAddr]
theorem QDz {W:World} {B:Nat} {a b c d:Value} {T:TypeId} (h:W.heap[B]? = some (.cells #[a,b,c,d] T (0,0))):(W.cell? ⟨B,0,none⟩ = some a∧W.cell? ⟨B,1,none⟩ = some b∧W.cell? ⟨B,2,none⟩ = some c∧W.cell? ⟨B,3,none⟩ = some d)∧W.frozen? ⟨B,0,none⟩ = false∧W.frozen? ⟨B,1,none⟩ = false∧W.frozen? ⟨B,2,none⟩ = false∧W.frozen? ⟨B,3,none⟩ = false :=
 ⟨⟨by simp [World.cell?,h],by simp [World.cell?,h],by simp [World.cell?,h],by simp [World.cell?,h]⟩,by simp [World.frozen?,h],by simp [World.frozen?,h],by simp [World.frozen?,h],by simp [World.frozen?,h]⟩
end
section
open Go.RowKit Lx Go.Shelf
def DeVal (W:World) (v:Value) (x:De):Prop:=∃ s t,v = .agg #[.int .i64 x.kind,.string x.name,s,t,.int .i64 x.type,.int .i64 x.e,.int .i64 x.pos] ∧
 SlAt s x.params.length 2 (fun b o i=>∀ y,x.params[i]? = some y→PaAt W b o y)∧SlAt t x.items.length 9 (fun b o i=>∀ y,x.items[i]? = some y→ItAt W b o y)∧DeOk x
theorem DeVal.below {w w' : World} {v:Value} {x:De} (h:DeVal w v x) (hb:Below w.heap.size w w'):DeVal w' v x:=by
 obtain ⟨s,t,h1,h2,h3,h4⟩:=h
 exact ⟨s,t,h1,h2.mono fun _ _ _ _ h y hy=>(h y hy).below hb,h3.mono fun _ _ _ _ h y hy=>(h y hy).below hb,h4⟩
theorem QAe {W:World} {B:Nat} {T:TypeId} {u0 u1 u2 u3 u4 u5 u6:Value} (h:W.heap[B]? = some (.cells #[u0,u1,u2,u3,u4,u5,u6] T (0,0))):(∀ j,W.frozen? ⟨B,j,none⟩ = false)∧W.cell? ⟨B,0,none⟩ = some u0∧W.cell? ⟨B,1,none⟩ = some u1∧W.cell? ⟨B,2,none⟩ = some u2∧W.cell? ⟨B,3,none⟩ = some u3∧W.cell? ⟨B,4,none⟩ = some u4∧W.cell? ⟨B,5,none⟩ = some u5∧W.cell? ⟨B,6,none⟩ = some u6 :=
 ⟨fun j=>by simp [World.frozen?,h],by simp [World.cell?,h],by simp [World.cell?,h],by simp [World.cell?,h],by simp [World.cell?,h],by simp [World.cell?,h],by simp [World.cell?,h],by simp [World.cell?,h]⟩
end
section
structure Va where
 name:ByteArray
 sort:Int
 type:Int
 index:Int
def QBI (l:List Pa):List Va:=l.zipIdx.map fun z=>⟨z.1.name,1,z.1.type,z.2⟩
def QB4 (l:List It):List Va:=l.zipIdx.filterMap fun z=>if QCI z.1.kind = 0 then none else some ⟨z.1.name,QCI z.1.kind,QEU z.1.kind z.1.type,z.2⟩
def QAV (d:De):List Va:=QBI d.params ++ QB4 d.items
theorem QEG (l:List Pa) (c:Nat) (x:Pa) (h:l[c]? = some x):QBI (l.take (c+1)) = QBI (l.take c) ++ [⟨x.name,1,x.type,c⟩]:=by
 have hl:=(List.getElem?_eq_some_iff.1 h).1
 unfold QBI
 rw [List.take_add_one,h]
 simp [List.zipIdx_append,Nat.min_eq_left (Nat.le_of_lt hl)]
theorem QGE (l:List It) (c:Nat) (x:It) (h:l[c]? = some x):QB4 (l.take (c+1)) = QB4 (l.take c) ++ if QCI x.kind = 0 then [] else [⟨x.name,QCI x.kind,QEU x.kind x.type,c⟩]:=by
 have hl:=(List.getElem?_eq_some_iff.1 h).1
 unfold QB4
 rw [List.take_add_one,h]
 simp only [Option.toList_some,List.zipIdx_append,List.filterMap_append]
 congr 1
 by_cases hm:QCI x.kind = 0 <;> simp [hm,Nat.min_eq_left (Nat.le_of_lt hl)]
theorem QDw (l:List Pa):(QBI l).length = l.length:=by simp [QBI]
theorem QFV (l:List It):(QB4 l).length≤l.length:=by
 unfold QB4
 refine Nat.le_trans (List.length_filterMap_le _ _) ?_
 simp
theorem QJv {l:List Va} {nm:ByteArray} {r:Nat} {x:Va} (h1:l[r]? = some x) (h2:x.name = nm) (h3:∀ j,j < r→∀ y,l[j]? = some y→¬ y.name = nm):l.find? (fun y=>decide (y.name = nm)) = some x:=by
 obtain ⟨hr,rfl⟩:=List.getElem?_eq_some_iff.1 h1
 rw [List.find?_eq_some_iff_getElem]
 exact ⟨by simpa using h2,r,hr,rfl,fun j hj=>by simpa using h3 j hj _ (List.getElem?_eq_getElem (by omega))⟩
end
section
open Go.RowKit Lx Go.Shelf
attribute [local go_sem] Oper.semAt_some
structure Near (M:Nat→Prop) (rw:World→Option Nat) (w:World):Prop where
 old:∀ k,M k→k < w.heap.size
 row:∀ k,rw w = some k→k < w.heap.size
 same:∀ X Y:World,(∀ k,k < w.heap.size→Y.heap[k]? = X.heap[k]?)→rw Y = rw X
def Kept (M:Nat→Prop) (rw:World→Option Nat) (w X:World):Prop:=w.heap.size≤X.heap.size∧(∀ k,rw X = some k→rw w = some k∨w.heap.size≤k)∧∀ k,QAc M rw w k→X.heap[k]? = w.heap[k]?
theorem Kept.keep {M:Nat→Prop} {rw:World→Option Nat} {w X Y:World} (h:Kept M rw w X) (k:KeepM M rw w.heap.size X Y):Kept M rw w Y:=by
 refine ⟨Nat.le_trans h.1 k.1,fun j hj=>?_,fun j hj=>?_⟩
 ·rcases k.2.2 j hj with e | ⟨e,_⟩
  ·exact h.2.1 j e
  ·exact .inr (Nat.le_trans h.1 e)
 ·refine (k.2.1 j (Nat.lt_of_lt_of_le hj.1 h.1) hj.2.1 (fun e=>?_) (.inl hj.1)).trans (h.2.2 j hj)
  rcases h.2.1 j e with e2 | e2
  ·exact hj.2.2 e2
  ·have:=hj.1;omega
theorem Kept.below {M:Nat→Prop} {rw:World→Option Nat} {w X Y:World} (hN:Near M rw w) (h:Kept M rw w X) (hb:Below X.heap.size X Y):Kept M rw w Y:=by
 have hs:rw Y = rw X:=hN.same X Y fun k hk=>hb.block k (Nat.lt_of_lt_of_le hk h.1)
 exact ⟨Nat.le_trans h.1 hb.size,fun k hk=>h.2.1 k (by rwa [hs] at hk),fun k hk=>(hb.block k (Nat.lt_of_lt_of_le hk.1 h.1)).trans (h.2.2 k hk)⟩
theorem Kept.start {M:Nat→Prop} {rw:World→Option Nat} {w W:World} (hN:Near M rw w) (hb:Below w.heap.size w W):Kept M rw w W :=
 ⟨hb.size,fun k hk=>.inl (by rwa [hN.same w W fun k hk=>hb.block k hk] at hk),fun k hk=>hb.block k hk.1⟩
theorem QHr (l:List Pa) (c:Nat):QBI (l.take c) <+: QBI l:=by
 obtain ⟨t,ht⟩:∃ t,QBI (l.take c ++ l.drop c) = QBI (l.take c) ++ t:=⟨_,by unfold QBI;rw [List.zipIdx_append,List.map_append]⟩
 rw [List.take_append_drop] at ht
 exact ⟨t,ht.symm⟩
theorem QHq (l:List It) (c:Nat):QB4 (l.take c) <+: QB4 l:=by
 obtain ⟨t,ht⟩:∃ t,QB4 (l.take c ++ l.drop c) = QB4 (l.take c) ++ t:=⟨_,by unfold QB4;rw [List.zipIdx_append,List.filterMap_append]⟩
 rw [List.take_append_drop] at ht
 exact ⟨t,ht.symm⟩
def vaE (v:Va):Array Value:=#[QGK v.name v.sort v.type v.index]
set_option maxRecDepth 100000 in
theorem QMo (n:Nat) (d:De) (op oi:Option Addr) (capp capi bp fp bi fi np ni:Nat) (hnp:Hid (d.params.length = np)) (hni:Hid (d.items.length = ni)) (lp' : (np:Int)≤1000000) (li' : (ni:Int)≤1000000) (M:Nat→Prop) (rw:World→Option Nat) (B:Nat) (w:World)
  (hA:Hid (Near M rw w)) (hB:Hid (QAc M rw w B)) (hc:Hid (w.heap[B]? = some (.cells #[.int .i64 d.kind,.string d.name,.slice op np capp,.slice oi ni capi,.int .i64 d.type,.int .i64 d.e,.int .i64 d.pos] 36 (0,0))))
  (hop:Hid (0 < np→op = some ⟨bp,fp,none⟩)) (hoi:Hid (0 < ni→oi = some ⟨bi,fi,none⟩)) (hSp:Hid (0 < np→QAc M rw w bp)) (hSi:Hid (0 < ni→QAc M rw w bi))
  (hvp:Hid (∀ j,j < np→∀ x,d.params[j]? = some x→PaAt w bp (fp+j*2) x)) (hvi:Hid (∀ j,j < ni→∀ x,d.items[j]? = some x→ItAt w bi (fi+j*9) x)) (lp:Nat) (J Jx:List Va→World→Prop)
  (W:World) (hW:Hid (Below w.heap.size w W)) (hJ:Hid (∀ s X Y,J s X→X.grownBy Y none→J s Y))
  (hY:Hid (∀ pre (v:Va) W1,J pre W1→pre ++ [v] <+: QAV d→YieldAt Fence.wide (n - 1) Tryz.prog lp (vaE v) W1 fun e W' =>
   (e = .returned (.bool true)∧J (pre ++ [v]) W'∧KeepM M rw w.heap.size W1 W')∨(e = .returned (.bool false)∧Jx (pre ++ [v]) W')))
  (h0:Hid (J [] W)) :
  CallsIn Fence.wide n Tryz.prog 93 #[.func (.yield lp) #[] #[],.pointer (some ⟨B,0,none⟩)] W fun e W'=>(∃ v,e = .returned v) ∧
   ((∃ ys:List Va,ys = QAV d∧J ys W')∨(∃ pre:List Va,pre <+: QAV d∧Jx pre W')):=by
 have hBW:W.heap[B]? = some (.cells #[.int .i64 d.kind,.string d.name,.slice op np capp,.slice oi ni capi,.int .i64 d.type,.int .i64 d.e,.int .i64 d.pos] 36 (0,0)):=(hW.out.block _ hB.out.1).trans hc.out
 obtain ⟨_,b0,b1,b2,b3,b4,b5,b6⟩:=QAe hBW
 have HK:=hid (Kept.start hA.out hW.out)
 clear hBW b0 b1 b4 b5 b6
 refine callsIn_of_wp Tryz.func93 rfl trivial ?_ rfl
 simp only [Tryz.ntmps93,List.size_toArray,List.length_cons,List.length_nil,Nat.reduceAdd,Nat.reduceSub,Array.replicate_succ,Array.replicate_zero,List.push_toArray,List.append_toArray,List.nil_append,List.cons_append]
 gi_wp2_with fail
 clear b2 b3
 gi_loopw [12] (fun i wr=>∃ (j:Nat),i = .int .i64 j∧Hid (j≤np)∧Hid (J (QBI (d.params.take j)) wr)∧Hid (Kept M rw w wr)) (fun i _=>np - QA2 i)
 case atStart=>exact ⟨0,rfl,hid (Nat.zero_le _),h0,HK⟩
 case round =>
  obtain ⟨j,rfl,hj,hJp,hKp⟩:=hrel
  have jl:=hj.out
  rcases Nat.lt_or_ge j np with hlt | hge
  ·have q3:(j:Int) < (np:Int):=by omega
   have ix:Ix 33 2 (.slice op np capp) bp fp j:=by
    intro W
    rw [hop.out (by omega)]
    have h1:(j:Int) < (np:Int):=by omega
    have h2:(j:Int)≤9223372036854775807:=by omega
    go_simp
   unfold Ix at ix
   obtain ⟨x,hx⟩:∃ x,d.params[j]? = some x:=⟨_,List.getElem?_eq_getElem (by have:=hnp.out;omega)⟩
   have hp:=hvp.out j hlt x hx
   have p0:wr.cell? ⟨bp,fp+j*2,none⟩ = some (.string x.name):=(cell_same' (hKp.out.2.2 _ (hSp.out (by omega))) _).trans hp.1
   have p1:wr.cell? ⟨bp,fp+j*2+1,none⟩ = some (.int .i64 x.type):=(cell_same' (hKp.out.2.2 _ (hSp.out (by omega))) _).trans hp.2.1
   have HX:=hid hx
   clear hp hx
   have HJa:=hid (hJ.out _ _ _ hJp.out (World.grownBy_alloc wr (.cells #[.string x.name,.int .i64 x.type] 65) none))
   have HKa:=hid (hKp.out.below hA.out ((Below.refl wr.heap.size wr).alloc (Nat.le_refl _) (.cells #[.string x.name,.int .i64 x.type] 65)))
   have hlen:QBI (d.params.take j) ++ [⟨x.name,1,x.type,j⟩] <+: QAV d:=by
    rw [← QEG _ _ _ HX.out]
    exact (QHr _ _).trans (List.prefix_append _ _)
   obtain ⟨fn,tmps,assign,body,hy,hR⟩:=hY.out _ ⟨x.name,1,x.type,j⟩ _ HJa.out hlen
   have hy' : (Instr.yield lp #[.agg #[.string x.name,.int .i64 1,.int .i64 x.type,.int .i64 (j:Int)]]).run Tryz.prog (wr.alloc (.cells #[.string x.name,.int .i64 x.type] 65)) = .ok (.round lp fn tmps assign body) (wr.alloc (.cells #[.string x.name,.int .i64 x.type] 65)):=hy
   have HR:=hid hR
   have HT:Hid (QBI (d.params.take j) ++ [⟨x.name,1,x.type,j⟩] = QBI (d.params.take (j+1))):=hid (QEG _ _ _ HX.out).symm
   clear hy hR hlen
   gi_wp2_with fail
   refine ⟨fun h=>(by cases h),HR.out.mono ?_⟩
   rintro e W3 (⟨rfl,hJ3,hk3⟩ | ⟨rfl,hJx3⟩)
   ·have HK3:=hid (HKa.out.keep hk3)
    have HJ3:=hid hJ3
    rw [HT.out] at HJ3
    clear hJ3 hk3
    gi_wp2_with fail
    go_roundw
    case rel=>exact ⟨j+1,by go_num,hid (by omega),HJ3,HK3⟩
    case measure=>simp [QA2];omega
   ·have HJx3:=hid hJx3
    rw [HT.out] at HJx3
    clear hJx3
    gi_wp2_with fail
    refine bodyPost_ret (results_none rfl _ _ _) rfl ?_
    exact ⟨⟨_,rfl⟩,.inr ⟨_,(QHr _ _).trans (List.prefix_append _ _),HJx3.out⟩⟩
  ·obtain rfl:j = np:=by omega
   have HJ1:=hid hJp.out
   rw [show d.params.take j = d.params by rw [← hnp.out];exact List.take_length] at HJ1
   have hBr:=(hKp.out.2.2 _ hB.out).trans hc.out
   obtain ⟨_,b0,b1,b2,b3,b4,b5,b6⟩:=QAe hBr
   have HK1:=hid hKp.out
   clear hJp hKp hBr b0 b1 b2 b4 b5 b6
   gi_wp2_with fail
   clear b3
   gi_loopw [30] (fun i wr=>∃ (k:Nat),i = .int .i64 k∧Hid (k≤ni)∧Hid (J (QBI d.params ++ QB4 (d.items.take k)) wr)∧Hid (Kept M rw w wr)) (fun i _=>ni - QA2 i)
   case atStart=>exact ⟨0,rfl,hid (Nat.zero_le _),(by simpa [QB4] using HJ1),HK1⟩
   case round =>
    clear HJ1 HK1
    obtain ⟨k,rfl,hk,hJq,hKq⟩:=hrel
    have kl:=hk.out
    rcases Nat.lt_or_ge k ni with hlt | hge
    ·have q3:(k:Int) < (ni:Int):=by omega
     have ix:Ix 34 9 (.slice oi ni capi) bi fi k:=by
      intro W
      rw [hoi.out (by omega)]
      have h1:(k:Int) < (ni:Int):=by omega
      have h2:(k:Int)≤9223372036854775807:=by omega
      go_simp
     unfold Ix at ix
     obtain ⟨x,hx⟩:∃ x,d.items[k]? = some x:=⟨_,List.getElem?_eq_getElem (by have:=hni.out;omega)⟩
     obtain ⟨os,caps,iok,i0,i1,i2,i3,i4,i5,i6,i7,i8⟩:=QCf (hvi.out k hlt x hx)
     have hb:=hKq.out.2.2 _ (hSi.out (by omega))
     have p0:=(cell_same' hb _).trans i0
     have p1:=(cell_same' hb _).trans i1
     have p2:=(cell_same' hb _).trans i2
     have p3:=(cell_same' hb _).trans i3
     have p4:=(cell_same' hb _).trans i4
     have p5:=(cell_same' hb _).trans i5
     have p6:=(cell_same' hb _).trans i6
     have p7:=(cell_same' hb _).trans i7
     have p8:=(cell_same' hb _).trans i8
     have HX:=hid hx
     clear hx hb i0 i1 i2 i3 i4 i5 i6 i7 i8 iok
     obtain ⟨S,hSd⟩:∃ S,S = QCI x.kind:=⟨_,rfl⟩
     obtain ⟨T,hTd⟩:∃ T,T = QEU x.kind x.type:=⟨_,rfl⟩
     have MD:Hid (∀ W,Calls Tryz.prog 94 #[.agg #[.int .i64 x.kind,.string x.name,.int .i64 x.type,.int .i64 x.e,.int .i64 x.f,.slice os x.states.length caps,.string x.state,.string x.next,.int .i64 x.pos]] W fun r w'=>r = .returned (.tuple #[.int .i64 S,.int .i64 T])∧Below W.heap.size W w'):=hid (fun W=>by rw [hSd,hTd];exact QJ6 _ _ _ _ _ _ _ _ _ _ _ W)
     have HIT:Hid (QB4 (d.items.take (k+1)) = QB4 (d.items.take k) ++ if S = 0 then [] else [⟨x.name,S,T,k⟩]):=hid (by rw [hSd,hTd];exact QGE _ _ _ HX.out)
     have HJa:=hid (hJ.out _ _ _ hJq.out (World.grownBy_alloc wr (.cells #[.int .i64 x.kind,.string x.name,.int .i64 x.type,.int .i64 x.e,.int .i64 x.f,.slice os x.states.length caps,.string x.state,.string x.next,.int .i64 x.pos] 57) none))
     have HKa:=hid (hKq.out.below hA.out ((Below.refl wr.heap.size wr).alloc (Nat.le_refl _) (.cells #[.int .i64 x.kind,.string x.name,.int .i64 x.type,.int .i64 x.e,.int .i64 x.f,.slice os x.states.length caps,.string x.state,.string x.next,.int .i64 x.pos] 57)))
     have HBX:Hid ((wr.alloc (.cells #[.int .i64 x.kind,.string x.name,.int .i64 x.type,.int .i64 x.e,.int .i64 x.f,.slice os x.states.length caps,.string x.state,.string x.next,.int .i64 x.pos] 57)).heap[wr.heap.size]? = some (.cells #[.int .i64 x.kind,.string x.name,.int .i64 x.type,.int .i64 x.e,.int .i64 x.f,.slice os x.states.length caps,.string x.state,.string x.next,.int .i64 x.pos] 57 (0,0))):=hid (QAR rfl)
     clear hSd hTd
     gi_wp2_with fail
     refine ⟨trivial,fun h=>(by cases h),(callsIn_wide.2 (MD.out _)).mono ?_⟩
     rintro e w1 ⟨rfl,hb1⟩
     have h1:=(hb1.block _ (lt_of_heap HBX.out)).trans HBX.out
     have r1:w1.cell? ⟨wr.heap.size,1,none⟩ = some (.string x.name):=by simp [World.cell?,h1]
     have HJb:=hid (hJ.out _ _ _ HJa.out ⟨hb1.os,hb1.tape,hb1.output,hb1.size,fun k hk _=>hb1.block k hk⟩)
     have HKb:=hid (HKa.out.below hA.out hb1)
     clear h1 hb1 HJa HKa HBX
     dsimp only
     by_cases hz:S = 0
     ·have HT:Hid (QB4 (d.items.take (k+1)) = QB4 (d.items.take k)):=hid (by rw [HIT.out,if_pos hz,List.append_nil])
      have qz:(S != 0) = false:=by simp [hz]
      clear hz
      gi_wp2_with fail
      refine ⟨fun f h=>(by cases h),?_⟩
      gi_wp2_with fail
      go_roundw
      case rel=>exact ⟨k+1,by go_num,hid (by omega),(by rw [HT.out];exact HJb),HKb⟩
      case measure=>simp [QA2];omega
     ·have HT:Hid (QBI d.params ++ QB4 (d.items.take k) ++ [⟨x.name,S,T,k⟩] = QBI d.params ++ QB4 (d.items.take (k+1))):=hid (by rw [HIT.out,if_neg hz,List.append_assoc])
      have qz:(S != 0) = true:=by simpa using hz
      have hlen:QBI d.params ++ QB4 (d.items.take k) ++ [⟨x.name,S,T,k⟩] <+: QAV d:=by
       rw [HT.out]
       exact (List.prefix_append_right_inj _).2 (QHq _ _)
      obtain ⟨fn,tmps,assign,body,hy,hR⟩:=hY.out _ ⟨x.name,S,T,k⟩ _ HJb.out hlen
      have hy' : (Instr.yield lp #[.agg #[.string x.name,.int .i64 S,.int .i64 T,.int .i64 (k:Int)]]).run Tryz.prog w1 = .ok (.round lp fn tmps assign body) w1:=hy
      have HR:=hid hR
      clear hy hR hlen hz
      gi_wp2_with fail
      refine ⟨fun h=>(by cases h),HR.out.mono ?_⟩
      rintro e W3 (⟨rfl,hJ3,hk3⟩ | ⟨rfl,hJx3⟩)
      ·have HK3:=hid (HKb.out.keep hk3)
       have HJ3:=hid hJ3
       rw [HT.out] at HJ3
       clear hJ3 hk3
       gi_wp2_with fail
       go_roundw
       case rel=>exact ⟨k+1,by go_num,hid (by omega),HJ3,HK3⟩
       case measure=>simp [QA2];omega
      ·have HJx3:=hid hJx3
       rw [HT.out] at HJx3
       clear hJx3
       gi_wp2_with fail
       refine bodyPost_ret (results_none rfl _ _ _) rfl ?_
       exact ⟨⟨_,rfl⟩,.inr ⟨_,(List.prefix_append_right_inj _).2 (QHq _ _),HJx3.out⟩⟩
    ·obtain rfl:k = ni:=by omega
     have HJ2:=hid hJq.out
     rw [show d.items.take k = d.items by rw [← hni.out];exact List.take_length] at HJ2
     gi_wp2_with fail
     go_end0
     exact ⟨⟨_,rfl⟩,.inl ⟨_,rfl,HJ2.out⟩⟩
def DeSrc (M:Nat→Prop) (rw:World→Option Nat) (w:World) (d:De) (B:Nat):Prop:=∃ s t,w.heap[B]? = some (.cells #[.int .i64 d.kind,.string d.name,s,t,.int .i64 d.type,.int .i64 d.e,.int .i64 d.pos] 36 (0,0))∧QAc M rw w B ∧
 SlAt s d.params.length 2 (fun b o i=>QAc M rw w b∧∀ y,d.params[i]? = some y→PaAt w b o y)∧SlAt t d.items.length 9 (fun b o i=>QAc M rw w b∧∀ y,d.items[i]? = some y→ItAt w b o y)
theorem QKk (n:Nat) (d:De) (B:Nat) (M:Nat→Prop) (rw:World→Option Nat) (w:World) (hA:Near M rw w) (hs:DeSrc M rw w d B) (h1:d.params.length≤1000000) (h2:d.items.length≤1000000) :
  SeqStopsK (α:={v:Va // v∈QAV d}) Fence.wide n Tryz.prog 93 #[.pointer (some ⟨B,0,none⟩)] (fun v=>vaE v.1) (KeepM M rw w.heap.size) (fun ys=>ys.map (·.1) = QAV d) (fun pre=>pre.map (·.1) <+: QAV d) (QAV d).length w:=by
 obtain ⟨s,t,hB,hS,⟨op,capp,bp,fp,rfl,_,_,hp1,hp2⟩,⟨oi,capi,bi,fi,rfl,_,_,hi1,hi2⟩⟩:=hs
 intro lp J Jx W hW hJ _ hY h0
 refine (QMo n d op oi capp capi bp fp bi fi _ _ (hid rfl) (hid rfl) (by omega) (by omega) M rw B w (hid hA) (hid hS) (hid hB) (hid hp1) (hid hi1)
  (hid fun h=>(hp2 0 h).1) (hid fun h=>(hi2 0 h).1) (hid fun j hj=>(hp2 j hj).2) (hid fun j hj=>(hi2 j hj).2) lp (fun l W=>∃ l' : List {v:Va // v∈QAV d},l'.map (·.1) = l∧J l' W) (fun l W=>∃ l' : List {v:Va // v∈QAV d},l'.map (·.1) = l∧Jx l' W) W (hid hW)
  (hid ?_) (hid ?_) (hid ⟨[],rfl,h0⟩)).mono ?_
 ·rintro s X Y ⟨l',e,h⟩ h2
  exact ⟨l',e,hJ l' X Y none h h2 (fun r e=>by cases e)⟩
 ·rintro pre v W1 ⟨l',rfl,hj⟩ hp
  have hv:v∈QAV d:=hp.subset (by simp)
  have hl:l'.length < (QAV d).length:=by have:=hp.length_le;simp at this;omega
  obtain ⟨fn,tmps,assign,body,e1,e2⟩:=hY l' ⟨v,hv⟩ W1 hj hl
  refine ⟨fn,tmps,assign,body,e1,e2.mono ?_⟩
  rintro e W' (⟨rfl,h1,h2⟩ | ⟨rfl,h1⟩)
  ·exact .inl ⟨rfl,⟨l' ++ [⟨v,hv⟩],by simp,h1⟩,h2⟩
  ·exact .inr ⟨rfl,⟨l' ++ [⟨v,hv⟩],by simp,h1⟩⟩
 ·rintro e W' ⟨hv,(⟨ys,rfl,l',e,h⟩ | ⟨pre,hp,l',rfl,h⟩)⟩
  ·exact ⟨hv,.inl ⟨l',e,h⟩⟩
  ·exact ⟨hv,.inr ⟨l',hp,h⟩⟩
end
section
open Go.RowKit Lx Go.Shelf
theorem QIt {w W:World} {s t:Value} {d:De} {B:Nat} {M:Nat→Prop} {rw:World→Option Nat} (hs:SlAt s d.params.length 2 (fun b o i=>∀ y,d.params[i]? = some y→PaAt w b o y)) (ht:SlAt t d.items.length 9 (fun b o i=>∀ y,d.items[i]? = some y→ItAt w b o y)) (hb:Below w.heap.size w W)
  (hB:W.heap[B]? = some (.cells #[.int .i64 d.kind,.string d.name,s,t,.int .i64 d.type,.int .i64 d.e,.int .i64 d.pos] 36 (0,0))) (hM:∀ k,M k→w.heap.size≤k∧k≠B) (hr:∀ k,rw W = some k→w.heap.size≤k∧k≠B):DeSrc M rw W d B:=by
 have still:∀ k,k < w.heap.size→QAc M rw W k:=fun k hk=>⟨Nat.lt_of_lt_of_le hk hb.size,fun h=>by have:=(hM k h).1;omega,fun h=>by have:=(hr k h).1;omega⟩
 refine ⟨s,t,hB,⟨lt_of_heap hB,fun h=>(hM B h).2 rfl,fun h=>(hr B h).2 rfl⟩,hs.mono fun b o i hi h=>?_,ht.mono fun b o i hi h=>?_⟩
 ·obtain ⟨y,hy⟩:∃ y,d.params[i]? = some y:=⟨_,List.getElem?_eq_getElem hi⟩
  exact ⟨still _ (World.block_lt_of_cell? _ _ (h y hy).1),fun z hz=>(h z hz).below hb⟩
 ·obtain ⟨y,hy⟩:∃ y,d.items[i]? = some y:=⟨_,List.getElem?_eq_getElem hi⟩
  obtain ⟨_,h0,_⟩:=h y hy
  exact ⟨still _ (World.block_lt_of_cell? _ _ h0),fun z hz=>(h z hz).below hb⟩
end
section
open Go.RowKit Lx Go.Shelf
attribute [local go_sem] Oper.semAt_some
theorem QOZ:(Tryz.prog.info? 67).map (fun i=>(i.zero,i.size,i.bytes)) = some (some (.agg #[.string ByteArray.empty,.int .i64 0,.int .i64 0,.int .i64 0]),4,40):=by kernel_rfl
def vaC (v:Va):List Value:=[.string v.name,.int .i64 v.sort,.int .i64 v.type,.int .i64 v.index]
def QKu (l:List Va):List Value:=l.flatMap vaC
theorem QCy (l:List Va) (x:Va):QKu (l ++ [x]) = QKu l ++ vaC x:=by simp [QKu]
def VasAt (W:World) (s:Value) (l:List Va):Prop:=SlAt s l.length 4 fun b o i=>∀ x,l[i]? = some x→W.cell? ⟨b,o,none⟩ = some (.string x.name)∧W.cell? ⟨b,o+1,none⟩ = some (.int .i64 x.sort)∧W.cell? ⟨b,o+2,none⟩ = some (.int .i64 x.type)∧W.cell? ⟨b,o+3,none⟩ = some (.int .i64 x.index)
theorem VasAt.below {w w' : World} {s:Value} {l:List Va} (h:VasAt w s l) (hb:Below w.heap.size w w'):VasAt w' s l:=h.mono fun _ _ _ _ h x hx=>⟨QA1 hb (h x hx).1,QA1 hb (h x hx).2.1,QA1 hb (h x hx).2.2.1,QA1 hb (h x hx).2.2.2⟩
theorem QOY (l:List Va):∀ (i:Nat) (x:Va),l[i]? = some x→∀ j,j < 4→(QKu l)[i*4+j]? = (vaC x)[j]?:=by
 induction l with
 | nil=>intro i x h;simp at h
 | cons y l ih =>
  intro i x h j hj
  have e:QKu (y :: l) = vaC y ++ QKu l:=by simp [QKu]
  rw [e]
  cases i with
  | zero =>
   simp at h
   subst h
   rw [List.getElem?_append_left (by simp [vaC];omega)]
   simp
  | succ i =>
   rw [List.getElem?_append_right (by simp [vaC];omega)]
   rw [show (i+1)*4+j - (vaC y).length = i*4+j by simp [vaC];omega]
   exact ih i x (by simpa using h) j hj
theorem QMp {W:World} {B:Nat} {v:Value} {l:List Va} (h:W.ownsRow B 67 4 v l.length (QKu l)):VasAt W v l:=by
 have h0:=h
 obtain ⟨hlen,h1 | ⟨g,cap,cur,rfl,hb,hg,hnc,hcm,hcs,htk⟩⟩:=h
 ·rw [h1.1]
  unfold VasAt
  rw [h1.2]
  exact QCW _ _ _ _ _ ⟨Nat.zero_le _,fun _=>rfl⟩ rfl
 ·have hc:=h0.cells (g:=g) rfl
  refine QCx hnc hcm fun i _ x hx=>?_
  have hz:∀ j,j < 4→(⟨g,0,none⟩:Addr).add (i*4+j) = ⟨g,i*4+j,none⟩:=fun j _=>by unfold Addr.add;split <;> simp_all
  have k:∀ j u,j < 4→(vaC x)[j]? = some u→W.cell? ⟨g,i*4+j,none⟩ = some u:=fun j u hj hu=>by
   rw [← hz j hj]
   exact hc _ _ ((QOY l i x hx j hj).trans hu)
  rw [Nat.zero_add]
  exact ⟨k 0 _ (by omega) rfl,k 1 _ (by omega) rfl,k 2 _ (by omega) rfl,k 3 _ (by omega) rfl⟩
theorem QE3 {B:Nat} {W Y:World} (h:Below W.heap.size W Y):KeepsFrom B W Y:=⟨h.size,fun k _ _ hk _=>(h.block k (lt_of_heap hk)).trans hk⟩
theorem QCc (W:World) (a b c d:Value) (T:TypeId) (j:Nat) (u:Value) (h : [a,b,c,d][j]? = some u):(W.alloc (.cells #[a,b,c,d] T)).cell? ((⟨W.heap.size,0,none⟩:Addr).add j) = some u:=by
 have e:(⟨W.heap.size,0,none⟩:Addr).add j = ⟨W.heap.size,j,none⟩:=by unfold Addr.add;split <;> simp_all
 rw [e,World.cell?_alloc_new,← h,← Array.getElem?_toList]
theorem va_name {D:De} {W:World} {v:Value} (h:DeVal W v D):∀ x∈QAV D,x.name.size≤281474976710656:=by
 obtain ⟨s,t,_,h1,h2,_⟩:=h
 intro x hx
 unfold QAV at hx
 rcases List.mem_append.1 hx with hx | hx
 ·unfold QBI at hx
  obtain ⟨⟨y,i⟩,hy,rfl⟩:=List.mem_map.1 hx
  obtain ⟨_,_,_,_,_,_,_,_,hp⟩:=h1
  have hyi:=List.mk_mem_zipIdx_iff_getElem?.1 hy
  obtain ⟨_,_,h3,_⟩:=hp i (List.getElem?_eq_some_iff.1 hyi).1 y hyi
  unfold QAH at h3
  show y.name.size≤_
  omega
 ·unfold QB4 at hx
  obtain ⟨⟨y,i⟩,hy,hf⟩:=List.mem_filterMap.1 hx
  dsimp only at hf
  split at hf
  ·cases hf
  ·cases hf
   obtain ⟨_,_,_,_,_,_,_,_,hp⟩:=h2
   have hyi:=List.mk_mem_zipIdx_iff_getElem?.1 hy
   obtain ⟨os,caps,iok,_⟩:=QCf (hp i (List.getElem?_eq_some_iff.1 hyi).1 y hyi)
   have h3:=iok.name
   unfold QAH at h3
   show y.name.size≤_
   omega
theorem QMn (D:De) (h:D.params.length≤600∧D.items.length≤600):(QAV D).length≤1200:=by
 unfold QAV
 have:=QDw D.params
 have:=QFV D.items
 rw [List.length_append]
 omega
end
section
open Go.RowKit Lx Go.Shelf
attribute [local go_sem] Oper.semAt_some
def noVa:Va:=⟨⟨#[]⟩,0,0,0⟩
def vaB (x:Va):Array Value:=#[.string x.name,.int .i64 x.sort,.int .i64 x.type,.int .i64 x.index]
theorem QFU (a b:ByteArray):a.toList = b.toList↔a = b:=⟨fun h=>by rw [ByteArray.toList_eq,ByteArray.toList_eq] at h;exact ByteArray.ext (Array.toList_inj.1 h),fun h=>h ▸ rfl⟩
theorem QEI {W:World} {B:Nat} {a:Value} {T:TypeId} (h:W.heap[B]? = some (.cells #[a] T (0,0))):W.cell? ⟨B,0,none⟩ = some a∧W.frozen? ⟨B,0,none⟩ = false:=⟨by simp [World.cell?,h],by simp [World.frozen?,h]⟩
theorem QFA {V:World} {B:Nat} {b:Bool} (h:V.heap[B]? = some (.cells #[.bool b] 4 (0,0))):(loadVar 4 ⟨B,0,none⟩).run Tryz.prog V = .ok (.bool b) V:=by
 have h1:=(QEI h).1
 simp [go_sem,h1]
def QMv (l:List Va) (nm:ByteArray) (w:World) (e:Ending) (w' : World):Prop :=
 ∃ (b:Bool) (x:Va),e = .returned (.tuple #[QGK x.name x.sort x.type x.index,.bool b])∧(b = true→l.find? (fun y=>decide (y.name = nm)) = some x)∧(b = false→x = noVa∧∀ y∈l,¬ y.name = nm)∧Below w.heap.size w w'
end
end
section
open Go.RowKit Go.Shelf
def AbidesE {β:Type} (rw:World→Option Nat) (E:Nat→Prop) (B:Nat) (J:β→World→Prop):Prop :=
 ∀ s X Y row,J s X→X.grownBy Y row→(∀ r,row = some r→(B≤r∨E r)∧∃ o:Obj,X.heap[r]? = some o∧(o.isCells = false∨rw X≠some r))→J s Y
theorem AbidesE.alloc {β:Type} {rw:World→Option Nat} {E:Nat→Prop} {B:Nat} {J:β→World→Prop} (h:AbidesE rw E B J) {s:β} {X:World} (o:Obj) (hs:J s X):J s (X.alloc o) :=
 h s X _ none hs (World.grownBy_alloc X o none) (fun r e=>by cases e)
theorem AbidesE.below {β:Type} {rw:World→Option Nat} {E:Nat→Prop} {B:Nat} {J:β→World→Prop} (h:AbidesE rw E B J) {s:β} {X Y:World} (hb:Below X.heap.size X Y) (hs:J s X):J s Y :=
 h s X _ none hs ⟨hb.os,hb.tape,hb.output,hb.size,fun k hk _=>hb.block k hk⟩ (fun r e=>by cases e)
theorem AbidesE.put {β:Type} {rw:World→Option Nat} {E:Nat→Prop} {B:Nat} {J:β→World→Prop} (h:AbidesE rw E B J) {s:β} {X:World} {l:Nat} {o:Obj} (o' : Obj) (hs:J s X) (hB:B≤l) (hl:X.heap[l]? = some o) (ho:o.isCells = false):J s (X.putObj l o') :=
 h s X _ (some l) hs (grownBy_putObj' X l o') (fun r e=>by cases e;exact ⟨.inl hB,o,hl,.inl ho⟩)
theorem AbidesE.mono {β:Type} {rw:World→Option Nat} {E E' : Nat→Prop} {B B' : Nat} {J:β→World→Prop} (h:AbidesE rw E B J) (hB:B≤B') (hE:∀ r,E' r→B≤r∨E r):AbidesE rw E' B' J :=
 fun s X Y row hs hg hr=>h s X Y row hs hg fun r e=>⟨by rcases (hr r e).1 with h1 | h1;exact .inl (Nat.le_trans hB h1);exact hE r h1,(hr r e).2⟩
def Rowed {β:Type} (rw:World→Option Nat) (J:β→World→Prop):Prop:=∀ s X,J s X→∀ k,rw X = some k→∃ o:Obj,X.heap[k]? = some o∧o.isCells = true
def KeepX (M:Nat→Prop) (rw:World→Option Nat) (n0 n1:Nat) (X Y:World):Prop:=X.heap.size≤Y.heap.size ∧
 (∀ k,k < X.heap.size→¬ M k→rw X≠some k→(k < n0∨n1≤k)→Y.heap[k]? = X.heap[k]?)∧∀ k,rw Y = some k→rw X = some k∨(X.heap.size≤k∧k < Y.heap.size)
theorem KeepX.trans {M:Nat→Prop} {rw:World→Option Nat} {n0 n1:Nat} {A B C:World} (h:KeepX M rw n0 n1 A B) (k:KeepX M rw n0 n1 B C):KeepX M rw n0 n1 A C:=by
 refine ⟨Nat.le_trans h.1 k.1,fun j hj hM hr hn=>?_,fun j hj=>?_⟩
 ·refine (k.2.1 j (Nat.lt_of_lt_of_le hj h.1) hM (fun e=>?_) hn).trans (h.2.1 j hj hM hr hn)
  rcases h.2.2 j e with e2 | e2
  ·exact hr e2
  ·omega
 ·rcases k.2.2 j hj with e | e
  ·rcases h.2.2 j e with e2 | e2
   ·exact .inl e2
   ·exact .inr ⟨e2.1,Nat.lt_of_lt_of_le e2.2 k.1⟩
  ·exact .inr ⟨Nat.le_trans h.1 e.1,e.2⟩
theorem KeepX.below {M:Nat→Prop} {rw:World→Option Nat} {n0 n1:Nat} {w X Y:World} (hN:Near M rw w) (hw:w.heap.size≤X.heap.size) (h:Below X.heap.size X Y):KeepX M rw n0 n1 X Y :=
 ⟨h.size,fun k hk _ _ _=>h.block k hk,fun k hk=>.inl (by rwa [hN.same X Y fun j hj=>h.block j (Nat.lt_of_lt_of_le hj hw)] at hk)⟩
theorem KeepX.more {M M' : Nat→Prop} {rw:World→Option Nat} {n0 n1 m0 m1:Nat} {X Y:World} (h:KeepX M rw n0 n1 X Y) (hM:∀ k,¬ M' k→¬ M k∧(k < n0∨n1≤k)):KeepX M' rw m0 m1 X Y :=
 ⟨h.1,fun k hk h1 h2 _=>h.2.1 k hk (hM k h1).1 h2 (hM k h1).2,h.2.2⟩
theorem Kept.keepx {M:Nat→Prop} {rw:World→Option Nat} {n1:Nat} {w X Y:World} (h:Kept M rw w X) (k:KeepX M rw w.heap.size n1 X Y):Kept M rw w Y:=by
 refine ⟨Nat.le_trans h.1 k.1,fun j hj=>?_,fun j hj=>?_⟩
 ·rcases k.2.2 j hj with e | ⟨e,_⟩
  ·exact h.2.1 j e
  ·exact .inr (Nat.le_trans h.1 e)
 ·refine (k.2.1 j (Nat.lt_of_lt_of_le hj.1 h.1) hj.2.1 (fun e=>?_) (.inl hj.1)).trans (h.2.2 j hj)
  rcases h.2.1 j e with e2 | e2
  ·exact hj.2.2 e2
  ·have:=hj.1;omega
theorem YieldAt.mono {F:Fence} {m:Nat} {P:Program} {l:Nat} {args:Array Value} {W:World} {R R' : Ending→World→Prop} (h:YieldAt F m P l args W R) (hr:∀ e w',R e w'→R' e w'):YieldAt F m P l args W R':=by
 obtain ⟨fn,tmps,assign,body,h1,h2⟩:=h
 exact ⟨fn,tmps,assign,body,h1,h2.mono hr⟩
def SeqX {α:Type} (F:Fence) (n:Nat) (P:Program) (g:Nat) (lb:Array Value) (encs:α→Array Value) (E M:Nat→Prop) (rw:World→Option Nat) (S:List α→World→Prop) (Sp:List α→Prop) (N:Nat) (w:World):Prop :=
 ∀ (l:Nat) (J Jx:List α→World→Prop) (W:World),Below w.heap.size w W→AbidesE rw E W.heap.size J→AbidesE rw E W.heap.size Jx→Rowed rw J →
  (∀ pre x X,J pre X→pre.length < N→YieldAt F (n - 1) P l (encs x) X fun r Y =>
   (r = .returned (.bool true)∧J (pre ++ [x]) Y∧KeepX M rw w.heap.size W.heap.size X Y)∨(r = .returned (.bool false)∧Jx (pre ++ [x]) Y∧KeepsFrom W.heap.size X Y)) →
  J [] W→CallsIn F n P g (#[.func (.yield l) #[] #[]] ++ lb) W fun r Y=>(∃ v,r = .returned v)∧((∃ xs,S xs Y∧J xs Y)∨(∃ pre,Sp pre∧Jx pre Y))
variable {F:Fence} {n:Nat} {P:Program} {w:World}
set_option maxHeartbeats 800000 in
theorem QBl {α:Type} {g:Operand} {ps:Array Tmp} {assign body:Code} {Q:Exit→Act→World→Prop} {a:Act}
  (hro:F.round = none) (h1:1≤n) {gf:Nat} {lb:Array Value} (hg:a.eval g = .func (.func gf) #[] lb) (hFg:F.fn gf) (eg:∀ args w,(callFunc gf args).run P w = .ok (.enter gf args) w)
  {encs:α→Array Value} {E M:Nat→Prop} {rw:World→Option Nat} {S:List α→World→Prop} {Sp:List α→Prop} {N:Nat} (hseq:SeqX F (n - 1) P gf lb encs E M rw S Sp N w) (hSt:∀ xs Y l o,w.heap.size≤l→S xs Y→S xs (Y.putObj l o)) (hN:Near M rw w) (hE:∀ k,E k→k < w.heap.size) (hps:∀ x,(encs x).size = ps.size)
  (I:List α→World→Prop) (Ix:Code→List α→World→Prop) (hI:AbidesE rw E w.heap.size I) (hIx:∀ c,AbidesE rw E w.heap.size (Ix c)) (hIr:Rowed rw I) (h0:I [] w)
  (Ax:α→Act→World→Prop) (hAx:∀ x a' (Z:World) (l:Nat) (o o' : Obj),w.heap.size≤l→Z.heap[l]? = some o→o.isCells = false→Ax x a' Z→Ax x a' (Z.putObj l o'))
  (hassign:∀ (l:Nat) (pre:List α) (x:α) (W:World) (K:Act→World→Prop),I pre W→w.heap.size≤W.heap.size→(∀ a' W',Below W.heap.size W W'→Ax x a' W'→K a' W') →
   assign.wpIn (F.inRound l) (n - 1 - 1) P (Exit.then K (fun _ _ _=>False)) { tmps:=(ps.zip (encs x)).foldl (fun t (p,v)=>t.setIfInBounds p v) a.tmps,defers:=[] } W)
  (hbody:∀ (l:Nat) (pre:List α) (x:α) (a' : Act) (W:World),w.heap.size+2≤W.heap.size→I pre W→Ax x a' W→pre.length < N→body.wpIn (F.inRound l) (n - 1 - 1) P (ownPostG w.heap.size (KeepX M rw w.heap.size (w.heap.size+2)) I Ix (pre ++ [x]) W) a' W)
  (hdone:∀ (D:Nat) (xs:List α) (W:World),w.heap.size≤D→S xs W→I xs W→W.heap[D]? = some (.deferred (some []))→Q .normal { a with defers:={ target:=.collected D,args:=#[] } :: a.defers } W)
  (hstop:∀ (D:Nat) (c:Code) (pre:List α) (W:World),w.heap.size≤D→Sp pre→Ix c pre W→W.heap[D]? = some (.deferred (some []))→c.wpIn F n P Q { a with defers:={ target:=.collected D,args:=#[] } :: a.defers } W) :
  (Code.rangeFunc g ps assign body).wpIn F n P Q a w:=by
 refine wpIn_rangeFunc fun fn hfn=>?_
 rw [hro]
 obtain ⟨D,hD⟩:∃ D,D = w.heap.size:=⟨_,rfl⟩
 obtain ⟨R,hR⟩:∃ R:LoopState→Option Code→Loop,R = fun st pe=>{ state:=st,pending:=pe,fn,tmps:=a.tmps,params:=ps,assign,body,defers:=D }:=⟨_,rfl⟩
 obtain ⟨V,hV⟩:∃ V,V = (w.alloc (.deferred (some []))).alloc (.loop (R .ready none)):=⟨_,rfl⟩
 have z1:(w.alloc (.deferred (some []))).heap.size = D+1:=by rw [World.size_alloc,hD]
 have z2:V.heap.size = D+2:=by rw [hV,World.size_alloc,z1]
 have vD:V.heap[D]? = some (.deferred (some [])):=by rw [hV,QAq _ _ _ (by rw [z1];omega),hD];exact World.alloc_heap_new w _
 have vL:V.heap[D+1]? = some (.loop (R .ready none)):=by
  have:=World.alloc_heap_new (w.alloc (.deferred (some []))) (.loop (R .ready none))
  rw [z1] at this;rw [hV];exact this
 have vB:Below w.heap.size w V:=by rw [hV];exact ((Below.refl _ w).alloc (Nat.le_refl _) _).alloc (by rw [z1,hD];omega) _
 have vI:I [] V:=by rw [hV];exact hI.alloc _ (hI.alloc _ h0)
 have far:∀ {X Y:World} {row:Option Nat} {k:Nat} {o:Obj},D≤k→k < D+2→X.heap[k]? = some o→X.grownBy Y row→(∀ r,row = some r→(V.heap.size≤r∨E r)∧∃ o:Obj,X.heap[r]? = some o∧(o.isCells = false∨rw X≠some r))→Y.heap[k]? = some o:=by
  intro X Y row k o hk1 hk ho hg' hr
  refine (hg'.block k (lt_of_heap ho) fun e=>?_).trans ho
  rcases (hr k e.symm).1 with h | h
  ·omega
  ·have:=hE k h;omega
 have nearer:∀ {X:World} {row:Option Nat},(∀ r,row = some r→(V.heap.size≤r∨E r)∧∃ o:Obj,X.heap[r]? = some o∧(o.isCells = false∨rw X≠some r))→∀ r,row = some r→(w.heap.size≤r∨E r)∧∃ o:Obj,X.heap[r]? = some o∧(o.isCells = false∨rw X≠some r) :=
  fun hr r e=>⟨by rcases (hr r e).1 with h | h;exact .inl (by omega);exact .inr h,(hr r e).2⟩
 have hKb:∀ (W:World) (o o' : Obj),D+1 < W.heap.size→W.heap[D+1]? = some o→KeepX M rw w.heap.size V.heap.size W (W.putObj (D+1) o'):=fun W o o' hs ho=>by
  have hg:=grownBy_putObj' W (D+1) o'
  refine ⟨hg.size,fun k hk _ _ hn=>hg.block k hk (fun e=>by cases e;omega),fun k hk=>.inl ?_⟩
  rwa [hN.same W (W.putObj (D+1) o') fun j hj=>hg.block j (by omega) (fun e=>by cases e;omega)] at hk
 have hcall:=hseq (D+1)
  (fun pre W=>I pre W∧W.heap[D+1]? = some (.loop (R .ready none))∧W.heap[D]? = some (.deferred (some [])))
  (fun pre W=>∃ c,Ix c pre W∧W.heap[D+1]? = some (.loop (R .done (some c)))∧W.heap[D]? = some (.deferred (some [])))
  V vB
  (fun s X Y row hs hg' hr=>⟨hI s X Y row hs.1 hg' (nearer hr),far (by omega) (by omega) hs.2.1 hg' hr,far (by omega) (by omega) hs.2.2 hg' hr⟩)
  (fun s X Y row hs hg' hr=>by
   obtain ⟨c,hc,hl,hk⟩:=hs
   exact ⟨c,hIx c s X Y row hc hg' (nearer hr),far (by omega) (by omega) hl hg' hr,far (by omega) (by omega) hk hg' hr⟩)
  (fun s X hs=>hIr s X hs.1)
  (by
   rintro pre x X ⟨hi,hl,hk⟩ hlen
   have hlt:=lt_of_heap hl
   have hy:=run_yield (P:=P) (args:=encs x) hl (by rw [hR];exact hps x)
   rw [hR] at hy
   refine ⟨fn,_,assign,body,hy,roundIn_of_wpIn hfn (hassign _ pre x X _ hi (by omega) fun a' X' hbX hax=>?_)⟩
   clear hy
   have hi':=hI.below hbX hi
   have hl':=(hbX.block (D+1) hlt).trans hl
   have hk':=(hbX.block D (lt_of_heap hk)).trans hk
   have hlt':=lt_of_heap hl'
   refine ⟨_,run_beginRound hl' (by rw [hR]),?_⟩
   obtain ⟨Z,hZ⟩:∃ Z,Z = X'.putObj (D+1) (.loop { R .ready none with state:=.busy }):=⟨_,rfl⟩
   have zL:Z.heap[D+1]? = some (.loop { R .ready none with state:=.busy }):=by rw [hZ];exact World.putObj_heap_same hlt'
   have zD:Z.heap[D]? = some (.deferred (some [])):=by rw [hZ];exact (World.putObj_heap_other (by omega)).trans hk'
   have zK:KeepX M rw w.heap.size V.heap.size X Z:=by rw [hZ];exact (KeepX.below hN (by omega) hbX).trans (hKb _ _ _ hlt' hl')
   have zI:I pre Z:=by rw [hZ];exact hI.put _ hi' (by omega) hl' rfl
   have zA:Ax x a' Z:=by rw [hZ];exact hAx x a' X' (D+1) _ _ (by omega) hl' rfl hax
   have zS:w.heap.size+2≤Z.heap.size:=by have:=lt_of_heap zL;omega
   rw [← hZ]
   refine wpIn_mono (hbody _ pre x a' Z zS zI zA hlen) ?_
   rw [show w.heap.size+2 = V.heap.size by omega]
   have ends:∀ (jump:Option Code) (W3:World),KeepsFrom w.heap.size Z W3 →
     (Instr.endRound (D+1) jump).run P W3 = .ok (.bool jump.isNone) (W3.putObj (D+1) (.loop (R (if jump.isNone then .ready else .done) jump))) ∧
     W3.heap[D+1]? = some (.loop { R .ready none with state:=.busy }) ∧
     (W3.putObj (D+1) (.loop (R (if jump.isNone then .ready else .done) jump))).heap[D+1]? = some (.loop (R (if jump.isNone then .ready else .done) jump)) ∧
     (W3.putObj (D+1) (.loop (R (if jump.isNone then .ready else .done) jump))).heap[D]? = some (.deferred (some [])):=fun jump W3 hk3=>by
    have hl3:=hk3.same _ _ (by omega) zL rfl
    have he:=run_endRound (P:=P) jump hl3
    rw [hR] at he ⊢
    exact ⟨he,by rw [hR] at hl3;exact hl3,World.putObj_heap_same (Array.getElem?_eq_some_iff.1 hl3).1,(World.putObj_heap_other (by omega)).trans (hk3.same _ _ (by omega) zD rfl)⟩
   have stays:∀ (W3:World) (o:Obj),KeepsFrom w.heap.size Z W3→KeepsFrom V.heap.size X (W3.putObj (D+1) o):=fun W3 o hk3=>by
    have hz:=Nat.le_trans hbX.size (show X'.heap.size≤Z.heap.size by rw [hZ];simp)
    refine ⟨by simp only [World.putObj_size];exact Nat.le_trans hz hk3.size,fun k o hk ho hc=>?_⟩
    have h1:=(hbX.block k (lt_of_heap ho)).trans ho
    have h2:Z.heap[k]? = some o:=by rw [hZ];exact (World.putObj_heap_other (by omega)).trans h1
    exact (World.putObj_heap_other (by omega)).trans (hk3.same k o (by omega) h2 hc)
   rintro q a3 W3 hp
   cases q with
   | normal =>
    obtain ⟨k1,k2,k3⟩:=hp
    obtain ⟨e1,e2,e3,e4⟩:=ends none W3 k1
    exact ⟨_,_,e1,.inl ⟨rfl,⟨hI.put _ k3 (by omega) e2 rfl,e3,e4⟩,(zK.trans k2).trans (hKb _ _ _ (lt_of_heap e2) e2)⟩⟩
   | ret =>
    obtain ⟨k1,k2⟩:=hp
    obtain ⟨e1,e2,e3,e4⟩:=ends (some .ret) W3 k1
    exact ⟨_,_,e1,.inr ⟨rfl,⟨.ret,(hIx _).put _ k2 (by omega) e2 rfl,e3,e4⟩,stays _ _ k1⟩⟩
   | exit id =>
    obtain ⟨k1,k2⟩:=hp
    obtain ⟨e1,e2,e3,e4⟩:=ends (some (.exit id)) W3 k1
    exact ⟨_,_,e1,.inr ⟨rfl,⟨.exit id,(hIx _).put _ k2 (by omega) e2 rfl,e3,e4⟩,stays _ _ k1⟩⟩
   | goto t =>
    obtain ⟨k1,k2⟩:=hp
    obtain ⟨e1,e2,e3,e4⟩:=ends (some (.goto t)) W3 k1
    exact ⟨_,_,e1,.inr ⟨rfl,⟨.goto t,(hIx _).put _ k2 (by omega) e2 rfl,e3,e4⟩,stays _ _ k1⟩⟩
   | panic ch=>exact hp.elim
   | outgrown=>exact hp.elim)
  ⟨vI,vL,vD⟩
 refine ⟨D+1,[{ target:=.collected D,args:=#[] }],V,{ target:=.fn (.func gf) lb,args:=#[.func (.yield (D+1)) #[] #[]] },V,gf,#[.func (.yield (D+1)) #[] #[]] ++ lb,V,?_,?_,?_,?_,fun _=>h1,?_⟩
 ·rw [hV,hR,hD];exact run_enterLoop_outer _ _ _ _ _
 ·simp only [resolve,hg]
  simp [go_sem]
 ·intro f' hf'
  simp [Target.leads] at hf'
  subst hf'
  exact hFg
 ·simp [invoke,go_sem,eg]
 ·refine hcall.mono ?_
  rintro r Y ⟨⟨v,rfl⟩,h | h⟩
  ·obtain ⟨xs,hS,hi,hl,hk⟩:=h
   exact ⟨none,_,by have:=run_endLoop (P:=P) hl (by rw [hR];simp);rw [hR] at this;exact this,hdone _ xs _ (by omega) (hSt _ _ _ _ (by omega) hS) (hI.put _ hi (by omega) hl rfl) ((World.putObj_heap_other (by omega)).trans hk)⟩
  ·obtain ⟨pre,hSp,c,hi,hl,hk⟩:=h
   exact ⟨some c,_,by have:=run_endLoop (P:=P) hl (by rw [hR];simp);rw [hR] at this;exact this,hstop _ c pre _ (by omega) hSp ((hIx c).put _ hi (by omega) hl rfl) ((World.putObj_heap_other (by omega)).trans hk)⟩
end
section
open Go.RowKit Go.Maps
def QIB (v:Value):Option (DataW Value × List MemPlace):=some (.held v,[])
def MapIs (W:World) (k:TypeId) (b n:Nat) (F:Lit→Option Value):Prop :=
 ∃ D:DataW Value,W.ownsMap Tryz.prog k QIB b n D∧∀ kl,Maps.has D kl = (F kl).isSome∧∀ z,D.atKey kl (.held z) = .held ((F kl).getD z)
theorem QKF (w:World) (k:TypeId):MapIs (w.alloc (.map #[] 0)) k w.heap.size 0 (fun _=>none):=⟨.map [],World.ownsMap_made _ _ _ _,fun _=>⟨rfl,fun _=>rfl⟩⟩
theorem QFC {W:World} {k:TypeId} {b:Nat} (h:W.heap[b]? = some (.map #[] 0)):MapIs W k b 0 (fun _=>none):=by
 obtain ⟨es,clock,h1,h2,h3,h4⟩:=(World.ownsMap_made (H:=Value) W Tryz.prog k QIB)
 rw [(MapKept.heap_alloc W _).1] at h1
 cases h1
 exact ⟨_,⟨_,_,h,h2,h3,h4⟩,fun _=>⟨rfl,fun _=>rfl⟩⟩
open Classical in
noncomputable def putF (F:Lit→Option Value) (kl:Lit) (v:Value):Lit→Option Value:=fun x=>if x = kl then some v else F x
theorem QFK (F:Lit→Option Value) (kl:Lit) (v:Value):putF F kl v kl = some v:=if_pos rfl
theorem QEA (F:Lit→Option Value) {x kl:Lit} (v:Value) (h:x≠kl):putF F kl v x = F x:=if_neg h
variable {w X Y:World} {k:TypeId} {b n:Nat} {F:Lit→Option Value}
theorem MapIs.lt (h:MapIs w k b n F):b < w.heap.size:=by obtain ⟨D,h1,_⟩:=h;exact h1.lt
theorem MapIs.map (h:MapIs w k b n F):∃ es clock,w.heap[b]? = some (.map es clock):=by obtain ⟨D,⟨es,c,h1,_⟩,_⟩:=h;exact ⟨es,c,h1⟩
theorem MapIs.same (h:MapIs X k b n F) (he:Y.heap[b]? = X.heap[b]?):MapIs Y k b n F:=by
 obtain ⟨D,⟨es,clock,h1,h2⟩,h3⟩:=h
 exact ⟨D,⟨es,clock,he.trans h1,h2⟩,h3⟩
theorem MapIs.below {s:Nat} (h:MapIs X k b n F) (hb:Below s X Y) (hs:b < s):MapIs Y k b n F:=h.same (hb.block b hs)
theorem MapIs.kept' {row:Option Nat} (h:MapIs X k b n F) (hg:X.grownBy Y row) (hne:some b≠row):MapIs Y k b n F:=h.same (hg.block b h.lt hne)
theorem MapIs.mono {n' : Nat} (h:MapIs w k b n F) (hn:n≤n'):MapIs w k b n' F:=by
 obtain ⟨D,h1,h2⟩:=h
 exact ⟨D,h1.mono hn,h2⟩
theorem MapIs.ext {G:Lit→Option Value} (h:MapIs w k b n F) (he:∀ x,F x = G x):MapIs w k b n G:=by rwa [← funext he]
theorem MapIs.put (h:MapIs w k b n F) {t e:TypeId} (K:Keyed Tryz.prog k) (ht : Tryz.prog.underlying t = some (.map k e)) (hn:n < maxLen) {key val:Value} {kl:Lit} (hkey:keyOf Tryz.prog k key = some kl) :
  ∃ w',(Instr.mapUpdate t (.map (some b)) key val).run Tryz.prog w = .ok () w'∧MapIs w' k b (n+1) (putF F kl val)∧w.grownBy w' (some b):=by
 obtain ⟨D,h1,h2⟩:=h
 obtain ⟨w',r1,r2,r3⟩:=h1.update K ht hn hkey (val:=val) (show QIB val = some (.held val,[]) from rfl)
 refine ⟨w',r1,⟨_,r2,fun x=>?_⟩,r3⟩
 by_cases e:x = kl
 ·subst e
  rw [QFK]
  exact ⟨has_put_same h1.isMap (K.key hkey) _,fun z=>atKey_put_same h1.isMap (K.key hkey) _ _⟩
 ·rw [QEA _ _ e]
  exact ⟨(has_put_other e _).trans (h2 x).1,fun z=>(atKey_put_other e _ _).trans ((h2 x).2 z)⟩
theorem MapIs.look (h:MapIs w k b n F) {t e:TypeId} (K:Keyed Tryz.prog k) (ht : Tryz.prog.underlying t = some (.map k e)) {z:Value} (hz:(zeroValue e).run Tryz.prog w = .ok z w) {key:Value} {kl:Lit} (hkey:keyOf Tryz.prog k key = some kl) :
  (Instr.lookup t (.map (some b)) key false).run Tryz.prog w = .ok ((F kl).getD z) w:=by
 obtain ⟨D,h1,h2⟩:=h
 obtain ⟨v,ps,hr,hv⟩:=h1.lookup K ht hz (show QIB z = some (.held z,[]) from rfl) hkey
 rw [(h2 kl).2 z] at hv
 simp only [QIB,Option.some.injEq,Prod.mk.injEq,DataW.held.injEq] at hv
 rw [hr,hv.1]
theorem MapIs.look_ok (h:MapIs w k b n F) {t e:TypeId} (K:Keyed Tryz.prog k) (ht : Tryz.prog.underlying t = some (.map k e)) {z:Value} (hz:(zeroValue e).run Tryz.prog w = .ok z w) {key:Value} {kl:Lit} (hkey:keyOf Tryz.prog k key = some kl) :
  (Instr.lookup t (.map (some b)) key true).run Tryz.prog w = .ok (.tuple #[(F kl).getD z,.bool (F kl).isSome]) w:=by
 obtain ⟨D,h1,h2⟩:=h
 obtain ⟨v,ps,hr,hv⟩:=h1.look_ok K ht hz (show QIB z = some (.held z,[]) from rfl) hkey
 rw [(h2 kl).2 z] at hv
 rw [(h2 kl).1] at hr
 simp only [QIB,Option.some.injEq,Prod.mk.injEq,DataW.held.injEq] at hv
 rw [hr,hv.1]
theorem strKeyed:Keyed Tryz.prog 9:=string_keyed Tryz.underlying9
theorem QDG (S:ByteArray) (h:S.size≤maxLen):keyOf Tryz.prog 9 (.string S) = some (.string S.data.toList):=by
 simp [keyOf,mapKey,Tryz.underlying9,h]
def QCj (l:List (List UInt8 × Value)):Lit→Option Value
 | .string s=>(l.find? (fun q=>q.1 == s)).map (·.2)
 | _=>none
theorem QJO (x:Lit):QCj [] x = none:=by cases x <;> rfl
theorem QJP {l:List (List UInt8 × Value)} {s:List UInt8} {v:Value} (h:(QCj l (.string s)).isSome = true) (x:Lit):QCj (l ++ [(s,v)]) x = QCj l x:=by
 cases x <;> try rfl
 rename_i t
 show ((l ++ [(s,v)]).find? (fun q=>q.1 == t)).map (·.2) = (l.find? (fun q=>q.1 == t)).map (·.2)
 rw [List.find?_append]
 cases hf:l.find? (fun q=>q.1 == t) with
 | some a=>rfl
 | none =>
  have hst:(s == t) = false:=by
   rw [beq_eq_false_iff_ne]
   rintro rfl
   have h2:((l.find? (fun q=>q.1 == s)).map (·.2)).isSome = true:=h
   rw [hf] at h2
   cases h2
  simp [hst]
theorem QJN {l:List (List UInt8 × Value)} {s:List UInt8} {v:Value} (h:(QCj l (.string s)).isSome = false) (x:Lit):putF (QCj l) (.string s) v x = QCj (l ++ [(s,v)]) x:=by
 by_cases e:x = .string s
 ·subst e
  rw [QFK]
  show some v = ((l ++ [(s,v)]).find? (fun q=>q.1 == s)).map (·.2)
  have h2:((l.find? (fun q=>q.1 == s)).map (·.2)).isSome = false:=h
  rw [List.find?_append]
  cases hf:l.find? (fun q=>q.1 == s) with
  | some a=>rw [hf] at h2;cases h2
  | none=>simp
 ·rw [QEA _ _ e]
  cases x <;> try rfl
  rename_i t
  have hst:(s == t) = false:=by
   rw [beq_eq_false_iff_ne]
   rintro rfl
   exact e rfl
  show (l.find? (fun q=>q.1 == t)).map (·.2) = ((l ++ [(s,v)]).find? (fun q=>q.1 == t)).map (·.2)
  rw [List.find?_append]
  simp [hst]
end
section
open Go.Lib (hid)
open Go.RowKit Go.Maps
def QFY (l:List De):List (List UInt8 × Value):=l.zipIdx.map fun z=>(z.1.name.data.toList,.int .i64 (z.2:Int))
theorem QLS (l:List De) (c:Nat) (x:De) (h:l[c]? = some x):QFY (l.take (c+1)) = QFY (l.take c) ++ [(x.name.data.toList,.int .i64 (c:Int))]:=by
 have hl:=(List.getElem?_eq_some_iff.1 h).1
 unfold QFY
 rw [List.take_add_one,h]
 simp [List.zipIdx_append,Nat.min_eq_left (Nat.le_of_lt hl)]
theorem QIm (W:World):(zeroValue 3).run Tryz.prog W = .ok (.int .i64 0) W:=Tryz.zeroValue3 W
def QKy (p:Pr) (w:World) (r:Ending) (Y:World):Prop:=∃ b,r = .returned (.map (some b))∧w.heap.size≤b∧MapIs Y 9 b p.decls.length (QCj (QFY p.decls))∧Below w.heap.size w Y
set_option maxHeartbeats 8000000 in
set_option maxRecDepth 100000 in
theorem QIA (o1:Option Addr) (db doff dcap:Nat) (ve:Value) (p:Pr) (m:Nat) (hm:Hid (p.decls.length = m)) (ml:(m:Int)≤60) (w:World) (hd:Hid (0 < m→o1 = some ⟨db,doff,none⟩))
  (hdc:Hid (∀ i,i < m→∀ x,p.decls[i]? = some x→DeAt w db (doff+i*7) x)) :
  Calls Tryz.prog 36 #[.agg #[(.slice o1 m dcap),ve]] w fun r Y=>QKy p w r Y:=by
 have hmm:=@run_makeMap Tryz.prog
 have hW0:=hid (QA5 (QA5 (Below.refl w.heap.size w) (.cells #[(.slice o1 m dcap),ve] 26)) (.map #[] 0))
 have hB0:Hid (((w.alloc (.cells #[(.slice o1 m dcap),ve] 26)).alloc (.map #[] 0)).heap[w.heap.size]? = some (.cells #[(.slice o1 m dcap),ve] 26 (0,0))):=hid ((QAq _ _ _ (by simp)).trans (World.alloc_heap_new w _))
 have hM0:Hid (MapIs ((w.alloc (.cells #[(.slice o1 m dcap),ve] 26)).alloc (.map #[] 0)) 9 (w.heap.size+1) 0 (QCj (QFY (p.decls.take 0)))):=hid (by
  have h:=QKF (w.alloc (.cells #[(.slice o1 m dcap),ve] 26)) 9
  rw [World.size_alloc] at h
  exact h.ext fun x=>(QJO x).symm)
 go_enter Tryz.func36,Tryz.ntmps36
 go_wp2_with fail
 go_loopw [12] (fun i wr=>∃ (j:Nat),i = .int .i64 j∧j≤m∧Hid (Below w.heap.size w wr)∧Hid (wr.heap[w.heap.size]? = some (.cells #[(.slice o1 m dcap),ve] 26 (0,0)))∧Hid (MapIs wr 9 (w.heap.size+1) j (QCj (QFY (p.decls.take j))))) (fun i _=>m - QA2 i)
 case atStart=>exact ⟨0,rfl,Nat.zero_le _,hW0,hB0,hM0⟩
 case round =>
  clear hW0 hB0 hM0 hmm
  obtain ⟨j,rfl,hj,hW,hB,hM⟩:=hrel
  rcases Nat.lt_or_ge j m with hlt | hge
  ·have hl:(j:Int) < (m:Int):=by omega
   obtain ⟨d,hdj⟩:∃ x,p.decls[j]? = some x:=⟨_,List.getElem?_eq_getElem (by have:=hm.out;omega)⟩
   obtain ⟨op,capp,oi,capi,bi,offi,hok,c0,c1,c2,c3,c4,c5,c6,hi3,hi4⟩:=de_cells' (hdc.out j hlt d hdj) hW.out
   have ix:=QCh (cap:=dcap) hd.out hlt (by omega)
   unfold Ix at ix
   have hns:d.name.size≤maxLen:=by have:=hok.name;unfold QAH at this;unfold maxLen;omega
   have hkey:=QDG d.name hns
   obtain ⟨W2,hW2⟩:∃ W2,W2 = wr.alloc (.cells #[.int .i64 d.kind,.string d.name,.slice op d.params.length capp,.slice oi d.items.length capi,.int .i64 d.type,.int .i64 d.e,.int .i64 d.pos] 36):=⟨_,rfl⟩
   have hb2:Below wr.heap.size wr W2:=by rw [hW2];exact QA5 (Below.refl _ _) _
   have hM2:=hid (hM.out.below hb2 hM.out.lt)
   have hBW2:=hid (hW.out.trans (hb2.mono hW.out.size))
   have hB2:=hid ((hb2.block _ (lt_of_heap hB.out)).trans hB.out)
   have lk:=hM2.out.look_ok strKeyed Tryz.underlying83 (QIm W2) hkey
   have T:=QLS p.decls j d hdj
   have hlx:=hM2.out.lt
   cases hf:(QCj (QFY (p.decls.take j)) (.string d.name.data.toList)).isSome with
   | true =>
    rw [hf] at lk
    have HM3:Hid (MapIs W2 9 (w.heap.size+1) (j+1) (QCj (QFY (p.decls.take (j+1))))):=hid ((hM2.out.mono (Nat.le_succ j)).ext fun x=>by rw [T];exact (QJP hf x).symm)
    generalize (QCj (QFY (p.decls.take j)) (.string d.name.data.toList)).getD (.int .i64 0) = FV at lk
    clear hM2 hf T hkey hns hlx hok hdj
    rw [hW2] at lk HM3 hBW2 hB2
    clear hW2 hb2
    go_wp2_with fail
    exact ⟨⟨j+1,by go_num,by omega,hBW2,hB2,HM3⟩,by simp [QA2];omega⟩
   | false =>
    rw [hf] at lk
    have hn:QCj (QFY (p.decls.take j)) (.string d.name.data.toList) = none:=Option.not_isSome_iff_eq_none.1 (by rw [hf];simp)
    rw [hn] at lk
    obtain ⟨W3,up,hM3,hg⟩:=hM2.out.put strKeyed Tryz.underlying83 (by unfold maxLen;omega) (val:=.int .i64 (j:Int)) hkey
    have HM3:Hid (MapIs W3 9 (w.heap.size+1) (j+1) (QCj (QFY (p.decls.take (j+1))))):=hid (hM3.ext fun x=>by rw [T];exact QJN hf x)
    have HB3:=hid (hBW2.out.grown hg hBW2.out.size (fun k e=>by cases e;omega))
    have HP3:=hid ((hg.block w.heap.size (lt_of_heap hB2.out) (by simp)).trans hB2.out)
    clear hM3 hM2 hf hn T hkey hns hlx hok hdj hg hBW2 hB2
    dsimp only [Option.getD_none,Option.getD] at lk
    rw [hW2] at lk up
    clear hW2 hb2
    go_wp2_with fail
    exact ⟨⟨j+1,by go_num,by omega,HB3,HP3,HM3⟩,by simp [QA2];omega⟩
  ·obtain rfl:j = m:=by omega
   rw [show p.decls.take j = p.decls by rw [← hm.out];exact List.take_length] at hM
   go_wp2_with fail
   go_ret
   exact ⟨_,rfl,Nat.le_succ _,by rw [hm.out];exact hM.out,hW.out⟩
end
section
open Go.Lib (hid)
open Go.RowKit Lx Go.Shelf Go.Maps
attribute [local go_sem] Oper.semAt_some
def vaL (l:List Va):List (List UInt8 × Value):=l.map fun v=>(v.name.data.toList,QGK v.name v.sort v.type v.index)
theorem QLE {a b:ByteArray}:(a.data.toList == b.data.toList) = decide (a = b):=by
 by_cases h:a = b
 ·subst h;simp
 ·rw [decide_eq_false h,beq_eq_false_iff_ne]
  exact fun e=>h (ByteArray.ext (Array.toList_inj.1 e))
theorem QEo (l:List Va) (nm:ByteArray):QCj (vaL l) (.string nm.data.toList) = (l.find? (fun v=>decide (v.name = nm))).map fun v=>QGK v.name v.sort v.type v.index:=by
 show ((vaL l).find? (fun q=>q.1 == nm.data.toList)).map (·.2) = _
 unfold vaL
 rw [List.find?_map,Option.map_map]
 have e:((fun q:List UInt8 × Value=>q.1 == nm.data.toList) ∘ fun v:Va=>(v.name.data.toList,QGK v.name v.sort v.type v.index)) = fun v=>decide (v.name = nm):=funext fun v=>QLE
 rw [e]
 rfl
def QE2 (d:De) (nm:ByteArray) (sorts:List Int):Bool:=match (QAV d).find? (fun v=>decide (v.name = nm)) with
 | some v=>sorts.any fun s=>v.sort == s
 | none=>false
theorem QGu (W:World):(zeroValue 67).run Tryz.prog W = .ok (.agg #[.string ⟨#[]⟩,.int .i64 0,.int .i64 0,.int .i64 0]) W:=Tryz.zeroValue67 W
set_option maxHeartbeats 8000000 in
set_option maxRecDepth 100000 in
theorem QLm (m1 N:Nat) (v2:Value) (d:De) (nm:ByteArray) (hnm:nm.size≤maxLen) (b n c:Nat) (zs:List Int) (hn:Hid (n = zs.length)) (hn2:(n:Int)≤100) (w:World) (hS:Hid (MapIs w 9 m1 N (QCj (vaL (QAV d))))) (hc:Hid (∀ j,j < zs.length→w.cell? ⟨b,j,none⟩ = some (.int .i64 zs[j]!))) :
  Calls Tryz.prog 72 #[.agg #[.map (some m1),v2],.string nm,.slice (some ⟨b,0,none⟩) n c] w fun r Y=>r = .returned (.bool (QE2 d nm zs))∧Below w.heap.size w Y:=by
 have hW0:=hid (QA5 (Below.refl w.heap.size w) (.cells #[.map (some m1),v2] 91))
 obtain ⟨W1,hW1⟩:∃ W1,W1 = w.alloc (.cells #[.map (some m1),v2] 91):=⟨_,rfl⟩
 rw [← hW1] at hW0
 have hM1:=hS.out.below hW0.out hS.out.lt
 have lk:=hM1.look_ok strKeyed Tryz.underlying88 (QGu W1) (QDG nm hnm)
 rw [QEo] at lk
 have hCn:=fun (x:Int) W=>Tryz.slices_Contains (Value.int .i64) (fun x y=>x == y) (.int Tryz.prog 3 .i64) b 0 n c zs x W (Nat.le_of_eq hn.out) (by omega)
 have CN:Hid (∀ (x:Int) W,Below w.heap.size w W→Calls Tryz.prog 97 #[.slice (some ⟨b,0,none⟩) n c,.int .i64 x] W fun e w'=>e = .returned (.bool (zs.any fun y=>x == y))∧w' = W):=hid fun x W hb=>(hCn x W fun j hj=>by rw [Nat.zero_add];exact QA1 hb (hc.out j hj)).mono fun e w' ⟨h1,h2⟩=>⟨by rw [h1,List.take_of_length_le (Nat.le_of_eq hn.out.symm)],h2⟩
 clear hCn
 cases hf:(QAV d).find? (fun v=>decide (v.name = nm)) with
 | none =>
  rw [hf] at lk
  have hr:Hid (QE2 d nm zs = false):=hid (by unfold QE2;rw [hf])
  have hal:=hid (hW0.out.trans ((QA5 (Below.refl W1.heap.size W1) (.cells #[.string ⟨#[]⟩,.int .i64 0,.int .i64 0,.int .i64 0] 67)).mono hW0.out.size))
  clear hf hM1 CN
  dsimp only [Option.map,Option.getD,Option.isSome] at lk
  rw [hW1] at lk hal
  clear hW1
  go_enter Tryz.func72,Tryz.ntmps72
  go_wp2_with fail
  go_ret
  exact ⟨by rw [hr.out];rfl,hal.out⟩
 | some v =>
  rw [hf] at lk
  obtain ⟨vn,vs,vt,vi⟩:=v
  have hr:Hid (QE2 d nm zs = zs.any fun s=>vs == s):=hid (by unfold QE2;rw [hf])
  have hal:=hid (hW0.out.trans ((QA5 (Below.refl W1.heap.size W1) (.cells #[.string vn,.int .i64 vs,.int .i64 vt,.int .i64 vi] 67)).mono hW0.out.size))
  clear hf hM1
  dsimp only [Option.map,Option.getD,Option.isSome,QGK] at lk
  rw [hW1] at lk hal
  clear hW1
  go_enter Tryz.func72,Tryz.ntmps72
  go_wp2_with (go_at_call 97;(with_reducible refine (CN.out _ _ hal.out).mono ?_);rintro e w1 ⟨rfl,rfl⟩)
  go_ret
  exact ⟨by rw [hr.out];rfl,hal.out⟩
def QEZ (i:Int) (s:List UInt8):Lit:=.string (keyBytes [.int .i64 i,.string s])
open Classical in
noncomputable def stF (l:List (Int × ByteArray)):Lit→Option Value:=fun x=>if ∃ q∈l,x = QEZ q.1 q.2.data.toList then some (.agg #[]) else none
theorem QKZ:∃ m,Tryz.prog.types.size = m+1:=⟨Tryz.prog.types.size - 1,by kernel_rfl⟩
theorem QEj (i:Int) (s:ByteArray) (hi:(Lit.int .i64 i).wf = true) (hs:s.size≤maxLen):keyOf Tryz.prog 122 (.agg #[.int .i64 i,.string s]) = some (QEZ i s.data.toList):=by
 have hkt : Tryz.prog.keyType 122 = true:=by kernel_rfl
 have hc : Tryz.prog.cellsOf 122 = 2:=by kernel_rfl
 have hc1 : Tryz.prog.cellsOf 3 = 1:=by kernel_rfl
 have hc2 : Tryz.prog.cellsOf 9 = 1:=by kernel_rfl
 obtain ⟨m,hm⟩:=QKZ
 unfold keyOf
 simp only [Tryz.underlying122]
 rw [if_pos (by simp [hkt,Value.formed,Tryz.underlying122,hc]),hm]
 unfold Program.keyLits
 simp only [Tryz.underlying122,Value.cells]
 rw [if_pos (by rw [hc];exact ⟨rfl,by kernel_rfl⟩)]
 simp [Program.keyLits,Tryz.underlying3,Tryz.underlying9,hc1,hc2,hi,hs,List.mapM_cons,QEZ]
theorem stateKeyed:Keyed Tryz.prog 122:=Keyed.of_law (deep_law_laid (by kernel_rfl) (m:=2) (by omega) (of_decide_eq_true (by kernel_rfl)) (by kernel_rfl) (by rw [Tryz.underlying122]))
end
section
open Go.Lib (hid)
open Go.RowKit Lx Go.Shelf Go.Maps
attribute [local go_sem] Oper.semAt_some
def stOk (l:List (Int × ByteArray)):Prop:=∀ q∈l,(Lit.int .i64 q.1).wf = true∧q.2.size≤maxLen
theorem QMg {i j:Int} {s t:ByteArray} (hi:(Lit.int .i64 i).wf = true) (hj:(Lit.int .i64 j).wf = true) (hs:s.size≤maxLen) (ht:t.size≤maxLen) (h:QEZ i s.data.toList = QEZ j t.data.toList):i = j∧s = t:=by
 have h1:=stateKeyed.inj (QEj i s hi hs) ((QEj j t hj ht).trans (by rw [h]))
 simp only [Value.agg.injEq,Array.mk.injEq,List.cons.injEq,Value.int.injEq,Value.string.injEq,true_and,and_true] at h1
 exact h1
def QDN (l:List (Int × ByteArray)) (i:Int) (s:ByteArray):Bool:=l.any fun q=>q.1 == i && decide (q.2 = s)
theorem QDO {l:List (Int × ByteArray)} {i:Int} {s:ByteArray}:QDN l i s = true↔(i,s)∈l:=by
 unfold QDN
 rw [List.any_eq_true]
 constructor
 ·rintro ⟨⟨j,t⟩,hq,h⟩
  simp only [Bool.and_eq_true,beq_iff_eq,decide_eq_true_eq] at h
  obtain ⟨rfl,rfl⟩:=h
  exact hq
 ·exact fun h=>⟨_,h,by simp⟩
theorem stF_nil (x:Lit):stF [] x = none:=if_neg (by simp)
theorem stF_has {l:List (Int × ByteArray)} (hl:stOk l) {i:Int} {s:ByteArray} (hi:(Lit.int .i64 i).wf = true) (hs:s.size≤maxLen):(stF l (QEZ i s.data.toList)).isSome = QDN l i s:=by
 unfold stF
 by_cases h:(i,s)∈l
 ·rw [if_pos ⟨_,h,rfl⟩,QDO.2 h];rfl
 ·rw [Bool.eq_false_iff.2 fun e=>h (QDO.1 e),if_neg];rfl
  rintro ⟨⟨j,t⟩,hq,he⟩
  obtain ⟨e1,e2⟩:=QMg hi (hl _ hq).1 hs (hl _ hq).2 he
  exact h (by rw [e1,e2];exact hq)
theorem stF_put (l:List (Int × ByteArray)) (i:Int) (s:ByteArray) (x:Lit):putF (stF l) (QEZ i s.data.toList) (.agg #[]) x = stF (l ++ [(i,s)]) x:=by
 by_cases e:x = QEZ i s.data.toList
 ·subst e
  rw [QFK]
  exact (if_pos ⟨(i,s),by simp,rfl⟩).symm
 ·rw [QEA _ _ e]
  have:(∃ q∈l ++ [(i,s)],x = QEZ q.1 q.2.data.toList)↔∃ q∈l,x = QEZ q.1 q.2.data.toList:=by
   constructor
   ·rintro ⟨q,hq,hx⟩
    rcases List.mem_append.1 hq with h | h
    ·exact ⟨q,h,hx⟩
    ·rw [List.mem_singleton.1 h] at hx;exact absurd hx e
   ·rintro ⟨q,hq,hx⟩
    exact ⟨q,List.mem_append_left _ hq,hx⟩
  unfold stF
  by_cases hh:∃ q∈l,x = QEZ q.1 q.2.data.toList
  ·rw [if_pos hh,if_pos (this.2 hh)]
  ·rw [if_neg hh,if_neg fun h=>hh (this.1 h)]
def stL (l:List It):List (Int × ByteArray):=l.zipIdx.flatMap fun z=>z.1.states.map fun s=>((z.2:Int),s)
def QBX (d:De) (mode nm:ByteArray):Bool:=match (QAV d).find? (fun v=>decide (v.name = mode)) with
 | some v=>v.sort == 5 && QDN (stL d.items) v.index nm
 | none=>false
structure ScAt (W:World) (m1 m2:Nat) (d:De):Prop where
 vars:MapIs W 9 m1 2000 (QCj (vaL (QAV d)))
 states:MapIs W 122 m2 1000000 (stF (stL d.items))
theorem ScAt.same {X Y:World} {m1 m2:Nat} {d:De} (h:ScAt X m1 m2 d) (h1:Y.heap[m1]? = X.heap[m1]?) (h2:Y.heap[m2]? = X.heap[m2]?):ScAt Y m1 m2 d:=⟨h.vars.same h1,h.states.same h2⟩
theorem ScAt.below {X Y:World} {m1 m2:Nat} {d:De} (h:ScAt X m1 m2 d) (hb:Below X.heap.size X Y):ScAt Y m1 m2 d:=⟨h.vars.below hb h.vars.lt,h.states.below hb h.states.lt⟩
structure ScOk (d:De):Prop where
 index:∀ v∈QAV d,(Lit.int .i64 v.index).wf = true
 states:stOk (stL d.items)
theorem QDb {W:World} {vs:Array Value} {T:TypeId} {k j:Nat} {v:Value} (hk:k = W.heap.size) (hv:vs[j]? = some v):(W.alloc (.cells vs T)).cell? ⟨k,j,none⟩ = some v:=by
 subst hk
 have h:=World.alloc_heap_new W (.cells vs T)
 unfold World.cell?
 rw [h]
 exact hv
theorem QOd (W:World):(zeroValue 120).run Tryz.prog W = .ok (.agg #[]) W:=by kernel_rfl
theorem QNK (n:ByteArray) (s t i:Int) (w:World):(Instr.field 67 (.agg #[.string n,.int .i64 s,.int .i64 t,.int .i64 i]) 3).run Tryz.prog w = .ok (.int .i64 i) w:=by kernel_rfl
set_option maxHeartbeats 8000000 in
set_option maxRecDepth 100000 in
theorem QLb (m1 m2:Nat) (d:De) (mode nm:ByteArray) (hmo:mode.size≤maxLen) (hnm:nm.size≤maxLen) (w:World) (hS:Hid (ScAt w m1 m2 d)) (hO:Hid (ScOk d)) :
  Calls Tryz.prog 73 #[.agg #[.map (some m1),.map (some m2)],.string mode,.string nm] w fun r Y=>r = .returned (.bool (QBX d mode nm))∧Below w.heap.size w Y:=by
 have hW0:=hid (QA5 (Below.refl w.heap.size w) (.cells #[.map (some m1),.map (some m2)] 91))
 have hB0:Hid ((w.alloc (.cells #[.map (some m1),.map (some m2)] 91)).heap[w.heap.size]? = some (.cells #[.map (some m1),.map (some m2)] 91 (0,0))):=hid (World.alloc_heap_new w _)
 obtain ⟨W1,hW1⟩:∃ W1,W1 = w.alloc (.cells #[.map (some m1),.map (some m2)] 91):=⟨_,rfl⟩
 rw [← hW1] at hW0 hB0
 have hb01:=hW0.out
 have hM1:=hS.out.below hb01
 have lk:=hM1.vars.look strKeyed Tryz.underlying88 (QGu W1) (QDG mode hmo)
 rw [QEo] at lk
 obtain ⟨x,hx,hxw,hr⟩:∃ x:Va,(((QAV d).find? (fun v=>decide (v.name = mode))).map fun v=>QGK v.name v.sort v.type v.index).getD (.agg #[.string ⟨#[]⟩,.int .i64 0,.int .i64 0,.int .i64 0]) = QGK x.name x.sort x.type x.index ∧
   (Lit.int .i64 x.index).wf = true∧QBX d mode nm = (QDN (stL d.items) x.index nm && QE2 d mode [5]):=by
  cases hf:(QAV d).find? (fun v=>decide (v.name = mode)) with
  | none=>exact ⟨⟨⟨#[]⟩,0,0,0⟩,rfl,by decide,by unfold QBX QE2;simp [hf]⟩
  | some v=>exact ⟨v,rfl,hO.out.index v (List.mem_of_find?_eq_some hf),by unfold QBX QE2;simp [hf,Bool.and_comm]⟩
 rw [hx] at lk
 clear hx
 obtain ⟨xn,xs,xt,xi⟩:=x
 have ls:=hM1.states.look_ok stateKeyed Tryz.underlying89 (QOd W1) (QEj xi nm hxw hnm)
 rw [stF_has hO.out.states hxw hnm] at ls
 have hu:(stF (stL d.items) (QEZ xi nm.data.toList)).getD (.agg #[]) = .agg #[]:=by
  unfold stF
  split <;> rfl
 rw [hu] at ls
 clear hu
 have ISA:Hid (∀ W,Below w.heap.size w W→∀ b,W.cell? ⟨b,0,none⟩ = some (.int .i64 5)→Calls Tryz.prog 72 #[.agg #[.map (some m1),.map (some m2)],.string mode,.slice (some ⟨b,0,none⟩) 1 1] W fun r Y=>r = .returned (.bool (QE2 d mode [5]))∧Below W.heap.size W Y) :=
  hid fun W hW b hb=>QLm m1 2000 _ d mode hmo b 1 1 [5] (hid rfl) (by omega) W (hid (hS.out.vars.below hW hS.out.vars.lt)) (hid fun j hj=>by
   obtain rfl:j = 0:=by simp at hj;omega
   exact hb)
 have HR:=hid hr
 dsimp only [QGK] at lk
 clear hr hM1 hb01
 obtain ⟨q,hq⟩:∃ q,q = QDN (stL d.items) xi nm:=⟨_,rfl⟩
 rw [← hq] at ls HR
 clear hq
 rw [hW1] at lk ls hB0 hW0
 have y0:=(QAA hB0.out).1
 have y1:=(QAA hB0.out).2
 clear hW1
 have fi:=QNK xn xs xt xi
 cases q with
 | false =>
  go_enter Tryz.func73,Tryz.ntmps73
  go_wp2_with fail
  go_ret
  exact ⟨by rw [HR.out];rfl,hW0.out.trans ((QA5 (Below.refl _ _) _).mono hW0.out.size)⟩
 | true =>
  go_enter Tryz.func73,Tryz.ntmps73
  have hal3:=hid (QA5 (QA5 hW0.out (.cells #[] 120)) (.cells #[.int .i64 5] 3))
  have c5:(((w.alloc (.cells #[.map (some m1),.map (some m2)] 91)).alloc (.cells #[] 120)).alloc (.cells #[.int .i64 5] 3)).cell? ⟨w.heap.size+1+1,0,none⟩ = some (.int .i64 5):=QDb (by simp) rfl
  have C5:=hid c5
  clear c5
  go_wp2_with (go_at_call 72;(with_reducible refine (ISA.out _ hal3.out _ C5.out).mono ?_);rintro e w1 ⟨rfl,hb1⟩;have HB1:=hid hb1;clear hb1)
  go_ret
  exact ⟨by rw [HR.out];rfl,hal3.out.trans (HB1.out.mono hal3.out.size)⟩
end
section
open Go.Lib (hid)
set_option maxHeartbeats 8000000
open Go.RowKit Lx Go.Shelf Go.Maps
attribute [local go_sem] Oper.semAt_some
def QLC:List (List UInt8)→Nat
 | []=>0
 | x :: l=>if l.contains x then QLC l else QLC l+1
theorem QI0:∀ l,QLC l≤l.length
 | []=>Nat.le_refl _
 | x :: l=>by
  unfold QLC
  have:=QI0 l
  simp only [List.length_cons]
  split <;> omega
def QDe (l:List ByteArray):Bool:=decide (QLC (l.map (fun s=>s.data.toList)).reverse < l.length)
def SetIs (W:World) (b n:Nat) (L:List (List UInt8)):Prop:=∃ D:DataW Unit,W.ownsMap Tryz.prog 9 unitElem b n D∧(∀ x,Maps.has D (.string x) = L.contains x)∧Maps.size D = QLC L
theorem QG7 (w:World):SetIs (w.alloc (.map #[] 0)) w.heap.size 0 []:=⟨_,World.ownsMap_made _ _ _ _,fun _=>rfl,rfl⟩
theorem SetIs.lt {w:World} {b n:Nat} {L:List (List UInt8)} (h:SetIs w b n L):b < w.heap.size:=by obtain ⟨D,h1,_⟩:=h;exact h1.lt
theorem SetIs.same {X Y:World} {b n:Nat} {L:List (List UInt8)} (h:SetIs X b n L) (he:Y.heap[b]? = X.heap[b]?):SetIs Y b n L:=by
 obtain ⟨D,⟨es,clock,h1,h2⟩,h3⟩:=h
 exact ⟨D,⟨es,clock,he.trans h1,h2⟩,h3⟩
theorem SetIs.below {X Y:World} {b n s:Nat} {L:List (List UInt8)} (h:SetIs X b n L) (hb:Below s X Y) (hs:b < s):SetIs Y b n L:=h.same (hb.block b hs)
theorem SetIs.put {w:World} {b n:Nat} {L:List (List UInt8)} (h:SetIs w b n L) (hn:n < maxLen) {s:ByteArray} (hs:s.size≤maxLen) :
  ∃ w',(Instr.mapUpdate 145 (.map (some b)) (.string s) (.agg #[])).run Tryz.prog w = .ok () w'∧SetIs w' b (n+1) (s.data.toList :: L)∧w.grownBy w' (some b):=by
 obtain ⟨D,h1,h2,h3⟩:=h
 obtain ⟨w',r1,r2,r3⟩:=h1.update strKeyed Tryz.underlying145 hn (QDG s hs) (unitElem_mk (H:=Unit))
 refine ⟨w',r1,⟨_,r2,fun x=>?_,?_⟩,r3⟩
 ·by_cases e:x = s.data.toList
  ·subst e
   rw [has_put_same h1.isMap (strKeyed.key (QDG s hs))]
   simp
  ·rw [has_put_other (by intro e2;cases e2;exact e rfl),h2,List.contains_cons,beq_false_of_ne e,Bool.false_or]
 ·rw [size_put (h1.tidy strKeyed),h2,h3]
  rfl
theorem SetIs.len {w:World} {b n:Nat} {L:List (List UInt8)} (h:SetIs w b n L) (ty:TypeId):(Builtin.len_ #[145] ty #[.map (some b)]).run Tryz.prog w = .ok (.int .i64 (QLC L)) w:=by
 obtain ⟨D,h1,h2,h3⟩:=h
 rw [h1.len Tryz.underlying145 ty,h3]
theorem QJR (l:List ByteArray) (j:Nat) (x:ByteArray) (h:l[j]? = some x):((l.take (j+1)).map (fun s=>s.data.toList)).reverse = x.data.toList :: ((l.take j).map (fun s=>s.data.toList)).reverse:=by
 rw [List.take_add_one,h];simp
theorem QIF {o:Option Addr} {n cap b off:Nat} (h:0 < n→o = some ⟨b,off,none⟩) {j:Nat} (hj:j < n) (hn:n≤9223372036854775807):Ix 55 1 (.slice o n cap) b off j:=by
 intro W
 rw [h (by omega)]
 have h1:(j:Int) < (n:Int):=by omega
 have h2:(j:Int)≤9223372036854775807:=by omega
 go_simp
theorem QK9 (s:ByteArray) (w:World):Calls Tryz.prog 95 #[.string s] w fun r Y=>r = .returned (.string s)∧Y = w:=by
 go_enter Tryz.func95,Tryz.ntmps95
 go_wp2_with fail
 go_ret
 exact ⟨rfl,rfl⟩
set_option maxRecDepth 100000 in
theorem QIg (o:Option Addr) (m cap b off:Nat) (l:List ByteArray) (w:World) (hm:Hid (l.length = m)) (ml:(m:Int)≤1000) (ho:Hid (0 < m→o = some ⟨b,off,none⟩)) (hc:Hid (∀ j,j < m→w.cell? ⟨b,off+j,none⟩ = some (.string (l.getD j ⟨#[]⟩)))) (hl:Hid (∀ s∈l,s.size≤maxLen)) :
  Calls Tryz.prog 96 #[.slice o m cap,.func (.func 95) #[] #[]] w fun r Y=>r = .returned (.bool (QDe l))∧Below w.heap.size w Y:=by
 have hmm:=@run_makeMap Tryz.prog
 have hB0:=hid (QA5 (Below.refl w.heap.size w) (.map #[] 0))
 have hM0:Hid (SetIs (w.alloc (.map #[] 0)) w.heap.size 0 ((l.take 0).map (fun s=>s.data.toList)).reverse):=hid (QG7 w)
 go_enter Tryz.func96,Tryz.ntmps96
 go_wp2_with fail
 go_loopw [11] (fun i wr=>∃ (j:Nat),i = .int .i64 j∧j≤m∧Hid (Below w.heap.size w wr)∧Hid (SetIs wr w.heap.size j ((l.take j).map (fun s=>s.data.toList)).reverse)) (fun i _=>m - QA2 i)
 case atStart=>exact ⟨0,rfl,Nat.zero_le _,hB0,hM0⟩
 case round =>
  clear hB0 hM0 hmm
  obtain ⟨j,rfl,hj,hW,hM⟩:=hrel
  rcases Nat.lt_or_ge j m with hlt | hge
  ·have hl1:(j:Int) < (m:Int):=by omega
   obtain ⟨x,hx⟩:∃ x,l[j]? = some x:=⟨_,List.getElem?_eq_getElem (by have:=hm.out;omega)⟩
   have ix:=QIF (cap:=cap) ho.out hlt (by omega)
   unfold Ix at ix
   simp only [Nat.mul_one] at ix
   have c0:wr.cell? ⟨b,off+j,none⟩ = some (.string x):=(QA1 hW.out (hc.out j hlt)).trans (by rw [List.getD,hx];rfl)
   obtain ⟨W3,up,hM3,hg⟩:=hM.out.put (by unfold maxLen;omega) (hl.out x (List.mem_of_getElem? hx))
   have HM3:Hid (SetIs W3 w.heap.size (j+1) ((l.take (j+1)).map (fun s=>s.data.toList)).reverse):=hid (by rw [QJR l j x hx];exact hM3)
   have HB3:=hid (hW.out.grown hg hW.out.size (fun k e=>by cases e;omega))
   clear hM3 hg hx
   go_wp2_with (go_at_call 95;(with_reducible refine (QK9 _ _).mono ?_);rintro e w1 ⟨rfl,rfl⟩)
   exact ⟨⟨j+1,by go_num,by omega,HB3,HM3⟩,by simp [QA2];omega⟩
  ·obtain rfl:j = m:=by omega
   rw [show l.take j = l by rw [← hm.out];exact List.take_length] at hM
   have ln:=hM.out.len 3
   go_wp2_with fail
   go_ret
   exact ⟨by unfold QDe;rw [hm.out];simp,hW.out⟩
theorem QKj (v:Value) (l:List ByteArray) (w:World) (h:StrsAt w v l) (hn:l.length≤1000) (hl:∀ s∈l,s.size≤maxLen) :
  Calls Tryz.prog 96 #[v,.func (.func 95) #[] #[]] w fun r Y=>r = .returned (.bool (QDe l))∧Below w.heap.size w Y:=by
 obtain ⟨o,cap,b,off,rfl,h1,h2,h3,h4⟩:=h
 exact QIg o _ cap b off l w (hid rfl) (by omega) (hid h3) (hid fun j hj=>by have:=h4 j hj;rwa [Nat.mul_one] at this) (hid hl)
theorem ix_paT {o:Option Addr} {n cap b off:Nat} (h:0 < n→o = some ⟨b,off,none⟩) {j:Nat} (hj:j < n) (hn:n≤9223372036854775807):Ix 33 2 (.slice o n cap) b off j:=by
 intro W
 rw [h (by omega)]
 have h1:(j:Int) < (n:Int):=by omega
 have h2:(j:Int)≤9223372036854775807:=by omega
 go_simp
theorem QMA (s:ByteArray) (t:Int) (w:World):Calls Tryz.prog 68 #[.agg #[.string s,.int .i64 t]] w fun r Y=>r = .returned (.string s)∧Below w.heap.size w Y:=by
 have h0:=hid (QA5 (Below.refl w.heap.size w) (.cells #[.string s,.int .i64 t] 65))
 go_enter Tryz.func68,Tryz.ntmps68
 go_wp2_with fail
 go_ret
 exact ⟨rfl,h0.out⟩
set_option maxRecDepth 100000 in
theorem QIf (o:Option Addr) (m cap b off:Nat) (l:List Pa) (w:World) (hm:Hid (l.length = m)) (ml:(m:Int)≤1000) (ho:Hid (0 < m→o = some ⟨b,off,none⟩)) (hc:Hid (∀ j,j < m→∀ x,l[j]? = some x→PaAt w b (off+j*2) x)) :
  Calls Tryz.prog 69 #[.slice o m cap,.func (.func 68) #[] #[]] w fun r Y=>r = .returned (.bool (QDe (l.map (·.name))))∧Below w.heap.size w Y:=by
 have hmm:=@run_makeMap Tryz.prog
 have hB0:=hid (QA5 (Below.refl w.heap.size w) (.map #[] 0))
 have hM0:Hid (SetIs (w.alloc (.map #[] 0)) w.heap.size 0 (((l.map (·.name)).take 0).map (fun s=>s.data.toList)).reverse):=hid (QG7 w)
 go_enter Tryz.func69,Tryz.ntmps69
 go_wp2_with fail
 go_loopw [11] (fun i wr=>∃ (j:Nat),i = .int .i64 j∧j≤m∧Hid (Below w.heap.size w wr)∧Hid (SetIs wr w.heap.size j (((l.map (·.name)).take j).map (fun s=>s.data.toList)).reverse)) (fun i _=>m - QA2 i)
 case atStart=>exact ⟨0,rfl,Nat.zero_le _,hB0,hM0⟩
 case round =>
  clear hB0 hM0 hmm
  obtain ⟨j,rfl,hj,hW,hM⟩:=hrel
  rcases Nat.lt_or_ge j m with hlt | hge
  ·have hl1:(j:Int) < (m:Int):=by omega
   obtain ⟨x,hx⟩:∃ x,l[j]? = some x:=⟨_,List.getElem?_eq_getElem (by have:=hm.out;omega)⟩
   have ix:=ix_paT (cap:=cap) ho.out hlt (by omega)
   unfold Ix at ix
   obtain ⟨p0,p1,p2,_⟩:=hc.out j hlt x hx
   have c0:=QA1 hW.out p0
   have c1:=QA1 hW.out p1
   have hns:x.name.size≤maxLen:=by unfold QAH at p2;unfold maxLen;omega
   have hb2:Below w.heap.size w (wr.alloc (.cells #[.string x.name,.int .i64 x.type] 65)):=QA5 hW.out _
   have PUT:Hid (∀ W1,Below (wr.alloc (.cells #[.string x.name,.int .i64 x.type] 65)).heap.size (wr.alloc (.cells #[.string x.name,.int .i64 x.type] 65)) W1 →
     ∃ W3,(Instr.mapUpdate 145 (.map (some w.heap.size)) (.string x.name) (.agg #[])).run Tryz.prog W1 = .ok () W3∧SetIs W3 w.heap.size (j+1) (((l.map (·.name)).take (j+1)).map (fun s=>s.data.toList)).reverse∧Below w.heap.size w W3):=hid fun W1 hb1=>by
    have h1:SetIs (wr.alloc (.cells #[.string x.name,.int .i64 x.type] 65)) w.heap.size j (((l.map (·.name)).take j).map (fun s=>s.data.toList)).reverse:=hM.out.below (QA5 (Below.refl wr.heap.size wr) _) hM.out.lt
    obtain ⟨W3,up,hM3,hg⟩:=(h1.below hb1 h1.lt).put (by unfold maxLen;omega) hns
    have hW1:=hb2.trans (hb1.mono hb2.size)
    exact ⟨W3,up,by rw [QJR _ j x.name (by simp [hx])];exact hM3,hW1.grown hg hW1.size (fun k e=>by cases e;omega)⟩
   clear hb2 hns p0 p1 p2 hx
   go_wp2_with (go_at_call 68;(with_reducible refine (QMA _ _ _).mono ?_);rintro e w1 ⟨rfl,hb1⟩;obtain ⟨W3,up,hM3,hB3⟩:=PUT.out _ hb1;have HM3:=hid hM3;have HB3:=hid hB3;clear hM3 hB3 hb1)
   exact ⟨⟨j+1,by go_num,by omega,HB3,HM3⟩,by simp [QA2];omega⟩
  ·obtain rfl:j = m:=by omega
   rw [show (l.map (·.name)).take j = l.map (·.name) by rw [← hm.out,← List.length_map (f:=fun x:Pa=>x.name)];exact List.take_length] at hM
   have ln:=hM.out.len 3
   go_wp2_with fail
   go_ret
   exact ⟨by unfold QDe;rw [List.length_map,hm.out];simp,hW.out⟩
theorem QKi (v:Value) (l:List Pa) (w:World) (h:SlAt v l.length 2 (fun b o i=>∀ y,l[i]? = some y→PaAt w b o y)) (hn:l.length≤1000) :
  Calls Tryz.prog 69 #[v,.func (.func 68) #[] #[]] w fun r Y=>r = .returned (.bool (QDe (l.map (·.name))))∧Below w.heap.size w Y:=by
 obtain ⟨o,cap,b,off,rfl,h1,h2,h3,h4⟩:=h
 exact QIf o _ cap b off l w (hid rfl) (by omega) (hid h3) (hid h4)
end
section
open Go.Lib (hid)
open Go.RowKit Lx Go.Shelf Go.Maps
attribute [local go_sem] Oper.semAt_some
def QDS (d:De) (k:Int) (nm st nx:ByteArray):Bool :=
 if k = 3 then !QE2 d nm [3] else if k = 5 then !QE2 d nm [4] else if k = 7 then (!QBX d nm st || !QBX d nm nx) else if k = 8 then !QE2 d nm [2,3,4] else false
theorem QE0 {W:World} {B:Nat} {a b c d e f g h i:Value} {T:TypeId} (hB:W.heap[B]? = some (.cells #[a,b,c,d,e,f,g,h,i] T (0,0))):W.cell? ⟨B,1,none⟩ = some b∧W.cell? ⟨B,7,none⟩ = some h:=⟨by simp [World.cell?,hB],by simp [World.cell?,hB]⟩
theorem QEh {m1 m2:Nat} {d:De} {w:World} (hS:ScAt w m1 m2 d) {nm:ByteArray} (hnm:nm.size≤maxLen) (n:Nat) (zs:List Int) (hn:n = zs.length) (hn2:(n:Int)≤100):∀ W,Below w.heap.size w W→∀ b c,(∀ j,j < zs.length→W.cell? ⟨b,j,none⟩ = some (.int .i64 zs[j]!)) →
  Calls Tryz.prog 72 #[.agg #[.map (some m1),.map (some m2)],.string nm,.slice (some ⟨b,0,none⟩) n c] W fun r Y=>r = .returned (.bool (QE2 d nm zs))∧Below W.heap.size W Y:=fun W hW b c hc =>
 QLm m1 2000 _ d nm hnm b n c zs (hid hn) hn2 W (hid (hS.vars.below hW hS.vars.lt)) (hid hc)
theorem QE1 {m1 m2:Nat} {d:De} {w:World} (hS:ScAt w m1 m2 d) (hO:ScOk d) {mode nm:ByteArray} (hmo:mode.size≤maxLen) (hnm:nm.size≤maxLen):∀ W,Below w.heap.size w W →
  Calls Tryz.prog 73 #[.agg #[.map (some m1),.map (some m2)],.string mode,.string nm] W fun r Y=>r = .returned (.bool (QBX d mode nm))∧Below W.heap.size W Y:=fun W hW =>
 QLb m1 m2 d mode nm hmo hnm W (hid (hS.below hW)) (hid hO)
set_option maxHeartbeats 8000000 in
set_option maxRecDepth 100000 in
theorem QG0 (m1 m2:Nat) (d:De) (k t e f p:Int) (nm st nx:ByteArray) (o:Option Addr) (n c:Nat) (hnm:nm.size≤maxLen) (hst:st.size≤maxLen) (hnx:nx.size≤maxLen) (w:World) (hS:Hid (ScAt w m1 m2 d)) (hO:Hid (ScOk d)) :
  Calls Tryz.prog 71 #[.agg #[.map (some m1),.map (some m2)],.agg #[.int .i64 k,.string nm,.int .i64 t,.int .i64 e,.int .i64 f,.slice o n c,.string st,.string nx,.int .i64 p]] w fun r Y=>r = .returned (.bool (QDS d k nm st nx))∧Below w.heap.size w Y:=by
 have hb1:=QA5 (Below.refl w.heap.size w) (.cells #[.map (some m1),.map (some m2)] 91)
 have hb2:=hid (QA5 hb1 (.cells #[.int .i64 k,.string nm,.int .i64 t,.int .i64 e,.int .i64 f,.slice o n c,.string st,.string nx,.int .i64 p] 57))
 clear hb1
 by_cases h3:k = 3
 ·subst h3
  have R:Hid (QDS d 3 nm st nx = !QE2 d nm [3]):=hid rfl
  have C1:=hid (QEh hS.out hnm 1 [3] rfl (by omega))
  have hb3:=hid (QA5 hb2.out (.cells #[.int .i64 3] 3))
  go_enter Tryz.func71,Tryz.ntmps71
  go_wp2_with (go_at_call 72;(with_reducible refine (C1.out _ hb3.out _ _ ?_).mono ?_);exact (fun j hj=>by obtain rfl:j = 0:=(by simp at hj;omega);exact QDb (by simp) rfl);rintro r w1 ⟨rfl,hw1⟩;have HW1:=hid hw1;clear hw1)
  go_ret
  exact ⟨by rw [R.out];rfl,hb3.out.trans (HW1.out.mono hb3.out.size)⟩
 by_cases h5:k = 5
 ·subst h5
  have R:Hid (QDS d 5 nm st nx = !QE2 d nm [4]):=hid rfl
  have C1:=hid (QEh hS.out hnm 1 [4] rfl (by omega))
  have hb3:=hid (QA5 hb2.out (.cells #[.int .i64 4] 3))
  clear h3
  go_enter Tryz.func71,Tryz.ntmps71
  go_wp2_with (go_at_call 72;(with_reducible refine (C1.out _ hb3.out _ _ ?_).mono ?_);exact (fun j hj=>by obtain rfl:j = 0:=(by simp at hj;omega);exact QDb (by simp) rfl);rintro r w1 ⟨rfl,hw1⟩;have HW1:=hid hw1;clear hw1)
  go_ret
  exact ⟨by rw [R.out];rfl,hb3.out.trans (HW1.out.mono hb3.out.size)⟩
 by_cases h8:k = 8
 ·subst h8
  have R:Hid (QDS d 8 nm st nx = !QE2 d nm [2,3,4]):=hid rfl
  have C1:=hid (QEh hS.out hnm 3 [2,3,4] rfl (by omega))
  have hb3:=hid (QA5 hb2.out (.cells #[.int .i64 2,.int .i64 3,.int .i64 4] 3))
  clear h3 h5
  go_enter Tryz.func71,Tryz.ntmps71
  go_wp2_with (go_at_call 72;(with_reducible refine (C1.out _ hb3.out _ _ ?_).mono ?_);exact (fun j hj=>by have hj3:j < 3:=hj;obtain rfl | rfl | rfl:j = 0∨j = 1∨j = 2:=(by omega) <;> exact QDb (by simp) rfl);rintro r w1 ⟨rfl,hw1⟩;have HW1:=hid hw1;clear hw1)
  go_ret
  exact ⟨by rw [R.out];rfl,hb3.out.trans (HW1.out.mono hb3.out.size)⟩
 by_cases h7:k = 7
 ·subst h7
  have C1:=hid (QE1 hS.out hO.out hnm hst)
  have C2:=hid (QE1 hS.out hO.out hnm hnx)
  have R:Hid (QDS d 7 nm st nx = (!QBX d nm st || !QBX d nm nx)):=hid rfl
  have B1:Hid (((w.alloc (.cells #[.map (some m1),.map (some m2)] 91)).alloc (.cells #[.int .i64 7,.string nm,.int .i64 t,.int .i64 e,.int .i64 f,.slice o n c,.string st,.string nx,.int .i64 p] 57)).heap[w.heap.size]? = some (.cells #[.map (some m1),.map (some m2)] 91 (0,0))):=hid (QAa (QAR rfl))
  have B2:Hid (((w.alloc (.cells #[.map (some m1),.map (some m2)] 91)).alloc (.cells #[.int .i64 7,.string nm,.int .i64 t,.int .i64 e,.int .i64 f,.slice o n c,.string st,.string nx,.int .i64 p] 57)).heap[w.heap.size+1]? = some (.cells #[.int .i64 7,.string nm,.int .i64 t,.int .i64 e,.int .i64 f,.slice o n c,.string st,.string nx,.int .i64 p] 57 (0,0))):=hid (QAR (by simp))
  clear h3 h5 h8
  obtain ⟨q,hq⟩:∃ q,q = QBX d nm st:=⟨_,rfl⟩
  rw [← hq] at C1 R
  clear hq
  cases q with
  | false =>
   go_enter Tryz.func71,Tryz.ntmps71
   go_wp2_with (go_at_call 73;(with_reducible refine (C1.out _ hb2.out).mono ?_);rintro r w1 ⟨rfl,hw1⟩;have HW1:=hid hw1;clear hw1)
   go_ret
   exact ⟨by rw [R.out];rfl,hb2.out.trans (HW1.out.mono hb2.out.size)⟩
  | true =>
   have tok:True:=trivial
   go_enter Tryz.func71,Tryz.ntmps71
   go_wp2_with (first
    | (have _k:=tok;clear tok _k;go_at_call 73;(with_reducible refine (C1.out _ hb2.out).mono ?_);rintro r w1 ⟨rfl,hw1⟩;have HW1:=hid hw1;have y0:=(QAA ((hw1.block _ (lt_of_heap B1.out)).trans B1.out)).1;have y1:=(QAA ((hw1.block _ (lt_of_heap B1.out)).trans B1.out)).2;have y2:=(QE0 ((hw1.block _ (lt_of_heap B2.out)).trans B2.out)).1;have y3:=(QE0 ((hw1.block _ (lt_of_heap B2.out)).trans B2.out)).2;have HB1:=hid (hb2.out.trans (hw1.mono hb2.out.size));clear hw1)
    | (go_at_call 73;(with_reducible refine (C2.out _ HB1.out).mono ?_);rintro r w2 ⟨rfl,hw2⟩;have HW2:=hid hw2;clear hw2))
   go_ret
   exact ⟨by rw [R.out];rfl,HB1.out.trans (HW2.out.mono HB1.out.size)⟩
 have R:Hid (QDS d k nm st nx = false):=hid (by unfold QDS;rw [if_neg h3,if_neg h5,if_neg h7,if_neg h8])
 have r3:(k == 3) = false:=by simpa using h3
 have r5:(k == 5) = false:=by simpa using h5
 have r7:(k == 7) = false:=by simpa using h7
 have r8:(k == 8) = false:=by simpa using h8
 clear h3 h5 h7 h8
 go_enter Tryz.func71,Tryz.ntmps71
 go_wp2_with fail
 go_ret
 exact ⟨by rw [R.out];rfl,hb2.out⟩
end
end Go.Proofs.YtknbghjoncomiaaGreat
