/- Joined: NmJR, NmWalkK, NmWalker. -/
import Derived.Test.YtknbghjoncomiaaGreatKA6
import Derived.Test.YtknbghjoncomiaaGreatKA5
import Derived.StillTailTactics
import Derived.Deep.AppendLies
import Derived.Deep.RegionLaw
import Derived.Test.YtknbghjoncomiaaGreatKA7
import Derived.Sort.QuietIn
namespace Go.Proofs.YtknbghjoncomiaaGreat
section
open Go.Lib (hid)
set_option maxHeartbeats 8000000
section
open Go.RowKit Lx Go.Shelf
attribute [local go_sem] Oper.semAt_some
def QFc (k:Int):Bool:=decide (k = 1) || decide (k = 2) || decide (k = 3) || decide (k = 4) || decide (k = 5)
def QET (k:Int):Bool:=decide (k = 2) || decide (k = 3) || decide (k = 5) || decide (k = 7)
def QC1 (x:It):List Int:=(if QFc x.kind = true then [x.e] else []) ++ (if QET x.kind = true then [x.f] else [])
def QAO (l:List It):List Int:=l.flatMap QC1
def QAC (d:De):List Int:=QAO d.items ++ (if d.kind = 1∨d.kind = 2 then [d.e] else [])
theorem QFN (l:List It) (c:Nat) (x:It) (h:l[c]? = some x):QAO (l.take (c+1)) = QAO (l.take c) ++ QC1 x:=by
 unfold QAO
 rw [List.take_add_one,h]
 simp
theorem QBq (l:List It) (c:Nat):QAO (l.take c) <+: QAO l:=by
 refine ⟨QAO (l.drop c),?_⟩
 unfold QAO
 rw [← List.flatMap_append,List.take_append_drop]
theorem QDA (l:List It):(QAO l).length≤2*l.length:=by
 induction l with
 | nil=>simp [QAO]
 | cons x l ih =>
  have e:QAO (x :: l) = QC1 x ++ QAO l:=by simp [QAO]
  have h:(QC1 x).length≤2:=by unfold QC1;split <;> split <;> simp
  rw [e,List.length_append,List.length_cons]
  omega
structure Kept2 (M:Nat→Prop) (rw:World→Option Nat) (w X:World):Prop where
 kept:Kept M rw w X
 lt:∀ k,rw X = some k→k < X.heap.size
theorem Kept2.keep {M:Nat→Prop} {rw:World→Option Nat} {w X Y:World} (h:Kept2 M rw w X) (k:KeepM M rw w.heap.size X Y):Kept2 M rw w Y :=
 ⟨h.kept.keep k,fun j hj=>by
  rcases k.2.2 j hj with e | ⟨_,e⟩
  ·exact Nat.lt_of_lt_of_le (h.lt j e) k.1
  ·exact e⟩
theorem Kept2.below {M:Nat→Prop} {rw:World→Option Nat} {w X Y:World} (hN:Near M rw w) (h:Kept2 M rw w X) (hb:Below X.heap.size X Y):Kept2 M rw w Y :=
 ⟨h.kept.below hN hb,fun k hk=>by
  rw [hN.same X Y fun k hk=>hb.block k (Nat.lt_of_lt_of_le hk h.kept.1)] at hk
  exact Nat.lt_of_lt_of_le (h.lt k hk) hb.size⟩
theorem Kept2.start {M:Nat→Prop} {rw:World→Option Nat} {w W:World} (hN:Near M rw w) (hb:Below w.heap.size w W):Kept2 M rw w W :=
 ⟨Kept.start hN hb,fun k hk=>by
  rw [hN.same w W fun k hk=>hb.block k hk] at hk
  exact Nat.lt_of_lt_of_le (hN.row k hk) hb.size⟩
theorem Kept2.box {M:Nat→Prop} {rw:World→Option Nat} {w X Y:World} {cs:Array Value} {T:TypeId} (hN:Near M rw w) (h:Kept2 M rw w X) (k:KeepM M rw w.heap.size (X.alloc (.cells cs T)) Y):Y.heap[X.heap.size]? = some (.cells cs T (0,0)):=by
 have h1:(X.alloc (.cells cs T)).heap[X.heap.size]? = some (.cells cs T (0,0)):=QAR rfl
 refine (k.2.1 _ (lt_of_heap h1) (fun hM=>?_) (fun e=>?_) (.inr ⟨_,h1,rfl⟩)).trans h1
 ·have:=hN.old _ hM;have:=h.kept.1;omega
 ·rw [hN.same X _ fun k hk=>((Below.refl X.heap.size X).alloc (Nat.le_refl _) _).block k (Nat.lt_of_lt_of_le hk h.kept.1)] at e
  have:=h.lt _ e
  omega
theorem QM7 (k:Int) (w:World):Calls Tryz.prog 90 #[.int .i64 k] w fun r w'=>r = .returned (.bool (QFc k))∧w = w':=by
 by_cases h1:k = 1
 ·subst h1;go_enter Tryz.func90,Tryz.ntmps90;go_wp2_with fail;go_ret;exact ⟨rfl,rfl⟩
 by_cases h2:k = 2
 ·subst h2;go_enter Tryz.func90,Tryz.ntmps90;go_wp2_with fail;go_ret;exact ⟨rfl,rfl⟩
 by_cases h3:k = 3
 ·subst h3;go_enter Tryz.func90,Tryz.ntmps90;go_wp2_with fail;go_ret;exact ⟨rfl,rfl⟩
 by_cases h4:k = 4
 ·subst h4;go_enter Tryz.func90,Tryz.ntmps90;go_wp2_with fail;go_ret;exact ⟨rfl,rfl⟩
 by_cases h5:k = 5
 ·subst h5;go_enter Tryz.func90,Tryz.ntmps90;go_wp2_with fail;go_ret;exact ⟨rfl,rfl⟩
 have E:=hid (show QFc k = false by unfold QFc;rw [decide_eq_false h1,decide_eq_false h2,decide_eq_false h3,decide_eq_false h4,decide_eq_false h5];rfl)
 have r1:(k == 1) = false:=by simpa using h1
 have r2:(k == 2) = false:=by simpa using h2
 have r3:(k == 3) = false:=by simpa using h3
 have r4:(k == 4) = false:=by simpa using h4
 have r5:(k == 5) = false:=by simpa using h5
 go_enter Tryz.func90,Tryz.ntmps90
 go_wp2_with fail
 go_ret
 exact ⟨by rw [E.out];rfl,rfl⟩
theorem QM8 (k:Int) (w:World):Calls Tryz.prog 91 #[.int .i64 k] w fun r w'=>r = .returned (.bool (QET k))∧w = w':=by
 by_cases h2:k = 2
 ·subst h2;go_enter Tryz.func91,Tryz.ntmps91;go_wp2_with fail;go_ret;exact ⟨rfl,rfl⟩
 by_cases h3:k = 3
 ·subst h3;go_enter Tryz.func91,Tryz.ntmps91;go_wp2_with fail;go_ret;exact ⟨rfl,rfl⟩
 by_cases h5:k = 5
 ·subst h5;go_enter Tryz.func91,Tryz.ntmps91;go_wp2_with fail;go_ret;exact ⟨rfl,rfl⟩
 by_cases h7:k = 7
 ·subst h7;go_enter Tryz.func91,Tryz.ntmps91;go_wp2_with fail;go_ret;exact ⟨rfl,rfl⟩
 have E:=hid (show QET k = false by unfold QET;rw [decide_eq_false h2,decide_eq_false h3,decide_eq_false h5,decide_eq_false h7];rfl)
 have r2:(k == 2) = false:=by simpa using h2
 have r3:(k == 3) = false:=by simpa using h3
 have r5:(k == 5) = false:=by simpa using h5
 have r7:(k == 7) = false:=by simpa using h7
 go_enter Tryz.func91,Tryz.ntmps91
 go_wp2_with fail
 go_ret
 exact ⟨by rw [E.out];rfl,rfl⟩
set_option maxRecDepth 100000 in
theorem QKS (n:Nat) (d:De) (op oi:Option Addr) (capp capi bi fi np ni:Nat) (hni:Hid (d.items.length = ni)) (li' : (ni:Int)≤1000000) (M:Nat→Prop) (rw:World→Option Nat) (B:Nat) (w:World)
  (hA:Hid (Near M rw w)) (hB:Hid (QAc M rw w B)) (hc:Hid (w.heap[B]? = some (.cells #[.int .i64 d.kind,.string d.name,.slice op np capp,.slice oi ni capi,.int .i64 d.type,.int .i64 d.e,.int .i64 d.pos] 36 (0,0))))
  (hoi:Hid (0 < ni→oi = some ⟨bi,fi,none⟩)) (hSi:Hid (0 < ni→QAc M rw w bi))
  (hvi:Hid (∀ j,j < ni→∀ x,d.items[j]? = some x→ItAt w bi (fi+j*9) x)) (lp:Nat) (J Jx:List Int→World→Prop)
  (W:World) (hW:Hid (Below w.heap.size w W)) (hJ:Hid (∀ s X Y,J s X→X.grownBy Y none→J s Y))
  (hY:Hid (∀ pre (v:Int) W1,J pre W1→pre ++ [v] <+: QAC d→YieldAt Fence.wide (n - 1) Tryz.prog lp #[.int .i64 v] W1 fun e W' =>
   (e = .returned (.bool true)∧J (pre ++ [v]) W'∧KeepM M rw w.heap.size W1 W')∨(e = .returned (.bool false)∧Jx (pre ++ [v]) W')))
  (h0:Hid (J [] W)) :
  CallsIn Fence.wide n Tryz.prog 89 #[.func (.yield lp) #[] #[],.pointer (some ⟨B,0,none⟩)] W fun e W'=>(∃ v,e = .returned v) ∧
   ((∃ ys:List Int,ys = QAC d∧J ys W')∨(∃ pre:List Int,pre <+: QAC d∧Jx pre W')):=by
 have hBW:W.heap[B]? = some (.cells #[.int .i64 d.kind,.string d.name,.slice op np capp,.slice oi ni capi,.int .i64 d.type,.int .i64 d.e,.int .i64 d.pos] 36 (0,0)):=(hW.out.block _ hB.out.1).trans hc.out
 obtain ⟨_,b0,b1,b2,b3,b4,b5,b6⟩:=QAe hBW
 have HK:=hid (Kept2.start hA.out hW.out)
 clear hBW b0 b1 b2 b4 b5 b6
 refine callsIn_of_wp Tryz.func89 rfl trivial ?_ rfl
 simp only [Tryz.ntmps89,List.size_toArray,List.length_cons,List.length_nil,Nat.reduceAdd,Nat.reduceSub,Array.replicate_succ,Array.replicate_zero,List.push_toArray,List.append_toArray,List.nil_append,List.cons_append]
 gi_wp2_with fail
 clear b3
 gi_loopw [8] (fun i wr=>∃ (k:Nat),i = .int .i64 k∧Hid (k≤ni)∧Hid (J (QAO (d.items.take k)) wr)∧Hid (Kept2 M rw w wr)) (fun i _=>ni - QA2 i)
 case atStart=>exact ⟨0,rfl,hid (Nat.zero_le _),(by simpa [QAO] using h0),HK⟩
 case round =>
  clear HK
  obtain ⟨k,rfl,hk,hJq,hKq⟩:=hrel
  have kl:=hk.out
  rcases Nat.lt_or_ge k ni with hlt | hge
  ·have q3:(k:Int) < (ni:Int):=by omega
   have ix:Ix 34 9 (.slice oi ni capi) bi fi k:=by
    intro W
    rw [hoi.out (by omega)]
    have h1:(k:Int) < (ni:Int):=by omega
    have h2:(k:Int)≤9223372036854775807:=by omega
    go_simp
   unfold Ix at ix
   obtain ⟨x,hx⟩:∃ x,d.items[k]? = some x:=⟨_,List.getElem?_eq_getElem (by have:=hni.out;omega)⟩
   obtain ⟨os,caps,iok,i0,i1,i2,i3,i4,i5,i6,i7,i8⟩:=QCf (hvi.out k hlt x hx)
   have hb:=hKq.out.kept.2.2 _ (hSi.out (by omega))
   have p0:=(cell_same' hb _).trans i0
   have p1:=(cell_same' hb _).trans i1
   have p2:=(cell_same' hb _).trans i2
   have p3:=(cell_same' hb _).trans i3
   have p4:=(cell_same' hb _).trans i4
   have p5:=(cell_same' hb _).trans i5
   have p6:=(cell_same' hb _).trans i6
   have p7:=(cell_same' hb _).trans i7
   have p8:=(cell_same' hb _).trans i8
   have HX:=hid hx
   clear hx hb i0 i1 i2 i3 i4 i5 i6 i7 i8 iok
   have HIT:Hid (QAO (d.items.take (k+1)) = QAO (d.items.take k) ++ QC1 x):=hid (QFN _ _ _ HX.out)
   have ME:=hid (fun W=>QM7 x.kind W)
   have MF:=hid (fun W=>QM8 x.kind W)
   obtain ⟨Wa,hWa⟩:∃ Wa,Wa = wr.alloc (.cells #[.int .i64 x.kind,.string x.name,.int .i64 x.type,.int .i64 x.e,.int .i64 x.f,.slice os x.states.length caps,.string x.state,.string x.next,.int .i64 x.pos] 57):=⟨_,rfl⟩
   have HJa:Hid (J (QAO (d.items.take k)) Wa):=hid (by rw [hWa];exact hJ.out _ _ _ hJq.out (World.grownBy_alloc wr _ none))
   have HKa:Hid (Kept2 M rw w Wa):=hid (by rw [hWa];exact hKq.out.below hA.out ((Below.refl wr.heap.size wr).alloc (Nat.le_refl _) _))
   have HBX:Hid (Wa.heap[wr.heap.size]? = some (.cells #[.int .i64 x.kind,.string x.name,.int .i64 x.type,.int .i64 x.e,.int .i64 x.f,.slice os x.states.length caps,.string x.state,.string x.next,.int .i64 x.pos] 57 (0,0))):=hid (by rw [hWa];exact QAR rfl)
   have a0:Wa.cell? ⟨wr.heap.size,0,none⟩ = some (.int .i64 x.kind):=by simp [World.cell?,HBX.out]
   have a3:Wa.cell? ⟨wr.heap.size,3,none⟩ = some (.int .i64 x.e):=by simp [World.cell?,HBX.out]
   have a4:Wa.cell? ⟨wr.heap.size,4,none⟩ = some (.int .i64 x.f):=by simp [World.cell?,HBX.out]
   cases hE:QFc x.kind with
   | false =>
    have QE:=hid hE
    rw [hE] at ME
    clear hE
    gi_wp2_with fail
    rw [← hWa]
    refine ⟨trivial,fun h=>(by cases h),(callsIn_wide.2 (ME.out _)).mono ?_⟩
    rintro e we ⟨rfl,rfl⟩
    clear hWa
    gi_wp2_with fail
    refine ⟨fun f h=>(by cases h),?_⟩
    cases hF:QET x.kind with
    | false =>
     have QF:=hid hF
     rw [hF] at MF
     clear hF
     have HT:Hid (QAO (d.items.take (k+1)) = QAO (d.items.take k)):=hid (by rw [HIT.out];unfold QC1;rw [QE.out,QF.out];simp)
     gi_wp2_with fail
     refine ⟨trivial,fun h=>(by cases h),(callsIn_wide.2 (MF.out _)).mono ?_⟩
     rintro e wf ⟨rfl,rfl⟩
     gi_wp2_with fail
     exact ⟨⟨k+1,by go_num,hid (by omega),(by rw [HT.out];exact HJa),HKa⟩,by simp [QA2];omega⟩
    | true =>
     have QF:=hid hF
     rw [hF] at MF
     clear hF
     have HT:Hid (QAO (d.items.take (k+1)) = QAO (d.items.take k) ++ [x.f]):=hid (by rw [HIT.out];unfold QC1;rw [QE.out,QF.out];simp)
     have hlen:QAO (d.items.take k) ++ [x.f] <+: QAC d:=by rw [← HT.out];exact (QBq _ _).trans (List.prefix_append _ _)
     obtain ⟨fn,tmps,assign,body,hy,hR⟩:=hY.out _ x.f _ HJa.out hlen
     have hy' : (Instr.yield lp #[.int .i64 x.f]).run Tryz.prog Wa = .ok (.round lp fn tmps assign body) Wa:=hy
     have HR:=hid hR
     clear hy hR hlen
     gi_wp2_with fail
     refine ⟨trivial,fun h=>(by cases h),(callsIn_wide.2 (MF.out _)).mono ?_⟩
     rintro e wf ⟨rfl,rfl⟩
     gi_wp2_with fail
     refine ⟨fun h=>(by cases h),HR.out.mono ?_⟩
     rintro e W3 (⟨rfl,hJ3,hk3⟩ | ⟨rfl,hJx3⟩)
     ·have HK3:=hid (HKa.out.keep hk3)
      have HJ3:=hid hJ3
      rw [← HT.out] at HJ3
      clear hJ3 hk3
      gi_wp2_with fail
      go_roundw
      case rel=>exact ⟨k+1,by go_num,hid (by omega),HJ3,HK3⟩
      case measure=>simp [QA2];omega
     ·have HJx3:=hid hJx3
      rw [← HT.out] at HJx3
      clear hJx3
      gi_wp2_with fail
      refine bodyPost_ret (results_none rfl _ _ _) rfl ?_
      exact ⟨⟨_,rfl⟩,.inr ⟨_,(QBq _ _).trans (List.prefix_append _ _),HJx3.out⟩⟩
   | true =>
    have QE:=hid hE
    rw [hE] at ME
    clear hE
    have HTE:Hid (QC1 x = [x.e] ++ (if QET x.kind = true then [x.f] else [])):=hid (by unfold QC1;rw [QE.out];rfl)
    have hlen:QAO (d.items.take k) ++ [x.e] <+: QAC d:=by
     refine List.IsPrefix.trans ?_ ((QBq d.items (k+1)).trans (List.prefix_append _ _))
     rw [HIT.out,HTE.out,← List.append_assoc]
     exact List.prefix_append _ _
    obtain ⟨fn,tmps,assign,body,hy,hR⟩:=hY.out _ x.e _ HJa.out hlen
    have hy' : (Instr.yield lp #[.int .i64 x.e]).run Tryz.prog Wa = .ok (.round lp fn tmps assign body) Wa:=hy
    have HR:=hid hR
    clear hy hR hlen
    gi_wp2_with fail
    rw [← hWa]
    have HWA:=hid hWa
    clear hWa
    refine ⟨trivial,fun h=>(by cases h),(callsIn_wide.2 (ME.out _)).mono ?_⟩
    rintro e we ⟨rfl,rfl⟩
    gi_wp2_with fail
    refine ⟨fun h=>(by cases h),HR.out.mono ?_⟩
    rintro e W2 (⟨rfl,hJ2,hk2⟩ | ⟨rfl,hJx2⟩)
    ·have HK2:=hid (HKa.out.keep hk2)
     have HJ2:=hid hJ2
     have HB2:=hid (hKq.out.box hA.out (by rw [HWA.out] at hk2;exact hk2))
     have b0:W2.cell? ⟨wr.heap.size,0,none⟩ = some (.int .i64 x.kind):=by simp [World.cell?,HB2.out]
     have b4:W2.cell? ⟨wr.heap.size,4,none⟩ = some (.int .i64 x.f):=by simp [World.cell?,HB2.out]
     clear hJ2 hk2 a0 a3 a4
     gi_wp2_with fail
     cases hF:QET x.kind with
     | false =>
      have QF:=hid hF
      rw [hF] at MF
      clear hF
      have HT:Hid (QAO (d.items.take (k+1)) = (QAO (d.items.take k) ++ [x.e])):=hid (by rw [HIT.out];unfold QC1;rw [QE.out,QF.out];simp)
      gi_wp2_with fail
      refine ⟨trivial,fun h=>(by cases h),(callsIn_wide.2 (MF.out _)).mono ?_⟩
      rintro e wf ⟨rfl,rfl⟩
      gi_wp2_with fail
      refine ⟨fun f h=>(by cases h),?_⟩
      gi_wp2_with fail
      exact ⟨⟨k+1,by go_num,hid (by omega),(by rw [HT.out];exact HJ2),HK2⟩,by simp [QA2];omega⟩
     | true =>
      have QF:=hid hF
      rw [hF] at MF
      clear hF
      have HT:Hid (QAO (d.items.take (k+1)) = (QAO (d.items.take k) ++ [x.e]) ++ [x.f]):=hid (by rw [HIT.out];unfold QC1;rw [QE.out,QF.out];simp)
      have hlen:(QAO (d.items.take k) ++ [x.e]) ++ [x.f] <+: QAC d:=by rw [← HT.out];exact (QBq _ _).trans (List.prefix_append _ _)
      obtain ⟨fn,tmps,assign,body,hy,hR⟩:=hY.out _ x.f _ HJ2.out hlen
      have hy' : (Instr.yield lp #[.int .i64 x.f]).run Tryz.prog W2 = .ok (.round lp fn tmps assign body) W2:=hy
      have HR:=hid hR
      clear hy hR hlen
      gi_wp2_with fail
      refine ⟨trivial,fun h=>(by cases h),(callsIn_wide.2 (MF.out _)).mono ?_⟩
      rintro e wf ⟨rfl,rfl⟩
      gi_wp2_with fail
      refine ⟨fun h=>(by cases h),HR.out.mono ?_⟩
      rintro e W3 (⟨rfl,hJ3,hk3⟩ | ⟨rfl,hJx3⟩)
      ·have HK3:=hid (HK2.out.keep hk3)
       have HJ3:=hid hJ3
       rw [← HT.out] at HJ3
       clear hJ3 hk3
       gi_wp2_with fail
       go_roundw
       case rel=>exact ⟨k+1,by go_num,hid (by omega),HJ3,HK3⟩
       case measure=>simp [QA2];omega
      ·have HJx3:=hid hJx3
       rw [← HT.out] at HJx3
       clear hJx3
       gi_wp2_with fail
       refine bodyPost_ret (results_none rfl _ _ _) rfl ?_
       exact ⟨⟨_,rfl⟩,.inr ⟨_,(QBq _ _).trans (List.prefix_append _ _),HJx3.out⟩⟩
    ·have HJx2:=hid hJx2
     clear hJx2
     gi_wp2_with fail
     refine bodyPost_ret (results_none rfl _ _ _) rfl ?_
     exact ⟨⟨_,rfl⟩,.inr ⟨_,(by
      refine List.IsPrefix.trans ?_ ((QBq d.items (k+1)).trans (List.prefix_append _ _))
      rw [HIT.out,HTE.out,← List.append_assoc]
      exact List.prefix_append _ _),HJx2.out⟩⟩
  ·obtain rfl:k = ni:=by omega
   have HJ2:=hid hJq.out
   rw [show d.items.take k = d.items by rw [← hni.out];exact List.take_length] at HJ2
   have hBr:=(hKq.out.kept.2.2 _ hB.out).trans hc.out
   obtain ⟨_,b0,b1,b2,b3,b4,b5,b6⟩:=QAe hBr
   clear hJq hBr b1 b2 b3 b4 b6
   have q3:¬ (k:Int) < (k:Int):=by omega
   by_cases h1:d.kind = 1
   ·have HT:Hid (QAC d = QAO d.items ++ [d.e]):=hid (by unfold QAC;rw [if_pos (.inl h1)])
    have z1:(d.kind == 1) = true:=by simpa using h1
    clear h1
    obtain ⟨fn,tmps,assign,body,hy,hR⟩:=hY.out _ d.e _ HJ2.out (by rw [HT.out];exact List.prefix_rfl)
    have hy' : (Instr.yield lp #[.int .i64 d.e]).run Tryz.prog wr = .ok (.round lp fn tmps assign body) wr:=hy
    have HR:=hid hR
    clear hy hR
    gi_wp2_with fail
    refine ⟨fun h=>(by cases h),HR.out.mono ?_⟩
    rintro e W3 (⟨rfl,hJ3,hk3⟩ | ⟨rfl,hJx3⟩)
    ·have HJ3:=hid hJ3
     clear hJ3 hk3
     gi_wp2_with fail
     go_end0
     exact ⟨⟨_,rfl⟩,.inl ⟨_,rfl,by rw [HT.out];exact HJ3.out⟩⟩
    ·have HJx3:=hid hJx3
     clear hJx3
     gi_wp2_with fail
     go_end0
     exact ⟨⟨_,rfl⟩,.inr ⟨_,(by rw [HT.out];exact List.prefix_rfl),HJx3.out⟩⟩
   by_cases h2:d.kind = 2
   ·have HT:Hid (QAC d = QAO d.items ++ [d.e]):=hid (by unfold QAC;rw [if_pos (.inr h2)])
    have z1:(d.kind == 1) = false:=by simpa using h1
    have z2:(d.kind == 2) = true:=by simpa using h2
    clear h1 h2
    obtain ⟨fn,tmps,assign,body,hy,hR⟩:=hY.out _ d.e _ HJ2.out (by rw [HT.out];exact List.prefix_rfl)
    have hy' : (Instr.yield lp #[.int .i64 d.e]).run Tryz.prog wr = .ok (.round lp fn tmps assign body) wr:=hy
    have HR:=hid hR
    clear hy hR
    gi_wp2_with fail
    refine ⟨fun h=>(by cases h),HR.out.mono ?_⟩
    rintro e W3 (⟨rfl,hJ3,hk3⟩ | ⟨rfl,hJx3⟩)
    ·have HJ3:=hid hJ3
     clear hJ3 hk3
     gi_wp2_with fail
     go_end0
     exact ⟨⟨_,rfl⟩,.inl ⟨_,rfl,by rw [HT.out];exact HJ3.out⟩⟩
    ·have HJx3:=hid hJx3
     clear hJx3
     gi_wp2_with fail
     go_end0
     exact ⟨⟨_,rfl⟩,.inr ⟨_,(by rw [HT.out];exact List.prefix_rfl),HJx3.out⟩⟩
   ·have HT:Hid (QAC d = QAO d.items):=hid (by unfold QAC;rw [if_neg (fun h=>h.elim h1 h2),List.append_nil])
    have z1:(d.kind == 1) = false:=by simpa using h1
    have z2:(d.kind == 2) = false:=by simpa using h2
    clear h1 h2
    gi_wp2_with fail
    go_end0
    exact ⟨⟨_,rfl⟩,.inl (by rw [HT.out];exact HJ2.out)⟩
theorem QIU (n:Nat) (d:De) (B:Nat) (M:Nat→Prop) (rw:World→Option Nat) (w:World) (hA:Near M rw w) (hs:DeSrc M rw w d B) (h2:d.items.length≤1000000) :
  SeqStopsK (α:=Int) Fence.wide n Tryz.prog 89 #[.pointer (some ⟨B,0,none⟩)] (fun v=>#[.int .i64 v]) (KeepM M rw w.heap.size) (fun ys=>ys = QAC d) (fun pre=>pre <+: QAC d) (QAC d).length w:=by
 obtain ⟨s,t,hB,hS,⟨op,capp,bp,fp,rfl,_,_,hp1,hp2⟩,⟨oi,capi,bi,fi,rfl,_,_,hi1,hi2⟩⟩:=hs
 intro lp J Jx W hW hJ _ hY h0
 refine QKS n d op oi capp capi bi fi _ _ (hid rfl) (by omega) M rw B w (hid hA) (hid hS) (hid hB) (hid hi1) (hid fun h=>(hi2 0 h).1) (hid fun j hj=>(hi2 j hj).2) lp J Jx W (hid hW)
  (hid fun s X Y h1 h2=>hJ s X Y none h1 h2 (fun r e=>by cases e)) (hid fun pre v W1 hj hp=>hY pre v W1 hj (by have:=hp.length_le;simp at this;omega)) (hid h0)
end
section
open Go.RowKit Lx Go.Shelf
attribute [local go_sem] Oper.semAt_some
def RInv (w:World) (pre:List Int) (W:World):Prop :=
 (∃ v',Boxed W w.heap.size 52 v'∧W.ownsRow w.heap.size 3 1 v' pre.length (pre.map QGv))∧w.grownBy W none∧w.heap.size+1≤W.heap.size
theorem QO7 (w:World):OwnFrom (w.heap.size+1) (RInv w):=by
 rintro s X Y row ⟨⟨v',hv,hr⟩,hg0,hN⟩ hg hrow
 have hne:∀ b,b < w.heap.size+1→some b≠row:=fun b hb e=>by have:=(hrow b e.symm).1;omega
 refine ⟨⟨v',hv.kept hg (hne _ (Nat.lt_succ_self _)),QJL hr hg hrow⟩,⟨hg.os.trans hg0.os,hg.tape.trans hg0.tape,hg.output.trans hg0.output,Nat.le_trans hg0.size hg.size,fun i hi hr=>(hg.block i (Nat.lt_of_lt_of_le hi hg0.size) (hne _ (by omega))).trans (hg0.block i hi hr)⟩,Nat.le_trans hN hg.size⟩
theorem QEC (d:De):(QAC d).length≤2*d.items.length+1:=by
 unfold QAC
 have:=QDA d.items
 rw [List.length_append]
 split <;> simp <;> omega
set_option maxRecDepth 100000 in
theorem QH3 (d:De) (B:Nat) (w0 w:World) (s t:Value) (hs:Hid (SlAt s d.params.length 2 (fun b o i=>∀ y,d.params[i]? = some y→PaAt w0 b o y))) (ht:Hid (SlAt t d.items.length 9 (fun b o i=>∀ y,d.items[i]? = some y→ItAt w0 b o y))) (hb:Hid (Below w0.heap.size w0 w))
  (hB:Hid (w.heap[B]? = some (.cells #[.int .i64 d.kind,.string d.name,s,t,.int .i64 d.type,.int .i64 d.e,.int .i64 d.pos] 36 (0,0)))) (hl:Hid (d.params.length≤600∧d.items.length≤600)) :
  CallsIn Fence.wide 5 Tryz.prog 88 #[.slice none 0 0,.func (.func 89) #[] #[.pointer (some ⟨B,0,none⟩)]] w fun e w'=>∃ v,e = .returned v∧w'.ownsRow w.heap.size 3 1 v (QAC d).length ((QAC d).map QGv)∧Below w.heap.size w w':=by
 have hlen:=hid (QEC d)
 refine callsIn_of_wp_marks Tryz.func88 rfl trivial ?_ rfl
 simp only [Tryz.ntmps88,List.size_toArray,List.length_cons,List.length_nil,Nat.reduceAdd,Nat.reduceSub,Array.replicate_succ,Array.replicate_zero,List.push_toArray,List.append_toArray,List.nil_append,List.cons_append]
 gi_wp2
 have bL:=hid (Boxed.new w 52 (.slice none 0 0))
 have hrow:Hid (QCv w.heap.size (w.alloc (.cells #[.slice none 0 0] 52)) = none):=hid (QAM bL.out)
 have hz:Hid (B < w.heap.size):=hid (lt_of_heap hB.out)
 have hbz:=hid hb.out.size
 have hinv:RInv w [] (w.alloc (.cells #[.slice none 0 0] 52)):=⟨⟨_,bL.out,World.ownsRow_nil _ _ _ _⟩,World.grownBy_alloc _ _ _,by simp⟩
 refine wpIn_rangeFunc_ownG (α:=Int) rfl (by decide) (gf:=89) (lb:=#[.pointer (some ⟨B,0,none⟩)]) rfl trivial (enters_of Tryz.func89 (by kernel_rfl) rfl)
  (QIU 4 d B (fun k=>k = w.heap.size) (QCv w.heap.size) (w.alloc (.cells #[.slice none 0 0] 52)) ⟨fun k hk=>by rw [World.size_alloc];omega,fun k hk=>(by rw [hrow.out] at hk;cases hk),fun X Y h=>QCT (h _ (by simp))⟩
   (QIt (w:=w0) hs.out ht.out (hb.out.alloc hb.out.size _) (QAa hB.out) (fun k hk=>by have:=hz.out;have:=hbz.out;omega) (fun k hk=>by rw [hrow.out] at hk;cases hk)) (by have:=hl.out;omega))
  (fun h k=>h.trans k) (fun W l o o' h1 h2 h3 _=>QCo (by simp) W l o o' h1 h2 h3) (Below.refl _ _) (fun _=>rfl)
  (RInv w) (fun _ _ _=>False) (by have:=QO7 w;simpa using this) (fun _ _ _ _ _ hs _ _=>hs) hinv
  (fun p=>{ tmps:=#[.slice none 0 0,.func (.func 89) #[] #[.pointer (some ⟨B,0,none⟩)],.pointer (some ⟨w.heap.size,0,none⟩),undef,.slice none 0 0,.int .i64 p,.func (.func 89) #[] #[.pointer (some ⟨B,0,none⟩)],.int .i64 p,undef,undef,undef,undef,undef],defers:=[] }) ?assign ?body ?done ?stop
 case assign =>
  rintro lp p W K hK
  gi_wp2
  exact hK
 case body =>
  rintro lp pre p W ⟨⟨v',hv,hr⟩,hg0,hN⟩ hlt
  have hc:=hv.cell
  have HV:=hid hv
  have HR:=hid hr
  have HG:=hid hg0
  have HN:=hid hN
  have hpl:pre.length≤1000000:=by have:=hlen.out;have:=hl.out;have h:pre.length < (QAC d).length:=hlt;omega
  clear hv hr hg0 hN hlt
  gi_wp2_with (gi_at_builtin;refine QBO _ rfl _ _ rfl w.heap.size v' pre.length _ rfl (HR.out.alloc _) ⟨W.heap.size,0,none⟩ [.int .i64 p] rfl rfl (cell_one_new _ _ _) (by simp [Value.oneCell']) (by omega) (by have:=HN.out;simp;omega) ?_;intro v2 w3 hown' hgrow hr3;obtain ⟨g',cap',rfl⟩:=ownsRow_succ hown';obtain ⟨hv1,hv2,hr2,hk2,hb2⟩:=HV.out.appended (by decide) HR.out (by have:=HN.out;omega) (Nat.le_refl _) hown' hgrow;have hc1:=hv1.cell;have hf1:=hv1.frozen;have G2:=hid hgrow;have G3:=hid hr3;have G4:=hid hv2;have G5:=hid hr2;have G6:=hid hk2;have G7:=hid hb2;clear hown' hgrow hr3 hv1 hv2 hr2 hk2 hb2)
  have hsame:∀ j,j < W.heap.size→j≠w.heap.size→some j≠v'.ownBlock→(w3.setCell ⟨w.heap.size,0,none⟩ (.slice (some ⟨g',0,none⟩) (pre.length+1) cap')).heap[j]? = W.heap[j]?:=fun j hj hB hr =>
   (QBA _ _ _ _ _ hB).trans ((G2.out.block j (by simp;omega) hr).trans (QAq _ _ _ hj))
  have hsz:=G7.out.size
  refine ⟨G6.out.from _,⟨hsz,fun j hj hB hr _=>hsame j hj hB (by rw [QAM HV.out] at hr;exact Ne.symm hr),fun j hj=>?_⟩,⟨⟨_,G4.out,?_⟩,?_,Nat.le_trans HN.out hsz⟩⟩
  ·rw [QAM HV.out]
   have hlt:=(G5.out.lt j (by rw [QAM G4.out] at hj;exact hj)).2
   rw [QAM G4.out] at hj
   rcases G3.out with h | h
   ·rw [h] at hj;exact .inl hj
   ·rw [h] at hj
    cases hj
    exact .inr ⟨by simp,hlt⟩
  ·have:=G5.out
   rw [List.length_append,List.length_singleton,List.map_append]
   exact this
  ·refine ⟨G7.out.os.trans HG.out.os,G7.out.tape.trans HG.out.tape,G7.out.output.trans HG.out.output,Nat.le_trans HG.out.size hsz,fun j hj hr=>(hsame j (by have:=HN.out;omega) (by omega) (fun e=>?_)).trans (HG.out.block j hj hr)⟩
   have:=(QBT HR.out e.symm).1
   omega
 case done =>
  rintro D ys W hD hys ⟨⟨v',hv,hr⟩,hg0,hN⟩ hK
  have hc:=hv.cell
  have HR:=hid hr
  have HG:=hid hg0
  have HK:=hid hK
  have HYS:=hid hys
  have hD' : w.heap.size≤D:=by simp at hD;omega
  clear hv hr hg0 hN hD hK hys
  gi_wp2
  refine ⟨by simp,.inl ⟨_,_,rfl,run_takeDeferred HK.out,?_⟩⟩
  refine ⟨_,results_tmp rfl _ _ _,v',rfl,?_,QF3 (grown_trans' HG.out (grownBy_putObj' W D _) hD')⟩
  have:=ownsRow_putObj HR.out (.deferred none) HK.out rfl
  rw [← HYS.out]
  exact this
 case stop =>
  rintro D c pre W _ _ h _
  exact h.elim
end
section
open Go.RowKit Lx Go.Shelf
structure GrSt (w:World) (bx:Obj) (e:TypeId) (sz:Nat) (Z:World) (v:Value) (n:Nat) (xs:List Value):Prop where
 below:Below w.heap.size w Z
 box:Z.heap[w.heap.size]? = some bx
 own:Z.ownsRow (w.heap.size+1) e sz v n xs
theorem GrSt.on {w Z Y:World} {bx:Obj} {e:TypeId} {sz n:Nat} {v:Value} {xs:List Value} (h:GrSt w bx e sz Z v n xs) (hb:Below Z.heap.size Z Y):GrSt w bx e sz Y v n xs :=
 ⟨h.below.trans (hb.mono h.below.size),(hb.block _ (lt_of_heap h.box)).trans h.box,QD8 h.own fun g hg=>by
  obtain ⟨_,cur,hc⟩:=QBT h.own hg
  exact hb.block g (lt_of_heap hc)⟩
theorem GrSt.drew {w Z:World} {bx:Obj} {e:TypeId} {sz n:Nat} {v:Value} {xs:List Value} (h:GrSt w bx e sz Z v n xs):GrSt w bx e sz Z.drew v n xs:=h.on ⟨rfl,rfl,rfl,Nat.le_refl _,fun _ _=>rfl⟩
theorem GrSt.push {w Z Y:World} {bx:Obj} {e:TypeId} {sz n:Nat} {v v' : Value} {xs news:List Value} {o:Obj} (h:GrSt w bx e sz Z v n xs) (ho:Y.ownsRow (w.heap.size+1) e sz v' (n+1) (xs ++ news)) (hg:(Z.alloc o).grownBy Y v.ownBlock):GrSt w bx e sz Y v' (n+1) (xs ++ news):=by
 have hne:∀ k,k≤w.heap.size→v.ownBlock≠some k:=fun k hk e=>by
  have:=(QBT h.own e).1
  omega
 have hb:Below w.heap.size w (Z.alloc o):=h.below.alloc h.below.size _
 refine ⟨hb.grown hg hb.size fun k e=>by have:=(QBT h.own e).1;omega,?_,ho⟩
 exact (hg.block _ (by rw [World.size_alloc];have:=lt_of_heap h.box;omega) (fun e=>hne _ (Nat.le_refl _) e.symm)).trans (QAa h.box)
theorem QBW {w Z Z' : World} {bx:Obj} {e t:TypeId} {sz bytes n:Nat} {v:Value} {xs:List Value} {z:Value} {i:TypeInfo} (ht : Tryz.prog.underlying t = some (.slice e)) (hi : Tryz.prog.info? e = some i) (hz:i.zero = some z) (hsize:i.size = sz) (hby:i.bytes = bytes) (hzs:z.cells.size = sz) (hsz:0 < sz) (hbl:bytes≤1000)
  (h:Hid (GrSt w bx e sz Z v n xs)) (news:Array Value) (hl:news.size = sz) (h1:∀ u∈news.toList,u.oneCell' = true) (hZ:Z' = Z.alloc (.cells news e)) (hk:n≤1000000) {ops:Array Oper} {QBd:List Oper} {o:Oper} {act:Act} {Q:Exit→Act→World→Prop}
  (hg:o.guard = none) (s x:Operand) (hop:o.op = Op.call { callee:=Callee.builtin Builtin.append,args:=#[s,x],argTypes:=#[t,t] }) (hs:act.eval s = v) {H:Nat} (hH:Z.heap.size = H) (hx:act.eval x = .slice (some ⟨H,0,none⟩) 1 1)
  (hK:∀ v' w',Hid (GrSt w bx e sz w' v' (n+1) (xs ++ news.toList))→wpList Tryz.prog ops Q QBd (act.put o.dst v') w') :
  wpList Tryz.prog ops Q (o :: QBd) act Z':=by
 subst hZ
 subst hH
 refine wpList_append_lies (w:=_) hg s x t hop (w.heap.size+1) e i z sz bytes ht hi hz hsize hby hzs hsz v n xs hs (h.out.own.alloc _) ⟨Z.heap.size,0,none⟩ 1 1 news.toList hx (by rw [Array.length_toList,hl,Nat.one_mul]) (fun j u hu=>?_) h1 (by decide) (by unfold maxLen;omega) (Nat.le_trans (Nat.mul_le_mul (show n+1≤1000001 by omega) hbl) (by decide)) (by have:=lt_of_heap h.out.box;rw [World.size_alloc];omega) _ rfl fun g cap w' ho hgr _ _=>hK _ _ (hid (h.out.push ho hgr))
 have e:(⟨Z.heap.size,0,none⟩:Addr).add j = ⟨Z.heap.size,j,none⟩:=by unfold Addr.add;split <;> simp_all
 rw [e,World.cell?_alloc_new,← hu,← Array.getElem?_toList]
theorem step_gr {w Z Z' : World} {bx:Obj} {e t:TypeId} {sz bytes n:Nat} {v:Value} {xs:List Value} {z:Value} {i:TypeInfo} (ht : Tryz.prog.underlying t = some (.slice e)) (hi : Tryz.prog.info? e = some i) (hz:i.zero = some z) (hsize:i.size = sz) (hby:i.bytes = bytes) (hzs:z.cells.size = sz) (hsz:0 < sz) (hbl:bytes≤1000)
  (h:Hid (GrSt w bx e sz Z v n xs)) (news:Array Value) (hl:news.size = sz) (h1:∀ u∈news.toList,u.oneCell' = true) (hZ:Z' = Z.alloc (.cells news e)) (hk:n≤1000000) {ops:Array Oper} {o:Oper} {act:Act} {K:Act→World→Prop} {Q:Exit→Act→World→Prop} {E:Prop}
  (hg:o.guard = none) (s x:Operand) (hop:o.op = Op.call { callee:=Callee.builtin Builtin.append,args:=#[s,x],argTypes:=#[t,t] }) (hs:act.eval s = v) {H:Nat} (hH:Z.heap.size = H) (hx:act.eval x = .slice (some ⟨H,0,none⟩) 1 1)
  (hK:∀ v' w',Hid (GrSt w bx e sz w' v' (n+1) (xs ++ news.toList))→K (act.put o.dst v') w') :
  if Region.wanted o (yielded ops act.tmps) = true then Oper.wp Tryz.prog o act Z' K Q else E:=by
 subst hZ
 subst hH
 refine step_append_lies (w:=_) hg s x t hop (w.heap.size+1) e i z sz bytes ht hi hz hsize hby hzs hsz v n xs hs (h.out.own.alloc _) ⟨Z.heap.size,0,none⟩ 1 1 news.toList hx (by rw [Array.length_toList,hl,Nat.one_mul]) (fun j u hu=>?_) h1 (by decide) (by unfold maxLen;omega) (Nat.le_trans (Nat.mul_le_mul (show n+1≤1000001 by omega) hbl) (by decide)) (by have:=lt_of_heap h.out.box;rw [World.size_alloc];omega) _ rfl fun g cap w' ho hgr _ _=>hK _ _ (hid (h.out.push ho hgr))
 have e:(⟨Z.heap.size,0,none⟩:Addr).add j = ⟨Z.heap.size,j,none⟩:=by unfold Addr.add;split <;> simp_all
 rw [e,World.cell?_alloc_new,← hu,← Array.getElem?_toList]
def IntsV (W:World) (v:Value) (l:List Int):Prop:=SlAt v l.length 1 fun b o i=>∀ x,l[i]? = some x→W.cell? ⟨b,o,none⟩ = some (.int .i64 x)
theorem IntsV.below {w w' : World} {s:Value} {l:List Int} (h:IntsV w s l) (hb:Below w.heap.size w w'):IntsV w' s l:=h.mono fun _ _ _ _ h x hx=>QA1 hb (h x hx)
theorem QHJ {W:World} {B:Nat} {v:Value} {l:List Int} (h:W.ownsRow B 3 1 v l.length (l.map QGv)):IntsV W v l:=by
 have h0:=h
 obtain ⟨hlen,h1 | ⟨g,cap,cur,rfl,hb,hg,hnc,hcm,hcs,htk⟩⟩:=h
 ·rw [h1.1]
  unfold IntsV
  rw [h1.2]
  exact QCW _ _ _ _ _ ⟨Nat.zero_le _,fun _=>rfl⟩ rfl
 ·have hc:=h0.cells (g:=g) rfl
  refine QCx hnc hcm fun i _ x hx=>?_
  have hz:(⟨g,0,none⟩:Addr).add i = ⟨g,0+i*1,none⟩:=by unfold Addr.add;split <;> simp_all
  rw [← hz]
  exact hc _ _ (by rw [List.getElem?_map,hx];rfl)
end
section
open Go.RowKit Lx Go.Shelf
set_option maxRecDepth 100000 in
theorem QHi (d:De) (op oi:Option Addr) (capp capi bp fp bi fi np ni:Nat) (w:World) (hnp:Hid (d.params.length = np)) (hni:Hid (d.items.length = ni)) (lp' : (np:Int)≤100000) (li' : (ni:Int)≤100000)
  (hop:Hid (0 < np→op = some ⟨bp,fp,none⟩)) (hoi:Hid (0 < ni→oi = some ⟨bi,fi,none⟩)) (hvp:Hid (∀ j,j < np→∀ x,d.params[j]? = some x→PaAt w bp (fp+j*2) x)) (hvi:Hid (∀ j,j < ni→∀ x,d.items[j]? = some x→ItAt w bi (fi+j*9) x)) :
  Calls Tryz.prog 49 #[.agg #[.int .i64 d.kind,.string d.name,.slice op np capp,.slice oi ni capi,.int .i64 d.type,.int .i64 d.e,.int .i64 d.pos]] w fun r Y=>∃ v,r = .returned v∧Y.ownsRow (w.heap.size+1) 67 4 v (QAV d).length (QKu (QAV d))∧Below w.heap.size w Y:=by
 obtain ⟨ii,si2,si3,si4,si5⟩:=info_parts QOZ
 have mixed : Tryz.prog.follows .mixedOrders = true:=by kernel_rfl
 have H0:Hid (GrSt w (.cells #[.int .i64 d.kind,.string d.name,.slice op np capp,.slice oi ni capi,.int .i64 d.type,.int .i64 d.e,.int .i64 d.pos] 36) 67 4 (w.alloc (.cells #[.int .i64 d.kind,.string d.name,.slice op np capp,.slice oi ni capi,.int .i64 d.type,.int .i64 d.e,.int .i64 d.pos] 36)) (.slice none 0 0) (QBI (d.params.take 0)).length (QKu (QBI (d.params.take 0)))):=hid ⟨(Below.refl _ _).alloc (Nat.le_refl _) _,QAR rfl,World.ownsRow_nil _ _ _ _⟩
 go_enter Tryz.func49,Tryz.ntmps49
 go_wp2_with fail
 go_loopw [3,4] (fun s3 s4 wr=>∃ (j:Nat) (v:Value),v = s3∧s4 = .int .i64 (j:Int)∧j≤np∧Hid (GrSt w (.cells #[.int .i64 d.kind,.string d.name,.slice op np capp,.slice oi ni capi,.int .i64 d.type,.int .i64 d.e,.int .i64 d.pos] 36) 67 4 wr v (QBI (d.params.take j)).length (QKu (QBI (d.params.take j))))) (fun _ s4 _=>np - QA2 s4)
 case atStart=>exact ⟨0,_,rfl,rfl,Nat.zero_le _,H0⟩
 case round =>
  clear H0
  obtain ⟨j,v,rfl,rfl,hj,hG⟩:=hrel
  obtain ⟨_,_,_,b2,b3,_⟩:=QAe hG.out.box
  rcases Nat.lt_or_ge j np with hlt | hge
  ·have q3:(j:Int) < (np:Int):=by omega
   have ix:Ix 33 2 (.slice op np capp) bp fp j:=by
    intro W
    rw [hop.out (by omega)]
    have h1:(j:Int) < (np:Int):=by omega
    have h2:(j:Int)≤9223372036854775807:=by omega
    go_simp
   unfold Ix at ix
   obtain ⟨x,hx⟩:∃ x,d.params[j]? = some x:=⟨_,List.getElem?_eq_getElem (by have:=hnp.out;omega)⟩
   have hp:=hvp.out j hlt x hx
   have p0:=QA1 hG.out.below hp.1
   have p1:=QA1 hG.out.below hp.2.1
   have HT:Hid (QBI (d.params.take (j+1)) = QBI (d.params.take j) ++ [⟨x.name,1,x.type,j⟩]):=hid (QEG _ _ _ hx)
   have hk:(QBI (d.params.take j)).length≤1000000:=by rw [QDw,List.length_take];omega
   clear hx hp
   go_wp2_with fail
   have HG:=hid hG.out.drew
   go_region_law (refine step_gr (i:=ii) Tryz.underlying102 si2 si3 si4 si5 (by rfl) (by decide) (by decide) HG #[.string x.name,.int .i64 1,.int .i64 x.type,.int .i64 (j:Int)] (by rfl) (by simp [Value.oneCell']) (by rfl) hk (by rfl) (.tmp 14) (.tmp 29) (by rfl) (by rfl) (by rfl) (by rfl) ?_;intro v3 w3 h3)
   all_goals (
    go_wp2_with fail
    exact ⟨⟨j+1,v3,rfl,by go_num,by omega,hid (by rw [HT.out,List.length_append,QCy];exact h3.out)⟩,by simp [QA2];omega⟩)
  ·obtain rfl:j = np:=by omega
   have q3:¬ (j:Int) < (j:Int):=by omega
   have HG1:=hid hG.out
   rw [show d.params.take j = d.params by rw [← hnp.out];exact List.take_length] at HG1
   clear hG
   go_wp2_with fail
   clear b2 b3
   go_loopw [3,5] (fun s3 s5 wr=>∃ (k:Nat) (v:Value),v = s3∧s5 = .int .i64 (k:Int)∧k≤ni∧Hid (GrSt w (.cells #[.int .i64 d.kind,.string d.name,.slice op j capp,.slice oi ni capi,.int .i64 d.type,.int .i64 d.e,.int .i64 d.pos] 36) 67 4 wr v (QBI d.params ++ QB4 (d.items.take k)).length (QKu (QBI d.params ++ QB4 (d.items.take k))))) (fun _ s5 _=>ni - QA2 s5)
   case atStart=>exact ⟨0,v,rfl,rfl,Nat.zero_le _,(by simpa [QB4] using HG1)⟩
   case round =>
    clear HG1
    obtain ⟨k,v,rfl,rfl,hk,hQ⟩:=hrel
    obtain ⟨_,_,_,b2,b3,_⟩:=QAe hQ.out.box
    rcases Nat.lt_or_ge k ni with hlt | hge
    ·have q3:(k:Int) < (ni:Int):=by omega
     have ix:Ix 34 9 (.slice oi ni capi) bi fi k:=by
      intro W
      rw [hoi.out (by omega)]
      have h1:(k:Int) < (ni:Int):=by omega
      have h2:(k:Int)≤9223372036854775807:=by omega
      go_simp
     unfold Ix at ix
     obtain ⟨x,hx⟩:∃ x,d.items[k]? = some x:=⟨_,List.getElem?_eq_getElem (by have:=hni.out;omega)⟩
     obtain ⟨os,caps,iok,i0,i1,i2,i3,i4,i5,i6,i7,i8⟩:=QCf (hvi.out k hlt x hx)
     have p0:=QA1 hQ.out.below i0
     have p1:=QA1 hQ.out.below i1
     have p2:=QA1 hQ.out.below i2
     have p3:=QA1 hQ.out.below i3
     have p4:=QA1 hQ.out.below i4
     have p5:=QA1 hQ.out.below i5
     have p6:=QA1 hQ.out.below i6
     have p7:=QA1 hQ.out.below i7
     have p8:=QA1 hQ.out.below i8
     have HIT:=hid (QGE _ _ _ hx)
     have hkl:(QBI d.params ++ QB4 (d.items.take k)).length≤1000000:=by
      have h1:=QFV (d.items.take k)
      rw [List.length_take] at h1
      rw [List.length_append,QDw]
      have:=hnp.out
      omega
     have HG:=hid (hQ.out.on ((Below.refl wr.heap.size wr).alloc (Nat.le_refl _) (.cells #[.int .i64 x.kind,.string x.name,.int .i64 x.type,.int .i64 x.e,.int .i64 x.f,.slice os x.states.length caps,.string x.state,.string x.next,.int .i64 x.pos] 57)))
     have HSZ:(wr.alloc (.cells #[.int .i64 x.kind,.string x.name,.int .i64 x.type,.int .i64 x.e,.int .i64 x.f,.slice os x.states.length caps,.string x.state,.string x.next,.int .i64 x.pos] 57)).heap.size = wr.heap.size+1:=World.size_alloc _ _
     clear hx i0 i1 i2 i3 i4 i5 i6 i7 i8 iok
     by_cases e1:x.kind = 1
     ·have HT:Hid (QB4 (d.items.take (k+1)) = QB4 (d.items.take k) ++ [⟨x.name,2,x.type,k⟩]):=hid (by rw [HIT.out,show QCI x.kind = 2 by rw [e1];rfl,show QEU x.kind x.type = x.type by rw [e1];rfl];rfl)
      have r1:(x.kind == 1) = true:=by simpa using e1
      clear e1
      go_wp2_with (at_builtin;refine QBW (i:=ii) Tryz.underlying102 si2 si3 si4 si5 rfl (by decide) (by decide) HG #[.string x.name,.int .i64 2,.int .i64 x.type,.int .i64 (k:Int)] rfl (by simp [Value.oneCell']) rfl hkl rfl _ _ rfl rfl HSZ rfl ?_;intro v3 w3 h3)
      exact ⟨⟨k+1,v3,rfl,by go_num,by omega,hid (by rw [HT.out,← List.append_assoc,List.length_append,QCy];exact h3.out)⟩,by simp [QA2];omega⟩
     have r1:(x.kind == 1) = false:=by simpa using e1
     by_cases e2:x.kind = 2
     ·have HT:Hid (QB4 (d.items.take (k+1)) = QB4 (d.items.take k) ++ [⟨x.name,3,1,k⟩]):=hid (by rw [HIT.out,show QCI x.kind = 3 by rw [e2];rfl,show QEU x.kind x.type = 1 by rw [e2];rfl];rfl)
      have r2:(x.kind == 2) = true:=by simpa using e2
      clear e2
      go_wp2_with (at_builtin;refine QBW (i:=ii) Tryz.underlying102 si2 si3 si4 si5 rfl (by decide) (by decide) HG #[.string x.name,.int .i64 3,.int .i64 1,.int .i64 (k:Int)] rfl (by simp [Value.oneCell']) rfl hkl rfl _ _ rfl rfl HSZ rfl ?_;intro v3 w3 h3)
      exact ⟨⟨k+1,v3,rfl,by go_num,by omega,hid (by rw [HT.out,← List.append_assoc,List.length_append,QCy];exact h3.out)⟩,by simp [QA2];omega⟩
     have r2:(x.kind == 2) = false:=by simpa using e2
     by_cases e4:x.kind = 4
     ·have HT:Hid (QB4 (d.items.take (k+1)) = QB4 (d.items.take k) ++ [⟨x.name,4,x.type,k⟩]):=hid (by rw [HIT.out,show QCI x.kind = 4 by rw [e4];rfl,show QEU x.kind x.type = x.type by rw [e4];rfl];rfl)
      have r4:(x.kind == 4) = true:=by simpa using e4
      clear e4
      go_wp2_with (at_builtin;refine QBW (i:=ii) Tryz.underlying102 si2 si3 si4 si5 rfl (by decide) (by decide) HG #[.string x.name,.int .i64 4,.int .i64 x.type,.int .i64 (k:Int)] rfl (by simp [Value.oneCell']) rfl hkl rfl _ _ rfl rfl HSZ rfl ?_;intro v3 w3 h3)
      exact ⟨⟨k+1,v3,rfl,by go_num,by omega,hid (by rw [HT.out,← List.append_assoc,List.length_append,QCy];exact h3.out)⟩,by simp [QA2];omega⟩
     have r4:(x.kind == 4) = false:=by simpa using e4
     by_cases e6:x.kind = 6
     ·have HT:Hid (QB4 (d.items.take (k+1)) = QB4 (d.items.take k) ++ [⟨x.name,5,0,k⟩]):=hid (by rw [HIT.out,show QCI x.kind = 5 by rw [e6];rfl,show QEU x.kind x.type = 0 by rw [e6];rfl];rfl)
      have r6:(x.kind == 6) = true:=by simpa using e6
      clear e6
      go_wp2_with (at_builtin;refine QBW (i:=ii) Tryz.underlying102 si2 si3 si4 si5 rfl (by decide) (by decide) HG #[.string x.name,.int .i64 5,.int .i64 0,.int .i64 (k:Int)] rfl (by simp [Value.oneCell']) rfl hkl rfl _ _ rfl rfl HSZ rfl ?_;intro v3 w3 h3)
      exact ⟨⟨k+1,v3,rfl,by go_num,by omega,hid (by rw [HT.out,← List.append_assoc,List.length_append,QCy];exact h3.out)⟩,by simp [QA2];omega⟩
     have r6:(x.kind == 6) = false:=by simpa using e6
     have HT:Hid (QB4 (d.items.take (k+1)) = QB4 (d.items.take k)):=hid (by rw [HIT.out,show QCI x.kind = 0 by unfold QCI;rw [if_neg e1,if_neg e2,if_neg e4,if_neg e6]];simp)
     go_wp2_with fail
     exact ⟨⟨k+1,v,rfl,by go_num,by omega,by rw [HT.out];exact HG⟩,by simp [QA2];omega⟩
    ·obtain rfl:k = ni:=by omega
     have q3:¬ (k:Int) < (k:Int):=by omega
     have HG2:=hid hQ.out
     rw [show d.items.take k = d.items by rw [← hni.out];exact List.take_length] at HG2
     clear hQ
     go_wp2_with fail
     go_ret
     exact ⟨_,rfl,HG2.out.own,HG2.out.below⟩
theorem QIT (v0:Value) (d:De) (w:World) (h:DeVal w v0 d) (h1:d.params.length≤600) (h2:d.items.length≤600) :
  Calls Tryz.prog 49 #[v0] w fun r Y=>∃ v,r = .returned v∧VasAt Y v (QAV d)∧Below w.heap.size w Y:=by
 obtain ⟨s,t,rfl,⟨op,capp,bp,fp,rfl,_,_,hp1,hp2⟩,⟨oi,capi,bi,fi,rfl,_,_,hi1,hi2⟩,_⟩:=h
 exact (QHi d op oi capp capi bp fp bi fi _ _ w (hid rfl) (hid rfl) (by omega) (by omega) (hid hp1) (hid hi1) (hid hp2) (hid hi2)).mono fun r Y ⟨v,h1,h2,h3⟩=>⟨v,h1,QMp h2,h3⟩
end
section
open Go.RowKit Lx Go.Shelf
theorem int_inf:(Tryz.prog.info? 3).map (fun i=>(i.zero,i.size,i.bytes)) = some (some (.int .i64 0),1,8):=by kernel_rfl
theorem QKO (k:Int) (w:World):Calls Tryz.prog 78 #[.int .i64 k] w fun r w'=>r = .returned (.tuple #[.bool (QFc k),.bool (QET k)])∧w = w':=by
 by_cases h1:k = 1
 ·subst h1;go_enter Tryz.func78,Tryz.ntmps78;go_wp2_with fail;go_ret2;exact ⟨rfl,rfl⟩
 by_cases h2:k = 2
 ·subst h2;go_enter Tryz.func78,Tryz.ntmps78;go_wp2_with fail;go_ret2;exact ⟨rfl,rfl⟩
 by_cases h3:k = 3
 ·subst h3;go_enter Tryz.func78,Tryz.ntmps78;go_wp2_with fail;go_ret2;exact ⟨rfl,rfl⟩
 by_cases h4:k = 4
 ·subst h4;go_enter Tryz.func78,Tryz.ntmps78;go_wp2_with fail;go_ret2;exact ⟨rfl,rfl⟩
 by_cases h5:k = 5
 ·subst h5;go_enter Tryz.func78,Tryz.ntmps78;go_wp2_with fail;go_ret2;exact ⟨rfl,rfl⟩
 by_cases h7:k = 7
 ·subst h7;go_enter Tryz.func78,Tryz.ntmps78;go_wp2_with fail;go_ret2;exact ⟨rfl,rfl⟩
 have E:=hid (show QFc k = false∧QET k = false by
  constructor
  ·unfold QFc;rw [decide_eq_false h1,decide_eq_false h2,decide_eq_false h3,decide_eq_false h4,decide_eq_false h5];rfl
  ·unfold QET;rw [decide_eq_false h2,decide_eq_false h3,decide_eq_false h5,decide_eq_false h7];rfl)
 have r2:(k == 2) = false:=by simpa using h2
 have r3:(k == 3) = false:=by simpa using h3
 have r5:(k == 5) = false:=by simpa using h5
 have r7:(k == 7) = false:=by simpa using h7
 by_cases g1:1≤k
 ·have g5:¬ k≤5:=by omega
  have a1:decide (1≤k) = true:=decide_eq_true g1
  have a5:decide (k≤5) = false:=decide_eq_false g5
  go_enter Tryz.func78,Tryz.ntmps78
  go_wp2_with fail
  go_ret2
  exact ⟨by rw [E.out.1,E.out.2];rfl,rfl⟩
 ·have a1:decide (1≤k) = false:=decide_eq_false g1
  go_enter Tryz.func78,Tryz.ntmps78
  go_wp2_with fail
  go_ret2
  exact ⟨by rw [E.out.1,E.out.2];rfl,rfl⟩
set_option maxRecDepth 100000 in
theorem QGl (d:De) (op oi:Option Addr) (capp capi bi fi np ni:Nat) (w:World) (hni:Hid (d.items.length = ni)) (li' : (ni:Int)≤100000) (hkd:Hid (1≤d.kind))
  (hoi:Hid (0 < ni→oi = some ⟨bi,fi,none⟩)) (hvi:Hid (∀ j,j < ni→∀ x,d.items[j]? = some x→ItAt w bi (fi+j*9) x)) :
  Calls Tryz.prog 50 #[.agg #[.int .i64 d.kind,.string d.name,.slice op np capp,.slice oi ni capi,.int .i64 d.type,.int .i64 d.e,.int .i64 d.pos]] w fun r Y=>∃ v,r = .returned v∧Y.ownsRow (w.heap.size+1) 3 1 v (QAC d).length ((QAC d).map QGv)∧Below w.heap.size w Y:=by
 obtain ⟨ii,si2,si3,si4,si5⟩:=info_parts int_inf
 have H0:Hid (GrSt w (.cells #[.int .i64 d.kind,.string d.name,.slice op np capp,.slice oi ni capi,.int .i64 d.type,.int .i64 d.e,.int .i64 d.pos] 36) 3 1 (w.alloc (.cells #[.int .i64 d.kind,.string d.name,.slice op np capp,.slice oi ni capi,.int .i64 d.type,.int .i64 d.e,.int .i64 d.pos] 36)) (.slice none 0 0) (QAO (d.items.take 0)).length ((QAO (d.items.take 0)).map QGv)):=hid ⟨(Below.refl _ _).alloc (Nat.le_refl _) _,QAR rfl,World.ownsRow_nil _ _ _ _⟩
 go_enter Tryz.func50,Tryz.ntmps50
 go_wp2_with fail
 go_loopw [3,4] (fun s3 s4 wr=>∃ (k:Nat) (v:Value),v = s3∧s4 = .int .i64 (k:Int)∧k≤ni∧Hid (GrSt w (.cells #[.int .i64 d.kind,.string d.name,.slice op np capp,.slice oi ni capi,.int .i64 d.type,.int .i64 d.e,.int .i64 d.pos] 36) 3 1 wr v (QAO (d.items.take k)).length ((QAO (d.items.take k)).map QGv))) (fun _ s4 _=>ni - QA2 s4)
 case atStart=>exact ⟨0,_,rfl,rfl,Nat.zero_le _,H0⟩
 case round =>
  clear H0
  obtain ⟨k,v,rfl,rfl,hk,hQ⟩:=hrel
  obtain ⟨_,b0,_,_,b3,_,b5,_⟩:=QAe hQ.out.box
  rcases Nat.lt_or_ge k ni with hlt | hge
  ·have q3:(k:Int) < (ni:Int):=by omega
   have ix:Ix 34 9 (.slice oi ni capi) bi fi k:=by
    intro W
    rw [hoi.out (by omega)]
    have h1:(k:Int) < (ni:Int):=by omega
    have h2:(k:Int)≤9223372036854775807:=by omega
    go_simp
   unfold Ix at ix
   obtain ⟨x,hx⟩:∃ x,d.items[k]? = some x:=⟨_,List.getElem?_eq_getElem (by have:=hni.out;omega)⟩
   obtain ⟨os,caps,iok,i0,i1,i2,i3,i4,i5,i6,i7,i8⟩:=QCf (hvi.out k hlt x hx)
   have I3:=hid i3
   have I4:=hid i4
   have p0:=QA1 hQ.out.below i0
   have p3:=QA1 hQ.out.below i3
   have p4:=QA1 hQ.out.below i4
   have HIT:=hid (QFN _ _ _ hx)
   have hkl:(QAO (d.items.take k)).length≤1000000:=by
    have h1:=QDA (d.items.take k)
    rw [List.length_take] at h1
    omega
   have HG:=hid hQ.out
   have MH:=hid (fun W=>QKO x.kind W)
   have mixed : Tryz.prog.follows .mixedOrders = true:=by kernel_rfl
   have late : Tryz.prog.follows .lateStores = true:=by kernel_rfl
   clear hx i0 i1 i2 i3 i4 i5 i6 i7 i8 iok
   obtain ⟨be,hbe⟩:∃ be,be = QFc x.kind:=⟨_,rfl⟩
   obtain ⟨bf,hbf⟩:∃ bf,bf = QET x.kind:=⟨_,rfl⟩
   have QE:=hid hbe
   have QF:=hid hbf
   rw [← hbe,← hbf] at MH
   clear hbe hbf
   have HRX:Hid (QC1 x = (if be = true then [x.e] else []) ++ (if bf = true then [x.f] else [])):=hid (by unfold QC1;rw [QE.out,QF.out])
   have CALL:=True.intro
   cases be with
   | false =>
    cases bf with
    | false =>
     have HT:Hid (QAO (d.items.take (k+1)) = QAO (d.items.take k)):=hid (by rw [HIT.out,HRX.out];simp)
     go_wp2_with (go_at_call 78;(with_reducible refine (MH.out _).mono ?_);rintro e w1 ⟨rfl,rfl⟩)
     exact ⟨⟨k+1,v,rfl,by go_num,by omega,by rw [HT.out];exact HG⟩,by simp [QA2];omega⟩
    | true =>
     have HT:Hid (QAO (d.items.take (k+1)) = QAO (d.items.take k) ++ [x.f]):=hid (by rw [HIT.out,HRX.out];simp)
     go_wp2_with (first | (go_at_call 78;(with_reducible refine (MH.out _).mono ?_);rintro e w1 ⟨rfl,rfl⟩) | (at_builtin;refine QBW (i:=ii) Tryz.underlying52 si2 si3 si4 si5 rfl (by decide) (by decide) HG #[.int .i64 x.f] rfl (by simp [Value.oneCell']) rfl hkl rfl _ _ rfl rfl rfl rfl ?_;intro v3 w3 h3))
     exact ⟨⟨k+1,v3,rfl,by go_num,by omega,hid (by rw [HT.out,List.length_append,List.map_append];exact h3.out)⟩,by simp [QA2];omega⟩
   | true =>
    cases bf with
    | false =>
     have HT:Hid (QAO (d.items.take (k+1)) = QAO (d.items.take k) ++ [x.e]):=hid (by rw [HIT.out,HRX.out];simp)
     go_wp2_with (first | (go_at_call 78;(with_reducible refine (MH.out _).mono ?_);rintro e w1 ⟨rfl,rfl⟩) | (at_builtin;refine QBW (i:=ii) Tryz.underlying52 si2 si3 si4 si5 rfl (by decide) (by decide) HG #[.int .i64 x.e] rfl (by simp [Value.oneCell']) rfl hkl rfl _ _ rfl rfl rfl rfl ?_;intro v3 w3 h3))
     exact ⟨⟨k+1,v3,rfl,by go_num,by omega,hid (by rw [HT.out,List.length_append,List.map_append];exact h3.out)⟩,by simp [QA2];omega⟩
    | true =>
     have HT:Hid (QAO (d.items.take (k+1)) = QAO (d.items.take k) ++ [x.e] ++ [x.f]):=hid (by rw [HIT.out,HRX.out];simp)
     have hkl2:(QAO (d.items.take k)).length+1≤1000000:=by
      have h1:=QDA (d.items.take k)
      rw [List.length_take] at h1
      omega
     go_wp2_with (first
      | (go_at_call 78;(with_reducible refine (MH.out _).mono ?_);rintro e w1 ⟨rfl,rfl⟩)
      | (at_builtin;refine QBW (i:=ii) Tryz.underlying52 si2 si3 si4 si5 rfl (by decide) (by decide) HG #[.int .i64 x.e] rfl (by simp [Value.oneCell']) rfl hkl rfl _ _ rfl rfl rfl rfl ?_;intro v2 w2 h2;obtain ⟨_,_,_,_,c3,_⟩:=QAe h2.out.box;have k4:=QA1 h2.out.below I4.out;clear p0 p3 p4 b0 b3 b5)
      | (at_builtin;refine QBW (i:=ii) Tryz.underlying52 si2 si3 si4 si5 rfl (by decide) (by decide) h2 #[.int .i64 x.f] rfl (by simp [Value.oneCell']) rfl hkl2 rfl _ _ rfl rfl rfl rfl ?_;intro v3 w3 h3))
     exact ⟨⟨k+1,v3,rfl,by go_num,by omega,hid (by rw [HT.out,List.length_append,List.length_append,List.map_append,List.map_append];exact h3.out)⟩,by simp [QA2];omega⟩
  ·obtain rfl:k = ni:=by omega
   have q3:¬ (k:Int) < (k:Int):=by omega
   have HG2:=hid hQ.out
   rw [show d.items.take k = d.items by rw [← hni.out];exact List.take_length] at HG2
   clear hQ
   have hkl:(QAO d.items).length≤1000000:=by
    have h1:=QDA d.items
    have:=hni.out
    omega
   by_cases h3:d.kind < 3
   ·have HT:Hid (QAC d = QAO d.items ++ [d.e]):=hid (by unfold QAC;rw [if_pos (by have:=hkd.out;omega)])
    have z3:decide (d.kind < 3) = true:=decide_eq_true h3
    go_wp2_with (at_builtin;refine QBW (i:=ii) Tryz.underlying52 si2 si3 si4 si5 rfl (by decide) (by decide) HG2 #[.int .i64 d.e] rfl (by simp [Value.oneCell']) rfl hkl rfl _ _ rfl rfl rfl rfl ?_;intro v3 w3 h3)
    go_ret
    exact ⟨_,rfl,by rw [HT.out,List.length_append,List.map_append];exact h3.out.own,h3.out.below⟩
   ·have HT:Hid (QAC d = QAO d.items):=hid (by unfold QAC;rw [if_neg (by omega),List.append_nil])
    have z3:decide (d.kind < 3) = false:=decide_eq_false h3
    go_wp2_with fail
    go_ret
    exact ⟨_,rfl,by rw [HT.out];exact HG2.out.own,HG2.out.below⟩
theorem QHh (v0:Value) (d:De) (w:World) (h:DeVal w v0 d) (h1:1≤d.kind) (h2:d.items.length≤600) :
  Calls Tryz.prog 50 #[v0] w fun r Y=>∃ v,r = .returned v∧IntsV Y v (QAC d)∧Below w.heap.size w Y:=by
 obtain ⟨s,t,rfl,⟨op,capp,bp,fp,rfl,_,_,hp1,hp2⟩,⟨oi,capi,bi,fi,rfl,_,_,hi1,hi2⟩,_⟩:=h
 exact (QGl d op oi capp capi bi fi _ _ w (hid rfl) (by omega) (hid h1) (hid hi1) (hid hi2)).mono fun r Y ⟨v,h1,h2,h3⟩=>⟨v,h1,QHJ h2,h3⟩
end
section
open Go.RowKit Lx Go.Shelf
theorem QG5 {fn:Func} {t1 t2:Tmp} {y1:TypeId} {P:Program} {w:World} {v1:Value} (h:fn.results = #[.cell t1 y1,.tmp t2]) (tmps:Array Value) (a1:Addr) (ha1:tmps.getD t1 undef = .pointer (some a1)) (hl1:(loadVar y1 a1).run P w = .ok v1 w):(results fn tmps).run P w = .ok (.tuple #[v1,tmps.getD t2 undef]) w:=by
 have ha1' : tmps[t1]?.getD undef = .pointer (some a1):=by simpa [Array.getD_eq_getD_getElem?] using ha1
 simp [results,h,ha1',hl1,asAddr,Array.getD_eq_getD_getElem?]
theorem ix_vas {o:Option Addr} {n cap b off:Nat} (h:0 < n→o = some ⟨b,off,none⟩) {j:Nat} (hj:j < n) (hn:n≤9223372036854775807):Ix 102 4 (.slice o n cap) b off j:=by
 intro W
 rw [h (by omega)]
 have h1:(j:Int) < (n:Int):=by omega
 have h2:(j:Int)≤9223372036854775807:=by omega
 go_simp
theorem not_yet {l:List Va} {nm:ByteArray} {c:Nat} {x:Va} (h:∀ j,j < c→∀ y,l[j]? = some y→¬ y.name = nm) (hx:l[c]? = some x) (hne:¬ x.name = nm):∀ j,j < c+1→∀ y,l[j]? = some y→¬ y.name = nm:=fun j hj y hy=>by
 rcases Nat.lt_or_ge j c with h1 | h1
 ·exact h j h1 y hy
 ·obtain rfl:j = c:=by omega
  rw [hx] at hy;cases hy;exact hne
set_option maxRecDepth 100000 in
theorem QIS (v0:Value) (d:De) (nm:ByteArray) (w:World) (h:DeVal w v0 d) (h1:d.params.length≤600) (h2:d.items.length≤600) :
  Calls Tryz.prog 19 #[v0,.string nm] w fun r Y=>QMv (QAV d) nm w r Y:=by
 have HD:=hid h
 obtain ⟨s,t,rfl,⟨op,capp,bp,fp,rfl,_⟩,⟨oi,capi,bi,fi,rfl,_⟩,_⟩:=h
 have hb0:=hid ((QA5 (Below.refl w.heap.size w) (.cells #[.int .i64 d.kind,.string d.name,.slice op d.params.length capp,.slice oi d.items.length capi,.int .i64 d.type,.int .i64 d.e,.int .i64 d.pos] 36)).alloc (by simp) (.cells #[.string ⟨#[]⟩,.int .i64 0,.int .i64 0,.int .i64 0] 67))
 have hV:Hid (((w.alloc (.cells #[.int .i64 d.kind,.string d.name,.slice op d.params.length capp,.slice oi d.items.length capi,.int .i64 d.type,.int .i64 d.e,.int .i64 d.pos] 36)).alloc (.cells #[.string ⟨#[]⟩,.int .i64 0,.int .i64 0,.int .i64 0] 67)).heap[w.heap.size+1]? = some (.cells (vaB noVa) 67 (0,0))):=hid (QAR (by simp))
 have CV:=hid (QIT _ d _ (HD.out.below hb0.out) h1 h2)
 obtain ⟨L,hL⟩:∃ L,L = QAV d:=⟨_,rfl⟩
 have hLl:L.length≤1200:=by rw [hL];exact QMn _ ⟨h1,h2⟩
 rw [← hL] at CV ⊢
 clear hL
 go_enter Tryz.func19,Tryz.ntmps19
 go_wp2_with (go_at_call 49;((with_reducible refine CV.out.mono ?_));rintro r w4 ⟨v4,rfl,hv4,hb⟩;obtain ⟨ov,cv,bv,fv,rfl,_,_,hov,hcv⟩:=hv4;have HOV:=hid hov;have HCV:=hid hcv;have hb4:=hid (hb0.out.trans (hb.mono hb0.out.size));have HV4:=hid ((hb.block _ (lt_of_heap hV.out)).trans hV.out);clear hb hov hcv CV)
 obtain ⟨l,hll⟩:∃ l,l = L.length:=⟨_,rfl⟩
 rw [← hll] at HOV HCV hLl ⊢
 have HLN:=hid hll
 clear hll
 have hl2:(l:Int)≤1200:=by omega
 go_loopw [7] (fun i wr=>∃ c:Nat,i = .int .i64 (c:Int)∧c≤l∧wr = w4∧Hid (∀ j,j < c→∀ y,L[j]? = some y→¬ y.name = nm)) (fun i _=>l - QA2 i)
 case atStart=>exact ⟨0,rfl,Nat.zero_le _,rfl,hid fun j hj=>by omega⟩
 case round =>
  obtain ⟨c,rfl,hc,rfl,hno⟩:=hrel
  rcases Nat.lt_or_ge c l with hlt | hge
  ·have hl:(c:Int) < (l:Int):=by omega
   obtain ⟨x,hx⟩:∃ x,L[c]? = some x:=⟨_,List.getElem?_eq_getElem (by have:=HLN.out;omega)⟩
   obtain ⟨u0,u1,u2,u3⟩:=HCV.out c hlt x hx
   have ixc:=ix_vas (cap:=cv) HOV.out hlt (by omega)
   unfold Ix at ixc
   have HXC:=hid hx
   clear hx
   by_cases he:x.name = nm
   ·have qe:(x.name.toList == nm.toList) = true:=by rw [he];simp
    have HE:=hid he
    obtain ⟨⟨z0,z1,z2,z3⟩,z4,z5,z6,z7⟩:=QDz HV4.out
    clear he
    go_wp2_with (fail)
    refine bodyPost_ret (QG5 rfl _ ⟨w.heap.size+1,0,none⟩ rfl (run_loadVar_row _ _ _ _ (vaB x) _ _ (QCw (QCw (QCw (QCw HV4.out 0 _) 1 _) 2 _) 3 _) Tryz.underlying67 rfl (by kernel_rfl))) rfl ?_
    refine ⟨true,x,rfl,fun _=>QJv HXC.out HE.out hno.out,(fun h=>by cases h),?_⟩
    exact (((hb4.out.setCell (p:=⟨w.heap.size+1,0,none⟩) (Nat.le_succ _) _).setCell (p:=⟨w.heap.size+1,1,none⟩) (Nat.le_succ _) _).setCell (p:=⟨w.heap.size+1,2,none⟩) (Nat.le_succ _) _).setCell (p:=⟨w.heap.size+1,3,none⟩) (Nat.le_succ _) _
   ·have qe:(x.name.toList == nm.toList) = false:=beq_false_of_ne fun h=>he ((QFU _ _).1 h)
    have HNX:=hid (not_yet hno.out HXC.out he)
    clear he
    go_wp2_with (fail)
    exact ⟨⟨c+1,by go_num,by omega,by first | exact trivial | rfl,HNX⟩,by simp [QA2];omega⟩
  ·obtain rfl:c = l:=by omega
   have hno2:¬ (c:Int) < (c:Int):=by omega
   obtain ⟨⟨z0,z1,z2,z3⟩,z4,z5,z6,z7⟩:=QDz HV4.out
   go_wp2_with (fail)
   refine bodyPost_ret (QG5 rfl _ ⟨w.heap.size+1,0,none⟩ rfl (run_loadVar_row _ _ _ _ (vaB noVa) _ _ (QCw (QCw (QCw (QCw HV4.out 0 _) 1 _) 2 _) 3 _) Tryz.underlying67 rfl (by kernel_rfl))) rfl ?_
   refine ⟨false,noVa,rfl,(fun h=>by cases h),fun _=>⟨rfl,fun y hy=>?_⟩,?_⟩
   ·obtain ⟨j,hj⟩:=List.mem_iff_getElem?.1 hy
    exact hno.out j (by have:=(List.getElem?_eq_some_iff.1 hj).1;have:=HLN.out;omega) y hj
   ·exact (((hb4.out.setCell (p:=⟨w.heap.size+1,0,none⟩) (Nat.le_succ _) _).setCell (p:=⟨w.heap.size+1,1,none⟩) (Nat.le_succ _) _).setCell (p:=⟨w.heap.size+1,2,none⟩) (Nat.le_succ _) _).setCell (p:=⟨w.heap.size+1,3,none⟩) (Nat.le_succ _) _
def QDF (l:List De) (nm:ByteArray):Int:=match l.findIdx? (fun d=>decide (d.name = nm)) with
 | some i=>(i:Int)
 | none=>-1
theorem QLG {l:List De} {nm:ByteArray} {c:Nat} {x:De} (hx:l[c]? = some x) (he:x.name = nm) (hno:∀ j,j < c→∀ y,l[j]? = some y→¬ y.name = nm):QDF l nm = (c:Int):=by
 have h:l.findIdx? (fun d=>decide (d.name = nm)) = some c:=by
  obtain ⟨hc,rfl⟩:=List.getElem?_eq_some_iff.1 hx
  rw [List.findIdx?_eq_some_iff_getElem]
  exact ⟨hc,by simpa using he,fun j hj=>by simpa using hno j hj _ (List.getElem?_eq_getElem (by omega))⟩
 unfold QDF
 rw [h]
theorem QI4 {l:List De} {nm:ByteArray} (hno:∀ y∈l,¬ y.name = nm):QDF l nm = -1:=by
 have h:l.findIdx? (fun d=>decide (d.name = nm)) = none:=by
  rw [List.findIdx?_eq_none_iff]
  exact fun y hy=>by simpa using hno y hy
 unfold QDF
 rw [h]
theorem QNu {l:List De} {nm:ByteArray} {c:Nat} {x:De} (h:∀ j,j < c→∀ y,l[j]? = some y→¬ y.name = nm) (hx:l[c]? = some x) (hne:¬ x.name = nm):∀ j,j < c+1→∀ y,l[j]? = some y→¬ y.name = nm:=fun j hj y hy=>by
 rcases Nat.lt_or_ge j c with h1 | h1
 ·exact h j h1 y hy
 ·obtain rfl:j = c:=by omega
  rw [hx] at hy;cases hy;exact hne
set_option maxRecDepth 100000 in
theorem QFL (sd se:Value) (p:Pr) (nm:ByteArray) (w:World) (h:ProgAt w sd se p) (hs:Small p) :
  Calls Tryz.prog 17 #[.agg #[sd,se],.string nm] w fun r Y=>r = .returned (.int .i64 (QDF p.decls nm))∧Below w.heap.size w Y:=by
 obtain ⟨⟨o1,dcap,db,doff,rfl,hd1,hd2,hd3,hd4⟩,⟨o2,cap,b,off,rfl,he1,he2,he3,he4⟩,h3,h4⟩:=h
 obtain ⟨n,hn⟩:∃ n,n = p.decls.length:=⟨_,rfl⟩
 obtain ⟨m,hm⟩:∃ m,m = p.exprs.length:=⟨_,rfl⟩
 rw [← hn] at hd1 hd3 hd4 h3 ⊢
 rw [← hm]
 have HN:=hid hn
 have hn2:(n:Int)≤60:=by have:=hs.decls;omega
 have D3:=hid hd3
 have D4:=hid hd4
 have hal:=hid (QA5 (Below.refl w.heap.size w) (.cells #[.slice o1 n dcap,.slice o2 m cap] 26))
 obtain ⟨W0,hW0⟩:∃ W0,W0 = w.alloc (.cells #[.slice o1 n dcap,.slice o2 m cap] 26):=⟨_,rfl⟩
 have hB0:Hid (W0.heap[w.heap.size]? = some (.cells #[.slice o1 n dcap,.slice o2 m cap] 26 (0,0))):=hid (by rw [hW0];exact QAR rfl)
 clear hn hm hd1 hd2 hd3 hd4 he1 he2 he3 he4 h3 h4
 go_enter Tryz.func17,Tryz.ntmps17
 go_wp2_with fail
 rw [← hW0] at hal ⊢
 clear hW0
 go_loopw [5] (fun i wr=>∃ c:Nat,i = .int .i64 (c:Int)∧c≤n∧wr = W0∧Hid (∀ j,j < c→∀ y,p.decls[j]? = some y→¬ y.name = nm)) (fun i _=>n - QA2 i)
 case atStart=>exact ⟨0,rfl,Nat.zero_le _,rfl,hid fun j hj=>by omega⟩
 case round =>
  obtain ⟨c,rfl,hc,rfl,hno⟩:=hrel
  obtain ⟨g1,g2⟩:=QAA hB0.out
  rcases Nat.lt_or_ge c n with hlt | hge
  ·have hl:(c:Int) < (n:Int):=by omega
   obtain ⟨x,hx⟩:∃ x,p.decls[c]? = some x:=⟨_,List.getElem?_eq_getElem (by have:=HN.out;omega)⟩
   obtain ⟨s,t,q0,q1,q2,q3,q4,q5,q6,qs,qt,qk⟩:=D4.out c hlt x hx
   have u1:=QA1 hal.out q1
   have ixc:=QCh (cap:=dcap) D3.out hlt (by omega)
   unfold Ix at ixc
   have HXC:=hid hx
   clear hx q0 q1 q2 q3 q4 q5 q6 qs qt qk
   by_cases he:x.name = nm
   ·have qe:(x.name.toList == nm.toList) = true:=by rw [he];simp
    have HE:=hid he
    clear he
    go_wp2_with (fail)
    go_ret
    exact ⟨by rw [QLG HXC.out HE.out hno.out];rfl,hal.out⟩
   ·have qe:(x.name.toList == nm.toList) = false:=beq_false_of_ne fun h=>he ((QFU _ _).1 h)
    have HNX:=hid (QNu hno.out HXC.out he)
    clear he
    go_wp2_with (fail)
    exact ⟨⟨c+1,by go_num,by omega,by first | exact trivial | rfl,HNX⟩,by simp [QA2];omega⟩
  ·obtain rfl:c = n:=by omega
   have hno2:¬ (c:Int) < (c:Int):=by omega
   go_wp2_with (fail)
   go_ret
   refine ⟨?_,hal.out⟩
   rw [QI4 (fun y hy=>by
    obtain ⟨j,hj⟩:=List.mem_iff_getElem?.1 hy
    exact hno.out j (by have:=(List.getElem?_eq_some_iff.1 hj).1;have:=HN.out;omega) y hj)]
   rfl
end
section
open Go.RowKit Lx Go.Shelf
end
end
section
open Go.RowKit Lx Go.Shelf Go.Maps
inductive Reach (p:Pr) (r:List Int):Nat→Prop
 | root {n:Nat}:(n:Int)∈r→Reach p r n
 | part {n m:Nat}:Reach p r n→m∈QAn p n→Reach p r m
def fre (e:Nat) (S:List Nat):Nat:=(List.range e).countP fun j=>!decide (j∈S)
theorem QIy (n:Nat) (S:List Nat) (hn:n ∉ S):∀ m,(n < m→fre m (S ++ [n])+1 = fre m S)∧(m≤n→fre m (S ++ [n]) = fre m S)
 | 0=>⟨fun h=>by omega,fun _=>rfl⟩
 | m+1=>by
  obtain ⟨h1,h2⟩:=QIy n S hn m
  unfold fre at h1 h2 ⊢
  rw [List.range_succ,List.countP_append,List.countP_append,List.countP_singleton,List.countP_singleton]
  refine ⟨fun h=>?_,fun h=>?_⟩
  ·by_cases hm:n = m
   ·subst hm
    rw [h2 (Nat.le_refl _),if_neg (by simp),if_pos (by simpa using hn)]
   ·have:=h1 (by omega)
    have hiff:(m∈S ++ [n])↔m∈S:=by simp [Ne.symm hm]
    simp only [hiff];omega
  ·have:=h2 (by omega)
   have hiff:(m∈S ++ [n])↔m∈S:=by simp;omega
   simp only [hiff];omega
theorem QLV (e:Nat):fre e [] = e:=by
 unfold fre
 rw [List.countP_eq_length.2 (by simp),List.length_range]
theorem QLW {e n:Nat} {S:List Nat} (hn:n ∉ S) (he:n < e):fre e (S ++ [n])+1 = fre e S:=(QIy n S hn e).1 he
def Marks (X:World) (b ne:Nat) (t:Int) (S:List Nat):Prop:=∃ cs:Array Value,X.heap[b]? = some (.cells cs 3 (0,0))∧cs.size = ne∧∀ j,j < ne→∃ a:Int,cs[j]? = some (.int .i64 a)∧a≤t∧(a = t↔j∈S)
def MarksLe (X:World) (b ne:Nat) (t:Int):Prop:=∃ cs:Array Value,X.heap[b]? = some (.cells cs 3 (0,0))∧cs.size = ne∧∀ j,j < ne→∃ a:Int,cs[j]? = some (.int .i64 a)∧a≤t
theorem MarksLe.start {X:World} {b ne:Nat} {t:Int} (h:MarksLe X b ne t):Marks X b ne (t+1) []:=by
 obtain ⟨cs,h1,h2,h3⟩:=h
 refine ⟨cs,h1,h2,fun j hj=>?_⟩
 obtain ⟨a,e1,e2⟩:=h3 j hj
 exact ⟨a,e1,by omega,by simp;omega⟩
theorem Marks.le {X:World} {b ne:Nat} {t:Int} {S:List Nat} (h:Marks X b ne t S):MarksLe X b ne t:=by
 obtain ⟨cs,h1,h2,h3⟩:=h
 exact ⟨cs,h1,h2,fun j hj=>by obtain ⟨a,e1,e2,_⟩:=h3 j hj;exact ⟨a,e1,e2⟩⟩
theorem Marks.same {X Y:World} {b ne:Nat} {t:Int} {S:List Nat} (h:Marks X b ne t S) (he:Y.heap[b]? = X.heap[b]?):Marks Y b ne t S:=by
 obtain ⟨cs,h1,h2⟩:=h
 exact ⟨cs,he.trans h1,h2⟩
theorem MarksLe.same {X Y:World} {b ne:Nat} {t:Int} (h:MarksLe X b ne t) (he:Y.heap[b]? = X.heap[b]?):MarksLe Y b ne t:=by
 obtain ⟨cs,h1,h2⟩:=h
 exact ⟨cs,he.trans h1,h2⟩
theorem Marks.at {X:World} {b ne:Nat} {t:Int} {S:List Nat} (h:Marks X b ne t S) {z:Nat} (hz:z < ne):∃ a:Int,X.cell? ⟨b,z,none⟩ = some (.int .i64 a)∧(a = t↔z∈S):=by
 obtain ⟨cs,h1,h2,h3⟩:=h
 obtain ⟨a,e1,_,e2⟩:=h3 z hz
 exact ⟨a,by simp [World.cell?,h1,e1],e2⟩
theorem Marks.froz {X:World} {b ne:Nat} {t:Int} {S:List Nat} (h:Marks X b ne t S) (j:Nat):X.frozen? ⟨b,j,none⟩ = false:=by
 obtain ⟨cs,h1,_⟩:=h
 simp [World.frozen?,h1]
theorem Marks.mark {X:World} {b ne:Nat} {t:Int} {S:List Nat} (h:Marks X b ne t S) {z:Nat}:Marks (X.setCell ⟨b,z,none⟩ (.int .i64 t)) b ne t (S ++ [z]):=by
 obtain ⟨cs,h1,h2,h3⟩:=h
 refine ⟨_,set_heap h1 z _,by simp [h2],fun j hj=>?_⟩
 rw [Array.getElem?_setIfInBounds]
 by_cases hji:z = j
 ·subst hji;rw [if_pos rfl,if_pos (by omega)];exact ⟨t,rfl,Int.le_refl _,by simp⟩
 ·rw [if_neg hji]
  obtain ⟨a,e1,e2,e3⟩:=h3 j hj
  exact ⟨a,e1,e2,by simp [e3,Ne.symm hji]⟩
def isMk (t:Int):Value→Bool
 | .int _ a=>a == t
 | _=>false
def QGe (b:Nat) (t:Int) (X:World):Nat:=match X.heap[b]? with
 | some (.cells cs _ _)=>cs.toList.countP fun v=>!isMk t v
 | _=>0
def lenS:Value→Nat
 | .slice _ n _=>n
 | _=>0
theorem Marks.open {X:World} {b ne:Nat} {t:Int} {S:List Nat} (h:Marks X b ne t S):QGe b t X = fre ne S:=by
 obtain ⟨cs,h1,h2,h3⟩:=h
 unfold QGe fre
 rw [h1]
 have e:(cs.toList.map fun v=>!isMk t v) = (List.range ne).map fun j=>!decide (j∈S):=by
  apply List.ext_getElem?
  intro j
  rw [List.getElem?_map,List.getElem?_map,Array.getElem?_toList]
  by_cases hj:j < ne
  ·obtain ⟨a,e1,_,e2⟩:=h3 j hj
   rw [e1,List.getElem?_range hj]
   show some (!(a == t)) = some (!decide (j∈S))
   by_cases ha:a = t
   ·simp [ha,e2.1 ha]
   ·rw [beq_false_of_ne ha,decide_eq_false (fun hm=>ha (e2.2 hm))]
  ·rw [Array.getElem?_eq_none (by omega),List.getElem?_eq_none (by simp;omega)];rfl
 have e2:=congrArg (List.countP id) e
 rw [List.countP_map,List.countP_map] at e2
 exact e2
structure WkMem (M:Nat→Prop) (rw:World→Option Nat) (w:World) (n1 b ne:Nat) (t:Int) (base:Nat) (S L:List Nat) (v:Value) (X:World):Prop where
 kept:Kept (fun k=>M k∨k = b) rw w X
 marks:Marks X b ne t S
 mrow:rw X≠some b
 left:X.ownsRow base 3 1 v L.length (L.map QNs)
 n1b:n1≤base
 bx:base≤X.heap.size
 lrow:∀ g,v.ownBlock = some g→rw X≠some g
 rlt:∀ k,rw X = some k→k < X.heap.size
 old:∀ k,M k→k < n1
namespace WkMem
variable {M:Nat→Prop} {rw:World→Option Nat} {w:World} {n1 b ne:Nat} {t:Int} {base:Nat} {S L:List Nat} {v:Value} {X Y:World}
theorem keep (h:WkMem M rw w n1 b ne t base S L v X) (hb:b < w.heap.size) (hM:¬ M b) (hk:KeepX M rw w.heap.size n1 X Y):WkMem M rw w n1 b ne t base S L v Y:=by
 obtain ⟨cs,hcs,_⟩:=h.marks
 have hbx:=(Array.getElem?_eq_some_iff.1 hcs).1
 refine ⟨h.kept.keepx (n1:=n1) ⟨hk.1,fun k h1 h2 h3 h4=>hk.2.1 k h1 (fun hm=>h2 (.inl hm)) h3 h4,hk.2.2⟩,h.marks.same (hk.2.1 b hbx hM h.mrow (.inl hb)),fun e=>?_,QD8 h.left fun g hg=>?_,h.n1b,Nat.le_trans h.bx hk.1,fun g h1 h2=>?_,fun k h1=>?_,h.old⟩
 ·rcases hk.2.2 b e with e2 | e2
  ·exact h.mrow e2
  ·omega
 ·obtain ⟨h1,cur,h2⟩:=QBT h.left hg
  have:=h.n1b
  exact hk.2.1 g (Array.getElem?_eq_some_iff.1 h2).1 (fun hm=>by have:=h.old g hm;omega) (h.lrow g hg) (.inr (by omega))
 ·obtain ⟨_,cur,h4⟩:=QBT h.left h1
  have hlt:=(Array.getElem?_eq_some_iff.1 h4).1
  rcases hk.2.2 g h2 with h3 | h3
  ·exact h.lrow g h1 h3
  ·omega
 ·rcases hk.2.2 k h1 with h2 | h2
  ·exact Nat.lt_of_lt_of_le (h.rlt k h2) hk.1
  ·exact h2.2
theorem below (h:WkMem M rw w n1 b ne t base S L v X) (hR:∀ X Y:World,(∀ k,k < w.heap.size→k≠b→Y.heap[k]? = X.heap[k]?)→rw Y = rw X) (hB:Below X.heap.size X Y):WkMem M rw w n1 b ne t base S L v Y:=by
 have hs:=h.kept.1
 have hr:rw Y = rw X:=hR X Y fun k hk _=>hB.block k (by omega)
 obtain ⟨cs,hcs,_⟩:=h.marks
 have hbx:=(Array.getElem?_eq_some_iff.1 hcs).1
 refine ⟨⟨Nat.le_trans hs hB.size,fun k hk=>h.kept.2.1 k (hr ▸ hk),fun k hk=>(hB.block k (Nat.lt_of_lt_of_le hk.1 hs)).trans (h.kept.2.2 k hk)⟩,h.marks.same (hB.block b hbx),fun e=>h.mrow (hr ▸ e),QD8 h.left fun g hg=>?_,h.n1b,Nat.le_trans h.bx hB.size,fun g h1 h2=>h.lrow g h1 (hr ▸ h2),fun k hk=>Nat.lt_of_lt_of_le (h.rlt k (hr ▸ hk)) hB.size,h.old⟩
 obtain ⟨_,cur,h2⟩:=QBT h.left hg
 exact hB.block g (Array.getElem?_eq_some_iff.1 h2).1
theorem slice (h:WkMem M rw w n1 b ne t base S L v X):∃ o cap,v = .slice o L.length cap:=by
 rcases h.left.2 with ⟨h1,h2⟩ | ⟨g,cap,cur,h1,_⟩
 ·exact ⟨none,0,by rw [h1,h2]⟩
 ·exact ⟨_,_,h1⟩
theorem top {n:Nat} (h:WkMem M rw w n1 b ne t base S (L ++ [n]) v X):∃ g cap,v = .slice (some ⟨g,0,none⟩) (L.length+1) cap∧L.length+1≤cap∧cap≤maxLen∧X.cell? ⟨g,L.length,none⟩ = some (.int .i64 (n:Int)) ∧
  WkMem M rw w n1 b ne t base S L (.slice (some ⟨g,0,none⟩) L.length cap) X:=by
 have hl:=h.left
 rw [List.length_append,List.length_singleton,List.map_append] at hl
 rcases hl.2 with ⟨_,h0⟩ | ⟨g,cap,cur,rfl,hb,hgb,hnc,hcm,hcs,htk⟩
 ·omega
 ·rw [Nat.mul_one] at hcs htk
  refine ⟨g,cap,rfl,hnc,hcm,?_,h.kept,h.marks,h.mrow,⟨by simp,.inr ⟨g,cap,cur,rfl,hb,hgb,by omega,hcm,by omega,?_⟩⟩,h.n1b,h.bx,fun g' h1=>h.lrow g' h1,h.rlt,h.old⟩
  ·have h1:(cur.toList.take (L.length+1))[L.length]? = some (QNs n):=by
    rw [htk,List.getElem?_append_right (by simp)];simp
   rw [List.getElem?_take_of_lt (by omega),Array.getElem?_toList] at h1
   simp [World.cell?,hgb,h1,QNs]
  ·have h1:=congrArg (List.take L.length) htk
   rw [List.take_take,Nat.min_eq_left (by omega)] at h1
   rw [Nat.mul_one,h1,List.take_append_of_le_length (by simp),List.take_of_length_le (by simp)]
theorem mark (h:WkMem M rw w n1 b ne t base S L v X) (hb:b < w.heap.size) (hw:w.heap.size≤n1) (hR:∀ X Y:World,(∀ k,k < w.heap.size→k≠b→Y.heap[k]? = X.heap[k]?)→rw Y = rw X) {n:Nat}:WkMem M rw w n1 b ne t base (S ++ [n]) L v (X.setCell ⟨b,n,none⟩ (.int .i64 t)):=by
 have hs:X.heap.size≤(X.setCell ⟨b,n,none⟩ (.int .i64 t)).heap.size:=((Below.refl 0 X).setCell (p:=⟨b,n,none⟩) (Nat.zero_le _) _).size
 have hbk:∀ k,k≠b→(X.setCell ⟨b,n,none⟩ (.int .i64 t)).heap[k]? = X.heap[k]?:=fun k hk=>QBA X b k n _ hk
 have hr:rw (X.setCell ⟨b,n,none⟩ (.int .i64 t)) = rw X:=hR X _ fun k _ hk=>hbk k hk
 refine ⟨⟨Nat.le_trans h.kept.1 hs,fun k hk=>h.kept.2.1 k (hr ▸ hk),fun k hk=>(hbk k (fun e=>hk.2.1 (.inr e))).trans (h.kept.2.2 k hk)⟩,h.marks.mark,fun e=>h.mrow (hr ▸ e),QD8 h.left fun g hg=>?_,h.n1b,Nat.le_trans h.bx hs,fun g h1 h2=>h.lrow g h1 (hr ▸ h2),fun k hk=>Nat.lt_of_lt_of_le (h.rlt k (hr ▸ hk)) hs,h.old⟩
 have h1:=(QBT h.left hg).1
 have h2:=h.n1b
 exact hbk g (by omega)
theorem push (h:WkMem M rw w n1 b ne t base S L v X) (hb:b < w.heap.size) (hw:w.heap.size≤n1) (hR:∀ X Y:World,(∀ k,k < w.heap.size→k≠b→Y.heap[k]? = X.heap[k]?)→rw Y = rw X) {v' : Value} {ps:List Nat} (hown:Y.ownsRow base 3 1 v' (L.length+ps.length) (L.map QNs ++ ps.map QNs)) (hg:X.grownBy Y v.ownBlock) (ha:v'.ownBlock = v.ownBlock∨v'.ownBlock = some X.heap.size):WkMem M rw w n1 b ne t base S (L ++ ps) v' Y:=by
 have hvb:∀ g,v.ownBlock = some g→base≤g:=fun g hg=>(QBT h.left hg).1
 have h2:=h.n1b
 have hlow:∀ k,k < w.heap.size→v.ownBlock≠some k:=fun k hk e=>by have:=hvb k e;omega
 have hr:rw Y = rw X:=hR X Y fun k hk _=>hg.block k (Nat.lt_of_lt_of_le hk h.kept.1) (Ne.symm (hlow k hk))
 obtain ⟨cs,hcs,_⟩:=h.marks
 have hbx:=(Array.getElem?_eq_some_iff.1 hcs).1
 refine ⟨⟨Nat.le_trans h.kept.1 hg.size,fun k hk=>h.kept.2.1 k (hr ▸ hk),fun k hk=>(hg.block k (Nat.lt_of_lt_of_le hk.1 h.kept.1) (Ne.symm (hlow k hk.1))).trans (h.kept.2.2 k hk)⟩,h.marks.same (hg.block b hbx (Ne.symm (hlow b hb))),fun e=>h.mrow (hr ▸ e),by rw [List.length_append,List.map_append];exact hown,h.n1b,Nat.le_trans h.bx hg.size,fun g h1 h3=>?_,fun k hk=>Nat.lt_of_lt_of_le (h.rlt k (hr ▸ hk)) hg.size,h.old⟩
 rw [hr] at h3
 rcases ha with e | e
 ·exact h.lrow g (e ▸ h1) h3
 ·rw [e] at h1
  cases h1
  have:=h.rlt _ h3
  omega
end WkMem
theorem QN1 {w:World} {base base2 n m:Nat} {v y:Value} {xs news:List Value} (hown:w.ownsRow base 3 1 v n xs) (hy:w.ownsRow base2 3 1 y m news) (h1:∀ u∈news,u.oneCell' = true) (hn:n≤10000000) (hm:m≤10000) (hb:base≤w.heap.size) :
  ∃ v' w',(Builtin.append_ #[52,52] 52 #[v,y]).run Tryz.prog w = .ok v' w'∧w'.ownsRow base 3 1 v' (n+m) (xs ++ news)∧w.grownBy w' v.ownBlock∧(v'.ownBlock = v.ownBlock∨v'.ownBlock = some w.heap.size):=by
 obtain ⟨i,h2,h3,h4,h5⟩:=info_parts (show (Tryz.prog.info? 3).map (fun i=>(i.zero,i.size,i.bytes)) = some (some (.int .i64 0),1,8) by kernel_rfl)
 rcases hy.2 with ⟨rfl,rfl⟩ | ⟨g,cap,cur,rfl,hg⟩
 ·have hnil:news = []:=List.eq_nil_of_length_eq_zero (by simpa using hy.1)
  subst hnil
  refine ⟨v,w,?_,by simpa using hown,⟨rfl,rfl,rfl,Nat.le_refl _,fun _ _ _=>rfl⟩,.inl rfl⟩
  rcases hown.2 with ⟨rfl,rfl⟩ | ⟨g,cap,cur,rfl,hbg,hg,hnc,hcm,hcs,htake⟩
  ·simp [Builtin.append_,run_underlying Tryz.underlying52,sizeOf,typeInfo,h2,Builtin.lenOf,Builtin.firstCells]
  ·simp [Builtin.append_,run_underlying Tryz.underlying52,sizeOf,typeInfo,h2,Builtin.lenOf,Builtin.firstCells,loadCells,storeCells,hnc]
 ·obtain ⟨v',w',r1,r2,r3,_,r5⟩:=run_append_own_at (P:=Tryz.prog) w base 52 52 3 i _ 1 8 Tryz.underlying52 h2 h3 h4 h5 rfl (by decide) v n xs hown ⟨g,0,none⟩ m cap news (by rw [hy.1]) (hy.cells (g:=g) rfl) h1 (by unfold maxLen;omega) (by omega) hb
  exact ⟨v',w',r1,r2,r3,r5⟩
end
section
open Go.Lib (hid)
open Go.RowKit Lx Go.Shelf Go.Maps
attribute [local go_sem] Oper.semAt_some
theorem QGt {F:Fence} {nF:Nat} {P:Program} {w w' : World} {ops:Array Oper} {QBd:List Oper} {o:Oper} {a:Act} {Q:Exit→Act→World→Prop} (hgd:o.guard = none) (s x:Operand) (t:TypeId)
  (ho:o.op = .call { callee:=.builtin .append,args:=#[s,x],argTypes:=#[t,t] }) {v y v' : Value} (hs:a.eval s = v) (hx:a.eval x = y) (hr:(Builtin.append_ #[t,t] o.type #[v,y]).run P w = .ok v' w')
  (h:wpListIn F nF P ops Q QBd (a.put o.dst v') w'):wpListIn F nF P ops Q (o :: QBd) a w:=by
 refine wpListIn_plain hgd fun K hK=>?_
 unfold Oper.wpIn
 refine ⟨by simp [Oper.about,ho,resolve,Target.leads,Sem.run_pure],?_⟩
 rw [Oper.semAt_plain F _ _ (by rw [ho];intro c hc';cases hc')]
 simp [execOp,ho,resolve,invoke,builtin,hs,hx,hr,Result.andThen]
 exact hK _ _ h
theorem QH6 (d:De) (B:Nat) (w0 w:World) (s t:Value) (hs:Hid (SlAt s d.params.length 2 (fun b o i=>∀ y,d.params[i]? = some y→PaAt w0 b o y))) (ht:Hid (SlAt t d.items.length 9 (fun b o i=>∀ y,d.items[i]? = some y→ItAt w0 b o y))) (hb:Hid (Below w0.heap.size w0 w))
  (hB:Hid (w.heap[B]? = some (.cells #[.int .i64 d.kind,.string d.name,s,t,.int .i64 d.type,.int .i64 d.e,.int .i64 d.pos] 36 (0,0)))) (hl:Hid (d.params.length≤600∧d.items.length≤600)) :
  Calls Tryz.prog 63 #[.func (.func 89) #[] #[.pointer (some ⟨B,0,none⟩)]] w fun e w'=>∃ v,e = .returned v∧w'.ownsRow w.heap.size 3 1 v (QAC d).length ((QAC d).map QGv)∧Below w.heap.size w w':=by
 have C:=hid (callsIn_wide.1 (QH3 d B w0 w s t hs ht hb hB hl))
 go_enter Tryz.func63,Tryz.ntmps63
 go_wp2_with (go_at_call 88;((with_reducible refine C.out.mono ?_);rintro e w1 ⟨v',rfl,hown,hg⟩;have H1:=hid hown;have H2:=hid hg;clear hown hg))
 go_ret
 exact ⟨v',rfl,H1.out,H2.out⟩
def noEx:Ex:=⟨0,0,0,0,⟨#[]⟩,⟨#[]⟩,0,[],0⟩
def exQ (p:Pr) (k:Nat):Ex:=p.exprs[k]?.getD noEx
def WkA (p:Pr) (w0:World):Type:={q:Nat × Value // ∃ x,p.exprs[q.1]? = some x∧IntsAt w0 q.2 x.args∧ExOk x}
def WkA.num {p:Pr} {w0:World} (q:WkA p w0):Nat:=q.1.1
def wkE (p:Pr) (w0:World) (q:WkA p w0):Array Value:=#[.agg (QA4 (exQ p q.1.1) q.1.2)]
structure WkJ (M:Nat→Prop) (rw:World→Option Nat) (w w0:World) (n1 b ne:Nat) (t:Int) (base:Nat) (p:Pr) (d:De) (J:List (WkA p w0)→World→Prop) (L:List Nat) (pre:List (WkA p w0)) (v:Value) (X:World):Prop where
 mem:WkMem M rw w n1 b ne t base (pre.map WkA.num) L v X
 j:J pre X
 roots:∀ r:Nat,(r:Int)∈QAC d→r∈pre.map WkA.num∨r∈L
 parts:∀ s∈pre.map WkA.num,∀ z∈QAn p s,z∈pre.map WkA.num∨z∈L
 reachL:∀ z∈L,Reach p (QAC d) z
 reachS:∀ z∈pre.map WkA.num,Reach p (QAC d) z
 lt:∀ z∈L,z < ne
 cnt:pre.length+fre ne (pre.map WkA.num) = ne
 len:L.length+1000*fre ne (pre.map WkA.num)≤1201+1000*ne
theorem WkJ.on {M:Nat→Prop} {rw:World→Option Nat} {w w0:World} {n1 b ne:Nat} {t:Int} {base:Nat} {p:Pr} {d:De} {J:List (WkA p w0)→World→Prop} {L:List Nat} {pre:List (WkA p w0)} {v:Value} {X Y:World} (h:WkJ M rw w w0 n1 b ne t base p d J L pre v X)
  {E:Nat→Prop} {B:Nat} (hJ:AbidesE rw E B J) (hR:∀ X Y:World,(∀ k,k < w.heap.size→k≠b→Y.heap[k]? = X.heap[k]?)→rw Y = rw X) (hB:Below X.heap.size X Y):WkJ M rw w w0 n1 b ne t base p d J L pre v Y :=
 ⟨h.mem.below hR hB,hJ.below hB h.j,h.roots,h.parts,h.reachL,h.reachS,h.lt,h.cnt,h.len⟩
theorem QMY {l:List Int} {ne:Nat} (h:∀ r∈l,∃ z:Nat,r = (z:Int)∧z < ne):l.map QGv = (l.map Int.toNat).map QNs:=by
 rw [List.map_map]
 apply List.map_congr_left
 intro r hr
 obtain ⟨z,rfl,_⟩:=h r hr
 rfl
theorem QMH {p:Pr} (hs:Small p) (k:Nat):(QAn p k).length≤1000:=by
 unfold QAn
 split
 ·rename_i x hx
  rw [List.length_map]
  exact QBz hs hx
 ·simp
set_option maxHeartbeats 16000000 in
set_option maxRecDepth 100000 in
theorem QIj (n:Nat) (p:Pr) (d:De) (di:Nat) (o1 o2:Option Addr) (nd c1 db doff ne c2 xb xoff B Dn Mb b:Nat) (hne:Hid (p.exprs.length = ne)) (nel:(ne:Int)≤300) (ndl:(nd:Int)≤60) (hdi:Hid (p.decls[di]? = some d)) (dil:di < nd)
  (w0:World) (M:Nat→Prop) (rw:World→Option Nat) (w:World) (hBa:Hid (Base w0 M rw w)) (hM:Hid (∀ k,M k→k < w.heap.size)) (hMb:Hid (¬ M b)) (hrl:Hid (∀ k,rw w = some k→k < w.heap.size)) (hrb:Hid (rw w≠some b)) (hR:Hid (∀ X Y:World,(∀ k,k < w.heap.size→k≠b→Y.heap[k]? = X.heap[k]?)→rw Y = rw X))
  (hS:Hid ((QAc M rw w B∧B≠b)∧(QAc M rw w Dn∧Dn≠b)∧(QAc M rw w Mb∧Mb≠b))) (hb:Hid (b < w.heap.size∧w0.heap.size≤b)) (hBc:Hid (w.heap[B]? = some (.cells #[.slice o1 nd c1,.slice o2 ne c2] 26 (0,0)))) (hDc:Hid (w.heap[Dn]? = some (.cells #[.int .i64 (di:Int)] 3 (0,0)))) (hMc:Hid (w.heap[Mb]? = some (.cells #[.slice (some ⟨b,0,none⟩) ne ne] 52 (0,0))))
  (hmk:Hid (MarksLe w b ne (di:Int))) (hd:Hid (0 < nd→o1 = some ⟨db,doff,none⟩)) (hdc:Hid (∀ i,i < nd→∀ x,p.decls[i]? = some x→DeAt w0 db (doff+i*7) x)) (hx:Hid (0 < ne→o2 = some ⟨xb,xoff,none⟩)) (hxc:Hid (∀ i,i < ne→∀ x,p.exprs[i]? = some x→ExAt w0 xb (xoff+i*9) x))
  (hsm:Hid (Small p)) (hmay:Hid (QFE p = true)) (hro:Hid (∀ r∈QAC d,∃ z:Nat,r = (z:Int)∧z < ne)) (hdl:Hid (d.params.length≤600∧d.items.length≤600)) (lp:Nat) (J Jx:List (WkA p w0)→World→Prop)
  (W:World) (hW:Hid (Below w.heap.size w W)) (hJ:Hid (AbidesE rw (fun k=>k = b) W.heap.size J))
  (hY:Hid (∀ pre (q:WkA p w0) X,J pre X→pre.length < ne→YieldAt Fence.wide (n - 1) Tryz.prog lp (wkE p w0 q) X fun r Y =>
   (r = .returned (.bool true)∧J (pre ++ [q]) Y∧KeepX M rw w.heap.size W.heap.size X Y)∨(r = .returned (.bool false)∧Jx (pre ++ [q]) Y)))
  (h0:Hid (J [] W)) :
  CallsIn Fence.wide n Tryz.prog 62 #[.func (.yield lp) #[] #[],.pointer (some ⟨B,0,none⟩),.pointer (some ⟨Dn,0,none⟩),.pointer (some ⟨Mb,0,none⟩)] W fun r Y=>(∃ v,r = .returned v) ∧
   ((∃ ys:List (WkA p w0),((∀ k,k∈ys.map WkA.num↔Reach p (QAC d) k)∧MarksLe Y b ne ((di:Int)+1))∧J ys Y)∨(∃ pre:List (WkA p w0),(∀ q∈pre,Reach p (QAC d) q.num)∧Jx pre Y)):=by
 have c0:=(QAA ((hW.out.block _ hS.out.1.1.1).trans hBc.out)).1
 have c2':=(QEI ((hW.out.block _ hS.out.2.1.1.1).trans hDc.out)).1
 have ix:=QCh (cap:=c1) hd.out dil (by omega)
 unfold Ix at ix
 obtain ⟨s,t,e0,e1,e2,e3,e4,e5,e6,hps,hts,hok⟩:=hdc.out di dil d hdi.out
 have HPS:=hid hps
 have HTS:=hid hts
 obtain ⟨op,capp,bp,fp,rfl,_⟩:=hps
 obtain ⟨oi,capi,bi,fi,rfl,_⟩:=hts
 have hw0:Old w0 W:=⟨Nat.le_trans hBa.out.lies.1 hW.out.size,fun k hk=>(hW.out.block k (Nat.lt_of_lt_of_le hk hBa.out.lies.1)).trans (hBa.out.lies.2 k hk)⟩
 have p0:=hw0.cell e0
 have p1:=hw0.cell e1
 have p2:=hw0.cell e2
 have p3:=hw0.cell e3
 have p4:=hw0.cell e4
 have p5:=hw0.cell e5
 have p6:=hw0.cell e6
 have CR:Hid (Calls Tryz.prog 63 #[.func (.func 89) #[] #[.pointer (some ⟨W.heap.size,0,none⟩)]] (W.alloc (.cells #[.int .i64 d.kind,.string d.name,.slice op d.params.length capp,.slice oi d.items.length capi,.int .i64 d.type,.int .i64 d.e,.int .i64 d.pos] 36)) fun e w'=>∃ v,e = .returned v∧w'.ownsRow (W.heap.size+1) 3 1 v (QAC d).length ((QAC d).map QGv)∧Below (W.heap.size+1) (W.alloc (.cells #[.int .i64 d.kind,.string d.name,.slice op d.params.length capp,.slice oi d.items.length capi,.int .i64 d.type,.int .i64 d.e,.int .i64 d.pos] 36)) w'):=hid (by
  have h:=QH6 d W.heap.size (QKC (W.alloc (.cells #[.int .i64 d.kind,.string d.name,.slice op d.params.length capp,.slice oi d.items.length capi,.int .i64 d.type,.int .i64 d.e,.int .i64 d.pos] 36)) w0) (W.alloc (.cells #[.int .i64 d.kind,.string d.name,.slice op d.params.length capp,.slice oi d.items.length capi,.int .i64 d.type,.int .i64 d.e,.int .i64 d.pos] 36)) _ _ (hid HPS.out) (hid HTS.out) (hid (Old.base (hw0.trans (QA5 (Below.refl _ _) _)))) (hid (World.alloc_heap_new W _)) hdl
  rw [World.size_alloc] at h
  exact h)
 clear e0 e1 e2 e3 e4 e5 e6 hok hw0
 refine callsIn_of_wp Tryz.func62 rfl trivial ?_ rfl
 simp only [Tryz.ntmps62,List.size_toArray,List.length_cons,List.length_nil,Nat.reduceAdd,Nat.reduceSub,Array.replicate_succ,Array.replicate_zero,List.push_toArray,List.append_toArray,List.nil_append,List.cons_append]
 gi_wp2_with (refine ⟨trivial,fun h=>(by cases h),?_⟩;first
  | ((with_reducible refine (callsIn_wide.2 (QMX _ _ _ _ _ _ _ _ ⟨_,_,_,_,_,_,_,_,_,_,_,rfl,rfl,rfl,rfl,rfl,rfl,rfl⟩)).mono ?_);rintro r w2 ⟨rfl,rfl⟩)
  | ((with_reducible refine (callsIn_wide.2 CR.out).mono ?_);rintro r w3 ⟨v,rfl,hown,hb3⟩;have HOWN:=hid hown;have HB3:=hid hb3;clear hown hb3))
 have hw3:Below w.heap.size w w3:=hW.out.trans ((QA5 (Below.refl W.heap.size W) (.cells #[.int .i64 d.kind,.string d.name,.slice op d.params.length capp,.slice oi d.items.length capi,.int .i64 d.type,.int .i64 d.e,.int .i64 d.pos] 36)).trans (HB3.out.mono (by simp)) |>.mono hW.out.size)
 have hbW3:Below W.heap.size W w3:=(QA5 (Below.refl W.heap.size W) _).trans (HB3.out.mono (by simp))
 have hNr:Near (fun k=>M k∨k = b) rw w:=⟨fun k hk=>hk.elim (hM.out k) (fun e=>e ▸ hb.out.1),hrl.out,fun X Y h=>hR.out X Y fun k hk _=>h k hk⟩
 have hr3:rw w3 = rw w:=hR.out w w3 fun k hk _=>hw3.block k hk
 have ROOTS:=hid (QMY hro.out)
 obtain ⟨rs,hrs⟩:∃ rs,rs = (QAC d).map Int.toNat:=⟨_,rfl⟩
 rw [← hrs] at ROOTS
 have hrl2:rs.length = (QAC d).length:=by rw [hrs,List.length_map]
 have WK0:Hid (WkJ M rw w w0 W.heap.size b ne ((di:Int)+1) (W.heap.size+1) p d J rs [] v w3):=hid ⟨⟨Kept.start hNr hw3,(hmk.out.same (hw3.block b hb.out.1)).start,hr3 ▸ hrb.out,by rw [hrl2,← ROOTS.out];exact HOWN.out,Nat.le_succ _,by have:=HB3.out.size;simp at this;omega,fun g hg e=>by
   have h1:=(QBT HOWN.out hg).1
   rw [hr3] at e
   have:=hrl.out g e
   have:=hW.out.size
   omega,fun k hk=>by rw [hr3] at hk;exact Nat.lt_of_lt_of_le (hrl.out k hk) hw3.size,fun k hk=>Nat.lt_of_lt_of_le (hM.out k hk) hW.out.size⟩,hJ.out.below hbW3 h0.out,fun r hr=>.inr (by rw [hrs];exact List.mem_map.2 ⟨r,hr,by simp⟩),fun s hs=>by simp at hs,fun z hz=>by
   rw [hrs] at hz
   obtain ⟨r,h1,rfl⟩:=List.mem_map.1 hz
   obtain ⟨z,rfl,_⟩:=hro.out r h1
   exact .root (by simpa using h1),fun z hz=>by simp at hz,fun z hz=>by
   rw [hrs] at hz
   obtain ⟨r,h1,rfl⟩:=List.mem_map.1 hz
   obtain ⟨z,rfl,h2⟩:=hro.out r h1
   simpa using h2,by simp [QLV],by
   rw [hrl2]
   have:=QEC d
   have:=hdl.out
   have:fre ne (List.map WkA.num ([]:List (WkA p w0))) = ne:=QLV ne
   omega⟩
 obtain ⟨o',cap',rfl⟩:=WK0.out.mem.slice
 have HBW3:=hid hbW3
 clear hw3 hbW3 hNr hr3 hrl2 hrs ix p0 p1 p2 p3 p4 p5 p6 c0 c2' CR HOWN HB3 HPS HTS
 gi_loopw [5] (fun v wr=>∃ (L:List Nat) (pre:List (WkA p w0)) (o:Option Addr) (k cap:Nat),v = .slice o k cap∧Hid (k = L.length)∧Hid (WkJ M rw w w0 W.heap.size b ne ((di:Int)+1) (W.heap.size+1) p d J L pre (.slice o k cap) wr)) (fun v wr=>QGe b ((di:Int)+1) wr*1001+lenS v)
 case atStart=>exact ⟨rs,[],o',rs.length,cap',rfl,hid rfl,WK0⟩
 case round =>
  clear WK0 HBW3
  obtain ⟨L,pre,o,k,cap,rfl,hk,hj⟩:=hrel
  rcases List.eq_nil_or_concat L with rfl | ⟨L',z,rfl⟩
  ·obtain rfl:k = 0:=hk.out
   gi_wp2
   go_end0
   refine ⟨⟨_,rfl⟩,.inl ⟨pre,⟨fun z=>⟨hj.out.reachS z,fun hz=>?_⟩,hj.out.mem.marks.le⟩,hj.out.j⟩⟩
   induction hz with
   | root h=>exact (hj.out.roots _ h).resolve_right (by simp)
   | part _ h ih=>exact (hj.out.parts _ ih _ h).resolve_right (by simp)
  ·rw [List.concat_eq_append] at hk hj
   obtain ⟨g,cap2,hv,hkc,hcm,y1,hmem⟩:=hj.out.mem.top
   obtain ⟨kk,hkk⟩:∃ kk,kk = L'.length:=⟨_,rfl⟩
   rw [← hkk] at hv hkc y1 hmem
   cases hv
   have hz:z < ne:=hj.out.lt z (by simp)
   obtain ⟨a,y2,hiff⟩:=hmem.marks.at hz
   have y3:=hmem.marks.froz z
   have hkl:(kk:Int)≤400000:=by
    have hlen:=hj.out.len
    simp only [List.length_append,List.length_singleton] at hlen;omega
   have q0:(0:Int) < (kk:Int)+1:=by omega
   have hMc2:=(hmem.kept.2.2 Mb ⟨hS.out.2.2.1.1,fun h=>h.elim hS.out.2.2.1.2.1 hS.out.2.2.2,hS.out.2.2.1.2.2⟩).trans hMc.out
   have m0:=(QEI hMc2).1
   have hDc2:=(hmem.kept.2.2 Dn ⟨hS.out.2.1.1.1,fun h=>h.elim hS.out.2.1.1.2.1 hS.out.2.1.2,hS.out.2.1.1.2.2⟩).trans hDc.out
   have d0:=(QEI hDc2).1
   have HM:=hid hmem
   have HJ:=hj
   have HK:=hid hkk
   have HC:=hid hcm
   have izr:=QGY (o:=some ⟨b,0,none⟩) (off:=0) (cap:=ne) (fun _=>rfl) hz (by omega)
   unfold Ix at izr
   simp only [Nat.mul_one,Nat.zero_add] at izr
   have zl:(z:Int) < (ne:Int):=by omega
   clear hmem hkk hMc2 hDc2 hj hcm hk
   by_cases hzS:z∈pre.map WkA.num
   ·have d1:(a == (di:Int)+1) = true:=by simpa using hiff.2 hzS
    clear hiff
    gi_wp2_with fail
    gi_quiet (fail)
    generalize hVq:wr.drewN _ = V
    have hbV:Below wr.heap.size wr V:=by rw [← hVq];exact QAy (Below.refl _ _) _
    have hop:QGe b ((di:Int)+1) V = QGe b ((di:Int)+1) wr:=by rw [← hVq];rfl
    have H2:Hid (WkJ M rw w w0 W.heap.size b ne ((di:Int)+1) (W.heap.size+1) p d J L' pre (.slice (some ⟨g,0,none⟩) kk cap) V):=hid (WkJ.on ⟨HM.out,HJ.out.j,fun r hr=>by
      rcases HJ.out.roots r hr with h | h
      ·exact .inl h
      ·rcases List.mem_append.1 h with h | h
       ·exact .inr h
       ·rw [List.mem_singleton.1 h];exact .inl hzS,fun x hx y hy=>by
      rcases HJ.out.parts x hx y hy with h | h
      ·exact .inl h
      ·rcases List.mem_append.1 h with h | h
       ·exact .inr h
       ·rw [List.mem_singleton.1 h];exact .inl hzS,fun y hy=>HJ.out.reachL y (by simp [hy]),HJ.out.reachS,fun y hy=>HJ.out.lt y (by simp [hy]),HJ.out.cnt,by have:=HJ.out.len;simp only [List.length_append,List.length_singleton] at this;omega⟩ hJ.out hR.out hbV)
    clear hVq hbV
    gi_wp2_with fail
    exact ⟨⟨L',pre,_,_,_,rfl,HK,H2⟩,by rw [hop];show _+kk < _+(kk+1);omega⟩
   ·have d1:(a == (di:Int)+1) = false:=beq_false_of_ne fun h=>hzS (hiff.1 h)
    clear hiff
    gi_wp2_with fail
    gi_quiet (fail)
    generalize hVq:wr.drewN _ = V
    have hbV:Below wr.heap.size wr V:=by rw [← hVq];exact QAy (Below.refl _ _) _
    have HV:=hid (HM.out.below hR.out hbV)
    have HBa2:Hid (Base w0 (fun k=>M k∨k = b) rw w):=hid ⟨hBa.out.lies,fun k hk=>⟨fun h=>h.elim (hBa.out.free k hk).1 (fun e=>by have:=hb.out.2;omega),(hBa.out.free k hk).2⟩⟩
    have m1:=QA1 hbV m0
    have d2:=QA1 hbV d0
    have y4:=HV.out.marks.froz z
    have y5:=QA1 hbV y2
    have HJV:=hid (hJ.out.below hbV HJ.out.j)
    have HZ:=hid (HV.out.mark hb.out.1 hW.out.size hR.out (n:=z))
    have HJZ:Hid (J pre (V.setCell ⟨b,z,none⟩ (.int .i64 ((di:Int)+1)))):=hid (hJ.out pre V _ (some b) HJV.out (by
      have hg:=grownBy_setCell' V b (.int .i64 ((di:Int)+1))
      exact ⟨rfl,rfl,rfl,HZ.out.kept.1 |> fun _=>((Below.refl 0 V).setCell (p:=⟨b,z,none⟩) (Nat.zero_le _) _).size,fun k _ hne=>QBA V b k z _ fun h=>hne (by rw [h])⟩) (fun r h=>by
     cases h
     obtain ⟨cs,s1,_⟩:=HV.out.marks
     exact ⟨.inr rfl,_,s1,.inr HV.out.mrow⟩))
    obtain ⟨Z,hZ⟩:∃ Z,Z = V.setCell ⟨b,z,none⟩ (.int .i64 ((di:Int)+1)):=⟨_,rfl⟩
    rw [← hZ] at HZ HJZ
    have hOZ:=HBa2.out.old HZ.out.kept
    obtain ⟨x,hxz⟩:∃ x,p.exprs[z]? = some x:=⟨_,List.getElem?_eq_getElem (by have:=hne.out;omega)⟩
    obtain ⟨s,f0,f1,f2,f3,f4,f5,f6,f7,f8,ha,hok⟩:=hxc.out z hz x hxz
    obtain ⟨oa,ca,ba,fa,rfl,_⟩:=id ha
    have sB:QAc (fun k=>M k∨k = b) rw w B:=⟨hS.out.1.1.1,fun h=>h.elim hS.out.1.1.2.1 hS.out.1.2,hS.out.1.1.2.2⟩
    have bZ:=(QAA ((HZ.out.kept.2.2 B sB).trans hBc.out)).2
    have g0:=hOZ.cell f0
    have g1:=hOZ.cell f1
    have g2:=hOZ.cell f2
    have g3:=hOZ.cell f3
    have g4:=hOZ.cell f4
    have g5:=hOZ.cell f5
    have g6:=hOZ.cell f6
    have g7:=hOZ.cell f7
    have g8:=hOZ.cell f8
    have ixx:=QHP (cap:=c2) hx.out hz (by omega)
    unfold Ix at ixx
    have hpl:pre.length < ne:=by
     have h1:=HJ.out.cnt
     have h2:=QLW hzS hz
     omega
    obtain ⟨q,hq⟩:∃ q:WkA p w0,q = ⟨(z,.slice oa x.args.length ca),x,hxz,ha,hok⟩:=⟨_,rfl⟩
    have hqn:q.num = z:=by rw [hq];rfl
    have hqe:wkE p w0 q = #[.agg (QA4 x (.slice oa x.args.length ca))]:=by rw [hq];unfold wkE exQ;dsimp only;rw [hxz];rfl
    obtain ⟨fn,tmps,assign,body,hy,hRd⟩:=hY.out pre q Z HJZ.out hpl
    rw [hqe] at hy
    unfold QA4 at hy
    have hy' : (Instr.yield lp #[.agg #[.int .i64 x.kind,.int .i64 x.a,.int .i64 x.b,.int .i64 x.c,.string x.name,.string x.state,.int .i64 x.v,.slice oa x.args.length ca,.int .i64 x.pos]]).run Tryz.prog Z = .ok (.round lp fn tmps assign body) Z:=hy
    have HRd:=hid hRd
    have HQN:=hid hqn
    have HA:=hid ha
    have HOK:=hid hok
    have HXZ:=hid hxz
    have HF:=hid (And.intro f0 (And.intro f1 (And.intro f2 (And.intro f3 (And.intro f4 (And.intro f5 (And.intro f6 (And.intro f7 f8))))))))
    have SB:=hid sB
    rw [hZ] at bZ g0 g1 g2 g3 g4 g5 g6 g7 g8 hy'
    have HZE:=hid hZ
    clear hVq hbV hZ hy hRd hq hqn hqe ha hok hxz f0 f1 f2 f3 f4 f5 f6 f7 f8 sB hOZ hpl
    gi_wp2_with fail
    refine ⟨fun h=>(by cases h),?_⟩
    rw [← HZE.out]
    refine HRd.out.mono ?_
    rintro r W3 (⟨rfl,hJ3,hk3⟩ | ⟨rfl,hJx3⟩)
    ·have HW3:=hid (HZ.out.keep hb.out.1 hMb.out hk3)
     have HJ3:=hid hJ3
     have hO3:=HBa2.out.old HW3.out.kept
     have b3:=(QAA ((HW3.out.kept.2.2 B SB.out).trans hBc.out)).2
     obtain ⟨f0,f1,f2,f3,f4,f5,f6,f7,f8⟩:=HF.out
     have h0':=hO3.cell f0
     have h1':=hO3.cell f1
     have h2':=hO3.cell f2
     have h3':=hO3.cell f3
     have h4':=hO3.cell f4
     have h5':=hO3.cell f5
     have h6':=hO3.cell f6
     have h7':=hO3.cell f7
     have h8':=hO3.cell f8
     have PF:=hid (QO0 x (.slice oa x.args.length ca) W3 (HA.out.mono fun b o i _ h=>hO3.cell h) HOK.out (QBz hsm.out HXZ.out))
     unfold exV QA4 at PF
     have APP:Hid (∀ y W4,W4.ownsRow W3.heap.size 3 1 y (QAB x).length ((QAB x).map QGv)→Below W3.heap.size W3 W4→∃ v' W5,(Builtin.append_ #[52,52] 52 #[.slice (some ⟨g,0,none⟩) kk cap,y]).run Tryz.prog W4 = .ok v' W5 ∧
       Hid (WkMem M rw w W.heap.size b ne ((di:Int)+1) (W.heap.size+1) (pre.map WkA.num ++ [z]) (L' ++ QAn p z) v' W5∧J (pre ++ [q]) W5)):=hid fun y W4 hown hb4=>by
      have h4:=HW3.out.below hR.out hb4
      have hl4:=h4.left
      rw [← HK.out] at hl4
      have hpl:=QBz hsm.out HXZ.out
      obtain ⟨v',W5,e1,e2,e3,e4⟩:=QN1 hl4 hown (fun u hu=>by obtain ⟨a,_,rfl⟩:=List.mem_map.1 hu;rfl) (by omega) (by omega) h4.bx
      rw [QFI hmay.out HXZ.out] at e2
      have hlen:(QAB x).length = (QAn p z).length:=by have:=congrArg List.length (QFI hmay.out HXZ.out);simpa using this
      rw [hlen,HK.out] at e2
      refine ⟨v',W5,e1,hid ⟨h4.push hb.out.1 hW.out.size hR.out e2 e3 e4,hJ.out _ W4 W5 _ (hJ.out.below hb4 HJ3.out) e3 (fun r h=>?_)⟩⟩
      obtain ⟨i1,cur,i2⟩:=QBT h4.left h
      exact ⟨.inl (by omega),_,i2,.inr (h4.lrow r h)⟩
     clear hJ3 hk3 hO3 f0 f1 f2 f3 f4 f5 f6 f7 f8
     gi_wp2_with (first | (gi_at_builtin;refine QGt rfl _ _ _ rfl rfl rfl hr5 ?_) | (refine ⟨trivial,fun h=>(by cases h),?_⟩;(with_reducible refine (callsIn_wide.2 PF.out).mono ?_);rintro r W4 ⟨y,rfl,hown,hb4⟩;obtain ⟨v',W5,hr5,HW5⟩:=APP.out y W4 hown hb4;clear hown hb4))
     obtain ⟨o5,cap5,rfl⟩:=HW5.out.1.slice
     have ES:(pre ++ [q]).map WkA.num = pre.map WkA.num ++ [z]:=by rw [List.map_append,List.map_singleton,HQN.out]
     have hfr:=QLW hzS hz
     have hpl:=QMH hsm.out z
     have HNEW:Hid (WkJ M rw w w0 W.heap.size b ne ((di:Int)+1) (W.heap.size+1) p d J (L' ++ QAn p z) (pre ++ [q]) (.slice o5 (L' ++ QAn p z).length cap5) W5):=hid ⟨by rw [ES];exact HW5.out.1,HW5.out.2,fun r hr=>by
       rw [ES]
       rcases HJ.out.roots r hr with h | h
       ·exact .inl (List.mem_append_left _ h)
       ·rcases List.mem_append.1 h with h | h
        ·exact .inr (List.mem_append_left _ h)
        ·exact .inl (List.mem_append_right _ h),fun x hx y hy=>by
       rw [ES] at hx ⊢
       rcases List.mem_append.1 hx with h | h
       ·rcases HJ.out.parts x h y hy with h | h
        ·exact .inl (List.mem_append_left _ h)
        ·rcases List.mem_append.1 h with h | h
         ·exact .inr (List.mem_append_left _ h)
         ·exact .inl (List.mem_append_right _ h)
       ·rw [List.mem_singleton.1 h] at hy
        exact .inr (List.mem_append_right _ hy),fun y hy=>by
       rcases List.mem_append.1 hy with h | h
       ·exact HJ.out.reachL y (by simp [h])
       ·exact .part (HJ.out.reachL z (by simp)) h,fun y hy=>by
       rw [ES] at hy
       rcases List.mem_append.1 hy with h | h
       ·exact HJ.out.reachS y h
       ·rw [List.mem_singleton.1 h];exact HJ.out.reachL z (by simp),fun y hy=>by
       rcases List.mem_append.1 hy with h | h
       ·exact HJ.out.lt y (by simp [h])
       ·have:=QGM hmay.out z y h;omega,by
       have:=HJ.out.cnt
       rw [ES,List.length_append,List.length_singleton];omega,by
       have:=HJ.out.len
       rw [ES]
       simp only [List.length_append,List.length_singleton] at this ⊢
       omega⟩
     have hop2:QGe b ((di:Int)+1) W5+1 = QGe b ((di:Int)+1) wr:=by
      rw [HW5.out.1.marks.open,HM.out.marks.open];exact hfr
     have hkk2:=HK.out
     go_roundw
     case rel=>exact ⟨L' ++ QAn p z,pre ++ [q],o5,_,cap5,rfl,hid rfl,HNEW⟩
     case measure =>
      show QGe b ((di:Int)+1) W5*1001+(L' ++ QAn p z).length < QGe b ((di:Int)+1) wr*1001+(kk+1)
      rw [List.length_append]
      omega
    ·have HJx3:=hid hJx3
     clear hJx3
     gi_wp2_with fail
     refine bodyPost_ret (results_none rfl _ _ _) rfl ?_
     refine ⟨⟨_,rfl⟩,.inr ⟨_,fun y hy=>?_,HJx3.out⟩⟩
     rcases List.mem_append.1 hy with h | h
     ·exact HJ.out.reachS _ (List.mem_map.2 ⟨y,h,rfl⟩)
     ·rw [List.mem_singleton.1 h,HQN.out];exact HJ.out.reachL z (by simp)
theorem QKl (n:Nat) (p:Pr) (d:De) (di:Nat) (sd se:Value) (B Dn Mb b:Nat) (hdi:p.decls[di]? = some d) (w0:World) (M:Nat→Prop) (rw:World→Option Nat) (w:World) (hBa:Base w0 M rw w) (hM:∀ k,M k→k < w.heap.size) (hMb:¬ M b) (hrl:∀ k,rw w = some k→k < w.heap.size) (hrb:rw w≠some b) (hR:∀ X Y:World,(∀ k,k < w.heap.size→k≠b→Y.heap[k]? = X.heap[k]?)→rw Y = rw X)
  (hS:(QAc M rw w B∧B≠b)∧(QAc M rw w Dn∧Dn≠b)∧(QAc M rw w Mb∧Mb≠b)) (hb:b < w.heap.size∧w0.heap.size≤b) (hBc:w.heap[B]? = some (.cells #[sd,se] 26 (0,0))) (hDc:w.heap[Dn]? = some (.cells #[.int .i64 (di:Int)] 3 (0,0))) (hMc:w.heap[Mb]? = some (.cells #[.slice (some ⟨b,0,none⟩) p.exprs.length p.exprs.length] 52 (0,0)))
  (hmk:MarksLe w b p.exprs.length (di:Int)) (hP:ProgAt w0 sd se p) (hsm:Small p) (hmay:QFE p = true) (hro:∀ r∈QAC d,∃ z:Nat,r = (z:Int)∧z < p.exprs.length) (hdl:d.params.length≤600∧d.items.length≤600) :
  SeqX (α:=WkA p w0) Fence.wide n Tryz.prog 62 #[.pointer (some ⟨B,0,none⟩),.pointer (some ⟨Dn,0,none⟩),.pointer (some ⟨Mb,0,none⟩)] (wkE p w0) (fun k=>k = b) M rw (fun ys Y=>(∀ k,k∈ys.map WkA.num↔Reach p (QAC d) k)∧MarksLe Y b p.exprs.length ((di:Int)+1)) (fun pre=>∀ q∈pre,Reach p (QAC d) q.num) p.exprs.length w:=by
 obtain ⟨⟨o1,c1,db,doff,rfl,_,_,hd1,hd2⟩,⟨o2,c2,xb,xoff,rfl,_,_,hx1,hx2⟩,_,_⟩:=id hP
 have hlt:=(List.getElem?_eq_some_iff.1 hdi).1
 intro lp J Jx W hW hJ _ _ hY h0
 exact QIj n p d di o1 o2 _ c1 db doff _ c2 xb xoff B Dn Mb b (hid rfl) (by have:=hsm.exprs;omega) (by have:=hsm.decls;omega) (hid hdi) hlt w0 M rw w (hid hBa) (hid hM) (hid hMb) (hid hrl) (hid hrb) (hid hR) (hid hS) (hid hb) (hid hBc) (hid hDc) (hid hMc)
  (hid hmk) (hid hd1) (hid hd2) (hid hx1) (hid hx2) (hid hsm) (hid hmay) (hid hro) (hid hdl) lp J Jx W (hid hW) (hid hJ) (hid fun pre q X hj hlen=>(hY pre q X hj hlen).mono fun r Y h=>h.imp id fun h=>⟨h.1,h.2.1⟩) (hid h0)
end
end Go.Proofs.YtknbghjoncomiaaGreat
