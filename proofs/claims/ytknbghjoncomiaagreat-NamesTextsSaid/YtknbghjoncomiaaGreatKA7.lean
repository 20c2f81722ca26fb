/- Joined: NmTaken, NmIsWr, NmScopeG, NmDeclsG, NmItemsG. -/
import Derived.Test.YtknbghjoncomiaaGreatKA6
namespace Go.Proofs.YtknbghjoncomiaaGreat
section
open Go.Lib (hid)
open Go.RowKit Lx Go.Shelf Go.Maps
attribute [local go_sem] Oper.semAt_some
set_option maxHeartbeats 16000000
def zVa:Va:=⟨⟨#[]⟩,0,0,0⟩
def QAd (d:De) (nm:ByteArray):Va:=((QAV d).find? (fun v=>decide (v.name = nm))).getD zVa
def QDI (d:De) (i k:Int) (nm:ByteArray) (l:List ByteArray):Bool :=
 if QCI k = 0 then false else ((QAd d nm).sort == 1 || (QAd d nm).index != i) || (k == 6 && QDe l)
theorem QNh (d:De) (nm:ByteArray):((QCj (vaL (QAV d))) (.string nm.data.toList)).getD (.agg #[.string ⟨#[]⟩,.int .i64 0,.int .i64 0,.int .i64 0]) = QGK (QAd d nm).name (QAd d nm).sort (QAd d nm).type (QAd d nm).index:=by
 rw [QEo]
 unfold QAd
 cases (QAV d).find? (fun v=>decide (v.name = nm)) <;> rfl
theorem StrsAt.on {w W:World} {v:Value} {l:List ByteArray} (h:StrsAt w v l) (hb:Below w.heap.size w W):StrsAt W v l:=h.mono fun _ _ _ _ hc=>QA1 hb hc
set_option maxRecDepth 100000 in
theorem QHo (m1 m2:Nat) (d:De) (i k t e f p:Int) (nm st nx:ByteArray) (l:List ByteArray) (o:Option Addr) (n c:Nat) (hnm:nm.size≤maxLen) (hl:∀ s∈l,s.size≤maxLen) (hln:l.length≤1000) (w:World) (hS:Hid (ScAt w m1 m2 d)) (hA:Hid (StrsAt w (.slice o n c) l)) :
  Calls Tryz.prog 70 #[.agg #[.map (some m1),.map (some m2)],.int .i64 i,.agg #[.int .i64 k,.string nm,.int .i64 t,.int .i64 e,.int .i64 f,.slice o n c,.string st,.string nx,.int .i64 p]] w fun r Y=>r = .returned (.bool (QDI d i k nm l))∧Below w.heap.size w Y:=by
 have hb1:=QA5 (Below.refl w.heap.size w) (.cells #[.map (some m1),.map (some m2)] 91)
 have hb2:=hid (QA5 hb1 (.cells #[.int .i64 k,.string nm,.int .i64 t,.int .i64 e,.int .i64 f,.slice o n c,.string st,.string nx,.int .i64 p] 57))
 have B1:Hid (((w.alloc (.cells #[.map (some m1),.map (some m2)] 91)).alloc (.cells #[.int .i64 k,.string nm,.int .i64 t,.int .i64 e,.int .i64 f,.slice o n c,.string st,.string nx,.int .i64 p] 57)).heap[w.heap.size]? = some (.cells #[.map (some m1),.map (some m2)] 91 (0,0))):=hid (QAa (QAR rfl))
 have B2:Hid (((w.alloc (.cells #[.map (some m1),.map (some m2)] 91)).alloc (.cells #[.int .i64 k,.string nm,.int .i64 t,.int .i64 e,.int .i64 f,.slice o n c,.string st,.string nx,.int .i64 p] 57)).heap[w.heap.size+1]? = some (.cells #[.int .i64 k,.string nm,.int .i64 t,.int .i64 e,.int .i64 f,.slice o n c,.string st,.string nx,.int .i64 p] 57 (0,0))):=hid (QAR (by simp))
 clear hb1
 have MD:Hid (∀ W,Calls Tryz.prog 94 #[.agg #[.int .i64 k,.string nm,.int .i64 t,.int .i64 e,.int .i64 f,.slice o n c,.string st,.string nx,.int .i64 p]] W fun r w'=>r = .returned (.tuple #[.int .i64 (QCI k),.int .i64 (QEU k t)])∧Below W.heap.size W w'):=hid fun W=>QJ6 k t e f p nm st nx o n c W
 have R0:Hid (QDI d i k nm l = if QCI k = 0 then false else ((QAd d nm).sort == 1 || (QAd d nm).index != i) || (k == 6 && QDe l)):=hid rfl
 have LK:Hid (∀ W,Below w.heap.size w W→(Instr.lookup 88 (.map (some m1)) (.string nm) false).run Tryz.prog W = .ok (QGK (QAd d nm).name (QAd d nm).sort (QAd d nm).type (QAd d nm).index) W):=hid fun W hW=>by
  have h:=(hS.out.below hW).vars.look strKeyed Tryz.underlying88 (QGu W) (QDG nm hnm)
  rw [QNh] at h
  exact h
 have TW:Hid (∀ W,Below w.heap.size w W→Calls Tryz.prog 96 #[.slice o n c,.func (.func 95) #[] #[]] W fun r Y=>r = .returned (.bool (QDe l))∧Below W.heap.size W Y):=hid fun W hW=>QKj _ l W (hA.out.on hW) hln hl
 obtain ⟨S,hSd⟩:∃ S,S = QCI k:=⟨_,rfl⟩
 obtain ⟨T,hTd⟩:∃ T,T = QEU k t:=⟨_,rfl⟩
 obtain ⟨v,hv⟩:∃ v,v = QAd d nm:=⟨_,rfl⟩
 obtain ⟨dp,hdp⟩:∃ dp,dp = QDe l:=⟨_,rfl⟩
 rw [← hSd,← hTd] at MD
 rw [← hv] at LK
 rw [← hSd,← hv,← hdp] at R0
 rw [← hdp] at TW
 clear hSd hTd hv hdp hS hA
 obtain ⟨vn,vs,vt,vi⟩:=v
 dsimp only [QGK] at LK R0
 by_cases hz:S = 0
 ·rw [if_pos hz] at R0
  have qz:(S == 0) = true:=by simp [hz]
  clear hz
  go_enter Tryz.func70,Tryz.ntmps70
  go_wp2_with (go_at_call 94;(with_reducible refine (MD.out _).mono ?_);rintro r w1 ⟨rfl,hw1⟩;have HW1:=hid hw1;clear hw1)
  go_ret
  exact ⟨by rw [R0.out];rfl,hb2.out.trans (HW1.out.mono hb2.out.size)⟩
 rw [if_neg hz] at R0
 have qz:(S == 0) = false:=by simpa using hz
 clear hz
 have AFT:Hid (∀ w1,Below ((w.alloc (.cells #[.map (some m1),.map (some m2)] 91)).alloc (.cells #[.int .i64 k,.string nm,.int .i64 t,.int .i64 e,.int .i64 f,.slice o n c,.string st,.string nx,.int .i64 p] 57)).heap.size ((w.alloc (.cells #[.map (some m1),.map (some m2)] 91)).alloc (.cells #[.int .i64 k,.string nm,.int .i64 t,.int .i64 e,.int .i64 f,.slice o n c,.string st,.string nx,.int .i64 p] 57)) w1 →
   (w1.cell? ⟨w.heap.size,0,none⟩ = some (.map (some m1))∧w1.cell? ⟨w.heap.size+1,1,none⟩ = some (.string nm))∧(Instr.lookup 88 (.map (some m1)) (.string nm) false).run Tryz.prog w1 = .ok (.agg #[.string vn,.int .i64 vs,.int .i64 vt,.int .i64 vi]) w1 ∧
   Hid (Below w.heap.size w (w1.alloc (.cells #[.string vn,.int .i64 vs,.int .i64 vt,.int .i64 vi] 67)))∧(w1.alloc (.cells #[.string vn,.int .i64 vs,.int .i64 vt,.int .i64 vi] 67)).cell? ⟨w.heap.size+1,0,none⟩ = some (.int .i64 k)∧(w1.alloc (.cells #[.string vn,.int .i64 vs,.int .i64 vt,.int .i64 vi] 67)).cell? ⟨w.heap.size+1,5,none⟩ = some (.slice o n c)):=hid fun w1 hw1=>by
  have hb:=hb2.out.trans (hw1.mono hb2.out.size)
  have e1:=(hw1.block _ (lt_of_heap B1.out)).trans B1.out
  have e2:=(hw1.block _ (lt_of_heap B2.out)).trans B2.out
  have e3:=QAa (o:=.cells #[.string vn,.int .i64 vs,.int .i64 vt,.int .i64 vi] 67) e2
  exact ⟨⟨by simp [World.cell?,e1],by simp [World.cell?,e2]⟩,LK.out w1 hb,hid (QA5 hb _),by simp [World.cell?,e3],by simp [World.cell?,e3]⟩
 by_cases h1:vs = 1∨¬ vi = i
 ·have R:Hid (QDI d i k nm l = true):=hid (by rw [R0.out];rcases h1 with h1 | h1 <;> simp [h1])
  rcases h1 with h1 | h1
  ·have q1:(vs == 1) = true:=by simp [h1]
   clear h1
   go_enter Tryz.func70,Tryz.ntmps70
   go_wp2_with (go_at_call 94;(with_reducible refine (MD.out _).mono ?_);rintro r w1 ⟨rfl,hw1⟩;obtain ⟨⟨y0,y1⟩,y2,HB,y3,y4⟩:=AFT.out _ hw1;clear hw1)
   go_ret
   exact ⟨by rw [R.out];rfl,HB.out⟩
  ·by_cases h2:vs = 1
   ·have q1:(vs == 1) = true:=by simp [h2]
    clear h1 h2
    go_enter Tryz.func70,Tryz.ntmps70
    go_wp2_with (go_at_call 94;(with_reducible refine (MD.out _).mono ?_);rintro r w1 ⟨rfl,hw1⟩;obtain ⟨⟨y0,y1⟩,y2,HB,y3,y4⟩:=AFT.out _ hw1;clear hw1)
    go_ret
    exact ⟨by rw [R.out];rfl,HB.out⟩
   ·have q1:(vs == 1) = false:=by simpa using h2
    have q2:(vi != i) = true:=by simpa using h1
    clear h1 h2
    go_enter Tryz.func70,Tryz.ntmps70
    go_wp2_with (go_at_call 94;(with_reducible refine (MD.out _).mono ?_);rintro r w1 ⟨rfl,hw1⟩;obtain ⟨⟨y0,y1⟩,y2,HB,y3,y4⟩:=AFT.out _ hw1;clear hw1)
    go_ret
    exact ⟨by rw [R.out];rfl,HB.out⟩
 have h2:¬ vs = 1:=fun h=>h1 (.inl h)
 have h3:vi = i:=Decidable.byContradiction fun h=>h1 (.inr h)
 have q1:(vs == 1) = false:=by simpa using h2
 have q2:(vi != i) = false:=by simpa using h3
 have R:Hid (QDI d i k nm l = (k == 6 && dp)):=hid (by rw [R0.out,q1,q2];rfl)
 clear h1 h2 h3 R0
 by_cases h6:k = 6
 ·have q6:(k == 6) = true:=by simp [h6]
  rw [q6] at R
  clear h6
  go_enter Tryz.func70,Tryz.ntmps70
  go_wp2_with (first
   | (go_at_call 94;(with_reducible refine (MD.out _).mono ?_);rintro r w1 ⟨rfl,hw1⟩;obtain ⟨⟨y0,y1⟩,y2,HB,y3,y4⟩:=AFT.out _ hw1;clear hw1)
   | (go_at_call 96;(with_reducible refine (TW.out _ HB.out).mono ?_);rintro r w2 ⟨rfl,hw2⟩;have HW2:=hid hw2;clear hw2))
  go_ret
  exact ⟨by rw [R.out];rfl,HB.out.trans (HW2.out.mono HB.out.size)⟩
 ·have q6:(k == 6) = false:=by simpa using h6
  rw [q6] at R
  clear h6
  go_enter Tryz.func70,Tryz.ntmps70
  go_wp2_with (go_at_call 94;(with_reducible refine (MD.out _).mono ?_);rintro r w1 ⟨rfl,hw1⟩;obtain ⟨⟨y0,y1⟩,y2,HB,y3,y4⟩:=AFT.out _ hw1;clear hw1)
  go_ret
  exact ⟨by rw [R.out];rfl,HB.out⟩
def QBR (p:Pr) (nm:ByteArray):Option (De × Nat):=p.decls.zipIdx.find? fun z=>decide (z.1.name = nm)
def QBm (p:Pr) (d:De) (x:Ex):Bool :=
 if x.kind = 3 then !QE2 d x.name [1,2,3,4] else if x.kind = 20 then !QBX d x.name x.state else if x.kind = 19 then (match QBR p x.name with
  | some z=>z.1.kind == 3 || ((z.1.params.length:Int) != (x.args.length:Int))
  | none=>true) else false
theorem QAy {s:Nat} {X Y:World} (h:Below s X Y) (q:Nat):Below s X (Y.drewN q):=⟨h.os,h.tape,h.output,h.size,h.block⟩
theorem QHC (l:List De) (nm:ByteArray):QCj (QFY l) (.string nm.data.toList) = (l.zipIdx.find? (fun z=>decide (z.1.name = nm))).map fun z=>.int .i64 (z.2:Int):=by
 show ((QFY l).find? (fun q=>q.1 == nm.data.toList)).map (·.2) = _
 unfold QFY
 rw [List.find?_map,Option.map_map]
 have e:((fun q:List UInt8 × Value=>q.1 == nm.data.toList) ∘ fun z:De × Nat=>(z.1.name.data.toList,Value.int .i64 (z.2:Int))) = fun z=>decide (z.1.name = nm):=funext fun v=>QLE
 rw [e]
 rfl
theorem QLA {p:Pr} {nm:ByteArray} {z:De × Nat} (h:QBR p nm = some z):p.decls[z.2]? = some z.1:=by
 have hm:=List.mem_of_find?_eq_some h
 obtain ⟨z1,z2⟩:=z
 have:=List.mem_zipIdx_iff_getElem?.1 hm
 exact this
set_option maxRecDepth 100000 in
theorem QHL (m1 m2 mf N:Nat) (d:De) (x:Ex) (oa:Option Addr) (na ca:Nat) (hna:Hid (na = x.args.length)) (_hnal:(na:Int)≤9223372036854775807) (hxn:x.name.size≤maxLen) (hxs:x.state.size≤maxLen) (o1:Option Addr) (n1 c1 db doff:Nat) (ve:Value) (p:Pr) (w:World) (hS:Hid (ScAt w m1 m2 d)) (hO:Hid (ScOk d))
  (hF:Hid (MapIs w 9 mf N (QCj (QFY p.decls)))) (hn1:Hid (p.decls.length = n1)) (n1l:(n1:Int)≤60) (hd:Hid (0 < n1→o1 = some ⟨db,doff,none⟩)) (hdc:Hid (∀ i,i < n1→∀ x,p.decls[i]? = some x→DeAt w db (doff+i*7) x)) :
  Calls Tryz.prog 41 #[.agg #[.map (some m1),.map (some m2)],.agg #[.slice o1 n1 c1,ve],.map (some mf),.agg (QA4 x (.slice oa na ca))] w fun r Y=>r = .returned (.bool (QBm p d x))∧Below w.heap.size w Y:=by
 obtain ⟨k,ea,eb,ec,nm,st,ev,args,pos⟩:=x
 unfold QA4
 dsimp only at hna hxn hxs ⊢
 have hb1:=QA5 (Below.refl w.heap.size w) (.cells #[.map (some m1),.map (some m2)] 91)
 have hb2:=QA5 hb1 (.cells #[.slice o1 n1 c1,ve] 26)
 have hb3:=hid (QA5 hb2 (.cells #[.int .i64 k,.int .i64 ea,.int .i64 eb,.int .i64 ec,.string nm,.string st,.int .i64 ev,.slice oa na ca,.int .i64 pos] 54))
 clear hb1 hb2
 by_cases h3:k = 3
 ·subst h3
  have R:Hid (QBm p d ⟨3,ea,eb,ec,nm,st,ev,args,pos⟩ = !QE2 d nm [1,2,3,4]):=hid rfl
  have C1:=hid (QEh hS.out hxn 4 [1,2,3,4] rfl (by omega))
  have hb4:=hid (QA5 hb3.out (.cells #[.int .i64 1,.int .i64 2,.int .i64 3,.int .i64 4] 3))
  go_enter Tryz.func41,Tryz.ntmps41
  go_wp2_with (go_at_call 72;(with_reducible refine (C1.out _ hb4.out _ _ ?_).mono ?_);exact (fun j hj=>by have hj3:j < 4:=hj;obtain rfl | rfl | rfl | rfl:j = 0∨j = 1∨j = 2∨j = 3:=(by omega) <;> exact QDb (by simp) rfl);rintro r w1 ⟨rfl,hw1⟩;have HW1:=hid hw1;clear hw1)
  go_ret
  exact ⟨by rw [R.out];rfl,hb4.out.trans (HW1.out.mono hb4.out.size)⟩
 by_cases h20:k = 20
 ·subst h20
  have C1:=hid (QE1 hS.out hO.out hxn hxs)
  have R:Hid (QBm p d ⟨20,ea,eb,ec,nm,st,ev,args,pos⟩ = !QBX d nm st):=hid rfl
  clear h3
  go_enter Tryz.func41,Tryz.ntmps41
  go_wp2_with (go_at_call 73;(with_reducible refine (C1.out _ hb3.out).mono ?_);rintro r w1 ⟨rfl,hw1⟩;have HW1:=hid hw1;clear hw1)
  go_ret
  exact ⟨by rw [R.out];rfl,hb3.out.trans (HW1.out.mono hb3.out.size)⟩
 by_cases h19:k = 19
 ·subst h19
  obtain ⟨V,hV⟩:∃ V,V = ((w.alloc (.cells #[.map (some m1),.map (some m2)] 91)).alloc (.cells #[.slice o1 n1 c1,ve] 26)).alloc (.cells #[.int .i64 19,.int .i64 ea,.int .i64 eb,.int .i64 ec,.string nm,.string st,.int .i64 ev,.slice oa na ca,.int .i64 pos] 54):=⟨_,rfl⟩
  have hbV:Below w.heap.size w V:=by rw [hV];exact hb3.out
  have lk:=(hF.out.below hbV hF.out.lt).look_ok strKeyed Tryz.underlying83 (QIm V) (QDG nm hxn)
  rw [QHC] at lk
  have R:Hid (QBm p d ⟨19,ea,eb,ec,nm,st,ev,args,pos⟩ = match QBR p nm with
   | some z=>z.1.kind == 3 || ((z.1.params.length:Int) != (args.length:Int))
   | none=>true):=hid rfl
  unfold QBR at R
  clear h3 h20
  have B1:V.heap[w.heap.size+1]? = some (.cells #[.slice o1 n1 c1,ve] 26 (0,0)):=by rw [hV];exact QAa (QAR (by simp))
  have B2:V.heap[w.heap.size+1+1]? = some (.cells #[.int .i64 19,.int .i64 ea,.int .i64 eb,.int .i64 ec,.string nm,.string st,.int .i64 ev,.slice oa na ca,.int .i64 pos] 54 (0,0)):=by rw [hV];exact QAR (by simp)
  have y0:=(QAA B1).1
  have y1:=(QE0 B2).2
  have y2:V.cell? ⟨w.heap.size+1+1,4,none⟩ = some (.string nm):=by simp [World.cell?,B2]
  have y3:V.cell? ⟨w.heap.size+1+1,0,none⟩ = some (.int .i64 19):=by simp [World.cell?,B2]
  have HBV:=hid hbV
  cases hf:p.decls.zipIdx.find? (fun z=>decide (z.1.name = nm)) with
  | none =>
   rw [hf] at lk R
   dsimp only [Option.map,Option.getD,Option.isSome] at lk
   have HVE:=hid hV
   rw [hV] at lk
   clear hf B1 B2 hbV hV
   go_enter Tryz.func41,Tryz.ntmps41
   go_wp2_with fail
   clear lk
   rw [← HVE.out]
   go_quiet (fail)
   go_wp2_with fail
   go_ret
   exact ⟨by rw [R.out];rfl,QAy HBV.out _⟩
  | some z =>
   obtain ⟨c,i⟩:=z
   have hci:=QLA (p:=p) (nm:=nm) hf
   dsimp only at hci
   have hi:i < n1:=by rw [← hn1.out];exact (List.getElem?_eq_some_iff.1 hci).1
   have ix:=QCh (cap:=c1) hd.out hi (by omega)
   unfold Ix at ix
   obtain ⟨op,capp,oi,capi,bi,offi,hok,c0,c1',c2,c3,c4,c5,c6,hi3,hi4⟩:=de_cells' (hdc.out i hi c hci) hbV
   have hil:(i:Int) < (n1:Int):=by omega
   rw [hf] at lk R
   dsimp only [Option.map,Option.getD,Option.isSome] at lk R
   rw [← hna.out] at R
   have hp1:c.params.length≤9223372036854775807:=by have:=hok.params;unfold QAH at this;omega
   have HVE:=hid hV
   rw [hV] at lk
   obtain ⟨np,hnp⟩:∃ np,np = c.params.length:=⟨_,rfl⟩
   rw [← hnp] at R c2 hp1
   clear hf B1 B2 hbV hV hci hok hi3 hi4 c3 c4 c5 c6 c1' hnp
   by_cases hk:c.kind = 3
   ·have q1:(c.kind == 3) = true:=by simp [hk]
    rw [q1] at R
    go_enter Tryz.func41,Tryz.ntmps41
    go_wp2_with fail
    clear lk
    rw [← HVE.out]
    go_quiet (fail)
    go_wp2_with fail
    go_ret
    exact ⟨by rw [R.out];rfl,QAy HBV.out _⟩
   ·have q1:(c.kind == 3) = false:=by simpa using hk
    rw [q1] at R
    clear hk
    go_enter Tryz.func41,Tryz.ntmps41
    go_wp2_with fail
    clear lk
    rw [← HVE.out]
    go_quiet (fail)
    go_wp2_with fail
    go_ret
    exact ⟨by rw [R.out];rfl,QAy HBV.out _⟩
 have R:Hid (QBm p d ⟨k,ea,eb,ec,nm,st,ev,args,pos⟩ = false):=hid (by unfold QBm;dsimp only;rw [if_neg h3,if_neg h20,if_neg h19])
 have r3:(k == 3) = false:=by simpa using h3
 have r20:(k == 20) = false:=by simpa using h20
 have r19:(k == 19) = false:=by simpa using h19
 clear h3 h20 h19
 go_enter Tryz.func41,Tryz.ntmps41
 go_wp2_with fail
 go_ret
 exact ⟨by rw [R.out];rfl,hb3.out⟩
theorem QID (m1 m2 mf N:Nat) (d:De) (x:Ex) (sa sd se:Value) (p:Pr) (w:World) (hS:ScAt w m1 m2 d) (hO:ScOk d) (hF:MapIs w 9 mf N (QCj (QFY p.decls))) (hx:IntsAt w sa x.args) (hk:ExOk x) (hP:ProgAt w sd se p) (hsm:Small p) :
  Calls Tryz.prog 41 #[.agg #[.map (some m1),.map (some m2)],.agg #[sd,se],.map (some mf),.agg (QA4 x sa)] w fun r Y=>r = .returned (.bool (QBm p d x))∧Below w.heap.size w Y:=by
 obtain ⟨oa,ca,ba,fa,rfl,ha1,ha2,ha3,ha4⟩:=hx
 obtain ⟨⟨o1,dcap,db,doff,rfl,hd1,hd2,hd3,hd4⟩,h2,h3,h4⟩:=hP
 exact QHL m1 m2 mf N d x oa _ ca (hid rfl) (by have:=hk.args;unfold QAH at this;omega) (by have:=hk.name;unfold QAH at this;unfold maxLen;omega) (by have:=hk.state;unfold QAH at this;unfold maxLen;omega) o1 _ dcap db doff se p w (hid hS) (hid hO) (hid hF) (hid rfl) (by have:=hsm.decls;omega) (hid hd3) (hid hd4)
def QJb (w V:World) (m:Nat) (pre:List Va) (W:World):Prop :=
 MapIs W 9 m pre.length (QCj (vaL pre))∧(∀ k,k < V.heap.size→k≠m→W.heap[k]? = V.heap[k]?)∧Below w.heap.size w W∧V.heap.size≤W.heap.size
theorem QDs (w V:World) (m:Nat) (hm:m < V.heap.size) (hw:w.heap.size≤V.heap.size):OwnFrom V.heap.size (QJb w V m):=by
 rintro s X Y row ⟨h1,h2,h3,h4⟩ hg hrow
 have hne:∀ b,b < V.heap.size→some b≠row:=fun b hb e=>by have:=(hrow b e.symm).1;omega
 exact ⟨h1.kept' hg (hne _ hm),fun k hk he=>(hg.block k (Nat.lt_of_lt_of_le hk h4) (hne k hk)).trans (h2 k hk he),h3.grown hg h3.size (fun k e=>by have:=(hrow k e).1;omega),Nat.le_trans h4 hg.size⟩
def ScX (D:Value) (q N:Nat) (x:Va) (a:Act) (W:World):Prop :=
 ∃ X,N≤X∧W.heap[X]? = some (.cells #[.string x.name,.int .i64 x.sort,.int .i64 x.type,.int .i64 x.index] 67 (0,0)) ∧
  a = { tmps:=#[D,.pointer (some ⟨q,0,none⟩),.pointer (some ⟨q+1,0,none⟩),.pointer (some ⟨q+1+1+1+1,0,none⟩),.pointer (some ⟨X,0,none⟩),undef,undef,undef,undef,undef,undef,.map (some (q+1+1)),.map (some (q+1+1+1)),.agg #[.map (some (q+1+1)),.map (some (q+1+1+1))],D,.func (.func 93) #[] #[.pointer (some ⟨q+1+1+1+1+1,0,none⟩)],QGK x.name x.sort x.type x.index,
   undef,undef,undef,undef,undef,undef,undef,undef,undef,undef,undef,undef,undef,undef,undef,undef,undef,undef,undef,undef,undef,undef,undef,undef,undef,undef,undef,undef,undef,undef,undef,undef,undef,undef,undef,undef,undef,undef,undef],defers:=[] }
theorem scX_own (D:Value) (q N:Nat) (x:Va) (a:Act):OwnFrom N (fun (_:Unit) W=>ScX D q N x a W):=by
 rintro s X Y row ⟨B,hB,h,ha⟩ hg hrow
 exact ⟨B,hB,(hg.block _ (lt_of_heap h) (fun e=>by obtain ⟨_,o,ho,hc⟩:=hrow B e.symm;rw [h] at ho;cases ho;cases hc)).trans h,ha⟩
theorem QHQ {M:Nat→Prop} {N:Nat} (W:World) (l:Nat) (o o' : Obj) (hl:N≤l) (h:W.heap[l]? = some o) (hc:o.isCells = false):KeepM M (fun _=>none) N W (W.putObj l o'):=by
 have hg:=grownBy_putObj' W l o'
 refine ⟨hg.size,fun k hk _ _ hh=>hg.block k hk (fun e=>?_),fun k hk=>by cases hk⟩
 cases e
 rcases hh with h1 | ⟨o2,h1,h2⟩
 ·omega
 ·rw [h] at h1;cases h1;rw [hc] at h2;cases h2
theorem QDP {M:Nat→Prop} {N:Nat} {W Y:World} (h:Below W.heap.size W Y):KeepM M (fun _=>none) N W Y:=⟨h.size,fun k hk _ _ _=>h.block k hk,fun k hk=>by cases hk⟩
theorem QIG {m N:Nat} {W Y:World} (h:W.grownBy Y (some m)):KeepM (fun k=>k = m) (fun _=>none) N W Y:=⟨h.size,fun k hk hM _ _=>h.block k hk (fun e=>hM (Option.some.inj e)),fun k hk=>by cases hk⟩
theorem QMr {j:Nat} (h:j≤1000000):(Lit.int .i64 (j:Int)).wf = true:=by
 have h1:IntKind.min .i64 = -9223372036854775808:=by decide
 have h2:IntKind.max .i64 = 9223372036854775807:=by decide
 show (decide (IntKind.min .i64≤(j:Int)) && decide ((j:Int)≤IntKind.max .i64)) = true
 rw [h1,h2,Bool.and_eq_true,decide_eq_true_eq,decide_eq_true_eq]
 omega
theorem QJT (d:De):(QAV d).length≤d.params.length+d.items.length:=by
 unfold QAV
 rw [List.length_append,QDw]
 have:=QFV d.items
 omega
theorem QOK (l:List It) (c:Nat) (x:It) (h:l[c]? = some x):stL (l.take (c+1)) = stL (l.take c) ++ x.states.map fun s=>((c:Int),s):=by
 have hl:=(List.getElem?_eq_some_iff.1 h).1
 unfold stL
 rw [List.take_add_one,h]
 simp [List.zipIdx_append,Nat.min_eq_left (Nat.le_of_lt hl)]
structure ScLate (w V:World) (D:Nat) (d:De) (l:List (Int × ByteArray)) (n:Nat) (W:World):Prop where
 vars:MapIs W 9 (w.heap.size+1+1) 2000 (QCj (vaL (QAV d)))
 sts:MapIs W 122 (w.heap.size+1+1+1) n (stF l)
 same:∀ k,k < V.heap.size→k≠w.heap.size+1+1→k≠w.heap.size+1+1+1→W.heap[k]? = V.heap[k]?
 below:Below w.heap.size w W
 mark:W.heap[D]? = some (.deferred (some []))
 size:V.heap.size≤W.heap.size
theorem ScLate.on {w V:World} {D:Nat} {d:De} {l:List (Int × ByteArray)} {n:Nat} {X Y:World} (h:ScLate w V D d l n X) (hb:Below X.heap.size X Y):ScLate w V D d l n Y :=
 ⟨h.vars.below hb h.vars.lt,h.sts.below hb h.sts.lt,fun k hk h1 h2=>(hb.block k (Nat.lt_of_lt_of_le hk h.size)).trans (h.same k hk h1 h2),h.below.trans (hb.mono h.below.size),(hb.block D (lt_of_heap h.mark)).trans h.mark,Nat.le_trans h.size hb.size⟩
theorem ScLate.put {w V:World} {D:Nat} {d:De} {l:List (Int × ByteArray)} {n:Nat} {X:World} (h:ScLate w V D d l n X) (hD:w.heap.size+1+1+1 < D) (hn:n < maxLen) {i:Int} {s:ByteArray} (hi:(Lit.int .i64 i).wf = true) (hs:s.size≤maxLen) :
  ∃ Y,(Instr.mapUpdate 89 (.map (some (w.heap.size+1+1+1))) (.agg #[.int .i64 i,.string s]) (.agg #[])).run Tryz.prog X = .ok () Y∧ScLate w V D d (l ++ [(i,s)]) (n+1) Y:=by
 obtain ⟨Y,up,hM,hg⟩:=h.sts.put stateKeyed Tryz.underlying89 hn (val:=.agg #[]) (QEj i s hi hs)
 refine ⟨Y,up,h.vars.kept' hg (by simp),hM.ext fun x=>stF_put l i s x,fun k hk h1 h2=>(hg.block k (Nat.lt_of_lt_of_le hk h.size) (fun e=>h2 (Option.some.inj e))).trans (h.same k hk h1 h2),h.below.grown hg h.below.size (fun k e=>by cases e;omega),(hg.block D (lt_of_heap h.mark) (fun e=>by have:=Option.some.inj e;omega)).trans h.mark,Nat.le_trans h.size hg.size⟩
def QL3 (d:De) (w:World) (r:Ending) (Y:World):Prop:=∃ m1 m2,r = .returned (.agg #[.map (some m1),.map (some m2)])∧w.heap.size≤m1∧w.heap.size≤m2∧m1≠m2∧ScAt Y m1 m2 d∧Below w.heap.size w Y
set_option maxRecDepth 100000 in
theorem QKU (d:De) (op oi:Option Addr) (np ni capp capi bi fi:Nat) (hnp:Hid (d.params.length = np)) (hni:Hid (d.items.length = ni)) (np6:(np:Int)≤1000) (ni6:(ni:Int)≤1000) (hoi:Hid (0 < ni→oi = some ⟨bi,fi,none⟩)) (w:World) (hvi:Hid (∀ j,j < ni→∀ x,d.items[j]? = some x→ItAt w bi (fi+j*9) x))
  (hv:Hid (DeVal w (.agg #[.int .i64 d.kind,.string d.name,.slice op np capp,.slice oi ni capi,.int .i64 d.type,.int .i64 d.e,.int .i64 d.pos]) d)) (hst:Hid (∀ x∈d.items,x.states.length≤1000)) :
  CallsIn Fence.wide 5 Tryz.prog 39 #[.agg #[.int .i64 d.kind,.string d.name,.slice op np capp,.slice oi ni capi,.int .i64 d.type,.int .i64 d.e,.int .i64 d.pos]] w fun r Y=>QL3 d w r Y:=by
 have hmm:=@run_makeMap Tryz.prog
 refine callsIn_of_wp_marks Tryz.func39 rfl trivial ?_ rfl
 simp only [Tryz.ntmps39,List.size_toArray,List.length_cons,List.length_nil,Nat.reduceAdd,Nat.reduceSub,Array.replicate_succ,Array.replicate_zero,List.push_toArray,List.append_toArray,List.nil_append,List.cons_append]
 gi_wp2_with (refine ⟨trivial,?_⟩;gi_at_call 66;((with_reducible refine (callsIn_wide.2 (QOa _ _ _ _ _ _ _ _ ⟨_,_,_,_,_,_,_,_,_,_,_,rfl,rfl,rfl,rfl,rfl,rfl,rfl⟩)).mono ?_);rintro r w2 ⟨rfl,rfl⟩))
 clear hmm
 obtain ⟨V,hV,v0,v1,v2,v3,v4,v5,vB,vS⟩:=six w (.cells #[.int .i64 d.kind,.string d.name,.slice op np capp,.slice oi ni capi,.int .i64 d.type,.int .i64 d.e,.int .i64 d.pos] 36) (.cells #[.map none,.map none] 91) (.map #[] 0) (.map #[] 0) (.cells #[.map (some (w.heap.size+1+1)),.map (some (w.heap.size+1+1+1))] 91) (.cells #[.int .i64 d.kind,.string d.name,.slice op np capp,.slice oi ni capi,.int .i64 d.type,.int .i64 d.e,.int .i64 d.pos] 36)
 rw [← hV]
 clear hV
 have V0:=hid v0
 have V1:=hid v1
 have V2:=hid v2
 have V3:=hid v3
 have V4:=hid v4
 have V5:=hid v5
 have VB:=hid vB
 have VS:=hid vS
 clear v0 v1 v2 v3 v4 v5 vB vS
 obtain ⟨s1,t1,he,hs1,ht1,hk1⟩:=hv.out
 obtain ⟨rfl,rfl⟩:s1 = .slice op np capp∧t1 = .slice oi ni capi:=by simp only [Value.agg.injEq,Array.mk.injEq,List.cons.injEq] at he;exact ⟨he.2.2.1.symm,he.2.2.2.1.symm⟩
 clear he
 have HS1:=hid hs1
 have HT1:=hid ht1
 have hz1:Hid (w.heap.size+1+1 < V.heap.size):=hid (by have:=VS.out;omega)
 have hN1:=hid (fun x (hx:x∈QAV d)=>va_name hv.out x hx)
 clear hs1 ht1 hk1
 refine wpIn_rangeFunc_ownH (α:={v:Va // v∈QAV d}) rfl (by decide) (gf:=93) (lb:=#[.pointer (some ⟨w.heap.size+1+1+1+1+1,0,none⟩)]) rfl trivial (enters_of Tryz.func93 (by kernel_rfl) rfl)
  (QKk 4 d (w.heap.size+1+1+1+1+1) (fun k=>k = w.heap.size+1+1) (fun _=>none) V ⟨fun k hk=>by have:=hz1.out;omega,fun k hk=>(by cases hk),fun X Y h=>rfl⟩
   (QIt (w:=w) HS1.out HT1.out VB.out V5.out (fun k hk=>by omega) (fun k hk=>by cases hk)) (by rw [hnp.out];omega) (by rw [hni.out];omega))
  (fun h k=>h.trans k) (fun W l o o' h1 h2 h3 _=>QHQ W l o o' h1 h2 h3) (Below.refl _ _) (fun _=>rfl)
  (fun pre W=>QJb w V (w.heap.size+1+1) (pre.map (·.1)) W) (fun _ _ _=>False) (fun s X Y row k1 k2 k3=>QDs w V _ hz1.out VB.out.size (s.map (·.1)) X Y row k1 k2 k3) (fun _ _ _ _ _ hs _ _=>hs) ⟨(QFC V2.out).ext fun x=>(QJO x).symm,fun _ _ _=>rfl,VB.out,Nat.le_refl _⟩
  (fun x=>ScX (.agg #[.int .i64 d.kind,.string d.name,.slice op np capp,.slice oi ni capi,.int .i64 d.type,.int .i64 d.e,.int .i64 d.pos]) w.heap.size V.heap.size x.1) (fun x a=>scX_own _ _ _ _ _) ?assign ?body ?done ?stop
 case assign =>
  rintro lp pre ⟨⟨nx,so,ty,ix⟩,hx⟩ W K hi hK
  dsimp only [vaE,QGK]
  gi_wp2
  exact hK _ _ ((KeepsOthers.alloc _ _).from _) (QDP (QA5 (Below.refl _ _) _)) ((QDs w V _ hz1.out VB.out.size).alloc _ hi) ⟨W.heap.size,hi.2.2.2,World.alloc_heap_new W _,rfl⟩
 case body =>
  rintro lp pre ⟨⟨nx,so,ty,ix⟩,hx⟩ a' W hlp hrec ⟨h1,h2,h3,h4⟩ ⟨X,hX,hXh,rfl⟩ hlt
  have hxn:nx.size≤maxLen:=by have:=hN1.out _ hx;dsimp only at this;unfold maxLen;omega
  have hpl:pre.length≤1000000:=by
   have h:=QJT d
   have:=hnp.out
   have:=hni.out
   have h2:pre.length < (QAV d).length:=hlt
   omega
  obtain ⟨⟨y0,y1,y2,y3⟩,y4,y5,y6,y7⟩:=QDz hXh
  have s0:W.cell? ⟨w.heap.size+1+1+1+1,0,none⟩ = some (.map (some (w.heap.size+1+1))):=(QAA ((h2 _ (by have:=VS.out;omega) (by omega)).trans V4.out)).1
  have lk:=h1.look_ok strKeyed Tryz.underlying88 (QGu W) (QDG nx hxn)
  have hx3:vaL (pre.map (·.1) ++ [⟨nx,so,ty,ix⟩]) = vaL (pre.map (·.1)) ++ [(nx.data.toList,QGK nx so ty ix)]:=by simp [vaL]
  have HM:=hid h1
  have H2:=hid h2
  have HB:=hid h3
  have HN:=hid h4
  have HXH:=hid hXh
  have HLN:Hid ((pre ++ [(⟨⟨nx,so,ty,ix⟩,hx⟩ : {v:Va // v∈QAV d})]).map (·.1) = pre.map (·.1) ++ [⟨nx,so,ty,ix⟩]):=hid (by rw [List.map_append];rfl)
  clear hrec hlt h1 h2 h3 h4 hXh
  cases hf:(QCj (vaL (pre.map (·.1))) (.string nx.data.toList)).isSome with
  | true =>
   obtain ⟨v,hv2⟩:∃ v:Va,QCj (vaL (pre.map (·.1))) (.string nx.data.toList) = some (QGK v.name v.sort v.type v.index):=by
    rw [QEo] at hf ⊢
    cases hq:(pre.map (·.1)).find? (fun v=>decide (v.name = nx)) with
    | none=>rw [hq] at hf;cases hf
    | some v=>exact ⟨v,rfl⟩
   obtain ⟨vn,vs,vt,vi⟩:=v
   have HM3:Hid (∀ x,QCj (vaL (pre.map (·.1))) x = QCj (vaL (pre.map (·.1) ++ [⟨nx,so,ty,ix⟩])) x):=hid fun x=>by rw [hx3];exact (QJP hf x).symm
   rw [hv2] at lk
   dsimp only [Option.getD,Option.isSome,QGK] at lk
   clear hf hv2 hx3
   dsimp only
   gi_wp2_with fail
   refine ⟨(KeepsOthers.alloc _ _).from _,QDP (QA5 (Below.refl _ _) _),?_⟩
   show QJb w V (w.heap.size+1+1) ((pre ++ [(⟨⟨nx,so,ty,ix⟩,hx⟩ : {v:Va // v∈QAV d})]).map (·.1)) _
   rw [HLN.out]
   have hi:=(QDs w V _ hz1.out VB.out.size).alloc (.cells #[.string vn,.int .i64 vs,.int .i64 vt,.int .i64 vi] 67) (show QJb w V (w.heap.size+1+1) (pre.map (·.1)) W from ⟨HM.out,H2.out,HB.out,HN.out⟩)
   exact ⟨(hi.1.mono (by simp)).ext HM3.out,hi.2⟩
  | false =>
   have hn:QCj (vaL (pre.map (·.1))) (.string nx.data.toList) = none:=Option.not_isSome_iff_eq_none.1 (by rw [hf];simp)
   rw [hn] at lk
   dsimp only [Option.getD,Option.isSome] at lk
   have hi:=(QDs w V _ hz1.out VB.out.size).alloc (.cells #[.string ⟨#[]⟩,.int .i64 0,.int .i64 0,.int .i64 0] 67) (show QJb w V (w.heap.size+1+1) (pre.map (·.1)) W from ⟨HM.out,H2.out,HB.out,HN.out⟩)
   obtain ⟨W3,up,hM3,hg⟩:=hi.1.put strKeyed Tryz.underlying88 (by rw [List.length_map];unfold maxLen;omega) (val:=QGK nx so ty ix) (QDG nx hxn)
   have HM3:=hid (hM3.ext (G:=QCj (vaL (pre.map (·.1) ++ [⟨nx,so,ty,ix⟩]))) fun x=>by rw [hx3];exact QJN hf x)
   have HI:=hid hi
   have hbz:=QA5 (Below.refl W.heap.size W) (.cells #[.string ⟨#[]⟩,.int .i64 0,.int .i64 0,.int .i64 0] 67)
   have s1:=QA1 hbz s0
   have z0:=QA1 hbz y0
   have z1:=QA1 hbz y1
   have z2:=QA1 hbz y2
   have z3:=QA1 hbz y3
   have HG:=hid hg
   dsimp only [QGK] at up
   clear hf hn hx3 hM3 hi hg hbz
   dsimp only
   gi_wp2_with fail
   refine ⟨((KeepsOthers.alloc _ _).from _).trans (KeepsFrom.of_grownBy HG.out (fun j e=>by cases e;exact hz1.out)),(QDP (QA5 (Below.refl _ _) _)).trans (QIG HG.out),?_⟩
   show QJb w V (w.heap.size+1+1) ((pre ++ [(⟨⟨nx,so,ty,ix⟩,hx⟩ : {v:Va // v∈QAV d})]).map (·.1)) _
   rw [HLN.out]
   obtain ⟨_,i2,i3,i4⟩:=HI.out
   refine ⟨by rw [List.length_append];exact HM3.out,fun k hk he=>(HG.out.block k (Nat.lt_of_lt_of_le hk i4) (fun e=>he (Option.some.inj e))).trans (i2 k hk he),i3.grown HG.out i3.size (fun k e=>by cases e;omega),Nat.le_trans i4 HG.out.size⟩
 case done =>
  rintro E ys W hE hys ⟨h1,h2,h3,h4⟩ hmark
  have hl2:ys.length≤2000:=by
   have h:=QJT d
   have:=hnp.out
   have:=hni.out
   have e:(ys.map (·.1)).length = (QAV d).length:=by rw [show ys.map (·.1) = QAV d from hys]
   rw [List.length_map] at e
   omega
  have L0:ScLate w V E d (stL (d.items.take 0)) 0 W:=⟨((show MapIs W 9 _ (ys.map (·.1)).length _ from h1).mono (by rw [List.length_map];exact hl2)).ext fun x=>by rw [show ys.map (·.1) = QAV d from hys],
   ((QFC (h2 _ (by have:=VS.out;omega) (by omega) |>.trans V3.out)).ext fun x=>(stF_nil x).symm),fun k hk e1 _=>h2 k hk e1,h3,hmark,h4⟩
  have HL0:=hid L0
  have hED:Hid (w.heap.size+1+1+1 < E):=hid (by have:=VS.out;omega)
  have HVE:Hid (V.heap.size≤E):=hid hE
  obtain ⟨_,b0,b1,b2,b3,b4,b5,b6⟩:=QAe ((h2 w.heap.size (by have:=VS.out;omega) (by omega)).trans V0.out)
  clear h1 h2 h3 h4 hmark hys L0 hE hl2 b0 b1 b2 b4 b5 b6
  dsimp only
  gi_wp2_with fail
  clear b3
  gi_loopw [35] (fun i wr=>∃ j:Nat,i = .int .i64 j∧j≤ni∧Hid (ScLate w V E d (stL (d.items.take j)) (j*1000) wr)) (fun i _=>ni - QA2 i)
  case atStart=>exact ⟨0,rfl,Nat.zero_le _,HL0⟩
  case round =>
   clear HL0
   obtain ⟨j,rfl,hj,hL⟩:=hrel
   rcases Nat.lt_or_ge j ni with hlt | hge
   ·have q3:(j:Int) < (ni:Int):=by omega
    have ix:=QEL (cap:=capi) hoi.out hlt (by omega)
    unfold Ix at ix
    obtain ⟨x,hx⟩:∃ x,d.items[j]? = some x:=⟨_,List.getElem?_eq_getElem (by have:=hni.out;omega)⟩
    obtain ⟨sv,i0,i1,i2,i3,i4,i5,i6,i7,i8,⟨os,caps,bs,offs,rfl,_,_,hso,hsc⟩,hok⟩:=hvi.out j hlt x hx
    have hb:=hL.out.below
    have p0:=QA1 hb i0
    have p1:=QA1 hb i1
    have p2:=QA1 hb i2
    have p3:=QA1 hb i3
    have p4:=QA1 hb i4
    have p5:=QA1 hb i5
    have p6:=QA1 hb i6
    have p7:=QA1 hb i7
    have p8:=QA1 hb i8
    have hsl:x.states.length≤1000:=hst.out x (List.mem_of_getElem? hx)
    have HT:Hid (stL (d.items.take (j+1)) = stL (d.items.take j) ++ x.states.map fun s=>((j:Int),s)):=hid (QOK _ _ _ hx)
    have HSO:=hid hso
    have HSC:Hid (∀ c,c < x.states.length→∀ s,x.states[c]? = some s→w.cell? ⟨bs,offs+c,none⟩ = some (.string s)∧s.size≤maxLen):=hid fun c hc s hs=>⟨by
     have h:=hsc c hc
     rw [Nat.mul_one,List.getD,hs] at h
     exact h,by have h:=hok.statesOk s (List.mem_of_getElem? hs);unfold QAH at h;unfold maxLen;omega⟩
    obtain ⟨ns,hns⟩:∃ ns,ns = x.states.length:=⟨_,rfl⟩
    rw [← hns] at p5 HSO HSC hsl
    have HNS:=hid hns
    have HL2:=hid (hL.out.on (QA5 (Below.refl wr.heap.size wr) (.cells #[.int .i64 x.kind,.string x.name,.int .i64 x.type,.int .i64 x.e,.int .i64 x.f,.slice os ns caps,.string x.state,.string x.next,.int .i64 x.pos] 57)))
    clear hx hb i0 i1 i2 i3 i4 i5 i6 i7 i8 hok hso hsc hns hL
    gi_wp2_with fail
    gi_loopw [43] (fun i wq=>∃ c:Nat,i = .int .i64 c∧c≤ns∧Hid (ScLate w V E d (stL (d.items.take j) ++ (x.states.take c).map fun s=>((j:Int),s)) (j*1000+c) wq)) (fun i _=>ns - QA2 i)
    case atStart=>exact ⟨0,rfl,Nat.zero_le _,hid (by simpa using HL2.out)⟩
    case round =>
     clear HL2 p0 p1 p2 p3 p4 p5 p6 p7 p8 ix
     obtain ⟨c,rfl,hc,hL⟩:=hrel
     rcases Nat.lt_or_ge c ns with hlt2 | hge2
     ·have q4:(c:Int) < (ns:Int):=by omega
      have ix:=QIF (cap:=caps) HSO.out hlt2 (by omega)
      unfold Ix at ix
      simp only [Nat.mul_one] at ix
      obtain ⟨s,hs⟩:∃ s,x.states[c]? = some s:=⟨_,List.getElem?_eq_getElem (by have:=HNS.out;omega)⟩
      obtain ⟨c0,hss⟩:=HSC.out c hlt2 s hs
      have e0:=QA1 hL.out.below c0
      have s1:=(QAA ((hL.out.same (w.heap.size+1+1+1+1) (by have:=VS.out;omega) (by omega) (by omega)).trans V4.out)).2
      obtain ⟨Y,up,hL3⟩:=hL.out.put hED.out (by unfold maxLen;omega) (i:=(j:Int)) (QMr (by omega)) hss
      have HL3:Hid (ScLate w V E d (stL (d.items.take j) ++ (x.states.take (c+1)).map fun s=>((j:Int),s)) (j*1000+(c+1)) Y):=hid (by
       rw [List.take_add_one,hs]
       simpa [Nat.add_assoc] using hL3)
      clear hs c0 hL3 hL
      gi_wp2_with fail
      go_roundw
      case rel=>exact ⟨c+1,by go_num,by omega,HL3⟩
      case measure=>simp [QA2];omega
     ·obtain rfl:c = ns:=by omega
      rw [show x.states.take c = x.states by rw [HNS.out];exact List.take_length] at hL
      gi_wp2_with fail
      go_roundw
      case rel=>exact ⟨j+1,by go_num,by omega,hid (by rw [HT.out];exact ⟨hL.out.vars,hL.out.sts.mono (by omega),hL.out.same,hL.out.below,hL.out.mark,hL.out.size⟩)⟩
      case measure=>simp [QA2];omega
   ·obtain rfl:j = ni:=by omega
    rw [show d.items.take j = d.items by rw [← hni.out];exact List.take_length] at hL
    have z4:=(hL.out.same (w.heap.size+1+1+1+1) (by have:=VS.out;omega) (by omega) (by omega)).trans V4.out
    have z1:=(hL.out.same (w.heap.size+1) (by have:=VS.out;omega) (by omega) (by omega)).trans V1.out
    have s0:=(QAA z4).1
    have s1:=(QAA z4).2
    have r0:=(QAA z1).1
    have r1:=(QAA z1).2
    have f0:wr.frozen? ⟨w.heap.size+1,0,none⟩ = false:=by simp [World.frozen?,z1]
    have f1:wr.frozen? ⟨w.heap.size+1,1,none⟩ = false:=by simp [World.frozen?,z1]
    have Z1:=hid z1
    clear z4 z1
    gi_wp2_with fail
    obtain ⟨Z,hZ⟩:∃ Z,Z = (wr.setCell ⟨w.heap.size+1,0,none⟩ (.map (some (w.heap.size+1+1)))).setCell ⟨w.heap.size+1,1,none⟩ (.map (some (w.heap.size+1+1+1))):=⟨_,rfl⟩
    rw [← hZ]
    have ks:∀ k,k≠w.heap.size+1→Z.heap[k]? = wr.heap[k]?:=fun k hk=>by rw [hZ,Below.heap_setCell _ _ _ _ (by simpa using hk),Below.heap_setCell _ _ _ _ (by simpa using hk)]
    have k1:Z.heap[w.heap.size+1]? = some (.cells #[.map (some (w.heap.size+1+1)),.map (some (w.heap.size+1+1+1))] 91 (0,0)):=by rw [hZ,QAT (QAT Z1.out 0 _) 1 _];rfl
    have hbZ:Below w.heap.size w Z:=by rw [hZ];exact (hL.out.below.setCell (p:=⟨w.heap.size+1,0,none⟩) (Nat.le_succ _) _).setCell (p:=⟨w.heap.size+1,1,none⟩) (Nat.le_succ _) _
    have hd:=hED.out
    have kD:Z.heap[E]? = some (.deferred (some [])):=(ks E (by omega)).trans hL.out.mark
    refine ⟨by simp,.inl ⟨_,_,rfl,run_takeDeferred kD,?_⟩⟩
    have po:∀ k,k≠E→(Z.putObj E (.deferred none)).heap[k]? = Z.heap[k]?:=fun k hk=>World.putObj_heap_other (by omega)
    have e1:=(po (w.heap.size+1) (by omega)).trans k1
    have r2:(Z.putObj E (.deferred none)).cell? ⟨w.heap.size+1,0,none⟩ = some (.map (some (w.heap.size+1+1))):=by simp [World.cell?,e1]
    have r3:(Z.putObj E (.deferred none)).cell? ⟨w.heap.size+1,1,none⟩ = some (.map (some (w.heap.size+1+1+1))):=by simp [World.cell?,e1]
    refine ⟨.agg #[.map (some (w.heap.size+1+1)),.map (some (w.heap.size+1+1+1))],by simp [results,Tryz.results39,go_sem,r2,r3],_,_,rfl,by omega,by omega,by omega,⟨?_,?_⟩,QL9 hbZ (by omega) _⟩
    ·exact hL.out.vars.same ((po _ (by omega)).trans (ks _ (by omega)))
    ·exact (hL.out.sts.mono (by omega)).same ((po _ (by omega)).trans (ks _ (by omega)))
 case stop =>
  rintro E c pre W _ _ h _
  exact h.elim
theorem QIW (d:De) (v:Value) (w:World) (hv:DeVal w v d) (hp:d.params.length≤1000) (hi:d.items.length≤1000) (hst:∀ x∈d.items,x.states.length≤1000) :
  CallsIn Fence.wide 5 Tryz.prog 39 #[v] w fun r Y=>QL3 d w r Y:=by
 obtain ⟨s,t,rfl,hs,ht,hk⟩:=id hv
 obtain ⟨op,capp,bp,fp,rfl,h1⟩:=id hs
 obtain ⟨oi,capi,bi,fi,rfl,h2,h3,h4,h5⟩:=id ht
 exact QKU d op oi _ _ capp capi bi fi (hid rfl) (hid rfl) (by omega) (by omega) (hid h4) w (hid h5) (hid hv) (hid hst)
theorem QMc {d:De} {v:Value} {w:World} (hv:DeVal w v d) (hp:d.params.length≤1000) (hi:d.items.length≤1000):ScOk d:=by
 obtain ⟨s,t,_,hs,ht,hk⟩:=hv
 obtain ⟨oi,capi,bi,fi,_,h2,h3,h4,h5⟩:=ht
 refine ⟨fun x hx=>?_,fun q hq=>?_⟩
 ·obtain ⟨k,hk2,hk3⟩:∃ k:Nat,x.index = (k:Int)∧k≤1000:=by
   unfold QAV QBI QB4 at hx
   rcases List.mem_append.1 hx with h | h
   ·obtain ⟨⟨a,k⟩,h1,rfl⟩:=List.mem_map.1 h
    have:=List.mem_zipIdx_iff_getElem?.1 h1
    exact ⟨k,rfl,by have:=(List.getElem?_eq_some_iff.1 this).1;dsimp only at this;omega⟩
   ·obtain ⟨⟨a,k⟩,h1,h2⟩:=List.mem_filterMap.1 h
    have:=List.mem_zipIdx_iff_getElem?.1 h1
    have hkk:=(List.getElem?_eq_some_iff.1 this).1
    dsimp only at h2 hkk
    split at h2
    ·cases h2
    ·cases h2
     exact ⟨k,rfl,by omega⟩
  rw [hk2]
  exact QMr (by omega)
 ·unfold stL at hq
  obtain ⟨⟨a,k⟩,h1,h2⟩:=List.mem_flatMap.1 hq
  obtain ⟨s,h3,rfl⟩:=List.mem_map.1 h2
  have hak:=List.mem_zipIdx_iff_getElem?.1 h1
  have hkk:=(List.getElem?_eq_some_iff.1 hak).1
  dsimp only at hak hkk h3
  obtain ⟨_,_,_,_,_,_,_,_,_,_,_,hok⟩:=h5 k hkk a hak
  exact ⟨QMr (by dsimp only;omega),by have:=hok.statesOk s h3;unfold QAH at this;unfold maxLen;dsimp only;omega⟩
def hybs (l:List De):Nat:=l.countP fun d=>d.kind == 3
def QDM (p:Pr) (nm:ByteArray):Int:=((QBR p nm).map fun z=>(z.2:Int)).getD 0
def QCY (p:Pr) (i:Nat) (d:De):Bool:=(QDM p d.name != (i:Int)) || (d.kind == 3 && decide (1 < hybs (p.decls.take (i+1))))
def QCg (p:Pr) (c:Nat):List Int:=(p.decls.take c).zipIdx.filterMap fun z=>if QCY p z.2 z.1 then some z.1.pos else none
def QC7 (p:Pr):List Int:=QCg p p.decls.length ++ if hybs p.decls = 0 then [0] else []
theorem QI5 (p:Pr) (c:Nat) (x:De) (h:p.decls[c]? = some x):QCg p (c+1) = QCg p c ++ if QCY p c x then [x.pos] else []:=by
 have hl:=(List.getElem?_eq_some_iff.1 h).1
 unfold QCg
 rw [List.take_add_one,h]
 simp only [Option.toList_some,List.zipIdx_append,List.filterMap_append]
 congr 1
 cases hm:QCY p c x <;> simp [hm,Nat.min_eq_left (Nat.le_of_lt hl)]
theorem QJo (p:Pr) (c:Nat):QCg p c <+: QCg p p.decls.length:=by
 have e:p.decls.take p.decls.length = p.decls.take c ++ p.decls.drop c:=by rw [List.take_length,List.take_append_drop]
 unfold QCg
 rw [e,List.zipIdx_append,List.filterMap_append]
 exact List.prefix_append _ _
theorem QDg (l:List De) (c:Nat) (x:De) (h:l[c]? = some x):hybs (l.take (c+1)) = hybs (l.take c)+if x.kind = 3 then 1 else 0:=by
 unfold hybs
 rw [List.take_add_one,h]
 by_cases hk:x.kind = 3 <;> simp [List.countP_append,hk]
theorem QF4 (l:List De):hybs l≤l.length:=List.countP_le_length
theorem QI8 (p:Pr) (nm:ByteArray):(QCj (QFY p.decls) (.string nm.data.toList)).getD (.int .i64 0) = .int .i64 (QDM p nm):=by
 rw [QHC]
 unfold QDM QBR
 cases p.decls.zipIdx.find? (fun z=>decide (z.1.name = nm)) <;> rfl
set_option maxRecDepth 100000 in
theorem QFW (n:Nat) (p:Pr) (o1:Option Addr) (m c1 db doff B C mf N:Nat) (ve:Value) (hm:Hid (p.decls.length = m)) (ml:(m:Int)≤60) (M:Nat→Prop) (rw:World→Option Nat) (w:World) (hA:Hid (Near M rw w))
  (hB:Hid (QAc M rw w B∧QAc M rw w C∧QAc M rw w mf)) (hBc:Hid (w.heap[B]? = some (.cells #[.slice o1 m c1,ve] 26 (0,0)))) (hCc:Hid (w.heap[C]? = some (.cells #[.map (some mf)] 83 (0,0)))) (hF:Hid (MapIs w 9 mf N (QCj (QFY p.decls))))
  (hd:Hid (0 < m→o1 = some ⟨db,doff,none⟩)) (hdS:Hid (0 < m→QAc M rw w db)) (hdc:Hid (∀ i,i < m→∀ x,p.decls[i]? = some x→DeAt w db (doff+i*7) x)) (lp n1:Nat) (J Jx:List Int→World→Prop)
  (W:World) (hW:Hid (Below w.heap.size w W)) (hJ:Hid (∀ s X Y,J s X→Below X.heap.size X Y→J s Y))
  (hY:Hid (∀ pre (v:Int) W1,J pre W1→pre ++ [v] <+: QC7 p→YieldAt Fence.wide (n - 1) Tryz.prog lp #[.int .i64 v] W1 fun e W' =>
   (e = .returned (.bool true)∧J (pre ++ [v]) W'∧KeepX M rw w.heap.size n1 W1 W')∨(e = .returned (.bool false)∧Jx (pre ++ [v]) W')))
  (h0:Hid (J [] W)) :
  CallsIn Fence.wide n Tryz.prog 60 #[.func (.yield lp) #[] #[],.pointer (some ⟨B,0,none⟩),.pointer (some ⟨C,0,none⟩)] W fun e W'=>(∃ v,e = .returned v) ∧
   ((∃ ys:List Int,ys = QC7 p∧J ys W')∨(∃ pre:List Int,pre <+: QC7 p∧Jx pre W')):=by
 have hBW:=(hW.out.block _ hB.out.1.1).trans hBc.out
 have b0:=(QAA hBW).1
 have HK:=hid (Kept.start hA.out hW.out)
 clear hBW
 refine callsIn_of_wp Tryz.func60 rfl trivial ?_ rfl
 simp only [Tryz.ntmps60,List.size_toArray,List.length_cons,List.length_nil,Nat.reduceAdd,Nat.reduceSub,Array.replicate_succ,Array.replicate_zero,List.push_toArray,List.append_toArray,List.nil_append,List.cons_append]
 gi_wp2_with fail
 clear b0
 gi_loopw [4,11] (fun h i wr=>∃ (j:Nat),i = .int .i64 j∧h = .int .i64 (hybs (p.decls.take j):Nat)∧Hid (j≤m)∧Hid (J (QCg p j) wr)∧Hid (Kept M rw w wr)) (fun _ i _=>m - QA2 i)
 case atStart=>exact ⟨0,rfl,rfl,hid (Nat.zero_le _),h0,HK⟩
 case round =>
  clear HK
  obtain ⟨j,rfl,rfl,hj,hJp,hKp⟩:=hrel
  have jl:=hj.out
  rcases Nat.lt_or_ge j m with hlt | hge
  ·have q3:(j:Int) < (m:Int):=by omega
   have ix:=QCh (cap:=c1) hd.out hlt (by omega)
   unfold Ix at ix
   obtain ⟨x,hx⟩:∃ x,p.decls[j]? = some x:=⟨_,List.getElem?_eq_getElem (by have:=hm.out;omega)⟩
   obtain ⟨op,capp,oi,capi,bi,offi,hok,e0,e1,e2,e3,e4,e5,e6,_,_⟩:=QGO (hdc.out j hlt x hx)
   have hbk:=hKp.out.2.2 _ (hdS.out (by omega))
   have p0:=(cell_same' hbk _).trans e0
   have p1:=(cell_same' hbk _).trans e1
   have p2:=(cell_same' hbk _).trans e2
   have p3:=(cell_same' hbk _).trans e3
   have p4:=(cell_same' hbk _).trans e4
   have p5:=(cell_same' hbk _).trans e5
   have p6:=(cell_same' hbk _).trans e6
   obtain ⟨OB,hOB⟩:∃ OB,OB = Obj.cells #[.int .i64 x.kind,.string x.name,.slice op x.params.length capp,.slice oi x.items.length capi,.int .i64 x.type,.int .i64 x.e,.int .i64 x.pos] 36:=⟨_,rfl⟩
   have ba:Below wr.heap.size wr (wr.alloc OB):=QA5 (Below.refl _ _) _
   have HJa:=hid (hJ.out _ _ _ hJp.out ba)
   have HKa:=hid (hKp.out.below hA.out ba)
   have hm1:=hF.out.same (hKp.out.2.2 _ hB.out.2.2)
   have hmm:=hm1.below ba hm1.lt
   have lk:=hmm.look strKeyed Tryz.underlying83 (QIm (wr.alloc OB)) (QDG x.name (by have:=hok.name;unfold QAH at this;unfold maxLen;omega))
   rw [QI8] at lk
   have hCr:=(hKp.out.2.2 _ hB.out.2.1).trans hCc.out
   have c0:(wr.alloc OB).cell? ⟨C,0,none⟩ = some (.map (some mf)):=QA1 ba (QEI hCr).1
   have HT:=hid (QI5 p j x hx)
   have HH:=hid (QDg p.decls j x hx)
   have HPre:=hid (QJo p (j+1))
   have hhl:((hybs (p.decls.take j):Nat):Int)≤60:=by
    have h1:=QF4 (p.decls.take j)
    have h2:(p.decls.take j).length≤j:=by simp [List.length_take];omega
    omega
   have T0:Hid (QCY p j x = ((QDM p x.name != (j:Int)) || (x.kind == 3 && decide (1 < hybs (p.decls.take (j+1)))))):=hid rfl
   obtain ⟨h,hhd⟩:∃ h,h = hybs (p.decls.take j):=⟨_,rfl⟩
   rw [← hhd] at hhl HH ⊢
   obtain ⟨fx,hfx⟩:∃ fx,fx = QDM p x.name:=⟨_,rfl⟩
   rw [← hfx] at lk T0
   rw [hOB] at HJa HKa lk c0
   clear hhd hfx hOB ba hmm hm1 hCr hok e0 e1 e2 e3 e4 e5 e6 hbk hx hJp hKp
   by_cases hk:x.kind = 3
   ·have qk:(x.kind == 3) = true:=by simp [hk]
    rw [if_pos hk] at HH
    clear hk
    rw [HH.out,qk] at T0
    by_cases hf:fx = (j:Int)
    ·have qf:(fx != (j:Int)) = false:=by simp [hf]
     clear hf
     rw [qf] at T0
     by_cases h1:0 < h
     ·have q1:decide ((1:Int) < (h:Int)+1) = true:=decide_eq_true (by omega)
      have TT:Hid (QCY p j x = true):=hid (by rw [T0.out,decide_eq_true (by omega)];rfl)
      clear h1
      rw [TT.out,if_pos rfl] at HT
      obtain ⟨fn,tmps,assign,body,hy,hR⟩:=hY.out _ x.pos _ HJa.out (by rw [← HT.out];exact HPre.out.trans (List.prefix_append _ _))
      have hy' : (Instr.yield lp #[.int .i64 x.pos]).run Tryz.prog (wr.alloc (.cells #[.int .i64 x.kind,.string x.name,.slice op x.params.length capp,.slice oi x.items.length capi,.int .i64 x.type,.int .i64 x.e,.int .i64 x.pos] 36)) = .ok (.round lp fn tmps assign body) (wr.alloc (.cells #[.int .i64 x.kind,.string x.name,.slice op x.params.length capp,.slice oi x.items.length capi,.int .i64 x.type,.int .i64 x.e,.int .i64 x.pos] 36)):=hy
      have HR:=hid hR
      clear hy hR
      gi_wp2_with fail
      refine ⟨fun h=>(by cases h),HR.out.mono ?_⟩
      rintro e W3 (⟨rfl,hJ3,hk3⟩ | ⟨rfl,hJx3⟩)
      ·have HK3:=hid (HKa.out.keepx hk3)
       have HJ3:=hid hJ3
       clear hJ3 hk3
       gi_wp2_with fail
       go_roundw
       case rel=>exact ⟨j+1,by go_num,by rw [HH.out];go_num,hid (by omega),by rw [HT.out];exact HJ3,HK3⟩
       case measure=>simp [QA2];omega
      ·have HJx3:=hid hJx3
       clear hJx3
       gi_wp2_with fail
       refine bodyPost_ret (results_none rfl _ _ _) rfl ?_
       exact ⟨⟨_,rfl⟩,.inr ⟨_,by rw [← HT.out];exact HPre.out.trans (List.prefix_append _ _),HJx3.out⟩⟩
     ·have q1:decide ((1:Int) < (h:Int)+1) = false:=decide_eq_false (by omega)
      have TT:Hid (QCY p j x = false):=hid (by rw [T0.out,decide_eq_false (by omega)];rfl)
      clear h1
      rw [TT.out,if_neg (by simp),List.append_nil] at HT
      gi_wp2_with fail
      refine ⟨fun f h=>(by cases h),?_⟩
      gi_wp2_with fail
      go_roundw
      case rel=>exact ⟨j+1,by go_num,by rw [HH.out];go_num,hid (by omega),by rw [HT.out];exact HJa,HKa⟩
      case measure=>simp [QA2];omega
    ·have qf:(fx != (j:Int)) = true:=by simp [hf]
     clear hf
     have TT:Hid (QCY p j x = true):=hid (by rw [T0.out,qf];rfl)
     rw [TT.out,if_pos rfl] at HT
     obtain ⟨fn,tmps,assign,body,hy,hR⟩:=hY.out _ x.pos _ HJa.out (by rw [← HT.out];exact HPre.out.trans (List.prefix_append _ _))
     have hy' : (Instr.yield lp #[.int .i64 x.pos]).run Tryz.prog (wr.alloc (.cells #[.int .i64 x.kind,.string x.name,.slice op x.params.length capp,.slice oi x.items.length capi,.int .i64 x.type,.int .i64 x.e,.int .i64 x.pos] 36)) = .ok (.round lp fn tmps assign body) (wr.alloc (.cells #[.int .i64 x.kind,.string x.name,.slice op x.params.length capp,.slice oi x.items.length capi,.int .i64 x.type,.int .i64 x.e,.int .i64 x.pos] 36)):=hy
     have HR:=hid hR
     clear hy hR
     gi_wp2_with fail
     refine ⟨fun h=>(by cases h),HR.out.mono ?_⟩
     rintro e W3 (⟨rfl,hJ3,hk3⟩ | ⟨rfl,hJx3⟩)
     ·have HK3:=hid (HKa.out.keepx hk3)
      have HJ3:=hid hJ3
      clear hJ3 hk3
      gi_wp2_with fail
      go_roundw
      case rel=>exact ⟨j+1,by go_num,by rw [HH.out];go_num,hid (by omega),by rw [HT.out];exact HJ3,HK3⟩
      case measure=>simp [QA2];omega
     ·have HJx3:=hid hJx3
      clear hJx3
      gi_wp2_with fail
      refine bodyPost_ret (results_none rfl _ _ _) rfl ?_
      exact ⟨⟨_,rfl⟩,.inr ⟨_,by rw [← HT.out];exact HPre.out.trans (List.prefix_append _ _),HJx3.out⟩⟩
   ·have qk:(x.kind == 3) = false:=by simpa using hk
    rw [if_neg hk] at HH
    clear hk
    rw [qk] at T0
    by_cases hf:fx = (j:Int)
    ·have qf:(fx != (j:Int)) = false:=by simp [hf]
     clear hf
     have TT:Hid (QCY p j x = false):=hid (by rw [T0.out,qf];rfl)
     rw [TT.out,if_neg (by simp),List.append_nil] at HT
     gi_wp2_with fail
     refine ⟨fun f h=>(by cases h),?_⟩
     gi_wp2_with fail
     go_roundw
     case rel=>exact ⟨j+1,by go_num,by rw [HH.out];rfl,hid (by omega),by rw [HT.out];exact HJa,HKa⟩
     case measure=>simp [QA2];omega
    ·have qf:(fx != (j:Int)) = true:=by simp [hf]
     clear hf
     have TT:Hid (QCY p j x = true):=hid (by rw [T0.out,qf];rfl)
     rw [TT.out,if_pos rfl] at HT
     obtain ⟨fn,tmps,assign,body,hy,hR⟩:=hY.out _ x.pos _ HJa.out (by rw [← HT.out];exact HPre.out.trans (List.prefix_append _ _))
     have hy' : (Instr.yield lp #[.int .i64 x.pos]).run Tryz.prog (wr.alloc (.cells #[.int .i64 x.kind,.string x.name,.slice op x.params.length capp,.slice oi x.items.length capi,.int .i64 x.type,.int .i64 x.e,.int .i64 x.pos] 36)) = .ok (.round lp fn tmps assign body) (wr.alloc (.cells #[.int .i64 x.kind,.string x.name,.slice op x.params.length capp,.slice oi x.items.length capi,.int .i64 x.type,.int .i64 x.e,.int .i64 x.pos] 36)):=hy
     have HR:=hid hR
     clear hy hR
     gi_wp2_with fail
     refine ⟨fun h=>(by cases h),HR.out.mono ?_⟩
     rintro e W3 (⟨rfl,hJ3,hk3⟩ | ⟨rfl,hJx3⟩)
     ·have HK3:=hid (HKa.out.keepx hk3)
      have HJ3:=hid hJ3
      clear hJ3 hk3
      gi_wp2_with fail
      go_roundw
      case rel=>exact ⟨j+1,by go_num,by rw [HH.out];rfl,hid (by omega),by rw [HT.out];exact HJ3,HK3⟩
      case measure=>simp [QA2];omega
     ·have HJx3:=hid hJx3
      clear hJx3
      gi_wp2_with fail
      refine bodyPost_ret (results_none rfl _ _ _) rfl ?_
      exact ⟨⟨_,rfl⟩,.inr ⟨_,by rw [← HT.out];exact HPre.out.trans (List.prefix_append _ _),HJx3.out⟩⟩
  ·obtain rfl:j = m:=by omega
   have HJ1:=hid hJp.out
   rw [show p.decls.take j = p.decls by rw [← hm.out];exact List.take_length]
   obtain ⟨h,hh⟩:∃ h,h = hybs p.decls:=⟨_,rfl⟩
   have HD:Hid (QC7 p = QCg p j ++ if h = 0 then [0] else []):=hid (by rw [hh];unfold QC7;rw [hm.out])
   rw [← hh]
   clear hh hJp hKp
   by_cases hz:h = 0
   ·subst hz
    rw [if_pos rfl] at HD
    obtain ⟨fn,tmps,assign,body,hy,hR⟩:=hY.out _ 0 _ HJ1.out (by rw [HD.out];exact List.prefix_refl _)
    have hy' : (Instr.yield lp #[.int .i64 0]).run Tryz.prog wr = .ok (.round lp fn tmps assign body) wr:=hy
    have HR:=hid hR
    clear hy hR
    gi_wp2_with fail
    refine ⟨fun h=>(by cases h),HR.out.mono ?_⟩
    rintro e W3 (⟨rfl,hJ3,_⟩ | ⟨rfl,hJx3⟩)
    ·have HJ3:=hid hJ3
     clear hJ3
     gi_wp2_with fail
     go_end0
     exact ⟨⟨_,rfl⟩,.inl ⟨_,rfl,by rw [HD.out];exact HJ3.out⟩⟩
    ·have HJ3:=hid hJx3
     clear hJx3
     gi_wp2_with fail
     go_end0
     exact ⟨⟨_,rfl⟩,.inr ⟨_,List.prefix_refl _,by rw [HD.out];exact HJ3.out⟩⟩
   ·have qz:((h:Int) == 0) = false:=by simpa using hz
    rw [if_neg hz,List.append_nil] at HD
    clear hz
    gi_wp2_with fail
    go_end0
    exact ⟨⟨_,rfl⟩,.inl ⟨_,rfl,by rw [HD.out];exact HJ1.out⟩⟩
structure PrSrc (M:Nat→Prop) (rw:World→Option Nat) (w:World) (p:Pr) (B C mf N:Nat):Prop where
 prog:∃ sd se,w.heap[B]? = some (.cells #[sd,se] 26 (0,0))∧SlAt sd p.decls.length 7 (fun b o i=>QAc M rw w b∧∀ x,p.decls[i]? = some x→DeAt w b o x)
 sB:QAc M rw w B
 sC:QAc M rw w C
 sm:QAc M rw w mf
 map:w.heap[C]? = some (.cells #[.map (some mf)] 83 (0,0))
 firsts:MapIs w 9 mf N (QCj (QFY p.decls))
theorem QFj (n:Nat) (p:Pr) (B C mf N:Nat) (E M:Nat→Prop) (rw:World→Option Nat) (w:World) (hp:p.decls.length≤60) (hA:Near M rw w) (hs:PrSrc M rw w p B C mf N) :
  SeqX (α:=Int) Fence.wide n Tryz.prog 60 #[.pointer (some ⟨B,0,none⟩),.pointer (some ⟨C,0,none⟩)] (fun v=>#[.int .i64 v]) E M rw (fun ys _=>ys = QC7 p) (fun pre=>pre <+: QC7 p) (QC7 p).length w:=by
 obtain ⟨sd,se,hB,o1,c1,db,doff,rfl,_,_,hd1,hd2⟩:=hs.prog
 intro lp J Jx W hW hJ _ _ hY h0
 exact QFW n p o1 _ c1 db doff B C mf N se (hid rfl) (by omega) M rw w (hid hA) (hid ⟨hs.sB,hs.sC,hs.sm⟩) (hid hB) (hid hs.map) (hid hs.firsts) (hid hd1) (hid fun h=>(hd2 0 h).1) (hid fun i hi=>(hd2 i hi).2) lp W.heap.size J Jx W (hid hW)
  (hid fun s X Y h hb=>hJ.below hb h) (hid fun pre v X hj hpre=>(hY pre v X hj (by have:=hpre.length_le;simp at this;omega)).mono fun r Y h=>h.imp id fun h=>⟨h.1,h.2.1⟩) (hid h0)
def Old (w X:World):Prop:=w.heap.size≤X.heap.size∧∀ k,k < w.heap.size→X.heap[k]? = w.heap[k]?
def QKC (w X:World):World:={ X with os:=w.os,tape:=w.tape,output:=w.output }
theorem Old.like {w X:World} (h:Old w X):Below w.heap.size w (QKC w X):=⟨rfl,rfl,rfl,h.1,h.2⟩
theorem Old.cell {w X:World} (h:Old w X) {a:Addr} {v:Value} (hc:w.cell? a = some v):X.cell? a = some v:=QA1 h.like hc
theorem Old.trans {w X Y:World} (h:Old w X) (hb:Below X.heap.size X Y):Old w Y:=⟨Nat.le_trans h.1 hb.size,fun k hk=>(hb.block k (Nat.lt_of_lt_of_le hk h.1)).trans (h.2 k hk)⟩
theorem DeVal.old {w X:World} {v:Value} {d:De} (h:DeVal w v d) (ho:Old w X):DeVal X v d:=by
 have h2:DeVal (QKC w X) v d:=h.below ho.like
 exact h2
theorem ProgAt.old {w X:World} {sd se:Value} {p:Pr} (h:ProgAt w sd se p) (ho:Old w X):ProgAt X sd se p:=by
 have h2:ProgAt (QKC w X) sd se p:=h.below ho.like
 exact h2
structure Base (w0:World) (M:Nat→Prop) (rw:World→Option Nat) (w:World):Prop where
 lies:Old w0 w
 free:∀ k,k < w0.heap.size→¬ M k∧rw w≠some k
theorem Old.base {w X:World} (h:Old w X):Below (QKC X w).heap.size (QKC X w) X:=⟨rfl,rfl,rfl,h.1,h.2⟩
theorem Base.old {w0:World} {M:Nat→Prop} {rw:World→Option Nat} {w X:World} (h:Base w0 M rw w) (hk:Kept M rw w X):Old w0 X :=
 ⟨Nat.le_trans h.lies.1 hk.1,fun k h1=>(hk.2.2 k ⟨Nat.lt_of_lt_of_le h1 h.lies.1,(h.free k h1).1,(h.free k h1).2⟩).trans (h.lies.2 k h1)⟩
def QIs (d:De) (i:Nat) (x:It):Bool:=QDI d i x.kind x.name x.states || QDS d x.kind x.name x.state x.next
def QAl (d:De) (c:Nat):List Int:=(d.items.take c).zipIdx.filterMap fun z=>if QIs d z.2 z.1 then some z.1.pos else none
def QAp (d:De):List Int:=if QDe (d.params.map (·.name)) then [d.pos] else []
def QBj (d:De):List Int:=QAp d ++ QAl d d.items.length
theorem QF6 (d:De) (c:Nat) (x:It) (h:d.items[c]? = some x):QAl d (c+1) = QAl d c ++ if QIs d c x then [x.pos] else []:=by
 have hl:=(List.getElem?_eq_some_iff.1 h).1
 unfold QAl
 rw [List.take_add_one,h]
 simp only [Option.toList_some,List.zipIdx_append,List.filterMap_append]
 congr 1
 cases hm:QIs d c x <;> simp [hm,Nat.min_eq_left (Nat.le_of_lt hl)]
theorem QFv (d:De) (c:Nat):QAl d c <+: QAl d d.items.length:=by
 have e:d.items.take d.items.length = d.items.take c ++ d.items.drop c:=by rw [List.take_length,List.take_append_drop]
 unfold QAl
 rw [e,List.zipIdx_append,List.filterMap_append]
 exact List.prefix_append _ _
theorem QB1 {W:World} {B:Nat} {a b c d e f g h i:Value} {T:TypeId} (hB:W.heap[B]? = some (.cells #[a,b,c,d,e,f,g,h,i] T (0,0))):W.cell? ⟨B,0,none⟩ = some a∧W.cell? ⟨B,1,none⟩ = some b∧W.cell? ⟨B,2,none⟩ = some c∧W.cell? ⟨B,3,none⟩ = some d∧W.cell? ⟨B,4,none⟩ = some e∧W.cell? ⟨B,5,none⟩ = some f∧W.cell? ⟨B,6,none⟩ = some g∧W.cell? ⟨B,7,none⟩ = some h∧W.cell? ⟨B,8,none⟩ = some i :=
 ⟨by simp [World.cell?,hB],by simp [World.cell?,hB],by simp [World.cell?,hB],by simp [World.cell?,hB],by simp [World.cell?,hB],by simp [World.cell?,hB],by simp [World.cell?,hB],by simp [World.cell?,hB],by simp [World.cell?,hB]⟩
set_option maxRecDepth 100000 in
theorem QFX (n:Nat) (d:De) (op oi:Option Addr) (np ni capp capi bi fi B C m1 m2:Nat) (hnp:Hid (d.params.length = np)) (hni:Hid (d.items.length = ni)) (np6:(np:Int)≤1000) (ni6:(ni:Int)≤1000) (w0:World) (M:Nat→Prop) (rw:World→Option Nat) (w:World) (hA:Hid (Near M rw w)) (hBa:Hid (Base w0 M rw w))
  (hpa:Hid (SlAt (.slice op np capp) d.params.length 2 (fun b o i=>∀ y,d.params[i]? = some y→PaAt w0 b o y))) (hoi:Hid (0 < ni→oi = some ⟨bi,fi,none⟩)) (hvi:Hid (∀ j,j < ni→∀ x,d.items[j]? = some x→ItAt w0 bi (fi+j*9) x)) (hst:Hid (∀ x∈d.items,x.states.length≤1000))
  (hB:Hid (QAc M rw w B∧QAc M rw w C∧QAc M rw w m1∧QAc M rw w m2)) (hBc:Hid (w.heap[B]? = some (.cells #[.int .i64 d.kind,.string d.name,.slice op np capp,.slice oi ni capi,.int .i64 d.type,.int .i64 d.e,.int .i64 d.pos] 36 (0,0)))) (hCc:Hid (w.heap[C]? = some (.cells #[.map (some m1),.map (some m2)] 91 (0,0))))
  (hSc:Hid (ScAt w m1 m2 d)) (hO:Hid (ScOk d)) (lp n1:Nat) (J Jx:List Int→World→Prop)
  (W:World) (hW:Hid (Below w.heap.size w W)) (hJ:Hid (∀ s X Y,J s X→Below X.heap.size X Y→J s Y))
  (hY:Hid (∀ pre (v:Int) W1,J pre W1→pre ++ [v] <+: QBj d→YieldAt Fence.wide (n - 1) Tryz.prog lp #[.int .i64 v] W1 fun e W' =>
   (e = .returned (.bool true)∧J (pre ++ [v]) W'∧KeepX M rw w.heap.size n1 W1 W')∨(e = .returned (.bool false)∧Jx (pre ++ [v]) W')))
  (h0:Hid (J [] W)) :
  CallsIn Fence.wide n Tryz.prog 67 #[.func (.yield lp) #[] #[],.pointer (some ⟨B,0,none⟩),.pointer (some ⟨C,0,none⟩)] W fun e W'=>(∃ v,e = .returned v) ∧
   ((∃ ys:List Int,ys = QBj d∧J ys W')∨(∃ pre:List Int,pre <+: QBj d∧Jx pre W')):=by
 have HK:=hid (Kept.start hA.out hW.out)
 have hBW:=(hW.out.block _ hB.out.1.1).trans hBc.out
 obtain ⟨_,b0,b1,b2,b3,b4,b5,b6⟩:=QAe hBW
 have TP:=hid (QKi (.slice op np capp) d.params W (hpa.out.mono fun b o i _ h y hy=>⟨(hBa.out.old HK.out).cell (h y hy).1,(hBa.out.old HK.out).cell (h y hy).2.1,(h y hy).2.2⟩) (by rw [hnp.out];omega))
 have P0:Hid (QAp d = if QDe (d.params.map (·.name)) then [d.pos] else []):=hid rfl
 have PW:Hid (QAp d <+: QBj d):=hid (List.prefix_append _ _)
 obtain ⟨dp,hdp⟩:∃ dp,dp = QDe (d.params.map (·.name)):=⟨_,rfl⟩
 rw [← hdp] at TP P0
 clear hBW b0 b1 b3 b4 b5 hdp
 cases dp with
 | false =>
  have HJ1:Hid (J (QAp d) W):=hid (by rw [P0.out];exact h0.out)
  refine callsIn_of_wp Tryz.func67 rfl trivial ?_ rfl
  simp only [Tryz.ntmps67,List.size_toArray,List.length_cons,List.length_nil,Nat.reduceAdd,Nat.reduceSub,Array.replicate_succ,Array.replicate_zero,List.push_toArray,List.append_toArray,List.nil_append,List.cons_append]
  gi_wp2_with (refine ⟨trivial,fun h=>(by cases h),?_⟩;(with_reducible refine (callsIn_wide.2 TP.out).mono ?_);rintro e W1 ⟨rfl,hw1⟩;have hb3:=(QAe (((HK.out.below hA.out hw1).2.2 _ hB.out.1).trans hBc.out)).2.2.2.2.1;have HJ2:=hid (hJ.out _ _ _ HJ1.out hw1);have HK2:=hid (HK.out.below hA.out hw1);clear hw1)
  refine ⟨fun f h=>(by cases h),?_⟩
  gi_wp2_with fail
  clear hb3
  gi_loopw [21] (fun i wr=>∃ (j:Nat),i = .int .i64 j∧Hid (j≤ni)∧Hid (J (QAp d ++ QAl d j) wr)∧Hid (Kept M rw w wr)) (fun i _=>ni - QA2 i)
  case atStart=>exact ⟨0,rfl,hid (Nat.zero_le _),(by simpa [QAl] using HJ2),HK2⟩
  case round =>
   clear HJ2 HK2
   obtain ⟨j,rfl,hj,hJp,hKp⟩:=hrel
   have jl:=hj.out
   rcases Nat.lt_or_ge j ni with hlt | hge
   ·have q3:(j:Int) < (ni:Int):=by omega
    have ix:=QEL (cap:=capi) hoi.out hlt (by omega)
    unfold Ix at ix
    obtain ⟨x,hx⟩:∃ x,d.items[j]? = some x:=⟨_,List.getElem?_eq_getElem (by have:=hni.out;omega)⟩
    obtain ⟨sv,i0,i1,i2,i3,i4,i5,i6,i7,i8,hsa,hok⟩:=hvi.out j hlt x hx
    obtain ⟨os,caps,bs,offs,rfl,hs1,hs2,hs3,hs4⟩:=id hsa
    have ho:=hBa.out.old hKp.out
    have p0:=ho.cell i0
    have p1:=ho.cell i1
    have p2:=ho.cell i2
    have p3:=ho.cell i3
    have p4:=ho.cell i4
    have p5:=ho.cell i5
    have p6:=ho.cell i6
    have p7:=ho.cell i7
    have p8:=ho.cell i8
    obtain ⟨OB,hOB⟩:∃ OB,OB = Obj.cells #[.int .i64 x.kind,.string x.name,.int .i64 x.type,.int .i64 x.e,.int .i64 x.f,.slice os x.states.length caps,.string x.state,.string x.next,.int .i64 x.pos] 57:=⟨_,rfl⟩
    obtain ⟨V,hV⟩:∃ V,V = wr.alloc OB:=⟨_,rfl⟩
    have ba:Below wr.heap.size wr V:=by rw [hV];exact QA5 (Below.refl _ _) _
    have HJa:=hid (hJ.out _ _ _ hJp.out ba)
    have HKa:=hid (hKp.out.below hA.out ba)
    have hSV:ScAt V m1 m2 d:=hSc.out.same (HKa.out.2.2 _ hB.out.2.2.1) (HKa.out.2.2 _ hB.out.2.2.2)
    have hnm:x.name.size≤maxLen:=by have:=hok.name;unfold QAH at this;unfold maxLen;omega
    have hstt:x.state.size≤maxLen:=by have:=hok.state;unfold QAH at this;unfold maxLen;omega
    have hnx:x.next.size≤maxLen:=by have:=hok.next;unfold QAH at this;unfold maxLen;omega
    have hSA:StrsAt V (.slice os x.states.length caps) x.states:=hsa.mono fun b o i _ h=>(ho.trans ba).cell h
    have TK:=hid (QHo m1 m2 d j x.kind x.type x.e x.f x.pos x.name x.state x.next x.states os x.states.length caps hnm (fun s hs=>by have:=hok.statesOk s hs;unfold QAH at this;unfold maxLen;omega) (hst.out x (List.mem_of_getElem? hx)) V (hid hSV) (hid hSA))
    have MS:Hid (∀ w1,Below V.heap.size V w1→Calls Tryz.prog 71 #[.agg #[.map (some m1),.map (some m2)],.agg #[.int .i64 x.kind,.string x.name,.int .i64 x.type,.int .i64 x.e,.int .i64 x.f,.slice os x.states.length caps,.string x.state,.string x.next,.int .i64 x.pos]] w1 fun r Y=>r = .returned (.bool (QDS d x.kind x.name x.state x.next))∧Below w1.heap.size w1 Y) :=
     hid fun w1 h1=>QG0 m1 m2 d x.kind x.type x.e x.f x.pos x.name x.state x.next os x.states.length caps hnm hstt hnx w1 (hid (hSV.below h1)) (hid hO.out)
    obtain ⟨c0,c1⟩:=QAA ((HKa.out.2.2 _ hB.out.2.1).trans hCc.out)
    have hOV:V.heap[wr.heap.size]? = some OB:=by rw [hV];exact QAR rfl
    rw [hOB] at hOV
    obtain ⟨z0,z1,z2,z3,z4,z5,z6,z7,z8⟩:=QB1 hOV
    have AFT:Hid (∀ w1,Below V.heap.size V w1→((w1.cell? ⟨C,0,none⟩ = some (.map (some m1))∧w1.cell? ⟨C,1,none⟩ = some (.map (some m2)))∧(w1.cell? ⟨wr.heap.size,0,none⟩ = some (.int .i64 x.kind)∧w1.cell? ⟨wr.heap.size,1,none⟩ = some (.string x.name)∧w1.cell? ⟨wr.heap.size,2,none⟩ = some (.int .i64 x.type)∧w1.cell? ⟨wr.heap.size,3,none⟩ = some (.int .i64 x.e)∧w1.cell? ⟨wr.heap.size,4,none⟩ = some (.int .i64 x.f)∧w1.cell? ⟨wr.heap.size,5,none⟩ = some (.slice os x.states.length caps)∧w1.cell? ⟨wr.heap.size,6,none⟩ = some (.string x.state)∧w1.cell? ⟨wr.heap.size,7,none⟩ = some (.string x.next)∧w1.cell? ⟨wr.heap.size,8,none⟩ = some (.int .i64 x.pos))∧Hid (J (QAp d ++ QAl d j) w1∧Kept M rw w w1))):=hid fun w1 h1 =>
     ⟨⟨QA1 h1 c0,QA1 h1 c1⟩,QB1 ((h1.block _ (lt_of_heap hOV)).trans hOV),hid ⟨hJ.out _ _ _ HJa.out h1,HKa.out.below hA.out h1⟩⟩
    have HT:=hid (QF6 d j x hx)
    have HPre:Hid (QAp d ++ QAl d (j+1) <+: QBj d):=hid ((List.prefix_append_right_inj _).2 (QFv d (j+1)))
    have T0:Hid (QIs d j x = (QDI d j x.kind x.name x.states || QDS d x.kind x.name x.state x.next)):=hid rfl
    obtain ⟨tk,htk⟩:∃ tk,tk = QDI d j x.kind x.name x.states:=⟨_,rfl⟩
    obtain ⟨ms,hms⟩:∃ ms,ms = QDS d x.kind x.name x.state x.next:=⟨_,rfl⟩
    rw [← htk,← hms] at T0
    rw [← htk] at TK
    rw [← hms] at MS
    have HVE:Hid (wr.alloc (.cells #[.int .i64 x.kind,.string x.name,.int .i64 x.type,.int .i64 x.e,.int .i64 x.f,.slice os x.states.length caps,.string x.state,.string x.next,.int .i64 x.pos] 57) = V):=hid (by rw [hV,hOB])
    clear htk hms hV hOB hOV ba hSV hnm hstt hnx hSA ho i0 i1 i2 i3 i4 i5 i6 i7 i8 hsa hok hs1 hs2 hs3 hs4 hx hJp hKp
    rw [← HVE.out] at c0 c1 z0 z1 z2 z3 z4 z5 z6 z7 z8 TK AFT MS HJa HKa
    cases tk with
    | true =>
     have TT:Hid (QIs d j x = true):=hid (by rw [T0.out];rfl)
     rw [TT.out,if_pos rfl] at HT
     have YY:Hid (∀ X,J (QAp d ++ QAl d j) X→YieldAt Fence.wide (n - 1) Tryz.prog lp #[.int .i64 x.pos] X fun e W' =>
      (e = .returned (.bool true)∧J (QAp d ++ QAl d (j+1)) W'∧KeepX M rw w.heap.size n1 X W')∨(e = .returned (.bool false)∧Jx (QAp d ++ QAl d (j+1)) W')):=hid fun X hX=>by
       rw [HT.out,← List.append_assoc]
       exact hY.out _ x.pos X hX (by rw [List.append_assoc,← HT.out];exact HPre.out)
     gi_wp2_with (refine ⟨trivial,fun h=>(by cases h),?_⟩;(with_reducible refine (callsIn_wide.2 TK.out).mono ?_);rintro e W1 ⟨rfl,hw1⟩;obtain ⟨⟨g0,g1⟩,⟨f0,f1,f2,f3,f4,f5,f6,f7,f8⟩,HA1⟩:=AFT.out _ hw1;obtain ⟨fn,tmps,assign,body,hy,hR⟩:=YY.out W1 HA1.out.1;have hy' : (Instr.yield lp #[.int .i64 x.pos]).run Tryz.prog W1 = .ok (.round lp fn tmps assign body) W1:=hy;have HR:=hid hR;clear hw1 hy hR)
     refine ⟨trivial,?_⟩
     gi_wp2_with fail
     refine ⟨fun h=>(by cases h),HR.out.mono ?_⟩
     rintro e W3 (⟨rfl,hJ3,hk3⟩ | ⟨rfl,hJx3⟩)
     ·have HK3:=hid (HA1.out.2.keepx hk3)
      have HJ3:=hid hJ3
      clear hJ3 hk3
      gi_wp2_with fail
      go_roundw
      case rel=>exact ⟨j+1,by go_num,hid (by omega),HJ3,HK3⟩
      case measure=>simp [QA2];omega
     ·have HJx3:=hid hJx3
      clear hJx3
      gi_wp2_with fail
      refine bodyPost_ret (results_none rfl _ _ _) rfl ?_
      exact ⟨⟨_,rfl⟩,.inr ⟨_,HPre.out,HJx3.out⟩⟩
    | false =>
     cases ms with
     | true =>
      have TT:Hid (QIs d j x = true):=hid (by rw [T0.out];rfl)
      rw [TT.out,if_pos rfl] at HT
      have YY:Hid (∀ X,J (QAp d ++ QAl d j) X→YieldAt Fence.wide (n - 1) Tryz.prog lp #[.int .i64 x.pos] X fun e W' =>
       (e = .returned (.bool true)∧J (QAp d ++ QAl d (j+1)) W'∧KeepX M rw w.heap.size n1 X W')∨(e = .returned (.bool false)∧Jx (QAp d ++ QAl d (j+1)) W')):=hid fun X hX=>by
        rw [HT.out,← List.append_assoc]
        exact hY.out _ x.pos X hX (by rw [List.append_assoc,← HT.out];exact HPre.out)
      gi_wp2_with (refine ⟨trivial,fun h=>(by cases h),?_⟩;first
       | ((with_reducible refine (callsIn_wide.2 TK.out).mono ?_);rintro e W1 ⟨rfl,hw1⟩;obtain ⟨⟨g0,g1⟩,⟨f0,f1,f2,f3,f4,f5,f6,f7,f8⟩,_⟩:=AFT.out _ hw1;have HW1:=hid hw1;clear hw1)
       | ((with_reducible refine (callsIn_wide.2 (MS.out _ HW1.out)).mono ?_);rintro e W2 ⟨rfl,hw2⟩;obtain ⟨⟨k0,k1⟩,⟨l0,l1,l2,l3,l4,l5,l6,l7,l8⟩,HA1⟩:=AFT.out _ (HW1.out.trans (hw2.mono HW1.out.size));obtain ⟨fn,tmps,assign,body,hy,hR⟩:=YY.out W2 HA1.out.1;have hy' : (Instr.yield lp #[.int .i64 x.pos]).run Tryz.prog W2 = .ok (.round lp fn tmps assign body) W2:=hy;have HR:=hid hR;clear hw2 hy hR))
      refine ⟨fun h=>(by cases h),HR.out.mono ?_⟩
      rintro e W3 (⟨rfl,hJ3,hk3⟩ | ⟨rfl,hJx3⟩)
      ·have HK3:=hid (HA1.out.2.keepx hk3)
       have HJ3:=hid hJ3
       clear hJ3 hk3
       gi_wp2_with fail
       go_roundw
       case rel=>exact ⟨j+1,by go_num,hid (by omega),HJ3,HK3⟩
       case measure=>simp [QA2];omega
      ·have HJx3:=hid hJx3
       clear hJx3
       gi_wp2_with fail
       refine bodyPost_ret (results_none rfl _ _ _) rfl ?_
       exact ⟨⟨_,rfl⟩,.inr ⟨_,HPre.out,HJx3.out⟩⟩
     | false =>
      have TT:Hid (QIs d j x = false):=hid (by rw [T0.out];rfl)
      rw [TT.out,if_neg (by simp),List.append_nil] at HT
      gi_wp2_with (refine ⟨trivial,fun h=>(by cases h),?_⟩;first
       | ((with_reducible refine (callsIn_wide.2 TK.out).mono ?_);rintro e W1 ⟨rfl,hw1⟩;obtain ⟨⟨g0,g1⟩,⟨f0,f1,f2,f3,f4,f5,f6,f7,f8⟩,_⟩:=AFT.out _ hw1;have HW1:=hid hw1;clear hw1)
       | ((with_reducible refine (callsIn_wide.2 (MS.out _ HW1.out)).mono ?_);rintro e W2 ⟨rfl,hw2⟩;obtain ⟨⟨k0,k1⟩,⟨l0,l1,l2,l3,l4,l5,l6,l7,l8⟩,HA1⟩:=AFT.out _ (HW1.out.trans (hw2.mono HW1.out.size));clear hw2))
      refine ⟨fun f h=>(by cases h),?_⟩
      gi_wp2_with fail
      go_roundw
      case rel=>exact ⟨j+1,by go_num,hid (by omega),by rw [HT.out];exact hid HA1.out.1,hid HA1.out.2⟩
      case measure=>simp [QA2];omega
   ·obtain rfl:j = ni:=by omega
    have HJ3:=hid hJp.out
    gi_wp2_with fail
    go_end0
    exact ⟨⟨_,rfl⟩,.inl ⟨_,rfl,by unfold QBj;rw [hni.out];exact HJ3.out⟩⟩
 | true =>
  have HJ1:=hid h0.out
  have PP:Hid (QAp d = [d.pos]):=hid P0.out
  have YY:Hid (∀ X,J [] X→YieldAt Fence.wide (n - 1) Tryz.prog lp #[.int .i64 d.pos] X fun e W' =>
   (e = .returned (.bool true)∧J (QAp d) W'∧KeepX M rw w.heap.size n1 X W')∨(e = .returned (.bool false)∧Jx (QAp d) W')):=hid fun X hX=>by
    rw [PP.out]
    exact hY.out [] d.pos X hX (by rw [← PP.out];exact PW.out)
  refine callsIn_of_wp Tryz.func67 rfl trivial ?_ rfl
  simp only [Tryz.ntmps67,List.size_toArray,List.length_cons,List.length_nil,Nat.reduceAdd,Nat.reduceSub,Array.replicate_succ,Array.replicate_zero,List.push_toArray,List.append_toArray,List.nil_append,List.cons_append]
  gi_wp2_with (refine ⟨trivial,fun h=>(by cases h),?_⟩;(with_reducible refine (callsIn_wide.2 TP.out).mono ?_);rintro e W1 ⟨rfl,hw1⟩;have hb6:=(QAe (((HK.out.below hA.out hw1).2.2 _ hB.out.1).trans hBc.out)).2.2.2.2.2.2.2;have HJ1':=hid (hJ.out _ _ _ HJ1.out hw1);have HK1:=hid (HK.out.below hA.out hw1);obtain ⟨fn,tmps,assign,body,hy,hR⟩:=YY.out W1 HJ1'.out;have hy' : (Instr.yield lp #[.int .i64 d.pos]).run Tryz.prog W1 = .ok (.round lp fn tmps assign body) W1:=hy;have HR:=hid hR;clear hw1 hy hR)
  refine ⟨fun h=>(by cases h),HR.out.mono ?_⟩
  rintro e W3 (⟨rfl,hJ3,hk3⟩ | ⟨rfl,hJx3⟩)
  ·have HK2:=hid (HK1.out.keepx hk3)
   have HJ2:=hid hJ3
   have hb3:=(QAe ((HK2.out.2.2 _ hB.out.1).trans hBc.out)).2.2.2.2.1
   clear hJ3 hk3
   gi_wp2_with fail
   clear hb3
   gi_loopw [21] (fun i wr=>∃ (j:Nat),i = .int .i64 j∧Hid (j≤ni)∧Hid (J (QAp d ++ QAl d j) wr)∧Hid (Kept M rw w wr)) (fun i _=>ni - QA2 i)
   case atStart=>exact ⟨0,rfl,hid (Nat.zero_le _),(by simpa [QAl] using HJ2),HK2⟩
   case round =>
    clear HJ2 HK2
    obtain ⟨j,rfl,hj,hJp,hKp⟩:=hrel
    have jl:=hj.out
    rcases Nat.lt_or_ge j ni with hlt | hge
    ·have q3:(j:Int) < (ni:Int):=by omega
     have ix:=QEL (cap:=capi) hoi.out hlt (by omega)
     unfold Ix at ix
     obtain ⟨x,hx⟩:∃ x,d.items[j]? = some x:=⟨_,List.getElem?_eq_getElem (by have:=hni.out;omega)⟩
     obtain ⟨sv,i0,i1,i2,i3,i4,i5,i6,i7,i8,hsa,hok⟩:=hvi.out j hlt x hx
     obtain ⟨os,caps,bs,offs,rfl,hs1,hs2,hs3,hs4⟩:=id hsa
     have ho:=hBa.out.old hKp.out
     have p0:=ho.cell i0
     have p1:=ho.cell i1
     have p2:=ho.cell i2
     have p3:=ho.cell i3
     have p4:=ho.cell i4
     have p5:=ho.cell i5
     have p6:=ho.cell i6
     have p7:=ho.cell i7
     have p8:=ho.cell i8
     obtain ⟨OB,hOB⟩:∃ OB,OB = Obj.cells #[.int .i64 x.kind,.string x.name,.int .i64 x.type,.int .i64 x.e,.int .i64 x.f,.slice os x.states.length caps,.string x.state,.string x.next,.int .i64 x.pos] 57:=⟨_,rfl⟩
     obtain ⟨V,hV⟩:∃ V,V = wr.alloc OB:=⟨_,rfl⟩
     have ba:Below wr.heap.size wr V:=by rw [hV];exact QA5 (Below.refl _ _) _
     have HJa:=hid (hJ.out _ _ _ hJp.out ba)
     have HKa:=hid (hKp.out.below hA.out ba)
     have hSV:ScAt V m1 m2 d:=hSc.out.same (HKa.out.2.2 _ hB.out.2.2.1) (HKa.out.2.2 _ hB.out.2.2.2)
     have hnm:x.name.size≤maxLen:=by have:=hok.name;unfold QAH at this;unfold maxLen;omega
     have hstt:x.state.size≤maxLen:=by have:=hok.state;unfold QAH at this;unfold maxLen;omega
     have hnx:x.next.size≤maxLen:=by have:=hok.next;unfold QAH at this;unfold maxLen;omega
     have hSA:StrsAt V (.slice os x.states.length caps) x.states:=hsa.mono fun b o i _ h=>(ho.trans ba).cell h
     have TK:=hid (QHo m1 m2 d j x.kind x.type x.e x.f x.pos x.name x.state x.next x.states os x.states.length caps hnm (fun s hs=>by have:=hok.statesOk s hs;unfold QAH at this;unfold maxLen;omega) (hst.out x (List.mem_of_getElem? hx)) V (hid hSV) (hid hSA))
     have MS:Hid (∀ w1,Below V.heap.size V w1→Calls Tryz.prog 71 #[.agg #[.map (some m1),.map (some m2)],.agg #[.int .i64 x.kind,.string x.name,.int .i64 x.type,.int .i64 x.e,.int .i64 x.f,.slice os x.states.length caps,.string x.state,.string x.next,.int .i64 x.pos]] w1 fun r Y=>r = .returned (.bool (QDS d x.kind x.name x.state x.next))∧Below w1.heap.size w1 Y) :=
      hid fun w1 h1=>QG0 m1 m2 d x.kind x.type x.e x.f x.pos x.name x.state x.next os x.states.length caps hnm hstt hnx w1 (hid (hSV.below h1)) (hid hO.out)
     obtain ⟨c0,c1⟩:=QAA ((HKa.out.2.2 _ hB.out.2.1).trans hCc.out)
     have hOV:V.heap[wr.heap.size]? = some OB:=by rw [hV];exact QAR rfl
     rw [hOB] at hOV
     obtain ⟨z0,z1,z2,z3,z4,z5,z6,z7,z8⟩:=QB1 hOV
     have AFT:Hid (∀ w1,Below V.heap.size V w1→((w1.cell? ⟨C,0,none⟩ = some (.map (some m1))∧w1.cell? ⟨C,1,none⟩ = some (.map (some m2)))∧(w1.cell? ⟨wr.heap.size,0,none⟩ = some (.int .i64 x.kind)∧w1.cell? ⟨wr.heap.size,1,none⟩ = some (.string x.name)∧w1.cell? ⟨wr.heap.size,2,none⟩ = some (.int .i64 x.type)∧w1.cell? ⟨wr.heap.size,3,none⟩ = some (.int .i64 x.e)∧w1.cell? ⟨wr.heap.size,4,none⟩ = some (.int .i64 x.f)∧w1.cell? ⟨wr.heap.size,5,none⟩ = some (.slice os x.states.length caps)∧w1.cell? ⟨wr.heap.size,6,none⟩ = some (.string x.state)∧w1.cell? ⟨wr.heap.size,7,none⟩ = some (.string x.next)∧w1.cell? ⟨wr.heap.size,8,none⟩ = some (.int .i64 x.pos))∧Hid (J (QAp d ++ QAl d j) w1∧Kept M rw w w1))):=hid fun w1 h1 =>
      ⟨⟨QA1 h1 c0,QA1 h1 c1⟩,QB1 ((h1.block _ (lt_of_heap hOV)).trans hOV),hid ⟨hJ.out _ _ _ HJa.out h1,HKa.out.below hA.out h1⟩⟩
     have HT:=hid (QF6 d j x hx)
     have HPre:Hid (QAp d ++ QAl d (j+1) <+: QBj d):=hid ((List.prefix_append_right_inj _).2 (QFv d (j+1)))
     have T0:Hid (QIs d j x = (QDI d j x.kind x.name x.states || QDS d x.kind x.name x.state x.next)):=hid rfl
     obtain ⟨tk,htk⟩:∃ tk,tk = QDI d j x.kind x.name x.states:=⟨_,rfl⟩
     obtain ⟨ms,hms⟩:∃ ms,ms = QDS d x.kind x.name x.state x.next:=⟨_,rfl⟩
     rw [← htk,← hms] at T0
     rw [← htk] at TK
     rw [← hms] at MS
     have HVE:Hid (wr.alloc (.cells #[.int .i64 x.kind,.string x.name,.int .i64 x.type,.int .i64 x.e,.int .i64 x.f,.slice os x.states.length caps,.string x.state,.string x.next,.int .i64 x.pos] 57) = V):=hid (by rw [hV,hOB])
     clear htk hms hV hOB hOV ba hSV hnm hstt hnx hSA ho i0 i1 i2 i3 i4 i5 i6 i7 i8 hsa hok hs1 hs2 hs3 hs4 hx hJp hKp
     rw [← HVE.out] at c0 c1 z0 z1 z2 z3 z4 z5 z6 z7 z8 TK AFT MS HJa HKa
     cases tk with
     | true =>
      have TT:Hid (QIs d j x = true):=hid (by rw [T0.out];rfl)
      rw [TT.out,if_pos rfl] at HT
      have YY:Hid (∀ X,J (QAp d ++ QAl d j) X→YieldAt Fence.wide (n - 1) Tryz.prog lp #[.int .i64 x.pos] X fun e W' =>
       (e = .returned (.bool true)∧J (QAp d ++ QAl d (j+1)) W'∧KeepX M rw w.heap.size n1 X W')∨(e = .returned (.bool false)∧Jx (QAp d ++ QAl d (j+1)) W')):=hid fun X hX=>by
        rw [HT.out,← List.append_assoc]
        exact hY.out _ x.pos X hX (by rw [List.append_assoc,← HT.out];exact HPre.out)
      gi_wp2_with (refine ⟨trivial,fun h=>(by cases h),?_⟩;(with_reducible refine (callsIn_wide.2 TK.out).mono ?_);rintro e W1 ⟨rfl,hw1⟩;obtain ⟨⟨g0,g1⟩,⟨f0,f1,f2,f3,f4,f5,f6,f7,f8⟩,HA1⟩:=AFT.out _ hw1;obtain ⟨fn,tmps,assign,body,hy,hR⟩:=YY.out W1 HA1.out.1;have hy' : (Instr.yield lp #[.int .i64 x.pos]).run Tryz.prog W1 = .ok (.round lp fn tmps assign body) W1:=hy;have HR:=hid hR;clear hw1 hy hR)
      refine ⟨trivial,?_⟩
      gi_wp2_with fail
      refine ⟨fun h=>(by cases h),HR.out.mono ?_⟩
      rintro e W3 (⟨rfl,hJ3,hk3⟩ | ⟨rfl,hJx3⟩)
      ·have HK3:=hid (HA1.out.2.keepx hk3)
       have HJ3:=hid hJ3
       clear hJ3 hk3
       gi_wp2_with fail
       go_roundw
       case rel=>exact ⟨j+1,by go_num,hid (by omega),HJ3,HK3⟩
       case measure=>simp [QA2];omega
      ·have HJx3:=hid hJx3
       clear hJx3
       gi_wp2_with fail
       refine bodyPost_ret (results_none rfl _ _ _) rfl ?_
       exact ⟨⟨_,rfl⟩,.inr ⟨_,HPre.out,HJx3.out⟩⟩
     | false =>
      cases ms with
      | true =>
       have TT:Hid (QIs d j x = true):=hid (by rw [T0.out];rfl)
       rw [TT.out,if_pos rfl] at HT
       have YY:Hid (∀ X,J (QAp d ++ QAl d j) X→YieldAt Fence.wide (n - 1) Tryz.prog lp #[.int .i64 x.pos] X fun e W' =>
        (e = .returned (.bool true)∧J (QAp d ++ QAl d (j+1)) W'∧KeepX M rw w.heap.size n1 X W')∨(e = .returned (.bool false)∧Jx (QAp d ++ QAl d (j+1)) W')):=hid fun X hX=>by
         rw [HT.out,← List.append_assoc]
         exact hY.out _ x.pos X hX (by rw [List.append_assoc,← HT.out];exact HPre.out)
       gi_wp2_with (refine ⟨trivial,fun h=>(by cases h),?_⟩;first
        | ((with_reducible refine (callsIn_wide.2 TK.out).mono ?_);rintro e W1 ⟨rfl,hw1⟩;obtain ⟨⟨g0,g1⟩,⟨f0,f1,f2,f3,f4,f5,f6,f7,f8⟩,_⟩:=AFT.out _ hw1;have HW1:=hid hw1;clear hw1)
        | ((with_reducible refine (callsIn_wide.2 (MS.out _ HW1.out)).mono ?_);rintro e W2 ⟨rfl,hw2⟩;obtain ⟨⟨k0,k1⟩,⟨l0,l1,l2,l3,l4,l5,l6,l7,l8⟩,HA1⟩:=AFT.out _ (HW1.out.trans (hw2.mono HW1.out.size));obtain ⟨fn,tmps,assign,body,hy,hR⟩:=YY.out W2 HA1.out.1;have hy' : (Instr.yield lp #[.int .i64 x.pos]).run Tryz.prog W2 = .ok (.round lp fn tmps assign body) W2:=hy;have HR:=hid hR;clear hw2 hy hR))
       refine ⟨fun h=>(by cases h),HR.out.mono ?_⟩
       rintro e W3 (⟨rfl,hJ3,hk3⟩ | ⟨rfl,hJx3⟩)
       ·have HK3:=hid (HA1.out.2.keepx hk3)
        have HJ3:=hid hJ3
        clear hJ3 hk3
        gi_wp2_with fail
        go_roundw
        case rel=>exact ⟨j+1,by go_num,hid (by omega),HJ3,HK3⟩
        case measure=>simp [QA2];omega
       ·have HJx3:=hid hJx3
        clear hJx3
        gi_wp2_with fail
        refine bodyPost_ret (results_none rfl _ _ _) rfl ?_
        exact ⟨⟨_,rfl⟩,.inr ⟨_,HPre.out,HJx3.out⟩⟩
      | false =>
       have TT:Hid (QIs d j x = false):=hid (by rw [T0.out];rfl)
       rw [TT.out,if_neg (by simp),List.append_nil] at HT
       gi_wp2_with (refine ⟨trivial,fun h=>(by cases h),?_⟩;first
        | ((with_reducible refine (callsIn_wide.2 TK.out).mono ?_);rintro e W1 ⟨rfl,hw1⟩;obtain ⟨⟨g0,g1⟩,⟨f0,f1,f2,f3,f4,f5,f6,f7,f8⟩,_⟩:=AFT.out _ hw1;have HW1:=hid hw1;clear hw1)
        | ((with_reducible refine (callsIn_wide.2 (MS.out _ HW1.out)).mono ?_);rintro e W2 ⟨rfl,hw2⟩;obtain ⟨⟨k0,k1⟩,⟨l0,l1,l2,l3,l4,l5,l6,l7,l8⟩,HA1⟩:=AFT.out _ (HW1.out.trans (hw2.mono HW1.out.size));clear hw2))
       refine ⟨fun f h=>(by cases h),?_⟩
       gi_wp2_with fail
       go_roundw
       case rel=>exact ⟨j+1,by go_num,hid (by omega),by rw [HT.out];exact hid HA1.out.1,hid HA1.out.2⟩
       case measure=>simp [QA2];omega
    ·obtain rfl:j = ni:=by omega
     have HJ3:=hid hJp.out
     gi_wp2_with fail
     go_end0
     exact ⟨⟨_,rfl⟩,.inl ⟨_,rfl,by unfold QBj;rw [hni.out];exact HJ3.out⟩⟩
  ·have HJx3:=hid hJx3
   clear hJx3
   gi_wp2_with fail
   refine bodyPost_ret (results_none rfl _ _ _) rfl ?_
   exact ⟨⟨_,rfl⟩,.inr ⟨_,PW.out,HJx3.out⟩⟩
theorem QFl (n:Nat) (d:De) (s t:Value) (B C m1 m2:Nat) (w0:World) (E M:Nat→Prop) (rw:World→Option Nat) (w:World) (hA:Near M rw w) (hb:Base w0 M rw w)
  (hs:SlAt s d.params.length 2 (fun b o i=>∀ y,d.params[i]? = some y→PaAt w0 b o y)) (ht:SlAt t d.items.length 9 (fun b o i=>∀ y,d.items[i]? = some y→ItAt w0 b o y)) (hp:d.params.length≤1000) (hi:d.items.length≤1000) (hst:∀ x∈d.items,x.states.length≤1000)
  (hS:QAc M rw w B∧QAc M rw w C∧QAc M rw w m1∧QAc M rw w m2) (hB:w.heap[B]? = some (.cells #[.int .i64 d.kind,.string d.name,s,t,.int .i64 d.type,.int .i64 d.e,.int .i64 d.pos] 36 (0,0))) (hC:w.heap[C]? = some (.cells #[.map (some m1),.map (some m2)] 91 (0,0))) (hSc:ScAt w m1 m2 d) (hO:ScOk d) :
  SeqX (α:=Int) Fence.wide n Tryz.prog 67 #[.pointer (some ⟨B,0,none⟩),.pointer (some ⟨C,0,none⟩)] (fun v=>#[.int .i64 v]) E M rw (fun ys _=>ys = QBj d) (fun pre=>pre <+: QBj d) (QBj d).length w:=by
 obtain ⟨op,capp,bp,fp,rfl,h1⟩:=id hs
 obtain ⟨oi,capi,bi,fi,rfl,h2,h3,h4,h5⟩:=id ht
 intro lp J Jx W hW hJ _ _ hY h0
 exact QFX n d op oi _ _ capp capi bi fi B C m1 m2 (hid rfl) (hid rfl) (by omega) (by omega) w0 M rw w (hid hA) (hid hb) (hid hs) (hid h4) (hid h5) (hid hst) (hid hS) (hid hB) (hid hC) (hid hSc) (hid hO) lp W.heap.size J Jx W (hid hW)
  (hid fun s X Y h hb=>hJ.below hb h) (hid fun pre v X hj hpre=>(hY pre v X hj (by have:=hpre.length_le;simp at this;omega)).mono fun r Y h=>h.imp id fun h=>⟨h.1,h.2.1⟩) (hid h0)
end
end Go.Proofs.YtknbghjoncomiaaGreat
