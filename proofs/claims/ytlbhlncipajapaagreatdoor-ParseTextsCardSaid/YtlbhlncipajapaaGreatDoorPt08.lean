import Derived.Test.YtlbhlncipajapaaGreatDoorPt07
set_option maxHeartbeats 16000000
set_option maxRecDepth 100000
open Go.Proofs.Tryz(prog)
namespace Go.Proofs.YtlbhlncipajapaaGreatDoor
open Go.RowKit Lx
def IsRet (b a:Nat) (R:Bool) (W:World) (r:Ending) (Y:World):Prop:=r=.returned (.bool R)∧Below W.heap.size W Y∧Y.cell? ⟨b,1,none⟩=some (.int .i64 (a:Int))∧Y.frozen? ⟨b,1,none⟩=false
theorem took_any (b g cap:Nat) (dv:Value) (ts:List Tok) (xb:Nat→Prop) (σ:RS) (s:List UInt8) (W:World) (h:Hid (Rd W b g cap dv ts xb σ)) :
  Calls prog 36 #[.pointer (some ⟨b,0,none⟩),.string (str s)] W fun r Y=>RdRet b g cap dv ts xb W (.bool (isS ts s σ)) (tookS ts s σ) r Y:=by
 have hI:=is_any b g cap dv ts xb σ s W h
 obtain⟨o,c,⟨c0,c1,c3,c4,c5,c6,fr⟩,hx⟩:=h.out.cells
 have ht:=h.out.tok
 have hgb:g≠b:=by have:=h.out.lt;omega
 have hl:=h.out.at_
 have hn:=h.out.len
 obtain⟨t0,t1,t2,t3⟩:=ht
 obtain⟨n,hnn⟩:∃n,n=ts.length:=⟨_,rfl⟩
 obtain⟨a,haa⟩:∃a,a=σ.at_:=⟨_,rfl⟩
 obtain⟨cd,hcd⟩:∃cd,cd=σ.code:=⟨_,rfl⟩
 obtain⟨ps,hps⟩:∃ps,ps=σ.pos:=⟨_,rfl⟩
 obtain⟨dp,hdp⟩:∃dp,dp=σ.deep:=⟨_,rfl⟩
 obtain⟨kd,hkd⟩:∃kd,kd=(tokL ts σ.at_).kind:=⟨_,rfl⟩
 obtain⟨tx,htx⟩:∃tx,tx=(tokL ts σ.at_).text:=⟨_,rfl⟩
 obtain⟨tv,htv⟩:∃tv,tv=(tokL ts σ.at_).v:=⟨_,rfl⟩
 obtain⟨p,hp⟩:∃p,p=(tokL ts σ.at_).at_:=⟨_,rfl⟩
 rw[←hnn] at c0 hl hn
 rw[←hkd] at t0
 rw[←htx] at t1
 rw[←htv] at t2
 rw[←hp] at t3
 rw[←haa] at c1 t0 t1 t2 t3 hl
 rw[←hcd] at c5
 rw[←hdp] at c4
 rw[←hps] at c6
 have k0:((a:Nat):Int)<(n:Int):=by omega
 have f1:=fr 1
 have f4:=fr 4
 have f5:=fr 5
 have f6:=fr 6
 have HCD:=Hd hcd
 have HPS:=Hd hps
 have HDP:=Hd hdp
 have HKD:=Hd hkd
 have HTX:=Hd htx
 have HTV:=Hd htv
 have HP:=Hd hp
 have HAA:=Hd haa
 have HNN:=Hd hnn
 clear fr hx hnn haa hcd hps hdp hkd htx htv hp c3
 have ha:(a:Int)≤40000:=by omega
 have hbs:b<W.heap.size:=h.out.size
 have C:Hid (Calls prog 40 #[.pointer (some ⟨b,0,none⟩),.string (str s)] W (IsRet b a (isS ts s σ) W)):=Hd (hI.mono fun r Y hY=>⟨hY.1,hY.2,(hY.2.cell (p:=⟨b,1,none⟩) hbs).trans c1,(hY.2.frozen (p:=⟨b,1,none⟩) hbs).trans f1⟩)
 clear hI
 cases hR:isS ts s σ with
 | true =>
  rw[hR] at C
  have hk:=(isS_kind hR).1
  have HT:=Hd (show tookS ts s σ=stepS σ by unfold tookS;rw[if_pos hR])
  clear hR
  go_enter Tryz.func36,Tryz.ntmps36
  go_wp2_with (go_at_call 40;(with_reducible refine C.out.mono ?_);rintro e w1 ⟨rfl,hb,y1,y2⟩;have HB:=Hd hb;clear hb)
  go_ret
  have h1:=h.out.below HB.out
  rw[HT.out]
  have h2:=h1.setAt hk
  rw[←HAA.out] at h2
  exact⟨rfl,h2,(RK.of_below HB.out (ql hbs)).trans (RK.set 1 _)⟩
 | false =>
  rw[hR] at C
  have HT:=Hd (show tookS ts s σ=σ by unfold tookS;rw[hR];rfl)
  clear hR
  go_enter Tryz.func36,Tryz.ntmps36
  go_wp2_with (go_at_call 40;(with_reducible refine C.out.mono ?_);rintro e w1 ⟨rfl,hb,y1,y2⟩;have HB:=Hd hb;clear hb)
  go_ret
  rw[HT.out]
  exact⟨rfl,h.out.below HB.out,RK.of_below HB.out (ql hbs)⟩
theorem want_any (b g cap:Nat) (dv:Value) (ts:List Tok) (xb:Nat→Prop) (σ:RS) (s:List UInt8) (W:World) (h:Hid (Rd W b g cap dv ts xb σ)) :
  Calls prog 37 #[.pointer (some ⟨b,0,none⟩),.string (str s)] W fun r Y=>RdRet b g cap dv ts xb W (.tuple #[]) (wantS ts s σ) r Y:=by
 have C:=Hd (took_any b g cap dv ts xb σ s W h)
 cases hR:isS ts s σ with
 | true =>
  rw[hR] at C
  have HT:=Hd (show wantS ts s σ=tookS ts s σ by unfold tookS wantS;rw[if_pos hR,if_pos hR])
  clear hR
  go_enter Tryz.func37,Tryz.ntmps37
  go_wp2_with (go_at_call 36;(with_reducible refine C.out.mono ?_);rintro e w1 ⟨rfl,hr,hk⟩;have HR:=Hd hr;have HK:=Hd hk;clear hr hk)
  go_end0
  rw[HT.out]
  exact⟨rfl,HR.out,HK.out⟩
 | false =>
  rw[hR] at C
  have HT:=Hd (show tookS ts s σ=σ by unfold tookS;rw[hR];rfl)
  have HU:=Hd (show wantS ts s σ=failS ts 2 σ by unfold wantS;rw[hR];rfl)
  rw[HT.out] at C
  clear hR
  go_enter Tryz.func37,Tryz.ntmps37
  go_wp2_with (first | (go_at_call 36;(with_reducible refine C.out.mono ?_);rintro e w1 ⟨rfl,hr,hk⟩;have HR:=Hd hr;have HK:=Hd hk;clear hr hk) | (go_at_call 20;(with_reducible refine(fail_any b g cap dv ts xb σ 2 w1 HR).mono ?_);rintro e w2 ⟨rfl,hr,hk⟩;have HR2:=Hd hr;have HK2:=Hd hk;clear hr hk))
  go_end0
  rw[HU.out]
  exact⟨rfl,HR2.out,HK.out.trans HK2.out⟩
theorem name_any (b g cap:Nat) (dv:Value) (ts:List Tok) (xb:Nat→Prop) (σ:RS) (W:World) (h:Hid (Rd W b g cap dv ts xb σ)) :
  Calls prog 41 #[.pointer (some ⟨b,0,none⟩)] W fun r Y=>RdRet b g cap dv ts xb W (.string (str (nameV ts σ))) (nameS ts σ) r Y:=by
 have F:=Hd (fun W h=>fail_any b g cap dv ts xb σ 2 W h)
 obtain⟨o,c,⟨c0,c1,c3,c4,c5,c6,fr⟩,hx⟩:=h.out.cells
 have ht:=h.out.tok
 have hgb:g≠b:=by have:=h.out.lt;omega
 have hl:=h.out.at_
 have hn:=h.out.len
 obtain⟨t0,t1,t2,t3⟩:=ht
 obtain⟨n,hnn⟩:∃n,n=ts.length:=⟨_,rfl⟩
 obtain⟨a,haa⟩:∃a,a=σ.at_:=⟨_,rfl⟩
 obtain⟨cd,hcd⟩:∃cd,cd=σ.code:=⟨_,rfl⟩
 obtain⟨ps,hps⟩:∃ps,ps=σ.pos:=⟨_,rfl⟩
 obtain⟨dp,hdp⟩:∃dp,dp=σ.deep:=⟨_,rfl⟩
 obtain⟨kd,hkd⟩:∃kd,kd=(tokL ts σ.at_).kind:=⟨_,rfl⟩
 obtain⟨tx,htx⟩:∃tx,tx=(tokL ts σ.at_).text:=⟨_,rfl⟩
 obtain⟨tv,htv⟩:∃tv,tv=(tokL ts σ.at_).v:=⟨_,rfl⟩
 obtain⟨p,hp⟩:∃p,p=(tokL ts σ.at_).at_:=⟨_,rfl⟩
 rw[←hnn] at c0 hl hn
 rw[←hkd] at t0
 rw[←htx] at t1
 rw[←htv] at t2
 rw[←hp] at t3
 rw[←haa] at c1 t0 t1 t2 t3 hl
 rw[←hcd] at c5
 rw[←hdp] at c4
 rw[←hps] at c6
 have k0:((a:Nat):Int)<(n:Int):=by omega
 have f1:=fr 1
 have f4:=fr 4
 have f5:=fr 5
 have f6:=fr 6
 have HCD:=Hd hcd
 have HPS:=Hd hps
 have HDP:=Hd hdp
 have HKD:=Hd hkd
 have HTX:=Hd htx
 have HTV:=Hd htv
 have HP:=Hd hp
 have HAA:=Hd haa
 have HNN:=Hd hnn
 clear fr hx hnn haa hcd hps hdp hkd htx htv hp c3
 have ha:(a:Int)≤40000:=by omega
 have hbs:b<W.heap.size:=h.out.size
 by_cases hz:cd=0
 ·subst hz
  by_cases h1:kd=1
  ·subst h1
   have q1:((1:Int) !=1)=false:=by decide
   have HN:=Hd (show nameB ts σ=true by unfold nameB;rw[←HCD.out,←HKD.out];rfl)
   have HT:=Hd (show nameS ts σ=stepS σ by unfold nameS;rw[if_pos HN.out])
   have HV:=Hd (show nameV ts σ=tx by unfold nameV;rw[if_pos HN.out,HTX.out])
   go_enter Tryz.func41,Tryz.ntmps41
   go_wp2_with fail
   go_quiet (fail)
   go_wp2_with fail
   have v0:((W.drewN nq).setCell ⟨b,1,none⟩ (.int .i64 ((a:Int)+1))).cell? ⟨b,0,none⟩=some (.slice (some ⟨g,0,none⟩) n cap):=by rw[World.cell?_setCell_other _ _ _ _ (by simp)];exact c0
   have v1:((W.drewN nq).setCell ⟨b,1,none⟩ (.int .i64 ((a:Int)+1))).cell? ⟨b,1,none⟩=some (.int .i64 ((a:Int)+1)):=World.cell?_setCell_same (W.drewN nq) ⟨b,1,none⟩ _ c1
   have v2:((W.drewN nq).setCell ⟨b,1,none⟩ (.int .i64 ((a:Int)+1))).cell? ⟨g,a*4+1,none⟩=some (.string (str tx)):=by rw[World.cell?_setCell_other _ _ _ _ (by intro e;injection e with e1;exact hgb e1.symm)];exact t1
   have wz:IntKind.i64.wrap ((a:Int)+1-1)=(a:Int):=by rw[IntKind.wrap_i64];omega
   have HD:=Hd (below_dr (qB W.heap.size W) nq)
   have H1:Hid (Rd ((W.drewN nq).setCell ⟨b,1,none⟩ (.int .i64 ((a:Int)+1))) b g cap dv ts xb (stepS σ)):=Hd (by rw[HAA.out];exact(h.out.below HD.out).setAt (by rw[←HKD.out];decide))
   have K1:Hid (RK b W ((W.drewN nq).setCell ⟨b,1,none⟩ (.int .i64 ((a:Int)+1)))):=Hd ((RK.of_below HD.out (ql hbs)).trans (RK.set 1 _))
   go_quiet (fail)
   go_wp2_with fail
   go_ret
   rw[HT.out,HV.out]
   exact⟨rfl,H1.out.below (below_dr (qB _ _) _),K1.out.trans (RK.of_below (below_dr (qB _ _) _) (Nat.le_trans (ql hbs) K1.out.size))⟩
  ·have n1:((kd:Int) !=1)=true:=by rw[bne_iff_ne];omega
   have HN:=Hd (show nameB ts σ=false by unfold nameB;rw[←HKD.out,qF h1,Bool.and_false])
   have HT:=Hd (show nameS ts σ=failS ts 2 σ by unfold nameS;rw[HN.out];rfl)
   have HV:=Hd (show nameV ts σ=[] by unfold nameV;rw[HN.out];rfl)
   go_enter Tryz.func41,Tryz.ntmps41
   go_wp2_with fail
   go_quiet (fail)
   have HD:=Hd (below_dr (qB W.heap.size W) nq)
   have FF:=Hd (F.out (W.drewN nq) (Hd (h.out.below HD.out)))
   go_wp2_with (go_at_call 20;(with_reducible refine FF.out.mono ?_);rintro e w1 ⟨rfl,hr,hk⟩;have HR:=Hd hr;have HK:=Hd hk;clear hr hk)
   go_ret
   rw[HT.out,HV.out]
   exact⟨rfl,HR.out,(RK.of_below HD.out (ql hbs)).trans HK.out⟩
 ·have n0:(cd !=0)=true:=by rw[bne_iff_ne];exact hz
  have HN:=Hd (show nameB ts σ=false by unfold nameB;rw[←HCD.out,qF hz];rfl)
  have HT:=Hd (show nameS ts σ=failS ts 2 σ by unfold nameS;rw[HN.out];rfl)
  have HV:=Hd (show nameV ts σ=[] by unfold nameV;rw[HN.out];rfl)
  go_enter Tryz.func41,Tryz.ntmps41
  go_wp2_with fail
  go_quiet (fail)
  have HD:=Hd (below_dr (qB W.heap.size W) nq)
  have FF:=Hd (F.out (W.drewN nq) (Hd (h.out.below HD.out)))
  go_wp2_with (go_at_call 20;(with_reducible refine FF.out.mono ?_);rintro e w1 ⟨rfl,hr,hk⟩;have HR:=Hd hr;have HK:=Hd hk;clear hr hk)
  go_ret
  rw[HT.out,HV.out]
  exact⟨rfl,HR.out,(RK.of_below HD.out (ql hbs)).trans HK.out⟩
theorem enter_any (b g cap:Nat) (dv:Value) (ts:List Tok) (xb:Nat→Prop) (σ:RS) (W:World) (h:Hid (Rd W b g cap dv ts xb σ)) (d0:0≤σ.deep) (d1:σ.deep≤30) :
  Calls prog 35 #[.pointer (some ⟨b,0,none⟩)] W fun r Y=>RdRet b g cap dv ts xb W (.bool (decide ((enterS ts σ).code=0))) (enterS ts σ) r Y:=by
 have F:=Hd (fun W h=>fail_any b g cap dv ts xb σ 3 W h)
 obtain⟨o,c,⟨c0,c1,c3,c4,c5,c6,fr⟩,hx⟩:=h.out.cells
 have ht:=h.out.tok
 have hgb:g≠b:=by have:=h.out.lt;omega
 have hl:=h.out.at_
 have hn:=h.out.len
 obtain⟨t0,t1,t2,t3⟩:=ht
 obtain⟨n,hnn⟩:∃n,n=ts.length:=⟨_,rfl⟩
 obtain⟨a,haa⟩:∃a,a=σ.at_:=⟨_,rfl⟩
 obtain⟨cd,hcd⟩:∃cd,cd=σ.code:=⟨_,rfl⟩
 obtain⟨ps,hps⟩:∃ps,ps=σ.pos:=⟨_,rfl⟩
 obtain⟨dp,hdp⟩:∃dp,dp=σ.deep:=⟨_,rfl⟩
 obtain⟨kd,hkd⟩:∃kd,kd=(tokL ts σ.at_).kind:=⟨_,rfl⟩
 obtain⟨tx,htx⟩:∃tx,tx=(tokL ts σ.at_).text:=⟨_,rfl⟩
 obtain⟨tv,htv⟩:∃tv,tv=(tokL ts σ.at_).v:=⟨_,rfl⟩
 obtain⟨p,hp⟩:∃p,p=(tokL ts σ.at_).at_:=⟨_,rfl⟩
 rw[←hnn] at c0 hl hn
 rw[←hkd] at t0
 rw[←htx] at t1
 rw[←htv] at t2
 rw[←hp] at t3
 rw[←haa] at c1 t0 t1 t2 t3 hl
 rw[←hcd] at c5
 rw[←hdp] at c4
 rw[←hps] at c6
 have k0:((a:Nat):Int)<(n:Int):=by omega
 have f1:=fr 1
 have f4:=fr 4
 have f5:=fr 5
 have f6:=fr 6
 have HCD:=Hd hcd
 have HPS:=Hd hps
 have HDP:=Hd hdp
 have HKD:=Hd hkd
 have HTX:=Hd htx
 have HTV:=Hd htv
 have HP:=Hd hp
 have HAA:=Hd haa
 have HNN:=Hd hnn
 clear fr hx hnn haa hcd hps hdp hkd htx htv hp c3
 have dd0:0≤dp:=by rw[HDP.out];exact d0
 have dd1:dp≤30:=by rw[HDP.out];exact d1
 clear d0 d1
 have hbs:b<W.heap.size:=h.out.size
 by_cases hz:cd=0
 ·subst hz
  by_cases h30:dp=30
  ·subst h30
   have HT:=Hd (show enterS ts σ={ failS ts 3 σ with deep:=31 } by
    have e:tooDeep σ=true:=by unfold tooDeep;rw[←HCD.out,←HDP.out];rfl
    have e2:(failS ts 3 σ).deep=30:=by unfold failS;split <;> exact HDP.out.symm
    unfold enterS;rw[e];show { failS ts 3 σ with deep:=(failS ts 3 σ).deep+1 }=_;rw[e2];rfl)
   have HC:=Hd (show(failS ts 3 σ).deep=30∧(failS ts 3 σ).code=3 by unfold failS;rw[if_pos HCD.out.symm];exact⟨HDP.out.symm,rfl⟩)
   have F1:Hid (Calls prog 20 #[.pointer (some ⟨b,0,none⟩),.int .i64 3] W fun r Y=>r=.returned (.tuple #[])∧Y.cell? ⟨b,4,none⟩=some (.int .i64 30)∧Y.cell? ⟨b,5,none⟩=some (.int .i64 3)∧Y.frozen? ⟨b,4,none⟩=false∧Hid (Rd Y b g cap dv ts xb (failS ts 3 σ))∧Hid (RK b W Y)):=Hd ((F.out W h).mono fun r Y ⟨h1,h2,h3⟩=>by
    obtain⟨o,c,hc,_⟩:=h2.cells
    exact⟨h1,hc.c4.trans (by rw[HC.out.1]),hc.c5.trans (by rw[HC.out.2]),hc.fr 4,Hd h2,Hd h3⟩)
   go_enter Tryz.func35,Tryz.ntmps35
   go_wp2_with (go_at_call 20;(with_reducible refine F1.out.mono ?_);rintro e w1 ⟨rfl,y4,y5,z4,HR,HK⟩)
   go_ret
   rw[HT.out]
   exact⟨by show Ending.returned (Value.bool false)=Ending.returned (.bool (decide ((failS ts 3 σ).code=0)));rw[HC.out.2];rfl,HR.out.setDeep 31,HK.out.trans (RK.set 4 _)⟩
  ·have q1:(dp ==30)=false:=beq_false_of_ne h30
   have HT:=Hd (show enterS ts σ={ σ with deep:=dp+1 } by
    have e:tooDeep σ=false:=by unfold tooDeep;rw[←HDP.out,qF h30,Bool.and_false]
    unfold enterS;rw[e];show { σ with deep:=σ.deep+1 }=_;rw[←HDP.out])
   go_enter Tryz.func35,Tryz.ntmps35
   go_wp2_with fail
   go_ret
   rw[HT.out]
   exact⟨by show _=Ending.returned (.bool (decide (σ.code=0)));rw[←HCD.out];rfl,h.out.setDeep (dp+1),RK.set 4 _⟩
 ·have q1:(cd ==0)=false:=beq_false_of_ne hz
  have HT:=Hd (show enterS ts σ={ σ with deep:=dp+1 } by
    have e:tooDeep σ=false:=by unfold tooDeep;rw[←HCD.out,qF hz,Bool.false_and]
    unfold enterS;rw[e];show { σ with deep:=σ.deep+1 }=_;rw[←HDP.out])
  go_enter Tryz.func35,Tryz.ntmps35
  go_wp2_with fail
  go_ret
  rw[HT.out]
  exact⟨by show Ending.returned (Value.bool false)=Ending.returned (.bool (decide (σ.code=0)));rw[←HCD.out,qF hz],h.out.setDeep (dp+1),RK.set 4 _⟩
structure FC (b g cap:Nat) (dv:Value) (ts:List Tok) (xb:Nat→Prop) (f:Nat):Prop where
 expr:∀σ v l τ,runE ts f .expr σ=some (v,l,τ)→∀W,Hid (Rd W b g cap dv ts xb σ)→Calls prog 18 #[.pointer (some ⟨b,0,none⟩)] W fun r Y=>RdRet b g cap dv ts xb W (.int .i64 v) τ r Y
 pre:∀σ v l τ,runE ts f .pre σ=some (v,l,τ)→∀W,Hid (Rd W b g cap dv ts xb σ)→Calls prog 71 #[.pointer (some ⟨b,0,none⟩)] W fun r Y=>RdRet b g cap dv ts xb W (.int .i64 v) τ r Y
 atom:∀σ v l τ,σ.code=0→runE ts f .atom σ=some (v,l,τ)→∀W,Hid (Rd W b g cap dv ts xb σ)→Calls prog 90 #[.pointer (some ⟨b,0,none⟩)] W fun r Y=>RdRet b g cap dv ts xb W (.int .i64 v) τ r Y
 bin:∀(least:Nat),1≤least→least≤6→∀σ v l τ,runE ts f (.bin least) σ=some (v,l,τ)→∀W,Hid (Rd W b g cap dv ts xb σ)→Calls prog 39 #[.pointer (some ⟨b,0,none⟩),.int .i64 (least:Int)] W fun r Y=>RdRet b g cap dv ts xb W (.int .i64 v) τ r Y
theorem okS_iff {σ:RS}:okS σ=true↔σ.exprs.length≤40000∧0≤σ.deep∧σ.deep≤30:=by unfold okS;simp
theorem level_kind {ts:List Tok} {σ:RS} {n:Nat} (hn:1≤n) (h:(levelS ts σ).1=(n:Int)):(tokL ts σ.at_).kind≠5:=by
 unfold levelS levelIn at h
 cases hf:levelsL.find? fun p=>isS ts p.1 σ with
 | none=>rw[hf] at h;simp at h;omega
 | some p=>exact(isS_kind (by simpa using List.find?_some hf)).1
def twoE (k a b:Int) (p:Nat):Ex:={ ex0 with kind:=k,a:=a,b:=b,pos:=(p:Int) }
theorem loop_cases {ts:List Tok} {n least:Nat} {a:Int} {σ:RS} {R:Int×List Int×RS} (h:runE ts n (.loop least a) σ=some R) :
  ∃m,n=m+1∧((σ.code≠0∧R=(a,[],σ))∨(σ.code=0∧(levelS ts σ).1≠(least:Int)∧R=(a,[],σ)) ∨
   (σ.code=0∧(levelS ts σ).1=(least:Int)∧∃bv lb τ,runE ts m (.bin (least+1)) (stepS σ)=some (bv,lb,τ)∧okS τ=true ∧
    ((least=3∧R=((τ.exprs.length:Int),[],putS (twoE (levelS ts σ).2 a bv (tokL ts σ.at_).at_) τ))∨(least≠3∧runE ts m (.loop least (τ.exprs.length:Int)) (putS (twoE (levelS ts σ).2 a bv (tokL ts σ.at_).at_) τ)=some R)))):=by
 cases n with
 | zero=>cases h
 | succ m =>
  refine⟨m,rfl,?_⟩
  simp only[runE] at h
  split at h
  ·unfold loopG at h
   split at h
   ·rename_i h0
    split at h
    ·rename_i hl
     refine .inr (.inr ⟨h0,hl,?_⟩)
     cases hb:runE ts m (.bin (least+1)) (stepS σ) with
     | none=>rw[hb] at h;cases h
     | some q =>
      obtain⟨bv,lb,τ⟩:=q
      rw[hb] at h
      simp only[Option.bind_some] at h
      unfold putA at h
      split at h
      ·rename_i hok
       refine⟨bv,lb,τ,rfl,hok,?_⟩
       split at h
       ·rename_i h3
        exact .inl ⟨h3,(qI h).symm⟩
       ·rename_i h3
        exact .inr ⟨h3,h⟩
      ·cases h
    ·rename_i hl
     exact .inr (.inl ⟨h0,hl,(qI h).symm⟩)
   ·rename_i h0
    exact .inl ⟨h0,(qI h).symm⟩
  ·cases h
theorem least_of {α:Type} (P:Nat→α→Prop):∃m:α→Nat,∀x,(∃n,P n x)→P (m x) x∧∀k,P k x→m x≤k:=by
 have key:∀x,∃n,(∃n,P n x)→P n x∧∀k,P k x→n≤k:=fun x=>by
  by_cases h:∃n,P n x
  ·obtain⟨n,hn⟩:=h
   induction n using Nat.strongRecOn with
   | ind n ih =>
    by_cases h2:∃k,k<n∧P k x
    ·obtain⟨k,hk,hp⟩:=h2
     exact ih k hk hp
    ·exact⟨n,fun _=>⟨hn,fun k hk=>Nat.le_of_not_lt fun hlt=>h2 ⟨k,hlt,hk⟩⟩⟩
  ·exact⟨0,fun h2=>absurd h2 h⟩
 exact⟨fun x=>(key x).choose,fun x=>(key x).choose_spec⟩
theorem put_two (b g cap:Nat) (dv:Value) (ts:List Tok) (xb:Nat→Prop) (τ:RS) (k x y:Int) (p:Nat) (W:World) (h:Hid (Rd W b g cap dv ts xb τ)) (hok:okS τ=true) :
  Calls prog 38 #[.pointer (some ⟨b,0,none⟩),.agg #[.int .i64 k,.int .i64 x,.int .i64 y,.int .i64 0,.string ⟨#[]⟩,.string ⟨#[]⟩,.int .i64 0,.slice none 0 0,.int .i64 (p:Int)]] W fun r Y=>RdRet b g cap dv ts xb W (.int .i64 (τ.exprs.length:Int)) (putS (twoE k x y p) τ) r Y :=
 put_any b g cap dv ts xb τ (twoE k x y p) none 0 0 W h (okS_iff.1 hok).1 (Hd (qO _ _ _ _)) (Hd fun k hk=>by cases hk)
theorem expr_cases {ts:List Tok} {f:Nat} {σ:RS} {R:Int×List Int×RS} (h:runE ts (f+1) .expr σ=some R):okS σ=true ∧
  (((enterS ts σ).code≠0∧R=(0,[],leaveS (enterS ts σ))) ∨
  ((enterS ts σ).code=0∧isS ts [105,102] (enterS ts σ)=true∧∃a la s2 b lb s3 c lc s4,runE ts f .expr (stepS (enterS ts σ))=some (a,la,s2)∧runE ts f .expr (wantS ts [116,104,101,110] s2)=some (b,lb,s3) ∧
   runE ts f .expr (wantS ts [101,108,115,101] s3)=some (c,lc,s4)∧okS s4=true∧R=((s4.exprs.length:Int),[],leaveS (putS { ex0 with kind:=15,a:=a,b:=b,c:=c,pos:=((tokL ts (enterS ts σ).at_).at_:Int) } s4))) ∨
  ((enterS ts σ).code=0∧isS ts [105,102] (enterS ts σ)=false∧∃o lo y,runE ts f (.bin 1) (enterS ts σ)=some (o,lo,y) ∧
   ((isS ts [45,62] y=true∧∃bv lb z,runE ts f .expr (stepS y)=some (bv,lb,z)∧okS z=true∧R=((z.exprs.length:Int),[],leaveS (putS (twoE 17 o bv (tokL ts y.at_).at_) z))) ∨
   (isS ts [45,62] y=false∧isS ts [102,98,121] y=true∧∃bv lb z,runE ts f .expr (stepS y)=some (bv,lb,z)∧okS z=true∧R=((z.exprs.length:Int),[],leaveS (putS (twoE 18 o bv (tokL ts y.at_).at_) z))) ∨
   (isS ts [45,62] y=false∧isS ts [102,98,121] y=false∧okS y=true∧R=(o,[],leaveS y))))):=by
 simp only[runE] at h
 split at h
 ·rename_i hok
  refine⟨hok,?_⟩
  unfold exprG at h
  dsimp only at h
  split at h
  ·rename_i hc
   split at h
   ·rename_i hi
    cases h1:runE ts f .expr (stepS (enterS ts σ)) with
    | none=>rw[h1] at h;cases h
    | some q1 =>
     rw[h1] at h
     simp only[Option.bind_some] at h
     cases h2:runE ts f .expr (wantS ts [116,104,101,110] q1.2.2) with
     | none=>rw[h2] at h;cases h
     | some q2 =>
      rw[h2] at h
      simp only[Option.bind_some] at h
      cases h3:runE ts f .expr (wantS ts [101,108,115,101] q2.2.2) with
      | none=>rw[h3] at h;cases h
      | some q3 =>
       rw[h3] at h
       simp only[Option.bind_some] at h
       unfold putA at h
       split at h
       ·rename_i hk
        exact .inr (.inl ⟨hc,hi,q1.1,q1.2.1,q1.2.2,q2.1,q2.2.1,q2.2.2,q3.1,q3.2.1,q3.2.2,rfl,h2,h3,hk,(qI h).symm⟩)
       ·cases h
   ·rename_i hi
    cases h1:runE ts f (.bin 1) (enterS ts σ) with
    | none=>rw[h1] at h;cases h
    | some q1 =>
     rw[h1] at h
     simp only[Option.bind_some] at h
     refine .inr (.inr ⟨hc,by simpa using hi,q1.1,q1.2.1,q1.2.2,rfl,?_⟩)
     split at h
     ·rename_i ha
      cases h2:runE ts f .expr (stepS q1.2.2) with
      | none=>rw[h2] at h;cases h
      | some q2 =>
       rw[h2] at h
       simp only[Option.bind_some] at h
       unfold putA at h
       split at h
       ·rename_i hk
        exact .inl ⟨ha,q2.1,q2.2.1,q2.2.2,rfl,hk,(qI h).symm⟩
       ·cases h
     ·rename_i ha
      split at h
      ·rename_i hb
       cases h2:runE ts f .expr (stepS q1.2.2) with
       | none=>rw[h2] at h;cases h
       | some q2 =>
        rw[h2] at h
        simp only[Option.bind_some] at h
        unfold putA at h
        split at h
        ·rename_i hk
         exact .inr (.inl ⟨by simpa using ha,hb,q2.1,q2.2.1,q2.2.2,rfl,hk,(qI h).symm⟩)
        ·cases h
      ·rename_i hb
       split at h
       ·rename_i hk
        exact .inr (.inr ⟨by simpa using ha,by simpa using hb,hk,(qI h).symm⟩)
       ·cases h
  ·rename_i hc
   exact .inl ⟨hc,(qI h).symm⟩
 ·cases h
theorem pre_cases {ts:List Tok} {f:Nat} {σ:RS} {R:Int×List Int×RS} (h:runE ts (f+1) .pre σ=some R):okS σ=true ∧
  (((enterS ts σ).code≠0∧R=(0,[],leaveS (enterS ts σ))) ∨
  ((enterS ts σ).code=0∧prefixK ts (enterS ts σ) prefixL=0∧∃v l y,runE ts f .atom (enterS ts σ)=some (v,l,y)∧okS y=true∧R=(v,[],leaveS y)) ∨
  ((enterS ts σ).code=0∧prefixK ts (enterS ts σ) prefixL≠0∧∃v l y,runE ts f .pre (stepS (enterS ts σ))=some (v,l,y)∧okS y=true ∧
   R=((y.exprs.length:Int),[],leaveS (putS { ex0 with kind:=prefixK ts (enterS ts σ) prefixL,a:=v,pos:=((tokL ts (enterS ts σ).at_).at_:Int) } y)))):=by
 simp only[runE] at h
 split at h
 ·rename_i hok
  refine⟨hok,?_⟩
  unfold preG at h
  dsimp only at h
  split at h
  ·rename_i hc
   split at h
   ·rename_i hi
    cases h1:runE ts f .atom (enterS ts σ) with
    | none=>rw[h1] at h;cases h
    | some q1 =>
     rw[h1] at h
     simp only[Option.bind_some] at h
     split at h
     ·rename_i hk
      exact .inr (.inl ⟨hc,hi,q1.1,q1.2.1,q1.2.2,rfl,hk,(qI h).symm⟩)
     ·cases h
   ·rename_i hi
    cases h1:runE ts f .pre (stepS (enterS ts σ)) with
    | none=>rw[h1] at h;cases h
    | some q1 =>
     rw[h1] at h
     simp only[Option.bind_some] at h
     unfold putA at h
     split at h
     ·rename_i hk
      exact .inr (.inr ⟨hc,hi,q1.1,q1.2.1,q1.2.2,rfl,hk,(qI h).symm⟩)
     ·cases h
  ·rename_i hc
   exact .inl ⟨hc,(qI h).symm⟩
 ·cases h
end Go.Proofs.YtlbhlncipajapaaGreatDoor
