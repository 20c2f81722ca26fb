import Derived.Test.YthpgfahlccljnaaGreatDoorSw24
import Derived.ProofKit
import Derived.OpenShut
import Derived.LaidMore
import Derived.Lay
import Derived.SevenTiedAt
import Derived.Stop.Joined
import Derived.Stop.LaidErr
import Derived.Lib.LaidU8
set_option maxHeartbeats 16000000
set_option maxRecDepth 100000
open Go.Proofs.Tryz(prog)
namespace Go.Proofs.YthpgfahlccljnaaGreatDoor
open Go.RowKit
attribute [local go_sem] Oper.semAt_some
def KindOk (d:De):Prop:=(1≤d.kind∧d.kind≤3)∧∀y ∈ d.items,1≤y.kind∧y.kind≤8
theorem trees_law (p:Pr) (od oe:Option Addr) (nd cd n cap:Nat) (e:Int) (w:World) (hn:Hid (n=p.exprs.length)) (hnd:Hid (nd=p.decls.length)) (hp:Hid (ProgAt w (.slice od nd cd) (.slice oe n cap) p)) (hSg:Hid (SgnAt w)) (hT:Hid (Tab w)) (hb:Hid (Bulk p)) :
  Calls prog 3 #[.agg #[.slice od nd cd,.slice oe n cap],.int .i64 e] w fun r Y=>r=.returned (.bool true)∧Below w.heap.size w Y:=by
 obtain⟨Wb,hWb⟩:∃Wb,Wb=w.alloc (.cells #[.slice od nd cd,.slice oe n cap] 25):=⟨_,rfl⟩
 have HB:Hid (Below w.heap.size w Wb):=Hd (by rw[hWb];exact(qB _ _).alloc (qL _) _)
 have b0:Wb.cell? ⟨w.heap.size,0,none⟩=some (.slice od nd cd):=by rw[hWb,World.cell?_alloc_new];rfl
 have b1:Wb.cell? ⟨w.heap.size,1,none⟩=some (.slice oe n cap):=by rw[hWb,World.cell?_alloc_new];rfl
 have CA:Hid (Calls prog 4 #[] Wb fun r Y=>r=.returned (.bool true)∧Hid (Below Wb.heap.size Wb Y)):=Hd ((alive_sh Wb (fun k hk=>cell_below HB.out (hSg.out k hk)) (tab_below hT.out HB.out)).mono fun r Y h=>⟨h.1,Hd h.2⟩)
 have CG:Hid (∀Y,Below w.heap.size w Y→Calls prog 5 #[.agg #[.slice od nd cd,.slice oe n cap]] Y fun r Z=>GrPost p Y r Z):=Hd fun Y hY=>grt_core p od oe nd cd n cap Y (Hd (hp.out.below hY)) (Hd hn.out.symm)
 go_enter Tryz.func3,Tryz.ntmps3
 go_upto_region 1 with (fail)
 rw[←hWb]
 clear hWb
 go_wp2_with fail
 (with_reducible refine CA.out.mono ?_)
 rintro r w1 ⟨rfl,h1⟩
 dsimp only
 have c0:=cell_on h1.out b0
 have c1:=cell_on h1.out b1
 have HB1:=Hd (HB.out.trans (h1.out.mono HB.out.size))
 clear b0 b1 CA
 go_wp2_with fail
 (with_reducible refine(CG.out _ HB1.out).mono ?_)
 rintro r w2 ⟨g,rfl,h2⟩
 dsimp only
 have d0:=cell_on h2.out.2 c0
 have d1:=cell_on h2.out.2 c1
 have HB2:=Hd (HB1.out.trans (h2.out.2.mono HB1.out.size))
 clear c0 c1 CG
 cases g with
 | true =>
  go_wp2_with fail
  go_ret
  exact⟨rfl,HB2.out⟩
 | false =>
  have HS:=Hd (h2.out.1 rfl).1
  have HTS:=Hd (h2.out.1 rfl).2
  have hns:n≤300:=by have:=HS.out.exprs;have:=hn.out;omega
  have hnds:nd≤60:=by have:=HS.out.decls;have:=hnd.out;omega
  obtain⟨mp,hmp⟩:∃mp,mp=mayP p:=⟨_,rfl⟩
  have CM:Hid (Calls prog 6 #[.agg #[.slice od nd cd,.slice oe n cap]] w2 fun r Z=>r=.returned (.bool mp)∧Hid (Below w2.heap.size w2 Z)):=Hd ((refMay_any _ _ p w2 (hp.out.below HB2.out) HS.out).mono fun r Z h=>⟨by rw[hmp];exact h.1,Hd h.2⟩)
  have HMP:=Hd hmp
  clear hmp h2
  cases mp with
  | false =>
   have CE:Hid (∀Y,Below w.heap.size w Y→Calls prog 7 #[.agg #[.slice od nd cd,.slice oe n cap],.int .i64 e] Y fun r Z=>r=.returned (.string ⟨#[]⟩)∧Hid (Below Y.heap.size Y Z)):=Hd fun Y hY=>by
    have hM:=sh_mays p _ _ w hp.out HS.out false HMP.out.symm
    by_cases ho:e<0∨(n:Int)≤e
    ·exact(expr_out od oe nd cd n cap e (by omega) Y ho).mono fun r Z h=>⟨h.1,Hd h.2⟩
    ·exact(expr_none od oe nd cd n cap e (by omega) (by omega) Y (Hd fun Z hZ=>hM Z (hY.trans (hZ.mono hY.size)))).mono fun r Z h=>⟨h.1,Hd h.2⟩
   have CP:Hid (∀Y,Below w.heap.size w Y→Calls prog 8 #[.agg #[.slice od nd cd,.slice oe n cap]] Y fun r Z=>r=.returned (.string ⟨#[]⟩)∧Hid (Below Y.heap.size Y Z)):=Hd fun Y hY=>by
    have hM:=sh_mays p _ _ w hp.out HS.out false HMP.out.symm
    exact(program_none p od oe nd cd n cap Y (Hd fun Z hZ=>hM Z (hY.trans (hZ.mono hY.size)))).mono fun r Z h=>⟨h.1,Hd h.2⟩
   go_wp2_with (first
    | (go_at_call 6;(with_reducible refine CM.out.mono ?_);rintro r w3 ⟨rfl,h3⟩;have f0:=cell_on h3.out d0;have f1:=cell_on h3.out d1;have HB3:=Hd (HB2.out.trans (h3.out.mono HB2.out.size)))
    | (go_at_call 7;(with_reducible refine(CE.out _ HB3.out).mono ?_);rintro r w4 ⟨rfl,h4⟩;have g0:=cell_on h4.out f0;have g1:=cell_on h4.out f1;have HB4:=Hd (HB3.out.trans (h4.out.mono HB3.out.size)))
    | (go_at_call 8;(with_reducible refine(CP.out _ HB4.out).mono ?_);rintro r w5 ⟨rfl,h5⟩))
   go_ret
   exact⟨rfl,HB4.out.trans (h5.out.mono HB4.out.size)⟩
  | true =>
   go_wp2_with (go_at_call 6;(with_reducible refine CM.out.mono ?_);rintro r w3 ⟨rfl,h3⟩)
   have f0:=cell_on h3.out d0
   have f1:=cell_on h3.out d1
   have HB3:=Hd (HB2.out.trans (h3.out.mono HB2.out.size))
   obtain⟨bd,fd,hod,hcd⟩:∃bd fd,Hid (0<nd→od=some ⟨bd,fd,none⟩)∧Hid (∀i,i<nd→∀d,p.decls[i]?=some d→DeAt w3 bd (fd+i*7) d):=by
    obtain⟨⟨od',cd',bd,fd,hsd,_,_,hod,hc⟩,_⟩:=hp.out
    injection hsd with e1 e2 e3
    subst e1 e3
    rw[←hnd.out] at hod hc
    exact⟨bd,fd,Hd hod,Hd fun i hi d hd=>(hc i hi d hd).below HB3.out⟩
   clear d0 d1 CM
   go_loopw [5] (fun i wr=>∃c:Nat,i=.int .i64 (c:Int)∧c≤nd∧Hid (∀i,i<c→∀d,p.decls[i]?=some d→KindOk d)∧w3=wr) (fun i _=>nd-litLen i)
   case atStart=>exact⟨0,rfl,Nat.zero_le _,Hd fun i hi=>by omega,rfl⟩
   case round =>
    obtain⟨c,rfl,hc,hI,rfl⟩:=hrel
    rcases Nat.lt_or_ge c nd with hlt | hge
    ·have hl:(c:Int)<(nd:Int):=by omega
     obtain⟨d,hdc⟩:∃d,p.decls[c]?=some d:=⟨_,List.getElem?_eq_getElem (by have:=hnd.out;omega)⟩
     obtain⟨_,_,a0,_,_,a3,_,_,_,_,hit,_⟩:=hcd.out c hlt d hdc
     obtain⟨oi,ci,bi,fi,rfl,_,_,hoi,hix⟩:=hit
     have ix:=ix_des (cap:=cd) hod.out hlt (by omega)
     unfold Ix at ix
     obtain⟨kd,hkd⟩:∃kd,kd=d.kind:=⟨_,rfl⟩
     obtain⟨ni,hni⟩:∃ni,ni=d.items.length:=⟨_,rfl⟩
     rw[←hkd] at a0
     rw[←hni] at a3 hoi hix
     have hns2:ni≤600:=by rw[hni];exact(HS.out.de d (List.mem_of_getElem? hdc)).2.1
     have HDC:=Hd hdc
     have HKD:=Hd hkd
     have HNI:=Hd hni
     have HOI:=Hd hoi
     have HIX:=Hd hix
     clear hdc hkd hni hoi hix
     by_cases k1:kd<1
     ·go_wp2_with fail
      go_ret
      exact⟨rfl,HB3.out⟩
     by_cases k3:3<kd
     ·go_wp2_with fail
      go_ret
      exact⟨rfl,HB3.out⟩
     go_wp2_with fail
     go_loopw [6] (fun i wr=>∃k:Nat,i=.int .i64 (k:Int)∧k≤ni∧Hid (∀i,i<k→∀y,d.items[i]?=some y→1≤y.kind∧y.kind≤8)∧w3=wr) (fun i _=>ni-litLen i)
     case atStart=>exact⟨0,rfl,Nat.zero_le _,Hd fun i hi=>by omega,rfl⟩
     case round =>
      obtain⟨k,rfl,hk,hJ,rfl⟩:=hrel
      rcases Nat.lt_or_ge k ni with hlt2 | hge2
      ·have hl2:(k:Int)<(ni:Int):=by omega
       obtain⟨y,hyk⟩:∃y,d.items[k]?=some y:=⟨_,List.getElem?_eq_getElem (by have:=HNI.out;omega)⟩
       obtain⟨_,t0,_⟩:=HIX.out k hlt2 y hyk
       have ix2:=ix_its (cap:=ci) HOI.out hlt2 (by omega)
       unfold Ix at ix2
       obtain⟨ky,hky⟩:∃ky,ky=y.kind:=⟨_,rfl⟩
       rw[←hky] at t0
       have HYK:=Hd hyk
       have HKY:=Hd hky
       clear hyk hky
       by_cases j1:ky<1
       ·go_wp2_with fail
        go_ret
        exact⟨rfl,HB3.out⟩
       by_cases j8:8<ky
       ·go_wp2_with fail
        go_ret
        exact⟨rfl,HB3.out⟩
       have HJ1:=Hd j1
       have HJ8:=Hd j8
       go_wp2_with fail
       refine⟨⟨k+1,by go_num,by omega,Hd fun i hi z hz=>?_,trivial⟩,by simp[litLen];omega⟩
       rcases Nat.lt_or_ge i k with h | h
       ·exact hJ.out i h z hz
       ·obtain rfl:i=k:=by omega
        have e1:=HYK.out.symm.trans hz
        cases e1
        have:=HJ1.out
        have:=HJ8.out
        have:=HKY.out
        omega
      ·obtain rfl:k=ni:=by omega
       have hno2:¬(k:Int)<(k:Int):=by omega
       have HK1:=Hd k1
       have HK3:=Hd k3
       clear hge2
       go_wp2_with fail
       refine⟨⟨c+1,by go_num,by omega,Hd fun i hi z hz=>?_,trivial⟩,by simp[litLen];omega⟩
       rcases Nat.lt_or_ge i c with h | h
       ·exact hI.out i h z hz
       ·obtain rfl:i=c:=by omega
        have e1:=HDC.out.symm.trans hz
        cases e1
        refine⟨by have:=HK1.out;have:=HK3.out;have:=HKD.out;omega,fun y hy=>?_⟩
        obtain⟨q,hq⟩:=List.getElem?_of_mem hy
        exact hJ.out q (by have:=(List.getElem?_eq_some_iff.1 hq).1;have:=HNI.out;omega) y hq
    ·obtain rfl:c=nd:=by omega
     have hno:¬(c:Int)<(c:Int):=by omega
     have HK:Hid (KindsOk p):=Hd fun d hd=>by
      obtain⟨i,hi⟩:=List.getElem?_of_mem hd
      exact hI.out i (by have:=(List.getElem?_eq_some_iff.1 hi).1;have:=hnd.out;omega) d hi
     obtain⟨R,CP,CR⟩:=sh_progs p od oe c cd n cap w hn.out hnd.out hp.out HS.out HMP.out.symm (HTS.out HMP.out.symm) hSg.out hT.out hb.out HK.out
     have HCP:=Hd CP
     have HCR:=Hd CR
     have hRR:(R.toList ==R.toList)=true:=by simp
     have BD:Hid (Below w.heap.size w w3.drew):=Hd (HB3.out.trans ⟨rfl,rfl,rfl,qL _,fun _ _=>rfl⟩)
     clear CP CR hge hI
     go_wp2_with fail
     go_region_held3 (fun w'=>w'.cell? ⟨w.heap.size,0,none⟩=some (.slice od c cd)∧w'.cell? ⟨w.heap.size,1,none⟩=some (.slice oe n cap))
      (first | exact⟨f0,f1⟩ | exact⟨cell_on h4.out f0,cell_on h4.out f1⟩ | exact⟨cell_on h5.out (cell_on h4.out f0),cell_on h5.out (cell_on h4.out f1)⟩)
      (first
       | (go_at_call 8;(with_reducible refine Calls.mono (HCP.out _ BD.out) ?_);rintro r w4 ⟨rfl,h4⟩;have HB4:=Hd (below_tr BD.out h4.out))
       | (go_at_call 9;(with_reducible refine Calls.mono (HCR.out _ HB4.out) ?_);rintro r w5 ⟨rfl,h5⟩))
     all_goals (
      have g0:=cell_on h5.out (cell_on h4.out f0)
      have g1:=cell_on h5.out (cell_on h4.out f1)
      have HB5:=Hd (below_tr HB4.out h5.out)
      by_cases e0:e<0
      ·have CE:=Hd (expr_out od oe c cd n cap e (by omega) w5 (.inl e0))
       go_wp2_with (go_at_call 7;(with_reducible refine CE.out.mono ?_);rintro r w6 ⟨rfl,h6⟩)
       go_ret
       exact⟨rfl,below_tr HB5.out h6⟩
      ·by_cases en:(n:Int)≤e
       ·have CE:=Hd (expr_out od oe c cd n cap e (by omega) w5 (.inr en))
        go_wp2_with (go_at_call 7;(with_reducible refine CE.out.mono ?_);rintro r w6 ⟨rfl,h6⟩)
        go_ret
        exact⟨rfl,below_tr HB5.out h6⟩
       ·obtain⟨a,rfl⟩:∃a:Nat,e=(a:Int):=⟨e.toNat,by omega⟩
        obtain⟨t,CT,CU⟩:=sh_exprs p od oe c cd n cap w hn.out hnd.out hp.out HS.out HMP.out.symm (HTS.out HMP.out.symm) hSg.out hT.out a (by omega)
        have HCT:=Hd CT
        have HCU:=Hd CU
        have htt:(t.toList ==t.toList)=true:=by simp
        have BD5:Hid (Below w.heap.size w w5.drew):=Hd (HB5.out.trans ⟨rfl,rfl,rfl,qL _,fun _ _=>rfl⟩)
        clear CT CU
        go_wp2_with fail
        go_region_held3 (fun w'=>w'.cell? ⟨w.heap.size,0,none⟩=some (.slice od c cd)∧w'.cell? ⟨w.heap.size,1,none⟩=some (.slice oe n cap))
         (first | exact⟨g0,g1⟩ | exact⟨cell_on h6.out g0,cell_on h6.out g1⟩ | exact⟨cell_on h7.out (cell_on h6.out g0),cell_on h7.out (cell_on h6.out g1)⟩)
         (first
          | (go_at_call 7;(with_reducible refine Calls.mono (HCT.out _ BD5.out) ?_);rintro r w6 ⟨rfl,h6⟩;have HB6:=Hd (below_tr BD5.out h6.out))
          | (go_at_call 10;(with_reducible refine Calls.mono (HCU.out _ HB6.out) ?_);rintro r w7 ⟨rfl,h7⟩))
        all_goals (
         go_wp2_with fail
         go_ret
         exact⟨by simp,below_tr HB6.out h7.out⟩))
end Go.Proofs.YthpgfahlccljnaaGreatDoor
namespace Go.Proofs.YthpgfahlccljnaaGreatDoor
open Go.ChangeShapes Go.WideShapes Go.ChangeAt Go.RowKit
theorem glob_signs:prog.globalNamed "astrolabe/show.signs"=some 0:=by kernel_rfl
theorem type_signs:(prog.globals[0]?).map (·.type)=some 124:=by kernel_rfl
def showSigns:List (List UInt8):=[[],[],[],[],[45],[110,111,116,32],[32,43,32],[32,45,32],[32,42,32],[32,47,32],[32,60,32],[32,60,61,32],[32,61,61,32],[32,97,110,100,32],[32,111,114,32],[],[112,114,101,32],[32,45,62,32],[32,102,98,121,32],[],[],[115,113,114,116,32]]
theorem cells_of_texts {P:Program} {w:World} {fuel:Nat} {t e:TypeId} {n:Nat} {cs:List Value} {xs:List (List UInt8)} {p:List MemPlace}
  (ht:P.underlying t=some (.array n e)) (he:P.underlying e=some .string) (hce:P.cellsOf e=1) (hct:P.cellsOf t=n)
  (h:DataW.trod (fun _=>()) P w 0 (fun _=>true) false fuel t cs=some (.agg (xs.map fun x=>.lit (.string x)),p)):cs=xs.map fun x=>Value.string ⟨x.toArray⟩:=by
 cases fuel with
 | zero=>simp[DataW.trod] at h
 | succ fuel =>
  simp only[DataW.trod,ht,hce,hct,Nat.mul_one] at h
  split at h
  ·obtain⟨ys,hm,hx⟩:=Option.map_eq_some_iff.1 h
   have hxs:ys.map (·.1)=xs.map fun x=>(DataW.lit (.string x):DataW Unit):=by
    have:=congrArg Prod.fst hx
    simpa using this
   have hyl:ys.length=n:=by simpa using Lib.mapM_length hm
   have hxl:xs.length=n:=by
    have:=congrArg List.length hxs
    simp at this
    omega
   rename_i hl
   apply List.ext_getElem?
   intro i
   by_cases hi:i<n
   ·obtain⟨b,hb,hf⟩:=Lib.mapM_at hm i i (by simp[hi])
    obtain⟨s,hc,rfl,_⟩:=DataW.trod_string he hf
    have h1:cs[i]?=some (.string s):=by
     have:=congrArg (·[0]?) hc
     simpa [List.getElem?_take,List.getElem?_drop] using this
    have h2:(ys.map (·.1))[i]?=some (DataW.lit (.string s.data.toList):DataW Unit):=by simp[hb]
    rw[hxs] at h2
    simp only[List.getElem?_map,Option.map_eq_some_iff,DataW.lit.injEq,Lit.string.injEq] at h2
    obtain⟨x,hx',h3⟩:=h2
    rw[h1,List.getElem?_map,hx',h3]
    simp
   ·rw[List.getElem?_eq_none (by omega),List.getElem?_eq_none (by simp;omega)]
  ·cases h
theorem tab_of_row {W:World} (h:laidMetH prog Rows.showTreesUptoRow.laid W):Tab W:=by
 rw[MakeChecks.laidMetH_plain _ _ _ (by kernel_rfl)] at h
 have h2:=laidMet.tail (laidMet.tail h)
 exact Lib.tabIs_of_head (k:=.u64) (zs:=Lib.pow10Tab) (t:=156) (e:=114) (n:=20) glob_pow (by kernel_rfl) Tryz.underlying156 Tryz.underlying114 (by kernel_rfl) (by kernel_rfl) h2
theorem sgn_of_row {W:World} (h:laidMetH prog Rows.showTreesUptoRow.laid W):SgnAt W:=by
 rw[MakeChecks.laidMetH_plain _ _ _ (by kernel_rfl)] at h
 obtain⟨g',t',cs,fuel,p,hg',ht',hvar,hd⟩:=Lib.laidMet.reads h (n:="astrolabe/show.signs") (d:=Rows.laid_astrolabe_show_signs) (by simp[Rows.showTreesUptoRow])
 obtain rfl:=qI (glob_signs.symm.trans hg')
 obtain rfl:=qI (type_signs.symm.trans ht')
 have hcs:=cells_of_texts (xs:=showSigns) Tryz.underlying124 Tryz.underlying9 (by kernel_rfl) (by kernel_rfl) hd
 unfold World.var? at hvar
 rw[glob_signs,Option.bind_some] at hvar
 split at hvar
 ·rename_i c T fr hh
  cases hvar
  have hc:∀k:Nat,W.cell? ⟨0,k,none⟩=cs.toList[k]?:=by
   intro k
   simp only[World.cell?,hh]
   simp
  intro k hk
  rw[hc,hcs]
  rcases hk with rfl | rfl | rfl | rfl | hk | rfl | rfl
  ·rfl
  ·rfl
  ·rfl
  ·rfl
  ·have:k=6∨k=7∨k=8∨k=9∨k=10∨k=11∨k=12∨k=13∨k=14:=by omega
   rcases this with rfl | rfl | rfl | rfl | rfl | rfl | rfl | rfl | rfl <;> rfl
  ·rfl
  ·rfl
 ·cases hvar
end Go.Proofs.YthpgfahlccljnaaGreatDoor
namespace Go.Proofs.YthpgfahlccljnaaGreatDoor
open Go.ChangeShapes Go.WideShapes Go.Deep Go.RowKit
section
variable {H:Type} {enc:TypeId×Value→H} {w:World}
theorem bulkAll_map {α:Type} (f:α→DataW H):∀l:List α,Rows.uptoBulkAll (l.map f)=(l.map fun a=>Rows.uptoBulk (f a)).sum
 | []=>by simp[Rows.uptoBulkAll]
 | a :: l=>by rw[List.map_cons,Rows.uptoBulkAll,bulkAll_map f l,List.map_cons,List.sum_cons]
theorem bulk_str (s:ByteArray):Rows.uptoBulk (DataW.lit (H:=H) (.string s.data.toList))=s.size+1:=by
 rw[Rows.uptoBulk];rfl
theorem bulk_drop {ys:List (DataW H×List MemPlace)} {j:Nat} {y:DataW H×List MemPlace} (h:ys[j]?=some y):Rows.uptoBulkAll ((ys.drop j).map (·.1))=Rows.uptoBulk y.1+Rows.uptoBulkAll ((ys.drop (j+1)).map (·.1)):=by
 obtain⟨hj,rfl⟩:=List.getElem?_eq_some_iff.1 h
 rw[List.drop_eq_getElem_cons hj,List.map_cons,Rows.uptoBulkAll]
theorem sum_le_at {α:Type} (f:α→Nat):∀(l:List α) (B:Nat→Nat),(∀i x,l[i]?=some x→f x≤B i)→(l.map f).sum≤((List.range l.length).map B).sum
 | [],_,_=>by simp
 | x :: l,B,h=>by
  have h0:=h 0 x rfl
  have h1:=sum_le_at f l (fun i=>B (i+1)) (fun i y hy=>h (i+1) y (by simpa using hy))
  rw[List.map_cons,List.sum_cons,List.length_cons,List.range_succ_eq_map,List.map_cons,List.sum_cons,List.map_map]
  exact Nat.add_le_add h0 h1
theorem le_sum_range (B:Nat→Nat) {n i:Nat} (h:i<n):B i≤((List.range n).map B).sum:=mem_le_sum B (List.mem_range.2 h)
theorem list_atB {α:Type} [Inhabited α] {n:Nat} {s:Value} {sz:Nat} {q:Nat→Nat→Nat→Prop} {r:Nat→Nat→α→Prop} {t:Nat→α→Prop} (h:SlAt s n sz q) (hq:∀b o i,i<n→q b o i→∃x,r b o x∧t i x) :
  ∃l:List α,l.length=n∧(SlAt s n sz fun b o i=>∀x,l[i]?=some x→r b o x)∧∀i x,l[i]?=some x→t i x:=by
 obtain⟨o,cap,b,off,rfl,h1,h2,h3,h4⟩:=h
 obtain⟨f,hf⟩:=choose_lt (fun i hi=>hq b (off+i*sz) i hi (h4 i hi))
 refine⟨(List.range n).map f,by simp,⟨o,cap,b,off,rfl,h1,h2,h3,fun i hi x hx=>?_⟩,fun i x hx=>?_⟩
 ·simp[hi] at hx
  subst hx
  exact(hf i hi).1
 ·have hi:i<n:=by have:=(List.getElem?_eq_some_iff.1 hx).1;simpa using this
  simp[hi] at hx
  subst hx
  exact(hf i hi).2
theorem open_fieldsB {t e:TypeId} {fs:Array Field} (ht:prog.underlying t=some (.slice e)) (he:prog.underlying e=some (.struct fs)) (hone:oneCellFields prog fs=true) (hC:prog.cellsOf e=fs.size) (hpos:0<fs.size) (hB:0<prog.bytesOf e)
  {fuel:Nat} {cs:List Value} {x:DataW H×List MemPlace} (h:DataW.trod enc prog w 0 (fun _=>true) true fuel t cs=some x) (hw:∀n ∈ x.1.weights prog t,n≤reachBytes) :
  ∃s n,∃B:Nat→Nat,cs=[s]∧n≤reachN∧((List.range n).map B).sum≤Rows.uptoBulk x.1∧SlAt s n fs.size fun b o i=>∃fu,∃ys:List (DataW H×List MemPlace),Rows.uptoBulkAll (ys.map (·.1))≤B i∧∀(j:Nat) (f:Field),fs[j]?=some f→∃(v:Value) (y:DataW H×List MemPlace),ys[j]?=some y∧w.cell? ⟨b,o+j,none⟩=some v ∧
   DataW.trod enc prog w 0 (fun _=>true) true fu f.type [v]=some y∧∀n ∈ y.1.weights prog f.type,n≤reachBytes:=by
 rcases open_slice ht h with ⟨rfl,rfl⟩ | ⟨a,len,cap,m,nf,D,Pl,rfl,_,hlc,hcm,hm,rfl,hel⟩
 ·exact⟨_,0,fun _=>0,rfl,Nat.zero_le _,Nat.zero_le _,slAt_none _ _ _ _ _ ⟨Nat.zero_le _,fun _=>rfl⟩ rfl⟩
 ·simp only[if_true] at hm
  have hr:len≤reachN:=by
   have:=hw _ (by simp only[DataW.weights,ht];exact List.mem_cons_self)
   simp only[List.length_map,List.length_range] at this
   have h2:len≤(len+(m-len))*prog.bytesOf e:=Nat.le_trans (by omega) (Nat.le_mul_of_pos_right _ hB)
   exact reach_le (Nat.le_trans h2 this)
  have one:∀i,i<len→∃fu,∃ys:List (DataW H×List MemPlace),Rows.uptoBulkAll (ys.map (·.1))≤Rows.uptoBulk (D i)∧∀(j:Nat) (f:Field),fs[j]?=some f→∃(v:Value) (y:DataW H×List MemPlace),ys[j]?=some y∧w.cell? (a.add (i*fs.size+j))=some v ∧
    DataW.trod enc prog w 0 (fun _=>true) true fu f.type [v]=some y∧∀n ∈ y.1.weights prog f.type,n≤reachBytes:=by
   intro i hi
   obtain⟨cs',hcs,htr⟩:=hel i (by omega)
   rw[hC] at hcs
   obtain⟨ys,fu,hy,hxy,hlen,hyl,hf⟩:=DataW.trod_struct he htr
   obtain⟨_,hcl,hat⟩:=World.cells?_some hcs
   simp only[Prod.mk.injEq] at hxy
   refine⟨fu,ys,by rw[hxy.1,Rows.uptoBulk];omega,fun j f hj=>?_⟩
   obtain⟨ho,hk⟩:=hone_of hone j f hj
   have hjl:j<fs.size:=(Array.getElem?_eq_some_iff.1 hj).1
   have hv:cs'[j]?=some (cs'[j]'(by omega)):=List.getElem?_eq_getElem (by omega)
   have hys:ys[j]?=some (ys[j]'(by omega)):=List.getElem?_eq_getElem (by omega)
   have h1:=hf j f hj
   rw[ho,hk,show(cs'.drop j).take 1=[cs'[j]'(by omega)] by rw[List.drop_eq_getElem_cons (by omega)];rfl,hys] at h1
   refine⟨_,_,hys,by rw[←add_add,hat j hjl,hv],h1,fun n hn=>hw n ?_⟩
   simp only[DataW.weights,ht]
   refine List.mem_cons_of_mem _ (List.mem_append_left _ (weights_all (List.mem_map.2 ⟨i,List.mem_range.2 hi,rfl⟩) _ ?_))
   rw[hxy.1]
   simp only[DataW.weights,he]
   exact DataW.weights_mem_each (j:=j) (by simp[hj]) (by simp[hys]) n hn
  refine⟨_,len,fun i=>Rows.uptoBulk (D i),rfl,hr,?_,?_⟩
  ·rw[←bulkAll_map,Rows.uptoBulk];omega
  rcases Nat.eq_zero_or_pos len with rfl | hp
  ·exact slAt_none _ _ _ _ _ ⟨hcm,fun h=>by cases h⟩ rfl
  ·have ha':a=⟨a.block,a.off,none⟩:=by
    obtain⟨fu,ys,_,h0⟩:=one 0 hp
    obtain⟨v,y,_,hv,_⟩:=h0 0 _ (Array.getElem?_eq_getElem hpos)
    have ha:=spot_none hv
    obtain⟨b,o,s⟩:=a
    simp[Addr.add] at ha
    simp[ha]
   rw[ha']
   refine slAt_some hlc hcm fun i hi=>?_
   obtain⟨fu,ys,hb,h0⟩:=one i hi
   refine⟨fu,ys,hb,fun j f hj=>?_⟩
   obtain⟨v,y,hy,hv,h2⟩:=h0 j f hj
   rw[add_none a ha',←Nat.add_assoc] at hv
   exact⟨v,y,hy,hv,h2⟩
theorem f_strB {fu:Nat} {v:Value} {y:DataW H×List MemPlace} (h:DataW.trod enc prog w 0 (fun _=>true) true fu 9 [v]=some y) (hw:∀n ∈ y.1.weights prog 9,n≤reachBytes):∃s:ByteArray,v=.string s∧s.size≤reachN∧s.size+1=Rows.uptoBulk y.1:=by
 obtain⟨s,h1,rfl,h3⟩:=DataW.trod_string Tryz.underlying9 h
 refine⟨s,by simpa using h1,reach_le (hw _ ?_),(bulk_str s).symm⟩
 simp[DataW.weights]
theorem f_strsB {fu:Nat} {v:Value} {y:DataW H×List MemPlace} (h:DataW.trod enc prog w 0 (fun _=>true) true fu 34 [v]=some y) (hw:∀n ∈ y.1.weights prog 34,n≤reachBytes):∃l:List ByteArray,StrsAt w v l∧l.length≤reachN∧(∀s ∈ l,s.size≤reachN)∧(l.map (·.size)).sum≤Rows.uptoBulk y.1:=by
 obtain⟨s,l,h1,h2,h3,h4⟩:=open_strsAt h hw
 obtain rfl:v=s:=by simpa using h1
 refine⟨l,h2,h3,h4,?_⟩
 rcases open_strs Tryz.underlying34 Tryz.underlying9 (by kernel_rfl) h with ⟨e,rfl⟩ | ⟨a,len,cap,m,Sx,e,_,hlc,hcm,hm,rfl,hc⟩
 ·obtain rfl:v=.slice none 0 0:=by simpa using e
  obtain⟨o,cp,b,off,hv,_⟩:=h2
  obtain⟨_,e2,_⟩:=Value.slice.inj hv
  rw[List.length_eq_zero_iff.1 e2.symm]
  exact Nat.zero_le _
 ·simp only[if_true] at hm
  obtain rfl:v=.slice (some a) len cap:=by simpa using e
  obtain⟨o,cp,b,off,hv,hle,hcp,hpos,hel⟩:=h2
  obtain⟨e1,e2,e3⟩:=Value.slice.inj hv
  rw[Rows.uptoBulk,bulkAll_map]
  have hs:=sum_le_at (·.size) l (fun i=>Rows.uptoBulk (DataW.lit (H:=H) (.string (Sx i).data.toList))) (fun i x hx=>by
   have hi:=(List.getElem?_eq_some_iff.1 hx).1
   have ha:=hpos (by omega)
   rw[ha,Option.some.injEq] at e1
   have c1:=hel i hi
   have c2:=(hc i (by omega)).1
   rw[e1,add_none _ rfl] at c2
   simp only[Nat.mul_one] at c1
   rw[c1,Option.some.injEq] at c2
   have hxe:l.getD i ⟨#[]⟩=x:=by simp[List.getD,hx]
   rw[hxe] at c2
   injection c2 with c3
   rw[bulk_str,←c3]
   omega)
  rw[←e2] at hs
  omega
theorem open_itsB {M:Nat} {fuel:Nat} {cs:List Value} {x:DataW H×List MemPlace} (h:DataW.trod enc prog w 0 (fun _=>true) true fuel 31 cs=some x) (hw:∀n ∈ x.1.weights prog 31,n≤reachBytes) (hM:Rows.uptoBulk x.1≤M) :
  ∃s,∃l:List It,cs=[s]∧SlAt s l.length 9 (fun b o i=>∀y,l[i]?=some y→ItAt w b o y)∧l.length≤reachN∧∀y ∈ l,itLet y≤M:=by
 obtain⟨s,n,B,rfl,hn,hsum,hs⟩:=open_fieldsB Tryz.underlying31 Tryz.underlying36 (by kernel_rfl) (by kernel_rfl) (by decide) (of_decide_eq_true (by kernel_rfl)) h hw
 obtain⟨l,rfl,hl,hb⟩:=list_atB (r:=ItAt w) (t:=fun _ y=>itLet y≤M) hs (fun b o i hi ⟨fu,ys,hB,hf⟩=>by
  have hBi:=Nat.le_trans (Nat.le_trans hB (le_sum_range B hi)) (Nat.le_trans hsum hM)
  obtain⟨v0,y0,g0,c0,t0,w0⟩:=hf 0 _ rfl
  obtain⟨v1,y1,g1,c1,t1,w1⟩:=hf 1 _ rfl
  obtain⟨v2,y2,g2,c2,t2,w2⟩:=hf 2 _ rfl
  obtain⟨v3,y3,g3,c3,t3,w3⟩:=hf 3 _ rfl
  obtain⟨v4,y4,g4,c4,t4,w4⟩:=hf 4 _ rfl
  obtain⟨v5,y5,g5,c5,t5,w5⟩:=hf 5 _ rfl
  obtain⟨v6,y6,g6,c6,t6,w6⟩:=hf 6 _ rfl
  obtain⟨v7,y7,g7,c7,t7,w7⟩:=hf 7 _ rfl
  obtain⟨v8,y8,g8,c8,t8,w8⟩:=hf 8 _ rfl
  obtain⟨n0,rfl,k0⟩:=f_int t0
  obtain⟨n1,rfl,k1,z1⟩:=f_strB t1 w1
  obtain⟨n2,rfl,k2⟩:=f_int t2
  obtain⟨n3,rfl,k3⟩:=f_int t3
  obtain⟨n4,rfl,k4⟩:=f_int t4
  obtain⟨n5,k5,j5,i5,z5⟩:=f_strsB t5 w5
  obtain⟨n6,rfl,k6,z6⟩:=f_strB t6 w6
  obtain⟨n7,rfl,k7,z7⟩:=f_strB t7 w7
  obtain⟨n8,rfl,k8⟩:=f_int t8
  refine⟨⟨n0,n1,n2,n3,n4,n5,n6,n7,n8⟩,⟨v5,c0,c1,c2,c3,c4,c5,c6,c7,c8,k5,⟨k0,k3,k4,k1,k6,k7,j5,i5⟩⟩,?_⟩
  have d0:=bulk_drop g0
  have d1:=bulk_drop g1
  have d2:=bulk_drop g2
  have d3:=bulk_drop g3
  have d4:=bulk_drop g4
  have d5:=bulk_drop g5
  have d6:=bulk_drop g6
  have d7:=bulk_drop g7
  rw[List.drop_zero] at d0
  simp only[Nat.reduceAdd] at d0 d1 d2 d3 d4 d5 d6 d7
  unfold itLet
  show n1.size+n6.size+n7.size+(n5.map (·.size)).sum≤M
  omega)
 exact⟨s,l,rfl,hl,hn,fun y hy=>by
  obtain⟨i,hi⟩:=List.getElem?_of_mem hy
  exact hb i y hi⟩
theorem open_pasB {M:Nat} {fuel:Nat} {cs:List Value} {x:DataW H×List MemPlace} (h:DataW.trod enc prog w 0 (fun _=>true) true fuel 30 cs=some x) (hw:∀n ∈ x.1.weights prog 30,n≤reachBytes) (hM:Rows.uptoBulk x.1≤M) :
  ∃s,∃l:List Pa,cs=[s]∧SlAt s l.length 2 (fun b o i=>∀y,l[i]?=some y→PaAt w b o y)∧l.length≤reachN∧(l.map (·.name.size)).sum≤M:=by
 obtain⟨s,n,B,rfl,hn,hsum,hs⟩:=open_fieldsB Tryz.underlying30 Tryz.underlying63 (by kernel_rfl) (by kernel_rfl) (by decide) (of_decide_eq_true (by kernel_rfl)) h hw
 obtain⟨l,rfl,hl,hb⟩:=list_atB (r:=PaAt w) (t:=fun i y=>y.name.size≤B i) hs (fun b o i hi ⟨fu,ys,hB,hf⟩=>by
  obtain⟨v0,y0,g0,c0,t0,w0⟩:=hf 0 _ rfl
  obtain⟨v1,y1,g1,c1,t1,w1⟩:=hf 1 _ rfl
  obtain⟨n0,rfl,k0,z0⟩:=f_strB t0 w0
  obtain⟨n1,rfl,k1⟩:=f_int t1
  have d0:=bulk_drop g0
  rw[List.drop_zero] at d0
  refine⟨⟨n0,n1⟩,⟨c0,c1,k0,k1⟩,?_⟩
  show n0.size≤B i
  omega)
 have:=sum_le_at (·.name.size) l B hb
 exact⟨s,l,rfl,hl,hn,by omega⟩
theorem open_desB {M:Nat} {fuel:Nat} {cs:List Value} {x:DataW H×List MemPlace} (h:DataW.trod enc prog w 0 (fun _=>true) true fuel 22 cs=some x) (hw:∀n ∈ x.1.weights prog 22,n≤reachBytes) (hM:Rows.uptoBulk x.1≤M) :
  ∃s l,cs=[s]∧DesAt w s l∧l.length≤reachN∧∀d ∈ l,(∀y ∈ d.items,itLet y≤M)∧(d.params.map (·.name.size)).sum≤M:=by
 obtain⟨s,n,B,rfl,hn,hsum,hs⟩:=open_fieldsB Tryz.underlying22 Tryz.underlying33 (by kernel_rfl) (by kernel_rfl) (by decide) (of_decide_eq_true (by kernel_rfl)) h hw
 obtain⟨l,rfl,hl,hb⟩:=list_atB (r:=DeAt w) (t:=fun _ d=>(∀y ∈ d.items,itLet y≤M)∧(d.params.map (·.name.size)).sum≤M) hs (fun b o i hi ⟨fu,ys,hB,hf⟩=>by
  have hBi:=Nat.le_trans (Nat.le_trans hB (le_sum_range B hi)) (Nat.le_trans hsum hM)
  obtain⟨v0,y0,g0,c0,t0,w0⟩:=hf 0 _ rfl
  obtain⟨v1,y1,g1,c1,t1,w1⟩:=hf 1 _ rfl
  obtain⟨v2,y2,g2,c2,t2,w2⟩:=hf 2 _ rfl
  obtain⟨v3,y3,g3,c3,t3,w3⟩:=hf 3 _ rfl
  obtain⟨v4,y4,g4,c4,t4,w4⟩:=hf 4 _ rfl
  obtain⟨v5,y5,g5,c5,t5,w5⟩:=hf 5 _ rfl
  obtain⟨v6,y6,g6,c6,t6,w6⟩:=hf 6 _ rfl
  have d0:=bulk_drop g0
  have d1:=bulk_drop g1
  have d2:=bulk_drop g2
  have d3:=bulk_drop g3
  rw[List.drop_zero] at d0
  simp only[Nat.reduceAdd] at d0 d1 d2 d3
  obtain⟨n0,rfl,k0⟩:=f_int t0
  obtain⟨n1,rfl,k1⟩:=f_str t1 w1
  obtain⟨s2,n2,e2,k2,j2,z2⟩:=open_pasB (M:=M) t2 w2 (by omega)
  obtain rfl:v2=s2:=by simpa using e2
  obtain⟨s3,n3,e3,k3,j3,z3⟩:=open_itsB (M:=M) t3 w3 (by omega)
  obtain rfl:v3=s3:=by simpa using e3
  obtain⟨n4,rfl,k4⟩:=f_int t4
  obtain⟨n5,rfl,k5⟩:=f_int t5
  obtain⟨n6,rfl,k6⟩:=f_int t6
  exact⟨⟨n0,n1,n2,n3,n4,n5,n6⟩,⟨v2,v3,c0,c1,c2,c3,c4,c5,c6,k2,k3,⟨k0,k5,k1,j2,j3⟩⟩,z3,z2⟩)
 exact⟨s,l,rfl,hl,hn,fun y hy=>by
  obtain⟨i,hi⟩:=List.getElem?_of_mem hy
  exact hb i y hi⟩
theorem open_progB {r:Reach} {v:Value} {d:DataW H} {ps:List MemPlace} (hv:Value.okWide prog w r 0 25 v) (h:DataW.Trod enc prog w 0 (fun _=>true) true 25 v d ps) (hw:∀n ∈ d.weights prog 25,n≤reachBytes) (hM:Rows.uptoBulk d≤1048576) :
  ∃sd se p,v=.agg #[sd,se]∧ProgAt w sd se p∧Bulk p:=by
 obtain⟨v0,v1,y0,y1,n,rfl,rfl,rfl,h0,h1⟩:=Go.Joins.open_agg2 Tryz.underlying25 (by kernel_rfl) (by kernel_rfl) hv h
 have w0:∀n ∈ y0.1.weights prog 22,n≤reachBytes:=fun n hn=>hw n (by
  simp only[DataW.weights,Tryz.underlying25]
  exact DataW.weights_mem_each (j:=0) rfl rfl n hn)
 have w1:∀n ∈ y1.1.weights prog 23,n≤reachBytes:=fun n hn=>hw n (by
  simp only[DataW.weights,Tryz.underlying25]
  exact DataW.weights_mem_each (j:=1) rfl rfl n hn)
 have hM0:Rows.uptoBulk y0.1≤1048576:=by
  rw[Rows.uptoBulk,Rows.uptoBulkAll] at hM
  omega
 obtain⟨s0,l0,e0,k0,j0,z0⟩:=open_desB h0 w0 hM0
 obtain rfl:v0=s0:=by simpa using e0
 obtain⟨s1,l1,e1,k1,j1⟩:=open_exs h1 w1
 obtain rfl:v1=s1:=by simpa using e1
 exact⟨v0,v1,⟨l0,l1⟩,rfl,⟨k0,k1,j0,j1⟩,⟨fun d hd=>(z0 d hd).1,fun d hd=>(z0 d hd).2⟩⟩
end
end Go.Proofs.YthpgfahlccljnaaGreatDoor
