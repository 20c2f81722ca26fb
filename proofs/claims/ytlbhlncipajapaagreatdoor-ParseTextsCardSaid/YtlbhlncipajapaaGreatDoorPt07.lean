import Derived.Test.YtlbhlncipajapaaGreatDoorPt06
import Derived.WalkKit
import Derived.BigQuiet
import Derived.Deep.QuietTactic
import Derived.Deep.RegionHeld3
import Derived.WalkSpells
import Derived.Deep.AppendLies
import Derived.Deep.RegionLaw
import Derived.WalkSmall
set_option maxHeartbeats 16000000
set_option maxRecDepth 100000
set_option linter.unusedVariables false
open Go.Proofs.Tryz(prog)
namespace Go.Proofs.YtlbhlncipajapaaGreatDoor
open Go.RowKit Lx
def RdRet (b g cap:Nat) (dv:Value) (ts:List Tok) (xb:Nat→Prop) (W:World) (v:Value) (σ:RS) (r:Ending) (Y:World):Prop:=r=.returned v∧Rd Y b g cap dv ts xb σ∧RK b W Y
theorem cell_set2 {W:World} {b i j c k:Nat} {x y v:Value} (h:W.cell? ⟨c,k,none⟩=some v) (hn:c≠b∨(k≠i∧k≠j)):((W.setCell ⟨b,i,none⟩ x).setCell ⟨b,j,none⟩ y).drew.cell? ⟨c,k,none⟩=some v:=by
 show((W.setCell ⟨b,i,none⟩ x).setCell ⟨b,j,none⟩ y).cell? ⟨c,k,none⟩=some v
 rw[World.cell?_setCell_other _ _ _ _ (by intro e;injection e with e1 e2;omega),World.cell?_setCell_other _ _ _ _ (by intro e;injection e with e1 e2;omega)]
 exact h
theorem fail_any (b g cap:Nat) (dv:Value) (ts:List Tok) (xb:Nat→Prop) (σ:RS) (e:Int) (W:World) (h:Hid (Rd W b g cap dv ts xb σ)) :
  Calls prog 20 #[.pointer (some ⟨b,0,none⟩),.int .i64 e] W fun r Y=>RdRet b g cap dv ts xb W (.tuple #[]) (failS ts e σ) r Y:=by
 obtain⟨o,c,⟨c0,c1,c3,c4,c5,c6,fr⟩,hx⟩:=h.out.cells
 have ht:=h.out.tok
 have hgb:g≠b:=by have:=h.out.lt;omega
 have hl:=h.out.at_
 have hn:=h.out.len
 obtain⟨t0,t1,t2,t3⟩:=ht
 obtain⟨n,hnn⟩:∃n,n=ts.length:=⟨_,rfl⟩
 obtain⟨a,haa⟩:∃a,a=σ.at_:=⟨_,rfl⟩
 obtain⟨cd,hcd⟩:∃cd,cd=σ.code:=⟨_,rfl⟩
 obtain⟨ps,hps⟩:∃ps,ps=σ.pos:=⟨_,rfl⟩
 obtain⟨dp,hdp⟩:∃dp,dp=σ.deep:=⟨_,rfl⟩
 obtain⟨kd,hkd⟩:∃kd,kd=(tokL ts σ.at_).kind:=⟨_,rfl⟩
 obtain⟨tx,htx⟩:∃tx,tx=(tokL ts σ.at_).text:=⟨_,rfl⟩
 obtain⟨tv,htv⟩:∃tv,tv=(tokL ts σ.at_).v:=⟨_,rfl⟩
 obtain⟨p,hp⟩:∃p,p=(tokL ts σ.at_).at_:=⟨_,rfl⟩
 rw[←hnn] at c0 hl hn
 rw[←hkd] at t0
 rw[←htx] at t1
 rw[←htv] at t2
 rw[←hp] at t3
 rw[←haa] at c1 t0 t1 t2 t3 hl
 rw[←hcd] at c5
 rw[←hdp] at c4
 rw[←hps] at c6
 have k0:((a:Nat):Int)<(n:Int):=by omega
 have f1:=fr 1
 have f4:=fr 4
 have f5:=fr 5
 have f6:=fr 6
 have HCD:=Hd hcd
 have HPS:=Hd hps
 have HDP:=Hd hdp
 have HKD:=Hd hkd
 have HTX:=Hd htx
 have HTV:=Hd htv
 have HP:=Hd hp
 have HAA:=Hd haa
 have HNN:=Hd hnn
 clear fr hx hnn haa hcd hps hdp hkd htx htv hp c3
 by_cases hz:cd=0
 ·subst hz
  have d5:W.drew.cell? ⟨b,5,none⟩=some (.int .i64 0):=c5
  have d6:W.drew.cell? ⟨b,6,none⟩=some (.int .i64 ps):=c6
  have e5:W.drew.frozen? ⟨b,5,none⟩=false:=f5
  have e6:W.drew.frozen? ⟨b,6,none⟩=false:=f6
  go_enter Tryz.func20,Tryz.ntmps20
  go_wp2_with fail
  go_region_held3 (fun w'=>w'.cell? ⟨b,0,none⟩=some (.slice (some ⟨g,0,none⟩) n cap)∧w'.cell? ⟨b,1,none⟩=some (.int .i64 (a:Int))∧w'.cell? ⟨g,a*4+3,none⟩=some (.int .i64 (p:Int)))
   ((repeat' apply And.intro) <;> first | assumption | exact cell_set2 (by assumption) (by omega) | go_keep)
   (fail)
  go_wp2_with fail
  go_end0
  have hf:failS ts e σ={ σ with code:=e,pos:=(p:Int) }:=by unfold failS;rw[if_pos HCD.out.symm,HP.out]
  rw[hf]
  have hb:=below_dr (qB W.heap.size W) 1
  exact⟨rfl,(h.out.below hb).setBad e p,(RK.of_below hb (ql h.out.size)).trans ((RK.set 5 _).trans (RK.set 6 _))⟩
 ·have k1:(cd ==0)=false:=beq_false_of_ne hz
  go_enter Tryz.func20,Tryz.ntmps20
  go_wp2_with fail
  go_end0
  have hf:failS ts e σ=σ:=by unfold failS;rw[if_neg (by rw[←HCD.out];exact hz)]
  rw[hf]
  exact⟨rfl,h.out,RK.refl _ _⟩
theorem is_any (b g cap:Nat) (dv:Value) (ts:List Tok) (xb:Nat→Prop) (σ:RS) (s:List UInt8) (W:World) (h:Hid (Rd W b g cap dv ts xb σ)) :
  Calls prog 40 #[.pointer (some ⟨b,0,none⟩),.string (str s)] W fun r Y=>r=.returned (.bool (isS ts s σ))∧Below W.heap.size W Y:=by
 obtain⟨o,c,⟨c0,c1,c3,c4,c5,c6,fr⟩,hx⟩:=h.out.cells
 have ht:=h.out.tok
 have hgb:g≠b:=by have:=h.out.lt;omega
 have hl:=h.out.at_
 have hn:=h.out.len
 obtain⟨t0,t1,t2,t3⟩:=ht
 obtain⟨n,hnn⟩:∃n,n=ts.length:=⟨_,rfl⟩
 obtain⟨a,haa⟩:∃a,a=σ.at_:=⟨_,rfl⟩
 obtain⟨cd,hcd⟩:∃cd,cd=σ.code:=⟨_,rfl⟩
 obtain⟨ps,hps⟩:∃ps,ps=σ.pos:=⟨_,rfl⟩
 obtain⟨dp,hdp⟩:∃dp,dp=σ.deep:=⟨_,rfl⟩
 obtain⟨kd,hkd⟩:∃kd,kd=(tokL ts σ.at_).kind:=⟨_,rfl⟩
 obtain⟨tx,htx⟩:∃tx,tx=(tokL ts σ.at_).text:=⟨_,rfl⟩
 obtain⟨tv,htv⟩:∃tv,tv=(tokL ts σ.at_).v:=⟨_,rfl⟩
 obtain⟨p,hp⟩:∃p,p=(tokL ts σ.at_).at_:=⟨_,rfl⟩
 rw[←hnn] at c0 hl hn
 rw[←hkd] at t0
 rw[←htx] at t1
 rw[←htv] at t2
 rw[←hp] at t3
 rw[←haa] at c1 t0 t1 t2 t3 hl
 rw[←hcd] at c5
 rw[←hdp] at c4
 rw[←hps] at c6
 have k0:((a:Nat):Int)<(n:Int):=by omega
 have f1:=fr 1
 have f4:=fr 4
 have f5:=fr 5
 have f6:=fr 6
 have HCD:=Hd hcd
 have HPS:=Hd hps
 have HDP:=Hd hdp
 have HKD:=Hd hkd
 have HTX:=Hd htx
 have HTV:=Hd htv
 have HP:=Hd hp
 have HAA:=Hd haa
 have HNN:=Hd hnn
 clear fr hx hnn haa hcd hps hdp hkd htx htv hp c3
 have hgs:g<W.heap.size:=by have:=h.out.lt;have:=h.out.size;omega
 have hbs:b<W.heap.size:=h.out.size
 obtain⟨R,hR⟩:∃R,R=isS ts s σ:=⟨_,rfl⟩
 rw[←hR]
 have HR:Hid (R=(decide (cd=0)&&((decide (kd=3)||decide (kd=4))&&tx ==s))):=Hd (by rw[hR,HCD.out,HKD.out,HTX.out];rfl)
 clear hR
 have HB:=Hd (((qB W.heap.size W).alloc (qL _) (.cells #[.int .i64 (kd:Int),.string (str tx),.int .i64 tv,.int .i64 (p:Int)] 43)).drew)
 obtain⟨b5,x0,x1⟩:(W.alloc (.cells #[.int .i64 (kd:Int),.string (str tx),.int .i64 tv,.int .i64 (p:Int)] 43)).drew.cell? ⟨b,5,none⟩=some (.int .i64 cd) ∧
   (W.alloc (.cells #[.int .i64 (kd:Int),.string (str tx),.int .i64 tv,.int .i64 (p:Int)] 43)).drew.cell? ⟨W.heap.size,0,none⟩=some (.int .i64 (kd:Int)) ∧
   (W.alloc (.cells #[.int .i64 (kd:Int),.string (str tx),.int .i64 tv,.int .i64 (p:Int)] 43)).drew.cell? ⟨W.heap.size,1,none⟩=some (.string (str tx)) :=
  ⟨(HB.out.cell (p:=⟨b,5,none⟩) hbs).trans c5,by show(W.alloc _).cell? _=_;rw[World.cell?_alloc_new];rfl,by show(W.alloc _).cell? _=_;rw[World.cell?_alloc_new];rfl⟩
 by_cases hz:cd=0
 ·subst hz
  by_cases h3:kd=3
  ·subst h3
   by_cases he:tx=s
   ·have hq:((str tx).toList ==(str s).toList)=true:=by rw[he];simp
    have HE:=Hd he
    clear he
    go_enter Tryz.func40,Tryz.ntmps40
    go_wp2_with fail
    go_region_held3 (fun w'=>w'.cell? ⟨b,0,none⟩=some (.slice (some ⟨g,0,none⟩) n cap)∧w'.cell? ⟨b,1,none⟩=some (.int .i64 (a:Int))∧w'.cell? ⟨g,a*4,none⟩=some (.int .i64 (3:Int))∧w'.cell? ⟨g,a*4+1,none⟩=some (.string (str tx))∧w'.cell? ⟨g,a*4+2,none⟩=some (.int .i64 tv)∧w'.cell? ⟨g,a*4+3,none⟩=some (.int .i64 (p:Int)))
     ((repeat' apply And.intro) <;> first | assumption | go_keep)
     (fail)
    go_wp2_with fail
    go_ret
    exact⟨by rw[HR.out];simp[HE.out],HB.out⟩
   ·have hq:((str tx).toList ==(str s).toList)=false:=by rw[bytes_eq];exact beq_false_of_ne he
    have HE:=Hd he
    clear he
    go_enter Tryz.func40,Tryz.ntmps40
    go_wp2_with fail
    go_region_held3 (fun w'=>w'.cell? ⟨b,0,none⟩=some (.slice (some ⟨g,0,none⟩) n cap)∧w'.cell? ⟨b,1,none⟩=some (.int .i64 (a:Int))∧w'.cell? ⟨g,a*4,none⟩=some (.int .i64 (3:Int))∧w'.cell? ⟨g,a*4+1,none⟩=some (.string (str tx))∧w'.cell? ⟨g,a*4+2,none⟩=some (.int .i64 tv)∧w'.cell? ⟨g,a*4+3,none⟩=some (.int .i64 (p:Int)))
     ((repeat' apply And.intro) <;> first | assumption | go_keep)
     (fail)
    go_wp2_with fail
    go_ret
    exact⟨by rw[HR.out];simp[HE.out],HB.out⟩
  ·have n3:((kd:Int) ==3)=false:=beq_false_of_ne (by omega)
   by_cases h4:kd=4
   ·subst h4
    by_cases he:tx=s
    ·have hq:((str tx).toList ==(str s).toList)=true:=by rw[he];simp
     have HE:=Hd he
     clear he
     go_enter Tryz.func40,Tryz.ntmps40
     go_wp2_with fail
     go_region_held3 (fun w'=>w'.cell? ⟨b,0,none⟩=some (.slice (some ⟨g,0,none⟩) n cap)∧w'.cell? ⟨b,1,none⟩=some (.int .i64 (a:Int))∧w'.cell? ⟨g,a*4,none⟩=some (.int .i64 (4:Int))∧w'.cell? ⟨g,a*4+1,none⟩=some (.string (str tx))∧w'.cell? ⟨g,a*4+2,none⟩=some (.int .i64 tv)∧w'.cell? ⟨g,a*4+3,none⟩=some (.int .i64 (p:Int)))
      ((repeat' apply And.intro) <;> first | assumption | go_keep)
      (fail)
     go_wp2_with fail
     go_ret
     exact⟨by rw[HR.out];simp[HE.out],HB.out⟩
    ·have hq:((str tx).toList ==(str s).toList)=false:=by rw[bytes_eq];exact beq_false_of_ne he
     have HE:=Hd he
     clear he
     go_enter Tryz.func40,Tryz.ntmps40
     go_wp2_with fail
     go_region_held3 (fun w'=>w'.cell? ⟨b,0,none⟩=some (.slice (some ⟨g,0,none⟩) n cap)∧w'.cell? ⟨b,1,none⟩=some (.int .i64 (a:Int))∧w'.cell? ⟨g,a*4,none⟩=some (.int .i64 (4:Int))∧w'.cell? ⟨g,a*4+1,none⟩=some (.string (str tx))∧w'.cell? ⟨g,a*4+2,none⟩=some (.int .i64 tv)∧w'.cell? ⟨g,a*4+3,none⟩=some (.int .i64 (p:Int)))
      ((repeat' apply And.intro) <;> first | assumption | go_keep)
      (fail)
     go_wp2_with fail
     go_ret
     exact⟨by rw[HR.out];simp[HE.out],HB.out⟩
   ·have n4:((kd:Int) ==4)=false:=beq_false_of_ne (by omega)
    go_enter Tryz.func40,Tryz.ntmps40
    go_wp2_with fail
    go_region_held3 (fun w'=>w'.cell? ⟨b,0,none⟩=some (.slice (some ⟨g,0,none⟩) n cap)∧w'.cell? ⟨b,1,none⟩=some (.int .i64 (a:Int))∧w'.cell? ⟨g,a*4,none⟩=some (.int .i64 (kd:Int))∧w'.cell? ⟨g,a*4+1,none⟩=some (.string (str tx))∧w'.cell? ⟨g,a*4+2,none⟩=some (.int .i64 tv)∧w'.cell? ⟨g,a*4+3,none⟩=some (.int .i64 (p:Int)))
     ((repeat' apply And.intro) <;> first | assumption | go_keep)
     (fail)
    go_wp2_with fail
    go_ret
    exact⟨by rw[HR.out];simp[h3,h4],HB.out⟩
 ·have n0:(cd ==0)=false:=beq_false_of_ne hz
  go_enter Tryz.func40,Tryz.ntmps40
  go_wp2_with fail
  go_region_held3 (fun w'=>w'.cell? ⟨b,0,none⟩=some (.slice (some ⟨g,0,none⟩) n cap)∧w'.cell? ⟨b,1,none⟩=some (.int .i64 (a:Int))∧w'.cell? ⟨g,a*4,none⟩=some (.int .i64 (kd:Int))∧w'.cell? ⟨g,a*4+1,none⟩=some (.string (str tx))∧w'.cell? ⟨g,a*4+2,none⟩=some (.int .i64 tv)∧w'.cell? ⟨g,a*4+3,none⟩=some (.int .i64 (p:Int)))
   ((repeat' apply And.intro) <;> first | assumption | go_keep)
   (fail)
  go_wp2_with fail
  go_ret
  exact⟨by rw[HR.out];simp[hz],HB.out⟩
theorem ex_info:(prog.info? 46).map (fun i=>(i.zero,i.size,i.bytes))=some (some (.agg #[.int .i64 0,.int .i64 0,.int .i64 0,.int .i64 0,.string ⟨#[]⟩,.string ⟨#[]⟩,.int .i64 0,.slice none 0 0,.int .i64 0]),9,104):=by kernel_rfl
theorem step_put {ops:Array Oper} {o:Oper} {a:Act} {K:Act→World→Prop} {Q:Exit→Act→World→Prop} {E:Prop} (w:World) (hgd:o.guard=none) (s x:Operand)
  (ho:o.op=.call { callee:=.builtin .append,args:=#[s,x],argTypes:=#[24,24] })
  (B:Nat) (v:Value) (n:Nat) (xs:List Value) (hs:a.eval s=v) (hown:w.ownsRow B 46 9 v n xs) (ad:Addr) (news:List Value) (hx:a.eval x=.slice (some ad) 1 1) (hn:news.length=1*9)
  (hc:∀j u,news[j]?=some u→w.cell? (ad.add j)=some u) (h1c:∀u ∈ news,u.oneCell'=true) (hk:n≤100000) (hB:B≤w.heap.size)
  (h:∀g cap w',w'.ownsRow B 46 9 (.slice (some ⟨g,0,none⟩) (n+1) cap) (n+1) (xs++news)→w.grownBy w' v.ownBlock→K (a.put o.dst (.slice (some ⟨g,0,none⟩) (n+1) cap)) w'):if Region.wanted o (yielded ops a.tmps)=true then Oper.wp prog o a w K Q else E:=by
 rw[if_pos (by simp[Region.wanted,hgd])]
 obtain⟨i,h2,h3,h4,h5⟩:=info_parts ex_info
 refine wp_append_own w s x 24 ho B 46 i _ 9 104 Tryz.underlying24 h2 h3 h4 h5 rfl (by decide) v n xs hs hown ad 1 1 news hx hn hc h1c (by unfold maxLen;omega) (by omega) hB fun v' w' r1 r2 _=>?_
 obtain⟨g,cap,rfl⟩:=ownsRow_succ r1
 exact h g cap w' r1 r2
def rdV (x:Ex) (v:Value):Value:=.agg #[.int .i64 x.kind,.int .i64 x.a,.int .i64 x.b,.int .i64 x.c,.string x.name,.string x.state,.int .i64 x.v,v,.int .i64 x.pos]
theorem nine_cells (W:World) (x0 x1 x2 x3 x4 x5 x6 x7 x8:Value) (T:TypeId) (j:Nat) (u:Value) (h:[x0,x1,x2,x3,x4,x5,x6,x7,x8][j]?=some u):(W.alloc (.cells #[x0,x1,x2,x3,x4,x5,x6,x7,x8] T)).cell? ((⟨W.heap.size,0,none⟩:Addr).add j)=some u:=by
 have e:(⟨W.heap.size,0,none⟩:Addr).add j=⟨W.heap.size,j,none⟩:=by unfold Addr.add;split <;> simp_all
 rw[e,World.cell?_alloc_new,←h,←Array.getElem?_toList]
theorem RK.grown {b:Nat} {W Y:World} {v:Value} {n:Nat} {xs:List Value} (h:W.ownsRow (b+1) 46 9 v n xs) (hg:W.grownBy Y v.ownBlock) (hb:b≤W.heap.size):RK b W Y :=
 ⟨hg.os,hg.tape,hg.output,hg.size,fun k hk=>hg.block k (by omega) (fun e=>by have:=(h.lt k e.symm).1;omega),fun k o hk hkb hno=>(hg.block k (heap_lt hk) (fun e=>by
  rcases h.2 with ⟨rfl,_⟩ | ⟨g,cap,cur,rfl,_,hgb,_⟩
  ·simp[Value.ownBlock] at e
  ·obtain rfl:k=g:=by simpa [Value.ownBlock] using e
   rw[hk] at hgb
   injection hgb with hgb
   exact hno cur hgb)).trans hk⟩
theorem put_end {b g cap:Nat} {dv:Value} {ts:List Tok} {xb:Nat→Prop} {σ:RS} {x:Ex} {ov oe:Option Addr} {nv cv ce:Nat} {W w0 w1:World} {q:List (Ex×Value)} (h:Rd W b g cap dv ts xb σ) (hv:W.ownsRow (b+1) 3 1 (.slice ov nv cv) x.args.length (x.args.map intC)) (hvx:∀k,(Value.slice ov nv cv).ownBlock=some k→¬xb k)
  (hq:q.map Prod.fst=σ.exprs∧∀p ∈ q,W.ownsRow (b+1) 3 1 p.2 p.1.args.length (p.1.args.map intC)∧∀k,p.2.ownBlock=some k→¬xb k) (hb:Below W.heap.size W w0) (ho:w0.ownsRow (b+1) 46 9 (.slice oe σ.exprs.length ce) σ.exprs.length (rdCells q))
  (hg:w0.grownBy w1 (Value.slice oe σ.exprs.length ce).ownBlock) (gg cc:Nat) (ho1:w1.ownsRow (b+1) 46 9 (.slice (some ⟨gg,0,none⟩) (σ.exprs.length+1) cc) (σ.exprs.length+1) (rdCells q++exC x (.slice ov nv cv))) :
  Rd (w1.setCell ⟨b,3,none⟩ (.slice (some ⟨gg,0,none⟩) (σ.exprs.length+1) cc)) b g cap dv ts xb (putS x σ)∧RK b W (w1.setCell ⟨b,3,none⟩ (.slice (some ⟨gg,0,none⟩) (σ.exprs.length+1) cc)):=by
 have hbs:=h.size
 have hs0:=hb.size
 have k1:RK b W w1:=(RK.of_below hb (ql hbs)).trans (.grown ho hg (by omega))
 have k2:RK b W (w1.setCell ⟨b,3,none⟩ (.slice (some ⟨gg,0,none⟩) (σ.exprs.length+1) cc)):=k1.trans (RK.set 3 _)
 refine⟨?_,k2⟩
 obtain⟨o,c,h1,h2⟩:=h.blk
 have fb:w1.heap[b]?=W.heap[b]?:=(hg.block b (by omega) (fun e=>by have:=(ho.lt b e.symm).1;omega)).trans (hb.block b hbs)
 rw[←fb] at h1
 have hlen:(putS x σ).exprs.length=σ.exprs.length+1:=by simp[putS]
 refine⟨fun k hk=>Nat.lt_of_lt_of_le (h.xlt k hk) k2.size,⟨some ⟨gg,0,none⟩,cc,?_,q++[(x,.slice ov nv cv)],?_,?_,?_⟩,row_low h.row (k2.low g h.lt),h.lt,h.at_,h.len,h.ends⟩
 ·rw[set_blk h1,hlen];simp[putS]
 ·simp[putS,hq.1]
 ·rw[hlen,rdCells_snoc]
  exact rd_own_same ho1 fun k e=>Below.heap_setCell w1 ⟨b,3,none⟩ _ k (by have:=(ho1.lt k e).1;simp;omega)
 ·intro p hp
  rcases List.mem_append.1 hp with hp | hp
  ·exact⟨own_keep (hq.2 p hp).1 (Nat.lt_succ_self _) k2,(hq.2 p hp).2⟩
  ·obtain rfl:=List.mem_singleton.1 hp
   exact⟨own_keep hv (Nat.lt_succ_self _) k2,hvx⟩
theorem put_any (b g cap:Nat) (dv:Value) (ts:List Tok) (xb:Nat→Prop) (σ:RS) (x:Ex) (ov:Option Addr) (nv cv:Nat) (W:World) (h:Hid (Rd W b g cap dv ts xb σ)) (hl:σ.exprs.length≤40000)
  (hv:Hid (W.ownsRow (b+1) 3 1 (.slice ov nv cv) x.args.length (x.args.map intC))) (hvx:Hid (∀k,(Value.slice ov nv cv).ownBlock=some k→¬xb k)) :
  Calls prog 38 #[.pointer (some ⟨b,0,none⟩),rdV x (.slice ov nv cv)] W fun r Y=>RdRet b g cap dv ts xb W (.int .i64 (σ.exprs.length:Int)) (putS x σ) r Y:=by
 obtain⟨oe,ce,⟨c0,c1,c3,c4,c5,c6,fr⟩,hx⟩:=h.out.cells
 obtain⟨q,hq1,hq2,hq3⟩:=hx
 have hbs:b<W.heap.size:=h.out.size
 obtain⟨n,hn⟩:∃n,n=σ.exprs.length:=⟨_,rfl⟩
 rw[←hn] at c3 hl hq2
 rw[←hn]
 have f3:=fr 3
 have HQ2:=Hd hq2
 have HN:=Hd hn
 have HQ:=Hd (show q.map Prod.fst=σ.exprs∧∀p ∈ q,W.ownsRow (b+1) 3 1 p.2 p.1.args.length (p.1.args.map intC)∧∀k,p.2.ownBlock=some k→¬xb k from⟨hq1,hq3⟩)
 clear hq1 hq2 hq3 hn c0 c1 c4 c5 c6 fr
 obtain⟨k,xa,xb,xc,nm,st,vv,ar,ps⟩:=x
 unfold rdV
 dsimp only
 obtain⟨W2,hW2⟩:∃W2,W2=W.alloc (.cells #[.int .i64 k,.int .i64 xa,.int .i64 xb,.int .i64 xc,.string nm,.string st,.int .i64 vv,.slice ov nv cv,.int .i64 ps] 46):=⟨_,rfl⟩
 have hb2:Below W.heap.size W W2:=by rw[hW2];exact(qB _ _).alloc (qL _) _
 have s2:W2.heap.size=W.heap.size+1:=by rw[hW2];simp
 have x9:∀j u,[Value.int .i64 k,.int .i64 xa,.int .i64 xb,.int .i64 xc,.string nm,.string st,.int .i64 vv,.slice ov nv cv,.int .i64 ps][j]?=some u→W2.cell? ⟨W.heap.size,j,none⟩=some u:=fun j u hu=>by
  rw[hW2,World.cell?_alloc_new];simpa using hu
 have x0:=x9 0 _ rfl
 have x1:=x9 1 _ rfl
 have x2:=x9 2 _ rfl
 have x3:=x9 3 _ rfl
 have x4:=x9 4 _ rfl
 have x5:=x9 5 _ rfl
 have x6:=x9 6 _ rfl
 have x7:=x9 7 _ rfl
 have x8:=x9 8 _ rfl
 have e3:W2.cell? ⟨b,3,none⟩=some (.slice oe n ce):=(hb2.cell (p:=⟨b,3,none⟩) hbs).trans c3
 have g3:W2.frozen? ⟨b,3,none⟩=false:=(hb2.frozen (p:=⟨b,3,none⟩) hbs).trans f3
 have bs2:b<W2.heap.size:=by omega
 have OW:=Hd (show W2.ownsRow (b+1) 46 9 (.slice oe n ce) n (rdCells q) from rd_own_same HQ2.out fun k hk=>hb2.block k (HQ2.out.lt k hk).2)
 have HB2:=Hd hb2
 have S2:=Hd s2
 have HBA:=Hd ((hb2.alloc hb2.size (.cells #[.int .i64 k,.int .i64 xa,.int .i64 xb,.int .i64 xc,.string nm,.string st,.int .i64 vv,.slice ov nv cv,.int .i64 ps] 46)).drew)
 go_enter Tryz.func38,Tryz.ntmps38
 go_wp2_with fail
 rw[←hW2]
 clear hW2 hb2 s2 x9 c3 f3
 go_region_law (refine step_put _ (by rfl) (.tmp 10) (.tmp 12) (by rfl) (b+1) (.slice oe n ce) n (rdCells q) (by rfl) (by exact OW.out.alloc _) ⟨W2.heap.size,0,none⟩ [.int .i64 k,.int .i64 xa,.int .i64 xb,.int .i64 xc,.string nm,.string st,.int .i64 vv,.slice ov nv cv,.int .i64 ps] (by rfl) (by rfl) (by exact nine_cells W2 _ _ _ _ _ _ _ _ _ _) (by simp[Value.oneCell']) (by omega) (by simp;omega) ?_;intro gg cc w1 ho1 hg1;have z3:w1.cell? ⟨b,3,none⟩=some (.slice oe n ce):=hg1.cell (by exact(World.cell?_alloc_old _ _ _ (Nat.ne_of_lt bs2)).trans e3) (fun e=>by have:=(OW.out.lt b e.symm).1;omega);have fb:=hg1.block b (by simp;omega) (fun e=>by have:=(OW.out.lt b e.symm).1;omega);have z4:w1.frozen? ⟨b,3,none⟩=false:=(World.frozen?_of_block (a:=⟨b,3,none⟩) fb).trans (by exact(World.frozen?_alloc_old _ _ _ (Nat.ne_of_lt bs2)).trans g3))
 all_goals (
  go_wp2_with fail
  go_ret
  rw[HN.out] at ho1 hg1 OW
  obtain⟨r1,r2⟩:=put_end (x:=⟨k,xa,xb,xc,nm,st,vv,ar,ps⟩) h.out hv.out hvx.out HQ.out (HBA.out) (OW.out.alloc _) hg1 gg cc ho1
  exact⟨rfl,by rw[HN.out];exact r1,by rw[HN.out];exact r2⟩)
end Go.Proofs.YtlbhlncipajapaaGreatDoor
namespace Go.Proofs.YtlbhlncipajapaaGreatDoor
open Lx
def Stays (σ τ:RS):Prop:=σ.code≠0→τ.code=σ.code∧τ.pos=σ.pos
theorem Stays.refl (σ:RS):Stays σ σ:=fun _=>⟨rfl,rfl⟩
theorem Stays.trans {σ τ υ:RS} (h:Stays σ τ) (k:Stays τ υ):Stays σ υ:=fun hc=>by
 obtain⟨h1,h2⟩:=h hc
 obtain⟨k1,k2⟩:=k (by rw[h1];exact hc)
 exact⟨k1.trans h1,k2.trans h2⟩
theorem isS_bad {ts:List Tok} {s:List UInt8} {σ:RS} (h:σ.code≠0):isS ts s σ=false:=by unfold isS;simp[h]
theorem stays_want (ts:List Tok) (s:List UInt8) (σ:RS):Stays σ (wantS ts s σ):=fun h=>by unfold wantS failS;rw[isS_bad h];simp[h]
theorem stays_name (ts:List Tok) (σ:RS):Stays σ (nameS ts σ):=fun h=>by unfold nameS nameB failS;simp[h]
theorem stays_step (σ:RS):Stays σ (stepS σ):=fun _=>⟨rfl,rfl⟩
theorem stays_put (x:Ex) (σ:RS):Stays σ (putS x σ):=fun _=>⟨rfl,rfl⟩
theorem stays_enter (ts:List Tok) (σ:RS):Stays σ (enterS ts σ):=fun h=>by unfold enterS tooDeep failS;simp[h]
theorem stays_leave (σ:RS):Stays σ (leaveS σ):=fun _=>⟨rfl,rfl⟩
theorem sputA_some {x:Ex} {σ:RS} {K:Int→RS→Ans} {R:Int×List Int×RS} (h:putA x σ K=some R):okS σ=true∧K (σ.exprs.length:Int) (putS x σ)=some R:=by
 unfold putA at h
 split at h
 ·rename_i hk;exact⟨hk,h⟩
 ·cases h
theorem bind_some' {α β:Type} {x:Option α} {K:α→Option β} {R:β} (h:x.bind K=some R):∃a,x=some a∧K a=some R:=by
 cases x with
 | none=>cases h
 | some a=>exact⟨a,rfl,h⟩
theorem stuck (ts:List Tok):∀(f:Nat) (j:Job) (σ:RS) (R:Int×List Int×RS),runE ts f j σ=some R→Stays σ R.2.2:=by
 intro f
 induction f with
 | zero=>intro j σ R h;cases h
 | succ f ih =>
  intro j σ R h
  simp only[runE] at h
  split at h
  ·cases j with
   | expr =>
    try dsimp only at h
    unfold exprG at h
    try dsimp only at h
    have e:=stays_enter ts σ
    split at h
    ·split at h
     ·obtain⟨a,h1,h⟩:=bind_some' h
      obtain⟨b,h2,h⟩:=bind_some' h
      obtain⟨c,h3,h⟩:=bind_some' h
      obtain⟨_,h⟩:=sputA_some h
      obtain rfl:=qI h
      exact e.trans ((stays_step _).trans ((ih _ _ _ h1).trans ((stays_want _ _ _).trans ((ih _ _ _ h2).trans ((stays_want _ _ _).trans ((ih _ _ _ h3).trans ((stays_put _ _).trans (stays_leave _))))))))
     ·obtain⟨a,h1,h⟩:=bind_some' h
      try dsimp only at h
      split at h
      ·obtain⟨b,h2,h⟩:=bind_some' h
       obtain⟨_,h⟩:=sputA_some h
       obtain rfl:=qI h
       exact e.trans ((ih _ _ _ h1).trans ((stays_step _).trans ((ih _ _ _ h2).trans ((stays_put _ _).trans (stays_leave _)))))
      ·split at h
       ·obtain⟨b,h2,h⟩:=bind_some' h
        obtain⟨_,h⟩:=sputA_some h
        obtain rfl:=qI h
        exact e.trans ((ih _ _ _ h1).trans ((stays_step _).trans ((ih _ _ _ h2).trans ((stays_put _ _).trans (stays_leave _)))))
       ·split at h
        ·obtain rfl:=qI h
         exact e.trans ((ih _ _ _ h1).trans (stays_leave _))
        ·cases h
    ·obtain rfl:=qI h
     exact e.trans (stays_leave _)
   | pre =>
    try dsimp only at h
    unfold preG at h
    try dsimp only at h
    have e:=stays_enter ts σ
    split at h
    ·split at h
     ·obtain⟨a,h1,h⟩:=bind_some' h
      split at h
      ·obtain rfl:=qI h
       exact e.trans ((ih _ _ _ h1).trans (stays_leave _))
      ·cases h
     ·obtain⟨a,h1,h⟩:=bind_some' h
      obtain⟨_,h⟩:=sputA_some h
      obtain rfl:=qI h
      exact e.trans ((stays_step _).trans ((ih _ _ _ h1).trans ((stays_put _ _).trans (stays_leave _))))
    ·obtain rfl:=qI h
     exact e.trans (stays_leave _)
   | atom =>
    try dsimp only at h
    unfold atomG at h
    try dsimp only at h
    split at h
    ·obtain⟨_,h⟩:=sputA_some h
     obtain rfl:=qI h
     exact(stays_step _).trans (stays_put _ _)
    ·split at h
     ·obtain⟨_,h⟩:=sputA_some h
      obtain rfl:=qI h
      exact(stays_step _).trans (stays_put _ _)
     ·split at h
      ·obtain⟨_,h⟩:=sputA_some h
       obtain rfl:=qI h
       exact(stays_step _).trans (stays_put _ _)
      ·split at h
       ·split at h
        ·obtain⟨_,h⟩:=sputA_some h
         obtain rfl:=qI h
         exact(stays_step _).trans ((stays_step _).trans ((stays_name _ _).trans (stays_put _ _)))
        ·split at h
         ·split at h
          ·obtain⟨_,h⟩:=sputA_some h
           obtain rfl:=qI h
           exact(stays_step _).trans ((stays_step _).trans ((stays_step _).trans (stays_put _ _)))
          ·obtain⟨a,h1,h⟩:=bind_some' h
           obtain⟨b,h2,h⟩:=bind_some' h
           obtain⟨_,h⟩:=sputA_some h
           obtain rfl:=qI h
           exact(stays_step _).trans ((stays_step _).trans ((ih _ _ _ h1).trans ((ih _ _ _ h2).trans ((stays_want _ _ _).trans (stays_put _ _)))))
         ·obtain⟨_,h⟩:=sputA_some h
          obtain rfl:=qI h
          exact(stays_step _).trans (stays_put _ _)
       ·obtain⟨a,h1,h⟩:=bind_some' h
        obtain rfl:=qI h
        exact(stays_want _ _ _).trans ((ih _ _ _ h1).trans (stays_want _ _ _))
   | bin least =>
    try dsimp only at h
    unfold binG at h
    split at h
    ·exact ih _ _ _ h
    ·obtain⟨a,h1,h⟩:=bind_some' h
     exact(ih _ _ _ h1).trans (ih _ _ _ h)
   | loop least a =>
    try dsimp only at h
    unfold loopG at h
    split at h
    ·rename_i h0
     intro hc
     exact absurd h0 hc
    ·obtain rfl:=qI h
     exact Stays.refl _
   | args acc =>
    try dsimp only at h
    unfold argsG at h
    split at h
    ·split at h
     ·obtain⟨a,h1,h⟩:=bind_some' h
      exact(stays_step _).trans ((ih _ _ _ h1).trans (ih _ _ _ h))
     ·obtain rfl:=qI h
      exact Stays.refl _
    ·cases h
  ·cases h
theorem stuck_expr {ts:List Tok} {f:Nat} {σ τ:RS} {v:Int} {l:List Int} (j:Job) (h:runE ts f j σ=some (v,l,τ)):Stays σ τ:=stuck ts f j σ _ h
end Go.Proofs.YtlbhlncipajapaaGreatDoor
namespace Go.Proofs.YtlbhlncipajapaaGreatDoor
open Go.RowKit Lx
def sgL:List (List UInt8):=wordsL++signsL
def TxOk (ts:List Tok):Prop:=∀i,(tokL ts i).kind≠3→(tokL ts i).kind≠4→∀s ∈ sgL,(tokL ts i).text≠s
structure Cd (W:World) (b g cap:Nat) (dv:Value) (ts:List Tok) (xb:Nat→Prop) (σ:RS):Prop where
 xlt:∀k,xb k→k<W.heap.size
 blk:∃o c,W.heap[b]?=some (.cells #[.slice (some ⟨g,σ.at_*4,none⟩) (ts.length - σ.at_) (cap - σ.at_),dv,.slice o σ.exprs.length c,.int .i64 σ.deep] 78 (0,0))∧ExsOwn W b xb (.slice o σ.exprs.length c) σ.exprs∧∀k,(Value.slice o σ.exprs.length c).ownBlock=some k→¬xb k
 xnb:¬xb b
 row:RowAt W g ts
 lt:g<b
 at_:σ.at_<ts.length
 len:ts.length≤40000
 cp:ts.length≤cap
 ends:EndOk ts
 tx:TxOk ts
theorem Cd.size {W:World} {b g cap:Nat} {dv:Value} {ts:List Tok} {xb:Nat→Prop} {σ:RS} (h:Cd W b g cap dv ts xb σ):b<W.heap.size:=by
 obtain⟨o,c,h1,_⟩:=h.blk;exact heap_lt h1
structure RX (b:Nat) (xb:Nat→Prop) (W Y:World):Prop where
 rk:RK b W Y
 xs:∀k,xb k→Y.heap[k]?=W.heap[k]?
theorem RX.refl (b:Nat) (xb:Nat→Prop) (W:World):RX b xb W W:=⟨RK.refl _ _,fun _ _=>rfl⟩
theorem RX.trans {b:Nat} {xb:Nat→Prop} {X Y Z:World} (h:RX b xb X Y) (k:RX b xb Y Z):RX b xb X Z:=⟨h.rk.trans k.rk,fun j hj=>(k.xs j hj).trans (h.xs j hj)⟩
theorem RX.of_below {b:Nat} {xb:Nat→Prop} {W Y:World} (h:Below W.heap.size W Y) (hb:b≤W.heap.size) (hx:∀k,xb k→k<W.heap.size):RX b xb W Y:=⟨RK.of_below h hb,fun k hk=>h.block k (hx k hk)⟩
theorem RX.set {b:Nat} {xb:Nat→Prop} {W:World} (hn:¬xb b) (i:Nat) (v:Value):RX b xb W (W.setCell ⟨b,i,none⟩ v):=⟨RK.set i v,fun k hk=>Below.heap_setCell W ⟨b,i,none⟩ v k (fun e=>hn (by have:k=b:=e;rw[←this];exact hk))⟩
theorem RX.size {b:Nat} {xb:Nat→Prop} {W Y:World} (h:RX b xb W Y):W.heap.size≤Y.heap.size:=h.rk.size
theorem RX.keep {b:Nat} {xb:Nat→Prop} {W Y:World} (h:RX b xb W Y) (k:Nat) (o:Obj) (hk:W.heap[k]?=some o) (hb:k≠b) (hn:NoEx o):Y.heap[k]?=some o:=h.rk.keep k o hk hb hn
theorem Cd.below {W Y:World} {b g cap:Nat} {dv:Value} {ts:List Tok} {xb:Nat→Prop} {σ:RS} (h:Cd W b g cap dv ts xb σ) (hb:Below W.heap.size W Y):Cd Y b g cap dv ts xb σ:=by
 have hs:=h.size
 obtain⟨o,c,h1,h2,h3⟩:=h.blk
 exact⟨fun k hk=>Nat.lt_of_lt_of_le (h.xlt k hk) hb.size,⟨o,c,(hb.block b hs).trans h1,h2.same fun k _ hk=>hb.block k hk,h3⟩,h.xnb,row_low h.row (hb.block g (by have:=h.lt;omega)),h.lt,h.at_,h.len,h.cp,h.ends,h.tx⟩
theorem Cd.alloc {W:World} {b g cap:Nat} {dv:Value} {ts:List Tok} {xb:Nat→Prop} {σ:RS} (h:Cd W b g cap dv ts xb σ) (o:Obj):Cd (W.alloc o) b g cap dv ts xb σ:=h.below ((qB _ _).alloc (qL _) o)
theorem Cd.setOne {W:World} {b g cap:Nat} {dv:Value} {ts:List Tok} {xb:Nat→Prop} {σ τ:RS} (h:Cd W b g cap dv ts xb σ) (i:Nat) (v:Value) (he:τ.exprs=σ.exprs) (ht:τ.at_<ts.length)
  (hc:∀x,(#[.slice (some ⟨g,σ.at_*4,none⟩) (ts.length - σ.at_) (cap - σ.at_),dv,x,.int .i64 σ.deep]:Array Value).setIfInBounds i v=#[.slice (some ⟨g,τ.at_*4,none⟩) (ts.length - τ.at_) (cap - τ.at_),dv,x,.int .i64 τ.deep]) :
  Cd (W.setCell ⟨b,i,none⟩ v) b g cap dv ts xb τ:=by
 obtain⟨o,c,h1,h2,h3⟩:=h.blk
 refine⟨fun k hk=>Nat.lt_of_lt_of_le (h.xlt k hk) ((qB b W).setCell (p:=⟨b,i,none⟩) (qL _) v).size,⟨o,c,?_,?_,by rw[he];exact h3⟩,h.xnb,row_low h.row (Below.heap_setCell W ⟨b,i,none⟩ v g (by have:=h.lt;simp;omega)),h.lt,ht,h.len,h.cp,h.ends,h.tx⟩
 ·rw[he,set_blk h1,hc]
 ·rw[he];exact h2.same fun k hk _=>Below.heap_setCell W ⟨b,i,none⟩ v k (by simp;omega)
theorem Cd.setAt {W:World} {b g cap:Nat} {dv:Value} {ts:List Tok} {xb:Nat→Prop} {σ:RS} (h:Cd W b g cap dv ts xb σ) (hk:(tokL ts σ.at_).kind≠5):Cd (W.setCell ⟨b,0,none⟩ (.slice (some ⟨g,(σ.at_+1)*4,none⟩) (ts.length-(σ.at_+1)) (cap-(σ.at_+1)))) b g cap dv ts xb (stepS σ) :=
 h.setOne 0 _ rfl (h.ends.next h.at_ hk) fun x=>by simp[stepS]
theorem Cd.setDeep {W:World} {b g cap:Nat} {dv:Value} {ts:List Tok} {xb:Nat→Prop} {σ:RS} (h:Cd W b g cap dv ts xb σ) (d:Int):Cd (W.setCell ⟨b,3,none⟩ (.int .i64 d)) b g cap dv ts xb { σ with deep:=d } :=
 h.setOne 3 _ rfl h.at_ fun x=>by simp
structure CdCells (W:World) (b g:Nat) (at_ ln cp:Nat) (n:Nat) (dv:Value) (o:Option Addr) (c:Nat) (deep:Int):Prop where
 c0:W.cell? ⟨b,0,none⟩=some (.slice (some ⟨g,at_*4,none⟩) ln cp)
 c1:W.cell? ⟨b,1,none⟩=some dv
 c2:W.cell? ⟨b,2,none⟩=some (.slice o n c)
 c3:W.cell? ⟨b,3,none⟩=some (.int .i64 deep)
 fr:∀i,W.frozen? ⟨b,i,none⟩=false
theorem Cd.cells {W:World} {b g cap:Nat} {dv:Value} {ts:List Tok} {xb:Nat→Prop} {σ:RS} (h:Cd W b g cap dv ts xb σ):∃o c,CdCells W b g σ.at_ (ts.length - σ.at_) (cap - σ.at_) σ.exprs.length dv o c σ.deep∧ExsOwn W b xb (.slice o σ.exprs.length c) σ.exprs∧∀k,(Value.slice o σ.exprs.length c).ownBlock=some k→¬xb k:=by
 obtain⟨o,c,h1,h2⟩:=h.blk
 exact⟨o,c,⟨by simp[World.cell?,h1],by simp[World.cell?,h1],by simp[World.cell?,h1],by simp[World.cell?,h1],fun i=>by simp[World.frozen?,h1]⟩,h2⟩
theorem Cd.tok {W:World} {b g cap:Nat} {dv:Value} {ts:List Tok} {xb:Nat→Prop} {σ:RS} (h:Cd W b g cap dv ts xb σ):CellsAt W g σ.at_ (tokL ts σ.at_) :=
 h.row.2 _ _ (by unfold tokL;rw[List.getD_eq_getElem?_getD,List.getElem?_eq_getElem h.at_];rfl)
def refusalV (c p:Int):Value:=.iface 75 (.agg #[.int .i64 c,.int .i64 p])
def CdRet (b g cap:Nat) (dv:Value) (ts:List Tok) (xb:Nat→Prop) (W:World) (v:Value) (σ:RS) (r:Ending) (Y:World):Prop :=
 RX b xb W Y∧((σ.code=0∧r=.returned v∧Cd Y b g cap dv ts xb σ)∨(σ.code≠0∧r=.panicked [{ v:=refusalV σ.code σ.pos,recovered:=false }]))
def CdOk (b g cap:Nat) (dv:Value) (ts:List Tok) (xb:Nat→Prop) (W:World) (v:Value) (σ:RS) (r:Ending) (Y:World):Prop :=
 r=.returned v∧Hid (Cd Y b g cap dv ts xb σ)∧Hid (RX b xb W Y)
def CdBad (b:Nat) (xb:Nat→Prop) (W:World) (c p:Int) (r:Ending) (Y:World):Prop :=
 r=.panicked [{ v:=refusalV c p,recovered:=false }]∧Hid (RX b xb W Y)
theorem CdRet.ok {b g cap:Nat} {dv:Value} {ts:List Tok} {xb:Nat→Prop} {W:World} {v:Value} {σ:RS} {r:Ending} {Y:World} (h:CdRet b g cap dv ts xb W v σ r Y) (hc:σ.code=0):CdOk b g cap dv ts xb W v σ r Y:=by
 obtain⟨hk,h | h⟩:=h
 ·exact⟨h.2.1,Hd h.2.2,Hd hk⟩
 ·exact absurd hc h.1
theorem CdRet.bad {b g cap:Nat} {dv:Value} {ts:List Tok} {xb:Nat→Prop} {W:World} {v:Value} {σ:RS} {r:Ending} {Y:World} (h:CdRet b g cap dv ts xb W v σ r Y) (hc:σ.code≠0):CdBad b xb W σ.code σ.pos r Y:=by
 obtain⟨hk,h | h⟩:=h
 ·exact absurd h.1 hc
 ·exact⟨h.2,Hd hk⟩
theorem CdBad.ret {b g cap:Nat} {dv:Value} {ts:List Tok} {xb:Nat→Prop} {W:World} {v:Value} {σ τ:RS} {r:Ending} {Y:World} (h:CdBad b xb W σ.code σ.pos r Y) (hc:σ.code≠0) (hs:Stays σ τ):CdRet b g cap dv ts xb W v τ r Y:=by
 obtain⟨h1,h2⟩:=hs hc
 exact⟨h.2.out,.inr ⟨by rw[h1];exact hc,by rw[h1,h2];exact h.1⟩⟩
theorem dummyAny {X:Prop} (P:Program) (w:World) (hx:X):wpAny P Region.Mode.any #[] (fun _ _ _=>True) 0 #[] { tmps:=#[],defers:=[] } w→X:=fun _=>hx
theorem refusal_any (b g cap:Nat) (dv:Value) (ts:List Tok) (xb:Nat→Prop) (σ:RS) (e:Int) (W:World) (h:Hid (Cd W b g cap dv ts xb σ)) :
  Calls prog 60 #[.pointer (some ⟨b,0,none⟩),.int .i64 e] W fun r Y=>r=.returned (.agg #[.int .i64 e,.int .i64 ((tokL ts σ.at_).at_:Int)])∧Below W.heap.size W Y:=by
 obtain⟨o,c,⟨c0,c1,c2,c3,fr⟩,hx⟩:=h.out.cells
 obtain⟨t0,t1,t2,t3⟩:=h.out.tok
 have hl:=h.out.at_
 obtain⟨n,hnn⟩:∃n,n=ts.length - σ.at_:=⟨_,rfl⟩
 obtain⟨a4,haa⟩:∃a4,a4=σ.at_*4:=⟨_,rfl⟩
 obtain⟨p,hp⟩:∃p,p=(tokL ts σ.at_).at_:=⟨_,rfl⟩
 rw[←hnn,←haa] at c0
 rw[←hp,←haa] at t3
 rw[←hp]
 have hgs:g<W.heap.size:=by have:=h.out.lt;have:=h.out.size;omega
 have hbs:b<W.heap.size:=h.out.size
 have k0:(0:Int)<(n:Int):=by omega
 have B0:Hid (Below W.heap.size W (W.alloc (.cells #[.int .i64 0,.int .i64 0] 75))):=Hd ((qB _ _).alloc (qL _) _)
 clear hnn haa hp t0 t1 t2 hl hx c1 c2 c3 fr
 go_enter Tryz.func60,Tryz.ntmps60
 go_wp2_with fail
 have r0:(W.alloc (.cells #[.int .i64 e,.int .i64 (p:Int)] 75)).cell? ⟨W.heap.size,0,none⟩=some (.int .i64 e):=by rw[World.cell?_alloc_new];rfl
 have r1:(W.alloc (.cells #[.int .i64 e,.int .i64 (p:Int)] 75)).cell? ⟨W.heap.size,1,none⟩=some (.int .i64 (p:Int)):=by rw[World.cell?_alloc_new];rfl
 exact bodyPost_ret (v:=.agg #[.int .i64 e,.int .i64 (p:Int)]) (by simp[results,Tryz.results60,go_sem,r0,r1]) rfl ⟨rfl,(qB _ _).alloc (qL _) _⟩
theorem box_four (w:World) (a b c d:Value) (T:TypeId) (o:Obj):(((w.alloc (.cells #[a,b,c,d] T)).alloc o).cell? ⟨w.heap.size,0,none⟩=some a∧((w.alloc (.cells #[a,b,c,d] T)).alloc o).cell? ⟨w.heap.size,1,none⟩=some b∧((w.alloc (.cells #[a,b,c,d] T)).alloc o).cell? ⟨w.heap.size,2,none⟩=some c∧((w.alloc (.cells #[a,b,c,d] T)).alloc o).cell? ⟨w.heap.size,3,none⟩=some d)∧True:=by
 have hb:Below (w.alloc (.cells #[a,b,c,d] T)).heap.size (w.alloc (.cells #[a,b,c,d] T)) ((w.alloc (.cells #[a,b,c,d] T)).alloc o):=(qB _ _).alloc (qL _) _
 have e:∀i,((w.alloc (.cells #[a,b,c,d] T)).alloc o).cell? ⟨w.heap.size,i,none⟩=(w.alloc (.cells #[a,b,c,d] T)).cell? ⟨w.heap.size,i,none⟩:=fun i=>hb.cell (p:=⟨w.heap.size,i,none⟩) (by simp)
 simp only[e,World.cell?_alloc_new]
 exact⟨⟨rfl,rfl,rfl,rfl⟩,trivial⟩
def TakeRet (b g cap:Nat) (dv:Value) (ts:List Tok) (xb:Nat→Prop) (W:World) (σ:RS) (r:Ending) (Y:World):Prop:=r=.returned (tokV (tokL ts σ.at_))∧Hid (Cd Y b g cap dv ts xb (stepS σ))∧Hid (RX b xb W Y)
theorem take_any (b g cap:Nat) (dv:Value) (ts:List Tok) (xb:Nat→Prop) (σ:RS) (W:World) (h:Hid (Cd W b g cap dv ts xb σ)) (hk:(tokL ts σ.at_).kind≠5) :
  Calls prog 61 #[.pointer (some ⟨b,0,none⟩)] W fun r Y=>TakeRet b g cap dv ts xb W σ r Y:=by
 obtain⟨o,c,⟨c0,c1,c2,c3,fr⟩,hx⟩:=h.out.cells
 obtain⟨t0,t1,t2,t3⟩:=h.out.tok
 have hl:=h.out.at_
 have hcp:=h.out.cp
 have hnx:=h.out.ends.next h.out.at_ hk
 have HK:=Hd hk
 have f0:=fr 0
 unfold TakeRet tokV
 obtain⟨kd,hkd⟩:∃kd,kd=(tokL ts σ.at_).kind:=⟨_,rfl⟩
 obtain⟨tx,htx⟩:∃tx,tx=(tokL ts σ.at_).text:=⟨_,rfl⟩
 obtain⟨tv,htv⟩:∃tv,tv=(tokL ts σ.at_).v:=⟨_,rfl⟩
 obtain⟨p,hp⟩:∃p,p=(tokL ts σ.at_).at_:=⟨_,rfl⟩
 rw[←hkd] at t0
 rw[←htx] at t1
 rw[←htv] at t2
 rw[←hp] at t3
 rw[←hkd,←htx,←htv,←hp]
 have HS:=Hd (show ts.length - σ.at_-1=ts.length-(σ.at_+1)∧cap - σ.at_-1=cap-(σ.at_+1)∧σ.at_*4+4=(σ.at_+1)*4 by omega)
 obtain⟨n,hnn⟩:∃n,n=ts.length - σ.at_:=⟨_,rfl⟩
 obtain⟨m,hmm⟩:∃m,m=cap - σ.at_:=⟨_,rfl⟩
 obtain⟨a4,haa⟩:∃a4,a4=σ.at_*4:=⟨_,rfl⟩
 have k0:(0:Int)<(n:Int):=by omega
 have k1:(1:Int)≤(n:Int):=by omega
 have k2:(n:Int)≤(m:Int):=by omega
 have k3:¬m=1:=by omega
 rw[←hnn,←hmm,←haa] at c0
 rw[←haa] at t0 t1 t2 t3
 have HE:=Hd (show n=_∧m=_∧a4=_ from⟨hnn,hmm,haa⟩)
 have hgs:g<W.heap.size:=by have:=h.out.lt;have:=h.out.size;omega
 have hbs:b<W.heap.size:=h.out.size
 clear hnn hmm haa hp hkd htx htv hl hx c1 c2 c3 fr hcp hnx hk
 go_enter Tryz.func61,Tryz.ntmps61
 go_wp2_with fail
 obtain⟨W1,hW1⟩:∃W1,W1=W.setCell ⟨b,0,none⟩ (.slice (some ⟨g,a4+4,none⟩) (n-1) (m-1)):=⟨_,rfl⟩
 have HC:Hid (Cd W1 b g cap dv ts xb (stepS σ)):=Hd (by
  have:=h.out.setAt HK.out
  obtain⟨e1,e2,e3⟩:=HE.out
  obtain⟨f1,f2,f3⟩:=HS.out
  rw[hW1,e1,e2,e3,f1,f2,f3];exact this)
 have HR:Hid (RX b xb W W1):=Hd (by rw[hW1];exact RX.set h.out.xnb 0 _)
 have hs:W.heap.size=W1.heap.size:=by rw[hW1];simp
 rw[←hW1]
 have HB:=Hd (((qB W1.heap.size W1).alloc (qL _) (.cells #[.int .i64 (kd:Int),.string (str tx),.int .i64 tv,.int .i64 (p:Int)] 43)).alloc (by simp) (.cells #[.int .i64 (kd:Int),.string (str tx),.int .i64 tv,.int .i64 (p:Int)] 43))
 have hb1:b≤W1.heap.size:=by omega
 clear hW1
 rw[hs]
 obtain⟨⟨r0,r1,r2,r3⟩,-⟩:=box_four W1 (.int .i64 (kd:Int)) (.string (str tx)) (.int .i64 tv) (.int .i64 (p:Int)) 43 (.cells #[.int .i64 (kd:Int),.string (str tx),.int .i64 tv,.int .i64 (p:Int)] 43)
 exact bodyPost_ret (v:=.agg #[.int .i64 (kd:Int),.string (str tx),.int .i64 tv,.int .i64 (p:Int)]) (by simp[results,Tryz.results61,go_sem,r0,r1,r2,r3]) rfl ⟨rfl,Hd (HC.out.below HB.out),Hd (HR.out.trans (RX.of_below HB.out hb1 HC.out.xlt))⟩
theorem isS_text {ts:List Tok} {s:List UInt8} {σ:RS} (ht:TxOk ts) (hs:s ∈ sgL) (hc:σ.code=0):isS ts s σ=((tokL ts σ.at_).text ==s):=by
 unfold isS
 rw[qT hc,Bool.true_and]
 by_cases h3:(tokL ts σ.at_).kind=3
 ·rw[qT h3];simp
 ·by_cases h4:(tokL ts σ.at_).kind=4
  ·rw[qT h4];simp
  ·have:=ht σ.at_ h3 h4 s hs
   rw[qF h3,qF h4,beq_false_of_ne this];rfl
def fitsB (ts:List Tok) (L:List (List UInt8)) (σ:RS):Bool:=L.any fun s=>isS ts s σ
def StrsIn (W:World) (k:Nat) (L:List (List UInt8)):Prop:=∀j s,L[j]?=some s→W.cell? ⟨k,j,none⟩=some (.string (str s))
theorem str_inj {a b:List UInt8} (h:str a=str b):a=b:=by
 have:=congrArg (fun x:ByteArray=>x.data.toList) h
 simpa [str_data] using this
theorem contains_any {ts:List Tok} {L:List (List UInt8)} {σ:RS} (ht:TxOk ts) (hL:∀s ∈ L,s ∈ sgL) (hc:σ.code=0):Lib.containsS (L.map str) (str (tokL ts σ.at_).text)=fitsB ts L σ:=by
 have h:Lib.containsS (L.map str) (str (tokL ts σ.at_).text)=true↔fitsB ts L σ=true:=by
  rw[Lib.containsS_iff]
  unfold fitsB
  rw[List.any_eq_true]
  constructor
  ·intro h
   obtain⟨s,h1,h2⟩:=List.mem_map.1 h
   exact⟨s,h1,by rw[isS_text ht (hL s h1) hc];simp[str_inj h2]⟩
  ·rintro⟨s,h1,h2⟩
   rw[isS_text ht (hL s h1) hc] at h2
   exact List.mem_map.2 ⟨s,h1,by rw[eq_of_beq h2]⟩
 cases h1:Lib.containsS (L.map str) (str (tokL ts σ.at_).text) <;> cases h2:fitsB ts L σ <;> simp_all
theorem fits_any (b g cap:Nat) (dv:Value) (ts:List Tok) (xb:Nat→Prop) (σ:RS) (k n:Nat) (L:List (List UInt8)) (W:World) (h:Hid (Cd W b g cap dv ts xb σ)) (hc:σ.code=0) (hL:∀s ∈ L,s ∈ sgL) (hn:n=L.length) (hn9:(n:Int)≤9) (hk:Hid (StrsIn W k L)) :
  Calls prog 49 #[.pointer (some ⟨b,0,none⟩),.slice (some ⟨k,0,none⟩) n n] W fun r Y=>r=.returned (.bool (fitsB ts L σ))∧Y=W:=by
 obtain⟨o,c,⟨c0,c1,c2,c3,fr⟩,hx⟩:=h.out.cells
 obtain⟨t0,t1,t2,t3⟩:=h.out.tok
 have hl:=h.out.at_
 have C:Hid (∀w,w=W→Calls prog 74 #[.slice (some ⟨k,0,none⟩) n n,.string (str (tokL ts σ.at_).text)] w fun e w'=>e=.returned (.bool (fitsB ts L σ))∧w'=w):=Hd (by
  rintro w rfl
  have:=Tryz.slices_Contains_string k 0 n n (L.map str) (str (tokL ts σ.at_).text) w (by simp;omega) (by omega) (fun j hj=>by
   rw[List.length_map] at hj
   rw[Nat.zero_add,hk.out j L[j] (List.getElem?_eq_getElem hj),List.getD_eq_getElem?_getD,List.getElem?_map,List.getElem?_eq_getElem hj];rfl)
  rw[List.take_of_length_le (by simp;omega),contains_any h.out.tx hL hc] at this
  exact this)
 obtain⟨B,hB⟩:∃B,B=fitsB ts L σ:=⟨_,rfl⟩
 rw[←hB] at C ⊢
 obtain⟨m,hmm⟩:∃m,m=ts.length - σ.at_:=⟨_,rfl⟩
 obtain⟨a4,haa⟩:∃a4,a4=σ.at_*4:=⟨_,rfl⟩
 obtain⟨tx,htx⟩:∃tx,tx=(tokL ts σ.at_).text:=⟨_,rfl⟩
 rw[←hmm,←haa] at c0
 rw[←htx,←haa] at t1
 rw[←htx] at C
 have k0:(0:Int)<(m:Int):=by omega
 clear hmm haa htx t0 t2 t3 hl hx c1 c2 c3 fr hB hL hc hn hk hn9
 go_enter Tryz.func49,Tryz.ntmps49
 go_wp2_with (go_at_call 74;(with_reducible refine(C.out _ rfl).mono ?_);rintro e w1 ⟨rfl,rfl⟩)
 go_ret
 exact⟨rfl,rfl⟩
theorem strs_new (W:World) (L:List (List UInt8)) (T:TypeId):StrsIn (W.alloc (.cells (L.map fun s=>Value.string (str s)).toArray T)) W.heap.size L:=fun j s hj=>by
 rw[World.cell?_alloc_new]
 simp[hj]
def TakesRet (b g cap:Nat) (dv:Value) (ts:List Tok) (xb:Nat→Prop) (W:World) (s:List UInt8) (σ:RS) (r:Ending) (Y:World):Prop:=r=.returned (.bool (isS ts s σ))∧Hid (Cd Y b g cap dv ts xb (tookS ts s σ))∧Hid (RX b xb W Y)
theorem takes_any (b g cap:Nat) (dv:Value) (ts:List Tok) (xb:Nat→Prop) (σ:RS) (s:List UInt8) (W:World) (h:Hid (Cd W b g cap dv ts xb σ)) (hc:σ.code=0) (hs:s ∈ sgL) :
  Calls prog 62 #[.pointer (some ⟨b,0,none⟩),.string (str s)] W fun r Y=>TakesRet b g cap dv ts xb W s σ r Y:=by
 obtain⟨W1,hW1⟩:∃W1,W1=W.alloc (.cells #[.string (str s)] 9):=⟨_,rfl⟩
 have hb1:Below W.heap.size W W1:=by rw[hW1];exact(qB _ _).alloc (qL _) _
 have H1:Hid (Cd W1 b g cap dv ts xb σ):=Hd (h.out.below hb1)
 have F:Hid (Calls prog 49 #[.pointer (some ⟨b,0,none⟩),.slice (some ⟨W.heap.size,0,none⟩) 1 1] W1 fun r Y=>r=.returned (.bool (isS ts s σ))∧Y=W1):=Hd (by
  have:=fits_any b g cap dv ts xb σ W.heap.size 1 [s] W1 H1 hc (by simpa using hs) rfl (by decide) (Hd (by rw[hW1];exact strs_new W [s] _))
  unfold fitsB at this
  simpa using this)
 have HB:=Hd (RX.of_below hb1 (ql h.out.size) h.out.xlt)
 clear hb1
 cases hi:isS ts s σ with
 | true =>
  have T:=Hd (take_any b g cap dv ts xb σ W1 H1 (isS_kind hi).1)
  rw[hi] at F
  have e:tookS ts s σ=stepS σ:=by unfold tookS;rw[if_pos hi]
  unfold TakesRet
  rw[e,hi]
  clear hi e
  go_enter Tryz.func62,Tryz.ntmps62
  go_wp2_with (first
   | (go_at_call 49;rw[←hW1];clear hW1;(with_reducible refine F.out.mono ?_);rintro e w1 ⟨rfl,rfl⟩)
   | (go_at_call 61;(with_reducible refine T.out.mono ?_);rintro e w2 ⟨rfl,hr,hk⟩))
  go_ret
  exact⟨rfl,hr,Hd (HB.out.trans hk.out)⟩
 | false =>
  rw[hi] at F
  have e:tookS ts s σ=σ:=by unfold tookS;rw[hi];rfl
  unfold TakesRet
  rw[e,hi]
  clear hi e
  go_enter Tryz.func62,Tryz.ntmps62
  go_wp2_with (go_at_call 49;rw[←hW1];clear hW1;(with_reducible refine F.out.mono ?_);rintro e w1 ⟨rfl,rfl⟩)
  go_ret
  exact⟨rfl,H1,HB⟩
end Go.Proofs.YtlbhlncipajapaaGreatDoor
namespace Go.Proofs.YtlbhlncipajapaaGreatDoor
open Go.RowKit Lx
def levA:Array Value:=(levelsL.map fun p=>Value.string (str p.1)).toArray
def levB:Array Value:=(levelsL.map fun p=>Value.int .i64 p.2.1).toArray
def levC:Array Value:=(levelsL.map fun p=>Value.int .i64 p.2.2).toArray
theorem map_cell {α:Type} (W:World) (l:List α) (f:α→Value) (T:TypeId) (j:Nat) (x:α) (h:l[j]?=some x):(W.alloc (.cells (l.map f).toArray T)).cell? ⟨W.heap.size,j,none⟩=some (f x):=by
 rw[World.cell?_alloc_new,List.getElem?_toArray,List.getElem?_map,h];rfl
theorem level_hit {ts:List Tok} {σ:RS} {j:Nat} {p:List UInt8×Int×Int} (h:levelsL[j]?=some p) (hno:(levelsL.take j).all (fun q=>!isS ts q.1 σ)=true) (hp:isS ts p.1 σ=true):levelS ts σ=p.2:=by
 have:levelsL.find? (fun q=>isS ts q.1 σ)=some p:=by
  have hl:=(List.getElem?_eq_some_iff.1 h).1
  have e:levelsL=levelsL.take j++p :: levelsL.drop (j+1):=by
   rw[←(List.getElem?_eq_some_iff.1 h).2];simp
  rw[e,List.find?_append,List.find?_eq_none.2 (fun x hx=>by simpa using List.all_eq_true.1 hno x hx),Option.none_or]
  simp[hp]
 unfold levelS levelIn
 rw[this]
theorem level_none {ts:List Tok} {σ:RS} (hno:levelsL.all (fun q=>!isS ts q.1 σ)=true):levelS ts σ=(0,0):=by
 have:levelsL.find? (fun q=>isS ts q.1 σ)=none:=List.find?_eq_none.2 (fun x hx=>by simpa using List.all_eq_true.1 hno x hx)
 unfold levelS levelIn
 rw[this]
theorem level_any (b g cap:Nat) (dv:Value) (ts:List Tok) (xb:Nat→Prop) (σ:RS) (W:World) (h:Hid (Rd W b g cap dv ts xb σ)) (L K:Int) (hLK:Hid (levelS ts σ=(L,K))) :
  Calls prog 72 #[.pointer (some ⟨b,0,none⟩)] W fun r Y=>r=.returned (.tuple #[.int .i64 L,.int .i64 K])∧Below W.heap.size W Y:=by
 have IS:=Hd (fun s W h=>is_any b g cap dv ts xb σ s W h)
 obtain⟨W1,hW1⟩:∃W1,W1=((W.alloc (.cells levA 9)).alloc (.cells levB 3)).alloc (.cells levC 3):=⟨_,rfl⟩
 have hb1:Below W.heap.size W W1:=by rw[hW1];exact(((qB _ _).alloc (qL _) _).alloc (by simp) _).alloc (by simp;omega) _
 have hs1:W1.heap.size=W.heap.size+3:=by rw[hW1];simp
 have hcell:∀(j:Nat) p,levelsL[j]?=some p→W1.cell? ⟨W.heap.size,j,none⟩=some (.string (str p.1))∧W1.cell? ⟨W.heap.size+1,j,none⟩=some (.int .i64 p.2.1)∧W1.cell? ⟨W.heap.size+1+1,j,none⟩=some (.int .i64 p.2.2):=fun j p hp=>by
  have hA:=map_cell W levelsL (fun p=>Value.string (str p.1)) 9 j p hp
  have hB:=map_cell (W.alloc (.cells levA 9)) levelsL (fun p=>Value.int .i64 p.2.1) 3 j p hp
  have hC:=map_cell ((W.alloc (.cells levA 9)).alloc (.cells levB 3)) levelsL (fun p=>Value.int .i64 p.2.2) 3 j p hp
  rw[World.size_alloc] at hB
  rw[World.size_alloc,World.size_alloc] at hC
  refine⟨?_,?_,?_⟩
  ·rw[hW1,World.cell?_alloc_old _ _ _ (by simp;omega),World.cell?_alloc_old _ _ _ (by simp)];exact hA
  ·rw[hW1,World.cell?_alloc_old _ _ _ (by simp)];exact hB
  ·rw[hW1];exact hC
 have HB1:=Hd hb1
 have HS1:=Hd hs1
 have HC:=Hd hcell
 clear hb1 hs1 hcell
 go_enter Tryz.func72,Tryz.ntmps72
 go_wp2_with fail
 change Code.wp _ _ _ _ (((W.alloc (.cells levA 9)).alloc (.cells levB 3)).alloc (.cells levC 3))
 rw[←hW1]
 clear hW1
 go_loopw [7] (fun i wr=>∃j:Nat,j≤9∧Hid ((levelsL.take j).all (fun q=>!isS ts q.1 σ)=true)∧i=.int .i64 j∧Hid (Below W1.heap.size W1 wr)) (fun i _=>9-litLen i)
 case atStart=>exact⟨0,by omega,Hd rfl,rfl,Hd (qB _ _)⟩
 case round =>
  obtain⟨j,hj,hno,rfl,hB⟩:=hrel
  have HBW:=Hd (HB1.out.trans (hB.out.mono HB1.out.size))
  rcases Nat.lt_or_ge j 9 with hlt | hge
  ·have q3:decide ((j:Int)<9)=true:=qT (by omega)
   obtain⟨p,hp⟩:∃p,levelsL[j]?=some p:=⟨levelsL[j]'(by show j<9;exact hlt),List.getElem?_eq_getElem _⟩
   obtain⟨a1,a2,a3⟩:=HC.out j p hp
   have up:∀{x i v},x<W.heap.size+3→W1.cell? ⟨x,i,none⟩=some v→wr.cell? ⟨x,i,none⟩=some v:=fun {x i v} hx hh=>(hB.out.cell (p:=⟨x,i,none⟩) (by have:=HS1.out;show x<_;omega)).trans hh
   have c1:=up (by omega) a1
   have c2:=up (by omega) a2
   have c3:=up (by omega) a3
   have hsw:Hid (W.heap.size+3≤wr.heap.size):=Hd (by have:=hB.out.size;have:=HS1.out;omega)
   obtain⟨s,L1,K1⟩:=p
   dsimp only at c1 c2 c3
   have HP:=Hd hp
   clear a1 a2 a3 up hp
   have hr:=Hd (h.out.below HBW.out)
   have jr:(j:Int)<9:=by omega
   cases hR:isS ts s σ with
   | true =>
    have C:Hid (Calls prog 40 #[.pointer (some ⟨b,0,none⟩),.string (str s)] wr fun r Y=>r=.returned (.bool true)∧Below wr.heap.size wr Y∧Y.cell? ⟨W.heap.size+1,j,none⟩=some (.int .i64 L1)∧Y.cell? ⟨W.heap.size+1+1,j,none⟩=some (.int .i64 K1)):=Hd ((IS.out s wr hr).mono fun r Y ⟨e1,e2⟩=>by
     rw[hR] at e1
     exact⟨e1,e2,(e2.cell (p:=⟨W.heap.size+1,j,none⟩) (by have:=hsw.out;show W.heap.size+1<_;omega)).trans c2,(e2.cell (p:=⟨W.heap.size+1+1,j,none⟩) (by have:=hsw.out;show W.heap.size+1+1<_;omega)).trans c3⟩)
    have hv:=level_hit HP.out hno.out hR
    have HV:Hid (L=L1∧K=K1):=Hd (by rw[hLK.out] at hv;cases hv;exact⟨rfl,rfl⟩)
    clear hR hv
    go_wp2_with (go_at_call 40;(with_reducible refine C.out.mono ?_);rintro e w1 ⟨rfl,hb,y2,y3⟩;have HB:=Hd hb;clear hb)
    go_quiet (fail)
    go_wp2_with fail
    go_ret2
    obtain⟨rfl,rfl⟩:=HV.out
    exact⟨rfl,below_dr (HBW.out.trans (HB.out.mono HBW.out.size)) _⟩
   | false =>
    have C:Hid (Calls prog 40 #[.pointer (some ⟨b,0,none⟩),.string (str s)] wr fun r Y=>r=.returned (.bool false)∧Below wr.heap.size wr Y):=Hd ((IS.out s wr hr).mono fun r Y ⟨e1,e2⟩=>by
     rw[hR] at e1;exact⟨e1,e2⟩)
    have HN:=Hd (all_take_next (fun q:List UInt8×Int×Int=>!isS ts q.1 σ) HP.out hno.out (by show(!isS ts s σ)=true;rw[hR];rfl))
    clear hR
    go_wp2_with (go_at_call 40;(with_reducible refine C.out.mono ?_);rintro e w1 ⟨rfl,hb⟩;have HB:=Hd hb;clear hb)
    exact⟨⟨j+1,by omega,HN,rfl,Hd (hB.out.trans (HB.out.mono hB.out.size))⟩,by simp[litLen];omega⟩
  ·have q3:decide ((j:Int)<9)=false:=qF (by omega)
   have HV:Hid (L=0∧K=0):=Hd (by
    have hv:=level_none (ts:=ts) (σ:=σ) (by have:=hno.out;rwa [List.take_of_length_le (show levelsL.length≤j by show 9≤j;omega)] at this)
    rw[hLK.out] at hv;cases hv;exact⟨rfl,rfl⟩)
   go_wp2_with fail
   go_ret2
   obtain⟨rfl,rfl⟩:=HV.out
   exact⟨rfl,HBW.out⟩
end Go.Proofs.YtlbhlncipajapaaGreatDoor
