import Derived.Test.YthpgfahlccljnaaGreatDoorSw20
import Derived.Deep.AppendLies
set_option maxHeartbeats 16000000
set_option maxRecDepth 100000
open Go.Proofs.Tryz(prog)
namespace Go.Proofs.YthpgfahlccljnaaGreatDoor
open Go.RowKit Lx
theorem NoEx.tok {cs:Array Value}:NoEx (.cells cs 76 (0,0)):=fun cs' h=>by cases h
def Box4 (W:World) (A kd:Nat) (tx:List UInt8) (tv:Int) (p:Nat):Prop:=W.heap[A]?=some (.cells #[.int .i64 (kd:Int),.string (str tx),.int .i64 tv,.int .i64 (p:Int)] 76 (0,0))
def RdBox (b g cap:Nat) (dv:Value) (ts:List Tok) (xb:Nat→Prop) (A kd:Nat) (tx:List UInt8) (tv:Int) (p:Nat) (W:World) (v:Value) (σ:RS) (n:Nat) (r:Ending) (Y:World):Prop :=
 r=.returned v∧Y.cell? ⟨A,0,none⟩=some (.int .i64 (kd:Int))∧Y.cell? ⟨A,1,none⟩=some (.string (str tx))∧Y.cell? ⟨A,3,none⟩=some (.int .i64 (p:Int))∧Y.cell? ⟨b,1,none⟩=some (.int .i64 (n:Int))∧Y.frozen? ⟨b,1,none⟩=false ∧
  Hid (Rd Y b g cap dv ts xb σ)∧Hid (RK b W Y)∧Hid (Box4 Y A kd tx tv p)
theorem Box4.cells {W:World} {A kd:Nat} {tx:List UInt8} {tv:Int} {p:Nat} (h:Box4 W A kd tx tv p):W.cell? ⟨A,0,none⟩=some (.int .i64 (kd:Int))∧W.cell? ⟨A,1,none⟩=some (.string (str tx))∧W.cell? ⟨A,2,none⟩=some (.int .i64 tv)∧W.cell? ⟨A,3,none⟩=some (.int .i64 (p:Int)):=by
 unfold Box4 at h
 exact⟨by simp[World.cell?,h],by simp[World.cell?,h],by simp[World.cell?,h],by simp[World.cell?,h]⟩
theorem Box4.keep {b:Nat} {W Y:World} {A kd:Nat} {tx:List UInt8} {tv:Int} {p:Nat} (h:Box4 W A kd tx tv p) (hk:RK b W Y) (hb:b≠A):Box4 Y A kd tx tv p:=hk.keep A _ h (Ne.symm hb) .tok
theorem RdRet.box {b g cap:Nat} {dv:Value} {ts:List Tok} {xb:Nat→Prop} {A kd:Nat} {tx:List UInt8} {tv:Int} {p:Nat} {W:World} {v:Value} {σ:RS} {n:Nat} {r:Ending} {Y:World} (h:RdRet b g cap dv ts xb W v σ r Y) (hn:σ.at_=n) (hb:Hid (Box4 W A kd tx tv p)) (hbA:b≠A):RdBox b g cap dv ts xb A kd tx tv p W v σ n r Y:=by
 obtain⟨h1,h2,h3⟩:=h
 obtain⟨o,c,hc,_⟩:=h2.cells
 have hx:=hb.out.keep h3 hbA
 obtain⟨x0,x1,_,x3⟩:=hx.cells
 exact⟨h1,x0,x1,x3,hc.c1.trans (by rw[hn]),hc.fr 1,Hd h2,Hd h3,Hd hx⟩
theorem rd_step {b g cap:Nat} {dv:Value} {ts:List Tok} {xb:Nat→Prop} {σ:RS} {W:World} {a:Nat} (h:Hid (Rd W b g cap dv ts xb σ)) (hk:(tokL ts σ.at_).kind≠5) (ha:Hid (a=σ.at_)):Hid (Rd (W.setCell ⟨b,1,none⟩ (.int .i64 ((a:Int)+1))) b g cap dv ts xb (stepS σ)) :=
 Hd (by rw[ha.out];exact h.out.setAt hk)
theorem rd_drew {b g cap:Nat} {dv:Value} {ts:List Tok} {xb:Nat→Prop} {σ:RS} {W:World} (h:Hid (Rd W b g cap dv ts xb σ)):Hid (Rd W.drew b g cap dv ts xb σ):=Hd (h.out.below (qB _ _).drew)
theorem box_drew {W:World} {A kd:Nat} {tx:List UInt8} {tv:Int} {p:Nat} (h:Hid (Box4 W A kd tx tv p)):Hid (Box4 W.drew A kd tx tv p):=h
theorem Box4.set {W:World} {A kd:Nat} {tx:List UInt8} {tv:Int} {p:Nat} (h:Box4 W A kd tx tv p) {b:Nat} (hb:b≠A) (i:Nat) (v:Value):Box4 (W.setCell ⟨b,i,none⟩ v) A kd tx tv p:=(Below.heap_setCell W ⟨b,i,none⟩ v A (by simpa using Ne.symm hb)).trans h
theorem box_step {b:Nat} {W:World} {A kd:Nat} {tx:List UInt8} {tv:Int} {p:Nat} (h:Hid (Box4 W A kd tx tv p)) (hb:b≠A) (v:Value):Hid (Box4 (W.setCell ⟨b,1,none⟩ v) A kd tx tv p):=Hd (h.out.set hb 1 v)
theorem atom_num (b g cap:Nat) (dv:Value) (ts:List Tok) (xb:Nat→Prop) (σ:RS) (W:World) (h:Hid (Rd W b g cap dv ts xb σ)) (h2:(tokL ts σ.at_).kind=2) (ok:okS (stepS σ)=true) :
  Calls prog 84 #[.pointer (some ⟨b,0,none⟩)] W fun r Y=>RdRet b g cap dv ts xb W (.int .i64 (σ.exprs.length:Int)) (putS { ex0 with kind:=1,v:=(tokL ts σ.at_).v,pos:=((tokL ts σ.at_).at_:Int) } (stepS σ)) r Y:=by
 obtain⟨o,c,⟨c0,c1,c3,c4,c5,c6,fr⟩,hx⟩:=h.out.cells
 have ht:=h.out.tok
 have hgb:g≠b:=by have:=h.out.lt;omega
 have hl:=h.out.at_
 have hn:=h.out.len
 obtain⟨t0,t1,t2,t3⟩:=ht
 obtain⟨n,hnn⟩:∃n,n=ts.length:=⟨_,rfl⟩
 obtain⟨a,haa⟩:∃a,a=σ.at_:=⟨_,rfl⟩
 obtain⟨cd,hcd⟩:∃cd,cd=σ.code:=⟨_,rfl⟩
 obtain⟨ps,hps⟩:∃ps,ps=σ.pos:=⟨_,rfl⟩
 obtain⟨dp,hdp⟩:∃dp,dp=σ.deep:=⟨_,rfl⟩
 obtain⟨kd,hkd⟩:∃kd,kd=(tokL ts σ.at_).kind:=⟨_,rfl⟩
 obtain⟨tx,htx⟩:∃tx,tx=(tokL ts σ.at_).text:=⟨_,rfl⟩
 obtain⟨tv,htv⟩:∃tv,tv=(tokL ts σ.at_).v:=⟨_,rfl⟩
 obtain⟨p,hp⟩:∃p,p=(tokL ts σ.at_).at_:=⟨_,rfl⟩
 rw[←hnn] at c0 hl hn
 rw[←hkd] at t0
 rw[←htx] at t1
 rw[←htv] at t2
 rw[←hp] at t3
 rw[←haa] at c1 t0 t1 t2 t3 hl
 rw[←hcd] at c5
 rw[←hdp] at c4
 rw[←hps] at c6
 have k0:((a:Nat):Int)<(n:Int):=by omega
 have f1:=fr 1
 have f4:=fr 4
 have f5:=fr 5
 have f6:=fr 6
 have HCD:=Hd hcd
 have HPS:=Hd hps
 have HDP:=Hd hdp
 have HKD:=Hd hkd
 have HTX:=Hd htx
 have HTV:=Hd htv
 have HP:=Hd hp
 have HAA:=Hd haa
 have HNN:=Hd hnn
 clear fr hx hnn haa hcd hps hdp hkd htx htv hp c3
 have hgs:g<W.heap.size:=by have:=h.out.lt;have:=h.out.size;omega
 have hbs:b<W.heap.size:=h.out.size
 have ha4:(a:Int)≤40000:=by omega
 obtain⟨A,hA⟩:∃A,A=W.heap.size:=⟨_,rfl⟩
 obtain⟨W1,hW1⟩:∃W1,W1=(W.alloc (.cells #[.int .i64 (kd:Int),.string (str tx),.int .i64 tv,.int .i64 (p:Int)] 76)).drew:=⟨_,rfl⟩
 have hb1:Below W.heap.size W W1:=by rw[hW1];exact((qB W.heap.size W).alloc (qL _) _).drew
 have HBX:Hid (Box4 W1 A kd tx tv p):=Hd (by rw[hW1,hA];exact heap_alloc_new W _)
 have HR1:Hid (Rd W1 b g cap dv ts xb σ):=Hd (h.out.below hb1)
 have HK1:Hid (RK b W W1):=Hd (RK.of_below hb1 (ql hbs))
 have hbA:b≠A:=by omega
 have q1:=(hb1.cell (p:=⟨b,1,none⟩) hbs).trans c1
 have qf:=(hb1.frozen (p:=⟨b,1,none⟩) hbs).trans f1
 obtain⟨x0,x1,x2,x3⟩:=HBX.out.cells
 have HAW:=Hd hA
 clear hb1
 have q2:((kd:Int) ==2)=true:=by rw[HKD.out,h2];rfl
 obtain⟨V,hV⟩:∃V,V=W1.setCell ⟨b,1,none⟩ (.int .i64 ((a:Int)+1)):=⟨_,rfl⟩
 have HRV:Hid (Rd V b g cap dv ts xb (stepS σ)):=Hd (by rw[hV,HAA.out];exact HR1.out.setAt (by rw[h2];decide))
 have HKV:Hid (RK b W1 V):=Hd (by rw[hV];exact RK.set 1 _)
 have HXV:Hid (Box4 V A kd tx tv p):=Hd (by rw[hV];exact HBX.out.set hbA _ _)
 obtain⟨v0,v1,v2,v3⟩:=HXV.out.cells
 have HVV:=Hd hV
 have PU:Hid (∀W,Hid (Rd W b g cap dv ts xb (stepS σ))→Calls prog 50 #[.pointer (some ⟨b,0,none⟩),.agg #[.int .i64 1,.int .i64 0,.int .i64 0,.int .i64 0,.string ⟨#[]⟩,.string ⟨#[]⟩,.int .i64 tv,.slice none 0 0,.int .i64 (p:Int)]] W fun r Y=>RdRet b g cap dv ts xb W (.int .i64 ((stepS σ).exprs.length:Int)) (putS { ex0 with kind:=1,v:=tv,pos:=(p:Int) } (stepS σ)) r Y) :=
  Hd fun W h=>put_any b g cap dv ts xb (stepS σ) { ex0 with kind:=1,v:=tv,pos:=(p:Int) } none 0 0 W h (okS_iff.1 ok).1 (Hd (qO _ _ _ _)) (Hd fun k hk=>by cases hk)
 clear h2 ok
 rw[hV] at v0 v1 v2 v3
 clear hV
 go_enter Tryz.func84,Tryz.ntmps84
 go_wp2_with fail
 go_region_held3 (fun w'=>w'.cell? ⟨b,0,none⟩=some (.slice (some ⟨g,0,none⟩) n cap)∧w'.cell? ⟨b,1,none⟩=some (.int .i64 (a:Int))∧w'.cell? ⟨g,a*4,none⟩=some (.int .i64 (kd:Int))∧w'.cell? ⟨g,a*4+1,none⟩=some (.string (str tx))∧w'.cell? ⟨g,a*4+2,none⟩=some (.int .i64 tv)∧w'.cell? ⟨g,a*4+3,none⟩=some (.int .i64 (p:Int)))
  ((repeat' apply And.intro) <;> first | assumption | go_keep)
  (fail)
 rw[←hW1,←hA]
 clear hW1 hA t0 t1 t2 t3 c0 c1 c4 c5 c6 f1 f4 f5 f6 k0 hgs
 go_wp2_with (go_at_call 50;rw[←HVV.out];(with_reducible refine(PU.out V HRV).mono ?_);rintro e w4 ⟨rfl,hr,hk⟩;have HR4:=Hd hr;have HK4:=Hd hk;clear hr hk)
 go_ret
 rw[←HTV.out,←HP.out]
 exact⟨rfl,HR4.out,HK1.out.trans (HKV.out.trans HK4.out)⟩
theorem atom_true (b g cap:Nat) (dv:Value) (ts:List Tok) (xb:Nat→Prop) (σ:RS) (W:World) (h:Hid (Rd W b g cap dv ts xb σ)) (h2:(tokL ts σ.at_).kind≠2) (ht:isS ts [116,114,117,101] σ=true) (ok:okS (stepS σ)=true) :
  Calls prog 84 #[.pointer (some ⟨b,0,none⟩)] W fun r Y=>RdRet b g cap dv ts xb W (.int .i64 (σ.exprs.length:Int)) (putS { ex0 with kind:=2,v:=1,pos:=((tokL ts σ.at_).at_:Int) } (stepS σ)) r Y:=by
 obtain⟨o,c,⟨c0,c1,c3,c4,c5,c6,fr⟩,hx⟩:=h.out.cells
 have ht:=h.out.tok
 have hgb:g≠b:=by have:=h.out.lt;omega
 have hl:=h.out.at_
 have hn:=h.out.len
 obtain⟨t0,t1,t2,t3⟩:=ht
 obtain⟨n,hnn⟩:∃n,n=ts.length:=⟨_,rfl⟩
 obtain⟨a,haa⟩:∃a,a=σ.at_:=⟨_,rfl⟩
 obtain⟨cd,hcd⟩:∃cd,cd=σ.code:=⟨_,rfl⟩
 obtain⟨ps,hps⟩:∃ps,ps=σ.pos:=⟨_,rfl⟩
 obtain⟨dp,hdp⟩:∃dp,dp=σ.deep:=⟨_,rfl⟩
 obtain⟨kd,hkd⟩:∃kd,kd=(tokL ts σ.at_).kind:=⟨_,rfl⟩
 obtain⟨tx,htx⟩:∃tx,tx=(tokL ts σ.at_).text:=⟨_,rfl⟩
 obtain⟨tv,htv⟩:∃tv,tv=(tokL ts σ.at_).v:=⟨_,rfl⟩
 obtain⟨p,hp⟩:∃p,p=(tokL ts σ.at_).at_:=⟨_,rfl⟩
 rw[←hnn] at c0 hl hn
 rw[←hkd] at t0
 rw[←htx] at t1
 rw[←htv] at t2
 rw[←hp] at t3
 rw[←haa] at c1 t0 t1 t2 t3 hl
 rw[←hcd] at c5
 rw[←hdp] at c4
 rw[←hps] at c6
 have k0:((a:Nat):Int)<(n:Int):=by omega
 have f1:=fr 1
 have f4:=fr 4
 have f5:=fr 5
 have f6:=fr 6
 have HCD:=Hd hcd
 have HPS:=Hd hps
 have HDP:=Hd hdp
 have HKD:=Hd hkd
 have HTX:=Hd htx
 have HTV:=Hd htv
 have HP:=Hd hp
 have HAA:=Hd haa
 have HNN:=Hd hnn
 clear fr hx hnn haa hcd hps hdp hkd htx htv hp c3
 have hgs:g<W.heap.size:=by have:=h.out.lt;have:=h.out.size;omega
 have hbs:b<W.heap.size:=h.out.size
 have ha4:(a:Int)≤40000:=by omega
 obtain⟨A,hA⟩:∃A,A=W.heap.size:=⟨_,rfl⟩
 obtain⟨W1,hW1⟩:∃W1,W1=(W.alloc (.cells #[.int .i64 (kd:Int),.string (str tx),.int .i64 tv,.int .i64 (p:Int)] 76)).drew:=⟨_,rfl⟩
 have hb1:Below W.heap.size W W1:=by rw[hW1];exact((qB W.heap.size W).alloc (qL _) _).drew
 have HBX:Hid (Box4 W1 A kd tx tv p):=Hd (by rw[hW1,hA];exact heap_alloc_new W _)
 have HR1:Hid (Rd W1 b g cap dv ts xb σ):=Hd (h.out.below hb1)
 have HK1:Hid (RK b W W1):=Hd (RK.of_below hb1 (ql hbs))
 have hbA:b≠A:=by omega
 have q1:=(hb1.cell (p:=⟨b,1,none⟩) hbs).trans c1
 have qf:=(hb1.frozen (p:=⟨b,1,none⟩) hbs).trans f1
 obtain⟨x0,x1,x2,x3⟩:=HBX.out.cells
 have HAW:=Hd hA
 clear hb1
 have q2:((kd:Int) ==2)=false:=beq_false_of_ne (by rw[HKD.out];omega)
 have TK:Hid (∀W,Hid (Rd W b g cap dv ts xb σ)→Hid (Box4 W A kd tx tv p)→Calls prog 48 #[.pointer (some ⟨b,0,none⟩),.string ⟨#[116,114,117,101]⟩] W fun r Y=>RdBox b g cap dv ts xb A kd tx tv p W (.bool true) (stepS σ) (a+1) r Y):=Hd fun W h hx=>(took_true [116,114,117,101] ht W h).mono fun r Y hr=>hr.box (by first | exact HAA.out.symm | (rw[HAA.out];rfl)) hx hbA
 have PU:Hid (∀W,Hid (Rd W b g cap dv ts xb (stepS σ))→Calls prog 50 #[.pointer (some ⟨b,0,none⟩),.agg #[.int .i64 2,.int .i64 0,.int .i64 0,.int .i64 0,.string ⟨#[]⟩,.string ⟨#[]⟩,.int .i64 1,.slice none 0 0,.int .i64 (p:Int)]] W fun r Y=>RdRet b g cap dv ts xb W (.int .i64 ((stepS σ).exprs.length:Int)) (putS { ex0 with kind:=2,v:=1,pos:=(p:Int) } (stepS σ)) r Y) :=
  Hd fun W h=>put_any b g cap dv ts xb (stepS σ) { ex0 with kind:=2,v:=1,pos:=(p:Int) } none 0 0 W h (okS_iff.1 ok).1 (Hd (qO _ _ _ _)) (Hd fun k hk=>by cases hk)
 clear h2 ok ht
 go_enter Tryz.func84,Tryz.ntmps84
 go_wp2_with fail
 go_region_held3 (fun w'=>w'.cell? ⟨b,0,none⟩=some (.slice (some ⟨g,0,none⟩) n cap)∧w'.cell? ⟨b,1,none⟩=some (.int .i64 (a:Int))∧w'.cell? ⟨g,a*4,none⟩=some (.int .i64 (kd:Int))∧w'.cell? ⟨g,a*4+1,none⟩=some (.string (str tx))∧w'.cell? ⟨g,a*4+2,none⟩=some (.int .i64 tv)∧w'.cell? ⟨g,a*4+3,none⟩=some (.int .i64 (p:Int)))
  ((repeat' apply And.intro) <;> first | assumption | go_keep)
  (fail)
 rw[←hW1,←hA]
 clear hW1 hA t0 t1 t2 t3 c0 c1 c4 c5 c6 f1 f4 f5 f6 k0 hgs
 go_wp2_with (first
  | (go_at_call 48;(with_reducible refine(TK.out W1 HR1 HBX).mono ?_);rintro e w2 ⟨rfl,y0,y1,y3,yb,yf,HR2,HK2,HX2⟩)
  | (go_at_call 50;(with_reducible refine(PU.out w2 HR2).mono ?_);rintro e w4 ⟨rfl,hr,hk⟩;have HR4:=Hd hr;have HK4:=Hd hk;clear hr hk))
 go_ret
 rw[←HP.out]
 exact⟨rfl,HR4.out,HK1.out.trans (HK2.out.trans HK4.out)⟩
theorem atom_false (b g cap:Nat) (dv:Value) (ts:List Tok) (xb:Nat→Prop) (σ:RS) (W:World) (h:Hid (Rd W b g cap dv ts xb σ)) (h2:(tokL ts σ.at_).kind≠2) (ht:isS ts [116,114,117,101] σ=false) (hf:isS ts [102,97,108,115,101] σ=true) (ok:okS (stepS σ)=true) :
  Calls prog 84 #[.pointer (some ⟨b,0,none⟩)] W fun r Y=>RdRet b g cap dv ts xb W (.int .i64 (σ.exprs.length:Int)) (putS { ex0 with kind:=2,pos:=((tokL ts σ.at_).at_:Int) } (stepS σ)) r Y:=by
 obtain⟨o,c,⟨c0,c1,c3,c4,c5,c6,fr⟩,hx⟩:=h.out.cells
 have ht:=h.out.tok
 have hgb:g≠b:=by have:=h.out.lt;omega
 have hl:=h.out.at_
 have hn:=h.out.len
 obtain⟨t0,t1,t2,t3⟩:=ht
 obtain⟨n,hnn⟩:∃n,n=ts.length:=⟨_,rfl⟩
 obtain⟨a,haa⟩:∃a,a=σ.at_:=⟨_,rfl⟩
 obtain⟨cd,hcd⟩:∃cd,cd=σ.code:=⟨_,rfl⟩
 obtain⟨ps,hps⟩:∃ps,ps=σ.pos:=⟨_,rfl⟩
 obtain⟨dp,hdp⟩:∃dp,dp=σ.deep:=⟨_,rfl⟩
 obtain⟨kd,hkd⟩:∃kd,kd=(tokL ts σ.at_).kind:=⟨_,rfl⟩
 obtain⟨tx,htx⟩:∃tx,tx=(tokL ts σ.at_).text:=⟨_,rfl⟩
 obtain⟨tv,htv⟩:∃tv,tv=(tokL ts σ.at_).v:=⟨_,rfl⟩
 obtain⟨p,hp⟩:∃p,p=(tokL ts σ.at_).at_:=⟨_,rfl⟩
 rw[←hnn] at c0 hl hn
 rw[←hkd] at t0
 rw[←htx] at t1
 rw[←htv] at t2
 rw[←hp] at t3
 rw[←haa] at c1 t0 t1 t2 t3 hl
 rw[←hcd] at c5
 rw[←hdp] at c4
 rw[←hps] at c6
 have k0:((a:Nat):Int)<(n:Int):=by omega
 have f1:=fr 1
 have f4:=fr 4
 have f5:=fr 5
 have f6:=fr 6
 have HCD:=Hd hcd
 have HPS:=Hd hps
 have HDP:=Hd hdp
 have HKD:=Hd hkd
 have HTX:=Hd htx
 have HTV:=Hd htv
 have HP:=Hd hp
 have HAA:=Hd haa
 have HNN:=Hd hnn
 clear fr hx hnn haa hcd hps hdp hkd htx htv hp c3
 have hgs:g<W.heap.size:=by have:=h.out.lt;have:=h.out.size;omega
 have hbs:b<W.heap.size:=h.out.size
 have ha4:(a:Int)≤40000:=by omega
 obtain⟨A,hA⟩:∃A,A=W.heap.size:=⟨_,rfl⟩
 obtain⟨W1,hW1⟩:∃W1,W1=(W.alloc (.cells #[.int .i64 (kd:Int),.string (str tx),.int .i64 tv,.int .i64 (p:Int)] 76)).drew:=⟨_,rfl⟩
 have hb1:Below W.heap.size W W1:=by rw[hW1];exact((qB W.heap.size W).alloc (qL _) _).drew
 have HBX:Hid (Box4 W1 A kd tx tv p):=Hd (by rw[hW1,hA];exact heap_alloc_new W _)
 have HR1:Hid (Rd W1 b g cap dv ts xb σ):=Hd (h.out.below hb1)
 have HK1:Hid (RK b W W1):=Hd (RK.of_below hb1 (ql hbs))
 have hbA:b≠A:=by omega
 have q1:=(hb1.cell (p:=⟨b,1,none⟩) hbs).trans c1
 have qf:=(hb1.frozen (p:=⟨b,1,none⟩) hbs).trans f1
 obtain⟨x0,x1,x2,x3⟩:=HBX.out.cells
 have HAW:=Hd hA
 clear hb1
 have q2:((kd:Int) ==2)=false:=beq_false_of_ne (by rw[HKD.out];omega)
 have TK:Hid (∀W,Hid (Rd W b g cap dv ts xb σ)→Hid (Box4 W A kd tx tv p)→Calls prog 48 #[.pointer (some ⟨b,0,none⟩),.string ⟨#[116,114,117,101]⟩] W fun r Y=>RdBox b g cap dv ts xb A kd tx tv p W (.bool false) σ a r Y):=Hd fun W h hx=>(took_false [116,114,117,101] ht W h).mono fun r Y hr=>hr.box (by first | exact HAA.out.symm | (rw[HAA.out];rfl)) hx hbA
 have FK:Hid (∀W,Hid (Rd W b g cap dv ts xb σ)→Hid (Box4 W A kd tx tv p)→Calls prog 48 #[.pointer (some ⟨b,0,none⟩),.string ⟨#[102,97,108,115,101]⟩] W fun r Y=>RdBox b g cap dv ts xb A kd tx tv p W (.bool true) (stepS σ) (a+1) r Y):=Hd fun W h hx=>(took_true [102,97,108,115,101] hf W h).mono fun r Y hr=>hr.box (by first | exact HAA.out.symm | (rw[HAA.out];rfl)) hx hbA
 have PU:Hid (∀W,Hid (Rd W b g cap dv ts xb (stepS σ))→Calls prog 50 #[.pointer (some ⟨b,0,none⟩),.agg #[.int .i64 2,.int .i64 0,.int .i64 0,.int .i64 0,.string ⟨#[]⟩,.string ⟨#[]⟩,.int .i64 0,.slice none 0 0,.int .i64 (p:Int)]] W fun r Y=>RdRet b g cap dv ts xb W (.int .i64 ((stepS σ).exprs.length:Int)) (putS { ex0 with kind:=2,pos:=(p:Int) } (stepS σ)) r Y) :=
  Hd fun W h=>put_any b g cap dv ts xb (stepS σ) { ex0 with kind:=2,pos:=(p:Int) } none 0 0 W h (okS_iff.1 ok).1 (Hd (qO _ _ _ _)) (Hd fun k hk=>by cases hk)
 clear h2 ok ht hf
 go_enter Tryz.func84,Tryz.ntmps84
 go_wp2_with fail
 go_region_held3 (fun w'=>w'.cell? ⟨b,0,none⟩=some (.slice (some ⟨g,0,none⟩) n cap)∧w'.cell? ⟨b,1,none⟩=some (.int .i64 (a:Int))∧w'.cell? ⟨g,a*4,none⟩=some (.int .i64 (kd:Int))∧w'.cell? ⟨g,a*4+1,none⟩=some (.string (str tx))∧w'.cell? ⟨g,a*4+2,none⟩=some (.int .i64 tv)∧w'.cell? ⟨g,a*4+3,none⟩=some (.int .i64 (p:Int)))
  ((repeat' apply And.intro) <;> first | assumption | go_keep)
  (fail)
 rw[←hW1,←hA]
 clear hW1 hA t0 t1 t2 t3 c0 c1 c4 c5 c6 f1 f4 f5 f6 k0 hgs
 go_wp2_with (first
  | (go_at_call 48;(with_reducible refine(TK.out W1 HR1 HBX).mono ?_);rintro e w2 ⟨rfl,y0,y1,y3,yb,yf,HR2,HK2,HX2⟩)
  | (go_at_call 48;(with_reducible refine(FK.out w2 HR2 HX2).mono ?_);rintro e w3 ⟨rfl,y0,y1,y3,yb,yf,HR3,HK3,HX3⟩)
  | (go_at_call 50;(with_reducible refine(PU.out w3 HR3).mono ?_);rintro e w4 ⟨rfl,hr,hk⟩;have HR4:=Hd hr;have HK4:=Hd hk;clear hr hk))
 go_ret
 rw[←HP.out]
 exact⟨rfl,HR4.out,HK1.out.trans (HK2.out.trans (HK3.out.trans HK4.out))⟩
theorem atom_name (b g cap:Nat) (dv:Value) (ts:List Tok) (xb:Nat→Prop) (σ:RS) (W:World) (h:Hid (Rd W b g cap dv ts xb σ)) (_:(tokL ts σ.at_).kind≠2) (ht:isS ts [116,114,117,101] σ=false) (hf:isS ts [102,97,108,115,101] σ=false) (h1:(tokL ts σ.at_).kind=1) (hi:isS ts [105,115] (stepS σ)=false) (hl':isS ts [40] (stepS σ)=false) (ok:okS (stepS σ)=true) :
  Calls prog 84 #[.pointer (some ⟨b,0,none⟩)] W fun r Y=>RdRet b g cap dv ts xb W (.int .i64 (σ.exprs.length:Int)) (putS { ex0 with kind:=3,name:=str (tokL ts σ.at_).text,pos:=((tokL ts σ.at_).at_:Int) } (stepS σ)) r Y:=by
 obtain⟨o,c,⟨c0,c1,c3,c4,c5,c6,fr⟩,hx⟩:=h.out.cells
 have ht:=h.out.tok
 have hgb:g≠b:=by have:=h.out.lt;omega
 have hl:=h.out.at_
 have hn:=h.out.len
 obtain⟨t0,t1,t2,t3⟩:=ht
 obtain⟨n,hnn⟩:∃n,n=ts.length:=⟨_,rfl⟩
 obtain⟨a,haa⟩:∃a,a=σ.at_:=⟨_,rfl⟩
 obtain⟨cd,hcd⟩:∃cd,cd=σ.code:=⟨_,rfl⟩
 obtain⟨ps,hps⟩:∃ps,ps=σ.pos:=⟨_,rfl⟩
 obtain⟨dp,hdp⟩:∃dp,dp=σ.deep:=⟨_,rfl⟩
 obtain⟨kd,hkd⟩:∃kd,kd=(tokL ts σ.at_).kind:=⟨_,rfl⟩
 obtain⟨tx,htx⟩:∃tx,tx=(tokL ts σ.at_).text:=⟨_,rfl⟩
 obtain⟨tv,htv⟩:∃tv,tv=(tokL ts σ.at_).v:=⟨_,rfl⟩
 obtain⟨p,hp⟩:∃p,p=(tokL ts σ.at_).at_:=⟨_,rfl⟩
 rw[←hnn] at c0 hl hn
 rw[←hkd] at t0
 rw[←htx] at t1
 rw[←htv] at t2
 rw[←hp] at t3
 rw[←haa] at c1 t0 t1 t2 t3 hl
 rw[←hcd] at c5
 rw[←hdp] at c4
 rw[←hps] at c6
 have k0:((a:Nat):Int)<(n:Int):=by omega
 have f1:=fr 1
 have f4:=fr 4
 have f5:=fr 5
 have f6:=fr 6
 have HCD:=Hd hcd
 have HPS:=Hd hps
 have HDP:=Hd hdp
 have HKD:=Hd hkd
 have HTX:=Hd htx
 have HTV:=Hd htv
 have HP:=Hd hp
 have HAA:=Hd haa
 have HNN:=Hd hnn
 clear fr hx hnn haa hcd hps hdp hkd htx htv hp c3
 have hgs:g<W.heap.size:=by have:=h.out.lt;have:=h.out.size;omega
 have hbs:b<W.heap.size:=h.out.size
 have ha4:(a:Int)≤40000:=by omega
 obtain⟨A,hA⟩:∃A,A=W.heap.size:=⟨_,rfl⟩
 obtain⟨W1,hW1⟩:∃W1,W1=(W.alloc (.cells #[.int .i64 (kd:Int),.string (str tx),.int .i64 tv,.int .i64 (p:Int)] 76)).drew:=⟨_,rfl⟩
 have hb1:Below W.heap.size W W1:=by rw[hW1];exact((qB W.heap.size W).alloc (qL _) _).drew
 have HBX:Hid (Box4 W1 A kd tx tv p):=Hd (by rw[hW1,hA];exact heap_alloc_new W _)
 have HR1:Hid (Rd W1 b g cap dv ts xb σ):=Hd (h.out.below hb1)
 have HK1:Hid (RK b W W1):=Hd (RK.of_below hb1 (ql hbs))
 have hbA:b≠A:=by omega
 have q1:=(hb1.cell (p:=⟨b,1,none⟩) hbs).trans c1
 have qf:=(hb1.frozen (p:=⟨b,1,none⟩) hbs).trans f1
 obtain⟨x0,x1,x2,x3⟩:=HBX.out.cells
 have HAW:=Hd hA
 clear hb1
 have q2:((kd:Int) ==2)=false:=beq_false_of_ne (by rw[HKD.out];omega)
 have q1':((kd:Int) ==1)=true:=by rw[HKD.out,h1];rfl
 have hk5:(tokL ts σ.at_).kind≠5:=by rw[h1];decide
 have TK:Hid (∀W,Hid (Rd W b g cap dv ts xb σ)→Hid (Box4 W A kd tx tv p)→Calls prog 48 #[.pointer (some ⟨b,0,none⟩),.string ⟨#[116,114,117,101]⟩] W fun r Y=>RdBox b g cap dv ts xb A kd tx tv p W (.bool false) σ a r Y):=Hd fun W h hx=>(took_false [116,114,117,101] ht W h).mono fun r Y hr=>hr.box (by first | exact HAA.out.symm | (rw[HAA.out];rfl)) hx hbA
 have FK:Hid (∀W,Hid (Rd W b g cap dv ts xb σ)→Hid (Box4 W A kd tx tv p)→Calls prog 48 #[.pointer (some ⟨b,0,none⟩),.string ⟨#[102,97,108,115,101]⟩] W fun r Y=>RdBox b g cap dv ts xb A kd tx tv p W (.bool false) σ a r Y):=Hd fun W h hx=>(took_false [102,97,108,115,101] hf W h).mono fun r Y hr=>hr.box (by first | exact HAA.out.symm | (rw[HAA.out];rfl)) hx hbA
 have IK:Hid (∀W,Hid (Rd W b g cap dv ts xb (stepS σ))→Hid (Box4 W A kd tx tv p)→Calls prog 48 #[.pointer (some ⟨b,0,none⟩),.string ⟨#[105,115]⟩] W fun r Y=>RdBox b g cap dv ts xb A kd tx tv p W (.bool false) (stepS σ) (a+1) r Y):=Hd fun W h hx=>(took_false [105,115] hi W h).mono fun r Y hr=>hr.box (by first | exact HAA.out.symm | (rw[HAA.out];rfl)) hx hbA
 have LK:Hid (∀W,Hid (Rd W b g cap dv ts xb (stepS σ))→Hid (Box4 W A kd tx tv p)→Calls prog 48 #[.pointer (some ⟨b,0,none⟩),.string ⟨#[40]⟩] W fun r Y=>RdBox b g cap dv ts xb A kd tx tv p W (.bool false) (stepS σ) (a+1) r Y):=Hd fun W h hx=>(took_false [40] hl' W h).mono fun r Y hr=>hr.box (by first | exact HAA.out.symm | (rw[HAA.out];rfl)) hx hbA
 have PU:Hid (∀W,Hid (Rd W b g cap dv ts xb (stepS σ))→Calls prog 50 #[.pointer (some ⟨b,0,none⟩),.agg #[.int .i64 3,.int .i64 0,.int .i64 0,.int .i64 0,.string (str tx),.string ⟨#[]⟩,.int .i64 0,.slice none 0 0,.int .i64 (p:Int)]] W fun r Y=>RdRet b g cap dv ts xb W (.int .i64 ((stepS σ).exprs.length:Int)) (putS { ex0 with kind:=3,name:=str tx,pos:=(p:Int) } (stepS σ)) r Y) :=
  Hd fun W h=>put_any b g cap dv ts xb (stepS σ) { ex0 with kind:=3,name:=str tx,pos:=(p:Int) } none 0 0 W h (okS_iff.1 ok).1 (Hd (qO _ _ _ _)) (Hd fun k hk=>by cases hk)
 clear ok ht hf h1 hi hl'
 go_enter Tryz.func84,Tryz.ntmps84
 go_wp2_with fail
 go_region_held3 (fun w'=>w'.cell? ⟨b,0,none⟩=some (.slice (some ⟨g,0,none⟩) n cap)∧w'.cell? ⟨b,1,none⟩=some (.int .i64 (a:Int))∧w'.cell? ⟨g,a*4,none⟩=some (.int .i64 (kd:Int))∧w'.cell? ⟨g,a*4+1,none⟩=some (.string (str tx))∧w'.cell? ⟨g,a*4+2,none⟩=some (.int .i64 tv)∧w'.cell? ⟨g,a*4+3,none⟩=some (.int .i64 (p:Int)))
  ((repeat' apply And.intro) <;> first | assumption | go_keep)
  (fail)
 rw[←hW1,←hA]
 clear hW1 hA t0 t1 t2 t3 c0 c1 c4 c5 c6 f1 f4 f5 f6 k0 hgs
 go_wp2_with (first
  | (go_at_call 48;(with_reducible refine(TK.out W1 HR1 HBX).mono ?_);rintro e w2 ⟨rfl,y0,y1,y3,yb,yf,HR2,HK2,HX2⟩)
  | (go_at_call 48;(with_reducible refine(FK.out w2 HR2 HX2).mono ?_);rintro e w3 ⟨rfl,y0,y1,y3,yb,yf,HR3,HK3,HX3⟩)
  | (go_at_call 48;(with_reducible refine(IK.out _ (rd_step HR3 hk5 HAA) (box_step HX3 hbA _)).mono ?_);rintro e w4 ⟨rfl,y0,y1,y3,yb,yf,HR4,HK4,HX4⟩)
  | (go_at_call 48;(with_reducible refine(LK.out w4 HR4 HX4).mono ?_);rintro e w5 ⟨rfl,y0,y1,y3,yb,yf,HR5,HK5,HX5⟩)
  | (go_at_call 50;(with_reducible refine(PU.out w5 HR5).mono ?_);rintro e w6 ⟨rfl,hr,hk⟩;have HR6:=Hd hr;have HK6:=Hd hk;clear hr hk))
 go_ret
 rw[←HP.out,←HTX.out]
 exact⟨rfl,HR6.out,HK1.out.trans (HK2.out.trans (HK3.out.trans ((RK.set 1 _).trans (HK4.out.trans (HK5.out.trans HK6.out)))))⟩
theorem atom_call0 (b g cap:Nat) (dv:Value) (ts:List Tok) (xb:Nat→Prop) (σ:RS) (W:World) (h:Hid (Rd W b g cap dv ts xb σ)) (_:(tokL ts σ.at_).kind≠2) (ht:isS ts [116,114,117,101] σ=false) (hf:isS ts [102,97,108,115,101] σ=false) (h1:(tokL ts σ.at_).kind=1) (hi:isS ts [105,115] (stepS σ)=false) (hl':isS ts [40] (stepS σ)=true) (hr':isS ts [41] (stepS (stepS σ))=true) (ok:okS (stepS (stepS (stepS σ)))=true) :
  Calls prog 84 #[.pointer (some ⟨b,0,none⟩)] W fun r Y=>RdRet b g cap dv ts xb W (.int .i64 (σ.exprs.length:Int)) (putS { ex0 with kind:=19,name:=str (tokL ts σ.at_).text,pos:=((tokL ts σ.at_).at_:Int) } (stepS (stepS (stepS σ)))) r Y:=by
 obtain⟨o,c,⟨c0,c1,c3,c4,c5,c6,fr⟩,hx⟩:=h.out.cells
 have ht:=h.out.tok
 have hgb:g≠b:=by have:=h.out.lt;omega
 have hl:=h.out.at_
 have hn:=h.out.len
 obtain⟨t0,t1,t2,t3⟩:=ht
 obtain⟨n,hnn⟩:∃n,n=ts.length:=⟨_,rfl⟩
 obtain⟨a,haa⟩:∃a,a=σ.at_:=⟨_,rfl⟩
 obtain⟨cd,hcd⟩:∃cd,cd=σ.code:=⟨_,rfl⟩
 obtain⟨ps,hps⟩:∃ps,ps=σ.pos:=⟨_,rfl⟩
 obtain⟨dp,hdp⟩:∃dp,dp=σ.deep:=⟨_,rfl⟩
 obtain⟨kd,hkd⟩:∃kd,kd=(tokL ts σ.at_).kind:=⟨_,rfl⟩
 obtain⟨tx,htx⟩:∃tx,tx=(tokL ts σ.at_).text:=⟨_,rfl⟩
 obtain⟨tv,htv⟩:∃tv,tv=(tokL ts σ.at_).v:=⟨_,rfl⟩
 obtain⟨p,hp⟩:∃p,p=(tokL ts σ.at_).at_:=⟨_,rfl⟩
 rw[←hnn] at c0 hl hn
 rw[←hkd] at t0
 rw[←htx] at t1
 rw[←htv] at t2
 rw[←hp] at t3
 rw[←haa] at c1 t0 t1 t2 t3 hl
 rw[←hcd] at c5
 rw[←hdp] at c4
 rw[←hps] at c6
 have k0:((a:Nat):Int)<(n:Int):=by omega
 have f1:=fr 1
 have f4:=fr 4
 have f5:=fr 5
 have f6:=fr 6
 have HCD:=Hd hcd
 have HPS:=Hd hps
 have HDP:=Hd hdp
 have HKD:=Hd hkd
 have HTX:=Hd htx
 have HTV:=Hd htv
 have HP:=Hd hp
 have HAA:=Hd haa
 have HNN:=Hd hnn
 clear fr hx hnn haa hcd hps hdp hkd htx htv hp c3
 have hgs:g<W.heap.size:=by have:=h.out.lt;have:=h.out.size;omega
 have hbs:b<W.heap.size:=h.out.size
 have ha4:(a:Int)≤40000:=by omega
 obtain⟨A,hA⟩:∃A,A=W.heap.size:=⟨_,rfl⟩
 obtain⟨W1,hW1⟩:∃W1,W1=(W.alloc (.cells #[.int .i64 (kd:Int),.string (str tx),.int .i64 tv,.int .i64 (p:Int)] 76)).drew:=⟨_,rfl⟩
 have hb1:Below W.heap.size W W1:=by rw[hW1];exact((qB W.heap.size W).alloc (qL _) _).drew
 have HBX:Hid (Box4 W1 A kd tx tv p):=Hd (by rw[hW1,hA];exact heap_alloc_new W _)
 have HR1:Hid (Rd W1 b g cap dv ts xb σ):=Hd (h.out.below hb1)
 have HK1:Hid (RK b W W1):=Hd (RK.of_below hb1 (ql hbs))
 have hbA:b≠A:=by omega
 have q1:=(hb1.cell (p:=⟨b,1,none⟩) hbs).trans c1
 have qf:=(hb1.frozen (p:=⟨b,1,none⟩) hbs).trans f1
 obtain⟨x0,x1,x2,x3⟩:=HBX.out.cells
 have HAW:=Hd hA
 clear hb1
 have q2:((kd:Int) ==2)=false:=beq_false_of_ne (by rw[HKD.out];omega)
 have q1':((kd:Int) ==1)=true:=by rw[HKD.out,h1];rfl
 have hk5:(tokL ts σ.at_).kind≠5:=by rw[h1];decide
 have TK:Hid (∀W,Hid (Rd W b g cap dv ts xb σ)→Hid (Box4 W A kd tx tv p)→Calls prog 48 #[.pointer (some ⟨b,0,none⟩),.string ⟨#[116,114,117,101]⟩] W fun r Y=>RdBox b g cap dv ts xb A kd tx tv p W (.bool false) σ a r Y):=Hd fun W h hx=>(took_false [116,114,117,101] ht W h).mono fun r Y hr=>hr.box (by first | exact HAA.out.symm | (rw[HAA.out];rfl)) hx hbA
 have FK:Hid (∀W,Hid (Rd W b g cap dv ts xb σ)→Hid (Box4 W A kd tx tv p)→Calls prog 48 #[.pointer (some ⟨b,0,none⟩),.string ⟨#[102,97,108,115,101]⟩] W fun r Y=>RdBox b g cap dv ts xb A kd tx tv p W (.bool false) σ a r Y):=Hd fun W h hx=>(took_false [102,97,108,115,101] hf W h).mono fun r Y hr=>hr.box (by first | exact HAA.out.symm | (rw[HAA.out];rfl)) hx hbA
 have IK:Hid (∀W,Hid (Rd W b g cap dv ts xb (stepS σ))→Hid (Box4 W A kd tx tv p)→Calls prog 48 #[.pointer (some ⟨b,0,none⟩),.string ⟨#[105,115]⟩] W fun r Y=>RdBox b g cap dv ts xb A kd tx tv p W (.bool false) (stepS σ) (a+1) r Y):=Hd fun W h hx=>(took_false [105,115] hi W h).mono fun r Y hr=>hr.box (by first | exact HAA.out.symm | (rw[HAA.out];rfl)) hx hbA
 have LK:Hid (∀W,Hid (Rd W b g cap dv ts xb (stepS σ))→Hid (Box4 W A kd tx tv p)→Calls prog 48 #[.pointer (some ⟨b,0,none⟩),.string ⟨#[40]⟩] W fun r Y=>RdBox b g cap dv ts xb A kd tx tv p W (.bool true) (stepS (stepS σ)) (a+1+1) r Y):=Hd fun W h hx=>(took_true [40] hl' W h).mono fun r Y hr=>hr.box (by first | exact HAA.out.symm | (rw[HAA.out];rfl)) hx hbA
 have RP:Hid (∀W,Hid (Rd W b g cap dv ts xb (stepS (stepS σ)))→Hid (Box4 W A kd tx tv p)→Calls prog 48 #[.pointer (some ⟨b,0,none⟩),.string ⟨#[41]⟩] W fun r Y=>RdBox b g cap dv ts xb A kd tx tv p W (.bool true) (stepS (stepS (stepS σ))) (a+1+1+1) r Y):=Hd fun W h hx=>(took_true [41] hr' W h).mono fun r Y hr=>hr.box (by first | exact HAA.out.symm | (rw[HAA.out];rfl)) hx hbA
 have PU:Hid (∀W,Hid (Rd W b g cap dv ts xb (stepS (stepS (stepS σ))))→Calls prog 50 #[.pointer (some ⟨b,0,none⟩),.agg #[.int .i64 19,.int .i64 0,.int .i64 0,.int .i64 0,.string (str tx),.string ⟨#[]⟩,.int .i64 0,.slice none 0 0,.int .i64 (p:Int)]] W fun r Y=>RdRet b g cap dv ts xb W (.int .i64 ((stepS (stepS (stepS σ))).exprs.length:Int)) (putS { ex0 with kind:=19,name:=str tx,pos:=(p:Int) } (stepS (stepS (stepS σ)))) r Y) :=
  Hd fun W h=>put_any b g cap dv ts xb (stepS (stepS (stepS σ))) { ex0 with kind:=19,name:=str tx,pos:=(p:Int) } none 0 0 W h (okS_iff.1 ok).1 (Hd (qO _ _ _ _)) (Hd fun k hk=>by cases hk)
 clear ok ht hf h1 hi hl' hr'
 go_enter Tryz.func84,Tryz.ntmps84
 go_wp2_with fail
 go_region_held3 (fun w'=>w'.cell? ⟨b,0,none⟩=some (.slice (some ⟨g,0,none⟩) n cap)∧w'.cell? ⟨b,1,none⟩=some (.int .i64 (a:Int))∧w'.cell? ⟨g,a*4,none⟩=some (.int .i64 (kd:Int))∧w'.cell? ⟨g,a*4+1,none⟩=some (.string (str tx))∧w'.cell? ⟨g,a*4+2,none⟩=some (.int .i64 tv)∧w'.cell? ⟨g,a*4+3,none⟩=some (.int .i64 (p:Int)))
  ((repeat' apply And.intro) <;> first | assumption | go_keep)
  (fail)
 rw[←hW1,←hA]
 clear hW1 hA t0 t1 t2 t3 c0 c1 c4 c5 c6 f1 f4 f5 f6 k0 hgs
 go_wp2_with (first
  | (go_at_call 48;(with_reducible refine(TK.out W1 HR1 HBX).mono ?_);rintro e w2 ⟨rfl,y0,y1,y3,yb,yf,HR2,HK2,HX2⟩)
  | (go_at_call 48;(with_reducible refine(FK.out w2 HR2 HX2).mono ?_);rintro e w3 ⟨rfl,y0,y1,y3,yb,yf,HR3,HK3,HX3⟩)
  | (go_at_call 48;(with_reducible refine(IK.out _ (rd_step HR3 hk5 HAA) (box_step HX3 hbA _)).mono ?_);rintro e w4 ⟨rfl,y0,y1,y3,yb,yf,HR4,HK4,HX4⟩)
  | (go_at_call 48;(with_reducible refine(LK.out w4 HR4 HX4).mono ?_);rintro e w5 ⟨rfl,y0,y1,y3,yb,yf,HR5,HK5,HX5⟩)
  | (go_at_call 48;(with_reducible refine(RP.out w5 HR5 HX5).mono ?_);rintro e w6 ⟨rfl,y0,y1,y3,yb,yf,HR6,HK6,HX6⟩)
  | (go_at_call 50;(with_reducible refine(PU.out w6 HR6).mono ?_);rintro e w7 ⟨rfl,hr,hk⟩;have HR7:=Hd hr;have HK7:=Hd hk;clear hr hk))
 go_ret
 rw[←HP.out,←HTX.out]
 exact⟨rfl,HR7.out,HK1.out.trans (HK2.out.trans (HK3.out.trans ((RK.set 1 _).trans (HK4.out.trans (HK5.out.trans (HK6.out.trans HK7.out))))))⟩
theorem atom_par (b g cap:Nat) (dv:Value) (ts:List Tok) (xb:Nat→Prop) (σ:RS) (W:World) (h:Hid (Rd W b g cap dv ts xb σ)) (f:Nat) (IH:Hid (FC b g cap dv ts xb f)) (h2:(tokL ts σ.at_).kind≠2) (ht:isS ts [116,114,117,101] σ=false) (hf:isS ts [102,97,108,115,101] σ=false) (h1:(tokL ts σ.at_).kind≠1) (v:Int) (l:List Int) (y:RS) (r1:Hid (runE ts f .expr (wantS ts [40] σ)=some (v,l,y))) :
  Calls prog 84 #[.pointer (some ⟨b,0,none⟩)] W fun r Y=>RdRet b g cap dv ts xb W (.int .i64 v) (wantS ts [41] y) r Y:=by
 obtain⟨o,c,⟨c0,c1,c3,c4,c5,c6,fr⟩,hx⟩:=h.out.cells
 have ht:=h.out.tok
 have hgb:g≠b:=by have:=h.out.lt;omega
 have hl:=h.out.at_
 have hn:=h.out.len
 obtain⟨t0,t1,t2,t3⟩:=ht
 obtain⟨n,hnn⟩:∃n,n=ts.length:=⟨_,rfl⟩
 obtain⟨a,haa⟩:∃a,a=σ.at_:=⟨_,rfl⟩
 obtain⟨cd,hcd⟩:∃cd,cd=σ.code:=⟨_,rfl⟩
 obtain⟨ps,hps⟩:∃ps,ps=σ.pos:=⟨_,rfl⟩
 obtain⟨dp,hdp⟩:∃dp,dp=σ.deep:=⟨_,rfl⟩
 obtain⟨kd,hkd⟩:∃kd,kd=(tokL ts σ.at_).kind:=⟨_,rfl⟩
 obtain⟨tx,htx⟩:∃tx,tx=(tokL ts σ.at_).text:=⟨_,rfl⟩
 obtain⟨tv,htv⟩:∃tv,tv=(tokL ts σ.at_).v:=⟨_,rfl⟩
 obtain⟨p,hp⟩:∃p,p=(tokL ts σ.at_).at_:=⟨_,rfl⟩
 rw[←hnn] at c0 hl hn
 rw[←hkd] at t0
 rw[←htx] at t1
 rw[←htv] at t2
 rw[←hp] at t3
 rw[←haa] at c1 t0 t1 t2 t3 hl
 rw[←hcd] at c5
 rw[←hdp] at c4
 rw[←hps] at c6
 have k0:((a:Nat):Int)<(n:Int):=by omega
 have f1:=fr 1
 have f4:=fr 4
 have f5:=fr 5
 have f6:=fr 6
 have HCD:=Hd hcd
 have HPS:=Hd hps
 have HDP:=Hd hdp
 have HKD:=Hd hkd
 have HTX:=Hd htx
 have HTV:=Hd htv
 have HP:=Hd hp
 have HAA:=Hd haa
 have HNN:=Hd hnn
 clear fr hx hnn haa hcd hps hdp hkd htx htv hp c3
 have hgs:g<W.heap.size:=by have:=h.out.lt;have:=h.out.size;omega
 have hbs:b<W.heap.size:=h.out.size
 have ha4:(a:Int)≤40000:=by omega
 obtain⟨A,hA⟩:∃A,A=W.heap.size:=⟨_,rfl⟩
 obtain⟨W1,hW1⟩:∃W1,W1=(W.alloc (.cells #[.int .i64 (kd:Int),.string (str tx),.int .i64 tv,.int .i64 (p:Int)] 76)).drew:=⟨_,rfl⟩
 have hb1:Below W.heap.size W W1:=by rw[hW1];exact((qB W.heap.size W).alloc (qL _) _).drew
 have HBX:Hid (Box4 W1 A kd tx tv p):=Hd (by rw[hW1,hA];exact heap_alloc_new W _)
 have HR1:Hid (Rd W1 b g cap dv ts xb σ):=Hd (h.out.below hb1)
 have HK1:Hid (RK b W W1):=Hd (RK.of_below hb1 (ql hbs))
 have hbA:b≠A:=by omega
 have q1:=(hb1.cell (p:=⟨b,1,none⟩) hbs).trans c1
 have qf:=(hb1.frozen (p:=⟨b,1,none⟩) hbs).trans f1
 obtain⟨x0,x1,x2,x3⟩:=HBX.out.cells
 have HAW:=Hd hA
 clear hb1
 have q2:((kd:Int) ==2)=false:=beq_false_of_ne (by rw[HKD.out];omega)
 have q1':((kd:Int) ==1)=false:=beq_false_of_ne (by rw[HKD.out];omega)
 have TK:Hid (∀W,Hid (Rd W b g cap dv ts xb σ)→Hid (Box4 W A kd tx tv p)→Calls prog 48 #[.pointer (some ⟨b,0,none⟩),.string ⟨#[116,114,117,101]⟩] W fun r Y=>RdBox b g cap dv ts xb A kd tx tv p W (.bool false) σ a r Y):=Hd fun W h hx=>(took_false [116,114,117,101] ht W h).mono fun r Y hr=>hr.box (by first | exact HAA.out.symm | (rw[HAA.out];rfl)) hx hbA
 have FK:Hid (∀W,Hid (Rd W b g cap dv ts xb σ)→Hid (Box4 W A kd tx tv p)→Calls prog 48 #[.pointer (some ⟨b,0,none⟩),.string ⟨#[102,97,108,115,101]⟩] W fun r Y=>RdBox b g cap dv ts xb A kd tx tv p W (.bool false) σ a r Y):=Hd fun W h hx=>(took_false [102,97,108,115,101] hf W h).mono fun r Y hr=>hr.box (by first | exact HAA.out.symm | (rw[HAA.out];rfl)) hx hbA
 have E1:=Hd (IH.out.expr _ _ _ _ r1.out)
 have A1:Hid (∀W,Hid (Rd W b g cap dv ts xb σ)→Calls prog 49 #[.pointer (some ⟨b,0,none⟩),.string ⟨#[40]⟩] W fun r Y=>RdRet b g cap dv ts xb W (.tuple #[]) (wantS ts [40] σ) r Y):=Hd fun W h=>want_any b g cap dv ts xb σ [40] W h
 have A2:Hid (∀W,Hid (Rd W b g cap dv ts xb y)→Calls prog 49 #[.pointer (some ⟨b,0,none⟩),.string ⟨#[41]⟩] W fun r Y=>RdRet b g cap dv ts xb W (.tuple #[]) (wantS ts [41] y) r Y):=Hd fun W h=>want_any b g cap dv ts xb y [41] W h
 clear h2 ht hf h1
 go_enter Tryz.func84,Tryz.ntmps84
 go_wp2_with fail
 go_region_held3 (fun w'=>w'.cell? ⟨b,0,none⟩=some (.slice (some ⟨g,0,none⟩) n cap)∧w'.cell? ⟨b,1,none⟩=some (.int .i64 (a:Int))∧w'.cell? ⟨g,a*4,none⟩=some (.int .i64 (kd:Int))∧w'.cell? ⟨g,a*4+1,none⟩=some (.string (str tx))∧w'.cell? ⟨g,a*4+2,none⟩=some (.int .i64 tv)∧w'.cell? ⟨g,a*4+3,none⟩=some (.int .i64 (p:Int)))
  ((repeat' apply And.intro) <;> first | assumption | go_keep)
  (fail)
 rw[←hW1,←hA]
 clear hW1 hA t0 t1 t2 t3 c0 c1 c4 c5 c6 f1 f4 f5 f6 k0 hgs
 go_wp2_with (first
  | (go_at_call 48;(with_reducible refine(TK.out W1 HR1 HBX).mono ?_);rintro e w2 ⟨rfl,y0,y1,y3,yb,yf,HR2,HK2,HX2⟩)
  | (go_at_call 48;(with_reducible refine(FK.out w2 HR2 HX2).mono ?_);rintro e w3 ⟨rfl,y0,y1,y3,yb,yf,HR3,HK3,HX3⟩)
  | (go_at_call 49;(with_reducible refine(A1.out w3 HR3).mono ?_);rintro e w4 ⟨rfl,hr,hk⟩;have HR4:=Hd hr;have HK4:=Hd hk;clear hr hk)
  | (go_at_call 26;(with_reducible refine(E1.out w4 HR4).mono ?_);rintro e w5 ⟨rfl,hr,hk⟩;have HR5:=Hd hr;have HK5:=Hd hk;clear hr hk)
  | (go_at_call 49;(with_reducible refine(A2.out w5 HR5).mono ?_);rintro e w6 ⟨rfl,hr,hk⟩;have HR6:=Hd hr;have HK6:=Hd hk;clear hr hk))
 go_ret
 exact⟨rfl,HR6.out,HK1.out.trans (HK2.out.trans (HK3.out.trans (HK4.out.trans (HK5.out.trans HK6.out))))⟩
theorem atom_is (b g cap:Nat) (dv:Value) (ts:List Tok) (xb:Nat→Prop) (σ:RS) (W:World) (h:Hid (Rd W b g cap dv ts xb σ)) (_:(tokL ts σ.at_).kind≠2) (ht:isS ts [116,114,117,101] σ=false) (hf:isS ts [102,97,108,115,101] σ=false) (h1:(tokL ts σ.at_).kind=1) (hi:isS ts [105,115] (stepS σ)=true) (ok:okS (nameS ts (stepS (stepS σ)))=true) :
  Calls prog 84 #[.pointer (some ⟨b,0,none⟩)] W fun r Y=>RdRet b g cap dv ts xb W (.int .i64 ((nameS ts (stepS (stepS σ))).exprs.length:Int)) (putS { ex0 with kind:=20,name:=str (tokL ts σ.at_).text,state:=str (nameV ts (stepS (stepS σ))),pos:=((tokL ts σ.at_).at_:Int) } (nameS ts (stepS (stepS σ)))) r Y:=by
 obtain⟨o,c,⟨c0,c1,c3,c4,c5,c6,fr⟩,hx⟩:=h.out.cells
 have ht:=h.out.tok
 have hgb:g≠b:=by have:=h.out.lt;omega
 have hl:=h.out.at_
 have hn:=h.out.len
 obtain⟨t0,t1,t2,t3⟩:=ht
 obtain⟨n,hnn⟩:∃n,n=ts.length:=⟨_,rfl⟩
 obtain⟨a,haa⟩:∃a,a=σ.at_:=⟨_,rfl⟩
 obtain⟨cd,hcd⟩:∃cd,cd=σ.code:=⟨_,rfl⟩
 obtain⟨ps,hps⟩:∃ps,ps=σ.pos:=⟨_,rfl⟩
 obtain⟨dp,hdp⟩:∃dp,dp=σ.deep:=⟨_,rfl⟩
 obtain⟨kd,hkd⟩:∃kd,kd=(tokL ts σ.at_).kind:=⟨_,rfl⟩
 obtain⟨tx,htx⟩:∃tx,tx=(tokL ts σ.at_).text:=⟨_,rfl⟩
 obtain⟨tv,htv⟩:∃tv,tv=(tokL ts σ.at_).v:=⟨_,rfl⟩
 obtain⟨p,hp⟩:∃p,p=(tokL ts σ.at_).at_:=⟨_,rfl⟩
 rw[←hnn] at c0 hl hn
 rw[←hkd] at t0
 rw[←htx] at t1
 rw[←htv] at t2
 rw[←hp] at t3
 rw[←haa] at c1 t0 t1 t2 t3 hl
 rw[←hcd] at c5
 rw[←hdp] at c4
 rw[←hps] at c6
 have k0:((a:Nat):Int)<(n:Int):=by omega
 have f1:=fr 1
 have f4:=fr 4
 have f5:=fr 5
 have f6:=fr 6
 have HCD:=Hd hcd
 have HPS:=Hd hps
 have HDP:=Hd hdp
 have HKD:=Hd hkd
 have HTX:=Hd htx
 have HTV:=Hd htv
 have HP:=Hd hp
 have HAA:=Hd haa
 have HNN:=Hd hnn
 clear fr hx hnn haa hcd hps hdp hkd htx htv hp c3
 have hgs:g<W.heap.size:=by have:=h.out.lt;have:=h.out.size;omega
 have hbs:b<W.heap.size:=h.out.size
 have ha4:(a:Int)≤40000:=by omega
 obtain⟨A,hA⟩:∃A,A=W.heap.size:=⟨_,rfl⟩
 obtain⟨W1,hW1⟩:∃W1,W1=(W.alloc (.cells #[.int .i64 (kd:Int),.string (str tx),.int .i64 tv,.int .i64 (p:Int)] 76)).drew:=⟨_,rfl⟩
 have hb1:Below W.heap.size W W1:=by rw[hW1];exact((qB W.heap.size W).alloc (qL _) _).drew
 have HBX:Hid (Box4 W1 A kd tx tv p):=Hd (by rw[hW1,hA];exact heap_alloc_new W _)
 have HR1:Hid (Rd W1 b g cap dv ts xb σ):=Hd (h.out.below hb1)
 have HK1:Hid (RK b W W1):=Hd (RK.of_below hb1 (ql hbs))
 have hbA:b≠A:=by omega
 have q1:=(hb1.cell (p:=⟨b,1,none⟩) hbs).trans c1
 have qf:=(hb1.frozen (p:=⟨b,1,none⟩) hbs).trans f1
 obtain⟨x0,x1,x2,x3⟩:=HBX.out.cells
 have HAW:=Hd hA
 clear hb1
 have q2:((kd:Int) ==2)=false:=beq_false_of_ne (by rw[HKD.out,h1];decide)
 have q1':((kd:Int) ==1)=true:=by rw[HKD.out,h1];rfl
 have hk5:(tokL ts σ.at_).kind≠5:=by rw[h1];decide
 have TK:Hid (∀W,Hid (Rd W b g cap dv ts xb σ)→Hid (Box4 W A kd tx tv p)→Calls prog 48 #[.pointer (some ⟨b,0,none⟩),.string ⟨#[116,114,117,101]⟩] W fun r Y=>RdBox b g cap dv ts xb A kd tx tv p W (.bool false) σ a r Y):=Hd fun W h hx=>(took_false [116,114,117,101] ht W h).mono fun r Y hr=>hr.box (by first | exact HAA.out.symm | (rw[HAA.out];rfl)) hx hbA
 have FK:Hid (∀W,Hid (Rd W b g cap dv ts xb σ)→Hid (Box4 W A kd tx tv p)→Calls prog 48 #[.pointer (some ⟨b,0,none⟩),.string ⟨#[102,97,108,115,101]⟩] W fun r Y=>RdBox b g cap dv ts xb A kd tx tv p W (.bool false) σ a r Y):=Hd fun W h hx=>(took_false [102,97,108,115,101] hf W h).mono fun r Y hr=>hr.box (by first | exact HAA.out.symm | (rw[HAA.out];rfl)) hx hbA
 have IK:Hid (∀W,Hid (Rd W b g cap dv ts xb (stepS σ))→Hid (Box4 W A kd tx tv p)→Calls prog 48 #[.pointer (some ⟨b,0,none⟩),.string ⟨#[105,115]⟩] W fun r Y=>RdBox b g cap dv ts xb A kd tx tv p W (.bool true) (stepS (stepS σ)) (a+1+1) r Y):=Hd fun W h hx=>(took_true [105,115] hi W h).mono fun r Y hr=>hr.box (by first | exact HAA.out.symm | (rw[HAA.out];rfl)) hx hbA
 obtain⟨τ,hτ⟩:∃τ,τ=nameS ts (stepS (stepS σ)):=⟨_,rfl⟩
 obtain⟨NV,hNV⟩:∃NV,NV=str (nameV ts (stepS (stepS σ))):=⟨_,rfl⟩
 rw[←hτ] at ok
 rw[←hτ,←hNV]
 have NA:Hid (∀W,Hid (Rd W b g cap dv ts xb (stepS (stepS σ)))→Hid (Box4 W A kd tx tv p)→Calls prog 53 #[.pointer (some ⟨b,0,none⟩)] W fun r Y=>RdBox b g cap dv ts xb A kd tx tv p W (.string NV) τ τ.at_ r Y):=Hd fun W h hx=>(name_any b g cap dv ts xb (stepS (stepS σ)) W h).mono fun r Y hr=>by
  rw[←hτ,←hNV] at hr
  exact hr.box rfl hx hbA
 have PU:Hid (∀W,Hid (Rd W b g cap dv ts xb τ)→Hid (Box4 W A kd tx tv p)→Calls prog 50 #[.pointer (some ⟨b,0,none⟩),.agg #[.int .i64 20,.int .i64 0,.int .i64 0,.int .i64 0,.string (str tx),.string NV,.int .i64 0,.slice none 0 0,.int .i64 (p:Int)]] W fun r Y=>RdBox b g cap dv ts xb A kd tx tv p W (.int .i64 (τ.exprs.length:Int)) (putS { ex0 with kind:=20,name:=str tx,state:=NV,pos:=(p:Int) } τ) τ.at_ r Y) :=
  Hd fun W h hx=>(put_any b g cap dv ts xb τ { ex0 with kind:=20,name:=str tx,state:=NV,pos:=(p:Int) } none 0 0 W h (okS_iff.1 ok).1 (Hd (qO _ _ _ _)) (Hd fun k hk=>by cases hk)).mono fun r Y hr=>hr.box rfl hx hbA
 clear ok ht hf h1 hi hτ hNV
 go_enter Tryz.func84,Tryz.ntmps84
 go_wp2_with fail
 go_region_held3 (fun w'=>w'.cell? ⟨b,0,none⟩=some (.slice (some ⟨g,0,none⟩) n cap)∧w'.cell? ⟨b,1,none⟩=some (.int .i64 (a:Int))∧w'.cell? ⟨g,a*4,none⟩=some (.int .i64 (kd:Int))∧w'.cell? ⟨g,a*4+1,none⟩=some (.string (str tx))∧w'.cell? ⟨g,a*4+2,none⟩=some (.int .i64 tv)∧w'.cell? ⟨g,a*4+3,none⟩=some (.int .i64 (p:Int)))
  ((repeat' apply And.intro) <;> first | assumption | go_keep)
  (fail)
 rw[←hW1,←hA]
 clear hW1 hA t0 t1 t2 t3 c0 c1 c4 c5 c6 f1 f4 f5 f6 k0 hgs
 go_wp2_with (first
  | (go_at_call 48;(with_reducible refine(TK.out W1 HR1 HBX).mono ?_);rintro e w2 ⟨rfl,y0,y1,y3,yb,yf,HR2,HK2,HX2⟩)
  | (go_at_call 48;(with_reducible refine(FK.out w2 HR2 HX2).mono ?_);rintro e w3 ⟨rfl,y0,y1,y3,yb,yf,HR3,HK3,HX3⟩)
  | (go_at_call 48;(with_reducible refine(IK.out _ (rd_step HR3 hk5 HAA) (box_step HX3 hbA _)).mono ?_);rintro e w4 ⟨rfl,y0,y1,y3,yb,yf,HR4,HK4,HX4⟩))
 go_region_held3 (fun w'=>w'.cell? ⟨A,1,none⟩=some (.string (str tx))∧w'.cell? ⟨A,3,none⟩=some (.int .i64 (p:Int)))
  ((repeat' apply And.intro) <;> first | assumption | go_keep)
  (first
  | (go_at_call 53;(with_reducible refine(NA.out _ (rd_drew HR4) (box_drew HX4)).mono ?_);rintro e w5 ⟨rfl,z0,z1,z3,zb,zf,HR5,HK5,HX5⟩)
  | (go_at_call 50;(with_reducible refine(PU.out w5 HR5 HX5).mono ?_);rintro e w6 ⟨rfl,u0,u1,u3,ub,uf,HR6,HK6,HX6⟩))
 go_wp2_with fail
 go_ret
 rw[←HP.out,←HTX.out]
 exact⟨rfl,HR6.out,HK1.out.trans (HK2.out.trans (HK3.out.trans ((RK.set 1 _).trans (HK4.out.trans ((RK.of_below (qB _ _).drew (ql HR4.out.size)).trans (HK5.out.trans HK6.out))))))⟩
end Go.Proofs.YthpgfahlccljnaaGreatDoor
