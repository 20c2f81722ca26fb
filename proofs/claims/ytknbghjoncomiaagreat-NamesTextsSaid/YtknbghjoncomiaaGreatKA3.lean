/- Joined: RdAtom, RdAtom2, RdArgs, RdArgsW, RdPre, RdBinW, RdAll, RdParse. -/
import Derived.Test.YtknbghjoncomiaaGreatKA2
import Derived.Deep.AppendLies
namespace Go.Proofs.YtknbghjoncomiaaGreat
section
open Go.Lib (hid)
open Go.RowKit Lx
set_option maxHeartbeats 8000000
theorem NoEx.tok {cs:Array Value}:NoEx (.cells cs 49 (0,0)):=fun cs' h=>by cases h
def Box4 (W:World) (A kd:Nat) (tx:List UInt8) (tv:Int) (p:Nat):Prop:=W.heap[A]? = some (.cells #[.int .i64 (kd:Int),.string (str tx),.int .i64 tv,.int .i64 (p:Int)] 49 (0,0))
def QBg (b g cap:Nat) (dv:Value) (ts:List Tok) (xb:Nat→Prop) (A kd:Nat) (tx:List UInt8) (tv:Int) (p:Nat) (W:World) (v:Value) (σ:RS) (n:Nat) (r:Ending) (Y:World):Prop :=
 r = .returned v∧Y.cell? ⟨A,0,none⟩ = some (.int .i64 (kd:Int))∧Y.cell? ⟨A,1,none⟩ = some (.string (str tx))∧Y.cell? ⟨A,3,none⟩ = some (.int .i64 (p:Int))∧Y.cell? ⟨b,1,none⟩ = some (.int .i64 (n:Int))∧Y.frozen? ⟨b,1,none⟩ = false ∧
  Hid (Rd Y b g cap dv ts xb σ)∧Hid (RK b W Y)∧Hid (Box4 Y A kd tx tv p)
theorem Box4.cells {W:World} {A kd:Nat} {tx:List UInt8} {tv:Int} {p:Nat} (h:Box4 W A kd tx tv p):W.cell? ⟨A,0,none⟩ = some (.int .i64 (kd:Int))∧W.cell? ⟨A,1,none⟩ = some (.string (str tx))∧W.cell? ⟨A,2,none⟩ = some (.int .i64 tv)∧W.cell? ⟨A,3,none⟩ = some (.int .i64 (p:Int)):=by
 unfold Box4 at h
 exact ⟨by simp [World.cell?,h],by simp [World.cell?,h],by simp [World.cell?,h],by simp [World.cell?,h]⟩
theorem Box4.keep {b:Nat} {W Y:World} {A kd:Nat} {tx:List UInt8} {tv:Int} {p:Nat} (h:Box4 W A kd tx tv p) (hk:RK b W Y) (hb:b≠A):Box4 Y A kd tx tv p:=hk.keep A _ h (Ne.symm hb) .tok
theorem RdRet.box {b g cap:Nat} {dv:Value} {ts:List Tok} {xb:Nat→Prop} {A kd:Nat} {tx:List UInt8} {tv:Int} {p:Nat} {W:World} {v:Value} {σ:RS} {n:Nat} {r:Ending} {Y:World} (h:RdRet b g cap dv ts xb W v σ r Y) (hn:σ.at_ = n) (hb:Hid (Box4 W A kd tx tv p)) (hbA:b≠A):QBg b g cap dv ts xb A kd tx tv p W v σ n r Y:=by
 obtain ⟨h1,h2,h3⟩:=h
 obtain ⟨o,c,hc,_⟩:=h2.cells
 have hx:=hb.out.keep h3 hbA
 obtain ⟨x0,x1,_,x3⟩:=hx.cells
 exact ⟨h1,x0,x1,x3,hc.c1.trans (by rw [hn]),hc.fr 1,hid h2,hid h3,hid hx⟩
theorem QGi {b g cap:Nat} {dv:Value} {ts:List Tok} {xb:Nat→Prop} {σ:RS} {W:World} {a:Nat} (h:Hid (Rd W b g cap dv ts xb σ)) (hk:(QA9 ts σ.at_).kind≠5) (ha:Hid (a = σ.at_)):Hid (Rd (W.setCell ⟨b,1,none⟩ (.int .i64 ((a:Int)+1))) b g cap dv ts xb (QA0 σ)) :=
 hid (by rw [ha.out];exact h.out.setAt hk)
theorem rd_drew {b g cap:Nat} {dv:Value} {ts:List Tok} {xb:Nat→Prop} {σ:RS} {W:World} (h:Hid (Rd W b g cap dv ts xb σ)):Hid (Rd W.drew b g cap dv ts xb σ):=hid (h.out.below (Below.refl _ _).drew)
theorem RK.drew {b:Nat} {W Y:World} (h:RK b W Y) (hb:b≤W.heap.size):RK b W Y.drew:=h.trans (RK.of_below (Below.refl _ _).drew (Nat.le_trans hb h.size))
theorem QN8 {W:World} {A kd:Nat} {tx:List UInt8} {tv:Int} {p:Nat} (h:Hid (Box4 W A kd tx tv p)):Hid (Box4 W.drew A kd tx tv p):=h
theorem Box4.set {W:World} {A kd:Nat} {tx:List UInt8} {tv:Int} {p:Nat} (h:Box4 W A kd tx tv p) {b:Nat} (hb:b≠A) (i:Nat) (v:Value):Box4 (W.setCell ⟨b,i,none⟩ v) A kd tx tv p:=(Below.heap_setCell W ⟨b,i,none⟩ v A (by simpa using Ne.symm hb)).trans h
theorem QEb {b:Nat} {W:World} {A kd:Nat} {tx:List UInt8} {tv:Int} {p:Nat} (h:Hid (Box4 W A kd tx tv p)) (hb:b≠A) (v:Value):Hid (Box4 (W.setCell ⟨b,1,none⟩ v) A kd tx tv p):=hid (h.out.set hb 1 v)
set_option maxRecDepth 100000 in
theorem QN5 (b g cap:Nat) (dv:Value) (ts:List Tok) (xb:Nat→Prop) (σ:RS) (W:World) (h:Hid (Rd W b g cap dv ts xb σ)) (h2:(QA9 ts σ.at_).kind = 2) (ok:okS (QA0 σ) = true) :
  Calls Tryz.prog 87 #[.pointer (some ⟨b,0,none⟩)] W fun r Y=>RdRet b g cap dv ts xb W (.int .i64 (σ.exprs.length:Int)) (QBQ { ex0 with kind:=1,v:=(QA9 ts σ.at_).v,pos:=((QA9 ts σ.at_).at_:Int) } (QA0 σ)) r Y:=by
 obtain ⟨o,c,⟨c0,c1,c3,c4,c5,c6,fr⟩,hx⟩:=h.out.cells
 have ht:=h.out.tok
 have hgb:g≠b:=by have:=h.out.lt;omega
 have hl:=h.out.at_
 have hn:=h.out.len
 obtain ⟨t0,t1,t2,t3⟩:=ht
 obtain ⟨n,hnn⟩:∃ n,n = ts.length:=⟨_,rfl⟩
 obtain ⟨a,haa⟩:∃ a,a = σ.at_:=⟨_,rfl⟩
 obtain ⟨cd,hcd⟩:∃ cd,cd = σ.code:=⟨_,rfl⟩
 obtain ⟨ps,hps⟩:∃ ps,ps = σ.pos:=⟨_,rfl⟩
 obtain ⟨dp,hdp⟩:∃ dp,dp = σ.deep:=⟨_,rfl⟩
 obtain ⟨kd,hkd⟩:∃ kd,kd = (QA9 ts σ.at_).kind:=⟨_,rfl⟩
 obtain ⟨tx,htx⟩:∃ tx,tx = (QA9 ts σ.at_).text:=⟨_,rfl⟩
 obtain ⟨tv,htv⟩:∃ tv,tv = (QA9 ts σ.at_).v:=⟨_,rfl⟩
 obtain ⟨p,hp⟩:∃ p,p = (QA9 ts σ.at_).at_:=⟨_,rfl⟩
 rw [← hnn] at c0 hl hn
 rw [← hkd] at t0
 rw [← htx] at t1
 rw [← htv] at t2
 rw [← hp] at t3
 rw [← haa] at c1 t0 t1 t2 t3 hl
 rw [← hcd] at c5
 rw [← hdp] at c4
 rw [← hps] at c6
 have k0:((a:Nat):Int) < (n:Int):=by omega
 have f1:=fr 1
 have f4:=fr 4
 have f5:=fr 5
 have f6:=fr 6
 have HCD:=hid hcd
 have HPS:=hid hps
 have HDP:=hid hdp
 have HKD:=hid hkd
 have HTX:=hid htx
 have HTV:=hid htv
 have HP:=hid hp
 have HAA:=hid haa
 have HNN:=hid hnn
 clear fr hx hnn haa hcd hps hdp hkd htx htv hp c3
 have hgs:g < W.heap.size:=by have:=h.out.lt;have:=h.out.size;omega
 have hbs:b < W.heap.size:=h.out.size
 have ha4:(a:Int)≤40000:=by omega
 obtain ⟨A,hA⟩:∃ A,A = W.heap.size:=⟨_,rfl⟩
 obtain ⟨W1,hW1⟩:∃ W1,W1 = (W.alloc (.cells #[.int .i64 (kd:Int),.string (str tx),.int .i64 tv,.int .i64 (p:Int)] 49)).drew:=⟨_,rfl⟩
 have hb1:Below W.heap.size W W1:=by rw [hW1];exact ((Below.refl W.heap.size W).alloc (Nat.le_refl _) _).drew
 have HBX:Hid (Box4 W1 A kd tx tv p):=hid (by rw [hW1,hA];exact heap_alloc_new W _)
 have HR1:Hid (Rd W1 b g cap dv ts xb σ):=hid (h.out.below hb1)
 have HK1:Hid (RK b W W1):=hid (RK.of_below hb1 (Nat.le_of_lt hbs))
 have hbA:b≠A:=by omega
 have q1:=(hb1.cell (p:=⟨b,1,none⟩) hbs).trans c1
 have qf:=(hb1.frozen (p:=⟨b,1,none⟩) hbs).trans f1
 obtain ⟨x0,x1,x2,x3⟩:=HBX.out.cells
 have HAW:=hid hA
 clear hb1
 have q2:((kd:Int) == 2) = true:=by rw [HKD.out,h2];rfl
 obtain ⟨V,hV⟩:∃ V,V = W1.setCell ⟨b,1,none⟩ (.int .i64 ((a:Int)+1)):=⟨_,rfl⟩
 have HRV:Hid (Rd V b g cap dv ts xb (QA0 σ)):=hid (by rw [hV,HAA.out];exact HR1.out.setAt (by rw [h2];decide))
 have HKV:Hid (RK b W1 V):=hid (by rw [hV];exact RK.set 1 _)
 have HXV:Hid (Box4 V A kd tx tv p):=hid (by rw [hV];exact HBX.out.set hbA _ _)
 obtain ⟨v0,v1,v2,v3⟩:=HXV.out.cells
 have HVV:=hid hV
 have PU:Hid (∀ W,Hid (Rd W b g cap dv ts xb (QA0 σ))→Calls Tryz.prog 28 #[.pointer (some ⟨b,0,none⟩),.agg #[.int .i64 1,.int .i64 0,.int .i64 0,.int .i64 0,.string ⟨#[]⟩,.string ⟨#[]⟩,.int .i64 tv,.slice none 0 0,.int .i64 (p:Int)]] W fun r Y=>RdRet b g cap dv ts xb W (.int .i64 ((QA0 σ).exprs.length:Int)) (QBQ { ex0 with kind:=1,v:=tv,pos:=(p:Int) } (QA0 σ)) r Y) :=
  hid fun W h=>QCK b g cap dv ts xb (QA0 σ) { ex0 with kind:=1,v:=tv,pos:=(p:Int) } none 0 0 W h (QAm.1 ok).1 (hid (World.ownsRow_nil _ _ _ _)) (hid fun k hk=>by cases hk)
 clear h2 ok
 rw [hV] at v0 v1 v2 v3
 clear hV
 go_enter Tryz.func87,Tryz.ntmps87
 go_wp2_with fail
 go_region_held3 (fun w'=>w'.cell? ⟨b,0,none⟩ = some (.slice (some ⟨g,0,none⟩) n cap)∧w'.cell? ⟨b,1,none⟩ = some (.int .i64 (a:Int))∧w'.cell? ⟨g,a*4,none⟩ = some (.int .i64 (kd:Int))∧w'.cell? ⟨g,a*4+1,none⟩ = some (.string (str tx))∧w'.cell? ⟨g,a*4+2,none⟩ = some (.int .i64 tv)∧w'.cell? ⟨g,a*4+3,none⟩ = some (.int .i64 (p:Int)))
  ((repeat' apply And.intro) <;> first | assumption | go_keep)
  (fail)
 rw [← hW1,← hA]
 clear hW1 hA t0 t1 t2 t3 c0 c1 c4 c5 c6 f1 f4 f5 f6 k0 hgs
 go_wp2_with (go_at_call 28;rw [← HVV.out];(with_reducible refine (PU.out V HRV).mono ?_);rintro e w4 ⟨rfl,hr,hk⟩;have HR4:=hid hr;have HK4:=hid hk;clear hr hk)
 go_ret
 rw [← HTV.out,← HP.out]
 exact ⟨rfl,HR4.out,HK1.out.trans (HKV.out.trans HK4.out)⟩
set_option maxRecDepth 100000 in
theorem QL8 (b g cap:Nat) (dv:Value) (ts:List Tok) (xb:Nat→Prop) (σ:RS) (W:World) (h:Hid (Rd W b g cap dv ts xb σ)) (h2:(QA9 ts σ.at_).kind≠2) (ht:isS ts [116,114,117,101] σ = true) (ok:okS (QA0 σ) = true) :
  Calls Tryz.prog 87 #[.pointer (some ⟨b,0,none⟩)] W fun r Y=>RdRet b g cap dv ts xb W (.int .i64 (σ.exprs.length:Int)) (QBQ { ex0 with kind:=2,v:=1,pos:=((QA9 ts σ.at_).at_:Int) } (QA0 σ)) r Y:=by
 obtain ⟨o,c,⟨c0,c1,c3,c4,c5,c6,fr⟩,hx⟩:=h.out.cells
 have ht:=h.out.tok
 have hgb:g≠b:=by have:=h.out.lt;omega
 have hl:=h.out.at_
 have hn:=h.out.len
 obtain ⟨t0,t1,t2,t3⟩:=ht
 obtain ⟨n,hnn⟩:∃ n,n = ts.length:=⟨_,rfl⟩
 obtain ⟨a,haa⟩:∃ a,a = σ.at_:=⟨_,rfl⟩
 obtain ⟨cd,hcd⟩:∃ cd,cd = σ.code:=⟨_,rfl⟩
 obtain ⟨ps,hps⟩:∃ ps,ps = σ.pos:=⟨_,rfl⟩
 obtain ⟨dp,hdp⟩:∃ dp,dp = σ.deep:=⟨_,rfl⟩
 obtain ⟨kd,hkd⟩:∃ kd,kd = (QA9 ts σ.at_).kind:=⟨_,rfl⟩
 obtain ⟨tx,htx⟩:∃ tx,tx = (QA9 ts σ.at_).text:=⟨_,rfl⟩
 obtain ⟨tv,htv⟩:∃ tv,tv = (QA9 ts σ.at_).v:=⟨_,rfl⟩
 obtain ⟨p,hp⟩:∃ p,p = (QA9 ts σ.at_).at_:=⟨_,rfl⟩
 rw [← hnn] at c0 hl hn
 rw [← hkd] at t0
 rw [← htx] at t1
 rw [← htv] at t2
 rw [← hp] at t3
 rw [← haa] at c1 t0 t1 t2 t3 hl
 rw [← hcd] at c5
 rw [← hdp] at c4
 rw [← hps] at c6
 have k0:((a:Nat):Int) < (n:Int):=by omega
 have f1:=fr 1
 have f4:=fr 4
 have f5:=fr 5
 have f6:=fr 6
 have HCD:=hid hcd
 have HPS:=hid hps
 have HDP:=hid hdp
 have HKD:=hid hkd
 have HTX:=hid htx
 have HTV:=hid htv
 have HP:=hid hp
 have HAA:=hid haa
 have HNN:=hid hnn
 clear fr hx hnn haa hcd hps hdp hkd htx htv hp c3
 have hgs:g < W.heap.size:=by have:=h.out.lt;have:=h.out.size;omega
 have hbs:b < W.heap.size:=h.out.size
 have ha4:(a:Int)≤40000:=by omega
 obtain ⟨A,hA⟩:∃ A,A = W.heap.size:=⟨_,rfl⟩
 obtain ⟨W1,hW1⟩:∃ W1,W1 = (W.alloc (.cells #[.int .i64 (kd:Int),.string (str tx),.int .i64 tv,.int .i64 (p:Int)] 49)).drew:=⟨_,rfl⟩
 have hb1:Below W.heap.size W W1:=by rw [hW1];exact ((Below.refl W.heap.size W).alloc (Nat.le_refl _) _).drew
 have HBX:Hid (Box4 W1 A kd tx tv p):=hid (by rw [hW1,hA];exact heap_alloc_new W _)
 have HR1:Hid (Rd W1 b g cap dv ts xb σ):=hid (h.out.below hb1)
 have HK1:Hid (RK b W W1):=hid (RK.of_below hb1 (Nat.le_of_lt hbs))
 have hbA:b≠A:=by omega
 have q1:=(hb1.cell (p:=⟨b,1,none⟩) hbs).trans c1
 have qf:=(hb1.frozen (p:=⟨b,1,none⟩) hbs).trans f1
 obtain ⟨x0,x1,x2,x3⟩:=HBX.out.cells
 have HAW:=hid hA
 clear hb1
 have q2:((kd:Int) == 2) = false:=beq_false_of_ne (by rw [HKD.out];omega)
 have TK:Hid (∀ W,Hid (Rd W b g cap dv ts xb σ)→Hid (Box4 W A kd tx tv p)→Calls Tryz.prog 26 #[.pointer (some ⟨b,0,none⟩),.string ⟨#[116,114,117,101]⟩] W fun r Y=>QBg b g cap dv ts xb A kd tx tv p W (.bool true) (QA0 σ) (a+1) r Y):=hid fun W h hx=>(QAN [116,114,117,101] ht W h).mono fun r Y hr=>hr.box (by first | exact HAA.out.symm | (rw [HAA.out];rfl)) hx hbA
 have PU:Hid (∀ W,Hid (Rd W b g cap dv ts xb (QA0 σ))→Calls Tryz.prog 28 #[.pointer (some ⟨b,0,none⟩),.agg #[.int .i64 2,.int .i64 0,.int .i64 0,.int .i64 0,.string ⟨#[]⟩,.string ⟨#[]⟩,.int .i64 1,.slice none 0 0,.int .i64 (p:Int)]] W fun r Y=>RdRet b g cap dv ts xb W (.int .i64 ((QA0 σ).exprs.length:Int)) (QBQ { ex0 with kind:=2,v:=1,pos:=(p:Int) } (QA0 σ)) r Y) :=
  hid fun W h=>QCK b g cap dv ts xb (QA0 σ) { ex0 with kind:=2,v:=1,pos:=(p:Int) } none 0 0 W h (QAm.1 ok).1 (hid (World.ownsRow_nil _ _ _ _)) (hid fun k hk=>by cases hk)
 clear h2 ok ht
 go_enter Tryz.func87,Tryz.ntmps87
 go_wp2_with fail
 go_region_held3 (fun w'=>w'.cell? ⟨b,0,none⟩ = some (.slice (some ⟨g,0,none⟩) n cap)∧w'.cell? ⟨b,1,none⟩ = some (.int .i64 (a:Int))∧w'.cell? ⟨g,a*4,none⟩ = some (.int .i64 (kd:Int))∧w'.cell? ⟨g,a*4+1,none⟩ = some (.string (str tx))∧w'.cell? ⟨g,a*4+2,none⟩ = some (.int .i64 tv)∧w'.cell? ⟨g,a*4+3,none⟩ = some (.int .i64 (p:Int)))
  ((repeat' apply And.intro) <;> first | assumption | go_keep)
  (fail)
 rw [← hW1,← hA]
 clear hW1 hA t0 t1 t2 t3 c0 c1 c4 c5 c6 f1 f4 f5 f6 k0 hgs
 go_wp2_with (first
  | (go_at_call 26;(with_reducible refine (TK.out W1 HR1 HBX).mono ?_);rintro e w2 ⟨rfl,y0,y1,y3,yb,yf,HR2,HK2,HX2⟩)
  | (go_at_call 28;(with_reducible refine (PU.out w2 HR2).mono ?_);rintro e w4 ⟨rfl,hr,hk⟩;have HR4:=hid hr;have HK4:=hid hk;clear hr hk))
 go_ret
 rw [← HP.out]
 exact ⟨rfl,HR4.out,HK1.out.trans (HK2.out.trans HK4.out)⟩
set_option maxRecDepth 100000 in
theorem QJh (b g cap:Nat) (dv:Value) (ts:List Tok) (xb:Nat→Prop) (σ:RS) (W:World) (h:Hid (Rd W b g cap dv ts xb σ)) (h2:(QA9 ts σ.at_).kind≠2) (ht:isS ts [116,114,117,101] σ = false) (hf:isS ts [102,97,108,115,101] σ = true) (ok:okS (QA0 σ) = true) :
  Calls Tryz.prog 87 #[.pointer (some ⟨b,0,none⟩)] W fun r Y=>RdRet b g cap dv ts xb W (.int .i64 (σ.exprs.length:Int)) (QBQ { ex0 with kind:=2,pos:=((QA9 ts σ.at_).at_:Int) } (QA0 σ)) r Y:=by
 obtain ⟨o,c,⟨c0,c1,c3,c4,c5,c6,fr⟩,hx⟩:=h.out.cells
 have ht:=h.out.tok
 have hgb:g≠b:=by have:=h.out.lt;omega
 have hl:=h.out.at_
 have hn:=h.out.len
 obtain ⟨t0,t1,t2,t3⟩:=ht
 obtain ⟨n,hnn⟩:∃ n,n = ts.length:=⟨_,rfl⟩
 obtain ⟨a,haa⟩:∃ a,a = σ.at_:=⟨_,rfl⟩
 obtain ⟨cd,hcd⟩:∃ cd,cd = σ.code:=⟨_,rfl⟩
 obtain ⟨ps,hps⟩:∃ ps,ps = σ.pos:=⟨_,rfl⟩
 obtain ⟨dp,hdp⟩:∃ dp,dp = σ.deep:=⟨_,rfl⟩
 obtain ⟨kd,hkd⟩:∃ kd,kd = (QA9 ts σ.at_).kind:=⟨_,rfl⟩
 obtain ⟨tx,htx⟩:∃ tx,tx = (QA9 ts σ.at_).text:=⟨_,rfl⟩
 obtain ⟨tv,htv⟩:∃ tv,tv = (QA9 ts σ.at_).v:=⟨_,rfl⟩
 obtain ⟨p,hp⟩:∃ p,p = (QA9 ts σ.at_).at_:=⟨_,rfl⟩
 rw [← hnn] at c0 hl hn
 rw [← hkd] at t0
 rw [← htx] at t1
 rw [← htv] at t2
 rw [← hp] at t3
 rw [← haa] at c1 t0 t1 t2 t3 hl
 rw [← hcd] at c5
 rw [← hdp] at c4
 rw [← hps] at c6
 have k0:((a:Nat):Int) < (n:Int):=by omega
 have f1:=fr 1
 have f4:=fr 4
 have f5:=fr 5
 have f6:=fr 6
 have HCD:=hid hcd
 have HPS:=hid hps
 have HDP:=hid hdp
 have HKD:=hid hkd
 have HTX:=hid htx
 have HTV:=hid htv
 have HP:=hid hp
 have HAA:=hid haa
 have HNN:=hid hnn
 clear fr hx hnn haa hcd hps hdp hkd htx htv hp c3
 have hgs:g < W.heap.size:=by have:=h.out.lt;have:=h.out.size;omega
 have hbs:b < W.heap.size:=h.out.size
 have ha4:(a:Int)≤40000:=by omega
 obtain ⟨A,hA⟩:∃ A,A = W.heap.size:=⟨_,rfl⟩
 obtain ⟨W1,hW1⟩:∃ W1,W1 = (W.alloc (.cells #[.int .i64 (kd:Int),.string (str tx),.int .i64 tv,.int .i64 (p:Int)] 49)).drew:=⟨_,rfl⟩
 have hb1:Below W.heap.size W W1:=by rw [hW1];exact ((Below.refl W.heap.size W).alloc (Nat.le_refl _) _).drew
 have HBX:Hid (Box4 W1 A kd tx tv p):=hid (by rw [hW1,hA];exact heap_alloc_new W _)
 have HR1:Hid (Rd W1 b g cap dv ts xb σ):=hid (h.out.below hb1)
 have HK1:Hid (RK b W W1):=hid (RK.of_below hb1 (Nat.le_of_lt hbs))
 have hbA:b≠A:=by omega
 have q1:=(hb1.cell (p:=⟨b,1,none⟩) hbs).trans c1
 have qf:=(hb1.frozen (p:=⟨b,1,none⟩) hbs).trans f1
 obtain ⟨x0,x1,x2,x3⟩:=HBX.out.cells
 have HAW:=hid hA
 clear hb1
 have q2:((kd:Int) == 2) = false:=beq_false_of_ne (by rw [HKD.out];omega)
 have TK:Hid (∀ W,Hid (Rd W b g cap dv ts xb σ)→Hid (Box4 W A kd tx tv p)→Calls Tryz.prog 26 #[.pointer (some ⟨b,0,none⟩),.string ⟨#[116,114,117,101]⟩] W fun r Y=>QBg b g cap dv ts xb A kd tx tv p W (.bool false) σ a r Y):=hid fun W h hx=>(QA8 [116,114,117,101] ht W h).mono fun r Y hr=>hr.box (by first | exact HAA.out.symm | (rw [HAA.out];rfl)) hx hbA
 have FK:Hid (∀ W,Hid (Rd W b g cap dv ts xb σ)→Hid (Box4 W A kd tx tv p)→Calls Tryz.prog 26 #[.pointer (some ⟨b,0,none⟩),.string ⟨#[102,97,108,115,101]⟩] W fun r Y=>QBg b g cap dv ts xb A kd tx tv p W (.bool true) (QA0 σ) (a+1) r Y):=hid fun W h hx=>(QAN [102,97,108,115,101] hf W h).mono fun r Y hr=>hr.box (by first | exact HAA.out.symm | (rw [HAA.out];rfl)) hx hbA
 have PU:Hid (∀ W,Hid (Rd W b g cap dv ts xb (QA0 σ))→Calls Tryz.prog 28 #[.pointer (some ⟨b,0,none⟩),.agg #[.int .i64 2,.int .i64 0,.int .i64 0,.int .i64 0,.string ⟨#[]⟩,.string ⟨#[]⟩,.int .i64 0,.slice none 0 0,.int .i64 (p:Int)]] W fun r Y=>RdRet b g cap dv ts xb W (.int .i64 ((QA0 σ).exprs.length:Int)) (QBQ { ex0 with kind:=2,pos:=(p:Int) } (QA0 σ)) r Y) :=
  hid fun W h=>QCK b g cap dv ts xb (QA0 σ) { ex0 with kind:=2,pos:=(p:Int) } none 0 0 W h (QAm.1 ok).1 (hid (World.ownsRow_nil _ _ _ _)) (hid fun k hk=>by cases hk)
 clear h2 ok ht hf
 go_enter Tryz.func87,Tryz.ntmps87
 go_wp2_with fail
 go_region_held3 (fun w'=>w'.cell? ⟨b,0,none⟩ = some (.slice (some ⟨g,0,none⟩) n cap)∧w'.cell? ⟨b,1,none⟩ = some (.int .i64 (a:Int))∧w'.cell? ⟨g,a*4,none⟩ = some (.int .i64 (kd:Int))∧w'.cell? ⟨g,a*4+1,none⟩ = some (.string (str tx))∧w'.cell? ⟨g,a*4+2,none⟩ = some (.int .i64 tv)∧w'.cell? ⟨g,a*4+3,none⟩ = some (.int .i64 (p:Int)))
  ((repeat' apply And.intro) <;> first | assumption | go_keep)
  (fail)
 rw [← hW1,← hA]
 clear hW1 hA t0 t1 t2 t3 c0 c1 c4 c5 c6 f1 f4 f5 f6 k0 hgs
 go_wp2_with (first
  | (go_at_call 26;(with_reducible refine (TK.out W1 HR1 HBX).mono ?_);rintro e w2 ⟨rfl,y0,y1,y3,yb,yf,HR2,HK2,HX2⟩)
  | (go_at_call 26;(with_reducible refine (FK.out w2 HR2 HX2).mono ?_);rintro e w3 ⟨rfl,y0,y1,y3,yb,yf,HR3,HK3,HX3⟩)
  | (go_at_call 28;(with_reducible refine (PU.out w3 HR3).mono ?_);rintro e w4 ⟨rfl,hr,hk⟩;have HR4:=hid hr;have HK4:=hid hk;clear hr hk))
 go_ret
 rw [← HP.out]
 exact ⟨rfl,HR4.out,HK1.out.trans (HK2.out.trans (HK3.out.trans HK4.out))⟩
set_option maxRecDepth 100000 in
theorem QL7 (b g cap:Nat) (dv:Value) (ts:List Tok) (xb:Nat→Prop) (σ:RS) (W:World) (h:Hid (Rd W b g cap dv ts xb σ)) (_:(QA9 ts σ.at_).kind≠2) (ht:isS ts [116,114,117,101] σ = false) (hf:isS ts [102,97,108,115,101] σ = false) (h1:(QA9 ts σ.at_).kind = 1) (hi:isS ts [105,115] (QA0 σ) = false) (hl' : isS ts [40] (QA0 σ) = false) (ok:okS (QA0 σ) = true) :
  Calls Tryz.prog 87 #[.pointer (some ⟨b,0,none⟩)] W fun r Y=>RdRet b g cap dv ts xb W (.int .i64 (σ.exprs.length:Int)) (QBQ { ex0 with kind:=3,name:=str (QA9 ts σ.at_).text,pos:=((QA9 ts σ.at_).at_:Int) } (QA0 σ)) r Y:=by
 obtain ⟨o,c,⟨c0,c1,c3,c4,c5,c6,fr⟩,hx⟩:=h.out.cells
 have ht:=h.out.tok
 have hgb:g≠b:=by have:=h.out.lt;omega
 have hl:=h.out.at_
 have hn:=h.out.len
 obtain ⟨t0,t1,t2,t3⟩:=ht
 obtain ⟨n,hnn⟩:∃ n,n = ts.length:=⟨_,rfl⟩
 obtain ⟨a,haa⟩:∃ a,a = σ.at_:=⟨_,rfl⟩
 obtain ⟨cd,hcd⟩:∃ cd,cd = σ.code:=⟨_,rfl⟩
 obtain ⟨ps,hps⟩:∃ ps,ps = σ.pos:=⟨_,rfl⟩
 obtain ⟨dp,hdp⟩:∃ dp,dp = σ.deep:=⟨_,rfl⟩
 obtain ⟨kd,hkd⟩:∃ kd,kd = (QA9 ts σ.at_).kind:=⟨_,rfl⟩
 obtain ⟨tx,htx⟩:∃ tx,tx = (QA9 ts σ.at_).text:=⟨_,rfl⟩
 obtain ⟨tv,htv⟩:∃ tv,tv = (QA9 ts σ.at_).v:=⟨_,rfl⟩
 obtain ⟨p,hp⟩:∃ p,p = (QA9 ts σ.at_).at_:=⟨_,rfl⟩
 rw [← hnn] at c0 hl hn
 rw [← hkd] at t0
 rw [← htx] at t1
 rw [← htv] at t2
 rw [← hp] at t3
 rw [← haa] at c1 t0 t1 t2 t3 hl
 rw [← hcd] at c5
 rw [← hdp] at c4
 rw [← hps] at c6
 have k0:((a:Nat):Int) < (n:Int):=by omega
 have f1:=fr 1
 have f4:=fr 4
 have f5:=fr 5
 have f6:=fr 6
 have HCD:=hid hcd
 have HPS:=hid hps
 have HDP:=hid hdp
 have HKD:=hid hkd
 have HTX:=hid htx
 have HTV:=hid htv
 have HP:=hid hp
 have HAA:=hid haa
 have HNN:=hid hnn
 clear fr hx hnn haa hcd hps hdp hkd htx htv hp c3
 have hgs:g < W.heap.size:=by have:=h.out.lt;have:=h.out.size;omega
 have hbs:b < W.heap.size:=h.out.size
 have ha4:(a:Int)≤40000:=by omega
 obtain ⟨A,hA⟩:∃ A,A = W.heap.size:=⟨_,rfl⟩
 obtain ⟨W1,hW1⟩:∃ W1,W1 = (W.alloc (.cells #[.int .i64 (kd:Int),.string (str tx),.int .i64 tv,.int .i64 (p:Int)] 49)).drew:=⟨_,rfl⟩
 have hb1:Below W.heap.size W W1:=by rw [hW1];exact ((Below.refl W.heap.size W).alloc (Nat.le_refl _) _).drew
 have HBX:Hid (Box4 W1 A kd tx tv p):=hid (by rw [hW1,hA];exact heap_alloc_new W _)
 have HR1:Hid (Rd W1 b g cap dv ts xb σ):=hid (h.out.below hb1)
 have HK1:Hid (RK b W W1):=hid (RK.of_below hb1 (Nat.le_of_lt hbs))
 have hbA:b≠A:=by omega
 have q1:=(hb1.cell (p:=⟨b,1,none⟩) hbs).trans c1
 have qf:=(hb1.frozen (p:=⟨b,1,none⟩) hbs).trans f1
 obtain ⟨x0,x1,x2,x3⟩:=HBX.out.cells
 have HAW:=hid hA
 clear hb1
 have q2:((kd:Int) == 2) = false:=beq_false_of_ne (by rw [HKD.out];omega)
 have q1' : ((kd:Int) == 1) = true:=by rw [HKD.out,h1];rfl
 have hk5:(QA9 ts σ.at_).kind≠5:=by rw [h1];decide
 have TK:Hid (∀ W,Hid (Rd W b g cap dv ts xb σ)→Hid (Box4 W A kd tx tv p)→Calls Tryz.prog 26 #[.pointer (some ⟨b,0,none⟩),.string ⟨#[116,114,117,101]⟩] W fun r Y=>QBg b g cap dv ts xb A kd tx tv p W (.bool false) σ a r Y):=hid fun W h hx=>(QA8 [116,114,117,101] ht W h).mono fun r Y hr=>hr.box (by first | exact HAA.out.symm | (rw [HAA.out];rfl)) hx hbA
 have FK:Hid (∀ W,Hid (Rd W b g cap dv ts xb σ)→Hid (Box4 W A kd tx tv p)→Calls Tryz.prog 26 #[.pointer (some ⟨b,0,none⟩),.string ⟨#[102,97,108,115,101]⟩] W fun r Y=>QBg b g cap dv ts xb A kd tx tv p W (.bool false) σ a r Y):=hid fun W h hx=>(QA8 [102,97,108,115,101] hf W h).mono fun r Y hr=>hr.box (by first | exact HAA.out.symm | (rw [HAA.out];rfl)) hx hbA
 have IK:Hid (∀ W,Hid (Rd W b g cap dv ts xb (QA0 σ))→Hid (Box4 W A kd tx tv p)→Calls Tryz.prog 26 #[.pointer (some ⟨b,0,none⟩),.string ⟨#[105,115]⟩] W fun r Y=>QBg b g cap dv ts xb A kd tx tv p W (.bool false) (QA0 σ) (a+1) r Y):=hid fun W h hx=>(QA8 [105,115] hi W h).mono fun r Y hr=>hr.box (by first | exact HAA.out.symm | (rw [HAA.out];rfl)) hx hbA
 have LK:Hid (∀ W,Hid (Rd W b g cap dv ts xb (QA0 σ))→Hid (Box4 W A kd tx tv p)→Calls Tryz.prog 26 #[.pointer (some ⟨b,0,none⟩),.string ⟨#[40]⟩] W fun r Y=>QBg b g cap dv ts xb A kd tx tv p W (.bool false) (QA0 σ) (a+1) r Y):=hid fun W h hx=>(QA8 [40] hl' W h).mono fun r Y hr=>hr.box (by first | exact HAA.out.symm | (rw [HAA.out];rfl)) hx hbA
 have PU:Hid (∀ W,Hid (Rd W b g cap dv ts xb (QA0 σ))→Calls Tryz.prog 28 #[.pointer (some ⟨b,0,none⟩),.agg #[.int .i64 3,.int .i64 0,.int .i64 0,.int .i64 0,.string (str tx),.string ⟨#[]⟩,.int .i64 0,.slice none 0 0,.int .i64 (p:Int)]] W fun r Y=>RdRet b g cap dv ts xb W (.int .i64 ((QA0 σ).exprs.length:Int)) (QBQ { ex0 with kind:=3,name:=str tx,pos:=(p:Int) } (QA0 σ)) r Y) :=
  hid fun W h=>QCK b g cap dv ts xb (QA0 σ) { ex0 with kind:=3,name:=str tx,pos:=(p:Int) } none 0 0 W h (QAm.1 ok).1 (hid (World.ownsRow_nil _ _ _ _)) (hid fun k hk=>by cases hk)
 clear ok ht hf h1 hi hl'
 go_enter Tryz.func87,Tryz.ntmps87
 go_wp2_with fail
 go_region_held3 (fun w'=>w'.cell? ⟨b,0,none⟩ = some (.slice (some ⟨g,0,none⟩) n cap)∧w'.cell? ⟨b,1,none⟩ = some (.int .i64 (a:Int))∧w'.cell? ⟨g,a*4,none⟩ = some (.int .i64 (kd:Int))∧w'.cell? ⟨g,a*4+1,none⟩ = some (.string (str tx))∧w'.cell? ⟨g,a*4+2,none⟩ = some (.int .i64 tv)∧w'.cell? ⟨g,a*4+3,none⟩ = some (.int .i64 (p:Int)))
  ((repeat' apply And.intro) <;> first | assumption | go_keep)
  (fail)
 rw [← hW1,← hA]
 clear hW1 hA t0 t1 t2 t3 c0 c1 c4 c5 c6 f1 f4 f5 f6 k0 hgs
 go_wp2_with (first
  | (go_at_call 26;(with_reducible refine (TK.out W1 HR1 HBX).mono ?_);rintro e w2 ⟨rfl,y0,y1,y3,yb,yf,HR2,HK2,HX2⟩)
  | (go_at_call 26;(with_reducible refine (FK.out w2 HR2 HX2).mono ?_);rintro e w3 ⟨rfl,y0,y1,y3,yb,yf,HR3,HK3,HX3⟩)
  | (go_at_call 26;(with_reducible refine (IK.out _ (QGi HR3 hk5 HAA) (QEb HX3 hbA _)).mono ?_);rintro e w4 ⟨rfl,y0,y1,y3,yb,yf,HR4,HK4,HX4⟩)
  | (go_at_call 26;(with_reducible refine (LK.out w4 HR4 HX4).mono ?_);rintro e w5 ⟨rfl,y0,y1,y3,yb,yf,HR5,HK5,HX5⟩)
  | (go_at_call 28;(with_reducible refine (PU.out w5 HR5).mono ?_);rintro e w6 ⟨rfl,hr,hk⟩;have HR6:=hid hr;have HK6:=hid hk;clear hr hk))
 go_ret
 rw [← HP.out,← HTX.out]
 exact ⟨rfl,HR6.out,HK1.out.trans (HK2.out.trans (HK3.out.trans ((RK.set 1 _).trans (HK4.out.trans (HK5.out.trans HK6.out)))))⟩
set_option maxRecDepth 100000 in
theorem QJg (b g cap:Nat) (dv:Value) (ts:List Tok) (xb:Nat→Prop) (σ:RS) (W:World) (h:Hid (Rd W b g cap dv ts xb σ)) (_:(QA9 ts σ.at_).kind≠2) (ht:isS ts [116,114,117,101] σ = false) (hf:isS ts [102,97,108,115,101] σ = false) (h1:(QA9 ts σ.at_).kind = 1) (hi:isS ts [105,115] (QA0 σ) = false) (hl' : isS ts [40] (QA0 σ) = true) (hr' : isS ts [41] (QA0 (QA0 σ)) = true) (ok:okS (QA0 (QA0 (QA0 σ))) = true) :
  Calls Tryz.prog 87 #[.pointer (some ⟨b,0,none⟩)] W fun r Y=>RdRet b g cap dv ts xb W (.int .i64 (σ.exprs.length:Int)) (QBQ { ex0 with kind:=19,name:=str (QA9 ts σ.at_).text,pos:=((QA9 ts σ.at_).at_:Int) } (QA0 (QA0 (QA0 σ)))) r Y:=by
 obtain ⟨o,c,⟨c0,c1,c3,c4,c5,c6,fr⟩,hx⟩:=h.out.cells
 have ht:=h.out.tok
 have hgb:g≠b:=by have:=h.out.lt;omega
 have hl:=h.out.at_
 have hn:=h.out.len
 obtain ⟨t0,t1,t2,t3⟩:=ht
 obtain ⟨n,hnn⟩:∃ n,n = ts.length:=⟨_,rfl⟩
 obtain ⟨a,haa⟩:∃ a,a = σ.at_:=⟨_,rfl⟩
 obtain ⟨cd,hcd⟩:∃ cd,cd = σ.code:=⟨_,rfl⟩
 obtain ⟨ps,hps⟩:∃ ps,ps = σ.pos:=⟨_,rfl⟩
 obtain ⟨dp,hdp⟩:∃ dp,dp = σ.deep:=⟨_,rfl⟩
 obtain ⟨kd,hkd⟩:∃ kd,kd = (QA9 ts σ.at_).kind:=⟨_,rfl⟩
 obtain ⟨tx,htx⟩:∃ tx,tx = (QA9 ts σ.at_).text:=⟨_,rfl⟩
 obtain ⟨tv,htv⟩:∃ tv,tv = (QA9 ts σ.at_).v:=⟨_,rfl⟩
 obtain ⟨p,hp⟩:∃ p,p = (QA9 ts σ.at_).at_:=⟨_,rfl⟩
 rw [← hnn] at c0 hl hn
 rw [← hkd] at t0
 rw [← htx] at t1
 rw [← htv] at t2
 rw [← hp] at t3
 rw [← haa] at c1 t0 t1 t2 t3 hl
 rw [← hcd] at c5
 rw [← hdp] at c4
 rw [← hps] at c6
 have k0:((a:Nat):Int) < (n:Int):=by omega
 have f1:=fr 1
 have f4:=fr 4
 have f5:=fr 5
 have f6:=fr 6
 have HCD:=hid hcd
 have HPS:=hid hps
 have HDP:=hid hdp
 have HKD:=hid hkd
 have HTX:=hid htx
 have HTV:=hid htv
 have HP:=hid hp
 have HAA:=hid haa
 have HNN:=hid hnn
 clear fr hx hnn haa hcd hps hdp hkd htx htv hp c3
 have hgs:g < W.heap.size:=by have:=h.out.lt;have:=h.out.size;omega
 have hbs:b < W.heap.size:=h.out.size
 have ha4:(a:Int)≤40000:=by omega
 obtain ⟨A,hA⟩:∃ A,A = W.heap.size:=⟨_,rfl⟩
 obtain ⟨W1,hW1⟩:∃ W1,W1 = (W.alloc (.cells #[.int .i64 (kd:Int),.string (str tx),.int .i64 tv,.int .i64 (p:Int)] 49)).drew:=⟨_,rfl⟩
 have hb1:Below W.heap.size W W1:=by rw [hW1];exact ((Below.refl W.heap.size W).alloc (Nat.le_refl _) _).drew
 have HBX:Hid (Box4 W1 A kd tx tv p):=hid (by rw [hW1,hA];exact heap_alloc_new W _)
 have HR1:Hid (Rd W1 b g cap dv ts xb σ):=hid (h.out.below hb1)
 have HK1:Hid (RK b W W1):=hid (RK.of_below hb1 (Nat.le_of_lt hbs))
 have hbA:b≠A:=by omega
 have q1:=(hb1.cell (p:=⟨b,1,none⟩) hbs).trans c1
 have qf:=(hb1.frozen (p:=⟨b,1,none⟩) hbs).trans f1
 obtain ⟨x0,x1,x2,x3⟩:=HBX.out.cells
 have HAW:=hid hA
 clear hb1
 have q2:((kd:Int) == 2) = false:=beq_false_of_ne (by rw [HKD.out];omega)
 have q1' : ((kd:Int) == 1) = true:=by rw [HKD.out,h1];rfl
 have hk5:(QA9 ts σ.at_).kind≠5:=by rw [h1];decide
 have TK:Hid (∀ W,Hid (Rd W b g cap dv ts xb σ)→Hid (Box4 W A kd tx tv p)→Calls Tryz.prog 26 #[.pointer (some ⟨b,0,none⟩),.string ⟨#[116,114,117,101]⟩] W fun r Y=>QBg b g cap dv ts xb A kd tx tv p W (.bool false) σ a r Y):=hid fun W h hx=>(QA8 [116,114,117,101] ht W h).mono fun r Y hr=>hr.box (by first | exact HAA.out.symm | (rw [HAA.out];rfl)) hx hbA
 have FK:Hid (∀ W,Hid (Rd W b g cap dv ts xb σ)→Hid (Box4 W A kd tx tv p)→Calls Tryz.prog 26 #[.pointer (some ⟨b,0,none⟩),.string ⟨#[102,97,108,115,101]⟩] W fun r Y=>QBg b g cap dv ts xb A kd tx tv p W (.bool false) σ a r Y):=hid fun W h hx=>(QA8 [102,97,108,115,101] hf W h).mono fun r Y hr=>hr.box (by first | exact HAA.out.symm | (rw [HAA.out];rfl)) hx hbA
 have IK:Hid (∀ W,Hid (Rd W b g cap dv ts xb (QA0 σ))→Hid (Box4 W A kd tx tv p)→Calls Tryz.prog 26 #[.pointer (some ⟨b,0,none⟩),.string ⟨#[105,115]⟩] W fun r Y=>QBg b g cap dv ts xb A kd tx tv p W (.bool false) (QA0 σ) (a+1) r Y):=hid fun W h hx=>(QA8 [105,115] hi W h).mono fun r Y hr=>hr.box (by first | exact HAA.out.symm | (rw [HAA.out];rfl)) hx hbA
 have LK:Hid (∀ W,Hid (Rd W b g cap dv ts xb (QA0 σ))→Hid (Box4 W A kd tx tv p)→Calls Tryz.prog 26 #[.pointer (some ⟨b,0,none⟩),.string ⟨#[40]⟩] W fun r Y=>QBg b g cap dv ts xb A kd tx tv p W (.bool true) (QA0 (QA0 σ)) (a+1+1) r Y):=hid fun W h hx=>(QAN [40] hl' W h).mono fun r Y hr=>hr.box (by first | exact HAA.out.symm | (rw [HAA.out];rfl)) hx hbA
 have RP:Hid (∀ W,Hid (Rd W b g cap dv ts xb (QA0 (QA0 σ)))→Hid (Box4 W A kd tx tv p)→Calls Tryz.prog 26 #[.pointer (some ⟨b,0,none⟩),.string ⟨#[41]⟩] W fun r Y=>QBg b g cap dv ts xb A kd tx tv p W (.bool true) (QA0 (QA0 (QA0 σ))) (a+1+1+1) r Y):=hid fun W h hx=>(QAN [41] hr' W h).mono fun r Y hr=>hr.box (by first | exact HAA.out.symm | (rw [HAA.out];rfl)) hx hbA
 have PU:Hid (∀ W,Hid (Rd W b g cap dv ts xb (QA0 (QA0 (QA0 σ))))→Calls Tryz.prog 28 #[.pointer (some ⟨b,0,none⟩),.agg #[.int .i64 19,.int .i64 0,.int .i64 0,.int .i64 0,.string (str tx),.string ⟨#[]⟩,.int .i64 0,.slice none 0 0,.int .i64 (p:Int)]] W fun r Y=>RdRet b g cap dv ts xb W (.int .i64 ((QA0 (QA0 (QA0 σ))).exprs.length:Int)) (QBQ { ex0 with kind:=19,name:=str tx,pos:=(p:Int) } (QA0 (QA0 (QA0 σ)))) r Y) :=
  hid fun W h=>QCK b g cap dv ts xb (QA0 (QA0 (QA0 σ))) { ex0 with kind:=19,name:=str tx,pos:=(p:Int) } none 0 0 W h (QAm.1 ok).1 (hid (World.ownsRow_nil _ _ _ _)) (hid fun k hk=>by cases hk)
 clear ok ht hf h1 hi hl' hr'
 go_enter Tryz.func87,Tryz.ntmps87
 go_wp2_with fail
 go_region_held3 (fun w'=>w'.cell? ⟨b,0,none⟩ = some (.slice (some ⟨g,0,none⟩) n cap)∧w'.cell? ⟨b,1,none⟩ = some (.int .i64 (a:Int))∧w'.cell? ⟨g,a*4,none⟩ = some (.int .i64 (kd:Int))∧w'.cell? ⟨g,a*4+1,none⟩ = some (.string (str tx))∧w'.cell? ⟨g,a*4+2,none⟩ = some (.int .i64 tv)∧w'.cell? ⟨g,a*4+3,none⟩ = some (.int .i64 (p:Int)))
  ((repeat' apply And.intro) <;> first | assumption | go_keep)
  (fail)
 rw [← hW1,← hA]
 clear hW1 hA t0 t1 t2 t3 c0 c1 c4 c5 c6 f1 f4 f5 f6 k0 hgs
 go_wp2_with (first
  | (go_at_call 26;(with_reducible refine (TK.out W1 HR1 HBX).mono ?_);rintro e w2 ⟨rfl,y0,y1,y3,yb,yf,HR2,HK2,HX2⟩)
  | (go_at_call 26;(with_reducible refine (FK.out w2 HR2 HX2).mono ?_);rintro e w3 ⟨rfl,y0,y1,y3,yb,yf,HR3,HK3,HX3⟩)
  | (go_at_call 26;(with_reducible refine (IK.out _ (QGi HR3 hk5 HAA) (QEb HX3 hbA _)).mono ?_);rintro e w4 ⟨rfl,y0,y1,y3,yb,yf,HR4,HK4,HX4⟩)
  | (go_at_call 26;(with_reducible refine (LK.out w4 HR4 HX4).mono ?_);rintro e w5 ⟨rfl,y0,y1,y3,yb,yf,HR5,HK5,HX5⟩)
  | (go_at_call 26;(with_reducible refine (RP.out w5 HR5 HX5).mono ?_);rintro e w6 ⟨rfl,y0,y1,y3,yb,yf,HR6,HK6,HX6⟩)
  | (go_at_call 28;(with_reducible refine (PU.out w6 HR6).mono ?_);rintro e w7 ⟨rfl,hr,hk⟩;have HR7:=hid hr;have HK7:=hid hk;clear hr hk))
 go_ret
 rw [← HP.out,← HTX.out]
 exact ⟨rfl,HR7.out,HK1.out.trans (HK2.out.trans (HK3.out.trans ((RK.set 1 _).trans (HK4.out.trans (HK5.out.trans (HK6.out.trans HK7.out))))))⟩
set_option maxRecDepth 100000 in
theorem QN6 (b g cap:Nat) (dv:Value) (ts:List Tok) (xb:Nat→Prop) (σ:RS) (W:World) (h:Hid (Rd W b g cap dv ts xb σ)) (f:Nat) (IH:Hid (FC b g cap dv ts xb f)) (h2:(QA9 ts σ.at_).kind≠2) (ht:isS ts [116,114,117,101] σ = false) (hf:isS ts [102,97,108,115,101] σ = false) (h1:(QA9 ts σ.at_).kind≠1) (v:Int) (l:List Int) (y:RS) (r1:Hid (QAh ts f .expr (QA3 ts [40] σ) = some (v,l,y))) :
  Calls Tryz.prog 87 #[.pointer (some ⟨b,0,none⟩)] W fun r Y=>RdRet b g cap dv ts xb W (.int .i64 v) (QA3 ts [41] y) r Y:=by
 obtain ⟨o,c,⟨c0,c1,c3,c4,c5,c6,fr⟩,hx⟩:=h.out.cells
 have ht:=h.out.tok
 have hgb:g≠b:=by have:=h.out.lt;omega
 have hl:=h.out.at_
 have hn:=h.out.len
 obtain ⟨t0,t1,t2,t3⟩:=ht
 obtain ⟨n,hnn⟩:∃ n,n = ts.length:=⟨_,rfl⟩
 obtain ⟨a,haa⟩:∃ a,a = σ.at_:=⟨_,rfl⟩
 obtain ⟨cd,hcd⟩:∃ cd,cd = σ.code:=⟨_,rfl⟩
 obtain ⟨ps,hps⟩:∃ ps,ps = σ.pos:=⟨_,rfl⟩
 obtain ⟨dp,hdp⟩:∃ dp,dp = σ.deep:=⟨_,rfl⟩
 obtain ⟨kd,hkd⟩:∃ kd,kd = (QA9 ts σ.at_).kind:=⟨_,rfl⟩
 obtain ⟨tx,htx⟩:∃ tx,tx = (QA9 ts σ.at_).text:=⟨_,rfl⟩
 obtain ⟨tv,htv⟩:∃ tv,tv = (QA9 ts σ.at_).v:=⟨_,rfl⟩
 obtain ⟨p,hp⟩:∃ p,p = (QA9 ts σ.at_).at_:=⟨_,rfl⟩
 rw [← hnn] at c0 hl hn
 rw [← hkd] at t0
 rw [← htx] at t1
 rw [← htv] at t2
 rw [← hp] at t3
 rw [← haa] at c1 t0 t1 t2 t3 hl
 rw [← hcd] at c5
 rw [← hdp] at c4
 rw [← hps] at c6
 have k0:((a:Nat):Int) < (n:Int):=by omega
 have f1:=fr 1
 have f4:=fr 4
 have f5:=fr 5
 have f6:=fr 6
 have HCD:=hid hcd
 have HPS:=hid hps
 have HDP:=hid hdp
 have HKD:=hid hkd
 have HTX:=hid htx
 have HTV:=hid htv
 have HP:=hid hp
 have HAA:=hid haa
 have HNN:=hid hnn
 clear fr hx hnn haa hcd hps hdp hkd htx htv hp c3
 have hgs:g < W.heap.size:=by have:=h.out.lt;have:=h.out.size;omega
 have hbs:b < W.heap.size:=h.out.size
 have ha4:(a:Int)≤40000:=by omega
 obtain ⟨A,hA⟩:∃ A,A = W.heap.size:=⟨_,rfl⟩
 obtain ⟨W1,hW1⟩:∃ W1,W1 = (W.alloc (.cells #[.int .i64 (kd:Int),.string (str tx),.int .i64 tv,.int .i64 (p:Int)] 49)).drew:=⟨_,rfl⟩
 have hb1:Below W.heap.size W W1:=by rw [hW1];exact ((Below.refl W.heap.size W).alloc (Nat.le_refl _) _).drew
 have HBX:Hid (Box4 W1 A kd tx tv p):=hid (by rw [hW1,hA];exact heap_alloc_new W _)
 have HR1:Hid (Rd W1 b g cap dv ts xb σ):=hid (h.out.below hb1)
 have HK1:Hid (RK b W W1):=hid (RK.of_below hb1 (Nat.le_of_lt hbs))
 have hbA:b≠A:=by omega
 have q1:=(hb1.cell (p:=⟨b,1,none⟩) hbs).trans c1
 have qf:=(hb1.frozen (p:=⟨b,1,none⟩) hbs).trans f1
 obtain ⟨x0,x1,x2,x3⟩:=HBX.out.cells
 have HAW:=hid hA
 clear hb1
 have q2:((kd:Int) == 2) = false:=beq_false_of_ne (by rw [HKD.out];omega)
 have q1' : ((kd:Int) == 1) = false:=beq_false_of_ne (by rw [HKD.out];omega)
 have TK:Hid (∀ W,Hid (Rd W b g cap dv ts xb σ)→Hid (Box4 W A kd tx tv p)→Calls Tryz.prog 26 #[.pointer (some ⟨b,0,none⟩),.string ⟨#[116,114,117,101]⟩] W fun r Y=>QBg b g cap dv ts xb A kd tx tv p W (.bool false) σ a r Y):=hid fun W h hx=>(QA8 [116,114,117,101] ht W h).mono fun r Y hr=>hr.box (by first | exact HAA.out.symm | (rw [HAA.out];rfl)) hx hbA
 have FK:Hid (∀ W,Hid (Rd W b g cap dv ts xb σ)→Hid (Box4 W A kd tx tv p)→Calls Tryz.prog 26 #[.pointer (some ⟨b,0,none⟩),.string ⟨#[102,97,108,115,101]⟩] W fun r Y=>QBg b g cap dv ts xb A kd tx tv p W (.bool false) σ a r Y):=hid fun W h hx=>(QA8 [102,97,108,115,101] hf W h).mono fun r Y hr=>hr.box (by first | exact HAA.out.symm | (rw [HAA.out];rfl)) hx hbA
 have E1:=hid (IH.out.expr _ _ _ _ r1.out)
 have A1:CR b g cap dv ts xb 27 #[.pointer (some ⟨b,0,none⟩),.string ⟨#[40]⟩] (.tuple #[]) σ (QA3 ts [40] σ):=hid fun W h=>QAF b g cap dv ts xb σ [40] W h
 have A2:CR b g cap dv ts xb 27 #[.pointer (some ⟨b,0,none⟩),.string ⟨#[41]⟩] (.tuple #[]) y (QA3 ts [41] y):=hid fun W h=>QAF b g cap dv ts xb y [41] W h
 clear h2 ht hf h1
 go_enter Tryz.func87,Tryz.ntmps87
 go_wp2_with fail
 go_region_held3 (fun w'=>w'.cell? ⟨b,0,none⟩ = some (.slice (some ⟨g,0,none⟩) n cap)∧w'.cell? ⟨b,1,none⟩ = some (.int .i64 (a:Int))∧w'.cell? ⟨g,a*4,none⟩ = some (.int .i64 (kd:Int))∧w'.cell? ⟨g,a*4+1,none⟩ = some (.string (str tx))∧w'.cell? ⟨g,a*4+2,none⟩ = some (.int .i64 tv)∧w'.cell? ⟨g,a*4+3,none⟩ = some (.int .i64 (p:Int)))
  ((repeat' apply And.intro) <;> first | assumption | go_keep)
  (fail)
 rw [← hW1,← hA]
 clear hW1 hA t0 t1 t2 t3 c0 c1 c4 c5 c6 f1 f4 f5 f6 k0 hgs
 go_wp2_with (first
  | (go_at_call 26;(with_reducible refine (TK.out W1 HR1 HBX).mono ?_);rintro e w2 ⟨rfl,y0,y1,y3,yb,yf,HR2,HK2,HX2⟩)
  | (go_at_call 26;(with_reducible refine (FK.out w2 HR2 HX2).mono ?_);rintro e w3 ⟨rfl,y0,y1,y3,yb,yf,HR3,HK3,HX3⟩)
  | (go_at_call 27;(with_reducible refine (A1.out w3 HR3).mono ?_);rintro e w4 ⟨rfl,hr,hk⟩;have HR4:=hid hr;have HK4:=hid hk;clear hr hk)
  | (go_at_call 12;(with_reducible refine (E1.out w4 HR4).mono ?_);rintro e w5 ⟨rfl,hr,hk⟩;have HR5:=hid hr;have HK5:=hid hk;clear hr hk)
  | (go_at_call 27;(with_reducible refine (A2.out w5 HR5).mono ?_);rintro e w6 ⟨rfl,hr,hk⟩;have HR6:=hid hr;have HK6:=hid hk;clear hr hk))
 go_ret
 exact ⟨rfl,HR6.out,HK1.out.trans (HK2.out.trans (HK3.out.trans (HK4.out.trans (HK5.out.trans HK6.out))))⟩
set_option maxRecDepth 100000 in
theorem atom_is (b g cap:Nat) (dv:Value) (ts:List Tok) (xb:Nat→Prop) (σ:RS) (W:World) (h:Hid (Rd W b g cap dv ts xb σ)) (_:(QA9 ts σ.at_).kind≠2) (ht:isS ts [116,114,117,101] σ = false) (hf:isS ts [102,97,108,115,101] σ = false) (h1:(QA9 ts σ.at_).kind = 1) (hi:isS ts [105,115] (QA0 σ) = true) (ok:okS (QA7 ts (QA0 (QA0 σ))) = true) :
  Calls Tryz.prog 87 #[.pointer (some ⟨b,0,none⟩)] W fun r Y=>RdRet b g cap dv ts xb W (.int .i64 ((QA7 ts (QA0 (QA0 σ))).exprs.length:Int)) (QBQ { ex0 with kind:=20,name:=str (QA9 ts σ.at_).text,state:=str (QAS ts (QA0 (QA0 σ))),pos:=((QA9 ts σ.at_).at_:Int) } (QA7 ts (QA0 (QA0 σ)))) r Y:=by
 obtain ⟨o,c,⟨c0,c1,c3,c4,c5,c6,fr⟩,hx⟩:=h.out.cells
 have ht:=h.out.tok
 have hgb:g≠b:=by have:=h.out.lt;omega
 have hl:=h.out.at_
 have hn:=h.out.len
 obtain ⟨t0,t1,t2,t3⟩:=ht
 obtain ⟨n,hnn⟩:∃ n,n = ts.length:=⟨_,rfl⟩
 obtain ⟨a,haa⟩:∃ a,a = σ.at_:=⟨_,rfl⟩
 obtain ⟨cd,hcd⟩:∃ cd,cd = σ.code:=⟨_,rfl⟩
 obtain ⟨ps,hps⟩:∃ ps,ps = σ.pos:=⟨_,rfl⟩
 obtain ⟨dp,hdp⟩:∃ dp,dp = σ.deep:=⟨_,rfl⟩
 obtain ⟨kd,hkd⟩:∃ kd,kd = (QA9 ts σ.at_).kind:=⟨_,rfl⟩
 obtain ⟨tx,htx⟩:∃ tx,tx = (QA9 ts σ.at_).text:=⟨_,rfl⟩
 obtain ⟨tv,htv⟩:∃ tv,tv = (QA9 ts σ.at_).v:=⟨_,rfl⟩
 obtain ⟨p,hp⟩:∃ p,p = (QA9 ts σ.at_).at_:=⟨_,rfl⟩
 rw [← hnn] at c0 hl hn
 rw [← hkd] at t0
 rw [← htx] at t1
 rw [← htv] at t2
 rw [← hp] at t3
 rw [← haa] at c1 t0 t1 t2 t3 hl
 rw [← hcd] at c5
 rw [← hdp] at c4
 rw [← hps] at c6
 have k0:((a:Nat):Int) < (n:Int):=by omega
 have f1:=fr 1
 have f4:=fr 4
 have f5:=fr 5
 have f6:=fr 6
 have HCD:=hid hcd
 have HPS:=hid hps
 have HDP:=hid hdp
 have HKD:=hid hkd
 have HTX:=hid htx
 have HTV:=hid htv
 have HP:=hid hp
 have HAA:=hid haa
 have HNN:=hid hnn
 clear fr hx hnn haa hcd hps hdp hkd htx htv hp c3
 have hgs:g < W.heap.size:=by have:=h.out.lt;have:=h.out.size;omega
 have hbs:b < W.heap.size:=h.out.size
 have ha4:(a:Int)≤40000:=by omega
 obtain ⟨A,hA⟩:∃ A,A = W.heap.size:=⟨_,rfl⟩
 obtain ⟨W1,hW1⟩:∃ W1,W1 = (W.alloc (.cells #[.int .i64 (kd:Int),.string (str tx),.int .i64 tv,.int .i64 (p:Int)] 49)).drew:=⟨_,rfl⟩
 have hb1:Below W.heap.size W W1:=by rw [hW1];exact ((Below.refl W.heap.size W).alloc (Nat.le_refl _) _).drew
 have HBX:Hid (Box4 W1 A kd tx tv p):=hid (by rw [hW1,hA];exact heap_alloc_new W _)
 have HR1:Hid (Rd W1 b g cap dv ts xb σ):=hid (h.out.below hb1)
 have HK1:Hid (RK b W W1):=hid (RK.of_below hb1 (Nat.le_of_lt hbs))
 have hbA:b≠A:=by omega
 have q1:=(hb1.cell (p:=⟨b,1,none⟩) hbs).trans c1
 have qf:=(hb1.frozen (p:=⟨b,1,none⟩) hbs).trans f1
 obtain ⟨x0,x1,x2,x3⟩:=HBX.out.cells
 have HAW:=hid hA
 clear hb1
 have q2:((kd:Int) == 2) = false:=beq_false_of_ne (by rw [HKD.out,h1];decide)
 have q1' : ((kd:Int) == 1) = true:=by rw [HKD.out,h1];rfl
 have hk5:(QA9 ts σ.at_).kind≠5:=by rw [h1];decide
 have TK:Hid (∀ W,Hid (Rd W b g cap dv ts xb σ)→Hid (Box4 W A kd tx tv p)→Calls Tryz.prog 26 #[.pointer (some ⟨b,0,none⟩),.string ⟨#[116,114,117,101]⟩] W fun r Y=>QBg b g cap dv ts xb A kd tx tv p W (.bool false) σ a r Y):=hid fun W h hx=>(QA8 [116,114,117,101] ht W h).mono fun r Y hr=>hr.box (by first | exact HAA.out.symm | (rw [HAA.out];rfl)) hx hbA
 have FK:Hid (∀ W,Hid (Rd W b g cap dv ts xb σ)→Hid (Box4 W A kd tx tv p)→Calls Tryz.prog 26 #[.pointer (some ⟨b,0,none⟩),.string ⟨#[102,97,108,115,101]⟩] W fun r Y=>QBg b g cap dv ts xb A kd tx tv p W (.bool false) σ a r Y):=hid fun W h hx=>(QA8 [102,97,108,115,101] hf W h).mono fun r Y hr=>hr.box (by first | exact HAA.out.symm | (rw [HAA.out];rfl)) hx hbA
 have IK:Hid (∀ W,Hid (Rd W b g cap dv ts xb (QA0 σ))→Hid (Box4 W A kd tx tv p)→Calls Tryz.prog 26 #[.pointer (some ⟨b,0,none⟩),.string ⟨#[105,115]⟩] W fun r Y=>QBg b g cap dv ts xb A kd tx tv p W (.bool true) (QA0 (QA0 σ)) (a+1+1) r Y):=hid fun W h hx=>(QAN [105,115] hi W h).mono fun r Y hr=>hr.box (by first | exact HAA.out.symm | (rw [HAA.out];rfl)) hx hbA
 obtain ⟨τ,hτ⟩:∃ τ,τ = QA7 ts (QA0 (QA0 σ)):=⟨_,rfl⟩
 obtain ⟨NV,hNV⟩:∃ NV,NV = str (QAS ts (QA0 (QA0 σ))):=⟨_,rfl⟩
 rw [← hτ] at ok
 rw [← hτ,← hNV]
 have NA:Hid (∀ W,Hid (Rd W b g cap dv ts xb (QA0 (QA0 σ)))→Hid (Box4 W A kd tx tv p)→Calls Tryz.prog 31 #[.pointer (some ⟨b,0,none⟩)] W fun r Y=>QBg b g cap dv ts xb A kd tx tv p W (.string NV) τ τ.at_ r Y):=hid fun W h hx=>(QAk b g cap dv ts xb (QA0 (QA0 σ)) W h).mono fun r Y hr=>by
  rw [← hτ,← hNV] at hr
  exact hr.box rfl hx hbA
 have PU:Hid (∀ W,Hid (Rd W b g cap dv ts xb τ)→Hid (Box4 W A kd tx tv p)→Calls Tryz.prog 28 #[.pointer (some ⟨b,0,none⟩),.agg #[.int .i64 20,.int .i64 0,.int .i64 0,.int .i64 0,.string (str tx),.string NV,.int .i64 0,.slice none 0 0,.int .i64 (p:Int)]] W fun r Y=>QBg b g cap dv ts xb A kd tx tv p W (.int .i64 (τ.exprs.length:Int)) (QBQ { ex0 with kind:=20,name:=str tx,state:=NV,pos:=(p:Int) } τ) τ.at_ r Y) :=
  hid fun W h hx=>(QCK b g cap dv ts xb τ { ex0 with kind:=20,name:=str tx,state:=NV,pos:=(p:Int) } none 0 0 W h (QAm.1 ok).1 (hid (World.ownsRow_nil _ _ _ _)) (hid fun k hk=>by cases hk)).mono fun r Y hr=>hr.box rfl hx hbA
 clear ok ht hf h1 hi hτ hNV
 go_enter Tryz.func87,Tryz.ntmps87
 go_wp2_with fail
 go_region_held3 (fun w'=>w'.cell? ⟨b,0,none⟩ = some (.slice (some ⟨g,0,none⟩) n cap)∧w'.cell? ⟨b,1,none⟩ = some (.int .i64 (a:Int))∧w'.cell? ⟨g,a*4,none⟩ = some (.int .i64 (kd:Int))∧w'.cell? ⟨g,a*4+1,none⟩ = some (.string (str tx))∧w'.cell? ⟨g,a*4+2,none⟩ = some (.int .i64 tv)∧w'.cell? ⟨g,a*4+3,none⟩ = some (.int .i64 (p:Int)))
  ((repeat' apply And.intro) <;> first | assumption | go_keep)
  (fail)
 rw [← hW1,← hA]
 clear hW1 hA t0 t1 t2 t3 c0 c1 c4 c5 c6 f1 f4 f5 f6 k0 hgs
 go_wp2_with (first
  | (go_at_call 26;(with_reducible refine (TK.out W1 HR1 HBX).mono ?_);rintro e w2 ⟨rfl,y0,y1,y3,yb,yf,HR2,HK2,HX2⟩)
  | (go_at_call 26;(with_reducible refine (FK.out w2 HR2 HX2).mono ?_);rintro e w3 ⟨rfl,y0,y1,y3,yb,yf,HR3,HK3,HX3⟩)
  | (go_at_call 26;(with_reducible refine (IK.out _ (QGi HR3 hk5 HAA) (QEb HX3 hbA _)).mono ?_);rintro e w4 ⟨rfl,y0,y1,y3,yb,yf,HR4,HK4,HX4⟩))
 go_region_held3 (fun w'=>w'.cell? ⟨A,1,none⟩ = some (.string (str tx))∧w'.cell? ⟨A,3,none⟩ = some (.int .i64 (p:Int)))
  ((repeat' apply And.intro) <;> first | assumption | go_keep)
  (first
  | (go_at_call 31;(with_reducible refine (NA.out _ (rd_drew HR4) (QN8 HX4)).mono ?_);rintro e w5 ⟨rfl,z0,z1,z3,zb,zf,HR5,HK5,HX5⟩)
  | (go_at_call 28;(with_reducible refine (PU.out w5 HR5 HX5).mono ?_);rintro e w6 ⟨rfl,u0,u1,u3,ub,uf,HR6,HK6,HX6⟩))
 go_wp2_with fail
 go_ret
 rw [← HP.out,← HTX.out]
 exact ⟨rfl,HR6.out,HK1.out.trans (HK2.out.trans (HK3.out.trans ((RK.set 1 _).trans (HK4.out.trans ((RK.of_below (Below.refl _ _).drew (Nat.le_of_lt HR4.out.size)).trans (HK5.out.trans HK6.out))))))⟩
end
section
open Go.RowKit Lx
structure ArgSt (Y:World) (b g cap:Nat) (dv:Value) (ts:List Tok) (xb:Nat→Prop) (A:Nat) (τ:RS) (acc:List Int) (v:Value):Prop where
 own:Y.ownsRow (A+1) 3 1 v acc.length (acc.map QLi)
 rd:Rd Y b g cap dv ts (fun k=>xb k∨v.ownBlock = some k) τ
theorem Rd.less {W:World} {b g cap:Nat} {dv:Value} {ts:List Tok} {xb yb:Nat→Prop} {σ:RS} (h:Rd W b g cap dv ts xb σ) (hy:∀ k,yb k→xb k):Rd W b g cap dv ts yb σ:=by
 obtain ⟨o,c,h1,q,h2,h3,h4⟩:=h.blk
 exact ⟨fun k hk=>h.xlt k (hy k hk),⟨o,c,h1,q,h2,h3,fun p hp=>⟨(h4 p hp).1,fun k hk hyk=>(h4 p hp).2 k hk (hy k hyk)⟩⟩,h.row,h.lt,h.at_,h.len,h.ends⟩
theorem Rd.more {W:World} {b g cap:Nat} {dv:Value} {ts:List Tok} {xb yb:Nat→Prop} {σ:RS} (h:Rd W b g cap dv ts xb σ) (hy:∀ k,yb k→xb k∨False):Rd W b g cap dv ts yb σ:=h.less fun k hk=>(hy k hk).resolve_right id
theorem QBf {W:World} {B B' : Nat} {e:TypeId} {s:Nat} {v:Value} {n:Nat} {xs:List Value} (h:W.ownsRow B e s v n xs) (hb:B'≤B):W.ownsRow B' e s v n xs:=by
 refine ⟨h.1,?_⟩
 rcases h.2 with hn | ⟨g,cap,cur,rfl,hb2,QBd⟩
 ·exact .inl hn
 ·exact .inr ⟨g,cap,cur,rfl,Nat.le_trans hb hb2,QBd⟩
theorem ArgSt.call {W Y:World} {b g cap:Nat} {dv:Value} {ts:List Tok} {xb:Nat→Prop} {A:Nat} {τ σ:RS} {acc:List Int} {v:Value} (h:ArgSt W b g cap dv ts xb A τ acc v) (hbA:b < A+1) (hr:Rd Y b g cap dv ts (fun k=>xb k∨v.ownBlock = some k) σ) (hk:RK b W Y):ArgSt Y b g cap dv ts xb A σ acc v :=
 ⟨QGf h.own hbA hk,hr⟩
theorem ArgSt.push {X Y:World} {b g cap:Nat} {dv:Value} {ts:List Tok} {xb:Nat→Prop} {A:Nat} {τ:RS} {acc:List Int} {v:Value} {n:Int} {g' c' : Nat} (h:ArgSt X b g cap dv ts xb A τ acc v) (hbA:b < A+1)
  (hg:X.grownBy Y v.ownBlock) (ho:Y.ownsRow (A+1) 3 1 (.slice (some ⟨g',0,none⟩) (acc.length+1) c') (acc.length+1) (acc.map QLi ++ [.int .i64 n])) (hl:v.ownBlock = some g'∨g' = X.heap.size) (hlt:g' < Y.heap.size) :
  ArgSt Y b g cap dv ts xb A τ (acc ++ [n]) (.slice (some ⟨g',0,none⟩) (acc.length+1) c'):=by
 have hbs:=h.rd.size
 have hgs:g < X.heap.size:=by have:=h.rd.lt;omega
 have hne:∀ k,k < A+1→some k≠v.ownBlock:=fun k hk e=>by have:=(h.own.lt k e.symm).1;omega
 obtain ⟨o,c,h1,q,h2,h3,h4⟩:=h.rd.blk
 refine ⟨by rw [List.length_append,List.map_append];exact ho,⟨fun k hk=>?_,⟨o,c,(hg.block b hbs (hne b hbA)).trans h1,q,h2,?_,fun p hp=>⟨?_,?_⟩⟩,QDV h.rd.row (hg.block g hgs (hne g (by have:=h.rd.lt;omega))),h.rd.lt,h.rd.at_,h.rd.len,h.rd.ends⟩⟩
 ·rcases hk with hk | hk
  ·exact Nat.lt_of_lt_of_le (h.rd.xlt k (.inl hk)) hg.size
  ·simp [Value.ownBlock] at hk;omega
 ·refine QAG h3 fun k e=>hg.block k (h3.lt k e).2 fun e2=>?_
  rcases h3.2 with ⟨h5,_⟩ | ⟨g3,c3,cur3,h5,_,h6,_⟩
  ·rw [h5] at e;cases e
  ·rcases h.own.2 with ⟨h7,_⟩ | ⟨g4,c4,cur4,h7,_,h8,_⟩
   ·rw [h7] at e2;cases e2
   ·rw [h5] at e;rw [h7] at e2
    simp [Value.ownBlock] at e e2
    subst e;subst e2
    rw [h6] at h8;cases h8
 ·exact QAG (h4 p hp).1 fun k e=>hg.block k ((h4 p hp).1.lt k e).2 fun e2=>(h4 p hp).2 k e (.inr e2.symm)
 ·intro k e hk
  rcases hk with hk | hk
  ·exact (h4 p hp).2 k e (.inl hk)
  ·simp [Value.ownBlock] at hk
   rcases hl with hl | hl
   ·exact (h4 p hp).2 k e (.inr (by rw [hl,hk]))
   ·have:=((h4 p hp).1.lt k e).2;omega
theorem RK.grow_new {b:Nat} {W X Y:World} {row:Option Nat} (h:RK b W X) (hg:X.grownBy Y row) (hb:b≤W.heap.size) (hr:∀ k,row = some k→W.heap.size≤k):RK b W Y :=
 ⟨hg.os.trans h.os,hg.tape.trans h.tape,hg.output.trans h.output,Nat.le_trans h.size hg.size,fun k hk=>(hg.block k (by have:=h.size;omega) (fun e=>by have:=hr k e.symm;omega)).trans (h.low k hk),
  fun k o hk hkb hno=>(hg.block k (by have:=h.size;have:=QBn hk;omega) (fun e=>by have:=hr k e.symm;have:=QBn hk;omega)).trans (h.keep k o hk hkb hno)⟩
theorem QJf {ts:List Tok} {n:Nat} {acc:List Int} {σ:RS} {R:Int × List Int × RS} (h:QAh ts n (.args acc) σ = some R):∃ m,n = m+1∧acc.length≤40000 ∧
  ((isS ts [44] σ = true∧∃ v l τ,QAh ts m .expr (QA0 σ) = some (v,l,τ)∧QAh ts m (.args (acc ++ [v])) τ = some R)∨(isS ts [44] σ = false∧R = (0,acc,σ))):=by
 cases n with
 | zero=>cases h
 | succ m =>
  refine ⟨m,rfl,?_⟩
  simp only [QAh] at h
  split at h
  ·unfold QH4 at h
   split at h
   ·rename_i hl
    refine ⟨hl,?_⟩
    split at h
    ·rename_i hi
     cases h1:QAh ts m .expr (QA0 σ) with
     | none=>rw [h1] at h;cases h
     | some q =>
      rw [h1] at h
      exact .inl ⟨hi,q.1,q.2.1,q.2.2,rfl,h⟩
    ·rename_i hi
     exact .inr ⟨by simpa using hi,(Option.some.inj h).symm⟩
   ·cases h
  ·cases h
theorem QIR:(Tryz.prog.info? 3).map (fun i=>(i.zero,i.size,i.bytes)) = some (some (.int .i64 0),1,8):=by kernel_rfl
theorem QJE (W:World) (v:Value) (T:TypeId) (j:Nat) (u:Value) (h : [v][j]? = some u):(W.alloc (.cells #[v] T)).cell? ((⟨W.heap.size,0,none⟩:Addr).add j) = some u:=by
 have e:(⟨W.heap.size,0,none⟩:Addr).add j = ⟨W.heap.size,j,none⟩:=by unfold Addr.add;split <;> simp_all
 rw [e,World.cell?_alloc_new,← h,← Array.getElem?_toList]
theorem QGF (w:World) {ops:Array Oper} {QBd:List Oper} {o:Oper} {a:Act} {Q:Exit→Act→World→Prop}
  (hg:o.guard = none) (s x:Operand) (hop:o.op = Op.call { callee:=Callee.builtin Builtin.append,args:=#[s,x],argTypes:=#[52,52] })
  (base:Nat) (v:Value) (k:Nat) (xs:List Value) (hs:a.eval s = v) (hown:w.ownsRow base 3 1 v k xs) (ad:Addr) (news:List Value) (hx:a.eval x = .slice (some ad) 1 1) (hn:news.length = 1*1)
  (hc:∀ j u,news[j]? = some u→w.cell? (ad.add j) = some u) (h1c:∀ u∈news,u.oneCell' = true) (hk:k≤40000) (b3:base≤w.heap.size)
  (hK:∀ g cap w',w'.ownsRow base 3 1 (.slice (some ⟨g,0,none⟩) (k+1) cap) (k+1) (xs ++ news)→w.grownBy w' v.ownBlock→(v.ownBlock = some g∨g = w.heap.size)→g < w'.heap.size→wpList Tryz.prog ops Q QBd (a.put o.dst (.slice (some ⟨g,0,none⟩) (k+1) cap)) w') :
  wpList Tryz.prog ops Q (o :: QBd) a w:=by
 obtain ⟨i,h2,h3,h4,h5⟩:=info_parts QIR
 exact wpList_append_lies (w:=w) hg s x 52 hop base 3 i _ 1 8 Tryz.underlying52 h2 h3 h4 h5 rfl (by decide) v k xs hs hown ad 1 1 news hx hn hc h1c (by decide) (by unfold maxLen;omega) (by omega) b3 w.heap.size rfl hK
structure ArgAll (W Y:World) (b g cap:Nat) (dv:Value) (ts:List Tok) (xb:Nat→Prop) (A kd:Nat) (tx:List UInt8) (tv:Int) (p:Nat) (τ:RS) (acc:List Int) (v:Value):Prop where
 st:ArgSt Y b g cap dv ts xb A τ acc v
 box:Box4 Y A kd tx tv p
 rk:RK b W Y
theorem ArgAll.call {W X Y:World} {b g cap:Nat} {dv:Value} {ts:List Tok} {xb:Nat→Prop} {A kd:Nat} {tx:List UInt8} {tv:Int} {p:Nat} {τ σ:RS} {acc:List Int} {v:Value} (h:ArgAll W X b g cap dv ts xb A kd tx tv p τ acc v) (hbA:b < A)
  (hr:Rd Y b g cap dv ts (fun k=>xb k∨v.ownBlock = some k) σ) (hk:RK b X Y):ArgAll W Y b g cap dv ts xb A kd tx tv p σ acc v :=
 ⟨h.st.call (by omega) hr hk,h.box.keep hk (by omega),h.rk.trans hk⟩
theorem ArgAll.push {W X Y:World} {b g cap:Nat} {dv:Value} {ts:List Tok} {xb:Nat→Prop} {A kd:Nat} {tx:List UInt8} {tv:Int} {p:Nat} {τ:RS} {acc:List Int} {v:Value} {n:Int} {g' c' : Nat} (h:ArgAll W X b g cap dv ts xb A kd tx tv p τ acc v) (hbA:b < A) (hA:A = W.heap.size)
  (hg:(X.alloc (.cells #[.int .i64 n] 3)).grownBy Y v.ownBlock) (ho:Y.ownsRow (A+1) 3 1 (.slice (some ⟨g',0,none⟩) (acc.length+1) c') (acc.length+1) (acc.map QLi ++ [.int .i64 n]))
  (hl:v.ownBlock = some g'∨g' = (X.alloc (.cells #[.int .i64 n] 3)).heap.size) (hlt:g' < Y.heap.size):ArgAll W Y b g cap dv ts xb A kd tx tv p τ (acc ++ [n]) (.slice (some ⟨g',0,none⟩) (acc.length+1) c'):=by
 have hb0:Below X.heap.size X (X.alloc (.cells #[.int .i64 n] 3)):=(Below.refl _ _).alloc (Nat.le_refl _) _
 have hk0:RK b X (X.alloc (.cells #[.int .i64 n] 3)):=RK.of_below hb0 (Nat.le_of_lt h.st.rd.size)
 have h2:=h.call hbA (h.st.rd.below hb0) hk0
 have hxA:A < (X.alloc (.cells #[.int .i64 n] 3)).heap.size:=QBn h2.box
 exact ⟨h2.st.push (by omega) hg ho hl hlt,(hg.block A hxA fun e=>by have:=(h2.st.own.lt A e.symm).1;omega).trans h2.box,h2.rk.grow_new hg (by omega) fun k e=>by have:=(h2.st.own.lt k e).1;omega⟩
theorem QDo {W:World} {B:Nat} {e:TypeId} {s:Nat} {v:Value} {n:Nat} {xs:List Value} (h:W.ownsRow B e s v n xs):∃ o c,v = .slice o n c:=by
 rcases h.2 with ⟨rfl,rfl⟩ | ⟨g,cap,cur,rfl,_⟩
 ·exact ⟨none,0,rfl⟩
 ·exact ⟨_,cap,rfl⟩
end
section
open Go.Lib (hid)
open Go.RowKit Lx
set_option maxHeartbeats 8000000
def ArgI (W:World) (b g cap:Nat) (dv:Value) (ts:List Tok) (xb:Nat→Prop) (A kd:Nat) (tx:List UInt8) (tv:Int) (p f:Nat) (R:Int × List Int × RS) (n:Nat) (x:Value × World):Prop :=
 ∃ (acc:List Int) (τ:RS),n≤f∧QAh ts n (.args acc) τ = some R∧ArgAll W x.2 b g cap dv ts xb A kd tx tv p τ acc x.1
set_option maxRecDepth 100000 in
theorem QL6 (b g cap:Nat) (dv:Value) (ts:List Tok) (xb:Nat→Prop) (σ:RS) (W:World) (h:Hid (Rd W b g cap dv ts xb σ)) (f:Nat) (IH:Hid (∀ k,k≤f→∀ yb,FC b g cap dv ts yb k)) (_:(QA9 ts σ.at_).kind≠2) (ht:isS ts [116,114,117,101] σ = false) (hf:isS ts [102,97,108,115,101] σ = false) (h1:(QA9 ts σ.at_).kind = 1) (hi:isS ts [105,115] (QA0 σ) = false) (hl' : isS ts [40] (QA0 σ) = true) (hr' : isS ts [41] (QA0 (QA0 σ)) = false)
  (va:Int) (la:List Int) (s1:RS) (r1:Hid (QAh ts f .expr (QA0 (QA0 σ)) = some (va,la,s1))) (R:Int × List Int × RS) (r2:Hid (QAh ts f (.args [va]) s1 = some R)) (ok:Hid (okS (QA3 ts [41] R.2.2) = true)) :
  Calls Tryz.prog 87 #[.pointer (some ⟨b,0,none⟩)] W fun r Y=>RdRet b g cap dv ts xb W (.int .i64 ((QA3 ts [41] R.2.2).exprs.length:Int)) (QBQ { ex0 with kind:=19,name:=str (QA9 ts σ.at_).text,args:=R.2.1,pos:=((QA9 ts σ.at_).at_:Int) } (QA3 ts [41] R.2.2)) r Y:=by
 obtain ⟨o,c,⟨c0,c1,c3,c4,c5,c6,fr⟩,hx⟩:=h.out.cells
 have ht:=h.out.tok
 have hgb:g≠b:=by have:=h.out.lt;omega
 have hl:=h.out.at_
 have hn:=h.out.len
 obtain ⟨t0,t1,t2,t3⟩:=ht
 obtain ⟨n,hnn⟩:∃ n,n = ts.length:=⟨_,rfl⟩
 obtain ⟨a,haa⟩:∃ a,a = σ.at_:=⟨_,rfl⟩
 obtain ⟨cd,hcd⟩:∃ cd,cd = σ.code:=⟨_,rfl⟩
 obtain ⟨ps,hps⟩:∃ ps,ps = σ.pos:=⟨_,rfl⟩
 obtain ⟨dp,hdp⟩:∃ dp,dp = σ.deep:=⟨_,rfl⟩
 obtain ⟨kd,hkd⟩:∃ kd,kd = (QA9 ts σ.at_).kind:=⟨_,rfl⟩
 obtain ⟨tx,htx⟩:∃ tx,tx = (QA9 ts σ.at_).text:=⟨_,rfl⟩
 obtain ⟨tv,htv⟩:∃ tv,tv = (QA9 ts σ.at_).v:=⟨_,rfl⟩
 obtain ⟨p,hp⟩:∃ p,p = (QA9 ts σ.at_).at_:=⟨_,rfl⟩
 rw [← hnn] at c0 hl hn
 rw [← hkd] at t0
 rw [← htx] at t1
 rw [← htv] at t2
 rw [← hp] at t3
 rw [← haa] at c1 t0 t1 t2 t3 hl
 rw [← hcd] at c5
 rw [← hdp] at c4
 rw [← hps] at c6
 have k0:((a:Nat):Int) < (n:Int):=by omega
 have f1:=fr 1
 have f4:=fr 4
 have f5:=fr 5
 have f6:=fr 6
 have HCD:=hid hcd
 have HPS:=hid hps
 have HDP:=hid hdp
 have HKD:=hid hkd
 have HTX:=hid htx
 have HTV:=hid htv
 have HP:=hid hp
 have HAA:=hid haa
 have HNN:=hid hnn
 clear fr hx hnn haa hcd hps hdp hkd htx htv hp c3
 have hgs:g < W.heap.size:=by have:=h.out.lt;have:=h.out.size;omega
 have hbs:b < W.heap.size:=h.out.size
 have ha4:(a:Int)≤40000:=by omega
 obtain ⟨A,hA⟩:∃ A,A = W.heap.size:=⟨_,rfl⟩
 obtain ⟨W1,hW1⟩:∃ W1,W1 = (W.alloc (.cells #[.int .i64 (kd:Int),.string (str tx),.int .i64 tv,.int .i64 (p:Int)] 49)).drew:=⟨_,rfl⟩
 have hb1:Below W.heap.size W W1:=by rw [hW1];exact ((Below.refl W.heap.size W).alloc (Nat.le_refl _) _).drew
 have HBX:Hid (Box4 W1 A kd tx tv p):=hid (by rw [hW1,hA];exact heap_alloc_new W _)
 have HR1:Hid (Rd W1 b g cap dv ts xb σ):=hid (h.out.below hb1)
 have HK1:Hid (RK b W W1):=hid (RK.of_below hb1 (Nat.le_of_lt hbs))
 have hbA:b≠A:=by omega
 have q1:=(hb1.cell (p:=⟨b,1,none⟩) hbs).trans c1
 have qf:=(hb1.frozen (p:=⟨b,1,none⟩) hbs).trans f1
 obtain ⟨x0,x1,x2,x3⟩:=HBX.out.cells
 have HAW:=hid hA
 clear hb1
 have q2:((kd:Int) == 2) = false:=beq_false_of_ne (by rw [HKD.out,h1];decide)
 have q1' : ((kd:Int) == 1) = true:=by rw [HKD.out,h1];rfl
 have hk5:(QA9 ts σ.at_).kind≠5:=by rw [h1];decide
 have TK:Hid (∀ W,Hid (Rd W b g cap dv ts xb σ)→Hid (Box4 W A kd tx tv p)→Calls Tryz.prog 26 #[.pointer (some ⟨b,0,none⟩),.string ⟨#[116,114,117,101]⟩] W fun r Y=>QBg b g cap dv ts xb A kd tx tv p W (.bool false) σ a r Y):=hid fun W h hx=>(QA8 [116,114,117,101] ht W h).mono fun r Y hr=>hr.box (by first | exact HAA.out.symm | (rw [HAA.out];rfl)) hx hbA
 have FK:Hid (∀ W,Hid (Rd W b g cap dv ts xb σ)→Hid (Box4 W A kd tx tv p)→Calls Tryz.prog 26 #[.pointer (some ⟨b,0,none⟩),.string ⟨#[102,97,108,115,101]⟩] W fun r Y=>QBg b g cap dv ts xb A kd tx tv p W (.bool false) σ a r Y):=hid fun W h hx=>(QA8 [102,97,108,115,101] hf W h).mono fun r Y hr=>hr.box (by first | exact HAA.out.symm | (rw [HAA.out];rfl)) hx hbA
 have IK:Hid (∀ W,Hid (Rd W b g cap dv ts xb (QA0 σ))→Hid (Box4 W A kd tx tv p)→Calls Tryz.prog 26 #[.pointer (some ⟨b,0,none⟩),.string ⟨#[105,115]⟩] W fun r Y=>QBg b g cap dv ts xb A kd tx tv p W (.bool false) (QA0 σ) (a+1) r Y):=hid fun W h hx=>(QA8 [105,115] hi W h).mono fun r Y hr=>hr.box (by first | exact HAA.out.symm | (rw [HAA.out];rfl)) hx hbA
 have LK:Hid (∀ W,Hid (Rd W b g cap dv ts xb (QA0 σ))→Hid (Box4 W A kd tx tv p)→Calls Tryz.prog 26 #[.pointer (some ⟨b,0,none⟩),.string ⟨#[40]⟩] W fun r Y=>QBg b g cap dv ts xb A kd tx tv p W (.bool true) (QA0 (QA0 σ)) (a+1+1) r Y):=hid fun W h hx=>(QAN [40] hl' W h).mono fun r Y hr=>hr.box (by first | exact HAA.out.symm | (rw [HAA.out];rfl)) hx hbA
 have RP:Hid (∀ W,Hid (Rd W b g cap dv ts xb (QA0 (QA0 σ)))→Hid (Box4 W A kd tx tv p)→Calls Tryz.prog 26 #[.pointer (some ⟨b,0,none⟩),.string ⟨#[41]⟩] W fun r Y=>QBg b g cap dv ts xb A kd tx tv p W (.bool false) (QA0 (QA0 σ)) (a+1+1) r Y):=hid fun W h hx=>(QA8 [41] hr' W h).mono fun r Y hr=>hr.box (by first | exact HAA.out.symm | (rw [HAA.out];rfl)) hx hbA
 have E1:Hid (∀ W,Hid (Rd W b g cap dv ts xb (QA0 (QA0 σ)))→Hid (Box4 W A kd tx tv p)→Calls Tryz.prog 12 #[.pointer (some ⟨b,0,none⟩)] W fun r Y=>QBg b g cap dv ts xb A kd tx tv p W (.int .i64 va) s1 s1.at_ r Y):=hid fun W h hx=>((IH.out f (Nat.le_refl _) xb).expr _ _ _ _ r1.out W h).mono fun r Y hr=>hr.box rfl hx hbA
 obtain ⟨m,hm⟩:=QD4 (ArgI W b g cap dv ts xb A kd tx tv p f R)
 have HM:=hid hm
 have hAb:b < A:=by omega
 have XLT:=hid h.out.xlt
 clear ht hf h1 hi hl' hr' hm
 go_enter Tryz.func87,Tryz.ntmps87
 go_wp2_with fail
 go_region_held3 (fun w'=>w'.cell? ⟨b,0,none⟩ = some (.slice (some ⟨g,0,none⟩) n cap)∧w'.cell? ⟨b,1,none⟩ = some (.int .i64 (a:Int))∧w'.cell? ⟨g,a*4,none⟩ = some (.int .i64 (kd:Int))∧w'.cell? ⟨g,a*4+1,none⟩ = some (.string (str tx))∧w'.cell? ⟨g,a*4+2,none⟩ = some (.int .i64 tv)∧w'.cell? ⟨g,a*4+3,none⟩ = some (.int .i64 (p:Int)))
  ((repeat' apply And.intro) <;> first | assumption | go_keep)
  (fail)
 rw [← hW1,← hA]
 clear hW1 hA t0 t1 t2 t3 c0 c1 c4 c5 c6 f1 f4 f5 f6 k0 hgs
 go_wp2_with (first
  | (go_at_call 26;(with_reducible refine (TK.out W1 HR1 HBX).mono ?_);rintro e w2 ⟨rfl,y0,y1,y3,yb,yf,HR2,HK2,HX2⟩)
  | (go_at_call 26;(with_reducible refine (FK.out w2 HR2 HX2).mono ?_);rintro e w3 ⟨rfl,y0,y1,y3,yb,yf,HR3,HK3,HX3⟩)
  | (go_at_call 26;(with_reducible refine (IK.out _ (QGi HR3 hk5 HAA) (QEb HX3 hbA _)).mono ?_);rintro e w4 ⟨rfl,y0,y1,y3,yb,yf,HR4,HK4,HX4⟩)
  | (go_at_call 26;(with_reducible refine (LK.out w4 HR4 HX4).mono ?_);rintro e w5 ⟨rfl,y0,y1,y3,yb,yf,HR5,HK5,HX5⟩)
  | (go_at_call 26;(with_reducible refine (RP.out w5 HR5 HX5).mono ?_);rintro e w6 ⟨rfl,y0,y1,y3,yb,yf,HR6,HK6,HX6⟩)
  | (go_at_call 12;(with_reducible refine (E1.out w6 HR6 HX6).mono ?_);rintro e w7 ⟨rfl,y0,y1,y3,yb,yf,HR7,HK7,HX7⟩)
  | (at_builtin;refine QGF _ rfl _ _ rfl (A+1) (.slice none 0 0) 0 [] rfl (World.ownsRow_nil _ _ _ _) ⟨w7.heap.size,0,none⟩ [.int .i64 va] rfl rfl (QJE w7 _ _) (by simp [Value.oneCell']) (by omega) (by have:=QBn HX7.out;simp;omega) ?_;intro g8 c8 w8 ho8 hg8 hl8 hlt8;have HO8:=hid ho8;have HG8:=hid hg8;have HL8:=hid hl8;have HLT8:=hid hlt8;clear ho8 hg8 hl8 hlt8))
 have HKW:=hid (HK1.out.trans (HK2.out.trans (HK3.out.trans ((RK.set 1 _).trans (HK4.out.trans (HK5.out.trans (HK6.out.trans HK7.out)))))))
 have HALL:Hid (ArgAll W w8 b g cap dv ts xb A kd tx tv p s1 [va] (.slice (some ⟨g8,0,none⟩) 1 c8)):=hid (by
  have h0:ArgAll W w7 b g cap dv ts xb A kd tx tv p s1 [] (.slice none 0 0):=⟨⟨World.ownsRow_nil _ _ _ _,HR7.out.less fun k hk=>by rcases hk with hk | hk;exact hk;cases hk⟩,HX7.out,HKW.out⟩
  exact h0.push hAb HAW.out HG8.out HO8.out HL8.out HLT8.out)
 clear y0 y1 y3 yb yf q1 qf x0 x1 x2 x3
 go_loopw [4] (fun v wr=>∃ o nn c,v = .slice o nn c∧Hid (∃ n,ArgI W b g cap dv ts xb A kd tx tv p f R n (v,wr))) (fun v wr=>m (v,wr))
 case atStart=>exact ⟨_,_,_,rfl,hid ⟨f,[va],s1,Nat.le_refl _,r2.out,HALL.out⟩⟩
 case round =>
  obtain ⟨ov,nv,cv,rfl,hI⟩:=hrel
  obtain ⟨hm1,hm2⟩:=HM.out _ hI.out
  obtain ⟨acc,τ,hnf,hrun,hall⟩:=hm1
  obtain ⟨nn,hmn⟩:∃ nn,nn = m (.slice ov nv cv,wr):=⟨_,rfl⟩
  rw [← hmn] at hnf hrun
  obtain ⟨k,rfl,hacc,hcase⟩:=QJf hrun
  have HALLr:=hid hall
  have HMN:=hid hmn
  have HACC:=hid hacc
  have HNV:Hid (nv = acc.length):=hid (by obtain ⟨o',c',e⟩:=QDo hall.st.own;injection e)
  have HRr:=hid hall.st.rd
  clear hrun hmn hm2 hI hall hacc
  rcases hcase with ⟨hc,v3,l3,y,r3,r4⟩ | ⟨hc,hR⟩
  ·have TC:=hid (QAN (b:=b) (g:=g) (cap:=cap) (dv:=dv) (ts:=ts) (xb:=fun k=>xb k∨(Value.slice ov nv cv).ownBlock = some k) (σ:=τ) [44] hc wr HRr)
   have TC' : Hid (Calls Tryz.prog 26 #[.pointer (some ⟨b,0,none⟩),.string ⟨#[44]⟩] wr fun r Y=>RdRet b g cap dv ts (fun k=>xb k∨(Value.slice ov nv cv).ownBlock = some k) wr (.bool true) (QA0 τ) r Y):=TC
   have E3:=hid ((IH.out k (by omega) (fun k=>xb k∨(Value.slice ov nv cv).ownBlock = some k)).expr _ _ _ _ r3)
   have HR4':=hid r4
   clear TC hc r3 r4
   go_wp2_with (first
    | (go_at_call 26;(with_reducible refine TC'.out.mono ?_);rintro e w9 ⟨rfl,hr,hk⟩;have HR9:=hid hr;have HK9:=hid hk;clear hr hk)
    | (go_at_call 12;(with_reducible refine (E3.out w9 HR9).mono ?_);rintro e wa ⟨rfl,hr,hk⟩;have HRa:=hid hr;have HKa:=hid hk;clear hr hk;have HALLa:=hid (HALLr.out.call hAb HRa.out (HK9.out.trans HKa.out)))
    | (at_builtin;refine QGF _ rfl _ _ rfl (A+1) (.slice ov nv cv) nv (acc.map QLi) rfl (by have:=HALLa.out.st.own;rw [← HNV.out] at this;exact this.alloc _) ⟨wa.heap.size,0,none⟩ [.int .i64 v3] rfl rfl (QJE wa _ _) (by simp [Value.oneCell']) (by have:=HACC.out;have:=HNV.out;omega) (by have:=QBn HALLa.out.box;simp;omega) ?_;intro gb cb wb hob hgb' hlb hltb;have HOb:=hid hob;have HGb:=hid hgb';have HLb:=hid hlb;have HLTb:=hid hltb;clear hob hgb' hlb hltb))
   have HI:ArgI W b g cap dv ts xb A kd tx tv p f R k (.slice (some ⟨gb,0,none⟩) (nv+1) cb,wb):=⟨acc ++ [v3],y,by omega,HR4'.out,by
    have h6:=HOb.out
    have h7:=HNV.out
    subst h7
    exact HALLa.out.push hAb HAW.out HGb.out h6 HLb.out HLTb.out⟩
   exact ⟨⟨_,_,_,rfl,hid ⟨k,HI⟩⟩,by have h5:=(HM.out _ ⟨k,HI⟩).2 k HI;have h6:=HMN.out;omega⟩
  ·have HRE:=hid hR
   have TC:Hid (Calls Tryz.prog 26 #[.pointer (some ⟨b,0,none⟩),.string ⟨#[44]⟩] wr fun r Y=>RdRet b g cap dv ts (fun k=>xb k∨(Value.slice ov nv cv).ownBlock = some k) wr (.bool false) τ r Y):=hid (QA8 (b:=b) (g:=g) (cap:=cap) (dv:=dv) (ts:=ts) (xb:=fun k=>xb k∨(Value.slice ov nv cv).ownBlock = some k) (σ:=τ) [44] hc wr HRr)
   have WP:Hid (∀ W,Hid (Rd W b g cap dv ts (fun k=>xb k∨(Value.slice ov nv cv).ownBlock = some k) τ)→Calls Tryz.prog 27 #[.pointer (some ⟨b,0,none⟩),.string ⟨#[41]⟩] W fun r Y=>RdRet b g cap dv ts (fun k=>xb k∨(Value.slice ov nv cv).ownBlock = some k) W (.tuple #[]) (QA3 ts [41] τ) r Y):=hid fun W h=>QAF b g cap dv ts _ τ [41] W h
   have PU:Hid (∀ Y,Hid (ArgAll W Y b g cap dv ts xb A kd tx tv p (QA3 ts [41] τ) acc (.slice ov nv cv))→Calls Tryz.prog 28 #[.pointer (some ⟨b,0,none⟩),.agg #[.int .i64 19,.int .i64 0,.int .i64 0,.int .i64 0,.string (str tx),.string ⟨#[]⟩,.int .i64 0,.slice ov nv cv,.int .i64 (p:Int)]] Y fun r Z=>RdRet b g cap dv ts xb Y (.int .i64 ((QA3 ts [41] τ).exprs.length:Int)) (QBQ { ex0 with kind:=19,name:=str tx,args:=acc,pos:=(p:Int) } (QA3 ts [41] τ)) r Z):=hid fun Y hY =>
    QCK b g cap dv ts xb (QA3 ts [41] τ) { ex0 with kind:=19,name:=str tx,args:=acc,pos:=(p:Int) } ov nv cv Y (hid (hY.out.st.rd.less fun k hk=>.inl hk)) (QAm.1 (by have h5:=ok.out;rw [HRE.out] at h5;exact h5)).1 (hid (QBf hY.out.st.own (by omega))) (hid fun k hk hx=>by
     have h6:=(hY.out.st.own.lt k hk).1
     have h7:=XLT.out k hx
     have h8:=HAW.out
     omega)
   clear hc hR
   go_wp2_with (first
    | (go_at_call 26;(with_reducible refine TC.out.mono ?_);rintro e w9 ⟨rfl,hr,hk⟩;have HR9:=hid hr;have HK9:=hid hk;clear hr hk)
    | (go_at_call 27;(with_reducible refine (WP.out w9 HR9).mono ?_);rintro e wa ⟨rfl,hr,hk⟩;have HRa:=hid hr;have HKa:=hid hk;clear hr hk;have HALLa:=hid (HALLr.out.call hAb HRa.out (HK9.out.trans HKa.out));obtain ⟨z0,z1,_,z3⟩:=HALLa.out.box.cells)
    | (go_at_call 28;(with_reducible refine (PU.out wa HALLa).mono ?_);rintro e wb ⟨rfl,hr,hk⟩;have HRb:=hid hr;have HKb:=hid hk;clear hr hk))
   go_ret
   rw [← HP.out,← HTX.out,HRE.out]
   exact ⟨rfl,HRb.out,HALLa.out.rk.trans HKb.out⟩
def preA:Array Value:=(prefixL.map fun p=>Value.string (str p.1)).toArray
def preB:Array Value:=(prefixL.map fun p=>Value.int .i64 p.2).toArray
theorem QHz {W:World} {k:Nat} {cs:Array Value} {T:TypeId} {fr:Nat × Nat} (h:W.heap[k]? = some (.cells cs T fr)) {j:Nat} {v:Value} (hv:cs[j]? = some v):W.cell? ⟨k,j,none⟩ = some v:=by simp [World.cell?,h,hv]
theorem QMI {α:Type} {l:List α} {f:α→Value} {j:Nat} {x:α} (h:l[j]? = some x):((l.map f).toArray)[j]? = some (f x):=by rw [List.getElem?_toArray,List.getElem?_map,h];rfl
theorem NoEx.str {cs:Array Value}:NoEx (.cells cs 9 (0,0)):=fun cs' h=>by cases h
structure PreL (W:World) (A:Nat):Prop where
 one:W.heap[A]? = some (.cells preA 9 (0,0))
 two:W.heap[A+1]? = some (.cells preB 3 (0,0))
theorem PreL.keep {b A:Nat} {W Y:World} (h:PreL W A) (hk:RK b W Y) (hb:b < A):PreL Y A:=⟨hk.keep A _ h.one (by omega) .str,hk.keep (A+1) _ h.two (by omega) .int⟩
theorem PreL.new (w:World):PreL ((w.alloc (.cells preA 9)).alloc (.cells preB 3)) w.heap.size:=by
 refine ⟨?_,?_⟩
 ·rw [heap_alloc_old _ _ (by simp)];exact heap_alloc_new w _
 ·have:=heap_alloc_new (w.alloc (.cells preA 9)) (.cells preB 3);rwa [World.size_alloc] at this
theorem QG2 {p:List UInt8 × Int} (h:p∈prefixL):p.2≠0∧0≤p.2∧p.2≤21:=by
 have:∀ p∈prefixL,p.2≠0∧0≤p.2∧p.2≤21:=by decide
 exact this p h
set_option maxRecDepth 100000 in
theorem pre_bad (b g cap:Nat) (dv:Value) (ts:List Tok) (xb:Nat→Prop) (σ:RS) (hok:okS σ = true) (hc:Hid ((QAJ ts σ).code≠0)) (W:World) (h:Hid (Rd W b g cap dv ts xb σ)) :
  Calls Tryz.prog 57 #[.pointer (some ⟨b,0,none⟩)] W fun r Y=>RdRet b g cap dv ts xb W (.int .i64 0) (QAf (QAJ ts σ)) r Y:=by
 obtain ⟨_,d0,d1⟩:=QAm.1 hok
 have hd:=QFt ts σ
 obtain ⟨d,hdd⟩:∃ d,d = (QAJ ts σ).deep:=⟨_,rfl⟩
 have dd0:0≤d:=by omega
 have dd1:d≤31:=by omega
 have EN:Hid (Calls Tryz.prog 25 #[.pointer (some ⟨b,0,none⟩)] W fun r Y=>QDZ b g cap dv ts xb W (.bool false) (QAJ ts σ) d r Y):=hid ((QBh b g cap dv ts xb σ W h d0 d1).mono fun r Y hr=>by
  rw [decide_eq_false hc.out] at hr
  exact hr.deep hdd.symm)
 have HD:=hid hdd
 clear hd hdd hok d0 d1
 go_enter Tryz.func57,Tryz.ntmps57
 go_wp2_with (go_at_call 25;(with_reducible refine EN.out.mono ?_);rintro e w1 ⟨rfl,z4,z5,HR,HK⟩)
 go_ret
 rw [HD.out]
 exact ⟨rfl,HR.out.setDeep _,HK.out.trans (RK.set 4 _)⟩
set_option maxRecDepth 100000 in
theorem QO2 (b g cap:Nat) (dv:Value) (ts:List Tok) (xb:Nat→Prop) (f:Nat) (IH:Hid (FC b g cap dv ts xb f)) (σ x:RS) (hx:Hid (x = QAJ ts σ)) (hok:okS σ = true) (hc:Hid (x.code = 0)) (hK:Hid (QAo ts x prefixL = 0)) (v:Int) (l:List Int) (y:RS)
  (r1:Hid (QAh ts f .atom x = some (v,l,y))) (oky:okS y = true) (W:World) (h:Hid (Rd W b g cap dv ts xb σ)) :
  Calls Tryz.prog 57 #[.pointer (some ⟨b,0,none⟩)] W fun r Y=>RdRet b g cap dv ts xb W (.int .i64 v) (QAf y) r Y:=by
 obtain ⟨_,d0,d1⟩:=QAm.1 hok
 obtain ⟨k4,e0,e1⟩:=QAm.1 oky
 have EN:Hid (Calls Tryz.prog 25 #[.pointer (some ⟨b,0,none⟩)] W fun r Y=>RdRet b g cap dv ts xb W (.bool true) x r Y):=hid ((QBh b g cap dv ts xb σ W h d0 d1).mono fun r Y hr=>by
  rwa [← hx.out,decide_eq_true hc.out] at hr)
 have TF:=hid (fun s hs W h=>QA8 (b:=b) (g:=g) (cap:=cap) (dv:=dv) (ts:=ts) (xb:=xb) (σ:=x) s hs W h)
 obtain ⟨d,hdd⟩:∃ d,d = y.deep:=⟨_,rfl⟩
 rw [← hdd] at e0 e1
 have AT:Hid (∀ W,Hid (Rd W b g cap dv ts xb x)→Calls Tryz.prog 87 #[.pointer (some ⟨b,0,none⟩)] W fun r Y=>QDZ b g cap dv ts xb W (.int .i64 v) y d r Y):=hid fun W h=>(IH.out.atom _ _ _ _ hc.out r1.out W h).mono fun r Y hr=>hr.deep hdd.symm
 have HNO:Hid (∀ p∈prefixL,isS ts p.1 x = false):=hid (by
  intro p hp
  have hk:=hK.out
  unfold QAo at hk
  cases hf:prefixL.find? fun p=>isS ts p.1 x with
  | none=>simpa using List.find?_eq_none.1 hf p hp
  | some q=>rw [hf] at hk;exact absurd hk (QG2 (List.mem_of_find?_eq_some hf)).1)
 have HD:=hid hdd
 clear hdd hok oky d0 d1 k4
 go_enter Tryz.func57,Tryz.ntmps57
 go_wp2_with (go_at_call 25;(with_reducible refine EN.out.mono ?_);rintro e w1 ⟨rfl,hr,hk⟩;have HR:=hid hr;have HK:=hid hk;clear hr hk)
 obtain ⟨o,c,⟨c0,c1,c3,c4,c5,c6,fr⟩,hx⟩:=HR.out.cells
 have ht:=HR.out.tok
 have hgb:g≠b:=by have:=HR.out.lt;omega
 have hl:=HR.out.at_
 have hn:=HR.out.len
 obtain ⟨t0,t1,t2,t3⟩:=ht
 obtain ⟨n,hnn⟩:∃ n,n = ts.length:=⟨_,rfl⟩
 obtain ⟨a,haa⟩:∃ a,a = x.at_:=⟨_,rfl⟩
 obtain ⟨cd,hcd⟩:∃ cd,cd = x.code:=⟨_,rfl⟩
 obtain ⟨ps,hps⟩:∃ ps,ps = x.pos:=⟨_,rfl⟩
 obtain ⟨dp,hdp⟩:∃ dp,dp = x.deep:=⟨_,rfl⟩
 obtain ⟨kd,hkd⟩:∃ kd,kd = (QA9 ts x.at_).kind:=⟨_,rfl⟩
 obtain ⟨tx,htx⟩:∃ tx,tx = (QA9 ts x.at_).text:=⟨_,rfl⟩
 obtain ⟨tv,htv⟩:∃ tv,tv = (QA9 ts x.at_).v:=⟨_,rfl⟩
 obtain ⟨p,hp⟩:∃ p,p = (QA9 ts x.at_).at_:=⟨_,rfl⟩
 rw [← hnn] at c0 hl hn
 rw [← hkd] at t0
 rw [← htx] at t1
 rw [← htv] at t2
 rw [← hp] at t3
 rw [← haa] at c1 t0 t1 t2 t3 hl
 rw [← hcd] at c5
 rw [← hdp] at c4
 rw [← hps] at c6
 have k0:((a:Nat):Int) < (n:Int):=by omega
 have f1:=fr 1
 have f4:=fr 4
 have f5:=fr 5
 have f6:=fr 6
 have HCD:=hid hcd
 have HPS:=hid hps
 have HDP:=hid hdp
 have HKD:=hid hkd
 have HTX:=hid htx
 have HTV:=hid htv
 have HP:=hid hp
 have HAA:=hid haa
 have HNN:=hid hnn
 clear fr hx hnn haa hcd hps hdp hkd htx htv hp c3
 go_quiet (fail)
 have HX:Hid (Rd (w1.drewN nq) b g cap dv ts xb x):=hid (HR.out.below (QAE (Below.refl _ _) _))
 have HXK:Hid (RK b W (w1.drewN nq)):=hid (HK.out.trans (RK.of_below (QAE (Below.refl _ _) _) (Nat.le_of_lt HR.out.size)))
 have hbA:b < w1.heap.size:=HR.out.size
 clear HCD HPS HDP HKD HTX HTV HAA HNN
 clear t0 t1 t2 t3 c0 c1 c4 c5 c6 f1 f4 f5 f6 k0 hl hn hgb
 go_wp2_with fail
 change Code.wp _ _ _ _ (((w1.drewN nq).alloc (.cells preA 9)).alloc (.cells preB 3))
 obtain ⟨V,hV⟩:∃ V,V = ((w1.drewN nq).alloc (.cells preA 9)).alloc (.cells preB 3):=⟨_,rfl⟩
 have HPL:Hid (PreL V w1.heap.size):=hid (by rw [hV];exact PreL.new (w1.drewN nq))
 have HVX:Hid (Rd V b g cap dv ts xb x):=hid (by rw [hV];exact (HX.out.alloc _).alloc _)
 have HVK:Hid (RK b W V):=hid (by rw [hV];exact HXK.out.trans (RK.of_below (((Below.refl _ _).alloc (Nat.le_refl _) _).alloc (by simp) _) (Nat.le_of_lt HX.out.size)))
 rw [← hV]
 clear hV
 go_loopw [7,8] (fun kv i wr=>∃ j:Nat,j≤4∧kv = .int .i64 0∧i = .int .i64 (j:Int)∧Hid (Rd wr b g cap dv ts xb x∧RK b V wr)) (fun _ i _=>4 - QA2 i)
 case atStart=>exact ⟨0,by omega,rfl,rfl,hid ⟨HVX.out,RK.refl _ _⟩⟩
 case round =>
  obtain ⟨j,hj,rfl,rfl,hI⟩:=hrel
  rcases Nat.lt_or_ge j 4 with hlt | hge
  ·have q3:decide ((j:Int) < 4) = true:=decide_eq_true (by omega)
   have jr:(j:Int) < 4:=by omega
   obtain ⟨q,hq⟩:∃ q,prefixL[j]? = some q:=⟨prefixL[j]'(by show j < 4;exact hlt),List.getElem?_eq_getElem _⟩
   have hPL:=HPL.out.keep hI.out.2 hbA
   have x1:=QHz hPL.one (QMI (f:=fun p:List UInt8 × Int=>Value.string (str p.1)) hq)
   have C:=hid (TF.out q.1 (HNO.out q (List.mem_of_getElem? hq)) wr (hid hI.out.1))
   clear hPL hq
   go_wp2_with (go_at_call 26;(with_reducible refine C.out.mono ?_);rintro e w2 ⟨rfl,hr,hk⟩;have HR2:=hid hr;have HK2:=hid hk;clear hr hk)
   exact ⟨⟨j+1,by omega,rfl,rfl,hid ⟨HR2.out,hI.out.2.trans HK2.out⟩⟩,by simp [QA2];omega⟩
  ·have q3:decide ((j:Int) < 4) = false:=decide_eq_false (by omega)
   have C:=hid (AT.out wr (hid hI.out.1))
   go_wp2_with (go_at_call 87;(with_reducible refine C.out.mono ?_);rintro e w2 ⟨rfl,z4,z5,HR2,HK2⟩)
   go_ret
   rw [HD.out]
   exact ⟨rfl,HR2.out.setDeep _,HVK.out.trans (hI.out.2.trans (HK2.out.trans (RK.set 4 _)))⟩
theorem QEO {ts:List Tok} {x:RS}:∀ (l:List (List UInt8 × Int)),QAo ts x l≠0→∃ (j:Nat) (s:List UInt8),l[j]? = some (s,QAo ts x l)∧isS ts s x = true∧∀ (i:Nat) (q:List UInt8 × Int),i < j→l[i]? = some q→isS ts q.1 x = false
 | [],h=>absurd rfl h
 | p :: l,h=>by
  cases hp:isS ts p.1 x with
  | true =>
   have e:QAo ts x (p :: l) = p.2:=by unfold QAo;rw [List.find?_cons,hp]
   exact ⟨0,p.1,by rw [e];simp,hp,fun i q hi _=>by omega⟩
  | false =>
   have e:QAo ts x (p :: l) = QAo ts x l:=by unfold QAo;rw [List.find?_cons,hp]
   rw [e] at h ⊢
   obtain ⟨j,s,h1,h2,h3⟩:=QEO l h
   refine ⟨j+1,s,by simpa using h1,h2,fun i q hi hq=>?_⟩
   cases i with
   | zero =>
     obtain rfl:p = q:=by simpa using hq
     exact hp
   | succ i=>exact h3 i q (by omega) (by simpa using hq)
set_option maxRecDepth 100000 in
theorem QO3 (b g cap:Nat) (dv:Value) (ts:List Tok) (xb:Nat→Prop) (f:Nat) (IH:Hid (FC b g cap dv ts xb f)) (σ x:RS) (hx:Hid (x = QAJ ts σ)) (hok:okS σ = true) (hc:Hid (x.code = 0)) (K:Int) (hK0:K≠0) (k0' : 0≤K) (k21:K≤21) (j0:Nat) (s0:List UInt8) (hj0:j0 < 4) (hs0:Hid (prefixL[j0]? = some (s0,K))) (hit:Hid (isS ts s0 x = true)) (hno:Hid (∀ i q,i < j0→prefixL[i]? = some q→isS ts q.1 x = false))
  (v:Int) (l:List Int) (y:RS) (r1:Hid (QAh ts f .pre (QA0 x) = some (v,l,y))) (oky:okS y = true) (W:World) (h:Hid (Rd W b g cap dv ts xb σ)) :
  Calls Tryz.prog 57 #[.pointer (some ⟨b,0,none⟩)] W fun r Y=>RdRet b g cap dv ts xb W (.int .i64 (y.exprs.length:Int)) (QAf (QBQ { ex0 with kind:=K,a:=v,pos:=((QA9 ts x.at_).at_:Int) } y)) r Y:=by
 obtain ⟨_,d0,d1⟩:=QAm.1 hok
 obtain ⟨k4,e0,e1⟩:=QAm.1 oky
 have EN:Hid (Calls Tryz.prog 25 #[.pointer (some ⟨b,0,none⟩)] W fun r Y=>RdRet b g cap dv ts xb W (.bool true) x r Y):=hid ((QBh b g cap dv ts xb σ W h d0 d1).mono fun r Y hr=>by
  rwa [← hx.out,decide_eq_true hc.out] at hr)
 have TF:=hid (fun s hs W h=>QA8 (b:=b) (g:=g) (cap:=cap) (dv:=dv) (ts:=ts) (xb:=xb) (σ:=x) s hs W h)
 obtain ⟨d,hdd⟩:∃ d,d = y.deep:=⟨_,rfl⟩
 rw [← hdd] at e0 e1
 have TT:=hid (fun W h=>QAN (b:=b) (g:=g) (cap:=cap) (dv:=dv) (ts:=ts) (xb:=xb) (σ:=x) s0 hit.out W h)
 have PR:=hid (IH.out.pre _ _ _ _ r1.out)
 have PU:Hid (∀ (p:Nat) W,Hid (Rd W b g cap dv ts xb y)→Calls Tryz.prog 28 #[.pointer (some ⟨b,0,none⟩),.agg #[.int .i64 K,.int .i64 v,.int .i64 0,.int .i64 0,.string ⟨#[]⟩,.string ⟨#[]⟩,.int .i64 0,.slice none 0 0,.int .i64 (p:Int)]] W fun r Y=>QDZ b g cap dv ts xb W (.int .i64 (y.exprs.length:Int)) (QBQ { ex0 with kind:=K,a:=v,pos:=(p:Int) } y) d r Y) :=
  hid fun p W h=>(QCK b g cap dv ts xb y { ex0 with kind:=K,a:=v,pos:=(p:Int) } none 0 0 W h k4 (hid (World.ownsRow_nil _ _ _ _)) (hid fun k hk=>by cases hk)).mono fun r Y hr=>hr.deep hdd.symm
 have HD:=hid hdd
 have qK:(K == 0) = false:=beq_false_of_ne hK0
 clear hdd hok oky d0 d1 k4 hK0
 go_enter Tryz.func57,Tryz.ntmps57
 go_wp2_with (go_at_call 25;(with_reducible refine EN.out.mono ?_);rintro e w1 ⟨rfl,hr,hk⟩;have HR:=hid hr;have HK:=hid hk;clear hr hk)
 obtain ⟨o,c,⟨c0,c1,c3,c4,c5,c6,fr⟩,hx⟩:=HR.out.cells
 have ht:=HR.out.tok
 have hgb:g≠b:=by have:=HR.out.lt;omega
 have hl:=HR.out.at_
 have hn:=HR.out.len
 obtain ⟨t0,t1,t2,t3⟩:=ht
 obtain ⟨n,hnn⟩:∃ n,n = ts.length:=⟨_,rfl⟩
 obtain ⟨a,haa⟩:∃ a,a = x.at_:=⟨_,rfl⟩
 obtain ⟨cd,hcd⟩:∃ cd,cd = x.code:=⟨_,rfl⟩
 obtain ⟨ps,hps⟩:∃ ps,ps = x.pos:=⟨_,rfl⟩
 obtain ⟨dp,hdp⟩:∃ dp,dp = x.deep:=⟨_,rfl⟩
 obtain ⟨kd,hkd⟩:∃ kd,kd = (QA9 ts x.at_).kind:=⟨_,rfl⟩
 obtain ⟨tx,htx⟩:∃ tx,tx = (QA9 ts x.at_).text:=⟨_,rfl⟩
 obtain ⟨tv,htv⟩:∃ tv,tv = (QA9 ts x.at_).v:=⟨_,rfl⟩
 obtain ⟨p,hp⟩:∃ p,p = (QA9 ts x.at_).at_:=⟨_,rfl⟩
 rw [← hnn] at c0 hl hn
 rw [← hkd] at t0
 rw [← htx] at t1
 rw [← htv] at t2
 rw [← hp] at t3
 rw [← haa] at c1 t0 t1 t2 t3 hl
 rw [← hcd] at c5
 rw [← hdp] at c4
 rw [← hps] at c6
 have k0:((a:Nat):Int) < (n:Int):=by omega
 have f1:=fr 1
 have f4:=fr 4
 have f5:=fr 5
 have f6:=fr 6
 have HCD:=hid hcd
 have HPS:=hid hps
 have HDP:=hid hdp
 have HKD:=hid hkd
 have HTX:=hid htx
 have HTV:=hid htv
 have HP:=hid hp
 have HAA:=hid haa
 have HNN:=hid hnn
 clear fr hx hnn haa hcd hps hdp hkd htx htv hp c3
 go_quiet (fail)
 have HX:Hid (Rd (w1.drewN nq) b g cap dv ts xb x):=hid (HR.out.below (QAE (Below.refl _ _) _))
 have HXK:Hid (RK b W (w1.drewN nq)):=hid (HK.out.trans (RK.of_below (QAE (Below.refl _ _) _) (Nat.le_of_lt HR.out.size)))
 have hbA:b < w1.heap.size:=HR.out.size
 clear HCD HPS HDP HKD HTX HTV HAA HNN
 clear t0 t1 t2 t3 c0 c1 c4 c5 c6 f1 f4 f5 f6 k0 hl hn hgb
 go_wp2_with fail
 change Code.wp _ _ _ _ (((w1.drewN nq).alloc (.cells preA 9)).alloc (.cells preB 3))
 obtain ⟨V,hV⟩:∃ V,V = ((w1.drewN nq).alloc (.cells preA 9)).alloc (.cells preB 3):=⟨_,rfl⟩
 have HPL:Hid (PreL V w1.heap.size):=hid (by rw [hV];exact PreL.new (w1.drewN nq))
 have HVX:Hid (Rd V b g cap dv ts xb x):=hid (by rw [hV];exact (HX.out.alloc _).alloc _)
 have HVK:Hid (RK b W V):=hid (by rw [hV];exact HXK.out.trans (RK.of_below (((Below.refl _ _).alloc (Nat.le_refl _) _).alloc (by simp) _) (Nat.le_of_lt HX.out.size)))
 rw [← hV]
 clear hV
 go_loopw [7,8] (fun kv i wr=>∃ (j:Nat) (k:Int),j≤4∧kv = .int .i64 k∧i = .int .i64 (j:Int)∧Hid (RK b V wr)∧((j≤j0∧k = 0∧Hid (Rd wr b g cap dv ts xb x))∨(j = j0+1∧k = K∧Hid (Rd wr b g cap dv ts xb (QA0 x))))) (fun _ i _=>4 - QA2 i)
 case atStart=>exact ⟨0,0,by omega,rfl,rfl,hid (RK.refl _ _),.inl ⟨by omega,rfl,HVX⟩⟩
 case round =>
  obtain ⟨j,k,hj,rfl,rfl,hRK,hcase⟩:=hrel
  rcases hcase with ⟨hjj,rfl,hR⟩ | ⟨hjj,rfl,hR⟩
  ·have q3:decide ((j:Int) < 4) = true:=decide_eq_true (by omega)
   have jr:(j:Int) < 4:=by omega
   obtain ⟨q,hq⟩:∃ q,prefixL[j]? = some q:=⟨prefixL[j]'(by show j < 4;omega),List.getElem?_eq_getElem _⟩
   have hPL:=HPL.out.keep hRK.out hbA
   have x1:=QHz hPL.one (QMI (f:=fun p:List UInt8 × Int=>Value.string (str p.1)) hq)
   have HQ:=hid hq
   have HPLr:=hid hPL
   clear hPL hq
   rcases Nat.lt_or_ge j j0 with hlt | hge
   ·have C:=hid (TF.out q.1 (hno.out j q hlt HQ.out) wr hR)
    go_wp2_with (go_at_call 26;(with_reducible refine C.out.mono ?_);rintro e w2 ⟨rfl,hr,hk⟩;have HR2:=hid hr;have HK2:=hid hk;clear hr hk)
    exact ⟨⟨j+1,0,by omega,rfl,rfl,hid (hRK.out.trans HK2.out),.inl ⟨by omega,rfl,HR2⟩⟩,by simp [QA2];omega⟩
   ·have HJ:Hid (j0 = j):=hid (by omega)
    have HQQ:Hid (q = (s0,K)):=hid (by have h1:=HQ.out;have h2:=hs0.out;rw [HJ.out] at h2;rw [h1] at h2;exact Option.some.inj h2)
    rw [HQQ.out] at x1
    dsimp only at x1
    have C:Hid (Calls Tryz.prog 26 #[.pointer (some ⟨b,0,none⟩),.string (str s0)] wr fun r Y=>r = .returned (.bool true)∧Y.cell? ⟨w1.heap.size+1,j,none⟩ = some (.int .i64 K)∧Hid (Rd Y b g cap dv ts xb (QA0 x))∧Hid (RK b wr Y)):=hid ((TT.out wr hR).mono fun r Y ⟨e1,e2,e3⟩=>⟨e1,by
      have hp2:=HPLr.out.keep e3 hbA
      have hq2:=HQ.out
      rw [HQQ.out] at hq2
      exact QHz hp2.two (QMI (f:=fun p:List UInt8 × Int=>Value.int .i64 p.2) hq2),hid e2,hid e3⟩)
    go_wp2_with (go_at_call 26;(with_reducible refine C.out.mono ?_);rintro e w2 ⟨rfl,y2,HR2,HK2⟩)
    exact ⟨⟨j+1,K,by omega,rfl,rfl,hid (hRK.out.trans HK2.out),.inr ⟨by have:=HJ.out;omega,rfl,HR2⟩⟩,by simp [QA2];omega⟩
  ·have C:=hid (PR.out wr hR)
   rcases Nat.lt_or_ge j 4 with hlt | hge
   ·have q3:decide ((j:Int) < 4) = true:=decide_eq_true (by omega)
    clear hjj
    go_wp2_with (first
     | (go_at_call 57;(with_reducible refine C.out.mono ?_);rintro e w2 ⟨rfl,hr,hk⟩;have HR2:=hid hr;have HK2:=hid hk;clear hr hk)
     | (go_at_call 28;(with_reducible refine (PU.out p w2 HR2).mono ?_);rintro e w8 ⟨rfl,z4,z5,HR8,HK8⟩))
    go_ret
    rw [← HP.out,HD.out]
    exact ⟨rfl,HR8.out.setDeep _,HVK.out.trans (hRK.out.trans (HK2.out.trans (HK8.out.trans (RK.set 4 _))))⟩
   ·have q3:decide ((j:Int) < 4) = false:=decide_eq_false (by omega)
    clear hjj
    go_wp2_with (first
     | (go_at_call 57;(with_reducible refine C.out.mono ?_);rintro e w2 ⟨rfl,hr,hk⟩;have HR2:=hid hr;have HK2:=hid hk;clear hr hk)
     | (go_at_call 28;(with_reducible refine (PU.out p w2 HR2).mono ?_);rintro e w8 ⟨rfl,z4,z5,HR8,HK8⟩))
    go_ret
    rw [← HP.out,HD.out]
    exact ⟨rfl,HR8.out.setDeep _,HVK.out.trans (hRK.out.trans (HK2.out.trans (HK8.out.trans (RK.set 4 _))))⟩
theorem pre_any (b g cap:Nat) (dv:Value) (ts:List Tok) (xb:Nat→Prop) (f:Nat) (IH:FC b g cap dv ts xb f) (σ:RS) (v:Int) (l:List Int) (τ:RS) (hr:QAh ts (f+1) .pre σ = some (v,l,τ)) (W:World) (h:Hid (Rd W b g cap dv ts xb σ)) :
  Calls Tryz.prog 57 #[.pointer (some ⟨b,0,none⟩)] W fun r Y=>RdRet b g cap dv ts xb W (.int .i64 v) τ r Y:=by
 obtain ⟨hok,hcase⟩:=QMJ hr
 rcases hcase with ⟨hc,e⟩ | ⟨hc,hk,v',l',y,r1,oky,e⟩ | ⟨hc,hk,v',l',y,r1,oky,e⟩
 ·cases e
  exact pre_bad b g cap dv ts xb σ hok (hid hc) W h
 ·cases e
  exact QO2 b g cap dv ts xb f (hid IH) σ _ (hid rfl) hok (hid hc) (hid hk) v l' y (hid r1) oky W h
 ·obtain ⟨j0,s0,h1,h2,h3⟩:=QEO prefixL hk
  have hp:=QG2 (List.mem_of_getElem? h1)
  have hj:j0 < 4:=(List.getElem?_eq_some_iff.1 h1).1
  cases e
  exact QO3 b g cap dv ts xb f (hid IH) σ _ (hid rfl) hok (hid hc) _ hp.1 hp.2.1 hp.2.2 j0 s0 hj (hid h1) (hid h2) (hid h3) v' l' y (hid r1) oky W h
def BinI (ts:List Tok) (xb:Nat→Prop) (b g cap:Nat) (dv:Value) (least f:Nat) (R:Int × List Int × RS) (W:World) (n:Nat) (x:Value × World):Prop :=
 ∃ (a:Int) (σ:RS),x.1 = .int .i64 a∧n≤f∧QAh ts n (.loop least a) σ = some R∧Rd x.2 b g cap dv ts xb σ∧RK b W x.2
set_option maxRecDepth 100000 in
theorem QN7 (b g cap:Nat) (dv:Value) (ts:List Tok) (xb:Nat→Prop) (f:Nat) (least:Nat) (h1:1≤least) (h5:least≤5) (IH:Hid (∀ k,k≤f→FC b g cap dv ts xb k)) (σ σ1:RS) (a0:Int) (la:List Int) (R:Int × List Int × RS)
  (ha:Hid (QAh ts f (.bin (least+1)) σ = some (a0,la,σ1))) (hl:Hid (QAh ts f (.loop least a0) σ1 = some R)) (W:World) (h:Hid (Rd W b g cap dv ts xb σ)) :
  Calls Tryz.prog 29 #[.pointer (some ⟨b,0,none⟩),.int .i64 (least:Int)] W fun r Y=>RdRet b g cap dv ts xb W (.int .i64 R.1) R.2.2 r Y:=by
 obtain ⟨l1,hl1⟩:∃ l1:Nat,l1 = least+1:=⟨_,rfl⟩
 have hll:(least:Int)+1 = (l1:Int):=by omega
 have q5:decide ((5:Int) < (least:Int)) = false:=decide_eq_false (by omega)
 have hbs:b < W.heap.size:=h.out.size
 have C0:Hid (Calls Tryz.prog 29 #[.pointer (some ⟨b,0,none⟩),.int .i64 (l1:Int)] W fun r Y=>RdRet b g cap dv ts xb W (.int .i64 a0) σ1 r Y) :=
  hid ((IH.out f (Nat.le_refl _)).bin l1 (by omega) (by omega) σ a0 la σ1 (by rw [hl1];exact ha.out) W h)
 obtain ⟨m,hm⟩:=QD4 (BinI ts xb b g cap dv least f R W)
 have HM:=hid hm
 have HL1:=hid hl1
 clear hl1 hm
 go_enter Tryz.func29,Tryz.ntmps29
 go_wp2_with (go_at_call 29;(with_reducible refine C0.out.mono ?_);rintro e w1 ⟨rfl,hr,hk⟩;have HR:=hid hr;have HK:=hid hk;clear hr hk)
 go_loopw [5] (fun i wr=>∃ a:Int,i = .int .i64 a∧Hid (∃ n,BinI ts xb b g cap dv least f R W n (i,wr))) (fun i wr=>m (i,wr))
 case atStart=>exact ⟨a0,rfl,hid ⟨f,a0,σ1,rfl,Nat.le_refl _,hl.out,HR.out,HK.out⟩⟩
 case round =>
  obtain ⟨av,rfl,hI⟩:=hrel
  obtain ⟨hm1,hm2⟩:=HM.out _ hI.out
  obtain ⟨a',τ,e,hnf,hrun,hrd,hrk⟩:=hm1
  have e:av = a':=by injection e
  subst e
  obtain ⟨nn,hmn⟩:∃ nn,nn = m (.int .i64 av,wr):=⟨_,rfl⟩
  rw [← hmn] at hnf hrun
  obtain ⟨k,rfl,hcase⟩:=QKE hrun
  have HRD:=hid hrd
  have HRK:=hid hrk
  have HMN:=hid hmn
  have HM2:=hid hm2
  have hbw:b < wr.heap.size:=hrd.size
  have hgw:g < wr.heap.size:=by have:=hrd.lt;omega
  clear hrd hrk hrun hm2 hmn hI
  obtain ⟨o,c,⟨c0,c1,c3,c4,c5,c6,fr⟩,hx⟩:=HRD.out.cells
  have ht:=HRD.out.tok
  have hgb:g≠b:=by have:=HRD.out.lt;omega
  have hl:=HRD.out.at_
  have hn:=HRD.out.len
  obtain ⟨t0,t1,t2,t3⟩:=ht
  obtain ⟨n,hnn⟩:∃ n,n = ts.length:=⟨_,rfl⟩
  obtain ⟨a,haa⟩:∃ a,a = τ.at_:=⟨_,rfl⟩
  obtain ⟨cd,hcd⟩:∃ cd,cd = τ.code:=⟨_,rfl⟩
  obtain ⟨ps,hps⟩:∃ ps,ps = τ.pos:=⟨_,rfl⟩
  obtain ⟨dp,hdp⟩:∃ dp,dp = τ.deep:=⟨_,rfl⟩
  obtain ⟨kd,hkd⟩:∃ kd,kd = (QA9 ts τ.at_).kind:=⟨_,rfl⟩
  obtain ⟨tx,htx⟩:∃ tx,tx = (QA9 ts τ.at_).text:=⟨_,rfl⟩
  obtain ⟨tv,htv⟩:∃ tv,tv = (QA9 ts τ.at_).v:=⟨_,rfl⟩
  obtain ⟨p,hp⟩:∃ p,p = (QA9 ts τ.at_).at_:=⟨_,rfl⟩
  rw [← hnn] at c0 hl hn
  rw [← hkd] at t0
  rw [← htx] at t1
  rw [← htv] at t2
  rw [← hp] at t3
  rw [← haa] at c1 t0 t1 t2 t3 hl
  rw [← hcd] at c5
  rw [← hdp] at c4
  rw [← hps] at c6
  have k0:((a:Nat):Int) < (n:Int):=by omega
  have f1:=fr 1
  have f4:=fr 4
  have f5:=fr 5
  have f6:=fr 6
  have HCD:=hid hcd
  have HPS:=hid hps
  have HDP:=hid hdp
  have HKD:=hid hkd
  have HTX:=hid htx
  have HTV:=hid htv
  have HP:=hid hp
  have HAA:=hid haa
  have HNN:=hid hnn
  clear fr hx hnn haa hcd hps hdp hkd htx htv hp c3
  have ha4:(a:Int)≤40000:=by omega
  by_cases hz:cd = 0
  ·subst hz
   have hlv:=QLw b g cap dv ts xb τ wr HRD (QB3 ts τ).1 (QB3 ts τ).2 (hid rfl)
   obtain ⟨L,hL⟩:∃ L,L = (QB3 ts τ).1:=⟨_,rfl⟩
   obtain ⟨K,hK⟩:∃ K,K = (QB3 ts τ).2:=⟨_,rfl⟩
   rw [← hL,← hK] at hlv
   have LV:=hid hlv
   by_cases hle:L = (least:Int)
   ·have hke:=QKA h1 (hL.symm.trans hle)
    have HREST:Hid (∃ bv lb y,QAh ts k (.bin (least+1)) (QA0 τ) = some (bv,lb,y)∧okS y = true ∧
      ((least = 3∧R = ((y.exprs.length:Int),[],QBQ (QJS (QB3 ts τ).2 av bv (QA9 ts τ.at_).at_) y))∨(least≠3∧QAh ts k (.loop least (y.exprs.length:Int)) (QBQ (QJS (QB3 ts τ).2 av bv (QA9 ts τ.at_).at_) y) = some R))):=hid (by
     rcases hcase with ⟨h0,_⟩ | ⟨_,h0,_⟩ | ⟨_,_,h0⟩
     ·exact absurd HCD.out.symm h0
     ·exact absurd (hL.symm.trans hle) h0
     ·exact h0)
    obtain ⟨bv,lb,y,hrb,hok,hend⟩:=HREST.out
    have HRB:=hid hrb
    have HOK:=hid hok
    have HEND:=hid hend
    have HKK:=hid hK
    have HKE:=hid hke
    have qle:(L != (least:Int)) = false:=by rw [hle];simp
    clear hlv hcase hrb hok hend HREST hL hK hke
    rw [hle] at LV qle
    clear hle
    go_wp2_with (go_at_call 58;(with_reducible refine LV.out.mono ?_);rintro e w2 ⟨rfl,hb⟩;have d0:=(hb.cell (p:=⟨b,0,none⟩) hbw).trans c0;have d1:=(hb.cell (p:=⟨b,1,none⟩) hbw).trans c1;have d3:=(hb.cell (p:=⟨g,a*4+3,none⟩) hgw).trans t3;have e1:=(hb.frozen (p:=⟨b,1,none⟩) hbw).trans f1;have HB:=hid hb;clear hb)
    go_quiet (fail)
    have HD:=hid (QAE HB.out nq)
    have HV:Hid (Rd ((w2.drewN nq).setCell ⟨b,1,none⟩ (.int .i64 ((a:Int)+1))) b g cap dv ts xb (QA0 τ)):=hid (by rw [HAA.out];exact (HRD.out.below HD.out).setAt HKE.out)
    have HVK:Hid (RK b wr ((w2.drewN nq).setCell ⟨b,1,none⟩ (.int .i64 ((a:Int)+1)))):=hid ((RK.of_below HD.out (Nat.le_of_lt hbw)).trans (RK.set 1 _))
    have CB:Hid (Calls Tryz.prog 29 #[.pointer (some ⟨b,0,none⟩),.int .i64 (l1:Int)] ((w2.drewN nq).setCell ⟨b,1,none⟩ (.int .i64 ((a:Int)+1))) fun r Y=>RdRet b g cap dv ts xb ((w2.drewN nq).setCell ⟨b,1,none⟩ (.int .i64 ((a:Int)+1))) (.int .i64 bv) y r Y) :=
     hid ((IH.out k (by omega)).bin l1 (by omega) (by omega) (QA0 τ) bv lb y (by rw [HL1.out];exact HRB.out) _ HV)
    by_cases h3:least = 3
    ·have q3:((least:Int) == 3) = true:=by rw [h3];rfl
     have HRE:Hid (R = ((y.exprs.length:Int),[],QBQ (QJS K av bv p) y)):=hid (by
      rw [HKK.out,HP.out]
      rcases HEND.out with ⟨_,h0⟩ | ⟨h0,_⟩
      ·exact h0
      ·exact absurd h3 h0)
     clear h3
     go_wp2_with (first | (go_at_call 29;(with_reducible refine CB.out.mono ?_);rintro e w3 ⟨rfl,hr,hk⟩;have HR3:=hid hr;have HK3:=hid hk;clear hr hk) | (go_at_call 28;(with_reducible refine (QGh b g cap dv ts xb y K av bv p w3 HR3 HOK.out).mono ?_);rintro e w4 ⟨rfl,hr,hk⟩;have HR4:=hid hr;have HK4:=hid hk;clear hr hk))
     have HKW:=hid (HRK.out.trans (HVK.out.trans (HK3.out.trans HK4.out)))
     go_ret
     rw [HRE.out]
     exact ⟨rfl,HR4.out,HKW.out⟩
    ·have q3:((least:Int) == 3) = false:=beq_false_of_ne (by omega)
     have HRE:Hid (QAh ts k (.loop least (y.exprs.length:Int)) (QBQ (QJS K av bv p) y) = some R):=hid (by
      rw [HKK.out,HP.out]
      rcases HEND.out with ⟨h0,_⟩ | ⟨_,h0⟩
      ·exact absurd h0 h3
      ·exact h0)
     clear h3
     go_wp2_with (first | (go_at_call 29;(with_reducible refine CB.out.mono ?_);rintro e w3 ⟨rfl,hr,hk⟩;have HR3:=hid hr;have HK3:=hid hk;clear hr hk) | (go_at_call 28;(with_reducible refine (QGh b g cap dv ts xb y K av bv p w3 HR3 HOK.out).mono ?_);rintro e w4 ⟨rfl,hr,hk⟩;have HR4:=hid hr;have HK4:=hid hk;clear hr hk))
     have HKW:=hid (HRK.out.trans (HVK.out.trans (HK3.out.trans HK4.out)))
     have HI:BinI ts xb b g cap dv least f R W k (.int .i64 (y.exprs.length:Int),w4):=⟨_,_,rfl,by omega,HRE.out,HR4.out,HKW.out⟩
     exact ⟨⟨_,rfl,hid ⟨k,HI⟩⟩,by have h5:=(HM.out _ ⟨k,HI⟩).2 k HI;have h6:=HMN.out;omega⟩
   ·have qle:(L != (least:Int)) = true:=by rw [bne_iff_ne];exact hle
    have HR1:Hid (R = (av,[],τ)):=hid (by
     rcases hcase with ⟨h0,_⟩ | ⟨_,_,h0⟩ | ⟨_,h0,_⟩
     ·exact absurd HCD.out.symm h0
     ·exact h0
     ·exact absurd (hL.trans h0) hle)
    clear hlv hcase hL hK
    go_wp2_with (go_at_call 58;(with_reducible refine LV.out.mono ?_);rintro e w2 ⟨rfl,hb⟩;have HB:=hid hb;clear hb)
    go_ret
    rw [HR1.out]
    exact ⟨rfl,HRD.out.below HB.out,HRK.out.trans (RK.of_below HB.out (Nat.le_of_lt hbw))⟩
  ·have qz:(cd == 0) = false:=beq_false_of_ne hz
   have HR1:Hid (R = (av,[],τ)):=hid (by
    rcases hcase with ⟨_,h0⟩ | ⟨h0,_,_⟩ | ⟨h0,_,_⟩
    ·exact h0
    ·exact absurd (HCD.out.trans h0) hz
    ·exact absurd (HCD.out.trans h0) hz)
   clear hcase
   go_wp2_with fail
   go_ret
   rw [HR1.out]
   exact ⟨rfl,HRD.out,HRK.out⟩
theorem bin_six (b g cap:Nat) (dv:Value) (ts:List Tok) (xb:Nat→Prop) (f:Nat) (least:Nat) (h5:5 < least) (IH:Hid (FC b g cap dv ts xb f)) (σ:RS) (R:Int × List Int × RS)
  (ha:Hid (QAh ts f .pre σ = some R)) (W:World) (h:Hid (Rd W b g cap dv ts xb σ)) :
  Calls Tryz.prog 29 #[.pointer (some ⟨b,0,none⟩),.int .i64 (least:Int)] W fun r Y=>RdRet b g cap dv ts xb W (.int .i64 R.1) R.2.2 r Y:=by
 have q5:decide ((5:Int) < (least:Int)) = true:=decide_eq_true (by omega)
 have C:=hid (IH.out.pre σ R.1 R.2.1 R.2.2 ha.out W h)
 go_enter Tryz.func29,Tryz.ntmps29
 go_wp2_with (go_at_call 57;(with_reducible refine C.out.mono ?_);rintro e w1 ⟨rfl,hr,hk⟩;have HR:=hid hr;have HK:=hid hk;clear hr hk)
 go_ret
 exact ⟨rfl,HR.out,HK.out⟩
theorem bin_any (b g cap:Nat) (dv:Value) (ts:List Tok) (xb:Nat→Prop) (f:Nat) (IH:∀ k,k≤f→FC b g cap dv ts xb k) (least:Nat) (h1:1≤least) (h6:least≤6) (σ:RS) (v:Int) (l:List Int) (τ:RS) (hr:QAh ts (f+1) (.bin least) σ = some (v,l,τ)) (W:World) (h:Hid (Rd W b g cap dv ts xb σ)) :
  Calls Tryz.prog 29 #[.pointer (some ⟨b,0,none⟩),.int .i64 (least:Int)] W fun r Y=>RdRet b g cap dv ts xb W (.int .i64 v) τ r Y:=by
 simp only [QAh] at hr
 split at hr
 ·unfold QOi at hr
  split at hr
  ·rename_i h5
   exact bin_six b g cap dv ts xb f least h5 (hid (IH f (Nat.le_refl _))) σ (v,l,τ) (hid hr) W h
  ·rename_i h5
   cases ha:QAh ts f (.bin (least+1)) σ with
   | none=>rw [ha] at hr;cases hr
   | some q =>
    obtain ⟨a0,la,σ1⟩:=q
    rw [ha] at hr
    exact QN7 b g cap dv ts xb f least h1 (by omega) (hid IH) σ σ1 a0 la (v,l,τ) (hid ha) (hid hr) W h
 ·cases hr
theorem QC0 {x:Ex} {σ:RS} {K:Int→RS→Ans} {R:Int × List Int × RS} (h:QEl x σ K = some R):okS σ = true∧K (σ.exprs.length:Int) (QBQ x σ) = some R:=by
 unfold QEl at h
 split at h
 ·rename_i hk;exact ⟨hk,h⟩
 ·cases h
theorem QN4 (b g cap:Nat) (dv:Value) (ts:List Tok) (xb:Nat→Prop) (f:Nat) (IH:∀ k,k≤f→∀ yb,FC b g cap dv ts yb k) (σ:RS) (v:Int) (l:List Int) (τ:RS) (hr:QAh ts (f+1) .atom σ = some (v,l,τ)) (W:World) (h:Hid (Rd W b g cap dv ts xb σ)) :
  Calls Tryz.prog 87 #[.pointer (some ⟨b,0,none⟩)] W fun r Y=>RdRet b g cap dv ts xb W (.int .i64 v) τ r Y:=by
 simp only [QAh] at hr
 split at hr
 ·unfold QDa at hr
  dsimp only at hr
  split at hr
  ·rename_i h2
   obtain ⟨ok,e⟩:=QC0 hr
   cases e
   exact QN5 b g cap dv ts xb σ W h h2 ok
  ·rename_i h2
   split at hr
   ·rename_i ht
    obtain ⟨ok,e⟩:=QC0 hr
    cases e
    exact QL8 b g cap dv ts xb σ W h h2 ht ok
   ·rename_i ht
    have ht:isS ts [116,114,117,101] σ = false:=by simpa using ht
    split at hr
    ·rename_i hf
     obtain ⟨ok,e⟩:=QC0 hr
     cases e
     exact QJh b g cap dv ts xb σ W h h2 ht hf ok
    ·rename_i hf
     have hf:isS ts [102,97,108,115,101] σ = false:=by simpa using hf
     split at hr
     ·rename_i h1
      split at hr
      ·rename_i hi
       obtain ⟨ok,e⟩:=QC0 hr
       cases e
       exact atom_is b g cap dv ts xb σ W h h2 ht hf h1 hi ok
      ·rename_i hi
       have hi:isS ts [105,115] (QA0 σ) = false:=by simpa using hi
       split at hr
       ·rename_i hl
        split at hr
        ·rename_i hp
         obtain ⟨ok,e⟩:=QC0 hr
         cases e
         exact QJg b g cap dv ts xb σ W h h2 ht hf h1 hi hl hp ok
        ·rename_i hp
         have hp:isS ts [41] (QA0 (QA0 σ)) = false:=by simpa using hp
         cases h3:QAh ts f .expr (QA0 (QA0 σ)) with
         | none=>rw [h3] at hr;cases hr
         | some q1 =>
          rw [h3] at hr
          simp only [Option.bind_some] at hr
          cases h4:QAh ts f (.args [q1.1]) q1.2.2 with
          | none=>rw [h4] at hr;cases hr
          | some q2 =>
           rw [h4] at hr
           simp only [Option.bind_some] at hr
           obtain ⟨ok,e⟩:=QC0 hr
           cases e
           exact QL6 b g cap dv ts xb σ W h f (hid IH) h2 ht hf h1 hi hl hp q1.1 q1.2.1 q1.2.2 (hid h3) q2 (hid h4) (hid ok)
       ·rename_i hl
        have hl:isS ts [40] (QA0 σ) = false:=by simpa using hl
        obtain ⟨ok,e⟩:=QC0 hr
        cases e
        exact QL7 b g cap dv ts xb σ W h h2 ht hf h1 hi hl ok
     ·rename_i h1
      cases h3:QAh ts f .expr (QA3 ts [40] σ) with
      | none=>rw [h3] at hr;cases hr
      | some q1 =>
       rw [h3] at hr
       simp only [Option.bind_some] at hr
       cases hr
       exact QN6 b g cap dv ts xb σ W h f (hid (IH f (Nat.le_refl _) xb)) h2 ht hf h1 q1.1 q1.2.1 q1.2.2 (hid h3)
 ·cases hr
theorem QCk (b g cap:Nat) (dv:Value) (ts:List Tok) (f:Nat):∀ xb,FC b g cap dv ts xb f:=by
 induction f using Nat.strongRecOn with
 | ind f ih =>
  intro xb
  cases f with
  | zero =>
   refine ⟨?_,?_,?_,?_⟩
   ·intro σ v l τ h;cases h
   ·intro σ v l τ h;cases h
   ·intro σ v l τ _ h;cases h
   ·intro least _ _ σ v l τ h;cases h
  | succ f =>
   have IH:∀ k,k≤f→∀ yb,FC b g cap dv ts yb k:=fun k hk=>ih k (by omega)
   exact ⟨fun σ v l τ hr W h=>QNH b g cap dv ts xb f (IH f (Nat.le_refl _) xb) σ v l τ hr W h,fun σ v l τ hr W h=>pre_any b g cap dv ts xb f (IH f (Nat.le_refl _) xb) σ v l τ hr W h,
    fun σ v l τ _ hr W h=>QN4 b g cap dv ts xb f IH σ v l τ hr W h,fun least h1 h6 σ v l τ hr W h=>bin_any b g cap dv ts xb f (fun k hk=>IH k hk xb) least h1 h6 σ v l τ hr W h⟩
end
section
open Go.RowKit Lx
theorem QMm {l:List UInt8} {a:Nat} {ts:List Tok} {r:Option Nat} (h:Toks l a ts r):∀ t∈ts,t.kind≤4:=by
 induction h with
 | fin=>simp
 | bad=>simp
 | tok h1 h2 _ ih =>
  intro t ht
  rcases List.mem_cons.1 ht with rfl | ht
  ·unfold QAX QId
   split
   ·simp
   ·rename_i k n v hk
    exact (QDn hk).2.1
  ·exact ih t ht
theorem QIv {l:List UInt8} {ts:List Tok} {r:Option Nat} (h:QNd l ts r) (n:Nat):EndOk (ts ++ [QJr n]):=by
 refine ⟨by simp,fun i t hi=>?_⟩
 rw [List.length_append]
 rcases Nat.lt_or_ge i ts.length with h1 | h1
 ·rw [List.getElem?_append_left h1] at hi
  have:=QMm h t (List.mem_of_getElem? hi)
  simp;omega
 ·rw [List.getElem?_append_right h1] at hi
  have h2:i - ts.length = 0:=by
   rcases Nat.eq_zero_or_pos (i - ts.length) with h3 | h3
   ·exact h3
   ·rw [List.getElem?_eq_none (by simp;omega)] at hi;cases hi
  rw [h2] at hi
  obtain rfl:QJr n = t:=by simpa using hi
  simp [QJr];omega
theorem QDU:QOg:=ref_lex (ref_one (QKQ QO5))
def rs0:RS:=⟨0,[],0,0,0⟩
theorem rd_new {w:World} {g cap:Nat} {ts:List Tok} (hr:RowAt w g ts) (hl:ts.length≤40000) (he:EndOk ts) :
  Rd (w.alloc (.cells #[.slice (some ⟨g,0,none⟩) ts.length cap,.int .i64 0,.slice none 0 0,.slice none 0 0,.int .i64 0,.int .i64 0,.int .i64 0] 46)) w.heap.size g cap (.slice none 0 0) ts (fun _=>False) rs0 :=
 ⟨fun k hk=>hk.elim,⟨none,0,heap_alloc_new w _,[],rfl,World.ownsRow_nil _ _ _ _,fun p hp=>by cases hp⟩,hr.below ((Below.refl _ _).alloc (Nat.le_refl _) _),hr.1,he.1,hl,he⟩
theorem ExsOwn.base {W:World} {b B:Nat} {xb:Nat→Prop} {v:Value} {l:List Ex} (h:ExsOwn W b xb v l) (hb:B≤b):ExsOwn W B xb v l:=by
 obtain ⟨q,h1,h2,h3⟩:=h
 exact ⟨q,h1,QBf h2 (by omega),fun p hp=>⟨QBf (h3 p hp).1 (by omega),(h3 p hp).2⟩⟩
end
end Go.Proofs.YtknbghjoncomiaaGreat
