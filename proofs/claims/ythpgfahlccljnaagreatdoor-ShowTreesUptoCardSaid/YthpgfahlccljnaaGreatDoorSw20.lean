import Derived.Test.YthpgfahlccljnaaGreatDoorSw19
set_option maxHeartbeats 16000000
set_option maxRecDepth 100000
open Go.Proofs.Tryz(prog)
namespace Go.Proofs.YthpgfahlccljnaaGreatDoor
open Go.RowKit Lx
def RdDeep (b g cap:Nat) (dv:Value) (ts:List Tok) (xb:Nat→Prop) (W:World) (v:Value) (σ:RS) (d:Int) (r:Ending) (Y:World):Prop :=
 r=.returned v∧Y.cell? ⟨b,4,none⟩=some (.int .i64 d)∧Y.frozen? ⟨b,4,none⟩=false∧Hid (Rd Y b g cap dv ts xb σ)∧Hid (RK b W Y)
theorem RdRet.deep {b g cap:Nat} {dv:Value} {ts:List Tok} {xb:Nat→Prop} {W:World} {v:Value} {σ:RS} {d:Int} {r:Ending} {Y:World} (h:RdRet b g cap dv ts xb W v σ r Y) (hd:σ.deep=d):RdDeep b g cap dv ts xb W v σ d r Y:=by
 obtain⟨o,c,hc,_⟩:=h.2.1.cells
 exact⟨h.1,hc.c4.trans (by rw[hd]),hc.fr 4,Hd h.2.1,Hd h.2.2⟩
theorem fail_deep (ts:List Tok) (e:Int) (σ:RS):(failS ts e σ).deep=σ.deep:=by unfold failS;split <;> rfl
theorem enter_deep (ts:List Tok) (σ:RS):(enterS ts σ).deep=σ.deep+1:=by
 unfold enterS
 dsimp only
 split
 ·rw[fail_deep]
 ·rfl
theorem took_true {b g cap:Nat} {dv:Value} {ts:List Tok} {xb:Nat→Prop} {σ:RS} (s:List UInt8) (hs:isS ts s σ=true) (W:World) (h:Hid (Rd W b g cap dv ts xb σ)) :
  Calls prog 48 #[.pointer (some ⟨b,0,none⟩),.string (str s)] W fun r Y=>RdRet b g cap dv ts xb W (.bool true) (stepS σ) r Y:=by
 have:=took_any b g cap dv ts xb σ s W h
 have e:tookS ts s σ=stepS σ:=by unfold tookS;rw[if_pos hs]
 rwa [hs,e] at this
theorem took_false {b g cap:Nat} {dv:Value} {ts:List Tok} {xb:Nat→Prop} {σ:RS} (s:List UInt8) (hs:isS ts s σ=false) (W:World) (h:Hid (Rd W b g cap dv ts xb σ)) :
  Calls prog 48 #[.pointer (some ⟨b,0,none⟩),.string (str s)] W fun r Y=>RdRet b g cap dv ts xb W (.bool false) σ r Y:=by
 have:=took_any b g cap dv ts xb σ s W h
 have e:tookS ts s σ=σ:=by unfold tookS;rw[hs];rfl
 rwa [hs,e] at this
theorem expr_bad (b g cap:Nat) (dv:Value) (ts:List Tok) (xb:Nat→Prop) (σ:RS) (hok:okS σ=true) (hc:Hid ((enterS ts σ).code≠0)) (W:World) (h:Hid (Rd W b g cap dv ts xb σ)) :
  Calls prog 26 #[.pointer (some ⟨b,0,none⟩)] W fun r Y=>RdRet b g cap dv ts xb W (.int .i64 0) (leaveS (enterS ts σ)) r Y:=by
 obtain⟨_,d0,d1⟩:=okS_iff.1 hok
 have hd:=enter_deep ts σ
 obtain⟨d,hdd⟩:∃d,d=(enterS ts σ).deep:=⟨_,rfl⟩
 have dd0:0≤d:=by omega
 have dd1:d≤31:=by omega
 have EN:Hid (Calls prog 47 #[.pointer (some ⟨b,0,none⟩)] W fun r Y=>RdDeep b g cap dv ts xb W (.bool false) (enterS ts σ) d r Y):=Hd ((enter_any b g cap dv ts xb σ W h d0 d1).mono fun r Y hr=>by
  rw[qF hc.out] at hr
  exact hr.deep hdd.symm)
 have HD:=Hd hdd
 clear hd hdd hok d0 d1
 go_enter Tryz.func26,Tryz.ntmps26
 go_wp2_with (go_at_call 47;(with_reducible refine EN.out.mono ?_);rintro e w1 ⟨rfl,z4,z5,HR,HK⟩)
 go_ret
 rw[HD.out]
 exact⟨rfl,HR.out.setDeep _,HK.out.trans (RK.set 4 _)⟩
theorem expr_if (b g cap:Nat) (dv:Value) (ts:List Tok) (xb:Nat→Prop) (f:Nat) (IH:Hid (FC b g cap dv ts xb f)) (σ x:RS) (hx:Hid (x=enterS ts σ)) (hok:okS σ=true) (hc:Hid (x.code=0)) (hi:Hid (isS ts [105,102] x=true)) (va vb vc:Int) (la lb lc:List Int) (s2 s3 s4:RS)
  (r1:Hid (runE ts f .expr (stepS x)=some (va,la,s2))) (r2:Hid (runE ts f .expr (wantS ts [116,104,101,110] s2)=some (vb,lb,s3))) (r3:Hid (runE ts f .expr (wantS ts [101,108,115,101] s3)=some (vc,lc,s4))) (ok4:okS s4=true) (W:World) (h:Hid (Rd W b g cap dv ts xb σ)) :
  Calls prog 26 #[.pointer (some ⟨b,0,none⟩)] W fun r Y=>RdRet b g cap dv ts xb W (.int .i64 (s4.exprs.length:Int)) (leaveS (putS { ex0 with kind:=15,a:=va,b:=vb,c:=vc,pos:=((tokL ts x.at_).at_:Int) } s4)) r Y:=by
 obtain⟨_,d0,d1⟩:=okS_iff.1 hok
 obtain⟨k4,e0,e1⟩:=okS_iff.1 ok4
 have EN:Hid (Calls prog 47 #[.pointer (some ⟨b,0,none⟩)] W fun r Y=>RdRet b g cap dv ts xb W (.bool true) x r Y):=Hd ((enter_any b g cap dv ts xb σ W h d0 d1).mono fun r Y hr=>by
  rwa [←hx.out,qT hc.out] at hr)
 have TK:Hid (∀W,Hid (Rd W b g cap dv ts xb x)→Calls prog 48 #[.pointer (some ⟨b,0,none⟩),.string ⟨#[105,102]⟩] W fun r Y=>RdRet b g cap dv ts xb W (.bool true) (stepS x) r Y):=Hd fun W h=>took_true [105,102] hi.out W h
 have E1:=Hd (IH.out.expr _ _ _ _ r1.out)
 have E2:=Hd (IH.out.expr _ _ _ _ r2.out)
 have E3:=Hd (IH.out.expr _ _ _ _ r3.out)
 have W1:Hid (∀W,Hid (Rd W b g cap dv ts xb s2)→Calls prog 49 #[.pointer (some ⟨b,0,none⟩),.string ⟨#[116,104,101,110]⟩] W fun r Y=>RdRet b g cap dv ts xb W (.tuple #[]) (wantS ts [116,104,101,110] s2) r Y):=Hd fun W h=>want_any b g cap dv ts xb s2 [116,104,101,110] W h
 have W2:Hid (∀W,Hid (Rd W b g cap dv ts xb s3)→Calls prog 49 #[.pointer (some ⟨b,0,none⟩),.string ⟨#[101,108,115,101]⟩] W fun r Y=>RdRet b g cap dv ts xb W (.tuple #[]) (wantS ts [101,108,115,101] s3) r Y):=Hd fun W h=>want_any b g cap dv ts xb s3 [101,108,115,101] W h
 obtain⟨d,hdd⟩:∃d,d=s4.deep:=⟨_,rfl⟩
 rw[←hdd] at e0 e1
 have PU:Hid (∀(p:Nat) W,Hid (Rd W b g cap dv ts xb s4)→Calls prog 50 #[.pointer (some ⟨b,0,none⟩),.agg #[.int .i64 15,.int .i64 va,.int .i64 vb,.int .i64 vc,.string ⟨#[]⟩,.string ⟨#[]⟩,.int .i64 0,.slice none 0 0,.int .i64 (p:Int)]] W fun r Y=>RdDeep b g cap dv ts xb W (.int .i64 (s4.exprs.length:Int)) (putS { ex0 with kind:=15,a:=va,b:=vb,c:=vc,pos:=(p:Int) } s4) d r Y) :=
  Hd fun p W h=>(put_any b g cap dv ts xb s4 { ex0 with kind:=15,a:=va,b:=vb,c:=vc,pos:=(p:Int) } none 0 0 W h k4 (Hd (qO _ _ _ _)) (Hd fun k hk=>by cases hk)).mono fun r Y hr=>hr.deep hdd.symm
 have HD:=Hd hdd
 clear hdd hok ok4 d0 d1 k4
 go_enter Tryz.func26,Tryz.ntmps26
 go_wp2_with (go_at_call 47;(with_reducible refine EN.out.mono ?_);rintro e w1 ⟨rfl,hr,hk⟩;have HR:=Hd hr;have HK:=Hd hk;clear hr hk)
 obtain⟨o,c,⟨c0,c1,c3,c4,c5,c6,fr⟩,hx⟩:=HR.out.cells
 have ht:=HR.out.tok
 have hgb:g≠b:=by have:=HR.out.lt;omega
 have hl:=HR.out.at_
 have hn:=HR.out.len
 obtain⟨t0,t1,t2,t3⟩:=ht
 obtain⟨n,hnn⟩:∃n,n=ts.length:=⟨_,rfl⟩
 obtain⟨a,haa⟩:∃a,a=x.at_:=⟨_,rfl⟩
 obtain⟨cd,hcd⟩:∃cd,cd=x.code:=⟨_,rfl⟩
 obtain⟨ps,hps⟩:∃ps,ps=x.pos:=⟨_,rfl⟩
 obtain⟨dp,hdp⟩:∃dp,dp=x.deep:=⟨_,rfl⟩
 obtain⟨kd,hkd⟩:∃kd,kd=(tokL ts x.at_).kind:=⟨_,rfl⟩
 obtain⟨tx,htx⟩:∃tx,tx=(tokL ts x.at_).text:=⟨_,rfl⟩
 obtain⟨tv,htv⟩:∃tv,tv=(tokL ts x.at_).v:=⟨_,rfl⟩
 obtain⟨p,hp⟩:∃p,p=(tokL ts x.at_).at_:=⟨_,rfl⟩
 rw[←hnn] at c0 hl hn
 rw[←hkd] at t0
 rw[←htx] at t1
 rw[←htv] at t2
 rw[←hp] at t3
 rw[←haa] at c1 t0 t1 t2 t3 hl
 rw[←hcd] at c5
 rw[←hdp] at c4
 rw[←hps] at c6
 have k0:((a:Nat):Int)<(n:Int):=by omega
 have f1:=fr 1
 have f4:=fr 4
 have f5:=fr 5
 have f6:=fr 6
 have HCD:=Hd hcd
 have HPS:=Hd hps
 have HDP:=Hd hdp
 have HKD:=Hd hkd
 have HTX:=Hd htx
 have HTV:=Hd htv
 have HP:=Hd hp
 have HAA:=Hd haa
 have HNN:=Hd hnn
 clear fr hx hnn haa hcd hps hdp hkd htx htv hp c3
 go_quiet (fail)
 have HX:Hid (Rd (w1.drewN nq) b g cap dv ts xb x):=Hd (HR.out.below (below_dr (qB _ _) _))
 have HXK:Hid (RK b W (w1.drewN nq)):=Hd (HK.out.trans (RK.of_below (below_dr (qB _ _) _) (ql HR.out.size)))
 go_wp2_with (first
  | (go_at_call 48;(with_reducible refine(TK.out _ HX).mono ?_);rintro e w2 ⟨rfl,hr,hk⟩;have HR2:=Hd hr;have HK2:=Hd hk;clear hr hk)
  | (go_at_call 26;(with_reducible refine(E1.out w2 HR2).mono ?_);rintro e w3 ⟨rfl,hr,hk⟩;have HR3:=Hd hr;have HK3:=Hd hk;clear hr hk)
  | (go_at_call 49;(with_reducible refine(W1.out w3 HR3).mono ?_);rintro e w4 ⟨rfl,hr,hk⟩;have HR4:=Hd hr;have HK4:=Hd hk;clear hr hk)
  | (go_at_call 26;(with_reducible refine(E2.out w4 HR4).mono ?_);rintro e w5 ⟨rfl,hr,hk⟩;have HR5:=Hd hr;have HK5:=Hd hk;clear hr hk)
  | (go_at_call 49;(with_reducible refine(W2.out w5 HR5).mono ?_);rintro e w6 ⟨rfl,hr,hk⟩;have HR6:=Hd hr;have HK6:=Hd hk;clear hr hk)
  | (go_at_call 26;(with_reducible refine(E3.out w6 HR6).mono ?_);rintro e w7 ⟨rfl,hr,hk⟩;have HR7:=Hd hr;have HK7:=Hd hk;clear hr hk)
  | (go_at_call 50;(with_reducible refine(PU.out p w7 HR7).mono ?_);rintro e w8 ⟨rfl,z4,z5,HR8,HK8⟩))
 go_ret
 rw[←HP.out,HD.out]
 exact⟨rfl,HR8.out.setDeep _,HXK.out.trans (HK2.out.trans (HK3.out.trans (HK4.out.trans (HK5.out.trans (HK6.out.trans (HK7.out.trans (HK8.out.trans (RK.set 4 _))))))))⟩
theorem isS_one {ts:List Tok} {s s':List UInt8} {σ:RS} (h:isS ts s σ=true) (hn:s≠s'):isS ts s' σ=false:=by
 unfold isS at h ⊢
 simp only[Bool.and_eq_true,beq_iff_eq] at h
 rw[h.2.2]
 have:(s ==s')=false:=beq_false_of_ne hn
 rw[this,Bool.and_false,Bool.and_false]
theorem expr_arrow17 (b g cap:Nat) (dv:Value) (ts:List Tok) (xb:Nat→Prop) (f:Nat) (IH:Hid (FC b g cap dv ts xb f)) (σ x:RS) (hx:Hid (x=enterS ts σ)) (hok:okS σ=true) (hc:Hid (x.code=0)) (hi:Hid (isS ts [105,102] x=false)) (vo:Int) (lo:List Int) (y:RS)
  (r1:Hid (runE ts f (.bin 1) x=some (vo,lo,y))) (ha:Hid (isS ts [45,62] y=true)) (vb:Int) (lb:List Int) (z:RS) (r2:Hid (runE ts f .expr (stepS y)=some (vb,lb,z))) (okz:okS z=true) (W:World) (h:Hid (Rd W b g cap dv ts xb σ)) :
  Calls prog 26 #[.pointer (some ⟨b,0,none⟩)] W fun r Y=>RdRet b g cap dv ts xb W (.int .i64 (z.exprs.length:Int)) (leaveS (putS (twoE 17 vo vb (tokL ts y.at_).at_) z)) r Y:=by
 obtain⟨k4,e0,e1⟩:=okS_iff.1 okz
 obtain⟨_,d0,d1⟩:=okS_iff.1 hok
 have EN:Hid (Calls prog 47 #[.pointer (some ⟨b,0,none⟩)] W fun r Y=>RdRet b g cap dv ts xb W (.bool true) x r Y):=Hd ((enter_any b g cap dv ts xb σ W h d0 d1).mono fun r Y hr=>by
  rwa [←hx.out,qT hc.out] at hr)
 have TK:Hid (∀W,Hid (Rd W b g cap dv ts xb x)→Calls prog 48 #[.pointer (some ⟨b,0,none⟩),.string ⟨#[105,102]⟩] W fun r Y=>RdRet b g cap dv ts xb W (.bool false) x r Y):=Hd fun W h=>took_false [105,102] hi.out W h
 have E1:Hid (∀W,Hid (Rd W b g cap dv ts xb x)→Calls prog 51 #[.pointer (some ⟨b,0,none⟩),.int .i64 1] W fun r Y=>RdRet b g cap dv ts xb W (.int .i64 vo) y r Y):=Hd fun W h=>IH.out.bin 1 (by omega) (by omega) x vo lo y r1.out W h
 have IS:Hid (∀W,Hid (Rd W b g cap dv ts xb y)→Calls prog 52 #[.pointer (some ⟨b,0,none⟩),.string ⟨#[102,98,121]⟩] W fun r Y=>r=.returned (.bool false)∧Below W.heap.size W Y):=Hd fun W h=>by
  have:=is_any b g cap dv ts xb y [102,98,121] W h
  rwa [show isS ts [102,98,121] y=false from isS_one ha.out (by decide)] at this
 have TA:Hid (∀W,Hid (Rd W b g cap dv ts xb y)→Calls prog 48 #[.pointer (some ⟨b,0,none⟩),.string ⟨#[45,62]⟩] W fun r Y=>RdRet b g cap dv ts xb W (.bool true) (stepS y) r Y):=Hd fun W h=>took_true [45,62] ha.out W h
 have E2:=Hd (IH.out.expr _ _ _ _ r2.out)
 obtain⟨d,hdd⟩:∃d,d=z.deep:=⟨_,rfl⟩
 rw[←hdd] at e0 e1
 have PU:Hid (∀(p:Nat) W,Hid (Rd W b g cap dv ts xb z)→Calls prog 50 #[.pointer (some ⟨b,0,none⟩),.agg #[.int .i64 17,.int .i64 vo,.int .i64 vb,.int .i64 0,.string ⟨#[]⟩,.string ⟨#[]⟩,.int .i64 0,.slice none 0 0,.int .i64 (p:Int)]] W fun r Y=>RdDeep b g cap dv ts xb W (.int .i64 (z.exprs.length:Int)) (putS (twoE 17 vo vb p) z) d r Y) :=
  Hd fun p W h=>(put_two b g cap dv ts xb z 17 vo vb p W h okz).mono fun r Y hr=>hr.deep hdd.symm
 have HD:=Hd hdd
 clear hdd hok okz d0 d1 k4
 go_enter Tryz.func26,Tryz.ntmps26
 go_wp2_with (go_at_call 47;(with_reducible refine EN.out.mono ?_);rintro e w1 ⟨rfl,hr,hk⟩;have HR:=Hd hr;have HK:=Hd hk;clear hr hk)
 have KX:Hid (∃w0,Rd w0 b g cap dv ts xb x):=Hd ⟨w1,HR.out⟩
 obtain⟨o,c,⟨c0,c1,c3,c4,c5,c6,fr⟩,hx⟩:=HR.out.cells
 have ht:=HR.out.tok
 have hgb:g≠b:=by have:=HR.out.lt;omega
 have hl:=HR.out.at_
 have hn:=HR.out.len
 obtain⟨t0,t1,t2,t3⟩:=ht
 obtain⟨n,hnn⟩:∃n,n=ts.length:=⟨_,rfl⟩
 obtain⟨a,haa⟩:∃a,a=x.at_:=⟨_,rfl⟩
 obtain⟨cd,hcd⟩:∃cd,cd=x.code:=⟨_,rfl⟩
 obtain⟨ps,hps⟩:∃ps,ps=x.pos:=⟨_,rfl⟩
 obtain⟨dp,hdp⟩:∃dp,dp=x.deep:=⟨_,rfl⟩
 obtain⟨kd,hkd⟩:∃kd,kd=(tokL ts x.at_).kind:=⟨_,rfl⟩
 obtain⟨tx,htx⟩:∃tx,tx=(tokL ts x.at_).text:=⟨_,rfl⟩
 obtain⟨tv,htv⟩:∃tv,tv=(tokL ts x.at_).v:=⟨_,rfl⟩
 obtain⟨p,hp⟩:∃p,p=(tokL ts x.at_).at_:=⟨_,rfl⟩
 rw[←hnn] at c0 hl hn
 rw[←hkd] at t0
 rw[←htx] at t1
 rw[←htv] at t2
 rw[←hp] at t3
 rw[←haa] at c1 t0 t1 t2 t3 hl
 rw[←hcd] at c5
 rw[←hdp] at c4
 rw[←hps] at c6
 have k0:((a:Nat):Int)<(n:Int):=by omega
 have f1:=fr 1
 have f4:=fr 4
 have f5:=fr 5
 have f6:=fr 6
 have HCD:=Hd hcd
 have HPS:=Hd hps
 have HDP:=Hd hdp
 have HKD:=Hd hkd
 have HTX:=Hd htx
 have HTV:=Hd htv
 have HP:=Hd hp
 have HAA:=Hd haa
 have HNN:=Hd hnn
 clear fr hx hnn haa hcd hps hdp hkd htx htv hp c3
 go_quiet (fail)
 have HX:Hid (Rd (w1.drewN nq) b g cap dv ts xb x):=Hd (HR.out.below (below_dr (qB _ _) _))
 have HXK:Hid (RK b W (w1.drewN nq)):=Hd (HK.out.trans (RK.of_below (below_dr (qB _ _) _) (ql HR.out.size)))
 clear HCD HPS HDP HKD HTX HTV HP HAA HNN
 clear t0 t1 t2 t3 c0 c1 c4 c5 c6 f1 f4 f5 f6 k0 hl hn hgb
 go_wp2_with (first
  | (go_at_call 48;(with_reducible refine(TK.out _ HX).mono ?_);rintro e w2 ⟨rfl,hr,hk⟩;have HR2:=Hd hr;have HK2:=Hd hk;clear hr hk)
  | (go_at_call 51;(with_reducible refine(E1.out w2 HR2).mono ?_);rintro e w3 ⟨rfl,hr,hk⟩;have HR3:=Hd hr;have HK3:=Hd hk;clear hr hk))
 obtain⟨o,c,⟨c0,c1,c3,c4,c5,c6,fr⟩,hx⟩:=HR3.out.cells
 have ht:=HR3.out.tok
 have hgb:g≠b:=by have:=HR3.out.lt;omega
 have hl:=HR3.out.at_
 have hn:=HR3.out.len
 obtain⟨t0,t1,t2,t3⟩:=ht
 obtain⟨n,hnn⟩:∃n,n=ts.length:=⟨_,rfl⟩
 obtain⟨a,haa⟩:∃a,a=y.at_:=⟨_,rfl⟩
 obtain⟨cd,hcd⟩:∃cd,cd=y.code:=⟨_,rfl⟩
 obtain⟨ps,hps⟩:∃ps,ps=y.pos:=⟨_,rfl⟩
 obtain⟨dp,hdp⟩:∃dp,dp=y.deep:=⟨_,rfl⟩
 obtain⟨kd,hkd⟩:∃kd,kd=(tokL ts y.at_).kind:=⟨_,rfl⟩
 obtain⟨tx,htx⟩:∃tx,tx=(tokL ts y.at_).text:=⟨_,rfl⟩
 obtain⟨tv,htv⟩:∃tv,tv=(tokL ts y.at_).v:=⟨_,rfl⟩
 obtain⟨p,hp⟩:∃p,p=(tokL ts y.at_).at_:=⟨_,rfl⟩
 rw[←hnn] at c0 hl hn
 rw[←hkd] at t0
 rw[←htx] at t1
 rw[←htv] at t2
 rw[←hp] at t3
 rw[←haa] at c1 t0 t1 t2 t3 hl
 rw[←hcd] at c5
 rw[←hdp] at c4
 rw[←hps] at c6
 have k0:((a:Nat):Int)<(n:Int):=by omega
 have f1:=fr 1
 have f4:=fr 4
 have f5:=fr 5
 have f6:=fr 6
 have HCD:=Hd hcd
 have HPS:=Hd hps
 have HDP:=Hd hdp
 have HKD:=Hd hkd
 have HTX:=Hd htx
 have HTV:=Hd htv
 have HP:=Hd hp
 have HAA:=Hd haa
 have HNN:=Hd hnn
 clear fr hx hnn haa hcd hps hdp hkd htx htv hp c3
 go_quiet (fail)
 have HY:Hid (Rd (w3.drewN nq) b g cap dv ts xb y):=Hd (HR3.out.below (below_dr (qB _ _) _))
 have HYK:Hid (RK b w3 (w3.drewN nq)):=Hd (RK.of_below (below_dr (qB _ _) _) (ql HR3.out.size))
 go_wp2_with (first
  | (go_at_call 52;(with_reducible refine(IS.out _ HY).mono ?_);rintro e w4 ⟨rfl,hb⟩;have HR4:=Hd (HY.out.below hb);have HK4:=Hd (RK.of_below hb (ql HY.out.size));clear hb)
  | (go_at_call 48;(with_reducible refine(TA.out w4 HR4).mono ?_);rintro e w6 ⟨rfl,hr,hk⟩;have HR6:=Hd hr;have HK6:=Hd (HK4.out.trans hk);clear hr hk)
  | (go_at_call 26;(with_reducible refine(E2.out w6 HR6).mono ?_);rintro e w7 ⟨rfl,hr,hk⟩;have HR7:=Hd hr;have HK7:=Hd hk;clear hr hk)
  | (go_at_call 50;(with_reducible refine(PU.out p w7 HR7).mono ?_);rintro e w8 ⟨rfl,z4,z5,HR8,HK8⟩))
 go_ret
 rw[←HP.out,HD.out]
 exact⟨rfl,HR8.out.setDeep _,HXK.out.trans (HK2.out.trans (HK3.out.trans (HYK.out.trans (HK6.out.trans (HK7.out.trans (HK8.out.trans (RK.set 4 _)))))))⟩
theorem expr_arrow18 (b g cap:Nat) (dv:Value) (ts:List Tok) (xb:Nat→Prop) (f:Nat) (IH:Hid (FC b g cap dv ts xb f)) (σ x:RS) (hx:Hid (x=enterS ts σ)) (hok:okS σ=true) (hc:Hid (x.code=0)) (hi:Hid (isS ts [105,102] x=false)) (vo:Int) (lo:List Int) (y:RS)
  (r1:Hid (runE ts f (.bin 1) x=some (vo,lo,y))) (ha:Hid (isS ts [45,62] y=false)) (hb:Hid (isS ts [102,98,121] y=true)) (vb:Int) (lb:List Int) (z:RS) (r2:Hid (runE ts f .expr (stepS y)=some (vb,lb,z))) (okz:okS z=true) (W:World) (h:Hid (Rd W b g cap dv ts xb σ)) :
  Calls prog 26 #[.pointer (some ⟨b,0,none⟩)] W fun r Y=>RdRet b g cap dv ts xb W (.int .i64 (z.exprs.length:Int)) (leaveS (putS (twoE 18 vo vb (tokL ts y.at_).at_) z)) r Y:=by
 obtain⟨k4,e0,e1⟩:=okS_iff.1 okz
 obtain⟨_,d0,d1⟩:=okS_iff.1 hok
 have EN:Hid (Calls prog 47 #[.pointer (some ⟨b,0,none⟩)] W fun r Y=>RdRet b g cap dv ts xb W (.bool true) x r Y):=Hd ((enter_any b g cap dv ts xb σ W h d0 d1).mono fun r Y hr=>by
  rwa [←hx.out,qT hc.out] at hr)
 have TK:Hid (∀W,Hid (Rd W b g cap dv ts xb x)→Calls prog 48 #[.pointer (some ⟨b,0,none⟩),.string ⟨#[105,102]⟩] W fun r Y=>RdRet b g cap dv ts xb W (.bool false) x r Y):=Hd fun W h=>took_false [105,102] hi.out W h
 have E1:Hid (∀W,Hid (Rd W b g cap dv ts xb x)→Calls prog 51 #[.pointer (some ⟨b,0,none⟩),.int .i64 1] W fun r Y=>RdRet b g cap dv ts xb W (.int .i64 vo) y r Y):=Hd fun W h=>IH.out.bin 1 (by omega) (by omega) x vo lo y r1.out W h
 have IS:Hid (∀W,Hid (Rd W b g cap dv ts xb y)→Calls prog 52 #[.pointer (some ⟨b,0,none⟩),.string ⟨#[102,98,121]⟩] W fun r Y=>r=.returned (.bool true)∧Below W.heap.size W Y):=Hd fun W h=>by
  have:=is_any b g cap dv ts xb y [102,98,121] W h
  rwa [show isS ts [102,98,121] y=true from hb.out] at this
 have TA:Hid (∀W,Hid (Rd W b g cap dv ts xb y)→Calls prog 48 #[.pointer (some ⟨b,0,none⟩),.string ⟨#[45,62]⟩] W fun r Y=>RdRet b g cap dv ts xb W (.bool false) y r Y):=Hd fun W h=>took_false [45,62] ha.out W h
 have TB:Hid (∀W,Hid (Rd W b g cap dv ts xb y)→Calls prog 48 #[.pointer (some ⟨b,0,none⟩),.string ⟨#[102,98,121]⟩] W fun r Y=>RdRet b g cap dv ts xb W (.bool true) (stepS y) r Y):=Hd fun W h=>took_true [102,98,121] hb.out W h
 have E2:=Hd (IH.out.expr _ _ _ _ r2.out)
 obtain⟨d,hdd⟩:∃d,d=z.deep:=⟨_,rfl⟩
 rw[←hdd] at e0 e1
 have PU:Hid (∀(p:Nat) W,Hid (Rd W b g cap dv ts xb z)→Calls prog 50 #[.pointer (some ⟨b,0,none⟩),.agg #[.int .i64 18,.int .i64 vo,.int .i64 vb,.int .i64 0,.string ⟨#[]⟩,.string ⟨#[]⟩,.int .i64 0,.slice none 0 0,.int .i64 (p:Int)]] W fun r Y=>RdDeep b g cap dv ts xb W (.int .i64 (z.exprs.length:Int)) (putS (twoE 18 vo vb p) z) d r Y) :=
  Hd fun p W h=>(put_two b g cap dv ts xb z 18 vo vb p W h okz).mono fun r Y hr=>hr.deep hdd.symm
 have HD:=Hd hdd
 clear hdd hok okz d0 d1 k4
 go_enter Tryz.func26,Tryz.ntmps26
 go_wp2_with (go_at_call 47;(with_reducible refine EN.out.mono ?_);rintro e w1 ⟨rfl,hr,hk⟩;have HR:=Hd hr;have HK:=Hd hk;clear hr hk)
 have KX:Hid (∃w0,Rd w0 b g cap dv ts xb x):=Hd ⟨w1,HR.out⟩
 obtain⟨o,c,⟨c0,c1,c3,c4,c5,c6,fr⟩,hx⟩:=HR.out.cells
 have ht:=HR.out.tok
 have hgb:g≠b:=by have:=HR.out.lt;omega
 have hl:=HR.out.at_
 have hn:=HR.out.len
 obtain⟨t0,t1,t2,t3⟩:=ht
 obtain⟨n,hnn⟩:∃n,n=ts.length:=⟨_,rfl⟩
 obtain⟨a,haa⟩:∃a,a=x.at_:=⟨_,rfl⟩
 obtain⟨cd,hcd⟩:∃cd,cd=x.code:=⟨_,rfl⟩
 obtain⟨ps,hps⟩:∃ps,ps=x.pos:=⟨_,rfl⟩
 obtain⟨dp,hdp⟩:∃dp,dp=x.deep:=⟨_,rfl⟩
 obtain⟨kd,hkd⟩:∃kd,kd=(tokL ts x.at_).kind:=⟨_,rfl⟩
 obtain⟨tx,htx⟩:∃tx,tx=(tokL ts x.at_).text:=⟨_,rfl⟩
 obtain⟨tv,htv⟩:∃tv,tv=(tokL ts x.at_).v:=⟨_,rfl⟩
 obtain⟨p,hp⟩:∃p,p=(tokL ts x.at_).at_:=⟨_,rfl⟩
 rw[←hnn] at c0 hl hn
 rw[←hkd] at t0
 rw[←htx] at t1
 rw[←htv] at t2
 rw[←hp] at t3
 rw[←haa] at c1 t0 t1 t2 t3 hl
 rw[←hcd] at c5
 rw[←hdp] at c4
 rw[←hps] at c6
 have k0:((a:Nat):Int)<(n:Int):=by omega
 have f1:=fr 1
 have f4:=fr 4
 have f5:=fr 5
 have f6:=fr 6
 have HCD:=Hd hcd
 have HPS:=Hd hps
 have HDP:=Hd hdp
 have HKD:=Hd hkd
 have HTX:=Hd htx
 have HTV:=Hd htv
 have HP:=Hd hp
 have HAA:=Hd haa
 have HNN:=Hd hnn
 clear fr hx hnn haa hcd hps hdp hkd htx htv hp c3
 go_quiet (fail)
 have HX:Hid (Rd (w1.drewN nq) b g cap dv ts xb x):=Hd (HR.out.below (below_dr (qB _ _) _))
 have HXK:Hid (RK b W (w1.drewN nq)):=Hd (HK.out.trans (RK.of_below (below_dr (qB _ _) _) (ql HR.out.size)))
 clear HCD HPS HDP HKD HTX HTV HP HAA HNN
 clear t0 t1 t2 t3 c0 c1 c4 c5 c6 f1 f4 f5 f6 k0 hl hn hgb
 go_wp2_with (first
  | (go_at_call 48;(with_reducible refine(TK.out _ HX).mono ?_);rintro e w2 ⟨rfl,hr,hk⟩;have HR2:=Hd hr;have HK2:=Hd hk;clear hr hk)
  | (go_at_call 51;(with_reducible refine(E1.out w2 HR2).mono ?_);rintro e w3 ⟨rfl,hr,hk⟩;have HR3:=Hd hr;have HK3:=Hd hk;clear hr hk))
 obtain⟨o,c,⟨c0,c1,c3,c4,c5,c6,fr⟩,hx⟩:=HR3.out.cells
 have ht:=HR3.out.tok
 have hgb:g≠b:=by have:=HR3.out.lt;omega
 have hl:=HR3.out.at_
 have hn:=HR3.out.len
 obtain⟨t0,t1,t2,t3⟩:=ht
 obtain⟨n,hnn⟩:∃n,n=ts.length:=⟨_,rfl⟩
 obtain⟨a,haa⟩:∃a,a=y.at_:=⟨_,rfl⟩
 obtain⟨cd,hcd⟩:∃cd,cd=y.code:=⟨_,rfl⟩
 obtain⟨ps,hps⟩:∃ps,ps=y.pos:=⟨_,rfl⟩
 obtain⟨dp,hdp⟩:∃dp,dp=y.deep:=⟨_,rfl⟩
 obtain⟨kd,hkd⟩:∃kd,kd=(tokL ts y.at_).kind:=⟨_,rfl⟩
 obtain⟨tx,htx⟩:∃tx,tx=(tokL ts y.at_).text:=⟨_,rfl⟩
 obtain⟨tv,htv⟩:∃tv,tv=(tokL ts y.at_).v:=⟨_,rfl⟩
 obtain⟨p,hp⟩:∃p,p=(tokL ts y.at_).at_:=⟨_,rfl⟩
 rw[←hnn] at c0 hl hn
 rw[←hkd] at t0
 rw[←htx] at t1
 rw[←htv] at t2
 rw[←hp] at t3
 rw[←haa] at c1 t0 t1 t2 t3 hl
 rw[←hcd] at c5
 rw[←hdp] at c4
 rw[←hps] at c6
 have k0:((a:Nat):Int)<(n:Int):=by omega
 have f1:=fr 1
 have f4:=fr 4
 have f5:=fr 5
 have f6:=fr 6
 have HCD:=Hd hcd
 have HPS:=Hd hps
 have HDP:=Hd hdp
 have HKD:=Hd hkd
 have HTX:=Hd htx
 have HTV:=Hd htv
 have HP:=Hd hp
 have HAA:=Hd haa
 have HNN:=Hd hnn
 clear fr hx hnn haa hcd hps hdp hkd htx htv hp c3
 go_quiet (fail)
 have HY:Hid (Rd (w3.drewN nq) b g cap dv ts xb y):=Hd (HR3.out.below (below_dr (qB _ _) _))
 have HYK:Hid (RK b w3 (w3.drewN nq)):=Hd (RK.of_below (below_dr (qB _ _) _) (ql HR3.out.size))
 go_wp2_with (first
  | (go_at_call 52;(with_reducible refine(IS.out _ HY).mono ?_);rintro e w4 ⟨rfl,hb⟩;have HR4:=Hd (HY.out.below hb);have HK4:=Hd (RK.of_below hb (ql HY.out.size));clear hb)
  | (go_at_call 48;(with_reducible refine(TA.out w4 HR4).mono ?_);rintro e w5 ⟨rfl,hr,hk⟩;have HR5:=Hd hr;have HK5:=Hd hk;clear hr hk)
  | (go_at_call 48;(with_reducible refine(TB.out w5 HR5).mono ?_);rintro e w6 ⟨rfl,hr,hk⟩;have HR6:=Hd hr;have HK6:=Hd (HK4.out.trans (HK5.out.trans hk));clear hr hk)
  | (go_at_call 26;(with_reducible refine(E2.out w6 HR6).mono ?_);rintro e w7 ⟨rfl,hr,hk⟩;have HR7:=Hd hr;have HK7:=Hd hk;clear hr hk)
  | (go_at_call 50;(with_reducible refine(PU.out p w7 HR7).mono ?_);rintro e w8 ⟨rfl,z4,z5,HR8,HK8⟩))
 go_ret
 rw[←HP.out,HD.out]
 exact⟨rfl,HR8.out.setDeep _,HXK.out.trans (HK2.out.trans (HK3.out.trans (HYK.out.trans (HK6.out.trans (HK7.out.trans (HK8.out.trans (RK.set 4 _)))))))⟩
theorem expr_plain (b g cap:Nat) (dv:Value) (ts:List Tok) (xb:Nat→Prop) (f:Nat) (IH:Hid (FC b g cap dv ts xb f)) (σ x:RS) (hx:Hid (x=enterS ts σ)) (hok:okS σ=true) (hc:Hid (x.code=0)) (hi:Hid (isS ts [105,102] x=false)) (vo:Int) (lo:List Int) (y:RS)
  (r1:Hid (runE ts f (.bin 1) x=some (vo,lo,y))) (ha:Hid (isS ts [45,62] y=false)) (hb:Hid (isS ts [102,98,121] y=false)) (oky:okS y=true) (W:World) (h:Hid (Rd W b g cap dv ts xb σ)) :
  Calls prog 26 #[.pointer (some ⟨b,0,none⟩)] W fun r Y=>RdRet b g cap dv ts xb W (.int .i64 vo) (leaveS y) r Y:=by
 obtain⟨k4,e0,e1⟩:=okS_iff.1 oky
 obtain⟨_,d0,d1⟩:=okS_iff.1 hok
 have EN:Hid (Calls prog 47 #[.pointer (some ⟨b,0,none⟩)] W fun r Y=>RdRet b g cap dv ts xb W (.bool true) x r Y):=Hd ((enter_any b g cap dv ts xb σ W h d0 d1).mono fun r Y hr=>by
  rwa [←hx.out,qT hc.out] at hr)
 have TK:Hid (∀W,Hid (Rd W b g cap dv ts xb x)→Calls prog 48 #[.pointer (some ⟨b,0,none⟩),.string ⟨#[105,102]⟩] W fun r Y=>RdRet b g cap dv ts xb W (.bool false) x r Y):=Hd fun W h=>took_false [105,102] hi.out W h
 have E1:Hid (∀W,Hid (Rd W b g cap dv ts xb x)→Calls prog 51 #[.pointer (some ⟨b,0,none⟩),.int .i64 1] W fun r Y=>RdRet b g cap dv ts xb W (.int .i64 vo) y r Y):=Hd fun W h=>IH.out.bin 1 (by omega) (by omega) x vo lo y r1.out W h
 have IS:Hid (∀W,Hid (Rd W b g cap dv ts xb y)→Calls prog 52 #[.pointer (some ⟨b,0,none⟩),.string ⟨#[102,98,121]⟩] W fun r Y=>r=.returned (.bool false)∧Below W.heap.size W Y):=Hd fun W h=>by
  have:=is_any b g cap dv ts xb y [102,98,121] W h
  rwa [hb.out] at this
 have TA:Hid (∀W,Hid (Rd W b g cap dv ts xb y)→Calls prog 48 #[.pointer (some ⟨b,0,none⟩),.string ⟨#[45,62]⟩] W fun r Y=>RdRet b g cap dv ts xb W (.bool false) y r Y):=Hd fun W h=>took_false [45,62] ha.out W h
 obtain⟨d,hdd⟩:∃d,d=y.deep:=⟨_,rfl⟩
 rw[←hdd] at e0 e1
 have TB:Hid (∀W,Hid (Rd W b g cap dv ts xb y)→Calls prog 48 #[.pointer (some ⟨b,0,none⟩),.string ⟨#[102,98,121]⟩] W fun r Y=>RdDeep b g cap dv ts xb W (.bool false) y d r Y):=Hd fun W h=>(took_false [102,98,121] hb.out W h).mono fun r Y hr=>hr.deep hdd.symm
 have HD:=Hd hdd
 clear hdd hok oky d0 d1 k4
 go_enter Tryz.func26,Tryz.ntmps26
 go_wp2_with (go_at_call 47;(with_reducible refine EN.out.mono ?_);rintro e w1 ⟨rfl,hr,hk⟩;have HR:=Hd hr;have HK:=Hd hk;clear hr hk)
 have KX:Hid (∃w0,Rd w0 b g cap dv ts xb x):=Hd ⟨w1,HR.out⟩
 obtain⟨o,c,⟨c0,c1,c3,c4,c5,c6,fr⟩,hx⟩:=HR.out.cells
 have ht:=HR.out.tok
 have hgb:g≠b:=by have:=HR.out.lt;omega
 have hl:=HR.out.at_
 have hn:=HR.out.len
 obtain⟨t0,t1,t2,t3⟩:=ht
 obtain⟨n,hnn⟩:∃n,n=ts.length:=⟨_,rfl⟩
 obtain⟨a,haa⟩:∃a,a=x.at_:=⟨_,rfl⟩
 obtain⟨cd,hcd⟩:∃cd,cd=x.code:=⟨_,rfl⟩
 obtain⟨ps,hps⟩:∃ps,ps=x.pos:=⟨_,rfl⟩
 obtain⟨dp,hdp⟩:∃dp,dp=x.deep:=⟨_,rfl⟩
 obtain⟨kd,hkd⟩:∃kd,kd=(tokL ts x.at_).kind:=⟨_,rfl⟩
 obtain⟨tx,htx⟩:∃tx,tx=(tokL ts x.at_).text:=⟨_,rfl⟩
 obtain⟨tv,htv⟩:∃tv,tv=(tokL ts x.at_).v:=⟨_,rfl⟩
 obtain⟨p,hp⟩:∃p,p=(tokL ts x.at_).at_:=⟨_,rfl⟩
 rw[←hnn] at c0 hl hn
 rw[←hkd] at t0
 rw[←htx] at t1
 rw[←htv] at t2
 rw[←hp] at t3
 rw[←haa] at c1 t0 t1 t2 t3 hl
 rw[←hcd] at c5
 rw[←hdp] at c4
 rw[←hps] at c6
 have k0:((a:Nat):Int)<(n:Int):=by omega
 have f1:=fr 1
 have f4:=fr 4
 have f5:=fr 5
 have f6:=fr 6
 have HCD:=Hd hcd
 have HPS:=Hd hps
 have HDP:=Hd hdp
 have HKD:=Hd hkd
 have HTX:=Hd htx
 have HTV:=Hd htv
 have HP:=Hd hp
 have HAA:=Hd haa
 have HNN:=Hd hnn
 clear fr hx hnn haa hcd hps hdp hkd htx htv hp c3
 go_quiet (fail)
 have HX:Hid (Rd (w1.drewN nq) b g cap dv ts xb x):=Hd (HR.out.below (below_dr (qB _ _) _))
 have HXK:Hid (RK b W (w1.drewN nq)):=Hd (HK.out.trans (RK.of_below (below_dr (qB _ _) _) (ql HR.out.size)))
 clear HCD HPS HDP HKD HTX HTV HP HAA HNN
 clear t0 t1 t2 t3 c0 c1 c4 c5 c6 f1 f4 f5 f6 k0 hl hn hgb
 go_wp2_with (first
  | (go_at_call 48;(with_reducible refine(TK.out _ HX).mono ?_);rintro e w2 ⟨rfl,hr,hk⟩;have HR2:=Hd hr;have HK2:=Hd hk;clear hr hk)
  | (go_at_call 51;(with_reducible refine(E1.out w2 HR2).mono ?_);rintro e w3 ⟨rfl,hr,hk⟩;have HR3:=Hd hr;have HK3:=Hd hk;clear hr hk))
 obtain⟨o,c,⟨c0,c1,c3,c4,c5,c6,fr⟩,hx⟩:=HR3.out.cells
 have ht:=HR3.out.tok
 have hgb:g≠b:=by have:=HR3.out.lt;omega
 have hl:=HR3.out.at_
 have hn:=HR3.out.len
 obtain⟨t0,t1,t2,t3⟩:=ht
 obtain⟨n,hnn⟩:∃n,n=ts.length:=⟨_,rfl⟩
 obtain⟨a,haa⟩:∃a,a=y.at_:=⟨_,rfl⟩
 obtain⟨cd,hcd⟩:∃cd,cd=y.code:=⟨_,rfl⟩
 obtain⟨ps,hps⟩:∃ps,ps=y.pos:=⟨_,rfl⟩
 obtain⟨dp,hdp⟩:∃dp,dp=y.deep:=⟨_,rfl⟩
 obtain⟨kd,hkd⟩:∃kd,kd=(tokL ts y.at_).kind:=⟨_,rfl⟩
 obtain⟨tx,htx⟩:∃tx,tx=(tokL ts y.at_).text:=⟨_,rfl⟩
 obtain⟨tv,htv⟩:∃tv,tv=(tokL ts y.at_).v:=⟨_,rfl⟩
 obtain⟨p,hp⟩:∃p,p=(tokL ts y.at_).at_:=⟨_,rfl⟩
 rw[←hnn] at c0 hl hn
 rw[←hkd] at t0
 rw[←htx] at t1
 rw[←htv] at t2
 rw[←hp] at t3
 rw[←haa] at c1 t0 t1 t2 t3 hl
 rw[←hcd] at c5
 rw[←hdp] at c4
 rw[←hps] at c6
 have k0:((a:Nat):Int)<(n:Int):=by omega
 have f1:=fr 1
 have f4:=fr 4
 have f5:=fr 5
 have f6:=fr 6
 have HCD:=Hd hcd
 have HPS:=Hd hps
 have HDP:=Hd hdp
 have HKD:=Hd hkd
 have HTX:=Hd htx
 have HTV:=Hd htv
 have HP:=Hd hp
 have HAA:=Hd haa
 have HNN:=Hd hnn
 clear fr hx hnn haa hcd hps hdp hkd htx htv hp c3
 go_quiet (fail)
 have HY:Hid (Rd (w3.drewN nq) b g cap dv ts xb y):=Hd (HR3.out.below (below_dr (qB _ _) _))
 have HYK:Hid (RK b w3 (w3.drewN nq)):=Hd (RK.of_below (below_dr (qB _ _) _) (ql HR3.out.size))
 clear HCD HPS HDP HKD HTX HTV HP HAA HNN
 clear t0 t1 t2 t3 c0 c1 c4 c5 c6 f1 f4 f5 f6 k0 hl hn hgb
 go_wp2_with (first
  | (go_at_call 52;(with_reducible refine(IS.out _ HY).mono ?_);rintro e w4 ⟨rfl,hb⟩;have HR4:=Hd (HY.out.below hb);have HK4:=Hd (RK.of_below hb (ql HY.out.size));clear hb)
  | (go_at_call 48;(with_reducible refine(TA.out w4 HR4).mono ?_);rintro e w5 ⟨rfl,hr,hk⟩;have HR5:=Hd hr;have HK5:=Hd hk;clear hr hk)
  | (go_at_call 48;(with_reducible refine(TB.out w5 HR5).mono ?_);rintro e w6 ⟨rfl,z4,z5,HR6,HK6⟩))
 go_ret
 rw[HD.out]
 exact⟨rfl,HR6.out.setDeep _,HXK.out.trans (HK2.out.trans (HK3.out.trans (HYK.out.trans (HK4.out.trans (HK5.out.trans (HK6.out.trans (RK.set 4 _)))))))⟩
theorem expr_any (b g cap:Nat) (dv:Value) (ts:List Tok) (xb:Nat→Prop) (f:Nat) (IH:FC b g cap dv ts xb f) (σ:RS) (v:Int) (l:List Int) (τ:RS) (hr:runE ts (f+1) .expr σ=some (v,l,τ)) (W:World) (h:Hid (Rd W b g cap dv ts xb σ)) :
  Calls prog 26 #[.pointer (some ⟨b,0,none⟩)] W fun r Y=>RdRet b g cap dv ts xb W (.int .i64 v) τ r Y:=by
 obtain⟨hok,hcase⟩:=expr_cases hr
 rcases hcase with ⟨hc,e⟩ | ⟨hc,hi,va,la,s2,vb,lb,s3,vc,lc,s4,r1,r2,r3,ok4,e⟩ | ⟨hc,hi,vo,lo,y,r1,hcase⟩
 ·cases e
  exact expr_bad b g cap dv ts xb σ hok (Hd hc) W h
 ·cases e
  exact expr_if b g cap dv ts xb f (Hd IH) σ _ (Hd rfl) hok (Hd hc) (Hd hi) va vb vc la lb lc s2 s3 s4 (Hd r1) (Hd r2) (Hd r3) ok4 W h
 ·rcases hcase with ⟨ha,vb,lb,z,r2,okz,e⟩ | ⟨ha,hb,vb,lb,z,r2,okz,e⟩ | ⟨ha,hb,oky,e⟩
  ·cases e
   exact expr_arrow17 b g cap dv ts xb f (Hd IH) σ _ (Hd rfl) hok (Hd hc) (Hd hi) vo lo y (Hd r1) (Hd ha) vb lb z (Hd r2) okz W h
  ·cases e
   exact expr_arrow18 b g cap dv ts xb f (Hd IH) σ _ (Hd rfl) hok (Hd hc) (Hd hi) vo lo y (Hd r1) (Hd ha) (Hd hb) vb lb z (Hd r2) okz W h
  ·cases e
   exact expr_plain b g cap dv ts xb f (Hd IH) σ _ (Hd rfl) hok (Hd hc) (Hd hi) v lo y (Hd r1) (Hd ha) (Hd hb) oky W h
end Go.Proofs.YthpgfahlccljnaaGreatDoor
