import Derived.Test.YtlbhlncipajapaaGreatDoorPt26
set_option maxHeartbeats 16000000
set_option maxRecDepth 100000
set_option linter.unusedVariables false
open Go.Proofs.Tryz(prog)
namespace Go.Proofs.YtlbhlncipajapaaGreatDoor
open Go.RowKit Lx
theorem decl_fun (b g cap:Nat) (dv:Value) (ts:List Tok) (xb:Nat→Prop) (f:Nat) (σ0 σ1 σ2 σ3 σ4 σ5 σ6 σ7 σ8:RS) (ps0:Nat) (hp:ps0=(tokL ts σ0.at_).at_) (v0:List UInt8) (pl:List Pa) (v3:Int) (v5:Int) (ht:isS ts [102,117,110] σ0=true) (h1:σ1=stepS σ0) (g0:v0=nameV ts σ1) (k0:σ2=nameS ts σ1) (g1:paramsS ts f σ2=some (pl,σ3)) (k2:σ4=wantS ts [58] σ3) (g3:v3=kindV ts σ4) (k3:σ5=kindS ts σ4) (k4:σ6=wantS ts [61] σ5) (l5:List Int) (g5:runE ts f .expr σ6=some (v5,l5,σ7)) (k6:σ8=wantS ts [59] σ7) (W:World) (h:Hid (Rd W b g cap dv ts xb σ0)) :
  Calls prog 19 #[.pointer (some ⟨b,0,none⟩)] W fun r Y=>DeRetG b g cap dv ts xb W ⟨1,str v0,pl,[],v3,v5,(ps0:Int)⟩ σ8 r Y:=by
 have T1:Hid (∀W,Hid (Rd W b g cap dv ts xb σ0)→Calls prog 36 #[.pointer (some ⟨b,0,none⟩),.string ⟨#[102,117,110]⟩] W fun r Y=>RdRet b g cap dv ts xb W (.bool true) σ1 r Y):=Hd fun W h=>by rw[h1];exact took_true [102,117,110] ht W h
 have C0:Hid (∀W,Hid (Rd W b g cap dv ts xb σ1)→Calls prog 41 #[.pointer (some ⟨b,0,none⟩)] W fun r Y=>RdRet b g cap dv ts xb W (.string (str v0)) σ2 r Y):=Hd fun W h=>by rw[g0,k0];exact name_any b g cap dv ts xb σ1 W h
 have C1:Hid (∀W,Hid (Rd W b g cap dv ts xb σ2)→Calls prog 42 #[.pointer (some ⟨b,0,none⟩)] W fun r Y=>PasRet b g cap dv ts xb W pl σ3 r Y):=Hd fun W h=>params_any b g cap dv ts xb σ2 f (pl,σ3) g1 W h
 have C2:Hid (∀W,Hid (Rd W b g cap dv ts xb σ3)→Calls prog 37 #[.pointer (some ⟨b,0,none⟩),.string ⟨#[58]⟩] W fun r Y=>RdRet b g cap dv ts xb W (.tuple #[]) σ4 r Y):=Hd fun W h=>by rw[k2];exact want_any b g cap dv ts xb σ3 [58] W h
 have C3:Hid (∀W,Hid (Rd W b g cap dv ts xb σ4)→Calls prog 44 #[.pointer (some ⟨b,0,none⟩)] W fun r Y=>RdRet b g cap dv ts xb W (.int .i64 v3) σ5 r Y):=Hd fun W h=>by rw[g3,k3];exact kind_any b g cap dv ts xb σ4 W h
 have C4:Hid (∀W,Hid (Rd W b g cap dv ts xb σ5)→Calls prog 37 #[.pointer (some ⟨b,0,none⟩),.string ⟨#[61]⟩] W fun r Y=>RdRet b g cap dv ts xb W (.tuple #[]) σ6 r Y):=Hd fun W h=>by rw[k4];exact want_any b g cap dv ts xb σ5 [61] W h
 have C5:Hid (∀W,Hid (Rd W b g cap dv ts xb σ6)→Calls prog 18 #[.pointer (some ⟨b,0,none⟩)] W fun r Y=>RdRet b g cap dv ts xb W (.int .i64 v5) σ7 r Y):=Hd fun W h=>(fc_all b g cap dv ts f xb).expr σ6 v5 l5 σ7 g5 W h
 have C6:Hid (∀W,Hid (Rd W b g cap dv ts xb σ7)→Calls prog 37 #[.pointer (some ⟨b,0,none⟩),.string ⟨#[59]⟩] W fun r Y=>RdRet b g cap dv ts xb W (.tuple #[]) σ8 r Y):=Hd fun W h=>by rw[k6];exact want_any b g cap dv ts xb σ7 [59] W h
 have HPS0:=Hd hp
 clear hp ht h1 g0 k0 g1 k2 g3 k3 k4 g5 k6
 obtain⟨o,c,⟨c0,c1,c3,c4,c5,c6,fr⟩,hx⟩:=h.out.cells
 have ht:=h.out.tok
 have hgb:g≠b:=by have:=h.out.lt;omega
 have hl:=h.out.at_
 have hn:=h.out.len
 obtain⟨t0,t1,t2,t3⟩:=ht
 obtain⟨n,hnn⟩:∃n,n=ts.length:=⟨_,rfl⟩
 obtain⟨a,haa⟩:∃a,a=σ0.at_:=⟨_,rfl⟩
 obtain⟨cd,hcd⟩:∃cd,cd=σ0.code:=⟨_,rfl⟩
 obtain⟨ps,hps⟩:∃ps,ps=σ0.pos:=⟨_,rfl⟩
 obtain⟨dp,hdp⟩:∃dp,dp=σ0.deep:=⟨_,rfl⟩
 obtain⟨kd,hkd⟩:∃kd,kd=(tokL ts σ0.at_).kind:=⟨_,rfl⟩
 obtain⟨tx,htx⟩:∃tx,tx=(tokL ts σ0.at_).text:=⟨_,rfl⟩
 obtain⟨tv,htv⟩:∃tv,tv=(tokL ts σ0.at_).v:=⟨_,rfl⟩
 obtain⟨p,hp⟩:∃p,p=(tokL ts σ0.at_).at_:=⟨_,rfl⟩
 rw[←hnn] at c0 hl hn
 rw[←hkd] at t0
 rw[←htx] at t1
 rw[←htv] at t2
 rw[←hp] at t3
 rw[←haa] at c1 t0 t1 t2 t3 hl
 rw[←hcd] at c5
 rw[←hdp] at c4
 rw[←hps] at c6
 have k0:((a:Nat):Int)<(n:Int):=by omega
 have f1:=fr 1
 have f4:=fr 4
 have f5:=fr 5
 have f6:=fr 6
 have HCD:=Hd hcd
 have HPS:=Hd hps
 have HDP:=Hd hdp
 have HKD:=Hd hkd
 have HTX:=Hd htx
 have HTV:=Hd htv
 have HP:=Hd hp
 have HAA:=Hd haa
 have HNN:=Hd hnn
 clear fr hx hnn haa hcd hps hdp hkd htx htv hp c3
 have hbs:b<W.heap.size:=h.out.size
 go_enter Tryz.func19,Tryz.ntmps19
 go_wp2_with fail
 go_region_held3 (fun w'=>w'.cell? ⟨b,0,none⟩=some (.slice (some ⟨g,0,none⟩) n cap)∧w'.cell? ⟨b,1,none⟩=some (.int .i64 (a:Int))∧w'.cell? ⟨g,a*4+3,none⟩=some (.int .i64 (p:Int)))
  ((repeat' apply And.intro) <;> first | assumption | exact cell_set2 (by assumption) (by omega) | go_keep)
  (fail)
 obtain⟨A,hA⟩:∃A,A=W.heap.size:=⟨_,rfl⟩
 obtain⟨V,hV⟩:∃V,V=((W.alloc (.cells #[.int .i64 0,.string ⟨#[]⟩,.slice none 0 0,.slice none 0 0,.int .i64 0,.int .i64 0,.int .i64 0] 57)).alloc (.cells #[.int .i64 0,.string ⟨#[]⟩,.slice none 0 0,.slice none 0 0,.int .i64 0,.int .i64 0,.int .i64 (p:Int)] 57)).drew:=⟨_,rfl⟩
 have hbV:Below W.heap.size W V:=by rw[hV];exact(((qB _ _).alloc (qL _) _).alloc (by simp) _).drew
 have HB0:V.heap[A]?=some (.cells #[.int .i64 0,.string ⟨#[]⟩,.slice none 0 0,.slice none 0 0,.int .i64 0,.int .i64 0,.int .i64 0] 57 (0,0)):=by
  rw[hV,hA]
  exact(heap_alloc_old _ _ (by simp)).trans (heap_alloc_new W _)
 have HB1:V.heap[A+1]?=some (.cells #[.int .i64 0,.string ⟨#[]⟩,.slice none 0 0,.slice none 0 0,.int .i64 0,.int .i64 0,.int .i64 (p:Int)] 57 (0,0)):=by
  have:=heap_alloc_new (W.alloc (.cells #[.int .i64 0,.string ⟨#[]⟩,.slice none 0 0,.slice none 0 0,.int .i64 0,.int .i64 0,.int .i64 0] 57)) (.cells #[.int .i64 0,.string ⟨#[]⟩,.slice none 0 0,.slice none 0 0,.int .i64 0,.int .i64 0,.int .i64 (p:Int)] 57)
  rw[World.size_alloc,←hA] at this
  rw[hV];exact this
 have HPP:ps0=p:=by rw[HPS0.out,HP.out]
 have HS:Hid (DB W V b g cap dv ts xb σ0 A #[.int .i64 0,.string ⟨#[]⟩,.slice none 0 0,.slice none 0 0,.int .i64 0,.int .i64 0,.int .i64 (ps0:Int)] [] (.slice none 0 0) [] (.slice none 0 0)):=Hd ⟨h.out.below hbV,RK.of_below hbV (ql hbs),HB0,by rw[HPP];exact HB1,by omega,hbs,qO _ _ _ _,ItsOwn.nil _ _⟩
 have HR:=Hd HS.out.rd
 rw[←hV,←hA]
 have hbA:b<A:=by omega
 clear hV hA hbV HB0 HB1 hgb hn hl k0 t0 t1 t2 t3 c0 c1 c4 c5 c6 f1 f4 f5 f6 HCD HPS HDP HKD HTX HTV HAA HNN HP HPS0 HPP
 go_wp2_with (go_at_call 36;(with_reducible refine Calls.mono (T1.out _ HR) ?_);(rintro e w1 ⟨rfl,hr,hk⟩);have HX:=HS;clear HR HS;have HS:=Hd (HX.out.call hr hk);have HR:=Hd hr;clear hr hk HX;obtain⟨⟨x0,x1,x2,x3,x4,x5,x6⟩,xf⟩:=dgCells HS.out.box;have f0:=xf 0;clear xf)
 obtain⟨u0,hw⟩:∃w',w'=w1.setCell ⟨A+1,0,none⟩ (.int .i64 1):=⟨_,rfl⟩
 have HX:=HS
 clear HS
 have HS:Hid (DB W u0 b g cap dv ts xb σ1 A #[.int .i64 1,.string ⟨#[]⟩,.slice none 0 0,.slice none 0 0,.int .i64 0,.int .i64 0,.int .i64 (ps0:Int)] [] (.slice none 0 0) [] (.slice none 0 0)):=Hd (by rw[hw];exact HX.out.set 0 _ rfl)
 rw[←hw]
 clear hw HX x0 x1 x2 x3 x4 x5 x6 f0
 clear HR
 have HR:=Hd HS.out.rd
 refine(C0.out u0 HR).mono ?_
 rintro e z0 ⟨rfl,hr,hk⟩
 dsimp only
 have HX:=HS
 clear HS HR
 have HS:=Hd (HX.out.call hr hk)
 clear hr hk HX
 obtain⟨⟨x0,x1,x2,x3,x4,x5,x6⟩,xf⟩:=dgCells HS.out.box;have f0:=xf 1;clear xf
 go_wp2_with fail
 obtain⟨u1,hw⟩:∃w',w'=z0.setCell ⟨A+1,1,none⟩ (.string (str v0)):=⟨_,rfl⟩
 have HX:=HS
 clear HS
 have HS:Hid (DB W u1 b g cap dv ts xb σ2 A #[.int .i64 1,.string (str v0),.slice none 0 0,.slice none 0 0,.int .i64 0,.int .i64 0,.int .i64 (ps0:Int)] [] (.slice none 0 0) [] (.slice none 0 0)):=Hd (by rw[hw];exact HX.out.set 1 _ rfl)
 rw[←hw]
 clear hw HX x0 x1 x2 x3 x4 x5 x6 f0
 have HR:=Hd HS.out.rd
 refine(C1.out u1 HR).mono ?_
 rintro e z1 ⟨po,pc,rfl,hs⟩
 dsimp only
 have HX:=HS
 clear HS HR
 have HS:=Hd (HX.out.callP hs)
 clear hs HX
 obtain⟨⟨x0,x1,x2,x3,x4,x5,x6⟩,xf⟩:=dgCells HS.out.box;have f0:=xf 2;clear xf
 have HY:=Hd (HS.out.set 2 (.slice po pl.length pc) rfl)
 obtain⟨⟨y0,_,_,_,_,_,_⟩,_⟩:=dgCells HY.out.box
 clear HY
 go_wp2_with fail
 clear y0
 obtain⟨u2,hw⟩:∃w',w'=z1.setCell ⟨A+1,2,none⟩ (.slice po pl.length pc):=⟨_,rfl⟩
 have HX:=HS
 clear HS
 have HS:Hid (DB W u2 b g cap dv ts xb σ3 A #[.int .i64 1,.string (str v0),.slice po pl.length pc,.slice none 0 0,.int .i64 0,.int .i64 0,.int .i64 (ps0:Int)] pl (.slice po pl.length pc) [] (.slice none 0 0)):=Hd (by rw[hw];exact HX.out.set 2 _ rfl)
 rw[←hw]
 clear hw HX x0 x1 x2 x3 x4 x5 x6 f0
 have HR:=Hd HS.out.rd
 refine(C2.out u2 HR).mono ?_
 rintro e z2 ⟨rfl,hr,hk⟩
 dsimp only
 have HX:=HS
 clear HS HR
 have HS:=Hd (HX.out.call hr hk)
 clear hr hk HX
 obtain⟨⟨x0,x1,x2,x3,x4,x5,x6⟩,_⟩:=dgCells HS.out.box
 go_wp2_with fail
 clear x0 x1 x2 x3 x4 x5 x6
 have HR:=Hd HS.out.rd
 refine(C3.out z2 HR).mono ?_
 rintro e z3 ⟨rfl,hr,hk⟩
 dsimp only
 have HX:=HS
 clear HS HR
 have HS:=Hd (HX.out.call hr hk)
 clear hr hk HX
 obtain⟨⟨x0,x1,x2,x3,x4,x5,x6⟩,xf⟩:=dgCells HS.out.box;have f0:=xf 4;clear xf
 have HY:=Hd (HS.out.set 4 (.int .i64 v3) rfl)
 obtain⟨⟨y0,_,_,_,_,_,_⟩,_⟩:=dgCells HY.out.box
 clear HY
 go_wp2_with fail
 clear y0
 obtain⟨u4,hw⟩:∃w',w'=z3.setCell ⟨A+1,4,none⟩ (.int .i64 v3):=⟨_,rfl⟩
 have HX:=HS
 clear HS
 have HS:Hid (DB W u4 b g cap dv ts xb σ5 A #[.int .i64 1,.string (str v0),.slice po pl.length pc,.slice none 0 0,.int .i64 v3,.int .i64 0,.int .i64 (ps0:Int)] pl (.slice po pl.length pc) [] (.slice none 0 0)):=Hd (by rw[hw];exact HX.out.set 4 _ rfl)
 rw[←hw]
 clear hw HX x0 x1 x2 x3 x4 x5 x6 f0
 have HR:=Hd HS.out.rd
 refine(C4.out u4 HR).mono ?_
 rintro e z4 ⟨rfl,hr,hk⟩
 dsimp only
 have HX:=HS
 clear HS HR
 have HS:=Hd (HX.out.call hr hk)
 clear hr hk HX
 obtain⟨⟨x0,x1,x2,x3,x4,x5,x6⟩,_⟩:=dgCells HS.out.box
 go_wp2_with fail
 clear x0 x1 x2 x3 x4 x5 x6
 have HR:=Hd HS.out.rd
 refine(C5.out z4 HR).mono ?_
 rintro e z5 ⟨rfl,hr,hk⟩
 dsimp only
 have HX:=HS
 clear HS HR
 have HS:=Hd (HX.out.call hr hk)
 clear hr hk HX
 obtain⟨⟨x0,x1,x2,x3,x4,x5,x6⟩,xf⟩:=dgCells HS.out.box;have f0:=xf 5;clear xf
 go_wp2_with fail
 obtain⟨u6,hw⟩:∃w',w'=z5.setCell ⟨A+1,5,none⟩ (.int .i64 v5):=⟨_,rfl⟩
 have HX:=HS
 clear HS
 have HS:Hid (DB W u6 b g cap dv ts xb σ7 A #[.int .i64 1,.string (str v0),.slice po pl.length pc,.slice none 0 0,.int .i64 v3,.int .i64 v5,.int .i64 (ps0:Int)] pl (.slice po pl.length pc) [] (.slice none 0 0)):=Hd (by rw[hw];exact HX.out.set 5 _ rfl)
 rw[←hw]
 clear hw HX x0 x1 x2 x3 x4 x5 x6 f0
 have HR:=Hd HS.out.rd
 refine(C6.out u6 HR).mono ?_
 rintro e z6 ⟨rfl,hr,hk⟩
 dsimp only
 have HX:=HS
 clear HS HR
 have HS:=Hd (HX.out.call hr hk)
 clear hr hk HX
 obtain⟨⟨m0,m1,m2,m3,m4,m5,m6⟩,mf⟩:=dgCells HS.out.box
 obtain⟨⟨n0,n1,n2,n3,n4,n5,n6⟩,nf⟩:=dgCells HS.out.zero
 have f0:=nf 0
 have f1:=nf 1
 have f2:=nf 2
 have f3:=nf 3
 have f4:=nf 4
 have f5:=nf 5
 have f6:=nf 6
 clear nf mf
 go_wp2_with fail
 obtain⟨Y,hY⟩:∃Y,Y=set7 z6 A (.int .i64 1) (.string (str v0)) (.slice po pl.length pc) (.slice none 0 0) (.int .i64 v3) (.int .i64 v5) (.int .i64 (ps0:Int)):=⟨_,rfl⟩
 have hY2:=hY
 unfold set7 at hY2
 rw[←hY2]
 have HB:=Hd (show But A z6 Y by rw[hY];exact set7_but _ _ _ _ _ _ _ _ _)
 have HY:Hid (Y.heap[A]?=some (.cells #[.int .i64 1,.string (str v0),.slice po pl.length pc,.slice none 0 0,.int .i64 v3,.int .i64 v5,.int .i64 (ps0:Int)] 57 (0,0))):=Hd (by rw[hY];exact set7_box HS.out.zero _ _ _ _ _ _ _)
 clear hY hY2 n0 n1 n2 n3 n4 n5 n6 m0 m1 m2 m3 m4 m5 m6 f0 f1 f2 f3 f4 f5 f6
 obtain⟨⟨r0,r1,r2,r3,r4,r5,r6⟩,_⟩:=dgCells HY.out
 refine bodyPost_ret (v:=.agg #[.int .i64 1,.string (str v0),.slice po pl.length pc,.slice none 0 0,.int .i64 v3,.int .i64 v5,.int .i64 (ps0:Int)]) (by simp[results,Tryz.results19,go_sem,r0,r1,r2,r3,r4,r5,r6]) rfl ?_
 exact⟨po,pc,none,0,rfl,HS.out.rd.but HS.out.zero (by decide) (by decide) hbA HB.out,HS.out.rk.but HS.out.hA hbA HS.out.hb HB.out,own_but HS.out.pa HS.out.zero (by decide) HB.out,its_but HS.out.it HS.out.zero HB.out⟩
theorem decl_node (b g cap:Nat) (dv:Value) (ts:List Tok) (xb:Nat→Prop) (f:Nat) (σ0 σ1 σ2 σ3 σ4 σ5 σ6 σ7 σ8 σ9 σ10 σ11:RS) (ps0:Nat) (hp:ps0=(tokL ts σ0.at_).at_) (v0:List UInt8) (pl:List Pa) (v3:Int) (is:List It) (v7:Int) (hf:isS ts [102,117,110] σ0=false) (ht:isS ts [110,111,100,101] σ0=true) (h1:σ1=stepS σ0) (g0:v0=nameV ts σ1) (k0:σ2=nameS ts σ1) (g1:paramsS ts f σ2=some (pl,σ3)) (k2:σ4=wantS ts [58] σ3) (g3:v3=kindV ts σ4) (k3:σ5=kindS ts σ4) (k4:σ6=wantS ts [123] σ5) (g5:itsL ts f false f [] σ6=some (is,σ7)) (k6:σ8=wantS ts [114,101,116,117,114,110] σ7) (l7:List Int) (g7:runE ts f .expr σ8=some (v7,l7,σ9)) (k8:σ10=wantS ts [59] σ9) (k9:σ11=wantS ts [125] σ10) (W:World) (h:Hid (Rd W b g cap dv ts xb σ0)) :
  Calls prog 19 #[.pointer (some ⟨b,0,none⟩)] W fun r Y=>DeRetG b g cap dv ts xb W ⟨2,str v0,pl,is,v3,v7,(ps0:Int)⟩ σ11 r Y:=by
 have T1:Hid (∀W,Hid (Rd W b g cap dv ts xb σ0)→Calls prog 36 #[.pointer (some ⟨b,0,none⟩),.string ⟨#[102,117,110]⟩] W fun r Y=>RdRet b g cap dv ts xb W (.bool false) σ0 r Y):=Hd fun W h=>took_false [102,117,110] hf W h
 have T2:Hid (∀W,Hid (Rd W b g cap dv ts xb σ0)→Calls prog 36 #[.pointer (some ⟨b,0,none⟩),.string ⟨#[110,111,100,101]⟩] W fun r Y=>RdRet b g cap dv ts xb W (.bool true) σ1 r Y):=Hd fun W h=>by rw[h1];exact took_true [110,111,100,101] ht W h
 have C0:Hid (∀W,Hid (Rd W b g cap dv ts xb σ1)→Calls prog 41 #[.pointer (some ⟨b,0,none⟩)] W fun r Y=>RdRet b g cap dv ts xb W (.string (str v0)) σ2 r Y):=Hd fun W h=>by rw[g0,k0];exact name_any b g cap dv ts xb σ1 W h
 have C1:Hid (∀W,Hid (Rd W b g cap dv ts xb σ2)→Calls prog 42 #[.pointer (some ⟨b,0,none⟩)] W fun r Y=>PasRet b g cap dv ts xb W pl σ3 r Y):=Hd fun W h=>params_any b g cap dv ts xb σ2 f (pl,σ3) g1 W h
 have C2:Hid (∀W,Hid (Rd W b g cap dv ts xb σ3)→Calls prog 37 #[.pointer (some ⟨b,0,none⟩),.string ⟨#[58]⟩] W fun r Y=>RdRet b g cap dv ts xb W (.tuple #[]) σ4 r Y):=Hd fun W h=>by rw[k2];exact want_any b g cap dv ts xb σ3 [58] W h
 have C3:Hid (∀W,Hid (Rd W b g cap dv ts xb σ4)→Calls prog 44 #[.pointer (some ⟨b,0,none⟩)] W fun r Y=>RdRet b g cap dv ts xb W (.int .i64 v3) σ5 r Y):=Hd fun W h=>by rw[g3,k3];exact kind_any b g cap dv ts xb σ4 W h
 have C4:Hid (∀W,Hid (Rd W b g cap dv ts xb σ5)→Calls prog 37 #[.pointer (some ⟨b,0,none⟩),.string ⟨#[123]⟩] W fun r Y=>RdRet b g cap dv ts xb W (.tuple #[]) σ6 r Y):=Hd fun W h=>by rw[k4];exact want_any b g cap dv ts xb σ5 [123] W h
 have C5:Hid (∀W,Hid (Rd W b g cap dv ts xb σ6)→Calls prog 43 #[.pointer (some ⟨b,0,none⟩),.bool false] W fun r Y=>ItsRetG b g cap dv ts xb W is σ7 r Y):=Hd fun W h=>items_any b g cap dv ts xb σ6 f f false (is,σ7) g5 W h
 have C6:Hid (∀W,Hid (Rd W b g cap dv ts xb σ7)→Calls prog 37 #[.pointer (some ⟨b,0,none⟩),.string ⟨#[114,101,116,117,114,110]⟩] W fun r Y=>RdRet b g cap dv ts xb W (.tuple #[]) σ8 r Y):=Hd fun W h=>by rw[k6];exact want_any b g cap dv ts xb σ7 [114,101,116,117,114,110] W h
 have C7:Hid (∀W,Hid (Rd W b g cap dv ts xb σ8)→Calls prog 18 #[.pointer (some ⟨b,0,none⟩)] W fun r Y=>RdRet b g cap dv ts xb W (.int .i64 v7) σ9 r Y):=Hd fun W h=>(fc_all b g cap dv ts f xb).expr σ8 v7 l7 σ9 g7 W h
 have C8:Hid (∀W,Hid (Rd W b g cap dv ts xb σ9)→Calls prog 37 #[.pointer (some ⟨b,0,none⟩),.string ⟨#[59]⟩] W fun r Y=>RdRet b g cap dv ts xb W (.tuple #[]) σ10 r Y):=Hd fun W h=>by rw[k8];exact want_any b g cap dv ts xb σ9 [59] W h
 have C9:Hid (∀W,Hid (Rd W b g cap dv ts xb σ10)→Calls prog 37 #[.pointer (some ⟨b,0,none⟩),.string ⟨#[125]⟩] W fun r Y=>RdRet b g cap dv ts xb W (.tuple #[]) σ11 r Y):=Hd fun W h=>by rw[k9];exact want_any b g cap dv ts xb σ10 [125] W h
 have HPS0:=Hd hp
 clear hp hf ht h1 g0 k0 g1 k2 g3 k3 k4 g5 k6 g7 k8 k9
 obtain⟨o,c,⟨c0,c1,c3,c4,c5,c6,fr⟩,hx⟩:=h.out.cells
 have ht:=h.out.tok
 have hgb:g≠b:=by have:=h.out.lt;omega
 have hl:=h.out.at_
 have hn:=h.out.len
 obtain⟨t0,t1,t2,t3⟩:=ht
 obtain⟨n,hnn⟩:∃n,n=ts.length:=⟨_,rfl⟩
 obtain⟨a,haa⟩:∃a,a=σ0.at_:=⟨_,rfl⟩
 obtain⟨cd,hcd⟩:∃cd,cd=σ0.code:=⟨_,rfl⟩
 obtain⟨ps,hps⟩:∃ps,ps=σ0.pos:=⟨_,rfl⟩
 obtain⟨dp,hdp⟩:∃dp,dp=σ0.deep:=⟨_,rfl⟩
 obtain⟨kd,hkd⟩:∃kd,kd=(tokL ts σ0.at_).kind:=⟨_,rfl⟩
 obtain⟨tx,htx⟩:∃tx,tx=(tokL ts σ0.at_).text:=⟨_,rfl⟩
 obtain⟨tv,htv⟩:∃tv,tv=(tokL ts σ0.at_).v:=⟨_,rfl⟩
 obtain⟨p,hp⟩:∃p,p=(tokL ts σ0.at_).at_:=⟨_,rfl⟩
 rw[←hnn] at c0 hl hn
 rw[←hkd] at t0
 rw[←htx] at t1
 rw[←htv] at t2
 rw[←hp] at t3
 rw[←haa] at c1 t0 t1 t2 t3 hl
 rw[←hcd] at c5
 rw[←hdp] at c4
 rw[←hps] at c6
 have k0:((a:Nat):Int)<(n:Int):=by omega
 have f1:=fr 1
 have f4:=fr 4
 have f5:=fr 5
 have f6:=fr 6
 have HCD:=Hd hcd
 have HPS:=Hd hps
 have HDP:=Hd hdp
 have HKD:=Hd hkd
 have HTX:=Hd htx
 have HTV:=Hd htv
 have HP:=Hd hp
 have HAA:=Hd haa
 have HNN:=Hd hnn
 clear fr hx hnn haa hcd hps hdp hkd htx htv hp c3
 have hbs:b<W.heap.size:=h.out.size
 go_enter Tryz.func19,Tryz.ntmps19
 go_wp2_with fail
 go_region_held3 (fun w'=>w'.cell? ⟨b,0,none⟩=some (.slice (some ⟨g,0,none⟩) n cap)∧w'.cell? ⟨b,1,none⟩=some (.int .i64 (a:Int))∧w'.cell? ⟨g,a*4+3,none⟩=some (.int .i64 (p:Int)))
  ((repeat' apply And.intro) <;> first | assumption | exact cell_set2 (by assumption) (by omega) | go_keep)
  (fail)
 obtain⟨A,hA⟩:∃A,A=W.heap.size:=⟨_,rfl⟩
 obtain⟨V,hV⟩:∃V,V=((W.alloc (.cells #[.int .i64 0,.string ⟨#[]⟩,.slice none 0 0,.slice none 0 0,.int .i64 0,.int .i64 0,.int .i64 0] 57)).alloc (.cells #[.int .i64 0,.string ⟨#[]⟩,.slice none 0 0,.slice none 0 0,.int .i64 0,.int .i64 0,.int .i64 (p:Int)] 57)).drew:=⟨_,rfl⟩
 have hbV:Below W.heap.size W V:=by rw[hV];exact(((qB _ _).alloc (qL _) _).alloc (by simp) _).drew
 have HB0:V.heap[A]?=some (.cells #[.int .i64 0,.string ⟨#[]⟩,.slice none 0 0,.slice none 0 0,.int .i64 0,.int .i64 0,.int .i64 0] 57 (0,0)):=by
  rw[hV,hA]
  exact(heap_alloc_old _ _ (by simp)).trans (heap_alloc_new W _)
 have HB1:V.heap[A+1]?=some (.cells #[.int .i64 0,.string ⟨#[]⟩,.slice none 0 0,.slice none 0 0,.int .i64 0,.int .i64 0,.int .i64 (p:Int)] 57 (0,0)):=by
  have:=heap_alloc_new (W.alloc (.cells #[.int .i64 0,.string ⟨#[]⟩,.slice none 0 0,.slice none 0 0,.int .i64 0,.int .i64 0,.int .i64 0] 57)) (.cells #[.int .i64 0,.string ⟨#[]⟩,.slice none 0 0,.slice none 0 0,.int .i64 0,.int .i64 0,.int .i64 (p:Int)] 57)
  rw[World.size_alloc,←hA] at this
  rw[hV];exact this
 have HPP:ps0=p:=by rw[HPS0.out,HP.out]
 have HS:Hid (DB W V b g cap dv ts xb σ0 A #[.int .i64 0,.string ⟨#[]⟩,.slice none 0 0,.slice none 0 0,.int .i64 0,.int .i64 0,.int .i64 (ps0:Int)] [] (.slice none 0 0) [] (.slice none 0 0)):=Hd ⟨h.out.below hbV,RK.of_below hbV (ql hbs),HB0,by rw[HPP];exact HB1,by omega,hbs,qO _ _ _ _,ItsOwn.nil _ _⟩
 have HR:=Hd HS.out.rd
 rw[←hV,←hA]
 have hbA:b<A:=by omega
 clear hV hA hbV HB0 HB1 hgb hn hl k0 t0 t1 t2 t3 c0 c1 c4 c5 c6 f1 f4 f5 f6 HCD HPS HDP HKD HTX HTV HAA HNN HP HPS0 HPP
 go_wp2_with (first
  | (go_at_call 36;(with_reducible refine Calls.mono (T1.out _ HR) ?_);(rintro e w1 ⟨rfl,hr,hk⟩);have HX:=HS;clear HR HS;have HS:=Hd (HX.out.call hr hk);have HR:=Hd hr;clear hr hk HX;have tok1:True:=trivial)
  | (go_at_call 36;(with_reducible refine Calls.mono (T2.out _ HR) ?_);(rintro e w2 ⟨rfl,hr,hk⟩);have _q:=tok1;have HX:=HS;clear HR HS;have HS:=Hd (HX.out.call hr hk);have HR:=Hd hr;clear hr hk HX;have _k:=tok1;obtain⟨⟨x0,x1,x2,x3,x4,x5,x6⟩,xf⟩:=dgCells HS.out.box;have f0:=xf 0;clear xf))
 obtain⟨u0,hw⟩:∃w',w'=w2.setCell ⟨A+1,0,none⟩ (.int .i64 2):=⟨_,rfl⟩
 have HX:=HS
 clear HS
 have HS:Hid (DB W u0 b g cap dv ts xb σ1 A #[.int .i64 2,.string ⟨#[]⟩,.slice none 0 0,.slice none 0 0,.int .i64 0,.int .i64 0,.int .i64 (ps0:Int)] [] (.slice none 0 0) [] (.slice none 0 0)):=Hd (by rw[hw];exact HX.out.set 0 _ rfl)
 rw[←hw]
 clear hw HX x0 x1 x2 x3 x4 x5 x6 f0
 clear HR
 have HR:=Hd HS.out.rd
 refine(C0.out u0 HR).mono ?_
 rintro e z0 ⟨rfl,hr,hk⟩
 dsimp only
 have HX:=HS
 clear HS HR
 have HS:=Hd (HX.out.call hr hk)
 clear hr hk HX
 obtain⟨⟨x0,x1,x2,x3,x4,x5,x6⟩,xf⟩:=dgCells HS.out.box;have f0:=xf 1;clear xf
 go_wp2_with fail
 obtain⟨u1,hw⟩:∃w',w'=z0.setCell ⟨A+1,1,none⟩ (.string (str v0)):=⟨_,rfl⟩
 have HX:=HS
 clear HS
 have HS:Hid (DB W u1 b g cap dv ts xb σ2 A #[.int .i64 2,.string (str v0),.slice none 0 0,.slice none 0 0,.int .i64 0,.int .i64 0,.int .i64 (ps0:Int)] [] (.slice none 0 0) [] (.slice none 0 0)):=Hd (by rw[hw];exact HX.out.set 1 _ rfl)
 rw[←hw]
 clear hw HX x0 x1 x2 x3 x4 x5 x6 f0
 have HR:=Hd HS.out.rd
 refine(C1.out u1 HR).mono ?_
 rintro e z1 ⟨po,pc,rfl,hs⟩
 dsimp only
 have HX:=HS
 clear HS HR
 have HS:=Hd (HX.out.callP hs)
 clear hs HX
 obtain⟨⟨x0,x1,x2,x3,x4,x5,x6⟩,xf⟩:=dgCells HS.out.box;have f0:=xf 2;clear xf
 have HY:=Hd (HS.out.set 2 (.slice po pl.length pc) rfl)
 obtain⟨⟨y0,_,_,_,_,_,_⟩,_⟩:=dgCells HY.out.box
 clear HY
 go_wp2_with fail
 clear y0
 obtain⟨u2,hw⟩:∃w',w'=z1.setCell ⟨A+1,2,none⟩ (.slice po pl.length pc):=⟨_,rfl⟩
 have HX:=HS
 clear HS
 have HS:Hid (DB W u2 b g cap dv ts xb σ3 A #[.int .i64 2,.string (str v0),.slice po pl.length pc,.slice none 0 0,.int .i64 0,.int .i64 0,.int .i64 (ps0:Int)] pl (.slice po pl.length pc) [] (.slice none 0 0)):=Hd (by rw[hw];exact HX.out.set 2 _ rfl)
 rw[←hw]
 clear hw HX x0 x1 x2 x3 x4 x5 x6 f0
 have HR:=Hd HS.out.rd
 refine(C2.out u2 HR).mono ?_
 rintro e z2 ⟨rfl,hr,hk⟩
 dsimp only
 have HX:=HS
 clear HS HR
 have HS:=Hd (HX.out.call hr hk)
 clear hr hk HX
 obtain⟨⟨x0,x1,x2,x3,x4,x5,x6⟩,_⟩:=dgCells HS.out.box
 go_wp2_with fail
 clear x0 x1 x2 x3 x4 x5 x6
 have HR:=Hd HS.out.rd
 refine(C3.out z2 HR).mono ?_
 rintro e z3 ⟨rfl,hr,hk⟩
 dsimp only
 have HX:=HS
 clear HS HR
 have HS:=Hd (HX.out.call hr hk)
 clear hr hk HX
 obtain⟨⟨x0,x1,x2,x3,x4,x5,x6⟩,xf⟩:=dgCells HS.out.box;have f0:=xf 4;clear xf
 have HY:=Hd (HS.out.set 4 (.int .i64 v3) rfl)
 obtain⟨⟨y0,_,_,_,_,_,_⟩,_⟩:=dgCells HY.out.box
 clear HY
 go_wp2_with fail
 clear y0
 obtain⟨u4,hw⟩:∃w',w'=z3.setCell ⟨A+1,4,none⟩ (.int .i64 v3):=⟨_,rfl⟩
 have HX:=HS
 clear HS
 have HS:Hid (DB W u4 b g cap dv ts xb σ5 A #[.int .i64 2,.string (str v0),.slice po pl.length pc,.slice none 0 0,.int .i64 v3,.int .i64 0,.int .i64 (ps0:Int)] pl (.slice po pl.length pc) [] (.slice none 0 0)):=Hd (by rw[hw];exact HX.out.set 4 _ rfl)
 rw[←hw]
 clear hw HX x0 x1 x2 x3 x4 x5 x6 f0
 have HR:=Hd HS.out.rd
 refine(C4.out u4 HR).mono ?_
 rintro e z4 ⟨rfl,hr,hk⟩
 dsimp only
 have HX:=HS
 clear HS HR
 have HS:=Hd (HX.out.call hr hk)
 clear hr hk HX
 obtain⟨⟨x0,x1,x2,x3,x4,x5,x6⟩,_⟩:=dgCells HS.out.box
 go_wp2_with fail
 clear x0 x1 x2 x3 x4 x5 x6
 have HR:=Hd HS.out.rd
 refine(C5.out z4 HR).mono ?_
 rintro e z5 ⟨io,ic,rfl,hs⟩
 dsimp only
 have HX:=HS
 clear HS HR
 have HS:=Hd (HX.out.callI hs)
 clear hs HX
 obtain⟨⟨x0,x1,x2,x3,x4,x5,x6⟩,xf⟩:=dgCells HS.out.box;have f0:=xf 3;clear xf
 go_wp2_with fail
 obtain⟨u6,hw⟩:∃w',w'=z5.setCell ⟨A+1,3,none⟩ (.slice io is.length ic):=⟨_,rfl⟩
 have HX:=HS
 clear HS
 have HS:Hid (DB W u6 b g cap dv ts xb σ7 A #[.int .i64 2,.string (str v0),.slice po pl.length pc,.slice io is.length ic,.int .i64 v3,.int .i64 0,.int .i64 (ps0:Int)] pl (.slice po pl.length pc) is (.slice io is.length ic)):=Hd (by rw[hw];exact HX.out.set 3 _ rfl)
 rw[←hw]
 clear hw HX x0 x1 x2 x3 x4 x5 x6 f0
 have HR:=Hd HS.out.rd
 refine(C6.out u6 HR).mono ?_
 rintro e z6 ⟨rfl,hr,hk⟩
 dsimp only
 have HX:=HS
 clear HS HR
 have HS:=Hd (HX.out.call hr hk)
 clear hr hk HX
 obtain⟨⟨x0,x1,x2,x3,x4,x5,x6⟩,_⟩:=dgCells HS.out.box
 go_wp2_with fail
 clear x0 x1 x2 x3 x4 x5 x6
 have HR:=Hd HS.out.rd
 refine(C7.out z6 HR).mono ?_
 rintro e z7 ⟨rfl,hr,hk⟩
 dsimp only
 have HX:=HS
 clear HS HR
 have HS:=Hd (HX.out.call hr hk)
 clear hr hk HX
 obtain⟨⟨x0,x1,x2,x3,x4,x5,x6⟩,xf⟩:=dgCells HS.out.box;have f0:=xf 5;clear xf
 go_wp2_with fail
 obtain⟨u8,hw⟩:∃w',w'=z7.setCell ⟨A+1,5,none⟩ (.int .i64 v7):=⟨_,rfl⟩
 have HX:=HS
 clear HS
 have HS:Hid (DB W u8 b g cap dv ts xb σ9 A #[.int .i64 2,.string (str v0),.slice po pl.length pc,.slice io is.length ic,.int .i64 v3,.int .i64 v7,.int .i64 (ps0:Int)] pl (.slice po pl.length pc) is (.slice io is.length ic)):=Hd (by rw[hw];exact HX.out.set 5 _ rfl)
 rw[←hw]
 clear hw HX x0 x1 x2 x3 x4 x5 x6 f0
 have HR:=Hd HS.out.rd
 refine(C8.out u8 HR).mono ?_
 rintro e z8 ⟨rfl,hr,hk⟩
 dsimp only
 have HX:=HS
 clear HS HR
 have HS:=Hd (HX.out.call hr hk)
 clear hr hk HX
 obtain⟨⟨x0,x1,x2,x3,x4,x5,x6⟩,_⟩:=dgCells HS.out.box
 go_wp2_with fail
 clear x0 x1 x2 x3 x4 x5 x6
 have HR:=Hd HS.out.rd
 refine(C9.out z8 HR).mono ?_
 rintro e z9 ⟨rfl,hr,hk⟩
 dsimp only
 have HX:=HS
 clear HS HR
 have HS:=Hd (HX.out.call hr hk)
 clear hr hk HX
 obtain⟨⟨m0,m1,m2,m3,m4,m5,m6⟩,mf⟩:=dgCells HS.out.box
 obtain⟨⟨n0,n1,n2,n3,n4,n5,n6⟩,nf⟩:=dgCells HS.out.zero
 have f0:=nf 0
 have f1:=nf 1
 have f2:=nf 2
 have f3:=nf 3
 have f4:=nf 4
 have f5:=nf 5
 have f6:=nf 6
 clear nf mf
 go_wp2_with fail
 obtain⟨Y,hY⟩:∃Y,Y=set7 z9 A (.int .i64 2) (.string (str v0)) (.slice po pl.length pc) (.slice io is.length ic) (.int .i64 v3) (.int .i64 v7) (.int .i64 (ps0:Int)):=⟨_,rfl⟩
 have hY2:=hY
 unfold set7 at hY2
 rw[←hY2]
 have HB:=Hd (show But A z9 Y by rw[hY];exact set7_but _ _ _ _ _ _ _ _ _)
 have HY:Hid (Y.heap[A]?=some (.cells #[.int .i64 2,.string (str v0),.slice po pl.length pc,.slice io is.length ic,.int .i64 v3,.int .i64 v7,.int .i64 (ps0:Int)] 57 (0,0))):=Hd (by rw[hY];exact set7_box HS.out.zero _ _ _ _ _ _ _)
 clear hY hY2 n0 n1 n2 n3 n4 n5 n6 m0 m1 m2 m3 m4 m5 m6 f0 f1 f2 f3 f4 f5 f6
 obtain⟨⟨r0,r1,r2,r3,r4,r5,r6⟩,_⟩:=dgCells HY.out
 refine bodyPost_ret (v:=.agg #[.int .i64 2,.string (str v0),.slice po pl.length pc,.slice io is.length ic,.int .i64 v3,.int .i64 v7,.int .i64 (ps0:Int)]) (by simp[results,Tryz.results19,go_sem,r0,r1,r2,r3,r4,r5,r6]) rfl ?_
 exact⟨po,pc,io,ic,rfl,HS.out.rd.but HS.out.zero (by decide) (by decide) hbA HB.out,HS.out.rk.but HS.out.hA hbA HS.out.hb HB.out,own_but HS.out.pa HS.out.zero (by decide) HB.out,its_but HS.out.it HS.out.zero HB.out⟩
theorem decl_hyb (b g cap:Nat) (dv:Value) (ts:List Tok) (xb:Nat→Prop) (f:Nat) (σ0 σ1 σ2 σ3 σ4 σ5 σ6:RS) (ps0:Nat) (hp:ps0=(tokL ts σ0.at_).at_) (v1:List UInt8) (pl:List Pa) (is:List It) (hf:isS ts [102,117,110] σ0=false) (hn:isS ts [110,111,100,101] σ0=false) (k0:σ1=wantS ts [104,121,98,114,105,100] σ0) (g1:v1=nameV ts σ1) (k1:σ2=nameS ts σ1) (g2:paramsS ts f σ2=some (pl,σ3)) (k3:σ4=wantS ts [123] σ3) (g4:itsL ts f true f [] σ4=some (is,σ5)) (k5:σ6=wantS ts [125] σ5) (W:World) (h:Hid (Rd W b g cap dv ts xb σ0)) :
  Calls prog 19 #[.pointer (some ⟨b,0,none⟩)] W fun r Y=>DeRetG b g cap dv ts xb W ⟨3,str v1,pl,is,0,0,(ps0:Int)⟩ σ6 r Y:=by
 have T1:Hid (∀W,Hid (Rd W b g cap dv ts xb σ0)→Calls prog 36 #[.pointer (some ⟨b,0,none⟩),.string ⟨#[102,117,110]⟩] W fun r Y=>RdRet b g cap dv ts xb W (.bool false) σ0 r Y):=Hd fun W h=>took_false [102,117,110] hf W h
 have T2:Hid (∀W,Hid (Rd W b g cap dv ts xb σ0)→Calls prog 36 #[.pointer (some ⟨b,0,none⟩),.string ⟨#[110,111,100,101]⟩] W fun r Y=>RdRet b g cap dv ts xb W (.bool false) σ0 r Y):=Hd fun W h=>took_false [110,111,100,101] hn W h
 have C0:Hid (∀W,Hid (Rd W b g cap dv ts xb σ0)→Calls prog 37 #[.pointer (some ⟨b,0,none⟩),.string ⟨#[104,121,98,114,105,100]⟩] W fun r Y=>RdRet b g cap dv ts xb W (.tuple #[]) σ1 r Y):=Hd fun W h=>by rw[k0];exact want_any b g cap dv ts xb σ0 [104,121,98,114,105,100] W h
 have C1:Hid (∀W,Hid (Rd W b g cap dv ts xb σ1)→Calls prog 41 #[.pointer (some ⟨b,0,none⟩)] W fun r Y=>RdRet b g cap dv ts xb W (.string (str v1)) σ2 r Y):=Hd fun W h=>by rw[g1,k1];exact name_any b g cap dv ts xb σ1 W h
 have C2:Hid (∀W,Hid (Rd W b g cap dv ts xb σ2)→Calls prog 42 #[.pointer (some ⟨b,0,none⟩)] W fun r Y=>PasRet b g cap dv ts xb W pl σ3 r Y):=Hd fun W h=>params_any b g cap dv ts xb σ2 f (pl,σ3) g2 W h
 have C3:Hid (∀W,Hid (Rd W b g cap dv ts xb σ3)→Calls prog 37 #[.pointer (some ⟨b,0,none⟩),.string ⟨#[123]⟩] W fun r Y=>RdRet b g cap dv ts xb W (.tuple #[]) σ4 r Y):=Hd fun W h=>by rw[k3];exact want_any b g cap dv ts xb σ3 [123] W h
 have C4:Hid (∀W,Hid (Rd W b g cap dv ts xb σ4)→Calls prog 43 #[.pointer (some ⟨b,0,none⟩),.bool true] W fun r Y=>ItsRetG b g cap dv ts xb W is σ5 r Y):=Hd fun W h=>items_any b g cap dv ts xb σ4 f f true (is,σ5) g4 W h
 have C5:Hid (∀W,Hid (Rd W b g cap dv ts xb σ5)→Calls prog 37 #[.pointer (some ⟨b,0,none⟩),.string ⟨#[125]⟩] W fun r Y=>RdRet b g cap dv ts xb W (.tuple #[]) σ6 r Y):=Hd fun W h=>by rw[k5];exact want_any b g cap dv ts xb σ5 [125] W h
 have HPS0:=Hd hp
 clear hp hf hn k0 g1 k1 g2 k3 g4 k5
 obtain⟨o,c,⟨c0,c1,c3,c4,c5,c6,fr⟩,hx⟩:=h.out.cells
 have ht:=h.out.tok
 have hgb:g≠b:=by have:=h.out.lt;omega
 have hl:=h.out.at_
 have hn:=h.out.len
 obtain⟨t0,t1,t2,t3⟩:=ht
 obtain⟨n,hnn⟩:∃n,n=ts.length:=⟨_,rfl⟩
 obtain⟨a,haa⟩:∃a,a=σ0.at_:=⟨_,rfl⟩
 obtain⟨cd,hcd⟩:∃cd,cd=σ0.code:=⟨_,rfl⟩
 obtain⟨ps,hps⟩:∃ps,ps=σ0.pos:=⟨_,rfl⟩
 obtain⟨dp,hdp⟩:∃dp,dp=σ0.deep:=⟨_,rfl⟩
 obtain⟨kd,hkd⟩:∃kd,kd=(tokL ts σ0.at_).kind:=⟨_,rfl⟩
 obtain⟨tx,htx⟩:∃tx,tx=(tokL ts σ0.at_).text:=⟨_,rfl⟩
 obtain⟨tv,htv⟩:∃tv,tv=(tokL ts σ0.at_).v:=⟨_,rfl⟩
 obtain⟨p,hp⟩:∃p,p=(tokL ts σ0.at_).at_:=⟨_,rfl⟩
 rw[←hnn] at c0 hl hn
 rw[←hkd] at t0
 rw[←htx] at t1
 rw[←htv] at t2
 rw[←hp] at t3
 rw[←haa] at c1 t0 t1 t2 t3 hl
 rw[←hcd] at c5
 rw[←hdp] at c4
 rw[←hps] at c6
 have k0:((a:Nat):Int)<(n:Int):=by omega
 have f1:=fr 1
 have f4:=fr 4
 have f5:=fr 5
 have f6:=fr 6
 have HCD:=Hd hcd
 have HPS:=Hd hps
 have HDP:=Hd hdp
 have HKD:=Hd hkd
 have HTX:=Hd htx
 have HTV:=Hd htv
 have HP:=Hd hp
 have HAA:=Hd haa
 have HNN:=Hd hnn
 clear fr hx hnn haa hcd hps hdp hkd htx htv hp c3
 have hbs:b<W.heap.size:=h.out.size
 go_enter Tryz.func19,Tryz.ntmps19
 go_wp2_with fail
 go_region_held3 (fun w'=>w'.cell? ⟨b,0,none⟩=some (.slice (some ⟨g,0,none⟩) n cap)∧w'.cell? ⟨b,1,none⟩=some (.int .i64 (a:Int))∧w'.cell? ⟨g,a*4+3,none⟩=some (.int .i64 (p:Int)))
  ((repeat' apply And.intro) <;> first | assumption | exact cell_set2 (by assumption) (by omega) | go_keep)
  (fail)
 obtain⟨A,hA⟩:∃A,A=W.heap.size:=⟨_,rfl⟩
 obtain⟨V,hV⟩:∃V,V=((W.alloc (.cells #[.int .i64 0,.string ⟨#[]⟩,.slice none 0 0,.slice none 0 0,.int .i64 0,.int .i64 0,.int .i64 0] 57)).alloc (.cells #[.int .i64 0,.string ⟨#[]⟩,.slice none 0 0,.slice none 0 0,.int .i64 0,.int .i64 0,.int .i64 (p:Int)] 57)).drew:=⟨_,rfl⟩
 have hbV:Below W.heap.size W V:=by rw[hV];exact(((qB _ _).alloc (qL _) _).alloc (by simp) _).drew
 have HB0:V.heap[A]?=some (.cells #[.int .i64 0,.string ⟨#[]⟩,.slice none 0 0,.slice none 0 0,.int .i64 0,.int .i64 0,.int .i64 0] 57 (0,0)):=by
  rw[hV,hA]
  exact(heap_alloc_old _ _ (by simp)).trans (heap_alloc_new W _)
 have HB1:V.heap[A+1]?=some (.cells #[.int .i64 0,.string ⟨#[]⟩,.slice none 0 0,.slice none 0 0,.int .i64 0,.int .i64 0,.int .i64 (p:Int)] 57 (0,0)):=by
  have:=heap_alloc_new (W.alloc (.cells #[.int .i64 0,.string ⟨#[]⟩,.slice none 0 0,.slice none 0 0,.int .i64 0,.int .i64 0,.int .i64 0] 57)) (.cells #[.int .i64 0,.string ⟨#[]⟩,.slice none 0 0,.slice none 0 0,.int .i64 0,.int .i64 0,.int .i64 (p:Int)] 57)
  rw[World.size_alloc,←hA] at this
  rw[hV];exact this
 have HPP:ps0=p:=by rw[HPS0.out,HP.out]
 have HS:Hid (DB W V b g cap dv ts xb σ0 A #[.int .i64 0,.string ⟨#[]⟩,.slice none 0 0,.slice none 0 0,.int .i64 0,.int .i64 0,.int .i64 (ps0:Int)] [] (.slice none 0 0) [] (.slice none 0 0)):=Hd ⟨h.out.below hbV,RK.of_below hbV (ql hbs),HB0,by rw[HPP];exact HB1,by omega,hbs,qO _ _ _ _,ItsOwn.nil _ _⟩
 have HR:=Hd HS.out.rd
 rw[←hV,←hA]
 have hbA:b<A:=by omega
 clear hV hA hbV HB0 HB1 hgb hn hl k0 t0 t1 t2 t3 c0 c1 c4 c5 c6 f1 f4 f5 f6 HCD HPS HDP HKD HTX HTV HAA HNN HP HPS0 HPP
 go_wp2_with (first
  | (go_at_call 36;(with_reducible refine Calls.mono (T1.out _ HR) ?_);(rintro e w1 ⟨rfl,hr,hk⟩);have HX:=HS;clear HR HS;have HS:=Hd (HX.out.call hr hk);have HR:=Hd hr;clear hr hk HX;have tok1:True:=trivial)
  | (go_at_call 36;(with_reducible refine Calls.mono (T2.out _ HR) ?_);(rintro e w2 ⟨rfl,hr,hk⟩);have _q:=tok1;have HX:=HS;clear HR HS;have HS:=Hd (HX.out.call hr hk);have HR:=Hd hr;clear hr hk HX;have _k:=tok1;obtain⟨⟨x0,x1,x2,x3,x4,x5,x6⟩,xf⟩:=dgCells HS.out.box;have f0:=xf 0;clear xf))
 obtain⟨u0,hw⟩:∃w',w'=w2.setCell ⟨A+1,0,none⟩ (.int .i64 3):=⟨_,rfl⟩
 have HX:=HS
 clear HS
 have HS:Hid (DB W u0 b g cap dv ts xb σ0 A #[.int .i64 3,.string ⟨#[]⟩,.slice none 0 0,.slice none 0 0,.int .i64 0,.int .i64 0,.int .i64 (ps0:Int)] [] (.slice none 0 0) [] (.slice none 0 0)):=Hd (by rw[hw];exact HX.out.set 0 _ rfl)
 rw[←hw]
 clear hw HX x0 x1 x2 x3 x4 x5 x6 f0
 clear HR
 have HR:=Hd HS.out.rd
 refine(C0.out u0 HR).mono ?_
 rintro e z0 ⟨rfl,hr,hk⟩
 dsimp only
 have HX:=HS
 clear HS HR
 have HS:=Hd (HX.out.call hr hk)
 clear hr hk HX
 obtain⟨⟨x0,x1,x2,x3,x4,x5,x6⟩,_⟩:=dgCells HS.out.box
 go_wp2_with fail
 clear x0 x1 x2 x3 x4 x5 x6
 have HR:=Hd HS.out.rd
 refine(C1.out z0 HR).mono ?_
 rintro e z1 ⟨rfl,hr,hk⟩
 dsimp only
 have HX:=HS
 clear HS HR
 have HS:=Hd (HX.out.call hr hk)
 clear hr hk HX
 obtain⟨⟨x0,x1,x2,x3,x4,x5,x6⟩,xf⟩:=dgCells HS.out.box;have f0:=xf 1;clear xf
 go_wp2_with fail
 obtain⟨u2,hw⟩:∃w',w'=z1.setCell ⟨A+1,1,none⟩ (.string (str v1)):=⟨_,rfl⟩
 have HX:=HS
 clear HS
 have HS:Hid (DB W u2 b g cap dv ts xb σ2 A #[.int .i64 3,.string (str v1),.slice none 0 0,.slice none 0 0,.int .i64 0,.int .i64 0,.int .i64 (ps0:Int)] [] (.slice none 0 0) [] (.slice none 0 0)):=Hd (by rw[hw];exact HX.out.set 1 _ rfl)
 rw[←hw]
 clear hw HX x0 x1 x2 x3 x4 x5 x6 f0
 have HR:=Hd HS.out.rd
 refine(C2.out u2 HR).mono ?_
 rintro e z2 ⟨po,pc,rfl,hs⟩
 dsimp only
 have HX:=HS
 clear HS HR
 have HS:=Hd (HX.out.callP hs)
 clear hs HX
 obtain⟨⟨x0,x1,x2,x3,x4,x5,x6⟩,xf⟩:=dgCells HS.out.box;have f0:=xf 2;clear xf
 have HY:=Hd (HS.out.set 2 (.slice po pl.length pc) rfl)
 obtain⟨⟨y0,_,_,_,_,_,_⟩,_⟩:=dgCells HY.out.box
 clear HY
 go_wp2_with fail
 clear y0
 obtain⟨u3,hw⟩:∃w',w'=z2.setCell ⟨A+1,2,none⟩ (.slice po pl.length pc):=⟨_,rfl⟩
 have HX:=HS
 clear HS
 have HS:Hid (DB W u3 b g cap dv ts xb σ3 A #[.int .i64 3,.string (str v1),.slice po pl.length pc,.slice none 0 0,.int .i64 0,.int .i64 0,.int .i64 (ps0:Int)] pl (.slice po pl.length pc) [] (.slice none 0 0)):=Hd (by rw[hw];exact HX.out.set 2 _ rfl)
 rw[←hw]
 clear hw HX x0 x1 x2 x3 x4 x5 x6 f0
 have HR:=Hd HS.out.rd
 refine(C3.out u3 HR).mono ?_
 rintro e z3 ⟨rfl,hr,hk⟩
 dsimp only
 have HX:=HS
 clear HS HR
 have HS:=Hd (HX.out.call hr hk)
 clear hr hk HX
 obtain⟨⟨x0,x1,x2,x3,x4,x5,x6⟩,_⟩:=dgCells HS.out.box
 go_wp2_with fail
 clear x0 x1 x2 x3 x4 x5 x6
 have HR:=Hd HS.out.rd
 refine(C4.out z3 HR).mono ?_
 rintro e z4 ⟨io,ic,rfl,hs⟩
 dsimp only
 have HX:=HS
 clear HS HR
 have HS:=Hd (HX.out.callI hs)
 clear hs HX
 obtain⟨⟨x0,x1,x2,x3,x4,x5,x6⟩,xf⟩:=dgCells HS.out.box;have f0:=xf 3;clear xf
 go_wp2_with fail
 obtain⟨u5,hw⟩:∃w',w'=z4.setCell ⟨A+1,3,none⟩ (.slice io is.length ic):=⟨_,rfl⟩
 have HX:=HS
 clear HS
 have HS:Hid (DB W u5 b g cap dv ts xb σ5 A #[.int .i64 3,.string (str v1),.slice po pl.length pc,.slice io is.length ic,.int .i64 0,.int .i64 0,.int .i64 (ps0:Int)] pl (.slice po pl.length pc) is (.slice io is.length ic)):=Hd (by rw[hw];exact HX.out.set 3 _ rfl)
 rw[←hw]
 clear hw HX x0 x1 x2 x3 x4 x5 x6 f0
 have HR:=Hd HS.out.rd
 refine(C5.out u5 HR).mono ?_
 rintro e z5 ⟨rfl,hr,hk⟩
 dsimp only
 have HX:=HS
 clear HS HR
 have HS:=Hd (HX.out.call hr hk)
 clear hr hk HX
 obtain⟨⟨m0,m1,m2,m3,m4,m5,m6⟩,mf⟩:=dgCells HS.out.box
 obtain⟨⟨n0,n1,n2,n3,n4,n5,n6⟩,nf⟩:=dgCells HS.out.zero
 have f0:=nf 0
 have f1:=nf 1
 have f2:=nf 2
 have f3:=nf 3
 have f4:=nf 4
 have f5:=nf 5
 have f6:=nf 6
 clear nf mf
 go_wp2_with fail
 obtain⟨Y,hY⟩:∃Y,Y=set7 z5 A (.int .i64 3) (.string (str v1)) (.slice po pl.length pc) (.slice io is.length ic) (.int .i64 0) (.int .i64 0) (.int .i64 (ps0:Int)):=⟨_,rfl⟩
 have hY2:=hY
 unfold set7 at hY2
 rw[←hY2]
 have HB:=Hd (show But A z5 Y by rw[hY];exact set7_but _ _ _ _ _ _ _ _ _)
 have HY:Hid (Y.heap[A]?=some (.cells #[.int .i64 3,.string (str v1),.slice po pl.length pc,.slice io is.length ic,.int .i64 0,.int .i64 0,.int .i64 (ps0:Int)] 57 (0,0))):=Hd (by rw[hY];exact set7_box HS.out.zero _ _ _ _ _ _ _)
 clear hY hY2 n0 n1 n2 n3 n4 n5 n6 m0 m1 m2 m3 m4 m5 m6 f0 f1 f2 f3 f4 f5 f6
 obtain⟨⟨r0,r1,r2,r3,r4,r5,r6⟩,_⟩:=dgCells HY.out
 refine bodyPost_ret (v:=.agg #[.int .i64 3,.string (str v1),.slice po pl.length pc,.slice io is.length ic,.int .i64 0,.int .i64 0,.int .i64 (ps0:Int)]) (by simp[results,Tryz.results19,go_sem,r0,r1,r2,r3,r4,r5,r6]) rfl ?_
 exact⟨po,pc,io,ic,rfl,HS.out.rd.but HS.out.zero (by decide) (by decide) hbA HB.out,HS.out.rk.but HS.out.hA hbA HS.out.hb HB.out,own_but HS.out.pa HS.out.zero (by decide) HB.out,its_but HS.out.it HS.out.zero HB.out⟩
def declS (ts:List Tok) (f:Nat) (σ:RS):Option (De×RS) :=
 if isS ts [102,117,110] σ=true then(paramsS ts f (nameS ts (stepS σ))).bind fun r=>(exprS ts f (wantS ts [61] (kindS ts (wantS ts [58] r.2)))).bind fun e=>some (⟨1,str (nameV ts (stepS σ)),r.1,[],kindV ts (wantS ts [58] r.2),e.1,((tokL ts σ.at_).at_:Int)⟩,wantS ts [59] e.2)
 else if isS ts [110,111,100,101] σ=true then(paramsS ts f (nameS ts (stepS σ))).bind fun r=>(itsL ts f false f [] (wantS ts [123] (kindS ts (wantS ts [58] r.2)))).bind fun i=>(exprS ts f (wantS ts [114,101,116,117,114,110] i.2)).bind fun e=>some (⟨2,str (nameV ts (stepS σ)),r.1,i.1,kindV ts (wantS ts [58] r.2),e.1,((tokL ts σ.at_).at_:Int)⟩,wantS ts [125] (wantS ts [59] e.2))
 else(paramsS ts f (nameS ts (wantS ts [104,121,98,114,105,100] σ))).bind fun r=>(itsL ts f true f [] (wantS ts [123] r.2)).bind fun i=>some (⟨3,str (nameV ts (wantS ts [104,121,98,114,105,100] σ)),r.1,i.1,0,0,((tokL ts σ.at_).at_:Int)⟩,wantS ts [125] i.2)
theorem decl_any (b g cap:Nat) (dv:Value) (ts:List Tok) (xb:Nat→Prop) (σ:RS) (f:Nat) (d:De) (τ:RS) (hr:declS ts f σ=some (d,τ)) (W:World) (h:Hid (Rd W b g cap dv ts xb σ)) :
  Calls prog 19 #[.pointer (some ⟨b,0,none⟩)] W fun r Y=>DeRetG b g cap dv ts xb W d τ r Y:=by
 unfold declS at hr
 split at hr
 ·rename_i ht
  obtain⟨⟨pl,s3⟩,g1,hr⟩:=Option.bind_eq_some_iff.1 hr
  obtain⟨v,l,s7,g5,hr⟩:=exprS_bind hr
  cases hr
  exact decl_fun (f:=f) (hp:=rfl) (ht:=ht) (h1:=rfl) (g0:=rfl) (k0:=rfl) (g1:=g1) (k2:=rfl) (g3:=rfl) (k3:=rfl) (k4:=rfl) (g5:=g5) (k6:=rfl) (W:=W) (h:=h)
 ·rename_i hf
  have hf2:=Bool.eq_false_iff.2 hf
  split at hr
  ·rename_i ht
   obtain⟨⟨pl,s3⟩,g1,hr⟩:=Option.bind_eq_some_iff.1 hr
   obtain⟨⟨is,s6⟩,g5,hr⟩:=Option.bind_eq_some_iff.1 hr
   obtain⟨v,l,s8,g7,hr⟩:=exprS_bind hr
   cases hr
   exact decl_node (f:=f) (hp:=rfl) (hf:=hf2) (ht:=ht) (h1:=rfl) (g0:=rfl) (k0:=rfl) (g1:=g1) (k2:=rfl) (g3:=rfl) (k3:=rfl) (k4:=rfl) (g5:=g5) (k6:=rfl) (g7:=g7) (k8:=rfl) (k9:=rfl) (W:=W) (h:=h)
  ·rename_i hn
   have hn2:=Bool.eq_false_iff.2 hn
   obtain⟨⟨pl,s3⟩,g2,hr⟩:=Option.bind_eq_some_iff.1 hr
   obtain⟨⟨is,s6⟩,g4,hr⟩:=Option.bind_eq_some_iff.1 hr
   cases hr
   exact decl_hyb (f:=f) (hp:=rfl) (hf:=hf2) (hn:=hn2) (k0:=rfl) (g1:=rfl) (k1:=rfl) (g2:=g2) (k3:=rfl) (g4:=g4) (k5:=rfl) (W:=W) (h:=h)
def declsG (ts:List Tok) (f:Nat):Nat→List De→RS→Option (List De×RS)
 | 0,_,_=>none
 | n+1,acc,σ=>if acc.length≤40000 then(if σ.code=0 then(if(tokL ts σ.at_).kind=5 then some (acc,σ) else(declS ts f σ).bind fun r=>declsG ts f n (acc++[r.1]) r.2) else some (acc,σ)) else none
theorem declsG_cases {ts:List Tok} {f n:Nat} {acc:List De} {σ:RS} {R:List De×RS} (h:declsG ts f n acc σ=some R):∃k,n=k+1∧acc.length≤40000 ∧
  ((σ.code=0∧(tokL ts σ.at_).kind=5∧R=(acc,σ))∨(σ.code=0∧(tokL ts σ.at_).kind≠5∧∃d τ,declS ts f σ=some (d,τ)∧declsG ts f k (acc++[d]) τ=some R)∨(σ.code≠0∧R=(acc,σ))):=by
 cases n with
 | zero=>cases h
 | succ k =>
  simp only[declsG] at h
  split at h
  ·rename_i hl
   refine⟨k,rfl,hl,?_⟩
   split at h
   ·rename_i hc
    split at h
    ·rename_i h5;exact .inl ⟨hc,h5,by simpa using h.symm⟩
    ·rename_i h5
     obtain⟨⟨d,τ⟩,h1,h2⟩:=Option.bind_eq_some_iff.1 h
     exact .inr (.inl ⟨hc,h5,d,τ,h1,h2⟩)
   ·rename_i hc;exact .inr (.inr ⟨hc,by simpa using h.symm⟩)
  ·cases h
def deGC (x:De) (pv iv:Value):List Value:=[.int .i64 x.kind,.string x.name,pv,iv,.int .i64 x.type,.int .i64 x.e,.int .i64 x.pos]
def desGC (l:List (De×Value×Value)):List Value:=l.flatMap fun x=>deGC x.1 x.2.1 x.2.2
theorem desGC_snoc (l:List (De×Value×Value)) (x:De×Value×Value):desGC (l++[x])=desGC l++deGC x.1 x.2.1 x.2.2:=by unfold desGC;rw[List.flatMap_append];simp
def DesOwn (W:World) (B:Nat) (v:Value) (l:List De):Prop :=
 ∃q:List (De×Value×Value),q.map Prod.fst=l∧W.ownsRow B 57 7 v l.length (desGC q)∧∀x ∈ q,W.ownsRow B 62 2 x.2.1 x.1.params.length (paC x.1.params)∧ItsOwn W B x.2.2 x.1.items
theorem DesOwn.keep {b:Nat} {W Y:World} {B:Nat} {v:Value} {l:List De} (h:DesOwn W B v l) (hB:b<B) (hk:RK b W Y):DesOwn Y B v l:=by
 obtain⟨q,h1,h2,h3⟩:=h
 exact⟨q,h1,own_keepT h2 (by decide) hB hk,fun x hx=>⟨own_keepT (h3 x hx).1 (by decide) hB hk,(h3 x hx).2.keep hB hk⟩⟩
theorem its_same {W Y:World} {B:Nat} {v:Value} {l:List It} (h:ItsOwn W B v l) (hk:∀k,B≤k→k<W.heap.size→Y.heap[k]?=W.heap[k]?):ItsOwn Y B v l:=by
 obtain⟨q,h1,h2,h3⟩:=h
 exact⟨q,h1,rd_own_same h2 fun k e=>hk k (h2.lt k e).1 (h2.lt k e).2,fun x hx=>rd_own_same (h3 x hx) fun k e=>hk k ((h3 x hx).lt k e).1 ((h3 x hx).lt k e).2⟩
theorem DesOwn.same {W Y:World} {B:Nat} {v:Value} {l:List De} (h:DesOwn W B v l) (hk:∀k,B≤k→k<W.heap.size→Y.heap[k]?=W.heap[k]?):DesOwn Y B v l:=by
 obtain⟨q,h1,h2,h3⟩:=h
 exact⟨q,h1,rd_own_same h2 fun k e=>hk k (h2.lt k e).1 (h2.lt k e).2,fun x hx=>⟨rd_own_same (h3 x hx).1 fun k e=>hk k ((h3 x hx).1.lt k e).1 ((h3 x hx).1.lt k e).2,its_same (h3 x hx).2 hk⟩⟩
theorem DesOwn.base {W:World} {B B':Nat} {v:Value} {l:List De} (h:DesOwn W B v l) (hb:B'≤B):DesOwn W B' v l:=by
 obtain⟨q,h1,h2,h3⟩:=h
 exact⟨q,h1,own_base h2 hb,fun x hx=>⟨own_base (h3 x hx).1 hb,(h3 x hx).2.base hb⟩⟩
theorem its_past {W Y:World} {B B2:Nat} {v v2:Value} {l:List It} {s2 n2:Nat} {xs2:List Value} (h:ItsOwn W B v l) (h2:W.ownsRow B2 57 s2 v2 n2 xs2) (hg:W.grownBy Y v2.ownBlock):ItsOwn Y B v l:=by
 obtain⟨q,h1,h3,h4⟩:=h
 exact⟨q,h1,own_past h3 h2 (by decide) hg,fun x hx=>own_past (h4 x hx) h2 (by decide) hg⟩
theorem its_below {W Y:World} {B:Nat} {v:Value} {l:List It} (h:ItsOwn W B v l) (hb:Below W.heap.size W Y):ItsOwn Y B v l:=its_same h fun k _ hk=>hb.block k hk
theorem de_info:(prog.info? 57).map (fun i=>(i.zero,i.size,i.bytes))=some (some (.agg #[.int .i64 0,.string ⟨#[]⟩,.slice none 0 0,.slice none 0 0,.int .i64 0,.int .i64 0,.int .i64 0]),7,96):=by kernel_rfl
theorem step_de {ops:Array Oper} {o:Oper} {a:Act} {K:Act→World→Prop} {Q:Exit→Act→World→Prop} {E:Prop} (w:World) (hgd:o.guard=none) (s x:Operand)
  (ho:o.op=Op.call { callee:=Callee.builtin Builtin.append,args:=#[s,x],argTypes:=#[23,23] }) (B:Nat) (v:Value) (n:Nat) (xs:List Value) (hs:a.eval s=v) (hown:w.ownsRow B 57 7 v n xs)
  (ad:Addr) (news:List Value) (hx:a.eval x=.slice (some ad) 1 1) (hn:news.length=1*7) (hc:∀j u,news[j]?=some u→w.cell? (ad.add j)=some u) (h1c:∀u ∈ news,u.oneCell'=true) (hk:n≤40000) (hB:B≤w.heap.size)
  (h:∀g cap w',w'.ownsRow B 57 7 (.slice (some ⟨g,0,none⟩) (n+1) cap) (n+1) (xs++news)→w.grownBy w' v.ownBlock→K (a.put o.dst (.slice (some ⟨g,0,none⟩) (n+1) cap)) w'):if Region.wanted o (yielded ops a.tmps)=true then Oper.wp prog o a w K Q else E:=by
 rw[if_pos (by simp[Region.wanted,hgd])]
 obtain⟨i,h2,h3,h4,h5⟩:=info_parts de_info
 refine wp_append_own w s x 23 ho B 57 i _ 7 96 Tryz.underlying23 h2 h3 h4 h5 rfl (by decide) v n xs hs hown ad 1 1 news hx hn hc h1c (by unfold maxLen;omega) (by omega) hB fun v' w' r1 r2 _=>?_
 obtain⟨g,cap,rfl⟩:=ownsRow_succ r1
 exact h g cap w' r1 r2
theorem seven_at (W:World) (B:Nat) (hB:B=W.heap.size) (x0 x1 x2 x3 x4 x5 x6:Value) (T:TypeId) (j:Nat) (u:Value) (h:[x0,x1,x2,x3,x4,x5,x6][j]?=some u):(W.alloc (.cells #[x0,x1,x2,x3,x4,x5,x6] T)).cell? ((⟨B,0,none⟩:Addr).add j)=some u:=by
 subst hB
 have e:(⟨W.heap.size,0,none⟩:Addr).add j=⟨W.heap.size,j,none⟩:=by unfold Addr.add;split <;> simp_all
 rw[e,World.cell?_alloc_new,←h,←Array.getElem?_toList]
theorem Rd.setDv {W:World} {b g cap:Nat} {dv:Value} {ts:List Tok} {xb:Nat→Prop} {σ:RS} (h:Rd W b g cap dv ts xb σ) (v:Value):Rd (W.setCell ⟨b,2,none⟩ v) b g cap v ts xb σ:=by
 obtain⟨o,c,h1,h2⟩:=h.blk
 refine⟨fun k hk=>Nat.lt_of_lt_of_le (h.xlt k hk) ((qB b W).setCell (p:=⟨b,2,none⟩) (qL _) v).size,⟨o,c,?_,h2.same fun k hk _=>Below.heap_setCell W ⟨b,2,none⟩ v k (by simp;omega)⟩,row_low h.row (Below.heap_setCell W ⟨b,2,none⟩ v g (by have:=h.lt;simp;omega)),h.lt,h.at_,h.len,h.ends⟩
 rw[set_blk h1];simp
structure PaSt (W Y:World) (b g cap:Nat) (ts:List Tok) (σ:RS) (acc:List De) (dv:Value):Prop where
 rd:Rd Y b g cap dv ts (fun _=>False) σ
 rk:RK b W Y
 des:DesOwn Y W.heap.size dv acc
theorem PaSt.push {W w1 w2 w3:World} {b g cap:Nat} {ts:List Tok} {τ:RS} {acc:List De} {dv pv iv:Value} {x:De} {q:List (De×Value×Value)} (hbs:b<W.heap.size) (hk0:RK b W w1) (hr1:Rd w1 b g cap dv ts (fun _=>False) τ) (hb:Below w1.heap.size w1 w2)
  (hq1:q.map Prod.fst=acc) (hq3:∀y ∈ q,w1.ownsRow W.heap.size 62 2 y.2.1 y.1.params.length (paC y.1.params)∧ItsOwn w1 W.heap.size y.2.2 y.1.items) (hp:w1.ownsRow W.heap.size 62 2 pv x.params.length (paC x.params)) (hi:ItsOwn w1 W.heap.size iv x.items) (ho2:w2.ownsRow W.heap.size 57 7 dv acc.length (desGC q)) (hg:w2.grownBy w3 dv.ownBlock) {gg cc:Nat}
  (ho:w3.ownsRow W.heap.size 57 7 (.slice (some ⟨gg,0,none⟩) (acc.length+1) cc) (acc.length+1) (desGC q++deGC x pv iv)) :
  PaSt W (w3.setCell ⟨b,2,none⟩ (.slice (some ⟨gg,0,none⟩) (acc.length+1) cc)) b g cap ts τ (acc++[x]) (.slice (some ⟨gg,0,none⟩) (acc.length+1) cc):=by
 have hr3:=(hr1.below hb).grownT ho2 hbs (by decide) (by decide) hg
 have hk3:RK b W w3:=(hk0.trans (RK.of_below hb (ql hr1.size))).grownT hbs ho2 hg
 have sm:∀k,k≠b→(w3.setCell ⟨b,2,none⟩ (.slice (some ⟨gg,0,none⟩) (acc.length+1) cc)).heap[k]?=w3.heap[k]?:=fun k hk=>Below.heap_setCell w3 ⟨b,2,none⟩ _ k (by simpa using hk)
 have it:∀{v:Value} {l:List It},ItsOwn w1 W.heap.size v l→ItsOwn (w3.setCell ⟨b,2,none⟩ (.slice (some ⟨gg,0,none⟩) (acc.length+1) cc)) W.heap.size v l:=fun h=>its_same (its_past (its_below h hb) ho2 hg) fun k hk _=>sm k (by omega)
 have pt:∀{v:Value} {n:Nat} {xs:List Value},w1.ownsRow W.heap.size 62 2 v n xs→(w3.setCell ⟨b,2,none⟩ (.slice (some ⟨gg,0,none⟩) (acc.length+1) cc)).ownsRow W.heap.size 62 2 v n xs:=fun h=>by
  have h2:=own_past (own_below h hb) ho2 (by decide) hg
  exact rd_own_same h2 fun k e=>sm k (by have:=(h2.lt k e).1;omega)
 refine⟨hr3.setDv _,hk3.trans (RK.set 2 _),q++[(x,pv,iv)],by simp[hq1],?_,?_⟩
 ·rw[desGC_snoc,List.length_append,List.length_singleton]
  exact rd_own_same ho fun k e=>sm k (by have:=(ho.lt k e).1;omega)
 ·intro y hy
  rcases List.mem_append.1 hy with hy | hy
  ·exact⟨pt (hq3 y hy).1,it (hq3 y hy).2⟩
  ·obtain rfl:=List.mem_singleton.1 hy
   exact⟨pt hp,it hi⟩
end Go.Proofs.YtlbhlncipajapaaGreatDoor
