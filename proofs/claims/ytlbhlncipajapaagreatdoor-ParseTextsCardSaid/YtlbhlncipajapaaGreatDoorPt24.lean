import Derived.Test.YtlbhlncipajapaaGreatDoorPt23
set_option maxHeartbeats 16000000
set_option maxRecDepth 100000
set_option linter.unusedVariables false
open Go.Proofs.Tryz(prog)
namespace Go.Proofs.YtlbhlncipajapaaGreatDoor
open Go.RowKit Lx
theorem item_on (b g cap:Nat) (dv:Value) (ts:List Tok) (xb:Nat→Prop) (f:Nat) (σ0 σ1 σ2 σ3 σ4 σ5 σ6 τ:RS) (p0:Nat) (hp:p0=(tokL ts σ0.at_).at_) (v0:Int) (v2:List UInt8) (v4:Int) (ht:isS ts [111,110] σ0=true) (h1:σ1=stepS σ0) (l0:List Int) (g0:runE ts f .expr σ1=some (v0,l0,σ2)) (h3:σ3=wantS ts [115,101,116] σ2) (g2:v2=nameV ts σ3) (h4:σ4=nameS ts σ3) (h5:σ5=wantS ts [61] σ4) (l4:List Int) (g4:runE ts f .expr σ5=some (v4,l4,σ6)) (hτ:τ=wantS ts [59] σ6) (W:World) (h:Hid (Rd W b g cap dv ts xb σ0)) :
  Calls prog 73 #[.pointer (some ⟨b,0,none⟩),.bool true] W fun r Y=>ItRetG b g cap dv ts xb W { it0 with kind:=5,name:=str v2,e:=v4,f:=v0,pos:=(p0:Int) } (decide (τ.code=0)) τ r Y:=by
 have TF:Hid (∀(d:Array UInt8) W,d.toList≠[111,110]→Hid (Rd W b g cap dv ts xb σ0)→Calls prog 36 #[.pointer (some ⟨b,0,none⟩),.string ⟨d⟩] W fun r Y=>RdRet b g cap dv ts xb W (.bool false) σ0 r Y):=Hd fun d W hd h=>by
  have:=took_false (b:=b) (g:=g) (cap:=cap) (dv:=dv) (xb:=xb) d.toList (isS_one ht (Ne.symm hd)) W h
  simpa [str] using this
 have TT:Hid (∀W,Hid (Rd W b g cap dv ts xb σ0)→Calls prog 36 #[.pointer (some ⟨b,0,none⟩),.string ⟨#[111,110]⟩] W fun r Y=>RdRet b g cap dv ts xb W (.bool true) σ1 r Y):=Hd fun W h=>by rw[h1];exact took_true [111,110] ht W h
 have C0:Hid (∀W,Hid (Rd W b g cap dv ts xb σ1)→Calls prog 18 #[.pointer (some ⟨b,0,none⟩)] W fun r Y=>RdRet b g cap dv ts xb W (.int .i64 v0) σ2 r Y):=Hd fun W h=>(fc_all b g cap dv ts f xb).expr σ1 v0 l0 σ2 g0 W h
 have C1:Hid (∀W,Hid (Rd W b g cap dv ts xb σ2)→Calls prog 37 #[.pointer (some ⟨b,0,none⟩),.string ⟨#[115,101,116]⟩] W fun r Y=>RdRet b g cap dv ts xb W (.tuple #[]) σ3 r Y):=Hd fun W h=>by rw[h3];exact want_any b g cap dv ts xb σ2 [115,101,116] W h
 have C2:Hid (∀W,Hid (Rd W b g cap dv ts xb σ3)→Calls prog 41 #[.pointer (some ⟨b,0,none⟩)] W fun r Y=>RdRet b g cap dv ts xb W (.string (str v2)) σ4 r Y):=Hd fun W h=>by rw[g2,h4];exact name_any b g cap dv ts xb σ3 W h
 have C3:Hid (∀W,Hid (Rd W b g cap dv ts xb σ4)→Calls prog 37 #[.pointer (some ⟨b,0,none⟩),.string ⟨#[61]⟩] W fun r Y=>RdRet b g cap dv ts xb W (.tuple #[]) σ5 r Y):=Hd fun W h=>by rw[h5];exact want_any b g cap dv ts xb σ4 [61] W h
 have C4:Hid (∀W,Hid (Rd W b g cap dv ts xb σ5)→Calls prog 18 #[.pointer (some ⟨b,0,none⟩)] W fun r Y=>RdRet b g cap dv ts xb W (.int .i64 v4) σ6 r Y):=Hd fun W h=>(fc_all b g cap dv ts f xb).expr σ5 v4 l4 σ6 g4 W h
 have HT:=Hd hτ
 refine item_pre b g cap dv ts xb σ0 true W h _ (Hd ?_)
 intro V A _ _ _ _ _ _ _ _ _ _ _ _ _ _ _ _ _ _ _ _ _ _ _ _ _ _ _ _ _ _ _ _ _ _ _ _ _ _ _ _ _ _ _ _ _ _ _ _ _ _ _ _ _ _ _ _ _ _ _ _ _ _ _ _ _ _ _ _ _ _ _ _ _ _ _ _ _ _ _ _ _ _ _ _ _ _ _ _ _ _ _ _ _ _ _ _ _ _ _ _ _ _ _ _ _ _ _ _ _ _ _ _ _ _ _ _ _ _ _ _ _ _ _ _ _ _ _ _ _ _ _ _ _ _ _ _ _ _ _ _ _ _ _ _ _ _ _ _ _ _ _ _ _ _ _ _ _ _ _ _ _ _ _ _ _ _ _ _ _ _ _ _ _ _ _ _ _ _ _ _ _ _ _ _ _ _ HS0
 obtain⟨Q,hQ⟩:∃Q,Q=bodyPost prog Tryz.f73 (ItRetG b g cap dv ts xb W { it0 with kind:=5,name:=str v2,e:=v4,f:=v0,pos:=(p0:Int) } (decide (τ.code=0)) τ):=⟨_,rfl⟩
 rw[←hQ]
 have HQ:=Hd hQ
 clear hQ
 simp only[sqhOf,sqh,headR,Tryz.f73]
 simp only[Option.some.injEq,Nat.reduceEqDiff,if_true,if_false]
 refine wp_seq_k fun K hK=>?_
 have HK:Hid (∀a w,(sqhOf Tryz.f73 59).wp prog Q a w→K a w):=Hd hK
 have HR:=Hd HS0.rd
 have HS:=Hd HS0
 have hbA:b<A:=by have:=HS0.hA;have:=HS0.hb;omega
 clear hK HS0
 rw[←hp] at HS
 clear ht h1 h3 h4 h5 g0 g2 g4 hτ hp
 go_wp2_with (first
  | (go_at_call 36;(with_reducible refine Calls.mono (TF.out _ _ ?_ HR) ?_);(focus exact(by decide));(rintro e w1 ⟨rfl,hr,hk⟩);have HX:=HS;clear HR HS;have HS:=Hd (HX.out.call hr hk);have HR:=Hd hr;clear hr hk HX)
  | (go_at_call 36;(with_reducible refine Calls.mono (TT.out _ HR) ?_);(rintro e w2 ⟨rfl,hr,hk⟩);have HX:=HS;clear HR HS;have HS:=Hd (HX.out.call hr hk);clear hr hk HX;obtain⟨⟨x0,x1,x2,x3,x4,x5,x6,x7,x8⟩,xf⟩:=rgCells HS.out.box;have f0:=xf 0;clear xf))
 obtain⟨u0,hw⟩:∃w',w'=w2.setCell ⟨A+1,0,none⟩ (.int .i64 5):=⟨_,rfl⟩
 have HX:=HS
 clear HS
 have HS:Hid (IB W u0 b g cap dv ts xb σ1 A #[.int .i64 5,.string ⟨#[]⟩,.int .i64 0,.int .i64 0,.int .i64 0,.slice none 0 0,.string ⟨#[]⟩,.string ⟨#[]⟩,.int .i64 (p0:Int)]):=Hd (by rw[hw];exact HX.out.set 0 _ rfl)
 rw[←hw]
 clear hw HX x0 x1 x2 x3 x4 x5 x6 x7 x8 f0
 have HR:=Hd HS.out.rd
 refine(C0.out u0 HR).mono ?_
 rintro e z0 ⟨rfl,hr,hk⟩
 dsimp only
 have HX:=HS
 clear HS HR
 have HS:=Hd (HX.out.call hr hk)
 clear hr hk HX
 obtain⟨⟨x0,x1,x2,x3,x4,x5,x6,x7,x8⟩,xf⟩:=rgCells HS.out.box;have f0:=xf 4;clear xf
 go_wp2_with fail
 obtain⟨u1,hw⟩:∃w',w'=z0.setCell ⟨A+1,4,none⟩ (.int .i64 v0):=⟨_,rfl⟩
 have HX:=HS
 clear HS
 have HS:Hid (IB W u1 b g cap dv ts xb σ2 A #[.int .i64 5,.string ⟨#[]⟩,.int .i64 0,.int .i64 0,.int .i64 v0,.slice none 0 0,.string ⟨#[]⟩,.string ⟨#[]⟩,.int .i64 (p0:Int)]):=Hd (by rw[hw];exact HX.out.set 4 _ rfl)
 rw[←hw]
 clear hw HX x0 x1 x2 x3 x4 x5 x6 x7 x8 f0
 have HR:=Hd HS.out.rd
 refine(C1.out u1 HR).mono ?_
 rintro e z1 ⟨rfl,hr,hk⟩
 dsimp only
 have HX:=HS
 clear HS HR
 have HS:=Hd (HX.out.call hr hk)
 clear hr hk HX
 go_wp2_with fail
 have HR:=Hd HS.out.rd
 refine(C2.out z1 HR).mono ?_
 rintro e z2 ⟨rfl,hr,hk⟩
 dsimp only
 have HX:=HS
 clear HS HR
 have HS:=Hd (HX.out.call hr hk)
 clear hr hk HX
 obtain⟨⟨x0,x1,x2,x3,x4,x5,x6,x7,x8⟩,xf⟩:=rgCells HS.out.box;have f0:=xf 1;clear xf
 go_wp2_with fail
 obtain⟨u3,hw⟩:∃w',w'=z2.setCell ⟨A+1,1,none⟩ (.string (str v2)):=⟨_,rfl⟩
 have HX:=HS
 clear HS
 have HS:Hid (IB W u3 b g cap dv ts xb σ4 A #[.int .i64 5,.string (str v2),.int .i64 0,.int .i64 0,.int .i64 v0,.slice none 0 0,.string ⟨#[]⟩,.string ⟨#[]⟩,.int .i64 (p0:Int)]):=Hd (by rw[hw];exact HX.out.set 1 _ rfl)
 rw[←hw]
 clear hw HX x0 x1 x2 x3 x4 x5 x6 x7 x8 f0
 have HR:=Hd HS.out.rd
 refine(C3.out u3 HR).mono ?_
 rintro e z3 ⟨rfl,hr,hk⟩
 dsimp only
 have HX:=HS
 clear HS HR
 have HS:=Hd (HX.out.call hr hk)
 clear hr hk HX
 go_wp2_with fail
 have HR:=Hd HS.out.rd
 refine(C4.out z3 HR).mono ?_
 rintro e z4 ⟨rfl,hr,hk⟩
 dsimp only
 have HX:=HS
 clear HS HR
 have HS:=Hd (HX.out.call hr hk)
 clear hr hk HX
 obtain⟨⟨x0,x1,x2,x3,x4,x5,x6,x7,x8⟩,xf⟩:=rgCells HS.out.box;have f0:=xf 3;clear xf
 go_wp2_with fail
 obtain⟨u5,hw⟩:∃w',w'=z4.setCell ⟨A+1,3,none⟩ (.int .i64 v4):=⟨_,rfl⟩
 have HX:=HS
 clear HS
 have HS:Hid (IB W u5 b g cap dv ts xb σ6 A #[.int .i64 5,.string (str v2),.int .i64 0,.int .i64 v4,.int .i64 v0,.slice none 0 0,.string ⟨#[]⟩,.string ⟨#[]⟩,.int .i64 (p0:Int)]):=Hd (by rw[hw];exact HX.out.set 3 _ rfl)
 rw[←hw]
 clear hw HX x0 x1 x2 x3 x4 x5 x6 x7 x8 f0
 refine HK.out _ _ ?_
 rw[HQ.out]
 refine item_end b g cap dv ts xb σ6 τ HT W u5 A _ _ _ _ _ _ _ _ _ _ _ _ HS _ (Hd ?_)
 intro Z Y hr hk hb hk0
 exact⟨none,0,0,rfl,hr,hk0,qO _ _ _ _⟩
theorem item_from (b g cap:Nat) (dv:Value) (ts:List Tok) (xb:Nat→Prop) (f:Nat) (σ0 σ1 σ2 σ3 σ4 σ5 σ6 σ7 σ8 τ:RS) (p0:Nat) (hp:p0=(tokL ts σ0.at_).at_) (v0:List UInt8) (v2:List UInt8) (v4:Int) (v6:List UInt8) (ht:isS ts [102,114,111,109] σ0=true) (h1:σ1=stepS σ0) (g0:v0=nameV ts σ1) (h2:σ2=nameS ts σ1) (h3:σ3=wantS ts [46] σ2) (g2:v2=nameV ts σ3) (h4:σ4=nameS ts σ3) (h5:σ5=wantS ts [111,110] σ4) (l4:List Int) (g4:runE ts f .expr σ5=some (v4,l4,σ6)) (h7:σ7=wantS ts [103,111,116,111] σ6) (g6:v6=nameV ts σ7) (h8:σ8=nameS ts σ7) (hτ:τ=wantS ts [59] σ8) (W:World) (h:Hid (Rd W b g cap dv ts xb σ0)) :
  Calls prog 73 #[.pointer (some ⟨b,0,none⟩),.bool true] W fun r Y=>ItRetG b g cap dv ts xb W { it0 with kind:=7,name:=str v0,f:=v4,state:=str v2,next:=str v6,pos:=(p0:Int) } (decide (τ.code=0)) τ r Y:=by
 have TF:Hid (∀(d:Array UInt8) W,d.toList≠[102,114,111,109]→Hid (Rd W b g cap dv ts xb σ0)→Calls prog 36 #[.pointer (some ⟨b,0,none⟩),.string ⟨d⟩] W fun r Y=>RdRet b g cap dv ts xb W (.bool false) σ0 r Y):=Hd fun d W hd h=>by
  have:=took_false (b:=b) (g:=g) (cap:=cap) (dv:=dv) (xb:=xb) d.toList (isS_one ht (Ne.symm hd)) W h
  simpa [str] using this
 have TT:Hid (∀W,Hid (Rd W b g cap dv ts xb σ0)→Calls prog 36 #[.pointer (some ⟨b,0,none⟩),.string ⟨#[102,114,111,109]⟩] W fun r Y=>RdRet b g cap dv ts xb W (.bool true) σ1 r Y):=Hd fun W h=>by rw[h1];exact took_true [102,114,111,109] ht W h
 have C0:Hid (∀W,Hid (Rd W b g cap dv ts xb σ1)→Calls prog 41 #[.pointer (some ⟨b,0,none⟩)] W fun r Y=>RdRet b g cap dv ts xb W (.string (str v0)) σ2 r Y):=Hd fun W h=>by rw[g0,h2];exact name_any b g cap dv ts xb σ1 W h
 have C1:Hid (∀W,Hid (Rd W b g cap dv ts xb σ2)→Calls prog 37 #[.pointer (some ⟨b,0,none⟩),.string ⟨#[46]⟩] W fun r Y=>RdRet b g cap dv ts xb W (.tuple #[]) σ3 r Y):=Hd fun W h=>by rw[h3];exact want_any b g cap dv ts xb σ2 [46] W h
 have C2:Hid (∀W,Hid (Rd W b g cap dv ts xb σ3)→Calls prog 41 #[.pointer (some ⟨b,0,none⟩)] W fun r Y=>RdRet b g cap dv ts xb W (.string (str v2)) σ4 r Y):=Hd fun W h=>by rw[g2,h4];exact name_any b g cap dv ts xb σ3 W h
 have C3:Hid (∀W,Hid (Rd W b g cap dv ts xb σ4)→Calls prog 37 #[.pointer (some ⟨b,0,none⟩),.string ⟨#[111,110]⟩] W fun r Y=>RdRet b g cap dv ts xb W (.tuple #[]) σ5 r Y):=Hd fun W h=>by rw[h5];exact want_any b g cap dv ts xb σ4 [111,110] W h
 have C4:Hid (∀W,Hid (Rd W b g cap dv ts xb σ5)→Calls prog 18 #[.pointer (some ⟨b,0,none⟩)] W fun r Y=>RdRet b g cap dv ts xb W (.int .i64 v4) σ6 r Y):=Hd fun W h=>(fc_all b g cap dv ts f xb).expr σ5 v4 l4 σ6 g4 W h
 have C5:Hid (∀W,Hid (Rd W b g cap dv ts xb σ6)→Calls prog 37 #[.pointer (some ⟨b,0,none⟩),.string ⟨#[103,111,116,111]⟩] W fun r Y=>RdRet b g cap dv ts xb W (.tuple #[]) σ7 r Y):=Hd fun W h=>by rw[h7];exact want_any b g cap dv ts xb σ6 [103,111,116,111] W h
 have C6:Hid (∀W,Hid (Rd W b g cap dv ts xb σ7)→Calls prog 41 #[.pointer (some ⟨b,0,none⟩)] W fun r Y=>RdRet b g cap dv ts xb W (.string (str v6)) σ8 r Y):=Hd fun W h=>by rw[g6,h8];exact name_any b g cap dv ts xb σ7 W h
 have HT:=Hd hτ
 refine item_pre b g cap dv ts xb σ0 true W h _ (Hd ?_)
 intro V A _ _ _ _ _ _ _ _ _ _ _ _ _ _ _ _ _ _ _ _ _ _ _ _ _ _ _ _ _ _ _ _ _ _ _ _ _ _ _ _ _ _ _ _ _ _ _ _ _ _ _ _ _ _ _ _ _ _ _ _ _ _ _ _ _ _ _ _ _ _ _ _ _ _ _ _ _ _ _ _ _ _ _ _ _ _ _ _ _ _ _ _ _ _ _ _ _ _ _ _ _ _ _ _ _ _ _ _ _ _ _ _ _ _ _ _ _ _ _ _ _ _ _ _ _ _ _ _ _ _ _ _ _ _ _ _ _ _ _ _ _ _ _ _ _ _ _ _ _ _ _ _ _ _ _ _ _ _ _ _ _ _ _ _ _ _ _ _ _ _ _ _ _ _ _ _ _ _ _ _ _ _ _ _ _ _ HS0
 obtain⟨Q,hQ⟩:∃Q,Q=bodyPost prog Tryz.f73 (ItRetG b g cap dv ts xb W { it0 with kind:=7,name:=str v0,f:=v4,state:=str v2,next:=str v6,pos:=(p0:Int) } (decide (τ.code=0)) τ):=⟨_,rfl⟩
 rw[←hQ]
 have HQ:=Hd hQ
 clear hQ
 simp only[sqhOf,sqh,headR,Tryz.f73]
 simp only[Option.some.injEq,Nat.reduceEqDiff,if_true,if_false]
 refine wp_seq_k fun K hK=>?_
 have HK:Hid (∀a w,(sqhOf Tryz.f73 59).wp prog Q a w→K a w):=Hd hK
 have HR:=Hd HS0.rd
 have HS:=Hd HS0
 have hbA:b<A:=by have:=HS0.hA;have:=HS0.hb;omega
 clear hK HS0
 rw[←hp] at HS
 clear ht h1 h2 h3 h4 h5 h7 h8 g0 g2 g4 g6 hτ hp
 go_wp2_with (first
  | (go_at_call 36;(with_reducible refine Calls.mono (TF.out _ _ ?_ HR) ?_);(focus exact(by decide));(rintro e w1 ⟨rfl,hr,hk⟩);have HX:=HS;clear HR HS;have HS:=Hd (HX.out.call hr hk);have HR:=Hd hr;clear hr hk HX)
  | (go_at_call 36;(with_reducible refine Calls.mono (TT.out _ HR) ?_);(rintro e w2 ⟨rfl,hr,hk⟩);have HX:=HS;clear HR HS;have HS:=Hd (HX.out.call hr hk);clear hr hk HX;obtain⟨⟨x0,x1,x2,x3,x4,x5,x6,x7,x8⟩,xf⟩:=rgCells HS.out.box;have f0:=xf 0;clear xf))
 obtain⟨u0,hw⟩:∃w',w'=w2.setCell ⟨A+1,0,none⟩ (.int .i64 7):=⟨_,rfl⟩
 have HX:=HS
 clear HS
 have HS:Hid (IB W u0 b g cap dv ts xb σ1 A #[.int .i64 7,.string ⟨#[]⟩,.int .i64 0,.int .i64 0,.int .i64 0,.slice none 0 0,.string ⟨#[]⟩,.string ⟨#[]⟩,.int .i64 (p0:Int)]):=Hd (by rw[hw];exact HX.out.set 0 _ rfl)
 rw[←hw]
 clear hw HX x0 x1 x2 x3 x4 x5 x6 x7 x8 f0
 have HR:=Hd HS.out.rd
 refine(C0.out u0 HR).mono ?_
 rintro e z0 ⟨rfl,hr,hk⟩
 dsimp only
 have HX:=HS
 clear HS HR
 have HS:=Hd (HX.out.call hr hk)
 clear hr hk HX
 obtain⟨⟨x0,x1,x2,x3,x4,x5,x6,x7,x8⟩,xf⟩:=rgCells HS.out.box;have f0:=xf 1;clear xf
 go_wp2_with fail
 obtain⟨u1,hw⟩:∃w',w'=z0.setCell ⟨A+1,1,none⟩ (.string (str v0)):=⟨_,rfl⟩
 have HX:=HS
 clear HS
 have HS:Hid (IB W u1 b g cap dv ts xb σ2 A #[.int .i64 7,.string (str v0),.int .i64 0,.int .i64 0,.int .i64 0,.slice none 0 0,.string ⟨#[]⟩,.string ⟨#[]⟩,.int .i64 (p0:Int)]):=Hd (by rw[hw];exact HX.out.set 1 _ rfl)
 rw[←hw]
 clear hw HX x0 x1 x2 x3 x4 x5 x6 x7 x8 f0
 have HR:=Hd HS.out.rd
 refine(C1.out u1 HR).mono ?_
 rintro e z1 ⟨rfl,hr,hk⟩
 dsimp only
 have HX:=HS
 clear HS HR
 have HS:=Hd (HX.out.call hr hk)
 clear hr hk HX
 go_wp2_with fail
 have HR:=Hd HS.out.rd
 refine(C2.out z1 HR).mono ?_
 rintro e z2 ⟨rfl,hr,hk⟩
 dsimp only
 have HX:=HS
 clear HS HR
 have HS:=Hd (HX.out.call hr hk)
 clear hr hk HX
 obtain⟨⟨x0,x1,x2,x3,x4,x5,x6,x7,x8⟩,xf⟩:=rgCells HS.out.box;have f0:=xf 6;clear xf
 go_wp2_with fail
 obtain⟨u3,hw⟩:∃w',w'=z2.setCell ⟨A+1,6,none⟩ (.string (str v2)):=⟨_,rfl⟩
 have HX:=HS
 clear HS
 have HS:Hid (IB W u3 b g cap dv ts xb σ4 A #[.int .i64 7,.string (str v0),.int .i64 0,.int .i64 0,.int .i64 0,.slice none 0 0,.string (str v2),.string ⟨#[]⟩,.int .i64 (p0:Int)]):=Hd (by rw[hw];exact HX.out.set 6 _ rfl)
 rw[←hw]
 clear hw HX x0 x1 x2 x3 x4 x5 x6 x7 x8 f0
 have HR:=Hd HS.out.rd
 refine(C3.out u3 HR).mono ?_
 rintro e z3 ⟨rfl,hr,hk⟩
 dsimp only
 have HX:=HS
 clear HS HR
 have HS:=Hd (HX.out.call hr hk)
 clear hr hk HX
 go_wp2_with fail
 have HR:=Hd HS.out.rd
 refine(C4.out z3 HR).mono ?_
 rintro e z4 ⟨rfl,hr,hk⟩
 dsimp only
 have HX:=HS
 clear HS HR
 have HS:=Hd (HX.out.call hr hk)
 clear hr hk HX
 obtain⟨⟨x0,x1,x2,x3,x4,x5,x6,x7,x8⟩,xf⟩:=rgCells HS.out.box;have f0:=xf 4;clear xf
 go_wp2_with fail
 obtain⟨u5,hw⟩:∃w',w'=z4.setCell ⟨A+1,4,none⟩ (.int .i64 v4):=⟨_,rfl⟩
 have HX:=HS
 clear HS
 have HS:Hid (IB W u5 b g cap dv ts xb σ6 A #[.int .i64 7,.string (str v0),.int .i64 0,.int .i64 0,.int .i64 v4,.slice none 0 0,.string (str v2),.string ⟨#[]⟩,.int .i64 (p0:Int)]):=Hd (by rw[hw];exact HX.out.set 4 _ rfl)
 rw[←hw]
 clear hw HX x0 x1 x2 x3 x4 x5 x6 x7 x8 f0
 have HR:=Hd HS.out.rd
 refine(C5.out u5 HR).mono ?_
 rintro e z5 ⟨rfl,hr,hk⟩
 dsimp only
 have HX:=HS
 clear HS HR
 have HS:=Hd (HX.out.call hr hk)
 clear hr hk HX
 go_wp2_with fail
 have HR:=Hd HS.out.rd
 refine(C6.out z5 HR).mono ?_
 rintro e z6 ⟨rfl,hr,hk⟩
 dsimp only
 have HX:=HS
 clear HS HR
 have HS:=Hd (HX.out.call hr hk)
 clear hr hk HX
 obtain⟨⟨x0,x1,x2,x3,x4,x5,x6,x7,x8⟩,xf⟩:=rgCells HS.out.box;have f0:=xf 7;clear xf
 go_wp2_with fail
 obtain⟨u7,hw⟩:∃w',w'=z6.setCell ⟨A+1,7,none⟩ (.string (str v6)):=⟨_,rfl⟩
 have HX:=HS
 clear HS
 have HS:Hid (IB W u7 b g cap dv ts xb σ8 A #[.int .i64 7,.string (str v0),.int .i64 0,.int .i64 0,.int .i64 v4,.slice none 0 0,.string (str v2),.string (str v6),.int .i64 (p0:Int)]):=Hd (by rw[hw];exact HX.out.set 7 _ rfl)
 rw[←hw]
 clear hw HX x0 x1 x2 x3 x4 x5 x6 x7 x8 f0
 refine HK.out _ _ ?_
 rw[HQ.out]
 refine item_end b g cap dv ts xb σ8 τ HT W u7 A _ _ _ _ _ _ _ _ _ _ _ _ HS _ (Hd ?_)
 intro Z Y hr hk hb hk0
 exact⟨none,0,0,rfl,hr,hk0,qO _ _ _ _⟩
theorem item_out (b g cap:Nat) (dv:Value) (ts:List Tok) (xb:Nat→Prop) (σ0 σ1 σ2 τ:RS) (p0:Nat) (hp:p0=(tokL ts σ0.at_).at_) (v0:List UInt8) (ht:isS ts [111,117,116] σ0=true) (h1:σ1=stepS σ0) (g0:v0=nameV ts σ1) (h2:σ2=nameS ts σ1) (hτ:τ=wantS ts [59] σ2) (W:World) (h:Hid (Rd W b g cap dv ts xb σ0)) :
  Calls prog 73 #[.pointer (some ⟨b,0,none⟩),.bool true] W fun r Y=>ItRetG b g cap dv ts xb W { it0 with kind:=8,name:=str v0,pos:=(p0:Int) } (decide (τ.code=0)) τ r Y:=by
 have TF:Hid (∀(d:Array UInt8) W,d.toList≠[111,117,116]→Hid (Rd W b g cap dv ts xb σ0)→Calls prog 36 #[.pointer (some ⟨b,0,none⟩),.string ⟨d⟩] W fun r Y=>RdRet b g cap dv ts xb W (.bool false) σ0 r Y):=Hd fun d W hd h=>by
  have:=took_false (b:=b) (g:=g) (cap:=cap) (dv:=dv) (xb:=xb) d.toList (isS_one ht (Ne.symm hd)) W h
  simpa [str] using this
 have TT:Hid (∀W,Hid (Rd W b g cap dv ts xb σ0)→Calls prog 36 #[.pointer (some ⟨b,0,none⟩),.string ⟨#[111,117,116]⟩] W fun r Y=>RdRet b g cap dv ts xb W (.bool true) σ1 r Y):=Hd fun W h=>by rw[h1];exact took_true [111,117,116] ht W h
 have C0:Hid (∀W,Hid (Rd W b g cap dv ts xb σ1)→Calls prog 41 #[.pointer (some ⟨b,0,none⟩)] W fun r Y=>RdRet b g cap dv ts xb W (.string (str v0)) σ2 r Y):=Hd fun W h=>by rw[g0,h2];exact name_any b g cap dv ts xb σ1 W h
 have HT:=Hd hτ
 refine item_pre b g cap dv ts xb σ0 true W h _ (Hd ?_)
 intro V A _ _ _ _ _ _ _ _ _ _ _ _ _ _ _ _ _ _ _ _ _ _ _ _ _ _ _ _ _ _ _ _ _ _ _ _ _ _ _ _ _ _ _ _ _ _ _ _ _ _ _ _ _ _ _ _ _ _ _ _ _ _ _ _ _ _ _ _ _ _ _ _ _ _ _ _ _ _ _ _ _ _ _ _ _ _ _ _ _ _ _ _ _ _ _ _ _ _ _ _ _ _ _ _ _ _ _ _ _ _ _ _ _ _ _ _ _ _ _ _ _ _ _ _ _ _ _ _ _ _ _ _ _ _ _ _ _ _ _ _ _ _ _ _ _ _ _ _ _ _ _ _ _ _ _ _ _ _ _ _ _ _ _ _ _ _ _ _ _ _ _ _ _ _ _ _ _ _ _ _ _ _ _ _ _ _ HS0
 obtain⟨Q,hQ⟩:∃Q,Q=bodyPost prog Tryz.f73 (ItRetG b g cap dv ts xb W { it0 with kind:=8,name:=str v0,pos:=(p0:Int) } (decide (τ.code=0)) τ):=⟨_,rfl⟩
 rw[←hQ]
 have HQ:=Hd hQ
 clear hQ
 simp only[sqhOf,sqh,headR,Tryz.f73]
 simp only[Option.some.injEq,Nat.reduceEqDiff,if_true,if_false]
 refine wp_seq_k fun K hK=>?_
 have HK:Hid (∀a w,(sqhOf Tryz.f73 59).wp prog Q a w→K a w):=Hd hK
 have HR:=Hd HS0.rd
 have HS:=Hd HS0
 have hbA:b<A:=by have:=HS0.hA;have:=HS0.hb;omega
 clear hK HS0
 rw[←hp] at HS
 clear ht h1 h2 g0 hτ hp
 go_wp2_with (first
  | (go_at_call 36;(with_reducible refine Calls.mono (TF.out _ _ ?_ HR) ?_);(focus exact(by decide));(rintro e w1 ⟨rfl,hr,hk⟩);have HX:=HS;clear HR HS;have HS:=Hd (HX.out.call hr hk);have HR:=Hd hr;clear hr hk HX)
  | (go_at_call 36;(with_reducible refine Calls.mono (TT.out _ HR) ?_);(rintro e w2 ⟨rfl,hr,hk⟩);have HX:=HS;clear HR HS;have HS:=Hd (HX.out.call hr hk);clear hr hk HX;obtain⟨⟨x0,x1,x2,x3,x4,x5,x6,x7,x8⟩,xf⟩:=rgCells HS.out.box;have f0:=xf 0;clear xf))
 obtain⟨u0,hw⟩:∃w',w'=w2.setCell ⟨A+1,0,none⟩ (.int .i64 8):=⟨_,rfl⟩
 have HX:=HS
 clear HS
 have HS:Hid (IB W u0 b g cap dv ts xb σ1 A #[.int .i64 8,.string ⟨#[]⟩,.int .i64 0,.int .i64 0,.int .i64 0,.slice none 0 0,.string ⟨#[]⟩,.string ⟨#[]⟩,.int .i64 (p0:Int)]):=Hd (by rw[hw];exact HX.out.set 0 _ rfl)
 rw[←hw]
 clear hw HX x0 x1 x2 x3 x4 x5 x6 x7 x8 f0
 have HR:=Hd HS.out.rd
 refine(C0.out u0 HR).mono ?_
 rintro e z0 ⟨rfl,hr,hk⟩
 dsimp only
 have HX:=HS
 clear HS HR
 have HS:=Hd (HX.out.call hr hk)
 clear hr hk HX
 obtain⟨⟨x0,x1,x2,x3,x4,x5,x6,x7,x8⟩,xf⟩:=rgCells HS.out.box;have f0:=xf 1;clear xf
 go_wp2_with fail
 obtain⟨u1,hw⟩:∃w',w'=z0.setCell ⟨A+1,1,none⟩ (.string (str v0)):=⟨_,rfl⟩
 have HX:=HS
 clear HS
 have HS:Hid (IB W u1 b g cap dv ts xb σ2 A #[.int .i64 8,.string (str v0),.int .i64 0,.int .i64 0,.int .i64 0,.slice none 0 0,.string ⟨#[]⟩,.string ⟨#[]⟩,.int .i64 (p0:Int)]):=Hd (by rw[hw];exact HX.out.set 1 _ rfl)
 rw[←hw]
 clear hw HX x0 x1 x2 x3 x4 x5 x6 x7 x8 f0
 refine HK.out _ _ ?_
 rw[HQ.out]
 refine item_end b g cap dv ts xb σ2 τ HT W u1 A _ _ _ _ _ _ _ _ _ _ _ _ HS _ (Hd ?_)
 intro Z Y hr hk hb hk0
 exact⟨none,0,0,rfl,hr,hk0,qO _ _ _ _⟩
theorem item_none (b g cap:Nat) (dv:Value) (ts:List Tok) (xb:Nat→Prop) (σ0:RS) (p0:Nat) (hp:p0=(tokL ts σ0.at_).at_) (ho:∀s ∈ ([[108,101,116],[100,101,114],[114,101,115,101,116],[109,101,109],[111,110],[109,111,100,101],[102,114,111,109],[111,117,116]]:List (List UInt8)),isS ts s σ0=false) (W:World) (h:Hid (Rd W b g cap dv ts xb σ0)) :
  Calls prog 73 #[.pointer (some ⟨b,0,none⟩),.bool true] W fun r Y=>ItRetG b g cap dv ts xb W { it0 with pos:=(p0:Int) } false σ0 r Y:=by
 have TF:Hid (∀(d:Array UInt8) W,d.toList ∈ ([[108,101,116],[100,101,114],[114,101,115,101,116],[109,101,109],[111,110],[109,111,100,101],[102,114,111,109],[111,117,116]]:List (List UInt8))→Hid (Rd W b g cap dv ts xb σ0)→Calls prog 36 #[.pointer (some ⟨b,0,none⟩),.string ⟨d⟩] W fun r Y=>RdRet b g cap dv ts xb W (.bool false) σ0 r Y):=Hd fun d W hd h=>by
  have:=took_false (b:=b) (g:=g) (cap:=cap) (dv:=dv) (xb:=xb) d.toList (ho _ hd) W h
  simpa [str] using this
 refine item_pre b g cap dv ts xb σ0 true W h _ (Hd ?_)
 intro V A _ _ _ _ _ _ _ _ _ _ _ _ _ _ _ _ _ _ _ _ _ _ _ _ _ _ _ _ _ _ _ _ _ _ _ _ _ _ _ _ _ _ _ _ _ _ _ _ _ _ _ _ _ _ _ _ _ _ _ _ _ _ _ _ _ _ _ _ _ _ _ _ _ _ _ _ _ _ _ _ _ _ _ _ _ _ _ _ _ _ _ _ _ _ _ _ _ _ _ _ _ _ _ _ _ _ _ _ _ _ _ _ _ _ _ _ _ _ _ _ _ _ _ _ _ _ _ _ _ _ _ _ _ _ _ _ _ _ _ _ _ _ _ _ _ _ _ _ _ _ _ _ _ _ _ _ _ _ _ _ _ _ _ _ _ _ _ _ _ _ _ _ _ _ _ _ _ _ _ _ _ _ _ _ _ _ HS0
 obtain⟨Q,hQ⟩:∃Q,Q=bodyPost prog Tryz.f73 (ItRetG b g cap dv ts xb W { it0 with pos:=(p0:Int) } false σ0):=⟨_,rfl⟩
 rw[←hQ]
 have HQ:=Hd hQ
 clear hQ
 simp only[sqhOf,sqh,headR,Tryz.f73]
 simp only[Option.some.injEq,Nat.reduceEqDiff,if_true,if_false]
 refine wp_seq_k fun K hK=>?_
 have HK:Hid (∀a w,(sqhOf Tryz.f73 59).wp prog Q a w→K a w):=Hd hK
 have HR:=Hd HS0.rd
 have HS:=Hd HS0
 have hbA:b<A:=by have:=HS0.hA;have:=HS0.hb;omega
 clear hK HS0
 rw[←hp] at HS
 clear ho hp
 go_wp2_with (go_at_call 36;(with_reducible refine Calls.mono (TF.out _ _ ?_ HR) ?_);(focus exact(by decide));(rintro e w1 ⟨rfl,hr,hk⟩);have HX:=HS;clear HR HS;have HS:=Hd (HX.out.call hr hk);have HR:=Hd hr;clear hr hk HX;obtain⟨⟨m0,m1,m2,m3,m4,m5,m6,m7,m8⟩,mf⟩:=rgCells HS.out.box;obtain⟨⟨n0,n1,n2,n3,n4,n5,n6,n7,n8⟩,nf⟩:=rgCells HS.out.zero;have f0:=nf 0;have f1:=nf 1;have f2:=nf 2;have f3:=nf 3;have f4:=nf 4;have f5:=nf 5;have f6:=nf 6;have f7:=nf 7;have f8:=nf 8;clear nf mf)
 obtain⟨Y,hY⟩:∃Y,Y=set9 w1 A (.int .i64 0) (.string ⟨#[]⟩) (.int .i64 0) (.int .i64 0) (.int .i64 0) (.slice none 0 0) (.string ⟨#[]⟩) (.string ⟨#[]⟩) (.int .i64 (p0:Int)):=⟨_,rfl⟩
 have hY2:=hY
 unfold set9 at hY2
 rw[←hY2]
 have HB:=Hd (show But A w1 Y by rw[hY];exact set9_but _ _ _ _ _ _ _ _ _ _ _)
 have HY:Hid (Y.heap[A]?=some (.cells #[.int .i64 0,.string ⟨#[]⟩,.int .i64 0,.int .i64 0,.int .i64 0,.slice none 0 0,.string ⟨#[]⟩,.string ⟨#[]⟩,.int .i64 (p0:Int)] 65 (0,0))):=Hd (by rw[hY];exact set9_box HS.out.zero _ _ _ _ _ _ _ _ _)
 clear hY hY2 n0 n1 n2 n3 n4 n5 n6 n7 n8 m0 m1 m2 m3 m4 m5 m6 m7 m8 f0 f1 f2 f3 f4 f5 f6 f7 f8
 obtain⟨⟨r0,r1,r2,r3,r4,r5,r6,r7,r8⟩,_⟩:=rgCells HY.out
 rw[HQ.out]
 refine bodyPost_ret (v:=.tuple #[.agg #[.int .i64 0,.string ⟨#[]⟩,.int .i64 0,.int .i64 0,.int .i64 0,.slice none 0 0,.string ⟨#[]⟩,.string ⟨#[]⟩,.int .i64 (p0:Int)],.bool false]) (by simp[results,Tryz.results73,go_sem,r0,r1,r2,r3,r4,r5,r6,r7,r8]) rfl ?_
 exact⟨none,0,0,rfl,HS.out.rd.but HS.out.zero (by decide) (by decide) hbA HB.out,HS.out.rk.but HS.out.hA hbA HS.out.hb HB.out,qO _ _ _ _⟩
theorem item_nonef (b g cap:Nat) (dv:Value) (ts:List Tok) (xb:Nat→Prop) (σ0:RS) (p0:Nat) (hp:p0=(tokL ts σ0.at_).at_) (ho:∀s ∈ ([[108,101,116]]:List (List UInt8)),isS ts s σ0=false) (W:World) (h:Hid (Rd W b g cap dv ts xb σ0)) :
  Calls prog 73 #[.pointer (some ⟨b,0,none⟩),.bool false] W fun r Y=>ItRetG b g cap dv ts xb W { it0 with pos:=(p0:Int) } false σ0 r Y:=by
 have TF:Hid (∀(d:Array UInt8) W,d.toList ∈ ([[108,101,116]]:List (List UInt8))→Hid (Rd W b g cap dv ts xb σ0)→Calls prog 36 #[.pointer (some ⟨b,0,none⟩),.string ⟨d⟩] W fun r Y=>RdRet b g cap dv ts xb W (.bool false) σ0 r Y):=Hd fun d W hd h=>by
  have:=took_false (b:=b) (g:=g) (cap:=cap) (dv:=dv) (xb:=xb) d.toList (ho _ hd) W h
  simpa [str] using this
 refine item_pre b g cap dv ts xb σ0 false W h _ (Hd ?_)
 intro V A _ _ _ _ _ _ _ _ _ _ _ _ _ _ _ _ _ _ _ _ _ _ _ _ _ _ _ _ _ _ _ _ _ _ _ _ _ _ _ _ _ _ _ _ _ _ _ _ _ _ _ _ _ _ _ _ _ _ _ _ _ _ _ _ _ _ _ _ _ _ _ _ _ _ _ _ _ _ _ _ _ _ _ _ _ _ _ _ _ _ _ _ _ _ _ _ _ _ _ _ _ _ _ _ _ _ _ _ _ _ _ _ _ _ _ _ _ _ _ _ _ _ _ _ _ _ _ _ _ _ _ _ _ _ _ _ _ _ _ _ _ _ _ _ _ _ _ _ _ _ _ _ _ _ _ _ _ _ _ _ _ _ _ _ _ _ _ _ _ _ _ _ _ _ _ _ _ _ _ _ _ _ _ _ _ _ HS0
 obtain⟨Q,hQ⟩:∃Q,Q=bodyPost prog Tryz.f73 (ItRetG b g cap dv ts xb W { it0 with pos:=(p0:Int) } false σ0):=⟨_,rfl⟩
 rw[←hQ]
 have HQ:=Hd hQ
 clear hQ
 simp only[sqhOf,sqh,headR,Tryz.f73]
 simp only[Option.some.injEq,Nat.reduceEqDiff,if_true,if_false]
 refine wp_seq_k fun K hK=>?_
 have HK:Hid (∀a w,(sqhOf Tryz.f73 59).wp prog Q a w→K a w):=Hd hK
 have HR:=Hd HS0.rd
 have HS:=Hd HS0
 have hbA:b<A:=by have:=HS0.hA;have:=HS0.hb;omega
 clear hK HS0
 rw[←hp] at HS
 clear ho hp
 go_wp2_with (go_at_call 36;(with_reducible refine Calls.mono (TF.out _ _ ?_ HR) ?_);(focus exact(by decide));(rintro e w1 ⟨rfl,hr,hk⟩);have HX:=HS;clear HR HS;have HS:=Hd (HX.out.call hr hk);have HR:=Hd hr;clear hr hk HX;obtain⟨⟨m0,m1,m2,m3,m4,m5,m6,m7,m8⟩,mf⟩:=rgCells HS.out.box;obtain⟨⟨n0,n1,n2,n3,n4,n5,n6,n7,n8⟩,nf⟩:=rgCells HS.out.zero;have f0:=nf 0;have f1:=nf 1;have f2:=nf 2;have f3:=nf 3;have f4:=nf 4;have f5:=nf 5;have f6:=nf 6;have f7:=nf 7;have f8:=nf 8;clear nf mf)
 obtain⟨Y,hY⟩:∃Y,Y=set9 w1 A (.int .i64 0) (.string ⟨#[]⟩) (.int .i64 0) (.int .i64 0) (.int .i64 0) (.slice none 0 0) (.string ⟨#[]⟩) (.string ⟨#[]⟩) (.int .i64 (p0:Int)):=⟨_,rfl⟩
 have hY2:=hY
 unfold set9 at hY2
 rw[←hY2]
 have HB:=Hd (show But A w1 Y by rw[hY];exact set9_but _ _ _ _ _ _ _ _ _ _ _)
 have HY:Hid (Y.heap[A]?=some (.cells #[.int .i64 0,.string ⟨#[]⟩,.int .i64 0,.int .i64 0,.int .i64 0,.slice none 0 0,.string ⟨#[]⟩,.string ⟨#[]⟩,.int .i64 (p0:Int)] 65 (0,0))):=Hd (by rw[hY];exact set9_box HS.out.zero _ _ _ _ _ _ _ _ _)
 clear hY hY2 n0 n1 n2 n3 n4 n5 n6 n7 n8 m0 m1 m2 m3 m4 m5 m6 m7 m8 f0 f1 f2 f3 f4 f5 f6 f7 f8
 obtain⟨⟨r0,r1,r2,r3,r4,r5,r6,r7,r8⟩,_⟩:=rgCells HY.out
 rw[HQ.out]
 refine bodyPost_ret (v:=.tuple #[.agg #[.int .i64 0,.string ⟨#[]⟩,.int .i64 0,.int .i64 0,.int .i64 0,.slice none 0 0,.string ⟨#[]⟩,.string ⟨#[]⟩,.int .i64 (p0:Int)],.bool false]) (by simp[results,Tryz.results73,go_sem,r0,r1,r2,r3,r4,r5,r6,r7,r8]) rfl ?_
 exact⟨none,0,0,rfl,HS.out.rd.but HS.out.zero (by decide) (by decide) hbA HB.out,HS.out.rk.but HS.out.hA hbA HS.out.hb HB.out,qO _ _ _ _⟩
def MdI (W:World) (b g cap:Nat) (dv:Value) (ts:List Tok) (xb:Nat→Prop) (f:Nat) (st:List ByteArray) (σ5:RS) (nm:ByteArray) (pp:Int) (n:Nat) (x:World×Nat):Prop :=
 ∃(acc:List ByteArray) (τ:RS) (so:Option Addr) (sc:Nat),n≤f∧statesL ts n acc τ=some (st,σ5)∧IB W x.1 b g cap dv ts xb τ x.2 #[.int .i64 6,.string nm,.int .i64 0,.int .i64 0,.int .i64 0,.slice so acc.length sc,.string ⟨#[]⟩,.string ⟨#[]⟩,.int .i64 pp]∧x.1.ownsRow W.heap.size 9 1 (.slice so acc.length sc) acc.length (acc.map .string)
theorem statesL_cases {ts:List Tok} {n:Nat} {acc:List ByteArray} {σ:RS} {R:List ByteArray×RS} (h:statesL ts n acc σ=some R):∃k,n=k+1∧acc.length≤40000 ∧
  ((isS ts [44] σ=true∧statesL ts k (acc++[str (nameV ts (stepS σ))]) (nameS ts (stepS σ))=some R)∨(isS ts [44] σ=false∧R=(acc,σ))):=by
 cases n with
 | zero=>cases h
 | succ k =>
  simp only[statesL] at h
  split at h
  ·rename_i hl
   refine⟨k,rfl,hl,?_⟩
   cases hi:isS ts [44] σ with
   | true=>rw[hi] at h;exact .inl ⟨rfl,by simpa using h⟩
   | false=>rw[hi] at h;exact .inr ⟨rfl,by simpa using h.symm⟩
  ·cases h
theorem item_mode (b g cap:Nat) (dv:Value) (ts:List Tok) (xb:Nat→Prop) (f:Nat) (st:List ByteArray) (σ0 σ1 σ2 σ3 σ4 σ5 σ6 τ:RS) (p0:Nat) (hp:p0=(tokL ts σ0.at_).at_) (v0:List UInt8) (ht:isS ts [109,111,100,101] σ0=true) (h1:σ1=stepS σ0) (g0:v0=nameV ts σ1) (h2:σ2=nameS ts σ1) (h3:σ3=wantS ts [123] σ2) (v2:List UInt8) (g2:v2=nameV ts σ3) (h4:σ4=nameS ts σ3) (hl:statesL ts f [str v2] σ4=some (st,σ5)) (h6:σ6=wantS ts [125] σ5) (hτ:τ=wantS ts [59] σ6) (W:World) (h:Hid (Rd W b g cap dv ts xb σ0)) :
  Calls prog 73 #[.pointer (some ⟨b,0,none⟩),.bool true] W fun r Y=>ItRetG b g cap dv ts xb W { it0 with kind:=6,name:=str v0,states:=st,pos:=(p0:Int) } (decide (τ.code=0)) τ r Y:=by
 have TF:Hid (∀(d:Array UInt8) W,d.toList≠[109,111,100,101]→Hid (Rd W b g cap dv ts xb σ0)→Calls prog 36 #[.pointer (some ⟨b,0,none⟩),.string ⟨d⟩] W fun r Y=>RdRet b g cap dv ts xb W (.bool false) σ0 r Y):=Hd fun d W hd h=>by
  have:=took_false (b:=b) (g:=g) (cap:=cap) (dv:=dv) (xb:=xb) d.toList (isS_one ht (Ne.symm hd)) W h
  simpa [str] using this
 have TT:Hid (∀W,Hid (Rd W b g cap dv ts xb σ0)→Calls prog 36 #[.pointer (some ⟨b,0,none⟩),.string ⟨#[109,111,100,101]⟩] W fun r Y=>RdRet b g cap dv ts xb W (.bool true) σ1 r Y):=Hd fun W h=>by rw[h1];exact took_true [109,111,100,101] ht W h
 have C0:Hid (∀W,Hid (Rd W b g cap dv ts xb σ1)→Calls prog 41 #[.pointer (some ⟨b,0,none⟩)] W fun r Y=>RdRet b g cap dv ts xb W (.string (str v0)) σ2 r Y):=Hd fun W h=>by rw[g0,h2];exact name_any b g cap dv ts xb σ1 W h
 have C1:Hid (∀W,Hid (Rd W b g cap dv ts xb σ2)→Calls prog 37 #[.pointer (some ⟨b,0,none⟩),.string ⟨#[123]⟩] W fun r Y=>RdRet b g cap dv ts xb W (.tuple #[]) σ3 r Y):=Hd fun W h=>by rw[h3];exact want_any b g cap dv ts xb σ2 [123] W h
 have HT:=Hd hτ
 have CE:Hid (∀W,Hid (Rd W b g cap dv ts xb σ5)→Calls prog 37 #[.pointer (some ⟨b,0,none⟩),.string ⟨#[125]⟩] W fun r Y=>RdRet b g cap dv ts xb W (.tuple #[]) σ6 r Y):=Hd fun W h=>by rw[h6];exact want_any b g cap dv ts xb σ5 [125] W h
 obtain⟨m,hm⟩:=least_of (MdI W b g cap dv ts xb f st σ5 (str v0) (p0:Int))
 have HM:=Hd hm
 have HL:=Hd hl
 have HG2:=Hd g2
 have HH4:=Hd h4
 clear hm
 refine item_pre b g cap dv ts xb σ0 true W h _ (Hd ?_)
 intro V A _ _ _ _ _ _ _ _ _ _ _ _ _ _ _ _ _ _ _ _ _ _ _ _ _ _ _ _ _ _ _ _ _ _ _ _ _ _ _ _ _ _ _ _ _ _ _ _ _ _ _ _ _ _ _ _ _ _ _ _ _ _ _ _ _ _ _ _ _ _ _ _ _ _ _ _ _ _ _ _ _ _ _ _ _ _ _ _ _ _ _ _ _ _ _ _ _ _ _ _ _ _ _ _ _ _ _ _ _ _ _ _ _ _ _ _ _ _ _ _ _ _ _ _ _ _ _ _ _ _ _ _ _ _ _ _ _ _ _ _ _ _ _ _ _ _ _ _ _ _ _ _ _ _ _ _ _ _ _ _ _ _ _ _ _ _ _ _ _ _ _ _ _ _ _ _ _ _ _ _ _ _ _ _ _ _ HS0
 obtain⟨Q,hQ⟩:∃Q,Q=bodyPost prog Tryz.f73 (ItRetG b g cap dv ts xb W { it0 with kind:=6,name:=str v0,states:=st,pos:=(p0:Int) } (decide (τ.code=0)) τ):=⟨_,rfl⟩
 rw[←hQ]
 have HQ:=Hd hQ
 clear hQ
 simp only[sqhOf,sqh,headR,Tryz.f73]
 simp only[Option.some.injEq,Nat.reduceEqDiff,if_true,if_false]
 refine wp_seq_k fun K hK=>?_
 have HK:Hid (∀a w,(sqhOf Tryz.f73 59).wp prog Q a w→K a w):=Hd hK
 have HR:=Hd HS0.rd
 have HS:=Hd HS0
 have hbA:b<A:=by have:=HS0.hA;have:=HS0.hb;omega
 clear hK HS0
 rw[←hp] at HS
 clear g2 h4 hl h6 ht h1 h2 h3 g0 hτ hp
 go_wp2_with (first
  | (go_at_call 36;(with_reducible refine Calls.mono (TF.out _ _ ?_ HR) ?_);(focus exact(by decide));(rintro e w1 ⟨rfl,hr,hk⟩);have HX:=HS;clear HR HS;have HS:=Hd (HX.out.call hr hk);have HR:=Hd hr;clear hr hk HX)
  | (go_at_call 36;(with_reducible refine Calls.mono (TT.out _ HR) ?_);(rintro e w2 ⟨rfl,hr,hk⟩);have HX:=HS;clear HR HS;have HS:=Hd (HX.out.call hr hk);clear hr hk HX;obtain⟨⟨x0,x1,x2,x3,x4,x5,x6,x7,x8⟩,xf⟩:=rgCells HS.out.box;have f0:=xf 0;clear xf))
 obtain⟨u0,hw⟩:∃w',w'=w2.setCell ⟨A+1,0,none⟩ (.int .i64 6):=⟨_,rfl⟩
 have HX:=HS
 clear HS
 have HS:Hid (IB W u0 b g cap dv ts xb σ1 A #[.int .i64 6,.string ⟨#[]⟩,.int .i64 0,.int .i64 0,.int .i64 0,.slice none 0 0,.string ⟨#[]⟩,.string ⟨#[]⟩,.int .i64 (p0:Int)]):=Hd (by rw[hw];exact HX.out.set 0 _ rfl)
 rw[←hw]
 clear hw HX x0 x1 x2 x3 x4 x5 x6 x7 x8 f0
 have HR:=Hd HS.out.rd
 refine(C0.out u0 HR).mono ?_
 rintro e z0 ⟨rfl,hr,hk⟩
 dsimp only
 have HX:=HS
 clear HS HR
 have HS:=Hd (HX.out.call hr hk)
 clear hr hk HX
 obtain⟨⟨x0,x1,x2,x3,x4,x5,x6,x7,x8⟩,xf⟩:=rgCells HS.out.box;have f0:=xf 1;clear xf
 go_wp2_with fail
 obtain⟨u1,hw⟩:∃w',w'=z0.setCell ⟨A+1,1,none⟩ (.string (str v0)):=⟨_,rfl⟩
 have HX:=HS
 clear HS
 have HS:Hid (IB W u1 b g cap dv ts xb σ2 A #[.int .i64 6,.string (str v0),.int .i64 0,.int .i64 0,.int .i64 0,.slice none 0 0,.string ⟨#[]⟩,.string ⟨#[]⟩,.int .i64 (p0:Int)]):=Hd (by rw[hw];exact HX.out.set 1 _ rfl)
 rw[←hw]
 clear hw HX x0 x1 x2 x3 x4 x5 x6 x7 x8 f0
 have HR:=Hd HS.out.rd
 refine(C1.out u1 HR).mono ?_
 rintro e z1 ⟨rfl,hr,hk⟩
 dsimp only
 have HX:=HS
 clear HS HR
 have HS:=Hd (HX.out.call hr hk)
 clear hr hk HX
 go_wp2_with fail
 rename_i K43 hK43
 refine mode43 b g cap dv ts xb σ3 σ4 v2 HG2 HH4 W z1 A (str v0) (p0:Int) none 0 0 [] (by omega) HS (Hd (qO _ _ _ _)) _ (Hd ?_)
 intros
 rename_i Y so' sc' hib hrow
 have HI0:Hid (∃n,MdI W b g cap dv ts xb f st σ5 (str v0) (p0:Int) n (Y,A)):=Hd ⟨f,[str v2],σ4,so',sc',qL _,HL.out,hib,hrow⟩
 clear hib hrow HS
 dsimp only
 refine hK43 _ _ ?_
 clear hK43
 go_wp2_with fail
 go_loopw [] (fun wr=>Hid (∃n,MdI W b g cap dv ts xb f st σ5 (str v0) (p0:Int) n (wr,A))) (fun wr=>m (wr,A))
 case atStart=>exact HI0
 case round =>
  obtain⟨hm1,hm2⟩:=HM.out _ hrel.out
  obtain⟨acc,τ',so2,sc2,hnf,hrun,hib,hrow⟩:=hm1
  obtain⟨nn,hmn⟩:∃nn,nn=m (wr,A):=⟨_,rfl⟩
  rw[←hmn] at hnf hrun
  have HMN:=Hd hmn
  obtain⟨k,rfl,hacc,hcase⟩:=statesL_cases hrun
  have HIB:=Hd hib
  have HOW:=Hd hrow
  have HR:=Hd hib.rd
  have HNF:=Hd hnf
  clear hrun hmn hm2 hrel hib hrow hnf HI0
  rcases hcase with ⟨hi,hrun2⟩ | ⟨hi,he⟩
  ·have TC:Hid (Calls prog 36 #[.pointer (some ⟨b,0,none⟩),.string ⟨#[44]⟩] wr fun r Y=>RdRet b g cap dv ts xb wr (.bool true) (stepS τ') r Y):=Hd (took_true [44] hi wr HR)
   have HRUN:=Hd hrun2
   clear hi hrun2
   go_wp2_with (go_at_call 36;(with_reducible refine TC.out.mono ?_);rintro e w1 ⟨rfl,hr,hk⟩;have HS1:=Hd (HIB.out.call hr hk);have HO1:=Hd (own_keepT HOW.out (by decide) HIB.out.hb hk);clear hr hk)
   refine mode45 b g cap dv ts xb (stepS τ') (nameS ts (stepS τ')) (nameV ts (stepS τ')) (Hd rfl) (Hd rfl) W w1 A (str v0) (p0:Int) so2 acc.length sc2 (acc.map .string) hacc HS1 HO1 _ (Hd ?_)
   intros
   rename_i Y2 so3 sc3 hib3 hrow3
   have HI:MdI W b g cap dv ts xb f st σ5 (str v0) (p0:Int) k (Y2,A):=⟨acc++[str (nameV ts (stepS τ'))],nameS ts (stepS τ'),so3,sc3,by have:=HNF.out;omega,HRUN.out,by rw[List.length_append,List.length_singleton];exact hib3,by rw[List.length_append,List.length_singleton,List.map_append];exact hrow3⟩
   have HI2:=Hd HI
   clear hib3 hrow3 HI
   dsimp only
   go_wp2_with fail
   exact⟨Hd ⟨k,HI2.out⟩,by have h5:=(HM.out _ ⟨k,HI2.out⟩).2 k HI2.out;have h6:=HMN.out;omega⟩
  ·have TC:Hid (Calls prog 36 #[.pointer (some ⟨b,0,none⟩),.string ⟨#[44]⟩] wr fun r Y=>RdRet b g cap dv ts xb wr (.bool false) τ' r Y):=Hd (took_false [44] hi wr HR)
   obtain⟨rfl,rfl⟩:st=acc∧σ5=τ':=by cases he;exact⟨rfl,rfl⟩
   clear hi he
   go_wp2_with (first
    | (go_at_call 36;(with_reducible refine TC.out.mono ?_);rintro e w1 ⟨rfl,hr,hk⟩;have HS1:=Hd (HIB.out.call hr hk);have HO1:=Hd (own_keepT HOW.out (by decide) HIB.out.hb hk);have HR1:=Hd hr;clear hr hk)
    | (go_at_call 37;(with_reducible refine(CE.out w1 HR1).mono ?_);rintro e w2 ⟨rfl,hr,hk⟩;have HS2:=Hd (HS1.out.call hr hk);have HO2:=Hd (own_keepT HO1.out (by decide) HIB.out.hb hk);clear hr hk))
   refine HK.out _ _ ?_
   rw[HQ.out]
   refine item_end b g cap dv ts xb σ6 τ HT W w2 A _ _ _ _ _ _ _ _ _ _ _ _ HS2 _ (Hd ?_)
   intro Z Y hr hk hb hk0
   refine⟨so2,_,sc2,rfl,hr,hk0,?_⟩
   have h1:=own_keepT HO2.out (by decide) HIB.out.hb hk
   exact rd_own_same h1 fun j e=>hb.block j (by
    rintro rfl
    obtain⟨_,cs,hc⟩:=own_type h1 e
    have hz:=hk.keep _ _ HS2.out.zero (by have:=HS2.out.hA;have:=HS2.out.hb;omega) (.of (by decide))
    rw[hz] at hc;cases hc) (h1.lt j e).2
def exprS (ts:List Tok) (f:Nat) (σ:RS):Option (Int×RS):=(runE ts f .expr σ).map fun r=>(r.1,r.2.2)
theorem exprS_bind {α:Type} {ts:List Tok} {f:Nat} {σ:RS} {k:Int×RS→Option α} {R:α} (h:(exprS ts f σ).bind k=some R):∃v l τ,runE ts f .expr σ=some (v,l,τ)∧k (v,τ)=some R:=by
 unfold exprS at h
 cases hr:runE ts f .expr σ with
 | none=>rw[hr] at h;cases h
 | some r=>obtain⟨v,l,τ⟩:=r;rw[hr] at h;exact⟨v,l,τ,rfl,h⟩
def itemF (ts:List Tok) (i:It) (σ:RS):It×Bool×RS:=(i,decide ((wantS ts [59] σ).code=0),wantS ts [59] σ)
def iLet (ts:List Tok) (f:Nat) (σ:RS):Option (It×Bool×RS):=(exprS ts f (wantS ts [61] (kindS ts (wantS ts [58] (nameS ts (stepS σ)))))).bind fun e1=>some (itemF ts { it0 with kind:=1,name:=str (nameV ts (stepS σ)),type:=kindV ts (wantS ts [58] (nameS ts (stepS σ))),e:=e1.1,pos:=((tokL ts σ.at_).at_:Int) } e1.2)
def iDer (ts:List Tok) (f:Nat) (σ:RS):Option (It×Bool×RS):=(exprS ts f (wantS ts [61] (nameS ts (stepS σ)))).bind fun e1=>(exprS ts f (wantS ts [105,110,105,116] e1.2)).bind fun e2=>some (itemF ts { it0 with kind:=2,name:=str (nameV ts (stepS σ)),e:=e1.1,f:=e2.1,pos:=((tokL ts σ.at_).at_:Int) } e2.2)
def iReset (ts:List Tok) (f:Nat) (σ:RS):Option (It×Bool×RS):=(exprS ts f (wantS ts [111,110] (nameS ts (stepS σ)))).bind fun e1=>(exprS ts f (wantS ts [61] e1.2)).bind fun e2=>some (itemF ts { it0 with kind:=3,name:=str (nameV ts (stepS σ)),e:=e2.1,f:=e1.1,pos:=((tokL ts σ.at_).at_:Int) } e2.2)
def iMem (ts:List Tok) (f:Nat) (σ:RS):Option (It×Bool×RS):=(exprS ts f (wantS ts [105,110,105,116] (kindS ts (wantS ts [58] (nameS ts (stepS σ)))))).bind fun e1=>some (itemF ts { it0 with kind:=4,name:=str (nameV ts (stepS σ)),type:=kindV ts (wantS ts [58] (nameS ts (stepS σ))),e:=e1.1,pos:=((tokL ts σ.at_).at_:Int) } e1.2)
def iOn (ts:List Tok) (f:Nat) (σ:RS):Option (It×Bool×RS):=(exprS ts f (stepS σ)).bind fun e1=>(exprS ts f (wantS ts [61] (nameS ts (wantS ts [115,101,116] e1.2)))).bind fun e2=>some (itemF ts { it0 with kind:=5,name:=str (nameV ts (wantS ts [115,101,116] e1.2)),e:=e2.1,f:=e1.1,pos:=((tokL ts σ.at_).at_:Int) } e2.2)
def iMode (ts:List Tok) (f:Nat) (σ:RS):Option (It×Bool×RS):=(statesL ts f [str (nameV ts (wantS ts [123] (nameS ts (stepS σ))))] (nameS ts (wantS ts [123] (nameS ts (stepS σ))))).bind fun r=>some (itemF ts { it0 with kind:=6,name:=str (nameV ts (stepS σ)),states:=r.1,pos:=((tokL ts σ.at_).at_:Int) } (wantS ts [125] r.2))
def iFrom (ts:List Tok) (f:Nat) (σ:RS):Option (It×Bool×RS):=(exprS ts f (wantS ts [111,110] (nameS ts (wantS ts [46] (nameS ts (stepS σ)))))).bind fun e1=>some (itemF ts { it0 with kind:=7,name:=str (nameV ts (stepS σ)),f:=e1.1,state:=str (nameV ts (wantS ts [46] (nameS ts (stepS σ)))),next:=str (nameV ts (wantS ts [103,111,116,111] e1.2)),pos:=((tokL ts σ.at_).at_:Int) } (nameS ts (wantS ts [103,111,116,111] e1.2)))
def iOut (ts:List Tok) (f:Nat) (σ:RS):Option (It×Bool×RS):=some (itemF ts { it0 with kind:=8,name:=str (nameV ts (stepS σ)),pos:=((tokL ts σ.at_).at_:Int) } (nameS ts (stepS σ)))
def itemS (ts:List Tok) (f:Nat) (all:Bool) (σ:RS):Option (It×Bool×RS) :=
 if isS ts [108,101,116] σ=true then iLet ts f σ else
 if all=true then
  if isS ts [100,101,114] σ=true then iDer ts f σ else
  if isS ts [114,101,115,101,116] σ=true then iReset ts f σ else
  if isS ts [109,101,109] σ=true then iMem ts f σ else
  if isS ts [111,110] σ=true then iOn ts f σ else
  if isS ts [109,111,100,101] σ=true then iMode ts f σ else
  if isS ts [102,114,111,109] σ=true then iFrom ts f σ else
  if isS ts [111,117,116] σ=true then iOut ts f σ else
  some ({ it0 with pos:=((tokL ts σ.at_).at_:Int) },false,σ)
 else some ({ it0 with pos:=((tokL ts σ.at_).at_:Int) },false,σ)
theorem item_any (b g cap:Nat) (dv:Value) (ts:List Tok) (xb:Nat→Prop) (f:Nat) (all:Bool) (σ:RS) (x:It) (ok:Bool) (τ:RS) (hr:itemS ts f all σ=some (x,ok,τ)) (W:World) (h:Hid (Rd W b g cap dv ts xb σ)) :
  Calls prog 73 #[.pointer (some ⟨b,0,none⟩),.bool all] W fun r Y=>ItRetG b g cap dv ts xb W x ok τ r Y:=by
 unfold itemS at hr
 split at hr
 ·rename_i ht
  unfold iLet at hr
  obtain⟨v4,l4,τ4,g4,hr⟩:=exprS_bind hr
  cases hr
  exact item_let (f:=f) (all:=all) (hp:=rfl) (ht:=ht) (h1:=rfl) (g0:=rfl) (h2:=rfl) (h3:=rfl) (g2:=rfl) (h4:=rfl) (h5:=rfl) (g4:=g4) (hτ:=rfl) (W:=W) (h:=h)
 ·rename_i h0
  split at hr
  ·rename_i ha
   subst ha
   split at hr
   ·rename_i ht
    unfold iDer at hr
    obtain⟨v2,l2,τ2,g2,hr⟩:=exprS_bind hr
    obtain⟨v4,l4,τ4,g4,hr⟩:=exprS_bind hr
    cases hr
    exact item_der (f:=f) (hp:=rfl) (ht:=ht) (h1:=rfl) (g0:=rfl) (h2:=rfl) (h3:=rfl) (g2:=g2) (h5:=rfl) (g4:=g4) (hτ:=rfl) (W:=W) (h:=h)
   ·rename_i h1
    split at hr
    ·rename_i ht
     unfold iReset at hr
     obtain⟨v2,l2,τ2,g2,hr⟩:=exprS_bind hr
     obtain⟨v4,l4,τ4,g4,hr⟩:=exprS_bind hr
     cases hr
     exact item_reset (f:=f) (hp:=rfl) (ht:=ht) (h1:=rfl) (g0:=rfl) (h2:=rfl) (h3:=rfl) (g2:=g2) (h5:=rfl) (g4:=g4) (hτ:=rfl) (W:=W) (h:=h)
    ·rename_i h2
     split at hr
     ·rename_i ht
      unfold iMem at hr
      obtain⟨v4,l4,τ4,g4,hr⟩:=exprS_bind hr
      cases hr
      exact item_mem (f:=f) (hp:=rfl) (ht:=ht) (h1:=rfl) (g0:=rfl) (h2:=rfl) (h3:=rfl) (g2:=rfl) (h4:=rfl) (h5:=rfl) (g4:=g4) (hτ:=rfl) (W:=W) (h:=h)
     ·rename_i h3
      split at hr
      ·rename_i ht
       unfold iOn at hr
       obtain⟨v0,l0,τ0,g0,hr⟩:=exprS_bind hr
       obtain⟨v4,l4,τ4,g4,hr⟩:=exprS_bind hr
       cases hr
       exact item_on (f:=f) (hp:=rfl) (ht:=ht) (h1:=rfl) (g0:=g0) (h3:=rfl) (g2:=rfl) (h4:=rfl) (h5:=rfl) (g4:=g4) (hτ:=rfl) (W:=W) (h:=h)
      ·rename_i h4
       split at hr
       ·rename_i ht
        unfold iMode at hr
        cases hl:statesL ts f [str (nameV ts (wantS ts [123] (nameS ts (stepS σ))))] (nameS ts (wantS ts [123] (nameS ts (stepS σ)))) with
        | none=>rw[hl] at hr;cases hr
        | some r =>
         obtain⟨st,σ5⟩:=r
         rw[hl] at hr
         cases hr
         exact item_mode (f:=f) (hp:=rfl) (ht:=ht) (h1:=rfl) (g0:=rfl) (h2:=rfl) (h3:=rfl) (g2:=rfl) (h4:=rfl) (hl:=hl) (h6:=rfl) (hτ:=rfl) (W:=W) (h:=h)
       ·rename_i h5
        split at hr
        ·rename_i ht
         unfold iFrom at hr
         obtain⟨v4,l4,τ4,g4,hr⟩:=exprS_bind hr
         cases hr
         exact item_from (f:=f) (hp:=rfl) (ht:=ht) (h1:=rfl) (g0:=rfl) (h2:=rfl) (h3:=rfl) (g2:=rfl) (h4:=rfl) (h5:=rfl) (g4:=g4) (h7:=rfl) (g6:=rfl) (h8:=rfl) (hτ:=rfl) (W:=W) (h:=h)
        ·rename_i h6
         split at hr
         ·rename_i ht
          unfold iOut at hr
          cases hr
          exact item_out (hp:=rfl) (ht:=ht) (h1:=rfl) (g0:=rfl) (h2:=rfl) (hτ:=rfl) (W:=W) (h:=h)
         ·rename_i h7
          cases hr
          exact item_none b g cap dv ts xb _ _ rfl (fun s hs=>by simp only[List.mem_cons,List.not_mem_nil,or_false] at hs;rcases hs with rfl | rfl | rfl | rfl | rfl | rfl | rfl | rfl <;> exact Bool.eq_false_iff.2 (by assumption)) W h
  ·rename_i ha
   have ha2:all=false:=by simpa using ha
   subst ha2
   cases hr
   exact item_nonef b g cap dv ts xb _ _ rfl (fun s hs=>by simp only[List.mem_cons,List.not_mem_nil,or_false] at hs;subst hs;simpa using h0) W h
end Go.Proofs.YtlbhlncipajapaaGreatDoor
