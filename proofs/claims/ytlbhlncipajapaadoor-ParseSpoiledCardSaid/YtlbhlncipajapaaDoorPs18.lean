import Derived.Test.YtlbhlncipajapaaDoorPs17
set_option maxHeartbeats 16000000
set_option maxRecDepth 100000
set_option linter.unusedVariables false
open Go.Proofs.Tryd(prog)
namespace Go.Proofs.YtlbhlncipajapaaDoor
open Go.RowKit Lx
def mT (g:Nat→Nat) (t:Tok):Tok:={ t with at_:=g t.at_ }
def mI (g:Nat→Nat) (z:Int):Int:=(g z.toNat:Int)
def mX (g:Nat→Nat) (x:Ex):Ex:={ x with pos:=mI g x.pos }
def mS (g:Nat→Nat) (σ:RS):RS:={ σ with exprs:=σ.exprs.map (mX g),pos:=mI g σ.pos }
def mA (g:Nat→Nat) (r:Int×List Int×RS):Int×List Int×RS:=(r.1,r.2.1,mS g r.2.2)
def mIt (g:Nat→Nat) (x:It):It:={ x with pos:=mI g x.pos }
def mDe (g:Nat→Nat) (x:De):De:={ x with items:=x.items.map (mIt g),pos:=mI g x.pos }
theorem mI_nat (g:Nat→Nat) (n:Nat):mI g (n:Int)=(g n:Int):=by simp[mI]
theorem tokL_m {g:Nat→Nat} (h0:g 0=0) (ts:List Tok) (i:Nat):tokL (ts.map (mT g)) i=mT g (tokL ts i):=by
 unfold tokL
 rw[List.getD_eq_getElem?_getD,List.getD_eq_getElem?_getD,List.getElem?_map]
 cases ts[i]? with
 | none=>simp[mT,h0]
 | some t=>rfl
section
variable {g:Nat→Nat} (h0:g 0=0) (ts:List Tok)
include h0
theorem isS_m (s:List UInt8) (σ:RS):isS (ts.map (mT g)) s (mS g σ)=isS ts s σ:=by
 unfold isS;rw[show(mS g σ).at_=σ.at_ from rfl,tokL_m h0];rfl
theorem failS_m (e:Int) (σ:RS):failS (ts.map (mT g)) e (mS g σ)=mS g (failS ts e σ):=by
 unfold failS
 by_cases h:σ.code=0
 ·rw[if_pos h,if_pos (show(mS g σ).code=0 from h),show(mS g σ).at_=σ.at_ from rfl,tokL_m h0]
  simp[mS,mT,mI]
 ·rw[if_neg h,if_neg (show ¬(mS g σ).code=0 from h)]
omit h0 in
theorem stepS_m (σ:RS):stepS (mS g σ)=mS g (stepS σ):=rfl
omit h0 in
theorem leaveS_m (σ:RS):leaveS (mS g σ)=mS g (leaveS σ):=rfl
theorem wantS_m (s:List UInt8) (σ:RS):wantS (ts.map (mT g)) s (mS g σ)=mS g (wantS ts s σ):=by
 unfold wantS;rw[isS_m h0,failS_m h0,stepS_m];split <;> rfl
theorem nameB_m (σ:RS):nameB (ts.map (mT g)) (mS g σ)=nameB ts σ:=by
 unfold nameB;rw[show(mS g σ).at_=σ.at_ from rfl,tokL_m h0];rfl
theorem nameS_m (σ:RS):nameS (ts.map (mT g)) (mS g σ)=mS g (nameS ts σ):=by
 unfold nameS;rw[nameB_m h0,failS_m h0,stepS_m];split <;> rfl
theorem nameV_m (σ:RS):nameV (ts.map (mT g)) (mS g σ)=nameV ts σ:=by
 unfold nameV;rw[nameB_m h0,show(mS g σ).at_=σ.at_ from rfl,tokL_m h0];rfl
omit h0 in
theorem putS_m (x:Ex) (σ:RS):putS (mX g x) (mS g σ)=mS g (putS x σ):=by simp[putS,mS]
omit h0 in
theorem okS_m (σ:RS):okS (mS g σ)=okS σ:=by unfold okS;rw[show(mS g σ).exprs.length=σ.exprs.length by simp[mS]];rfl
omit h0 in
theorem code_m (σ:RS):(mS g σ).code=σ.code:=rfl
omit h0 in
theorem at_m (σ:RS):(mS g σ).at_=σ.at_:=rfl
omit h0 in
theorem room_m (σ:RS):(mS g σ).exprs.length=σ.exprs.length:=by simp[mS]
theorem levelS_m (σ:RS):levelS (ts.map (mT g)) (mS g σ)=levelS ts σ:=by
 unfold levelS levelIn
 have e:(fun p:List UInt8×Int×Int=>isS (ts.map (mT g)) p.1 (mS g σ))=fun p=>isS ts p.1 σ:=funext fun p=>isS_m h0 ts _ _
 rw[e]
theorem prefixK_m (σ:RS) (l:List (List UInt8×Int)):prefixK (ts.map (mT g)) (mS g σ) l=prefixK ts σ l:=by
 unfold prefixK
 have e:(fun p:List UInt8×Int=>isS (ts.map (mT g)) p.1 (mS g σ))=fun p=>isS ts p.1 σ:=funext fun p=>isS_m h0 ts _ _
 rw[e]
theorem enterS_m (σ:RS):enterS (ts.map (mT g)) (mS g σ)=mS g (enterS ts σ):=by
 unfold enterS
 rw[show tooDeep (mS g σ)=tooDeep σ from rfl,failS_m h0]
 split <;> rfl
theorem kindV_m (σ:RS):kindV (ts.map (mT g)) (mS g σ)=kindV ts σ:=by unfold kindV;rw[isS_m h0]
theorem kindS_m (σ:RS):kindS (ts.map (mT g)) (mS g σ)=mS g (kindS ts σ):=by
 unfold kindS;rw[isS_m h0,wantS_m h0,stepS_m];split <;> rfl
theorem tokpos_m (i:Nat):((tokL (ts.map (mT g)) i).at_:Int)=mI g ((tokL ts i).at_:Int):=by rw[tokL_m h0,mI_nat];rfl
theorem tokkind_m (i:Nat):(tokL (ts.map (mT g)) i).kind=(tokL ts i).kind:=by rw[tokL_m h0];rfl
theorem toktext_m (i:Nat):(tokL (ts.map (mT g)) i).text=(tokL ts i).text:=by rw[tokL_m h0];rfl
theorem tokv_m (i:Nat):(tokL (ts.map (mT g)) i).v=(tokL ts i).v:=by rw[tokL_m h0];rfl
omit h0 in
theorem putA_m {x x':Ex} (hx:x'=mX g x) (σ:RS) {K K':Int→RS→Ans} (hK:∀n y,K' n (mS g y)=(K n y).map (mA g)):putA x' (mS g σ) K'=(putA x σ K).map (mA g):=by
 subst hx
 unfold putA
 rw[okS_m,room_m,putS_m]
 split
 ·exact hK _ _
 ·rfl
omit h0 in
theorem bind_m {α:Type} {m:α→α} {o o':Ans} (ho:o'=o.map (mA g)) {K K':Int×List Int×RS→Option α} (hK:∀r,K' (mA g r)=(K r).map m):o'.bind K'=(o.bind K).map m:=by
 subst ho
 cases o with
 | none=>rfl
 | some r=>exact hK r
theorem atomG_m {F F':Job→RS→Ans} (hF:∀j σ,F' j (mS g σ)=(F j σ).map (mA g)) (σ:RS):atomG (ts.map (mT g)) F' (mS g σ)=(atomG ts F σ).map (mA g):=by
 unfold atomG
 dsimp only
 simp only[at_m,tokkind_m h0,toktext_m h0,tokv_m h0,tokpos_m h0,stepS_m,isS_m h0,nameS_m h0,nameV_m h0,wantS_m h0,hF]
 repeat' split
 ·refine putA_m (g:=g) ?_ _ (fun n y=>?_) <;> rfl
 ·refine putA_m (g:=g) ?_ _ (fun n y=>?_) <;> rfl
 ·refine putA_m (g:=g) ?_ _ (fun n y=>?_) <;> rfl
 ·refine putA_m (g:=g) ?_ _ (fun n y=>?_) <;> rfl
 ·refine putA_m (g:=g) ?_ _ (fun n y=>?_) <;> rfl
 ·refine bind_m (g:=g) ?_ (fun r=>?_)
  ·rfl
  ·refine bind_m (g:=g) ?_ (fun q=>?_)
   ·exact hF _ _
   ·simp only[mA,wantS_m h0]
    refine putA_m (g:=g) ?_ _ (fun n y=>?_) <;> rfl
 ·refine putA_m (g:=g) ?_ _ (fun n y=>?_) <;> rfl
 ·refine bind_m (g:=g) ?_ (fun r=>?_)
  ·rfl
  ·simp only[mA,wantS_m h0];rfl
theorem preG_m {F F':Job→RS→Ans} (hF:∀j σ,F' j (mS g σ)=(F j σ).map (mA g)) (σ:RS):preG (ts.map (mT g)) F' (mS g σ)=(preG ts F σ).map (mA g):=by
 unfold preG
 dsimp only
 simp only[enterS_m h0,code_m,at_m,prefixK_m h0,tokpos_m h0,stepS_m,leaveS_m,hF]
 repeat' split
 ·refine bind_m (g:=g) ?_ (fun r=>?_)
  ·rfl
  ·simp only[mA,okS_m,leaveS_m]
   split <;> rfl
 ·refine bind_m (g:=g) ?_ (fun r=>?_)
  ·rfl
  ·simp only[mA]
   refine putA_m (g:=g) ?_ _ (fun n y=>?_)
   ·rfl
   ·simp only[leaveS_m];rfl
 ·rfl
theorem exprG_m {F F':Job→RS→Ans} (hF:∀j σ,F' j (mS g σ)=(F j σ).map (mA g)) (σ:RS):exprG (ts.map (mT g)) F' (mS g σ)=(exprG ts F σ).map (mA g):=by
 unfold exprG
 dsimp only
 simp only[enterS_m h0,code_m,at_m,isS_m h0,tokpos_m h0,stepS_m,leaveS_m,hF]
 repeat' split
 ·refine bind_m (g:=g) ?_ (fun r=>?_)
  ·rfl
  ·simp only[mA,wantS_m h0,hF]
   refine bind_m (g:=g) ?_ (fun q=>?_)
   ·rfl
   ·simp only[mA,wantS_m h0,hF]
    refine bind_m (g:=g) ?_ (fun u=>?_)
    ·rfl
    ·simp only[mA]
     refine putA_m (g:=g) ?_ _ (fun n y=>?_)
     ·rfl
     ·simp only[leaveS_m];rfl
 ·refine bind_m (g:=g) ?_ (fun o=>?_)
  ·rfl
  ·simp only[mA,at_m,isS_m h0,stepS_m,hF,okS_m,leaveS_m]
   repeat' split
   ·refine bind_m (g:=g) ?_ (fun r=>?_)
    ·rfl
    ·simp only[mA]
     refine putA_m (g:=g) ?_ _ (fun n y=>?_)
     ·rfl
     ·simp only[leaveS_m];rfl
   ·refine bind_m (g:=g) ?_ (fun r=>?_)
    ·rfl
    ·simp only[mA]
     refine putA_m (g:=g) ?_ _ (fun n y=>?_)
     ·rfl
     ·simp only[leaveS_m];rfl
   ·rfl
   ·rfl
 ·rfl
omit h0 in
theorem binG_m {F F':Job→RS→Ans} (hF:∀j σ,F' j (mS g σ)=(F j σ).map (mA g)) (least:Nat) (σ:RS):binG F' least (mS g σ)=(binG F least σ).map (mA g):=by
 unfold binG
 simp only[hF]
 split
 ·rfl
 ·refine bind_m (g:=g) ?_ (fun r=>?_)
  ·rfl
  ·exact hF _ _
theorem loopG_m {F F':Job→RS→Ans} (hF:∀j σ,F' j (mS g σ)=(F j σ).map (mA g)) (least:Nat) (a:Int) (σ:RS):loopG (ts.map (mT g)) F' least a (mS g σ)=(loopG ts F least a σ).map (mA g):=by
 unfold loopG
 simp only[code_m,levelS_m h0,at_m,tokpos_m h0,stepS_m,hF]
 repeat' split
 ·refine bind_m (g:=g) ?_ (fun r=>?_)
  ·rfl
  ·simp only[mA]
   refine putA_m (g:=g) ?_ _ (fun n y=>?_)
   ·rfl
   ·rfl
 ·refine bind_m (g:=g) ?_ (fun r=>?_)
  ·rfl
  ·simp only[mA]
   refine putA_m (g:=g) ?_ _ (fun n y=>?_)
   ·rfl
   ·exact hF _ _
 ·rfl
 ·rfl
theorem argsG_m {F F':Job→RS→Ans} (hF:∀j σ,F' j (mS g σ)=(F j σ).map (mA g)) (acc:List Int) (σ:RS):argsG (ts.map (mT g)) F' acc (mS g σ)=(argsG ts F acc σ).map (mA g):=by
 unfold argsG
 simp only[isS_m h0,stepS_m,hF]
 repeat' split
 ·refine bind_m (g:=g) ?_ (fun r=>?_)
  ·rfl
  ·exact hF _ _
 ·rfl
 ·rfl
theorem runE_m (f:Nat):∀(j:Job) (σ:RS),runE (ts.map (mT g)) f j (mS g σ)=(runE ts f j σ).map (mA g):=by
 induction f with
 | zero=>intro j σ;rfl
 | succ f ih =>
  intro j σ
  simp only[runE,okS_m]
  split
  ·cases j with
   | expr=>exact exprG_m h0 ts ih σ
   | pre=>exact preG_m h0 ts ih σ
   | atom=>exact atomG_m h0 ts ih σ
   | bin least=>exact binG_m ih least σ
   | loop least a=>exact loopG_m h0 ts ih least a σ
   | args acc=>exact argsG_m h0 ts ih acc σ
  ·rfl
theorem exprS_m (f:Nat) (σ:RS):exprS (ts.map (mT g)) f (mS g σ)=(exprS ts f σ).map fun r=>(r.1,mS g r.2):=by
 unfold exprS;rw[runE_m h0];cases runE ts f .expr σ <;> rfl
theorem parsL_m (n:Nat):∀(acc:List Pa) (σ:RS),parsL (ts.map (mT g)) n acc (mS g σ)=(parsL ts n acc σ).map fun r=>(r.1,mS g r.2):=by
 induction n with
 | zero=>intro acc σ;rfl
 | succ n ih =>
  intro acc σ
  simp only[parsL,code_m,nameS_m h0,wantS_m h0,kindS_m h0,isS_m h0,nameV_m h0,kindV_m h0,stepS_m,ih]
  repeat' split
  all_goals rfl
theorem paramsS_m (f:Nat) (σ:RS):paramsS (ts.map (mT g)) f (mS g σ)=(paramsS ts f σ).map fun r=>(r.1,mS g r.2):=by
 unfold paramsS
 simp only[wantS_m h0,isS_m h0,stepS_m,parsL_m h0]
 split <;> rfl
theorem statesL_m (n:Nat):∀(acc:List ByteArray) (σ:RS),statesL (ts.map (mT g)) n acc (mS g σ)=(statesL ts n acc σ).map fun r=>(r.1,mS g r.2):=by
 induction n with
 | zero=>intro acc σ;rfl
 | succ n ih =>
  intro acc σ
  simp only[statesL,nameS_m h0,isS_m h0,nameV_m h0,stepS_m,ih]
  repeat' split
  all_goals rfl
def mR (g:Nat→Nat) (r:It×Bool×RS):It×Bool×RS:=(mIt g r.1,r.2.1,mS g r.2.2)
omit h0 in
theorem bind2_m {α β:Type} {m:α→α} {o o':Option (β×RS)} {mb:β→β} (ho:o'=o.map fun r=>(mb r.1,mS g r.2)) {K K':β×RS→Option α} (hK:∀v σ,K' (mb v,mS g σ)=(K (v,σ)).map m):o'.bind K'=(o.bind K).map m:=by
 subst ho
 cases o with
 | none=>rfl
 | some r=>exact hK r.1 r.2
theorem itemF_m {i i':It} (hi:i'=mIt g i) (σ:RS):itemF (ts.map (mT g)) i' (mS g σ)=mR g (itemF ts i σ):=by
 subst hi;unfold itemF;simp only[wantS_m h0,code_m];rfl
theorem iLet_m (f:Nat) (σ:RS):iLet (ts.map (mT g)) f (mS g σ)=(iLet ts f σ).map (mR g):=by
 unfold iLet
 simp only[stepS_m,nameS_m h0,nameV_m h0,wantS_m h0,kindS_m h0,kindV_m h0,exprS_m h0,at_m,tokpos_m h0]
 refine bind2_m (g:=g) (mb:=id) rfl (fun v τ=>?_)
 refine congrArg some (itemF_m h0 ts ?_ _);rfl
theorem iDer_m (f:Nat) (σ:RS):iDer (ts.map (mT g)) f (mS g σ)=(iDer ts f σ).map (mR g):=by
 unfold iDer
 simp only[stepS_m,nameS_m h0,nameV_m h0,wantS_m h0,exprS_m h0,at_m,tokpos_m h0]
 refine bind2_m (g:=g) (mb:=id) rfl (fun v τ=>?_)
 simp only[wantS_m h0,exprS_m h0]
 refine bind2_m (g:=g) (mb:=id) rfl (fun u υ=>?_)
 refine congrArg some (itemF_m h0 ts ?_ _);rfl
theorem iReset_m (f:Nat) (σ:RS):iReset (ts.map (mT g)) f (mS g σ)=(iReset ts f σ).map (mR g):=by
 unfold iReset
 simp only[stepS_m,nameS_m h0,nameV_m h0,wantS_m h0,exprS_m h0,at_m,tokpos_m h0]
 refine bind2_m (g:=g) (mb:=id) rfl (fun v τ=>?_)
 simp only[wantS_m h0,exprS_m h0]
 refine bind2_m (g:=g) (mb:=id) rfl (fun u υ=>?_)
 refine congrArg some (itemF_m h0 ts ?_ _);rfl
theorem iMem_m (f:Nat) (σ:RS):iMem (ts.map (mT g)) f (mS g σ)=(iMem ts f σ).map (mR g):=by
 unfold iMem
 simp only[stepS_m,nameS_m h0,nameV_m h0,wantS_m h0,kindS_m h0,kindV_m h0,exprS_m h0,at_m,tokpos_m h0]
 refine bind2_m (g:=g) (mb:=id) rfl (fun v τ=>?_)
 refine congrArg some (itemF_m h0 ts ?_ _);rfl
theorem iOn_m (f:Nat) (σ:RS):iOn (ts.map (mT g)) f (mS g σ)=(iOn ts f σ).map (mR g):=by
 unfold iOn
 simp only[stepS_m,exprS_m h0,at_m,tokpos_m h0]
 refine bind2_m (g:=g) (mb:=id) rfl (fun v τ=>?_)
 simp only[nameS_m h0,nameV_m h0,wantS_m h0,exprS_m h0]
 refine bind2_m (g:=g) (mb:=id) rfl (fun u υ=>?_)
 refine congrArg some (itemF_m h0 ts ?_ _);rfl
theorem iMode_m (f:Nat) (σ:RS):iMode (ts.map (mT g)) f (mS g σ)=(iMode ts f σ).map (mR g):=by
 unfold iMode
 simp only[stepS_m,nameS_m h0,nameV_m h0,wantS_m h0,statesL_m h0,at_m,tokpos_m h0]
 refine bind2_m (g:=g) (mb:=id) rfl (fun v τ=>?_)
 simp only[wantS_m h0]
 refine congrArg some (itemF_m h0 ts ?_ _);rfl
theorem iFrom_m (f:Nat) (σ:RS):iFrom (ts.map (mT g)) f (mS g σ)=(iFrom ts f σ).map (mR g):=by
 unfold iFrom
 simp only[stepS_m,nameS_m h0,nameV_m h0,wantS_m h0,exprS_m h0,at_m,tokpos_m h0]
 refine bind2_m (g:=g) (mb:=id) rfl (fun v τ=>?_)
 simp only[wantS_m h0,nameS_m h0,nameV_m h0]
 refine congrArg some (itemF_m h0 ts ?_ _);rfl
theorem iOut_m (f:Nat) (σ:RS):iOut (ts.map (mT g)) f (mS g σ)=(iOut ts f σ).map (mR g):=by
 unfold iOut
 simp only[stepS_m,nameS_m h0,nameV_m h0,at_m,tokpos_m h0]
 refine congrArg some (itemF_m h0 ts ?_ _);rfl
theorem itemS_m (f:Nat) (all:Bool) (σ:RS):itemS (ts.map (mT g)) f all (mS g σ)=(itemS ts f all σ).map (mR g):=by
 unfold itemS
 simp only[isS_m h0,iLet_m h0,iDer_m h0,iReset_m h0,iMem_m h0,iOn_m h0,iMode_m h0,iFrom_m h0,iOut_m h0,at_m,tokpos_m h0]
 repeat' split
 all_goals rfl
theorem itsL_m (f:Nat) (all:Bool) (n:Nat):∀(acc:List It) (σ:RS),itsL (ts.map (mT g)) f all n (acc.map (mIt g)) (mS g σ)=(itsL ts f all n acc σ).map fun r=>(r.1.map (mIt g),mS g r.2):=by
 induction n with
 | zero=>intro acc σ;rfl
 | succ n ih =>
  intro acc σ
  simp only[itsL,code_m,List.length_map,itemS_m h0]
  split
  ·split
   ·cases itemS ts f all σ with
    | none=>rfl
    | some r =>
     have e:=ih (acc++[r.1]) r.2.2
     rw[List.map_append] at e
     simp only[Option.map_some,Option.bind_some,mR]
     split
     ·exact e
     ·rfl
   ·rfl
  ·rfl
theorem declS_m (f:Nat) (σ:RS):declS (ts.map (mT g)) f (mS g σ)=(declS ts f σ).map fun r=>(mDe g r.1,mS g r.2):=by
 have hi:=fun all n σ=>itsL_m h0 ts f all n [] σ
 simp only[List.map_nil] at hi
 unfold declS
 simp only[isS_m h0,stepS_m,nameS_m h0,nameV_m h0,wantS_m h0,paramsS_m h0,at_m,tokpos_m h0]
 repeat' split
 ·refine bind2_m (g:=g) (mb:=id) rfl (fun v τ=>?_)
  simp only[wantS_m h0,kindS_m h0,kindV_m h0,exprS_m h0]
  refine bind2_m (g:=g) (mb:=id) rfl (fun u υ=>?_)
  simp only[wantS_m h0];rfl
 ·refine bind2_m (g:=g) (mb:=id) rfl (fun v τ=>?_)
  simp only[wantS_m h0,kindS_m h0,kindV_m h0,hi]
  refine bind2_m (g:=g) (mb:=List.map (mIt g)) rfl (fun u υ=>?_)
  simp only[wantS_m h0,exprS_m h0]
  refine bind2_m (g:=g) (mb:=id) rfl (fun x ω=>?_)
  simp only[wantS_m h0];rfl
 ·refine bind2_m (g:=g) (mb:=id) rfl (fun v τ=>?_)
  simp only[wantS_m h0,hi]
  refine bind2_m (g:=g) (mb:=List.map (mIt g)) rfl (fun u υ=>?_)
  simp only[wantS_m h0];rfl
theorem declsG_m (f:Nat) (n:Nat):∀(acc:List De) (σ:RS),declsG (ts.map (mT g)) f n (acc.map (mDe g)) (mS g σ)=(declsG ts f n acc σ).map fun r=>(r.1.map (mDe g),mS g r.2):=by
 induction n with
 | zero=>intro acc σ;rfl
 | succ n ih =>
  intro acc σ
  simp only[declsG,code_m,at_m,List.length_map,declS_m h0,tokkind_m h0]
  split
  ·split
   ·split
    ·rfl
    ·cases declS ts f σ with
     | none=>rfl
     | some r =>
      have e:=ih (acc++[r.1]) r.2
      rw[List.map_append] at e
      exact e
   ·rfl
  ·rfl
end
theorem parse_badlex (l:List UInt8) (ts:List Tok) (f:Nat) (ht:lexT l ts (some f)) (hl:l.length≤20000) (W:World) (hS:Signs W) :
  Calls prog 8 #[.string (str l)] W fun r Y=>ParseX ⟨[],[]⟩ 1 (f:Int) W r Y :=
 (parse_call _ [] [] _ _ W (Hd fun W2 hb=>(read_lex (str l) _ 1 f (by decide) W2 (Hd fun W3 hb3=>(lex_bad l ts f ht hl W3 ((hS.below hb).below hb3)).mono fun e w' h=>h)).mono fun r Y h=>readP_none h)).mono fun r Y h=>parseX_none h
theorem parse_run (l:List UInt8) (ts:List Tok) (ht:lexT l ts none) (hl':l.length≤20000):∃(f:Nat) (ds:List De) (τ:RS),declsG (ts++[endT l.length]) f f [] rs0=some (ds,τ) ∧
  (τ.code=0→ds.length≤20001∧τ.exprs.length≤20001∧GoodP ⟨ds,τ.exprs⟩∧(∀x ∈ τ.exprs,(partsE x).length≤40000) ∧
   ∀W,Signs W→Calls prog 8 #[.string (str l)] W fun r Y=>ParseX ⟨ds,τ.exprs⟩ 0 0 W r Y) ∧
  (τ.code≠0→∀W,Signs W→Calls prog 8 #[.string (str l)] W fun r Y=>ParseX ⟨[],[]⟩ τ.code τ.pos W r Y):=by
 have he:=end_ok ht l.length
 have hk:=tok_ok ht hl' l.length
 have hc:=toks_count ht
 have g1:=gapTo_le false (Nat.zero_le l.length)
 have hlen:(ts++[endT l.length]).length≤20001:=by rw[List.length_append];simp only[List.length_cons,List.length_nil];omega
 obtain⟨f,ds,τ,hr,hg,hd⟩:=decls_ends he hk _ [] rs0 (qL _) ⟨he.1,qL _,Int.le_refl _,by decide,by omega⟩ (Nat.zero_le _) (fun _ d hd=>by cases hd)
 refine⟨f,ds,τ,hr,fun h0=>?_,fun h0 W hS=>?_⟩
 ·obtain⟨h1,h2⟩:=hd h0
  have ha:AllGood τ.exprs:=hg.good h0 (fun i x hx=>by cases i <;> cases hx)
  have hlt:=hg.lt
  have hroom:τ.exprs.length≤τ.at_:=by have:=hg.room;simp only[rs0,List.length_nil] at this;omega
  have h5:=decls_five _ _ _ _ hr h0
  have hao:AO τ:=ao_decls _ _ _ _ (fun x hx=>by cases hx) hr
  refine⟨by omega,by omega,⟨ha,h2⟩,parts_ao hao,fun W hS=>?_⟩
  refine(parse_call _ ds τ.exprs 0 0 W (Hd fun W2 hb=>readP_ok l ts ht hl' f f ds τ hr h0 h5 W2 (hS.below hb))).mono fun r Y h=>?_
  obtain⟨od,c1,o,c,e1,e2,e3,e4⟩:=h
  exact⟨_,_,e1,⟨des_own e3 h2,exs_own e4 ha,by show ds.length≤_;unfold reachN;omega,by show τ.exprs.length≤_;unfold reachN;omega⟩,e2⟩
 ·exact(parse_call _ [] [] _ _ W (Hd fun W2 hb=>(readP_bad l ts ht hl' f f ds τ hr h0 W2 (hS.below hb)).mono fun r Y h=>readP_none h)).mono fun r Y h=>parseX_none h
theorem parse_some (l:List UInt8) (hl:l.length≤20000):∃(q:Pr) (cd f:Int),∀W,Signs W→Calls prog 8 #[.string (str l)] W fun r Y=>ParseX q cd f W r Y:=by
 obtain⟨ts,r,ht⟩:∃ts r,lexT l ts r:=toks_all l _
 cases r with
 | some f=>exact⟨_,_,_,fun W hS=>parse_badlex l ts f ht hl W hS⟩
 | none =>
  obtain⟨f,ds,τ,hr,hg,hb⟩:=parse_run l ts ht hl
  by_cases h0:τ.code=0
  ·exact⟨_,_,_,(hg h0).2.2.2.2⟩
  ·exact⟨_,_,_,hb h0⟩
theorem toks_at {l:List UInt8} {a:Nat} {ts:List Tok} {r:Option Nat} (h:Toks l a ts r):∀t ∈ ts,t.at_≤l.length:=by
 induction h with
 | fin h=>intro t ht;cases ht
 | bad h=>intro t ht;cases ht
 | @tok a ts r h h1 h2 ih =>
  intro t ht
  rcases List.mem_cons.1 ht with rfl | ht
  ·show(tokAt l a).at_≤_
   unfold tokAt tokOf
   split <;> exact ql h
  ·exact ih t ht
theorem fault_at {ts:List Tok} {L:Nat} (hL:∀t ∈ ts,t.at_≤L) {f n:Nat} {ds:List De} {τ:RS} (h:declsG ts f n [] rs0=some (ds,τ)):0≤τ.pos∧τ.pos≤L:=by
 have e:=declsG_m (g:=fun a=>min a L) (by simp) ts f n [] rs0
 have e1:ts.map (mT fun a=>min a L)=ts:=by
  conv=>rhs;rw[←List.map_id ts]
  refine List.map_congr_left fun t ht=>?_
  show({ t with at_:=min t.at_ L }:Tok)=t
  rw[Nat.min_eq_left (hL t ht)]
 rw[e1] at e
 have e2:mS (fun a=>min a L) rs0=rs0:=by simp[mS,rs0,mI]
 rw[e2,h] at e
 simp only[List.map_nil] at e
 rw[h] at e
 have e3:τ=mS (fun a=>min a L) τ:=congrArg Prod.snd (qI e)
 have e4:τ.pos=mI (fun a=>min a L) τ.pos:=congrArg RS.pos e3
 rw[e4]
 unfold mI
 constructor
 ·exact Int.natCast_nonneg _
 ·have:=Nat.min_le_right τ.pos.toNat L
  exact Int.ofNat_le.2 this
theorem run_same {ts ts':List Tok} (he:ts.map (mT fun _=>0)=ts'.map (mT fun _=>0)) {f n f' n':Nat} {ds ds':List De} {τ τ':RS} (h:declsG ts f n [] rs0=some (ds,τ)) (h':declsG ts' f' n' [] rs0=some (ds',τ')) :
  ds.map (mDe fun _=>0)=ds'.map (mDe fun _=>0)∧mS (fun _=>0) τ=mS (fun _=>0) τ':=by
 have e:=declsG_m (g:=fun _=>0) rfl ts (max f f') (max n n') [] rs0
 have e':=declsG_m (g:=fun _=>0) rfl ts' (max f f') (max n n') [] rs0
 rw[declsG_le (Nat.le_max_left f f') (Nat.le_max_left n n') h] at e
 rw[declsG_le (Nat.le_max_right f f') (Nat.le_max_right n n') h'] at e'
 rw[he] at e
 have e2:=qI (e.symm.trans e')
 exact⟨congrArg Prod.fst e2,congrArg Prod.snd e2⟩
theorem run_code {ts ts':List Tok} (he:ts.map (mT fun _=>0)=ts'.map (mT fun _=>0)) {f n f' n':Nat} {ds ds':List De} {τ τ':RS} (h:declsG ts f n [] rs0=some (ds,τ)) (h':declsG ts' f' n' [] rs0=some (ds',τ')):τ.code=τ'.code :=
 by have e:=congrArg RS.code (run_same he h h').2;exact e
end Go.Proofs.YtlbhlncipajapaaDoor
namespace Go.Proofs.YtlbhlncipajapaaDoor.Lx
open Go.RowKit
theorem gapN_sp (b:Bool) (l:List UInt8):gapN b l<l.length∧gapN b (l++[32,64])=gapN b l∨gapN b l=l.length∧(gapN b (l++[32,64])=l.length+1∨gapN b (l++[32,64])=l.length+2):=by
 induction l generalizing b with
 | nil=>cases b <;> simp[gapN,isBlank]
 | cons c l ih =>
  rw[List.cons_append]
  have h1:=ih true
  have h2:=ih false
  cases b
  ·simp only[gapN,List.length_cons]
   split
   ·omega
   ·split <;> omega
  ·simp only[gapN,List.length_cons]
   split <;> omega
theorem one_sp {l:List UInt8} {k n:Nat} {v:Int} (h:oneL l=some (k,n,v)):oneL (l++[32,64])=some (k,n,v):=by
 have e:l++[32,64]=l.take n++(l.drop n++[32,64]):=by rw[←List.append_assoc,List.take_append_drop]
 rw[e]
 refine one_stab h (.inr ?_)
 cases l.drop n with
 | nil=>exact⟨32,[64],rfl,.inl rfl⟩
 | cons c x =>
  refine⟨c,x++[32,64],rfl,.inr ⟨x,rfl,.inr ?_⟩⟩
  cases x with
  | nil=>exact⟨32,[64],rfl,.inl rfl⟩
  | cons d y=>exact⟨d,y++[32,64],rfl,.inr ⟨y,rfl⟩⟩
theorem toks_sp {s:List UInt8} {a:Nat} {ts:List Tok} (h:Toks s a ts none) :
  ∀e,e≤s.length→a=gapTo false s e→Toks (s++[32,64]) (gapTo false (s++[32,64]) e) ts (some (s.length+1))∨Toks (s++[32,64]) (gapTo false (s++[32,64]) e) ts none:=by
 have hd:∀e,e≤s.length→(s++[32,64]).drop e=s.drop e++[32,64]:=fun e he=>by rw[List.drop_append_of_le_length he]
 generalize hr:none=r at h
 induction h with
 | fin h =>
  intro e he hae
  have h2:gapN false (s.drop e)=(s.drop e).length:=by
   have:=gapN_le false (s.drop e)
   unfold gapTo at hae
   rw[List.length_drop] at *
   omega
  rcases gapN_sp false (s.drop e) with ⟨h3,_⟩ | ⟨_,h3 | h3⟩
  ·omega
  ·left
   have h4:gapTo false (s++[32,64]) e=s.length+1:=by
    unfold gapTo
    rw[hd e he,h3,List.length_drop]
    omega
   rw[h4]
   refine .bad (by simp) ?_
   have h5:(s++[32,64]).drop (s.length+1)=[64]:=by rw[List.drop_append,List.drop_of_length_le (by omega)];simp
   rw[h5];rfl
  ·right
   have h4:gapTo false (s++[32,64]) e=s.length+2:=by
    unfold gapTo
    rw[hd e he,h3,List.length_drop]
    omega
   rw[h4]
   exact .fin (by simp)
 | bad=>cases hr
 | @tok a ts r h h1 h2 ih =>
  subst hr
  intro e he hae
  have hlen:=tokAt_len h1
  have hg:gapTo false (s++[32,64]) e=a:=by
   rw[hae] at h
   unfold gapTo at h hae ⊢
   rw[hd e he]
   rcases gapN_sp false (s.drop e) with ⟨_,h3⟩ | ⟨h3,_⟩
   ·rw[h3,hae]
   ·rw[List.length_drop] at h3;omega
  obtain⟨⟨k,n,v⟩,ho⟩:=Option.ne_none_iff_exists'.1 h1
  have ho2:oneL ((s++[32,64]).drop a)=some (k,n,v):=by rw[hd a (by omega)];exact one_sp ho
  have ht:tokAt (s++[32,64]) a=tokAt s a:=by
   unfold tokAt
   rw[ho,ho2]
   show Tok.mk k (((s++[32,64]).drop a).take n) v a=Tok.mk k ((s.drop a).take n) v a
   rw[hd a (by omega),List.take_append_of_le_length (oneL_some ho).2.2.2]
  rw[hg,←ht]
  rcases ih rfl _ hlen.2 rfl with h3 | h3
  ·left
   refine .tok (by rw[List.length_append,List.length_cons];omega) (by rw[ho2];simp) ?_
   rw[ht];exact h3
  ·right
   refine .tok (by rw[List.length_append,List.length_cons];omega) (by rw[ho2];simp) ?_
   rw[ht];exact h3
theorem lex_sp {s:List UInt8} {ts:List Tok} (h:lexT s ts none):lexT (s++[32,64]) ts (some (s.length+1))∨lexT (s++[32,64]) ts none:=toks_sp h 0 (Nat.zero_le _) rfl
end Go.Proofs.YtlbhlncipajapaaDoor.Lx
namespace Go.Proofs.YtlbhlncipajapaaDoor
open Go.RowKit Lx
theorem spoil_calls (l:List UInt8) (hl:l.length≤4000):∃(p q:Pr) (cd f cd2 f2:Int),
  (∀W,Signs W→Calls prog 8 #[.string (str l)] W fun r Y=>ParseX p cd f W r Y) ∧
  (∀W,Signs W→Calls prog 8 #[.string (str (l++[32,64]))] W fun r Y=>ParseX q cd2 f2 W r Y) ∧
  (cd=0→(cd2=1∧f2=(l.length:Int)+1)∨(¬cd2=1∧cd2=0))∧(¬cd=0→0≤f∧f≤(l.length:Int)∧p.decls=[]∧p.exprs=[]):=by
 have hl2:(l++[32,64]).length≤20000:=by rw[List.length_append];simp;omega
 obtain⟨q,cd2,f2,hq⟩:=parse_some (l++[32,64]) hl2
 obtain⟨ts,r,ht⟩:∃ts r,lexT l ts r:=toks_all l _
 cases r with
 | some f =>
  have h1:=toks_place ht
  exact⟨⟨[],[]⟩,q,1,(f:Int),cd2,f2,fun W hS=>parse_badlex l ts f ht (by omega) W hS,hq,fun h=>absurd h (by decide),fun _=>⟨by omega,by omega,rfl,rfl⟩⟩
 | none =>
  obtain⟨f,ds,τ,hr,hg,hb⟩:=parse_run l ts ht (by omega)
  have hat:∀t ∈ ts++[endT l.length],t.at_≤l.length:=by
   intro t h
   rcases List.mem_append.1 h with h | h
   ·exact toks_at ht t h
   ·obtain rfl:=List.mem_singleton.1 h
    exact qL _
  have hp:=fault_at hat hr
  by_cases h0:τ.code=0
  ·obtain⟨_,_,_,_,hC⟩:=hg h0
   rcases lex_sp ht with h2 | h2
   ·exact⟨_,⟨[],[]⟩,0,0,1,_,hC,fun W hS=>parse_badlex _ ts _ h2 hl2 W hS,fun _=>.inl ⟨rfl,by omega⟩,fun h=>absurd rfl h⟩
   ·obtain⟨f',ds',τ',hr',hg',hb'⟩:=parse_run _ ts h2 hl2
    have e:τ.code=τ'.code:=run_code (by simp[mT,endT]) hr hr'
    obtain⟨_,_,_,_,hC'⟩:=hg' (e ▸ h0)
    exact⟨_,_,0,0,0,0,hC,hC',fun _=>.inr ⟨by decide,rfl⟩,fun h=>absurd rfl h⟩
  ·exact⟨⟨[],[]⟩,q,τ.code,τ.pos,cd2,f2,hb h0,hq,fun h=>absurd h h0,fun _=>⟨hp.1,hp.2,rfl,rfl⟩⟩
def ReadX (es:List Ex) (cd f:Int) (W:World) (r:Ending) (Y:World):Prop :=
 ∃o c,r=.returned (.tuple #[.agg #[.slice none 0 0,.slice o es.length c],.agg #[.int .i64 cd,.int .i64 f]])∧Below W.heap.size W Y∧ExsOwn Y W.heap.size (fun _=>False) (.slice o es.length c) es
def ExprX (es:List Ex) (cd f:Int) (W:World) (r:Ending) (Y:World):Prop :=
 ∃o c,r=.returned (.tuple #[.agg #[.slice none 0 0,.slice o es.length c],.int .i64 ((es.length-1:Nat):Int),.agg #[.int .i64 cd,.int .i64 f]])∧ExsOwn Y W.heap.size (fun _=>False) (.slice o es.length c) es∧Below W.heap.size W Y
theorem rg_two_boxes (w:World) (c d:Array Value) (S T:Nat):((w.alloc (.cells c S)).alloc (.cells d T)).heap[w.heap.size]?=some (.cells c S (0,0))∧((w.alloc (.cells c S)).alloc (.cells d T)).heap[w.heap.size+1]?=some (.cells d T (0,0)):=by
 constructor
 ·rw[heap_alloc_old _ _ (by simp)];exact heap_alloc_new w _
 ·have:=heap_alloc_new (w.alloc (.cells c S)) (.cells d T)
  rw[World.size_alloc] at this
  exact this
theorem expr_call (s:ByteArray) (es:List Ex) (cd f:Int) (hl:es.length≤40000) (W:World) (C:Hid (∀W2,Below W.heap.size W W2→Calls prog 9 #[.string s,.func (.func 10) #[] #[]] W2 fun r Y=>ReadX es cd f W2 r Y)) :
  Calls prog 6 #[.string s] W fun r Y=>ExprX es cd f W r Y:=by
 obtain⟨W2,hW2⟩:∃W2,W2=(W.alloc (.cells #[.slice none 0 0,.slice none 0 0] 26)).alloc (.cells #[.int .i64 0,.int .i64 0] 29):=⟨_,rfl⟩
 have hb2:Below W.heap.size W W2:=by rw[hW2];exact((qB _ _).alloc (qL _) _).alloc (by simp) _
 have hs2:W2.heap.size=W.heap.size+2:=by rw[hW2];simp
 have hP:W2.heap[W.heap.size]?=some (.cells #[.slice none 0 0,.slice none 0 0] 26 (0,0)):=by
  rw[hW2,heap_alloc_old _ _ (by simp)];exact heap_alloc_new W _
 have hF:W2.heap[W.heap.size+1]?=some (.cells #[.int .i64 0,.int .i64 0] 29 (0,0)):=by
  have:=heap_alloc_new (W.alloc (.cells #[.slice none 0 0,.slice none 0 0] 26)) (.cells #[.int .i64 0,.int .i64 0] 29)
  rw[World.size_alloc] at this
  rw[hW2];exact this
 obtain⟨L,hL⟩:∃L,L=es.length:=⟨_,rfl⟩
 have C2:Hid (Calls prog 9 #[.string s,.func (.func 10) #[] #[]] W2 fun r Y=>∃o c,r=.returned (.tuple #[.agg #[.slice none 0 0,.slice o L c],.agg #[.int .i64 cd,.int .i64 f]])∧Hid (Below W2.heap.size W2 Y∧ExsOwn Y W2.heap.size (fun _=>False) (.slice o L c) es)):=Hd ((C.out W2 hb2).mono fun r Y ⟨o,c,h1,h2,h3⟩=>⟨o,c,by rw[hL];exact h1,Hd ⟨h2,by rw[hL];exact h3⟩⟩)
 have hL4:(L:Int)≤40000:=by omega
 have HL:=Hd hL
 have HB2:=Hd hb2
 have HPF:=Hd (show _∧_ from⟨hP,hF⟩)
 have HS2:=Hd hs2
 have M1:IntKind.i64.wrap ((L:Int)-1)=((L:Int)-1):=by rw[IntKind.wrap_i64];omega
 clear hb2 hs2 hP hF C hL hl
 go_enter Tryd.func6,Tryd.ntmps6
 go_wp2_with (go_at_call 9;rw[←hW2];clear hW2;(with_reducible refine C2.out.mono ?_);rintro e w3 ⟨o,c,rfl,h3⟩)
 obtain⟨V,hV⟩:∃V,V=(w3.alloc (.cells #[.slice none 0 0,.slice o L c] 26)).alloc (.cells #[.int .i64 cd,.int .i64 f] 29):=⟨_,rfl⟩
 obtain⟨v1,v2⟩:=rg_two_boxes w3 #[.slice none 0 0,.slice o L c] #[.int .i64 cd,.int .i64 f] 26 29
 have hbV:Below w3.heap.size w3 V:=by rw[hV];exact((qB _ _).alloc (qL _) _).alloc (by simp) _
 rw[←hV] at v1 v2 ⊢
 have h2:=HS2.out
 have h3s:=h3.out.1.size
 have hPV:V.heap[W.heap.size]?=some (.cells #[.slice none 0 0,.slice none 0 0] 26 (0,0)):=(hbV.block _ (by omega)).trans ((h3.out.1.block _ (by omega)).trans HPF.out.1)
 have hFV:V.heap[W.heap.size+1]?=some (.cells #[.int .i64 0,.int .i64 0] 29 (0,0)):=(hbV.block _ (by omega)).trans ((h3.out.1.block _ (by omega)).trans HPF.out.2)
 have p0':V.cell? ⟨W.heap.size,0,none⟩=some (.slice none 0 0):=by simp[World.cell?,hPV]
 have p1':V.cell? ⟨W.heap.size,1,none⟩=some (.slice none 0 0):=by simp[World.cell?,hPV]
 have p2':V.frozen? ⟨W.heap.size,0,none⟩=false:=by simp[World.frozen?,hPV]
 have p3':V.frozen? ⟨W.heap.size,1,none⟩=false:=by simp[World.frozen?,hPV]
 have u0':V.cell? ⟨W.heap.size+1,0,none⟩=some (.int .i64 0):=by simp[World.cell?,hFV]
 have u1':V.cell? ⟨W.heap.size+1,1,none⟩=some (.int .i64 0):=by simp[World.cell?,hFV]
 have u2':V.frozen? ⟨W.heap.size+1,0,none⟩=false:=by simp[World.frozen?,hFV]
 have u3':V.frozen? ⟨W.heap.size+1,1,none⟩=false:=by simp[World.frozen?,hFV]
 have a0:V.cell? ⟨w3.heap.size,0,none⟩=some (.slice none 0 0):=by simp[World.cell?,v1]
 have a1:V.cell? ⟨w3.heap.size,1,none⟩=some (.slice o L c):=by simp[World.cell?,v1]
 have a2:V.cell? ⟨w3.heap.size+1,0,none⟩=some (.int .i64 cd):=by simp[World.cell?,v2]
 have a3:V.cell? ⟨w3.heap.size+1,1,none⟩=some (.int .i64 f):=by simp[World.cell?,v2]
 have HV:=Hd (show _∧_∧_ from⟨hPV,hFV,hbV⟩)
 have n1:W.heap.size<w3.heap.size:=by omega
 have n2:W.heap.size+1<w3.heap.size:=by omega
 clear hPV hFV hbV v1 v2 hV h2
 have mixed:prog.follows .mixedOrders=true:=by kernel_rfl
 have late:prog.follows .lateStores=true:=by kernel_rfl
 go_region_o
 go_wp2_with fail
 obtain⟨Y,hY⟩:∃Y,Y=(((V.setCell ⟨W.heap.size,0,none⟩ (.slice none 0 0)).setCell ⟨W.heap.size,1,none⟩ (.slice o L c)).setCell ⟨W.heap.size+1,0,none⟩ (.int .i64 cd)).setCell ⟨W.heap.size+1,1,none⟩ (.int .i64 f):=⟨_,rfl⟩
 rw[←hY]
 have k1:Y.drew.heap[W.heap.size]?=some (.cells #[.slice none 0 0,.slice o L c] 26 (0,0)):=by
  show Y.heap[W.heap.size]?=_
  rw[hY,Below.heap_setCell _ _ _ _ (by simp),Below.heap_setCell _ _ _ _ (by simp),set_blk (set_blk HV.out.1 0 _) 1 _];rfl
 have k2:Y.drew.heap[W.heap.size+1]?=some (.cells #[.int .i64 cd,.int .i64 f] 29 (0,0)):=by
  show Y.heap[W.heap.size+1]?=_
  rw[hY,set_blk (set_blk (((Below.heap_setCell _ _ _ _ (by simp)).trans (Below.heap_setCell _ _ _ _ (by simp))).trans HV.out.2.1) 0 _) 1 _];rfl
 have hYk:∀k,W.heap.size+1<k→Y.drew.heap[k]?=V.heap[k]?:=fun k hk=>by
  show Y.heap[k]?=_
  rw[hY,Below.heap_setCell _ _ _ _ (by simp;omega),Below.heap_setCell _ _ _ _ (by simp;omega),Below.heap_setCell _ _ _ _ (by simp;omega),Below.heap_setCell _ _ _ _ (by simp;omega)]
 have r0:Y.drew.cell? ⟨W.heap.size,0,none⟩=some (.slice none 0 0):=by simp[World.cell?,k1]
 have r1:Y.drew.cell? ⟨W.heap.size,1,none⟩=some (.slice o L c):=by simp[World.cell?,k1]
 have r2:Y.drew.cell? ⟨W.heap.size+1,0,none⟩=some (.int .i64 cd):=by simp[World.cell?,k2]
 have r3:Y.drew.cell? ⟨W.heap.size+1,1,none⟩=some (.int .i64 f):=by simp[World.cell?,k2]
 have hb3:Below W.heap.size W w3:=HB2.out.trans (h3.out.1.mono HB2.out.size)
 have hb4:Below W.heap.size W V:=hb3.trans (HV.out.2.2.mono hb3.size)
 have hbX:Below W.heap.size W Y:=by
  rw[hY]
  exact(((hb4.setCell (p:=⟨W.heap.size,0,none⟩) (qL _) _).setCell (p:=⟨W.heap.size,1,none⟩) (qL _) _).setCell (p:=⟨W.heap.size+1,0,none⟩) (Nat.le_succ _) _).setCell (p:=⟨W.heap.size+1,1,none⟩) (Nat.le_succ _) _
 have hbY:Below W.heap.size W Y.drew:=hbX.trans (below_dr (qB _ _) 1)
 have hown:ExsOwn Y.drew W.heap.size (fun _=>False) (.slice o L c) es:=(h3.out.2.same fun k hk hk2=>(hYk k (by have:=HS2.out;omega)).trans (HV.out.2.2.block k hk2)).base HB2.out.size
 have hmax:max ((L:Int)-1) 0=((es.length-1:Nat):Int):=by have:=HL.out;omega
 refine bodyPost_ret (v:=.tuple #[.agg #[.slice none 0 0,.slice o L c],.int .i64 (max ((L:Int)-1) 0),.agg #[.int .i64 cd,.int .i64 f]]) (by simp[results,Tryd.results6,go_sem,r0,r1,r2,r3]) rfl ?_
 rw[hmax]
 exact⟨o,c,by rw[←HL.out],by rw[←HL.out];exact hown,hbY⟩
theorem expr_run {l:List UInt8} {ts:List Tok} {f:Nat} {v:Int} {lx:List Int} {τ:RS} (ht:lexT l ts none) (hl:l.length≤20000) (hr:runE (ts++[endT l.length]) f .expr rs0=some (v,lx,τ)) (h0:τ.code=0) (h5:(tokL (ts++[endT l.length]) τ.at_).kind=5) (hn:τ.exprs.length≤40000) (W:World) (hS:Signs W) :
  Calls prog 6 #[.string (str l)] W fun r Y=>ExprX τ.exprs 0 0 W r Y :=
 expr_call _ _ _ _ hn W (Hd fun W2 hb=>read_ok l ts ht hl f τ v lx hr h0 h5 W2 (hS.below hb))
end Go.Proofs.YtlbhlncipajapaaDoor
namespace Go.Proofs.YtlbhlncipajapaaDoor
open Go.RowKit Lx
def alL:List UInt8:=[49,32,43,32,50,32,42,32,120]
def alT:List Tok:=[tokAt alL 0,tokAt alL 2,tokAt alL 4,tokAt alL 6,tokAt alL 8]
def alU:List Tok:=[⟨2,[49],4294967296,0⟩,⟨4,[43],0,2⟩,⟨2,[50],8589934592,4⟩,⟨4,[42],0,6⟩,⟨1,[120],0,8⟩]
theorem al_lex:lexT alL alT none:=by
 unfold lexT alT
 rw[show gapTo false alL 0=0 by decide +kernel]
 refine .tok (by decide) (by decide +kernel) ?_
 rw[show gapTo false alL (0+(tokAt alL 0).text.length)=2 by decide +kernel]
 refine .tok (by decide) (by decide +kernel) ?_
 rw[show gapTo false alL (2+(tokAt alL 2).text.length)=4 by decide +kernel]
 refine .tok (by decide) (by decide +kernel) ?_
 rw[show gapTo false alL (4+(tokAt alL 4).text.length)=6 by decide +kernel]
 refine .tok (by decide) (by decide +kernel) ?_
 rw[show gapTo false alL (6+(tokAt alL 6).text.length)=8 by decide +kernel]
 refine .tok (by decide) (by decide +kernel) ?_
 rw[show gapTo false alL (8+(tokAt alL 8).text.length)=9 by decide +kernel]
 exact .fin (by decide)
theorem al_toks:alT=alU:=by
 have h0:tokAt alL 0=⟨2,[49],4294967296,0⟩:=by kernel_rfl
 have h1:tokAt alL 2=⟨4,[43],0,2⟩:=by kernel_rfl
 have h2:tokAt alL 4=⟨2,[50],8589934592,4⟩:=by kernel_rfl
 have h3:tokAt alL 6=⟨4,[42],0,6⟩:=by kernel_rfl
 have h4:tokAt alL 8=⟨1,[120],0,8⟩:=by kernel_rfl
 unfold alT alU
 rw[h0,h1,h2,h3,h4]
def alX:List Ex:=[{ ex0 with kind:=1,v:=4294967296,pos:=0 },{ ex0 with kind:=1,v:=8589934592,pos:=4 },{ ex0 with kind:=3,name:=str [120],pos:=8 },{ ex0 with kind:=8,a:=1,b:=2,pos:=6 },{ ex0 with kind:=6,a:=0,b:=3,pos:=2 }]
theorem al_run:∃lx,runE (alT++[endT alL.length]) 20 .expr rs0=some (4,lx,⟨5,alX,0,0,0⟩):=by
 rw[al_toks]
 exact⟨[],by kernel_rfl⟩
end Go.Proofs.YtlbhlncipajapaaDoor
namespace Go.Proofs.YtlbhlncipajapaaDoor
open Go.RowKit Lx
def AlAt (w:World) (r:Ending) (Y:World):Prop :=
 ∃b off c,r=.returned (.tuple #[.agg #[.slice none 0 0,.slice (some ⟨b,off,none⟩) 5 c],.int .i64 4,.agg #[.int .i64 0,.int .i64 0]])∧Hid (Below w.heap.size w Y∧Y.cell? ⟨b,off+2*9+4,none⟩=some (.string ⟨#[120]⟩)∧Y.cell? ⟨b,off+3*9,none⟩=some (.int .i64 8))
theorem al_good:AllGood alX:=by
 intro i x hx
 have hi:i<5:=by
  rcases Nat.lt_or_ge i 5 with h | h
  ·exact h
  ·rw[List.getElem?_eq_none (by exact h)] at hx;cases hx
 have hm:∀y,mayE y i=true→ExOk y→GoodX y i:=fun y h1 h2=>⟨h1,h2⟩
 match i,hi with
 | 0,_=>cases hx;exact hm _ (by decide) ⟨by unfold i64ok;decide,by unfold i64ok;decide,by unfold i64ok;decide,by unfold i64ok;decide,by unfold i64ok;decide,by decide,by decide,by decide,fun n hn=>by cases hn⟩
 | 1,_=>cases hx;exact hm _ (by decide) ⟨by unfold i64ok;decide,by unfold i64ok;decide,by unfold i64ok;decide,by unfold i64ok;decide,by unfold i64ok;decide,by decide,by decide,by decide,fun n hn=>by cases hn⟩
 | 2,_=>cases hx;exact hm _ (by decide) ⟨by unfold i64ok;decide,by unfold i64ok;decide,by unfold i64ok;decide,by unfold i64ok;decide,by unfold i64ok;decide,by decide,by decide,by decide,fun n hn=>by cases hn⟩
 | 3,_=>cases hx;exact hm _ (by decide) ⟨by unfold i64ok;decide,by unfold i64ok;decide,by unfold i64ok;decide,by unfold i64ok;decide,by unfold i64ok;decide,by decide,by decide,by decide,fun n hn=>by cases hn⟩
 | 4,_=>cases hx;exact hm _ (by decide) ⟨by unfold i64ok;decide,by unfold i64ok;decide,by unfold i64ok;decide,by unfold i64ok;decide,by unfold i64ok;decide,by decide,by decide,by decide,fun n hn=>by cases hn⟩
theorem al_expr (w:World) (hS:Signs w):Calls prog 6 #[.string ⟨#[49,32,43,32,50,32,42,32,120]⟩] w fun r Y=>AlAt w r Y:=by
 obtain⟨lx,hr⟩:=al_run
 refine(expr_run al_lex (by decide) hr rfl (by rw[al_toks];decide) (by decide) w hS).mono fun r Y ⟨o,c,h1,h2,h3⟩=>?_
 obtain⟨o',cap,b,off,e0,e1,_,e2,e3⟩:=exs_own h2 al_good
 cases e0
 have e4:=e2 (by decide)
 subst e4
 obtain⟨_,_,_,_,_,a4,_⟩:=e3 2 (by decide) _ rfl
 obtain⟨_,b0,_⟩:=e3 3 (by decide) _ rfl
 exact⟨b,off,c,h1,Hd ⟨h3,a4,b0⟩⟩
theorem alive_px (w:World) (hS:Signs w):Calls prog 5 #[] w fun r Y=>r=.returned (.bool true)∧Below w.heap.size w Y:=by
 have C:=Hd (al_expr w hS)
 unfold AlAt at C
 go_enter Tryd.func5,Tryd.ntmps5
 go_wp2_with (go_at_call 6;(with_reducible refine C.out.mono ?_);rintro e w2 ⟨b,off,c,rfl,h2⟩;have a4:=h2.out.2.1;have b0:=h2.out.2.2;have hb:=World.block_lt_of_cell? _ _ a4)
 go_ret
 exact⟨rfl,(h2.out.1.alloc h2.out.1.size _).alloc (h2.out.1.alloc h2.out.1.size _).size _⟩
end Go.Proofs.YtlbhlncipajapaaDoor
