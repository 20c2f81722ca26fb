import Derived.Test.YtpfmlfcaadnnpaaGreatDoorPg20
import Derived.Deep.RegionHeld3
import Derived.Deep.CutRange
import Derived.RangeFuncBox
import Derived.Maps.AppendAt
import Derived.Laws.AppendOwnNone
import Derived.StillTailTactics
import Derived.BigQuiet
import Derived.Lib.QuietBelow
import Derived.Outline
set_option maxHeartbeats 16000000
set_option maxRecDepth 100000
set_option linter.unusedVariables false
open Go.Proofs.Tryz(prog)
namespace Go.Proofs.YtpfmlfcaadnnpaaGreatDoor
open Go.RowKit Lx
def mT (g:Nat→Nat) (t:Tok):Tok:={ t with at_:=g t.at_ }
def mI (g:Nat→Nat) (z:Int):Int:=(g z.toNat:Int)
def mX (g:Nat→Nat) (x:Ex):Ex:={ x with pos:=mI g x.pos }
def mS (g:Nat→Nat) (σ:RS):RS:={ σ with exprs:=σ.exprs.map (mX g),pos:=mI g σ.pos }
def mA (g:Nat→Nat) (r:Int×List Int×RS):Int×List Int×RS:=(r.1,r.2.1,mS g r.2.2)
def mIt (g:Nat→Nat) (x:It):It:={ x with pos:=mI g x.pos }
def mDe (g:Nat→Nat) (x:De):De:={ x with items:=x.items.map (mIt g),pos:=mI g x.pos }
theorem mI_nat (g:Nat→Nat) (n:Nat):mI g (n:Int)=(g n:Int):=by simp[mI]
theorem tokL_m {g:Nat→Nat} (h0:g 0=0) (ts:List Tok) (i:Nat):tokL (ts.map (mT g)) i=mT g (tokL ts i):=by
 unfold tokL
 rw[List.getD_eq_getElem?_getD,List.getD_eq_getElem?_getD,List.getElem?_map]
 cases ts[i]? with
 | none=>simp[mT,h0]
 | some t=>rfl
section
variable {g:Nat→Nat} (h0:g 0=0) (ts:List Tok)
include h0
theorem isS_m (s:List UInt8) (σ:RS):isS (ts.map (mT g)) s (mS g σ)=isS ts s σ:=by
 unfold isS;rw[show(mS g σ).at_=σ.at_ from rfl,tokL_m h0];rfl
theorem failS_m (e:Int) (σ:RS):failS (ts.map (mT g)) e (mS g σ)=mS g (failS ts e σ):=by
 unfold failS
 by_cases h:σ.code=0
 ·rw[if_pos h,if_pos (show(mS g σ).code=0 from h),show(mS g σ).at_=σ.at_ from rfl,tokL_m h0]
  simp[mS,mT,mI]
 ·rw[if_neg h,if_neg (show ¬(mS g σ).code=0 from h)]
omit h0 in
theorem stepS_m (σ:RS):stepS (mS g σ)=mS g (stepS σ):=rfl
omit h0 in
theorem leaveS_m (σ:RS):leaveS (mS g σ)=mS g (leaveS σ):=rfl
theorem wantS_m (s:List UInt8) (σ:RS):wantS (ts.map (mT g)) s (mS g σ)=mS g (wantS ts s σ):=by
 unfold wantS;rw[isS_m h0,failS_m h0,stepS_m];split <;> rfl
theorem nameB_m (σ:RS):nameB (ts.map (mT g)) (mS g σ)=nameB ts σ:=by
 unfold nameB;rw[show(mS g σ).at_=σ.at_ from rfl,tokL_m h0];rfl
theorem nameS_m (σ:RS):nameS (ts.map (mT g)) (mS g σ)=mS g (nameS ts σ):=by
 unfold nameS;rw[nameB_m h0,failS_m h0,stepS_m];split <;> rfl
theorem nameV_m (σ:RS):nameV (ts.map (mT g)) (mS g σ)=nameV ts σ:=by
 unfold nameV;rw[nameB_m h0,show(mS g σ).at_=σ.at_ from rfl,tokL_m h0];rfl
omit h0 in
theorem putS_m (x:Ex) (σ:RS):putS (mX g x) (mS g σ)=mS g (putS x σ):=by simp[putS,mS]
omit h0 in
theorem okS_m (σ:RS):okS (mS g σ)=okS σ:=by unfold okS;rw[show(mS g σ).exprs.length=σ.exprs.length by simp[mS]];rfl
omit h0 in
theorem code_m (σ:RS):(mS g σ).code=σ.code:=rfl
omit h0 in
theorem at_m (σ:RS):(mS g σ).at_=σ.at_:=rfl
omit h0 in
theorem room_m (σ:RS):(mS g σ).exprs.length=σ.exprs.length:=by simp[mS]
theorem levelS_m (σ:RS):levelS (ts.map (mT g)) (mS g σ)=levelS ts σ:=by
 unfold levelS levelIn
 have e:(fun p:List UInt8×Int×Int=>isS (ts.map (mT g)) p.1 (mS g σ))=fun p=>isS ts p.1 σ:=funext fun p=>isS_m h0 ts _ _
 rw[e]
theorem prefixK_m (σ:RS) (l:List (List UInt8×Int)):prefixK (ts.map (mT g)) (mS g σ) l=prefixK ts σ l:=by
 unfold prefixK
 have e:(fun p:List UInt8×Int=>isS (ts.map (mT g)) p.1 (mS g σ))=fun p=>isS ts p.1 σ:=funext fun p=>isS_m h0 ts _ _
 rw[e]
theorem enterS_m (σ:RS):enterS (ts.map (mT g)) (mS g σ)=mS g (enterS ts σ):=by
 unfold enterS
 rw[show tooDeep (mS g σ)=tooDeep σ from rfl,failS_m h0]
 split <;> rfl
theorem kindV_m (σ:RS):kindV (ts.map (mT g)) (mS g σ)=kindV ts σ:=by unfold kindV;rw[isS_m h0]
theorem kindS_m (σ:RS):kindS (ts.map (mT g)) (mS g σ)=mS g (kindS ts σ):=by
 unfold kindS;rw[isS_m h0,wantS_m h0,stepS_m];split <;> rfl
theorem tokpos_m (i:Nat):((tokL (ts.map (mT g)) i).at_:Int)=mI g ((tokL ts i).at_:Int):=by rw[tokL_m h0,mI_nat];rfl
theorem tokkind_m (i:Nat):(tokL (ts.map (mT g)) i).kind=(tokL ts i).kind:=by rw[tokL_m h0];rfl
theorem toktext_m (i:Nat):(tokL (ts.map (mT g)) i).text=(tokL ts i).text:=by rw[tokL_m h0];rfl
theorem tokv_m (i:Nat):(tokL (ts.map (mT g)) i).v=(tokL ts i).v:=by rw[tokL_m h0];rfl
omit h0 in
theorem putA_m {x x':Ex} (hx:x'=mX g x) (σ:RS) {K K':Int→RS→Ans} (hK:∀n y,K' n (mS g y)=(K n y).map (mA g)):putA x' (mS g σ) K'=(putA x σ K).map (mA g):=by
 subst hx
 unfold putA
 rw[okS_m,room_m,putS_m]
 split
 ·exact hK _ _
 ·rfl
omit h0 in
theorem bind_m {α:Type} {m:α→α} {o o':Ans} (ho:o'=o.map (mA g)) {K K':Int×List Int×RS→Option α} (hK:∀r,K' (mA g r)=(K r).map m):o'.bind K'=(o.bind K).map m:=by
 subst ho
 cases o with
 | none=>rfl
 | some r=>exact hK r
theorem atomG_m {F F':Job→RS→Ans} (hF:∀j σ,F' j (mS g σ)=(F j σ).map (mA g)) (σ:RS):atomG (ts.map (mT g)) F' (mS g σ)=(atomG ts F σ).map (mA g):=by
 unfold atomG
 dsimp only
 simp only[at_m,tokkind_m h0,toktext_m h0,tokv_m h0,tokpos_m h0,stepS_m,isS_m h0,nameS_m h0,nameV_m h0,wantS_m h0,hF]
 repeat' split
 ·refine putA_m (g:=g) ?_ _ (fun n y=>?_) <;> rfl
 ·refine putA_m (g:=g) ?_ _ (fun n y=>?_) <;> rfl
 ·refine putA_m (g:=g) ?_ _ (fun n y=>?_) <;> rfl
 ·refine putA_m (g:=g) ?_ _ (fun n y=>?_) <;> rfl
 ·refine putA_m (g:=g) ?_ _ (fun n y=>?_) <;> rfl
 ·refine bind_m (g:=g) ?_ (fun r=>?_)
  ·rfl
  ·refine bind_m (g:=g) ?_ (fun q=>?_)
   ·exact hF _ _
   ·simp only[mA,wantS_m h0]
    refine putA_m (g:=g) ?_ _ (fun n y=>?_) <;> rfl
 ·refine putA_m (g:=g) ?_ _ (fun n y=>?_) <;> rfl
 ·refine bind_m (g:=g) ?_ (fun r=>?_)
  ·rfl
  ·simp only[mA,wantS_m h0];rfl
theorem preG_m {F F':Job→RS→Ans} (hF:∀j σ,F' j (mS g σ)=(F j σ).map (mA g)) (σ:RS):preG (ts.map (mT g)) F' (mS g σ)=(preG ts F σ).map (mA g):=by
 unfold preG
 dsimp only
 simp only[enterS_m h0,code_m,at_m,prefixK_m h0,tokpos_m h0,stepS_m,leaveS_m,hF]
 repeat' split
 ·refine bind_m (g:=g) ?_ (fun r=>?_)
  ·rfl
  ·simp only[mA,okS_m,leaveS_m]
   split <;> rfl
 ·refine bind_m (g:=g) ?_ (fun r=>?_)
  ·rfl
  ·simp only[mA]
   refine putA_m (g:=g) ?_ _ (fun n y=>?_)
   ·rfl
   ·simp only[leaveS_m];rfl
 ·rfl
theorem exprG_m {F F':Job→RS→Ans} (hF:∀j σ,F' j (mS g σ)=(F j σ).map (mA g)) (σ:RS):exprG (ts.map (mT g)) F' (mS g σ)=(exprG ts F σ).map (mA g):=by
 unfold exprG
 dsimp only
 simp only[enterS_m h0,code_m,at_m,isS_m h0,tokpos_m h0,stepS_m,leaveS_m,hF]
 repeat' split
 ·refine bind_m (g:=g) ?_ (fun r=>?_)
  ·rfl
  ·simp only[mA,wantS_m h0,hF]
   refine bind_m (g:=g) ?_ (fun q=>?_)
   ·rfl
   ·simp only[mA,wantS_m h0,hF]
    refine bind_m (g:=g) ?_ (fun u=>?_)
    ·rfl
    ·simp only[mA]
     refine putA_m (g:=g) ?_ _ (fun n y=>?_)
     ·rfl
     ·simp only[leaveS_m];rfl
 ·refine bind_m (g:=g) ?_ (fun o=>?_)
  ·rfl
  ·simp only[mA,at_m,isS_m h0,stepS_m,hF,okS_m,leaveS_m]
   repeat' split
   ·refine bind_m (g:=g) ?_ (fun r=>?_)
    ·rfl
    ·simp only[mA]
     refine putA_m (g:=g) ?_ _ (fun n y=>?_)
     ·rfl
     ·simp only[leaveS_m];rfl
   ·refine bind_m (g:=g) ?_ (fun r=>?_)
    ·rfl
    ·simp only[mA]
     refine putA_m (g:=g) ?_ _ (fun n y=>?_)
     ·rfl
     ·simp only[leaveS_m];rfl
   ·rfl
   ·rfl
 ·rfl
omit h0 in
theorem binG_m {F F':Job→RS→Ans} (hF:∀j σ,F' j (mS g σ)=(F j σ).map (mA g)) (least:Nat) (σ:RS):binG F' least (mS g σ)=(binG F least σ).map (mA g):=by
 unfold binG
 simp only[hF]
 split
 ·rfl
 ·refine bind_m (g:=g) ?_ (fun r=>?_)
  ·rfl
  ·exact hF _ _
theorem loopG_m {F F':Job→RS→Ans} (hF:∀j σ,F' j (mS g σ)=(F j σ).map (mA g)) (least:Nat) (a:Int) (σ:RS):loopG (ts.map (mT g)) F' least a (mS g σ)=(loopG ts F least a σ).map (mA g):=by
 unfold loopG
 simp only[code_m,levelS_m h0,at_m,tokpos_m h0,stepS_m,hF]
 repeat' split
 ·refine bind_m (g:=g) ?_ (fun r=>?_)
  ·rfl
  ·simp only[mA]
   refine putA_m (g:=g) ?_ _ (fun n y=>?_)
   ·rfl
   ·rfl
 ·refine bind_m (g:=g) ?_ (fun r=>?_)
  ·rfl
  ·simp only[mA]
   refine putA_m (g:=g) ?_ _ (fun n y=>?_)
   ·rfl
   ·exact hF _ _
 ·rfl
 ·rfl
theorem argsG_m {F F':Job→RS→Ans} (hF:∀j σ,F' j (mS g σ)=(F j σ).map (mA g)) (acc:List Int) (σ:RS):argsG (ts.map (mT g)) F' acc (mS g σ)=(argsG ts F acc σ).map (mA g):=by
 unfold argsG
 simp only[isS_m h0,stepS_m,hF]
 repeat' split
 ·refine bind_m (g:=g) ?_ (fun r=>?_)
  ·rfl
  ·exact hF _ _
 ·rfl
 ·rfl
theorem runE_m (f:Nat):∀(j:Job) (σ:RS),runE (ts.map (mT g)) f j (mS g σ)=(runE ts f j σ).map (mA g):=by
 induction f with
 | zero=>intro j σ;rfl
 | succ f ih =>
  intro j σ
  simp only[runE,okS_m]
  split
  ·cases j with
   | expr=>exact exprG_m h0 ts ih σ
   | pre=>exact preG_m h0 ts ih σ
   | atom=>exact atomG_m h0 ts ih σ
   | bin least=>exact binG_m ih least σ
   | loop least a=>exact loopG_m h0 ts ih least a σ
   | args acc=>exact argsG_m h0 ts ih acc σ
  ·rfl
theorem exprS_m (f:Nat) (σ:RS):exprS (ts.map (mT g)) f (mS g σ)=(exprS ts f σ).map fun r=>(r.1,mS g r.2):=by
 unfold exprS;rw[runE_m h0];cases runE ts f .expr σ <;> rfl
theorem parsL_m (n:Nat):∀(acc:List Pa) (σ:RS),parsL (ts.map (mT g)) n acc (mS g σ)=(parsL ts n acc σ).map fun r=>(r.1,mS g r.2):=by
 induction n with
 | zero=>intro acc σ;rfl
 | succ n ih =>
  intro acc σ
  simp only[parsL,code_m,nameS_m h0,wantS_m h0,kindS_m h0,isS_m h0,nameV_m h0,kindV_m h0,stepS_m,ih]
  repeat' split
  all_goals rfl
theorem paramsS_m (f:Nat) (σ:RS):paramsS (ts.map (mT g)) f (mS g σ)=(paramsS ts f σ).map fun r=>(r.1,mS g r.2):=by
 unfold paramsS
 simp only[wantS_m h0,isS_m h0,stepS_m,parsL_m h0]
 split <;> rfl
theorem statesL_m (n:Nat):∀(acc:List ByteArray) (σ:RS),statesL (ts.map (mT g)) n acc (mS g σ)=(statesL ts n acc σ).map fun r=>(r.1,mS g r.2):=by
 induction n with
 | zero=>intro acc σ;rfl
 | succ n ih =>
  intro acc σ
  simp only[statesL,nameS_m h0,isS_m h0,nameV_m h0,stepS_m,ih]
  repeat' split
  all_goals rfl
def mR (g:Nat→Nat) (r:It×Bool×RS):It×Bool×RS:=(mIt g r.1,r.2.1,mS g r.2.2)
omit h0 in
theorem bind2_m {α β:Type} {m:α→α} {o o':Option (β×RS)} {mb:β→β} (ho:o'=o.map fun r=>(mb r.1,mS g r.2)) {K K':β×RS→Option α} (hK:∀v σ,K' (mb v,mS g σ)=(K (v,σ)).map m):o'.bind K'=(o.bind K).map m:=by
 subst ho
 cases o with
 | none=>rfl
 | some r=>exact hK r.1 r.2
theorem itemF_m {i i':It} (hi:i'=mIt g i) (σ:RS):itemF (ts.map (mT g)) i' (mS g σ)=mR g (itemF ts i σ):=by
 subst hi;unfold itemF;simp only[wantS_m h0,code_m];rfl
theorem iLet_m (f:Nat) (σ:RS):iLet (ts.map (mT g)) f (mS g σ)=(iLet ts f σ).map (mR g):=by
 unfold iLet
 simp only[stepS_m,nameS_m h0,nameV_m h0,wantS_m h0,kindS_m h0,kindV_m h0,exprS_m h0,at_m,tokpos_m h0]
 refine bind2_m (g:=g) (mb:=id) rfl (fun v τ=>?_)
 refine congrArg some (itemF_m h0 ts ?_ _);rfl
theorem iDer_m (f:Nat) (σ:RS):iDer (ts.map (mT g)) f (mS g σ)=(iDer ts f σ).map (mR g):=by
 unfold iDer
 simp only[stepS_m,nameS_m h0,nameV_m h0,wantS_m h0,exprS_m h0,at_m,tokpos_m h0]
 refine bind2_m (g:=g) (mb:=id) rfl (fun v τ=>?_)
 simp only[wantS_m h0,exprS_m h0]
 refine bind2_m (g:=g) (mb:=id) rfl (fun u υ=>?_)
 refine congrArg some (itemF_m h0 ts ?_ _);rfl
theorem iReset_m (f:Nat) (σ:RS):iReset (ts.map (mT g)) f (mS g σ)=(iReset ts f σ).map (mR g):=by
 unfold iReset
 simp only[stepS_m,nameS_m h0,nameV_m h0,wantS_m h0,exprS_m h0,at_m,tokpos_m h0]
 refine bind2_m (g:=g) (mb:=id) rfl (fun v τ=>?_)
 simp only[wantS_m h0,exprS_m h0]
 refine bind2_m (g:=g) (mb:=id) rfl (fun u υ=>?_)
 refine congrArg some (itemF_m h0 ts ?_ _);rfl
theorem iMem_m (f:Nat) (σ:RS):iMem (ts.map (mT g)) f (mS g σ)=(iMem ts f σ).map (mR g):=by
 unfold iMem
 simp only[stepS_m,nameS_m h0,nameV_m h0,wantS_m h0,kindS_m h0,kindV_m h0,exprS_m h0,at_m,tokpos_m h0]
 refine bind2_m (g:=g) (mb:=id) rfl (fun v τ=>?_)
 refine congrArg some (itemF_m h0 ts ?_ _);rfl
theorem iOn_m (f:Nat) (σ:RS):iOn (ts.map (mT g)) f (mS g σ)=(iOn ts f σ).map (mR g):=by
 unfold iOn
 simp only[stepS_m,exprS_m h0,at_m,tokpos_m h0]
 refine bind2_m (g:=g) (mb:=id) rfl (fun v τ=>?_)
 simp only[nameS_m h0,nameV_m h0,wantS_m h0,exprS_m h0]
 refine bind2_m (g:=g) (mb:=id) rfl (fun u υ=>?_)
 refine congrArg some (itemF_m h0 ts ?_ _);rfl
theorem iMode_m (f:Nat) (σ:RS):iMode (ts.map (mT g)) f (mS g σ)=(iMode ts f σ).map (mR g):=by
 unfold iMode
 simp only[stepS_m,nameS_m h0,nameV_m h0,wantS_m h0,statesL_m h0,at_m,tokpos_m h0]
 refine bind2_m (g:=g) (mb:=id) rfl (fun v τ=>?_)
 simp only[wantS_m h0]
 refine congrArg some (itemF_m h0 ts ?_ _);rfl
theorem iFrom_m (f:Nat) (σ:RS):iFrom (ts.map (mT g)) f (mS g σ)=(iFrom ts f σ).map (mR g):=by
 unfold iFrom
 simp only[stepS_m,nameS_m h0,nameV_m h0,wantS_m h0,exprS_m h0,at_m,tokpos_m h0]
 refine bind2_m (g:=g) (mb:=id) rfl (fun v τ=>?_)
 simp only[wantS_m h0,nameS_m h0,nameV_m h0]
 refine congrArg some (itemF_m h0 ts ?_ _);rfl
theorem iOut_m (f:Nat) (σ:RS):iOut (ts.map (mT g)) f (mS g σ)=(iOut ts f σ).map (mR g):=by
 unfold iOut
 simp only[stepS_m,nameS_m h0,nameV_m h0,at_m,tokpos_m h0]
 refine congrArg some (itemF_m h0 ts ?_ _);rfl
theorem itemS_m (f:Nat) (all:Bool) (σ:RS):itemS (ts.map (mT g)) f all (mS g σ)=(itemS ts f all σ).map (mR g):=by
 unfold itemS
 simp only[isS_m h0,iLet_m h0,iDer_m h0,iReset_m h0,iMem_m h0,iOn_m h0,iMode_m h0,iFrom_m h0,iOut_m h0,at_m,tokpos_m h0]
 repeat' split
 all_goals rfl
theorem itsL_m (f:Nat) (all:Bool) (n:Nat):∀(acc:List It) (σ:RS),itsL (ts.map (mT g)) f all n (acc.map (mIt g)) (mS g σ)=(itsL ts f all n acc σ).map fun r=>(r.1.map (mIt g),mS g r.2):=by
 induction n with
 | zero=>intro acc σ;rfl
 | succ n ih =>
  intro acc σ
  simp only[itsL,code_m,List.length_map,itemS_m h0]
  split
  ·split
   ·cases itemS ts f all σ with
    | none=>rfl
    | some r =>
     have e:=ih (acc++[r.1]) r.2.2
     rw[List.map_append] at e
     simp only[Option.map_some,Option.bind_some,mR]
     split
     ·exact e
     ·rfl
   ·rfl
  ·rfl
theorem declS_m (f:Nat) (σ:RS):declS (ts.map (mT g)) f (mS g σ)=(declS ts f σ).map fun r=>(mDe g r.1,mS g r.2):=by
 have hi:=fun all n σ=>itsL_m h0 ts f all n [] σ
 simp only[List.map_nil] at hi
 unfold declS
 simp only[isS_m h0,stepS_m,nameS_m h0,nameV_m h0,wantS_m h0,paramsS_m h0,at_m,tokpos_m h0]
 repeat' split
 ·refine bind2_m (g:=g) (mb:=id) rfl (fun v τ=>?_)
  simp only[wantS_m h0,kindS_m h0,kindV_m h0,exprS_m h0]
  refine bind2_m (g:=g) (mb:=id) rfl (fun u υ=>?_)
  simp only[wantS_m h0];rfl
 ·refine bind2_m (g:=g) (mb:=id) rfl (fun v τ=>?_)
  simp only[wantS_m h0,kindS_m h0,kindV_m h0,hi]
  refine bind2_m (g:=g) (mb:=List.map (mIt g)) rfl (fun u υ=>?_)
  simp only[wantS_m h0,exprS_m h0]
  refine bind2_m (g:=g) (mb:=id) rfl (fun x ω=>?_)
  simp only[wantS_m h0];rfl
 ·refine bind2_m (g:=g) (mb:=id) rfl (fun v τ=>?_)
  simp only[wantS_m h0,hi]
  refine bind2_m (g:=g) (mb:=List.map (mIt g)) rfl (fun u υ=>?_)
  simp only[wantS_m h0];rfl
theorem declsG_m (f:Nat) (n:Nat):∀(acc:List De) (σ:RS),declsG (ts.map (mT g)) f n (acc.map (mDe g)) (mS g σ)=(declsG ts f n acc σ).map fun r=>(r.1.map (mDe g),mS g r.2):=by
 induction n with
 | zero=>intro acc σ;rfl
 | succ n ih =>
  intro acc σ
  simp only[declsG,code_m,at_m,List.length_map,declS_m h0,tokkind_m h0]
  split
  ·split
   ·split
    ·rfl
    ·cases declS ts f σ with
     | none=>rfl
     | some r =>
      have e:=ih (acc++[r.1]) r.2
      rw[List.map_append] at e
      exact e
   ·rfl
  ·rfl
end
theorem parse_badlex (l:List UInt8) (ts:List Tok) (f:Nat) (ht:lexT l ts (some f)) (hl:l.length≤20000) (W:World) (hS:Signs W) :
  Calls prog 8 #[.string (str l)] W fun r Y=>ParseX ⟨[],[]⟩ 1 (f:Int) W r Y :=
 (parse_call _ [] [] _ _ W (Hd fun W2 hb=>(read_lex (str l) _ 1 f (by decide) W2 (Hd fun W3 hb3=>(lex_bad l ts f ht hl W3 ((hS.below hb).below hb3)).mono fun e w' h=>h)).mono fun r Y h=>readP_none h)).mono fun r Y h=>parseX_none h
theorem parse_run (l:List UInt8) (ts:List Tok) (ht:lexT l ts none) (hl':l.length≤20000):∃(f:Nat) (ds:List De) (τ:RS),declsG (ts++[endT l.length]) f f [] rs0=some (ds,τ) ∧
  (τ.code=0→ds.length≤20001∧τ.exprs.length≤20001∧GoodP ⟨ds,τ.exprs⟩∧(∀x ∈ τ.exprs,(partsE x).length≤40000) ∧
   ∀W,Signs W→Calls prog 8 #[.string (str l)] W fun r Y=>ParseX ⟨ds,τ.exprs⟩ 0 0 W r Y) ∧
  (τ.code≠0→∀W,Signs W→Calls prog 8 #[.string (str l)] W fun r Y=>ParseX ⟨[],[]⟩ τ.code τ.pos W r Y):=by
 have he:=end_ok ht l.length
 have hk:=tok_ok ht hl' l.length
 have hc:=toks_count ht
 have g1:=gapTo_le false (Nat.zero_le l.length)
 have hlen:(ts++[endT l.length]).length≤20001:=by rw[List.length_append];simp only[List.length_cons,List.length_nil];omega
 obtain⟨f,ds,τ,hr,hg,hd⟩:=decls_ends he hk _ [] rs0 (qL _) ⟨he.1,qL _,Int.le_refl _,by decide,by omega⟩ (Nat.zero_le _) (fun _ d hd=>by cases hd)
 refine⟨f,ds,τ,hr,fun h0=>?_,fun h0 W hS=>?_⟩
 ·obtain⟨h1,h2⟩:=hd h0
  have ha:AllGood τ.exprs:=hg.good h0 (fun i x hx=>by cases i <;> cases hx)
  have hlt:=hg.lt
  have hroom:τ.exprs.length≤τ.at_:=by have:=hg.room;simp only[rs0,List.length_nil] at this;omega
  have h5:=decls_five _ _ _ _ hr h0
  have hao:AO τ:=ao_decls _ _ _ _ (fun x hx=>by cases hx) hr
  refine⟨by omega,by omega,⟨ha,h2⟩,parts_ao hao,fun W hS=>?_⟩
  refine(parse_call _ ds τ.exprs 0 0 W (Hd fun W2 hb=>readP_ok l ts ht hl' f f ds τ hr h0 h5 W2 (hS.below hb))).mono fun r Y h=>?_
  obtain⟨od,c1,o,c,e1,e2,e3,e4⟩:=h
  exact⟨_,_,e1,⟨des_own e3 h2,exs_own e4 ha,by show ds.length≤_;unfold reachN;omega,by show τ.exprs.length≤_;unfold reachN;omega⟩,e2⟩
 ·exact(parse_call _ [] [] _ _ W (Hd fun W2 hb=>(readP_bad l ts ht hl' f f ds τ hr h0 W2 (hS.below hb)).mono fun r Y h=>readP_none h)).mono fun r Y h=>parseX_none h
theorem run_same {ts ts':List Tok} (he:ts.map (mT fun _=>0)=ts'.map (mT fun _=>0)) {f n f' n':Nat} {ds ds':List De} {τ τ':RS} (h:declsG ts f n [] rs0=some (ds,τ)) (h':declsG ts' f' n' [] rs0=some (ds',τ')) :
  ds.map (mDe fun _=>0)=ds'.map (mDe fun _=>0)∧mS (fun _=>0) τ=mS (fun _=>0) τ':=by
 have e:=declsG_m (g:=fun _=>0) rfl ts (max f f') (max n n') [] rs0
 have e':=declsG_m (g:=fun _=>0) rfl ts' (max f f') (max n n') [] rs0
 rw[declsG_le (Nat.le_max_left f f') (Nat.le_max_left n n') h] at e
 rw[declsG_le (Nat.le_max_right f f') (Nat.le_max_right n n') h'] at e'
 rw[he] at e
 have e2:=qI (e.symm.trans e')
 exact⟨congrArg Prod.fst e2,congrArg Prod.snd e2⟩
theorem run_code {ts ts':List Tok} (he:ts.map (mT fun _=>0)=ts'.map (mT fun _=>0)) {f n f' n':Nat} {ds ds':List De} {τ τ':RS} (h:declsG ts f n [] rs0=some (ds,τ)) (h':declsG ts' f' n' [] rs0=some (ds',τ')):τ.code=τ'.code :=
 by have e:=congrArg RS.code (run_same he h h').2;exact e
end Go.Proofs.YtpfmlfcaadnnpaaGreatDoor
namespace Go.Proofs.YtpfmlfcaadnnpaaGreatDoor.Lx
open Go.RowKit
theorem gapN_bl (b:Bool) (l:List UInt8):gapN b l<l.length∧gapN b (l++[32])=gapN b l∨gapN b l=l.length∧gapN b (l++[32])=l.length+1:=by
 induction l generalizing b with
 | nil=>cases b <;> simp[gapN,isBlank]
 | cons c l ih =>
  rw[List.cons_append]
  have h1:=ih true
  have h2:=ih false
  cases b
  ·simp only[gapN,List.length_cons]
   split
   ·omega
   ·split <;> omega
  ·simp only[gapN,List.length_cons]
   split <;> omega
theorem one_bl {l:List UInt8} {k n:Nat} {v:Int} (h:oneL l=some (k,n,v)):oneL (l++[32])=some (k,n,v):=by
 have e:l++[32]=l.take n++(l.drop n++[32]):=by rw[←List.append_assoc,List.take_append_drop]
 rw[e]
 refine one_stab h (.inr ?_)
 cases l.drop n with
 | nil=>exact⟨32,[],rfl,.inl rfl⟩
 | cons c x =>
  refine⟨c,x++[32],rfl,.inr ⟨x,rfl,.inr ?_⟩⟩
  cases x with
  | nil=>exact⟨32,[],rfl,.inl rfl⟩
  | cons d y=>exact⟨d,y++[32],rfl,.inr ⟨y,rfl⟩⟩
theorem toks_bl {s:List UInt8} {a:Nat} {ts:List Tok} (h:Toks s a ts none) :
  ∀e,e≤s.length→a=gapTo false s e→Toks (s++[32]) (gapTo false (s++[32]) e) ts none:=by
 have hd:∀e,e≤s.length→(s++[32]).drop e=s.drop e++[32]:=fun e he=>by rw[List.drop_append_of_le_length he]
 generalize hr:none=r at h
 induction h with
 | fin h =>
  intro e he hae
  have h2:gapN false (s.drop e)=(s.drop e).length:=by
   have:=gapN_le false (s.drop e)
   unfold gapTo at hae
   rw[List.length_drop] at *
   omega
  rcases gapN_bl false (s.drop e) with ⟨h3,_⟩ | ⟨_,h3⟩
  ·omega
  ·have h4:gapTo false (s++[32]) e=s.length+1:=by
    unfold gapTo
    rw[hd e he,h3,List.length_drop]
    omega
   rw[h4]
   exact .fin (by simp)
 | bad=>cases hr
 | @tok a ts r h h1 h2 ih =>
  subst hr
  intro e he hae
  have hlen:=tokAt_len h1
  have hg:gapTo false (s++[32]) e=a:=by
   rw[hae] at h
   unfold gapTo at h hae ⊢
   rw[hd e he]
   rcases gapN_bl false (s.drop e) with ⟨_,h3⟩ | ⟨h3,_⟩
   ·rw[h3,hae]
   ·rw[List.length_drop] at h3;omega
  obtain⟨⟨k,n,v⟩,ho⟩:=Option.ne_none_iff_exists'.1 h1
  have ho2:oneL ((s++[32]).drop a)=some (k,n,v):=by rw[hd a (by omega)];exact one_bl ho
  have ht:tokAt (s++[32]) a=tokAt s a:=by
   unfold tokAt
   rw[ho,ho2]
   show Tok.mk k (((s++[32]).drop a).take n) v a=Tok.mk k ((s.drop a).take n) v a
   rw[hd a (by omega),List.take_append_of_le_length (oneL_some ho).2.2.2]
  rw[hg,←ht]
  refine .tok (by rw[List.length_append,List.length_cons];omega) (by rw[ho2];simp) ?_
  rw[ht];exact ih rfl _ hlen.2 rfl
theorem lex_bl {s:List UInt8} {ts:List Tok} (h:lexT s ts none):lexT (s++[32]) ts none:=toks_bl h 0 (Nat.zero_le _) rfl
def gapsT (ts:List Tok):List UInt8:=ts.flatMap fun t=>t.text++[32]
theorem gaps_join:∀(t:Tok) (ts:List Tok),gapsT (t :: ts)=joinT (t :: ts)++[32]
 | t,[]=>by simp[gapsT,joinT]
 | t,u :: ts=>by
  have e:=gaps_join u ts
  have e1:gapsT (t :: u :: ts)=t.text++[32]++gapsT (u :: ts):=by simp[gapsT]
  rw[e1,e]
  simp[joinT]
theorem lex_gaps (ts:List Tok) (h:∀t ∈ ts,Good t):lexT (gapsT ts) (placed 0 ts) none:=by
 cases ts with
 | nil=>exact .fin (by simp[gapsT])
 | cons t ts=>rw[gaps_join];exact lex_bl (lex_join _ h)
theorem gaps_len {l:List UInt8} {a:Nat} {ts:List Tok} {r:Option Nat} (h:Toks l a ts r):(gapsT ts).length≤2*(l.length-a):=by
 induction h with
 | fin h=>simp[gapsT]
 | bad h=>simp[gapsT]
 | @tok a ts r h h1 h2 ih =>
  have hlen:=tokAt_len h1
  have hg:=gapTo_ge false l (a+(tokAt l a).text.length)
  have e:gapsT (tokAt l a :: ts)=(tokAt l a).text++[32]++gapsT ts:=by simp[gapsT]
  rw[e]
  simp only[List.length_append,List.length_singleton]
  omega
end Go.Proofs.YtpfmlfcaadnnpaaGreatDoor.Lx
namespace Go.Proofs.YtpfmlfcaadnnpaaGreatDoor
open Go.RowKit Lx
theorem placed_same (n:Nat) (ts:List Tok):(placed n ts).map (mT fun _=>0)=ts.map (mT fun _=>0):=by
 induction ts generalizing n with
 | nil=>rfl
 | cons t ts ih=>simp only[placed,List.map_cons,ih];rfl
theorem gaps_calls (l:List UInt8) (hl:l.length≤4000) (ts:List Tok) (ht:lexT l ts none):∃(p q:Pr) (cd f cd2 f2:Int),
  (∀W,Signs W→Calls prog 8 #[.string (str l)] W fun r Y=>ParseX p cd f W r Y) ∧
  (∀W,Signs W→Calls prog 8 #[.string (str (gapsT ts))] W fun r Y=>ParseX q cd2 f2 W r Y) ∧
  (cd=0→cd2=0∧GoodP p∧GoodP q∧(∀x ∈ p.exprs,(partsE x).length≤40000)∧(∀x ∈ q.exprs,(partsE x).length≤40000)∧p.decls.length≤20001∧p.exprs.length≤20001 ∧
   p.decls.map (mDe fun _=>0)=q.decls.map (mDe fun _=>0)∧p.exprs.map (mX fun _=>0)=q.exprs.map (mX fun _=>0)):=by
 have hgl:=gaps_len ht
 have hl2:(gapsT ts).length≤20000:=by omega
 have h2:=lex_gaps ts (toks_good ht)
 obtain⟨f,ds,τ,hr,hg,hb⟩:=parse_run l ts ht (by omega)
 obtain⟨f',ds',τ',hr',hg',hb'⟩:=parse_run _ _ h2 hl2
 have he:(ts++[endT l.length]).map (mT fun _=>0)=(placed 0 ts++[endT (gapsT ts).length]).map (mT fun _=>0):=by
  rw[List.map_append,List.map_append,placed_same]
  simp[mT,endT]
 have e:τ.code=τ'.code:=run_code he hr hr'
 have es:=run_same he hr hr'
 by_cases h0:τ.code=0
 ·obtain⟨a1,a2,a3,a4,hC⟩:=hg h0
  obtain⟨b1,b2,b3,b4,hC'⟩:=hg' (e ▸ h0)
  exact⟨_,_,0,0,0,0,hC,hC',fun _=>⟨rfl,a3,b3,a4,b4,a1,a2,es.1,congrArg RS.exprs es.2⟩⟩
 ·exact⟨_,_,_,_,_,_,hb h0,hb' (e ▸ h0),fun h=>absurd h h0⟩
def ReadX (es:List Ex) (cd f:Int) (W:World) (r:Ending) (Y:World):Prop :=
 ∃o c,r=.returned (.tuple #[.agg #[.slice none 0 0,.slice o es.length c],.agg #[.int .i64 cd,.int .i64 f]])∧Below W.heap.size W Y∧ExsOwn Y W.heap.size (fun _=>False) (.slice o es.length c) es
def ExprX (es:List Ex) (cd f:Int) (W:World) (r:Ending) (Y:World):Prop :=
 ∃o c,r=.returned (.tuple #[.agg #[.slice none 0 0,.slice o es.length c],.int .i64 ((es.length-1:Nat):Int),.agg #[.int .i64 cd,.int .i64 f]])∧ExsOwn Y W.heap.size (fun _=>False) (.slice o es.length c) es∧Below W.heap.size W Y
theorem rg_two_boxes (w:World) (c d:Array Value) (S T:Nat):((w.alloc (.cells c S)).alloc (.cells d T)).heap[w.heap.size]?=some (.cells c S (0,0))∧((w.alloc (.cells c S)).alloc (.cells d T)).heap[w.heap.size+1]?=some (.cells d T (0,0)):=by
 constructor
 ·rw[heap_alloc_old _ _ (by simp)];exact heap_alloc_new w _
 ·have:=heap_alloc_new (w.alloc (.cells c S)) (.cells d T)
  rw[World.size_alloc] at this
  exact this
theorem expr_call (s:ByteArray) (es:List Ex) (cd f:Int) (hl:es.length≤40000) (W:World) (C:Hid (∀W2,Below W.heap.size W W2→Calls prog 15 #[.string s,.func (.func 25) #[] #[]] W2 fun r Y=>ReadX es cd f W2 r Y)) :
  Calls prog 12 #[.string s] W fun r Y=>ExprX es cd f W r Y:=by
 obtain⟨W2,hW2⟩:∃W2,W2=(W.alloc (.cells #[.slice none 0 0,.slice none 0 0] 26)).alloc (.cells #[.int .i64 0,.int .i64 0] 29):=⟨_,rfl⟩
 have hb2:Below W.heap.size W W2:=by rw[hW2];exact((qB _ _).alloc (qL _) _).alloc (by simp) _
 have hs2:W2.heap.size=W.heap.size+2:=by rw[hW2];simp
 have hP:W2.heap[W.heap.size]?=some (.cells #[.slice none 0 0,.slice none 0 0] 26 (0,0)):=by
  rw[hW2,heap_alloc_old _ _ (by simp)];exact heap_alloc_new W _
 have hF:W2.heap[W.heap.size+1]?=some (.cells #[.int .i64 0,.int .i64 0] 29 (0,0)):=by
  have:=heap_alloc_new (W.alloc (.cells #[.slice none 0 0,.slice none 0 0] 26)) (.cells #[.int .i64 0,.int .i64 0] 29)
  rw[World.size_alloc] at this
  rw[hW2];exact this
 obtain⟨L,hL⟩:∃L,L=es.length:=⟨_,rfl⟩
 have C2:Hid (Calls prog 15 #[.string s,.func (.func 25) #[] #[]] W2 fun r Y=>∃o c,r=.returned (.tuple #[.agg #[.slice none 0 0,.slice o L c],.agg #[.int .i64 cd,.int .i64 f]])∧Hid (Below W2.heap.size W2 Y∧ExsOwn Y W2.heap.size (fun _=>False) (.slice o L c) es)):=Hd ((C.out W2 hb2).mono fun r Y ⟨o,c,h1,h2,h3⟩=>⟨o,c,by rw[hL];exact h1,Hd ⟨h2,by rw[hL];exact h3⟩⟩)
 have hL4:(L:Int)≤40000:=by omega
 have HL:=Hd hL
 have HB2:=Hd hb2
 have HPF:=Hd (show _∧_ from⟨hP,hF⟩)
 have HS2:=Hd hs2
 have M1:IntKind.i64.wrap ((L:Int)-1)=((L:Int)-1):=by rw[IntKind.wrap_i64];omega
 clear hb2 hs2 hP hF C hL hl
 go_enter Tryz.func12,Tryz.ntmps12
 go_wp2_with (go_at_call 15;rw[←hW2];clear hW2;(with_reducible refine C2.out.mono ?_);rintro e w3 ⟨o,c,rfl,h3⟩)
 obtain⟨V,hV⟩:∃V,V=(w3.alloc (.cells #[.slice none 0 0,.slice o L c] 26)).alloc (.cells #[.int .i64 cd,.int .i64 f] 29):=⟨_,rfl⟩
 obtain⟨v1,v2⟩:=rg_two_boxes w3 #[.slice none 0 0,.slice o L c] #[.int .i64 cd,.int .i64 f] 26 29
 have hbV:Below w3.heap.size w3 V:=by rw[hV];exact((qB _ _).alloc (qL _) _).alloc (by simp) _
 rw[←hV] at v1 v2 ⊢
 have h2:=HS2.out
 have h3s:=h3.out.1.size
 have hPV:V.heap[W.heap.size]?=some (.cells #[.slice none 0 0,.slice none 0 0] 26 (0,0)):=(hbV.block _ (by omega)).trans ((h3.out.1.block _ (by omega)).trans HPF.out.1)
 have hFV:V.heap[W.heap.size+1]?=some (.cells #[.int .i64 0,.int .i64 0] 29 (0,0)):=(hbV.block _ (by omega)).trans ((h3.out.1.block _ (by omega)).trans HPF.out.2)
 have p0':V.cell? ⟨W.heap.size,0,none⟩=some (.slice none 0 0):=by simp[World.cell?,hPV]
 have p1':V.cell? ⟨W.heap.size,1,none⟩=some (.slice none 0 0):=by simp[World.cell?,hPV]
 have p2':V.frozen? ⟨W.heap.size,0,none⟩=false:=by simp[World.frozen?,hPV]
 have p3':V.frozen? ⟨W.heap.size,1,none⟩=false:=by simp[World.frozen?,hPV]
 have u0':V.cell? ⟨W.heap.size+1,0,none⟩=some (.int .i64 0):=by simp[World.cell?,hFV]
 have u1':V.cell? ⟨W.heap.size+1,1,none⟩=some (.int .i64 0):=by simp[World.cell?,hFV]
 have u2':V.frozen? ⟨W.heap.size+1,0,none⟩=false:=by simp[World.frozen?,hFV]
 have u3':V.frozen? ⟨W.heap.size+1,1,none⟩=false:=by simp[World.frozen?,hFV]
 have a0:V.cell? ⟨w3.heap.size,0,none⟩=some (.slice none 0 0):=by simp[World.cell?,v1]
 have a1:V.cell? ⟨w3.heap.size,1,none⟩=some (.slice o L c):=by simp[World.cell?,v1]
 have a2:V.cell? ⟨w3.heap.size+1,0,none⟩=some (.int .i64 cd):=by simp[World.cell?,v2]
 have a3:V.cell? ⟨w3.heap.size+1,1,none⟩=some (.int .i64 f):=by simp[World.cell?,v2]
 have HV:=Hd (show _∧_∧_ from⟨hPV,hFV,hbV⟩)
 have n1:W.heap.size<w3.heap.size:=by omega
 have n2:W.heap.size+1<w3.heap.size:=by omega
 clear hPV hFV hbV v1 v2 hV h2
 have mixed:prog.follows .mixedOrders=true:=by kernel_rfl
 have late:prog.follows .lateStores=true:=by kernel_rfl
 go_region_o
 go_wp2_with fail
 obtain⟨Y,hY⟩:∃Y,Y=(((V.setCell ⟨W.heap.size,0,none⟩ (.slice none 0 0)).setCell ⟨W.heap.size,1,none⟩ (.slice o L c)).setCell ⟨W.heap.size+1,0,none⟩ (.int .i64 cd)).setCell ⟨W.heap.size+1,1,none⟩ (.int .i64 f):=⟨_,rfl⟩
 rw[←hY]
 have k1:Y.drew.heap[W.heap.size]?=some (.cells #[.slice none 0 0,.slice o L c] 26 (0,0)):=by
  show Y.heap[W.heap.size]?=_
  rw[hY,Below.heap_setCell _ _ _ _ (by simp),Below.heap_setCell _ _ _ _ (by simp),set_blk (set_blk HV.out.1 0 _) 1 _];rfl
 have k2:Y.drew.heap[W.heap.size+1]?=some (.cells #[.int .i64 cd,.int .i64 f] 29 (0,0)):=by
  show Y.heap[W.heap.size+1]?=_
  rw[hY,set_blk (set_blk (((Below.heap_setCell _ _ _ _ (by simp)).trans (Below.heap_setCell _ _ _ _ (by simp))).trans HV.out.2.1) 0 _) 1 _];rfl
 have hYk:∀k,W.heap.size+1<k→Y.drew.heap[k]?=V.heap[k]?:=fun k hk=>by
  show Y.heap[k]?=_
  rw[hY,Below.heap_setCell _ _ _ _ (by simp;omega),Below.heap_setCell _ _ _ _ (by simp;omega),Below.heap_setCell _ _ _ _ (by simp;omega),Below.heap_setCell _ _ _ _ (by simp;omega)]
 have r0:Y.drew.cell? ⟨W.heap.size,0,none⟩=some (.slice none 0 0):=by simp[World.cell?,k1]
 have r1:Y.drew.cell? ⟨W.heap.size,1,none⟩=some (.slice o L c):=by simp[World.cell?,k1]
 have r2:Y.drew.cell? ⟨W.heap.size+1,0,none⟩=some (.int .i64 cd):=by simp[World.cell?,k2]
 have r3:Y.drew.cell? ⟨W.heap.size+1,1,none⟩=some (.int .i64 f):=by simp[World.cell?,k2]
 have hb3:Below W.heap.size W w3:=HB2.out.trans (h3.out.1.mono HB2.out.size)
 have hb4:Below W.heap.size W V:=hb3.trans (HV.out.2.2.mono hb3.size)
 have hbX:Below W.heap.size W Y:=by
  rw[hY]
  exact(((hb4.setCell (p:=⟨W.heap.size,0,none⟩) (qL _) _).setCell (p:=⟨W.heap.size,1,none⟩) (qL _) _).setCell (p:=⟨W.heap.size+1,0,none⟩) (Nat.le_succ _) _).setCell (p:=⟨W.heap.size+1,1,none⟩) (Nat.le_succ _) _
 have hbY:Below W.heap.size W Y.drew:=hbX.trans (below_dr (qB _ _) 1)
 have hown:ExsOwn Y.drew W.heap.size (fun _=>False) (.slice o L c) es:=(h3.out.2.same fun k hk hk2=>(hYk k (by have:=HS2.out;omega)).trans (HV.out.2.2.block k hk2)).base HB2.out.size
 have hmax:max ((L:Int)-1) 0=((es.length-1:Nat):Int):=by have:=HL.out;omega
 refine bodyPost_ret (v:=.tuple #[.agg #[.slice none 0 0,.slice o L c],.int .i64 (max ((L:Int)-1) 0),.agg #[.int .i64 cd,.int .i64 f]]) (by simp[results,Tryz.results12,go_sem,r0,r1,r2,r3]) rfl ?_
 rw[hmax]
 exact⟨o,c,by rw[←HL.out],by rw[←HL.out];exact hown,hbY⟩
theorem expr_run {l:List UInt8} {ts:List Tok} {f:Nat} {v:Int} {lx:List Int} {τ:RS} (ht:lexT l ts none) (hl:l.length≤20000) (hr:runE (ts++[endT l.length]) f .expr rs0=some (v,lx,τ)) (h0:τ.code=0) (h5:(tokL (ts++[endT l.length]) τ.at_).kind=5) (hn:τ.exprs.length≤40000) (W:World) (hS:Signs W) :
  Calls prog 12 #[.string (str l)] W fun r Y=>ExprX τ.exprs 0 0 W r Y :=
 expr_call _ _ _ _ hn W (Hd fun W2 hb=>read_ok l ts ht hl f τ v lx hr h0 h5 W2 (hS.below hb))
theorem zero {σ τ:RS} (h:Stays σ τ) (h0:τ.code=0):σ.code=0:=by
 rcases Int.decEq σ.code 0 with hc | hc
 ·have:=(h hc).1
  rw[h0] at this
  exact absurd this.symm hc
 ·exact hc
section
variable {us vs:List Tok} {e c:Tok} (he:e.kind=5) (hk:c.kind=4) (ht:c.text=[41]) {k:Int}
end
section
variable (t0:Tok) (ts:List Tok)
end
end Go.Proofs.YtpfmlfcaadnnpaaGreatDoor
namespace Go.Proofs.YtpfmlfcaadnnpaaGreatDoor.Lx
open Go.RowKit

end Go.Proofs.YtpfmlfcaadnnpaaGreatDoor.Lx
namespace Go.Proofs.YtpfmlfcaadnnpaaGreatDoor
open Go.RowKit Lx

end Go.Proofs.YtpfmlfcaadnnpaaGreatDoor
namespace Go.Proofs.YtpfmlfcaadnnpaaGreatDoor
open Go.RowKit
attribute [local go_sem] Oper.semAt_some
end Go.Proofs.YtpfmlfcaadnnpaaGreatDoor
namespace Go.Proofs.YtpfmlfcaadnnpaaGreatDoor
open Go.RowKit
attribute [local go_sem] Oper.semAt_some
theorem two_boxes (w:World) (c d:Array Value) (S T:Nat):((w.alloc (.cells c S)).alloc (.cells d T)).heap[w.heap.size]?=some (.cells c S (0,0))∧((w.alloc (.cells c S)).alloc (.cells d T)).heap[w.heap.size+1]?=some (.cells d T (0,0)):=by
 constructor
 ·rw[heap_alloc_old _ _ (by simp)];exact heap_alloc_new w _
 ·have:=heap_alloc_new (w.alloc (.cells c S)) (.cells d T)
  rw[World.size_alloc] at this
  exact this
theorem two_boxes' (w:World) (c d:Array Value) (S T:Nat):((w.alloc (.cells c S)).alloc (.cells d T)).drew.heap[w.heap.size]?=some (.cells c S (0,0))∧((w.alloc (.cells c S)).alloc (.cells d T)).drew.heap[w.heap.size+1]?=some (.cells d T (0,0)):=two_boxes w c d S T
end Go.Proofs.YtpfmlfcaadnnpaaGreatDoor
namespace Go.Proofs.YtpfmlfcaadnnpaaGreatDoor
open Go.RowKit Go.Shelf
attribute [local go_sem] Oper.semAt_some
theorem aint_info:(prog.info? 3).map (fun i=>(i.zero,i.size,i.bytes))=some (some (.int .i64 0),1,8):=by kernel_rfl
def intV (p:Int):Value:=.int .i64 p
def NewInts (l:List Int) (w:World) (e:Ending) (w':World):Prop:=∃v,e=.returned v∧w'.ownsRow w.heap.size 3 1 v l.length (l.map intV)∧Below w.heap.size w w'
def exV (x:Ex) (s:Value):Value:=.agg (exCells x s)
end Go.Proofs.YtpfmlfcaadnnpaaGreatDoor
namespace Go.Proofs.YtpfmlfcaadnnpaaGreatDoor
open Go.RowKit
theorem wpList_append_ints (w:World) {ops:Array Oper} {rest:List Oper} {o:Oper} {a:Act} {Q:Exit→Act→World→Prop}
  (hg:o.guard=none) (s x:Operand) (hop:o.op=Op.call { callee:=Callee.builtin Builtin.append,args:=#[s,x],argTypes:=#[44,44] })
  (base:Nat) (v:Value) (k:Nat) (xs:List Value) (hs:a.eval s=v) (hown:w.ownsRow base 3 1 v k xs) (oa:Option Addr) (m cap b off:Nat) (hx:a.eval x=.slice oa m cap) (hcap:CapOk oa cap) (ho:0<m→oa=some ⟨b,off,none⟩)
  (l:List Int) (hl:l.length=m) (hc:∀j,j<m→w.cell? ⟨b,off+j,none⟩=some (.int .i64 (l.getD j 0))) (hk:k+m≤1000000000) (b3:base≤w.heap.size)
  (hK:∀v' w',w'.ownsRow base 3 1 v' (k+m) (xs++l.map intV)→w.grownBy w' v.ownBlock→wpList prog ops Q rest (a.put o.dst v') w') :
  wpList prog ops Q (o :: rest) a w:=by
 obtain⟨i,h2,h3,h4,h5⟩:=info_parts aint_info
 cases oa with
 | none =>
  obtain rfl:m=0:=by rcases Nat.eq_zero_or_pos m with h | h;exact h;exact absurd (ho h) (by simp)
  obtain rfl:cap=0:=hcap.2 rfl
  refine wpList_append_own_none hg s x 44 hop base 3 i 1 Tryz.underlying44 h2 v k xs hs hown hx (hK _ _ ?_ ⟨rfl,rfl,rfl,qL _,fun _ _ _=>rfl⟩)
  obtain rfl:l=[]:=List.eq_nil_of_length_eq_zero hl
  simpa using hown
 | some ad =>
  refine wpList_append_own _ hg s x 44 hop base 3 i _ 1 8 Tryz.underlying44 h2 h3 h4 h5 rfl (by decide) v k xs hs hown ad m cap (l.map intV) hx (by rw[List.length_map,hl,Nat.mul_one]) ?_ ?_ (by unfold maxLen;omega) (by omega) b3 (fun v' w' r1 r2 _=>hK v' w' r1 r2)
  ·intro j u hj
   rw[List.getElem?_map,Option.map_eq_some_iff] at hj
   obtain⟨z,hz,rfl⟩:=hj
   have hjl:=(List.getElem?_eq_some_iff.1 hz).1
   obtain rfl:ad=⟨b,off,none⟩:=qI (ho (by omega))
   have:=hc j (by omega)
   rw[List.getD_eq_getElem?_getD,hz] at this
   rw[show(⟨b,off,none⟩:Addr).add j=⟨b,off+j,none⟩ by unfold Addr.add;split <;> simp_all,this]
   rfl
  ·intro u hu
   obtain⟨z,_,rfl⟩:=List.mem_map.1 hu
   rfl
theorem empty_row (W:World) (B base:Nat) (hB:W.heap[B]?=some (.cells #[] 3 (0,0))) (hb:base≤B):W.ownsRow base 3 1 (.slice (some ⟨B,0,none⟩) 0 0) 0 [] :=
 ⟨rfl,.inr ⟨B,0,#[],rfl,hb,hB,qL _,by unfold maxLen;omega,rfl,rfl⟩⟩
theorem heap_new2 (w:World) (o o':Obj):((w.alloc o).alloc o').heap[w.heap.size+1]?=some o':=by have:=World.alloc_heap_new (w.alloc o) o';rwa [World.size_alloc] at this
theorem Below.alloc2 (w:World) (o o':Obj):Below w.heap.size w ((w.alloc o).alloc o'):=((qB _ _).alloc (qL _) _).alloc (by simp) _
theorem refParts_args (x:Ex) (hk:x.kind=19) (o:Option Addr) (cap b off n:Nat) (hn:Hid (x.args.length=n)) (nl:n≤40000) (hcap:Hid (CapOk o cap)) (ho:Hid (0<n→o=some ⟨b,off,none⟩)) (w:World) (hc:Hid (∀j,j<n→w.cell? ⟨b,off+j,none⟩=some (.int .i64 (x.args.getD j 0)))) :
  Calls prog 46 #[.agg #[.int .i64 x.kind,.int .i64 x.a,.int .i64 x.b,.int .i64 x.c,.string x.name,.string x.state,.int .i64 x.v,.slice o n cap,.int .i64 x.pos]] w fun e w'=>NewInts (partsE x) w e w':=by
 have hpl:=Hd (partsE_19 hk)
 have hm:manyR x.kind=-1:=by unfold manyR;rw[if_pos hk]
 rw[hk] at hm ⊢
 have HM:=Hd hm
 clear hm hk
 go_enter Tryz.func46,Tryz.ntmps46
 go_wp2_with (first | (go_at_call 45;((with_reducible refine(many_any _ _).mono ?_);rintro e w1 ⟨rfl,rfl⟩;rw[HM.out])) | (at_builtin;refine wpList_append_ints _ rfl _ _ rfl w.heap.size (.slice (some ⟨w.heap.size+1,0,none⟩) 0 0) 0 [] rfl (empty_row _ _ _ (heap_new2 _ _ _) (by omega)) o n cap b off rfl hcap.out ho.out x.args hn.out (fun j hj=>cell_on (Below.alloc2 _ _ _) (hc.out j hj)) (by omega) (by simp;omega) ?_;intro v' w2 hown hg;have H1:=Hd hown;have H2:=Hd hg;clear hown hg))
 go_ret
 refine⟨_,rfl,?_,?_⟩
 ·rw[hpl.out,hn.out]
  have:=H1.out
  rwa [Nat.zero_add,List.nil_append] at this
 ·refine⟨H2.out.os,H2.out.tape,H2.out.output,Nat.le_trans (by simp;omega) H2.out.size,fun k hk=>(H2.out.block k (by simp;omega) (fun e=>by simp[Value.ownBlock] at e;omega)).trans ((Below.alloc2 w _ _).block k hk)⟩
theorem refParts_abc (x:Ex) (hk:¬x.kind=19) (s:Value) (w:World) :
  Calls prog 46 #[.agg #[.int .i64 x.kind,.int .i64 x.a,.int .i64 x.b,.int .i64 x.c,.string x.name,.string x.state,.int .i64 x.v,s,.int .i64 x.pos]] w fun e w'=>NewInts (partsE x) w e w':=by
 have hpl:=Hd (partsE_abc hk)
 have hln:=Hd (partsE_len hk)
 have hmn:=manyOf_le x.kind
 obtain⟨m,hm⟩:∃m,m=manyOf x.kind:=⟨_,rfl⟩
 have hm2:manyR x.kind=(m:Int):=by unfold manyR;rw[if_neg hk,hm]
 have HM:=Hd hm2
 rw[←hm] at hmn hpl hln
 clear hm2 hk hm
 have q0:(m:Int)≤3:=by omega
 go_enter Tryz.func46,Tryz.ntmps46
 go_wp2_with (first | (go_at_call 45;((with_reducible refine(many_any _ _).mono ?_);rintro e w1 ⟨rfl,rfl⟩;rw[HM.out])))
 go_ret
 refine⟨_,rfl,?_,Below.alloc2 _ _ _⟩
 rw[hln.out]
 refine⟨by rw[List.length_map,hln.out,Nat.mul_one],.inr ⟨w.heap.size+1,3,#[.int .i64 x.a,.int .i64 x.b,.int .i64 x.c],rfl,by omega,heap_new2 _ _ _,by omega,by unfold maxLen;omega,rfl,?_⟩⟩
 rw[hpl.out,Nat.mul_one,List.map_take]
 rfl
theorem refParts_any (x:Ex) (s:Value) (w:World) (ha:IntsAt w s x.args) (hp:(partsE x).length≤40000):Calls prog 46 #[exV x s] w fun e w'=>NewInts (partsE x) w e w':=by
 by_cases h19:x.kind=19
 ·obtain⟨o,cap,b,off,rfl,h1,h2,h3,h4⟩:=ha
  exact refParts_args x h19 o cap b off _ (Hd rfl) (by rw[partsE_19 h19] at hp;exact hp) (Hd h2) (Hd h3) w (Hd fun j hj=>by have:=h4 j hj;rwa [Nat.mul_one] at this)
 ·exact refParts_abc x h19 s w
end Go.Proofs.YtpfmlfcaadnnpaaGreatDoor
namespace Go.Proofs.YtpfmlfcaadnnpaaGreatDoor
open Go.RowKit Go.Shelf
attribute [local go_sem] Oper.semAt_some
end Go.Proofs.YtpfmlfcaadnnpaaGreatDoor
namespace Go.Proofs.YtpfmlfcaadnnpaaGreatDoor
open Go.RowKit
theorem has_any (k:Int) (w:World):Calls prog 24 #[.int .i64 k] w fun e w'=>e=.returned (.tuple #[.bool (hasE k),.bool (hasF k)])∧w'=w:=by
 by_cases h:1≤k∧k≤7
 ·have h2:k=1∨k=2∨k=3∨k=4∨k=5∨k=6∨k=7:=by omega
  clear h
  rcases h2 with rfl | rfl | rfl | rfl | rfl | rfl | rfl
  all_goals
   go_enter Tryz.func24,Tryz.ntmps24
   go_wp2_with fail
   go_ret2
   exact⟨rfl,rfl⟩
 ·have hr1:hasE k=false:=by unfold hasE;rw[qF (show ¬k=1 by omega),qF (show ¬k=4 by omega),qF (show ¬k=2 by omega),qF (show ¬k=3 by omega),qF (show ¬k=5 by omega)];rfl
  have hr2:hasF k=false:=by unfold hasF;rw[qF (show ¬k=2 by omega),qF (show ¬k=3 by omega),qF (show ¬k=5 by omega),qF (show ¬k=7 by omega)];rfl
  have e2:(k ==2)=false:=beq_false_of_ne (by omega)
  have e3:(k ==3)=false:=beq_false_of_ne (by omega)
  have e5:(k ==5)=false:=beq_false_of_ne (by omega)
  have e7:(k ==7)=false:=beq_false_of_ne (by omega)
  rw[hr1,hr2]
  clear hr1 hr2
  by_cases h1:1≤k
  ·have t1:decide (1≤k)=true:=qT h1
   have t2:decide (k≤5)=false:=qF (by omega)
   clear h h1
   go_enter Tryz.func24,Tryz.ntmps24
   go_wp2_with fail
   go_ret2
   exact⟨rfl,rfl⟩
  ·have t1:decide (1≤k)=false:=qF h1
   clear h h1
   go_enter Tryz.func24,Tryz.ntmps24
   go_wp2_with fail
   go_ret2
   exact⟨rfl,rfl⟩
end Go.Proofs.YtpfmlfcaadnnpaaGreatDoor
namespace Go.Proofs.YtpfmlfcaadnnpaaGreatDoor
open Go.RowKit Go.Shelf
attribute [local go_sem] Oper.semAt_some
end Go.Proofs.YtpfmlfcaadnnpaaGreatDoor
namespace Go.Proofs.YtpfmlfcaadnnpaaGreatDoor
open Go.RowKit Go.Shelf
attribute [local go_sem] Oper.semAt_some
end Go.Proofs.YtpfmlfcaadnnpaaGreatDoor
namespace Go.Proofs.YtpfmlfcaadnnpaaGreatDoor
open Go.RowKit Go.Shelf
attribute [local go_sem] Oper.semAt_some
end Go.Proofs.YtpfmlfcaadnnpaaGreatDoor
namespace Go.Proofs.YtpfmlfcaadnnpaaGreatDoor
open Go.RowKit Go.Shelf
attribute [local go_sem] Oper.semAt_some
end Go.Proofs.YtpfmlfcaadnnpaaGreatDoor
namespace Go.Proofs.YtpfmlfcaadnnpaaGreatDoor
open Go.RowKit Go.Shelf

end Go.Proofs.YtpfmlfcaadnnpaaGreatDoor
namespace Go.Proofs.YtpfmlfcaadnnpaaGreatDoor
open Go.RowKit

end Go.Proofs.YtpfmlfcaadnnpaaGreatDoor
namespace Go.Proofs.YtpfmlfcaadnnpaaGreatDoor
open Go.RowKit Go.Shelf
attribute [local go_sem] Oper.semAt_some
theorem ix_il {o:Option Addr} {n cap g:Nat} (h:0<n→o=some ⟨g,0,none⟩) {j:Nat} (hj:j<n) (hn:n≤9223372036854775807):Ix 44 1 (.slice o n cap) g 0 j:=by
 intro W
 rw[h (by omega)]
 have h1:(j:Int)<(n:Int):=by omega
 have h2:(j:Int)≤9223372036854775807:=by omega
 go_simp
theorem own_sl {w:World} {base:Nat} {v:Value} {l:List Int} (h:w.ownsRow base 3 1 v l.length (l.map intV)) :
  ∃o cap g,v=.slice o l.length cap∧(0<l.length→o=some ⟨g,0,none⟩)∧∀j,j<l.length→w.cell? ⟨g,j,none⟩=some (.int .i64 (l.getD j 0)):=by
 rcases Nat.eq_zero_or_pos l.length with h0 | h0
 ·have hl:l=[]:=List.length_eq_zero_iff.1 h0
  subst hl
  rcases h.2 with ⟨rfl,_⟩ | ⟨g,cap,cur,rfl,_⟩
  ·exact⟨none,0,0,rfl,by simp,by simp⟩
  ·exact⟨some ⟨g,0,none⟩,cap,g,rfl,fun _=>rfl,by simp⟩
 ·obtain⟨m,hm⟩:∃m,l.length=m+1:=⟨l.length-1,by omega⟩
  rw[hm] at h
  obtain⟨g,cap,rfl⟩:=ownsRow_succ h
  refine⟨some ⟨g,0,none⟩,cap,g,by rw[hm],fun _=>rfl,fun j hj=>?_⟩
  have h2:=h.cells (g:=g) rfl j (intV (l.getD j 0)) (by rw[List.getElem?_map,List.getElem?_eq_getElem hj,List.getD_eq_getElem?_getD,List.getElem?_eq_getElem hj];rfl)
  have e:(⟨g,0,none⟩:Addr).add j=⟨g,j,none⟩:=by unfold Addr.add;split <;> simp_all
  rw[e] at h2
  exact h2
end Go.Proofs.YtpfmlfcaadnnpaaGreatDoor
