/- The Go function astrolabe/astrolabelaw06.ShowTrees answers true at every input of bulk at most 1048576, and leaves its arguments as they were: the second form's row, whose listed tables are tied, and its card. -/
import Derived.Test.YthpgfahlccljnaaGreatDoorSw25
import Derived.Test.YthpgfahlccljnaaGreatDoorTie
import Derived.Test.YthpgfahlccljnaaGreatDoorCards
import Derived.WalkKit
import Derived.ProofKit
import Derived.OpenShut
import Derived.SizedLaws
import Derived.ChangeAgain
import Derived.Deep.DeepHandedRow
import Derived.Lib.LaidTab
set_option maxHeartbeats 16000000
set_option maxRecDepth 100000
set_option linter.unusedVariables false
open Go.Proofs.Tryz(prog)
namespace Go.Proofs.YthpgfahlccljnaaGreatDoor.showTrees
open Go.ChangeShapes Go.WideShapes Go.ChangeAt Go.RowKit Go.ChangeMaps
theorem own:ownKnob prog.godebug=none:=by kernel_rfl
theorem laidOut:laidOutB prog=true:=by kernel_rfl
theorem walk (sd se:Value) (p:Pr) (e:Int) (w:World) (hp:ProgAt w sd se p) (hS:SgnAt w) (hT:Tab w) (hb:Bulk p) :
  Calls prog 3 #[.agg #[sd,se],.int .i64 e] w fun r Y=>r=.returned (.bool true)∧Below w.heap.size w Y:=by
 have hp':=hp
 obtain⟨⟨od,cd,_,_,rfl,_⟩,⟨oe,cap,_,_,rfl,_⟩,_⟩:=hp
 exact trees_law p od oe _ cd _ cap e w (Hd rfl) (Hd rfl) (Hd hp') (Hd hS) (Hd hT) (Hd hb)
noncomputable def w0 (os:Os):World:=World.laidAll prog os Rows.showTreesUptoRow.laid
def a0:Array Value:=#[.agg #[.slice none 0 0,.slice none 0 0],.int .i64 0]
theorem reads (os:Os) {H:Type} (enc:TypeId×Value→H):∃places,DataW.whole enc prog ((w0 os).forCall (fun _ _=>0) ⟨#[],a0,[]⟩).memory Tryz.f3.params.toList Rows.showTreesSpec.vars false a0.toList 8=some ([.agg [.nil,.nil],.lit (.int .i64 0)],[],places) :=
 ⟨[],by kernel_rfl⟩
theorem laid_met (os:Os):laidMetH prog Rows.showTreesUptoRow.laid ((w0 os).forCall (fun _ _=>0) ⟨#[],a0,[]⟩).memory:=by
 rw[MakeChecks.laidMetH_plain _ _ _ (by kernel_rfl)]
 exact laidMet_laidAll _ (by kernel_rfl) (by kernel_rfl)
theorem lifted (os:Os) (started:os.Started) (H:Type) (enc:TypeId×Value→H) (F:Stop.Interp) :
  ReturnsInHanded {} Tryz.checked os 3 .any ((Rows.OpenSpec.upto Rows.showTreesSpec).preRow enc prog Tryz.f3 Rows.showTreesUptoRow.domain false Rows.showTreesUptoRow.laid) (((Rows.OpenSpec.upto Rows.showTreesSpec).at F).post enc prog Tryz.f3 false true false false):=by
 obtain⟨places,hx⟩:=reads os enc
 have hok:Input.okWideB prog ((w0 os).forCall (fun _ _=>0) ⟨#[],a0,[]⟩) 3 ⟨#[],a0,[]⟩=true:=by kernel_rfl
 refine returnsInHanded_of_row (C:=Tryz.checked) (s:=Rows.OpenSpec.upto Rows.showTreesSpec) own started (by kernel_rfl) Tryz.func3
  ⟨w0 os,fun _ _=>0,⟨#[],a0,[]⟩,World.laidAll_os _ _ _,World.shaped_of_ZipB (by kernel_rfl) (by kernel_rfl),(Input.okWide_of_okWideB (base:=0) hok).1,(Input.okWide_of_okWideB hok).2,
   OpenSpec.preRow_of_cond 8 hx (by kernel_rfl) (fun k hk=>by cases hk;kernel_rfl) (by kernel_rfl) (laid_met os),by
    simp only[Assume.holds]
    exact⟨by simp,by simp,fun h=>by simp at h,by simp,by simp⟩⟩ ?_
 intro W base args ds gs before hval0 hW _ hcond hsz0 hL _ _
 have hk:=hcond _ rfl
 have tab:Tab W:=tab_of_row hL
 have sgn:SgnAt W:=sgn_of_row hL
 have hval:∀(j:Nat) t v,Tryz.f3.params[j]?=some t→args[j]?=some v→Value.okWide prog W .any base t v:=hval0
 have hsz:(DataW.weightsEach prog (Tryz.f3.params.toList++Rows.showTreesSpec.plain.varTypes prog) (ds++gs)).all (·≤reachBytes)=true:=hsz0
 have hW':DataW.Whole enc prog Tryz.f3.params.toList Rows.showTreesSpec.vars false W args.toList ds gs before:=hW
 obtain⟨p,q,hA0,hV,rfl,hfz,hnd⟩:=hW'
 have hW':DataW.Whole enc prog Tryz.f3.params.toList Rows.showTreesSpec.vars false W args.toList ds gs (p++q):=hW
 have hA:DataW.TrodAll enc prog W 0 (fun _=>true) true Tryz.f3.params.toList args.toList ds p:=hA0
 rw[Tryz.params3] at hA hval hsz
 obtain⟨v0,vs0,d0,ds0,p0,q0,hargs,rfl,rfl,h0,r0⟩:=trodAll_cons hA
 obtain⟨v1,vs1,d1,ds1,p1,q1,rfl,rfl,rfl,h1,r1⟩:=trodAll_cons r0
 obtain⟨rfl,rfl,rfl⟩:=trodAll_nil r1
 obtain rfl:args=#[v0,v1]:=by cases args;simp_all
 obtain⟨rfl,rfl⟩:=trodVars_none hV
 have hw0:∀n ∈ d0.weights prog 25,n≤reachBytes:=fun n hn=>of_decide_eq_true (List.all_eq_true.1 hsz n (DataW.weights_mem_each (j:=0) (t:=25) rfl rfl n hn))
 have hM:Rows.uptoBulk d0≤1048576:=by
  have h:=of_decide_eq_true hk
  simp only[List.append_nil,Rows.uptoBulkAll] at h
  omega
 obtain⟨sd,se,P,rfl,hP,hB⟩:=open_progB (Value.okWide_any_base (b':=0) (hval 0 25 v0 rfl rfl)) h0 hw0 hM
 obtain⟨a1,rfl,rfl,rfl,w1⟩:=open_int Tryz.underlying3 (hval 1 3 v1 rfl rfl) h1
 clear hA0 hval0 hW
 simp only[List.append_nil] at hW'
 have hlt:∀x ∈ p0,x.block<W.heap.size:=fun x hx=>hW'.lt x (by simp[hx])
 refine(walk sd se P a1 W hP sgn tab hB).mono fun e W' ⟨he,hg⟩=>?_
 subst he
 have hkp:∀sp:Nat→Bool,(∀x ∈ p0,sp x.block=true)→DataW.Trod enc prog W' 0 sp true 25 (.agg #[sd,se]) d0 p0:=fun sp hsp =>
  WideElems.Trod_stays laidOut (by kernel_rfl) (of_decide_eq_true (by kernel_rfl)) h0 (fun x hx=>hg.same (hlt x hx)) (fun x hx=>hsp x hx)
 exact⟨_,rfl,post_by_below (s:=Rows.showTreesSpec) (pa:=p0++[]) (pv:=[]) hW' (fun _ _ _=>(trodAll_cons_mk (shut_bool Tryz.underlying4 _) trodAll_mk0)) (fun sp hsp=>(trodAll_cons_mk (hkp sp (fun x hx=>hsp x (by simp[hx]))) (trodAll_cons_mk (shut_int Tryz.underlying3 w1) trodAll_mk0))) (fun _ _=>rfl) (by simp)
  hg (ok_one (by kernel_rfl) rfl (okWide_bool_mk Tryz.underlying4 _))⟩
theorem over:Rows.ShowTreesUptoSaid :=
 OpenClaim.holds_of_cond 3 Tryz.f3 rfl rfl rfl rfl rfl rfl rfl ⟨rfl,rfl,rfl,rfl,rfl⟩ rfl rfl rfl rfl rfl (by kernel_rfl) Tryz.func3 (by kernel_rfl)
  (of_decide_eq_true (by kernel_rfl)) (by unfold Func.isWrapper;first | (rw[if_pos (by decide +kernel)];kernel_rfl) | (rw[if_neg (by decide +kernel)];exact⟨rfl,rfl⟩))
  (fun os started H enc _ F=>by rw[OpenClaim.pre_eq_preRow];exact lifted os started H enc F)
theorem proved:Rows.ShowTreesUptoCardSaid :=
 Claim7.holds_tied_plain_at .later [] _ _ _ _ over (fun _ h=>by cases h) (by kernel_rfl) (fun _ h=>by cases h) showTreesUpto_row_tie rfl ⟨rfl,rfl⟩ (by kernel_rfl) rfl
  (fun f fn hf hfn=>by
   obtain rfl:f=3:=qI ((show prog.funcNamed "astrolabe/astrolabelaw06.ShowTrees"=some 3 by kernel_rfl).symm.trans hf) |>.symm
   obtain rfl:fn=Tryz.f3:=(qI (Tryz.func3.symm.trans hfn)).symm
   exact⟨by kernel_rfl,fun j t ht=>by
    rw[Tryz.params3] at ht
    have hm:t ∈ [25,3]:=by simpa using Array.mem_of_getElem? ht
    have hall:([25,3].all fun u=>!prog.wantsStandIn u)=true:=by kernel_rfl
    exact(show prog.wantsStandIn t=false by simpa using List.all_eq_true.1 hall t hm)⟩)
  (by kernel_rfl)
end Go.Proofs.YthpgfahlccljnaaGreatDoor.showTrees
