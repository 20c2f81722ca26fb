import Derived.Test.YtlbhlncipajapaaGreatDoorPt32
import Derived.Below
import Derived.ChangeSame
import Derived.ProofKit
import Derived.OpenShut
import Derived.LaidMore
import Derived.Lay
import Derived.SevenTiedAt
import Derived.Stop.Joined
import Derived.Stop.LaidErr
import Derived.Lib.LaidU8
set_option maxHeartbeats 16000000
set_option maxRecDepth 100000
set_option linter.unusedVariables false
open Go.Proofs.Tryz(prog)
namespace Go.Proofs.YtlbhlncipajapaaGreatDoor
open Go.RowKit Lx
theorem fits_of {w:World} {sd se:Value} {p:Pr} (h:ProgAt w sd se p) (ha:∀x ∈ p.exprs,(partsE x).length≤40000):Fits p:=by
 obtain⟨⟨o1,dcap,db,doff,rfl,hd1,hd2,hd3,hd4⟩,_,h3,h4⟩:=h
 unfold reachN at h3 h4
 refine⟨h4,h3,ha,fun d hd=>?_⟩
 obtain⟨i,hi⟩:=List.getElem?_of_mem hd
 have hlt:i<p.decls.length:=by
  rcases Nat.lt_or_ge i p.decls.length with h | h
  ·exact h
  ·rw[List.getElem?_eq_none h] at hi;cases hi
 obtain⟨_,_,_,_,_,_,_,_,_,_,_,hk⟩:=hd4 i hlt d hi
 have:=hk.items
 unfold reachN at this
 exact this
theorem prog_forms {w:World} {sd se:Value} {p:Pr} (h:ProgAt w sd se p):∃od c1 o c,sd=.slice od p.decls.length c1∧se=.slice o p.exprs.length c:=by
 obtain⟨⟨o1,dcap,db,doff,rfl,_⟩,⟨o2,cap,b,off,rfl,_⟩,_⟩:=h
 exact⟨_,_,_,_,rfl,rfl⟩
theorem texts_law (s:ByteArray) (w:World) (hS:Signs w):Calls prog 3 #[.string s] w fun r Y=>r=.returned (.bool true)∧Below w.heap.size w Y:=by
 obtain⟨l,rfl⟩:∃l,s=str l:=⟨s.data.toList,by cases s;simp[str]⟩
 obtain⟨p,cd,f,hdl,hel,hg,ha,hC,hR⟩:=parse_any l
 obtain⟨S,hs⟩:∃S,S=str l:=⟨_,rfl⟩
 rw[←hs] at hC hR ⊢
 obtain⟨D,hD⟩:∃D,D=p.decls.length:=⟨_,rfl⟩
 obtain⟨L,hL⟩:∃L,L=p.exprs.length:=⟨_,rfl⟩
 have AL:Hid (Calls prog 7 #[] w fun r Y=>r=.returned (.bool true)∧Hid (Below w.heap.size w Y)):=Hd ((alive_px w hS).mono fun r Y h=>⟨h.1,Hd h.2⟩)
 have CC:Hid (∀W,Below w.heap.size w W→Calls prog 8 #[.string S] W fun r Y=>∃od c1 o c,r=.returned (.tuple #[.agg #[.slice od D c1,.slice o L c],.agg #[.int .i64 cd,.int .i64 f]])∧Hid (ProgAt Y (.slice od D c1) (.slice o L c) p∧Below W.heap.size W Y)):=Hd fun W hW=>(hC W (hS.below hW)).mono fun r Y ⟨sd,se,h1,h2,h3⟩=>by
  obtain⟨od,c1,o,c,rfl,rfl⟩:=prog_forms h2
  exact⟨od,c1,o,c,by rw[hD,hL];exact h1,Hd ⟨by rw[hD,hL];exact h2,h3⟩⟩
 have RR:Hid (∀W,Calls prog 9 #[.string S,.bool false] W fun r Y=>∃od c1 o c,r=.returned (.tuple #[.agg #[.slice od D c1,.slice o L c],.int .i64 0,.agg #[.int .i64 cd,.int .i64 f]])∧Hid (ProgAt Y (.slice od D c1) (.slice o L c) p∧Below W.heap.size W Y)):=Hd fun W=>(hR W).mono fun r Y ⟨sd,se,h1,h2,h3⟩=>by
  obtain⟨od,c1,o,c,rfl,rfl⟩:=prog_forms h2
  exact⟨od,c1,o,c,by rw[hD,hL];exact h1,Hd ⟨by rw[hD,hL];exact h2,h3⟩⟩
 have EQ:Hid (∀W sd se td te,ProgAt W sd se p→ProgAt W td te p→Calls prog 10 #[.agg #[sd,se],.agg #[td,te]] W fun r Y=>r=.returned (.bool true)∧Hid (Below W.heap.size W Y)):=Hd fun W sd se td te h1 h2=>(equal_prog p.decls p.exprs se te sd td W (Hd h1.2.1) (Hd h2.2.1) (Hd (by unfold reachN;omega)) (Hd h1.1) (Hd h2.1) (Hd (by unfold reachN;omega))).mono fun r Y h=>⟨h.1,Hd h.2⟩
 have MA:Hid (∀W sd se,ProgAt W sd se p→Calls prog 11 #[.agg #[sd,se]] W fun r Y=>r=.returned (.bool true)∧Hid (Below W.heap.size W Y)):=Hd fun W sd se h1=>(refMay_any _ _ p W h1 (fits_of h1 ha)).mono fun r Y h=>by
  unfold MayPost at h
  rw[hg.may] at h
  exact⟨h.1,Hd h.2⟩
 have q0:(cd ==cd)=true:=by simp
 have q1:(f ==f)=true:=by simp
 clear hdl hel hg ha hC hR hs hS hD hL
 go_enter Tryz.func3,Tryz.ntmps3
 go_wp2_with (first
  | (go_at_call 7;(with_reducible refine AL.out.mono ?_);rintro e w1 ⟨rfl,hb1⟩)
  | (go_at_call 8;(with_reducible refine(CC.out w1 hb1.out).mono ?_);rintro e w2 ⟨od,c1,o,c,rfl,h2⟩)
  | (go_at_call 9;(with_reducible refine(RR.out _).mono ?_);rintro e w3 ⟨pd,k1,po,kc,rfl,h3⟩;
     obtain⟨V2,hV2⟩:∃V2,V2=(w2.alloc (.cells #[.slice od D c1,.slice o L c] 26)).alloc (.cells #[.int .i64 cd,.int .i64 f] 29):=⟨_,rfl⟩;
     obtain⟨v1,v2⟩:=rg_two_boxes w2 #[.slice od D c1,.slice o L c] #[.int .i64 cd,.int .i64 f] 26 29;
     rw[←hV2] at h3 v1 v2;
     have hbv:Below w2.heap.size w2 V2:=(by rw[hV2];exact((qB _ _).alloc (qL _) _).alloc (by simp) _);
     have x1:=(h3.out.2.block _ (heap_lt v1)).trans v1;
     have x2:=(h3.out.2.block _ (heap_lt v2)).trans v2;
     have e1:ProgAt w3 (.slice od D c1) (.slice o L c) p:=(h2.out.1.below hbv).below h3.out.2;
     have n1:w2.heap.size<w3.heap.size:=heap_lt x1;
     have n2:w2.heap.size+1<w3.heap.size:=heap_lt x2;
     have p0:w3.cell? ⟨w2.heap.size,0,none⟩=some (.slice od D c1):=(by simp[World.cell?,x1]);
     have p1:w3.cell? ⟨w2.heap.size,1,none⟩=some (.slice o L c):=(by simp[World.cell?,x1]);
     have u0:w3.cell? ⟨w2.heap.size+1,0,none⟩=some (.int .i64 cd):=(by simp[World.cell?,x2]);
     have u1:w3.cell? ⟨w2.heap.size+1,1,none⟩=some (.int .i64 f):=(by simp[World.cell?,x2]);
     have HB3:=Hd ((hb1.out.trans (h2.out.2.mono hb1.out.size)).trans ((hbv.trans (h3.out.2.mono hbv.size)).mono (Nat.le_trans hb1.out.size h2.out.2.size)));
     have E12:=Hd (show _∧_ from⟨e1,h3.out.1⟩);
     clear hV2 hbv x1 x2 e1 v1 v2)
  | (go_at_call 10;
     obtain⟨V3,hV3⟩:∃V3,V3=(w3.alloc (.cells #[.slice pd D k1,.slice po L kc] 26)).alloc (.cells #[.int .i64 cd,.int .i64 f] 29):=⟨_,rfl⟩;
     have hbv:Below w3.heap.size w3 V3:=(by rw[hV3];exact((qB _ _).alloc (qL _) _).alloc (by simp) _);
     rw[←hV3];clear hV3;
     (with_reducible refine(EQ.out V3 _ _ _ _ (E12.out.1.below hbv) (E12.out.2.below hbv)).mono ?_);rintro e w4 ⟨rfl,hb4⟩;
     have hb34:Below w3.heap.size w3 w4:=hbv.trans (hb4.out.mono hbv.size);
     have p0':=cell_on hb34 p0;have p1':=cell_on hb34 p1;
     have HB34:=Hd hb34;
     clear hb34 hbv)
  | (go_at_call 11;(with_reducible refine(MA.out _ _ _ (E12.out.1.below HB34.out)).mono ?_);rintro e w5 ⟨rfl,hb5⟩))
 go_ret
 exact⟨rfl,HB3.out.trans ((HB34.out.trans (hb5.out.mono HB34.out.size)).mono HB3.out.size)⟩
end Go.Proofs.YtlbhlncipajapaaGreatDoor
namespace Go.Proofs.YtlbhlncipajapaaGreatDoor
open Go.RowKit Go.WideShapes Go.ChangeShapes
section
variable {H:Type} {enc:TypeId×Value→H} {P:Program}
theorem post_by_below {f:Func} {s:ChangeSpec} {apart fresh handsOn again:Bool} {W W':World} {args:Array Value} {v:Value} {ds gs:List (DataW H)} {before pa pv:List MemPlace}
  (hW:DataW.Whole enc P f.params.toList s.vars apart W args.toList ds gs before)
  (hres:∀(b:Nat) (sp:Nat→Bool) (hd:Bool),DataW.TrodAll enc P W' b sp hd f.resultTypes.toList (v.resultList f.resultTypes.size) (s.fn H (ds++gs)).results [])
  (hargs:∀sp:Nat→Bool,(∀p ∈ before,sp p.block=true)→DataW.TrodAll enc P W' 0 sp true f.params.toList args.toList (s.fn H (ds++gs)).args pa)
  (hvars:∀sp:Nat→Bool,(∀p ∈ before,sp p.block=true)→DataW.TrodVars enc P W' sp s.vars (s.fn H (ds++gs)).vars pv)
  (hps:before=pa++pv) (hb:Below W.heap.size W W')
  (hok:∀(j:Nat) (t:TypeId) (r:Value),f.resultTypes[j]?=some t→(v.resultList f.resultTypes.size)[j]?=some r→Value.okWide P W' .any 0 t r) :
  s.post enc P f apart fresh handsOn again W args v W':=by
 have blocks:∀p ∈ before,p.block<W.heap.size:=fun p hp=>hW.lt p hp
 have old:∀p ∈ before,(fun b=>decide (b<W.heap.size)) p.block=true:=fun p hp=>qT (blocks p hp)
 have both:∀p,p ∈ before→p ∈ pa∨p ∈ pv:=fun p hp=>by rw[hps] at hp;exact List.mem_append.1 hp
 have frame:W.keptBut W' (fun p=>p ∈ before∧(p ∈ ([]:List MemPlace)∨p ∈ pa∨p ∈ pv)) :=
  World.keptBut_mono (fun p hp=>⟨hp,.inr (both p hp)⟩) (hb.frame (· ∈ before))
 have whole:DataW.Whole enc P f.params.toList s.vars apart W args.toList ds gs before:=hW
 obtain⟨_,_,_,_,_,cold,once⟩:=hW
 have cold':∀b off,MemPlace.cell b off ∈ before→W'.frozen? ⟨b,off,none⟩=false:=fun b off hp=>by
  rw[hb.frozen (p:=⟨b,off,none⟩) (blocks _ hp)]
  exact cold b off hp
 have behind:DataW.Whole enc P (f.resultTypes.toList++f.params.toList) s.vars apart W' (v.resultList f.resultTypes.size++args.toList)
   ((s.fn H (ds++gs)).results++(s.fn H (ds++gs)).args) (s.fn H (ds++gs)).vars (pa++pv):=by
  have h:=trodAll_append (hargs (fun _=>true) fun _ _=>rfl) (hres 0 (fun _=>true) true)
  exact⟨pa,pv,h,hvars _ fun _ _=>rfl,rfl,fun b off hp=>cold' b off (by rw[hps];exact hp),fun ha=>by rw[←hps];exact once ha⟩
 exact⟨ds,gs,before,[],pa,pv,whole,hres _ _ _,hargs _ old,hvars _ old,frame,fun _=>⟨hok,_,_,_,behind,fun p hp _=>by rw[hps];exact hp⟩⟩
end
end Go.Proofs.YtlbhlncipajapaaGreatDoor
namespace Go.Proofs.YtlbhlncipajapaaGreatDoor.Lx
open Go.ChangeShapes Go.WideShapes Go.ChangeAt Go.RowKit
theorem own:ownKnob prog.godebug=none:=by kernel_rfl
theorem glob_signs:prog.globalNamed "astrolabe/lex.signs"=some 0:=by kernel_rfl
theorem type_signs:(prog.globals[0]?).map (·.type)=some 139:=by kernel_rfl
theorem cells_of_texts {P:Program} {w:World} {fuel:Nat} {t e:TypeId} {n:Nat} {cs:List Value} {xs:List (List UInt8)} {p:List MemPlace}
  (ht:P.underlying t=some (.array n e)) (he:P.underlying e=some .string) (hce:P.cellsOf e=1) (hct:P.cellsOf t=n)
  (h:DataW.trod (fun _=>()) P w 0 (fun _=>true) false fuel t cs=some (.agg (xs.map fun x=>.lit (.string x)),p)):cs=xs.map fun x=>Value.string (str x):=by
 cases fuel with
 | zero=>simp[DataW.trod] at h
 | succ fuel =>
  simp only[DataW.trod,ht,hce,hct,Nat.mul_one] at h
  split at h
  ·obtain⟨ys,hm,hx⟩:=Option.map_eq_some_iff.1 h
   have hxs:ys.map (·.1)=xs.map fun x=>(DataW.lit (.string x):DataW Unit):=by
    have:=congrArg Prod.fst hx
    simpa using this
   have hyl:ys.length=n:=by simpa using Lib.mapM_length hm
   have hxl:xs.length=n:=by
    have:=congrArg List.length hxs
    simp at this
    omega
   rename_i hl
   apply List.ext_getElem?
   intro i
   by_cases hi:i<n
   ·obtain⟨b,hb,hf⟩:=Lib.mapM_at hm i i (by simp[hi])
    obtain⟨s,hc,rfl,_⟩:=DataW.trod_string he hf
    have h1:cs[i]?=some (.string s):=by
     have:=congrArg (·[0]?) hc
     simpa [List.getElem?_take,List.getElem?_drop] using this
    have h2:(ys.map (·.1))[i]?=some (DataW.lit (.string s.data.toList):DataW Unit):=by simp[hb]
    rw[hxs] at h2
    simp only[List.getElem?_map,Option.map_eq_some_iff,DataW.lit.injEq,Lit.string.injEq] at h2
    obtain⟨x,hx',h3⟩:=h2
    rw[h1,List.getElem?_map,hx',h3]
    simp[str]
   ·rw[List.getElem?_eq_none (by omega),List.getElem?_eq_none (by simp;omega)]
  ·cases h
theorem tab_of_laid {W:World} (h:laidMetH prog [("astrolabe/lex.signs",Rows.laid_astrolabe_lex_signs)] W):Signs W:=by
 rw[MakeChecks.laidMetH_plain _ _ _ (by kernel_rfl)] at h
 obtain⟨g',t',cs,fuel,p,hg',ht',hvar,hd⟩:=Lib.laidMet.reads h (n:="astrolabe/lex.signs") (d:=Rows.laid_astrolabe_lex_signs) (by simp)
 obtain rfl:=qI (glob_signs.symm.trans hg')
 obtain rfl:=qI (type_signs.symm.trans ht')
 have hcs:=cells_of_texts (xs:=signsL) Tryz.underlying139 Tryz.underlying9 (by kernel_rfl) (by kernel_rfl) hd
 unfold World.var? at hvar
 rw[glob_signs,Option.bind_some] at hvar
 split at hvar
 ·rename_i c T fr hh
  cases hvar
  refine⟨T,fr,?_⟩
  rw[hh]
  congr 2
  apply Array.toList_inj.1
  rw[hcs]
  simp[signCells]
 ·cases hvar
end Go.Proofs.YtlbhlncipajapaaGreatDoor.Lx
