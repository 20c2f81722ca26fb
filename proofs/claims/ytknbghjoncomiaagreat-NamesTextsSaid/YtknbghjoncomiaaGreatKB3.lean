/- Joined: RgIts, RgPars, RgDec, RgFun, RgNode, RgHyb, RgDecl, RgParse, RgMono, RgTot. -/
import Derived.Test.YtknbghjoncomiaaGreatKA4
import Derived.Test.YtknbghjoncomiaaGreatKA3
import Derived.Test.YtknbghjoncomiaaGreatKA2
import Derived.Test.YtknbghjoncomiaaGreatKA0
namespace Go.Proofs.YtknbghjoncomiaaGreat
section
open Go.Lib (hid)
open Go.RowKit Lx
set_option linter.unusedVariables false
set_option maxHeartbeats 8000000
def QGw (ts:List Tok) (f:Nat) (all:Bool):Nat→List It→RS→Option (List It × RS)
 | 0,_,_=>none
 | n+1,acc,σ=>if acc.length≤40000 then (if σ.code = 0 then (QCO ts f all σ).bind fun r=>if r.2.1 = true then QGw ts f all n (acc ++ [r.1]) r.2.2 else some (acc,r.2.2) else some (acc,σ)) else none
def itsC (l:List (It × Value)):List Value:=l.flatMap fun x=>(itC x.1 x.2).toList
theorem QLr (l:List (It × Value)) (x:It × Value):itsC (l ++ [x]) = itsC l ++ (itC x.1 x.2).toList:=by unfold itsC;rw [List.flatMap_append];simp
def ItsOwn (W:World) (B:Nat) (v:Value) (l:List It):Prop :=
 ∃ q:List (It × Value),q.map Prod.fst = l∧W.ownsRow B 57 9 v l.length (itsC q)∧∀ x∈q,W.ownsRow B 9 1 x.2 x.1.states.length (x.1.states.map .string)
theorem ItsOwn.nil (W:World) (B:Nat):ItsOwn W B (.slice none 0 0) []:=⟨[],rfl,World.ownsRow_nil _ _ _ _,fun x hx=>by cases hx⟩
theorem ItsOwn.keep {b:Nat} {W Y:World} {B:Nat} {v:Value} {l:List It} (h:ItsOwn W B v l) (hB:b < B) (hk:RK b W Y):ItsOwn Y B v l:=by
 obtain ⟨q,h1,h2,h3⟩:=h
 exact ⟨q,h1,QAY h2 (by decide) hB hk,fun x hx=>QAY (h3 x hx) (by decide) hB hk⟩
theorem ItsOwn.form {W:World} {B:Nat} {v:Value} {l:List It} (h:ItsOwn W B v l):∃ o c,v = .slice o l.length c:=by
 obtain ⟨q,h1,h2,h3⟩:=h
 exact QDo h2
theorem ItsOwn.base {W:World} {B B' : Nat} {v:Value} {l:List It} (h:ItsOwn W B v l) (hb:B'≤B):ItsOwn W B' v l:=by
 obtain ⟨q,h1,h2,h3⟩:=h
 exact ⟨q,h1,QBf h2 hb,fun x hx=>QBf (h3 x hx) hb⟩
theorem QDp {W Y:World} {B B2:Nat} {T T2:TypeId} {s s2:Nat} {v v2:Value} {n n2:Nat} {xs xs2:List Value} (h:W.ownsRow B T s v n xs) (h2:W.ownsRow B2 T2 s2 v2 n2 xs2) (hT:T≠T2) (hg:W.grownBy Y v2.ownBlock):Y.ownsRow B T s v n xs :=
 QAG h fun k e=>hg.block k (h.lt k e).2 fun e2=>by
  obtain ⟨_,cs,hc⟩:=QBD h e
  obtain ⟨_,cs2,hc2⟩:=QBD h2 e2.symm
  rw [hc] at hc2;cases hc2;exact hT rfl
theorem QCR {W Y:World} {B:Nat} {T:TypeId} {s:Nat} {v:Value} {n:Nat} {xs:List Value} (h:W.ownsRow B T s v n xs) (hb:Below W.heap.size W Y):Y.ownsRow B T s v n xs:=QAG h fun k e=>hb.block k (h.lt k e).2
theorem QNa {w1 w2 w3:World} {B n:Nat} {v v' : Value} {q:List (It × Value)} {x:It} {sv:Value} (hq3:∀ y∈q,w1.ownsRow B 9 1 y.2 y.1.states.length (y.1.states.map .string)) (hsv:w1.ownsRow B 9 1 sv x.states.length (x.states.map .string))
  (hb:Below w1.heap.size w1 w2) (ho2:w2.ownsRow B 57 9 v n (itsC q)) (hg:w2.grownBy w3 v.ownBlock) (hn:n = q.length) (ho:w3.ownsRow B 57 9 v' (n+1) (itsC q ++ (itC x sv).toList)):ItsOwn w3 B v' (q.map Prod.fst ++ [x]):=by
 refine ⟨q ++ [(x,sv)],by simp,?_,fun y hy=>?_⟩
 ·rw [QLr,List.length_append,List.length_map,← hn];exact ho
 ·rcases List.mem_append.1 hy with hy | hy
  ·exact QDp (QCR (hq3 y hy) hb) ho2 (by decide) hg
  ·obtain rfl:=List.mem_singleton.1 hy
   exact QDp (QCR hsv hb) ho2 (by decide) hg
theorem it_info:(Tryz.prog.info? 57).map (fun i=>(i.zero,i.size,i.bytes)) = some (some (.agg #[.int .i64 0,.string ⟨#[]⟩,.int .i64 0,.int .i64 0,.int .i64 0,.slice none 0 0,.string ⟨#[]⟩,.string ⟨#[]⟩,.int .i64 0]),9,112):=by kernel_rfl
theorem QKm (w:World) {ops:Array Oper} {QBd:List Oper} {o:Oper} {a:Act} {Q:Exit→Act→World→Prop}
  (hg:o.guard = none) (s x:Operand) (hop:o.op = Op.call { callee:=Callee.builtin Builtin.append,args:=#[s,x],argTypes:=#[34,34] })
  (base:Nat) (v:Value) (k:Nat) (xs:List Value) (hs:a.eval s = v) (hown:w.ownsRow base 57 9 v k xs) (kb:Nat) (T:TypeId) (u0 u1 u2 u3 u4 u5 u6 u7 u8:Value) (hx:a.eval x = .slice (some ⟨kb,0,none⟩) 1 1)
  (hc:w.heap[kb]? = some (.cells #[u0,u1,u2,u3,u4,u5,u6,u7,u8] T (0,0))) (h1c:∀ u∈[u0,u1,u2,u3,u4,u5,u6,u7,u8],u.oneCell' = true) (hk:k≤40000) (b3:base≤w.heap.size)
  (hK:∀ g cap w',w'.ownsRow base 57 9 (.slice (some ⟨g,0,none⟩) (k+1) cap) (k+1) (xs ++ [u0,u1,u2,u3,u4,u5,u6,u7,u8])→w.grownBy w' v.ownBlock→wpList Tryz.prog ops Q QBd (a.put o.dst (.slice (some ⟨g,0,none⟩) (k+1) cap)) w') :
  wpList Tryz.prog ops Q (o :: QBd) a w:=by
 obtain ⟨i,h2,h3,h4,h5⟩:=info_parts it_info
 refine wpList_append_lies (w:=w) hg s x 34 hop base 57 i _ 9 112 Tryz.underlying34 h2 h3 h4 h5 rfl (by decide) v k xs hs hown ⟨kb,0,none⟩ 1 1 [u0,u1,u2,u3,u4,u5,u6,u7,u8] hx rfl (fun j v hj=>?_) h1c (by decide) (by unfold maxLen;omega) (by omega) b3 w.heap.size rfl fun g cap w' h1 h2 _ _=>hK g cap w' h1 h2
 have e:(⟨kb,0,none⟩:Addr).add j = ⟨kb,j,none⟩:=by unfold Addr.add;split <;> simp_all
 rw [e]
 simp only [World.cell?,hc]
 rw [← hj]
 rcases j with _ | _ | _ | _ | _ | _ | _ | _ | _ | j <;> simp
theorem new_two (W:World) (o o' : Obj):((W.alloc o).alloc o').heap[W.heap.size+1]? = some o':=by
 have:=World.alloc_heap_new (W.alloc o) o'
 rwa [World.size_alloc] at this
structure ItSg (W Y:World) (b g cap:Nat) (dv:Value) (ts:List Tok) (xb:Nat→Prop) (σ:RS) (acc:List It) (v:Value):Prop where
 rd:Rd Y b g cap dv ts xb σ
 rk:RK b W Y
 own:ItsOwn Y W.heap.size v acc
def ItGI (W:World) (b g cap:Nat) (dv:Value) (ts:List Tok) (xb:Nat→Prop) (f:Nat) (all:Bool) (R:List It × RS) (n0 n:Nat) (x:Value × World):Prop :=
 ∃ (acc:List It) (τ:RS),n≤n0∧QGw ts f all n acc τ = some R∧ItSg W x.2 b g cap dv ts xb τ acc x.1
theorem QK8 {ts:List Tok} {f:Nat} {all:Bool} {n:Nat} {acc:List It} {σ:RS} {R:List It × RS} (h:QGw ts f all n acc σ = some R):∃ k,n = k+1∧acc.length≤40000 ∧
  ((σ.code = 0∧∃ x τ,QCO ts f all σ = some (x,true,τ)∧QGw ts f all k (acc ++ [x]) τ = some R)∨(σ.code = 0∧∃ x τ,QCO ts f all σ = some (x,false,τ)∧R = (acc,τ))∨(σ.code≠0∧R = (acc,σ))):=by
 cases n with
 | zero=>cases h
 | succ k =>
  simp only [QGw] at h
  split at h
  ·rename_i hl
   refine ⟨k,rfl,hl,?_⟩
   split at h
   ·rename_i hc
    cases hi:QCO ts f all σ with
    | none=>rw [hi] at h;cases h
    | some r =>
     obtain ⟨x,ok,τ⟩:=r
     rw [hi] at h
     simp only [Option.bind_some] at h
     cases ok with
     | true=>exact .inl ⟨hc,x,τ,rfl,by simpa using h⟩
     | false=>exact .inr (.inl ⟨hc,x,τ,rfl,by simpa using h.symm⟩)
   ·rename_i hc;exact .inr (.inr ⟨hc,by simpa using h.symm⟩)
  ·cases h
def QHv (b g cap:Nat) (dv:Value) (ts:List Tok) (xb:Nat→Prop) (W:World) (l:List It) (σ:RS) (r:Ending) (Y:World):Prop :=
 ∃ o c,r = .returned (.slice o l.length c)∧ItSg W Y b g cap dv ts xb σ l (.slice o l.length c)
set_option maxRecDepth 100000 in
theorem QHO (b g cap:Nat) (dv:Value) (ts:List Tok) (xb:Nat→Prop) (σ:RS) (f n0:Nat) (all:Bool) (R:List It × RS) (hr:QGw ts f all n0 [] σ = some R) (W:World) (h:Hid (Rd W b g cap dv ts xb σ)) :
  Calls Tryz.prog 33 #[.pointer (some ⟨b,0,none⟩),.bool all] W fun r Y=>QHv b g cap dv ts xb W R.1 R.2 r Y:=by
 obtain ⟨m,hm⟩:=QD4 (ItGI W b g cap dv ts xb f all R n0)
 have HM:=hid hm
 have hbs:=h.out.size
 have HRUN:=hid hr
 have HST:Hid (ItSg W W b g cap dv ts xb σ [] (.slice none 0 0)):=hid ⟨h.out,RK.refl _ _,ItsOwn.nil _ _⟩
 clear hm hr
 go_enter Tryz.func33,Tryz.ntmps33
 go_wp2_with fail
 go_loopw [5] (fun v wr=>∃ o nn c,v = .slice o nn c∧Hid (∃ n,ItGI W b g cap dv ts xb f all R n0 n (v,wr))) (fun v wr=>m (v,wr))
 case atStart=>exact ⟨_,_,_,rfl,hid ⟨n0,[],σ,Nat.le_refl _,HRUN.out,HST.out⟩⟩
 case round =>
  obtain ⟨ov,nv,cv,rfl,hI⟩:=hrel
  obtain ⟨hm1,hm2⟩:=HM.out _ hI.out
  obtain ⟨acc,τ,hnf,hrun,hst⟩:=hm1
  obtain ⟨nn,hmn⟩:∃ nn,nn = m (.slice ov nv cv,wr):=⟨_,rfl⟩
  rw [← hmn] at hnf hrun
  obtain ⟨k,rfl,hacc,hcase⟩:=QK8 hrun
  have HST':=hid hst
  have HMN:=hid hmn
  have HNV:Hid (nv = acc.length):=hid (by obtain ⟨o',c',e⟩:=hst.own.form;injection e)
  have hnv:nv≤40000:=by have:=HNV.out;omega
  have HKF:=hid hnf
  have HRr:=hid hst.rd
  obtain ⟨_,_,⟨_,_,_,_,c5,_,_⟩,_⟩:=hst.rd.cells
  obtain ⟨cd,hcd⟩:∃ cd,cd = τ.code:=⟨_,rfl⟩
  rw [← hcd] at c5
  clear hrun hmn hm2 hI hst hacc hnf HST HRUN
  rcases hcase with ⟨hc,x,τ',hi,hg2⟩ | ⟨hc,x,τ',hi,hg2⟩ | ⟨hc,hg1⟩
  ·have q1:(cd == 0) = true:=by rw [hcd,hc];rfl
   have C:=hid (QJ2 b g cap dv ts xb f all τ x true τ' hi wr HRr)
   have HG2:=hid hg2
   clear hi hg2 hc hcd
   go_wp2_with (first
    | (go_at_call 59;(with_reducible refine C.out.mono ?_);rintro e w1 ⟨so,sn,sc,rfl,hr,hk,hs⟩;have HR1:=hid hr;have HK1:=hid (HST'.out.rk.trans hk);have HO1:=hid (HST'.out.own.keep (by omega) hk);have HS1:=hid (QBf hs HST'.out.rk.size);have hsz:=HK1.out.size;obtain ⟨q,hq1,hq2,hq3⟩:=HO1.out;have HQ1:=hid hq1;have HQ2:=hid hq2;have HQ3:=hid hq3;clear hr hk hs hq1 hq2 hq3)
    | (at_builtin;refine QKm _ rfl _ _ rfl W.heap.size (.slice ov nv cv) nv (itsC q) rfl (by have:=((HQ2.out.alloc (.cells #[.int .i64 x.kind,.string x.name,.int .i64 x.type,.int .i64 x.e,.int .i64 x.f,.slice so sn sc,.string x.state,.string x.next,.int .i64 x.pos] 57)).alloc (.cells #[.int .i64 x.kind,.string x.name,.int .i64 x.type,.int .i64 x.e,.int .i64 x.f,.slice so sn sc,.string x.state,.string x.next,.int .i64 x.pos] 57));rw [← HNV.out] at this;exact this) (w1.heap.size+1) 57 (.int .i64 x.kind) (.string x.name) (.int .i64 x.type) (.int .i64 x.e) (.int .i64 x.f) (.slice so sn sc) (.string x.state) (.string x.next) (.int .i64 x.pos) rfl (new_two _ _ _) (by intro u hu;simp only [List.mem_cons,List.not_mem_nil,or_false] at hu;rcases hu with rfl | rfl | rfl | rfl | rfl | rfl | rfl | rfl | rfl <;> rfl) hnv (by simp;omega) ?_;intro gg cc w2 ho hg;have HO2:=hid ho;have HG:=hid hg;clear ho hg))
   have hbl:Below w1.heap.size w1 ((w1.alloc (.cells #[.int .i64 x.kind,.string x.name,.int .i64 x.type,.int .i64 x.e,.int .i64 x.f,.slice so sn sc,.string x.state,.string x.next,.int .i64 x.pos] 57)).alloc (.cells #[.int .i64 x.kind,.string x.name,.int .i64 x.type,.int .i64 x.e,.int .i64 x.f,.slice so sn sc,.string x.state,.string x.next,.int .i64 x.pos] 57)):=((Below.refl _ _).alloc (Nat.le_refl _) _).alloc (by simp) _
   have HO9:=QCR HQ2.out hbl
   have hql:nv = q.length:=by rw [HNV.out,← HQ1.out,List.length_map]
   have HP:=QNa (n:=nv) HQ3.out HS1.out hbl (by have:=HO9;rw [← HNV.out] at this;exact this) HG.out hql HO2.out
   rw [HQ1.out] at HP
   have HI:ItGI W b g cap dv ts xb f all R n0 k (.slice (some ⟨gg,0,none⟩) (nv+1) cc,w2):=⟨acc ++ [x],τ',by have:=HKF.out;omega,HG2.out,(HR1.out.below hbl).grownT HO9 hbs (by decide) (by decide) HG.out,(HK1.out.trans (RK.of_below hbl (Nat.le_of_lt HR1.out.size))).grownT hbs HO9 HG.out,HP⟩
   exact ⟨⟨_,_,_,rfl,hid ⟨k,HI⟩⟩,by have h5:=(HM.out _ ⟨k,HI⟩).2 k HI;have h6:=HMN.out;omega⟩
  ·have q1:(cd == 0) = true:=by rw [hcd,hc];rfl
   have C:=hid (QJ2 b g cap dv ts xb f all τ x false τ' hi wr HRr)
   have HG2:=hid hg2
   clear hi hg2 hc hcd
   go_wp2_with (go_at_call 59;(with_reducible refine C.out.mono ?_);rintro e w1 ⟨so,sn,sc,rfl,hr,hk,hs⟩;have HR1:=hid hr;have HK1:=hid (HST'.out.rk.trans hk);have HO1:=hid (HST'.out.own.keep (by omega) hk);clear hr hk hs)
   go_ret
   rw [HG2.out]
   have hbl:Below w1.heap.size w1 (w1.alloc (.cells #[.int .i64 x.kind,.string x.name,.int .i64 x.type,.int .i64 x.e,.int .i64 x.f,.slice so sn sc,.string x.state,.string x.next,.int .i64 x.pos] 57)):=(Below.refl _ _).alloc (Nat.le_refl _) _
   have hO:=HO1.out
   refine ⟨ov,cv,by rw [HNV.out];rfl,HR1.out.below hbl,HK1.out.trans (RK.of_below hbl (Nat.le_of_lt HR1.out.size)),?_⟩
   rw [HNV.out] at hO
   exact hO.keep (b:=b) hbs (RK.of_below hbl (Nat.le_of_lt HR1.out.size))
  ·have q1:(cd == 0) = false:=by rw [hcd];exact beq_false_of_ne hc
   have HG2:=hid hg1
   clear hg1 hc hcd
   go_wp2_with fail
   go_ret
   rw [HG2.out]
   exact ⟨ov,cv,by rw [HNV.out];rfl,HST'.out.rd,HST'.out.rk,by have:=HST'.out.own;rw [HNV.out] at this;exact this⟩
def paC (l:List Pa):List Value:=l.flatMap fun p=>[.string p.name,.int .i64 p.type]
theorem QJI (l:List Pa) (p:Pa):paC (l ++ [p]) = paC l ++ [.string p.name,.int .i64 p.type]:=by unfold paC;rw [List.flatMap_append];simp
def QE6 (ts:List Tok):Nat→List Pa→RS→Option (List Pa × RS)
 | 0,_,_=>none
 | f+1,acc,σ=>if acc.length≤40000 then (if σ.code = 0 then (if isS ts [44] (QAv ts (QA3 ts [58] (QA7 ts σ))) = true then QE6 ts f (acc ++ [⟨str (QAS ts σ),QBo ts (QA3 ts [58] (QA7 ts σ))⟩]) (QA0 (QAv ts (QA3 ts [58] (QA7 ts σ)))) else some (acc ++ [⟨str (QAS ts σ),QBo ts (QA3 ts [58] (QA7 ts σ))⟩],QA3 ts [41] (QAv ts (QA3 ts [58] (QA7 ts σ))))) else some (acc,σ)) else none
def QBU (ts:List Tok) (f:Nat) (σ:RS):Option (List Pa × RS):=if isS ts [41] (QA3 ts [40] σ) = true then some ([],QA0 (QA3 ts [40] σ)) else QE6 ts f [] (QA3 ts [40] σ)
theorem QIQ {ts:List Tok} {n:Nat} {acc:List Pa} {σ:RS} {R:List Pa × RS} (h:QE6 ts n acc σ = some R):∃ k,n = k+1∧acc.length≤40000 ∧
  ((σ.code = 0∧isS ts [44] (QAv ts (QA3 ts [58] (QA7 ts σ))) = true∧QE6 ts k (acc ++ [⟨str (QAS ts σ),QBo ts (QA3 ts [58] (QA7 ts σ))⟩]) (QA0 (QAv ts (QA3 ts [58] (QA7 ts σ)))) = some R) ∨
   (σ.code = 0∧isS ts [44] (QAv ts (QA3 ts [58] (QA7 ts σ))) = false∧R = (acc ++ [⟨str (QAS ts σ),QBo ts (QA3 ts [58] (QA7 ts σ))⟩],QA3 ts [41] (QAv ts (QA3 ts [58] (QA7 ts σ)))))∨(σ.code≠0∧R = (acc,σ))):=by
 cases n with
 | zero=>cases h
 | succ k =>
  simp only [QE6] at h
  split at h
  ·rename_i hl
   refine ⟨k,rfl,hl,?_⟩
   split at h
   ·rename_i hc
    split at h
    ·rename_i hi;exact .inl ⟨hc,hi,h⟩
    ·rename_i hi;exact .inr (.inl ⟨hc,Bool.eq_false_iff.2 hi,by simpa using h.symm⟩)
   ·rename_i hc;exact .inr (.inr ⟨hc,by simpa using h.symm⟩)
  ·cases h
theorem pa_info:(Tryz.prog.info? 65).map (fun i=>(i.zero,i.size,i.bytes)) = some (some (.agg #[.string ⟨#[]⟩,.int .i64 0]),2,24):=by kernel_rfl
theorem QGG (w:World) {ops:Array Oper} {QBd:List Oper} {o:Oper} {a:Act} {Q:Exit→Act→World→Prop}
  (hg:o.guard = none) (s x:Operand) (hop:o.op = Op.call { callee:=Callee.builtin Builtin.append,args:=#[s,x],argTypes:=#[33,33] })
  (base:Nat) (v:Value) (k:Nat) (xs:List Value) (hs:a.eval s = v) (hown:w.ownsRow base 65 2 v k xs) (kb:Nat) (u1 u2:Value) (hx:a.eval x = .slice (some ⟨kb,0,none⟩) 1 1)
  (hc:w.cell? ⟨kb,0,none⟩ = some u1∧w.cell? ⟨kb,1,none⟩ = some u2) (h1c:u1.oneCell' = true∧u2.oneCell' = true) (hk:k≤40000) (b3:base≤w.heap.size)
  (hK:∀ g cap w',w'.ownsRow base 65 2 (.slice (some ⟨g,0,none⟩) (k+1) cap) (k+1) (xs ++ [u1,u2])→w.grownBy w' v.ownBlock→wpList Tryz.prog ops Q QBd (a.put o.dst (.slice (some ⟨g,0,none⟩) (k+1) cap)) w') :
  wpList Tryz.prog ops Q (o :: QBd) a w:=by
 obtain ⟨i,h2,h3,h4,h5⟩:=info_parts pa_info
 refine wpList_append_lies (w:=w) hg s x 33 hop base 65 i _ 2 24 Tryz.underlying33 h2 h3 h4 h5 rfl (by decide) v k xs hs hown ⟨kb,0,none⟩ 1 1 [u1,u2] hx rfl (fun j v hj=>?_) (by simpa using h1c) (by decide) (by unfold maxLen;omega) (by omega) b3 w.heap.size rfl fun g cap w' h1 h2 _ _=>hK g cap w' h1 h2
 have e:∀ j,(⟨kb,0,none⟩:Addr).add j = ⟨kb,j,none⟩:=fun j=>by unfold Addr.add;split <;> simp_all
 rw [e]
 rcases j with _ | _ | j
 ·cases hj;exact hc.1
 ·cases hj;exact hc.2
 ·simp at hj
theorem QHV (W:World) (u v:Value) (T:TypeId):(W.alloc (.cells #[u,v] T)).cell? ⟨W.heap.size,0,none⟩ = some u∧(W.alloc (.cells #[u,v] T)).cell? ⟨W.heap.size,1,none⟩ = some v:=by
 constructor <;> (rw [World.cell?_alloc_new];rfl)
structure PaSg (W Y:World) (b g cap:Nat) (dv:Value) (ts:List Tok) (xb:Nat→Prop) (σ:RS) (acc:List Pa) (v:Value):Prop where
 rd:Rd Y b g cap dv ts xb σ
 rk:RK b W Y
 own:Y.ownsRow W.heap.size 65 2 v acc.length (paC acc)
def PaI (W:World) (b g cap:Nat) (dv:Value) (ts:List Tok) (xb:Nat→Prop) (f:Nat) (R:List Pa × RS) (n:Nat) (x:Value × World):Prop :=
 ∃ (acc:List Pa) (τ:RS),n≤f∧QE6 ts n acc τ = some R∧PaSg W x.2 b g cap dv ts xb τ acc x.1
def QIo (b g cap:Nat) (dv:Value) (ts:List Tok) (xb:Nat→Prop) (W:World) (l:List Pa) (σ:RS) (r:Ending) (Y:World):Prop :=
 ∃ o c,r = .returned (.slice o l.length c)∧PaSg W Y b g cap dv ts xb σ l (.slice o l.length c)
set_option maxRecDepth 100000 in
theorem QE5 (b g cap:Nat) (dv:Value) (ts:List Tok) (xb:Nat→Prop) (σ:RS) (f:Nat) (R:List Pa × RS) (hr:QBU ts f σ = some R) (W:World) (h:Hid (Rd W b g cap dv ts xb σ)) :
  Calls Tryz.prog 32 #[.pointer (some ⟨b,0,none⟩)] W fun r Y=>QIo b g cap dv ts xb W R.1 R.2 r Y:=by
 have C1:Hid (Calls Tryz.prog 27 #[.pointer (some ⟨b,0,none⟩),.string ⟨#[40]⟩] W fun r Y=>RdRet b g cap dv ts xb W (.tuple #[]) (QA3 ts [40] σ) r Y):=hid (QAF b g cap dv ts xb σ [40] W h)
 unfold QBU at hr
 obtain ⟨x,hx⟩:∃ x,x = QA3 ts [40] σ:=⟨_,rfl⟩
 rw [← hx] at hr C1
 clear hx
 have hbs:=h.out.size
 cases hi:isS ts [41] x with
 | true =>
  rw [if_pos hi] at hr
  have C2:CR b g cap dv ts xb 26 #[.pointer (some ⟨b,0,none⟩),.string ⟨#[41]⟩] (.bool true) x (QA0 x):=hid fun W h=>QAN [41] hi W h
  cases hr
  clear hi
  go_enter Tryz.func32,Tryz.ntmps32
  go_wp2_with (first
   | (go_at_call 27;(with_reducible refine C1.out.mono ?_);rintro e w1 ⟨rfl,hr,hk⟩;have HR:=hid hr;have HK:=hid hk;clear hr hk)
   | (go_at_call 26;(with_reducible refine (C2.out w1 HR).mono ?_);rintro e w2 ⟨rfl,hr,hk⟩;have HR2:=hid hr;have HK2:=hid hk;clear hr hk))
  go_ret
  exact ⟨none,0,rfl,HR2.out,HK.out.trans HK2.out,World.ownsRow_nil _ _ _ _⟩
 | false =>
  rw [if_neg (by rw [hi];simp)] at hr
  have C2:CR b g cap dv ts xb 26 #[.pointer (some ⟨b,0,none⟩),.string ⟨#[41]⟩] (.bool false) x x:=hid fun W h=>QA8 [41] hi W h
  obtain ⟨m,hm⟩:=QD4 (PaI W b g cap dv ts xb f R)
  have HM:=hid hm
  have HRUN:=hid hr
  clear hm hi hr
  go_enter Tryz.func32,Tryz.ntmps32
  go_wp2_with (first
   | (go_at_call 27;(with_reducible refine C1.out.mono ?_);rintro e w1 ⟨rfl,hr,hk⟩;have HR:=hid hr;have HK:=hid hk;clear hr hk)
   | (go_at_call 26;(with_reducible refine (C2.out w1 HR).mono ?_);rintro e w2 ⟨rfl,hr,hk⟩;have HR2:=hid hr;have HK2:=hid hk;clear hr hk))
  have HST:Hid (PaSg W w2 b g cap dv ts xb x [] (.slice none 0 0)):=hid ⟨HR2.out,HK.out.trans HK2.out,World.ownsRow_nil _ _ _ _⟩
  go_loopw [3] (fun v wr=>∃ o nn c,v = .slice o nn c∧Hid (∃ n,PaI W b g cap dv ts xb f R n (v,wr))) (fun v wr=>m (v,wr))
  case atStart=>exact ⟨_,_,_,rfl,hid ⟨f,[],x,Nat.le_refl _,HRUN.out,HST.out⟩⟩
  case round =>
   obtain ⟨ov,nv,cv,rfl,hI⟩:=hrel
   obtain ⟨hm1,hm2⟩:=HM.out _ hI.out
   obtain ⟨acc,τ,hnf,hrun,hst⟩:=hm1
   obtain ⟨nn,hmn⟩:∃ nn,nn = m (.slice ov nv cv,wr):=⟨_,rfl⟩
   rw [← hmn] at hnf hrun
   obtain ⟨k,rfl,hacc,hcase⟩:=QIQ hrun
   have HST':=hid hst
   have HMN:=hid hmn
   have HNV:Hid (nv = acc.length):=hid (by obtain ⟨o',c',e⟩:=QDo hst.own;injection e)
   have hnv:nv≤40000:=by have:=HNV.out;omega
   have HKF:=hid hnf
   have HRr:=hid hst.rd
   obtain ⟨_,_,⟨_,_,_,_,c5,_,_⟩,_⟩:=hst.rd.cells
   obtain ⟨cd,hcd⟩:∃ cd,cd = τ.code:=⟨_,rfl⟩
   rw [← hcd] at c5
   clear hrun hmn hm2 hI hst hacc hnf HR HR2 HK HK2 HST HRUN
   rcases hcase with ⟨hc,hi,hg2⟩ | ⟨hc,hi,hg2⟩ | ⟨hc,hg1⟩
   ·have q1:(cd == 0) = true:=by rw [hcd,hc];rfl
    have NM:=hid (QAk b g cap dv ts xb τ wr HRr)
    have HG2:=hid hg2
    obtain ⟨nm,hnm⟩:∃ nm,nm = QAS ts τ:=⟨_,rfl⟩
    obtain ⟨t1,ht1⟩:∃ t1,t1 = QA7 ts τ:=⟨_,rfl⟩
    rw [← hnm,← ht1] at NM
    rw [← hnm,← ht1] at HG2
    rw [← ht1] at hi
    have WT:CR b g cap dv ts xb 27 #[.pointer (some ⟨b,0,none⟩),.string ⟨#[58]⟩] (.tuple #[]) t1 (QA3 ts [58] t1):=hid fun W h=>QAF b g cap dv ts xb t1 [58] W h
    obtain ⟨t2,ht2⟩:∃ t2,t2 = QA3 ts [58] t1:=⟨_,rfl⟩
    rw [← ht2] at WT HG2 hi
    have KT:CR b g cap dv ts xb 34 #[.pointer (some ⟨b,0,none⟩)] (.int .i64 (QBo ts t2)) t2 (QAv ts t2):=hid fun W h=>QD3 b g cap dv ts xb t2 W h
    obtain ⟨kv,hkv⟩:∃ kv,kv = QBo ts t2:=⟨_,rfl⟩
    obtain ⟨t3,ht3⟩:∃ t3,t3 = QAv ts t2:=⟨_,rfl⟩
    rw [← hkv,← ht3] at KT HG2
    rw [← ht3] at hi
    have TK:CR b g cap dv ts xb 26 #[.pointer (some ⟨b,0,none⟩),.string ⟨#[44]⟩] (.bool true) t3 (QA0 t3):=hid fun W h=>QAN [44] hi W h
    clear hnm ht1 ht2 hkv ht3 hc hi hg2 hcd
    go_wp2_with (first
     | (go_at_call 31;(with_reducible refine NM.out.mono ?_);rintro e w3 ⟨rfl,hr,hk⟩;have HR3:=hid hr;have HK3:=hid (HST'.out.rk.trans hk);have HO3:=hid (QAY HST'.out.own (by decide) (by omega) hk);clear hr hk)
     | (go_at_call 27;(with_reducible refine (WT.out w3 HR3).mono ?_);rintro e w4 ⟨rfl,hr,hk⟩;have HR4:=hid hr;have HK4:=hid (HK3.out.trans hk);have HO4:=hid (QAY HO3.out (by decide) (by omega) hk);clear hr hk)
     | (go_at_call 34;(with_reducible refine (KT.out w4 HR4).mono ?_);rintro e w5 ⟨rfl,hr,hk⟩;have HR5:=hid hr;have HK5:=hid (HK4.out.trans hk);have HO5:=hid (QAY HO4.out (by decide) (by omega) hk);have hsz5:=HK5.out.size;clear hr hk)
     | (at_builtin;refine QGG _ rfl _ _ rfl W.heap.size (.slice ov nv cv) nv (paC acc) rfl (by have:=HO5.out.alloc (.cells #[.string (str nm),.int .i64 kv] 65);rw [← HNV.out] at this;exact this) w5.heap.size (.string (str nm)) (.int .i64 kv) rfl (QHV _ _ _ _) ⟨rfl,rfl⟩ hnv (by simp;omega) ?_;intro gg cc w6 ho hg;have HO6:=hid ho;have HX6:=hid hg;have HA5:=hid (HO5.out.alloc (.cells #[.string (str nm),.int .i64 kv] 65));have HR6:Hid (Rd w6 b g cap dv ts xb t3):=hid ((HR5.out.alloc _).grownT HA5.out hbs (by decide) (by decide) (by exact hg));have HK6:Hid (RK b W w6):=hid ((HK5.out.trans (RK.of_below ((Below.refl _ _).alloc (Nat.le_refl _) (.cells #[.string (str nm),.int .i64 kv] 65)) (Nat.le_of_lt HR5.out.size))).grownT hbs HA5.out (by exact hg));clear ho hg)
     | (go_at_call 26;(with_reducible refine (TK.out w6 HR6).mono ?_);rintro e w7 ⟨rfl,hr,hk⟩;have HR7:=hid hr;have HK7:=hid (HK6.out.trans hk);have HO7:=hid (QAY HO6.out (by decide) (by omega) hk);clear hr hk))
    have HI:PaI W b g cap dv ts xb f R k (.slice (some ⟨gg,0,none⟩) (nv+1) cc,w7):=⟨acc ++ [⟨str nm,kv⟩],QA0 t3,by have:=HKF.out;omega,HG2.out,HR7.out,HK7.out,by
     have h6:=HO7.out
     have h7:=HNV.out
     rw [QJI,List.length_append,List.length_singleton,← h7]
     exact h6⟩
    exact ⟨⟨_,_,_,rfl,hid ⟨k,HI⟩⟩,by have h5:=(HM.out _ ⟨k,HI⟩).2 k HI;have h6:=HMN.out;omega⟩
   ·have q1:(cd == 0) = true:=by rw [hcd,hc];rfl
    have NM:=hid (QAk b g cap dv ts xb τ wr HRr)
    have HG2:=hid hg2
    obtain ⟨nm,hnm⟩:∃ nm,nm = QAS ts τ:=⟨_,rfl⟩
    obtain ⟨t1,ht1⟩:∃ t1,t1 = QA7 ts τ:=⟨_,rfl⟩
    rw [← hnm,← ht1] at NM
    rw [← ht1] at hi
    rw [← hnm,← ht1] at HG2
    have WT:CR b g cap dv ts xb 27 #[.pointer (some ⟨b,0,none⟩),.string ⟨#[58]⟩] (.tuple #[]) t1 (QA3 ts [58] t1):=hid fun W h=>QAF b g cap dv ts xb t1 [58] W h
    obtain ⟨t2,ht2⟩:∃ t2,t2 = QA3 ts [58] t1:=⟨_,rfl⟩
    rw [← ht2] at WT hi HG2
    have KT:CR b g cap dv ts xb 34 #[.pointer (some ⟨b,0,none⟩)] (.int .i64 (QBo ts t2)) t2 (QAv ts t2):=hid fun W h=>QD3 b g cap dv ts xb t2 W h
    obtain ⟨kv,hkv⟩:∃ kv,kv = QBo ts t2:=⟨_,rfl⟩
    obtain ⟨t3,ht3⟩:∃ t3,t3 = QAv ts t2:=⟨_,rfl⟩
    rw [← hkv,← ht3] at KT
    rw [← ht3] at hi
    rw [← hkv,← ht3] at HG2
    have TK:CR b g cap dv ts xb 26 #[.pointer (some ⟨b,0,none⟩),.string ⟨#[44]⟩] (.bool false) t3 t3:=hid fun W h=>QA8 [44] hi W h
    have WE:CR b g cap dv ts xb 27 #[.pointer (some ⟨b,0,none⟩),.string ⟨#[41]⟩] (.tuple #[]) t3 (QA3 ts [41] t3):=hid fun W h=>QAF b g cap dv ts xb t3 [41] W h
    clear hnm ht1 ht2 hkv ht3 hc hi hg2 hcd
    go_wp2_with (first
     | (go_at_call 31;(with_reducible refine NM.out.mono ?_);rintro e w3 ⟨rfl,hr,hk⟩;have HR3:=hid hr;have HK3:=hid (HST'.out.rk.trans hk);have HO3:=hid (QAY HST'.out.own (by decide) (by omega) hk);clear hr hk)
     | (go_at_call 27;(with_reducible refine (WT.out w3 HR3).mono ?_);rintro e w4 ⟨rfl,hr,hk⟩;have HR4:=hid hr;have HK4:=hid (HK3.out.trans hk);have HO4:=hid (QAY HO3.out (by decide) (by omega) hk);clear hr hk)
     | (go_at_call 34;(with_reducible refine (KT.out w4 HR4).mono ?_);rintro e w5 ⟨rfl,hr,hk⟩;have HR5:=hid hr;have HK5:=hid (HK4.out.trans hk);have HO5:=hid (QAY HO4.out (by decide) (by omega) hk);have hsz5:=HK5.out.size;clear hr hk)
     | (at_builtin;refine QGG _ rfl _ _ rfl W.heap.size (.slice ov nv cv) nv (paC acc) rfl (by have:=HO5.out.alloc (.cells #[.string (str nm),.int .i64 kv] 65);rw [← HNV.out] at this;exact this) w5.heap.size (.string (str nm)) (.int .i64 kv) rfl (QHV _ _ _ _) ⟨rfl,rfl⟩ hnv (by simp;omega) ?_;intro gg cc w6 ho hg;have HO6:=hid ho;have HX6:=hid hg;have HA5:=hid (HO5.out.alloc (.cells #[.string (str nm),.int .i64 kv] 65));have HR6:Hid (Rd w6 b g cap dv ts xb t3):=hid ((HR5.out.alloc _).grownT HA5.out hbs (by decide) (by decide) (by exact hg));have HK6:Hid (RK b W w6):=hid ((HK5.out.trans (RK.of_below ((Below.refl _ _).alloc (Nat.le_refl _) (.cells #[.string (str nm),.int .i64 kv] 65)) (Nat.le_of_lt HR5.out.size))).grownT hbs HA5.out (by exact hg));clear ho hg)
     | (go_at_call 26;(with_reducible refine (TK.out w6 HR6).mono ?_);rintro e w7 ⟨rfl,hr,hk⟩;have HR7:=hid hr;have HK7:=hid (HK6.out.trans hk);have HO7:=hid (QAY HO6.out (by decide) (by omega) hk);clear hr hk)
     | (go_at_call 27;(with_reducible refine (WE.out w7 HR7).mono ?_);rintro e w8 ⟨rfl,hr,hk⟩;have HR8:=hid hr;have HK8:=hid (HK7.out.trans hk);have HO8:=hid (QAY HO7.out (by decide) (by omega) hk);clear hr hk))
    go_ret
    rw [HG2.out]
    refine ⟨some ⟨gg,0,none⟩,cc,by rw [HNV.out];simp,HR8.out,HK8.out,?_⟩
    have h6:=HO8.out
    rw [QJI,List.length_append,List.length_singleton,← HNV.out]
    exact h6
   ·have q1:(cd == 0) = false:=by rw [hcd];exact beq_false_of_ne hc
    have HG2:=hid hg1
    clear hg1 hc hcd
    go_wp2_with fail
    go_ret
    rw [HG2.out]
    exact ⟨ov,cv,by rw [HNV.out];rfl,HST'.out.rd,HST'.out.rk,by have:=HST'.out.own;rw [HNV.out] at this;exact this⟩
end
section
open Go.RowKit Lx
set_option linter.unusedVariables false
structure DB (W0 Y:World) (b g cap:Nat) (dv:Value) (ts:List Tok) (xb:Nat→Prop) (σ:RS) (A:Nat) (c:Array Value) (ps:List Pa) (pv:Value) (is:List It) (iv:Value):Prop where
 rd:Rd Y b g cap dv ts xb σ
 rk:RK b W0 Y
 zero:Y.heap[A]? = some (.cells #[.int .i64 0,.string ⟨#[]⟩,.slice none 0 0,.slice none 0 0,.int .i64 0,.int .i64 0,.int .i64 0] 36 (0,0))
 box:Y.heap[A+1]? = some (.cells c 36 (0,0))
 hA:W0.heap.size≤A
 hb:b < W0.heap.size
 pa:Y.ownsRow W0.heap.size 65 2 pv ps.length (paC ps)
 it:ItsOwn Y W0.heap.size iv is
theorem DB.call {W0 Y Z:World} {b g cap:Nat} {dv:Value} {ts:List Tok} {xb:Nat→Prop} {σ τ:RS} {A:Nat} {c:Array Value} {ps:List Pa} {pv:Value} {is:List It} {iv:Value} (h:DB W0 Y b g cap dv ts xb σ A c ps pv is iv) (hr:Rd Z b g cap dv ts xb τ) (hk:RK b Y Z):DB W0 Z b g cap dv ts xb τ A c ps pv is iv :=
 ⟨hr,h.rk.trans hk,hk.keep A _ h.zero (by have:=h.hA;have:=h.hb;omega) (.of (by decide)),hk.keep (A+1) _ h.box (by have:=h.hA;have:=h.hb;omega) (.of (by decide)),h.hA,h.hb,QAY h.pa (by decide) h.hb hk,h.it.keep h.hb hk⟩
theorem its_set {W:World} {B:Nat} {v:Value} {l:List It} (h:ItsOwn W B v l) {A:Nat} {cs:Array Value} (hA:W.heap[A]? = some (.cells cs 36 (0,0))) (i:Nat) (u:Value):ItsOwn (W.setCell ⟨A,i,none⟩ u) B v l:=by
 obtain ⟨q,h1,h2,h3⟩:=h
 exact ⟨q,h1,QFO h2 hA i u,fun x hx=>QFO (h3 x hx) hA i u⟩
theorem DB.set {W0 Y:World} {b g cap:Nat} {dv:Value} {ts:List Tok} {xb:Nat→Prop} {σ:RS} {A:Nat} {c:Array Value} {ps:List Pa} {pv:Value} {is:List It} {iv:Value} (h:DB W0 Y b g cap dv ts xb σ A c ps pv is iv) (i:Nat) (v:Value) {c' : Array Value} (he:c.setIfInBounds i v = c'):DB W0 (Y.setCell ⟨A+1,i,none⟩ v) b g cap dv ts xb σ A c' ps pv is iv :=
 ⟨h.rd.setBox h.box (by decide) (by decide) (by have:=h.hA;have:=h.hb;omega) i v,h.rk.setNew (by have:=h.hA;omega) (by have:=h.hA;have:=h.hb;omega) i v,(Below.heap_setCell Y ⟨A+1,i,none⟩ v A (by simp)).trans h.zero,by rw [QAT h.box,he],h.hA,h.hb,QFO h.pa h.box i v,its_set h.it h.box i v⟩
theorem DB.callP {W0 Y Z:World} {b g cap:Nat} {dv:Value} {ts:List Tok} {xb:Nat→Prop} {σ τ:RS} {A:Nat} {c:Array Value} {ps ps' : List Pa} {pv pv' : Value} {is:List It} {iv:Value} (h:DB W0 Y b g cap dv ts xb σ A c ps pv is iv) (hs:PaSg Y Z b g cap dv ts xb τ ps' pv'):DB W0 Z b g cap dv ts xb τ A c ps' pv' is iv :=
 { h.call hs.rd hs.rk with pa:=QBf hs.own h.rk.size }
theorem DB.callI {W0 Y Z:World} {b g cap:Nat} {dv:Value} {ts:List Tok} {xb:Nat→Prop} {σ τ:RS} {A:Nat} {c:Array Value} {ps:List Pa} {pv:Value} {is is' : List It} {iv iv' : Value} (h:DB W0 Y b g cap dv ts xb σ A c ps pv is iv) (hs:ItSg Y Z b g cap dv ts xb τ is' iv'):DB W0 Z b g cap dv ts xb τ A c ps pv is' iv' :=
 { h.call hs.rd hs.rk with it:=hs.own.base h.rk.size }
theorem QAP {W:World} {B:Nat} {x0 x1 x2 x3 x4 x5 x6:Value} {T:TypeId} (h:W.heap[B]? = some (.cells #[x0,x1,x2,x3,x4,x5,x6] T (0,0))):(W.cell? ⟨B,0,none⟩ = some x0∧W.cell? ⟨B,1,none⟩ = some x1∧W.cell? ⟨B,2,none⟩ = some x2∧W.cell? ⟨B,3,none⟩ = some x3∧W.cell? ⟨B,4,none⟩ = some x4∧W.cell? ⟨B,5,none⟩ = some x5∧W.cell? ⟨B,6,none⟩ = some x6)∧∀ i,W.frozen? ⟨B,i,none⟩ = false :=
 ⟨⟨by simp [World.cell?,h],by simp [World.cell?,h],by simp [World.cell?,h],by simp [World.cell?,h],by simp [World.cell?,h],by simp [World.cell?,h],by simp [World.cell?,h]⟩,fun i=>by simp [World.frozen?,h]⟩
def QOA (W:World) (A:Nat) (x0 x1 x2 x3 x4 x5 x6:Value):World:=((((((W.setCell ⟨A,0,none⟩ x0).setCell ⟨A,1,none⟩ x1).setCell ⟨A,2,none⟩ x2).setCell ⟨A,3,none⟩ x3).setCell ⟨A,4,none⟩ x4).setCell ⟨A,5,none⟩ x5).setCell ⟨A,6,none⟩ x6
theorem QGm {W:World} {A:Nat} {y0 y1 y2 y3 y4 y5 y6:Value} {T:TypeId} (h:W.heap[A]? = some (.cells #[y0,y1,y2,y3,y4,y5,y6] T (0,0))) (x0 x1 x2 x3 x4 x5 x6:Value) :
  (QOA W A x0 x1 x2 x3 x4 x5 x6).heap[A]? = some (.cells #[x0,x1,x2,x3,x4,x5,x6] T (0,0)):=by
 have h1:=QAT h 0 x0
 have h2:=QAT h1 1 x1
 have h3:=QAT h2 2 x2
 have h4:=QAT h3 3 x3
 have h5:=QAT h4 4 x4
 have h6:=QAT h5 5 x5
 have h7:=QAT h6 6 x6
 unfold QOA
 rw [h7]
 simp
theorem QGn (W:World) (A:Nat) (x0 x1 x2 x3 x4 x5 x6:Value):But A W (QOA W A x0 x1 x2 x3 x4 x5 x6):=((((((But.refl A W).set 0 _).set 1 _).set 2 _).set 3 _).set 4 _).set 5 _ |>.set 6 _
def QIn (b g cap:Nat) (dv:Value) (ts:List Tok) (xb:Nat→Prop) (W:World) (d:De) (σ:RS) (r:Ending) (Y:World):Prop :=
 ∃ po pc io ic,r = .returned (.agg #[.int .i64 d.kind,.string d.name,.slice po d.params.length pc,.slice io d.items.length ic,.int .i64 d.type,.int .i64 d.e,.int .i64 d.pos])∧Rd Y b g cap dv ts xb σ∧RK b W Y∧Y.ownsRow W.heap.size 65 2 (.slice po d.params.length pc) d.params.length (paC d.params)∧ItsOwn Y W.heap.size (.slice io d.items.length ic) d.items
theorem QFH {W Y:World} {B:Nat} {T T2:TypeId} {s:Nat} {v:Value} {n:Nat} {xs:List Value} (h:W.ownsRow B T s v n xs) {A:Nat} {cs:Array Value} (hA:W.heap[A]? = some (.cells cs T2 (0,0))) (hT:T≠T2) (hb:But A W Y):Y.ownsRow B T s v n xs :=
 QAG h fun k e=>hb.block k (by
  rintro rfl
  obtain ⟨_,cs',hc⟩:=QBD h e
  rw [hA] at hc;cases hc;exact hT rfl) (h.lt k e).2
theorem QIE {W Y:World} {B:Nat} {v:Value} {l:List It} (h:ItsOwn W B v l) {A:Nat} {cs:Array Value} (hA:W.heap[A]? = some (.cells cs 36 (0,0))) (hb:But A W Y):ItsOwn Y B v l:=by
 obtain ⟨q,h1,h2,h3⟩:=h
 exact ⟨q,h1,QFH h2 hA (by decide) hb,fun x hx=>QFH (h3 x hx) hA (by decide) hb⟩
end
section
open Go.Lib (hid)
open Go.RowKit Lx
set_option linter.unusedVariables false
set_option maxHeartbeats 16000000
set_option maxRecDepth 100000 in
theorem QNC (b g cap:Nat) (dv:Value) (ts:List Tok) (xb:Nat→Prop) (f:Nat) (σ0 σ1 σ2 σ3 σ4 σ5 σ6 σ7 σ8:RS) (ps0:Nat) (hp:ps0 = (QA9 ts σ0.at_).at_) (v0:List UInt8) (pl:List Pa) (v3:Int) (v5:Int) (ht:isS ts [102,117,110] σ0 = true) (h1:σ1 = QA0 σ0) (g0:v0 = QAS ts σ1) (k0:σ2 = QA7 ts σ1) (g1:QBU ts f σ2 = some (pl,σ3)) (k2:σ4 = QA3 ts [58] σ3) (g3:v3 = QBo ts σ4) (k3:σ5 = QAv ts σ4) (k4:σ6 = QA3 ts [61] σ5) (l5:List Int) (g5:QAh ts f .expr σ6 = some (v5,l5,σ7)) (k6:σ8 = QA3 ts [59] σ7) (W:World) (h:Hid (Rd W b g cap dv ts xb σ0)) :
  Calls Tryz.prog 13 #[.pointer (some ⟨b,0,none⟩)] W fun r Y=>QIn b g cap dv ts xb W ⟨1,str v0,pl,[],v3,v5,(ps0:Int)⟩ σ8 r Y:=by
 have T1:CR b g cap dv ts xb 26 #[.pointer (some ⟨b,0,none⟩),.string ⟨#[102,117,110]⟩] (.bool true) σ0 σ1:=hid fun W h=>by rw [h1];exact QAN [102,117,110] ht W h
 have C0:CR b g cap dv ts xb 31 #[.pointer (some ⟨b,0,none⟩)] (.string (str v0)) σ1 σ2:=hid fun W h=>by rw [g0,k0];exact QAk b g cap dv ts xb σ1 W h
 have C1:Hid (∀ W,Hid (Rd W b g cap dv ts xb σ2)→Calls Tryz.prog 32 #[.pointer (some ⟨b,0,none⟩)] W fun r Y=>QIo b g cap dv ts xb W pl σ3 r Y):=hid fun W h=>QE5 b g cap dv ts xb σ2 f (pl,σ3) g1 W h
 have C2:CR b g cap dv ts xb 27 #[.pointer (some ⟨b,0,none⟩),.string ⟨#[58]⟩] (.tuple #[]) σ3 σ4:=hid fun W h=>by rw [k2];exact QAF b g cap dv ts xb σ3 [58] W h
 have C3:CR b g cap dv ts xb 34 #[.pointer (some ⟨b,0,none⟩)] (.int .i64 v3) σ4 σ5:=hid fun W h=>by rw [g3,k3];exact QD3 b g cap dv ts xb σ4 W h
 have C4:CR b g cap dv ts xb 27 #[.pointer (some ⟨b,0,none⟩),.string ⟨#[61]⟩] (.tuple #[]) σ5 σ6:=hid fun W h=>by rw [k4];exact QAF b g cap dv ts xb σ5 [61] W h
 have C5:CR b g cap dv ts xb 12 #[.pointer (some ⟨b,0,none⟩)] (.int .i64 v5) σ6 σ7:=hid fun W h=>(QCk b g cap dv ts f xb).expr σ6 v5 l5 σ7 g5 W h
 have C6:CR b g cap dv ts xb 27 #[.pointer (some ⟨b,0,none⟩),.string ⟨#[59]⟩] (.tuple #[]) σ7 σ8:=hid fun W h=>by rw [k6];exact QAF b g cap dv ts xb σ7 [59] W h
 have HPS0:=hid hp
 clear hp ht h1 g0 k0 g1 k2 g3 k3 k4 g5 k6
 obtain ⟨o,c,⟨c0,c1,c3,c4,c5,c6,fr⟩,hx⟩:=h.out.cells
 have ht:=h.out.tok
 have hgb:g≠b:=by have:=h.out.lt;omega
 have hl:=h.out.at_
 have hn:=h.out.len
 obtain ⟨t0,t1,t2,t3⟩:=ht
 obtain ⟨n,hnn⟩:∃ n,n = ts.length:=⟨_,rfl⟩
 obtain ⟨a,haa⟩:∃ a,a = σ0.at_:=⟨_,rfl⟩
 obtain ⟨cd,hcd⟩:∃ cd,cd = σ0.code:=⟨_,rfl⟩
 obtain ⟨ps,hps⟩:∃ ps,ps = σ0.pos:=⟨_,rfl⟩
 obtain ⟨dp,hdp⟩:∃ dp,dp = σ0.deep:=⟨_,rfl⟩
 obtain ⟨kd,hkd⟩:∃ kd,kd = (QA9 ts σ0.at_).kind:=⟨_,rfl⟩
 obtain ⟨tx,htx⟩:∃ tx,tx = (QA9 ts σ0.at_).text:=⟨_,rfl⟩
 obtain ⟨tv,htv⟩:∃ tv,tv = (QA9 ts σ0.at_).v:=⟨_,rfl⟩
 obtain ⟨p,hp⟩:∃ p,p = (QA9 ts σ0.at_).at_:=⟨_,rfl⟩
 rw [← hnn] at c0 hl hn
 rw [← hkd] at t0
 rw [← htx] at t1
 rw [← htv] at t2
 rw [← hp] at t3
 rw [← haa] at c1 t0 t1 t2 t3 hl
 rw [← hcd] at c5
 rw [← hdp] at c4
 rw [← hps] at c6
 have k0:((a:Nat):Int) < (n:Int):=by omega
 have f1:=fr 1
 have f4:=fr 4
 have f5:=fr 5
 have f6:=fr 6
 have HCD:=hid hcd
 have HPS:=hid hps
 have HDP:=hid hdp
 have HKD:=hid hkd
 have HTX:=hid htx
 have HTV:=hid htv
 have HP:=hid hp
 have HAA:=hid haa
 have HNN:=hid hnn
 clear fr hx hnn haa hcd hps hdp hkd htx htv hp c3
 have hbs:b < W.heap.size:=h.out.size
 go_enter Tryz.func13,Tryz.ntmps13
 go_wp2_with fail
 go_region_held3 (fun w'=>w'.cell? ⟨b,0,none⟩ = some (.slice (some ⟨g,0,none⟩) n cap)∧w'.cell? ⟨b,1,none⟩ = some (.int .i64 (a:Int))∧w'.cell? ⟨g,a*4+3,none⟩ = some (.int .i64 (p:Int)))
  ((repeat' apply And.intro) <;> first | assumption | exact cell_set2 (by assumption) (by omega) | go_keep)
  (fail)
 obtain ⟨A,hA⟩:∃ A,A = W.heap.size:=⟨_,rfl⟩
 obtain ⟨V,hV⟩:∃ V,V = ((W.alloc (.cells #[.int .i64 0,.string ⟨#[]⟩,.slice none 0 0,.slice none 0 0,.int .i64 0,.int .i64 0,.int .i64 0] 36)).alloc (.cells #[.int .i64 0,.string ⟨#[]⟩,.slice none 0 0,.slice none 0 0,.int .i64 0,.int .i64 0,.int .i64 (p:Int)] 36)).drew:=⟨_,rfl⟩
 have hbV:Below W.heap.size W V:=by rw [hV];exact (((Below.refl _ _).alloc (Nat.le_refl _) _).alloc (by simp) _).drew
 have HB0:V.heap[A]? = some (.cells #[.int .i64 0,.string ⟨#[]⟩,.slice none 0 0,.slice none 0 0,.int .i64 0,.int .i64 0,.int .i64 0] 36 (0,0)):=by
  rw [hV,hA]
  exact (heap_alloc_old _ _ (by simp)).trans (heap_alloc_new W _)
 have HB1:V.heap[A+1]? = some (.cells #[.int .i64 0,.string ⟨#[]⟩,.slice none 0 0,.slice none 0 0,.int .i64 0,.int .i64 0,.int .i64 (p:Int)] 36 (0,0)):=by
  have:=heap_alloc_new (W.alloc (.cells #[.int .i64 0,.string ⟨#[]⟩,.slice none 0 0,.slice none 0 0,.int .i64 0,.int .i64 0,.int .i64 0] 36)) (.cells #[.int .i64 0,.string ⟨#[]⟩,.slice none 0 0,.slice none 0 0,.int .i64 0,.int .i64 0,.int .i64 (p:Int)] 36)
  rw [World.size_alloc,← hA] at this
  rw [hV];exact this
 have HPP:ps0 = p:=by rw [HPS0.out,HP.out]
 have HS:Hid (DB W V b g cap dv ts xb σ0 A #[.int .i64 0,.string ⟨#[]⟩,.slice none 0 0,.slice none 0 0,.int .i64 0,.int .i64 0,.int .i64 (ps0:Int)] [] (.slice none 0 0) [] (.slice none 0 0)):=hid ⟨h.out.below hbV,RK.of_below hbV (Nat.le_of_lt hbs),HB0,by rw [HPP];exact HB1,by omega,hbs,World.ownsRow_nil _ _ _ _,ItsOwn.nil _ _⟩
 have HR:=hid HS.out.rd
 rw [← hV,← hA]
 have hbA:b < A:=by omega
 clear hV hA hbV HB0 HB1 hgb hn hl k0 t0 t1 t2 t3 c0 c1 c4 c5 c6 f1 f4 f5 f6 HCD HPS HDP HKD HTX HTV HAA HNN HP HPS0 HPP
 go_wp2_with (go_at_call 26;(with_reducible refine Calls.mono (T1.out _ HR) ?_);(rintro e w1 ⟨rfl,hr,hk⟩);have HX:=HS;clear HR HS;have HS:=hid (HX.out.call hr hk);have HR:=hid hr;clear hr hk HX;obtain ⟨⟨x0,x1,x2,x3,x4,x5,x6⟩,xf⟩:=QAP HS.out.box;have f0:=xf 0;clear xf)
 obtain ⟨u0,hw⟩:∃ w',w' = w1.setCell ⟨A+1,0,none⟩ (.int .i64 1):=⟨_,rfl⟩
 have HX:=HS
 clear HS
 have HS:Hid (DB W u0 b g cap dv ts xb σ1 A #[.int .i64 1,.string ⟨#[]⟩,.slice none 0 0,.slice none 0 0,.int .i64 0,.int .i64 0,.int .i64 (ps0:Int)] [] (.slice none 0 0) [] (.slice none 0 0)):=hid (by rw [hw];exact HX.out.set 0 _ rfl)
 rw [← hw]
 clear hw HX x0 x1 x2 x3 x4 x5 x6 f0
 clear HR
 have HR:=hid HS.out.rd
 refine (C0.out u0 HR).mono ?_
 rintro e z0 ⟨rfl,hr,hk⟩
 dsimp only
 have HX:=HS
 clear HS HR
 have HS:=hid (HX.out.call hr hk)
 clear hr hk HX
 obtain ⟨⟨x0,x1,x2,x3,x4,x5,x6⟩,xf⟩:=QAP HS.out.box;have f0:=xf 1;clear xf
 go_wp2_with fail
 obtain ⟨u1,hw⟩:∃ w',w' = z0.setCell ⟨A+1,1,none⟩ (.string (str v0)):=⟨_,rfl⟩
 have HX:=HS
 clear HS
 have HS:Hid (DB W u1 b g cap dv ts xb σ2 A #[.int .i64 1,.string (str v0),.slice none 0 0,.slice none 0 0,.int .i64 0,.int .i64 0,.int .i64 (ps0:Int)] [] (.slice none 0 0) [] (.slice none 0 0)):=hid (by rw [hw];exact HX.out.set 1 _ rfl)
 rw [← hw]
 clear hw HX x0 x1 x2 x3 x4 x5 x6 f0
 have HR:=hid HS.out.rd
 refine (C1.out u1 HR).mono ?_
 rintro e z1 ⟨po,pc,rfl,hs⟩
 dsimp only
 have HX:=HS
 clear HS HR
 have HS:=hid (HX.out.callP hs)
 clear hs HX
 obtain ⟨⟨x0,x1,x2,x3,x4,x5,x6⟩,xf⟩:=QAP HS.out.box;have f0:=xf 2;clear xf
 have HY:=hid (HS.out.set 2 (.slice po pl.length pc) rfl)
 obtain ⟨⟨y0,_,_,_,_,_,_⟩,_⟩:=QAP HY.out.box
 clear HY
 go_wp2_with fail
 clear y0
 obtain ⟨u2,hw⟩:∃ w',w' = z1.setCell ⟨A+1,2,none⟩ (.slice po pl.length pc):=⟨_,rfl⟩
 have HX:=HS
 clear HS
 have HS:Hid (DB W u2 b g cap dv ts xb σ3 A #[.int .i64 1,.string (str v0),.slice po pl.length pc,.slice none 0 0,.int .i64 0,.int .i64 0,.int .i64 (ps0:Int)] pl (.slice po pl.length pc) [] (.slice none 0 0)):=hid (by rw [hw];exact HX.out.set 2 _ rfl)
 rw [← hw]
 clear hw HX x0 x1 x2 x3 x4 x5 x6 f0
 have HR:=hid HS.out.rd
 refine (C2.out u2 HR).mono ?_
 rintro e z2 ⟨rfl,hr,hk⟩
 dsimp only
 have HX:=HS
 clear HS HR
 have HS:=hid (HX.out.call hr hk)
 clear hr hk HX
 obtain ⟨⟨x0,x1,x2,x3,x4,x5,x6⟩,_⟩:=QAP HS.out.box
 go_wp2_with fail
 clear x0 x1 x2 x3 x4 x5 x6
 have HR:=hid HS.out.rd
 refine (C3.out z2 HR).mono ?_
 rintro e z3 ⟨rfl,hr,hk⟩
 dsimp only
 have HX:=HS
 clear HS HR
 have HS:=hid (HX.out.call hr hk)
 clear hr hk HX
 obtain ⟨⟨x0,x1,x2,x3,x4,x5,x6⟩,xf⟩:=QAP HS.out.box;have f0:=xf 4;clear xf
 have HY:=hid (HS.out.set 4 (.int .i64 v3) rfl)
 obtain ⟨⟨y0,_,_,_,_,_,_⟩,_⟩:=QAP HY.out.box
 clear HY
 go_wp2_with fail
 clear y0
 obtain ⟨u4,hw⟩:∃ w',w' = z3.setCell ⟨A+1,4,none⟩ (.int .i64 v3):=⟨_,rfl⟩
 have HX:=HS
 clear HS
 have HS:Hid (DB W u4 b g cap dv ts xb σ5 A #[.int .i64 1,.string (str v0),.slice po pl.length pc,.slice none 0 0,.int .i64 v3,.int .i64 0,.int .i64 (ps0:Int)] pl (.slice po pl.length pc) [] (.slice none 0 0)):=hid (by rw [hw];exact HX.out.set 4 _ rfl)
 rw [← hw]
 clear hw HX x0 x1 x2 x3 x4 x5 x6 f0
 have HR:=hid HS.out.rd
 refine (C4.out u4 HR).mono ?_
 rintro e z4 ⟨rfl,hr,hk⟩
 dsimp only
 have HX:=HS
 clear HS HR
 have HS:=hid (HX.out.call hr hk)
 clear hr hk HX
 obtain ⟨⟨x0,x1,x2,x3,x4,x5,x6⟩,_⟩:=QAP HS.out.box
 go_wp2_with fail
 clear x0 x1 x2 x3 x4 x5 x6
 have HR:=hid HS.out.rd
 refine (C5.out z4 HR).mono ?_
 rintro e z5 ⟨rfl,hr,hk⟩
 dsimp only
 have HX:=HS
 clear HS HR
 have HS:=hid (HX.out.call hr hk)
 clear hr hk HX
 obtain ⟨⟨x0,x1,x2,x3,x4,x5,x6⟩,xf⟩:=QAP HS.out.box;have f0:=xf 5;clear xf
 go_wp2_with fail
 obtain ⟨u6,hw⟩:∃ w',w' = z5.setCell ⟨A+1,5,none⟩ (.int .i64 v5):=⟨_,rfl⟩
 have HX:=HS
 clear HS
 have HS:Hid (DB W u6 b g cap dv ts xb σ7 A #[.int .i64 1,.string (str v0),.slice po pl.length pc,.slice none 0 0,.int .i64 v3,.int .i64 v5,.int .i64 (ps0:Int)] pl (.slice po pl.length pc) [] (.slice none 0 0)):=hid (by rw [hw];exact HX.out.set 5 _ rfl)
 rw [← hw]
 clear hw HX x0 x1 x2 x3 x4 x5 x6 f0
 have HR:=hid HS.out.rd
 refine (C6.out u6 HR).mono ?_
 rintro e z6 ⟨rfl,hr,hk⟩
 dsimp only
 have HX:=HS
 clear HS HR
 have HS:=hid (HX.out.call hr hk)
 clear hr hk HX
 obtain ⟨⟨m0,m1,m2,m3,m4,m5,m6⟩,mf⟩:=QAP HS.out.box
 obtain ⟨⟨n0,n1,n2,n3,n4,n5,n6⟩,nf⟩:=QAP HS.out.zero
 have f0:=nf 0
 have f1:=nf 1
 have f2:=nf 2
 have f3:=nf 3
 have f4:=nf 4
 have f5:=nf 5
 have f6:=nf 6
 clear nf mf
 go_wp2_with fail
 obtain ⟨Y,hY⟩:∃ Y,Y = QOA z6 A (.int .i64 1) (.string (str v0)) (.slice po pl.length pc) (.slice none 0 0) (.int .i64 v3) (.int .i64 v5) (.int .i64 (ps0:Int)):=⟨_,rfl⟩
 have hY2:=hY
 unfold QOA at hY2
 rw [← hY2]
 have HB:=hid (show But A z6 Y by rw [hY];exact QGn _ _ _ _ _ _ _ _ _)
 have HY:Hid (Y.heap[A]? = some (.cells #[.int .i64 1,.string (str v0),.slice po pl.length pc,.slice none 0 0,.int .i64 v3,.int .i64 v5,.int .i64 (ps0:Int)] 36 (0,0))):=hid (by rw [hY];exact QGm HS.out.zero _ _ _ _ _ _ _)
 clear hY hY2 n0 n1 n2 n3 n4 n5 n6 m0 m1 m2 m3 m4 m5 m6 f0 f1 f2 f3 f4 f5 f6
 obtain ⟨⟨r0,r1,r2,r3,r4,r5,r6⟩,_⟩:=QAP HY.out
 refine bodyPost_ret (v:=.agg #[.int .i64 1,.string (str v0),.slice po pl.length pc,.slice none 0 0,.int .i64 v3,.int .i64 v5,.int .i64 (ps0:Int)]) (by simp [results,Tryz.results13,go_sem,r0,r1,r2,r3,r4,r5,r6]) rfl ?_
 exact ⟨po,pc,none,0,rfl,HS.out.rd.but HS.out.zero (by decide) (by decide) hbA HB.out,HS.out.rk.but HS.out.hA hbA HS.out.hb HB.out,QFH HS.out.pa HS.out.zero (by decide) HB.out,QIE HS.out.it HS.out.zero HB.out⟩
set_option maxRecDepth 100000 in
theorem QLI (b g cap:Nat) (dv:Value) (ts:List Tok) (xb:Nat→Prop) (f:Nat) (σ0 σ1 σ2 σ3 σ4 σ5 σ6 σ7 σ8 σ9 σ10 σ11:RS) (ps0:Nat) (hp:ps0 = (QA9 ts σ0.at_).at_) (v0:List UInt8) (pl:List Pa) (v3:Int) (is:List It) (v7:Int) (hf:isS ts [102,117,110] σ0 = false) (ht:isS ts [110,111,100,101] σ0 = true) (h1:σ1 = QA0 σ0) (g0:v0 = QAS ts σ1) (k0:σ2 = QA7 ts σ1) (g1:QBU ts f σ2 = some (pl,σ3)) (k2:σ4 = QA3 ts [58] σ3) (g3:v3 = QBo ts σ4) (k3:σ5 = QAv ts σ4) (k4:σ6 = QA3 ts [123] σ5) (g5:QGw ts f false f [] σ6 = some (is,σ7)) (k6:σ8 = QA3 ts [114,101,116,117,114,110] σ7) (l7:List Int) (g7:QAh ts f .expr σ8 = some (v7,l7,σ9)) (k8:σ10 = QA3 ts [59] σ9) (k9:σ11 = QA3 ts [125] σ10) (W:World) (h:Hid (Rd W b g cap dv ts xb σ0)) :
  Calls Tryz.prog 13 #[.pointer (some ⟨b,0,none⟩)] W fun r Y=>QIn b g cap dv ts xb W ⟨2,str v0,pl,is,v3,v7,(ps0:Int)⟩ σ11 r Y:=by
 have T1:CR b g cap dv ts xb 26 #[.pointer (some ⟨b,0,none⟩),.string ⟨#[102,117,110]⟩] (.bool false) σ0 σ0:=hid fun W h=>QA8 [102,117,110] hf W h
 have T2:CR b g cap dv ts xb 26 #[.pointer (some ⟨b,0,none⟩),.string ⟨#[110,111,100,101]⟩] (.bool true) σ0 σ1:=hid fun W h=>by rw [h1];exact QAN [110,111,100,101] ht W h
 have C0:CR b g cap dv ts xb 31 #[.pointer (some ⟨b,0,none⟩)] (.string (str v0)) σ1 σ2:=hid fun W h=>by rw [g0,k0];exact QAk b g cap dv ts xb σ1 W h
 have C1:Hid (∀ W,Hid (Rd W b g cap dv ts xb σ2)→Calls Tryz.prog 32 #[.pointer (some ⟨b,0,none⟩)] W fun r Y=>QIo b g cap dv ts xb W pl σ3 r Y):=hid fun W h=>QE5 b g cap dv ts xb σ2 f (pl,σ3) g1 W h
 have C2:CR b g cap dv ts xb 27 #[.pointer (some ⟨b,0,none⟩),.string ⟨#[58]⟩] (.tuple #[]) σ3 σ4:=hid fun W h=>by rw [k2];exact QAF b g cap dv ts xb σ3 [58] W h
 have C3:CR b g cap dv ts xb 34 #[.pointer (some ⟨b,0,none⟩)] (.int .i64 v3) σ4 σ5:=hid fun W h=>by rw [g3,k3];exact QD3 b g cap dv ts xb σ4 W h
 have C4:CR b g cap dv ts xb 27 #[.pointer (some ⟨b,0,none⟩),.string ⟨#[123]⟩] (.tuple #[]) σ5 σ6:=hid fun W h=>by rw [k4];exact QAF b g cap dv ts xb σ5 [123] W h
 have C5:Hid (∀ W,Hid (Rd W b g cap dv ts xb σ6)→Calls Tryz.prog 33 #[.pointer (some ⟨b,0,none⟩),.bool false] W fun r Y=>QHv b g cap dv ts xb W is σ7 r Y):=hid fun W h=>QHO b g cap dv ts xb σ6 f f false (is,σ7) g5 W h
 have C6:CR b g cap dv ts xb 27 #[.pointer (some ⟨b,0,none⟩),.string ⟨#[114,101,116,117,114,110]⟩] (.tuple #[]) σ7 σ8:=hid fun W h=>by rw [k6];exact QAF b g cap dv ts xb σ7 [114,101,116,117,114,110] W h
 have C7:CR b g cap dv ts xb 12 #[.pointer (some ⟨b,0,none⟩)] (.int .i64 v7) σ8 σ9:=hid fun W h=>(QCk b g cap dv ts f xb).expr σ8 v7 l7 σ9 g7 W h
 have C8:CR b g cap dv ts xb 27 #[.pointer (some ⟨b,0,none⟩),.string ⟨#[59]⟩] (.tuple #[]) σ9 σ10:=hid fun W h=>by rw [k8];exact QAF b g cap dv ts xb σ9 [59] W h
 have C9:CR b g cap dv ts xb 27 #[.pointer (some ⟨b,0,none⟩),.string ⟨#[125]⟩] (.tuple #[]) σ10 σ11:=hid fun W h=>by rw [k9];exact QAF b g cap dv ts xb σ10 [125] W h
 have HPS0:=hid hp
 clear hp hf ht h1 g0 k0 g1 k2 g3 k3 k4 g5 k6 g7 k8 k9
 obtain ⟨o,c,⟨c0,c1,c3,c4,c5,c6,fr⟩,hx⟩:=h.out.cells
 have ht:=h.out.tok
 have hgb:g≠b:=by have:=h.out.lt;omega
 have hl:=h.out.at_
 have hn:=h.out.len
 obtain ⟨t0,t1,t2,t3⟩:=ht
 obtain ⟨n,hnn⟩:∃ n,n = ts.length:=⟨_,rfl⟩
 obtain ⟨a,haa⟩:∃ a,a = σ0.at_:=⟨_,rfl⟩
 obtain ⟨cd,hcd⟩:∃ cd,cd = σ0.code:=⟨_,rfl⟩
 obtain ⟨ps,hps⟩:∃ ps,ps = σ0.pos:=⟨_,rfl⟩
 obtain ⟨dp,hdp⟩:∃ dp,dp = σ0.deep:=⟨_,rfl⟩
 obtain ⟨kd,hkd⟩:∃ kd,kd = (QA9 ts σ0.at_).kind:=⟨_,rfl⟩
 obtain ⟨tx,htx⟩:∃ tx,tx = (QA9 ts σ0.at_).text:=⟨_,rfl⟩
 obtain ⟨tv,htv⟩:∃ tv,tv = (QA9 ts σ0.at_).v:=⟨_,rfl⟩
 obtain ⟨p,hp⟩:∃ p,p = (QA9 ts σ0.at_).at_:=⟨_,rfl⟩
 rw [← hnn] at c0 hl hn
 rw [← hkd] at t0
 rw [← htx] at t1
 rw [← htv] at t2
 rw [← hp] at t3
 rw [← haa] at c1 t0 t1 t2 t3 hl
 rw [← hcd] at c5
 rw [← hdp] at c4
 rw [← hps] at c6
 have k0:((a:Nat):Int) < (n:Int):=by omega
 have f1:=fr 1
 have f4:=fr 4
 have f5:=fr 5
 have f6:=fr 6
 have HCD:=hid hcd
 have HPS:=hid hps
 have HDP:=hid hdp
 have HKD:=hid hkd
 have HTX:=hid htx
 have HTV:=hid htv
 have HP:=hid hp
 have HAA:=hid haa
 have HNN:=hid hnn
 clear fr hx hnn haa hcd hps hdp hkd htx htv hp c3
 have hbs:b < W.heap.size:=h.out.size
 go_enter Tryz.func13,Tryz.ntmps13
 go_wp2_with fail
 go_region_held3 (fun w'=>w'.cell? ⟨b,0,none⟩ = some (.slice (some ⟨g,0,none⟩) n cap)∧w'.cell? ⟨b,1,none⟩ = some (.int .i64 (a:Int))∧w'.cell? ⟨g,a*4+3,none⟩ = some (.int .i64 (p:Int)))
  ((repeat' apply And.intro) <;> first | assumption | exact cell_set2 (by assumption) (by omega) | go_keep)
  (fail)
 obtain ⟨A,hA⟩:∃ A,A = W.heap.size:=⟨_,rfl⟩
 obtain ⟨V,hV⟩:∃ V,V = ((W.alloc (.cells #[.int .i64 0,.string ⟨#[]⟩,.slice none 0 0,.slice none 0 0,.int .i64 0,.int .i64 0,.int .i64 0] 36)).alloc (.cells #[.int .i64 0,.string ⟨#[]⟩,.slice none 0 0,.slice none 0 0,.int .i64 0,.int .i64 0,.int .i64 (p:Int)] 36)).drew:=⟨_,rfl⟩
 have hbV:Below W.heap.size W V:=by rw [hV];exact (((Below.refl _ _).alloc (Nat.le_refl _) _).alloc (by simp) _).drew
 have HB0:V.heap[A]? = some (.cells #[.int .i64 0,.string ⟨#[]⟩,.slice none 0 0,.slice none 0 0,.int .i64 0,.int .i64 0,.int .i64 0] 36 (0,0)):=by
  rw [hV,hA]
  exact (heap_alloc_old _ _ (by simp)).trans (heap_alloc_new W _)
 have HB1:V.heap[A+1]? = some (.cells #[.int .i64 0,.string ⟨#[]⟩,.slice none 0 0,.slice none 0 0,.int .i64 0,.int .i64 0,.int .i64 (p:Int)] 36 (0,0)):=by
  have:=heap_alloc_new (W.alloc (.cells #[.int .i64 0,.string ⟨#[]⟩,.slice none 0 0,.slice none 0 0,.int .i64 0,.int .i64 0,.int .i64 0] 36)) (.cells #[.int .i64 0,.string ⟨#[]⟩,.slice none 0 0,.slice none 0 0,.int .i64 0,.int .i64 0,.int .i64 (p:Int)] 36)
  rw [World.size_alloc,← hA] at this
  rw [hV];exact this
 have HPP:ps0 = p:=by rw [HPS0.out,HP.out]
 have HS:Hid (DB W V b g cap dv ts xb σ0 A #[.int .i64 0,.string ⟨#[]⟩,.slice none 0 0,.slice none 0 0,.int .i64 0,.int .i64 0,.int .i64 (ps0:Int)] [] (.slice none 0 0) [] (.slice none 0 0)):=hid ⟨h.out.below hbV,RK.of_below hbV (Nat.le_of_lt hbs),HB0,by rw [HPP];exact HB1,by omega,hbs,World.ownsRow_nil _ _ _ _,ItsOwn.nil _ _⟩
 have HR:=hid HS.out.rd
 rw [← hV,← hA]
 have hbA:b < A:=by omega
 clear hV hA hbV HB0 HB1 hgb hn hl k0 t0 t1 t2 t3 c0 c1 c4 c5 c6 f1 f4 f5 f6 HCD HPS HDP HKD HTX HTV HAA HNN HP HPS0 HPP
 go_wp2_with (first
  | (go_at_call 26;(with_reducible refine Calls.mono (T1.out _ HR) ?_);(rintro e w1 ⟨rfl,hr,hk⟩);have HX:=HS;clear HR HS;have HS:=hid (HX.out.call hr hk);have HR:=hid hr;clear hr hk HX;have tok1:True:=trivial)
  | (go_at_call 26;(with_reducible refine Calls.mono (T2.out _ HR) ?_);(rintro e w2 ⟨rfl,hr,hk⟩);have _q:=tok1;have HX:=HS;clear HR HS;have HS:=hid (HX.out.call hr hk);have HR:=hid hr;clear hr hk HX;have _k:=tok1;obtain ⟨⟨x0,x1,x2,x3,x4,x5,x6⟩,xf⟩:=QAP HS.out.box;have f0:=xf 0;clear xf))
 obtain ⟨u0,hw⟩:∃ w',w' = w2.setCell ⟨A+1,0,none⟩ (.int .i64 2):=⟨_,rfl⟩
 have HX:=HS
 clear HS
 have HS:Hid (DB W u0 b g cap dv ts xb σ1 A #[.int .i64 2,.string ⟨#[]⟩,.slice none 0 0,.slice none 0 0,.int .i64 0,.int .i64 0,.int .i64 (ps0:Int)] [] (.slice none 0 0) [] (.slice none 0 0)):=hid (by rw [hw];exact HX.out.set 0 _ rfl)
 rw [← hw]
 clear hw HX x0 x1 x2 x3 x4 x5 x6 f0
 clear HR
 have HR:=hid HS.out.rd
 refine (C0.out u0 HR).mono ?_
 rintro e z0 ⟨rfl,hr,hk⟩
 dsimp only
 have HX:=HS
 clear HS HR
 have HS:=hid (HX.out.call hr hk)
 clear hr hk HX
 obtain ⟨⟨x0,x1,x2,x3,x4,x5,x6⟩,xf⟩:=QAP HS.out.box;have f0:=xf 1;clear xf
 go_wp2_with fail
 obtain ⟨u1,hw⟩:∃ w',w' = z0.setCell ⟨A+1,1,none⟩ (.string (str v0)):=⟨_,rfl⟩
 have HX:=HS
 clear HS
 have HS:Hid (DB W u1 b g cap dv ts xb σ2 A #[.int .i64 2,.string (str v0),.slice none 0 0,.slice none 0 0,.int .i64 0,.int .i64 0,.int .i64 (ps0:Int)] [] (.slice none 0 0) [] (.slice none 0 0)):=hid (by rw [hw];exact HX.out.set 1 _ rfl)
 rw [← hw]
 clear hw HX x0 x1 x2 x3 x4 x5 x6 f0
 have HR:=hid HS.out.rd
 refine (C1.out u1 HR).mono ?_
 rintro e z1 ⟨po,pc,rfl,hs⟩
 dsimp only
 have HX:=HS
 clear HS HR
 have HS:=hid (HX.out.callP hs)
 clear hs HX
 obtain ⟨⟨x0,x1,x2,x3,x4,x5,x6⟩,xf⟩:=QAP HS.out.box;have f0:=xf 2;clear xf
 have HY:=hid (HS.out.set 2 (.slice po pl.length pc) rfl)
 obtain ⟨⟨y0,_,_,_,_,_,_⟩,_⟩:=QAP HY.out.box
 clear HY
 go_wp2_with fail
 clear y0
 obtain ⟨u2,hw⟩:∃ w',w' = z1.setCell ⟨A+1,2,none⟩ (.slice po pl.length pc):=⟨_,rfl⟩
 have HX:=HS
 clear HS
 have HS:Hid (DB W u2 b g cap dv ts xb σ3 A #[.int .i64 2,.string (str v0),.slice po pl.length pc,.slice none 0 0,.int .i64 0,.int .i64 0,.int .i64 (ps0:Int)] pl (.slice po pl.length pc) [] (.slice none 0 0)):=hid (by rw [hw];exact HX.out.set 2 _ rfl)
 rw [← hw]
 clear hw HX x0 x1 x2 x3 x4 x5 x6 f0
 have HR:=hid HS.out.rd
 refine (C2.out u2 HR).mono ?_
 rintro e z2 ⟨rfl,hr,hk⟩
 dsimp only
 have HX:=HS
 clear HS HR
 have HS:=hid (HX.out.call hr hk)
 clear hr hk HX
 obtain ⟨⟨x0,x1,x2,x3,x4,x5,x6⟩,_⟩:=QAP HS.out.box
 go_wp2_with fail
 clear x0 x1 x2 x3 x4 x5 x6
 have HR:=hid HS.out.rd
 refine (C3.out z2 HR).mono ?_
 rintro e z3 ⟨rfl,hr,hk⟩
 dsimp only
 have HX:=HS
 clear HS HR
 have HS:=hid (HX.out.call hr hk)
 clear hr hk HX
 obtain ⟨⟨x0,x1,x2,x3,x4,x5,x6⟩,xf⟩:=QAP HS.out.box;have f0:=xf 4;clear xf
 have HY:=hid (HS.out.set 4 (.int .i64 v3) rfl)
 obtain ⟨⟨y0,_,_,_,_,_,_⟩,_⟩:=QAP HY.out.box
 clear HY
 go_wp2_with fail
 clear y0
 obtain ⟨u4,hw⟩:∃ w',w' = z3.setCell ⟨A+1,4,none⟩ (.int .i64 v3):=⟨_,rfl⟩
 have HX:=HS
 clear HS
 have HS:Hid (DB W u4 b g cap dv ts xb σ5 A #[.int .i64 2,.string (str v0),.slice po pl.length pc,.slice none 0 0,.int .i64 v3,.int .i64 0,.int .i64 (ps0:Int)] pl (.slice po pl.length pc) [] (.slice none 0 0)):=hid (by rw [hw];exact HX.out.set 4 _ rfl)
 rw [← hw]
 clear hw HX x0 x1 x2 x3 x4 x5 x6 f0
 have HR:=hid HS.out.rd
 refine (C4.out u4 HR).mono ?_
 rintro e z4 ⟨rfl,hr,hk⟩
 dsimp only
 have HX:=HS
 clear HS HR
 have HS:=hid (HX.out.call hr hk)
 clear hr hk HX
 obtain ⟨⟨x0,x1,x2,x3,x4,x5,x6⟩,_⟩:=QAP HS.out.box
 go_wp2_with fail
 clear x0 x1 x2 x3 x4 x5 x6
 have HR:=hid HS.out.rd
 refine (C5.out z4 HR).mono ?_
 rintro e z5 ⟨io,ic,rfl,hs⟩
 dsimp only
 have HX:=HS
 clear HS HR
 have HS:=hid (HX.out.callI hs)
 clear hs HX
 obtain ⟨⟨x0,x1,x2,x3,x4,x5,x6⟩,xf⟩:=QAP HS.out.box;have f0:=xf 3;clear xf
 go_wp2_with fail
 obtain ⟨u6,hw⟩:∃ w',w' = z5.setCell ⟨A+1,3,none⟩ (.slice io is.length ic):=⟨_,rfl⟩
 have HX:=HS
 clear HS
 have HS:Hid (DB W u6 b g cap dv ts xb σ7 A #[.int .i64 2,.string (str v0),.slice po pl.length pc,.slice io is.length ic,.int .i64 v3,.int .i64 0,.int .i64 (ps0:Int)] pl (.slice po pl.length pc) is (.slice io is.length ic)):=hid (by rw [hw];exact HX.out.set 3 _ rfl)
 rw [← hw]
 clear hw HX x0 x1 x2 x3 x4 x5 x6 f0
 have HR:=hid HS.out.rd
 refine (C6.out u6 HR).mono ?_
 rintro e z6 ⟨rfl,hr,hk⟩
 dsimp only
 have HX:=HS
 clear HS HR
 have HS:=hid (HX.out.call hr hk)
 clear hr hk HX
 obtain ⟨⟨x0,x1,x2,x3,x4,x5,x6⟩,_⟩:=QAP HS.out.box
 go_wp2_with fail
 clear x0 x1 x2 x3 x4 x5 x6
 have HR:=hid HS.out.rd
 refine (C7.out z6 HR).mono ?_
 rintro e z7 ⟨rfl,hr,hk⟩
 dsimp only
 have HX:=HS
 clear HS HR
 have HS:=hid (HX.out.call hr hk)
 clear hr hk HX
 obtain ⟨⟨x0,x1,x2,x3,x4,x5,x6⟩,xf⟩:=QAP HS.out.box;have f0:=xf 5;clear xf
 go_wp2_with fail
 obtain ⟨u8,hw⟩:∃ w',w' = z7.setCell ⟨A+1,5,none⟩ (.int .i64 v7):=⟨_,rfl⟩
 have HX:=HS
 clear HS
 have HS:Hid (DB W u8 b g cap dv ts xb σ9 A #[.int .i64 2,.string (str v0),.slice po pl.length pc,.slice io is.length ic,.int .i64 v3,.int .i64 v7,.int .i64 (ps0:Int)] pl (.slice po pl.length pc) is (.slice io is.length ic)):=hid (by rw [hw];exact HX.out.set 5 _ rfl)
 rw [← hw]
 clear hw HX x0 x1 x2 x3 x4 x5 x6 f0
 have HR:=hid HS.out.rd
 refine (C8.out u8 HR).mono ?_
 rintro e z8 ⟨rfl,hr,hk⟩
 dsimp only
 have HX:=HS
 clear HS HR
 have HS:=hid (HX.out.call hr hk)
 clear hr hk HX
 obtain ⟨⟨x0,x1,x2,x3,x4,x5,x6⟩,_⟩:=QAP HS.out.box
 go_wp2_with fail
 clear x0 x1 x2 x3 x4 x5 x6
 have HR:=hid HS.out.rd
 refine (C9.out z8 HR).mono ?_
 rintro e z9 ⟨rfl,hr,hk⟩
 dsimp only
 have HX:=HS
 clear HS HR
 have HS:=hid (HX.out.call hr hk)
 clear hr hk HX
 obtain ⟨⟨m0,m1,m2,m3,m4,m5,m6⟩,mf⟩:=QAP HS.out.box
 obtain ⟨⟨n0,n1,n2,n3,n4,n5,n6⟩,nf⟩:=QAP HS.out.zero
 have f0:=nf 0
 have f1:=nf 1
 have f2:=nf 2
 have f3:=nf 3
 have f4:=nf 4
 have f5:=nf 5
 have f6:=nf 6
 clear nf mf
 go_wp2_with fail
 obtain ⟨Y,hY⟩:∃ Y,Y = QOA z9 A (.int .i64 2) (.string (str v0)) (.slice po pl.length pc) (.slice io is.length ic) (.int .i64 v3) (.int .i64 v7) (.int .i64 (ps0:Int)):=⟨_,rfl⟩
 have hY2:=hY
 unfold QOA at hY2
 rw [← hY2]
 have HB:=hid (show But A z9 Y by rw [hY];exact QGn _ _ _ _ _ _ _ _ _)
 have HY:Hid (Y.heap[A]? = some (.cells #[.int .i64 2,.string (str v0),.slice po pl.length pc,.slice io is.length ic,.int .i64 v3,.int .i64 v7,.int .i64 (ps0:Int)] 36 (0,0))):=hid (by rw [hY];exact QGm HS.out.zero _ _ _ _ _ _ _)
 clear hY hY2 n0 n1 n2 n3 n4 n5 n6 m0 m1 m2 m3 m4 m5 m6 f0 f1 f2 f3 f4 f5 f6
 obtain ⟨⟨r0,r1,r2,r3,r4,r5,r6⟩,_⟩:=QAP HY.out
 refine bodyPost_ret (v:=.agg #[.int .i64 2,.string (str v0),.slice po pl.length pc,.slice io is.length ic,.int .i64 v3,.int .i64 v7,.int .i64 (ps0:Int)]) (by simp [results,Tryz.results13,go_sem,r0,r1,r2,r3,r4,r5,r6]) rfl ?_
 exact ⟨po,pc,io,ic,rfl,HS.out.rd.but HS.out.zero (by decide) (by decide) hbA HB.out,HS.out.rk.but HS.out.hA hbA HS.out.hb HB.out,QFH HS.out.pa HS.out.zero (by decide) HB.out,QIE HS.out.it HS.out.zero HB.out⟩
set_option maxRecDepth 100000 in
theorem QND (b g cap:Nat) (dv:Value) (ts:List Tok) (xb:Nat→Prop) (f:Nat) (σ0 σ1 σ2 σ3 σ4 σ5 σ6:RS) (ps0:Nat) (hp:ps0 = (QA9 ts σ0.at_).at_) (v1:List UInt8) (pl:List Pa) (is:List It) (hf:isS ts [102,117,110] σ0 = false) (hn:isS ts [110,111,100,101] σ0 = false) (k0:σ1 = QA3 ts [104,121,98,114,105,100] σ0) (g1:v1 = QAS ts σ1) (k1:σ2 = QA7 ts σ1) (g2:QBU ts f σ2 = some (pl,σ3)) (k3:σ4 = QA3 ts [123] σ3) (g4:QGw ts f true f [] σ4 = some (is,σ5)) (k5:σ6 = QA3 ts [125] σ5) (W:World) (h:Hid (Rd W b g cap dv ts xb σ0)) :
  Calls Tryz.prog 13 #[.pointer (some ⟨b,0,none⟩)] W fun r Y=>QIn b g cap dv ts xb W ⟨3,str v1,pl,is,0,0,(ps0:Int)⟩ σ6 r Y:=by
 have T1:CR b g cap dv ts xb 26 #[.pointer (some ⟨b,0,none⟩),.string ⟨#[102,117,110]⟩] (.bool false) σ0 σ0:=hid fun W h=>QA8 [102,117,110] hf W h
 have T2:CR b g cap dv ts xb 26 #[.pointer (some ⟨b,0,none⟩),.string ⟨#[110,111,100,101]⟩] (.bool false) σ0 σ0:=hid fun W h=>QA8 [110,111,100,101] hn W h
 have C0:CR b g cap dv ts xb 27 #[.pointer (some ⟨b,0,none⟩),.string ⟨#[104,121,98,114,105,100]⟩] (.tuple #[]) σ0 σ1:=hid fun W h=>by rw [k0];exact QAF b g cap dv ts xb σ0 [104,121,98,114,105,100] W h
 have C1:CR b g cap dv ts xb 31 #[.pointer (some ⟨b,0,none⟩)] (.string (str v1)) σ1 σ2:=hid fun W h=>by rw [g1,k1];exact QAk b g cap dv ts xb σ1 W h
 have C2:Hid (∀ W,Hid (Rd W b g cap dv ts xb σ2)→Calls Tryz.prog 32 #[.pointer (some ⟨b,0,none⟩)] W fun r Y=>QIo b g cap dv ts xb W pl σ3 r Y):=hid fun W h=>QE5 b g cap dv ts xb σ2 f (pl,σ3) g2 W h
 have C3:CR b g cap dv ts xb 27 #[.pointer (some ⟨b,0,none⟩),.string ⟨#[123]⟩] (.tuple #[]) σ3 σ4:=hid fun W h=>by rw [k3];exact QAF b g cap dv ts xb σ3 [123] W h
 have C4:Hid (∀ W,Hid (Rd W b g cap dv ts xb σ4)→Calls Tryz.prog 33 #[.pointer (some ⟨b,0,none⟩),.bool true] W fun r Y=>QHv b g cap dv ts xb W is σ5 r Y):=hid fun W h=>QHO b g cap dv ts xb σ4 f f true (is,σ5) g4 W h
 have C5:CR b g cap dv ts xb 27 #[.pointer (some ⟨b,0,none⟩),.string ⟨#[125]⟩] (.tuple #[]) σ5 σ6:=hid fun W h=>by rw [k5];exact QAF b g cap dv ts xb σ5 [125] W h
 have HPS0:=hid hp
 clear hp hf hn k0 g1 k1 g2 k3 g4 k5
 obtain ⟨o,c,⟨c0,c1,c3,c4,c5,c6,fr⟩,hx⟩:=h.out.cells
 have ht:=h.out.tok
 have hgb:g≠b:=by have:=h.out.lt;omega
 have hl:=h.out.at_
 have hn:=h.out.len
 obtain ⟨t0,t1,t2,t3⟩:=ht
 obtain ⟨n,hnn⟩:∃ n,n = ts.length:=⟨_,rfl⟩
 obtain ⟨a,haa⟩:∃ a,a = σ0.at_:=⟨_,rfl⟩
 obtain ⟨cd,hcd⟩:∃ cd,cd = σ0.code:=⟨_,rfl⟩
 obtain ⟨ps,hps⟩:∃ ps,ps = σ0.pos:=⟨_,rfl⟩
 obtain ⟨dp,hdp⟩:∃ dp,dp = σ0.deep:=⟨_,rfl⟩
 obtain ⟨kd,hkd⟩:∃ kd,kd = (QA9 ts σ0.at_).kind:=⟨_,rfl⟩
 obtain ⟨tx,htx⟩:∃ tx,tx = (QA9 ts σ0.at_).text:=⟨_,rfl⟩
 obtain ⟨tv,htv⟩:∃ tv,tv = (QA9 ts σ0.at_).v:=⟨_,rfl⟩
 obtain ⟨p,hp⟩:∃ p,p = (QA9 ts σ0.at_).at_:=⟨_,rfl⟩
 rw [← hnn] at c0 hl hn
 rw [← hkd] at t0
 rw [← htx] at t1
 rw [← htv] at t2
 rw [← hp] at t3
 rw [← haa] at c1 t0 t1 t2 t3 hl
 rw [← hcd] at c5
 rw [← hdp] at c4
 rw [← hps] at c6
 have k0:((a:Nat):Int) < (n:Int):=by omega
 have f1:=fr 1
 have f4:=fr 4
 have f5:=fr 5
 have f6:=fr 6
 have HCD:=hid hcd
 have HPS:=hid hps
 have HDP:=hid hdp
 have HKD:=hid hkd
 have HTX:=hid htx
 have HTV:=hid htv
 have HP:=hid hp
 have HAA:=hid haa
 have HNN:=hid hnn
 clear fr hx hnn haa hcd hps hdp hkd htx htv hp c3
 have hbs:b < W.heap.size:=h.out.size
 go_enter Tryz.func13,Tryz.ntmps13
 go_wp2_with fail
 go_region_held3 (fun w'=>w'.cell? ⟨b,0,none⟩ = some (.slice (some ⟨g,0,none⟩) n cap)∧w'.cell? ⟨b,1,none⟩ = some (.int .i64 (a:Int))∧w'.cell? ⟨g,a*4+3,none⟩ = some (.int .i64 (p:Int)))
  ((repeat' apply And.intro) <;> first | assumption | exact cell_set2 (by assumption) (by omega) | go_keep)
  (fail)
 obtain ⟨A,hA⟩:∃ A,A = W.heap.size:=⟨_,rfl⟩
 obtain ⟨V,hV⟩:∃ V,V = ((W.alloc (.cells #[.int .i64 0,.string ⟨#[]⟩,.slice none 0 0,.slice none 0 0,.int .i64 0,.int .i64 0,.int .i64 0] 36)).alloc (.cells #[.int .i64 0,.string ⟨#[]⟩,.slice none 0 0,.slice none 0 0,.int .i64 0,.int .i64 0,.int .i64 (p:Int)] 36)).drew:=⟨_,rfl⟩
 have hbV:Below W.heap.size W V:=by rw [hV];exact (((Below.refl _ _).alloc (Nat.le_refl _) _).alloc (by simp) _).drew
 have HB0:V.heap[A]? = some (.cells #[.int .i64 0,.string ⟨#[]⟩,.slice none 0 0,.slice none 0 0,.int .i64 0,.int .i64 0,.int .i64 0] 36 (0,0)):=by
  rw [hV,hA]
  exact (heap_alloc_old _ _ (by simp)).trans (heap_alloc_new W _)
 have HB1:V.heap[A+1]? = some (.cells #[.int .i64 0,.string ⟨#[]⟩,.slice none 0 0,.slice none 0 0,.int .i64 0,.int .i64 0,.int .i64 (p:Int)] 36 (0,0)):=by
  have:=heap_alloc_new (W.alloc (.cells #[.int .i64 0,.string ⟨#[]⟩,.slice none 0 0,.slice none 0 0,.int .i64 0,.int .i64 0,.int .i64 0] 36)) (.cells #[.int .i64 0,.string ⟨#[]⟩,.slice none 0 0,.slice none 0 0,.int .i64 0,.int .i64 0,.int .i64 (p:Int)] 36)
  rw [World.size_alloc,← hA] at this
  rw [hV];exact this
 have HPP:ps0 = p:=by rw [HPS0.out,HP.out]
 have HS:Hid (DB W V b g cap dv ts xb σ0 A #[.int .i64 0,.string ⟨#[]⟩,.slice none 0 0,.slice none 0 0,.int .i64 0,.int .i64 0,.int .i64 (ps0:Int)] [] (.slice none 0 0) [] (.slice none 0 0)):=hid ⟨h.out.below hbV,RK.of_below hbV (Nat.le_of_lt hbs),HB0,by rw [HPP];exact HB1,by omega,hbs,World.ownsRow_nil _ _ _ _,ItsOwn.nil _ _⟩
 have HR:=hid HS.out.rd
 rw [← hV,← hA]
 have hbA:b < A:=by omega
 clear hV hA hbV HB0 HB1 hgb hn hl k0 t0 t1 t2 t3 c0 c1 c4 c5 c6 f1 f4 f5 f6 HCD HPS HDP HKD HTX HTV HAA HNN HP HPS0 HPP
 go_wp2_with (first
  | (go_at_call 26;(with_reducible refine Calls.mono (T1.out _ HR) ?_);(rintro e w1 ⟨rfl,hr,hk⟩);have HX:=HS;clear HR HS;have HS:=hid (HX.out.call hr hk);have HR:=hid hr;clear hr hk HX;have tok1:True:=trivial)
  | (go_at_call 26;(with_reducible refine Calls.mono (T2.out _ HR) ?_);(rintro e w2 ⟨rfl,hr,hk⟩);have _q:=tok1;have HX:=HS;clear HR HS;have HS:=hid (HX.out.call hr hk);have HR:=hid hr;clear hr hk HX;have _k:=tok1;obtain ⟨⟨x0,x1,x2,x3,x4,x5,x6⟩,xf⟩:=QAP HS.out.box;have f0:=xf 0;clear xf))
 obtain ⟨u0,hw⟩:∃ w',w' = w2.setCell ⟨A+1,0,none⟩ (.int .i64 3):=⟨_,rfl⟩
 have HX:=HS
 clear HS
 have HS:Hid (DB W u0 b g cap dv ts xb σ0 A #[.int .i64 3,.string ⟨#[]⟩,.slice none 0 0,.slice none 0 0,.int .i64 0,.int .i64 0,.int .i64 (ps0:Int)] [] (.slice none 0 0) [] (.slice none 0 0)):=hid (by rw [hw];exact HX.out.set 0 _ rfl)
 rw [← hw]
 clear hw HX x0 x1 x2 x3 x4 x5 x6 f0
 clear HR
 have HR:=hid HS.out.rd
 refine (C0.out u0 HR).mono ?_
 rintro e z0 ⟨rfl,hr,hk⟩
 dsimp only
 have HX:=HS
 clear HS HR
 have HS:=hid (HX.out.call hr hk)
 clear hr hk HX
 obtain ⟨⟨x0,x1,x2,x3,x4,x5,x6⟩,_⟩:=QAP HS.out.box
 go_wp2_with fail
 clear x0 x1 x2 x3 x4 x5 x6
 have HR:=hid HS.out.rd
 refine (C1.out z0 HR).mono ?_
 rintro e z1 ⟨rfl,hr,hk⟩
 dsimp only
 have HX:=HS
 clear HS HR
 have HS:=hid (HX.out.call hr hk)
 clear hr hk HX
 obtain ⟨⟨x0,x1,x2,x3,x4,x5,x6⟩,xf⟩:=QAP HS.out.box;have f0:=xf 1;clear xf
 go_wp2_with fail
 obtain ⟨u2,hw⟩:∃ w',w' = z1.setCell ⟨A+1,1,none⟩ (.string (str v1)):=⟨_,rfl⟩
 have HX:=HS
 clear HS
 have HS:Hid (DB W u2 b g cap dv ts xb σ2 A #[.int .i64 3,.string (str v1),.slice none 0 0,.slice none 0 0,.int .i64 0,.int .i64 0,.int .i64 (ps0:Int)] [] (.slice none 0 0) [] (.slice none 0 0)):=hid (by rw [hw];exact HX.out.set 1 _ rfl)
 rw [← hw]
 clear hw HX x0 x1 x2 x3 x4 x5 x6 f0
 have HR:=hid HS.out.rd
 refine (C2.out u2 HR).mono ?_
 rintro e z2 ⟨po,pc,rfl,hs⟩
 dsimp only
 have HX:=HS
 clear HS HR
 have HS:=hid (HX.out.callP hs)
 clear hs HX
 obtain ⟨⟨x0,x1,x2,x3,x4,x5,x6⟩,xf⟩:=QAP HS.out.box;have f0:=xf 2;clear xf
 have HY:=hid (HS.out.set 2 (.slice po pl.length pc) rfl)
 obtain ⟨⟨y0,_,_,_,_,_,_⟩,_⟩:=QAP HY.out.box
 clear HY
 go_wp2_with fail
 clear y0
 obtain ⟨u3,hw⟩:∃ w',w' = z2.setCell ⟨A+1,2,none⟩ (.slice po pl.length pc):=⟨_,rfl⟩
 have HX:=HS
 clear HS
 have HS:Hid (DB W u3 b g cap dv ts xb σ3 A #[.int .i64 3,.string (str v1),.slice po pl.length pc,.slice none 0 0,.int .i64 0,.int .i64 0,.int .i64 (ps0:Int)] pl (.slice po pl.length pc) [] (.slice none 0 0)):=hid (by rw [hw];exact HX.out.set 2 _ rfl)
 rw [← hw]
 clear hw HX x0 x1 x2 x3 x4 x5 x6 f0
 have HR:=hid HS.out.rd
 refine (C3.out u3 HR).mono ?_
 rintro e z3 ⟨rfl,hr,hk⟩
 dsimp only
 have HX:=HS
 clear HS HR
 have HS:=hid (HX.out.call hr hk)
 clear hr hk HX
 obtain ⟨⟨x0,x1,x2,x3,x4,x5,x6⟩,_⟩:=QAP HS.out.box
 go_wp2_with fail
 clear x0 x1 x2 x3 x4 x5 x6
 have HR:=hid HS.out.rd
 refine (C4.out z3 HR).mono ?_
 rintro e z4 ⟨io,ic,rfl,hs⟩
 dsimp only
 have HX:=HS
 clear HS HR
 have HS:=hid (HX.out.callI hs)
 clear hs HX
 obtain ⟨⟨x0,x1,x2,x3,x4,x5,x6⟩,xf⟩:=QAP HS.out.box;have f0:=xf 3;clear xf
 go_wp2_with fail
 obtain ⟨u5,hw⟩:∃ w',w' = z4.setCell ⟨A+1,3,none⟩ (.slice io is.length ic):=⟨_,rfl⟩
 have HX:=HS
 clear HS
 have HS:Hid (DB W u5 b g cap dv ts xb σ5 A #[.int .i64 3,.string (str v1),.slice po pl.length pc,.slice io is.length ic,.int .i64 0,.int .i64 0,.int .i64 (ps0:Int)] pl (.slice po pl.length pc) is (.slice io is.length ic)):=hid (by rw [hw];exact HX.out.set 3 _ rfl)
 rw [← hw]
 clear hw HX x0 x1 x2 x3 x4 x5 x6 f0
 have HR:=hid HS.out.rd
 refine (C5.out u5 HR).mono ?_
 rintro e z5 ⟨rfl,hr,hk⟩
 dsimp only
 have HX:=HS
 clear HS HR
 have HS:=hid (HX.out.call hr hk)
 clear hr hk HX
 obtain ⟨⟨m0,m1,m2,m3,m4,m5,m6⟩,mf⟩:=QAP HS.out.box
 obtain ⟨⟨n0,n1,n2,n3,n4,n5,n6⟩,nf⟩:=QAP HS.out.zero
 have f0:=nf 0
 have f1:=nf 1
 have f2:=nf 2
 have f3:=nf 3
 have f4:=nf 4
 have f5:=nf 5
 have f6:=nf 6
 clear nf mf
 go_wp2_with fail
 obtain ⟨Y,hY⟩:∃ Y,Y = QOA z5 A (.int .i64 3) (.string (str v1)) (.slice po pl.length pc) (.slice io is.length ic) (.int .i64 0) (.int .i64 0) (.int .i64 (ps0:Int)):=⟨_,rfl⟩
 have hY2:=hY
 unfold QOA at hY2
 rw [← hY2]
 have HB:=hid (show But A z5 Y by rw [hY];exact QGn _ _ _ _ _ _ _ _ _)
 have HY:Hid (Y.heap[A]? = some (.cells #[.int .i64 3,.string (str v1),.slice po pl.length pc,.slice io is.length ic,.int .i64 0,.int .i64 0,.int .i64 (ps0:Int)] 36 (0,0))):=hid (by rw [hY];exact QGm HS.out.zero _ _ _ _ _ _ _)
 clear hY hY2 n0 n1 n2 n3 n4 n5 n6 m0 m1 m2 m3 m4 m5 m6 f0 f1 f2 f3 f4 f5 f6
 obtain ⟨⟨r0,r1,r2,r3,r4,r5,r6⟩,_⟩:=QAP HY.out
 refine bodyPost_ret (v:=.agg #[.int .i64 3,.string (str v1),.slice po pl.length pc,.slice io is.length ic,.int .i64 0,.int .i64 0,.int .i64 (ps0:Int)]) (by simp [results,Tryz.results13,go_sem,r0,r1,r2,r3,r4,r5,r6]) rfl ?_
 exact ⟨po,pc,io,ic,rfl,HS.out.rd.but HS.out.zero (by decide) (by decide) hbA HB.out,HS.out.rk.but HS.out.hA hbA HS.out.hb HB.out,QFH HS.out.pa HS.out.zero (by decide) HB.out,QIE HS.out.it HS.out.zero HB.out⟩
end
section
open Go.RowKit Lx
set_option linter.unusedVariables false
def QEx (ts:List Tok) (f:Nat) (σ:RS):Option (De × RS) :=
 if isS ts [102,117,110] σ = true then (QBU ts f (QA7 ts (QA0 σ))).bind fun r=>(QCd ts f (QA3 ts [61] (QAv ts (QA3 ts [58] r.2)))).bind fun e=>some (⟨1,str (QAS ts (QA0 σ)),r.1,[],QBo ts (QA3 ts [58] r.2),e.1,((QA9 ts σ.at_).at_:Int)⟩,QA3 ts [59] e.2)
 else if isS ts [110,111,100,101] σ = true then (QBU ts f (QA7 ts (QA0 σ))).bind fun r=>(QGw ts f false f [] (QA3 ts [123] (QAv ts (QA3 ts [58] r.2)))).bind fun i=>(QCd ts f (QA3 ts [114,101,116,117,114,110] i.2)).bind fun e=>some (⟨2,str (QAS ts (QA0 σ)),r.1,i.1,QBo ts (QA3 ts [58] r.2),e.1,((QA9 ts σ.at_).at_:Int)⟩,QA3 ts [125] (QA3 ts [59] e.2))
 else (QBU ts f (QA7 ts (QA3 ts [104,121,98,114,105,100] σ))).bind fun r=>(QGw ts f true f [] (QA3 ts [123] r.2)).bind fun i=>some (⟨3,str (QAS ts (QA3 ts [104,121,98,114,105,100] σ)),r.1,i.1,0,0,((QA9 ts σ.at_).at_:Int)⟩,QA3 ts [125] i.2)
theorem QNB (b g cap:Nat) (dv:Value) (ts:List Tok) (xb:Nat→Prop) (σ:RS) (f:Nat) (d:De) (τ:RS) (hr:QEx ts f σ = some (d,τ)) (W:World) (h:Hid (Rd W b g cap dv ts xb σ)) :
  Calls Tryz.prog 13 #[.pointer (some ⟨b,0,none⟩)] W fun r Y=>QIn b g cap dv ts xb W d τ r Y:=by
 unfold QEx at hr
 split at hr
 ·rename_i ht
  obtain ⟨⟨pl,s3⟩,g1,hr⟩:=Option.bind_eq_some_iff.1 hr
  obtain ⟨v,l,s7,g5,hr⟩:=QAr hr
  cases hr
  exact QNC (f:=f) (hp:=rfl) (ht:=ht) (h1:=rfl) (g0:=rfl) (k0:=rfl) (g1:=g1) (k2:=rfl) (g3:=rfl) (k3:=rfl) (k4:=rfl) (g5:=g5) (k6:=rfl) (W:=W) (h:=h)
 ·rename_i hf
  have hf2:=Bool.eq_false_iff.2 hf
  split at hr
  ·rename_i ht
   obtain ⟨⟨pl,s3⟩,g1,hr⟩:=Option.bind_eq_some_iff.1 hr
   obtain ⟨⟨is,s6⟩,g5,hr⟩:=Option.bind_eq_some_iff.1 hr
   obtain ⟨v,l,s8,g7,hr⟩:=QAr hr
   cases hr
   exact QLI (f:=f) (hp:=rfl) (hf:=hf2) (ht:=ht) (h1:=rfl) (g0:=rfl) (k0:=rfl) (g1:=g1) (k2:=rfl) (g3:=rfl) (k3:=rfl) (k4:=rfl) (g5:=g5) (k6:=rfl) (g7:=g7) (k8:=rfl) (k9:=rfl) (W:=W) (h:=h)
  ·rename_i hn
   have hn2:=Bool.eq_false_iff.2 hn
   obtain ⟨⟨pl,s3⟩,g2,hr⟩:=Option.bind_eq_some_iff.1 hr
   obtain ⟨⟨is,s6⟩,g4,hr⟩:=Option.bind_eq_some_iff.1 hr
   cases hr
   exact QND (f:=f) (hp:=rfl) (hf:=hf2) (hn:=hn2) (k0:=rfl) (g1:=rfl) (k1:=rfl) (g2:=g2) (k3:=rfl) (g4:=g4) (k5:=rfl) (W:=W) (h:=h)
def QBZ (ts:List Tok) (f:Nat):Nat→List De→RS→Option (List De × RS)
 | 0,_,_=>none
 | n+1,acc,σ=>if acc.length≤40000 then (if σ.code = 0 then (if (QA9 ts σ.at_).kind = 5 then some (acc,σ) else (QEx ts f σ).bind fun r=>QBZ ts f n (acc ++ [r.1]) r.2) else some (acc,σ)) else none
theorem QH7 {ts:List Tok} {f n:Nat} {acc:List De} {σ:RS} {R:List De × RS} (h:QBZ ts f n acc σ = some R):∃ k,n = k+1∧acc.length≤40000 ∧
  ((σ.code = 0∧(QA9 ts σ.at_).kind = 5∧R = (acc,σ))∨(σ.code = 0∧(QA9 ts σ.at_).kind≠5∧∃ d τ,QEx ts f σ = some (d,τ)∧QBZ ts f k (acc ++ [d]) τ = some R)∨(σ.code≠0∧R = (acc,σ))):=by
 cases n with
 | zero=>cases h
 | succ k =>
  simp only [QBZ] at h
  split at h
  ·rename_i hl
   refine ⟨k,rfl,hl,?_⟩
   split at h
   ·rename_i hc
    split at h
    ·rename_i h5;exact .inl ⟨hc,h5,by simpa using h.symm⟩
    ·rename_i h5
     obtain ⟨⟨d,τ⟩,h1,h2⟩:=Option.bind_eq_some_iff.1 h
     exact .inr (.inl ⟨hc,h5,d,τ,h1,h2⟩)
   ·rename_i hc;exact .inr (.inr ⟨hc,by simpa using h.symm⟩)
  ·cases h
def deGC (x:De) (pv iv:Value):List Value:=[.int .i64 x.kind,.string x.name,pv,iv,.int .i64 x.type,.int .i64 x.e,.int .i64 x.pos]
def QH8 (l:List (De × Value × Value)):List Value:=l.flatMap fun x=>deGC x.1 x.2.1 x.2.2
theorem QJp (l:List (De × Value × Value)) (x:De × Value × Value):QH8 (l ++ [x]) = QH8 l ++ deGC x.1 x.2.1 x.2.2:=by unfold QH8;rw [List.flatMap_append];simp
def DesOwn (W:World) (B:Nat) (v:Value) (l:List De):Prop :=
 ∃ q:List (De × Value × Value),q.map Prod.fst = l∧W.ownsRow B 36 7 v l.length (QH8 q)∧∀ x∈q,W.ownsRow B 65 2 x.2.1 x.1.params.length (paC x.1.params)∧ItsOwn W B x.2.2 x.1.items
theorem DesOwn.keep {b:Nat} {W Y:World} {B:Nat} {v:Value} {l:List De} (h:DesOwn W B v l) (hB:b < B) (hk:RK b W Y):DesOwn Y B v l:=by
 obtain ⟨q,h1,h2,h3⟩:=h
 exact ⟨q,h1,QAY h2 (by decide) hB hk,fun x hx=>⟨QAY (h3 x hx).1 (by decide) hB hk,(h3 x hx).2.keep hB hk⟩⟩
theorem QGX {W Y:World} {B:Nat} {v:Value} {l:List It} (h:ItsOwn W B v l) (hk:∀ k,B≤k→k < W.heap.size→Y.heap[k]? = W.heap[k]?):ItsOwn Y B v l:=by
 obtain ⟨q,h1,h2,h3⟩:=h
 exact ⟨q,h1,QAG h2 fun k e=>hk k (h2.lt k e).1 (h2.lt k e).2,fun x hx=>QAG (h3 x hx) fun k e=>hk k ((h3 x hx).lt k e).1 ((h3 x hx).lt k e).2⟩
theorem DesOwn.same {W Y:World} {B:Nat} {v:Value} {l:List De} (h:DesOwn W B v l) (hk:∀ k,B≤k→k < W.heap.size→Y.heap[k]? = W.heap[k]?):DesOwn Y B v l:=by
 obtain ⟨q,h1,h2,h3⟩:=h
 exact ⟨q,h1,QAG h2 fun k e=>hk k (h2.lt k e).1 (h2.lt k e).2,fun x hx=>⟨QAG (h3 x hx).1 fun k e=>hk k ((h3 x hx).1.lt k e).1 ((h3 x hx).1.lt k e).2,QGX (h3 x hx).2 hk⟩⟩
theorem DesOwn.base {W:World} {B B' : Nat} {v:Value} {l:List De} (h:DesOwn W B v l) (hb:B'≤B):DesOwn W B' v l:=by
 obtain ⟨q,h1,h2,h3⟩:=h
 exact ⟨q,h1,QBf h2 hb,fun x hx=>⟨QBf (h3 x hx).1 hb,(h3 x hx).2.base hb⟩⟩
theorem QNZ {W Y:World} {B B2:Nat} {v v2:Value} {l:List It} {s2 n2:Nat} {xs2:List Value} (h:ItsOwn W B v l) (h2:W.ownsRow B2 36 s2 v2 n2 xs2) (hg:W.grownBy Y v2.ownBlock):ItsOwn Y B v l:=by
 obtain ⟨q,h1,h3,h4⟩:=h
 exact ⟨q,h1,QDp h3 h2 (by decide) hg,fun x hx=>QDp (h4 x hx) h2 (by decide) hg⟩
theorem QLs {W Y:World} {B:Nat} {v:Value} {l:List It} (h:ItsOwn W B v l) (hb:Below W.heap.size W Y):ItsOwn Y B v l:=QGX h fun k _ hk=>hb.block k hk
theorem de_info:(Tryz.prog.info? 36).map (fun i=>(i.zero,i.size,i.bytes)) = some (some (.agg #[.int .i64 0,.string ⟨#[]⟩,.slice none 0 0,.slice none 0 0,.int .i64 0,.int .i64 0,.int .i64 0]),7,96):=by kernel_rfl
theorem step_de {ops:Array Oper} {o:Oper} {a:Act} {K:Act→World→Prop} {Q:Exit→Act→World→Prop} {E:Prop} (w:World) (hgd:o.guard = none) (s x:Operand)
  (ho:o.op = Op.call { callee:=Callee.builtin Builtin.append,args:=#[s,x],argTypes:=#[23,23] }) (B:Nat) (v:Value) (n:Nat) (xs:List Value) (hs:a.eval s = v) (hown:w.ownsRow B 36 7 v n xs)
  (ad:Addr) (news:List Value) (hx:a.eval x = .slice (some ad) 1 1) (hn:news.length = 1*7) (hc:∀ j u,news[j]? = some u→w.cell? (ad.add j) = some u) (h1c:∀ u∈news,u.oneCell' = true) (hk:n≤40000) (hB:B≤w.heap.size)
  (h:∀ g cap w',w'.ownsRow B 36 7 (.slice (some ⟨g,0,none⟩) (n+1) cap) (n+1) (xs ++ news)→w.grownBy w' v.ownBlock→K (a.put o.dst (.slice (some ⟨g,0,none⟩) (n+1) cap)) w'):if Region.wanted o (yielded ops a.tmps) = true then Oper.wp Tryz.prog o a w K Q else E:=by
 rw [if_pos (by simp [Region.wanted,hgd])]
 obtain ⟨i,h2,h3,h4,h5⟩:=info_parts de_info
 refine wp_append_own w s x 23 ho B 36 i _ 7 96 Tryz.underlying23 h2 h3 h4 h5 rfl (by decide) v n xs hs hown ad 1 1 news hx hn hc h1c (by unfold maxLen;omega) (by omega) hB fun v' w' r1 r2 _=>?_
 obtain ⟨g,cap,rfl⟩:=ownsRow_succ r1
 exact h g cap w' r1 r2
theorem QOD (W:World) (B:Nat) (hB:B = W.heap.size) (x0 x1 x2 x3 x4 x5 x6:Value) (T:TypeId) (j:Nat) (u:Value) (h : [x0,x1,x2,x3,x4,x5,x6][j]? = some u):(W.alloc (.cells #[x0,x1,x2,x3,x4,x5,x6] T)).cell? ((⟨B,0,none⟩:Addr).add j) = some u:=by
 subst hB
 have e:(⟨W.heap.size,0,none⟩:Addr).add j = ⟨W.heap.size,j,none⟩:=by unfold Addr.add;split <;> simp_all
 rw [e,World.cell?_alloc_new,← h,← Array.getElem?_toList]
theorem Rd.setDv {W:World} {b g cap:Nat} {dv:Value} {ts:List Tok} {xb:Nat→Prop} {σ:RS} (h:Rd W b g cap dv ts xb σ) (v:Value):Rd (W.setCell ⟨b,2,none⟩ v) b g cap v ts xb σ:=by
 obtain ⟨o,c,h1,h2⟩:=h.blk
 refine ⟨fun k hk=>Nat.lt_of_lt_of_le (h.xlt k hk) ((Below.refl b W).setCell (p:=⟨b,2,none⟩) (Nat.le_refl _) v).size,⟨o,c,?_,h2.same fun k hk _=>Below.heap_setCell W ⟨b,2,none⟩ v k (by simp;omega)⟩,QDV h.row (Below.heap_setCell W ⟨b,2,none⟩ v g (by have:=h.lt;simp;omega)),h.lt,h.at_,h.len,h.ends⟩
 rw [QAT h1];simp
structure PaSt (W Y:World) (b g cap:Nat) (ts:List Tok) (σ:RS) (acc:List De) (dv:Value):Prop where
 rd:Rd Y b g cap dv ts (fun _=>False) σ
 rk:RK b W Y
 des:DesOwn Y W.heap.size dv acc
theorem PaSt.push {W w1 w2 w3:World} {b g cap:Nat} {ts:List Tok} {τ:RS} {acc:List De} {dv pv iv:Value} {x:De} {q:List (De × Value × Value)} (hbs:b < W.heap.size) (hk0:RK b W w1) (hr1:Rd w1 b g cap dv ts (fun _=>False) τ) (hb:Below w1.heap.size w1 w2)
  (hq1:q.map Prod.fst = acc) (hq3:∀ y∈q,w1.ownsRow W.heap.size 65 2 y.2.1 y.1.params.length (paC y.1.params)∧ItsOwn w1 W.heap.size y.2.2 y.1.items) (hp:w1.ownsRow W.heap.size 65 2 pv x.params.length (paC x.params)) (hi:ItsOwn w1 W.heap.size iv x.items) (ho2:w2.ownsRow W.heap.size 36 7 dv acc.length (QH8 q)) (hg:w2.grownBy w3 dv.ownBlock) {gg cc:Nat}
  (ho:w3.ownsRow W.heap.size 36 7 (.slice (some ⟨gg,0,none⟩) (acc.length+1) cc) (acc.length+1) (QH8 q ++ deGC x pv iv)) :
  PaSt W (w3.setCell ⟨b,2,none⟩ (.slice (some ⟨gg,0,none⟩) (acc.length+1) cc)) b g cap ts τ (acc ++ [x]) (.slice (some ⟨gg,0,none⟩) (acc.length+1) cc):=by
 have hr3:=(hr1.below hb).grownT ho2 hbs (by decide) (by decide) hg
 have hk3:RK b W w3:=(hk0.trans (RK.of_below hb (Nat.le_of_lt hr1.size))).grownT hbs ho2 hg
 have sm:∀ k,k≠b→(w3.setCell ⟨b,2,none⟩ (.slice (some ⟨gg,0,none⟩) (acc.length+1) cc)).heap[k]? = w3.heap[k]?:=fun k hk=>Below.heap_setCell w3 ⟨b,2,none⟩ _ k (by simpa using hk)
 have it:∀ {v:Value} {l:List It},ItsOwn w1 W.heap.size v l→ItsOwn (w3.setCell ⟨b,2,none⟩ (.slice (some ⟨gg,0,none⟩) (acc.length+1) cc)) W.heap.size v l:=fun h=>QGX (QNZ (QLs h hb) ho2 hg) fun k hk _=>sm k (by omega)
 have pt:∀ {v:Value} {n:Nat} {xs:List Value},w1.ownsRow W.heap.size 65 2 v n xs→(w3.setCell ⟨b,2,none⟩ (.slice (some ⟨gg,0,none⟩) (acc.length+1) cc)).ownsRow W.heap.size 65 2 v n xs:=fun h=>by
  have h2:=QDp (QCR h hb) ho2 (by decide) hg
  exact QAG h2 fun k e=>sm k (by have:=(h2.lt k e).1;omega)
 refine ⟨hr3.setDv _,hk3.trans (RK.set 2 _),q ++ [(x,pv,iv)],by simp [hq1],?_,?_⟩
 ·rw [QJp,List.length_append,List.length_singleton]
  exact QAG ho fun k e=>sm k (by have:=(ho.lt k e).1;omega)
 ·intro y hy
  rcases List.mem_append.1 hy with hy | hy
  ·exact ⟨pt (hq3 y hy).1,it (hq3 y hy).2⟩
  ·obtain rfl:=List.mem_singleton.1 hy
   exact ⟨pt hp,it hi⟩
end
section
open Go.Lib (hid)
open Go.RowKit Lx
set_option linter.unusedVariables false
def ParsedG (ds:List De) (σ:RS) (W:World) (r:Ending) (Y:World):Prop :=
 (σ.code = 0∧∃ od cd o c,r = .returned (.tuple #[.agg #[.slice od ds.length cd,.slice o σ.exprs.length c],.int .i64 0,.agg #[.int .i64 0,.int .i64 0]])∧DesOwn Y W.heap.size (.slice od ds.length cd) ds∧ExsOwn Y W.heap.size (fun _=>False) (.slice o σ.exprs.length c) σ.exprs∧Below W.heap.size W Y) ∨
 (σ.code≠0∧r = .returned (.tuple #[.agg #[.slice none 0 0,.slice none 0 0],.int .i64 0,.agg #[.int .i64 σ.code,.int .i64 σ.pos]])∧Below W.heap.size W Y)
def PgI (W:World) (b g cap:Nat) (ts:List Tok) (f N:Nat) (R:List De × RS) (n:Nat) (Y:World):Prop :=
 ∃ (acc:List De) (σ:RS) (dv:Value),n≤N∧QBZ ts f n acc σ = some R∧PaSt W Y b g cap ts σ acc dv
set_option maxHeartbeats 8000000 in
set_option maxRecDepth 100000 in
theorem QDH (l:List UInt8) (tl:List Tok) (ht:Hid (QNd l tl none)) (hl:l.length≤20000) (f N:Nat) (R:List De × RS) (hr:Hid (QBZ (tl ++ [QJr l.length]) f N [] rs0 = some R)) (W:World) :
  Calls Tryz.prog 5 #[.string (str l),.bool false] W fun r Y=>ParsedG R.1 R.2 W r Y:=by
 obtain ⟨ts,hus⟩:∃ ts,ts = tl ++ [QJr l.length]:=⟨_,rfl⟩
 have hcount:=QCX ht.out
 have g1:=QC8 false (Nat.zero_le l.length)
 have hul:ts.length = tl.length+1:=by rw [hus];simp
 have hu4:ts.length≤40000:=by omega
 have hend:EndOk ts:=by rw [hus];exact QIv ht.out _
 obtain ⟨p0,hp0⟩:∃ p0,p0 = ts.length:=⟨_,rfl⟩
 have LX:Hid (∀ W,Calls Tryz.prog 11 #[.string (str l)] W fun r Y=>QHw ts p0 W r Y):=hid fun W=>(QDU l tl none ht.out W).mono fun e w' h=>by
  have:=h.2 hl
  rw [hp0,hul,hus];exact this
 have HE:=hid hend
 have HP0:=hid hp0
 have HU4:=hid hu4
 have HRUN:Hid (QBZ ts f N [] rs0 = some R):=hid (by rw [hus];exact hr.out)
 clear hcount g1 hul hend hus hp0 hu4 hl
 obtain ⟨W2,hW2⟩:∃ W2,W2 = (W.alloc (.cells #[.slice none 0 0,.slice none 0 0] 26)).alloc (.cells #[.int .i64 0,.int .i64 0] 29):=⟨_,rfl⟩
 have hb2:Below W.heap.size W W2:=by rw [hW2];exact ((Below.refl _ _).alloc (Nat.le_refl _) _).alloc (by simp) _
 have hs2:W2.heap.size = W.heap.size+2:=by rw [hW2];simp
 have hP:W2.heap[W.heap.size]? = some (.cells #[.slice none 0 0,.slice none 0 0] 26 (0,0)):=by
  rw [hW2,heap_alloc_old _ _ (by simp)];exact heap_alloc_new W _
 have hF:W2.heap[W.heap.size+1]? = some (.cells #[.int .i64 0,.int .i64 0] 29 (0,0)):=by
  have:=heap_alloc_new (W.alloc (.cells #[.slice none 0 0,.slice none 0 0] 26)) (.cells #[.int .i64 0,.int .i64 0] 29)
  rw [World.size_alloc] at this
  rw [hW2];exact this
 have HB2:=hid hb2
 have HS2:=hid hs2
 have HPF:=hid (show _∧_ from ⟨hP,hF⟩)
 clear hb2 hs2 hP hF
 go_enter Tryz.func5,Tryz.ntmps5
 go_wp2_with (go_at_call 11;rw [← hW2];clear hW2;(with_reducible refine (LX.out W2).mono ?_);rintro e w3 ⟨g,cap,rfl,hb3,hrow⟩;have HB3:=hid hb3;have HROW:=hid hrow;clear hb3 hrow)
 have hs3:W.heap.size+2≤w3.heap.size:=by have:=HB3.out.size;have:=HS2.out;omega
 obtain ⟨b,hb⟩:∃ b,b = w3.heap.size+1:=⟨_,rfl⟩
 obtain ⟨W4,hW4⟩:∃ W4,W4 = (w3.alloc (.cells #[.int .i64 0,.int .i64 0] 29)).alloc (.cells #[.slice (some ⟨g,0,none⟩) p0 cap,.int .i64 0,.slice none 0 0,.slice none 0 0,.int .i64 0,.int .i64 0,.int .i64 0] 46):=⟨_,rfl⟩
 have HR4:Hid (Rd W4 b g cap (.slice none 0 0) ts (fun _=>False) rs0):=hid (by
  have h1:=rd_new (w:=w3.alloc (.cells #[.int .i64 0,.int .i64 0] 29)) (cap:=cap) (HROW.out.below ((Below.refl _ _).alloc (Nat.le_refl _) _)) HU4.out HE.out
  rw [World.size_alloc,← hb] at h1
  rw [hW4,HP0.out]
  exact h1)
 have HB4:Hid (Below w3.heap.size w3 W4):=hid (by rw [hW4];exact ((Below.refl _ _).alloc (Nat.le_refl _) _).alloc (by simp) _)
 rw [← hW4,← hb]
 clear hW4
 have hbw:b < W4.heap.size:=HR4.out.size
 have HP4:Hid (PaSt W4 W4 b g cap ts rs0 [] (.slice none 0 0)):=hid ⟨HR4.out,RK.refl _ _,[],rfl,World.ownsRow_nil _ _ _ _,fun x hx=>by cases hx⟩
 obtain ⟨m,hm⟩:=QD4 (PgI W4 b g cap ts f N R)
 have HM:=hid hm
 clear hm
 have HBB:=hid hb
 clear hb
 go_wp2_with fail
 go_loopw [11] (fun _ wr=>Hid (∃ n,PgI W4 b g cap ts f N R n wr)) (fun _ wr=>m wr)
 case atStart=>exact hid ⟨N,[],rs0,_,Nat.le_refl _,HRUN.out,HP4.out⟩
 case round =>
  have hI:=hrel
  clear hrel
  obtain ⟨hm1,hm2⟩:=HM.out _ hI.out
  obtain ⟨acc,σ,dv,hnf,hrun,hst⟩:=hm1
  obtain ⟨nn,hmn⟩:∃ nn,nn = m wr:=⟨_,rfl⟩
  rw [← hmn] at hnf hrun
  obtain ⟨k,rfl,hacc,hcase⟩:=QH7 hrun
  have HMN:=hid hmn
  have HKF:=hid hnf
  have HST:=hid hst
  have HRr:=hid hst.rd
  clear hrun hmn hm2 hI hst hnf
  obtain ⟨o,c,⟨c0,c1,c3,c4,c5,c6,fr⟩,hx⟩:=HRr.out.cells
  have ht:=HRr.out.tok
  have hgb:g≠b:=by have:=HRr.out.lt;omega
  have hl:=HRr.out.at_
  have hn:=HRr.out.len
  obtain ⟨t0,t1,t2,t3⟩:=ht
  obtain ⟨n,hnn⟩:∃ n,n = ts.length:=⟨_,rfl⟩
  obtain ⟨a,haa⟩:∃ a,a = σ.at_:=⟨_,rfl⟩
  obtain ⟨cd,hcd⟩:∃ cd,cd = σ.code:=⟨_,rfl⟩
  obtain ⟨ps,hps⟩:∃ ps,ps = σ.pos:=⟨_,rfl⟩
  obtain ⟨dp,hdp⟩:∃ dp,dp = σ.deep:=⟨_,rfl⟩
  obtain ⟨kd,hkd⟩:∃ kd,kd = (QA9 ts σ.at_).kind:=⟨_,rfl⟩
  obtain ⟨tx,htx⟩:∃ tx,tx = (QA9 ts σ.at_).text:=⟨_,rfl⟩
  obtain ⟨tv,htv⟩:∃ tv,tv = (QA9 ts σ.at_).v:=⟨_,rfl⟩
  obtain ⟨p,hp⟩:∃ p,p = (QA9 ts σ.at_).at_:=⟨_,rfl⟩
  rw [← hnn] at c0 hl hn
  rw [← hkd] at t0
  rw [← htx] at t1
  rw [← htv] at t2
  rw [← hp] at t3
  rw [← haa] at c1 t0 t1 t2 t3 hl
  rw [← hcd] at c5
  rw [← hdp] at c4
  rw [← hps] at c6
  have k0:((a:Nat):Int) < (n:Int):=by omega
  have f1:=fr 1
  have f4:=fr 4
  have f5:=fr 5
  have f6:=fr 6
  have HCD:=hid hcd
  have HPS:=hid hps
  have HDP:=hid hdp
  have HKD:=hid hkd
  have HTX:=hid htx
  have HTV:=hid htv
  have HP:=hid hp
  have HAA:=hid haa
  have HNN:=hid hnn
  clear fr hx hnn haa hcd hps hdp hkd htx htv hp c3
  rcases hcase with ⟨hc0,h5,hR⟩ | ⟨hc0,h5,d,τ,hg1,hg2⟩ | ⟨hc0,hR⟩
  ·have HC0:=hid hc0
   clear hc0
   have q1:(cd == 0) = true:=by rw [HCD.out,HC0.out];rfl
   have q2:((kd:Int) != 5) = false:=by rw [HKD.out,h5];rfl
   have HRE:=hid hR
   clear hR h5
   go_wp2_with fail
   go_quiet (fail)
   go_wp2_with fail
   obtain ⟨wd,hwd⟩:∃ wd,wd = wr.drewN nq:=⟨_,rfl⟩
   rw [← hwd]
   have d0:wd.cell? ⟨b,0,none⟩ = some (.slice (some ⟨g,0,none⟩) n cap):=by rw [hwd];exact c0
   have d1:wd.cell? ⟨b,1,none⟩ = some (.int .i64 (a:Int)):=by rw [hwd];exact c1
   have d5:wd.cell? ⟨b,5,none⟩ = some (.int .i64 cd):=by rw [hwd];exact c5
   have e0:wd.cell? ⟨g,a*4,none⟩ = some (.int .i64 (kd:Int)):=by rw [hwd];exact t0
   have HWD:=hid hwd
   clear hwd c0 c1 c5 t0
   obtain ⟨o5,cc5,hblk0,hex0⟩:=HRr.out.blk
   have hbd:Below wr.heap.size wr wd:=by rw [HWD.out];exact QAE (Below.refl _ _) _
   have hblk:=(hbd.block b HRr.out.size).trans hblk0
   have HEX:=hid (hex0.same (Y:=wd) fun k _ hk=>hbd.block k hk)
   have HDS:=hid (HST.out.des.keep hbw (RK.of_below hbd (Nat.le_of_lt HRr.out.size)))
   have hlow:∀ k,k < W.heap.size+2→wd.heap[k]? = W2.heap[k]?:=fun k hk=>(hbd.block k (by have:=HRr.out.size;have:=HBB.out;omega)).trans ((HST.out.rk.low k (by have:=HBB.out;omega)).trans ((HB4.out.block k (by omega)).trans (HB3.out.block k (by have:=HS2.out;omega))))
   have hP:=(hlow W.heap.size (by omega)).trans HPF.out.1
   have hF:=(hlow (W.heap.size+1) (by omega)).trans HPF.out.2
   have HKW:=hid (HST.out.rk.trans (RK.of_below hbd (Nat.le_of_lt HRr.out.size)))
   obtain ⟨dn,hdn⟩:∃ dn,dn = acc.length:=⟨_,rfl⟩
   obtain ⟨od,cdv,rfl⟩:∃ od cdv,dv = .slice od dn cdv:=by rw [hdn];obtain ⟨q,_,h2,_⟩:=HDS.out;exact QDo h2
   obtain ⟨nE,hnE⟩:∃ nE,nE = σ.exprs.length:=⟨_,rfl⟩
   have n2:wd.cell? ⟨b,2,none⟩ = some (.slice od dn cdv):=by simp [World.cell?,hblk]
   have n3:wd.cell? ⟨b,3,none⟩ = some (.slice o5 nE cc5):=by rw [hnE];simp [World.cell?,hblk]
   have p0' : wd.cell? ⟨W.heap.size,0,none⟩ = some (.slice none 0 0):=by simp [World.cell?,hP]
   have p1' : wd.cell? ⟨W.heap.size,1,none⟩ = some (.slice none 0 0):=by simp [World.cell?,hP]
   have p2' : wd.frozen? ⟨W.heap.size,0,none⟩ = false:=by simp [World.frozen?,hP]
   have p3' : wd.frozen? ⟨W.heap.size,1,none⟩ = false:=by simp [World.frozen?,hP]
   have u0' : wd.cell? ⟨W.heap.size+1,0,none⟩ = some (.int .i64 0):=by simp [World.cell?,hF]
   have u1' : wd.cell? ⟨W.heap.size+1,1,none⟩ = some (.int .i64 0):=by simp [World.cell?,hF]
   have u2' : wd.frozen? ⟨W.heap.size+1,0,none⟩ = false:=by simp [World.frozen?,hF]
   have u3' : wd.frozen? ⟨W.heap.size+1,1,none⟩ = false:=by simp [World.frozen?,hF]
   have q3:(cd != 0) = false:=by rw [HCD.out,HC0.out];rfl
   have HNE:=hid hnE
   have HDN:=hid hdn
   have HPP:=hid (show _∧_ from ⟨hP,hF⟩)
   clear hP hF hnE hdn hbd hblk0 hex0 hlow hblk
   go_quiet (fail)
   go_wp2_with fail
   obtain ⟨w6,hw6⟩:∃ w6,w6 = wd.drewN nq:=⟨_,rfl⟩
   rw [← hw6]
   have hb6:Below wd.heap.size wd w6:=by rw [hw6];exact QAE (Below.refl _ _) _
   have hP6:w6.heap[W.heap.size]? = some (.cells #[.slice none 0 0,.slice none 0 0] 26 (0,0)):=by rw [hw6];exact HPP.out.1
   have hF6:w6.heap[W.heap.size+1]? = some (.cells #[.int .i64 0,.int .i64 0] 29 (0,0)):=by rw [hw6];exact HPP.out.2
   obtain ⟨Y,hY⟩:∃ Y,Y = (((w6.setCell ⟨W.heap.size,0,none⟩ (.slice od dn cdv)).setCell ⟨W.heap.size,1,none⟩ (.slice o5 nE cc5)).setCell ⟨W.heap.size+1,0,none⟩ (.int .i64 0)).setCell ⟨W.heap.size+1,1,none⟩ (.int .i64 0):=⟨_,rfl⟩
   rw [← hY]
   have k1:Y.heap[W.heap.size]? = some (.cells #[.slice od dn cdv,.slice o5 nE cc5] 26 (0,0)):=by
    rw [hY,Below.heap_setCell _ _ _ _ (by simp),Below.heap_setCell _ _ _ _ (by simp),QAT (QAT hP6 0 _) 1 _];rfl
   have k2:Y.heap[W.heap.size+1]? = some (.cells #[.int .i64 0,.int .i64 0] 29 (0,0)):=by
    rw [hY,QAT (QAT (((Below.heap_setCell _ _ _ _ (by simp)).trans (Below.heap_setCell _ _ _ _ (by simp))).trans hF6) 0 _) 1 _];rfl
   have hYk:∀ k,W.heap.size+1 < k→Y.heap[k]? = w6.heap[k]?:=fun k hk=>by
    rw [hY,Below.heap_setCell _ _ _ _ (by simp;omega),Below.heap_setCell _ _ _ _ (by simp;omega),Below.heap_setCell _ _ _ _ (by simp;omega),Below.heap_setCell _ _ _ _ (by simp;omega)]
   have r0:Y.cell? ⟨W.heap.size,0,none⟩ = some (.slice od dn cdv):=by simp [World.cell?,k1]
   have r1:Y.cell? ⟨W.heap.size,1,none⟩ = some (.slice o5 nE cc5):=by simp [World.cell?,k1]
   have r2:Y.cell? ⟨W.heap.size+1,0,none⟩ = some (.int .i64 0):=by simp [World.cell?,k2]
   have r3:Y.cell? ⟨W.heap.size+1,1,none⟩ = some (.int .i64 0):=by simp [World.cell?,k2]
   have hb05:Below W.heap.size W wd:=(HB2.out.trans ((HB3.out.trans (HB4.out.mono HB3.out.size)).mono (by have:=HS2.out;omega))).trans (HKW.out.below (by have:=HBB.out;omega))
   have hb06:Below W.heap.size W w6:=hb05.trans (hb6.mono hb05.size)
   have hbY:Below W.heap.size W Y:=by
    rw [hY]
    exact (((hb06.setCell (p:=⟨W.heap.size,0,none⟩) (Nat.le_refl _) _).setCell (p:=⟨W.heap.size,1,none⟩) (Nat.le_refl _) _).setCell (p:=⟨W.heap.size+1,0,none⟩) (Nat.le_succ _) _).setCell (p:=⟨W.heap.size+1,1,none⟩) (Nat.le_succ _) _
   have hsame:∀ k,W.heap.size+1 < k→k < wd.heap.size→Y.heap[k]? = wd.heap[k]?:=fun k hk hk2=>(hYk k hk).trans (hb6.block k hk2)
   refine bodyPost_ret (v:=.tuple #[.agg #[.slice od dn cdv,.slice o5 nE cc5],.int .i64 0,.agg #[.int .i64 0,.int .i64 0]]) (by simp [results,Tryz.results5,go_sem,r0,r1,r2,r3]) rfl ?_
   rw [HRE.out]
   have hw4:W.heap.size+1 < W4.heap.size:=by have:=HBB.out;omega
   refine .inl ⟨HC0.out,od,cdv,o5,cc5,by rw [HNE.out,HDN.out],?_,ExsOwn.base (b:=b) (HEX.out.same (Y:=Y) fun k (hk:b < k) hk2=>hsame k (by have:=HBB.out;omega) hk2) (by have:=HBB.out;omega),hbY⟩
   have hds:=(HDS.out.same (Y:=Y) fun k hk hk2=>hsame k (by omega) hk2).base (B':=W.heap.size) (by omega)
   rw [← HDN.out]
   exact hds
  ·have HC0:=hid hc0
   clear hc0
   have q1:(cd == 0) = true:=by rw [HCD.out,HC0.out];rfl
   have q2:((kd:Int) != 5) = true:=by rw [HKD.out];exact bne_iff_ne.2 (by omega)
   have HG2:=hid hg2
   have DC:=hid (fun W h=>QNB b g cap dv ts (fun _=>False) σ f d τ hg1 W h)
   clear hg1 hg2 h5
   go_wp2_with fail
   go_quiet (fail)
   go_wp2_with fail
   obtain ⟨wd,hwd⟩:∃ wd,wd = wr.drewN nq:=⟨_,rfl⟩
   rw [← hwd]
   have hbd:Below wr.heap.size wr wd:=by rw [hwd];exact QAE (Below.refl _ _) _
   have HRd:Hid (Rd wd b g cap dv ts (fun _=>False) σ):=hid (HRr.out.below hbd)
   have HKd:Hid (RK b W4 wd):=hid (HST.out.rk.trans (RK.of_below hbd (Nat.le_of_lt HRr.out.size)))
   have HDd:Hid (DesOwn wd W4.heap.size dv acc):=hid (HST.out.des.keep hbw (RK.of_below hbd (Nat.le_of_lt HRr.out.size)))
   clear hwd hbd t0 t1 t2 t3 c0 c1 c4 c5 c6 f1 f4 f5 f6 k0 hl hn hgb HCD HPS HDP HKD HTX HTV HP HAA HNN
   refine (DC.out wd HRd).mono ?_
   rintro e w1 ⟨po,pc,io,ic,rfl,hrd1,hrk1,hpa1,hit1⟩
   dsimp only
   have hk1:=HKd.out.trans hrk1
   have HK1:=hid hk1
   have HR1:=hid hrd1
   have HI1:=hid (hit1.base HKd.out.size)
   have HA1:=hid (QBf hpa1 HKd.out.size)
   obtain ⟨q,hq1,hq2,hq3⟩:=HDd.out.keep hbw hrk1
   obtain ⟨dn,hdn⟩:∃ dn,dn = acc.length:=⟨_,rfl⟩
   rw [← hdn] at hq2 hacc
   obtain ⟨oe,ce,rfl⟩:=QDo hq2
   have HQ1:=hid hq1
   have HQ2:=hid hq2
   have HQ3:=hid hq3
   have HDN:=hid hdn
   obtain ⟨o1,cc1,hblk1,_⟩:=hrd1.blk
   have hb1:b < w1.heap.size:=hrd1.size
   clear hdn hrd1 hrk1 hpa1 hit1 hk1 hq1 hq2 hq3
   obtain ⟨w2,hw2⟩:∃ w2,w2 = w1.alloc (.cells #[.int .i64 d.kind,.string d.name,.slice po d.params.length pc,.slice io d.items.length ic,.int .i64 d.type,.int .i64 d.e,.int .i64 d.pos] 36):=⟨_,rfl⟩
   have hb2:Below w1.heap.size w1 w2:=by rw [hw2];exact (Below.refl _ _).alloc (Nat.le_refl _) _
   have s2:w2.heap.size = w1.heap.size+1:=by rw [hw2];simp
   have hb2s:b < w2.heap.size:=by omega
   have e2:w2.cell? ⟨b,2,none⟩ = some (.slice oe dn ce):=(hb2.cell (p:=⟨b,2,none⟩) hb1).trans (by simp [World.cell?,hblk1])
   have g2:w2.frozen? ⟨b,2,none⟩ = false:=(hb2.frozen (p:=⟨b,2,none⟩) hb1).trans (by simp [World.frozen?,hblk1])
   have x9:∀ j u,[Value.int .i64 d.kind,.string d.name,.slice po d.params.length pc,.slice io d.items.length ic,.int .i64 d.type,.int .i64 d.e,.int .i64 d.pos][j]? = some u→w2.cell? ⟨w1.heap.size,j,none⟩ = some u:=fun j u hu=>by
    rw [hw2,World.cell?_alloc_new];simpa using hu
   have x0:=x9 0 _ rfl
   have x1:=x9 1 _ rfl
   have x2:=x9 2 _ rfl
   have x3:=x9 3 _ rfl
   have x4:=x9 4 _ rfl
   have x5:=x9 5 _ rfl
   have x6:=x9 6 _ rfl
   have OW:=hid (show w2.ownsRow W4.heap.size 36 7 (.slice oe dn ce) dn (QH8 q) from QAG HQ2.out fun k hk=>hb2.block k (HQ2.out.lt k hk).2)
   have HB2:=hid ((hb2.alloc hb2.size (.cells #[.int .i64 d.kind,.string d.name,.slice po d.params.length pc,.slice io d.items.length ic,.int .i64 d.type,.int .i64 d.e,.int .i64 d.pos] 36)).drew)
   have w4s:W4.heap.size≤w2.heap.size:=by have:=HK1.out.size;omega
   have HS2':=hid s2
   go_wp2_with fail
   rw [← hw2]
   clear hw2 hb2 x9 hblk1 s2
   go_region_law (refine step_de _ (by rfl) (.tmp 55) (.tmp 57) (by rfl) W4.heap.size (.slice oe dn ce) dn (QH8 q) (by rfl) (by exact OW.out.alloc _) ⟨w2.heap.size,0,none⟩ [.int .i64 d.kind,.string d.name,.slice po d.params.length pc,.slice io d.items.length ic,.int .i64 d.type,.int .i64 d.e,.int .i64 d.pos] (by rfl) (by rfl) (by exact QOD w2 _ rfl _ _ _ _ _ _ _ _) (by simp [Value.oneCell']) (by omega) (by simp;omega) ?_;intro gg cg w3' ho1 hg1;have z3:w3'.cell? ⟨b,2,none⟩ = some (.slice oe dn ce):=hg1.cell (by exact (World.cell?_alloc_old _ _ _ (Nat.ne_of_lt hb2s)).trans e2) (fun e=>by have:=(OW.out.lt b e.symm).1;omega);have fb:=hg1.block b (by simp;omega) (fun e=>by have:=(OW.out.lt b e.symm).1;omega);have z4:w3'.frozen? ⟨b,2,none⟩ = false:=(World.frozen?_of_block (a:=⟨b,2,none⟩) fb).trans (by exact (World.frozen?_alloc_old _ _ _ (Nat.ne_of_lt hb2s)).trans g2))
   all_goals (
    go_wp2_with fail
    have HI:PgI W4 b g cap ts f N R k (w3'.setCell ⟨b,2,none⟩ (.slice (some ⟨gg,0,none⟩) (dn+1) cg)):=⟨acc ++ [d],τ,.slice (some ⟨gg,0,none⟩) (dn+1) cg,by have:=HKF.out;omega,HG2.out,by
     have h7:=HDN.out
     subst h7
     exact PaSt.push (x:=d) hbw HK1.out HR1.out HB2.out HQ1.out HQ3.out HA1.out HI1.out (OW.out.alloc _) hg1 ho1⟩
    exact ⟨hid ⟨k,HI⟩,by have h5:=(HM.out _ ⟨k,HI⟩).2 k HI;have h6:=HMN.out;omega⟩)
  ·have HC0:=hid hc0
   have q1:(cd == 0) = false:=by rw [HCD.out];exact beq_false_of_ne hc0
   have q3:(cd != 0) = true:=by rw [HCD.out];exact bne_iff_ne.2 hc0
   have HRE:=hid hR
   clear hR hc0
   go_wp2_with fail
   go_quiet (fail)
   go_wp2_with fail
   obtain ⟨wd,hwd⟩:∃ wd,wd = wr.drewN nq:=⟨_,rfl⟩
   rw [← hwd]
   have d5:wd.cell? ⟨b,5,none⟩ = some (.int .i64 cd):=by rw [hwd];exact c5
   have d6:wd.cell? ⟨b,6,none⟩ = some (.int .i64 ps):=by rw [hwd];exact c6
   have hbd:Below wr.heap.size wr wd:=by rw [hwd];exact QAE (Below.refl _ _) _
   have hlow:∀ k,k < W.heap.size+2→wd.heap[k]? = W2.heap[k]?:=fun k hk=>(hbd.block k (by have:=HRr.out.size;have:=HBB.out;omega)).trans ((HST.out.rk.low k (by have:=HBB.out;omega)).trans ((HB4.out.block k (by omega)).trans (HB3.out.block k (by have:=HS2.out;omega))))
   have hP:=(hlow W.heap.size (by omega)).trans HPF.out.1
   have hF:=(hlow (W.heap.size+1) (by omega)).trans HPF.out.2
   have HKW:=hid (HST.out.rk.trans (RK.of_below hbd (Nat.le_of_lt HRr.out.size)))
   have p0' : wd.cell? ⟨W.heap.size,0,none⟩ = some (.slice none 0 0):=by simp [World.cell?,hP]
   have p1' : wd.cell? ⟨W.heap.size,1,none⟩ = some (.slice none 0 0):=by simp [World.cell?,hP]
   have p2' : wd.frozen? ⟨W.heap.size,0,none⟩ = false:=by simp [World.frozen?,hP]
   have p3' : wd.frozen? ⟨W.heap.size,1,none⟩ = false:=by simp [World.frozen?,hP]
   have u0' : wd.cell? ⟨W.heap.size+1,0,none⟩ = some (.int .i64 0):=by simp [World.cell?,hF]
   have u1' : wd.cell? ⟨W.heap.size+1,1,none⟩ = some (.int .i64 0):=by simp [World.cell?,hF]
   have u2' : wd.frozen? ⟨W.heap.size+1,0,none⟩ = false:=by simp [World.frozen?,hF]
   have u3' : wd.frozen? ⟨W.heap.size+1,1,none⟩ = false:=by simp [World.frozen?,hF]
   have HPP:=hid (show _∧_ from ⟨hP,hF⟩)
   have hbw2:W.heap.size+1 < b:=by have:=HBB.out;omega
   clear hwd c0 c1 c4 c5 c6 t0 t1 t2 t3 hP hF
   go_quiet (fail)
   go_wp2_with fail
   have mixed : Tryz.prog.follows .mixedOrders = true:=by kernel_rfl
   have late : Tryz.prog.follows .lateStores = true:=by kernel_rfl
   go_region_o
   go_wp2_with fail
   obtain ⟨w6,hw6⟩:∃ w6,w6 = wd.drewN (nq+1):=⟨_,rfl⟩
   rw [← hw6]
   have hb6:Below wd.heap.size wd w6:=by rw [hw6];exact QAE (Below.refl _ _) _
   have hP6:w6.heap[W.heap.size]? = some (.cells #[.slice none 0 0,.slice none 0 0] 26 (0,0)):=by rw [hw6];exact HPP.out.1
   have hF6:w6.heap[W.heap.size+1]? = some (.cells #[.int .i64 0,.int .i64 0] 29 (0,0)):=by rw [hw6];exact HPP.out.2
   obtain ⟨Y,hY⟩:∃ Y,Y = (((w6.setCell ⟨W.heap.size,0,none⟩ (.slice none 0 0)).setCell ⟨W.heap.size,1,none⟩ (.slice none 0 0)).setCell ⟨W.heap.size+1,0,none⟩ (.int .i64 cd)).setCell ⟨W.heap.size+1,1,none⟩ (.int .i64 ps):=⟨_,rfl⟩
   rw [← hY]
   have k1:Y.heap[W.heap.size]? = some (.cells #[.slice none 0 0,.slice none 0 0] 26 (0,0)):=by
    rw [hY,Below.heap_setCell _ _ _ _ (by simp),Below.heap_setCell _ _ _ _ (by simp),QAT (QAT hP6 0 _) 1 _];rfl
   have k2:Y.heap[W.heap.size+1]? = some (.cells #[.int .i64 cd,.int .i64 ps] 29 (0,0)):=by
    rw [hY,QAT (QAT (((Below.heap_setCell _ _ _ _ (by simp)).trans (Below.heap_setCell _ _ _ _ (by simp))).trans hF6) 0 _) 1 _];rfl
   have r0:Y.cell? ⟨W.heap.size,0,none⟩ = some (.slice none 0 0):=by simp [World.cell?,k1]
   have r1:Y.cell? ⟨W.heap.size,1,none⟩ = some (.slice none 0 0):=by simp [World.cell?,k1]
   have r2:Y.cell? ⟨W.heap.size+1,0,none⟩ = some (.int .i64 cd):=by simp [World.cell?,k2]
   have r3:Y.cell? ⟨W.heap.size+1,1,none⟩ = some (.int .i64 ps):=by simp [World.cell?,k2]
   have hb05:Below W.heap.size W wd:=(HB2.out.trans ((HB3.out.trans (HB4.out.mono HB3.out.size)).mono (by have:=HS2.out;omega))).trans (HKW.out.below (by have:=HBB.out;omega))
   have hb06:Below W.heap.size W w6:=hb05.trans (hb6.mono hb05.size)
   have hbY:Below W.heap.size W Y:=by
    rw [hY]
    exact (((hb06.setCell (p:=⟨W.heap.size,0,none⟩) (Nat.le_refl _) _).setCell (p:=⟨W.heap.size,1,none⟩) (Nat.le_refl _) _).setCell (p:=⟨W.heap.size+1,0,none⟩) (Nat.le_succ _) _).setCell (p:=⟨W.heap.size+1,1,none⟩) (Nat.le_succ _) _
   refine bodyPost_ret (v:=.tuple #[.agg #[.slice none 0 0,.slice none 0 0],.int .i64 0,.agg #[.int .i64 cd,.int .i64 ps]]) (by simp [results,Tryz.results5,go_sem,r0,r1,r2,r3]) rfl ?_
   rw [HRE.out]
   exact .inr ⟨HC0.out,by rw [HCD.out,HPS.out],hbY⟩
end
section
open Lx
set_option linter.unusedVariables false
def FLe (F F' : Job→RS→Ans):Prop:=∀ j σ r,F j σ = some r→F' j σ = some r
theorem QAj {α β:Type} {o o' : Option α} {k k' : α→Option β} {R:β} (h:o.bind k = some R) (ho:∀ x,o = some x→o' = some x) (hk:∀ x r,k x = some r→k' x = some r):o'.bind k' = some R:=by
 obtain ⟨x,h1,h2⟩:=Option.bind_eq_some_iff.1 h
 rw [ho x h1]
 exact hk x R h2
theorem putA_le {x:Ex} {σ:RS} {K K' : Int→RS→Ans} {r:Int × List Int × RS} (h:QEl x σ K = some r) (hk:∀ n y r,K n y = some r→K' n y = some r):QEl x σ K' = some r:=by
 unfold QEl at h ⊢
 split at h
 ·rename_i ho;rw [if_pos ho];exact hk _ _ _ h
 ·cases h
theorem QN3 {ts:List Tok} {F F' : Job→RS→Ans} (hF:FLe F F') {σ:RS} {r:Int × List Int × RS} (h:QDa ts F σ = some r):QDa ts F' σ = some r:=by
 unfold QDa at h ⊢
 dsimp only at h ⊢
 split at h
 ·rename_i h1;rw [if_pos h1];exact h
 rename_i h1;rw [if_neg h1]
 split at h
 ·rename_i h2;rw [if_pos h2];exact h
 rename_i h2;rw [if_neg h2]
 split at h
 ·rename_i h3;rw [if_pos h3];exact h
 rename_i h3;rw [if_neg h3]
 split at h
 ·rename_i h4;rw [if_pos h4]
  split at h
  ·rename_i h5;rw [if_pos h5];exact h
  rename_i h5;rw [if_neg h5]
  split at h
  ·rename_i h6;rw [if_pos h6]
   split at h
   ·rename_i h7;rw [if_pos h7];exact h
   rename_i h7;rw [if_neg h7]
   exact QAj h (fun x hx=>hF _ _ _ hx) fun x r h=>QAj h (fun x hx=>hF _ _ _ hx) fun _ _ h=>h
  ·rename_i h6;rw [if_neg h6];exact h
 ·rename_i h4;rw [if_neg h4]
  exact QAj h (fun x hx=>hF _ _ _ hx) fun _ _ h=>h
theorem preG_le {ts:List Tok} {F F' : Job→RS→Ans} (hF:FLe F F') {σ:RS} {r:Int × List Int × RS} (h:QO1 ts F σ = some r):QO1 ts F' σ = some r:=by
 unfold QO1 at h ⊢
 dsimp only at h ⊢
 split at h
 ·rename_i h1;rw [if_pos h1]
  split at h
  ·rename_i h2;rw [if_pos h2];exact QAj h (fun x hx=>hF _ _ _ hx) fun _ _ h=>h
  ·rename_i h2;rw [if_neg h2];exact QAj h (fun x hx=>hF _ _ _ hx) fun _ _ h=>h
 ·rename_i h1;rw [if_neg h1];exact h
theorem QNG {ts:List Tok} {F F' : Job→RS→Ans} (hF:FLe F F') {σ:RS} {r:Int × List Int × RS} (h:QEz ts F σ = some r):QEz ts F' σ = some r:=by
 unfold QEz at h ⊢
 dsimp only at h ⊢
 split at h
 ·rename_i h1;rw [if_pos h1]
  split at h
  ·rename_i h2;rw [if_pos h2]
   exact QAj h (fun x hx=>hF _ _ _ hx) fun _ _ h=>QAj h (fun x hx=>hF _ _ _ hx) fun _ _ h=>QAj h (fun x hx=>hF _ _ _ hx) fun _ _ h=>h
  ·rename_i h2;rw [if_neg h2]
   refine QAj h (fun x hx=>hF _ _ _ hx) fun o r h=>?_
   split at h
   ·rename_i h3;rw [if_pos h3];exact QAj h (fun x hx=>hF _ _ _ hx) fun _ _ h=>h
   ·rename_i h3;rw [if_neg h3]
    split at h
    ·rename_i h4;rw [if_pos h4];exact QAj h (fun x hx=>hF _ _ _ hx) fun _ _ h=>h
    ·rename_i h4;rw [if_neg h4];exact h
 ·rename_i h1;rw [if_neg h1];exact h
theorem binG_le {F F' : Job→RS→Ans} (hF:FLe F F') {least:Nat} {σ:RS} {r:Int × List Int × RS} (h:QOi F least σ = some r):QOi F' least σ = some r:=by
 unfold QOi at h ⊢
 split at h
 ·rename_i h1;rw [if_pos h1];exact hF _ _ _ h
 ·rename_i h1;rw [if_neg h1];exact QAj h (fun x hx=>hF _ _ _ hx) fun _ _ h=>hF _ _ _ h
theorem QNi {ts:List Tok} {F F' : Job→RS→Ans} (hF:FLe F F') {least:Nat} {a:Int} {σ:RS} {r:Int × List Int × RS} (h:QFd ts F least a σ = some r):QFd ts F' least a σ = some r:=by
 unfold QFd at h ⊢
 split at h
 ·rename_i h1;rw [if_pos h1]
  split at h
  ·rename_i h2;rw [if_pos h2]
   refine QAj h (fun x hx=>hF _ _ _ hx) fun b r h=>putA_le h fun n y r h=>?_
   split at h
   ·rename_i h3;rw [if_pos h3];exact h
   ·rename_i h3;rw [if_neg h3];exact hF _ _ _ h
  ·rename_i h2;rw [if_neg h2];exact h
 ·rename_i h1;rw [if_neg h1];exact h
theorem QN2 {ts:List Tok} {F F' : Job→RS→Ans} (hF:FLe F F') {acc:List Int} {σ:RS} {r:Int × List Int × RS} (h:QH4 ts F acc σ = some r):QH4 ts F' acc σ = some r:=by
 unfold QH4 at h ⊢
 split at h
 ·rename_i h1;rw [if_pos h1]
  split at h
  ·rename_i h2;rw [if_pos h2];exact QAj h (fun x hx=>hF _ _ _ hx) fun _ _ h=>hF _ _ _ h
  ·rename_i h2;rw [if_neg h2];exact h
 ·cases h
theorem QMb (ts:List Tok):∀ f,FLe (QAh ts f) (QAh ts (f+1)):=by
 intro f
 induction f with
 | zero=>intro j σ r h;cases h
 | succ f ih =>
  intro j σ r h
  unfold QAh at h ⊢
  split at h
  ·rename_i ho
   rw [if_pos ho]
   cases j with
   | expr=>exact QNG ih h
   | pre=>exact preG_le ih h
   | atom=>exact QN3 ih h
   | bin least=>exact binG_le ih h
   | loop least a=>exact QNi ih h
   | args acc=>exact QN2 ih h
  ·cases h
theorem QAs {ts:List Tok} {f f' : Nat} (h:f≤f'):FLe (QAh ts f) (QAh ts f'):=by
 induction h with
 | refl=>exact fun _ _ _ h=>h
 | step _ ih=>exact fun j σ r h=>QMb ts _ j σ r (ih j σ r h)
def QHx (ts:List Tok):Prop:=∀ (i:Nat) (t:Tok),ts[i]? = some t→(t.kind = 1→t.text≠[])∧(t.kind = 2→0≤t.v∧t.v≤9223372036854775807)∧t.text.length≤20000
def QER (x:Ex) (i:Nat):Prop:=QCJ x i = true∧ExOk x
def QDJ (l:List Ex):Prop:=∀ i x,l[i]? = some x→QER x i
structure Go (ts:List Tok) (k:Nat) (σ τ:RS):Prop where
 at_:σ.at_≤τ.at_
 lt:τ.at_ < ts.length
 room:τ.exprs.length+σ.at_+k≤σ.exprs.length+τ.at_
 bad:σ.code≠0→τ.code≠0
 more:σ.exprs.length≤τ.exprs.length
 good:τ.code = 0→QDJ σ.exprs→QDJ τ.exprs
theorem Go.refl {ts:List Tok} {σ:RS} (h:σ.at_ < ts.length):Go ts 0 σ σ:=⟨Nat.le_refl _,h,by omega,id,Nat.le_refl _,fun _ h=>h⟩
theorem Go.trans {ts:List Tok} {k m:Nat} {σ τ υ:RS} (h:Go ts k σ τ) (g:Go ts m τ υ):Go ts (k+m) σ υ :=
 ⟨Nat.le_trans h.at_ g.at_,g.lt,by have:=h.room;have:=g.room;omega,fun h0=>g.bad (h.bad h0),Nat.le_trans h.more g.more,fun h0 ha=>g.good h0 (h.good (by
  by_cases hc:τ.code = 0
  ·exact hc
  ·exact absurd h0 (g.bad hc)) ha)⟩
theorem Go.code {ts:List Tok} {k:Nat} {σ τ:RS} (h:Go ts k σ τ) (h0:τ.code = 0):σ.code = 0:=by
 by_cases hc:σ.code = 0
 ·exact hc
 ·exact absurd h0 (h.bad hc)
theorem Go.less {ts:List Tok} {k m:Nat} {σ τ:RS} (h:Go ts k σ τ) (hm:m≤k):Go ts m σ τ:=⟨h.at_,h.lt,by have:=h.room;omega,h.bad,h.more,h.good⟩
theorem go_step' {ts:List Tok} (he:EndOk ts) {σ:RS} (h:σ.at_ < ts.length) (hk:(QA9 ts σ.at_).kind≠5):Go ts 1 σ (QA0 σ):=⟨by unfold QA0;simp,he.next h hk,by unfold QA0;simp;omega,id,Nat.le_refl _,fun _ h=>h⟩
theorem QLZ {ts:List Tok} {σ:RS} (h:σ.at_ < ts.length) (e:Int) (h0:e≠0):Go ts 0 σ (QBN ts e σ):=by
 unfold QBN
 split
 ·exact ⟨Nat.le_refl _,h,by simp,fun _=>h0,Nat.le_refl _,fun h1=>absurd h1 h0⟩
 ·exact Go.refl h
theorem QAQ {ts:List Tok} (he:EndOk ts) {σ:RS} (h:σ.at_ < ts.length) (s:List UInt8):Go ts 0 σ (QA3 ts s σ):=by
 unfold QA3
 split
 ·rename_i hi;exact (go_step' he h (QAU hi).1).less (Nat.zero_le _)
 ·exact QLZ h 2 (by decide)
theorem QBG {ts:List Tok} (he:EndOk ts) {σ:RS} (h:σ.at_ < ts.length):Go ts 0 σ (QA7 ts σ):=by
 unfold QA7
 split
 ·rename_i hi
  unfold QEW at hi
  simp only [Bool.and_eq_true,decide_eq_true_eq] at hi
  exact (go_step' he h (by omega)).less (Nat.zero_le _)
 ·exact QLZ h 2 (by decide)
theorem go_enter' {ts:List Tok} {σ:RS} (h:σ.at_ < ts.length):Go ts 0 σ (QAJ ts σ)∧(QAJ ts σ).deep = σ.deep+1∧(QAJ ts σ).at_ = σ.at_∧(QAJ ts σ).exprs = σ.exprs∧((QAJ ts σ).code = 0→σ.deep≠30):=by
 unfold QAJ
 by_cases ht:QCM σ = true
 ·rw [if_pos ht]
  unfold QCM at ht
  simp only [Bool.and_eq_true,decide_eq_true_eq] at ht
  unfold QBN
  rw [if_pos ht.1]
  exact ⟨⟨Nat.le_refl _,h,by simp,fun _=>(by decide:(3:Int)≠0),Nat.le_refl _,fun h1=>by cases h1⟩,rfl,rfl,rfl,fun h1=>by cases h1⟩
 ·rw [if_neg ht]
  refine ⟨⟨Nat.le_refl _,h,by simp,id,Nat.le_refl _,fun _ h=>h⟩,rfl,rfl,rfl,fun h1 h2=>ht ?_⟩
  unfold QCM
  simp only [Bool.and_eq_true,decide_eq_true_eq]
  exact ⟨h1,h2⟩
theorem QA6 (ts:List Tok) (s:List UInt8) (σ:RS):(QA3 ts s σ).deep = σ.deep:=by unfold QA3 QBN QA0;(repeat' split) <;> rfl
theorem QAK (ts:List Tok) (σ:RS):(QA7 ts σ).deep = σ.deep:=by unfold QA7 QBN QA0;(repeat' split) <;> rfl
theorem QAt (ts:List Tok) (s:List UInt8) (σ:RS):(QA3 ts s σ).exprs = σ.exprs:=by unfold QA3 QBN QA0;(repeat' split) <;> rfl
theorem QC9 {ts:List Tok} {σ:RS} (h:σ.at_ < ts.length):Go ts 0 σ (QAf σ):=⟨Nat.le_refl _,h,by unfold QAf;simp,id,Nat.le_refl _,fun _ h=>h⟩
theorem Go.put {ts:List Tok} {k:Nat} {σ τ:RS} (h:Go ts (k+1) σ τ) {x:Ex} (hx:τ.code = 0→QDJ σ.exprs→QER x τ.exprs.length):Go ts k σ (QBQ x τ):=by
 refine ⟨h.at_,h.lt,by have:=h.room;unfold QBQ;simp;omega,h.bad,by unfold QBQ;have:=h.more;simp;omega,fun h0 ha i y hy=>?_⟩
 unfold QBQ at hy
 dsimp only at hy
 rcases Nat.lt_or_ge i τ.exprs.length with hi | hi
 ·rw [List.getElem?_append_left hi] at hy
  exact h.good h0 ha i y hy
 ·rw [List.getElem?_append_right hi] at hy
  have:i = τ.exprs.length:=by
   by_cases he:i - τ.exprs.length = 0
   ·omega
   ·rw [List.getElem?_eq_none (by simp;omega)] at hy;cases hy
  subst this
  simp at hy
  subst hy
  exact hx h0 ha
structure St (ts:List Tok) (σ:RS):Prop where
 lt:σ.at_ < ts.length
 room:σ.exprs.length≤σ.at_
 d0:0≤σ.deep
 d30:σ.deep≤30
 len:ts.length≤30000
theorem St.ok {ts:List Tok} {σ:RS} (h:St ts σ):okS σ = true:=by
 unfold okS
 have:=h.room;have:=h.lt;have:=h.len;have:=h.d0;have:=h.d30
 simp only [Bool.and_eq_true,decide_eq_true_eq]
 omega
theorem St.go {ts:List Tok} {k:Nat} {σ τ:RS} (h:St ts σ) (g:Go ts k σ τ) (hd0:0≤τ.deep) (hd:τ.deep≤30):St ts τ:=⟨g.lt,by have:=g.room;have:=h.room;omega,hd0,hd,h.len⟩
def IxOk (τ:RS) (v:Int):Prop:=τ.code = 0→0≤v∧v < (τ.exprs.length:Int)
theorem IxOk.go {ts:List Tok} {k:Nat} {σ τ:RS} {v:Int} (h:IxOk σ v) (g:Go ts k σ τ):IxOk τ v:=fun h0=>by
 have:=h (g.code h0)
 have:=g.more
 omega
theorem QBc {x:Ex} {σ:RS} {K:Int→RS→Ans} (h:okS σ = true):QEl x σ K = K (σ.exprs.length:Int) (QBQ x σ):=by unfold QEl;rw [if_pos h]
end
end Go.Proofs.YtknbghjoncomiaaGreat
