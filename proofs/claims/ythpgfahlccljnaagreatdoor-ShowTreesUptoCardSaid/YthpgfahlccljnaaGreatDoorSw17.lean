import Derived.Test.YthpgfahlccljnaaGreatDoorSw16
import Derived.Deep.RegionHeld3
import Derived.Deep.CutRange
import Derived.Outline
import Derived.Shelf.RegionOpen
set_option maxHeartbeats 16000000
set_option maxRecDepth 100000
open Go.Proofs.Tryz(prog)
namespace Go.Proofs.YthpgfahlccljnaaGreatDoor
open Go.RowKit Go.Shelf
attribute [local go_sem] Oper.semAt_some
theorem ix_il {o:Option Addr} {n cap g:Nat} (h:0<n→o=some ⟨g,0,none⟩) {j:Nat} (hj:j<n) (hn:n≤9223372036854775807):Ix 44 1 (.slice o n cap) g 0 j:=by
 intro W
 rw[h (by omega)]
 have h1:(j:Int)<(n:Int):=by omega
 have h2:(j:Int)≤9223372036854775807:=by omega
 go_simp
theorem own_sl {w:World} {base:Nat} {v:Value} {l:List Int} (h:w.ownsRow base 3 1 v l.length (l.map intV)) :
  ∃o cap g,v=.slice o l.length cap∧(0<l.length→o=some ⟨g,0,none⟩)∧∀j,j<l.length→w.cell? ⟨g,j,none⟩=some (.int .i64 (l.getD j 0)):=by
 rcases Nat.eq_zero_or_pos l.length with h0 | h0
 ·have hl:l=[]:=List.length_eq_zero_iff.1 h0
  subst hl
  rcases h.2 with ⟨rfl,_⟩ | ⟨g,cap,cur,rfl,_⟩
  ·exact⟨none,0,0,rfl,by simp,by simp⟩
  ·exact⟨some ⟨g,0,none⟩,cap,g,rfl,fun _=>rfl,by simp⟩
 ·obtain⟨m,hm⟩:∃m,l.length=m+1:=⟨l.length-1,by omega⟩
  rw[hm] at h
  obtain⟨g,cap,rfl⟩:=ownsRow_succ h
  refine⟨some ⟨g,0,none⟩,cap,g,by rw[hm],fun _=>rfl,fun j hj=>?_⟩
  have h2:=h.cells (g:=g) rfl j (intV (l.getD j 0)) (by rw[List.getElem?_map,List.getElem?_eq_getElem hj,List.getD_eq_getElem?_getD,List.getElem?_eq_getElem hj];rfl)
  have e:(⟨g,0,none⟩:Addr).add j=⟨g,j,none⟩:=by unfold Addr.add;split <;> simp_all
  rw[e] at h2
  exact h2
end Go.Proofs.YthpgfahlccljnaaGreatDoor
namespace Go.Proofs.YthpgfahlccljnaaGreatDoor
def partsN (p:Pr) (e:Nat):List Nat:=match p.exprs[e]? with
 | some x=>(partsE x).map Int.toNat
 | none=>[]
def treeN (p:Pr):Nat→Nat→List Nat
 | 0,_=>[]
 | f+1,e=>e :: (partsN p e).flatMap (treeN p f)
def tree (p:Pr) (e:Nat):List Nat:=treeN p (e+1) e
def Ahead (p:Pr):Prop:=∀e,∀z ∈ partsN p e,z<e
theorem treeN_enough {p:Pr} (h:Ahead p):∀(f e:Nat),e<f→treeN p f e=tree p e
 | 0,e,he=>by omega
 | f+1,e,he=>by
  show e :: _=e :: _
  congr 1
  rw[List.flatMap_def,List.flatMap_def]
  congr 1
  apply List.map_congr_left
  intro z hz
  have hz':=h e z hz
  rw[treeN_enough h f z (by omega)]
  by_cases hf:e=f
  ·subst hf;exact(treeN_enough h e z hz').symm
  ·exact(treeN_enough h e z hz').symm
termination_by f=>f
theorem tree_eq {p:Pr} (h:Ahead p) (e:Nat):tree p e=e :: (partsN p e).flatMap (tree p):=by
 show e :: _=e :: _
 congr 1
 rw[List.flatMap_def,List.flatMap_def]
 congr 1
 apply List.map_congr_left
 intro z hz
 exact treeN_enough h e z (h e z hz)
def fresh:List Nat→List Nat→List Nat
 | _,[]=>[]
 | s,a :: l=>if a ∈ s then fresh s l else a :: fresh (a :: s) l
def natV (z:Nat):Value:=.int .i64 (z:Int)
theorem own_lt {X:World} {base sz k:Nat} {T:TypeId} {v:Value} {xs:List Value} (h:X.ownsRow base T sz v k xs) {g:Nat} (hg:v.ownBlock=some g):base≤g∧∃cur:Array Value,X.heap[g]?=some (.cells cur T (0,0)):=by
 rcases h.2 with ⟨rfl,_⟩ | ⟨g',cap,cur,rfl,hb,hgb,_⟩
 ·simp[Value.ownBlock] at hg
 ·have:g'=g:=by simpa [Value.ownBlock] using hg
  subst this;exact⟨hb,cur,hgb⟩
theorem own_same {X Y:World} {base sz k:Nat} {T:TypeId} {v:Value} {xs:List Value} (h:X.ownsRow base T sz v k xs) (hs:∀g,v.ownBlock=some g→Y.heap[g]?=X.heap[g]?):Y.ownsRow base T sz v k xs:=by
 refine⟨h.1,?_⟩
 rcases h.2 with h1 | ⟨g,cap,cur,rfl,hb,hgb,hr⟩
 ·exact .inl h1
 ·exact .inr ⟨g,cap,cur,rfl,hb,(hs g rfl).trans hgb,hr⟩
theorem may_part {p:Pr} (h:mayP p=true) {k:Nat} {x:Ex} (hx:p.exprs[k]?=some x):∀z ∈ partsE x,0≤z∧z<(k:Int):=by
 unfold mayP at h
 rw[Bool.and_eq_true,List.all_eq_true] at h
 have h1:=h.1 k (List.mem_range.2 (List.getElem?_eq_some_iff.1 hx).1)
 unfold mayX at h1
 rw[hx] at h1
 replace h1:mayE x k=true:=h1
 intro z hz
 by_cases hc:0≤z∧z<(k:Int)
 ·exact hc
 ·have:=mayE_parts (i:=k) hz (by
   unfold partOk
   by_cases h0:0≤z
   ·rw[qF (show ¬z<(k:Int) from fun h=>hc ⟨h0,h⟩)];simp
   ·rw[qF h0];rfl)
  rw[this] at h1;cases h1
theorem ahead_of {p:Pr} (h:mayP p=true):Ahead p:=by
 intro e z hz
 unfold partsN at hz
 cases hx:p.exprs[e]? with
 | none=>rw[hx] at hz;cases hz
 | some x =>
  rw[hx] at hz
  obtain⟨y,hy,rfl⟩:=List.mem_map.1 hz
  have:=may_part h hx y hy
  omega
end Go.Proofs.YthpgfahlccljnaaGreatDoor
namespace Go.Proofs.YthpgfahlccljnaaGreatDoor
open Go.RowKit Go.Shelf
attribute [local go_sem] Oper.semAt_some
def cutL (m:Nat) (l t:List Nat):List Nat:=l++t.take (m-l.length)
theorem cutL_append (m:Nat) (l t1 t2:List Nat):cutL m (cutL m l t1) t2=cutL m l (t1++t2):=by
 unfold cutL
 rw[List.take_append,List.append_assoc,List.length_append,List.length_take]
 congr 3
 omega
theorem cutL_len (m:Nat) (l t:List Nat) (h:l.length≤100000) (hm:m≤100000):(cutL m l t).length≤100000:=by
 unfold cutL
 rw[List.length_append,List.length_take]
 omega
theorem cutL_full (m:Nat) (l t:List Nat) (h:m≤l.length):cutL m l t=l:=by
 unfold cutL
 rw[Nat.sub_eq_zero_of_le h]
 simp
theorem cutL_one (m:Nat) (l:List Nat) (e:Nat) (h:l.length<m):cutL m l [e]=l++[e]:=by
 unfold cutL
 obtain⟨k,hk⟩:∃k,m-l.length=k+1:=⟨m-l.length-1,by omega⟩
 rw[hk]
 simp
theorem own_slice {X:World} {base:Nat} {v:Value} {k:Nat} {xs:List Value} (h:X.ownsRow base 3 1 v k xs):∃o cap,v=.slice o k cap:=by
 rcases h.2 with ⟨rfl,rfl⟩ | ⟨g,cap,cur,rfl,_⟩
 ·exact⟨none,0,rfl⟩
 ·exact⟨_,cap,rfl⟩
theorem own_sl2 {w:World} {base:Nat} {v:Value} {l:List Int} (h:w.ownsRow base 3 1 v l.length (l.map intV)) :
  ∃o cap g,v=.slice o l.length cap∧(0<l.length→o=some ⟨g,0,none⟩)∧(0<l.length→base≤g)∧∀j,j<l.length→w.cell? ⟨g,j,none⟩=some (.int .i64 (l.getD j 0)):=by
 obtain⟨o,cap,g,h1,h2,h3⟩:=own_sl h
 refine⟨o,cap,g,h1,h2,fun hp=>?_,h3⟩
 exact(own_lt h (by rw[h1,h2 hp];rfl)).1
def RowAfter (W:World) (lv:Value) (v:Value) (Y:World):Prop:=W.grownBy Y lv.ownBlock∧(v.ownBlock=lv.ownBlock∨∃g,v.ownBlock=some g∧W.heap.size≤g)
theorem RowAfter.trans {W Y Z:World} {a b c:Value} (h:RowAfter W a b Y) (k:RowAfter Y b c Z):RowAfter W a c Z:=by
 refine⟨⟨k.1.os.trans h.1.os,k.1.tape.trans h.1.tape,k.1.output.trans h.1.output,Nat.le_trans h.1.size k.1.size,fun j hj hne=>?_⟩,?_⟩
 ·refine(k.1.block j (Nat.lt_of_lt_of_le hj h.1.size) fun e=>?_).trans (h.1.block j hj hne)
  rcases h.2 with h2 | ⟨g,h2,h3⟩
  ·exact hne (e.trans h2)
  ·rw[h2] at e;have:=qI e;omega
 ·rcases k.2 with k2 | ⟨g,k2,k3⟩
  ·rw[k2];exact h.2
  ·exact .inr ⟨g,k2,Nat.le_trans h.1.size k3⟩
theorem refTree_core (p:Pr) (o1:Option Addr) (m dcap b off cap nn:Nat) (hnn:Hid (p.exprs.length=nn)) (nl:(nn:Int)≤300) (hm:Hid (mayP p=true)) (hS:Hid (Small p)) (w0:World) (hc:Hid (∀i,i<nn→∀x,p.exprs[i]?=some x→ExAt w0 b (off+i*9) x)) (most:Nat) (hmost:(most:Int)≤100000) :
  ∀e:Nat,e<nn→∀(l:List Nat) (lv:Value) (W:World),(l.length:Int)≤100000→Below w0.heap.size w0 W→W.ownsRow w0.heap.size 3 1 lv l.length (l.map natV) →
   CallsIn Fence.wide 5 prog 13 #[.agg #[.slice o1 m dcap,.slice (some ⟨b,off,none⟩) nn cap],.int .i64 (e:Int),lv,.int .i64 (most:Int)] W fun r Y =>
    ∃v,r=.returned v∧Y.ownsRow w0.heap.size 3 1 v (cutL most l (tree p e)).length ((cutL most l (tree p e)).map natV)∧RowAfter W lv v Y:=by
 intro e
 induction e using Nat.strongRecOn with
 | _ e ih =>
 intro he l lv W hll hW hown
 obtain⟨o,cl,rfl⟩:=own_slice hown
 obtain⟨k,hk⟩:∃k,k=l.length:=⟨_,rfl⟩
 rw[←hk] at hown hll ⊢
 have IH:=Hd ih
 have HOWN:=Hd hown
 have HW:=Hd hW
 have HK:=Hd hk
 clear ih hown hW hk
 by_cases hfull:most≤k
 ·have hf:(most:Int)≤(k:Int):=by omega
  refine callsIn_of_wp Tryz.func13 rfl trivial ?_ rfl
  simp only[Tryz.ntmps13,List.size_toArray,List.length_cons,List.length_nil,Nat.reduceAdd,Nat.reduceSub,Array.replicate_succ,Array.replicate_zero,List.push_toArray,List.append_toArray,List.nil_append,List.cons_append]
  gi_wp2
  refine⟨rfl,_,results_tmp (t:=8) (by kernel_rfl) _ _ _,_,rfl,?_,?_⟩
  ·rw[cutL_full most l _ (by rw[←HK.out];exact hfull),←HK.out]
   refine own_same HOWN.out fun g hg=>?_
   obtain⟨_,cur,hcur⟩:=own_lt HOWN.out hg
   exact heap_old _ _ _ (lt_of_heap hcur)
  ·exact⟨World.grownBy_alloc _ _ _,.inl rfl⟩
 ·have hf:¬(most:Int)≤(k:Int):=by omega
  obtain⟨x,hxk⟩:∃x,p.exprs[e]?=some x:=⟨_,List.getElem?_eq_getElem (by have:=hnn.out;omega)⟩
  refine callsIn_of_wp Tryz.func13 rfl trivial ?_ rfl
  simp only[Tryz.ntmps13,List.size_toArray,List.length_cons,List.length_nil,Nat.reduceAdd,Nat.reduceSub,Array.replicate_succ,Array.replicate_zero,List.push_toArray,List.append_toArray,List.nil_append,List.cons_append]
  have hrb:∀g,(Value.slice o k cl).ownBlock=some g→w0.heap.size≤g∧g<W.heap.size:=fun g hg=>by
   obtain⟨h1,cur,hcur⟩:=own_lt HOWN.out hg
   exact⟨h1,lt_of_heap hcur⟩
  obtain⟨Wb,hWb⟩:∃Wb,Wb=(W.alloc (.cells #[.slice o1 m dcap,.slice (some ⟨b,off,none⟩) nn cap] 25)).alloc (.cells #[.int .i64 (e:Int)] 3):=⟨_,rfl⟩
  have zb:Wb.heap.size=W.heap.size+2:=by rw[hWb,World.size_alloc,World.size_alloc]
  have bb:Below W.heap.size W Wb:=by rw[hWb];exact((qB _ W).alloc (qL _) _).alloc (by rw[World.size_alloc];omega) _
  have pb:Wb.heap[W.heap.size]?=some (.cells #[.slice o1 m dcap,.slice (some ⟨b,off,none⟩) nn cap] 25 (0,0)):=by
   rw[hWb,heap_old _ _ _ (by rw[World.size_alloc];omega)];exact World.alloc_heap_new W _
  have cb:Wb.cell? ⟨W.heap.size+1,0,none⟩=some (.int .i64 (e:Int)):=by
   have h:=World.alloc_heap_new (W.alloc (.cells #[.slice o1 m dcap,.slice (some ⟨b,off,none⟩) nn cap] 25)) (.cells #[.int .i64 (e:Int)] 3)
   rw[World.size_alloc,←hWb] at h
   simp[World.cell?,h]
  have ob:Wb.ownsRow w0.heap.size 3 1 (.slice o k cl) k (l.map natV):=own_same HOWN.out fun g hg=>bb.block g (hrb g hg).2
  have hw0b:=HW.out.trans (bb.mono HW.out.size)
  have app:∀(v1:Value) (W2:World),W2.ownsRow w0.heap.size 3 1 v1 (k+1) (l.map natV++[.int .i64 (e:Int)])→Wb.grownBy W2 (Value.slice o k cl).ownBlock→(v1.ownBlock=(Value.slice o k cl).ownBlock∨v1.ownBlock=some Wb.heap.size) →
    Below w0.heap.size w0 W2∧W2.heap[W.heap.size]?=some (.cells #[.slice o1 m dcap,.slice (some ⟨b,off,none⟩) nn cap] 25 (0,0))∧RowAfter W (.slice o k cl) v1 W2∧(v1.ownBlock=(Value.slice o k cl).ownBlock∨v1.ownBlock=some (W.heap.size+2)):=fun v1 W2 h1 h2 h3=>by
   refine⟨hw0b.grown h2 hw0b.size fun g hg=>(hrb g hg).1,(h2.block _ (by omega) fun h=>by have:=(hrb _ h.symm).2;omega).trans pb,⟨⟨h2.os.trans bb.os,h2.tape.trans bb.tape,h2.output.trans bb.output,by have:=h2.size;omega,fun j hj hne=>(h2.block j (by omega) hne).trans (bb.block j hj)⟩,h3.imp id fun h=>⟨_,h,by omega⟩⟩,by rw[←zb];exact h3⟩
  have APP:=Hd app
  have OB:=Hd ob
  have ZB:w0.heap.size≤Wb.heap.size:=hw0b.size
  have hpl:=parts_small hS.out hxk
  rw[hWb] at OB cb ZB
  have HWB:=Hd hWb
  clear app ob pb bb zb hWb hw0b hrb
  have HXK:=Hd hxk
  have ix:=ix_exs (cap:=cap) (o:=some ⟨b,off,none⟩) (n:=nn) (b:=b) (off:=off) (fun _=>rfl) he (by omega)
  unfold Ix at ix
  gi_wp2_with (first
   | (gi_at_builtin;refine wpListIn_append_int _ rfl _ _ rfl w0.heap.size (.slice o k cl) k _ rfl OB.out ⟨W.heap.size+1,0,none⟩ [.int .i64 (e:Int)] rfl rfl (fun j u hu=>by
      match j,hu with
      | 0,hu=>cases hu;exact cb) (by simp[Value.oneCell']) (by omega) ZB ?_;intro v1 W2 hown1 hgrow1 hat1;obtain⟨q0,q1,q2,q3⟩:=APP.out v1 W2 hown1 (by rw[HWB.out];exact hgrow1) (by rw[HWB.out];exact hat1);have p0:W2.cell? ⟨W.heap.size,0,none⟩=some (.slice o1 m dcap):=(by simp[World.cell?,q1]);have p1:W2.cell? ⟨W.heap.size,1,none⟩=some (.slice (some ⟨b,off,none⟩) nn cap):=(by simp[World.cell?,q1]);
      obtain⟨sx,d0,d1,d2,d3,d4,d5,d6,d7,d8,ha,hok⟩:=(hc.out e he x HXK.out).below q0;have CP:=Hd (refParts_any x sx W2 ha hpl);unfold exV exCells at CP;have Q0:=Hd q0;have Q1:=Hd q1;have Q2:=Hd q2;have Q3:=Hd q3;have O1:=Hd hown1;clear q0 q1 q2 q3 hown1 hgrow1 hat1 ha hok OB cb)
   | (refine⟨trivial,?_⟩;gi_at_call 29;refine(callsIn_wide.2 CP.out).mono ?_;rintro r W4 ⟨kv,rfl,hk4,hb4⟩;obtain⟨ok,ck,gk,rfl,hok4,hgk4,hck4⟩:=own_sl2 hk4;clear d0 d1 d2 d3 d4 d5 d6 d7 d8 CP))
  obtain⟨np,hnp⟩:∃np,np=(partsE x).length:=⟨_,rfl⟩
  rw[←hnp] at hok4 hgk4 hck4 hpl ⊢
  have HNP:=Hd hnp
  have HOK4:=Hd hok4
  have HGK4:=Hd hgk4
  have HCK4:=Hd hck4
  have HB4:=Hd hb4
  have P0:=Hd p0
  have P1:=Hd p1
  obtain⟨Lj,hLj⟩:∃Lj:Nat→List Nat,Lj=fun j=>cutL most l (e :: (((partsE x).take j).map Int.toNat).flatMap (tree p)):=⟨_,rfl⟩
  have hll2:l.length≤100000:=by have:=HK.out;omega
  have hLlen:∀j,((Lj j).length:Int)≤100000:=fun j=>by
   have:=cutL_len most l (e :: (((partsE x).take j).map Int.toNat).flatMap (tree p)) hll2 (by omega)
   rw[hLj];simp only;omega
  have o4:W4.ownsRow w0.heap.size 3 1 v1 (k+1) (l.map natV++[.int .i64 (e:Int)]):=own_same O1.out fun g hg=>by
   obtain⟨_,cur,hcur⟩:=own_lt O1.out hg
   exact hb4.block g (lt_of_heap hcur)
  have hstart:∃(o':Option Addr) (c':Nat),v1=.slice o' (Lj 0).length c'∧W4.ownsRow w0.heap.size 3 1 v1 (Lj 0).length ((Lj 0).map natV):=by
   have e0:Lj 0=l++[e]:=by rw[hLj];exact cutL_one most l e (by have:=HK.out;omega)
   obtain⟨o',c',hv⟩:=own_slice o4
   rw[e0,List.length_append,←HK.out,List.map_append]
   exact⟨o',c',hv,o4⟩
  have hstep:∀j,j<np→cutL most (Lj j) (tree p ((partsE x).getD j 0).toNat)=Lj (j+1):=fun j hj=>by
   rw[hLj]
   simp only
   rw[cutL_append]
   congr 1
   rw[List.cons_append]
   congr 1
   rw[List.take_succ_eq_append_getElem (by rw[←hnp];exact hj),List.map_append,List.flatMap_append,List.getD_eq_getElem?_getD,List.getElem?_eq_getElem (by rw[←hnp];exact hj)]
   simp
  have hend:Lj np=cutL most l (tree p e):=by
   rw[hLj,hnp]
   simp only
   rw[List.take_length,tree_eq (ahead_of hm.out) e]
   congr 2
   unfold partsN
   rw[HXK.out]
  have hmp:=may_part hm.out HXK.out
  have HST:=Hd hstart
  have HSTEP:=Hd hstep
  have HEND:=Hd hend
  have HLL:=Hd hLlen
  have HMP:=Hd hmp
  clear hLj hll2 hLlen o4 hstart hstep hend hmp hnp hok4 hgk4 hck4 hb4 p0 p1 hk4 ix
  gi_loopw [2,10] (fun v i wr=>∃(j:Nat) (oj:Option Addr) (cj lj:Nat),i=.int .i64 (j:Int)∧v=.slice oj lj cj∧Hid (lj=(Lj j).length)∧Hid (j≤np)∧Hid (wr.ownsRow w0.heap.size 3 1 (.slice oj lj cj) (Lj j).length ((Lj j).map natV))∧Hid (RowAfter W4 v1 (.slice oj lj cj) wr)) (fun _ i _=>np-litLen i)
  case atStart =>
   obtain⟨o',c',hv,ho⟩:=HST.out
   exact⟨0,o',c',_,rfl,hv,Hd rfl,Hd (Nat.zero_le _),Hd (by rw[←hv];exact ho),Hd ⟨⟨rfl,rfl,rfl,qL _,fun _ _ _=>rfl⟩,.inl (by rw[hv])⟩⟩
  case round =>
   obtain⟨j,oj,cj,lj,rfl,rfl,hlj,hj,hO,hRA⟩:=hrel
   have hv1:∀g,v1.ownBlock=some g→g≠W.heap.size∧g<W2.heap.size:=fun g hg=>by
    obtain⟨_,cur,hcur⟩:=own_lt O1.out hg
    refine⟨fun h=>?_,lt_of_heap hcur⟩
    rcases Q3.out with h3 | h3
    ·rw[h3] at hg
     obtain⟨_,cur2,hcur2⟩:=own_lt HOWN.out hg
     have:=lt_of_heap hcur2
     omega
    ·rw[h3] at hg;have:=qI hg;omega
   have zW:W.heap.size<W2.heap.size:=lt_of_heap Q1.out
   have hbox:∀(o:Nat) (u:Value),W2.cell? ⟨W.heap.size,o,none⟩=some u→wr.cell? ⟨W.heap.size,o,none⟩=some u:=fun o u hu =>
    (cell_same' (hRA.out.1.block _ (Nat.lt_of_lt_of_le zW HB4.out.size) fun h=>(hv1 _ h.symm).1 rfl) o).trans (cell_on HB4.out hu)
   have c0:=hbox _ _ P0.out
   have c1:=hbox _ _ P1.out
   rcases Nat.lt_or_ge j np with hlt | hge
   ·have hl:(j:Int)<(np:Int):=by omega
    have ck0:=HCK4.out j hlt
    have hgkl:=HGK4.out (by omega)
    have hne:some gk≠v1.ownBlock:=fun h=>by
     have h2:=(hv1 gk h.symm).2
     omega
    have ckj:wr.cell? ⟨gk,j,none⟩=some (.int .i64 ((partsE x).getD j 0)):=(cell_same' (hRA.out.1.block gk (World.block_lt_of_cell? _ _ ck0) hne) j).trans ck0
    have ix:=ix_il (cap:=ck) HOK4.out hlt (by omega)
    unfold Ix at ix
    have hpl2:j<(partsE x).length:=by rw[←HNP.out];exact hlt
    obtain⟨m0,m1⟩:=HMP.out ((partsE x).getD j 0) (by rw[List.getD_eq_getElem?_getD,List.getElem?_eq_getElem hpl2];exact List.getElem_mem hpl2)
    have hst:=HSTEP.out j hlt
    obtain⟨q,hq⟩:∃q,q=(partsE x).getD j 0:=⟨_,rfl⟩
    rw[←hq] at ckj m0 m1 hst
    have hqz:((q.toNat:Nat):Int)=q:=Int.toNat_of_nonneg m0
    have hwr:Below w0.heap.size w0 wr:=by
     have h4:=Q0.out.trans (HB4.out.mono Q0.out.size)
     exact h4.grown hRA.out.1 h4.size fun g hg=>by
      obtain⟨hg1,_⟩:=own_lt O1.out hg
      exact hg1
    have C:=IH.out q.toNat (by omega) (by omega) (Lj j) (.slice oj lj cj) wr.drew (HLL.out j) ⟨hwr.os,hwr.tape,hwr.output,hwr.size,hwr.block⟩ (own_same hO.out fun _ _=>rfl)
    rw[hqz,hst] at C
    have C2:=Hd (callsIn_wide.1 C)
    have HZ:=Hd hv1
    clear C hst hq hqz hwr m0 m1 hpl2 ck0 hgkl hbox zW hv1 hne
    have mo:prog.follows .mixedOrders=true:=by kernel_rfl
    gi_wp2_with (fail)
    gi_region_with_o (refine⟨trivial,?_⟩;gi_at_call 13;refine(callsIn_wide.2 C2.out).mono ?_;rintro r Y ⟨v',rfl,ho',hr'⟩)
    all_goals gi_wp2
    all_goals
     obtain⟨o',c',rfl⟩:=own_slice ho'
     refine⟨⟨j+1,o',c',_,by go_num,rfl,Hd rfl,Hd (by omega),Hd ho',Hd (hRA.out.trans ⟨⟨hr'.1.os,hr'.1.tape,hr'.1.output,hr'.1.size,hr'.1.block⟩,hr'.2⟩)⟩,?_⟩
     simp[litLen]
     omega
   ·obtain rfl:j=np:=by have:=hj.out;omega
    have HZ:=Hd hv1
    clear hbox zW hv1 hge
    gi_wp2
    refine⟨rfl,_,results_tmp (t:=8) (by kernel_rfl) _ _ _,_,rfl,?_,?_⟩
    ·rw[←HEND.out]
     have h:=hO.out
     rw[←hlj.out] at h ⊢
     exact h
    ·exact Q2.out.trans (RowAfter.trans ⟨⟨HB4.out.os,HB4.out.tape,HB4.out.output,HB4.out.size,fun k hk _=>HB4.out.block k hk⟩,.inl rfl⟩ hRA.out)
end Go.Proofs.YthpgfahlccljnaaGreatDoor
namespace Go.Proofs.YthpgfahlccljnaaGreatDoor
open Go.RowKit
def pcE (ps:List Pc):List Int:=(ps.filter fun p=>decide (p.text.size=0)).map (·.e)
def pcT (ps:List Pc):Nat:=(ps.map fun p=>p.text.size).sum
theorem pcE_append (a b:List Pc):pcE (a++b)=pcE a++pcE b:=by unfold pcE;rw[List.filter_append,List.map_append]
theorem pcT_append (a b:List Pc):pcT (a++b)=pcT a+pcT b:=by unfold pcT;rw[List.map_append,List.sum_append]
theorem pcE_t {t:ByteArray} (h:t.size≠0) (ps:List Pc):pcE (tPc t :: ps)=pcE ps:=by
 unfold pcE
 rw[List.filter_cons_of_neg (by simpa [tPc] using h)]
theorem pcE_e (a w:Int) (ps:List Pc):pcE (ePc a w :: ps)=a :: pcE ps:=by
 unfold pcE
 rw[List.filter_cons_of_pos (by simp[ePc];rfl)]
 rfl
theorem pcE_nil:pcE []=[]:=rfl
theorem rends_size (T:Int→Int→ByteArray) (G:Int→Nat):∀(ps:List Pc),(∀p ∈ ps,p.text.size=0→(T p.e p.wanted).size≤G p.e)→(rendsB T ps).size≤pcT ps+((pcE ps).map G).sum
 | [],_=>Nat.zero_le _
 | p :: ps,h=>by
  have ih:=rends_size T G ps fun q hq=>h q (List.mem_cons_of_mem _ hq)
  show(rendB T p++rendsB T ps).size≤_
  rw[ByteArray.size_append]
  have ht:pcT (p :: ps)=p.text.size+pcT ps:=rfl
  by_cases h0:p.text.size=0
  ·have h1:=h p (List.mem_cons_self ..) h0
   have e:pcE (p :: ps)=p.e :: pcE ps:=by
    unfold pcE
    rw[List.filter_cons_of_pos (by simpa using h0)]
    rfl
   have hr:rendB T p=T p.e p.wanted:=by unfold rendB;rw[if_pos h0]
   rw[e,hr,ht,List.map_cons,List.sum_cons]
   omega
  ·have e:pcE (p :: ps)=pcE ps:=by
    unfold pcE
    rw[List.filter_cons_of_neg (by simpa using h0)]
   have hr:rendB T p=p.text:=by unfold rendB;rw[if_neg h0]
   rw[e,hr,ht]
   omega
theorem costs_size (C:Int→Int→Nat) (G:Int→Nat):∀(ps:List Pc),(∀p ∈ ps,p.text.size=0→C p.e p.wanted≤G p.e)→costs C ps≤ps.length+((pcE ps).map G).sum
 | [],_=>Nat.zero_le _
 | p :: ps,h=>by
  have ih:=costs_size C G ps fun q hq=>h q (List.mem_cons_of_mem _ hq)
  show costP C p+costs C ps≤_
  rw[List.length_cons]
  by_cases h0:p.text.size=0
  ·have h1:=h p (List.mem_cons_self ..) h0
   have e:pcE (p :: ps)=p.e :: pcE ps:=by
    unfold pcE
    rw[List.filter_cons_of_pos (by simpa using h0)]
    rfl
   have hr:costP C p=C p.e p.wanted:=by unfold costP;rw[if_pos h0]
   rw[e,hr,List.map_cons,List.sum_cons]
   omega
  ·have e:pcE (p :: ps)=pcE ps:=by
    unfold pcE
    rw[List.filter_cons_of_neg (by simpa using h0)]
   have hr:costP C p=1:=by unfold costP;rw[if_neg h0]
   rw[e,hr]
   omega
theorem pcE_args:∀(l:List Int) (i:Nat),pcE (argsP i l)=l
 | [],_=>rfl
 | a :: l,i=>by
  show pcE ((if 0<i then [tPc ⟨#[44,32]⟩,ePc a 0] else [ePc a 0])++argsP (i+1) l)=a :: l
  rw[pcE_append,pcE_args l (i+1)]
  split
  ·rw[pcE_t (by decide),pcE_e];rfl
  ·rw[pcE_e];rfl
theorem many_zero {k:Int} (h:k=1∨k=2∨k=3∨k=20):manyOf k=0:=by
 unfold manyOf
 rw[if_neg (by omega),if_neg (by omega),if_neg (by omega)]
theorem parts_zero {x:Ex} (h:x.kind=1∨x.kind=2∨x.kind=3∨x.kind=20):partsE x=[]:=by
 unfold partsE
 rw[if_neg (by omega),many_zero h]
 rfl
theorem pcE_own {x:Ex} (h:ExFit x):pcE (ownP x)=partsE x:=by
 have hk1:=h.k1
 have hk21:=h.k21
 unfold ownP
 by_cases k1:x.kind=1
 ·rw[if_pos k1,parts_zero (.inl k1),pcE_t (h.num k1)];rfl
 rw[if_neg k1]
 by_cases k2:x.kind=2
 ·rw[if_pos k2,parts_zero (.inr (.inl k2))]
  split
  ·rw[pcE_t (by decide)];rfl
  ·rw[pcE_t (by decide)];rfl
 rw[if_neg k2]
 by_cases k3:x.kind=3
 ·rw[if_pos k3,parts_zero (.inr (.inr (.inl k3))),pcE_t (h.name (by omega))];rfl
 rw[if_neg k3]
 by_cases k20:x.kind=20
 ·rw[if_pos k20,parts_zero (.inr (.inr (.inr k20))),pcE_t (h.name (by omega)),pcE_t (by decide),pcE_t (h.state k20)];rfl
 rw[if_neg k20]
 by_cases k19:x.kind=19
 ·unfold partsE
  rw[if_pos k19,if_pos k19,pcE_append,pcE_append,pcE_args,pcE_t (h.name (by omega)),pcE_t (by decide),pcE_t (by decide)]
  simp[pcE_nil]
 rw[if_neg k19]
 unfold partsE
 rw[if_neg k19]
 by_cases k15:x.kind=15
 ·rw[if_pos k15,pcE_t (by decide),pcE_e,pcE_t (by decide),pcE_e,pcE_t (by decide),pcE_e]
  unfold manyOf
  rw[if_neg (by omega),if_neg (by omega),if_pos k15]
  rfl
 rw[if_neg k15]
 by_cases kp:x.kind=4∨x.kind=5∨x.kind=16∨x.kind=21
 ·have hw:sgnB x.kind=wordB x.kind:=by unfold sgnB;rw[if_pos kp]
  have hz:(wordB x.kind).size≠0:=by
                      unfold wordB;repeat' split
                      all_goals decide
  rw[if_pos kp,pcE_t (by rw[hw];exact hz),pcE_e]
  unfold manyOf
  rw[if_pos kp]
  rfl
 rw[if_neg kp]
 have hw:sgnB x.kind=(⟨#[32]⟩++signB x.kind)++⟨#[32]⟩:=by unfold sgnB;rw[if_neg kp]
 have hz:(sgnB x.kind).size≠0:=by rw[hw,ByteArray.size_append,ByteArray.size_append];show ¬_+1=0;omega
 rw[pcE_e,pcE_t hz,pcE_e]
 unfold manyOf
 rw[if_neg kp,if_pos (by omega)]
 rfl
theorem pcE_pieces {x:Ex} (h:ExFit x) (w:Int):pcE (piecesP x w)=partsE x:=by
 unfold piecesP
 split
 ·exact pcE_own h
 ·rw[pcE_append,pcE_append,pcE_own h,pcE_t (by decide),pcE_t (by decide)]
  simp[pcE_nil]
theorem pcT_args:∀(l:List Int) (i:Nat),pcT (argsP i l)≤2*l.length
 | [],_=>qL _
 | a :: l,i=>by
  have ih:=pcT_args l (i+1)
  show pcT ((if 0<i then [tPc ⟨#[44,32]⟩,ePc a 0] else [ePc a 0])++argsP (i+1) l)≤_
  rw[pcT_append,List.length_cons]
  split
  ·show 2+(0+0)+_≤_;omega
  ·show 0+0+_≤_;omega
theorem sgn_le (k:Int):(sgnB k).size≤7:=by
 unfold sgnB wordB signB
 repeat' split
 all_goals decide
theorem pcT_own (x:Ex) (N:Nat) (hn:x.kind=1→(str (shortL x.v 32)).size≤N):pcT (ownP x)≤N+x.name.size+x.state.size+2*x.args.length+30:=by
 have hs:=sgn_le x.kind
 have ha:=pcT_args x.args 0
 unfold ownP
 by_cases k1:x.kind=1
 ·rw[if_pos k1]
  have:=hn k1
  show(str (shortL x.v 32)).size+0≤_
  omega
 rw[if_neg k1]
 split
 ·split
  ·show 4+0≤_;omega
  ·show 5+0≤_;omega
 ·split
  ·show x.name.size+0≤_;omega
  ·split
   ·show x.name.size+(4+(x.state.size+0))≤_;omega
   ·split
    ·rw[pcT_append,pcT_append]
     show x.name.size+(1+0)+_+(1+0)≤_;omega
    ·split
     ·show 3+(0+(6+(0+(6+(0+0)))))≤_;omega
     ·split
      ·show(sgnB x.kind).size+(0+0)≤_;omega
      ·show 0+((sgnB x.kind).size+(0+0))≤_;omega
theorem pcT_pieces (x:Ex) (w:Int) (N:Nat) (hn:x.kind=1→(str (shortL x.v 32)).size≤N):pcT (piecesP x w)≤N+x.name.size+x.state.size+2*x.args.length+32:=by
 have h:=pcT_own x N hn
 unfold piecesP
 split
 ·omega
 ·rw[pcT_append,pcT_append]
  show 1+0+_+(1+0)≤_;omega
theorem sum_map_mul (l:List Int) (t:Int→Nat) (K:Nat):(l.map fun z=>t z*K).sum=(l.map t).sum*K:=by
 induction l with
 | nil=>simp
 | cons a l ih=>rw[List.map_cons,List.sum_cons,ih,List.map_cons,List.sum_cons,Nat.add_mul]
theorem txt_size (l:List Ex) (t:Int→Nat) (K:Nat) (hm:∀i x,l[i]?=some x→mayE x i=true) (hK:∀x ∈ l,∀w,pcT (piecesP x w)≤K) (ht:∀(i:Nat) x,l[i]?=some x→t (i:Int)=1+((partsE x).map t).sum):∀(f e:Nat) (w:Int),e<l.length→(txtB l f (e:Int) w).size≤t (e:Int)*K:=by
 intro f
 induction f with
 | zero=>intro e w _;exact Nat.zero_le _
 | succ f ih =>
  intro e w he
  obtain⟨x,hx⟩:∃x,l[e]?=some x:=⟨_,List.getElem?_eq_getElem he⟩
  have hM:=hm e x hx
  rw[txt_step l f e hx hM,ht e x hx]
  have h1:=rends_size (txtB l f) (fun z=>t z*K) (piecesP x w) fun p hp h0=>by
   rcases pieces_in (exFit_of hM) w p hp with h | ⟨_,h2,_,_⟩
   ·exact absurd h0 h
   ·have h3:=parts_in hM h2
    obtain⟨a,ha⟩:∃a:Nat,p.e=(a:Int):=⟨p.e.toNat,by omega⟩
    rw[ha]
    exact ih a _ (by omega)
  rw[pcE_pieces (exFit_of hM),sum_map_mul] at h1
  have h2:=hK x (List.mem_of_getElem? hx) w
  rw[Nat.add_mul,Nat.one_mul]
  omega
theorem cost_size (l:List Ex) (t:Int→Nat) (K:Nat) (hm:∀i x,l[i]?=some x→mayE x i=true) (hK:∀x ∈ l,∀w,(piecesP x w).length+1≤K) (ht:∀(i:Nat) x,l[i]?=some x→t (i:Int)=1+((partsE x).map t).sum):∀(f e:Nat) (w:Int),e<l.length→costE l f (e:Int) w≤t (e:Int)*K:=by
 intro f
 induction f with
 | zero=>intro e w _;exact Nat.zero_le _
 | succ f ih =>
  intro e w he
  obtain⟨x,hx⟩:∃x,l[e]?=some x:=⟨_,List.getElem?_eq_getElem he⟩
  have hM:=hm e x hx
  rw[cost_step l f e hx,ht e x hx]
  have h1:=costs_size (costE l f) (fun z=>t z*K) (piecesP x w) fun p hp h0=>by
   rcases pieces_in (exFit_of hM) w p hp with h | ⟨_,h2,_,_⟩
   ·exact absurd h0 h
   ·have h3:=parts_in hM h2
    obtain⟨a,ha⟩:∃a:Nat,p.e=(a:Int):=⟨p.e.toNat,by omega⟩
    rw[ha]
    exact ih a _ (by omega)
  rw[pcE_pieces (exFit_of hM),sum_map_mul] at h1
  have h2:=hK x (List.mem_of_getElem? hx) w
  rw[Nat.add_mul,Nat.one_mul]
  omega
def tlen (p:Pr) (z:Int):Nat:=(tree p z.toNat).length
theorem tlen_eq (p:Pr) (h:mayP p=true) (i:Nat) (x:Ex) (hx:p.exprs[i]?=some x):tlen p (i:Int)=1+((partsE x).map (tlen p)).sum:=by
 have ha:Ahead p:=fun e z hz=>by
  unfold partsN at hz
  cases he:p.exprs[e]? with
  | none=>rw[he] at hz;simp at hz
  | some y =>
   rw[he] at hz
   obtain⟨z',hz',rfl⟩:=List.mem_map.1 hz
   have:=may_part h he z' hz'
   omega
 unfold tlen
 rw[Int.toNat_natCast,tree_eq ha]
 unfold partsN
 rw[hx]
 rw[List.length_cons,List.length_flatMap,Nat.add_comm]
 congr 1
 rw[List.map_map]
 rfl
theorem lit_sizes:(⟨#[40]⟩:ByteArray).size=1∧(⟨#[41]⟩:ByteArray).size=1∧(⟨#[46]⟩:ByteArray).size=1∧(⟨#[63]⟩:ByteArray).size=1∧(⟨#[44,32]⟩:ByteArray).size=2∧(⟨#[58,32]⟩:ByteArray).size=2∧(⟨#[59,10]⟩:ByteArray).size=2∧(⟨#[125,10]⟩:ByteArray).size=2∧(⟨#[32,123]⟩:ByteArray).size=2∧(⟨#[32,61,32]⟩:ByteArray).size=3∧(⟨#[125,59,10]⟩:ByteArray).size=3∧(⟨#[32,123,10]⟩:ByteArray).size=3∧(⟨#[32,111,110,32]⟩:ByteArray).size=4∧(⟨#[102,117,110,32]⟩:ByteArray).size=4∧(⟨#[32,32,111,110,32]⟩:ByteArray).size=5∧(⟨#[32,115,101,116,32]⟩:ByteArray).size=5∧(⟨#[110,111,100,101,32]⟩:ByteArray).size=5∧(⟨#[32,32,100,101,114,32]⟩:ByteArray).size=6∧(⟨#[32,32,108,101,116,32]⟩:ByteArray).size=6∧(⟨#[32,32,109,101,109,32]⟩:ByteArray).size=6∧(⟨#[32,32,111,117,116,32]⟩:ByteArray).size=6∧(⟨#[32,103,111,116,111,32]⟩:ByteArray).size=6∧(⟨#[32,105,110,105,116,32]⟩:ByteArray).size=6∧(⟨#[32,32,102,114,111,109,32]⟩:ByteArray).size=7∧(⟨#[32,32,109,111,100,101,32]⟩:ByteArray).size=7∧(⟨#[104,121,98,114,105,100,32]⟩:ByteArray).size=7∧(⟨#[32,32,114,101,115,101,116,32]⟩:ByteArray).size=8∧(⟨#[32,32,114,101,116,117,114,110,32]⟩:ByteArray).size=9:=⟨rfl,rfl,rfl,rfl,rfl,rfl,rfl,rfl,rfl,rfl,rfl,rfl,rfl,rfl,rfl,rfl,rfl,rfl,rfl,rfl,rfl,rfl,rfl,rfl,rfl,rfl,rfl,rfl⟩
theorem typeB_le (k:Int):(typeB k).size≤4:=by
 unfold typeB
 split
 ·exact(by decide)
 ·split <;> exact(by decide)
theorem statesB_size (s:ByteArray) (l:List ByteArray):∀i,i≤l.length→(statesB s l i).size≤s.size+((l.take i).map (·.size)).sum+2*i
 | 0,_=>by show s.size≤_;omega
 | i+1,h=>by
  have ih:=statesB_size s l i (by omega)
  obtain⟨x,hx⟩:∃x,l[i]?=some x:=⟨_,List.getElem?_eq_getElem (by omega)⟩
  have e:l.getD i ⟨#[]⟩=x:=by rw[List.getD_eq_getElem?_getD,hx];rfl
  have et:((l.take (i+1)).map (·.size)).sum=((l.take i).map (·.size)).sum+x.size:=by
   rw[List.take_add_one,hx,List.map_append,List.sum_append];simp
  show((if 0<i then statesB s l i++⟨#[44,32]⟩ else statesB s l i)++l.getD i ⟨#[]⟩).size≤_
  rw[e,et,ByteArray.size_append]
  split
  ·rw[ByteArray.size_append]
   have:(⟨#[44,32]⟩:ByteArray).size=2:=rfl
   omega
  ·omega
def itLet (y:It):Nat:=y.name.size+y.state.size+y.next.size+(y.states.map (·.size)).sum
theorem itemB_size (T:Int→ByteArray) (n M:Nat) (hT:∀a:Nat,a<n→(T (a:Int)).size≤M) (y:It) (hm:mayI n y=true):(itemB T y).size≤itLet y+2*y.states.length+2*M+40:=by
 have ht:=typeB_le y.type
 have hE:hasE y.kind=true→(T y.e).size≤M:=fun h=>by
  unfold mayI standsE at hm
  rw[h,Bool.and_eq_true] at hm
  have h0:0≤y.e∧y.e<(n:Int):=by simpa using hm.1
  obtain⟨a,ha⟩:∃a:Nat,y.e=(a:Int):=⟨y.e.toNat,by omega⟩
  rw[ha]
  exact hT a (by omega)
 have hF:hasF y.kind=true→(T y.f).size≤M:=fun h=>by
  unfold mayI standsE at hm
  rw[h,Bool.and_eq_true] at hm
  have h0:0≤y.f∧y.f<(n:Int):=by simpa using hm.2
  obtain⟨a,ha⟩:∃a:Nat,y.f=(a:Int):=⟨y.f.toNat,by omega⟩
  rw[ha]
  exact hT a (by omega)
 have Z:=lit_sizes
 unfold itemB itLet
 by_cases k1:y.kind=1
 ·have h1:=hE (by rw[k1];rfl)
  rw[if_pos k1];simp only[ByteArray.size_append];omega
 rw[if_neg k1]
 by_cases k2:y.kind=2
 ·have h1:=hE (by rw[k2];rfl)
  have h2:=hF (by rw[k2];rfl)
  rw[if_pos k2];simp only[ByteArray.size_append];omega
 rw[if_neg k2]
 by_cases k3:y.kind=3
 ·have h1:=hE (by rw[k3];rfl)
  have h2:=hF (by rw[k3];rfl)
  rw[if_pos k3];simp only[ByteArray.size_append];omega
 rw[if_neg k3]
 by_cases k4:y.kind=4
 ·have h1:=hE (by rw[k4];rfl)
  rw[if_pos k4];simp only[ByteArray.size_append];omega
 rw[if_neg k4]
 by_cases k5:y.kind=5
 ·have h1:=hE (by rw[k5];rfl)
  have h2:=hF (by rw[k5];rfl)
  rw[if_pos k5];simp only[ByteArray.size_append];omega
 rw[if_neg k5]
 by_cases k6:y.kind=6
 ·have h1:=statesB_size ((⟨#[32,32,109,111,100,101,32]⟩++y.name)++⟨#[32,123]⟩) y.states y.states.length (qL _)
  rw[List.take_length] at h1
  rw[if_pos k6];simp only[ByteArray.size_append] at h1 ⊢;omega
 rw[if_neg k6]
 by_cases k7:y.kind=7
 ·have h2:=hF (by rw[k7];rfl)
  rw[if_pos k7];simp only[ByteArray.size_append];omega
 rw[if_neg k7];simp only[ByteArray.size_append];omega
theorem itsB_size (T:Int→ByteArray) (S:ByteArray) (l:List It) (C:Nat) (hC:∀y ∈ l,(itemB T y).size≤C):∀i,i≤l.length→(itsB T S l i).size≤S.size+i*C
 | 0,_=>by show S.size≤_;omega
 | i+1,h=>by
  have ih:=itsB_size T S l C hC i (by omega)
  obtain⟨x,hx⟩:∃x,l[i]?=some x:=⟨_,List.getElem?_eq_getElem (by omega)⟩
  have e:l.getD i itZ=x:=by rw[List.getD_eq_getElem?_getD,hx];rfl
  show(itsB T S l i++itemB T (l.getD i itZ)).size≤_
  have:=hC x (List.mem_of_getElem? hx)
  rw[e,ByteArray.size_append,Nat.add_mul]
  omega
theorem paB_size (s:ByteArray) (l:List Pa):∀i,i≤l.length→(paB s l i).size≤s.size+((l.take i).map (·.name.size)).sum+8*i
 | 0,_=>by show s.size≤_;omega
 | i+1,h=>by
  have ih:=paB_size s l i (by omega)
  obtain⟨x,hx⟩:∃x,l[i]?=some x:=⟨_,List.getElem?_eq_getElem (by omega)⟩
  have e:l.getD i ⟨⟨#[]⟩,0⟩=x:=by rw[List.getD_eq_getElem?_getD,hx];rfl
  have et:((l.take (i+1)).map (·.name.size)).sum=((l.take i).map (·.name.size)).sum+x.name.size:=by
   rw[List.take_add_one,hx,List.map_append,List.sum_append];simp
  have ht:=typeB_le x.type
  show((((if 0<i then paB s l i++⟨#[44,32]⟩ else paB s l i)++(l.getD i ⟨⟨#[]⟩,0⟩).name)++⟨#[58,32]⟩)++typeB (l.getD i ⟨⟨#[]⟩,0⟩).type).size≤_
  have c1:(⟨#[44,32]⟩:ByteArray).size=2:=rfl
  have c2:(⟨#[58,32]⟩:ByteArray).size=2:=rfl
  rw[e,et,ByteArray.size_append,ByteArray.size_append,ByteArray.size_append]
  split
  ·rw[ByteArray.size_append];omega
  ·omega
def deLet (d:De):Nat:=d.name.size+(d.params.map (·.name.size)).sum+8*d.params.length
theorem declB_size (T:Int→ByteArray) (S:ByteArray) (n M C:Nat) (hT:∀a:Nat,a<n→(T (a:Int)).size≤M) (d:De) (hm:mayD n d=true) (hC:∀y ∈ d.items,(itemB T y).size≤C):(declB T S d).size≤S.size+deLet d+d.items.length*C+M+60:=by
 have ht:=typeB_le d.type
 have hE:hasVal d.kind=true→(T d.e).size≤M:=fun h=>by
  unfold mayD standsE at hm
  rw[h,Bool.and_eq_true] at hm
  have h0:0≤d.e∧d.e<(n:Int):=by simpa using hm.1
  obtain⟨a,ha⟩:∃a:Nat,d.e=(a:Int):=⟨d.e.toNat,by omega⟩
  rw[ha]
  exact hT a (by omega)
 have hp:(parB d).size≤(d.params.map (·.name.size)).sum+8*d.params.length+2:=by
  have h:=paB_size ⟨#[40]⟩ d.params d.params.length (qL _)
  rw[List.take_length] at h
  unfold parB
  rw[ByteArray.size_append]
  have c1:(⟨#[40]⟩:ByteArray).size=1:=rfl
  have c2:(⟨#[41]⟩:ByteArray).size=1:=rfl
  omega
 have hi:=itsB_size T (headB S d) d.items C hC d.items.length (qL _)
 have Z:=lit_sizes
 unfold declB deLet
 by_cases k1:d.kind=1
 ·have h1:=hE (by rw[k1];rfl)
  rw[if_pos k1];simp only[ByteArray.size_append];omega
 rw[if_neg k1]
 by_cases k2:d.kind=2
 ·have h1:=hE (by rw[k2];rfl)
  have hh:(headB S d).size≤S.size+d.name.size+(parB d).size+20:=by
   unfold headB
   rw[if_pos k2];simp only[ByteArray.size_append];omega
  rw[if_pos k2];simp only[ByteArray.size_append];omega
 ·have hh:(headB S d).size≤S.size+d.name.size+(parB d).size+20:=by
   unfold headB
   rw[if_neg k2];simp only[ByteArray.size_append];omega
  rw[if_neg k2];simp only[ByteArray.size_append];omega
theorem progB_size (T:Int→ByteArray) (n M C D:Nat) (hT:∀a:Nat,a<n→(T (a:Int)).size≤M) (l:List De) (hl:∀d ∈ l,mayD n d=true∧1≤d.kind∧d.kind≤3∧(∀y ∈ d.items,(itemB T y).size≤C)∧deLet d+d.items.length*C+M+60≤D):∀i,i≤l.length→(progB T l i).size≤i*D
 | 0,_=>Nat.zero_le _
 | i+1,h=>by
  have ih:=progB_size T n M C D hT l hl i (by omega)
  obtain⟨d,hd⟩:∃x,l[i]?=some x:=⟨_,List.getElem?_eq_getElem (by omega)⟩
  have e:l.getD i deZ=d:=by rw[List.getD_eq_getElem?_getD,hd];rfl
  obtain⟨m1,_,_,m4,m5⟩:=hl d (List.mem_of_getElem? hd)
  have h1:=declB_size T (progB T l i) n M C hT d m1 m4
  show(declB T (progB T l i) (l.getD i deZ)).size≤_
  rw[e,Nat.add_mul,Nat.one_mul]
  omega
def catB (S:ByteArray) (ss:List ByteArray):ByteArray:=ss.foldl (·++·) S
theorem str_cats (m:List UInt8) (ss:List ByteArray):str (m++catL ss)=catB (str m) ss:=by
 induction ss generalizing m with
 | nil=>show str (m++[])=str m;rw[List.append_nil]
 | cons t ss ih =>
  have e:catL (t :: ss)=t.data.toList++catL ss:=by unfold catL;simp
  rw[e,←List.append_assoc,ih,←catL_one,str_add]
  rfl
theorem cats_len (m:List UInt8) (ss:List ByteArray):m.length+(catL ss).length=(catB (str m) ss).size:=by
 rw[←str_cats,str_size,List.length_append]
theorem rowSS (w:World) (ss:List ByteArray):StrRow (w.alloc (.cells ⟨ss.map Value.string⟩ 9)) w.heap.size ss:=⟨(0,0),heap_alloc_new w _⟩
theorem put_new (B b n:Nat) (s:Value) (m:List UInt8) (ss:List ByteArray) (hn:ss.length=n) (nl:(n:Int)≤1000) (W:World) (hw:IsWr B b s (Lib.byteCells m) W) (hb:b<W.heap.size) (hlen:(catB (str m) ss).size≤100000000000000) (hB:B≤W.heap.size) :
  Calls prog 36 #[.pointer (some ⟨b,0,none⟩),.slice (some ⟨W.heap.size,0,none⟩) n n] (W.alloc (.cells ⟨ss.map Value.string⟩ 9)) fun r Y=>r=.returned (.tuple #[])∧IsWr B b s (Lib.byteCells (m++catL ss)) Y∧Below B W Y∧Lib.OthersKept 5 (some b) W Y :=
 (wput_any B b W.heap.size n n s m ss (Hd hn) nl _ (Hd (isWr_alloc hw _)) (Hd (rowSS W ss)) (by omega) (by rw[cats_len];exact hlen) (by rw[World.size_alloc];omega)).mono fun r Y h =>
  ⟨h.1,h.2.1,((qB B W).alloc hB _).trans h.2.2.1,(others_alloc (some b) W _).trans h.2.2.2⟩
theorem line_new (B b n:Nat) (s:Value) (m:List UInt8) (ss:List ByteArray) (hn:ss.length=n) (nl:(n:Int)≤1000) (W:World) (hw:IsWr B b s (Lib.byteCells m) W) (hb:b<W.heap.size) (hlen:(catB (str m) ss).size≤90000000000000) (hB:B≤W.heap.size) :
  Calls prog 39 #[.pointer (some ⟨b,0,none⟩),.slice (some ⟨W.heap.size,0,none⟩) n n] (W.alloc (.cells ⟨ss.map Value.string⟩ 9)) fun r Y=>r=.returned (.tuple #[])∧IsWr B b s (Lib.byteCells ((m++catL ss)++[10])) Y∧Below B W Y∧Lib.OthersKept 5 (some b) W Y :=
 (line_any B b W.heap.size n n s m ss (Hd hn) nl _ (Hd (isWr_alloc hw _)) (Hd (rowSS W ss)) (by omega) (by rw[cats_len];exact hlen) (by rw[World.size_alloc];omega) (by rw[World.size_alloc];omega)).mono fun r Y h =>
  ⟨h.1,h.2.1,((qB B W).alloc hB _).trans h.2.2.1,(others_alloc (some b) W _).trans h.2.2.2⟩
theorem str_nl (m:List UInt8):str (m++[10])=str m++⟨#[10]⟩:=by
 have:=str_add m ⟨#[10]⟩
 rw[catL_one] at this
 exact this
theorem str_line (m:List UInt8) (ss:List ByteArray):str ((m++catL ss)++[10])=catB (str m) ss++⟨#[10]⟩:=by rw[str_nl,str_cats]
theorem string_of (B b:Nat) (s:Value) (m:List UInt8) (S:ByteArray) (W:World) (h:IsWr B b s (Lib.byteCells m) W) (hS:str m=S) (h0:S.size≠0) :
  Calls prog 20 #[.pointer (some ⟨b,0,none⟩)] W fun e w'=>e=.returned (.string S)∧Below B W w':=by
 subst hS
 exact string_writer B b s m W h (by intro e;subst e;exact h0 rfl)
theorem ix_pasW {o:Option Addr} {n cap b off:Nat} (h:0<n→o=some ⟨b,off,none⟩) {j:Nat} (hj:j<n) (hn:n≤9223372036854775807):Ix 30 2 (.slice o n cap) b off j:=by
 intro W
 rw[h (by omega)]
 have h1:(j:Int)<(n:Int):=by omega
 have h2:(j:Int)≤9223372036854775807:=by omega
 go_simp
theorem wr_new (W0:World) (sx:Value):IsWr W0.heap.size W0.heap.size sx (Lib.byteCells []) (W0.alloc (.cells #[.pointer none,.slice none 0 0,sx] 59)) :=
 .inl ⟨qL _,_,heap_alloc_new W0 _,qO _ _ _ _,fun h=>by cases h⟩
def commaB (i:Nat):ByteArray:=if 0<i then⟨#[44,32]⟩ else⟨#[]⟩
theorem paB_next (s:ByteArray) (l:List Pa) (i:Nat) {p:Pa} (hp:l[i]?=some p):paB s l (i+1)=catB (paB s l i) [commaB i,p.name,⟨#[58,32]⟩,typeB p.type]:=by
 have e:l.getD i ⟨⟨#[]⟩,0⟩=p:=by rw[List.getD_eq_getElem?_getD,hp];rfl
 show((((if 0<i then paB s l i++⟨#[44,32]⟩ else paB s l i)++(l.getD i ⟨⟨#[]⟩,0⟩).name)++⟨#[58,32]⟩)++typeB (l.getD i ⟨⟨#[]⟩,0⟩).type)=(((paB s l i++commaB i)++p.name)++⟨#[58,32]⟩)++typeB p.type
 rw[e]
 unfold commaB
 split
 ·rfl
 ·rw[app_nil]
theorem params_any (l:List Pa) (n:Nat) (hn:Hid (l.length=n)) (nl:(n:Int)≤100000) (o:Option Addr) (cap bx fx:Nat) (W0:World) (ho:Hid (0<n→o=some ⟨bx,fx,none⟩))
  (hx:Hid (∀i,i<n→∀p,l[i]?=some p→PaAt W0 bx (fx+i*2) p)) (hM:Hid ((paB ⟨#[40]⟩ l n++⟨#[41]⟩).size≤10000000000000)) :
  Calls prog 40 #[.slice o n cap] W0 fun r Y=>r=.returned (.string (paB ⟨#[40]⟩ l n++⟨#[41]⟩))∧Below W0.heap.size W0 Y:=by
 obtain⟨S,hS⟩:∃S,S=paB ⟨#[40]⟩ l n++⟨#[41]⟩:=⟨_,rfl⟩
 rw[←hS]
 have HS:=Hd hS
 have HS0:Hid (S.size≠0):=Hd (by rw[hS,ByteArray.size_append];show ¬_+1=0;omega)
 clear hS
 have C1:Hid (Calls prog 36 #[.pointer (some ⟨W0.heap.size,0,none⟩),.slice (some ⟨W0.heap.size+1,0,none⟩) 1 1] ((W0.alloc (.cells #[.pointer none,.slice none 0 0,.slice none 0 0] 59)).alloc (.cells #[.string ⟨#[40]⟩] 9)) fun r Y=>r=.returned (.tuple #[])∧Hid (IsWr W0.heap.size W0.heap.size (.slice none 0 0) (Lib.byteCells ([]++catL [⟨#[40]⟩])) Y∧Below W0.heap.size W0 Y)):=Hd (by
  have h:=put_new W0.heap.size W0.heap.size 1 (.slice none 0 0) [] [⟨#[40]⟩] rfl (by decide) (W0.alloc (.cells #[.pointer none,.slice none 0 0,.slice none 0 0] 59)) (wr_new W0 _) (by simp) (by decide) (by simp)
  rw[World.size_alloc] at h
  exact h.mono fun r Y h=>⟨h.1,Hd ⟨h.2.1,((qB _ _).alloc (qL _) _).trans h.2.2.1⟩⟩)
 go_enter Tryz.func40,Tryz.ntmps40
 go_wp2_with (go_at_call 36;(with_reducible refine C1.out.mono ?_);rintro r w1 ⟨rfl,h1⟩)
 go_loopw [4,11] (fun c i wr=>∃j:Nat,j≤n∧i=.int .i64 (j:Int)∧c=.string (commaB j)∧Hid (∃m,str m=paB ⟨#[40]⟩ l j∧IsWr W0.heap.size W0.heap.size (.slice none 0 0) (Lib.byteCells m) wr∧Below W0.heap.size W0 wr)) (fun _ i _=>n-litLen i)
 case atStart=>exact⟨0,Nat.zero_le _,rfl,rfl,Hd ⟨[]++catL [⟨#[40]⟩],rfl,h1.out.1,h1.out.2⟩⟩
 case round =>
  obtain⟨j,hj,rfl,rfl,hI⟩:=hrel
  obtain⟨ms,hms,hwr,hbl⟩:=hI.out
  have hbs:W0.heap.size<wr.heap.size:=by rcases hwr with h | h <;> exact wlt_of_heap h.2.choose_spec.1
  have HWR:=Hd hwr
  have HBL:=Hd hbl
  have HMS:=Hd hms
  obtain⟨cm,hcm⟩:∃cm,cm=commaB j:=⟨_,rfl⟩
  rw[←hcm]
  have HCM:=Hd hcm
  clear hwr hbl hms hI hcm
  rcases Nat.lt_or_ge j n with hlt | hge
  ·have q1:decide ((j:Int)<(n:Int))=true:=qT (by omega)
   obtain⟨p,hp⟩:∃p,l[j]?=some p:=⟨_,List.getElem?_eq_getElem (by have:=hn.out;omega)⟩
   obtain⟨a0,a1,_,_⟩:=hx.out j hlt p hp
   have b0:=cell_below HBL.out a0
   have b1:=cell_below HBL.out a1
   have ix:=ix_pasW (cap:=cap) ho.out hlt (by omega)
   unfold Ix at ix
   obtain⟨nm,ty⟩:=p
   dsimp only at b0 b1
   obtain⟨V,hV⟩:∃V,V=wr.alloc (.cells #[.string nm,.int .i64 ty] 63):=⟨_,rfl⟩
   have v0:V.cell? ⟨wr.heap.size,0,none⟩=some (.string nm):=by rw[hV];exact new_cell rfl rfl
   have v1:V.cell? ⟨wr.heap.size,1,none⟩=some (.int .i64 ty):=by rw[hV];exact new_cell rfl rfl
   have HTY:Hid (∀Y,Calls prog 41 #[.int .i64 ty] Y fun r Z=>r=.returned (.string (typeB ty))∧Hid (Below Y.heap.size Y Z)):=Hd fun Y=>(typed_any ty Y).mono fun r Z h=>⟨h.1,Hd h.2⟩
   obtain⟨tb,htb⟩:∃tb,tb=typeB ty:=⟨_,rfl⟩
   rw[←htb] at HTY
   have HNX:Hid (paB ⟨#[40]⟩ l (j+1)=catB (paB ⟨#[40]⟩ l j) [cm,nm,⟨#[58,32]⟩,tb]):=Hd (by rw[paB_next _ l j hp,HCM.out,htb])
   have HWV:Hid (IsWr W0.heap.size W0.heap.size (.slice none 0 0) (Lib.byteCells ms) V):=Hd (by rw[hV];exact isWr_alloc HWR.out _)
   have HBV:Hid (Below W0.heap.size W0 V):=Hd (by rw[hV];exact HBL.out.alloc (by omega) _)
   have hVs:W0.heap.size<V.heap.size:=by rw[hV,World.size_alloc];omega
   have CP:Hid (∀w1,Below V.heap.size V w1→Calls prog 36 #[.pointer (some ⟨W0.heap.size,0,none⟩),.slice (some ⟨w1.heap.size,0,none⟩) 4 4] (w1.alloc (.cells #[.string cm,.string nm,.string ⟨#[58,32]⟩,.string tb] 9)) fun r Y=>r=.returned (.tuple #[])∧Hid (∃m,str m=paB ⟨#[40]⟩ l (j+1)∧IsWr W0.heap.size W0.heap.size (.slice none 0 0) (Lib.byteCells m) Y∧Below W0.heap.size W0 Y)):=Hd fun w1 hb=>by
    have hsz:=hb.size
    refine(put_new W0.heap.size W0.heap.size 4 (.slice none 0 0) ms [cm,nm,⟨#[58,32]⟩,tb] rfl (by decide) w1 (HWV.out.below hb) (by omega) ?_ (by omega)).mono fun r Y h=>⟨h.1,Hd ⟨ms++catL [cm,nm,⟨#[58,32]⟩,tb],?_,h.2.1,(HBV.out.trans (hb.mono (by omega))).trans h.2.2.1⟩⟩
    ·rw[HMS.out,←HNX.out]
     have h1:=paB_le ⟨#[40]⟩ l (j+1) n hlt
     have h2:=hM.out
     rw[ByteArray.size_append] at h2
     omega
    ·rw[str_cats,HMS.out,HNX.out]
   have HCN:Hid (commaB (j+1)=⟨#[44,32]⟩):=Hd (by unfold commaB;rw[if_pos (Nat.succ_pos j)])
   have mixed:prog.follows .mixedOrders=true:=by kernel_rfl
   clear a0 a1 hp htb
   go_upto_region 7 with (fail)
   rw[←hV]
   clear hV
   go_region_law (first
    | (refine step_call1 _ (by rfl) 41 #[.int .i64 ty] (by go_simp) _ (HTY.out _) ?_;rintro e1 w1 ⟨rfl,hb1⟩;refine⟨_,rfl,?_⟩;have HB1:Hid (Below V.heap.size V w1):=Hd ⟨hb1.out.os,hb1.out.tape,hb1.out.output,hb1.out.size,hb1.out.block⟩;have z0:=cell_below HB1.out v0)
    | (refine step_call1 _ (by rfl) 36 #[.pointer (some ⟨W0.heap.size,0,none⟩),.slice (some ⟨w1.heap.size,0,none⟩) 4 4] (by go_simp) _ (CP.out w1 HB1.out) ?_;rintro e2 w2 ⟨rfl,h2⟩;refine⟨_,rfl,?_⟩))
   all_goals (
    go_wp2_with fail
    exact⟨⟨j+1,by omega,by go_num,by rw[HCN.out],h2⟩,by simp[litLen];omega⟩)
  ·have q1:decide ((j:Int)<(n:Int))=false:=qF (by omega)
   obtain rfl:j=n:=by omega
   have C2:Hid (Calls prog 36 #[.pointer (some ⟨W0.heap.size,0,none⟩),.slice (some ⟨wr.heap.size,0,none⟩) 1 1] (wr.alloc (.cells #[.string ⟨#[41]⟩] 9)) fun r Y=>r=.returned (.tuple #[])∧Hid (∃m,str m=S∧IsWr W0.heap.size W0.heap.size (.slice none 0 0) (Lib.byteCells m) Y∧Below W0.heap.size W0 Y)):=Hd (by
    refine(put_new W0.heap.size W0.heap.size 1 (.slice none 0 0) ms [⟨#[41]⟩] rfl (by decide) wr HWR.out hbs ?_ (by omega)).mono fun r Y h=>⟨h.1,Hd ⟨ms++catL [⟨#[41]⟩],?_,h.2.1,HBL.out.trans h.2.2.1⟩⟩
    ·rw[HMS.out]
     have h2:=hM.out
     show(paB ⟨#[40]⟩ l j++⟨#[41]⟩).size≤_
     omega
    ·rw[str_cats,HMS.out,HS.out];rfl)
   go_wp2_with (first
    | (go_at_call 36;(with_reducible refine C2.out.mono ?_);rintro r w2 ⟨rfl,h2⟩;obtain⟨m2,e2,k2,l2⟩:=h2.out;have CS:=Hd (string_of W0.heap.size W0.heap.size (.slice none 0 0) m2 S w2 k2 e2 HS0.out);have L2:=Hd l2;clear e2 k2 l2)
    | (go_at_call 20;(with_reducible refine CS.out.mono ?_);rintro r w3 ⟨rfl,h3⟩))
   go_ret
   exact⟨rfl,L2.out.trans h3⟩
end Go.Proofs.YthpgfahlccljnaaGreatDoor
