import Derived.Test.YtlbhlncipajapaaGreatDoorPt05
import Derived.RangeFuncBox
import Derived.Deep.Slices
import Derived.Test.YtlbhlncipajapaaGreatDoorChecked
import Derived.Deep.Fields
import Derived.Deep.Strs
import Derived.SizedLaws
import Derived.Carry
import Derived.Lib.SmallJoins
import Derived.Lib.QuietBelow
set_option maxHeartbeats 16000000
set_option maxRecDepth 100000
open Go.Proofs.Tryz(prog)
namespace Go.Proofs.YtlbhlncipajapaaGreatDoor.Lx
open Go.RowKit
theorem int_info:(prog.info? 3).map (fun i=>(i.zero,i.size,i.bytes))=some (some (.int .i64 0),1,8):=by kernel_rfl
theorem wpList_append_int (w:World) {ops:Array Oper} {rest:List Oper} {o:Oper} {a:Act} {Q:Exit→Act→World→Prop}
  (hg:o.guard=none) (s x:Operand) (hop:o.op=Op.call { callee:=Callee.builtin Builtin.append,args:=#[s,x],argTypes:=#[44,44] })
  (base:Nat) (v:Value) (k:Nat) (xs:List Value) (hs:a.eval s=v) (hown:w.ownsRow base 3 1 v k xs) (ad:Addr) (news:List Value) (hx:a.eval x=.slice (some ad) 1 1) (hn:news.length=1*1)
  (hc:∀j u,news[j]?=some u→w.cell? (ad.add j)=some u) (h1c:∀u ∈ news,u.oneCell'=true) (hk:k≤40000) (b3:base≤w.heap.size)
  (hK:∀v' w',w'.ownsRow base 3 1 v' (k+1) (xs++news)→w.grownBy w' v.ownBlock→wpList prog ops Q rest (a.put o.dst v') w') :
  wpList prog ops Q (o :: rest) a w:=by
 obtain⟨i,h2,h3,h4,h5⟩:=info_parts int_info
 refine wpList_plain hg fun K hK'=>?_
 obtain⟨v',w',hrun,r1,r2,_⟩:=run_append_own (P:=prog) w base 44 o.type 3 i _ 1 8 Tryz.underlying44 h2 h3 h4 h5 rfl (by decide) v k xs hown ad 1 1 news hn hc h1c (by unfold maxLen;omega) (by omega) b3
 unfold Oper.wp execOp
 simp only[hop,resolve,invoke,builtin,Sem.run_bind,Sem.run_pure,Result.andThen_ok,List.map_toArray,List.map_cons,List.map_nil,hs,hx,hrun]
 exact hK' _ _ (hK v' w' r1 r2)
def cellI (c:UInt8):Value:=.int .i64 ((c.toNat-48:Nat):Int)
def IRow (w:World) (B:Nat) (l:List UInt8):Prop :=
 ∀(j:Nat) (x:UInt8),l[j]?=some x→w.cell? ⟨B,j,none⟩=some (cellI x)∧w.frozen? ⟨B,j,none⟩=false
theorem irow_set {w:World} {B:Nat} {l:List UInt8} (h:IRow w B l) (j:Nat) (x:UInt8) (hj:j<l.length):IRow (w.setCell ⟨B,j,none⟩ (cellI x)) B (l.set j x):=fun i y hy=>by
 obtain⟨x0,h0⟩:∃x0,l[j]?=some x0:=⟨l[j],List.getElem?_eq_getElem hj⟩
 refine⟨?_,by
  rw[World.frozen?_setCell]
  exact(h i (l[i]'(by have:=(List.getElem?_eq_some_iff.1 hy).1;simpa using this)) (List.getElem?_eq_getElem _)).2⟩
 by_cases e:i=j
 ·subst e
  rw[World.cell?_setCell_same _ _ _ (h i x0 h0).1]
  rw[List.getElem?_set_self hj] at hy
  cases hy
  rfl
 ·rw[World.cell?_setCell_other _ _ _ _ (by simp)]
  rw[List.getElem?_set_ne (Ne.symm e)] at hy
  exact(h i y hy).1
theorem irow_next {w:World} {R:Nat} {m:List UInt8} {j:Nat} {x:UInt8} (h:IRow w R (m.take (j+1)++dbl (m.drop (j+1)))) (hx:m[j]?=some x) (r:Nat) (hr:r=(2*(x.toNat-48)+cry (m.drop (j+1))) % 10) :
  IRow (w.setCell ⟨R,j,none⟩ (.int .i64 (r:Int))) R (m.take j++dbl (m.drop j)):=by
 have hj:j<m.length:=(List.getElem?_eq_some_iff.1 hx).1
 have hd:=drop_at hx
 have h4:=irow_set h j (dg r) (by simp;omega)
 have hv:cellI (dg r)=.int .i64 (r:Int):=by unfold cellI;rw[dg_val (by omega),Nat.add_sub_cancel_left]
 rw[hv] at h4
 have e1:(m.take (j+1)++dbl (m.drop (j+1))).set j (dg r)=m.take j++dbl (m.drop j):=by
  rw[take_at hx,List.append_assoc,List.set_append_right _ _ (by simp;omega),hd]
  have:j-(m.take j).length=0:=by simp;omega
  rw[this,hr]
  rfl
 rw[e1] at h4
 exact h4
theorem irow_of_owns {w:World} {base g n cap:Nat} {l:List UInt8} (h:w.ownsRow base 3 1 (.slice (some ⟨g,0,none⟩) n cap) n (l.map cellI)):IRow w g l:=fun j x hx=>by
 refine⟨?_,?_⟩
 ·have:=h.cells (g:=g) rfl j (cellI x) (by rw[List.getElem?_map,hx];rfl)
  have e:(⟨g,0,none⟩:Addr).add j=⟨g,j,none⟩:=by unfold Addr.add;split <;> simp_all
  rwa [e] at this
 ·rcases h.2 with ⟨h1,_⟩ | ⟨g',cap',cur,h1,_,hgg,_⟩
  ·cases h1
  ·cases h1
   exact Lib.frozen_of_heap hgg j
theorem size_plain (a:List UInt8) (n:Nat) (hn:Hid (a.length=n)) (hs:(str a).size=n) (n10:(n:Int)≤10) (hd:Hid (a.all isDig=true)) (V:Nat) (hV:Hid (numL a=V)) (vb:(V:Int)≤9999999999) (Z:Int) (ov:Bool) (hZ:Hid (V≤2147483648→Z=((V*4294967296:Nat):Int)∧ov=decide (9223372036854775808<V*4294967296))) (hZ2:Hid (¬V≤2147483648→Z=0∧ov=true)) (w:World) :
  Calls prog 80 #[.string (str a)] w fun e w'=>e=.returned (.tuple #[.int .u64 Z,.bool ov])∧Below w.heap.size w w':=by
 go_enter Tryz.func80,Tryz.ntmps80
 go_wp2_with fail
 go_loop [5,4] (fun x y=>∃k v:Nat,k≤n∧x=.int .i64 k∧y=.int .u64 (v:Int)∧Hid (v=numL (a.take k))) (fun x _=>n-litLen x)
 case atStart=>exact⟨0,0,by omega,rfl,rfl,Hd rfl⟩
 case round =>
  obtain⟨k,v,hk,rfl,rfl,hv⟩:=hrel
  rcases Nat.lt_or_ge k n with hlt | hge
  ·obtain⟨c,hc⟩:∃c,a[k]?=some c:=⟨a[k]'(by have:=hn.out;omega),List.getElem?_eq_getElem _⟩
   have hix:∀h,(str a)[k]'h=c:=fun h=>str_at a hc h
   have q3:decide ((k:Int)<(n:Int))=true:=qT (by omega)
   have hcd:=isDig_iff.1 (List.all_eq_true.1 hd.out c (List.mem_of_getElem? hc))
   have hnx:numL (a.take (k+1))=numL (a.take k)*10+(c.toNat-48):=by rw[take_at hc,numL_snoc]
   have h1:=numL_le _ (all_take hd.out k) (by rw[List.length_take];omega)
   have h2:=numL_le _ (all_take hd.out (k+1)) (by rw[List.length_take];omega)
   have hc46:c≠46:=fun e=>by rw[e] at hcd;revert hcd;decide
   obtain⟨k1,k2,k3,k4,k5⟩:=byte_ne hc46 46 rfl
   obtain⟨X,hX⟩:∃X,X=c.toNat:=⟨_,rfl⟩
   rw[←hX] at hcd hnx k3 k4 k5
   obtain⟨y,hy⟩:∃y,y=X-48:=⟨_,rfl⟩
   rw[←hy] at hnx
   have hv':=hv.out
   rw[←hv'] at hnx h1
   obtain⟨v2,hv2⟩:∃v2,v2=numL (a.take (k+1)):=⟨_,rfl⟩
   rw[←hv2] at hnx h2
   have V2:=Hd hv2
   have e0:(X:Int)-48=(y:Int):=by omega
   have e1:10*(v:Int)+(y:Int)=(v2:Int):=by omega
   have e1':(v:Int)*10+(y:Int)=(v2:Int):=by omega
   have b0:(48:Int)≤(X:Int):=by omega
   have b1:(X:Int)≤57:=by omega
   have b2:(v:Int)≤9999999999:=by omega
   have b3:(v2:Int)≤9999999999:=by omega
   have b4:(y:Int)≤9:=by omega
   have hX2:c.toNat=X:=hX.symm
   clear hX hy hv2 hnx h1 h2 hcd hc hv' hc46 hv
   go_wp2_with fail
   exact⟨⟨k+1,v2,by omega,rfl,rfl,V2⟩,by simp[litLen];omega⟩
  ·have q3:decide ((k:Int)<(n:Int))=false:=qF (by omega)
   obtain rfl:v=V:=by rw[hv.out,show k=a.length by rw[hn.out];omega,List.take_length,hV.out]
   clear hv
   obtain rfl:k=n:=by omega
   go_wp2_with fail
   go_loop [5,6] (fun i s=>i=.int .i64 ((k:Int)+1)∧s=.slice none 0 0) (fun _ _=>0)
   case atStart=>exact⟨rfl,rfl⟩
   case round =>
    obtain⟨rfl,rfl⟩:=hrel
    have q4:decide ((k:Int)+1<(k:Int))=false:=qF (by omega)
    by_cases hg:(2147483648:Int)<(v:Int)
    ·have q5:decide ((2147483648:Int)<(v:Int))=true:=qT hg
     have E:=Hd (hZ2.out (by omega))
     go_wp2_with fail
     go_ret2
     exact⟨by rw[E.out.1,E.out.2];rfl,qB _ _⟩
    ·have q5:decide ((2147483648:Int)<(v:Int))=false:=qF hg
     have E:=Hd (hZ.out (by omega))
     go_wp2_with fail
     go_loop [8,7] (fun i u=>∃κ U:Nat,κ≤32∧i=.int .i64 κ∧u=.int .u64 (U:Int)∧Hid (U=v*2 ^ κ)) (fun i _=>32-litLen i)
     case atStart=>exact⟨0,v,by omega,rfl,rfl,Hd (by simp)⟩
     case round =>
      obtain⟨κ,U,hκ,rfl,rfl,hU⟩:=hrel
      rcases Nat.lt_or_ge κ 32 with hlt2 | hge2
      ·have q6:decide ((κ:Int)<32)=true:=qT (by omega)
       have hb:Hid (U≤4611686018427387904):=Hd (by
        rw[hU.out]
        have h1:2 ^ κ≤2 ^ 31:=Nat.pow_le_pow_right (by omega) (by omega)
        have h2:=Nat.mul_le_mul (show v≤2147483648 by omega) h1
        omega)
       obtain⟨U2,hU2⟩:∃U2,U2=2*U:=⟨_,rfl⟩
       have e1:2*(U:Int)=(U2:Int):=by omega
       have ub:(U2:Int)≤9223372036854775808:=by have:=hb.out;omega
       have HU2:=Hd (show U2=v*2 ^ (κ+1) by rw[hU2,hU.out,Nat.pow_succ];exact(Nat.mul_comm _ _).trans (Nat.mul_assoc _ _ _))
       clear hU2 hU hb
       go_wp2_with fail
       go_loop [10,9] (fun t c=>t=.int .i64 (-1)∧c=.int .i64 0) (fun _ _=>0)
       case atStart=>exact⟨rfl,rfl⟩
       case round =>
        obtain⟨rfl,rfl⟩:=hrel
        go_wp2_with fail
        exact⟨⟨κ+1,U2,by omega,rfl,rfl,HU2⟩,by simp[litLen];omega⟩
      ·have q6:decide ((κ:Int)<32)=false:=qF (by omega)
       obtain rfl:κ=32:=by omega
       have hE:=E.out
       have hU':=hU.out
       rw[show(2:Nat) ^ 32=4294967296 from rfl] at hU'
       rw[←hU'] at hE
       by_cases ho:(9223372036854775808:Int)<(U:Int)
       ·have q7:decide ((9223372036854775808:Int)<(U:Int))=true:=qT ho
        obtain⟨rfl,hov⟩:=hE
        rw[qT (by omega)] at hov
        subst hov
        clear hU hU'
        go_wp2_with fail
        go_ret2
        exact⟨rfl,qB _ _⟩
       ·have q7:decide ((9223372036854775808:Int)<(U:Int))=false:=qF ho
        obtain⟨rfl,hov⟩:=hE
        rw[qF (by omega)] at hov
        subst hov
        clear hU hU'
        go_wp2_with fail
        go_ret2
        exact⟨rfl,qB _ _⟩
theorem size_point (t a b:List UInt8) (n p q':Nat) (hn:Hid (a.length=p)) (hqb:Hid (b.length=q'+1)) (hA:Hid (∀(j:Nat) (c:UInt8),a[j]?=some c→t[j]?=some c)) (hP:Hid (t[p]?=some 46)) (hB:Hid (∀(j:Nat) (c:UInt8),b[j]?=some c→t[p+1+j]?=some c)) (hs:(str t).size=n) (en:Hid ((n:Int)=(p:Int)+1+(q':Int)+1)) (nb:(n:Int)≤100) (n10:(p:Int)≤10) (q40:(q':Int)≤39) (hd:Hid (a.all isDig=true)) (hdb:Hid (b.all isDig=true)) (V:Nat) (hV:Hid (numL a=V)) (vb:(V:Int)≤9999999999) (Z:Int) (ov:Bool) (hZ:Hid (V≤2147483648→Z=((V*4294967296+bitsL b:Nat):Int)∧ov=decide (9223372036854775808<V*4294967296+bitsL b))) (hZ2:Hid (¬V≤2147483648→Z=0∧ov=true)) (w:World) :
  Calls prog 80 #[.string (str t)] w fun e w'=>e=.returned (.tuple #[.int .u64 Z,.bool ov])∧Below w.heap.size w w':=by
 go_enter Tryz.func80,Tryz.ntmps80
 go_wp2_with fail
 go_loop [5,4] (fun x y=>∃k v:Nat,k≤p∧x=.int .i64 k∧y=.int .u64 (v:Int)∧Hid (v=numL (a.take k))) (fun x _=>p-litLen x)
 case atStart=>exact⟨0,0,by omega,rfl,rfl,Hd rfl⟩
 case round =>
  obtain⟨k,v,hk,rfl,rfl,hv⟩:=hrel
  rcases Nat.lt_or_ge k p with hlt | hge
  ·obtain⟨c,hc⟩:∃c,a[k]?=some c:=⟨a[k]'(by have:=hn.out;omega),List.getElem?_eq_getElem _⟩
   have hix:∀h,(str t)[k]'h=c:=fun h=>str_at t (hA.out k c hc) h
   have kn:(k:Int)<(n:Int):=by have:=en.out;omega
   have q3:decide ((k:Int)<(n:Int))=true:=qT (by have:=en.out;omega)
   have hcd:=isDig_iff.1 (List.all_eq_true.1 hd.out c (List.mem_of_getElem? hc))
   have hnx:numL (a.take (k+1))=numL (a.take k)*10+(c.toNat-48):=by rw[take_at hc,numL_snoc]
   have h1:=numL_le _ (all_take hd.out k) (by rw[List.length_take];omega)
   have h2:=numL_le _ (all_take hd.out (k+1)) (by rw[List.length_take];omega)
   have hc46:c≠46:=fun e=>by rw[e] at hcd;revert hcd;decide
   obtain⟨k1,k2,k3,k4,k5⟩:=byte_ne hc46 46 rfl
   obtain⟨X,hX⟩:∃X,X=c.toNat:=⟨_,rfl⟩
   rw[←hX] at hcd hnx k3 k4 k5
   obtain⟨y,hy⟩:∃y,y=X-48:=⟨_,rfl⟩
   rw[←hy] at hnx
   have hv':=hv.out
   rw[←hv'] at hnx h1
   obtain⟨v2,hv2⟩:∃v2,v2=numL (a.take (k+1)):=⟨_,rfl⟩
   rw[←hv2] at hnx h2
   have V2:=Hd hv2
   have e0:(X:Int)-48=(y:Int):=by omega
   have e1:10*(v:Int)+(y:Int)=(v2:Int):=by omega
   have e1':(v:Int)*10+(y:Int)=(v2:Int):=by omega
   have b0:(48:Int)≤(X:Int):=by omega
   have b1:(X:Int)≤57:=by omega
   have b2:(v:Int)≤9999999999:=by omega
   have b3:(v2:Int)≤9999999999:=by omega
   have b4:(y:Int)≤9:=by omega
   have hX2:c.toNat=X:=hX.symm
   clear hX hy hv2 hnx h1 h2 hcd hc hv' hc46 hv
   go_wp2_with fail
   exact⟨⟨k+1,v2,by omega,rfl,rfl,V2⟩,by simp[litLen];omega⟩
  ·obtain rfl:v=V:=by rw[hv.out,show k=a.length by rw[hn.out];omega,List.take_length,hV.out]
   clear hv
   obtain rfl:k=p:=by omega
   have q3:decide ((k:Int)<(n:Int))=true:=qT (by have:=en.out;omega)
   have kn:(k:Int)<(n:Int):=by have:=en.out;omega
   obtain⟨d,hd46⟩:∃d:UInt8,d=46:=⟨_,rfl⟩
   have hixp:∀h,(str t)[k]'h=d:=fun h=>str_at t (by rw[hd46];exact hP.out) h
   have k1:(d !=46)=false:=by rw[hd46];rfl
   have k2:((d.toNat:Int) !=46)=false:=by rw[hd46];rfl
   have k3:(d.toNat:Int)=46:=by rw[hd46];rfl
   clear hd46
   go_wp2_with fail
   go_loopw [5,6] (fun i s wr=>∃j x:Nat,j≤q'+1∧Hid ((x:Int)=(k:Int)+1+(j:Int))∧i=.int .i64 x∧Hid (wr.ownsRow w.heap.size 3 1 s j ((b.take j).map cellI))∧Hid (Below w.heap.size w wr)) (fun i _ _=>n-litLen i)
   case atStart=>exact⟨0,k+1,by omega,Hd (by omega),rfl,Hd (qO _ _ _ _),Hd (qB _ _)⟩
   case round =>
    obtain⟨j,x,hj,hx,rfl,hO,hBw⟩:=hrel
    rcases Nat.lt_or_ge j (q'+1) with hjl | hjg
    ·have q4:decide ((x:Int)<(n:Int))=true:=qT (by have:=hx.out;have:=en.out;omega)
     have xn:(x:Int)<(n:Int):=by have:=hx.out;have:=en.out;omega
     obtain⟨c,hc⟩:∃c,b[j]?=some c:=⟨b[j]'(by have:=hqb.out;omega),List.getElem?_eq_getElem _⟩
     have hix:∀h,(str t)[x]'h=c:=fun h=>str_at t (by rw[show x=k+1+j by have:=hx.out;omega];exact hB.out j c hc) h
     have hcd:=isDig_iff.1 (List.all_eq_true.1 hdb.out c (List.mem_of_getElem? hc))
     have HT:=Hd (take_at hc)
     obtain⟨X,hX⟩:∃X,X=c.toNat:=⟨_,rfl⟩
     rw[←hX] at hcd
     obtain⟨y,hy⟩:∃y,y=X-48:=⟨_,rfl⟩
     have HY:Hid (cellI c=.int .i64 (y:Int)):=Hd (by unfold cellI;rw[←hX,hy])
     have e0:(X:Int)-48=(y:Int):=by omega
     have b0:(48:Int)≤(X:Int):=by omega
     have b1:(X:Int)≤57:=by omega
     have hX2:c.toNat=X:=hX.symm
     clear hX hy hcd hc
     go_wp2_with (at_builtin;refine wpList_append_int _ rfl _ _ rfl w.heap.size _ j _ rfl (hO.out.alloc _) ⟨wr.heap.size,0,none⟩ [.int .i64 (y:Int)] rfl rfl (cell_one_new _ _ _) (by simp[Value.oneCell']) (by omega) (by have:=hBw.out.size;simp;omega) ?_;intro v' w3 hown' hgrow;have G1:=Hd hown';have G2:=Hd ((hBw.out.alloc hBw.out.size (.cells #[.int .i64 (y:Int)] 3)).grown hgrow (by have:=hBw.out.size;simp;omega) (fun k hk=>(hO.out.lt k hk).1));clear hown' hgrow)
     exact⟨⟨j+1,x+1,by omega,Hd (by have:=hx.out;omega),rfl,Hd (by rw[HT.out,List.map_append,List.map_singleton,HY.out];exact G1.out),G2⟩,by simp[litLen];omega⟩
    ·have q4:decide ((x:Int)<(n:Int))=false:=qF (by have:=hx.out;have:=en.out;omega)
     have xg:(n:Int)≤(x:Int):=by have:=hx.out;have:=en.out;omega
     obtain rfl:j=q'+1:=by omega
     obtain⟨g,cap,rfl⟩:=ownsRow_succ hO.out
     have HI:Hid (IRow wr g b):=Hd (by
      have:=hO.out
      rw[List.take_of_length_le (by rw[hqb.out];exact qL _)] at this
      exact irow_of_owns this)
     have HG:=Hd (hO.out.lt g rfl).1
     obtain⟨q,hq⟩:∃q,q=q'+1:=⟨_,rfl⟩
     rw[←hq]
     have qb:(q:Int)≤40:=by omega
     have hqe:Hid (b.length=q):=Hd (by rw[hqb.out,hq])
     have cq:((q':Int)+1)=(q:Int):=by omega
     clear hO hq
     by_cases hg:(2147483648:Int)<(v:Int)
     ·have q5:decide ((2147483648:Int)<(v:Int))=true:=qT hg
      have E:=Hd (hZ2.out (by omega))
      go_wp2_with fail
      go_ret2
      exact⟨by rw[E.out.1,E.out.2];rfl,hBw.out⟩
     ·have q5:decide ((2147483648:Int)<(v:Int))=false:=qF hg
      have E:=Hd (hZ.out (by omega))
      go_wp2_with fail
      go_loopw [8,7] (fun i u wr=>∃(κ U B:Nat) (m:List UInt8),κ≤32∧i=.int .i64 κ∧u=.int .u64 (U:Int)∧Hid (U=v*2 ^ κ+B)∧Hid (DblAt b κ m B)∧Hid (IRow wr g m)∧Hid (Below w.heap.size w wr)) (fun i _ _=>32-litLen i)
      case atStart=>exact⟨0,v,0,b,by omega,rfl,rfl,Hd (by simp),Hd (dblAt_zero b hdb.out),HI,hBw⟩
      case round =>
       obtain⟨κ,U,B,m,hκ,rfl,rfl,hU,hD,hR,hBb⟩:=hrel
       rcases Nat.lt_or_ge κ 32 with hlt2 | hge2
       ·have q6:decide ((κ:Int)<32)=true:=qT (by omega)
        have hml:Hid (m.length=q):=Hd (by rw[hD.out.2.1];exact hqe.out)
        have hub:Hid (U≤4611686020574871552):=Hd (by
         have h0:=dblAt_lt hD.out hdb.out
         rw[hU.out]
         have h1:2 ^ κ≤2 ^ 31:=Nat.pow_le_pow_right (by omega) (by omega)
         have h2:=Nat.mul_le_mul (show v≤2147483648 by omega) h1
         omega)
        obtain⟨U1,hU1⟩:∃U1,U1=2*U:=⟨_,rfl⟩
        have e1:2*(U:Int)=(U1:Int):=by omega
        have ub:(U1:Int)≤9223372041149743104:=by have:=hub.out;omega
        have HU1:=Hd hU1
        clear hU1
        go_wp2_with fail
        go_loopw [10,9] (fun t c wi=>∃j C:Nat,j≤q∧t=.int .i64 ((j:Int)-1)∧c=.int .i64 (C:Int)∧(C:Int)≤1∧Hid (C=cry (m.drop j))∧Hid (IRow wi g (m.take j++dbl (m.drop j)))∧Hid (Below w.heap.size w wi)) (fun t _ _=>(intOf t+1).toNat)
        case atStart =>
         exact⟨q,0,qL _,rfl,rfl,by omega,Hd (by rw[List.drop_of_length_le (by rw[hml.out];exact qL _)];rfl),Hd (by rw[List.take_of_length_le (by rw[hml.out];exact qL _),List.drop_of_length_le (by rw[hml.out];exact qL _),show dbl []=[] from rfl,List.append_nil];exact hR.out),hBb⟩
        case round =>
         obtain⟨j,C,hj,rfl,rfl,hC1,hC,hI,hBi⟩:=hrel
         rcases j with _ | j
         ·obtain⟨U2,hU2⟩:∃U2,U2=U1+C:=⟨_,rfl⟩
          have e2:(U1:Int)+(C:Int)=(U2:Int):=by omega
          have ub2:(U2:Int)≤9223372041149743105:=by omega
          have c0:(0:Int)≤(C:Int):=by omega
          have HU2:Hid (U2=v*2 ^ (κ+1)+(2*B+cry m)):=Hd (by
           have h1:=hC.out
           rw[List.drop_zero] at h1
           have h2:v*2 ^ (κ+1)=2*(v*2 ^ κ):=by rw[Nat.pow_succ];exact((Nat.mul_comm _ _).trans (Nat.mul_assoc _ _ _)).symm
           rw[hU2,HU1.out,hU.out,h2,h1]
           omega)
          clear hU2
          go_wp2_with fail
          exact⟨⟨κ+1,U2,2*B+cry m,dbl m,by omega,rfl,rfl,HU2,Hd (dblAt_next hD.out),Hd (by have:=hI.out;rw[List.take_zero,List.drop_zero,List.nil_append] at this;exact this),hBi⟩,by simp[litLen];omega⟩
         ·have hj2:j<m.length:=by rw[hml.out];omega
          obtain⟨x',hx'⟩:∃x',m[j]?=some x':=⟨m[j],List.getElem?_eq_getElem hj2⟩
          have hxd:=isDig_iff.1 (List.all_eq_true.1 hD.out.1 x' (List.mem_of_getElem? hx'))
          have hxr:(m.take (j+1)++dbl (m.drop (j+1)))[j]?=some x':=by
           rw[List.getElem?_append_left (by simp;omega),List.getElem?_take,if_pos (by omega),hx']
          obtain⟨c1o,f1⟩:=hI.out j x' hxr
          obtain⟨y,hy⟩:∃y,y=x'.toNat-48:=⟨_,rfl⟩
          have c1:wr.cell? ⟨g,j,none⟩=some (.int .i64 (y:Int)):=by rw[c1o];unfold cellI;rw[hy]
          obtain⟨T,hT⟩:∃T,T=2*y+C:=⟨_,rfl⟩
          obtain⟨s,hs'⟩:∃s,s=T / 10:=⟨_,rfl⟩
          obtain⟨r,hr⟩:∃r,r=T % 10:=⟨_,rfl⟩
          have HN:=Hd (irow_next hI.out hx' r (by rw[hr,hT,hy,hC.out]))
          have HC2:Hid (s=cry (m.drop j)):=Hd (by rw[hs',hT,hy,hC.out,drop_at hx'];rfl)
          have y9:(y:Int)≤9:=by omega
          have y0:(0:Int)≤(y:Int):=by omega
          have e2:2*(y:Int)+(C:Int)=(T:Int):=by omega
          have t19:(T:Int)≤19:=by omega
          have e3:(T:Int) / 10=(s:Int):=by omega
          have e4:(T:Int) % 10=(r:Int):=by omega
          have e5:Int.tdiv (T:Int) 10=(s:Int):=by rw[Int.tdiv_eq_ediv_of_nonneg (by omega)];exact e3
          have e6:Int.tmod (T:Int) 10=(r:Int):=by rw[Int.tmod_eq_emod_of_nonneg (by omega)];exact e4
          have s1:(s:Int)≤1:=by omega
          have r9:(r:Int)≤9:=by omega
          have jq:(j:Int)<(q:Int):=by omega
          have q7:decide ((0:Int)≤(j:Int))=true:=qT (by omega)
          clear hy hT hs' hr hxr hx' hxd hj2 c1o
          rw[show((j+1:Nat):Int)-1=(j:Int) by omega]
          go_wp2_with fail
          exact⟨⟨j,s,by omega,rfl,rfl,s1,HC2,HN,Hd (hBi.out.setCell (p:=⟨g,j,none⟩) HG.out _)⟩,by simp[intOf]⟩
       ·have q6:decide ((κ:Int)<32)=false:=qF (by omega)
        obtain rfl:κ=32:=by omega
        have hE:=E.out
        have hU':=hU.out
        rw[show(2:Nat) ^ 32=4294967296 from rfl,dblAt_end hD.out] at hU'
        rw[←hU'] at hE
        by_cases ho:(9223372036854775808:Int)<(U:Int)
        ·have q7:decide ((9223372036854775808:Int)<(U:Int))=true:=qT ho
         obtain⟨rfl,hov⟩:=hE
         rw[qT (by omega)] at hov
         subst hov
         clear hU hU'
         go_wp2_with fail
         go_ret2
         exact⟨rfl,hBb.out⟩
        ·have q7:decide ((9223372036854775808:Int)<(U:Int))=false:=qF ho
         obtain⟨rfl,hov⟩:=hE
         rw[qF (by omega)] at hov
         subst hov
         clear hU hU'
         go_wp2_with fail
         go_ret2
         exact⟨rfl,hBb.out⟩
theorem ref_size:RefSize:=fun t ht W=>by
 obtain⟨h1,h2,h3,h4,h5⟩:=litL_parts ht
 have hv:=numL_le (ahead t) h3 h2
 have hZ:numL (ahead t)≤2147483648→((readL t).1:Int)=((numL (ahead t)*4294967296+bitsL (behind t):Nat):Int)∧(!(readL t).2)=decide (9223372036854775808<numL (ahead t)*4294967296+bitsL (behind t)):=fun h=>by
  unfold readL
  rw[if_pos ⟨ht,h⟩]
  refine⟨by simp only[sizeL],?_⟩
  show(!decide (numL (ahead t)*4294967296+bitsL (behind t)≤9223372036854775808))=_
  by_cases hh:numL (ahead t)*4294967296+bitsL (behind t)≤9223372036854775808
  ·rw[qT hh,qF (by omega)];rfl
  ·rw[qF hh,qT (by omega)];rfl
 have hZ2:¬numL (ahead t)≤2147483648→((readL t).1:Int)=0∧(!(readL t).2)=true:=fun h=>by
  unfold readL
  rw[if_neg (fun hh=>h hh.2)]
  exact⟨by simp,by simp⟩
 rcases part_cases t with hp | ⟨a,b,rfl,hp⟩
 ·rw[behind_none t hp,ahead_none t hp] at *
  have e0:bitsL []=0:=by unfold bitsL;rfl
  rw[e0,Nat.add_zero] at hZ
  exact size_plain t _ (Hd rfl) (str_size t) (by omega) (Hd h3) _ (Hd rfl) (by omega) _ _ (Hd hZ) (Hd hZ2) W
 ·have hl:=ht
  rw[behind_point a b hp,ahead_point a b hp] at *
  have hb1:1≤b.length:=by
   unfold litL digitsL at hl
   have hpt:pointed (a++46 :: b)=true:=by unfold pointed;simp
   rw[behind_point a b hp,ahead_point a b hp,hpt] at hl
   simp only[Bool.and_eq_true,decide_eq_true_eq,Bool.not_true,Bool.false_or] at hl
   exact hl.2.2.1
  exact size_point (a++46 :: b) a b _ a.length (b.length-1) (Hd rfl) (Hd (by omega)) (Hd fun j c h=>by rw[List.getElem?_append_left (List.getElem?_eq_some_iff.1 h).1];exact h) (Hd (by rw[List.getElem?_append_right (qL _)];simp)) (Hd fun j c h=>by rw[List.getElem?_append_right (by omega),show a.length+1+j-a.length=j+1 by omega];exact h) (str_size _) (Hd (by simp only[List.length_append,List.length_cons];omega)) (by simp only[List.length_append,List.length_cons];omega) (by omega) (by omega) (Hd h3) (Hd h5) _ (Hd rfl) (by omega) _ _ (Hd hZ) (Hd hZ2) W
end Go.Proofs.YtlbhlncipajapaaGreatDoor.Lx
namespace Go.Proofs.YtlbhlncipajapaaGreatDoor.Lx

end Go.Proofs.YtlbhlncipajapaaGreatDoor.Lx
namespace Go.Proofs.YtlbhlncipajapaaGreatDoor
structure Ex where
 kind:Int
 a:Int
 b:Int
 c:Int
 name:ByteArray
 state:ByteArray
 v:Int
 args:List Int
 pos:Int
structure It where
 kind:Int
 name:ByteArray
 type:Int
 e:Int
 f:Int
 states:List ByteArray
 state:ByteArray
 next:ByteArray
 pos:Int
structure Pa where
 name:ByteArray
 type:Int
structure De where
 kind:Int
 name:ByteArray
 params:List Pa
 items:List It
 type:Int
 e:Int
 pos:Int
structure Pr where
 decls:List De
 exprs:List Ex
def manyOf (k:Int):Nat:=if k=4∨k=5∨k=16∨k=21 then 1 else if(6≤k∧k≤14)∨k=17∨k=18 then 2 else if k=15 then 3 else 0
def partsE (x:Ex):List Int:=if x.kind=19 then x.args else [x.a,x.b,x.c].take (manyOf x.kind)
def mostV (k:Int):Int:=if k=1 then 9223372036854775807 else if k=2 then 1 else 0
def namedK (k:Int):Bool:=decide (k=3)||decide (k=19)||decide (k=20)
def mayE (x:Ex) (i:Nat):Bool :=
 decide (1≤x.kind)&&decide (x.kind≤21)&&(partsE x).all (fun p=>decide (0≤p)&&decide (p<(i:Int)))&&([x.a,x.b,x.c].drop (manyOf x.kind)).all (fun p=>decide (p=0)) &&
 (namedK x.kind ==decide (x.name.size≠0))&&(decide (x.kind=20) ==decide (x.state.size≠0))&&(decide (x.kind=19)||decide (x.args.length=0))&&decide (0≤x.v)&&decide (x.v≤mostV x.kind)
def hasVal (k:Int):Bool:=decide (k=1)||decide (k=2)
def hasE (k:Int):Bool:=decide (k=1)||decide (k=4)||decide (k=2)||decide (k=3)||decide (k=5)
def hasF (k:Int):Bool:=decide (k=2)||decide (k=3)||decide (k=5)||decide (k=7)
def standsE (n:Nat) (has:Bool) (e:Int):Bool:=if has then decide (0≤e)&&decide (e<(n:Int)) else decide (e=0)
def mayI (n:Nat) (x:It):Bool:=standsE n (hasE x.kind) x.e&&standsE n (hasF x.kind) x.f
def mayD (n:Nat) (d:De):Bool:=standsE n (hasVal d.kind) d.e&&d.items.all (mayI n)
def mayX (l:List Ex) (i:Nat):Bool:=match l[i]? with | some x=>mayE x i | none=>true
def mayP (p:Pr):Bool:=(List.range p.exprs.length).all (mayX p.exprs)&&p.decls.all (mayD p.exprs.length)
end Go.Proofs.YtlbhlncipajapaaGreatDoor
namespace Go.Proofs.YtlbhlncipajapaaGreatDoor
open Lx
structure RS where
 at_:Nat
 exprs:List Ex
 deep:Int
 code:Int
 pos:Int
def tokL (ts:List Tok) (i:Nat):Tok:=ts.getD i ⟨0,[],0,0⟩
def isS (ts:List Tok) (s:List UInt8) (σ:RS):Bool :=
 decide (σ.code=0)&&((decide ((tokL ts σ.at_).kind=3)||decide ((tokL ts σ.at_).kind=4))&&(tokL ts σ.at_).text ==s)
def failS (ts:List Tok) (e:Int) (σ:RS):RS:=if σ.code=0 then { σ with code:=e,pos:=((tokL ts σ.at_).at_:Int) } else σ
def stepS (σ:RS):RS:={ σ with at_:=σ.at_+1 }
def tookS (ts:List Tok) (s:List UInt8) (σ:RS):RS:=if isS ts s σ=true then stepS σ else σ
def wantS (ts:List Tok) (s:List UInt8) (σ:RS):RS:=if isS ts s σ=true then stepS σ else failS ts 2 σ
def nameB (ts:List Tok) (σ:RS):Bool:=decide (σ.code=0)&&decide ((tokL ts σ.at_).kind=1)
def nameS (ts:List Tok) (σ:RS):RS:=if nameB ts σ=true then stepS σ else failS ts 2 σ
def nameV (ts:List Tok) (σ:RS):List UInt8:=if nameB ts σ=true then(tokL ts σ.at_).text else []
def putS (x:Ex) (σ:RS):RS:={ σ with exprs:=σ.exprs++[x] }
def levelsL:List (List UInt8×Int×Int):=[([111,114],1,14),([97,110,100],2,13),([60],3,10),([60,61],3,11),([61,61],3,12),([43],4,6),([45],4,7),([42],5,8),([47],5,9)]
def levelIn (ts:List Tok) (σ:RS) (l:List (List UInt8×Int×Int)):Int×Int:=match l.find? fun p=>isS ts p.1 σ with | some p=>p.2 | none=>(0,0)
def levelS (ts:List Tok) (σ:RS):Int×Int:=levelIn ts σ levelsL
def tooDeep (σ:RS):Bool:=decide (σ.code=0)&&decide (σ.deep=30)
def enterS (ts:List Tok) (σ:RS):RS:=let x:=if tooDeep σ=true then failS ts 3 σ else σ;{ x with deep:=x.deep+1 }
def leaveS (σ:RS):RS:={ σ with deep:=σ.deep-1 }
def okS (σ:RS):Bool:=decide (σ.exprs.length≤40000)&&(decide (0≤σ.deep)&&decide (σ.deep≤30))
def prefixL:List (List UInt8×Int):=[([45],4),([110,111,116],5),([112,114,101],16),([115,113,114,116],21)]
def prefixK (ts:List Tok) (σ:RS) (l:List (List UInt8×Int)):Int:=match l.find? fun p=>isS ts p.1 σ with | some p=>p.2 | none=>0
def ex0:Ex:=⟨0,0,0,0,⟨#[]⟩,⟨#[]⟩,0,[],0⟩
inductive Job where
 | expr
 | pre
 | atom
 | bin (least:Nat)
 | loop (least:Nat) (a:Int)
 | args (acc:List Int)
abbrev Ans:=Option (Int×List Int×RS)
def putA (x:Ex) (σ:RS) (K:Int→RS→Ans):Ans:=if okS σ=true then K (σ.exprs.length:Int) (putS x σ) else none
def atomG (ts:List Tok) (F:Job→RS→Ans) (σ:RS):Ans :=
 let t:=tokL ts σ.at_
 let p:Int:=(t.at_:Int)
 if t.kind=2 then putA { ex0 with kind:=1,v:=t.v,pos:=p } (stepS σ) fun n y=>some (n,[],y) else
 if isS ts [116,114,117,101] σ=true then putA { ex0 with kind:=2,v:=1,pos:=p } (stepS σ) fun n y=>some (n,[],y) else
 if isS ts [102,97,108,115,101] σ=true then putA { ex0 with kind:=2,pos:=p } (stepS σ) fun n y=>some (n,[],y) else
 if t.kind=1 then
  let x:=stepS σ
  if isS ts [105,115] x=true then putA { ex0 with kind:=20,name:=str t.text,state:=str (nameV ts (stepS x)),pos:=p } (nameS ts (stepS x)) fun n y=>some (n,[],y) else
  if isS ts [40] x=true then
   let y:=stepS x
   if isS ts [41] y=true then putA { ex0 with kind:=19,name:=str t.text,pos:=p } (stepS y) fun n z=>some (n,[],z) else
   (F .expr y).bind fun r=>(F (.args [r.1]) r.2.2).bind fun q=>putA { ex0 with kind:=19,name:=str t.text,args:=q.2.1,pos:=p } (wantS ts [41] q.2.2) fun n z=>some (n,[],z)
  else putA { ex0 with kind:=3,name:=str t.text,pos:=p } x fun n y=>some (n,[],y)
 else(F .expr (wantS ts [40] σ)).bind fun r=>some (r.1,[],wantS ts [41] r.2.2)
def preG (ts:List Tok) (F:Job→RS→Ans) (σ:RS):Ans :=
 let x:=enterS ts σ
 if x.code=0 then
  let p:Int:=((tokL ts x.at_).at_:Int)
  let k:=prefixK ts x prefixL
  if k=0 then(F .atom x).bind fun r=>if okS r.2.2=true then some (r.1,[],leaveS r.2.2) else none
  else(F .pre (stepS x)).bind fun r=>putA { ex0 with kind:=k,a:=r.1,pos:=p } r.2.2 fun n y=>some (n,[],leaveS y)
 else some (0,[],leaveS x)
def exprG (ts:List Tok) (F:Job→RS→Ans) (σ:RS):Ans :=
 let x:=enterS ts σ
 if x.code=0 then
  let p:Int:=((tokL ts x.at_).at_:Int)
  if isS ts [105,102] x=true then
   (F .expr (stepS x)).bind fun a=>(F .expr (wantS ts [116,104,101,110] a.2.2)).bind fun b=>(F .expr (wantS ts [101,108,115,101] b.2.2)).bind fun c =>
    putA { ex0 with kind:=15,a:=a.1,b:=b.1,c:=c.1,pos:=p } c.2.2 fun n y=>some (n,[],leaveS y)
  else(F (.bin 1) x).bind fun o =>
   let y:=o.2.2
   let q:Int:=((tokL ts y.at_).at_:Int)
   if isS ts [45,62] y=true then(F .expr (stepS y)).bind fun b=>putA { ex0 with kind:=17,a:=o.1,b:=b.1,pos:=q } b.2.2 fun n z=>some (n,[],leaveS z)
   else if isS ts [102,98,121] y=true then(F .expr (stepS y)).bind fun b=>putA { ex0 with kind:=18,a:=o.1,b:=b.1,pos:=q } b.2.2 fun n z=>some (n,[],leaveS z)
   else if okS y=true then some (o.1,[],leaveS y) else none
 else some (0,[],leaveS x)
def binG (F:Job→RS→Ans) (least:Nat) (σ:RS):Ans:=if 5<least then F .pre σ else(F (.bin (least+1)) σ).bind fun a=>F (.loop least a.1) a.2.2
def loopG (ts:List Tok) (F:Job→RS→Ans) (least:Nat) (a:Int) (σ:RS):Ans :=
 if σ.code=0 then
  if(levelS ts σ).1=(least:Int) then
   (F (.bin (least+1)) (stepS σ)).bind fun b=>putA { ex0 with kind:=(levelS ts σ).2,a:=a,b:=b.1,pos:=((tokL ts σ.at_).at_:Int) } b.2.2 fun n y =>
    if least=3 then some (n,[],y) else F (.loop least n) y
  else some (a,[],σ)
 else some (a,[],σ)
def argsG (ts:List Tok) (F:Job→RS→Ans) (acc:List Int) (σ:RS):Ans :=
 if acc.length≤40000 then if isS ts [44] σ=true then(F .expr (stepS σ)).bind fun r=>F (.args (acc++[r.1])) r.2.2 else some (0,acc,σ) else none
def runE (ts:List Tok):Nat→Job→RS→Ans
 | 0,_,_=>none
 | f+1,j,σ=>if okS σ=true then match j with
  | .expr=>exprG ts (runE ts f) σ
  | .pre=>preG ts (runE ts f) σ
  | .atom=>atomG ts (runE ts f) σ
  | .bin least=>binG (runE ts f) least σ
  | .loop least a=>loopG ts (runE ts f) least a σ
  | .args acc=>argsG ts (runE ts f) acc σ else none
def EndOk (ts:List Tok):Prop:=0<ts.length∧∀i t,ts[i]?=some t→(i+1=ts.length↔t.kind=5)
theorem EndOk.next {ts:List Tok} (h:EndOk ts) {i:Nat} (hi:i<ts.length) (hk:(tokL ts i).kind≠5):i+1<ts.length:=by
 have h1:ts[i]?=some (tokL ts i):=by unfold tokL;rw[List.getD_eq_getElem?_getD,List.getElem?_eq_getElem hi];rfl
 have:=(h.2 i _ h1)
 rcases Nat.lt_or_ge (i+1) ts.length with h2 | h2
 ·exact h2
 ·exact absurd (this.1 (by omega)) hk
theorem isS_kind {ts:List Tok} {s:List UInt8} {σ:RS} (h:isS ts s σ=true):(tokL ts σ.at_).kind≠5∧σ.code=0:=by
 unfold isS at h
 simp only[Bool.and_eq_true,Bool.or_eq_true,decide_eq_true_eq] at h
 refine⟨?_,h.1⟩
 rcases h.2.1 with h1 | h1 <;> omega
end Go.Proofs.YtlbhlncipajapaaGreatDoor
namespace Go.Proofs.YtlbhlncipajapaaGreatDoor
open Go.ChangeShapes Go.WideShapes Go.Deep Go.RowKit
def reachN:Nat:=140737488351232
def CapOk (o:Option Addr) (cap:Nat):Prop:=cap≤maxLen∧(o=none→cap=0)
def SlAt (s:Value) (n sz:Nat) (el:Nat→Nat→Nat→Prop):Prop :=
 ∃o cap b off,s=.slice o n cap∧n≤cap∧CapOk o cap∧(0<n→o=some ⟨b,off,none⟩)∧∀i,i<n→el b (off+i*sz) i
theorem slAt_none (n sz cap:Nat) (o:Option Addr) (el:Nat→Nat→Nat→Prop) (hc:CapOk o cap) (h:n=0):SlAt (.slice o n cap) n sz el:=by
 subst h;exact⟨o,cap,0,0,rfl,Nat.zero_le _,hc,by omega,by omega⟩
theorem slAt_some {n sz cap b off:Nat} {el:Nat→Nat→Nat→Prop} (h1:n≤cap) (h2:cap≤maxLen) (h:∀i,i<n→el b (off+i*sz) i):SlAt (.slice (some ⟨b,off,none⟩) n cap) n sz el:=⟨_,cap,b,off,rfl,h1,⟨h2,fun h=>by cases h⟩,fun _=>rfl,h⟩
theorem SlAt.mono {s:Value} {n sz:Nat} {p q:Nat→Nat→Nat→Prop} (h:SlAt s n sz p) (hpq:∀b o i,i<n→p b o i→q b o i):SlAt s n sz q:=by
 obtain⟨o,cap,b,off,h1,h2,h3,h4,h5⟩:=h
 exact⟨o,cap,b,off,h1,h2,h3,h4,fun i hi=>hpq _ _ _ hi (h5 i hi)⟩
def IntsAt (w:World) (s:Value) (l:List Int):Prop:=SlAt s l.length 1 fun b o i=>w.cell? ⟨b,o,none⟩=some (.int .i64 (l.getD i 0))
def StrsAt (w:World) (s:Value) (l:List ByteArray):Prop:=SlAt s l.length 1 fun b o i=>w.cell? ⟨b,o,none⟩=some (.string (l.getD i ⟨#[]⟩))
def i64ok (n:Int):Prop:=-9223372036854775808≤n∧n≤9223372036854775807
structure ExOk (x:Ex):Prop where
 kind:i64ok x.kind
 a:i64ok x.a
 b:i64ok x.b
 c:i64ok x.c
 v:i64ok x.v
 name:x.name.size≤reachN
 state:x.state.size≤reachN
 args:x.args.length≤reachN
 argsOk:∀n ∈ x.args,i64ok n
def ExAt (w:World) (b o:Nat) (x:Ex):Prop:=∃s,w.cell? ⟨b,o,none⟩=some (.int .i64 x.kind)∧w.cell? ⟨b,o+1,none⟩=some (.int .i64 x.a)∧w.cell? ⟨b,o+2,none⟩=some (.int .i64 x.b) ∧
 w.cell? ⟨b,o+3,none⟩=some (.int .i64 x.c)∧w.cell? ⟨b,o+4,none⟩=some (.string x.name)∧w.cell? ⟨b,o+5,none⟩=some (.string x.state)∧w.cell? ⟨b,o+6,none⟩=some (.int .i64 x.v) ∧
 w.cell? ⟨b,o+7,none⟩=some s∧w.cell? ⟨b,o+8,none⟩=some (.int .i64 x.pos)∧IntsAt w s x.args∧ExOk x
structure ItOk (x:It):Prop where
 kind:i64ok x.kind
 e:i64ok x.e
 f:i64ok x.f
 name:x.name.size≤reachN
 state:x.state.size≤reachN
 next:x.next.size≤reachN
 states:x.states.length≤reachN
 statesOk:∀s ∈ x.states,s.size≤reachN
def ItAt (w:World) (b o:Nat) (x:It):Prop:=∃s,w.cell? ⟨b,o,none⟩=some (.int .i64 x.kind)∧w.cell? ⟨b,o+1,none⟩=some (.string x.name)∧w.cell? ⟨b,o+2,none⟩=some (.int .i64 x.type) ∧
 w.cell? ⟨b,o+3,none⟩=some (.int .i64 x.e)∧w.cell? ⟨b,o+4,none⟩=some (.int .i64 x.f)∧w.cell? ⟨b,o+5,none⟩=some s∧w.cell? ⟨b,o+6,none⟩=some (.string x.state) ∧
 w.cell? ⟨b,o+7,none⟩=some (.string x.next)∧w.cell? ⟨b,o+8,none⟩=some (.int .i64 x.pos)∧StrsAt w s x.states∧ItOk x
def PaAt (w:World) (b o:Nat) (x:Pa):Prop:=w.cell? ⟨b,o,none⟩=some (.string x.name)∧w.cell? ⟨b,o+1,none⟩=some (.int .i64 x.type)∧x.name.size≤reachN∧i64ok x.type
structure DeOk (x:De):Prop where
 kind:i64ok x.kind
 e:i64ok x.e
 name:x.name.size≤reachN
 params:x.params.length≤reachN
 items:x.items.length≤reachN
def DeAt (w:World) (b o:Nat) (x:De):Prop:=∃s t,w.cell? ⟨b,o,none⟩=some (.int .i64 x.kind)∧w.cell? ⟨b,o+1,none⟩=some (.string x.name)∧w.cell? ⟨b,o+2,none⟩=some s ∧
 w.cell? ⟨b,o+3,none⟩=some t∧w.cell? ⟨b,o+4,none⟩=some (.int .i64 x.type)∧w.cell? ⟨b,o+5,none⟩=some (.int .i64 x.e)∧w.cell? ⟨b,o+6,none⟩=some (.int .i64 x.pos) ∧
 SlAt s x.params.length 2 (fun b o i=>∀y,x.params[i]?=some y→PaAt w b o y)∧SlAt t x.items.length 9 (fun b o i=>∀y,x.items[i]?=some y→ItAt w b o y)∧DeOk x
def ExsAt (w:World) (s:Value) (l:List Ex):Prop:=SlAt s l.length 9 fun b o i=>∀x,l[i]?=some x→ExAt w b o x
def DesAt (w:World) (s:Value) (l:List De):Prop:=SlAt s l.length 7 fun b o i=>∀x,l[i]?=some x→DeAt w b o x
def ProgAt (w:World) (sd se:Value) (p:Pr):Prop:=DesAt w sd p.decls∧ExsAt w se p.exprs∧p.decls.length≤reachN∧p.exprs.length≤reachN
theorem cell_on {w w':World} (hb:Below w.heap.size w w') {a:Addr} {v:Value} (h:w.cell? a=some v):w'.cell? a=some v:=(hb.cell (World.block_lt_of_cell? _ _ h)).trans h
theorem IntsAt.below {w w':World} {s:Value} {l:List Int} (h:IntsAt w s l) (hb:Below w.heap.size w w'):IntsAt w' s l:=h.mono fun _ _ _ _ h=>cell_on hb h
theorem StrsAt.below {w w':World} {s:Value} {l:List ByteArray} (h:StrsAt w s l) (hb:Below w.heap.size w w'):StrsAt w' s l:=h.mono fun _ _ _ _ h=>cell_on hb h
theorem ExAt.below {w w':World} {b o:Nat} {x:Ex} (h:ExAt w b o x) (hb:Below w.heap.size w w'):ExAt w' b o x:=by
 obtain⟨s,h0,h1,h2,h3,h4,h5,h6,h7,h8,h9,hk⟩:=h
 exact⟨s,cell_on hb h0,cell_on hb h1,cell_on hb h2,cell_on hb h3,cell_on hb h4,cell_on hb h5,cell_on hb h6,cell_on hb h7,cell_on hb h8,h9.below hb,hk⟩
theorem ItAt.below {w w':World} {b o:Nat} {x:It} (h:ItAt w b o x) (hb:Below w.heap.size w w'):ItAt w' b o x:=by
 obtain⟨s,h0,h1,h2,h3,h4,h5,h6,h7,h8,h9,hk⟩:=h
 exact⟨s,cell_on hb h0,cell_on hb h1,cell_on hb h2,cell_on hb h3,cell_on hb h4,cell_on hb h5,cell_on hb h6,cell_on hb h7,cell_on hb h8,h9.below hb,hk⟩
theorem PaAt.below {w w':World} {b o:Nat} {x:Pa} (h:PaAt w b o x) (hb:Below w.heap.size w w'):PaAt w' b o x:=⟨cell_on hb h.1,cell_on hb h.2.1,h.2.2⟩
theorem DeAt.below {w w':World} {b o:Nat} {x:De} (h:DeAt w b o x) (hb:Below w.heap.size w w'):DeAt w' b o x:=by
 obtain⟨s,t,h0,h1,h2,h3,h4,h5,h6,h7,h8,hk⟩:=h
 exact⟨s,t,cell_on hb h0,cell_on hb h1,cell_on hb h2,cell_on hb h3,cell_on hb h4,cell_on hb h5,cell_on hb h6,h7.mono fun _ _ _ _ h y hy=>(h y hy).below hb,h8.mono fun _ _ _ _ h y hy=>(h y hy).below hb,hk⟩
theorem ExsAt.below {w w':World} {s:Value} {l:List Ex} (h:ExsAt w s l) (hb:Below w.heap.size w w'):ExsAt w' s l:=h.mono fun _ _ _ _ h x hx=>(h x hx).below hb
theorem DesAt.below {w w':World} {s:Value} {l:List De} (h:DesAt w s l) (hb:Below w.heap.size w w'):DesAt w' s l:=h.mono fun _ _ _ _ h x hx=>(h x hx).below hb
theorem ProgAt.below {w w':World} {sd se:Value} {p:Pr} (h:ProgAt w sd se p) (hb:Below w.heap.size w w'):ProgAt w' sd se p:=⟨h.1.below hb,h.2.1.below hb,h.2.2⟩
section
variable {H:Type} {enc:TypeId×Value→H} {w:World}
instance:Inhabited Ex:=⟨⟨0,0,0,0,⟨#[]⟩,⟨#[]⟩,0,[],0⟩⟩
instance:Inhabited It:=⟨⟨0,⟨#[]⟩,0,0,0,[],⟨#[]⟩,⟨#[]⟩,0⟩⟩
instance:Inhabited Pa:=⟨⟨⟨#[]⟩,0⟩⟩
instance:Inhabited De:=⟨⟨0,⟨#[]⟩,[],[],0,0,0⟩⟩
end
end Go.Proofs.YtlbhlncipajapaaGreatDoor
namespace Go.Proofs.YtlbhlncipajapaaGreatDoor
open Go.RowKit Lx
def intC (n:Int):Value:=.int .i64 n
def exC (x:Ex) (v:Value):List Value:=[.int .i64 x.kind,.int .i64 x.a,.int .i64 x.b,.int .i64 x.c,.string x.name,.string x.state,.int .i64 x.v,v,.int .i64 x.pos]
def rdCells (l:List (Ex×Value)):List Value:=l.flatMap fun p=>exC p.1 p.2
theorem rdCells_snoc (l:List (Ex×Value)) (p:Ex×Value):rdCells (l++[p])=rdCells l++exC p.1 p.2:=by unfold rdCells;rw[List.flatMap_append];simp
def ExsOwn (W:World) (b:Nat) (xb:Nat→Prop) (v:Value) (l:List Ex):Prop :=
 ∃q:List (Ex×Value),q.map Prod.fst=l∧W.ownsRow (b+1) 46 9 v l.length (rdCells q)∧∀p ∈ q,W.ownsRow (b+1) 3 1 p.2 p.1.args.length (p.1.args.map intC)∧∀k,p.2.ownBlock=some k→¬xb k
def NoEx (o:Obj):Prop:=∀cs,o≠.cells cs 46 (0,0)
structure RK (b:Nat) (W Y:World):Prop where
 os:Y.os=W.os
 tape:Y.tape=W.tape
 output:Y.output=W.output
 size:W.heap.size≤Y.heap.size
 low:∀k,k<b→Y.heap[k]?=W.heap[k]?
 keep:∀(k:Nat) (o:Obj),W.heap[k]?=some o→k≠b→NoEx o→Y.heap[k]?=some o
theorem heap_lt {W:World} {k:Nat} {o:Obj} (h:W.heap[k]?=some o):k<W.heap.size:=(Array.getElem?_eq_some_iff.1 h).1
theorem RK.refl (b:Nat) (W:World):RK b W W:=⟨rfl,rfl,rfl,qL _,fun _ _=>rfl,fun _ _ h _ _=>h⟩
theorem RK.trans {b:Nat} {X Y Z:World} (h:RK b X Y) (k:RK b Y Z):RK b X Z :=
 ⟨k.os.trans h.os,k.tape.trans h.tape,k.output.trans h.output,Nat.le_trans h.size k.size,fun j hj=>(k.low j hj).trans (h.low j hj),fun j o hj hb hn=>k.keep j o (h.keep j o hj hb hn) hb hn⟩
theorem RK.of_below {b:Nat} {W Y:World} (h:Below W.heap.size W Y) (hb:b≤W.heap.size):RK b W Y :=
 ⟨h.os,h.tape,h.output,h.size,fun k hk=>h.block k (by omega),fun k o hk _ _=>(h.block k (heap_lt hk)).trans hk⟩
theorem RK.below {b B:Nat} {W Y:World} (h:RK b W Y) (hb:B≤b):Below B W Y:=⟨h.os,h.tape,h.output,h.size,fun k hk=>h.low k (by omega)⟩
theorem RK.set {b:Nat} {W:World} (i:Nat) (v:Value):RK b W (W.setCell ⟨b,i,none⟩ v):=by
 have hb:=(qB b W).setCell (p:=⟨b,i,none⟩) (qL _) v
 exact⟨hb.os,hb.tape,hb.output,hb.size,fun k hk=>hb.block k hk,fun k o hk hkb _=>(Below.heap_setCell W ⟨b,i,none⟩ v k hkb).trans hk⟩
structure Rd (W:World) (b g cap:Nat) (dv:Value) (ts:List Tok) (xb:Nat→Prop) (σ:RS):Prop where
 xlt:∀k,xb k→k<W.heap.size
 blk:∃o c,W.heap[b]?=some (.cells #[.slice (some ⟨g,0,none⟩) ts.length cap,.int .i64 (σ.at_:Int),dv,.slice o σ.exprs.length c,.int .i64 σ.deep,.int .i64 σ.code,.int .i64 σ.pos] 52 (0,0))∧ExsOwn W b xb (.slice o σ.exprs.length c) σ.exprs
 row:RowAt W g ts
 lt:g<b
 at_:σ.at_<ts.length
 len:ts.length≤40000
 ends:EndOk ts
theorem NoEx.int {cs:Array Value}:NoEx (.cells cs 3 (0,0)):=fun cs' h=>by cases h
theorem own_keep {W Y:World} {b:Nat} {v:Value} {n:Nat} {xs:List Value} {B:Nat} (h:W.ownsRow B 3 1 v n xs) (hB:b<B) (hk:RK b W Y):Y.ownsRow B 3 1 v n xs:=by
 refine⟨h.1,?_⟩
 rcases h.2 with hn | ⟨g,cap,cur,rfl,hb,hgg,rest⟩
 ·exact .inl hn
 ·exact .inr ⟨g,cap,cur,rfl,hb,hk.keep g _ hgg (by omega) .int,rest⟩
theorem rd_own_same {W Y:World} {e:TypeId} {s:Nat} {v:Value} {n:Nat} {xs:List Value} {B:Nat} (h:W.ownsRow B e s v n xs) (hk:∀k,v.ownBlock=some k→Y.heap[k]?=W.heap[k]?):Y.ownsRow B e s v n xs:=by
 refine⟨h.1,?_⟩
 rcases h.2 with hn | ⟨g,cap,cur,rfl,hb,hgg,rest⟩
 ·exact .inl hn
 ·exact .inr ⟨g,cap,cur,rfl,hb,(hk g rfl).trans hgg,rest⟩
theorem ExsOwn.same {W Y:World} {b:Nat} {xb:Nat→Prop} {v:Value} {l:List Ex} (h:ExsOwn W b xb v l) (hk:∀k,b<k→k<W.heap.size→Y.heap[k]?=W.heap[k]?):ExsOwn Y b xb v l:=by
 obtain⟨q,h1,h2,h3⟩:=h
 exact⟨q,h1,rd_own_same h2 fun k e=>hk k (by have:=(h2.lt k e).1;omega) (h2.lt k e).2,fun p hp=>⟨rd_own_same (h3 p hp).1 fun k e=>hk k (by have:=((h3 p hp).1.lt k e).1;omega) ((h3 p hp).1.lt k e).2,(h3 p hp).2⟩⟩
theorem Rd.size {W:World} {b g cap:Nat} {dv:Value} {ts:List Tok} {xb:Nat→Prop} {σ:RS} (h:Rd W b g cap dv ts xb σ):b<W.heap.size:=by
 obtain⟨o,c,h1,_⟩:=h.blk;exact heap_lt h1
theorem row_low {W Y:World} {g:Nat} {ts:List Tok} (h:RowAt W g ts) (hk:Y.heap[g]?=W.heap[g]?):RowAt Y g ts:=by
 have hlt:g<Y.heap.size:=by
  have h1:=h.1
  rcases Nat.lt_or_ge g Y.heap.size with h2 | h2
  ·exact h2
  ·rw[Array.getElem?_eq_none h2,Array.getElem?_eq_getElem h1] at hk;cases hk
 refine⟨hlt,fun i t hi=>?_⟩
 obtain⟨h1,h2,h3,h4⟩:=h.2 i t hi
 have hc:∀(j:Nat),Y.cell? ⟨g,j,none⟩=W.cell? ⟨g,j,none⟩:=fun j=>World.cell?_of_block (a:=⟨g,j,none⟩) hk
 exact⟨(hc _).trans h1,(hc _).trans h2,(hc _).trans h3,(hc _).trans h4⟩
theorem Rd.below {W Y:World} {b g cap:Nat} {dv:Value} {ts:List Tok} {xb:Nat→Prop} {σ:RS} (h:Rd W b g cap dv ts xb σ) (hb:Below W.heap.size W Y):Rd Y b g cap dv ts xb σ:=by
 have hs:=h.size
 obtain⟨o,c,h1,h2⟩:=h.blk
 exact⟨fun k hk=>Nat.lt_of_lt_of_le (h.xlt k hk) hb.size,⟨o,c,(hb.block b hs).trans h1,h2.same fun k _ hk=>hb.block k hk⟩,row_low h.row (hb.block g (by have:=h.lt;omega)),h.lt,h.at_,h.len,h.ends⟩
theorem Rd.alloc {W:World} {b g cap:Nat} {dv:Value} {ts:List Tok} {xb:Nat→Prop} {σ:RS} (h:Rd W b g cap dv ts xb σ) (o:Obj):Rd (W.alloc o) b g cap dv ts xb σ:=h.below ((qB _ _).alloc (qL _) o)
theorem set_blk {W:World} {g:Nat} {cs:Array Value} {T:TypeId} {fr:Nat×Nat} (h:W.heap[g]?=some (.cells cs T fr)) (i:Nat) (v:Value):(W.setCell ⟨g,i,none⟩ v).heap[g]?=some (.cells (cs.setIfInBounds i v) T fr):=Lx.set_heap h i v
theorem Rd.setOne {W:World} {b g cap:Nat} {dv:Value} {ts:List Tok} {xb:Nat→Prop} {σ τ:RS} (h:Rd W b g cap dv ts xb σ) (i:Nat) (v:Value) (he:τ.exprs=σ.exprs) (ht:τ.at_<ts.length)
  (hc:∀x,(#[.slice (some ⟨g,0,none⟩) ts.length cap,.int .i64 (σ.at_:Int),dv,x,.int .i64 σ.deep,.int .i64 σ.code,.int .i64 σ.pos]:Array Value).setIfInBounds i v=#[.slice (some ⟨g,0,none⟩) ts.length cap,.int .i64 (τ.at_:Int),dv,x,.int .i64 τ.deep,.int .i64 τ.code,.int .i64 τ.pos]) :
  Rd (W.setCell ⟨b,i,none⟩ v) b g cap dv ts xb τ:=by
 obtain⟨o,c,h1,h2⟩:=h.blk
 refine⟨fun k hk=>Nat.lt_of_lt_of_le (h.xlt k hk) ((qB b W).setCell (p:=⟨b,i,none⟩) (qL _) v).size,⟨o,c,?_,?_⟩,row_low h.row (Below.heap_setCell W ⟨b,i,none⟩ v g (by have:=h.lt;simp;omega)),h.lt,ht,h.len,h.ends⟩
 ·rw[he,set_blk h1,hc]
 ·rw[he];exact h2.same fun k hk _=>Below.heap_setCell W ⟨b,i,none⟩ v k (by simp;omega)
theorem Rd.setAt {W:World} {b g cap:Nat} {dv:Value} {ts:List Tok} {xb:Nat→Prop} {σ:RS} (h:Rd W b g cap dv ts xb σ) (hk:(tokL ts σ.at_).kind≠5):Rd (W.setCell ⟨b,1,none⟩ (.int .i64 ((σ.at_:Int)+1))) b g cap dv ts xb (stepS σ) :=
 h.setOne 1 _ rfl (h.ends.next h.at_ hk) fun x=>by simp[stepS]
theorem Rd.setDeep {W:World} {b g cap:Nat} {dv:Value} {ts:List Tok} {xb:Nat→Prop} {σ:RS} (h:Rd W b g cap dv ts xb σ) (d:Int):Rd (W.setCell ⟨b,4,none⟩ (.int .i64 d)) b g cap dv ts xb { σ with deep:=d } :=
 h.setOne 4 _ rfl h.at_ fun x=>by simp
theorem Rd.setBad {W:World} {b g cap:Nat} {dv:Value} {ts:List Tok} {xb:Nat→Prop} {σ:RS} (h:Rd W b g cap dv ts xb σ) (c p:Int):Rd ((W.setCell ⟨b,5,none⟩ (.int .i64 c)).setCell ⟨b,6,none⟩ (.int .i64 p)) b g cap dv ts xb { σ with code:=c,pos:=p }:=by
 have h1:Rd (W.setCell ⟨b,5,none⟩ (.int .i64 c)) b g cap dv ts xb { σ with code:=c }:=h.setOne 5 _ rfl h.at_ fun x=>by simp
 exact h1.setOne 6 _ rfl h.at_ fun x=>by simp
structure RdCells (W:World) (b g cap:Nat) (ts:List Tok) (at_:Nat) (n:Nat) (o:Option Addr) (c:Nat) (deep code pos:Int):Prop where
 c0:W.cell? ⟨b,0,none⟩=some (.slice (some ⟨g,0,none⟩) ts.length cap)
 c1:W.cell? ⟨b,1,none⟩=some (.int .i64 (at_:Int))
 c3:W.cell? ⟨b,3,none⟩=some (.slice o n c)
 c4:W.cell? ⟨b,4,none⟩=some (.int .i64 deep)
 c5:W.cell? ⟨b,5,none⟩=some (.int .i64 code)
 c6:W.cell? ⟨b,6,none⟩=some (.int .i64 pos)
 fr:∀i,W.frozen? ⟨b,i,none⟩=false
theorem Rd.cells {W:World} {b g cap:Nat} {dv:Value} {ts:List Tok} {xb:Nat→Prop} {σ:RS} (h:Rd W b g cap dv ts xb σ):∃o c,RdCells W b g cap ts σ.at_ σ.exprs.length o c σ.deep σ.code σ.pos∧ExsOwn W b xb (.slice o σ.exprs.length c) σ.exprs:=by
 obtain⟨o,c,h1,h2⟩:=h.blk
 exact⟨o,c,⟨by simp[World.cell?,h1],by simp[World.cell?,h1],by simp[World.cell?,h1],by simp[World.cell?,h1],by simp[World.cell?,h1],by simp[World.cell?,h1],fun i=>by simp[World.frozen?,h1]⟩,h2⟩
theorem Rd.tok {W:World} {b g cap:Nat} {dv:Value} {ts:List Tok} {xb:Nat→Prop} {σ:RS} (h:Rd W b g cap dv ts xb σ):CellsAt W g σ.at_ (tokL ts σ.at_) :=
 h.row.2 _ _ (by unfold tokL;rw[List.getD_eq_getElem?_getD,List.getElem?_eq_getElem h.at_];rfl)
end Go.Proofs.YtlbhlncipajapaaGreatDoor
