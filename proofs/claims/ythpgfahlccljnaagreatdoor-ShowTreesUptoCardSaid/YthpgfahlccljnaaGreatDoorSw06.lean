import Derived.Test.YthpgfahlccljnaaGreatDoorSw05
import Derived.Shelf.RegionOpenPlain
import Derived.Lib.Builder
import Derived.Lib.AppendStr
import Derived.Lib.UnsafeStr
import Derived.Lib.OthersKept
import Derived.Lib.Walk
import Derived.Laws.Externs
set_option maxHeartbeats 16000000
set_option maxRecDepth 100000
open Go.Proofs.Tryz(prog)
namespace Go.Proofs.YthpgfahlccljnaaGreatDoor
open Go.RowKit
theorem pcC_one (p:Pc):∀u ∈ pcC p,u.oneCell'=true:=by simp[pcC,Value.oneCell']
theorem pcCells_one (l:List Pc):∀u ∈ pcCells l,u.oneCell'=true:=by
 intro u hu
 unfold pcCells at hu
 obtain⟨p,_,hp⟩:=List.mem_flatMap.1 hu
 exact pcC_one p u hp
theorem wpList_pcs (w:World) {ops:Array Oper} {rest:List Oper} {o:Oper} {a:Act} {Q:Exit→Act→World→Prop}
  (hg:o.guard=none) (s x:Operand) (hop:o.op=Op.call { callee:=Callee.builtin Builtin.append,args:=#[s,x],argTypes:=#[85,85] })
  (base:Nat) (v:Value) (l:List Pc) (k:Nat) (hlk:l.length=k) (hs:a.eval s=v) (hown:PcOwn w base v l) (ad:Addr) (l2:List Pc) (m c:Nat) (hm:l2.length=m) (hx:a.eval x=.slice (some ad) m c)
  (hc:∀j u,(pcCells l2)[j]?=some u→w.cell? (ad.add j)=some u) (hk:k+m≤1000000000) (h0:0<m) (b3:base≤w.heap.size)
  (hK:∀g cap w',PcOwn w' base (.slice (some ⟨g,0,none⟩) (k+m) cap) (l++l2)→w.grownBy w' v.ownBlock→wpList prog ops Q rest (a.put o.dst (.slice (some ⟨g,0,none⟩) (k+m) cap)) w') :
  wpList prog ops Q (o :: rest) a w:=by
 subst hlk hm
 obtain⟨i,h2,h3,h4,h5⟩:=info_parts pc_info
 exact wpList_append_lies (w:=w) hg s x 85 hop base 84 i _ 3 32 Tryz.underlying85 h2 h3 h4 h5 rfl (by decide) v l.length (pcCells l) hs hown ad l2.length c (pcCells l2) hx (pcCells_length l2) hc (pcCells_one l2) h0 (by unfold maxLen;omega) (by omega) b3 w.heap.size rfl fun g cap w' ho hg2 _ _=>hK g cap w' (by unfold PcOwn;rw[pcCells_append,List.length_append];exact ho) hg2
theorem ix_rows {o:Option Addr} {n cap b off:Nat} (h:0<n→o=some ⟨b,off,none⟩) {j:Nat} (hj:j<n) (hn:n≤9223372036854775807):Ix 126 1 (.slice o n cap) b off j:=by
 intro W
 rw[h (by omega)]
 have h1:(j:Int)<(n:Int):=by omega
 have h2:(j:Int)≤9223372036854775807:=by omega
 go_simp
def RowsAt (W:World) (gs:Nat) (Ls:List (List Pc)):Prop:=∀j l,Ls[j]?=some l→0<l.length∧∃g c,W.cell? ⟨gs,j,none⟩=some (.slice (some ⟨g,0,none⟩) l.length c)∧∀i u,(pcCells l)[i]?=some u→W.cell? ((⟨g,0,none⟩:Addr).add i)=some u
theorem flat_succ {Ls:List (List Pc)} {j:Nat} {l:List Pc} (h:Ls[j]?=some l):(Ls.take (j+1)).flatten=(Ls.take j).flatten++l:=by
 rw[List.take_add_one,h];simp
theorem flat_le (Ls:List (List Pc)) (j:Nat):((Ls.take j).flatten).length≤Ls.flatten.length:=by
 conv=>rhs;rw[←List.take_append_drop j Ls,List.flatten_append,List.length_append]
 omega
theorem concat_any (Ls:List (List Pc)) (n tt gs cap:Nat) (hn:Hid (Ls.length=n)) (nl:(n:Int)≤10) (ht:Hid (Ls.flatten.length=tt)) (tl:(tt:Int)≤4000) (t0:0<tt) (W:World) (hR:Hid (RowsAt W gs Ls)) :
  Calls prog 63 #[.slice (some ⟨gs,0,none⟩) n cap] W fun r Y=>GivesPc Ls.flatten W r Y:=by
 obtain⟨F,hF⟩:∃F:Nat→List Pc,F=fun j=>(Ls.take j).flatten:=⟨_,rfl⟩
 have HF:=Hd hF
 have hFle:∀j,(F j).length≤tt:=fun j=>by have h:=flat_le Ls j;have h2:=ht.out;rw[HF.out];show((Ls.take j).flatten).length≤tt;omega
 have HFle:=Hd hFle
 have HFn:Hid (F n=Ls.flatten):=Hd (by rw[HF.out];show(Ls.take n).flatten=_;rw[List.take_of_length_le (by have:=hn.out;omega)])
 have HF0:Hid (F 0=[]):=Hd (by rw[HF.out];rfl)
 have G:=Hd (grow_anyP tt t0 tl W)
 clear hF hFle
 go_enter Tryz.func63,Tryz.ntmps63
 go_wp2_with fail
 go_loopw [3,11] (fun s i wr=>∃(j m:Nat),j≤n∧m≤4000∧s=.int .i64 (m:Int)∧i=.int .i64 (j:Int)∧Hid (m=(F j).length)∧wr=W) (fun _ i _=>n-litLen i)
 case atStart=>exact⟨0,0,by omega,by omega,rfl,rfl,Hd (by rw[HF0.out];rfl),rfl⟩
 case round =>
  obtain⟨j,m,hj,hm4,rfl,rfl,hI,hwr⟩:=hrel
  have hw2:=hwr.symm
  clear hwr
  subst hw2
  rcases Nat.lt_or_ge j n with hlt | hge
  ·have q1:decide ((j:Int)<(n:Int))=true:=qT (by omega)
   have q1n:decide (j<n)=true:=qT hlt
   obtain⟨l,hl⟩:∃l,Ls[j]?=some l:=⟨_,List.getElem?_eq_getElem (by have:=hn.out;omega)⟩
   obtain⟨hl0,g,c,hcell,hc2⟩:=hR.out j l hl
   have HC2:=Hd hc2
   obtain⟨k,hk⟩:∃k,k=l.length:=⟨_,rfl⟩
   rw[←hk] at hcell hl0
   have ix:=ix_rows (o:=some ⟨gs,0,none⟩) (n:=n) (cap:=cap) (b:=gs) (off:=0) (fun _=>rfl) hlt (by omega)
   unfold Ix at ix
   rw[Nat.mul_one,Nat.zero_add] at ix
   obtain⟨m2,hm2⟩:∃m2,m2=(F (j+1)).length:=⟨_,rfl⟩
   have hsum:m2=m+k:=by rw[hm2,hI.out,HF.out,hk];show((Ls.take (j+1)).flatten).length=_;rw[flat_succ hl,List.length_append]
   have hm24:m2≤tt:=by rw[hm2];exact HFle.out _
   have hadd:(m:Int)+(k:Int)=(m2:Int):=by omega
   have HM2:=Hd hm2
   have HSUM:=Hd hsum
   have qn:decide ((m2:Int)<0)=false:=qF (by omega)
   clear hm2 hk hc2 hsum hI
   go_wp2_with fail
   exact⟨⟨j+1,m2,by omega,by omega,rfl,rfl,HM2,trivial⟩,by simp[litLen];omega⟩
  ·have q1:decide ((j:Int)<(n:Int))=false:=qF (by omega)
   have q1n:decide (j<n)=false:=qF (by omega)
   have HJ:Hid (j=n):=Hd (by omega)
   have HMT:Hid (m=tt):=Hd (by rw[hI.out,HJ.out,HFn.out,ht.out])
   clear hI
   have hmt:=HMT.out
   subst hmt
   go_wp2_with fail
   (with_reducible refine G.out.mono ?_)
   rintro r w1 h1
   obtain⟨g1,c1,rfl,h2,h3⟩:=h1
   dsimp only
   have HO1:=Hd h2
   have HB1:=Hd h3
   clear h2 h3 HMT HJ
   go_wp2_with fail
   go_loopw [6,27] (fun v i wr=>∃(j m:Nat) (o:Option Addr) (c:Nat),j≤n∧m≤4000∧i=.int .i64 (j:Int)∧v=.slice o m c∧Hid (m=(F j).length∧PcOwn wr W.heap.size (.slice o m c) (F j)∧Below W.heap.size W wr)) (fun _ i _=>n-litLen i)
   case atStart=>exact⟨0,0,_,_,by omega,by omega,rfl,rfl,Hd ⟨by rw[HF0.out];rfl,by rw[HF0.out];exact HO1.out,HB1.out⟩⟩
   case round =>
    obtain⟨j,k,o,c,hj,hk4,rfl,rfl,hI⟩:=hrel
    have HL:=Hd hI.out.1
    have HOr:=Hd hI.out.2.1
    have HBr:=Hd hI.out.2.2
    have hgr:∀q,(Value.slice o k c).ownBlock=some q→W.heap.size≤q:=fun q hq=>(World.ownsRow.lt HOr.out q hq).1
    have HGR:=Hd hgr
    clear hI hgr HO1 HB1
    rcases Nat.lt_or_ge j n with hlt | hge
    ·have q1:decide ((j:Int)<(n:Int))=true:=qT (by omega)
     have q1n:decide (j<n)=true:=qT hlt
     obtain⟨l,hl⟩:∃l,Ls[j]?=some l:=⟨_,List.getElem?_eq_getElem (by have:=hn.out;omega)⟩
     obtain⟨hl0,g,c0,hcell,hc2⟩:=hR.out j l hl
     have HC2:Hid (∀i u,(pcCells l)[i]?=some u→wr.cell? ((⟨g,0,none⟩:Addr).add i)=some u):=Hd fun i u h=>cell_below HBr.out (hc2 i u h)
     obtain⟨k2,hk2⟩:∃k2,k2=l.length:=⟨_,rfl⟩
     rw[←hk2] at hcell hl0
     have HK2:=Hd hk2
     have hcell2:=cell_below HBr.out hcell
     have ix:=ix_rows (o:=some ⟨gs,0,none⟩) (n:=n) (cap:=cap) (b:=gs) (off:=0) (fun _=>rfl) hlt (by omega)
     unfold Ix at ix
     rw[Nat.mul_one,Nat.zero_add] at ix
     have HSN:Hid (F (j+1)=F j++l):=Hd (by rw[HF.out];exact flat_succ hl)
     have hsum:k+k2≤m:=by have h:=HFle.out (j+1);rw[HSN.out,List.length_append,←HL.out,←HK2.out] at h;exact h
     have hb3:=HBr.out.size
     clear hk2 hc2 hcell hl
     go_wp2_with (at_builtin;refine wpList_pcs _ rfl _ _ rfl W.heap.size (.slice o k c) (F j) k HL.out.symm rfl HOr.out ⟨g,0,none⟩ l k2 c0 HK2.out.symm rfl HC2.out (by omega) hl0 hb3 ?_;intro g2 c2 w3 ho2 hg2;have HO2:=Hd ho2;have HG2:=Hd hg2;clear ho2 hg2)
     have HB2:Hid (Below W.heap.size W w3):=Hd (HBr.out.grown HG2.out HBr.out.size HGR.out)
     have HE:Hid (k+k2=(F (j+1)).length):=Hd (by rw[HSN.out,List.length_append,←HL.out,←HK2.out])
     exact⟨⟨j+1,k+k2,_,_,by omega,by omega,rfl,rfl,Hd ⟨HE.out,by rw[HSN.out];exact HO2.out,HB2.out⟩⟩,by simp[litLen];omega⟩
    ·have q1:decide ((j:Int)<(n:Int))=false:=qF (by omega)
     have q1n:decide (j<n)=false:=qF (by omega)
     have HJ:Hid (j=n):=Hd (by omega)
     go_wp2_with fail
     go_ret
     have e:F j=Ls.flatten:=by rw[HJ.out,HFn.out]
     obtain⟨g9,rfl⟩:∃g9,o=some ⟨g9,0,none⟩:=by
      rcases HOr.out.2 with ⟨h1,h2⟩ | ⟨g,cap,cur,h1,_⟩
      ·exfalso
       have h3:=ht.out
       rw[←e] at h3
       omega
      ·exact⟨g,by injection h1⟩
     have e2:k=Ls.flatten.length:=by rw[←e];exact HL.out
     refine⟨g9,c,by rw[←e2];rfl,?_,HBr.out⟩
     rw[←e2,←e]
     exact HOr.out
theorem argsP_len:∀(l:List Int) (i:Nat),(argsP i l).length≤2*l.length
 | [],_=>qL _
 | a :: l,i=>by
  show((if 0<i then _ else _)++argsP (i+1) l:List Pc).length≤_
  have:=argsP_len l (i+1)
  rw[List.length_append,List.length_cons]
  split <;> simp <;> omega
theorem ownP_len {x:Ex} (h:x.args.length≤1000):0<(ownP x).length∧(ownP x).length≤2003:=by
 have:=argsP_len x.args 0
 unfold ownP
 repeat' split
 all_goals (simp <;> omega)
theorem GivesPc.rows {l:List Pc} {W Y:World} {r:Ending} (h:GivesPc l W r Y):∃g c,r=.returned (.slice (some ⟨g,0,none⟩) l.length c)∧W.heap.size≤g∧(∀i u,(pcCells l)[i]?=some u→Y.cell? ((⟨g,0,none⟩:Addr).add i)=some u)∧Below W.heap.size W Y:=by
 obtain⟨g,c,h1,h2,h3⟩:=h
 exact⟨g,c,h1,(World.ownsRow.lt h2 g rfl).1,World.ownsRow.cells h2 rfl,h3⟩
theorem new_cell {Y:World} {g i:Nat} {cs:Array Value} {T:TypeId} {u:Value} (h:g=Y.heap.size) (hu:cs[i]?=some u):(Y.alloc (.cells cs T)).cell? ⟨g,i,none⟩=some u:=by
 subst h
 rw[World.cell?_alloc_new,←hu]
theorem alloc_cell {Y:World} {a:Addr} {v:Value} {o:Obj} (h:Y.cell? a=some v):(Y.alloc o).cell? a=some v:=by
 have:=World.block_lt_of_cell? Y a h
 exact(((qB Y.heap.size Y).alloc (qL _) o).cell (p:=a) this).trans h
theorem drew_cell {Y:World} {a:Addr} {v:Value} (h:Y.cell? a=some v):Y.drew.cell? a=some v:=h
theorem below_al2 {W Y:World} (h:Below W.heap.size W Y) (o:Obj):Below W.heap.size W (Y.alloc o):=h.alloc h.size o
theorem below_tr {W X Y:World} (h:Below W.heap.size W X) (h2:Below X.heap.size X Y):Below W.heap.size W Y:=h.trans (h2.mono h.size)
def Row1 (l:List Pc) (n:Nat) (W:World) (r:Ending) (Y:World):Prop:=∃g c,r=.returned (.slice (some ⟨g,0,none⟩) n c)∧Hid (∀i u,(pcCells l)[i]?=some u→Y.cell? ((⟨g,0,none⟩:Addr).add i)=some u)∧Below W.heap.size W Y
theorem one_str {Y:World} {g:Nat} {s:ByteArray} (h:Y.cell? ⟨g,0,none⟩=some (.string s)):∀i t,[s][i]?=some t→Y.cell? ⟨g,i,none⟩=some (.string t):=by
 intro i t ht
 cases i with
 | zero=>simp at ht;subst ht;exact h
 | succ i=>simp at ht
theorem rows3 {Y:World} {gs n1 n2 n3 g1 g2 g3 k1 k2 k3:Nat} {l1 l2 l3:List Pc} (e1:l1.length=n1) (e2:l2.length=n2) (e3:l3.length=n3) (p1:0<n1) (p2:0<n2) (p3:0<n3)
  (c1:Y.cell? ⟨gs,0,none⟩=some (.slice (some ⟨g1,0,none⟩) n1 k1)) (c2:Y.cell? ⟨gs,1,none⟩=some (.slice (some ⟨g2,0,none⟩) n2 k2)) (c3:Y.cell? ⟨gs,2,none⟩=some (.slice (some ⟨g3,0,none⟩) n3 k3))
  (r1:∀i u,(pcCells l1)[i]?=some u→Y.cell? ((⟨g1,0,none⟩:Addr).add i)=some u) (r2:∀i u,(pcCells l2)[i]?=some u→Y.cell? ((⟨g2,0,none⟩:Addr).add i)=some u) (r3:∀i u,(pcCells l3)[i]?=some u→Y.cell? ((⟨g3,0,none⟩:Addr).add i)=some u):RowsAt Y gs [l1,l2,l3]:=by
 subst e1 e2 e3
 intro j l hl
 obtain rfl | rfl | rfl | h:j=0∨j=1∨j=2∨3≤j:=by omega
 ·simp at hl;subst hl;exact⟨p1,_,_,c1,r1⟩
 ·simp at hl;subst hl;exact⟨p2,_,_,c2,r2⟩
 ·simp at hl;subst hl;exact⟨p3,_,_,c3,r3⟩
 ·rw[List.getElem?_eq_none (by simpa using h)] at hl;cases hl
theorem texts_one (t:ByteArray) (gs:Nat) (W:World) (h:W.cell? ⟨gs,0,none⟩=some (.string t)):Calls prog 64 #[.slice (some ⟨gs,0,none⟩) 1 1] W (Row1 [tPc t] 1 W) :=
 (texts_any [t] 1 gs 1 (Hd rfl) (by decide) W (Hd (one_str h))).mono fun r Y h=>by
  obtain⟨g,c,h1,_,h3,h4⟩:=h.rows
  exact⟨g,c,h1,Hd h3,h4⟩
theorem pieces_any (x:Ex) (s:Value) (wt:Int) (W:World) (hS:SgnAt W) (h1:1≤x.kind) (h21:x.kind≤21) (hs:IntsAt W s x.args) (hal:x.args.length≤1000) (PR:x.kind=1→∀Y,Below W.heap.size W Y→Calls prog 77 #[.int .i64 x.v] Y fun r Z=>r=.returned (.string (str (shortL x.v 32)))∧Below Y.heap.size Y Z) :
  Calls prog 37 #[exVal x s,.int .i64 wt] W fun r Y=>GivesPc (piecesP x wt) W r Y:=by
 have OW:Hid (∀Y,Below W.heap.size W Y→Calls prog 62 #[exVal x s] Y fun r Z=>GivesPc (ownP x) Y r Z):=Hd fun Y hY=>own_anyP x s Y (fun k hk=>cell_below hY (hS k hk)) h1 h21 (hs.below hY) hal fun h Z hZ=>PR h Z (hY.trans (hZ.mono hY.size))
 have BI:Hid (∀Y,Calls prog 61 #[.int .i64 x.kind] Y fun r Z=>r=.returned (.int .i64 (tightK x.kind))∧Below Y.heap.size Y Z):=Hd fun Y=>binds_any x.kind h1 h21 Y
 obtain⟨L,hL⟩:∃L,L=ownP x:=⟨_,rfl⟩
 have hln:=ownP_len hal
 have HP:Hid (piecesP x wt=if wt≤tightK x.kind then L else [tPc ⟨#[40]⟩]++L++[tPc ⟨#[41]⟩]):=Hd (by rw[hL];rfl)
 rw[←hL] at OW hln
 obtain⟨tk,htk⟩:∃tk,tk=tightK x.kind:=⟨_,rfl⟩
 rw[←htk] at HP BI
 have ht:0≤tk∧tk≤7:=by
  rw[htk];unfold tightK
  repeat' split
  all_goals omega
 obtain⟨k,xa,xb,xc,nm,st,xv,args,pos⟩:=x
 dsimp only at *
 unfold exVal at *
 dsimp only at *
 clear PR hS hL htk hs
 have hx:=exBox W k xa xb xc nm st xv s pos
 obtain⟨Wb,hWb⟩:∃Wb,Wb=W.alloc (.cells #[.int .i64 k,.int .i64 xa,.int .i64 xb,.int .i64 xc,.string nm,.string st,.int .i64 xv,s,.int .i64 pos] 48):=⟨_,rfl⟩
 rw[←hWb] at hx
 have x0:=hx 0 _ rfl
 have x1:=hx 1 _ rfl
 have x2:=hx 2 _ rfl
 have x3:=hx 3 _ rfl
 have x4:=hx 4 _ rfl
 have x5:=hx 5 _ rfl
 have x6:=hx 6 _ rfl
 have x7:=hx 7 _ rfl
 have x8:=hx 8 _ rfl
 have HBB:Hid (Below W.heap.size W Wb):=Hd (by rw[hWb];exact(qB _ _).alloc (qL _) _)
 have HSZ:Hid (Wb.heap.size=W.heap.size+1):=Hd (by rw[hWb,World.size_alloc])
 clear hx
 go_enter Tryz.func37,Tryz.ntmps37
 go_wp2_with fail
 rw[←hWb]
 clear hWb
 (with_reducible refine(BI.out _).mono ?_)
 rintro r w1 ⟨rfl,hb1⟩
 dsimp only
 have HB1:=Hd (HBB.out.trans (hb1.mono HBB.out.size))
 have y0:=cell_below hb1 x0
 have y1:=cell_below hb1 x1
 have y2:=cell_below hb1 x2
 have y3:=cell_below hb1 x3
 have y4:=cell_below hb1 x4
 have y5:=cell_below hb1 x5
 have y6:=cell_below hb1 x6
 have y7:=cell_below hb1 x7
 have y8:=cell_below hb1 x8
 have HSZ1:Hid (W.heap.size+1≤w1.heap.size):=Hd (by rw[←HSZ.out];exact hb1.size)
 clear hb1 x0 x1 x2 x3 x4 x5 x6 x7 x8
 rcases Int.lt_or_le tk wt with hlt | hge
 ·have q1:decide (wt≤tk)=false:=qF (by omega)
  have HP2:Hid (piecesP ⟨k,xa,xb,xc,nm,st,xv,args,pos⟩ wt=[tPc ⟨#[40]⟩]++L++[tPc ⟨#[41]⟩]):=Hd (by rw[HP.out,if_neg (by omega)])
  clear HP
  obtain⟨LN,hLN⟩:∃LN,LN=L.length:=⟨_,rfl⟩
  rw[←hLN] at hln
  have OW1:Hid (∀Y,Below W.heap.size W Y→Calls prog 62 #[.agg #[.int .i64 k,.int .i64 xa,.int .i64 xb,.int .i64 xc,.string nm,.string st,.int .i64 xv,s,.int .i64 pos]] Y (Row1 L LN Y)):=Hd fun Y hY=>(OW.out Y hY).mono fun r Z h=>by
   obtain⟨g,c,h1,_,h3,h4⟩:=h.rows
   rw[←hLN] at h1
   exact⟨g,c,h1,Hd h3,h4⟩
  have HLN:=Hd hLN
  have HT:Hid ([[tPc ⟨#[40]⟩],L,[tPc ⟨#[41]⟩]].flatten.length=LN+2):=Hd (by simp[←hLN])
  have HFL:Hid ([[tPc ⟨#[40]⟩],L,[tPc ⟨#[41]⟩]].flatten=[tPc ⟨#[40]⟩]++L++[tPc ⟨#[41]⟩]):=Hd (by simp)
  have l1:0<LN:=hln.1
  have l2:((LN+2:Nat):Int)≤4000:=by omega
  clear hLN hln OW
  have tok:True:=trivial
  go_wp2_with fail
  go_region_held3 (fun w'=>Below W.heap.size W w'∧w'.cell? ⟨W.heap.size,0,none⟩=some (.int .i64 k)∧w'.cell? ⟨W.heap.size,1,none⟩=some (.int .i64 xa)∧w'.cell? ⟨W.heap.size,2,none⟩=some (.int .i64 xb)∧w'.cell? ⟨W.heap.size,3,none⟩=some (.int .i64 xc)∧w'.cell? ⟨W.heap.size,4,none⟩=some (.string nm)∧w'.cell? ⟨W.heap.size,5,none⟩=some (.string st)∧w'.cell? ⟨W.heap.size,6,none⟩=some (.int .i64 xv)∧w'.cell? ⟨W.heap.size,7,none⟩=some s∧w'.cell? ⟨W.heap.size,8,none⟩=some (.int .i64 pos))
   ((repeat' apply And.intro) <;> (repeat (first | with_reducible assumption | with_reducible exact HB1.out | with_reducible refine drew_cell ?_ | with_reducible refine alloc_cell ?_ | with_reducible apply below_al2 | with_reducible apply Below.drew | with_reducible refine cell_below hb5 ?_ | with_reducible refine cell_below hb4 ?_ | with_reducible refine cell_below hb3 ?_ | with_reducible refine cell_below hb2 ?_ | with_reducible refine below_tr ?_ hb5 | with_reducible refine below_tr ?_ hb4 | with_reducible refine below_tr ?_ hb3 | with_reducible refine below_tr ?_ hb2)))
   (first
    | (go_at_call 64;have _k:=tok;clear tok _k;(with_reducible refine Calls.mono (texts_one ⟨#[40]⟩ _ _ ?_) ?_);(focus (repeat (first | with_reducible assumption | with_reducible refine drew_cell ?_ | with_reducible exact new_cell (by simp) rfl | with_reducible refine alloc_cell ?_ | with_reducible refine T3.out _ _ ?_ | with_reducible refine T2.out _ _ ?_)));(rintro r2 w2 ⟨g2,c2,rfl,C2,hb2⟩);have T2:=Hd (fun a v (h:World.cell? _ a=some v)=>cell_below hb2 h);have tok3:True:=trivial)
    | (go_at_call 62;(with_reducible refine Calls.mono (OW1.out _ ?_) ?_);(focus (repeat (first | with_reducible assumption | with_reducible exact HB1.out | with_reducible apply below_al2 | with_reducible apply Below.drew | with_reducible refine below_tr ?_ hb3 | with_reducible refine below_tr ?_ hb2)));(rintro r3 w3 ⟨g3,c3,rfl,C3,hb3⟩);have T3:=Hd (fun a v (h:World.cell? _ a=some v)=>cell_below hb3 h))
    | (go_at_call 64;have _k:=tok3;clear tok3 _k;(with_reducible refine Calls.mono (texts_one ⟨#[41]⟩ _ _ ?_) ?_);(focus (repeat (first | with_reducible assumption | with_reducible refine drew_cell ?_ | with_reducible exact new_cell (by simp) rfl | with_reducible refine alloc_cell ?_ | with_reducible refine T3.out _ _ ?_ | with_reducible refine T2.out _ _ ?_)));(rintro r4 w4 ⟨g4,c4,rfl,C4,hb4⟩);have T4:=Hd (fun a v (h:World.cell? _ a=some v)=>cell_below hb4 h))
    | (go_at_call 63;(with_reducible refine Calls.mono (concat_any [[tPc ⟨#[40]⟩],L,[tPc ⟨#[41]⟩]] 3 (LN+2) _ 3 (Hd rfl) (by decide) HT l2 (by omega) _ ?_) ?_);(focus (refine Hd (rows3 (n1:=1) (n2:=LN) (n3:=1) (g1:=g2) (g2:=g3) (g3:=g4) (k1:=c2) (k2:=c3) (k3:=c4) rfl HLN.out.symm rfl (by decide) l1 (by decide) ?_ ?_ ?_ ?_ ?_ ?_) <;> first | (first | exact new_cell (by simp) rfl | exact drew_cell (new_cell (by simp) rfl)) | (intro i u hu;repeat (first | with_reducible exact C4.out i u hu | with_reducible exact C3.out i u hu | with_reducible exact C2.out i u hu | with_reducible refine drew_cell ?_ | with_reducible refine alloc_cell ?_ | with_reducible refine T4.out _ _ ?_ | with_reducible refine T3.out _ _ ?_ | with_reducible refine T2.out _ _ ?_))));(rintro r5 w5 h5);have H5:Hid (GivesPc [[tPc ⟨#[40]⟩],L,[tPc ⟨#[41]⟩]].flatten W r5 w5):=Hd (h5.from (by repeat (first | with_reducible assumption | with_reducible exact HB1.out | with_reducible apply below_al2 | with_reducible apply Below.drew | with_reducible refine below_tr ?_ hb4 | with_reducible refine below_tr ?_ hb3 | with_reducible refine below_tr ?_ hb2)));(obtain⟨g5,c5,h9,h6,hb5⟩:=h5);(rw[HT.out] at h9);(subst h9);clear h6))
  all_goals (
   go_wp2_with fail
   go_ret
   rw[HP2.out,←HFL.out]
   exact H5.out)
 ·have q1:decide (wt≤tk)=true:=qT hge
  have HP2:Hid (piecesP ⟨k,xa,xb,xc,nm,st,xv,args,pos⟩ wt=L):=Hd (by rw[HP.out,if_pos hge])
  clear HP
  go_wp2_with fail
  (with_reducible refine(OW.out _ HB1.out).mono ?_)
  rintro r w2 h1
  have H1:=Hd (h1.from HB1.out)
  obtain⟨g,c,rfl,h2,h3⟩:=h1
  dsimp only
  clear h2 h3
  go_wp2_with fail
  go_ret
  rw[HP2.out]
  exact H1.out
theorem ix_pcs {o:Option Addr} {n cap b off:Nat} (h:0<n→o=some ⟨b,off,none⟩) {j:Nat} (hj:j<n) (hn:n≤9223372036854775807):Ix 85 3 (.slice o n cap) b off j:=by
 intro W
 rw[h (by omega)]
 have h1:(j:Int)<(n:Int):=by omega
 have h2:(j:Int)≤9223372036854775807:=by omega
 go_simp
def PcRow (c0:Array Value) (W:World) (g o m:Nat) (f:Nat→Pc):Prop:=∃cs:Array Value,W.heap[g]?=some (.cells cs 84 (0,0))∧(o+m*3≤cs.size∧cs.size=c0.size∧∀j,j<o→cs[j]?=c0[j]?)∧∀i,i<m→cs[o+i*3]?=some (.string (f i).text)∧cs[o+i*3+1]?=some (.int .i64 (f i).e)∧cs[o+i*3+2]?=some (.int .i64 (f i).wanted)
theorem PcRow.cell {W:World} {g o m:Nat} {c0:Array Value} {f:Nat→Pc} (h:PcRow c0 W g o m f) {i:Nat} (hi:i<m):W.cell? ⟨g,o+i*3,none⟩=some (.string (f i).text)∧W.cell? ⟨g,o+i*3+1,none⟩=some (.int .i64 (f i).e)∧W.cell? ⟨g,o+i*3+2,none⟩=some (.int .i64 (f i).wanted):=by
 obtain⟨cs,h1,_,h3⟩:=h
 obtain⟨a,b,c⟩:=h3 i hi
 exact⟨by simp[World.cell?,h1,a],by simp[World.cell?,h1,b],by simp[World.cell?,h1,c]⟩
theorem PcRow.frozen {W:World} {g o m:Nat} {c0:Array Value} {f:Nat→Pc} (h:PcRow c0 W g o m f) (j:Nat):W.frozen? ⟨g,j,none⟩=false:=by obtain⟨cs,h1,_⟩:=h;simp[World.frozen?,h1]
theorem PcRow.put {W:World} {g o m:Nat} {c0:Array Value} {f:Nat→Pc} (h:PcRow c0 W g o m f) (i:Nat) (q:Pc):PcRow c0 (((W.setCell ⟨g,o+i*3,none⟩ (.string q.text)).setCell ⟨g,o+i*3+1,none⟩ (.int .i64 q.e)).setCell ⟨g,o+i*3+2,none⟩ (.int .i64 q.wanted)) g o m (fun p=>if p=i then q else f p):=by
 obtain⟨cs,h1,h2,h3⟩:=h
 refine⟨_,set_hp (set_hp (set_hp h1 _ _) _ _) _ _,⟨by simpa using h2.1,by simpa using h2.2.1,fun j hj=>?_⟩,fun p hp=>?_⟩
 ·rw[←h2.2.2 j hj,Array.getElem?_setIfInBounds_ne (by omega),Array.getElem?_setIfInBounds_ne (by omega),Array.getElem?_setIfInBounds_ne (by omega)]
 obtain⟨a,b,c⟩:=h3 p hp
 simp only[Array.getElem?_setIfInBounds,Array.size_setIfInBounds]
 by_cases hpi:p=i
 ·subst hpi
  have h20:=h2.1
  refine⟨?_,?_,?_⟩
  ·rw[if_neg (by omega),if_neg (by omega),if_pos rfl,if_pos (by omega),if_pos rfl]
  ·rw[if_neg (by omega),if_pos rfl,if_pos (by omega),if_pos rfl]
  ·rw[if_pos rfl,if_pos (by omega),if_pos rfl]
 ·refine⟨?_,?_,?_⟩
  ·rw[if_neg (by omega),if_neg (by omega),if_neg (by omega),a,if_neg hpi]
  ·rw[if_neg (by omega),if_neg (by omega),if_neg (by omega),b,if_neg hpi]
  ·rw[if_neg (by omega),if_neg (by omega),if_neg (by omega),c,if_neg hpi]
theorem grown_set {W X:World} {g:Nat} (h:W.grownBy X (some g)) (i:Nat) (v:Value):W.grownBy (X.setCell ⟨g,i,none⟩ v) (some g) :=
 ⟨h.os,h.tape,h.output,by simpa [World.setCell] using h.size,fun k hk hne=>by
  rw[←h.block k hk hne]
  have:g≠k:=fun e=>hne (by rw[e])
  simp[World.setCell,Array.getElem?_modify,this]⟩
theorem grown_drew {W X:World} {r:Option Nat} (h:W.grownBy X r):W.grownBy X.drew r:=⟨h.os,h.tape,h.output,h.size,h.block⟩
theorem PcRow.drew {W:World} {g o m:Nat} {c0:Array Value} {f:Nat→Pc} (h:PcRow c0 W g o m f):PcRow c0 W.drew g o m f:=h
theorem PcRow.congr {W:World} {g o m:Nat} {c0:Array Value} {f f':Nat→Pc} (h:PcRow c0 W g o m f) (he:∀p,p<m→f p=f' p):PcRow c0 W g o m f':=by
 obtain⟨cs,h1,h2,h3⟩:=h
 exact⟨cs,h1,h2,fun p hp=>by rw[←he p hp];exact h3 p hp⟩
theorem reverse_anyP (g o m cap:Nat) (f:Nat→Pc) (hm:(m:Int)≤4000) (W:World) (c0:Array Value) (hR:PcRow c0 W g o m f) :
  Calls prog 38 #[.slice (some ⟨g,o,none⟩) m cap] W fun r Y=>r=.returned (.tuple #[])∧PcRow c0 Y g o m (fun i=>f (m-1-i))∧W.grownBy Y (some g):=by
 have HR:=Hd hR
 go_enter Tryz.func38,Tryz.ntmps38
 go_wp2_with fail
 go_loopw [2,3] (fun i j wr=>∃(k:Nat) (z:Int),i=.int .i64 (k:Int)∧j=.int .i64 z∧z=(m:Int)-1-(k:Int)∧k≤m∧Hid (PcRow c0 wr g o m (fun p=>if p<k∨m≤p+k then f (m-1-p) else f p)∧W.grownBy wr (some g))) (fun i _ _=>m-litLen i)
 case atStart=>exact⟨0,_,rfl,rfl,by omega,by omega,Hd ⟨by obtain⟨cs,h1,h2,h3⟩:=hR;exact⟨cs,h1,h2,fun i hi=>by have:=h3 i hi;simpa [show ¬m≤i by omega] using this⟩,⟨rfl,rfl,rfl,qL _,fun _ _ _=>rfl⟩⟩⟩
 case round =>
  obtain⟨k,z,rfl,rfl,hz,hk,hI⟩:=hrel
  by_cases hlt:(k:Int)<z
  ·have q1:decide ((k:Int)<z)=true:=qT hlt
   obtain⟨j,hj⟩:∃j:Nat,z=(j:Int):=⟨z.toNat,by omega⟩
   subst hj
   have q1n:decide (k<j)=true:=qT (by omega)
   have hjm:j<m:=by omega
   have hkm:k<m:=by omega
   obtain⟨a0,a1,a2⟩:=hI.out.1.cell hkm
   obtain⟨b0,b1,b2⟩:=hI.out.1.cell hjm
   have e1:(if k<k∨m≤k+k then f (m-1-k) else f k)=f k:=if_neg (by omega)
   have e2:(if j<k∨m≤j+k then f (m-1-j) else f j)=f j:=if_neg (by omega)
   rw[e1] at a0 a1 a2
   rw[e2] at b0 b1 b2
   have fr:=hI.out.1.frozen
   have ixk:=ix_pcs (o:=some ⟨g,o,none⟩) (n:=m) (cap:=cap) (b:=g) (off:=o) (fun _=>rfl) hkm (by omega)
   have ixj:=ix_pcs (o:=some ⟨g,o,none⟩) (n:=m) (cap:=cap) (b:=g) (off:=o) (fun _=>rfl) hjm (by omega)
   unfold Ix at ixk ixj
   have kj:k≠j:=by omega
   have HZ:=Hd hz
   have mixed:prog.follows .mixedOrders=true:=by kernel_rfl
   clear e1 e2 hz
   go_wp2_with fail
   go_region_o
   all_goals (
    go_wp2_with fail
    have hz:=HZ.out
    refine(fun(HN:PcRow c0 _ g o m (fun p=>if p<k+1∨m≤p+(k+1) then f (m-1-p) else f p))=>?_) (PcRow.drew (PcRow.congr ((hI.out.1.put k (f j)).put j (f k)) ?hc))
    exact⟨⟨k+1,_,rfl,rfl,by omega,by omega,Hd ⟨HN,grown_drew (grown_set (grown_set (grown_set (grown_set (grown_set (grown_set hI.out.2 _ _) _ _) _ _) _ _) _ _) _ _)⟩⟩,by simp[litLen];omega⟩
    case hc =>
     intro p hp
     by_cases h1:p=j
     ·subst h1
      rw[if_pos rfl,if_pos (by omega)];congr 1;omega
     ·rw[if_neg h1]
      by_cases h2:p=k
      ·subst h2
       rw[if_pos rfl,if_pos (by omega)];congr 1;omega
      ·rw[if_neg h2]
       by_cases h3:p<k∨m≤p+k
       ·rw[if_pos h3,if_pos (by omega)]
       ·rw[if_neg h3,if_neg (by omega)])
  ·have q1:decide ((k:Int)<z)=false:=qF hlt
   have HZ:=Hd hz
   clear hz
   go_wp2_with fail
   go_end0
   refine⟨rfl,hI.out.1.congr fun p hp=>?_,hI.out.2⟩
   split
   ·rfl
   ·have:=HZ.out
    congr 1
    omega
theorem wlt_of_heap {w:World} {k:Nat} {o:Obj} (h:w.heap[k]?=some o):k<w.heap.size:=(Array.getElem?_eq_some_iff.1 h).1
theorem wstr_data (l:List UInt8):(str l).data=l.toArray:=rfl
def WrAt (B b:Nat) (s p:Value) (bs:List Value) (w:World):Prop :=
 B≤b∧∃v,w.heap[b]?=some (.cells #[p,v,s] 59 (0,0))∧w.ownsRow B 5 1 v bs.length bs∧v.ownBlock≠some b
def IsWr (B b:Nat) (s:Value) (bs:List Value) (w:World):Prop:=WrAt B b s (.pointer none) bs w∨WrAt B b s (.pointer (some ⟨b,0,none⟩)) bs w
theorem wset_heap {W:World} {g:Nat} {cs:Array Value} {T:TypeId} {fr:Nat×Nat} (h:W.heap[g]?=some (.cells cs T fr)) (i:Nat) (v:Value):(W.setCell ⟨g,i,none⟩ v).heap[g]?=some (.cells (cs.setIfInBounds i v) T fr):=set_hp h i v
theorem own_other {W X:World} {B:Nat} {e:TypeId} {v:Value} {n:Nat} {xs:List Value} (h:W.ownsRow B e 1 v n xs) (hb:∀g,v.ownBlock=some g→X.heap[g]?=W.heap[g]?):X.ownsRow B e 1 v n xs:=by
 refine⟨h.1,?_⟩
 rcases h.2 with hn | ⟨g,cap,cur,rfl,h1,h2,h3⟩
 ·exact .inl hn
 ·exact .inr ⟨g,cap,cur,rfl,h1,by rw[hb g rfl];exact h2,h3⟩
theorem wset_other {W:World} {g k i:Nat} {v:Value} (h:g≠k):(W.setCell ⟨g,i,none⟩ v).heap[k]?=W.heap[k]?:=by simp[World.setCell,Array.getElem?_modify,h]
theorem WrAt.used {B b:Nat} {s p:Value} {bs:List Value} {w:World} (h:WrAt B b s p bs w) (q:Value):WrAt B b s q bs (w.setCell ⟨b,0,none⟩ q):=by
 obtain⟨hB,v,hb,ho,hne⟩:=h
 refine⟨hB,v,?_,own_other ho fun g hg=>wset_other (fun e=>hne (by rw[hg,e])),hne⟩
 rw[wset_heap hb];rfl
theorem WrAt.put {B b:Nat} {s p v v':Value} {bs':List Value} {w:World} (hB:B≤b) (hb:w.heap[b]?=some (.cells #[p,v,s] 59 (0,0))) (ho:w.ownsRow B 5 1 v' bs'.length bs') (hne:v'.ownBlock≠some b):WrAt B b s p bs' (w.setCell ⟨b,1,none⟩ v'):=by
 refine⟨hB,v',?_,own_other ho fun g hg=>wset_other (fun e=>hne (by rw[hg,e])),hne⟩
 rw[wset_heap hb];rfl
theorem WrAt.cells {B b:Nat} {s p:Value} {bs:List Value} {w:World} (h:WrAt B b s p bs w):w.cell? ⟨b,0,none⟩=some p∧w.cell? ⟨b,2,none⟩=some s∧w.shape? b=some (59,3)∧w.frozen? ⟨b,0,none⟩=false:=by
 obtain⟨_,v,hb,_⟩:=h
 exact⟨by simp[World.cell?,hb],by simp[World.cell?,hb],by simp[World.shape?,hb],by simp[World.frozen?,hb]⟩
theorem size_builder:(prog.info? 57).map (·.size)=some 2:=by kernel_rfl
theorem lies_builder:liesAt prog prog.depth 59 (3 / prog.cellsOf 59) 0 57 1=true:=by kernel_rfl
theorem info_byte:(prog.info? 5).map (fun i=>(i.zero,i.size,i.bytes))=some (some (.int .u8 0),1,1):=by kernel_rfl
theorem copy_used (b:Nat) (w:World) (h0:w.cell? ⟨b,0,none⟩=some (.pointer (some ⟨b,0,none⟩))) :
  Calls prog 76 #[.pointer (some ⟨b,0,none⟩)] w fun e w'=>e=.returned (.tuple #[])∧w'=w:=by
 obtain⟨j,hj,_⟩:=Option.map_eq_some_iff.1 size_builder
 go_enter Tryz.func76,Tryz.ntmps76
 go_wp2_with fail
 rw[Lib.run_neq_ptr_same w _ Tryz.underlying54 hj]
 go_wp2_with fail
 go_end0
 exact⟨rfl,rfl⟩
theorem copy_fresh (b:Nat) (w:World) (h0:w.cell? ⟨b,0,none⟩=some (.pointer none)) (hsh:w.shape? b=some (59,3)) (hfz:w.frozen? ⟨b,0,none⟩=false) :
  Calls prog 76 #[.pointer (some ⟨b,0,none⟩)] w fun e w'=>e=.returned (.tuple #[])∧w'=w.setCell ⟨b,0,none⟩ (.pointer (some ⟨b,0,none⟩)):=by
 obtain⟨j,hj,hjs⟩:=Option.map_eq_some_iff.1 size_builder
 go_enter Tryz.func76,Tryz.ntmps76
 go_wp2_with fail
 rw[Lib.run_to_unsafe w ⟨b,0,none⟩ Tryz.underlying54 Tryz.underlying131 hj (by rw[hjs];decide) hsh (Nat.zero_lt_succ 2)]
 simp only[Result.andThen]
 rw[Oper.upon_value]
 go_wp2_with fail
 rw[run_callFunc_extern Tryz.func85 (by kernel_rfl) (by kernel_rfl) (by kernel_rfl) (e:=Extern.AbiNoEscape.same) (by kernel_rfl)]
 rw[Lib.run_noEscape]
 simp only[Result.andThen]
 rw[Oper.upon_value]
 go_wp2_with fail
 rw[Lib.run_from_unsafe w ⟨b,0,none⟩ Tryz.underlying131 Tryz.underlying54 hj hsh lies_builder]
 simp only[Result.andThen]
 rw[Oper.upon_value]
 go_wp2_with fail
 go_end0
 exact⟨rfl,rfl⟩
theorem ownsRow_kind {w:World} {B:Nat} {e:TypeId} {v:Value} {n:Nat} {xs:List Value} (h:w.ownsRow B e 1 v n xs):∀g,v.ownBlock=some g→∃c fz,w.heap[g]?=some (.cells c e fz):=by
 intro g hg
 rcases h.2 with ⟨rfl,_⟩ | ⟨g',cap,cur,rfl,_,hgg,_⟩
 ·simp[Value.ownBlock] at hg
 ·simp[Value.ownBlock] at hg
  subst hg
  exact⟨cur,_,hgg⟩
theorem copy_any (B b:Nat) (s:Value) (bs:List Value) (w:World) (h:IsWr B b s bs w) :
  Calls prog 76 #[.pointer (some ⟨b,0,none⟩)] w fun e w'=>e=.returned (.tuple #[])∧(WrAt B b s (.pointer (some ⟨b,0,none⟩)) bs w'∧Below B w w'∧Lib.OthersKept 5 (some b) w w'):=by
 rcases h with h | h
 ·obtain⟨c0,_,cs,cf⟩:=h.cells
  exact(copy_fresh b w c0 cs cf).mono fun e w' ⟨h1,h2⟩=>⟨h1,by rw[h2];exact h.used _,by rw[h2];exact(qB B w).setCell (p:=⟨b,0,none⟩) h.1 _,by rw[h2];exact(Lib.OthersKept.refl _ _ w).setCell (p:=⟨b,0,none⟩) rfl _⟩
 ·exact(copy_used b w h.cells.1).mono fun e w' ⟨h1,h2⟩=>⟨h1,by rw[h2];exact h,by rw[h2];exact qB B _,by rw[h2];exact Lib.OthersKept.refl _ _ w⟩
theorem write_str (B b:Nat) (s:Value) (m t:List UInt8) (w:World) (h:IsWr B b s (Lib.byteCells m) w) (hlen:m.length+t.length≤100000000000000) (hBw:B≤w.heap.size) :
  Calls prog 60 #[.pointer (some ⟨b,0,none⟩),.string (str t)] w fun e w'=>e=.returned (.tuple #[.int .i64 (t.length:Int),.nilIface])∧IsWr B b s (Lib.byteCells (m++t)) w'∧Below B w w'∧Lib.OthersKept 5 (some b) w w':=by
 obtain⟨i0,hi,hz0,hz1,hz2⟩:=info_parts info_byte
 have hts:(str t).size=t.length:=str_size t
 have hml:(Lib.byteCells m).length=m.length:=Lib.byteCells_length m
 have C:=Hd (copy_any B b s _ w h)
 have HML:=Hd hml
 clear hml h
 go_enter Tryz.func60,Tryz.ntmps60
 go_wp2_with (go_at_call 76;refine C.out.mono ?_)
 rintro e w1 ⟨rfl,h1,hb1,ho1⟩
 obtain⟨hB,v,hbk,hown,hne⟩:=h1
 have c0:w1.cell? ⟨b,0,none⟩=some (.pointer (some ⟨b,0,none⟩)):=by rw[Lib.cell_of_heap hbk];rfl
 have c1:w1.cell? ⟨b,1,none⟩=some v:=by rw[Lib.cell_of_heap hbk];rfl
 go_wp2_with (at_builtin;refine Lib.wpList_append_own_string _ rfl _ _ 55 9 rfl B 5 i0 Tryz.underlying55 Tryz.underlying9 hi hz0 hz1 hz2 _ _ _ rfl hown (str t) rfl ?c3 ?c4 ?c5 ?_)
 case c3=>unfold maxLen;have:=HML.out;omega
 case c4=>have:=HML.out;omega
 case c5=>have:=hb1.size;omega
 intro v' w2 hown' hgrow _
 have hlt:b<w1.heap.size:=wlt_of_heap hbk
 have hb2:w2.heap[b]?=some (.cells #[.pointer (some ⟨b,0,none⟩),v,s] 59 (0,0)):=by
  rw[hgrow.block b hlt (fun e=>hne e.symm)]
  exact hbk
 have d0:w2.cell? ⟨b,0,none⟩=some (.pointer (some ⟨b,0,none⟩)):=by rw[Lib.cell_of_heap hb2];rfl
 have d1:w2.cell? ⟨b,1,none⟩=some v:=by rw[Lib.cell_of_heap hb2];rfl
 have f1:w2.frozen? ⟨b,1,none⟩=false:=Lib.frozen_of_heap hb2 1
 obtain⟨ao,n',cap,rfl⟩:∃ao n' cap,v'=.slice ao n' cap:=by
  rcases hown'.2 with ⟨hv,_⟩ | ⟨g,cap,cur,hv,_⟩
  ·exact⟨_,_,_,hv⟩
  ·exact⟨_,_,_,hv⟩
 go_wp2_with fail
 go_ret2
 have ecat:Lib.byteCells (m++t)=Lib.byteCells m++Lib.strCells (str t):=by rw[Lib.strCells_eq,wstr_data];unfold Lib.byteCells;rw[List.map_append]
 refine⟨rfl,.inr ?_,?_,?_⟩
 ·rw[ecat]
  refine WrAt.put hB hb2 (bs':=Lib.byteCells m++Lib.strCells (str t)) (by simpa [Lib.strCells_length,hts] using hown') (Lib.ownBlock_ne hown' hb2 (by decide))
 ·exact(hb1.grown hgrow (by have:=hb1.size;omega) (fun k hk=>(hown.lt k hk).1)).setCell (p:=⟨b,1,none⟩) hB _
 ·exact(ho1.grown hgrow (fun k hk=>ownsRow_kind hown k hk)).setCell (p:=⟨b,1,none⟩) rfl _
def catL (ss:List ByteArray):List UInt8:=(ss.map fun s=>s.data.toList).flatten
def StrRow (W:World) (gs:Nat) (ss:List ByteArray):Prop:=∃fz,W.heap[gs]?=some (.cells ⟨ss.map Value.string⟩ 9 fz)
theorem StrRow.cell {W:World} {gs:Nat} {ss:List ByteArray} (h:StrRow W gs ss) {i:Nat} {s:ByteArray} (hs:ss[i]?=some s):W.cell? ⟨gs,i,none⟩=some (.string s):=by
 obtain⟨fz,h1⟩:=h
 simp[World.cell?,h1,hs]
theorem StrRow.kept {W Y:World} {gs b:Nat} {ss:List ByteArray} (h:StrRow W gs ss) (hg:gs≠b) (hk:Lib.OthersKept 5 (some b) W Y):StrRow Y gs ss:=by
 obtain⟨fz,h1⟩:=h
 exact⟨fz,hk gs _ h1 (by simpa using hg) (by intro c fz' e;injection e with e1 e2;revert e2;decide)⟩
theorem catL_succ {ss:List ByteArray} {j:Nat} {s:ByteArray} (h:ss[j]?=some s):catL (ss.take (j+1))=catL (ss.take j)++s.data.toList:=by
 unfold catL
 rw[List.take_add_one,h];simp
theorem catL_le (ss:List ByteArray) (j:Nat):(catL (ss.take j)).length≤(catL ss).length:=by
 conv=>rhs;rw[←List.take_append_drop j ss]
 unfold catL
 rw[List.map_append,List.flatten_append,List.length_append]
 omega
theorem str_of (s:ByteArray):str s.data.toList=s:=rfl
theorem ix_strP {o:Option Addr} {n cap b off:Nat} (h:0<n→o=some ⟨b,off,none⟩) {j:Nat} (hj:j<n) (hn:n≤9223372036854775807):Ix 34 1 (.slice o n cap) b off j:=by
 intro W
 rw[h (by omega)]
 have h1:(j:Int)<(n:Int):=by omega
 have h2:(j:Int)≤9223372036854775807:=by omega
 go_simp
theorem wput_any (B b gs n cap:Nat) (s:Value) (m:List UInt8) (ss:List ByteArray) (hn:Hid (ss.length=n)) (nl:(n:Int)≤1000) (W:World) (hw:Hid (IsWr B b s (Lib.byteCells m) W)) (hS:Hid (StrRow W gs ss)) (hg:gs≠b) (hlen:m.length+(catL ss).length≤100000000000000) (hB:B≤W.heap.size) :
  Calls prog 36 #[.pointer (some ⟨b,0,none⟩),.slice (some ⟨gs,0,none⟩) n cap] W fun r Y=>r=.returned (.tuple #[])∧IsWr B b s (Lib.byteCells (m++catL ss)) Y∧Below B W Y∧Lib.OthersKept 5 (some b) W Y:=by
 go_enter Tryz.func36,Tryz.ntmps36
 go_wp2_with fail
 go_loopw [8] (fun i wr=>∃(j:Nat),j≤n∧i=.int .i64 (j:Int)∧Hid (IsWr B b s (Lib.byteCells (m++catL (ss.take j))) wr∧Below B W wr∧Lib.OthersKept 5 (some b) W wr)) (fun i _=>n-litLen i)
 case atStart=>exact⟨0,by omega,rfl,Hd ⟨by show IsWr B b s (Lib.byteCells (m++[])) W;rw[List.append_nil];exact hw.out,qB _ _,Lib.OthersKept.refl _ _ _⟩⟩
 case round =>
  obtain⟨j,hj,rfl,hI⟩:=hrel
  rcases Nat.lt_or_ge j n with hlt | hge
  ·have q1:decide ((j:Int)<(n:Int))=true:=qT (by omega)
   have q1n:decide (j<n)=true:=qT hlt
   obtain⟨t,ht⟩:∃t,ss[j]?=some t:=⟨_,List.getElem?_eq_getElem (by have:=hn.out;omega)⟩
   have hc:=(hS.out.kept hg hI.out.2.2).cell ht
   have ix:=ix_strP (o:=some ⟨gs,0,none⟩) (n:=n) (cap:=cap) (b:=gs) (off:=0) (fun _=>rfl) hlt (by omega)
   unfold Ix at ix
   rw[Nat.mul_one,Nat.zero_add] at ix
   have hsn:=catL_succ ht
   have hle:=catL_le ss (j+1)
   have C:=Hd (write_str B b s (m++catL (ss.take j)) t.data.toList wr hI.out.1 (by rw[hsn,List.length_append] at hle;rw[List.length_append];omega) (by have:=hI.out.2.1.size;omega))
   rw[str_of] at C
   have HSN:=Hd hsn
   have c0:(wr.cell? ⟨b,0,none⟩).isSome=true:=by rcases hI.out.1 with h | h <;> (rw[h.cells.1];rfl)
   clear hsn hle ht
   go_wp2_with fail
   (with_reducible refine C.out.mono ?_)
   rintro r w1 ⟨rfl,h1,h2,h3⟩
   dsimp only
   have HN:Hid (IsWr B b s (Lib.byteCells (m++catL (ss.take (j+1)))) w1∧Below B W w1∧Lib.OthersKept 5 (some b) W w1):=Hd ⟨by rw[HSN.out,←List.append_assoc];exact h1,hI.out.2.1.trans h2,hI.out.2.2.trans h3⟩
   clear h1 h2 h3
   go_wp2_with fail
   exact⟨⟨j+1,by omega,rfl,HN⟩,by simp[litLen];omega⟩
  ·have q1:decide ((j:Int)<(n:Int))=false:=qF (by omega)
   have q1n:decide (j<n)=false:=qF (by omega)
   have HJ:Hid (ss.take j=ss):=Hd (List.take_of_length_le (by have:=hn.out;omega))
   go_wp2_with fail
   go_end0
   rw[←HJ.out]
   exact⟨rfl,hI.out⟩
theorem cells_byte:prog.cellsOf 5=1:=by kernel_rfl
theorem string_writer (B b:Nat) (s:Value) (l:List UInt8) (w:World) (h:IsWr B b s (Lib.byteCells l) w) (h0:l≠[]) :
  Calls prog 20 #[.pointer (some ⟨b,0,none⟩)] w fun e w'=>e=.returned (.string (str l))∧Below B w w':=by
 obtain⟨p,hB,v,hbk,hown,hne⟩:∃p,WrAt B b s p (Lib.byteCells l) w:=by
  rcases h with h | h
  ·exact⟨_,h⟩
  ·exact⟨_,h⟩
 have hl0:l.length≠0:=by simpa using h0
 rw[Lib.byteCells_length] at hown
 obtain⟨g,cap,cur,rfl,hbg,hg,hnc,hcm,hcs,htake⟩:∃g cap cur,v=.slice (some ⟨g,0,none⟩) l.length cap∧B≤g∧w.heap[g]?=some (.cells cur 5 (0,0))∧l.length≤cap∧cap≤maxLen∧cur.size=cap*1∧cur.toList.take (l.length*1)=Lib.byteCells l:=by
  rcases hown.2 with ⟨_,hz⟩ | ⟨g,cap,cur,hv,r⟩
  ·exact absurd hz hl0
  ·exact⟨g,cap,cur,hv,r⟩
 have c1:w.drew.cell? ⟨b,1,none⟩=some (.slice (some ⟨g,0,none⟩) l.length cap):=by
  have:w.drew.heap[b]?=some (.cells #[p,.slice (some ⟨g,0,none⟩) l.length cap,s] 59 (0,0)):=hbk
  rw[Lib.cell_of_heap this];rfl
 have hSD:(Builtin.unsafeSliceData_ #[55] 91 #[.slice (some ⟨g,0,none⟩) l.length cap]).run prog w.drew=.ok (.pointer (some ⟨g,0,none⟩)) w.drew :=
  Lib.run_unsafeSliceData_row _ _ _ _ _ _ (by omega)
 have hUS:(Builtin.unsafeString_ #[91,3] 9 #[.pointer (some ⟨g,0,none⟩),.int .i64 l.length]).run prog w.drew=.ok (.string ⟨l.toArray⟩) (w.drew.freeze ⟨g,0,none⟩ l.length):=by
  refine Lib.run_unsafeString_row w.drew 91 3 9 5 Tryz.underlying91 cells_byte g cur.size (by have hg':w.drew.heap[g]?=some (.cells cur 5 (0,0)):=hg;simp[World.shape?,hg']) l h0 (by omega) (by unfold maxLen at hcm;omega) ?_
  intro j x hx
  have:=hown.cells (g:=g) rfl j (.int .u8 x.toNat) (by simp[Lib.byteCells,hx])
  exact this
 have mixed:prog.follows .mixedOrders=true:=by kernel_rfl
 go_enter Tryz.func20,Tryz.ntmps20
 go_wp2_with fail
 go_region_o
 all_goals (go_wp2_with fail;go_ret;exact⟨rfl,Lib.below_freeze (Below.drew (qB B w)) (p:=⟨g,0,none⟩) hbg _⟩)
theorem string_fresh (B b:Nat) (p s:Value) (w:World) (hbk:w.heap[b]?=some (.cells #[p,.slice none 0 0,s] 59 (0,0))) :
  Calls prog 20 #[.pointer (some ⟨b,0,none⟩)] w fun e w'=>e=.returned (.string ⟨#[]⟩)∧Below B w w':=by
 have c1:w.drew.cell? ⟨b,1,none⟩=some (.slice none 0 0):=by
  have:w.drew.heap[b]?=some (.cells #[p,.slice none 0 0,s] 59 (0,0)):=hbk
  rw[Lib.cell_of_heap this];rfl
 have hSD:(Builtin.unsafeSliceData_ #[55] 91 #[.slice none 0 0]).run prog w.drew=.ok (.pointer none) w.drew:=rfl
 have hUS:(Builtin.unsafeString_ #[91,3] 9 #[.pointer none,.int .i64 0]).run prog w.drew=.ok (.string .empty) w.drew:=Lib.run_unsafeString_none w.drew _ _ _ none
 have mixed:prog.follows .mixedOrders=true:=by kernel_rfl
 go_enter Tryz.func20,Tryz.ntmps20
 go_wp2_with fail
 go_region_o
 all_goals (go_wp2_with fail;go_ret;exact⟨rfl,Below.drew (qB B w)⟩)
theorem typed_any (k:Int) (W:World):Calls prog 41 #[.int .i64 k] W fun r Y=>r=.returned (.string (typeB k))∧Below W.heap.size W Y:=by
 by_cases h1:k=1
 ·have q1:(k ==1)=true:=by rw[h1];rfl
  have e:typeB k=⟨#[102,105,120]⟩:=by unfold typeB;rw[if_pos h1]
  rw[e]
  clear h1 e
  go_enter Tryz.func41,Tryz.ntmps41
  go_wp2_with fail
  go_ret
  exact⟨rfl,qB _ _⟩
 ·have q1:(k ==1)=false:=by simpa using h1
  by_cases h2:k=2
  ·have q2:(k ==2)=true:=by rw[h2];rfl
   have e:typeB k=⟨#[98,111,111,108]⟩:=by unfold typeB;rw[if_neg h1,if_pos h2]
   rw[e]
   clear h1 h2 e
   go_enter Tryz.func41,Tryz.ntmps41
   go_wp2_with fail
   go_ret
   exact⟨rfl,qB _ _⟩
  ·have q2:(k ==2)=false:=by simpa using h2
   have e:typeB k=⟨#[63]⟩:=by unfold typeB;rw[if_neg h1,if_neg h2]
   rw[e]
   clear h1 h2 e
   go_enter Tryz.func41,Tryz.ntmps41
   go_wp2_with fail
   go_ret
   exact⟨rfl,qB _ _⟩
theorem isWr_alloc {B b:Nat} {s:Value} {bs:List Value} {w:World} (h:IsWr B b s bs w) (o:Obj):IsWr B b s bs (w.alloc o):=by
 rcases h with ⟨hB,v,hb,hown,hne⟩ | ⟨hB,v,hb,hown,hne⟩
 ·exact .inl ⟨hB,v,(((qB w.heap.size w).alloc (qL _) o).block b (wlt_of_heap hb)).trans hb,hown.alloc o,hne⟩
 ·exact .inr ⟨hB,v,(((qB w.heap.size w).alloc (qL _) o).block b (wlt_of_heap hb)).trans hb,hown.alloc o,hne⟩
theorem others_alloc (b:Option Nat) (w:World) (o:Obj):Lib.OthersKept 5 b w (w.alloc o):=(Lib.OthersKept.refl _ _ w).alloc o
theorem line_any (B b gs n cap:Nat) (s:Value) (m:List UInt8) (ss:List ByteArray) (hn:Hid (ss.length=n)) (nl:(n:Int)≤1000) (W:World) (hw:Hid (IsWr B b s (Lib.byteCells m) W)) (hS:Hid (StrRow W gs ss)) (hg:gs≠b) (hlen:m.length+(catL ss).length≤90000000000000) (hB:B≤W.heap.size) (hbs:b<W.heap.size) :
  Calls prog 39 #[.pointer (some ⟨b,0,none⟩),.slice (some ⟨gs,0,none⟩) n cap] W fun r Y=>r=.returned (.tuple #[])∧IsWr B b s (Lib.byteCells ((m++catL ss)++[10])) Y∧Below B W Y∧Lib.OthersKept 5 (some b) W Y:=by
 have C:=Hd (wput_any B b gs n cap s m ss hn nl W hw hS hg (by omega) hB)
 have HL:=Hd hlen
 clear hlen
 go_enter Tryz.func39,Tryz.ntmps39
 go_wp2_with fail
 (with_reducible refine C.out.mono ?_)
 rintro r w1 ⟨rfl,h1,h2,h3⟩
 dsimp only
 have hsz:=h2.size
 have C2:=Hd (wput_any B b w1.heap.size 1 1 s (m++catL ss) [⟨#[10]⟩] (Hd rfl) (by decide) (w1.alloc (.cells #[.string ⟨#[10]⟩] 9)) (Hd (isWr_alloc h1 _)) (Hd ⟨(0,0),heap_alloc_new w1 _⟩) (by omega) (by rw[List.length_append];show _+1≤_;have:=HL.out;omega) (by rw[World.size_alloc];omega))
 have H2:=Hd h2
 have H3:=Hd h3
 clear h1 h2 h3
 go_wp2_with fail
 (with_reducible refine C2.out.mono ?_)
 rintro r w2 ⟨rfl,k1,k2,k3⟩
 dsimp only
 have K1:=Hd k1
 have K2:=Hd ((H2.out.alloc (by omega) _).trans k2)
 have K3:=Hd ((H3.out.alloc _).trans k3)
 clear k1 k2 k3
 go_wp2_with fail
 go_end0
 exact⟨rfl,K1.out,K2.out,K3.out⟩
end Go.Proofs.YthpgfahlccljnaaGreatDoor
