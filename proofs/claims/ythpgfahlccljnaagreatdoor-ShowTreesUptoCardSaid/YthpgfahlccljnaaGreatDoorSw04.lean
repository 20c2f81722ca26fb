import Derived.Test.YthpgfahlccljnaaGreatDoorSw03
import Derived.Deep.AppendLies
set_option maxHeartbeats 16000000
set_option maxRecDepth 100000
open Go.Proofs.Tryz(prog)
namespace Go.Proofs.YthpgfahlccljnaaGreatDoor
open Go.RowKit
theorem binds_any (k:Int) (h1:1≤k) (h2:k≤21) (W:World):Calls prog 61 #[.int .i64 k] W fun r Y=>r=.returned (.int .i64 (tightK k))∧Below W.heap.size W Y:=by
 obtain rfl | rfl | rfl | rfl | rfl | rfl | rfl | rfl | rfl | rfl | rfl | rfl | rfl | rfl | rfl | rfl | rfl | rfl | rfl | rfl | rfl:k=1∨k=2∨k=3∨k=4∨k=5∨k=6∨k=7∨k=8∨k=9∨k=10∨k=11∨k=12∨k=13∨k=14∨k=15∨k=16∨k=17∨k=18∨k=19∨k=20∨k=21:=by omega
 all_goals (
  go_enter Tryz.func61,Tryz.ntmps61
  go_wp2_with fail
  go_ret
  exact⟨rfl,qB _ _⟩)
theorem sides_any (k:Int) (h:TwoK k) (W:World):Calls prog 79 #[.int .i64 k] W fun r Y=>r=.returned (.tuple #[.int .i64 (oneW k),.int .i64 (nextW k)])∧Below W.heap.size W Y:=by
 unfold TwoK at h
 have C:=Hd (binds_any k (by omega) (by omega) W)
 obtain rfl | rfl | rfl | rfl | rfl | rfl | rfl | rfl | rfl | rfl | rfl:k=6∨k=7∨k=8∨k=9∨k=10∨k=11∨k=12∨k=13∨k=14∨k=17∨k=18:=by omega
 all_goals (
  simp only[tightK,Int.reduceEq,or_self,or_true,true_or,if_true,if_false] at C
  go_enter Tryz.func79,Tryz.ntmps79
  go_wp2_with (go_at_call 61;(with_reducible refine C.out.mono ?_);rintro e w1 ⟨rfl,hb⟩)
  go_ret2
  exact⟨rfl,hb⟩)
def SgnAt (w:World):Prop:=∀k:Nat,(k=4∨k=5∨k=16∨k=21∨(6≤k∧k≤14)∨k=17∨k=18)→w.cell? ⟨0,k,none⟩=some (.string (sgnB (k:Int)))
theorem pc_new (W:World) (l:List Pc) (cs:Array Value) (h:cs.toList=pcCells l) (hl:l.length≤1000000):PcOwn (W.alloc (.cells cs 84)) W.heap.size (.slice (some ⟨W.heap.size,0,none⟩) l.length l.length) l :=
 ⟨pcCells_length l,.inr ⟨W.heap.size,l.length,cs,rfl,qL _,heap_alloc_new W _,qL _,by unfold maxLen;omega,by rw[←Array.length_toList,h,pcCells_length],by rw[h,←pcCells_length,List.take_length]⟩⟩
theorem PcOwn.base {W:World} {B B':Nat} {v:Value} {l:List Pc} (h:PcOwn W B v l) (hb:B'≤B):PcOwn W B' v l:=by
 refine⟨h.1,?_⟩
 rcases h.2 with hn | ⟨g,cap,cur,rfl,hb2,rest⟩
 ·exact .inl hn
 ·exact .inr ⟨g,cap,cur,rfl,Nat.le_trans hb hb2,rest⟩
theorem GivesPc.from {W X Y:World} {r:Ending} {l:List Pc} (h:GivesPc l X r Y) (hb:Below W.heap.size W X):GivesPc l W r Y:=by
 obtain⟨g,c,h1,h2,h3⟩:=h
 exact⟨g,c,h1,h2.base hb.size,hb.trans (h3.mono hb.size)⟩
theorem str_cells (W:World) (ss:List ByteArray) (cs:Array Value) (h:cs.toList=ss.map Value.string):∀i s,ss[i]?=some s→(W.alloc (.cells cs 9)).cell? ⟨W.heap.size,i,none⟩=some (.string s):=fun i s hs=>by
 rw[World.cell?_alloc_new,←Array.getElem?_toList,h,List.getElem?_map,hs];rfl
theorem exBox (W:World) (k a b c:Int) (nm st:ByteArray) (v:Int) (s:Value) (pos:Int):∀j u,[Value.int .i64 k,.int .i64 a,.int .i64 b,.int .i64 c,.string nm,.string st,.int .i64 v,s,.int .i64 pos][j]?=some u→(W.alloc (.cells #[.int .i64 k,.int .i64 a,.int .i64 b,.int .i64 c,.string nm,.string st,.int .i64 v,s,.int .i64 pos] 48)).cell? ⟨W.heap.size,j,none⟩=some u:=fun j u hu=>by
 rw[World.cell?_alloc_new,←Array.getElem?_toList];exact hu
theorem own_trueP (k xa xb xc:Int) (nm st:ByteArray) (xv:Int) (s:Value) (pos:Int) (W:World) (hk:k=2) (hv:xv=1) :
  Calls prog 62 #[.agg #[.int .i64 k,.int .i64 xa,.int .i64 xb,.int .i64 xc,.string nm,.string st,.int .i64 xv,s,.int .i64 pos]] W fun r Y=>GivesPc [tPc ⟨#[116,114,117,101]⟩] W r Y:=by
 have q0:(k ==1)=false:=by rw[hk];decide
 have q1:(k ==2)=true:=by rw[hk];decide
 obtain⟨Wb,hWb⟩:∃Wb,Wb=W.alloc (.cells #[.int .i64 k,.int .i64 xa,.int .i64 xb,.int .i64 xc,.string nm,.string st,.int .i64 xv,s,.int .i64 pos] 48):=⟨_,rfl⟩
 have hx:=exBox W k xa xb xc nm st xv s pos
 rw[←hWb] at hx
 have x0:=hx 0 _ rfl
 have x1:=hx 1 _ rfl
 have x2:=hx 2 _ rfl
 have x3:=hx 3 _ rfl
 have x4:=hx 4 _ rfl
 have x5:=hx 5 _ rfl
 have x6:=hx 6 _ rfl
 have x7:=hx 7 _ rfl
 have HBB:Hid (Below W.heap.size W Wb):=Hd (by rw[hWb];exact(qB _ _).alloc (qL _) _)
 have hsz:Wb.heap.size=W.heap.size+1:=by rw[hWb,World.size_alloc]
 clear hx
 have qv:(xv ==1)=true:=by rw[hv];rfl
 clear hv
 have C:=Hd (texts_any [⟨#[116,114,117,101]⟩] 1 Wb.heap.size 1 (Hd rfl) (by decide) (Wb.alloc (.cells #[.string ⟨#[116,114,117,101]⟩] 9)) (Hd (str_cells Wb [⟨#[116,114,117,101]⟩] _ rfl)))
 have HBT:Hid (Below W.heap.size W (Wb.alloc (.cells #[.string ⟨#[116,114,117,101]⟩] 9))):=Hd (HBB.out.alloc HBB.out.size _)
 rw[hsz] at C
 have HSZ:=Hd hsz
 clear hk hsz
 go_enter Tryz.func62,Tryz.ntmps62
 go_wp2_with fail
 rw[←hWb]
 clear hWb
 (with_reducible refine C.out.mono ?_)
 rintro r w1 h1
 have H1:=Hd (h1.from HBT.out)
 obtain⟨g,c,rfl,h2,h3⟩:=h1
 dsimp only
 go_wp2_with fail
 go_ret
 exact H1.out
theorem own_falseP (k xa xb xc:Int) (nm st:ByteArray) (xv:Int) (s:Value) (pos:Int) (W:World) (hk:k=2) (hv:xv≠1) :
  Calls prog 62 #[.agg #[.int .i64 k,.int .i64 xa,.int .i64 xb,.int .i64 xc,.string nm,.string st,.int .i64 xv,s,.int .i64 pos]] W fun r Y=>GivesPc [tPc ⟨#[102,97,108,115,101]⟩] W r Y:=by
 have q0:(k ==1)=false:=by rw[hk];decide
 have q1:(k ==2)=true:=by rw[hk];decide
 obtain⟨Wb,hWb⟩:∃Wb,Wb=W.alloc (.cells #[.int .i64 k,.int .i64 xa,.int .i64 xb,.int .i64 xc,.string nm,.string st,.int .i64 xv,s,.int .i64 pos] 48):=⟨_,rfl⟩
 have hx:=exBox W k xa xb xc nm st xv s pos
 rw[←hWb] at hx
 have x0:=hx 0 _ rfl
 have x1:=hx 1 _ rfl
 have x2:=hx 2 _ rfl
 have x3:=hx 3 _ rfl
 have x4:=hx 4 _ rfl
 have x5:=hx 5 _ rfl
 have x6:=hx 6 _ rfl
 have x7:=hx 7 _ rfl
 have HBB:Hid (Below W.heap.size W Wb):=Hd (by rw[hWb];exact(qB _ _).alloc (qL _) _)
 have hsz:Wb.heap.size=W.heap.size+1:=by rw[hWb,World.size_alloc]
 clear hx
 have qv:(xv ==1)=false:=beq_false_of_ne hv
 clear hv
 have C:=Hd (texts_any [⟨#[102,97,108,115,101]⟩] 1 Wb.heap.size 1 (Hd rfl) (by decide) (Wb.alloc (.cells #[.string ⟨#[102,97,108,115,101]⟩] 9)) (Hd (str_cells Wb [⟨#[102,97,108,115,101]⟩] _ rfl)))
 have HBT:Hid (Below W.heap.size W (Wb.alloc (.cells #[.string ⟨#[102,97,108,115,101]⟩] 9))):=Hd (HBB.out.alloc HBB.out.size _)
 rw[hsz] at C
 have HSZ:=Hd hsz
 clear hk hsz
 go_enter Tryz.func62,Tryz.ntmps62
 go_wp2_with fail
 rw[←hWb]
 clear hWb
 (with_reducible refine C.out.mono ?_)
 rintro r w1 h1
 have H1:=Hd (h1.from HBT.out)
 obtain⟨g,c,rfl,h2,h3⟩:=h1
 dsimp only
 go_wp2_with fail
 go_ret
 exact H1.out
theorem own_nameP (k xa xb xc:Int) (nm st:ByteArray) (xv:Int) (s:Value) (pos:Int) (W:World) (hk:k=3) :
  Calls prog 62 #[.agg #[.int .i64 k,.int .i64 xa,.int .i64 xb,.int .i64 xc,.string nm,.string st,.int .i64 xv,s,.int .i64 pos]] W fun r Y=>GivesPc [tPc nm] W r Y:=by
 have q0:(k ==1)=false:=by rw[hk];decide
 have q1:(k ==2)=false:=by rw[hk];decide
 have q2:(k ==3)=true:=by rw[hk];decide
 obtain⟨Wb,hWb⟩:∃Wb,Wb=W.alloc (.cells #[.int .i64 k,.int .i64 xa,.int .i64 xb,.int .i64 xc,.string nm,.string st,.int .i64 xv,s,.int .i64 pos] 48):=⟨_,rfl⟩
 have hx:=exBox W k xa xb xc nm st xv s pos
 rw[←hWb] at hx
 have x0:=hx 0 _ rfl
 have x1:=hx 1 _ rfl
 have x2:=hx 2 _ rfl
 have x3:=hx 3 _ rfl
 have x4:=hx 4 _ rfl
 have x5:=hx 5 _ rfl
 have x6:=hx 6 _ rfl
 have x7:=hx 7 _ rfl
 have HBB:Hid (Below W.heap.size W Wb):=Hd (by rw[hWb];exact(qB _ _).alloc (qL _) _)
 have hsz:Wb.heap.size=W.heap.size+1:=by rw[hWb,World.size_alloc]
 clear hx
 have C:=Hd (texts_any [nm] 1 Wb.heap.size 1 (Hd rfl) (by decide) (Wb.alloc (.cells #[.string nm] 9)) (Hd (str_cells Wb [nm] _ rfl)))
 have HBT:Hid (Below W.heap.size W (Wb.alloc (.cells #[.string nm] 9))):=Hd (HBB.out.alloc HBB.out.size _)
 rw[hsz] at C
 have HSZ:=Hd hsz
 clear hk hsz
 go_enter Tryz.func62,Tryz.ntmps62
 go_wp2_with fail
 rw[←hWb]
 clear hWb
 (with_reducible refine C.out.mono ?_)
 rintro r w1 h1
 have H1:=Hd (h1.from HBT.out)
 obtain⟨g,c,rfl,h2,h3⟩:=h1
 dsimp only
 go_wp2_with fail
 go_ret
 exact H1.out
theorem own_isP (k xa xb xc:Int) (nm st:ByteArray) (xv:Int) (s:Value) (pos:Int) (W:World) (hk:k=20) :
  Calls prog 62 #[.agg #[.int .i64 k,.int .i64 xa,.int .i64 xb,.int .i64 xc,.string nm,.string st,.int .i64 xv,s,.int .i64 pos]] W fun r Y=>GivesPc [tPc nm,tPc ⟨#[32,105,115,32]⟩,tPc st] W r Y:=by
 have q0:(k ==1)=false:=by rw[hk];decide
 have q1:(k ==2)=false:=by rw[hk];decide
 have q2:(k ==3)=false:=by rw[hk];decide
 have q3:(k ==20)=true:=by rw[hk];decide
 obtain⟨Wb,hWb⟩:∃Wb,Wb=W.alloc (.cells #[.int .i64 k,.int .i64 xa,.int .i64 xb,.int .i64 xc,.string nm,.string st,.int .i64 xv,s,.int .i64 pos] 48):=⟨_,rfl⟩
 have hx:=exBox W k xa xb xc nm st xv s pos
 rw[←hWb] at hx
 have x0:=hx 0 _ rfl
 have x1:=hx 1 _ rfl
 have x2:=hx 2 _ rfl
 have x3:=hx 3 _ rfl
 have x4:=hx 4 _ rfl
 have x5:=hx 5 _ rfl
 have x6:=hx 6 _ rfl
 have x7:=hx 7 _ rfl
 have HBB:Hid (Below W.heap.size W Wb):=Hd (by rw[hWb];exact(qB _ _).alloc (qL _) _)
 have hsz:Wb.heap.size=W.heap.size+1:=by rw[hWb,World.size_alloc]
 clear hx
 have C:=Hd (texts_any [nm,⟨#[32,105,115,32]⟩,st] 3 Wb.heap.size 3 (Hd rfl) (by decide) (Wb.alloc (.cells #[.string nm,.string ⟨#[32,105,115,32]⟩,.string st] 9)) (Hd (str_cells Wb [nm,⟨#[32,105,115,32]⟩,st] _ rfl)))
 have HBT:Hid (Below W.heap.size W (Wb.alloc (.cells #[.string nm,.string ⟨#[32,105,115,32]⟩,.string st] 9))):=Hd (HBB.out.alloc HBB.out.size _)
 rw[hsz] at C
 have HSZ:=Hd hsz
 clear hk hsz
 go_enter Tryz.func62,Tryz.ntmps62
 go_wp2_with fail
 rw[←hWb]
 clear hWb
 (with_reducible refine C.out.mono ?_)
 rintro r w1 h1
 have H1:=Hd (h1.from HBT.out)
 obtain⟨g,c,rfl,h2,h3⟩:=h1
 dsimp only
 go_wp2_with fail
 go_ret
 exact H1.out
theorem own_ifP (k xa xb xc:Int) (nm st:ByteArray) (xv:Int) (s:Value) (pos:Int) (W:World) (hk:k=15) :
  Calls prog 62 #[.agg #[.int .i64 k,.int .i64 xa,.int .i64 xb,.int .i64 xc,.string nm,.string st,.int .i64 xv,s,.int .i64 pos]] W fun r Y=>GivesPc [tPc ⟨#[105,102,32]⟩,ePc xa 0,tPc ⟨#[32,116,104,101,110,32]⟩,ePc xb 0,tPc ⟨#[32,101,108,115,101,32]⟩,ePc xc 0] W r Y:=by
 have q0:(k ==1)=false:=by rw[hk];decide
 have q1:(k ==2)=false:=by rw[hk];decide
 have q2:(k ==3)=false:=by rw[hk];decide
 have q3:(k ==20)=false:=by rw[hk];decide
 have q4:(k ==19)=false:=by rw[hk];decide
 have q5:(k ==15)=true:=by rw[hk];decide
 obtain⟨Wb,hWb⟩:∃Wb,Wb=W.alloc (.cells #[.int .i64 k,.int .i64 xa,.int .i64 xb,.int .i64 xc,.string nm,.string st,.int .i64 xv,s,.int .i64 pos] 48):=⟨_,rfl⟩
 have hx:=exBox W k xa xb xc nm st xv s pos
 rw[←hWb] at hx
 have x0:=hx 0 _ rfl
 have x1:=hx 1 _ rfl
 have x2:=hx 2 _ rfl
 have x3:=hx 3 _ rfl
 have x4:=hx 4 _ rfl
 have x5:=hx 5 _ rfl
 have x6:=hx 6 _ rfl
 have x7:=hx 7 _ rfl
 have HBB:Hid (Below W.heap.size W Wb):=Hd (by rw[hWb];exact(qB _ _).alloc (qL _) _)
 have hsz:Wb.heap.size=W.heap.size+1:=by rw[hWb,World.size_alloc]
 clear hx
 have HN:=Hd (fun cs h=>pc_new Wb [tPc ⟨#[105,102,32]⟩,ePc xa 0,tPc ⟨#[32,116,104,101,110,32]⟩,ePc xb 0,tPc ⟨#[32,101,108,115,101,32]⟩,ePc xc 0] cs h (by simp))
 rw[hsz] at HN
 have HSZ:=Hd hsz
 clear hk hsz
 go_enter Tryz.func62,Tryz.ntmps62
 go_wp2_with fail
 rw[←hWb]
 clear hWb
 go_ret
 exact⟨_,_,rfl,(HN.out _ rfl).base (by omega),HBB.out.alloc HBB.out.size _⟩
theorem argsP_snoc (a:Int):∀(l:List Int) (i:Nat),argsP i (l++[a])=argsP i l++(if 0<i+l.length then [tPc ⟨#[44,32]⟩,ePc a 0] else [ePc a 0])
 | [],i=>by show(if 0<i then _ else _)++[]=[]++(if 0<i+0 then _ else _);simp
 | b :: l,i=>by
  show _++argsP (i+1) (l++[a])=(_++argsP (i+1) l)++_
  rw[argsP_snoc a l (i+1),List.append_assoc]
  congr 3
  simp only[List.length_cons]
  rw[show i+1+l.length=i+(l.length+1) by omega]
theorem one_pc (W:World) (t:ByteArray) (e w:Int) (T:TypeId) (j:Nat) (u:Value) (h:[Value.string t,.int .i64 e,.int .i64 w][j]?=some u):(W.alloc (.cells #[.string t,.int .i64 e,.int .i64 w] T)).cell? ((⟨W.heap.size,0,none⟩:Addr).add j)=some u:=by
 have e1:(⟨W.heap.size,0,none⟩:Addr).add j=⟨W.heap.size,j,none⟩:=by unfold Addr.add;split <;> simp_all
 rw[e1,World.cell?_alloc_new,←h,←Array.getElem?_toList]
theorem wpList_pc (w:World) {ops:Array Oper} {rest:List Oper} {o:Oper} {a:Act} {Q:Exit→Act→World→Prop}
  (hg:o.guard=none) (s x:Operand) (hop:o.op=Op.call { callee:=Callee.builtin Builtin.append,args:=#[s,x],argTypes:=#[85,85] })
  (base:Nat) (v:Value) (l:List Pc) (k:Nat) (hlk:l.length=k) (hs:a.eval s=v) (hown:PcOwn w base v l) (ad:Addr) (p:Pc) (hx:a.eval x=.slice (some ad) 1 1)
  (hc:∀j u,(pcC p)[j]?=some u→w.cell? (ad.add j)=some u) (hk:k≤40000) (b3:base≤w.heap.size)
  (hK:∀g cap w',PcOwn w' base (.slice (some ⟨g,0,none⟩) (k+1) cap) (l++[p])→w.grownBy w' v.ownBlock→wpList prog ops Q rest (a.put o.dst (.slice (some ⟨g,0,none⟩) (k+1) cap)) w') :
  wpList prog ops Q (o :: rest) a w:=by
 subst hlk
 obtain⟨i,h2,h3,h4,h5⟩:=info_parts pc_info
 exact wpList_append_lies (w:=w) hg s x 85 hop base 84 i _ 3 32 Tryz.underlying85 h2 h3 h4 h5 rfl (by decide) v l.length (pcCells l) hs hown ad 1 1 (pcC p) hx rfl hc (by simp[pcC,Value.oneCell']) (by decide) (by unfold maxLen;omega) (by omega) b3 w.heap.size rfl fun g cap w' ho hg2 _ _=>hK g cap w' (by unfold PcOwn;rw[pcCells_append,List.length_append];exact ho) hg2
theorem PcOwn.alloc {W:World} {B:Nat} {v:Value} {l:List Pc} (h:PcOwn W B v l) (o:Obj):PcOwn (W.alloc o) B v l:=World.ownsRow.alloc h o
theorem PcOwn.below {W Y:World} {B:Nat} {v:Value} {l:List Pc} (h:PcOwn W B v l) (hb:Below W.heap.size W Y):PcOwn Y B v l:=World.ownsRow.kept (row:=none) h ⟨hb.os,hb.tape,hb.output,hb.size,fun j hj _=>hb.block j hj⟩ (by cases hv:v.ownBlock <;> simp)
theorem call_any (k xa xb xc:Int) (nm st:ByteArray) (xv:Int) (args:List Int) (oa:Option Addr) (na ca ba fa:Nat) (hna:Hid (args.length=na)) (nal:(na:Int)≤1000) (hoa:0<na→oa=some ⟨ba,fa,none⟩) (pos:Int) (W:World) (hcell:Hid (∀i,i<na→W.cell? ⟨ba,fa+i,none⟩=some (.int .i64 (args.getD i 0)))) :
  Calls prog 78 #[.agg #[.int .i64 k,.int .i64 xa,.int .i64 xb,.int .i64 xc,.string nm,.string st,.int .i64 xv,.slice oa na ca,.int .i64 pos]] W fun r Y=>GivesPc ([tPc nm,tPc ⟨#[40]⟩]++argsP 0 args++[tPc ⟨#[41]⟩]) W r Y:=by
 obtain⟨Wb,hWb⟩:∃Wb,Wb=W.alloc (.cells #[.int .i64 k,.int .i64 xa,.int .i64 xb,.int .i64 xc,.string nm,.string st,.int .i64 xv,.slice oa na ca,.int .i64 pos] 48):=⟨_,rfl⟩
 have hx:=exBox W k xa xb xc nm st xv (.slice oa na ca) pos
 rw[←hWb] at hx
 have x4:=hx 4 _ rfl
 have x7:=hx 7 _ rfl
 have hbb:Below W.heap.size W Wb:=by rw[hWb];exact(qB _ _).alloc (qL _) _
 have hsz:Wb.heap.size=W.heap.size+1:=by rw[hWb,World.size_alloc]
 have HBB:=Hd hbb
 have C:=Hd (texts_any [nm,⟨#[40]⟩] 2 Wb.heap.size 2 (Hd rfl) (by decide) (Wb.alloc (.cells #[.string nm,.string ⟨#[40]⟩] 9)) (Hd (str_cells Wb [nm,⟨#[40]⟩] _ rfl)))
 have hbt:Below Wb.heap.size Wb (Wb.alloc (.cells #[.string nm,.string ⟨#[40]⟩] 9)):=(qB _ _).alloc (qL _) _
 have HBT:=Hd hbt
 rw[hsz] at C
 have HSZ:=Hd hsz
 clear hx hbb hbt hsz
 go_enter Tryz.func78,Tryz.ntmps78
 go_wp2_with fail
 rw[←hWb]
 clear hWb
 (with_reducible refine C.out.mono ?_)
 rintro r w1 h1
 obtain⟨g1,c1,rfl,h2,h3⟩:=h1
 dsimp only
 have HB1:Hid (Below Wb.heap.size Wb w1):=Hd (HBT.out.trans (h3.mono HBT.out.size))
 have HO1:Hid (PcOwn w1 Wb.heap.size (.slice (some ⟨g1,0,none⟩) 2 c1) ([tPc nm,tPc ⟨#[40]⟩]++argsP 0 (args.take 0))):=Hd (h2.base (by rw[World.size_alloc];omega))
 have y7:=cell_below HB1.out x7
 clear h2 h3
 go_wp2_with fail
 go_loopw [3,13] (fun v i wr=>∃(j m:Nat) (o:Option Addr) (c:Nat),j≤na∧m≤2+2*j∧i=.int .i64 (j:Int)∧v=.slice o m c∧Hid (m=([tPc nm,tPc ⟨#[40]⟩]++argsP 0 (args.take j)).length∧PcOwn wr Wb.heap.size (.slice o m c) ([tPc nm,tPc ⟨#[40]⟩]++argsP 0 (args.take j))∧Below Wb.heap.size Wb wr)) (fun _ i _=>na-litLen i)
 case atStart=>exact⟨0,2,_,_,by omega,by omega,rfl,rfl,Hd ⟨rfl,HO1.out,HB1.out⟩⟩
 case round =>
  obtain⟨j,m,o,c,hj,hlen,rfl,rfl,hI⟩:=hrel
  obtain⟨L,hL⟩:∃L,L=[tPc nm,tPc ⟨#[40]⟩]++argsP 0 (args.take j):=⟨_,rfl⟩
  rw[←hL] at hI
  have HL:=Hd hL
  have HM:=Hd hI.out.1
  have HOr:=Hd hI.out.2.1
  have HBr:=Hd hI.out.2.2
  have z7:=cell_below HBr.out x7
  have hm4:m≤4000:=by omega
  have hgr:∀q,(Value.slice o m c).ownBlock=some q→Wb.heap.size≤q:=fun q hq=>(World.ownsRow.lt HOr.out q hq).1
  have HGR:=Hd hgr
  have hsw:=HBr.out.size
  clear hL hI hgr y7
  rcases Nat.lt_or_ge j na with hlt | hge
  ·have q1:decide ((j:Int)<(na:Int))=true:=qT (by omega)
   have q1n:decide (j<na)=true:=qT hlt
   have jr:(j:Int)<(na:Int):=by omega
   obtain⟨z,hz⟩:∃z,z=args.getD j 0:=⟨_,rfl⟩
   have hca:wr.cell? ⟨ba,fa+j,none⟩=some (.int .i64 z):=by rw[hz];exact cell_below HBr.out (cell_below HBB.out (hcell.out j hlt))
   have ix:=ix_ints (o:=oa) (n:=na) (cap:=ca) (b:=ba) (off:=fa) hoa hlt (by omega)
   unfold Ix at ix
   rw[Nat.mul_one] at ix
   have HSN:Hid ([tPc nm,tPc ⟨#[40]⟩]++argsP 0 (args.take (j+1))=L++(if 0<j then [tPc ⟨#[44,32]⟩,ePc z 0] else [ePc z 0])):=Hd (by
    have e:args.take (j+1)=args.take j++[z]:=by
     rw[hz,List.getD_eq_getElem?_getD,List.take_add_one,List.getElem?_eq_getElem (by have:=hna.out;omega)];rfl
    rw[e,argsP_snoc,List.length_take,←List.append_assoc,←HL.out]
    have:min j args.length=j:=by have:=hna.out;omega
    rw[this,Nat.zero_add])
   clear hz
   rcases Nat.eq_zero_or_pos j with hj0 | hj0
   ·have q0':decide ((0:Int)<(j:Int))=false:=qF (by omega)
    have q0n:decide (0<j)=false:=qF (by omega)
    have q0m:¬0<j:=by omega
    have HJ:=Hd hj0
    clear hj0
    go_wp2_with (at_builtin;refine wpList_pc _ rfl _ _ rfl Wb.heap.size (.slice o m c) L m HM.out.symm rfl (HOr.out.alloc _) ⟨wr.heap.size,0,none⟩ (ePc z 0) rfl (one_pc wr _ _ _ _) (by omega) (by simp;omega) ?_;intro g2 c2 w2 ho2 hg2;have HO2:=Hd ho2;have HG2:=Hd hg2;clear ho2 hg2)
    have HB2:Hid (Below Wb.heap.size Wb w2):=Hd ((HBr.out.alloc HBr.out.size _).grown HG2.out (by simp;omega) HGR.out)
    have HF:Hid (m+1=([tPc nm,tPc ⟨#[40]⟩]++argsP 0 (args.take (j+1))).length):=Hd (by rw[HSN.out,if_neg (by have:=HJ.out;omega),List.length_append,←HM.out];rfl)
    exact⟨⟨_,_,_,_,_,_,_,_,_,_,_,_,_,_,_,_,_,_,_,_,⟨j+1,m+1,_,_,by omega,by omega,rfl,rfl,Hd ⟨HF.out,by rw[HSN.out,if_neg (by have:=HJ.out;omega)];exact HO2.out,HB2.out⟩⟩,rfl⟩,by simp[litLen];omega⟩
   ·have q0':decide ((0:Int)<(j:Int))=true:=qT (by omega)
    have q0n:decide (0<j)=true:=qT hj0
    go_wp2_with (first
     | (at_builtin;refine wpList_pc _ rfl _ _ rfl Wb.heap.size (.slice o m c) L m HM.out.symm rfl (HOr.out.alloc _) ⟨wr.heap.size,0,none⟩ (tPc ⟨#[44,32]⟩) rfl (one_pc wr _ _ _ _) (by omega) (by simp;omega) ?_;intro g2 c2 w2 ho2 hg2;have HO2:=Hd ho2;have HG2:=Hd hg2;have hs2:=hg2.size;clear ho2 hg2)
     | (at_builtin;refine wpList_pc _ rfl _ _ rfl Wb.heap.size (.slice (some ⟨g2,0,none⟩) (m+1) c2) (L++[tPc ⟨#[44,32]⟩]) (m+1) (by rw[List.length_append,←HM.out];rfl) rfl (HO2.out.alloc _) ⟨w2.heap.size,0,none⟩ (ePc z 0) rfl (one_pc w2 _ _ _ _) (by omega) (by simp at hs2 ⊢;omega) ?_;intro g3 c3 w3 ho3 hg3;have HO3:=Hd ho3;have HG3:=Hd hg3;clear ho3 hg3))
    have HB2:Hid (Below Wb.heap.size Wb w2):=Hd ((HBr.out.alloc HBr.out.size _).grown HG2.out (by simp;omega) HGR.out)
    have HB3:Hid (Below Wb.heap.size Wb w3):=Hd ((HB2.out.alloc HB2.out.size _).grown HG3.out (by have:=HB2.out.size;simp;omega) (fun q hq=>(World.ownsRow.lt HO2.out q hq).1))
    have HF:Hid (m+1+1=([tPc nm,tPc ⟨#[40]⟩]++argsP 0 (args.take (j+1))).length):=Hd (by rw[HSN.out,if_pos hj0,List.length_append,←HM.out];rfl)
    exact⟨⟨_,_,_,_,_,_,_,_,_,_,_,_,_,_,_,_,_,_,_,_,⟨j+1,m+1+1,_,_,by omega,by omega,rfl,rfl,Hd ⟨HF.out,by rw[HSN.out,if_pos hj0];have:=HO3.out;rwa [List.append_assoc] at this,HB3.out⟩⟩,rfl⟩,by simp[litLen];omega⟩
  ·have q1:decide ((j:Int)<(na:Int))=false:=qF (by omega)
   have q1n:decide (j<na)=false:=qF (by omega)
   have HJ:Hid (j=na):=Hd (by omega)
   go_wp2_with (at_builtin;refine wpList_pc _ rfl _ _ rfl Wb.heap.size (.slice o m c) L m HM.out.symm rfl (HOr.out.alloc _) ⟨wr.heap.size,0,none⟩ (tPc ⟨#[41]⟩) rfl (one_pc wr _ _ _ _) (by omega) (by simp;omega) ?_;intro g2 c2 w2 ho2 hg2;have HO2:=Hd ho2;have HG2:=Hd hg2;clear ho2 hg2)
   go_ret
   have HB2:Below Wb.heap.size Wb w2:=(HBr.out.alloc HBr.out.size _).grown HG2.out (by simp;omega) HGR.out
   have e:L++[tPc ⟨#[41]⟩]=tPc nm :: tPc ⟨#[40]⟩ :: (argsP 0 args++[tPc ⟨#[41]⟩]):=by
    rw[HL.out,List.take_of_length_le (by have:=hna.out;have:=HJ.out;omega)];rfl
   have hlen2:(tPc nm :: tPc ⟨#[40]⟩ :: (argsP 0 args++[tPc ⟨#[41]⟩])).length=m+1:=by rw[←e,List.length_append,←HM.out];rfl
   refine⟨g2,c2,by rw[hlen2];rfl,?_,HBB.out.trans (HB2.mono HBB.out.size)⟩
   rw[hlen2,←e]
   exact HO2.out.base HBB.out.size
theorem rend_t (T:Int→Int→ByteArray) {s:ByteArray} (h:s.size≠0):rendB T (tPc s)=s:=by unfold rendB tPc;rw[if_neg h]
theorem rend_e (T:Int→Int→ByteArray) (e w:Int):rendB T (ePc e w)=T e w:=by unfold rendB ePc;rw[if_pos (by rfl)]
theorem app_nil (b:ByteArray):b++(⟨#[]⟩:ByteArray)=b:=ByteArray.append_empty ..
theorem rends_one (T:Int→Int→ByteArray) (p:Pc):rendsB T [p]=rendB T p:=app_nil _
theorem rends_args (T:Int→Int→ByteArray) (s:ByteArray) (l:List Int):∀i,i≤l.length→argsB (fun a=>T a 0) s l i=s++rendsB T (argsP 0 (l.take i))
 | 0,_=>by show s=s++rendsB T [];exact(app_nil s).symm
 | i+1,h=>by
  have ih:=rends_args T s l i (by omega)
  have e:l.take (i+1)=l.take i++[l.getD i 0]:=by
   rw[List.getD_eq_getElem?_getD,List.take_add_one,List.getElem?_eq_getElem (by omega)];rfl
  show(if 0<i then argsB (fun a=>T a 0) s l i++⟨#[44,32]⟩ else argsB (fun a=>T a 0) s l i)++T (l.getD i 0) 0=_
  rw[ih,e,argsP_snoc,List.length_take,rendsB_append,Nat.min_eq_left (by omega),Nat.zero_add]
  by_cases h0:0<i
  ·rw[if_pos h0,if_pos h0]
   show _=s++(rendsB T (argsP 0 (l.take i))++(rendB T (tPc ⟨#[44,32]⟩)++rendsB T [ePc (l.getD i 0) 0]))
   rw[rends_one,rend_e,rend_t T (by decide),ByteArray.append_assoc,ByteArray.append_assoc]
  ·rw[if_neg h0,if_neg h0,rends_one,rend_e,ByteArray.append_assoc]
theorem own_rends (T:Int→Int→ByteArray) (x:Ex) (hn:x.kind=3∨x.kind=19∨x.kind=20→x.name.size≠0) (hs:x.kind=20→x.state.size≠0) (hv:x.kind=1→(str (shortL x.v 32)).size≠0):rendsB T (ownP x)=ownB T x:=by
 unfold ownP ownB
 by_cases k1:x.kind=1
 ·rw[if_pos k1,if_pos k1,rends_one,rend_t T (hv k1)]
 rw[if_neg k1,if_neg k1]
 by_cases k2:x.kind=2
 ·rw[if_pos k2,if_pos k2]
  split
  ·rw[rends_one,rend_t T (by decide)]
  ·rw[rends_one,rend_t T (by decide)]
 rw[if_neg k2,if_neg k2]
 by_cases k3:x.kind=3
 ·rw[if_pos k3,if_pos k3,rends_one,rend_t T (hn (by omega))]
 rw[if_neg k3,if_neg k3]
 by_cases k20:x.kind=20
 ·rw[if_pos k20,if_neg (by omega),if_neg (by omega),if_neg (by omega),if_pos k20]
  show rendB T (tPc x.name)++(rendB T (tPc _)++rendsB T [tPc x.state])=_
  rw[rends_one,rend_t T (hn (by omega)),rend_t T (by decide),rend_t T (hs k20),ByteArray.append_assoc]
 rw[if_neg k20]
 by_cases k19:x.kind=19
 ·rw[if_pos k19,if_neg (by omega),if_neg (by omega),if_pos k19,rendsB_append,rendsB_append,rends_one,rend_t T (by decide),rends_args T _ _ _ (qL _),List.take_length]
  show(rendB T (tPc x.name)++rendsB T [tPc _])++_++_=_
  rw[rends_one,rend_t T (hn (by omega)),rend_t T (by decide)]
 rw[if_neg k19]
 by_cases k15:x.kind=15
 ·rw[if_pos k15,if_neg (by omega),if_pos k15]
  show rendB T (tPc _)++(rendB T (ePc _ _)++(rendB T (tPc _)++(rendB T (ePc _ _)++(rendB T (tPc _)++rendsB T [ePc _ _]))))=_
  rw[rends_one,rend_e,rend_e,rend_e,rend_t T (by decide),rend_t T (by decide),rend_t T (by decide)]
  simp only[ByteArray.append_assoc]
 rw[if_neg k15]
 by_cases kp:x.kind=4∨x.kind=5∨x.kind=16∨x.kind=21
 ·rw[if_pos kp,if_pos kp]
  show rendB T (tPc _)++rendsB T [ePc _ _]=_
  have hw:sgnB x.kind=wordB x.kind:=by unfold sgnB;rw[if_pos kp]
  have hz:(wordB x.kind).size≠0:=by
                      unfold wordB;repeat' split
                      all_goals decide
  rw[rends_one,rend_e,hw,rend_t T hz]
 rw[if_neg kp,if_neg kp,if_neg k15,if_neg k19,if_neg k20]
 show rendB T (ePc _ _)++(rendB T (tPc _)++rendsB T [ePc _ _])=_
 have hw:sgnB x.kind=(⟨#[32]⟩++signB x.kind)++⟨#[32]⟩:=by unfold sgnB;rw[if_neg kp]
 have hz:(sgnB x.kind).size≠0:=by rw[hw,ByteArray.size_append,ByteArray.size_append];show ¬_+1=0;omega
 rw[rends_one,rend_e,rend_e,rend_t T hz,hw]
 simp only[ByteArray.append_assoc]
theorem args_in:∀(l:List Int) (i:Nat) (p:Pc),p ∈ argsP i l→p.text.size≠0∨(p.text.size=0∧p.e ∈ l∧p.wanted=0)
 | [],_,p,h=>by cases h
 | a :: l,i,p,h=>by
  rcases List.mem_append.1 (show p ∈ (if 0<i then [tPc ⟨#[44,32]⟩,ePc a 0] else [ePc a 0])++argsP (i+1) l from h) with h | h
  ·by_cases h0:0<i
   ·rw[if_pos h0] at h
    rcases List.mem_cons.1 h with rfl | h
    ·exact .inl (by decide)
    ·obtain rfl:=List.mem_singleton.1 h
     exact .inr ⟨rfl,List.mem_cons_self ..,rfl⟩
   ·rw[if_neg h0] at h
    obtain rfl:=List.mem_singleton.1 h
    exact .inr ⟨rfl,List.mem_cons_self ..,rfl⟩
  ·rcases args_in l (i+1) p h with h | ⟨h1,h2,h3⟩
   ·exact .inl h
   ·exact .inr ⟨h1,List.mem_cons_of_mem _ h2,h3⟩
def PcIn (x:Ex) (p:Pc):Prop:=p.text.size≠0∨(p.text.size=0∧p.e ∈ partsE x∧0≤p.wanted∧p.wanted≤7)
structure ExFit (x:Ex):Prop where
 k1:1≤x.kind
 k21:x.kind≤21
 name:x.kind=3∨x.kind=19∨x.kind=20→x.name.size≠0
 state:x.kind=20→x.state.size≠0
 num:x.kind=1→(str (shortL x.v 32)).size≠0
theorem own_in {x:Ex} (h:ExFit x):∀p ∈ ownP x,PcIn x p:=by
 have hk1:=h.k1
 have hk21:=h.k21
 unfold ownP
 by_cases k1:x.kind=1
 ·rw[if_pos k1];intro p hp;obtain rfl:=List.mem_singleton.1 hp;exact .inl (h.num k1)
 rw[if_neg k1]
 by_cases k2:x.kind=2
 ·rw[if_pos k2]
  split <;> (intro p hp;obtain rfl:=List.mem_singleton.1 hp;exact .inl (by decide))
 rw[if_neg k2]
 by_cases k3:x.kind=3
 ·rw[if_pos k3];intro p hp;obtain rfl:=List.mem_singleton.1 hp;exact .inl (h.name (by omega))
 rw[if_neg k3]
 by_cases k20:x.kind=20
 ·rw[if_pos k20]
  intro p hp
  simp only[List.mem_cons,List.not_mem_nil,or_false] at hp
  obtain rfl | rfl | rfl:=hp
  ·exact .inl (h.name (by omega))
  ·exact .inl (by decide)
  ·exact .inl (h.state k20)
 rw[if_neg k20]
 by_cases k19:x.kind=19
 ·rw[if_pos k19]
  intro p hp
  rcases List.mem_append.1 hp with hp | hp
  ·rcases List.mem_append.1 hp with hp | hp
   ·simp only[List.mem_cons,List.not_mem_nil,or_false] at hp
    obtain rfl | rfl:=hp
    ·exact .inl (h.name (by omega))
    ·exact .inl (by decide)
   ·rcases args_in _ _ p hp with h | ⟨h1,h2,h3⟩
    ·exact .inl h
    ·exact .inr ⟨h1,by unfold partsE;rw[if_pos k19];exact h2,by omega,by omega⟩
  ·obtain rfl:=List.mem_singleton.1 hp;exact .inl (by decide)
 rw[if_neg k19]
 by_cases k15:x.kind=15
 ·have hp:partsE x=[x.a,x.b,x.c]:=by unfold partsE manyOf;rw[if_neg k19,if_neg (by omega),if_neg (by omega),if_pos k15];rfl
  rw[if_pos k15]
  intro p hq
  simp only[List.mem_cons,List.not_mem_nil,or_false] at hq
  obtain rfl | rfl | rfl | rfl | rfl | rfl:=hq
  ·exact .inl (by decide)
  ·exact .inr ⟨rfl,by rw[hp];simp[ePc],by simp[ePc],by simp[ePc]⟩
  ·exact .inl (by decide)
  ·exact .inr ⟨rfl,by rw[hp];simp[ePc],by simp[ePc],by simp[ePc]⟩
  ·exact .inl (by decide)
  ·exact .inr ⟨rfl,by rw[hp];simp[ePc],by simp[ePc],by simp[ePc]⟩
 rw[if_neg k15]
 by_cases kp:x.kind=4∨x.kind=5∨x.kind=16∨x.kind=21
 ·have hp:partsE x=[x.a]:=by unfold partsE manyOf;rw[if_neg k19,if_pos kp];rfl
  have hw:sgnB x.kind=wordB x.kind:=by unfold sgnB;rw[if_pos kp]
  have hz:(wordB x.kind).size≠0:=by
                      unfold wordB;repeat' split
                      all_goals decide
  rw[if_pos kp]
  intro p hq
  simp only[List.mem_cons,List.not_mem_nil,or_false] at hq
  obtain rfl | rfl:=hq
  ·exact .inl (by rw[hw];exact hz)
  ·exact .inr ⟨rfl,by rw[hp];simp[ePc],by simp[ePc],by simp[ePc]⟩
 rw[if_neg kp]
 have hp:partsE x=[x.a,x.b]:=by unfold partsE manyOf;rw[if_neg k19,if_neg kp,if_pos (by omega)];rfl
 have hw:sgnB x.kind=(⟨#[32]⟩++signB x.kind)++⟨#[32]⟩:=by unfold sgnB;rw[if_neg kp]
 have hz:(sgnB x.kind).size≠0:=by rw[hw,ByteArray.size_append,ByteArray.size_append];show ¬_+1=0;omega
 have ht:0≤oneW x.kind∧oneW x.kind≤7∧0≤nextW x.kind∧nextW x.kind≤7:=by
  have:0≤tightK x.kind∧tightK x.kind≤6:=by
   unfold tightK
   repeat' split
   all_goals omega
  unfold oneW nextW
  repeat' split
  all_goals omega
 intro p hq
 simp only[List.mem_cons,List.not_mem_nil,or_false] at hq
 obtain rfl | rfl | rfl:=hq
 ·exact .inr ⟨rfl,by rw[hp];simp[ePc],ht.1,ht.2.1⟩
 ·exact .inl hz
 ·exact .inr ⟨rfl,by rw[hp];simp[ePc],ht.2.2.1,ht.2.2.2⟩
theorem pieces_in {x:Ex} (h:ExFit x) (w:Int):∀p ∈ piecesP x w,PcIn x p:=by
 unfold piecesP
 split
 ·exact own_in h
 ·intro p hp
  rcases List.mem_append.1 hp with hp | hp
  ·rcases List.mem_append.1 hp with hp | hp
   ·obtain rfl:=List.mem_singleton.1 hp;exact .inl (by decide)
   ·exact own_in h p hp
  ·obtain rfl:=List.mem_singleton.1 hp;exact .inl (by decide)
theorem pieces_rends (T:Int→Int→ByteArray) {x:Ex} (h:ExFit x) (w:Int):rendsB T (piecesP x w)=if tightK x.kind<w then(⟨#[40]⟩++ownB T x)++⟨#[41]⟩ else ownB T x:=by
 unfold piecesP
 by_cases hw:w≤tightK x.kind
 ·rw[if_pos hw,if_neg (by omega),own_rends T x h.name h.state h.num]
 ·rw[if_neg hw,if_pos (by omega),rendsB_append,rendsB_append,rends_one,rends_one,rend_t T (by decide),rend_t T (by decide),own_rends T x h.name h.state h.num]
theorem rends_congr {T T':Int→Int→ByteArray}:∀{l:List Pc},(∀p ∈ l,p.text.size=0→T p.e p.wanted=T' p.e p.wanted)→rendsB T l=rendsB T' l
 | [],_=>rfl
 | p :: l,h=>by
  show rendB T p++rendsB T l=rendB T' p++rendsB T' l
  rw[rends_congr fun q hq=>h q (List.mem_cons_of_mem _ hq)]
  congr 1
  unfold rendB
  split
  ·exact h p (List.mem_cons_self ..) (by assumption)
  ·rfl
theorem exFit_of {x:Ex} {i:Nat} (h:mayE x i=true):ExFit x:=by
 unfold mayE namedK at h
 simp only[Bool.and_eq_true,beq_iff_eq,decide_eq_true_eq,decide_eq_decide,Bool.or_eq_true] at h
 obtain⟨⟨⟨⟨⟨⟨⟨⟨h1,h2⟩,_⟩,_⟩,h5⟩,h6⟩,_⟩,_⟩,_⟩:=h
 refine⟨h1,h2,fun hk=>?_,fun hk=>?_,fun _=>?_⟩
 ·intro h0
  have:(decide (x.name.size≠0))=false:=qF (by simpa using h0)
  rw[this] at h5
  simp only[Bool.or_eq_false_iff,decide_eq_false_iff_not] at h5
  omega
 ·exact h6.1 hk
 ·rw[str_size]
  unfold shortL
  have hd:∀n,0<(digs n).length:=fun n=>by rw[digs];split <;> simp
  have:=hd (x.v.natAbs / 4294967296)
  simp only[List.length_append]
  omega
theorem parts_in {x:Ex} {i:Nat} (h:mayE x i=true) {z:Int} (hz:z ∈ partsE x):0≤z∧z<(i:Int):=by
 unfold mayE at h
 simp only[Bool.and_eq_true,List.all_eq_true,decide_eq_true_eq] at h
 exact h.1.1.1.1.1.1.2 z hz
theorem txt_step (l:List Ex) (f:Nat) (e:Nat) {x:Ex} (hx:l[e]?=some x) (hm:mayE x e=true) (w:Int):txtB l (f+1) (e:Int) w=rendsB (txtB l f) (piecesP x w):=by
 rw[pieces_rends _ (exFit_of hm)]
 show(if tightK (l.getD ((e:Int)).toNat exZ).kind<w then _ else _)=_
 have:l.getD ((e:Int)).toNat exZ=x:=by rw[Int.toNat_natCast,List.getD_eq_getElem?_getD,hx];rfl
 rw[this]
theorem txt_fuel (l:List Ex) (hm:∀i x,l[i]?=some x→mayE x i=true):∀(f g e:Nat) (w:Int),e<f→e<g→e<l.length→txtB l f (e:Int) w=txtB l g (e:Int) w:=by
 intro f
 induction f with
 | zero=>intro g e w h;omega
 | succ f ih =>
  intro g e w hf hg he
  obtain⟨g,rfl⟩:∃g',g=g'+1:=⟨g-1,by omega⟩
  obtain⟨x,hx⟩:∃x,l[e]?=some x:=⟨_,List.getElem?_eq_getElem he⟩
  have hM:=hm e x hx
  rw[txt_step l f e hx hM,txt_step l g e hx hM]
  refine rends_congr fun p hp h0=>?_
  rcases pieces_in (exFit_of hM) w p hp with h | ⟨_,h2,_,_⟩
  ·exact absurd h0 h
  ·have h3:=parts_in hM h2
   obtain⟨a,ha⟩:∃a:Nat,p.e=(a:Int):=⟨p.e.toNat,by omega⟩
   rw[ha]
   exact ih g a _ (by omega) (by omega) (by omega)
def costP (C:Int→Int→Nat) (p:Pc):Nat:=if p.text.size=0 then C p.e p.wanted else 1
def costs (C:Int→Int→Nat):List Pc→Nat
 | []=>0
 | p :: l=>costP C p+costs C l
theorem costs_append (C:Int→Int→Nat) (a b:List Pc):costs C (a++b)=costs C a+costs C b:=by
 induction a with
 | nil=>show _=0+_;rw[Nat.zero_add];rfl
 | cons p a ih=>show costP C p+costs C (a++b)=costP C p+costs C a+costs C b;rw[ih,Nat.add_assoc]
def costE (l:List Ex):Nat→Int→Int→Nat
 | 0,_,_=>0
 | f+1,e,w=>1+costs (costE l f) (piecesP (l.getD e.toNat exZ) w)
theorem costs_congr {C C':Int→Int→Nat}:∀{l:List Pc},(∀p ∈ l,p.text.size=0→C p.e p.wanted=C' p.e p.wanted)→costs C l=costs C' l
 | [],_=>rfl
 | p :: l,h=>by
  show costP C p+costs C l=costP C' p+costs C' l
  rw[costs_congr fun q hq=>h q (List.mem_cons_of_mem _ hq)]
  congr 1
  unfold costP
  split
  ·exact h p (List.mem_cons_self ..) (by assumption)
  ·rfl
theorem cost_step (l:List Ex) (f:Nat) (e:Nat) {x:Ex} (hx:l[e]?=some x) (w:Int):costE l (f+1) (e:Int) w=1+costs (costE l f) (piecesP x w):=by
 show 1+costs (costE l f) (piecesP (l.getD ((e:Int)).toNat exZ) w)=_
 have:l.getD ((e:Int)).toNat exZ=x:=by rw[Int.toNat_natCast,List.getD_eq_getElem?_getD,hx];rfl
 rw[this]
theorem cost_fuel (l:List Ex) (hm:∀i x,l[i]?=some x→mayE x i=true):∀(f g e:Nat) (w:Int),e<f→e<g→e<l.length→costE l f (e:Int) w=costE l g (e:Int) w:=by
 intro f
 induction f with
 | zero=>intro g e w h;omega
 | succ f ih =>
  intro g e w hf hg he
  obtain⟨g,rfl⟩:∃g',g=g'+1:=⟨g-1,by omega⟩
  obtain⟨x,hx⟩:∃x,l[e]?=some x:=⟨_,List.getElem?_eq_getElem he⟩
  have hM:=hm e x hx
  rw[cost_step l f e hx,cost_step l g e hx]
  congr 1
  refine costs_congr fun p hp h0=>?_
  rcases pieces_in (exFit_of hM) w p hp with h | ⟨_,h2,_,_⟩
  ·exact absurd h0 h
  ·have h3:=parts_in hM h2
   obtain⟨a,ha⟩:∃a:Nat,p.e=(a:Int):=⟨p.e.toNat,by omega⟩
   rw[ha]
   exact ih g a _ (by omega) (by omega) (by omega)
theorem txt_whole (l:List Ex) (hm:∀i x,l[i]?=some x→mayE x i=true) (e:Nat) {x:Ex} (hx:l[e]?=some x) (w:Int):txtB l l.length (e:Int) w=rendsB (txtB l l.length) (piecesP x w)∧costE l l.length (e:Int) w=1+costs (costE l l.length) (piecesP x w):=by
 have he:=(List.getElem?_eq_some_iff.1 hx).1
 obtain⟨f,hf⟩:∃f,l.length=f+1:=⟨l.length-1,by omega⟩
 have hM:=hm e x hx
 have part:∀p ∈ piecesP x w,p.text.size=0→∃a:Nat,p.e=(a:Int)∧a<e:=fun p hp h0=>by
  rcases pieces_in (exFit_of hM) w p hp with h | ⟨_,h2,_,_⟩
  ·exact absurd h0 h
  ·have h3:=parts_in hM h2
   exact⟨p.e.toNat,by omega,by omega⟩
 constructor
 ·rw[hf,txt_step l f e hx hM]
  refine rends_congr fun p hp h0=>?_
  obtain⟨a,ha,hae⟩:=part p hp h0
  rw[ha];exact txt_fuel l hm f (f+1) a _ (by omega) (by omega) (by omega)
 ·rw[hf,cost_step l f e hx]
  congr 1
  refine costs_congr fun p hp h0=>?_
  obtain⟨a,ha,hae⟩:=part p hp h0
  rw[ha];exact cost_fuel l hm f (f+1) a _ (by omega) (by omega) (by omega)
end Go.Proofs.YthpgfahlccljnaaGreatDoor
