import Derived.Test.YthpgfahlccljnaaGreatDoorSw01
import Derived.Lib.QuietBelow
import Derived.BigQuiet
import Derived.Deep.QuietTactic
set_option maxHeartbeats 16000000
set_option maxRecDepth 100000
open Go.Proofs.Tryz(prog)
namespace Go.Proofs.YthpgfahlccljnaaGreatDoor
open Go.RowKit
def exVal (x:Ex) (s:Value):Value:=.agg #[.int .i64 x.kind,.int .i64 x.a,.int .i64 x.b,.int .i64 x.c,.string x.name,.string x.state,.int .i64 x.v,s,.int .i64 x.pos]
def PartC (pv:Value) (w0:World) (T:Int→Int→ByteArray) (e:Nat):Prop:=∀(a:Nat) (w:Int),a<e→0≤w→w≤7→∀W,Below w0.heap.size w0 W→(Calls prog 10 #[pv,.int .i64 (a:Int),.int .i64 w] W fun r Y=>r=.returned (.string (T (a:Int) w))∧Below W.heap.size W Y)∧(T (a:Int) w).size≤1000000000000000
structure OwnW (W Wb:World) (d0 d1:Value) (k a b c:Int) (nm st:ByteArray) (v:Int) (s:Value) (pos:Int):Prop where
 below:Below W.heap.size W Wb
 p0:Wb.cell? ⟨W.heap.size,0,none⟩=some d0
 p1:Wb.cell? ⟨W.heap.size,1,none⟩=some d1
 x0:Wb.cell? ⟨W.heap.size+1,0,none⟩=some (.int .i64 k)
 x1:Wb.cell? ⟨W.heap.size+1,1,none⟩=some (.int .i64 a)
 x2:Wb.cell? ⟨W.heap.size+1,2,none⟩=some (.int .i64 b)
 x3:Wb.cell? ⟨W.heap.size+1,3,none⟩=some (.int .i64 c)
 x4:Wb.cell? ⟨W.heap.size+1,4,none⟩=some (.string nm)
 x5:Wb.cell? ⟨W.heap.size+1,5,none⟩=some (.string st)
 x6:Wb.cell? ⟨W.heap.size+1,6,none⟩=some (.int .i64 v)
 x7:Wb.cell? ⟨W.heap.size+1,7,none⟩=some s
 x8:Wb.cell? ⟨W.heap.size+1,8,none⟩=some (.int .i64 pos)
 size:Wb.heap.size=W.heap.size+2
theorem cell_blk {W:World} {k:Nat} {cs:Array Value} {T:TypeId} {fr:Nat×Nat} (h:W.heap[k]?=some (.cells cs T fr)) {j:Nat} {v:Value} (hv:cs[j]?=some v):W.cell? ⟨k,j,none⟩=some v:=by simp[World.cell?,h,hv]
theorem ownW_new (W:World) (d0 d1:Value) (k a b c:Int) (nm st:ByteArray) (v:Int) (s:Value) (pos:Int) :
  OwnW W ((W.alloc (.cells #[d0,d1] 25)).alloc (.cells #[.int .i64 k,.int .i64 a,.int .i64 b,.int .i64 c,.string nm,.string st,.int .i64 v,s,.int .i64 pos] 48)) d0 d1 k a b c nm st v s pos:=by
 have hs:(W.alloc (.cells #[d0,d1] 25)).heap.size=W.heap.size+1:=World.size_alloc ..
 have hP:((W.alloc (.cells #[d0,d1] 25)).alloc (.cells #[.int .i64 k,.int .i64 a,.int .i64 b,.int .i64 c,.string nm,.string st,.int .i64 v,s,.int .i64 pos] 48)).heap[W.heap.size]?=some (.cells #[d0,d1] 25 (0,0)):=by
  rw[heap_alloc_old _ _ (by rw[hs];omega)];exact heap_alloc_new W _
 have hX:((W.alloc (.cells #[d0,d1] 25)).alloc (.cells #[.int .i64 k,.int .i64 a,.int .i64 b,.int .i64 c,.string nm,.string st,.int .i64 v,s,.int .i64 pos] 48)).heap[W.heap.size+1]?=some (.cells #[.int .i64 k,.int .i64 a,.int .i64 b,.int .i64 c,.string nm,.string st,.int .i64 v,s,.int .i64 pos] 48 (0,0)):=by
  have:=heap_alloc_new (W.alloc (.cells #[d0,d1] 25)) (.cells #[.int .i64 k,.int .i64 a,.int .i64 b,.int .i64 c,.string nm,.string st,.int .i64 v,s,.int .i64 pos] 48)
  rwa [hs] at this
 refine⟨((qB _ _).alloc (qL _) _).alloc (by simp) _,cell_blk hP rfl,cell_blk hP rfl,cell_blk hX rfl,cell_blk hX rfl,cell_blk hX rfl,cell_blk hX rfl,cell_blk hX rfl,cell_blk hX rfl,cell_blk hX rfl,cell_blk hX rfl,cell_blk hX rfl,by rw[World.size_alloc,hs]⟩
theorem own_num (p0 p1:Value) (k xa xb xc:Int) (nm st:ByteArray) (xv:Int) (s:Value) (pos t:Int) (W:World) (hk:k=1) (hv0:0≤xv) (hv1:xv≤9223372036854775807) :
  Calls prog 24 #[.agg #[p0,p1],.agg #[.int .i64 k,.int .i64 xa,.int .i64 xb,.int .i64 xc,.string nm,.string st,.int .i64 xv,s,.int .i64 pos],.int .i64 t] W fun r Y=>r=.returned (.string (str (shortL xv 32)))∧Below W.heap.size W Y:=by
 have q0:(k ==1)=true:=by rw[hk];decide
 obtain⟨Wb,hWb⟩:∃Wb,Wb=(W.alloc (.cells #[p0,p1] 25)).alloc (.cells #[.int .i64 k,.int .i64 xa,.int .i64 xb,.int .i64 xc,.string nm,.string st,.int .i64 xv,s,.int .i64 pos] 48):=⟨_,rfl⟩
 have HO:=Hd (ownW_new W p0 p1 k xa xb xc nm st xv s pos)
 rw[←hWb] at HO
 obtain⟨hbb,b0,b1,x0,x1,x2,x3,x4,x5,x6,x7,x8,hsz⟩:=HO.out
 have HBB:=Hd hbb
 clear hbb HO
 have C:=Hd (short_ref xv 32 Wb (by omega) hv1)
 clear hk
 go_enter Tryz.func24,Tryz.ntmps24
 go_wp2_with (go_at_call 43;rw[←hWb];clear hWb;(with_reducible refine C.out.mono ?_);rintro e w1 ⟨rfl,hb⟩;have HB:=Hd hb;clear hb)
 go_ret
 exact⟨rfl,HBB.out.trans (HB.out.mono HBB.out.size)⟩
theorem own_pre4 (p0 p1:Value) (w0:World) (T:Int→Int→ByteArray) (e:Nat) (CE:Hid (PartC (.agg #[p0,p1]) w0 T e)) (k xa xb xc:Int) (nm st:ByteArray) (xv:Int) (s:Value) (pos t:Int) (W:World) (hW:Hid (Below w0.heap.size w0 W)) (hk:k=4) (a:Nat) (ha:xa=(a:Int)) (hae:a<e) :
  Calls prog 24 #[.agg #[p0,p1],.agg #[.int .i64 k,.int .i64 xa,.int .i64 xb,.int .i64 xc,.string nm,.string st,.int .i64 xv,s,.int .i64 pos],.int .i64 t] W fun r Y=>r=.returned (.string (⟨#[45]⟩++T (a:Int) 6))∧Below W.heap.size W Y:=by
 have q0:(k ==1)=false:=by rw[hk];decide
 have q1:(k ==2)=false:=by rw[hk];decide
 have q2:(k ==3)=false:=by rw[hk];decide
 have q3:(k ==4)=true:=by rw[hk];decide
 obtain⟨Wb,hWb⟩:∃Wb,Wb=(W.alloc (.cells #[p0,p1] 25)).alloc (.cells #[.int .i64 k,.int .i64 xa,.int .i64 xb,.int .i64 xc,.string nm,.string st,.int .i64 xv,s,.int .i64 pos] 48):=⟨_,rfl⟩
 have HO:=Hd (ownW_new W p0 p1 k xa xb xc nm st xv s pos)
 rw[←hWb] at HO
 obtain⟨hbb,b0,b1,x0,x1,x2,x3,x4,x5,x6,x7,x8,hsz⟩:=HO.out
 have HBB:=Hd hbb
 have HWB:=Hd (hW.out.trans (hbb.mono hW.out.size))
 clear hbb HO
 obtain⟨C0,hT⟩:=CE.out a 6 hae (by omega) (by omega) Wb HWB.out
 obtain⟨TA,hTA⟩:∃TA,TA=T (a:Int) 6:=⟨_,rfl⟩
 rw[←hTA] at C0 hT ⊢
 rw[←ha] at C0
 have C:=Hd C0
 clear hk C0 hTA ha
 go_enter Tryz.func24,Tryz.ntmps24
 go_wp2_with (go_at_call 10;rw[←hWb];clear hWb;(with_reducible refine C.out.mono ?_);rintro e w1 ⟨rfl,hb⟩;have HB:=Hd hb;clear hb)
 go_ret
 exact⟨rfl,HBB.out.trans (HB.out.mono HBB.out.size)⟩
theorem own_pre5 (p0 p1:Value) (w0:World) (T:Int→Int→ByteArray) (e:Nat) (CE:Hid (PartC (.agg #[p0,p1]) w0 T e)) (k xa xb xc:Int) (nm st:ByteArray) (xv:Int) (s:Value) (pos t:Int) (W:World) (hW:Hid (Below w0.heap.size w0 W)) (hk:k=5) (a:Nat) (ha:xa=(a:Int)) (hae:a<e) :
  Calls prog 24 #[.agg #[p0,p1],.agg #[.int .i64 k,.int .i64 xa,.int .i64 xb,.int .i64 xc,.string nm,.string st,.int .i64 xv,s,.int .i64 pos],.int .i64 t] W fun r Y=>r=.returned (.string (⟨#[110,111,116,32]⟩++T (a:Int) 6))∧Below W.heap.size W Y:=by
 have q0:(k ==1)=false:=by rw[hk];decide
 have q1:(k ==2)=false:=by rw[hk];decide
 have q2:(k ==3)=false:=by rw[hk];decide
 have q3:(k ==4)=false:=by rw[hk];decide
 have q4:(k ==5)=true:=by rw[hk];decide
 obtain⟨Wb,hWb⟩:∃Wb,Wb=(W.alloc (.cells #[p0,p1] 25)).alloc (.cells #[.int .i64 k,.int .i64 xa,.int .i64 xb,.int .i64 xc,.string nm,.string st,.int .i64 xv,s,.int .i64 pos] 48):=⟨_,rfl⟩
 have HO:=Hd (ownW_new W p0 p1 k xa xb xc nm st xv s pos)
 rw[←hWb] at HO
 obtain⟨hbb,b0,b1,x0,x1,x2,x3,x4,x5,x6,x7,x8,hsz⟩:=HO.out
 have HBB:=Hd hbb
 have HWB:=Hd (hW.out.trans (hbb.mono hW.out.size))
 clear hbb HO
 obtain⟨C0,hT⟩:=CE.out a 6 hae (by omega) (by omega) Wb HWB.out
 obtain⟨TA,hTA⟩:∃TA,TA=T (a:Int) 6:=⟨_,rfl⟩
 rw[←hTA] at C0 hT ⊢
 rw[←ha] at C0
 have C:=Hd C0
 clear hk C0 hTA ha
 go_enter Tryz.func24,Tryz.ntmps24
 go_wp2_with (go_at_call 10;rw[←hWb];clear hWb;(with_reducible refine C.out.mono ?_);rintro e w1 ⟨rfl,hb⟩;have HB:=Hd hb;clear hb)
 go_ret
 exact⟨rfl,HBB.out.trans (HB.out.mono HBB.out.size)⟩
theorem own_pre16 (p0 p1:Value) (w0:World) (T:Int→Int→ByteArray) (e:Nat) (CE:Hid (PartC (.agg #[p0,p1]) w0 T e)) (k xa xb xc:Int) (nm st:ByteArray) (xv:Int) (s:Value) (pos t:Int) (W:World) (hW:Hid (Below w0.heap.size w0 W)) (hk:k=16) (a:Nat) (ha:xa=(a:Int)) (hae:a<e) :
  Calls prog 24 #[.agg #[p0,p1],.agg #[.int .i64 k,.int .i64 xa,.int .i64 xb,.int .i64 xc,.string nm,.string st,.int .i64 xv,s,.int .i64 pos],.int .i64 t] W fun r Y=>r=.returned (.string (⟨#[112,114,101,32]⟩++T (a:Int) 6))∧Below W.heap.size W Y:=by
 have q0:(k ==1)=false:=by rw[hk];decide
 have q1:(k ==2)=false:=by rw[hk];decide
 have q2:(k ==3)=false:=by rw[hk];decide
 have q3:(k ==4)=false:=by rw[hk];decide
 have q4:(k ==5)=false:=by rw[hk];decide
 have q5:(k ==16)=true:=by rw[hk];decide
 obtain⟨Wb,hWb⟩:∃Wb,Wb=(W.alloc (.cells #[p0,p1] 25)).alloc (.cells #[.int .i64 k,.int .i64 xa,.int .i64 xb,.int .i64 xc,.string nm,.string st,.int .i64 xv,s,.int .i64 pos] 48):=⟨_,rfl⟩
 have HO:=Hd (ownW_new W p0 p1 k xa xb xc nm st xv s pos)
 rw[←hWb] at HO
 obtain⟨hbb,b0,b1,x0,x1,x2,x3,x4,x5,x6,x7,x8,hsz⟩:=HO.out
 have HBB:=Hd hbb
 have HWB:=Hd (hW.out.trans (hbb.mono hW.out.size))
 clear hbb HO
 obtain⟨C0,hT⟩:=CE.out a 6 hae (by omega) (by omega) Wb HWB.out
 obtain⟨TA,hTA⟩:∃TA,TA=T (a:Int) 6:=⟨_,rfl⟩
 rw[←hTA] at C0 hT ⊢
 rw[←ha] at C0
 have C:=Hd C0
 clear hk C0 hTA ha
 go_enter Tryz.func24,Tryz.ntmps24
 go_wp2_with (go_at_call 10;rw[←hWb];clear hWb;(with_reducible refine C.out.mono ?_);rintro e w1 ⟨rfl,hb⟩;have HB:=Hd hb;clear hb)
 go_ret
 exact⟨rfl,HBB.out.trans (HB.out.mono HBB.out.size)⟩
theorem own_pre21 (p0 p1:Value) (w0:World) (T:Int→Int→ByteArray) (e:Nat) (CE:Hid (PartC (.agg #[p0,p1]) w0 T e)) (k xa xb xc:Int) (nm st:ByteArray) (xv:Int) (s:Value) (pos t:Int) (W:World) (hW:Hid (Below w0.heap.size w0 W)) (hk:k=21) (a:Nat) (ha:xa=(a:Int)) (hae:a<e) :
  Calls prog 24 #[.agg #[p0,p1],.agg #[.int .i64 k,.int .i64 xa,.int .i64 xb,.int .i64 xc,.string nm,.string st,.int .i64 xv,s,.int .i64 pos],.int .i64 t] W fun r Y=>r=.returned (.string (⟨#[115,113,114,116,32]⟩++T (a:Int) 6))∧Below W.heap.size W Y:=by
 have q0:(k ==1)=false:=by rw[hk];decide
 have q1:(k ==2)=false:=by rw[hk];decide
 have q2:(k ==3)=false:=by rw[hk];decide
 have q3:(k ==4)=false:=by rw[hk];decide
 have q4:(k ==5)=false:=by rw[hk];decide
 have q5:(k ==16)=false:=by rw[hk];decide
 have q6:(k ==21)=true:=by rw[hk];decide
 obtain⟨Wb,hWb⟩:∃Wb,Wb=(W.alloc (.cells #[p0,p1] 25)).alloc (.cells #[.int .i64 k,.int .i64 xa,.int .i64 xb,.int .i64 xc,.string nm,.string st,.int .i64 xv,s,.int .i64 pos] 48):=⟨_,rfl⟩
 have HO:=Hd (ownW_new W p0 p1 k xa xb xc nm st xv s pos)
 rw[←hWb] at HO
 obtain⟨hbb,b0,b1,x0,x1,x2,x3,x4,x5,x6,x7,x8,hsz⟩:=HO.out
 have HBB:=Hd hbb
 have HWB:=Hd (hW.out.trans (hbb.mono hW.out.size))
 clear hbb HO
 obtain⟨C0,hT⟩:=CE.out a 6 hae (by omega) (by omega) Wb HWB.out
 obtain⟨TA,hTA⟩:∃TA,TA=T (a:Int) 6:=⟨_,rfl⟩
 rw[←hTA] at C0 hT ⊢
 rw[←ha] at C0
 have C:=Hd C0
 clear hk C0 hTA ha
 go_enter Tryz.func24,Tryz.ntmps24
 go_wp2_with (go_at_call 10;rw[←hWb];clear hWb;(with_reducible refine C.out.mono ?_);rintro e w1 ⟨rfl,hb⟩;have HB:=Hd hb;clear hb)
 go_ret
 exact⟨rfl,HBB.out.trans (HB.out.mono HBB.out.size)⟩
theorem own_boolt (p0 p1:Value) (k xa xb xc:Int) (nm st:ByteArray) (xv:Int) (s:Value) (pos t:Int) (W:World) (hk:k=2) (hv:xv=1) :
  Calls prog 24 #[.agg #[p0,p1],.agg #[.int .i64 k,.int .i64 xa,.int .i64 xb,.int .i64 xc,.string nm,.string st,.int .i64 xv,s,.int .i64 pos],.int .i64 t] W fun r Y=>r=.returned (.string ⟨#[116,114,117,101]⟩)∧Below W.heap.size W Y:=by
 have q0:(k ==1)=false:=by rw[hk];decide
 have q1:(k ==2)=true:=by rw[hk];decide
 obtain⟨Wb,hWb⟩:∃Wb,Wb=(W.alloc (.cells #[p0,p1] 25)).alloc (.cells #[.int .i64 k,.int .i64 xa,.int .i64 xb,.int .i64 xc,.string nm,.string st,.int .i64 xv,s,.int .i64 pos] 48):=⟨_,rfl⟩
 have HO:=Hd (ownW_new W p0 p1 k xa xb xc nm st xv s pos)
 rw[←hWb] at HO
 obtain⟨hbb,b0,b1,x0,x1,x2,x3,x4,x5,x6,x7,x8,hsz⟩:=HO.out
 have HBB:=Hd hbb
 clear hbb HO
 have qv:(xv ==1)=true:=by rw[hv];rfl
 clear hk hv
 go_enter Tryz.func24,Tryz.ntmps24
 go_wp2_with fail
 go_ret
 exact⟨rfl,by rw[←hWb];exact HBB.out⟩
theorem own_boolf (p0 p1:Value) (k xa xb xc:Int) (nm st:ByteArray) (xv:Int) (s:Value) (pos t:Int) (W:World) (hk:k=2) (hv:xv≠1) :
  Calls prog 24 #[.agg #[p0,p1],.agg #[.int .i64 k,.int .i64 xa,.int .i64 xb,.int .i64 xc,.string nm,.string st,.int .i64 xv,s,.int .i64 pos],.int .i64 t] W fun r Y=>r=.returned (.string ⟨#[102,97,108,115,101]⟩)∧Below W.heap.size W Y:=by
 have q0:(k ==1)=false:=by rw[hk];decide
 have q1:(k ==2)=true:=by rw[hk];decide
 obtain⟨Wb,hWb⟩:∃Wb,Wb=(W.alloc (.cells #[p0,p1] 25)).alloc (.cells #[.int .i64 k,.int .i64 xa,.int .i64 xb,.int .i64 xc,.string nm,.string st,.int .i64 xv,s,.int .i64 pos] 48):=⟨_,rfl⟩
 have HO:=Hd (ownW_new W p0 p1 k xa xb xc nm st xv s pos)
 rw[←hWb] at HO
 obtain⟨hbb,b0,b1,x0,x1,x2,x3,x4,x5,x6,x7,x8,hsz⟩:=HO.out
 have HBB:=Hd hbb
 clear hbb HO
 have qv:(xv ==1)=false:=beq_false_of_ne hv
 clear hk hv
 go_enter Tryz.func24,Tryz.ntmps24
 go_wp2_with fail
 go_ret
 exact⟨rfl,by rw[←hWb];exact HBB.out⟩
theorem own_name (p0 p1:Value) (k xa xb xc:Int) (nm st:ByteArray) (xv:Int) (s:Value) (pos t:Int) (W:World) (hk:k=3) :
  Calls prog 24 #[.agg #[p0,p1],.agg #[.int .i64 k,.int .i64 xa,.int .i64 xb,.int .i64 xc,.string nm,.string st,.int .i64 xv,s,.int .i64 pos],.int .i64 t] W fun r Y=>r=.returned (.string nm)∧Below W.heap.size W Y:=by
 have q0:(k ==1)=false:=by rw[hk];decide
 have q1:(k ==2)=false:=by rw[hk];decide
 have q2:(k ==3)=true:=by rw[hk];decide
 obtain⟨Wb,hWb⟩:∃Wb,Wb=(W.alloc (.cells #[p0,p1] 25)).alloc (.cells #[.int .i64 k,.int .i64 xa,.int .i64 xb,.int .i64 xc,.string nm,.string st,.int .i64 xv,s,.int .i64 pos] 48):=⟨_,rfl⟩
 have HO:=Hd (ownW_new W p0 p1 k xa xb xc nm st xv s pos)
 rw[←hWb] at HO
 obtain⟨hbb,b0,b1,x0,x1,x2,x3,x4,x5,x6,x7,x8,hsz⟩:=HO.out
 have HBB:=Hd hbb
 clear hbb HO
 clear hk
 go_enter Tryz.func24,Tryz.ntmps24
 go_wp2_with fail
 go_ret
 exact⟨rfl,by rw[←hWb];exact HBB.out⟩
theorem own_is (p0 p1:Value) (k xa xb xc:Int) (nm st:ByteArray) (xv:Int) (s:Value) (pos t:Int) (W:World) (hk:k=20) (hn:nm.size≤1000000000000000) (hs:st.size≤1000000000000000) :
  Calls prog 24 #[.agg #[p0,p1],.agg #[.int .i64 k,.int .i64 xa,.int .i64 xb,.int .i64 xc,.string nm,.string st,.int .i64 xv,s,.int .i64 pos],.int .i64 t] W fun r Y=>r=.returned (.string ((nm++⟨#[32,105,115,32]⟩)++st))∧Below W.heap.size W Y:=by
 have q0:(k ==1)=false:=by rw[hk];decide
 have q1:(k ==2)=false:=by rw[hk];decide
 have q2:(k ==3)=false:=by rw[hk];decide
 have q3:(k ==4)=false:=by rw[hk];decide
 have q4:(k ==5)=false:=by rw[hk];decide
 have q5:(k ==16)=false:=by rw[hk];decide
 have q6:(k ==21)=false:=by rw[hk];decide
 have q7:(k ==15)=false:=by rw[hk];decide
 have q8:(k ==19)=false:=by rw[hk];decide
 have q9:(k ==20)=true:=by rw[hk];decide
 obtain⟨Wb,hWb⟩:∃Wb,Wb=(W.alloc (.cells #[p0,p1] 25)).alloc (.cells #[.int .i64 k,.int .i64 xa,.int .i64 xb,.int .i64 xc,.string nm,.string st,.int .i64 xv,s,.int .i64 pos] 48):=⟨_,rfl⟩
 have HO:=Hd (ownW_new W p0 p1 k xa xb xc nm st xv s pos)
 rw[←hWb] at HO
 obtain⟨hbb,b0,b1,x0,x1,x2,x3,x4,x5,x6,x7,x8,hsz⟩:=HO.out
 have HBB:=Hd hbb
 clear hbb HO
 clear hk
 go_enter Tryz.func24,Tryz.ntmps24
 go_wp2_with fail
 go_ret
 exact⟨rfl,by rw[←hWb];exact HBB.out⟩
theorem own_if (p0 p1:Value) (w0:World) (T:Int→Int→ByteArray) (e:Nat) (CE:Hid (PartC (.agg #[p0,p1]) w0 T e)) (k xa xb xc:Int) (nm st:ByteArray) (xv:Int) (s:Value) (pos t:Int) (W:World) (hW:Hid (Below w0.heap.size w0 W)) (hk:k=15) (a b c:Nat) (ha:xa=(a:Int)) (hb:xb=(b:Int)) (hc:xc=(c:Int)) (hae:a<e) (hbe:b<e) (hce:c<e) :
  Calls prog 24 #[.agg #[p0,p1],.agg #[.int .i64 k,.int .i64 xa,.int .i64 xb,.int .i64 xc,.string nm,.string st,.int .i64 xv,s,.int .i64 pos],.int .i64 t] W fun r Y=>r=.returned (.string (((((⟨#[105,102,32]⟩++T (a:Int) 0)++⟨#[32,116,104,101,110,32]⟩)++T (b:Int) 0)++⟨#[32,101,108,115,101,32]⟩)++T (c:Int) 0))∧Below W.heap.size W Y:=by
 have q0:(k ==1)=false:=by rw[hk];decide
 have q1:(k ==2)=false:=by rw[hk];decide
 have q2:(k ==3)=false:=by rw[hk];decide
 have q3:(k ==4)=false:=by rw[hk];decide
 have q4:(k ==5)=false:=by rw[hk];decide
 have q5:(k ==16)=false:=by rw[hk];decide
 have q6:(k ==21)=false:=by rw[hk];decide
 have q7:(k ==15)=true:=by rw[hk];decide
 obtain⟨Wb,hWb⟩:∃Wb,Wb=(W.alloc (.cells #[p0,p1] 25)).alloc (.cells #[.int .i64 k,.int .i64 xa,.int .i64 xb,.int .i64 xc,.string nm,.string st,.int .i64 xv,s,.int .i64 pos] 48):=⟨_,rfl⟩
 have HO:=Hd (ownW_new W p0 p1 k xa xb xc nm st xv s pos)
 rw[←hWb] at HO
 obtain⟨hbb,b0,b1,x0,x1,x2,x3,x4,x5,x6,x7,x8,hsz⟩:=HO.out
 have HBB:=Hd hbb
 have HWB:=Hd (hW.out.trans (hbb.mono hW.out.size))
 clear hbb HO
 have hTA:=(CE.out a 0 hae (by omega) (by omega) Wb HWB.out).2
 have hTB:=(CE.out b 0 hbe (by omega) (by omega) Wb HWB.out).2
 have hTC:=(CE.out c 0 hce (by omega) (by omega) Wb HWB.out).2
 obtain⟨TA,hTAe⟩:∃TA,TA=T (a:Int) 0:=⟨_,rfl⟩
 obtain⟨TB,hTBe⟩:∃TB,TB=T (b:Int) 0:=⟨_,rfl⟩
 obtain⟨TC,hTCe⟩:∃TC,TC=T (c:Int) 0:=⟨_,rfl⟩
 rw[←hTAe] at hTA ⊢
 rw[←hTBe] at hTB ⊢
 rw[←hTCe] at hTC ⊢
 have hWq:∀pr:Regrown,Below w0.heap.size w0 (Go.Sort.grow (redrawn Wb pr.d) pr.os):=fun pr=>HWB.out.trans ((below_regrown Wb pr.d pr.os).mono HWB.out.size)
 have CA:Hid (∀pr:Regrown,Calls prog 10 #[.agg #[p0,p1],.int .i64 xa,.int .i64 0] (Go.Sort.grow (redrawn Wb pr.d) pr.os) fun e w''=>e=.returned (.string TA)∧∃p:Regrown,w''=Go.Sort.grow (redrawn Wb p.d) p.os):=Hd fun pr=>by
  rw[ha,hTAe];exact Calls.regrown_of (CE.out a 0 hae (by omega) (by omega) _ (hWq pr)).1
 have CB:Hid (∀pr:Regrown,Calls prog 10 #[.agg #[p0,p1],.int .i64 xb,.int .i64 0] (Go.Sort.grow (redrawn Wb pr.d) pr.os) fun e w''=>e=.returned (.string TB)∧∃p:Regrown,w''=Go.Sort.grow (redrawn Wb p.d) p.os):=Hd fun pr=>by
  rw[hb,hTBe];exact Calls.regrown_of (CE.out b 0 hbe (by omega) (by omega) _ (hWq pr)).1
 have CC:Hid (∀pr:Regrown,Calls prog 10 #[.agg #[p0,p1],.int .i64 xc,.int .i64 0] (Go.Sort.grow (redrawn Wb pr.d) pr.os) fun e w''=>e=.returned (.string TC)∧∃p:Regrown,w''=Go.Sort.grow (redrawn Wb p.d) p.os):=Hd fun pr=>by
  rw[hc,hTCe];exact Calls.regrown_of (CE.out c 0 hce (by omega) (by omega) _ (hWq pr)).1
 clear hk hTAe hTBe hTCe ha hb hc CE hWq
 go_enter Tryz.func24,Tryz.ntmps24
 go_wp2_with fail
 rw[←hWb]
 clear hWb
 have Gp0:=cell_regrown b0
 have Gp1:=cell_regrown b1
 have Gx0:=cell_regrown x0
 have Gx1:=cell_regrown x1
 have Gx2:=cell_regrown x2
 have Gx3:=cell_regrown x3
 refine wp_region_quiet_below (by kernel_rfl) (by kernel_rfl) ?_
 repeat (go_big_quiet_step (first | with_reducible exact CA.out _ | with_reducible exact CB.out _ | with_reducible exact CC.out _))
 refine wpQuiet_nil ?_
 intro w7 hw7
 have HB3:Hid (Below Wb.heap.size Wb w7):=Hd (by obtain⟨pr,rfl⟩:=hw7;exact below_regrown _ _ _)
 clear hw7 Gp0 Gp1 Gx0 Gx1 Gx2 Gx3
 go_wp2_with fail
 go_ret
 exact⟨rfl,HBB.out.trans (HB3.out.mono HBB.out.size)⟩
theorem tight_any (k:Int) (h1:1≤k) (h2:k≤21) (W:World):Calls prog 23 #[.int .i64 k] W fun r Y=>r=.returned (.int .i64 (tightK k))∧Y=W:=by
 obtain rfl | rfl | rfl | rfl | rfl | rfl | rfl | rfl | rfl | rfl | rfl | rfl | rfl | rfl | rfl | rfl | rfl | rfl | rfl | rfl | rfl:k=1∨k=2∨k=3∨k=4∨k=5∨k=6∨k=7∨k=8∨k=9∨k=10∨k=11∨k=12∨k=13∨k=14∨k=15∨k=16∨k=17∨k=18∨k=19∨k=20∨k=21:=by omega
 all_goals (
  go_enter Tryz.func23,Tryz.ntmps23
  go_wp2_with fail
  go_ret
  exact⟨rfl,rfl⟩)
def TwoK (k:Int):Prop:=(6≤k∧k≤14)∨k=17∨k=18
theorem sign_any (k:Int) (h:TwoK k) (W:World):Calls prog 44 #[.int .i64 k] W fun r Y=>r=.returned (.string (signB k))∧Below W.heap.size W Y:=by
 unfold TwoK at h
 obtain rfl | rfl | rfl | rfl | rfl | rfl | rfl | rfl | rfl | rfl | rfl:k=6∨k=7∨k=8∨k=9∨k=10∨k=11∨k=12∨k=13∨k=14∨k=17∨k=18:=by omega
 all_goals (
  go_enter Tryz.func44,Tryz.ntmps44
  go_wp2_with fail
  go_ret
  exact⟨rfl,qB _ _⟩)
theorem sign_size (k:Int):(signB k).size≤3:=by
 unfold signB
 repeat' split
 all_goals decide
theorem own_two (p0 p1:Value) (w0:World) (T:Int→Int→ByteArray) (e:Nat) (CE:Hid (PartC (.agg #[p0,p1]) w0 T e)) (k xa xb xc:Int) (nm st:ByteArray) (xv:Int) (s:Value) (pos t:Int) (W:World) (hW:Hid (Below w0.heap.size w0 W)) (hk:TwoK k) (ow nw:Int) (ht:(t=3∧ow=4∧nw=4)∨(t=0∧ow=1∧nw=0)∨(t≠3∧t≠0∧ow=t∧nw=t+1)) (t0:0≤t) (t6:t≤6) (a b:Nat) (ha:xa=(a:Int)) (hb:xb=(b:Int)) (hae:a<e) (hbe:b<e) :
  Calls prog 24 #[.agg #[p0,p1],.agg #[.int .i64 k,.int .i64 xa,.int .i64 xb,.int .i64 xc,.string nm,.string st,.int .i64 xv,s,.int .i64 pos],.int .i64 t] W fun r Y=>r=.returned (.string ((((T (a:Int) ow++⟨#[32]⟩)++signB k)++⟨#[32]⟩)++T (b:Int) nw))∧Below W.heap.size W Y:=by
 have hK:=Hd hk
 unfold TwoK at hk
 have q0:(k ==1)=false:=beq_false_of_ne (by omega)
 have q1:(k ==2)=false:=beq_false_of_ne (by omega)
 have q2:(k ==3)=false:=beq_false_of_ne (by omega)
 have q3:(k ==4)=false:=beq_false_of_ne (by omega)
 have q4:(k ==5)=false:=beq_false_of_ne (by omega)
 have q5:(k ==16)=false:=beq_false_of_ne (by omega)
 have q6:(k ==21)=false:=beq_false_of_ne (by omega)
 have q7:(k ==15)=false:=beq_false_of_ne (by omega)
 have q8:(k ==19)=false:=beq_false_of_ne (by omega)
 have q9:(k ==20)=false:=beq_false_of_ne (by omega)
 obtain⟨Wb,hWb⟩:∃Wb,Wb=(W.alloc (.cells #[p0,p1] 25)).alloc (.cells #[.int .i64 k,.int .i64 xa,.int .i64 xb,.int .i64 xc,.string nm,.string st,.int .i64 xv,s,.int .i64 pos] 48):=⟨_,rfl⟩
 have HO:=Hd (ownW_new W p0 p1 k xa xb xc nm st xv s pos)
 rw[←hWb] at HO
 obtain⟨hbb,b0,b1,x0,x1,x2,x3,x4,x5,x6,x7,x8,hsz⟩:=HO.out
 have HBB:=Hd hbb
 have HWB:=Hd (hW.out.trans (hbb.mono hW.out.size))
 clear hbb HO
 have hTA:=(CE.out a ow hae (by omega) (by omega) Wb HWB.out).2
 have hTB:=(CE.out b nw hbe (by omega) (by omega) Wb HWB.out).2
 obtain⟨TA,hTAe⟩:∃TA,TA=T (a:Int) ow:=⟨_,rfl⟩
 obtain⟨TB,hTBe⟩:∃TB,TB=T (b:Int) nw:=⟨_,rfl⟩
 obtain⟨SG,hSG⟩:∃SG,SG=signB k:=⟨_,rfl⟩
 have hS3:=sign_size k
 rw[←hTAe] at hTA ⊢
 rw[←hTBe] at hTB ⊢
 rw[←hSG] at hS3 ⊢
 have hWq:∀pr:Regrown,Below w0.heap.size w0 (Go.Sort.grow (redrawn Wb pr.d) pr.os):=fun pr=>HWB.out.trans ((below_regrown Wb pr.d pr.os).mono HWB.out.size)
 have CA:Hid (∀pr:Regrown,Calls prog 10 #[.agg #[p0,p1],.int .i64 xa,.int .i64 ow] (Go.Sort.grow (redrawn Wb pr.d) pr.os) fun e w''=>e=.returned (.string TA)∧∃p:Regrown,w''=Go.Sort.grow (redrawn Wb p.d) p.os):=Hd fun pr=>by
  rw[ha,hTAe];exact Calls.regrown_of (CE.out a ow hae (by omega) (by omega) _ (hWq pr)).1
 have CB:Hid (∀pr:Regrown,Calls prog 10 #[.agg #[p0,p1],.int .i64 xb,.int .i64 nw] (Go.Sort.grow (redrawn Wb pr.d) pr.os) fun e w''=>e=.returned (.string TB)∧∃p:Regrown,w''=Go.Sort.grow (redrawn Wb p.d) p.os):=Hd fun pr=>by
  rw[hb,hTBe];exact Calls.regrown_of (CE.out b nw hbe (by omega) (by omega) _ (hWq pr)).1
 have CS:Hid (∀pr:Regrown,Calls prog 44 #[.int .i64 k] (Go.Sort.grow (redrawn Wb pr.d) pr.os) fun e w''=>e=.returned (.string SG)∧∃p:Regrown,w''=Go.Sort.grow (redrawn Wb p.d) p.os):=Hd fun pr=>by
  rw[hSG];exact Calls.regrown_of (sign_any k hK.out _)
 clear hk hTAe hTBe hSG ha hb CE hWq hae hbe
 rcases ht with ⟨h3,rfl,rfl⟩ | ⟨h3,rfl,rfl⟩ | ⟨h3,h0,rfl,hnw⟩
 ·have r3:(t ==3)=true:=by rw[h3];rfl
  have r0:(t ==0)=false:=by rw[h3];rfl
  clear h3
  go_enter Tryz.func24,Tryz.ntmps24
  go_wp2_with fail
  rw[←hWb]
  clear hWb
  have Gp0:=cell_regrown b0
  have Gp1:=cell_regrown b1
  have Gx0:=cell_regrown x0
  have Gx1:=cell_regrown x1
  have Gx2:=cell_regrown x2
  refine wp_region_quiet_below (by kernel_rfl) (by kernel_rfl) ?_
  repeat (go_big_quiet_step (first | with_reducible exact CA.out _ | with_reducible exact CB.out _ | with_reducible exact CS.out _))
  refine wpQuiet_nil ?_
  intro w7 hw7
  have HB3:Hid (Below Wb.heap.size Wb w7):=Hd (by obtain⟨pr,rfl⟩:=hw7;exact below_regrown _ _ _)
  clear hw7 Gp0 Gp1 Gx0 Gx1 Gx2
  go_wp2_with fail
  go_ret
  exact⟨rfl,HBB.out.trans (HB3.out.mono HBB.out.size)⟩
 ·have r3:(t ==3)=false:=by rw[h3];rfl
  have r0:(t ==0)=true:=by rw[h3];rfl
  clear h3
  go_enter Tryz.func24,Tryz.ntmps24
  go_wp2_with fail
  rw[←hWb]
  clear hWb
  have Gp0:=cell_regrown b0
  have Gp1:=cell_regrown b1
  have Gx0:=cell_regrown x0
  have Gx1:=cell_regrown x1
  have Gx2:=cell_regrown x2
  refine wp_region_quiet_below (by kernel_rfl) (by kernel_rfl) ?_
  repeat (go_big_quiet_step (first | with_reducible exact CA.out _ | with_reducible exact CB.out _ | with_reducible exact CS.out _))
  refine wpQuiet_nil ?_
  intro w7 hw7
  have HB3:Hid (Below Wb.heap.size Wb w7):=Hd (by obtain⟨pr,rfl⟩:=hw7;exact below_regrown _ _ _)
  clear hw7 Gp0 Gp1 Gx0 Gx1 Gx2
  go_wp2_with fail
  go_ret
  exact⟨rfl,HBB.out.trans (HB3.out.mono HBB.out.size)⟩
 ·have r3:(ow ==3)=false:=beq_false_of_ne h3
  have r0:(ow ==0)=false:=beq_false_of_ne h0
  have rn:ow+1=nw:=hnw.symm
  clear h3 h0 hnw
  go_enter Tryz.func24,Tryz.ntmps24
  go_wp2_with fail
  rw[←hWb]
  clear hWb
  have Gp0:=cell_regrown b0
  have Gp1:=cell_regrown b1
  have Gx0:=cell_regrown x0
  have Gx1:=cell_regrown x1
  have Gx2:=cell_regrown x2
  refine wp_region_quiet_below (by kernel_rfl) (by kernel_rfl) ?_
  repeat (go_big_quiet_step (first | with_reducible exact CA.out _ | with_reducible exact CB.out _ | with_reducible exact CS.out _))
  refine wpQuiet_nil ?_
  intro w7 hw7
  have HB3:Hid (Below Wb.heap.size Wb w7):=Hd (by obtain⟨pr,rfl⟩:=hw7;exact below_regrown _ _ _)
  clear hw7 Gp0 Gp1 Gx0 Gx1 Gx2
  go_wp2_with fail
  go_ret
  exact⟨rfl,HBB.out.trans (HB3.out.mono HBB.out.size)⟩
theorem own_call (p0 p1:Value) (w0:World) (T:Int→Int→ByteArray) (e:Nat) (CE:Hid (PartC (.agg #[p0,p1]) w0 T e)) (k xa xb xc:Int) (nm st:ByteArray) (xv:Int) (s:Value) (pos t:Int) (args:List Int) (oa:Option Addr) (na ca ba fa:Nat) (hna:Hid (args.length=na)) (nal:(na:Int)≤1000) (hoa:0<na→oa=some ⟨ba,fa,none⟩) (hcell:Hid (∀i,i<na→w0.cell? ⟨ba,fa+i,none⟩=some (.int .i64 (args.getD i 0))))
  (hpos:Hid (∀z ∈ args,∃a:Nat,z=(a:Int)∧a<e)) (hs:s=.slice oa na ca) (hM:Hid (∀i,i≤na→(argsB (fun a=>T a 0) (nm++⟨#[40]⟩) args i).size≤1000000000000000)) (hnm:nm.size≤1000000000000000) (W:World) (hW:Hid (Below w0.heap.size w0 W)) (hk:k=19) :
  Calls prog 24 #[.agg #[p0,p1],.agg #[.int .i64 k,.int .i64 xa,.int .i64 xb,.int .i64 xc,.string nm,.string st,.int .i64 xv,s,.int .i64 pos],.int .i64 t] W fun r Y=>r=.returned (.string (argsB (fun a=>T a 0) (nm++⟨#[40]⟩) args na++⟨#[41]⟩))∧Below W.heap.size W Y:=by
 subst hs
 have q0:(k ==1)=false:=by rw[hk];decide
 have q1:(k ==2)=false:=by rw[hk];decide
 have q2:(k ==3)=false:=by rw[hk];decide
 have q3:(k ==4)=false:=by rw[hk];decide
 have q4:(k ==5)=false:=by rw[hk];decide
 have q5:(k ==16)=false:=by rw[hk];decide
 have q6:(k ==21)=false:=by rw[hk];decide
 have q7:(k ==15)=false:=by rw[hk];decide
 have q8:(k ==19)=true:=by rw[hk];decide
 obtain⟨Wb,hWb⟩:∃Wb,Wb=(W.alloc (.cells #[p0,p1] 25)).alloc (.cells #[.int .i64 k,.int .i64 xa,.int .i64 xb,.int .i64 xc,.string nm,.string st,.int .i64 xv,.slice oa na ca,.int .i64 pos] 48):=⟨_,rfl⟩
 have HO:=Hd (ownW_new W p0 p1 k xa xb xc nm st xv (.slice oa na ca) pos)
 rw[←hWb] at HO
 obtain⟨hbb,b0,b1,x0,x1,x2,x3,x4,x5,x6,x7,x8,hsz⟩:=HO.out
 have HBB:=Hd hbb
 have HWB:=Hd (hW.out.trans (hbb.mono hW.out.size))
 clear hbb HO
 clear hk
 go_enter Tryz.func24,Tryz.ntmps24
 go_wp2_with fail
 rw[←hWb]
 clear hWb
 go_loopw [7,8] (fun sv i wr=>∃j:Nat,j≤na∧sv=.string (argsB (fun a=>T a 0) (nm++⟨#[40]⟩) args j)∧i=.int .i64 (j:Int)∧Hid (Below Wb.heap.size Wb wr)) (fun _ i _=>na-litLen i)
 case atStart=>exact⟨0,by omega,rfl,rfl,Hd (qB _ _)⟩
 case round =>
  obtain⟨j,hj,rfl,rfl,hB⟩:=hrel
  have HBw:=Hd (HWB.out.trans (hB.out.mono HWB.out.size))
  have up:∀{i:Nat} {x:Nat} {v:Value},x<Wb.heap.size→Wb.cell? ⟨x,i,none⟩=some v→wr.cell? ⟨x,i,none⟩=some v:=fun {i x v} hx h=>(hB.out.cell (p:=⟨x,i,none⟩) hx).trans h
  have y0:=up (by omega) b0
  have y1:=up (by omega) b1
  have y4:=up (by omega) x4
  have y7:=up (by omega) x7
  obtain⟨S,hS⟩:∃S,S=argsB (fun a=>T a 0) (nm++⟨#[40]⟩) args j:=⟨_,rfl⟩
  have hSz:S.size≤1000000000000000:=by rw[hS];exact hM.out j hj
  rw[←hS]
  have HS:=Hd hS
  clear hS up
  rcases Nat.lt_or_ge j na with hlt | hge
  ·have q':decide ((j:Int)<(na:Int))=true:=qT (by omega)
   have jr:(j:Int)<(na:Int):=by omega
   obtain⟨z,hz⟩:∃z,z=args.getD j 0:=⟨_,rfl⟩
   have hzm:z ∈ args:=by
    rw[hz,List.getD_eq_getElem?_getD,List.getElem?_eq_getElem (by have:=hna.out;omega)]
    exact List.getElem_mem _
   obtain⟨a,ha,hae⟩:=hpos.out z hzm
   have hca:wr.cell? ⟨ba,fa+j,none⟩=some (.int .i64 z):=by rw[hz];exact(HBw.out.cell (p:=⟨ba,fa+j,none⟩) (World.block_lt_of_cell? _ _ (hcell.out j hlt))).trans (hcell.out j hlt)
   have ix:=ix_ints (o:=oa) (n:=na) (cap:=ca) (b:=ba) (off:=fa) hoa hlt (by omega)
   unfold Ix at ix
   rw[Nat.mul_one] at ix
   have hTA:=(CE.out a 0 hae (by omega) (by omega) wr HBw.out).2
   obtain⟨TA,hTAe⟩:∃TA,TA=T (a:Int) 0:=⟨_,rfl⟩
   rw[←hTAe] at hTA
   have CA:Hid (∀pr:Regrown,Calls prog 10 #[.agg #[p0,p1],.int .i64 z,.int .i64 0] (Go.Sort.grow (redrawn wr pr.d) pr.os) fun e w''=>e=.returned (.string TA)∧∃p:Regrown,w''=Go.Sort.grow (redrawn wr p.d) p.os):=Hd fun pr=>by
    rw[ha,hTAe];exact Calls.regrown_of (CE.out a 0 hae (by omega) (by omega) _ (HBw.out.trans ((below_regrown wr pr.d pr.os).mono HBw.out.size))).1
   have HT:Hid (TA=T (args.getD j 0) 0):=Hd (by rw[hTAe,←hz,ha])
   have Gy0:=cell_regrown y0
   have Gy1:=cell_regrown y1
   have Gy7:=cell_regrown y7
   have Gca:=cell_regrown hca
   clear hz hzm ha hae hTAe
   rcases Nat.eq_zero_or_pos j with hj0 | hj0
   ·have q0':decide ((0:Int)<(j:Int))=false:=qF (by omega)
    have q0n:decide (0<j)=false:=qF (by omega)
    have q0m:¬0<j:=by omega
    have HJ:=Hd hj0
    clear hj0
    go_wp2_with fail
    refine wp_region_quiet_below (by kernel_rfl) (by kernel_rfl) ?_
    repeat (go_big_quiet_step (first | with_reducible exact CA.out _))
    refine wpQuiet_nil ?_
    intro w7 hw7
    have HB3:Hid (Below wr.heap.size wr w7):=Hd (by obtain⟨pr,rfl⟩:=hw7;exact below_regrown _ _ _)
    clear hw7 Gy0 Gy1 Gy7 Gca
    go_wp2_with fail
    exact⟨⟨j+1,by omega,by show _=Value.string ((if 0<j then _ else _)++_);rw[if_neg (by have:=HJ.out;omega),←HS.out,HT.out],rfl,Hd (hB.out.trans (HB3.out.mono hB.out.size))⟩,by simp[litLen];omega⟩
   ·have q0':decide ((0:Int)<(j:Int))=true:=qT (by omega)
    go_wp2_with fail
    refine wp_region_quiet_below (by kernel_rfl) (by kernel_rfl) ?_
    repeat (go_big_quiet_step (first | with_reducible exact CA.out _))
    refine wpQuiet_nil ?_
    intro w7 hw7
    have HB3:Hid (Below wr.heap.size wr w7):=Hd (by obtain⟨pr,rfl⟩:=hw7;exact below_regrown _ _ _)
    clear hw7 Gy0 Gy1 Gy7 Gca
    go_wp2_with fail
    exact⟨⟨j+1,by omega,by show _=Value.string ((if 0<j then _ else _)++_);rw[if_pos hj0,←HS.out,HT.out],rfl,Hd (hB.out.trans (HB3.out.mono hB.out.size))⟩,by simp[litLen];omega⟩
  ·have q':decide ((j:Int)<(na:Int))=false:=qF (by omega)
   have HJ:Hid (na=j):=Hd (by omega)
   go_wp2_with fail
   go_ret
   rw[HS.out]
   have hh:=HJ.out
   subst hh
   exact⟨rfl,HBB.out.trans (hB.out.mono HBB.out.size)⟩
theorem mayE_partsOf {x:Ex} {i:Nat} (h:mayE x i=true):∀z ∈ partsE x,0≤z∧z<(i:Int):=by
 unfold mayE at h
 simp only[Bool.and_eq_true,List.all_eq_true,decide_eq_true_eq] at h
 exact fun z hz=>h.1.1.1.1.1.1.2 z hz
theorem mayE_kindO {x:Ex} {i:Nat} (h:mayE x i=true):1≤x.kind∧x.kind≤21∧0≤x.v∧x.v≤mostV x.kind:=by
 unfold mayE at h
 simp only[Bool.and_eq_true,decide_eq_true_eq] at h
 exact⟨h.1.1.1.1.1.1.1.1,h.1.1.1.1.1.1.1.2,h.1.2,h.2⟩
theorem part_nat {x:Ex} {i:Nat} (h:mayE x i=true) {z:Int} (hz:z ∈ partsE x):∃a:Nat,z=(a:Int)∧a<i:=by
 have h1:=mayE_partsOf h z hz
 exact⟨z.toNat,by omega,by omega⟩
theorem own_any (p0 p1:Value) (w0:World) (T:Int→Int→ByteArray) (e:Nat) (CE:PartC (.agg #[p0,p1]) w0 T e) (x:Ex) (s:Value) (hm:mayE x e=true) (hs:IntsAt w0 s x.args) (hal:x.args.length≤1000) (hn:x.name.size≤1000000000000000) (hst:x.state.size≤1000000000000000)
  (hM:x.kind=19→∀i,i≤x.args.length→(argsB (fun a=>T a 0) (x.name++⟨#[40]⟩) x.args i).size≤1000000000000000) (W:World) (hW:Below w0.heap.size w0 W) :
  Calls prog 24 #[.agg #[p0,p1],exVal x s,.int .i64 (tightK x.kind)] W fun r Y=>r=.returned (.string (ownB T x))∧Below W.heap.size W Y:=by
 obtain⟨h1,h21,hv0,hv1⟩:=mayE_kindO hm
 have pn:=fun z hz=>part_nat hm (z:=z) hz
 obtain⟨k,xa,xb,xc,nm,st,xv,args,pos⟩:=x
 dsimp only at h1 h21 hv0 hv1 hs hal hn hst hM ⊢
 unfold exVal
 dsimp only
 by_cases h19:k=19
 ·subst h19
  have hpn:∀z ∈ args,∃a:Nat,z=(a:Int)∧a<e:=fun z hz=>pn z (by unfold partsE;exact hz)
  obtain⟨oa,ca,ba,fa,rfl,h3,h4,h5,h6⟩:=hs
  have:=own_call p0 p1 w0 T e (Hd CE) 19 xa xb xc nm st xv (.slice oa args.length ca) pos (tightK 19) args oa args.length ca ba fa (Hd rfl) (by omega) h5 (Hd fun i hi=>by have:=h6 i hi;rwa [Nat.mul_one] at this) (Hd hpn) rfl (Hd (hM rfl)) hn W (Hd hW) rfl
  exact this
 ·by_cases h2:TwoK k
  ·have hp:partsE ⟨k,xa,xb,xc,nm,st,xv,args,pos⟩=[xa,xb]:=by
    unfold partsE manyOf
    unfold TwoK at h2
    rw[if_neg h19,if_neg (show ¬(k=4∨k=5∨k=16∨k=21) by omega),if_pos h2];rfl
   obtain⟨a,ha,hae⟩:=pn xa (by rw[hp];simp)
   obtain⟨b,hb,hbe⟩:=pn xb (by rw[hp];simp)
   have hown:ownB T ⟨k,xa,xb,xc,nm,st,xv,args,pos⟩=(((T (a:Int) (oneW k)++⟨#[32]⟩)++signB k)++⟨#[32]⟩)++T (b:Int) (nextW k):=by
    unfold ownB
    unfold TwoK at h2
    dsimp only
    rw[if_neg (show ¬k=1 by omega),if_neg (show ¬k=2 by omega),if_neg (show ¬k=3 by omega),if_neg (show ¬(k=4∨k=5∨k=16∨k=21) by omega),if_neg (show ¬k=15 by omega),if_neg h19,if_neg (show ¬k=20 by omega),ha,hb]
   rw[hown]
   have ht:0≤tightK k∧tightK k≤6:=by
    unfold TwoK at h2
    unfold tightK
    repeat' split
    all_goals omega
   refine own_two p0 p1 w0 T e (Hd CE) k xa xb xc nm st xv s pos (tightK k) W (Hd hW) h2 (oneW k) (nextW k) ?_ ht.1 ht.2 a b ha hb hae hbe
   unfold oneW nextW
   by_cases h3:tightK k=3
   ·exact .inl ⟨h3,by rw[if_pos h3],by rw[if_pos h3]⟩
   ·by_cases h0:tightK k=0
    ·exact .inr (.inl ⟨h0,by rw[if_neg h3,if_pos h0],by rw[if_neg h3,if_pos h0]⟩)
    ·exact .inr (.inr ⟨h3,h0,by rw[if_neg h3,if_neg h0],by rw[if_neg h3,if_neg h0]⟩)
  ·unfold TwoK at h2
   obtain rfl | rfl | rfl | rfl | rfl | rfl | rfl | rfl | rfl:k=1∨k=2∨k=3∨k=4∨k=5∨k=16∨k=21∨k=15∨k=20:=by omega
   ·exact own_num p0 p1 1 xa xb xc nm st xv s pos _ W rfl hv0 (by unfold mostV at hv1;simpa using hv1)
   ·by_cases hv:xv=1
    ·have:=own_boolt p0 p1 2 xa xb xc nm st xv s pos (tightK 2) W rfl hv
     unfold ownB;dsimp only;rw[if_neg (by decide),if_pos rfl,if_pos hv];exact this
    ·have:=own_boolf p0 p1 2 xa xb xc nm st xv s pos (tightK 2) W rfl hv
     unfold ownB;dsimp only;rw[if_neg (by decide),if_pos rfl,if_neg hv];exact this
   ·exact own_name p0 p1 3 xa xb xc nm st xv s pos _ W rfl
   ·obtain⟨a,ha,hae⟩:=pn xa (by unfold partsE manyOf;simp)
    have:=own_pre4 p0 p1 w0 T e (Hd CE) 4 xa xb xc nm st xv s pos (tightK 4) W (Hd hW) rfl a ha hae
    rw[←ha] at this;exact this
   ·obtain⟨a,ha,hae⟩:=pn xa (by unfold partsE manyOf;simp)
    have:=own_pre5 p0 p1 w0 T e (Hd CE) 5 xa xb xc nm st xv s pos (tightK 5) W (Hd hW) rfl a ha hae
    rw[←ha] at this;exact this
   ·obtain⟨a,ha,hae⟩:=pn xa (by unfold partsE manyOf;simp)
    have:=own_pre16 p0 p1 w0 T e (Hd CE) 16 xa xb xc nm st xv s pos (tightK 16) W (Hd hW) rfl a ha hae
    rw[←ha] at this;exact this
   ·obtain⟨a,ha,hae⟩:=pn xa (by unfold partsE manyOf;simp)
    have:=own_pre21 p0 p1 w0 T e (Hd CE) 21 xa xb xc nm st xv s pos (tightK 21) W (Hd hW) rfl a ha hae
    rw[←ha] at this;exact this
   ·obtain⟨a,ha,hae⟩:=pn xa (by unfold partsE manyOf;simp)
    obtain⟨b,hb,hbe⟩:=pn xb (by unfold partsE manyOf;simp)
    obtain⟨c,hc,hce⟩:=pn xc (by unfold partsE manyOf;simp)
    have:=own_if p0 p1 w0 T e (Hd CE) 15 xa xb xc nm st xv s pos (tightK 15) W (Hd hW) rfl a b c ha hb hc hae hbe hce
    rw[←ha,←hb,←hc] at this;exact this
   ·exact own_is p0 p1 20 xa xb xc nm st xv s pos _ W rfl hn hst
theorem refExpr_any (p0:Value) (b off cap nn:Nat) (l:List Ex) (hnn:Hid (l.length=nn)) (nl:(nn:Int)≤300) (hm:Hid (∀i x,l[i]?=some x→mayE x i=true)) (hS:Hid (∀x ∈ l,x.args.length≤1000∧x.name.size≤1000000000000000∧x.state.size≤1000000000000000))
  (w0:World) (hc:Hid (∀i x,l[i]?=some x→ExAt w0 b (off+i*9) x)) (F:Nat) (hF:Hid (FitB l F)) (hpl:∃o n c,p0=.slice o n c):∀f,f≤F→∀e:Nat,e<f→e<nn→∀wt:Int,0≤wt→wt≤7→∀W,Below w0.heap.size w0 W →
   Calls prog 10 #[.agg #[p0,.slice (some ⟨b,off,none⟩) nn cap],.int .i64 (e:Int),.int .i64 wt] W fun r Y=>r=.returned (.string (txtB l f (e:Int) wt))∧Below W.heap.size W Y:=by
 obtain⟨po,pn,pc,rfl⟩:=hpl
 intro f
 induction f with
 | zero=>intro _ e he;omega
 | succ f ih =>
  intro hfF e hef he wt hw0 hw7 W hW
  obtain⟨x,hx⟩:∃x,l[e]?=some x:=⟨_,List.getElem?_eq_getElem (by have:=hnn.out;omega)⟩
  have hxl:l.getD ((e:Int)).toNat exZ=x:=by rw[Int.toNat_natCast,List.getD_eq_getElem?_getD,hx];rfl
  have hxm:=List.mem_of_getElem? hx
  obtain⟨hs1,hs2,hs3⟩:=hS.out x hxm
  have PC:PartC (.agg #[.slice po pn pc,.slice (some ⟨b,off,none⟩) nn cap]) w0 (txtB l f) e:=fun a w ha h0 h7 W' hW'=>⟨ih (by omega) a (by omega) (by omega) w h0 h7 W' hW',hF.out f (by omega) a w (by have:=hnn.out;omega)⟩
  have hfit:=hF.out (f+1) hfF e wt (by have:=hnn.out;omega)
  have hle:=own_le l f (e:Int) wt
  rw[hxl] at hle
  have hME:=hm.out e x hx
  have hk:=mayE_kindO hME
  obtain⟨s,d0,d1,d2,d3,d4,d5,d6,d7,d8,hargs,hok⟩:=hc.out e x hx
  have OWN:Hid (∀W,Below w0.heap.size w0 W→Calls prog 24 #[.agg #[.slice po pn pc,.slice (some ⟨b,off,none⟩) nn cap],exVal x s,.int .i64 (tightK x.kind)] W fun r Y=>r=.returned (.string (ownB (txtB l f) x))∧Below W.heap.size W Y):=Hd fun W' hW' =>
   own_any (.slice po pn pc) (.slice (some ⟨b,off,none⟩) nn cap) w0 (txtB l f) e PC x s hME hargs hs1 hs2 hs3 (fun h19 i hi=>by
    have h2:=argsB_le (fun a=>txtB l f a 0) (x.name++⟨#[40]⟩) x.args i x.args.length hi
    have h3:(argsB (fun a=>txtB l f a 0) (x.name++⟨#[40]⟩) x.args x.args.length).size≤(ownB (txtB l f) x).size:=by
     unfold ownB
     rw[if_neg (show ¬x.kind=1 by omega),if_neg (show ¬x.kind=2 by omega),if_neg (show ¬x.kind=3 by omega),if_neg (show ¬(x.kind=4∨x.kind=5∨x.kind=16∨x.kind=21) by omega),if_neg (show ¬x.kind=15 by omega),if_pos h19,ByteArray.size_append]
     omega
    omega) W' hW'
  have TG:=Hd (fun W=>tight_any x.kind hk.1 hk.2.1 W)
  obtain⟨OB,hOB⟩:∃OB,OB=ownB (txtB l f) x:=⟨_,rfl⟩
  rw[←hOB] at hle OWN
  have hOBs:OB.size≤1000000000000000:=by omega
  obtain⟨tk,htk⟩:∃tk,tk=tightK x.kind:=⟨_,rfl⟩
  rw[←htk] at OWN TG
  have HRES:Hid (txtB l (f+1) (e:Int) wt=if tk<wt then(⟨#[40]⟩++OB)++⟨#[41]⟩ else OB):=Hd (by
   show(if tightK (l.getD ((e:Int)).toNat exZ).kind<wt then _ else _)=_
   rw[hxl,←htk,←hOB])
  have HWx:=Hd hW
  have up:∀{o:Nat} {v:Value},w0.cell? ⟨b,o,none⟩=some v→(W.alloc (.cells #[.slice po pn pc,.slice (some ⟨b,off,none⟩) nn cap] 25)).cell? ⟨b,o,none⟩=some v:=fun {o v} h=>((hW.alloc hW.size _).cell (p:=⟨b,o,none⟩) (World.block_lt_of_cell? _ _ h)).trans h
  have c0:=up d0
  have c1:=up d1
  have c2:=up d2
  have c3:=up d3
  have c4:=up d4
  have c5:=up d5
  have c6:=up d6
  have c7:=up d7
  have c8:=up d8
  obtain⟨so,sn,sc,rfl⟩:∃so sn sc,s=.slice so sn sc:=by
   obtain⟨o,cp,b',o',h1,_⟩:=hargs
   exact⟨_,_,_,h1⟩
  have ix:=ix_exs (o:=some ⟨b,off,none⟩) (n:=nn) (cap:=cap) (b:=b) (off:=off) (fun _=>rfl) he (by omega)
  unfold Ix at ix
  unfold exVal at OWN
  obtain⟨k,xa,xb,xc,nm,st,xv,args,pos⟩:=x
  dsimp only at *
  clear ih PC hfit hle hME hk d0 d1 d2 d3 d4 d5 d6 d7 d8 hargs hok hOB htk hx hxl hxm hs1 hs2 hs3 up hW
  obtain⟨Wb,hWb⟩:∃Wb,Wb=(W.alloc (.cells #[.slice po pn pc,.slice (some ⟨b,off,none⟩) nn cap] 25)).alloc (.cells #[.int .i64 k,.int .i64 xa,.int .i64 xb,.int .i64 xc,.string nm,.string st,.int .i64 xv,.slice so sn sc,.int .i64 pos] 48):=⟨_,rfl⟩
  have HO:=Hd (ownW_new W (.slice po pn pc) (.slice (some ⟨b,off,none⟩) nn cap) k xa xb xc nm st xv (.slice so sn sc) pos)
  rw[←hWb] at HO
  obtain⟨hbb,b0,b1,x0,x1,x2,x3,x4,x5,x6,x7,x8,hsz⟩:=HO.out
  have HBB:=Hd hbb
  have HWB:=Hd (HWx.out.trans (hbb.mono HWx.out.size))
  clear hbb HO
  go_enter Tryz.func10,Tryz.ntmps10
  go_wp2_with fail
  rw[←hWb]
  clear hWb c0 c1 c2 c3 c4 c5 c6 c7 c8 ix
  by_cases hlt:tk<wt
  ·have q:decide (tk<wt)=true:=qT hlt
   have HL:=Hd hlt
   clear hlt
   go_wp2_with (first | (go_at_call 23;(with_reducible refine(TG.out _).mono ?_);rintro e w1 ⟨rfl,rfl⟩) | (go_at_call 24;(with_reducible refine(OWN.out _ HWB.out).mono ?_);rintro e w1 ⟨rfl,hb⟩;have HB:=Hd hb;clear hb))
   go_ret
   rw[HRES.out,if_pos HL.out]
   exact⟨rfl,HBB.out.trans (HB.out.mono HBB.out.size)⟩
  ·have q:decide (tk<wt)=false:=qF hlt
   have HL:=Hd hlt
   clear hlt
   go_wp2_with (first | (go_at_call 23;(with_reducible refine(TG.out _).mono ?_);rintro e w1 ⟨rfl,rfl⟩) | (go_at_call 24;(with_reducible refine(OWN.out _ HWB.out).mono ?_);rintro e w1 ⟨rfl,hb⟩;have HB:=Hd hb;clear hb))
   go_ret
   rw[HRES.out,if_neg (Int.not_lt.2 HL.out)]
   exact⟨rfl,HBB.out.trans (HB.out.mono HBB.out.size)⟩
end Go.Proofs.YthpgfahlccljnaaGreatDoor
