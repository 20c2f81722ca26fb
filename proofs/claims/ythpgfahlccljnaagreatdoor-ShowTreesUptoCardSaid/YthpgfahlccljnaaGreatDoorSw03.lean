import Derived.Test.YthpgfahlccljnaaGreatDoorSw02
import Derived.RangeFuncBox
import Derived.Laws.MakeOwn
set_option maxHeartbeats 16000000
set_option maxRecDepth 100000
open Go.Proofs.Tryz(prog)
namespace Go.Proofs.YthpgfahlccljnaaGreatDoor
open Go.RowKit
def statesB (s:ByteArray) (l:List ByteArray):Nat→ByteArray
 | 0=>s
 | i+1=>(if 0<i then statesB s l i++⟨#[44,32]⟩ else statesB s l i)++l.getD i ⟨#[]⟩
def itemB (T:Int→ByteArray) (y:It):ByteArray :=
 if y.kind=1 then(((((⟨#[32,32,108,101,116,32]⟩++y.name)++⟨#[58,32]⟩)++typeB y.type)++⟨#[32,61,32]⟩)++T y.e)++⟨#[59,10]⟩ else
 if y.kind=2 then(((((⟨#[32,32,100,101,114,32]⟩++y.name)++⟨#[32,61,32]⟩)++T y.e)++⟨#[32,105,110,105,116,32]⟩)++T y.f)++⟨#[59,10]⟩ else
 if y.kind=3 then(((((⟨#[32,32,114,101,115,101,116,32]⟩++y.name)++⟨#[32,111,110,32]⟩)++T y.f)++⟨#[32,61,32]⟩)++T y.e)++⟨#[59,10]⟩ else
 if y.kind=4 then(((((⟨#[32,32,109,101,109,32]⟩++y.name)++⟨#[58,32]⟩)++typeB y.type)++⟨#[32,105,110,105,116,32]⟩)++T y.e)++⟨#[59,10]⟩ else
 if y.kind=5 then(((((⟨#[32,32,111,110,32]⟩++T y.f)++⟨#[32,115,101,116,32]⟩)++y.name)++⟨#[32,61,32]⟩)++T y.e)++⟨#[59,10]⟩ else
 if y.kind=6 then statesB ((⟨#[32,32,109,111,100,101,32]⟩++y.name)++⟨#[32,123]⟩) y.states y.states.length++⟨#[125,59,10]⟩ else
 if y.kind=7 then(((((((⟨#[32,32,102,114,111,109,32]⟩++y.name)++⟨#[46]⟩)++y.state)++⟨#[32,111,110,32]⟩)++T y.f)++⟨#[32,103,111,116,111,32]⟩)++y.next)++⟨#[59,10]⟩ else
 (⟨#[32,32,111,117,116,32]⟩++y.name)++⟨#[59,10]⟩
theorem type_any (t:Int) (W:World):Calls prog 21 #[.int .i64 t] W fun r Y=>r=.returned (.string (typeB t))∧Below W.heap.size W Y:=by
 by_cases h1:t=1
 ·subst h1
  go_enter Tryz.func21,Tryz.ntmps21
  go_wp2_with fail
  go_ret
  exact⟨rfl,qB _ _⟩
 ·have q1:(t ==1)=false:=beq_false_of_ne h1
  by_cases h2:t=2
  ·subst h2
   go_enter Tryz.func21,Tryz.ntmps21
   go_wp2_with fail
   go_ret
   exact⟨rfl,qB _ _⟩
  ·have q2:(t ==2)=false:=beq_false_of_ne h2
   have HV:Hid (typeB t=⟨#[63]⟩):=Hd (by unfold typeB;rw[if_neg h1,if_neg h2])
   clear h1 h2
   go_enter Tryz.func21,Tryz.ntmps21
   go_wp2_with fail
   go_ret
   exact⟨by rw[HV.out];rfl,qB _ _⟩
theorem type_size (t:Int):(typeB t).size≤4:=by
 unfold typeB
 repeat' split
 all_goals decide
structure ItemW (W Wb:World) (d0 d1:Value) (k:Int) (nm:ByteArray) (ty e f:Int) (s:Value) (st nx:ByteArray) (pos:Int):Prop where
 below:Below W.heap.size W Wb
 p0:Wb.cell? ⟨W.heap.size,0,none⟩=some d0
 p1:Wb.cell? ⟨W.heap.size,1,none⟩=some d1
 x0:Wb.cell? ⟨W.heap.size+1,0,none⟩=some (.int .i64 k)
 x1:Wb.cell? ⟨W.heap.size+1,1,none⟩=some (.string nm)
 x2:Wb.cell? ⟨W.heap.size+1,2,none⟩=some (.int .i64 ty)
 x3:Wb.cell? ⟨W.heap.size+1,3,none⟩=some (.int .i64 e)
 x4:Wb.cell? ⟨W.heap.size+1,4,none⟩=some (.int .i64 f)
 x5:Wb.cell? ⟨W.heap.size+1,5,none⟩=some s
 x6:Wb.cell? ⟨W.heap.size+1,6,none⟩=some (.string st)
 x7:Wb.cell? ⟨W.heap.size+1,7,none⟩=some (.string nx)
 size:Wb.heap.size=W.heap.size+2
theorem itemW_new (W:World) (d0 d1:Value) (k:Int) (nm:ByteArray) (ty e f:Int) (s:Value) (st nx:ByteArray) (pos:Int) :
  ItemW W ((W.alloc (.cells #[d0,d1] 25)).alloc (.cells #[.int .i64 k,.string nm,.int .i64 ty,.int .i64 e,.int .i64 f,s,.string st,.string nx,.int .i64 pos] 36)) d0 d1 k nm ty e f s st nx pos:=by
 have hs:(W.alloc (.cells #[d0,d1] 25)).heap.size=W.heap.size+1:=World.size_alloc ..
 have hP:((W.alloc (.cells #[d0,d1] 25)).alloc (.cells #[.int .i64 k,.string nm,.int .i64 ty,.int .i64 e,.int .i64 f,s,.string st,.string nx,.int .i64 pos] 36)).heap[W.heap.size]?=some (.cells #[d0,d1] 25 (0,0)):=by
  rw[heap_alloc_old _ _ (by rw[hs];omega)];exact heap_alloc_new W _
 have hX:((W.alloc (.cells #[d0,d1] 25)).alloc (.cells #[.int .i64 k,.string nm,.int .i64 ty,.int .i64 e,.int .i64 f,s,.string st,.string nx,.int .i64 pos] 36)).heap[W.heap.size+1]?=some (.cells #[.int .i64 k,.string nm,.int .i64 ty,.int .i64 e,.int .i64 f,s,.string st,.string nx,.int .i64 pos] 36 (0,0)):=by
  have:=heap_alloc_new (W.alloc (.cells #[d0,d1] 25)) (.cells #[.int .i64 k,.string nm,.int .i64 ty,.int .i64 e,.int .i64 f,s,.string st,.string nx,.int .i64 pos] 36)
  rwa [hs] at this
 refine⟨((qB _ _).alloc (qL _) _).alloc (by simp) _,cell_blk hP rfl,cell_blk hP rfl,cell_blk hX rfl,cell_blk hX rfl,cell_blk hX rfl,cell_blk hX rfl,cell_blk hX rfl,cell_blk hX rfl,cell_blk hX rfl,cell_blk hX rfl,by rw[World.size_alloc,hs]⟩
theorem item_1 (p0 p1:Value) (w0:World) (T:Int→Int→ByteArray) (n:Nat) (CE:Hid (PartC (.agg #[p0,p1]) w0 T n)) (nm:ByteArray) (ty e f:Int) (s:Value) (st nx:ByteArray) (pos:Int) (hnm:nm.size≤1000000000000000) (ee:Nat) (he:e=(ee:Int)) (hee:ee<n) (W:World) (hW:Hid (Below w0.heap.size w0 W)) :
  Calls prog 22 #[.agg #[p0,p1],.agg #[.int .i64 1,.string nm,.int .i64 ty,.int .i64 e,.int .i64 f,s,.string st,.string nx,.int .i64 pos]] W fun r Y=>r=.returned (.string ((((((⟨#[32,32,108,101,116,32]⟩++nm)++⟨#[58,32]⟩)++typeB ty)++⟨#[32,61,32]⟩)++T e 0)++⟨#[59,10]⟩))∧Below W.heap.size W Y:=by
 obtain⟨Wb,hWb⟩:∃Wb,Wb=(W.alloc (.cells #[p0,p1] 25)).alloc (.cells #[.int .i64 1,.string nm,.int .i64 ty,.int .i64 e,.int .i64 f,s,.string st,.string nx,.int .i64 pos] 36):=⟨_,rfl⟩
 have HO:=Hd (itemW_new W p0 p1 1 nm ty e f s st nx pos)
 rw[←hWb] at HO
 obtain⟨hbb,b0,b1,x0,x1,x2,x3,x4,x5,x6,x7,hsz⟩:=HO.out
 have HBB:=Hd hbb
 clear HO
 have HWB:=Hd (hW.out.trans (hbb.mono hW.out.size))
 clear hbb
 have hTE:=(CE.out ee 0 hee (by omega) (by omega) Wb HWB.out).2
 obtain⟨TE,hTEe⟩:∃TE,TE=T e 0:=⟨_,rfl⟩
 rw[←he,←hTEe] at hTE
 rw[←hTEe]
 have CE1:Hid (∀W,Below w0.heap.size w0 W→Calls prog 10 #[.agg #[p0,p1],.int .i64 e,.int .i64 0] W fun r Y=>r=.returned (.string TE)∧Below W.heap.size W Y):=Hd fun W hW=>by
  rw[hTEe,he];exact(CE.out ee 0 hee (by omega) (by omega) W hW).1
 clear hTEe he hee
 have hTY:=type_size ty
 obtain⟨TY,hTYe⟩:∃TY,TY=typeB ty:=⟨_,rfl⟩
 rw[←hTYe] at hTY ⊢
 go_enter Tryz.func22,Tryz.ntmps22
 go_wp2_with fail
 rw[←hWb]
 clear hWb
 refine(CE1.out Wb HWB.out).mono ?_
 rintro r w1 ⟨rfl,hb1⟩
 dsimp only
 have HB1:=Hd hb1
 have HW1:=Hd (HWB.out.trans (hb1.mono HWB.out.size))
 have HC1:=Hd (HBB.out.trans (hb1.mono HBB.out.size))
 have up1:∀{i x:Nat} {v:Value},x<Wb.heap.size→Wb.cell? ⟨x,i,none⟩=some v→w1.cell? ⟨x,i,none⟩=some v:=fun {i x v} hx h=>(hb1.cell (p:=⟨x,i,none⟩) hx).trans h
 have b0':=up1 (by omega) b0
 have b1':=up1 (by omega) b1
 have x0':=up1 (by omega) x0
 have x1':=up1 (by omega) x1
 have x2':=up1 (by omega) x2
 have x4':=up1 (by omega) x4
 have x6':=up1 (by omega) x6
 have x7':=up1 (by omega) x7
 have hsz1:W.heap.size+2≤w1.heap.size:=by have:=hb1.size;omega
 clear up1 hb1 b0 b1 x0 x1 x2 x3 x4 x5 x6 x7
 have CT:Hid (∀pr:Regrown,Calls prog 21 #[.int .i64 ty] (Go.Sort.grow (redrawn w1 pr.d) pr.os) fun e w''=>e=.returned (.string TY)∧∃p:Regrown,w''=Go.Sort.grow (redrawn w1 p.d) p.os):=Hd fun pr=>by
  rw[hTYe];exact Calls.regrown_of (type_any ty _)
 clear hTYe
 go_wp2_with fail
 have Gx1:=cell_regrown x1'
 have Gx2:=cell_regrown x2'
 refine wp_region_quiet_below (by kernel_rfl) (by kernel_rfl) ?_
 repeat (go_big_quiet_step (first | with_reducible exact CT.out _))
 refine wpQuiet_nil ?_
 intro w7 hw7
 have HB3:Hid (Below w1.heap.size w1 w7):=Hd (by obtain⟨pr,rfl⟩:=hw7;exact below_regrown _ _ _)
 clear hw7 Gx1 Gx2
 go_wp2_with fail
 go_ret
 exact⟨rfl,HC1.out.trans (HB3.out.mono HC1.out.size)⟩
theorem item_2 (p0 p1:Value) (w0:World) (T:Int→Int→ByteArray) (n:Nat) (CE:Hid (PartC (.agg #[p0,p1]) w0 T n)) (nm:ByteArray) (ty e f:Int) (s:Value) (st nx:ByteArray) (pos:Int) (hnm:nm.size≤1000000000000000) (ee:Nat) (he:e=(ee:Int)) (hee:ee<n) (ff:Nat) (hf:f=(ff:Int)) (hff:ff<n) (W:World) (hW:Hid (Below w0.heap.size w0 W)) :
  Calls prog 22 #[.agg #[p0,p1],.agg #[.int .i64 2,.string nm,.int .i64 ty,.int .i64 e,.int .i64 f,s,.string st,.string nx,.int .i64 pos]] W fun r Y=>r=.returned (.string ((((((⟨#[32,32,100,101,114,32]⟩++nm)++⟨#[32,61,32]⟩)++T e 0)++⟨#[32,105,110,105,116,32]⟩)++T f 0)++⟨#[59,10]⟩))∧Below W.heap.size W Y:=by
 obtain⟨Wb,hWb⟩:∃Wb,Wb=(W.alloc (.cells #[p0,p1] 25)).alloc (.cells #[.int .i64 2,.string nm,.int .i64 ty,.int .i64 e,.int .i64 f,s,.string st,.string nx,.int .i64 pos] 36):=⟨_,rfl⟩
 have HO:=Hd (itemW_new W p0 p1 2 nm ty e f s st nx pos)
 rw[←hWb] at HO
 obtain⟨hbb,b0,b1,x0,x1,x2,x3,x4,x5,x6,x7,hsz⟩:=HO.out
 have HBB:=Hd hbb
 clear HO
 have HWB:=Hd (hW.out.trans (hbb.mono hW.out.size))
 clear hbb
 have hTE:=(CE.out ee 0 hee (by omega) (by omega) Wb HWB.out).2
 obtain⟨TE,hTEe⟩:∃TE,TE=T e 0:=⟨_,rfl⟩
 rw[←he,←hTEe] at hTE
 rw[←hTEe]
 have CE1:Hid (∀W,Below w0.heap.size w0 W→Calls prog 10 #[.agg #[p0,p1],.int .i64 e,.int .i64 0] W fun r Y=>r=.returned (.string TE)∧Below W.heap.size W Y):=Hd fun W hW=>by
  rw[hTEe,he];exact(CE.out ee 0 hee (by omega) (by omega) W hW).1
 clear hTEe he hee
 have hTF:=(CE.out ff 0 hff (by omega) (by omega) Wb HWB.out).2
 obtain⟨TF,hTFe⟩:∃TF,TF=T f 0:=⟨_,rfl⟩
 rw[←hf,←hTFe] at hTF
 rw[←hTFe]
 have CF1:Hid (∀W,Below w0.heap.size w0 W→Calls prog 10 #[.agg #[p0,p1],.int .i64 f,.int .i64 0] W fun r Y=>r=.returned (.string TF)∧Below W.heap.size W Y):=Hd fun W hW=>by
  rw[hTFe,hf];exact(CE.out ff 0 hff (by omega) (by omega) W hW).1
 clear hTFe hf hff
 go_enter Tryz.func22,Tryz.ntmps22
 go_wp2_with fail
 rw[←hWb]
 clear hWb
 refine(CE1.out Wb HWB.out).mono ?_
 rintro r w1 ⟨rfl,hb1⟩
 dsimp only
 have HB1:=Hd hb1
 have HW1:=Hd (HWB.out.trans (hb1.mono HWB.out.size))
 have HC1:=Hd (HBB.out.trans (hb1.mono HBB.out.size))
 have up1:∀{i x:Nat} {v:Value},x<Wb.heap.size→Wb.cell? ⟨x,i,none⟩=some v→w1.cell? ⟨x,i,none⟩=some v:=fun {i x v} hx h=>(hb1.cell (p:=⟨x,i,none⟩) hx).trans h
 have b0':=up1 (by omega) b0
 have b1':=up1 (by omega) b1
 have x0':=up1 (by omega) x0
 have x1':=up1 (by omega) x1
 have x2':=up1 (by omega) x2
 have x4':=up1 (by omega) x4
 have x6':=up1 (by omega) x6
 have x7':=up1 (by omega) x7
 have hsz1:W.heap.size+2≤w1.heap.size:=by have:=hb1.size;omega
 clear up1 hb1 b0 b1 x0 x1 x2 x3 x4 x5 x6 x7
 go_wp2_with fail
 refine(CF1.out w1 HW1.out).mono ?_
 rintro r w2 ⟨rfl,hb2⟩
 dsimp only
 have HC2:=Hd (HC1.out.trans (hb2.mono HC1.out.size))
 have up2:∀{i x:Nat} {v:Value},x<w1.heap.size→w1.cell? ⟨x,i,none⟩=some v→w2.cell? ⟨x,i,none⟩=some v:=fun {i x v} hx h=>(hb2.cell (p:=⟨x,i,none⟩) hx).trans h
 have b0'':=up2 (by omega) b0'
 have b1'':=up2 (by omega) b1'
 have x0'':=up2 (by omega) x0'
 have x1'':=up2 (by omega) x1'
 have x2'':=up2 (by omega) x2'
 have x6'':=up2 (by omega) x6'
 have x7'':=up2 (by omega) x7'
 clear up2 hb2
 go_wp2_with fail
 go_ret
 exact⟨rfl,HC2.out⟩
theorem item_3 (p0 p1:Value) (w0:World) (T:Int→Int→ByteArray) (n:Nat) (CE:Hid (PartC (.agg #[p0,p1]) w0 T n)) (nm:ByteArray) (ty e f:Int) (s:Value) (st nx:ByteArray) (pos:Int) (hnm:nm.size≤1000000000000000) (ee:Nat) (he:e=(ee:Int)) (hee:ee<n) (ff:Nat) (hf:f=(ff:Int)) (hff:ff<n) (W:World) (hW:Hid (Below w0.heap.size w0 W)) :
  Calls prog 22 #[.agg #[p0,p1],.agg #[.int .i64 3,.string nm,.int .i64 ty,.int .i64 e,.int .i64 f,s,.string st,.string nx,.int .i64 pos]] W fun r Y=>r=.returned (.string ((((((⟨#[32,32,114,101,115,101,116,32]⟩++nm)++⟨#[32,111,110,32]⟩)++T f 0)++⟨#[32,61,32]⟩)++T e 0)++⟨#[59,10]⟩))∧Below W.heap.size W Y:=by
 obtain⟨Wb,hWb⟩:∃Wb,Wb=(W.alloc (.cells #[p0,p1] 25)).alloc (.cells #[.int .i64 3,.string nm,.int .i64 ty,.int .i64 e,.int .i64 f,s,.string st,.string nx,.int .i64 pos] 36):=⟨_,rfl⟩
 have HO:=Hd (itemW_new W p0 p1 3 nm ty e f s st nx pos)
 rw[←hWb] at HO
 obtain⟨hbb,b0,b1,x0,x1,x2,x3,x4,x5,x6,x7,hsz⟩:=HO.out
 have HBB:=Hd hbb
 clear HO
 have HWB:=Hd (hW.out.trans (hbb.mono hW.out.size))
 clear hbb
 have hTE:=(CE.out ee 0 hee (by omega) (by omega) Wb HWB.out).2
 obtain⟨TE,hTEe⟩:∃TE,TE=T e 0:=⟨_,rfl⟩
 rw[←he,←hTEe] at hTE
 rw[←hTEe]
 have CE1:Hid (∀W,Below w0.heap.size w0 W→Calls prog 10 #[.agg #[p0,p1],.int .i64 e,.int .i64 0] W fun r Y=>r=.returned (.string TE)∧Below W.heap.size W Y):=Hd fun W hW=>by
  rw[hTEe,he];exact(CE.out ee 0 hee (by omega) (by omega) W hW).1
 clear hTEe he hee
 have hTF:=(CE.out ff 0 hff (by omega) (by omega) Wb HWB.out).2
 obtain⟨TF,hTFe⟩:∃TF,TF=T f 0:=⟨_,rfl⟩
 rw[←hf,←hTFe] at hTF
 rw[←hTFe]
 have CF1:Hid (∀W,Below w0.heap.size w0 W→Calls prog 10 #[.agg #[p0,p1],.int .i64 f,.int .i64 0] W fun r Y=>r=.returned (.string TF)∧Below W.heap.size W Y):=Hd fun W hW=>by
  rw[hTFe,hf];exact(CE.out ff 0 hff (by omega) (by omega) W hW).1
 clear hTFe hf hff
 go_enter Tryz.func22,Tryz.ntmps22
 go_wp2_with fail
 rw[←hWb]
 clear hWb
 refine(CE1.out Wb HWB.out).mono ?_
 rintro r w1 ⟨rfl,hb1⟩
 dsimp only
 have HB1:=Hd hb1
 have HW1:=Hd (HWB.out.trans (hb1.mono HWB.out.size))
 have HC1:=Hd (HBB.out.trans (hb1.mono HBB.out.size))
 have up1:∀{i x:Nat} {v:Value},x<Wb.heap.size→Wb.cell? ⟨x,i,none⟩=some v→w1.cell? ⟨x,i,none⟩=some v:=fun {i x v} hx h=>(hb1.cell (p:=⟨x,i,none⟩) hx).trans h
 have b0':=up1 (by omega) b0
 have b1':=up1 (by omega) b1
 have x0':=up1 (by omega) x0
 have x1':=up1 (by omega) x1
 have x2':=up1 (by omega) x2
 have x4':=up1 (by omega) x4
 have x6':=up1 (by omega) x6
 have x7':=up1 (by omega) x7
 have hsz1:W.heap.size+2≤w1.heap.size:=by have:=hb1.size;omega
 clear up1 hb1 b0 b1 x0 x1 x2 x3 x4 x5 x6 x7
 go_wp2_with fail
 refine(CF1.out w1 HW1.out).mono ?_
 rintro r w2 ⟨rfl,hb2⟩
 dsimp only
 have HC2:=Hd (HC1.out.trans (hb2.mono HC1.out.size))
 have up2:∀{i x:Nat} {v:Value},x<w1.heap.size→w1.cell? ⟨x,i,none⟩=some v→w2.cell? ⟨x,i,none⟩=some v:=fun {i x v} hx h=>(hb2.cell (p:=⟨x,i,none⟩) hx).trans h
 have b0'':=up2 (by omega) b0'
 have b1'':=up2 (by omega) b1'
 have x0'':=up2 (by omega) x0'
 have x1'':=up2 (by omega) x1'
 have x2'':=up2 (by omega) x2'
 have x6'':=up2 (by omega) x6'
 have x7'':=up2 (by omega) x7'
 clear up2 hb2
 go_wp2_with fail
 go_ret
 exact⟨rfl,HC2.out⟩
theorem item_4 (p0 p1:Value) (w0:World) (T:Int→Int→ByteArray) (n:Nat) (CE:Hid (PartC (.agg #[p0,p1]) w0 T n)) (nm:ByteArray) (ty e f:Int) (s:Value) (st nx:ByteArray) (pos:Int) (hnm:nm.size≤1000000000000000) (ee:Nat) (he:e=(ee:Int)) (hee:ee<n) (W:World) (hW:Hid (Below w0.heap.size w0 W)) :
  Calls prog 22 #[.agg #[p0,p1],.agg #[.int .i64 4,.string nm,.int .i64 ty,.int .i64 e,.int .i64 f,s,.string st,.string nx,.int .i64 pos]] W fun r Y=>r=.returned (.string ((((((⟨#[32,32,109,101,109,32]⟩++nm)++⟨#[58,32]⟩)++typeB ty)++⟨#[32,105,110,105,116,32]⟩)++T e 0)++⟨#[59,10]⟩))∧Below W.heap.size W Y:=by
 obtain⟨Wb,hWb⟩:∃Wb,Wb=(W.alloc (.cells #[p0,p1] 25)).alloc (.cells #[.int .i64 4,.string nm,.int .i64 ty,.int .i64 e,.int .i64 f,s,.string st,.string nx,.int .i64 pos] 36):=⟨_,rfl⟩
 have HO:=Hd (itemW_new W p0 p1 4 nm ty e f s st nx pos)
 rw[←hWb] at HO
 obtain⟨hbb,b0,b1,x0,x1,x2,x3,x4,x5,x6,x7,hsz⟩:=HO.out
 have HBB:=Hd hbb
 clear HO
 have HWB:=Hd (hW.out.trans (hbb.mono hW.out.size))
 clear hbb
 have hTE:=(CE.out ee 0 hee (by omega) (by omega) Wb HWB.out).2
 obtain⟨TE,hTEe⟩:∃TE,TE=T e 0:=⟨_,rfl⟩
 rw[←he,←hTEe] at hTE
 rw[←hTEe]
 have CE1:Hid (∀W,Below w0.heap.size w0 W→Calls prog 10 #[.agg #[p0,p1],.int .i64 e,.int .i64 0] W fun r Y=>r=.returned (.string TE)∧Below W.heap.size W Y):=Hd fun W hW=>by
  rw[hTEe,he];exact(CE.out ee 0 hee (by omega) (by omega) W hW).1
 clear hTEe he hee
 have hTY:=type_size ty
 obtain⟨TY,hTYe⟩:∃TY,TY=typeB ty:=⟨_,rfl⟩
 rw[←hTYe] at hTY ⊢
 go_enter Tryz.func22,Tryz.ntmps22
 go_wp2_with fail
 rw[←hWb]
 clear hWb
 refine(CE1.out Wb HWB.out).mono ?_
 rintro r w1 ⟨rfl,hb1⟩
 dsimp only
 have HB1:=Hd hb1
 have HW1:=Hd (HWB.out.trans (hb1.mono HWB.out.size))
 have HC1:=Hd (HBB.out.trans (hb1.mono HBB.out.size))
 have up1:∀{i x:Nat} {v:Value},x<Wb.heap.size→Wb.cell? ⟨x,i,none⟩=some v→w1.cell? ⟨x,i,none⟩=some v:=fun {i x v} hx h=>(hb1.cell (p:=⟨x,i,none⟩) hx).trans h
 have b0':=up1 (by omega) b0
 have b1':=up1 (by omega) b1
 have x0':=up1 (by omega) x0
 have x1':=up1 (by omega) x1
 have x2':=up1 (by omega) x2
 have x4':=up1 (by omega) x4
 have x6':=up1 (by omega) x6
 have x7':=up1 (by omega) x7
 have hsz1:W.heap.size+2≤w1.heap.size:=by have:=hb1.size;omega
 clear up1 hb1 b0 b1 x0 x1 x2 x3 x4 x5 x6 x7
 have CT:Hid (∀pr:Regrown,Calls prog 21 #[.int .i64 ty] (Go.Sort.grow (redrawn w1 pr.d) pr.os) fun e w''=>e=.returned (.string TY)∧∃p:Regrown,w''=Go.Sort.grow (redrawn w1 p.d) p.os):=Hd fun pr=>by
  rw[hTYe];exact Calls.regrown_of (type_any ty _)
 clear hTYe
 go_wp2_with fail
 have Gx1:=cell_regrown x1'
 have Gx2:=cell_regrown x2'
 refine wp_region_quiet_below (by kernel_rfl) (by kernel_rfl) ?_
 repeat (go_big_quiet_step (first | with_reducible exact CT.out _))
 refine wpQuiet_nil ?_
 intro w7 hw7
 have HB3:Hid (Below w1.heap.size w1 w7):=Hd (by obtain⟨pr,rfl⟩:=hw7;exact below_regrown _ _ _)
 clear hw7 Gx1 Gx2
 go_wp2_with fail
 go_ret
 exact⟨rfl,HC1.out.trans (HB3.out.mono HC1.out.size)⟩
theorem item_5 (p0 p1:Value) (w0:World) (T:Int→Int→ByteArray) (n:Nat) (CE:Hid (PartC (.agg #[p0,p1]) w0 T n)) (nm:ByteArray) (ty e f:Int) (s:Value) (st nx:ByteArray) (pos:Int) (hnm:nm.size≤1000000000000000) (ee:Nat) (he:e=(ee:Int)) (hee:ee<n) (ff:Nat) (hf:f=(ff:Int)) (hff:ff<n) (W:World) (hW:Hid (Below w0.heap.size w0 W)) :
  Calls prog 22 #[.agg #[p0,p1],.agg #[.int .i64 5,.string nm,.int .i64 ty,.int .i64 e,.int .i64 f,s,.string st,.string nx,.int .i64 pos]] W fun r Y=>r=.returned (.string ((((((⟨#[32,32,111,110,32]⟩++T f 0)++⟨#[32,115,101,116,32]⟩)++nm)++⟨#[32,61,32]⟩)++T e 0)++⟨#[59,10]⟩))∧Below W.heap.size W Y:=by
 obtain⟨Wb,hWb⟩:∃Wb,Wb=(W.alloc (.cells #[p0,p1] 25)).alloc (.cells #[.int .i64 5,.string nm,.int .i64 ty,.int .i64 e,.int .i64 f,s,.string st,.string nx,.int .i64 pos] 36):=⟨_,rfl⟩
 have HO:=Hd (itemW_new W p0 p1 5 nm ty e f s st nx pos)
 rw[←hWb] at HO
 obtain⟨hbb,b0,b1,x0,x1,x2,x3,x4,x5,x6,x7,hsz⟩:=HO.out
 have HBB:=Hd hbb
 clear HO
 have HWB:=Hd (hW.out.trans (hbb.mono hW.out.size))
 clear hbb
 have hTE:=(CE.out ee 0 hee (by omega) (by omega) Wb HWB.out).2
 obtain⟨TE,hTEe⟩:∃TE,TE=T e 0:=⟨_,rfl⟩
 rw[←he,←hTEe] at hTE
 rw[←hTEe]
 have CE1:Hid (∀W,Below w0.heap.size w0 W→Calls prog 10 #[.agg #[p0,p1],.int .i64 e,.int .i64 0] W fun r Y=>r=.returned (.string TE)∧Below W.heap.size W Y):=Hd fun W hW=>by
  rw[hTEe,he];exact(CE.out ee 0 hee (by omega) (by omega) W hW).1
 clear hTEe he hee
 have hTF:=(CE.out ff 0 hff (by omega) (by omega) Wb HWB.out).2
 obtain⟨TF,hTFe⟩:∃TF,TF=T f 0:=⟨_,rfl⟩
 rw[←hf,←hTFe] at hTF
 rw[←hTFe]
 have CF1:Hid (∀W,Below w0.heap.size w0 W→Calls prog 10 #[.agg #[p0,p1],.int .i64 f,.int .i64 0] W fun r Y=>r=.returned (.string TF)∧Below W.heap.size W Y):=Hd fun W hW=>by
  rw[hTFe,hf];exact(CE.out ff 0 hff (by omega) (by omega) W hW).1
 clear hTFe hf hff
 go_enter Tryz.func22,Tryz.ntmps22
 go_wp2_with fail
 rw[←hWb]
 clear hWb
 refine(CE1.out Wb HWB.out).mono ?_
 rintro r w1 ⟨rfl,hb1⟩
 dsimp only
 have HB1:=Hd hb1
 have HW1:=Hd (HWB.out.trans (hb1.mono HWB.out.size))
 have HC1:=Hd (HBB.out.trans (hb1.mono HBB.out.size))
 have up1:∀{i x:Nat} {v:Value},x<Wb.heap.size→Wb.cell? ⟨x,i,none⟩=some v→w1.cell? ⟨x,i,none⟩=some v:=fun {i x v} hx h=>(hb1.cell (p:=⟨x,i,none⟩) hx).trans h
 have b0':=up1 (by omega) b0
 have b1':=up1 (by omega) b1
 have x0':=up1 (by omega) x0
 have x1':=up1 (by omega) x1
 have x2':=up1 (by omega) x2
 have x4':=up1 (by omega) x4
 have x6':=up1 (by omega) x6
 have x7':=up1 (by omega) x7
 have hsz1:W.heap.size+2≤w1.heap.size:=by have:=hb1.size;omega
 clear up1 hb1 b0 b1 x0 x1 x2 x3 x4 x5 x6 x7
 go_wp2_with fail
 refine(CF1.out w1 HW1.out).mono ?_
 rintro r w2 ⟨rfl,hb2⟩
 dsimp only
 have HC2:=Hd (HC1.out.trans (hb2.mono HC1.out.size))
 have up2:∀{i x:Nat} {v:Value},x<w1.heap.size→w1.cell? ⟨x,i,none⟩=some v→w2.cell? ⟨x,i,none⟩=some v:=fun {i x v} hx h=>(hb2.cell (p:=⟨x,i,none⟩) hx).trans h
 have b0'':=up2 (by omega) b0'
 have b1'':=up2 (by omega) b1'
 have x0'':=up2 (by omega) x0'
 have x1'':=up2 (by omega) x1'
 have x2'':=up2 (by omega) x2'
 have x6'':=up2 (by omega) x6'
 have x7'':=up2 (by omega) x7'
 clear up2 hb2
 go_wp2_with fail
 go_ret
 exact⟨rfl,HC2.out⟩
theorem item_7 (p0 p1:Value) (w0:World) (T:Int→Int→ByteArray) (n:Nat) (CE:Hid (PartC (.agg #[p0,p1]) w0 T n)) (nm:ByteArray) (ty e f:Int) (s:Value) (st nx:ByteArray) (pos:Int) (hnm:nm.size≤1000000000000000) (hst:st.size≤1000000000000000) (hnx:nx.size≤1000000000000000) (ff:Nat) (hf:f=(ff:Int)) (hff:ff<n) (W:World) (hW:Hid (Below w0.heap.size w0 W)) :
  Calls prog 22 #[.agg #[p0,p1],.agg #[.int .i64 7,.string nm,.int .i64 ty,.int .i64 e,.int .i64 f,s,.string st,.string nx,.int .i64 pos]] W fun r Y=>r=.returned (.string ((((((((⟨#[32,32,102,114,111,109,32]⟩++nm)++⟨#[46]⟩)++st)++⟨#[32,111,110,32]⟩)++T f 0)++⟨#[32,103,111,116,111,32]⟩)++nx)++⟨#[59,10]⟩))∧Below W.heap.size W Y:=by
 obtain⟨Wb,hWb⟩:∃Wb,Wb=(W.alloc (.cells #[p0,p1] 25)).alloc (.cells #[.int .i64 7,.string nm,.int .i64 ty,.int .i64 e,.int .i64 f,s,.string st,.string nx,.int .i64 pos] 36):=⟨_,rfl⟩
 have HO:=Hd (itemW_new W p0 p1 7 nm ty e f s st nx pos)
 rw[←hWb] at HO
 obtain⟨hbb,b0,b1,x0,x1,x2,x3,x4,x5,x6,x7,hsz⟩:=HO.out
 have HBB:=Hd hbb
 clear HO
 have HWB:=Hd (hW.out.trans (hbb.mono hW.out.size))
 clear hbb
 have hTF:=(CE.out ff 0 hff (by omega) (by omega) Wb HWB.out).2
 obtain⟨TF,hTFe⟩:∃TF,TF=T f 0:=⟨_,rfl⟩
 rw[←hf,←hTFe] at hTF
 rw[←hTFe]
 have CF1:Hid (∀W,Below w0.heap.size w0 W→Calls prog 10 #[.agg #[p0,p1],.int .i64 f,.int .i64 0] W fun r Y=>r=.returned (.string TF)∧Below W.heap.size W Y):=Hd fun W hW=>by
  rw[hTFe,hf];exact(CE.out ff 0 hff (by omega) (by omega) W hW).1
 clear hTFe hf hff
 go_enter Tryz.func22,Tryz.ntmps22
 go_wp2_with fail
 rw[←hWb]
 clear hWb
 have hsz1:W.heap.size+2≤Wb.heap.size:=by omega
 have HC1:=HBB
 refine(CF1.out Wb HWB.out).mono ?_
 rintro r w2 ⟨rfl,hb2⟩
 dsimp only
 have HC2:=Hd (HC1.out.trans (hb2.mono HC1.out.size))
 have up2:∀{i x:Nat} {v:Value},x<Wb.heap.size→Wb.cell? ⟨x,i,none⟩=some v→w2.cell? ⟨x,i,none⟩=some v:=fun {i x v} hx h=>(hb2.cell (p:=⟨x,i,none⟩) hx).trans h
 have b0'':=up2 (by omega) b0
 have b1'':=up2 (by omega) b1
 have x0'':=up2 (by omega) x0
 have x1'':=up2 (by omega) x1
 have x2'':=up2 (by omega) x2
 have x6'':=up2 (by omega) x6
 have x7'':=up2 (by omega) x7
 clear up2 hb2
 go_wp2_with fail
 go_ret
 exact⟨rfl,HC2.out⟩
theorem item_8 (p0 p1:Value) (nm:ByteArray) (ty e f:Int) (s:Value) (st nx:ByteArray) (pos:Int) (hnm:nm.size≤1000000000000000) (W:World) :
  Calls prog 22 #[.agg #[p0,p1],.agg #[.int .i64 8,.string nm,.int .i64 ty,.int .i64 e,.int .i64 f,s,.string st,.string nx,.int .i64 pos]] W fun r Y=>r=.returned (.string ((⟨#[32,32,111,117,116,32]⟩++nm)++⟨#[59,10]⟩))∧Below W.heap.size W Y:=by
 obtain⟨Wb,hWb⟩:∃Wb,Wb=(W.alloc (.cells #[p0,p1] 25)).alloc (.cells #[.int .i64 8,.string nm,.int .i64 ty,.int .i64 e,.int .i64 f,s,.string st,.string nx,.int .i64 pos] 36):=⟨_,rfl⟩
 have HO:=Hd (itemW_new W p0 p1 8 nm ty e f s st nx pos)
 rw[←hWb] at HO
 obtain⟨hbb,b0,b1,x0,x1,x2,x3,x4,x5,x6,x7,hsz⟩:=HO.out
 have HBB:=Hd hbb
 clear HO
 clear hbb
 go_enter Tryz.func22,Tryz.ntmps22
 go_wp2_with fail
 go_ret
 exact⟨rfl,by rw[←hWb];exact HBB.out⟩
theorem statesB_le (s:ByteArray) (l:List ByteArray) (i j:Nat) (h:i≤j):(statesB s l i).size≤(statesB s l j).size:=by
 induction j with
 | zero =>
      obtain rfl:i=0:=by omega
      exact qL _
 | succ j ih =>
  rcases Nat.lt_or_ge i (j+1) with h1 | h1
  ·have h2:=ih (by omega)
   have h3:(statesB s l j).size≤(statesB s l (j+1)).size:=by
    show _≤((if 0<j then statesB s l j++⟨#[44,32]⟩ else statesB s l j)++l.getD j ⟨#[]⟩).size
    rw[ByteArray.size_append]
    split
    ·rw[ByteArray.size_append];omega
    ·omega
   omega
  ·obtain rfl:i=j+1:=by omega
   exact qL _
theorem ix_strL {o:Option Addr} {n cap b off:Nat} (h:0<n→o=some ⟨b,off,none⟩) {j:Nat} (hj:j<n) (hn:n≤9223372036854775807):Ix 34 1 (.slice o n cap) b off j:=by
 intro W
 rw[h (by omega)]
 have h1:(j:Int)<(n:Int):=by omega
 have h2:(j:Int)≤9223372036854775807:=by omega
 go_simp
theorem item_6 (p0 p1:Value) (w0:World) (nm:ByteArray) (ty e f:Int) (states:List ByteArray) (oa:Option Addr) (na ca ba fa:Nat) (hna:Hid (states.length=na)) (nal:(na:Int)≤1000) (hoa:0<na→oa=some ⟨ba,fa,none⟩) (hcell:Hid (∀i,i<na→w0.cell? ⟨ba,fa+i,none⟩=some (.string (states.getD i ⟨#[]⟩))))
  (hst':Hid (∀z ∈ states,z.size≤1000000000000000)) (hM:Hid (∀i,i≤na→(statesB ((⟨#[32,32,109,111,100,101,32]⟩++nm)++⟨#[32,123]⟩) states i).size≤1000000000000000)) (st nx:ByteArray) (pos:Int) (hnm:nm.size≤1000000000000000) (W:World) (hW:Hid (Below w0.heap.size w0 W)) :
  Calls prog 22 #[.agg #[p0,p1],.agg #[.int .i64 6,.string nm,.int .i64 ty,.int .i64 e,.int .i64 f,.slice oa na ca,.string st,.string nx,.int .i64 pos]] W fun r Y=>r=.returned (.string (statesB ((⟨#[32,32,109,111,100,101,32]⟩++nm)++⟨#[32,123]⟩) states na++⟨#[125,59,10]⟩))∧Below W.heap.size W Y:=by
 obtain⟨Wb,hWb⟩:∃Wb,Wb=(W.alloc (.cells #[p0,p1] 25)).alloc (.cells #[.int .i64 6,.string nm,.int .i64 ty,.int .i64 e,.int .i64 f,.slice oa na ca,.string st,.string nx,.int .i64 pos] 36):=⟨_,rfl⟩
 have HO:=Hd (itemW_new W p0 p1 6 nm ty e f (.slice oa na ca) st nx pos)
 rw[←hWb] at HO
 obtain⟨hbb,b0,b1,x0,x1,x2,x3,x4,x5,x6,x7,hsz⟩:=HO.out
 have HBB:=Hd hbb
 have HWB:=Hd (hW.out.trans (hbb.mono hW.out.size))
 clear HO hbb
 go_enter Tryz.func22,Tryz.ntmps22
 go_wp2_with fail
 rw[←hWb]
 clear hWb
 go_loopw [7,8] (fun sv i wr=>∃j:Nat,j≤na∧sv=.string (statesB ((⟨#[32,32,109,111,100,101,32]⟩++nm)++⟨#[32,123]⟩) states j)∧i=.int .i64 (j:Int)∧wr=Wb) (fun _ i _=>na-litLen i)
 case atStart=>exact⟨0,by omega,rfl,rfl,rfl⟩
 case round =>
  obtain⟨j,hj,rfl,rfl,rfl⟩:=hrel
  obtain⟨S,hS⟩:∃S,S=statesB ((⟨#[32,32,109,111,100,101,32]⟩++nm)++⟨#[32,123]⟩) states j:=⟨_,rfl⟩
  have hSz:S.size≤1000000000000000:=by rw[hS];exact hM.out j hj
  rw[←hS]
  have HS:=Hd hS
  clear hS
  rcases Nat.lt_or_ge j na with hlt | hge
  ·have q':decide ((j:Int)<(na:Int))=true:=qT (by omega)
   have jr:(j:Int)<(na:Int):=by omega
   obtain⟨z,hz⟩:∃z,z=states.getD j ⟨#[]⟩:=⟨_,rfl⟩
   have hzm:z ∈ states:=by
    rw[hz,List.getD_eq_getElem?_getD,List.getElem?_eq_getElem (by have:=hna.out;omega)]
    exact List.getElem_mem _
   have hzs:=hst'.out z hzm
   have hca:wr.cell? ⟨ba,fa+j,none⟩=some (.string z):=by rw[hz];exact(HWB.out.cell (p:=⟨ba,fa+j,none⟩) (World.block_lt_of_cell? _ _ (hcell.out j hlt))).trans (hcell.out j hlt)
   have ix:=ix_strL (o:=oa) (n:=na) (cap:=ca) (b:=ba) (off:=fa) hoa hlt (by omega)
   unfold Ix at ix
   rw[Nat.mul_one] at ix
   have HZ:=Hd hz
   clear hz hzm
   rcases Nat.eq_zero_or_pos j with hj0 | hj0
   ·have q0':decide ((0:Int)<(j:Int))=false:=qF (by omega)
    have q0m:¬0<j:=by omega
    have HJ:=Hd hj0
    clear hj0
    go_wp2_with fail
    exact⟨⟨j+1,by omega,by show _=Value.string ((if 0<j then _ else _)++_);rw[if_neg (by have:=HJ.out;omega),←HS.out,←HZ.out],rfl,by first | trivial | rfl⟩,by simp[litLen];omega⟩
   ·have q0':decide ((0:Int)<(j:Int))=true:=qT (by omega)
    go_wp2_with fail
    exact⟨⟨j+1,by omega,by show _=Value.string ((if 0<j then _ else _)++_);rw[if_pos hj0,←HS.out,←HZ.out],rfl,by first | trivial | rfl⟩,by simp[litLen];omega⟩
  ·have q':decide ((j:Int)<(na:Int))=false:=qF (by omega)
   have HJ:Hid (na=j):=Hd (by omega)
   go_wp2_with fail
   go_ret
   rw[HS.out]
   have hh:=HJ.out
   subst hh
   exact⟨rfl,HBB.out⟩
def itVal (y:It) (s:Value):Value:=.agg #[.int .i64 y.kind,.string y.name,.int .i64 y.type,.int .i64 y.e,.int .i64 y.f,s,.string y.state,.string y.next,.int .i64 y.pos]
theorem item_any (p0 p1:Value) (w0:World) (T:Int→Int→ByteArray) (n:Nat) (CE:PartC (.agg #[p0,p1]) w0 T n) (y:It) (s:Value) (hm:mayI n y=true) (k1:1≤y.kind) (k8:y.kind≤8) (hs:StrsAt w0 s y.states) (hal:y.states.length≤1000) (hn:y.name.size≤1000000000000000) (hst:y.state.size≤1000000000000000) (hnx:y.next.size≤1000000000000000) (hss:∀z ∈ y.states,z.size≤1000000000000000)
  (hM:y.kind=6→(statesB ((⟨#[32,32,109,111,100,101,32]⟩++y.name)++⟨#[32,123]⟩) y.states y.states.length).size≤1000000000000000) (W:World) (hW:Below w0.heap.size w0 W) :
  Calls prog 22 #[.agg #[p0,p1],itVal y s] W fun r Y=>r=.returned (.string (itemB (fun a=>T a 0) y))∧Below W.heap.size W Y:=by
 obtain⟨k,nm,ty,e,f,states,st,nx,pos⟩:=y
 unfold mayI at hm
 rw[Bool.and_eq_true] at hm
 obtain⟨he,hf⟩:=hm
 dsimp only at he hf k1 k8 hs hal hn hst hnx hss hM ⊢
 unfold itVal
 dsimp only
 have hasE_nat:hasE k=true→∃a:Nat,e=(a:Int)∧a<n:=fun h=>by
  unfold standsE at he
  rw[h] at he
  simp only[if_true,Bool.and_eq_true,decide_eq_true_eq] at he
  exact⟨e.toNat,by omega,by omega⟩
 have hasF_nat:hasF k=true→∃a:Nat,f=(a:Int)∧a<n:=fun h=>by
  unfold standsE at hf
  rw[h] at hf
  simp only[if_true,Bool.and_eq_true,decide_eq_true_eq] at hf
  exact⟨f.toNat,by omega,by omega⟩
 obtain rfl | rfl | rfl | rfl | rfl | rfl | rfl | rfl:k=1∨k=2∨k=3∨k=4∨k=5∨k=6∨k=7∨k=8:=by omega
 ·obtain⟨a,ha,hae⟩:=hasE_nat (by decide)
  exact item_1 p0 p1 w0 T n (Hd CE) nm ty e f s st nx pos hn a ha hae W (Hd hW)
 ·obtain⟨a,ha,hae⟩:=hasE_nat (by decide)
  obtain⟨b,hb,hbe⟩:=hasF_nat (by decide)
  exact item_2 p0 p1 w0 T n (Hd CE) nm ty e f s st nx pos hn a ha hae b hb hbe W (Hd hW)
 ·obtain⟨a,ha,hae⟩:=hasE_nat (by decide)
  obtain⟨b,hb,hbe⟩:=hasF_nat (by decide)
  exact item_3 p0 p1 w0 T n (Hd CE) nm ty e f s st nx pos hn a ha hae b hb hbe W (Hd hW)
 ·obtain⟨a,ha,hae⟩:=hasE_nat (by decide)
  exact item_4 p0 p1 w0 T n (Hd CE) nm ty e f s st nx pos hn a ha hae W (Hd hW)
 ·obtain⟨a,ha,hae⟩:=hasE_nat (by decide)
  obtain⟨b,hb,hbe⟩:=hasF_nat (by decide)
  exact item_5 p0 p1 w0 T n (Hd CE) nm ty e f s st nx pos hn a ha hae b hb hbe W (Hd hW)
 ·obtain⟨oa,ca,ba,fa,rfl,h3,h4,h5,h6⟩:=hs
  exact item_6 p0 p1 w0 nm ty e f states oa states.length ca ba fa (Hd rfl) (by omega) h5 (Hd fun i hi=>by have:=h6 i hi;rwa [Nat.mul_one] at this) (Hd hss) (Hd fun i hi=>Nat.le_trans (statesB_le _ states i states.length hi) (hM rfl)) st nx pos hn W (Hd hW)
 ·obtain⟨b,hb,hbe⟩:=hasF_nat (by decide)
  exact item_7 p0 p1 w0 T n (Hd CE) nm ty e f s st nx pos hn hst hnx b hb hbe W (Hd hW)
 ·exact item_8 p0 p1 nm ty e f s st nx pos hn W
theorem box_cells {W:World} {cs:Array Value} {T:TypeId} {j:Nat} {v:Value} (hv:cs[j]?=some v):(W.alloc (.cells cs T)).cell? ⟨W.heap.size,j,none⟩=some v:=by
 rw[World.cell?_alloc_new];exact hv
theorem cell_below {w0 W:World} (h:Below w0.heap.size w0 W) {a:Addr} {v:Value} (hc:w0.cell? a=some v):W.cell? a=some v:=(h.cell (World.block_lt_of_cell? _ _ hc)).trans hc
def paB (s:ByteArray) (l:List Pa):Nat→ByteArray
 | 0=>s
 | i+1=>(((if 0<i then paB s l i++⟨#[44,32]⟩ else paB s l i)++(l.getD i ⟨⟨#[]⟩,0⟩).name)++⟨#[58,32]⟩)++typeB (l.getD i ⟨⟨#[]⟩,0⟩).type
def itZ:It:=⟨0,⟨#[]⟩,0,0,0,[],⟨#[]⟩,⟨#[]⟩,0⟩
def itsB (T:Int→ByteArray) (s:ByteArray) (l:List It):Nat→ByteArray
 | 0=>s
 | i+1=>itsB T s l i++itemB T (l.getD i itZ)
def parB (d:De):ByteArray:=paB ⟨#[40]⟩ d.params d.params.length++⟨#[41]⟩
def headB (s:ByteArray) (d:De):ByteArray :=
 if d.kind=2 then(((((s++⟨#[110,111,100,101,32]⟩)++d.name)++parB d)++⟨#[58,32]⟩)++typeB d.type)++⟨#[32,123,10]⟩
 else(((s++⟨#[104,121,98,114,105,100,32]⟩)++d.name)++parB d)++⟨#[32,123,10]⟩
def declB (T:Int→ByteArray) (s:ByteArray) (d:De):ByteArray :=
 if d.kind=1 then(((((((s++⟨#[102,117,110,32]⟩)++d.name)++parB d)++⟨#[58,32]⟩)++typeB d.type)++⟨#[32,61,32]⟩)++T d.e)++⟨#[59,10]⟩
 else(if d.kind=2 then((itsB T (headB s d) d.items d.items.length++⟨#[32,32,114,101,116,117,114,110,32]⟩)++T d.e)++⟨#[59,10]⟩ else itsB T (headB s d) d.items d.items.length)++⟨#[125,10]⟩
def deZ:De:=⟨0,⟨#[]⟩,[],[],0,0,0⟩
def progB (T:Int→ByteArray) (l:List De):Nat→ByteArray
 | 0=>⟨#[]⟩
 | i+1=>declB T (progB T l i) (l.getD i deZ)
theorem paB_le (s:ByteArray) (l:List Pa) (i j:Nat) (h:i≤j):(paB s l i).size≤(paB s l j).size:=by
 induction j with
 | zero =>
      obtain rfl:i=0:=by omega
      exact qL _
 | succ j ih =>
  rcases Nat.lt_or_ge i (j+1) with h1 | h1
  ·have h2:=ih (by omega)
   have h3:(paB s l j).size≤(paB s l (j+1)).size:=by
    show _≤((((if 0<j then paB s l j++⟨#[44,32]⟩ else paB s l j)++(l.getD j ⟨⟨#[]⟩,0⟩).name)++⟨#[58,32]⟩)++typeB (l.getD j ⟨⟨#[]⟩,0⟩).type).size
    rw[ByteArray.size_append,ByteArray.size_append,ByteArray.size_append]
    split
    ·rw[ByteArray.size_append];omega
    ·omega
   omega
  ·obtain rfl:i=j+1:=by omega
   exact qL _
theorem itsB_le (T:Int→ByteArray) (s:ByteArray) (l:List It) (i j:Nat) (h:i≤j):(itsB T s l i).size≤(itsB T s l j).size:=by
 induction j with
 | zero =>
      obtain rfl:i=0:=by omega
      exact qL _
 | succ j ih =>
  rcases Nat.lt_or_ge i (j+1) with h1 | h1
  ·have h2:=ih (by omega)
   have h3:(itsB T s l j).size≤(itsB T s l (j+1)).size:=by
    show _≤(itsB T s l j++itemB T (l.getD j itZ)).size
    rw[ByteArray.size_append];omega
   omega
  ·obtain rfl:i=j+1:=by omega
   exact qL _
theorem declB_ge (T:Int→ByteArray) (s:ByteArray) (d:De):s.size≤(declB T s d).size∧(parB d).size≤(declB T s d).size∧(d.kind≠1→(itsB T (headB s d) d.items d.items.length).size≤(declB T s d).size):=by
 have h0:s.size≤(headB s d).size∧(parB d).size≤(headB s d).size:=by
  unfold headB
  split <;> simp only[ByteArray.size_append] <;> omega
 have h1:=itsB_le T (headB s d) d.items 0 d.items.length (by omega)
 have h2:(itsB T (headB s d) d.items 0)=headB s d:=rfl
 rw[h2] at h1
 unfold declB
 split
 ·rename_i hk
  refine⟨?_,?_,fun h=>absurd hk h⟩ <;> simp only[ByteArray.size_append] <;> omega
 ·split
  ·refine⟨?_,?_,fun _=>?_⟩ <;> simp only[ByteArray.size_append] <;> omega
  ·refine⟨?_,?_,fun _=>?_⟩ <;> simp only[ByteArray.size_append] <;> omega
structure Pc where
 text:ByteArray
 e:Int
 wanted:Int
def tPc (s:ByteArray):Pc:=⟨s,0,0⟩
def ePc (e wanted:Int):Pc:=⟨⟨#[]⟩,e,wanted⟩
def pcC (p:Pc):List Value:=[.string p.text,.int .i64 p.e,.int .i64 p.wanted]
def pcCells (l:List Pc):List Value:=l.flatMap pcC
theorem pcCells_append (a b:List Pc):pcCells (a++b)=pcCells a++pcCells b:=by unfold pcCells;rw[List.flatMap_append]
theorem pcCells_length (l:List Pc):(pcCells l).length=l.length*3:=by
 induction l with
 | nil=>rfl
 | cons p l ih=>show(pcC p++pcCells l).length=_;rw[List.length_append,ih];simp[pcC];omega
theorem pcCells_at {l:List Pc} {i:Nat} {p:Pc} (h:l[i]?=some p):(pcCells l)[i*3]?=some (.string p.text)∧(pcCells l)[i*3+1]?=some (.int .i64 p.e)∧(pcCells l)[i*3+2]?=some (.int .i64 p.wanted):=by
 induction l generalizing i with
 | nil=>simp at h
 | cons q l ih =>
  have e0:pcCells (q :: l)=pcC q++pcCells l:=rfl
  cases i with
  | zero=>simp at h;subst h;exact⟨rfl,rfl,rfl⟩
  | succ i =>
   have h2:=ih (i:=i) (by simpa using h)
   have e:∀k,(pcCells (q :: l))[(i+1)*3+k]?=(pcCells l)[i*3+k]?:=fun k=>by
    rw[e0,List.getElem?_append_right (by simp[pcC];omega)]
    congr 1
    simp[pcC]
    omega
   exact⟨(e 0).trans h2.1,(e 1).trans h2.2.1,(e 2).trans h2.2.2⟩
def PcOwn (W:World) (B:Nat) (v:Value) (l:List Pc):Prop:=W.ownsRow B 84 3 v l.length (pcCells l)
def GivesPc (l:List Pc) (W:World) (r:Ending) (Y:World):Prop:=∃g c,r=.returned (.slice (some ⟨g,0,none⟩) l.length c)∧PcOwn Y W.heap.size (.slice (some ⟨g,0,none⟩) l.length c) l∧Below W.heap.size W Y
def rendB (T:Int→Int→ByteArray) (p:Pc):ByteArray:=if p.text.size=0 then T p.e p.wanted else p.text
def rendsB (T:Int→Int→ByteArray):List Pc→ByteArray
 | []=>⟨#[]⟩
 | p :: l=>rendB T p++rendsB T l
theorem rendsB_append (T:Int→Int→ByteArray) (a b:List Pc):rendsB T (a++b)=rendsB T a++rendsB T b:=by
 induction a with
 | nil=>show _=(⟨#[]⟩:ByteArray)++_;rw[List.nil_append];exact(ByteArray.empty_append ..).symm
 | cons p a ih=>show rendB T p++rendsB T (a++b)=(rendB T p++rendsB T a)++rendsB T b;rw[ih,ByteArray.append_assoc]
def argsP:Nat→List Int→List Pc
 | _,[]=>[]
 | i,a :: l=>(if 0<i then [tPc ⟨#[44,32]⟩,ePc a 0] else [ePc a 0])++argsP (i+1) l
def sgnB (k:Int):ByteArray:=if k=4∨k=5∨k=16∨k=21 then wordB k else(⟨#[32]⟩++signB k)++⟨#[32]⟩
def ownP (x:Ex):List Pc :=
 if x.kind=1 then [tPc (str (shortL x.v 32))] else
 if x.kind=2 then(if x.v=1 then [tPc ⟨#[116,114,117,101]⟩] else [tPc ⟨#[102,97,108,115,101]⟩]) else
 if x.kind=3 then [tPc x.name] else
 if x.kind=20 then [tPc x.name,tPc ⟨#[32,105,115,32]⟩,tPc x.state] else
 if x.kind=19 then [tPc x.name,tPc ⟨#[40]⟩]++argsP 0 x.args++[tPc ⟨#[41]⟩] else
 if x.kind=15 then [tPc ⟨#[105,102,32]⟩,ePc x.a 0,tPc ⟨#[32,116,104,101,110,32]⟩,ePc x.b 0,tPc ⟨#[32,101,108,115,101,32]⟩,ePc x.c 0] else
 if x.kind=4∨x.kind=5∨x.kind=16∨x.kind=21 then [tPc (sgnB x.kind),ePc x.a 6] else
 [ePc x.a (oneW x.kind),tPc (sgnB x.kind),ePc x.b (nextW x.kind)]
def piecesP (x:Ex) (wanted:Int):List Pc:=if wanted≤tightK x.kind then ownP x else [tPc ⟨#[40]⟩]++ownP x++[tPc ⟨#[41]⟩]
theorem set_hp {W:World} {g:Nat} {cs:Array Value} {T:TypeId} {fr:Nat×Nat} (h:W.heap[g]?=some (.cells cs T fr)) (i:Nat) (v:Value):(W.setCell ⟨g,i,none⟩ v).heap[g]?=some (.cells (cs.setIfInBounds i v) T fr):=by
 have hl:=(Array.getElem?_eq_some_iff.1 h).1
 simp[World.setCell,Array.getElem?_modify,h]
theorem pc_info:(prog.info? 84).map (fun i=>(i.zero,i.size,i.bytes))=some (some (.agg #[.string ⟨#[]⟩,.int .i64 0,.int .i64 0]),3,32):=by kernel_rfl
theorem run_make_pcs (n:Nat) (hn:n≤1000000) (W:World):(Instr.makeSlice 85 (.int .i64 (n:Int)) (.int .i64 (n:Int))).run prog W=.ok (.slice (some ⟨W.heap.size,0,none⟩) n n) (W.alloc (.cells (madeCells #[.string ⟨#[]⟩,.int .i64 0,.int .i64 0] (n*3)) 84)):=by
 obtain⟨i,h2,h3,h4,h5⟩:=info_parts pc_info
 have hr:=run_make (P:=prog) W 85 84 i _ Tryz.underlying85 h2 h3 .i64 .i64 n n (by omega) (by omega) (by rw[h5];omega) (by omega)
 simp only[Int.toNat_natCast,h4] at hr
 exact hr
def TxRow (W:World) (G n:Nat) (f:Nat→ByteArray):Prop:=∃cs:Array Value,W.heap[G]?=some (.cells cs 84 (0,0))∧cs.size=n*3∧∀i,i<n→cs[i*3]?=some (.string (f i))∧cs[i*3+1]?=some (.int .i64 0)∧cs[i*3+2]?=some (.int .i64 0)
theorem made_at (n j r:Nat) (hr:r<3) (hj:j<n):(madeCells #[.string ⟨#[]⟩,.int .i64 0,.int .i64 0] (n*3))[j*3+r]?=(#[.string ⟨#[]⟩,.int .i64 0,.int .i64 0]:Array Value)[r]?:=by
 unfold madeCells
 rw[Array.getElem?_map,Array.getElem?_range,if_pos (by omega)]
 have h3:(j*3+r) % 3=r:=by omega
 simp only[Option.map_some,List.size_toArray,List.length_cons,List.length_nil,Nat.zero_add,Nat.reduceAdd]
 rw[h3]
 obtain rfl | rfl | rfl:r=0∨r=1∨r=2:=by omega
 all_goals rfl
theorem TxRow.new (W:World) (n:Nat):TxRow (W.alloc (.cells (madeCells #[.string ⟨#[]⟩,.int .i64 0,.int .i64 0] (n*3)) 84)) W.heap.size n (fun _=>⟨#[]⟩) :=
 ⟨_,heap_alloc_new W _,size_madeCells _ _,fun i hi=>⟨made_at n i 0 (by omega) hi,made_at n i 1 (by omega) hi,made_at n i 2 (by omega) hi⟩⟩
theorem TxRow.set {W:World} {G n:Nat} {f:Nat→ByteArray} (h:TxRow W G n f) (i:Nat) (s:ByteArray):TxRow (W.setCell ⟨G,i*3,none⟩ (.string s)) G n (fun j=>if j=i then s else f j):=by
 obtain⟨cs,h1,h2,h3⟩:=h
 refine⟨_,set_hp h1 _ _,by simp[h2],fun j hj=>?_⟩
 obtain⟨a,b,c⟩:=h3 j hj
 rw[Array.getElem?_setIfInBounds,Array.getElem?_setIfInBounds,Array.getElem?_setIfInBounds,if_neg (show ¬i*3=j*3+1 by omega),if_neg (show ¬i*3=j*3+2 by omega)]
 refine⟨?_,b,c⟩
 by_cases hij:j=i
 ·subst hij
  rw[if_pos rfl,if_pos (by omega)];simp
 ·rw[if_neg (by omega),a];simp[hij]
theorem TxRow.frozen {W:World} {G n:Nat} {f:Nat→ByteArray} (h:TxRow W G n f) (j:Nat):W.frozen? ⟨G,j,none⟩=false:=by obtain⟨cs,h1,_⟩:=h;simp[World.frozen?,h1]
theorem TxRow.cell {W:World} {G n:Nat} {f:Nat→ByteArray} (h:TxRow W G n f) {j:Nat} (hj:j<n):W.cell? ⟨G,j*3,none⟩=some (.string (f j)):=by obtain⟨cs,h1,_,h3⟩:=h;simp[World.cell?,h1,(h3 j hj).1]
theorem TxRow.own {W:World} {G B:Nat} {f:Nat→ByteArray} {ss:List ByteArray} (h:TxRow W G ss.length f) (hf:∀i s,ss[i]?=some s→f i=s) (hB:B≤G) (hl:ss.length≤1000000):PcOwn W B (.slice (some ⟨G,0,none⟩) ss.length ss.length) (ss.map tPc):=by
 obtain⟨cs,h1,h2,h3⟩:=h
 unfold PcOwn
 rw[List.length_map]
 refine⟨by rw[pcCells_length,List.length_map],.inr ⟨G,ss.length,cs,rfl,hB,h1,qL _,by unfold maxLen;omega,h2,?_⟩⟩
 apply List.ext_getElem?
 intro j
 rw[List.getElem?_take]
 split
 ·rename_i hj
  have hd:j / 3<ss.length:=by omega
  obtain⟨s,hs⟩:∃s,ss[j / 3]?=some s:=⟨_,List.getElem?_eq_getElem hd⟩
  have hm:(ss.map tPc)[j / 3]?=some (tPc s):=by rw[List.getElem?_map,hs];rfl
  obtain⟨a,b,c⟩:=h3 (j / 3) hd
  obtain⟨a',b',c'⟩:=pcCells_at hm
  rw[hf _ _ hs] at a
  rw[Array.getElem?_toList]
  obtain hr | hr | hr:j=j / 3*3∨j=j / 3*3+1∨j=j / 3*3+2:=by omega
  ·rw[hr];rw[a,a'];rfl
  ·rw[hr];rw[b,b'];rfl
  ·rw[hr];rw[c,c'];rfl
 ·rename_i hj
  rw[List.getElem?_eq_none (by rw[pcCells_length,List.length_map];omega)]
theorem texts_any (ss:List ByteArray) (n gs cap:Nat) (hn:Hid (ss.length=n)) (nl:(n:Int)≤1000) (W:World) (hc:Hid (∀i s,ss[i]?=some s→W.cell? ⟨gs,i,none⟩=some (.string s))) :
  Calls prog 64 #[.slice (some ⟨gs,0,none⟩) n cap] W fun r Y=>GivesPc (ss.map tPc) W r Y:=by
 have hmk:=run_make_pcs n (by omega) W
 obtain⟨G,hG⟩:∃G,G=W.heap.size:=⟨_,rfl⟩
 obtain⟨W1,hW1⟩:∃W1,W1=W.alloc (.cells (madeCells #[.string ⟨#[]⟩,.int .i64 0,.int .i64 0] (n*3)) 84):=⟨_,rfl⟩
 have HT0:Hid (TxRow W1 G n (fun _=>⟨#[]⟩)):=Hd (by rw[hW1,hG];exact TxRow.new W n)
 have HB1:Hid (Below W.heap.size W W1):=Hd (by rw[hW1];exact(qB _ _).alloc (qL _) _)
 rw[←hW1,←hG] at hmk
 have HG:=Hd hG
 clear hW1 hG
 go_enter Tryz.func64,Tryz.ntmps64
 go_wp2_with fail
 go_loopw [11] (fun i wr=>∃j:Nat,j≤n∧i=.int .i64 (j:Int)∧Hid ((∃f,TxRow wr G n f∧∀i s,i<j→ss[i]?=some s→f i=s)∧Below W.heap.size W wr)) (fun i _=>n-litLen i)
 case atStart=>exact⟨0,by omega,rfl,Hd ⟨⟨_,HT0.out,fun i s hi=>by omega⟩,HB1.out⟩⟩
 case round =>
  obtain⟨j,hj,rfl,hI⟩:=hrel
  obtain⟨⟨f,ht,hf⟩,hb⟩:=hI.out
  rcases Nat.lt_or_ge j n with hlt | hge
  ·have q:decide ((j:Int)<(n:Int))=true:=qT (by omega)
   have qn:decide (j<n)=true:=qT hlt
   have jr:(j:Int)<(n:Int):=by omega
   obtain⟨s,hs⟩:∃s,ss[j]?=some s:=⟨_,List.getElem?_eq_getElem (by have:=hn.out;omega)⟩
   have c0:=(hb.cell (p:=⟨gs,j,none⟩) (World.block_lt_of_cell? _ _ (hc.out j s hs))).trans (hc.out j s hs)
   have d0:=ht.cell hlt
   have d1:=ht.frozen (j*3)
   have HTr:=Hd ht
   have HF:=Hd hf
   have HBr:=Hd hb
   have HSs:=Hd hs
   clear ht hf hb hs
   go_wp2_with fail
   exact⟨⟨j+1,by omega,rfl,Hd ⟨⟨_,HTr.out.set j s,fun i s' hi hs'=>by
    by_cases hij:i=j
    ·subst hij;rw[HSs.out] at hs';simp;exact qI hs'
    ·rw[if_neg hij];exact HF.out i s' (by omega) hs'⟩,HBr.out.setCell (p:=⟨G,j*3,none⟩) (by rw[HG.out];exact qL _) _⟩⟩,by simp[litLen];omega⟩
  ·have q:decide ((j:Int)<(n:Int))=false:=qF (by omega)
   have qn:decide (j<n)=false:=qF (by omega)
   have HJ:Hid (n=j):=Hd (by omega)
   have HTr:=Hd ht
   have HF:=Hd hf
   have HBr:=Hd hb
   clear ht hf hb
   go_wp2_with fail
   go_ret
   have hnn:=hn.out
   subst hnn
   exact⟨G,ss.length,by rw[List.length_map];rfl,by rw[List.length_map];exact HTr.out.own (fun i s hs=>HF.out i s (by have:=HJ.out;have:=(List.getElem?_eq_some_iff.1 hs).1;omega) hs) (by rw[HG.out];exact qL _) (by omega),HBr.out⟩
end Go.Proofs.YthpgfahlccljnaaGreatDoor
