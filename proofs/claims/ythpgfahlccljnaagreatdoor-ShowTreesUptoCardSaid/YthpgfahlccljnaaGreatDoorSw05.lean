import Derived.Test.YthpgfahlccljnaaGreatDoorSw04
import Derived.Deep.RegionHeld3
set_option maxHeartbeats 16000000
set_option maxRecDepth 100000
open Go.Proofs.Tryz(prog)
namespace Go.Proofs.YthpgfahlccljnaaGreatDoor
open Go.RowKit
theorem own_numP (k xa xb xc:Int) (nm st:ByteArray) (xv:Int) (s:Value) (pos:Int) (W:World) (hk:k=1) (PT:ByteArray) (PR:Hid (∀Y,Below W.heap.size W Y→Calls prog 77 #[.int .i64 xv] Y fun r Z=>r=.returned (.string PT)∧Below Y.heap.size Y Z)) :
  Calls prog 62 #[.agg #[.int .i64 k,.int .i64 xa,.int .i64 xb,.int .i64 xc,.string nm,.string st,.int .i64 xv,s,.int .i64 pos]] W fun r Y=>GivesPc [tPc PT] W r Y:=by
 have q0:(k ==1)=true:=by rw[hk];decide
 obtain⟨Wb,hWb⟩:∃Wb,Wb=W.alloc (.cells #[.int .i64 k,.int .i64 xa,.int .i64 xb,.int .i64 xc,.string nm,.string st,.int .i64 xv,s,.int .i64 pos] 48):=⟨_,rfl⟩
 have hx:=exBox W k xa xb xc nm st xv s pos
 rw[←hWb] at hx
 have x0:=hx 0 _ rfl
 have x1:=hx 1 _ rfl
 have x2:=hx 2 _ rfl
 have x3:=hx 3 _ rfl
 have x4:=hx 4 _ rfl
 have x5:=hx 5 _ rfl
 have x6:=hx 6 _ rfl
 have x7:=hx 7 _ rfl
 have HBB:Hid (Below W.heap.size W Wb):=Hd (by rw[hWb];exact(qB _ _).alloc (qL _) _)
 have hsz:Wb.heap.size=W.heap.size+1:=by rw[hWb,World.size_alloc]
 clear hx
 have HSZ:=Hd hsz
 clear hk hsz
 go_enter Tryz.func62,Tryz.ntmps62
 go_wp2_with fail
 rw[←hWb]
 clear hWb
 (with_reducible refine(PR.out Wb HBB.out).mono ?_)
 rintro r w1 ⟨rfl,hb1⟩
 dsimp only
 have HB1:=Hd (HBB.out.trans (hb1.mono HBB.out.size))
 clear hb1
 have C:=Hd (texts_any [PT] 1 w1.heap.size 1 (Hd rfl) (by decide) (w1.alloc (.cells #[.string PT] 9)) (Hd (str_cells w1 [PT] _ rfl)))
 have HBT:Hid (Below W.heap.size W (w1.alloc (.cells #[.string PT] 9))):=Hd (HB1.out.alloc HB1.out.size _)
 go_wp2_with fail
 (with_reducible refine C.out.mono ?_)
 rintro r w2 h1
 have H1:=Hd (h1.from HBT.out)
 obtain⟨g,c,rfl,h2,h3⟩:=h1
 dsimp only
 go_wp2_with fail
 go_ret
 exact H1.out
theorem own_pre4P (xa xb xc:Int) (nm st:ByteArray) (xv:Int) (s:Value) (pos:Int) (W:World) (hS:Hid (SgnAt W)) :
  Calls prog 62 #[.agg #[.int .i64 4,.int .i64 xa,.int .i64 xb,.int .i64 xc,.string nm,.string st,.int .i64 xv,s,.int .i64 pos]] W fun r Y=>GivesPc [tPc ⟨#[45]⟩,ePc xa 6] W r Y:=by
 obtain⟨Wb,hWb⟩:∃Wb,Wb=W.alloc (.cells #[.int .i64 4,.int .i64 xa,.int .i64 xb,.int .i64 xc,.string nm,.string st,.int .i64 xv,s,.int .i64 pos] 48):=⟨_,rfl⟩
 have hx:=exBox W 4 xa xb xc nm st xv s pos
 rw[←hWb] at hx
 have x0:=hx 0 _ rfl
 have x1:=hx 1 _ rfl
 have x2:=hx 2 _ rfl
 have x3:=hx 3 _ rfl
 have x4:=hx 4 _ rfl
 have x5:=hx 5 _ rfl
 have x6:=hx 6 _ rfl
 have x7:=hx 7 _ rfl
 have HBB:Hid (Below W.heap.size W Wb):=Hd (by rw[hWb];exact(qB _ _).alloc (qL _) _)
 have hsz:Wb.heap.size=W.heap.size+1:=by rw[hWb,World.size_alloc]
 clear hx
 have g0:Wb.cell? ⟨0,4,none⟩=some (.string ⟨#[45]⟩):=(HBB.out.cell (p:=⟨0,4,none⟩) (World.block_lt_of_cell? _ _ (hS.out 4 (by decide)))).trans ((hS.out 4 (by decide)).trans (by congr 2))
 have HN:=Hd (fun cs h=>pc_new Wb [tPc ⟨#[45]⟩,ePc xa 6] cs h (by simp))
 have HSZ:=Hd hsz
 clear hsz
 go_enter Tryz.func62,Tryz.ntmps62
 go_wp2_with fail
 rw[←hWb]
 clear hWb
 go_region_held3 (fun w'=>w'.cell? ⟨W.heap.size,0,none⟩=some (.int .i64 4)∧w'.cell? ⟨W.heap.size,1,none⟩=some (.int .i64 xa)∧w'.cell? ⟨0,4,none⟩=some (.string ⟨#[45]⟩))
  ((repeat' apply And.intro) <;> first | assumption | go_keep)
  (fail)
 go_wp2_with fail
 go_ret
 exact⟨_,_,rfl,(show PcOwn (Wb.alloc _).drew Wb.heap.size _ _ from HN.out _ rfl).base HBB.out.size,(HBB.out.alloc HBB.out.size _).drew⟩
theorem own_pre5P (xa xb xc:Int) (nm st:ByteArray) (xv:Int) (s:Value) (pos:Int) (W:World) (hS:Hid (SgnAt W)) :
  Calls prog 62 #[.agg #[.int .i64 5,.int .i64 xa,.int .i64 xb,.int .i64 xc,.string nm,.string st,.int .i64 xv,s,.int .i64 pos]] W fun r Y=>GivesPc [tPc ⟨#[110,111,116,32]⟩,ePc xa 6] W r Y:=by
 obtain⟨Wb,hWb⟩:∃Wb,Wb=W.alloc (.cells #[.int .i64 5,.int .i64 xa,.int .i64 xb,.int .i64 xc,.string nm,.string st,.int .i64 xv,s,.int .i64 pos] 48):=⟨_,rfl⟩
 have hx:=exBox W 5 xa xb xc nm st xv s pos
 rw[←hWb] at hx
 have x0:=hx 0 _ rfl
 have x1:=hx 1 _ rfl
 have x2:=hx 2 _ rfl
 have x3:=hx 3 _ rfl
 have x4:=hx 4 _ rfl
 have x5:=hx 5 _ rfl
 have x6:=hx 6 _ rfl
 have x7:=hx 7 _ rfl
 have HBB:Hid (Below W.heap.size W Wb):=Hd (by rw[hWb];exact(qB _ _).alloc (qL _) _)
 have hsz:Wb.heap.size=W.heap.size+1:=by rw[hWb,World.size_alloc]
 clear hx
 have g0:Wb.cell? ⟨0,5,none⟩=some (.string ⟨#[110,111,116,32]⟩):=(HBB.out.cell (p:=⟨0,5,none⟩) (World.block_lt_of_cell? _ _ (hS.out 5 (by decide)))).trans ((hS.out 5 (by decide)).trans (by congr 2))
 have HN:=Hd (fun cs h=>pc_new Wb [tPc ⟨#[110,111,116,32]⟩,ePc xa 6] cs h (by simp))
 have HSZ:=Hd hsz
 clear hsz
 go_enter Tryz.func62,Tryz.ntmps62
 go_wp2_with fail
 rw[←hWb]
 clear hWb
 go_region_held3 (fun w'=>w'.cell? ⟨W.heap.size,0,none⟩=some (.int .i64 5)∧w'.cell? ⟨W.heap.size,1,none⟩=some (.int .i64 xa)∧w'.cell? ⟨0,5,none⟩=some (.string ⟨#[110,111,116,32]⟩))
  ((repeat' apply And.intro) <;> first | assumption | go_keep)
  (fail)
 go_wp2_with fail
 go_ret
 exact⟨_,_,rfl,(show PcOwn (Wb.alloc _).drew Wb.heap.size _ _ from HN.out _ rfl).base HBB.out.size,(HBB.out.alloc HBB.out.size _).drew⟩
theorem own_pre16P (xa xb xc:Int) (nm st:ByteArray) (xv:Int) (s:Value) (pos:Int) (W:World) (hS:Hid (SgnAt W)) :
  Calls prog 62 #[.agg #[.int .i64 16,.int .i64 xa,.int .i64 xb,.int .i64 xc,.string nm,.string st,.int .i64 xv,s,.int .i64 pos]] W fun r Y=>GivesPc [tPc ⟨#[112,114,101,32]⟩,ePc xa 6] W r Y:=by
 obtain⟨Wb,hWb⟩:∃Wb,Wb=W.alloc (.cells #[.int .i64 16,.int .i64 xa,.int .i64 xb,.int .i64 xc,.string nm,.string st,.int .i64 xv,s,.int .i64 pos] 48):=⟨_,rfl⟩
 have hx:=exBox W 16 xa xb xc nm st xv s pos
 rw[←hWb] at hx
 have x0:=hx 0 _ rfl
 have x1:=hx 1 _ rfl
 have x2:=hx 2 _ rfl
 have x3:=hx 3 _ rfl
 have x4:=hx 4 _ rfl
 have x5:=hx 5 _ rfl
 have x6:=hx 6 _ rfl
 have x7:=hx 7 _ rfl
 have HBB:Hid (Below W.heap.size W Wb):=Hd (by rw[hWb];exact(qB _ _).alloc (qL _) _)
 have hsz:Wb.heap.size=W.heap.size+1:=by rw[hWb,World.size_alloc]
 clear hx
 have g0:Wb.cell? ⟨0,16,none⟩=some (.string ⟨#[112,114,101,32]⟩):=(HBB.out.cell (p:=⟨0,16,none⟩) (World.block_lt_of_cell? _ _ (hS.out 16 (by decide)))).trans ((hS.out 16 (by decide)).trans (by congr 2))
 have HN:=Hd (fun cs h=>pc_new Wb [tPc ⟨#[112,114,101,32]⟩,ePc xa 6] cs h (by simp))
 have HSZ:=Hd hsz
 clear hsz
 go_enter Tryz.func62,Tryz.ntmps62
 go_wp2_with fail
 rw[←hWb]
 clear hWb
 go_region_held3 (fun w'=>w'.cell? ⟨W.heap.size,0,none⟩=some (.int .i64 16)∧w'.cell? ⟨W.heap.size,1,none⟩=some (.int .i64 xa)∧w'.cell? ⟨0,16,none⟩=some (.string ⟨#[112,114,101,32]⟩))
  ((repeat' apply And.intro) <;> first | assumption | go_keep)
  (fail)
 go_wp2_with fail
 go_ret
 exact⟨_,_,rfl,(show PcOwn (Wb.alloc _).drew Wb.heap.size _ _ from HN.out _ rfl).base HBB.out.size,(HBB.out.alloc HBB.out.size _).drew⟩
theorem own_pre21P (xa xb xc:Int) (nm st:ByteArray) (xv:Int) (s:Value) (pos:Int) (W:World) (hS:Hid (SgnAt W)) :
  Calls prog 62 #[.agg #[.int .i64 21,.int .i64 xa,.int .i64 xb,.int .i64 xc,.string nm,.string st,.int .i64 xv,s,.int .i64 pos]] W fun r Y=>GivesPc [tPc ⟨#[115,113,114,116,32]⟩,ePc xa 6] W r Y:=by
 obtain⟨Wb,hWb⟩:∃Wb,Wb=W.alloc (.cells #[.int .i64 21,.int .i64 xa,.int .i64 xb,.int .i64 xc,.string nm,.string st,.int .i64 xv,s,.int .i64 pos] 48):=⟨_,rfl⟩
 have hx:=exBox W 21 xa xb xc nm st xv s pos
 rw[←hWb] at hx
 have x0:=hx 0 _ rfl
 have x1:=hx 1 _ rfl
 have x2:=hx 2 _ rfl
 have x3:=hx 3 _ rfl
 have x4:=hx 4 _ rfl
 have x5:=hx 5 _ rfl
 have x6:=hx 6 _ rfl
 have x7:=hx 7 _ rfl
 have HBB:Hid (Below W.heap.size W Wb):=Hd (by rw[hWb];exact(qB _ _).alloc (qL _) _)
 have hsz:Wb.heap.size=W.heap.size+1:=by rw[hWb,World.size_alloc]
 clear hx
 have g0:Wb.cell? ⟨0,21,none⟩=some (.string ⟨#[115,113,114,116,32]⟩):=(HBB.out.cell (p:=⟨0,21,none⟩) (World.block_lt_of_cell? _ _ (hS.out 21 (by decide)))).trans ((hS.out 21 (by decide)).trans (by congr 2))
 have HN:=Hd (fun cs h=>pc_new Wb [tPc ⟨#[115,113,114,116,32]⟩,ePc xa 6] cs h (by simp))
 have HSZ:=Hd hsz
 clear hsz
 go_enter Tryz.func62,Tryz.ntmps62
 go_wp2_with fail
 rw[←hWb]
 clear hWb
 go_region_held3 (fun w'=>w'.cell? ⟨W.heap.size,0,none⟩=some (.int .i64 21)∧w'.cell? ⟨W.heap.size,1,none⟩=some (.int .i64 xa)∧w'.cell? ⟨0,21,none⟩=some (.string ⟨#[115,113,114,116,32]⟩))
  ((repeat' apply And.intro) <;> first | assumption | go_keep)
  (fail)
 go_wp2_with fail
 go_ret
 exact⟨_,_,rfl,(show PcOwn (Wb.alloc _).drew Wb.heap.size _ _ from HN.out _ rfl).base HBB.out.size,(HBB.out.alloc HBB.out.size _).drew⟩
theorem own_two6P (xa xb xc:Int) (nm st:ByteArray) (xv:Int) (s:Value) (pos:Int) (W:World) (hS:Hid (SgnAt W)) :
  Calls prog 62 #[.agg #[.int .i64 6,.int .i64 xa,.int .i64 xb,.int .i64 xc,.string nm,.string st,.int .i64 xv,s,.int .i64 pos]] W fun r Y=>GivesPc [ePc xa 4,tPc ⟨#[32,43,32]⟩,ePc xb 5] W r Y:=by
 obtain⟨Wb,hWb⟩:∃Wb,Wb=W.alloc (.cells #[.int .i64 6,.int .i64 xa,.int .i64 xb,.int .i64 xc,.string nm,.string st,.int .i64 xv,s,.int .i64 pos] 48):=⟨_,rfl⟩
 have hx:=exBox W 6 xa xb xc nm st xv s pos
 rw[←hWb] at hx
 have x0:=hx 0 _ rfl
 have x1:=hx 1 _ rfl
 have x2:=hx 2 _ rfl
 have x3:=hx 3 _ rfl
 have x4:=hx 4 _ rfl
 have x5:=hx 5 _ rfl
 have x6:=hx 6 _ rfl
 have x7:=hx 7 _ rfl
 have HBB:Hid (Below W.heap.size W Wb):=Hd (by rw[hWb];exact(qB _ _).alloc (qL _) _)
 have hsz:Wb.heap.size=W.heap.size+1:=by rw[hWb,World.size_alloc]
 clear hx
 have g0:Wb.cell? ⟨0,6,none⟩=some (.string ⟨#[32,43,32]⟩):=(HBB.out.cell (p:=⟨0,6,none⟩) (World.block_lt_of_cell? _ _ (hS.out 6 (by decide)))).trans ((hS.out 6 (by decide)).trans (by congr 2))
 have HN:=Hd (fun cs h=>pc_new Wb [ePc xa 4,tPc ⟨#[32,43,32]⟩,ePc xb 5] cs h (by simp))
 have CS:Hid (Calls prog 79 #[.int .i64 6] Wb fun r Y=>r=.returned (.tuple #[.int .i64 4,.int .i64 5])∧Below Wb.heap.size Wb Y):=Hd (sides_any 6 (by unfold TwoK;omega) Wb)
 have HSZ:=Hd hsz
 clear HN
 go_enter Tryz.func62,Tryz.ntmps62
 go_wp2_with fail
 rw[←hWb]
 clear hWb
 (with_reducible refine CS.out.mono ?_)
 rintro r w1 ⟨rfl,hb1⟩
 dsimp only
 have y0:=cell_below hb1 x0
 have y1:=cell_below hb1 x1
 have y2:=cell_below hb1 x2
 have h0:=cell_below hb1 g0
 have HB1:=Hd (HBB.out.trans (hb1.mono HBB.out.size))
 have HN:=Hd (fun cs h=>pc_new w1 [ePc xa 4,tPc ⟨#[32,43,32]⟩,ePc xb 5] cs h (by simp))
 have hs1:W.heap.size<w1.heap.size:=by have:=hb1.size;omega
 clear hb1 x0 x1 x2 x3 x4 x5 x6 x7 g0 hsz
 go_wp2_with fail
 go_region_held3 (fun w'=>w'.cell? ⟨W.heap.size,0,none⟩=some (.int .i64 6)∧w'.cell? ⟨W.heap.size,1,none⟩=some (.int .i64 xa)∧w'.cell? ⟨W.heap.size,2,none⟩=some (.int .i64 xb)∧w'.cell? ⟨0,6,none⟩=some (.string ⟨#[32,43,32]⟩))
  ((repeat' apply And.intro) <;> first | assumption | go_keep)
  (fail)
 go_wp2_with fail
 go_ret
 exact⟨_,_,rfl,(show PcOwn (w1.alloc _).drew w1.heap.size _ _ from HN.out _ rfl).base HB1.out.size,(HB1.out.alloc HB1.out.size _).drew⟩
theorem own_two7P (xa xb xc:Int) (nm st:ByteArray) (xv:Int) (s:Value) (pos:Int) (W:World) (hS:Hid (SgnAt W)) :
  Calls prog 62 #[.agg #[.int .i64 7,.int .i64 xa,.int .i64 xb,.int .i64 xc,.string nm,.string st,.int .i64 xv,s,.int .i64 pos]] W fun r Y=>GivesPc [ePc xa 4,tPc ⟨#[32,45,32]⟩,ePc xb 5] W r Y:=by
 obtain⟨Wb,hWb⟩:∃Wb,Wb=W.alloc (.cells #[.int .i64 7,.int .i64 xa,.int .i64 xb,.int .i64 xc,.string nm,.string st,.int .i64 xv,s,.int .i64 pos] 48):=⟨_,rfl⟩
 have hx:=exBox W 7 xa xb xc nm st xv s pos
 rw[←hWb] at hx
 have x0:=hx 0 _ rfl
 have x1:=hx 1 _ rfl
 have x2:=hx 2 _ rfl
 have x3:=hx 3 _ rfl
 have x4:=hx 4 _ rfl
 have x5:=hx 5 _ rfl
 have x6:=hx 6 _ rfl
 have x7:=hx 7 _ rfl
 have HBB:Hid (Below W.heap.size W Wb):=Hd (by rw[hWb];exact(qB _ _).alloc (qL _) _)
 have hsz:Wb.heap.size=W.heap.size+1:=by rw[hWb,World.size_alloc]
 clear hx
 have g0:Wb.cell? ⟨0,7,none⟩=some (.string ⟨#[32,45,32]⟩):=(HBB.out.cell (p:=⟨0,7,none⟩) (World.block_lt_of_cell? _ _ (hS.out 7 (by decide)))).trans ((hS.out 7 (by decide)).trans (by congr 2))
 have HN:=Hd (fun cs h=>pc_new Wb [ePc xa 4,tPc ⟨#[32,45,32]⟩,ePc xb 5] cs h (by simp))
 have CS:Hid (Calls prog 79 #[.int .i64 7] Wb fun r Y=>r=.returned (.tuple #[.int .i64 4,.int .i64 5])∧Below Wb.heap.size Wb Y):=Hd (sides_any 7 (by unfold TwoK;omega) Wb)
 have HSZ:=Hd hsz
 clear HN
 go_enter Tryz.func62,Tryz.ntmps62
 go_wp2_with fail
 rw[←hWb]
 clear hWb
 (with_reducible refine CS.out.mono ?_)
 rintro r w1 ⟨rfl,hb1⟩
 dsimp only
 have y0:=cell_below hb1 x0
 have y1:=cell_below hb1 x1
 have y2:=cell_below hb1 x2
 have h0:=cell_below hb1 g0
 have HB1:=Hd (HBB.out.trans (hb1.mono HBB.out.size))
 have HN:=Hd (fun cs h=>pc_new w1 [ePc xa 4,tPc ⟨#[32,45,32]⟩,ePc xb 5] cs h (by simp))
 have hs1:W.heap.size<w1.heap.size:=by have:=hb1.size;omega
 clear hb1 x0 x1 x2 x3 x4 x5 x6 x7 g0 hsz
 go_wp2_with fail
 go_region_held3 (fun w'=>w'.cell? ⟨W.heap.size,0,none⟩=some (.int .i64 7)∧w'.cell? ⟨W.heap.size,1,none⟩=some (.int .i64 xa)∧w'.cell? ⟨W.heap.size,2,none⟩=some (.int .i64 xb)∧w'.cell? ⟨0,7,none⟩=some (.string ⟨#[32,45,32]⟩))
  ((repeat' apply And.intro) <;> first | assumption | go_keep)
  (fail)
 go_wp2_with fail
 go_ret
 exact⟨_,_,rfl,(show PcOwn (w1.alloc _).drew w1.heap.size _ _ from HN.out _ rfl).base HB1.out.size,(HB1.out.alloc HB1.out.size _).drew⟩
theorem own_two8P (xa xb xc:Int) (nm st:ByteArray) (xv:Int) (s:Value) (pos:Int) (W:World) (hS:Hid (SgnAt W)) :
  Calls prog 62 #[.agg #[.int .i64 8,.int .i64 xa,.int .i64 xb,.int .i64 xc,.string nm,.string st,.int .i64 xv,s,.int .i64 pos]] W fun r Y=>GivesPc [ePc xa 5,tPc ⟨#[32,42,32]⟩,ePc xb 6] W r Y:=by
 obtain⟨Wb,hWb⟩:∃Wb,Wb=W.alloc (.cells #[.int .i64 8,.int .i64 xa,.int .i64 xb,.int .i64 xc,.string nm,.string st,.int .i64 xv,s,.int .i64 pos] 48):=⟨_,rfl⟩
 have hx:=exBox W 8 xa xb xc nm st xv s pos
 rw[←hWb] at hx
 have x0:=hx 0 _ rfl
 have x1:=hx 1 _ rfl
 have x2:=hx 2 _ rfl
 have x3:=hx 3 _ rfl
 have x4:=hx 4 _ rfl
 have x5:=hx 5 _ rfl
 have x6:=hx 6 _ rfl
 have x7:=hx 7 _ rfl
 have HBB:Hid (Below W.heap.size W Wb):=Hd (by rw[hWb];exact(qB _ _).alloc (qL _) _)
 have hsz:Wb.heap.size=W.heap.size+1:=by rw[hWb,World.size_alloc]
 clear hx
 have g0:Wb.cell? ⟨0,8,none⟩=some (.string ⟨#[32,42,32]⟩):=(HBB.out.cell (p:=⟨0,8,none⟩) (World.block_lt_of_cell? _ _ (hS.out 8 (by decide)))).trans ((hS.out 8 (by decide)).trans (by congr 2))
 have HN:=Hd (fun cs h=>pc_new Wb [ePc xa 5,tPc ⟨#[32,42,32]⟩,ePc xb 6] cs h (by simp))
 have CS:Hid (Calls prog 79 #[.int .i64 8] Wb fun r Y=>r=.returned (.tuple #[.int .i64 5,.int .i64 6])∧Below Wb.heap.size Wb Y):=Hd (sides_any 8 (by unfold TwoK;omega) Wb)
 have HSZ:=Hd hsz
 clear HN
 go_enter Tryz.func62,Tryz.ntmps62
 go_wp2_with fail
 rw[←hWb]
 clear hWb
 (with_reducible refine CS.out.mono ?_)
 rintro r w1 ⟨rfl,hb1⟩
 dsimp only
 have y0:=cell_below hb1 x0
 have y1:=cell_below hb1 x1
 have y2:=cell_below hb1 x2
 have h0:=cell_below hb1 g0
 have HB1:=Hd (HBB.out.trans (hb1.mono HBB.out.size))
 have HN:=Hd (fun cs h=>pc_new w1 [ePc xa 5,tPc ⟨#[32,42,32]⟩,ePc xb 6] cs h (by simp))
 have hs1:W.heap.size<w1.heap.size:=by have:=hb1.size;omega
 clear hb1 x0 x1 x2 x3 x4 x5 x6 x7 g0 hsz
 go_wp2_with fail
 go_region_held3 (fun w'=>w'.cell? ⟨W.heap.size,0,none⟩=some (.int .i64 8)∧w'.cell? ⟨W.heap.size,1,none⟩=some (.int .i64 xa)∧w'.cell? ⟨W.heap.size,2,none⟩=some (.int .i64 xb)∧w'.cell? ⟨0,8,none⟩=some (.string ⟨#[32,42,32]⟩))
  ((repeat' apply And.intro) <;> first | assumption | go_keep)
  (fail)
 go_wp2_with fail
 go_ret
 exact⟨_,_,rfl,(show PcOwn (w1.alloc _).drew w1.heap.size _ _ from HN.out _ rfl).base HB1.out.size,(HB1.out.alloc HB1.out.size _).drew⟩
theorem own_two9P (xa xb xc:Int) (nm st:ByteArray) (xv:Int) (s:Value) (pos:Int) (W:World) (hS:Hid (SgnAt W)) :
  Calls prog 62 #[.agg #[.int .i64 9,.int .i64 xa,.int .i64 xb,.int .i64 xc,.string nm,.string st,.int .i64 xv,s,.int .i64 pos]] W fun r Y=>GivesPc [ePc xa 5,tPc ⟨#[32,47,32]⟩,ePc xb 6] W r Y:=by
 obtain⟨Wb,hWb⟩:∃Wb,Wb=W.alloc (.cells #[.int .i64 9,.int .i64 xa,.int .i64 xb,.int .i64 xc,.string nm,.string st,.int .i64 xv,s,.int .i64 pos] 48):=⟨_,rfl⟩
 have hx:=exBox W 9 xa xb xc nm st xv s pos
 rw[←hWb] at hx
 have x0:=hx 0 _ rfl
 have x1:=hx 1 _ rfl
 have x2:=hx 2 _ rfl
 have x3:=hx 3 _ rfl
 have x4:=hx 4 _ rfl
 have x5:=hx 5 _ rfl
 have x6:=hx 6 _ rfl
 have x7:=hx 7 _ rfl
 have HBB:Hid (Below W.heap.size W Wb):=Hd (by rw[hWb];exact(qB _ _).alloc (qL _) _)
 have hsz:Wb.heap.size=W.heap.size+1:=by rw[hWb,World.size_alloc]
 clear hx
 have g0:Wb.cell? ⟨0,9,none⟩=some (.string ⟨#[32,47,32]⟩):=(HBB.out.cell (p:=⟨0,9,none⟩) (World.block_lt_of_cell? _ _ (hS.out 9 (by decide)))).trans ((hS.out 9 (by decide)).trans (by congr 2))
 have HN:=Hd (fun cs h=>pc_new Wb [ePc xa 5,tPc ⟨#[32,47,32]⟩,ePc xb 6] cs h (by simp))
 have CS:Hid (Calls prog 79 #[.int .i64 9] Wb fun r Y=>r=.returned (.tuple #[.int .i64 5,.int .i64 6])∧Below Wb.heap.size Wb Y):=Hd (sides_any 9 (by unfold TwoK;omega) Wb)
 have HSZ:=Hd hsz
 clear HN
 go_enter Tryz.func62,Tryz.ntmps62
 go_wp2_with fail
 rw[←hWb]
 clear hWb
 (with_reducible refine CS.out.mono ?_)
 rintro r w1 ⟨rfl,hb1⟩
 dsimp only
 have y0:=cell_below hb1 x0
 have y1:=cell_below hb1 x1
 have y2:=cell_below hb1 x2
 have h0:=cell_below hb1 g0
 have HB1:=Hd (HBB.out.trans (hb1.mono HBB.out.size))
 have HN:=Hd (fun cs h=>pc_new w1 [ePc xa 5,tPc ⟨#[32,47,32]⟩,ePc xb 6] cs h (by simp))
 have hs1:W.heap.size<w1.heap.size:=by have:=hb1.size;omega
 clear hb1 x0 x1 x2 x3 x4 x5 x6 x7 g0 hsz
 go_wp2_with fail
 go_region_held3 (fun w'=>w'.cell? ⟨W.heap.size,0,none⟩=some (.int .i64 9)∧w'.cell? ⟨W.heap.size,1,none⟩=some (.int .i64 xa)∧w'.cell? ⟨W.heap.size,2,none⟩=some (.int .i64 xb)∧w'.cell? ⟨0,9,none⟩=some (.string ⟨#[32,47,32]⟩))
  ((repeat' apply And.intro) <;> first | assumption | go_keep)
  (fail)
 go_wp2_with fail
 go_ret
 exact⟨_,_,rfl,(show PcOwn (w1.alloc _).drew w1.heap.size _ _ from HN.out _ rfl).base HB1.out.size,(HB1.out.alloc HB1.out.size _).drew⟩
theorem own_two10P (xa xb xc:Int) (nm st:ByteArray) (xv:Int) (s:Value) (pos:Int) (W:World) (hS:Hid (SgnAt W)) :
  Calls prog 62 #[.agg #[.int .i64 10,.int .i64 xa,.int .i64 xb,.int .i64 xc,.string nm,.string st,.int .i64 xv,s,.int .i64 pos]] W fun r Y=>GivesPc [ePc xa 4,tPc ⟨#[32,60,32]⟩,ePc xb 4] W r Y:=by
 obtain⟨Wb,hWb⟩:∃Wb,Wb=W.alloc (.cells #[.int .i64 10,.int .i64 xa,.int .i64 xb,.int .i64 xc,.string nm,.string st,.int .i64 xv,s,.int .i64 pos] 48):=⟨_,rfl⟩
 have hx:=exBox W 10 xa xb xc nm st xv s pos
 rw[←hWb] at hx
 have x0:=hx 0 _ rfl
 have x1:=hx 1 _ rfl
 have x2:=hx 2 _ rfl
 have x3:=hx 3 _ rfl
 have x4:=hx 4 _ rfl
 have x5:=hx 5 _ rfl
 have x6:=hx 6 _ rfl
 have x7:=hx 7 _ rfl
 have HBB:Hid (Below W.heap.size W Wb):=Hd (by rw[hWb];exact(qB _ _).alloc (qL _) _)
 have hsz:Wb.heap.size=W.heap.size+1:=by rw[hWb,World.size_alloc]
 clear hx
 have g0:Wb.cell? ⟨0,10,none⟩=some (.string ⟨#[32,60,32]⟩):=(HBB.out.cell (p:=⟨0,10,none⟩) (World.block_lt_of_cell? _ _ (hS.out 10 (by decide)))).trans ((hS.out 10 (by decide)).trans (by congr 2))
 have HN:=Hd (fun cs h=>pc_new Wb [ePc xa 4,tPc ⟨#[32,60,32]⟩,ePc xb 4] cs h (by simp))
 have CS:Hid (Calls prog 79 #[.int .i64 10] Wb fun r Y=>r=.returned (.tuple #[.int .i64 4,.int .i64 4])∧Below Wb.heap.size Wb Y):=Hd (sides_any 10 (by unfold TwoK;omega) Wb)
 have HSZ:=Hd hsz
 clear HN
 go_enter Tryz.func62,Tryz.ntmps62
 go_wp2_with fail
 rw[←hWb]
 clear hWb
 (with_reducible refine CS.out.mono ?_)
 rintro r w1 ⟨rfl,hb1⟩
 dsimp only
 have y0:=cell_below hb1 x0
 have y1:=cell_below hb1 x1
 have y2:=cell_below hb1 x2
 have h0:=cell_below hb1 g0
 have HB1:=Hd (HBB.out.trans (hb1.mono HBB.out.size))
 have HN:=Hd (fun cs h=>pc_new w1 [ePc xa 4,tPc ⟨#[32,60,32]⟩,ePc xb 4] cs h (by simp))
 have hs1:W.heap.size<w1.heap.size:=by have:=hb1.size;omega
 clear hb1 x0 x1 x2 x3 x4 x5 x6 x7 g0 hsz
 go_wp2_with fail
 go_region_held3 (fun w'=>w'.cell? ⟨W.heap.size,0,none⟩=some (.int .i64 10)∧w'.cell? ⟨W.heap.size,1,none⟩=some (.int .i64 xa)∧w'.cell? ⟨W.heap.size,2,none⟩=some (.int .i64 xb)∧w'.cell? ⟨0,10,none⟩=some (.string ⟨#[32,60,32]⟩))
  ((repeat' apply And.intro) <;> first | assumption | go_keep)
  (fail)
 go_wp2_with fail
 go_ret
 exact⟨_,_,rfl,(show PcOwn (w1.alloc _).drew w1.heap.size _ _ from HN.out _ rfl).base HB1.out.size,(HB1.out.alloc HB1.out.size _).drew⟩
theorem own_two11P (xa xb xc:Int) (nm st:ByteArray) (xv:Int) (s:Value) (pos:Int) (W:World) (hS:Hid (SgnAt W)) :
  Calls prog 62 #[.agg #[.int .i64 11,.int .i64 xa,.int .i64 xb,.int .i64 xc,.string nm,.string st,.int .i64 xv,s,.int .i64 pos]] W fun r Y=>GivesPc [ePc xa 4,tPc ⟨#[32,60,61,32]⟩,ePc xb 4] W r Y:=by
 obtain⟨Wb,hWb⟩:∃Wb,Wb=W.alloc (.cells #[.int .i64 11,.int .i64 xa,.int .i64 xb,.int .i64 xc,.string nm,.string st,.int .i64 xv,s,.int .i64 pos] 48):=⟨_,rfl⟩
 have hx:=exBox W 11 xa xb xc nm st xv s pos
 rw[←hWb] at hx
 have x0:=hx 0 _ rfl
 have x1:=hx 1 _ rfl
 have x2:=hx 2 _ rfl
 have x3:=hx 3 _ rfl
 have x4:=hx 4 _ rfl
 have x5:=hx 5 _ rfl
 have x6:=hx 6 _ rfl
 have x7:=hx 7 _ rfl
 have HBB:Hid (Below W.heap.size W Wb):=Hd (by rw[hWb];exact(qB _ _).alloc (qL _) _)
 have hsz:Wb.heap.size=W.heap.size+1:=by rw[hWb,World.size_alloc]
 clear hx
 have g0:Wb.cell? ⟨0,11,none⟩=some (.string ⟨#[32,60,61,32]⟩):=(HBB.out.cell (p:=⟨0,11,none⟩) (World.block_lt_of_cell? _ _ (hS.out 11 (by decide)))).trans ((hS.out 11 (by decide)).trans (by congr 2))
 have HN:=Hd (fun cs h=>pc_new Wb [ePc xa 4,tPc ⟨#[32,60,61,32]⟩,ePc xb 4] cs h (by simp))
 have CS:Hid (Calls prog 79 #[.int .i64 11] Wb fun r Y=>r=.returned (.tuple #[.int .i64 4,.int .i64 4])∧Below Wb.heap.size Wb Y):=Hd (sides_any 11 (by unfold TwoK;omega) Wb)
 have HSZ:=Hd hsz
 clear HN
 go_enter Tryz.func62,Tryz.ntmps62
 go_wp2_with fail
 rw[←hWb]
 clear hWb
 (with_reducible refine CS.out.mono ?_)
 rintro r w1 ⟨rfl,hb1⟩
 dsimp only
 have y0:=cell_below hb1 x0
 have y1:=cell_below hb1 x1
 have y2:=cell_below hb1 x2
 have h0:=cell_below hb1 g0
 have HB1:=Hd (HBB.out.trans (hb1.mono HBB.out.size))
 have HN:=Hd (fun cs h=>pc_new w1 [ePc xa 4,tPc ⟨#[32,60,61,32]⟩,ePc xb 4] cs h (by simp))
 have hs1:W.heap.size<w1.heap.size:=by have:=hb1.size;omega
 clear hb1 x0 x1 x2 x3 x4 x5 x6 x7 g0 hsz
 go_wp2_with fail
 go_region_held3 (fun w'=>w'.cell? ⟨W.heap.size,0,none⟩=some (.int .i64 11)∧w'.cell? ⟨W.heap.size,1,none⟩=some (.int .i64 xa)∧w'.cell? ⟨W.heap.size,2,none⟩=some (.int .i64 xb)∧w'.cell? ⟨0,11,none⟩=some (.string ⟨#[32,60,61,32]⟩))
  ((repeat' apply And.intro) <;> first | assumption | go_keep)
  (fail)
 go_wp2_with fail
 go_ret
 exact⟨_,_,rfl,(show PcOwn (w1.alloc _).drew w1.heap.size _ _ from HN.out _ rfl).base HB1.out.size,(HB1.out.alloc HB1.out.size _).drew⟩
theorem own_two12P (xa xb xc:Int) (nm st:ByteArray) (xv:Int) (s:Value) (pos:Int) (W:World) (hS:Hid (SgnAt W)) :
  Calls prog 62 #[.agg #[.int .i64 12,.int .i64 xa,.int .i64 xb,.int .i64 xc,.string nm,.string st,.int .i64 xv,s,.int .i64 pos]] W fun r Y=>GivesPc [ePc xa 4,tPc ⟨#[32,61,61,32]⟩,ePc xb 4] W r Y:=by
 obtain⟨Wb,hWb⟩:∃Wb,Wb=W.alloc (.cells #[.int .i64 12,.int .i64 xa,.int .i64 xb,.int .i64 xc,.string nm,.string st,.int .i64 xv,s,.int .i64 pos] 48):=⟨_,rfl⟩
 have hx:=exBox W 12 xa xb xc nm st xv s pos
 rw[←hWb] at hx
 have x0:=hx 0 _ rfl
 have x1:=hx 1 _ rfl
 have x2:=hx 2 _ rfl
 have x3:=hx 3 _ rfl
 have x4:=hx 4 _ rfl
 have x5:=hx 5 _ rfl
 have x6:=hx 6 _ rfl
 have x7:=hx 7 _ rfl
 have HBB:Hid (Below W.heap.size W Wb):=Hd (by rw[hWb];exact(qB _ _).alloc (qL _) _)
 have hsz:Wb.heap.size=W.heap.size+1:=by rw[hWb,World.size_alloc]
 clear hx
 have g0:Wb.cell? ⟨0,12,none⟩=some (.string ⟨#[32,61,61,32]⟩):=(HBB.out.cell (p:=⟨0,12,none⟩) (World.block_lt_of_cell? _ _ (hS.out 12 (by decide)))).trans ((hS.out 12 (by decide)).trans (by congr 2))
 have HN:=Hd (fun cs h=>pc_new Wb [ePc xa 4,tPc ⟨#[32,61,61,32]⟩,ePc xb 4] cs h (by simp))
 have CS:Hid (Calls prog 79 #[.int .i64 12] Wb fun r Y=>r=.returned (.tuple #[.int .i64 4,.int .i64 4])∧Below Wb.heap.size Wb Y):=Hd (sides_any 12 (by unfold TwoK;omega) Wb)
 have HSZ:=Hd hsz
 clear HN
 go_enter Tryz.func62,Tryz.ntmps62
 go_wp2_with fail
 rw[←hWb]
 clear hWb
 (with_reducible refine CS.out.mono ?_)
 rintro r w1 ⟨rfl,hb1⟩
 dsimp only
 have y0:=cell_below hb1 x0
 have y1:=cell_below hb1 x1
 have y2:=cell_below hb1 x2
 have h0:=cell_below hb1 g0
 have HB1:=Hd (HBB.out.trans (hb1.mono HBB.out.size))
 have HN:=Hd (fun cs h=>pc_new w1 [ePc xa 4,tPc ⟨#[32,61,61,32]⟩,ePc xb 4] cs h (by simp))
 have hs1:W.heap.size<w1.heap.size:=by have:=hb1.size;omega
 clear hb1 x0 x1 x2 x3 x4 x5 x6 x7 g0 hsz
 go_wp2_with fail
 go_region_held3 (fun w'=>w'.cell? ⟨W.heap.size,0,none⟩=some (.int .i64 12)∧w'.cell? ⟨W.heap.size,1,none⟩=some (.int .i64 xa)∧w'.cell? ⟨W.heap.size,2,none⟩=some (.int .i64 xb)∧w'.cell? ⟨0,12,none⟩=some (.string ⟨#[32,61,61,32]⟩))
  ((repeat' apply And.intro) <;> first | assumption | go_keep)
  (fail)
 go_wp2_with fail
 go_ret
 exact⟨_,_,rfl,(show PcOwn (w1.alloc _).drew w1.heap.size _ _ from HN.out _ rfl).base HB1.out.size,(HB1.out.alloc HB1.out.size _).drew⟩
theorem own_two13P (xa xb xc:Int) (nm st:ByteArray) (xv:Int) (s:Value) (pos:Int) (W:World) (hS:Hid (SgnAt W)) :
  Calls prog 62 #[.agg #[.int .i64 13,.int .i64 xa,.int .i64 xb,.int .i64 xc,.string nm,.string st,.int .i64 xv,s,.int .i64 pos]] W fun r Y=>GivesPc [ePc xa 2,tPc ⟨#[32,97,110,100,32]⟩,ePc xb 3] W r Y:=by
 obtain⟨Wb,hWb⟩:∃Wb,Wb=W.alloc (.cells #[.int .i64 13,.int .i64 xa,.int .i64 xb,.int .i64 xc,.string nm,.string st,.int .i64 xv,s,.int .i64 pos] 48):=⟨_,rfl⟩
 have hx:=exBox W 13 xa xb xc nm st xv s pos
 rw[←hWb] at hx
 have x0:=hx 0 _ rfl
 have x1:=hx 1 _ rfl
 have x2:=hx 2 _ rfl
 have x3:=hx 3 _ rfl
 have x4:=hx 4 _ rfl
 have x5:=hx 5 _ rfl
 have x6:=hx 6 _ rfl
 have x7:=hx 7 _ rfl
 have HBB:Hid (Below W.heap.size W Wb):=Hd (by rw[hWb];exact(qB _ _).alloc (qL _) _)
 have hsz:Wb.heap.size=W.heap.size+1:=by rw[hWb,World.size_alloc]
 clear hx
 have g0:Wb.cell? ⟨0,13,none⟩=some (.string ⟨#[32,97,110,100,32]⟩):=(HBB.out.cell (p:=⟨0,13,none⟩) (World.block_lt_of_cell? _ _ (hS.out 13 (by decide)))).trans ((hS.out 13 (by decide)).trans (by congr 2))
 have HN:=Hd (fun cs h=>pc_new Wb [ePc xa 2,tPc ⟨#[32,97,110,100,32]⟩,ePc xb 3] cs h (by simp))
 have CS:Hid (Calls prog 79 #[.int .i64 13] Wb fun r Y=>r=.returned (.tuple #[.int .i64 2,.int .i64 3])∧Below Wb.heap.size Wb Y):=Hd (sides_any 13 (by unfold TwoK;omega) Wb)
 have HSZ:=Hd hsz
 clear HN
 go_enter Tryz.func62,Tryz.ntmps62
 go_wp2_with fail
 rw[←hWb]
 clear hWb
 (with_reducible refine CS.out.mono ?_)
 rintro r w1 ⟨rfl,hb1⟩
 dsimp only
 have y0:=cell_below hb1 x0
 have y1:=cell_below hb1 x1
 have y2:=cell_below hb1 x2
 have h0:=cell_below hb1 g0
 have HB1:=Hd (HBB.out.trans (hb1.mono HBB.out.size))
 have HN:=Hd (fun cs h=>pc_new w1 [ePc xa 2,tPc ⟨#[32,97,110,100,32]⟩,ePc xb 3] cs h (by simp))
 have hs1:W.heap.size<w1.heap.size:=by have:=hb1.size;omega
 clear hb1 x0 x1 x2 x3 x4 x5 x6 x7 g0 hsz
 go_wp2_with fail
 go_region_held3 (fun w'=>w'.cell? ⟨W.heap.size,0,none⟩=some (.int .i64 13)∧w'.cell? ⟨W.heap.size,1,none⟩=some (.int .i64 xa)∧w'.cell? ⟨W.heap.size,2,none⟩=some (.int .i64 xb)∧w'.cell? ⟨0,13,none⟩=some (.string ⟨#[32,97,110,100,32]⟩))
  ((repeat' apply And.intro) <;> first | assumption | go_keep)
  (fail)
 go_wp2_with fail
 go_ret
 exact⟨_,_,rfl,(show PcOwn (w1.alloc _).drew w1.heap.size _ _ from HN.out _ rfl).base HB1.out.size,(HB1.out.alloc HB1.out.size _).drew⟩
theorem own_two14P (xa xb xc:Int) (nm st:ByteArray) (xv:Int) (s:Value) (pos:Int) (W:World) (hS:Hid (SgnAt W)) :
  Calls prog 62 #[.agg #[.int .i64 14,.int .i64 xa,.int .i64 xb,.int .i64 xc,.string nm,.string st,.int .i64 xv,s,.int .i64 pos]] W fun r Y=>GivesPc [ePc xa 1,tPc ⟨#[32,111,114,32]⟩,ePc xb 2] W r Y:=by
 obtain⟨Wb,hWb⟩:∃Wb,Wb=W.alloc (.cells #[.int .i64 14,.int .i64 xa,.int .i64 xb,.int .i64 xc,.string nm,.string st,.int .i64 xv,s,.int .i64 pos] 48):=⟨_,rfl⟩
 have hx:=exBox W 14 xa xb xc nm st xv s pos
 rw[←hWb] at hx
 have x0:=hx 0 _ rfl
 have x1:=hx 1 _ rfl
 have x2:=hx 2 _ rfl
 have x3:=hx 3 _ rfl
 have x4:=hx 4 _ rfl
 have x5:=hx 5 _ rfl
 have x6:=hx 6 _ rfl
 have x7:=hx 7 _ rfl
 have HBB:Hid (Below W.heap.size W Wb):=Hd (by rw[hWb];exact(qB _ _).alloc (qL _) _)
 have hsz:Wb.heap.size=W.heap.size+1:=by rw[hWb,World.size_alloc]
 clear hx
 have g0:Wb.cell? ⟨0,14,none⟩=some (.string ⟨#[32,111,114,32]⟩):=(HBB.out.cell (p:=⟨0,14,none⟩) (World.block_lt_of_cell? _ _ (hS.out 14 (by decide)))).trans ((hS.out 14 (by decide)).trans (by congr 2))
 have HN:=Hd (fun cs h=>pc_new Wb [ePc xa 1,tPc ⟨#[32,111,114,32]⟩,ePc xb 2] cs h (by simp))
 have CS:Hid (Calls prog 79 #[.int .i64 14] Wb fun r Y=>r=.returned (.tuple #[.int .i64 1,.int .i64 2])∧Below Wb.heap.size Wb Y):=Hd (sides_any 14 (by unfold TwoK;omega) Wb)
 have HSZ:=Hd hsz
 clear HN
 go_enter Tryz.func62,Tryz.ntmps62
 go_wp2_with fail
 rw[←hWb]
 clear hWb
 (with_reducible refine CS.out.mono ?_)
 rintro r w1 ⟨rfl,hb1⟩
 dsimp only
 have y0:=cell_below hb1 x0
 have y1:=cell_below hb1 x1
 have y2:=cell_below hb1 x2
 have h0:=cell_below hb1 g0
 have HB1:=Hd (HBB.out.trans (hb1.mono HBB.out.size))
 have HN:=Hd (fun cs h=>pc_new w1 [ePc xa 1,tPc ⟨#[32,111,114,32]⟩,ePc xb 2] cs h (by simp))
 have hs1:W.heap.size<w1.heap.size:=by have:=hb1.size;omega
 clear hb1 x0 x1 x2 x3 x4 x5 x6 x7 g0 hsz
 go_wp2_with fail
 go_region_held3 (fun w'=>w'.cell? ⟨W.heap.size,0,none⟩=some (.int .i64 14)∧w'.cell? ⟨W.heap.size,1,none⟩=some (.int .i64 xa)∧w'.cell? ⟨W.heap.size,2,none⟩=some (.int .i64 xb)∧w'.cell? ⟨0,14,none⟩=some (.string ⟨#[32,111,114,32]⟩))
  ((repeat' apply And.intro) <;> first | assumption | go_keep)
  (fail)
 go_wp2_with fail
 go_ret
 exact⟨_,_,rfl,(show PcOwn (w1.alloc _).drew w1.heap.size _ _ from HN.out _ rfl).base HB1.out.size,(HB1.out.alloc HB1.out.size _).drew⟩
theorem own_two17P (xa xb xc:Int) (nm st:ByteArray) (xv:Int) (s:Value) (pos:Int) (W:World) (hS:Hid (SgnAt W)) :
  Calls prog 62 #[.agg #[.int .i64 17,.int .i64 xa,.int .i64 xb,.int .i64 xc,.string nm,.string st,.int .i64 xv,s,.int .i64 pos]] W fun r Y=>GivesPc [ePc xa 1,tPc ⟨#[32,45,62,32]⟩,ePc xb 0] W r Y:=by
 obtain⟨Wb,hWb⟩:∃Wb,Wb=W.alloc (.cells #[.int .i64 17,.int .i64 xa,.int .i64 xb,.int .i64 xc,.string nm,.string st,.int .i64 xv,s,.int .i64 pos] 48):=⟨_,rfl⟩
 have hx:=exBox W 17 xa xb xc nm st xv s pos
 rw[←hWb] at hx
 have x0:=hx 0 _ rfl
 have x1:=hx 1 _ rfl
 have x2:=hx 2 _ rfl
 have x3:=hx 3 _ rfl
 have x4:=hx 4 _ rfl
 have x5:=hx 5 _ rfl
 have x6:=hx 6 _ rfl
 have x7:=hx 7 _ rfl
 have HBB:Hid (Below W.heap.size W Wb):=Hd (by rw[hWb];exact(qB _ _).alloc (qL _) _)
 have hsz:Wb.heap.size=W.heap.size+1:=by rw[hWb,World.size_alloc]
 clear hx
 have g0:Wb.cell? ⟨0,17,none⟩=some (.string ⟨#[32,45,62,32]⟩):=(HBB.out.cell (p:=⟨0,17,none⟩) (World.block_lt_of_cell? _ _ (hS.out 17 (by decide)))).trans ((hS.out 17 (by decide)).trans (by congr 2))
 have HN:=Hd (fun cs h=>pc_new Wb [ePc xa 1,tPc ⟨#[32,45,62,32]⟩,ePc xb 0] cs h (by simp))
 have CS:Hid (Calls prog 79 #[.int .i64 17] Wb fun r Y=>r=.returned (.tuple #[.int .i64 1,.int .i64 0])∧Below Wb.heap.size Wb Y):=Hd (sides_any 17 (by unfold TwoK;omega) Wb)
 have HSZ:=Hd hsz
 clear HN
 go_enter Tryz.func62,Tryz.ntmps62
 go_wp2_with fail
 rw[←hWb]
 clear hWb
 (with_reducible refine CS.out.mono ?_)
 rintro r w1 ⟨rfl,hb1⟩
 dsimp only
 have y0:=cell_below hb1 x0
 have y1:=cell_below hb1 x1
 have y2:=cell_below hb1 x2
 have h0:=cell_below hb1 g0
 have HB1:=Hd (HBB.out.trans (hb1.mono HBB.out.size))
 have HN:=Hd (fun cs h=>pc_new w1 [ePc xa 1,tPc ⟨#[32,45,62,32]⟩,ePc xb 0] cs h (by simp))
 have hs1:W.heap.size<w1.heap.size:=by have:=hb1.size;omega
 clear hb1 x0 x1 x2 x3 x4 x5 x6 x7 g0 hsz
 go_wp2_with fail
 go_region_held3 (fun w'=>w'.cell? ⟨W.heap.size,0,none⟩=some (.int .i64 17)∧w'.cell? ⟨W.heap.size,1,none⟩=some (.int .i64 xa)∧w'.cell? ⟨W.heap.size,2,none⟩=some (.int .i64 xb)∧w'.cell? ⟨0,17,none⟩=some (.string ⟨#[32,45,62,32]⟩))
  ((repeat' apply And.intro) <;> first | assumption | go_keep)
  (fail)
 go_wp2_with fail
 go_ret
 exact⟨_,_,rfl,(show PcOwn (w1.alloc _).drew w1.heap.size _ _ from HN.out _ rfl).base HB1.out.size,(HB1.out.alloc HB1.out.size _).drew⟩
theorem own_two18P (xa xb xc:Int) (nm st:ByteArray) (xv:Int) (s:Value) (pos:Int) (W:World) (hS:Hid (SgnAt W)) :
  Calls prog 62 #[.agg #[.int .i64 18,.int .i64 xa,.int .i64 xb,.int .i64 xc,.string nm,.string st,.int .i64 xv,s,.int .i64 pos]] W fun r Y=>GivesPc [ePc xa 1,tPc ⟨#[32,102,98,121,32]⟩,ePc xb 0] W r Y:=by
 obtain⟨Wb,hWb⟩:∃Wb,Wb=W.alloc (.cells #[.int .i64 18,.int .i64 xa,.int .i64 xb,.int .i64 xc,.string nm,.string st,.int .i64 xv,s,.int .i64 pos] 48):=⟨_,rfl⟩
 have hx:=exBox W 18 xa xb xc nm st xv s pos
 rw[←hWb] at hx
 have x0:=hx 0 _ rfl
 have x1:=hx 1 _ rfl
 have x2:=hx 2 _ rfl
 have x3:=hx 3 _ rfl
 have x4:=hx 4 _ rfl
 have x5:=hx 5 _ rfl
 have x6:=hx 6 _ rfl
 have x7:=hx 7 _ rfl
 have HBB:Hid (Below W.heap.size W Wb):=Hd (by rw[hWb];exact(qB _ _).alloc (qL _) _)
 have hsz:Wb.heap.size=W.heap.size+1:=by rw[hWb,World.size_alloc]
 clear hx
 have g0:Wb.cell? ⟨0,18,none⟩=some (.string ⟨#[32,102,98,121,32]⟩):=(HBB.out.cell (p:=⟨0,18,none⟩) (World.block_lt_of_cell? _ _ (hS.out 18 (by decide)))).trans ((hS.out 18 (by decide)).trans (by congr 2))
 have HN:=Hd (fun cs h=>pc_new Wb [ePc xa 1,tPc ⟨#[32,102,98,121,32]⟩,ePc xb 0] cs h (by simp))
 have CS:Hid (Calls prog 79 #[.int .i64 18] Wb fun r Y=>r=.returned (.tuple #[.int .i64 1,.int .i64 0])∧Below Wb.heap.size Wb Y):=Hd (sides_any 18 (by unfold TwoK;omega) Wb)
 have HSZ:=Hd hsz
 clear HN
 go_enter Tryz.func62,Tryz.ntmps62
 go_wp2_with fail
 rw[←hWb]
 clear hWb
 (with_reducible refine CS.out.mono ?_)
 rintro r w1 ⟨rfl,hb1⟩
 dsimp only
 have y0:=cell_below hb1 x0
 have y1:=cell_below hb1 x1
 have y2:=cell_below hb1 x2
 have h0:=cell_below hb1 g0
 have HB1:=Hd (HBB.out.trans (hb1.mono HBB.out.size))
 have HN:=Hd (fun cs h=>pc_new w1 [ePc xa 1,tPc ⟨#[32,102,98,121,32]⟩,ePc xb 0] cs h (by simp))
 have hs1:W.heap.size<w1.heap.size:=by have:=hb1.size;omega
 clear hb1 x0 x1 x2 x3 x4 x5 x6 x7 g0 hsz
 go_wp2_with fail
 go_region_held3 (fun w'=>w'.cell? ⟨W.heap.size,0,none⟩=some (.int .i64 18)∧w'.cell? ⟨W.heap.size,1,none⟩=some (.int .i64 xa)∧w'.cell? ⟨W.heap.size,2,none⟩=some (.int .i64 xb)∧w'.cell? ⟨0,18,none⟩=some (.string ⟨#[32,102,98,121,32]⟩))
  ((repeat' apply And.intro) <;> first | assumption | go_keep)
  (fail)
 go_wp2_with fail
 go_ret
 exact⟨_,_,rfl,(show PcOwn (w1.alloc _).drew w1.heap.size _ _ from HN.out _ rfl).base HB1.out.size,(HB1.out.alloc HB1.out.size _).drew⟩
theorem own_callP (k xa xb xc:Int) (nm st:ByteArray) (xv:Int) (args:List Int) (oa:Option Addr) (na ca ba fa:Nat) (hna:Hid (args.length=na)) (nal:(na:Int)≤1000) (hoa:0<na→oa=some ⟨ba,fa,none⟩) (pos:Int) (W:World) (hcell:Hid (∀i,i<na→W.cell? ⟨ba,fa+i,none⟩=some (.int .i64 (args.getD i 0)))) (hk:k=19) :
  Calls prog 62 #[.agg #[.int .i64 k,.int .i64 xa,.int .i64 xb,.int .i64 xc,.string nm,.string st,.int .i64 xv,.slice oa na ca,.int .i64 pos]] W fun r Y=>GivesPc ([tPc nm,tPc ⟨#[40]⟩]++argsP 0 args++[tPc ⟨#[41]⟩]) W r Y:=by
 obtain⟨L,hL⟩:∃L,L=[tPc nm,tPc ⟨#[40]⟩]++argsP 0 args++[tPc ⟨#[41]⟩]:=⟨_,rfl⟩
 rw[←hL]
 have HL:=Hd hL
 have q0:(k ==1)=false:=by rw[hk];decide
 have q1:(k ==2)=false:=by rw[hk];decide
 have q2:(k ==3)=false:=by rw[hk];decide
 have q3:(k ==20)=false:=by rw[hk];decide
 have q4:(k ==19)=true:=by rw[hk];decide
 obtain⟨Wb,hWb⟩:∃Wb,Wb=W.alloc (.cells #[.int .i64 k,.int .i64 xa,.int .i64 xb,.int .i64 xc,.string nm,.string st,.int .i64 xv,.slice oa na ca,.int .i64 pos] 48):=⟨_,rfl⟩
 have hx:=exBox W k xa xb xc nm st xv (.slice oa na ca) pos
 rw[←hWb] at hx
 have x0:=hx 0 _ rfl
 have x1:=hx 1 _ rfl
 have x2:=hx 2 _ rfl
 have x3:=hx 3 _ rfl
 have x4:=hx 4 _ rfl
 have x5:=hx 5 _ rfl
 have x6:=hx 6 _ rfl
 have x7:=hx 7 _ rfl
 have x8:=hx 8 _ rfl
 have HBB:Hid (Below W.heap.size W Wb):=Hd (by rw[hWb];exact(qB _ _).alloc (qL _) _)
 have hsz:Wb.heap.size=W.heap.size+1:=by rw[hWb,World.size_alloc]
 have C:Hid (Calls prog 78 #[.agg #[.int .i64 k,.int .i64 xa,.int .i64 xb,.int .i64 xc,.string nm,.string st,.int .i64 xv,.slice oa na ca,.int .i64 pos]] Wb fun r Y=>GivesPc L Wb r Y):=Hd (by rw[HL.out];exact call_any k xa xb xc nm st xv args oa na ca ba fa hna nal hoa pos Wb (Hd fun i hi=>cell_below HBB.out (hcell.out i hi)))
 have HSZ:=Hd hsz
 clear hx hk hsz hL
 go_enter Tryz.func62,Tryz.ntmps62
 go_wp2_with fail
 rw[←hWb]
 clear hWb
 (with_reducible refine C.out.mono ?_)
 rintro r w1 h1
 have H1:=Hd (h1.from HBB.out)
 obtain⟨g,c,rfl,h2,h3⟩:=h1
 dsimp only
 go_wp2_with fail
 go_ret
 exact H1.out
theorem GivesPc.to {l l':List Pc} {W Y:World} {r:Ending} (h:l=l') (g:GivesPc l W r Y):GivesPc l' W r Y:=h ▸ g
theorem own_anyP (x:Ex) (s:Value) (W:World) (hS:SgnAt W) (h1:1≤x.kind) (h21:x.kind≤21) (hs:IntsAt W s x.args) (hal:x.args.length≤1000) (PR:x.kind=1→∀Y,Below W.heap.size W Y→Calls prog 77 #[.int .i64 x.v] Y fun r Z=>r=.returned (.string (str (shortL x.v 32)))∧Below Y.heap.size Y Z) :
  Calls prog 62 #[exVal x s] W fun r Y=>GivesPc (ownP x) W r Y:=by
 obtain⟨k,xa,xb,xc,nm,st,xv,args,pos⟩:=x
 dsimp only at h1 h21 hs hal PR ⊢
 unfold exVal
 dsimp only
 by_cases h19:k=19
 ·subst h19
  obtain⟨oa,ca,ba,fa,rfl,h3,h4,h5,h6⟩:=hs
  exact own_callP 19 xa xb xc nm st xv args oa args.length ca ba fa (Hd rfl) (by omega) h5 pos W (Hd fun i hi=>by have:=h6 i hi;rwa [Nat.mul_one] at this) rfl
 ·obtain rfl | rfl | rfl | rfl | rfl | rfl | rfl | rfl | rfl | rfl | rfl | rfl | rfl | rfl | rfl | rfl | rfl | rfl | rfl | rfl:k=1∨k=2∨k=3∨k=4∨k=5∨k=6∨k=7∨k=8∨k=9∨k=10∨k=11∨k=12∨k=13∨k=14∨k=15∨k=16∨k=17∨k=18∨k=20∨k=21:=by omega
  ·exact own_numP 1 xa xb xc nm st xv s pos W rfl _ (Hd (PR rfl))
  ·by_cases hv:xv=1
   ·refine(own_trueP 2 xa xb xc nm st xv s pos W rfl hv).mono fun r Y h=>h.to ?_
    unfold ownP;dsimp only;rw[if_neg (by decide),if_pos rfl,if_pos hv]
   ·refine(own_falseP 2 xa xb xc nm st xv s pos W rfl hv).mono fun r Y h=>h.to ?_
    unfold ownP;dsimp only;rw[if_neg (by decide),if_pos rfl,if_neg hv]
  ·exact own_nameP 3 xa xb xc nm st xv s pos W rfl
  ·exact own_pre4P xa xb xc nm st xv s pos W (Hd hS)
  ·exact own_pre5P xa xb xc nm st xv s pos W (Hd hS)
  ·exact own_two6P xa xb xc nm st xv s pos W (Hd hS)
  ·exact own_two7P xa xb xc nm st xv s pos W (Hd hS)
  ·exact own_two8P xa xb xc nm st xv s pos W (Hd hS)
  ·exact own_two9P xa xb xc nm st xv s pos W (Hd hS)
  ·exact own_two10P xa xb xc nm st xv s pos W (Hd hS)
  ·exact own_two11P xa xb xc nm st xv s pos W (Hd hS)
  ·exact own_two12P xa xb xc nm st xv s pos W (Hd hS)
  ·exact own_two13P xa xb xc nm st xv s pos W (Hd hS)
  ·exact own_two14P xa xb xc nm st xv s pos W (Hd hS)
  ·exact own_ifP 15 xa xb xc nm st xv s pos W rfl
  ·exact own_pre16P xa xb xc nm st xv s pos W (Hd hS)
  ·exact own_two17P xa xb xc nm st xv s pos W (Hd hS)
  ·exact own_two18P xa xb xc nm st xv s pos W (Hd hS)
  ·exact own_isP 20 xa xb xc nm st xv s pos W rfl
  ·exact own_pre21P xa xb xc nm st xv s pos W (Hd hS)
theorem run_append_make {P:Program} (w:World) (t tx ty e:TypeId) (i:TypeInfo) (z:Value) (ik:IntKind) (ht:P.underlying t=some (.slice e)) (htx:P.underlying tx=some (.int ik)) (hi:P.info? e=some i) (hz:i.zero=some z)
  (n:Nat) (h0:0<n) (h63:(n:Int)≤9223372036854775807) (h48:n*i.bytes≤281474976710656) (hsz:0<i.size) :
  (Builtin.append_ #[t,tx] ty #[.slice none 0 0,.int .i64 (n:Int)]).run P w =
   .ok (.slice (some ⟨w.heap.size,0,none⟩) n (grownCap w n 0 e)) (w.drew.alloc (.cells (Builtin.zeroCells z.cells n++Builtin.zeroCells z.cells (grownCap w n 0 e-n)) e)):=by
 have hn:n≠0:=by omega
 have hwr:IntKind.i64.wrap (n:Int)=n:=wrap_small _ (by omega) (by omega)
 have h63':¬(9223372036854775807<(n:Int)):=by omega
 have h48':¬(281474976710656<Builtin.nextslicecap n 0*i.bytes):=by rw[nextslicecap_zero h0];omega
 have h48'':¬(281474976710656<(n:Int)*(i.bytes:Int)):=by
  have:(n:Int)*(i.bytes:Int)=((n*i.bytes:Nat):Int):=by push_cast;rfl
  rw[this];omega
 have hneg:¬((n:Int)<0):=by omega
 have hz2:¬(n*i.size=0):=by have:=Nat.mul_pos h0 hsz;omega
 simp[Builtin.append_,run_underlying ht,run_underlying htx,sizeOf,typeInfo,zeroValue,hi,hz,Builtin.lenOf,hn,hwr,hneg,h63',h48',h48'',asInt,asIntOf,Question.forced,run_firstCells_none,newRow,grownCap]
 exact fun h=>absurd h hz2
theorem wpList_append_make {P:Program} (w:World) {ops:Array Oper} {rest:List Oper} {o:Oper} {a:Act} {Q:Exit→Act→World→Prop}
  (hg:o.guard=none) (s x:Operand) (t tx:TypeId) (hop:o.op=Op.call { callee:=Callee.builtin Builtin.append,args:=#[s,x],argTypes:=#[t,tx] })
  (e:TypeId) (i:TypeInfo) (z:Value) (ik:IntKind) (size bytes:Nat) (ht:P.underlying t=some (.slice e)) (htx:P.underlying tx=some (.int ik)) (hi:P.info? e=some i) (hz:i.zero=some z) (hsize:i.size=size) (hby:i.bytes=bytes) (hzs:z.cells.size=size) (hsz:0<size)
  (n:Nat) (hs:a.eval s=.slice none 0 0) (hx:a.eval x=.int .i64 (n:Int)) (h0:0<n) (h63:n≤maxLen) (h48:n*bytes≤281474976710656)
  (hK:∀cap w',w'.ownsRow w.heap.size e size (.slice (some ⟨w.heap.size,0,none⟩) 0 cap) 0 []→n≤cap→w.grownBy w' none→wpList P ops Q rest (a.put o.dst (.slice (some ⟨w.heap.size,0,none⟩) n cap)) w') :
  wpList P ops Q (o :: rest) a w:=by
 refine wpList_plain hg fun K hK'=>?_
 subst hsize hby
 have h9:(n:Int)≤9223372036854775807:=by simp only[maxLen] at h63;omega
 have hrun:=run_append_make (P:=P) w t tx o.type e i z ik ht htx hi hz n h0 h9 h48 hsz
 have hge:=grownCap_ge w n 0 e
 have hcm:=grownCap_le_maxLen w n 0 e h63
 unfold Oper.wp
 simp[execOp,hop,resolve,invoke,builtin,hs,hx,hrun,Result.andThen]
 refine hK' _ _ (hK _ _ ⟨by simp,.inr ⟨w.heap.size,_,_,rfl,qL _,heap_alloc_new w.drew _,Nat.zero_le _,hcm,?_,by simp⟩⟩ hge ⟨rfl,rfl,rfl,by simp,fun k hk _=>by first | exact heap_alloc_old w.drew _ hk | exact heap_alloc_old w.drew _ k hk⟩)
 simp only[Array.size_append,size_zeroCells,hzs,←Nat.add_mul]
 congr 1
 omega
theorem grow_anyP (n:Nat) (h0:0<n) (hn:(n:Int)≤4000) (W:World):Calls prog 80 #[.slice none 0 0,.int .i64 (n:Int)] W fun r Y=>∃g cap,r=.returned (.slice (some ⟨g,0,none⟩) 0 cap)∧PcOwn Y W.heap.size (.slice (some ⟨g,0,none⟩) 0 cap) []∧Below W.heap.size W Y:=by
 obtain⟨i,h2,h3,h4,h5⟩:=info_parts pc_info
 have q1:decide ((n:Int)<0)=false:=qF (by omega)
 have q2:decide ((0:Int)<(n:Int))=true:=qT (by omega)
 have q3:decide (0<n)=true:=qT h0
 have hm9:n≤maxLen:=by
               have:4000≤maxLen:=by decide
               omega
 have h48:n*32≤281474976710656:=by omega
 go_enter Tryz.func80,Tryz.ntmps80
 go_wp2_with (at_builtin;go_loud (refine wpList_append_make _ rfl _ _ 85 3 rfl 84 i _ _ 3 32 Tryz.underlying85 Tryz.underlying3 h2 h3 h4 h5 rfl (by decide) n rfl rfl h0 hm9 h48 ?_;intro cap w1 ho hc hg;have HO:=Hd ho;have HG:=Hd hg;have q4:=Int.natCast_nonneg cap;clear ho hg))
 go_ret
 exact⟨_,cap,rfl,HO.out,(qB _ _).grown HG.out (qL _) (by simp)⟩
end Go.Proofs.YthpgfahlccljnaaGreatDoor
