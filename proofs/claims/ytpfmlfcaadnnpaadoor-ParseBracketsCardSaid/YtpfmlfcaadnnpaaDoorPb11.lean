import Derived.Test.YtpfmlfcaadnnpaaDoorPb10
import Derived.WalkKit
import Derived.Outline
import Derived.Lib.Hide
import Derived.Deep.QuietTactic
import Derived.BigQuiet
import Derived.Deep.Draws
import Derived.IntWalk
import Derived.RangeFuncNested
import Derived.RangeFuncBound
import Derived.RangeFuncCalls
import Derived.RangeFuncLeaves
import Derived.Shelf.Abstract
import Derived.Shelf.RegionOpen
import Derived.OwnWalkIn
import Derived.TacticsInMore
import Derived.LoopNIn
import Derived.LoopIn
set_option maxHeartbeats 16000000
set_option maxRecDepth 100000
set_option linter.unusedVariables false
open Go.Proofs.Tryd(prog)
namespace Go.Proofs.YtpfmlfcaadnnpaaDoor
open Go.RowKit Lx
theorem read_ok (l:List UInt8) (ts:List Tok) (ht:lexT l ts none) (hl:l.length≤20000) (f:Nat) (τ:RS) (v:Int) (l0:List Int) (hr:runE (ts++[endT l.length]) f .expr rs0=some (v,l0,τ)) (hz:τ.code=0) (h5:(tokL (ts++[endT l.length]) τ.at_).kind=5) (W:World) (hS:Signs W) :
  Calls prog 9 #[.string (str l),.func (.func 10) #[] #[]] W fun r Y=>∃o c,r=.returned (.tuple #[.agg #[.slice none 0 0,.slice o τ.exprs.length c],.agg #[.int .i64 0,.int .i64 0]])∧Below W.heap.size W Y∧ExsOwn Y W.heap.size (fun _=>False) (.slice o τ.exprs.length c) τ.exprs:=by
 obtain⟨L,hL⟩:∃L,L=τ.exprs.length:=⟨_,rfl⟩
 rw[←hL]
 obtain⟨us,hus⟩:∃us,us=ts++[endT l.length]:=⟨_,rfl⟩
 have hlen:us.length=ts.length+1:=by rw[hus,List.length_append];rfl
 obtain⟨n,hn⟩:∃n,n=us.length:=⟨_,rfl⟩
 have hts:ts.length≤20000:=by have hcnt:=toks_count ht;have g1:=gapTo_le false (Nat.zero_le l.length);omega
 have HE:Hid (EndOk us∧TxOk us∧us.length≤40000):=Hd ⟨by rw[hus];exact end_ok ht _,by rw[hus];exact lexed_tx ht _,by omega⟩
 obtain⟨W2,hW2⟩:∃W2,W2=(W.alloc (.cells #[.slice none 0 0,.slice none 0 0] 26)).alloc (.cells #[.int .i64 0,.int .i64 0] 29):=⟨_,rfl⟩
 have hb2:Below W.heap.size W W2:=by rw[hW2];exact((qB _ _).alloc (qL _) _).alloc (by simp) _
 have hs2:W2.heap.size=W.heap.size+2:=by rw[hW2];simp
 have LX:Hid (Calls prog 15 #[.string (str l)] W2 fun r Y=>∃g cap,r=.returned (.tuple #[.slice (some ⟨g,0,none⟩) n cap,.agg #[.int .i64 0,.int .i64 0]])∧Hid (Below W2.heap.size W2 Y∧RowAt Y g us∧W2.heap.size≤g∧n≤cap)):=Hd ((lex_any l ts none ht W2 (hS.below hb2)).mono fun e w' ⟨v,c,f',he,hb,h⟩=>by
  rcases h with ⟨h1,_⟩ | ⟨_,_,rfl,rfl,h2⟩ | ⟨_,g,h2,_⟩
  ·omega
  ·obtain⟨g',cap',rfl⟩:=ownsRow_succ h2
   have hlt:=h2.lt g' rfl
   rw[←hus] at h2
   refine⟨g',cap',by rw[he,hn,hlen],Hd ⟨hb,⟨hlt.2,fun i t hi=>?_⟩,hlt.1,by rw[hn,hlen];exact capL h2⟩⟩
   obtain⟨h1,h3,h4,h5⟩:=tokCells_at hi
   exact⟨row_cells h2 _ _ h1,row_cells h2 _ _ h3,row_cells h2 _ _ h4,row_cells h2 _ _ h5⟩
  ·cases h2)
 have EX:Hid (∀w b g cap,Hid (Cd w b g cap (.slice none 0 0) us (fun _=>False) rs0)→Calls prog 10 #[.pointer (some ⟨b,0,none⟩)] w fun r Y=>CdOk b g cap (.slice none 0 0) us (fun _=>False) w (.tuple #[]) τ r Y):=Hd fun w b g cap h=>(expr_fn b g cap _ us _ f rs0 τ v l0 rfl (by rw[hus];exact hr) w h).mono fun r Y hh=>hh.ok hz
 obtain⟨tv,htv⟩:∃tv,tv=tokV (tokL us τ.at_):=⟨_,rfl⟩
 have WE:Hid (∀w b g cap,Hid (Cd w b g cap (.slice none 0 0) us (fun _=>False) τ)→Calls prog 17 #[.pointer (some ⟨b,0,none⟩),.int .i64 5] w fun r Y=>r=.returned tv∧(∃s d o c,Hid (Y.heap[b]?=some (.cells #[s,.slice none 0 0,.slice o L c,.int .i64 d] 50 (0,0)))∧Hid (ExsOwn Y b (fun _=>False) (.slice o L c) τ.exprs))∧Hid (RX b (fun _=>False) w Y)):=Hd fun w b g cap h=>(want_end b g cap _ us _ τ w h hz).mono fun r Y hh=>by
  rcases hh.2 with ⟨_,e5,s,d,o,c,e6,e7⟩ | ⟨e5,_⟩
  ·exact⟨by rw[htv];exact e5,⟨s,d,o,c,Hd (by rw[hL];exact e6),Hd (by rw[hL];exact e7)⟩,Hd hh.1⟩
  ·rw[hus] at e5;exact absurd h5 e5
 have HA:Hid (W2.heap[W.heap.size+1]?=some (.cells #[.int .i64 0,.int .i64 0] 29 (0,0))):=Hd (by rw[hW2];simpa using heap_alloc_new (W.alloc (.cells #[.slice none 0 0,.slice none 0 0] 26)) (.cells #[.int .i64 0,.int .i64 0] 29))
 have HP:Hid (W2.heap[W.heap.size]?=some (.cells #[.slice none 0 0,.slice none 0 0] 26 (0,0))):=Hd (by
  rw[hW2,((qB _ _).alloc (qL _) _:Below (W.alloc (.cells #[.slice none 0 0,.slice none 0 0] 26)).heap.size _ _).block _ (by simp)]
  exact heap_alloc_new _ _)
 have HB2:=Hd hb2
 have MF:=runF
 clear hr hlen hus hts hS hb2 hz ht h5 htv
 have HL:=Hd hL
 clear hL
 have HN:=Hd hn
 clear hn
 go_enter_defers Tryd.func9,Tryd.ntmps9
 go_wp2_with (first
  | (go_at_call 15;rw[←hW2];clear hW2;(with_reducible refine LX.out.mono ?_);rintro e w3 ⟨g,cap,rfl,h3⟩;have HA3:=Hd ((h3.out.1.block _ (heap_lt HA.out)).trans HA.out);have d0:w3.cell? ⟨W.heap.size+1,0,none⟩=some (.int .i64 0):=(by simp[World.cell?,HA3.out]);have d1:w3.cell? ⟨W.heap.size+1,1,none⟩=some (.int .i64 0):=(by simp[World.cell?,HA3.out]);have z0:w3.frozen? ⟨W.heap.size+1,0,none⟩=false:=(by simp[World.frozen?,HA3.out]);have z1:w3.frozen? ⟨W.heap.size+1,1,none⟩=false:=(by simp[World.frozen?,HA3.out])))
 obtain⟨X,hX⟩:∃X,X=(w3.setCell ⟨W.heap.size+1,0,none⟩ (.int .i64 0)).setCell ⟨W.heap.size+1,1,none⟩ (.int .i64 0):=⟨_,rfl⟩
 have hxs:w3.heap.size=X.heap.size:=by rw[hX];simp
 have hbu:But (W.heap.size+1) w3 X:=by rw[hX];exact((But.refl _ _).set 0 _).set 1 _
 have hfx:X.heap[W.heap.size+1]?=some (.cells #[.int .i64 0,.int .i64 0] 29 (0,0)):=by rw[hX,set_blk (set_blk HA3.out 0 (.int .i64 0)) 1 (.int .i64 0)];rfl
 obtain⟨h31,h32,h33,h34⟩:=h3.out
 have hpx:X.heap[W.heap.size]?=some (.cells #[.slice none 0 0,.slice none 0 0] 26 (0,0)):=(hbu.block _ (by omega) (Nat.lt_of_lt_of_le (heap_lt HP.out) h31.size)).trans ((h31.block _ (heap_lt HP.out)).trans HP.out)
 have hrx:RowAt X g us:=row_low h32 (hbu.block g (by omega) h32.1)
 rw[←hX,hxs]
 obtain⟨Z,hZ⟩:∃Z,Z=X.alloc (.cells #[.slice (some ⟨g,0,none⟩) n cap,.slice none 0 0,.slice none 0 0,.int .i64 0] 50):=⟨_,rfl⟩
 have HZ:Hid (Cd Z X.heap.size g cap (.slice none 0 0) us (fun _=>False) rs0):=Hd (by
  obtain rfl:=HN.out
  rw[hZ];exact cd_new hrx HE.out.2.2 h34 HE.out.1 HE.out.2.1)
 have hbz:Below X.heap.size X Z:=by rw[hZ];exact(qB _ _).alloc (qL _) _
 have hfz:=(hbz.block _ (heap_lt hfx)).trans hfx
 have hpz:=(hbz.block _ (heap_lt hpx)).trans hpx
 have hx1:=heap_lt hfx
 rw[←hZ]
 refine(EX.out Z _ g cap HZ).mono ?_
 rintro e w4 ⟨rfl,hr4,hk4⟩
 dsimp only
 clear hX hxs hZ
 go_wp2_with (go_at_call 17;(with_reducible refine(WE.out _ _ _ _ hr4).mono ?_);rintro e w5 ⟨rfl,⟨s,d,o,c,hb5,hx5⟩,hk4'⟩;have hk5:=Hd (hk4.out.trans hk4'.out);have hf5:=Hd (hk5.out.keep _ _ hfz (by omega) (fun cs e=>by cases e));have hp5:=Hd (hk5.out.keep _ _ hpz (by omega) (fun cs e=>by cases e));obtain⟨⟨b0,b1,b2,b3⟩,bf⟩:=four_of hb5.out;clear b0 b3 bf;have p0:w5.cell? ⟨W.heap.size,0,none⟩=some (.slice none 0 0):=(by simp[World.cell?,hp5.out]);have p1:w5.cell? ⟨W.heap.size,1,none⟩=some (.slice none 0 0):=(by simp[World.cell?,hp5.out]);have f0:w5.cell? ⟨W.heap.size+1,0,none⟩=some (.int .i64 0):=(by simp[World.cell?,hf5.out]);have f1:w5.cell? ⟨W.heap.size+1,1,none⟩=some (.int .i64 0):=(by simp[World.cell?,hf5.out]);have y0:w5.frozen? ⟨W.heap.size,0,none⟩=false:=(by simp[World.frozen?,hp5.out]);have y1:w5.frozen? ⟨W.heap.size,1,none⟩=false:=(by simp[World.frozen?,hp5.out]);have y2:w5.frozen? ⟨W.heap.size+1,0,none⟩=false:=(by simp[World.frozen?,hf5.out]);have y3:w5.frozen? ⟨W.heap.size+1,1,none⟩=false:=(by simp[World.frozen?,hf5.out]))
 obtain⟨V,hV⟩:∃V,V=(((w5.setCell ⟨W.heap.size,0,none⟩ (.slice none 0 0)).setCell ⟨W.heap.size,1,none⟩ (.slice o L c)).setCell ⟨W.heap.size+1,0,none⟩ (.int .i64 0)).setCell ⟨W.heap.size+1,1,none⟩ (.int .i64 0):=⟨_,rfl⟩
 obtain⟨V1,hV1⟩:∃V1,V1=(w5.setCell ⟨W.heap.size,0,none⟩ (.slice none 0 0)).setCell ⟨W.heap.size,1,none⟩ (.slice o L c):=⟨_,rfl⟩
 have n1:But W.heap.size w5 V1:=by rw[hV1];exact((But.refl _ _).set 0 _).set 1 _
 have n2:But (W.heap.size+1) V1 V:=by rw[hV,←hV1];exact((But.refl _ _).set 0 _).set 1 _
 have a1:V1.heap[W.heap.size]?=some (.cells #[.slice none 0 0,.slice o L c] 26 (0,0)):=by rw[hV1,set_blk (set_blk hp5.out 0 (.slice none 0 0)) 1 (.slice o L c)];rfl
 have a2:=(n2.block _ (by omega) (heap_lt a1)).trans a1
 have a3:V1.heap[W.heap.size+1]?=some (.cells #[.int .i64 0,.int .i64 0] 29 (0,0)):=(n1.block _ (by omega) (heap_lt hf5.out)).trans hf5.out
 have a4:V.heap[W.heap.size+1]?=some (.cells #[.int .i64 0,.int .i64 0] 29 (0,0)):=by rw[hV,←hV1,set_blk (set_blk a3 0 (.int .i64 0)) 1 (.int .i64 0)];rfl
 rw[←hV]
 clear hV hV1
 refine leaves_cons (f:=16) (args:=#[.pointer (some ⟨W.heap.size+1,0,none⟩)]) (by simp) (by simp[go_sem]) ?_
 refine(catch_idle (W.heap.size+1) V).mono ?_
 rintro e u' w6 ⟨rfl,rfl,hb6⟩
 have hp6:=(hb6.block _ (heap_lt a2)).trans a2
 have hf6:=(hb6.block _ (heap_lt a4)).trans a4
 have g0:w6.cell? ⟨W.heap.size+1,0,none⟩=some (.int .i64 0):=by simp[World.cell?,hf6]
 have g1:w6.cell? ⟨W.heap.size+1,1,none⟩=some (.int .i64 0):=by simp[World.cell?,hf6]
 have g2:w6.cell? ⟨W.heap.size,0,none⟩=some (.slice none 0 0):=by simp[World.cell?,hp6]
 have g3:w6.cell? ⟨W.heap.size,1,none⟩=some (.slice o L c):=by simp[World.cell?,hp6]
 have h32s:=h31.size
 have s1:=n1.size
 have s2:=n2.size
 have hw5:Below W.heap.size W w5:=below_chain HB2.out (by omega) h31 (by omega) hbu (by omega) hbz (by omega) hk5.out.rk (But.refl _ _)
 have hfin:Below W.heap.size W w6:=by
  have sw:=hw5.size
  refine⟨hb6.os.trans (n2.os.trans (n1.os.trans hw5.os)),hb6.tape.trans (n2.tape.trans (n1.tape.trans hw5.tape)),hb6.output.trans (n2.output.trans (n1.output.trans hw5.output)),by have:=hb6.size;omega,fun k hk=>?_⟩
  rw[hb6.block k (by omega),n2.block k (by omega) (by omega),n1.block k (by omega) (by omega),hw5.block k hk]
 have hown:ExsOwn w6 W.heap.size (fun _=>False) (.slice o L c) τ.exprs:=(hx5.out.same fun k h1 h2=>by
  rw[hb6.block k (by omega),n2.block k (by omega) (by omega),n1.block k (by omega) h2]).base (by omega)
 simp only[Leaves,settle]
 simp[results,Tryd.results9,go_sem,g0,g1,g2,g3]
 exact⟨o,c,⟨rfl,rfl⟩,hfin,hown⟩
theorem read_lex (s:ByteArray) (F:Value) (c f:Int) (hc:c≠0) (W:World) (LX:Hid (∀W2,Below W.heap.size W W2→Calls prog 15 #[.string s] W2 fun r Y=>NoRow c f W2 r Y)) :
  Calls prog 9 #[.string s,F] W fun r Y=>r=.returned (.tuple #[.agg #[.slice none 0 0,.slice none 0 0],.agg #[.int .i64 c,.int .i64 f]])∧Below W.heap.size W Y:=by
 obtain⟨W2,hW2⟩:∃W2,W2=(W.alloc (.cells #[.slice none 0 0,.slice none 0 0] 26)).alloc (.cells #[.int .i64 0,.int .i64 0] 29):=⟨_,rfl⟩
 have hb2:Below W.heap.size W W2:=by rw[hW2];exact((qB _ _).alloc (qL _) _).alloc (by simp) _
 have hs2:W2.heap.size=W.heap.size+2:=by rw[hW2];simp
 have hP:W2.heap[W.heap.size]?=some (.cells #[.slice none 0 0,.slice none 0 0] 26 (0,0)):=by
  rw[hW2,heap_alloc_old _ _ (by simp)];exact heap_alloc_new W _
 have hF:W2.heap[W.heap.size+1]?=some (.cells #[.int .i64 0,.int .i64 0] 29 (0,0)):=by
  have:=heap_alloc_new (W.alloc (.cells #[.slice none 0 0,.slice none 0 0] 26)) (.cells #[.int .i64 0,.int .i64 0] 29)
  rw[World.size_alloc] at this
  rw[hW2];exact this
 have L2:=Hd (LX.out W2 hb2)
 have HB2:=Hd hb2
 have HPF:=Hd (show _∧_ from⟨hP,hF⟩)
 have HS2:=Hd hs2
 have q3:(c !=0)=true:=bne_iff_ne.2 hc
 have q4:(c ==0)=false:=beq_false_of_ne hc
 clear hb2 hs2 hP hF hc LX
 have AT:Hid (∀w3,Below W2.heap.size W2 w3→W.heap.size+1<w3.heap.size∧w3.heap[W.heap.size]?=some (.cells #[.slice none 0 0,.slice none 0 0] 26 (0,0))∧w3.heap[W.heap.size+1]?=some (.cells #[.int .i64 0,.int .i64 0] 29 (0,0))):=by
  refine Hd fun w3 hb3=>?_
  have h2:=HS2.out
  have h3:=hb3.size
  exact⟨by omega,(hb3.block W.heap.size (by omega)).trans HPF.out.1,(hb3.block (W.heap.size+1) (by omega)).trans HPF.out.2⟩
 go_enter_defers Tryd.func9,Tryd.ntmps9
 go_wp2_with (go_at_call 15;rw[←hW2];clear hW2;(with_reducible refine L2.out.mono ?_);rintro e w3 ⟨rfl,hb3⟩;have HB3:=Hd hb3;obtain⟨hlt,hP,hF⟩:=AT.out w3 hb3;have HPP:=Hd (show _∧_ from⟨hP,hF⟩);have HLT:=Hd hlt;have d0:w3.cell? ⟨W.heap.size+1,0,none⟩=some (.int .i64 0):=(by simp[World.cell?,hF]);have d1:w3.cell? ⟨W.heap.size+1,1,none⟩=some (.int .i64 0):=(by simp[World.cell?,hF]);have z0:w3.frozen? ⟨W.heap.size+1,0,none⟩=false:=(by simp[World.frozen?,hF]);have z1:w3.frozen? ⟨W.heap.size+1,1,none⟩=false:=(by simp[World.frozen?,hF]);clear hb3 hP hF hlt)
 have hlt:=HLT.out
 obtain⟨X,hX⟩:∃X,X=(w3.setCell ⟨W.heap.size+1,0,none⟩ (.int .i64 c)).setCell ⟨W.heap.size+1,1,none⟩ (.int .i64 f):=⟨_,rfl⟩
 have hFX:X.heap[W.heap.size+1]?=some (.cells #[.int .i64 c,.int .i64 f] 29 (0,0)):=by rw[hX,set_blk (set_blk HPP.out.2 0 _) 1 _];rfl
 have hPX:X.heap[W.heap.size]?=some (.cells #[.slice none 0 0,.slice none 0 0] 26 (0,0)):=by
  rw[hX,Below.heap_setCell _ _ _ _ (by simp),Below.heap_setCell _ _ _ _ (by simp)];exact HPP.out.1
 have hbX:Below W.heap.size W X:=by
  have h:=HB2.out.trans (HB3.out.mono (by have:=HS2.out;omega))
  rw[hX];exact(h.setCell (p:=⟨W.heap.size+1,0,none⟩) (Nat.le_succ _) _).setCell (p:=⟨W.heap.size+1,1,none⟩) (Nat.le_succ _) _
 rw[←hX]
 have p0':X.cell? ⟨W.heap.size,0,none⟩=some (.slice none 0 0):=by simp[World.cell?,hPX]
 have p1':X.cell? ⟨W.heap.size,1,none⟩=some (.slice none 0 0):=by simp[World.cell?,hPX]
 have p2':X.frozen? ⟨W.heap.size,0,none⟩=false:=by simp[World.frozen?,hPX]
 have p3':X.frozen? ⟨W.heap.size,1,none⟩=false:=by simp[World.frozen?,hPX]
 have u0':X.cell? ⟨W.heap.size+1,0,none⟩=some (.int .i64 c):=by simp[World.cell?,hFX]
 have u1':X.cell? ⟨W.heap.size+1,1,none⟩=some (.int .i64 f):=by simp[World.cell?,hFX]
 have u2':X.frozen? ⟨W.heap.size+1,0,none⟩=false:=by simp[World.frozen?,hFX]
 have u3':X.frozen? ⟨W.heap.size+1,1,none⟩=false:=by simp[World.frozen?,hFX]
 have HX:=Hd (show _∧_∧_ from⟨hPX,hFX,hbX⟩)
 clear hX d0 d1 z0 z1 hFX hPX hbX
 have mixed:prog.follows .mixedOrders=true:=by kernel_rfl
 have late:prog.follows .lateStores=true:=by kernel_rfl
 go_region_o
 go_wp2_with fail
 obtain⟨Y,hY⟩:∃Y,Y=(((X.setCell ⟨W.heap.size,0,none⟩ (.slice none 0 0)).setCell ⟨W.heap.size,1,none⟩ (.slice none 0 0)).setCell ⟨W.heap.size+1,0,none⟩ (.int .i64 c)).setCell ⟨W.heap.size+1,1,none⟩ (.int .i64 f):=⟨_,rfl⟩
 rw[←hY]
 have k1:Y.drew.heap[W.heap.size]?=some (.cells #[.slice none 0 0,.slice none 0 0] 26 (0,0)):=by
  show Y.heap[W.heap.size]?=_
  rw[hY,Below.heap_setCell _ _ _ _ (by simp),Below.heap_setCell _ _ _ _ (by simp),set_blk (set_blk HX.out.1 0 _) 1 _];rfl
 have k2:Y.drew.heap[W.heap.size+1]?=some (.cells #[.int .i64 c,.int .i64 f] 29 (0,0)):=by
  show Y.heap[W.heap.size+1]?=_
  rw[hY,set_blk (set_blk (((Below.heap_setCell _ _ _ _ (by simp)).trans (Below.heap_setCell _ _ _ _ (by simp))).trans HX.out.2.1) 0 _) 1 _];rfl
 have r0:Y.drew.cell? ⟨W.heap.size,0,none⟩=some (.slice none 0 0):=by simp[World.cell?,k1]
 have r1:Y.drew.cell? ⟨W.heap.size,1,none⟩=some (.slice none 0 0):=by simp[World.cell?,k1]
 have r2:Y.drew.cell? ⟨W.heap.size+1,0,none⟩=some (.int .i64 c):=by simp[World.cell?,k2]
 have r3:Y.drew.cell? ⟨W.heap.size+1,1,none⟩=some (.int .i64 f):=by simp[World.cell?,k2]
 have hbX:Below W.heap.size W Y:=by
  rw[hY]
  exact(((HX.out.2.2.setCell (p:=⟨W.heap.size,0,none⟩) (qL _) _).setCell (p:=⟨W.heap.size,1,none⟩) (qL _) _).setCell (p:=⟨W.heap.size+1,0,none⟩) (Nat.le_succ _) _).setCell (p:=⟨W.heap.size+1,1,none⟩) (Nat.le_succ _) _
 have hbY:Below W.heap.size W Y.drew:=hbX.trans (below_dr (qB _ _) 1)
 simp[bodyPostD,Leaves,results,Tryd.results9,go_sem,r0,r1,r2,r3,hbY]
def ReadX (es:List Ex) (cd f:Int) (W:World) (r:Ending) (Y:World):Prop :=
 ∃o c,r=.returned (.tuple #[.agg #[.slice none 0 0,.slice o es.length c],.agg #[.int .i64 cd,.int .i64 f]])∧Below W.heap.size W Y∧ExsOwn Y W.heap.size (fun _=>False) (.slice o es.length c) es
def ExprX (es:List Ex) (cd f:Int) (W:World) (r:Ending) (Y:World):Prop :=
 ∃o c,r=.returned (.tuple #[.agg #[.slice none 0 0,.slice o es.length c],.int .i64 ((es.length-1:Nat):Int),.agg #[.int .i64 cd,.int .i64 f]])∧ExsOwn Y W.heap.size (fun _=>False) (.slice o es.length c) es∧Below W.heap.size W Y
theorem rg_two_boxes (w:World) (c d:Array Value) (S T:Nat):((w.alloc (.cells c S)).alloc (.cells d T)).heap[w.heap.size]?=some (.cells c S (0,0))∧((w.alloc (.cells c S)).alloc (.cells d T)).heap[w.heap.size+1]?=some (.cells d T (0,0)):=by
 constructor
 ·rw[heap_alloc_old _ _ (by simp)];exact heap_alloc_new w _
 ·have:=heap_alloc_new (w.alloc (.cells c S)) (.cells d T)
  rw[World.size_alloc] at this
  exact this
theorem expr_call (s:ByteArray) (es:List Ex) (cd f:Int) (hl:es.length≤40000) (W:World) (C:Hid (∀W2,Below W.heap.size W W2→Calls prog 9 #[.string s,.func (.func 10) #[] #[]] W2 fun r Y=>ReadX es cd f W2 r Y)) :
  Calls prog 6 #[.string s] W fun r Y=>ExprX es cd f W r Y:=by
 obtain⟨W2,hW2⟩:∃W2,W2=(W.alloc (.cells #[.slice none 0 0,.slice none 0 0] 26)).alloc (.cells #[.int .i64 0,.int .i64 0] 29):=⟨_,rfl⟩
 have hb2:Below W.heap.size W W2:=by rw[hW2];exact((qB _ _).alloc (qL _) _).alloc (by simp) _
 have hs2:W2.heap.size=W.heap.size+2:=by rw[hW2];simp
 have hP:W2.heap[W.heap.size]?=some (.cells #[.slice none 0 0,.slice none 0 0] 26 (0,0)):=by
  rw[hW2,heap_alloc_old _ _ (by simp)];exact heap_alloc_new W _
 have hF:W2.heap[W.heap.size+1]?=some (.cells #[.int .i64 0,.int .i64 0] 29 (0,0)):=by
  have:=heap_alloc_new (W.alloc (.cells #[.slice none 0 0,.slice none 0 0] 26)) (.cells #[.int .i64 0,.int .i64 0] 29)
  rw[World.size_alloc] at this
  rw[hW2];exact this
 obtain⟨L,hL⟩:∃L,L=es.length:=⟨_,rfl⟩
 have C2:Hid (Calls prog 9 #[.string s,.func (.func 10) #[] #[]] W2 fun r Y=>∃o c,r=.returned (.tuple #[.agg #[.slice none 0 0,.slice o L c],.agg #[.int .i64 cd,.int .i64 f]])∧Hid (Below W2.heap.size W2 Y∧ExsOwn Y W2.heap.size (fun _=>False) (.slice o L c) es)):=Hd ((C.out W2 hb2).mono fun r Y ⟨o,c,h1,h2,h3⟩=>⟨o,c,by rw[hL];exact h1,Hd ⟨h2,by rw[hL];exact h3⟩⟩)
 have hL4:(L:Int)≤40000:=by omega
 have HL:=Hd hL
 have HB2:=Hd hb2
 have HPF:=Hd (show _∧_ from⟨hP,hF⟩)
 have HS2:=Hd hs2
 have M1:IntKind.i64.wrap ((L:Int)-1)=((L:Int)-1):=by rw[IntKind.wrap_i64];omega
 clear hb2 hs2 hP hF C hL hl
 go_enter Tryd.func6,Tryd.ntmps6
 go_wp2_with (go_at_call 9;rw[←hW2];clear hW2;(with_reducible refine C2.out.mono ?_);rintro e w3 ⟨o,c,rfl,h3⟩)
 obtain⟨V,hV⟩:∃V,V=(w3.alloc (.cells #[.slice none 0 0,.slice o L c] 26)).alloc (.cells #[.int .i64 cd,.int .i64 f] 29):=⟨_,rfl⟩
 obtain⟨v1,v2⟩:=rg_two_boxes w3 #[.slice none 0 0,.slice o L c] #[.int .i64 cd,.int .i64 f] 26 29
 have hbV:Below w3.heap.size w3 V:=by rw[hV];exact((qB _ _).alloc (qL _) _).alloc (by simp) _
 rw[←hV] at v1 v2 ⊢
 have h2:=HS2.out
 have h3s:=h3.out.1.size
 have hPV:V.heap[W.heap.size]?=some (.cells #[.slice none 0 0,.slice none 0 0] 26 (0,0)):=(hbV.block _ (by omega)).trans ((h3.out.1.block _ (by omega)).trans HPF.out.1)
 have hFV:V.heap[W.heap.size+1]?=some (.cells #[.int .i64 0,.int .i64 0] 29 (0,0)):=(hbV.block _ (by omega)).trans ((h3.out.1.block _ (by omega)).trans HPF.out.2)
 have p0':V.cell? ⟨W.heap.size,0,none⟩=some (.slice none 0 0):=by simp[World.cell?,hPV]
 have p1':V.cell? ⟨W.heap.size,1,none⟩=some (.slice none 0 0):=by simp[World.cell?,hPV]
 have p2':V.frozen? ⟨W.heap.size,0,none⟩=false:=by simp[World.frozen?,hPV]
 have p3':V.frozen? ⟨W.heap.size,1,none⟩=false:=by simp[World.frozen?,hPV]
 have u0':V.cell? ⟨W.heap.size+1,0,none⟩=some (.int .i64 0):=by simp[World.cell?,hFV]
 have u1':V.cell? ⟨W.heap.size+1,1,none⟩=some (.int .i64 0):=by simp[World.cell?,hFV]
 have u2':V.frozen? ⟨W.heap.size+1,0,none⟩=false:=by simp[World.frozen?,hFV]
 have u3':V.frozen? ⟨W.heap.size+1,1,none⟩=false:=by simp[World.frozen?,hFV]
 have a0:V.cell? ⟨w3.heap.size,0,none⟩=some (.slice none 0 0):=by simp[World.cell?,v1]
 have a1:V.cell? ⟨w3.heap.size,1,none⟩=some (.slice o L c):=by simp[World.cell?,v1]
 have a2:V.cell? ⟨w3.heap.size+1,0,none⟩=some (.int .i64 cd):=by simp[World.cell?,v2]
 have a3:V.cell? ⟨w3.heap.size+1,1,none⟩=some (.int .i64 f):=by simp[World.cell?,v2]
 have HV:=Hd (show _∧_∧_ from⟨hPV,hFV,hbV⟩)
 have n1:W.heap.size<w3.heap.size:=by omega
 have n2:W.heap.size+1<w3.heap.size:=by omega
 clear hPV hFV hbV v1 v2 hV h2
 have mixed:prog.follows .mixedOrders=true:=by kernel_rfl
 have late:prog.follows .lateStores=true:=by kernel_rfl
 go_region_o
 go_wp2_with fail
 obtain⟨Y,hY⟩:∃Y,Y=(((V.setCell ⟨W.heap.size,0,none⟩ (.slice none 0 0)).setCell ⟨W.heap.size,1,none⟩ (.slice o L c)).setCell ⟨W.heap.size+1,0,none⟩ (.int .i64 cd)).setCell ⟨W.heap.size+1,1,none⟩ (.int .i64 f):=⟨_,rfl⟩
 rw[←hY]
 have k1:Y.drew.heap[W.heap.size]?=some (.cells #[.slice none 0 0,.slice o L c] 26 (0,0)):=by
  show Y.heap[W.heap.size]?=_
  rw[hY,Below.heap_setCell _ _ _ _ (by simp),Below.heap_setCell _ _ _ _ (by simp),set_blk (set_blk HV.out.1 0 _) 1 _];rfl
 have k2:Y.drew.heap[W.heap.size+1]?=some (.cells #[.int .i64 cd,.int .i64 f] 29 (0,0)):=by
  show Y.heap[W.heap.size+1]?=_
  rw[hY,set_blk (set_blk (((Below.heap_setCell _ _ _ _ (by simp)).trans (Below.heap_setCell _ _ _ _ (by simp))).trans HV.out.2.1) 0 _) 1 _];rfl
 have hYk:∀k,W.heap.size+1<k→Y.drew.heap[k]?=V.heap[k]?:=fun k hk=>by
  show Y.heap[k]?=_
  rw[hY,Below.heap_setCell _ _ _ _ (by simp;omega),Below.heap_setCell _ _ _ _ (by simp;omega),Below.heap_setCell _ _ _ _ (by simp;omega),Below.heap_setCell _ _ _ _ (by simp;omega)]
 have r0:Y.drew.cell? ⟨W.heap.size,0,none⟩=some (.slice none 0 0):=by simp[World.cell?,k1]
 have r1:Y.drew.cell? ⟨W.heap.size,1,none⟩=some (.slice o L c):=by simp[World.cell?,k1]
 have r2:Y.drew.cell? ⟨W.heap.size+1,0,none⟩=some (.int .i64 cd):=by simp[World.cell?,k2]
 have r3:Y.drew.cell? ⟨W.heap.size+1,1,none⟩=some (.int .i64 f):=by simp[World.cell?,k2]
 have hb3:Below W.heap.size W w3:=HB2.out.trans (h3.out.1.mono HB2.out.size)
 have hb4:Below W.heap.size W V:=hb3.trans (HV.out.2.2.mono hb3.size)
 have hbX:Below W.heap.size W Y:=by
  rw[hY]
  exact(((hb4.setCell (p:=⟨W.heap.size,0,none⟩) (qL _) _).setCell (p:=⟨W.heap.size,1,none⟩) (qL _) _).setCell (p:=⟨W.heap.size+1,0,none⟩) (Nat.le_succ _) _).setCell (p:=⟨W.heap.size+1,1,none⟩) (Nat.le_succ _) _
 have hbY:Below W.heap.size W Y.drew:=hbX.trans (below_dr (qB _ _) 1)
 have hown:ExsOwn Y.drew W.heap.size (fun _=>False) (.slice o L c) es:=(h3.out.2.same fun k hk hk2=>(hYk k (by have:=HS2.out;omega)).trans (HV.out.2.2.block k hk2)).base HB2.out.size
 have hmax:max ((L:Int)-1) 0=((es.length-1:Nat):Int):=by have:=HL.out;omega
 refine bodyPost_ret (v:=.tuple #[.agg #[.slice none 0 0,.slice o L c],.int .i64 (max ((L:Int)-1) 0),.agg #[.int .i64 cd,.int .i64 f]]) (by simp[results,Tryd.results6,go_sem,r0,r1,r2,r3]) rfl ?_
 rw[hmax]
 exact⟨o,c,by rw[←HL.out],by rw[←HL.out];exact hown,hbY⟩
def LastOf (v:Int) (τ:RS):Prop:=v=(τ.exprs.length:Int)-1∧0<τ.exprs.length
theorem last_put (x:Ex) (σ:RS):LastOf (σ.exprs.length:Int) (putS x σ):=by
 unfold LastOf putS
 rw[List.length_append]
 simp only[List.length_cons,List.length_nil]
 omega
theorem cwant_exprs (ts:List Tok) (s:List UInt8) (σ:RS):(wantS ts s σ).exprs=σ.exprs:=by unfold wantS failS;split <;> (try split) <;> rfl
theorem last_want {ts:List Tok} {s:List UInt8} {v:Int} {τ:RS} (h:LastOf v τ):LastOf v (wantS ts s τ):=by unfold LastOf;rw[cwant_exprs];exact h
theorem Stays.back {σ τ:RS} (h:Stays σ τ) (h0:τ.code=0):σ.code=0:=by
 rcases Decidable.em (σ.code=0) with h1 | h1
 ·exact h1
 ·exact absurd ((h h1).1.symm.trans h0) h1
def LastOk (j:Job) (σ:RS) (R:Int×List Int×RS):Prop:=match j with
 | .args _=>True
 | .loop _ a=>LastOf a σ→R.2.2.code=0→LastOf R.1 R.2.2
 | _=>R.2.2.code=0→LastOf R.1 R.2.2
theorem last_all (ts:List Tok):∀(f:Nat) (j:Job) (σ:RS) (R:Int×List Int×RS),runE ts f j σ=some R→LastOk j σ R:=by
 intro f
 induction f with
 | zero=>intro j σ R h;cases h
 | succ f ih =>
  intro j σ R h
  simp only[runE] at h
  split at h
  ·cases j with
   | expr =>
    try dsimp only at h
    unfold exprG at h
    try dsimp only at h
    split at h
    ·split at h
     ·obtain⟨a,h1,h⟩:=bind_some' h
      obtain⟨b,h2,h⟩:=bind_some' h
      obtain⟨c,h3,h⟩:=bind_some' h
      obtain⟨_,h⟩:=sputA_some h
      obtain rfl:=qI h
      exact fun _=>last_put _ _
     ·obtain⟨a,h1,h⟩:=bind_some' h
      try dsimp only at h
      split at h
      ·obtain⟨b,h2,h⟩:=bind_some' h
       obtain⟨_,h⟩:=sputA_some h
       obtain rfl:=qI h
       exact fun _=>last_put _ _
      ·split at h
       ·obtain⟨b,h2,h⟩:=bind_some' h
        obtain⟨_,h⟩:=sputA_some h
        obtain rfl:=qI h
        exact fun _=>last_put _ _
       ·split at h
        ·obtain rfl:=qI h
         exact fun h0=>ih _ _ _ h1 h0
        ·cases h
    ·rename_i hx
     obtain rfl:=qI h
     exact fun h0=>absurd h0 hx
   | pre =>
    try dsimp only at h
    unfold preG at h
    try dsimp only at h
    split at h
    ·split at h
     ·obtain⟨a,h1,h⟩:=bind_some' h
      split at h
      ·obtain rfl:=qI h
       exact fun h0=>ih _ _ _ h1 h0
      ·cases h
     ·obtain⟨a,h1,h⟩:=bind_some' h
      obtain⟨_,h⟩:=sputA_some h
      obtain rfl:=qI h
      exact fun _=>last_put _ _
    ·rename_i hx
     obtain rfl:=qI h
     exact fun h0=>absurd h0 hx
   | atom =>
    try dsimp only at h
    unfold atomG at h
    try dsimp only at h
    split at h
    ·obtain⟨_,h⟩:=sputA_some h
     obtain rfl:=qI h
     exact fun _=>last_put _ _
    ·split at h
     ·obtain⟨_,h⟩:=sputA_some h
      obtain rfl:=qI h
      exact fun _=>last_put _ _
     ·split at h
      ·obtain⟨_,h⟩:=sputA_some h
       obtain rfl:=qI h
       exact fun _=>last_put _ _
      ·split at h
       ·split at h
        ·obtain⟨_,h⟩:=sputA_some h
         obtain rfl:=qI h
         exact fun _=>last_put _ _
        ·split at h
         ·split at h
          ·obtain⟨_,h⟩:=sputA_some h
           obtain rfl:=qI h
           exact fun _=>last_put _ _
          ·obtain⟨a,h1,h⟩:=bind_some' h
           obtain⟨b,h2,h⟩:=bind_some' h
           obtain⟨_,h⟩:=sputA_some h
           obtain rfl:=qI h
           exact fun _=>last_put _ _
         ·obtain⟨_,h⟩:=sputA_some h
          obtain rfl:=qI h
          exact fun _=>last_put _ _
       ·obtain⟨a,h1,h⟩:=bind_some' h
        obtain rfl:=qI h
        exact fun h0=>last_want (ih _ _ _ h1 ((stays_want _ _ _).back h0))
   | bin least =>
    try dsimp only at h
    unfold binG at h
    split at h
    ·exact fun h0=>ih _ _ _ h h0
    ·obtain⟨a,h1,h⟩:=bind_some' h
     exact fun h0=>ih _ _ _ h (ih _ _ _ h1 ((stuck ts f _ _ _ h).back h0)) h0
   | loop least a =>
    try dsimp only at h
    unfold loopG at h
    split at h
    ·split at h
     ·obtain⟨b,h1,h⟩:=bind_some' h
      obtain⟨_,h⟩:=sputA_some h
      split at h
      ·obtain rfl:=qI h
       exact fun _ _=>last_put _ _
      ·exact fun _ h0=>ih _ _ _ h (last_put _ _) h0
     ·obtain rfl:=qI h
      exact fun hl _=>hl
    ·obtain rfl:=qI h
     exact fun hl _=>hl
   | args acc=>trivial
  ·cases h
theorem last_expr {ts:List Tok} {f:Nat} {σ τ:RS} {v:Int} {l:List Int} (h:runE ts f .expr σ=some (v,l,τ)) (h0:τ.code=0):v=((τ.exprs.length-1:Nat):Int)∧0<τ.exprs.length:=by
 obtain⟨h1,h2⟩:v=(τ.exprs.length:Int)-1∧0<τ.exprs.length:=last_all ts f .expr σ _ h h0
 exact⟨by omega,h2⟩
end Go.Proofs.YtpfmlfcaadnnpaaDoor
namespace Go.Proofs.YtpfmlfcaadnnpaaDoor
open Go.RowKit
def litLen:Value→Nat | .int _ n=>n.toNat | _=>0
def Ix (t sz:Nat) (s:Value) (b off:Nat) (j:Nat):Prop:=∀W,(Instr.indexAt t s (.int .i64 (j:Int))).run prog W=.ok (.pointer (some ⟨b,off+j*sz,none⟩)) W
theorem ix_exs {o:Option Addr} {n cap b off:Nat} (h:0<n→o=some ⟨b,off,none⟩) {j:Nat} (hj:j<n) (hn:n≤9223372036854775807):Ix 24 9 (.slice o n cap) b off j:=by
 intro W
 rw[h (by omega)]
 have h1:(j:Int)<(n:Int):=by omega
 have h2:(j:Int)≤9223372036854775807:=by omega
 go_simp
theorem manyOf_out {k:Int} (h:¬(1≤k∧k≤21)):manyOf k=0:=by
 unfold manyOf;rw[if_neg (by omega),if_neg (by omega),if_neg (by omega)]
theorem manyOf_le (k:Int):manyOf k≤3:=by unfold manyOf;(repeat' split) <;> omega
def manyR (k:Int):Int:=if k=19 then -1 else(manyOf k:Int)
theorem many_any (k:Int) (w:World):Calls prog 24 #[.int .i64 k] w fun e w'=>e=.returned (.int .i64 (manyR k))∧w=w':=by
 by_cases h:1≤k∧k≤21
 ·have h2:k=1∨k=2∨k=3∨k=4∨k=5∨k=6∨k=7∨k=8∨k=9∨k=10∨k=11∨k=12∨k=13∨k=14∨k=15∨k=16∨k=17∨k=18∨k=19∨k=20∨k=21:=by omega
  clear h
  rcases h2 with rfl | rfl | rfl | rfl | rfl | rfl | rfl | rfl | rfl | rfl | rfl | rfl | rfl | rfl | rfl | rfl | rfl | rfl | rfl | rfl | rfl
  all_goals
   go_enter Tryd.func24,Tryd.ntmps24
   go_wp2_with fail
   go_ret
   exact⟨rfl,rfl⟩
 ·have hr:(manyR k)=0:=by unfold manyR;rw[if_neg (by omega),manyOf_out h];rfl
  have e4:(k ==4)=false:=beq_false_of_ne (by omega)
  have e5:(k ==5)=false:=beq_false_of_ne (by omega)
  have e16:(k ==16)=false:=beq_false_of_ne (by omega)
  have e21:(k ==21)=false:=beq_false_of_ne (by omega)
  have e6:(k ==6)=false:=beq_false_of_ne (by omega)
  have e7:(k ==7)=false:=beq_false_of_ne (by omega)
  have e8:(k ==8)=false:=beq_false_of_ne (by omega)
  have e9:(k ==9)=false:=beq_false_of_ne (by omega)
  have e10:(k ==10)=false:=beq_false_of_ne (by omega)
  have e11:(k ==11)=false:=beq_false_of_ne (by omega)
  have e12:(k ==12)=false:=beq_false_of_ne (by omega)
  have e13:(k ==13)=false:=beq_false_of_ne (by omega)
  have e14:(k ==14)=false:=beq_false_of_ne (by omega)
  have e17:(k ==17)=false:=beq_false_of_ne (by omega)
  have e18:(k ==18)=false:=beq_false_of_ne (by omega)
  have e15:(k ==15)=false:=beq_false_of_ne (by omega)
  have e19:(k ==19)=false:=beq_false_of_ne (by omega)
  rw[hr]
  clear h hr
  go_enter Tryd.func24,Tryd.ntmps24
  go_wp2_with fail
  go_ret
  exact⟨rfl,rfl⟩
end Go.Proofs.YtpfmlfcaadnnpaaDoor
namespace Go.Proofs.YtpfmlfcaadnnpaaDoor
open Go.RowKit Go.Shelf
attribute [local go_sem] Oper.semAt_some
def exCells (x:Ex) (s:Value):Array Value:=#[.int .i64 x.kind,.int .i64 x.a,.int .i64 x.b,.int .i64 x.c,.string x.name,.string x.state,.int .i64 x.v,s,.int .i64 x.pos]
theorem partsE_19 {x:Ex} (h:x.kind=19):partsE x=x.args:=by unfold partsE;rw[if_pos h]
theorem partsE_abc {x:Ex} (h:¬x.kind=19):partsE x=[x.a,x.b,x.c].take (manyOf x.kind):=by unfold partsE;rw[if_neg h]
theorem partsE_len {x:Ex} (h:¬x.kind=19):(partsE x).length=manyOf x.kind:=by
 rw[partsE_abc h,List.length_take];have:=manyOf_le x.kind;simp;omega
end Go.Proofs.YtpfmlfcaadnnpaaDoor
namespace Go.Proofs.YtpfmlfcaadnnpaaDoor
open Go.RowKit Lx
def AO (σ:RS):Prop:=∀x ∈ σ.exprs,x.args.length≤40000
theorem AO.of {σ τ:RS} (h:AO σ) (e:τ.exprs=σ.exprs):AO τ:=by unfold AO;rw[e];exact h
theorem ao_want {ts:List Tok} {s:List UInt8} {σ:RS} (h:AO σ):AO (wantS ts s σ):=h.of (cwant_exprs ts s σ)
theorem ao_name {ts:List Tok} {σ:RS} (h:AO σ):AO (nameS ts σ):=h.of (by unfold nameS failS;split <;> (try split) <;> rfl)
theorem ao_step {σ:RS} (h:AO σ):AO (stepS σ):=h.of rfl
theorem ao_leave {σ:RS} (h:AO σ):AO (leaveS σ):=h.of rfl
theorem ao_enter {ts:List Tok} {σ:RS} (h:AO σ):AO (enterS ts σ):=h.of (by unfold enterS failS;dsimp only;split <;> (try split) <;> rfl)
theorem ao_put {x:Ex} {σ:RS} (h:AO σ) (hx:x.args.length≤40000):AO (putS x σ):=fun y hy=>by
 rcases List.mem_append.1 hy with hy | hy
 ·exact h y hy
 ·rw[List.mem_singleton.1 hy];exact hx
def ArgOk (j:Job) (R:Int×List Int×RS):Prop:=match j with
 | .args _=>R.2.1.length≤40000
 | _=>True
theorem args_all (ts:List Tok):∀(f:Nat) (j:Job) (σ:RS) (R:Int×List Int×RS),runE ts f j σ=some R→AO σ→AO R.2.2∧ArgOk j R:=by
 intro f
 induction f with
 | zero=>intro j σ R h;cases h
 | succ f ih =>
  intro j σ R h hs
  simp only[runE] at h
  split at h
  ·cases j with
   | expr =>
    refine⟨?_,trivial⟩
    try dsimp only at h
    unfold exprG at h
    try dsimp only at h
    have e:=ao_enter (ts:=ts) hs
    split at h
    ·split at h
     ·obtain⟨a,h1,h⟩:=bind_some' h
      obtain⟨b,h2,h⟩:=bind_some' h
      obtain⟨c,h3,h⟩:=bind_some' h
      obtain⟨_,h⟩:=sputA_some h
      obtain rfl:=qI h
      exact ao_leave (ao_put (ih _ _ _ h3 (ao_want (ih _ _ _ h2 (ao_want (ih _ _ _ h1 (ao_step e)).1)).1)).1 (Nat.zero_le _))
     ·obtain⟨a,h1,h⟩:=bind_some' h
      try dsimp only at h
      split at h
      ·obtain⟨b,h2,h⟩:=bind_some' h
       obtain⟨_,h⟩:=sputA_some h
       obtain rfl:=qI h
       exact ao_leave (ao_put (ih _ _ _ h2 (ao_step (ih _ _ _ h1 e).1)).1 (Nat.zero_le _))
      ·split at h
       ·obtain⟨b,h2,h⟩:=bind_some' h
        obtain⟨_,h⟩:=sputA_some h
        obtain rfl:=qI h
        exact ao_leave (ao_put (ih _ _ _ h2 (ao_step (ih _ _ _ h1 e).1)).1 (Nat.zero_le _))
       ·split at h
        ·obtain rfl:=qI h
         exact ao_leave (ih _ _ _ h1 e).1
        ·cases h
    ·obtain rfl:=qI h
     exact ao_leave e
   | pre =>
    refine⟨?_,trivial⟩
    try dsimp only at h
    unfold preG at h
    try dsimp only at h
    have e:=ao_enter (ts:=ts) hs
    split at h
    ·split at h
     ·obtain⟨a,h1,h⟩:=bind_some' h
      split at h
      ·obtain rfl:=qI h
       exact ao_leave (ih _ _ _ h1 e).1
      ·cases h
     ·obtain⟨a,h1,h⟩:=bind_some' h
      obtain⟨_,h⟩:=sputA_some h
      obtain rfl:=qI h
      exact ao_leave (ao_put (ih _ _ _ h1 (ao_step e)).1 (Nat.zero_le _))
    ·obtain rfl:=qI h
     exact ao_leave e
   | atom =>
    refine⟨?_,trivial⟩
    try dsimp only at h
    unfold atomG at h
    try dsimp only at h
    split at h
    ·obtain⟨_,h⟩:=sputA_some h
     obtain rfl:=qI h
     exact ao_put (ao_step hs) (Nat.zero_le _)
    ·split at h
     ·obtain⟨_,h⟩:=sputA_some h
      obtain rfl:=qI h
      exact ao_put (ao_step hs) (Nat.zero_le _)
     ·split at h
      ·obtain⟨_,h⟩:=sputA_some h
       obtain rfl:=qI h
       exact ao_put (ao_step hs) (Nat.zero_le _)
      ·split at h
       ·split at h
        ·obtain⟨_,h⟩:=sputA_some h
         obtain rfl:=qI h
         exact ao_put (ao_name (ao_step (ao_step hs))) (Nat.zero_le _)
        ·split at h
         ·split at h
          ·obtain⟨_,h⟩:=sputA_some h
           obtain rfl:=qI h
           exact ao_put (ao_step (ao_step (ao_step hs))) (Nat.zero_le _)
          ·obtain⟨a,h1,h⟩:=bind_some' h
           obtain⟨b,h2,h⟩:=bind_some' h
           obtain⟨_,h⟩:=sputA_some h
           obtain rfl:=qI h
           have hb:=ih _ _ _ h2 (ih _ _ _ h1 (ao_step (ao_step hs))).1
           exact ao_put (ao_want hb.1) hb.2
         ·obtain⟨_,h⟩:=sputA_some h
          obtain rfl:=qI h
          exact ao_put (ao_step hs) (Nat.zero_le _)
       ·obtain⟨a,h1,h⟩:=bind_some' h
        obtain rfl:=qI h
        exact ao_want (ih _ _ _ h1 (ao_want hs)).1
   | bin least =>
    refine⟨?_,trivial⟩
    try dsimp only at h
    unfold binG at h
    split at h
    ·exact(ih _ _ _ h hs).1
    ·obtain⟨a,h1,h⟩:=bind_some' h
     exact(ih _ _ _ h (ih _ _ _ h1 hs).1).1
   | loop least a =>
    refine⟨?_,trivial⟩
    try dsimp only at h
    unfold loopG at h
    split at h
    ·split at h
     ·obtain⟨b,h1,h⟩:=bind_some' h
      obtain⟨_,h⟩:=sputA_some h
      have hp:=ao_put (x:={ ex0 with kind:=(levelS ts σ).2,a:=a,b:=b.1,pos:=((tokL ts σ.at_).at_:Int) }) (ih _ _ _ h1 (ao_step hs)).1 (Nat.zero_le _)
      split at h
      ·obtain rfl:=qI h
       exact hp
      ·exact(ih _ _ _ h hp).1
     ·obtain rfl:=qI h
      exact hs
    ·obtain rfl:=qI h
     exact hs
   | args acc =>
    try dsimp only at h
    unfold argsG at h
    split at h
    ·rename_i hl
     split at h
     ·obtain⟨a,h1,h⟩:=bind_some' h
      have q:=ih _ _ _ h (ih _ _ _ h1 (ao_step hs)).1
      exact⟨q.1,q.2⟩
     ·obtain rfl:=qI h
      exact⟨hs,hl⟩
    ·cases h
  ·cases h
theorem parts_ao {σ:RS} (h:AO σ):∀x ∈ σ.exprs,(partsE x).length≤40000:=fun x hx=>by
 by_cases h19:x.kind=19
 ·rw[partsE_19 h19];exact h x hx
 ·rw[partsE_len h19];have:=manyOf_le x.kind;omega
end Go.Proofs.YtpfmlfcaadnnpaaDoor
namespace Go.Proofs.YtpfmlfcaadnnpaaDoor
open Lx
theorem exok_parts {k a b c p v:Int} {n:Nat} (hn:n≤30000) (hk:1≤k∧k≤21) (ha:0≤a∧a≤n) (hb:0≤b∧b≤n) (hc:0≤c∧c≤n) (hv:0≤v∧v≤9223372036854775807) {nm st:ByteArray} (hnm:nm.size≤20000) (hst:st.size≤20000) {l:List Int} (hl:l.length≤30000) (hla:∀x ∈ l,0≤x∧x<(n:Int)):ExOk ⟨k,a,b,c,nm,st,v,l,p⟩:=by
 refine⟨?_,?_,?_,?_,?_,?_,?_,?_,?_⟩
 ·unfold i64ok;dsimp only;omega
 ·unfold i64ok;dsimp only;omega
 ·unfold i64ok;dsimp only;omega
 ·unfold i64ok;dsimp only;omega
 ·unfold i64ok;dsimp only;omega
 ·unfold reachN;dsimp only;omega
 ·unfold reachN;dsimp only;omega
 ·unfold reachN;dsimp only;omega
 ·intro x hx;have:=hla x hx;unfold i64ok;omega
theorem zz (n:Nat):(0:Int)≤0∧(0:Int)≤(n:Int):=by omega
theorem zv:(0:Int)≤0∧(0:Int)≤9223372036854775807:=by omega
theorem sz0:(⟨#[]⟩:ByteArray).size=0:=rfl
theorem good1 {k a p:Int} {n:Nat} (hn:n≤30000) (hk:k=4∨k=5∨k=16∨k=21) (ha:0≤a∧a<(n:Int)):GoodX { ex0 with kind:=k,a:=a,pos:=p } n:=by
 refine⟨?_,exok_parts hn (by first | omega | exact zz _ | exact zv) (by first | omega | exact zz _ | exact zv) (by first | omega | exact zz _ | exact zv) (by first | omega | exact zz _ | exact zv) (by first | omega | exact zz _ | exact zv) (by decide) (by decide) (by decide) (fun x hx=>by cases hx)⟩
 rcases hk with rfl | rfl | rfl | rfl <;> simp[mayE,partsE,manyOf,ex0,namedK,mostV,ha,sz0]
theorem good2 {k a b p:Int} {n:Nat} (hn:n≤30000) (hk:(6≤k∧k≤14)∨k=17∨k=18) (ha:0≤a∧a<(n:Int)) (hb:0≤b∧b<(n:Int)):GoodX { ex0 with kind:=k,a:=a,b:=b,pos:=p } n:=by
 refine⟨?_,exok_parts hn (by first | omega | exact zz _ | exact zv) (by first | omega | exact zz _ | exact zv) (by first | omega | exact zz _ | exact zv) (by first | omega | exact zz _ | exact zv) (by first | omega | exact zz _ | exact zv) (by decide) (by decide) (by decide) (fun x hx=>by cases hx)⟩
 obtain rfl | rfl | rfl | rfl | rfl | rfl | rfl | rfl | rfl | rfl | rfl:k=6∨k=7∨k=8∨k=9∨k=10∨k=11∨k=12∨k=13∨k=14∨k=17∨k=18:=by omega
 all_goals simp[mayE,partsE,manyOf,ex0,namedK,mostV,ha,hb,sz0]
theorem good3 {a b c p:Int} {n:Nat} (hn:n≤30000) (ha:0≤a∧a<(n:Int)) (hb:0≤b∧b<(n:Int)) (hc:0≤c∧c<(n:Int)):GoodX { ex0 with kind:=15,a:=a,b:=b,c:=c,pos:=p } n:=by
 refine⟨?_,exok_parts hn (by first | omega | exact zz _ | exact zv) (by first | omega | exact zz _ | exact zv) (by first | omega | exact zz _ | exact zv) (by first | omega | exact zz _ | exact zv) (by first | omega | exact zz _ | exact zv) (by decide) (by decide) (by decide) (fun x hx=>by cases hx)⟩
 simp[mayE,partsE,manyOf,ex0,namedK,mostV,ha,hb,hc,sz0]
theorem goodN {v p:Int} {n:Nat} (hn:n≤30000) (hv:0≤v∧v≤9223372036854775807):GoodX { ex0 with kind:=1,v:=v,pos:=p } n:=by
 refine⟨?_,exok_parts hn (by first | omega | exact zz _ | exact zv) (by first | omega | exact zz _ | exact zv) (by first | omega | exact zz _ | exact zv) (by first | omega | exact zz _ | exact zv) hv (by decide) (by decide) (by decide) (fun x hx=>by cases hx)⟩
 simp[mayE,partsE,manyOf,ex0,namedK,mostV,hv,sz0]
theorem goodT {p:Int} {n:Nat} (hn:n≤30000):GoodX { ex0 with kind:=2,v:=1,pos:=p } n:=by
 refine⟨?_,exok_parts hn (by first | omega | exact zz _ | exact zv) (by first | omega | exact zz _ | exact zv) (by first | omega | exact zz _ | exact zv) (by first | omega | exact zz _ | exact zv) (by first | omega | exact zz _ | exact zv) (by decide) (by decide) (by decide) (fun x hx=>by cases hx)⟩
 simp[mayE,partsE,manyOf,ex0,namedK,mostV,sz0]
theorem goodF {p:Int} {n:Nat} (hn:n≤30000):GoodX { ex0 with kind:=2,pos:=p } n:=by
 refine⟨?_,exok_parts hn (by first | omega | exact zz _ | exact zv) (by first | omega | exact zz _ | exact zv) (by first | omega | exact zz _ | exact zv) (by first | omega | exact zz _ | exact zv) (by first | omega | exact zz _ | exact zv) (by decide) (by decide) (by decide) (fun x hx=>by cases hx)⟩
 simp[mayE,partsE,manyOf,ex0,namedK,mostV,sz0]
theorem str_sz (l:List UInt8):(str l).size=l.length:=by simp[str,ByteArray.size]
theorem good_nm {l:List UInt8} {p:Int} {n:Nat} (hn:n≤30000) (h0:l≠[]) (h1:l.length≤20000):GoodX { ex0 with kind:=3,name:=str l,pos:=p } n:=by
 have hz:(str l).size≠0:=by rw[str_sz];exact fun h=>h0 (List.length_eq_zero_iff.1 h)
 refine⟨?_,exok_parts hn (by first | omega | exact zz _ | exact zv) (by first | omega | exact zz _ | exact zv) (by first | omega | exact zz _ | exact zv) (by first | omega | exact zz _ | exact zv) (by first | omega | exact zz _ | exact zv) (by rw[str_sz];exact h1) (by decide) (by decide) (fun x hx=>by cases hx)⟩
 simp[mayE,partsE,manyOf,ex0,namedK,mostV,sz0,hz]
theorem good_is {l m:List UInt8} {p:Int} {n:Nat} (hn:n≤30000) (h0:l≠[]) (h1:l.length≤20000) (h2:m≠[]) (h3:m.length≤20000):GoodX { ex0 with kind:=20,name:=str l,state:=str m,pos:=p } n:=by
 have hz:(str l).size≠0:=by rw[str_sz];exact fun h=>h0 (List.length_eq_zero_iff.1 h)
 have hz2:(str m).size≠0:=by rw[str_sz];exact fun h=>h2 (List.length_eq_zero_iff.1 h)
 refine⟨?_,exok_parts hn (by first | omega | exact zz _ | exact zv) (by first | omega | exact zz _ | exact zv) (by first | omega | exact zz _ | exact zv) (by first | omega | exact zz _ | exact zv) (by first | omega | exact zz _ | exact zv) (by rw[str_sz];exact h1) (by rw[str_sz];exact h3) (by decide) (fun x hx=>by cases hx)⟩
 simp[mayE,partsE,manyOf,ex0,namedK,mostV,hz,hz2]
theorem good_call {l:List UInt8} {al:List Int} {p:Int} {n:Nat} (hn:n≤30000) (h0:l≠[]) (h1:l.length≤20000) (ha:al.length≤30000) (hv:∀x ∈ al,0≤x∧x<(n:Int)):GoodX { ex0 with kind:=19,name:=str l,args:=al,pos:=p } n:=by
 have hz:(str l).size≠0:=by rw[str_sz];exact fun h=>h0 (List.length_eq_zero_iff.1 h)
 refine⟨?_,exok_parts hn (by first | omega | exact zz _ | exact zv) (by first | omega | exact zz _ | exact zv) (by first | omega | exact zz _ | exact zv) (by first | omega | exact zz _ | exact zv) (by first | omega | exact zz _ | exact zv) (by rw[str_sz];exact h1) (by decide) ha hv⟩
 simp only[mayE,partsE,manyOf,ex0,namedK,mostV]
 simp[hz,sz0]
 exact fun x hx=>hv x hx
end Go.Proofs.YtpfmlfcaadnnpaaDoor
