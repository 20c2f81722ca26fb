import Derived.Test.YtlbhlncipajapaaGreatDoorPt30
set_option maxHeartbeats 16000000
set_option maxRecDepth 100000
set_option linter.unusedVariables false
open Go.Proofs.Tryz(prog)
namespace Go.Proofs.YtlbhlncipajapaaGreatDoor
open Go.RowKit Lx
theorem parse_fn (b g cap:Nat) (ts:List Tok) (f N:Nat) (σ:RS) (hc:σ.code=0) (R:List De×RS) (hr:declsG ts f N [] σ=some R) (W:World) (h:Hid (Cd W b g cap (.slice none 0 0) ts nox σ)) :
  Calls prog 16 #[.pointer (some ⟨b,0,none⟩)] W fun r Y=>CpgRet b g cap ts W R.1 R.2 r Y:=by
 have C:=Hd (program_any b g cap ts f N σ hc R hr W h)
 clear hr hc
 go_enter Tryz.func16,Tryz.ntmps16
 go_wp2_with (go_at_call 17;(with_reducible refine C.out.mono ?_);rintro e w2 hh;rcases hh with ⟨z,z5,rfl,hg⟩ | ⟨z,rfl,hk⟩;rotate_left;exact⟨rfl,.inr ⟨z,rfl,hk⟩⟩;have HG:=Hd hg;clear hg)
 go_end0
 exact .inl ⟨z,z5,rfl,HG.out⟩
theorem readP_bad (l:List UInt8) (ts:List Tok) (ht:lexT l ts none) (hl:l.length≤20000) (f N:Nat) (ds:List De) (τ:RS) (hr:declsG (ts++[endT l.length]) f N [] rs0=some (ds,τ)) (hz:τ.code≠0) (W:World) (hS:Signs W) :
  Calls prog 15 #[.string (str l),.func (.func 16) #[] #[]] W fun r Y=>r=.returned (.tuple #[.agg #[.slice none 0 0,.slice none 0 0],.agg #[.int .i64 τ.code,.int .i64 τ.pos]])∧Below W.heap.size W Y:=by
 obtain⟨us,hus⟩:∃us,us=ts++[endT l.length]:=⟨_,rfl⟩
 have hlen:us.length=ts.length+1:=by rw[hus,List.length_append];rfl
 obtain⟨n,hn⟩:∃n,n=us.length:=⟨_,rfl⟩
 have hts:ts.length≤20000:=by have hcnt:=toks_count ht;have g1:=gapTo_le false (Nat.zero_le l.length);omega
 have HE:Hid (EndOk us∧TxOk us∧us.length≤40000):=Hd ⟨by rw[hus];exact end_ok ht _,by rw[hus];exact lexed_tx ht _,by omega⟩
 obtain⟨W2,hW2⟩:∃W2,W2=(W.alloc (.cells #[.slice none 0 0,.slice none 0 0] 26)).alloc (.cells #[.int .i64 0,.int .i64 0] 29):=⟨_,rfl⟩
 have hb2:Below W.heap.size W W2:=by rw[hW2];exact((qB _ _).alloc (qL _) _).alloc (by simp) _
 have hs2:W2.heap.size=W.heap.size+2:=by rw[hW2];simp
 have LX:Hid (Calls prog 31 #[.string (str l)] W2 fun r Y=>∃g cap,r=.returned (.tuple #[.slice (some ⟨g,0,none⟩) n cap,.agg #[.int .i64 0,.int .i64 0]])∧Hid (Below W2.heap.size W2 Y∧RowAt Y g us∧W2.heap.size≤g∧n≤cap)):=Hd ((lex_any l ts none ht W2 (hS.below hb2)).mono fun e w' ⟨v,c,f',he,hb,h⟩=>by
  rcases h with ⟨h1,_⟩ | ⟨_,_,rfl,rfl,h2⟩ | ⟨_,g,h2,_⟩
  ·omega
  ·obtain⟨g',cap',rfl⟩:=ownsRow_succ h2
   have hlt:=h2.lt g' rfl
   rw[←hus] at h2
   refine⟨g',cap',by rw[he,hn,hlen],Hd ⟨hb,⟨hlt.2,fun i t hi=>?_⟩,hlt.1,by rw[hn,hlen];exact capL h2⟩⟩
   obtain⟨h1,h3,h4,h5⟩:=tokCells_at hi
   exact⟨row_cells h2 _ _ h1,row_cells h2 _ _ h3,row_cells h2 _ _ h4,row_cells h2 _ _ h5⟩
  ·cases h2)
 have EX:Hid (∀w b g cap,Hid (Cd w b g cap (.slice none 0 0) us (fun _=>False) rs0)→Calls prog 16 #[.pointer (some ⟨b,0,none⟩)] w fun r Y=>CdBad b (fun _=>False) w τ.code τ.pos r Y):=Hd fun w b g cap h=>(parse_fn b g cap us f N rs0 rfl (ds,τ) (by rw[hus];exact hr) w h).mono fun r Y hh=>by
  rcases hh with ⟨h0,_⟩ | ⟨_,h1,h2⟩
  ·exact absurd h0 hz
  ·exact⟨h1,Hd h2⟩
 have HA:Hid (W2.heap[W.heap.size+1]?=some (.cells #[.int .i64 0,.int .i64 0] 29 (0,0))):=Hd (by rw[hW2];simpa using heap_alloc_new (W.alloc (.cells #[.slice none 0 0,.slice none 0 0] 26)) (.cells #[.int .i64 0,.int .i64 0] 29))
 have HP:Hid (W2.heap[W.heap.size]?=some (.cells #[.slice none 0 0,.slice none 0 0] 26 (0,0))):=Hd (by
  rw[hW2,((qB _ _).alloc (qL _) _:Below (W.alloc (.cells #[.slice none 0 0,.slice none 0 0] 26)).heap.size _ _).block _ (by simp)]
  exact heap_alloc_new _ _)
 have HB2:=Hd hb2
 have MF:=runF
 clear hr hlen hus hts hS hb2 hz ht
 have HN:=Hd hn
 clear hn
 go_enter_defers Tryz.func15,Tryz.ntmps15
 go_wp2_with (first
  | (go_at_call 31;rw[←hW2];clear hW2;(with_reducible refine LX.out.mono ?_);rintro e w3 ⟨g,cap,rfl,h3⟩;have HA3:=Hd ((h3.out.1.block _ (heap_lt HA.out)).trans HA.out);have d0:w3.cell? ⟨W.heap.size+1,0,none⟩=some (.int .i64 0):=(by simp[World.cell?,HA3.out]);have d1:w3.cell? ⟨W.heap.size+1,1,none⟩=some (.int .i64 0):=(by simp[World.cell?,HA3.out]);have z0:w3.frozen? ⟨W.heap.size+1,0,none⟩=false:=(by simp[World.frozen?,HA3.out]);have z1:w3.frozen? ⟨W.heap.size+1,1,none⟩=false:=(by simp[World.frozen?,HA3.out])))
 obtain⟨X,hX⟩:∃X,X=(w3.setCell ⟨W.heap.size+1,0,none⟩ (.int .i64 0)).setCell ⟨W.heap.size+1,1,none⟩ (.int .i64 0):=⟨_,rfl⟩
 have hxs:w3.heap.size=X.heap.size:=by rw[hX];simp
 have hbu:But (W.heap.size+1) w3 X:=by rw[hX];exact((But.refl _ _).set 0 _).set 1 _
 have hfx:X.heap[W.heap.size+1]?=some (.cells #[.int .i64 0,.int .i64 0] 29 (0,0)):=by rw[hX,set_blk (set_blk HA3.out 0 (.int .i64 0)) 1 (.int .i64 0)];rfl
 obtain⟨h31,h32,h33,h34⟩:=h3.out
 have hpx:X.heap[W.heap.size]?=some (.cells #[.slice none 0 0,.slice none 0 0] 26 (0,0)):=(hbu.block _ (by omega) (Nat.lt_of_lt_of_le (heap_lt HP.out) h31.size)).trans ((h31.block _ (heap_lt HP.out)).trans HP.out)
 have hrx:RowAt X g us:=row_low h32 (hbu.block g (by omega) h32.1)
 rw[←hX,hxs]
 obtain⟨Z,hZ⟩:∃Z,Z=X.alloc (.cells #[.slice (some ⟨g,0,none⟩) n cap,.slice none 0 0,.slice none 0 0,.int .i64 0] 78):=⟨_,rfl⟩
 have HZ:Hid (Cd Z X.heap.size g cap (.slice none 0 0) us (fun _=>False) rs0):=Hd (by
  obtain rfl:=HN.out
  rw[hZ];exact cd_new hrx HE.out.2.2 h34 HE.out.1 HE.out.2.1)
 have hbz:Below X.heap.size X Z:=by rw[hZ];exact(qB _ _).alloc (qL _) _
 have hfz:=(hbz.block _ (heap_lt hfx)).trans hfx
 have hpz:=(hbz.block _ (heap_lt hpx)).trans hpx
 have hx1:=heap_lt hfx
 rw[←hZ]
 refine(EX.out Z _ g cap HZ).mono ?_
 rintro e w5 ⟨rfl,hk5⟩
 dsimp only
 go_wp2_with fail
 have hf5:=hk5.out.keep _ _ hfz (by omega) (fun cs e=>by cases e)
 have hp5:=hk5.out.keep _ _ hpz (by omega) (fun cs e=>by cases e)
 refine leaves_cons (f:=32) (args:=#[.pointer (some ⟨W.heap.size+1,0,none⟩)]) (by simp) (by simp[go_sem]) ?_
 refine(catch_panicking (W.heap.size+1) τ.code τ.pos _ _ w5 hf5).mono ?_
 rintro e u' w6 ⟨rfl,rfl,hf6,hb6⟩
 have hp6:=(hb6.block _ (by omega) (heap_lt hp5)).trans hp5
 have f0:w6.cell? ⟨W.heap.size+1,0,none⟩=some (.int .i64 τ.code):=by simp[World.cell?,hf6]
 have f1:w6.cell? ⟨W.heap.size+1,1,none⟩=some (.int .i64 τ.pos):=by simp[World.cell?,hf6]
 have p0:w6.cell? ⟨W.heap.size,0,none⟩=some (.slice none 0 0):=by simp[World.cell?,hp6]
 have p1:w6.cell? ⟨W.heap.size,1,none⟩=some (.slice none 0 0):=by simp[World.cell?,hp6]
 have h32s:=h31.size
 have hfin:Below W.heap.size W w6:=below_chain HB2.out (by omega) h31 (by omega) hbu (by omega) hbz (by omega) hk5.out.rk hb6
 simp[Leaves,settle,results,Tryz.results15,go_sem,f0,f1,p0,p1,hfin]
theorem readP_ok (l:List UInt8) (ts:List Tok) (ht:lexT l ts none) (hl:l.length≤20000) (f N:Nat) (ds:List De) (τ:RS) (hr:declsG (ts++[endT l.length]) f N [] rs0=some (ds,τ)) (hz:τ.code=0) (h5:(tokL (ts++[endT l.length]) τ.at_).kind=5) (W:World) (hS:Signs W) :
  Calls prog 15 #[.string (str l),.func (.func 16) #[] #[]] W fun r Y=>∃od cd o c,r=.returned (.tuple #[.agg #[.slice od ds.length cd,.slice o τ.exprs.length c],.agg #[.int .i64 0,.int .i64 0]])∧Below W.heap.size W Y∧DesOwn Y W.heap.size (.slice od ds.length cd) ds∧ExsOwn Y W.heap.size (fun _=>False) (.slice o τ.exprs.length c) τ.exprs:=by
 obtain⟨L,hL⟩:∃L,L=τ.exprs.length:=⟨_,rfl⟩
 obtain⟨DN,hDN⟩:∃DN,DN=ds.length:=⟨_,rfl⟩
 rw[←hL,←hDN]
 obtain⟨us,hus⟩:∃us,us=ts++[endT l.length]:=⟨_,rfl⟩
 have hlen:us.length=ts.length+1:=by rw[hus,List.length_append];rfl
 obtain⟨n,hn⟩:∃n,n=us.length:=⟨_,rfl⟩
 have hts:ts.length≤20000:=by have hcnt:=toks_count ht;have g1:=gapTo_le false (Nat.zero_le l.length);omega
 have HE:Hid (EndOk us∧TxOk us∧us.length≤40000):=Hd ⟨by rw[hus];exact end_ok ht _,by rw[hus];exact lexed_tx ht _,by omega⟩
 obtain⟨W2,hW2⟩:∃W2,W2=(W.alloc (.cells #[.slice none 0 0,.slice none 0 0] 26)).alloc (.cells #[.int .i64 0,.int .i64 0] 29):=⟨_,rfl⟩
 have hb2:Below W.heap.size W W2:=by rw[hW2];exact((qB _ _).alloc (qL _) _).alloc (by simp) _
 have hs2:W2.heap.size=W.heap.size+2:=by rw[hW2];simp
 have LX:Hid (Calls prog 31 #[.string (str l)] W2 fun r Y=>∃g cap,r=.returned (.tuple #[.slice (some ⟨g,0,none⟩) n cap,.agg #[.int .i64 0,.int .i64 0]])∧Hid (Below W2.heap.size W2 Y∧RowAt Y g us∧W2.heap.size≤g∧n≤cap)):=Hd ((lex_any l ts none ht W2 (hS.below hb2)).mono fun e w' ⟨v,c,f',he,hb,h⟩=>by
  rcases h with ⟨h1,_⟩ | ⟨_,_,rfl,rfl,h2⟩ | ⟨_,g,h2,_⟩
  ·omega
  ·obtain⟨g',cap',rfl⟩:=ownsRow_succ h2
   have hlt:=h2.lt g' rfl
   rw[←hus] at h2
   refine⟨g',cap',by rw[he,hn,hlen],Hd ⟨hb,⟨hlt.2,fun i t hi=>?_⟩,hlt.1,by rw[hn,hlen];exact capL h2⟩⟩
   obtain⟨h1,h3,h4,h5⟩:=tokCells_at hi
   exact⟨row_cells h2 _ _ h1,row_cells h2 _ _ h3,row_cells h2 _ _ h4,row_cells h2 _ _ h5⟩
  ·cases h2)
 have EX:Hid (∀w b g cap,Hid (Cd w b g cap (.slice none 0 0) us (fun _=>False) rs0)→Calls prog 16 #[.pointer (some ⟨b,0,none⟩)] w fun r Y=>∃od cd,r=.returned (.tuple #[])∧Hid (Cd Y b g cap (.slice od DN cd) us (fun _=>False) τ)∧Hid (RX b (fun _=>False) w Y)∧Hid (DesOwn Y w.heap.size (.slice od DN cd) ds)):=Hd fun w b g cap h=>(parse_fn b g cap us f N rs0 rfl (ds,τ) (by rw[hus];exact hr) w h).mono fun r Y hh=>by
  rcases hh with ⟨_,_,h1,dv,h2⟩ | ⟨h0,_⟩
  ·obtain⟨od,cd,rfl⟩:∃od cd,dv=.slice od DN cd:=by rw[hDN];obtain⟨q,_,h4,_⟩:=h2.des;exact own_form h4
   exact⟨od,cd,h1,Hd h2.cd,Hd h2.rx,Hd h2.des⟩
  ·exact absurd hz h0
 obtain⟨tv,htv⟩:∃tv,tv=tokV (tokL us τ.at_):=⟨_,rfl⟩
 have WE:Hid (∀w b g cap od cd,Hid (Cd w b g cap (.slice od DN cd) us (fun _=>False) τ)→Calls prog 33 #[.pointer (some ⟨b,0,none⟩),.int .i64 5] w fun r Y=>r=.returned tv∧(∃s d o c,Hid (Y.heap[b]?=some (.cells #[s,.slice od DN cd,.slice o L c,.int .i64 d] 78 (0,0)))∧Hid (ExsOwn Y b (fun _=>False) (.slice o L c) τ.exprs))∧Hid (RX b (fun _=>False) w Y)):=Hd fun w b g cap od cd h=>(want_end b g cap _ us _ τ w h hz).mono fun r Y hh=>by
  rcases hh.2 with ⟨_,e5,s,d,o,c,e6,e7⟩ | ⟨e5,_⟩
  ·exact⟨by rw[htv];exact e5,⟨s,d,o,c,Hd (by rw[hL];exact e6),Hd (by rw[hL];exact e7)⟩,Hd hh.1⟩
  ·rw[hus] at e5;exact absurd h5 e5
 have HA:Hid (W2.heap[W.heap.size+1]?=some (.cells #[.int .i64 0,.int .i64 0] 29 (0,0))):=Hd (by rw[hW2];simpa using heap_alloc_new (W.alloc (.cells #[.slice none 0 0,.slice none 0 0] 26)) (.cells #[.int .i64 0,.int .i64 0] 29))
 have HP:Hid (W2.heap[W.heap.size]?=some (.cells #[.slice none 0 0,.slice none 0 0] 26 (0,0))):=Hd (by
  rw[hW2,((qB _ _).alloc (qL _) _:Below (W.alloc (.cells #[.slice none 0 0,.slice none 0 0] 26)).heap.size _ _).block _ (by simp)]
  exact heap_alloc_new _ _)
 have HB2:=Hd hb2
 have MF:=runF
 clear hr hlen hus hts hS hb2 hz ht h5 htv
 have HL:=Hd hL
 clear hL hDN
 have HN:=Hd hn
 clear hn
 go_enter_defers Tryz.func15,Tryz.ntmps15
 go_wp2_with (first
  | (go_at_call 31;rw[←hW2];clear hW2;(with_reducible refine LX.out.mono ?_);rintro e w3 ⟨g,cap,rfl,h3⟩;have HA3:=Hd ((h3.out.1.block _ (heap_lt HA.out)).trans HA.out);have d0:w3.cell? ⟨W.heap.size+1,0,none⟩=some (.int .i64 0):=(by simp[World.cell?,HA3.out]);have d1:w3.cell? ⟨W.heap.size+1,1,none⟩=some (.int .i64 0):=(by simp[World.cell?,HA3.out]);have z0:w3.frozen? ⟨W.heap.size+1,0,none⟩=false:=(by simp[World.frozen?,HA3.out]);have z1:w3.frozen? ⟨W.heap.size+1,1,none⟩=false:=(by simp[World.frozen?,HA3.out])))
 obtain⟨X,hX⟩:∃X,X=(w3.setCell ⟨W.heap.size+1,0,none⟩ (.int .i64 0)).setCell ⟨W.heap.size+1,1,none⟩ (.int .i64 0):=⟨_,rfl⟩
 have hxs:w3.heap.size=X.heap.size:=by rw[hX];simp
 have hbu:But (W.heap.size+1) w3 X:=by rw[hX];exact((But.refl _ _).set 0 _).set 1 _
 have hfx:X.heap[W.heap.size+1]?=some (.cells #[.int .i64 0,.int .i64 0] 29 (0,0)):=by rw[hX,set_blk (set_blk HA3.out 0 (.int .i64 0)) 1 (.int .i64 0)];rfl
 obtain⟨h31,h32,h33,h34⟩:=h3.out
 have hpx:X.heap[W.heap.size]?=some (.cells #[.slice none 0 0,.slice none 0 0] 26 (0,0)):=(hbu.block _ (by omega) (Nat.lt_of_lt_of_le (heap_lt HP.out) h31.size)).trans ((h31.block _ (heap_lt HP.out)).trans HP.out)
 have hrx:RowAt X g us:=row_low h32 (hbu.block g (by omega) h32.1)
 rw[←hX,hxs]
 obtain⟨Z,hZ⟩:∃Z,Z=X.alloc (.cells #[.slice (some ⟨g,0,none⟩) n cap,.slice none 0 0,.slice none 0 0,.int .i64 0] 78):=⟨_,rfl⟩
 have HZ:Hid (Cd Z X.heap.size g cap (.slice none 0 0) us (fun _=>False) rs0):=Hd (by
  obtain rfl:=HN.out
  rw[hZ];exact cd_new hrx HE.out.2.2 h34 HE.out.1 HE.out.2.1)
 have hbz:Below X.heap.size X Z:=by rw[hZ];exact(qB _ _).alloc (qL _) _
 have hfz:=(hbz.block _ (heap_lt hfx)).trans hfx
 have hpz:=(hbz.block _ (heap_lt hpx)).trans hpx
 have hx1:=heap_lt hfx
 have hzs:Z.heap.size=X.heap.size+1:=by rw[hZ];simp
 rw[←hZ]
 refine(EX.out Z _ g cap HZ).mono ?_
 rintro e w4 ⟨od,cd,rfl,hr4,hk4,hd4⟩
 dsimp only
 clear hX hxs hZ
 go_wp2_with (go_at_call 33;(with_reducible refine(WE.out _ _ _ _ _ _ hr4).mono ?_);rintro e w5 ⟨rfl,⟨s,d,o,c,hb5,hx5⟩,hk4'⟩;have hk5:=Hd (hk4.out.trans hk4'.out);have hf5:=Hd (hk5.out.keep _ _ hfz (by omega) (fun cs e=>by cases e));have hp5:=Hd (hk5.out.keep _ _ hpz (by omega) (fun cs e=>by cases e));obtain⟨⟨b0,b1,b2,b3⟩,bf⟩:=four_of hb5.out;clear b0 b3 bf;have p0:w5.cell? ⟨W.heap.size,0,none⟩=some (.slice none 0 0):=(by simp[World.cell?,hp5.out]);have p1:w5.cell? ⟨W.heap.size,1,none⟩=some (.slice none 0 0):=(by simp[World.cell?,hp5.out]);have f0:w5.cell? ⟨W.heap.size+1,0,none⟩=some (.int .i64 0):=(by simp[World.cell?,hf5.out]);have f1:w5.cell? ⟨W.heap.size+1,1,none⟩=some (.int .i64 0):=(by simp[World.cell?,hf5.out]);have y0:w5.frozen? ⟨W.heap.size,0,none⟩=false:=(by simp[World.frozen?,hp5.out]);have y1:w5.frozen? ⟨W.heap.size,1,none⟩=false:=(by simp[World.frozen?,hp5.out]);have y2:w5.frozen? ⟨W.heap.size+1,0,none⟩=false:=(by simp[World.frozen?,hf5.out]);have y3:w5.frozen? ⟨W.heap.size+1,1,none⟩=false:=(by simp[World.frozen?,hf5.out]))
 obtain⟨V,hV⟩:∃V,V=(((w5.setCell ⟨W.heap.size,0,none⟩ (.slice od DN cd)).setCell ⟨W.heap.size,1,none⟩ (.slice o L c)).setCell ⟨W.heap.size+1,0,none⟩ (.int .i64 0)).setCell ⟨W.heap.size+1,1,none⟩ (.int .i64 0):=⟨_,rfl⟩
 obtain⟨V1,hV1⟩:∃V1,V1=(w5.setCell ⟨W.heap.size,0,none⟩ (.slice od DN cd)).setCell ⟨W.heap.size,1,none⟩ (.slice o L c):=⟨_,rfl⟩
 have n1:But W.heap.size w5 V1:=by rw[hV1];exact((But.refl _ _).set 0 _).set 1 _
 have n2:But (W.heap.size+1) V1 V:=by rw[hV,←hV1];exact((But.refl _ _).set 0 _).set 1 _
 have a1:V1.heap[W.heap.size]?=some (.cells #[.slice od DN cd,.slice o L c] 26 (0,0)):=by rw[hV1,set_blk (set_blk hp5.out 0 (.slice od DN cd)) 1 (.slice o L c)];rfl
 have a2:=(n2.block _ (by omega) (heap_lt a1)).trans a1
 have a3:V1.heap[W.heap.size+1]?=some (.cells #[.int .i64 0,.int .i64 0] 29 (0,0)):=(n1.block _ (by omega) (heap_lt hf5.out)).trans hf5.out
 have a4:V.heap[W.heap.size+1]?=some (.cells #[.int .i64 0,.int .i64 0] 29 (0,0)):=by rw[hV,←hV1,set_blk (set_blk a3 0 (.int .i64 0)) 1 (.int .i64 0)];rfl
 rw[←hV]
 clear hV hV1
 refine leaves_cons (f:=32) (args:=#[.pointer (some ⟨W.heap.size+1,0,none⟩)]) (by simp) (by simp[go_sem]) ?_
 refine(catch_idle (W.heap.size+1) V).mono ?_
 rintro e u' w6 ⟨rfl,rfl,hb6⟩
 have hp6:=(hb6.block _ (heap_lt a2)).trans a2
 have hf6:=(hb6.block _ (heap_lt a4)).trans a4
 have g0:w6.cell? ⟨W.heap.size+1,0,none⟩=some (.int .i64 0):=by simp[World.cell?,hf6]
 have g1:w6.cell? ⟨W.heap.size+1,1,none⟩=some (.int .i64 0):=by simp[World.cell?,hf6]
 have g2:w6.cell? ⟨W.heap.size,0,none⟩=some (.slice od DN cd):=by simp[World.cell?,hp6]
 have g3:w6.cell? ⟨W.heap.size,1,none⟩=some (.slice o L c):=by simp[World.cell?,hp6]
 have h32s:=h31.size
 have s1:=n1.size
 have s2:=n2.size
 have hw5:Below W.heap.size W w5:=below_chain HB2.out (by omega) h31 (by omega) hbu (by omega) hbz (by omega) hk5.out.rk (But.refl _ _)
 have hfin:Below W.heap.size W w6:=by
  have sw:=hw5.size
  refine⟨hb6.os.trans (n2.os.trans (n1.os.trans hw5.os)),hb6.tape.trans (n2.tape.trans (n1.tape.trans hw5.tape)),hb6.output.trans (n2.output.trans (n1.output.trans hw5.output)),by have:=hb6.size;omega,fun k hk=>?_⟩
  rw[hb6.block k (by omega),n2.block k (by omega) (by omega),n1.block k (by omega) (by omega),hw5.block k hk]
 have hown:ExsOwn w6 W.heap.size (fun _=>False) (.slice o L c) τ.exprs:=(hx5.out.same fun k h1 h2=>by
  rw[hb6.block k (by omega),n2.block k (by omega) (by omega),n1.block k (by omega) h2]).base (by omega)
 have hdes:DesOwn w6 W.heap.size (.slice od DN cd) ds:=((hd4.out.keep (by omega) hk4'.out.rk).same fun k h1 h2=>by
  rw[hb6.block k (by omega),n2.block k (by omega) (by omega),n1.block k (by omega) h2]).base (by omega)
 simp only[Leaves,settle]
 simp[results,Tryz.results15,go_sem,g0,g1,g2,g3]
 exact⟨od,cd,o,c,⟨⟨rfl,rfl⟩,rfl,rfl⟩,hfin,hdes,hown⟩
def ReadP (ds:List De) (es:List Ex) (cd f:Int) (W:World) (r:Ending) (Y:World):Prop :=
 ∃od c1 o c,r=.returned (.tuple #[.agg #[.slice od ds.length c1,.slice o es.length c],.agg #[.int .i64 cd,.int .i64 f]])∧Below W.heap.size W Y∧DesOwn Y W.heap.size (.slice od ds.length c1) ds∧ExsOwn Y W.heap.size (fun _=>False) (.slice o es.length c) es
theorem parse_call (s:ByteArray) (ds:List De) (es:List Ex) (cd f:Int) (W:World) (C:Hid (∀W2,Below W.heap.size W W2→Calls prog 15 #[.string s,.func (.func 16) #[] #[]] W2 fun r Y=>ReadP ds es cd f W2 r Y)) :
  Calls prog 8 #[.string s] W fun r Y=>ReadP ds es cd f W r Y:=by
 obtain⟨W2,hW2⟩:∃W2,W2=(W.alloc (.cells #[.slice none 0 0,.slice none 0 0] 26)).alloc (.cells #[.int .i64 0,.int .i64 0] 29):=⟨_,rfl⟩
 have hb2:Below W.heap.size W W2:=by rw[hW2];exact((qB _ _).alloc (qL _) _).alloc (by simp) _
 have hs2:W2.heap.size=W.heap.size+2:=by rw[hW2];simp
 have hP:W2.heap[W.heap.size]?=some (.cells #[.slice none 0 0,.slice none 0 0] 26 (0,0)):=by
  rw[hW2,heap_alloc_old _ _ (by simp)];exact heap_alloc_new W _
 have hF:W2.heap[W.heap.size+1]?=some (.cells #[.int .i64 0,.int .i64 0] 29 (0,0)):=by
  have:=heap_alloc_new (W.alloc (.cells #[.slice none 0 0,.slice none 0 0] 26)) (.cells #[.int .i64 0,.int .i64 0] 29)
  rw[World.size_alloc] at this
  rw[hW2];exact this
 obtain⟨L,hL⟩:∃L,L=es.length:=⟨_,rfl⟩
 obtain⟨D,hD⟩:∃D,D=ds.length:=⟨_,rfl⟩
 have C2:Hid (Calls prog 15 #[.string s,.func (.func 16) #[] #[]] W2 fun r Y=>∃od c1 o c,r=.returned (.tuple #[.agg #[.slice od D c1,.slice o L c],.agg #[.int .i64 cd,.int .i64 f]])∧Hid (Below W2.heap.size W2 Y∧DesOwn Y W2.heap.size (.slice od D c1) ds∧ExsOwn Y W2.heap.size (fun _=>False) (.slice o L c) es)):=Hd ((C.out W2 hb2).mono fun r Y ⟨od,c1,o,c,h1,h2,h3,h4⟩=>⟨od,c1,o,c,by rw[hL,hD];exact h1,Hd ⟨h2,by rw[hD];exact h3,by rw[hL];exact h4⟩⟩)
 have HL:=Hd (show _∧_ from⟨hL,hD⟩)
 have HB2:=Hd hb2
 have HPF:=Hd (show _∧_ from⟨hP,hF⟩)
 have HS2:=Hd hs2
 clear hb2 hs2 hP hF C hL hD
 go_enter Tryz.func8,Tryz.ntmps8
 go_wp2_with (go_at_call 15;rw[←hW2];clear hW2;(with_reducible refine C2.out.mono ?_);rintro e w3 ⟨od,c1,o,c,rfl,h3⟩;have hs3:=h3.out.1.size;have hPV:=(h3.out.1.block W.heap.size (by have:=HS2.out;omega)).trans HPF.out.1;have hFV:=(h3.out.1.block (W.heap.size+1) (by have:=HS2.out;omega)).trans HPF.out.2;have p0':w3.cell? ⟨W.heap.size,0,none⟩=some (.slice none 0 0):=(by simp[World.cell?,hPV]);have p1':w3.cell? ⟨W.heap.size,1,none⟩=some (.slice none 0 0):=(by simp[World.cell?,hPV]);have p2':w3.frozen? ⟨W.heap.size,0,none⟩=false:=(by simp[World.frozen?,hPV]);have p3':w3.frozen? ⟨W.heap.size,1,none⟩=false:=(by simp[World.frozen?,hPV]);have u0':w3.cell? ⟨W.heap.size+1,0,none⟩=some (.int .i64 0):=(by simp[World.cell?,hFV]);have u1':w3.cell? ⟨W.heap.size+1,1,none⟩=some (.int .i64 0):=(by simp[World.cell?,hFV]);have u2':w3.frozen? ⟨W.heap.size+1,0,none⟩=false:=(by simp[World.frozen?,hFV]);have u3':w3.frozen? ⟨W.heap.size+1,1,none⟩=false:=(by simp[World.frozen?,hFV]);have HV:=Hd (show _∧_ from⟨hPV,hFV⟩);clear hPV hFV)
 obtain⟨Y,hY⟩:∃Y,Y=(((w3.setCell ⟨W.heap.size,0,none⟩ (.slice od D c1)).setCell ⟨W.heap.size,1,none⟩ (.slice o L c)).setCell ⟨W.heap.size+1,0,none⟩ (.int .i64 cd)).setCell ⟨W.heap.size+1,1,none⟩ (.int .i64 f):=⟨_,rfl⟩
 rw[←hY]
 have k1:Y.heap[W.heap.size]?=some (.cells #[.slice od D c1,.slice o L c] 26 (0,0)):=by
  rw[hY,Below.heap_setCell _ _ _ _ (by simp),Below.heap_setCell _ _ _ _ (by simp),set_blk (set_blk HV.out.1 0 _) 1 _];rfl
 have k2:Y.heap[W.heap.size+1]?=some (.cells #[.int .i64 cd,.int .i64 f] 29 (0,0)):=by
  rw[hY,set_blk (set_blk (((Below.heap_setCell _ _ _ _ (by simp)).trans (Below.heap_setCell _ _ _ _ (by simp))).trans HV.out.2) 0 _) 1 _];rfl
 have hYk:∀k,W.heap.size+1<k→Y.heap[k]?=w3.heap[k]?:=fun k hk=>by
  rw[hY,Below.heap_setCell _ _ _ _ (by simp;omega),Below.heap_setCell _ _ _ _ (by simp;omega),Below.heap_setCell _ _ _ _ (by simp;omega),Below.heap_setCell _ _ _ _ (by simp;omega)]
 have r0:Y.cell? ⟨W.heap.size,0,none⟩=some (.slice od D c1):=by simp[World.cell?,k1]
 have r1:Y.cell? ⟨W.heap.size,1,none⟩=some (.slice o L c):=by simp[World.cell?,k1]
 have r2:Y.cell? ⟨W.heap.size+1,0,none⟩=some (.int .i64 cd):=by simp[World.cell?,k2]
 have r3:Y.cell? ⟨W.heap.size+1,1,none⟩=some (.int .i64 f):=by simp[World.cell?,k2]
 have hb3:Below W.heap.size W w3:=HB2.out.trans (h3.out.1.mono HB2.out.size)
 have hbY:Below W.heap.size W Y:=by
  rw[hY]
  exact(((hb3.setCell (p:=⟨W.heap.size,0,none⟩) (qL _) _).setCell (p:=⟨W.heap.size,1,none⟩) (qL _) _).setCell (p:=⟨W.heap.size+1,0,none⟩) (Nat.le_succ _) _).setCell (p:=⟨W.heap.size+1,1,none⟩) (Nat.le_succ _) _
 have hown:ExsOwn Y W.heap.size (fun _=>False) (.slice o L c) es:=(h3.out.2.2.same fun k hk hk2=>hYk k (by have:=HS2.out;omega)).base HB2.out.size
 have hdes:DesOwn Y W.heap.size (.slice od D c1) ds:=(h3.out.2.1.same fun k hk hk2=>hYk k (by have:=HS2.out;omega)).base HB2.out.size
 refine bodyPost_ret (v:=.tuple #[.agg #[.slice od D c1,.slice o L c],.agg #[.int .i64 cd,.int .i64 f]]) (by simp[results,Tryz.results8,go_sem,r0,r1,r2,r3]) rfl ?_
 exact⟨od,c1,o,c,by rw[←HL.out.1,←HL.out.2],hbY,by rw[←HL.out.2];exact hdes,by rw[←HL.out.1];exact hown⟩
theorem ao_kind {ts:List Tok} {σ:RS} (h:AO σ):AO (kindS ts σ):=by
 unfold kindS
 split
 ·exact h
 ·exact ao_want h
theorem ao_expr {ts:List Tok} {f:Nat} {σ τ:RS} {v:Int} {l:List Int} (h:AO σ) (hr:runE ts f .expr σ=some (v,l,τ)):AO τ:=(args_all ts f .expr σ _ hr h).1
theorem ao_states {ts:List Tok}:∀(n:Nat) (acc:List ByteArray) (σ:RS) (R:List ByteArray×RS),AO σ→statesL ts n acc σ=some R→AO R.2:=by
 intro n
 induction n with
 | zero=>intro acc σ R _ h;cases h
 | succ n ih =>
  intro acc σ R ha h
  simp only[statesL] at h
  split at h
  ·split at h
   ·exact ih _ _ R (ao_name (ao_step ha)) h
   ·obtain rfl:=qI h
    exact ha
  ·cases h
theorem ao_item {ts:List Tok} {f:Nat} {all:Bool} {σ τ:RS} {x:It} {ok:Bool} (ha:AO σ) (hr:itemS ts f all σ=some (x,ok,τ)):AO τ:=by
 unfold itemS at hr
 split at hr
 ·unfold iLet at hr
  obtain⟨v,l,t,h1,hr⟩:=exprS_bind hr
  cases hr
  exact ao_want (ao_expr (ao_want (ao_kind (ao_want (ao_name (ao_step ha))))) h1)
 split at hr
 ·split at hr
  ·unfold iDer at hr
   obtain⟨v1,l1,t1,h1,hr⟩:=exprS_bind hr
   obtain⟨v2,l2,t2,h2,hr⟩:=exprS_bind hr
   cases hr
   exact ao_want (ao_expr (ao_want (ao_expr (ao_want (ao_name (ao_step ha))) h1)) h2)
  split at hr
  ·unfold iReset at hr
   obtain⟨v1,l1,t1,h1,hr⟩:=exprS_bind hr
   obtain⟨v2,l2,t2,h2,hr⟩:=exprS_bind hr
   cases hr
   exact ao_want (ao_expr (ao_want (ao_expr (ao_want (ao_name (ao_step ha))) h1)) h2)
  split at hr
  ·unfold iMem at hr
   obtain⟨v1,l1,t1,h1,hr⟩:=exprS_bind hr
   cases hr
   exact ao_want (ao_expr (ao_want (ao_kind (ao_want (ao_name (ao_step ha))))) h1)
  split at hr
  ·unfold iOn at hr
   obtain⟨v1,l1,t1,h1,hr⟩:=exprS_bind hr
   obtain⟨v2,l2,t2,h2,hr⟩:=exprS_bind hr
   cases hr
   exact ao_want (ao_expr (ao_want (ao_name (ao_want (ao_expr (ao_step ha) h1)))) h2)
  split at hr
  ·unfold iMode at hr
   obtain⟨⟨L,t1⟩,h1,hr⟩:=Option.bind_eq_some_iff.1 hr
   cases hr
   exact ao_want (ao_want (ao_states _ _ _ _ (ao_name (ao_want (ao_name (ao_step ha)))) h1))
  split at hr
  ·unfold iFrom at hr
   obtain⟨v1,l1,t1,h1,hr⟩:=exprS_bind hr
   cases hr
   exact ao_want (ao_name (ao_want (ao_expr (ao_want (ao_name (ao_want (ao_name (ao_step ha))))) h1)))
  split at hr
  ·unfold iOut at hr
   cases hr
   exact ao_want (ao_name (ao_step ha))
  ·cases hr;exact ha
 ·cases hr;exact ha
theorem ao_its {ts:List Tok} {f:Nat} {all:Bool}:∀(n:Nat) (acc:List It) (σ:RS) (R:List It×RS),AO σ→itsL ts f all n acc σ=some R→AO R.2:=by
 intro n
 induction n with
 | zero=>intro acc σ R _ h;cases h
 | succ n ih =>
  intro acc σ R ha h
  obtain⟨k,hk,_,hh⟩:=itsL_cases h
  obtain rfl:n=k:=by omega
  rcases hh with ⟨_,x,τ,h1,h2⟩ | ⟨_,x,τ,h1,h2⟩ | ⟨_,h1⟩
  ·exact ih _ _ R (ao_item ha h1) h2
  ·rw[h2];exact ao_item ha h1
  ·rw[h1];exact ha
theorem ao_pars {ts:List Tok}:∀(n:Nat) (acc:List Pa) (σ:RS) (R:List Pa×RS),AO σ→parsL ts n acc σ=some R→AO R.2:=by
 intro n
 induction n with
 | zero=>intro acc σ R _ h;cases h
 | succ n ih =>
  intro acc σ R ha h
  simp only[parsL] at h
  have hk:=ao_kind (ts:=ts) (ao_want (ts:=ts) (s:=[58]) (ao_name (ts:=ts) ha))
  split at h
  ·split at h
   ·split at h
    ·exact ih _ _ R (ao_step hk) h
    ·obtain rfl:=qI h
     exact ao_want hk
   ·obtain rfl:=qI h
    exact ha
  ·cases h
theorem ao_params {ts:List Tok} {f:Nat} {σ:RS} {R:List Pa×RS} (ha:AO σ) (hr:paramsS ts f σ=some R):AO R.2:=by
 unfold paramsS at hr
 split at hr
 ·obtain rfl:=qI hr
  exact ao_step (ao_want ha)
 ·exact ao_pars _ _ _ _ (ao_want ha) hr
theorem ao_decl {ts:List Tok} {f:Nat} {σ τ:RS} {d:De} (ha:AO σ) (hr:declS ts f σ=some (d,τ)):AO τ:=by
 unfold declS at hr
 split at hr
 ·obtain⟨⟨p,t1⟩,h1,hr⟩:=Option.bind_eq_some_iff.1 hr
  obtain⟨v2,l2,t2,h2,hr⟩:=exprS_bind hr
  cases hr
  exact ao_want (ao_expr (ao_want (ao_kind (ao_want (ao_params (ao_name (ao_step ha)) h1)))) h2)
 split at hr
 ·obtain⟨⟨p,t1⟩,h1,hr⟩:=Option.bind_eq_some_iff.1 hr
  obtain⟨⟨i,t2⟩,h2,hr⟩:=Option.bind_eq_some_iff.1 hr
  obtain⟨v3,l3,t3,h3,hr⟩:=exprS_bind hr
  cases hr
  exact ao_want (ao_want (ao_expr (ao_want (ao_its _ _ _ _ (ao_want (ao_kind (ao_want (ao_params (ao_name (ao_step ha)) h1)))) h2)) h3))
 ·obtain⟨⟨p,t1⟩,h1,hr⟩:=Option.bind_eq_some_iff.1 hr
  obtain⟨⟨i,t2⟩,h2,hr⟩:=Option.bind_eq_some_iff.1 hr
  cases hr
  exact ao_want (ao_its _ _ _ _ (ao_want (ao_params (ao_name (ao_want ha)) h1)) h2)
theorem ao_decls {ts:List Tok} {f:Nat}:∀(n:Nat) (acc:List De) (σ:RS) (R:List De×RS),AO σ→declsG ts f n acc σ=some R→AO R.2:=by
 intro n
 induction n with
 | zero=>intro acc σ R _ h;cases h
 | succ n ih =>
  intro acc σ R ha h
  obtain⟨k,hk,_,hh⟩:=declsG_cases h
  obtain rfl:n=k:=by omega
  rcases hh with ⟨_,_,h1⟩ | ⟨_,_,d,τ,h1,h2⟩ | ⟨_,h1⟩
  ·rw[h1];exact ha
  ·exact ih _ _ R (ao_decl ha h1) h2
  ·rw[h1];exact ha
theorem decls_five {ts:List Tok} {f:Nat}:∀(n:Nat) (acc:List De) (σ:RS) (R:List De×RS),declsG ts f n acc σ=some R→R.2.code=0→(tokL ts R.2.at_).kind=5:=by
 intro n
 induction n with
 | zero=>intro acc σ R h;cases h
 | succ n ih =>
  intro acc σ R h h0
  obtain⟨k,hk,_,hh⟩:=declsG_cases h
  obtain rfl:n=k:=by omega
  rcases hh with ⟨_,h5,h1⟩ | ⟨_,_,d,τ,h1,h2⟩ | ⟨hz,h1⟩
  ·rw[h1];exact h5
  ·exact ih _ _ R h2 h0
  ·rw[h1] at h0;exact absurd h0 hz
def ParsedG (ds:List De) (σ:RS) (W:World) (r:Ending) (Y:World):Prop :=
 (σ.code=0∧∃od cd o c,r=.returned (.tuple #[.agg #[.slice od ds.length cd,.slice o σ.exprs.length c],.int .i64 0,.agg #[.int .i64 0,.int .i64 0]])∧DesOwn Y W.heap.size (.slice od ds.length cd) ds∧ExsOwn Y W.heap.size (fun _=>False) (.slice o σ.exprs.length c) σ.exprs∧Below W.heap.size W Y) ∨
 (σ.code≠0∧r=.returned (.tuple #[.agg #[.slice none 0 0,.slice none 0 0],.int .i64 0,.agg #[.int .i64 σ.code,.int .i64 σ.pos]])∧Below W.heap.size W Y)
def PgI (W:World) (b g cap:Nat) (ts:List Tok) (f N:Nat) (R:List De×RS) (n:Nat) (Y:World):Prop :=
 ∃(acc:List De) (σ:RS) (dv:Value),n≤N∧declsG ts f n acc σ=some R∧PaSt W Y b g cap ts σ acc dv
theorem parse_prog_any (l:List UInt8) (tl:List Tok) (ht:Hid (lexT l tl none)) (hl:l.length≤20000) (f N:Nat) (R:List De×RS) (hr:Hid (declsG (tl++[endT l.length]) f N [] rs0=some R)) (W:World) :
  Calls prog 9 #[.string (str l),.bool false] W fun r Y=>ParsedG R.1 R.2 W r Y:=by
 obtain⟨ts,hus⟩:∃ts,ts=tl++[endT l.length]:=⟨_,rfl⟩
 have hcount:=toks_count ht.out
 have g1:=gapTo_le false (Nat.zero_le l.length)
 have hul:ts.length=tl.length+1:=by rw[hus];simp
 have hu4:ts.length≤40000:=by omega
 have hend:EndOk ts:=by rw[hus];exact end_ok ht.out _
 obtain⟨p0,hp0⟩:∃p0,p0=ts.length:=⟨_,rfl⟩
 have LX:Hid (∀W,Calls prog 13 #[.string (str l)] W fun r Y=>SomeRow ts p0 W r Y):=Hd fun W=>(ref_lex_any l tl none ht.out W).mono fun e w' h=>by
  have:=h.2 hl
  rw[hp0,hul,hus];exact this
 have HE:=Hd hend
 have HP0:=Hd hp0
 have HU4:=Hd hu4
 have HRUN:Hid (declsG ts f N [] rs0=some R):=Hd (by rw[hus];exact hr.out)
 clear hcount g1 hul hend hus hp0 hu4 hl
 obtain⟨W2,hW2⟩:∃W2,W2=(W.alloc (.cells #[.slice none 0 0,.slice none 0 0] 26)).alloc (.cells #[.int .i64 0,.int .i64 0] 29):=⟨_,rfl⟩
 have hb2:Below W.heap.size W W2:=by rw[hW2];exact((qB _ _).alloc (qL _) _).alloc (by simp) _
 have hs2:W2.heap.size=W.heap.size+2:=by rw[hW2];simp
 have hP:W2.heap[W.heap.size]?=some (.cells #[.slice none 0 0,.slice none 0 0] 26 (0,0)):=by
  rw[hW2,heap_alloc_old _ _ (by simp)];exact heap_alloc_new W _
 have hF:W2.heap[W.heap.size+1]?=some (.cells #[.int .i64 0,.int .i64 0] 29 (0,0)):=by
  have:=heap_alloc_new (W.alloc (.cells #[.slice none 0 0,.slice none 0 0] 26)) (.cells #[.int .i64 0,.int .i64 0] 29)
  rw[World.size_alloc] at this
  rw[hW2];exact this
 have HB2:=Hd hb2
 have HS2:=Hd hs2
 have HPF:=Hd (show _∧_ from⟨hP,hF⟩)
 clear hb2 hs2 hP hF
 go_enter Tryz.func9,Tryz.ntmps9
 go_wp2_with (go_at_call 13;rw[←hW2];clear hW2;(with_reducible refine(LX.out W2).mono ?_);rintro e w3 ⟨g,cap,rfl,hb3,hrow⟩;have HB3:=Hd hb3;have HROW:=Hd hrow;clear hb3 hrow)
 have hs3:W.heap.size+2≤w3.heap.size:=by have:=HB3.out.size;have:=HS2.out;omega
 obtain⟨b,hb⟩:∃b,b=w3.heap.size+1:=⟨_,rfl⟩
 obtain⟨W4,hW4⟩:∃W4,W4=(w3.alloc (.cells #[.int .i64 0,.int .i64 0] 29)).alloc (.cells #[.slice (some ⟨g,0,none⟩) p0 cap,.int .i64 0,.slice none 0 0,.slice none 0 0,.int .i64 0,.int .i64 0,.int .i64 0] 52):=⟨_,rfl⟩
 have HR4:Hid (Rd W4 b g cap (.slice none 0 0) ts (fun _=>False) rs0):=Hd (by
  have h1:=rd_new (w:=w3.alloc (.cells #[.int .i64 0,.int .i64 0] 29)) (cap:=cap) (HROW.out.below ((qB _ _).alloc (qL _) _)) HU4.out HE.out
  rw[World.size_alloc,←hb] at h1
  rw[hW4,HP0.out]
  exact h1)
 have HB4:Hid (Below w3.heap.size w3 W4):=Hd (by rw[hW4];exact((qB _ _).alloc (qL _) _).alloc (by simp) _)
 rw[←hW4,←hb]
 clear hW4
 have hbw:b<W4.heap.size:=HR4.out.size
 have HP4:Hid (PaSt W4 W4 b g cap ts rs0 [] (.slice none 0 0)):=Hd ⟨HR4.out,RK.refl _ _,[],rfl,qO _ _ _ _,fun x hx=>by cases hx⟩
 obtain⟨m,hm⟩:=least_of (PgI W4 b g cap ts f N R)
 have HM:=Hd hm
 clear hm
 have HBB:=Hd hb
 clear hb
 go_wp2_with fail
 go_loopw [11] (fun _ wr=>Hid (∃n,PgI W4 b g cap ts f N R n wr)) (fun _ wr=>m wr)
 case atStart=>exact Hd ⟨N,[],rs0,_,qL _,HRUN.out,HP4.out⟩
 case round =>
  have hI:=hrel
  clear hrel
  obtain⟨hm1,hm2⟩:=HM.out _ hI.out
  obtain⟨acc,σ,dv,hnf,hrun,hst⟩:=hm1
  obtain⟨nn,hmn⟩:∃nn,nn=m wr:=⟨_,rfl⟩
  rw[←hmn] at hnf hrun
  obtain⟨k,rfl,hacc,hcase⟩:=declsG_cases hrun
  have HMN:=Hd hmn
  have HKF:=Hd hnf
  have HST:=Hd hst
  have HRr:=Hd hst.rd
  clear hrun hmn hm2 hI hst hnf
  obtain⟨o,c,⟨c0,c1,c3,c4,c5,c6,fr⟩,hx⟩:=HRr.out.cells
  have ht:=HRr.out.tok
  have hgb:g≠b:=by have:=HRr.out.lt;omega
  have hl:=HRr.out.at_
  have hn:=HRr.out.len
  obtain⟨t0,t1,t2,t3⟩:=ht
  obtain⟨n,hnn⟩:∃n,n=ts.length:=⟨_,rfl⟩
  obtain⟨a,haa⟩:∃a,a=σ.at_:=⟨_,rfl⟩
  obtain⟨cd,hcd⟩:∃cd,cd=σ.code:=⟨_,rfl⟩
  obtain⟨ps,hps⟩:∃ps,ps=σ.pos:=⟨_,rfl⟩
  obtain⟨dp,hdp⟩:∃dp,dp=σ.deep:=⟨_,rfl⟩
  obtain⟨kd,hkd⟩:∃kd,kd=(tokL ts σ.at_).kind:=⟨_,rfl⟩
  obtain⟨tx,htx⟩:∃tx,tx=(tokL ts σ.at_).text:=⟨_,rfl⟩
  obtain⟨tv,htv⟩:∃tv,tv=(tokL ts σ.at_).v:=⟨_,rfl⟩
  obtain⟨p,hp⟩:∃p,p=(tokL ts σ.at_).at_:=⟨_,rfl⟩
  rw[←hnn] at c0 hl hn
  rw[←hkd] at t0
  rw[←htx] at t1
  rw[←htv] at t2
  rw[←hp] at t3
  rw[←haa] at c1 t0 t1 t2 t3 hl
  rw[←hcd] at c5
  rw[←hdp] at c4
  rw[←hps] at c6
  have k0:((a:Nat):Int)<(n:Int):=by omega
  have f1:=fr 1
  have f4:=fr 4
  have f5:=fr 5
  have f6:=fr 6
  have HCD:=Hd hcd
  have HPS:=Hd hps
  have HDP:=Hd hdp
  have HKD:=Hd hkd
  have HTX:=Hd htx
  have HTV:=Hd htv
  have HP:=Hd hp
  have HAA:=Hd haa
  have HNN:=Hd hnn
  clear fr hx hnn haa hcd hps hdp hkd htx htv hp c3
  rcases hcase with ⟨hc0,h5,hR⟩ | ⟨hc0,h5,d,τ,hg1,hg2⟩ | ⟨hc0,hR⟩
  ·have HC0:=Hd hc0
   clear hc0
   have q1:(cd ==0)=true:=by rw[HCD.out,HC0.out];rfl
   have q2:((kd:Int) !=5)=false:=by rw[HKD.out,h5];rfl
   have HRE:=Hd hR
   clear hR h5
   go_wp2_with fail
   go_quiet (fail)
   go_wp2_with fail
   obtain⟨wd,hwd⟩:∃wd,wd=wr.drewN nq:=⟨_,rfl⟩
   rw[←hwd]
   have d0:wd.cell? ⟨b,0,none⟩=some (.slice (some ⟨g,0,none⟩) n cap):=by rw[hwd];exact c0
   have d1:wd.cell? ⟨b,1,none⟩=some (.int .i64 (a:Int)):=by rw[hwd];exact c1
   have d5:wd.cell? ⟨b,5,none⟩=some (.int .i64 cd):=by rw[hwd];exact c5
   have e0:wd.cell? ⟨g,a*4,none⟩=some (.int .i64 (kd:Int)):=by rw[hwd];exact t0
   have HWD:=Hd hwd
   clear hwd c0 c1 c5 t0
   obtain⟨o5,cc5,hblk0,hex0⟩:=HRr.out.blk
   have hbd:Below wr.heap.size wr wd:=by rw[HWD.out];exact below_dr (qB _ _) _
   have hblk:=(hbd.block b HRr.out.size).trans hblk0
   have HEX:=Hd (hex0.same (Y:=wd) fun k _ hk=>hbd.block k hk)
   have HDS:=Hd (HST.out.des.keep hbw (RK.of_below hbd (ql HRr.out.size)))
   have hlow:∀k,k<W.heap.size+2→wd.heap[k]?=W2.heap[k]?:=fun k hk=>(hbd.block k (by have:=HRr.out.size;have:=HBB.out;omega)).trans ((HST.out.rk.low k (by have:=HBB.out;omega)).trans ((HB4.out.block k (by omega)).trans (HB3.out.block k (by have:=HS2.out;omega))))
   have hP:=(hlow W.heap.size (by omega)).trans HPF.out.1
   have hF:=(hlow (W.heap.size+1) (by omega)).trans HPF.out.2
   have HKW:=Hd (HST.out.rk.trans (RK.of_below hbd (ql HRr.out.size)))
   obtain⟨dn,hdn⟩:∃dn,dn=acc.length:=⟨_,rfl⟩
   obtain⟨od,cdv,rfl⟩:∃od cdv,dv=.slice od dn cdv:=by rw[hdn];obtain⟨q,_,h2,_⟩:=HDS.out;exact own_form h2
   obtain⟨nE,hnE⟩:∃nE,nE=σ.exprs.length:=⟨_,rfl⟩
   have n2:wd.cell? ⟨b,2,none⟩=some (.slice od dn cdv):=by simp[World.cell?,hblk]
   have n3:wd.cell? ⟨b,3,none⟩=some (.slice o5 nE cc5):=by rw[hnE];simp[World.cell?,hblk]
   have p0':wd.cell? ⟨W.heap.size,0,none⟩=some (.slice none 0 0):=by simp[World.cell?,hP]
   have p1':wd.cell? ⟨W.heap.size,1,none⟩=some (.slice none 0 0):=by simp[World.cell?,hP]
   have p2':wd.frozen? ⟨W.heap.size,0,none⟩=false:=by simp[World.frozen?,hP]
   have p3':wd.frozen? ⟨W.heap.size,1,none⟩=false:=by simp[World.frozen?,hP]
   have u0':wd.cell? ⟨W.heap.size+1,0,none⟩=some (.int .i64 0):=by simp[World.cell?,hF]
   have u1':wd.cell? ⟨W.heap.size+1,1,none⟩=some (.int .i64 0):=by simp[World.cell?,hF]
   have u2':wd.frozen? ⟨W.heap.size+1,0,none⟩=false:=by simp[World.frozen?,hF]
   have u3':wd.frozen? ⟨W.heap.size+1,1,none⟩=false:=by simp[World.frozen?,hF]
   have q3:(cd !=0)=false:=by rw[HCD.out,HC0.out];rfl
   have HNE:=Hd hnE
   have HDN:=Hd hdn
   have HPP:=Hd (show _∧_ from⟨hP,hF⟩)
   clear hP hF hnE hdn hbd hblk0 hex0 hlow hblk
   go_quiet (fail)
   go_wp2_with fail
   obtain⟨w6,hw6⟩:∃w6,w6=wd.drewN nq:=⟨_,rfl⟩
   rw[←hw6]
   have hb6:Below wd.heap.size wd w6:=by rw[hw6];exact below_dr (qB _ _) _
   have hP6:w6.heap[W.heap.size]?=some (.cells #[.slice none 0 0,.slice none 0 0] 26 (0,0)):=by rw[hw6];exact HPP.out.1
   have hF6:w6.heap[W.heap.size+1]?=some (.cells #[.int .i64 0,.int .i64 0] 29 (0,0)):=by rw[hw6];exact HPP.out.2
   obtain⟨Y,hY⟩:∃Y,Y=(((w6.setCell ⟨W.heap.size,0,none⟩ (.slice od dn cdv)).setCell ⟨W.heap.size,1,none⟩ (.slice o5 nE cc5)).setCell ⟨W.heap.size+1,0,none⟩ (.int .i64 0)).setCell ⟨W.heap.size+1,1,none⟩ (.int .i64 0):=⟨_,rfl⟩
   rw[←hY]
   have k1:Y.heap[W.heap.size]?=some (.cells #[.slice od dn cdv,.slice o5 nE cc5] 26 (0,0)):=by
    rw[hY,Below.heap_setCell _ _ _ _ (by simp),Below.heap_setCell _ _ _ _ (by simp),set_blk (set_blk hP6 0 _) 1 _];rfl
   have k2:Y.heap[W.heap.size+1]?=some (.cells #[.int .i64 0,.int .i64 0] 29 (0,0)):=by
    rw[hY,set_blk (set_blk (((Below.heap_setCell _ _ _ _ (by simp)).trans (Below.heap_setCell _ _ _ _ (by simp))).trans hF6) 0 _) 1 _];rfl
   have hYk:∀k,W.heap.size+1<k→Y.heap[k]?=w6.heap[k]?:=fun k hk=>by
    rw[hY,Below.heap_setCell _ _ _ _ (by simp;omega),Below.heap_setCell _ _ _ _ (by simp;omega),Below.heap_setCell _ _ _ _ (by simp;omega),Below.heap_setCell _ _ _ _ (by simp;omega)]
   have r0:Y.cell? ⟨W.heap.size,0,none⟩=some (.slice od dn cdv):=by simp[World.cell?,k1]
   have r1:Y.cell? ⟨W.heap.size,1,none⟩=some (.slice o5 nE cc5):=by simp[World.cell?,k1]
   have r2:Y.cell? ⟨W.heap.size+1,0,none⟩=some (.int .i64 0):=by simp[World.cell?,k2]
   have r3:Y.cell? ⟨W.heap.size+1,1,none⟩=some (.int .i64 0):=by simp[World.cell?,k2]
   have hb05:Below W.heap.size W wd:=(HB2.out.trans ((HB3.out.trans (HB4.out.mono HB3.out.size)).mono (by have:=HS2.out;omega))).trans (HKW.out.below (by have:=HBB.out;omega))
   have hb06:Below W.heap.size W w6:=hb05.trans (hb6.mono hb05.size)
   have hbY:Below W.heap.size W Y:=by
    rw[hY]
    exact(((hb06.setCell (p:=⟨W.heap.size,0,none⟩) (qL _) _).setCell (p:=⟨W.heap.size,1,none⟩) (qL _) _).setCell (p:=⟨W.heap.size+1,0,none⟩) (Nat.le_succ _) _).setCell (p:=⟨W.heap.size+1,1,none⟩) (Nat.le_succ _) _
   have hsame:∀k,W.heap.size+1<k→k<wd.heap.size→Y.heap[k]?=wd.heap[k]?:=fun k hk hk2=>(hYk k hk).trans (hb6.block k hk2)
   refine bodyPost_ret (v:=.tuple #[.agg #[.slice od dn cdv,.slice o5 nE cc5],.int .i64 0,.agg #[.int .i64 0,.int .i64 0]]) (by simp[results,Tryz.results9,go_sem,r0,r1,r2,r3]) rfl ?_
   rw[HRE.out]
   have hw4:W.heap.size+1<W4.heap.size:=by have:=HBB.out;omega
   refine .inl ⟨HC0.out,od,cdv,o5,cc5,by rw[HNE.out,HDN.out],?_,ExsOwn.base (b:=b) (HEX.out.same (Y:=Y) fun k (hk:b<k) hk2=>hsame k (by have:=HBB.out;omega) hk2) (by have:=HBB.out;omega),hbY⟩
   have hds:=(HDS.out.same (Y:=Y) fun k hk hk2=>hsame k (by omega) hk2).base (B':=W.heap.size) (by omega)
   rw[←HDN.out]
   exact hds
  ·have HC0:=Hd hc0
   clear hc0
   have q1:(cd ==0)=true:=by rw[HCD.out,HC0.out];rfl
   have q2:((kd:Int) !=5)=true:=by rw[HKD.out];exact bne_iff_ne.2 (by omega)
   have HG2:=Hd hg2
   have DC:=Hd (fun W h=>decl_any b g cap dv ts (fun _=>False) σ f d τ hg1 W h)
   clear hg1 hg2 h5
   go_wp2_with fail
   go_quiet (fail)
   go_wp2_with fail
   obtain⟨wd,hwd⟩:∃wd,wd=wr.drewN nq:=⟨_,rfl⟩
   rw[←hwd]
   have hbd:Below wr.heap.size wr wd:=by rw[hwd];exact below_dr (qB _ _) _
   have HRd:Hid (Rd wd b g cap dv ts (fun _=>False) σ):=Hd (HRr.out.below hbd)
   have HKd:Hid (RK b W4 wd):=Hd (HST.out.rk.trans (RK.of_below hbd (ql HRr.out.size)))
   have HDd:Hid (DesOwn wd W4.heap.size dv acc):=Hd (HST.out.des.keep hbw (RK.of_below hbd (ql HRr.out.size)))
   clear hwd hbd t0 t1 t2 t3 c0 c1 c4 c5 c6 f1 f4 f5 f6 k0 hl hn hgb HCD HPS HDP HKD HTX HTV HP HAA HNN
   refine(DC.out wd HRd).mono ?_
   rintro e w1 ⟨po,pc,io,ic,rfl,hrd1,hrk1,hpa1,hit1⟩
   dsimp only
   have hk1:=HKd.out.trans hrk1
   have HK1:=Hd hk1
   have HR1:=Hd hrd1
   have HI1:=Hd (hit1.base HKd.out.size)
   have HA1:=Hd (own_base hpa1 HKd.out.size)
   obtain⟨q,hq1,hq2,hq3⟩:=HDd.out.keep hbw hrk1
   obtain⟨dn,hdn⟩:∃dn,dn=acc.length:=⟨_,rfl⟩
   rw[←hdn] at hq2 hacc
   obtain⟨oe,ce,rfl⟩:=own_form hq2
   have HQ1:=Hd hq1
   have HQ2:=Hd hq2
   have HQ3:=Hd hq3
   have HDN:=Hd hdn
   obtain⟨o1,cc1,hblk1,_⟩:=hrd1.blk
   have hb1:b<w1.heap.size:=hrd1.size
   clear hdn hrd1 hrk1 hpa1 hit1 hk1 hq1 hq2 hq3
   obtain⟨w2,hw2⟩:∃w2,w2=w1.alloc (.cells #[.int .i64 d.kind,.string d.name,.slice po d.params.length pc,.slice io d.items.length ic,.int .i64 d.type,.int .i64 d.e,.int .i64 d.pos] 57):=⟨_,rfl⟩
   have hb2:Below w1.heap.size w1 w2:=by rw[hw2];exact(qB _ _).alloc (qL _) _
   have s2:w2.heap.size=w1.heap.size+1:=by rw[hw2];simp
   have hb2s:b<w2.heap.size:=by omega
   have e2:w2.cell? ⟨b,2,none⟩=some (.slice oe dn ce):=(hb2.cell (p:=⟨b,2,none⟩) hb1).trans (by simp[World.cell?,hblk1])
   have g2:w2.frozen? ⟨b,2,none⟩=false:=(hb2.frozen (p:=⟨b,2,none⟩) hb1).trans (by simp[World.frozen?,hblk1])
   have x9:∀j u,[Value.int .i64 d.kind,.string d.name,.slice po d.params.length pc,.slice io d.items.length ic,.int .i64 d.type,.int .i64 d.e,.int .i64 d.pos][j]?=some u→w2.cell? ⟨w1.heap.size,j,none⟩=some u:=fun j u hu=>by
    rw[hw2,World.cell?_alloc_new];simpa using hu
   have x0:=x9 0 _ rfl
   have x1:=x9 1 _ rfl
   have x2:=x9 2 _ rfl
   have x3:=x9 3 _ rfl
   have x4:=x9 4 _ rfl
   have x5:=x9 5 _ rfl
   have x6:=x9 6 _ rfl
   have OW:=Hd (show w2.ownsRow W4.heap.size 57 7 (.slice oe dn ce) dn (desGC q) from rd_own_same HQ2.out fun k hk=>hb2.block k (HQ2.out.lt k hk).2)
   have HB2:=Hd ((hb2.alloc hb2.size (.cells #[.int .i64 d.kind,.string d.name,.slice po d.params.length pc,.slice io d.items.length ic,.int .i64 d.type,.int .i64 d.e,.int .i64 d.pos] 57)).drew)
   have w4s:W4.heap.size≤w2.heap.size:=by have:=HK1.out.size;omega
   have HS2':=Hd s2
   go_wp2_with fail
   rw[←hw2]
   clear hw2 hb2 x9 hblk1 s2
   go_region_law (refine step_de _ (by rfl) (.tmp 55) (.tmp 57) (by rfl) W4.heap.size (.slice oe dn ce) dn (desGC q) (by rfl) (by exact OW.out.alloc _) ⟨w2.heap.size,0,none⟩ [.int .i64 d.kind,.string d.name,.slice po d.params.length pc,.slice io d.items.length ic,.int .i64 d.type,.int .i64 d.e,.int .i64 d.pos] (by rfl) (by rfl) (by exact seven_at w2 _ rfl _ _ _ _ _ _ _ _) (by simp[Value.oneCell']) (by omega) (by simp;omega) ?_;intro gg cg w3' ho1 hg1;have z3:w3'.cell? ⟨b,2,none⟩=some (.slice oe dn ce):=hg1.cell (by exact(World.cell?_alloc_old _ _ _ (Nat.ne_of_lt hb2s)).trans e2) (fun e=>by have:=(OW.out.lt b e.symm).1;omega);have fb:=hg1.block b (by simp;omega) (fun e=>by have:=(OW.out.lt b e.symm).1;omega);have z4:w3'.frozen? ⟨b,2,none⟩=false:=(World.frozen?_of_block (a:=⟨b,2,none⟩) fb).trans (by exact(World.frozen?_alloc_old _ _ _ (Nat.ne_of_lt hb2s)).trans g2))
   all_goals (
    go_wp2_with fail
    have HI:PgI W4 b g cap ts f N R k (w3'.setCell ⟨b,2,none⟩ (.slice (some ⟨gg,0,none⟩) (dn+1) cg)):=⟨acc++[d],τ,.slice (some ⟨gg,0,none⟩) (dn+1) cg,by have:=HKF.out;omega,HG2.out,by
     have h7:=HDN.out
     subst h7
     exact PaSt.push (x:=d) hbw HK1.out HR1.out HB2.out HQ1.out HQ3.out HA1.out HI1.out (OW.out.alloc _) hg1 ho1⟩
    exact⟨Hd ⟨k,HI⟩,by have h5:=(HM.out _ ⟨k,HI⟩).2 k HI;have h6:=HMN.out;omega⟩)
  ·have HC0:=Hd hc0
   have q1:(cd ==0)=false:=by rw[HCD.out];exact beq_false_of_ne hc0
   have q3:(cd !=0)=true:=by rw[HCD.out];exact bne_iff_ne.2 hc0
   have HRE:=Hd hR
   clear hR hc0
   go_wp2_with fail
   go_quiet (fail)
   go_wp2_with fail
   obtain⟨wd,hwd⟩:∃wd,wd=wr.drewN nq:=⟨_,rfl⟩
   rw[←hwd]
   have d5:wd.cell? ⟨b,5,none⟩=some (.int .i64 cd):=by rw[hwd];exact c5
   have d6:wd.cell? ⟨b,6,none⟩=some (.int .i64 ps):=by rw[hwd];exact c6
   have hbd:Below wr.heap.size wr wd:=by rw[hwd];exact below_dr (qB _ _) _
   have hlow:∀k,k<W.heap.size+2→wd.heap[k]?=W2.heap[k]?:=fun k hk=>(hbd.block k (by have:=HRr.out.size;have:=HBB.out;omega)).trans ((HST.out.rk.low k (by have:=HBB.out;omega)).trans ((HB4.out.block k (by omega)).trans (HB3.out.block k (by have:=HS2.out;omega))))
   have hP:=(hlow W.heap.size (by omega)).trans HPF.out.1
   have hF:=(hlow (W.heap.size+1) (by omega)).trans HPF.out.2
   have HKW:=Hd (HST.out.rk.trans (RK.of_below hbd (ql HRr.out.size)))
   have p0':wd.cell? ⟨W.heap.size,0,none⟩=some (.slice none 0 0):=by simp[World.cell?,hP]
   have p1':wd.cell? ⟨W.heap.size,1,none⟩=some (.slice none 0 0):=by simp[World.cell?,hP]
   have p2':wd.frozen? ⟨W.heap.size,0,none⟩=false:=by simp[World.frozen?,hP]
   have p3':wd.frozen? ⟨W.heap.size,1,none⟩=false:=by simp[World.frozen?,hP]
   have u0':wd.cell? ⟨W.heap.size+1,0,none⟩=some (.int .i64 0):=by simp[World.cell?,hF]
   have u1':wd.cell? ⟨W.heap.size+1,1,none⟩=some (.int .i64 0):=by simp[World.cell?,hF]
   have u2':wd.frozen? ⟨W.heap.size+1,0,none⟩=false:=by simp[World.frozen?,hF]
   have u3':wd.frozen? ⟨W.heap.size+1,1,none⟩=false:=by simp[World.frozen?,hF]
   have HPP:=Hd (show _∧_ from⟨hP,hF⟩)
   have hbw2:W.heap.size+1<b:=by have:=HBB.out;omega
   clear hwd c0 c1 c4 c5 c6 t0 t1 t2 t3 hP hF
   go_quiet (fail)
   go_wp2_with fail
   have mixed:prog.follows .mixedOrders=true:=by kernel_rfl
   have late:prog.follows .lateStores=true:=by kernel_rfl
   go_region_o
   go_wp2_with fail
   obtain⟨w6,hw6⟩:∃w6,w6=wd.drewN (nq+1):=⟨_,rfl⟩
   rw[←hw6]
   have hb6:Below wd.heap.size wd w6:=by rw[hw6];exact below_dr (qB _ _) _
   have hP6:w6.heap[W.heap.size]?=some (.cells #[.slice none 0 0,.slice none 0 0] 26 (0,0)):=by rw[hw6];exact HPP.out.1
   have hF6:w6.heap[W.heap.size+1]?=some (.cells #[.int .i64 0,.int .i64 0] 29 (0,0)):=by rw[hw6];exact HPP.out.2
   obtain⟨Y,hY⟩:∃Y,Y=(((w6.setCell ⟨W.heap.size,0,none⟩ (.slice none 0 0)).setCell ⟨W.heap.size,1,none⟩ (.slice none 0 0)).setCell ⟨W.heap.size+1,0,none⟩ (.int .i64 cd)).setCell ⟨W.heap.size+1,1,none⟩ (.int .i64 ps):=⟨_,rfl⟩
   rw[←hY]
   have k1:Y.heap[W.heap.size]?=some (.cells #[.slice none 0 0,.slice none 0 0] 26 (0,0)):=by
    rw[hY,Below.heap_setCell _ _ _ _ (by simp),Below.heap_setCell _ _ _ _ (by simp),set_blk (set_blk hP6 0 _) 1 _];rfl
   have k2:Y.heap[W.heap.size+1]?=some (.cells #[.int .i64 cd,.int .i64 ps] 29 (0,0)):=by
    rw[hY,set_blk (set_blk (((Below.heap_setCell _ _ _ _ (by simp)).trans (Below.heap_setCell _ _ _ _ (by simp))).trans hF6) 0 _) 1 _];rfl
   have r0:Y.cell? ⟨W.heap.size,0,none⟩=some (.slice none 0 0):=by simp[World.cell?,k1]
   have r1:Y.cell? ⟨W.heap.size,1,none⟩=some (.slice none 0 0):=by simp[World.cell?,k1]
   have r2:Y.cell? ⟨W.heap.size+1,0,none⟩=some (.int .i64 cd):=by simp[World.cell?,k2]
   have r3:Y.cell? ⟨W.heap.size+1,1,none⟩=some (.int .i64 ps):=by simp[World.cell?,k2]
   have hb05:Below W.heap.size W wd:=(HB2.out.trans ((HB3.out.trans (HB4.out.mono HB3.out.size)).mono (by have:=HS2.out;omega))).trans (HKW.out.below (by have:=HBB.out;omega))
   have hb06:Below W.heap.size W w6:=hb05.trans (hb6.mono hb05.size)
   have hbY:Below W.heap.size W Y:=by
    rw[hY]
    exact(((hb06.setCell (p:=⟨W.heap.size,0,none⟩) (qL _) _).setCell (p:=⟨W.heap.size,1,none⟩) (qL _) _).setCell (p:=⟨W.heap.size+1,0,none⟩) (Nat.le_succ _) _).setCell (p:=⟨W.heap.size+1,1,none⟩) (Nat.le_succ _) _
   refine bodyPost_ret (v:=.tuple #[.agg #[.slice none 0 0,.slice none 0 0],.int .i64 0,.agg #[.int .i64 cd,.int .i64 ps]]) (by simp[results,Tryz.results9,go_sem,r0,r1,r2,r3]) rfl ?_
   rw[HRE.out]
   exact .inr ⟨HC0.out,by rw[HCD.out,HPS.out],hbY⟩
end Go.Proofs.YtlbhlncipajapaaGreatDoor
