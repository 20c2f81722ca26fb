import Derived.Test.YtdlmfeflinbbjaaGreatRdItJ
namespace Go.Proofs.YtdlmfeflinbbjaaGreat
open Go.Lib (hid)
open Go.RowKit Lx
def ParsedP (ds:List De3) (es:List Ex) (W:World) (r:Ending) (Y:World):Prop :=
  ∃ od cd o c,r = .returned (.tuple #[.agg #[.slice od ds.length cd,.slice o es.length c],.int .i64 0,.agg #[.int .i64 0,.int .i64 0]])∧DesOwn Y W.heap.size (.slice od ds.length cd) ds∧ExsOwn Y W.heap.size (fun _=>False) (.slice o es.length c) es∧Below W.heap.size W Y
def PaI (W:World) (b g cap:Nat) (ts:List Tok) (f N:Nat) (R:List De3 × RS) (n:Nat) (Y:World):Prop :=
  ∃ (acc:List De3) (σ:RS) (dv:Value),n≤N∧declsL ts f n acc σ = some R∧PaSt W Y b g cap ts σ acc dv
set_option maxHeartbeats 8000000 in
set_option maxRecDepth 100000 in
theorem parse_prog_ok (l:List UInt8) (tl:List Tok) (ht:Hid (lexT l tl none)) (hl:l.length≤20000) (f N:Nat) (R:List De3 × RS) (hr:Hid (declsL (tl ++ [endT l.length]) f N [] rs0 = some R)) (W:World) :
    Calls Tryz.prog 27 #[.string (str l),.bool false] W fun r Y=>ParsedP R.1 R.2.exprs W r Y:=by
  obtain ⟨ts,hus⟩:∃ ts,ts = tl ++ [endT l.length]:=⟨_,rfl⟩
  have hcount:=toks_count ht.out
  have g1:=gapTo_le false (Nat.zero_le l.length)
  have hul:ts.length = tl.length+1:=by rw [hus];simp
  have hu4:ts.length≤40000:=by omega
  have hend:EndOk ts:=by rw [hus];exact end_ok ht.out _
  obtain ⟨p0,hp0⟩:∃ p0,p0 = ts.length:=⟨_,rfl⟩
  have LX:Hid (∀ W,Calls Tryz.prog 48 #[.string (str l)] W fun r Y=>SomeRow ts p0 W r Y):=hid fun W=>(ref_lex_any l tl none ht.out W).mono fun e w' h=>by
    have:=h.2 hl
    rw [hp0,hul,hus];exact this
  have HE:=hid hend
  have HP0:=hid hp0
  have HU4:=hid hu4
  have HRUN:Hid (declsL ts f N [] rs0 = some R):=hid (by rw [hus];exact hr.out)
  clear hcount g1 hul hend hus hp0 hu4 hl
  obtain ⟨W2,hW2⟩:∃ W2,W2 = (W.alloc (.cells #[.slice none 0 0,.slice none 0 0] 25)).alloc (.cells #[.int .i64 0,.int .i64 0] 51):=⟨_,rfl⟩
  have hb2:Below W.heap.size W W2:=by rw [hW2];exact ((Below.refl _ _).alloc (Nat.le_refl _) _).alloc (by simp) _
  have hs2:W2.heap.size = W.heap.size+2:=by rw [hW2];simp
  have hP:W2.heap[W.heap.size]? = some (.cells #[.slice none 0 0,.slice none 0 0] 25 (0,0)):=by
    rw [hW2,heap_alloc_old _ _ (by simp)];exact heap_alloc_new W _
  have hF:W2.heap[W.heap.size+1]? = some (.cells #[.int .i64 0,.int .i64 0] 51 (0,0)):=by
    have:=heap_alloc_new (W.alloc (.cells #[.slice none 0 0,.slice none 0 0] 25)) (.cells #[.int .i64 0,.int .i64 0] 51)
    rw [World.size_alloc] at this
    rw [hW2];exact this
  have HB2:=hid hb2
  have HS2:=hid hs2
  have HPF:=hid (show _∧_ from ⟨hP,hF⟩)
  clear hb2 hs2 hP hF
  go_enter Tryz.func27,Tryz.ntmps27
  go_wp2_with (go_at_call 48;rw [← hW2];clear hW2;(with_reducible refine (LX.out W2).mono ?_);rintro e w3 ⟨g,cap,rfl,hb3,hrow⟩;have HB3:=hid hb3;have HROW:=hid hrow;clear hb3 hrow)
  have hs3:W.heap.size+2≤w3.heap.size:=by have:=HB3.out.size;have:=HS2.out;omega
  obtain ⟨b,hb⟩:∃ b,b = w3.heap.size+1:=⟨_,rfl⟩
  obtain ⟨W4,hW4⟩:∃ W4,W4 = (w3.alloc (.cells #[.int .i64 0,.int .i64 0] 51)).alloc (.cells #[.slice (some ⟨g,0,none⟩) p0 cap,.int .i64 0,.slice none 0 0,.slice none 0 0,.int .i64 0,.int .i64 0,.int .i64 0] 92):=⟨_,rfl⟩
  have HR4:Hid (Rd W4 b g cap (.slice none 0 0) ts (fun _=>False) rs0):=hid (by
    have h1:=rd_new (w:=w3.alloc (.cells #[.int .i64 0,.int .i64 0] 51)) (cap:=cap) (HROW.out.below ((Below.refl _ _).alloc (Nat.le_refl _) _)) HU4.out HE.out
    rw [World.size_alloc,← hb] at h1
    rw [hW4,HP0.out]
    exact h1)
  have HB4:Hid (Below w3.heap.size w3 W4):=hid (by rw [hW4];exact ((Below.refl _ _).alloc (Nat.le_refl _) _).alloc (by simp) _)
  rw [← hW4,← hb]
  clear hW4
  have hbw:b < W4.heap.size:=HR4.out.size
  have HP4:Hid (PaSt W4 W4 b g cap ts rs0 [] (.slice none 0 0)):=hid ⟨HR4.out,RK.refl _ _,[],rfl,World.ownsRow_nil _ _ _ _,fun x hx=>by cases hx⟩
  obtain ⟨m,hm⟩:=least_of (PaI W4 b g cap ts f N R)
  have HM:=hid hm
  clear hm
  have HBB:=hid hb
  clear hb
  go_wp2_with fail
  go_loopw [11] (fun _ wr=>Hid (∃ n,PaI W4 b g cap ts f N R n wr)) (fun _ wr=>m wr)
  case atStart=>exact hid ⟨N,[],rs0,_,Nat.le_refl _,HRUN.out,HP4.out⟩
  case round =>
    have hI:=hrel
    clear hrel
    obtain ⟨hm1,hm2⟩:=HM.out _ hI.out
    obtain ⟨acc,σ,dv,hnf,hrun,hst⟩:=hm1
    obtain ⟨nn,hmn⟩:∃ nn,nn = m wr:=⟨_,rfl⟩
    rw [← hmn] at hnf hrun
    obtain ⟨k,rfl,hacc,hc0,hcase⟩:=declsL_cases hrun
    have HMN:=hid hmn
    have HKF:=hid hnf
    have HST:=hid hst
    have HRr:=hid hst.rd
    have HC0:=hid hc0
    clear hrun hmn hm2 hI hst hnf hc0
    obtain ⟨o,c,⟨c0,c1,c3,c4,c5,c6,fr⟩,hx⟩:=HRr.out.cells
    have ht:=HRr.out.tok
    have hgb:g≠b:=by have:=HRr.out.lt;omega
    have hl:=HRr.out.at_
    have hn:=HRr.out.len
    obtain ⟨t0,t1,t2,t3⟩:=ht
    obtain ⟨n,hnn⟩:∃ n,n = ts.length:=⟨_,rfl⟩
    obtain ⟨a,haa⟩:∃ a,a = σ.at_:=⟨_,rfl⟩
    obtain ⟨cd,hcd⟩:∃ cd,cd = σ.code:=⟨_,rfl⟩
    obtain ⟨ps,hps⟩:∃ ps,ps = σ.pos:=⟨_,rfl⟩
    obtain ⟨dp,hdp⟩:∃ dp,dp = σ.deep:=⟨_,rfl⟩
    obtain ⟨kd,hkd⟩:∃ kd,kd = (tokL ts σ.at_).kind:=⟨_,rfl⟩
    obtain ⟨tx,htx⟩:∃ tx,tx = (tokL ts σ.at_).text:=⟨_,rfl⟩
    obtain ⟨tv,htv⟩:∃ tv,tv = (tokL ts σ.at_).v:=⟨_,rfl⟩
    obtain ⟨p,hp⟩:∃ p,p = (tokL ts σ.at_).at_:=⟨_,rfl⟩
    rw [← hnn] at c0 hl hn
    rw [← hkd] at t0
    rw [← htx] at t1
    rw [← htv] at t2
    rw [← hp] at t3
    rw [← haa] at c1 t0 t1 t2 t3 hl
    rw [← hcd] at c5
    rw [← hdp] at c4
    rw [← hps] at c6
    have k0:((a:Nat):Int) < (n:Int):=by omega
    have f1:=fr 1
    have f4:=fr 4
    have f5:=fr 5
    have f6:=fr 6
    have HCD:=hid hcd
    have HPS:=hid hps
    have HDP:=hid hdp
    have HKD:=hid hkd
    have HTX:=hid htx
    have HTV:=hid htv
    have HP:=hid hp
    have HAA:=hid haa
    have HNN:=hid hnn
    clear fr hx hnn haa hcd hps hdp hkd htx htv hp c3
    have q1:(cd == 0) = true:=by rw [HCD.out,HC0.out];rfl
    rcases hcase with ⟨h5,hR⟩ | ⟨h5,nm,its,p',τ,hg1,hg2⟩
    · have q2:((kd:Int) != 5) = false:=by rw [HKD.out,h5];rfl
      have HRE:=hid hR
      clear hR h5
      go_wp2_with fail
      go_quiet (fail)
      go_wp2_with fail
      obtain ⟨wd,hwd⟩:∃ wd,wd = wr.drewN nq:=⟨_,rfl⟩
      rw [← hwd]
      have d0:wd.cell? ⟨b,0,none⟩ = some (.slice (some ⟨g,0,none⟩) n cap):=by rw [hwd];exact c0
      have d1:wd.cell? ⟨b,1,none⟩ = some (.int .i64 (a:Int)):=by rw [hwd];exact c1
      have d5:wd.cell? ⟨b,5,none⟩ = some (.int .i64 cd):=by rw [hwd];exact c5
      have e0:wd.cell? ⟨g,a*4,none⟩ = some (.int .i64 (kd:Int)):=by rw [hwd];exact t0
      have HWD:=hid hwd
      clear hwd c0 c1 c5 t0
      obtain ⟨o5,cc5,hblk0,hex0⟩:=HRr.out.blk
      have hbd:Below wr.heap.size wr wd:=by rw [HWD.out];exact below_dr (Below.refl _ _) _
      have hblk:=(hbd.block b HRr.out.size).trans hblk0
      have HEX:=hid (hex0.same (Y:=wd) fun k _ hk=>hbd.block k hk)
      have HDS:=hid (HST.out.des.keep hbw (RK.of_below hbd (Nat.le_of_lt HRr.out.size)))
      have hlow:∀ k,k < W.heap.size+2→wd.heap[k]? = W2.heap[k]?:=fun k hk=>(hbd.block k (by have:=HRr.out.size;have:=HBB.out;omega)).trans ((HST.out.rk.low k (by have:=HBB.out;omega)).trans ((HB4.out.block k (by omega)).trans (HB3.out.block k (by have:=HS2.out;omega))))
      have hP:=(hlow W.heap.size (by omega)).trans HPF.out.1
      have hF:=(hlow (W.heap.size+1) (by omega)).trans HPF.out.2
      have HKW:=hid (HST.out.rk.trans (RK.of_below hbd (Nat.le_of_lt HRr.out.size)))
      obtain ⟨dn,hdn⟩:∃ dn,dn = acc.length:=⟨_,rfl⟩
      obtain ⟨od,cdv,rfl⟩:∃ od cdv,dv = .slice od dn cdv:=by rw [hdn];obtain ⟨q,_,h2,_⟩:=HDS.out;exact own_form h2
      obtain ⟨nE,hnE⟩:∃ nE,nE = σ.exprs.length:=⟨_,rfl⟩
      have n2:wd.cell? ⟨b,2,none⟩ = some (.slice od dn cdv):=by simp [World.cell?,hblk]
      have n3:wd.cell? ⟨b,3,none⟩ = some (.slice o5 nE cc5):=by rw [hnE];simp [World.cell?,hblk]
      have p0' : wd.cell? ⟨W.heap.size,0,none⟩ = some (.slice none 0 0):=by simp [World.cell?,hP]
      have p1' : wd.cell? ⟨W.heap.size,1,none⟩ = some (.slice none 0 0):=by simp [World.cell?,hP]
      have p2' : wd.frozen? ⟨W.heap.size,0,none⟩ = false:=by simp [World.frozen?,hP]
      have p3' : wd.frozen? ⟨W.heap.size,1,none⟩ = false:=by simp [World.frozen?,hP]
      have u0' : wd.cell? ⟨W.heap.size+1,0,none⟩ = some (.int .i64 0):=by simp [World.cell?,hF]
      have u1' : wd.cell? ⟨W.heap.size+1,1,none⟩ = some (.int .i64 0):=by simp [World.cell?,hF]
      have u2' : wd.frozen? ⟨W.heap.size+1,0,none⟩ = false:=by simp [World.frozen?,hF]
      have u3' : wd.frozen? ⟨W.heap.size+1,1,none⟩ = false:=by simp [World.frozen?,hF]
      have q3:(cd != 0) = false:=by rw [HCD.out,HC0.out];rfl
      have HNE:=hid hnE
      have HDN:=hid hdn
      have HPP:=hid (show _∧_ from ⟨hP,hF⟩)
      clear hP hF hnE hdn hbd hblk0 hex0 hlow hblk
      go_quiet (fail)
      go_wp2_with fail
      obtain ⟨w6,hw6⟩:∃ w6,w6 = wd.drewN nq:=⟨_,rfl⟩
      rw [← hw6]
      have hb6:Below wd.heap.size wd w6:=by rw [hw6];exact below_dr (Below.refl _ _) _
      have hP6:w6.heap[W.heap.size]? = some (.cells #[.slice none 0 0,.slice none 0 0] 25 (0,0)):=by rw [hw6];exact HPP.out.1
      have hF6:w6.heap[W.heap.size+1]? = some (.cells #[.int .i64 0,.int .i64 0] 51 (0,0)):=by rw [hw6];exact HPP.out.2
      obtain ⟨Y,hY⟩:∃ Y,Y = (((w6.setCell ⟨W.heap.size,0,none⟩ (.slice od dn cdv)).setCell ⟨W.heap.size,1,none⟩ (.slice o5 nE cc5)).setCell ⟨W.heap.size+1,0,none⟩ (.int .i64 0)).setCell ⟨W.heap.size+1,1,none⟩ (.int .i64 0):=⟨_,rfl⟩
      rw [← hY]
      have k1:Y.heap[W.heap.size]? = some (.cells #[.slice od dn cdv,.slice o5 nE cc5] 25 (0,0)):=by
        rw [hY,Below.heap_setCell _ _ _ _ (by simp),Below.heap_setCell _ _ _ _ (by simp),set_blk (set_blk hP6 0 _) 1 _];rfl
      have k2:Y.heap[W.heap.size+1]? = some (.cells #[.int .i64 0,.int .i64 0] 51 (0,0)):=by
        rw [hY,set_blk (set_blk (((Below.heap_setCell _ _ _ _ (by simp)).trans (Below.heap_setCell _ _ _ _ (by simp))).trans hF6) 0 _) 1 _];rfl
      have hYk:∀ k,W.heap.size+1 < k→Y.heap[k]? = w6.heap[k]?:=fun k hk=>by
        rw [hY,Below.heap_setCell _ _ _ _ (by simp;omega),Below.heap_setCell _ _ _ _ (by simp;omega),Below.heap_setCell _ _ _ _ (by simp;omega),Below.heap_setCell _ _ _ _ (by simp;omega)]
      have r0:Y.cell? ⟨W.heap.size,0,none⟩ = some (.slice od dn cdv):=by simp [World.cell?,k1]
      have r1:Y.cell? ⟨W.heap.size,1,none⟩ = some (.slice o5 nE cc5):=by simp [World.cell?,k1]
      have r2:Y.cell? ⟨W.heap.size+1,0,none⟩ = some (.int .i64 0):=by simp [World.cell?,k2]
      have r3:Y.cell? ⟨W.heap.size+1,1,none⟩ = some (.int .i64 0):=by simp [World.cell?,k2]
      have hb05:Below W.heap.size W wd:=(HB2.out.trans ((HB3.out.trans (HB4.out.mono HB3.out.size)).mono (by have:=HS2.out;omega))).trans (HKW.out.below (by have:=HBB.out;omega))
      have hb06:Below W.heap.size W w6:=hb05.trans (hb6.mono hb05.size)
      have hbY:Below W.heap.size W Y:=by
        rw [hY]
        exact (((hb06.setCell (p:=⟨W.heap.size,0,none⟩) (Nat.le_refl _) _).setCell (p:=⟨W.heap.size,1,none⟩) (Nat.le_refl _) _).setCell (p:=⟨W.heap.size+1,0,none⟩) (Nat.le_succ _) _).setCell (p:=⟨W.heap.size+1,1,none⟩) (Nat.le_succ _) _
      have hsame:∀ k,W.heap.size+1 < k→k < wd.heap.size→Y.heap[k]? = wd.heap[k]?:=fun k hk hk2=>(hYk k hk).trans (hb6.block k hk2)
      refine bodyPost_ret (v:=.tuple #[.agg #[.slice od dn cdv,.slice o5 nE cc5],.int .i64 0,.agg #[.int .i64 0,.int .i64 0]]) (by simp [results,Tryz.results27,go_sem,r0,r1,r2,r3]) rfl ?_
      rw [HRE.out]
      dsimp only
      refine ⟨od,cdv,o5,cc5,by rw [HNE.out,HDN.out],?_,ExsOwn.base (b:=b) (HEX.out.same (Y:=Y) fun k (hk:b < k) hk2=>hsame k (by have:=HBB.out;omega) hk2) (by have:=HBB.out;omega),hbY⟩
      obtain ⟨q,hq1,hq2,hq3⟩:=HDS.out
      rw [← HDN.out]
      have hw4:W.heap.size+1 < W4.heap.size:=by have:=HBB.out;omega
      have g1:=rd_own_same (Y:=Y) hq2 fun k e=>hsame k (by have:=(hq2.lt k e).1;omega) (hq2.lt k e).2
      refine ⟨q,hq1,own_base g1 (by omega),fun x hx=>?_⟩
      have g2:=rd_own_same (Y:=Y) (hq3 x hx) fun k e=>hsame k (by have:=((hq3 x hx).lt k e).1;omega) ((hq3 x hx).lt k e).2
      exact own_base g2 (by omega)
    · have q2:((kd:Int) != 5) = true:=by rw [HKD.out];exact bne_iff_ne.2 (by omega)
      have HG2:=hid hg2
      have DC:=hid (fun W h=>decl_any b g cap dv ts (fun _=>False) σ f nm its p' τ hg1 W h)
      clear hg1 hg2 h5
      go_wp2_with fail
      go_quiet (fail)
      go_wp2_with fail
      obtain ⟨wd,hwd⟩:∃ wd,wd = wr.drewN nq:=⟨_,rfl⟩
      rw [← hwd]
      have hbd:Below wr.heap.size wr wd:=by rw [hwd];exact below_dr (Below.refl _ _) _
      have HRd:Hid (Rd wd b g cap dv ts (fun _=>False) σ):=hid (HRr.out.below hbd)
      have HKd:Hid (RK b W4 wd):=hid (HST.out.rk.trans (RK.of_below hbd (Nat.le_of_lt HRr.out.size)))
      have HDd:Hid (DesOwn wd W4.heap.size dv acc):=hid (HST.out.des.keep hbw (RK.of_below hbd (Nat.le_of_lt HRr.out.size)))
      clear hwd hbd t0 t1 t2 t3 c0 c1 c4 c5 c6 f1 f4 f5 f6 k0 hl hn hgb HCD HPS HDP HKD HTX HTV HP HAA HNN
      refine (DC.out wd HRd).mono ?_
      rintro e w1 ⟨vo,vc,rfl,hst1⟩
      dsimp only
      have hk1:=HKd.out.trans hst1.rk
      have HK1:=hid hk1
      have HR1:=hid hst1.rd
      have HI1:=hid (own_base hst1.own HKd.out.size)
      obtain ⟨q,hq1,hq2,hq3⟩:=HDd.out.keep hbw hst1.rk
      obtain ⟨dn,hdn⟩:∃ dn,dn = acc.length:=⟨_,rfl⟩
      rw [← hdn] at hq2 hacc
      obtain ⟨oe,ce,rfl⟩:=own_form hq2
      have HQ1:=hid hq1
      have HQ2:=hid hq2
      have HQ3:=hid hq3
      have HDN:=hid hdn
      obtain ⟨o1,cc1,hblk1,_⟩:=hst1.rd.blk
      have hb1:b < w1.heap.size:=hst1.rd.size
      clear hdn hst1 hk1 hq1 hq2 hq3
      obtain ⟨w2,hw2⟩:∃ w2,w2 = w1.alloc (.cells #[.int .i64 3,.string nm,.slice none 0 0,.slice vo its.length vc,.int .i64 0,.int .i64 0,.int .i64 p'] 44):=⟨_,rfl⟩
      have hb2:Below w1.heap.size w1 w2:=by rw [hw2];exact (Below.refl _ _).alloc (Nat.le_refl _) _
      have s2:w2.heap.size = w1.heap.size+1:=by rw [hw2];simp
      have hb2s:b < w2.heap.size:=by omega
      have e2:w2.cell? ⟨b,2,none⟩ = some (.slice oe dn ce):=(hb2.cell (p:=⟨b,2,none⟩) hb1).trans (by simp [World.cell?,hblk1])
      have g2:w2.frozen? ⟨b,2,none⟩ = false:=(hb2.frozen (p:=⟨b,2,none⟩) hb1).trans (by simp [World.frozen?,hblk1])
      have x9:∀ j u,[Value.int .i64 3,.string nm,.slice none 0 0,.slice vo its.length vc,.int .i64 0,.int .i64 0,.int .i64 p'][j]? = some u→w2.cell? ⟨w1.heap.size,j,none⟩ = some u:=fun j u hu=>by
        rw [hw2,World.cell?_alloc_new];simpa using hu
      have x0:=x9 0 _ rfl
      have x1:=x9 1 _ rfl
      have x2:=x9 2 _ rfl
      have x3:=x9 3 _ rfl
      have x4:=x9 4 _ rfl
      have x5:=x9 5 _ rfl
      have x6:=x9 6 _ rfl
      have OW:=hid (show w2.ownsRow W4.heap.size 44 7 (.slice oe dn ce) dn (desC q) from rd_own_same HQ2.out fun k hk=>hb2.block k (HQ2.out.lt k hk).2)
      have HB2:=hid ((hb2.alloc hb2.size (.cells #[.int .i64 3,.string nm,.slice none 0 0,.slice vo its.length vc,.int .i64 0,.int .i64 0,.int .i64 p'] 44)).drew)
      have w4s:W4.heap.size≤w2.heap.size:=by have:=HK1.out.size;omega
      have HS2':=hid s2
      go_wp2_with fail
      rw [← hw2]
      clear hw2 hb2 x9 hblk1 s2
      go_region_law (refine step_de _ (by rfl) (.tmp 55) (.tmp 57) (by rfl) W4.heap.size (.slice oe dn ce) dn (desC q) (by rfl) (by exact OW.out.alloc _) ⟨w2.heap.size,0,none⟩ [.int .i64 3,.string nm,.slice none 0 0,.slice vo its.length vc,.int .i64 0,.int .i64 0,.int .i64 p'] (by rfl) (by rfl) (by exact seven_at w2 _ rfl _ _ _ _ _ _ _ _) (by simp [Value.oneCell']) (by omega) (by simp;omega) ?_;intro gg cg w3' ho1 hg1;have z3:w3'.cell? ⟨b,2,none⟩ = some (.slice oe dn ce):=hg1.cell (by exact (World.cell?_alloc_old _ _ _ (Nat.ne_of_lt hb2s)).trans e2) (fun e=>by have:=(OW.out.lt b e.symm).1;omega);have fb:=hg1.block b (by simp;omega) (fun e=>by have:=(OW.out.lt b e.symm).1;omega);have z4:w3'.frozen? ⟨b,2,none⟩ = false:=(World.frozen?_of_block (a:=⟨b,2,none⟩) fb).trans (by exact (World.frozen?_alloc_old _ _ _ (Nat.ne_of_lt hb2s)).trans g2))
      all_goals (
        go_wp2_with fail
        have HI:PaI W4 b g cap ts f N R k (w3'.setCell ⟨b,2,none⟩ (.slice (some ⟨gg,0,none⟩) (dn+1) cg)):=⟨acc ++ [(nm,its,p')],τ,.slice (some ⟨gg,0,none⟩) (dn+1) cg,by have:=HKF.out;omega,HG2.out,by
          have h7:=HDN.out
          subst h7
          exact PaSt.push (x:=(nm,its,p')) hbw HK1.out HR1.out HB2.out HQ1.out HQ3.out HI1.out (OW.out.alloc _) hg1 ho1⟩
        exact ⟨hid ⟨k,HI⟩,by have h5:=(HM.out _ ⟨k,HI⟩).2 k HI;have h6:=HMN.out;omega⟩)
end Go.Proofs.YtdlmfeflinbbjaaGreat
