import Derived.Test.YthpgfahlccljnaaGreatDoorSw22
import Derived.Laws.MakeOwn
import Derived.Laws.OwnMore
import Derived.Laws.IdiomStrings
import Derived.Lib.ConvBytes
import Derived.Lib.ItoaMem
import Derived.Lib.Walk
import Derived.Lib.AppendIntMem
import Derived.Lib.SmallJoins
import Derived.BigCall
import Derived.BigGuard
import Derived.Lib.Join
set_option maxHeartbeats 16000000
set_option maxRecDepth 100000
set_option linter.unusedVariables false
open Go.Proofs.Tryz(prog)
namespace Go.Proofs.YthpgfahlccljnaaGreatDoor
open Go.RowKit Lx
theorem putA_some {x:Ex} {σ:RS} {K:Int→RS→Ans} {R:Int×List Int×RS} (h:putA x σ K=some R):okS σ=true∧K (σ.exprs.length:Int) (putS x σ)=some R:=by
 unfold putA at h
 split at h
 ·rename_i hk;exact⟨hk,h⟩
 ·cases h
theorem atom_any (b g cap:Nat) (dv:Value) (ts:List Tok) (xb:Nat→Prop) (f:Nat) (IH:∀k,k≤f→∀yb,FC b g cap dv ts yb k) (σ:RS) (v:Int) (l:List Int) (τ:RS) (hr:runE ts (f+1) .atom σ=some (v,l,τ)) (W:World) (h:Hid (Rd W b g cap dv ts xb σ)) :
  Calls prog 84 #[.pointer (some ⟨b,0,none⟩)] W fun r Y=>RdRet b g cap dv ts xb W (.int .i64 v) τ r Y:=by
 simp only[runE] at hr
 split at hr
 ·unfold atomG at hr
  dsimp only at hr
  split at hr
  ·rename_i h2
   obtain⟨ok,e⟩:=putA_some hr
   cases e
   exact atom_num b g cap dv ts xb σ W h h2 ok
  ·rename_i h2
   split at hr
   ·rename_i ht
    obtain⟨ok,e⟩:=putA_some hr
    cases e
    exact atom_true b g cap dv ts xb σ W h h2 ht ok
   ·rename_i ht
    have ht:isS ts [116,114,117,101] σ=false:=by simpa using ht
    split at hr
    ·rename_i hf
     obtain⟨ok,e⟩:=putA_some hr
     cases e
     exact atom_false b g cap dv ts xb σ W h h2 ht hf ok
    ·rename_i hf
     have hf:isS ts [102,97,108,115,101] σ=false:=by simpa using hf
     split at hr
     ·rename_i h1
      split at hr
      ·rename_i hi
       obtain⟨ok,e⟩:=putA_some hr
       cases e
       exact atom_is b g cap dv ts xb σ W h h2 ht hf h1 hi ok
      ·rename_i hi
       have hi:isS ts [105,115] (stepS σ)=false:=by simpa using hi
       split at hr
       ·rename_i hl
        split at hr
        ·rename_i hp
         obtain⟨ok,e⟩:=putA_some hr
         cases e
         exact atom_call0 b g cap dv ts xb σ W h h2 ht hf h1 hi hl hp ok
        ·rename_i hp
         have hp:isS ts [41] (stepS (stepS σ))=false:=by simpa using hp
         cases h3:runE ts f .expr (stepS (stepS σ)) with
         | none=>rw[h3] at hr;cases hr
         | some q1 =>
          rw[h3] at hr
          simp only[Option.bind_some] at hr
          cases h4:runE ts f (.args [q1.1]) q1.2.2 with
          | none=>rw[h4] at hr;cases hr
          | some q2 =>
           rw[h4] at hr
           simp only[Option.bind_some] at hr
           obtain⟨ok,e⟩:=putA_some hr
           cases e
           exact atom_args b g cap dv ts xb σ W h f (Hd IH) h2 ht hf h1 hi hl hp q1.1 q1.2.1 q1.2.2 (Hd h3) q2 (Hd h4) (Hd ok)
       ·rename_i hl
        have hl:isS ts [40] (stepS σ)=false:=by simpa using hl
        obtain⟨ok,e⟩:=putA_some hr
        cases e
        exact atom_name b g cap dv ts xb σ W h h2 ht hf h1 hi hl ok
     ·rename_i h1
      cases h3:runE ts f .expr (wantS ts [40] σ) with
      | none=>rw[h3] at hr;cases hr
      | some q1 =>
       rw[h3] at hr
       simp only[Option.bind_some] at hr
       cases hr
       exact atom_par b g cap dv ts xb σ W h f (Hd (IH f (qL _) xb)) h2 ht hf h1 q1.1 q1.2.1 q1.2.2 (Hd h3)
 ·cases hr
theorem fc_all (b g cap:Nat) (dv:Value) (ts:List Tok) (f:Nat):∀xb,FC b g cap dv ts xb f:=by
 induction f using Nat.strongRecOn with
 | ind f ih =>
  intro xb
  cases f with
  | zero =>
   refine⟨?_,?_,?_,?_⟩
   ·intro σ v l τ h;cases h
   ·intro σ v l τ h;cases h
   ·intro σ v l τ _ h;cases h
   ·intro least _ _ σ v l τ h;cases h
  | succ f =>
   have IH:∀k,k≤f→∀yb,FC b g cap dv ts yb k:=fun k hk=>ih k (by omega)
   exact⟨fun σ v l τ hr W h=>expr_any b g cap dv ts xb f (IH f (qL _) xb) σ v l τ hr W h,fun σ v l τ hr W h=>pre_any b g cap dv ts xb f (IH f (qL _) xb) σ v l τ hr W h,
    fun σ v l τ _ hr W h=>atom_any b g cap dv ts xb f IH σ v l τ hr W h,fun least h1 h6 σ v l τ hr W h=>bin_any b g cap dv ts xb f (fun k hk=>IH k hk xb) least h1 h6 σ v l τ hr W h⟩
theorem toks_four {l:List UInt8} {a:Nat} {ts:List Tok} {r:Option Nat} (h:Toks l a ts r):∀t ∈ ts,t.kind≤4:=by
 induction h with
 | fin=>simp
 | bad=>simp
 | tok h1 h2 _ ih =>
  intro t ht
  rcases List.mem_cons.1 ht with rfl | ht
  ·unfold tokAt tokOf
   split
   ·simp
   ·rename_i k n v hk
    exact(oneL_some hk).2.1
  ·exact ih t ht
theorem end_ok {l:List UInt8} {ts:List Tok} {r:Option Nat} (h:lexT l ts r) (n:Nat):EndOk (ts++[endT n]):=by
 refine⟨by simp,fun i t hi=>?_⟩
 rw[List.length_append]
 rcases Nat.lt_or_ge i ts.length with h1 | h1
 ·rw[List.getElem?_append_left h1] at hi
  have:=toks_four h t (List.mem_of_getElem? hi)
  simp;omega
 ·rw[List.getElem?_append_right h1] at hi
  have h2:i-ts.length=0:=by
   rcases Nat.eq_zero_or_pos (i-ts.length) with h3 | h3
   ·exact h3
   ·rw[List.getElem?_eq_none (by simp;omega)] at hi;cases hi
  rw[h2] at hi
  obtain rfl:endT n=t:=by simpa using hi
  simp[endT];omega
theorem ref_lex_any:RefLex:=ref_lex (ref_one (ref_signed ref_size))
def rs0:RS:=⟨0,[],0,0,0⟩
theorem rd_new {w:World} {g cap:Nat} {ts:List Tok} (hr:RowAt w g ts) (hl:ts.length≤40000) (he:EndOk ts) :
  Rd (w.alloc (.cells #[.slice (some ⟨g,0,none⟩) ts.length cap,.int .i64 0,.slice none 0 0,.slice none 0 0,.int .i64 0,.int .i64 0,.int .i64 0] 73)) w.heap.size g cap (.slice none 0 0) ts (fun _=>False) rs0 :=
 ⟨fun k hk=>hk.elim,⟨none,0,heap_alloc_new w _,[],rfl,qO _ _ _ _,fun p hp=>by cases hp⟩,hr.below ((qB _ _).alloc (qL _) _),hr.1,he.1,hl,he⟩
theorem ExsOwn.base {W:World} {b B:Nat} {xb:Nat→Prop} {v:Value} {l:List Ex} (h:ExsOwn W b xb v l) (hb:B≤b):ExsOwn W B xb v l:=by
 obtain⟨q,h1,h2,h3⟩:=h
 exact⟨q,h1,own_base h2 (by omega),fun p hp=>⟨own_base (h3 p hp).1 (by omega),(h3 p hp).2⟩⟩
def ParsedE (v:Int) (es:List Ex) (W:World) (r:Ending) (Y:World):Prop :=
 ∃o c,r=.returned (.tuple #[.agg #[.slice none 0 0,.slice o es.length c],.int .i64 v,.agg #[.int .i64 0,.int .i64 0]])∧ExsOwn Y W.heap.size (fun _=>False) (.slice o es.length c) es∧Below W.heap.size W Y
theorem parse_expr_ok (l:List UInt8) (tl:List Tok) (ht:Hid (lexT l tl none)) (hl:l.length≤20000) (f:Nat) (v:Int) (lx:List Int) (τ:RS) (hr:Hid (runE (tl++[endT l.length]) f .expr rs0=some (v,lx,τ))) (hc0:Hid (τ.code=0)) (hk5:Hid ((tokL (tl++[endT l.length]) τ.at_).kind=5)) (W:World) :
  Calls prog 11 #[.string (str l),.bool true] W fun r Y=>ParsedE v τ.exprs W r Y:=by
 obtain⟨ts,hus⟩:∃ts,ts=tl++[endT l.length]:=⟨_,rfl⟩
 have hcount:=toks_count ht.out
 have g1:=gapTo_le false (Nat.zero_le l.length)
 have hul:ts.length=tl.length+1:=by rw[hus];simp
 have hu4:ts.length≤40000:=by omega
 have hend:EndOk ts:=by rw[hus];exact end_ok ht.out _
 obtain⟨p0,hp0⟩:∃p0,p0=ts.length:=⟨_,rfl⟩
 have LX:Hid (∀W,Calls prog 25 #[.string (str l)] W fun r Y=>SomeRow ts p0 W r Y):=Hd fun W=>(ref_lex_any l tl none ht.out W).mono fun e w' h=>by
  have:=h.2 hl
  rw[hp0,hul,hus];exact this
 have EX:Hid (∀b g cap W,Hid (Rd W b g cap (.slice none 0 0) ts (fun _=>False) rs0)→Calls prog 26 #[.pointer (some ⟨b,0,none⟩)] W fun r Y=>RdRet b g cap (.slice none 0 0) ts (fun _=>False) W (.int .i64 v) τ r Y):=Hd fun b g cap W h=>(fc_all b g cap (.slice none 0 0) ts f _).expr rs0 v lx τ (by rw[hus];exact hr.out) W h
 have HE:=Hd hend
 have HP0:=Hd hp0
 have HU4:=Hd hu4
 have HK5:Hid ((tokL ts τ.at_).kind=5):=Hd (by rw[hus];exact hk5.out)
 clear hcount g1 hul hend hus hp0 hu4 hl hk5
 obtain⟨W2,hW2⟩:∃W2,W2=(W.alloc (.cells #[.slice none 0 0,.slice none 0 0] 25)).alloc (.cells #[.int .i64 0,.int .i64 0] 41):=⟨_,rfl⟩
 have hb2:Below W.heap.size W W2:=by rw[hW2];exact((qB _ _).alloc (qL _) _).alloc (by simp) _
 have hs2:W2.heap.size=W.heap.size+2:=by rw[hW2];simp
 have hP:W2.heap[W.heap.size]?=some (.cells #[.slice none 0 0,.slice none 0 0] 25 (0,0)):=by
  rw[hW2,heap_alloc_old _ _ (by simp)];exact heap_alloc_new W _
 have hF:W2.heap[W.heap.size+1]?=some (.cells #[.int .i64 0,.int .i64 0] 41 (0,0)):=by
  have:=heap_alloc_new (W.alloc (.cells #[.slice none 0 0,.slice none 0 0] 25)) (.cells #[.int .i64 0,.int .i64 0] 41)
  rw[World.size_alloc] at this
  rw[hW2];exact this
 have HB2:=Hd hb2
 have HS2:=Hd hs2
 have HPF:=Hd (show _∧_ from⟨hP,hF⟩)
 clear hb2 hs2 hP hF
 go_enter Tryz.func11,Tryz.ntmps11
 go_wp2_with (go_at_call 25;rw[←hW2];clear hW2;(with_reducible refine(LX.out W2).mono ?_);rintro e w3 ⟨g,cap,rfl,hb3,hrow⟩;have HB3:=Hd hb3;have HROW:=Hd hrow;clear hb3 hrow)
 have hs3:W.heap.size+2≤w3.heap.size:=by have:=HB3.out.size;have:=HS2.out;omega
 obtain⟨b,hb⟩:∃b,b=w3.heap.size+1:=⟨_,rfl⟩
 obtain⟨W4,hW4⟩:∃W4,W4=(w3.alloc (.cells #[.int .i64 0,.int .i64 0] 41)).alloc (.cells #[.slice (some ⟨g,0,none⟩) p0 cap,.int .i64 0,.slice none 0 0,.slice none 0 0,.int .i64 0,.int .i64 0,.int .i64 0] 73):=⟨_,rfl⟩
 have HR4:Hid (Rd W4 b g cap (.slice none 0 0) ts (fun _=>False) rs0):=Hd (by
  have h1:=rd_new (w:=w3.alloc (.cells #[.int .i64 0,.int .i64 0] 41)) (cap:=cap) (HROW.out.below ((qB _ _).alloc (qL _) _)) HU4.out HE.out
  rw[World.size_alloc,←hb] at h1
  rw[hW4,HP0.out]
  exact h1)
 have HB4:Hid (Below w3.heap.size w3 W4):=Hd (by rw[hW4];exact((qB _ _).alloc (qL _) _).alloc (by simp) _)
 rw[←hW4,←hb]
 clear hW4
 refine(EX.out b g cap W4 HR4).mono ?_
 rintro e w5 ⟨rfl,hr5,hk5⟩
 dsimp only
 have HR5:=Hd hr5
 have HK5':=Hd hk5
 have hlow:∀k,k<W.heap.size+2→w5.heap[k]?=W2.heap[k]?:=fun k hk=>(hk5.low k (by omega)).trans ((HB4.out.block k (by omega)).trans (HB3.out.block k (by have:=HS2.out;omega)))
 have hP:=(hlow W.heap.size (by omega)).trans HPF.out.1
 have hF:=(hlow (W.heap.size+1) (by omega)).trans HPF.out.2
 obtain⟨o5,cc5,hblk,hex⟩:=hr5.blk
 have n2:w5.cell? ⟨b,2,none⟩=some (.slice none 0 0):=by simp[World.cell?,hblk]
 have n3:w5.cell? ⟨b,3,none⟩=some (.slice o5 τ.exprs.length cc5):=by simp[World.cell?,hblk]
 have HEX:=Hd hex
 clear hr5 hk5 hlow hblk hex
 have p0':w5.cell? ⟨W.heap.size,0,none⟩=some (.slice none 0 0):=by simp[World.cell?,hP]
 have p1':w5.cell? ⟨W.heap.size,1,none⟩=some (.slice none 0 0):=by simp[World.cell?,hP]
 have p2':w5.frozen? ⟨W.heap.size,0,none⟩=false:=by simp[World.frozen?,hP]
 have p3':w5.frozen? ⟨W.heap.size,1,none⟩=false:=by simp[World.frozen?,hP]
 have u0':w5.cell? ⟨W.heap.size+1,0,none⟩=some (.int .i64 0):=by simp[World.cell?,hF]
 have u1':w5.cell? ⟨W.heap.size+1,1,none⟩=some (.int .i64 0):=by simp[World.cell?,hF]
 have u2':w5.frozen? ⟨W.heap.size+1,0,none⟩=false:=by simp[World.frozen?,hF]
 have u3':w5.frozen? ⟨W.heap.size+1,1,none⟩=false:=by simp[World.frozen?,hF]
 obtain⟨nE,hnE⟩:∃nE,nE=τ.exprs.length:=⟨_,rfl⟩
 rw[←hnE] at n3
 have HNE:=Hd hnE
 have HPP:=Hd (show _∧_ from⟨hP,hF⟩)
 clear hP hF hnE
 obtain⟨o,c,⟨c0,c1,c3,c4,c5,c6,fr⟩,hx⟩:=HR5.out.cells
 have ht:=HR5.out.tok
 have hgb:g≠b:=by have:=HR5.out.lt;omega
 have hl:=HR5.out.at_
 have hn:=HR5.out.len
 obtain⟨t0,t1,t2,t3⟩:=ht
 obtain⟨n,hnn⟩:∃n,n=ts.length:=⟨_,rfl⟩
 obtain⟨a,haa⟩:∃a,a=τ.at_:=⟨_,rfl⟩
 obtain⟨cd,hcd⟩:∃cd,cd=τ.code:=⟨_,rfl⟩
 obtain⟨ps,hps⟩:∃ps,ps=τ.pos:=⟨_,rfl⟩
 obtain⟨dp,hdp⟩:∃dp,dp=τ.deep:=⟨_,rfl⟩
 obtain⟨kd,hkd⟩:∃kd,kd=(tokL ts τ.at_).kind:=⟨_,rfl⟩
 obtain⟨tx,htx⟩:∃tx,tx=(tokL ts τ.at_).text:=⟨_,rfl⟩
 obtain⟨tv,htv⟩:∃tv,tv=(tokL ts τ.at_).v:=⟨_,rfl⟩
 obtain⟨p,hp⟩:∃p,p=(tokL ts τ.at_).at_:=⟨_,rfl⟩
 rw[←hnn] at c0 hl hn
 rw[←hkd] at t0
 rw[←htx] at t1
 rw[←htv] at t2
 rw[←hp] at t3
 rw[←haa] at c1 t0 t1 t2 t3 hl
 rw[←hcd] at c5
 rw[←hdp] at c4
 rw[←hps] at c6
 have k0:((a:Nat):Int)<(n:Int):=by omega
 have f1:=fr 1
 have f4:=fr 4
 have f5:=fr 5
 have f6:=fr 6
 have HCD:=Hd hcd
 have HPS:=Hd hps
 have HDP:=Hd hdp
 have HKD:=Hd hkd
 have HTX:=Hd htx
 have HTV:=Hd htv
 have HP:=Hd hp
 have HAA:=Hd haa
 have HNN:=Hd hnn
 clear fr hx hnn haa hcd hps hdp hkd htx htv hp c3
 have q1:(cd ==0)=true:=by rw[HCD.out,hc0.out];rfl
 have q2:((kd:Int) !=5)=false:=by rw[HKD.out,HK5.out];rfl
 have q3:(cd !=0)=false:=by rw[HCD.out,hc0.out];rfl
 have HBB:=Hd hb
 clear hb
 go_wp2_with fail
 go_quiet (fail)
 go_wp2_with fail
 obtain⟨w6,hw6⟩:∃w6,w6=w5.drewN nq:=⟨_,rfl⟩
 rw[←hw6]
 have hb6:Below w5.heap.size w5 w6:=by rw[hw6];exact below_dr (qB _ _) _
 have hP6:w6.heap[W.heap.size]?=some (.cells #[.slice none 0 0,.slice none 0 0] 25 (0,0)):=by rw[hw6];exact HPP.out.1
 have hF6:w6.heap[W.heap.size+1]?=some (.cells #[.int .i64 0,.int .i64 0] 41 (0,0)):=by rw[hw6];exact HPP.out.2
 obtain⟨Y,hY⟩:∃Y,Y=(((w6.setCell ⟨W.heap.size,0,none⟩ (.slice none 0 0)).setCell ⟨W.heap.size,1,none⟩ (.slice o5 nE cc5)).setCell ⟨W.heap.size+1,0,none⟩ (.int .i64 0)).setCell ⟨W.heap.size+1,1,none⟩ (.int .i64 0):=⟨_,rfl⟩
 rw[←hY]
 have k1:Y.heap[W.heap.size]?=some (.cells #[.slice none 0 0,.slice o5 nE cc5] 25 (0,0)):=by
  rw[hY,Below.heap_setCell _ _ _ _ (by simp),Below.heap_setCell _ _ _ _ (by simp),set_blk (set_blk hP6 0 _) 1 _];rfl
 have k2:Y.heap[W.heap.size+1]?=some (.cells #[.int .i64 0,.int .i64 0] 41 (0,0)):=by
  rw[hY,set_blk (set_blk (((Below.heap_setCell _ _ _ _ (by simp)).trans (Below.heap_setCell _ _ _ _ (by simp))).trans hF6) 0 _) 1 _];rfl
 have hYk:∀k,W.heap.size+1<k→Y.heap[k]?=w6.heap[k]?:=fun k hk=>by
  rw[hY,Below.heap_setCell _ _ _ _ (by simp;omega),Below.heap_setCell _ _ _ _ (by simp;omega),Below.heap_setCell _ _ _ _ (by simp;omega),Below.heap_setCell _ _ _ _ (by simp;omega)]
 have r0:Y.cell? ⟨W.heap.size,0,none⟩=some (.slice none 0 0):=by simp[World.cell?,k1]
 have r1:Y.cell? ⟨W.heap.size,1,none⟩=some (.slice o5 nE cc5):=by simp[World.cell?,k1]
 have r2:Y.cell? ⟨W.heap.size+1,0,none⟩=some (.int .i64 0):=by simp[World.cell?,k2]
 have r3:Y.cell? ⟨W.heap.size+1,1,none⟩=some (.int .i64 0):=by simp[World.cell?,k2]
 have hb05:Below W.heap.size W w5:=(HB2.out.trans ((HB3.out.trans (HB4.out.mono HB3.out.size)).mono (by have:=HS2.out;omega))).trans (HK5'.out.below (by have:=HBB.out;omega))
 have hb06:Below W.heap.size W w6:=hb05.trans (hb6.mono hb05.size)
 have hbY:Below W.heap.size W Y:=by
  rw[hY]
  exact(((hb06.setCell (p:=⟨W.heap.size,0,none⟩) (qL _) _).setCell (p:=⟨W.heap.size,1,none⟩) (qL _) _).setCell (p:=⟨W.heap.size+1,0,none⟩) (Nat.le_succ _) _).setCell (p:=⟨W.heap.size+1,1,none⟩) (Nat.le_succ _) _
 refine bodyPost_ret (v:=.tuple #[.agg #[.slice none 0 0,.slice o5 nE cc5],.int .i64 v,.agg #[.int .i64 0,.int .i64 0]]) (by simp[results,Tryz.results11,go_sem,r0,r1,r2,r3]) rfl ⟨o5,cc5,by rw[HNE.out],?_,hbY⟩
 exact(HEX.out.same fun k hk hk2=>(hYk k (by have:=HBB.out;omega)).trans (hb6.block k hk2)).base (by have:=HBB.out;omega)
end Go.Proofs.YthpgfahlccljnaaGreatDoor
namespace Go.Proofs.YthpgfahlccljnaaGreatDoor
open Go.RowKit Lx
theorem flatMap_get {α:Type} {enc:α→List Value} {s:Nat} (hs:∀x,(enc x).length=s):∀(l:List α) (i:Nat) (x:α) (j:Nat) (u:Value),l[i]?=some x→(enc x)[j]?=some u→(l.flatMap enc)[i*s+j]?=some u
 | [],i,x,j,u,h,_=>by cases h
 | y :: l,0,x,j,u,h,hu=>by
  cases h
  have hj:j<(enc y).length:=(List.getElem?_eq_some_iff.1 hu).1
  rw[List.flatMap_cons,Nat.zero_mul,Nat.zero_add,List.getElem?_append_left hj];exact hu
 | y :: l,i+1,x,j,u,h,hu=>by
  have h2:l[i]?=some x:=by simpa using h
  have hy:=hs y
  rw[List.flatMap_cons,List.getElem?_append_right (by rw[hy,Nat.add_mul];omega),hy]
  have:=flatMap_get hs l i x j u h2 hu
  rw[show(i+1)*s+j-s=i*s+j by rw[Nat.add_mul];omega]
  exact this
theorem own_slAt {α:Type} {W:World} {B:Nat} {T:TypeId} {s:Nat} {v:Value} {l:List α} {enc:α→List Value} (hs:∀x,(enc x).length=s) (h:W.ownsRow B T s v l.length (l.flatMap enc)) :
  SlAt v l.length s fun b o i=>∀x,l[i]?=some x→∀j u,(enc x)[j]?=some u→W.cell? ⟨b,o+j,none⟩=some u:=by
 rcases h.2 with ⟨rfl,h0⟩ | ⟨g,cap,cur,rfl,hb,hg,hnc,hcm,hcs,htk⟩
 ·rw[h0];exact slAt_none _ _ _ _ _ ⟨Nat.zero_le _,fun _=>rfl⟩ rfl
 ·refine slAt_some hnc hcm fun i hi x hx j u hu=>?_
  have h1:=flatMap_get hs l i x j u hx hu
  rw[←htk,List.getElem?_take] at h1
  split at h1
  ·rw[Array.getElem?_toList] at h1
   simp[World.cell?,hg,h1]
  ·cases h1
theorem ints_own {W:World} {B:Nat} {v:Value} {l:List Int} (h:W.ownsRow B 3 1 v l.length (l.map intC)):IntsAt W v l:=by
 rw[List.map_eq_flatMap] at h
 exact(own_slAt (enc:=fun n=>[intC n]) (fun _=>rfl) h).mono fun b o i hi hx=>by
  obtain⟨x,hx'⟩:∃x,l[i]?=some x:=⟨_,List.getElem?_eq_getElem hi⟩
  have:=hx x hx' 0 _ rfl
  rw[List.getD_eq_getElem?_getD,hx'];exact this
theorem exs_own {W:World} {b:Nat} {xb:Nat→Prop} {v:Value} {l:List Ex} (h:ExsOwn W b xb v l) (hg:AllGood l):ExsAt W v l:=by
 obtain⟨q,rfl,h2,h3⟩:=h
 rw[List.length_map] at h2
 unfold ExsAt
 rw[List.length_map]
 refine(own_slAt (enc:=fun p:Ex×Value=>exC p.1 p.2) (fun _=>rfl) h2).mono fun b o i hi hx x hx2=>?_
 rw[List.getElem?_map] at hx2
 obtain⟨p,hp,rfl⟩:=Option.map_eq_some_iff.1 hx2
 have c:=hx p hp
 refine⟨p.2,c 0 _ rfl,c 1 _ rfl,c 2 _ rfl,c 3 _ rfl,c 4 _ rfl,c 5 _ rfl,c 6 _ rfl,c 7 _ rfl,c 8 _ rfl,ints_own (h3 p (List.mem_of_getElem? hp)).1,?_⟩
 exact(hg i p.1 (by rw[List.getElem?_map,hp];rfl)).2
def shL:List UInt8:=[40,49,43,50,41,42,45,120]
def shT:List Tok:=[tokAt shL 0,tokAt shL 1,tokAt shL 2,tokAt shL 3,tokAt shL 4,tokAt shL 5,tokAt shL 6,tokAt shL 7]
def shU:List Tok:=[⟨4,[40],0,0⟩,⟨2,[49],4294967296,1⟩,⟨4,[43],0,2⟩,⟨2,[50],8589934592,3⟩,⟨4,[41],0,4⟩,⟨4,[42],0,5⟩,⟨4,[45],0,6⟩,⟨1,[120],0,7⟩]
theorem sh_lex:lexT shL shT none:=by
 unfold lexT shT
 rw[show gapTo false shL 0=0 by decide +kernel]
 refine .tok (by decide) (by decide +kernel) ?_
 rw[show gapTo false shL (0+(tokAt shL 0).text.length)=1 by decide +kernel]
 refine .tok (by decide) (by decide +kernel) ?_
 rw[show gapTo false shL (1+(tokAt shL 1).text.length)=2 by decide +kernel]
 refine .tok (by decide) (by decide +kernel) ?_
 rw[show gapTo false shL (2+(tokAt shL 2).text.length)=3 by decide +kernel]
 refine .tok (by decide) (by decide +kernel) ?_
 rw[show gapTo false shL (3+(tokAt shL 3).text.length)=4 by decide +kernel]
 refine .tok (by decide) (by decide +kernel) ?_
 rw[show gapTo false shL (4+(tokAt shL 4).text.length)=5 by decide +kernel]
 refine .tok (by decide) (by decide +kernel) ?_
 rw[show gapTo false shL (5+(tokAt shL 5).text.length)=6 by decide +kernel]
 refine .tok (by decide) (by decide +kernel) ?_
 rw[show gapTo false shL (6+(tokAt shL 6).text.length)=7 by decide +kernel]
 refine .tok (by decide) (by decide +kernel) ?_
 rw[show gapTo false shL (7+(tokAt shL 7).text.length)=8 by decide +kernel]
 exact .fin (by decide)
theorem sh_toks:shT=shU:=by
 have h0:tokAt shL 0=⟨4,[40],0,0⟩:=by kernel_rfl
 have h1:tokAt shL 1=⟨2,[49],4294967296,1⟩:=by kernel_rfl
 have h2:tokAt shL 2=⟨4,[43],0,2⟩:=by kernel_rfl
 have h3:tokAt shL 3=⟨2,[50],8589934592,3⟩:=by kernel_rfl
 have h4:tokAt shL 4=⟨4,[41],0,4⟩:=by kernel_rfl
 have h5:tokAt shL 5=⟨4,[42],0,5⟩:=by kernel_rfl
 have h6:tokAt shL 6=⟨4,[45],0,6⟩:=by kernel_rfl
 have h7:tokAt shL 7=⟨1,[120],0,7⟩:=by kernel_rfl
 unfold shT shU
 rw[h0,h1,h2,h3,h4,h5,h6,h7]
def shX:List Ex:=[{ ex0 with kind:=1,v:=4294967296,pos:=1 },{ ex0 with kind:=1,v:=8589934592,pos:=3 },{ ex0 with kind:=6,a:=0,b:=1,pos:=2 },{ ex0 with kind:=3,name:=str [120],pos:=7 },{ ex0 with kind:=4,a:=3,pos:=6 },{ ex0 with kind:=8,a:=2,b:=4,pos:=5 }]
theorem sh_run:∃lx,runE (shT++[endT shL.length]) 30 .expr rs0=some (5,lx,⟨8,shX,0,0,0⟩):=by
 rw[sh_toks]
 exact⟨[],by kernel_rfl⟩
theorem sh_good:AllGood shX:=by
 intro i x hx
 have hi:i<6:=by
  rcases Nat.lt_or_ge i 6 with h | h
  ·exact h
  ·rw[List.getElem?_eq_none (by exact h)] at hx;cases hx
 have hm:∀y,mayE y i=true→ExOk y→GoodX y i:=fun y h1 h2=>⟨h1,h2⟩
 match i,hi with
 | 0,_=>cases hx;exact hm _ (by decide) ⟨by unfold i64ok;decide,by unfold i64ok;decide,by unfold i64ok;decide,by unfold i64ok;decide,by unfold i64ok;decide,by decide,by decide,by decide,fun n hn=>by cases hn⟩
 | 1,_=>cases hx;exact hm _ (by decide) ⟨by unfold i64ok;decide,by unfold i64ok;decide,by unfold i64ok;decide,by unfold i64ok;decide,by unfold i64ok;decide,by decide,by decide,by decide,fun n hn=>by cases hn⟩
 | 2,_=>cases hx;exact hm _ (by decide) ⟨by unfold i64ok;decide,by unfold i64ok;decide,by unfold i64ok;decide,by unfold i64ok;decide,by unfold i64ok;decide,by decide,by decide,by decide,fun n hn=>by cases hn⟩
 | 3,_=>cases hx;exact hm _ (by decide) ⟨by unfold i64ok;decide,by unfold i64ok;decide,by unfold i64ok;decide,by unfold i64ok;decide,by unfold i64ok;decide,by decide,by decide,by decide,fun n hn=>by cases hn⟩
 | 4,_=>cases hx;exact hm _ (by decide) ⟨by unfold i64ok;decide,by unfold i64ok;decide,by unfold i64ok;decide,by unfold i64ok;decide,by unfold i64ok;decide,by decide,by decide,by decide,fun n hn=>by cases hn⟩
 | 5,_=>cases hx;exact hm _ (by decide) ⟨by unfold i64ok;decide,by unfold i64ok;decide,by unfold i64ok;decide,by unfold i64ok;decide,by unfold i64ok;decide,by decide,by decide,by decide,fun n hn=>by cases hn⟩
theorem sh_text:txtB shX 6 5 0=⟨#[40,49,32,43,32,50,41,32,42,32,45,120]⟩:=by kernel_rfl
theorem sh_cost:costE shX 6 5 0≤100:=by decide +kernel
theorem sh_small:Small ⟨[],shX⟩:=⟨by decide,by decide,by decide,fun d hd=>by cases hd⟩
theorem sh_may:mayP ⟨[],shX⟩=true:=by decide
end Go.Proofs.YthpgfahlccljnaaGreatDoor
namespace Go.Proofs.YthpgfahlccljnaaGreatDoor
open Go.RowKit
def Row (w:World) (B:Nat) (l:List UInt8):Prop :=
 ∀(j:Nat) (x:UInt8),l[j]?=some x→w.cell? ⟨B,j,none⟩=some (.int .u8 (x.toNat:Int))∧w.frozen? ⟨B,j,none⟩=false
theorem row_made (w:World) (n:Nat) (T:TypeId):Row (w.alloc (.cells (madeCells #[.int .u8 0] n) T)) w.heap.size (List.replicate n 0):=fun j x h=>by
 refine⟨?_,World.frozen?_alloc_new _ _ _ _⟩
 have hj:j<n:=by have:=(List.getElem?_eq_some_iff.1 h).1;simpa using this
 rw[World.cell?_alloc_new]
 have e:(madeCells #[Value.int .u8 0] n)[j]?=(List.replicate n (Value.int .u8 0))[j]?:=by rw[←toList_madeCells_one,Array.getElem?_toList]
 rw[e,List.getElem?_replicate,if_pos hj]
 rw[List.getElem?_replicate,if_pos hj] at h
 cases h
 rfl
theorem row_cell {w:World} {B:Nat} {l:List UInt8} (h:Row w B l) {j:Nat} {x:UInt8} (hx:l[j]?=some x):w.cell? ⟨B,j,none⟩=some (.int .u8 (x.toNat:Int)):=(h j x hx).1
theorem row_frozen {w:World} {B:Nat} {l:List UInt8} (h:Row w B l) {j:Nat} {x:UInt8} (hx:l[j]?=some x):w.frozen? ⟨B,j,none⟩=false:=(h j x hx).2
theorem row_set {w:World} {B:Nat} {l:List UInt8} (h:Row w B l) (j:Nat) (x:UInt8) (hj:j<l.length):Row (w.setCell ⟨B,j,none⟩ (.int .u8 (x.toNat:Int))) B (l.set j x):=fun i y hy=>by
 obtain⟨x0,h0⟩:∃x0,l[j]?=some x0:=⟨l[j],List.getElem?_eq_getElem hj⟩
 refine⟨?_,by
  rw[World.frozen?_setCell]
  exact(h i (l[i]'(by have:=(List.getElem?_eq_some_iff.1 hy).1;simpa using this)) (List.getElem?_eq_getElem _)).2⟩
 by_cases e:i=j
 ·subst e
  rw[World.cell?_setCell_same _ _ _ (h i x0 h0).1]
  rw[List.getElem?_set_self hj] at hy
  cases hy
  rfl
 ·rw[World.cell?_setCell_other _ _ _ _ (by simp)]
  rw[List.getElem?_set_ne (Ne.symm e)] at hy
  exact(h i y hy).1
theorem row_string {w:World} {B:Nat} {l:List UInt8} (h:Row w B l) (cap:Nat) :
  (convert 55 9 (.slice (some ⟨B,0,none⟩) l.length cap)).run prog w=.ok (.string (str l)) w :=
 run_convert_bytes_back w _ _ 5 ⟨B,0,none⟩ cap l Tryz.underlying55 Tryz.underlying5 Tryz.underlying9 (fun j hj=>by
  rw[Lib.add_plain,Nat.zero_add];exact(h j l[j] (List.getElem?_eq_getElem hj)).1)
theorem dg_toNat {n:Nat} (h:n<10):(dg n).toNat=48+n:=by unfold dg;rw[UInt8.toNat_ofNat_of_lt' (by show 48+n<256;omega)]
theorem set_next (a:List UInt8) (n:Nat) (x y:UInt8):(a++List.replicate (n+1) y).set a.length x=(a++[x])++List.replicate n y:=by
 rw[List.set_append_right _ _ (qL _),Nat.sub_self,List.replicate_succ];simp
theorem u8_info:∃i,prog.info? 5=some i∧i.zero=some (.int .u8 0)∧i.size=1∧i.bytes=1:=by
 have h:(prog.info? 5).map (fun i=>(i.zero,i.size,i.bytes))=some (some (.int .u8 0),1,1):=by kernel_rfl
 obtain⟨i,h1,h2⟩:=Option.map_eq_some_iff.1 h
 simp only[Prod.mk.injEq] at h2
 exact⟨i,h1,h2.1,h2.2.1,h2.2.2⟩
theorem make_row (N:Nat) (hN:(N:Int)≤100) (w:World):(Instr.makeSlice 55 (.int .i64 (N:Int)) (.int .i64 (N:Int))).run prog w=.ok (.slice (some ⟨w.heap.size,0,none⟩) N N) (w.alloc (.cells (madeCells #[.int .u8 0] N) 5)):=by
 obtain⟨i,h1,h2,h3,h4⟩:=u8_info
 have h:=run_makeSlice (P:=prog) w 55 5 i (.int .u8 0) Tryz.underlying55 h1 h2 .i64 .i64 (N:Int) (N:Int) (by omega) (by omega) (by rw[h3];omega) (by rw[h4];omega) (by omega)
 rw[h3] at h
 simpa [Value.cells] using h
theorem digits_behind (N:Nat) (hN:(N:Int)≤32) (β:Nat) (hβ:(β:Int)≤4294967295) (w:World) :
  Calls prog 90 #[.int .u32 (β:Int),.int .i64 (N:Int)] w fun e w'=>StrPost (frac N β) w e w':=by
 have hmk:=make_row N (by omega)
 go_enter Tryz.func90,Tryz.ntmps90
 go_wp2_with fail
 go_loopw [14,6] (fun i left wr=>∃κ:Nat,κ≤N∧i=.int .i64 κ∧left=.int .u64 (rest κ β:Nat)∧Hid (Row wr w.heap.size (frac κ β++List.replicate (N - κ) 0))∧Hid (Below w.heap.size w wr)) (fun i _ _=>N-(intOf i).toNat)
 case atStart=>exact⟨0,by omega,rfl,rfl,Hd (row_made _ _ _),Hd ((qB _ w).alloc (qL _) _)⟩
 case round =>
  rename_i wr
  obtain⟨κ,hκ,rfl,rfl,hr,hb⟩:=hrel
  rcases Nat.lt_or_ge κ N with hlt | hge
  ·obtain⟨M,hM⟩:∃M,N=κ+(M+1):=⟨N - κ-1,by omega⟩
   have e0:N - κ=M+1:=by omega
   rw[e0] at hr
   have hlen:=frac_length κ β
   have hx:(frac κ β++List.replicate (M+1) 0)[κ]?=some 0:=by
    rw[List.getElem?_append_right (by omega),hlen,Nat.sub_self];rfl
   have c0:=row_cell hr.out hx
   have f0:=row_frozen hr.out hx
   have hset:=row_set hr.out κ (dg (rest κ β*10 / 4294967296)) (by rw[List.length_append,hlen,List.length_replicate];omega)
   have e1:(frac κ β++List.replicate (M+1) 0).set κ (dg (rest κ β*10 / 4294967296))=frac (κ+1) β++List.replicate M 0:=by
    have:=set_next (frac κ β) M (dg (rest κ β*10 / 4294967296)) 0
    rw[hlen] at this
    rw[this,frac_snoc]
   rw[e1] at hset
   have hρ:=rest_lt κ (b:=β) (by omega)
   have hd:=dg_toNat (n:=rest κ β*10 / 4294967296) (by omega)
   rw[hd] at hset
   have hrs:=rest_succ κ β
   obtain⟨ρ,hρe⟩:∃ρ,ρ=rest κ β:=⟨_,rfl⟩
   rw[←hρe] at hset hρ hrs
   obtain⟨d,hde⟩:∃d,d=ρ*10 / 4294967296:=⟨_,rfl⟩
   rw[←hde] at hset
   have x0:IntKind.u64.wrap ((ρ:Int)*10)=((ρ*10:Nat):Int):=by rw[IntKind.wrap_u64];omega
   have x1:((ρ*10:Nat):Int) / 4294967296=(d:Int):=by omega
   have x2:bits .and .u64 ((ρ*10:Nat):Int) 4294967295=((rest (κ+1) β:Nat):Int):=by
    rw[and_low32 _ (by omega) (by omega),hrs];omega
   have x3:(d:Int)≤9:=by omega
   generalize ρ*10=T at x0 x1 x2
   rw[←hρe]
   have HS:=Hd hset
   have RS:=Hd hr
   have E:=Hd hρe
   clear hset hr hρe hrs hρ hde hd e1 hlen hx e0
   go_wp2_with fail
   refine⟨⟨κ+1,by omega,rfl,rfl,?_,Hd (hb.out.setCell (qL _) _)⟩,by simp[intOf];omega⟩
   have e2:N-(κ+1)=M:=by omega
   rw[e2]
   exact HS
  ·obtain rfl:κ=N:=by omega
   rw[Nat.sub_self,List.replicate_zero,List.append_nil] at hr
   have hcv:=row_string hr.out κ
   rw[frac_length] at hcv
   go_wp2_with fail
   go_ret
   exact⟨rfl,hb.out⟩
end Go.Proofs.YthpgfahlccljnaaGreatDoor
namespace Go.Proofs.YthpgfahlccljnaaGreatDoor
open Go.Shelf Go.RowKit Go.Sort Go.Lib
def Tab (w:World):Prop:=Lib.TabIs prog w "internal/strconv.uint64pow10" .u64 Lib.pow10Tab
theorem glob_pow:prog.globalNamed "internal/strconv.uint64pow10"=some 2:=by kernel_rfl
theorem tab_below {w w':World} (h:Tab w) (hb:Below w.heap.size w w'):Tab w':=Joins.tab_stays glob_pow h hb (qL _)
theorem digs_dec (n:Nat):Lib.decDigits n=digs n:=by
 induction n using Nat.strongRecOn with
 | _ n ih =>
  rw[Lib.decDigits,digs]
  by_cases h:n<10
  ·rw[dif_pos h,if_pos h];rfl
  ·rw[dif_neg h,if_neg h,ih (n / 10) (by omega)];rfl
theorem fin_zero (w:World) (o:Obj) (dk:Array UInt8) (k:Nat):∃os,(putRow (fun(b:UInt8)=>Value.int .u8 (b.toNat:Int)) (w.alloc o) w.heap.size 0 dk).drewN k=grow (w.drewN k) os:=by
 rw[alloc_eq_grow]
 obtain⟨os',_,e⟩:=putRow_grow_new (fun(b:UInt8)=>Value.int .u8 (b.toNat:Int)) w #[o] w.heap.size 0 dk (qL _)
 exact⟨os',by rw[e];rfl⟩
theorem holds_zero0 (w:World) (T:TypeId) (nd:Nat) (hs:nd≤24):Holds (fun(b:UInt8)=>Value.int .u8 (b.toNat:Int)) (w.alloc (.cells zeros24 T)) w.heap.size 0 (Array.replicate nd (0:UInt8)):=fun j hj=>by
 have hj':j<nd:=by simpa using hj
 refine⟨?_,World.frozen?_alloc_new _ _ _ _⟩
 rw[World.cell?_alloc_new,zeros24_at _ (by omega),getElem!_pos _ j hj]
 simp
theorem format_inner (n:Nat) (h1:n<18446744073709551616) (w:World) (htab:Tab w) :
  Calls prog 93 #[.int .u64 n,.int .i64 10] w fun e w'=>e=.returned (.string (str (digs n)))∧Below w.heap.size w w':=by
 rw[←digs_dec]
 by_cases hs:n<100
 ·go_enter Tryz.func93,Tryz.ntmps93
  go_wp2_with (go_at_call 98;refine(Tryz.internal_strconv_small n hs _).mono ?_;rintro e w' ⟨rfl,rfl⟩)
  go_ret
  exact⟨rfl,qB _ _⟩
 ·have hu1:1≤n:=by omega
  have hnd20:Lib.nDigits n≤20:=by have:=Lib.numDigits_eq n hu1 h1;split at this <;> omega
  have hb3:Lib.nDigits n≤24:=by omega
  have hal:prog.arrayLen 147=24:=by kernel_rfl
  have hsl1:∀W,(Instr.sliceAt 147 (.pointer (some ⟨w.heap.size,0,none⟩)) none (some (.int .i64 (Lib.nDigits n:Int))) none).run prog W=.ok (.slice (some ⟨w.heap.size,0,none⟩) (Lib.nDigits n) 24) W:=fun W=>by
   rw[run_sliceAt_array_h W 147 ⟨w.heap.size,0,none⟩ (by simp[Program.arrayLen,Program.elem,Tryz.underlying147]) .i64 (Lib.nDigits n:Int) (by omega) (by rw[hal];omega)]
   go_simp
  have hH0:=holds_zero0 w 147 (Lib.nDigits n) hb3
  have hfmt:=Tryz.internal_strconv_formatBase10 w.heap.size 0 24 n (Array.replicate (Lib.nDigits n) 0) (w.alloc (.cells Lib.zeros24 147)) hH0 (by rw[Array.size_replicate];exact Lib.lt_pow_nDigits n) h1 (by rw[Array.size_replicate];omega)
  rw[Array.size_replicate] at hfmt
  have HH0:=Hd hH0
  clear hH0 hal
  go_enter Tryz.func93,Tryz.ntmps93
  go_wp2_with (first
   | (go_at_call 99;refine(Tryz.internal_strconv_numDigits n hu1 h1 _ (Lib.tabIs_alloc htab _)).mono ?_;rintro e w' ⟨rfl,rfl⟩))
  refine hfmt.mono ?_
  rintro e w' ⟨rfl,k,v',dk,rfl,hF⟩
  have hcv:(convert 55 9 (.slice (some ⟨w.heap.size,0,none⟩) (Lib.nDigits n) 24)).run prog ((putRow (fun(b:UInt8)=>Value.int .u8 (b.toNat:Int)) (w.alloc (.cells Lib.zeros24 147)) w.heap.size 0 dk).drewN k)=.ok (.string ⟨(Lib.decDigits n).toArray⟩) ((putRow (fun(b:UInt8)=>Value.int .u8 (b.toNat:Int)) (w.alloc (.cells Lib.zeros24 147)) w.heap.size 0 dk).drewN k):=by
   have h:=run_convert_bytes_back (P:=prog) ((putRow (fun(b:UInt8)=>Value.int .u8 (b.toNat:Int)) (w.alloc (.cells Lib.zeros24 147)) w.heap.size 0 dk).drewN k) 55 9 5 ⟨w.heap.size,0,none⟩ 24 (Lib.decDigits n) Tryz.underlying55 Tryz.underlying5 Tryz.underlying9 (fun j hj=>by
    rw[Lib.row_is_numeral hF j hj,Lib.add_plain,World.cell?_drewN]
    exact cell?_putRow (fun(b:UInt8)=>Value.int .u8 (b.toNat:Int)) _ w.heap.size 0 _ dk HH0.out (by rw[hF.size,Array.size_replicate]) j (by rw[hF.size];rw[Lib.decDigits_length] at hj;exact hj))
   rw[Lib.decDigits_length] at h
   exact h
  go_wp2
  go_ret
  obtain⟨os,eo⟩:=fin_zero w (.cells Lib.zeros24 147) dk k
  refine⟨rfl,?_⟩
  rw[eo]
  exact below_grow _ _ (qL _) _ _
theorem format_uint (n:Nat) (h1:n<18446744073709551616) (w:World) (htab:Tab w) :
  Calls prog 88 #[.int .u64 n,.int .i64 10] w fun e w'=>e=.returned (.string (str (digs n)))∧Below w.heap.size w w':=by
 go_enter Tryz.func88,Tryz.ntmps88
 go_wp2_with (go_at_call 93;refine(format_inner n h1 w htab).mono ?_;rintro e w' ⟨rfl,hb⟩)
 go_ret
 exact⟨rfl,hb⟩
end Go.Proofs.YthpgfahlccljnaaGreatDoor
namespace Go.Proofs.YthpgfahlccljnaaGreatDoor
open Go.RowKit
theorem str_data (l:List UInt8):(str l).data.toList=l:=by unfold str;simp
theorem join_flat:∀xs:List (List UInt8),Lib.join xs []=xs.flatten:=by
 intro xs
 cases xs with
 | nil=>rfl
 | cons x r=>rw[Lib.join_cons];unfold Lib.joinTail;simp
theorem joined_any (bk c:Nat) (ls:List (List UInt8)) (w:World) (hcells:∀(j:Nat) x,ls[j]?=some x→w.cell? ⟨bk,j,none⟩=some (.string (str x))) (hbk:bk<w.heap.size) (hN:ls.length≤100)
  (hcap:ls.length≤c) (hlen:ls.flatten.length≤1000) :
  Calls prog 91 #[.slice (some ⟨bk,0,none⟩) ls.length c] w fun e w'=>StrPost ls.flatten w e w':=by
 have em:(ls.map str).map (·.data.toList)=ls:=by
  rw[List.map_map]
  conv=>rhs;rw[←List.map_id ls]
  exact List.map_congr_left (fun x _=>str_data x)
 have h:=Tryz.strings_Join bk 0 c (ls.map str) ⟨#[]⟩ w (fun j x hx=>by
  rw[List.getElem?_map] at hx
  obtain⟨y,hy,rfl⟩:=Option.map_eq_some_iff.1 hx
  rw[Nat.zero_add]
  exact hcells j y hy) hbk (by rw[List.length_map];omega) (by rw[List.length_map];exact hcap) (by rw[em];show(Lib.join ls []).length≤_;rw[join_flat];omega)
 rw[em,show Lib.join ls (({data:=#[]}:ByteArray)).data.toList=ls.flatten from join_flat ls,List.length_map] at h
 have H:=Hd h
 clear h
 go_enter Tryz.func91,Tryz.ntmps91
 go_wp2_with (go_at_call 67;refine H.out.mono ?_;rintro e w' ⟨rfl,hb⟩)
 go_ret
 exact⟨rfl,hb⟩
theorem trim_zero (l:List UInt8) (w:World) (h:l.length≤1000) :
  Calls prog 89 #[.string (str l),.string ⟨#[48]⟩] w fun e w'=>e=.returned (.string (str (strip l)))∧w'=w:=by
 have h:=Tryz.strings_TrimRight_one (str l) 48 (by decide) w (by rw[str_size];omega)
 rw[str_data] at h
 exact h
theorem cells_two (w:World) (T:TypeId) (a b:List UInt8):∀(j:Nat) x,[a,b][j]?=some x→(w.alloc (.cells #[.string (str a),.string (str b)] T)).cell? ⟨w.heap.size,j,none⟩=some (.string (str x)):=fun j x h=>by
 rw[World.cell?_alloc_new]
 match j,h with
 | 0,h=>cases h;rfl
 | 1,h=>cases h;rfl
theorem cells_four (w:World) (T:TypeId) (a b c d:List UInt8):∀(j:Nat) x,[a,b,c,d][j]?=some x→(w.alloc (.cells #[.string (str a),.string (str b),.string (str c),.string (str d)] T)).cell? ⟨w.heap.size,j,none⟩=some (.string (str x)):=fun j x h=>by
 rw[World.cell?_alloc_new]
 match j,h with
 | 0,h=>cases h;rfl
 | 1,h=>cases h;rfl
 | 2,h=>cases h;rfl
 | 3,h=>cases h;rfl
theorem short_pos (q n:Int) (u N α β:Nat) (R:List UInt8) (w:World) (hq:decide (q<0)=false) (es:IntKind.u64.wrap q=(u:Int)) (m0:Int) (em:max n 0=m0) (en:min m0 32=(N:Int)) (ea:(u:Int) / 4294967296=(α:Int)) (eb:IntKind.u32.wrap (u:Int)=(β:Int))
  (f:List UInt8) (hR:R=[]++digs α++tail f) (hlen:Hid ((digs α).length+f.length≤900))
  (F:Hid (∀w',Below w.heap.size w w'→Calls prog 88 #[.int .u64 α,.int .i64 10] w' fun e w''=>e=.returned (.string (str (digs α)))∧Below w'.heap.size w' w''))
  (g:List UInt8) (D:Hid (∀w',Calls prog 90 #[.int .u32 (β:Int),.int .i64 (N:Int)] w' fun e w''=>StrPost g w' e w''))
  (T:Hid (∀w',Calls prog 89 #[.string (str g),.string ⟨#[48]⟩] w' fun e w''=>e=.returned (.string (str f))∧w''=w')) :
  Calls prog 86 #[.int .i64 q,.int .i64 n] w fun e w'=>StrPost R w e w':=by
 have HR:=Hd hR
 clear hR
 rcases Nat.eq_zero_or_pos f.length with hf | hf
 ·obtain rfl:=List.eq_nil_of_length_eq_zero hf
  rw[str_nil] at T
  clear hf
  go_enter Tryz.func86,Tryz.ntmps86
  go_wp2_with (first
   | (go_at_call 88;refine(F.out _ (qB _ _)).mono ?_;rintro e w1 ⟨rfl,b1⟩;have B1:=Hd b1;clear b1)
   | (go_at_call 90;refine(D.out _).mono ?_;rintro e w2 ⟨rfl,b2⟩;have B2:=Hd b2;clear b2)
   | (go_at_call 89;refine(T.out _).mono ?_;rintro e w3 ⟨rfl,rfl⟩)
   | (go_at_call 91;refine(joined_any _ 2 [[],digs α] _ (cells_two _ _ _ _) (by simp) (by simp) (by simp) (by have:=hlen.out;simp at this ⊢;omega)).mono ?_;rintro e w4 ⟨rfl,b4⟩;have B4:=Hd b4;clear b4))
  go_ret
  exact⟨by rw[HR.out];simp[tail],(B1.out.trans (B2.out.mono B1.out.size)).trans (((qB _ _).alloc (qL _) _).trans (B4.out.mono (by simp)) |>.mono (Nat.le_trans B1.out.size B2.out.size))⟩
 ·have z1:=str_some_empty f hf
  have ht:tail f=46 :: f:=by unfold tail;rw[if_neg (by rintro rfl;simp at hf)]
  have HT:=Hd ht
  clear ht hf
  go_enter Tryz.func86,Tryz.ntmps86
  go_wp2_with (first
   | (go_at_call 88;refine(F.out _ (qB _ _)).mono ?_;rintro e w1 ⟨rfl,b1⟩;have B1:=Hd b1;clear b1)
   | (go_at_call 90;refine(D.out _).mono ?_;rintro e w2 ⟨rfl,b2⟩;have B2:=Hd b2;clear b2)
   | (go_at_call 89;refine(T.out _).mono ?_;rintro e w3 ⟨rfl,rfl⟩)
   | (go_at_call 91;refine(joined_any _ 4 [[],digs α,[46],f] _ (cells_four _ _ _ _ _ _) (by simp) (by simp) (by simp) (by have:=hlen.out;simp at this ⊢;omega)).mono ?_;rintro e w4 ⟨rfl,b4⟩;have B4:=Hd b4;clear b4))
  go_ret
  exact⟨by rw[HR.out,HT.out];simp,(B1.out.trans (B2.out.mono B1.out.size)).trans (((qB _ _).alloc (qL _) _).trans (B4.out.mono (by simp)) |>.mono (Nat.le_trans B1.out.size B2.out.size))⟩
theorem short_below (q n:Int) (u N α β:Nat) (R:List UInt8) (w:World) (hq:decide (q<0)=true) (v:Int) (es0:IntKind.u64.wrap q=v) (es:IntKind.u64.wrap (-v)=(u:Int)) (m0:Int) (em:max n 0=m0) (en:min m0 32=(N:Int)) (ea:(u:Int) / 4294967296=(α:Int)) (eb:IntKind.u32.wrap (u:Int)=(β:Int))
  (f:List UInt8) (hR:R=[45]++digs α++tail f) (hlen:Hid ((digs α).length+f.length≤900))
  (F:Hid (∀w',Below w.heap.size w w'→Calls prog 88 #[.int .u64 α,.int .i64 10] w' fun e w''=>e=.returned (.string (str (digs α)))∧Below w'.heap.size w' w''))
  (g:List UInt8) (D:Hid (∀w',Calls prog 90 #[.int .u32 (β:Int),.int .i64 (N:Int)] w' fun e w''=>StrPost g w' e w''))
  (T:Hid (∀w',Calls prog 89 #[.string (str g),.string ⟨#[48]⟩] w' fun e w''=>e=.returned (.string (str f))∧w''=w')) :
  Calls prog 86 #[.int .i64 q,.int .i64 n] w fun e w'=>StrPost R w e w':=by
 have HR:=Hd hR
 clear hR
 rcases Nat.eq_zero_or_pos f.length with hf | hf
 ·obtain rfl:=List.eq_nil_of_length_eq_zero hf
  rw[str_nil] at T
  clear hf
  go_enter Tryz.func86,Tryz.ntmps86
  go_wp2_with (first
   | (go_at_call 88;refine(F.out _ (qB _ _)).mono ?_;rintro e w1 ⟨rfl,b1⟩;have B1:=Hd b1;clear b1)
   | (go_at_call 90;refine(D.out _).mono ?_;rintro e w2 ⟨rfl,b2⟩;have B2:=Hd b2;clear b2)
   | (go_at_call 89;refine(T.out _).mono ?_;rintro e w3 ⟨rfl,rfl⟩)
   | (go_at_call 91;refine(joined_any _ 2 [[45],digs α] _ (cells_two _ _ _ _) (by simp) (by simp) (by simp) (by have:=hlen.out;simp at this ⊢;omega)).mono ?_;rintro e w4 ⟨rfl,b4⟩;have B4:=Hd b4;clear b4))
  go_ret
  exact⟨by rw[HR.out];simp[tail],(B1.out.trans (B2.out.mono B1.out.size)).trans (((qB _ _).alloc (qL _) _).trans (B4.out.mono (by simp)) |>.mono (Nat.le_trans B1.out.size B2.out.size))⟩
 ·have z1:=str_some_empty f hf
  have ht:tail f=46 :: f:=by unfold tail;rw[if_neg (by rintro rfl;simp at hf)]
  have HT:=Hd ht
  clear ht hf
  go_enter Tryz.func86,Tryz.ntmps86
  go_wp2_with (first
   | (go_at_call 88;refine(F.out _ (qB _ _)).mono ?_;rintro e w1 ⟨rfl,b1⟩;have B1:=Hd b1;clear b1)
   | (go_at_call 90;refine(D.out _).mono ?_;rintro e w2 ⟨rfl,b2⟩;have B2:=Hd b2;clear b2)
   | (go_at_call 89;refine(T.out _).mono ?_;rintro e w3 ⟨rfl,rfl⟩)
   | (go_at_call 91;refine(joined_any _ 4 [[45],digs α,[46],f] _ (cells_four _ _ _ _ _ _) (by simp) (by simp) (by simp) (by have:=hlen.out;simp at this ⊢;omega)).mono ?_;rintro e w4 ⟨rfl,b4⟩;have B4:=Hd b4;clear b4))
  go_ret
  exact⟨by rw[HR.out,HT.out];simp,(B1.out.trans (B2.out.mono B1.out.size)).trans (((qB _ _).alloc (qL _) _).trans (B4.out.mono (by simp)) |>.mono (Nat.le_trans B1.out.size B2.out.size))⟩
theorem digs_length (n:Nat) (h:n<18446744073709551616):(digs n).length≤20:=by
 rcases Nat.eq_zero_or_pos n with rfl | h1
 ·decide +kernel
 ·rw[←digs_dec,Lib.decDigits_length]
  have:=Lib.numDigits_eq n h1 h
  split at this <;> omega
theorem strip_length (l:List UInt8):(strip l).length≤l.length:=by
 unfold strip
 rw[List.length_reverse]
 refine Nat.le_trans ((List.dropWhile_suffix _).length_le) ?_
 rw[List.length_reverse]
 exact qL _
theorem short_dec (q n:Int) (w:World) (htab:Tab w) (h1:-9223372036854775808≤q) (h2:q≤9223372036854775807) :
  Calls prog 86 #[.int .i64 q,.int .i64 n] w fun e w'=>StrPost (shortL q n) w e w':=by
 have hN:((clip n:Nat):Int)≤32:=by unfold clip;omega
 have hlen:(digs (q.natAbs / 4294967296)).length+(strip (frac (clip n) (q.natAbs % 4294967296))).length≤900:=by
  have a1:=digs_length (q.natAbs / 4294967296) (by omega)
  have a2:=strip_length (frac (clip n) (q.natAbs % 4294967296))
  rw[frac_length] at a2
  omega
 have F:∀w',Below w.heap.size w w'→Calls prog 88 #[.int .u64 ((q.natAbs / 4294967296:Nat):Int),.int .i64 10] w' fun e w''=>e=.returned (.string (str (digs (q.natAbs / 4294967296))))∧Below w'.heap.size w' w'' :=
  fun w' hb=>format_uint _ (by omega) w' (tab_below htab hb)
 have D:∀w',Calls prog 90 #[.int .u32 ((q.natAbs % 4294967296:Nat):Int),.int .i64 (clip n:Int)] w' fun e w''=>StrPost (frac (clip n) (q.natAbs % 4294967296)) w' e w'' :=
  fun w'=>digits_behind (clip n) hN _ (by omega) w'
 have T:∀w',Calls prog 89 #[.string (str (frac (clip n) (q.natAbs % 4294967296))),.string ⟨#[48]⟩] w' fun e w''=>e=.returned (.string (str (strip (frac (clip n) (q.natAbs % 4294967296)))))∧w''=w' :=
  fun w'=>trim_zero _ w' (by rw[frac_length];omega)
 by_cases hq:q<0
 ·have es:IntKind.u64.wrap (-(IntKind.u64.wrap q))=((q.natAbs:Nat):Int):=by rw[IntKind.wrap_u64,IntKind.wrap_u64];omega
  exact short_below q n q.natAbs (clip n) (q.natAbs / 4294967296) (q.natAbs % 4294967296) _ w (qT hq) _ rfl es _ rfl (by unfold clip;omega) (by omega) (by rw[IntKind.wrap_u32];omega)
   _ (by unfold shortL;rw[if_pos hq]) (Hd hlen) (Hd F) _ (Hd D) (Hd T)
 ·have es:IntKind.u64.wrap q=((q.natAbs:Nat):Int):=by rw[IntKind.wrap_u64];omega
  exact short_pos q n q.natAbs (clip n) (q.natAbs / 4294967296) (q.natAbs % 4294967296) _ w (qF hq) es _ rfl (by unfold clip;omega) (by omega) (by rw[IntKind.wrap_u32];omega)
   _ (by unfold shortL;rw[if_neg hq]) (Hd hlen) (Hd F) _ (Hd D) (Hd T)
theorem print_dec (q:Int) (w:World) (htab:Tab w) (h1:-9223372036854775808≤q) (h2:q≤9223372036854775807) :
  Calls prog 77 #[.int .i64 q] w fun e w'=>StrPost (shortL q 32) w e w':=by
 go_enter Tryz.func77,Tryz.ntmps77
 go_wp2_with (go_at_call 86;refine(short_dec q 32 w htab h1 h2).mono ?_;rintro e w' ⟨rfl,hb⟩)
 go_ret
 exact⟨rfl,hb⟩
end Go.Proofs.YthpgfahlccljnaaGreatDoor
namespace Go.Proofs.YthpgfahlccljnaaGreatDoor
open Go.RowKit Lx
theorem print_all (l:List Ex) (hg:AllGood l) (W:World) (hT:Tab W):∀x ∈ l,x.kind=1→∀Y,Below W.heap.size W Y→Calls prog 77 #[.int .i64 x.v] Y fun r Z=>r=.returned (.string (str (shortL x.v 32)))∧Below Y.heap.size Y Z:=fun x hx _ Y hY=>by
 obtain⟨i,hi⟩:=List.getElem?_of_mem hx
 have hv:=(hg i x hi).2.v
 exact(print_dec x.v Y (tab_below hT hY) hv.1 hv.2).mono fun r Z h=>⟨h.1,h.2⟩
theorem sh_read (w:World):Calls prog 11 #[.string ⟨#[40,49,43,50,41,42,45,120]⟩,.bool true] w fun r Y=>∃b off c,r=.returned (.tuple #[.agg #[.slice none 0 0,.slice (some ⟨b,off,none⟩) 6 c],.int .i64 5,.agg #[.int .i64 0,.int .i64 0]])∧Hid ((∀i,i<6→∀x,shX[i]?=some x→ExAt Y b (off+i*9) x)∧6≤c∧c≤maxLen∧Below w.heap.size w Y):=by
 obtain⟨lx,hr⟩:=sh_run
 refine(parse_expr_ok shL shT (Hd sh_lex) (by decide) 30 5 lx _ (Hd hr) (Hd rfl) (Hd (by rw[sh_toks];decide)) w).mono fun r Y ⟨o,c,h1,h2,h3⟩=>?_
 obtain⟨o',cap,b,off,e0,hn,hc,e2,e3⟩:=exs_own h2 sh_good
 cases e0
 have e4:=e2 (by decide)
 subst e4
 exact⟨b,off,c,h1,Hd ⟨e3,hn,hc.1,h3⟩⟩
theorem sh_show (b off c:Nat) (W:World) (hx:∀i,i<6→∀x,shX[i]?=some x→ExAt W b (off+i*9) x) (h6:6≤c) (hc:c≤maxLen) (hS:SgnAt W) (hT:Tab W) :
  Calls prog 7 #[.agg #[.slice none 0 0,.slice (some ⟨b,off,none⟩) 6 c],.int .i64 5] W fun r Y=>r=.returned (.string ⟨#[40,49,32,43,32,50,41,32,42,32,45,120]⟩)∧Below W.heap.size W Y:=by
 have hp:∀Y,Below W.heap.size W Y→ProgAt Y (.slice none 0 0) (.slice (some ⟨b,off,none⟩) 6 c) ⟨[],shX⟩:=fun Y hY =>
  ⟨slAt_none _ _ _ _ _ ⟨Nat.zero_le _,fun _=>rfl⟩ rfl,slAt_some h6 hc fun i hi x hxi=>(hx i hi x hxi).below hY,by show(0:Nat)≤reachN;exact Nat.zero_le _,by show(6:Nat)≤reachN;unfold reachN;decide⟩
 refine expr_some none (some ⟨b,off,none⟩) 0 0 6 c 5 (by decide) W _ (Hd fun Y hY=>(may_any _ _ ⟨[],shX⟩ Y (hp Y hY) sh_small).mono fun r Z h=>⟨by rw[←sh_may];exact h.1,Hd h.2⟩) (Hd fun Y hY=>?_)
 refine(textOf_core shX 6 (Hd rfl) (by decide) (Hd fun i x hi=>(sh_good i x hi).1) (Hd (by decide)) (some ⟨b,off,none⟩) c b off Y (Hd fun _=>rfl) (Hd fun i hi x hxi=>(hx i hi x hxi).below hY) (Hd fun k hk=>cell_below hY (hS k hk)) (Hd (print_all shX sh_good Y (tab_below hT hY))) 5 (by decide) _ (Hd sh_text.symm) (by decide) _ (Hd rfl) (by have:=sh_cost;show(costE shX 6 5 0:Int)≤_;omega)).mono fun r Z h=>⟨h.1,Hd h.2⟩
theorem alive_sh (w:World) (hS:SgnAt w) (hT:Tab w):Calls prog 4 #[] w fun r Y=>r=.returned (.bool true)∧Below w.heap.size w Y:=by
 have C:=Hd (sh_read w)
 have HS:=Hd hS
 have HT:=Hd hT
 clear hS hT
 go_enter Tryz.func4,Tryz.ntmps4
 go_wp2_with (first
  | (go_at_call 11;(with_reducible refine C.out.mono ?_);rintro e w1 ⟨b,off,c,rfl,h1⟩)
  | (go_at_call 7;
     obtain⟨V,hV⟩:∃V,V=(w1.alloc (.cells #[.slice none 0 0,.slice (some ⟨b,off,none⟩) 6 c] 25)).alloc (.cells #[.int .i64 0,.int .i64 0] 41):=⟨_,rfl⟩;
     have hbv:Below w1.heap.size w1 V:=(by rw[hV];exact((qB _ _).alloc (qL _) _).alloc (by simp) _);
     have hbW:=h1.out.2.2.2.trans (hbv.mono h1.out.2.2.2.size);
     rw[←hV];clear hV;
     have CS:=Hd (sh_show b off c V (fun i hi x hx=>(h1.out.1 i hi x hx).below hbv) h1.out.2.1 h1.out.2.2.1 (fun k hk=>cell_below hbW (HS.out k hk)) (tab_below HT.out hbW));
     have HBW:=Hd hbW;clear hbv hbW;
     (with_reducible refine CS.out.mono ?_);rintro e w2 ⟨rfl,h2⟩))
 go_ret
 exact⟨rfl,HBW.out.trans (h2.mono HBW.out.size)⟩
end Go.Proofs.YthpgfahlccljnaaGreatDoor
