import Derived.Test.YthpgfahlccljnaaGreatDoorSw09
import Derived.Deep.AppendLies
import Derived.Deep.RegionLaw
import Derived.Test.YthpgfahlccljnaaGreatDoorSw06
import Derived.Deep.RegionHeld3
import Derived.Deep.CutRange
set_option maxHeartbeats 16000000
set_option maxRecDepth 100000
open Go.Proofs.Tryz(prog)
namespace Go.Proofs.YthpgfahlccljnaaGreatDoor
open Go.RowKit Lx
theorem ex_info:(prog.info? 48).map (fun i=>(i.zero,i.size,i.bytes))=some (some (.agg #[.int .i64 0,.int .i64 0,.int .i64 0,.int .i64 0,.string ⟨#[]⟩,.string ⟨#[]⟩,.int .i64 0,.slice none 0 0,.int .i64 0]),9,104):=by kernel_rfl
theorem step_put {ops:Array Oper} {o:Oper} {a:Act} {K:Act→World→Prop} {Q:Exit→Act→World→Prop} {E:Prop} (w:World) (hgd:o.guard=none) (s x:Operand)
  (ho:o.op=.call { callee:=.builtin .append,args:=#[s,x],argTypes:=#[23,23] })
  (B:Nat) (v:Value) (n:Nat) (xs:List Value) (hs:a.eval s=v) (hown:w.ownsRow B 48 9 v n xs) (ad:Addr) (news:List Value) (hx:a.eval x=.slice (some ad) 1 1) (hn:news.length=1*9)
  (hc:∀j u,news[j]?=some u→w.cell? (ad.add j)=some u) (h1c:∀u ∈ news,u.oneCell'=true) (hk:n≤100000) (hB:B≤w.heap.size)
  (h:∀g cap w',w'.ownsRow B 48 9 (.slice (some ⟨g,0,none⟩) (n+1) cap) (n+1) (xs++news)→w.grownBy w' v.ownBlock→K (a.put o.dst (.slice (some ⟨g,0,none⟩) (n+1) cap)) w'):if Region.wanted o (yielded ops a.tmps)=true then Oper.wp prog o a w K Q else E:=by
 rw[if_pos (by simp[Region.wanted,hgd])]
 obtain⟨i,h2,h3,h4,h5⟩:=info_parts ex_info
 refine wp_append_own w s x 23 ho B 48 i _ 9 104 Tryz.underlying23 h2 h3 h4 h5 rfl (by decide) v n xs hs hown ad 1 1 news hx hn hc h1c (by unfold maxLen;omega) (by omega) hB fun v' w' r1 r2 _=>?_
 obtain⟨g,cap,rfl⟩:=ownsRow_succ r1
 exact h g cap w' r1 r2
def rdV (x:Ex) (v:Value):Value:=.agg #[.int .i64 x.kind,.int .i64 x.a,.int .i64 x.b,.int .i64 x.c,.string x.name,.string x.state,.int .i64 x.v,v,.int .i64 x.pos]
theorem nine_cells (W:World) (x0 x1 x2 x3 x4 x5 x6 x7 x8:Value) (T:TypeId) (j:Nat) (u:Value) (h:[x0,x1,x2,x3,x4,x5,x6,x7,x8][j]?=some u):(W.alloc (.cells #[x0,x1,x2,x3,x4,x5,x6,x7,x8] T)).cell? ((⟨W.heap.size,0,none⟩:Addr).add j)=some u:=by
 have e:(⟨W.heap.size,0,none⟩:Addr).add j=⟨W.heap.size,j,none⟩:=by unfold Addr.add;split <;> simp_all
 rw[e,World.cell?_alloc_new,←h,←Array.getElem?_toList]
theorem RK.grown {b:Nat} {W Y:World} {v:Value} {n:Nat} {xs:List Value} (h:W.ownsRow (b+1) 48 9 v n xs) (hg:W.grownBy Y v.ownBlock) (hb:b≤W.heap.size):RK b W Y :=
 ⟨hg.os,hg.tape,hg.output,hg.size,fun k hk=>hg.block k (by omega) (fun e=>by have:=(h.lt k e.symm).1;omega),fun k o hk hkb hno=>(hg.block k (heap_lt hk) (fun e=>by
  rcases h.2 with ⟨rfl,_⟩ | ⟨g,cap,cur,rfl,_,hgb,_⟩
  ·simp[Value.ownBlock] at e
  ·obtain rfl:k=g:=by simpa [Value.ownBlock] using e
   rw[hk] at hgb
   injection hgb with hgb
   exact hno cur hgb)).trans hk⟩
theorem put_end {b g cap:Nat} {dv:Value} {ts:List Tok} {xb:Nat→Prop} {σ:RS} {x:Ex} {ov oe:Option Addr} {nv cv ce:Nat} {W w0 w1:World} {q:List (Ex×Value)} (h:Rd W b g cap dv ts xb σ) (hv:W.ownsRow (b+1) 3 1 (.slice ov nv cv) x.args.length (x.args.map intC)) (hvx:∀k,(Value.slice ov nv cv).ownBlock=some k→¬xb k)
  (hq:q.map Prod.fst=σ.exprs∧∀p ∈ q,W.ownsRow (b+1) 3 1 p.2 p.1.args.length (p.1.args.map intC)∧∀k,p.2.ownBlock=some k→¬xb k) (hb:Below W.heap.size W w0) (ho:w0.ownsRow (b+1) 48 9 (.slice oe σ.exprs.length ce) σ.exprs.length (rdCells q))
  (hg:w0.grownBy w1 (Value.slice oe σ.exprs.length ce).ownBlock) (gg cc:Nat) (ho1:w1.ownsRow (b+1) 48 9 (.slice (some ⟨gg,0,none⟩) (σ.exprs.length+1) cc) (σ.exprs.length+1) (rdCells q++exC x (.slice ov nv cv))) :
  Rd (w1.setCell ⟨b,3,none⟩ (.slice (some ⟨gg,0,none⟩) (σ.exprs.length+1) cc)) b g cap dv ts xb (putS x σ)∧RK b W (w1.setCell ⟨b,3,none⟩ (.slice (some ⟨gg,0,none⟩) (σ.exprs.length+1) cc)):=by
 have hbs:=h.size
 have hs0:=hb.size
 have k1:RK b W w1:=(RK.of_below hb (ql hbs)).trans (.grown ho hg (by omega))
 have k2:RK b W (w1.setCell ⟨b,3,none⟩ (.slice (some ⟨gg,0,none⟩) (σ.exprs.length+1) cc)):=k1.trans (RK.set 3 _)
 refine⟨?_,k2⟩
 obtain⟨o,c,h1,h2⟩:=h.blk
 have fb:w1.heap[b]?=W.heap[b]?:=(hg.block b (by omega) (fun e=>by have:=(ho.lt b e.symm).1;omega)).trans (hb.block b hbs)
 rw[←fb] at h1
 have hlen:(putS x σ).exprs.length=σ.exprs.length+1:=by simp[putS]
 refine⟨fun k hk=>Nat.lt_of_lt_of_le (h.xlt k hk) k2.size,⟨some ⟨gg,0,none⟩,cc,?_,q++[(x,.slice ov nv cv)],?_,?_,?_⟩,row_low h.row (k2.low g h.lt),h.lt,h.at_,h.len,h.ends⟩
 ·rw[set_blk h1,hlen];simp[putS]
 ·simp[putS,hq.1]
 ·rw[hlen,rdCells_snoc]
  exact rd_own_same ho1 fun k e=>Below.heap_setCell w1 ⟨b,3,none⟩ _ k (by have:=(ho1.lt k e).1;simp;omega)
 ·intro p hp
  rcases List.mem_append.1 hp with hp | hp
  ·exact⟨own_keep (hq.2 p hp).1 (Nat.lt_succ_self _) k2,(hq.2 p hp).2⟩
  ·obtain rfl:=List.mem_singleton.1 hp
   exact⟨own_keep hv (Nat.lt_succ_self _) k2,hvx⟩
theorem put_any (b g cap:Nat) (dv:Value) (ts:List Tok) (xb:Nat→Prop) (σ:RS) (x:Ex) (ov:Option Addr) (nv cv:Nat) (W:World) (h:Hid (Rd W b g cap dv ts xb σ)) (hl:σ.exprs.length≤40000)
  (hv:Hid (W.ownsRow (b+1) 3 1 (.slice ov nv cv) x.args.length (x.args.map intC))) (hvx:Hid (∀k,(Value.slice ov nv cv).ownBlock=some k→¬xb k)) :
  Calls prog 50 #[.pointer (some ⟨b,0,none⟩),rdV x (.slice ov nv cv)] W fun r Y=>RdRet b g cap dv ts xb W (.int .i64 (σ.exprs.length:Int)) (putS x σ) r Y:=by
 obtain⟨oe,ce,⟨c0,c1,c3,c4,c5,c6,fr⟩,hx⟩:=h.out.cells
 obtain⟨q,hq1,hq2,hq3⟩:=hx
 have hbs:b<W.heap.size:=h.out.size
 obtain⟨n,hn⟩:∃n,n=σ.exprs.length:=⟨_,rfl⟩
 rw[←hn] at c3 hl hq2
 rw[←hn]
 have f3:=fr 3
 have HQ2:=Hd hq2
 have HN:=Hd hn
 have HQ:=Hd (show q.map Prod.fst=σ.exprs∧∀p ∈ q,W.ownsRow (b+1) 3 1 p.2 p.1.args.length (p.1.args.map intC)∧∀k,p.2.ownBlock=some k→¬xb k from⟨hq1,hq3⟩)
 clear hq1 hq2 hq3 hn c0 c1 c4 c5 c6 fr
 obtain⟨k,xa,xb,xc,nm,st,vv,ar,ps⟩:=x
 unfold rdV
 dsimp only
 obtain⟨W2,hW2⟩:∃W2,W2=W.alloc (.cells #[.int .i64 k,.int .i64 xa,.int .i64 xb,.int .i64 xc,.string nm,.string st,.int .i64 vv,.slice ov nv cv,.int .i64 ps] 48):=⟨_,rfl⟩
 have hb2:Below W.heap.size W W2:=by rw[hW2];exact(qB _ _).alloc (qL _) _
 have s2:W2.heap.size=W.heap.size+1:=by rw[hW2];simp
 have x9:∀j u,[Value.int .i64 k,.int .i64 xa,.int .i64 xb,.int .i64 xc,.string nm,.string st,.int .i64 vv,.slice ov nv cv,.int .i64 ps][j]?=some u→W2.cell? ⟨W.heap.size,j,none⟩=some u:=fun j u hu=>by
  rw[hW2,World.cell?_alloc_new];simpa using hu
 have x0:=x9 0 _ rfl
 have x1:=x9 1 _ rfl
 have x2:=x9 2 _ rfl
 have x3:=x9 3 _ rfl
 have x4:=x9 4 _ rfl
 have x5:=x9 5 _ rfl
 have x6:=x9 6 _ rfl
 have x7:=x9 7 _ rfl
 have x8:=x9 8 _ rfl
 have e3:W2.cell? ⟨b,3,none⟩=some (.slice oe n ce):=(hb2.cell (p:=⟨b,3,none⟩) hbs).trans c3
 have g3:W2.frozen? ⟨b,3,none⟩=false:=(hb2.frozen (p:=⟨b,3,none⟩) hbs).trans f3
 have bs2:b<W2.heap.size:=by omega
 have OW:=Hd (show W2.ownsRow (b+1) 48 9 (.slice oe n ce) n (rdCells q) from rd_own_same HQ2.out fun k hk=>hb2.block k (HQ2.out.lt k hk).2)
 have HB2:=Hd hb2
 have S2:=Hd s2
 have HBA:=Hd ((hb2.alloc hb2.size (.cells #[.int .i64 k,.int .i64 xa,.int .i64 xb,.int .i64 xc,.string nm,.string st,.int .i64 vv,.slice ov nv cv,.int .i64 ps] 48)).drew)
 go_enter Tryz.func50,Tryz.ntmps50
 go_wp2_with fail
 rw[←hW2]
 clear hW2 hb2 s2 x9 c3 f3
 go_region_law (refine step_put _ (by rfl) (.tmp 10) (.tmp 12) (by rfl) (b+1) (.slice oe n ce) n (rdCells q) (by rfl) (by exact OW.out.alloc _) ⟨W2.heap.size,0,none⟩ [.int .i64 k,.int .i64 xa,.int .i64 xb,.int .i64 xc,.string nm,.string st,.int .i64 vv,.slice ov nv cv,.int .i64 ps] (by rfl) (by rfl) (by exact nine_cells W2 _ _ _ _ _ _ _ _ _ _) (by simp[Value.oneCell']) (by omega) (by simp;omega) ?_;intro gg cc w1 ho1 hg1;have z3:w1.cell? ⟨b,3,none⟩=some (.slice oe n ce):=hg1.cell (by exact(World.cell?_alloc_old _ _ _ (Nat.ne_of_lt bs2)).trans e3) (fun e=>by have:=(OW.out.lt b e.symm).1;omega);have fb:=hg1.block b (by simp;omega) (fun e=>by have:=(OW.out.lt b e.symm).1;omega);have z4:w1.frozen? ⟨b,3,none⟩=false:=(World.frozen?_of_block (a:=⟨b,3,none⟩) fb).trans (by exact(World.frozen?_alloc_old _ _ _ (Nat.ne_of_lt bs2)).trans g3))
 all_goals (
  go_wp2_with fail
  go_ret
  rw[HN.out] at ho1 hg1 OW
  obtain⟨r1,r2⟩:=put_end (x:=⟨k,xa,xb,xc,nm,st,vv,ar,ps⟩) h.out hv.out hvx.out HQ.out (HBA.out) (OW.out.alloc _) hg1 gg cc ho1
  exact⟨rfl,by rw[HN.out];exact r1,by rw[HN.out];exact r2⟩)
structure FC (b g cap:Nat) (dv:Value) (ts:List Tok) (xb:Nat→Prop) (f:Nat):Prop where
 expr:∀σ v l τ,runE ts f .expr σ=some (v,l,τ)→∀W,Hid (Rd W b g cap dv ts xb σ)→Calls prog 26 #[.pointer (some ⟨b,0,none⟩)] W fun r Y=>RdRet b g cap dv ts xb W (.int .i64 v) τ r Y
 pre:∀σ v l τ,runE ts f .pre σ=some (v,l,τ)→∀W,Hid (Rd W b g cap dv ts xb σ)→Calls prog 72 #[.pointer (some ⟨b,0,none⟩)] W fun r Y=>RdRet b g cap dv ts xb W (.int .i64 v) τ r Y
 atom:∀σ v l τ,σ.code=0→runE ts f .atom σ=some (v,l,τ)→∀W,Hid (Rd W b g cap dv ts xb σ)→Calls prog 84 #[.pointer (some ⟨b,0,none⟩)] W fun r Y=>RdRet b g cap dv ts xb W (.int .i64 v) τ r Y
 bin:∀(least:Nat),1≤least→least≤6→∀σ v l τ,runE ts f (.bin least) σ=some (v,l,τ)→∀W,Hid (Rd W b g cap dv ts xb σ)→Calls prog 51 #[.pointer (some ⟨b,0,none⟩),.int .i64 (least:Int)] W fun r Y=>RdRet b g cap dv ts xb W (.int .i64 v) τ r Y
theorem okS_iff {σ:RS}:okS σ=true↔σ.exprs.length≤40000∧0≤σ.deep∧σ.deep≤30:=by unfold okS;simp
theorem level_kind {ts:List Tok} {σ:RS} {n:Nat} (hn:1≤n) (h:(levelS ts σ).1=(n:Int)):(tokL ts σ.at_).kind≠5:=by
 unfold levelS levelIn at h
 cases hf:levelsL.find? fun p=>isS ts p.1 σ with
 | none=>rw[hf] at h;simp at h;omega
 | some p=>exact(isS_kind (by simpa using List.find?_some hf)).1
def twoE (k a b:Int) (p:Nat):Ex:={ ex0 with kind:=k,a:=a,b:=b,pos:=(p:Int) }
theorem loop_cases {ts:List Tok} {n least:Nat} {a:Int} {σ:RS} {R:Int×List Int×RS} (h:runE ts n (.loop least a) σ=some R) :
  ∃m,n=m+1∧((σ.code≠0∧R=(a,[],σ))∨(σ.code=0∧(levelS ts σ).1≠(least:Int)∧R=(a,[],σ)) ∨
   (σ.code=0∧(levelS ts σ).1=(least:Int)∧∃bv lb τ,runE ts m (.bin (least+1)) (stepS σ)=some (bv,lb,τ)∧okS τ=true ∧
    ((least=3∧R=((τ.exprs.length:Int),[],putS (twoE (levelS ts σ).2 a bv (tokL ts σ.at_).at_) τ))∨(least≠3∧runE ts m (.loop least (τ.exprs.length:Int)) (putS (twoE (levelS ts σ).2 a bv (tokL ts σ.at_).at_) τ)=some R)))):=by
 cases n with
 | zero=>cases h
 | succ m =>
  refine⟨m,rfl,?_⟩
  simp only[runE] at h
  split at h
  ·unfold loopG at h
   split at h
   ·rename_i h0
    split at h
    ·rename_i hl
     refine .inr (.inr ⟨h0,hl,?_⟩)
     cases hb:runE ts m (.bin (least+1)) (stepS σ) with
     | none=>rw[hb] at h;cases h
     | some q =>
      obtain⟨bv,lb,τ⟩:=q
      rw[hb] at h
      simp only[Option.bind_some] at h
      unfold putA at h
      split at h
      ·rename_i hok
       refine⟨bv,lb,τ,rfl,hok,?_⟩
       split at h
       ·rename_i h3
        exact .inl ⟨h3,(qI h).symm⟩
       ·rename_i h3
        exact .inr ⟨h3,h⟩
      ·cases h
    ·rename_i hl
     exact .inr (.inl ⟨h0,hl,(qI h).symm⟩)
   ·rename_i h0
    exact .inl ⟨h0,(qI h).symm⟩
  ·cases h
theorem least_of {α:Type} (P:Nat→α→Prop):∃m:α→Nat,∀x,(∃n,P n x)→P (m x) x∧∀k,P k x→m x≤k:=by
 have key:∀x,∃n,(∃n,P n x)→P n x∧∀k,P k x→n≤k:=fun x=>by
  by_cases h:∃n,P n x
  ·obtain⟨n,hn⟩:=h
   induction n using Nat.strongRecOn with
   | ind n ih =>
    by_cases h2:∃k,k<n∧P k x
    ·obtain⟨k,hk,hp⟩:=h2
     exact ih k hk hp
    ·exact⟨n,fun _=>⟨hn,fun k hk=>Nat.le_of_not_lt fun hlt=>h2 ⟨k,hlt,hk⟩⟩⟩
  ·exact⟨0,fun h2=>absurd h2 h⟩
 exact⟨fun x=>(key x).choose,fun x=>(key x).choose_spec⟩
theorem put_two (b g cap:Nat) (dv:Value) (ts:List Tok) (xb:Nat→Prop) (τ:RS) (k x y:Int) (p:Nat) (W:World) (h:Hid (Rd W b g cap dv ts xb τ)) (hok:okS τ=true) :
  Calls prog 50 #[.pointer (some ⟨b,0,none⟩),.agg #[.int .i64 k,.int .i64 x,.int .i64 y,.int .i64 0,.string ⟨#[]⟩,.string ⟨#[]⟩,.int .i64 0,.slice none 0 0,.int .i64 (p:Int)]] W fun r Y=>RdRet b g cap dv ts xb W (.int .i64 (τ.exprs.length:Int)) (putS (twoE k x y p) τ) r Y :=
 put_any b g cap dv ts xb τ (twoE k x y p) none 0 0 W h (okS_iff.1 hok).1 (Hd (qO _ _ _ _)) (Hd fun k hk=>by cases hk)
end Go.Proofs.YthpgfahlccljnaaGreatDoor
namespace Go.Proofs.YthpgfahlccljnaaGreatDoor
open Go.RowKit
theorem pcCells_take (L:List Pc) (k:Nat):pcCells (L.take k)=(pcCells L).take (k*3):=by
 induction L generalizing k with
 | nil=>simp[pcCells]
 | cons p L ih =>
  cases k with
  | zero=>simp[pcCells]
  | succ k =>
   show pcC p++pcCells (L.take k)=(pcC p++pcCells L).take ((k+1)*3)
   have h3:(pcC p).length=3:=rfl
   have h4:(pcC p).take ((k+1)*3)=pcC p:=List.take_of_length_le (by rw[h3];omega)
   rw[ih,List.take_append,h3,h4,show(k+1)*3-3=k*3 by omega]
theorem PcOwn.cut {W:World} {B g n c:Nat} {L:List Pc} (h:PcOwn W B (.slice (some ⟨g,0,none⟩) n c) L) (hn:L.length=n) {k:Nat} (hk:k≤n):PcOwn W B (.slice (some ⟨g,0,none⟩) k c) (L.take k):=by
 subst hn
 obtain⟨h1,h2⟩:=h
 rcases h2 with ⟨h2,_⟩ | ⟨g',cap,cur,hv,hb,hg,hnc,hcm,hcs,htk⟩
 ·cases h2
 ·injection hv with e1 e2 e3
  injection e1 with e1
  injection e1 with e1
  subst e1 e3
  refine⟨by rw[pcCells_length],.inr ⟨g,c,cur,by rw[List.length_take,Nat.min_eq_left hk],hb,hg,by rw[List.length_take];omega,hcm,hcs,?_⟩⟩
  rw[List.length_take,Nat.min_eq_left hk,pcCells_take,←htk,List.take_take,Nat.min_eq_left (by omega)]
theorem PcOwn.cells3 {W:World} {B g n c:Nat} {L:List Pc} (h:PcOwn W B (.slice (some ⟨g,0,none⟩) n c) L) (hn:L.length=n):∃cur:Array Value,B≤g∧W.heap[g]?=some (.cells cur 84 (0,0))∧n≤c∧c≤maxLen∧cur.size=c*3∧∀j,j<n*3→cur[j]?=(pcCells L)[j]?:=by
 subst hn
 obtain⟨h1,h2⟩:=h
 rcases h2 with ⟨h2,_⟩ | ⟨g',cap,cur,hv,hb,hg,hnc,hcm,hcs,htk⟩
 ·cases h2
 ·injection hv with e1 e2 e3
  injection e1 with e1
  injection e1 with e1
  subst e1 e3
  refine⟨cur,hb,hg,hnc,hcm,hcs,fun j hj=>?_⟩
  rw[←htk,List.getElem?_take,if_pos hj,Array.getElem?_toList]
theorem PcOwn.row {W:World} {B g n c:Nat} {L:List Pc} (h:PcOwn W B (.slice (some ⟨g,0,none⟩) n c) L) (hn:L.length=n) {k:Nat} (hk:k≤n) :
  ∃c0:Array Value,(∀j,j<k*3→c0[j]?=(pcCells L)[j]?)∧c0.size=c*3∧B≤g∧n≤c∧c≤maxLen∧PcRow c0 W g (k*3) (n-k) (fun i=>L.getD (k+i) ⟨⟨#[]⟩,0,0⟩):=by
 obtain⟨cur,hb,hg,hnc,hcm,hcs,hc⟩:=h.cells3 hn
 refine⟨cur,fun j hj=>hc j (by omega),hcs,hb,hnc,hcm,cur,hg,⟨by omega,rfl,fun j _=>rfl⟩,fun i hi=>?_⟩
 obtain⟨p,hp⟩:∃p,L[k+i]?=some p:=⟨_,List.getElem?_eq_getElem (by omega)⟩
 obtain⟨a,b,d⟩:=pcCells_at hp
 have e:L.getD (k+i) ⟨⟨#[]⟩,0,0⟩=p:=by rw[List.getD_eq_getElem?_getD,hp];rfl
 simp only[e]
 refine⟨?_,?_,?_⟩
 ·rw[show k*3+i*3=(k+i)*3 by omega,hc _ (by omega),a]
 ·rw[show k*3+i*3+1=(k+i)*3+1 by omega,hc _ (by omega),b]
 ·rw[show k*3+i*3+2=(k+i)*3+2 by omega,hc _ (by omega),d]
theorem PcRow.own {W:World} {B g n c k:Nat} {c0:Array Value} {A R:List Pc} (hA:A.length=k) (hR:R.length=n-k) (hk:k≤n) (h0:∀j,j<k*3→c0[j]?=(pcCells A)[j]?) (hs:c0.size=c*3) (hB:B≤g) (hnc:n≤c) (hcm:c≤maxLen) {f:Nat→Pc} (hf:∀i p,R[i]?=some p→f i=p) (h:PcRow c0 W g (k*3) (n-k) f) :
  PcOwn W B (.slice (some ⟨g,0,none⟩) n c) (A++R):=by
 obtain⟨cs,h1,⟨h2,h3,h4⟩,h5⟩:=h
 have hl:(A++R).length=n:=by rw[List.length_append];omega
 unfold PcOwn
 rw[hl]
 refine⟨by rw[pcCells_length,hl],.inr ⟨g,c,cs,rfl,hB,h1,hnc,hcm,by omega,?_⟩⟩
 apply List.ext_getElem?
 intro j
 rw[List.getElem?_take]
 split
 ·rename_i hj
  rw[Array.getElem?_toList,pcCells_append]
  rcases Nat.lt_or_ge j (k*3) with hlt | hge
  ·rw[h4 j hlt,h0 j hlt,List.getElem?_append_left (by rw[pcCells_length];omega)]
  ·rw[List.getElem?_append_right (by rw[pcCells_length];omega),pcCells_length,hA]
   obtain⟨i,r,hr,hi⟩:∃i r,r<3∧j=k*3+i*3+r:=⟨(j-k*3) / 3,(j-k*3) % 3,by omega,by omega⟩
   have hin:i<n-k:=by omega
   obtain⟨p,hp⟩:∃p,R[i]?=some p:=⟨_,List.getElem?_eq_getElem (by omega)⟩
   obtain⟨a,b,d⟩:=h5 i hin
   obtain⟨a',b',d'⟩:=pcCells_at hp
   rw[hf i p hp] at a b d
   obtain rfl | rfl | rfl:r=0∨r=1∨r=2:=by omega
   ·rw[hi,Nat.add_zero,a,show k*3+i*3-k*3=i*3 by omega,a']
   ·rw[hi,b,show k*3+i*3+1-k*3=i*3+1 by omega,b']
   ·rw[hi,d,show k*3+i*3+2-k*3=i*3+2 by omega,d']
 ·rename_i hj
  rw[List.getElem?_eq_none (by rw[pcCells_length,hl];omega)]
def PcGood (n:Nat) (p:Pc):Prop:=p.text.size≠0∨(p.text.size=0∧∃a:Nat,p.e=(a:Int)∧a<n∧0≤p.wanted∧p.wanted≤7)
theorem rends_snoc (T:Int→Int→ByteArray) (A:List Pc) (p:Pc):rendsB T (A++[p]).reverse=rendB T p++rendsB T A.reverse:=by
 rw[List.reverse_append];rfl
theorem rends_onto (T:Int→Int→ByteArray) (A R:List Pc):rendsB T (A++R.reverse).reverse=rendsB T R++rendsB T A.reverse:=by
 rw[List.reverse_append,List.reverse_reverse,rendsB_append]
theorem costs_reverse (C:Int→Int→Nat) (A:List Pc):costs C A.reverse=costs C A:=by
 induction A with
 | nil=>rfl
 | cons p A ih =>
  rw[List.reverse_cons,costs_append,ih]
  show costs C A+(costP C p+0)=costP C p+costs C A
  omega
theorem costs_len (l:List Ex) {n:Nat} (hn:0<n):∀(A:List Pc),A.length≤costs (costE l n) A
 | []=>qL _
 | p :: A=>by
  have ih:=costs_len l hn A
  have h1:1≤costP (costE l n) p:=by
   unfold costP
   split
   ·obtain⟨m,rfl⟩:∃m,n=m+1:=⟨n-1,by omega⟩
    show 1≤1+_
    omega
   ·exact qL _
  show A.length+1≤costP (costE l n) p+costs (costE l n) A
  omega
theorem stack_last {A:List Pc} (h:A≠[]):∃(F:List Pc) (p:Pc),A=F++[p]:=⟨A.dropLast,A.getLast h,(List.dropLast_concat_getLast h).symm⟩
theorem step_call1 {ops:Array Oper} {o:Oper} {a:Act} {K:Act→World→Prop} {Q:Exit→Act→World→Prop} {E:Prop} (w:World) (hgd:o.guard=none) (f:FuncId) (args:Array Value) (hr:(execOp a.eval o).run prog w=.ok (.enter f args) w) (P:Ending→World→Prop) (C:Calls prog f args w P)
  (h:∀e w',P e w'→∃val,e=.returned val∧K (a.put o.dst val) w'):if Region.wanted o (yielded ops a.tmps)=true then Oper.wp prog o a w K Q else E:=by
 rw[if_pos (by simp[Region.wanted,hgd])]
 unfold Oper.wp
 rw[hr,Oper.upon_enter]
 refine C.mono fun e w' hp=>?_
 obtain⟨val,rfl,hk⟩:=h e w' hp
 exact hk
theorem step_pcs {ops:Array Oper} {o:Oper} {a:Act} {K:Act→World→Prop} {Q:Exit→Act→World→Prop} {E:Prop} (w:World) (hg:o.guard=none) (s x:Operand)
  (hop:o.op=Op.call { callee:=Callee.builtin Builtin.append,args:=#[s,x],argTypes:=#[85,85] })
  (base:Nat) (v:Value) (l:List Pc) (k:Nat) (hlk:l.length=k) (hs:a.eval s=v) (hown:PcOwn w base v l) (ad:Addr) (l2:List Pc) (m c:Nat) (hm:l2.length=m) (hx:a.eval x=.slice (some ad) m c)
  (hc:∀j u,(pcCells l2)[j]?=some u→w.cell? (ad.add j)=some u) (nn:Nat) (hnn:k+m=nn) (hk:nn≤1000000000) (h0:0<m) (b3:base≤w.heap.size)
  (hK:∀g cap w',PcOwn w' base (.slice (some ⟨g,0,none⟩) nn cap) (l++l2)→w.grownBy w' v.ownBlock→K (a.put o.dst (.slice (some ⟨g,0,none⟩) nn cap)) w') :
  if Region.wanted o (yielded ops a.tmps)=true then Oper.wp prog o a w K Q else E:=by
 subst hlk hm hnn
 obtain⟨i,h2,h3,h4,h5⟩:=info_parts pc_info
 exact step_append_lies (w:=w) hg s x 85 hop base 84 i _ 3 32 Tryz.underlying85 h2 h3 h4 h5 rfl (by decide) v l.length (pcCells l) hs hown ad l2.length c (pcCells l2) hx (pcCells_length l2) hc (pcCells_one l2) h0 (by unfold maxLen;omega) (by omega) b3 w.heap.size rfl fun g cap w' ho hg2 _ _=>hK g cap w' (by unfold PcOwn;rw[pcCells_append,List.length_append];exact ho) hg2
theorem IsWr.grown {B b g:Nat} {s:Value} {bs:List Value} {w w':World} {cur:Array Value} (h:IsWr B b s bs w) (hg:w.heap[g]?=some (.cells cur 84 (0,0))) (hgb:g≠b) (hk:w.grownBy w' (some g)):IsWr B b s bs w':=by
 have key:∀p,WrAt B b s p bs w→WrAt B b s p bs w':=fun p ⟨hB,v,hb,ho,hne⟩=>by
  refine⟨hB,v,(hk.block b (wlt_of_heap hb) (fun e=>hgb (qI e).symm)).trans hb,own_other ho fun k hk2=>?_,hne⟩
  obtain⟨c,fz,h2⟩:=ownsRow_kind ho k hk2
  refine hk.block k (wlt_of_heap h2) fun e=>?_
  obtain rfl:=qI e
  rw[hg] at h2
  injection h2 with h3
  injection h3 with h4 h5
  revert h5
  decide
 rcases h with h | h
 ·exact .inl (key _ h)
 ·exact .inr (key _ h)
theorem IsWr.below {B b:Nat} {s:Value} {bs:List Value} {w w':World} (h:IsWr B b s bs w) (hb:Below w.heap.size w w'):IsWr B b s bs w':=by
 have key:∀p,WrAt B b s p bs w→WrAt B b s p bs w':=fun p ⟨hB,v,hb2,ho,hne⟩ =>
  ⟨hB,v,(hb.block b (wlt_of_heap hb2)).trans hb2,own_other ho fun k hk2=>by
   obtain⟨c,fz,h2⟩:=ownsRow_kind ho k hk2
   exact hb.block k (wlt_of_heap h2),hne⟩
 rcases h with h | h
 ·exact .inl (key _ h)
 ·exact .inr (key _ h)
theorem PcOwn.others {W Y:World} {B b:Nat} {v:Value} {l:List Pc} (h:PcOwn W B v l) (hB:b<B) (hk:Lib.OthersKept 5 (some b) W Y):PcOwn Y B v l:=by
 refine⟨h.1,?_⟩
 rcases h.2 with h2 | ⟨g,cap,cur,rfl,h3,h4,h5⟩
 ·exact .inl h2
 ·exact .inr ⟨g,cap,cur,rfl,h3,hk g _ h4 (by intro e;have:=qI e;omega) (by intro c fz e;injection e with e1 e2;revert e2;decide),h5⟩
def ToI (l:List Ex) (b:Nat) (TT:ByteArray) (K:Nat) (W0:World) (k:Nat) (q:Value×World):Prop :=
 ∃(L:List Pc) (m:List UInt8),(∃g n c,q.1=.slice (some ⟨g,0,none⟩) n c∧L.length=n)∧PcOwn q.2 (b+1) q.1 L∧IsWr b b (.slice none 0 0) (Lib.byteCells m) q.2 ∧
  str m++rendsB (txtB l l.length) L.reverse=TT∧(∀p ∈ L,PcGood l.length p)∧costs (costE l l.length) L=k∧k≤K∧Below b W0 q.2
theorem own_some {x:Ex} (h:ExFit x):∃p ∈ ownP x,p.text.size≠0:=by
 unfold ownP
 by_cases k1:x.kind=1
 ·rw[if_pos k1];exact⟨_,List.mem_cons_self ..,h.num k1⟩
 rw[if_neg k1]
 by_cases k2:x.kind=2
 ·rw[if_pos k2]
  split <;> exact⟨_,List.mem_cons_self ..,by decide⟩
 rw[if_neg k2]
 by_cases k3:x.kind=3
 ·rw[if_pos k3];exact⟨_,List.mem_cons_self ..,h.name (by omega)⟩
 rw[if_neg k3]
 by_cases k20:x.kind=20
 ·rw[if_pos k20];exact⟨_,List.mem_cons_self ..,h.name (by omega)⟩
 rw[if_neg k20]
 by_cases k19:x.kind=19
 ·rw[if_pos k19];exact⟨tPc x.name,by simp,h.name (by omega)⟩
 rw[if_neg k19]
 by_cases k15:x.kind=15
 ·rw[if_pos k15];exact⟨_,List.mem_cons_self ..,by decide⟩
 rw[if_neg k15]
 by_cases kp:x.kind=4∨x.kind=5∨x.kind=16∨x.kind=21
 ·have hw:sgnB x.kind=wordB x.kind:=by unfold sgnB;rw[if_pos kp]
  have hz:(wordB x.kind).size≠0:=by
                      unfold wordB;repeat' split
                      all_goals decide
  rw[if_pos kp]
  exact⟨_,List.mem_cons_self ..,by rw[hw];exact hz⟩
 rw[if_neg kp]
 have hw:sgnB x.kind=(⟨#[32]⟩++signB x.kind)++⟨#[32]⟩:=by unfold sgnB;rw[if_neg kp]
 have hz:(sgnB x.kind).size≠0:=by rw[hw,ByteArray.size_append,ByteArray.size_append];show ¬_+1=0;omega
 exact⟨tPc (sgnB x.kind),by simp,hz⟩
theorem rends_pos (T:Int→Int→ByteArray):∀{l:List Pc} {p:Pc},p ∈ l→p.text.size≠0→(rendsB T l).size≠0
 | q :: l,p,hp,h=>by
  show(rendB T q++rendsB T l).size≠0
  rw[ByteArray.size_append]
  rcases List.mem_cons.1 hp with rfl | hp
  ·unfold rendB
   rw[if_neg h]
   omega
  ·have:=rends_pos T hp h
   omega
theorem pieces_some {x:Ex} (h:ExFit x) (w:Int):∃p ∈ piecesP x w,p.text.size≠0:=by
 obtain⟨p,hp,h1⟩:=own_some h
 unfold piecesP
 split
 ·exact⟨p,hp,h1⟩
 ·exact⟨p,List.mem_append_left _ (List.mem_append_right _ hp),h1⟩
theorem piecesP_len {x:Ex} (h:x.args.length≤1000) (w:Int):0<(piecesP x w).length∧(piecesP x w).length≤2005:=by
 have:=ownP_len h
 unfold piecesP
 split
 ·omega
 ·simp only[List.length_append,List.length_singleton]
  omega
theorem text_none {t:ByteArray} (h:t.size=0):t=⟨#[]⟩:=by
 apply ByteArray.ext
 exact Array.eq_empty_of_size_eq_zero h
theorem text_empty {t:ByteArray} (h:t.size=0):t.toList.isEmpty=true:=by
 rw[text_none h,ByteArray.toList_eq];rfl
theorem text_some {t:ByteArray} (h:t.size≠0):t.toList.isEmpty=false:=by
 rw[ByteArray.toList_eq,List.isEmpty_eq_false_iff]
 intro e
 exact h (by have:=congrArg List.length e;simpa using this)
theorem toI_start (l:List Ex) (e:Nat) (he:e<l.length) (W0:World):ToI l W0.heap.size (txtB l l.length (e:Int) 0) (costE l l.length (e:Int) 0) W0 (costE l l.length (e:Int) 0) (.slice (some ⟨W0.heap.size+1,0,none⟩) 1 1,(W0.alloc (.cells #[.pointer none,.slice none 0 0,.slice none 0 0] 59)).alloc (.cells #[.string ⟨#[]⟩,.int .i64 (e:Int),.int .i64 0] 84)):=by
 refine⟨[ePc e 0],[],⟨_,_,_,rfl,rfl⟩,?_,?_,?_,?_,?_,qL _,?_⟩
 ·have:=pc_new (W0.alloc (.cells #[.pointer none,.slice none 0 0,.slice none 0 0] 59)) [ePc e 0] #[.string ⟨#[]⟩,.int .i64 (e:Int),.int .i64 0] rfl (by simp)
  rw[World.size_alloc] at this
  exact this
 ·exact isWr_alloc (.inl ⟨qL _,_,heap_alloc_new W0 _,qO _ _ _ _,fun h=>by cases h⟩) _
 ·show(⟨#[]⟩:ByteArray)++rendsB _ [ePc e 0]=_
  rw[rends_one,rend_e]
  exact ByteArray.empty_append ..
 ·intro p hp
  obtain rfl:=List.mem_singleton.1 hp
  exact .inr ⟨rfl,e,rfl,he,Int.le_refl _,by show(0:Int)≤7;decide⟩
 ·show costP _ (ePc e 0)+0=_
  unfold costP
  rw[Nat.add_zero]
  exact if_pos rfl
 ·exact((qB _ _).alloc (qL _) _).alloc (by simp) _
theorem catL_one (t:ByteArray):catL [t]=t.data.toList:=by unfold catL;simp
theorem str_add (ms:List UInt8) (t:ByteArray):str (ms++catL [t])=str ms++t:=by
 rw[catL_one]
 unfold str
 apply ByteArray.ext
 simp
theorem toI_text {l:List Ex} {b K g d c mv:Nat} {TT t:ByteArray} {pe pw:Int} {W0 wr Y:World} {ms:List UInt8} {F:List Pc} (ht:t.size≠0) (hF:PcOwn wr (b+1) (.slice (some ⟨g,0,none⟩) d c) F) (hd:d=F.length)
  (hstr:str ms++(rendB (txtB l l.length) ⟨t,pe,pw⟩++rendsB (txtB l l.length) F.reverse)=TT) (hcost:costs (costE l l.length) F+costs (costE l l.length) [⟨t,pe,pw⟩]=mv) (hle:mv≤K) (hbl:Below b W0 wr) (hgood:∀p ∈ F,PcGood l.length p) (o1 o2:Obj)
  (h1:IsWr b b (.slice none 0 0) (Lib.byteCells (ms++catL [t])) Y) (h2:Below b ((wr.alloc o1).alloc o2) Y) (h3:Lib.OthersKept 5 (some b) ((wr.alloc o1).alloc o2) Y) (hbw:b≤wr.heap.size) :
  ∃q,q<mv∧ToI l b TT K W0 q (.slice (some ⟨g,0,none⟩) d c,Y):=by
 have hc1:costs (costE l l.length) [(⟨t,pe,pw⟩:Pc)]=1:=by
  show costP _ _+0=1
  unfold costP
  rw[if_neg ht]
 have hr:rendB (txtB l l.length) ⟨t,pe,pw⟩=t:=by unfold rendB;rw[if_neg ht]
 refine⟨costs (costE l l.length) F,by omega,F,ms++catL [t],⟨_,_,_,rfl,hd.symm⟩,((hF.alloc o1).alloc o2).others (Nat.lt_succ_self b) h3,h1,?_,hgood,rfl,by omega,?_⟩
 ·rw[str_add,ByteArray.append_assoc,←hstr,hr]
 ·exact(hbl.trans ((((qB b wr).alloc hbw o1).alloc (by simp;omega) o2).trans h2))
theorem rowS (w:World) (o:Obj) (t:ByteArray):StrRow ((w.alloc o).alloc (.cells #[.string t] 9)) (w.heap.size+1) [t]:=by
 refine⟨(0,0),?_⟩
 have:=heap_alloc_new (w.alloc o) (.cells #[.string t] 9)
 rw[World.size_alloc] at this
 exact this
theorem below_grown {B g:Nat} {w w':World} (h:w.grownBy w' (some g)) (hg:B≤g) (hB:B≤w.heap.size):Below B w w' :=
 ⟨h.os,h.tape,h.output,h.size,fun k hk=>h.block k (by omega) (fun e=>by have:=qI e;omega)⟩
theorem toI_expr {l:List Ex} (hG:∀i x,l[i]?=some x→mayE x i=true) {b K g d c mv a M nn g2 cap2:Nat} {TT t:ByteArray} {pw:Int} {W0 V w1 w2 w3:World} {ms:List UInt8} {F:List Pc} {x:Ex} (hx:l[a]?=some x) (ht:t.size=0)
  (hd:d=F.length) (hM:M=(piecesP x pw).length) (hnn:d+M=nn) (hF:PcOwn V (b+1) (.slice (some ⟨g,0,none⟩) d c) F) (h2:PcOwn w2 (b+1) (.slice (some ⟨g2,0,none⟩) nn cap2) (F++piecesP x pw)) (hwr:IsWr b b (.slice none 0 0) (Lib.byteCells ms) V)
  (hb1:Below V.heap.size V w1) (hg2:w1.grownBy w2 (some g)) {cz:Array Value} (hz0:∀j,j<d*3→cz[j]?=(pcCells (F++piecesP x pw))[j]?) (hzs:cz.size=cap2*3) (hgb2:b+1≤g2) (hnc2:nn≤cap2) (hcm2:cap2≤maxLen)
  (hrow:PcRow cz w3 g2 (d*3) (nn-d) (fun i=>(F++piecesP x pw).getD (d+(nn-d-1-i)) ⟨⟨#[]⟩,0,0⟩)) (hg3:w2.grownBy w3 (some g2))
  (hstr:str ms++(rendB (txtB l l.length) ⟨t,(a:Int),pw⟩++rendsB (txtB l l.length) F.reverse)=TT) (hcost:costs (costE l l.length) F+costs (costE l l.length) [⟨t,(a:Int),pw⟩]=mv) (hle:mv≤K) (hbl:Below b W0 V) (hgood:∀p ∈ F,PcGood l.length p) (hbw:b+1≤V.heap.size) :
  ∃q,q<mv∧ToI l b TT K W0 q (.slice (some ⟨g2,0,none⟩) nn cap2,w3):=by
 obtain⟨e1,e2⟩:=txt_whole l hG a hx pw
 have hcP:costs (costE l l.length) [(⟨t,(a:Int),pw⟩:Pc)]=1+costs (costE l l.length) (piecesP x pw):=by
  show costP _ _+0=_
  unfold costP
  rw[if_pos ht]
  exact e2
 have hr:rendB (txtB l l.length) ⟨t,(a:Int),pw⟩=rendsB (txtB l l.length) (piecesP x pw):=by
  unfold rendB
  rw[if_pos ht]
  exact e1
 have hF1:=hF.below hb1
 obtain⟨cu,hgb,hg,_,_,_,_⟩:=hF1.cells3 hd.symm
 have hl2:(F++piecesP x pw).length=nn:=by rw[List.length_append];omega
 obtain⟨cu2,_,hgg2,_,_,_,_⟩:=h2.cells3 hl2
 refine⟨costs (costE l l.length) F+costs (costE l l.length) (piecesP x pw),by omega,F++(piecesP x pw).reverse,ms,⟨_,_,_,rfl,?_⟩,?_,?_,?_,?_,?_,by omega,?_⟩
 ·rw[List.length_append,List.length_reverse];omega
 ·refine PcRow.own hd.symm (by rw[List.length_reverse];omega) (by omega) (fun j hj=>?_) hzs hgb2 hnc2 hcm2 (fun i p hi=>?_) hrow
  ·rw[hz0 j hj,pcCells_append,List.getElem?_append_left (by rw[pcCells_length];omega)]
  ·have hil:=(List.getElem?_eq_some_iff.1 hi).1
   rw[List.length_reverse] at hil
   rw[List.getElem?_reverse hil] at hi
   rw[List.getD_eq_getElem?_getD,List.getElem?_append_right (by omega)]
   rw[show d+(nn-d-1-i) - F.length=(piecesP x pw).length-1-i by omega,hi]
   rfl
 ·exact((hwr.below hb1).grown hg (by omega) hg2).grown hgg2 (by omega) hg3
 ·rw[rends_onto,←hstr,hr]
 ·intro p hp
  rcases List.mem_append.1 hp with hp | hp
  ·exact hgood p hp
  ·rcases pieces_in (exFit_of (hG a x hx)) pw p (List.mem_reverse.1 hp) with h | ⟨h1,h3,h4,h5⟩
   ·exact .inl h
   ·have h6:=parts_in (hG a x hx) h3
    have h7:=(List.getElem?_eq_some_iff.1 hx).1
    exact .inr ⟨h1,p.e.toNat,by omega,by omega,h4,h5⟩
 ·rw[costs_append,costs_reverse]
 ·have k1:=hb1.size
  have k2:=hg2.size
  exact hbl.trans ((hb1.mono (by omega)).trans ((below_grown hg2 (by omega) (by omega)).trans (below_grown hg3 (by omega) (by omega))))
theorem textOf_core (l:List Ex) (n:Nat) (hn:Hid (l.length=n)) (nl:(n:Int)≤1000) (hG:Hid (∀i x,l[i]?=some x→mayE x i=true)) (hA:Hid (∀x ∈ l,x.args.length≤1000)) (o:Option Addr) (cap bx fx:Nat) (W0:World) (ho:Hid (0<n→o=some ⟨bx,fx,none⟩))
  (hx:Hid (∀i,i<n→∀x,l[i]?=some x→ExAt W0 bx (fx+i*9) x)) (hS:Hid (SgnAt W0)) (PR:Hid (∀x ∈ l,x.kind=1→∀Y,Below W0.heap.size W0 Y→Calls prog 77 #[.int .i64 x.v] Y fun r Z=>r=.returned (.string (str (shortL x.v 32)))∧Below Y.heap.size Y Z))
  (e:Nat) (he:e<n) (TT:ByteArray) (hT:Hid (TT=txtB l l.length (e:Int) 0)) (ht:TT.size≤10000000000000) (K:Nat) (hK:Hid (K=costE l l.length (e:Int) 0)) (hk:(K:Int)≤100000000) :
  Calls prog 18 #[.slice o n cap,.int .i64 (e:Int)] W0 fun r Y=>r=.returned (.string TT)∧Below W0.heap.size W0 Y:=by
 obtain⟨m,hm⟩:=least_of (ToI l W0.heap.size TT K W0)
 have HM:=Hd hm
 have HT:=Hd ht
 have HT0:Hid (TT.size≠0):=Hd (by
  obtain⟨x,hxe⟩:∃x,l[e]?=some x:=⟨_,List.getElem?_eq_getElem (by have:=hn.out;omega)⟩
  rw[hT.out,(txt_whole l hG.out e hxe 0).1]
  obtain⟨p,hp,h1⟩:=pieces_some (exFit_of (hG.out e x hxe)) 0
  exact rends_pos _ hp h1)
 clear hm ht
 go_enter Tryz.func18,Tryz.ntmps18
 go_wp2_with fail
 go_loopw [6] (fun v wr=>∃g k c:Nat,v=.slice (some ⟨g,0,none⟩) k c∧Hid (∃q,ToI l W0.heap.size TT K W0 q (v,wr))) (fun v wr=>m (v,wr))
 case atStart=>exact⟨_,_,_,rfl,Hd ⟨_,by have:=toI_start l e (by have:=hn.out;omega) W0;rw[←hT.out,←hK.out] at this;exact this⟩⟩
 case round =>
  obtain⟨g,k0,c,rfl,hI⟩:=hrel
  obtain⟨hm1,hm2⟩:=HM.out _ hI.out
  have HM2:=Hd hm2
  obtain⟨mv,hmv⟩:∃mv,mv=m (.slice (some ⟨g,0,none⟩) k0 c,wr):=⟨_,rfl⟩
  rw[←hmv] at hm1
  have HMV:=Hd hmv
  clear hm2 hmv
  obtain⟨L,ms,⟨g',k',c',hq,hLk⟩,hown,hwr,hstr,hgood,hcost,hle,hbl⟩:=hm1
  cases hq
  dsimp only at hown hwr hbl
  by_cases hL:L=[]
  ·subst hL
   obtain rfl:k0=0:=hLk.symm
   have hms:str ms=TT:=by rw[←hstr];exact(ByteArray.append_empty ..).symm
   have hne:ms≠[]:=by
    intro h
    subst h
    exact HT0.out (by rw[←hms];rfl)
   have CST:=Hd (string_writer W0.heap.size W0.heap.size _ ms wr hwr hne)
   rw[hms] at CST
   have HBL:=Hd hbl
   clear hms hne hstr hgood hcost hle hown hwr hLk hbl
   go_wp2_with (go_at_call 20;(with_reducible refine CST.out.mono ?_);rintro r w1 ⟨rfl,hb1⟩)
   go_ret
   exact⟨rfl,HBL.out.trans hb1⟩
  ·obtain⟨F,p,rfl⟩:=stack_last hL
   obtain⟨t,pe,pw⟩:=p
   obtain⟨d,hd⟩:∃d,d=F.length:=⟨_,rfl⟩
   have hkd:k0=d+1:=by rw[←hLk,List.length_append,hd];rfl
   obtain⟨cur,hgb,hg,hkc,hcm,hcs,hcc⟩:=hown.cells3 hLk
   have hat:(F++[(⟨t,pe,pw⟩:Pc)])[d]?=some ⟨t,pe,pw⟩:=by rw[hd];simp
   obtain⟨a0,a1,a2⟩:=pcCells_at hat
   have c0:wr.cell? ⟨g,d*3,none⟩=some (.string t):=by simp[World.cell?,hg,hcc (d*3) (by omega),a0]
   have c1:wr.cell? ⟨g,d*3+1,none⟩=some (.int .i64 pe):=by simp[World.cell?,hg,hcc (d*3+1) (by omega),a1]
   have c2:wr.cell? ⟨g,d*3+2,none⟩=some (.int .i64 pw):=by simp[World.cell?,hg,hcc (d*3+2) (by omega),a2]
   have hdk:(k0:Int)-1=(d:Int):=by omega
   have h0k:decide ((0:Int)<(k0:Int))=true:=qT (by omega)
   have hmx:(maxLen:Int)=9223372036854775807:=rfl
   have hcl:(c:Int)≤9223372036854775807:=by unfold maxLen at hcm;omega
   have hdc:(d:Int)≤(c:Int):=by omega
   have ix:=ix_pcs (o:=some ⟨g,0,none⟩) (n:=k0) (cap:=c) (b:=g) (off:=0) (fun _=>rfl) (show d<k0 by omega) (by omega)
   unfold Ix at ix
   rw[Nat.zero_add] at ix
   have hgw:g<wr.heap.size:=wlt_of_heap hg
   have hFo:=hown.cut hLk (k:=d) (by omega)
   rw[show(F++[(⟨t,pe,pw⟩:Pc)]).take d=F by rw[hd];simp] at hFo
   rw[rends_snoc] at hstr
   rw[costs_append] at hcost
   have hgp:=hgood _ (List.mem_append_right _ (List.mem_singleton.2 rfl))
   have HGF:Hid (∀p ∈ F,PcGood l.length p):=Hd fun p hp=>hgood p (List.mem_append_left _ hp)
   have HFO:=Hd hFo
   have HWR:=Hd hwr
   have HSTR:=Hd hstr
   have HCOST:=Hd hcost
   have HLE:=Hd hle
   have HBL:=Hd hbl
   have HD:=Hd hd
   have HKD:=Hd hkd
   have HGB:=Hd hgb
   clear hFo hwr hstr hcost hle hbl hgood hown hd hkd hgb hg hcc hcs hat a0 a1 a2 hLk hL hI
   have hbs:=HBL.out.size
   by_cases h0:t.size=0
   ·have hz:=text_empty h0
    have HZ:=Hd h0
    obtain⟨a,rfl,han,hp0,hp7⟩:∃a:Nat,pe=(a:Int)∧a<l.length∧0≤pw∧pw≤7:=by
     rcases hgp with h | ⟨_,h⟩
     ·exact absurd h0 h
     ·exact h
    have hann:a<n:=by have:=hn.out;omega
    obtain⟨x,hxa⟩:∃x,l[a]?=some x:=⟨_,List.getElem?_eq_getElem han⟩
    obtain⟨V,hV⟩:∃V,V=wr.alloc (.cells #[.string t,.int .i64 (a:Int),.int .i64 pw] 84):=⟨_,rfl⟩
    have hbV:Below W0.heap.size W0 V:=by rw[hV];exact HBL.out.alloc hbs _
    obtain⟨_,x0,x1,x2,x3,x4,x5,x6,x7,x8,hia,hok⟩:=(hx.out a hann x hxa).below hbV
    obtain⟨oa,capa,ba,offa,rfl,hia2⟩:=id hia
    have v0:V.cell? ⟨wr.heap.size,0,none⟩=some (.string t):=by rw[hV];exact new_cell rfl rfl
    have v1:V.cell? ⟨wr.heap.size,1,none⟩=some (.int .i64 (a:Int)):=by rw[hV];exact new_cell rfl rfl
    have v2:V.cell? ⟨wr.heap.size,2,none⟩=some (.int .i64 pw):=by rw[hV];exact new_cell rfl rfl
    have hmx:=hG.out a x hxa
    have hft:=exFit_of hmx
    have hal:=hA.out x (List.mem_of_getElem? hxa)
    obtain⟨M,hM⟩:∃M,M=(piecesP x pw).length:=⟨_,rfl⟩
    have hML:=piecesP_len hal pw
    rw[←hM] at hML
    have CP:Hid (Calls prog 37 #[.agg #[.int .i64 x.kind,.int .i64 x.a,.int .i64 x.b,.int .i64 x.c,.string x.name,.string x.state,.int .i64 x.v,.slice oa x.args.length capa,.int .i64 x.pos],.int .i64 pw] V.drew fun r Z=>∃g1 c1,r=.returned (.slice (some ⟨g1,0,none⟩) M c1)∧Hid (∀i u,(pcCells (piecesP x pw))[i]?=some u→Z.cell? ((⟨g1,0,none⟩:Addr).add i)=some u)∧Hid (Below V.heap.size V Z)):=Hd ((pieces_any x (.slice oa x.args.length capa) pw V.drew (fun k hk=>cell_below hbV.drew (hS.out k hk)) hft.k1 hft.k21 (hia.below (qB _ _).drew) hal (fun h1 Y hY=>PR.out x (List.mem_of_getElem? hxa) h1 Y (hbV.drew.trans (hY.mono hbV.size)))).mono fun r Z h=>by
     obtain⟨g1,c1,h1,_,h3,h4⟩:=h.rows
     exact⟨g1,c1,by rw[hM];exact h1,Hd h3,Hd ⟨h4.os,h4.tape,h4.output,h4.size,h4.block⟩⟩)
    have ixe:=ix_exs (o:=o) (n:=n) (cap:=cap) (b:=bx) (off:=fx) ho.out hann (by omega)
    unfold Ix at ixe
    have HXA:=Hd hxa
    have HMM:=Hd hM
    have HVV:=Hd hV
    have HBV:=Hd hbV
    have HP7:=Hd (show _∧_ from⟨hp0,hp7⟩)
    have HFV:Hid (PcOwn V (W0.heap.size+1) (.slice (some ⟨g,0,none⟩) d c) F):=Hd (by rw[hV];exact HFO.out.alloc _)
    have hd8:d≤100000000:=by
     have:=costs_len l (n:=l.length) (by omega) F
     have h2:=HCOST.out
     have h3:=HLE.out
     have h4:=HD.out
     omega
    obtain⟨nn,hnn⟩:∃nn,d+M=nn:=⟨_,rfl⟩
    have hnb:(nn:Int)≤100004000:=by omega
    have hdn:(d:Int)≤(nn:Int):=by omega
    have hVs:W0.heap.size+1≤V.heap.size:=by rw[hV,World.size_alloc];omega
    have HNN:=Hd hnn
    have HWV:Hid (IsWr W0.heap.size W0.heap.size (.slice none 0 0) (Lib.byteCells ms) V):=Hd (by rw[hV];exact isWr_alloc HWR.out _)
    clear hnn
    clear hgp h0 hia hia2 hok hmx hft hal hM hxa hbV hp0 hp7 han
    have mixed:prog.follows .mixedOrders=true:=by kernel_rfl
    go_upto_region 9 with (fail)
    rw[←hV]
    clear hV
    go_region_law (first
     | (refine step_call1 _ (by rfl) 37 #[.agg #[.int .i64 x.kind,.int .i64 x.a,.int .i64 x.b,.int .i64 x.c,.string x.name,.string x.state,.int .i64 x.v,.slice oa x.args.length capa,.int .i64 x.pos],.int .i64 pw] (by go_simp) _ CP.out ?_;rintro e1 w1 ⟨g1,c1',rfl,hc1,hb1⟩;refine⟨_,rfl,?_⟩)
     | (refine step_pcs _ (by rfl) (.tmp 32) (.tmp 40) (by rfl) (W0.heap.size+1) (.slice (some ⟨g,0,none⟩) d c) F d HD.out.symm (by rfl) (HFV.out.below hb1.out) ⟨g1,0,none⟩ (piecesP x pw) M c1' HMM.out.symm (by rfl) hc1.out nn HNN.out (by omega) hML.1 (by have:=hb1.out.size;omega) ?_;intro g2 cap2 w2 ho2 hg2;have HO2:=Hd ho2;have HG2:=Hd hg2;clear ho2 hg2))
    all_goals (
     have HL2:(F++piecesP x pw).length=nn:=by rw[List.length_append,←HD.out,←HMM.out];exact HNN.out
     obtain⟨cz,hz0,hzs,hgb2,hnc2,hcm2,hrow⟩:=HO2.out.row HL2 (k:=d) (by have:=HNN.out;omega)
     have CR:=Hd (reverse_anyP g2 (d*3) (nn-d) (cap2-d) _ (by have:=HNN.out;omega) w2 cz hrow)
     have hd2:d<cap2:=by have:=HNN.out;have:=hML.1;omega
     have hd3:(d:Int)<(cap2:Int):=by omega
     have hd4:¬cap2-d=0:=by omega
     have HZ0:=Hd (show _∧_∧_∧_∧_ from⟨hz0,hzs,hgb2,hnc2,hcm2⟩)
     clear hz0 hzs hgb2 hcm2 hrow HL2
     go_wp2_with (go_at_call 38;(with_reducible refine CR.out.mono ?_);rintro r w3 ⟨rfl,hr3,hg3⟩)
     obtain⟨hz0,hzs,hgb2,hnc2',hcm2⟩:=HZ0.out
     obtain⟨q,hq1,hq2⟩:=toI_expr hG.out HXA.out HZ.out HD.out HMM.out HNN.out HFV.out HO2.out HWV.out hb1.out HG2.out hz0 hzs hgb2 hnc2' hcm2 hr3 hg3 HSTR.out HCOST.out HLE.out HBV.out HGF.out hVs
     refine⟨⟨_,_,_,rfl,Hd ⟨q,hq2⟩⟩,?_⟩
     have h9:=(HM.out _ ⟨q,hq2⟩).2 q hq2
     rw[←HMV.out]
     omega)
   ·have hz:=text_some h0
    have HZ:=Hd h0
    have CW:Hid (∀o1,Calls prog 36 #[.pointer (some ⟨W0.heap.size,0,none⟩),.slice (some ⟨wr.heap.size+1,0,none⟩) 1 1] ((wr.alloc o1).alloc (.cells #[.string t] 9)) fun r Y=>r=.returned (.tuple #[])∧Hid (∃q,q<mv∧ToI l W0.heap.size TT K W0 q (.slice (some ⟨g,0,none⟩) d c,Y))):=Hd fun o1 =>
     (wput_any W0.heap.size W0.heap.size (wr.heap.size+1) 1 1 (.slice none 0 0) ms [t] (Hd rfl) (by decide) ((wr.alloc o1).alloc (.cells #[.string t] 9)) (Hd (isWr_alloc (isWr_alloc HWR.out _) _)) (Hd (rowS wr o1 t)) (by omega) (by
      have e1:=congrArg ByteArray.size HSTR.out
      rw[ByteArray.size_append,ByteArray.size_append,str_size] at e1
      have e2:(rendB (txtB l l.length) ⟨t,pe,pw⟩).size=t.size:=by unfold rendB;rw[if_neg h0]
      rw[catL_one]
      have e3:t.data.toList.length=t.size:=by simp
      have:=HT.out
      omega) (by simp;omega)).mono fun r Y h=>⟨h.1,Hd (toI_text h0 HFO.out HD.out HSTR.out HCOST.out HLE.out HBL.out HGF.out o1 _ h.2.1 h.2.2.1 h.2.2.2 hbs)⟩
    clear h0 hgp
    go_wp2_with (go_at_call 36;(with_reducible refine(CW.out _).mono ?_);rintro r w1 ⟨rfl,hN⟩)
    obtain⟨q,hq1,hq2⟩:=hN.out
    refine⟨⟨_,_,_,rfl,Hd ⟨q,hq2⟩⟩,?_⟩
    have h9:=(HM.out _ ⟨q,hq2⟩).2 q hq2
    rw[←HMV.out]
    omega
theorem manyOf_out {k:Int} (h:¬(1≤k∧k≤21)):manyOf k=0:=by
 unfold manyOf;rw[if_neg (by omega),if_neg (by omega),if_neg (by omega)]
theorem manyOf_le (k:Int):manyOf k≤3:=by unfold manyOf;(repeat' split) <;> omega
def manyR (k:Int):Int:=if k=19 then -1 else(manyOf k:Int)
theorem fixed_any (k:Int) (w:World):Calls prog 58 #[.int .i64 k] w fun e w'=>e=.returned (.int .i64 ((manyOf k:Nat):Int))∧w=w':=by
 by_cases h:1≤k∧k≤21
 ·have h2:k=1∨k=2∨k=3∨k=4∨k=5∨k=6∨k=7∨k=8∨k=9∨k=10∨k=11∨k=12∨k=13∨k=14∨k=15∨k=16∨k=17∨k=18∨k=19∨k=20∨k=21:=by omega
  clear h
  rcases h2 with rfl | rfl | rfl | rfl | rfl | rfl | rfl | rfl | rfl | rfl | rfl | rfl | rfl | rfl | rfl | rfl | rfl | rfl | rfl | rfl | rfl
  all_goals
   go_enter Tryz.func58,Tryz.ntmps58
   go_wp2_with fail
   go_ret
   exact⟨rfl,rfl⟩
 ·have hr:((manyOf k:Nat):Int)=0:=by rw[manyOf_out h];rfl
  have e4:(k ==4)=false:=beq_false_of_ne (by omega)
  have e5:(k ==5)=false:=beq_false_of_ne (by omega)
  have e16:(k ==16)=false:=beq_false_of_ne (by omega)
  have e21:(k ==21)=false:=beq_false_of_ne (by omega)
  have e6:(k ==6)=false:=beq_false_of_ne (by omega)
  have e7:(k ==7)=false:=beq_false_of_ne (by omega)
  have e8:(k ==8)=false:=beq_false_of_ne (by omega)
  have e9:(k ==9)=false:=beq_false_of_ne (by omega)
  have e10:(k ==10)=false:=beq_false_of_ne (by omega)
  have e11:(k ==11)=false:=beq_false_of_ne (by omega)
  have e12:(k ==12)=false:=beq_false_of_ne (by omega)
  have e13:(k ==13)=false:=beq_false_of_ne (by omega)
  have e14:(k ==14)=false:=beq_false_of_ne (by omega)
  have e17:(k ==17)=false:=beq_false_of_ne (by omega)
  have e18:(k ==18)=false:=beq_false_of_ne (by omega)
  have e15:(k ==15)=false:=beq_false_of_ne (by omega)
  rw[hr]
  clear h hr
  go_enter Tryz.func58,Tryz.ntmps58
  go_wp2_with fail
  go_ret
  exact⟨rfl,rfl⟩
theorem many_any (k:Int) (w:World):Calls prog 30 #[.int .i64 k] w fun e w'=>e=.returned (.int .i64 (manyR k))∧w=w':=by
 by_cases h:1≤k∧k≤21
 ·have h2:k=1∨k=2∨k=3∨k=4∨k=5∨k=6∨k=7∨k=8∨k=9∨k=10∨k=11∨k=12∨k=13∨k=14∨k=15∨k=16∨k=17∨k=18∨k=19∨k=20∨k=21:=by omega
  clear h
  rcases h2 with rfl | rfl | rfl | rfl | rfl | rfl | rfl | rfl | rfl | rfl | rfl | rfl | rfl | rfl | rfl | rfl | rfl | rfl | rfl | rfl | rfl
  all_goals
   go_enter Tryz.func30,Tryz.ntmps30
   go_wp2_with fail
   go_ret
   exact⟨rfl,rfl⟩
 ·have hr:(manyR k)=0:=by unfold manyR;rw[if_neg (by omega),manyOf_out h];rfl
  have e4:(k ==4)=false:=beq_false_of_ne (by omega)
  have e5:(k ==5)=false:=beq_false_of_ne (by omega)
  have e16:(k ==16)=false:=beq_false_of_ne (by omega)
  have e21:(k ==21)=false:=beq_false_of_ne (by omega)
  have e6:(k ==6)=false:=beq_false_of_ne (by omega)
  have e7:(k ==7)=false:=beq_false_of_ne (by omega)
  have e8:(k ==8)=false:=beq_false_of_ne (by omega)
  have e9:(k ==9)=false:=beq_false_of_ne (by omega)
  have e10:(k ==10)=false:=beq_false_of_ne (by omega)
  have e11:(k ==11)=false:=beq_false_of_ne (by omega)
  have e12:(k ==12)=false:=beq_false_of_ne (by omega)
  have e13:(k ==13)=false:=beq_false_of_ne (by omega)
  have e14:(k ==14)=false:=beq_false_of_ne (by omega)
  have e17:(k ==17)=false:=beq_false_of_ne (by omega)
  have e18:(k ==18)=false:=beq_false_of_ne (by omega)
  have e15:(k ==15)=false:=beq_false_of_ne (by omega)
  have e19:(k ==19)=false:=beq_false_of_ne (by omega)
  rw[hr]
  clear h hr
  go_enter Tryz.func30,Tryz.ntmps30
  go_wp2_with fail
  go_ret
  exact⟨rfl,rfl⟩
theorem mostV_any (k:Int) (w:World):Calls prog 59 #[.int .i64 k] w fun e w'=>e=.returned (.int .i64 (mostV k))∧w=w':=by
 by_cases h1:k=1
 ·subst h1
  go_enter Tryz.func59,Tryz.ntmps59
  go_wp2_with fail
  go_ret
  exact⟨rfl,rfl⟩
 ·by_cases h2:k=2
  ·subst h2
   go_enter Tryz.func59,Tryz.ntmps59
   go_wp2_with fail
   go_ret
   exact⟨rfl,rfl⟩
  ·have e1:(k ==1)=false:=beq_false_of_ne h1
   have e2:(k ==2)=false:=beq_false_of_ne h2
   have hr:mostV k=0:=by unfold mostV;rw[if_neg h1,if_neg h2]
   rw[hr]
   clear hr h1 h2
   go_enter Tryz.func59,Tryz.ntmps59
   go_wp2_with fail
   go_ret
   exact⟨rfl,rfl⟩
end Go.Proofs.YthpgfahlccljnaaGreatDoor
