import Derived.Test.YthpgfahlccljnaaGreatDoorSw21
set_option maxHeartbeats 16000000
set_option maxRecDepth 100000
open Go.Proofs.Tryz(prog)
namespace Go.Proofs.YthpgfahlccljnaaGreatDoor
open Go.RowKit Lx
structure ArgSt (Y:World) (b g cap:Nat) (dv:Value) (ts:List Tok) (xb:Nat→Prop) (A:Nat) (τ:RS) (acc:List Int) (v:Value):Prop where
 own:Y.ownsRow (A+1) 3 1 v acc.length (acc.map intC)
 rd:Rd Y b g cap dv ts (fun k=>xb k∨v.ownBlock=some k) τ
theorem Rd.less {W:World} {b g cap:Nat} {dv:Value} {ts:List Tok} {xb yb:Nat→Prop} {σ:RS} (h:Rd W b g cap dv ts xb σ) (hy:∀k,yb k→xb k):Rd W b g cap dv ts yb σ:=by
 obtain⟨o,c,h1,q,h2,h3,h4⟩:=h.blk
 exact⟨fun k hk=>h.xlt k (hy k hk),⟨o,c,h1,q,h2,h3,fun p hp=>⟨(h4 p hp).1,fun k hk hyk=>(h4 p hp).2 k hk (hy k hyk)⟩⟩,h.row,h.lt,h.at_,h.len,h.ends⟩
theorem own_base {W:World} {B B':Nat} {e:TypeId} {s:Nat} {v:Value} {n:Nat} {xs:List Value} (h:W.ownsRow B e s v n xs) (hb:B'≤B):W.ownsRow B' e s v n xs:=by
 refine⟨h.1,?_⟩
 rcases h.2 with hn | ⟨g,cap,cur,rfl,hb2,rest⟩
 ·exact .inl hn
 ·exact .inr ⟨g,cap,cur,rfl,Nat.le_trans hb hb2,rest⟩
theorem ArgSt.call {W Y:World} {b g cap:Nat} {dv:Value} {ts:List Tok} {xb:Nat→Prop} {A:Nat} {τ σ:RS} {acc:List Int} {v:Value} (h:ArgSt W b g cap dv ts xb A τ acc v) (hbA:b<A+1) (hr:Rd Y b g cap dv ts (fun k=>xb k∨v.ownBlock=some k) σ) (hk:RK b W Y):ArgSt Y b g cap dv ts xb A σ acc v :=
 ⟨own_keep h.own hbA hk,hr⟩
theorem ArgSt.push {X Y:World} {b g cap:Nat} {dv:Value} {ts:List Tok} {xb:Nat→Prop} {A:Nat} {τ:RS} {acc:List Int} {v:Value} {n:Int} {g' c':Nat} (h:ArgSt X b g cap dv ts xb A τ acc v) (hbA:b<A+1)
  (hg:X.grownBy Y v.ownBlock) (ho:Y.ownsRow (A+1) 3 1 (.slice (some ⟨g',0,none⟩) (acc.length+1) c') (acc.length+1) (acc.map intC++[.int .i64 n])) (hl:v.ownBlock=some g'∨g'=X.heap.size) (hlt:g'<Y.heap.size) :
  ArgSt Y b g cap dv ts xb A τ (acc++[n]) (.slice (some ⟨g',0,none⟩) (acc.length+1) c'):=by
 have hbs:=h.rd.size
 have hgs:g<X.heap.size:=by have:=h.rd.lt;omega
 have hne:∀k,k<A+1→some k≠v.ownBlock:=fun k hk e=>by have:=(h.own.lt k e.symm).1;omega
 obtain⟨o,c,h1,q,h2,h3,h4⟩:=h.rd.blk
 refine⟨by rw[List.length_append,List.map_append];exact ho,⟨fun k hk=>?_,⟨o,c,(hg.block b hbs (hne b hbA)).trans h1,q,h2,?_,fun p hp=>⟨?_,?_⟩⟩,row_low h.rd.row (hg.block g hgs (hne g (by have:=h.rd.lt;omega))),h.rd.lt,h.rd.at_,h.rd.len,h.rd.ends⟩⟩
 ·rcases hk with hk | hk
  ·exact Nat.lt_of_lt_of_le (h.rd.xlt k (.inl hk)) hg.size
  ·simp[Value.ownBlock] at hk;omega
 ·refine rd_own_same h3 fun k e=>hg.block k (h3.lt k e).2 fun e2=>?_
  rcases h3.2 with ⟨h5,_⟩ | ⟨g3,c3,cur3,h5,_,h6,_⟩
  ·rw[h5] at e;cases e
  ·rcases h.own.2 with ⟨h7,_⟩ | ⟨g4,c4,cur4,h7,_,h8,_⟩
   ·rw[h7] at e2;cases e2
   ·rw[h5] at e;rw[h7] at e2
    simp[Value.ownBlock] at e e2
    subst e;subst e2
    rw[h6] at h8;cases h8
 ·exact rd_own_same (h4 p hp).1 fun k e=>hg.block k ((h4 p hp).1.lt k e).2 fun e2=>(h4 p hp).2 k e (.inr e2.symm)
 ·intro k e hk
  rcases hk with hk | hk
  ·exact(h4 p hp).2 k e (.inl hk)
  ·simp[Value.ownBlock] at hk
   rcases hl with hl | hl
   ·exact(h4 p hp).2 k e (.inr (by rw[hl,hk]))
   ·have:=((h4 p hp).1.lt k e).2;omega
theorem RK.grow_new {b:Nat} {W X Y:World} {row:Option Nat} (h:RK b W X) (hg:X.grownBy Y row) (hb:b≤W.heap.size) (hr:∀k,row=some k→W.heap.size≤k):RK b W Y :=
 ⟨hg.os.trans h.os,hg.tape.trans h.tape,hg.output.trans h.output,Nat.le_trans h.size hg.size,fun k hk=>(hg.block k (by have:=h.size;omega) (fun e=>by have:=hr k e.symm;omega)).trans (h.low k hk),
  fun k o hk hkb hno=>(hg.block k (by have:=h.size;have:=heap_lt hk;omega) (fun e=>by have:=hr k e.symm;have:=heap_lt hk;omega)).trans (h.keep k o hk hkb hno)⟩
theorem args_cases {ts:List Tok} {n:Nat} {acc:List Int} {σ:RS} {R:Int×List Int×RS} (h:runE ts n (.args acc) σ=some R):∃m,n=m+1∧acc.length≤40000 ∧
  ((isS ts [44] σ=true∧∃v l τ,runE ts m .expr (stepS σ)=some (v,l,τ)∧runE ts m (.args (acc++[v])) τ=some R)∨(isS ts [44] σ=false∧R=(0,acc,σ))):=by
 cases n with
 | zero=>cases h
 | succ m =>
  refine⟨m,rfl,?_⟩
  simp only[runE] at h
  split at h
  ·unfold argsG at h
   split at h
   ·rename_i hl
    refine⟨hl,?_⟩
    split at h
    ·rename_i hi
     cases h1:runE ts m .expr (stepS σ) with
     | none=>rw[h1] at h;cases h
     | some q =>
      rw[h1] at h
      exact .inl ⟨hi,q.1,q.2.1,q.2.2,rfl,h⟩
    ·rename_i hi
     exact .inr ⟨by simpa using hi,(qI h).symm⟩
   ·cases h
  ·cases h
theorem rd_int_info:(prog.info? 3).map (fun i=>(i.zero,i.size,i.bytes))=some (some (.int .i64 0),1,8):=by kernel_rfl
theorem one_cell (W:World) (v:Value) (T:TypeId) (j:Nat) (u:Value) (h:[v][j]?=some u):(W.alloc (.cells #[v] T)).cell? ((⟨W.heap.size,0,none⟩:Addr).add j)=some u:=by
 have e:(⟨W.heap.size,0,none⟩:Addr).add j=⟨W.heap.size,j,none⟩:=by unfold Addr.add;split <;> simp_all
 rw[e,World.cell?_alloc_new,←h,←Array.getElem?_toList]
theorem wpList_arg (w:World) {ops:Array Oper} {rest:List Oper} {o:Oper} {a:Act} {Q:Exit→Act→World→Prop}
  (hg:o.guard=none) (s x:Operand) (hop:o.op=Op.call { callee:=Callee.builtin Builtin.append,args:=#[s,x],argTypes:=#[44,44] })
  (base:Nat) (v:Value) (k:Nat) (xs:List Value) (hs:a.eval s=v) (hown:w.ownsRow base 3 1 v k xs) (ad:Addr) (news:List Value) (hx:a.eval x=.slice (some ad) 1 1) (hn:news.length=1*1)
  (hc:∀j u,news[j]?=some u→w.cell? (ad.add j)=some u) (h1c:∀u ∈ news,u.oneCell'=true) (hk:k≤40000) (b3:base≤w.heap.size)
  (hK:∀g cap w',w'.ownsRow base 3 1 (.slice (some ⟨g,0,none⟩) (k+1) cap) (k+1) (xs++news)→w.grownBy w' v.ownBlock→(v.ownBlock=some g∨g=w.heap.size)→g<w'.heap.size→wpList prog ops Q rest (a.put o.dst (.slice (some ⟨g,0,none⟩) (k+1) cap)) w') :
  wpList prog ops Q (o :: rest) a w:=by
 obtain⟨i,h2,h3,h4,h5⟩:=info_parts rd_int_info
 exact wpList_append_lies (w:=w) hg s x 44 hop base 3 i _ 1 8 Tryz.underlying44 h2 h3 h4 h5 rfl (by decide) v k xs hs hown ad 1 1 news hx hn hc h1c (by decide) (by unfold maxLen;omega) (by omega) b3 w.heap.size rfl hK
structure ArgAll (W Y:World) (b g cap:Nat) (dv:Value) (ts:List Tok) (xb:Nat→Prop) (A kd:Nat) (tx:List UInt8) (tv:Int) (p:Nat) (τ:RS) (acc:List Int) (v:Value):Prop where
 st:ArgSt Y b g cap dv ts xb A τ acc v
 box:Box4 Y A kd tx tv p
 rk:RK b W Y
theorem ArgAll.call {W X Y:World} {b g cap:Nat} {dv:Value} {ts:List Tok} {xb:Nat→Prop} {A kd:Nat} {tx:List UInt8} {tv:Int} {p:Nat} {τ σ:RS} {acc:List Int} {v:Value} (h:ArgAll W X b g cap dv ts xb A kd tx tv p τ acc v) (hbA:b<A)
  (hr:Rd Y b g cap dv ts (fun k=>xb k∨v.ownBlock=some k) σ) (hk:RK b X Y):ArgAll W Y b g cap dv ts xb A kd tx tv p σ acc v :=
 ⟨h.st.call (by omega) hr hk,h.box.keep hk (by omega),h.rk.trans hk⟩
theorem ArgAll.push {W X Y:World} {b g cap:Nat} {dv:Value} {ts:List Tok} {xb:Nat→Prop} {A kd:Nat} {tx:List UInt8} {tv:Int} {p:Nat} {τ:RS} {acc:List Int} {v:Value} {n:Int} {g' c':Nat} (h:ArgAll W X b g cap dv ts xb A kd tx tv p τ acc v) (hbA:b<A) (hA:A=W.heap.size)
  (hg:(X.alloc (.cells #[.int .i64 n] 3)).grownBy Y v.ownBlock) (ho:Y.ownsRow (A+1) 3 1 (.slice (some ⟨g',0,none⟩) (acc.length+1) c') (acc.length+1) (acc.map intC++[.int .i64 n]))
  (hl:v.ownBlock=some g'∨g'=(X.alloc (.cells #[.int .i64 n] 3)).heap.size) (hlt:g'<Y.heap.size):ArgAll W Y b g cap dv ts xb A kd tx tv p τ (acc++[n]) (.slice (some ⟨g',0,none⟩) (acc.length+1) c'):=by
 have hb0:Below X.heap.size X (X.alloc (.cells #[.int .i64 n] 3)):=(qB _ _).alloc (qL _) _
 have hk0:RK b X (X.alloc (.cells #[.int .i64 n] 3)):=RK.of_below hb0 (ql h.st.rd.size)
 have h2:=h.call hbA (h.st.rd.below hb0) hk0
 have hxA:A<(X.alloc (.cells #[.int .i64 n] 3)).heap.size:=heap_lt h2.box
 exact⟨h2.st.push (by omega) hg ho hl hlt,(hg.block A hxA fun e=>by have:=(h2.st.own.lt A e.symm).1;omega).trans h2.box,h2.rk.grow_new hg (by omega) fun k e=>by have:=(h2.st.own.lt k e).1;omega⟩
theorem own_form {W:World} {B:Nat} {e:TypeId} {s:Nat} {v:Value} {n:Nat} {xs:List Value} (h:W.ownsRow B e s v n xs):∃o c,v=.slice o n c:=by
 rcases h.2 with ⟨rfl,rfl⟩ | ⟨g,cap,cur,rfl,_⟩
 ·exact⟨none,0,rfl⟩
 ·exact⟨_,cap,rfl⟩
def ArgI (W:World) (b g cap:Nat) (dv:Value) (ts:List Tok) (xb:Nat→Prop) (A kd:Nat) (tx:List UInt8) (tv:Int) (p f:Nat) (R:Int×List Int×RS) (n:Nat) (x:Value×World):Prop :=
 ∃(acc:List Int) (τ:RS),n≤f∧runE ts n (.args acc) τ=some R∧ArgAll W x.2 b g cap dv ts xb A kd tx tv p τ acc x.1
theorem atom_args (b g cap:Nat) (dv:Value) (ts:List Tok) (xb:Nat→Prop) (σ:RS) (W:World) (h:Hid (Rd W b g cap dv ts xb σ)) (f:Nat) (IH:Hid (∀k,k≤f→∀yb,FC b g cap dv ts yb k)) (_:(tokL ts σ.at_).kind≠2) (ht:isS ts [116,114,117,101] σ=false) (hf:isS ts [102,97,108,115,101] σ=false) (h1:(tokL ts σ.at_).kind=1) (hi:isS ts [105,115] (stepS σ)=false) (hl':isS ts [40] (stepS σ)=true) (hr':isS ts [41] (stepS (stepS σ))=false)
  (va:Int) (la:List Int) (s1:RS) (r1:Hid (runE ts f .expr (stepS (stepS σ))=some (va,la,s1))) (R:Int×List Int×RS) (r2:Hid (runE ts f (.args [va]) s1=some R)) (ok:Hid (okS (wantS ts [41] R.2.2)=true)) :
  Calls prog 84 #[.pointer (some ⟨b,0,none⟩)] W fun r Y=>RdRet b g cap dv ts xb W (.int .i64 ((wantS ts [41] R.2.2).exprs.length:Int)) (putS { ex0 with kind:=19,name:=str (tokL ts σ.at_).text,args:=R.2.1,pos:=((tokL ts σ.at_).at_:Int) } (wantS ts [41] R.2.2)) r Y:=by
 obtain⟨o,c,⟨c0,c1,c3,c4,c5,c6,fr⟩,hx⟩:=h.out.cells
 have ht:=h.out.tok
 have hgb:g≠b:=by have:=h.out.lt;omega
 have hl:=h.out.at_
 have hn:=h.out.len
 obtain⟨t0,t1,t2,t3⟩:=ht
 obtain⟨n,hnn⟩:∃n,n=ts.length:=⟨_,rfl⟩
 obtain⟨a,haa⟩:∃a,a=σ.at_:=⟨_,rfl⟩
 obtain⟨cd,hcd⟩:∃cd,cd=σ.code:=⟨_,rfl⟩
 obtain⟨ps,hps⟩:∃ps,ps=σ.pos:=⟨_,rfl⟩
 obtain⟨dp,hdp⟩:∃dp,dp=σ.deep:=⟨_,rfl⟩
 obtain⟨kd,hkd⟩:∃kd,kd=(tokL ts σ.at_).kind:=⟨_,rfl⟩
 obtain⟨tx,htx⟩:∃tx,tx=(tokL ts σ.at_).text:=⟨_,rfl⟩
 obtain⟨tv,htv⟩:∃tv,tv=(tokL ts σ.at_).v:=⟨_,rfl⟩
 obtain⟨p,hp⟩:∃p,p=(tokL ts σ.at_).at_:=⟨_,rfl⟩
 rw[←hnn] at c0 hl hn
 rw[←hkd] at t0
 rw[←htx] at t1
 rw[←htv] at t2
 rw[←hp] at t3
 rw[←haa] at c1 t0 t1 t2 t3 hl
 rw[←hcd] at c5
 rw[←hdp] at c4
 rw[←hps] at c6
 have k0:((a:Nat):Int)<(n:Int):=by omega
 have f1:=fr 1
 have f4:=fr 4
 have f5:=fr 5
 have f6:=fr 6
 have HCD:=Hd hcd
 have HPS:=Hd hps
 have HDP:=Hd hdp
 have HKD:=Hd hkd
 have HTX:=Hd htx
 have HTV:=Hd htv
 have HP:=Hd hp
 have HAA:=Hd haa
 have HNN:=Hd hnn
 clear fr hx hnn haa hcd hps hdp hkd htx htv hp c3
 have hgs:g<W.heap.size:=by have:=h.out.lt;have:=h.out.size;omega
 have hbs:b<W.heap.size:=h.out.size
 have ha4:(a:Int)≤40000:=by omega
 obtain⟨A,hA⟩:∃A,A=W.heap.size:=⟨_,rfl⟩
 obtain⟨W1,hW1⟩:∃W1,W1=(W.alloc (.cells #[.int .i64 (kd:Int),.string (str tx),.int .i64 tv,.int .i64 (p:Int)] 76)).drew:=⟨_,rfl⟩
 have hb1:Below W.heap.size W W1:=by rw[hW1];exact((qB W.heap.size W).alloc (qL _) _).drew
 have HBX:Hid (Box4 W1 A kd tx tv p):=Hd (by rw[hW1,hA];exact heap_alloc_new W _)
 have HR1:Hid (Rd W1 b g cap dv ts xb σ):=Hd (h.out.below hb1)
 have HK1:Hid (RK b W W1):=Hd (RK.of_below hb1 (ql hbs))
 have hbA:b≠A:=by omega
 have q1:=(hb1.cell (p:=⟨b,1,none⟩) hbs).trans c1
 have qf:=(hb1.frozen (p:=⟨b,1,none⟩) hbs).trans f1
 obtain⟨x0,x1,x2,x3⟩:=HBX.out.cells
 have HAW:=Hd hA
 clear hb1
 have q2:((kd:Int) ==2)=false:=beq_false_of_ne (by rw[HKD.out,h1];decide)
 have q1':((kd:Int) ==1)=true:=by rw[HKD.out,h1];rfl
 have hk5:(tokL ts σ.at_).kind≠5:=by rw[h1];decide
 have TK:Hid (∀W,Hid (Rd W b g cap dv ts xb σ)→Hid (Box4 W A kd tx tv p)→Calls prog 48 #[.pointer (some ⟨b,0,none⟩),.string ⟨#[116,114,117,101]⟩] W fun r Y=>RdBox b g cap dv ts xb A kd tx tv p W (.bool false) σ a r Y):=Hd fun W h hx=>(took_false [116,114,117,101] ht W h).mono fun r Y hr=>hr.box (by first | exact HAA.out.symm | (rw[HAA.out];rfl)) hx hbA
 have FK:Hid (∀W,Hid (Rd W b g cap dv ts xb σ)→Hid (Box4 W A kd tx tv p)→Calls prog 48 #[.pointer (some ⟨b,0,none⟩),.string ⟨#[102,97,108,115,101]⟩] W fun r Y=>RdBox b g cap dv ts xb A kd tx tv p W (.bool false) σ a r Y):=Hd fun W h hx=>(took_false [102,97,108,115,101] hf W h).mono fun r Y hr=>hr.box (by first | exact HAA.out.symm | (rw[HAA.out];rfl)) hx hbA
 have IK:Hid (∀W,Hid (Rd W b g cap dv ts xb (stepS σ))→Hid (Box4 W A kd tx tv p)→Calls prog 48 #[.pointer (some ⟨b,0,none⟩),.string ⟨#[105,115]⟩] W fun r Y=>RdBox b g cap dv ts xb A kd tx tv p W (.bool false) (stepS σ) (a+1) r Y):=Hd fun W h hx=>(took_false [105,115] hi W h).mono fun r Y hr=>hr.box (by first | exact HAA.out.symm | (rw[HAA.out];rfl)) hx hbA
 have LK:Hid (∀W,Hid (Rd W b g cap dv ts xb (stepS σ))→Hid (Box4 W A kd tx tv p)→Calls prog 48 #[.pointer (some ⟨b,0,none⟩),.string ⟨#[40]⟩] W fun r Y=>RdBox b g cap dv ts xb A kd tx tv p W (.bool true) (stepS (stepS σ)) (a+1+1) r Y):=Hd fun W h hx=>(took_true [40] hl' W h).mono fun r Y hr=>hr.box (by first | exact HAA.out.symm | (rw[HAA.out];rfl)) hx hbA
 have RP:Hid (∀W,Hid (Rd W b g cap dv ts xb (stepS (stepS σ)))→Hid (Box4 W A kd tx tv p)→Calls prog 48 #[.pointer (some ⟨b,0,none⟩),.string ⟨#[41]⟩] W fun r Y=>RdBox b g cap dv ts xb A kd tx tv p W (.bool false) (stepS (stepS σ)) (a+1+1) r Y):=Hd fun W h hx=>(took_false [41] hr' W h).mono fun r Y hr=>hr.box (by first | exact HAA.out.symm | (rw[HAA.out];rfl)) hx hbA
 have E1:Hid (∀W,Hid (Rd W b g cap dv ts xb (stepS (stepS σ)))→Hid (Box4 W A kd tx tv p)→Calls prog 26 #[.pointer (some ⟨b,0,none⟩)] W fun r Y=>RdBox b g cap dv ts xb A kd tx tv p W (.int .i64 va) s1 s1.at_ r Y):=Hd fun W h hx=>((IH.out f (qL _) xb).expr _ _ _ _ r1.out W h).mono fun r Y hr=>hr.box rfl hx hbA
 obtain⟨m,hm⟩:=least_of (ArgI W b g cap dv ts xb A kd tx tv p f R)
 have HM:=Hd hm
 have hAb:b<A:=by omega
 have XLT:=Hd h.out.xlt
 clear ht hf h1 hi hl' hr' hm
 go_enter Tryz.func84,Tryz.ntmps84
 go_wp2_with fail
 go_region_held3 (fun w'=>w'.cell? ⟨b,0,none⟩=some (.slice (some ⟨g,0,none⟩) n cap)∧w'.cell? ⟨b,1,none⟩=some (.int .i64 (a:Int))∧w'.cell? ⟨g,a*4,none⟩=some (.int .i64 (kd:Int))∧w'.cell? ⟨g,a*4+1,none⟩=some (.string (str tx))∧w'.cell? ⟨g,a*4+2,none⟩=some (.int .i64 tv)∧w'.cell? ⟨g,a*4+3,none⟩=some (.int .i64 (p:Int)))
  ((repeat' apply And.intro) <;> first | assumption | go_keep)
  (fail)
 rw[←hW1,←hA]
 clear hW1 hA t0 t1 t2 t3 c0 c1 c4 c5 c6 f1 f4 f5 f6 k0 hgs
 go_wp2_with (first
  | (go_at_call 48;(with_reducible refine(TK.out W1 HR1 HBX).mono ?_);rintro e w2 ⟨rfl,y0,y1,y3,yb,yf,HR2,HK2,HX2⟩)
  | (go_at_call 48;(with_reducible refine(FK.out w2 HR2 HX2).mono ?_);rintro e w3 ⟨rfl,y0,y1,y3,yb,yf,HR3,HK3,HX3⟩)
  | (go_at_call 48;(with_reducible refine(IK.out _ (rd_step HR3 hk5 HAA) (box_step HX3 hbA _)).mono ?_);rintro e w4 ⟨rfl,y0,y1,y3,yb,yf,HR4,HK4,HX4⟩)
  | (go_at_call 48;(with_reducible refine(LK.out w4 HR4 HX4).mono ?_);rintro e w5 ⟨rfl,y0,y1,y3,yb,yf,HR5,HK5,HX5⟩)
  | (go_at_call 48;(with_reducible refine(RP.out w5 HR5 HX5).mono ?_);rintro e w6 ⟨rfl,y0,y1,y3,yb,yf,HR6,HK6,HX6⟩)
  | (go_at_call 26;(with_reducible refine(E1.out w6 HR6 HX6).mono ?_);rintro e w7 ⟨rfl,y0,y1,y3,yb,yf,HR7,HK7,HX7⟩)
  | (at_builtin;refine wpList_arg _ rfl _ _ rfl (A+1) (.slice none 0 0) 0 [] rfl (qO _ _ _ _) ⟨w7.heap.size,0,none⟩ [.int .i64 va] rfl rfl (one_cell w7 _ _) (by simp[Value.oneCell']) (by omega) (by have:=heap_lt HX7.out;simp;omega) ?_;intro g8 c8 w8 ho8 hg8 hl8 hlt8;have HO8:=Hd ho8;have HG8:=Hd hg8;have HL8:=Hd hl8;have HLT8:=Hd hlt8;clear ho8 hg8 hl8 hlt8))
 have HKW:=Hd (HK1.out.trans (HK2.out.trans (HK3.out.trans ((RK.set 1 _).trans (HK4.out.trans (HK5.out.trans (HK6.out.trans HK7.out)))))))
 have HALL:Hid (ArgAll W w8 b g cap dv ts xb A kd tx tv p s1 [va] (.slice (some ⟨g8,0,none⟩) 1 c8)):=Hd (by
  have h0:ArgAll W w7 b g cap dv ts xb A kd tx tv p s1 [] (.slice none 0 0):=⟨⟨qO _ _ _ _,HR7.out.less fun k hk=>by rcases hk with hk | hk;exact hk;cases hk⟩,HX7.out,HKW.out⟩
  exact h0.push hAb HAW.out HG8.out HO8.out HL8.out HLT8.out)
 clear y0 y1 y3 yb yf q1 qf x0 x1 x2 x3
 go_loopw [4] (fun v wr=>∃o nn c,v=.slice o nn c∧Hid (∃n,ArgI W b g cap dv ts xb A kd tx tv p f R n (v,wr))) (fun v wr=>m (v,wr))
 case atStart=>exact⟨_,_,_,rfl,Hd ⟨f,[va],s1,qL _,r2.out,HALL.out⟩⟩
 case round =>
  obtain⟨ov,nv,cv,rfl,hI⟩:=hrel
  obtain⟨hm1,hm2⟩:=HM.out _ hI.out
  obtain⟨acc,τ,hnf,hrun,hall⟩:=hm1
  obtain⟨nn,hmn⟩:∃nn,nn=m (.slice ov nv cv,wr):=⟨_,rfl⟩
  rw[←hmn] at hnf hrun
  obtain⟨k,rfl,hacc,hcase⟩:=args_cases hrun
  have HALLr:=Hd hall
  have HMN:=Hd hmn
  have HACC:=Hd hacc
  have HNV:Hid (nv=acc.length):=Hd (by obtain⟨o',c',e⟩:=own_form hall.st.own;injection e)
  have HRr:=Hd hall.st.rd
  clear hrun hmn hm2 hI hall hacc
  rcases hcase with ⟨hc,v3,l3,y,r3,r4⟩ | ⟨hc,hR⟩
  ·have TC:=Hd (took_true (b:=b) (g:=g) (cap:=cap) (dv:=dv) (ts:=ts) (xb:=fun k=>xb k∨(Value.slice ov nv cv).ownBlock=some k) (σ:=τ) [44] hc wr HRr)
   have TC':Hid (Calls prog 48 #[.pointer (some ⟨b,0,none⟩),.string ⟨#[44]⟩] wr fun r Y=>RdRet b g cap dv ts (fun k=>xb k∨(Value.slice ov nv cv).ownBlock=some k) wr (.bool true) (stepS τ) r Y):=TC
   have E3:=Hd ((IH.out k (by omega) (fun k=>xb k∨(Value.slice ov nv cv).ownBlock=some k)).expr _ _ _ _ r3)
   have HR4':=Hd r4
   clear TC hc r3 r4
   go_wp2_with (first
    | (go_at_call 48;(with_reducible refine TC'.out.mono ?_);rintro e w9 ⟨rfl,hr,hk⟩;have HR9:=Hd hr;have HK9:=Hd hk;clear hr hk)
    | (go_at_call 26;(with_reducible refine(E3.out w9 HR9).mono ?_);rintro e wa ⟨rfl,hr,hk⟩;have HRa:=Hd hr;have HKa:=Hd hk;clear hr hk;have HALLa:=Hd (HALLr.out.call hAb HRa.out (HK9.out.trans HKa.out)))
    | (at_builtin;refine wpList_arg _ rfl _ _ rfl (A+1) (.slice ov nv cv) nv (acc.map intC) rfl (by have:=HALLa.out.st.own;rw[←HNV.out] at this;exact this.alloc _) ⟨wa.heap.size,0,none⟩ [.int .i64 v3] rfl rfl (one_cell wa _ _) (by simp[Value.oneCell']) (by have:=HACC.out;have:=HNV.out;omega) (by have:=heap_lt HALLa.out.box;simp;omega) ?_;intro gb cb wb hob hgb' hlb hltb;have HOb:=Hd hob;have HGb:=Hd hgb';have HLb:=Hd hlb;have HLTb:=Hd hltb;clear hob hgb' hlb hltb))
   have HI:ArgI W b g cap dv ts xb A kd tx tv p f R k (.slice (some ⟨gb,0,none⟩) (nv+1) cb,wb):=⟨acc++[v3],y,by omega,HR4'.out,by
    have h6:=HOb.out
    have h7:=HNV.out
    subst h7
    exact HALLa.out.push hAb HAW.out HGb.out h6 HLb.out HLTb.out⟩
   exact⟨⟨_,_,_,rfl,Hd ⟨k,HI⟩⟩,by have h5:=(HM.out _ ⟨k,HI⟩).2 k HI;have h6:=HMN.out;omega⟩
  ·have HRE:=Hd hR
   have TC:Hid (Calls prog 48 #[.pointer (some ⟨b,0,none⟩),.string ⟨#[44]⟩] wr fun r Y=>RdRet b g cap dv ts (fun k=>xb k∨(Value.slice ov nv cv).ownBlock=some k) wr (.bool false) τ r Y):=Hd (took_false (b:=b) (g:=g) (cap:=cap) (dv:=dv) (ts:=ts) (xb:=fun k=>xb k∨(Value.slice ov nv cv).ownBlock=some k) (σ:=τ) [44] hc wr HRr)
   have WP:Hid (∀W,Hid (Rd W b g cap dv ts (fun k=>xb k∨(Value.slice ov nv cv).ownBlock=some k) τ)→Calls prog 49 #[.pointer (some ⟨b,0,none⟩),.string ⟨#[41]⟩] W fun r Y=>RdRet b g cap dv ts (fun k=>xb k∨(Value.slice ov nv cv).ownBlock=some k) W (.tuple #[]) (wantS ts [41] τ) r Y):=Hd fun W h=>want_any b g cap dv ts _ τ [41] W h
   have PU:Hid (∀Y,Hid (ArgAll W Y b g cap dv ts xb A kd tx tv p (wantS ts [41] τ) acc (.slice ov nv cv))→Calls prog 50 #[.pointer (some ⟨b,0,none⟩),.agg #[.int .i64 19,.int .i64 0,.int .i64 0,.int .i64 0,.string (str tx),.string ⟨#[]⟩,.int .i64 0,.slice ov nv cv,.int .i64 (p:Int)]] Y fun r Z=>RdRet b g cap dv ts xb Y (.int .i64 ((wantS ts [41] τ).exprs.length:Int)) (putS { ex0 with kind:=19,name:=str tx,args:=acc,pos:=(p:Int) } (wantS ts [41] τ)) r Z):=Hd fun Y hY =>
    put_any b g cap dv ts xb (wantS ts [41] τ) { ex0 with kind:=19,name:=str tx,args:=acc,pos:=(p:Int) } ov nv cv Y (Hd (hY.out.st.rd.less fun k hk=>.inl hk)) (okS_iff.1 (by have h5:=ok.out;rw[HRE.out] at h5;exact h5)).1 (Hd (own_base hY.out.st.own (by omega))) (Hd fun k hk hx=>by
     have h6:=(hY.out.st.own.lt k hk).1
     have h7:=XLT.out k hx
     have h8:=HAW.out
     omega)
   clear hc hR
   go_wp2_with (first
    | (go_at_call 48;(with_reducible refine TC.out.mono ?_);rintro e w9 ⟨rfl,hr,hk⟩;have HR9:=Hd hr;have HK9:=Hd hk;clear hr hk)
    | (go_at_call 49;(with_reducible refine(WP.out w9 HR9).mono ?_);rintro e wa ⟨rfl,hr,hk⟩;have HRa:=Hd hr;have HKa:=Hd hk;clear hr hk;have HALLa:=Hd (HALLr.out.call hAb HRa.out (HK9.out.trans HKa.out));obtain⟨z0,z1,_,z3⟩:=HALLa.out.box.cells)
    | (go_at_call 50;(with_reducible refine(PU.out wa HALLa).mono ?_);rintro e wb ⟨rfl,hr,hk⟩;have HRb:=Hd hr;have HKb:=Hd hk;clear hr hk))
   go_ret
   rw[←HP.out,←HTX.out,HRE.out]
   exact⟨rfl,HRb.out,HALLa.out.rk.trans HKb.out⟩
def preA:Array Value:=(prefixL.map fun p=>Value.string (str p.1)).toArray
def preB:Array Value:=(prefixL.map fun p=>Value.int .i64 p.2).toArray
theorem cell_at {W:World} {k:Nat} {cs:Array Value} {T:TypeId} {fr:Nat×Nat} (h:W.heap[k]?=some (.cells cs T fr)) {j:Nat} {v:Value} (hv:cs[j]?=some v):W.cell? ⟨k,j,none⟩=some v:=by simp[World.cell?,h,hv]
theorem pre_at {α:Type} {l:List α} {f:α→Value} {j:Nat} {x:α} (h:l[j]?=some x):((l.map f).toArray)[j]?=some (f x):=by rw[List.getElem?_toArray,List.getElem?_map,h];rfl
theorem NoEx.str {cs:Array Value}:NoEx (.cells cs 9 (0,0)):=fun cs' h=>by cases h
structure PreL (W:World) (A:Nat):Prop where
 one:W.heap[A]?=some (.cells preA 9 (0,0))
 two:W.heap[A+1]?=some (.cells preB 3 (0,0))
theorem PreL.keep {b A:Nat} {W Y:World} (h:PreL W A) (hk:RK b W Y) (hb:b<A):PreL Y A:=⟨hk.keep A _ h.one (by omega) .str,hk.keep (A+1) _ h.two (by omega) .int⟩
theorem PreL.new (w:World):PreL ((w.alloc (.cells preA 9)).alloc (.cells preB 3)) w.heap.size:=by
 refine⟨?_,?_⟩
 ·rw[heap_alloc_old _ _ (by simp)];exact heap_alloc_new w _
 ·have:=heap_alloc_new (w.alloc (.cells preA 9)) (.cells preB 3);rwa [World.size_alloc] at this
theorem prefix_pos {p:List UInt8×Int} (h:p ∈ prefixL):p.2≠0∧0≤p.2∧p.2≤21:=by
 have:∀p ∈ prefixL,p.2≠0∧0≤p.2∧p.2≤21:=by decide
 exact this p h
theorem pre_bad (b g cap:Nat) (dv:Value) (ts:List Tok) (xb:Nat→Prop) (σ:RS) (hok:okS σ=true) (hc:Hid ((enterS ts σ).code≠0)) (W:World) (h:Hid (Rd W b g cap dv ts xb σ)) :
  Calls prog 72 #[.pointer (some ⟨b,0,none⟩)] W fun r Y=>RdRet b g cap dv ts xb W (.int .i64 0) (leaveS (enterS ts σ)) r Y:=by
 obtain⟨_,d0,d1⟩:=okS_iff.1 hok
 have hd:=enter_deep ts σ
 obtain⟨d,hdd⟩:∃d,d=(enterS ts σ).deep:=⟨_,rfl⟩
 have dd0:0≤d:=by omega
 have dd1:d≤31:=by omega
 have EN:Hid (Calls prog 47 #[.pointer (some ⟨b,0,none⟩)] W fun r Y=>RdDeep b g cap dv ts xb W (.bool false) (enterS ts σ) d r Y):=Hd ((enter_any b g cap dv ts xb σ W h d0 d1).mono fun r Y hr=>by
  rw[qF hc.out] at hr
  exact hr.deep hdd.symm)
 have HD:=Hd hdd
 clear hd hdd hok d0 d1
 go_enter Tryz.func72,Tryz.ntmps72
 go_wp2_with (go_at_call 47;(with_reducible refine EN.out.mono ?_);rintro e w1 ⟨rfl,z4,z5,HR,HK⟩)
 go_ret
 rw[HD.out]
 exact⟨rfl,HR.out.setDeep _,HK.out.trans (RK.set 4 _)⟩
theorem pre_atom (b g cap:Nat) (dv:Value) (ts:List Tok) (xb:Nat→Prop) (f:Nat) (IH:Hid (FC b g cap dv ts xb f)) (σ x:RS) (hx:Hid (x=enterS ts σ)) (hok:okS σ=true) (hc:Hid (x.code=0)) (hK:Hid (prefixK ts x prefixL=0)) (v:Int) (l:List Int) (y:RS)
  (r1:Hid (runE ts f .atom x=some (v,l,y))) (oky:okS y=true) (W:World) (h:Hid (Rd W b g cap dv ts xb σ)) :
  Calls prog 72 #[.pointer (some ⟨b,0,none⟩)] W fun r Y=>RdRet b g cap dv ts xb W (.int .i64 v) (leaveS y) r Y:=by
 obtain⟨_,d0,d1⟩:=okS_iff.1 hok
 obtain⟨k4,e0,e1⟩:=okS_iff.1 oky
 have EN:Hid (Calls prog 47 #[.pointer (some ⟨b,0,none⟩)] W fun r Y=>RdRet b g cap dv ts xb W (.bool true) x r Y):=Hd ((enter_any b g cap dv ts xb σ W h d0 d1).mono fun r Y hr=>by
  rwa [←hx.out,qT hc.out] at hr)
 have TF:=Hd (fun s hs W h=>took_false (b:=b) (g:=g) (cap:=cap) (dv:=dv) (ts:=ts) (xb:=xb) (σ:=x) s hs W h)
 obtain⟨d,hdd⟩:∃d,d=y.deep:=⟨_,rfl⟩
 rw[←hdd] at e0 e1
 have AT:Hid (∀W,Hid (Rd W b g cap dv ts xb x)→Calls prog 84 #[.pointer (some ⟨b,0,none⟩)] W fun r Y=>RdDeep b g cap dv ts xb W (.int .i64 v) y d r Y):=Hd fun W h=>(IH.out.atom _ _ _ _ hc.out r1.out W h).mono fun r Y hr=>hr.deep hdd.symm
 have HNO:Hid (∀p ∈ prefixL,isS ts p.1 x=false):=Hd (by
  intro p hp
  have hk:=hK.out
  unfold prefixK at hk
  cases hf:prefixL.find? fun p=>isS ts p.1 x with
  | none=>simpa using List.find?_eq_none.1 hf p hp
  | some q=>rw[hf] at hk;exact absurd hk (prefix_pos (List.mem_of_find?_eq_some hf)).1)
 have HD:=Hd hdd
 clear hdd hok oky d0 d1 k4
 go_enter Tryz.func72,Tryz.ntmps72
 go_wp2_with (go_at_call 47;(with_reducible refine EN.out.mono ?_);rintro e w1 ⟨rfl,hr,hk⟩;have HR:=Hd hr;have HK:=Hd hk;clear hr hk)
 obtain⟨o,c,⟨c0,c1,c3,c4,c5,c6,fr⟩,hx⟩:=HR.out.cells
 have ht:=HR.out.tok
 have hgb:g≠b:=by have:=HR.out.lt;omega
 have hl:=HR.out.at_
 have hn:=HR.out.len
 obtain⟨t0,t1,t2,t3⟩:=ht
 obtain⟨n,hnn⟩:∃n,n=ts.length:=⟨_,rfl⟩
 obtain⟨a,haa⟩:∃a,a=x.at_:=⟨_,rfl⟩
 obtain⟨cd,hcd⟩:∃cd,cd=x.code:=⟨_,rfl⟩
 obtain⟨ps,hps⟩:∃ps,ps=x.pos:=⟨_,rfl⟩
 obtain⟨dp,hdp⟩:∃dp,dp=x.deep:=⟨_,rfl⟩
 obtain⟨kd,hkd⟩:∃kd,kd=(tokL ts x.at_).kind:=⟨_,rfl⟩
 obtain⟨tx,htx⟩:∃tx,tx=(tokL ts x.at_).text:=⟨_,rfl⟩
 obtain⟨tv,htv⟩:∃tv,tv=(tokL ts x.at_).v:=⟨_,rfl⟩
 obtain⟨p,hp⟩:∃p,p=(tokL ts x.at_).at_:=⟨_,rfl⟩
 rw[←hnn] at c0 hl hn
 rw[←hkd] at t0
 rw[←htx] at t1
 rw[←htv] at t2
 rw[←hp] at t3
 rw[←haa] at c1 t0 t1 t2 t3 hl
 rw[←hcd] at c5
 rw[←hdp] at c4
 rw[←hps] at c6
 have k0:((a:Nat):Int)<(n:Int):=by omega
 have f1:=fr 1
 have f4:=fr 4
 have f5:=fr 5
 have f6:=fr 6
 have HCD:=Hd hcd
 have HPS:=Hd hps
 have HDP:=Hd hdp
 have HKD:=Hd hkd
 have HTX:=Hd htx
 have HTV:=Hd htv
 have HP:=Hd hp
 have HAA:=Hd haa
 have HNN:=Hd hnn
 clear fr hx hnn haa hcd hps hdp hkd htx htv hp c3
 go_quiet (fail)
 have HX:Hid (Rd (w1.drewN nq) b g cap dv ts xb x):=Hd (HR.out.below (below_dr (qB _ _) _))
 have HXK:Hid (RK b W (w1.drewN nq)):=Hd (HK.out.trans (RK.of_below (below_dr (qB _ _) _) (ql HR.out.size)))
 have hbA:b<w1.heap.size:=HR.out.size
 clear HCD HPS HDP HKD HTX HTV HAA HNN
 clear t0 t1 t2 t3 c0 c1 c4 c5 c6 f1 f4 f5 f6 k0 hl hn hgb
 go_wp2_with fail
 change Code.wp _ _ _ _ (((w1.drewN nq).alloc (.cells preA 9)).alloc (.cells preB 3))
 obtain⟨V,hV⟩:∃V,V=((w1.drewN nq).alloc (.cells preA 9)).alloc (.cells preB 3):=⟨_,rfl⟩
 have HPL:Hid (PreL V w1.heap.size):=Hd (by rw[hV];exact PreL.new (w1.drewN nq))
 have HVX:Hid (Rd V b g cap dv ts xb x):=Hd (by rw[hV];exact(HX.out.alloc _).alloc _)
 have HVK:Hid (RK b W V):=Hd (by rw[hV];exact HXK.out.trans (RK.of_below (((qB _ _).alloc (qL _) _).alloc (by simp) _) (ql HX.out.size)))
 rw[←hV]
 clear hV
 go_loopw [7,8] (fun kv i wr=>∃j:Nat,j≤4∧kv=.int .i64 0∧i=.int .i64 (j:Int)∧Hid (Rd wr b g cap dv ts xb x∧RK b V wr)) (fun _ i _=>4-litLen i)
 case atStart=>exact⟨0,by omega,rfl,rfl,Hd ⟨HVX.out,RK.refl _ _⟩⟩
 case round =>
  obtain⟨j,hj,rfl,rfl,hI⟩:=hrel
  rcases Nat.lt_or_ge j 4 with hlt | hge
  ·have q3:decide ((j:Int)<4)=true:=qT (by omega)
   have jr:(j:Int)<4:=by omega
   obtain⟨q,hq⟩:∃q,prefixL[j]?=some q:=⟨prefixL[j]'(by show j<4;exact hlt),List.getElem?_eq_getElem _⟩
   have hPL:=HPL.out.keep hI.out.2 hbA
   have x1:=cell_at hPL.one (pre_at (f:=fun p:List UInt8×Int=>Value.string (str p.1)) hq)
   have C:=Hd (TF.out q.1 (HNO.out q (List.mem_of_getElem? hq)) wr (Hd hI.out.1))
   clear hPL hq
   go_wp2_with (go_at_call 48;(with_reducible refine C.out.mono ?_);rintro e w2 ⟨rfl,hr,hk⟩;have HR2:=Hd hr;have HK2:=Hd hk;clear hr hk)
   exact⟨⟨j+1,by omega,rfl,rfl,Hd ⟨HR2.out,hI.out.2.trans HK2.out⟩⟩,by simp[litLen];omega⟩
  ·have q3:decide ((j:Int)<4)=false:=qF (by omega)
   have C:=Hd (AT.out wr (Hd hI.out.1))
   go_wp2_with (go_at_call 84;(with_reducible refine C.out.mono ?_);rintro e w2 ⟨rfl,z4,z5,HR2,HK2⟩)
   go_ret
   rw[HD.out]
   exact⟨rfl,HR2.out.setDeep _,HVK.out.trans (hI.out.2.trans (HK2.out.trans (RK.set 4 _)))⟩
theorem prefix_index {ts:List Tok} {x:RS}:∀(l:List (List UInt8×Int)),prefixK ts x l≠0→∃(j:Nat) (s:List UInt8),l[j]?=some (s,prefixK ts x l)∧isS ts s x=true∧∀(i:Nat) (q:List UInt8×Int),i<j→l[i]?=some q→isS ts q.1 x=false
 | [],h=>absurd rfl h
 | p :: l,h=>by
  cases hp:isS ts p.1 x with
  | true =>
   have e:prefixK ts x (p :: l)=p.2:=by unfold prefixK;rw[List.find?_cons,hp]
   exact⟨0,p.1,by rw[e];simp,hp,fun i q hi _=>by omega⟩
  | false =>
   have e:prefixK ts x (p :: l)=prefixK ts x l:=by unfold prefixK;rw[List.find?_cons,hp]
   rw[e] at h ⊢
   obtain⟨j,s,h1,h2,h3⟩:=prefix_index l h
   refine⟨j+1,s,by simpa using h1,h2,fun i q hi hq=>?_⟩
   cases i with
   | zero =>
    obtain rfl:p=q:=by simpa using hq
    exact hp
   | succ i=>exact h3 i q (by omega) (by simpa using hq)
theorem pre_some (b g cap:Nat) (dv:Value) (ts:List Tok) (xb:Nat→Prop) (f:Nat) (IH:Hid (FC b g cap dv ts xb f)) (σ x:RS) (hx:Hid (x=enterS ts σ)) (hok:okS σ=true) (hc:Hid (x.code=0)) (K:Int) (hK0:K≠0) (k0':0≤K) (k21:K≤21) (j0:Nat) (s0:List UInt8) (hj0:j0<4) (hs0:Hid (prefixL[j0]?=some (s0,K))) (hit:Hid (isS ts s0 x=true)) (hno:Hid (∀i q,i<j0→prefixL[i]?=some q→isS ts q.1 x=false))
  (v:Int) (l:List Int) (y:RS) (r1:Hid (runE ts f .pre (stepS x)=some (v,l,y))) (oky:okS y=true) (W:World) (h:Hid (Rd W b g cap dv ts xb σ)) :
  Calls prog 72 #[.pointer (some ⟨b,0,none⟩)] W fun r Y=>RdRet b g cap dv ts xb W (.int .i64 (y.exprs.length:Int)) (leaveS (putS { ex0 with kind:=K,a:=v,pos:=((tokL ts x.at_).at_:Int) } y)) r Y:=by
 obtain⟨_,d0,d1⟩:=okS_iff.1 hok
 obtain⟨k4,e0,e1⟩:=okS_iff.1 oky
 have EN:Hid (Calls prog 47 #[.pointer (some ⟨b,0,none⟩)] W fun r Y=>RdRet b g cap dv ts xb W (.bool true) x r Y):=Hd ((enter_any b g cap dv ts xb σ W h d0 d1).mono fun r Y hr=>by
  rwa [←hx.out,qT hc.out] at hr)
 have TF:=Hd (fun s hs W h=>took_false (b:=b) (g:=g) (cap:=cap) (dv:=dv) (ts:=ts) (xb:=xb) (σ:=x) s hs W h)
 obtain⟨d,hdd⟩:∃d,d=y.deep:=⟨_,rfl⟩
 rw[←hdd] at e0 e1
 have TT:=Hd (fun W h=>took_true (b:=b) (g:=g) (cap:=cap) (dv:=dv) (ts:=ts) (xb:=xb) (σ:=x) s0 hit.out W h)
 have PR:=Hd (IH.out.pre _ _ _ _ r1.out)
 have PU:Hid (∀(p:Nat) W,Hid (Rd W b g cap dv ts xb y)→Calls prog 50 #[.pointer (some ⟨b,0,none⟩),.agg #[.int .i64 K,.int .i64 v,.int .i64 0,.int .i64 0,.string ⟨#[]⟩,.string ⟨#[]⟩,.int .i64 0,.slice none 0 0,.int .i64 (p:Int)]] W fun r Y=>RdDeep b g cap dv ts xb W (.int .i64 (y.exprs.length:Int)) (putS { ex0 with kind:=K,a:=v,pos:=(p:Int) } y) d r Y) :=
  Hd fun p W h=>(put_any b g cap dv ts xb y { ex0 with kind:=K,a:=v,pos:=(p:Int) } none 0 0 W h k4 (Hd (qO _ _ _ _)) (Hd fun k hk=>by cases hk)).mono fun r Y hr=>hr.deep hdd.symm
 have HD:=Hd hdd
 have qK:(K ==0)=false:=beq_false_of_ne hK0
 clear hdd hok oky d0 d1 k4 hK0
 go_enter Tryz.func72,Tryz.ntmps72
 go_wp2_with (go_at_call 47;(with_reducible refine EN.out.mono ?_);rintro e w1 ⟨rfl,hr,hk⟩;have HR:=Hd hr;have HK:=Hd hk;clear hr hk)
 obtain⟨o,c,⟨c0,c1,c3,c4,c5,c6,fr⟩,hx⟩:=HR.out.cells
 have ht:=HR.out.tok
 have hgb:g≠b:=by have:=HR.out.lt;omega
 have hl:=HR.out.at_
 have hn:=HR.out.len
 obtain⟨t0,t1,t2,t3⟩:=ht
 obtain⟨n,hnn⟩:∃n,n=ts.length:=⟨_,rfl⟩
 obtain⟨a,haa⟩:∃a,a=x.at_:=⟨_,rfl⟩
 obtain⟨cd,hcd⟩:∃cd,cd=x.code:=⟨_,rfl⟩
 obtain⟨ps,hps⟩:∃ps,ps=x.pos:=⟨_,rfl⟩
 obtain⟨dp,hdp⟩:∃dp,dp=x.deep:=⟨_,rfl⟩
 obtain⟨kd,hkd⟩:∃kd,kd=(tokL ts x.at_).kind:=⟨_,rfl⟩
 obtain⟨tx,htx⟩:∃tx,tx=(tokL ts x.at_).text:=⟨_,rfl⟩
 obtain⟨tv,htv⟩:∃tv,tv=(tokL ts x.at_).v:=⟨_,rfl⟩
 obtain⟨p,hp⟩:∃p,p=(tokL ts x.at_).at_:=⟨_,rfl⟩
 rw[←hnn] at c0 hl hn
 rw[←hkd] at t0
 rw[←htx] at t1
 rw[←htv] at t2
 rw[←hp] at t3
 rw[←haa] at c1 t0 t1 t2 t3 hl
 rw[←hcd] at c5
 rw[←hdp] at c4
 rw[←hps] at c6
 have k0:((a:Nat):Int)<(n:Int):=by omega
 have f1:=fr 1
 have f4:=fr 4
 have f5:=fr 5
 have f6:=fr 6
 have HCD:=Hd hcd
 have HPS:=Hd hps
 have HDP:=Hd hdp
 have HKD:=Hd hkd
 have HTX:=Hd htx
 have HTV:=Hd htv
 have HP:=Hd hp
 have HAA:=Hd haa
 have HNN:=Hd hnn
 clear fr hx hnn haa hcd hps hdp hkd htx htv hp c3
 go_quiet (fail)
 have HX:Hid (Rd (w1.drewN nq) b g cap dv ts xb x):=Hd (HR.out.below (below_dr (qB _ _) _))
 have HXK:Hid (RK b W (w1.drewN nq)):=Hd (HK.out.trans (RK.of_below (below_dr (qB _ _) _) (ql HR.out.size)))
 have hbA:b<w1.heap.size:=HR.out.size
 clear HCD HPS HDP HKD HTX HTV HAA HNN
 clear t0 t1 t2 t3 c0 c1 c4 c5 c6 f1 f4 f5 f6 k0 hl hn hgb
 go_wp2_with fail
 change Code.wp _ _ _ _ (((w1.drewN nq).alloc (.cells preA 9)).alloc (.cells preB 3))
 obtain⟨V,hV⟩:∃V,V=((w1.drewN nq).alloc (.cells preA 9)).alloc (.cells preB 3):=⟨_,rfl⟩
 have HPL:Hid (PreL V w1.heap.size):=Hd (by rw[hV];exact PreL.new (w1.drewN nq))
 have HVX:Hid (Rd V b g cap dv ts xb x):=Hd (by rw[hV];exact(HX.out.alloc _).alloc _)
 have HVK:Hid (RK b W V):=Hd (by rw[hV];exact HXK.out.trans (RK.of_below (((qB _ _).alloc (qL _) _).alloc (by simp) _) (ql HX.out.size)))
 rw[←hV]
 clear hV
 go_loopw [7,8] (fun kv i wr=>∃(j:Nat) (k:Int),j≤4∧kv=.int .i64 k∧i=.int .i64 (j:Int)∧Hid (RK b V wr)∧((j≤j0∧k=0∧Hid (Rd wr b g cap dv ts xb x))∨(j=j0+1∧k=K∧Hid (Rd wr b g cap dv ts xb (stepS x))))) (fun _ i _=>4-litLen i)
 case atStart=>exact⟨0,0,by omega,rfl,rfl,Hd (RK.refl _ _),.inl ⟨by omega,rfl,HVX⟩⟩
 case round =>
  obtain⟨j,k,hj,rfl,rfl,hRK,hcase⟩:=hrel
  rcases hcase with ⟨hjj,rfl,hR⟩ | ⟨hjj,rfl,hR⟩
  ·have q3:decide ((j:Int)<4)=true:=qT (by omega)
   have jr:(j:Int)<4:=by omega
   obtain⟨q,hq⟩:∃q,prefixL[j]?=some q:=⟨prefixL[j]'(by show j<4;omega),List.getElem?_eq_getElem _⟩
   have hPL:=HPL.out.keep hRK.out hbA
   have x1:=cell_at hPL.one (pre_at (f:=fun p:List UInt8×Int=>Value.string (str p.1)) hq)
   have HQ:=Hd hq
   have HPLr:=Hd hPL
   clear hPL hq
   rcases Nat.lt_or_ge j j0 with hlt | hge
   ·have C:=Hd (TF.out q.1 (hno.out j q hlt HQ.out) wr hR)
    go_wp2_with (go_at_call 48;(with_reducible refine C.out.mono ?_);rintro e w2 ⟨rfl,hr,hk⟩;have HR2:=Hd hr;have HK2:=Hd hk;clear hr hk)
    exact⟨⟨j+1,0,by omega,rfl,rfl,Hd (hRK.out.trans HK2.out),.inl ⟨by omega,rfl,HR2⟩⟩,by simp[litLen];omega⟩
   ·have HJ:Hid (j0=j):=Hd (by omega)
    have HQQ:Hid (q=(s0,K)):=Hd (by have h1:=HQ.out;have h2:=hs0.out;rw[HJ.out] at h2;rw[h1] at h2;exact qI h2)
    rw[HQQ.out] at x1
    dsimp only at x1
    have C:Hid (Calls prog 48 #[.pointer (some ⟨b,0,none⟩),.string (str s0)] wr fun r Y=>r=.returned (.bool true)∧Y.cell? ⟨w1.heap.size+1,j,none⟩=some (.int .i64 K)∧Hid (Rd Y b g cap dv ts xb (stepS x))∧Hid (RK b wr Y)):=Hd ((TT.out wr hR).mono fun r Y ⟨e1,e2,e3⟩=>⟨e1,by
      have hp2:=HPLr.out.keep e3 hbA
      have hq2:=HQ.out
      rw[HQQ.out] at hq2
      exact cell_at hp2.two (pre_at (f:=fun p:List UInt8×Int=>Value.int .i64 p.2) hq2),Hd e2,Hd e3⟩)
    go_wp2_with (go_at_call 48;(with_reducible refine C.out.mono ?_);rintro e w2 ⟨rfl,y2,HR2,HK2⟩)
    exact⟨⟨j+1,K,by omega,rfl,rfl,Hd (hRK.out.trans HK2.out),.inr ⟨by have:=HJ.out;omega,rfl,HR2⟩⟩,by simp[litLen];omega⟩
  ·have C:=Hd (PR.out wr hR)
   rcases Nat.lt_or_ge j 4 with hlt | hge
   ·have q3:decide ((j:Int)<4)=true:=qT (by omega)
    clear hjj
    go_wp2_with (first
     | (go_at_call 72;(with_reducible refine C.out.mono ?_);rintro e w2 ⟨rfl,hr,hk⟩;have HR2:=Hd hr;have HK2:=Hd hk;clear hr hk)
     | (go_at_call 50;(with_reducible refine(PU.out p w2 HR2).mono ?_);rintro e w8 ⟨rfl,z4,z5,HR8,HK8⟩))
    go_ret
    rw[←HP.out,HD.out]
    exact⟨rfl,HR8.out.setDeep _,HVK.out.trans (hRK.out.trans (HK2.out.trans (HK8.out.trans (RK.set 4 _))))⟩
   ·have q3:decide ((j:Int)<4)=false:=qF (by omega)
    clear hjj
    go_wp2_with (first
     | (go_at_call 72;(with_reducible refine C.out.mono ?_);rintro e w2 ⟨rfl,hr,hk⟩;have HR2:=Hd hr;have HK2:=Hd hk;clear hr hk)
     | (go_at_call 50;(with_reducible refine(PU.out p w2 HR2).mono ?_);rintro e w8 ⟨rfl,z4,z5,HR8,HK8⟩))
    go_ret
    rw[←HP.out,HD.out]
    exact⟨rfl,HR8.out.setDeep _,HVK.out.trans (hRK.out.trans (HK2.out.trans (HK8.out.trans (RK.set 4 _))))⟩
theorem pre_any (b g cap:Nat) (dv:Value) (ts:List Tok) (xb:Nat→Prop) (f:Nat) (IH:FC b g cap dv ts xb f) (σ:RS) (v:Int) (l:List Int) (τ:RS) (hr:runE ts (f+1) .pre σ=some (v,l,τ)) (W:World) (h:Hid (Rd W b g cap dv ts xb σ)) :
  Calls prog 72 #[.pointer (some ⟨b,0,none⟩)] W fun r Y=>RdRet b g cap dv ts xb W (.int .i64 v) τ r Y:=by
 obtain⟨hok,hcase⟩:=pre_cases hr
 rcases hcase with ⟨hc,e⟩ | ⟨hc,hk,v',l',y,r1,oky,e⟩ | ⟨hc,hk,v',l',y,r1,oky,e⟩
 ·cases e
  exact pre_bad b g cap dv ts xb σ hok (Hd hc) W h
 ·cases e
  exact pre_atom b g cap dv ts xb f (Hd IH) σ _ (Hd rfl) hok (Hd hc) (Hd hk) v l' y (Hd r1) oky W h
 ·obtain⟨j0,s0,h1,h2,h3⟩:=prefix_index prefixL hk
  have hp:=prefix_pos (List.mem_of_getElem? h1)
  have hj:j0<4:=(List.getElem?_eq_some_iff.1 h1).1
  cases e
  exact pre_some b g cap dv ts xb f (Hd IH) σ _ (Hd rfl) hok (Hd hc) _ hp.1 hp.2.1 hp.2.2 j0 s0 hj (Hd h1) (Hd h2) (Hd h3) v' l' y (Hd r1) oky W h
def BinI (ts:List Tok) (xb:Nat→Prop) (b g cap:Nat) (dv:Value) (least f:Nat) (R:Int×List Int×RS) (W:World) (n:Nat) (x:Value×World):Prop :=
 ∃(a:Int) (σ:RS),x.1=.int .i64 a∧n≤f∧runE ts n (.loop least a) σ=some R∧Rd x.2 b g cap dv ts xb σ∧RK b W x.2
theorem bin_five (b g cap:Nat) (dv:Value) (ts:List Tok) (xb:Nat→Prop) (f:Nat) (least:Nat) (h1:1≤least) (h5:least≤5) (IH:Hid (∀k,k≤f→FC b g cap dv ts xb k)) (σ σ1:RS) (a0:Int) (la:List Int) (R:Int×List Int×RS)
  (ha:Hid (runE ts f (.bin (least+1)) σ=some (a0,la,σ1))) (hl:Hid (runE ts f (.loop least a0) σ1=some R)) (W:World) (h:Hid (Rd W b g cap dv ts xb σ)) :
  Calls prog 51 #[.pointer (some ⟨b,0,none⟩),.int .i64 (least:Int)] W fun r Y=>RdRet b g cap dv ts xb W (.int .i64 R.1) R.2.2 r Y:=by
 obtain⟨l1,hl1⟩:∃l1:Nat,l1=least+1:=⟨_,rfl⟩
 have hll:(least:Int)+1=(l1:Int):=by omega
 have q5:decide ((5:Int)<(least:Int))=false:=qF (by omega)
 have hbs:b<W.heap.size:=h.out.size
 have C0:Hid (Calls prog 51 #[.pointer (some ⟨b,0,none⟩),.int .i64 (l1:Int)] W fun r Y=>RdRet b g cap dv ts xb W (.int .i64 a0) σ1 r Y) :=
  Hd ((IH.out f (qL _)).bin l1 (by omega) (by omega) σ a0 la σ1 (by rw[hl1];exact ha.out) W h)
 obtain⟨m,hm⟩:=least_of (BinI ts xb b g cap dv least f R W)
 have HM:=Hd hm
 have HL1:=Hd hl1
 clear hl1 hm
 go_enter Tryz.func51,Tryz.ntmps51
 go_wp2_with (go_at_call 51;(with_reducible refine C0.out.mono ?_);rintro e w1 ⟨rfl,hr,hk⟩;have HR:=Hd hr;have HK:=Hd hk;clear hr hk)
 go_loopw [5] (fun i wr=>∃a:Int,i=.int .i64 a∧Hid (∃n,BinI ts xb b g cap dv least f R W n (i,wr))) (fun i wr=>m (i,wr))
 case atStart=>exact⟨a0,rfl,Hd ⟨f,a0,σ1,rfl,qL _,hl.out,HR.out,HK.out⟩⟩
 case round =>
  obtain⟨av,rfl,hI⟩:=hrel
  obtain⟨hm1,hm2⟩:=HM.out _ hI.out
  obtain⟨a',τ,e,hnf,hrun,hrd,hrk⟩:=hm1
  have e:av=a':=by injection e
  subst e
  obtain⟨nn,hmn⟩:∃nn,nn=m (.int .i64 av,wr):=⟨_,rfl⟩
  rw[←hmn] at hnf hrun
  obtain⟨k,rfl,hcase⟩:=loop_cases hrun
  have HRD:=Hd hrd
  have HRK:=Hd hrk
  have HMN:=Hd hmn
  have HM2:=Hd hm2
  have hbw:b<wr.heap.size:=hrd.size
  have hgw:g<wr.heap.size:=by have:=hrd.lt;omega
  clear hrd hrk hrun hm2 hmn hI
  obtain⟨o,c,⟨c0,c1,c3,c4,c5,c6,fr⟩,hx⟩:=HRD.out.cells
  have ht:=HRD.out.tok
  have hgb:g≠b:=by have:=HRD.out.lt;omega
  have hl:=HRD.out.at_
  have hn:=HRD.out.len
  obtain⟨t0,t1,t2,t3⟩:=ht
  obtain⟨n,hnn⟩:∃n,n=ts.length:=⟨_,rfl⟩
  obtain⟨a,haa⟩:∃a,a=τ.at_:=⟨_,rfl⟩
  obtain⟨cd,hcd⟩:∃cd,cd=τ.code:=⟨_,rfl⟩
  obtain⟨ps,hps⟩:∃ps,ps=τ.pos:=⟨_,rfl⟩
  obtain⟨dp,hdp⟩:∃dp,dp=τ.deep:=⟨_,rfl⟩
  obtain⟨kd,hkd⟩:∃kd,kd=(tokL ts τ.at_).kind:=⟨_,rfl⟩
  obtain⟨tx,htx⟩:∃tx,tx=(tokL ts τ.at_).text:=⟨_,rfl⟩
  obtain⟨tv,htv⟩:∃tv,tv=(tokL ts τ.at_).v:=⟨_,rfl⟩
  obtain⟨p,hp⟩:∃p,p=(tokL ts τ.at_).at_:=⟨_,rfl⟩
  rw[←hnn] at c0 hl hn
  rw[←hkd] at t0
  rw[←htx] at t1
  rw[←htv] at t2
  rw[←hp] at t3
  rw[←haa] at c1 t0 t1 t2 t3 hl
  rw[←hcd] at c5
  rw[←hdp] at c4
  rw[←hps] at c6
  have k0:((a:Nat):Int)<(n:Int):=by omega
  have f1:=fr 1
  have f4:=fr 4
  have f5:=fr 5
  have f6:=fr 6
  have HCD:=Hd hcd
  have HPS:=Hd hps
  have HDP:=Hd hdp
  have HKD:=Hd hkd
  have HTX:=Hd htx
  have HTV:=Hd htv
  have HP:=Hd hp
  have HAA:=Hd haa
  have HNN:=Hd hnn
  clear fr hx hnn haa hcd hps hdp hkd htx htv hp c3
  have ha4:(a:Int)≤40000:=by omega
  by_cases hz:cd=0
  ·subst hz
   have hlv:=level_any b g cap dv ts xb τ wr HRD (levelS ts τ).1 (levelS ts τ).2 (Hd rfl)
   obtain⟨L,hL⟩:∃L,L=(levelS ts τ).1:=⟨_,rfl⟩
   obtain⟨K,hK⟩:∃K,K=(levelS ts τ).2:=⟨_,rfl⟩
   rw[←hL,←hK] at hlv
   have LV:=Hd hlv
   by_cases hle:L=(least:Int)
   ·have hke:=level_kind h1 (hL.symm.trans hle)
    have HREST:Hid (∃bv lb y,runE ts k (.bin (least+1)) (stepS τ)=some (bv,lb,y)∧okS y=true ∧
      ((least=3∧R=((y.exprs.length:Int),[],putS (twoE (levelS ts τ).2 av bv (tokL ts τ.at_).at_) y))∨(least≠3∧runE ts k (.loop least (y.exprs.length:Int)) (putS (twoE (levelS ts τ).2 av bv (tokL ts τ.at_).at_) y)=some R))):=Hd (by
     rcases hcase with ⟨h0,_⟩ | ⟨_,h0,_⟩ | ⟨_,_,h0⟩
     ·exact absurd HCD.out.symm h0
     ·exact absurd (hL.symm.trans hle) h0
     ·exact h0)
    obtain⟨bv,lb,y,hrb,hok,hend⟩:=HREST.out
    have HRB:=Hd hrb
    have HOK:=Hd hok
    have HEND:=Hd hend
    have HKK:=Hd hK
    have HKE:=Hd hke
    have qle:(L !=(least:Int))=false:=by rw[hle];simp
    clear hlv hcase hrb hok hend HREST hL hK hke
    rw[hle] at LV qle
    clear hle
    go_wp2_with (go_at_call 73;(with_reducible refine LV.out.mono ?_);rintro e w2 ⟨rfl,hb⟩;have d0:=(hb.cell (p:=⟨b,0,none⟩) hbw).trans c0;have d1:=(hb.cell (p:=⟨b,1,none⟩) hbw).trans c1;have d3:=(hb.cell (p:=⟨g,a*4+3,none⟩) hgw).trans t3;have e1:=(hb.frozen (p:=⟨b,1,none⟩) hbw).trans f1;have HB:=Hd hb;clear hb)
    go_quiet (fail)
    have HD:=Hd (below_dr HB.out nq)
    have HV:Hid (Rd ((w2.drewN nq).setCell ⟨b,1,none⟩ (.int .i64 ((a:Int)+1))) b g cap dv ts xb (stepS τ)):=Hd (by rw[HAA.out];exact(HRD.out.below HD.out).setAt HKE.out)
    have HVK:Hid (RK b wr ((w2.drewN nq).setCell ⟨b,1,none⟩ (.int .i64 ((a:Int)+1)))):=Hd ((RK.of_below HD.out (ql hbw)).trans (RK.set 1 _))
    have CB:Hid (Calls prog 51 #[.pointer (some ⟨b,0,none⟩),.int .i64 (l1:Int)] ((w2.drewN nq).setCell ⟨b,1,none⟩ (.int .i64 ((a:Int)+1))) fun r Y=>RdRet b g cap dv ts xb ((w2.drewN nq).setCell ⟨b,1,none⟩ (.int .i64 ((a:Int)+1))) (.int .i64 bv) y r Y) :=
     Hd ((IH.out k (by omega)).bin l1 (by omega) (by omega) (stepS τ) bv lb y (by rw[HL1.out];exact HRB.out) _ HV)
    by_cases h3:least=3
    ·have q3:((least:Int) ==3)=true:=by rw[h3];rfl
     have HRE:Hid (R=((y.exprs.length:Int),[],putS (twoE K av bv p) y)):=Hd (by
      rw[HKK.out,HP.out]
      rcases HEND.out with ⟨_,h0⟩ | ⟨h0,_⟩
      ·exact h0
      ·exact absurd h3 h0)
     clear h3
     go_wp2_with (first | (go_at_call 51;(with_reducible refine CB.out.mono ?_);rintro e w3 ⟨rfl,hr,hk⟩;have HR3:=Hd hr;have HK3:=Hd hk;clear hr hk) | (go_at_call 50;(with_reducible refine(put_two b g cap dv ts xb y K av bv p w3 HR3 HOK.out).mono ?_);rintro e w4 ⟨rfl,hr,hk⟩;have HR4:=Hd hr;have HK4:=Hd hk;clear hr hk))
     have HKW:=Hd (HRK.out.trans (HVK.out.trans (HK3.out.trans HK4.out)))
     go_ret
     rw[HRE.out]
     exact⟨rfl,HR4.out,HKW.out⟩
    ·have q3:((least:Int) ==3)=false:=beq_false_of_ne (by omega)
     have HRE:Hid (runE ts k (.loop least (y.exprs.length:Int)) (putS (twoE K av bv p) y)=some R):=Hd (by
      rw[HKK.out,HP.out]
      rcases HEND.out with ⟨h0,_⟩ | ⟨_,h0⟩
      ·exact absurd h0 h3
      ·exact h0)
     clear h3
     go_wp2_with (first | (go_at_call 51;(with_reducible refine CB.out.mono ?_);rintro e w3 ⟨rfl,hr,hk⟩;have HR3:=Hd hr;have HK3:=Hd hk;clear hr hk) | (go_at_call 50;(with_reducible refine(put_two b g cap dv ts xb y K av bv p w3 HR3 HOK.out).mono ?_);rintro e w4 ⟨rfl,hr,hk⟩;have HR4:=Hd hr;have HK4:=Hd hk;clear hr hk))
     have HKW:=Hd (HRK.out.trans (HVK.out.trans (HK3.out.trans HK4.out)))
     have HI:BinI ts xb b g cap dv least f R W k (.int .i64 (y.exprs.length:Int),w4):=⟨_,_,rfl,by omega,HRE.out,HR4.out,HKW.out⟩
     exact⟨⟨_,rfl,Hd ⟨k,HI⟩⟩,by have h5:=(HM.out _ ⟨k,HI⟩).2 k HI;have h6:=HMN.out;omega⟩
   ·have qle:(L !=(least:Int))=true:=by rw[bne_iff_ne];exact hle
    have HR1:Hid (R=(av,[],τ)):=Hd (by
     rcases hcase with ⟨h0,_⟩ | ⟨_,_,h0⟩ | ⟨_,h0,_⟩
     ·exact absurd HCD.out.symm h0
     ·exact h0
     ·exact absurd (hL.trans h0) hle)
    clear hlv hcase hL hK
    go_wp2_with (go_at_call 73;(with_reducible refine LV.out.mono ?_);rintro e w2 ⟨rfl,hb⟩;have HB:=Hd hb;clear hb)
    go_ret
    rw[HR1.out]
    exact⟨rfl,HRD.out.below HB.out,HRK.out.trans (RK.of_below HB.out (ql hbw))⟩
  ·have qz:(cd ==0)=false:=beq_false_of_ne hz
   have HR1:Hid (R=(av,[],τ)):=Hd (by
    rcases hcase with ⟨_,h0⟩ | ⟨h0,_,_⟩ | ⟨h0,_,_⟩
    ·exact h0
    ·exact absurd (HCD.out.trans h0) hz
    ·exact absurd (HCD.out.trans h0) hz)
   clear hcase
   go_wp2_with fail
   go_ret
   rw[HR1.out]
   exact⟨rfl,HRD.out,HRK.out⟩
theorem bin_six (b g cap:Nat) (dv:Value) (ts:List Tok) (xb:Nat→Prop) (f:Nat) (least:Nat) (h5:5<least) (IH:Hid (FC b g cap dv ts xb f)) (σ:RS) (R:Int×List Int×RS)
  (ha:Hid (runE ts f .pre σ=some R)) (W:World) (h:Hid (Rd W b g cap dv ts xb σ)) :
  Calls prog 51 #[.pointer (some ⟨b,0,none⟩),.int .i64 (least:Int)] W fun r Y=>RdRet b g cap dv ts xb W (.int .i64 R.1) R.2.2 r Y:=by
 have q5:decide ((5:Int)<(least:Int))=true:=qT (by omega)
 have C:=Hd (IH.out.pre σ R.1 R.2.1 R.2.2 ha.out W h)
 go_enter Tryz.func51,Tryz.ntmps51
 go_wp2_with (go_at_call 72;(with_reducible refine C.out.mono ?_);rintro e w1 ⟨rfl,hr,hk⟩;have HR:=Hd hr;have HK:=Hd hk;clear hr hk)
 go_ret
 exact⟨rfl,HR.out,HK.out⟩
theorem bin_any (b g cap:Nat) (dv:Value) (ts:List Tok) (xb:Nat→Prop) (f:Nat) (IH:∀k,k≤f→FC b g cap dv ts xb k) (least:Nat) (h1:1≤least) (h6:least≤6) (σ:RS) (v:Int) (l:List Int) (τ:RS) (hr:runE ts (f+1) (.bin least) σ=some (v,l,τ)) (W:World) (h:Hid (Rd W b g cap dv ts xb σ)) :
  Calls prog 51 #[.pointer (some ⟨b,0,none⟩),.int .i64 (least:Int)] W fun r Y=>RdRet b g cap dv ts xb W (.int .i64 v) τ r Y:=by
 simp only[runE] at hr
 split at hr
 ·unfold binG at hr
  split at hr
  ·rename_i h5
   exact bin_six b g cap dv ts xb f least h5 (Hd (IH f (qL _))) σ (v,l,τ) (Hd hr) W h
  ·rename_i h5
   cases ha:runE ts f (.bin (least+1)) σ with
   | none=>rw[ha] at hr;cases hr
   | some q =>
    obtain⟨a0,la,σ1⟩:=q
    rw[ha] at hr
    exact bin_five b g cap dv ts xb f least h1 (by omega) (Hd IH) σ σ1 a0 la (v,l,τ) (Hd ha) (Hd hr) W h
 ·cases hr
end Go.Proofs.YthpgfahlccljnaaGreatDoor
