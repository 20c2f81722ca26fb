import Derived.Test.YtpfmlfcaadnnpaaDoorPb04
import Derived.WalkSmall
import Derived.Deep.AppendLies
import Derived.Shelf.RegionOpenPlain
import Derived.Defers
import Derived.Recover
set_option maxHeartbeats 16000000
set_option maxRecDepth 100000
set_option linter.unusedVariables false
open Go.Proofs.Tryd(prog)
namespace Go.Proofs.YtpfmlfcaadnnpaaDoor
open Go.RowKit Lx
theorem refusal_any (b g cap:Nat) (dv:Value) (ts:List Tok) (xb:Nat→Prop) (σ:RS) (e:Int) (W:World) (h:Hid (Cd W b g cap dv ts xb σ)) :
  Calls prog 28 #[.pointer (some ⟨b,0,none⟩),.int .i64 e] W fun r Y=>r=.returned (.agg #[.int .i64 e,.int .i64 ((tokL ts σ.at_).at_:Int)])∧Below W.heap.size W Y:=by
 obtain⟨o,c,⟨c0,c1,c2,c3,fr⟩,hx⟩:=h.out.cells
 obtain⟨t0,t1,t2,t3⟩:=h.out.tok
 have hl:=h.out.at_
 obtain⟨n,hnn⟩:∃n,n=ts.length - σ.at_:=⟨_,rfl⟩
 obtain⟨a4,haa⟩:∃a4,a4=σ.at_*4:=⟨_,rfl⟩
 obtain⟨p,hp⟩:∃p,p=(tokL ts σ.at_).at_:=⟨_,rfl⟩
 rw[←hnn,←haa] at c0
 rw[←hp,←haa] at t3
 rw[←hp]
 have hgs:g<W.heap.size:=by have:=h.out.lt;have:=h.out.size;omega
 have hbs:b<W.heap.size:=h.out.size
 have k0:(0:Int)<(n:Int):=by omega
 have B0:Hid (Below W.heap.size W (W.alloc (.cells #[.int .i64 0,.int .i64 0] 47))):=Hd ((qB _ _).alloc (qL _) _)
 clear hnn haa hp t0 t1 t2 hl hx c1 c2 c3 fr
 go_enter Tryd.func28,Tryd.ntmps28
 go_wp2_with fail
 have r0:(W.alloc (.cells #[.int .i64 e,.int .i64 (p:Int)] 47)).cell? ⟨W.heap.size,0,none⟩=some (.int .i64 e):=by rw[World.cell?_alloc_new];rfl
 have r1:(W.alloc (.cells #[.int .i64 e,.int .i64 (p:Int)] 47)).cell? ⟨W.heap.size,1,none⟩=some (.int .i64 (p:Int)):=by rw[World.cell?_alloc_new];rfl
 exact bodyPost_ret (v:=.agg #[.int .i64 e,.int .i64 (p:Int)]) (by simp[results,Tryd.results28,go_sem,r0,r1]) rfl ⟨rfl,(qB _ _).alloc (qL _) _⟩
theorem box_four (w:World) (a b c d:Value) (T:TypeId) (o:Obj):(((w.alloc (.cells #[a,b,c,d] T)).alloc o).cell? ⟨w.heap.size,0,none⟩=some a∧((w.alloc (.cells #[a,b,c,d] T)).alloc o).cell? ⟨w.heap.size,1,none⟩=some b∧((w.alloc (.cells #[a,b,c,d] T)).alloc o).cell? ⟨w.heap.size,2,none⟩=some c∧((w.alloc (.cells #[a,b,c,d] T)).alloc o).cell? ⟨w.heap.size,3,none⟩=some d)∧True:=by
 have hb:Below (w.alloc (.cells #[a,b,c,d] T)).heap.size (w.alloc (.cells #[a,b,c,d] T)) ((w.alloc (.cells #[a,b,c,d] T)).alloc o):=(qB _ _).alloc (qL _) _
 have e:∀i,((w.alloc (.cells #[a,b,c,d] T)).alloc o).cell? ⟨w.heap.size,i,none⟩=(w.alloc (.cells #[a,b,c,d] T)).cell? ⟨w.heap.size,i,none⟩:=fun i=>hb.cell (p:=⟨w.heap.size,i,none⟩) (by simp)
 simp only[e,World.cell?_alloc_new]
 exact⟨⟨rfl,rfl,rfl,rfl⟩,trivial⟩
def TakeRet (b g cap:Nat) (dv:Value) (ts:List Tok) (xb:Nat→Prop) (W:World) (σ:RS) (r:Ending) (Y:World):Prop:=r=.returned (tokV (tokL ts σ.at_))∧Hid (Cd Y b g cap dv ts xb (stepS σ))∧Hid (RX b xb W Y)
theorem take_any (b g cap:Nat) (dv:Value) (ts:List Tok) (xb:Nat→Prop) (σ:RS) (W:World) (h:Hid (Cd W b g cap dv ts xb σ)) (hk:(tokL ts σ.at_).kind≠5) :
  Calls prog 29 #[.pointer (some ⟨b,0,none⟩)] W fun r Y=>TakeRet b g cap dv ts xb W σ r Y:=by
 obtain⟨o,c,⟨c0,c1,c2,c3,fr⟩,hx⟩:=h.out.cells
 obtain⟨t0,t1,t2,t3⟩:=h.out.tok
 have hl:=h.out.at_
 have hcp:=h.out.cp
 have hnx:=h.out.ends.next h.out.at_ hk
 have HK:=Hd hk
 have f0:=fr 0
 unfold TakeRet tokV
 obtain⟨kd,hkd⟩:∃kd,kd=(tokL ts σ.at_).kind:=⟨_,rfl⟩
 obtain⟨tx,htx⟩:∃tx,tx=(tokL ts σ.at_).text:=⟨_,rfl⟩
 obtain⟨tv,htv⟩:∃tv,tv=(tokL ts σ.at_).v:=⟨_,rfl⟩
 obtain⟨p,hp⟩:∃p,p=(tokL ts σ.at_).at_:=⟨_,rfl⟩
 rw[←hkd] at t0
 rw[←htx] at t1
 rw[←htv] at t2
 rw[←hp] at t3
 rw[←hkd,←htx,←htv,←hp]
 have HS:=Hd (show ts.length - σ.at_-1=ts.length-(σ.at_+1)∧cap - σ.at_-1=cap-(σ.at_+1)∧σ.at_*4+4=(σ.at_+1)*4 by omega)
 obtain⟨n,hnn⟩:∃n,n=ts.length - σ.at_:=⟨_,rfl⟩
 obtain⟨m,hmm⟩:∃m,m=cap - σ.at_:=⟨_,rfl⟩
 obtain⟨a4,haa⟩:∃a4,a4=σ.at_*4:=⟨_,rfl⟩
 have k0:(0:Int)<(n:Int):=by omega
 have k1:(1:Int)≤(n:Int):=by omega
 have k2:(n:Int)≤(m:Int):=by omega
 have k3:¬m=1:=by omega
 rw[←hnn,←hmm,←haa] at c0
 rw[←haa] at t0 t1 t2 t3
 have HE:=Hd (show n=_∧m=_∧a4=_ from⟨hnn,hmm,haa⟩)
 have hgs:g<W.heap.size:=by have:=h.out.lt;have:=h.out.size;omega
 have hbs:b<W.heap.size:=h.out.size
 clear hnn hmm haa hp hkd htx htv hl hx c1 c2 c3 fr hcp hnx hk
 go_enter Tryd.func29,Tryd.ntmps29
 go_wp2_with fail
 obtain⟨W1,hW1⟩:∃W1,W1=W.setCell ⟨b,0,none⟩ (.slice (some ⟨g,a4+4,none⟩) (n-1) (m-1)):=⟨_,rfl⟩
 have HC:Hid (Cd W1 b g cap dv ts xb (stepS σ)):=Hd (by
  have:=h.out.setAt HK.out
  obtain⟨e1,e2,e3⟩:=HE.out
  obtain⟨f1,f2,f3⟩:=HS.out
  rw[hW1,e1,e2,e3,f1,f2,f3];exact this)
 have HR:Hid (RX b xb W W1):=Hd (by rw[hW1];exact RX.set h.out.xnb 0 _)
 have hs:W.heap.size=W1.heap.size:=by rw[hW1];simp
 rw[←hW1]
 have HB:=Hd (((qB W1.heap.size W1).alloc (qL _) (.cells #[.int .i64 (kd:Int),.string (str tx),.int .i64 tv,.int .i64 (p:Int)] 52)).alloc (by simp) (.cells #[.int .i64 (kd:Int),.string (str tx),.int .i64 tv,.int .i64 (p:Int)] 52))
 have hb1:b≤W1.heap.size:=by omega
 clear hW1
 rw[hs]
 obtain⟨⟨r0,r1,r2,r3⟩,-⟩:=box_four W1 (.int .i64 (kd:Int)) (.string (str tx)) (.int .i64 tv) (.int .i64 (p:Int)) 52 (.cells #[.int .i64 (kd:Int),.string (str tx),.int .i64 tv,.int .i64 (p:Int)] 52)
 exact bodyPost_ret (v:=.agg #[.int .i64 (kd:Int),.string (str tx),.int .i64 tv,.int .i64 (p:Int)]) (by simp[results,Tryd.results29,go_sem,r0,r1,r2,r3]) rfl ⟨rfl,Hd (HC.out.below HB.out),Hd (HR.out.trans (RX.of_below HB.out hb1 HC.out.xlt))⟩
theorem isS_text {ts:List Tok} {s:List UInt8} {σ:RS} (ht:TxOk ts) (hs:s ∈ sgL) (hc:σ.code=0):isS ts s σ=((tokL ts σ.at_).text ==s):=by
 unfold isS
 rw[qT hc,Bool.true_and]
 by_cases h3:(tokL ts σ.at_).kind=3
 ·rw[qT h3];simp
 ·by_cases h4:(tokL ts σ.at_).kind=4
  ·rw[qT h4];simp
  ·have:=ht σ.at_ h3 h4 s hs
   rw[qF h3,qF h4,beq_false_of_ne this];rfl
def fitsB (ts:List Tok) (L:List (List UInt8)) (σ:RS):Bool:=L.any fun s=>isS ts s σ
def StrsIn (W:World) (k:Nat) (L:List (List UInt8)):Prop:=∀j s,L[j]?=some s→W.cell? ⟨k,j,none⟩=some (.string (str s))
theorem str_inj {a b:List UInt8} (h:str a=str b):a=b:=by
 have:=congrArg (fun x:ByteArray=>x.data.toList) h
 simpa [str_data] using this
theorem contains_any {ts:List Tok} {L:List (List UInt8)} {σ:RS} (ht:TxOk ts) (hL:∀s ∈ L,s ∈ sgL) (hc:σ.code=0):Lib.containsS (L.map str) (str (tokL ts σ.at_).text)=fitsB ts L σ:=by
 have h:Lib.containsS (L.map str) (str (tokL ts σ.at_).text)=true↔fitsB ts L σ=true:=by
  rw[Lib.containsS_iff]
  unfold fitsB
  rw[List.any_eq_true]
  constructor
  ·intro h
   obtain⟨s,h1,h2⟩:=List.mem_map.1 h
   exact⟨s,h1,by rw[isS_text ht (hL s h1) hc];simp[str_inj h2]⟩
  ·rintro⟨s,h1,h2⟩
   rw[isS_text ht (hL s h1) hc] at h2
   exact List.mem_map.2 ⟨s,h1,by rw[eq_of_beq h2]⟩
 cases h1:Lib.containsS (L.map str) (str (tokL ts σ.at_).text) <;> cases h2:fitsB ts L σ <;> simp_all
theorem fits_any (b g cap:Nat) (dv:Value) (ts:List Tok) (xb:Nat→Prop) (σ:RS) (k n:Nat) (L:List (List UInt8)) (W:World) (h:Hid (Cd W b g cap dv ts xb σ)) (hc:σ.code=0) (hL:∀s ∈ L,s ∈ sgL) (hn:n=L.length) (hn9:(n:Int)≤9) (hk:Hid (StrsIn W k L)) :
  Calls prog 20 #[.pointer (some ⟨b,0,none⟩),.slice (some ⟨k,0,none⟩) n n] W fun r Y=>r=.returned (.bool (fitsB ts L σ))∧Y=W:=by
 obtain⟨o,c,⟨c0,c1,c2,c3,fr⟩,hx⟩:=h.out.cells
 obtain⟨t0,t1,t2,t3⟩:=h.out.tok
 have hl:=h.out.at_
 have C:Hid (∀w,w=W→Calls prog 30 #[.slice (some ⟨k,0,none⟩) n n,.string (str (tokL ts σ.at_).text)] w fun e w'=>e=.returned (.bool (fitsB ts L σ))∧w'=w):=Hd (by
  rintro w rfl
  have:=Tryd.slices_Contains_string k 0 n n (L.map str) (str (tokL ts σ.at_).text) w (by simp;omega) (by omega) (fun j hj=>by
   rw[List.length_map] at hj
   rw[Nat.zero_add,hk.out j L[j] (List.getElem?_eq_getElem hj),List.getD_eq_getElem?_getD,List.getElem?_map,List.getElem?_eq_getElem hj];rfl)
  rw[List.take_of_length_le (by simp;omega),contains_any h.out.tx hL hc] at this
  exact this)
 obtain⟨B,hB⟩:∃B,B=fitsB ts L σ:=⟨_,rfl⟩
 rw[←hB] at C ⊢
 obtain⟨m,hmm⟩:∃m,m=ts.length - σ.at_:=⟨_,rfl⟩
 obtain⟨a4,haa⟩:∃a4,a4=σ.at_*4:=⟨_,rfl⟩
 obtain⟨tx,htx⟩:∃tx,tx=(tokL ts σ.at_).text:=⟨_,rfl⟩
 rw[←hmm,←haa] at c0
 rw[←htx,←haa] at t1
 rw[←htx] at C
 have k0:(0:Int)<(m:Int):=by omega
 clear hmm haa htx t0 t2 t3 hl hx c1 c2 c3 fr hB hL hc hn hk hn9
 go_enter Tryd.func20,Tryd.ntmps20
 go_wp2_with (go_at_call 30;(with_reducible refine(C.out _ rfl).mono ?_);rintro e w1 ⟨rfl,rfl⟩)
 go_ret
 exact⟨rfl,rfl⟩
theorem strs_new (W:World) (L:List (List UInt8)) (T:TypeId):StrsIn (W.alloc (.cells (L.map fun s=>Value.string (str s)).toArray T)) W.heap.size L:=fun j s hj=>by
 rw[World.cell?_alloc_new]
 simp[hj]
def TakesRet (b g cap:Nat) (dv:Value) (ts:List Tok) (xb:Nat→Prop) (W:World) (s:List UInt8) (σ:RS) (r:Ending) (Y:World):Prop:=r=.returned (.bool (isS ts s σ))∧Hid (Cd Y b g cap dv ts xb (tookS ts s σ))∧Hid (RX b xb W Y)
theorem takes_any (b g cap:Nat) (dv:Value) (ts:List Tok) (xb:Nat→Prop) (σ:RS) (s:List UInt8) (W:World) (h:Hid (Cd W b g cap dv ts xb σ)) (hc:σ.code=0) (hs:s ∈ sgL) :
  Calls prog 36 #[.pointer (some ⟨b,0,none⟩),.string (str s)] W fun r Y=>TakesRet b g cap dv ts xb W s σ r Y:=by
 obtain⟨W1,hW1⟩:∃W1,W1=W.alloc (.cells #[.string (str s)] 9):=⟨_,rfl⟩
 have hb1:Below W.heap.size W W1:=by rw[hW1];exact(qB _ _).alloc (qL _) _
 have H1:Hid (Cd W1 b g cap dv ts xb σ):=Hd (h.out.below hb1)
 have F:Hid (Calls prog 20 #[.pointer (some ⟨b,0,none⟩),.slice (some ⟨W.heap.size,0,none⟩) 1 1] W1 fun r Y=>r=.returned (.bool (isS ts s σ))∧Y=W1):=Hd (by
  have:=fits_any b g cap dv ts xb σ W.heap.size 1 [s] W1 H1 hc (by simpa using hs) rfl (by decide) (Hd (by rw[hW1];exact strs_new W [s] _))
  unfold fitsB at this
  simpa using this)
 have HB:=Hd (RX.of_below hb1 (ql h.out.size) h.out.xlt)
 clear hb1
 cases hi:isS ts s σ with
 | true =>
  have T:=Hd (take_any b g cap dv ts xb σ W1 H1 (isS_kind hi).1)
  rw[hi] at F
  have e:tookS ts s σ=stepS σ:=by unfold tookS;rw[if_pos hi]
  unfold TakesRet
  rw[e,hi]
  clear hi e
  go_enter Tryd.func36,Tryd.ntmps36
  go_wp2_with (first
   | (go_at_call 20;rw[←hW1];clear hW1;(with_reducible refine F.out.mono ?_);rintro e w1 ⟨rfl,rfl⟩)
   | (go_at_call 29;(with_reducible refine T.out.mono ?_);rintro e w2 ⟨rfl,hr,hk⟩))
  go_ret
  exact⟨rfl,hr,Hd (HB.out.trans hk.out)⟩
 | false =>
  rw[hi] at F
  have e:tookS ts s σ=σ:=by unfold tookS;rw[hi];rfl
  unfold TakesRet
  rw[e,hi]
  clear hi e
  go_enter Tryd.func36,Tryd.ntmps36
  go_wp2_with (go_at_call 20;rw[←hW1];clear hW1;(with_reducible refine F.out.mono ?_);rintro e w1 ⟨rfl,rfl⟩)
  go_ret
  exact⟨rfl,H1,HB⟩
end Go.Proofs.YtpfmlfcaadnnpaaDoor
namespace Go.Proofs.YtpfmlfcaadnnpaaDoor
open Go.RowKit Lx
theorem okS_iff {σ:RS}:okS σ=true↔σ.exprs.length≤40000∧0≤σ.deep∧σ.deep≤30:=by unfold okS;simp
def twoE (k a b:Int) (p:Nat):Ex:={ ex0 with kind:=k,a:=a,b:=b,pos:=(p:Int) }
theorem loop_cases {ts:List Tok} {n least:Nat} {a:Int} {σ:RS} {R:Int×List Int×RS} (h:runE ts n (.loop least a) σ=some R) :
  ∃m,n=m+1∧((σ.code≠0∧R=(a,[],σ))∨(σ.code=0∧(levelS ts σ).1≠(least:Int)∧R=(a,[],σ)) ∨
   (σ.code=0∧(levelS ts σ).1=(least:Int)∧∃bv lb τ,runE ts m (.bin (least+1)) (stepS σ)=some (bv,lb,τ)∧okS τ=true ∧
    ((least=3∧R=((τ.exprs.length:Int),[],putS (twoE (levelS ts σ).2 a bv (tokL ts σ.at_).at_) τ))∨(least≠3∧runE ts m (.loop least (τ.exprs.length:Int)) (putS (twoE (levelS ts σ).2 a bv (tokL ts σ.at_).at_) τ)=some R)))):=by
 cases n with
 | zero=>cases h
 | succ m =>
  refine⟨m,rfl,?_⟩
  simp only[runE] at h
  split at h
  ·unfold loopG at h
   split at h
   ·rename_i h0
    split at h
    ·rename_i hl
     refine .inr (.inr ⟨h0,hl,?_⟩)
     cases hb:runE ts m (.bin (least+1)) (stepS σ) with
     | none=>rw[hb] at h;cases h
     | some q =>
      obtain⟨bv,lb,τ⟩:=q
      rw[hb] at h
      simp only[Option.bind_some] at h
      unfold putA at h
      split at h
      ·rename_i hok
       refine⟨bv,lb,τ,rfl,hok,?_⟩
       split at h
       ·rename_i h3
        exact .inl ⟨h3,(qI h).symm⟩
       ·rename_i h3
        exact .inr ⟨h3,h⟩
      ·cases h
    ·rename_i hl
     exact .inr (.inl ⟨h0,hl,(qI h).symm⟩)
   ·rename_i h0
    exact .inl ⟨h0,(qI h).symm⟩
  ·cases h
theorem least_of {α:Type} (P:Nat→α→Prop):∃m:α→Nat,∀x,(∃n,P n x)→P (m x) x∧∀k,P k x→m x≤k:=by
 have key:∀x,∃n,(∃n,P n x)→P n x∧∀k,P k x→n≤k:=fun x=>by
  by_cases h:∃n,P n x
  ·obtain⟨n,hn⟩:=h
   induction n using Nat.strongRecOn with
   | ind n ih =>
    by_cases h2:∃k,k<n∧P k x
    ·obtain⟨k,hk,hp⟩:=h2
     exact ih k hk hp
    ·exact⟨n,fun _=>⟨hn,fun k hk=>Nat.le_of_not_lt fun hlt=>h2 ⟨k,hlt,hk⟩⟩⟩
  ·exact⟨0,fun h2=>absurd h2 h⟩
 exact⟨fun x=>(key x).choose,fun x=>(key x).choose_spec⟩
theorem expr_cases {ts:List Tok} {f:Nat} {σ:RS} {R:Int×List Int×RS} (h:runE ts (f+1) .expr σ=some R):okS σ=true ∧
  (((enterS ts σ).code≠0∧R=(0,[],leaveS (enterS ts σ))) ∨
  ((enterS ts σ).code=0∧isS ts [105,102] (enterS ts σ)=true∧∃a la s2 b lb s3 c lc s4,runE ts f .expr (stepS (enterS ts σ))=some (a,la,s2)∧runE ts f .expr (wantS ts [116,104,101,110] s2)=some (b,lb,s3) ∧
   runE ts f .expr (wantS ts [101,108,115,101] s3)=some (c,lc,s4)∧okS s4=true∧R=((s4.exprs.length:Int),[],leaveS (putS { ex0 with kind:=15,a:=a,b:=b,c:=c,pos:=((tokL ts (enterS ts σ).at_).at_:Int) } s4))) ∨
  ((enterS ts σ).code=0∧isS ts [105,102] (enterS ts σ)=false∧∃o lo y,runE ts f (.bin 1) (enterS ts σ)=some (o,lo,y) ∧
   ((isS ts [45,62] y=true∧∃bv lb z,runE ts f .expr (stepS y)=some (bv,lb,z)∧okS z=true∧R=((z.exprs.length:Int),[],leaveS (putS (twoE 17 o bv (tokL ts y.at_).at_) z))) ∨
   (isS ts [45,62] y=false∧isS ts [102,98,121] y=true∧∃bv lb z,runE ts f .expr (stepS y)=some (bv,lb,z)∧okS z=true∧R=((z.exprs.length:Int),[],leaveS (putS (twoE 18 o bv (tokL ts y.at_).at_) z))) ∨
   (isS ts [45,62] y=false∧isS ts [102,98,121] y=false∧okS y=true∧R=(o,[],leaveS y))))):=by
 simp only[runE] at h
 split at h
 ·rename_i hok
  refine⟨hok,?_⟩
  unfold exprG at h
  dsimp only at h
  split at h
  ·rename_i hc
   split at h
   ·rename_i hi
    cases h1:runE ts f .expr (stepS (enterS ts σ)) with
    | none=>rw[h1] at h;cases h
    | some q1 =>
     rw[h1] at h
     simp only[Option.bind_some] at h
     cases h2:runE ts f .expr (wantS ts [116,104,101,110] q1.2.2) with
     | none=>rw[h2] at h;cases h
     | some q2 =>
      rw[h2] at h
      simp only[Option.bind_some] at h
      cases h3:runE ts f .expr (wantS ts [101,108,115,101] q2.2.2) with
      | none=>rw[h3] at h;cases h
      | some q3 =>
       rw[h3] at h
       simp only[Option.bind_some] at h
       unfold putA at h
       split at h
       ·rename_i hk
        exact .inr (.inl ⟨hc,hi,q1.1,q1.2.1,q1.2.2,q2.1,q2.2.1,q2.2.2,q3.1,q3.2.1,q3.2.2,rfl,h2,h3,hk,(qI h).symm⟩)
       ·cases h
   ·rename_i hi
    cases h1:runE ts f (.bin 1) (enterS ts σ) with
    | none=>rw[h1] at h;cases h
    | some q1 =>
     rw[h1] at h
     simp only[Option.bind_some] at h
     refine .inr (.inr ⟨hc,by simpa using hi,q1.1,q1.2.1,q1.2.2,rfl,?_⟩)
     split at h
     ·rename_i ha
      cases h2:runE ts f .expr (stepS q1.2.2) with
      | none=>rw[h2] at h;cases h
      | some q2 =>
       rw[h2] at h
       simp only[Option.bind_some] at h
       unfold putA at h
       split at h
       ·rename_i hk
        exact .inl ⟨ha,q2.1,q2.2.1,q2.2.2,rfl,hk,(qI h).symm⟩
       ·cases h
     ·rename_i ha
      split at h
      ·rename_i hb
       cases h2:runE ts f .expr (stepS q1.2.2) with
       | none=>rw[h2] at h;cases h
       | some q2 =>
        rw[h2] at h
        simp only[Option.bind_some] at h
        unfold putA at h
        split at h
        ·rename_i hk
         exact .inr (.inl ⟨by simpa using ha,hb,q2.1,q2.2.1,q2.2.2,rfl,hk,(qI h).symm⟩)
        ·cases h
      ·rename_i hb
       split at h
       ·rename_i hk
        exact .inr (.inr ⟨by simpa using ha,by simpa using hb,hk,(qI h).symm⟩)
       ·cases h
  ·rename_i hc
   exact .inl ⟨hc,(qI h).symm⟩
 ·cases h
theorem pre_cases {ts:List Tok} {f:Nat} {σ:RS} {R:Int×List Int×RS} (h:runE ts (f+1) .pre σ=some R):okS σ=true ∧
  (((enterS ts σ).code≠0∧R=(0,[],leaveS (enterS ts σ))) ∨
  ((enterS ts σ).code=0∧prefixK ts (enterS ts σ) prefixL=0∧∃v l y,runE ts f .atom (enterS ts σ)=some (v,l,y)∧okS y=true∧R=(v,[],leaveS y)) ∨
  ((enterS ts σ).code=0∧prefixK ts (enterS ts σ) prefixL≠0∧∃v l y,runE ts f .pre (stepS (enterS ts σ))=some (v,l,y)∧okS y=true ∧
   R=((y.exprs.length:Int),[],leaveS (putS { ex0 with kind:=prefixK ts (enterS ts σ) prefixL,a:=v,pos:=((tokL ts (enterS ts σ).at_).at_:Int) } y)))):=by
 simp only[runE] at h
 split at h
 ·rename_i hok
  refine⟨hok,?_⟩
  unfold preG at h
  dsimp only at h
  split at h
  ·rename_i hc
   split at h
   ·rename_i hi
    cases h1:runE ts f .atom (enterS ts σ) with
    | none=>rw[h1] at h;cases h
    | some q1 =>
     rw[h1] at h
     simp only[Option.bind_some] at h
     split at h
     ·rename_i hk
      exact .inr (.inl ⟨hc,hi,q1.1,q1.2.1,q1.2.2,rfl,hk,(qI h).symm⟩)
     ·cases h
   ·rename_i hi
    cases h1:runE ts f .pre (stepS (enterS ts σ)) with
    | none=>rw[h1] at h;cases h
    | some q1 =>
     rw[h1] at h
     simp only[Option.bind_some] at h
     unfold putA at h
     split at h
     ·rename_i hk
      exact .inr (.inr ⟨hc,hi,q1.1,q1.2.1,q1.2.2,rfl,hk,(qI h).symm⟩)
     ·cases h
  ·rename_i hc
   exact .inl ⟨hc,(qI h).symm⟩
 ·cases h
theorem NoEx.tok {cs:Array Value}:NoEx (.cells cs 52 (0,0)):=fun cs' h=>by cases h
theorem own_base {W:World} {B B':Nat} {e:TypeId} {s:Nat} {v:Value} {n:Nat} {xs:List Value} (h:W.ownsRow B e s v n xs) (hb:B'≤B):W.ownsRow B' e s v n xs:=by
 refine⟨h.1,?_⟩
 rcases h.2 with hn | ⟨g,cap,cur,rfl,hb2,rest⟩
 ·exact .inl hn
 ·exact .inr ⟨g,cap,cur,rfl,Nat.le_trans hb hb2,rest⟩
end Go.Proofs.YtpfmlfcaadnnpaaDoor
namespace Go.Proofs.YtpfmlfcaadnnpaaDoor
open Go.RowKit Lx
theorem NoEx.of {T:TypeId} (h:T≠38) {cs:Array Value}:NoEx (.cells cs T (0,0)):=fun cs' e=>by cases e;exact h rfl
theorem own_type {W:World} {B:Nat} {e:TypeId} {s:Nat} {v:Value} {n:Nat} {xs:List Value} (h:W.ownsRow B e s v n xs) {k:Nat} (hk:v.ownBlock=some k):B≤k∧∃cs,W.heap[k]?=some (.cells cs e (0,0)):=by
 rcases h.2 with ⟨rfl,_⟩ | ⟨g,cap,cur,rfl,hb,hg,_⟩
 ·cases hk
 ·obtain rfl:g=k:=by simpa [Value.ownBlock] using hk
  exact⟨hb,cur,hg⟩
structure But (A:Nat) (W Y:World):Prop where
 os:Y.os=W.os
 tape:Y.tape=W.tape
 output:Y.output=W.output
 size:W.heap.size≤Y.heap.size
 block:∀k,k≠A→k<W.heap.size→Y.heap[k]?=W.heap[k]?
theorem But.refl (A:Nat) (W:World):But A W W:=⟨rfl,rfl,rfl,qL _,fun _ _ _=>rfl⟩
theorem But.set {A:Nat} {W Y:World} (h:But A W Y) (i:Nat) (v:Value):But A W (Y.setCell ⟨A,i,none⟩ v):=by
 have hs:=(qB A Y).setCell (p:=⟨A,i,none⟩) (qL _) v
 exact⟨hs.os.trans h.os,hs.tape.trans h.tape,hs.output.trans h.output,Nat.le_trans h.size hs.size,fun k hk hl=>(Below.heap_setCell Y ⟨A,i,none⟩ v k (by simpa using hk)).trans (h.block k hk hl)⟩
theorem RK.but {b:Nat} {W V Y:World} (h:RK b W V) {A:Nat} (hA:W.heap.size≤A) (hb:b<A) (hbs:b<W.heap.size) (hy:But A V Y):RK b W Y :=
 ⟨hy.os.trans h.os,hy.tape.trans h.tape,hy.output.trans h.output,Nat.le_trans h.size hy.size,fun k hk=>(hy.block k (by omega) (by have:=h.size;omega)).trans (h.low k hk),fun k o hk hkb hn=>by
  have:=heap_lt hk
  exact(hy.block k (by omega) (by have:=h.size;omega)).trans (h.keep k o hk hkb hn)⟩
theorem own_keepT {W Y:World} {b:Nat} {T:TypeId} {s:Nat} {v:Value} {n:Nat} {xs:List Value} {B:Nat} (h:W.ownsRow B T s v n xs) (hT:T≠38) (hB:b<B) (hk:RK b W Y):Y.ownsRow B T s v n xs:=by
 refine⟨h.1,?_⟩
 rcases h.2 with hn | ⟨g,cap,cur,rfl,hb,hgg,rest⟩
 ·exact .inl hn
 ·exact .inr ⟨g,cap,cur,rfl,hb,hk.keep g _ hgg (by omega) (.of hT),rest⟩
theorem but_grown {W Y:World} {k:Nat} (h:W.grownBy Y (some k)):But k W Y:=⟨h.os,h.tape,h.output,h.size,fun j hj hl=>h.block j hl (by simpa using hj)⟩
theorem below_grown {W Y:World} (h:W.grownBy Y none):Below W.heap.size W Y:=⟨h.os,h.tape,h.output,h.size,fun j hj=>h.block j hj (by simp)⟩
theorem Cd.but {W Y:World} {b g cap:Nat} {dv:Value} {ts:List Tok} {xb:Nat→Prop} {σ:RS} (h:Cd W b g cap dv ts xb σ) {A:Nat} {cs:Array Value} {T:TypeId} {fr:Nat×Nat} (hA:W.heap[A]?=some (.cells cs T fr)) (h1:T≠38) (h2:T≠3) (hb:b<A) (hy:But A W Y):Cd Y b g cap dv ts xb σ:=by
 have hs:=h.size
 obtain⟨o,c,hc,⟨q,q1,q2,q3⟩,h3⟩:=h.blk
 refine⟨fun k hk=>Nat.lt_of_lt_of_le (h.xlt k hk) hy.size,⟨o,c,(hy.block b (by omega) hs).trans hc,⟨q,q1,rd_own_same q2 fun k e=>hy.block k ?_ (q2.lt k e).2,fun p hp=>⟨rd_own_same (q3 p hp).1 fun k e=>hy.block k ?_ ((q3 p hp).1.lt k e).2,(q3 p hp).2⟩⟩,h3⟩,h.xnb,row_low h.row (hy.block g (by have:=h.lt;omega) (by have:=h.lt;omega)),h.lt,h.at_,h.len,h.cp,h.ends,h.tx⟩
 ·rintro rfl
  obtain⟨_,cs',hk⟩:=own_type q2 e
  rw[hA] at hk;cases hk;exact h1 rfl
 ·rintro rfl
  obtain⟨_,cs',hk⟩:=own_type (q3 p hp).1 e
  rw[hA] at hk;cases hk;exact h2 rfl
theorem RX.but {b:Nat} {xb:Nat→Prop} {W V Y:World} (h:RX b xb W V) (hx:∀k,xb k→k<W.heap.size) {A:Nat} (hA:W.heap.size≤A) (hb:b<A) (hbs:b<W.heap.size) (hy:But A V Y):RX b xb W Y :=
 ⟨h.rk.but hA hb hbs hy,fun k hk=>(hy.block k (by have:=hx k hk;omega) (by have:=hx k hk;have:=h.size;omega)).trans (h.xs k hk)⟩
theorem four_of {W:World} {k:Nat} {a b c d:Value} {T:TypeId} (h:W.heap[k]?=some (.cells #[a,b,c,d] T (0,0))):(W.cell? ⟨k,0,none⟩=some a∧W.cell? ⟨k,1,none⟩=some b∧W.cell? ⟨k,2,none⟩=some c∧W.cell? ⟨k,3,none⟩=some d)∧∀i,W.frozen? ⟨k,i,none⟩=false :=
 ⟨⟨by simp[World.cell?,h],by simp[World.cell?,h],by simp[World.cell?,h],by simp[World.cell?,h]⟩,fun i=>by simp[World.frozen?,h]⟩
theorem set_four {W:World} {k:Nat} {a b c d:Value} {T:TypeId} (h:W.heap[k]?=some (.cells #[a,b,c,d] T (0,0))) (x0 x1 x2 x3:Value) :
  ((((W.setCell ⟨k,0,none⟩ x0).setCell ⟨k,1,none⟩ x1).setCell ⟨k,2,none⟩ x2).setCell ⟨k,3,none⟩ x3).heap[k]?=some (.cells #[x0,x1,x2,x3] T (0,0)):=by
 rw[set_blk (set_blk (set_blk (set_blk h 0 x0) 1 x1) 2 x2) 3 x3]
 simp
theorem but_four (W:World) (k:Nat) (x0 x1 x2 x3:Value):But k W ((((W.setCell ⟨k,0,none⟩ x0).setCell ⟨k,1,none⟩ x1).setCell ⟨k,2,none⟩ x2).setCell ⟨k,3,none⟩ x3):=((((But.refl k W).set 0 x0).set 1 x1).set 2 x2).set 3 x3
def wantsS (ts:List Tok) (L:List (List UInt8)) (σ:RS):RS:=L.foldl (fun x s=>wantS ts s x) σ
theorem stays_wants (ts:List Tok) (L:List (List UInt8)):∀σ:RS,Stays σ (wantsS ts L σ):=by
 induction L with
 | nil=>exact fun σ=>Stays.refl σ
 | cons s L ih=>exact fun σ=>(stays_want ts s σ).trans (ih (wantS ts s σ))
theorem wantsS_drop (ts:List Tok) (L:List (List UInt8)) (σ:RS) {j:Nat} {s:List UInt8} (h:L[j]?=some s):wantsS ts (L.take (j+1)) σ=wantS ts s (wantsS ts (L.take j) σ):=by
 unfold wantsS
 rw[List.take_add_one,h,List.foldl_append];rfl
theorem stays_rest (ts:List Tok) (L:List (List UInt8)) (σ:RS) (j:Nat):Stays (wantsS ts (L.take j) σ) (wantsS ts L σ):=by
 have e:wantsS ts L σ=wantsS ts (L.drop j) (wantsS ts (L.take j) σ):=by
  unfold wantsS
  rw[←List.foldl_append,List.take_append_drop]
 rw[e]
 exact stays_wants ts _ _
theorem noex_str {cs:Array Value}:NoEx (.cells cs 9 (0,0)):=fun cs' h=>by cases h
theorem strs_of {W:World} {k:Nat} {L:List (List UInt8)} (h:W.heap[k]?=some (.cells (L.map fun s=>Value.string (str s)).toArray 9 (0,0))):StrsIn W k L:=fun j s hj=>by
 simp[World.cell?,h,hj]
theorem wants_any (b g cap:Nat) (dv:Value) (ts:List Tok) (xb:Nat→Prop) (σ:RS) (k n:Nat) (L:List (List UInt8)) (W:World) (h:Hid (Cd W b g cap dv ts xb σ)) (hc:σ.code=0) (hL:∀s ∈ L,s ∈ sgL) (hn:n=L.length) (hn9:(n:Int)≤9) (hkb:k≠b) (hk:Hid (W.heap[k]?=some (.cells (L.map fun s=>Value.string (str s)).toArray 9 (0,0)))) :
  Calls prog 40 #[.pointer (some ⟨b,0,none⟩),.slice (some ⟨k,0,none⟩) n n] W fun r Y=>CdRet b g cap dv ts xb W (.tuple #[]) (wantsS ts L σ) r Y:=by
 have HN:=Hd hn
 have HLL:=Hd hL
 have HKB:=Hd hkb
 have HC:=Hd hc
 clear hn hL hkb hc
 go_enter Tryd.func40,Tryd.ntmps40
 go_wp2_with fail
 go_loopw [8] (fun v wr=>∃j:Nat,v=.int .i64 (j:Int)∧(j:Int)≤(n:Int)∧Hid (Cd wr b g cap dv ts xb (wantsS ts (L.take j) σ))∧Hid ((wantsS ts (L.take j) σ).code=0)∧Hid (RX b xb W wr)) (fun v _=>n-litLen v)
 case atStart=>exact⟨0,rfl,by omega,h,HC,Hd (RX.refl _ _ _)⟩
 case round =>
  obtain⟨j,rfl,hj,HR,HC',HK⟩:=hrel
  have hkw:=strs_of (HK.out.keep k _ hk.out HKB.out noex_str)
  by_cases hjn:(j:Int)<(n:Int)
  ·obtain⟨s,hs⟩:∃s,L[j]?=some s:=⟨L[j]'(by have:=HN.out;omega),List.getElem?_eq_getElem _⟩
   have cj:=hkw j s hs
   have hsg:=HLL.out s (List.mem_of_getElem? hs)
   have HW:=Hd (wantsS_drop ts L σ hs)
   have HST:=Hd (stays_rest ts L σ (j+1))
   obtain⟨x,hx⟩:∃x,x=wantsS ts (L.take j) σ:=⟨_,rfl⟩
   rw[←hx] at HR HC' HW
   have TK:=Hd (takes_any b g cap dv ts xb x s wr HR HC'.out hsg)
   clear hkw hs hsg hx
   cases hi:isS ts s x with
   | true =>
    have e:tookS ts s x=wantS ts s x:=by unfold tookS wantS;rw[hi];rfl
    have e2:(wantS ts s x).code=0:=by unfold wantS;rw[if_pos hi];exact HC'.out
    have E:=Hd (show _∧_ from⟨e,e2⟩)
    have TK2:Hid (Calls prog 36 #[.pointer (some ⟨b,0,none⟩),.string (str s)] wr fun r Y=>r=.returned (.bool true)∧Hid (Cd Y b g cap dv ts xb (wantS ts s x))∧Hid (RX b xb wr Y)):=Hd (TK.out.mono fun r Y hh=>by unfold TakesRet at hh;rw[hi,e] at hh;exact hh)
    clear e e2 hi TK
    go_wp2_with (go_at_call 36;(with_reducible refine TK2.out.mono ?_);rintro e w2 ⟨rfl,hr,hk2⟩)
    exact⟨⟨j+1,by simp,by omega,by rw[HW.out];exact hr,Hd (by rw[HW.out];exact E.out.2),Hd (HK.out.trans hk2.out)⟩,by simp[litLen];omega⟩
   | false =>
    have e:tookS ts s x=x:=by unfold tookS;rw[hi];rfl
    have e2:wantS ts s x=failS ts 2 x:=by unfold wantS;rw[hi];rfl
    have e3:failS ts 2 x={ x with code:=2,pos:=((tokL ts x.at_).at_:Int) }:=by unfold failS;rw[if_pos HC'.out]
    have E:=Hd (e2.trans e3)
    have TK2:Hid (Calls prog 36 #[.pointer (some ⟨b,0,none⟩),.string (str s)] wr fun r Y=>r=.returned (.bool false)∧Hid (Cd Y b g cap dv ts xb x)∧Hid (RX b xb wr Y)):=Hd (TK.out.mono fun r Y hh=>by unfold TakesRet at hh;rw[hi,e] at hh;exact hh)
    clear e e2 e3 hi TK
    go_wp2_with (first
     | (go_at_call 36;(with_reducible refine TK2.out.mono ?_);rintro e w2 ⟨rfl,hr,hk2⟩;have RF:=Hd (refusal_any b g cap dv ts xb x 2 w2 hr))
     | (go_at_call 28;(with_reducible refine RF.out.mono ?_);rintro e w3 ⟨rfl,hb3⟩))
    have hfin:CdRet b g cap dv ts xb W (.tuple #[]) (wantsS ts L σ) (.panicked [{ v:=refusalV 2 ((tokL ts x.at_).at_:Int),recovered:=false }]) w3:=by
     have hb:CdBad b xb W (wantS ts s x).code (wantS ts s x).pos (.panicked [{ v:=refusalV 2 ((tokL ts x.at_).at_:Int),recovered:=false }]) w3:=by
      rw[E.out];exact⟨rfl,Hd ((HK.out.trans hk2.out).trans (RX.of_below hb3 (ql hr.out.size) hr.out.xlt))⟩
     have hs:=HST.out
     rw[HW.out] at hs
     exact hb.ret (by rw[E.out];exact(by decide:(2:Int)≠0)) hs
    exact⟨rfl,hfin⟩
  ·have q:decide ((j:Int)<(n:Int))=false:=qF hjn
   have e:L.take j=L:=List.take_of_length_le (by have:=HN.out;omega)
   rw[e] at HR HC'
   go_wp2_with fail
   go_end0
   exact⟨HK.out,.inl ⟨HC'.out,rfl,HR.out⟩⟩
theorem wants_one (b g cap:Nat) (dv:Value) (ts:List Tok) (xb:Nat→Prop) (σ:RS) (s:List UInt8) (W:World) (h:Hid (Cd W b g cap dv ts xb σ)) (hc:σ.code=0) (hs:s ∈ sgL) :
  Calls prog 40 #[.pointer (some ⟨b,0,none⟩),.slice (some ⟨W.heap.size,0,none⟩) 1 1] (W.alloc (.cells #[.string (str s)] 9)) fun r Y=>CdRet b g cap dv ts xb W (.tuple #[]) (wantS ts s σ) r Y:=by
 have hb1:Below W.heap.size W (W.alloc (.cells #[.string (str s)] 9)):=(qB _ _).alloc (qL _) _
 have hbs:=h.out.size
 refine(wants_any b g cap dv ts xb σ W.heap.size 1 [s] (W.alloc (.cells #[.string (str s)] 9)) (Hd (h.out.below hb1)) hc (by simpa using hs) rfl (by decide) (by omega) (Hd (heap_alloc_new W _))).mono fun r Y hh=>?_
 exact⟨(RX.of_below hb1 (ql hbs) h.out.xlt).trans hh.1,hh.2⟩
def WantRet (b g cap:Nat) (dv:Value) (ts:List Tok) (xb:Nat→Prop) (W:World) (σ:RS) (r:Ending) (Y:World):Prop:=CdRet b g cap dv ts xb W (tokV (tokL ts σ.at_)) (nameS ts σ) r Y
theorem want_name (b g cap:Nat) (dv:Value) (ts:List Tok) (xb:Nat→Prop) (σ:RS) (W:World) (h:Hid (Cd W b g cap dv ts xb σ)) (hc:σ.code=0) :
  Calls prog 17 #[.pointer (some ⟨b,0,none⟩),.int .i64 1] W fun r Y=>WantRet b g cap dv ts xb W σ r Y:=by
 unfold WantRet
 obtain⟨W1,hW1⟩:∃W1,W1=W.alloc (.cells #[.int .i64 0,.string ⟨#[]⟩,.int .i64 0,.int .i64 0] 52):=⟨_,rfl⟩
 have hb1:Below W.heap.size W W1:=by rw[hW1];exact(qB _ _).alloc (qL _) _
 have HW:Hid (W1.heap[W.heap.size]?=some (.cells #[.int .i64 0,.string ⟨#[]⟩,.int .i64 0,.int .i64 0] 52 (0,0))):=Hd (by rw[hW1];exact heap_alloc_new W _)
 have H1:Hid (Cd W1 b g cap dv ts xb σ):=Hd (h.out.below hb1)
 obtain⟨o,c,⟨c0,c1,c2,c3,fr⟩,hx⟩:=h.out.cells
 obtain⟨t0,t1,t2,t3⟩:=h.out.tok
 have hl:=h.out.at_
 have hgs:g<W.heap.size:=by have:=h.out.lt;have:=h.out.size;omega
 have HKW:=Hd (RX.of_below hb1 (ql h.out.size) h.out.xlt)
 obtain⟨m,hmm⟩:∃m,m=ts.length - σ.at_:=⟨_,rfl⟩
 obtain⟨a4,haa⟩:∃a4,a4=σ.at_*4:=⟨_,rfl⟩
 obtain⟨kd,hkd⟩:∃kd,kd=(tokL ts σ.at_).kind:=⟨_,rfl⟩
 rw[←hmm,←haa] at c0
 rw[←hkd,←haa] at t0
 have k0:(0:Int)<(m:Int):=by omega
 have hbs:b<W.heap.size:=h.out.size
 have HC:=Hd hc
 have HKD:=Hd hkd
 clear hmm haa t1 t2 t3 hl hx c1 c2 c3 fr hc hkd hb1
 by_cases h1:kd=1
 ·have T:=Hd (take_any b g cap dv ts xb σ W1 H1 (by rw[←HKD.out];omega))
  have HN:Hid (nameS ts σ=stepS σ):=Hd (by unfold nameS nameB;rw[qT HC.out,qT (show(tokL ts σ.at_).kind=1 by rw[←HKD.out];exact h1)];rfl)
  subst h1
  rw[HN.out]
  obtain⟨K,hK⟩:∃K,K=(tokL ts σ.at_).kind:=⟨_,rfl⟩
  obtain⟨X,hX⟩:∃X,X=str (tokL ts σ.at_).text:=⟨_,rfl⟩
  obtain⟨V,hV⟩:∃V,V=(tokL ts σ.at_).v:=⟨_,rfl⟩
  obtain⟨P,hP⟩:∃P,P=(tokL ts σ.at_).at_:=⟨_,rfl⟩
  have T2:Hid (Calls prog 29 #[.pointer (some ⟨b,0,none⟩)] W1 fun r Y=>r=.returned (.agg #[.int .i64 (K:Int),.string X,.int .i64 V,.int .i64 (P:Int)])∧Hid (Cd Y b g cap dv ts xb (stepS σ))∧Hid (RX b xb W1 Y)):=Hd (by
   have:=T.out;unfold TakeRet tokV at this;rw[←hK,←hX,←hV,←hP] at this;exact this)
  unfold tokV
  rw[←hK,←hX,←hV,←hP]
  clear hK hX hV hP T
  go_enter Tryd.func17,Tryd.ntmps17
  go_wp2_with (go_at_call 29;rw[←hW1];clear hW1;(with_reducible refine T2.out.mono ?_);rintro e w2 ⟨rfl,hr,hk⟩;have hb2:=Hd (hk.out.keep _ _ HW.out (by omega) (fun cs e=>by cases e));obtain⟨⟨b0,b1,b2,b3⟩,bf⟩:=four_of hb2.out;have z0:=bf 0;have z1:=bf 1;have z2:=bf 2;have z3:=bf 3;clear bf)
  have hbut:=but_four w2 W.heap.size (.int .i64 (K:Int)) (.string X) (.int .i64 V) (.int .i64 (P:Int))
  obtain⟨⟨r0,r1,r2,r3⟩,-⟩:=four_of (set_four hb2.out (.int .i64 (K:Int)) (.string X) (.int .i64 V) (.int .i64 (P:Int)))
  exact bodyPost_ret (v:=.agg #[.int .i64 (K:Int),.string X,.int .i64 V,.int .i64 (P:Int)]) (by simp[results,Tryd.results17,go_sem,r0,r1,r2,r3]) rfl
   ⟨(HKW.out.trans hk.out).but h.out.xlt (qL _) hbs hbs hbut,.inl ⟨HC.out,rfl,hr.out.but hb2.out (by decide) (by decide) hbs hbut⟩⟩
 ·have q1:((kd:Int) !=1)=true:=bne_iff_ne.2 (by omega)
  have e3:nameS ts σ={ σ with code:=2,pos:=((tokL ts σ.at_).at_:Int) }:=by
   unfold nameS nameB failS
   rw[qF (show ¬(tokL ts σ.at_).kind=1 by rw[←HKD.out];exact h1),Bool.and_false,if_neg (by decide),if_pos HC.out]
  have E:=Hd e3
  have RF:=Hd (refusal_any b g cap dv ts xb σ 2 W1 H1)
  clear h1 e3
  go_enter Tryd.func17,Tryd.ntmps17
  go_wp2_with (go_at_call 28;rw[←hW1];clear hW1;(with_reducible refine RF.out.mono ?_);rintro e w3 ⟨rfl,hb3⟩)
  rw[E.out]
  exact⟨rfl,HKW.out.trans (RX.of_below hb3 (ql H1.out.size) H1.out.xlt),.inr ⟨(by decide:(2:Int)≠0),rfl⟩⟩
theorem field_text (k v a:Int) (x:ByteArray) (w:World):(Instr.field 52 (.agg #[.int .i64 k,.string x,.int .i64 v,.int .i64 a]) 1).run prog w=.ok (.string x) w:=by kernel_rfl
theorem field_at (k v a:Int) (x:ByteArray) (w:World):(Instr.field 52 (.agg #[.int .i64 k,.string x,.int .i64 v,.int .i64 a]) 3).run prog w=.ok (.int .i64 a) w:=by kernel_rfl
theorem cname_any (b g cap:Nat) (dv:Value) (ts:List Tok) (xb:Nat→Prop) (σ:RS) (W:World) (h:Hid (Cd W b g cap dv ts xb σ)) (hc:σ.code=0) :
  Calls prog 37 #[.pointer (some ⟨b,0,none⟩)] W fun r Y=>CdRet b g cap dv ts xb W (.string (str (nameV ts σ))) (nameS ts σ) r Y:=by
 have C:=Hd (want_name b g cap dv ts xb σ W h hc)
 by_cases h1:(nameS ts σ).code=0
 ·have e:nameV ts σ=(tokL ts σ.at_).text:=by
   by_cases hb:nameB ts σ=true
   ·unfold nameV;rw[if_pos hb]
   ·unfold nameS failS at h1
    rw[if_neg hb,if_pos hc] at h1
    exact absurd h1 (by decide:¬(2:Int)=0)
  have C2:Hid (Calls prog 17 #[.pointer (some ⟨b,0,none⟩),.int .i64 1] W fun r Y=>CdOk b g cap dv ts xb W (tokV (tokL ts σ.at_)) (nameS ts σ) r Y):=Hd (C.out.mono fun r Y hh=>CdRet.ok hh h1)
  rw[e]
  have H1:=Hd h1
  unfold tokV at C2
  obtain⟨X,hX⟩:∃X,X=str (tokL ts σ.at_).text:=⟨_,rfl⟩
  obtain⟨K,hK⟩:∃K,K=(tokL ts σ.at_).kind:=⟨_,rfl⟩
  obtain⟨V,hV⟩:∃V,V=(tokL ts σ.at_).v:=⟨_,rfl⟩
  obtain⟨P,hP⟩:∃P,P=(tokL ts σ.at_).at_:=⟨_,rfl⟩
  rw[←hX,←hK,←hV,←hP] at C2
  rw[←hX]
  clear hX hK hV hP C e h1
  have FT:=field_text
  go_enter Tryd.func37,Tryd.ntmps37
  go_wp2_with (go_at_call 17;(with_reducible refine C2.out.mono ?_);rintro e w3 ⟨rfl,hr,hk⟩)
  go_ret
  exact⟨hk.out,.inl ⟨H1.out,rfl,hr.out⟩⟩
 ·have C2:Hid (Calls prog 17 #[.pointer (some ⟨b,0,none⟩),.int .i64 1] W fun r Y=>CdBad b xb W (nameS ts σ).code (nameS ts σ).pos r Y):=Hd (C.out.mono fun r Y hh=>CdRet.bad hh h1)
  have H1:=Hd h1
  clear C h1
  go_enter Tryd.func37,Tryd.ntmps37
  go_wp2_with (go_at_call 17;(with_reducible refine C2.out.mono ?_);rintro e w3 ⟨rfl,hk⟩)
  exact⟨rfl,hk.out,.inr ⟨H1.out,rfl⟩⟩
def Fin (W:World) (b:Nat) (dv:Value) (xb:Nat→Prop) (σ:RS):Prop:=∃s d o c,W.heap[b]?=some (.cells #[s,dv,.slice o σ.exprs.length c,.int .i64 d] 50 (0,0))∧ExsOwn W b xb (.slice o σ.exprs.length c) σ.exprs
theorem Fin.below {W Y:World} {b:Nat} {dv:Value} {xb:Nat→Prop} {σ:RS} (h:Fin W b dv xb σ) (hb:Below W.heap.size W Y):Fin Y b dv xb σ:=by
 obtain⟨s,d,o,c,h1,h2⟩:=h
 exact⟨s,d,o,c,(hb.block b (heap_lt h1)).trans h1,h2.same fun k _ hk=>hb.block k hk⟩
theorem Cd.fin {W:World} {b g cap:Nat} {dv:Value} {ts:List Tok} {xb:Nat→Prop} {σ:RS} (h:Cd W b g cap dv ts xb σ) (v:Value):Fin (W.setCell ⟨b,0,none⟩ v) b dv xb σ:=by
 obtain⟨o,c,h1,h2,h3⟩:=h.blk
 exact⟨v,σ.deep,o,c,by rw[set_blk h1];rfl,h2.same fun k hk _=>Below.heap_setCell W ⟨b,0,none⟩ v k (by simp;omega)⟩
theorem take_end (b g cap:Nat) (dv:Value) (ts:List Tok) (xb:Nat→Prop) (σ:RS) (W:World) (h:Hid (Cd W b g cap dv ts xb σ)) (hk:(tokL ts σ.at_).kind=5) :
  Calls prog 29 #[.pointer (some ⟨b,0,none⟩)] W fun r Y=>r=.returned (tokV (tokL ts σ.at_))∧Hid (Fin Y b dv xb σ)∧Hid (RX b xb W Y):=by
 obtain⟨o,c,⟨c0,c1,c2,c3,fr⟩,hx⟩:=h.out.cells
 obtain⟨t0,t1,t2,t3⟩:=h.out.tok
 have hl:=h.out.at_
 have hcp:=h.out.cp
 have hnx:σ.at_+1=ts.length:=(h.out.ends.2 σ.at_ (tokL ts σ.at_) (by unfold tokL;rw[List.getD_eq_getElem?_getD,List.getElem?_eq_getElem h.out.at_];rfl)).2 hk
 have f0:=fr 0
 unfold tokV
 obtain⟨kd,hkd⟩:∃kd,kd=(tokL ts σ.at_).kind:=⟨_,rfl⟩
 obtain⟨tx,htx⟩:∃tx,tx=(tokL ts σ.at_).text:=⟨_,rfl⟩
 obtain⟨tv,htv⟩:∃tv,tv=(tokL ts σ.at_).v:=⟨_,rfl⟩
 obtain⟨p,hp⟩:∃p,p=(tokL ts σ.at_).at_:=⟨_,rfl⟩
 rw[←hkd] at t0
 rw[←htx] at t1
 rw[←htv] at t2
 rw[←hp] at t3
 rw[←hkd,←htx,←htv,←hp]
 obtain⟨m,hmm⟩:∃m,m=cap - σ.at_:=⟨_,rfl⟩
 obtain⟨a4,haa⟩:∃a4,a4=σ.at_*4:=⟨_,rfl⟩
 rw[show ts.length - σ.at_=1 by omega,←hmm,←haa] at c0
 rw[←haa] at t0 t1 t2 t3
 have k2:(1:Int)≤(m:Int):=by omega
 have hgs:g<W.heap.size:=by have:=h.out.lt;have:=h.out.size;omega
 have hbs:b<W.heap.size:=h.out.size
 clear hmm haa hp hkd htx htv hl hx c1 c2 c3 fr hcp hnx hk
 by_cases k3:m=1
 ·subst k3;go_enter Tryd.func29,Tryd.ntmps29
  go_wp2_with fail
  obtain⟨W1,hW1⟩:∃W1,W1=W.setCell ⟨b,0,none⟩ (.slice (some ⟨g,a4,none⟩) 0 0):=⟨_,rfl⟩
  have HC:Hid (Fin W1 b dv xb σ):=Hd (by rw[hW1];exact h.out.fin _)
  have HR:Hid (RX b xb W W1):=Hd (by rw[hW1];exact RX.set h.out.xnb 0 _)
  have hs:W.heap.size=W1.heap.size:=by rw[hW1];simp
  have HX:=Hd (show ∀k,xb k→k<W1.heap.size from fun k hk=>by rw[←hs];exact h.out.xlt k hk)
  rw[←hW1]
  have HB:=Hd (((qB W1.heap.size W1).alloc (qL _) (.cells #[.int .i64 (kd:Int),.string (str tx),.int .i64 tv,.int .i64 (p:Int)] 52)).alloc (by simp) (.cells #[.int .i64 (kd:Int),.string (str tx),.int .i64 tv,.int .i64 (p:Int)] 52))
  have hb1:b≤W1.heap.size:=by omega
  clear hW1
  rw[hs]
  obtain⟨⟨r0,r1,r2,r3⟩,-⟩:=box_four W1 (.int .i64 (kd:Int)) (.string (str tx)) (.int .i64 tv) (.int .i64 (p:Int)) 52 (.cells #[.int .i64 (kd:Int),.string (str tx),.int .i64 tv,.int .i64 (p:Int)] 52)
  exact bodyPost_ret (v:=.agg #[.int .i64 (kd:Int),.string (str tx),.int .i64 tv,.int .i64 (p:Int)]) (by simp[results,Tryd.results29,go_sem,r0,r1,r2,r3]) rfl ⟨rfl,Hd (HC.out.below HB.out),Hd (HR.out.trans (RX.of_below HB.out hb1 HX.out))⟩
 ·go_enter Tryd.func29,Tryd.ntmps29
  go_wp2_with fail
  obtain⟨W1,hW1⟩:∃W1,W1=W.setCell ⟨b,0,none⟩ (.slice (some ⟨g,a4+4,none⟩) 0 (m-1)):=⟨_,rfl⟩
  have HC:Hid (Fin W1 b dv xb σ):=Hd (by rw[hW1];exact h.out.fin _)
  have HR:Hid (RX b xb W W1):=Hd (by rw[hW1];exact RX.set h.out.xnb 0 _)
  have hs:W.heap.size=W1.heap.size:=by rw[hW1];simp
  have HX:=Hd (show ∀k,xb k→k<W1.heap.size from fun k hk=>by rw[←hs];exact h.out.xlt k hk)
  rw[←hW1]
  have HB:=Hd (((qB W1.heap.size W1).alloc (qL _) (.cells #[.int .i64 (kd:Int),.string (str tx),.int .i64 tv,.int .i64 (p:Int)] 52)).alloc (by simp) (.cells #[.int .i64 (kd:Int),.string (str tx),.int .i64 tv,.int .i64 (p:Int)] 52))
  have hb1:b≤W1.heap.size:=by omega
  clear hW1
  rw[hs]
  obtain⟨⟨r0,r1,r2,r3⟩,-⟩:=box_four W1 (.int .i64 (kd:Int)) (.string (str tx)) (.int .i64 tv) (.int .i64 (p:Int)) 52 (.cells #[.int .i64 (kd:Int),.string (str tx),.int .i64 tv,.int .i64 (p:Int)] 52)
  exact bodyPost_ret (v:=.agg #[.int .i64 (kd:Int),.string (str tx),.int .i64 tv,.int .i64 (p:Int)]) (by simp[results,Tryd.results29,go_sem,r0,r1,r2,r3]) rfl ⟨rfl,Hd (HC.out.below HB.out),Hd (HR.out.trans (RX.of_below HB.out hb1 HX.out))⟩
theorem Fin.but {W Y:World} {b:Nat} {dv:Value} {xb:Nat→Prop} {σ:RS} (h:Fin W b dv xb σ) {A:Nat} {cs:Array Value} {T:TypeId} {fr:Nat×Nat} (hA:W.heap[A]?=some (.cells cs T fr)) (h1:T≠38) (h2:T≠3) (hb:b<A) (hy:But A W Y):Fin Y b dv xb σ:=by
 obtain⟨s,d,o,c,hc,q,q1,q2,q3⟩:=h
 refine⟨s,d,o,c,(hy.block b (by omega) (heap_lt hc)).trans hc,q,q1,rd_own_same q2 fun k e=>hy.block k ?_ (q2.lt k e).2,fun p hp=>⟨rd_own_same (q3 p hp).1 fun k e=>hy.block k ?_ ((q3 p hp).1.lt k e).2,(q3 p hp).2⟩⟩
 ·rintro rfl
  obtain⟨_,cs',hk⟩:=own_type q2 e
  rw[hA] at hk;cases hk;exact h1 rfl
 ·rintro rfl
  obtain⟨_,cs',hk⟩:=own_type (q3 p hp).1 e
  rw[hA] at hk;cases hk;exact h2 rfl
def EndRet (b:Nat) (dv:Value) (ts:List Tok) (xb:Nat→Prop) (W:World) (σ:RS) (r:Ending) (Y:World):Prop :=
 RX b xb W Y∧(((tokL ts σ.at_).kind=5∧r=.returned (tokV (tokL ts σ.at_))∧Fin Y b dv xb σ)∨(¬(tokL ts σ.at_).kind=5∧r=.panicked [{ v:=refusalV 2 ((tokL ts σ.at_).at_:Int),recovered:=false }]))
theorem want_end (b g cap:Nat) (dv:Value) (ts:List Tok) (xb:Nat→Prop) (σ:RS) (W:World) (h:Hid (Cd W b g cap dv ts xb σ)) (hc:σ.code=0) :
  Calls prog 17 #[.pointer (some ⟨b,0,none⟩),.int .i64 5] W fun r Y=>EndRet b dv ts xb W σ r Y:=by
 unfold EndRet
 obtain⟨W1,hW1⟩:∃W1,W1=W.alloc (.cells #[.int .i64 0,.string ⟨#[]⟩,.int .i64 0,.int .i64 0] 52):=⟨_,rfl⟩
 have hb1:Below W.heap.size W W1:=by rw[hW1];exact(qB _ _).alloc (qL _) _
 have HW:Hid (W1.heap[W.heap.size]?=some (.cells #[.int .i64 0,.string ⟨#[]⟩,.int .i64 0,.int .i64 0] 52 (0,0))):=Hd (by rw[hW1];exact heap_alloc_new W _)
 have H1:Hid (Cd W1 b g cap dv ts xb σ):=Hd (h.out.below hb1)
 obtain⟨o,c,⟨c0,c1,c2,c3,fr⟩,hx⟩:=h.out.cells
 obtain⟨t0,t1,t2,t3⟩:=h.out.tok
 have hl:=h.out.at_
 have hgs:g<W.heap.size:=by have:=h.out.lt;have:=h.out.size;omega
 have HKW:=Hd (RX.of_below hb1 (ql h.out.size) h.out.xlt)
 obtain⟨m,hmm⟩:∃m,m=ts.length - σ.at_:=⟨_,rfl⟩
 obtain⟨a4,haa⟩:∃a4,a4=σ.at_*4:=⟨_,rfl⟩
 obtain⟨kd,hkd⟩:∃kd,kd=(tokL ts σ.at_).kind:=⟨_,rfl⟩
 rw[←hmm,←haa] at c0
 rw[←hkd,←haa] at t0
 have k0:(0:Int)<(m:Int):=by omega
 have hbs:b<W.heap.size:=h.out.size
 have HC:=Hd hc
 have HKD:=Hd hkd
 clear hmm haa t1 t2 t3 hl hx c1 c2 c3 fr hc hkd hb1
 by_cases h1:kd=5
 ·have T:=Hd (take_end b g cap dv ts xb σ W1 H1 (by rw[←HKD.out];exact h1))
  have HE:Hid ((tokL ts σ.at_).kind=5):=Hd (HKD.out.symm.trans h1)
  subst h1
  obtain⟨K,hK⟩:∃K,K=(tokL ts σ.at_).kind:=⟨_,rfl⟩
  obtain⟨X,hX⟩:∃X,X=str (tokL ts σ.at_).text:=⟨_,rfl⟩
  obtain⟨V,hV⟩:∃V,V=(tokL ts σ.at_).v:=⟨_,rfl⟩
  obtain⟨P,hP⟩:∃P,P=(tokL ts σ.at_).at_:=⟨_,rfl⟩
  have T2:Hid (Calls prog 29 #[.pointer (some ⟨b,0,none⟩)] W1 fun r Y=>r=.returned (.agg #[.int .i64 (K:Int),.string X,.int .i64 V,.int .i64 (P:Int)])∧Hid (Fin Y b dv xb σ)∧Hid (RX b xb W1 Y)):=Hd (by
   have:=T.out;unfold tokV at this;rw[←hK,←hX,←hV,←hP] at this;exact this)
  unfold tokV
  rw[←hK,←hX,←hV,←hP]
  have HE:=Hd (hK.trans HE.out)
  clear hK hX hV hP T
  go_enter Tryd.func17,Tryd.ntmps17
  go_wp2_with (go_at_call 29;rw[←hW1];clear hW1;(with_reducible refine T2.out.mono ?_);rintro e w2 ⟨rfl,hr,hk⟩;have hb2:=Hd (hk.out.keep _ _ HW.out (by omega) (fun cs e=>by cases e));obtain⟨⟨b0,b1,b2,b3⟩,bf⟩:=four_of hb2.out;have z0:=bf 0;have z1:=bf 1;have z2:=bf 2;have z3:=bf 3;clear bf)
  have hbut:=but_four w2 W.heap.size (.int .i64 (K:Int)) (.string X) (.int .i64 V) (.int .i64 (P:Int))
  obtain⟨⟨r0,r1,r2,r3⟩,-⟩:=four_of (set_four hb2.out (.int .i64 (K:Int)) (.string X) (.int .i64 V) (.int .i64 (P:Int)))
  exact bodyPost_ret (v:=.agg #[.int .i64 (K:Int),.string X,.int .i64 V,.int .i64 (P:Int)]) (by simp[results,Tryd.results17,go_sem,r0,r1,r2,r3]) rfl
   ⟨(HKW.out.trans hk.out).but h.out.xlt (qL _) hbs hbs hbut,.inl ⟨HE.out,rfl,hr.out.but hb2.out (by decide) (by decide) hbs hbut⟩⟩
 ·have q1:((kd:Int) !=5)=true:=bne_iff_ne.2 (by omega)
  have HE:Hid (¬(tokL ts σ.at_).kind=5):=Hd (fun e=>h1 (HKD.out.trans e))
  have RF:=Hd (refusal_any b g cap dv ts xb σ 2 W1 H1)
  clear h1
  go_enter Tryd.func17,Tryd.ntmps17
  go_wp2_with (go_at_call 28;rw[←hW1];clear hW1;(with_reducible refine RF.out.mono ?_);rintro e w3 ⟨rfl,hb3⟩)
  exact⟨rfl,HKW.out.trans (RX.of_below hb3 (ql H1.out.size) H1.out.xlt),.inr ⟨HE.out,rfl⟩⟩
theorem But.below {A:Nat} {W X Y:World} (h:But A W X) (hb:Below X.heap.size X Y):But A W Y :=
 ⟨hb.os.trans h.os,hb.tape.trans h.tape,hb.output.trans h.output,Nat.le_trans h.size hb.size,fun k hk hl=>(hb.block k (Nat.lt_of_lt_of_le hl h.size)).trans (h.block k hk hl)⟩
theorem catch_panicking (q:Nat) (c p:Int) (u0 v0:Value) (w:World) (hc:w.heap[q]?=some (.cells #[u0,v0] 29 (0,0))) :
  CallsD prog 16 #[.pointer (some ⟨q,0,none⟩)] (.panicking [{ v:=refusalV c p,recovered:=false }]) w fun e u' w' =>
   e=.returned (.tuple #[])∧u'=.panicking [{ v:=refusalV c p,recovered:=true }]∧w'.heap[q]?=some (.cells #[.int .i64 c,.int .i64 p] 29 (0,0))∧But q w w':=by
 have hqs:q<w.heap.size:=heap_lt hc
 have d0:w.cell? ⟨q,0,none⟩=some u0:=by simp[World.cell?,hc]
 have d1:w.cell? ⟨q,1,none⟩=some v0:=by simp[World.cell?,hc]
 have z0:w.frozen? ⟨q,0,none⟩=false:=by simp[World.frozen?,hc]
 have z1:w.frozen? ⟨q,1,none⟩=false:=by simp[World.frozen?,hc]
 unfold refusalV
 refine callsD_of_wpS Tryd.func16 rfl fun c₀ cs hu=>?_
 apply wpS_seq
 apply wpS_region
 simp[wpOpsS,go_sem,recoverD,hu,Tryd.ntmps16,Exit.thenS]
 have TA:∀w:World,(Instr.typeAssert (.iface 47 (.agg #[.int .i64 c,.int .i64 p])) 20 47 true).run prog w=.ok (.tuple #[.agg #[.int .i64 c,.int .i64 p],.bool true]) w:=fun w=>by kernel_rfl
 refine wpS_of_wp ?_
 rw[show(#[.pointer (some ⟨q,0,none⟩)]++(((Array.replicate 14 undef).setIfInBounds 3 (.iface 47 (.agg #[.int .i64 c,.int .i64 p]))).setIfInBounds 0 (.iface 47 (.agg #[.int .i64 c,.int .i64 p]))):Array Value)=#[.pointer (some ⟨q,0,none⟩),(.iface 47 (.agg #[.int .i64 c,.int .i64 p])),undef,undef,(.iface 47 (.agg #[.int .i64 c,.int .i64 p])),undef,undef,undef,undef,undef,undef,undef,undef,undef,undef] from rfl]
 go_wp2_with fail
 obtain⟨w9,hw9⟩:∃w9,w9=((w.setCell ⟨q,0,none⟩ (.int .i64 c)).setCell ⟨q,1,none⟩ (.int .i64 p)).alloc (.cells #[.int .i64 c,.int .i64 p] 47):=⟨_,rfl⟩
 have e1:w9.heap[q]?=some (.cells #[.int .i64 c,.int .i64 p] 29 (0,0)):=by
  rw[hw9,((qB _ _).alloc (qL _) _:Below ((w.setCell ⟨q,0,none⟩ (.int .i64 c)).setCell ⟨q,1,none⟩ (.int .i64 p)).heap.size _ _).block q (by simp;omega),set_blk (set_blk hc 0 (.int .i64 c)) 1 (.int .i64 p)]
  rfl
 have e2:But q w w9:=by
  rw[hw9]
  exact(((But.refl q w).set 0 (.int .i64 c)).set 1 (.int .i64 p)).below ((qB _ _).alloc (qL _) _)
 rw[←hw9]
 simp[bodyPostS,results,Tryd.results16]
 exact⟨e1,e2⟩
theorem catch_idle (q:Nat) (w:World) :
  CallsD prog 16 #[.pointer (some ⟨q,0,none⟩)] .returning w fun e u' w'=>e=.returned (.tuple #[])∧u'=.returning∧Below w.heap.size w w':=by
 refine callsD_of_wpS Tryd.func16 rfl fun c₀ cs hu=>?_
 apply wpS_seq
 apply wpS_region
 simp[wpOpsS,go_sem,recoverD,hu,Tryd.ntmps16,Exit.thenS]
 have TA:∀w:World,(Instr.typeAssert .nilIface 20 47 true).run prog w=.ok (.tuple #[.agg #[.int .i64 0,.int .i64 0],.bool false]) w:=fun w=>by kernel_rfl
 refine wpS_of_wp ?_
 rw[show(#[.pointer (some ⟨q,0,none⟩)]++(((Array.replicate 14 undef).setIfInBounds 3 .nilIface).setIfInBounds 0 .nilIface):Array Value)=#[.pointer (some ⟨q,0,none⟩),.nilIface,undef,undef,.nilIface,undef,undef,undef,undef,undef,undef,undef,undef,undef,undef] from rfl]
 go_wp2_with fail
 have e1:Below w.heap.size w (w.alloc (.cells #[.int .i64 0,.int .i64 0] 47)):=(qB _ _).alloc (qL _) _
 cases c₀
 simp_all[bodyPostS,results,Tryd.results16]
end Go.Proofs.YtpfmlfcaadnnpaaDoor
