import Derived.Test.YtpfmlfcaadnnpaaGreatDoorPg07
import Derived.Deep.AppendLies
import Derived.Shelf.RegionOpenPlain
import Derived.Defers
import Derived.Recover
set_option maxHeartbeats 16000000
set_option maxRecDepth 100000
set_option linter.unusedVariables false
open Go.Proofs.Tryz(prog)
namespace Go.Proofs.YtpfmlfcaadnnpaaGreatDoor
open Go.RowKit Lx
theorem expr_cases {ts:List Tok} {f:Nat} {σ:RS} {R:Int×List Int×RS} (h:runE ts (f+1) .expr σ=some R):okS σ=true ∧
  (((enterS ts σ).code≠0∧R=(0,[],leaveS (enterS ts σ))) ∨
  ((enterS ts σ).code=0∧isS ts [105,102] (enterS ts σ)=true∧∃a la s2 b lb s3 c lc s4,runE ts f .expr (stepS (enterS ts σ))=some (a,la,s2)∧runE ts f .expr (wantS ts [116,104,101,110] s2)=some (b,lb,s3) ∧
   runE ts f .expr (wantS ts [101,108,115,101] s3)=some (c,lc,s4)∧okS s4=true∧R=((s4.exprs.length:Int),[],leaveS (putS { ex0 with kind:=15,a:=a,b:=b,c:=c,pos:=((tokL ts (enterS ts σ).at_).at_:Int) } s4))) ∨
  ((enterS ts σ).code=0∧isS ts [105,102] (enterS ts σ)=false∧∃o lo y,runE ts f (.bin 1) (enterS ts σ)=some (o,lo,y) ∧
   ((isS ts [45,62] y=true∧∃bv lb z,runE ts f .expr (stepS y)=some (bv,lb,z)∧okS z=true∧R=((z.exprs.length:Int),[],leaveS (putS (twoE 17 o bv (tokL ts y.at_).at_) z))) ∨
   (isS ts [45,62] y=false∧isS ts [102,98,121] y=true∧∃bv lb z,runE ts f .expr (stepS y)=some (bv,lb,z)∧okS z=true∧R=((z.exprs.length:Int),[],leaveS (putS (twoE 18 o bv (tokL ts y.at_).at_) z))) ∨
   (isS ts [45,62] y=false∧isS ts [102,98,121] y=false∧okS y=true∧R=(o,[],leaveS y))))):=by
 simp only[runE] at h
 split at h
 ·rename_i hok
  refine⟨hok,?_⟩
  unfold exprG at h
  dsimp only at h
  split at h
  ·rename_i hc
   split at h
   ·rename_i hi
    cases h1:runE ts f .expr (stepS (enterS ts σ)) with
    | none=>rw[h1] at h;cases h
    | some q1 =>
     rw[h1] at h
     simp only[Option.bind_some] at h
     cases h2:runE ts f .expr (wantS ts [116,104,101,110] q1.2.2) with
     | none=>rw[h2] at h;cases h
     | some q2 =>
      rw[h2] at h
      simp only[Option.bind_some] at h
      cases h3:runE ts f .expr (wantS ts [101,108,115,101] q2.2.2) with
      | none=>rw[h3] at h;cases h
      | some q3 =>
       rw[h3] at h
       simp only[Option.bind_some] at h
       unfold putA at h
       split at h
       ·rename_i hk
        exact .inr (.inl ⟨hc,hi,q1.1,q1.2.1,q1.2.2,q2.1,q2.2.1,q2.2.2,q3.1,q3.2.1,q3.2.2,rfl,h2,h3,hk,(qI h).symm⟩)
       ·cases h
   ·rename_i hi
    cases h1:runE ts f (.bin 1) (enterS ts σ) with
    | none=>rw[h1] at h;cases h
    | some q1 =>
     rw[h1] at h
     simp only[Option.bind_some] at h
     refine .inr (.inr ⟨hc,by simpa using hi,q1.1,q1.2.1,q1.2.2,rfl,?_⟩)
     split at h
     ·rename_i ha
      cases h2:runE ts f .expr (stepS q1.2.2) with
      | none=>rw[h2] at h;cases h
      | some q2 =>
       rw[h2] at h
       simp only[Option.bind_some] at h
       unfold putA at h
       split at h
       ·rename_i hk
        exact .inl ⟨ha,q2.1,q2.2.1,q2.2.2,rfl,hk,(qI h).symm⟩
       ·cases h
     ·rename_i ha
      split at h
      ·rename_i hb
       cases h2:runE ts f .expr (stepS q1.2.2) with
       | none=>rw[h2] at h;cases h
       | some q2 =>
        rw[h2] at h
        simp only[Option.bind_some] at h
        unfold putA at h
        split at h
        ·rename_i hk
         exact .inr (.inl ⟨by simpa using ha,hb,q2.1,q2.2.1,q2.2.2,rfl,hk,(qI h).symm⟩)
        ·cases h
      ·rename_i hb
       split at h
       ·rename_i hk
        exact .inr (.inr ⟨by simpa using ha,by simpa using hb,hk,(qI h).symm⟩)
       ·cases h
  ·rename_i hc
   exact .inl ⟨hc,(qI h).symm⟩
 ·cases h
theorem pre_cases {ts:List Tok} {f:Nat} {σ:RS} {R:Int×List Int×RS} (h:runE ts (f+1) .pre σ=some R):okS σ=true ∧
  (((enterS ts σ).code≠0∧R=(0,[],leaveS (enterS ts σ))) ∨
  ((enterS ts σ).code=0∧prefixK ts (enterS ts σ) prefixL=0∧∃v l y,runE ts f .atom (enterS ts σ)=some (v,l,y)∧okS y=true∧R=(v,[],leaveS y)) ∨
  ((enterS ts σ).code=0∧prefixK ts (enterS ts σ) prefixL≠0∧∃v l y,runE ts f .pre (stepS (enterS ts σ))=some (v,l,y)∧okS y=true ∧
   R=((y.exprs.length:Int),[],leaveS (putS { ex0 with kind:=prefixK ts (enterS ts σ) prefixL,a:=v,pos:=((tokL ts (enterS ts σ).at_).at_:Int) } y)))):=by
 simp only[runE] at h
 split at h
 ·rename_i hok
  refine⟨hok,?_⟩
  unfold preG at h
  dsimp only at h
  split at h
  ·rename_i hc
   split at h
   ·rename_i hi
    cases h1:runE ts f .atom (enterS ts σ) with
    | none=>rw[h1] at h;cases h
    | some q1 =>
     rw[h1] at h
     simp only[Option.bind_some] at h
     split at h
     ·rename_i hk
      exact .inr (.inl ⟨hc,hi,q1.1,q1.2.1,q1.2.2,rfl,hk,(qI h).symm⟩)
     ·cases h
   ·rename_i hi
    cases h1:runE ts f .pre (stepS (enterS ts σ)) with
    | none=>rw[h1] at h;cases h
    | some q1 =>
     rw[h1] at h
     simp only[Option.bind_some] at h
     unfold putA at h
     split at h
     ·rename_i hk
      exact .inr (.inr ⟨hc,hi,q1.1,q1.2.1,q1.2.2,rfl,hk,(qI h).symm⟩)
     ·cases h
  ·rename_i hc
   exact .inl ⟨hc,(qI h).symm⟩
 ·cases h
theorem isS_one {ts:List Tok} {s s':List UInt8} {σ:RS} (h:isS ts s σ=true) (hn:s≠s'):isS ts s' σ=false:=by
 unfold isS at h ⊢
 simp only[Bool.and_eq_true,beq_iff_eq] at h
 rw[h.2.2]
 have:(s ==s')=false:=beq_false_of_ne hn
 rw[this,Bool.and_false,Bool.and_false]
theorem NoEx.tok {cs:Array Value}:NoEx (.cells cs 43 (0,0)):=fun cs' h=>by cases h
theorem own_base {W:World} {B B':Nat} {e:TypeId} {s:Nat} {v:Value} {n:Nat} {xs:List Value} (h:W.ownsRow B e s v n xs) (hb:B'≤B):W.ownsRow B' e s v n xs:=by
 refine⟨h.1,?_⟩
 rcases h.2 with hn | ⟨g,cap,cur,rfl,hb2,rest⟩
 ·exact .inl hn
 ·exact .inr ⟨g,cap,cur,rfl,Nat.le_trans hb hb2,rest⟩
theorem own_form {W:World} {B:Nat} {e:TypeId} {s:Nat} {v:Value} {n:Nat} {xs:List Value} (h:W.ownsRow B e s v n xs):∃o c,v=.slice o n c:=by
 rcases h.2 with ⟨rfl,rfl⟩ | ⟨g,cap,cur,rfl,_⟩
 ·exact⟨none,0,rfl⟩
 ·exact⟨_,cap,rfl⟩
end Go.Proofs.YtpfmlfcaadnnpaaGreatDoor
namespace Go.Proofs.YtpfmlfcaadnnpaaGreatDoor
open Go.RowKit Lx
theorem NoEx.of {T:TypeId} (h:T≠46) {cs:Array Value}:NoEx (.cells cs T (0,0)):=fun cs' e=>by cases e;exact h rfl
theorem own_type {W:World} {B:Nat} {e:TypeId} {s:Nat} {v:Value} {n:Nat} {xs:List Value} (h:W.ownsRow B e s v n xs) {k:Nat} (hk:v.ownBlock=some k):B≤k∧∃cs,W.heap[k]?=some (.cells cs e (0,0)):=by
 rcases h.2 with ⟨rfl,_⟩ | ⟨g,cap,cur,rfl,hb,hg,_⟩
 ·cases hk
 ·obtain rfl:g=k:=by simpa [Value.ownBlock] using hk
  exact⟨hb,cur,hg⟩
structure But (A:Nat) (W Y:World):Prop where
 os:Y.os=W.os
 tape:Y.tape=W.tape
 output:Y.output=W.output
 size:W.heap.size≤Y.heap.size
 block:∀k,k≠A→k<W.heap.size→Y.heap[k]?=W.heap[k]?
theorem But.refl (A:Nat) (W:World):But A W W:=⟨rfl,rfl,rfl,qL _,fun _ _ _=>rfl⟩
theorem But.set {A:Nat} {W Y:World} (h:But A W Y) (i:Nat) (v:Value):But A W (Y.setCell ⟨A,i,none⟩ v):=by
 have hs:=(qB A Y).setCell (p:=⟨A,i,none⟩) (qL _) v
 exact⟨hs.os.trans h.os,hs.tape.trans h.tape,hs.output.trans h.output,Nat.le_trans h.size hs.size,fun k hk hl=>(Below.heap_setCell Y ⟨A,i,none⟩ v k (by simpa using hk)).trans (h.block k hk hl)⟩
theorem RK.but {b:Nat} {W V Y:World} (h:RK b W V) {A:Nat} (hA:W.heap.size≤A) (hb:b<A) (hbs:b<W.heap.size) (hy:But A V Y):RK b W Y :=
 ⟨hy.os.trans h.os,hy.tape.trans h.tape,hy.output.trans h.output,Nat.le_trans h.size hy.size,fun k hk=>(hy.block k (by omega) (by have:=h.size;omega)).trans (h.low k hk),fun k o hk hkb hn=>by
  have:=heap_lt hk
  exact(hy.block k (by omega) (by have:=h.size;omega)).trans (h.keep k o hk hkb hn)⟩
theorem own_keepT {W Y:World} {b:Nat} {T:TypeId} {s:Nat} {v:Value} {n:Nat} {xs:List Value} {B:Nat} (h:W.ownsRow B T s v n xs) (hT:T≠46) (hB:b<B) (hk:RK b W Y):Y.ownsRow B T s v n xs:=by
 refine⟨h.1,?_⟩
 rcases h.2 with hn | ⟨g,cap,cur,rfl,hb,hgg,rest⟩
 ·exact .inl hn
 ·exact .inr ⟨g,cap,cur,rfl,hb,hk.keep g _ hgg (by omega) (.of hT),rest⟩
theorem but_grown {W Y:World} {k:Nat} (h:W.grownBy Y (some k)):But k W Y:=⟨h.os,h.tape,h.output,h.size,fun j hj hl=>h.block j hl (by simpa using hj)⟩
theorem below_grown {W Y:World} (h:W.grownBy Y none):Below W.heap.size W Y:=⟨h.os,h.tape,h.output,h.size,fun j hj=>h.block j hj (by simp)⟩
def itC (x:It) (sv:Value):Array Value:=#[.int .i64 x.kind,.string x.name,.int .i64 x.type,.int .i64 x.e,.int .i64 x.f,sv,.string x.state,.string x.next,.int .i64 x.pos]
def itZ:Array Value:=#[.int .i64 0,.string ⟨#[]⟩,.int .i64 0,.int .i64 0,.int .i64 0,.slice none 0 0,.string ⟨#[]⟩,.string ⟨#[]⟩,.int .i64 0]
theorem rgCells {W:World} {B:Nat} {x0 x1 x2 x3 x4 x5 x6 x7 x8:Value} {T:TypeId} (h:W.heap[B]?=some (.cells #[x0,x1,x2,x3,x4,x5,x6,x7,x8] T (0,0))):(W.cell? ⟨B,0,none⟩=some x0∧W.cell? ⟨B,1,none⟩=some x1∧W.cell? ⟨B,2,none⟩=some x2∧W.cell? ⟨B,3,none⟩=some x3∧W.cell? ⟨B,4,none⟩=some x4∧W.cell? ⟨B,5,none⟩=some x5∧W.cell? ⟨B,6,none⟩=some x6∧W.cell? ⟨B,7,none⟩=some x7∧W.cell? ⟨B,8,none⟩=some x8)∧∀i,W.frozen? ⟨B,i,none⟩=false :=
 ⟨⟨by simp[World.cell?,h],by simp[World.cell?,h],by simp[World.cell?,h],by simp[World.cell?,h],by simp[World.cell?,h],by simp[World.cell?,h],by simp[World.cell?,h],by simp[World.cell?,h],by simp[World.cell?,h]⟩,fun i=>by simp[World.frozen?,h]⟩
def set9 (W:World) (A:Nat) (x0 x1 x2 x3 x4 x5 x6 x7 x8:Value):World:=((((((((W.setCell ⟨A,0,none⟩ x0).setCell ⟨A,1,none⟩ x1).setCell ⟨A,2,none⟩ x2).setCell ⟨A,3,none⟩ x3).setCell ⟨A,4,none⟩ x4).setCell ⟨A,5,none⟩ x5).setCell ⟨A,6,none⟩ x6).setCell ⟨A,7,none⟩ x7).setCell ⟨A,8,none⟩ x8
theorem set9_box {W:World} {A:Nat} {y0 y1 y2 y3 y4 y5 y6 y7 y8:Value} {T:TypeId} (h:W.heap[A]?=some (.cells #[y0,y1,y2,y3,y4,y5,y6,y7,y8] T (0,0))) (x0 x1 x2 x3 x4 x5 x6 x7 x8:Value) :
  (set9 W A x0 x1 x2 x3 x4 x5 x6 x7 x8).heap[A]?=some (.cells #[x0,x1,x2,x3,x4,x5,x6,x7,x8] T (0,0)):=by
 have h1:=set_blk h 0 x0
 have h2:=set_blk h1 1 x1
 have h3:=set_blk h2 2 x2
 have h4:=set_blk h3 3 x3
 have h5:=set_blk h4 4 x4
 have h6:=set_blk h5 5 x5
 have h7:=set_blk h6 6 x6
 have h8:=set_blk h7 7 x7
 have h9:=set_blk h8 8 x8
 unfold set9
 rw[h9]
 simp
theorem set9_but (W:World) (A:Nat) (x0 x1 x2 x3 x4 x5 x6 x7 x8:Value):But A W (set9 W A x0 x1 x2 x3 x4 x5 x6 x7 x8):=((((((((But.refl A W).set 0 _).set 1 _).set 2 _).set 3 _).set 4 _).set 5 _).set 6 _).set 7 _ |>.set 8 _
theorem Cd.but {W Y:World} {b g cap:Nat} {dv:Value} {ts:List Tok} {xb:Nat→Prop} {σ:RS} (h:Cd W b g cap dv ts xb σ) {A:Nat} {cs:Array Value} {T:TypeId} {fr:Nat×Nat} (hA:W.heap[A]?=some (.cells cs T fr)) (h1:T≠46) (h2:T≠3) (hb:b<A) (hy:But A W Y):Cd Y b g cap dv ts xb σ:=by
 have hs:=h.size
 obtain⟨o,c,hc,⟨q,q1,q2,q3⟩,h3⟩:=h.blk
 refine⟨fun k hk=>Nat.lt_of_lt_of_le (h.xlt k hk) hy.size,⟨o,c,(hy.block b (by omega) hs).trans hc,⟨q,q1,rd_own_same q2 fun k e=>hy.block k ?_ (q2.lt k e).2,fun p hp=>⟨rd_own_same (q3 p hp).1 fun k e=>hy.block k ?_ ((q3 p hp).1.lt k e).2,(q3 p hp).2⟩⟩,h3⟩,h.xnb,row_low h.row (hy.block g (by have:=h.lt;omega) (by have:=h.lt;omega)),h.lt,h.at_,h.len,h.cp,h.ends,h.tx⟩
 ·rintro rfl
  obtain⟨_,cs',hk⟩:=own_type q2 e
  rw[hA] at hk;cases hk;exact h1 rfl
 ·rintro rfl
  obtain⟨_,cs',hk⟩:=own_type (q3 p hp).1 e
  rw[hA] at hk;cases hk;exact h2 rfl
theorem Cd.grownT {W Y:World} {b g cap:Nat} {dv:Value} {ts:List Tok} {xb:Nat→Prop} {σ:RS} (h:Cd W b g cap dv ts xb σ) {B:Nat} {T:TypeId} {s:Nat} {v:Value} {n:Nat} {xs:List Value} (ho:W.ownsRow B T s v n xs) (hB:b<B) (h1:T≠46) (h2:T≠3) (hg:W.grownBy Y v.ownBlock):Cd Y b g cap dv ts xb σ:=by
 cases hk:v.ownBlock with
 | none=>rw[hk] at hg;exact h.below (below_grown hg)
 | some k =>
  rw[hk] at hg
  obtain⟨hb,cs,hc⟩:=own_type ho hk
  exact h.but hc h1 h2 (by omega) (but_grown hg)
theorem RX.but {b:Nat} {xb:Nat→Prop} {W V Y:World} (h:RX b xb W V) (hx:∀k,xb k→k<W.heap.size) {A:Nat} (hA:W.heap.size≤A) (hb:b<A) (hbs:b<W.heap.size) (hy:But A V Y):RX b xb W Y :=
 ⟨h.rk.but hA hb hbs hy,fun k hk=>(hy.block k (by have:=hx k hk;omega) (by have:=hx k hk;have:=h.size;omega)).trans (h.xs k hk)⟩
theorem four_of {W:World} {k:Nat} {a b c d:Value} {T:TypeId} (h:W.heap[k]?=some (.cells #[a,b,c,d] T (0,0))):(W.cell? ⟨k,0,none⟩=some a∧W.cell? ⟨k,1,none⟩=some b∧W.cell? ⟨k,2,none⟩=some c∧W.cell? ⟨k,3,none⟩=some d)∧∀i,W.frozen? ⟨k,i,none⟩=false :=
 ⟨⟨by simp[World.cell?,h],by simp[World.cell?,h],by simp[World.cell?,h],by simp[World.cell?,h]⟩,fun i=>by simp[World.frozen?,h]⟩
theorem set_four {W:World} {k:Nat} {a b c d:Value} {T:TypeId} (h:W.heap[k]?=some (.cells #[a,b,c,d] T (0,0))) (x0 x1 x2 x3:Value) :
  ((((W.setCell ⟨k,0,none⟩ x0).setCell ⟨k,1,none⟩ x1).setCell ⟨k,2,none⟩ x2).setCell ⟨k,3,none⟩ x3).heap[k]?=some (.cells #[x0,x1,x2,x3] T (0,0)):=by
 rw[set_blk (set_blk (set_blk (set_blk h 0 x0) 1 x1) 2 x2) 3 x3]
 simp
theorem but_four (W:World) (k:Nat) (x0 x1 x2 x3:Value):But k W ((((W.setCell ⟨k,0,none⟩ x0).setCell ⟨k,1,none⟩ x1).setCell ⟨k,2,none⟩ x2).setCell ⟨k,3,none⟩ x3):=((((But.refl k W).set 0 x0).set 1 x1).set 2 x2).set 3 x3
def wantsS (ts:List Tok) (L:List (List UInt8)) (σ:RS):RS:=L.foldl (fun x s=>wantS ts s x) σ
theorem stays_wants (ts:List Tok) (L:List (List UInt8)):∀σ:RS,Stays σ (wantsS ts L σ):=by
 induction L with
 | nil=>exact fun σ=>Stays.refl σ
 | cons s L ih=>exact fun σ=>(stays_want ts s σ).trans (ih (wantS ts s σ))
theorem wantsS_drop (ts:List Tok) (L:List (List UInt8)) (σ:RS) {j:Nat} {s:List UInt8} (h:L[j]?=some s):wantsS ts (L.take (j+1)) σ=wantS ts s (wantsS ts (L.take j) σ):=by
 unfold wantsS
 rw[List.take_add_one,h,List.foldl_append];rfl
theorem stays_rest (ts:List Tok) (L:List (List UInt8)) (σ:RS) (j:Nat):Stays (wantsS ts (L.take j) σ) (wantsS ts L σ):=by
 have e:wantsS ts L σ=wantsS ts (L.drop j) (wantsS ts (L.take j) σ):=by
  unfold wantsS
  rw[←List.foldl_append,List.take_append_drop]
 rw[e]
 exact stays_wants ts _ _
theorem noex_str {cs:Array Value}:NoEx (.cells cs 9 (0,0)):=fun cs' h=>by cases h
theorem strs_of {W:World} {k:Nat} {L:List (List UInt8)} (h:W.heap[k]?=some (.cells (L.map fun s=>Value.string (str s)).toArray 9 (0,0))):StrsIn W k L:=fun j s hj=>by
 simp[World.cell?,h,hj]
theorem wants_any (b g cap:Nat) (dv:Value) (ts:List Tok) (xb:Nat→Prop) (σ:RS) (k n:Nat) (L:List (List UInt8)) (W:World) (h:Hid (Cd W b g cap dv ts xb σ)) (hc:σ.code=0) (hL:∀s ∈ L,s ∈ sgL) (hn:n=L.length) (hn9:(n:Int)≤9) (hkb:k≠b) (hk:Hid (W.heap[k]?=some (.cells (L.map fun s=>Value.string (str s)).toArray 9 (0,0)))) :
  Calls prog 67 #[.pointer (some ⟨b,0,none⟩),.slice (some ⟨k,0,none⟩) n n] W fun r Y=>CdRet b g cap dv ts xb W (.tuple #[]) (wantsS ts L σ) r Y:=by
 have HN:=Hd hn
 have HLL:=Hd hL
 have HKB:=Hd hkb
 have HC:=Hd hc
 clear hn hL hkb hc
 go_enter Tryz.func67,Tryz.ntmps67
 go_wp2_with fail
 go_loopw [8] (fun v wr=>∃j:Nat,v=.int .i64 (j:Int)∧(j:Int)≤(n:Int)∧Hid (Cd wr b g cap dv ts xb (wantsS ts (L.take j) σ))∧Hid ((wantsS ts (L.take j) σ).code=0)∧Hid (RX b xb W wr)) (fun v _=>n-litLen v)
 case atStart=>exact⟨0,rfl,by omega,h,HC,Hd (RX.refl _ _ _)⟩
 case round =>
  obtain⟨j,rfl,hj,HR,HC',HK⟩:=hrel
  have hkw:=strs_of (HK.out.keep k _ hk.out HKB.out noex_str)
  by_cases hjn:(j:Int)<(n:Int)
  ·obtain⟨s,hs⟩:∃s,L[j]?=some s:=⟨L[j]'(by have:=HN.out;omega),List.getElem?_eq_getElem _⟩
   have cj:=hkw j s hs
   have hsg:=HLL.out s (List.mem_of_getElem? hs)
   have HW:=Hd (wantsS_drop ts L σ hs)
   have HST:=Hd (stays_rest ts L σ (j+1))
   obtain⟨x,hx⟩:∃x,x=wantsS ts (L.take j) σ:=⟨_,rfl⟩
   rw[←hx] at HR HC' HW
   have TK:=Hd (takes_any b g cap dv ts xb x s wr HR HC'.out hsg)
   clear hkw hs hsg hx
   cases hi:isS ts s x with
   | true =>
    have e:tookS ts s x=wantS ts s x:=by unfold tookS wantS;rw[hi];rfl
    have e2:(wantS ts s x).code=0:=by unfold wantS;rw[if_pos hi];exact HC'.out
    have E:=Hd (show _∧_ from⟨e,e2⟩)
    have TK2:Hid (Calls prog 62 #[.pointer (some ⟨b,0,none⟩),.string (str s)] wr fun r Y=>r=.returned (.bool true)∧Hid (Cd Y b g cap dv ts xb (wantS ts s x))∧Hid (RX b xb wr Y)):=Hd (TK.out.mono fun r Y hh=>by unfold TakesRet at hh;rw[hi,e] at hh;exact hh)
    clear e e2 hi TK
    go_wp2_with (go_at_call 62;(with_reducible refine TK2.out.mono ?_);rintro e w2 ⟨rfl,hr,hk2⟩)
    exact⟨⟨j+1,by simp,by omega,by rw[HW.out];exact hr,Hd (by rw[HW.out];exact E.out.2),Hd (HK.out.trans hk2.out)⟩,by simp[litLen];omega⟩
   | false =>
    have e:tookS ts s x=x:=by unfold tookS;rw[hi];rfl
    have e2:wantS ts s x=failS ts 2 x:=by unfold wantS;rw[hi];rfl
    have e3:failS ts 2 x={ x with code:=2,pos:=((tokL ts x.at_).at_:Int) }:=by unfold failS;rw[if_pos HC'.out]
    have E:=Hd (e2.trans e3)
    have TK2:Hid (Calls prog 62 #[.pointer (some ⟨b,0,none⟩),.string (str s)] wr fun r Y=>r=.returned (.bool false)∧Hid (Cd Y b g cap dv ts xb x)∧Hid (RX b xb wr Y)):=Hd (TK.out.mono fun r Y hh=>by unfold TakesRet at hh;rw[hi,e] at hh;exact hh)
    clear e e2 e3 hi TK
    go_wp2_with (first
     | (go_at_call 62;(with_reducible refine TK2.out.mono ?_);rintro e w2 ⟨rfl,hr,hk2⟩;have RF:=Hd (refusal_any b g cap dv ts xb x 2 w2 hr))
     | (go_at_call 60;(with_reducible refine RF.out.mono ?_);rintro e w3 ⟨rfl,hb3⟩))
    have hfin:CdRet b g cap dv ts xb W (.tuple #[]) (wantsS ts L σ) (.panicked [{ v:=refusalV 2 ((tokL ts x.at_).at_:Int),recovered:=false }]) w3:=by
     have hb:CdBad b xb W (wantS ts s x).code (wantS ts s x).pos (.panicked [{ v:=refusalV 2 ((tokL ts x.at_).at_:Int),recovered:=false }]) w3:=by
      rw[E.out];exact⟨rfl,Hd ((HK.out.trans hk2.out).trans (RX.of_below hb3 (ql hr.out.size) hr.out.xlt))⟩
     have hs:=HST.out
     rw[HW.out] at hs
     exact hb.ret (by rw[E.out];exact(by decide:(2:Int)≠0)) hs
    exact⟨rfl,hfin⟩
  ·have q:decide ((j:Int)<(n:Int))=false:=qF hjn
   have e:L.take j=L:=List.take_of_length_le (by have:=HN.out;omega)
   rw[e] at HR HC'
   go_wp2_with fail
   go_end0
   exact⟨HK.out,.inl ⟨HC'.out,rfl,HR.out⟩⟩
theorem wants_one (b g cap:Nat) (dv:Value) (ts:List Tok) (xb:Nat→Prop) (σ:RS) (s:List UInt8) (W:World) (h:Hid (Cd W b g cap dv ts xb σ)) (hc:σ.code=0) (hs:s ∈ sgL) :
  Calls prog 67 #[.pointer (some ⟨b,0,none⟩),.slice (some ⟨W.heap.size,0,none⟩) 1 1] (W.alloc (.cells #[.string (str s)] 9)) fun r Y=>CdRet b g cap dv ts xb W (.tuple #[]) (wantS ts s σ) r Y:=by
 have hb1:Below W.heap.size W (W.alloc (.cells #[.string (str s)] 9)):=(qB _ _).alloc (qL _) _
 have hbs:=h.out.size
 refine(wants_any b g cap dv ts xb σ W.heap.size 1 [s] (W.alloc (.cells #[.string (str s)] 9)) (Hd (h.out.below hb1)) hc (by simpa using hs) rfl (by decide) (by omega) (Hd (heap_alloc_new W _))).mono fun r Y hh=>?_
 exact⟨(RX.of_below hb1 (ql hbs) h.out.xlt).trans hh.1,hh.2⟩
theorem wants_two (b g cap:Nat) (dv:Value) (ts:List Tok) (xb:Nat→Prop) (σ:RS) (s t:List UInt8) (W:World) (h:Hid (Cd W b g cap dv ts xb σ)) (hc:σ.code=0) (hs:s ∈ sgL) (ht:t ∈ sgL) :
  Calls prog 67 #[.pointer (some ⟨b,0,none⟩),.slice (some ⟨W.heap.size,0,none⟩) 2 2] (W.alloc (.cells #[.string (str s),.string (str t)] 9)) fun r Y=>CdRet b g cap dv ts xb W (.tuple #[]) (wantS ts t (wantS ts s σ)) r Y:=by
 have hb1:Below W.heap.size W (W.alloc (.cells #[.string (str s),.string (str t)] 9)):=(qB _ _).alloc (qL _) _
 have hbs:=h.out.size
 refine(wants_any b g cap dv ts xb σ W.heap.size 2 [s,t] (W.alloc (.cells #[.string (str s),.string (str t)] 9)) (Hd (h.out.below hb1)) hc (fun x hx=>by rcases List.mem_cons.1 hx with rfl | hx
                                                                                           <;> first | exact hs | (obtain rfl:=List.mem_singleton.1 hx;exact ht)) rfl (by decide) (by omega) (Hd (heap_alloc_new W _))).mono fun r Y hh=>?_
 exact⟨(RX.of_below hb1 (ql hbs) h.out.xlt).trans hh.1,hh.2⟩
def WantRet (b g cap:Nat) (dv:Value) (ts:List Tok) (xb:Nat→Prop) (W:World) (σ:RS) (r:Ending) (Y:World):Prop:=CdRet b g cap dv ts xb W (tokV (tokL ts σ.at_)) (nameS ts σ) r Y
theorem want_name (b g cap:Nat) (dv:Value) (ts:List Tok) (xb:Nat→Prop) (σ:RS) (W:World) (h:Hid (Cd W b g cap dv ts xb σ)) (hc:σ.code=0) :
  Calls prog 33 #[.pointer (some ⟨b,0,none⟩),.int .i64 1] W fun r Y=>WantRet b g cap dv ts xb W σ r Y:=by
 unfold WantRet
 obtain⟨W1,hW1⟩:∃W1,W1=W.alloc (.cells #[.int .i64 0,.string ⟨#[]⟩,.int .i64 0,.int .i64 0] 43):=⟨_,rfl⟩
 have hb1:Below W.heap.size W W1:=by rw[hW1];exact(qB _ _).alloc (qL _) _
 have HW:Hid (W1.heap[W.heap.size]?=some (.cells #[.int .i64 0,.string ⟨#[]⟩,.int .i64 0,.int .i64 0] 43 (0,0))):=Hd (by rw[hW1];exact heap_alloc_new W _)
 have H1:Hid (Cd W1 b g cap dv ts xb σ):=Hd (h.out.below hb1)
 obtain⟨o,c,⟨c0,c1,c2,c3,fr⟩,hx⟩:=h.out.cells
 obtain⟨t0,t1,t2,t3⟩:=h.out.tok
 have hl:=h.out.at_
 have hgs:g<W.heap.size:=by have:=h.out.lt;have:=h.out.size;omega
 have HKW:=Hd (RX.of_below hb1 (ql h.out.size) h.out.xlt)
 obtain⟨m,hmm⟩:∃m,m=ts.length - σ.at_:=⟨_,rfl⟩
 obtain⟨a4,haa⟩:∃a4,a4=σ.at_*4:=⟨_,rfl⟩
 obtain⟨kd,hkd⟩:∃kd,kd=(tokL ts σ.at_).kind:=⟨_,rfl⟩
 rw[←hmm,←haa] at c0
 rw[←hkd,←haa] at t0
 have k0:(0:Int)<(m:Int):=by omega
 have hbs:b<W.heap.size:=h.out.size
 have HC:=Hd hc
 have HKD:=Hd hkd
 clear hmm haa t1 t2 t3 hl hx c1 c2 c3 fr hc hkd hb1
 by_cases h1:kd=1
 ·have T:=Hd (take_any b g cap dv ts xb σ W1 H1 (by rw[←HKD.out];omega))
  have HN:Hid (nameS ts σ=stepS σ):=Hd (by unfold nameS nameB;rw[qT HC.out,qT (show(tokL ts σ.at_).kind=1 by rw[←HKD.out];exact h1)];rfl)
  subst h1
  rw[HN.out]
  obtain⟨K,hK⟩:∃K,K=(tokL ts σ.at_).kind:=⟨_,rfl⟩
  obtain⟨X,hX⟩:∃X,X=str (tokL ts σ.at_).text:=⟨_,rfl⟩
  obtain⟨V,hV⟩:∃V,V=(tokL ts σ.at_).v:=⟨_,rfl⟩
  obtain⟨P,hP⟩:∃P,P=(tokL ts σ.at_).at_:=⟨_,rfl⟩
  have T2:Hid (Calls prog 61 #[.pointer (some ⟨b,0,none⟩)] W1 fun r Y=>r=.returned (.agg #[.int .i64 (K:Int),.string X,.int .i64 V,.int .i64 (P:Int)])∧Hid (Cd Y b g cap dv ts xb (stepS σ))∧Hid (RX b xb W1 Y)):=Hd (by
   have:=T.out;unfold TakeRet tokV at this;rw[←hK,←hX,←hV,←hP] at this;exact this)
  unfold tokV
  rw[←hK,←hX,←hV,←hP]
  clear hK hX hV hP T
  go_enter Tryz.func33,Tryz.ntmps33
  go_wp2_with (go_at_call 61;rw[←hW1];clear hW1;(with_reducible refine T2.out.mono ?_);rintro e w2 ⟨rfl,hr,hk⟩;have hb2:=Hd (hk.out.keep _ _ HW.out (by omega) (fun cs e=>by cases e));obtain⟨⟨b0,b1,b2,b3⟩,bf⟩:=four_of hb2.out;have z0:=bf 0;have z1:=bf 1;have z2:=bf 2;have z3:=bf 3;clear bf)
  have hbut:=but_four w2 W.heap.size (.int .i64 (K:Int)) (.string X) (.int .i64 V) (.int .i64 (P:Int))
  obtain⟨⟨r0,r1,r2,r3⟩,-⟩:=four_of (set_four hb2.out (.int .i64 (K:Int)) (.string X) (.int .i64 V) (.int .i64 (P:Int)))
  exact bodyPost_ret (v:=.agg #[.int .i64 (K:Int),.string X,.int .i64 V,.int .i64 (P:Int)]) (by simp[results,Tryz.results33,go_sem,r0,r1,r2,r3]) rfl
   ⟨(HKW.out.trans hk.out).but h.out.xlt (qL _) hbs hbs hbut,.inl ⟨HC.out,rfl,hr.out.but hb2.out (by decide) (by decide) hbs hbut⟩⟩
 ·have q1:((kd:Int) !=1)=true:=bne_iff_ne.2 (by omega)
  have e3:nameS ts σ={ σ with code:=2,pos:=((tokL ts σ.at_).at_:Int) }:=by
   unfold nameS nameB failS
   rw[qF (show ¬(tokL ts σ.at_).kind=1 by rw[←HKD.out];exact h1),Bool.and_false,if_neg (by decide),if_pos HC.out]
  have E:=Hd e3
  have RF:=Hd (refusal_any b g cap dv ts xb σ 2 W1 H1)
  clear h1 e3
  go_enter Tryz.func33,Tryz.ntmps33
  go_wp2_with (go_at_call 60;rw[←hW1];clear hW1;(with_reducible refine RF.out.mono ?_);rintro e w3 ⟨rfl,hb3⟩)
  rw[E.out]
  exact⟨rfl,HKW.out.trans (RX.of_below hb3 (ql H1.out.size) H1.out.xlt),.inr ⟨(by decide:(2:Int)≠0),rfl⟩⟩
theorem field_text (k v a:Int) (x:ByteArray) (w:World):(Instr.field 43 (.agg #[.int .i64 k,.string x,.int .i64 v,.int .i64 a]) 1).run prog w=.ok (.string x) w:=by kernel_rfl
theorem field_at (k v a:Int) (x:ByteArray) (w:World):(Instr.field 43 (.agg #[.int .i64 k,.string x,.int .i64 v,.int .i64 a]) 3).run prog w=.ok (.int .i64 a) w:=by kernel_rfl
theorem cname_any (b g cap:Nat) (dv:Value) (ts:List Tok) (xb:Nat→Prop) (σ:RS) (W:World) (h:Hid (Cd W b g cap dv ts xb σ)) (hc:σ.code=0) :
  Calls prog 63 #[.pointer (some ⟨b,0,none⟩)] W fun r Y=>CdRet b g cap dv ts xb W (.string (str (nameV ts σ))) (nameS ts σ) r Y:=by
 have C:=Hd (want_name b g cap dv ts xb σ W h hc)
 by_cases h1:(nameS ts σ).code=0
 ·have e:nameV ts σ=(tokL ts σ.at_).text:=by
   by_cases hb:nameB ts σ=true
   ·unfold nameV;rw[if_pos hb]
   ·unfold nameS failS at h1
    rw[if_neg hb,if_pos hc] at h1
    exact absurd h1 (by decide:¬(2:Int)=0)
  have C2:Hid (Calls prog 33 #[.pointer (some ⟨b,0,none⟩),.int .i64 1] W fun r Y=>CdOk b g cap dv ts xb W (tokV (tokL ts σ.at_)) (nameS ts σ) r Y):=Hd (C.out.mono fun r Y hh=>CdRet.ok hh h1)
  rw[e]
  have H1:=Hd h1
  unfold tokV at C2
  obtain⟨X,hX⟩:∃X,X=str (tokL ts σ.at_).text:=⟨_,rfl⟩
  obtain⟨K,hK⟩:∃K,K=(tokL ts σ.at_).kind:=⟨_,rfl⟩
  obtain⟨V,hV⟩:∃V,V=(tokL ts σ.at_).v:=⟨_,rfl⟩
  obtain⟨P,hP⟩:∃P,P=(tokL ts σ.at_).at_:=⟨_,rfl⟩
  rw[←hX,←hK,←hV,←hP] at C2
  rw[←hX]
  clear hX hK hV hP C e h1
  have FT:=field_text
  go_enter Tryz.func63,Tryz.ntmps63
  go_wp2_with (go_at_call 33;(with_reducible refine C2.out.mono ?_);rintro e w3 ⟨rfl,hr,hk⟩)
  go_ret
  exact⟨hk.out,.inl ⟨H1.out,rfl,hr.out⟩⟩
 ·have C2:Hid (Calls prog 33 #[.pointer (some ⟨b,0,none⟩),.int .i64 1] W fun r Y=>CdBad b xb W (nameS ts σ).code (nameS ts σ).pos r Y):=Hd (C.out.mono fun r Y hh=>CdRet.bad hh h1)
  have H1:=Hd h1
  clear C h1
  go_enter Tryz.func63,Tryz.ntmps63
  go_wp2_with (go_at_call 33;(with_reducible refine C2.out.mono ?_);rintro e w3 ⟨rfl,hk⟩)
  exact⟨rfl,hk.out,.inr ⟨H1.out,rfl⟩⟩
def Fin (W:World) (b:Nat) (dv:Value) (xb:Nat→Prop) (σ:RS):Prop:=∃s d o c,W.heap[b]?=some (.cells #[s,dv,.slice o σ.exprs.length c,.int .i64 d] 78 (0,0))∧ExsOwn W b xb (.slice o σ.exprs.length c) σ.exprs
theorem Fin.below {W Y:World} {b:Nat} {dv:Value} {xb:Nat→Prop} {σ:RS} (h:Fin W b dv xb σ) (hb:Below W.heap.size W Y):Fin Y b dv xb σ:=by
 obtain⟨s,d,o,c,h1,h2⟩:=h
 exact⟨s,d,o,c,(hb.block b (heap_lt h1)).trans h1,h2.same fun k _ hk=>hb.block k hk⟩
theorem Cd.fin {W:World} {b g cap:Nat} {dv:Value} {ts:List Tok} {xb:Nat→Prop} {σ:RS} (h:Cd W b g cap dv ts xb σ) (v:Value):Fin (W.setCell ⟨b,0,none⟩ v) b dv xb σ:=by
 obtain⟨o,c,h1,h2,h3⟩:=h.blk
 exact⟨v,σ.deep,o,c,by rw[set_blk h1];rfl,h2.same fun k hk _=>Below.heap_setCell W ⟨b,0,none⟩ v k (by simp;omega)⟩
theorem take_end (b g cap:Nat) (dv:Value) (ts:List Tok) (xb:Nat→Prop) (σ:RS) (W:World) (h:Hid (Cd W b g cap dv ts xb σ)) (hk:(tokL ts σ.at_).kind=5) :
  Calls prog 61 #[.pointer (some ⟨b,0,none⟩)] W fun r Y=>r=.returned (tokV (tokL ts σ.at_))∧Hid (Fin Y b dv xb σ)∧Hid (RX b xb W Y):=by
 obtain⟨o,c,⟨c0,c1,c2,c3,fr⟩,hx⟩:=h.out.cells
 obtain⟨t0,t1,t2,t3⟩:=h.out.tok
 have hl:=h.out.at_
 have hcp:=h.out.cp
 have hnx:σ.at_+1=ts.length:=(h.out.ends.2 σ.at_ (tokL ts σ.at_) (by unfold tokL;rw[List.getD_eq_getElem?_getD,List.getElem?_eq_getElem h.out.at_];rfl)).2 hk
 have f0:=fr 0
 unfold tokV
 obtain⟨kd,hkd⟩:∃kd,kd=(tokL ts σ.at_).kind:=⟨_,rfl⟩
 obtain⟨tx,htx⟩:∃tx,tx=(tokL ts σ.at_).text:=⟨_,rfl⟩
 obtain⟨tv,htv⟩:∃tv,tv=(tokL ts σ.at_).v:=⟨_,rfl⟩
 obtain⟨p,hp⟩:∃p,p=(tokL ts σ.at_).at_:=⟨_,rfl⟩
 rw[←hkd] at t0
 rw[←htx] at t1
 rw[←htv] at t2
 rw[←hp] at t3
 rw[←hkd,←htx,←htv,←hp]
 obtain⟨m,hmm⟩:∃m,m=cap - σ.at_:=⟨_,rfl⟩
 obtain⟨a4,haa⟩:∃a4,a4=σ.at_*4:=⟨_,rfl⟩
 rw[show ts.length - σ.at_=1 by omega,←hmm,←haa] at c0
 rw[←haa] at t0 t1 t2 t3
 have k2:(1:Int)≤(m:Int):=by omega
 have hgs:g<W.heap.size:=by have:=h.out.lt;have:=h.out.size;omega
 have hbs:b<W.heap.size:=h.out.size
 clear hmm haa hp hkd htx htv hl hx c1 c2 c3 fr hcp hnx hk
 by_cases k3:m=1
 ·subst k3;go_enter Tryz.func61,Tryz.ntmps61
  go_wp2_with fail
  obtain⟨W1,hW1⟩:∃W1,W1=W.setCell ⟨b,0,none⟩ (.slice (some ⟨g,a4,none⟩) 0 0):=⟨_,rfl⟩
  have HC:Hid (Fin W1 b dv xb σ):=Hd (by rw[hW1];exact h.out.fin _)
  have HR:Hid (RX b xb W W1):=Hd (by rw[hW1];exact RX.set h.out.xnb 0 _)
  have hs:W.heap.size=W1.heap.size:=by rw[hW1];simp
  have HX:=Hd (show ∀k,xb k→k<W1.heap.size from fun k hk=>by rw[←hs];exact h.out.xlt k hk)
  rw[←hW1]
  have HB:=Hd (((qB W1.heap.size W1).alloc (qL _) (.cells #[.int .i64 (kd:Int),.string (str tx),.int .i64 tv,.int .i64 (p:Int)] 43)).alloc (by simp) (.cells #[.int .i64 (kd:Int),.string (str tx),.int .i64 tv,.int .i64 (p:Int)] 43))
  have hb1:b≤W1.heap.size:=by omega
  clear hW1
  rw[hs]
  obtain⟨⟨r0,r1,r2,r3⟩,-⟩:=box_four W1 (.int .i64 (kd:Int)) (.string (str tx)) (.int .i64 tv) (.int .i64 (p:Int)) 43 (.cells #[.int .i64 (kd:Int),.string (str tx),.int .i64 tv,.int .i64 (p:Int)] 43)
  exact bodyPost_ret (v:=.agg #[.int .i64 (kd:Int),.string (str tx),.int .i64 tv,.int .i64 (p:Int)]) (by simp[results,Tryz.results61,go_sem,r0,r1,r2,r3]) rfl ⟨rfl,Hd (HC.out.below HB.out),Hd (HR.out.trans (RX.of_below HB.out hb1 HX.out))⟩
 ·go_enter Tryz.func61,Tryz.ntmps61
  go_wp2_with fail
  obtain⟨W1,hW1⟩:∃W1,W1=W.setCell ⟨b,0,none⟩ (.slice (some ⟨g,a4+4,none⟩) 0 (m-1)):=⟨_,rfl⟩
  have HC:Hid (Fin W1 b dv xb σ):=Hd (by rw[hW1];exact h.out.fin _)
  have HR:Hid (RX b xb W W1):=Hd (by rw[hW1];exact RX.set h.out.xnb 0 _)
  have hs:W.heap.size=W1.heap.size:=by rw[hW1];simp
  have HX:=Hd (show ∀k,xb k→k<W1.heap.size from fun k hk=>by rw[←hs];exact h.out.xlt k hk)
  rw[←hW1]
  have HB:=Hd (((qB W1.heap.size W1).alloc (qL _) (.cells #[.int .i64 (kd:Int),.string (str tx),.int .i64 tv,.int .i64 (p:Int)] 43)).alloc (by simp) (.cells #[.int .i64 (kd:Int),.string (str tx),.int .i64 tv,.int .i64 (p:Int)] 43))
  have hb1:b≤W1.heap.size:=by omega
  clear hW1
  rw[hs]
  obtain⟨⟨r0,r1,r2,r3⟩,-⟩:=box_four W1 (.int .i64 (kd:Int)) (.string (str tx)) (.int .i64 tv) (.int .i64 (p:Int)) 43 (.cells #[.int .i64 (kd:Int),.string (str tx),.int .i64 tv,.int .i64 (p:Int)] 43)
  exact bodyPost_ret (v:=.agg #[.int .i64 (kd:Int),.string (str tx),.int .i64 tv,.int .i64 (p:Int)]) (by simp[results,Tryz.results61,go_sem,r0,r1,r2,r3]) rfl ⟨rfl,Hd (HC.out.below HB.out),Hd (HR.out.trans (RX.of_below HB.out hb1 HX.out))⟩
theorem Fin.but {W Y:World} {b:Nat} {dv:Value} {xb:Nat→Prop} {σ:RS} (h:Fin W b dv xb σ) {A:Nat} {cs:Array Value} {T:TypeId} {fr:Nat×Nat} (hA:W.heap[A]?=some (.cells cs T fr)) (h1:T≠46) (h2:T≠3) (hb:b<A) (hy:But A W Y):Fin Y b dv xb σ:=by
 obtain⟨s,d,o,c,hc,q,q1,q2,q3⟩:=h
 refine⟨s,d,o,c,(hy.block b (by omega) (heap_lt hc)).trans hc,q,q1,rd_own_same q2 fun k e=>hy.block k ?_ (q2.lt k e).2,fun p hp=>⟨rd_own_same (q3 p hp).1 fun k e=>hy.block k ?_ ((q3 p hp).1.lt k e).2,(q3 p hp).2⟩⟩
 ·rintro rfl
  obtain⟨_,cs',hk⟩:=own_type q2 e
  rw[hA] at hk;cases hk;exact h1 rfl
 ·rintro rfl
  obtain⟨_,cs',hk⟩:=own_type (q3 p hp).1 e
  rw[hA] at hk;cases hk;exact h2 rfl
def EndRet (b:Nat) (dv:Value) (ts:List Tok) (xb:Nat→Prop) (W:World) (σ:RS) (r:Ending) (Y:World):Prop :=
 RX b xb W Y∧(((tokL ts σ.at_).kind=5∧r=.returned (tokV (tokL ts σ.at_))∧Fin Y b dv xb σ)∨(¬(tokL ts σ.at_).kind=5∧r=.panicked [{ v:=refusalV 2 ((tokL ts σ.at_).at_:Int),recovered:=false }]))
theorem want_end (b g cap:Nat) (dv:Value) (ts:List Tok) (xb:Nat→Prop) (σ:RS) (W:World) (h:Hid (Cd W b g cap dv ts xb σ)) (hc:σ.code=0) :
  Calls prog 33 #[.pointer (some ⟨b,0,none⟩),.int .i64 5] W fun r Y=>EndRet b dv ts xb W σ r Y:=by
 unfold EndRet
 obtain⟨W1,hW1⟩:∃W1,W1=W.alloc (.cells #[.int .i64 0,.string ⟨#[]⟩,.int .i64 0,.int .i64 0] 43):=⟨_,rfl⟩
 have hb1:Below W.heap.size W W1:=by rw[hW1];exact(qB _ _).alloc (qL _) _
 have HW:Hid (W1.heap[W.heap.size]?=some (.cells #[.int .i64 0,.string ⟨#[]⟩,.int .i64 0,.int .i64 0] 43 (0,0))):=Hd (by rw[hW1];exact heap_alloc_new W _)
 have H1:Hid (Cd W1 b g cap dv ts xb σ):=Hd (h.out.below hb1)
 obtain⟨o,c,⟨c0,c1,c2,c3,fr⟩,hx⟩:=h.out.cells
 obtain⟨t0,t1,t2,t3⟩:=h.out.tok
 have hl:=h.out.at_
 have hgs:g<W.heap.size:=by have:=h.out.lt;have:=h.out.size;omega
 have HKW:=Hd (RX.of_below hb1 (ql h.out.size) h.out.xlt)
 obtain⟨m,hmm⟩:∃m,m=ts.length - σ.at_:=⟨_,rfl⟩
 obtain⟨a4,haa⟩:∃a4,a4=σ.at_*4:=⟨_,rfl⟩
 obtain⟨kd,hkd⟩:∃kd,kd=(tokL ts σ.at_).kind:=⟨_,rfl⟩
 rw[←hmm,←haa] at c0
 rw[←hkd,←haa] at t0
 have k0:(0:Int)<(m:Int):=by omega
 have hbs:b<W.heap.size:=h.out.size
 have HC:=Hd hc
 have HKD:=Hd hkd
 clear hmm haa t1 t2 t3 hl hx c1 c2 c3 fr hc hkd hb1
 by_cases h1:kd=5
 ·have T:=Hd (take_end b g cap dv ts xb σ W1 H1 (by rw[←HKD.out];exact h1))
  have HE:Hid ((tokL ts σ.at_).kind=5):=Hd (HKD.out.symm.trans h1)
  subst h1
  obtain⟨K,hK⟩:∃K,K=(tokL ts σ.at_).kind:=⟨_,rfl⟩
  obtain⟨X,hX⟩:∃X,X=str (tokL ts σ.at_).text:=⟨_,rfl⟩
  obtain⟨V,hV⟩:∃V,V=(tokL ts σ.at_).v:=⟨_,rfl⟩
  obtain⟨P,hP⟩:∃P,P=(tokL ts σ.at_).at_:=⟨_,rfl⟩
  have T2:Hid (Calls prog 61 #[.pointer (some ⟨b,0,none⟩)] W1 fun r Y=>r=.returned (.agg #[.int .i64 (K:Int),.string X,.int .i64 V,.int .i64 (P:Int)])∧Hid (Fin Y b dv xb σ)∧Hid (RX b xb W1 Y)):=Hd (by
   have:=T.out;unfold tokV at this;rw[←hK,←hX,←hV,←hP] at this;exact this)
  unfold tokV
  rw[←hK,←hX,←hV,←hP]
  have HE:=Hd (hK.trans HE.out)
  clear hK hX hV hP T
  go_enter Tryz.func33,Tryz.ntmps33
  go_wp2_with (go_at_call 61;rw[←hW1];clear hW1;(with_reducible refine T2.out.mono ?_);rintro e w2 ⟨rfl,hr,hk⟩;have hb2:=Hd (hk.out.keep _ _ HW.out (by omega) (fun cs e=>by cases e));obtain⟨⟨b0,b1,b2,b3⟩,bf⟩:=four_of hb2.out;have z0:=bf 0;have z1:=bf 1;have z2:=bf 2;have z3:=bf 3;clear bf)
  have hbut:=but_four w2 W.heap.size (.int .i64 (K:Int)) (.string X) (.int .i64 V) (.int .i64 (P:Int))
  obtain⟨⟨r0,r1,r2,r3⟩,-⟩:=four_of (set_four hb2.out (.int .i64 (K:Int)) (.string X) (.int .i64 V) (.int .i64 (P:Int)))
  exact bodyPost_ret (v:=.agg #[.int .i64 (K:Int),.string X,.int .i64 V,.int .i64 (P:Int)]) (by simp[results,Tryz.results33,go_sem,r0,r1,r2,r3]) rfl
   ⟨(HKW.out.trans hk.out).but h.out.xlt (qL _) hbs hbs hbut,.inl ⟨HE.out,rfl,hr.out.but hb2.out (by decide) (by decide) hbs hbut⟩⟩
 ·have q1:((kd:Int) !=5)=true:=bne_iff_ne.2 (by omega)
  have HE:Hid (¬(tokL ts σ.at_).kind=5):=Hd (fun e=>h1 (HKD.out.trans e))
  have RF:=Hd (refusal_any b g cap dv ts xb σ 2 W1 H1)
  clear h1
  go_enter Tryz.func33,Tryz.ntmps33
  go_wp2_with (go_at_call 60;rw[←hW1];clear hW1;(with_reducible refine RF.out.mono ?_);rintro e w3 ⟨rfl,hb3⟩)
  exact⟨rfl,HKW.out.trans (RX.of_below hb3 (ql H1.out.size) H1.out.xlt),.inr ⟨HE.out,rfl⟩⟩
theorem But.below {A:Nat} {W X Y:World} (h:But A W X) (hb:Below X.heap.size X Y):But A W Y :=
 ⟨hb.os.trans h.os,hb.tape.trans h.tape,hb.output.trans h.output,Nat.le_trans h.size hb.size,fun k hk hl=>(hb.block k (Nat.lt_of_lt_of_le hl h.size)).trans (h.block k hk hl)⟩
theorem catch_panicking (q:Nat) (c p:Int) (u0 v0:Value) (w:World) (hc:w.heap[q]?=some (.cells #[u0,v0] 29 (0,0))) :
  CallsD prog 32 #[.pointer (some ⟨q,0,none⟩)] (.panicking [{ v:=refusalV c p,recovered:=false }]) w fun e u' w' =>
   e=.returned (.tuple #[])∧u'=.panicking [{ v:=refusalV c p,recovered:=true }]∧w'.heap[q]?=some (.cells #[.int .i64 c,.int .i64 p] 29 (0,0))∧But q w w':=by
 have hqs:q<w.heap.size:=heap_lt hc
 have d0:w.cell? ⟨q,0,none⟩=some u0:=by simp[World.cell?,hc]
 have d1:w.cell? ⟨q,1,none⟩=some v0:=by simp[World.cell?,hc]
 have z0:w.frozen? ⟨q,0,none⟩=false:=by simp[World.frozen?,hc]
 have z1:w.frozen? ⟨q,1,none⟩=false:=by simp[World.frozen?,hc]
 unfold refusalV
 refine callsD_of_wpS Tryz.func32 rfl fun c₀ cs hu=>?_
 apply wpS_seq
 apply wpS_region
 simp[wpOpsS,go_sem,recoverD,hu,Tryz.ntmps32,Exit.thenS]
 have TA:∀w:World,(Instr.typeAssert (.iface 75 (.agg #[.int .i64 c,.int .i64 p])) 20 75 true).run prog w=.ok (.tuple #[.agg #[.int .i64 c,.int .i64 p],.bool true]) w:=fun w=>by kernel_rfl
 refine wpS_of_wp ?_
 rw[show(#[.pointer (some ⟨q,0,none⟩)]++(((Array.replicate 14 undef).setIfInBounds 3 (.iface 75 (.agg #[.int .i64 c,.int .i64 p]))).setIfInBounds 0 (.iface 75 (.agg #[.int .i64 c,.int .i64 p]))):Array Value)=#[.pointer (some ⟨q,0,none⟩),(.iface 75 (.agg #[.int .i64 c,.int .i64 p])),undef,undef,(.iface 75 (.agg #[.int .i64 c,.int .i64 p])),undef,undef,undef,undef,undef,undef,undef,undef,undef,undef] from rfl]
 go_wp2_with fail
 obtain⟨w9,hw9⟩:∃w9,w9=((w.setCell ⟨q,0,none⟩ (.int .i64 c)).setCell ⟨q,1,none⟩ (.int .i64 p)).alloc (.cells #[.int .i64 c,.int .i64 p] 75):=⟨_,rfl⟩
 have e1:w9.heap[q]?=some (.cells #[.int .i64 c,.int .i64 p] 29 (0,0)):=by
  rw[hw9,((qB _ _).alloc (qL _) _:Below ((w.setCell ⟨q,0,none⟩ (.int .i64 c)).setCell ⟨q,1,none⟩ (.int .i64 p)).heap.size _ _).block q (by simp;omega),set_blk (set_blk hc 0 (.int .i64 c)) 1 (.int .i64 p)]
  rfl
 have e2:But q w w9:=by
  rw[hw9]
  exact(((But.refl q w).set 0 (.int .i64 c)).set 1 (.int .i64 p)).below ((qB _ _).alloc (qL _) _)
 rw[←hw9]
 simp[bodyPostS,results,Tryz.results32]
 exact⟨e1,e2⟩
theorem catch_idle (q:Nat) (w:World) :
  CallsD prog 32 #[.pointer (some ⟨q,0,none⟩)] .returning w fun e u' w'=>e=.returned (.tuple #[])∧u'=.returning∧Below w.heap.size w w':=by
 refine callsD_of_wpS Tryz.func32 rfl fun c₀ cs hu=>?_
 apply wpS_seq
 apply wpS_region
 simp[wpOpsS,go_sem,recoverD,hu,Tryz.ntmps32,Exit.thenS]
 have TA:∀w:World,(Instr.typeAssert .nilIface 20 75 true).run prog w=.ok (.tuple #[.agg #[.int .i64 0,.int .i64 0],.bool false]) w:=fun w=>by kernel_rfl
 refine wpS_of_wp ?_
 rw[show(#[.pointer (some ⟨q,0,none⟩)]++(((Array.replicate 14 undef).setIfInBounds 3 .nilIface).setIfInBounds 0 .nilIface):Array Value)=#[.pointer (some ⟨q,0,none⟩),.nilIface,undef,undef,.nilIface,undef,undef,undef,undef,undef,undef,undef,undef,undef,undef] from rfl]
 go_wp2_with fail
 have e1:Below w.heap.size w (w.alloc (.cells #[.int .i64 0,.int .i64 0] 75)):=(qB _ _).alloc (qL _) _
 cases c₀
 simp_all[bodyPostS,results,Tryz.results32]
end Go.Proofs.YtpfmlfcaadnnpaaGreatDoor
namespace Go.Proofs.YtpfmlfcaadnnpaaGreatDoor
open Lx
def FLe (F F':Job→RS→Ans):Prop:=∀j σ r,F j σ=some r→F' j σ=some r
theorem bind_le {α β:Type} {o o':Option α} {k k':α→Option β} {R:β} (h:o.bind k=some R) (ho:∀x,o=some x→o'=some x) (hk:∀x r,k x=some r→k' x=some r):o'.bind k'=some R:=by
 obtain⟨x,h1,h2⟩:=Option.bind_eq_some_iff.1 h
 rw[ho x h1]
 exact hk x R h2
theorem putA_le {x:Ex} {σ:RS} {K K':Int→RS→Ans} {r:Int×List Int×RS} (h:putA x σ K=some r) (hk:∀n y r,K n y=some r→K' n y=some r):putA x σ K'=some r:=by
 unfold putA at h ⊢
 split at h
 ·rename_i ho;rw[if_pos ho];exact hk _ _ _ h
 ·cases h
theorem atomG_le {ts:List Tok} {F F':Job→RS→Ans} (hF:FLe F F') {σ:RS} {r:Int×List Int×RS} (h:atomG ts F σ=some r):atomG ts F' σ=some r:=by
 unfold atomG at h ⊢
 dsimp only at h ⊢
 split at h
 ·rename_i h1;rw[if_pos h1];exact h
 rename_i h1;rw[if_neg h1]
 split at h
 ·rename_i h2;rw[if_pos h2];exact h
 rename_i h2;rw[if_neg h2]
 split at h
 ·rename_i h3;rw[if_pos h3];exact h
 rename_i h3;rw[if_neg h3]
 split at h
 ·rename_i h4;rw[if_pos h4]
  split at h
  ·rename_i h5;rw[if_pos h5];exact h
  rename_i h5;rw[if_neg h5]
  split at h
  ·rename_i h6;rw[if_pos h6]
   split at h
   ·rename_i h7;rw[if_pos h7];exact h
   rename_i h7;rw[if_neg h7]
   exact bind_le h (fun x hx=>hF _ _ _ hx) fun x r h=>bind_le h (fun x hx=>hF _ _ _ hx) fun _ _ h=>h
  ·rename_i h6;rw[if_neg h6];exact h
 ·rename_i h4;rw[if_neg h4]
  exact bind_le h (fun x hx=>hF _ _ _ hx) fun _ _ h=>h
theorem preG_le {ts:List Tok} {F F':Job→RS→Ans} (hF:FLe F F') {σ:RS} {r:Int×List Int×RS} (h:preG ts F σ=some r):preG ts F' σ=some r:=by
 unfold preG at h ⊢
 dsimp only at h ⊢
 split at h
 ·rename_i h1;rw[if_pos h1]
  split at h
  ·rename_i h2;rw[if_pos h2];exact bind_le h (fun x hx=>hF _ _ _ hx) fun _ _ h=>h
  ·rename_i h2;rw[if_neg h2];exact bind_le h (fun x hx=>hF _ _ _ hx) fun _ _ h=>h
 ·rename_i h1;rw[if_neg h1];exact h
theorem exprG_le {ts:List Tok} {F F':Job→RS→Ans} (hF:FLe F F') {σ:RS} {r:Int×List Int×RS} (h:exprG ts F σ=some r):exprG ts F' σ=some r:=by
 unfold exprG at h ⊢
 dsimp only at h ⊢
 split at h
 ·rename_i h1;rw[if_pos h1]
  split at h
  ·rename_i h2;rw[if_pos h2]
   exact bind_le h (fun x hx=>hF _ _ _ hx) fun _ _ h=>bind_le h (fun x hx=>hF _ _ _ hx) fun _ _ h=>bind_le h (fun x hx=>hF _ _ _ hx) fun _ _ h=>h
  ·rename_i h2;rw[if_neg h2]
   refine bind_le h (fun x hx=>hF _ _ _ hx) fun o r h=>?_
   split at h
   ·rename_i h3;rw[if_pos h3];exact bind_le h (fun x hx=>hF _ _ _ hx) fun _ _ h=>h
   ·rename_i h3;rw[if_neg h3]
    split at h
    ·rename_i h4;rw[if_pos h4];exact bind_le h (fun x hx=>hF _ _ _ hx) fun _ _ h=>h
    ·rename_i h4;rw[if_neg h4];exact h
 ·rename_i h1;rw[if_neg h1];exact h
theorem binG_le {F F':Job→RS→Ans} (hF:FLe F F') {least:Nat} {σ:RS} {r:Int×List Int×RS} (h:binG F least σ=some r):binG F' least σ=some r:=by
 unfold binG at h ⊢
 split at h
 ·rename_i h1;rw[if_pos h1];exact hF _ _ _ h
 ·rename_i h1;rw[if_neg h1];exact bind_le h (fun x hx=>hF _ _ _ hx) fun _ _ h=>hF _ _ _ h
theorem loopG_le {ts:List Tok} {F F':Job→RS→Ans} (hF:FLe F F') {least:Nat} {a:Int} {σ:RS} {r:Int×List Int×RS} (h:loopG ts F least a σ=some r):loopG ts F' least a σ=some r:=by
 unfold loopG at h ⊢
 split at h
 ·rename_i h1;rw[if_pos h1]
  split at h
  ·rename_i h2;rw[if_pos h2]
   refine bind_le h (fun x hx=>hF _ _ _ hx) fun b r h=>putA_le h fun n y r h=>?_
   split at h
   ·rename_i h3;rw[if_pos h3];exact h
   ·rename_i h3;rw[if_neg h3];exact hF _ _ _ h
  ·rename_i h2;rw[if_neg h2];exact h
 ·rename_i h1;rw[if_neg h1];exact h
theorem argsG_le {ts:List Tok} {F F':Job→RS→Ans} (hF:FLe F F') {acc:List Int} {σ:RS} {r:Int×List Int×RS} (h:argsG ts F acc σ=some r):argsG ts F' acc σ=some r:=by
 unfold argsG at h ⊢
 split at h
 ·rename_i h1;rw[if_pos h1]
  split at h
  ·rename_i h2;rw[if_pos h2];exact bind_le h (fun x hx=>hF _ _ _ hx) fun _ _ h=>hF _ _ _ h
  ·rename_i h2;rw[if_neg h2];exact h
 ·cases h
theorem runE_succ (ts:List Tok):∀f,FLe (runE ts f) (runE ts (f+1)):=by
 intro f
 induction f with
 | zero=>intro j σ r h;cases h
 | succ f ih =>
  intro j σ r h
  unfold runE at h ⊢
  split at h
  ·rename_i ho
   rw[if_pos ho]
   cases j with
   | expr=>exact exprG_le ih h
   | pre=>exact preG_le ih h
   | atom=>exact atomG_le ih h
   | bin least=>exact binG_le ih h
   | loop least a=>exact loopG_le ih h
   | args acc=>exact argsG_le ih h
  ·cases h
theorem runE_le {ts:List Tok} {f f':Nat} (h:f≤f'):FLe (runE ts f) (runE ts f'):=by
 induction h with
 | refl=>exact fun _ _ _ h=>h
 | step _ ih=>exact fun j σ r h=>runE_succ ts _ j σ r (ih j σ r h)
def TokOk (ts:List Tok):Prop:=∀(i:Nat) (t:Tok),ts[i]?=some t→(t.kind=1→t.text≠[])∧(t.kind=2→0≤t.v∧t.v≤9223372036854775807)∧t.text.length≤20000
def GoodX (x:Ex) (i:Nat):Prop:=mayE x i=true∧ExOk x
def AllGood (l:List Ex):Prop:=∀i x,l[i]?=some x→GoodX x i
structure Go (ts:List Tok) (k:Nat) (σ τ:RS):Prop where
 at_:σ.at_≤τ.at_
 lt:τ.at_<ts.length
 room:τ.exprs.length+σ.at_+k≤σ.exprs.length+τ.at_
 bad:σ.code≠0→τ.code≠0
 more:σ.exprs.length≤τ.exprs.length
 good:τ.code=0→AllGood σ.exprs→AllGood τ.exprs
theorem Go.refl {ts:List Tok} {σ:RS} (h:σ.at_<ts.length):Go ts 0 σ σ:=⟨qL _,h,by omega,id,qL _,fun _ h=>h⟩
theorem Go.trans {ts:List Tok} {k m:Nat} {σ τ υ:RS} (h:Go ts k σ τ) (g:Go ts m τ υ):Go ts (k+m) σ υ :=
 ⟨Nat.le_trans h.at_ g.at_,g.lt,by have:=h.room;have:=g.room;omega,fun h0=>g.bad (h.bad h0),Nat.le_trans h.more g.more,fun h0 ha=>g.good h0 (h.good (by
  by_cases hc:τ.code=0
  ·exact hc
  ·exact absurd h0 (g.bad hc)) ha)⟩
theorem Go.code {ts:List Tok} {k:Nat} {σ τ:RS} (h:Go ts k σ τ) (h0:τ.code=0):σ.code=0:=by
 by_cases hc:σ.code=0
 ·exact hc
 ·exact absurd h0 (h.bad hc)
theorem Go.less {ts:List Tok} {k m:Nat} {σ τ:RS} (h:Go ts k σ τ) (hm:m≤k):Go ts m σ τ:=⟨h.at_,h.lt,by have:=h.room;omega,h.bad,h.more,h.good⟩
theorem go_step' {ts:List Tok} (he:EndOk ts) {σ:RS} (h:σ.at_<ts.length) (hk:(tokL ts σ.at_).kind≠5):Go ts 1 σ (stepS σ):=⟨by unfold stepS;simp,he.next h hk,by unfold stepS;simp;omega,id,qL _,fun _ h=>h⟩
theorem go_fail {ts:List Tok} {σ:RS} (h:σ.at_<ts.length) (e:Int) (h0:e≠0):Go ts 0 σ (failS ts e σ):=by
 unfold failS
 split
 ·exact⟨qL _,h,by simp,fun _=>h0,qL _,fun h1=>absurd h1 h0⟩
 ·exact Go.refl h
theorem go_want {ts:List Tok} (he:EndOk ts) {σ:RS} (h:σ.at_<ts.length) (s:List UInt8):Go ts 0 σ (wantS ts s σ):=by
 unfold wantS
 split
 ·rename_i hi;exact(go_step' he h (isS_kind hi).1).less (Nat.zero_le _)
 ·exact go_fail h 2 (by decide)
theorem go_name {ts:List Tok} (he:EndOk ts) {σ:RS} (h:σ.at_<ts.length):Go ts 0 σ (nameS ts σ):=by
 unfold nameS
 split
 ·rename_i hi
  unfold nameB at hi
  simp only[Bool.and_eq_true,decide_eq_true_eq] at hi
  exact(go_step' he h (by omega)).less (Nat.zero_le _)
 ·exact go_fail h 2 (by decide)
theorem go_enter' {ts:List Tok} {σ:RS} (h:σ.at_<ts.length):Go ts 0 σ (enterS ts σ)∧(enterS ts σ).deep=σ.deep+1∧(enterS ts σ).at_=σ.at_∧(enterS ts σ).exprs=σ.exprs∧((enterS ts σ).code=0→σ.deep≠30):=by
 unfold enterS
 by_cases ht:tooDeep σ=true
 ·rw[if_pos ht]
  unfold tooDeep at ht
  simp only[Bool.and_eq_true,decide_eq_true_eq] at ht
  unfold failS
  rw[if_pos ht.1]
  exact⟨⟨qL _,h,by simp,fun _=>(by decide:(3:Int)≠0),qL _,fun h1=>by cases h1⟩,rfl,rfl,rfl,fun h1=>by cases h1⟩
 ·rw[if_neg ht]
  refine⟨⟨qL _,h,by simp,id,qL _,fun _ h=>h⟩,rfl,rfl,rfl,fun h1 h2=>ht ?_⟩
  unfold tooDeep
  simp only[Bool.and_eq_true,decide_eq_true_eq]
  exact⟨h1,h2⟩
theorem want_deep (ts:List Tok) (s:List UInt8) (σ:RS):(wantS ts s σ).deep=σ.deep:=by unfold wantS failS stepS;(repeat' split) <;> rfl
theorem name_deep (ts:List Tok) (σ:RS):(nameS ts σ).deep=σ.deep:=by unfold nameS failS stepS;(repeat' split) <;> rfl
theorem want_exprs (ts:List Tok) (s:List UInt8) (σ:RS):(wantS ts s σ).exprs=σ.exprs:=by unfold wantS failS stepS;(repeat' split) <;> rfl
theorem go_leave {ts:List Tok} {σ:RS} (h:σ.at_<ts.length):Go ts 0 σ (leaveS σ):=⟨qL _,h,by unfold leaveS;simp,id,qL _,fun _ h=>h⟩
theorem Go.put {ts:List Tok} {k:Nat} {σ τ:RS} (h:Go ts (k+1) σ τ) {x:Ex} (hx:τ.code=0→AllGood σ.exprs→GoodX x τ.exprs.length):Go ts k σ (putS x τ):=by
 refine⟨h.at_,h.lt,by have:=h.room;unfold putS;simp;omega,h.bad,by unfold putS;have:=h.more;simp;omega,fun h0 ha i y hy=>?_⟩
 unfold putS at hy
 dsimp only at hy
 rcases Nat.lt_or_ge i τ.exprs.length with hi | hi
 ·rw[List.getElem?_append_left hi] at hy
  exact h.good h0 ha i y hy
 ·rw[List.getElem?_append_right hi] at hy
  have:i=τ.exprs.length:=by
   by_cases he:i - τ.exprs.length=0
   ·omega
   ·rw[List.getElem?_eq_none (by simp;omega)] at hy;cases hy
  subst this
  simp at hy
  subst hy
  exact hx h0 ha
structure St (ts:List Tok) (σ:RS):Prop where
 lt:σ.at_<ts.length
 room:σ.exprs.length≤σ.at_
 d0:0≤σ.deep
 d30:σ.deep≤30
 len:ts.length≤30000
theorem St.ok {ts:List Tok} {σ:RS} (h:St ts σ):okS σ=true:=by
 unfold okS
 have:=h.room;have:=h.lt;have:=h.len;have:=h.d0;have:=h.d30
 simp only[Bool.and_eq_true,decide_eq_true_eq]
 omega
theorem St.go {ts:List Tok} {k:Nat} {σ τ:RS} (h:St ts σ) (g:Go ts k σ τ) (hd0:0≤τ.deep) (hd:τ.deep≤30):St ts τ:=⟨g.lt,by have:=g.room;have:=h.room;omega,hd0,hd,h.len⟩
def IxOk (τ:RS) (v:Int):Prop:=τ.code=0→0≤v∧v<(τ.exprs.length:Int)
theorem IxOk.go {ts:List Tok} {k:Nat} {σ τ:RS} {v:Int} (h:IxOk σ v) (g:Go ts k σ τ):IxOk τ v:=fun h0=>by
 have:=h (g.code h0)
 have:=g.more
 omega
theorem putA_ok {x:Ex} {σ:RS} {K:Int→RS→Ans} (h:okS σ=true):putA x σ K=K (σ.exprs.length:Int) (putS x σ):=by unfold putA;rw[if_pos h]
end Go.Proofs.YtpfmlfcaadnnpaaGreatDoor
namespace Go.Proofs.YtpfmlfcaadnnpaaGreatDoor
open Go.RowKit Lx

end Go.Proofs.YtpfmlfcaadnnpaaGreatDoor
