import Derived.Test.YtdlmfeflinbbjaaGreatNmJK
import Derived.RangeFuncNested
import Derived.Test.YtdlmfeflinbbjaaGreatPost
import Derived.Test.YtdlmfeflinbbjaaGreatAstGreat
import Derived.Maps.OwnIn
import Derived.Maps.OwnSet
import Derived.DeepKeys4
import Derived.Test.YtdlmfeflinbbjaaGreatAstMayAny
import Derived.Maps.AppendAt
import Derived.WideMake
namespace Go.Proofs.YtdlmfeflinbbjaaGreat
open Go.Lib (hid)
section
open Go.RowKit Go.Shelf
def AbidesE {β:Type} (rw:World→Option Nat) (E:Nat→Prop) (B:Nat) (J:β→World→Prop):Prop :=
  ∀ s X Y row,J s X→X.grownBy Y row→(∀ r,row = some r→(B≤r∨E r)∧∃ o:Obj,X.heap[r]? = some o∧(o.isCells = false∨rw X≠some r))→J s Y
theorem AbidesE.alloc {β:Type} {rw:World→Option Nat} {E:Nat→Prop} {B:Nat} {J:β→World→Prop} (h:AbidesE rw E B J) {s:β} {X:World} (o:Obj) (hs:J s X):J s (X.alloc o) :=
  h s X _ none hs (World.grownBy_alloc X o none) (fun r e=>by cases e)
theorem AbidesE.below {β:Type} {rw:World→Option Nat} {E:Nat→Prop} {B:Nat} {J:β→World→Prop} (h:AbidesE rw E B J) {s:β} {X Y:World} (hb:Below X.heap.size X Y) (hs:J s X):J s Y :=
  h s X _ none hs ⟨hb.os,hb.tape,hb.output,hb.size,fun k hk _=>hb.block k hk⟩ (fun r e=>by cases e)
theorem AbidesE.put {β:Type} {rw:World→Option Nat} {E:Nat→Prop} {B:Nat} {J:β→World→Prop} (h:AbidesE rw E B J) {s:β} {X:World} {l:Nat} {o:Obj} (o' : Obj) (hs:J s X) (hB:B≤l) (hl:X.heap[l]? = some o) (ho:o.isCells = false):J s (X.putObj l o') :=
  h s X _ (some l) hs (grownBy_putObj' X l o') (fun r e=>by cases e;exact ⟨.inl hB,o,hl,.inl ho⟩)
theorem AbidesE.mono {β:Type} {rw:World→Option Nat} {E E' : Nat→Prop} {B B' : Nat} {J:β→World→Prop} (h:AbidesE rw E B J) (hB:B≤B') (hE:∀ r,E' r→B≤r∨E r):AbidesE rw E' B' J :=
  fun s X Y row hs hg hr=>h s X Y row hs hg fun r e=>⟨by rcases (hr r e).1 with h1 | h1;exact .inl (Nat.le_trans hB h1);exact hE r h1,(hr r e).2⟩
def Rowed {β:Type} (rw:World→Option Nat) (J:β→World→Prop):Prop:=∀ s X,J s X→∀ k,rw X = some k→∃ o:Obj,X.heap[k]? = some o∧o.isCells = true
def KeepX (M:Nat→Prop) (rw:World→Option Nat) (n0 n1:Nat) (X Y:World):Prop:=X.heap.size≤Y.heap.size ∧
  (∀ k,k < X.heap.size→¬ M k→rw X≠some k→(k < n0∨n1≤k)→Y.heap[k]? = X.heap[k]?)∧∀ k,rw Y = some k→rw X = some k∨(X.heap.size≤k∧k < Y.heap.size)
theorem KeepX.trans {M:Nat→Prop} {rw:World→Option Nat} {n0 n1:Nat} {A B C:World} (h:KeepX M rw n0 n1 A B) (k:KeepX M rw n0 n1 B C):KeepX M rw n0 n1 A C:=by
  refine ⟨Nat.le_trans h.1 k.1,fun j hj hM hr hn=>?_,fun j hj=>?_⟩
  · refine (k.2.1 j (Nat.lt_of_lt_of_le hj h.1) hM (fun e=>?_) hn).trans (h.2.1 j hj hM hr hn)
    rcases h.2.2 j e with e2 | e2
    · exact hr e2
    · omega
  · rcases k.2.2 j hj with e | e
    · rcases h.2.2 j e with e2 | e2
      · exact .inl e2
      · exact .inr ⟨e2.1,Nat.lt_of_lt_of_le e2.2 k.1⟩
    · exact .inr ⟨Nat.le_trans h.1 e.1,e.2⟩
theorem KeepX.below {M:Nat→Prop} {rw:World→Option Nat} {n0 n1:Nat} {w X Y:World} (hN:Near M rw w) (hw:w.heap.size≤X.heap.size) (h:Below X.heap.size X Y):KeepX M rw n0 n1 X Y :=
  ⟨h.size,fun k hk _ _ _=>h.block k hk,fun k hk=>.inl (by rwa [hN.same X Y fun j hj=>h.block j (Nat.lt_of_lt_of_le hj hw)] at hk)⟩
theorem KeepX.more {M M' : Nat→Prop} {rw:World→Option Nat} {n0 n1 m0 m1:Nat} {X Y:World} (h:KeepX M rw n0 n1 X Y) (hM:∀ k,¬ M' k→¬ M k∧(k < n0∨n1≤k)):KeepX M' rw m0 m1 X Y :=
  ⟨h.1,fun k hk h1 h2 _=>h.2.1 k hk (hM k h1).1 h2 (hM k h1).2,h.2.2⟩
theorem Kept.keepx {M:Nat→Prop} {rw:World→Option Nat} {n1:Nat} {w X Y:World} (h:Kept M rw w X) (k:KeepX M rw w.heap.size n1 X Y):Kept M rw w Y:=by
  refine ⟨Nat.le_trans h.1 k.1,fun j hj=>?_,fun j hj=>?_⟩
  · rcases k.2.2 j hj with e | ⟨e,_⟩
    · exact h.2.1 j e
    · exact .inr (Nat.le_trans h.1 e)
  · refine (k.2.1 j (Nat.lt_of_lt_of_le hj.1 h.1) hj.2.1 (fun e=>?_) (.inl hj.1)).trans (h.2.2 j hj)
    rcases h.2.1 j e with e2 | e2
    · exact hj.2.2 e2
    · have:=hj.1;omega
theorem YieldAt.mono {F:Fence} {m:Nat} {P:Program} {l:Nat} {args:Array Value} {W:World} {R R' : Ending→World→Prop} (h:YieldAt F m P l args W R) (hr:∀ e w',R e w'→R' e w'):YieldAt F m P l args W R':=by
  obtain ⟨fn,tmps,assign,body,h1,h2⟩:=h
  exact ⟨fn,tmps,assign,body,h1,h2.mono hr⟩
def SeqX {α:Type} (F:Fence) (n:Nat) (P:Program) (g:Nat) (lb:Array Value) (encs:α→Array Value) (E M:Nat→Prop) (rw:World→Option Nat) (S:List α→World→Prop) (Sp:List α→Prop) (N:Nat) (w:World):Prop :=
  ∀ (l:Nat) (J Jx:List α→World→Prop) (W:World),Below w.heap.size w W→AbidesE rw E W.heap.size J→AbidesE rw E W.heap.size Jx→Rowed rw J →
    (∀ pre x X,J pre X→pre.length < N→YieldAt F (n - 1) P l (encs x) X fun r Y =>
      (r = .returned (.bool true)∧J (pre ++ [x]) Y∧KeepX M rw w.heap.size W.heap.size X Y)∨(r = .returned (.bool false)∧Jx (pre ++ [x]) Y∧KeepsFrom W.heap.size X Y)) →
    J [] W→CallsIn F n P g (#[.func (.yield l) #[] #[]] ++ lb) W fun r Y=>(∃ v,r = .returned v)∧((∃ xs,S xs Y∧J xs Y)∨(∃ pre,Sp pre∧Jx pre Y))
variable {F:Fence} {n:Nat} {P:Program} {w:World}
set_option maxHeartbeats 800000 in
theorem wpIn_range_x {α:Type} {g:Operand} {ps:Array Tmp} {assign body:Code} {Q:Exit→Act→World→Prop} {a:Act}
    (hro:F.round = none) (h1:1≤n) {gf:Nat} {lb:Array Value} (hg:a.eval g = .func (.func gf) #[] lb) (hFg:F.fn gf) (eg:∀ args w,(callFunc gf args).run P w = .ok (.enter gf args) w)
    {encs:α→Array Value} {E M:Nat→Prop} {rw:World→Option Nat} {S:List α→World→Prop} {Sp:List α→Prop} {N:Nat} (hseq:SeqX F (n - 1) P gf lb encs E M rw S Sp N w) (hSt:∀ xs Y l o,w.heap.size≤l→S xs Y→S xs (Y.putObj l o)) (hN:Near M rw w) (hE:∀ k,E k→k < w.heap.size) (hps:∀ x,(encs x).size = ps.size)
    (I:List α→World→Prop) (Ix:Code→List α→World→Prop) (hI:AbidesE rw E w.heap.size I) (hIx:∀ c,AbidesE rw E w.heap.size (Ix c)) (hIr:Rowed rw I) (h0:I [] w)
    (Ax:α→Act→World→Prop) (hAx:∀ x a' (Z:World) (l:Nat) (o o' : Obj),w.heap.size≤l→Z.heap[l]? = some o→o.isCells = false→Ax x a' Z→Ax x a' (Z.putObj l o'))
    (hassign:∀ (l:Nat) (pre:List α) (x:α) (W:World) (K:Act→World→Prop),I pre W→w.heap.size≤W.heap.size→(∀ a' W',Below W.heap.size W W'→Ax x a' W'→K a' W') →
      assign.wpIn (F.inRound l) (n - 1 - 1) P (Exit.then K (fun _ _ _=>False)) { tmps:=(ps.zip (encs x)).foldl (fun t (p,v)=>t.setIfInBounds p v) a.tmps,defers:=[] } W)
    (hbody:∀ (l:Nat) (pre:List α) (x:α) (a' : Act) (W:World),w.heap.size+2≤W.heap.size→I pre W→Ax x a' W→pre.length < N→body.wpIn (F.inRound l) (n - 1 - 1) P (ownPostG w.heap.size (KeepX M rw w.heap.size (w.heap.size+2)) I Ix (pre ++ [x]) W) a' W)
    (hdone:∀ (D:Nat) (xs:List α) (W:World),w.heap.size≤D→S xs W→I xs W→W.heap[D]? = some (.deferred (some []))→Q .normal { a with defers:={ target:=.collected D,args:=#[] } :: a.defers } W)
    (hstop:∀ (D:Nat) (c:Code) (pre:List α) (W:World),w.heap.size≤D→Sp pre→Ix c pre W→W.heap[D]? = some (.deferred (some []))→c.wpIn F n P Q { a with defers:={ target:=.collected D,args:=#[] } :: a.defers } W) :
    (Code.rangeFunc g ps assign body).wpIn F n P Q a w:=by
  refine wpIn_rangeFunc fun fn hfn=>?_
  rw [hro]
  obtain ⟨D,hD⟩:∃ D,D = w.heap.size:=⟨_,rfl⟩
  obtain ⟨R,hR⟩:∃ R:LoopState→Option Code→Loop,R = fun st pe=>{ state:=st,pending:=pe,fn,tmps:=a.tmps,params:=ps,assign,body,defers:=D }:=⟨_,rfl⟩
  obtain ⟨V,hV⟩:∃ V,V = (w.alloc (.deferred (some []))).alloc (.loop (R .ready none)):=⟨_,rfl⟩
  have z1:(w.alloc (.deferred (some []))).heap.size = D+1:=by rw [World.size_alloc,hD]
  have z2:V.heap.size = D+2:=by rw [hV,World.size_alloc,z1]
  have vD:V.heap[D]? = some (.deferred (some [])):=by rw [hV,heap_old _ _ _ (by rw [z1];omega),hD];exact World.alloc_heap_new w _
  have vL:V.heap[D+1]? = some (.loop (R .ready none)):=by
    have:=World.alloc_heap_new (w.alloc (.deferred (some []))) (.loop (R .ready none))
    rw [z1] at this;rw [hV];exact this
  have vB:Below w.heap.size w V:=by rw [hV];exact ((Below.refl _ w).alloc (Nat.le_refl _) _).alloc (by rw [z1,hD];omega) _
  have vI:I [] V:=by rw [hV];exact hI.alloc _ (hI.alloc _ h0)
  have far:∀ {X Y:World} {row:Option Nat} {k:Nat} {o:Obj},D≤k→k < D+2→X.heap[k]? = some o→X.grownBy Y row→(∀ r,row = some r→(V.heap.size≤r∨E r)∧∃ o:Obj,X.heap[r]? = some o∧(o.isCells = false∨rw X≠some r))→Y.heap[k]? = some o:=by
    intro X Y row k o hk1 hk ho hg' hr
    refine (hg'.block k (lt_of_heap ho) fun e=>?_).trans ho
    rcases (hr k e.symm).1 with h | h
    · omega
    · have:=hE k h;omega
  have nearer:∀ {X:World} {row:Option Nat},(∀ r,row = some r→(V.heap.size≤r∨E r)∧∃ o:Obj,X.heap[r]? = some o∧(o.isCells = false∨rw X≠some r))→∀ r,row = some r→(w.heap.size≤r∨E r)∧∃ o:Obj,X.heap[r]? = some o∧(o.isCells = false∨rw X≠some r) :=
    fun hr r e=>⟨by rcases (hr r e).1 with h | h;exact .inl (by omega);exact .inr h,(hr r e).2⟩
  have hKb:∀ (W:World) (o o' : Obj),D+1 < W.heap.size→W.heap[D+1]? = some o→KeepX M rw w.heap.size V.heap.size W (W.putObj (D+1) o'):=fun W o o' hs ho=>by
    have hg:=grownBy_putObj' W (D+1) o'
    refine ⟨hg.size,fun k hk _ _ hn=>hg.block k hk (fun e=>by cases e;omega),fun k hk=>.inl ?_⟩
    rwa [hN.same W (W.putObj (D+1) o') fun j hj=>hg.block j (by omega) (fun e=>by cases e;omega)] at hk
  have hcall:=hseq (D+1)
    (fun pre W=>I pre W∧W.heap[D+1]? = some (.loop (R .ready none))∧W.heap[D]? = some (.deferred (some [])))
    (fun pre W=>∃ c,Ix c pre W∧W.heap[D+1]? = some (.loop (R .done (some c)))∧W.heap[D]? = some (.deferred (some [])))
    V vB
    (fun s X Y row hs hg' hr=>⟨hI s X Y row hs.1 hg' (nearer hr),far (by omega) (by omega) hs.2.1 hg' hr,far (by omega) (by omega) hs.2.2 hg' hr⟩)
    (fun s X Y row hs hg' hr=>by
      obtain ⟨c,hc,hl,hk⟩:=hs
      exact ⟨c,hIx c s X Y row hc hg' (nearer hr),far (by omega) (by omega) hl hg' hr,far (by omega) (by omega) hk hg' hr⟩)
    (fun s X hs=>hIr s X hs.1)
    (by
      rintro pre x X ⟨hi,hl,hk⟩ hlen
      have hlt:=lt_of_heap hl
      have hy:=run_yield (P:=P) (args:=encs x) hl (by rw [hR];exact hps x)
      rw [hR] at hy
      refine ⟨fn,_,assign,body,hy,roundIn_of_wpIn hfn (hassign _ pre x X _ hi (by omega) fun a' X' hbX hax=>?_)⟩
      clear hy
      have hi':=hI.below hbX hi
      have hl':=(hbX.block (D+1) hlt).trans hl
      have hk':=(hbX.block D (lt_of_heap hk)).trans hk
      have hlt':=lt_of_heap hl'
      refine ⟨_,run_beginRound hl' (by rw [hR]),?_⟩
      obtain ⟨Z,hZ⟩:∃ Z,Z = X'.putObj (D+1) (.loop { R .ready none with state:=.busy }):=⟨_,rfl⟩
      have zL:Z.heap[D+1]? = some (.loop { R .ready none with state:=.busy }):=by rw [hZ];exact World.putObj_heap_same hlt'
      have zD:Z.heap[D]? = some (.deferred (some [])):=by rw [hZ];exact (World.putObj_heap_other (by omega)).trans hk'
      have zK:KeepX M rw w.heap.size V.heap.size X Z:=by rw [hZ];exact (KeepX.below hN (by omega) hbX).trans (hKb _ _ _ hlt' hl')
      have zI:I pre Z:=by rw [hZ];exact hI.put _ hi' (by omega) hl' rfl
      have zA:Ax x a' Z:=by rw [hZ];exact hAx x a' X' (D+1) _ _ (by omega) hl' rfl hax
      have zS:w.heap.size+2≤Z.heap.size:=by have:=lt_of_heap zL;omega
      rw [← hZ]
      refine wpIn_mono (hbody _ pre x a' Z zS zI zA hlen) ?_
      rw [show w.heap.size+2 = V.heap.size by omega]
      have ends:∀ (jump:Option Code) (W3:World),KeepsFrom w.heap.size Z W3 →
          (Instr.endRound (D+1) jump).run P W3 = .ok (.bool jump.isNone) (W3.putObj (D+1) (.loop (R (if jump.isNone then .ready else .done) jump))) ∧
          W3.heap[D+1]? = some (.loop { R .ready none with state:=.busy }) ∧
          (W3.putObj (D+1) (.loop (R (if jump.isNone then .ready else .done) jump))).heap[D+1]? = some (.loop (R (if jump.isNone then .ready else .done) jump)) ∧
          (W3.putObj (D+1) (.loop (R (if jump.isNone then .ready else .done) jump))).heap[D]? = some (.deferred (some [])):=fun jump W3 hk3=>by
        have hl3:=hk3.same _ _ (by omega) zL rfl
        have he:=run_endRound (P:=P) jump hl3
        rw [hR] at he ⊢
        exact ⟨he,by rw [hR] at hl3;exact hl3,World.putObj_heap_same (Array.getElem?_eq_some_iff.1 hl3).1,(World.putObj_heap_other (by omega)).trans (hk3.same _ _ (by omega) zD rfl)⟩
      have stays:∀ (W3:World) (o:Obj),KeepsFrom w.heap.size Z W3→KeepsFrom V.heap.size X (W3.putObj (D+1) o):=fun W3 o hk3=>by
        have hz:=Nat.le_trans hbX.size (show X'.heap.size≤Z.heap.size by rw [hZ];simp)
        refine ⟨by simp only [World.putObj_size];exact Nat.le_trans hz hk3.size,fun k o hk ho hc=>?_⟩
        have h1:=(hbX.block k (lt_of_heap ho)).trans ho
        have h2:Z.heap[k]? = some o:=by rw [hZ];exact (World.putObj_heap_other (by omega)).trans h1
        exact (World.putObj_heap_other (by omega)).trans (hk3.same k o (by omega) h2 hc)
      rintro q a3 W3 hp
      cases q with
      | normal =>
        obtain ⟨k1,k2,k3⟩:=hp
        obtain ⟨e1,e2,e3,e4⟩:=ends none W3 k1
        exact ⟨_,_,e1,.inl ⟨rfl,⟨hI.put _ k3 (by omega) e2 rfl,e3,e4⟩,(zK.trans k2).trans (hKb _ _ _ (lt_of_heap e2) e2)⟩⟩
      | ret =>
        obtain ⟨k1,k2⟩:=hp
        obtain ⟨e1,e2,e3,e4⟩:=ends (some .ret) W3 k1
        exact ⟨_,_,e1,.inr ⟨rfl,⟨.ret,(hIx _).put _ k2 (by omega) e2 rfl,e3,e4⟩,stays _ _ k1⟩⟩
      | exit id =>
        obtain ⟨k1,k2⟩:=hp
        obtain ⟨e1,e2,e3,e4⟩:=ends (some (.exit id)) W3 k1
        exact ⟨_,_,e1,.inr ⟨rfl,⟨.exit id,(hIx _).put _ k2 (by omega) e2 rfl,e3,e4⟩,stays _ _ k1⟩⟩
      | goto t =>
        obtain ⟨k1,k2⟩:=hp
        obtain ⟨e1,e2,e3,e4⟩:=ends (some (.goto t)) W3 k1
        exact ⟨_,_,e1,.inr ⟨rfl,⟨.goto t,(hIx _).put _ k2 (by omega) e2 rfl,e3,e4⟩,stays _ _ k1⟩⟩
      | panic ch=>exact hp.elim
      | outgrown=>exact hp.elim)
    ⟨vI,vL,vD⟩
  refine ⟨D+1,[{ target:=.collected D,args:=#[] }],V,{ target:=.fn (.func gf) lb,args:=#[.func (.yield (D+1)) #[] #[]] },V,gf,#[.func (.yield (D+1)) #[] #[]] ++ lb,V,?_,?_,?_,?_,fun _=>h1,?_⟩
  · rw [hV,hR,hD];exact run_enterLoop_outer _ _ _ _ _
  · simp only [resolve,hg]
    simp [go_sem]
  · intro f' hf'
    simp [Target.leads] at hf'
    subst hf'
    exact hFg
  · simp [invoke,go_sem,eg]
  · refine hcall.mono ?_
    rintro r Y ⟨⟨v,rfl⟩,h | h⟩
    · obtain ⟨xs,hS,hi,hl,hk⟩:=h
      exact ⟨none,_,by have:=run_endLoop (P:=P) hl (by rw [hR];simp);rw [hR] at this;exact this,hdone _ xs _ (by omega) (hSt _ _ _ _ (by omega) hS) (hI.put _ hi (by omega) hl rfl) ((World.putObj_heap_other (by omega)).trans hk)⟩
    · obtain ⟨pre,hSp,c,hi,hl,hk⟩:=h
      exact ⟨some c,_,by have:=run_endLoop (P:=P) hl (by rw [hR];simp);rw [hR] at this;exact this,hstop _ c pre _ (by omega) hSp ((hIx c).put _ hi (by omega) hl rfl) ((World.putObj_heap_other (by omega)).trans hk)⟩
end
section
open Go.RowKit Go.Maps
def heldR (v:Value):Option (DataW Value × List MemPlace):=some (.held v,[])
def MapIs (W:World) (k:TypeId) (b n:Nat) (F:Lit→Option Value):Prop :=
  ∃ D:DataW Value,W.ownsMap Tryz.prog k heldR b n D∧∀ kl,Maps.has D kl = (F kl).isSome∧∀ z,D.atKey kl (.held z) = .held ((F kl).getD z)
theorem mapIs_made (w:World) (k:TypeId):MapIs (w.alloc (.map #[] 0)) k w.heap.size 0 (fun _=>none):=⟨.map [],World.ownsMap_made _ _ _ _,fun _=>⟨rfl,fun _=>rfl⟩⟩
theorem mapIs_empty {W:World} {k:TypeId} {b:Nat} (h:W.heap[b]? = some (.map #[] 0)):MapIs W k b 0 (fun _=>none):=by
  obtain ⟨es,clock,h1,h2,h3,h4⟩:=(World.ownsMap_made (H:=Value) W Tryz.prog k heldR)
  rw [(MapKept.heap_alloc W _).1] at h1
  cases h1
  exact ⟨_,⟨_,_,h,h2,h3,h4⟩,fun _=>⟨rfl,fun _=>rfl⟩⟩
open Classical in
noncomputable def putF (F:Lit→Option Value) (kl:Lit) (v:Value):Lit→Option Value:=fun x=>if x = kl then some v else F x
theorem putF_same (F:Lit→Option Value) (kl:Lit) (v:Value):putF F kl v kl = some v:=if_pos rfl
theorem putF_other (F:Lit→Option Value) {x kl:Lit} (v:Value) (h:x≠kl):putF F kl v x = F x:=if_neg h
variable {w X Y:World} {k:TypeId} {b n:Nat} {F:Lit→Option Value}
theorem MapIs.lt (h:MapIs w k b n F):b < w.heap.size:=by obtain ⟨D,h1,_⟩:=h;exact h1.lt
theorem MapIs.map (h:MapIs w k b n F):∃ es clock,w.heap[b]? = some (.map es clock):=by obtain ⟨D,⟨es,c,h1,_⟩,_⟩:=h;exact ⟨es,c,h1⟩
theorem MapIs.same (h:MapIs X k b n F) (he:Y.heap[b]? = X.heap[b]?):MapIs Y k b n F:=by
  obtain ⟨D,⟨es,clock,h1,h2⟩,h3⟩:=h
  exact ⟨D,⟨es,clock,he.trans h1,h2⟩,h3⟩
theorem MapIs.below {s:Nat} (h:MapIs X k b n F) (hb:Below s X Y) (hs:b < s):MapIs Y k b n F:=h.same (hb.block b hs)
theorem MapIs.kept' {row:Option Nat} (h:MapIs X k b n F) (hg:X.grownBy Y row) (hne:some b≠row):MapIs Y k b n F:=h.same (hg.block b h.lt hne)
theorem MapIs.mono {n' : Nat} (h:MapIs w k b n F) (hn:n≤n'):MapIs w k b n' F:=by
  obtain ⟨D,h1,h2⟩:=h
  exact ⟨D,h1.mono hn,h2⟩
theorem MapIs.ext {G:Lit→Option Value} (h:MapIs w k b n F) (he:∀ x,F x = G x):MapIs w k b n G:=by rwa [← funext he]
theorem MapIs.put (h:MapIs w k b n F) {t e:TypeId} (K:Keyed Tryz.prog k) (ht : Tryz.prog.underlying t = some (.map k e)) (hn:n < maxLen) {key val:Value} {kl:Lit} (hkey:keyOf Tryz.prog k key = some kl) :
    ∃ w',(Instr.mapUpdate t (.map (some b)) key val).run Tryz.prog w = .ok () w'∧MapIs w' k b (n+1) (putF F kl val)∧w.grownBy w' (some b):=by
  obtain ⟨D,h1,h2⟩:=h
  obtain ⟨w',r1,r2,r3⟩:=h1.update K ht hn hkey (val:=val) (show heldR val = some (.held val,[]) from rfl)
  refine ⟨w',r1,⟨_,r2,fun x=>?_⟩,r3⟩
  by_cases e:x = kl
  · subst e
    rw [putF_same]
    exact ⟨has_put_same h1.isMap (K.key hkey) _,fun z=>atKey_put_same h1.isMap (K.key hkey) _ _⟩
  · rw [putF_other _ _ e]
    exact ⟨(has_put_other e _).trans (h2 x).1,fun z=>(atKey_put_other e _ _).trans ((h2 x).2 z)⟩
theorem MapIs.look (h:MapIs w k b n F) {t e:TypeId} (K:Keyed Tryz.prog k) (ht : Tryz.prog.underlying t = some (.map k e)) {z:Value} (hz:(zeroValue e).run Tryz.prog w = .ok z w) {key:Value} {kl:Lit} (hkey:keyOf Tryz.prog k key = some kl) :
    (Instr.lookup t (.map (some b)) key false).run Tryz.prog w = .ok ((F kl).getD z) w:=by
  obtain ⟨D,h1,h2⟩:=h
  obtain ⟨v,ps,hr,hv⟩:=h1.lookup K ht hz (show heldR z = some (.held z,[]) from rfl) hkey
  rw [(h2 kl).2 z] at hv
  simp only [heldR,Option.some.injEq,Prod.mk.injEq,DataW.held.injEq] at hv
  rw [hr,hv.1]
theorem MapIs.look_ok (h:MapIs w k b n F) {t e:TypeId} (K:Keyed Tryz.prog k) (ht : Tryz.prog.underlying t = some (.map k e)) {z:Value} (hz:(zeroValue e).run Tryz.prog w = .ok z w) {key:Value} {kl:Lit} (hkey:keyOf Tryz.prog k key = some kl) :
    (Instr.lookup t (.map (some b)) key true).run Tryz.prog w = .ok (.tuple #[(F kl).getD z,.bool (F kl).isSome]) w:=by
  obtain ⟨D,h1,h2⟩:=h
  obtain ⟨v,ps,hr,hv⟩:=h1.look_ok K ht hz (show heldR z = some (.held z,[]) from rfl) hkey
  rw [(h2 kl).2 z] at hv
  rw [(h2 kl).1] at hr
  simp only [heldR,Option.some.injEq,Prod.mk.injEq,DataW.held.injEq] at hv
  rw [hr,hv.1]
theorem strKeyed:Keyed Tryz.prog 9:=string_keyed Tryz.underlying9
theorem keyStr (S:ByteArray) (h:S.size≤maxLen):keyOf Tryz.prog 9 (.string S) = some (.string S.data.toList):=by
  simp [keyOf,mapKey,Tryz.underlying9,h]
def strF (l:List (List UInt8 × Value)):Lit→Option Value
  | .string s=>(l.find? (fun q=>q.1 == s)).map (·.2)
  | _=>none
theorem strF_nil (x:Lit):strF [] x = none:=by cases x <;> rfl
theorem strF_old {l:List (List UInt8 × Value)} {s:List UInt8} {v:Value} (h:(strF l (.string s)).isSome = true) (x:Lit):strF (l ++ [(s,v)]) x = strF l x:=by
  cases x <;> try rfl
  rename_i t
  show ((l ++ [(s,v)]).find? (fun q=>q.1 == t)).map (·.2) = (l.find? (fun q=>q.1 == t)).map (·.2)
  rw [List.find?_append]
  cases hf:l.find? (fun q=>q.1 == t) with
  | some a=>rfl
  | none =>
    have hst:(s == t) = false:=by
      rw [beq_eq_false_iff_ne]
      rintro rfl
      have h2:((l.find? (fun q=>q.1 == s)).map (·.2)).isSome = true:=h
      rw [hf] at h2
      cases h2
    simp [hst]
theorem strF_new {l:List (List UInt8 × Value)} {s:List UInt8} {v:Value} (h:(strF l (.string s)).isSome = false) (x:Lit):putF (strF l) (.string s) v x = strF (l ++ [(s,v)]) x:=by
  by_cases e:x = .string s
  · subst e
    rw [putF_same]
    show some v = ((l ++ [(s,v)]).find? (fun q=>q.1 == s)).map (·.2)
    have h2:((l.find? (fun q=>q.1 == s)).map (·.2)).isSome = false:=h
    rw [List.find?_append]
    cases hf:l.find? (fun q=>q.1 == s) with
    | some a=>rw [hf] at h2;cases h2
    | none=>simp
  · rw [putF_other _ _ e]
    cases x <;> try rfl
    rename_i t
    have hst:(s == t) = false:=by
      rw [beq_eq_false_iff_ne]
      rintro rfl
      exact e rfl
    show (l.find? (fun q=>q.1 == t)).map (·.2) = ((l ++ [(s,v)]).find? (fun q=>q.1 == t)).map (·.2)
    rw [List.find?_append]
    simp [hst]
end
section
open Go.RowKit Go.Maps
def firL (l:List De):List (List UInt8 × Value):=l.zipIdx.map fun z=>(z.1.name.data.toList,.int .i64 (z.2:Int))
theorem firL_take (l:List De) (c:Nat) (x:De) (h:l[c]? = some x):firL (l.take (c+1)) = firL (l.take c) ++ [(x.name.data.toList,.int .i64 (c:Int))]:=by
  have hl:=(List.getElem?_eq_some_iff.1 h).1
  unfold firL
  rw [List.take_add_one,h]
  simp [List.zipIdx_append,Nat.min_eq_left (Nat.le_of_lt hl)]
theorem zeroInt (W:World):(zeroValue 3).run Tryz.prog W = .ok (.int .i64 0) W:=Tryz.zeroValue3 W
def FirPost (p:Pr) (w:World) (r:Ending) (Y:World):Prop:=∃ b,r = .returned (.map (some b))∧w.heap.size≤b∧MapIs Y 9 b p.decls.length (strF (firL p.decls))∧Below w.heap.size w Y
set_option maxHeartbeats 8000000 in
set_option maxRecDepth 100000 in
theorem firsts_core (o1:Option Addr) (db doff dcap:Nat) (ve:Value) (p:Pr) (m:Nat) (hm:Hid (p.decls.length = m)) (ml:(m:Int)≤60) (w:World) (hd:Hid (0 < m→o1 = some ⟨db,doff,none⟩))
    (hdc:Hid (∀ i,i < m→∀ x,p.decls[i]? = some x→DeAt w db (doff+i*7) x)) :
    Calls Tryz.prog 55 #[.agg #[(.slice o1 m dcap),ve]] w fun r Y=>FirPost p w r Y:=by
  have hmm:=@run_makeMap Tryz.prog
  have hW0:=hid (below_al (below_al (Below.refl w.heap.size w) (.cells #[(.slice o1 m dcap),ve] 25)) (.map #[] 0))
  have hB0:Hid (((w.alloc (.cells #[(.slice o1 m dcap),ve] 25)).alloc (.map #[] 0)).heap[w.heap.size]? = some (.cells #[(.slice o1 m dcap),ve] 25 (0,0))):=hid ((heap_old _ _ _ (by simp)).trans (World.alloc_heap_new w _))
  have hM0:Hid (MapIs ((w.alloc (.cells #[(.slice o1 m dcap),ve] 25)).alloc (.map #[] 0)) 9 (w.heap.size+1) 0 (strF (firL (p.decls.take 0)))):=hid (by
    have h:=mapIs_made (w.alloc (.cells #[(.slice o1 m dcap),ve] 25)) 9
    rw [World.size_alloc] at h
    exact h.ext fun x=>(strF_nil x).symm)
  go_enter Tryz.func55,Tryz.ntmps55
  go_wp2_with fail
  go_loopw [12] (fun i wr=>∃ (j:Nat),i = .int .i64 j∧j≤m∧Hid (Below w.heap.size w wr)∧Hid (wr.heap[w.heap.size]? = some (.cells #[(.slice o1 m dcap),ve] 25 (0,0)))∧Hid (MapIs wr 9 (w.heap.size+1) j (strF (firL (p.decls.take j))))) (fun i _=>m - litLen i)
  case atStart=>exact ⟨0,rfl,Nat.zero_le _,hW0,hB0,hM0⟩
  case round =>
    clear hW0 hB0 hM0 hmm
    obtain ⟨j,rfl,hj,hW,hB,hM⟩:=hrel
    rcases Nat.lt_or_ge j m with hlt | hge
    · have hl:(j:Int) < (m:Int):=by omega
      obtain ⟨d,hdj⟩:∃ x,p.decls[j]? = some x:=⟨_,List.getElem?_eq_getElem (by have:=hm.out;omega)⟩
      obtain ⟨op,capp,oi,capi,bi,offi,hok,c0,c1,c2,c3,c4,c5,c6,hi3,hi4⟩:=de_cells' (hdc.out j hlt d hdj) hW.out
      have ix:=ix_des (cap:=dcap) hd.out hlt (by omega)
      unfold Ix at ix
      have hns:d.name.size≤maxLen:=by have:=hok.name;unfold reachN at this;unfold maxLen;omega
      have hkey:=keyStr d.name hns
      obtain ⟨W2,hW2⟩:∃ W2,W2 = wr.alloc (.cells #[.int .i64 d.kind,.string d.name,.slice op d.params.length capp,.slice oi d.items.length capi,.int .i64 d.type,.int .i64 d.e,.int .i64 d.pos] 44):=⟨_,rfl⟩
      have hb2:Below wr.heap.size wr W2:=by rw [hW2];exact below_al (Below.refl _ _) _
      have hM2:=hid (hM.out.below hb2 hM.out.lt)
      have hBW2:=hid (hW.out.trans (hb2.mono hW.out.size))
      have hB2:=hid ((hb2.block _ (lt_of_heap hB.out)).trans hB.out)
      have lk:=hM2.out.look_ok strKeyed Tryz.underlying101 (zeroInt W2) hkey
      have T:=firL_take p.decls j d hdj
      have hlx:=hM2.out.lt
      cases hf:(strF (firL (p.decls.take j)) (.string d.name.data.toList)).isSome with
      | true =>
        rw [hf] at lk
        have HM3:Hid (MapIs W2 9 (w.heap.size+1) (j+1) (strF (firL (p.decls.take (j+1))))):=hid ((hM2.out.mono (Nat.le_succ j)).ext fun x=>by rw [T];exact (strF_old hf x).symm)
        generalize (strF (firL (p.decls.take j)) (.string d.name.data.toList)).getD (.int .i64 0) = FV at lk
        clear hM2 hf T hkey hns hlx hok hdj
        rw [hW2] at lk HM3 hBW2 hB2
        clear hW2 hb2
        go_wp2_with fail
        exact ⟨⟨j+1,by go_num,by omega,hBW2,hB2,HM3⟩,by simp [litLen];omega⟩
      | false =>
        rw [hf] at lk
        have hn:strF (firL (p.decls.take j)) (.string d.name.data.toList) = none:=Option.not_isSome_iff_eq_none.1 (by rw [hf];simp)
        rw [hn] at lk
        obtain ⟨W3,up,hM3,hg⟩:=hM2.out.put strKeyed Tryz.underlying101 (by unfold maxLen;omega) (val:=.int .i64 (j:Int)) hkey
        have HM3:Hid (MapIs W3 9 (w.heap.size+1) (j+1) (strF (firL (p.decls.take (j+1))))):=hid (hM3.ext fun x=>by rw [T];exact strF_new hf x)
        have HB3:=hid (hBW2.out.grown hg hBW2.out.size (fun k e=>by cases e;omega))
        have HP3:=hid ((hg.block w.heap.size (lt_of_heap hB2.out) (by simp)).trans hB2.out)
        clear hM3 hM2 hf hn T hkey hns hlx hok hdj hg hBW2 hB2
        dsimp only [Option.getD_none,Option.getD] at lk
        rw [hW2] at lk up
        clear hW2 hb2
        go_wp2_with fail
        exact ⟨⟨j+1,by go_num,by omega,HB3,HP3,HM3⟩,by simp [litLen];omega⟩
    · obtain rfl:j = m:=by omega
      rw [show p.decls.take j = p.decls by rw [← hm.out];exact List.take_length] at hM
      go_wp2_with fail
      go_ret
      exact ⟨_,rfl,Nat.le_succ _,by rw [hm.out];exact hM.out,hW.out⟩
end
section
open Go.RowKit Lx Go.Shelf Go.Maps
attribute [local go_sem] Oper.semAt_some
def vaL (l:List Va):List (List UInt8 × Value):=l.map fun v=>(v.name.data.toList,VarV v.name v.sort v.type v.index)
theorem data_eq {a b:ByteArray}:(a.data.toList == b.data.toList) = decide (a = b):=by
  by_cases h:a = b
  · subst h;simp
  · rw [decide_eq_false h,beq_eq_false_iff_ne]
    exact fun e=>h (ByteArray.ext (Array.toList_inj.1 e))
theorem vaL_find (l:List Va) (nm:ByteArray):strF (vaL l) (.string nm.data.toList) = (l.find? (fun v=>decide (v.name = nm))).map fun v=>VarV v.name v.sort v.type v.index:=by
  show ((vaL l).find? (fun q=>q.1 == nm.data.toList)).map (·.2) = _
  unfold vaL
  rw [List.find?_map,Option.map_map]
  have e:((fun q:List UInt8 × Value=>q.1 == nm.data.toList) ∘ fun v:Va=>(v.name.data.toList,VarV v.name v.sort v.type v.index)) = fun v=>decide (v.name = nm):=funext fun v=>data_eq
  rw [e]
  rfl
def isAS (d:De) (nm:ByteArray) (sorts:List Int):Bool:=match (varsN d).find? (fun v=>decide (v.name = nm)) with
  | some v=>sorts.any fun s=>v.sort == s
  | none=>false
theorem zeroVar (W:World):(zeroValue 36).run Tryz.prog W = .ok (.agg #[.string ⟨#[]⟩,.int .i64 0,.int .i64 0,.int .i64 0]) W:=Tryz.zeroValue36 W
set_option maxHeartbeats 8000000 in
set_option maxRecDepth 100000 in
theorem isA_any (m1 N:Nat) (v2:Value) (d:De) (nm:ByteArray) (hnm:nm.size≤maxLen) (b n c:Nat) (zs:List Int) (hn:Hid (n = zs.length)) (hn2:(n:Int)≤100) (w:World) (hS:Hid (MapIs w 9 m1 N (strF (vaL (varsN d))))) (hc:Hid (∀ j,j < zs.length→w.cell? ⟨b,j,none⟩ = some (.int .i64 zs[j]!))) :
    Calls Tryz.prog 96 #[.agg #[.map (some m1),v2],.string nm,.slice (some ⟨b,0,none⟩) n c] w fun r Y=>r = .returned (.bool (isAS d nm zs))∧Below w.heap.size w Y:=by
  have hW0:=hid (below_al (Below.refl w.heap.size w) (.cells #[.map (some m1),v2] 109))
  obtain ⟨W1,hW1⟩:∃ W1,W1 = w.alloc (.cells #[.map (some m1),v2] 109):=⟨_,rfl⟩
  rw [← hW1] at hW0
  have hM1:=hS.out.below hW0.out hS.out.lt
  have lk:=hM1.look_ok strKeyed Tryz.underlying106 (zeroVar W1) (keyStr nm hnm)
  rw [vaL_find] at lk
  have hCn:=fun (x:Int) W=>Tryz.slices_Contains (Value.int .i64) (fun x y=>x == y) (.int Tryz.prog 3 .i64) b 0 n c zs x W (Nat.le_of_eq hn.out) (by omega)
  have CN:Hid (∀ (x:Int) W,Below w.heap.size w W→Calls Tryz.prog 124 #[.slice (some ⟨b,0,none⟩) n c,.int .i64 x] W fun e w'=>e = .returned (.bool (zs.any fun y=>x == y))∧w' = W):=hid fun x W hb=>(hCn x W fun j hj=>by rw [Nat.zero_add];exact cell_on hb (hc.out j hj)).mono fun e w' ⟨h1,h2⟩=>⟨by rw [h1,List.take_of_length_le (Nat.le_of_eq hn.out.symm)],h2⟩
  clear hCn
  cases hf:(varsN d).find? (fun v=>decide (v.name = nm)) with
  | none =>
    rw [hf] at lk
    have hr:Hid (isAS d nm zs = false):=hid (by unfold isAS;rw [hf])
    have hal:=hid (hW0.out.trans ((below_al (Below.refl W1.heap.size W1) (.cells #[.string ⟨#[]⟩,.int .i64 0,.int .i64 0,.int .i64 0] 36)).mono hW0.out.size))
    clear hf hM1 CN
    dsimp only [Option.map,Option.getD,Option.isSome] at lk
    rw [hW1] at lk hal
    clear hW1
    go_enter Tryz.func96,Tryz.ntmps96
    go_wp2_with fail
    go_ret
    exact ⟨by rw [hr.out];rfl,hal.out⟩
  | some v =>
    rw [hf] at lk
    obtain ⟨vn,vs,vt,vi⟩:=v
    have hr:Hid (isAS d nm zs = zs.any fun s=>vs == s):=hid (by unfold isAS;rw [hf])
    have hal:=hid (hW0.out.trans ((below_al (Below.refl W1.heap.size W1) (.cells #[.string vn,.int .i64 vs,.int .i64 vt,.int .i64 vi] 36)).mono hW0.out.size))
    clear hf hM1
    dsimp only [Option.map,Option.getD,Option.isSome,VarV] at lk
    rw [hW1] at lk hal
    clear hW1
    go_enter Tryz.func96,Tryz.ntmps96
    go_wp2_with (go_at_call 124;(with_reducible refine (CN.out _ _ hal.out).mono ?_);rintro e w1 ⟨rfl,rfl⟩)
    go_ret
    exact ⟨by rw [hr.out];rfl,hal.out⟩
def stKey (i:Int) (s:List UInt8):Lit:=.string (keyBytes [.int .i64 i,.string s])
open Classical in
noncomputable def stF (l:List (Int × ByteArray)):Lit→Option Value:=fun x=>if ∃ q∈l,x = stKey q.1 q.2.data.toList then some (.agg #[]) else none
theorem stateTypes:∃ m,Tryz.prog.types.size = m+1:=⟨Tryz.prog.types.size - 1,by kernel_rfl⟩
theorem keyState (i:Int) (s:ByteArray) (hi:(Lit.int .i64 i).wf = true) (hs:s.size≤maxLen):keyOf Tryz.prog 138 (.agg #[.int .i64 i,.string s]) = some (stKey i s.data.toList):=by
  have hkt : Tryz.prog.keyType 138 = true:=by kernel_rfl
  have hc : Tryz.prog.cellsOf 138 = 2:=by kernel_rfl
  have hc1 : Tryz.prog.cellsOf 3 = 1:=by kernel_rfl
  have hc2 : Tryz.prog.cellsOf 9 = 1:=by kernel_rfl
  obtain ⟨m,hm⟩:=stateTypes
  unfold keyOf
  simp only [Tryz.underlying138]
  rw [if_pos (by simp [hkt,Value.formed,Tryz.underlying138,hc]),hm]
  unfold Program.keyLits
  simp only [Tryz.underlying138,Value.cells]
  rw [if_pos (by rw [hc];exact ⟨rfl,by kernel_rfl⟩)]
  simp [Program.keyLits,Tryz.underlying3,Tryz.underlying9,hc1,hc2,hi,hs,List.mapM_cons,stKey]
theorem stateKeyed:Keyed Tryz.prog 138:=Keyed.of_law (deep_law_laid (by kernel_rfl) (m:=2) (by omega) (of_decide_eq_true (by kernel_rfl)) (by kernel_rfl) (by rw [Tryz.underlying138]))
end
section
open Go.RowKit Lx Go.Shelf Go.Maps
attribute [local go_sem] Oper.semAt_some
def stOk (l:List (Int × ByteArray)):Prop:=∀ q∈l,(Lit.int .i64 q.1).wf = true∧q.2.size≤maxLen
theorem stKey_inj {i j:Int} {s t:ByteArray} (hi:(Lit.int .i64 i).wf = true) (hj:(Lit.int .i64 j).wf = true) (hs:s.size≤maxLen) (ht:t.size≤maxLen) (h:stKey i s.data.toList = stKey j t.data.toList):i = j∧s = t:=by
  have h1:=stateKeyed.inj (keyState i s hi hs) ((keyState j t hj ht).trans (by rw [h]))
  simp only [Value.agg.injEq,Array.mk.injEq,List.cons.injEq,Value.int.injEq,Value.string.injEq,true_and,and_true] at h1
  exact h1
def hasPair (l:List (Int × ByteArray)) (i:Int) (s:ByteArray):Bool:=l.any fun q=>q.1 == i && decide (q.2 = s)
theorem hasPair_iff {l:List (Int × ByteArray)} {i:Int} {s:ByteArray}:hasPair l i s = true↔(i,s)∈l:=by
  unfold hasPair
  rw [List.any_eq_true]
  constructor
  · rintro ⟨⟨j,t⟩,hq,h⟩
    simp only [Bool.and_eq_true,beq_iff_eq,decide_eq_true_eq] at h
    obtain ⟨rfl,rfl⟩:=h
    exact hq
  · exact fun h=>⟨_,h,by simp⟩
theorem stF_nil (x:Lit):stF [] x = none:=if_neg (by simp)
theorem stF_has {l:List (Int × ByteArray)} (hl:stOk l) {i:Int} {s:ByteArray} (hi:(Lit.int .i64 i).wf = true) (hs:s.size≤maxLen):(stF l (stKey i s.data.toList)).isSome = hasPair l i s:=by
  unfold stF
  by_cases h:(i,s)∈l
  · rw [if_pos ⟨_,h,rfl⟩,hasPair_iff.2 h];rfl
  · rw [Bool.eq_false_iff.2 fun e=>h (hasPair_iff.1 e),if_neg];rfl
    rintro ⟨⟨j,t⟩,hq,he⟩
    obtain ⟨e1,e2⟩:=stKey_inj hi (hl _ hq).1 hs (hl _ hq).2 he
    exact h (by rw [e1,e2];exact hq)
theorem stF_put (l:List (Int × ByteArray)) (i:Int) (s:ByteArray) (x:Lit):putF (stF l) (stKey i s.data.toList) (.agg #[]) x = stF (l ++ [(i,s)]) x:=by
  by_cases e:x = stKey i s.data.toList
  · subst e
    rw [putF_same]
    exact (if_pos ⟨(i,s),by simp,rfl⟩).symm
  · rw [putF_other _ _ e]
    have:(∃ q∈l ++ [(i,s)],x = stKey q.1 q.2.data.toList)↔∃ q∈l,x = stKey q.1 q.2.data.toList:=by
      constructor
      · rintro ⟨q,hq,hx⟩
        rcases List.mem_append.1 hq with h | h
        · exact ⟨q,h,hx⟩
        · rw [List.mem_singleton.1 h] at hx;exact absurd hx e
      · rintro ⟨q,hq,hx⟩
        exact ⟨q,List.mem_append_left _ hq,hx⟩
    unfold stF
    by_cases hh:∃ q∈l,x = stKey q.1 q.2.data.toList
    · rw [if_pos hh,if_pos (this.2 hh)]
    · rw [if_neg hh,if_neg fun h=>hh (this.1 h)]
def stL (l:List It):List (Int × ByteArray):=l.zipIdx.flatMap fun z=>z.1.states.map fun s=>((z.2:Int),s)
def hasSt (d:De) (mode nm:ByteArray):Bool:=match (varsN d).find? (fun v=>decide (v.name = mode)) with
  | some v=>v.sort == 5 && hasPair (stL d.items) v.index nm
  | none=>false
structure ScAt (W:World) (m1 m2:Nat) (d:De):Prop where
  vars:MapIs W 9 m1 2000 (strF (vaL (varsN d)))
  states:MapIs W 138 m2 1000000 (stF (stL d.items))
theorem ScAt.same {X Y:World} {m1 m2:Nat} {d:De} (h:ScAt X m1 m2 d) (h1:Y.heap[m1]? = X.heap[m1]?) (h2:Y.heap[m2]? = X.heap[m2]?):ScAt Y m1 m2 d:=⟨h.vars.same h1,h.states.same h2⟩
theorem ScAt.below {X Y:World} {m1 m2:Nat} {d:De} (h:ScAt X m1 m2 d) (hb:Below X.heap.size X Y):ScAt Y m1 m2 d:=⟨h.vars.below hb h.vars.lt,h.states.below hb h.states.lt⟩
structure ScOk (d:De):Prop where
  index:∀ v∈varsN d,(Lit.int .i64 v.index).wf = true
  states:stOk (stL d.items)
theorem cell_new {W:World} {vs:Array Value} {T:TypeId} {k j:Nat} {v:Value} (hk:k = W.heap.size) (hv:vs[j]? = some v):(W.alloc (.cells vs T)).cell? ⟨k,j,none⟩ = some v:=by
  subst hk
  have h:=World.alloc_heap_new W (.cells vs T)
  unfold World.cell?
  rw [h]
  exact hv
theorem zeroUnit (W:World):(zeroValue 136).run Tryz.prog W = .ok (.agg #[]) W:=by kernel_rfl
theorem fieldIdx (n:ByteArray) (s t i:Int) (w:World):(Instr.field 36 (.agg #[.string n,.int .i64 s,.int .i64 t,.int .i64 i]) 3).run Tryz.prog w = .ok (.int .i64 i) w:=by kernel_rfl
set_option maxHeartbeats 8000000 in
set_option maxRecDepth 100000 in
theorem hasSt_any (m1 m2:Nat) (d:De) (mode nm:ByteArray) (hmo:mode.size≤maxLen) (hnm:nm.size≤maxLen) (w:World) (hS:Hid (ScAt w m1 m2 d)) (hO:Hid (ScOk d)) :
    Calls Tryz.prog 97 #[.agg #[.map (some m1),.map (some m2)],.string mode,.string nm] w fun r Y=>r = .returned (.bool (hasSt d mode nm))∧Below w.heap.size w Y:=by
  have hW0:=hid (below_al (Below.refl w.heap.size w) (.cells #[.map (some m1),.map (some m2)] 109))
  have hB0:Hid ((w.alloc (.cells #[.map (some m1),.map (some m2)] 109)).heap[w.heap.size]? = some (.cells #[.map (some m1),.map (some m2)] 109 (0,0))):=hid (World.alloc_heap_new w _)
  obtain ⟨W1,hW1⟩:∃ W1,W1 = w.alloc (.cells #[.map (some m1),.map (some m2)] 109):=⟨_,rfl⟩
  rw [← hW1] at hW0 hB0
  have hb01:=hW0.out
  have hM1:=hS.out.below hb01
  have lk:=hM1.vars.look strKeyed Tryz.underlying106 (zeroVar W1) (keyStr mode hmo)
  rw [vaL_find] at lk
  obtain ⟨x,hx,hxw,hr⟩:∃ x:Va,(((varsN d).find? (fun v=>decide (v.name = mode))).map fun v=>VarV v.name v.sort v.type v.index).getD (.agg #[.string ⟨#[]⟩,.int .i64 0,.int .i64 0,.int .i64 0]) = VarV x.name x.sort x.type x.index ∧
      (Lit.int .i64 x.index).wf = true∧hasSt d mode nm = (hasPair (stL d.items) x.index nm && isAS d mode [5]):=by
    cases hf:(varsN d).find? (fun v=>decide (v.name = mode)) with
    | none=>exact ⟨⟨⟨#[]⟩,0,0,0⟩,rfl,by decide,by unfold hasSt isAS;simp [hf]⟩
    | some v=>exact ⟨v,rfl,hO.out.index v (List.mem_of_find?_eq_some hf),by unfold hasSt isAS;simp [hf,Bool.and_comm]⟩
  rw [hx] at lk
  clear hx
  obtain ⟨xn,xs,xt,xi⟩:=x
  have ls:=hM1.states.look_ok stateKeyed Tryz.underlying107 (zeroUnit W1) (keyState xi nm hxw hnm)
  rw [stF_has hO.out.states hxw hnm] at ls
  have hu:(stF (stL d.items) (stKey xi nm.data.toList)).getD (.agg #[]) = .agg #[]:=by
    unfold stF
    split <;> rfl
  rw [hu] at ls
  clear hu
  have ISA:Hid (∀ W,Below w.heap.size w W→∀ b,W.cell? ⟨b,0,none⟩ = some (.int .i64 5)→Calls Tryz.prog 96 #[.agg #[.map (some m1),.map (some m2)],.string mode,.slice (some ⟨b,0,none⟩) 1 1] W fun r Y=>r = .returned (.bool (isAS d mode [5]))∧Below W.heap.size W Y) :=
    hid fun W hW b hb=>isA_any m1 2000 _ d mode hmo b 1 1 [5] (hid rfl) (by omega) W (hid (hS.out.vars.below hW hS.out.vars.lt)) (hid fun j hj=>by
      obtain rfl:j = 0:=by simp at hj;omega
      exact hb)
  have HR:=hid hr
  dsimp only [VarV] at lk
  clear hr hM1 hb01
  obtain ⟨q,hq⟩:∃ q,q = hasPair (stL d.items) xi nm:=⟨_,rfl⟩
  rw [← hq] at ls HR
  clear hq
  rw [hW1] at lk ls hB0 hW0
  have y0:=(cells_two hB0.out).1
  have y1:=(cells_two hB0.out).2
  clear hW1
  have fi:=fieldIdx xn xs xt xi
  cases q with
  | false =>
    go_enter Tryz.func97,Tryz.ntmps97
    go_wp2_with fail
    go_ret
    exact ⟨by rw [HR.out];rfl,hW0.out.trans ((below_al (Below.refl _ _) _).mono hW0.out.size)⟩
  | true =>
    go_enter Tryz.func97,Tryz.ntmps97
    have hal3:=hid (below_al (below_al hW0.out (.cells #[] 136)) (.cells #[.int .i64 5] 3))
    have c5:(((w.alloc (.cells #[.map (some m1),.map (some m2)] 109)).alloc (.cells #[] 136)).alloc (.cells #[.int .i64 5] 3)).cell? ⟨w.heap.size+1+1,0,none⟩ = some (.int .i64 5):=cell_new (by simp) rfl
    have C5:=hid c5
    clear c5
    go_wp2_with (go_at_call 96;(with_reducible refine (ISA.out _ hal3.out _ C5.out).mono ?_);rintro e w1 ⟨rfl,hb1⟩;have HB1:=hid hb1;clear hb1)
    go_ret
    exact ⟨by rw [HR.out];rfl,hal3.out.trans (HB1.out.mono hal3.out.size)⟩
end
section
open Go.RowKit Lx Go.Shelf Go.Maps
attribute [local go_sem] Oper.semAt_some
def cntD:List (List UInt8)→Nat
  | []=>0
  | x :: l=>if l.contains x then cntD l else cntD l+1
theorem cntD_le:∀ l,cntD l≤l.length
  | []=>Nat.le_refl _
  | x :: l=>by
    unfold cntD
    have:=cntD_le l
    simp only [List.length_cons]
    split <;> omega
def dupB (l:List ByteArray):Bool:=decide (cntD (l.map (fun s=>s.data.toList)).reverse < l.length)
def SetIs (W:World) (b n:Nat) (L:List (List UInt8)):Prop:=∃ D:DataW Unit,W.ownsMap Tryz.prog 9 unitElem b n D∧(∀ x,Maps.has D (.string x) = L.contains x)∧Maps.size D = cntD L
theorem setIs_made (w:World):SetIs (w.alloc (.map #[] 0)) w.heap.size 0 []:=⟨_,World.ownsMap_made _ _ _ _,fun _=>rfl,rfl⟩
theorem SetIs.lt {w:World} {b n:Nat} {L:List (List UInt8)} (h:SetIs w b n L):b < w.heap.size:=by obtain ⟨D,h1,_⟩:=h;exact h1.lt
theorem SetIs.same {X Y:World} {b n:Nat} {L:List (List UInt8)} (h:SetIs X b n L) (he:Y.heap[b]? = X.heap[b]?):SetIs Y b n L:=by
  obtain ⟨D,⟨es,clock,h1,h2⟩,h3⟩:=h
  exact ⟨D,⟨es,clock,he.trans h1,h2⟩,h3⟩
theorem SetIs.below {X Y:World} {b n s:Nat} {L:List (List UInt8)} (h:SetIs X b n L) (hb:Below s X Y) (hs:b < s):SetIs Y b n L:=h.same (hb.block b hs)
theorem SetIs.put {w:World} {b n:Nat} {L:List (List UInt8)} (h:SetIs w b n L) (hn:n < maxLen) {s:ByteArray} (hs:s.size≤maxLen) :
    ∃ w',(Instr.mapUpdate 164 (.map (some b)) (.string s) (.agg #[])).run Tryz.prog w = .ok () w'∧SetIs w' b (n+1) (s.data.toList :: L)∧w.grownBy w' (some b):=by
  obtain ⟨D,h1,h2,h3⟩:=h
  obtain ⟨w',r1,r2,r3⟩:=h1.update strKeyed Tryz.underlying164 hn (keyStr s hs) (unitElem_mk (H:=Unit))
  refine ⟨w',r1,⟨_,r2,fun x=>?_,?_⟩,r3⟩
  · by_cases e:x = s.data.toList
    · subst e
      rw [has_put_same h1.isMap (strKeyed.key (keyStr s hs))]
      simp
    · rw [has_put_other (by intro e2;cases e2;exact e rfl),h2,List.contains_cons,beq_false_of_ne e,Bool.false_or]
  · rw [size_put (h1.tidy strKeyed),h2,h3]
    rfl
theorem SetIs.len {w:World} {b n:Nat} {L:List (List UInt8)} (h:SetIs w b n L) (ty:TypeId):(Builtin.len_ #[164] ty #[.map (some b)]).run Tryz.prog w = .ok (.int .i64 (cntD L)) w:=by
  obtain ⟨D,h1,h2,h3⟩:=h
  rw [h1.len Tryz.underlying164 ty,h3]
theorem take_rev (l:List ByteArray) (j:Nat) (x:ByteArray) (h:l[j]? = some x):((l.take (j+1)).map (fun s=>s.data.toList)).reverse = x.data.toList :: ((l.take j).map (fun s=>s.data.toList)).reverse:=by
  rw [List.take_add_one,h];simp
theorem ix_strT {o:Option Addr} {n cap b off:Nat} (h:0 < n→o = some ⟨b,off,none⟩) {j:Nat} (hj:j < n) (hn:n≤9223372036854775807):Ix 60 1 (.slice o n cap) b off j:=by
  intro W
  rw [h (by omega)]
  have h1:(j:Int) < (n:Int):=by omega
  have h2:(j:Int)≤9223372036854775807:=by omega
  go_simp
theorem itself_any (s:ByteArray) (w:World):Calls Tryz.prog 122 #[.string s] w fun r Y=>r = .returned (.string s)∧Y = w:=by
  go_enter Tryz.func122,Tryz.ntmps122
  go_wp2_with fail
  go_ret
  exact ⟨rfl,rfl⟩
set_option maxHeartbeats 8000000 in
set_option maxRecDepth 100000 in
theorem twiceS_core (o:Option Addr) (m cap b off:Nat) (l:List ByteArray) (w:World) (hm:Hid (l.length = m)) (ml:(m:Int)≤1000) (ho:Hid (0 < m→o = some ⟨b,off,none⟩)) (hc:Hid (∀ j,j < m→w.cell? ⟨b,off+j,none⟩ = some (.string (l.getD j ⟨#[]⟩)))) (hl:Hid (∀ s∈l,s.size≤maxLen)) :
    Calls Tryz.prog 123 #[.slice o m cap,.func (.func 122) #[] #[]] w fun r Y=>r = .returned (.bool (dupB l))∧Below w.heap.size w Y:=by
  have hmm:=@run_makeMap Tryz.prog
  have hB0:=hid (below_al (Below.refl w.heap.size w) (.map #[] 0))
  have hM0:Hid (SetIs (w.alloc (.map #[] 0)) w.heap.size 0 ((l.take 0).map (fun s=>s.data.toList)).reverse):=hid (setIs_made w)
  go_enter Tryz.func123,Tryz.ntmps123
  go_wp2_with fail
  go_loopw [11] (fun i wr=>∃ (j:Nat),i = .int .i64 j∧j≤m∧Hid (Below w.heap.size w wr)∧Hid (SetIs wr w.heap.size j ((l.take j).map (fun s=>s.data.toList)).reverse)) (fun i _=>m - litLen i)
  case atStart=>exact ⟨0,rfl,Nat.zero_le _,hB0,hM0⟩
  case round =>
    clear hB0 hM0 hmm
    obtain ⟨j,rfl,hj,hW,hM⟩:=hrel
    rcases Nat.lt_or_ge j m with hlt | hge
    · have hl1:(j:Int) < (m:Int):=by omega
      obtain ⟨x,hx⟩:∃ x,l[j]? = some x:=⟨_,List.getElem?_eq_getElem (by have:=hm.out;omega)⟩
      have ix:=ix_strT (cap:=cap) ho.out hlt (by omega)
      unfold Ix at ix
      simp only [Nat.mul_one] at ix
      have c0:wr.cell? ⟨b,off+j,none⟩ = some (.string x):=(cell_on hW.out (hc.out j hlt)).trans (by rw [List.getD,hx];rfl)
      obtain ⟨W3,up,hM3,hg⟩:=hM.out.put (by unfold maxLen;omega) (hl.out x (List.mem_of_getElem? hx))
      have HM3:Hid (SetIs W3 w.heap.size (j+1) ((l.take (j+1)).map (fun s=>s.data.toList)).reverse):=hid (by rw [take_rev l j x hx];exact hM3)
      have HB3:=hid (hW.out.grown hg hW.out.size (fun k e=>by cases e;omega))
      clear hM3 hg hx
      go_wp2_with (go_at_call 122;(with_reducible refine (itself_any _ _).mono ?_);rintro e w1 ⟨rfl,rfl⟩)
      exact ⟨⟨j+1,by go_num,by omega,HB3,HM3⟩,by simp [litLen];omega⟩
    · obtain rfl:j = m:=by omega
      rw [show l.take j = l by rw [← hm.out];exact List.take_length] at hM
      have ln:=hM.out.len 3
      go_wp2_with fail
      go_ret
      exact ⟨by unfold dupB;rw [hm.out];simp,hW.out⟩
theorem twiceS_any (v:Value) (l:List ByteArray) (w:World) (h:StrsAt w v l) (hn:l.length≤1000) (hl:∀ s∈l,s.size≤maxLen) :
    Calls Tryz.prog 123 #[v,.func (.func 122) #[] #[]] w fun r Y=>r = .returned (.bool (dupB l))∧Below w.heap.size w Y:=by
  obtain ⟨o,cap,b,off,rfl,h1,h2,h3,h4⟩:=h
  exact twiceS_core o _ cap b off l w (hid rfl) (by omega) (hid h3) (hid fun j hj=>by have:=h4 j hj;rwa [Nat.mul_one] at this) (hid hl)
theorem ix_paT {o:Option Addr} {n cap b off:Nat} (h:0 < n→o = some ⟨b,off,none⟩) {j:Nat} (hj:j < n) (hn:n≤9223372036854775807):Ix 41 2 (.slice o n cap) b off j:=by
  intro W
  rw [h (by omega)]
  have h1:(j:Int) < (n:Int):=by omega
  have h2:(j:Int)≤9223372036854775807:=by omega
  go_simp
theorem named_any (s:ByteArray) (t:Int) (w:World):Calls Tryz.prog 92 #[.agg #[.string s,.int .i64 t]] w fun r Y=>r = .returned (.string s)∧Below w.heap.size w Y:=by
  have h0:=hid (below_al (Below.refl w.heap.size w) (.cells #[.string s,.int .i64 t] 67))
  go_enter Tryz.func92,Tryz.ntmps92
  go_wp2_with fail
  go_ret
  exact ⟨rfl,h0.out⟩
set_option maxHeartbeats 8000000 in
set_option maxRecDepth 100000 in
theorem twiceP_core (o:Option Addr) (m cap b off:Nat) (l:List Pa) (w:World) (hm:Hid (l.length = m)) (ml:(m:Int)≤1000) (ho:Hid (0 < m→o = some ⟨b,off,none⟩)) (hc:Hid (∀ j,j < m→∀ x,l[j]? = some x→PaAt w b (off+j*2) x)) :
    Calls Tryz.prog 93 #[.slice o m cap,.func (.func 92) #[] #[]] w fun r Y=>r = .returned (.bool (dupB (l.map (·.name))))∧Below w.heap.size w Y:=by
  have hmm:=@run_makeMap Tryz.prog
  have hB0:=hid (below_al (Below.refl w.heap.size w) (.map #[] 0))
  have hM0:Hid (SetIs (w.alloc (.map #[] 0)) w.heap.size 0 (((l.map (·.name)).take 0).map (fun s=>s.data.toList)).reverse):=hid (setIs_made w)
  go_enter Tryz.func93,Tryz.ntmps93
  go_wp2_with fail
  go_loopw [11] (fun i wr=>∃ (j:Nat),i = .int .i64 j∧j≤m∧Hid (Below w.heap.size w wr)∧Hid (SetIs wr w.heap.size j (((l.map (·.name)).take j).map (fun s=>s.data.toList)).reverse)) (fun i _=>m - litLen i)
  case atStart=>exact ⟨0,rfl,Nat.zero_le _,hB0,hM0⟩
  case round =>
    clear hB0 hM0 hmm
    obtain ⟨j,rfl,hj,hW,hM⟩:=hrel
    rcases Nat.lt_or_ge j m with hlt | hge
    · have hl1:(j:Int) < (m:Int):=by omega
      obtain ⟨x,hx⟩:∃ x,l[j]? = some x:=⟨_,List.getElem?_eq_getElem (by have:=hm.out;omega)⟩
      have ix:=ix_paT (cap:=cap) ho.out hlt (by omega)
      unfold Ix at ix
      obtain ⟨p0,p1,p2,_⟩:=hc.out j hlt x hx
      have c0:=cell_on hW.out p0
      have c1:=cell_on hW.out p1
      have hns:x.name.size≤maxLen:=by unfold reachN at p2;unfold maxLen;omega
      have hb2:Below w.heap.size w (wr.alloc (.cells #[.string x.name,.int .i64 x.type] 67)):=below_al hW.out _
      have PUT:Hid (∀ W1,Below (wr.alloc (.cells #[.string x.name,.int .i64 x.type] 67)).heap.size (wr.alloc (.cells #[.string x.name,.int .i64 x.type] 67)) W1 →
          ∃ W3,(Instr.mapUpdate 164 (.map (some w.heap.size)) (.string x.name) (.agg #[])).run Tryz.prog W1 = .ok () W3∧SetIs W3 w.heap.size (j+1) (((l.map (·.name)).take (j+1)).map (fun s=>s.data.toList)).reverse∧Below w.heap.size w W3):=hid fun W1 hb1=>by
        have h1:SetIs (wr.alloc (.cells #[.string x.name,.int .i64 x.type] 67)) w.heap.size j (((l.map (·.name)).take j).map (fun s=>s.data.toList)).reverse:=hM.out.below (below_al (Below.refl wr.heap.size wr) _) hM.out.lt
        obtain ⟨W3,up,hM3,hg⟩:=(h1.below hb1 h1.lt).put (by unfold maxLen;omega) hns
        have hW1:=hb2.trans (hb1.mono hb2.size)
        exact ⟨W3,up,by rw [take_rev _ j x.name (by simp [hx])];exact hM3,hW1.grown hg hW1.size (fun k e=>by cases e;omega)⟩
      clear hb2 hns p0 p1 p2 hx
      go_wp2_with (go_at_call 92;(with_reducible refine (named_any _ _ _).mono ?_);rintro e w1 ⟨rfl,hb1⟩;obtain ⟨W3,up,hM3,hB3⟩:=PUT.out _ hb1;have HM3:=hid hM3;have HB3:=hid hB3;clear hM3 hB3 hb1)
      exact ⟨⟨j+1,by go_num,by omega,HB3,HM3⟩,by simp [litLen];omega⟩
    · obtain rfl:j = m:=by omega
      rw [show (l.map (·.name)).take j = l.map (·.name) by rw [← hm.out,← List.length_map (f:=fun x:Pa=>x.name)];exact List.take_length] at hM
      have ln:=hM.out.len 3
      go_wp2_with fail
      go_ret
      exact ⟨by unfold dupB;rw [List.length_map,hm.out];simp,hW.out⟩
theorem twiceP_any (v:Value) (l:List Pa) (w:World) (h:SlAt v l.length 2 (fun b o i=>∀ y,l[i]? = some y→PaAt w b o y)) (hn:l.length≤1000) :
    Calls Tryz.prog 93 #[v,.func (.func 92) #[] #[]] w fun r Y=>r = .returned (.bool (dupB (l.map (·.name))))∧Below w.heap.size w Y:=by
  obtain ⟨o,cap,b,off,rfl,h1,h2,h3,h4⟩:=h
  exact twiceP_core o _ cap b off l w (hid rfl) (by omega) (hid h3) (hid h4)
end
section
open Go.RowKit Lx Go.Shelf Go.Maps
attribute [local go_sem] Oper.semAt_some
def missI (d:De) (k:Int) (nm st nx:ByteArray):Bool :=
  if k = 3 then !isAS d nm [3] else if k = 5 then !isAS d nm [4] else if k = 7 then (!hasSt d nm st || !hasSt d nm nx) else if k = 8 then !isAS d nm [2,3,4] else false
theorem cells_nine {W:World} {B:Nat} {a b c d e f g h i:Value} {T:TypeId} (hB:W.heap[B]? = some (.cells #[a,b,c,d,e,f,g,h,i] T (0,0))):W.cell? ⟨B,1,none⟩ = some b∧W.cell? ⟨B,7,none⟩ = some h:=⟨by simp [World.cell?,hB],by simp [World.cell?,hB]⟩
theorem isA_call {m1 m2:Nat} {d:De} {w:World} (hS:ScAt w m1 m2 d) {nm:ByteArray} (hnm:nm.size≤maxLen) (n:Nat) (zs:List Int) (hn:n = zs.length) (hn2:(n:Int)≤100):∀ W,Below w.heap.size w W→∀ b c,(∀ j,j < zs.length→W.cell? ⟨b,j,none⟩ = some (.int .i64 zs[j]!)) →
    Calls Tryz.prog 96 #[.agg #[.map (some m1),.map (some m2)],.string nm,.slice (some ⟨b,0,none⟩) n c] W fun r Y=>r = .returned (.bool (isAS d nm zs))∧Below W.heap.size W Y:=fun W hW b c hc =>
  isA_any m1 2000 _ d nm hnm b n c zs (hid hn) hn2 W (hid (hS.vars.below hW hS.vars.lt)) (hid hc)
theorem hasSt_call {m1 m2:Nat} {d:De} {w:World} (hS:ScAt w m1 m2 d) (hO:ScOk d) {mode nm:ByteArray} (hmo:mode.size≤maxLen) (hnm:nm.size≤maxLen):∀ W,Below w.heap.size w W →
    Calls Tryz.prog 97 #[.agg #[.map (some m1),.map (some m2)],.string mode,.string nm] W fun r Y=>r = .returned (.bool (hasSt d mode nm))∧Below W.heap.size W Y:=fun W hW =>
  hasSt_any m1 m2 d mode nm hmo hnm W (hid (hS.below hW)) (hid hO)
set_option maxHeartbeats 8000000 in
set_option maxRecDepth 100000 in
theorem misses_any (m1 m2:Nat) (d:De) (k t e f p:Int) (nm st nx:ByteArray) (o:Option Addr) (n c:Nat) (hnm:nm.size≤maxLen) (hst:st.size≤maxLen) (hnx:nx.size≤maxLen) (w:World) (hS:Hid (ScAt w m1 m2 d)) (hO:Hid (ScOk d)) :
    Calls Tryz.prog 95 #[.agg #[.map (some m1),.map (some m2)],.agg #[.int .i64 k,.string nm,.int .i64 t,.int .i64 e,.int .i64 f,.slice o n c,.string st,.string nx,.int .i64 p]] w fun r Y=>r = .returned (.bool (missI d k nm st nx))∧Below w.heap.size w Y:=by
  have hb1:=below_al (Below.refl w.heap.size w) (.cells #[.map (some m1),.map (some m2)] 109)
  have hb2:=hid (below_al hb1 (.cells #[.int .i64 k,.string nm,.int .i64 t,.int .i64 e,.int .i64 f,.slice o n c,.string st,.string nx,.int .i64 p] 62))
  clear hb1
  by_cases h3:k = 3
  · subst h3
    have R:Hid (missI d 3 nm st nx = !isAS d nm [3]):=hid rfl
    have C1:=hid (isA_call hS.out hnm 1 [3] rfl (by omega))
    have hb3:=hid (below_al hb2.out (.cells #[.int .i64 3] 3))
    go_enter Tryz.func95,Tryz.ntmps95
    go_wp2_with (go_at_call 96;(with_reducible refine (C1.out _ hb3.out _ _ ?_).mono ?_);exact (fun j hj=>by obtain rfl:j = 0:=(by simp at hj;omega);exact cell_new (by simp) rfl);rintro r w1 ⟨rfl,hw1⟩;have HW1:=hid hw1;clear hw1)
    go_ret
    exact ⟨by rw [R.out];rfl,hb3.out.trans (HW1.out.mono hb3.out.size)⟩
  by_cases h5:k = 5
  · subst h5
    have R:Hid (missI d 5 nm st nx = !isAS d nm [4]):=hid rfl
    have C1:=hid (isA_call hS.out hnm 1 [4] rfl (by omega))
    have hb3:=hid (below_al hb2.out (.cells #[.int .i64 4] 3))
    clear h3
    go_enter Tryz.func95,Tryz.ntmps95
    go_wp2_with (go_at_call 96;(with_reducible refine (C1.out _ hb3.out _ _ ?_).mono ?_);exact (fun j hj=>by obtain rfl:j = 0:=(by simp at hj;omega);exact cell_new (by simp) rfl);rintro r w1 ⟨rfl,hw1⟩;have HW1:=hid hw1;clear hw1)
    go_ret
    exact ⟨by rw [R.out];rfl,hb3.out.trans (HW1.out.mono hb3.out.size)⟩
  by_cases h8:k = 8
  · subst h8
    have R:Hid (missI d 8 nm st nx = !isAS d nm [2,3,4]):=hid rfl
    have C1:=hid (isA_call hS.out hnm 3 [2,3,4] rfl (by omega))
    have hb3:=hid (below_al hb2.out (.cells #[.int .i64 2,.int .i64 3,.int .i64 4] 3))
    clear h3 h5
    go_enter Tryz.func95,Tryz.ntmps95
    go_wp2_with (go_at_call 96;(with_reducible refine (C1.out _ hb3.out _ _ ?_).mono ?_);exact (fun j hj=>by have hj3:j < 3:=hj;obtain rfl | rfl | rfl:j = 0∨j = 1∨j = 2:=(by omega) <;> exact cell_new (by simp) rfl);rintro r w1 ⟨rfl,hw1⟩;have HW1:=hid hw1;clear hw1)
    go_ret
    exact ⟨by rw [R.out];rfl,hb3.out.trans (HW1.out.mono hb3.out.size)⟩
  by_cases h7:k = 7
  · subst h7
    have C1:=hid (hasSt_call hS.out hO.out hnm hst)
    have C2:=hid (hasSt_call hS.out hO.out hnm hnx)
    have R:Hid (missI d 7 nm st nx = (!hasSt d nm st || !hasSt d nm nx)):=hid rfl
    have B1:Hid (((w.alloc (.cells #[.map (some m1),.map (some m2)] 109)).alloc (.cells #[.int .i64 7,.string nm,.int .i64 t,.int .i64 e,.int .i64 f,.slice o n c,.string st,.string nx,.int .i64 p] 62)).heap[w.heap.size]? = some (.cells #[.map (some m1),.map (some m2)] 109 (0,0))):=hid (al_old (al_new rfl))
    have B2:Hid (((w.alloc (.cells #[.map (some m1),.map (some m2)] 109)).alloc (.cells #[.int .i64 7,.string nm,.int .i64 t,.int .i64 e,.int .i64 f,.slice o n c,.string st,.string nx,.int .i64 p] 62)).heap[w.heap.size+1]? = some (.cells #[.int .i64 7,.string nm,.int .i64 t,.int .i64 e,.int .i64 f,.slice o n c,.string st,.string nx,.int .i64 p] 62 (0,0))):=hid (al_new (by simp))
    clear h3 h5 h8
    obtain ⟨q,hq⟩:∃ q,q = hasSt d nm st:=⟨_,rfl⟩
    rw [← hq] at C1 R
    clear hq
    cases q with
    | false =>
      go_enter Tryz.func95,Tryz.ntmps95
      go_wp2_with (go_at_call 97;(with_reducible refine (C1.out _ hb2.out).mono ?_);rintro r w1 ⟨rfl,hw1⟩;have HW1:=hid hw1;clear hw1)
      go_ret
      exact ⟨by rw [R.out];rfl,hb2.out.trans (HW1.out.mono hb2.out.size)⟩
    | true =>
      have tok:True:=trivial
      go_enter Tryz.func95,Tryz.ntmps95
      go_wp2_with (first
        | (have _k:=tok;clear tok _k;go_at_call 97;(with_reducible refine (C1.out _ hb2.out).mono ?_);rintro r w1 ⟨rfl,hw1⟩;have HW1:=hid hw1;have y0:=(cells_two ((hw1.block _ (lt_of_heap B1.out)).trans B1.out)).1;have y1:=(cells_two ((hw1.block _ (lt_of_heap B1.out)).trans B1.out)).2;have y2:=(cells_nine ((hw1.block _ (lt_of_heap B2.out)).trans B2.out)).1;have y3:=(cells_nine ((hw1.block _ (lt_of_heap B2.out)).trans B2.out)).2;have HB1:=hid (hb2.out.trans (hw1.mono hb2.out.size));clear hw1)
        | (go_at_call 97;(with_reducible refine (C2.out _ HB1.out).mono ?_);rintro r w2 ⟨rfl,hw2⟩;have HW2:=hid hw2;clear hw2))
      go_ret
      exact ⟨by rw [R.out];rfl,HB1.out.trans (HW2.out.mono HB1.out.size)⟩
  have R:Hid (missI d k nm st nx = false):=hid (by unfold missI;rw [if_neg h3,if_neg h5,if_neg h7,if_neg h8])
  have r3:(k == 3) = false:=by simpa using h3
  have r5:(k == 5) = false:=by simpa using h5
  have r7:(k == 7) = false:=by simpa using h7
  have r8:(k == 8) = false:=by simpa using h8
  clear h3 h5 h7 h8
  go_enter Tryz.func95,Tryz.ntmps95
  go_wp2_with fail
  go_ret
  exact ⟨by rw [R.out];rfl,hb2.out⟩
end
section
open Go.RowKit Lx Go.Shelf Go.Maps
attribute [local go_sem] Oper.semAt_some
def zVa:Va:=⟨⟨#[]⟩,0,0,0⟩
def lookV (d:De) (nm:ByteArray):Va:=((varsN d).find? (fun v=>decide (v.name = nm))).getD zVa
def takenI (d:De) (i k:Int) (nm:ByteArray) (l:List ByteArray):Bool :=
  if madeS k = 0 then false else ((lookV d nm).sort == 1 || (lookV d nm).index != i) || (k == 6 && dupB l)
theorem look_zVa (d:De) (nm:ByteArray):((strF (vaL (varsN d))) (.string nm.data.toList)).getD (.agg #[.string ⟨#[]⟩,.int .i64 0,.int .i64 0,.int .i64 0]) = VarV (lookV d nm).name (lookV d nm).sort (lookV d nm).type (lookV d nm).index:=by
  rw [vaL_find]
  unfold lookV
  cases (varsN d).find? (fun v=>decide (v.name = nm)) <;> rfl
theorem StrsAt.on {w W:World} {v:Value} {l:List ByteArray} (h:StrsAt w v l) (hb:Below w.heap.size w W):StrsAt W v l:=h.mono fun _ _ _ _ hc=>cell_on hb hc
set_option maxHeartbeats 8000000 in
set_option maxRecDepth 100000 in
theorem taken_any (m1 m2:Nat) (d:De) (i k t e f p:Int) (nm st nx:ByteArray) (l:List ByteArray) (o:Option Addr) (n c:Nat) (hnm:nm.size≤maxLen) (hl:∀ s∈l,s.size≤maxLen) (hln:l.length≤1000) (w:World) (hS:Hid (ScAt w m1 m2 d)) (hA:Hid (StrsAt w (.slice o n c) l)) :
    Calls Tryz.prog 94 #[.agg #[.map (some m1),.map (some m2)],.int .i64 i,.agg #[.int .i64 k,.string nm,.int .i64 t,.int .i64 e,.int .i64 f,.slice o n c,.string st,.string nx,.int .i64 p]] w fun r Y=>r = .returned (.bool (takenI d i k nm l))∧Below w.heap.size w Y:=by
  have hb1:=below_al (Below.refl w.heap.size w) (.cells #[.map (some m1),.map (some m2)] 109)
  have hb2:=hid (below_al hb1 (.cells #[.int .i64 k,.string nm,.int .i64 t,.int .i64 e,.int .i64 f,.slice o n c,.string st,.string nx,.int .i64 p] 62))
  have B1:Hid (((w.alloc (.cells #[.map (some m1),.map (some m2)] 109)).alloc (.cells #[.int .i64 k,.string nm,.int .i64 t,.int .i64 e,.int .i64 f,.slice o n c,.string st,.string nx,.int .i64 p] 62)).heap[w.heap.size]? = some (.cells #[.map (some m1),.map (some m2)] 109 (0,0))):=hid (al_old (al_new rfl))
  have B2:Hid (((w.alloc (.cells #[.map (some m1),.map (some m2)] 109)).alloc (.cells #[.int .i64 k,.string nm,.int .i64 t,.int .i64 e,.int .i64 f,.slice o n c,.string st,.string nx,.int .i64 p] 62)).heap[w.heap.size+1]? = some (.cells #[.int .i64 k,.string nm,.int .i64 t,.int .i64 e,.int .i64 f,.slice o n c,.string st,.string nx,.int .i64 p] 62 (0,0))):=hid (al_new (by simp))
  clear hb1
  have MD:Hid (∀ W,Calls Tryz.prog 64 #[.agg #[.int .i64 k,.string nm,.int .i64 t,.int .i64 e,.int .i64 f,.slice o n c,.string st,.string nx,.int .i64 p]] W fun r w'=>r = .returned (.tuple #[.int .i64 (madeS k),.int .i64 (madeT k t)])∧Below W.heap.size W w'):=hid fun W=>made_any k t e f p nm st nx o n c W
  have R0:Hid (takenI d i k nm l = if madeS k = 0 then false else ((lookV d nm).sort == 1 || (lookV d nm).index != i) || (k == 6 && dupB l)):=hid rfl
  have LK:Hid (∀ W,Below w.heap.size w W→(Instr.lookup 106 (.map (some m1)) (.string nm) false).run Tryz.prog W = .ok (VarV (lookV d nm).name (lookV d nm).sort (lookV d nm).type (lookV d nm).index) W):=hid fun W hW=>by
    have h:=(hS.out.below hW).vars.look strKeyed Tryz.underlying106 (zeroVar W) (keyStr nm hnm)
    rw [look_zVa] at h
    exact h
  have TW:Hid (∀ W,Below w.heap.size w W→Calls Tryz.prog 123 #[.slice o n c,.func (.func 122) #[] #[]] W fun r Y=>r = .returned (.bool (dupB l))∧Below W.heap.size W Y):=hid fun W hW=>twiceS_any _ l W (hA.out.on hW) hln hl
  obtain ⟨S,hSd⟩:∃ S,S = madeS k:=⟨_,rfl⟩
  obtain ⟨T,hTd⟩:∃ T,T = madeT k t:=⟨_,rfl⟩
  obtain ⟨v,hv⟩:∃ v,v = lookV d nm:=⟨_,rfl⟩
  obtain ⟨dp,hdp⟩:∃ dp,dp = dupB l:=⟨_,rfl⟩
  rw [← hSd,← hTd] at MD
  rw [← hv] at LK
  rw [← hSd,← hv,← hdp] at R0
  rw [← hdp] at TW
  clear hSd hTd hv hdp hS hA
  obtain ⟨vn,vs,vt,vi⟩:=v
  dsimp only [VarV] at LK R0
  by_cases hz:S = 0
  · rw [if_pos hz] at R0
    have qz:(S == 0) = true:=by simp [hz]
    clear hz
    go_enter Tryz.func94,Tryz.ntmps94
    go_wp2_with (go_at_call 64;(with_reducible refine (MD.out _).mono ?_);rintro r w1 ⟨rfl,hw1⟩;have HW1:=hid hw1;clear hw1)
    go_ret
    exact ⟨by rw [R0.out];rfl,hb2.out.trans (HW1.out.mono hb2.out.size)⟩
  rw [if_neg hz] at R0
  have qz:(S == 0) = false:=by simpa using hz
  clear hz
  have AFT:Hid (∀ w1,Below ((w.alloc (.cells #[.map (some m1),.map (some m2)] 109)).alloc (.cells #[.int .i64 k,.string nm,.int .i64 t,.int .i64 e,.int .i64 f,.slice o n c,.string st,.string nx,.int .i64 p] 62)).heap.size ((w.alloc (.cells #[.map (some m1),.map (some m2)] 109)).alloc (.cells #[.int .i64 k,.string nm,.int .i64 t,.int .i64 e,.int .i64 f,.slice o n c,.string st,.string nx,.int .i64 p] 62)) w1 →
      (w1.cell? ⟨w.heap.size,0,none⟩ = some (.map (some m1))∧w1.cell? ⟨w.heap.size+1,1,none⟩ = some (.string nm))∧(Instr.lookup 106 (.map (some m1)) (.string nm) false).run Tryz.prog w1 = .ok (.agg #[.string vn,.int .i64 vs,.int .i64 vt,.int .i64 vi]) w1 ∧
      Hid (Below w.heap.size w (w1.alloc (.cells #[.string vn,.int .i64 vs,.int .i64 vt,.int .i64 vi] 36)))∧(w1.alloc (.cells #[.string vn,.int .i64 vs,.int .i64 vt,.int .i64 vi] 36)).cell? ⟨w.heap.size+1,0,none⟩ = some (.int .i64 k)∧(w1.alloc (.cells #[.string vn,.int .i64 vs,.int .i64 vt,.int .i64 vi] 36)).cell? ⟨w.heap.size+1,5,none⟩ = some (.slice o n c)):=hid fun w1 hw1=>by
    have hb:=hb2.out.trans (hw1.mono hb2.out.size)
    have e1:=(hw1.block _ (lt_of_heap B1.out)).trans B1.out
    have e2:=(hw1.block _ (lt_of_heap B2.out)).trans B2.out
    have e3:=al_old (o:=.cells #[.string vn,.int .i64 vs,.int .i64 vt,.int .i64 vi] 36) e2
    exact ⟨⟨by simp [World.cell?,e1],by simp [World.cell?,e2]⟩,LK.out w1 hb,hid (below_al hb _),by simp [World.cell?,e3],by simp [World.cell?,e3]⟩
  by_cases h1:vs = 1∨¬ vi = i
  · have R:Hid (takenI d i k nm l = true):=hid (by rw [R0.out];rcases h1 with h1 | h1 <;> simp [h1])
    rcases h1 with h1 | h1
    · have q1:(vs == 1) = true:=by simp [h1]
      clear h1
      go_enter Tryz.func94,Tryz.ntmps94
      go_wp2_with (go_at_call 64;(with_reducible refine (MD.out _).mono ?_);rintro r w1 ⟨rfl,hw1⟩;obtain ⟨⟨y0,y1⟩,y2,HB,y3,y4⟩:=AFT.out _ hw1;clear hw1)
      go_ret
      exact ⟨by rw [R.out];rfl,HB.out⟩
    · by_cases h2:vs = 1
      · have q1:(vs == 1) = true:=by simp [h2]
        clear h1 h2
        go_enter Tryz.func94,Tryz.ntmps94
        go_wp2_with (go_at_call 64;(with_reducible refine (MD.out _).mono ?_);rintro r w1 ⟨rfl,hw1⟩;obtain ⟨⟨y0,y1⟩,y2,HB,y3,y4⟩:=AFT.out _ hw1;clear hw1)
        go_ret
        exact ⟨by rw [R.out];rfl,HB.out⟩
      · have q1:(vs == 1) = false:=by simpa using h2
        have q2:(vi != i) = true:=by simpa using h1
        clear h1 h2
        go_enter Tryz.func94,Tryz.ntmps94
        go_wp2_with (go_at_call 64;(with_reducible refine (MD.out _).mono ?_);rintro r w1 ⟨rfl,hw1⟩;obtain ⟨⟨y0,y1⟩,y2,HB,y3,y4⟩:=AFT.out _ hw1;clear hw1)
        go_ret
        exact ⟨by rw [R.out];rfl,HB.out⟩
  have h2:¬ vs = 1:=fun h=>h1 (.inl h)
  have h3:vi = i:=Decidable.byContradiction fun h=>h1 (.inr h)
  have q1:(vs == 1) = false:=by simpa using h2
  have q2:(vi != i) = false:=by simpa using h3
  have R:Hid (takenI d i k nm l = (k == 6 && dp)):=hid (by rw [R0.out,q1,q2];rfl)
  clear h1 h2 h3 R0
  by_cases h6:k = 6
  · have q6:(k == 6) = true:=by simp [h6]
    rw [q6] at R
    clear h6
    go_enter Tryz.func94,Tryz.ntmps94
    go_wp2_with (first
      | (go_at_call 64;(with_reducible refine (MD.out _).mono ?_);rintro r w1 ⟨rfl,hw1⟩;obtain ⟨⟨y0,y1⟩,y2,HB,y3,y4⟩:=AFT.out _ hw1;clear hw1)
      | (go_at_call 123;(with_reducible refine (TW.out _ HB.out).mono ?_);rintro r w2 ⟨rfl,hw2⟩;have HW2:=hid hw2;clear hw2))
    go_ret
    exact ⟨by rw [R.out];rfl,HB.out.trans (HW2.out.mono HB.out.size)⟩
  · have q6:(k == 6) = false:=by simpa using h6
    rw [q6] at R
    clear h6
    go_enter Tryz.func94,Tryz.ntmps94
    go_wp2_with (go_at_call 64;(with_reducible refine (MD.out _).mono ?_);rintro r w1 ⟨rfl,hw1⟩;obtain ⟨⟨y0,y1⟩,y2,HB,y3,y4⟩:=AFT.out _ hw1;clear hw1)
    go_ret
    exact ⟨by rw [R.out];rfl,HB.out⟩
end
section
open Go.RowKit Lx Go.Shelf Go.Maps
attribute [local go_sem] Oper.semAt_some
def calledN (p:Pr) (nm:ByteArray):Option (De × Nat):=p.decls.zipIdx.find? fun z=>decide (z.1.name = nm)
def wrongE (p:Pr) (d:De) (x:Ex):Bool :=
  if x.kind = 3 then !isAS d x.name [1,2,3,4] else if x.kind = 20 then !hasSt d x.name x.state else if x.kind = 19 then (match calledN p x.name with
    | some z=>z.1.kind == 3 || ((z.1.params.length:Int) != (x.args.length:Int))
    | none=>true) else false
theorem below_dn {s:Nat} {X Y:World} (h:Below s X Y) (q:Nat):Below s X (Y.drewN q):=⟨h.os,h.tape,h.output,h.size,h.block⟩
theorem firL_find (l:List De) (nm:ByteArray):strF (firL l) (.string nm.data.toList) = (l.zipIdx.find? (fun z=>decide (z.1.name = nm))).map fun z=>.int .i64 (z.2:Int):=by
  show ((firL l).find? (fun q=>q.1 == nm.data.toList)).map (·.2) = _
  unfold firL
  rw [List.find?_map,Option.map_map]
  have e:((fun q:List UInt8 × Value=>q.1 == nm.data.toList) ∘ fun z:De × Nat=>(z.1.name.data.toList,Value.int .i64 (z.2:Int))) = fun z=>decide (z.1.name = nm):=funext fun v=>data_eq
  rw [e]
  rfl
theorem called_at {p:Pr} {nm:ByteArray} {z:De × Nat} (h:calledN p nm = some z):p.decls[z.2]? = some z.1:=by
  have hm:=List.mem_of_find?_eq_some h
  obtain ⟨z1,z2⟩:=z
  have:=List.mem_zipIdx_iff_getElem?.1 hm
  exact this
set_option maxHeartbeats 8000000 in
set_option maxRecDepth 100000 in
theorem isWrong_core (m1 m2 mf N:Nat) (d:De) (x:Ex) (oa:Option Addr) (na ca:Nat) (hna:Hid (na = x.args.length)) (_hnal:(na:Int)≤9223372036854775807) (hxn:x.name.size≤maxLen) (hxs:x.state.size≤maxLen) (o1:Option Addr) (n1 c1 db doff:Nat) (ve:Value) (p:Pr) (w:World) (hS:Hid (ScAt w m1 m2 d)) (hO:Hid (ScOk d))
    (hF:Hid (MapIs w 9 mf N (strF (firL p.decls)))) (hn1:Hid (p.decls.length = n1)) (n1l:(n1:Int)≤60) (hd:Hid (0 < n1→o1 = some ⟨db,doff,none⟩)) (hdc:Hid (∀ i,i < n1→∀ x,p.decls[i]? = some x→DeAt w db (doff+i*7) x)) :
    Calls Tryz.prog 60 #[.agg #[.map (some m1),.map (some m2)],.agg #[.slice o1 n1 c1,ve],.map (some mf),.agg (exCells x (.slice oa na ca))] w fun r Y=>r = .returned (.bool (wrongE p d x))∧Below w.heap.size w Y:=by
  obtain ⟨k,ea,eb,ec,nm,st,ev,args,pos⟩:=x
  unfold exCells
  dsimp only at hna hxn hxs ⊢
  have hb1:=below_al (Below.refl w.heap.size w) (.cells #[.map (some m1),.map (some m2)] 109)
  have hb2:=below_al hb1 (.cells #[.slice o1 n1 c1,ve] 25)
  have hb3:=hid (below_al hb2 (.cells #[.int .i64 k,.int .i64 ea,.int .i64 eb,.int .i64 ec,.string nm,.string st,.int .i64 ev,.slice oa na ca,.int .i64 pos] 59))
  clear hb1 hb2
  by_cases h3:k = 3
  · subst h3
    have R:Hid (wrongE p d ⟨3,ea,eb,ec,nm,st,ev,args,pos⟩ = !isAS d nm [1,2,3,4]):=hid rfl
    have C1:=hid (isA_call hS.out hxn 4 [1,2,3,4] rfl (by omega))
    have hb4:=hid (below_al hb3.out (.cells #[.int .i64 1,.int .i64 2,.int .i64 3,.int .i64 4] 3))
    go_enter Tryz.func60,Tryz.ntmps60
    go_wp2_with (go_at_call 96;(with_reducible refine (C1.out _ hb4.out _ _ ?_).mono ?_);exact (fun j hj=>by have hj3:j < 4:=hj;obtain rfl | rfl | rfl | rfl:j = 0∨j = 1∨j = 2∨j = 3:=(by omega) <;> exact cell_new (by simp) rfl);rintro r w1 ⟨rfl,hw1⟩;have HW1:=hid hw1;clear hw1)
    go_ret
    exact ⟨by rw [R.out];rfl,hb4.out.trans (HW1.out.mono hb4.out.size)⟩
  by_cases h20:k = 20
  · subst h20
    have C1:=hid (hasSt_call hS.out hO.out hxn hxs)
    have R:Hid (wrongE p d ⟨20,ea,eb,ec,nm,st,ev,args,pos⟩ = !hasSt d nm st):=hid rfl
    clear h3
    go_enter Tryz.func60,Tryz.ntmps60
    go_wp2_with (go_at_call 97;(with_reducible refine (C1.out _ hb3.out).mono ?_);rintro r w1 ⟨rfl,hw1⟩;have HW1:=hid hw1;clear hw1)
    go_ret
    exact ⟨by rw [R.out];rfl,hb3.out.trans (HW1.out.mono hb3.out.size)⟩
  by_cases h19:k = 19
  · subst h19
    obtain ⟨V,hV⟩:∃ V,V = ((w.alloc (.cells #[.map (some m1),.map (some m2)] 109)).alloc (.cells #[.slice o1 n1 c1,ve] 25)).alloc (.cells #[.int .i64 19,.int .i64 ea,.int .i64 eb,.int .i64 ec,.string nm,.string st,.int .i64 ev,.slice oa na ca,.int .i64 pos] 59):=⟨_,rfl⟩
    have hbV:Below w.heap.size w V:=by rw [hV];exact hb3.out
    have lk:=(hF.out.below hbV hF.out.lt).look_ok strKeyed Tryz.underlying101 (zeroInt V) (keyStr nm hxn)
    rw [firL_find] at lk
    have R:Hid (wrongE p d ⟨19,ea,eb,ec,nm,st,ev,args,pos⟩ = match calledN p nm with
      | some z=>z.1.kind == 3 || ((z.1.params.length:Int) != (args.length:Int))
      | none=>true):=hid rfl
    unfold calledN at R
    clear h3 h20
    have B1:V.heap[w.heap.size+1]? = some (.cells #[.slice o1 n1 c1,ve] 25 (0,0)):=by rw [hV];exact al_old (al_new (by simp))
    have B2:V.heap[w.heap.size+1+1]? = some (.cells #[.int .i64 19,.int .i64 ea,.int .i64 eb,.int .i64 ec,.string nm,.string st,.int .i64 ev,.slice oa na ca,.int .i64 pos] 59 (0,0)):=by rw [hV];exact al_new (by simp)
    have y0:=(cells_two B1).1
    have y1:=(cells_nine B2).2
    have y2:V.cell? ⟨w.heap.size+1+1,4,none⟩ = some (.string nm):=by simp [World.cell?,B2]
    have y3:V.cell? ⟨w.heap.size+1+1,0,none⟩ = some (.int .i64 19):=by simp [World.cell?,B2]
    have HBV:=hid hbV
    cases hf:p.decls.zipIdx.find? (fun z=>decide (z.1.name = nm)) with
    | none =>
      rw [hf] at lk R
      dsimp only [Option.map,Option.getD,Option.isSome] at lk
      have HVE:=hid hV
      rw [hV] at lk
      clear hf B1 B2 hbV hV
      go_enter Tryz.func60,Tryz.ntmps60
      go_wp2_with fail
      clear lk
      rw [← HVE.out]
      go_quiet (fail)
      go_wp2_with fail
      go_ret
      exact ⟨by rw [R.out];rfl,below_dn HBV.out _⟩
    | some z =>
      obtain ⟨c,i⟩:=z
      have hci:=called_at (p:=p) (nm:=nm) hf
      dsimp only at hci
      have hi:i < n1:=by rw [← hn1.out];exact (List.getElem?_eq_some_iff.1 hci).1
      have ix:=ix_des (cap:=c1) hd.out hi (by omega)
      unfold Ix at ix
      obtain ⟨op,capp,oi,capi,bi,offi,hok,c0,c1',c2,c3,c4,c5,c6,hi3,hi4⟩:=de_cells' (hdc.out i hi c hci) hbV
      have hil:(i:Int) < (n1:Int):=by omega
      rw [hf] at lk R
      dsimp only [Option.map,Option.getD,Option.isSome] at lk R
      rw [← hna.out] at R
      have hp1:c.params.length≤9223372036854775807:=by have:=hok.params;unfold reachN at this;omega
      have HVE:=hid hV
      rw [hV] at lk
      obtain ⟨np,hnp⟩:∃ np,np = c.params.length:=⟨_,rfl⟩
      rw [← hnp] at R c2 hp1
      clear hf B1 B2 hbV hV hci hok hi3 hi4 c3 c4 c5 c6 c1' hnp
      by_cases hk:c.kind = 3
      · have q1:(c.kind == 3) = true:=by simp [hk]
        rw [q1] at R
        go_enter Tryz.func60,Tryz.ntmps60
        go_wp2_with fail
        clear lk
        rw [← HVE.out]
        go_quiet (fail)
        go_wp2_with fail
        go_ret
        exact ⟨by rw [R.out];rfl,below_dn HBV.out _⟩
      · have q1:(c.kind == 3) = false:=by simpa using hk
        rw [q1] at R
        clear hk
        go_enter Tryz.func60,Tryz.ntmps60
        go_wp2_with fail
        clear lk
        rw [← HVE.out]
        go_quiet (fail)
        go_wp2_with fail
        go_ret
        exact ⟨by rw [R.out];rfl,below_dn HBV.out _⟩
  have R:Hid (wrongE p d ⟨k,ea,eb,ec,nm,st,ev,args,pos⟩ = false):=hid (by unfold wrongE;dsimp only;rw [if_neg h3,if_neg h20,if_neg h19])
  have r3:(k == 3) = false:=by simpa using h3
  have r20:(k == 20) = false:=by simpa using h20
  have r19:(k == 19) = false:=by simpa using h19
  clear h3 h20 h19
  go_enter Tryz.func60,Tryz.ntmps60
  go_wp2_with fail
  go_ret
  exact ⟨by rw [R.out];rfl,hb3.out⟩
theorem isWrong_any (m1 m2 mf N:Nat) (d:De) (x:Ex) (sa sd se:Value) (p:Pr) (w:World) (hS:ScAt w m1 m2 d) (hO:ScOk d) (hF:MapIs w 9 mf N (strF (firL p.decls))) (hx:IntsAt w sa x.args) (hk:ExOk x) (hP:ProgAt w sd se p) (hsm:Small p) :
    Calls Tryz.prog 60 #[.agg #[.map (some m1),.map (some m2)],.agg #[sd,se],.map (some mf),.agg (exCells x sa)] w fun r Y=>r = .returned (.bool (wrongE p d x))∧Below w.heap.size w Y:=by
  obtain ⟨oa,ca,ba,fa,rfl,ha1,ha2,ha3,ha4⟩:=hx
  obtain ⟨⟨o1,dcap,db,doff,rfl,hd1,hd2,hd3,hd4⟩,h2,h3,h4⟩:=hP
  exact isWrong_core m1 m2 mf N d x oa _ ca (hid rfl) (by have:=hk.args;unfold reachN at this;omega) (by have:=hk.name;unfold reachN at this;unfold maxLen;omega) (by have:=hk.state;unfold reachN at this;unfold maxLen;omega) o1 _ dcap db doff se p w (hid hS) (hid hO) (hid hF) (hid rfl) (by have:=hsm.decls;omega) (hid hd3) (hid hd4)
end
end Go.Proofs.YtdlmfeflinbbjaaGreat
