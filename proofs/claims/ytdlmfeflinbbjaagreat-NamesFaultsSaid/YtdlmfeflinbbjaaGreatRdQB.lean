import Derived.Test.YtdlmfeflinbbjaaGreatRdQA
import Derived.Deep.AppendLies
namespace Go.Proofs.YtdlmfeflinbbjaaGreat
open Go.Lib (hid)
section
open Go.RowKit Lx
theorem NoEx.tok {cs:Array Value}:NoEx (.cells cs 95 (0,0)):=fun cs' h=>by cases h
def Box4 (W:World) (A kd:Nat) (tx:List UInt8) (tv:Int) (p:Nat):Prop:=W.heap[A]? = some (.cells #[.int .i64 (kd:Int),.string (str tx),.int .i64 tv,.int .i64 (p:Int)] 95 (0,0))
def RdBox (b g cap:Nat) (dv:Value) (ts:List Tok) (xb:Nat→Prop) (A kd:Nat) (tx:List UInt8) (tv:Int) (p:Nat) (W:World) (v:Value) (σ:RS) (n:Nat) (r:Ending) (Y:World):Prop :=
  r = .returned v∧Y.cell? ⟨A,0,none⟩ = some (.int .i64 (kd:Int))∧Y.cell? ⟨A,1,none⟩ = some (.string (str tx))∧Y.cell? ⟨A,3,none⟩ = some (.int .i64 (p:Int))∧Y.cell? ⟨b,1,none⟩ = some (.int .i64 (n:Int))∧Y.frozen? ⟨b,1,none⟩ = false ∧
    Hid (Rd Y b g cap dv ts xb σ)∧Hid (RK b W Y)∧Hid (Box4 Y A kd tx tv p)
theorem Box4.cells {W:World} {A kd:Nat} {tx:List UInt8} {tv:Int} {p:Nat} (h:Box4 W A kd tx tv p):W.cell? ⟨A,0,none⟩ = some (.int .i64 (kd:Int))∧W.cell? ⟨A,1,none⟩ = some (.string (str tx))∧W.cell? ⟨A,2,none⟩ = some (.int .i64 tv)∧W.cell? ⟨A,3,none⟩ = some (.int .i64 (p:Int)):=by
  unfold Box4 at h
  exact ⟨by simp [World.cell?,h],by simp [World.cell?,h],by simp [World.cell?,h],by simp [World.cell?,h]⟩
theorem Box4.keep {b:Nat} {W Y:World} {A kd:Nat} {tx:List UInt8} {tv:Int} {p:Nat} (h:Box4 W A kd tx tv p) (hk:RK b W Y) (hb:b≠A):Box4 Y A kd tx tv p:=hk.keep A _ h (Ne.symm hb) .tok
theorem RdRet.box {b g cap:Nat} {dv:Value} {ts:List Tok} {xb:Nat→Prop} {A kd:Nat} {tx:List UInt8} {tv:Int} {p:Nat} {W:World} {v:Value} {σ:RS} {n:Nat} {r:Ending} {Y:World} (h:RdRet b g cap dv ts xb W v σ r Y) (hn:σ.at_ = n) (hb:Hid (Box4 W A kd tx tv p)) (hbA:b≠A):RdBox b g cap dv ts xb A kd tx tv p W v σ n r Y:=by
  obtain ⟨h1,h2,h3⟩:=h
  obtain ⟨o,c,hc,_⟩:=h2.cells
  have hx:=hb.out.keep h3 hbA
  obtain ⟨x0,x1,_,x3⟩:=hx.cells
  exact ⟨h1,x0,x1,x3,hc.c1.trans (by rw [hn]),hc.fr 1,hid h2,hid h3,hid hx⟩
theorem RK.drew {b:Nat} {W Y:World} (h:RK b W Y) (hb:b≤W.heap.size):RK b W Y.drew:=h.trans (RK.of_below (Below.refl _ _).drew (Nat.le_trans hb h.size))
theorem Box4.set {W:World} {A kd:Nat} {tx:List UInt8} {tv:Int} {p:Nat} (h:Box4 W A kd tx tv p) {b:Nat} (hb:b≠A) (i:Nat) (v:Value):Box4 (W.setCell ⟨b,i,none⟩ v) A kd tx tv p:=(Below.heap_setCell W ⟨b,i,none⟩ v A (by simpa using Ne.symm hb)).trans h
end
section
open Go.RowKit Lx
end
section
open Go.RowKit Lx
structure ArgSt (Y:World) (b g cap:Nat) (dv:Value) (ts:List Tok) (xb:Nat→Prop) (A:Nat) (τ:RS) (acc:List Int) (v:Value):Prop where
  own:Y.ownsRow (A+1) 3 1 v acc.length (acc.map intC)
  rd:Rd Y b g cap dv ts (fun k=>xb k∨v.ownBlock = some k) τ
theorem Rd.less {W:World} {b g cap:Nat} {dv:Value} {ts:List Tok} {xb yb:Nat→Prop} {σ:RS} (h:Rd W b g cap dv ts xb σ) (hy:∀ k,yb k→xb k):Rd W b g cap dv ts yb σ:=by
  obtain ⟨o,c,h1,q,h2,h3,h4⟩:=h.blk
  exact ⟨fun k hk=>h.xlt k (hy k hk),⟨o,c,h1,q,h2,h3,fun p hp=>⟨(h4 p hp).1,fun k hk hyk=>(h4 p hp).2 k hk (hy k hyk)⟩⟩,h.row,h.lt,h.at_,h.len,h.ends⟩
theorem Rd.more {W:World} {b g cap:Nat} {dv:Value} {ts:List Tok} {xb yb:Nat→Prop} {σ:RS} (h:Rd W b g cap dv ts xb σ) (hy:∀ k,yb k→xb k∨False):Rd W b g cap dv ts yb σ:=h.less fun k hk=>(hy k hk).resolve_right id
theorem own_base {W:World} {B B' : Nat} {e:TypeId} {s:Nat} {v:Value} {n:Nat} {xs:List Value} (h:W.ownsRow B e s v n xs) (hb:B'≤B):W.ownsRow B' e s v n xs:=by
  refine ⟨h.1,?_⟩
  rcases h.2 with hn | ⟨g,cap,cur,rfl,hb2,rest⟩
  · exact .inl hn
  · exact .inr ⟨g,cap,cur,rfl,Nat.le_trans hb hb2,rest⟩
theorem ArgSt.call {W Y:World} {b g cap:Nat} {dv:Value} {ts:List Tok} {xb:Nat→Prop} {A:Nat} {τ σ:RS} {acc:List Int} {v:Value} (h:ArgSt W b g cap dv ts xb A τ acc v) (hbA:b < A+1) (hr:Rd Y b g cap dv ts (fun k=>xb k∨v.ownBlock = some k) σ) (hk:RK b W Y):ArgSt Y b g cap dv ts xb A σ acc v :=
  ⟨own_keep h.own hbA hk,hr⟩
theorem ArgSt.push {X Y:World} {b g cap:Nat} {dv:Value} {ts:List Tok} {xb:Nat→Prop} {A:Nat} {τ:RS} {acc:List Int} {v:Value} {n:Int} {g' c' : Nat} (h:ArgSt X b g cap dv ts xb A τ acc v) (hbA:b < A+1)
    (hg:X.grownBy Y v.ownBlock) (ho:Y.ownsRow (A+1) 3 1 (.slice (some ⟨g',0,none⟩) (acc.length+1) c') (acc.length+1) (acc.map intC ++ [.int .i64 n])) (hl:v.ownBlock = some g'∨g' = X.heap.size) (hlt:g' < Y.heap.size) :
    ArgSt Y b g cap dv ts xb A τ (acc ++ [n]) (.slice (some ⟨g',0,none⟩) (acc.length+1) c'):=by
  have hbs:=h.rd.size
  have hgs:g < X.heap.size:=by have:=h.rd.lt;omega
  have hne:∀ k,k < A+1→some k≠v.ownBlock:=fun k hk e=>by have:=(h.own.lt k e.symm).1;omega
  obtain ⟨o,c,h1,q,h2,h3,h4⟩:=h.rd.blk
  refine ⟨by rw [List.length_append,List.map_append];exact ho,⟨fun k hk=>?_,⟨o,c,(hg.block b hbs (hne b hbA)).trans h1,q,h2,?_,fun p hp=>⟨?_,?_⟩⟩,row_low h.rd.row (hg.block g hgs (hne g (by have:=h.rd.lt;omega))),h.rd.lt,h.rd.at_,h.rd.len,h.rd.ends⟩⟩
  · rcases hk with hk | hk
    · exact Nat.lt_of_lt_of_le (h.rd.xlt k (.inl hk)) hg.size
    · simp [Value.ownBlock] at hk;omega
  · refine rd_own_same h3 fun k e=>hg.block k (h3.lt k e).2 fun e2=>?_
    rcases h3.2 with ⟨h5,_⟩ | ⟨g3,c3,cur3,h5,_,h6,_⟩
    · rw [h5] at e;cases e
    · rcases h.own.2 with ⟨h7,_⟩ | ⟨g4,c4,cur4,h7,_,h8,_⟩
      · rw [h7] at e2;cases e2
      · rw [h5] at e;rw [h7] at e2
        simp [Value.ownBlock] at e e2
        subst e;subst e2
        rw [h6] at h8;cases h8
  · exact rd_own_same (h4 p hp).1 fun k e=>hg.block k ((h4 p hp).1.lt k e).2 fun e2=>(h4 p hp).2 k e (.inr e2.symm)
  · intro k e hk
    rcases hk with hk | hk
    · exact (h4 p hp).2 k e (.inl hk)
    · simp [Value.ownBlock] at hk
      rcases hl with hl | hl
      · exact (h4 p hp).2 k e (.inr (by rw [hl,hk]))
      · have:=((h4 p hp).1.lt k e).2;omega
theorem RK.grow_new {b:Nat} {W X Y:World} {row:Option Nat} (h:RK b W X) (hg:X.grownBy Y row) (hb:b≤W.heap.size) (hr:∀ k,row = some k→W.heap.size≤k):RK b W Y :=
  ⟨hg.os.trans h.os,hg.tape.trans h.tape,hg.output.trans h.output,Nat.le_trans h.size hg.size,fun k hk=>(hg.block k (by have:=h.size;omega) (fun e=>by have:=hr k e.symm;omega)).trans (h.low k hk),
    fun k o hk hkb hno=>(hg.block k (by have:=h.size;have:=heap_lt hk;omega) (fun e=>by have:=hr k e.symm;have:=heap_lt hk;omega)).trans (h.keep k o hk hkb hno)⟩
structure ArgAll (W Y:World) (b g cap:Nat) (dv:Value) (ts:List Tok) (xb:Nat→Prop) (A kd:Nat) (tx:List UInt8) (tv:Int) (p:Nat) (τ:RS) (acc:List Int) (v:Value):Prop where
  st:ArgSt Y b g cap dv ts xb A τ acc v
  box:Box4 Y A kd tx tv p
  rk:RK b W Y
theorem ArgAll.call {W X Y:World} {b g cap:Nat} {dv:Value} {ts:List Tok} {xb:Nat→Prop} {A kd:Nat} {tx:List UInt8} {tv:Int} {p:Nat} {τ σ:RS} {acc:List Int} {v:Value} (h:ArgAll W X b g cap dv ts xb A kd tx tv p τ acc v) (hbA:b < A)
    (hr:Rd Y b g cap dv ts (fun k=>xb k∨v.ownBlock = some k) σ) (hk:RK b X Y):ArgAll W Y b g cap dv ts xb A kd tx tv p σ acc v :=
  ⟨h.st.call (by omega) hr hk,h.box.keep hk (by omega),h.rk.trans hk⟩
theorem ArgAll.push {W X Y:World} {b g cap:Nat} {dv:Value} {ts:List Tok} {xb:Nat→Prop} {A kd:Nat} {tx:List UInt8} {tv:Int} {p:Nat} {τ:RS} {acc:List Int} {v:Value} {n:Int} {g' c' : Nat} (h:ArgAll W X b g cap dv ts xb A kd tx tv p τ acc v) (hbA:b < A) (hA:A = W.heap.size)
    (hg:(X.alloc (.cells #[.int .i64 n] 3)).grownBy Y v.ownBlock) (ho:Y.ownsRow (A+1) 3 1 (.slice (some ⟨g',0,none⟩) (acc.length+1) c') (acc.length+1) (acc.map intC ++ [.int .i64 n]))
    (hl:v.ownBlock = some g'∨g' = (X.alloc (.cells #[.int .i64 n] 3)).heap.size) (hlt:g' < Y.heap.size):ArgAll W Y b g cap dv ts xb A kd tx tv p τ (acc ++ [n]) (.slice (some ⟨g',0,none⟩) (acc.length+1) c'):=by
  have hb0:Below X.heap.size X (X.alloc (.cells #[.int .i64 n] 3)):=(Below.refl _ _).alloc (Nat.le_refl _) _
  have hk0:RK b X (X.alloc (.cells #[.int .i64 n] 3)):=RK.of_below hb0 (Nat.le_of_lt h.st.rd.size)
  have h2:=h.call hbA (h.st.rd.below hb0) hk0
  have hxA:A < (X.alloc (.cells #[.int .i64 n] 3)).heap.size:=heap_lt h2.box
  exact ⟨h2.st.push (by omega) hg ho hl hlt,(hg.block A hxA fun e=>by have:=(h2.st.own.lt A e.symm).1;omega).trans h2.box,h2.rk.grow_new hg (by omega) fun k e=>by have:=(h2.st.own.lt k e).1;omega⟩
theorem own_form {W:World} {B:Nat} {e:TypeId} {s:Nat} {v:Value} {n:Nat} {xs:List Value} (h:W.ownsRow B e s v n xs):∃ o c,v = .slice o n c:=by
  rcases h.2 with ⟨rfl,rfl⟩ | ⟨g,cap,cur,rfl,_⟩
  · exact ⟨none,0,rfl⟩
  · exact ⟨_,cap,rfl⟩
end
section
open Go.RowKit Lx
def ArgI (W:World) (b g cap:Nat) (dv:Value) (ts:List Tok) (xb:Nat→Prop) (A kd:Nat) (tx:List UInt8) (tv:Int) (p f:Nat) (R:Int × List Int × RS) (n:Nat) (x:Value × World):Prop :=
  ∃ (acc:List Int) (τ:RS),n≤f∧runE ts n (.args acc) τ = some R∧ArgAll W x.2 b g cap dv ts xb A kd tx tv p τ acc x.1
end
section
open Go.RowKit Lx
def preA:Array Value:=(prefixL.map fun p=>Value.string (str p.1)).toArray
def preB:Array Value:=(prefixL.map fun p=>Value.int .i64 p.2).toArray
theorem NoEx.str {cs:Array Value}:NoEx (.cells cs 9 (0,0)):=fun cs' h=>by cases h
structure PreL (W:World) (A:Nat):Prop where
  one:W.heap[A]? = some (.cells preA 9 (0,0))
  two:W.heap[A+1]? = some (.cells preB 3 (0,0))
theorem PreL.keep {b A:Nat} {W Y:World} (h:PreL W A) (hk:RK b W Y) (hb:b < A):PreL Y A:=⟨hk.keep A _ h.one (by omega) .str,hk.keep (A+1) _ h.two (by omega) .int⟩
theorem PreL.new (w:World):PreL ((w.alloc (.cells preA 9)).alloc (.cells preB 3)) w.heap.size:=by
  refine ⟨?_,?_⟩
  · rw [heap_alloc_old _ _ (by simp)];exact heap_alloc_new w _
  · have:=heap_alloc_new (w.alloc (.cells preA 9)) (.cells preB 3);rwa [World.size_alloc] at this
end
section
open Go.RowKit Lx
def BinI (ts:List Tok) (xb:Nat→Prop) (b g cap:Nat) (dv:Value) (least f:Nat) (R:Int × List Int × RS) (W:World) (n:Nat) (x:Value × World):Prop :=
  ∃ (a:Int) (σ:RS),x.1 = .int .i64 a∧n≤f∧runE ts n (.loop least a) σ = some R∧Rd x.2 b g cap dv ts xb σ∧RK b W x.2
end
section
open Go.RowKit Lx
end
section
open Go.RowKit Lx
theorem toks_four {l:List UInt8} {a:Nat} {ts:List Tok} {r:Option Nat} (h:Toks l a ts r):∀ t∈ts,t.kind≤4:=by
  induction h with
  | fin=>simp
  | bad=>simp
  | tok h1 h2 _ ih =>
    intro t ht
    rcases List.mem_cons.1 ht with rfl | ht
    · unfold tokAt tokOf
      split
      · simp
      · rename_i k n v hk
        exact (oneL_some hk).2.1
    · exact ih t ht
theorem end_ok {l:List UInt8} {ts:List Tok} {r:Option Nat} (h:lexT l ts r) (n:Nat):EndOk (ts ++ [endT n]):=by
  refine ⟨by simp,fun i t hi=>?_⟩
  rw [List.length_append]
  rcases Nat.lt_or_ge i ts.length with h1 | h1
  · rw [List.getElem?_append_left h1] at hi
    have:=toks_four h t (List.mem_of_getElem? hi)
    simp;omega
  · rw [List.getElem?_append_right h1] at hi
    have h2:i - ts.length = 0:=by
      rcases Nat.eq_zero_or_pos (i - ts.length) with h3 | h3
      · exact h3
      · rw [List.getElem?_eq_none (by simp;omega)] at hi;cases hi
    rw [h2] at hi
    obtain rfl:endT n = t:=by simpa using hi
    simp [endT];omega
theorem ref_lex_any:RefLex:=ref_lex (ref_one (ref_signed ref_size))
def rs0:RS:=⟨0,[],0,0,0⟩
theorem rd_new {w:World} {g cap:Nat} {ts:List Tok} (hr:RowAt w g ts) (hl:ts.length≤40000) (he:EndOk ts) :
    Rd (w.alloc (.cells #[.slice (some ⟨g,0,none⟩) ts.length cap,.int .i64 0,.slice none 0 0,.slice none 0 0,.int .i64 0,.int .i64 0,.int .i64 0] 92)) w.heap.size g cap (.slice none 0 0) ts (fun _=>False) rs0 :=
  ⟨fun k hk=>hk.elim,⟨none,0,heap_alloc_new w _,[],rfl,World.ownsRow_nil _ _ _ _,fun p hp=>by cases hp⟩,hr.below ((Below.refl _ _).alloc (Nat.le_refl _) _),hr.1,he.1,hl,he⟩
theorem ExsOwn.base {W:World} {b B:Nat} {xb:Nat→Prop} {v:Value} {l:List Ex} (h:ExsOwn W b xb v l) (hb:B≤b):ExsOwn W B xb v l:=by
  obtain ⟨q,h1,h2,h3⟩:=h
  exact ⟨q,h1,own_base h2 (by omega),fun p hp=>⟨own_base (h3 p hp).1 (by omega),(h3 p hp).2⟩⟩
def ParsedE (v:Int) (es:List Ex) (W:World) (r:Ending) (Y:World):Prop :=
  ∃ o c,r = .returned (.tuple #[.agg #[.slice none 0 0,.slice o es.length c],.int .i64 v,.agg #[.int .i64 0,.int .i64 0]])∧ExsOwn Y W.heap.size (fun _=>False) (.slice o es.length c) es∧Below W.heap.size W Y
end
end Go.Proofs.YtdlmfeflinbbjaaGreat
