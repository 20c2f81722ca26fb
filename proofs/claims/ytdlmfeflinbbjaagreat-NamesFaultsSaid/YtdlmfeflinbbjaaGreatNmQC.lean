import Derived.Test.YtdlmfeflinbbjaaGreatNmQB
import Derived.Test.YtdlmfeflinbbjaaGreatNmJR
import Derived.Test.YtdlmfeflinbbjaaGreatAheadKitJ
import Derived.Sort.QuietIn
namespace Go.Proofs.YtdlmfeflinbbjaaGreat
open Go.Lib (hid)
section
open Go.RowKit Lx Go.Shelf Go.Maps
inductive Reach (p:Pr) (r:List Int):Nat→Prop
  | root {n:Nat}:(n:Int)∈r→Reach p r n
  | part {n m:Nat}:Reach p r n→m∈partsN p n→Reach p r m
def fre (e:Nat) (S:List Nat):Nat:=(List.range e).countP fun j=>!decide (j∈S)
theorem fre_cons (n:Nat) (S:List Nat) (hn:n ∉ S):∀ m,(n < m→fre m (S ++ [n])+1 = fre m S)∧(m≤n→fre m (S ++ [n]) = fre m S)
  | 0=>⟨fun h=>by omega,fun _=>rfl⟩
  | m+1=>by
    obtain ⟨h1,h2⟩:=fre_cons n S hn m
    unfold fre at h1 h2 ⊢
    rw [List.range_succ,List.countP_append,List.countP_append,List.countP_singleton,List.countP_singleton]
    refine ⟨fun h=>?_,fun h=>?_⟩
    · by_cases hm:n = m
      · subst hm
        rw [h2 (Nat.le_refl _),if_neg (by simp),if_pos (by simpa using hn)]
      · have:=h1 (by omega)
        have hiff:(m∈S ++ [n])↔m∈S:=by simp [Ne.symm hm]
        simp only [hiff];omega
    · have:=h2 (by omega)
      have hiff:(m∈S ++ [n])↔m∈S:=by simp;omega
      simp only [hiff];omega
theorem fre_nil (e:Nat):fre e [] = e:=by
  unfold fre
  rw [List.countP_eq_length.2 (by simp),List.length_range]
theorem fre_pos {e n:Nat} {S:List Nat} (hn:n ∉ S) (he:n < e):fre e (S ++ [n])+1 = fre e S:=(fre_cons n S hn e).1 he
def Marks (X:World) (b ne:Nat) (t:Int) (S:List Nat):Prop:=∃ cs:Array Value,X.heap[b]? = some (.cells cs 3 (0,0))∧cs.size = ne∧∀ j,j < ne→∃ a:Int,cs[j]? = some (.int .i64 a)∧a≤t∧(a = t↔j∈S)
def MarksLe (X:World) (b ne:Nat) (t:Int):Prop:=∃ cs:Array Value,X.heap[b]? = some (.cells cs 3 (0,0))∧cs.size = ne∧∀ j,j < ne→∃ a:Int,cs[j]? = some (.int .i64 a)∧a≤t
theorem MarksLe.start {X:World} {b ne:Nat} {t:Int} (h:MarksLe X b ne t):Marks X b ne (t+1) []:=by
  obtain ⟨cs,h1,h2,h3⟩:=h
  refine ⟨cs,h1,h2,fun j hj=>?_⟩
  obtain ⟨a,e1,e2⟩:=h3 j hj
  exact ⟨a,e1,by omega,by simp;omega⟩
theorem Marks.le {X:World} {b ne:Nat} {t:Int} {S:List Nat} (h:Marks X b ne t S):MarksLe X b ne t:=by
  obtain ⟨cs,h1,h2,h3⟩:=h
  exact ⟨cs,h1,h2,fun j hj=>by obtain ⟨a,e1,e2,_⟩:=h3 j hj;exact ⟨a,e1,e2⟩⟩
theorem Marks.same {X Y:World} {b ne:Nat} {t:Int} {S:List Nat} (h:Marks X b ne t S) (he:Y.heap[b]? = X.heap[b]?):Marks Y b ne t S:=by
  obtain ⟨cs,h1,h2⟩:=h
  exact ⟨cs,he.trans h1,h2⟩
theorem MarksLe.same {X Y:World} {b ne:Nat} {t:Int} (h:MarksLe X b ne t) (he:Y.heap[b]? = X.heap[b]?):MarksLe Y b ne t:=by
  obtain ⟨cs,h1,h2⟩:=h
  exact ⟨cs,he.trans h1,h2⟩
theorem Marks.at {X:World} {b ne:Nat} {t:Int} {S:List Nat} (h:Marks X b ne t S) {z:Nat} (hz:z < ne):∃ a:Int,X.cell? ⟨b,z,none⟩ = some (.int .i64 a)∧(a = t↔z∈S):=by
  obtain ⟨cs,h1,h2,h3⟩:=h
  obtain ⟨a,e1,_,e2⟩:=h3 z hz
  exact ⟨a,by simp [World.cell?,h1,e1],e2⟩
theorem Marks.froz {X:World} {b ne:Nat} {t:Int} {S:List Nat} (h:Marks X b ne t S) (j:Nat):X.frozen? ⟨b,j,none⟩ = false:=by
  obtain ⟨cs,h1,_⟩:=h
  simp [World.frozen?,h1]
theorem Marks.mark {X:World} {b ne:Nat} {t:Int} {S:List Nat} (h:Marks X b ne t S) {z:Nat}:Marks (X.setCell ⟨b,z,none⟩ (.int .i64 t)) b ne t (S ++ [z]):=by
  obtain ⟨cs,h1,h2,h3⟩:=h
  refine ⟨_,set_heap h1 z _,by simp [h2],fun j hj=>?_⟩
  rw [Array.getElem?_setIfInBounds]
  by_cases hji:z = j
  · subst hji;rw [if_pos rfl,if_pos (by omega)];exact ⟨t,rfl,Int.le_refl _,by simp⟩
  · rw [if_neg hji]
    obtain ⟨a,e1,e2,e3⟩:=h3 j hj
    exact ⟨a,e1,e2,by simp [e3,Ne.symm hji]⟩
def isMk (t:Int):Value→Bool
  | .int _ a=>a == t
  | _=>false
def openM (b:Nat) (t:Int) (X:World):Nat:=match X.heap[b]? with
  | some (.cells cs _ _)=>cs.toList.countP fun v=>!isMk t v
  | _=>0
def lenS:Value→Nat
  | .slice _ n _=>n
  | _=>0
theorem Marks.open {X:World} {b ne:Nat} {t:Int} {S:List Nat} (h:Marks X b ne t S):openM b t X = fre ne S:=by
  obtain ⟨cs,h1,h2,h3⟩:=h
  unfold openM fre
  rw [h1]
  have e:(cs.toList.map fun v=>!isMk t v) = (List.range ne).map fun j=>!decide (j∈S):=by
    apply List.ext_getElem?
    intro j
    rw [List.getElem?_map,List.getElem?_map,Array.getElem?_toList]
    by_cases hj:j < ne
    · obtain ⟨a,e1,_,e2⟩:=h3 j hj
      rw [e1,List.getElem?_range hj]
      show some (!(a == t)) = some (!decide (j∈S))
      by_cases ha:a = t
      · simp [ha,e2.1 ha]
      · rw [beq_false_of_ne ha,decide_eq_false (fun hm=>ha (e2.2 hm))]
    · rw [Array.getElem?_eq_none (by omega),List.getElem?_eq_none (by simp;omega)];rfl
  have e2:=congrArg (List.countP id) e
  rw [List.countP_map,List.countP_map] at e2
  exact e2
structure WkMem (M:Nat→Prop) (rw:World→Option Nat) (w:World) (n1 b ne:Nat) (t:Int) (base:Nat) (S L:List Nat) (v:Value) (X:World):Prop where
  kept:Kept (fun k=>M k∨k = b) rw w X
  marks:Marks X b ne t S
  mrow:rw X≠some b
  left:X.ownsRow base 3 1 v L.length (L.map natV)
  n1b:n1≤base
  bx:base≤X.heap.size
  lrow:∀ g,v.ownBlock = some g→rw X≠some g
  rlt:∀ k,rw X = some k→k < X.heap.size
  old:∀ k,M k→k < n1
namespace WkMem
variable {M:Nat→Prop} {rw:World→Option Nat} {w:World} {n1 b ne:Nat} {t:Int} {base:Nat} {S L:List Nat} {v:Value} {X Y:World}
theorem keep (h:WkMem M rw w n1 b ne t base S L v X) (hb:b < w.heap.size) (hM:¬ M b) (hk:KeepX M rw w.heap.size n1 X Y):WkMem M rw w n1 b ne t base S L v Y:=by
  obtain ⟨cs,hcs,_⟩:=h.marks
  have hbx:=(Array.getElem?_eq_some_iff.1 hcs).1
  refine ⟨h.kept.keepx (n1:=n1) ⟨hk.1,fun k h1 h2 h3 h4=>hk.2.1 k h1 (fun hm=>h2 (.inl hm)) h3 h4,hk.2.2⟩,h.marks.same (hk.2.1 b hbx hM h.mrow (.inl hb)),fun e=>?_,own_same h.left fun g hg=>?_,h.n1b,Nat.le_trans h.bx hk.1,fun g h1 h2=>?_,fun k h1=>?_,h.old⟩
  · rcases hk.2.2 b e with e2 | e2
    · exact h.mrow e2
    · omega
  · obtain ⟨h1,cur,h2⟩:=own_lt h.left hg
    have:=h.n1b
    exact hk.2.1 g (Array.getElem?_eq_some_iff.1 h2).1 (fun hm=>by have:=h.old g hm;omega) (h.lrow g hg) (.inr (by omega))
  · obtain ⟨_,cur,h4⟩:=own_lt h.left h1
    have hlt:=(Array.getElem?_eq_some_iff.1 h4).1
    rcases hk.2.2 g h2 with h3 | h3
    · exact h.lrow g h1 h3
    · omega
  · rcases hk.2.2 k h1 with h2 | h2
    · exact Nat.lt_of_lt_of_le (h.rlt k h2) hk.1
    · exact h2.2
theorem below (h:WkMem M rw w n1 b ne t base S L v X) (hR:∀ X Y:World,(∀ k,k < w.heap.size→k≠b→Y.heap[k]? = X.heap[k]?)→rw Y = rw X) (hB:Below X.heap.size X Y):WkMem M rw w n1 b ne t base S L v Y:=by
  have hs:=h.kept.1
  have hr:rw Y = rw X:=hR X Y fun k hk _=>hB.block k (by omega)
  obtain ⟨cs,hcs,_⟩:=h.marks
  have hbx:=(Array.getElem?_eq_some_iff.1 hcs).1
  refine ⟨⟨Nat.le_trans hs hB.size,fun k hk=>h.kept.2.1 k (hr ▸ hk),fun k hk=>(hB.block k (Nat.lt_of_lt_of_le hk.1 hs)).trans (h.kept.2.2 k hk)⟩,h.marks.same (hB.block b hbx),fun e=>h.mrow (hr ▸ e),own_same h.left fun g hg=>?_,h.n1b,Nat.le_trans h.bx hB.size,fun g h1 h2=>h.lrow g h1 (hr ▸ h2),fun k hk=>Nat.lt_of_lt_of_le (h.rlt k (hr ▸ hk)) hB.size,h.old⟩
  obtain ⟨_,cur,h2⟩:=own_lt h.left hg
  exact hB.block g (Array.getElem?_eq_some_iff.1 h2).1
theorem slice (h:WkMem M rw w n1 b ne t base S L v X):∃ o cap,v = .slice o L.length cap:=by
  rcases h.left.2 with ⟨h1,h2⟩ | ⟨g,cap,cur,h1,_⟩
  · exact ⟨none,0,by rw [h1,h2]⟩
  · exact ⟨_,_,h1⟩
theorem top {n:Nat} (h:WkMem M rw w n1 b ne t base S (L ++ [n]) v X):∃ g cap,v = .slice (some ⟨g,0,none⟩) (L.length+1) cap∧L.length+1≤cap∧cap≤maxLen∧X.cell? ⟨g,L.length,none⟩ = some (.int .i64 (n:Int)) ∧
    WkMem M rw w n1 b ne t base S L (.slice (some ⟨g,0,none⟩) L.length cap) X:=by
  have hl:=h.left
  rw [List.length_append,List.length_singleton,List.map_append] at hl
  rcases hl.2 with ⟨_,h0⟩ | ⟨g,cap,cur,rfl,hb,hgb,hnc,hcm,hcs,htk⟩
  · omega
  · rw [Nat.mul_one] at hcs htk
    refine ⟨g,cap,rfl,hnc,hcm,?_,h.kept,h.marks,h.mrow,⟨by simp,.inr ⟨g,cap,cur,rfl,hb,hgb,by omega,hcm,by omega,?_⟩⟩,h.n1b,h.bx,fun g' h1=>h.lrow g' h1,h.rlt,h.old⟩
    · have h1:(cur.toList.take (L.length+1))[L.length]? = some (natV n):=by
        rw [htk,List.getElem?_append_right (by simp)];simp
      rw [List.getElem?_take_of_lt (by omega),Array.getElem?_toList] at h1
      simp [World.cell?,hgb,h1,natV]
    · have h1:=congrArg (List.take L.length) htk
      rw [List.take_take,Nat.min_eq_left (by omega)] at h1
      rw [Nat.mul_one,h1,List.take_append_of_le_length (by simp),List.take_of_length_le (by simp)]
theorem mark (h:WkMem M rw w n1 b ne t base S L v X) (hb:b < w.heap.size) (hw:w.heap.size≤n1) (hR:∀ X Y:World,(∀ k,k < w.heap.size→k≠b→Y.heap[k]? = X.heap[k]?)→rw Y = rw X) {n:Nat}:WkMem M rw w n1 b ne t base (S ++ [n]) L v (X.setCell ⟨b,n,none⟩ (.int .i64 t)):=by
  have hs:X.heap.size≤(X.setCell ⟨b,n,none⟩ (.int .i64 t)).heap.size:=((Below.refl 0 X).setCell (p:=⟨b,n,none⟩) (Nat.zero_le _) _).size
  have hbk:∀ k,k≠b→(X.setCell ⟨b,n,none⟩ (.int .i64 t)).heap[k]? = X.heap[k]?:=fun k hk=>set_other X b k n _ hk
  have hr:rw (X.setCell ⟨b,n,none⟩ (.int .i64 t)) = rw X:=hR X _ fun k _ hk=>hbk k hk
  refine ⟨⟨Nat.le_trans h.kept.1 hs,fun k hk=>h.kept.2.1 k (hr ▸ hk),fun k hk=>(hbk k (fun e=>hk.2.1 (.inr e))).trans (h.kept.2.2 k hk)⟩,h.marks.mark,fun e=>h.mrow (hr ▸ e),own_same h.left fun g hg=>?_,h.n1b,Nat.le_trans h.bx hs,fun g h1 h2=>h.lrow g h1 (hr ▸ h2),fun k hk=>Nat.lt_of_lt_of_le (h.rlt k (hr ▸ hk)) hs,h.old⟩
  have h1:=(own_lt h.left hg).1
  have h2:=h.n1b
  exact hbk g (by omega)
theorem push (h:WkMem M rw w n1 b ne t base S L v X) (hb:b < w.heap.size) (hw:w.heap.size≤n1) (hR:∀ X Y:World,(∀ k,k < w.heap.size→k≠b→Y.heap[k]? = X.heap[k]?)→rw Y = rw X) {v' : Value} {ps:List Nat} (hown:Y.ownsRow base 3 1 v' (L.length+ps.length) (L.map natV ++ ps.map natV)) (hg:X.grownBy Y v.ownBlock) (ha:v'.ownBlock = v.ownBlock∨v'.ownBlock = some X.heap.size):WkMem M rw w n1 b ne t base S (L ++ ps) v' Y:=by
  have hvb:∀ g,v.ownBlock = some g→base≤g:=fun g hg=>(own_lt h.left hg).1
  have h2:=h.n1b
  have hlow:∀ k,k < w.heap.size→v.ownBlock≠some k:=fun k hk e=>by have:=hvb k e;omega
  have hr:rw Y = rw X:=hR X Y fun k hk _=>hg.block k (Nat.lt_of_lt_of_le hk h.kept.1) (Ne.symm (hlow k hk))
  obtain ⟨cs,hcs,_⟩:=h.marks
  have hbx:=(Array.getElem?_eq_some_iff.1 hcs).1
  refine ⟨⟨Nat.le_trans h.kept.1 hg.size,fun k hk=>h.kept.2.1 k (hr ▸ hk),fun k hk=>(hg.block k (Nat.lt_of_lt_of_le hk.1 h.kept.1) (Ne.symm (hlow k hk.1))).trans (h.kept.2.2 k hk)⟩,h.marks.same (hg.block b hbx (Ne.symm (hlow b hb))),fun e=>h.mrow (hr ▸ e),by rw [List.length_append,List.map_append];exact hown,h.n1b,Nat.le_trans h.bx hg.size,fun g h1 h3=>?_,fun k hk=>Nat.lt_of_lt_of_le (h.rlt k (hr ▸ hk)) hg.size,h.old⟩
  rw [hr] at h3
  rcases ha with e | e
  · exact h.lrow g (e ▸ h1) h3
  · rw [e] at h1
    cases h1
    have:=h.rlt _ h3
    omega
end WkMem
theorem app_ints {w:World} {base base2 n m:Nat} {v y:Value} {xs news:List Value} (hown:w.ownsRow base 3 1 v n xs) (hy:w.ownsRow base2 3 1 y m news) (h1:∀ u∈news,u.oneCell' = true) (hn:n≤10000000) (hm:m≤10000) (hb:base≤w.heap.size) :
    ∃ v' w',(Builtin.append_ #[33,33] 33 #[v,y]).run Tryz.prog w = .ok v' w'∧w'.ownsRow base 3 1 v' (n+m) (xs ++ news)∧w.grownBy w' v.ownBlock∧(v'.ownBlock = v.ownBlock∨v'.ownBlock = some w.heap.size):=by
  obtain ⟨i,h2,h3,h4,h5⟩:=info_parts (show (Tryz.prog.info? 3).map (fun i=>(i.zero,i.size,i.bytes)) = some (some (.int .i64 0),1,8) by kernel_rfl)
  rcases hy.2 with ⟨rfl,rfl⟩ | ⟨g,cap,cur,rfl,hg⟩
  · have hnil:news = []:=List.eq_nil_of_length_eq_zero (by simpa using hy.1)
    subst hnil
    refine ⟨v,w,?_,by simpa using hown,⟨rfl,rfl,rfl,Nat.le_refl _,fun _ _ _=>rfl⟩,.inl rfl⟩
    rcases hown.2 with ⟨rfl,rfl⟩ | ⟨g,cap,cur,rfl,hbg,hg,hnc,hcm,hcs,htake⟩
    · simp [Builtin.append_,run_underlying Tryz.underlying33,sizeOf,typeInfo,h2,Builtin.lenOf,Builtin.firstCells]
    · simp [Builtin.append_,run_underlying Tryz.underlying33,sizeOf,typeInfo,h2,Builtin.lenOf,Builtin.firstCells,loadCells,storeCells,hnc]
  · obtain ⟨v',w',r1,r2,r3,_,r5⟩:=run_append_own_at (P:=Tryz.prog) w base 33 33 3 i _ 1 8 Tryz.underlying33 h2 h3 h4 h5 rfl (by decide) v n xs hown ⟨g,0,none⟩ m cap news (by rw [hy.1]) (hy.cells (g:=g) rfl) h1 (by unfold maxLen;omega) (by omega) hb
    exact ⟨v',w',r1,r2,r3,r5⟩
end
section
open Go.RowKit Lx Go.Shelf Go.Maps
attribute [local go_sem] Oper.semAt_some
theorem wpListIn_appR {F:Fence} {nF:Nat} {P:Program} {w w' : World} {ops:Array Oper} {rest:List Oper} {o:Oper} {a:Act} {Q:Exit→Act→World→Prop} (hgd:o.guard = none) (s x:Operand) (t:TypeId)
    (ho:o.op = .call { callee:=.builtin .append,args:=#[s,x],argTypes:=#[t,t] }) {v y v' : Value} (hs:a.eval s = v) (hx:a.eval x = y) (hr:(Builtin.append_ #[t,t] o.type #[v,y]).run P w = .ok v' w')
    (h:wpListIn F nF P ops Q rest (a.put o.dst v') w'):wpListIn F nF P ops Q (o :: rest) a w:=by
  refine wpListIn_plain hgd fun K hK=>?_
  unfold Oper.wpIn
  refine ⟨by simp [Oper.about,ho,resolve,Target.leads,Sem.run_pure],?_⟩
  rw [Oper.semAt_plain F _ _ (by rw [ho];intro c hc';cases hc')]
  simp [execOp,ho,resolve,invoke,builtin,hs,hx,hr,Result.andThen]
  exact hK _ _ h
theorem collectR_own (d:De) (B:Nat) (w0 w:World) (s t:Value) (hs:Hid (SlAt s d.params.length 2 (fun b o i=>∀ y,d.params[i]? = some y→PaAt w0 b o y))) (ht:Hid (SlAt t d.items.length 9 (fun b o i=>∀ y,d.items[i]? = some y→ItAt w0 b o y))) (hb:Hid (Below w0.heap.size w0 w))
    (hB:Hid (w.heap[B]? = some (.cells #[.int .i64 d.kind,.string d.name,s,t,.int .i64 d.type,.int .i64 d.e,.int .i64 d.pos] 44 (0,0)))) (hl:Hid (d.params.length≤600∧d.items.length≤600)) :
    Calls Tryz.prog 36 #[.func (.func 67) #[] #[.pointer (some ⟨B,0,none⟩)]] w fun e w'=>∃ v,e = .returned v∧w'.ownsRow w.heap.size 3 1 v (rootsN d).length ((rootsN d).map intV)∧Below w.heap.size w w':=by
  have C:=hid (callsIn_wide.1 (appendR_core d B w0 w s t hs ht hb hB hl))
  go_enter Tryz.func36,Tryz.ntmps36
  go_wp2_with (go_at_call 66;((with_reducible refine C.out.mono ?_);rintro e w1 ⟨v',rfl,hown,hg⟩;have H1:=hid hown;have H2:=hid hg;clear hown hg))
  go_ret
  exact ⟨v',rfl,H1.out,H2.out⟩
def noEx:Ex:=⟨0,0,0,0,⟨#[]⟩,⟨#[]⟩,0,[],0⟩
def exQ (p:Pr) (k:Nat):Ex:=p.exprs[k]?.getD noEx
def WkA (p:Pr) (w0:World):Type:={q:Nat × Value // ∃ x,p.exprs[q.1]? = some x∧IntsAt w0 q.2 x.args∧ExOk x}
def WkA.num {p:Pr} {w0:World} (q:WkA p w0):Nat:=q.1.1
def wkE (p:Pr) (w0:World) (q:WkA p w0):Array Value:=#[.agg (exCells (exQ p q.1.1) q.1.2)]
structure WkJ (M:Nat→Prop) (rw:World→Option Nat) (w w0:World) (n1 b ne:Nat) (t:Int) (base:Nat) (p:Pr) (d:De) (J:List (WkA p w0)→World→Prop) (L:List Nat) (pre:List (WkA p w0)) (v:Value) (X:World):Prop where
  mem:WkMem M rw w n1 b ne t base (pre.map WkA.num) L v X
  j:J pre X
  roots:∀ r:Nat,(r:Int)∈rootsN d→r∈pre.map WkA.num∨r∈L
  parts:∀ s∈pre.map WkA.num,∀ z∈partsN p s,z∈pre.map WkA.num∨z∈L
  reachL:∀ z∈L,Reach p (rootsN d) z
  reachS:∀ z∈pre.map WkA.num,Reach p (rootsN d) z
  lt:∀ z∈L,z < ne
  cnt:pre.length+fre ne (pre.map WkA.num) = ne
  len:L.length+1000*fre ne (pre.map WkA.num)≤1201+1000*ne
theorem WkJ.on {M:Nat→Prop} {rw:World→Option Nat} {w w0:World} {n1 b ne:Nat} {t:Int} {base:Nat} {p:Pr} {d:De} {J:List (WkA p w0)→World→Prop} {L:List Nat} {pre:List (WkA p w0)} {v:Value} {X Y:World} (h:WkJ M rw w w0 n1 b ne t base p d J L pre v X)
    {E:Nat→Prop} {B:Nat} (hJ:AbidesE rw E B J) (hR:∀ X Y:World,(∀ k,k < w.heap.size→k≠b→Y.heap[k]? = X.heap[k]?)→rw Y = rw X) (hB:Below X.heap.size X Y):WkJ M rw w w0 n1 b ne t base p d J L pre v Y :=
  ⟨h.mem.below hR hB,hJ.below hB h.j,h.roots,h.parts,h.reachL,h.reachS,h.lt,h.cnt,h.len⟩
theorem roots_nat {l:List Int} {ne:Nat} (h:∀ r∈l,∃ z:Nat,r = (z:Int)∧z < ne):l.map intV = (l.map Int.toNat).map natV:=by
  rw [List.map_map]
  apply List.map_congr_left
  intro r hr
  obtain ⟨z,rfl,_⟩:=h r hr
  rfl
theorem parts_len {p:Pr} (hs:Small p) (k:Nat):(partsN p k).length≤1000:=by
  unfold partsN
  split
  · rename_i x hx
    rw [List.length_map]
    exact parts_small hs hx
  · simp
set_option maxHeartbeats 16000000 in
set_option maxRecDepth 100000 in
theorem walker_core (n:Nat) (p:Pr) (d:De) (di:Nat) (o1 o2:Option Addr) (nd c1 db doff ne c2 xb xoff B Dn Mb b:Nat) (hne:Hid (p.exprs.length = ne)) (nel:(ne:Int)≤300) (ndl:(nd:Int)≤60) (hdi:Hid (p.decls[di]? = some d)) (dil:di < nd)
    (w0:World) (M:Nat→Prop) (rw:World→Option Nat) (w:World) (hBa:Hid (Base w0 M rw w)) (hM:Hid (∀ k,M k→k < w.heap.size)) (hMb:Hid (¬ M b)) (hrl:Hid (∀ k,rw w = some k→k < w.heap.size)) (hrb:Hid (rw w≠some b)) (hR:Hid (∀ X Y:World,(∀ k,k < w.heap.size→k≠b→Y.heap[k]? = X.heap[k]?)→rw Y = rw X))
    (hS:Hid ((Still M rw w B∧B≠b)∧(Still M rw w Dn∧Dn≠b)∧(Still M rw w Mb∧Mb≠b))) (hb:Hid (b < w.heap.size∧w0.heap.size≤b)) (hBc:Hid (w.heap[B]? = some (.cells #[.slice o1 nd c1,.slice o2 ne c2] 25 (0,0)))) (hDc:Hid (w.heap[Dn]? = some (.cells #[.int .i64 (di:Int)] 3 (0,0)))) (hMc:Hid (w.heap[Mb]? = some (.cells #[.slice (some ⟨b,0,none⟩) ne ne] 33 (0,0))))
    (hmk:Hid (MarksLe w b ne (di:Int))) (hd:Hid (0 < nd→o1 = some ⟨db,doff,none⟩)) (hdc:Hid (∀ i,i < nd→∀ x,p.decls[i]? = some x→DeAt w0 db (doff+i*7) x)) (hx:Hid (0 < ne→o2 = some ⟨xb,xoff,none⟩)) (hxc:Hid (∀ i,i < ne→∀ x,p.exprs[i]? = some x→ExAt w0 xb (xoff+i*9) x))
    (hsm:Hid (Small p)) (hmay:Hid (mayP p = true)) (hro:Hid (∀ r∈rootsN d,∃ z:Nat,r = (z:Int)∧z < ne)) (hdl:Hid (d.params.length≤600∧d.items.length≤600)) (lp:Nat) (J Jx:List (WkA p w0)→World→Prop)
    (W:World) (hW:Hid (Below w.heap.size w W)) (hJ:Hid (AbidesE rw (fun k=>k = b) W.heap.size J))
    (hY:Hid (∀ pre (q:WkA p w0) X,J pre X→pre.length < ne→YieldAt Fence.wide (n - 1) Tryz.prog lp (wkE p w0 q) X fun r Y =>
      (r = .returned (.bool true)∧J (pre ++ [q]) Y∧KeepX M rw w.heap.size W.heap.size X Y)∨(r = .returned (.bool false)∧Jx (pre ++ [q]) Y)))
    (h0:Hid (J [] W)) :
    CallsIn Fence.wide n Tryz.prog 89 #[.func (.yield lp) #[] #[],.pointer (some ⟨B,0,none⟩),.pointer (some ⟨Dn,0,none⟩),.pointer (some ⟨Mb,0,none⟩)] W fun r Y=>(∃ v,r = .returned v) ∧
      ((∃ ys:List (WkA p w0),((∀ k,k∈ys.map WkA.num↔Reach p (rootsN d) k)∧MarksLe Y b ne ((di:Int)+1))∧J ys Y)∨(∃ pre:List (WkA p w0),(∀ q∈pre,Reach p (rootsN d) q.num)∧Jx pre Y)):=by
  have c0:=(cells_two ((hW.out.block _ hS.out.1.1.1).trans hBc.out)).1
  have c2':=(cell_f ((hW.out.block _ hS.out.2.1.1.1).trans hDc.out)).1
  have ix:=ix_des (cap:=c1) hd.out dil (by omega)
  unfold Ix at ix
  obtain ⟨s,t,e0,e1,e2,e3,e4,e5,e6,hps,hts,hok⟩:=hdc.out di dil d hdi.out
  have HPS:=hid hps
  have HTS:=hid hts
  obtain ⟨op,capp,bp,fp,rfl,_⟩:=hps
  obtain ⟨oi,capi,bi,fi,rfl,_⟩:=hts
  have hw0:Old w0 W:=⟨Nat.le_trans hBa.out.lies.1 hW.out.size,fun k hk=>(hW.out.block k (Nat.lt_of_lt_of_le hk hBa.out.lies.1)).trans (hBa.out.lies.2 k hk)⟩
  have p0:=hw0.cell e0
  have p1:=hw0.cell e1
  have p2:=hw0.cell e2
  have p3:=hw0.cell e3
  have p4:=hw0.cell e4
  have p5:=hw0.cell e5
  have p6:=hw0.cell e6
  have CR:Hid (Calls Tryz.prog 36 #[.func (.func 67) #[] #[.pointer (some ⟨W.heap.size,0,none⟩)]] (W.alloc (.cells #[.int .i64 d.kind,.string d.name,.slice op d.params.length capp,.slice oi d.items.length capi,.int .i64 d.type,.int .i64 d.e,.int .i64 d.pos] 44)) fun e w'=>∃ v,e = .returned v∧w'.ownsRow (W.heap.size+1) 3 1 v (rootsN d).length ((rootsN d).map intV)∧Below (W.heap.size+1) (W.alloc (.cells #[.int .i64 d.kind,.string d.name,.slice op d.params.length capp,.slice oi d.items.length capi,.int .i64 d.type,.int .i64 d.e,.int .i64 d.pos] 44)) w'):=hid (by
    have h:=collectR_own d W.heap.size (likeW (W.alloc (.cells #[.int .i64 d.kind,.string d.name,.slice op d.params.length capp,.slice oi d.items.length capi,.int .i64 d.type,.int .i64 d.e,.int .i64 d.pos] 44)) w0) (W.alloc (.cells #[.int .i64 d.kind,.string d.name,.slice op d.params.length capp,.slice oi d.items.length capi,.int .i64 d.type,.int .i64 d.e,.int .i64 d.pos] 44)) _ _ (hid HPS.out) (hid HTS.out) (hid (Old.base (hw0.trans (below_al (Below.refl _ _) _)))) (hid (World.alloc_heap_new W _)) hdl
    rw [World.size_alloc] at h
    exact h)
  clear e0 e1 e2 e3 e4 e5 e6 hok hw0
  refine callsIn_of_wp Tryz.func89 rfl trivial ?_ rfl
  simp only [Tryz.ntmps89,List.size_toArray,List.length_cons,List.length_nil,Nat.reduceAdd,Nat.reduceSub,Array.replicate_succ,Array.replicate_zero,List.push_toArray,List.append_toArray,List.nil_append,List.cons_append]
  gi_wp2_with (refine ⟨trivial,fun h=>(by cases h),?_⟩;first
    | ((with_reducible refine (callsIn_wide.2 (roots_any _ _ _ _ _ _ _ _ ⟨_,_,_,_,_,_,_,_,_,_,_,rfl,rfl,rfl,rfl,rfl,rfl,rfl⟩)).mono ?_);rintro r w2 ⟨rfl,rfl⟩)
    | ((with_reducible refine (callsIn_wide.2 CR.out).mono ?_);rintro r w3 ⟨v,rfl,hown,hb3⟩;have HOWN:=hid hown;have HB3:=hid hb3;clear hown hb3))
  have hw3:Below w.heap.size w w3:=hW.out.trans ((below_al (Below.refl W.heap.size W) (.cells #[.int .i64 d.kind,.string d.name,.slice op d.params.length capp,.slice oi d.items.length capi,.int .i64 d.type,.int .i64 d.e,.int .i64 d.pos] 44)).trans (HB3.out.mono (by simp)) |>.mono hW.out.size)
  have hbW3:Below W.heap.size W w3:=(below_al (Below.refl W.heap.size W) _).trans (HB3.out.mono (by simp))
  have hNr:Near (fun k=>M k∨k = b) rw w:=⟨fun k hk=>hk.elim (hM.out k) (fun e=>e ▸ hb.out.1),hrl.out,fun X Y h=>hR.out X Y fun k hk _=>h k hk⟩
  have hr3:rw w3 = rw w:=hR.out w w3 fun k hk _=>hw3.block k hk
  have ROOTS:=hid (roots_nat hro.out)
  obtain ⟨rs,hrs⟩:∃ rs,rs = (rootsN d).map Int.toNat:=⟨_,rfl⟩
  rw [← hrs] at ROOTS
  have hrl2:rs.length = (rootsN d).length:=by rw [hrs,List.length_map]
  have WK0:Hid (WkJ M rw w w0 W.heap.size b ne ((di:Int)+1) (W.heap.size+1) p d J rs [] v w3):=hid ⟨⟨Kept.start hNr hw3,(hmk.out.same (hw3.block b hb.out.1)).start,hr3 ▸ hrb.out,by rw [hrl2,← ROOTS.out];exact HOWN.out,Nat.le_succ _,by have:=HB3.out.size;simp at this;omega,fun g hg e=>by
      have h1:=(own_lt HOWN.out hg).1
      rw [hr3] at e
      have:=hrl.out g e
      have:=hW.out.size
      omega,fun k hk=>by rw [hr3] at hk;exact Nat.lt_of_lt_of_le (hrl.out k hk) hw3.size,fun k hk=>Nat.lt_of_lt_of_le (hM.out k hk) hW.out.size⟩,hJ.out.below hbW3 h0.out,fun r hr=>.inr (by rw [hrs];exact List.mem_map.2 ⟨r,hr,by simp⟩),fun s hs=>by simp at hs,fun z hz=>by
      rw [hrs] at hz
      obtain ⟨r,h1,rfl⟩:=List.mem_map.1 hz
      obtain ⟨z,rfl,_⟩:=hro.out r h1
      exact .root (by simpa using h1),fun z hz=>by simp at hz,fun z hz=>by
      rw [hrs] at hz
      obtain ⟨r,h1,rfl⟩:=List.mem_map.1 hz
      obtain ⟨z,rfl,h2⟩:=hro.out r h1
      simpa using h2,by simp [fre_nil],by
      rw [hrl2]
      have:=rootsN_len d
      have:=hdl.out
      have:fre ne (List.map WkA.num ([]:List (WkA p w0))) = ne:=fre_nil ne
      omega⟩
  obtain ⟨o',cap',rfl⟩:=WK0.out.mem.slice
  have HBW3:=hid hbW3
  clear hw3 hbW3 hNr hr3 hrl2 hrs ix p0 p1 p2 p3 p4 p5 p6 c0 c2' CR HOWN HB3 HPS HTS
  gi_loopw [5] (fun v wr=>∃ (L:List Nat) (pre:List (WkA p w0)) (o:Option Addr) (k cap:Nat),v = .slice o k cap∧Hid (k = L.length)∧Hid (WkJ M rw w w0 W.heap.size b ne ((di:Int)+1) (W.heap.size+1) p d J L pre (.slice o k cap) wr)) (fun v wr=>openM b ((di:Int)+1) wr*1001+lenS v)
  case atStart=>exact ⟨rs,[],o',rs.length,cap',rfl,hid rfl,WK0⟩
  case round =>
    clear WK0 HBW3
    obtain ⟨L,pre,o,k,cap,rfl,hk,hj⟩:=hrel
    rcases List.eq_nil_or_concat L with rfl | ⟨L',z,rfl⟩
    · obtain rfl:k = 0:=hk.out
      gi_wp2
      go_end0
      refine ⟨⟨_,rfl⟩,.inl ⟨pre,⟨fun z=>⟨hj.out.reachS z,fun hz=>?_⟩,hj.out.mem.marks.le⟩,hj.out.j⟩⟩
      induction hz with
      | root h=>exact (hj.out.roots _ h).resolve_right (by simp)
      | part _ h ih=>exact (hj.out.parts _ ih _ h).resolve_right (by simp)
    · rw [List.concat_eq_append] at hk hj
      obtain ⟨g,cap2,hv,hkc,hcm,y1,hmem⟩:=hj.out.mem.top
      obtain ⟨kk,hkk⟩:∃ kk,kk = L'.length:=⟨_,rfl⟩
      rw [← hkk] at hv hkc y1 hmem
      cases hv
      have hz:z < ne:=hj.out.lt z (by simp)
      obtain ⟨a,y2,hiff⟩:=hmem.marks.at hz
      have y3:=hmem.marks.froz z
      have hkl:(kk:Int)≤400000:=by
        have hlen:=hj.out.len
        simp only [List.length_append,List.length_singleton] at hlen;omega
      have q0:(0:Int) < (kk:Int)+1:=by omega
      have hMc2:=(hmem.kept.2.2 Mb ⟨hS.out.2.2.1.1,fun h=>h.elim hS.out.2.2.1.2.1 hS.out.2.2.2,hS.out.2.2.1.2.2⟩).trans hMc.out
      have m0:=(cell_f hMc2).1
      have hDc2:=(hmem.kept.2.2 Dn ⟨hS.out.2.1.1.1,fun h=>h.elim hS.out.2.1.1.2.1 hS.out.2.1.2,hS.out.2.1.1.2.2⟩).trans hDc.out
      have d0:=(cell_f hDc2).1
      have HM:=hid hmem
      have HJ:=hj
      have HK:=hid hkk
      have HC:=hid hcm
      have izr:=ix_ints (o:=some ⟨b,0,none⟩) (off:=0) (cap:=ne) (fun _=>rfl) hz (by omega)
      unfold Ix at izr
      simp only [Nat.mul_one,Nat.zero_add] at izr
      have zl:(z:Int) < (ne:Int):=by omega
      clear hmem hkk hMc2 hDc2 hj hcm hk
      by_cases hzS:z∈pre.map WkA.num
      · have d1:(a == (di:Int)+1) = true:=by simpa using hiff.2 hzS
        clear hiff
        gi_wp2_with fail
        gi_quiet (fail)
        generalize hVq:wr.drewN _ = V
        have hbV:Below wr.heap.size wr V:=by rw [← hVq];exact below_dn (Below.refl _ _) _
        have hop:openM b ((di:Int)+1) V = openM b ((di:Int)+1) wr:=by rw [← hVq];rfl
        have H2:Hid (WkJ M rw w w0 W.heap.size b ne ((di:Int)+1) (W.heap.size+1) p d J L' pre (.slice (some ⟨g,0,none⟩) kk cap) V):=hid (WkJ.on ⟨HM.out,HJ.out.j,fun r hr=>by
            rcases HJ.out.roots r hr with h | h
            · exact .inl h
            · rcases List.mem_append.1 h with h | h
              · exact .inr h
              · rw [List.mem_singleton.1 h];exact .inl hzS,fun x hx y hy=>by
            rcases HJ.out.parts x hx y hy with h | h
            · exact .inl h
            · rcases List.mem_append.1 h with h | h
              · exact .inr h
              · rw [List.mem_singleton.1 h];exact .inl hzS,fun y hy=>HJ.out.reachL y (by simp [hy]),HJ.out.reachS,fun y hy=>HJ.out.lt y (by simp [hy]),HJ.out.cnt,by have:=HJ.out.len;simp only [List.length_append,List.length_singleton] at this;omega⟩ hJ.out hR.out hbV)
        clear hVq hbV
        gi_wp2_with fail
        exact ⟨⟨L',pre,_,_,_,rfl,HK,H2⟩,by rw [hop];show _+kk < _+(kk+1);omega⟩
      · have d1:(a == (di:Int)+1) = false:=beq_false_of_ne fun h=>hzS (hiff.1 h)
        clear hiff
        gi_wp2_with fail
        gi_quiet (fail)
        generalize hVq:wr.drewN _ = V
        have hbV:Below wr.heap.size wr V:=by rw [← hVq];exact below_dn (Below.refl _ _) _
        have HV:=hid (HM.out.below hR.out hbV)
        have HBa2:Hid (Base w0 (fun k=>M k∨k = b) rw w):=hid ⟨hBa.out.lies,fun k hk=>⟨fun h=>h.elim (hBa.out.free k hk).1 (fun e=>by have:=hb.out.2;omega),(hBa.out.free k hk).2⟩⟩
        have m1:=cell_on hbV m0
        have d2:=cell_on hbV d0
        have y4:=HV.out.marks.froz z
        have y5:=cell_on hbV y2
        have HJV:=hid (hJ.out.below hbV HJ.out.j)
        have HZ:=hid (HV.out.mark hb.out.1 hW.out.size hR.out (n:=z))
        have HJZ:Hid (J pre (V.setCell ⟨b,z,none⟩ (.int .i64 ((di:Int)+1)))):=hid (hJ.out pre V _ (some b) HJV.out (by
            have hg:=grownBy_setCell' V b (.int .i64 ((di:Int)+1))
            exact ⟨rfl,rfl,rfl,HZ.out.kept.1 |> fun _=>((Below.refl 0 V).setCell (p:=⟨b,z,none⟩) (Nat.zero_le _) _).size,fun k _ hne=>set_other V b k z _ fun h=>hne (by rw [h])⟩) (fun r h=>by
          cases h
          obtain ⟨cs,s1,_⟩:=HV.out.marks
          exact ⟨.inr rfl,_,s1,.inr HV.out.mrow⟩))
        obtain ⟨Z,hZ⟩:∃ Z,Z = V.setCell ⟨b,z,none⟩ (.int .i64 ((di:Int)+1)):=⟨_,rfl⟩
        rw [← hZ] at HZ HJZ
        have hOZ:=HBa2.out.old HZ.out.kept
        obtain ⟨x,hxz⟩:∃ x,p.exprs[z]? = some x:=⟨_,List.getElem?_eq_getElem (by have:=hne.out;omega)⟩
        obtain ⟨s,f0,f1,f2,f3,f4,f5,f6,f7,f8,ha,hok⟩:=hxc.out z hz x hxz
        obtain ⟨oa,ca,ba,fa,rfl,_⟩:=id ha
        have sB:Still (fun k=>M k∨k = b) rw w B:=⟨hS.out.1.1.1,fun h=>h.elim hS.out.1.1.2.1 hS.out.1.2,hS.out.1.1.2.2⟩
        have bZ:=(cells_two ((HZ.out.kept.2.2 B sB).trans hBc.out)).2
        have g0:=hOZ.cell f0
        have g1:=hOZ.cell f1
        have g2:=hOZ.cell f2
        have g3:=hOZ.cell f3
        have g4:=hOZ.cell f4
        have g5:=hOZ.cell f5
        have g6:=hOZ.cell f6
        have g7:=hOZ.cell f7
        have g8:=hOZ.cell f8
        have ixx:=ix_exs (cap:=c2) hx.out hz (by omega)
        unfold Ix at ixx
        have hpl:pre.length < ne:=by
          have h1:=HJ.out.cnt
          have h2:=fre_pos hzS hz
          omega
        obtain ⟨q,hq⟩:∃ q:WkA p w0,q = ⟨(z,.slice oa x.args.length ca),x,hxz,ha,hok⟩:=⟨_,rfl⟩
        have hqn:q.num = z:=by rw [hq];rfl
        have hqe:wkE p w0 q = #[.agg (exCells x (.slice oa x.args.length ca))]:=by rw [hq];unfold wkE exQ;dsimp only;rw [hxz];rfl
        obtain ⟨fn,tmps,assign,body,hy,hRd⟩:=hY.out pre q Z HJZ.out hpl
        rw [hqe] at hy
        unfold exCells at hy
        have hy' : (Instr.yield lp #[.agg #[.int .i64 x.kind,.int .i64 x.a,.int .i64 x.b,.int .i64 x.c,.string x.name,.string x.state,.int .i64 x.v,.slice oa x.args.length ca,.int .i64 x.pos]]).run Tryz.prog Z = .ok (.round lp fn tmps assign body) Z:=hy
        have HRd:=hid hRd
        have HQN:=hid hqn
        have HA:=hid ha
        have HOK:=hid hok
        have HXZ:=hid hxz
        have HF:=hid (And.intro f0 (And.intro f1 (And.intro f2 (And.intro f3 (And.intro f4 (And.intro f5 (And.intro f6 (And.intro f7 f8))))))))
        have SB:=hid sB
        rw [hZ] at bZ g0 g1 g2 g3 g4 g5 g6 g7 g8 hy'
        have HZE:=hid hZ
        clear hVq hbV hZ hy hRd hq hqn hqe ha hok hxz f0 f1 f2 f3 f4 f5 f6 f7 f8 sB hOZ hpl
        gi_wp2_with fail
        refine ⟨fun h=>(by cases h),?_⟩
        rw [← HZE.out]
        refine HRd.out.mono ?_
        rintro r W3 (⟨rfl,hJ3,hk3⟩ | ⟨rfl,hJx3⟩)
        · have HW3:=hid (HZ.out.keep hb.out.1 hMb.out hk3)
          have HJ3:=hid hJ3
          have hO3:=HBa2.out.old HW3.out.kept
          have b3:=(cells_two ((HW3.out.kept.2.2 B SB.out).trans hBc.out)).2
          obtain ⟨f0,f1,f2,f3,f4,f5,f6,f7,f8⟩:=HF.out
          have h0':=hO3.cell f0
          have h1':=hO3.cell f1
          have h2':=hO3.cell f2
          have h3':=hO3.cell f3
          have h4':=hO3.cell f4
          have h5':=hO3.cell f5
          have h6':=hO3.cell f6
          have h7':=hO3.cell f7
          have h8':=hO3.cell f8
          have PF:=hid (parts_fn x (.slice oa x.args.length ca) W3 (HA.out.mono fun b o i _ h=>hO3.cell h) HOK.out (parts_small hsm.out HXZ.out))
          unfold exV exCells at PF
          have APP:Hid (∀ y W4,W4.ownsRow W3.heap.size 3 1 y (partsE x).length ((partsE x).map intV)→Below W3.heap.size W3 W4→∃ v' W5,(Builtin.append_ #[33,33] 33 #[.slice (some ⟨g,0,none⟩) kk cap,y]).run Tryz.prog W4 = .ok v' W5 ∧
              Hid (WkMem M rw w W.heap.size b ne ((di:Int)+1) (W.heap.size+1) (pre.map WkA.num ++ [z]) (L' ++ partsN p z) v' W5∧J (pre ++ [q]) W5)):=hid fun y W4 hown hb4=>by
            have h4:=HW3.out.below hR.out hb4
            have hl4:=h4.left
            rw [← HK.out] at hl4
            have hpl:=parts_small hsm.out HXZ.out
            obtain ⟨v',W5,e1,e2,e3,e4⟩:=app_ints hl4 hown (fun u hu=>by obtain ⟨a,_,rfl⟩:=List.mem_map.1 hu;rfl) (by omega) (by omega) h4.bx
            rw [parts_nat hmay.out HXZ.out] at e2
            have hlen:(partsE x).length = (partsN p z).length:=by have:=congrArg List.length (parts_nat hmay.out HXZ.out);simpa using this
            rw [hlen,HK.out] at e2
            refine ⟨v',W5,e1,hid ⟨h4.push hb.out.1 hW.out.size hR.out e2 e3 e4,hJ.out _ W4 W5 _ (hJ.out.below hb4 HJ3.out) e3 (fun r h=>?_)⟩⟩
            obtain ⟨i1,cur,i2⟩:=own_lt h4.left h
            exact ⟨.inl (by omega),_,i2,.inr (h4.lrow r h)⟩
          clear hJ3 hk3 hO3 f0 f1 f2 f3 f4 f5 f6 f7 f8
          gi_wp2_with (first | (gi_at_builtin;refine wpListIn_appR rfl _ _ _ rfl rfl rfl hr5 ?_) | (refine ⟨trivial,fun h=>(by cases h),?_⟩;(with_reducible refine (callsIn_wide.2 PF.out).mono ?_);rintro r W4 ⟨y,rfl,hown,hb4⟩;obtain ⟨v',W5,hr5,HW5⟩:=APP.out y W4 hown hb4;clear hown hb4))
          obtain ⟨o5,cap5,rfl⟩:=HW5.out.1.slice
          have ES:(pre ++ [q]).map WkA.num = pre.map WkA.num ++ [z]:=by rw [List.map_append,List.map_singleton,HQN.out]
          have hfr:=fre_pos hzS hz
          have hpl:=parts_len hsm.out z
          have HNEW:Hid (WkJ M rw w w0 W.heap.size b ne ((di:Int)+1) (W.heap.size+1) p d J (L' ++ partsN p z) (pre ++ [q]) (.slice o5 (L' ++ partsN p z).length cap5) W5):=hid ⟨by rw [ES];exact HW5.out.1,HW5.out.2,fun r hr=>by
              rw [ES]
              rcases HJ.out.roots r hr with h | h
              · exact .inl (List.mem_append_left _ h)
              · rcases List.mem_append.1 h with h | h
                · exact .inr (List.mem_append_left _ h)
                · exact .inl (List.mem_append_right _ h),fun x hx y hy=>by
              rw [ES] at hx ⊢
              rcases List.mem_append.1 hx with h | h
              · rcases HJ.out.parts x h y hy with h | h
                · exact .inl (List.mem_append_left _ h)
                · rcases List.mem_append.1 h with h | h
                  · exact .inr (List.mem_append_left _ h)
                  · exact .inl (List.mem_append_right _ h)
              · rw [List.mem_singleton.1 h] at hy
                exact .inr (List.mem_append_right _ hy),fun y hy=>by
              rcases List.mem_append.1 hy with h | h
              · exact HJ.out.reachL y (by simp [h])
              · exact .part (HJ.out.reachL z (by simp)) h,fun y hy=>by
              rw [ES] at hy
              rcases List.mem_append.1 hy with h | h
              · exact HJ.out.reachS y h
              · rw [List.mem_singleton.1 h];exact HJ.out.reachL z (by simp),fun y hy=>by
              rcases List.mem_append.1 hy with h | h
              · exact HJ.out.lt y (by simp [h])
              · have:=ahead_of hmay.out z y h;omega,by
              have:=HJ.out.cnt
              rw [ES,List.length_append,List.length_singleton];omega,by
              have:=HJ.out.len
              rw [ES]
              simp only [List.length_append,List.length_singleton] at this ⊢
              omega⟩
          have hop2:openM b ((di:Int)+1) W5+1 = openM b ((di:Int)+1) wr:=by
            rw [HW5.out.1.marks.open,HM.out.marks.open];exact hfr
          have hkk2:=HK.out
          go_roundw
          case rel=>exact ⟨L' ++ partsN p z,pre ++ [q],o5,_,cap5,rfl,hid rfl,HNEW⟩
          case measure =>
            show openM b ((di:Int)+1) W5*1001+(L' ++ partsN p z).length < openM b ((di:Int)+1) wr*1001+(kk+1)
            rw [List.length_append]
            omega
        · have HJx3:=hid hJx3
          clear hJx3
          gi_wp2_with fail
          refine bodyPost_ret (results_none rfl _ _ _) rfl ?_
          refine ⟨⟨_,rfl⟩,.inr ⟨_,fun y hy=>?_,HJx3.out⟩⟩
          rcases List.mem_append.1 hy with h | h
          · exact HJ.out.reachS _ (List.mem_map.2 ⟨y,h,rfl⟩)
          · rw [List.mem_singleton.1 h,HQN.out];exact HJ.out.reachL z (by simp)
theorem walker_seq (n:Nat) (p:Pr) (d:De) (di:Nat) (sd se:Value) (B Dn Mb b:Nat) (hdi:p.decls[di]? = some d) (w0:World) (M:Nat→Prop) (rw:World→Option Nat) (w:World) (hBa:Base w0 M rw w) (hM:∀ k,M k→k < w.heap.size) (hMb:¬ M b) (hrl:∀ k,rw w = some k→k < w.heap.size) (hrb:rw w≠some b) (hR:∀ X Y:World,(∀ k,k < w.heap.size→k≠b→Y.heap[k]? = X.heap[k]?)→rw Y = rw X)
    (hS:(Still M rw w B∧B≠b)∧(Still M rw w Dn∧Dn≠b)∧(Still M rw w Mb∧Mb≠b)) (hb:b < w.heap.size∧w0.heap.size≤b) (hBc:w.heap[B]? = some (.cells #[sd,se] 25 (0,0))) (hDc:w.heap[Dn]? = some (.cells #[.int .i64 (di:Int)] 3 (0,0))) (hMc:w.heap[Mb]? = some (.cells #[.slice (some ⟨b,0,none⟩) p.exprs.length p.exprs.length] 33 (0,0)))
    (hmk:MarksLe w b p.exprs.length (di:Int)) (hP:ProgAt w0 sd se p) (hsm:Small p) (hmay:mayP p = true) (hro:∀ r∈rootsN d,∃ z:Nat,r = (z:Int)∧z < p.exprs.length) (hdl:d.params.length≤600∧d.items.length≤600) :
    SeqX (α:=WkA p w0) Fence.wide n Tryz.prog 89 #[.pointer (some ⟨B,0,none⟩),.pointer (some ⟨Dn,0,none⟩),.pointer (some ⟨Mb,0,none⟩)] (wkE p w0) (fun k=>k = b) M rw (fun ys Y=>(∀ k,k∈ys.map WkA.num↔Reach p (rootsN d) k)∧MarksLe Y b p.exprs.length ((di:Int)+1)) (fun pre=>∀ q∈pre,Reach p (rootsN d) q.num) p.exprs.length w:=by
  obtain ⟨⟨o1,c1,db,doff,rfl,_,_,hd1,hd2⟩,⟨o2,c2,xb,xoff,rfl,_,_,hx1,hx2⟩,_,_⟩:=id hP
  have hlt:=(List.getElem?_eq_some_iff.1 hdi).1
  intro lp J Jx W hW hJ _ _ hY h0
  exact walker_core n p d di o1 o2 _ c1 db doff _ c2 xb xoff B Dn Mb b (hid rfl) (by have:=hsm.exprs;omega) (by have:=hsm.decls;omega) (hid hdi) hlt w0 M rw w (hid hBa) (hid hM) (hid hMb) (hid hrl) (hid hrb) (hid hR) (hid hS) (hid hb) (hid hBc) (hid hDc) (hid hMc)
    (hid hmk) (hid hd1) (hid hd2) (hid hx1) (hid hx2) (hid hsm) (hid hmay) (hid hro) (hid hdl) lp J Jx W (hid hW) (hid hJ) (hid fun pre q X hj hlen=>(hY pre q X hj hlen).mono fun r Y h=>h.imp id fun h=>⟨h.1,h.2.1⟩) (hid h0)
end
end Go.Proofs.YtdlmfeflinbbjaaGreat
