import Derived.Test.YtdlmfeflinbbjaaGreatNmJB
import Derived.Lib.SlicesCompact
import Derived.Shelf.RegionOpenPlain
import Derived.Deep.LoopGhost
namespace Go.Proofs.YtdlmfeflinbbjaaGreat
open Go.Lib (hid)
section
open Go.RowKit Lx Go.Shelf Go.Sort Go.Lib
theorem ltF_spec {x y:Flt}:ltF x y = true↔x.2 < y.2∨(x.2 = y.2∧x.1 < y.1):=by simp [ltF]
theorem ltF_irr (x:Flt):¬ ltF x x = true:=by rw [ltF_spec];omega
theorem ltF_tr {x y z:Flt} (h1:ltF x y = true) (h2:ltF y z = true):ltF x z = true:=by rw [ltF_spec] at *;omega
theorem ltF_ntr {x y z:Flt} (h1:¬ ltF x y = true) (h2:¬ ltF y z = true):¬ ltF x z = true:=by rw [ltF_spec] at *;omega
theorem ltF_tot {x y:Flt} (h1:¬ ltF x y = true) (h2:¬ x = y):ltF y x = true:=by
  rw [ltF_spec] at *
  have:¬ (x.1 = y.1∧x.2 = y.2):=fun h=>h2 (Prod.ext h.1 h.2)
  omega
def StrictF (l:List Flt):Prop:=l.Pairwise fun x y=>ltF x y = true
theorem strict_ext:∀ {a b:List Flt},StrictF a→StrictF b→(∀ x,x∈a↔x∈b)→a = b
  | [],[],_,_,_=>rfl
  | [],y :: b,_,_,h=>by have:=(h y).2 List.mem_cons_self;cases this
  | x :: a,[],_,_,h=>by have:=(h x).1 List.mem_cons_self;cases this
  | x :: a,y :: b,ha,hb,h=>by
    obtain ⟨ha1,ha2⟩:=List.pairwise_cons.1 ha
    obtain ⟨hb1,hb2⟩:=List.pairwise_cons.1 hb
    have e:x = y:=by
      rcases List.mem_cons.1 ((h x).1 List.mem_cons_self) with e | e
      · exact e
      · rcases List.mem_cons.1 ((h y).2 List.mem_cons_self) with e2 | e2
        · exact e2.symm
        · exact absurd (ltF_tr (ha1 _ e2) (hb1 _ e)) (ltF_irr _)
    subst e
    rw [strict_ext ha2 hb2 fun z=>?_]
    constructor
    · intro hz
      rcases List.mem_cons.1 ((h z).1 (List.mem_cons_of_mem _ hz)) with e | e
      · subst e;exact absurd (ha1 _ hz) (ltF_irr _)
      · exact e
    · intro hz
      rcases List.mem_cons.1 ((h z).2 (List.mem_cons_of_mem _ hz)) with e | e
      · subst e;exact absurd (hb1 _ hz) (ltF_irr _)
      · exact e
def insF (f:Flt):List Flt→List Flt
  | []=>[f]
  | x :: l=>if ltF f x then f :: x :: l else x :: insF f l
def addF (l:List Flt) (f:Flt):List Flt:=if f∈l then l else insF f l
theorem mem_ins (f x:Flt):∀ l,x∈insF f l↔x = f∨x∈l
  | []=>by simp [insF]
  | y :: l=>by
    unfold insF
    split
    · simp
    · rw [List.mem_cons,mem_ins f x l,List.mem_cons]
      constructor <;> (rintro (h | h | h) <;> simp [h])
theorem mem_add (l:List Flt) (f x:Flt):x∈addF l f↔x = f∨x∈l:=by
  unfold addF
  split
  · constructor
    · exact .inr
    · rintro (h | h)
      · subst h;assumption
      · exact h
  · exact mem_ins f x l
theorem strict_ins (f:Flt):∀ l,StrictF l→f ∉ l→StrictF (insF f l)
  | [],_,_=>by unfold StrictF insF;simp
  | y :: l,h,hn=>by
    obtain ⟨h1,h2⟩:=List.pairwise_cons.1 h
    unfold insF
    split
    · rename_i hlt
      exact List.pairwise_cons.2 ⟨fun z hz=>by
        rcases List.mem_cons.1 hz with e | e
        · subst e;exact hlt
        · exact ltF_tr hlt (h1 _ e),h⟩
    · rename_i hlt
      have hlt' : ltF y f = true:=ltF_tot hlt (fun e=>hn (by rw [e];exact List.mem_cons_self))
      exact List.pairwise_cons.2 ⟨fun z hz=>by
        rcases (mem_ins f z l).1 hz with e | e
        · subst e;exact hlt'
        · exact h1 _ e,strict_ins f l h2 fun hm=>hn (List.mem_cons_of_mem _ hm)⟩
theorem strict_add (l:List Flt) (f:Flt) (h:StrictF l):StrictF (addF l f):=by
  unfold addF
  split
  · exact h
  · rename_i hn
    exact strict_ins f l h hn
theorem compact_spec (d:Array Flt) (hs:∀ i j,i < j→j < d.size→¬ ltF d[j]! d[i]! = true):∀ m,m≤d.size→StrictF (compactUpTo d m)∧(∀ x,x∈compactUpTo d m↔∃ j,j < m∧d[j]! = x)
  | 0,_=>⟨by unfold StrictF compactUpTo;simp,fun x=>by unfold compactUpTo;simp⟩
  | m+1,hm=>by
    obtain ⟨h1,h2⟩:=compact_spec d hs m (by omega)
    rw [compactUpTo_succ]
    by_cases hk:keeps d m = true
    · rw [if_pos hk]
      refine ⟨List.pairwise_append.2 ⟨h1,by simp,fun x hx y hy=>?_⟩,fun x=>?_⟩
      · obtain ⟨j,hj,e⟩:=(h2 x).1 hx
        obtain rfl:y = d[m]!:=by simpa using hy
        rw [← e]
        refine ltF_tot (hs j m hj (by omega)) fun e2=>?_
        have hk2:d[m]!≠d[m - 1]!:=by
          unfold keeps at hk
          simp at hk
          rcases hk with h | h
          · omega
          · exact h
        rcases Nat.lt_or_ge j (m - 1) with h | h
        · have u:=hs (m - 1) m (by omega) (by omega)
          have v:=hs j (m - 1) h (by omega)
          rw [← e2] at v
          exact v (ltF_tot u fun e3=>hk2 e3)
        · obtain rfl:j = m - 1:=by omega
          exact hk2 e2
      · rw [List.mem_append,h2]
        constructor
        · rintro (⟨j,hj,e⟩ | h)
          · exact ⟨j,by omega,e⟩
          · exact ⟨m,by omega,(by simpa using h:x = d[m]!).symm⟩
        · rintro ⟨j,hj,e⟩
          rcases Nat.lt_or_ge j m with h | h
          · exact .inl ⟨j,h,e⟩
          · obtain rfl:j = m:=by omega
            exact .inr (by simp [e])
    · rw [if_neg hk,List.append_nil]
      have hk2:m≠0∧d[m]! = d[m - 1]!:=by
        unfold keeps at hk
        simpa using hk
      refine ⟨h1,fun x=>?_⟩
      rw [h2]
      constructor
      · rintro ⟨j,hj,e⟩
        exact ⟨j,by omega,e⟩
      · rintro ⟨j,hj,e⟩
        rcases Nat.lt_or_ge j m with h | h
        · exact ⟨j,h,e⟩
        · obtain rfl:j = m:=by omega
          exact ⟨j - 1,by omega,by rw [← hk2.2];exact e⟩
def ordF (l:List Flt):List Flt:=compactUpTo (sortF l).toArray (sortF l).toArray.size
theorem sort_perm (l:List Flt):(sortF l).Perm l:=List.mergeSort_perm l _
theorem sort_sorted (l:List Flt):(sortF l).Pairwise fun x y=>¬ ltF y x = true:=by
  have h:=List.pairwise_mergeSort (le:=fun x y:Flt=>!(ltOf cmpF) y x) (fun x y z h1 h2=>by
    simp only [cmpF_lt,Bool.not_eq_true',← Bool.not_eq_true] at *
    exact ltF_ntr h2 h1) (fun x y=>by
    simp only [cmpF_lt]
    cases hx:ltF y x with
    | false=>simp
    | true =>
      have:¬ ltF x y = true:=fun h=>ltF_irr _ (ltF_tr h hx)
      simp [this]) l
  refine h.imp fun {x y} hxy=>?_
  simpa [cmpF_lt] using hxy
theorem ord_spec (l:List Flt):StrictF (ordF l)∧∀ x,x∈ordF l↔x∈l:=by
  have hp:=List.pairwise_iff_getElem.1 (sort_sorted l)
  obtain ⟨h1,h2⟩:=compact_spec (sortF l).toArray (fun i j hij hj=>by
    have hj' : j < (sortF l).length:=by simpa using hj
    have:=hp i j (by omega) hj' hij
    rw [getElem!_pos _ j hj,getElem!_pos _ i (by omega)]
    simpa using this) _ (Nat.le_refl _)
  refine ⟨h1,fun x=>?_⟩
  show x∈compactUpTo _ _↔_
  rw [h2,← (sort_perm l).mem_iff]
  constructor
  · rintro ⟨j,hj,e⟩
    rw [getElem!_pos _ j hj] at e
    rw [← e]
    simp
  · intro hx
    obtain ⟨j,hj,e⟩:=List.mem_iff_getElem.1 hx
    exact ⟨j,by simpa using hj,by rw [getElem!_pos _ j (by simpa using hj)];simpa using e⟩
theorem ord_length (l:List Flt):(ordF l).length≤l.length:=by
  unfold ordF compactUpTo
  rw [List.length_map]
  refine Nat.le_trans (List.length_filter_le _ _) ?_
  simp [(sort_perm l).length_eq]
end
section
open Go.RowKit Lx Go.Shelf Go.Sort Go.Lib
theorem setCells_but (b:Nat):∀ (vs:List Value) (o:Nat) (W:World),But b W (W.setCells b o vs)∧(∀ k,k < o→(W.setCells b o vs).cell? ⟨b,k,none⟩ = W.cell? ⟨b,k,none⟩)∧∀ k,(W.setCells b o vs).frozen? ⟨b,k,none⟩ = W.frozen? ⟨b,k,none⟩
  | [],o,W=>⟨But.refl _ _,fun _ _=>rfl,fun _=>rfl⟩
  | v :: r,o,W=>by
    obtain ⟨h1,h2,h3⟩:=setCells_but b r (o+1) (W.setCell ⟨b,o,none⟩ v)
    have hb:=(But.refl b W).set o v
    refine ⟨⟨h1.os.trans hb.os,h1.tape.trans hb.tape,h1.output.trans hb.output,Nat.le_trans hb.size h1.size,fun k hk hl=>(h1.block k hk (Nat.lt_of_lt_of_le hl hb.size)).trans (hb.block k hk hl)⟩,fun k hk=>(h2 k (by omega)).trans (World.cell?_setCell_other _ _ _ _ (by intro e;injection e with e1 e2;omega)),fun k=>(h3 k).trans (World.frozen?_setCell _ _ _ _)⟩
theorem run_clear_flts (W:World) (b o n c:Nat) (hn:0 < n) (hc:∀ j,j < n*2→(W.cell? ⟨b,o+j,none⟩).isSome = true) (hf:∀ j,j < n*2→W.frozen? ⟨b,o+j,none⟩ = false) :
    ∃ Y,(∀ ty,(Builtin.clear_ #[28] ty #[.slice (some ⟨b,o,none⟩) n c]).run Tryz.prog W = .ok (.tuple #[]) Y)∧But b W Y∧(∀ k,k < o→Y.cell? ⟨b,k,none⟩ = W.cell? ⟨b,k,none⟩)∧∀ k,Y.frozen? ⟨b,k,none⟩ = W.frozen? ⟨b,k,none⟩:=by
  have hz:=Tryz.zeroValue51
  obtain ⟨zs,hzs⟩:∃ zs,zs = (Builtin.zeroCells (Value.agg #[.int .i64 0,.int .i64 0]).cells n).toList:=⟨_,rfl⟩
  have hl:zs.length = n*2:=by rw [hzs];simp [Builtin.zeroCells,Value.cells]
  have h1:∀ v∈zs,v.oneCell' = true:=by
    intro v hv
    rw [hzs] at hv
    simp [Builtin.zeroCells,Value.cells] at hv
    obtain ⟨i,hi,rfl⟩:=hv
    rcases (show i % 2 = 0∨i % 2 = 1 by omega) with e | e <;> simp [e,Value.oneCell']
  have hst:=run_storeCells_cells (P:=Tryz.prog) b o zs 0 W (by rw [hl];simpa using hc) (fun j hj=>(by rw [Nat.add_zero];exact hf j (hl ▸ hj))) h1
  simp only [Nat.add_zero] at hst
  obtain ⟨m,rfl⟩:∃ m,n = m+1:=⟨n - 1,by omega⟩
  refine ⟨W.setCells b o zs,fun ty=>?_,setCells_but b zs o W⟩
  simp [Builtin.clear_,run_underlying Tryz.underlying28,hz,← hzs,hst]
def RowF (W:World) (blk off:Nat) (d:Array Flt):Prop:=(∀ i,i < d.size→W.cell? ⟨blk,off+i*2,none⟩ = some (.int .i64 d[i]!.1)∧W.cell? ⟨blk,off+i*2+1,none⟩ = some (.int .i64 d[i]!.2))∧∀ j,j < d.size*2→W.frozen? ⟨blk,off+j,none⟩ = false
theorem RowF.set {W:World} {blk off:Nat} {d:Array Flt} (h:RowF W blk off d) {i:Nat} (hi:i < d.size) (x:Flt):RowF ((W.setCell ⟨blk,off+i*2,none⟩ (.int .i64 x.1)).setCell ⟨blk,off+i*2+1,none⟩ (.int .i64 x.2)) blk off (d.setIfInBounds i x):=by
  refine ⟨fun j hj=>?_,fun j hj=>by rw [World.frozen?_setCell,World.frozen?_setCell];exact h.2 j (by simpa using hj)⟩
  have hj' : j < d.size:=by simpa using hj
  obtain ⟨h1,h2⟩:=h.1 j hj'
  by_cases e:j = i
  · subst e
    rw [getElem!_set_same d j x hi]
    refine ⟨?_,?_⟩
    · rw [World.cell?_setCell_other _ _ _ _ (by intro e;injection e with e1 e2;omega)]
      exact World.cell?_setCell_same' _ _ _ (by rw [h1];rfl)
    · exact World.cell?_setCell_same' _ _ _ (by rw [World.cell?_setCell_other _ _ _ _ (by intro e;injection e with e1 e2;omega),h2];rfl)
  · have hg:(d.setIfInBounds i x)[j]! = d[j]!:=by
      rw [getElem!_pos _ j (by simpa using hj'),getElem!_pos _ j hj',Array.getElem_setIfInBounds,if_neg (fun e'=>e e'.symm)]
    rw [hg]
    refine ⟨?_,?_⟩
    · rw [World.cell?_setCell_other _ _ _ _ (by intro e;injection e with e1 e2;omega),World.cell?_setCell_other _ _ _ _ (by intro e;injection e with e1 e2;omega)];exact h1
    · rw [World.cell?_setCell_other _ _ _ _ (by intro e;injection e with e1 e2;omega),World.cell?_setCell_other _ _ _ _ (by intro e;injection e with e1 e2;omega)];exact h2
theorem RowF.drew {W:World} {blk off:Nat} {d:Array Flt} (h:RowF W blk off d):RowF W.drew blk off d:=h
theorem RowF.drewN {W:World} {blk off:Nat} {d:Array Flt} (h:RowF W blk off d) (q:Nat):RowF (W.drewN q) blk off d:=h
theorem keep_put {w wr:World} {blk off kk:Nat} {dk:Array Flt} (h:Hid (RowF wr blk off dk∧But blk w wr)) (hi:kk < dk.size) (a b:Int):Hid (RowF ((wr.setCell ⟨blk,off+kk*2,none⟩ (.int .i64 a)).setCell ⟨blk,off+kk*2+1,none⟩ (.int .i64 b)).drew blk off (dk.setIfInBounds kk (a,b))∧But blk w ((wr.setCell ⟨blk,off+kk*2,none⟩ (.int .i64 a)).setCell ⟨blk,off+kk*2+1,none⟩ (.int .i64 b)).drew):=by
  have h1:=RowF.set h.out.1 hi (a,b)
  have h2:=But.set (But.set h.out.2 (off+kk*2) (.int .i64 a)) (off+kk*2+1) (.int .i64 b)
  exact hid ⟨RowF.drew h1,But.drew h2⟩
theorem ix_flts {o:Option Addr} {n cap b off:Nat} (h:0 < n→o = some ⟨b,off,none⟩) {j:Nat} (hj:j < n) (hn:n≤9223372036854775807):Ix 28 2 (.slice o n cap) b off j:=by
  intro W
  rw [h (by omega)]
  have h1:(j:Int) < (n:Int):=by omega
  have h2:(j:Int)≤9223372036854775807:=by omega
  go_simp
set_option maxHeartbeats 8000000 in
set_option maxRecDepth 100000 in
theorem compact_any (blk off cap:Nat) (d:Array Flt) (w:World) (hR:RowF w blk off d) (hsz:d.size≤1000000) (hcap:d.size≤cap) :
    Calls Tryz.prog 47 #[.slice (some ⟨blk,off,none⟩) d.size cap] w fun e w'=>e = .returned (.slice (some ⟨blk,off,none⟩) (compactUpTo d d.size).length cap)∧But blk w w'∧FltsAt w' blk off (compactUpTo d d.size):=by
  have same:(∀ j,j < d.size→keeps d j = true)→∀ wr,RowF wr blk off d→(compactUpTo d d.size).length = d.size∧FltsAt wr blk off (compactUpTo d d.size):=by
    intro hall wr hwr
    have e:compactUpTo d d.size = d.toList:=by rw [compactUpTo_all d _ hall,range_map_get]
    rw [e]
    refine ⟨by simp,fun i x hx=>?_⟩
    obtain ⟨hi,hx2⟩:=List.getElem?_eq_some_iff.1 hx
    have hi' : i < d.size:=by simpa using hi
    have:=hwr.1 i hi'
    rw [show d[i]! = x by rw [getElem!_pos d i hi'];simpa using hx2] at this
    exact this
  have HS:=hid same
  have HR:=hid hR
  clear same hR
  by_cases h2:d.size < 2
  · go_enter Tryz.func47,Tryz.ntmps47
    go_wp2_with fail
    go_ret
    obtain ⟨e1,e2⟩:=HS.out (fun j hj=>keeps_lt_one d j (by omega)) w HR.out
    exact ⟨by rw [e1];rfl,But.refl _ _,e2⟩
  · go_enter Tryz.func47,Tryz.ntmps47
    go_wp2_with fail
    go_loopw [3] (fun s3 wr=>∃ k:Nat,s3 = .int .i64 (k:Int)∧1≤k∧k≤d.size∧Hid (RowF wr blk off d∧But blk w wr)∧Hid (∀ j,j < k→keeps d j = true)) (fun s3 _=>d.size - litLen s3)
    case atStart=>exact ⟨1,rfl,Nat.le_refl _,by omega,hid ⟨HR.out,But.refl _ _⟩,hid (keeps_lt_one d)⟩
    case round =>
      obtain ⟨k,rfl,hk1,hk,HW,HA⟩:=hrel
      by_cases hlt:k < d.size
      · obtain ⟨a1,b1⟩:=HW.out.1.1 k hlt
        obtain ⟨a0,b0⟩:=HW.out.1.1 (k - 1) (by omega)
        have ixk:=ix_flts (o:=some ⟨blk,off,none⟩) (n:=d.size) (cap:=cap) (b:=blk) (off:=off) (fun _=>rfl) hlt (by omega)
        have ixp:=ix_flts (o:=some ⟨blk,off,none⟩) (n:=d.size) (cap:=cap) (b:=blk) (off:=off) (fun _=>rfl) (j:=k - 1) (by omega) (by omega)
        unfold Ix at ixk ixp
        generalize hx:d[k]! = x at a1 b1
        generalize hy:d[k - 1]! = y at a0 b0
        have HB:=hid (And.intro hx hy)
        clear hx hy
        have mixed : Tryz.prog.follows .mixedOrders = true:=by kernel_rfl
        have hc:(¬ x.1 = y.1)∨(x.1 = y.1∧¬ x.2 = y.2)∨(x.1 = y.1∧x.2 = y.2):=by
          by_cases h1:x.1 = y.1 <;> by_cases h2:x.2 = y.2 <;> simp [h1,h2]
        obtain ⟨x1,x2⟩:=x
        obtain ⟨y1,y2⟩:=y
        dsimp only at a1 b1 a0 b0 hc
        have hkeep:(¬ x1 = y1∨¬ x2 = y2)→∀ j,j < k+1→keeps d j = true:=fun hne j hj=>by
          by_cases e:j = k
          · subst e
            refine keeps_pos ?_
            rw [HB.out.1,HB.out.2]
            intro e2
            injection e2 with e3 e4
            rcases hne with h | h
            · exact h e3
            · exact h e4
          · exact HA.out j (by omega)
        have HK:=hid hkeep
        clear hkeep
        rcases hc with z | ⟨z,z2⟩ | ⟨z,z2⟩
        · have HN:=hid (HK.out (.inl z))
          have q1:(x1 == y1) = false:=by simpa using z
          go_wp2_with fail
          go_region_o
          all_goals (
            go_wp2_with fail
            exact ⟨⟨k+1,by go_num,by omega,by omega,hid ⟨HW.out.1,HW.out.2.drew⟩,HN⟩,by simp [litLen];omega⟩)
        · have HN:=hid (HK.out (.inr z2))
          have q1:(x1 == y1) = true:=by simpa using z
          have q2:(x2 == y2) = false:=by simpa using z2
          go_wp2_with fail
          go_region_o
          all_goals (
            go_wp2_with fail
            exact ⟨⟨k+1,by go_num,by omega,by omega,hid ⟨HW.out.1,HW.out.2.drew⟩,HN⟩,by simp [litLen];omega⟩)
        · have HN:Hid (keeps d k = false):=hid (keeps_neg (by omega) (by rw [HB.out.1,HB.out.2,z,z2]))
          have q1:(x1 == y1) = true:=by simpa using z
          have q2:(x2 == y2) = true:=by simpa using z2
          go_wp2_with fail
          go_region_o
          all_goals (
            go_wp2_with fail
            clear a1 b1 a0 b0 ixk ixp z z2 q1 q2
            have HW0:Hid (RowF wr.drew blk off d∧But blk w wr.drew):=hid ⟨HW.out.1,HW.out.2.drew⟩
            clear HW
            go_loopw [3,5] (fun s3 s5 wr=>∃ (kk k2:Nat) (dk:Array Flt),s3 = .int .i64 (kk:Int)∧s5 = .int .i64 (k2:Int)∧1≤k2∧k+k2≤d.size∧Hid (RowF wr blk off dk∧But blk w wr)∧Hid (CompInv d (k+k2) kk dk)) (fun _ s5 _=>d.size - (k+litLen s5))
            case atStart=>exact ⟨k,1,d,rfl,rfl,Nat.le_refl _,by omega,HW0,hid (CompInv.start HA.out HN.out)⟩
            case round =>
              obtain ⟨kk,k2,dk,rfl,rfl,h1,hle,HW2,HI⟩:=hrel
              have hkk:=HI.out.lt
              have hds:=HI.out.size
              by_cases hlt2:k+k2 < d.size
              · obtain ⟨c1,e1⟩:=HW2.out.1.1 (k+k2) (by omega)
                obtain ⟨c0,e0⟩:=HW2.out.1.1 (k+k2 - 1) (by omega)
                obtain ⟨t0,t1⟩:=HW2.out.1.1 kk (by omega)
                have fz:=HW2.out.1.2 (kk*2) (by omega)
                have fz1:=HW2.out.1.2 (kk*2+1) (by omega)
                rw [← Nat.add_assoc] at fz1
                rw [HI.out.high (k+k2) (by omega),show off+(k+k2)*2 = off+k*2+k2*2 by omega] at c1 e1
                rw [HI.out.high (k+k2 - 1) (by omega),show off+(k+k2 - 1)*2 = off+k*2+(k2 - 1)*2 by omega] at c0 e0
                have ixk:=ix_flts (o:=some ⟨blk,off+k*2,none⟩) (n:=d.size - k) (cap:=cap - k) (b:=blk) (off:=off+k*2) (fun _=>rfl) (j:=k2) (by omega) (by omega)
                have ixp:=ix_flts (o:=some ⟨blk,off+k*2,none⟩) (n:=d.size - k) (cap:=cap - k) (b:=blk) (off:=off+k*2) (fun _=>rfl) (j:=k2 - 1) (by omega) (by omega)
                have ixs:=ix_flts (o:=some ⟨blk,off,none⟩) (n:=d.size) (cap:=cap) (b:=blk) (off:=off) (fun _=>rfl) (j:=kk) (by omega) (by omega)
                unfold Ix at ixk ixp ixs
                generalize hu:d[k+k2]! = u at c1 e1
                generalize hv:d[k+k2 - 1]! = v at c0 e0
                generalize dk[kk]! = old at t0 t1
                have HC:=hid (And.intro hu hv)
                clear hu hv
                obtain ⟨u1,u2⟩:=u
                obtain ⟨v1,v2⟩:=v
                dsimp only at c1 e1 c0 e0
                have hc:(¬ u1 = v1)∨(u1 = v1∧¬ u2 = v2)∨(u1 = v1∧u2 = v2):=by
                  by_cases h1:u1 = v1 <;> by_cases h2:u2 = v2 <;> simp [h1,h2]
                have hkeep:(¬ u1 = v1∨¬ u2 = v2)→CompInv d (k+(k2+1)) (kk+1) (dk.setIfInBounds kk (u1,u2)):=fun hne=>by
                  have:=HI.out.keep hlt2 (keeps_pos (by
                    rw [HC.out.1,HC.out.2]
                    intro e2
                    injection e2 with e3 e4
                    rcases hne with h | h
                    · exact h e3
                    · exact h e4))
                  rwa [HC.out.1] at this
                have HK:=hid hkeep
                clear hkeep
                rcases hc with z | ⟨z,z2⟩ | ⟨z,z2⟩
                · have HN3:=hid (HK.out (.inl z))
                  have q1:(u1 == v1) = false:=by simpa using z
                  go_wp2_with fail
                  go_region_o
                  all_goals (
                    go_wp2_with fail
                    refine ⟨⟨kk+1,k2+1,dk.setIfInBounds kk (u1,u2),by go_num,by go_num,by omega,by omega,keep_put (kk:=kk) (dk:=dk) HW2 (by omega) u1 u2,HN3⟩,?_⟩
                    simp [litLen]
                    omega)
                · have HN3:=hid (HK.out (.inr z2))
                  subst z
                  have q1:(u1 == u1) = true:=by simp
                  have q2:(u2 == v2) = false:=by simpa using z2
                  go_wp2_with fail
                  go_region_o
                  all_goals (
                    go_wp2_with fail
                    refine ⟨⟨kk+1,k2+1,dk.setIfInBounds kk (u1,u2),by go_num,by go_num,by omega,by omega,keep_put (kk:=kk) (dk:=dk) HW2 (by omega) u1 u2,HN3⟩,?_⟩
                    simp [litLen]
                    omega)
                · have HN3:Hid (CompInv d (k+(k2+1)) kk dk):=hid (HI.out.skip (keeps_neg (by omega) (by rw [HC.out.1,HC.out.2,z,z2])))
                  have q1:(u1 == v1) = true:=by simpa using z
                  have q2:(u2 == v2) = true:=by simpa using z2
                  go_wp2_with fail
                  go_region_o
                  all_goals (
                    go_wp2_with fail
                    exact ⟨⟨kk,k2+1,dk,by go_num,by go_num,by omega,by omega,hid ⟨HW2.out.1.drew,HW2.out.2.drew⟩,HN3⟩,by simp [litLen];omega⟩)
              · have hend:k+k2 = d.size:=by omega
                have hI:=HI.out
                rw [hend] at hI
                have HI2:=hid hI
                clear hI
                obtain ⟨Y,hcl,hbY,hloY,hfY⟩:=run_clear_flts _ blk (off+kk*2) (d.size - kk) (cap - kk) (by omega) (fun j hj=>by
                  obtain ⟨p0,p1⟩:=HW2.out.1.1 (kk+j / 2) (by omega)
                  rcases (show j = j / 2*2∨j = j / 2*2+1 by omega) with e | e
                  · rw [e,show off+kk*2+j / 2*2 = off+(kk+j / 2)*2 by omega,p0];rfl
                  · rw [e,show off+kk*2+(j / 2*2+1) = off+(kk+j / 2)*2+1 by omega,p1];rfl) (fun j hj=>by rw [Nat.add_assoc];exact HW2.out.1.2 _ (by omega))
                have HY:=hid (And.intro hbY (And.intro hloY hfY))
                clear hbY hloY hfY
                go_wp2_with fail
                go_ret
                refine ⟨by rw [HI2.out.len];rfl,⟨HY.out.1.os.trans HW2.out.2.os,HY.out.1.tape.trans HW2.out.2.tape,HY.out.1.output.trans HW2.out.2.output,Nat.le_trans HW2.out.2.size HY.out.1.size,fun j hj hl=>(HY.out.1.block j hj (Nat.lt_of_lt_of_le hl HW2.out.2.size)).trans (HW2.out.2.block j hj hl)⟩,fun i x hx=>?_⟩
                have hi:i < kk:=by
                  have:=(List.getElem?_eq_some_iff.1 hx).1
                  rwa [HI2.out.len] at this
                have hl:=HI2.out.low i hi
                rw [hx] at hl
                injection hl with hl
                obtain ⟨p0,p1⟩:=HW2.out.1.1 i (by omega)
                rw [← hl] at p0 p1
                exact ⟨(HY.out.2.1 _ (by omega)).trans p0,(HY.out.2.1 _ (by omega)).trans p1⟩)
      · obtain rfl:k = d.size:=by omega
        go_wp2_with fail
        go_ret
        obtain ⟨e1,e2⟩:=HS.out HA.out _ HW.out.1
        exact ⟨by rw [e1];rfl,HW.out.2,e2⟩
end
section
open Go.RowKit Lx Go.Shelf Go.Sort Go.Lib
def FlsAt (W:World) (s:Value) (l:List Flt):Prop:=SlAt s l.length 2 fun b o i=>∀ x,l[i]? = some x→W.cell? ⟨b,o,none⟩ = some (.int .i64 x.1)∧W.cell? ⟨b,o+1,none⟩ = some (.int .i64 x.2)
theorem FlsAt.below {w w' : World} {s:Value} {l:List Flt} (h:FlsAt w s l) (hb:Below w.heap.size w w'):FlsAt w' s l:=h.mono fun _ _ _ _ h x hx=>⟨cell_on hb (h x hx).1,cell_on hb (h x hx).2⟩
set_option maxHeartbeats 4000000 in
theorem clone_zero (a:Addr) (c:Nat) (w:World) :
    Calls Tryz.prog 41 #[.slice (some a) 0 c] w fun e w'=>∃ v',e = .returned v'∧w'.ownsRow w.heap.size 51 2 v' 0 []∧v'≠.slice none 0 0∧Below w.heap.size w w':=by
  obtain ⟨i,h2,h3,h4,h5⟩:=info_parts flt_info
  have q22:∀ (w:World) (a:Option Addr) (n c n' c' : Nat),(binOp .eql 28 (.slice a n c) (.slice none n' c')).run Tryz.prog w = .ok (.bool a.isNone) w:=fun w a n c n' c'=>Lib.run_eql_slice_nil w _ _ a n c n' c' Tryz.underlying28
  go_enter Tryz.func41,Tryz.ntmps41
  go_wp2_with (at_builtin;refine wpList_append_own _ rfl _ _ 28 rfl w.heap.size 51 i _ 2 16 Tryz.underlying28 h2 h3 h4 h5 rfl (by decide) _ _ _ rfl (World.ownsRow_made w #[] 0 (Nat.le_refl _) (Nat.zero_le _) (by simp)) a 0 c [] rfl ?qc1 ?qc2 ?qc3 ?qc4 ?qc5 ?qc6 ?_)
  case qc1=>rfl
  case qc2=>intro j u hj;simp at hj
  case qc3=>simp
  case qc4=>decide
  case qc5=>decide
  case qc6=>simp
  intro v' w1 hown hgrow hnil
  go_wp2_with fail
  go_ret
  refine ⟨v',rfl,by simpa using hown,?_,?_⟩
  · exact hnil
  · exact ((Below.refl _ w).alloc (Nat.le_refl _) _).grown hgrow (by simp) (by intro k hk;simp [Value.ownBlock] at hk;omega)
theorem compact_nil (o:Option Addr) (c:Nat) (w:World):Calls Tryz.prog 47 #[.slice o 0 c] w fun e w'=>e = .returned (.slice o 0 c)∧w' = w:=by
  go_enter Tryz.func47,Tryz.ntmps47
  go_wp2_with fail
  go_ret
  exact ⟨rfl,rfl⟩
theorem ord_nil:ordF [] = []:=by unfold ordF sortF compactUpTo;simp
theorem rowF_of {W:World} {B n:Nat} {v:Value} {l:List Flt} (h:W.ownsRow B 51 2 v n (l.flatMap encF)) (hne:v≠.slice none 0 0):∃ g c,v = .slice (some ⟨g,0,none⟩) n c∧n≤c∧c≤maxLen∧HoldsK encF 2 W g 0 l.toArray∧B≤g∧g < W.heap.size:=by
  obtain ⟨hlen,h1 | ⟨g,cap,cur,rfl,hb,hg,hnc,hcm,hcs,htk⟩⟩:=h
  · exact absurd h1.1 hne
  · obtain ⟨hF,hZ,hge,hlt⟩:=own_flts (l:=l) ⟨hlen,.inr ⟨g,cap,cur,rfl,hb,hg,hnc,hcm,hcs,htk⟩⟩
    exact ⟨g,cap,rfl,hnc,hcm,holds_of hF hZ,hge,hlt⟩
theorem clone_some (a:Addr) (n c:Nat) (l:List Flt) (w:World) (hs:FlsAt w (.slice (some a) n c) l) (hn:l.length≤1000000) :
    Calls Tryz.prog 41 #[.slice (some a) n c] w fun e w'=>∃ g c',e = .returned (.slice (some ⟨g,0,none⟩) l.length c')∧l.length≤c'∧c'≤maxLen∧HoldsK encF 2 w' g 0 l.toArray∧w.heap.size≤g∧g < w'.heap.size∧Below w.heap.size w w':=by
  obtain ⟨o,cap,b,off,e,_,_,h0,hc⟩:=hs
  injection e with e1 e2 e3
  subst e2
  have hfin:∀ e w',(∃ v',e = Ending.returned v'∧World.ownsRow w' w.heap.size 51 2 v' l.length (l.flatMap encF)∧v'≠.slice none 0 0∧Below w.heap.size w w')→∃ g c',e = .returned (.slice (some ⟨g,0,none⟩) l.length c')∧l.length≤c'∧c'≤maxLen∧HoldsK encF 2 w' g 0 l.toArray∧w.heap.size≤g∧g < w'.heap.size∧Below w.heap.size w w':=by
    rintro e w' ⟨v',rfl,ho,hne,hb⟩
    obtain ⟨g,c',rfl,h1,h2,h3,h4,h5⟩:=rowF_of ho hne
    exact ⟨g,c',rfl,h1,h2,h3,h4,h5,hb⟩
  rcases Nat.eq_zero_or_pos l.length with hz | hp
  · obtain rfl:=List.eq_nil_of_length_eq_zero hz
    exact (clone_zero a c w).mono hfin
  · have:=h0 hp
    rw [← e1] at this
    injection this with this
    subst this
    refine (clone_any b off l.length c l w rfl hn fun j u hu=>?_).mono hfin
    have hj:=(List.getElem?_eq_some_iff.1 hu).1
    rw [flat_len] at hj
    obtain ⟨x,hx⟩:∃ x,l[j / 2]? = some x:=⟨_,List.getElem?_eq_getElem (by omega)⟩
    obtain ⟨f0,f1⟩:=flat_get l _ x hx
    obtain ⟨c0,c1⟩:=hc (j / 2) (by omega) x hx
    rcases (show j = j / 2*2∨j = j / 2*2+1 by omega) with e | e
    · rw [e,f0] at hu
      injection hu with hu
      rw [e,← hu];exact c0
    · rw [e,f1] at hu
      injection hu with hu
      rw [e,← hu,← Nat.add_assoc];exact c1
theorem holds_row {W:World} {g off:Nat} {l:List Flt} (h:HoldsK encF 2 W g off l.toArray):RowF W g off l.toArray:=by
  refine ⟨fun i hi=>?_,fun j hj=>(h j (by simpa using hj)).2⟩
  have hx:l[i]? = some l.toArray[i]!:=by
    rw [getElem!_pos _ i hi]
    simp
  exact of_holds h i _ hx
set_option maxHeartbeats 4000000 in
theorem order_any (s:Value) (l:List Flt) (w:World) (hs:FlsAt w s l) (hn:l.length≤1000000) :
    Calls Tryz.prog 26 #[s] w fun r Y=>∃ v,r = .returned v∧FlsAt Y v (ordF l)∧Below w.heap.size w Y:=by
  obtain ⟨o,cap,b,off,rfl,hcap⟩:=hs
  cases o with
  | none =>
    have hl:l.length = 0:=by
      rcases Nat.eq_zero_or_pos l.length with h | h
      · exact h
      · have:=hcap.2.2.1 h;cases this
    have hl0:=List.eq_nil_of_length_eq_zero hl
    have CL:Hid (∀ n c,Calls Tryz.prog 41 #[.slice none n c] w fun e w'=>e = .returned (.slice none 0 0)∧w' = w):=hid (fun n c=>AnyE.slices_Clone_nil Tryz.cloneF n c w)
    have SO:Hid (∀ fv w,Calls Tryz.prog 42 #[.slice none 0 0,fv] w fun e w'=>e = .returned (.tuple #[])∧w' = w):=hid (fun fv w=>AnyF.slices_SortFunc_none Tryz.sortF none 0 fv w)
    clear hcap hn
    subst hl0
    go_enter Tryz.func26,Tryz.ntmps26
    go_wp2_with (go_at_call 41;(with_reducible refine (CL.out _ _).mono ?_);rintro e w1 ⟨rfl,rfl⟩)
    refine (SO.out _ _).mono ?_
    rintro e w2 ⟨rfl,rfl⟩
    dsimp only
    go_wp2_with (go_at_call 47;(with_reducible refine (compact_nil _ _ _).mono ?_);rintro e w3 ⟨rfl,rfl⟩)
    go_ret
    exact ⟨_,rfl,by rw [ord_nil];exact slAt_none _ _ _ _ _ ⟨Nat.zero_le _,fun _=>rfl⟩ rfl,Below.refl _ _⟩
  | some a =>
    have CL:=hid (clone_some a l.length cap l w ⟨_,cap,b,off,rfl,hcap⟩ hn)
    have HN:=hid hn
    clear hcap hn
    go_enter Tryz.func26,Tryz.ntmps26
    go_wp2_with (go_at_call 41;(with_reducible refine CL.out.mono ?_);rintro e w1 ⟨g1,c1,rfl,k1,k2,hH,hge,hlt,hb⟩;have HH:=hid hH;have HB:=hid hb;have HG:=hid (And.intro hge hlt);have HC:=hid (And.intro k1 k2);clear hH hb hge hlt k1 k2)
    have SO2:Hid (Calls Tryz.prog 42 #[.slice (some ⟨g1,0,none⟩) l.length c1,.func (.func 43) #[] #[]] w1 fun e w'=>e = .returned (.tuple #[])∧HoldsK encF 2 w' g1 0 (sortF l).toArray∧But g1 w1 w'):=hid (by
      have:=sort_any g1 0 c1 l.toArray w1 HH.out HG.out.2 (by have:=HN.out;simp;omega)
      simpa using this)
    refine SO2.out.mono ?_
    rintro e w2 ⟨rfl,hH2,hBt⟩
    dsimp only
    have hsl:(sortF l).length = l.length:=(sort_perm l).length_eq
    have CO:Hid (Calls Tryz.prog 47 #[.slice (some ⟨g1,0,none⟩) l.length c1] w2 fun e w'=>e = .returned (.slice (some ⟨g1,0,none⟩) (ordF l).length c1)∧But g1 w2 w'∧FltsAt w' g1 0 (ordF l)):=hid (by
      have:=compact_any g1 0 c1 (sortF l).toArray w2 (holds_row hH2) (by have:=HN.out;simp [hsl];omega) (by have:=HC.out.1;simp [hsl];omega)
      simpa [hsl,ordF] using this)
    have HBt:=hid hBt
    clear hH2 hBt hsl
    go_wp2_with (go_at_call 47;(with_reducible refine CO.out.mono ?_);rintro e w3 ⟨rfl,hB3,hF3⟩;have HB3:=hid hB3;have HF3:=hid hF3;clear hB3 hF3)
    go_ret
    refine ⟨_,rfl,slAt_some (Nat.le_trans (ord_length l) HC.out.1) HC.out.2 fun i hi x hx=>HF3.out i x hx,?_⟩
    have hb:=HB.out
    have ht:=HBt.out
    have h3:=HB3.out
    have hg:=HG.out.1
    exact ⟨h3.os.trans (ht.os.trans hb.os),h3.tape.trans (ht.tape.trans hb.tape),h3.output.trans (ht.output.trans hb.output),Nat.le_trans hb.size (Nat.le_trans ht.size h3.size),fun k hk=>(h3.block k (by omega) (by have:=hb.size;have:=ht.size;omega)).trans ((ht.block k (by omega) (by have:=hb.size;omega)).trans (hb.block k hk))⟩
end
section
open Go.RowKit Lx Go.Shelf Go.Sort Go.Lib
attribute [local go_sem] Oper.semAt_some
theorem ne_at {l m:List Flt} {c:Nat} {x y:Flt} (hx:l[c]? = some x) (hy:m[c]? = some y) (h:¬ (x.1 = y.1∧x.2 = y.2)):¬ l = m:=fun e=>by
  rw [e,hy] at hx
  injection hx with hx
  exact h (by rw [hx];exact ⟨rfl,rfl⟩)
theorem eq_all {l m:List Flt} (h1:l.length = m.length) (h:∀ j,j < l.length→∀ x y,l[j]? = some x→m[j]? = some y→x = y):l = m:=by
  apply List.ext_getElem h1
  intro i hi hj
  exact h i hi _ _ (List.getElem?_eq_getElem _) (List.getElem?_eq_getElem _)
set_option maxHeartbeats 8000000 in
set_option maxRecDepth 100000 in
theorem same_fl (s t:Value) (l m:List Flt) (w:World) (hs:FlsAt w s l) (ht:FlsAt w t m) (hn:l.length≤1000000) :
    Calls Tryz.prog 14 #[s,t] w fun r Y=>r = .returned (.bool (decide (l = m)))∧Below w.heap.size w Y:=by
  have HS:=hid hs
  have HT:=hid ht
  obtain ⟨o1,cap1,b1,f1,rfl,_,_,e1,c1⟩:=hs
  obtain ⟨o2,cap2,b2,f2,rfl,_,_,e2,c2⟩:=ht
  obtain ⟨n,hnn⟩:∃ n,n = l.length:=⟨_,rfl⟩
  obtain ⟨k,hkk⟩:∃ k,k = m.length:=⟨_,rfl⟩
  rw [← hnn] at e1 c1 hn ⊢
  rw [← hkk] at e2 c2 ⊢
  have HN:=hid hnn
  have HM:=hid hkk
  have E1:=hid e1
  have E2:=hid e2
  have C1:=hid c1
  have C2:=hid c2
  clear hnn hkk e1 e2 c1 c2
  go_enter Tryz.func14,Tryz.ntmps14
  by_cases g1:¬ n = k
  · have z1:((n:Int) != (k:Int)) = true:=by simp;omega
    have HF:Hid (decide (l = m) = false):=hid (decide_eq_false fun e=>g1 (by rw [HN.out,HM.out,e]))
    clear g1
    go_wp2_with fail
    go_ret
    exact ⟨by rw [HF.out];rfl,Below.refl _ _⟩
  have G1:=hid (Classical.not_not.1 g1)
  have z1:((n:Int) != (k:Int)) = false:=by simp [G1.out]
  clear g1
  go_wp2_with fail
  clear z1
  go_loopw [5] (fun i wr=>∃ (c:Nat),i = .int .i64 (c:Int)∧c≤n∧Hid (∀ j,j < c→∀ x y,l[j]? = some x→m[j]? = some y→x = y)∧Hid (Below w.heap.size w wr)) (fun i _=>n - litLen i)
  case atStart=>exact ⟨0,rfl,Nat.zero_le _,hid fun j hj=>by omega,hid (Below.refl _ _)⟩
  case round =>
    obtain ⟨c,rfl,hc,hP,hWr⟩:=hrel
    rcases Nat.lt_or_ge c n with hlt | hge
    · have hl:(c:Int) < (n:Int):=by omega
      have hl2:c < k:=by rw [← G1.out];exact hlt
      obtain ⟨x,hxk⟩:∃ x,l[c]? = some x:=⟨_,List.getElem?_eq_getElem (by have:=HN.out;omega)⟩
      obtain ⟨y,hyk⟩:∃ y,m[c]? = some y:=⟨_,List.getElem?_eq_getElem (by have:=HM.out;omega)⟩
      obtain ⟨p1,p2⟩:=C1.out c hlt x hxk
      obtain ⟨q1,q2⟩:=C2.out c hl2 y hyk
      have p1:=cell_on hWr.out p1
      have p2:=cell_on hWr.out p2
      have q1:=cell_on hWr.out q1
      have q2:=cell_on hWr.out q2
      have ix1:=ix_flts (cap:=cap1) E1.out hlt (by omega)
      have ix2:=ix_flts (cap:=cap2) E2.out hl2 (by have:=G1.out;omega)
      unfold Ix at ix1 ix2
      have HX:=hid hxk
      have HY:=hid hyk
      have HDR:Hid (Below w.heap.size w wr.drew):=hid (hWr.out.trans ⟨rfl,rfl,rfl,Nat.le_refl _,fun _ _=>rfl⟩)
      clear hxk hyk
      have mixed : Tryz.prog.follows .mixedOrders = true:=by kernel_rfl
      have hne:¬ (x.1 = y.1∧x.2 = y.2)→decide (l = m) = false:=fun h=>decide_eq_false (ne_at HX.out HY.out h)
      have hyes:x.1 = y.1→x.2 = y.2→∀ j,j < c+1→∀ x y,l[j]? = some x→m[j]? = some y→x = y:=fun h1 h2 j hj x1 y1 k1 k2=>by
        rcases Nat.lt_or_ge j c with h | h
        · exact hP.out j h x1 y1 k1 k2
        · obtain rfl:j = c:=by omega
          have e1:=HX.out.symm.trans k1
          have e2:=HY.out.symm.trans k2
          cases e1;cases e2
          exact Prod.ext h1 h2
      have HNE:=hid hne
      have HYE:=hid hyes
      clear hne hyes
      obtain ⟨x1,x2⟩:=x
      obtain ⟨y1,y2⟩:=y
      dsimp only at p1 p2 q1 q2
      by_cases z:x1 = y1
      · by_cases z2:x2 = y2
        · have HY2:=hid (HYE.out z z2)
          subst z
          subst z2
          have r1:(x1 == x1) = true:=by simp
          have r2:(x2 == x2) = true:=by simp
          go_wp2_with fail
          go_region_o
          all_goals (
            go_wp2_with fail
            refine ⟨⟨c+1,by go_num,by omega,HY2,HDR⟩,?_⟩
            simp [litLen]
            omega)
        · have HF:=hid (HNE.out fun h=>z2 h.2)
          subst z
          have r1:(x1 == x1) = true:=by simp
          have r2:(x2 == y2) = false:=by simpa using z2
          go_wp2_with fail
          go_region_o
          all_goals (go_wp2_with fail)
          all_goals (
            go_ret
            exact ⟨by rw [HF.out];rfl,HDR.out⟩)
      · have HF:=hid (HNE.out fun h=>z h.1)
        have r1:(x1 == y1) = false:=by simpa using z
        go_wp2_with fail
        go_region_o
        all_goals (go_wp2_with fail)
        all_goals (
          go_ret
          exact ⟨by rw [HF.out];rfl,HDR.out⟩)
    · obtain rfl:c = n:=by omega
      have hno:¬ (c:Int) < (c:Int):=by omega
      have HF:Hid (decide (l = m) = true):=hid (decide_eq_true (eq_all (by rw [← HN.out,← HM.out];exact G1.out) fun j hj x y h1 h2=>hP.out j (by rw [HN.out];exact hj) x y h1 h2))
      go_wp2_with fail
      go_ret
      exact ⟨by rw [HF.out];rfl,hWr.out⟩
end
section
open Go.RowKit Lx Go.Shelf Go.Sort Go.Lib
attribute [local go_sem] Oper.semAt_some
theorem ins_none (f:Flt):∀ (l r:List Flt),l.any (ltF f) = false→insF f (l ++ r) = l ++ insF f r
  | [],r,_=>rfl
  | y :: l,r,h=>by
    rw [List.any_cons,Bool.or_eq_false_iff] at h
    rw [List.cons_append,List.cons_append,insF,if_neg (by rw [h.1];decide),ins_none f l r h.2]
theorem ins_some (f:Flt):∀ (l r:List Flt),l.any (ltF f) = true→insF f (l ++ r) = insF f l ++ r
  | [],r,h=>by simp at h
  | y :: l,r,h=>by
    rw [List.cons_append,insF,insF]
    split
    · rfl
    · rename_i hn
      rw [List.cons_append,ins_some f l r (by rw [List.any_cons] at h;simpa [hn] using h)]
theorem ins_len (f:Flt):∀ l:List Flt,(insF f l).length = l.length+1
  | []=>rfl
  | y :: l=>by
    unfold insF
    split
    · rfl
    · rw [List.length_cons,ins_len f l];rfl
theorem take_next {l:List Flt} {c:Nat} {y:Flt} (h:l[c]? = some y):l.take (c+1) = l.take c ++ [y]:=by
  rw [List.take_add_one,h];rfl
structure AdSt (w:World) (f:Flt) (Z:World) (v:Value) (out:List Flt):Prop where
  below:Below w.heap.size w Z
  box:Z.heap[w.heap.size]? = some (.cells #[.int .i64 f.1,.int .i64 f.2] 51 (0,0))
  own:Z.ownsRow (w.heap.size+1) 51 2 v out.length (out.flatMap encF)
theorem AdSt.drew {w Z:World} {f:Flt} {v:Value} {out:List Flt} (h:AdSt w f Z v out):AdSt w f Z.drew v out:=⟨⟨h.below.os,h.below.tape,h.below.output,h.below.size,h.below.block⟩,h.box,h.own⟩
theorem adSt_start (w:World) (f:Flt):AdSt w f (w.alloc (.cells #[.int .i64 f.1,.int .i64 f.2] 51)) (.slice none 0 0) [] :=
  ⟨(Below.refl _ _).alloc (Nat.le_refl _) _,al_new rfl,World.ownsRow_nil _ _ _ _⟩
theorem AdSt.push {w Z Y:World} {f:Flt} {v v' : Value} {out:List Flt} {a b:Int} (h:AdSt w f Z v out) (ho:Y.ownsRow (w.heap.size+1) 51 2 v' (out.length+1) (out.flatMap encF ++ [.int .i64 a,.int .i64 b])) (hg:(Z.alloc (.cells #[.int .i64 a,.int .i64 b] 51)).grownBy Y v.ownBlock):AdSt w f Y v' (out ++ [(a,b)]):=by
  have hlt:=lt_of_heap h.box
  have hne:∀ k,k≤w.heap.size→v.ownBlock≠some k:=fun k hk e=>by
    have:=(h.own.lt k e).1
    omega
  have hal:∀ k,k < Z.heap.size→(Z.alloc (.cells #[.int .i64 a,.int .i64 b] 51)).heap[k]? = Z.heap[k]?:=fun k hk=>((Below.refl Z.heap.size Z).alloc (Nat.le_refl _) (.cells #[.int .i64 a,.int .i64 b] 51)).block k hk
  have hsz:(Z.alloc (.cells #[.int .i64 a,.int .i64 b] 51)).heap.size = Z.heap.size+1:=by simp
  have hb:Below w.heap.size w (Z.alloc (.cells #[.int .i64 a,.int .i64 b] 51)):=h.below.alloc h.below.size _
  refine ⟨⟨hg.os.trans hb.os,hg.tape.trans hb.tape,hg.output.trans hb.output,Nat.le_trans hb.size hg.size,fun k hk=>(hg.block k (by omega) (fun e=>hne k (by omega) e.symm)).trans (hb.block k hk)⟩,?_,?_⟩
  · exact (hg.block _ (by omega) (fun e=>hne _ (Nat.le_refl _) e.symm)).trans ((hal _ hlt).trans h.box)
  · rw [List.length_append,List.flatMap_append]
    exact ho
set_option maxHeartbeats 4000000 in
theorem drew_alloc2 (W:World) (o:Obj):(W.alloc o).drew.drew = (W.drew.drew).alloc o:=rfl
set_option maxHeartbeats 4000000 in
theorem wpList_ad {w Z Z' : World} {f:Flt} {v:Value} {out:List Flt} (h:Hid (AdSt w f Z v out)) (a b:Int) (hZ:Z' = Z.alloc (.cells #[.int .i64 a,.int .i64 b] 51)) (hk:out.length≤1000000) {ops:Array Oper} {rest:List Oper} {o:Oper} {act:Act} {Q:Exit→Act→World→Prop}
    (hg:o.guard = none) (s x:Operand) (hop:o.op = Op.call { callee:=Callee.builtin Builtin.append,args:=#[s,x],argTypes:=#[28,28] }) (hs:act.eval s = v) (hx:act.eval x = .slice (some ⟨Z.heap.size,0,none⟩) 1 1)
    (hK:∀ v' w',Hid (AdSt w f w' v' (out ++ [(a,b)]))→wpList Tryz.prog ops Q rest (act.put o.dst v') w') :
    wpList Tryz.prog ops Q (o :: rest) act Z':=by
  subst hZ
  obtain ⟨i,h2,h3,h4,h5⟩:=info_parts flt_info
  refine wpList_append_lies (w:=_) hg s x 28 hop (w.heap.size+1) 51 i _ 2 16 Tryz.underlying28 h2 h3 h4 h5 rfl (by decide) v out.length (out.flatMap encF) hs (h.out.own.alloc _) ⟨Z.heap.size,0,none⟩ 1 1 [.int .i64 a,.int .i64 b] hx rfl (fun j u hu=>?_) (by intro u hu;simp at hu;rcases hu with rfl | rfl <;> rfl) (by decide) (by unfold maxLen;omega) (by omega) (by have:=lt_of_heap h.out.box;simp;omega) _ rfl fun g cap w' ho hgr _ _=>hK _ _ (hid (h.out.push ho hgr))
  have e:(⟨Z.heap.size,0,none⟩:Addr).add j = ⟨Z.heap.size,j,none⟩:=by unfold Addr.add;split <;> simp_all
  rw [e,World.cell?_alloc_new,← hu,← Array.getElem?_toList]
theorem flsAt_own {W:World} {B:Nat} {v:Value} {l:List Flt} (h:W.ownsRow B 51 2 v l.length (l.flatMap encF)):FlsAt W v l:=by
  obtain ⟨hlen,h1 | ⟨g,cap,cur,rfl,hb,hg,hnc,hcm,hcs,htk⟩⟩:=h
  · rw [h1.1]
    unfold FlsAt
    rw [h1.2]
    exact slAt_none _ _ _ _ _ ⟨Nat.zero_le _,fun _=>rfl⟩ rfl
  · obtain ⟨hF,_,_,_⟩:=own_flts (l:=l) ⟨hlen,.inr ⟨g,cap,cur,rfl,hb,hg,hnc,hcm,hcs,htk⟩⟩
    exact slAt_some hnc hcm fun i _ x hx=>hF i x hx
structure AdI (w:World) (f:Flt) (l:List Flt) (c:Nat) (pb:Bool) (Z:World) (v:Value):Prop where
  any:(l.take c).any (ltF f) = pb
  st:AdSt w f Z v (if pb then insF f (l.take c) else l.take c)
  nin:¬ f∈l.take c
theorem nin_next {f:Flt} {l:List Flt} {c:Nat} {y:Flt} (hy:l[c]? = some y) (h:¬ f∈l.take c) (hne:¬ (y.1 = f.1∧y.2 = f.2)):¬ f∈l.take (c+1):=by
  rw [take_next hy]
  simp only [List.mem_append,List.mem_singleton]
  rintro (h1 | h1)
  · exact h h1
  · exact hne (by rw [h1];exact ⟨rfl,rfl⟩)
theorem AdI.keep {w Z Y:World} {f:Flt} {l:List Flt} {c:Nat} {v v' : Value} {y:Flt} (h:AdI w f l c true Z v) (hy:l[c]? = some y) (hne:¬ (y.1 = f.1∧y.2 = f.2)) (hs:AdSt w f Y v' (insF f (l.take c) ++ [(y.1,y.2)])):AdI w f l (c+1) true Y v' :=
  ⟨by rw [take_next hy,List.any_append,h.any];rfl,by rw [if_pos rfl,take_next hy,ins_some f _ _ h.any];exact hs,nin_next hy h.nin hne⟩
theorem AdI.skip {w Z Y:World} {f:Flt} {l:List Flt} {c:Nat} {v v' : Value} {y:Flt} (h:AdI w f l c false Z v) (hy:l[c]? = some y) (hne:¬ (y.1 = f.1∧y.2 = f.2)) (hlt:ltF f y = false) (hs:AdSt w f Y v' (l.take c ++ [(y.1,y.2)])):AdI w f l (c+1) false Y v' :=
  ⟨by rw [take_next hy,List.any_append,h.any];simp [hlt],by rw [if_neg (by decide),take_next hy];exact hs,nin_next hy h.nin hne⟩
theorem AdI.ins {w Z Y:World} {f:Flt} {l:List Flt} {c:Nat} {v v' : Value} {y:Flt} (h:AdI w f l c false Z v) (hy:l[c]? = some y) (hne:¬ (y.1 = f.1∧y.2 = f.2)) (hlt:ltF f y = true) (hs:AdSt w f Y v' (l.take c ++ [(f.1,f.2)] ++ [(y.1,y.2)])):AdI w f l (c+1) true Y v' :=
  ⟨by rw [take_next hy,List.any_append];simp [hlt],by
    rw [if_pos rfl,take_next hy,ins_none f _ _ h.any,insF,if_pos hlt]
    simpa using hs,nin_next hy h.nin hne⟩
set_option maxHeartbeats 8000000 in
set_option maxRecDepth 100000 in
theorem add_any (s:Value) (l:List Flt) (x1 x2:Int) (w:World) (hs:FlsAt w s l) (hn:l.length≤100000) :
    Calls Tryz.prog 25 #[s,.agg #[.int .i64 x1,.int .i64 x2]] w fun r Y=>∃ v,r = .returned v∧FlsAt Y v (addF l (x1,x2))∧Below w.heap.size w Y:=by
  have HS:=hid hs
  obtain ⟨o1,cap1,b1,f1,rfl,_,_,e1,c1⟩:=hs
  obtain ⟨n,hnn⟩:∃ n,n = l.length:=⟨_,rfl⟩
  rw [← hnn] at e1 c1 hn HS ⊢
  have HN:=hid hnn
  have E1:=hid e1
  have C1:=hid c1
  have A0:=hid (adSt_start w (x1,x2))
  clear hnn e1 c1
  go_enter Tryz.func25,Tryz.ntmps25
  go_wp2_with fail
  go_loopw [5,6,7] (fun vo vp i wr=>∃ (c:Nat) (pb:Bool) (v:Value),v = vo∧vp = .bool pb∧i = .int .i64 (c:Int)∧c≤n∧Hid (AdI w (x1,x2) l c pb wr v)) (fun _ _ i _=>n - litLen i)
  case atStart=>exact ⟨0,false,_,rfl,rfl,rfl,Nat.zero_le _,hid ⟨by simp,by simpa using A0.out,by simp⟩⟩
  case round =>
    obtain ⟨c,pb,v,rfl,rfl,rfl,hc,hI⟩:=hrel
    rcases Nat.lt_or_ge c n with hlt | hge
    · have hl:(c:Int) < (n:Int):=by omega
      obtain ⟨y,hyk⟩:∃ y,l[c]? = some y:=⟨_,List.getElem?_eq_getElem (by have:=HN.out;omega)⟩
      have HP:=hid (C1.out c hlt y hyk)
      have p1:=cell_on hI.out.st.below HP.out.1
      have p2:=cell_on hI.out.st.below HP.out.2
      obtain ⟨u0,u1⟩:=cells_two hI.out.st.box
      dsimp only at u0 u1
      have ix1:=ix_flts (cap:=cap1) E1.out hlt (by omega)
      unfold Ix at ix1
      have HY:=hid hyk
      clear hyk
      have mixed : Tryz.prog.follows .mixedOrders = true:=by kernel_rfl
      obtain ⟨y1,y2⟩:=y
      dsimp only at p1 p2
      by_cases z:y1 = x1∧y2 = x2
      · have HM:Hid (addF l (x1,x2) = l):=hid (by unfold addF;rw [if_pos (by rw [← z.1,← z.2];exact List.mem_of_getElem? HY.out)])
        have HB:=hid hI.out.st.below.drew
        obtain ⟨z1,z2⟩:=z
        have r1:(y1 == x1) = true:=by simpa using z1
        have r2:(y2 == x2) = true:=by simpa using z2
        go_wp2_with fail
        go_region_o
        all_goals (go_wp2_with fail)
        all_goals (
          go_ret
          exact ⟨_,rfl,by rw [HM.out];exact HS.out.below HB.out,HB.out⟩)
      · have HNE:=hid z
        have hq:(¬ y1 = x1)∨(y1 = x1∧¬ y2 = x2):=by
          by_cases h1:y1 = x1
          · exact .inr ⟨h1,fun h2=>z ⟨h1,h2⟩⟩
          · exact .inl h1
        clear z
        have HQ:=hid hq
        clear hq
        cases pb with
        | true =>
          have HZ:Hid (AdSt w (x1,x2) wr.drew.drew v (insF (x1,x2) (l.take c))):=hid (by have:=hI.out.st;rw [if_pos rfl] at this;exact this.drew.drew)
          have hlen:(insF (x1,x2) (l.take c)).length≤1000000:=by rw [ins_len,List.length_take];omega
          rcases HQ.out with z | ⟨z,zz⟩
          · have r1:(y1 == x1) = false:=by simpa using z
            go_wp2_with fail
            go_region_o
            all_goals (
              go_wp2_with fail
              go_region_o
              all_goals (
                go_wp2_with (at_builtin;refine wpList_ad HZ y1 y2 (drew_alloc2 _ _) hlen rfl _ _ rfl rfl rfl ?_;intro v3 w3 h3;clear p1 p2 u0 u1)
                refine ⟨⟨c+1,true,v3,rfl,rfl,by go_num,by omega,hid (AdI.keep hI.out HY.out HNE.out h3.out)⟩,?_⟩
                simp [litLen]
                omega))
          · have r1:(y1 == x1) = true:=by simpa using z
            have r2:(y2 == x2) = false:=by simpa using zz
            clear z
            go_wp2_with fail
            go_region_o
            all_goals (
              go_wp2_with fail
              go_region_o
              all_goals (
                go_wp2_with (at_builtin;refine wpList_ad HZ y1 y2 (drew_alloc2 _ _) hlen rfl _ _ rfl rfl rfl ?_;intro v3 w3 h3;clear p1 p2 u0 u1)
                refine ⟨⟨c+1,true,v3,rfl,rfl,by go_num,by omega,hid (AdI.keep hI.out HY.out HNE.out h3.out)⟩,?_⟩
                simp [litLen]
                omega))
        | false =>
          have HZ:Hid (AdSt w (x1,x2) wr.drew.drew v (l.take c)):=hid (by have:=hI.out.st;rw [if_neg (by decide)] at this;exact this.drew.drew)
          have hlen:(l.take c).length≤1000000:=by rw [List.length_take];omega
          have hlen2:(l.take c ++ [(x1,x2)]).length≤1000000:=by rw [List.length_append,List.length_take];simp;omega
          by_cases g1:x2 < y2
          · have HLT:Hid (ltF (x1,x2) (y1,y2) = true):=hid (by rw [ltF_spec];exact .inl g1)
            have t1:decide (x2 < y2) = true:=decide_eq_true g1
            rcases HQ.out with z | ⟨z,zz⟩
            · have r1:(y1 == x1) = false:=by simpa using z
              go_wp2_with fail
              go_region_o
              all_goals (
                go_wp2_with fail
                go_region_o
                all_goals (
                  go_wp2_with (first | (at_builtin;refine wpList_ad HZ x1 x2 (drew_alloc2 _ _) hlen rfl _ _ rfl rfl rfl ?_;intro v2 w2 h2;have k1:w2.cell? ⟨b1,f1+c*2,none⟩ = some (.int .i64 y1):=cell_on h2.out.below HP.out.1;have k2:w2.cell? ⟨b1,f1+c*2+1,none⟩ = some (.int .i64 y2):=cell_on h2.out.below HP.out.2;clear p1 p2 u0 u1) | (at_builtin;refine wpList_ad h2 y1 y2 rfl hlen2 rfl _ _ rfl rfl rfl ?_;intro v3 w3 h3;clear k1 k2))
                  refine ⟨⟨c+1,true,v3,rfl,rfl,by go_num,by omega,hid (AdI.ins hI.out HY.out HNE.out HLT.out h3.out)⟩,?_⟩
                  simp [litLen]
                  omega))
            · have r1:(y1 == x1) = true:=by simpa using z
              have r2:(y2 == x2) = false:=by simpa using zz
              clear z
              go_wp2_with fail
              go_region_o
              all_goals (
                go_wp2_with fail
                go_region_o
                all_goals (
                  go_wp2_with (first | (at_builtin;refine wpList_ad HZ x1 x2 (drew_alloc2 _ _) hlen rfl _ _ rfl rfl rfl ?_;intro v2 w2 h2;have k1:w2.cell? ⟨b1,f1+c*2,none⟩ = some (.int .i64 y1):=cell_on h2.out.below HP.out.1;have k2:w2.cell? ⟨b1,f1+c*2+1,none⟩ = some (.int .i64 y2):=cell_on h2.out.below HP.out.2;clear p1 p2 u0 u1) | (at_builtin;refine wpList_ad h2 y1 y2 rfl hlen2 rfl _ _ rfl rfl rfl ?_;intro v3 w3 h3;clear k1 k2))
                  refine ⟨⟨c+1,true,v3,rfl,rfl,by go_num,by omega,hid (AdI.ins hI.out HY.out HNE.out HLT.out h3.out)⟩,?_⟩
                  simp [litLen]
                  omega))
          · have t1:decide (x2 < y2) = false:=decide_eq_false g1
            by_cases g2:y2 = x2
            · by_cases g3:x1 < y1
              · have HLT:Hid (ltF (x1,x2) (y1,y2) = true):=hid (by rw [ltF_spec];exact .inr ⟨g2.symm,g3⟩)
                have t2:(y2 == x2) = true:=by simpa using g2
                have t3:decide (x1 < y1) = true:=decide_eq_true g3
                rcases HQ.out with z | ⟨z,zz⟩
                · have r1:(y1 == x1) = false:=by simpa using z
                  clear g2
                  go_wp2_with fail
                  go_region_o
                  all_goals (
                    go_wp2_with fail
                    go_region_o
                    all_goals (
                      go_wp2_with (first | (at_builtin;refine wpList_ad HZ x1 x2 (drew_alloc2 _ _) hlen rfl _ _ rfl rfl rfl ?_;intro v2 w2 h2;have k1:w2.cell? ⟨b1,f1+c*2,none⟩ = some (.int .i64 y1):=cell_on h2.out.below HP.out.1;have k2:w2.cell? ⟨b1,f1+c*2+1,none⟩ = some (.int .i64 y2):=cell_on h2.out.below HP.out.2;clear p1 p2 u0 u1) | (at_builtin;refine wpList_ad h2 y1 y2 rfl hlen2 rfl _ _ rfl rfl rfl ?_;intro v3 w3 h3;clear k1 k2))
                      refine ⟨⟨c+1,true,v3,rfl,rfl,by go_num,by omega,hid (AdI.ins hI.out HY.out HNE.out HLT.out h3.out)⟩,?_⟩
                      simp [litLen]
                      omega))
                · exact absurd g2 zz
              · have HLT:Hid (ltF (x1,x2) (y1,y2) = false):=hid (by rw [← Bool.not_eq_true,ltF_spec];exact fun h=>h.elim g1 fun h=>g3 h.2)
                have t2:(y2 == x2) = true:=by simpa using g2
                have t3:decide (x1 < y1) = false:=decide_eq_false g3
                rcases HQ.out with z | ⟨z,zz⟩
                · have r1:(y1 == x1) = false:=by simpa using z
                  clear g2
                  go_wp2_with fail
                  go_region_o
                  all_goals (
                    go_wp2_with fail
                    go_region_o
                    all_goals (
                      go_wp2_with (at_builtin;refine wpList_ad HZ y1 y2 (drew_alloc2 _ _) hlen rfl _ _ rfl rfl rfl ?_;intro v3 w3 h3;clear p1 p2 u0 u1)
                      refine ⟨⟨c+1,false,v3,rfl,rfl,by go_num,by omega,hid (AdI.skip hI.out HY.out HNE.out HLT.out h3.out)⟩,?_⟩
                      simp [litLen]
                      omega))
                · exact absurd g2 zz
            · have HLT:Hid (ltF (x1,x2) (y1,y2) = false):=hid (by rw [← Bool.not_eq_true,ltF_spec];exact fun h=>h.elim g1 fun h=>g2 h.1.symm)
              have t2:(y2 == x2) = false:=by simpa using g2
              rcases HQ.out with z | ⟨z,zz⟩
              · have r1:(y1 == x1) = false:=by simpa using z
                go_wp2_with fail
                go_region_o
                all_goals (
                  go_wp2_with fail
                  go_region_o
                  all_goals (
                    go_wp2_with (at_builtin;refine wpList_ad HZ y1 y2 (drew_alloc2 _ _) hlen rfl _ _ rfl rfl rfl ?_;intro v3 w3 h3;clear p1 p2 u0 u1)
                    refine ⟨⟨c+1,false,v3,rfl,rfl,by go_num,by omega,hid (AdI.skip hI.out HY.out HNE.out HLT.out h3.out)⟩,?_⟩
                    simp [litLen]
                    omega))
              · have r1:(y1 == x1) = true:=by simpa using z
                have r2:(y2 == x2) = false:=by simpa using zz
                clear z
                go_wp2_with fail
                go_region_o
                all_goals (
                  go_wp2_with fail
                  go_region_o
                  all_goals (
                    go_wp2_with (at_builtin;refine wpList_ad HZ y1 y2 (drew_alloc2 _ _) hlen rfl _ _ rfl rfl rfl ?_;intro v3 w3 h3;clear p1 p2 u0 u1)
                    refine ⟨⟨c+1,false,v3,rfl,rfl,by go_num,by omega,hid (AdI.skip hI.out HY.out HNE.out HLT.out h3.out)⟩,?_⟩
                    simp [litLen]
                    omega))
    · obtain rfl:c = n:=by omega
      have hno:¬ (c:Int) < (c:Int):=by omega
      have htk:l.take c = l:=by rw [HN.out];exact List.take_length
      cases pb with
      | true =>
        have HF:=hid (flsAt_own hI.out.st.own)
        have HB:=hid hI.out.st.below
        have HA:Hid (addF l (x1,x2) = insF (x1,x2) (l.take c)):=hid (by rw [htk];unfold addF;rw [if_neg (by have:=hI.out.nin;rwa [htk] at this)])
        clear htk
        go_wp2_with fail
        go_ret
        exact ⟨_,rfl,by rw [HA.out];exact HF.out,HB.out⟩
      | false =>
        have HA:Hid (addF l (x1,x2) = l.take c ++ [(x1,x2)]):=hid (by
          unfold addF
          rw [if_neg (by have:=hI.out.nin;rwa [htk] at this),htk]
          have:=ins_none (x1,x2) l [] (by have:=hI.out.any;rwa [htk] at this)
          simpa [insF] using this)
        have HZ:Hid (AdSt w (x1,x2) wr v (l.take c)):=hid (by simpa using hI.out.st)
        have hlen:(l.take c).length≤1000000:=by rw [List.length_take];omega
        obtain ⟨u0,u1⟩:=cells_two hI.out.st.box
        dsimp only at u0 u1
        clear htk
        go_wp2_with (at_builtin;refine wpList_ad HZ x1 x2 rfl hlen rfl _ _ rfl rfl rfl ?_;intro v2 w2 h2)
        go_ret
        exact ⟨_,rfl,by rw [HA.out];exact flsAt_own h2.out.own,h2.out.below⟩
end
end Go.Proofs.YtdlmfeflinbbjaaGreat
