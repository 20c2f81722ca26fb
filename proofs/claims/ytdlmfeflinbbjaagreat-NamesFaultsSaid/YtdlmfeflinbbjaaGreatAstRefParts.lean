import Derived.Test.YtdlmfeflinbbjaaGreatAstRow
import Derived.Laws.AppendOwnNone
namespace Go.Proofs.YtdlmfeflinbbjaaGreat
open Go.Lib (hid)
open Go.RowKit
theorem wpList_append_ints (w:World) {ops:Array Oper} {rest:List Oper} {o:Oper} {a:Act} {Q:Exit→Act→World→Prop}
    (hg:o.guard = none) (s x:Operand) (hop:o.op = Op.call { callee:=Callee.builtin Builtin.append,args:=#[s,x],argTypes:=#[33,33] })
    (base:Nat) (v:Value) (k:Nat) (xs:List Value) (hs:a.eval s = v) (hown:w.ownsRow base 3 1 v k xs) (oa:Option Addr) (m cap b off:Nat) (hx:a.eval x = .slice oa m cap) (hcap:CapOk oa cap) (ho:0 < m→oa = some ⟨b,off,none⟩)
    (l:List Int) (hl:l.length = m) (hc:∀ j,j < m→w.cell? ⟨b,off+j,none⟩ = some (.int .i64 (l.getD j 0))) (hk:k+m≤1000000000) (b3:base≤w.heap.size)
    (hK:∀ v' w',w'.ownsRow base 3 1 v' (k+m) (xs ++ l.map intV)→w.grownBy w' v.ownBlock→wpList Tryz.prog ops Q rest (a.put o.dst v') w') :
    wpList Tryz.prog ops Q (o :: rest) a w:=by
  obtain ⟨i,h2,h3,h4,h5⟩:=info_parts int_info
  cases oa with
  | none =>
    obtain rfl:m = 0:=by rcases Nat.eq_zero_or_pos m with h | h;exact h;exact absurd (ho h) (by simp)
    obtain rfl:cap = 0:=hcap.2 rfl
    refine wpList_append_own_none hg s x 33 hop base 3 i 1 Tryz.underlying33 h2 v k xs hs hown hx (hK _ _ ?_ ⟨rfl,rfl,rfl,Nat.le_refl _,fun _ _ _=>rfl⟩)
    obtain rfl:l = []:=List.eq_nil_of_length_eq_zero hl
    simpa using hown
  | some ad =>
    refine wpList_append_own _ hg s x 33 hop base 3 i _ 1 8 Tryz.underlying33 h2 h3 h4 h5 rfl (by decide) v k xs hs hown ad m cap (l.map intV) hx (by rw [List.length_map,hl,Nat.mul_one]) ?_ ?_ (by unfold maxLen;omega) (by omega) b3 (fun v' w' r1 r2 _=>hK v' w' r1 r2)
    · intro j u hj
      rw [List.getElem?_map,Option.map_eq_some_iff] at hj
      obtain ⟨z,hz,rfl⟩:=hj
      have hjl:=(List.getElem?_eq_some_iff.1 hz).1
      obtain rfl:ad = ⟨b,off,none⟩:=Option.some.inj (ho (by omega))
      have:=hc j (by omega)
      rw [List.getD_eq_getElem?_getD,hz] at this
      rw [show (⟨b,off,none⟩:Addr).add j = ⟨b,off+j,none⟩ by unfold Addr.add;split <;> simp_all,this]
      rfl
    · intro u hu
      obtain ⟨z,_,rfl⟩:=List.mem_map.1 hu
      rfl
theorem empty_row (W:World) (B base:Nat) (hB:W.heap[B]? = some (.cells #[] 3 (0,0))) (hb:base≤B):W.ownsRow base 3 1 (.slice (some ⟨B,0,none⟩) 0 0) 0 [] :=
  ⟨rfl,.inr ⟨B,0,#[],rfl,hb,hB,Nat.le_refl _,by unfold maxLen;omega,rfl,rfl⟩⟩
theorem heap_new2 (w:World) (o o' : Obj):((w.alloc o).alloc o').heap[w.heap.size+1]? = some o':=by have:=World.alloc_heap_new (w.alloc o) o';rwa [World.size_alloc] at this
theorem Below.alloc2 (w:World) (o o' : Obj):Below w.heap.size w ((w.alloc o).alloc o'):=((Below.refl _ _).alloc (Nat.le_refl _) _).alloc (by simp) _
set_option maxHeartbeats 4000000 in
theorem refParts_args (x:Ex) (hk:x.kind = 19) (o:Option Addr) (cap b off n:Nat) (hn:Hid (x.args.length = n)) (nl:n≤1000) (hcap:Hid (CapOk o cap)) (ho:Hid (0 < n→o = some ⟨b,off,none⟩)) (w:World) (hc:Hid (∀ j,j < n→w.cell? ⟨b,off+j,none⟩ = some (.int .i64 (x.args.getD j 0)))) :
    Calls Tryz.prog 62 #[.agg #[.int .i64 x.kind,.int .i64 x.a,.int .i64 x.b,.int .i64 x.c,.string x.name,.string x.state,.int .i64 x.v,.slice o n cap,.int .i64 x.pos]] w fun e w'=>NewInts (partsE x) w e w':=by
  have hpl:=hid (partsE_19 hk)
  have hm:manyR x.kind = -1:=by unfold manyR;rw [if_pos hk]
  rw [hk] at hm ⊢
  have HM:=hid hm
  clear hm hk
  go_enter Tryz.func62,Tryz.ntmps62
  go_wp2_with (first | (go_at_call 86;((with_reducible refine (many_any _ _).mono ?_);rintro e w1 ⟨rfl,rfl⟩;rw [HM.out])) | (at_builtin;refine wpList_append_ints _ rfl _ _ rfl w.heap.size (.slice (some ⟨w.heap.size+1,0,none⟩) 0 0) 0 [] rfl (empty_row _ _ _ (heap_new2 _ _ _) (by omega)) o n cap b off rfl hcap.out ho.out x.args hn.out (fun j hj=>cell_on (Below.alloc2 _ _ _) (hc.out j hj)) (by omega) (by simp;omega) ?_;intro v' w2 hown hg;have H1:=hid hown;have H2:=hid hg;clear hown hg))
  go_ret
  refine ⟨_,rfl,?_,?_⟩
  · rw [hpl.out,hn.out]
    have:=H1.out
    rwa [Nat.zero_add,List.nil_append] at this
  · refine ⟨H2.out.os,H2.out.tape,H2.out.output,Nat.le_trans (by simp;omega) H2.out.size,fun k hk=>(H2.out.block k (by simp;omega) (fun e=>by simp [Value.ownBlock] at e;omega)).trans ((Below.alloc2 w _ _).block k hk)⟩
set_option maxHeartbeats 4000000 in
theorem refParts_abc (x:Ex) (hk:¬ x.kind = 19) (s:Value) (w:World) :
    Calls Tryz.prog 62 #[.agg #[.int .i64 x.kind,.int .i64 x.a,.int .i64 x.b,.int .i64 x.c,.string x.name,.string x.state,.int .i64 x.v,s,.int .i64 x.pos]] w fun e w'=>NewInts (partsE x) w e w':=by
  have hpl:=hid (partsE_abc hk)
  have hln:=hid (partsE_len hk)
  have hmn:=manyOf_le x.kind
  obtain ⟨m,hm⟩:∃ m,m = manyOf x.kind:=⟨_,rfl⟩
  have hm2:manyR x.kind = (m:Int):=by unfold manyR;rw [if_neg hk,hm]
  have HM:=hid hm2
  rw [← hm] at hmn hpl hln
  clear hm2 hk hm
  have q0:(m:Int)≤3:=by omega
  go_enter Tryz.func62,Tryz.ntmps62
  go_wp2_with (first | (go_at_call 86;((with_reducible refine (many_any _ _).mono ?_);rintro e w1 ⟨rfl,rfl⟩;rw [HM.out])))
  go_ret
  refine ⟨_,rfl,?_,Below.alloc2 _ _ _⟩
  rw [hln.out]
  refine ⟨by rw [List.length_map,hln.out,Nat.mul_one],.inr ⟨w.heap.size+1,3,#[.int .i64 x.a,.int .i64 x.b,.int .i64 x.c],rfl,by omega,heap_new2 _ _ _,by omega,by unfold maxLen;omega,rfl,?_⟩⟩
  rw [hpl.out,Nat.mul_one,List.map_take]
  rfl
theorem refParts_any (x:Ex) (s:Value) (w:World) (ha:IntsAt w s x.args) (hp:(partsE x).length≤1000):Calls Tryz.prog 62 #[exV x s] w fun e w'=>NewInts (partsE x) w e w':=by
  by_cases h19:x.kind = 19
  · obtain ⟨o,cap,b,off,rfl,h1,h2,h3,h4⟩:=ha
    exact refParts_args x h19 o cap b off _ (hid rfl) (by rw [partsE_19 h19] at hp;exact hp) (hid h2) (hid h3) w (hid fun j hj=>by have:=h4 j hj;rwa [Nat.mul_one] at this)
  · exact refParts_abc x h19 s w
end Go.Proofs.YtdlmfeflinbbjaaGreat
