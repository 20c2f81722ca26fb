/- The reference's reader: put. -/
import Derived.Test.YtnlbfdhhdnapnaaGreatRdSmall
import Derived.Deep.AppendLies
import Derived.Deep.RegionLaw
namespace Go.Proofs.YtnlbfdhhdnapnaaGreat
open Go.RowKit Lx

theorem ex_info : (Tryz.prog.info? 59).map (fun i => (i.zero, i.size, i.bytes)) = some (some (.agg #[.int .i64 0, .int .i64 0, .int .i64 0, .int .i64 0, .string ⟨#[]⟩, .string ⟨#[]⟩, .int .i64 0, .slice none 0 0, .int .i64 0]), 9, 104) := by kernel_rfl
theorem step_put {ops : Array Oper} {o : Oper} {a : Act} {K : Act → World → Prop} {Q : Exit → Act → World → Prop} {E : Prop} (w : World) (hgd : o.guard = none) (s x : Operand)
    (ho : o.op = .call { callee := .builtin .append, args := #[s, x], argTypes := #[23, 23] })
    (B : Nat) (v : Value) (n : Nat) (xs : List Value) (hs : a.eval s = v) (hown : w.ownsRow B 59 9 v n xs) (ad : Addr) (news : List Value) (hx : a.eval x = .slice (some ad) 1 1) (hn : news.length = 1 * 9)
    (hc : ∀ j u, news[j]? = some u → w.cell? (ad.add j) = some u) (h1c : ∀ u ∈ news, u.oneCell' = true) (hk : n ≤ 100000) (hB : B ≤ w.heap.size)
    (h : ∀ g cap w', w'.ownsRow B 59 9 (.slice (some ⟨g, 0, none⟩) (n + 1) cap) (n + 1) (xs ++ news) → w.grownBy w' v.ownBlock → K (a.put o.dst (.slice (some ⟨g, 0, none⟩) (n + 1) cap)) w') : if Region.wanted o (yielded ops a.tmps) = true then Oper.wp Tryz.prog o a w K Q else E := by
  rw [if_pos (by simp [Region.wanted, hgd])]
  obtain ⟨i, h2, h3, h4, h5⟩ := info_parts ex_info
  refine wp_append_own w s x 23 ho B 59 i _ 9 104 Tryz.underlying23 h2 h3 h4 h5 rfl (by decide) v n xs hs hown ad 1 1 news hx hn hc h1c (by unfold maxLen; omega) (by omega) hB fun v' w' r1 r2 _ => ?_
  obtain ⟨g, cap, rfl⟩ := ownsRow_succ r1
  exact h g cap w' r1 r2
/-- an expression, as a value -/
def rdV (x : Ex) (v : Value) : Value := .agg #[.int .i64 x.kind, .int .i64 x.a, .int .i64 x.b, .int .i64 x.c, .string x.name, .string x.state, .int .i64 x.v, v, .int .i64 x.pos]
theorem nine_cells (W : World) (x0 x1 x2 x3 x4 x5 x6 x7 x8 : Value) (T : TypeId) (j : Nat) (u : Value) (h : [x0, x1, x2, x3, x4, x5, x6, x7, x8][j]? = some u) : (W.alloc (.cells #[x0, x1, x2, x3, x4, x5, x6, x7, x8] T)).cell? ((⟨W.heap.size, 0, none⟩ : Addr).add j) = some u := by
  have e : (⟨W.heap.size, 0, none⟩ : Addr).add j = ⟨W.heap.size, j, none⟩ := by unfold Addr.add; split <;> simp_all
  rw [e, World.cell?_alloc_new, ← h, ← Array.getElem?_toList]
theorem RK.grown {b : Nat} {W Y : World} {v : Value} {n : Nat} {xs : List Value} (h : W.ownsRow (b + 1) 59 9 v n xs) (hg : W.grownBy Y v.ownBlock) (hb : b ≤ W.heap.size) : RK b W Y :=
  ⟨hg.os, hg.tape, hg.output, hg.size, fun k hk => hg.block k (by omega) (fun e => by have := (h.lt k e.symm).1; omega), fun k o hk hkb hno => (hg.block k (heap_lt hk) (fun e => by
    rcases h.2 with ⟨rfl, _⟩ | ⟨g, cap, cur, rfl, _, hgb, _⟩
    · simp [Value.ownBlock] at e
    · obtain rfl : k = g := by simpa [Value.ownBlock] using e
      rw [hk] at hgb
      injection hgb with hgb
      exact hno cur hgb)).trans hk⟩
theorem put_end {b g cap : Nat} {dv : Value} {ts : List Tok} {xb : Nat → Prop} {σ : RS} {x : Ex} {ov oe : Option Addr} {nv cv ce : Nat} {W w0 w1 : World} {q : List (Ex × Value)} (h : Rd W b g cap dv ts xb σ) (hv : W.ownsRow (b + 1) 3 1 (.slice ov nv cv) x.args.length (x.args.map intC)) (hvx : ∀ k, (Value.slice ov nv cv).ownBlock = some k → ¬ xb k)
    (hq : q.map Prod.fst = σ.exprs ∧ ∀ p ∈ q, W.ownsRow (b + 1) 3 1 p.2 p.1.args.length (p.1.args.map intC) ∧ ∀ k, p.2.ownBlock = some k → ¬ xb k) (hb : Below W.heap.size W w0) (ho : w0.ownsRow (b + 1) 59 9 (.slice oe σ.exprs.length ce) σ.exprs.length (rdCells q))
    (hg : w0.grownBy w1 (Value.slice oe σ.exprs.length ce).ownBlock) (gg cc : Nat) (ho1 : w1.ownsRow (b + 1) 59 9 (.slice (some ⟨gg, 0, none⟩) (σ.exprs.length + 1) cc) (σ.exprs.length + 1) (rdCells q ++ exC x (.slice ov nv cv))) :
    Rd (w1.setCell ⟨b, 3, none⟩ (.slice (some ⟨gg, 0, none⟩) (σ.exprs.length + 1) cc)) b g cap dv ts xb (putS x σ) ∧ RK b W (w1.setCell ⟨b, 3, none⟩ (.slice (some ⟨gg, 0, none⟩) (σ.exprs.length + 1) cc)) := by
  have hbs := h.size
  have hs0 := hb.size
  have k1 : RK b W w1 := (RK.of_below hb (Nat.le_of_lt hbs)).trans (.grown ho hg (by omega))
  have k2 : RK b W (w1.setCell ⟨b, 3, none⟩ (.slice (some ⟨gg, 0, none⟩) (σ.exprs.length + 1) cc)) := k1.trans (RK.set 3 _)
  refine ⟨?_, k2⟩
  obtain ⟨o, c, h1, h2⟩ := h.blk
  have fb : w1.heap[b]? = W.heap[b]? := (hg.block b (by omega) (fun e => by have := (ho.lt b e.symm).1; omega)).trans (hb.block b hbs)
  rw [← fb] at h1
  have hlen : (putS x σ).exprs.length = σ.exprs.length + 1 := by simp [putS]
  refine ⟨fun k hk => Nat.lt_of_lt_of_le (h.xlt k hk) k2.size, ⟨some ⟨gg, 0, none⟩, cc, ?_, q ++ [(x, .slice ov nv cv)], ?_, ?_, ?_⟩, row_low h.row (k2.low g h.lt), h.lt, h.at_, h.len, h.ends⟩
  · rw [set_blk h1, hlen]; simp [putS]
  · simp [putS, hq.1]
  · rw [hlen, rdCells_snoc]
    exact rd_own_same ho1 fun k e => Below.heap_setCell w1 ⟨b, 3, none⟩ _ k (by have := (ho1.lt k e).1; simp; omega)
  · intro p hp
    rcases List.mem_append.1 hp with hp | hp
    · exact ⟨own_keep (hq.2 p hp).1 (Nat.lt_succ_self _) k2, (hq.2 p hp).2⟩
    · obtain rfl := List.mem_singleton.1 hp
      exact ⟨own_keep hv (Nat.lt_succ_self _) k2, hvx⟩
set_option maxHeartbeats 8000000 in
set_option maxRecDepth 100000 in
theorem put_any (b g cap : Nat) (dv : Value) (ts : List Tok) (xb : Nat → Prop) (σ : RS) (x : Ex) (ov : Option Addr) (nv cv : Nat) (W : World) (h : Hid (Rd W b g cap dv ts xb σ)) (hl : σ.exprs.length ≤ 40000)
    (hv : Hid (W.ownsRow (b + 1) 3 1 (.slice ov nv cv) x.args.length (x.args.map intC))) (hvx : Hid (∀ k, (Value.slice ov nv cv).ownBlock = some k → ¬ xb k)) :
    Calls Tryz.prog 79 #[.pointer (some ⟨b, 0, none⟩), rdV x (.slice ov nv cv)] W fun r Y => RdRet b g cap dv ts xb W (.int .i64 (σ.exprs.length : Int)) (putS x σ) r Y := by
  obtain ⟨oe, ce, ⟨c0, c1, c3, c4, c5, c6, fr⟩, hx⟩ := h.out.cells
  obtain ⟨q, hq1, hq2, hq3⟩ := hx
  have hbs : b < W.heap.size := h.out.size
  obtain ⟨n, hn⟩ : ∃ n, n = σ.exprs.length := ⟨_, rfl⟩
  rw [← hn] at c3 hl hq2
  rw [← hn]
  have f3 := fr 3
  have HQ2 := Lib.hid hq2
  have HN := Lib.hid hn
  have HQ := Lib.hid (show q.map Prod.fst = σ.exprs ∧ ∀ p ∈ q, W.ownsRow (b + 1) 3 1 p.2 p.1.args.length (p.1.args.map intC) ∧ ∀ k, p.2.ownBlock = some k → ¬ xb k from ⟨hq1, hq3⟩)
  clear hq1 hq2 hq3 hn c0 c1 c4 c5 c6 fr
  obtain ⟨k, xa, xb, xc, nm, st, vv, ar, ps⟩ := x
  unfold rdV
  dsimp only
  obtain ⟨W2, hW2⟩ : ∃ W2, W2 = W.alloc (.cells #[.int .i64 k, .int .i64 xa, .int .i64 xb, .int .i64 xc, .string nm, .string st, .int .i64 vv, .slice ov nv cv, .int .i64 ps] 59) := ⟨_, rfl⟩
  have hb2 : Below W.heap.size W W2 := by rw [hW2]; exact (Below.refl _ _).alloc (Nat.le_refl _) _
  have s2 : W2.heap.size = W.heap.size + 1 := by rw [hW2]; simp
  have x9 : ∀ j u, [Value.int .i64 k, .int .i64 xa, .int .i64 xb, .int .i64 xc, .string nm, .string st, .int .i64 vv, .slice ov nv cv, .int .i64 ps][j]? = some u → W2.cell? ⟨W.heap.size, j, none⟩ = some u := fun j u hu => by
    rw [hW2, World.cell?_alloc_new]; simpa using hu
  have x0 := x9 0 _ rfl
  have x1 := x9 1 _ rfl
  have x2 := x9 2 _ rfl
  have x3 := x9 3 _ rfl
  have x4 := x9 4 _ rfl
  have x5 := x9 5 _ rfl
  have x6 := x9 6 _ rfl
  have x7 := x9 7 _ rfl
  have x8 := x9 8 _ rfl
  have e3 : W2.cell? ⟨b, 3, none⟩ = some (.slice oe n ce) := (hb2.cell (p := ⟨b, 3, none⟩) hbs).trans c3
  have g3 : W2.frozen? ⟨b, 3, none⟩ = false := (hb2.frozen (p := ⟨b, 3, none⟩) hbs).trans f3
  have bs2 : b < W2.heap.size := by omega
  have OW := Lib.hid (show W2.ownsRow (b + 1) 59 9 (.slice oe n ce) n (rdCells q) from rd_own_same HQ2.out fun k hk => hb2.block k (HQ2.out.lt k hk).2)
  have HB2 := Lib.hid hb2
  have S2 := Lib.hid s2
  have HBA := Lib.hid ((hb2.alloc hb2.size (.cells #[.int .i64 k, .int .i64 xa, .int .i64 xb, .int .i64 xc, .string nm, .string st, .int .i64 vv, .slice ov nv cv, .int .i64 ps] 59)).drew)
  go_enter Tryz.func79, Tryz.ntmps79
  go_wp2_with fail
  rw [← hW2]
  clear hW2 hb2 s2 x9 c3 f3
  go_region_law (refine step_put _ (by rfl) (.tmp 10) (.tmp 12) (by rfl) (b + 1) (.slice oe n ce) n (rdCells q) (by rfl) (by exact OW.out.alloc _) ⟨W2.heap.size, 0, none⟩ [.int .i64 k, .int .i64 xa, .int .i64 xb, .int .i64 xc, .string nm, .string st, .int .i64 vv, .slice ov nv cv, .int .i64 ps] (by rfl) (by rfl) (by exact nine_cells W2 _ _ _ _ _ _ _ _ _ _) (by simp [Value.oneCell']) (by omega) (by simp; omega) ?_; intro gg cc w1 ho1 hg1; have z3 : w1.cell? ⟨b, 3, none⟩ = some (.slice oe n ce) := hg1.cell (by exact (World.cell?_alloc_old _ _ _ (Nat.ne_of_lt bs2)).trans e3) (fun e => by have := (OW.out.lt b e.symm).1; omega); have fb := hg1.block b (by simp; omega) (fun e => by have := (OW.out.lt b e.symm).1; omega); have z4 : w1.frozen? ⟨b, 3, none⟩ = false := (World.frozen?_of_block (a := ⟨b, 3, none⟩) fb).trans (by exact (World.frozen?_alloc_old _ _ _ (Nat.ne_of_lt bs2)).trans g3))
  all_goals (
    go_wp2_with fail
    go_ret
    rw [HN.out] at ho1 hg1 OW
    obtain ⟨r1, r2⟩ := put_end (x := ⟨k, xa, xb, xc, nm, st, vv, ar, ps⟩) h.out hv.out hvx.out HQ.out (HBA.out) (OW.out.alloc _) hg1 gg cc ho1
    exact ⟨rfl, by rw [HN.out]; exact r1, by rw [HN.out]; exact r2⟩)
end Go.Proofs.YtnlbfdhhdnapnaaGreat
