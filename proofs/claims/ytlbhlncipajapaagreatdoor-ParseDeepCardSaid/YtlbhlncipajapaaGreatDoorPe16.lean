/- Joined: RdMem, RdSmall, RdPut. -/
import Derived.Test.YtlbhlncipajapaaGreatDoorPe14
import Derived.Test.YtlbhlncipajapaaGreatDoorPe15
import Derived.RangeFuncBox
import Derived.Lib.QuietBelow
import Derived.WalkKit
import Derived.BigQuiet
import Derived.Deep.QuietTactic
import Derived.Deep.RegionHeld3
import Derived.WalkSpells
import Derived.Deep.AppendLies
import Derived.Deep.RegionLaw
namespace Go.Proofs.YtlbhlncipajapaaGreatDoor
open Go.RowKit Lx

def intC (n : Int) : Value := .int .i64 n
/-- the cells of an expression whose arguments lie at v -/
def exC (x : Ex) (v : Value) : List Value := [.int .i64 x.kind, .int .i64 x.a, .int .i64 x.b, .int .i64 x.c, .string x.name, .string x.state, .int .i64 x.v, v, .int .i64 x.pos]
def rdCells (l : List (Ex × Value)) : List Value := l.flatMap fun p => exC p.1 p.2
theorem rdCells_snoc (l : List (Ex × Value)) (p : Ex × Value) : rdCells (l ++ [p]) = rdCells l ++ exC p.1 p.2 := by unfold rdCells; rw [List.flatMap_append]; simp
/-- expressions in a row of their own, behind block b; their arguments lie in no block of xb -/
def ExsOwn (W : World) (b : Nat) (xb : Nat → Prop) (v : Value) (l : List Ex) : Prop :=
  ∃ q : List (Ex × Value), q.map Prod.fst = l ∧ W.ownsRow (b + 1) 46 9 v l.length (rdCells q) ∧ ∀ p ∈ q, W.ownsRow (b + 1) 3 1 p.2 p.1.args.length (p.1.args.map intC) ∧ ∀ k, p.2.ownBlock = some k → ¬ xb k
/-- a block that is no row of expressions -/
def NoEx (o : Obj) : Prop := ∀ cs, o ≠ .cells cs 46 (0, 0)
/-- what the reader in block b keeps -/
structure RK (b : Nat) (W Y : World) : Prop where
  os : Y.os = W.os
  tape : Y.tape = W.tape
  output : Y.output = W.output
  size : W.heap.size ≤ Y.heap.size
  low : ∀ k, k < b → Y.heap[k]? = W.heap[k]?
  keep : ∀ (k : Nat) (o : Obj), W.heap[k]? = some o → k ≠ b → NoEx o → Y.heap[k]? = some o
theorem heap_lt {W : World} {k : Nat} {o : Obj} (h : W.heap[k]? = some o) : k < W.heap.size := (Array.getElem?_eq_some_iff.1 h).1
theorem RK.refl (b : Nat) (W : World) : RK b W W := ⟨rfl, rfl, rfl, Nat.le_refl _, fun _ _ => rfl, fun _ _ h _ _ => h⟩
theorem RK.trans {b : Nat} {X Y Z : World} (h : RK b X Y) (k : RK b Y Z) : RK b X Z :=
  ⟨k.os.trans h.os, k.tape.trans h.tape, k.output.trans h.output, Nat.le_trans h.size k.size, fun j hj => (k.low j hj).trans (h.low j hj), fun j o hj hb hn => k.keep j o (h.keep j o hj hb hn) hb hn⟩
theorem RK.of_below {b : Nat} {W Y : World} (h : Below W.heap.size W Y) (hb : b ≤ W.heap.size) : RK b W Y :=
  ⟨h.os, h.tape, h.output, h.size, fun k hk => h.block k (by omega), fun k o hk _ _ => (h.block k (heap_lt hk)).trans hk⟩
theorem RK.below {b B : Nat} {W Y : World} (h : RK b W Y) (hb : B ≤ b) : Below B W Y := ⟨h.os, h.tape, h.output, h.size, fun k hk => h.low k (by omega)⟩
theorem RK.alloc {b : Nat} {W Y : World} (h : RK b W Y) (hb : b ≤ W.heap.size) (o : Obj) : RK b W (Y.alloc o) := h.trans (.of_below ((Below.refl _ _).alloc (Nat.le_refl _) o) (Nat.le_trans hb h.size))
theorem RK.set {b : Nat} {W : World} (i : Nat) (v : Value) : RK b W (W.setCell ⟨b, i, none⟩ v) := by
  have hb := (Below.refl b W).setCell (p := ⟨b, i, none⟩) (Nat.le_refl _) v
  exact ⟨hb.os, hb.tape, hb.output, hb.size, fun k hk => hb.block k hk, fun k o hk hkb _ => (Below.heap_setCell W ⟨b, i, none⟩ v k hkb).trans hk⟩
/-- the reader in block b, its tokens in block g -/
structure Rd (W : World) (b g cap : Nat) (dv : Value) (ts : List Tok) (xb : Nat → Prop) (σ : RS) : Prop where
  xlt : ∀ k, xb k → k < W.heap.size
  blk : ∃ o c, W.heap[b]? = some (.cells #[.slice (some ⟨g, 0, none⟩) ts.length cap, .int .i64 (σ.at_ : Int), dv, .slice o σ.exprs.length c, .int .i64 σ.deep, .int .i64 σ.code, .int .i64 σ.pos] 52 (0, 0)) ∧ ExsOwn W b xb (.slice o σ.exprs.length c) σ.exprs
  row : RowAt W g ts
  lt : g < b
  at_ : σ.at_ < ts.length
  len : ts.length ≤ 40000
  ends : EndOk ts
theorem NoEx.int {cs : Array Value} : NoEx (.cells cs 3 (0, 0)) := fun cs' h => by cases h
theorem own_keep {W Y : World} {b : Nat} {v : Value} {n : Nat} {xs : List Value} {B : Nat} (h : W.ownsRow B 3 1 v n xs) (hB : b < B) (hk : RK b W Y) : Y.ownsRow B 3 1 v n xs := by
  refine ⟨h.1, ?_⟩
  rcases h.2 with hn | ⟨g, cap, cur, rfl, hb, hgg, rest⟩
  · exact .inl hn
  · exact .inr ⟨g, cap, cur, rfl, hb, hk.keep g _ hgg (by omega) .int, rest⟩
theorem rd_own_same {W Y : World} {e : TypeId} {s : Nat} {v : Value} {n : Nat} {xs : List Value} {B : Nat} (h : W.ownsRow B e s v n xs) (hk : ∀ k, v.ownBlock = some k → Y.heap[k]? = W.heap[k]?) : Y.ownsRow B e s v n xs := by
  refine ⟨h.1, ?_⟩
  rcases h.2 with hn | ⟨g, cap, cur, rfl, hb, hgg, rest⟩
  · exact .inl hn
  · exact .inr ⟨g, cap, cur, rfl, hb, (hk g rfl).trans hgg, rest⟩
theorem ExsOwn.same {W Y : World} {b : Nat} {xb : Nat → Prop} {v : Value} {l : List Ex} (h : ExsOwn W b xb v l) (hk : ∀ k, b < k → k < W.heap.size → Y.heap[k]? = W.heap[k]?) : ExsOwn Y b xb v l := by
  obtain ⟨q, h1, h2, h3⟩ := h
  exact ⟨q, h1, rd_own_same h2 fun k e => hk k (by have := (h2.lt k e).1; omega) (h2.lt k e).2, fun p hp => ⟨rd_own_same (h3 p hp).1 fun k e => hk k (by have := ((h3 p hp).1.lt k e).1; omega) ((h3 p hp).1.lt k e).2, (h3 p hp).2⟩⟩
theorem Rd.size {W : World} {b g cap : Nat} {dv : Value} {ts : List Tok} {xb : Nat → Prop} {σ : RS} (h : Rd W b g cap dv ts xb σ) : b < W.heap.size := by
  obtain ⟨o, c, h1, _⟩ := h.blk; exact heap_lt h1
theorem row_low {W Y : World} {g : Nat} {ts : List Tok} (h : RowAt W g ts) (hk : Y.heap[g]? = W.heap[g]?) : RowAt Y g ts := by
  have hlt : g < Y.heap.size := by
    have h1 := h.1
    rcases Nat.lt_or_ge g Y.heap.size with h2 | h2
    · exact h2
    · rw [Array.getElem?_eq_none h2, Array.getElem?_eq_getElem h1] at hk; cases hk
  refine ⟨hlt, fun i t hi => ?_⟩
  obtain ⟨h1, h2, h3, h4⟩ := h.2 i t hi
  have hc : ∀ (j : Nat), Y.cell? ⟨g, j, none⟩ = W.cell? ⟨g, j, none⟩ := fun j => World.cell?_of_block (a := ⟨g, j, none⟩) hk
  exact ⟨(hc _).trans h1, (hc _).trans h2, (hc _).trans h3, (hc _).trans h4⟩
theorem Rd.below {W Y : World} {b g cap : Nat} {dv : Value} {ts : List Tok} {xb : Nat → Prop} {σ : RS} (h : Rd W b g cap dv ts xb σ) (hb : Below W.heap.size W Y) : Rd Y b g cap dv ts xb σ := by
  have hs := h.size
  obtain ⟨o, c, h1, h2⟩ := h.blk
  exact ⟨fun k hk => Nat.lt_of_lt_of_le (h.xlt k hk) hb.size, ⟨o, c, (hb.block b hs).trans h1, h2.same fun k _ hk => hb.block k hk⟩, row_low h.row (hb.block g (by have := h.lt; omega)), h.lt, h.at_, h.len, h.ends⟩
theorem Rd.alloc {W : World} {b g cap : Nat} {dv : Value} {ts : List Tok} {xb : Nat → Prop} {σ : RS} (h : Rd W b g cap dv ts xb σ) (o : Obj) : Rd (W.alloc o) b g cap dv ts xb σ := h.below ((Below.refl _ _).alloc (Nat.le_refl _) o)
theorem set_blk {W : World} {g : Nat} {cs : Array Value} {T : TypeId} {fr : Nat × Nat} (h : W.heap[g]? = some (.cells cs T fr)) (i : Nat) (v : Value) : (W.setCell ⟨g, i, none⟩ v).heap[g]? = some (.cells (cs.setIfInBounds i v) T fr) := Lx.set_heap h i v
theorem Rd.setOne {W : World} {b g cap : Nat} {dv : Value} {ts : List Tok} {xb : Nat → Prop} {σ τ : RS} (h : Rd W b g cap dv ts xb σ) (i : Nat) (v : Value) (he : τ.exprs = σ.exprs) (ht : τ.at_ < ts.length)
    (hc : ∀ x, (#[.slice (some ⟨g, 0, none⟩) ts.length cap, .int .i64 (σ.at_ : Int), dv, x, .int .i64 σ.deep, .int .i64 σ.code, .int .i64 σ.pos] : Array Value).setIfInBounds i v = #[.slice (some ⟨g, 0, none⟩) ts.length cap, .int .i64 (τ.at_ : Int), dv, x, .int .i64 τ.deep, .int .i64 τ.code, .int .i64 τ.pos]) :
    Rd (W.setCell ⟨b, i, none⟩ v) b g cap dv ts xb τ := by
  obtain ⟨o, c, h1, h2⟩ := h.blk
  refine ⟨fun k hk => Nat.lt_of_lt_of_le (h.xlt k hk) ((Below.refl b W).setCell (p := ⟨b, i, none⟩) (Nat.le_refl _) v).size, ⟨o, c, ?_, ?_⟩, row_low h.row (Below.heap_setCell W ⟨b, i, none⟩ v g (by have := h.lt; simp; omega)), h.lt, ht, h.len, h.ends⟩
  · rw [he, set_blk h1, hc]
  · rw [he]; exact h2.same fun k hk _ => Below.heap_setCell W ⟨b, i, none⟩ v k (by simp; omega)
theorem Rd.setAt {W : World} {b g cap : Nat} {dv : Value} {ts : List Tok} {xb : Nat → Prop} {σ : RS} (h : Rd W b g cap dv ts xb σ) (hk : (tokL ts σ.at_).kind ≠ 5) : Rd (W.setCell ⟨b, 1, none⟩ (.int .i64 ((σ.at_ : Int) + 1))) b g cap dv ts xb (stepS σ) :=
  h.setOne 1 _ rfl (h.ends.next h.at_ hk) fun x => by simp [stepS]
theorem Rd.setDeep {W : World} {b g cap : Nat} {dv : Value} {ts : List Tok} {xb : Nat → Prop} {σ : RS} (h : Rd W b g cap dv ts xb σ) (d : Int) : Rd (W.setCell ⟨b, 4, none⟩ (.int .i64 d)) b g cap dv ts xb { σ with deep := d } :=
  h.setOne 4 _ rfl h.at_ fun x => by simp
theorem Rd.setBad {W : World} {b g cap : Nat} {dv : Value} {ts : List Tok} {xb : Nat → Prop} {σ : RS} (h : Rd W b g cap dv ts xb σ) (c p : Int) : Rd ((W.setCell ⟨b, 5, none⟩ (.int .i64 c)).setCell ⟨b, 6, none⟩ (.int .i64 p)) b g cap dv ts xb { σ with code := c, pos := p } := by
  have h1 : Rd (W.setCell ⟨b, 5, none⟩ (.int .i64 c)) b g cap dv ts xb { σ with code := c } := h.setOne 5 _ rfl h.at_ fun x => by simp
  exact h1.setOne 6 _ rfl h.at_ fun x => by simp
/-- the reader's cells -/
structure RdCells (W : World) (b g cap : Nat) (ts : List Tok) (at_ : Nat) (n : Nat) (o : Option Addr) (c : Nat) (deep code pos : Int) : Prop where
  c0 : W.cell? ⟨b, 0, none⟩ = some (.slice (some ⟨g, 0, none⟩) ts.length cap)
  c1 : W.cell? ⟨b, 1, none⟩ = some (.int .i64 (at_ : Int))
  c3 : W.cell? ⟨b, 3, none⟩ = some (.slice o n c)
  c4 : W.cell? ⟨b, 4, none⟩ = some (.int .i64 deep)
  c5 : W.cell? ⟨b, 5, none⟩ = some (.int .i64 code)
  c6 : W.cell? ⟨b, 6, none⟩ = some (.int .i64 pos)
  fr : ∀ i, W.frozen? ⟨b, i, none⟩ = false
theorem Rd.cells {W : World} {b g cap : Nat} {dv : Value} {ts : List Tok} {xb : Nat → Prop} {σ : RS} (h : Rd W b g cap dv ts xb σ) : ∃ o c, RdCells W b g cap ts σ.at_ σ.exprs.length o c σ.deep σ.code σ.pos ∧ ExsOwn W b xb (.slice o σ.exprs.length c) σ.exprs := by
  obtain ⟨o, c, h1, h2⟩ := h.blk
  exact ⟨o, c, ⟨by simp [World.cell?, h1], by simp [World.cell?, h1], by simp [World.cell?, h1], by simp [World.cell?, h1], by simp [World.cell?, h1], by simp [World.cell?, h1], fun i => by simp [World.frozen?, h1]⟩, h2⟩
theorem Rd.tok {W : World} {b g cap : Nat} {dv : Value} {ts : List Tok} {xb : Nat → Prop} {σ : RS} (h : Rd W b g cap dv ts xb σ) : CellsAt W g σ.at_ (tokL ts σ.at_) :=
  h.row.2 _ _ (by unfold tokL; rw [List.getD_eq_getElem?_getD, List.getElem?_eq_getElem h.at_]; rfl)
end Go.Proofs.YtlbhlncipajapaaGreatDoor
namespace Go.Proofs.YtlbhlncipajapaaGreatDoor
open Go.RowKit Lx

/-- a method's answer -/
def RdRet (b g cap : Nat) (dv : Value) (ts : List Tok) (xb : Nat → Prop) (W : World) (v : Value) (σ : RS) (r : Ending) (Y : World) : Prop := r = .returned v ∧ Rd Y b g cap dv ts xb σ ∧ RK b W Y
theorem cell_set2 {W : World} {b i j c k : Nat} {x y v : Value} (h : W.cell? ⟨c, k, none⟩ = some v) (hn : c ≠ b ∨ (k ≠ i ∧ k ≠ j)) : ((W.setCell ⟨b, i, none⟩ x).setCell ⟨b, j, none⟩ y).drew.cell? ⟨c, k, none⟩ = some v := by
  show ((W.setCell ⟨b, i, none⟩ x).setCell ⟨b, j, none⟩ y).cell? ⟨c, k, none⟩ = some v
  rw [World.cell?_setCell_other _ _ _ _ (by intro e; injection e with e1 e2; omega), World.cell?_setCell_other _ _ _ _ (by intro e; injection e with e1 e2; omega)]
  exact h
set_option maxHeartbeats 4000000 in
theorem fail_any (b g cap : Nat) (dv : Value) (ts : List Tok) (xb : Nat → Prop) (σ : RS) (e : Int) (W : World) (h : Hid (Rd W b g cap dv ts xb σ)) :
    Calls Tryz.prog 20 #[.pointer (some ⟨b, 0, none⟩), .int .i64 e] W fun r Y => RdRet b g cap dv ts xb W (.tuple #[]) (failS ts e σ) r Y := by
  obtain ⟨o, c, ⟨c0, c1, c3, c4, c5, c6, fr⟩, hx⟩ := h.out.cells
  have ht := h.out.tok
  have hgb : g ≠ b := by have := h.out.lt; omega
  have hl := h.out.at_
  have hn := h.out.len
  obtain ⟨t0, t1, t2, t3⟩ := ht
  obtain ⟨n, hnn⟩ : ∃ n, n = ts.length := ⟨_, rfl⟩
  obtain ⟨a, haa⟩ : ∃ a, a = σ.at_ := ⟨_, rfl⟩
  obtain ⟨cd, hcd⟩ : ∃ cd, cd = σ.code := ⟨_, rfl⟩
  obtain ⟨ps, hps⟩ : ∃ ps, ps = σ.pos := ⟨_, rfl⟩
  obtain ⟨dp, hdp⟩ : ∃ dp, dp = σ.deep := ⟨_, rfl⟩
  obtain ⟨kd, hkd⟩ : ∃ kd, kd = (tokL ts σ.at_).kind := ⟨_, rfl⟩
  obtain ⟨tx, htx⟩ : ∃ tx, tx = (tokL ts σ.at_).text := ⟨_, rfl⟩
  obtain ⟨tv, htv⟩ : ∃ tv, tv = (tokL ts σ.at_).v := ⟨_, rfl⟩
  obtain ⟨p, hp⟩ : ∃ p, p = (tokL ts σ.at_).at_ := ⟨_, rfl⟩
  rw [← hnn] at c0 hl hn
  rw [← hkd] at t0
  rw [← htx] at t1
  rw [← htv] at t2
  rw [← hp] at t3
  rw [← haa] at c1 t0 t1 t2 t3 hl
  rw [← hcd] at c5
  rw [← hdp] at c4
  rw [← hps] at c6
  have k0 : ((a : Nat) : Int) < (n : Int) := by omega
  have f1 := fr 1
  have f4 := fr 4
  have f5 := fr 5
  have f6 := fr 6
  have HCD := Lib.hid hcd
  have HPS := Lib.hid hps
  have HDP := Lib.hid hdp
  have HKD := Lib.hid hkd
  have HTX := Lib.hid htx
  have HTV := Lib.hid htv
  have HP := Lib.hid hp
  have HAA := Lib.hid haa
  have HNN := Lib.hid hnn
  clear fr hx hnn haa hcd hps hdp hkd htx htv hp c3
  by_cases hz : cd = 0
  · subst hz
    have d5 : W.drew.cell? ⟨b, 5, none⟩ = some (.int .i64 0) := c5
    have d6 : W.drew.cell? ⟨b, 6, none⟩ = some (.int .i64 ps) := c6
    have e5 : W.drew.frozen? ⟨b, 5, none⟩ = false := f5
    have e6 : W.drew.frozen? ⟨b, 6, none⟩ = false := f6
    go_enter Tryz.func20, Tryz.ntmps20
    go_wp2_with fail
    go_region_held3 (fun w' => w'.cell? ⟨b, 0, none⟩ = some (.slice (some ⟨g, 0, none⟩) n cap) ∧ w'.cell? ⟨b, 1, none⟩ = some (.int .i64 (a : Int)) ∧ w'.cell? ⟨g, a * 4 + 3, none⟩ = some (.int .i64 (p : Int)))
      ((repeat' apply And.intro) <;> first | assumption | exact cell_set2 (by assumption) (by omega) | go_keep)
      (fail)
    go_wp2_with fail
    go_end0
    have hf : failS ts e σ = { σ with code := e, pos := (p : Int) } := by unfold failS; rw [if_pos HCD.out.symm, HP.out]
    rw [hf]
    have hb := below_dr (Below.refl W.heap.size W) 1
    exact ⟨rfl, (h.out.below hb).setBad e p, (RK.of_below hb (Nat.le_of_lt h.out.size)).trans ((RK.set 5 _).trans (RK.set 6 _))⟩
  · have k1 : (cd == 0) = false := beq_false_of_ne hz
    go_enter Tryz.func20, Tryz.ntmps20
    go_wp2_with fail
    go_end0
    have hf : failS ts e σ = σ := by unfold failS; rw [if_neg (by rw [← HCD.out]; exact hz)]
    rw [hf]
    exact ⟨rfl, h.out, RK.refl _ _⟩
/-- a token in a box of the call's own -/
def box4 (W : World) (k : Nat) (tx : List UInt8) (v : Int) (p : Nat) : World := (((((W.alloc (.cells #[.int .i64 0, .string ⟨#[]⟩, .int .i64 0, .int .i64 0] 43)).setCell ⟨W.heap.size, 0, none⟩ (.int .i64 (k : Int))).setCell ⟨W.heap.size, 1, none⟩ (.string (str tx))).setCell ⟨W.heap.size, 2, none⟩ (.int .i64 v)).setCell ⟨W.heap.size, 3, none⟩ (.int .i64 (p : Int)))
set_option maxHeartbeats 8000000 in
theorem is_any (b g cap : Nat) (dv : Value) (ts : List Tok) (xb : Nat → Prop) (σ : RS) (s : List UInt8) (W : World) (h : Hid (Rd W b g cap dv ts xb σ)) :
    Calls Tryz.prog 40 #[.pointer (some ⟨b, 0, none⟩), .string (str s)] W fun r Y => r = .returned (.bool (isS ts s σ)) ∧ Below W.heap.size W Y := by
  obtain ⟨o, c, ⟨c0, c1, c3, c4, c5, c6, fr⟩, hx⟩ := h.out.cells
  have ht := h.out.tok
  have hgb : g ≠ b := by have := h.out.lt; omega
  have hl := h.out.at_
  have hn := h.out.len
  obtain ⟨t0, t1, t2, t3⟩ := ht
  obtain ⟨n, hnn⟩ : ∃ n, n = ts.length := ⟨_, rfl⟩
  obtain ⟨a, haa⟩ : ∃ a, a = σ.at_ := ⟨_, rfl⟩
  obtain ⟨cd, hcd⟩ : ∃ cd, cd = σ.code := ⟨_, rfl⟩
  obtain ⟨ps, hps⟩ : ∃ ps, ps = σ.pos := ⟨_, rfl⟩
  obtain ⟨dp, hdp⟩ : ∃ dp, dp = σ.deep := ⟨_, rfl⟩
  obtain ⟨kd, hkd⟩ : ∃ kd, kd = (tokL ts σ.at_).kind := ⟨_, rfl⟩
  obtain ⟨tx, htx⟩ : ∃ tx, tx = (tokL ts σ.at_).text := ⟨_, rfl⟩
  obtain ⟨tv, htv⟩ : ∃ tv, tv = (tokL ts σ.at_).v := ⟨_, rfl⟩
  obtain ⟨p, hp⟩ : ∃ p, p = (tokL ts σ.at_).at_ := ⟨_, rfl⟩
  rw [← hnn] at c0 hl hn
  rw [← hkd] at t0
  rw [← htx] at t1
  rw [← htv] at t2
  rw [← hp] at t3
  rw [← haa] at c1 t0 t1 t2 t3 hl
  rw [← hcd] at c5
  rw [← hdp] at c4
  rw [← hps] at c6
  have k0 : ((a : Nat) : Int) < (n : Int) := by omega
  have f1 := fr 1
  have f4 := fr 4
  have f5 := fr 5
  have f6 := fr 6
  have HCD := Lib.hid hcd
  have HPS := Lib.hid hps
  have HDP := Lib.hid hdp
  have HKD := Lib.hid hkd
  have HTX := Lib.hid htx
  have HTV := Lib.hid htv
  have HP := Lib.hid hp
  have HAA := Lib.hid haa
  have HNN := Lib.hid hnn
  clear fr hx hnn haa hcd hps hdp hkd htx htv hp c3
  have hgs : g < W.heap.size := by have := h.out.lt; have := h.out.size; omega
  have hbs : b < W.heap.size := h.out.size
  obtain ⟨R, hR⟩ : ∃ R, R = isS ts s σ := ⟨_, rfl⟩
  rw [← hR]
  have HR : Hid (R = (decide (cd = 0) && ((decide (kd = 3) || decide (kd = 4)) && tx == s))) := Lib.hid (by rw [hR, HCD.out, HKD.out, HTX.out]; rfl)
  clear hR
  have HB := Lib.hid (((Below.refl W.heap.size W).alloc (Nat.le_refl _) (.cells #[.int .i64 (kd : Int), .string (str tx), .int .i64 tv, .int .i64 (p : Int)] 43)).drew)
  obtain ⟨b5, x0, x1⟩ : (W.alloc (.cells #[.int .i64 (kd : Int), .string (str tx), .int .i64 tv, .int .i64 (p : Int)] 43)).drew.cell? ⟨b, 5, none⟩ = some (.int .i64 cd) ∧
      (W.alloc (.cells #[.int .i64 (kd : Int), .string (str tx), .int .i64 tv, .int .i64 (p : Int)] 43)).drew.cell? ⟨W.heap.size, 0, none⟩ = some (.int .i64 (kd : Int)) ∧
      (W.alloc (.cells #[.int .i64 (kd : Int), .string (str tx), .int .i64 tv, .int .i64 (p : Int)] 43)).drew.cell? ⟨W.heap.size, 1, none⟩ = some (.string (str tx)) :=
    ⟨(HB.out.cell (p := ⟨b, 5, none⟩) hbs).trans c5, by show (W.alloc _).cell? _ = _; rw [World.cell?_alloc_new]; rfl, by show (W.alloc _).cell? _ = _; rw [World.cell?_alloc_new]; rfl⟩
  by_cases hz : cd = 0
  · subst hz
    by_cases h3 : kd = 3
    · subst h3
      by_cases he : tx = s
      · have hq : ((str tx).toList == (str s).toList) = true := by rw [he]; simp
        have HE := Lib.hid he
        clear he
        go_enter Tryz.func40, Tryz.ntmps40
        go_wp2_with fail
        go_region_held3 (fun w' => w'.cell? ⟨b, 0, none⟩ = some (.slice (some ⟨g, 0, none⟩) n cap) ∧ w'.cell? ⟨b, 1, none⟩ = some (.int .i64 (a : Int)) ∧ w'.cell? ⟨g, a * 4, none⟩ = some (.int .i64 (3 : Int)) ∧ w'.cell? ⟨g, a * 4 + 1, none⟩ = some (.string (str tx)) ∧ w'.cell? ⟨g, a * 4 + 2, none⟩ = some (.int .i64 tv) ∧ w'.cell? ⟨g, a * 4 + 3, none⟩ = some (.int .i64 (p : Int)))
          ((repeat' apply And.intro) <;> first | assumption | go_keep)
          (fail)
        go_wp2_with fail
        go_ret
        exact ⟨by rw [HR.out]; simp [HE.out], HB.out⟩
      · have hq : ((str tx).toList == (str s).toList) = false := by rw [bytes_eq]; exact beq_false_of_ne he
        have HE := Lib.hid he
        clear he
        go_enter Tryz.func40, Tryz.ntmps40
        go_wp2_with fail
        go_region_held3 (fun w' => w'.cell? ⟨b, 0, none⟩ = some (.slice (some ⟨g, 0, none⟩) n cap) ∧ w'.cell? ⟨b, 1, none⟩ = some (.int .i64 (a : Int)) ∧ w'.cell? ⟨g, a * 4, none⟩ = some (.int .i64 (3 : Int)) ∧ w'.cell? ⟨g, a * 4 + 1, none⟩ = some (.string (str tx)) ∧ w'.cell? ⟨g, a * 4 + 2, none⟩ = some (.int .i64 tv) ∧ w'.cell? ⟨g, a * 4 + 3, none⟩ = some (.int .i64 (p : Int)))
          ((repeat' apply And.intro) <;> first | assumption | go_keep)
          (fail)
        go_wp2_with fail
        go_ret
        exact ⟨by rw [HR.out]; simp [HE.out], HB.out⟩
    · have n3 : ((kd : Int) == 3) = false := beq_false_of_ne (by omega)
      by_cases h4 : kd = 4
      · subst h4
        by_cases he : tx = s
        · have hq : ((str tx).toList == (str s).toList) = true := by rw [he]; simp
          have HE := Lib.hid he
          clear he
          go_enter Tryz.func40, Tryz.ntmps40
          go_wp2_with fail
          go_region_held3 (fun w' => w'.cell? ⟨b, 0, none⟩ = some (.slice (some ⟨g, 0, none⟩) n cap) ∧ w'.cell? ⟨b, 1, none⟩ = some (.int .i64 (a : Int)) ∧ w'.cell? ⟨g, a * 4, none⟩ = some (.int .i64 (4 : Int)) ∧ w'.cell? ⟨g, a * 4 + 1, none⟩ = some (.string (str tx)) ∧ w'.cell? ⟨g, a * 4 + 2, none⟩ = some (.int .i64 tv) ∧ w'.cell? ⟨g, a * 4 + 3, none⟩ = some (.int .i64 (p : Int)))
            ((repeat' apply And.intro) <;> first | assumption | go_keep)
            (fail)
          go_wp2_with fail
          go_ret
          exact ⟨by rw [HR.out]; simp [HE.out], HB.out⟩
        · have hq : ((str tx).toList == (str s).toList) = false := by rw [bytes_eq]; exact beq_false_of_ne he
          have HE := Lib.hid he
          clear he
          go_enter Tryz.func40, Tryz.ntmps40
          go_wp2_with fail
          go_region_held3 (fun w' => w'.cell? ⟨b, 0, none⟩ = some (.slice (some ⟨g, 0, none⟩) n cap) ∧ w'.cell? ⟨b, 1, none⟩ = some (.int .i64 (a : Int)) ∧ w'.cell? ⟨g, a * 4, none⟩ = some (.int .i64 (4 : Int)) ∧ w'.cell? ⟨g, a * 4 + 1, none⟩ = some (.string (str tx)) ∧ w'.cell? ⟨g, a * 4 + 2, none⟩ = some (.int .i64 tv) ∧ w'.cell? ⟨g, a * 4 + 3, none⟩ = some (.int .i64 (p : Int)))
            ((repeat' apply And.intro) <;> first | assumption | go_keep)
            (fail)
          go_wp2_with fail
          go_ret
          exact ⟨by rw [HR.out]; simp [HE.out], HB.out⟩
      · have n4 : ((kd : Int) == 4) = false := beq_false_of_ne (by omega)
        go_enter Tryz.func40, Tryz.ntmps40
        go_wp2_with fail
        go_region_held3 (fun w' => w'.cell? ⟨b, 0, none⟩ = some (.slice (some ⟨g, 0, none⟩) n cap) ∧ w'.cell? ⟨b, 1, none⟩ = some (.int .i64 (a : Int)) ∧ w'.cell? ⟨g, a * 4, none⟩ = some (.int .i64 (kd : Int)) ∧ w'.cell? ⟨g, a * 4 + 1, none⟩ = some (.string (str tx)) ∧ w'.cell? ⟨g, a * 4 + 2, none⟩ = some (.int .i64 tv) ∧ w'.cell? ⟨g, a * 4 + 3, none⟩ = some (.int .i64 (p : Int)))
          ((repeat' apply And.intro) <;> first | assumption | go_keep)
          (fail)
        go_wp2_with fail
        go_ret
        exact ⟨by rw [HR.out]; simp [h3, h4], HB.out⟩
  · have n0 : (cd == 0) = false := beq_false_of_ne hz
    go_enter Tryz.func40, Tryz.ntmps40
    go_wp2_with fail
    go_region_held3 (fun w' => w'.cell? ⟨b, 0, none⟩ = some (.slice (some ⟨g, 0, none⟩) n cap) ∧ w'.cell? ⟨b, 1, none⟩ = some (.int .i64 (a : Int)) ∧ w'.cell? ⟨g, a * 4, none⟩ = some (.int .i64 (kd : Int)) ∧ w'.cell? ⟨g, a * 4 + 1, none⟩ = some (.string (str tx)) ∧ w'.cell? ⟨g, a * 4 + 2, none⟩ = some (.int .i64 tv) ∧ w'.cell? ⟨g, a * 4 + 3, none⟩ = some (.int .i64 (p : Int)))
      ((repeat' apply And.intro) <;> first | assumption | go_keep)
      (fail)
    go_wp2_with fail
    go_ret
    exact ⟨by rw [HR.out]; simp [hz], HB.out⟩
end Go.Proofs.YtlbhlncipajapaaGreatDoor
namespace Go.Proofs.YtlbhlncipajapaaGreatDoor
open Go.RowKit Lx

theorem ex_info : (Tryz.prog.info? 46).map (fun i => (i.zero, i.size, i.bytes)) = some (some (.agg #[.int .i64 0, .int .i64 0, .int .i64 0, .int .i64 0, .string ⟨#[]⟩, .string ⟨#[]⟩, .int .i64 0, .slice none 0 0, .int .i64 0]), 9, 104) := by kernel_rfl
theorem step_put {ops : Array Oper} {o : Oper} {a : Act} {K : Act → World → Prop} {Q : Exit → Act → World → Prop} {E : Prop} (w : World) (hgd : o.guard = none) (s x : Operand)
    (ho : o.op = .call { callee := .builtin .append, args := #[s, x], argTypes := #[24, 24] })
    (B : Nat) (v : Value) (n : Nat) (xs : List Value) (hs : a.eval s = v) (hown : w.ownsRow B 46 9 v n xs) (ad : Addr) (news : List Value) (hx : a.eval x = .slice (some ad) 1 1) (hn : news.length = 1 * 9)
    (hc : ∀ j u, news[j]? = some u → w.cell? (ad.add j) = some u) (h1c : ∀ u ∈ news, u.oneCell' = true) (hk : n ≤ 100000) (hB : B ≤ w.heap.size)
    (h : ∀ g cap w', w'.ownsRow B 46 9 (.slice (some ⟨g, 0, none⟩) (n + 1) cap) (n + 1) (xs ++ news) → w.grownBy w' v.ownBlock → K (a.put o.dst (.slice (some ⟨g, 0, none⟩) (n + 1) cap)) w') : if Region.wanted o (yielded ops a.tmps) = true then Oper.wp Tryz.prog o a w K Q else E := by
  rw [if_pos (by simp [Region.wanted, hgd])]
  obtain ⟨i, h2, h3, h4, h5⟩ := info_parts ex_info
  refine wp_append_own w s x 24 ho B 46 i _ 9 104 Tryz.underlying24 h2 h3 h4 h5 rfl (by decide) v n xs hs hown ad 1 1 news hx hn hc h1c (by unfold maxLen; omega) (by omega) hB fun v' w' r1 r2 _ => ?_
  obtain ⟨g, cap, rfl⟩ := ownsRow_succ r1
  exact h g cap w' r1 r2
/-- an expression, as a value -/
def rdV (x : Ex) (v : Value) : Value := .agg #[.int .i64 x.kind, .int .i64 x.a, .int .i64 x.b, .int .i64 x.c, .string x.name, .string x.state, .int .i64 x.v, v, .int .i64 x.pos]
theorem nine_cells (W : World) (x0 x1 x2 x3 x4 x5 x6 x7 x8 : Value) (T : TypeId) (j : Nat) (u : Value) (h : [x0, x1, x2, x3, x4, x5, x6, x7, x8][j]? = some u) : (W.alloc (.cells #[x0, x1, x2, x3, x4, x5, x6, x7, x8] T)).cell? ((⟨W.heap.size, 0, none⟩ : Addr).add j) = some u := by
  have e : (⟨W.heap.size, 0, none⟩ : Addr).add j = ⟨W.heap.size, j, none⟩ := by unfold Addr.add; split <;> simp_all
  rw [e, World.cell?_alloc_new, ← h, ← Array.getElem?_toList]
theorem RK.grown {b : Nat} {W Y : World} {v : Value} {n : Nat} {xs : List Value} (h : W.ownsRow (b + 1) 46 9 v n xs) (hg : W.grownBy Y v.ownBlock) (hb : b ≤ W.heap.size) : RK b W Y :=
  ⟨hg.os, hg.tape, hg.output, hg.size, fun k hk => hg.block k (by omega) (fun e => by have := (h.lt k e.symm).1; omega), fun k o hk hkb hno => (hg.block k (heap_lt hk) (fun e => by
    rcases h.2 with ⟨rfl, _⟩ | ⟨g, cap, cur, rfl, _, hgb, _⟩
    · simp [Value.ownBlock] at e
    · obtain rfl : k = g := by simpa [Value.ownBlock] using e
      rw [hk] at hgb
      injection hgb with hgb
      exact hno cur hgb)).trans hk⟩
theorem put_end {b g cap : Nat} {dv : Value} {ts : List Tok} {xb : Nat → Prop} {σ : RS} {x : Ex} {ov oe : Option Addr} {nv cv ce : Nat} {W w0 w1 : World} {q : List (Ex × Value)} (h : Rd W b g cap dv ts xb σ) (hv : W.ownsRow (b + 1) 3 1 (.slice ov nv cv) x.args.length (x.args.map intC)) (hvx : ∀ k, (Value.slice ov nv cv).ownBlock = some k → ¬ xb k)
    (hq : q.map Prod.fst = σ.exprs ∧ ∀ p ∈ q, W.ownsRow (b + 1) 3 1 p.2 p.1.args.length (p.1.args.map intC) ∧ ∀ k, p.2.ownBlock = some k → ¬ xb k) (hb : Below W.heap.size W w0) (ho : w0.ownsRow (b + 1) 46 9 (.slice oe σ.exprs.length ce) σ.exprs.length (rdCells q))
    (hg : w0.grownBy w1 (Value.slice oe σ.exprs.length ce).ownBlock) (gg cc : Nat) (ho1 : w1.ownsRow (b + 1) 46 9 (.slice (some ⟨gg, 0, none⟩) (σ.exprs.length + 1) cc) (σ.exprs.length + 1) (rdCells q ++ exC x (.slice ov nv cv))) :
    Rd (w1.setCell ⟨b, 3, none⟩ (.slice (some ⟨gg, 0, none⟩) (σ.exprs.length + 1) cc)) b g cap dv ts xb (putS x σ) ∧ RK b W (w1.setCell ⟨b, 3, none⟩ (.slice (some ⟨gg, 0, none⟩) (σ.exprs.length + 1) cc)) := by
  have hbs := h.size
  have hs0 := hb.size
  have k1 : RK b W w1 := (RK.of_below hb (Nat.le_of_lt hbs)).trans (.grown ho hg (by omega))
  have k2 : RK b W (w1.setCell ⟨b, 3, none⟩ (.slice (some ⟨gg, 0, none⟩) (σ.exprs.length + 1) cc)) := k1.trans (RK.set 3 _)
  refine ⟨?_, k2⟩
  obtain ⟨o, c, h1, h2⟩ := h.blk
  have fb : w1.heap[b]? = W.heap[b]? := (hg.block b (by omega) (fun e => by have := (ho.lt b e.symm).1; omega)).trans (hb.block b hbs)
  rw [← fb] at h1
  have hlen : (putS x σ).exprs.length = σ.exprs.length + 1 := by simp [putS]
  refine ⟨fun k hk => Nat.lt_of_lt_of_le (h.xlt k hk) k2.size, ⟨some ⟨gg, 0, none⟩, cc, ?_, q ++ [(x, .slice ov nv cv)], ?_, ?_, ?_⟩, row_low h.row (k2.low g h.lt), h.lt, h.at_, h.len, h.ends⟩
  · rw [set_blk h1, hlen]; simp [putS]
  · simp [putS, hq.1]
  · rw [hlen, rdCells_snoc]
    exact rd_own_same ho1 fun k e => Below.heap_setCell w1 ⟨b, 3, none⟩ _ k (by have := (ho1.lt k e).1; simp; omega)
  · intro p hp
    rcases List.mem_append.1 hp with hp | hp
    · exact ⟨own_keep (hq.2 p hp).1 (Nat.lt_succ_self _) k2, (hq.2 p hp).2⟩
    · obtain rfl := List.mem_singleton.1 hp
      exact ⟨own_keep hv (Nat.lt_succ_self _) k2, hvx⟩
set_option maxHeartbeats 8000000 in
set_option maxRecDepth 100000 in
theorem put_any (b g cap : Nat) (dv : Value) (ts : List Tok) (xb : Nat → Prop) (σ : RS) (x : Ex) (ov : Option Addr) (nv cv : Nat) (W : World) (h : Hid (Rd W b g cap dv ts xb σ)) (hl : σ.exprs.length ≤ 40000)
    (hv : Hid (W.ownsRow (b + 1) 3 1 (.slice ov nv cv) x.args.length (x.args.map intC))) (hvx : Hid (∀ k, (Value.slice ov nv cv).ownBlock = some k → ¬ xb k)) :
    Calls Tryz.prog 38 #[.pointer (some ⟨b, 0, none⟩), rdV x (.slice ov nv cv)] W fun r Y => RdRet b g cap dv ts xb W (.int .i64 (σ.exprs.length : Int)) (putS x σ) r Y := by
  obtain ⟨oe, ce, ⟨c0, c1, c3, c4, c5, c6, fr⟩, hx⟩ := h.out.cells
  obtain ⟨q, hq1, hq2, hq3⟩ := hx
  have hbs : b < W.heap.size := h.out.size
  obtain ⟨n, hn⟩ : ∃ n, n = σ.exprs.length := ⟨_, rfl⟩
  rw [← hn] at c3 hl hq2
  rw [← hn]
  have f3 := fr 3
  have HQ2 := Lib.hid hq2
  have HN := Lib.hid hn
  have HQ := Lib.hid (show q.map Prod.fst = σ.exprs ∧ ∀ p ∈ q, W.ownsRow (b + 1) 3 1 p.2 p.1.args.length (p.1.args.map intC) ∧ ∀ k, p.2.ownBlock = some k → ¬ xb k from ⟨hq1, hq3⟩)
  clear hq1 hq2 hq3 hn c0 c1 c4 c5 c6 fr
  obtain ⟨k, xa, xb, xc, nm, st, vv, ar, ps⟩ := x
  unfold rdV
  dsimp only
  obtain ⟨W2, hW2⟩ : ∃ W2, W2 = W.alloc (.cells #[.int .i64 k, .int .i64 xa, .int .i64 xb, .int .i64 xc, .string nm, .string st, .int .i64 vv, .slice ov nv cv, .int .i64 ps] 46) := ⟨_, rfl⟩
  have hb2 : Below W.heap.size W W2 := by rw [hW2]; exact (Below.refl _ _).alloc (Nat.le_refl _) _
  have s2 : W2.heap.size = W.heap.size + 1 := by rw [hW2]; simp
  have x9 : ∀ j u, [Value.int .i64 k, .int .i64 xa, .int .i64 xb, .int .i64 xc, .string nm, .string st, .int .i64 vv, .slice ov nv cv, .int .i64 ps][j]? = some u → W2.cell? ⟨W.heap.size, j, none⟩ = some u := fun j u hu => by
    rw [hW2, World.cell?_alloc_new]; simpa using hu
  have x0 := x9 0 _ rfl
  have x1 := x9 1 _ rfl
  have x2 := x9 2 _ rfl
  have x3 := x9 3 _ rfl
  have x4 := x9 4 _ rfl
  have x5 := x9 5 _ rfl
  have x6 := x9 6 _ rfl
  have x7 := x9 7 _ rfl
  have x8 := x9 8 _ rfl
  have e3 : W2.cell? ⟨b, 3, none⟩ = some (.slice oe n ce) := (hb2.cell (p := ⟨b, 3, none⟩) hbs).trans c3
  have g3 : W2.frozen? ⟨b, 3, none⟩ = false := (hb2.frozen (p := ⟨b, 3, none⟩) hbs).trans f3
  have bs2 : b < W2.heap.size := by omega
  have OW := Lib.hid (show W2.ownsRow (b + 1) 46 9 (.slice oe n ce) n (rdCells q) from rd_own_same HQ2.out fun k hk => hb2.block k (HQ2.out.lt k hk).2)
  have HB2 := Lib.hid hb2
  have S2 := Lib.hid s2
  have HBA := Lib.hid ((hb2.alloc hb2.size (.cells #[.int .i64 k, .int .i64 xa, .int .i64 xb, .int .i64 xc, .string nm, .string st, .int .i64 vv, .slice ov nv cv, .int .i64 ps] 46)).drew)
  go_enter Tryz.func38, Tryz.ntmps38
  go_wp2_with fail
  rw [← hW2]
  clear hW2 hb2 s2 x9 c3 f3
  go_region_law (refine step_put _ (by rfl) (.tmp 10) (.tmp 12) (by rfl) (b + 1) (.slice oe n ce) n (rdCells q) (by rfl) (by exact OW.out.alloc _) ⟨W2.heap.size, 0, none⟩ [.int .i64 k, .int .i64 xa, .int .i64 xb, .int .i64 xc, .string nm, .string st, .int .i64 vv, .slice ov nv cv, .int .i64 ps] (by rfl) (by rfl) (by exact nine_cells W2 _ _ _ _ _ _ _ _ _ _) (by simp [Value.oneCell']) (by omega) (by simp; omega) ?_; intro gg cc w1 ho1 hg1; have z3 : w1.cell? ⟨b, 3, none⟩ = some (.slice oe n ce) := hg1.cell (by exact (World.cell?_alloc_old _ _ _ (Nat.ne_of_lt bs2)).trans e3) (fun e => by have := (OW.out.lt b e.symm).1; omega); have fb := hg1.block b (by simp; omega) (fun e => by have := (OW.out.lt b e.symm).1; omega); have z4 : w1.frozen? ⟨b, 3, none⟩ = false := (World.frozen?_of_block (a := ⟨b, 3, none⟩) fb).trans (by exact (World.frozen?_alloc_old _ _ _ (Nat.ne_of_lt bs2)).trans g3))
  all_goals (
    go_wp2_with fail
    go_ret
    rw [HN.out] at ho1 hg1 OW
    obtain ⟨r1, r2⟩ := put_end (x := ⟨k, xa, xb, xc, nm, st, vv, ar, ps⟩) h.out hv.out hvx.out HQ.out (HBA.out) (OW.out.alloc _) hg1 gg cc ho1
    exact ⟨rfl, by rw [HN.out]; exact r1, by rw [HN.out]; exact r2⟩)
end Go.Proofs.YtlbhlncipajapaaGreatDoor
