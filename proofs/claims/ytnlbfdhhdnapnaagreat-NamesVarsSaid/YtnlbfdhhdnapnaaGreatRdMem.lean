/- The reference's reader in memory; what its methods keep. -/
import Derived.Test.YtnlbfdhhdnapnaaGreatRdMath
import Derived.Test.YtnlbfdhhdnapnaaGreatAstOpen
import Derived.RangeFuncBox
import Derived.Lib.QuietBelow
namespace Go.Proofs.YtnlbfdhhdnapnaaGreat
open Go.RowKit Lx

def intC (n : Int) : Value := .int .i64 n
/-- the cells of an expression whose arguments lie at v -/
def exC (x : Ex) (v : Value) : List Value := [.int .i64 x.kind, .int .i64 x.a, .int .i64 x.b, .int .i64 x.c, .string x.name, .string x.state, .int .i64 x.v, v, .int .i64 x.pos]
def rdCells (l : List (Ex × Value)) : List Value := l.flatMap fun p => exC p.1 p.2
theorem rdCells_snoc (l : List (Ex × Value)) (p : Ex × Value) : rdCells (l ++ [p]) = rdCells l ++ exC p.1 p.2 := by unfold rdCells; rw [List.flatMap_append]; simp
/-- expressions in a row of their own, behind block b; their arguments lie in no block of xb -/
def ExsOwn (W : World) (b : Nat) (xb : Nat → Prop) (v : Value) (l : List Ex) : Prop :=
  ∃ q : List (Ex × Value), q.map Prod.fst = l ∧ W.ownsRow (b + 1) 59 9 v l.length (rdCells q) ∧ ∀ p ∈ q, W.ownsRow (b + 1) 3 1 p.2 p.1.args.length (p.1.args.map intC) ∧ ∀ k, p.2.ownBlock = some k → ¬ xb k
/-- a block that is no row of expressions -/
def NoEx (o : Obj) : Prop := ∀ cs, o ≠ .cells cs 59 (0, 0)
/-- what the reader in block b keeps -/
structure RK (b : Nat) (W Y : World) : Prop where
  os : Y.os = W.os
  tape : Y.tape = W.tape
  output : Y.output = W.output
  size : W.heap.size ≤ Y.heap.size
  low : ∀ k, k < b → Y.heap[k]? = W.heap[k]?
  keep : ∀ (k : Nat) (o : Obj), W.heap[k]? = some o → k ≠ b → NoEx o → Y.heap[k]? = some o
theorem heap_lt {W : World} {k : Nat} {o : Obj} (h : W.heap[k]? = some o) : k < W.heap.size := (Array.getElem?_eq_some_iff.1 h).1
theorem RK.refl (b : Nat) (W : World) : RK b W W := ⟨rfl, rfl, rfl, Nat.le_refl _, fun _ _ => rfl, fun _ _ h _ _ => h⟩
theorem RK.trans {b : Nat} {X Y Z : World} (h : RK b X Y) (k : RK b Y Z) : RK b X Z :=
  ⟨k.os.trans h.os, k.tape.trans h.tape, k.output.trans h.output, Nat.le_trans h.size k.size, fun j hj => (k.low j hj).trans (h.low j hj), fun j o hj hb hn => k.keep j o (h.keep j o hj hb hn) hb hn⟩
theorem RK.of_below {b : Nat} {W Y : World} (h : Below W.heap.size W Y) (hb : b ≤ W.heap.size) : RK b W Y :=
  ⟨h.os, h.tape, h.output, h.size, fun k hk => h.block k (by omega), fun k o hk _ _ => (h.block k (heap_lt hk)).trans hk⟩
theorem RK.below {b B : Nat} {W Y : World} (h : RK b W Y) (hb : B ≤ b) : Below B W Y := ⟨h.os, h.tape, h.output, h.size, fun k hk => h.low k (by omega)⟩
theorem RK.alloc {b : Nat} {W Y : World} (h : RK b W Y) (hb : b ≤ W.heap.size) (o : Obj) : RK b W (Y.alloc o) := h.trans (.of_below ((Below.refl _ _).alloc (Nat.le_refl _) o) (Nat.le_trans hb h.size))
theorem RK.set {b : Nat} {W : World} (i : Nat) (v : Value) : RK b W (W.setCell ⟨b, i, none⟩ v) := by
  have hb := (Below.refl b W).setCell (p := ⟨b, i, none⟩) (Nat.le_refl _) v
  exact ⟨hb.os, hb.tape, hb.output, hb.size, fun k hk => hb.block k hk, fun k o hk hkb _ => (Below.heap_setCell W ⟨b, i, none⟩ v k hkb).trans hk⟩
/-- the reader in block b, its tokens in block g -/
structure Rd (W : World) (b g cap : Nat) (dv : Value) (ts : List Tok) (xb : Nat → Prop) (σ : RS) : Prop where
  xlt : ∀ k, xb k → k < W.heap.size
  blk : ∃ o c, W.heap[b]? = some (.cells #[.slice (some ⟨g, 0, none⟩) ts.length cap, .int .i64 (σ.at_ : Int), dv, .slice o σ.exprs.length c, .int .i64 σ.deep, .int .i64 σ.code, .int .i64 σ.pos] 92 (0, 0)) ∧ ExsOwn W b xb (.slice o σ.exprs.length c) σ.exprs
  row : RowAt W g ts
  lt : g < b
  at_ : σ.at_ < ts.length
  len : ts.length ≤ 40000
  ends : EndOk ts
theorem NoEx.int {cs : Array Value} : NoEx (.cells cs 3 (0, 0)) := fun cs' h => by cases h
theorem own_keep {W Y : World} {b : Nat} {v : Value} {n : Nat} {xs : List Value} {B : Nat} (h : W.ownsRow B 3 1 v n xs) (hB : b < B) (hk : RK b W Y) : Y.ownsRow B 3 1 v n xs := by
  refine ⟨h.1, ?_⟩
  rcases h.2 with hn | ⟨g, cap, cur, rfl, hb, hgg, rest⟩
  · exact .inl hn
  · exact .inr ⟨g, cap, cur, rfl, hb, hk.keep g _ hgg (by omega) .int, rest⟩
theorem rd_own_same {W Y : World} {e : TypeId} {s : Nat} {v : Value} {n : Nat} {xs : List Value} {B : Nat} (h : W.ownsRow B e s v n xs) (hk : ∀ k, v.ownBlock = some k → Y.heap[k]? = W.heap[k]?) : Y.ownsRow B e s v n xs := by
  refine ⟨h.1, ?_⟩
  rcases h.2 with hn | ⟨g, cap, cur, rfl, hb, hgg, rest⟩
  · exact .inl hn
  · exact .inr ⟨g, cap, cur, rfl, hb, (hk g rfl).trans hgg, rest⟩
theorem ExsOwn.same {W Y : World} {b : Nat} {xb : Nat → Prop} {v : Value} {l : List Ex} (h : ExsOwn W b xb v l) (hk : ∀ k, b < k → k < W.heap.size → Y.heap[k]? = W.heap[k]?) : ExsOwn Y b xb v l := by
  obtain ⟨q, h1, h2, h3⟩ := h
  exact ⟨q, h1, rd_own_same h2 fun k e => hk k (by have := (h2.lt k e).1; omega) (h2.lt k e).2, fun p hp => ⟨rd_own_same (h3 p hp).1 fun k e => hk k (by have := ((h3 p hp).1.lt k e).1; omega) ((h3 p hp).1.lt k e).2, (h3 p hp).2⟩⟩
theorem Rd.size {W : World} {b g cap : Nat} {dv : Value} {ts : List Tok} {xb : Nat → Prop} {σ : RS} (h : Rd W b g cap dv ts xb σ) : b < W.heap.size := by
  obtain ⟨o, c, h1, _⟩ := h.blk; exact heap_lt h1
theorem row_low {W Y : World} {g : Nat} {ts : List Tok} (h : RowAt W g ts) (hk : Y.heap[g]? = W.heap[g]?) : RowAt Y g ts := by
  have hlt : g < Y.heap.size := by
    have h1 := h.1
    rcases Nat.lt_or_ge g Y.heap.size with h2 | h2
    · exact h2
    · rw [Array.getElem?_eq_none h2, Array.getElem?_eq_getElem h1] at hk; cases hk
  refine ⟨hlt, fun i t hi => ?_⟩
  obtain ⟨h1, h2, h3, h4⟩ := h.2 i t hi
  have hc : ∀ (j : Nat), Y.cell? ⟨g, j, none⟩ = W.cell? ⟨g, j, none⟩ := fun j => World.cell?_of_block (a := ⟨g, j, none⟩) hk
  exact ⟨(hc _).trans h1, (hc _).trans h2, (hc _).trans h3, (hc _).trans h4⟩
theorem Rd.below {W Y : World} {b g cap : Nat} {dv : Value} {ts : List Tok} {xb : Nat → Prop} {σ : RS} (h : Rd W b g cap dv ts xb σ) (hb : Below W.heap.size W Y) : Rd Y b g cap dv ts xb σ := by
  have hs := h.size
  obtain ⟨o, c, h1, h2⟩ := h.blk
  exact ⟨fun k hk => Nat.lt_of_lt_of_le (h.xlt k hk) hb.size, ⟨o, c, (hb.block b hs).trans h1, h2.same fun k _ hk => hb.block k hk⟩, row_low h.row (hb.block g (by have := h.lt; omega)), h.lt, h.at_, h.len, h.ends⟩
theorem Rd.alloc {W : World} {b g cap : Nat} {dv : Value} {ts : List Tok} {xb : Nat → Prop} {σ : RS} (h : Rd W b g cap dv ts xb σ) (o : Obj) : Rd (W.alloc o) b g cap dv ts xb σ := h.below ((Below.refl _ _).alloc (Nat.le_refl _) o)
theorem set_blk {W : World} {g : Nat} {cs : Array Value} {T : TypeId} {fr : Nat × Nat} (h : W.heap[g]? = some (.cells cs T fr)) (i : Nat) (v : Value) : (W.setCell ⟨g, i, none⟩ v).heap[g]? = some (.cells (cs.setIfInBounds i v) T fr) := Lx.set_heap h i v
theorem Rd.setOne {W : World} {b g cap : Nat} {dv : Value} {ts : List Tok} {xb : Nat → Prop} {σ τ : RS} (h : Rd W b g cap dv ts xb σ) (i : Nat) (v : Value) (he : τ.exprs = σ.exprs) (ht : τ.at_ < ts.length)
    (hc : ∀ x, (#[.slice (some ⟨g, 0, none⟩) ts.length cap, .int .i64 (σ.at_ : Int), dv, x, .int .i64 σ.deep, .int .i64 σ.code, .int .i64 σ.pos] : Array Value).setIfInBounds i v = #[.slice (some ⟨g, 0, none⟩) ts.length cap, .int .i64 (τ.at_ : Int), dv, x, .int .i64 τ.deep, .int .i64 τ.code, .int .i64 τ.pos]) :
    Rd (W.setCell ⟨b, i, none⟩ v) b g cap dv ts xb τ := by
  obtain ⟨o, c, h1, h2⟩ := h.blk
  refine ⟨fun k hk => Nat.lt_of_lt_of_le (h.xlt k hk) ((Below.refl b W).setCell (p := ⟨b, i, none⟩) (Nat.le_refl _) v).size, ⟨o, c, ?_, ?_⟩, row_low h.row (Below.heap_setCell W ⟨b, i, none⟩ v g (by have := h.lt; simp; omega)), h.lt, ht, h.len, h.ends⟩
  · rw [he, set_blk h1, hc]
  · rw [he]; exact h2.same fun k hk _ => Below.heap_setCell W ⟨b, i, none⟩ v k (by simp; omega)
theorem Rd.setAt {W : World} {b g cap : Nat} {dv : Value} {ts : List Tok} {xb : Nat → Prop} {σ : RS} (h : Rd W b g cap dv ts xb σ) (hk : (tokL ts σ.at_).kind ≠ 5) : Rd (W.setCell ⟨b, 1, none⟩ (.int .i64 ((σ.at_ : Int) + 1))) b g cap dv ts xb (stepS σ) :=
  h.setOne 1 _ rfl (h.ends.next h.at_ hk) fun x => by simp [stepS]
theorem Rd.setDeep {W : World} {b g cap : Nat} {dv : Value} {ts : List Tok} {xb : Nat → Prop} {σ : RS} (h : Rd W b g cap dv ts xb σ) (d : Int) : Rd (W.setCell ⟨b, 4, none⟩ (.int .i64 d)) b g cap dv ts xb { σ with deep := d } :=
  h.setOne 4 _ rfl h.at_ fun x => by simp
theorem Rd.setBad {W : World} {b g cap : Nat} {dv : Value} {ts : List Tok} {xb : Nat → Prop} {σ : RS} (h : Rd W b g cap dv ts xb σ) (c p : Int) : Rd ((W.setCell ⟨b, 5, none⟩ (.int .i64 c)).setCell ⟨b, 6, none⟩ (.int .i64 p)) b g cap dv ts xb { σ with code := c, pos := p } := by
  have h1 : Rd (W.setCell ⟨b, 5, none⟩ (.int .i64 c)) b g cap dv ts xb { σ with code := c } := h.setOne 5 _ rfl h.at_ fun x => by simp
  exact h1.setOne 6 _ rfl h.at_ fun x => by simp
/-- the reader's cells -/
structure RdCells (W : World) (b g cap : Nat) (ts : List Tok) (at_ : Nat) (n : Nat) (o : Option Addr) (c : Nat) (deep code pos : Int) : Prop where
  c0 : W.cell? ⟨b, 0, none⟩ = some (.slice (some ⟨g, 0, none⟩) ts.length cap)
  c1 : W.cell? ⟨b, 1, none⟩ = some (.int .i64 (at_ : Int))
  c3 : W.cell? ⟨b, 3, none⟩ = some (.slice o n c)
  c4 : W.cell? ⟨b, 4, none⟩ = some (.int .i64 deep)
  c5 : W.cell? ⟨b, 5, none⟩ = some (.int .i64 code)
  c6 : W.cell? ⟨b, 6, none⟩ = some (.int .i64 pos)
  fr : ∀ i, W.frozen? ⟨b, i, none⟩ = false
theorem Rd.cells {W : World} {b g cap : Nat} {dv : Value} {ts : List Tok} {xb : Nat → Prop} {σ : RS} (h : Rd W b g cap dv ts xb σ) : ∃ o c, RdCells W b g cap ts σ.at_ σ.exprs.length o c σ.deep σ.code σ.pos ∧ ExsOwn W b xb (.slice o σ.exprs.length c) σ.exprs := by
  obtain ⟨o, c, h1, h2⟩ := h.blk
  exact ⟨o, c, ⟨by simp [World.cell?, h1], by simp [World.cell?, h1], by simp [World.cell?, h1], by simp [World.cell?, h1], by simp [World.cell?, h1], by simp [World.cell?, h1], fun i => by simp [World.frozen?, h1]⟩, h2⟩
theorem Rd.tok {W : World} {b g cap : Nat} {dv : Value} {ts : List Tok} {xb : Nat → Prop} {σ : RS} (h : Rd W b g cap dv ts xb σ) : CellsAt W g σ.at_ (tokL ts σ.at_) :=
  h.row.2 _ _ (by unfold tokL; rw [List.getD_eq_getElem?_getD, List.getElem?_eq_getElem h.at_]; rfl)
end Go.Proofs.YtnlbfdhhdnapnaaGreat
