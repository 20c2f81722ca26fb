/- Joined: RgLast, AstGreat, AstKinds, AstParts, RgArgs. -/
import Derived.Test.YtlbhlncipajapaaGreatDoorPe17
import Derived.Test.YtlbhlncipajapaaGreatDoorPe15
import Derived.WalkKit
import Derived.Outline
import Derived.Lib.Hide
import Derived.Deep.QuietTactic
import Derived.BigQuiet
import Derived.Deep.Draws
import Derived.IntWalk
import Derived.RangeFuncNested
import Derived.RangeFuncBound
import Derived.RangeFuncCalls
import Derived.RangeFuncLeaves
import Derived.Shelf.Abstract
import Derived.Shelf.RegionOpen
import Derived.OwnWalkIn
import Derived.TacticsInMore
import Derived.LoopNIn
import Derived.LoopIn
namespace Go.Proofs.YtlbhlncipajapaaGreatDoor
open Go.RowKit Lx
set_option linter.unusedVariables false

def LastOf (v : Int) (τ : RS) : Prop := v = (τ.exprs.length : Int) - 1 ∧ 0 < τ.exprs.length
theorem last_put (x : Ex) (σ : RS) : LastOf (σ.exprs.length : Int) (putS x σ) := by
  unfold LastOf putS
  rw [List.length_append]
  simp only [List.length_cons, List.length_nil]
  omega
theorem last_leave {v : Int} {τ : RS} (h : LastOf v τ) : LastOf v (leaveS τ) := h
theorem cwant_exprs (ts : List Tok) (s : List UInt8) (σ : RS) : (wantS ts s σ).exprs = σ.exprs := by unfold wantS failS; split <;> (try split) <;> rfl
theorem last_want {ts : List Tok} {s : List UInt8} {v : Int} {τ : RS} (h : LastOf v τ) : LastOf v (wantS ts s τ) := by unfold LastOf; rw [cwant_exprs]; exact h
theorem Stays.back {σ τ : RS} (h : Stays σ τ) (h0 : τ.code = 0) : σ.code = 0 := by
  rcases Decidable.em (σ.code = 0) with h1 | h1
  · exact h1
  · exact absurd ((h h1).1.symm.trans h0) h1
def LastOk (j : Job) (σ : RS) (R : Int × List Int × RS) : Prop := match j with
  | .args _ => True
  | .loop _ a => LastOf a σ → R.2.2.code = 0 → LastOf R.1 R.2.2
  | _ => R.2.2.code = 0 → LastOf R.1 R.2.2
theorem last_all (ts : List Tok) : ∀ (f : Nat) (j : Job) (σ : RS) (R : Int × List Int × RS), runE ts f j σ = some R → LastOk j σ R := by
  intro f
  induction f with
  | zero => intro j σ R h; cases h
  | succ f ih =>
    intro j σ R h
    simp only [runE] at h
    split at h
    · cases j with
      | expr =>
        try dsimp only at h
        unfold exprG at h
        try dsimp only at h
        split at h
        · split at h
          · obtain ⟨a, h1, h⟩ := bind_some' h
            obtain ⟨b, h2, h⟩ := bind_some' h
            obtain ⟨c, h3, h⟩ := bind_some' h
            obtain ⟨_, h⟩ := sputA_some h
            obtain rfl := Option.some.inj h
            exact fun _ => last_put _ _
          · obtain ⟨a, h1, h⟩ := bind_some' h
            try dsimp only at h
            split at h
            · obtain ⟨b, h2, h⟩ := bind_some' h
              obtain ⟨_, h⟩ := sputA_some h
              obtain rfl := Option.some.inj h
              exact fun _ => last_put _ _
            · split at h
              · obtain ⟨b, h2, h⟩ := bind_some' h
                obtain ⟨_, h⟩ := sputA_some h
                obtain rfl := Option.some.inj h
                exact fun _ => last_put _ _
              · split at h
                · obtain rfl := Option.some.inj h
                  exact fun h0 => ih _ _ _ h1 h0
                · cases h
        · rename_i hx
          obtain rfl := Option.some.inj h
          exact fun h0 => absurd h0 hx
      | pre =>
        try dsimp only at h
        unfold preG at h
        try dsimp only at h
        split at h
        · split at h
          · obtain ⟨a, h1, h⟩ := bind_some' h
            split at h
            · obtain rfl := Option.some.inj h
              exact fun h0 => ih _ _ _ h1 h0
            · cases h
          · obtain ⟨a, h1, h⟩ := bind_some' h
            obtain ⟨_, h⟩ := sputA_some h
            obtain rfl := Option.some.inj h
            exact fun _ => last_put _ _
        · rename_i hx
          obtain rfl := Option.some.inj h
          exact fun h0 => absurd h0 hx
      | atom =>
        try dsimp only at h
        unfold atomG at h
        try dsimp only at h
        split at h
        · obtain ⟨_, h⟩ := sputA_some h
          obtain rfl := Option.some.inj h
          exact fun _ => last_put _ _
        · split at h
          · obtain ⟨_, h⟩ := sputA_some h
            obtain rfl := Option.some.inj h
            exact fun _ => last_put _ _
          · split at h
            · obtain ⟨_, h⟩ := sputA_some h
              obtain rfl := Option.some.inj h
              exact fun _ => last_put _ _
            · split at h
              · split at h
                · obtain ⟨_, h⟩ := sputA_some h
                  obtain rfl := Option.some.inj h
                  exact fun _ => last_put _ _
                · split at h
                  · split at h
                    · obtain ⟨_, h⟩ := sputA_some h
                      obtain rfl := Option.some.inj h
                      exact fun _ => last_put _ _
                    · obtain ⟨a, h1, h⟩ := bind_some' h
                      obtain ⟨b, h2, h⟩ := bind_some' h
                      obtain ⟨_, h⟩ := sputA_some h
                      obtain rfl := Option.some.inj h
                      exact fun _ => last_put _ _
                  · obtain ⟨_, h⟩ := sputA_some h
                    obtain rfl := Option.some.inj h
                    exact fun _ => last_put _ _
              · obtain ⟨a, h1, h⟩ := bind_some' h
                obtain rfl := Option.some.inj h
                exact fun h0 => last_want (ih _ _ _ h1 ((stays_want _ _ _).back h0))
      | bin least =>
        try dsimp only at h
        unfold binG at h
        split at h
        · exact fun h0 => ih _ _ _ h h0
        · obtain ⟨a, h1, h⟩ := bind_some' h
          exact fun h0 => ih _ _ _ h (ih _ _ _ h1 ((stuck ts f _ _ _ h).back h0)) h0
      | loop least a =>
        try dsimp only at h
        unfold loopG at h
        split at h
        · split at h
          · obtain ⟨b, h1, h⟩ := bind_some' h
            obtain ⟨_, h⟩ := sputA_some h
            split at h
            · obtain rfl := Option.some.inj h
              exact fun _ _ => last_put _ _
            · exact fun _ h0 => ih _ _ _ h (last_put _ _) h0
          · obtain rfl := Option.some.inj h
            exact fun hl _ => hl
        · obtain rfl := Option.some.inj h
          exact fun hl _ => hl
      | args acc => trivial
    · cases h
theorem last_expr {ts : List Tok} {f : Nat} {σ τ : RS} {v : Int} {l : List Int} (h : runE ts f .expr σ = some (v, l, τ)) (h0 : τ.code = 0) : v = ((τ.exprs.length - 1 : Nat) : Int) ∧ 0 < τ.exprs.length := by
  obtain ⟨h1, h2⟩ : v = (τ.exprs.length : Int) - 1 ∧ 0 < τ.exprs.length := last_all ts f .expr σ _ h h0
  exact ⟨by omega, h2⟩
end Go.Proofs.YtlbhlncipajapaaGreatDoor
namespace Go.Proofs.YtlbhlncipajapaaGreatDoor
open Go.RowKit
theorem below_al {a w : World} (h : Below a.heap.size a w) (o : Obj) : Below a.heap.size a (w.alloc o) := h.alloc h.size o
theorem below_dr {B : Nat} {a w : World} (h : Below B a w) (n : Nat) : Below B a (w.drewN n) := ⟨h.os, h.tape, h.output, h.size, h.block⟩
def litLen : Value → Nat | .int _ n => n.toNat | _ => 0
/-- what an expression weighs -/
def wEx (x : Ex) : Nat := x.args.length + x.name.size / 100 + x.state.size / 100
/-- what a declaration weighs, but for its items -/
def wDe (d : De) : Nat := d.params.length + d.name.size / 100
/-- slice s is read by index -/
def Ix (t sz : Nat) (s : Value) (b off : Nat) (j : Nat) : Prop := ∀ W, (Instr.indexAt t s (.int .i64 (j : Int))).run Tryz.prog W = .ok (.pointer (some ⟨b, off + j * sz, none⟩)) W
theorem ix_exs {o : Option Addr} {n cap b off : Nat} (h : 0 < n → o = some ⟨b, off, none⟩) {j : Nat} (hj : j < n) (hn : n ≤ 9223372036854775807) : Ix 24 9 (.slice o n cap) b off j := by
  intro W
  rw [h (by omega)]
  have h1 : (j : Int) < (n : Int) := by omega
  have h2 : (j : Int) ≤ 9223372036854775807 := by omega
  go_simp
theorem ix_des {o : Option Addr} {n cap b off : Nat} (h : 0 < n → o = some ⟨b, off, none⟩) {j : Nat} (hj : j < n) (hn : n ≤ 9223372036854775807) : Ix 23 7 (.slice o n cap) b off j := by
  intro W
  rw [h (by omega)]
  have h1 : (j : Int) < (n : Int) := by omega
  have h2 : (j : Int) ≤ 9223372036854775807 := by omega
  go_simp
theorem ix_its {o : Option Addr} {n cap b off : Nat} (h : 0 < n → o = some ⟨b, off, none⟩) {j : Nat} (hj : j < n) (hn : n ≤ 9223372036854775807) : Ix 55 9 (.slice o n cap) b off j := by
  intro W
  rw [h (by omega)]
  have h1 : (j : Int) < (n : Int) := by omega
  have h2 : (j : Int) ≤ 9223372036854775807 := by omega
  go_simp
theorem ix_ints {o : Option Addr} {n cap b off : Nat} (h : 0 < n → o = some ⟨b, off, none⟩) {j : Nat} (hj : j < n) (hn : n ≤ 9223372036854775807) : Ix 44 1 (.slice o n cap) b off j := by
  intro W
  rw [h (by omega)]
  have h1 : (j : Int) < (n : Int) := by omega
  have h2 : (j : Int) ≤ 9223372036854775807 := by omega
  go_simp
/-- a program that isn't great -/
structure Small (p : Pr) : Prop where
  exprs : p.exprs.length ≤ 300
  decls : p.decls.length ≤ 60
  ex : ∀ x ∈ p.exprs, wEx x ≤ 600
  de : ∀ d ∈ p.decls, wDe d ≤ 600 ∧ d.items.length ≤ 600 ∧ ∀ y ∈ d.items, y.states.length ≤ 600
def GreatPost (p : Pr) (w : World) (e : Ending) (w' : World) : Prop := ∃ g : Bool, e = .returned (.bool g) ∧ (g = false → Small p) ∧ Below w.heap.size w w'
def SumEx (p : Pr) (k q : Nat) : Prop := ∀ i, i < k → ∀ x, p.exprs[i]? = some x → wEx x ≤ q
def SumIt (d : De) (k q : Nat) : Prop := k ≤ q ∧ ∀ i, i < k → ∀ y, d.items[i]? = some y → y.states.length ≤ q
def SumDe (p : Pr) (k q : Nat) : Prop := ∀ i, i < k → ∀ d, p.decls[i]? = some d → wDe d ≤ q ∧ (600 < q ∨ SumIt d d.items.length q)
theorem sumEx_succ {p : Pr} {k q : Nat} {x : Ex} (h : SumEx p k q) (hx : p.exprs[k]? = some x) : SumEx p (k + 1) (q + x.args.length + x.name.size / 100 + x.state.size / 100) := by
  intro i hi y hy
  rcases Nat.lt_or_ge i k with h1 | h1
  · have := h i h1 y hy; omega
  · obtain rfl : i = k := by omega
    rw [hx] at hy
    obtain rfl := Option.some.inj hy
    unfold wEx; omega
theorem sumIt_succ {d : De} {l z : Nat} {y : It} (h : SumIt d l z) (hy : d.items[l]? = some y) : SumIt d (l + 1) (z + 1 + y.states.length) := by
  refine ⟨by have := h.1; omega, fun i hi x hx => ?_⟩
  rcases Nat.lt_or_ge i l with h1 | h1
  · have := h.2 i h1 x hx; omega
  · obtain rfl : i = l := by omega
    rw [hy] at hx
    obtain rfl := Option.some.inj hx
    omega
theorem sumDe_succ {p : Pr} {j r r1 l z : Nat} {d : De} (h : SumDe p j r) (hd : p.decls[j]? = some d) (hr : r1 = r + d.params.length + d.name.size / 100) (hI : SumIt d l z) (hz : r1 ≤ z) (hl : l = d.items.length ∨ l = 1000) : SumDe p (j + 1) z := by
  intro i hi x hx
  rcases Nat.lt_or_ge i j with h1 | h1
  · obtain ⟨h2, h3⟩ := h i h1 x hx
    refine ⟨by omega, ?_⟩
    rcases h3 with h3 | h3
    · exact .inl (by omega)
    · exact .inr ⟨by have := h3.1; omega, fun i hi y hy => by have := h3.2 i hi y hy; omega⟩
  · obtain rfl : i = j := by omega
    rw [hd] at hx
    obtain rfl := Option.some.inj hx
    refine ⟨by unfold wDe; omega, ?_⟩
    rcases hl with rfl | rfl
    · exact .inr hI
    · exact .inl (by have := hI.1; omega)
theorem small_of {p : Pr} {n m q r : Nat} (hn : p.exprs.length = n) (hm : p.decls.length = m) (nl : (n : Int) ≤ 300) (ml : (m : Int) ≤ 60) (h1 : SumEx p n q) (h2 : SumDe p m r) (hq : q ≤ r) (hr : (r : Int) ≤ 600) : Small p := by
  refine ⟨by omega, by omega, fun x hx => ?_, fun d hd => ?_⟩
  · obtain ⟨i, hi, rfl⟩ := List.mem_iff_getElem.1 hx
    have := h1 i (by omega) _ (List.getElem?_eq_getElem hi)
    omega
  · obtain ⟨i, hi, rfl⟩ := List.mem_iff_getElem.1 hd
    obtain ⟨h3, h4⟩ := h2 i (by omega) _ (List.getElem?_eq_getElem hi)
    have h5 : SumIt p.decls[i] p.decls[i].items.length r := by
      rcases h4 with h4 | h4
      · omega
      · exact h4
    refine ⟨by omega, by have := h5.1; omega, fun y hy => ?_⟩
    obtain ⟨k, hk, rfl⟩ := List.mem_iff_getElem.1 hy
    have := h5.2 k hk _ (List.getElem?_eq_getElem hk)
    omega
end Go.Proofs.YtlbhlncipajapaaGreatDoor
namespace Go.Proofs.YtlbhlncipajapaaGreatDoor
open Go.RowKit
theorem manyOf_out {k : Int} (h : ¬ (1 ≤ k ∧ k ≤ 21)) : manyOf k = 0 := by
  unfold manyOf; rw [if_neg (by omega), if_neg (by omega), if_neg (by omega)]
theorem manyOf_le (k : Int) : manyOf k ≤ 3 := by unfold manyOf; (repeat' split) <;> omega
/-- the reference's number of parts: -1, if they are Args -/
def manyR (k : Int) : Int := if k = 19 then -1 else (manyOf k : Int)
set_option maxHeartbeats 4000000 in
theorem many_any (k : Int) (w : World) : Calls Tryz.prog 45 #[.int .i64 k] w fun e w' => e = .returned (.int .i64 (manyR k)) ∧ w = w' := by
  by_cases h : 1 ≤ k ∧ k ≤ 21
  · have h2 : k = 1 ∨ k = 2 ∨ k = 3 ∨ k = 4 ∨ k = 5 ∨ k = 6 ∨ k = 7 ∨ k = 8 ∨ k = 9 ∨ k = 10 ∨ k = 11 ∨ k = 12 ∨ k = 13 ∨ k = 14 ∨ k = 15 ∨ k = 16 ∨ k = 17 ∨ k = 18 ∨ k = 19 ∨ k = 20 ∨ k = 21 := by omega
    clear h
    rcases h2 with rfl | rfl | rfl | rfl | rfl | rfl | rfl | rfl | rfl | rfl | rfl | rfl | rfl | rfl | rfl | rfl | rfl | rfl | rfl | rfl | rfl
    all_goals
      go_enter Tryz.func45, Tryz.ntmps45
      go_wp2_with fail
      go_ret
      exact ⟨rfl, rfl⟩
  · have hr : (manyR k) = 0 := by unfold manyR; rw [if_neg (by omega), manyOf_out h]; rfl
    have e4 : (k == 4) = false := beq_false_of_ne (by omega)
    have e5 : (k == 5) = false := beq_false_of_ne (by omega)
    have e16 : (k == 16) = false := beq_false_of_ne (by omega)
    have e21 : (k == 21) = false := beq_false_of_ne (by omega)
    have e6 : (k == 6) = false := beq_false_of_ne (by omega)
    have e7 : (k == 7) = false := beq_false_of_ne (by omega)
    have e8 : (k == 8) = false := beq_false_of_ne (by omega)
    have e9 : (k == 9) = false := beq_false_of_ne (by omega)
    have e10 : (k == 10) = false := beq_false_of_ne (by omega)
    have e11 : (k == 11) = false := beq_false_of_ne (by omega)
    have e12 : (k == 12) = false := beq_false_of_ne (by omega)
    have e13 : (k == 13) = false := beq_false_of_ne (by omega)
    have e14 : (k == 14) = false := beq_false_of_ne (by omega)
    have e17 : (k == 17) = false := beq_false_of_ne (by omega)
    have e18 : (k == 18) = false := beq_false_of_ne (by omega)
    have e15 : (k == 15) = false := beq_false_of_ne (by omega)
    have e19 : (k == 19) = false := beq_false_of_ne (by omega)
    rw [hr]
    clear h hr
    go_enter Tryz.func45, Tryz.ntmps45
    go_wp2_with fail
    go_ret
    exact ⟨rfl, rfl⟩
end Go.Proofs.YtlbhlncipajapaaGreatDoor
namespace Go.Proofs.YtlbhlncipajapaaGreatDoor
open Go.RowKit Go.Shelf

attribute [local go_sem] Oper.semAt_some

/-- an expression's cells; s: its Args -/
def exCells (x : Ex) (s : Value) : Array Value := #[.int .i64 x.kind, .int .i64 x.a, .int .i64 x.b, .int .i64 x.c, .string x.name, .string x.state, .int .i64 x.v, s, .int .i64 x.pos]
/-- what a round that goes on keeps: all that lay there but what may be written (M), and the row that grows (rw) -/
def KeepM (M : Nat → Prop) (rw : World → Option Nat) (n₁ : Nat) (X Y : World) : Prop := X.heap.size ≤ Y.heap.size ∧
  (∀ k, k < X.heap.size → ¬ M k → rw X ≠ some k → (k < n₁ ∨ ∃ o, X.heap[k]? = some o ∧ o.isCells = true) → Y.heap[k]? = X.heap[k]?) ∧
  (∀ k, rw Y = some k → rw X = some k ∨ (X.heap.size ≤ k ∧ k < Y.heap.size))
theorem KeepM.trans {M : Nat → Prop} {rw : World → Option Nat} {n₁ : Nat} {X Y Z : World} (h : KeepM M rw n₁ X Y) (k : KeepM M rw n₁ Y Z) : KeepM M rw n₁ X Z := by
  refine ⟨Nat.le_trans h.1 k.1, fun j hj hB hr hc => ?_, fun j hj => ?_⟩
  · have e := h.2.1 j hj hB hr hc
    refine (k.2.1 j (Nat.lt_of_lt_of_le hj h.1) hB (fun hh => ?_) ?_).trans e
    · rcases h.2.2 j hh with h1 | h1
      · exact hr h1
      · omega
    · rcases hc with h1 | ⟨o, h1, h2⟩
      · exact .inl h1
      · exact .inr ⟨o, e.trans h1, h2⟩
  · rcases k.2.2 j hj with h1 | h1
    · rcases h.2.2 j h1 with h2 | h2
      · exact .inl h2
      · exact .inr ⟨h2.1, Nat.lt_of_lt_of_le h2.2 k.1⟩
    · exact .inr ⟨Nat.le_trans h.1 h1.1, h1.2⟩
/-- since the loop began: the row is the one there was, or a new one -/
def RowNew (rw : World → Option Nat) (w : World) (n₂ : Nat) (W : World) : Prop := ∀ k, rw W = some k → rw w = some k ∨ n₂ ≤ k
theorem RowNew.keep {M : Nat → Prop} {rw : World → Option Nat} {n₁ n₂ : Nat} {w X Y : World} (h : RowNew rw w n₂ X) (hX : n₂ ≤ X.heap.size) (hk : KeepM M rw n₁ X Y) : RowNew rw w n₂ Y := by
  intro k hk1
  rcases hk.2.2 k hk1 with h1 | h1
  · exact h k h1
  · exact .inr (Nat.le_trans hX h1.1)
/-- the loop's surroundings: what may be written was there when it began; the row that grows too -/
structure Around (M : Nat → Prop) (rw : World → Option Nat) (w : World) : Prop where
  old : ∀ k, M k → k < w.heap.size
  row : ∀ k, rw w = some k → k < w.heap.size
  same : ∀ W, Below w.heap.size w W → rw W = rw w
/-- block k is read: it is none that is written -/
def Still (M : Nat → Prop) (rw : World → Option Nat) (w : World) (k : Nat) : Prop := k < w.heap.size ∧ ¬ M k ∧ rw w ≠ some k
/-- a part of x -/
abbrev PartOf (x : Ex) := { p : Int // p ∈ partsE x }
theorem partsE_19 {x : Ex} (h : x.kind = 19) : partsE x = x.args := by unfold partsE; rw [if_pos h]
theorem partsE_abc {x : Ex} (h : ¬ x.kind = 19) : partsE x = [x.a, x.b, x.c].take (manyOf x.kind) := by unfold partsE; rw [if_neg h]
theorem partsE_len {x : Ex} (h : ¬ x.kind = 19) : (partsE x).length = manyOf x.kind := by
  rw [partsE_abc h, List.length_take]; have := manyOf_le x.kind; simp; omega
theorem partsE_get {x : Ex} (h : ¬ x.kind = 19) {j : Nat} (hj : j < manyOf x.kind) : (partsE x).getD j 0 = [x.a, x.b, x.c].getD j 0 := by
  rw [partsE_abc h]; simp [List.getD, hj]
theorem ix_arr {b n cap : Nat} {j : Nat} (hj : j < n) (hn : n ≤ 9223372036854775807) : Ix 44 1 (.slice (some ⟨b, 0, none⟩) n cap) b 0 j := ix_ints (off := 0) (fun _ => rfl) hj hn
theorem cell_same' {w w' : World} {b : Nat} (h : w'.heap[b]? = w.heap[b]?) (o : Nat) : w'.cell? ⟨b, o, none⟩ = w.cell? ⟨b, o, none⟩ := by simp only [World.cell?, h]
/-- the elements' block, as it was when the loop began -/
def SrcAt (rw : World → Option Nat) (w W1 : World) (m S : Nat) (X : World) : Prop := W1.heap.size ≤ X.heap.size ∧ RowNew rw w W1.heap.size X ∧ (0 < m → X.heap[S]? = W1.heap[S]?)
/-- the elements' block isn't written -/
def SrcOk (M : Nat → Prop) (rw : World → Option Nat) (w W1 : World) (S : Nat) : Prop := ¬ M S ∧ S < W1.heap.size ∧ rw w ≠ some S ∧ ∃ o, W1.heap[S]? = some o ∧ o.isCells = true
theorem SrcAt.keep {M : Nat → Prop} {rw : World → Option Nat} {n₁ m S : Nat} {w W1 X Y : World} (h : SrcAt rw w W1 m S X) (hk : KeepM M rw n₁ X Y) (hs : 0 < m → SrcOk M rw w W1 S) : SrcAt rw w W1 m S Y := by
  refine ⟨Nat.le_trans h.1 hk.1, h.2.1.keep h.1 hk, fun hm => ?_⟩
  obtain ⟨h1, h2, h3, o, h4, h5⟩ := hs hm
  have e := h.2.2 hm
  refine (hk.2.1 S (Nat.lt_of_lt_of_le h2 h.1) h1 (fun hh => ?_) (.inr ⟨o, e.trans h4, h5⟩)).trans e
  rcases h.2.1 S hh with h6 | h6
  · exact h3 h6
  · omega
theorem take_pre {x : Ex} {pre : List (PartOf x)} {j : Nat} {p : PartOf x} (h : pre.map (·.1) = (partsE x).take j) (hj : j < (partsE x).length) (hp : p.1 = (partsE x).getD j 0) : (pre ++ [p]).map (·.1) = (partsE x).take (j + 1) := by
  rw [List.map_append, h, List.take_succ_eq_append_getElem hj, List.map_singleton, hp, List.getD_eq_getElem?_getD, List.getElem?_eq_getElem hj]
  rfl
/-- an expression, boxed, whose blocks aren't among those that are written -/
def Srcs (w : World) (x : Ex) (B : Nat) (no : Nat → Prop) : Prop := ∃ o cap ba offa, w.heap[B]? = some (.cells (exCells x (.slice o x.args.length cap)) 46 (0, 0)) ∧ x.args.length ≤ reachN ∧ (0 < x.args.length → o = some ⟨ba, offa, none⟩) ∧
  (∀ j, j < x.args.length → w.cell? ⟨ba, offa + j, none⟩ = some (.int .i64 (x.args.getD j 0))) ∧ ¬ no B ∧ (0 < x.args.length → ¬ no ba)
theorem block_of_cell {w : World} {b o : Nat} {v : Value} (h : w.cell? ⟨b, o, none⟩ = some v) : ∃ cs T fr, w.heap[b]? = some (.cells cs T fr) := by
  unfold World.cell? at h
  split at h
  · exact ⟨_, _, _, by assumption⟩
  · cases h
/-- an expression that was loaded out of a program's cells and boxed anew -/
theorem srcs_of {w W : World} {x : Ex} {s : Value} {B : Nat} {no : Nat → Prop} (ha : IntsAt w s x.args) (hk : ExOk x) (hb : Below w.heap.size w W) (hB : W.heap[B]? = some (.cells (exCells x s) 46 (0, 0))) (hn : ∀ k, no k → w.heap.size ≤ k) (hnB : ¬ no B) : Srcs W x B no := by
  obtain ⟨o, cap, ba, offa, rfl, h1, h2, h3, h4⟩ := ha
  have h5 : ∀ j, j < x.args.length → w.cell? ⟨ba, offa + j, none⟩ = some (.int .i64 (x.args.getD j 0)) := fun j hj => by have := h4 j hj; rwa [Nat.mul_one] at this
  refine ⟨o, cap, ba, offa, hB, hk.args, h3, fun j hj => cell_on hb (h5 j hj), hnB, fun hp hno => ?_⟩
  have := hn _ hno
  have : ba < w.heap.size := World.block_lt_of_cell? _ _ (h5 0 hp)
  omega
end Go.Proofs.YtlbhlncipajapaaGreatDoor
namespace Go.Proofs.YtlbhlncipajapaaGreatDoor
open Go.RowKit Lx
set_option linter.unusedVariables false

def AO (σ : RS) : Prop := ∀ x ∈ σ.exprs, x.args.length ≤ 40000
theorem AO.of {σ τ : RS} (h : AO σ) (e : τ.exprs = σ.exprs) : AO τ := by unfold AO; rw [e]; exact h
theorem ao_want {ts : List Tok} {s : List UInt8} {σ : RS} (h : AO σ) : AO (wantS ts s σ) := h.of (cwant_exprs ts s σ)
theorem ao_name {ts : List Tok} {σ : RS} (h : AO σ) : AO (nameS ts σ) := h.of (by unfold nameS failS; split <;> (try split) <;> rfl)
theorem ao_step {σ : RS} (h : AO σ) : AO (stepS σ) := h.of rfl
theorem ao_leave {σ : RS} (h : AO σ) : AO (leaveS σ) := h.of rfl
theorem ao_enter {ts : List Tok} {σ : RS} (h : AO σ) : AO (enterS ts σ) := h.of (by unfold enterS failS; dsimp only; split <;> (try split) <;> rfl)
theorem ao_put {x : Ex} {σ : RS} (h : AO σ) (hx : x.args.length ≤ 40000) : AO (putS x σ) := fun y hy => by
  rcases List.mem_append.1 hy with hy | hy
  · exact h y hy
  · rw [List.mem_singleton.1 hy]; exact hx
def ArgOk (j : Job) (R : Int × List Int × RS) : Prop := match j with
  | .args _ => R.2.1.length ≤ 40000
  | _ => True
theorem args_all (ts : List Tok) : ∀ (f : Nat) (j : Job) (σ : RS) (R : Int × List Int × RS), runE ts f j σ = some R → AO σ → AO R.2.2 ∧ ArgOk j R := by
  intro f
  induction f with
  | zero => intro j σ R h; cases h
  | succ f ih =>
    intro j σ R h hs
    simp only [runE] at h
    split at h
    · cases j with
      | expr =>
        refine ⟨?_, trivial⟩
        try dsimp only at h
        unfold exprG at h
        try dsimp only at h
        have e := ao_enter (ts := ts) hs
        split at h
        · split at h
          · obtain ⟨a, h1, h⟩ := bind_some' h
            obtain ⟨b, h2, h⟩ := bind_some' h
            obtain ⟨c, h3, h⟩ := bind_some' h
            obtain ⟨_, h⟩ := sputA_some h
            obtain rfl := Option.some.inj h
            exact ao_leave (ao_put (ih _ _ _ h3 (ao_want (ih _ _ _ h2 (ao_want (ih _ _ _ h1 (ao_step e)).1)).1)).1 (Nat.zero_le _))
          · obtain ⟨a, h1, h⟩ := bind_some' h
            try dsimp only at h
            split at h
            · obtain ⟨b, h2, h⟩ := bind_some' h
              obtain ⟨_, h⟩ := sputA_some h
              obtain rfl := Option.some.inj h
              exact ao_leave (ao_put (ih _ _ _ h2 (ao_step (ih _ _ _ h1 e).1)).1 (Nat.zero_le _))
            · split at h
              · obtain ⟨b, h2, h⟩ := bind_some' h
                obtain ⟨_, h⟩ := sputA_some h
                obtain rfl := Option.some.inj h
                exact ao_leave (ao_put (ih _ _ _ h2 (ao_step (ih _ _ _ h1 e).1)).1 (Nat.zero_le _))
              · split at h
                · obtain rfl := Option.some.inj h
                  exact ao_leave (ih _ _ _ h1 e).1
                · cases h
        · obtain rfl := Option.some.inj h
          exact ao_leave e
      | pre =>
        refine ⟨?_, trivial⟩
        try dsimp only at h
        unfold preG at h
        try dsimp only at h
        have e := ao_enter (ts := ts) hs
        split at h
        · split at h
          · obtain ⟨a, h1, h⟩ := bind_some' h
            split at h
            · obtain rfl := Option.some.inj h
              exact ao_leave (ih _ _ _ h1 e).1
            · cases h
          · obtain ⟨a, h1, h⟩ := bind_some' h
            obtain ⟨_, h⟩ := sputA_some h
            obtain rfl := Option.some.inj h
            exact ao_leave (ao_put (ih _ _ _ h1 (ao_step e)).1 (Nat.zero_le _))
        · obtain rfl := Option.some.inj h
          exact ao_leave e
      | atom =>
        refine ⟨?_, trivial⟩
        try dsimp only at h
        unfold atomG at h
        try dsimp only at h
        split at h
        · obtain ⟨_, h⟩ := sputA_some h
          obtain rfl := Option.some.inj h
          exact ao_put (ao_step hs) (Nat.zero_le _)
        · split at h
          · obtain ⟨_, h⟩ := sputA_some h
            obtain rfl := Option.some.inj h
            exact ao_put (ao_step hs) (Nat.zero_le _)
          · split at h
            · obtain ⟨_, h⟩ := sputA_some h
              obtain rfl := Option.some.inj h
              exact ao_put (ao_step hs) (Nat.zero_le _)
            · split at h
              · split at h
                · obtain ⟨_, h⟩ := sputA_some h
                  obtain rfl := Option.some.inj h
                  exact ao_put (ao_name (ao_step (ao_step hs))) (Nat.zero_le _)
                · split at h
                  · split at h
                    · obtain ⟨_, h⟩ := sputA_some h
                      obtain rfl := Option.some.inj h
                      exact ao_put (ao_step (ao_step (ao_step hs))) (Nat.zero_le _)
                    · obtain ⟨a, h1, h⟩ := bind_some' h
                      obtain ⟨b, h2, h⟩ := bind_some' h
                      obtain ⟨_, h⟩ := sputA_some h
                      obtain rfl := Option.some.inj h
                      have hb := ih _ _ _ h2 (ih _ _ _ h1 (ao_step (ao_step hs))).1
                      exact ao_put (ao_want hb.1) hb.2
                  · obtain ⟨_, h⟩ := sputA_some h
                    obtain rfl := Option.some.inj h
                    exact ao_put (ao_step hs) (Nat.zero_le _)
              · obtain ⟨a, h1, h⟩ := bind_some' h
                obtain rfl := Option.some.inj h
                exact ao_want (ih _ _ _ h1 (ao_want hs)).1
      | bin least =>
        refine ⟨?_, trivial⟩
        try dsimp only at h
        unfold binG at h
        split at h
        · exact (ih _ _ _ h hs).1
        · obtain ⟨a, h1, h⟩ := bind_some' h
          exact (ih _ _ _ h (ih _ _ _ h1 hs).1).1
      | loop least a =>
        refine ⟨?_, trivial⟩
        try dsimp only at h
        unfold loopG at h
        split at h
        · split at h
          · obtain ⟨b, h1, h⟩ := bind_some' h
            obtain ⟨_, h⟩ := sputA_some h
            have hp := ao_put (x := { ex0 with kind := (levelS ts σ).2, a := a, b := b.1, pos := ((tokL ts σ.at_).at_ : Int) }) (ih _ _ _ h1 (ao_step hs)).1 (Nat.zero_le _)
            split at h
            · obtain rfl := Option.some.inj h
              exact hp
            · exact (ih _ _ _ h hp).1
          · obtain rfl := Option.some.inj h
            exact hs
        · obtain rfl := Option.some.inj h
          exact hs
      | args acc =>
        try dsimp only at h
        unfold argsG at h
        split at h
        · rename_i hl
          split at h
          · obtain ⟨a, h1, h⟩ := bind_some' h
            have q := ih _ _ _ h (ih _ _ _ h1 (ao_step hs)).1
            exact ⟨q.1, q.2⟩
          · obtain rfl := Option.some.inj h
            exact ⟨hs, hl⟩
        · cases h
    · cases h
theorem parts_ao {σ : RS} (h : AO σ) : ∀ x ∈ σ.exprs, (partsE x).length ≤ 40000 := fun x hx => by
  by_cases h19 : x.kind = 19
  · rw [partsE_19 h19]; exact h x hx
  · rw [partsE_len h19]; have := manyOf_le x.kind; omega
end Go.Proofs.YtlbhlncipajapaaGreatDoor
