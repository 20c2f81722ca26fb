/- Whether an instruction is right: by the table's row, and by the document's words; how many registers are asked for. -/
import Derived.Test.YtceadfkjknjaoaaDoorCoOpen
namespace Go.Proofs.YtceadfkjknjaoaaDoor
open Co

/-- a row of the table -/
structure VRow where
  d : Int
  a : Int
  b : Int
  c : Int
  v : Bool
  m : Int
def tabR : List VRow := [⟨0, 0, 0, 0, false, 0⟩, ⟨1, 0, 0, 0, true, 15⟩, ⟨1, 2, 0, 0, false, 15⟩, ⟨1, 3, 0, 0, false, 15⟩, ⟨1, 4, 0, 0, false, 15⟩, ⟨1, 5, 0, 0, false, 4⟩,
  ⟨1, 1, 0, 0, false, 15⟩, ⟨1, 1, 0, 0, false, 15⟩, ⟨1, 1, 0, 0, false, 15⟩, ⟨1, 1, 1, 0, false, 15⟩, ⟨1, 1, 1, 0, false, 15⟩, ⟨1, 1, 1, 0, false, 15⟩, ⟨1, 1, 1, 0, false, 15⟩, ⟨1, 1, 1, 0, false, 15⟩, ⟨1, 1, 1, 0, false, 15⟩, ⟨1, 1, 1, 0, false, 15⟩, ⟨1, 1, 1, 0, false, 15⟩, ⟨1, 1, 1, 0, false, 15⟩,
  ⟨1, 1, 1, 1, false, 15⟩, ⟨0, 1, 7, 0, false, 4⟩, ⟨6, 1, 0, 0, false, 11⟩, ⟨4, 1, 0, 0, false, 4⟩, ⟨3, 1, 0, 0, false, 4⟩]
def noRow : VRow := ⟨0, 0, 0, 0, false, 0⟩
def rowR (op : Int) : VRow := if 0 ≤ op ∧ op < 23 then tabR.getD op.toNat noRow else noRow
def inB (n m : Int) : Bool := decide (0 ≤ n) && decide (n < m)
/-- how many there are of what a number is -/
def room (o : Ob) (is : Int) (p : Nat) (bh : Int) : Int :=
  if is = 1 then 4000 else if is = 2 then (o.inn.length : Int) else if is = 3 then (o.state.length : Int) else if is = 4 then (o.mem.length : Int) else if is = 5 then o.cross
  else if is = 6 then [(o.state.length : Int), o.cross, 0, (o.out.length : Int)].getD p 0 else if is = 7 then bh + 1 else 1
def stands (m : Int) (p : Nat) : Bool := m.toNat.testBit p
/-- by the table -/
def codeOk (o : Ob) (p : Nat) (x : Six) (bh : Int) : Bool :=
  stands (rowR x.op).m p && (decide (x.v = 0) || (rowR x.op).v) && (inB x.d (room o (rowR x.op).d p bh) && (inB x.a (room o (rowR x.op).a p bh) && (inB x.b (room o (rowR x.op).b p bh) && inB x.c (room o (rowR x.op).c p bh))))
/-- by the document -/
def oneD (o : Ob) (p : Nat) (x : Six) : Bool :=
  if x.op = 20 then (if p = 0 then inB x.d (o.state.length : Int) else if p = 1 then inB x.d o.cross else if p = 3 then inB x.d (o.out.length : Int) else decide (x.d = 0))
  else if x.op = 21 then inB x.d (o.mem.length : Int) else if x.op = 22 then inB x.d (o.state.length : Int) else if x.op ≤ 18 then inB x.d 4000 else decide (x.d = 0)
def oneA (o : Ob) (x : Six) : Bool :=
  if x.op = 2 then inB x.a (o.inn.length : Int) else if x.op = 3 then inB x.a (o.state.length : Int) else if x.op = 4 then inB x.a (o.mem.length : Int) else if x.op = 5 then inB x.a o.cross else if 6 ≤ x.op then inB x.a 4000 else decide (x.a = 0)
def oneB (x : Six) (bh : Int) : Bool := if x.op = 19 then inB x.b (bh + 1) else if 9 ≤ x.op ∧ x.op ≤ 18 then inB x.b 4000 else decide (x.b = 0)
def oneC (x : Six) : Bool := if x.op = 18 then inB x.c 4000 else decide (x.c = 0)
def onlyStep (op : Int) : Bool := decide (op = 5) || decide (op = 19) || decide (op = 21) || decide (op = 22)
def opOk (p : Nat) (x : Six) : Bool := decide (1 ≤ x.op) && decide (x.op ≤ 22) && (decide (x.op = 1) || decide (x.v = 0)) && (!(onlyStep x.op) || decide (p = 2)) && !(decide (x.op = 20) && decide (p = 2))
def oneOk (o : Ob) (p : Nat) (x : Six) (bh : Int) : Bool := opOk p x && (oneD o p x && (oneA o x && (oneB x bh && oneC x)))

theorem inB_one (n : Int) : inB n 1 = decide (n = 0) := by
  unfold inB
  by_cases h : n = 0
  · subst h; decide
  · by_cases h1 : 0 ≤ n
    · rw [decide_eq_false h, decide_eq_true h1, decide_eq_false (show ¬ n < 1 by omega)]; rfl
    · rw [decide_eq_false h, decide_eq_false h1]; rfl
theorem op_cases {op : Int} (h : 0 ≤ op ∧ op < 23) : op = 0 ∨ op = 1 ∨ op = 2 ∨ op = 3 ∨ op = 4 ∨ op = 5 ∨ op = 6 ∨ op = 7 ∨ op = 8 ∨ op = 9 ∨ op = 10 ∨ op = 11 ∨ op = 12 ∨ op = 13 ∨ op = 14 ∨ op = 15 ∨ op = 16 ∨ op = 17 ∨ op = 18 ∨ op = 19 ∨ op = 20 ∨ op = 21 ∨ op = 22 := by omega
theorem rows_same (o : Ob) (p : Nat) (x : Six) (bh : Int) (hp : p < 4) : codeOk o p x bh = oneOk o p x bh := by
  obtain ⟨op, d, a, b, c, v⟩ := x
  by_cases h : 0 ≤ op ∧ op < 23
  · have hp4 : p = 0 ∨ p = 1 ∨ p = 2 ∨ p = 3 := by omega
    rcases op_cases h with rfl | rfl | rfl | rfl | rfl | rfl | rfl | rfl | rfl | rfl | rfl | rfl | rfl | rfl | rfl | rfl | rfl | rfl | rfl | rfl | rfl | rfl | rfl <;> rcases hp4 with rfl | rfl | rfl | rfl <;>
      simp [codeOk, oneOk, opOk, onlyStep, oneD, oneA, oneB, oneC, rowR, tabR, room, stands, inB_one, Nat.testBit]
  · have e : rowR op = noRow := by unfold rowR; rw [if_neg h]
    have z : stands 0 p = false := by unfold stands; simp
    unfold codeOk oneOk opOk
    simp only [e, noRow, z, Bool.false_and]
    by_cases h1 : 1 ≤ op
    · rw [decide_eq_false (show ¬ op ≤ 22 by omega)]; simp
    · rw [decide_eq_false h1]; simp

/-! ### Registers -/
def om (n : Int) : Int := if n = 9223372036854775807 then n else n + 1
def reg1 (is v m : Int) : Int := if is = 1 then max m (om v) else m
def regs1 (r : VRow) (x : Six) (n : Int) : Int := reg1 r.c x.c (reg1 r.b x.b (reg1 r.a x.a (reg1 r.d x.d n)))
def asks (n v : Int) : Int := if n ≤ v then v + 1 else n
def regsR (x : Six) (n : Int) : Int :=
  if x.op < 1 ∨ 22 < x.op then n else
  let n1 := if x.op ≤ 18 then asks n x.d else n
  let n2 := if 6 ≤ x.op then asks n1 x.a else n1
  let n3 := if 9 ≤ x.op ∧ x.op ≤ 18 then asks n2 x.b else n2
  if x.op = 18 then asks n3 x.c else n3
theorem asks_max {n v : Int} : max n (v + 1) = asks n v := by unfold asks; split <;> omega
def NoTop (x : Six) : Prop := x.a ≠ 9223372036854775807 ∧ x.b ≠ 9223372036854775807 ∧ x.c ≠ 9223372036854775807 ∧ x.d ≠ 9223372036854775807
theorem regs_same (x : Six) (n : Int) (ht : NoTop x) : regs1 (rowR x.op) x n = regsR x n := by
  obtain ⟨op, d, a, b, c, v⟩ := x
  obtain ⟨h1, h2, h3, h4⟩ := ht
  simp only at h1 h2 h3 h4
  by_cases h : 0 ≤ op ∧ op < 23
  · rcases op_cases h with rfl | rfl | rfl | rfl | rfl | rfl | rfl | rfl | rfl | rfl | rfl | rfl | rfl | rfl | rfl | rfl | rfl | rfl | rfl | rfl | rfl | rfl | rfl <;> simp [regs1, reg1, om, h1, h2, h3, h4, regsR, rowR, tabR, asks_max]
  · have e : rowR op = noRow := by unfold rowR; rw [if_neg h]
    unfold regs1 regsR
    rw [if_pos (show op < 1 ∨ 22 < op by omega)]
    simp [e, noRow, reg1]
def regsL (l : List Six) (n : Int) : Int := l.foldl (fun m x => regs1 (rowR x.op) x m) n
theorem asks_ge (n v : Int) : n ≤ asks n v := by unfold asks; split <;> omega
theorem regs1_most {o : Ob} {p : Nat} {x : Six} {bh : Int} (h : codeOk o p x bh = true) {n : Int} (hn : n ≤ 4000) : regs1 (rowR x.op) x n ≤ 4000 := by
  unfold codeOk inB at h
  simp only [Bool.and_eq_true, decide_eq_true_eq] at h
  obtain ⟨_, ⟨_, h1⟩, ⟨_, h2⟩, ⟨_, h3⟩, _, h4⟩ := h
  unfold room at h1 h2 h3 h4
  unfold regs1
  have st : ∀ {is v m r : Int}, m ≤ 4000 → v < (if is = 1 then 4000 else r) → reg1 is v m ≤ 4000 := by
    intro is v m r hm hv
    unfold reg1 om
    split at hv <;> rename_i hi
    · rw [if_pos hi, if_neg (by omega)]; omega
    · rw [if_neg hi]; exact hm
  exact st (st (st (st hn h1) h2) h3) h4
/-! ### Pieces -/
def pieceL (o : Ob) (k : Nat) : List Six := [o.deriv, o.zero, o.step, o.at_].getD k []
def okAt (o : Ob) (k i : Nat) : Bool := match (pieceL o k)[i]? with
  | some x => codeOk o k x ((((pieceL o k).length - 1 - i : Nat)) : Int)
  | none => true
def AllOk (o : Ob) : Prop := ∀ k i, k < 4 → i < (pieceL o k).length → okAt o k i = true
def typedL (l : List Int) : Bool := l.all (fun t => decide (t = 1) || decide (t = 2)) && decide (l.length ≤ 200)
def Fits (o : Ob) : Prop := typedL o.inn = true ∧ typedL o.out = true ∧ o.state.length ≤ 200 ∧ o.mem.length ≤ 200 ∧ 0 ≤ o.cross ∧ o.cross ≤ 200 ∧ 0 ≤ o.flags ∧ o.flags ≤ 3 ∧ ∀ k, k < 4 → (pieceL o k).length ≤ 4000
def MayBe (o : Ob) : Prop := Fits o ∧ AllOk o
end Go.Proofs.YtceadfkjknjaoaaDoor
