/- Joined: RdMath. -/
import Derived.Test.YtlbhlncipajapaaGreatDoorPe13
namespace Go.Proofs.YtlbhlncipajapaaGreatDoor
open Lx

/-- a reader: which token is next, what was put, how deep, the first fault -/
structure RS where
  at_ : Nat
  exprs : List Ex
  deep : Int
  code : Int
  pos : Int
def tokL (ts : List Tok) (i : Nat) : Tok := ts.getD i ⟨0, [], 0, 0⟩
def isS (ts : List Tok) (s : List UInt8) (σ : RS) : Bool :=
  decide (σ.code = 0) && ((decide ((tokL ts σ.at_).kind = 3) || decide ((tokL ts σ.at_).kind = 4)) && (tokL ts σ.at_).text == s)
def failS (ts : List Tok) (e : Int) (σ : RS) : RS := if σ.code = 0 then { σ with code := e, pos := ((tokL ts σ.at_).at_ : Int) } else σ
def stepS (σ : RS) : RS := { σ with at_ := σ.at_ + 1 }
def tookS (ts : List Tok) (s : List UInt8) (σ : RS) : RS := if isS ts s σ = true then stepS σ else σ
def wantS (ts : List Tok) (s : List UInt8) (σ : RS) : RS := if isS ts s σ = true then stepS σ else failS ts 2 σ
def nameB (ts : List Tok) (σ : RS) : Bool := decide (σ.code = 0) && decide ((tokL ts σ.at_).kind = 1)
def nameS (ts : List Tok) (σ : RS) : RS := if nameB ts σ = true then stepS σ else failS ts 2 σ
def nameV (ts : List Tok) (σ : RS) : List UInt8 := if nameB ts σ = true then (tokL ts σ.at_).text else []
def putS (x : Ex) (σ : RS) : RS := { σ with exprs := σ.exprs ++ [x] }
def levelsL : List (List UInt8 × Int × Int) := [([111, 114], 1, 14), ([97, 110, 100], 2, 13), ([60], 3, 10), ([60, 61], 3, 11), ([61, 61], 3, 12), ([43], 4, 6), ([45], 4, 7), ([42], 5, 8), ([47], 5, 9)]
def levelIn (ts : List Tok) (σ : RS) (l : List (List UInt8 × Int × Int)) : Int × Int := match l.find? fun p => isS ts p.1 σ with | some p => p.2 | none => (0, 0)
def levelS (ts : List Tok) (σ : RS) : Int × Int := levelIn ts σ levelsL
def tooDeep (σ : RS) : Bool := decide (σ.code = 0) && decide (σ.deep = 30)
def enterS (ts : List Tok) (σ : RS) : RS := let x := if tooDeep σ = true then failS ts 3 σ else σ; { x with deep := x.deep + 1 }
def leaveS (σ : RS) : RS := { σ with deep := σ.deep - 1 }
/-- .. and whether there is room for what is put -/
def okS (σ : RS) : Bool := decide (σ.exprs.length ≤ 40000) && (decide (0 ≤ σ.deep) && decide (σ.deep ≤ 30))
def prefixL : List (List UInt8 × Int) := [([45], 4), ([110, 111, 116], 5), ([112, 114, 101], 16), ([115, 113, 114, 116], 21)]
def prefixK (ts : List Tok) (σ : RS) (l : List (List UInt8 × Int)) : Int := match l.find? fun p => isS ts p.1 σ with | some p => p.2 | none => 0
def ex0 : Ex := ⟨0, 0, 0, 0, ⟨#[]⟩, ⟨#[]⟩, 0, [], 0⟩
/-- what is asked of a reader -/
inductive Job where
  | expr
  | pre
  | atom
  | bin (least : Nat)
  | loop (least : Nat) (a : Int)
  | args (acc : List Int)
abbrev Ans := Option (Int × List Int × RS)
/-- an expression is put: its number -/
def putA (x : Ex) (σ : RS) (K : Int → RS → Ans) : Ans := if okS σ = true then K (σ.exprs.length : Int) (putS x σ) else none
def atomG (ts : List Tok) (F : Job → RS → Ans) (σ : RS) : Ans :=
  let t := tokL ts σ.at_
  let p : Int := (t.at_ : Int)
  if t.kind = 2 then putA { ex0 with kind := 1, v := t.v, pos := p } (stepS σ) fun n y => some (n, [], y) else
  if isS ts [116, 114, 117, 101] σ = true then putA { ex0 with kind := 2, v := 1, pos := p } (stepS σ) fun n y => some (n, [], y) else
  if isS ts [102, 97, 108, 115, 101] σ = true then putA { ex0 with kind := 2, pos := p } (stepS σ) fun n y => some (n, [], y) else
  if t.kind = 1 then
    let x := stepS σ
    if isS ts [105, 115] x = true then putA { ex0 with kind := 20, name := str t.text, state := str (nameV ts (stepS x)), pos := p } (nameS ts (stepS x)) fun n y => some (n, [], y) else
    if isS ts [40] x = true then
      let y := stepS x
      if isS ts [41] y = true then putA { ex0 with kind := 19, name := str t.text, pos := p } (stepS y) fun n z => some (n, [], z) else
      (F .expr y).bind fun r => (F (.args [r.1]) r.2.2).bind fun q => putA { ex0 with kind := 19, name := str t.text, args := q.2.1, pos := p } (wantS ts [41] q.2.2) fun n z => some (n, [], z)
    else putA { ex0 with kind := 3, name := str t.text, pos := p } x fun n y => some (n, [], y)
  else (F .expr (wantS ts [40] σ)).bind fun r => some (r.1, [], wantS ts [41] r.2.2)
def preG (ts : List Tok) (F : Job → RS → Ans) (σ : RS) : Ans :=
  let x := enterS ts σ
  if x.code = 0 then
    let p : Int := ((tokL ts x.at_).at_ : Int)
    let k := prefixK ts x prefixL
    if k = 0 then (F .atom x).bind fun r => if okS r.2.2 = true then some (r.1, [], leaveS r.2.2) else none
    else (F .pre (stepS x)).bind fun r => putA { ex0 with kind := k, a := r.1, pos := p } r.2.2 fun n y => some (n, [], leaveS y)
  else some (0, [], leaveS x)
def exprG (ts : List Tok) (F : Job → RS → Ans) (σ : RS) : Ans :=
  let x := enterS ts σ
  if x.code = 0 then
    let p : Int := ((tokL ts x.at_).at_ : Int)
    if isS ts [105, 102] x = true then
      (F .expr (stepS x)).bind fun a => (F .expr (wantS ts [116, 104, 101, 110] a.2.2)).bind fun b => (F .expr (wantS ts [101, 108, 115, 101] b.2.2)).bind fun c =>
        putA { ex0 with kind := 15, a := a.1, b := b.1, c := c.1, pos := p } c.2.2 fun n y => some (n, [], leaveS y)
    else (F (.bin 1) x).bind fun o =>
      let y := o.2.2
      let q : Int := ((tokL ts y.at_).at_ : Int)
      if isS ts [45, 62] y = true then (F .expr (stepS y)).bind fun b => putA { ex0 with kind := 17, a := o.1, b := b.1, pos := q } b.2.2 fun n z => some (n, [], leaveS z)
      else if isS ts [102, 98, 121] y = true then (F .expr (stepS y)).bind fun b => putA { ex0 with kind := 18, a := o.1, b := b.1, pos := q } b.2.2 fun n z => some (n, [], leaveS z)
      else if okS y = true then some (o.1, [], leaveS y) else none
  else some (0, [], leaveS x)
def binG (F : Job → RS → Ans) (least : Nat) (σ : RS) : Ans := if 5 < least then F .pre σ else (F (.bin (least + 1)) σ).bind fun a => F (.loop least a.1) a.2.2
def loopG (ts : List Tok) (F : Job → RS → Ans) (least : Nat) (a : Int) (σ : RS) : Ans :=
  if σ.code = 0 then
    if (levelS ts σ).1 = (least : Int) then
      (F (.bin (least + 1)) (stepS σ)).bind fun b => putA { ex0 with kind := (levelS ts σ).2, a := a, b := b.1, pos := ((tokL ts σ.at_).at_ : Int) } b.2.2 fun n y =>
        if least = 3 then some (n, [], y) else F (.loop least n) y
    else some (a, [], σ)
  else some (a, [], σ)
def argsG (ts : List Tok) (F : Job → RS → Ans) (acc : List Int) (σ : RS) : Ans :=
  if acc.length ≤ 40000 then if isS ts [44] σ = true then (F .expr (stepS σ)).bind fun r => F (.args (acc ++ [r.1])) r.2.2 else some (0, acc, σ) else none
/-- so many calls, one in another -/
def runE (ts : List Tok) : Nat → Job → RS → Ans
  | 0, _, _ => none
  | f + 1, j, σ => if okS σ = true then match j with
    | .expr => exprG ts (runE ts f) σ
    | .pre => preG ts (runE ts f) σ
    | .atom => atomG ts (runE ts f) σ
    | .bin least => binG (runE ts f) least σ
    | .loop least a => loopG ts (runE ts f) least a σ
    | .args acc => argsG ts (runE ts f) acc σ else none
/-- tokens with their end -/
def EndOk (ts : List Tok) : Prop := 0 < ts.length ∧ ∀ i t, ts[i]? = some t → (i + 1 = ts.length ↔ t.kind = 5)
theorem EndOk.next {ts : List Tok} (h : EndOk ts) {i : Nat} (hi : i < ts.length) (hk : (tokL ts i).kind ≠ 5) : i + 1 < ts.length := by
  have h1 : ts[i]? = some (tokL ts i) := by unfold tokL; rw [List.getD_eq_getElem?_getD, List.getElem?_eq_getElem hi]; rfl
  have := (h.2 i _ h1)
  rcases Nat.lt_or_ge (i + 1) ts.length with h2 | h2
  · exact h2
  · exact absurd (this.1 (by omega)) hk
theorem isS_kind {ts : List Tok} {s : List UInt8} {σ : RS} (h : isS ts s σ = true) : (tokL ts σ.at_).kind ≠ 5 ∧ σ.code = 0 := by
  unfold isS at h
  simp only [Bool.and_eq_true, Bool.or_eq_true, decide_eq_true_eq] at h
  refine ⟨?_, h.1⟩
  rcases h.2.1 with h1 | h1 <;> omega
/-- the text of a text's tokens, and the text's end -/
def parseR (s : List UInt8) (ts : List Tok) (f : Nat) : Ans := runE (ts ++ [endT s.length]) f .expr ⟨0, [], 0, 0, 0⟩
end Go.Proofs.YtlbhlncipajapaaGreatDoor
