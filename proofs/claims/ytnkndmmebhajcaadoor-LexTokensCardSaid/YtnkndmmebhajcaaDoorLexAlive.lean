/- lex.Lex, case by case; the example. -/
import Derived.Test.YtnkndmmebhajcaaDoorLexLex
namespace Go.Proofs.YtnkndmmebhajcaaDoor
open Go.RowKit

/-- tokens come back -/
def LexOk (l : List UInt8) (ts : List Tok) (w : World) (e : Ending) (w' : World) : Prop :=
  ∃ g cap, e = .returned (.tuple #[.slice (some ⟨g, 0, none⟩) (ts.length + 1) cap, .agg #[.int .i64 0, .int .i64 0]]) ∧ Below w.heap.size w w' ∧ w.heap.size ≤ g ∧ g < w'.heap.size ∧
    (∀ j u, (tokCells (ts ++ [endT l.length]))[j]? = some u → w'.cell? ⟨g, j, none⟩ = some u)
def LexBad (f : Nat) (w : World) (e : Ending) (w' : World) : Prop := e = .returned (.tuple #[.slice none 0 0, .agg #[.int .i64 1, .int .i64 (f : Int)]]) ∧ Below w.heap.size w w'
def LexLong (w : World) (e : Ending) (w' : World) : Prop := e = .returned (.tuple #[.slice none 0 0, .agg #[.int .i64 10, .int .i64 0]]) ∧ Below w.heap.size w w'
theorem row_cells {w : World} {base g n cap : Nat} {xs : List Value} (h : w.ownsRow base 36 4 (.slice (some ⟨g, 0, none⟩) n cap) n xs) (j : Nat) (u : Value) (hu : xs[j]? = some u) : w.cell? ⟨g, j, none⟩ = some u := by
  have := h.cells (g := g) rfl j u hu
  have e : (⟨g, 0, none⟩ : Addr).add j = ⟨g, j, none⟩ := by unfold Addr.add; split <;> simp_all
  rwa [e] at this
theorem lex_ok (l : List UInt8) (ts : List Tok) (ht : lexT l ts none) (hl : l.length ≤ 20000) (w : World) (hS : Signs w) : Calls Tryd.prog 9 #[.string (str l)] w fun e w' => LexOk l ts w e w' :=
  (lex_any l ts none ht w hS).mono fun e w' ⟨v, c, f, he, hb, h⟩ => by
    rcases h with ⟨h1, _⟩ | ⟨_, _, rfl, rfl, h2⟩ | ⟨_, g, h2, _⟩
    · omega
    · obtain ⟨g', cap', rfl⟩ := ownsRow_succ h2
      have hlt := h2.lt g' rfl
      exact ⟨g', cap', he, hb, hlt.1, hlt.2, row_cells h2⟩
    · cases h2
theorem lex_bad (l : List UInt8) (ts : List Tok) (f : Nat) (ht : lexT l ts (some f)) (hl : l.length ≤ 20000) (w : World) (hS : Signs w) : Calls Tryd.prog 9 #[.string (str l)] w fun e w' => LexBad f w e w' :=
  (lex_any l ts (some f) ht w hS).mono fun e w' ⟨v, c, f', he, hb, h⟩ => by
    rcases h with ⟨h1, _⟩ | ⟨_, h2, _⟩ | ⟨_, g, h2, rfl, rfl, rfl⟩
    · omega
    · cases h2
    · cases h2; exact ⟨he, hb⟩
theorem lex_too (l : List UInt8) (hl : 20000 < l.length) (w : World) (hS : Signs w) : Calls Tryd.prog 9 #[.string (str l)] w fun e w' => LexLong w e w' := by
  obtain ⟨ts, r, ht⟩ := toks_total l (gapTo false l 0)
  exact (lex_any l ts r ht w hS).mono fun e w' ⟨v, c, f', he, hb, h⟩ => by
    rcases h with ⟨_, rfl, rfl, rfl⟩ | ⟨h1, _⟩ | ⟨h1, _⟩
    · exact ⟨he, hb⟩
    · omega
    · omega
/-- the example's text -/
def exL : List UInt8 := [120, 49, 32, 61, 32, 49, 46, 53, 59]
def exT : List Tok := [tokAt exL 0, tokAt exL 3, tokAt exL 5, tokAt exL 8]
theorem ex_lex : lexT exL exT none := by
  unfold lexT exT
  rw [show gapTo false exL 0 = 0 by decide +kernel]
  refine .tok (by decide) (by decide +kernel) ?_
  rw [show gapTo false exL (0 + (tokAt exL 0).text.length) = 3 by decide +kernel]
  refine .tok (by decide) (by decide +kernel) ?_
  rw [show gapTo false exL (3 + (tokAt exL 3).text.length) = 5 by decide +kernel]
  refine .tok (by decide) (by decide +kernel) ?_
  rw [show gapTo false exL (5 + (tokAt exL 5).text.length) = 8 by decide +kernel]
  refine .tok (by decide) (by decide +kernel) ?_
  rw [show gapTo false exL (8 + (tokAt exL 8).text.length) = 9 by decide +kernel]
  exact .fin (by decide)
theorem ex_cells : (tokCells (exT ++ [endT exL.length]))[1]? = some (.string (str [120, 49])) ∧ (tokCells (exT ++ [endT exL.length]))[10]? = some (.int .i64 6442450944) ∧ (tokCells (exT ++ [endT exL.length]))[16]? = some (.int .i64 5) := by
  have h1 : (tokAt exL 0).text = [120, 49] := by decide +kernel
  have h2 : (tokAt exL 5).v = 6442450944 := by decide +kernel
  refine ⟨?_, ?_, ?_⟩
  · show some (Value.string (str (tokAt exL 0).text)) = _; rw [h1]
  · show some (Value.int .i64 (tokAt exL 5).v) = _; rw [h2]
  · rfl
set_option maxHeartbeats 2000000 in
theorem alive_any (w : World) (hS : Signs w) : Calls Tryd.prog 8 #[] w fun e w' => e = .returned (.bool true) ∧ Below w.heap.size w w' := by
  have C : Hid (Calls Tryd.prog 9 #[.string ⟨#[120, 49, 32, 61, 32, 49, 46, 53, 59]⟩] w fun e w' => LexOk exL exT w e w') := Lib.hid (lex_ok exL exT ex_lex (by decide) w hS)
  have hx : (⟨#[120, 49]⟩ : ByteArray) = str [120, 49] := rfl
  go_enter Tryd.func8, Tryd.ntmps8
  go_wp2_with (go_at_call 9; ((with_reducible refine C.out.mono ?_); rintro e w1 ⟨g, cap, rfl, hb, hg1, hg2, hcells⟩; have c1 := hcells _ _ ex_cells.1; have c2 := hcells _ _ ex_cells.2.1; have c3 := hcells _ _ ex_cells.2.2; have HB := Lib.hid hb; have HG := Lib.hid hg2; clear hb hg1 hcells))
  go_ret
  exact ⟨rfl, HB.out.alloc HB.out.size _⟩
end Go.Proofs.YtnkndmmebhajcaaDoor
