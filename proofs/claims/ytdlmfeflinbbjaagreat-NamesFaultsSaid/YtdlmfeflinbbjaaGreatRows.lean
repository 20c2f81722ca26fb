/-
  No cell of these rows narrows 'for every input' (looked for: loops, veiled, ifaces, maps, wideKeys, modest, calm, conditions, laid).
  DERIVED. THE GIVEN ROWS OF THIS SEAT. 6 by the template 'for every input the law returns true; each argument reads behind the call as it read before'; 0 by the template 'total and deterministic' (their statements: YtdlmfeflinbbjaaGreatTotals.lean).
  GIVEN WITH THE SEED: the statements are not yours to turn. If you find one false, say at which input.
  Laid BY PROGRAM, IN A SANDBOX (cutbox-rows.mjs): the forced cells as the released guide's own fill.sh prints them over the translation 86da7f7b839d90f5… (all of the seat's roots in one cut). By AI agents, Wed Nov 11 2026. No macro, syntax, notation, axiom, sorry.
-/
import Derived.Test.YtdlmfeflinbbjaaGreatChecked
import GoSem.Claim
import GoSem.ClaimJoined
import GoSem.ClaimMapViews
import Derived.JoinedTies
import Derived.KernelRfl
namespace Go.Proofs.YtdlmfeflinbbjaaGreat
/- THE CELL 'sum', in the pinned program and in every row, IS THE sha256 OF THE DUMP (.gsa) THAT YtdlmfeflinbbjaaGreatProg.lean LOADS. Nothing in Lean hashes anything: it is a label: what it is worth is what the hold of that sum in a sandbox is worth. -/
noncomputable def Tryz.pinned : Pinned := { name := "ytdlmfeflinbbjaagreat", sum := "86da7f7b839d90f539e501f04edf6d5e48cfbec3503338b8cd2a265e74dfbc2f", checked := Tryz.checked }
namespace Rows
def none {H : Type} : Left H := { results := [], args := [] }

/-- 'astrolabelaw07.NamesFaults': WHATEVER THE INPUT: true; the input reads as it did. -/
def namesFaultsSpec : ChangeSpec := { name := "namesFaults", fn := fun _ => fun
  | [d] => { results := [.lit (.bool true)], args := [d] }
  | _ => none }
def namesFaultsRow : OpenClaim := { program := "ytdlmfeflinbbjaagreat", sum := "86da7f7b839d90f539e501f04edf6d5e48cfbec3503338b8cd2a265e74dfbc2f", func := "astrolabe/astrolabelaw07.NamesFaults", spec := "namesFaults", unfollowed := true, recurses := true, plainKeys := false, apart := false }
def NamesFaultsSaid : Prop := namesFaultsRow.holds Tryz.pinned (OpenSpec.ofChange namesFaultsSpec)

/-- ITS FALSE NEIGHBOUR: 'it returns false'. Refute it at one input. -/
def namesFaultsWrong : ChangeSpec := { name := "namesFaults", fn := fun _ => fun
  | [d] => { results := [.lit (.bool false)], args := [d] }
  | _ => none }
def NamesFaultsWrongFalsely : Prop := namesFaultsRow.holds Tryz.pinned (OpenSpec.ofChange namesFaultsWrong)

/-- 'astrolabelaw07.NamesVars': WHATEVER THE INPUT: true; the input reads as it did. -/
def namesVarsSpec : ChangeSpec := { name := "namesVars", fn := fun _ => fun
  | [d1, d2, d3] => { results := [.lit (.bool true)], args := [d1, d2, d3] }
  | _ => none }
def namesVarsRow : OpenClaim := { program := "ytdlmfeflinbbjaagreat", sum := "86da7f7b839d90f539e501f04edf6d5e48cfbec3503338b8cd2a265e74dfbc2f", func := "astrolabe/astrolabelaw07.NamesVars", spec := "namesVars", unfollowed := true, recurses := true, plainKeys := false, apart := false }
def NamesVarsSaid : Prop := namesVarsRow.holds Tryz.pinned (OpenSpec.ofChange namesVarsSpec)

/-- ITS FALSE NEIGHBOUR: 'it returns false'. Refute it at one input. -/
def namesVarsWrong : ChangeSpec := { name := "namesVars", fn := fun _ => fun
  | [d1, d2, d3] => { results := [.lit (.bool false)], args := [d1, d2, d3] }
  | _ => none }
def NamesVarsWrongFalsely : Prop := namesVarsRow.holds Tryz.pinned (OpenSpec.ofChange namesVarsWrong)

/-- 'astrolabelaw07.NamesOrder': WHATEVER THE INPUT: true; the input reads as it did. -/
def namesOrderSpec : ChangeSpec := { name := "namesOrder", fn := fun _ => fun
  | [d] => { results := [.lit (.bool true)], args := [d] }
  | _ => none }
def namesOrderRow : OpenClaim := { program := "ytdlmfeflinbbjaagreat", sum := "86da7f7b839d90f539e501f04edf6d5e48cfbec3503338b8cd2a265e74dfbc2f", func := "astrolabe/astrolabelaw07.NamesOrder", spec := "namesOrder", unfollowed := true, recurses := true, plainKeys := false, apart := false }
def NamesOrderSaid : Prop := namesOrderRow.holds Tryz.pinned (OpenSpec.ofChange namesOrderSpec)

/-- ITS FALSE NEIGHBOUR: 'it returns false'. Refute it at one input. -/
def namesOrderWrong : ChangeSpec := { name := "namesOrder", fn := fun _ => fun
  | [d] => { results := [.lit (.bool false)], args := [d] }
  | _ => none }
def NamesOrderWrongFalsely : Prop := namesOrderRow.holds Tryz.pinned (OpenSpec.ofChange namesOrderWrong)

/-- 'astrolabelaw07.NamesTexts': WHATEVER THE INPUT: true; the input reads as it did. -/
def namesTextsSpec : ChangeSpec := { name := "namesTexts", fn := fun _ => fun
  | [d] => { results := [.lit (.bool true)], args := [d] }
  | _ => none }
def namesTextsRow : OpenClaim := { program := "ytdlmfeflinbbjaagreat", sum := "86da7f7b839d90f539e501f04edf6d5e48cfbec3503338b8cd2a265e74dfbc2f", func := "astrolabe/astrolabelaw07.NamesTexts", spec := "namesTexts", unfollowed := true, recurses := true, plainKeys := false, apart := false }
def NamesTextsSaid : Prop := namesTextsRow.holds Tryz.pinned (OpenSpec.ofChange namesTextsSpec)

/-- ITS FALSE NEIGHBOUR: 'it returns false'. Refute it at one input. -/
def namesTextsWrong : ChangeSpec := { name := "namesTexts", fn := fun _ => fun
  | [d] => { results := [.lit (.bool false)], args := [d] }
  | _ => none }
def NamesTextsWrongFalsely : Prop := namesTextsRow.holds Tryz.pinned (OpenSpec.ofChange namesTextsWrong)

/-- 'astrolabelaw07.NamesKnown': WHATEVER THE INPUT: true; the input reads as it did. -/
def namesKnownSpec : ChangeSpec := { name := "namesKnown", fn := fun _ => fun
  | [d1, d2] => { results := [.lit (.bool true)], args := [d1, d2] }
  | _ => none }
def namesKnownRow : OpenClaim := { program := "ytdlmfeflinbbjaagreat", sum := "86da7f7b839d90f539e501f04edf6d5e48cfbec3503338b8cd2a265e74dfbc2f", func := "astrolabe/astrolabelaw07.NamesKnown", spec := "namesKnown", unfollowed := true, recurses := true, plainKeys := false, apart := false }
def NamesKnownSaid : Prop := namesKnownRow.holds Tryz.pinned (OpenSpec.ofChange namesKnownSpec)

/-- ITS FALSE NEIGHBOUR: 'it returns false'. Refute it at one input. -/
def namesKnownWrong : ChangeSpec := { name := "namesKnown", fn := fun _ => fun
  | [d1, d2] => { results := [.lit (.bool false)], args := [d1, d2] }
  | _ => none }
def NamesKnownWrongFalsely : Prop := namesKnownRow.holds Tryz.pinned (OpenSpec.ofChange namesKnownWrong)

/-- 'astrolabelaw07.NamesOrdered': WHATEVER THE INPUT: true; the input reads as it did. -/
def namesOrderedSpec : ChangeSpec := { name := "namesOrdered", fn := fun _ => fun
  | [d] => { results := [.lit (.bool true)], args := [d] }
  | _ => none }
def namesOrderedRow : OpenClaim := { program := "ytdlmfeflinbbjaagreat", sum := "86da7f7b839d90f539e501f04edf6d5e48cfbec3503338b8cd2a265e74dfbc2f", func := "astrolabe/astrolabelaw07.NamesOrdered", spec := "namesOrdered", unfollowed := true, recurses := true, plainKeys := false, apart := false }
def NamesOrderedSaid : Prop := namesOrderedRow.holds Tryz.pinned (OpenSpec.ofChange namesOrderedSpec)

/-- ITS FALSE NEIGHBOUR: 'it returns false'. Refute it at one input. -/
def namesOrderedWrong : ChangeSpec := { name := "namesOrdered", fn := fun _ => fun
  | [d] => { results := [.lit (.bool false)], args := [d] }
  | _ => none }
def NamesOrderedWrongFalsely : Prop := namesOrderedRow.holds Tryz.pinned (OpenSpec.ofChange namesOrderedWrong)

/- THE SECOND FORM. 'bulk': how many values and letters a reading holds, each counted each time it is reached (what is shared counts as often as it is met; a slice's spare places count too). A statement '..UptoSaid' is the law's where the arguments, and the package variables that the reading takes, are together of bulk at most 1048576: NARROWER than '..Said'. Prove '..Said' where nothing that the law and all that it calls make is longer than what came in: it says more and counts as full. Else prove '..UptoSaid'. A law counts once. -/
mutual
def uptoBulk {H : Type} : DataW H → Nat
  | .lit (.string bytes) => bytes.length + 1
  | .lit _ => 1
  | .nil => 1
  | .ptr d => uptoBulk d + 1
  | .slice elems spare => uptoBulkAll elems + uptoBulkAll spare + 1
  | .agg parts => uptoBulkAll parts + 1
  | .iface _ d => uptoBulk d + 1
  | .map entries => uptoBulkEntries entries + 1
  | .held _ => 1
def uptoBulkAll {H : Type} : List (DataW H) → Nat
  | [] => 0
  | d :: r => uptoBulk d + uptoBulkAll r
def uptoBulkEntries {H : Type} : List (Lit × DataW H) → Nat
  | [] => 0
  | x :: r => uptoBulkEntry x + uptoBulkEntries r
def uptoBulkEntry {H : Type} : Lit × DataW H → Nat
  | (.string bytes, d) => bytes.length + uptoBulk d + 1
  | (_, d) => uptoBulk d + 1
 end
def uptoSmall : (H : Type) → List (DataW H) → Bool := fun _ ds => decide (uptoBulkAll ds ≤ 1048576)
def OpenSpec.upto (s : _root_.Go.ChangeSpec) : _root_.Go.OpenSpec := { _root_.Go.OpenSpec.ofChange s with cond := some uptoSmall }

/-- 'astrolabelaw07.NamesFaults', WHERE WHAT IT READS IS OF BULK AT MOST 1048576: true; the input reads as it did. -/
def namesFaultsUptoRow : OpenClaim := { program := "ytdlmfeflinbbjaagreat", sum := "86da7f7b839d90f539e501f04edf6d5e48cfbec3503338b8cd2a265e74dfbc2f", func := "astrolabe/astrolabelaw07.NamesFaults", spec := "namesFaults", unfollowed := true, recurses := true, plainKeys := false, apart := false, narrowed := true }
def NamesFaultsUptoSaid : Prop := namesFaultsUptoRow.holds Tryz.pinned (OpenSpec.upto namesFaultsSpec)

/-- 'astrolabelaw07.NamesVars', WHERE WHAT IT READS IS OF BULK AT MOST 1048576: true; the input reads as it did. -/
def namesVarsUptoRow : OpenClaim := { program := "ytdlmfeflinbbjaagreat", sum := "86da7f7b839d90f539e501f04edf6d5e48cfbec3503338b8cd2a265e74dfbc2f", func := "astrolabe/astrolabelaw07.NamesVars", spec := "namesVars", unfollowed := true, recurses := true, plainKeys := false, apart := false, narrowed := true }
def NamesVarsUptoSaid : Prop := namesVarsUptoRow.holds Tryz.pinned (OpenSpec.upto namesVarsSpec)

/-- 'astrolabelaw07.NamesOrder', WHERE WHAT IT READS IS OF BULK AT MOST 1048576: true; the input reads as it did. -/
def namesOrderUptoRow : OpenClaim := { program := "ytdlmfeflinbbjaagreat", sum := "86da7f7b839d90f539e501f04edf6d5e48cfbec3503338b8cd2a265e74dfbc2f", func := "astrolabe/astrolabelaw07.NamesOrder", spec := "namesOrder", unfollowed := true, recurses := true, plainKeys := false, apart := false, narrowed := true }
def NamesOrderUptoSaid : Prop := namesOrderUptoRow.holds Tryz.pinned (OpenSpec.upto namesOrderSpec)

/-- 'astrolabelaw07.NamesTexts', WHERE WHAT IT READS IS OF BULK AT MOST 1048576: true; the input reads as it did. -/
def namesTextsUptoRow : OpenClaim := { program := "ytdlmfeflinbbjaagreat", sum := "86da7f7b839d90f539e501f04edf6d5e48cfbec3503338b8cd2a265e74dfbc2f", func := "astrolabe/astrolabelaw07.NamesTexts", spec := "namesTexts", unfollowed := true, recurses := true, plainKeys := false, apart := false, narrowed := true }
def NamesTextsUptoSaid : Prop := namesTextsUptoRow.holds Tryz.pinned (OpenSpec.upto namesTextsSpec)

/-- 'astrolabelaw07.NamesKnown', WHERE WHAT IT READS IS OF BULK AT MOST 1048576: true; the input reads as it did. -/
def namesKnownUptoRow : OpenClaim := { program := "ytdlmfeflinbbjaagreat", sum := "86da7f7b839d90f539e501f04edf6d5e48cfbec3503338b8cd2a265e74dfbc2f", func := "astrolabe/astrolabelaw07.NamesKnown", spec := "namesKnown", unfollowed := true, recurses := true, plainKeys := false, apart := false, narrowed := true }
def NamesKnownUptoSaid : Prop := namesKnownUptoRow.holds Tryz.pinned (OpenSpec.upto namesKnownSpec)

/-- 'astrolabelaw07.NamesOrdered', WHERE WHAT IT READS IS OF BULK AT MOST 1048576: true; the input reads as it did. -/
def namesOrderedUptoRow : OpenClaim := { program := "ytdlmfeflinbbjaagreat", sum := "86da7f7b839d90f539e501f04edf6d5e48cfbec3503338b8cd2a265e74dfbc2f", func := "astrolabe/astrolabelaw07.NamesOrdered", spec := "namesOrdered", unfollowed := true, recurses := true, plainKeys := false, apart := false, narrowed := true }
def NamesOrderedUptoSaid : Prop := namesOrderedUptoRow.holds Tryz.pinned (OpenSpec.upto namesOrderedSpec)

end Rows
end Go.Proofs.YtdlmfeflinbbjaaGreat
