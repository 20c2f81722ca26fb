/-
  No cell of these rows narrows 'for every input' (looked for: loops, veiled, ifaces, maps, wideKeys, modest, calm, conditions, laid).
  DERIVED. THE GIVEN ROWS OF THIS SEAT. 5 by the template 'for every input the law returns true; each argument reads behind the call as it read before'; 0 by the template 'total and deterministic' (their statements: YtcgkgobkchgdhaaTotals.lean).
  GIVEN WITH THE SEED: the statements are not yours to turn. If you find one false, say at which input.
  Laid BY PROGRAM, IN A SANDBOX (cutbox-rows.mjs): the forced cells as the released guide's own fill.sh prints them over the translation f585a16e42b017b8… (all of the seat's roots in one cut). By AI agents, Wed Nov 11 2026. No macro, syntax, notation, axiom, sorry.
-/
import Derived.Test.YtcgkgobkchgdhaaChecked
import GoSem.Claim
import GoSem.ClaimJoined
import GoSem.ClaimMapViews
import Derived.JoinedTies
import Derived.KernelRfl
namespace Go.Proofs.Ytcgkgobkchgdhaa
/- THE CELL 'sum', in the pinned program and in every row, IS THE sha256 OF THE DUMP (.gsa) THAT YtcgkgobkchgdhaaProg.lean LOADS. Nothing in Lean hashes anything: it is a label: what it is worth is what the hold of that sum in a sandbox is worth. -/
noncomputable def Try.pinned : Pinned := { name := "ytcgkgobkchgdhaa", sum := "f585a16e42b017b8122be09bbb0799fef4b2649d1099c98b9b3febbca92dd110", checked := Try.checked }
namespace Rows
def none {H : Type} : Left H := { results := [], args := [] }

/-- 'astrolabelaw04.AstMay': WHATEVER THE INPUT: true; the input reads as it did. -/
def astMaySpec : ChangeSpec := { name := "astMay", fn := fun _ => fun
  | [d] => { results := [.lit (.bool true)], args := [d] }
  | _ => none }
def astMayRow : OpenClaim := { program := "ytcgkgobkchgdhaa", sum := "f585a16e42b017b8122be09bbb0799fef4b2649d1099c98b9b3febbca92dd110", func := "astrolabe/astrolabelaw04.AstMay", spec := "astMay", unfollowed := true, recurses := true, plainKeys := false, apart := false }
def AstMaySaid : Prop := astMayRow.holds Try.pinned (OpenSpec.ofChange astMaySpec)

/-- ITS FALSE NEIGHBOUR: 'it returns false'. Refute it at one input. -/
def astMayWrong : ChangeSpec := { name := "astMay", fn := fun _ => fun
  | [d] => { results := [.lit (.bool false)], args := [d] }
  | _ => none }
def AstMayWrongFalsely : Prop := astMayRow.holds Try.pinned (OpenSpec.ofChange astMayWrong)

/-- 'astrolabelaw04.AstTrees': WHATEVER THE INPUT: true; the input reads as it did. -/
def astTreesSpec : ChangeSpec := { name := "astTrees", fn := fun _ => fun
  | [d1, d2] => { results := [.lit (.bool true)], args := [d1, d2] }
  | _ => none }
def astTreesRow : OpenClaim := { program := "ytcgkgobkchgdhaa", sum := "f585a16e42b017b8122be09bbb0799fef4b2649d1099c98b9b3febbca92dd110", func := "astrolabe/astrolabelaw04.AstTrees", spec := "astTrees", unfollowed := true, recurses := true, plainKeys := false, apart := false }
def AstTreesSaid : Prop := astTreesRow.holds Try.pinned (OpenSpec.ofChange astTreesSpec)

/-- ITS FALSE NEIGHBOUR: 'it returns false'. Refute it at one input. -/
def astTreesWrong : ChangeSpec := { name := "astTrees", fn := fun _ => fun
  | [d1, d2] => { results := [.lit (.bool false)], args := [d1, d2] }
  | _ => none }
def AstTreesWrongFalsely : Prop := astTreesRow.holds Try.pinned (OpenSpec.ofChange astTreesWrong)

/-- 'astrolabelaw04.AstSame': WHATEVER THE INPUT: true; the input reads as it did. -/
def astSameSpec : ChangeSpec := { name := "astSame", fn := fun _ => fun
  | [d1, d2, d3, d4] => { results := [.lit (.bool true)], args := [d1, d2, d3, d4] }
  | _ => none }
def astSameRow : OpenClaim := { program := "ytcgkgobkchgdhaa", sum := "f585a16e42b017b8122be09bbb0799fef4b2649d1099c98b9b3febbca92dd110", func := "astrolabe/astrolabelaw04.AstSame", spec := "astSame", unfollowed := true, recurses := true, plainKeys := false, apart := false }
def AstSameSaid : Prop := astSameRow.holds Try.pinned (OpenSpec.ofChange astSameSpec)

/-- ITS FALSE NEIGHBOUR: 'it returns false'. Refute it at one input. -/
def astSameWrong : ChangeSpec := { name := "astSame", fn := fun _ => fun
  | [d1, d2, d3, d4] => { results := [.lit (.bool false)], args := [d1, d2, d3, d4] }
  | _ => none }
def AstSameWrongFalsely : Prop := astSameRow.holds Try.pinned (OpenSpec.ofChange astSameWrong)

/-- 'astrolabelaw04.AstDeep': WHATEVER THE INPUT: true; the input reads as it did. -/
def astDeepSpec : ChangeSpec := { name := "astDeep", fn := fun _ => fun
  | [d1, d2] => { results := [.lit (.bool true)], args := [d1, d2] }
  | _ => none }
def astDeepRow : OpenClaim := { program := "ytcgkgobkchgdhaa", sum := "f585a16e42b017b8122be09bbb0799fef4b2649d1099c98b9b3febbca92dd110", func := "astrolabe/astrolabelaw04.AstDeep", spec := "astDeep", unfollowed := true, recurses := true, plainKeys := false, apart := false }
def AstDeepSaid : Prop := astDeepRow.holds Try.pinned (OpenSpec.ofChange astDeepSpec)

/-- ITS FALSE NEIGHBOUR: 'it returns false'. Refute it at one input. -/
def astDeepWrong : ChangeSpec := { name := "astDeep", fn := fun _ => fun
  | [d1, d2] => { results := [.lit (.bool false)], args := [d1, d2] }
  | _ => none }
def AstDeepWrongFalsely : Prop := astDeepRow.holds Try.pinned (OpenSpec.ofChange astDeepWrong)

/-- 'astrolabelaw04.AstNames': WHATEVER THE INPUT: true; the input reads as it did. -/
def astNamesSpec : ChangeSpec := { name := "astNames", fn := fun _ => fun
  | [d1, d2] => { results := [.lit (.bool true)], args := [d1, d2] }
  | _ => none }
def astNamesRow : OpenClaim := { program := "ytcgkgobkchgdhaa", sum := "f585a16e42b017b8122be09bbb0799fef4b2649d1099c98b9b3febbca92dd110", func := "astrolabe/astrolabelaw04.AstNames", spec := "astNames", unfollowed := true, recurses := true, plainKeys := false, apart := false }
def AstNamesSaid : Prop := astNamesRow.holds Try.pinned (OpenSpec.ofChange astNamesSpec)

/-- ITS FALSE NEIGHBOUR: 'it returns false'. Refute it at one input. -/
def astNamesWrong : ChangeSpec := { name := "astNames", fn := fun _ => fun
  | [d1, d2] => { results := [.lit (.bool false)], args := [d1, d2] }
  | _ => none }
def AstNamesWrongFalsely : Prop := astNamesRow.holds Try.pinned (OpenSpec.ofChange astNamesWrong)

/- THE SECOND FORM. 'bulk': how many values and letters a reading holds, each counted each time it is reached (what is shared counts as often as it is met; a slice's spare places count too). A statement '..UptoSaid' is the law's where the arguments, and the package variables that the reading takes, are together of bulk at most 1048576: NARROWER than '..Said'. Prove '..Said' where nothing that the law and all that it calls make is longer than what came in: it says more and counts as full. Else prove '..UptoSaid'. A law counts once. -/
mutual
def uptoBulk {H : Type} : DataW H → Nat
  | .lit (.string bytes) => bytes.length + 1
  | .lit _ => 1
  | .nil => 1
  | .ptr d => uptoBulk d + 1
  | .slice elems spare => uptoBulkAll elems + uptoBulkAll spare + 1
  | .agg parts => uptoBulkAll parts + 1
  | .iface _ d => uptoBulk d + 1
  | .map entries => uptoBulkEntries entries + 1
  | .held _ => 1
def uptoBulkAll {H : Type} : List (DataW H) → Nat
  | [] => 0
  | d :: r => uptoBulk d + uptoBulkAll r
def uptoBulkEntries {H : Type} : List (Lit × DataW H) → Nat
  | [] => 0
  | x :: r => uptoBulkEntry x + uptoBulkEntries r
def uptoBulkEntry {H : Type} : Lit × DataW H → Nat
  | (.string bytes, d) => bytes.length + uptoBulk d + 1
  | (_, d) => uptoBulk d + 1
 end
def uptoSmall : (H : Type) → List (DataW H) → Bool := fun _ ds => decide (uptoBulkAll ds ≤ 1048576)
def OpenSpec.upto (s : _root_.Go.ChangeSpec) : _root_.Go.OpenSpec := { _root_.Go.OpenSpec.ofChange s with cond := some uptoSmall }

/-- 'astrolabelaw04.AstMay', WHERE WHAT IT READS IS OF BULK AT MOST 1048576: true; the input reads as it did. -/
def astMayUptoRow : OpenClaim := { program := "ytcgkgobkchgdhaa", sum := "f585a16e42b017b8122be09bbb0799fef4b2649d1099c98b9b3febbca92dd110", func := "astrolabe/astrolabelaw04.AstMay", spec := "astMay", unfollowed := true, recurses := true, plainKeys := false, apart := false, narrowed := true }
def AstMayUptoSaid : Prop := astMayUptoRow.holds Try.pinned (OpenSpec.upto astMaySpec)

/-- 'astrolabelaw04.AstTrees', WHERE WHAT IT READS IS OF BULK AT MOST 1048576: true; the input reads as it did. -/
def astTreesUptoRow : OpenClaim := { program := "ytcgkgobkchgdhaa", sum := "f585a16e42b017b8122be09bbb0799fef4b2649d1099c98b9b3febbca92dd110", func := "astrolabe/astrolabelaw04.AstTrees", spec := "astTrees", unfollowed := true, recurses := true, plainKeys := false, apart := false, narrowed := true }
def AstTreesUptoSaid : Prop := astTreesUptoRow.holds Try.pinned (OpenSpec.upto astTreesSpec)

/-- 'astrolabelaw04.AstSame', WHERE WHAT IT READS IS OF BULK AT MOST 1048576: true; the input reads as it did. -/
def astSameUptoRow : OpenClaim := { program := "ytcgkgobkchgdhaa", sum := "f585a16e42b017b8122be09bbb0799fef4b2649d1099c98b9b3febbca92dd110", func := "astrolabe/astrolabelaw04.AstSame", spec := "astSame", unfollowed := true, recurses := true, plainKeys := false, apart := false, narrowed := true }
def AstSameUptoSaid : Prop := astSameUptoRow.holds Try.pinned (OpenSpec.upto astSameSpec)

/-- 'astrolabelaw04.AstDeep', WHERE WHAT IT READS IS OF BULK AT MOST 1048576: true; the input reads as it did. -/
def astDeepUptoRow : OpenClaim := { program := "ytcgkgobkchgdhaa", sum := "f585a16e42b017b8122be09bbb0799fef4b2649d1099c98b9b3febbca92dd110", func := "astrolabe/astrolabelaw04.AstDeep", spec := "astDeep", unfollowed := true, recurses := true, plainKeys := false, apart := false, narrowed := true }
def AstDeepUptoSaid : Prop := astDeepUptoRow.holds Try.pinned (OpenSpec.upto astDeepSpec)

/-- 'astrolabelaw04.AstNames', WHERE WHAT IT READS IS OF BULK AT MOST 1048576: true; the input reads as it did. -/
def astNamesUptoRow : OpenClaim := { program := "ytcgkgobkchgdhaa", sum := "f585a16e42b017b8122be09bbb0799fef4b2649d1099c98b9b3febbca92dd110", func := "astrolabe/astrolabelaw04.AstNames", spec := "astNames", unfollowed := true, recurses := true, plainKeys := false, apart := false, narrowed := true }
def AstNamesUptoSaid : Prop := astNamesUptoRow.holds Try.pinned (OpenSpec.upto astNamesSpec)

end Rows
end Go.Proofs.Ytcgkgobkchgdhaa
