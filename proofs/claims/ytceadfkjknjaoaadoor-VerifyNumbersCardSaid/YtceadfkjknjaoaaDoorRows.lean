/-
  NARROWER THAN 'FOR EVERY INPUT', by the rows' own cells (each row's printed sentence says how): VerifyRegisters: laid · VerifyCut: laid · VerifyNumbers: laid.
  DERIVED. THE GIVEN ROWS OF THIS SEAT. 3 by the template 'for every input the law returns true; each argument reads behind the call as it read before'; 0 by the template 'total and deterministic' (their statements: YtceadfkjknjaoaaDoorTotals.lean).
  GIVEN WITH THE SEED: the statements are not yours to turn. If you find one false, say at which input.
  Laid BY PROGRAM, IN A SANDBOX (cutbox-rows.mjs): the forced cells as the released guide's own fill.sh prints them over the translation 83756dbbb76e1cf0… (all of the seat's roots in one cut). By AI agents, Wed Nov 11 2026. No macro, syntax, notation, axiom, sorry.
-/
import Derived.Test.YtceadfkjknjaoaaDoorChecked
import GoSem.Claim
import GoSem.ClaimJoined
import GoSem.ClaimMapViews
import Derived.JoinedTies
import Derived.KernelRfl
namespace Go.Proofs.YtceadfkjknjaoaaDoor
/- THE CELL 'sum', in the pinned program and in every row, IS THE sha256 OF THE DUMP (.gsa) THAT YtceadfkjknjaoaaDoorProg.lean LOADS. Nothing in Lean hashes anything: it is a label: what it is worth is what the hold of that sum in a sandbox is worth. -/
noncomputable def Tryd.pinned : Pinned := { name := "ytceadfkjknjaoaadoor", sum := "83756dbbb76e1cf0e1dab8cec88842a4bec2173cab920f5edb8fa289591c75de", checked := Tryd.checked }
namespace Rows
def none {H : Type} : Left H := { results := [], args := [] }

/- WHAT THE LISTED PACKAGE-LEVEL VARIABLES READ AS WHEN THE CALL BEGINS. Each datum BY PROGRAM (the guide's laid-datum.mjs) off the statement by which the dump's own 'gosem.cut.vars' lays the variable. In a bare row this is a premise. The card (YtceadfkjknjaoaaDoorCards.lean) ties it to the program's text. -/
def laid_astrolabe_verify_rows {H : Type} : DataW H := .agg [.agg [.lit (.int .i64 0), .lit (.int .i64 0), .lit (.int .i64 0), .lit (.int .i64 0), .lit (.bool false), .lit (.int .u64 0)], .agg [.lit (.int .i64 1), .lit (.int .i64 0), .lit (.int .i64 0), .lit (.int .i64 0), .lit (.bool true), .lit (.int .u64 15)], .agg [.lit (.int .i64 1), .lit (.int .i64 2), .lit (.int .i64 0), .lit (.int .i64 0), .lit (.bool false), .lit (.int .u64 15)], .agg [.lit (.int .i64 1), .lit (.int .i64 3), .lit (.int .i64 0), .lit (.int .i64 0), .lit (.bool false), .lit (.int .u64 15)], .agg [.lit (.int .i64 1), .lit (.int .i64 4), .lit (.int .i64 0), .lit (.int .i64 0), .lit (.bool false), .lit (.int .u64 15)], .agg [.lit (.int .i64 1), .lit (.int .i64 5), .lit (.int .i64 0), .lit (.int .i64 0), .lit (.bool false), .lit (.int .u64 4)], .agg [.lit (.int .i64 1), .lit (.int .i64 1), .lit (.int .i64 0), .lit (.int .i64 0), .lit (.bool false), .lit (.int .u64 15)], .agg [.lit (.int .i64 1), .lit (.int .i64 1), .lit (.int .i64 0), .lit (.int .i64 0), .lit (.bool false), .lit (.int .u64 15)], .agg [.lit (.int .i64 1), .lit (.int .i64 1), .lit (.int .i64 0), .lit (.int .i64 0), .lit (.bool false), .lit (.int .u64 15)], .agg [.lit (.int .i64 1), .lit (.int .i64 1), .lit (.int .i64 1), .lit (.int .i64 0), .lit (.bool false), .lit (.int .u64 15)], .agg [.lit (.int .i64 1), .lit (.int .i64 1), .lit (.int .i64 1), .lit (.int .i64 0), .lit (.bool false), .lit (.int .u64 15)], .agg [.lit (.int .i64 1), .lit (.int .i64 1), .lit (.int .i64 1), .lit (.int .i64 0), .lit (.bool false), .lit (.int .u64 15)], .agg [.lit (.int .i64 1), .lit (.int .i64 1), .lit (.int .i64 1), .lit (.int .i64 0), .lit (.bool false), .lit (.int .u64 15)], .agg [.lit (.int .i64 1), .lit (.int .i64 1), .lit (.int .i64 1), .lit (.int .i64 0), .lit (.bool false), .lit (.int .u64 15)], .agg [.lit (.int .i64 1), .lit (.int .i64 1), .lit (.int .i64 1), .lit (.int .i64 0), .lit (.bool false), .lit (.int .u64 15)], .agg [.lit (.int .i64 1), .lit (.int .i64 1), .lit (.int .i64 1), .lit (.int .i64 0), .lit (.bool false), .lit (.int .u64 15)], .agg [.lit (.int .i64 1), .lit (.int .i64 1), .lit (.int .i64 1), .lit (.int .i64 0), .lit (.bool false), .lit (.int .u64 15)], .agg [.lit (.int .i64 1), .lit (.int .i64 1), .lit (.int .i64 1), .lit (.int .i64 0), .lit (.bool false), .lit (.int .u64 15)], .agg [.lit (.int .i64 1), .lit (.int .i64 1), .lit (.int .i64 1), .lit (.int .i64 1), .lit (.bool false), .lit (.int .u64 15)], .agg [.lit (.int .i64 0), .lit (.int .i64 1), .lit (.int .i64 7), .lit (.int .i64 0), .lit (.bool false), .lit (.int .u64 4)], .agg [.lit (.int .i64 6), .lit (.int .i64 1), .lit (.int .i64 0), .lit (.int .i64 0), .lit (.bool false), .lit (.int .u64 11)], .agg [.lit (.int .i64 4), .lit (.int .i64 1), .lit (.int .i64 0), .lit (.int .i64 0), .lit (.bool false), .lit (.int .u64 4)], .agg [.lit (.int .i64 3), .lit (.int .i64 1), .lit (.int .i64 0), .lit (.int .i64 0), .lit (.bool false), .lit (.int .u64 4)]]

/-- 'astrolabelaw17.VerifyRegisters': WHATEVER THE INPUT: true; the input reads as it did. -/
def verifyRegistersSpec : ChangeSpec := { name := "verifyRegisters", fn := fun _ => fun
  | [d] => { results := [.lit (.bool true)], args := [d] }
  | _ => none }
def verifyRegistersRow : OpenClaim := { program := "ytceadfkjknjaoaadoor", sum := "83756dbbb76e1cf0e1dab8cec88842a4bec2173cab920f5edb8fa289591c75de", func := "astrolabe/astrolabelaw17.VerifyRegisters", spec := "verifyRegisters", unfollowed := true, recurses := true, named := ["astrolabe/verify.rows"], apart := false, laid := [("astrolabe/verify.rows", laid_astrolabe_verify_rows)] }
def VerifyRegistersSaid : Prop := verifyRegistersRow.holds Tryd.pinned (OpenSpec.ofChange verifyRegistersSpec)

/-- ITS FALSE NEIGHBOUR: 'it returns false'. Refute it at one input. -/
def verifyRegistersWrong : ChangeSpec := { name := "verifyRegisters", fn := fun _ => fun
  | [d] => { results := [.lit (.bool false)], args := [d] }
  | _ => none }
def VerifyRegistersWrongFalsely : Prop := verifyRegistersRow.holds Tryd.pinned (OpenSpec.ofChange verifyRegistersWrong)

/-- 'astrolabelaw17.VerifyCut': WHATEVER THE INPUT: true; the input reads as it did. -/
def verifyCutSpec : ChangeSpec := { name := "verifyCut", fn := fun _ => fun
  | [d1, d2] => { results := [.lit (.bool true)], args := [d1, d2] }
  | _ => none }
def verifyCutRow : OpenClaim := { program := "ytceadfkjknjaoaadoor", sum := "83756dbbb76e1cf0e1dab8cec88842a4bec2173cab920f5edb8fa289591c75de", func := "astrolabe/astrolabelaw17.VerifyCut", spec := "verifyCut", unfollowed := true, recurses := true, named := ["astrolabe/verify.rows"], apart := false, laid := [("astrolabe/verify.rows", laid_astrolabe_verify_rows)] }
def VerifyCutSaid : Prop := verifyCutRow.holds Tryd.pinned (OpenSpec.ofChange verifyCutSpec)

/-- ITS FALSE NEIGHBOUR: 'it returns false'. Refute it at one input. -/
def verifyCutWrong : ChangeSpec := { name := "verifyCut", fn := fun _ => fun
  | [d1, d2] => { results := [.lit (.bool false)], args := [d1, d2] }
  | _ => none }
def VerifyCutWrongFalsely : Prop := verifyCutRow.holds Tryd.pinned (OpenSpec.ofChange verifyCutWrong)

/-- 'astrolabelaw17.VerifyNumbers': WHATEVER THE INPUT: true; the input reads as it did. -/
def verifyNumbersSpec : ChangeSpec := { name := "verifyNumbers", fn := fun _ => fun
  | [d] => { results := [.lit (.bool true)], args := [d] }
  | _ => none }
def verifyNumbersRow : OpenClaim := { program := "ytceadfkjknjaoaadoor", sum := "83756dbbb76e1cf0e1dab8cec88842a4bec2173cab920f5edb8fa289591c75de", func := "astrolabe/astrolabelaw17.VerifyNumbers", spec := "verifyNumbers", unfollowed := true, recurses := true, named := ["astrolabe/verify.rows"], apart := false, laid := [("astrolabe/verify.rows", laid_astrolabe_verify_rows)] }
def VerifyNumbersSaid : Prop := verifyNumbersRow.holds Tryd.pinned (OpenSpec.ofChange verifyNumbersSpec)

/-- ITS FALSE NEIGHBOUR: 'it returns false'. Refute it at one input. -/
def verifyNumbersWrong : ChangeSpec := { name := "verifyNumbers", fn := fun _ => fun
  | [d] => { results := [.lit (.bool false)], args := [d] }
  | _ => none }
def VerifyNumbersWrongFalsely : Prop := verifyNumbersRow.holds Tryd.pinned (OpenSpec.ofChange verifyNumbersWrong)

/- THE SECOND FORM. 'bulk': how many values and letters a reading holds, each counted each time it is reached (what is shared counts as often as it is met; a slice's spare places count too). A statement '..UptoSaid' is the law's where the arguments, and the package variables that the reading takes, are together of bulk at most 1048576: NARROWER than '..Said'. Prove '..Said' where nothing that the law and all that it calls make is longer than what came in: it says more and counts as full. Else prove '..UptoSaid'. A law counts once. -/
mutual
def uptoBulk {H : Type} : DataW H → Nat
  | .lit (.string bytes) => bytes.length + 1
  | .lit _ => 1
  | .nil => 1
  | .ptr d => uptoBulk d + 1
  | .slice elems spare => uptoBulkAll elems + uptoBulkAll spare + 1
  | .agg parts => uptoBulkAll parts + 1
  | .iface _ d => uptoBulk d + 1
  | .map entries => uptoBulkEntries entries + 1
  | .held _ => 1
def uptoBulkAll {H : Type} : List (DataW H) → Nat
  | [] => 0
  | d :: r => uptoBulk d + uptoBulkAll r
def uptoBulkEntries {H : Type} : List (Lit × DataW H) → Nat
  | [] => 0
  | x :: r => uptoBulkEntry x + uptoBulkEntries r
def uptoBulkEntry {H : Type} : Lit × DataW H → Nat
  | (.string bytes, d) => bytes.length + uptoBulk d + 1
  | (_, d) => uptoBulk d + 1
 end
def uptoSmall : (H : Type) → List (DataW H) → Bool := fun _ ds => decide (uptoBulkAll ds ≤ 1048576)
def OpenSpec.upto (s : _root_.Go.ChangeSpec) : _root_.Go.OpenSpec := { _root_.Go.OpenSpec.ofChange s with cond := some uptoSmall }

/-- 'astrolabelaw17.VerifyRegisters', WHERE WHAT IT READS IS OF BULK AT MOST 1048576: true; the input reads as it did. -/
def verifyRegistersUptoRow : OpenClaim := { program := "ytceadfkjknjaoaadoor", sum := "83756dbbb76e1cf0e1dab8cec88842a4bec2173cab920f5edb8fa289591c75de", func := "astrolabe/astrolabelaw17.VerifyRegisters", spec := "verifyRegisters", unfollowed := true, recurses := true, named := ["astrolabe/verify.rows"], apart := false, laid := [("astrolabe/verify.rows", laid_astrolabe_verify_rows)], narrowed := true }
def VerifyRegistersUptoSaid : Prop := verifyRegistersUptoRow.holds Tryd.pinned (OpenSpec.upto verifyRegistersSpec)

/-- 'astrolabelaw17.VerifyCut', WHERE WHAT IT READS IS OF BULK AT MOST 1048576: true; the input reads as it did. -/
def verifyCutUptoRow : OpenClaim := { program := "ytceadfkjknjaoaadoor", sum := "83756dbbb76e1cf0e1dab8cec88842a4bec2173cab920f5edb8fa289591c75de", func := "astrolabe/astrolabelaw17.VerifyCut", spec := "verifyCut", unfollowed := true, recurses := true, named := ["astrolabe/verify.rows"], apart := false, laid := [("astrolabe/verify.rows", laid_astrolabe_verify_rows)], narrowed := true }
def VerifyCutUptoSaid : Prop := verifyCutUptoRow.holds Tryd.pinned (OpenSpec.upto verifyCutSpec)

/-- 'astrolabelaw17.VerifyNumbers', WHERE WHAT IT READS IS OF BULK AT MOST 1048576: true; the input reads as it did. -/
def verifyNumbersUptoRow : OpenClaim := { program := "ytceadfkjknjaoaadoor", sum := "83756dbbb76e1cf0e1dab8cec88842a4bec2173cab920f5edb8fa289591c75de", func := "astrolabe/astrolabelaw17.VerifyNumbers", spec := "verifyNumbers", unfollowed := true, recurses := true, named := ["astrolabe/verify.rows"], apart := false, laid := [("astrolabe/verify.rows", laid_astrolabe_verify_rows)], narrowed := true }
def VerifyNumbersUptoSaid : Prop := verifyNumbersUptoRow.holds Tryd.pinned (OpenSpec.upto verifyNumbersSpec)

end Rows
end Go.Proofs.YtceadfkjknjaoaaDoor
