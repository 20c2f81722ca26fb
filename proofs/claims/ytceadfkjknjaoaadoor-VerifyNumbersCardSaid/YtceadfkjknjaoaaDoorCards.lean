/-
  DERIVED. GIVEN WITH THE SEED: THE CARDS: each row of YtceadfkjknjaoaaDoorRows.lean that lists a variable, with what it lists TIED to the program's text (the seventh form; the later family's looks); each row that meets fmt, with fmt's text TOLD by the authors' own Lean function (tested against real Go, not proved from fmt's source: count such statements apart). THE CARD IS WHAT COUNTS. Prove the row's statement (the work); the ties are given (YtceadfkjknjaoaaDoorTie.lean); close each card by the builder's one call (the guide's Derived/Test/ToyasCard.lean, 'card_holds'). Laid BY PROGRAM, IN A SANDBOX (cutbox-door.mjs). By AI agents, Wed Nov 11 2026. No macro, syntax, notation, axiom, sorry.
-/
import Derived.Test.YtceadfkjknjaoaaDoorRows
import GoSem.ClaimSeven
namespace Go.Proofs.YtceadfkjknjaoaaDoor
namespace Rows

/-- THE TIED CARD OF 'astrolabelaw17.VerifyRegisters'. -/
def verifyRegistersCard : Claim7 := { stood := { row := verifyRegistersRow, standIns := [], harness := (true, "636e884a11af54c551c7daca6f30b85f4d21544a858d74c5614ddfb7a978427d"), looks := false }, kinds := [], alts := [], laidByText := true, laidKinds := [.data], laidTests := true, laidLooks := .later }
def VerifyRegistersCardSaid : Prop := Claim7.holds Tryd.pinned (.plain (OpenSpec.ofChange verifyRegistersSpec)) verifyRegistersCard

/-- THE TIED CARD OF 'astrolabelaw17.VerifyCut'. -/
def verifyCutCard : Claim7 := { stood := { row := verifyCutRow, standIns := [], harness := (true, "636e884a11af54c551c7daca6f30b85f4d21544a858d74c5614ddfb7a978427d"), looks := false }, kinds := [], alts := [], laidByText := true, laidKinds := [.data], laidTests := true, laidLooks := .later }
def VerifyCutCardSaid : Prop := Claim7.holds Tryd.pinned (.plain (OpenSpec.ofChange verifyCutSpec)) verifyCutCard

/-- THE TIED CARD OF 'astrolabelaw17.VerifyNumbers'. -/
def verifyNumbersCard : Claim7 := { stood := { row := verifyNumbersRow, standIns := [], harness := (true, "636e884a11af54c551c7daca6f30b85f4d21544a858d74c5614ddfb7a978427d"), looks := false }, kinds := [], alts := [], laidByText := true, laidKinds := [.data], laidTests := true, laidLooks := .later }
def VerifyNumbersCardSaid : Prop := Claim7.holds Tryd.pinned (.plain (OpenSpec.ofChange verifyNumbersSpec)) verifyNumbersCard

/-- THE SECOND FORM's CARD OF 'astrolabelaw17.VerifyRegisters'. -/
def verifyRegistersUptoCard : Claim7 := { stood := { row := verifyRegistersUptoRow, standIns := [], harness := (true, "636e884a11af54c551c7daca6f30b85f4d21544a858d74c5614ddfb7a978427d"), looks := false }, kinds := [], alts := [], laidByText := true, laidKinds := [.data], laidTests := true, laidLooks := .later }
def VerifyRegistersUptoCardSaid : Prop := Claim7.holds Tryd.pinned (.plain (OpenSpec.upto verifyRegistersSpec)) verifyRegistersUptoCard

/-- THE SECOND FORM's CARD OF 'astrolabelaw17.VerifyCut'. -/
def verifyCutUptoCard : Claim7 := { stood := { row := verifyCutUptoRow, standIns := [], harness := (true, "636e884a11af54c551c7daca6f30b85f4d21544a858d74c5614ddfb7a978427d"), looks := false }, kinds := [], alts := [], laidByText := true, laidKinds := [.data], laidTests := true, laidLooks := .later }
def VerifyCutUptoCardSaid : Prop := Claim7.holds Tryd.pinned (.plain (OpenSpec.upto verifyCutSpec)) verifyCutUptoCard

/-- THE SECOND FORM's CARD OF 'astrolabelaw17.VerifyNumbers'. -/
def verifyNumbersUptoCard : Claim7 := { stood := { row := verifyNumbersUptoRow, standIns := [], harness := (true, "636e884a11af54c551c7daca6f30b85f4d21544a858d74c5614ddfb7a978427d"), looks := false }, kinds := [], alts := [], laidByText := true, laidKinds := [.data], laidTests := true, laidLooks := .later }
def VerifyNumbersUptoCardSaid : Prop := Claim7.holds Tryd.pinned (.plain (OpenSpec.upto verifyNumbersSpec)) verifyNumbersUptoCard
end Rows
end Go.Proofs.YtceadfkjknjaoaaDoor
