/-
  DERIVED. GIVEN WITH THE SEED: THE CARDS: each row of YtpfmlfcaadnnpaaDoorRows.lean that lists a variable, with what it lists TIED to the program's text (the seventh form; the later family's looks); each row that meets fmt, with fmt's text TOLD by the authors' own Lean function (tested against real Go, not proved from fmt's source: count such statements apart). THE CARD IS WHAT COUNTS. Prove the row's statement (the work); the ties are given (YtpfmlfcaadnnpaaDoorTie.lean); close each card by the builder's one call (the guide's Derived/Test/ToyasCard.lean, 'card_holds'). Laid BY PROGRAM, IN A SANDBOX (cutbox-door.mjs). By AI agents, Wed Nov 11 2026. No macro, syntax, notation, axiom, sorry.
-/
import Derived.Test.YtpfmlfcaadnnpaaDoorRows
import GoSem.ClaimSeven
namespace Go.Proofs.YtpfmlfcaadnnpaaDoor
namespace Rows

/-- THE TIED CARD OF 'astrolabelaw05.ParseBrackets'. -/
def parseBracketsCard : Claim7 := { stood := { row := parseBracketsRow, standIns := [], harness := (true, "8c85e90a059f21993dcfe6a96dd13038fc4f314ff577b5ea2fd89d1b16adf930"), looks := true }, kinds := [], alts := [], laidByText := true, laidKinds := [.data], laidTests := true, laidLooks := .later }
def ParseBracketsCardSaid : Prop := Claim7.holds Tryd.pinned (.plain (OpenSpec.ofChange parseBracketsSpec)) parseBracketsCard

/-- THE TIED CARD OF 'astrolabelaw05.ParseSpoiled'. -/
def parseSpoiledCard : Claim7 := { stood := { row := parseSpoiledRow, standIns := [], harness := (true, "8c85e90a059f21993dcfe6a96dd13038fc4f314ff577b5ea2fd89d1b16adf930"), looks := true }, kinds := [], alts := [], laidByText := true, laidKinds := [.data], laidTests := true, laidLooks := .later }
def ParseSpoiledCardSaid : Prop := Claim7.holds Tryd.pinned (.plain (OpenSpec.ofChange parseSpoiledSpec)) parseSpoiledCard

/-- THE SECOND FORM's CARD OF 'astrolabelaw05.ParseBrackets'. -/
def parseBracketsUptoCard : Claim7 := { stood := { row := parseBracketsUptoRow, standIns := [], harness := (true, "8c85e90a059f21993dcfe6a96dd13038fc4f314ff577b5ea2fd89d1b16adf930"), looks := true }, kinds := [], alts := [], laidByText := true, laidKinds := [.data], laidTests := true, laidLooks := .later }
def ParseBracketsUptoCardSaid : Prop := Claim7.holds Tryd.pinned (.plain (OpenSpec.upto parseBracketsSpec)) parseBracketsUptoCard

/-- THE SECOND FORM's CARD OF 'astrolabelaw05.ParseSpoiled'. -/
def parseSpoiledUptoCard : Claim7 := { stood := { row := parseSpoiledUptoRow, standIns := [], harness := (true, "8c85e90a059f21993dcfe6a96dd13038fc4f314ff577b5ea2fd89d1b16adf930"), looks := true }, kinds := [], alts := [], laidByText := true, laidKinds := [.data], laidTests := true, laidLooks := .later }
def ParseSpoiledUptoCardSaid : Prop := Claim7.holds Tryd.pinned (.plain (OpenSpec.upto parseSpoiledSpec)) parseSpoiledUptoCard
end Rows
end Go.Proofs.YtpfmlfcaadnnpaaDoor
