/-
  DERIVED. GIVEN WITH THE SEED: THE CARDS: each row of YtabpjchfkbhfpaaGreatDoorRows.lean that lists a variable, with what it lists TIED to the program's text (the seventh form; the later family's looks); each row that meets fmt, with fmt's text TOLD by the authors' own Lean function (tested against real Go, not proved from fmt's source: count such statements apart). THE CARD IS WHAT COUNTS. Prove the row's statement (the work); the ties are given (YtabpjchfkbhfpaaGreatDoorTie.lean); close each card by the builder's one call (the guide's Derived/Test/ToyasCard.lean, 'card_holds'). Laid BY PROGRAM, IN A SANDBOX (cutbox-door.mjs). By AI agents, Wed Nov 11 2026. No macro, syntax, notation, axiom, sorry.
-/
import Derived.Test.YtabpjchfkbhfpaaGreatDoorRows
import GoSem.ClaimSeven
namespace Go.Proofs.YtabpjchfkbhfpaaGreatDoor
namespace Rows

/-- THE TIED CARD OF 'sextantlaw09.WriteTells'. -/
def writeTellsCard : Claim7 := { stood := { row := writeTellsRow, standIns := [], harness := (true, "79973a2af0fba2fcd0fc14a4da859e3b9ac2d286f8e9b305271b59f92c0f04c0"), looks := false }, kinds := [], alts := [], laidByText := true, laidKinds := [.data, .data, .data, .data, .pinned], laidTests := true, laidLooks := .later }
def WriteTellsCardSaid : Prop := Claim7.holds Tryz.pinned (.plain (OpenSpec.ofChange writeTellsSpec)) writeTellsCard

/-- THE SECOND FORM's CARD OF 'sextantlaw09.WriteTells'. -/
def writeTellsUptoCard : Claim7 := { stood := { row := writeTellsUptoRow, standIns := [], harness := (true, "79973a2af0fba2fcd0fc14a4da859e3b9ac2d286f8e9b305271b59f92c0f04c0"), looks := false }, kinds := [], alts := [], laidByText := true, laidKinds := [.data, .data, .data, .data, .pinned], laidTests := true, laidLooks := .later }
def WriteTellsUptoCardSaid : Prop := Claim7.holds Tryz.pinned (.plain (OpenSpec.upto writeTellsSpec)) writeTellsUptoCard
end Rows
end Go.Proofs.YtabpjchfkbhfpaaGreatDoor
