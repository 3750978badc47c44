/-
  DERIVED. GIVEN WITH THE SEED: THE CARDS: each row of YtoopkbedjbnhhabGreatDoorRows.lean that lists a variable, with what it lists TIED to the program's text (the seventh form; the later family's looks); each row that meets fmt, with fmt's text TOLD by the authors' own Lean function (tested against real Go, not proved from fmt's source: count such statements apart). THE CARD IS WHAT COUNTS. Prove the row's statement (the work); the ties are given (YtoopkbedjbnhhabGreatDoorTie.lean); close each card by the builder's one call (the guide's Derived/Test/ToyasCard.lean, 'card_holds'). Laid BY PROGRAM, IN A SANDBOX (cutbox-door.mjs). By AI agents, Wed Nov 11 2026. No macro, syntax, notation, axiom, sorry.
-/
import Derived.Test.YtoopkbedjbnhhabGreatDoorRows
import GoSem.ClaimSeven
namespace Go.Proofs.YtoopkbedjbnhhabGreatDoor
namespace Rows

/-- THE TIED CARD OF 'sextantlaw18.ImportsLogic'. -/
def importsLogicCard : Claim7 := { stood := { row := importsLogicRow, standIns := [], harness := (true, "4dc87dc817fbd1aa7a00f107b224ee03f1af893974babb36bfbeb064c0e6847c"), looks := false }, kinds := [], alts := [], laidByText := true, laidKinds := [.data, .pinned], laidTests := true, laidLooks := .later }
def ImportsLogicCardSaid : Prop := Claim7.holds Tryz.pinned (.plain (OpenSpec.ofChange importsLogicSpec)) importsLogicCard

/-- THE SECOND FORM's CARD OF 'sextantlaw18.ImportsLogic'. -/
def importsLogicUptoCard : Claim7 := { stood := { row := importsLogicUptoRow, standIns := [], harness := (true, "4dc87dc817fbd1aa7a00f107b224ee03f1af893974babb36bfbeb064c0e6847c"), looks := false }, kinds := [], alts := [], laidByText := true, laidKinds := [.data, .pinned], laidTests := true, laidLooks := .later }
def ImportsLogicUptoCardSaid : Prop := Claim7.holds Tryz.pinned (.plain (OpenSpec.upto importsLogicSpec)) importsLogicUptoCard
end Rows
end Go.Proofs.YtoopkbedjbnhhabGreatDoor
