/-
  DERIVED. GIVEN WITH THE SEED: THE CARDS: each row of YtbhdnpbbmpemnaaGreatDoorRows.lean that lists a variable, with what it lists TIED to the program's text (the seventh form; the later family's looks); each row that meets fmt, with fmt's text TOLD by the authors' own Lean function (tested against real Go, not proved from fmt's source: count such statements apart). THE CARD IS WHAT COUNTS. Prove the row's statement (the work); the ties are given (YtbhdnpbbmpemnaaGreatDoorTie.lean); close each card by the builder's one call (the guide's Derived/Test/ToyasCard.lean, 'card_holds'). Laid BY PROGRAM, IN A SANDBOX (cutbox-door.mjs). By AI agents, Wed Nov 11 2026. No macro, syntax, notation, axiom, sorry.
-/
import Derived.Test.YtbhdnpbbmpemnaaGreatDoorRows
import GoSem.ClaimSeven
namespace Go.Proofs.YtbhdnpbbmpemnaaGreatDoor
namespace Rows

/-- THE TIED CARD OF 'sextantlaw05.BytevecLists'. -/
def bytevecListsCard : Claim7 := { stood := { row := bytevecListsRow, standIns := [], harness := (true, "015b70f0ae612648e98220a0fe2d483b5afeb76216f8eaf2fc202245f295d2f6"), looks := false }, kinds := [], alts := [], laidByText := true, laidKinds := [.data, .pinned], laidTests := true, laidLooks := .later }
def BytevecListsCardSaid : Prop := Claim7.holds Tryz.pinned (.plain (OpenSpec.ofChange bytevecListsSpec)) bytevecListsCard

/-- THE SECOND FORM's CARD OF 'sextantlaw05.BytevecLists'. -/
def bytevecListsUptoCard : Claim7 := { stood := { row := bytevecListsUptoRow, standIns := [], harness := (true, "015b70f0ae612648e98220a0fe2d483b5afeb76216f8eaf2fc202245f295d2f6"), looks := false }, kinds := [], alts := [], laidByText := true, laidKinds := [.data, .pinned], laidTests := true, laidLooks := .later }
def BytevecListsUptoCardSaid : Prop := Claim7.holds Tryz.pinned (.plain (OpenSpec.upto bytevecListsSpec)) bytevecListsUptoCard
end Rows
end Go.Proofs.YtbhdnpbbmpemnaaGreatDoor
