/-
  DERIVED. GIVEN WITH THE SEED: THE CARDS: each row of YtofbejppkldhnaaGreatDoorRows.lean that lists a variable, with what it lists TIED to the program's text (the seventh form; the later family's looks); each row that meets fmt, with fmt's text TOLD by the authors' own Lean function (tested against real Go, not proved from fmt's source: count such statements apart). THE CARD IS WHAT COUNTS. Prove the row's statement (the work); the ties are given (YtofbejppkldhnaaGreatDoorTie.lean); close each card by the builder's one call (the guide's Derived/Test/ToyasCard.lean, 'card_holds'). Laid BY PROGRAM, IN A SANDBOX (cutbox-door.mjs). By AI agents, Wed Nov 11 2026. No macro, syntax, notation, axiom, sorry.
-/
import Derived.Test.YtofbejppkldhnaaGreatDoorRows
import GoSem.ClaimSeven
namespace Go.Proofs.YtofbejppkldhnaaGreatDoor
namespace Rows

/-- THE TIED CARD OF 'sextantlaw11.ListsFound'. -/
def listsFoundCard : Claim7 := { stood := { row := listsFoundRow, standIns := [], harness := (true, "3ee58ca89e763291a0837525ea773aeef89cafa917d1fe7b2ddb05a728f7f8a6"), looks := false }, kinds := [], alts := [], laidByText := true, laidKinds := [.data, .pinned], laidTests := true, laidLooks := .later }
def ListsFoundCardSaid : Prop := Claim7.holds Tryz.pinned (.plain (OpenSpec.ofChange listsFoundSpec)) listsFoundCard

/-- THE TIED CARD OF 'sextantlaw11.ListsSorted'. -/
def listsSortedCard : Claim7 := { stood := { row := listsSortedRow, standIns := [], harness := (true, "3ee58ca89e763291a0837525ea773aeef89cafa917d1fe7b2ddb05a728f7f8a6"), looks := false }, kinds := [], alts := [], laidByText := true, laidKinds := [.data, .pinned], laidTests := true, laidLooks := .later }
def ListsSortedCardSaid : Prop := Claim7.holds Tryz.pinned (.plain (OpenSpec.ofChange listsSortedSpec)) listsSortedCard

/-- THE TIED CARD OF 'sextantlaw11.ListsOrder'. -/
def listsOrderCard : Claim7 := { stood := { row := listsOrderRow, standIns := [], harness := (true, "3ee58ca89e763291a0837525ea773aeef89cafa917d1fe7b2ddb05a728f7f8a6"), looks := false }, kinds := [], alts := [], laidByText := true, laidKinds := [.data, .pinned], laidTests := true, laidLooks := .later }
def ListsOrderCardSaid : Prop := Claim7.holds Tryz.pinned (.plain (OpenSpec.ofChange listsOrderSpec)) listsOrderCard

/-- THE SECOND FORM's CARD OF 'sextantlaw11.ListsFound'. -/
def listsFoundUptoCard : Claim7 := { stood := { row := listsFoundUptoRow, standIns := [], harness := (true, "3ee58ca89e763291a0837525ea773aeef89cafa917d1fe7b2ddb05a728f7f8a6"), looks := false }, kinds := [], alts := [], laidByText := true, laidKinds := [.data, .pinned], laidTests := true, laidLooks := .later }
def ListsFoundUptoCardSaid : Prop := Claim7.holds Tryz.pinned (.plain (OpenSpec.upto listsFoundSpec)) listsFoundUptoCard

/-- THE SECOND FORM's CARD OF 'sextantlaw11.ListsSorted'. -/
def listsSortedUptoCard : Claim7 := { stood := { row := listsSortedUptoRow, standIns := [], harness := (true, "3ee58ca89e763291a0837525ea773aeef89cafa917d1fe7b2ddb05a728f7f8a6"), looks := false }, kinds := [], alts := [], laidByText := true, laidKinds := [.data, .pinned], laidTests := true, laidLooks := .later }
def ListsSortedUptoCardSaid : Prop := Claim7.holds Tryz.pinned (.plain (OpenSpec.upto listsSortedSpec)) listsSortedUptoCard

/-- THE SECOND FORM's CARD OF 'sextantlaw11.ListsOrder'. -/
def listsOrderUptoCard : Claim7 := { stood := { row := listsOrderUptoRow, standIns := [], harness := (true, "3ee58ca89e763291a0837525ea773aeef89cafa917d1fe7b2ddb05a728f7f8a6"), looks := false }, kinds := [], alts := [], laidByText := true, laidKinds := [.data, .pinned], laidTests := true, laidLooks := .later }
def ListsOrderUptoCardSaid : Prop := Claim7.holds Tryz.pinned (.plain (OpenSpec.upto listsOrderSpec)) listsOrderUptoCard
end Rows
end Go.Proofs.YtofbejppkldhnaaGreatDoor
