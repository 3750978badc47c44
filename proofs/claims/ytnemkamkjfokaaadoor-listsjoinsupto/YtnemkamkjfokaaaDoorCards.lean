/-
  DERIVED. GIVEN WITH THE SEED: THE CARDS: each row of YtnemkamkjfokaaaDoorRows.lean that lists a variable, with what it lists TIED to the program's text (the seventh form; the later family's looks); each row that meets fmt, with fmt's text TOLD by the authors' own Lean function (tested against real Go, not proved from fmt's source: count such statements apart). THE CARD IS WHAT COUNTS. Prove the row's statement (the work); the ties are given (YtnemkamkjfokaaaDoorTie.lean); close each card by the builder's one call (the guide's Derived/Test/ToyasCard.lean, 'card_holds'). Laid BY PROGRAM, IN A SANDBOX (cutbox-door.mjs). By AI agents, Wed Nov 11 2026. No macro, syntax, notation, axiom, sorry.
-/
import Derived.Test.YtnemkamkjfokaaaDoorRows
import GoSem.ClaimSeven
namespace Go.Proofs.YtnemkamkjfokaaaDoor
namespace Rows

/-- THE TIED CARD OF 'sextantlaw11.ListsJoins'. -/
def listsJoinsCard : Claim7 := { stood := { row := listsJoinsRow, standIns := [], harness := (true, "4294a9e7b84290673af88f743888d198887259424e9bed5407e90566ad4f8fb2"), looks := false }, kinds := [], alts := [], laidByText := true, laidKinds := [.data, .pinned], laidTests := true, laidLooks := .later }
def ListsJoinsCardSaid : Prop := Claim7.holds Tryd.pinned (.plain (OpenSpec.ofChange listsJoinsSpec)) listsJoinsCard

/-- THE SECOND FORM's CARD OF 'sextantlaw11.ListsJoins'. -/
def listsJoinsUptoCard : Claim7 := { stood := { row := listsJoinsUptoRow, standIns := [], harness := (true, "4294a9e7b84290673af88f743888d198887259424e9bed5407e90566ad4f8fb2"), looks := false }, kinds := [], alts := [], laidByText := true, laidKinds := [.data, .pinned], laidTests := true, laidLooks := .later }
def ListsJoinsUptoCardSaid : Prop := Claim7.holds Tryd.pinned (.plain (OpenSpec.upto listsJoinsSpec)) listsJoinsUptoCard
end Rows
end Go.Proofs.YtnemkamkjfokaaaDoor
