/-
  DERIVED. GIVEN WITH THE SEED: THE CARDS: each row of YtjkpfnghiooblaaGreatDoorRows.lean that lists a variable, with what it lists TIED to the program's text (the seventh form; the later family's looks); each row that meets fmt, with fmt's text TOLD by the authors' own Lean function (tested against real Go, not proved from fmt's source: count such statements apart). THE CARD IS WHAT COUNTS. Prove the row's statement (the work); the ties are given (YtjkpfnghiooblaaGreatDoorTie.lean); close each card by the builder's one call (the guide's Derived/Test/ToyasCard.lean, 'card_holds'). Laid BY PROGRAM, IN A SANDBOX (cutbox-door.mjs). By AI agents, Wed Nov 11 2026. No macro, syntax, notation, axiom, sorry.
-/
import Derived.Test.YtjkpfnghiooblaaGreatDoorRows
import GoSem.ClaimSeven
namespace Go.Proofs.YtjkpfnghiooblaaGreatDoor
namespace Rows

/-- THE TIED CARD OF 'sextanttop.WholeNumbers'. -/
def wholeNumbersCard : Claim7 := { stood := { row := wholeNumbersRow, standIns := [], harness := (true, "7b9bcd04bcff0183504c5b4bb8df5ac10d54601b823135f6af014dc22cf97569"), looks := true }, kinds := [], alts := [], laidByText := true, laidKinds := [.data, .data, .data, .data, .pinned], laidTests := true, laidLooks := .later }
def WholeNumbersCardSaid : Prop := Claim7.holds Tryz.pinned (.plain (OpenSpec.ofChange wholeNumbersSpec)) wholeNumbersCard

/-- THE TIED CARD OF 'sextanttop.WholeCarried'. -/
def wholeCarriedCard : Claim7 := { stood := { row := wholeCarriedRow, standIns := [], harness := (true, "7b9bcd04bcff0183504c5b4bb8df5ac10d54601b823135f6af014dc22cf97569"), looks := true }, kinds := [], alts := [], laidByText := true, laidKinds := [.data, .data, .data, .data, .sentinel, .sentinel, .pinned], laidTests := true, laidLooks := .later }
def WholeCarriedCardSaid : Prop := Claim7.holds Tryz.pinned (.plain (OpenSpec.ofChange wholeCarriedSpec)) wholeCarriedCard

/-- THE SECOND FORM's CARD OF 'sextanttop.WholeNumbers'. -/
def wholeNumbersUptoCard : Claim7 := { stood := { row := wholeNumbersUptoRow, standIns := [], harness := (true, "7b9bcd04bcff0183504c5b4bb8df5ac10d54601b823135f6af014dc22cf97569"), looks := true }, kinds := [], alts := [], laidByText := true, laidKinds := [.data, .data, .data, .data, .pinned], laidTests := true, laidLooks := .later }
def WholeNumbersUptoCardSaid : Prop := Claim7.holds Tryz.pinned (.plain (OpenSpec.upto wholeNumbersSpec)) wholeNumbersUptoCard

/-- THE SECOND FORM's CARD OF 'sextanttop.WholeCarried'. -/
def wholeCarriedUptoCard : Claim7 := { stood := { row := wholeCarriedUptoRow, standIns := [], harness := (true, "7b9bcd04bcff0183504c5b4bb8df5ac10d54601b823135f6af014dc22cf97569"), looks := true }, kinds := [], alts := [], laidByText := true, laidKinds := [.data, .data, .data, .data, .sentinel, .sentinel, .pinned], laidTests := true, laidLooks := .later }
def WholeCarriedUptoCardSaid : Prop := Claim7.holds Tryz.pinned (.plain (OpenSpec.upto wholeCarriedSpec)) wholeCarriedUptoCard
end Rows
end Go.Proofs.YtjkpfnghiooblaaGreatDoor
