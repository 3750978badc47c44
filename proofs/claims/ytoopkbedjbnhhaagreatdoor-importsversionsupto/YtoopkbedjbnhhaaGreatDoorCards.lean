/-
  DERIVED. GIVEN WITH THE SEED: THE CARDS: each row of YtoopkbedjbnhhaaGreatDoorRows.lean that lists a variable, with what it lists TIED to the program's text (the seventh form; the later family's looks); each row that meets fmt, with fmt's text TOLD by the authors' own Lean function (tested against real Go, not proved from fmt's source: count such statements apart). THE CARD IS WHAT COUNTS. Prove the row's statement (the work); the ties are given (YtoopkbedjbnhhaaGreatDoorTie.lean); close each card by the builder's one call (the guide's Derived/Test/ToyasCard.lean, 'card_holds'). Laid BY PROGRAM, IN A SANDBOX (cutbox-door.mjs). By AI agents, Wed Nov 11 2026. No macro, syntax, notation, axiom, sorry.
-/
import Derived.Test.YtoopkbedjbnhhaaGreatDoorRows
import GoSem.ClaimSeven
namespace Go.Proofs.YtoopkbedjbnhhaaGreatDoor
namespace Rows

/-- THE TIED CARD OF 'sextantlaw18.ImportsReads'. -/
def importsReadsCard : Claim7 := { stood := { row := importsReadsRow, standIns := [], harness := (true, "38950c600a54ec0530f8e1bd4e7f91af82de5cc0e49cbe8f81adb78ecf2a138f"), looks := false }, kinds := [], alts := [], laidByText := true, laidKinds := [.data, .pinned], laidTests := true, laidLooks := .later }
def ImportsReadsCardSaid : Prop := Claim7.holds Tryz.pinned (.plain (OpenSpec.ofChange importsReadsSpec)) importsReadsCard

/-- THE TIED CARD OF 'sextantlaw18.ImportsVersions'. -/
def importsVersionsCard : Claim7 := { stood := { row := importsVersionsRow, standIns := [], harness := (true, "38950c600a54ec0530f8e1bd4e7f91af82de5cc0e49cbe8f81adb78ecf2a138f"), looks := false }, kinds := [], alts := [], laidByText := true, laidKinds := [.data, .pinned], laidTests := true, laidLooks := .later }
def ImportsVersionsCardSaid : Prop := Claim7.holds Tryz.pinned (.plain (OpenSpec.ofChange importsVersionsSpec)) importsVersionsCard

/-- THE TIED CARD OF 'sextantlaw18.ImportsAhead'. -/
def importsAheadCard : Claim7 := { stood := { row := importsAheadRow, standIns := [], harness := (true, "38950c600a54ec0530f8e1bd4e7f91af82de5cc0e49cbe8f81adb78ecf2a138f"), looks := false }, kinds := [], alts := [], laidByText := true, laidKinds := [.data, .pinned], laidTests := true, laidLooks := .later }
def ImportsAheadCardSaid : Prop := Claim7.holds Tryz.pinned (.plain (OpenSpec.ofChange importsAheadSpec)) importsAheadCard

/-- THE SECOND FORM's CARD OF 'sextantlaw18.ImportsReads'. -/
def importsReadsUptoCard : Claim7 := { stood := { row := importsReadsUptoRow, standIns := [], harness := (true, "38950c600a54ec0530f8e1bd4e7f91af82de5cc0e49cbe8f81adb78ecf2a138f"), looks := false }, kinds := [], alts := [], laidByText := true, laidKinds := [.data, .pinned], laidTests := true, laidLooks := .later }
def ImportsReadsUptoCardSaid : Prop := Claim7.holds Tryz.pinned (.plain (OpenSpec.upto importsReadsSpec)) importsReadsUptoCard

/-- THE SECOND FORM's CARD OF 'sextantlaw18.ImportsVersions'. -/
def importsVersionsUptoCard : Claim7 := { stood := { row := importsVersionsUptoRow, standIns := [], harness := (true, "38950c600a54ec0530f8e1bd4e7f91af82de5cc0e49cbe8f81adb78ecf2a138f"), looks := false }, kinds := [], alts := [], laidByText := true, laidKinds := [.data, .pinned], laidTests := true, laidLooks := .later }
def ImportsVersionsUptoCardSaid : Prop := Claim7.holds Tryz.pinned (.plain (OpenSpec.upto importsVersionsSpec)) importsVersionsUptoCard

/-- THE SECOND FORM's CARD OF 'sextantlaw18.ImportsAhead'. -/
def importsAheadUptoCard : Claim7 := { stood := { row := importsAheadUptoRow, standIns := [], harness := (true, "38950c600a54ec0530f8e1bd4e7f91af82de5cc0e49cbe8f81adb78ecf2a138f"), looks := false }, kinds := [], alts := [], laidByText := true, laidKinds := [.data, .pinned], laidTests := true, laidLooks := .later }
def ImportsAheadUptoCardSaid : Prop := Claim7.holds Tryz.pinned (.plain (OpenSpec.upto importsAheadSpec)) importsAheadUptoCard
end Rows
end Go.Proofs.YtoopkbedjbnhhaaGreatDoor
