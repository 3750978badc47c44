/-
  DERIVED. GIVEN WITH THE SEED: THE CARDS: each row of YtdpakekdbkpdfaaGreatDoorRows.lean that lists a variable, with what it lists TIED to the program's text (the seventh form; the later family's looks); each row that meets fmt, with fmt's text TOLD by the authors' own Lean function (tested against real Go, not proved from fmt's source: count such statements apart). THE CARD IS WHAT COUNTS. Prove the row's statement (the work); the ties are given (YtdpakekdbkpdfaaGreatDoorTie.lean); close each card by the builder's one call (the guide's Derived/Test/ToyasCard.lean, 'card_holds'). Laid BY PROGRAM, IN A SANDBOX (cutbox-door.mjs). By AI agents, Wed Nov 11 2026. No macro, syntax, notation, axiom, sorry.
-/
import Derived.Test.YtdpakekdbkpdfaaGreatDoorRows
import GoSem.ClaimSeven
namespace Go.Proofs.YtdpakekdbkpdfaaGreatDoor
namespace Rows

/-- THE TIED CARD OF 'sextantlaw16.CondTypes'. -/
def condTypesCard : Claim7 := { stood := { row := condTypesRow, standIns := [], harness := (true, "c0f898346f125f25020d5853f8eb2985baf56b3a95d7a7cb98ccdf3962300396"), looks := false }, kinds := [], alts := [], laidByText := true, laidKinds := [.data, .data, .data, .data, .pinned], laidTests := true, laidLooks := .later }
def CondTypesCardSaid : Prop := Claim7.holds Tryz.pinned (.plain (OpenSpec.ofChange condTypesSpec)) condTypesCard

/-- THE TIED CARD OF 'sextantlaw16.CondParts'. -/
def condPartsCard : Claim7 := { stood := { row := condPartsRow, standIns := [], harness := (true, "c0f898346f125f25020d5853f8eb2985baf56b3a95d7a7cb98ccdf3962300396"), looks := false }, kinds := [], alts := [], laidByText := true, laidKinds := [.data, .data, .data, .data, .pinned], laidTests := true, laidLooks := .later }
def CondPartsCardSaid : Prop := Claim7.holds Tryz.pinned (.plain (OpenSpec.ofChange condPartsSpec)) condPartsCard

/-- THE TIED CARD OF 'sextantlaw16.CondTells'. -/
def condTellsCard : Claim7 := { stood := { row := condTellsRow, standIns := [], harness := (true, "c0f898346f125f25020d5853f8eb2985baf56b3a95d7a7cb98ccdf3962300396"), looks := false }, kinds := [], alts := [], laidByText := true, laidKinds := [.data, .data, .data, .data, .pinned], laidTests := true, laidLooks := .later }
def CondTellsCardSaid : Prop := Claim7.holds Tryz.pinned (.plain (OpenSpec.ofChange condTellsSpec)) condTellsCard

/-- THE TIED CARD OF 'sextantlaw16.CondFirst'. -/
def condFirstCard : Claim7 := { stood := { row := condFirstRow, standIns := [], harness := (true, "c0f898346f125f25020d5853f8eb2985baf56b3a95d7a7cb98ccdf3962300396"), looks := false }, kinds := [], alts := [], laidByText := true, laidKinds := [.data, .data, .data, .data, .pinned], laidTests := true, laidLooks := .later }
def CondFirstCardSaid : Prop := Claim7.holds Tryz.pinned (.plain (OpenSpec.ofChange condFirstSpec)) condFirstCard

/-- THE TIED CARD OF 'sextantlaw16.CondTree'. -/
def condTreeCard : Claim7 := { stood := { row := condTreeRow, standIns := [], harness := (true, "c0f898346f125f25020d5853f8eb2985baf56b3a95d7a7cb98ccdf3962300396"), looks := false }, kinds := [], alts := [], laidByText := true, laidKinds := [.data, .data, .data, .data, .pinned], laidTests := true, laidLooks := .later }
def CondTreeCardSaid : Prop := Claim7.holds Tryz.pinned (.plain (OpenSpec.ofChange condTreeSpec)) condTreeCard

/-- THE SECOND FORM's CARD OF 'sextantlaw16.CondTypes'. -/
def condTypesUptoCard : Claim7 := { stood := { row := condTypesUptoRow, standIns := [], harness := (true, "c0f898346f125f25020d5853f8eb2985baf56b3a95d7a7cb98ccdf3962300396"), looks := false }, kinds := [], alts := [], laidByText := true, laidKinds := [.data, .data, .data, .data, .pinned], laidTests := true, laidLooks := .later }
def CondTypesUptoCardSaid : Prop := Claim7.holds Tryz.pinned (.plain (OpenSpec.upto condTypesSpec)) condTypesUptoCard

/-- THE SECOND FORM's CARD OF 'sextantlaw16.CondParts'. -/
def condPartsUptoCard : Claim7 := { stood := { row := condPartsUptoRow, standIns := [], harness := (true, "c0f898346f125f25020d5853f8eb2985baf56b3a95d7a7cb98ccdf3962300396"), looks := false }, kinds := [], alts := [], laidByText := true, laidKinds := [.data, .data, .data, .data, .pinned], laidTests := true, laidLooks := .later }
def CondPartsUptoCardSaid : Prop := Claim7.holds Tryz.pinned (.plain (OpenSpec.upto condPartsSpec)) condPartsUptoCard

/-- THE SECOND FORM's CARD OF 'sextantlaw16.CondTells'. -/
def condTellsUptoCard : Claim7 := { stood := { row := condTellsUptoRow, standIns := [], harness := (true, "c0f898346f125f25020d5853f8eb2985baf56b3a95d7a7cb98ccdf3962300396"), looks := false }, kinds := [], alts := [], laidByText := true, laidKinds := [.data, .data, .data, .data, .pinned], laidTests := true, laidLooks := .later }
def CondTellsUptoCardSaid : Prop := Claim7.holds Tryz.pinned (.plain (OpenSpec.upto condTellsSpec)) condTellsUptoCard

/-- THE SECOND FORM's CARD OF 'sextantlaw16.CondFirst'. -/
def condFirstUptoCard : Claim7 := { stood := { row := condFirstUptoRow, standIns := [], harness := (true, "c0f898346f125f25020d5853f8eb2985baf56b3a95d7a7cb98ccdf3962300396"), looks := false }, kinds := [], alts := [], laidByText := true, laidKinds := [.data, .data, .data, .data, .pinned], laidTests := true, laidLooks := .later }
def CondFirstUptoCardSaid : Prop := Claim7.holds Tryz.pinned (.plain (OpenSpec.upto condFirstSpec)) condFirstUptoCard

/-- THE SECOND FORM's CARD OF 'sextantlaw16.CondTree'. -/
def condTreeUptoCard : Claim7 := { stood := { row := condTreeUptoRow, standIns := [], harness := (true, "c0f898346f125f25020d5853f8eb2985baf56b3a95d7a7cb98ccdf3962300396"), looks := false }, kinds := [], alts := [], laidByText := true, laidKinds := [.data, .data, .data, .data, .pinned], laidTests := true, laidLooks := .later }
def CondTreeUptoCardSaid : Prop := Claim7.holds Tryz.pinned (.plain (OpenSpec.upto condTreeSpec)) condTreeUptoCard
end Rows
end Go.Proofs.YtdpakekdbkpdfaaGreatDoor
