/-
  DERIVED. GIVEN WITH THE SEED: THE CARDS: each row of YtgjohjfehgdgbaaGreatDoorRows.lean that lists a variable, with what it lists TIED to the program's text (the seventh form; the later family's looks); each row that meets fmt, with fmt's text TOLD by the authors' own Lean function (tested against real Go, not proved from fmt's source: count such statements apart). THE CARD IS WHAT COUNTS. Prove the row's statement (the work); the ties are given (YtgjohjfehgdgbaaGreatDoorTie.lean); close each card by the builder's one call (the guide's Derived/Test/ToyasCard.lean, 'card_holds'). Laid BY PROGRAM, IN A SANDBOX (cutbox-door.mjs). By AI agents, Wed Nov 11 2026. No macro, syntax, notation, axiom, sorry.
-/
import Derived.Test.YtgjohjfehgdgbaaGreatDoorRows
import GoSem.ClaimSeven
namespace Go.Proofs.YtgjohjfehgdgbaaGreatDoor
namespace Rows

/-- THE TIED CARD OF 'sextantlaw08.DatumSounds'. -/
def datumSoundsCard : Claim7 := { stood := { row := datumSoundsRow, standIns := [], harness := (true, "518e4971ded9656ef41371ecddb846d98ca9058a6e7034b04b42967e9353f227"), looks := true }, kinds := [], alts := [], laidByText := true, laidKinds := [.data, .data, .data, .data, .sentinel, .sentinel, .pinned], laidTests := true, laidLooks := .later }
def DatumSoundsCardSaid : Prop := Claim7.holds Tryz.pinned (.plain (OpenSpec.ofChange datumSoundsSpec)) datumSoundsCard

/-- THE TIED CARD OF 'sextantlaw08.DatumSteps'. -/
def datumStepsCard : Claim7 := { stood := { row := datumStepsRow, standIns := [], harness := (true, "518e4971ded9656ef41371ecddb846d98ca9058a6e7034b04b42967e9353f227"), looks := true }, kinds := [], alts := [], laidByText := true, laidKinds := [.data, .data, .data, .data, .sentinel, .sentinel, .pinned], laidTests := true, laidLooks := .later }
def DatumStepsCardSaid : Prop := Claim7.holds Tryz.pinned (.plain (OpenSpec.ofChange datumStepsSpec)) datumStepsCard

/-- THE TIED CARD OF 'sextantlaw08.DatumBlanks'. -/
def datumBlanksCard : Claim7 := { stood := { row := datumBlanksRow, standIns := [], harness := (true, "518e4971ded9656ef41371ecddb846d98ca9058a6e7034b04b42967e9353f227"), looks := true }, kinds := [], alts := [], laidByText := true, laidKinds := [.data, .data, .data, .data, .sentinel, .sentinel, .pinned], laidTests := true, laidLooks := .later }
def DatumBlanksCardSaid : Prop := Claim7.holds Tryz.pinned (.plain (OpenSpec.ofChange datumBlanksSpec)) datumBlanksCard

/-- THE TIED CARD OF 'sextantlaw08.DatumQuotes'. -/
def datumQuotesCard : Claim7 := { stood := { row := datumQuotesRow, standIns := [], harness := (true, "518e4971ded9656ef41371ecddb846d98ca9058a6e7034b04b42967e9353f227"), looks := true }, kinds := [], alts := [], laidByText := true, laidKinds := [.data, .data, .data, .data, .sentinel, .sentinel, .pinned], laidTests := true, laidLooks := .later }
def DatumQuotesCardSaid : Prop := Claim7.holds Tryz.pinned (.plain (OpenSpec.ofChange datumQuotesSpec)) datumQuotesCard

/-- THE SECOND FORM's CARD OF 'sextantlaw08.DatumSounds'. -/
def datumSoundsUptoCard : Claim7 := { stood := { row := datumSoundsUptoRow, standIns := [], harness := (true, "518e4971ded9656ef41371ecddb846d98ca9058a6e7034b04b42967e9353f227"), looks := true }, kinds := [], alts := [], laidByText := true, laidKinds := [.data, .data, .data, .data, .sentinel, .sentinel, .pinned], laidTests := true, laidLooks := .later }
def DatumSoundsUptoCardSaid : Prop := Claim7.holds Tryz.pinned (.plain (OpenSpec.upto datumSoundsSpec)) datumSoundsUptoCard

/-- THE SECOND FORM's CARD OF 'sextantlaw08.DatumSteps'. -/
def datumStepsUptoCard : Claim7 := { stood := { row := datumStepsUptoRow, standIns := [], harness := (true, "518e4971ded9656ef41371ecddb846d98ca9058a6e7034b04b42967e9353f227"), looks := true }, kinds := [], alts := [], laidByText := true, laidKinds := [.data, .data, .data, .data, .sentinel, .sentinel, .pinned], laidTests := true, laidLooks := .later }
def DatumStepsUptoCardSaid : Prop := Claim7.holds Tryz.pinned (.plain (OpenSpec.upto datumStepsSpec)) datumStepsUptoCard

/-- THE SECOND FORM's CARD OF 'sextantlaw08.DatumBlanks'. -/
def datumBlanksUptoCard : Claim7 := { stood := { row := datumBlanksUptoRow, standIns := [], harness := (true, "518e4971ded9656ef41371ecddb846d98ca9058a6e7034b04b42967e9353f227"), looks := true }, kinds := [], alts := [], laidByText := true, laidKinds := [.data, .data, .data, .data, .sentinel, .sentinel, .pinned], laidTests := true, laidLooks := .later }
def DatumBlanksUptoCardSaid : Prop := Claim7.holds Tryz.pinned (.plain (OpenSpec.upto datumBlanksSpec)) datumBlanksUptoCard

/-- THE SECOND FORM's CARD OF 'sextantlaw08.DatumQuotes'. -/
def datumQuotesUptoCard : Claim7 := { stood := { row := datumQuotesUptoRow, standIns := [], harness := (true, "518e4971ded9656ef41371ecddb846d98ca9058a6e7034b04b42967e9353f227"), looks := true }, kinds := [], alts := [], laidByText := true, laidKinds := [.data, .data, .data, .data, .sentinel, .sentinel, .pinned], laidTests := true, laidLooks := .later }
def DatumQuotesUptoCardSaid : Prop := Claim7.holds Tryz.pinned (.plain (OpenSpec.upto datumQuotesSpec)) datumQuotesUptoCard
end Rows
end Go.Proofs.YtgjohjfehgdgbaaGreatDoor
