/-
  DERIVED. GIVEN WITH THE SEED: THE CARDS: each row of YtokgmpjblnpjmaaGreatDoorRows.lean that lists a variable, with what it lists TIED to the program's text (the seventh form; the later family's looks); each row that meets fmt, with fmt's text TOLD by the authors' own Lean function (tested against real Go, not proved from fmt's source: count such statements apart). THE CARD IS WHAT COUNTS. Prove the row's statement (the work); the ties are given (YtokgmpjblnpjmaaGreatDoorTie.lean); close each card by the builder's one call (the guide's Derived/Test/ToyasCard.lean, 'card_holds'). Laid BY PROGRAM, IN A SANDBOX (cutbox-door.mjs). By AI agents, Wed Nov 11 2026. No macro, syntax, notation, axiom, sorry.
-/
import Derived.Test.YtokgmpjblnpjmaaGreatDoorRows
import GoSem.ClaimSeven
namespace Go.Proofs.YtokgmpjblnpjmaaGreatDoor
namespace Rows

/-- THE TIED CARD OF 'sextantlaw15.RecordPlays'. -/
def recordPlaysCard : Claim7 := { stood := { row := recordPlaysRow, standIns := [], harness := (true, "774b633687093d3b9719089e7c856d9f3cb8b1d5d7e0832cc54c4f9899da7fdf"), looks := false }, kinds := [], alts := [], laidByText := true, laidKinds := [.data, .pinned], laidTests := true, laidLooks := .later }
def RecordPlaysCardSaid : Prop := Claim7.holds Tryz.pinned (.plain (OpenSpec.ofChange recordPlaysSpec)) recordPlaysCard

/-- THE TIED CARD OF 'sextantlaw15.RecordChain'. -/
def recordChainCard : Claim7 := { stood := { row := recordChainRow, standIns := [], harness := (true, "774b633687093d3b9719089e7c856d9f3cb8b1d5d7e0832cc54c4f9899da7fdf"), looks := false }, kinds := [], alts := [], laidByText := true, laidKinds := [.data, .pinned], laidTests := true, laidLooks := .later }
def RecordChainCardSaid : Prop := Claim7.holds Tryz.pinned (.plain (OpenSpec.ofChange recordChainSpec)) recordChainCard

/-- THE TIED CARD OF 'sextantlaw15.RecordNil'. -/
def recordNilCard : Claim7 := { stood := { row := recordNilRow, standIns := [], harness := (true, "774b633687093d3b9719089e7c856d9f3cb8b1d5d7e0832cc54c4f9899da7fdf"), looks := false }, kinds := [], alts := [], laidByText := true, laidKinds := [.data, .pinned], laidTests := true, laidLooks := .later }
def RecordNilCardSaid : Prop := Claim7.holds Tryz.pinned (.plain (OpenSpec.ofChange recordNilSpec)) recordNilCard

/-- THE SECOND FORM's CARD OF 'sextantlaw15.RecordPlays'. -/
def recordPlaysUptoCard : Claim7 := { stood := { row := recordPlaysUptoRow, standIns := [], harness := (true, "774b633687093d3b9719089e7c856d9f3cb8b1d5d7e0832cc54c4f9899da7fdf"), looks := false }, kinds := [], alts := [], laidByText := true, laidKinds := [.data, .pinned], laidTests := true, laidLooks := .later }
def RecordPlaysUptoCardSaid : Prop := Claim7.holds Tryz.pinned (.plain (OpenSpec.upto recordPlaysSpec)) recordPlaysUptoCard

/-- THE SECOND FORM's CARD OF 'sextantlaw15.RecordChain'. -/
def recordChainUptoCard : Claim7 := { stood := { row := recordChainUptoRow, standIns := [], harness := (true, "774b633687093d3b9719089e7c856d9f3cb8b1d5d7e0832cc54c4f9899da7fdf"), looks := false }, kinds := [], alts := [], laidByText := true, laidKinds := [.data, .pinned], laidTests := true, laidLooks := .later }
def RecordChainUptoCardSaid : Prop := Claim7.holds Tryz.pinned (.plain (OpenSpec.upto recordChainSpec)) recordChainUptoCard

/-- THE SECOND FORM's CARD OF 'sextantlaw15.RecordNil'. -/
def recordNilUptoCard : Claim7 := { stood := { row := recordNilUptoRow, standIns := [], harness := (true, "774b633687093d3b9719089e7c856d9f3cb8b1d5d7e0832cc54c4f9899da7fdf"), looks := false }, kinds := [], alts := [], laidByText := true, laidKinds := [.data, .pinned], laidTests := true, laidLooks := .later }
def RecordNilUptoCardSaid : Prop := Claim7.holds Tryz.pinned (.plain (OpenSpec.upto recordNilSpec)) recordNilUptoCard
end Rows
end Go.Proofs.YtokgmpjblnpjmaaGreatDoor
