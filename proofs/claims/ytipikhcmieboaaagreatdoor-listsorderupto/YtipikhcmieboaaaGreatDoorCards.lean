/-
  DERIVED. GIVEN WITH THE SEED: THE CARDS: each row of YtipikhcmieboaaaGreatDoorRows.lean that lists a variable, with what it lists TIED to the program's text (the seventh form; the later family's looks); each row that meets fmt, with fmt's text TOLD by the authors' own Lean function (tested against real Go, not proved from fmt's source: count such statements apart). THE CARD IS WHAT COUNTS. Prove the row's statement (the work); the ties are given (YtipikhcmieboaaaGreatDoorTie.lean); close each card by the builder's one call (the guide's Derived/Test/ToyasCard.lean, 'card_holds'). Laid BY PROGRAM, IN A SANDBOX (cutbox-door.mjs). By AI agents, Wed Nov 11 2026. No macro, syntax, notation, axiom, sorry.
-/
import Derived.Test.YtipikhcmieboaaaGreatDoorRows
import GoSem.ClaimSeven
namespace Go.Proofs.YtipikhcmieboaaaGreatDoor
namespace Rows

/-- THE TIED CARD OF 'sextantlaw11.ListsMade'. -/
def listsMadeCard : Claim7 := { stood := { row := listsMadeRow, standIns := [], harness := (true, "d7affcf686a42722ce92b4d9e18d598ead826d355a819aafea5436024c73aefa"), looks := false }, kinds := [], alts := [], laidByText := true, laidKinds := [.data, .pinned], laidTests := true, laidLooks := .later }
def ListsMadeCardSaid : Prop := Claim7.holds Tryz.pinned (.plain (OpenSpec.ofChange listsMadeSpec)) listsMadeCard

/-- THE TIED CARD OF 'sextantlaw11.ListsFound'. -/
def listsFoundCard : Claim7 := { stood := { row := listsFoundRow, standIns := [], harness := (true, "d7affcf686a42722ce92b4d9e18d598ead826d355a819aafea5436024c73aefa"), looks := false }, kinds := [], alts := [], laidByText := true, laidKinds := [.data, .pinned], laidTests := true, laidLooks := .later }
def ListsFoundCardSaid : Prop := Claim7.holds Tryz.pinned (.plain (OpenSpec.ofChange listsFoundSpec)) listsFoundCard

/-- THE TIED CARD OF 'sextantlaw11.ListsOrder'. -/
def listsOrderCard : Claim7 := { stood := { row := listsOrderRow, standIns := [], harness := (true, "d7affcf686a42722ce92b4d9e18d598ead826d355a819aafea5436024c73aefa"), looks := false }, kinds := [], alts := [], laidByText := true, laidKinds := [.data, .pinned], laidTests := true, laidLooks := .later }
def ListsOrderCardSaid : Prop := Claim7.holds Tryz.pinned (.plain (OpenSpec.ofChange listsOrderSpec)) listsOrderCard

/-- THE TIED CARD OF 'sextantlaw11.ListsStable'. -/
def listsStableCard : Claim7 := { stood := { row := listsStableRow, standIns := [], harness := (true, "d7affcf686a42722ce92b4d9e18d598ead826d355a819aafea5436024c73aefa"), looks := false }, kinds := [], alts := [], laidByText := true, laidKinds := [.data, .pinned], laidTests := true, laidLooks := .later }
def ListsStableCardSaid : Prop := Claim7.holds Tryz.pinned (.plain (OpenSpec.ofChange listsStableSpec)) listsStableCard

/-- THE SECOND FORM's CARD OF 'sextantlaw11.ListsMade'. -/
def listsMadeUptoCard : Claim7 := { stood := { row := listsMadeUptoRow, standIns := [], harness := (true, "d7affcf686a42722ce92b4d9e18d598ead826d355a819aafea5436024c73aefa"), looks := false }, kinds := [], alts := [], laidByText := true, laidKinds := [.data, .pinned], laidTests := true, laidLooks := .later }
def ListsMadeUptoCardSaid : Prop := Claim7.holds Tryz.pinned (.plain (OpenSpec.upto listsMadeSpec)) listsMadeUptoCard

/-- THE SECOND FORM's CARD OF 'sextantlaw11.ListsFound'. -/
def listsFoundUptoCard : Claim7 := { stood := { row := listsFoundUptoRow, standIns := [], harness := (true, "d7affcf686a42722ce92b4d9e18d598ead826d355a819aafea5436024c73aefa"), looks := false }, kinds := [], alts := [], laidByText := true, laidKinds := [.data, .pinned], laidTests := true, laidLooks := .later }
def ListsFoundUptoCardSaid : Prop := Claim7.holds Tryz.pinned (.plain (OpenSpec.upto listsFoundSpec)) listsFoundUptoCard

/-- THE SECOND FORM's CARD OF 'sextantlaw11.ListsOrder'. -/
def listsOrderUptoCard : Claim7 := { stood := { row := listsOrderUptoRow, standIns := [], harness := (true, "d7affcf686a42722ce92b4d9e18d598ead826d355a819aafea5436024c73aefa"), looks := false }, kinds := [], alts := [], laidByText := true, laidKinds := [.data, .pinned], laidTests := true, laidLooks := .later }
def ListsOrderUptoCardSaid : Prop := Claim7.holds Tryz.pinned (.plain (OpenSpec.upto listsOrderSpec)) listsOrderUptoCard

/-- THE SECOND FORM's CARD OF 'sextantlaw11.ListsStable'. -/
def listsStableUptoCard : Claim7 := { stood := { row := listsStableUptoRow, standIns := [], harness := (true, "d7affcf686a42722ce92b4d9e18d598ead826d355a819aafea5436024c73aefa"), looks := false }, kinds := [], alts := [], laidByText := true, laidKinds := [.data, .pinned], laidTests := true, laidLooks := .later }
def ListsStableUptoCardSaid : Prop := Claim7.holds Tryz.pinned (.plain (OpenSpec.upto listsStableSpec)) listsStableUptoCard
end Rows
end Go.Proofs.YtipikhcmieboaaaGreatDoor
