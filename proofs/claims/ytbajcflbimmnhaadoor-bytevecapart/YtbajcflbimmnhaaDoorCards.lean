/-
  DERIVED. GIVEN WITH THE SEED: THE CARDS: each row of YtbajcflbimmnhaaDoorRows.lean that lists a variable, with what it lists TIED to the program's text (the seventh form; the later family's looks); each row that meets fmt, with fmt's text TOLD by the authors' own Lean function (tested against real Go, not proved from fmt's source: count such statements apart). THE CARD IS WHAT COUNTS. Prove the row's statement (the work); the ties are given (YtbajcflbimmnhaaDoorTie.lean); close each card by the builder's one call (the guide's Derived/Test/ToyasCard.lean, 'card_holds'). Laid BY PROGRAM, IN A SANDBOX (cutbox-door.mjs). By AI agents, Wed Nov 11 2026. No macro, syntax, notation, axiom, sorry.
-/
import Derived.Test.YtbajcflbimmnhaaDoorRows
import GoSem.ClaimSeven
namespace Go.Proofs.YtbajcflbimmnhaaDoor
namespace Rows

/-- THE TIED CARD OF 'sextantlaw05.BytevecGets'. -/
def bytevecGetsCard : Claim7 := { stood := { row := bytevecGetsRow, standIns := [], harness := (true, "05ef78880f39690fde9626fb847a7cc8f594c7dbcedd1692db4b134c643f444d"), looks := false }, kinds := [], alts := [], laidByText := true, laidKinds := [.data, .pinned], laidTests := true, laidLooks := .later }
def BytevecGetsCardSaid : Prop := Claim7.holds Tryd.pinned (.plain (OpenSpec.ofChange bytevecGetsSpec)) bytevecGetsCard

/-- THE TIED CARD OF 'sextantlaw05.BytevecEnds'. -/
def bytevecEndsCard : Claim7 := { stood := { row := bytevecEndsRow, standIns := [], harness := (true, "05ef78880f39690fde9626fb847a7cc8f594c7dbcedd1692db4b134c643f444d"), looks := false }, kinds := [], alts := [], laidByText := true, laidKinds := [.data, .pinned], laidTests := true, laidLooks := .later }
def BytevecEndsCardSaid : Prop := Claim7.holds Tryd.pinned (.plain (OpenSpec.ofChange bytevecEndsSpec)) bytevecEndsCard

/-- THE TIED CARD OF 'sextantlaw05.BytevecApart'. -/
def bytevecApartCard : Claim7 := { stood := { row := bytevecApartRow, standIns := [], harness := (true, "05ef78880f39690fde9626fb847a7cc8f594c7dbcedd1692db4b134c643f444d"), looks := false }, kinds := [], alts := [], laidByText := true, laidKinds := [.data, .pinned], laidTests := true, laidLooks := .later }
def BytevecApartCardSaid : Prop := Claim7.holds Tryd.pinned (.plain (OpenSpec.ofChange bytevecApartSpec)) bytevecApartCard

/-- THE SECOND FORM's CARD OF 'sextantlaw05.BytevecGets'. -/
def bytevecGetsUptoCard : Claim7 := { stood := { row := bytevecGetsUptoRow, standIns := [], harness := (true, "05ef78880f39690fde9626fb847a7cc8f594c7dbcedd1692db4b134c643f444d"), looks := false }, kinds := [], alts := [], laidByText := true, laidKinds := [.data, .pinned], laidTests := true, laidLooks := .later }
def BytevecGetsUptoCardSaid : Prop := Claim7.holds Tryd.pinned (.plain (OpenSpec.upto bytevecGetsSpec)) bytevecGetsUptoCard

/-- THE SECOND FORM's CARD OF 'sextantlaw05.BytevecEnds'. -/
def bytevecEndsUptoCard : Claim7 := { stood := { row := bytevecEndsUptoRow, standIns := [], harness := (true, "05ef78880f39690fde9626fb847a7cc8f594c7dbcedd1692db4b134c643f444d"), looks := false }, kinds := [], alts := [], laidByText := true, laidKinds := [.data, .pinned], laidTests := true, laidLooks := .later }
def BytevecEndsUptoCardSaid : Prop := Claim7.holds Tryd.pinned (.plain (OpenSpec.upto bytevecEndsSpec)) bytevecEndsUptoCard

/-- THE SECOND FORM's CARD OF 'sextantlaw05.BytevecApart'. -/
def bytevecApartUptoCard : Claim7 := { stood := { row := bytevecApartUptoRow, standIns := [], harness := (true, "05ef78880f39690fde9626fb847a7cc8f594c7dbcedd1692db4b134c643f444d"), looks := false }, kinds := [], alts := [], laidByText := true, laidKinds := [.data, .pinned], laidTests := true, laidLooks := .later }
def BytevecApartUptoCardSaid : Prop := Claim7.holds Tryd.pinned (.plain (OpenSpec.upto bytevecApartSpec)) bytevecApartUptoCard
end Rows
end Go.Proofs.YtbajcflbimmnhaaDoor
