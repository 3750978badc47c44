/- JoinFactsCondTells -/
import Derived.Test.YtmnlfahgklnpeaaGreatDoorRows
import Derived.Test.YtmnlfahgklnpeaaGreatDoorCards
import Derived.Test.YtmnlfahgklnpeaaGreatDoorTie
import Derived.WalkKit
import Derived.ProofKit
import Derived.MakeChecks
import Derived.SevenTiedAt
import Derived.Deep.DeepHandedRow
namespace Go.Proofs.YtmnlfahgklnpeaaGreatDoor
open Go Go.ChangeShapes Go.WideShapes Go.ChangeAt Go.RowKit
set_option maxRecDepth 100000 in
theorem joinFactsCondTells: joinedFacts Tryz.prog 3 Tryz.f3 (Rows.OpenSpec.upto Rows.condTellsSpec).bare Rows.condTellsUptoRow=true:=by kernel_rfl
