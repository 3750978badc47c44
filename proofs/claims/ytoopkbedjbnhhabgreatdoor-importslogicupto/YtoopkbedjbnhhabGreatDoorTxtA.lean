/- TxtA -/
import Derived.Test.YtoopkbedjbnhhabGreatDoorDigMath
import Derived.Test.YtoopkbedjbnhhabGreatDoorByteMem
import Derived.Test.YtoopkbedjbnhhabGreatDoorNatC
namespace Go.Proofs.YtoopkbedjbnhhabGreatDoor
open Go.RowKit
set_option linter.unusedVariables false
set_option linter.unusedSimpArgs false

end Go.Proofs.YtoopkbedjbnhhabGreatDoor
