/- TxtA -/
import Derived.Test.YtoopkbedjbnhhaaGreatDoorDigMath
import Derived.Test.YtoopkbedjbnhhaaGreatDoorByteMem
import Derived.Test.YtoopkbedjbnhhaaGreatDoorNatC
namespace Go.Proofs.YtoopkbedjbnhhaaGreatDoor
open Go.RowKit
set_option linter.unusedVariables false
set_option linter.unusedSimpArgs false

end Go.Proofs.YtoopkbedjbnhhaaGreatDoor
