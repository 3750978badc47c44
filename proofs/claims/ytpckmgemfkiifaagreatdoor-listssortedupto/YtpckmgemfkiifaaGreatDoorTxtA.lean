/- TxtA -/
import Derived.Test.YtpckmgemfkiifaaGreatDoorDigMath
import Derived.Test.YtpckmgemfkiifaaGreatDoorByteMem
import Derived.Test.YtpckmgemfkiifaaGreatDoorNatC
namespace Go.Proofs.YtpckmgemfkiifaaGreatDoor
open Go.RowKit
set_option linter.unusedVariables false
set_option linter.unusedSimpArgs false

end Go.Proofs.YtpckmgemfkiifaaGreatDoor
