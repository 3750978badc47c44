/- NatL -/
import Derived.Test.YtclkfideaameoaaGreatDoorNatK
namespace Go.Proofs.YtclkfideaameoaaGreatDoor
open Go.RowKit
set_option linter.unusedVariables false
set_option linter.unusedSimpArgs false

end Go.Proofs.YtclkfideaameoaaGreatDoor
