/- TxtC -/
import Derived.Test.YtclkfideaameoaaGreatDoorTxtB
import Derived.Test.YtclkfideaameoaaGreatDoorNatN
import Derived.Test.YtclkfideaameoaaGreatDoorPdatums10a
import Derived.Test.YtclkfideaameoaaGreatDoorArgs
import Derived.Deep.RegionWith
import Derived.BigRegion
set_option linter.unusedVariables false
set_option linter.unusedSimpArgs false
set_option maxHeartbeats 1000000
namespace Go.Proofs.YtclkfideaameoaaGreatDoor
open Go.RowKit

end Go.Proofs.YtclkfideaameoaaGreatDoor
