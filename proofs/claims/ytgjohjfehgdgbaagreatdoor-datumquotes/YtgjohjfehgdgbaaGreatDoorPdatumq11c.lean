/- TxtC -/
import Derived.Test.YtgjohjfehgdgbaaGreatDoorTxtB
import Derived.Test.YtgjohjfehgdgbaaGreatDoorNatN
import Derived.Test.YtgjohjfehgdgbaaGreatDoorPdatumq11a
import Derived.Test.YtgjohjfehgdgbaaGreatDoorArgs
import Derived.Deep.RegionWith
import Derived.BigRegion
set_option linter.unusedVariables false
set_option linter.unusedSimpArgs false
set_option maxHeartbeats 1000000
namespace Go.Proofs.YtgjohjfehgdgbaaGreatDoor
open Go.RowKit

end Go.Proofs.YtgjohjfehgdgbaaGreatDoor
