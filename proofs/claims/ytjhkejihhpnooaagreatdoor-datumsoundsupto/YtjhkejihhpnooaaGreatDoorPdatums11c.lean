/- TxtC -/
import Derived.Test.YtjhkejihhpnooaaGreatDoorTxtB
import Derived.Test.YtjhkejihhpnooaaGreatDoorNatN
import Derived.Test.YtjhkejihhpnooaaGreatDoorPdatums11a
import Derived.Test.YtjhkejihhpnooaaGreatDoorArgs
import Derived.Deep.RegionWith
import Derived.BigRegion
set_option linter.unusedVariables false
set_option linter.unusedSimpArgs false
set_option maxHeartbeats 1000000
namespace Go.Proofs.YtjhkejihhpnooaaGreatDoor
open Go.RowKit

end Go.Proofs.YtjhkejihhpnooaaGreatDoor
