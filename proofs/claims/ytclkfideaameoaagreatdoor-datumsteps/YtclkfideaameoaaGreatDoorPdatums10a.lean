/- NatQ NatI ShiftRef ShiftRef2 GcdRef OverRef OverRef2 -/
import Derived.Test.YtclkfideaameoaaGreatDoorNatP
import Derived.Test.YtclkfideaameoaaGreatDoorNatH
import Derived.Test.YtclkfideaameoaaGreatDoorNatM
import Derived.Test.YtclkfideaameoaaGreatDoorNatZ
import Derived.Test.YtclkfideaameoaaGreatDoorGcdMath
import Derived.Deep.LoopGhost
import Derived.Test.YtclkfideaameoaaGreatDoorNatL
set_option linter.unusedVariables false
set_option linter.unusedSimpArgs false
set_option maxHeartbeats 1000000
namespace Go.Proofs.YtclkfideaameoaaGreatDoor
open Go.RowKit





end Go.Proofs.YtclkfideaameoaaGreatDoor
