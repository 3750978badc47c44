/- Walk of Shift. Walks of the document's products, and of the document's answers. Walks of the document's shifts. Walks of the document's shifts down, and of its Shift. Walks of the document's common divisor, by halves and differences. Walk of the document's double. Walk of the document's quotient, bit by bit. -/
import Derived.Test.YtjlpecapebhgjaaGreatDoorNatP
import Derived.Test.YtjlpecapebhgjaaGreatDoorNatH
import Derived.Test.YtjlpecapebhgjaaGreatDoorNatM
import Derived.Test.YtjlpecapebhgjaaGreatDoorNatZ
import Derived.Test.YtjlpecapebhgjaaGreatDoorGcdMath
import Derived.Deep.LoopGhost
import Derived.Test.YtjlpecapebhgjaaGreatDoorNatL
namespace Go.Proofs.YtjlpecapebhgjaaGreatDoor
open Go.RowKit
set_option linter.unusedVariables false
set_option linter.unusedSimpArgs false





end Go.Proofs.YtjlpecapebhgjaaGreatDoor
