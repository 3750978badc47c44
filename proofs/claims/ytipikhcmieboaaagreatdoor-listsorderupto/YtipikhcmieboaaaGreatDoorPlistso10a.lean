/- Walk of Shift. Walks of the document's products, and of the document's answers. Walks of the document's shifts. Walks of the document's shifts down, and of its Shift. Walks of the document's common divisor, by halves and differences. Walk of the document's double. Walk of the document's quotient, bit by bit. -/
import Derived.Test.YtipikhcmieboaaaGreatDoorNatP
import Derived.Test.YtipikhcmieboaaaGreatDoorNatH
import Derived.Test.YtipikhcmieboaaaGreatDoorNatM
import Derived.Test.YtipikhcmieboaaaGreatDoorNatZ
import Derived.Test.YtipikhcmieboaaaGreatDoorGcdMath
import Derived.Deep.LoopGhost
import Derived.Test.YtipikhcmieboaaaGreatDoorNatL
namespace Go.Proofs.YtipikhcmieboaaaGreatDoor
open Go.RowKit
set_option linter.unusedVariables false
set_option linter.unusedSimpArgs false





end Go.Proofs.YtipikhcmieboaaaGreatDoor
