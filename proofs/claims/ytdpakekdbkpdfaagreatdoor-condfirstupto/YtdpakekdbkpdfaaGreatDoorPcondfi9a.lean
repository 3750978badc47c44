/- Walk of Shift. Walks of the document's products, and of the document's answers. Walks of the document's shifts. Walks of the document's shifts down, and of its Shift. Walks of the document's common divisor, by halves and differences. Walk of the document's double. Walk of the document's quotient, bit by bit. -/
import Derived.Test.YtdpakekdbkpdfaaGreatDoorNatP
import Derived.Test.YtdpakekdbkpdfaaGreatDoorNatH
import Derived.Test.YtdpakekdbkpdfaaGreatDoorNatK
import Derived.Test.YtdpakekdbkpdfaaGreatDoorShelf
import Derived.Test.YtdpakekdbkpdfaaGreatDoorBitLen
import Derived.Test.YtdpakekdbkpdfaaGreatDoorNatZ
import Derived.Test.YtdpakekdbkpdfaaGreatDoorGcdMath
import Derived.Deep.LoopGhost
namespace Go.Proofs.YtdpakekdbkpdfaaGreatDoor
open Go.RowKit
set_option linter.unusedVariables false
set_option linter.unusedSimpArgs false





end Go.Proofs.YtdpakekdbkpdfaaGreatDoor
