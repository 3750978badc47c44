/- Walk of Shift. Walks of the document's products, and of the document's answers. Walks of the document's shifts. Walks of the document's shifts down, and of its Shift. Walks of the document's common divisor, by halves and differences. Walk of the document's double. Walk of the document's quotient, bit by bit. -/
import Derived.Test.YtnemkamkjfokaaaDoorNatP
import Derived.Test.YtnemkamkjfokaaaDoorNatH
import Derived.Test.YtnemkamkjfokaaaDoorNatK
import Derived.Test.YtnemkamkjfokaaaDoorShelf
import Derived.Test.YtnemkamkjfokaaaDoorBitLen
import Derived.Test.YtnemkamkjfokaaaDoorNatZ
import Derived.Test.YtnemkamkjfokaaaDoorGcdMath
import Derived.Deep.LoopGhost
namespace Go.Proofs.YtnemkamkjfokaaaDoor
open Go.RowKit
set_option linter.unusedVariables false
set_option linter.unusedSimpArgs false





end Go.Proofs.YtnemkamkjfokaaaDoor
