/- Walks of products, sums of whole numbers. -/
import Derived.Test.YteghiinbafbokaaExA
import Derived.Deep.RegionHeld
namespace Go.Proofs.Yteghiinbafbokaa
open Go.RowKit
set_option linter.unusedVariables false
set_option linter.unusedSimpArgs false

end Go.Proofs.Yteghiinbafbokaa
