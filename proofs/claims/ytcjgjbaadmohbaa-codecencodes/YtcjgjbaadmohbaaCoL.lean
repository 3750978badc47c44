/- The walk of CodecJoins. -/
import Derived.Test.YtcjgjbaadmohbaaCoK
import Derived.Test.YtcjgjbaadmohbaaCoM
namespace Go.Proofs.Ytcjgjbaadmohbaa
open Go.RowKit
set_option linter.unusedVariables false
set_option linter.unusedSimpArgs false
set_option maxRecDepth 100000


end Go.Proofs.Ytcjgjbaadmohbaa
