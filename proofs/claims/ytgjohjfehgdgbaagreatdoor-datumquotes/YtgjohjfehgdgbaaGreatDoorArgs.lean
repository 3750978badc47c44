/- Args -/
import Derived.Test.YtgjohjfehgdgbaaGreatDoorMem
import Derived.ChangeOld
import Derived.ProofKit
import Derived.OpenShut
namespace Go.Proofs.YtgjohjfehgdgbaaGreatDoor
open Go.RowKit
set_option linter.unusedVariables false
set_option linter.unusedSimpArgs false

theorem chain2{a b c:World}(h1:Below a.heap.size a b)(h2:Below b.heap.size b c):Below a.heap.size a c:=h1.trans (h2.mono h1.size)
theorem chain3{a b c d:World}(h1:Below a.heap.size a b)(h2:Below b.heap.size b c)(h3:Below c.heap.size c d):Below a.heap.size a d:=chain2 (chain2 h1 h2) h3
theorem chain4{a b c d e:World}(h1:Below a.heap.size a b)(h2:Below b.heap.size b c)(h3:Below c.heap.size c d)(h4:Below d.heap.size d e):Below a.heap.size a e:=chain2 (chain3 h1 h2 h3) h4

end Go.Proofs.YtgjohjfehgdgbaaGreatDoor
