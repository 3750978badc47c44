/- NatZ -/
import Derived.Test.YtgjohjfehgdgbaaGreatDoorNatY
import Derived.Test.YtgjohjfehgdgbaaGreatDoorNatN
import Derived.Deep.LoopGhost
namespace Go.Proofs.YtgjohjfehgdgbaaGreatDoor
open Go.RowKit
set_option linter.unusedVariables false
set_option linter.unusedSimpArgs false

theorem bl_len{x n:Nat}(h:(words x).length≤n):bl x≤32*n:=bl_le.2 (by rw[←pw_two]; exact words_length_iff.1 h)
end Go.Proofs.YtgjohjfehgdgbaaGreatDoor
