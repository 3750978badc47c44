/- TxtD -/
import Derived.Test.YtgjohjfehgdgbaaGreatDoorTxtA
import Derived.Test.YtgjohjfehgdgbaaGreatDoorNatZ
import Derived.Deep.LoopGhost
import Derived.BigRegion
namespace Go.Proofs.YtgjohjfehgdgbaaGreatDoor
open Go.RowKit
set_option linter.unusedVariables false
set_option linter.unusedSimpArgs false

def turned(l:List Nat)(n i:Nat)(L:List Nat):Prop:=L.length=n∧∀p,p<n→L.getD p 0=if p<i∨n-1-i<p then l.getD (n-1-p) 0 else l.getD p 0
end Go.Proofs.YtgjohjfehgdgbaaGreatDoor
