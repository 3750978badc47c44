/- NatM -/
import Derived.Test.YtpckmgemfkiifaaGreatDoorNatL
import Derived.Test.YtpckmgemfkiifaaGreatDoorShelf
import Derived.Test.YtpckmgemfkiifaaGreatDoorBitLen
namespace Go.Proofs.YtpckmgemfkiifaaGreatDoor
open Go.RowKit
set_option linter.unusedVariables false
set_option linter.unusedSimpArgs false

theorem cmp_lt{x y:Nat}(h:x<y):cmpN x y=-1:=by unfold cmpN; rw[if_pos h]
theorem cmp_eq(x:Nat):cmpN x x=0:=by unfold cmpN; simp
end Go.Proofs.YtpckmgemfkiifaaGreatDoor
