/- NatM -/
import Derived.Test.YtmnlfahgklnpeaaGreatDoorNatL
import Derived.Test.YtmnlfahgklnpeaaGreatDoorShelf
import Derived.Test.YtmnlfahgklnpeaaGreatDoorBitLen
namespace Go.Proofs.YtmnlfahgklnpeaaGreatDoor
open Go.RowKit
set_option linter.unusedVariables false
set_option linter.unusedSimpArgs false

theorem cmp_eq(x:Nat):cmpN x x=0:=by unfold cmpN; simp
