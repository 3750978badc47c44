/- Walks of Sub, Cmp, Bits and Of, the program's own and the document's. -/
import Derived.Test.YtdpakekdbkpdfaaGreatDoorNatL
import Derived.Test.YtdpakekdbkpdfaaGreatDoorShelf
import Derived.Test.YtdpakekdbkpdfaaGreatDoorBitLen
namespace Go.Proofs.YtdpakekdbkpdfaaGreatDoor
open Go.RowKit
set_option linter.unusedVariables false
set_option linter.unusedSimpArgs false

def subS (a b : List Nat) : List Nat × Int := if sound a && sound b then (if val a < val b then ([], 1) else (words (val a - val b), 0)) else ([], 2)
def cmpS (a b : List Nat) : Int := if sound a && sound b then cmpN (val a) (val b) else 0
theorem cmp_lt {x y : Nat} (h : x < y) : cmpN x y = -1 := by unfold cmpN; rw [if_pos h]
theorem cmp_gt {x y : Nat} (h : y < x) : cmpN x y = 1 := by unfold cmpN; rw [if_neg (by omega), if_pos h]
theorem cmp_eq (x : Nat) : cmpN x x = 0 := by unfold cmpN; simp
theorem cmp_ge {x y : Nat} (h : ¬ x < y) : (cmpN x y < 0) = False := by
  unfold cmpN
  rw [if_neg h]
  split <;> simp

end Go.Proofs.YtdpakekdbkpdfaaGreatDoor
