/- Walk of Shift. -/
import Derived.Test.YtdpakekdbkpdfaaGreatDoorNatP
namespace Go.Proofs.YtdpakekdbkpdfaaGreatDoor
open Go.RowKit
set_option linter.unusedVariables false
set_option linter.unusedSimpArgs false

def shiftS (a : List Nat) (n : Int) : List Nat × Int :=
  if sound a then (if n < -16384 ∨ 16384 < n then ([], 1) else if n < 0 then (words (val a / 2 ^ (-n).toNat), 0) else fitS (val a * 2 ^ n.toNat)) else ([], 2)
theorem words_shl_length {x k n : Nat} (hx : (words x).length ≤ n) : (words (x * 2 ^ k)).length ≤ n + (k / 32 + 1) := by
  apply words_length_le
  rw [pw_add]
  refine Nat.mul_lt_mul'' (words_length_iff.1 hx) ?_
  rw [pw_two]
  exact Nat.pow_lt_pow_right (by omega) (by omega)

end Go.Proofs.YtdpakekdbkpdfaaGreatDoor
