/- Walk of the document's reading of digits. -/
import Derived.Test.YtjkpfnghiooblaaGreatDoorTxtB
import Derived.Test.YtjkpfnghiooblaaGreatDoorNatN
import Derived.Test.YtjkpfnghiooblaaGreatDoorNatI
import Derived.Test.YtjkpfnghiooblaaGreatDoorArgs
import Derived.Deep.RegionWith
import Derived.BigRegion
namespace Go.Proofs.YtjkpfnghiooblaaGreatDoor
open Go.RowKit
set_option linter.unusedVariables false
set_option linter.unusedSimpArgs false

theorem words_oneD {d : Nat} (h : d < 4294967296) (h0 : d ≠ 0) : words d = [d] := by
  rw [words_pos h0, Nat.mod_eq_of_lt h, Nat.div_eq_of_lt h, words_zero]

end Go.Proofs.YtjkpfnghiooblaaGreatDoor
