/- Walk of the document's writing of digits. -/
import Derived.Test.YtjkpfnghiooblaaGreatDoorTxtD
import Derived.Test.YtjkpfnghiooblaaGreatDoorArgs
namespace Go.Proofs.YtjkpfnghiooblaaGreatDoor
open Go.RowKit
set_option linter.unusedVariables false
set_option linter.unusedSimpArgs false

theorem bl_div1 {y r : Nat} (hr : 2 ≤ r) (h : y ≠ 0) : bl (y / r) + 1 ≤ bl y := bl_div hr h
theorem ownB_apart {B B' : Nat} {w : World} {ao bo : Option Addr} {ca cb : Nat} {l l' : List Nat} (h : Own B w ao ca l) (k : OwnB B' w bo cb l') {g : Nat} (hg : ao = some ⟨g, 0, none⟩) : ∀ a, bo = some a → some a.block ≠ some g := by
  intro a ha e
  have := own_apart (n := 0) h k ⟨g, 0, none⟩ hg
  apply this
  rw [ha]
  simp only [Value.ownBlock]
  exact e.symm

end Go.Proofs.YtjkpfnghiooblaaGreatDoor
