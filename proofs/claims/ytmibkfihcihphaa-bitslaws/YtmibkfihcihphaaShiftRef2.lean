/- Walks of the document's shifts down, and of its Shift. -/
import Derived.Test.YtmibkfihcihphaaShiftRef
import Derived.Test.YtmibkfihcihphaaNatQ
namespace Go.Proofs.Ytmibkfihcihphaa
open Go.RowKit
set_option linter.unusedVariables false
set_option linter.unusedSimpArgs false

theorem rdown_step (acc : List Nat) (x W j r : Nat) (hl : acc.length = j) (hr : r < 32) (h : val acc = x / (pw W * 2 ^ r) % pw j) :
    val (acc ++ [((words x).getD (W + j + 1) 0 * 4294967296 + (words x).getD (W + j) 0) / 2 ^ r % 4294967296]) = x / (pw W * 2 ^ r) % pw (j + 1) := by
  have := down_step (acc ++ [0]) x W j r (by simp [hl]) hr (by rw [List.take_append_of_le_length (by omega), List.take_of_length_le (by omega)]; exact h)
  rw [← this]
  congr 1
  rw [List.take_of_length_le (by simp [hl])]
  rw [List.set_append_right _ _ (by omega)]
  simp [hl]

end Go.Proofs.Ytmibkfihcihphaa
