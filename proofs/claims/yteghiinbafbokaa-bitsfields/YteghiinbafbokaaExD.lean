/- Walks of sums of whole numbers whose order is turned; of all sums; and of products with natural numbers. -/
import Derived.Test.YteghiinbafbokaaExC
namespace Go.Proofs.Yteghiinbafbokaa
open Go.RowKit
set_option linter.unusedVariables false
set_option linter.unusedSimpArgs false

theorem Two.put {w : World} {g : Nat} {a b : Value} (h : Two w g a b) (x y : Value) : Two ((w.setCell ⟨g, 0, none⟩ x).setCell ⟨g, 1, none⟩ y) g x y := by
  obtain ⟨k0, k1, f0, f1⟩ := h
  have e1 : (w.setCell ⟨g, 0, none⟩ x).cell? ⟨g, 0, none⟩ = some x := World.cell?_setCell_same _ _ _ k0
  have e2 : (w.setCell ⟨g, 0, none⟩ x).cell? ⟨g, 1, none⟩ = some b := by rw [World.cell?_setCell_other _ _ _ _ (by simp)]; exact k1
  refine ⟨?_, World.cell?_setCell_same _ _ _ e2, by simpa using f0, by simpa using f1⟩
  rw [World.cell?_setCell_other _ _ _ _ (by simp)]
  exact e1

end Go.Proofs.Yteghiinbafbokaa
