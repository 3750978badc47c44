/- Walks of sums of whole numbers. -/
import Derived.Test.YteghiinbafbokaaExB
namespace Go.Proofs.Yteghiinbafbokaa
open Go.RowKit
set_option linter.unusedVariables false
set_option linter.unusedSimpArgs false

theorem sgn_add {x y : Int} (h : decide (x < 0) = decide (y < 0)) : sgn (decide (x < 0)) (x.natAbs + y.natAbs) = x + y := by
  unfold sgn
  by_cases k : x < 0
  · have k2 : y < 0 := by rw [decide_eq_true k] at h; exact of_decide_eq_true h.symm
    rw [decide_eq_true k]
    simp
    omega
  · have k2 : ¬ y < 0 := by rw [decide_eq_false k] at h; exact of_decide_eq_false h.symm
    rw [decide_eq_false k]
    simp
    omega
theorem sgn_sub {x y : Int} (h : decide (x < 0) ≠ decide (y < 0)) (hle : y.natAbs ≤ x.natAbs) : sgn (decide (x < 0)) (x.natAbs - y.natAbs) = x + y := by
  unfold sgn
  by_cases k : x < 0
  · have k2 : ¬ y < 0 := by intro k3; rw [decide_eq_true k, decide_eq_true k3] at h; exact h rfl
    rw [decide_eq_true k]
    simp
    omega
  · have k2 : y < 0 := by
      apply Classical.byContradiction
      intro k3
      rw [decide_eq_false k, decide_eq_false k3] at h
      exact h rfl
    rw [decide_eq_false k]
    simp
    omega

end Go.Proofs.Yteghiinbafbokaa
