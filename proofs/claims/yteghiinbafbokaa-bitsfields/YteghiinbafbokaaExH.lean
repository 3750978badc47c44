/- Walks of small questions: does a fraction fit, is a number real, is it 0. -/
import Derived.Test.YteghiinbafbokaaExG
namespace Go.Proofs.Yteghiinbafbokaa
open Go.RowKit
set_option linter.unusedVariables false
set_option linter.unusedSimpArgs false

set_option maxHeartbeats 1000000 in
set_option maxRecDepth 1000000 in
theorem isReal_any {w : World} {b1 b2 : Bool} {o1 o2 o3 o4 : Option Addr} {m1 m2 m3 m4 c1 c2 c3 c4 : Nat} (h : m3 ≤ 9223372036854775807) :
    Calls Try.prog 75 #[.agg #[.bool b1, .slice o1 m1 c1, .slice o2 m2 c2, .bool b2, .slice o3 m3 c3, .slice o4 m4 c4]] w fun e w' => e = .returned (.bool (decide (m3 = 0))) ∧ Below w.heap.size w w' := by
  have HAL : Hid (∀ o, Below w.heap.size w (w.alloc o)) := fun o => (Below.refl _ _).alloc (Nat.le_refl _) o
  by_cases hm : m3 = 0
  · subst hm
    go_enter Try.func75, Try.ntmps75
    go_wp2
    go_ret
    exact ⟨rfl, HAL.out _⟩
  · have e : decide (m3 = 0) = false := decide_eq_false hm
    rw [e]
    have hm1 : ((m3 : Int) == 0) = false := by simp; omega
    clear e
    go_enter Try.func75, Try.ntmps75
    go_wp2
    go_ret
    exact ⟨rfl, HAL.out _⟩

end Go.Proofs.Yteghiinbafbokaa
