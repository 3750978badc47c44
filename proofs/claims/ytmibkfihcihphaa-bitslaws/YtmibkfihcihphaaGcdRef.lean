/- Walks of the document's common divisor, by halves and differences. -/
import Derived.Test.YtmibkfihcihphaaShiftRef2
import Derived.Test.YtmibkfihcihphaaNatM
import Derived.Test.YtmibkfihcihphaaNatZ
import Derived.Test.YtmibkfihcihphaaGcdMath
import Derived.Deep.LoopGhost
namespace Go.Proofs.Ytmibkfihcihphaa
open Go.RowKit
set_option linter.unusedVariables false
set_option linter.unusedSimpArgs false

theorem one_words' : [1] = words 1 := by rw [words_pos (by omega)]; simp [words_zero]
theorem low_lt_bl {x i : Nat} (h : x % 2 ^ i = 0) (h0 : x ≠ 0) : i < bl x := by
  have h1 := low_bound h h0
  have h2 := lt_bl x
  apply Classical.byContradiction
  intro h3
  have := Nat.pow_le_pow_right (show 0 < 2 by omega) (Nat.le_of_not_lt h3)
  omega
theorem odd_le {x i k : Nat} (hi : x / 2 ^ i % 2 = 1) (hk : x % 2 ^ k = 0) : k ≤ i := by
  apply Classical.byContradiction
  intro h
  obtain ⟨d, rfl⟩ : ∃ d, k = i + 1 + d := ⟨k - (i + 1), by omega⟩
  have e : x / 2 ^ i % 2 = 0 := by
    have h1 : 2 ^ (i + 1 + d) ∣ x := Nat.dvd_of_mod_eq_zero hk
    have h2 : 2 ^ (i + 1) ∣ x := Nat.dvd_trans ⟨2 ^ d, by rw [Nat.pow_add]⟩ h1
    obtain ⟨c, rfl⟩ := h2
    rw [Nat.pow_succ, Nat.mul_assoc, Nat.mul_div_cancel_left _ (Nat.pow_pos (by omega))]
    omega
  omega
theorem bl_one {x : Nat} (h : x ≠ 0) : bl x = 1 ↔ x = 1 := by
  constructor
  · intro h1
    have h2 := lt_bl x
    rw [h1] at h2
    omega
  · intro h1
    subst h1
    decide

end Go.Proofs.Ytmibkfihcihphaa
