/- Walks of the square root. -/
import Derived.Test.YtdpakekdbkpdfaaGreatDoorNatY
import Derived.Test.YtdpakekdbkpdfaaGreatDoorNatN
import Derived.Deep.LoopGhost
namespace Go.Proofs.YtdpakekdbkpdfaaGreatDoor
open Go.RowKit
set_option linter.unusedVariables false
set_option linter.unusedSimpArgs false

theorem amgm (a b : Nat) : 4 * (a * b) ≤ (a + b) * (a + b) := by
  have key : ∀ a d : Nat, 4 * (a * (a + d)) ≤ (a + (a + d)) * (a + (a + d)) := by
    intro a d
    have e1 : (a + (a + d)) * (a + (a + d)) = 4 * (a * (a + d)) + d * d := by
      simp only [Nat.mul_add, Nat.add_mul]
      have : a * d = d * a := Nat.mul_comm _ _
      omega
    omega
  rcases Nat.le_total a b with h | h
  · obtain ⟨d, rfl⟩ := Nat.exists_eq_add_of_le h
    exact key a d
  · obtain ⟨d, rfl⟩ := Nat.exists_eq_add_of_le h
    have := key b d
    rw [Nat.mul_comm (b + d) b, Nat.add_comm (b + d) b]
    exact this
theorem newton_keep {x S : Nat} (hS : 0 < S) : x < ((S + x / S) / 2 + 1) * ((S + x / S) / 2 + 1) := by
  have h1 : x < S * (x / S + 1) := Nat.lt_mul_div_succ x hS
  generalize x / S = q at *
  obtain ⟨t, ht⟩ : ∃ t, (S + q) / 2 + 1 = t := ⟨_, rfl⟩
  rw [ht]
  have h2 : S + (q + 1) ≤ 2 * t := by omega
  have h3 := amgm S (q + 1)
  have h4 : (S + (q + 1)) * (S + (q + 1)) ≤ (2 * t) * (2 * t) := Nat.mul_le_mul h2 h2
  have h5 : (2 * t) * (2 * t) = 4 * (t * t) := by
    rw [Nat.mul_mul_mul_comm]
  omega
theorem newton_stop {x S : Nat} (h : S ≤ (S + x / S) / 2) : S * S ≤ x := by
  have h1 : S ≤ x / S := by omega
  have h2 : S * S ≤ S * (x / S) := Nat.mul_le_mul_left _ h1
  have h3 := Nat.mul_div_le x S
  omega
theorem newton_start (x : Nat) : x < (2 ^ ((bl x + 1) / 2) + 1) * (2 ^ ((bl x + 1) / 2) + 1) := by
  have h1 := lt_bl x
  have h2 : 2 ^ bl x ≤ 2 ^ ((bl x + 1) / 2 + (bl x + 1) / 2) := Nat.pow_le_pow_right (by omega) (by omega)
  rw [Nat.pow_add] at h2
  have h3 : 2 ^ ((bl x + 1) / 2) * 2 ^ ((bl x + 1) / 2) ≤ (2 ^ ((bl x + 1) / 2) + 1) * (2 ^ ((bl x + 1) / 2) + 1) := Nat.mul_le_mul (by omega) (by omega)
  omega
theorem root_unique {x s t : Nat} (h1 : s * s ≤ x) (h2 : x < (s + 1) * (s + 1)) (h3 : t * t ≤ x) (h4 : x < (t + 1) * (t + 1)) : s = t := by
  have key : ∀ {a b : Nat}, a * a ≤ x → x < (b + 1) * (b + 1) → a ≤ b := by
    intro a b ha hb
    apply Classical.byContradiction
    intro h
    have : (b + 1) * (b + 1) ≤ a * a := Nat.mul_le_mul (by omega) (by omega)
    omega
  have := key h1 h4
  have := key h3 h2
  omega
theorem bl_len {x n : Nat} (h : (words x).length ≤ n) : bl x ≤ 32 * n := bl_le.2 (by rw [← pw_two]; exact words_length_iff.1 h)
theorem len_two {S k : Nat} (h : S ≤ 2 ^ k) : (words S).length ≤ k / 32 + 1 := by
  apply words_length_le
  rw [pw_two]
  exact Nat.lt_of_le_of_lt h (Nat.pow_lt_pow_right (by omega) (by omega))

end Go.Proofs.YtdpakekdbkpdfaaGreatDoor
