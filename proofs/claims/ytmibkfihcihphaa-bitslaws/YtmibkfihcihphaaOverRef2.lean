/- Walk of the document's quotient, bit by bit. -/
import Derived.Test.YtmibkfihcihphaaOverRef
import Derived.Test.YtmibkfihcihphaaNatZ
import Derived.Test.YtmibkfihcihphaaNatM
namespace Go.Proofs.Ytmibkfihcihphaa
open Go.RowKit
set_option linter.unusedVariables false
set_option linter.unusedSimpArgs false

theorem or_one_bit (d m : Nat) (h : d / 2 ^ m % 2 = 0) : d ||| 2 ^ m = d + 2 ^ m := by
  have p : 0 < 2 ^ m := Nat.pow_pos (by omega)
  obtain ⟨hi, hhi⟩ : ∃ hi, d / 2 ^ m = 2 * hi := ⟨d / 2 ^ m / 2, by generalize d / 2 ^ m = z at *; omega⟩
  obtain ⟨lo, hlo⟩ : ∃ lo, d % 2 ^ m = lo := ⟨_, rfl⟩
  have hl : lo < 2 ^ m := by rw [← hlo]; exact Nat.mod_lt _ p
  have e : d = hi * 2 ^ (m + 1) + lo := by
    have h1 := Nat.div_add_mod d (2 ^ m)
    rw [hhi, hlo] at h1
    rw [Nat.pow_succ, ← Nat.mul_assoc, Nat.mul_comm (hi * 2 ^ m) 2, ← h1]
    congr 1
    rw [Nat.mul_left_comm, Nat.mul_comm hi (2 ^ m)]
  have hp1 : lo < 2 ^ (m + 1) := by rw [Nat.pow_succ]; omega
  have hp2 : 2 ^ m + lo < 2 ^ (m + 1) := by rw [Nat.pow_succ]; omega
  have o1 : 2 ^ m ||| lo = 2 ^ m + lo := by
    have := or_add 1 lo m hl
    rw [Nat.one_mul] at this
    exact this
  rw [e, ← or_add hi lo (m + 1) hp1, Nat.or_assoc, Nat.or_comm lo, o1, or_add hi _ (m + 1) hp2, or_add hi lo (m + 1) hp1]
  omega
theorem val_getD {l : List Nat} (hd : Dig l) (p : Nat) : l.getD p 0 = val l / pw p % 4294967296 := by
  induction l generalizing p with
  | nil => simp [val]
  | cons d l ih =>
    have h1 := dig_cons.1 hd
    cases p with
    | zero =>
      rw [pw_zero, Nat.div_one, val_cons]
      simp
      omega
    | succ p =>
      rw [List.getD_cons_succ, ih h1.2, pw_succ, ← Nat.div_div_eq_div_mul]
      congr 2
      rw [val_cons]
      omega
theorem bit_clear {l : List Nat} {Q j : Nat} (hd : Dig l) (h : val l = Q * 2 ^ (j + 1)) : l.getD (j / 32) 0 / 2 ^ (j % 32) % 2 = 0 := by
  rw [val_getD hd, bit_word, h, Nat.pow_succ, ← Nat.mul_assoc, Nat.mul_comm Q, Nat.mul_assoc, Nat.mul_div_cancel_left _ (Nat.pow_pos (by omega))]
  omega
theorem over_half (x j : Nat) : x / 2 ^ j = 2 * (x / 2 ^ (j + 1)) + x / 2 ^ j % 2 := by
  rw [Nat.pow_succ, ← Nat.div_div_eq_div_mul]
  generalize x / 2 ^ j = z
  omega
theorem over_yes {x y Q r j : Nat} (h : x / 2 ^ (j + 1) = Q * y + r) (hge : y ≤ 2 * r + x / 2 ^ j % 2) : x / 2 ^ j = (2 * Q + 1) * y + (2 * r + x / 2 ^ j % 2 - y) := by
  have h1 := over_half x j
  rw [h] at h1
  rw [Nat.add_mul, Nat.one_mul, Nat.mul_assoc]
  rw [Nat.mul_add] at h1
  generalize x / 2 ^ j = z at *
  omega
theorem over_no {x y Q r j : Nat} (h : x / 2 ^ (j + 1) = Q * y + r) : x / 2 ^ j = 2 * Q * y + (2 * r + x / 2 ^ j % 2) := by
  have h1 := over_half x j
  rw [h] at h1
  rw [Nat.mul_assoc]
  rw [Nat.mul_add] at h1
  generalize x / 2 ^ j = z at *
  omega

end Go.Proofs.Ytmibkfihcihphaa
