/- Walks of the document's shifts. -/
import Derived.Test.YtmibkfihcihphaaNatP
import Derived.Test.YtmibkfihcihphaaNatI
namespace Go.Proofs.Ytmibkfihcihphaa
open Go.RowKit
set_option linter.unusedVariables false
set_option linter.unusedSimpArgs false

theorem rup_step (acc a : List Nat) (W i r c : Nat) (hl : acc.length = W + i) (h : val acc + pw (W + i) * c = pw W * (val (a.take i) * 2 ^ r)) :
    val (acc ++ [(c + a.getD i 0 * 2 ^ r) % 4294967296]) + pw (W + (i + 1)) * ((c + a.getD i 0 * 2 ^ r) / 4294967296) = pw W * (val (a.take (i + 1)) * 2 ^ r) := by
  rw [val_snoc, hl, val_take_succ, Nat.add_mul, Nat.mul_add (pw W)]
  have e := carry_step (pw (W + i)) (c + a.getD i 0 * 2 ^ r)
  have e2 : pw (W + (i + 1)) = 4294967296 * pw (W + i) := by rw [← Nat.add_assoc, pw_succ]
  have e3 : pw W * (pw i * a.getD i 0 * 2 ^ r) = pw (W + i) * (a.getD i 0 * 2 ^ r) := by rw [pw_add]; simp only [Nat.mul_assoc]
  rw [e2, e3]
  rw [Nat.mul_add] at e
  omega
theorem up_carry {c d r : Nat} (hc : c < 2 ^ r) (hd : d < 4294967296) : (c + d * 2 ^ r) / 4294967296 < 2 ^ r := by
  rw [Nat.div_lt_iff_lt_mul (by omega)]
  have : (d + 1) * 2 ^ r ≤ 4294967296 * 2 ^ r := Nat.mul_le_mul_right _ (by omega)
  rw [Nat.add_mul, Nat.one_mul] at this
  rw [Nat.mul_comm (2 ^ r)]
  omega

end Go.Proofs.Ytmibkfihcihphaa
