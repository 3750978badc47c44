/- Walk of the document's double. -/
import Derived.Test.YtmibkfihcihphaaNatL
namespace Go.Proofs.Ytmibkfihcihphaa
open Go.RowKit
set_option linter.unusedVariables false
set_option linter.unusedSimpArgs false

theorem or_bit (d c : Nat) (hc : c ≤ 1) : (d * 2 % 4294967296 ||| c) = d * 2 % 4294967296 + c := by
  have e : d * 2 % 4294967296 = (d % 2147483648) * 2 ^ 1 := by omega
  rw [e, or_add _ _ 1 (by omega)]
theorem double_step (acc a : List Nat) (i c b : Nat) (hl : acc.length = i) (ha : Dig a) (hc : c ≤ 1) (h : val acc + pw i * c = 2 * val (a.take i) + b) :
    val (acc ++ [a.getD i 0 * 2 % 4294967296 + c]) + pw (i + 1) * (a.getD i 0 / 2147483648) = 2 * val (a.take (i + 1)) + b := by
  rw [val_snoc, hl, val_take_succ, pw_succ]
  have hd := ha.getD i
  have e1 : a.getD i 0 * 2 % 4294967296 + 4294967296 * (a.getD i 0 / 2147483648) = 2 * a.getD i 0 := by omega
  have e2 := congrArg (fun t => pw i * t) e1
  simp only [Nat.mul_add] at e2
  rw [Nat.mul_add, Nat.mul_add]
  have e3 : 4294967296 * pw i * (a.getD i 0 / 2147483648) = pw i * (4294967296 * (a.getD i 0 / 2147483648)) := by rw [Nat.mul_comm 4294967296, Nat.mul_assoc]
  have e4 : 2 * (pw i * a.getD i 0) = pw i * (2 * a.getD i 0) := Nat.mul_left_comm _ _ _
  rw [e3, e4]
  omega

end Go.Proofs.Ytmibkfihcihphaa
