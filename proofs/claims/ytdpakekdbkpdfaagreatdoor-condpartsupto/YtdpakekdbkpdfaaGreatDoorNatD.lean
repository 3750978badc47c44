/- Walks of sums: the program's own, and what fits. -/
import Derived.Test.YtdpakekdbkpdfaaGreatDoorNatC
namespace Go.Proofs.YtdpakekdbkpdfaaGreatDoor
open Go.RowKit
set_option linter.unusedVariables false
set_option linter.unusedSimpArgs false

theorem carry_step (P s : Nat) : P * (s % 4294967296) + 4294967296 * P * (s / 4294967296) = P * s := by
  have h := Nat.mod_add_div s 4294967296
  have e : 4294967296 * P * (s / 4294967296) = P * (4294967296 * (s / 4294967296)) := by
    rw [Nat.mul_comm 4294967296 P, Nat.mul_assoc]
  rw [e, ← Nat.mul_add, h]
theorem sum_step (L a b : List Nat) (i c : Nat) (hi : i < L.length) (h : val (L.take i) + pw i * c = val (a.take i) + val (b.take i)) :
    val ((L.set i ((a.getD i 0 + b.getD i 0 + c) % 4294967296)).take (i + 1)) + pw (i + 1) * ((a.getD i 0 + b.getD i 0 + c) / 4294967296) = val (a.take (i + 1)) + val (b.take (i + 1)) := by
  rw [val_set_take L i _ hi, val_take_succ a, val_take_succ b, pw_succ]
  have := carry_step (pw i) (a.getD i 0 + b.getD i 0 + c)
  rw [Nat.mul_add, Nat.mul_add] at this
  omega

end Go.Proofs.YtdpakekdbkpdfaaGreatDoor
