/- Walks of the document's products, and of the document's answers. -/
import Derived.Test.YtdpakekdbkpdfaaGreatDoorNatH
namespace Go.Proofs.YtdpakekdbkpdfaaGreatDoor
open Go.RowKit
set_option linter.unusedVariables false
set_option linter.unusedSimpArgs false

theorem wrapU (x : Int) (h0 : 0 ≤ x) (h1 : x ≤ 18446744073709551615) : IntKind.u64.wrap x = x := by
  simp [IntKind.wrap, IntKind.bits, IntKind.signed]
  omega
theorem rtimes_step (L L0 b : List Nat) (i j c k : Nat) (hi : i + j < L.length) (h : val L + pw (i + j) * c = val L0 + pw i * (k * val (b.take j))) :
    val (L.set (i + j) ((L.getD (i + j) 0 + k * b.getD j 0 + c) % 4294967296)) + pw (i + (j + 1)) * ((L.getD (i + j) 0 + k * b.getD j 0 + c) / 4294967296) = val L0 + pw i * (k * val (b.take (j + 1))) := by
  have e1 := val_set L (i + j) ((L.getD (i + j) 0 + k * b.getD j 0 + c) % 4294967296) hi
  have e2 := carry_step (pw (i + j)) (L.getD (i + j) 0 + k * b.getD j 0 + c)
  have e3 : pw (i + (j + 1)) = 4294967296 * pw (i + j) := by rw [← Nat.add_assoc, pw_succ]
  rw [e3, val_take_succ, Nat.mul_add k, Nat.mul_add (pw i)]
  have e4 : pw i * (k * (pw j * b.getD j 0)) = pw (i + j) * (k * b.getD j 0) := by
    rw [pw_add, Nat.mul_left_comm k, Nat.mul_assoc]
  rw [e4]
  rw [Nat.mul_add, Nat.mul_add] at e2
  omega
theorem no_carry {a P c b : Nat} (h : a + P * c = b) (h2 : b < P) : a = b := by
  have h3 : c = 0 := by
    apply Classical.byContradiction
    intro hc
    have : P * 1 ≤ P * c := Nat.mul_le_mul_left _ (by omega)
    omega
  subst h3
  omega
theorem rtimes_end (L L0 a : List Nat) (i m c y : Nat) (ha : Dig a) (hy : y < pw m) (hv : val L0 = val (a.take i) * y) (h : val L + pw (i + (m + 1)) * c = val L0 + pw i * (a.getD i 0 * y)) (hi : i < a.length) : val L = val (a.take (i + 1)) * y := by
  have e : val (a.take (i + 1)) * y = val L0 + pw i * (a.getD i 0 * y) := by
    rw [val_take_succ, Nat.add_mul, hv, Nat.mul_assoc]
  rw [← e] at h
  have h1 := val_lt (ha.take (i + 1))
  rw [List.length_take, Nat.min_eq_left (by omega)] at h1
  have h2 : val (a.take (i + 1)) * y < pw (i + 1) * pw m := Nat.mul_lt_mul'' h1 hy
  rw [← pw_add, show i + 1 + m = i + (m + 1) by omega] at h2
  exact no_carry h h2

end Go.Proofs.YtdpakekdbkpdfaaGreatDoor
