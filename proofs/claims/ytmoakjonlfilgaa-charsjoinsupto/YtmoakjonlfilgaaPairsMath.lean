/- What holds of capitals and small letters at every character, by plain reckoning. -/
import Derived.Test.YtmoakjonlfilgaaMath
namespace Go.Proofs.Ytmoakjonlfilgaa
open Go.RowKit
set_option linter.unusedVariables false

theorem upZ_out (r : Int) (h : r < 0 ∨ 1199 < r) : upZ r = r := by
  unfold upZ
  rw [if_neg (by omega), if_neg (by omega), if_neg (by omega), capB_out r (by omega)]
  omega
theorem downZ_out (r : Int) (h0 : -2147483648 ≤ r) (h1 : r ≤ 2147483647) (h : r < 0 ∨ 1199 < r) : downZ r = r := by
  unfold downZ
  rw [if_neg (by omega), smallA_eq r h0 h1, smallP_out r (by omega)]
  omega

/-- From each number below 1200, and from all others by what stands still there. -/
theorem everywhere (P : Int → Prop) (hin : ∀ k : Nat, k < 1200 → P (k : Int)) (hout : ∀ r : Int, -2147483648 ≤ r → r ≤ 2147483647 → upZ r = r → downZ r = r → P r)
    (r : Int) (h0 : -2147483648 ≤ r) (h1 : r ≤ 2147483647) : P r := by
  by_cases h : 0 ≤ r ∧ r < 1200
  · have := hin r.toNat (by omega)
    rwa [Int.toNat_of_nonneg h.1] at this
  · exact hout r h0 h1 (upZ_out r (by omega)) (downZ_out r h0 h1 (by omega))

theorem pair_one (r : Int) (h0 : -2147483648 ≤ r) (h1 : r ≤ 2147483647) : upZ r = r ∨ downZ r = r :=
  everywhere (fun r => upZ r = r ∨ downZ r = r) (by decide +kernel) (fun r _ _ a _ => Or.inl a) r h0 h1
theorem pair_down (r : Int) (h0 : -2147483648 ≤ r) (h1 : r ≤ 2147483647) : upZ r = r ∨ r = 962 ∨ r = 383 ∨ downZ (upZ r) = r :=
  everywhere (fun r => upZ r = r ∨ r = 962 ∨ r = 383 ∨ downZ (upZ r) = r) (by decide +kernel) (fun r _ _ a _ => Or.inl a) r h0 h1
theorem pair_up (r : Int) (h0 : -2147483648 ≤ r) (h1 : r ≤ 2147483647) : downZ r = r ∨ upZ (downZ r) = r :=
  everywhere (fun r => downZ r = r ∨ upZ (downZ r) = r) (by decide +kernel) (fun r _ _ _ a => Or.inl a) r h0 h1
theorem up_up (r : Int) (h0 : -2147483648 ≤ r) (h1 : r ≤ 2147483647) : upZ (upZ r) = upZ r :=
  everywhere (fun r => upZ (upZ r) = upZ r) (by decide +kernel) (fun r _ _ a _ => by simp only [a]) r h0 h1
theorem down_down (r : Int) (h0 : -2147483648 ≤ r) (h1 : r ≤ 2147483647) : downZ (downZ r) = downZ r :=
  everywhere (fun r => downZ (downZ r) = downZ r) (by decide +kernel) (fun r _ _ _ a => by simp only [a]) r h0 h1
theorem pair_letters (r : Int) (h0 : -2147483648 ≤ r) (h1 : r ≤ 2147483647) : (upZ r = r ∧ downZ r = r) ∨ (letterB r = true ∧ letterB (upZ r) = true ∧ letterB (downZ r) = true) :=
  everywhere (fun r => (upZ r = r ∧ downZ r = r) ∨ (letterB r = true ∧ letterB (upZ r) = true ∧ letterB (downZ r) = true)) (by decide +kernel) (fun r _ _ a b => Or.inl ⟨a, b⟩) r h0 h1
end Go.Proofs.Ytmoakjonlfilgaa
