/- Walks of the document's functions on characters: Capital, Small. -/
import Derived.Test.YtmoakjonlfilgaaWalkA
namespace Go.Proofs.Ytmoakjonlfilgaa
open Go.RowKit
set_option linter.unusedSimpArgs false

theorem capR_cases (r : Int) : (capB r = 0 ∧ capR r = 0) ∨ (capB r ≠ 0 ∧ capR r = r - capB r) := by
  unfold capR
  split <;> omega

set_option maxHeartbeats 2000000 in
theorem rcap_any (r : Int) (w : World) :
    Calls Try.prog 29 #[.int .i32 r] w fun e w' => e = .returned (.int .i32 (capR r)) ∧ w' = w := by
  by_cases hr : 97 ≤ r
  · have HC : Hid _ := capB_cases r
    have HD : Hid _ := capR_cases r
    go_enter Try.func29, Try.ntmps29
    go_wp2
    all_goals go_ret
    all_goals refine ⟨ret_int ?_, rfl⟩
    all_goals (have hc := HC.out; have hd := HD.out; go_light; simp only [Bool.not_eq_true, beq_iff_eq, bne_iff_ne, beq_eq_false_iff_ne, bne_eq_false_iff_eq, ne_eq] at *; first | omega | (subst_vars; rfl))
  · have h1 : r < 97 := by omega
    have HD : Hid (capR r = 0) := by
      have a := capB_out r (Or.inl h1)
      have b := capR_cases r
      exact b.elim (fun x => x.2) (fun x => absurd a x.1)
    clear hr
    go_enter Try.func29, Try.ntmps29
    go_wp2
    all_goals go_ret
    all_goals exact ⟨ret_int HD.out.symm, rfl⟩
end Go.Proofs.Ytmoakjonlfilgaa
