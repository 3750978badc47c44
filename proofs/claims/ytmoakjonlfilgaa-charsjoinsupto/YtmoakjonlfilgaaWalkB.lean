/- Walks of Up, Down, Letter and of the document's functions on characters. -/
import Derived.Test.YtmoakjonlfilgaaWalkA
namespace Go.Proofs.Ytmoakjonlfilgaa
open Go.RowKit
set_option linter.unusedSimpArgs false

set_option maxHeartbeats 1000000 in
theorem up_any (r : Int) (h0 : -2147483648 ≤ r) (h1 : r ≤ 2147483647) (w : World) :
    Calls Try.prog 9 #[.int .i32 r] w fun e w' => e = .returned (.int .i32 (upZ r)) ∧ w' = w := by
  have HC : Hid _ := capB_cases r
  have hb : -2147483648 ≤ r - capB r ∧ r - capB r ≤ 2147483647 := by
    have := HC.out
    omega
  go_enter Try.func9, Try.ntmps9
  go_wp2_with (go_at_call 28; refine (cap_any _ _).mono ?_; rintro e w' ⟨rfl, rfl⟩)
  all_goals go_ret
  all_goals refine ⟨ret_int ?_, rfl⟩
  all_goals (unfold upZ; simp at *; first | omega | simp [*])

set_option maxHeartbeats 1000000 in
theorem down_any (r : Int) (h0 : -2147483648 ≤ r) (h1 : r ≤ 2147483647) (w : World) :
    Calls Try.prog 11 #[.int .i32 r] w fun e w' => e = .returned (.int .i32 (downZ r)) ∧ w' = w := by
  have hb : -2147483648 ≤ r + smallA r ∧ r + smallA r ≤ 2147483647 := by
    rw [smallA_eq r h0 h1]
    have := smallP_cases r
    unfold SmallAt at this
    omega
  go_enter Try.func11, Try.ntmps11
  go_wp2_with (go_at_call 30; refine (smallA_any _ _).mono ?_; rintro e w' ⟨rfl, rfl⟩)
  all_goals go_ret
  all_goals refine ⟨ret_int ?_, rfl⟩
  all_goals (unfold downZ; simp at *; first | omega | simp [*])

set_option maxHeartbeats 1000000 in
theorem letter_any (r : Int) (w : World) :
    Calls Try.prog 13 #[.int .i32 r] w fun e w' => e = .returned (.bool (letterB r)) ∧ w' = w := by
  go_enter Try.func13, Try.ntmps13
  go_wp2_with (first | (go_at_call 28; refine (cap_any _ _).mono ?_; rintro e w' ⟨rfl, rfl⟩) | (go_at_call 30; refine (smallA_any _ _).mono ?_; rintro e w' ⟨rfl, rfl⟩) | (go_at_call 32; refine (alone_any _ _).mono ?_; rintro e w' ⟨rfl, rfl⟩))
  all_goals go_ret
  all_goals refine ⟨ret_bool ?_, rfl⟩
  all_goals (unfold letterB; simp at *; first | omega | simp [*])

end Go.Proofs.Ytmoakjonlfilgaa
