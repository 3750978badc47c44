/- Walks of the small functions on characters. -/
import Derived.Test.YtmoakjonlfilgaaMath
import Derived.Test.YtmoakjonlfilgaaProg
import Derived.WalkKit
import Derived.WalkSpells
import Derived.Deep.Light
namespace Go.Proofs.Ytmoakjonlfilgaa
open Go.RowKit
set_option linter.unusedSimpArgs false

theorem ret_int {k : IntKind} {a b : Int} (h : a = b) : Ending.returned (.int k a) = .returned (.int k b) := by rw [h]
theorem ret_bool {a b : Bool} (h : a = b) : Ending.returned (.bool a) = .returned (.bool b) := by rw [h]

set_option maxHeartbeats 400000 in
theorem even_any (r : Int) (w : World) :
    Calls Try.prog 38 #[.int .i32 r] w fun e w' => e = .returned (.bool (evenB r)) ∧ w' = w := by
  go_enter Try.func38, Try.ntmps38
  go_wp2
  all_goals go_ret
  all_goals refine ⟨ret_bool ?_, rfl⟩
  all_goals (unfold evenB; rw [Bool.eq_iff_iff]; simp at *; omega)

set_option maxHeartbeats 400000 in
theorem odd_any (r : Int) (w : World) :
    Calls Try.prog 39 #[.int .i32 r] w fun e w' => e = .returned (.bool (oddB r)) ∧ w' = w := by
  go_enter Try.func39, Try.ntmps39
  go_wp2
  all_goals go_ret
  all_goals refine ⟨ret_bool ?_, rfl⟩
  all_goals (unfold oddB; rw [Bool.eq_iff_iff]; simp at *; try omega)

set_option maxHeartbeats 400000 in
theorem alone_any (r : Int) (w : World) :
    Calls Try.prog 32 #[.int .i32 r] w fun e w' => e = .returned (.bool (aloneB r)) ∧ w' = w := by
  go_enter Try.func32, Try.ntmps32
  go_wp2
  all_goals go_ret
  all_goals refine ⟨ret_bool ?_, rfl⟩
  all_goals (unfold aloneB; rw [Bool.eq_iff_iff]; simp at *; try omega)

set_option maxHeartbeats 400000 in
theorem blank_any (r : Int) (w : World) :
    Calls Try.prog 17 #[.int .i32 r] w fun e w' => e = .returned (.bool (blankB r)) ∧ w' = w := by
  go_enter Try.func17, Try.ntmps17
  go_wp2
  all_goals go_ret
  all_goals refine ⟨ret_bool ?_, rfl⟩
  all_goals (unfold blankB; rw [Bool.eq_iff_iff]; simp at *; try omega)

set_option maxHeartbeats 400000 in
theorem digit_any (r : Int) (w : World) :
    Calls Try.prog 15 #[.int .i32 r] w fun e w' => e = .returned (.int .i64 (digitZ r)) ∧ w' = w := by
  go_enter Try.func15, Try.ntmps15
  go_wp2
  all_goals go_ret
  all_goals refine ⟨ret_int ?_, rfl⟩
  all_goals (unfold digitZ; repeat (first | rw [if_pos (by omega)] | rw [if_neg (by omega)]))

set_option maxHeartbeats 1000000 in
theorem cap_any (r : Int) (w : World) :
    Calls Try.prog 28 #[.int .i32 r] w fun e w' => e = .returned (.int .i32 (capB r)) ∧ w' = w := by
  have HC : Hid _ := capB_cases r
  have h0 : evenB r = true → 0 ≤ r := by rw [evenB_t]; omega
  have h1 : oddB r = true → 0 ≤ r := by rw [oddB_t]; omega
  by_cases he : evenB r = true
  · have hr := h0 he
    clear h0 h1
    go_enter Try.func28, Try.ntmps28
    go_wp2_with (first | (go_at_call 38; refine (even_any _ _).mono ?_; rintro e w' ⟨rfl, rfl⟩) | (go_at_call 39; refine (odd_any _ _).mono ?_; rintro e w' ⟨rfl, rfl⟩))
    all_goals go_ret
    all_goals refine ⟨ret_int ?_, rfl⟩
    all_goals (have hc := HC.out; go_light; simp only [evenB_t, oddB_t, evenB_f, oddB_f, Bool.not_eq_true, beq_iff_eq, bne_iff_ne, beq_eq_false_iff_ne, bne_eq_false_iff_eq, ne_eq] at *; omega)
  · by_cases ho : oddB r = true
    · have hr := h1 ho
      clear h0 h1
      go_enter Try.func28, Try.ntmps28
      go_wp2_with (first | (go_at_call 38; refine (even_any _ _).mono ?_; rintro e w' ⟨rfl, rfl⟩) | (go_at_call 39; refine (odd_any _ _).mono ?_; rintro e w' ⟨rfl, rfl⟩))
      all_goals go_ret
      all_goals refine ⟨ret_int ?_, rfl⟩
      all_goals (have hc := HC.out; go_light; simp only [evenB_t, oddB_t, evenB_f, oddB_f, Bool.not_eq_true, beq_iff_eq, bne_iff_ne, beq_eq_false_iff_ne, bne_eq_false_iff_eq, ne_eq] at *; omega)
    · clear h0 h1
      go_enter Try.func28, Try.ntmps28
      go_wp2_with (first | (go_at_call 38; refine (even_any _ _).mono ?_; rintro e w' ⟨rfl, rfl⟩) | (go_at_call 39; refine (odd_any _ _).mono ?_; rintro e w' ⟨rfl, rfl⟩))
      all_goals go_ret
      all_goals refine ⟨ret_int ?_, rfl⟩
      all_goals (have hc := HC.out; go_light; simp only [evenB_t, oddB_t, evenB_f, oddB_f, Bool.not_eq_true, beq_iff_eq, bne_iff_ne, beq_eq_false_iff_ne, bne_eq_false_iff_eq, ne_eq] at *; omega)
set_option maxHeartbeats 1000000 in
theorem smallA_any (r : Int) (w : World) :
    Calls Try.prog 30 #[.int .i32 r] w fun e w' => e = .returned (.int .i32 (smallA r)) ∧ w' = w := by
  go_enter Try.func30, Try.ntmps30
  go_wp2_with (go_at_call 28; refine (cap_any _ _).mono ?_; rintro e w' ⟨rfl, rfl⟩)
  all_goals go_ret
  all_goals refine ⟨ret_int ?_, rfl⟩
  all_goals (unfold smallA; simp at *; simp [*])
end Go.Proofs.Ytmoakjonlfilgaa
