/- The walk of CharsPairs. -/
import Derived.Test.YtmoakjonlfilgaaWalkD
import Derived.Test.YtmoakjonlfilgaaPairsMath
namespace Go.Proofs.Ytmoakjonlfilgaa
open Go.RowKit
set_option linter.unusedSimpArgs false
set_option linter.unusedVariables false

set_option maxHeartbeats 1000000 in
theorem pairs_same (r : Int) (h0 : -2147483648 ≤ r) (h1 : r ≤ 2147483647) (w : World) (hu : upZ r = r) (hd : downZ r = r) :
    Calls Try.prog 5 #[.int .i32 r] w fun e w' => e = .returned (.bool true) ∧ Below w.heap.size w w' := by
  have hub := upZ_bd r h0 h1
  have hdb := downZ_bd r h0 h1
  have p4 : (upZ (upZ r) == upZ r) = true := by rw [up_up r h0 h1]; simp
  have p5 : (downZ (downZ r) == downZ r) = true := by rw [down_down r h0 h1]; simp
  have q1 : (upZ r != r) = false := by simp [hu]
  have q2 : (downZ r != r) = false := by simp [hd]
  have q3 : (upZ r == r) = true := by simp [hu]
  have q4 : (downZ r == r) = true := by simp [hd]
  clear hu hd
  go_enter Try.func5, Try.ntmps5
  go_wp2_with (first | (go_at_call 9; refine (up_any _ (by omega) (by omega) _).mono ?_; rintro e w' ⟨rfl, rfl⟩) | (go_at_call 11; refine (down_any _ (by omega) (by omega) _).mono ?_; rintro e w' ⟨rfl, rfl⟩) | (go_at_call 13; refine (letter_any _ _).mono ?_; rintro e w' ⟨rfl, rfl⟩) | (go_at_call 8; refine (awake_any _).mono ?_; rintro e w' ⟨rfl, hb⟩))
  go_ret
  exact ⟨rfl, hb⟩

set_option maxHeartbeats 1000000 in
theorem pairs_capital (r : Int) (h0 : -2147483648 ≤ r) (h1 : r ≤ 2147483647) (w : World) (hu : upZ r = r) (hd : ¬ downZ r = r) :
    Calls Try.prog 5 #[.int .i32 r] w fun e w' => e = .returned (.bool true) ∧ Below w.heap.size w w' := by
  have hub := upZ_bd r h0 h1
  have hdb := downZ_bd r h0 h1
  have p3 : (upZ (downZ r) != r) = false := by
    have := pair_up r h0 h1
    simp only [bne_eq_false_iff_eq]
    exact this.resolve_left hd
  have p4 : (upZ (upZ r) == upZ r) = true := by rw [up_up r h0 h1]; simp
  have p5 : (downZ (downZ r) == downZ r) = true := by rw [down_down r h0 h1]; simp
  obtain ⟨l1, l2, l3⟩ := (pair_letters r h0 h1).resolve_left (fun h => hd h.2)
  have q1 : (upZ r != r) = false := by simp [hu]
  have q2 : (downZ r != r) = true := by simp [hd]
  have q3 : (upZ r == r) = true := by simp [hu]
  have q4 : (downZ r == r) = false := by simp [hd]
  clear hu hd
  go_enter Try.func5, Try.ntmps5
  go_wp2_with (first | (go_at_call 9; refine (up_any _ (by omega) (by omega) _).mono ?_; rintro e w' ⟨rfl, rfl⟩) | (go_at_call 11; refine (down_any _ (by omega) (by omega) _).mono ?_; rintro e w' ⟨rfl, rfl⟩) | (go_at_call 13; refine (letter_any _ _).mono ?_; rintro e w' ⟨rfl, rfl⟩) | (go_at_call 8; refine (awake_any _).mono ?_; rintro e w' ⟨rfl, hb⟩))
  go_ret
  exact ⟨rfl, hb⟩

set_option maxHeartbeats 1000000 in
theorem pairs_small (r : Int) (h0 : -2147483648 ≤ r) (h1 : r ≤ 2147483647) (w : World) (hu : ¬ upZ r = r) :
    Calls Try.prog 5 #[.int .i32 r] w fun e w' => e = .returned (.bool true) ∧ Below w.heap.size w w' := by
  have hub := upZ_bd r h0 h1
  have hdb := downZ_bd r h0 h1
  have hd : downZ r = r := (pair_one r h0 h1).resolve_left hu
  have p4 : (upZ (upZ r) == upZ r) = true := by rw [up_up r h0 h1]; simp
  have p5 : (downZ (downZ r) == downZ r) = true := by rw [down_down r h0 h1]; simp
  obtain ⟨l1, l2, l3⟩ := (pair_letters r h0 h1).resolve_left (fun h => hu h.1)
  have q1 : (upZ r != r) = true := by simp [hu]
  have q2 : (downZ r != r) = false := by simp [hd]
  have q3 : (upZ r == r) = false := by simp [hu]
  have q4 : (downZ r == r) = true := by simp [hd]
  by_cases ha : r = 962
  · clear hd hu
    subst ha
    go_enter Try.func5, Try.ntmps5
    go_wp2_with (first | (go_at_call 9; refine (up_any _ (by omega) (by omega) _).mono ?_; rintro e w' ⟨rfl, rfl⟩) | (go_at_call 11; refine (down_any _ (by omega) (by omega) _).mono ?_; rintro e w' ⟨rfl, rfl⟩) | (go_at_call 13; refine (letter_any _ _).mono ?_; rintro e w' ⟨rfl, rfl⟩) | (go_at_call 8; refine (awake_any _).mono ?_; rintro e w' ⟨rfl, hb⟩))
    go_ret
    exact ⟨rfl, hb⟩
  · have ha' : (r != 962) = true := by simp [ha]
    by_cases hc : r = 383
    · clear hd hu ha
      subst hc
      go_enter Try.func5, Try.ntmps5
      go_wp2_with (first | (go_at_call 9; refine (up_any _ (by omega) (by omega) _).mono ?_; rintro e w' ⟨rfl, rfl⟩) | (go_at_call 11; refine (down_any _ (by omega) (by omega) _).mono ?_; rintro e w' ⟨rfl, rfl⟩) | (go_at_call 13; refine (letter_any _ _).mono ?_; rintro e w' ⟨rfl, rfl⟩) | (go_at_call 8; refine (awake_any _).mono ?_; rintro e w' ⟨rfl, hb⟩))
      go_ret
      exact ⟨rfl, hb⟩
    · have hc' : (r != 383) = true := by simp [hc]
      have p2 : (downZ (upZ r) != r) = false := by
        have := pair_down r h0 h1
        simp only [bne_eq_false_iff_eq]
        exact ((this.resolve_left hu).resolve_left ha).resolve_left hc
      clear hd hu ha hc
      go_enter Try.func5, Try.ntmps5
      go_wp2_with (first | (go_at_call 9; refine (up_any _ (by omega) (by omega) _).mono ?_; rintro e w' ⟨rfl, rfl⟩) | (go_at_call 11; refine (down_any _ (by omega) (by omega) _).mono ?_; rintro e w' ⟨rfl, rfl⟩) | (go_at_call 13; refine (letter_any _ _).mono ?_; rintro e w' ⟨rfl, rfl⟩) | (go_at_call 8; refine (awake_any _).mono ?_; rintro e w' ⟨rfl, hb⟩))
      go_ret
      exact ⟨rfl, hb⟩

theorem pairs_walk (r : Int) (h0 : -2147483648 ≤ r) (h1 : r ≤ 2147483647) (w : World) :
    Calls Try.prog 5 #[.int .i32 r] w fun e w' => e = .returned (.bool true) ∧ Below w.heap.size w w' := by
  by_cases hu : upZ r = r
  · by_cases hd : downZ r = r
    · exact pairs_same r h0 h1 w hu hd
    · exact pairs_capital r h0 h1 w hu hd
  · exact pairs_small r h0 h1 w hu
end Go.Proofs.Ytmoakjonlfilgaa
