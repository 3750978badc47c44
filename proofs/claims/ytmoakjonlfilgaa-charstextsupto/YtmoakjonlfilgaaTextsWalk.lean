/- The walk of CharsTexts. -/
import Derived.Test.YtmoakjonlfilgaaWalkK
import Derived.Test.YtmoakjonlfilgaaFoldsWalk
namespace Go.Proofs.Ytmoakjonlfilgaa
open Go.RowKit
set_option linter.unusedSimpArgs false
set_option linter.unusedVariables false

set_option maxHeartbeats 1000000 in
theorem texts_of (s U D F T : ByteArray) (c1 : TextCall 19 s U) (c2 : TextCall 20 s U) (c3 : TextCall 21 s D) (c4 : TextCall 22 s D) (c5 : TextCall 23 s F) (c6 : TextCall 24 s F) (c7 : TextCall 25 s T) (c8 : TextCall 26 s T) (w : World) :
    Calls Try.prog 4 #[.string s] w fun e w' => e = .returned (.bool true) ∧ Below w.heap.size w w' := by
  go_enter Try.func4, Try.ntmps4
  go_wp2_with fail
  refine (awake_any _).mono ?_
  rintro e w1 ⟨rfl, b1⟩
  go_wp2_with fail
  refine (c1 _).mono ?_
  rintro e w2 ⟨rfl, b2⟩
  have B2 := b1.trans (b2.mono b1.size)
  clear b1 b2
  go_wp2_with fail
  refine (c2 _).mono ?_
  rintro e w3 ⟨rfl, b3⟩
  have B3 := B2.trans (b3.mono B2.size)
  clear b3 B2
  go_wp2_with fail
  refine (c3 _).mono ?_
  rintro e w4 ⟨rfl, b4⟩
  have B4 := B3.trans (b4.mono B3.size)
  clear b4 B3
  go_wp2_with fail
  refine (c4 _).mono ?_
  rintro e w5 ⟨rfl, b5⟩
  have B5 := B4.trans (b5.mono B4.size)
  clear b5 B4
  go_wp2_with fail
  refine (c5 _).mono ?_
  rintro e w6 ⟨rfl, b6⟩
  have B6 := B5.trans (b6.mono B5.size)
  clear b6 B5
  go_wp2_with fail
  refine (c6 _).mono ?_
  rintro e w7 ⟨rfl, b7⟩
  have B7 := B6.trans (b7.mono B6.size)
  clear b7 B6
  go_wp2_with fail
  refine (c7 _).mono ?_
  rintro e w8 ⟨rfl, b8⟩
  have B8 := B7.trans (b8.mono B7.size)
  clear b8 B7
  go_wp2_with fail
  refine (c8 _).mono ?_
  rintro e w9 ⟨rfl, b9⟩
  have B9 := B8.trans (b9.mono B8.size)
  clear b9 B8
  go_wp2
  go_ret
  exact ⟨rfl, B9⟩

theorem texts_walk (s : ByteArray) (hs : s.size ≤ 1048576) (w : World) :
    Calls Try.prog 4 #[.string s] w fun e w' => e = .returned (.bool true) ∧ Below w.heap.size w w' :=
  texts_of s _ _ _ _ (fun w => upcase_any s w (by omega)) (fun w => rupcase_any s w (by omega)) (fun w => downcase_any s w (by omega)) (fun w => rdowncase_any s w (by omega))
    (fun w => fold_any s w (by omega)) (fun w => rfold_any s w (by omega)) (fun w => titlecase_any s w (by omega)) (fun w => rtitlecase_any s w (by omega)) w
end Go.Proofs.Ytmoakjonlfilgaa
