/- The walk of CharsFolds. -/
import Derived.Test.YtmoakjonlfilgaaFoldsMath
namespace Go.Proofs.Ytmoakjonlfilgaa
open Go.RowKit
set_option linter.unusedSimpArgs false
set_option linter.unusedVariables false

/-- A call of a function that takes a text and answers a text, and makes memory of its own alone. -/
def TextCall (f : Nat) (s t : ByteArray) : Prop := ∀ w : World, Calls Try.prog f #[.string s] w fun e w' => e = .returned (.string t) ∧ Below w.heap.size w w'

theorem bytes_len (l : List UInt8) : (ByteArray.mk l.toArray).size = l.length := by
  show l.toArray.size = _
  simp

set_option maxHeartbeats 1000000 in
theorem folds_of (s F U : ByteArray) (c1 : TextCall 23 s F) (c2 : TextCall 19 s U) (c3 : TextCall 23 F F) (c4 : TextCall 23 U F) (c5 : TextCall 19 U U) (w : World) :
    Calls Try.prog 6 #[.string s] w fun e w' => e = .returned (.bool true) ∧ Below w.heap.size w w' := by
  go_enter Try.func6, Try.ntmps6
  go_wp2_with fail
  refine (c1 _).mono ?_
  rintro e w1 ⟨rfl, b1⟩
  go_wp2_with fail
  refine (c2 _).mono ?_
  rintro e w2 ⟨rfl, b2⟩
  go_wp2_with fail
  refine (awake_any _).mono ?_
  rintro e w3 ⟨rfl, b3⟩
  go_wp2_with fail
  refine (c3 _).mono ?_
  rintro e w4 ⟨rfl, b4⟩
  go_wp2_with fail
  refine (c4 _).mono ?_
  rintro e w5 ⟨rfl, b5⟩
  go_wp2_with fail
  refine (c5 _).mono ?_
  rintro e w6 ⟨rfl, b6⟩
  go_wp2
  go_ret
  have B2 := b1.trans (b2.mono b1.size)
  have B3 := B2.trans (b3.mono B2.size)
  have B4 := B3.trans (b4.mono B3.size)
  have B5 := B4.trans (b5.mono B4.size)
  exact ⟨rfl, B5.trans (b6.mono B5.size)⟩

theorem folds_walk (s : ByteArray) (hs : s.size ≤ 1048576) (w : World) :
    Calls Try.prog 6 #[.string s] w fun e w' => e = .returned (.bool true) ∧ Below w.heap.size w w' := by
  have hl : s.data.toList.length = s.size := by rw [Array.length_toList]; rfl
  have h1 := upcase_len s.data.toList
  have h2 := fold_len s.data.toList
  refine folds_of s ⟨(fold s.data.toList).toArray⟩ ⟨(upcase s.data.toList).toArray⟩ (fun w => fold_any s w (by omega)) (fun w => upcase_any s w (by omega)) ?_ ?_ ?_ w
  · intro w
    have h := fold_any ⟨(fold s.data.toList).toArray⟩ w (by rw [bytes_len]; omega)
    simp only [List.toList_toArray] at h
    rwa [fold_fold] at h
  · intro w
    have h := fold_any ⟨(upcase s.data.toList).toArray⟩ w (by rw [bytes_len]; omega)
    simp only [List.toList_toArray] at h
    rwa [fold_upcase] at h
  · intro w
    have h := upcase_any ⟨(upcase s.data.toList).toArray⟩ w (by rw [bytes_len]; omega)
    simp only [List.toList_toArray] at h
    rwa [upcase_upcase] at h
end Go.Proofs.Ytmoakjonlfilgaa
