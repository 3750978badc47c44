/- Capitals, folds, small letters and titles of two texts, one behind the other. -/
import Derived.Test.YtmoakjonlfilgaaWalkK
namespace Go.Proofs.Ytmoakjonlfilgaa
open Go.RowKit
set_option linter.unusedSimpArgs false
set_option linter.unusedVariables false

theorem upcase_app (a b : List Int) (ha : ∀ r ∈ a, ValidR r) (hb : ∀ r ∈ b, ValidR r) : upcase (encs a ++ encs b) = upcase (encs a) ++ upcase (encs b) := by
  unfold upcase
  rw [runes_encs_app a _ ha, runes_encs b hb, runes_encs a ha, List.flatMap_append, encs_app]
theorem fold_app (a b : List Int) (ha : ∀ r ∈ a, ValidR r) (hb : ∀ r ∈ b, ValidR r) : fold (encs a ++ encs b) = fold (encs a) ++ fold (encs b) := by
  unfold fold
  rw [runes_encs_app a _ ha, runes_encs b hb, runes_encs a ha, List.flatMap_append, encs_app]
theorem letter32 : letterB 32 = false := by decide +kernel
theorem down32 : downZ 32 = 32 := by decide +kernel
theorem downAt_space (x : Bool) (r : Int) (l b : List Int) : downAt x r (l ++ 32 :: b) = downAt x r l := by
  have : headLetter (l ++ 32 :: b) = headLetter l := by
    cases l with
    | nil => simp [headLetter, letter32]
    | cons y l => rfl
  simp [downAt, this]
theorem downL_space : ∀ (a b : List Int) (x : Bool), downL x (a ++ 32 :: b) = downL x a ++ 32 :: downL false b
  | [], b, x => by
    simp [downL, letter32, downAt, down32]
  | r :: a, b, x => by
    simp only [List.cons_append, downL, downAt_space, downL_space a b]
theorem titleC_space (x : Bool) (r : Int) (l b : List Int) : titleC x r (l ++ 32 :: b) = titleC x r l := by
  simp [titleC, downAt_space]
theorem titleL_space : ∀ (a b : List Int) (x : Bool), titleL x (a ++ 32 :: b) = titleL x a ++ 32 :: titleL false b
  | [], b, x => by
    simp [titleL, letter32, titleC]
  | r :: a, b, x => by
    simp only [List.cons_append, titleL, titleC_space, titleL_space a b, List.append_assoc]
theorem space_valid (b : List Int) (hb : ∀ r ∈ b, ValidR r) : ∀ r ∈ (32 : Int) :: b, ValidR r := by
  intro r hr
  rcases List.mem_cons.1 hr with rfl | hr
  · exact validR_low _ (by omega) (by omega)
  · exact hb r hr
theorem encs_space (b : List Int) : encs (32 :: b) = 32 :: encs b := by
  have : Lib.encodeRune 32 = [32] := by decide +kernel
  rw [encs_cons, this]
  rfl
theorem runes_space (a b : List Int) (ha : ∀ r ∈ a, ValidR r) (hb : ∀ r ∈ b, ValidR r) : runes (encs a ++ 32 :: encs b) = a ++ 32 :: b := by
  rw [← encs_space, runes_encs_app a _ ha, runes_encs _ (space_valid b hb)]
theorem downcase_app (a b : List Int) (ha : ∀ r ∈ a, ValidR r) (hb : ∀ r ∈ b, ValidR r) : downcase (encs a ++ 32 :: encs b) = downcase (encs a) ++ 32 :: downcase (encs b) := by
  unfold downcase
  rw [runes_space a b ha hb, runes_encs a ha, runes_encs b hb, downL_space, encs_app, encs_space]
theorem titlecase_app (a b : List Int) (ha : ∀ r ∈ a, ValidR r) (hb : ∀ r ∈ b, ValidR r) : titlecase (encs a ++ 32 :: encs b) = titlecase (encs a) ++ 32 :: titlecase (encs b) := by
  unfold titlecase
  rw [runes_space a b ha hb, runes_encs a ha, runes_encs b hb, titleL_space, encs_app, encs_space]
theorem downcase_len (l : List UInt8) : (downcase l).length ≤ 8 * l.length := by
  have a := encs_len (downL false (runes l))
  have b := downL_len (runes l) false
  have c := runes_len l
  unfold downcase
  omega
theorem titlecase_len (l : List UInt8) : (titlecase l).length ≤ 8 * l.length := by
  have a := encs_len (titleL false (runes l))
  have b := titleL_len (runes l) false
  have c := runes_len l
  unfold titlecase
  omega
end Go.Proofs.Ytmoakjonlfilgaa
