/- Folding and capitals of lists of characters: done twice they are done once, and capitals fold as what they were. -/
import Derived.Test.YtmoakjonlfilgaaPairsMath
import Derived.Test.YtmoakjonlfilgaaWalkD
namespace Go.Proofs.Ytmoakjonlfilgaa
open Go.RowKit
set_option linter.unusedVariables false

theorem upC_out (r : Int) (h : upZ r = r) : upC r = [r] ∨ r = 223 := by
  unfold upC
  split
  · right; assumption
  · rw [h]; left; rfl
theorem foldC_out (r : Int) (h : upZ r = r) (h2 : downZ r = r) : foldC r = [r] ∨ r = 223 := by
  unfold foldC
  split
  · right; assumption
  · rw [h, h2]; left; rfl

theorem up1 (r : Int) (h0 : -2147483648 ≤ r) (h1 : r ≤ 2147483647) : (upC r).flatMap upC = upC r :=
  everywhere (fun r => (upC r).flatMap upC = upC r) (by decide +kernel) (fun r _ _ a _ => by
    rcases upC_out r a with h | h
    · simp [h]
    · subst h; decide +kernel) r h0 h1
theorem fold1 (r : Int) (h0 : -2147483648 ≤ r) (h1 : r ≤ 2147483647) : (foldC r).flatMap foldC = foldC r :=
  everywhere (fun r => (foldC r).flatMap foldC = foldC r) (by decide +kernel) (fun r _ _ a b => by
    rcases foldC_out r a b with h | h
    · simp [h]
    · subst h; decide +kernel) r h0 h1
theorem fold2 (r : Int) (h0 : -2147483648 ≤ r) (h1 : r ≤ 2147483647) : (upC r).flatMap foldC = foldC r :=
  everywhere (fun r => (upC r).flatMap foldC = foldC r) (by decide +kernel) (fun r _ _ a b => by
    rcases upC_out r a with h | h
    · simp [h]
    · subst h; decide +kernel) r h0 h1
theorem validR_low (r : Int) (h0 : 0 ≤ r) (h1 : r < 55296) : ValidR r := ⟨h0, by omega, by omega⟩
theorem upZ_valid (r : Int) (h : ValidR r) : ValidR (upZ r) := by
  have hc := capB_cases r
  obtain ⟨a, b, c⟩ := h
  unfold upZ
  split
  · exact validR_low _ (by omega) (by omega)
  · split
    · exact validR_low _ (by omega) (by omega)
    · split
      · exact validR_low _ (by omega) (by omega)
      · exact ⟨by omega, by omega, by omega⟩
theorem downZ_valid (r : Int) (h : ValidR r) : ValidR (downZ r) := by
  have hc := smallP_cases r
  obtain ⟨a, b, c⟩ := h
  unfold downZ
  rw [smallA_eq r (by omega) (by omega)]
  unfold SmallAt at hc
  split
  · exact validR_low _ (by omega) (by omega)
  · exact ⟨by omega, by omega, by omega⟩
theorem upC_valid (r : Int) (h : ValidR r) : ∀ x ∈ upC r, ValidR x := by
  unfold upC
  split
  · intro x hx
    simp at hx
    subst hx
    exact validR_low _ (by omega) (by omega)
  · intro x hx
    simp at hx
    subst hx
    exact upZ_valid r h
theorem foldC_valid (r : Int) (h : ValidR r) : ∀ x ∈ foldC r, ValidR x := by
  unfold foldC
  split
  · intro x hx
    simp at hx
    subst hx
    exact validR_low _ (by omega) (by omega)
  · intro x hx
    simp at hx
    subst hx
    exact downZ_valid _ (upZ_valid r h)
theorem flat_valid (F : Int → List Int) (hF : ∀ r, ValidR r → ∀ x ∈ F r, ValidR x) (l : List Int) (hl : ∀ r ∈ l, ValidR r) : ∀ x ∈ l.flatMap F, ValidR x := by
  intro x hx
  obtain ⟨r, hr, hx⟩ := List.mem_flatMap.1 hx
  exact hF r (hl r hr) x hx
theorem flat_again (F G K : Int → List Int) (h : ∀ r, ValidR r → (F r).flatMap G = K r) : ∀ (l : List Int), (∀ r ∈ l, ValidR r) → (l.flatMap F).flatMap G = l.flatMap K
  | [], _ => rfl
  | r :: l, hl => by
    rw [List.flatMap_cons, List.flatMap_append, List.flatMap_cons, h r (hl r (by simp)), flat_again F G K h l (fun x hx => hl x (by simp [hx]))]
theorem valid_bd {r : Int} (h : ValidR r) : -2147483648 ≤ r ∧ r ≤ 2147483647 := ⟨by have := h.1; omega, by have := h.2.1; omega⟩

theorem upcase_upcase (l : List UInt8) : upcase (upcase l) = upcase l := by
  unfold upcase
  rw [runes_encs _ (flat_valid upC upC_valid _ (runes_valid l)), flat_again upC upC upC (fun r h => up1 r (valid_bd h).1 (valid_bd h).2) _ (runes_valid l)]
theorem fold_fold (l : List UInt8) : fold (fold l) = fold l := by
  unfold fold
  rw [runes_encs _ (flat_valid foldC foldC_valid _ (runes_valid l)), flat_again foldC foldC foldC (fun r h => fold1 r (valid_bd h).1 (valid_bd h).2) _ (runes_valid l)]
theorem fold_upcase (l : List UInt8) : fold (upcase l) = fold l := by
  unfold fold upcase
  rw [runes_encs _ (flat_valid upC upC_valid _ (runes_valid l)), flat_again upC foldC foldC (fun r h => fold2 r (valid_bd h).1 (valid_bd h).2) _ (runes_valid l)]

theorem flat_len (F : Int → List Int) (hF : ∀ r, (F r).length ≤ 2) : ∀ l : List Int, (l.flatMap F).length ≤ 2 * l.length
  | [] => by simp
  | r :: l => by
    have := flat_len F hF l
    have := hF r
    simp only [List.flatMap_cons, List.length_append, List.length_cons]
    omega
theorem upC_len (r : Int) : (upC r).length ≤ 2 := by unfold upC; split <;> simp
theorem foldC_len (r : Int) : (foldC r).length ≤ 2 := by unfold foldC; split <;> simp
theorem upcase_len (l : List UInt8) : (upcase l).length ≤ 8 * l.length := by
  have a := encs_len ((runes l).flatMap upC)
  have b := flat_len upC upC_len (runes l)
  have c := runes_len l
  unfold upcase
  omega
theorem fold_len (l : List UInt8) : (fold l).length ≤ 8 * l.length := by
  have a := encs_len ((runes l).flatMap foldC)
  have b := flat_len foldC foldC_len (runes l)
  have c := runes_len l
  unfold fold
  omega
end Go.Proofs.Ytmoakjonlfilgaa
