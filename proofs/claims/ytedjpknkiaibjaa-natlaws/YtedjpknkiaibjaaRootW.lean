/- Walk of Root. -/
import Derived.Test.YtedjpknkiaibjaaNatZ
import Derived.Test.YtedjpknkiaibjaaNatK
namespace Go.Proofs.Ytedjpknkiaibjaa
open Go.RowKit
set_option linter.unusedVariables false
set_option linter.unusedSimpArgs false

def isRoot (x s : Nat) : Prop := s * s ≤ x ∧ x < (s + 1) * (s + 1)
def rootA (a : List Nat) (s : Nat) : List Nat × List Nat × Int := if sound a then (words s, words (val a - s * s), 0) else ([], [], 2)

set_option maxHeartbeats 1000000 in
set_option maxRecDepth 1000000 in
theorem rootN_any {w : World} {ao : Option Addr} {a : List Nat} (ca : Nat) (ha : Rd w ao a) (la : a.length ≤ 9223372036854775807) (hnil : ao = none → ca = 0) :
    Calls Try.prog 31 #[.slice ao a.length ca] w fun e w' => ∃ s, (sound a = true → isRoot (val a) s ∧ (words s).length ≤ 300) ∧ Ans3 w (rootA a s) e w' := by
  have c1 := sound_any ca ha la
  by_cases hs : sound a = true
  · obtain ⟨ea, na⟩ := sound_words ha.dig hs
    unfold rootA
    rw [hs] at c1
    simp only [hs, if_true]
    generalize val a = x at *
    subst ea
    have c2 := root_any ca ha na hnil
    have HA : Hid _ := ha
    obtain ⟨n, HN⟩ : ∃ n, Hid ((words x).length = n) := ⟨_, rfl⟩
    rw [HN.out] at c1 c2 na ⊢
    have HC2 : Hid _ := c2
    clear c2 ha la hnil hs
    go_enter Try.func31, Try.ntmps31
    go_wp2_with fail
    refine c1.mono ?_
    rintro e w' ⟨rfl, hw'⟩
    have hw' := hw'.symm
    subst hw'
    clear c1
    go_wp2_with fail
    refine Calls.mono HC2.out ?_
    rintro e w1 ⟨s, h1, h2, hls, so, sc, rfl, os, b1⟩
    have c3 := product_any sc sc os.rd os.rd (by omega) (by omega)
    have HC3 : Hid _ := c3
    have HOS : Hid _ := os
    have HB1 : Hid _ := b1
    have HR : Hid (isRoot x s) := ⟨h1, h2⟩
    have HLE : Hid _ := h1
    obtain ⟨ls, HLS⟩ : ∃ l, Hid ((words s).length = l) := ⟨_, rfl⟩
    rw [HLS.out] at HC3 hls ⊢
    clear c3 os b1 h1 h2 HC2
    go_wp2_with fail
    refine Calls.mono HC3.out ?_
    rintro e w2 ⟨po, pc, rfl, op, b2⟩
    have c4 := difference_any ca pc (HA.out.below (chain2 HB1.out b2)) op.rd (by rw [HN.out]; omega) HLE.out
    rw [HN.out] at c4
    have HC4 : Hid _ := c4
    have HOS2 : Hid _ := HOS.out.below b2
    have HB2 : Hid _ := chain2 HB1.out b2
    clear op b2 c4 HC3
    go_wp2_with fail
    refine Calls.mono HC4.out ?_
    rintro e w3 ⟨do_, dc, rfl, od, b3⟩
    have HOS3 : Hid _ := HOS2.out.below b3
    have HOD : Hid _ := od.lower HB2.out.size
    have HB3 : Hid _ := chain2 HB2.out b3
    clear od b3 HC4
    go_wp2
    go_ret3
    refine ⟨s, fun _ => ⟨HR.out, by rw [HLS.out]; exact hls⟩, so, sc, do_, dc, ?_, HOS3.out, HOD.out, HB3.out⟩
    rw [HLS.out]
    rfl
  · simp only [Bool.not_eq_true] at hs
    rw [hs] at c1
    have HS : Hid _ := hs
    have HR : Hid (rootA a 0 = ([], [], 2)) := by unfold rootA; rw [hs]; rfl
    generalize a.length = n at *
    clear ha hnil hs
    go_enter Try.func31, Try.ntmps31
    go_wp2_with fail
    refine c1.mono ?_
    rintro e w' ⟨rfl, rfl⟩
    go_wp2
    go_ret3
    refine ⟨0, fun h => ?_, ?_⟩
    · rw [HS.out] at h
      cases h
    · rw [HR.out]
      exact Ans3.none _ _
end Go.Proofs.Ytedjpknkiaibjaa
