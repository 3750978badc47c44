/- Walk of the document's sum. -/
import Derived.Test.YtedjpknkiaibjaaNatH
namespace Go.Proofs.Ytedjpknkiaibjaa
open Go.RowKit
set_option linter.unusedVariables false
set_option linter.unusedSimpArgs false

set_option maxHeartbeats 1000000 in
set_option maxRecDepth 1000000 in
theorem radd_any {w : World} {ao bo : Option Addr} {a b : List Nat} (ca cb : Nat) (ha : Rd w ao a) (hb : Rd w bo b) (la : a.length ≤ 9223372036854775807) (lb : b.length ≤ 9223372036854775807) :
    Calls Try.prog 10 #[.slice ao a.length ca, .slice bo b.length cb] w (Ans w (addS a b)) := by
  have c1 := check_any ca cb ha hb la lb
  unfold addS
  by_cases hs : (sound a && sound b) = true
  · rw [if_pos hs] at c1 ⊢
    simp only [Bool.and_eq_true] at hs
    obtain ⟨ea, na⟩ := sound_words ha.dig hs.1
    obtain ⟨eb, nb⟩ := sound_words hb.dig hs.2
    generalize val a = x at *
    generalize val b = y at *
    subst ea eb
    have c3 := plus_any ca cb ha hb (by omega) (by omega)
    have hlen : (words (x + y)).length ≤ 1000000 := by
      have := words_add_length na nb
      omega
    have HC3 : Hid _ := c3
    have HLE : Hid _ := hlen
    clear c3 hlen hs ha hb la lb
    generalize (words x).length = n at *
    generalize (words y).length = m at *
    go_enter Try.func10, Try.ntmps10
    go_wp2_with fail
    refine c1.mono ?_
    rintro e w' ⟨rfl, rfl⟩
    go_wp2_with fail
    refine Calls.mono HC3.out ?_
    rintro e w1 ⟨ro, rc, rfl, ho, hbw⟩
    have c4 := rfit_own ho HLE.out
    have HC4 : Hid _ := c4
    have HB : Hid _ := hbw
    clear ho hbw c1 c4
    go_wp2_with fail
    refine Calls.mono HC4.out ?_
    rintro e w2 ⟨so, sc, rfl, ho, rfl⟩
    have HO : Hid _ := ho
    clear ho
    go_wp2
    go_ret2
    exact ⟨_, _, rfl, HO.out, HB.out⟩
  · rw [if_neg hs] at c1 ⊢
    clear ha hb la lb hs
    generalize a.length = n at *
    generalize b.length = m at *
    go_enter Try.func10, Try.ntmps10
    go_wp2_with fail
    refine c1.mono ?_
    rintro e w' ⟨rfl, rfl⟩
    go_wp2
    go_ret2
    exact Ans.intro (Own.nil _ _) (Below.refl _ _)
end Go.Proofs.Ytedjpknkiaibjaa
