/- Walks of Sub, Cmp, Bits and Of, the program's own and the document's. -/
import Derived.Test.YtfhpeeljjcphpaaNatL
import Derived.Test.YtfhpeeljjcphpaaShelf
import Derived.Test.YtfhpeeljjcphpaaBitLen
namespace Go.Proofs.Ytfhpeeljjcphpaa
open Go.RowKit
set_option linter.unusedVariables false
set_option linter.unusedSimpArgs false

def subS (a b : List Nat) : List Nat × Int := if sound a && sound b then (if val a < val b then ([], 1) else (words (val a - val b), 0)) else ([], 2)
def cmpS (a b : List Nat) : Int := if sound a && sound b then cmpN (val a) (val b) else 0
theorem cmp_lt {x y : Nat} (h : x < y) : cmpN x y = -1 := by unfold cmpN; rw [if_pos h]
theorem cmp_gt {x y : Nat} (h : y < x) : cmpN x y = 1 := by unfold cmpN; rw [if_neg (by omega), if_pos h]
theorem cmp_eq (x : Nat) : cmpN x x = 0 := by unfold cmpN; simp
theorem cmp_ge {x y : Nat} (h : ¬ x < y) : (cmpN x y < 0) = False := by
  unfold cmpN
  rw [if_neg h]
  split <;> simp

set_option maxHeartbeats 1000000 in
set_option maxRecDepth 1000000 in
theorem sub_any {w : World} {ao bo : Option Addr} {a b : List Nat} (ca cb : Nat) (ha : Rd w ao a) (hb : Rd w bo b) (la : a.length ≤ 9223372036854775807) (lb : b.length ≤ 9223372036854775807) :
    Calls Try.prog 54 #[.slice ao a.length ca, .slice bo b.length cb] w (Ans w (subS a b)) := by
  have c1 := sound_any ca ha la
  have c2 := sound_any cb hb lb
  unfold subS
  by_cases hs : sound a = true
  · by_cases ht : sound b = true
    · obtain ⟨ea, na⟩ := sound_words ha.dig hs
      obtain ⟨eb, nb⟩ := sound_words hb.dig ht
      rw [hs] at c1 ⊢
      rw [ht] at c2 ⊢
      generalize val a = x at *
      generalize val b = y at *
      subst ea eb
      have c3 := order_any ca cb ha hb (by omega) (by omega)
      have HA : Hid _ := ha
      have HBB : Hid _ := hb
      have HNA : Hid _ := na
      clear hs ht ha hb la lb
      obtain ⟨n, hn⟩ : ∃ n, (words x).length = n := ⟨_, rfl⟩
      obtain ⟨m, hm⟩ : ∃ m, (words y).length = m := ⟨_, rfl⟩
      have HN : Hid _ := hn
      have HM : Hid _ := hm
      rw [hn] at c1 c3 ⊢
      rw [hm] at c2 c3 ⊢
      clear hn hm na nb
      by_cases hxy : x < y
      · rw [cmp_lt hxy] at c3
        simp only [Bool.and_self, if_true, hxy]
        have HC3 : Hid _ := c3
        clear c3 hxy
        go_enter Try.func54, Try.ntmps54
        go_wp2_with fail
        refine c1.mono ?_
        rintro e w' ⟨rfl, rfl⟩
        go_wp2_with fail
        refine c2.mono ?_
        rintro e w' ⟨rfl, rfl⟩
        clear c1 c2
        go_wp2_with fail
        refine Calls.mono HC3.out ?_
        rintro e w1 ⟨rfl, hb1⟩
        have HB1 : Hid _ := hb1
        clear hb1
        go_wp2
        go_ret2
        exact Ans.intro (Own.nil _ _) HB1.out
      · have hge := cmp_ge hxy
        obtain ⟨k, hk⟩ : ∃ k, cmpN x y = k := ⟨_, rfl⟩
        rw [hk] at c3 hge
        clear hk
        have hk0 : ¬ k < 0 := by rw [hge]; exact not_false
        clear hge
        have HXY : Hid _ := hxy
        simp only [Bool.and_self, if_true, hxy, if_false]
        have HC3 : Hid _ := c3
        clear c3 hxy
        go_enter Try.func54, Try.ntmps54
        go_wp2_with fail
        refine c1.mono ?_
        rintro e w' ⟨rfl, rfl⟩
        go_wp2_with fail
        refine c2.mono ?_
        rintro e w' ⟨rfl, rfl⟩
        clear c1 c2
        go_wp2_with fail
        refine Calls.mono HC3.out ?_
        rintro e w1 ⟨rfl, hb1⟩
        have c4 := difference_any ca cb (HA.out.below hb1) (HBB.out.below hb1) (by have := HNA.out; omega) (Nat.le_of_not_lt HXY.out)
        rw [HN.out, HM.out] at c4
        have HC4 : Hid _ := c4
        have HB1 : Hid _ := hb1
        clear hb1 c4
        go_wp2_with fail
        refine Calls.mono HC4.out ?_
        rintro e w2 ⟨ro, rc, rfl, ho, hb2⟩
        have HO : Hid _ := ho.lower HB1.out.size
        have HB2 : Hid _ := HB1.out.trans (hb2.mono HB1.out.size)
        clear ho hb2
        go_wp2
        go_ret2
        exact ⟨_, _, rfl, HO.out, HB2.out⟩
    · simp only [Bool.not_eq_true] at ht
      rw [hs] at c1
      rw [ht] at c2
      rw [hs, ht]
      clear ha hb la lb hs ht
      generalize a.length = n at *
      generalize b.length = m at *
      go_enter Try.func54, Try.ntmps54
      go_wp2_with fail
      refine c1.mono ?_
      rintro e w' ⟨rfl, rfl⟩
      go_wp2_with fail
      refine c2.mono ?_
      rintro e w' ⟨rfl, rfl⟩
      go_wp2
      go_ret2
      exact Ans.intro (Own.nil _ _) (Below.refl _ _)
  · simp only [Bool.not_eq_true] at hs
    rw [hs] at c1 ⊢
    clear ha hb la lb hs c2
    generalize a.length = n at *
    generalize b.length = m at *
    go_enter Try.func54, Try.ntmps54
    go_wp2_with fail
    refine c1.mono ?_
    rintro e w' ⟨rfl, rfl⟩
    go_wp2
    go_ret2
    exact Ans.intro (Own.nil _ _) (Below.refl _ _)

end Go.Proofs.Ytfhpeeljjcphpaa
