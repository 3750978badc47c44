/- Walk of Shift. -/
import Derived.Test.YtfhpeeljjcphpaaNatP
namespace Go.Proofs.Ytfhpeeljjcphpaa
open Go.RowKit
set_option linter.unusedVariables false
set_option linter.unusedSimpArgs false

def shiftS (a : List Nat) (n : Int) : List Nat × Int :=
  if sound a then (if n < -16384 ∨ 16384 < n then ([], 1) else if n < 0 then (words (val a / 2 ^ (-n).toNat), 0) else fitS (val a * 2 ^ n.toNat)) else ([], 2)
theorem words_shl_length {x k n : Nat} (hx : (words x).length ≤ n) : (words (x * 2 ^ k)).length ≤ n + (k / 32 + 1) := by
  apply words_length_le
  rw [pw_add]
  refine Nat.mul_lt_mul'' (words_length_iff.1 hx) ?_
  rw [pw_two]
  exact Nat.pow_lt_pow_right (by omega) (by omega)

set_option maxHeartbeats 1000000 in
set_option maxRecDepth 1000000 in
theorem shift_any {w : World} {ao : Option Addr} {a : List Nat} (ca : Nat) (n : Int) (ha : Rd w ao a) (la : a.length ≤ 9223372036854775807) (n0 : -9223372036854775808 ≤ n) (n1 : n ≤ 9223372036854775807) :
    Calls Try.prog 38 #[.slice ao a.length ca, .int .i64 n] w (Ans w (shiftS a n)) := by
  have c1 := sound_any ca ha la
  unfold shiftS
  by_cases hs : sound a = true
  · rw [hs] at c1 ⊢
    simp only [if_true]
    obtain ⟨ea, na⟩ := sound_words ha.dig hs
    generalize val a = x at *
    subst ea
    clear hs la
    by_cases hr : n < -16384 ∨ 16384 < n
    · rw [if_pos hr]
      have hr' : n < -16384 ∨ (¬ n < -16384 ∧ 16384 < n) := by omega
      generalize (words x).length = m at *
      clear ha hr
      rcases hr' with h1 | ⟨h1, h2⟩
      all_goals
        go_enter Try.func38, Try.ntmps38
        go_wp2_with fail
        refine c1.mono ?_
        rintro e w' ⟨rfl, rfl⟩
        go_wp2
        go_ret2
        exact Ans.intro (Own.nil _ _) (Below.refl _ _)
    · rw [if_neg hr]
      have h1 : ¬ n < -16384 := by omega
      have h2 : ¬ 16384 < n := by omega
      clear hr
      by_cases hn : n < 0
      · rw [if_pos hn]
        obtain ⟨k, hk⟩ : ∃ k : Nat, -n = (k : Int) := ⟨(-n).toNat, by omega⟩
        have hkn : (-n).toNat = k := by omega
        rw [hkn]
        have c2 := shiftDown_any ca k ha (by omega) (by omega)
        have hk2 : (k : Int) = -n := hk.symm
        rw [hk2] at c2
        have HC2 : Hid _ := c2
        clear c2 ha hk hkn hk2
        generalize (words x).length = m at *
        go_enter Try.func38, Try.ntmps38
        go_wp2_with fail
        refine c1.mono ?_
        rintro e w' ⟨rfl, rfl⟩
        clear c1
        go_wp2_with fail
        refine Calls.mono HC2.out ?_
        rintro e w1 ⟨ro, rc, rfl, ho, hb1⟩
        have HO : Hid _ := ho
        have HB : Hid _ := hb1
        clear ho hb1
        go_wp2
        go_ret2
        exact ⟨_, _, rfl, HO.out, HB.out⟩
      · rw [if_neg hn]
        obtain ⟨k, rfl⟩ : ∃ k : Nat, n = (k : Int) := ⟨n.toNat, by omega⟩
        rw [Int.toNat_natCast]
        have c2 := shiftUp_any ca k ha (by omega) (by omega)
        have HC2 : Hid _ := c2
        have HLE : Hid ((words (x * 2 ^ k)).length ≤ 1000000) := by
          have := words_shl_length (k := k) na
          show (words (x * 2 ^ k)).length ≤ 1000000
          omega
        clear c2 ha
        generalize (words x).length = m at *
        go_enter Try.func38, Try.ntmps38
        go_wp2_with fail
        refine c1.mono ?_
        rintro e w' ⟨rfl, rfl⟩
        clear c1
        go_wp2_with fail
        refine Calls.mono HC2.out ?_
        rintro e w1 ⟨ro, rc, rfl, ho, hb1⟩
        have c4 := fit_own ho HLE.out
        have HC4 : Hid _ := c4
        have HB : Hid _ := hb1
        clear ho hb1 c4
        go_wp2_with fail
        refine Calls.mono HC4.out ?_
        rintro e w2 ⟨so, sc, rfl, ho, rfl⟩
        have HO : Hid _ := ho
        clear ho
        go_wp2
        go_ret2
        exact ⟨_, _, rfl, HO.out, HB.out⟩
  · simp only [Bool.not_eq_true] at hs
    rw [hs] at c1 ⊢
    generalize a.length = m at *
    clear ha
    go_enter Try.func38, Try.ntmps38
    go_wp2_with fail
    refine c1.mono ?_
    rintro e w' ⟨rfl, rfl⟩
    go_wp2
    go_ret2
    exact Ans.intro (Own.nil _ _) (Below.refl _ _)
end Go.Proofs.Ytfhpeeljjcphpaa
