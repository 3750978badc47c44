/- Walks of small questions: does a fraction fit, is a number real, is it 0. -/
import Derived.Test.YtmibkfihcihphaaExG
namespace Go.Proofs.Ytmibkfihcihphaa
open Go.RowKit
set_option linter.unusedVariables false
set_option linter.unusedSimpArgs false

set_option maxHeartbeats 1000000 in
set_option maxRecDepth 1000000 in
theorem fits_any {w : World} {b : Bool} {to_ bo : Option Addr} {top bot : List Nat} (tc bc : Nat) (ht : Rd w to_ top) (hb : Rd w bo bot) (lt : top.length ≤ 9223372036854775807) (lb : bot.length ≤ 9223372036854775807) :
    Calls Try.prog 70 #[.agg #[.bool b, .slice to_ top.length tc, .slice bo bot.length bc]] w fun e w' => e = .returned (.bool (sound top && sound bot)) ∧ Below w.heap.size w w' := by
  obtain ⟨m, HM⟩ : ∃ n, Hid (top.length = n) := ⟨_, rfl⟩
  obtain ⟨n, HN⟩ : ∃ n, Hid (bot.length = n) := ⟨_, rfl⟩
  rw [HM.out, HN.out]
  have hal : Below w.heap.size w (w.alloc (.cells #[.bool b, .slice to_ m tc, .slice bo n bc] 24)) := (Below.refl _ _).alloc (Nat.le_refl _) _
  have c1 := sound_any tc (ht.below hal) lt
  have c2 := sound_any bc (hb.below hal) lb
  rw [HM.out] at c1
  rw [HN.out] at c2
  have HC1 : Hid _ := c1
  have HC2 : Hid _ := c2
  have HAL : Hid _ := hal
  obtain ⟨z, hz⟩ : ∃ z, sound top = z := ⟨_, rfl⟩
  rw [hz] at HC1 ⊢
  clear c1 c2 ht hb lt lb hz hal
  cases z with
  | false =>
    go_enter Try.func70, Try.ntmps70
    go_wp2_with fail
    refine Calls.mono HC1.out ?_
    rintro e w' ⟨rfl, hw'⟩
    have hw' := hw'.symm
    subst hw'
    go_wp2
    go_ret
    exact ⟨rfl, HAL.out⟩
  | true =>
    rw [Bool.true_and]
    go_enter Try.func70, Try.ntmps70
    go_wp2_with fail
    refine Calls.mono HC1.out ?_
    rintro e w' ⟨rfl, hw'⟩
    have hw' := hw'.symm
    subst hw'
    go_wp2_with fail
    refine Calls.mono HC2.out ?_
    rintro e w' ⟨rfl, hw'⟩
    have hw' := hw'.symm
    subst hw'
    go_wp2
    go_ret
    exact ⟨rfl, HAL.out⟩

set_option maxHeartbeats 1000000 in
set_option maxRecDepth 1000000 in
theorem isReal_any {w : World} {b1 b2 : Bool} {o1 o2 o3 o4 : Option Addr} {m1 m2 m3 m4 c1 c2 c3 c4 : Nat} (h : m3 ≤ 9223372036854775807) :
    Calls Try.prog 40 #[.agg #[.bool b1, .slice o1 m1 c1, .slice o2 m2 c2, .bool b2, .slice o3 m3 c3, .slice o4 m4 c4]] w fun e w' => e = .returned (.bool (decide (m3 = 0))) ∧ Below w.heap.size w w' := by
  have HAL : Hid (∀ o, Below w.heap.size w (w.alloc o)) := fun o => (Below.refl _ _).alloc (Nat.le_refl _) o
  by_cases hm : m3 = 0
  · subst hm
    go_enter Try.func40, Try.ntmps40
    go_wp2
    go_ret
    exact ⟨rfl, HAL.out _⟩
  · have e : decide (m3 = 0) = false := decide_eq_false hm
    rw [e]
    have hm1 : ((m3 : Int) == 0) = false := by simp; omega
    clear e
    go_enter Try.func40, Try.ntmps40
    go_wp2
    go_ret
    exact ⟨rfl, HAL.out _⟩

set_option maxHeartbeats 1000000 in
set_option maxRecDepth 1000000 in
theorem isZero_any {w : World} {b1 b2 : Bool} {o1 o2 o3 o4 : Option Addr} {m1 m2 m3 m4 c1 c2 c3 c4 : Nat} (h1 : m1 ≤ 9223372036854775807) (h : m3 ≤ 9223372036854775807) :
    Calls Try.prog 32 #[.agg #[.bool b1, .slice o1 m1 c1, .slice o2 m2 c2, .bool b2, .slice o3 m3 c3, .slice o4 m4 c4]] w fun e w' => e = .returned (.bool (decide (m1 = 0) && decide (m3 = 0))) ∧ Below w.heap.size w w' := by
  have HAL : Hid (∀ o, Below w.heap.size w (w.alloc o)) := fun o => (Below.refl _ _).alloc (Nat.le_refl _) o
  by_cases hm0 : m1 = 0
  · subst hm0
    by_cases hm : m3 = 0
    · subst hm
      go_enter Try.func32, Try.ntmps32
      go_wp2
      go_ret
      exact ⟨rfl, HAL.out _⟩
    · have e : decide (m3 = 0) = false := decide_eq_false hm
      rw [e]
      have hm1 : ((m3 : Int) == 0) = false := by simp; omega
      clear e
      go_enter Try.func32, Try.ntmps32
      go_wp2
      go_ret
      exact ⟨rfl, HAL.out _⟩
  · have e : decide (m1 = 0) = false := decide_eq_false hm0
    rw [e, Bool.false_and]
    have hm1 : ((m1 : Int) == 0) = false := by simp; omega
    clear e
    go_enter Try.func32, Try.ntmps32
    go_wp2
    go_ret
    exact ⟨rfl, HAL.out _⟩
end Go.Proofs.Ytmibkfihcihphaa
