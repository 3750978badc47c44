/- Walk of Div. -/
import Derived.Test.YtedjpknkiaibjaaNatX
namespace Go.Proofs.Ytedjpknkiaibjaa
open Go.RowKit
set_option linter.unusedVariables false
set_option linter.unusedSimpArgs false

theorem divide_any {w : World} {ao bo : Option Addr} {x y : Nat} (ca cb : Nat) (ha : Rd w ao (words x)) (hb : Rd w bo (words y)) (hx : (words x).length ≤ 90000) (hy : (words y).length ≤ 90000) (hnil : ao = none → ca = 0) (hy0 : y ≠ 0) :
    Calls Try.prog 52 #[.slice ao (words x).length ca, .slice bo (words y).length cb] w (Row2 w (words (x / y)) (words (x % y))) := by
  by_cases hxy : x < y
  · exact divide_less ca cb ha hb hx hy hnil hxy
  · by_cases h1 : (words y).length = 1
    · exact divide_word ca cb ha hb hx h1 hnil hxy
    · refine divide_long ca cb ha hb hx ?_ hxy
      have : (words y).length ≠ 0 := fun e => hy0 (words_eq_nil.1 (List.length_eq_zero_iff.1 e))
      omega

/-- A quotient, what is left, and an error's number. -/
def divS (a b : List Nat) : List Nat × List Nat × Int :=
  if sound a && sound b then (if b.length = 0 then ([], [], 3) else (words (val a / val b), words (val a % val b), 0)) else ([], [], 2)
def Ans3 (w : World) (r : List Nat × List Nat × Int) (e : Ending) (w' : World) : Prop :=
  ∃ qo qc ro rc, e = .returned (.tuple #[.slice qo r.1.length qc, .slice ro r.2.1.length rc, .int .i64 r.2.2]) ∧ Own w.heap.size w' qo qc r.1 ∧ Own w.heap.size w' ro rc r.2.1 ∧ Below w.heap.size w w'
theorem Ans3.none (w : World) (k : Int) : Ans3 w ([], [], k) (.returned (.tuple #[.slice .none 0 0, .slice .none 0 0, .int .i64 k])) w :=
  ⟨.none, 0, .none, 0, rfl, Own.nil _ _, Own.nil _ _, Below.refl _ _⟩

set_option maxHeartbeats 1000000 in
set_option maxRecDepth 1000000 in
theorem div_any {w : World} {ao bo : Option Addr} {a b : List Nat} (ca cb : Nat) (ha : Rd w ao a) (hb : Rd w bo b) (la : a.length ≤ 9223372036854775807) (lb : b.length ≤ 9223372036854775807) (hnil : ao = none → ca = 0) :
    Calls Try.prog 25 #[.slice ao a.length ca, .slice bo b.length cb] w (Ans3 w (divS a b)) := by
  have c1 := sound_any ca ha la
  have c2 := sound_any cb hb lb
  unfold divS
  by_cases hs : sound a = true
  · by_cases ht : sound b = true
    · obtain ⟨ea, na⟩ := sound_words ha.dig hs
      obtain ⟨eb, nb⟩ := sound_words hb.dig ht
      rw [hs] at c1 ⊢
      rw [ht] at c2 ⊢
      generalize val a = x at *
      generalize val b = y at *
      subst ea eb
      simp only [Bool.and_self, if_true]
      have HA : Hid _ := ha
      have HRB : Hid _ := hb
      have HNil : Hid _ := hnil
      obtain ⟨n, hn⟩ : ∃ n, (words x).length = n := ⟨_, rfl⟩
      obtain ⟨m, hm⟩ : ∃ m, (words y).length = m := ⟨_, rfl⟩
      have HN : Hid _ := hn
      have HM : Hid _ := hm
      rw [hn] at c1 na ⊢
      rw [hm] at c2 nb ⊢
      clear hs ht ha hb la lb hnil hn hm
      by_cases hm0 : m = 0
      · subst hm0
        simp only [if_true]
        go_enter Try.func25, Try.ntmps25
        go_wp2_with fail
        refine c1.mono ?_
        rintro e w' ⟨rfl, rfl⟩
        go_wp2_with fail
        refine c2.mono ?_
        rintro e w' ⟨rfl, rfl⟩
        go_wp2
        go_ret3
        exact Ans3.none _ _
      · rw [if_neg hm0]
        have c3 := divide_any ca cb HA.out HRB.out (by rw [HN.out]; omega) (by rw [HM.out]; omega) HNil.out (fun e => hm0 (by rw [← HM.out, e, words_zero]; rfl))
        rw [HN.out, HM.out] at c3
        have HC3 : Hid _ := c3
        have hm1 : ((m : Int) == 0) = false := by simp; omega
        clear c3
        go_enter Try.func25, Try.ntmps25
        go_wp2_with fail
        refine c1.mono ?_
        rintro e w' ⟨rfl, rfl⟩
        go_wp2_with fail
        refine c2.mono ?_
        rintro e w' ⟨rfl, rfl⟩
        clear c1 c2
        go_wp2_with fail
        refine Calls.mono HC3.out ?_
        rintro e w1 ⟨qo, qc, ro, rc, rfl, oq, or, b1⟩
        have HOQ : Hid _ := oq
        have HOR : Hid _ := or
        have HB : Hid _ := b1
        clear oq or b1
        go_wp2
        go_ret3
        exact ⟨_, _, _, _, rfl, HOQ.out, HOR.out, HB.out⟩
    · simp only [Bool.not_eq_true] at ht
      rw [hs] at c1
      rw [ht] at c2
      rw [hs, ht]
      clear ha hb la lb hs ht hnil
      generalize a.length = n at *
      generalize b.length = m at *
      go_enter Try.func25, Try.ntmps25
      go_wp2_with fail
      refine c1.mono ?_
      rintro e w' ⟨rfl, rfl⟩
      go_wp2_with fail
      refine c2.mono ?_
      rintro e w' ⟨rfl, rfl⟩
      go_wp2
      go_ret3
      exact Ans3.none _ _
  · simp only [Bool.not_eq_true] at hs
    rw [hs] at c1 ⊢
    clear ha hb la lb hs c2 hnil
    generalize a.length = n at *
    generalize b.length = m at *
    go_enter Try.func25, Try.ntmps25
    go_wp2_with fail
    refine c1.mono ?_
    rintro e w' ⟨rfl, rfl⟩
    go_wp2
    go_ret3
    exact Ans3.none _ _
end Go.Proofs.Ytedjpknkiaibjaa
