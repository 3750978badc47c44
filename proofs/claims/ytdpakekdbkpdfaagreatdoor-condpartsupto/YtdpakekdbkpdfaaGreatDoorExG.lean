/- Walks of what is a fraction, and of what is a sound number. -/
import Derived.Test.YtdpakekdbkpdfaaGreatDoorBlk
namespace Go.Proofs.YtdpakekdbkpdfaaGreatDoor
open Go.RowKit
set_option linter.unusedVariables false
set_option linter.unusedSimpArgs false

/-- Is it a fraction: a bottom, 0 not below 0, no common divisor? -/
def fracS (b : Bool) (top bot : List Nat) : Bool := !(decide (bot.length = 0) || (decide (top.length = 0) && b)) && (decide ((gcdS top bot).2 = 0) && decide ((gcdS top bot).1 = [1]))

set_option maxHeartbeats 1000000 in
set_option maxRecDepth 1000000 in
theorem isFraction_any {w : World} {b : Bool} {to_ bo : Option Addr} {top bot : List Nat} (tc bc : Nat) (ht : Rd w to_ top) (hb : Rd w bo bot) (lt : top.length ≤ 9223372036854775807) (lb : bot.length ≤ 9223372036854775807) (nt : to_ = none → tc = 0) (nb : bo = none → bc = 0) :
    Calls Tryz.prog 141 #[.agg #[.bool b, .slice to_ top.length tc, .slice bo bot.length bc]] w fun e w' => e = .returned (.bool (fracS b top bot)) ∧ Below w.heap.size w w' := by
  unfold fracS
  obtain ⟨n, HN⟩ : ∃ n, Hid (bot.length = n) := ⟨_, rfl⟩
  obtain ⟨m, HM⟩ : ∃ n, Hid (top.length = n) := ⟨_, rfl⟩
  have hal : Below w.heap.size w (w.alloc (.cells #[.bool b, .slice to_ m tc, .slice bo n bc] 48)) := (Below.refl _ _).alloc (Nat.le_refl _) _
  have c1 := gcd_any tc bc (ht.below hal) (hb.below hal) lt lb nt nb
  rw [HM.out, HN.out] at c1
  obtain ⟨G, HG⟩ : ∃ G, Hid (gcdS top bot = G) := ⟨_, rfl⟩
  obtain ⟨g, k⟩ := G
  rw [HG.out] at c1 ⊢
  have HC1 : Hid _ := c1
  have HAL : Hid _ := hal
  rw [HN.out, HM.out]
  rw [HN.out] at lb
  rw [HM.out] at lt
  have HLG : Hid (g.length ≤ 512) := by
    have h : (gcdS top bot).1.length ≤ 512 := by
      unfold gcdS
      by_cases hs : (sound top && sound bot) = true
      · rw [if_pos hs]
        simp only [Bool.and_eq_true] at hs
        obtain ⟨ea, na⟩ := sound_words ht.dig hs.1
        obtain ⟨eb, nb⟩ := sound_words hb.dig hs.2
        have h1 : (words (val top)).length ≤ 512 := by rw [← ea]; exact na
        have h2 : (words (val bot)).length ≤ 512 := by rw [← eb]; exact nb
        by_cases h : val top = 0
        · rw [h, Nat.gcd_zero_left]
          exact h2
        · exact Nat.le_trans (words_mono (Nat.gcd_le_left _ (by omega))) h1
      · rw [if_neg hs]
        simp
    rw [HG.out] at h
    exact h
  clear c1 hal ht hb nt nb
  by_cases hn : n = 0
  · subst hn
    go_enter Tryz.func141, Tryz.ntmps141
    go_wp2
    go_ret
    exact ⟨rfl, HAL.out⟩
  · have hn1 : ((n : Int) == 0) = false := by simp; omega
    have en : decide (n = 0) = false := decide_eq_false hn
    rw [en]
    have hcase : (m = 0 ∧ b = true) ∨ ((m : Int) == 0) = false ∨ (m = 0 ∧ b = false) := by
      by_cases h : m = 0
      · cases b with
        | true => exact .inl ⟨h, rfl⟩
        | false => exact .inr (.inr ⟨h, rfl⟩)
      · exact .inr (.inl (by simp; omega))
    rcases hcase with ⟨rfl, rfl⟩ | hm1 | ⟨rfl, rfl⟩
    · clear en
      go_enter Tryz.func141, Tryz.ntmps141
      go_wp2
      go_ret
      exact ⟨rfl, HAL.out⟩
    all_goals
      first
      | (have em : decide (m = 0) = false := by
           apply decide_eq_false
           intro h
           rw [h] at hm1
           simp at hm1
         rw [em]
         clear em)
      | skip
      simp only [Bool.false_and, Bool.or_self, Bool.not_false, Bool.true_and, Bool.and_false, Bool.or_false]
      clear en
      by_cases hk : k = 0
      · subst hk
        simp only [decide_true, Bool.true_and]
        go_enter Tryz.func141, Tryz.ntmps141
        go_wp2_with fail
        refine Calls.mono HC1.out ?_
        rintro e w1 ⟨go_, gc, rfl, og, b1⟩
        have HC2 : Hid _ := isOne_any gc (show Rd w1 go_ g from og.rd) (by have := HLG.out; omega)
        have HB1 : Hid _ := chain2 HAL.out b1
        clear og b1 HC1
        go_wp2_with fail
        refine Calls.mono HC2.out ?_
        rintro e w' ⟨rfl, hw'⟩
        have hw' := hw'.symm
        subst hw'
        go_wp2
        go_ret
        exact ⟨rfl, HB1.out⟩
      · have ek : decide (k = 0) = false := decide_eq_false hk
        have hk1 : (k == 0) = false := by simpa using hk
        simp only [ek, Bool.false_and]
        clear ek hk
        go_enter Tryz.func141, Tryz.ntmps141
        go_wp2_with fail
        refine Calls.mono HC1.out ?_
        rintro e w1 ⟨go_, gc, rfl, og, b1⟩
        have HB1 : Hid _ := chain2 HAL.out b1
        clear og b1 HC1
        go_wp2
        go_ret
        exact ⟨rfl, HB1.out⟩

/-- Is it a sound number? -/
def soundN (b1 : Bool) (t1 q1 : List Nat) (b2 : Bool) (t2 q2 : List Nat) : Bool := fracS b1 t1 q1 && fracS b2 t2 q2

set_option maxHeartbeats 1000000 in
set_option maxRecDepth 1000000 in
theorem soundN_any {w : World} {b1 b2 : Bool} {o1 o2 o3 o4 : Option Addr} {t1 q1 t2 q2 : List Nat} (c1 c2 c3 c4 : Nat) (h1 : Rd w o1 t1) (h2 : Rd w o2 q1) (h3 : Rd w o3 t2) (h4 : Rd w o4 q2)
    (l1 : t1.length ≤ 9223372036854775807) (l2 : q1.length ≤ 9223372036854775807) (l3 : t2.length ≤ 9223372036854775807) (l4 : q2.length ≤ 9223372036854775807) (n1 : o1 = none → c1 = 0) (n2 : o2 = none → c2 = 0) (n3 : o3 = none → c3 = 0) (n4 : o4 = none → c4 = 0) :
    Calls Tryz.prog 119 #[.agg #[.bool b1, .slice o1 t1.length c1, .slice o2 q1.length c2, .bool b2, .slice o3 t2.length c3, .slice o4 q2.length c4]] w fun e w' => e = .returned (.bool (soundN b1 t1 q1 b2 t2 q2)) ∧ Below w.heap.size w w' := by
  unfold soundN
  have hal : ∀ o, Below w.heap.size w (w.alloc o) := fun o => (Below.refl _ _).alloc (Nat.le_refl _) o
  obtain ⟨m1, HM1⟩ : ∃ n, Hid (t1.length = n) := ⟨_, rfl⟩
  obtain ⟨m2, HM2⟩ : ∃ n, Hid (q1.length = n) := ⟨_, rfl⟩
  obtain ⟨m3, HM3⟩ : ∃ n, Hid (t2.length = n) := ⟨_, rfl⟩
  obtain ⟨m4, HM4⟩ : ∃ n, Hid (q2.length = n) := ⟨_, rfl⟩
  rw [HM1.out, HM2.out, HM3.out, HM4.out]
  have hb := hal (.cells #[.bool b1, .slice o1 m1 c1, .slice o2 m2 c2, .bool b2, .slice o3 m3 c3, .slice o4 m4 c4] 50)
  have d1 := isFraction_any (b := b1) c1 c2 (h1.below hb) (h2.below hb) l1 l2 n1 n2
  rw [HM1.out, HM2.out] at d1
  have HD1 : Hid _ := d1
  have HB : Hid _ := hb
  have H3 : Hid _ := h3
  have H4 : Hid _ := h4
  have N3 : Hid _ := n3
  have N4 : Hid _ := n4
  have L3 : Hid _ := l3
  have L4 : Hid _ := l4
  have HK : Hid (Blk (w.alloc (.cells #[.bool b1, .slice o1 m1 c1, .slice o2 m2 c2, .bool b2, .slice o3 m3 c3, .slice o4 m4 c4] 50)) w.heap.size [.bool b1, .slice o1 m1 c1, .slice o2 m2 c2, .bool b2, .slice o3 m3 c3, .slice o4 m4 c4]) := Blk.new w [.bool b1, .slice o1 m1 c1, .slice o2 m2 c2, .bool b2, .slice o3 m3 c3, .slice o4 m4 c4] 50 (by simp)
  clear d1 hb hal h1 h2 h3 h4 l1 l2 l3 l4 n1 n2 n3 n4
  go_enter Tryz.func119, Tryz.ntmps119
  go_wp2_with fail
  refine Calls.mono HD1.out ?_
  rintro e w1 ⟨rfl, b1'⟩
  have hk := HK.out.below b1'
  have k3 := hk.cell 3 _ rfl
  have k4 := hk.cell 4 _ rfl
  have k5 := hk.cell 5 _ rfl
  have HB1 : Hid _ := chain2 HB.out b1'
  have d2 := isFraction_any (b := b2) c3 c4 (H3.out.below HB1.out) (H4.out.below HB1.out) L3.out L4.out N3.out N4.out
  rw [HM3.out, HM4.out] at d2
  have HD2 : Hid _ := d2
  clear hk b1' d2 HD1
  obtain ⟨z, hz⟩ : ∃ z, fracS b1 t1 q1 = z := ⟨_, rfl⟩
  have HZ : Hid _ := hz
  rw [hz]
  clear hz
  cases z with
  | false =>
    go_wp2
    go_ret
    refine ⟨?_, HB1.out⟩
    rw [HZ.out]
    rfl
  | true =>
    go_wp2_with fail
    refine Calls.mono HD2.out ?_
    rintro e w2 ⟨rfl, b2'⟩
    have HB2 : Hid _ := chain2 HB1.out b2'
    clear b2' HD2
    go_wp2
    go_ret
    refine ⟨?_, HB2.out⟩
    rw [HZ.out, Bool.true_and]
    rfl
end Go.Proofs.YtdpakekdbkpdfaaGreatDoor
