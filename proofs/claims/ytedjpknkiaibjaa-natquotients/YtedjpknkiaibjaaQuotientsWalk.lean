/- Walk of the law of quotients and common divisors, against the document's. -/
import Derived.Test.YtedjpknkiaibjaaGcdD
import Derived.Test.YtedjpknkiaibjaaGcdRef
import Derived.Test.YtedjpknkiaibjaaOverRef2
import Derived.Test.YtedjpknkiaibjaaArgs
namespace Go.Proofs.Ytedjpknkiaibjaa
open Go.RowKit
set_option linter.unusedVariables false
set_option linter.unusedSimpArgs false

set_option maxHeartbeats 1000000 in
set_option maxRecDepth 1000000 in
theorem rdiv_any {w : World} {ao bo : Option Addr} {a b : List Nat} (ca cb : Nat) (ha : Rd w ao a) (hb : Rd w bo b) (la : a.length ≤ 9223372036854775807) (lb : b.length ≤ 9223372036854775807) :
    Calls Try.prog 26 #[.slice ao a.length ca, .slice bo b.length cb] w (Ans3 w (divS a b)) := by
  have c1 := check_any ca cb ha hb la lb
  unfold divS
  by_cases hs : (sound a && sound b) = true
  · rw [if_pos hs] at c1 ⊢
    simp only [Bool.and_eq_true] at hs
    obtain ⟨ea, na⟩ := sound_words ha.dig hs.1
    obtain ⟨eb, nb⟩ := sound_words hb.dig hs.2
    generalize val a = x at *
    generalize val b = y at *
    subst ea eb
    have HA : Hid _ := ha
    have HRB : Hid _ := hb
    obtain ⟨n, HN⟩ : ∃ n, Hid ((words x).length = n) := ⟨_, rfl⟩
    obtain ⟨m, HM⟩ : ∃ m, Hid ((words y).length = m) := ⟨_, rfl⟩
    rw [HN.out, HM.out] at c1
    rw [HN.out] at na
    rw [HM.out] at nb
    rw [HN.out, HM.out]
    clear hs ha hb la lb
    by_cases hm0 : m = 0
    · subst hm0
      simp only [if_true]
      go_enter Try.func26, Try.ntmps26
      go_wp2_with fail
      refine c1.mono ?_
      rintro e w' ⟨rfl, rfl⟩
      go_wp2
      go_ret3
      exact Ans3.none _ _
    · rw [if_neg hm0]
      have c3 := over_any ca cb HA.out HRB.out (by rw [HN.out]; omega) (by rw [HM.out]; omega) (fun e => hm0 (by rw [← HM.out, e, words_zero]; rfl))
      rw [HN.out, HM.out] at c3
      have HC3 : Hid _ := c3
      have hm1 : ((m : Int) == 0) = false := by simp; omega
      clear c3
      go_enter Try.func26, Try.ntmps26
      go_wp2_with fail
      refine c1.mono ?_
      rintro e w' ⟨rfl, rfl⟩
      clear c1
      go_wp2_with fail
      refine Calls.mono HC3.out ?_
      rintro e w1 ⟨qo, qc, ro, rc, rfl, oq, or, b1⟩
      have HOQ : Hid _ := oq
      have HOR : Hid _ := or
      have HB : Hid _ := b1
      clear oq or b1
      go_wp2
      go_ret3
      exact ⟨_, _, _, _, rfl, HOQ.out, HOR.out, HB.out⟩
  · rw [if_neg hs] at c1 ⊢
    clear ha hb la lb hs
    generalize a.length = n at *
    generalize b.length = m at *
    go_enter Try.func26, Try.ntmps26
    go_wp2_with fail
    refine c1.mono ?_
    rintro e w' ⟨rfl, rfl⟩
    go_wp2
    go_ret3
    exact Ans3.none _ _

set_option maxHeartbeats 1000000 in
set_option maxRecDepth 1000000 in
theorem rgcd_any {w : World} {ao bo : Option Addr} {a b : List Nat} (ca cb : Nat) (ha : Rd w ao a) (hb : Rd w bo b) (la : a.length ≤ 9223372036854775807) (lb : b.length ≤ 9223372036854775807) (cca : a.length ≤ ca) (ccb : b.length ≤ cb) (hna : ao = none → ca = 0) (hnb : bo = none → cb = 0) :
    Calls Try.prog 28 #[.slice ao a.length ca, .slice bo b.length cb] w (Ans w (gcdS a b)) := by
  have c1 := check_any ca cb ha hb la lb
  unfold gcdS
  by_cases hs : (sound a && sound b) = true
  · rw [if_pos hs] at c1 ⊢
    simp only [Bool.and_eq_true] at hs
    obtain ⟨ea, na⟩ := sound_words ha.dig hs.1
    obtain ⟨eb, nb⟩ := sound_words hb.dig hs.2
    generalize val a = x at *
    generalize val b = y at *
    subst ea eb
    have c3 := rdivisor_any ca cb ha hb (by omega) (by omega) cca ccb hna hnb
    obtain ⟨n, HN⟩ : ∃ n, Hid ((words x).length = n) := ⟨_, rfl⟩
    obtain ⟨m, HM⟩ : ∃ m, Hid ((words y).length = m) := ⟨_, rfl⟩
    rw [HN.out, HM.out] at c1 c3
    rw [HN.out, HM.out]
    have HC3 : Hid _ := c3
    clear hs ha hb la lb hna hnb cca ccb c3 na nb
    go_enter Try.func28, Try.ntmps28
    go_wp2_with fail
    refine c1.mono ?_
    rintro e w' ⟨rfl, rfl⟩
    clear c1
    go_wp2_with fail
    refine Calls.mono HC3.out ?_
    rintro e w1 ⟨ro, rc, rfl, ho, b1⟩
    have HO : Hid _ := ho
    have HB : Hid _ := b1
    clear ho b1
    go_wp2
    go_ret2
    exact ⟨_, _, rfl, HO.out, HB.out⟩
  · rw [if_neg hs] at c1 ⊢
    clear ha hb la lb hs hna hnb cca ccb
    generalize a.length = n at *
    generalize b.length = m at *
    go_enter Try.func28, Try.ntmps28
    go_wp2_with fail
    refine c1.mono ?_
    rintro e w' ⟨rfl, rfl⟩
    go_wp2
    go_ret2
    exact Ans.intro (Own.nil _ _) (Below.refl _ _)

theorem divS_len {a b : List Nat} (ha : Dig a) (hb : Dig b) : (divS a b).1.length ≤ 512 ∧ (divS a b).2.1.length ≤ 512 := by
  unfold divS
  by_cases hs : (sound a && sound b) = true
  · rw [if_pos hs]
    simp only [Bool.and_eq_true] at hs
    obtain ⟨ea, na⟩ := sound_words ha hs.1
    by_cases h0 : b.length = 0
    · rw [if_pos h0]
      simp
    · rw [if_neg h0]
      have h1 : (words (val a)).length ≤ 512 := by rw [← ea]; exact na
      exact ⟨Nat.le_trans (words_mono (Nat.div_le_self _ _)) h1, Nat.le_trans (words_mono (Nat.mod_le _ _)) h1⟩
  · rw [if_neg hs]
    simp
theorem gcdS_len {a b : List Nat} (ha : Dig a) (hb : Dig b) : (gcdS a b).1.length ≤ 512 := by
  unfold gcdS
  by_cases hs : (sound a && sound b) = true
  · rw [if_pos hs]
    simp only [Bool.and_eq_true] at hs
    obtain ⟨ea, na⟩ := sound_words ha hs.1
    obtain ⟨eb, nb⟩ := sound_words hb hs.2
    have h1 : (words (val a)).length ≤ 512 := by rw [← ea]; exact na
    have h2 : (words (val b)).length ≤ 512 := by rw [← eb]; exact nb
    by_cases h : val a = 0
    · rw [h, Nat.gcd_zero_left]
      exact h2
    · exact Nat.le_trans (words_mono (Nat.gcd_le_left _ (by omega))) h1
  · rw [if_neg hs]
    simp

set_option maxHeartbeats 2000000 in
set_option maxRecDepth 1000000 in
theorem quotients_walk (w : World) (ao : Option Addr) (ca : Nat) (a : List Nat) (ha : Arg w ao ca a) (bo : Option Addr) (cb : Nat) (b : List Nat) (hb : Arg w bo cb b) :
    Calls Try.prog 5 #[.slice ao a.length ca, .slice bo b.length cb] w fun e w' => e = .returned (.bool true) ∧ Below w.heap.size w w' := by
  have c1 := div_any ca cb ha.rd hb.rd ha.len hb.len ha.nil
  have HL : Hid _ := divS_len ha.rd.dig hb.rd.dig
  have HLG : Hid _ := gcdS_len ha.rd.dig hb.rd.dig
  have HA : Hid _ := ha
  have HRB : Hid _ := hb
  clear ha hb
  obtain ⟨n, HN⟩ : ∃ n, Hid (a.length = n) := ⟨_, rfl⟩
  obtain ⟨m, HM⟩ : ∃ n, Hid (b.length = n) := ⟨_, rfl⟩
  obtain ⟨D, HD⟩ : ∃ D, Hid (divS a b = D) := ⟨_, rfl⟩
  obtain ⟨G, HG⟩ : ∃ D, Hid (gcdS a b = D) := ⟨_, rfl⟩
  obtain ⟨q, r, k⟩ := D
  obtain ⟨g, h⟩ := G
  rw [HN.out, HM.out, HD.out] at c1
  rw [HD.out] at HL
  rw [HG.out] at HLG
  rw [HN.out, HM.out]
  have HC1 : Hid _ := c1
  obtain ⟨lq, HQ⟩ : ∃ n, Hid (q.length = n) := ⟨_, rfl⟩
  obtain ⟨lr, HR⟩ : ∃ n, Hid (r.length = n) := ⟨_, rfl⟩
  obtain ⟨lg, HGL⟩ : ∃ n, Hid (g.length = n) := ⟨_, rfl⟩
  clear c1
  go_enter Try.func5, Try.ntmps5
  go_wp2_with fail
  refine Calls.mono HC1.out ?_
  rintro e w1 ⟨qo, qc, ro, rc, rfl, oq, or, b1⟩
  have HQ1 : Hid (Rd w1 qo q) := oq.rd
  have HR1 : Hid (Rd w1 ro r) := or.rd
  have HB1 : Hid _ := b1
  have c2 := rdiv_any ca cb (HA.out.rd.below b1) (HRB.out.rd.below b1) HA.out.len HRB.out.len
  rw [HN.out, HM.out, HD.out] at c2
  have HC2 : Hid _ := c2
  simp only [HQ.out, HR.out]
  clear oq or b1 c2 HC1
  go_wp2_with fail
  refine Calls.mono HC2.out ?_
  rintro e w2 ⟨so, sc, to2, tc, rfl, os, ot, b2⟩
  have HS2 : Hid (Rd w2 so q) := os.rd
  have HT2 : Hid (Rd w2 to2 r) := ot.rd
  have HQ2 : Hid _ := HQ1.out.below b2
  have HR2 : Hid _ := HR1.out.below b2
  have HB2 : Hid _ := chain2 HB1.out b2
  have c3 := gcd_any ca cb (HA.out.rd.below HB2.out) (HRB.out.rd.below HB2.out) HA.out.len HRB.out.len HA.out.nil HRB.out.nil
  rw [HN.out, HM.out, HG.out] at c3
  have HC3 : Hid _ := c3
  simp only [HQ.out, HR.out]
  clear os ot b2 c3 HC2
  go_wp2_with fail
  refine Calls.mono HC3.out ?_
  rintro e w3 ⟨uo, uc, rfl, ou, b3⟩
  have HU3 : Hid (Rd w3 uo g) := ou.rd
  have HS3 : Hid _ := HS2.out.below b3
  have HT3 : Hid _ := HT2.out.below b3
  have HQ3 : Hid _ := HQ2.out.below b3
  have HR3 : Hid _ := HR2.out.below b3
  have HB3 : Hid _ := chain2 HB2.out b3
  have c4 := rgcd_any ca cb (HA.out.rd.below HB3.out) (HRB.out.rd.below HB3.out) HA.out.len HRB.out.len HA.out.caps HRB.out.caps HA.out.nil HRB.out.nil
  rw [HN.out, HM.out, HG.out] at c4
  have HC4 : Hid _ := c4
  simp only [HGL.out]
  clear ou b3 c4 HC3
  go_wp2_with fail
  refine Calls.mono HC4.out ?_
  rintro e w4 ⟨vo, vc, rfl, ov, b4⟩
  have HV4 : Hid (Rd w4 vo g) := ov.rd
  have HU4 : Hid _ := HU3.out.below b4
  have HS4 : Hid _ := HS3.out.below b4
  have HT4 : Hid _ := HT3.out.below b4
  have HQ4 : Hid _ := HQ3.out.below b4
  have HR4 : Hid _ := HR3.out.below b4
  have HB4 : Hid _ := chain2 HB3.out b4
  simp only [HGL.out]
  clear ov b4 HC4
  go_wp2_with fail
  refine (awake_any w4).mono ?_
  rintro e w5 ⟨rfl, b5⟩
  have HV5 : Hid _ := HV4.out.below b5
  have HU5 : Hid _ := HU4.out.below b5
  have HT5 : Hid _ := HT4.out.below b5
  have HR5 : Hid _ := HR4.out.below b5
  have HB5 : Hid _ := chain2 HB4.out b5
  have c6 := same_any qc sc (HQ4.out.below b5) (HS4.out.below b5) (by have := HL.out.1; omega)
  rw [HQ.out] at c6
  have HC6 : Hid _ := c6
  clear b5 c6
  go_wp2_with fail
  refine Calls.mono HC6.out ?_
  rintro e w6 ⟨rfl, b6⟩
  have HV6 : Hid _ := HV5.out.below b6
  have HU6 : Hid _ := HU5.out.below b6
  have HB6 : Hid _ := chain2 HB5.out b6
  have c7 := same_any rc tc (HR5.out.below b6) (HT5.out.below b6) (by have := HL.out.2; omega)
  rw [HR.out] at c7
  have HC7 : Hid _ := c7
  clear b6 c7 HC6
  go_wp2_with fail
  refine Calls.mono HC7.out ?_
  rintro e w7 ⟨rfl, b7⟩
  have HB7 : Hid _ := chain2 HB6.out b7
  have c8 := same_any uc vc (HU6.out.below b7) (HV6.out.below b7) (by have := HLG.out; omega)
  rw [HGL.out] at c8
  have HC8 : Hid _ := c8
  clear b7 c8 HC7
  go_wp2_with fail
  refine Calls.mono HC8.out ?_
  rintro e w8 ⟨rfl, b8⟩
  have HB8 : Hid _ := chain2 HB7.out b8
  clear b8 HC8
  go_wp2
  go_ret
  exact ⟨rfl, HB8.out⟩
end Go.Proofs.Ytedjpknkiaibjaa
