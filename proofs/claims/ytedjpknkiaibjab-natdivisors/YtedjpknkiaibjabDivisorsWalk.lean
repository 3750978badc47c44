/- Walk of the law of common divisors. -/
import Derived.Test.YtedjpknkiaibjabGcdD
import Derived.Test.YtedjpknkiaibjabArgs
namespace Go.Proofs.Ytedjpknkiaibjab
open Go.RowKit
set_option linter.unusedVariables false
set_option linter.unusedSimpArgs false

theorem Own.nocap {B : Nat} {w : World} {ao : Option Addr} {cap : Nat} {l : List Nat} (h : Own B w ao cap l) : ao = none → cap = 0 := by
  intro e
  rw [e] at h
  exact h.none_cap
theorem one_words2 : words 1 = [1] := by rw [words_pos (by omega)]; simp [words_zero]
theorem div_of_gcd {x G : Nat} (hl : (words x).length ≤ 512) (hG : G ≠ 0) (hg : (words G).length ≤ 512) (hd : G ∣ x) : divS (words x) (words G) = (words (x / G), [], 0) := by
  unfold divS
  rw [words_sound hl, words_sound hg, val_words, val_words]
  have h0 : (words G).length ≠ 0 := fun e => hG (words_eq_nil.1 (List.length_eq_zero_iff.1 e))
  simp only [Bool.and_self, if_true]
  rw [if_neg h0, Nat.mod_eq_zero_of_dvd hd, words_zero]
theorem gcd_le_len {x y : Nat} (hx : (words x).length ≤ 512) (hy : (words y).length ≤ 512) : (words (Nat.gcd x y)).length ≤ 512 := by
  by_cases h : x = 0
  · subst h
    rw [Nat.gcd_zero_left]
    exact hy
  · exact Nat.le_trans (words_mono (Nat.gcd_le_left y (by omega))) hx
theorem gcd_quot {x y : Nat} (h : Nat.gcd x y ≠ 0) : Nat.gcd (x / Nat.gcd x y) (y / Nat.gcd x y) = 1 := Nat.coprime_div_gcd_div_gcd (by omega)

set_option maxHeartbeats 2000000 in
set_option maxRecDepth 1000000 in
theorem divisors_walk (w : World) (ao : Option Addr) (ca : Nat) (a : List Nat) (ha : Arg w ao ca a) (bo : Option Addr) (cb : Nat) (b : List Nat) (hb : Arg w bo cb b) :
    Calls Try.prog 3 #[.slice ao a.length ca, .slice bo b.length cb] w fun e w' => e = .returned (.bool true) ∧ Below w.heap.size w w' := by
  have c1 := gcd_any ca cb ha.rd hb.rd ha.len hb.len ha.nil hb.nil
  have HA : Hid _ := ha
  have HRB : Hid _ := hb
  have hla := ha.len
  have hlb := hb.len
  clear ha hb
  obtain ⟨n, HN⟩ : ∃ n, Hid (a.length = n) := ⟨_, rfl⟩
  obtain ⟨m, HM⟩ : ∃ n, Hid (b.length = n) := ⟨_, rfl⟩
  rw [HN.out, HM.out] at c1
  rw [HN.out] at hla
  rw [HM.out] at hlb
  rw [HN.out, HM.out]
  by_cases hs : (sound a && sound b) = true
  · have e1 : gcdS a b = (words (Nat.gcd (val a) (val b)), 0) := by unfold gcdS; rw [if_pos hs]
    rw [e1] at c1
    simp only [Bool.and_eq_true] at hs
    obtain ⟨ea, na⟩ := sound_words HA.out.rd.dig hs.1
    obtain ⟨eb, nb⟩ := sound_words HRB.out.rd.dig hs.2
    obtain ⟨x, hx⟩ : ∃ x, val a = x := ⟨_, rfl⟩
    obtain ⟨y, hy⟩ : ∃ y, val b = y := ⟨_, rfl⟩
    rw [hx] at ea c1
    rw [hy] at eb c1
    have HEA : Hid _ := ea
    have HEB : Hid _ := eb
    have HNA : Hid ((words x).length ≤ 512) := by rw [← ea]; exact na
    have HNB : Hid ((words y).length ≤ 512) := by rw [← eb]; exact nb
    obtain ⟨G, hG⟩ : ∃ G, Nat.gcd x y = G := ⟨_, rfl⟩
    have HG : Hid _ := hG
    rw [hG] at c1
    have HC1 : Hid _ := c1
    have hlG : (words G).length ≤ 512 := by rw [← hG]; exact gcd_le_len HNA.out HNB.out
    have HLG : Hid _ := hlG
    obtain ⟨ng, HNG⟩ : ∃ n, Hid ((words G).length = n) := ⟨_, rfl⟩
    rw [HNG.out] at hlG
    clear c1 ea eb na nb hs e1 hx hy hG
    go_enter Try.func3, Try.ntmps3
    go_wp2_with fail
    refine Calls.mono HC1.out ?_
    rintro e w1 ⟨go_, gc, rfl, og, b1⟩
    have HOG : Hid (Own w.heap.size w1 go_ gc (words G)) := og
    have HB1 : Hid _ := b1
    simp only [HNG.out]
    clear og b1 HC1
    go_wp2_with fail
    refine (awake_any w1).mono ?_
    rintro e w2 ⟨rfl, b2⟩
    have HOG2 : Hid _ := HOG.out.below b2
    have HB2 : Hid _ := chain2 HB1.out b2
    clear b2
    by_cases hg0 : ng = 0
    · subst hg0
      have hG0 : G = 0 := words_eq_nil.1 (List.length_eq_zero_iff.1 HNG.out)
      have hxy := Nat.gcd_eq_zero_iff.1 (HG.out.trans hG0)
      have hn0 : n = 0 := by
        rw [← HN.out, HEA.out, hxy.1, words_zero]
        rfl
      have hm0 : m = 0 := by
        rw [← HM.out, HEB.out, hxy.2, words_zero]
        rfl
      subst hn0 hm0
      clear hG0 hxy
      go_wp2
      go_ret
      exact ⟨rfl, HB2.out⟩
    · have hg1 : ((ng : Int) == 0) = false := by simp; omega
      have hG0 : G ≠ 0 := fun e => hg0 (by rw [← HNG.out, e, words_zero]; rfl)
      have HG0 : Hid _ := hG0
      have c3 := div_any ca gc (HA.out.rd.below HB2.out) HOG2.out.rd HA.out.len (by have := HLG.out; omega) HA.out.nil
      rw [HEA.out, div_of_gcd HNA.out hG0 HLG.out (by rw [← HG.out]; exact Nat.gcd_dvd_left x y), ← HEA.out, HN.out, HNG.out] at c3
      have HC3 : Hid _ := c3
      clear c3 hG0
      go_wp2_with fail
      refine Calls.mono HC3.out ?_
      rintro e w3 ⟨xo, xc, ro, rc, rfl, ox, or, b3⟩
      have HOX : Hid (Own w2.heap.size w3 xo xc (words (x / G))) := ox
      have HB3 : Hid _ := chain2 HB2.out b3
      have HOG3 : Hid _ := HOG2.out.below b3
      have c4 := div_any cb gc (HRB.out.rd.below HB3.out) HOG3.out.rd HRB.out.len (by have := HLG.out; omega) HRB.out.nil
      rw [HEB.out, div_of_gcd HNB.out HG0.out HLG.out (by rw [← HG.out]; exact Nat.gcd_dvd_right x y), ← HEB.out, HM.out, HNG.out] at c4
      have HC4 : Hid _ := c4
      clear c4 ox or b3 HC3
      go_wp2_with fail
      refine Calls.mono HC4.out ?_
      rintro e w4 ⟨yo, yc, so, sc, rfl, oy, os, b4⟩
      have HOY : Hid (Own w3.heap.size w4 yo yc (words (y / G))) := oy
      have HB4 : Hid _ := chain2 HB3.out b4
      have HOX4 : Hid _ := HOX.out.below b4
      have lX : (words (x / G)).length ≤ 512 := Nat.le_trans (words_mono (Nat.div_le_self _ _)) HNA.out
      have lY : (words (y / G)).length ≤ 512 := Nat.le_trans (words_mono (Nat.div_le_self _ _)) HNB.out
      have c5 := gcd_any xc yc HOX4.out.rd HOY.out.rd (by omega) (by omega) HOX4.out.nocap HOY.out.nocap
      have e5 : gcdS (words (x / G)) (words (y / G)) = ([1], 0) := by
        unfold gcdS
        rw [words_sound lX, words_sound lY, val_words, val_words]
        have h := gcd_quot (x := x) (y := y) (by rw [HG.out]; exact HG0.out)
        rw [HG.out] at h
        rw [h, one_words2]
        rfl
      rw [e5] at c5
      have HC5 : Hid _ := c5
      clear c5 e5 oy os b4 lX lY HC4
      go_wp2_with fail
      refine Calls.mono HC5.out ?_
      rintro e w5 ⟨ho, hc, rfl, oh, b5⟩
      have HB5 : Hid _ := chain2 HB4.out b5
      obtain ⟨hb5, ho5, hho, _, hcell⟩ := oh.rd.pos (by simp)
      have k5 := hcell 0 (by simp)
      simp only [List.getD_cons_zero, Nat.add_zero] at k5
      subst hho
      clear oh hcell b5 HC5
      go_wp2
      go_ret
      exact ⟨rfl, HB5.out⟩
  · have e1 : gcdS a b = ([], 2) := by unfold gcdS; rw [if_neg hs]
    rw [e1] at c1
    have HC1 : Hid _ := c1
    clear c1 e1
    go_enter Try.func3, Try.ntmps3
    go_wp2_with fail
    refine Calls.mono HC1.out ?_
    rintro e w1 ⟨go_, gc, rfl, og, b1⟩
    have HB1 : Hid _ := b1
    clear og b1 HC1
    go_wp2_with fail
    refine (awake_any w1).mono ?_
    rintro e w2 ⟨rfl, b2⟩
    have HB2 : Hid _ := chain2 HB1.out b2
    clear b2
    go_wp2_with fail
    refine (awake_any w2).mono ?_
    rintro e w3 ⟨rfl, b3⟩
    have HB3 : Hid _ := chain2 HB2.out b3
    have c4 := sound_any ca (HA.out.rd.below HB3.out) HA.out.len
    have c5 := sound_any cb (HRB.out.rd.below HB3.out) HRB.out.len
    rw [HN.out] at c4
    rw [HM.out] at c5
    have HS : Hid _ := hs
    clear b3 hs
    by_cases h1 : sound a = true
    · have h2 : sound b = false := by
        have h := HS.out
        rw [h1] at h
        simpa using h
      rw [h1] at c4
      rw [h2] at c5
      have HC4 : Hid _ := c4
      have HC5 : Hid _ := c5
      clear c4 c5 h1 h2
      go_wp2_with fail
      refine Calls.mono HC4.out ?_
      rintro e w' ⟨rfl, hw'⟩
      have hw' := hw'.symm
      subst hw'
      go_wp2_with fail
      refine Calls.mono HC5.out ?_
      rintro e w' ⟨rfl, hw'⟩
      have hw' := hw'.symm
      subst hw'
      go_wp2
      go_ret
      exact ⟨rfl, HB3.out⟩
    · simp only [Bool.not_eq_true] at h1
      rw [h1] at c4
      have HC4 : Hid _ := c4
      clear c4 c5 h1
      go_wp2_with fail
      refine Calls.mono HC4.out ?_
      rintro e w' ⟨rfl, hw'⟩
      have hw' := hw'.symm
      subst hw'
      go_wp2
      go_ret
      exact ⟨rfl, HB3.out⟩
end Go.Proofs.Ytedjpknkiaibjab
