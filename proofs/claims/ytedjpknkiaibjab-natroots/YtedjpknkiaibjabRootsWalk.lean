/- Walk of the law of roots. -/
import Derived.Test.YtedjpknkiaibjabRootW
import Derived.Test.YtedjpknkiaibjabNatM
import Derived.Test.YtedjpknkiaibjabArgs
namespace Go.Proofs.Ytedjpknkiaibjab
open Go.RowKit
set_option linter.unusedVariables false
set_option linter.unusedSimpArgs false

theorem mul_words {x y : Nat} (hx : (words x).length ≤ 512) (hy : (words y).length ≤ 512) (h : (words (x * y)).length ≤ 512) : mulS (words x) (words y) = (words (x * y), 0) := by
  unfold mulS fitS
  rw [words_sound hx, words_sound hy, val_words, val_words, if_pos h]
  rfl
theorem add_words {x y : Nat} (hx : (words x).length ≤ 512) (hy : (words y).length ≤ 512) (h : (words (x + y)).length ≤ 512) : addS (words x) (words y) = (words (x + y), 0) := by
  unfold addS fitS
  rw [words_sound hx, words_sound hy, val_words, val_words, if_pos h]
  rfl
theorem cmp_words {x y : Nat} (hx : (words x).length ≤ 512) (hy : (words y).length ≤ 512) : cmpS (words x) (words y) = cmpN x y := by
  unfold cmpS
  rw [words_sound hx, words_sound hy, val_words, val_words]
  rfl

set_option maxHeartbeats 1000000 in
set_option maxRecDepth 1000000 in
theorem roots_walk (w : World) (ao : Option Addr) (ca : Nat) (a : List Nat) (ha : Arg w ao ca a) :
    Calls Try.prog 4 #[.slice ao a.length ca] w fun e w' => e = .returned (.bool true) ∧ Below w.heap.size w w' := by
  have HC1 : Hid _ := rootN_any ca ha.rd ha.len ha.nil
  have HA : Hid _ := ha
  have hla := ha.len
  clear ha
  by_cases hs : sound a = true
  · obtain ⟨ea, na⟩ := sound_words HA.out.rd.dig hs
    obtain ⟨x, hxv⟩ : ∃ x, val a = x := ⟨_, rfl⟩
    have hr : ∀ s, rootA a s = (words s, words (x - s * s), 0) := by intro s; unfold rootA; rw [hs, hxv]; rfl
    have HR : Hid _ := hr
    have HS : Hid _ := hs
    have HXV : Hid _ := hxv
    rw [hxv] at ea
    have HEA : Hid _ := ea
    obtain ⟨n, HN⟩ : ∃ n, Hid (a.length = n) := ⟨_, rfl⟩
    rw [HN.out] at HC1 na hla ⊢
    clear hr hs hxv ea
    by_cases h5 : n ≤ 500
    · go_enter Try.func4, Try.ntmps4
      go_wp2_with fail
      refine Calls.mono HC1.out ?_
      rintro e w1 ⟨s, hsr, hans⟩
      rw [HR.out s] at hans
      obtain ⟨so, sc, ro, rc, rfl, os, or, b1⟩ := hans
      obtain ⟨⟨h1, h2⟩, hls⟩ := hsr HS.out
      rw [HXV.out] at h1 h2
      have HOS : Hid (Own w.heap.size w1 so sc (words s)) := os
      have HOR : Hid (Own w.heap.size w1 ro rc (words (x - s * s))) := or
      have HB1 : Hid _ := b1
      have H1 : Hid _ := h1
      have H2 : Hid _ := h2
      have hxl : (words x).length ≤ 500 := by rw [← HEA.out, HN.out]; exact h5
      have hqq : (words (s * s)).length ≤ 500 := Nat.le_trans (words_mono h1) hxl
      have hrr : (words (x - s * s)).length ≤ 500 := Nat.le_trans (words_mono (Nat.sub_le _ _)) hxl
      have HLS : Hid _ := hls
      have HXL : Hid _ := hxl
      have HQQ : Hid _ := hqq
      have HRR : Hid _ := hrr
      clear HC1 os or b1 h1 h2 hsr hls hxl hqq hrr
      obtain ⟨r, hr⟩ : ∃ r, x - s * s = r := ⟨_, rfl⟩
      rw [hr] at HOR HRR
      simp only [hr]
      have HRE : Hid _ := hr
      clear hr
      go_wp2_with fail
      refine (awake_any w1).mono ?_
      rintro e w2 ⟨rfl, b2⟩
      have hos2 := HOS.out.below b2
      have c3 := mul_any sc sc hos2.rd hos2.rd (by have := HLS.out; omega) (by have := HLS.out; omega)
      rw [mul_words (by have := HLS.out; omega) (by have := HLS.out; omega) (by have := HQQ.out; omega)] at c3
      have HC3 : Hid _ := c3
      have HOS2 : Hid _ := hos2
      have HOR2 : Hid _ := HOR.out.below b2
      have HB2 : Hid _ := chain2 HB1.out b2
      clear hos2 b2 c3
      go_wp2_with fail
      refine Calls.mono HC3.out ?_
      rintro e w3 ⟨qo, qc, rfl, oq, b3⟩
      have HOQ3 : Hid (Rd w3 qo (words (s * s))) := oq.rd
      have hor3 := HOR2.out.below b3
      have esum : s * s + r = x := by
        have h1 := H1.out
        have h2 := HRE.out
        omega
      have c4 := add_any qc rc HOQ3.out hor3.rd (by have := HQQ.out; omega) (by have := HRR.out; omega)
      rw [add_words (by have := HQQ.out; omega) (by have := HRR.out; omega) (by rw [esum]; have := HXL.out; omega), esum] at c4
      have HC4 : Hid _ := c4
      have HOS3 : Hid _ := HOS2.out.below b3
      have HB3 : Hid _ := chain2 HB2.out b3
      clear oq b3 hor3 esum c4 HC3
      go_wp2_with fail
      refine Calls.mono HC4.out ?_
      rintro e w4 ⟨to, tc, rfl, ot, b4⟩
      have HOT4 : Hid (Rd w4 to (words x)) := ot.rd
      have HOQ4 : Hid _ := HOQ3.out.below b4
      have hos4 := HOS3.out.below b4
      have HB4 : Hid _ := chain2 HB3.out b4
      have l5 := Rd.lit1 w4 1 (by omega)
      have e5 : Below w4.heap.size w4 (w4.alloc (.cells #[.int .u32 ((1 : Nat) : Int)] 30)) := (Below.refl _ _).alloc (Nat.le_refl _) _
      have ew : [1] = words 1 := by rw [words_pos (by omega)]; simp [words_zero]
      have hl1 : (words (s + 1)).length ≤ 301 := words_add_length (k := 300) HLS.out (by rw [← ew]; simp)
      have c5 := add_any sc 1 (hos4.rd.below e5) l5 (by have := HLS.out; omega) (by simp)
      have ea5 : addS (words s) [1] = (words (s + 1), 0) := by
        rw [ew]
        exact add_words (by have := HLS.out; omega) (by rw [← ew]; simp) (by omega)
      rw [ea5] at c5
      have HC5 : Hid _ := c5
      have HE5 : Hid _ := e5
      have HL1 : Hid _ := hl1
      clear ot b4 hos4 l5 e5 ew c5 ea5 hl1 HC4
      go_wp2_with fail
      refine Calls.mono HC5.out ?_
      rintro e w6 ⟨no, nc, rfl, on, b6'⟩
      have b6 := chain2 HE5.out b6'
      have HOT6 : Hid _ := HOT4.out.below b6
      have HOQ6 : Hid _ := HOQ4.out.below b6
      have HB6 : Hid _ := chain2 HB4.out b6
      have hon : Rd w6 no (words (s + 1)) := on.rd
      have hup : (words ((s + 1) * (s + 1))).length ≤ 512 := by
        have h1 : (s + 1) * (s + 1) ≤ 4 * x + 4 := by
          have := H1.out
          have e : (s + 1) * (s + 1) = s * s + 2 * s + 1 := by
            simp only [Nat.mul_add, Nat.add_mul]
            omega
          have h3 : s ≤ s * s + 1 := by
            rcases Nat.eq_zero_or_pos s with h | h
            · omega
            · have : s * 1 ≤ s * s := Nat.mul_le_mul_left _ h
              omega
          omega
        have h2 : 4 * x + 4 < pw 501 := by
          have := words_length_iff.1 HXL.out
          have e : pw 501 = 4294967296 * pw 500 := pw_succ 500
          have : 0 < pw 500 := pw_pos 500
          generalize pw 500 = Z at *
          omega
        have := words_length_le (Nat.lt_of_le_of_lt h1 h2)
        omega
      have c6 := mul_any nc nc hon hon (by have := HL1.out; omega) (by have := HL1.out; omega)
      rw [mul_words (by have := HL1.out; omega) (by have := HL1.out; omega) hup] at c6
      have HC6 : Hid _ := c6
      have HUP : Hid _ := hup
      clear on b6 b6' hon hup c6 HC5
      go_wp2_with fail
      refine Calls.mono HC6.out ?_
      rintro e w7 ⟨vo, vc, rfl, ov, b7⟩
      have HOV7 : Hid (Rd w7 vo (words ((s + 1) * (s + 1)))) := ov.rd
      have HOT7 : Hid _ := HOT6.out.below b7
      have HOQ7 : Hid _ := HOQ6.out.below b7
      have HB7 : Hid _ := chain2 HB6.out b7
      have hra7 : Rd w7 ao (words x) := by rw [← HEA.out]; exact HA.out.rd.below HB7.out
      have hnx : (words x).length = n := by rw [← HEA.out]; exact HN.out
      have c7 := same_any tc ca HOT7.out hra7 (by have := HXL.out; omega)
      rw [hnx] at c7
      have HC7 : Hid _ := c7
      have HNX : Hid _ := hnx
      simp only [hnx]
      clear ov b7 hra7 hnx c7 HC6
      go_wp2_with fail
      refine Calls.mono HC7.out ?_
      rintro e w8 ⟨rfl, b8⟩
      have HB8 : Hid _ := chain2 HB7.out b8
      have hra8 : Rd w8 ao (words x) := by rw [← HEA.out]; exact HA.out.rd.below HB8.out
      have HRA8 : Hid _ := hra8
      have c8 := cmp_any qc ca (HOQ7.out.below b8) hra8 (by have := HQQ.out; omega) (by have := HXL.out; omega)
      rw [cmp_words (by have := HQQ.out; omega) (by have := HXL.out; omega), HNX.out] at c8
      have HOV8 : Hid _ := HOV7.out.below b8
      have hc8 : cmpN (s * s) x ≤ 0 := by
        have := H1.out
        unfold cmpN
        split
        · omega
        · rw [if_neg (by omega)]
          omega
      obtain ⟨k1, hk1⟩ : ∃ k, cmpN (s * s) x = k := ⟨_, rfl⟩
      rw [hk1] at c8 hc8
      have HC8 : Hid _ := c8
      clear b8 hra8 c8 hk1 HC7
      go_wp2_with fail
      refine Calls.mono HC8.out ?_
      rintro e w9 ⟨rfl, b9⟩
      have HB9 : Hid _ := chain2 HB8.out b9
      have c9 := cmp_any vc ca (HOV8.out.below b9) (HRA8.out.below b9) (by have := HUP.out; omega) (by have := HXL.out; omega)
      rw [cmp_words HUP.out (by have := HXL.out; omega), HNX.out] at c9
      have hgt : cmpN ((s + 1) * (s + 1)) x = 1 := cmp_gt H2.out
      rw [hgt] at c9
      have HC9 : Hid _ := c9
      clear b9 c9 hgt HC8
      go_wp2_with fail
      refine Calls.mono HC9.out ?_
      rintro e w10 ⟨rfl, b10⟩
      have HB10 : Hid _ := chain2 HB9.out b10
      clear b10 HC9
      go_wp2
      go_ret
      exact ⟨rfl, HB10.out⟩
    · go_enter Try.func4, Try.ntmps4
      go_wp2_with fail
      refine Calls.mono HC1.out ?_
      rintro e w1 ⟨s, hsr, hans⟩
      rw [HR.out s] at hans
      obtain ⟨so, sc, ro, rc, rfl, os, or, b1⟩ := hans
      have HB1 : Hid _ := b1
      clear HC1 os or b1 hsr
      go_wp2_with fail
      refine (awake_any w1).mono ?_
      rintro e w2 ⟨rfl, b2⟩
      have HB2 : Hid _ := chain2 HB1.out b2
      clear b2
      go_wp2_with fail
      refine (awake_any w2).mono ?_
      rintro e w3 ⟨rfl, b3⟩
      have HB3 : Hid _ := chain2 HB2.out b3
      clear b3
      go_wp2
      go_ret
      exact ⟨rfl, HB3.out⟩
  · simp only [Bool.not_eq_true] at hs
    have hr : ∀ s, rootA a s = ([], [], 2) := by intro s; unfold rootA; rw [hs]; rfl
    have HR : Hid _ := hr
    have HS : Hid _ := hs
    obtain ⟨n, HN⟩ : ∃ n, Hid (a.length = n) := ⟨_, rfl⟩
    rw [HN.out] at HC1 hla ⊢
    clear hr hs
    go_enter Try.func4, Try.ntmps4
    go_wp2_with fail
    refine Calls.mono HC1.out ?_
    rintro e w1 ⟨s, hsr, hans⟩
    rw [HR.out s] at hans
    obtain ⟨so, sc, ro, rc, rfl, os, or, b1⟩ := hans
    have HB1 : Hid _ := b1
    clear HC1 os or b1 hsr
    go_wp2_with fail
    refine (awake_any w1).mono ?_
    rintro e w2 ⟨rfl, b2⟩
    have HB2 : Hid _ := chain2 HB1.out b2
    clear b2
    go_wp2_with fail
    refine (awake_any w2).mono ?_
    rintro e w3 ⟨rfl, b3⟩
    have HB3 : Hid _ := chain2 HB2.out b3
    have c4 := sound_any ca (HA.out.rd.below HB3.out) HA.out.len
    rw [HN.out, HS.out] at c4
    have HC4 : Hid _ := c4
    clear b3 c4
    go_wp2_with fail
    refine Calls.mono HC4.out ?_
    rintro e w' ⟨rfl, hw'⟩
    have hw' := hw'.symm
    subst hw'
    go_wp2
    go_ret
    exact ⟨rfl, HB3.out⟩
end Go.Proofs.Ytedjpknkiaibjab
