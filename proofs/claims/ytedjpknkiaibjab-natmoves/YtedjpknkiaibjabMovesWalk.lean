/- Walk of the law of shifts up and down. -/
import Derived.Test.YtedjpknkiaibjabNatQ
import Derived.Test.YtedjpknkiaibjabNatN
import Derived.Test.YtedjpknkiaibjabArgs
namespace Go.Proofs.Ytedjpknkiaibjab
open Go.RowKit
set_option linter.unusedVariables false
set_option linter.unusedSimpArgs false

theorem retB {a b : Bool} (h : a = b) : Ending.returned (.bool a) = .returned (.bool b) := by rw [h]
theorem bl_words_le {x n : Nat} (h : (words x).length ≤ n) : bl x ≤ 32 * n := bl_le.2 (by rw [← pw_two]; exact words_length_iff.1 h)
theorem moves_down {y x k : Nat} (hy : y = x * 2 ^ k) (hl : (words y).length ≤ 512) (hx : (words x).length ≤ 512) (hk : k ≤ 255) : shiftS (words y) (-(k : Int)) = (words x, 0) := by
  unfold shiftS
  rw [words_sound hl, val_words]
  simp only [if_true]
  rw [if_neg (by omega)]
  by_cases h0 : k = 0
  · subst h0
    rw [if_neg (by simp)]
    have e : (-((0 : Nat) : Int)).toNat = 0 := rfl
    rw [e, Nat.pow_zero, Nat.mul_one, hy, Nat.pow_zero, Nat.mul_one]
    unfold fitS
    rw [if_pos hx]
  · rw [if_pos (by omega)]
    have e : (-(-(k : Int))).toNat = k := by omega
    rw [e, hy, Nat.mul_div_cancel _ (Nat.pow_pos (by omega))]
theorem two_length {k : Nat} (hk : k ≤ 255) : (words (2 ^ k)).length ≤ 8 := by
  apply words_length_le
  rw [pw_two]
  exact Nat.pow_lt_pow_right (by omega) (by omega)
theorem moves_two {k : Nat} (hk : k ≤ 255) : shiftS [1] (k : Int) = (words (2 ^ k), 0) := by
  unfold shiftS
  have e : sound [1] = true := by decide
  have e2 : val [1] = 1 := rfl
  rw [e, e2]
  simp only [if_true]
  rw [if_neg (by omega), if_neg (by omega), Int.toNat_natCast, Nat.one_mul]
  unfold fitS
  rw [if_pos (by have := two_length hk; omega)]
theorem moves_up {a : List Nat} {k : Nat} (hs : sound a = true) (hk : k ≤ 255) : shiftS a (k : Int) = fitS (val a * 2 ^ k) := by
  unfold shiftS
  rw [hs]
  simp only [if_true]
  rw [if_neg (by omega), if_neg (by omega), Int.toNat_natCast]
theorem bl_up {x k : Nat} (h : x ≠ 0) : bl (x * 2 ^ k) = bl x + k := by
  have p : 0 < 2 ^ k := Nat.pow_pos (by omega)
  have e : x * 2 ^ k / 2 ^ k = x := Nat.mul_div_cancel _ p
  have := bl_shift (x := x * 2 ^ k) (k := k) (by rw [e]; exact h)
  rw [e] at this
  omega

set_option maxHeartbeats 1000000 in
set_option maxRecDepth 1000000 in
theorem moves_walk (w : World) (ao : Option Addr) (ca : Nat) (a : List Nat) (ha : Arg w ao ca a) (nI : Int) (n0 : 0 ≤ nI) (n1 : nI ≤ 255) :
    Calls Try.prog 5 #[.slice ao a.length ca, .int .u8 nI] w fun e w' => e = .returned (.bool true) ∧ Below w.heap.size w w' := by
  obtain ⟨k, rfl⟩ := Int.eq_ofNat_of_zero_le n0
  have hk : k ≤ 255 := by omega
  clear n0 n1
  have c1 := shift_any ca (k : Int) ha.rd ha.len (by omega) (by omega)
  have HA : Hid _ := ha
  clear ha
  obtain ⟨n, hn⟩ : ∃ n, a.length = n := ⟨_, rfl⟩
  have HN : Hid _ := hn
  rw [hn] at c1 ⊢
  clear hn
  by_cases hs : sound a = true
  · obtain ⟨ea, na⟩ := sound_words HA.out.rd.dig hs
    rw [moves_up hs hk] at c1
    have HEA : Hid _ := ea
    by_cases hlen : (words (val a * 2 ^ k)).length ≤ 512
    · obtain ⟨y, hy⟩ : ∃ y, val a * 2 ^ k = y := ⟨_, rfl⟩
      have HY : Hid _ := hy
      rw [hy] at c1 hlen
      have ef : fitS y = (words y, 0) := by unfold fitS; rw [if_pos hlen]
      rw [ef] at c1
      have HC1 : Hid _ := c1
      have HLY : Hid _ := hlen
      have HNA : Hid _ := na
      have HS : Hid _ := hs
      clear c1 ea na ef hy hlen hs
      go_enter Try.func5, Try.ntmps5
      go_wp2_with fail
      refine Calls.mono HC1.out ?_
      rintro e w1 ⟨uo, uc, rfl, ou, b1⟩
      have HU1 : Hid _ := ou.rd
      have HR1 : Hid _ := HA.out.rd.below b1
      have HB1 : Hid _ := b1
      clear ou b1 HC1
      obtain ⟨ny, HNY⟩ : ∃ ny, Hid ((words y).length = ny) := ⟨_, rfl⟩
      simp only [HNY.out]
      go_wp2_with fail
      refine (awake_any w1).mono ?_
      rintro e w2 ⟨rfl, b2⟩
      have HU2 : Hid _ := HU1.out.below b2
      have HR2 : Hid _ := HR1.out.below b2
      have HB2 : Hid _ := chain2 HB1.out b2
      have c3 := shift_any uc (-(k : Int)) HU2.out (by have := HLY.out; omega) (by omega) (by omega)
      rw [moves_down HY.out.symm HLY.out (by rw [← HEA.out]; exact HNA.out) hk, ← HEA.out, HNY.out] at c3
      have HC3 : Hid _ := c3
      clear b2 c3
      go_wp2_with fail
      refine Calls.mono HC3.out ?_
      rintro e w3 ⟨do_, dc, rfl, od, b3⟩
      have HU3 : Hid _ := HU2.out.below b3
      have HR3 : Hid _ := HR2.out.below b3
      have HB3 : Hid _ := chain2 HB2.out b3
      have HD3 : Hid _ := od.rd
      have l4 := Rd.lit1 w3 1 (by omega)
      have e4 : Below w3.heap.size w3 (w3.alloc (.cells #[.int .u32 ((1 : Nat) : Int)] 30)) := (Below.refl _ _).alloc (Nat.le_refl _) _
      have c4 := shift_any 1 (k : Int) l4 (by simp) (by omega) (by omega)
      rw [moves_two hk] at c4
      have HC4 : Hid _ := c4
      have HE4 : Hid _ := e4
      clear b3 od l4 c4 e4 HC3
      simp only [HN.out]
      go_wp2_with fail
      refine Calls.mono HC4.out ?_
      rintro e w4 ⟨po, pc, rfl, op, b4'⟩
      have b4 := chain2 HE4.out b4'
      have HU4 : Hid _ := HU3.out.below b4
      have HR4 : Hid _ := HR3.out.below b4
      have HB4 : Hid _ := chain2 HB3.out b4
      have HD4 : Hid _ := HD3.out.below b4
      have c5 := mul_any ca pc HR4.out (show Rd w4 po (words (2 ^ k)) from op.rd) HA.out.len (by have := two_length hk; omega)
      have em : mulS a (words (2 ^ k)) = (words y, 0) := by
        unfold mulS
        rw [HS.out, words_sound (by have := two_length hk; omega), val_words, HY.out]
        unfold fitS
        rw [if_pos HLY.out]
        rfl
      obtain ⟨np, HNP⟩ : ∃ np, Hid ((words (2 ^ k)).length = np) := ⟨_, rfl⟩
      rw [em, HN.out, HNP.out] at c5
      have HC5 : Hid _ := c5
      clear b4 b4' op c5 em HC4
      simp only [HNP.out]
      go_wp2_with fail
      refine Calls.mono HC5.out ?_
      rintro e w5 ⟨mo, mc, rfl, om, b5⟩
      have HU5 : Hid _ := HU4.out.below b5
      have HR5 : Hid _ := HR4.out.below b5
      have HB5 : Hid _ := chain2 HB4.out b5
      have HD5 : Hid _ := HD4.out.below b5
      have HM5 : Hid _ := om.rd
      have c6 := bits_any ca HR5.out HA.out.len
      have c7 := bits_any uc HU5.out (by have := HLY.out; omega)
      have e6 : bitsS a = bl (val a) := by unfold bitsS; rw [HS.out]; rfl
      have e7 : bitsS (words y) = bl y := by unfold bitsS; rw [words_sound HLY.out, val_words]; rfl
      rw [HN.out, e6] at c6
      rw [e7] at c7
      have HC6 : Hid _ := c6
      clear b5 om c6 c7 e6 e7 HC5
      have hbl : bl (val a) ≤ 16384 := by
        have := bl_words_le (show (words (val a)).length ≤ 512 by rw [← HEA.out]; exact HNA.out)
        omega
      obtain ⟨bx, HBX⟩ : ∃ bx, Hid (bl (val a) = bx) := ⟨_, rfl⟩
      rw [HBX.out] at HC6 hbl
      simp only [HNY.out]
      go_wp2_with fail
      refine Calls.mono HC6.out ?_
      rintro e w' ⟨rfl, hw'⟩
      have hw' := hw'.symm
      subst hw'
      clear HC6
      have hby : bl y = if n = 0 then 0 else bx + k := by
        rw [← HY.out]
        by_cases h0 : n = 0
        · rw [if_pos h0]
          have : val a = 0 := by
            have e := HN.out
            rw [h0] at e
            rw [List.length_eq_zero_iff.1 e]
            rfl
          rw [this, Nat.zero_mul]
          rfl
        · rw [if_neg h0, ← HBX.out]
          apply bl_up
          intro e
          have h2 := HEA.out
          rw [e, words_zero] at h2
          have h3 := HN.out
          rw [h2] at h3
          exact h0 h3.symm
      have HBY : Hid _ := hby
      clear hby
      by_cases h0 : n = 0
      all_goals
        first
        | (subst h0
           have h0' : bl y = 0 := by rw [HBY.out]; rfl
           have HBY2 : Hid _ := h0'
           clear h0')
        | (have h0' : bl y = bx + k := by rw [HBY.out, if_neg h0]
           have HBY2 : Hid _ := h0'
           have hz : ((n : Int) == 0) = false := by simp; omega
           clear h0')
        have HC8 : Hid _ := same_any dc ca HD5.out HR5.out HA.out.len
        rw [HN.out] at HC8
        go_wp2_with fail
        refine Calls.mono HC8.out ?_
        rintro e w8 ⟨rfl, b8⟩
        have HC9 : Hid _ := same_any mc uc (HM5.out.below b8) (HU5.out.below b8) (by have := HLY.out; omega)
        rw [HNY.out] at HC9
        have HU8 : Hid _ := HU5.out.below b8
        have HB8 : Hid _ := chain2 HB5.out b8
        clear b8 HC8
        go_wp2_with fail
        refine Calls.mono HC9.out ?_
        rintro e w9 ⟨rfl, b9⟩
        have c10 := bits_any uc (HU8.out.below b9) (by have := HLY.out; omega)
        have e10 : bitsS (words y) = bl y := by unfold bitsS; rw [words_sound HLY.out, val_words]; rfl
        rw [e10, HBY2.out, HNY.out] at c10
        try simp only [Int.natCast_add] at c10
        have HC10 : Hid _ := c10
        have HB9 : Hid _ := chain2 HB8.out b9
        clear b9 HC9 c10 e10
        go_wp2_with fail
        refine Calls.mono HC10.out ?_
        rintro e w' ⟨rfl, hw'⟩
        have hw' := hw'.symm
        subst hw'
        go_wp2
        go_ret
        exact ⟨rfl, HB9.out⟩
    · have ef : fitS (val a * 2 ^ k) = ([], 4) := by unfold fitS; rw [if_neg hlen]
      rw [ef] at c1
      have hn5 : 500 < n := by
        have h1 := words_shl_length (k := k) (show (words (val a)).length ≤ n by rw [← ea]; exact Nat.le_of_eq HN.out)
        omega
      have HC1 : Hid _ := c1
      clear c1 ea na ef hlen hs
      go_enter Try.func5, Try.ntmps5
      go_wp2_with fail
      refine Calls.mono HC1.out ?_
      rintro e w1 ⟨uo, uc, rfl, ou, b1⟩
      have HB1 : Hid _ := b1
      clear ou b1 HC1
      go_wp2_with fail
      refine (awake_any w1).mono ?_
      rintro e w2 ⟨rfl, b2⟩
      have HB2 : Hid _ := chain2 HB1.out b2
      clear b2
      go_wp2_with fail
      refine (awake_any w2).mono ?_
      rintro e w3 ⟨rfl, b3⟩
      have HB3 : Hid _ := chain2 HB2.out b3
      clear b3
      go_wp2
      go_ret
      exact ⟨retB (decide_eq_true (by omega)), HB3.out⟩
  · simp only [Bool.not_eq_true] at hs
    have es : shiftS a (k : Int) = ([], 2) := by unfold shiftS; rw [hs]; rfl
    rw [es] at c1
    have HC1 : Hid _ := c1
    have HS : Hid _ := hs
    clear c1 es hs
    go_enter Try.func5, Try.ntmps5
    go_wp2_with fail
    refine Calls.mono HC1.out ?_
    rintro e w1 ⟨uo, uc, rfl, ou, b1⟩
    have HB1 : Hid _ := b1
    clear ou b1 HC1
    go_wp2_with fail
    refine (awake_any w1).mono ?_
    rintro e w2 ⟨rfl, b2⟩
    have HB2 : Hid _ := chain2 HB1.out b2
    clear b2
    go_wp2_with fail
    refine (awake_any w2).mono ?_
    rintro e w3 ⟨rfl, b3⟩
    have HB3 : Hid _ := chain2 HB2.out b3
    have c4 := sound_any ca (HA.out.rd.below HB3.out) HA.out.len
    rw [HN.out, HS.out] at c4
    have HC4 : Hid _ := c4
    clear b3 c4
    go_wp2_with fail
    refine Calls.mono HC4.out ?_
    rintro e w' ⟨rfl, hw'⟩
    have hw' := hw'.symm
    subst hw'
    go_wp2
    go_ret
    exact ⟨rfl, HB3.out⟩
end Go.Proofs.Ytedjpknkiaibjab
