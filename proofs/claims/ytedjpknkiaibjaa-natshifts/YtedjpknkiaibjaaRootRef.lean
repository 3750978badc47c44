/- Walk of the document's square root, bit by bit. -/
import Derived.Test.YtedjpknkiaibjaaShiftRef2
import Derived.Test.YtedjpknkiaibjaaRootW
import Derived.Test.YtedjpknkiaibjaaNatL
import Derived.Test.YtedjpknkiaibjaaNatM
namespace Go.Proofs.Ytedjpknkiaibjaa
open Go.RowKit
set_option linter.unusedVariables false
set_option linter.unusedSimpArgs false

theorem sq_more (s j : Nat) : (s + 2 ^ j) * (s + 2 ^ j) = s * s + (s * 2 ^ (j + 1) + 2 ^ (2 * j)) := by
  have e : 2 ^ (2 * j) = 2 ^ j * 2 ^ j := by rw [← Nat.pow_add]; congr 1; omega
  have e2 : s * 2 ^ (j + 1) = 2 * (s * 2 ^ j) := by rw [Nat.pow_succ, ← Nat.mul_assoc, Nat.mul_comm]
  rw [e, e2]
  simp only [Nat.mul_add, Nat.add_mul]
  have : 2 ^ j * s = s * 2 ^ j := Nat.mul_comm _ _
  omega
theorem two_double (s j : Nat) : s + 2 ^ (j + 1) = s + 2 ^ j + 2 ^ j := by rw [Nat.pow_succ]; omega
theorem root_small {s x : Nat} (h : s * s ≤ x) : s ≤ x := by
  rcases Nat.eq_zero_or_pos s with h0 | h0
  · omega
  · have : s * 1 ≤ s * s := Nat.mul_le_mul_left _ h0
    omega
theorem root_begin (x : Nat) : x < (0 + 2 ^ ((bl x + 1) / 2 + 1)) * (0 + 2 ^ ((bl x + 1) / 2 + 1)) := by
  have h1 := lt_bl x
  rw [Nat.zero_add, ← Nat.pow_add]
  exact Nat.lt_of_lt_of_le h1 (Nat.pow_le_pow_right (by omega) (by omega))
theorem one_words : [1] = words 1 := by rw [words_pos (by omega)]; simp [words_zero]
theorem cmp_le {x y : Nat} (h : x ≤ y) : cmpN x y ≤ 0 := by
  unfold cmpN
  split
  · omega
  · rw [if_neg (by omega)]
    omega

set_option maxHeartbeats 2000000 in
set_option maxRecDepth 1000000 in
theorem rrootS_any {w : World} {ao : Option Addr} {x : Nat} (ca : Nat) (ha : Rd w ao (words x)) (hx : (words x).length ≤ 512) (hcap : (words x).length ≤ ca) (hnil : ao = none → ca = 0) :
    Calls Try.prog 32 #[.slice ao (words x).length ca] w fun e w' => ∃ s, isRoot x s ∧ Ans3 w (words s, words (x - s * s), 0) e w' := by
  have c1 := rsound_any ca ha (by omega)
  rw [words_sound hx] at c1
  have b1 : Below w.heap.size w (w.alloc (.cells #[] 33)) := (Below.refl _ _).alloc (Nat.le_refl _) _
  have o1 : Own w.heap.size (w.alloc (.cells #[] 33)) (some ⟨w.heap.size, 0, none⟩) 0 [] := ⟨dig_nil, World.ownsRow_made w #[] 0 (Nat.le_refl _) (by decide) rfl⟩
  have c2 := norm_any ca (ha.below b1) (by omega) hcap hnil
  rw [val_words] at c2
  obtain ⟨n, HN⟩ : ∃ n, Hid ((words x).length = n) := ⟨_, rfl⟩
  have HA : Hid _ := ha
  have hb5 := bl_len hx
  rw [HN.out] at c1 c2 hx ⊢
  have HC2 : Hid _ := c2
  have HO1 : Hid _ := o1
  have HB1 : Hid _ := b1
  obtain ⟨K, hK⟩ : ∃ K, (bl x + 1) / 2 = K := ⟨_, rfl⟩
  have HST : Hid _ := root_begin x
  rw [hK] at HST
  have hKI : ((bl x : Int) + 1) / 2 = (K : Int) := by omega
  have hK8 : K ≤ 8192 := by omega
  clear ha b1 o1 c2 hcap hnil
  go_enter Try.func32, Try.ntmps32
  go_wp2_with fail
  refine c1.mono ?_
  rintro e w' ⟨rfl, hw'⟩
  have hw' := hw'.symm
  subst hw'
  clear c1
  go_wp2_with fail
  refine Calls.mono HC2.out ?_
  rintro e w2 ⟨lo, lc, rfl, ol, b2⟩
  have HO2 : Hid (Own w.heap.size w2 lo lc (words x)) := ol.lower HB1.out.size
  have HS2 : Hid _ := HO1.out.below b2
  have HB2 : Hid _ := chain2 HB1.out b2
  have c3 := size_any ca (HA.out.below HB2.out) (by rw [HN.out]; omega)
  rw [HN.out] at c3
  obtain ⟨bx, hbx⟩ : ∃ b, bl x = b := ⟨_, rfl⟩
  rw [hbx] at c3 hKI hb5 hK
  have HC3 : Hid _ := c3
  clear ol b2 c3 HC2 hbx hK
  go_wp2_with fail
  refine Calls.mono HC3.out ?_
  rintro e w' ⟨rfl, hw'⟩
  have hw' := hw'.symm
  subst hw'
  clear HC3
  go_wp2
  try simp only [hKI]
  clear hKI
  go_loopw [5, 6, 7] (fun v5 v6 v7 wr => ∃ (kk s left : Nat) (so lo : Option Addr) (sc lc : Nat), kk ≤ K + 1 ∧ v7 = .int .i64 ((kk : Int) - 1) ∧ v5 = .slice so (words s).length sc ∧ v6 = .slice lo (words left).length lc ∧ Own w.heap.size wr so sc (words s) ∧ Own w.heap.size wr lo lc (words left) ∧ Below w.heap.size w wr ∧ s * s + left = x ∧ x < (s + 2 ^ kk) * (s + 2 ^ kk)) (fun _ _ v7 _ => (intOf v7 + 1).toNat)
  case atStart =>
    refine ⟨K + 1, 0, x, some ⟨w.heap.size, 0, none⟩, lo, 0, lc, Nat.le_refl _, by go_num, by rw [words_zero]; rfl, rfl, by rw [words_zero]; exact HS2.out, HO2.out, HB2.out, by omega, HST.out⟩
  case round =>
    obtain ⟨kk, s, left, so, lo, sc, lc, hkk, rfl, rfl, rfl, hos, hol, hbw, hsum, hlt⟩ := hrel
    have HSUM : Hid _ := hsum
    have HLT : Hid _ := hlt
    have hsx : s * s ≤ x := by omega
    have hls : (words s).length ≤ 512 := Nat.le_trans (words_mono (root_small hsx)) (by rw [HN.out]; exact hx)
    have hll : (words left).length ≤ 512 := Nat.le_trans (words_mono (show left ≤ x by omega)) (by rw [HN.out]; exact hx)
    clear hsum hlt hsx
    by_cases hk0 : kk = 0
    · subst hk0
      have HR : Hid (isRoot x s ∧ left = x - s * s) := by
        have h1 := HSUM.out
        have h2 := HLT.out
        rw [Nat.pow_zero] at h2
        exact ⟨⟨by omega, h2⟩, by omega⟩
      have HOS : Hid _ := hos
      have HOL : Hid _ := hol
      have HBW : Hid _ := hbw
      clear hos hol hbw
      go_wp2
      go_ret3
      refine ⟨s, HR.out.1, ?_⟩
      rw [← HR.out.2]
      exact ⟨_, _, _, _, rfl, HOS.out, HOL.out, HBW.out⟩
    · obtain ⟨j, rfl⟩ : ∃ j, kk = j + 1 := ⟨kk - 1, by omega⟩
      have e1 : (((j + 1 : Nat) : Int) - 1) = (j : Int) := by omega
      simp only [e1]
      have c1 := rup_any sc (j + 1) hos.rd (by omega) (by omega)
      simp only [Int.natCast_add, Int.cast_ofNat_Int] at c1
      obtain ⟨ns, HNS⟩ : ∃ n, Hid ((words s).length = n) := ⟨_, rfl⟩
      obtain ⟨nl, HNL⟩ : ∃ n, Hid ((words left).length = n) := ⟨_, rfl⟩
      rw [HNS.out] at c1 hls ⊢
      rw [HNL.out] at hll ⊢
      have HC1 : Hid _ := c1
      have HOS : Hid _ := hos
      have HOL : Hid _ := hol
      have HBW : Hid _ := hbw
      clear c1 hos hol hbw
      go_wp2_with fail
      refine Calls.mono HC1.out ?_
      rintro e w3 ⟨uo, uc, rfl, ou, b3⟩
      have r4 := Rd.lit1 w3 1 (by omega)
      have b4 : Below w3.heap.size w3 (w3.alloc (.cells #[.int .u32 ((1 : Nat) : Int)] 33)) := (Below.refl _ _).alloc (Nat.le_refl _) _
      rw [one_words] at r4
      have c4 := rup_any 1 (2 * j) r4 (by rw [← one_words]; simp) (by omega)
      rw [← one_words, Nat.one_mul] at c4
      simp only [Int.natCast_mul, Int.cast_ofNat_Int] at c4
      have HC4 : Hid _ := c4
      have hou4 := ou.below b4
      have HOS4 : Hid _ := (HOS.out.below b3).below b4
      have HOL4 : Hid _ := (HOL.out.below b3).below b4
      have HOU4 : Hid _ := hou4
      have HBW4 : Hid _ := chain2 (chain2 HBW.out b3) b4
      have hlu : (words (s * 2 ^ (j + 1))).length ≤ 1000 := by
        have := words_shl_length (x := s) (k := j + 1) (n := 512) (by rw [HNS.out]; exact hls)
        omega
      have HLU : Hid _ := hlu
      clear ou b3 r4 b4 c4 hou4 hlu HC1
      go_wp2_with fail
      refine Calls.mono HC4.out ?_
      rintro e w5 ⟨to, tc, rfl, ot, b5⟩
      have hlt : (words (2 ^ (2 * j))).length ≤ 1000 := by
        have := len_two (S := 2 ^ (2 * j)) (k := 2 * j) (Nat.le_refl _)
        omega
      have c5 := plus_any uc tc (HOU4.out.rd.below b5) ot.rd (by have := HLU.out; omega) (by omega)
      have HC5 : Hid _ := c5
      have HOS5 : Hid _ := HOS4.out.below b5
      have HOL5 : Hid _ := HOL4.out.below b5
      have HBW5 : Hid _ := chain2 HBW4.out b5
      have hlm : (words (s * 2 ^ (j + 1) + 2 ^ (2 * j))).length ≤ 1001 := words_add_length HLU.out hlt
      have HSQ : Hid _ := sq_more s j
      obtain ⟨more, hmore⟩ : ∃ m, s * 2 ^ (j + 1) + 2 ^ (2 * j) = m := ⟨_, rfl⟩
      rw [hmore] at HC5 hlm HSQ
      have HLM : Hid _ := hlm
      clear ot b5 hlt c5 hlm hmore HC4
      go_wp2_with fail
      refine Calls.mono HC5.out ?_
      rintro e w6 ⟨mo, mc, rfl, om, b6⟩
      have hol6 := HOL5.out.below b6
      have c6 := rorder_any mc lc om.rd hol6.rd (by have := HLM.out; omega) (by rw [HNL.out]; omega)
      rw [HNL.out] at c6
      have HOS6 : Hid _ := HOS5.out.below b6
      have HOL6 : Hid _ := hol6
      have HOM6 : Hid _ := om
      have HBW6 : Hid _ := chain2 HBW5.out b6
      clear om b6 hol6 HC5
      by_cases hcmp : more ≤ left
      · have hle := cmp_le hcmp
        obtain ⟨kc, hkc⟩ : ∃ k, cmpN more left = k := ⟨_, rfl⟩
        rw [hkc] at c6 hle
        have HC6 : Hid _ := c6
        have HCMP : Hid _ := hcmp
        clear c6 hkc hcmp
        go_wp2_with fail
        refine Calls.mono HC6.out ?_
        rintro e w7 ⟨rfl, b7⟩
        have c7 := rless_any lc mc (HOL6.out.rd.below b7) (HOM6.out.rd.below b7) (by rw [HNL.out]; omega) HCMP.out
        rw [HNL.out] at c7
        have HC7 : Hid _ := c7
        have HOS7 : Hid _ := HOS6.out.below b7
        have HBW7 : Hid _ := chain2 HBW6.out b7
        clear b7 c7 HC6
        go_wp2_with fail
        refine Calls.mono HC7.out ?_
        rintro e w8 ⟨ko, kc2, rfl, ok, b8⟩
        have HOK8 : Hid _ := ok.lower HBW7.out.size
        have HOS8 : Hid _ := HOS7.out.below b8
        have HBW8 : Hid _ := chain2 HBW7.out b8
        have r9 := Rd.lit1 w8 1 (by omega)
        have b9 : Below w8.heap.size w8 (w8.alloc (.cells #[.int .u32 ((1 : Nat) : Int)] 33)) := (Below.refl _ _).alloc (Nat.le_refl _) _
        rw [one_words] at r9
        have c9 := rup_any 1 j r9 (by rw [← one_words]; simp) (by omega)
        rw [← one_words, Nat.one_mul] at c9
        have HC9 : Hid _ := c9
        have HOK9 : Hid _ := HOK8.out.below b9
        have HOS9 : Hid _ := HOS8.out.below b9
        have HBW9 : Hid _ := chain2 HBW8.out b9
        clear ok b8 r9 b9 c9 HC7
        go_wp2_with fail
        refine Calls.mono HC9.out ?_
        rintro e w10 ⟨po, pc, rfl, op, b10⟩
        have hlp : (words (2 ^ j)).length ≤ 1000 := by
          have := len_two (S := 2 ^ j) (k := j) (Nat.le_refl _)
          omega
        have c10 := plus_any sc pc (HOS9.out.rd.below b10) op.rd (by rw [HNS.out]; omega) (by omega)
        rw [HNS.out] at c10
        have HC10 : Hid _ := c10
        have HOK10 : Hid _ := HOK9.out.below b10
        have HBW10 : Hid _ := chain2 HBW9.out b10
        clear op b10 hlp c10 HC9
        go_wp2_with fail
        refine Calls.mono HC10.out ?_
        rintro e w11 ⟨zo, zc, rfl, oz, b11⟩
        have HOZ11 : Hid _ := oz.lower HBW10.out.size
        have HOK11 : Hid _ := HOK10.out.below b11
        have HBW11 : Hid _ := chain2 HBW10.out b11
        clear oz b11 HC10
        go_wp2
        go_roundw
        case rel =>
          refine ⟨j, s + 2 ^ j, left - more, zo, ko, zc, kc2, by omega, by go_num, rfl, rfl, HOZ11.out, HOK11.out, HBW11.out, ?_, ?_⟩
          · have h1 := HSQ.out
            have h2 := HSUM.out
            have h3 := HCMP.out
            omega
          · have h1 := HLT.out
            rw [two_double] at h1
            exact h1
        case measure => simp only [intOf]; omega
      · have hgt : cmpN more left = 1 := cmp_gt (by omega)
        rw [hgt] at c6
        have HC6 : Hid _ := c6
        have hcmp2 : left < more := by omega
        have HCMP : Hid _ := hcmp2
        clear c6 hgt hcmp hcmp2
        go_wp2_with fail
        refine Calls.mono HC6.out ?_
        rintro e w7 ⟨rfl, b7⟩
        have HOS7 : Hid _ := HOS6.out.below b7
        have HOL7 : Hid _ := HOL6.out.below b7
        have HBW7 : Hid _ := chain2 HBW6.out b7
        clear b7 HC6
        go_wp2
        go_roundw
        case rel =>
          refine ⟨j, s, left, so, lo, sc, lc, by omega, by go_num, by rw [HNS.out], by rw [HNL.out], HOS7.out, HOL7.out, HBW7.out, HSUM.out, ?_⟩
          have h1 := HSQ.out
          have h2 := HSUM.out
          have h3 := HCMP.out
          omega
        case measure => simp only [intOf]; omega
end Go.Proofs.Ytedjpknkiaibjaa
