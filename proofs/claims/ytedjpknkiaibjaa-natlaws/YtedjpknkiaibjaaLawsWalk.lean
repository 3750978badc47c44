/- Walk of the law of quotients, sums, products and squares. -/
import Derived.Test.YtedjpknkiaibjaaRootW
import Derived.Test.YtedjpknkiaibjaaNatM
import Derived.Test.YtedjpknkiaibjaaArgs
namespace Go.Proofs.Ytedjpknkiaibjaa
open Go.RowKit
set_option linter.unusedVariables false
set_option linter.unusedSimpArgs false

theorem mul_words2 {x y : Nat} (hx : (words x).length ≤ 512) (hy : (words y).length ≤ 512) (h : (words (x * y)).length ≤ 512) : mulS (words x) (words y) = (words (x * y), 0) := by
  unfold mulS fitS
  rw [words_sound hx, words_sound hy, val_words, val_words, if_pos h]
  rfl
theorem add_words2 {x y : Nat} (hx : (words x).length ≤ 512) (hy : (words y).length ≤ 512) (h : (words (x + y)).length ≤ 512) : addS (words x) (words y) = (words (x + y), 0) := by
  unfold addS fitS
  rw [words_sound hx, words_sound hy, val_words, val_words, if_pos h]
  rfl
theorem sub_words2 {x y : Nat} (hx : (words x).length ≤ 512) (hy : (words y).length ≤ 512) (h : y ≤ x) : subS (words x) (words y) = (words (x - y), 0) := by
  unfold subS
  rw [words_sound hx, words_sound hy, val_words, val_words]
  simp only [Bool.and_self, if_true]
  rw [if_neg (by omega)]
theorem cmp_words2 {x y : Nat} (hx : (words x).length ≤ 512) (hy : (words y).length ≤ 512) : cmpS (words x) (words y) = cmpN x y := by
  unfold cmpS
  rw [words_sound hx, words_sound hy, val_words, val_words]
  rfl
theorem div_words2 {x y : Nat} (hx : (words x).length ≤ 512) (hy : (words y).length ≤ 512) (hy0 : y ≠ 0) : divS (words x) (words y) = (words (x / y), words (x % y), 0) := by
  unfold divS
  rw [words_sound hx, words_sound hy, val_words, val_words]
  simp only [Bool.and_self, if_true]
  rw [if_neg (fun e => hy0 (words_eq_nil.1 (List.length_eq_zero_iff.1 e)))]
theorem div_zero2 {x : Nat} (hx : (words x).length ≤ 512) : divS (words x) (words 0) = ([], [], 3) := by
  unfold divS
  rw [words_sound hx, words_sound (by rw [words_zero]; simp)]
  simp [words_zero]

set_option maxHeartbeats 2000000 in
set_option maxRecDepth 1000000 in
theorem laws_sound (w : World) (ao bo co : Option Addr) (ca cb cc x y z : Nat) (ha : Rd w ao (words x)) (hb : Rd w bo (words y)) (hc : Rd w co (words z)) (na : ao = none → ca = 0)
    (lx : (words x).length ≤ 100) (ly : (words y).length ≤ 100) (lz : (words z).length ≤ 100) :
    Calls Try.prog 8 #[.slice ao (words x).length ca, .slice bo (words y).length cb, .slice co (words z).length cc] w fun e w' => e = .returned (.bool true) ∧ Below w.heap.size w w' := by
  have HA : Hid _ := ha
  have HBB : Hid _ := hb
  have HCC : Hid _ := hc
  have HNA : Hid _ := na
  have HLX : Hid _ := lx
  have HLY : Hid _ := ly
  have HLZ : Hid _ := lz
  obtain ⟨nx, HNX⟩ : ∃ n, Hid ((words x).length = n) := ⟨_, rfl⟩
  obtain ⟨ny, HNY⟩ : ∃ n, Hid ((words y).length = n) := ⟨_, rfl⟩
  obtain ⟨nz, HNZ⟩ : ∃ n, Hid ((words z).length = n) := ⟨_, rfl⟩
  rw [HNX.out] at lx
  rw [HNY.out] at ly
  rw [HNZ.out] at lz
  rw [HNX.out, HNY.out, HNZ.out]
  clear ha hb hc na
  go_enter Try.func8, Try.ntmps8
  go_wp2_with fail
  refine (awake_any w).mono ?_
  rintro e w1 ⟨rfl, b1⟩
  have HB1 : Hid _ := b1
  have c1 := sound_any ca (HA.out.below b1) (by have := HLX.out; omega)
  rw [words_sound (by have := HLX.out; omega), HNX.out] at c1
  have c2 := sound_any cb (HBB.out.below b1) (by have := HLY.out; omega)
  rw [words_sound (by have := HLY.out; omega), HNY.out] at c2
  have c3 := sound_any cc (HCC.out.below b1) (by have := HLZ.out; omega)
  rw [words_sound (by have := HLZ.out; omega), HNZ.out] at c3
  clear b1
  go_wp2_with fail
  refine c1.mono ?_
  rintro e w' ⟨rfl, hw'⟩
  have hw' := hw'.symm
  subst hw'
  go_wp2_with fail
  refine c2.mono ?_
  rintro e w' ⟨rfl, hw'⟩
  have hw' := hw'.symm
  subst hw'
  go_wp2_with fail
  refine c3.mono ?_
  rintro e w' ⟨rfl, hw'⟩
  have hw' := hw'.symm
  subst hw'
  clear c1 c2 c3
  -- the sum b + c
  have hls : (words (y + z)).length ≤ 101 := words_add_length HLY.out HLZ.out
  have HLS : Hid _ := hls
  have d1 := add_any cb cc (HBB.out.below HB1.out) (HCC.out.below HB1.out) (by have := HLY.out; omega) (by have := HLZ.out; omega)
  rw [add_words2 (by have := HLY.out; omega) (by have := HLZ.out; omega) (by omega), HNY.out, HNZ.out] at d1
  have HD1 : Hid _ := d1
  clear hls d1
  go_wp2_with fail
  refine Calls.mono HD1.out ?_
  rintro e w2 ⟨so, sc, rfl, os, b2⟩
  have HS2 : Hid (Rd w2 so (words (y + z))) := os.rd
  have HB2 : Hid _ := chain2 HB1.out b2
  have d2 := mul_any ca sc (HA.out.below HB2.out) HS2.out (by have := HLX.out; omega) (by have := HLS.out; omega)
  have hl2 : (words (x * (y + z))).length ≤ 201 := words_mul_length HLX.out HLS.out
  rw [mul_words2 (by have := HLX.out; omega) (by have := HLS.out; omega) (by omega), HNX.out] at d2
  have HD2 : Hid _ := d2
  have HL2 : Hid _ := hl2
  clear os b2 d2 hl2 HD1
  go_wp2_with fail
  refine Calls.mono HD2.out ?_
  rintro e w3 ⟨lo, lc, rfl, ol, b3⟩
  have HL3 : Hid (Rd w3 lo (words (x * (y + z)))) := ol.rd
  have HS3 : Hid _ := HS2.out.below b3
  have HB3 : Hid _ := chain2 HB2.out b3
  have d3 := mul_any ca cb (HA.out.below HB3.out) (HBB.out.below HB3.out) (by have := HLX.out; omega) (by have := HLY.out; omega)
  have hl3 : (words (x * y)).length ≤ 200 := words_mul_length HLX.out HLY.out
  rw [mul_words2 (by have := HLX.out; omega) (by have := HLY.out; omega) (by omega), HNX.out, HNY.out] at d3
  have HD3 : Hid _ := d3
  have HLL3 : Hid _ := hl3
  clear ol b3 d3 hl3 HD2
  go_wp2_with fail
  refine Calls.mono HD3.out ?_
  rintro e w4 ⟨xo, xc, rfl, ox, b4⟩
  have HX4 : Hid (Rd w4 xo (words (x * y))) := ox.rd
  have HL4 : Hid _ := HL3.out.below b4
  have HS4 : Hid _ := HS3.out.below b4
  have HB4 : Hid _ := chain2 HB3.out b4
  have d4 := mul_any cc ca (HCC.out.below HB4.out) (HA.out.below HB4.out) (by have := HLZ.out; omega) (by have := HLX.out; omega)
  have hl4 : (words (z * x)).length ≤ 200 := words_mul_length HLZ.out HLX.out
  rw [mul_words2 (by have := HLZ.out; omega) (by have := HLX.out; omega) (by omega), HNX.out, HNZ.out] at d4
  have HD4 : Hid _ := d4
  have HLL4 : Hid _ := hl4
  clear ox b4 d4 hl4 HD3
  go_wp2_with fail
  refine Calls.mono HD4.out ?_
  rintro e w5 ⟨yo, yc, rfl, oy, b5⟩
  have HY5 : Hid (Rd w5 yo (words (z * x))) := oy.rd
  have HX5 : Hid _ := HX4.out.below b5
  have HL5 : Hid _ := HL4.out.below b5
  have HS5 : Hid _ := HS4.out.below b5
  have HB5 : Hid _ := chain2 HB4.out b5
  have edist : x * y + z * x = x * (y + z) := by rw [Nat.mul_add, Nat.mul_comm z x]
  have d5 := add_any xc yc HX5.out HY5.out (by have := HLL3.out; omega) (by have := HLL4.out; omega)
  rw [add_words2 (by have := HLL3.out; omega) (by have := HLL4.out; omega) (by rw [edist]; have := HL2.out; omega), edist] at d5
  have HD5 : Hid _ := d5
  clear oy b5 d5 edist HD4
  go_wp2_with fail
  refine Calls.mono HD5.out ?_
  rintro e w6 ⟨ro, rc, rfl, or, b6⟩
  have HR6 : Hid (Rd w6 ro (words (x * (y + z)))) := or.rd
  have HL6 : Hid _ := HL5.out.below b6
  have HS6 : Hid _ := HS5.out.below b6
  have HB6 : Hid _ := chain2 HB5.out b6
  have d6 := sub_any sc cc HS6.out (HCC.out.below HB6.out) (by have := HLS.out; omega) (by have := HLZ.out; omega)
  rw [sub_words2 (by have := HLS.out; omega) (by have := HLZ.out; omega) (by omega), show y + z - z = y by omega, HNZ.out] at d6
  have HD6 : Hid _ := d6
  clear or b6 d6 HD5
  go_wp2_with fail
  refine Calls.mono HD6.out ?_
  rintro e w7 ⟨do_, dc, rfl, od, b7⟩
  have HD7 : Hid (Rd w7 do_ (words y)) := od.rd
  have HR7 : Hid _ := HR6.out.below b7
  have HL7 : Hid _ := HL6.out.below b7
  have HB7 : Hid _ := chain2 HB6.out b7
  have d7 := mul_any ca ca (HA.out.below HB7.out) (HA.out.below HB7.out) (by have := HLX.out; omega) (by have := HLX.out; omega)
  have hl7 : (words (x * x)).length ≤ 200 := words_mul_length HLX.out HLX.out
  rw [mul_words2 (by have := HLX.out; omega) (by have := HLX.out; omega) (by omega), HNX.out] at d7
  have HDD7 : Hid _ := d7
  have HLL7 : Hid _ := hl7
  simp only [HNY.out]
  clear od b7 d7 hl7 HD6
  go_wp2_with fail
  refine Calls.mono HDD7.out ?_
  rintro e w8 ⟨qo, qc, rfl, oq, b8⟩
  have HD8 : Hid _ := HD7.out.below b8
  have HR8 : Hid _ := HR7.out.below b8
  have HL8 : Hid _ := HL7.out.below b8
  have HB8 : Hid _ := chain2 HB7.out b8
  have d8 := rootN_any qc (show Rd w8 qo (words (x * x)) from oq.rd) (by have := HLL7.out; omega) (fun e => by subst e; exact oq.none_cap)
  have HDD8 : Hid _ := d8
  clear oq b8 d8 HDD7
  go_wp2_with fail
  refine Calls.mono HDD8.out ?_
  rintro e w9 ⟨s, hsr, hans⟩
  have hsq := words_sound (x := x * x) (by have := HLL7.out; omega)
  have hroot := (hsr hsq).1
  rw [val_words] at hroot
  have es : s = x := root_unique hroot.1 hroot.2 (Nat.le_refl _) (Nat.mul_lt_mul'' (Nat.lt_succ_self x) (Nat.lt_succ_self x))
  subst es
  have era : rootA (words (s * s)) s = (words s, [], 0) := by
    unfold rootA
    rw [hsq, val_words, Nat.sub_self, words_zero]
    rfl
  rw [era] at hans
  obtain ⟨to, tc, uo, uc, rfl, ot, ou, b9⟩ := hans
  have HT9 : Hid (Rd w9 to (words s)) := ot.rd
  have HD9 : Hid _ := HD8.out.below b9
  have HR9 : Hid _ := HR8.out.below b9
  have HL9 : Hid _ := HL8.out.below b9
  have HB9 : Hid _ := chain2 HB8.out b9
  have e9 := same_any lc rc HL9.out HR9.out (by have := HL2.out; omega)
  have HE9 : Hid _ := e9
  simp only [HNX.out]
  clear ot ou b9 hsr hsq hroot era e9 HDD8
  go_wp2_with fail
  refine Calls.mono HE9.out ?_
  rintro e w10 ⟨rfl, b10⟩
  have HT10 : Hid _ := HT9.out.below b10
  have HB10 : Hid _ := chain2 HB9.out b10
  have e10 := same_any dc cb (HD9.out.below b10) (HBB.out.below HB10.out) (by have := HLY.out; omega)
  rw [HNY.out] at e10
  have HE10 : Hid _ := e10
  clear b10 e10 HE9
  go_wp2_with fail
  refine Calls.mono HE10.out ?_
  rintro e w11 ⟨rfl, b11⟩
  have HB11 : Hid _ := chain2 HB10.out b11
  have e11 := same_any tc ca (HT10.out.below b11) (HA.out.below HB11.out) (by have := HLX.out; omega)
  rw [HNX.out] at e11
  have HE11 : Hid _ := e11
  clear b11 e11 HE10
  go_wp2_with fail
  refine Calls.mono HE11.out ?_
  rintro e w12 ⟨rfl, b12⟩
  have HB12 : Hid _ := chain2 HB11.out b12
  have e12 := div_any ca cb (HA.out.below HB12.out) (HBB.out.below HB12.out) (by have := HLX.out; omega) (by have := HLY.out; omega) HNA.out
  clear b12 HE11
  by_cases hy0 : y = 0
  · subst hy0
    rw [div_zero2 (by have := HLX.out; omega), HNX.out, HNY.out] at e12
    have hny : ny = 0 := by rw [← HNY.out, words_zero]; rfl
    subst hny
    have HE12 : Hid _ := e12
    clear e12
    go_wp2_with fail
    refine Calls.mono HE12.out ?_
    rintro e w13 ⟨ko, kc, jo, jc, rfl, ok, oj, b13⟩
    have HB13 : Hid _ := chain2 HB12.out b13
    clear ok oj b13 HE12
    go_wp2
    go_ret
    exact ⟨rfl, HB13.out⟩
  · rw [div_words2 (by have := HLX.out; omega) (by have := HLY.out; omega) hy0, HNX.out, HNY.out] at e12
    have hny : ((ny : Int) == 0) = false := by
      simp
      intro e
      exact hy0 (words_eq_nil.1 (List.length_eq_zero_iff.1 (by rw [HNY.out]; exact e)))
    have HE12 : Hid _ := e12
    have hq1 : (words (s / y)).length ≤ 100 := Nat.le_trans (words_mono (Nat.div_le_self _ _)) HLX.out
    have hr1 : (words (s % y)).length ≤ 100 := Nat.le_trans (words_mono (Nat.mod_le _ _)) HLX.out
    have hmul : s / y * y ≤ s := Nat.div_mul_le_self _ _
    have hml : (words (s / y * y)).length ≤ 100 := Nat.le_trans (words_mono hmul) HLX.out
    have HSUM : Hid (s / y * y + s % y = s) := by
      have := Nat.div_add_mod s y
      rw [Nat.mul_comm] at this
      exact this
    have HLTr : Hid (s % y < y) := Nat.mod_lt _ (Nat.pos_of_ne_zero hy0)
    obtain ⟨q, hq⟩ : ∃ q, s / y = q := ⟨_, rfl⟩
    obtain ⟨r, hr⟩ : ∃ r, s % y = r := ⟨_, rfl⟩
    rw [hq, hr] at HE12 HSUM
    rw [hq] at hq1 hml
    rw [hr] at hr1 HLTr
    have HQ1 : Hid _ := hq1
    have HR1 : Hid _ := hr1
    have HML : Hid _ := hml
    clear e12 hq hr hmul hq1 hr1 hml hy0
    go_wp2_with fail
    refine Calls.mono HE12.out ?_
    rintro e w13 ⟨ko, kc, jo, jc, rfl, ok, oj, b13⟩
    have HK13 : Hid (Rd w13 ko (words q)) := ok.rd
    have HJ13 : Hid (Rd w13 jo (words r)) := oj.rd
    have HB13 : Hid _ := chain2 HB12.out b13
    have e13 := mul_any kc cb HK13.out (HBB.out.below HB13.out) (by have := HQ1.out; omega) (by have := HLY.out; omega)
    rw [mul_words2 (by have := HQ1.out; omega) (by have := HLY.out; omega) (by have := HML.out; omega), HNY.out] at e13
    have HE13 : Hid _ := e13
    clear ok oj b13 e13 HE12
    go_wp2_with fail
    refine Calls.mono HE13.out ?_
    rintro e w14 ⟨mo, mc, rfl, om, b14⟩
    have hj14 := HJ13.out.below b14
    have HB14 : Hid _ := chain2 HB13.out b14
    have e14 := add_any mc jc (show Rd w14 mo (words (q * y)) from om.rd) hj14 (by have := HML.out; omega) (by have := HR1.out; omega)
    rw [add_words2 (by have := HML.out; omega) (by have := HR1.out; omega) (by rw [HSUM.out]; have := HLX.out; omega), HSUM.out] at e14
    have HE14 : Hid _ := e14
    have HJ14 : Hid _ := hj14
    clear om b14 hj14 e14 HE13
    go_wp2_with fail
    refine Calls.mono HE14.out ?_
    rintro e w15 ⟨po, pc, rfl, op, b15⟩
    have HP15 : Hid (Rd w15 po (words s)) := op.rd
    have HB15 : Hid _ := chain2 HB14.out b15
    have e15 := cmp_any jc cb (HJ14.out.below b15) (HBB.out.below HB15.out) (by have := HR1.out; omega) (by have := HLY.out; omega)
    rw [cmp_words2 (by have := HR1.out; omega) (by have := HLY.out; omega), cmp_lt HLTr.out, HNY.out] at e15
    have HE15 : Hid _ := e15
    simp only [HNX.out]
    clear op b15 e15 HE14
    go_wp2_with fail
    refine Calls.mono HE15.out ?_
    rintro e w16 ⟨rfl, b16⟩
    have HB16 : Hid _ := chain2 HB15.out b16
    have e16 := same_any pc ca (HP15.out.below b16) (HA.out.below HB16.out) (by have := HLX.out; omega)
    rw [HNX.out] at e16
    have HE16 : Hid _ := e16
    clear b16 e16 HE15
    go_wp2_with fail
    refine Calls.mono HE16.out ?_
    rintro e w17 ⟨rfl, b17⟩
    have HB17 : Hid _ := chain2 HB16.out b17
    clear b17
    go_wp2
    go_ret
    exact ⟨rfl, HB17.out⟩
end Go.Proofs.Ytedjpknkiaibjaa
