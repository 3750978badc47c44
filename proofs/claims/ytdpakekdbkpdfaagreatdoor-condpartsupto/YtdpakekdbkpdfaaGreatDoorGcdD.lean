/- Walks of the common divisor, and of Gcd. -/
import Derived.Test.YtdpakekdbkpdfaaGreatDoorGcdC
namespace Go.Proofs.YtdpakekdbkpdfaaGreatDoor
open Go.RowKit
set_option linter.unusedVariables false
set_option linter.unusedSimpArgs false

theorem gcd_mod_step (x y : Nat) : Nat.gcd y (x % y) = Nat.gcd x y := by rw [Nat.gcd_comm x y, Nat.gcd_rec y x, Nat.gcd_comm]

set_option maxHeartbeats 2000000 in
set_option maxRecDepth 1000000 in
theorem divisor_any {w : World} {ao bo : Option Addr} {x y : Nat} (ca cb : Nat) (ha : Rd w ao (words x)) (hb : Rd w bo (words y)) (hx : (words x).length ≤ 80000) (hy : (words y).length ≤ 80000) (hna : ao = none → ca = 0) (hnb : bo = none → cb = 0) :
    Calls Tryz.prog 184 #[.slice ao (words x).length ca, .slice bo (words y).length cb] w (Row1 w (words (Nat.gcd x y))) := by
  have c0 := order_any ca cb ha hb (by omega) (by omega)
  obtain ⟨n, HN⟩ : ∃ n, Hid ((words x).length = n) := ⟨_, rfl⟩
  obtain ⟨m, HM⟩ : ∃ n, Hid ((words y).length = n) := ⟨_, rfl⟩
  rw [HN.out, HM.out] at c0
  have HA : Hid _ := ha
  have HRB : Hid _ := hb
  have HX : Hid _ := hx
  have HY : Hid _ := hy
  have HNA : Hid _ := hna
  have HNB : Hid _ := hnb
  rw [HN.out, HM.out]
  clear ha hb hx hy hna hnb
  by_cases hlt : x < y
  all_goals
    first
    | (have hk : cmpN x y = -1 := cmp_lt' hlt
       rw [hk] at c0
       have HLE : Hid _ := Nat.le_of_lt hlt
       clear hk)
    | (have hge := cmp_ge' hlt
       obtain ⟨kc, hkc⟩ : ∃ k, cmpN x y = k := ⟨_, rfl⟩
       rw [hkc] at c0 hge
       have HLE : Hid _ := Nat.le_of_not_lt hlt
       clear hkc)
    have HC0 : Hid _ := c0
    clear c0 hlt
    go_enter Tryz.func184, Tryz.ntmps184
    go_wp2_with fail
    refine Calls.mono HC0.out ?_
    rintro e w1 ⟨rfl, b1⟩
    have HB1 : Hid _ := b1
    clear b1 HC0
    go_wp2
    try clear hge
    go_loopg [0, 1] (x + y) (fun g v0 v1 wr => ∃ (A B : Nat) (po qo : Option Addr) (pc qc : Nat), g = A + B ∧ v0 = .slice po (words A).length pc ∧ v1 = .slice qo (words B).length qc ∧ Rd wr po (words A) ∧ Rd wr qo (words B) ∧ B ≤ A ∧ (words A).length ≤ 80000 ∧ (po = none → pc = 0) ∧ (qo = none → qc = 0) ∧ Nat.gcd A B = Nat.gcd x y ∧ Below w.heap.size w wr)
    case atStart =>
      first
      | exact ⟨x, y, ao, bo, ca, cb, rfl, by rw [HN.out], by rw [HM.out], HA.out.below HB1.out, HRB.out.below HB1.out, HLE.out, HX.out, HNA.out, HNB.out, rfl, HB1.out⟩
      | exact ⟨y, x, bo, ao, cb, ca, Nat.add_comm _ _, by rw [HM.out], by rw [HN.out], HRB.out.below HB1.out, HA.out.below HB1.out, HLE.out, HY.out, HNB.out, HNA.out, Nat.gcd_comm _ _, HB1.out⟩
    case round =>
      obtain ⟨A, B, po, qo, pc, qc, hg, rfl, rfl, hpa, hqb, hle, la, hnp, hnq, hgcd, hbw⟩ := hrel
      have lb := Nat.le_trans (words_mono hle) la
      have HGK : Hid _ := hg
      have HGCD : Hid _ := hgcd
      have HLA : Hid _ := la
      have HLB : Hid _ := lb
      have HPA : Hid _ := hpa
      have HQB : Hid _ := hqb
      have HBW : Hid _ := hbw
      have HLE2 : Hid _ := hle
      have HNP : Hid _ := hnp
      have HNQ : Hid _ := hnq
      obtain ⟨na, HNa⟩ : ∃ n, Hid ((words A).length = n) := ⟨_, rfl⟩
      obtain ⟨nb, HNb⟩ : ∃ n, Hid ((words B).length = n) := ⟨_, rfl⟩
      rw [HNa.out] at la
      rw [HNb.out] at lb
      rw [HNa.out, HNb.out]
      clear hg hgcd hpa hqb hbw hle hnp hnq HA HRB HX HY HNA HNB HLE
      by_cases h2 : 2 < nb
      · have c1 := laterPair_any pc qc HPA.out HQB.out HLA.out HLE2.out (by rw [HNb.out]; exact h2) HNP.out HNQ.out
        rw [HNa.out, HNb.out] at c1
        have HC1 : Hid _ := c1
        clear c1
        go_wp2_with fail
        refine Calls.mono HC1.out ?_
        rintro e w2 ⟨X, Y, xo, xc, yo, yc, rfl, hl, rx, ry, nx, ny, b2⟩
        have HL : Hid _ := hl
        have HRX : Hid _ := rx
        have HRY : Hid _ := ry
        have HNX : Hid _ := nx
        have HNY : Hid _ := ny
        have HB2 : Hid _ := chain2 HBW.out b2
        clear hl rx ry nx ny b2 HC1
        go_wp2
        go_roundg (X + Y)
        case measure =>
          have h1 := HL.out.2.2.2
          have h3 := HGK.out
          omega
        case rel =>
          refine ⟨X, Y, xo, yo, xc, yc, rfl, rfl, rfl, HRX.out, HRY.out, HL.out.2.1, Nat.le_trans (words_mono HL.out.2.2.1) HLA.out, HNX.out, HNY.out, ?_, HB2.out⟩
          rw [HL.out.1]
          exact HGCD.out
      · by_cases h0 : nb = 0
        · subst h0
          have hB : B = 0 := words_eq_nil.1 (List.length_eq_zero_iff.1 HNb.out)
          have hA : A = Nat.gcd x y := by rw [← HGCD.out, hB, Nat.gcd_zero_right]
          have c1 := clone_any pc HPA.out (by have := HLA.out; omega) HNP.out
          rw [HNa.out, hA] at c1
          have HC1 : Hid _ := c1
          clear c1 hA hB
          go_wp2_with fail
          refine Calls.mono HC1.out ?_
          rintro e w2 ⟨ro, rc, rfl, ho, b2⟩
          have HO : Hid _ := ho.lower HBW.out.size
          have HB2 : Hid _ := chain2 HBW.out b2
          clear ho b2 HC1
          go_wp2
          go_ret
          exact ⟨_, _, rfl, HO.out, HB2.out⟩
        · have hB0 : B ≠ 0 := fun e => h0 (by rw [← HNb.out, e, words_zero]; rfl)
          have h0' : ((nb : Int) == 0) = false := by simp; omega
          have c1 := divide_any pc qc HPA.out HQB.out (by have := HLA.out; omega) (by have := HLB.out; omega) HNP.out hB0
          rw [HNa.out, HNb.out] at c1
          have HC1 : Hid _ := c1
          have HB0 : Hid _ := hB0
          have h2' : ¬ (2 : Int) < (nb : Int) := by omega
          clear c1 hB0
          go_wp2_with fail
          refine Calls.mono HC1.out ?_
          rintro e w2 ⟨uo, uc, ro, rc, rfl, ou, or, b2⟩
          have hR : A % B < B := Nat.mod_lt _ (Nat.pos_of_ne_zero HB0.out)
          have hBlt : B < 18446744073709551616 := by
            have := words_length_iff.1 (show (words B).length ≤ 2 by rw [HNb.out]; omega)
            rwa [show pw 2 = 18446744073709551616 from rfl] at this
          have c2 := short_any qc (HQB.out.below b2) (by rw [HNb.out]; omega)
          rw [HNb.out] at c2
          have c3 := short_any rc or.rd (word2 (show A % B < 18446744073709551616 by omega))
          have HC2 : Hid _ := c2
          have HC3 : Hid _ := c3
          have HB2 : Hid _ := chain2 HBW.out b2
          have HG : Hid (Nat.gcd B (A % B) = Nat.gcd x y) := by
            show Nat.gcd B (A % B) = Nat.gcd x y
            rw [gcd_mod_step]
            exact HGCD.out
          obtain ⟨R, hRR⟩ : ∃ R, A % B = R := ⟨_, rfl⟩
          rw [hRR] at HC3 HG hR
          rw [hRR]
          clear or ou b2 c2 c3 HC1 hRR
          go_wp2_with fail
          refine Calls.mono HC2.out ?_
          rintro e w' ⟨rfl, hw'⟩
          have hw' := hw'.symm
          subst hw'
          go_wp2_with fail
          refine Calls.mono HC3.out ?_
          rintro e w' ⟨rfl, hw'⟩
          have hw' := hw'.symm
          subst hw'
          clear HC2 HC3
          go_wp2
          go_loopw [7, 8] (fun v7 v8 wr => ∃ p q : Nat, v7 = .int .u64 (p : Int) ∧ v8 = .int .u64 (q : Int) ∧ p < 18446744073709551616 ∧ q < 18446744073709551616 ∧ Nat.gcd p q = Nat.gcd x y ∧ Below w.heap.size w wr) (fun _ v8 _ => (intOf v8).toNat)
          case atStart => exact ⟨B, R, rfl, rfl, hBlt, by omega, HG.out, HB2.out⟩
          case round =>
            obtain ⟨p, q, rfl, rfl, lp, lq, hg, hbw⟩ := hrel
            have HG2 : Hid _ := hg
            have HBw : Hid _ := hbw
            clear hg hbw
            by_cases hq : q = 0
            · subst hq
              have hp : p = Nat.gcd x y := by rw [← HG2.out, Nat.gcd_zero_right]
              have c4 := wof_any p wr lp
              rw [hp] at c4
              have HC4 : Hid _ := c4
              have HP : Hid _ := hp
              clear c4 hp
              go_wp2_with fail
              refine Calls.mono (by have h := HC4.out; rw [← HP.out] at h; exact h) ?_
              rintro e w4 ⟨ro, rc, rfl, ho, b4⟩
              have HO : Hid _ := ho.lower HBw.out.size
              have HB4 : Hid _ := chain2 HBw.out b4
              clear ho b4 HC4
              go_wp2
              go_ret
              rw [← HP.out]
              exact ⟨_, _, rfl, HO.out, HB4.out⟩
            · have hq1 : ((q : Int) == 0) = false := by simp; omega
              have hmod : p % q < q := Nat.mod_lt _ (by omega)
              have t2 : (p : Int) % (q : Int) = ((p % q : Nat) : Int) := by rw [Int.natCast_emod]
              have HT2 : Hid _ := t2
              clear t2
              go_wp2
              go_region
              all_goals go_wp2
              all_goals go_roundw
              case rel =>
                refine ⟨q, p % q, rfl, ?_, lq, by omega, ?_, HBw.out.drew⟩
                · rw [← HT2.out]
                · rw [gcd_mod_step]
                  exact HG2.out
              case measure =>
                have h := HT2.out
                simp only [intOf]
                rw [h]
                omega

def gcdS (a b : List Nat) : List Nat × Int := if sound a && sound b then (words (Nat.gcd (val a) (val b)), 0) else ([], 2)

set_option maxHeartbeats 1000000 in
set_option maxRecDepth 1000000 in
theorem gcd_any {w : World} {ao bo : Option Addr} {a b : List Nat} (ca cb : Nat) (ha : Rd w ao a) (hb : Rd w bo b) (la : a.length ≤ 9223372036854775807) (lb : b.length ≤ 9223372036854775807) (hna : ao = none → ca = 0) (hnb : bo = none → cb = 0) :
    Calls Tryz.prog 168 #[.slice ao a.length ca, .slice bo b.length cb] w (Ans w (gcdS a b)) := by
  have c1 := sound_any ca ha la
  have c2 := sound_any cb hb lb
  unfold gcdS
  by_cases hs : sound a = true
  · by_cases ht : sound b = true
    · obtain ⟨ea, na⟩ := sound_words ha.dig hs
      obtain ⟨eb, nb⟩ := sound_words hb.dig ht
      rw [hs] at c1 ⊢
      rw [ht] at c2 ⊢
      generalize val a = x at *
      generalize val b = y at *
      subst ea eb
      have c3 := divisor_any ca cb ha hb (by omega) (by omega) hna hnb
      clear hs ht ha hb la lb hna hnb
      simp only [Bool.and_self, if_true]
      obtain ⟨n, HN⟩ : ∃ n, Hid ((words x).length = n) := ⟨_, rfl⟩
      obtain ⟨m, HM⟩ : ∃ m, Hid ((words y).length = m) := ⟨_, rfl⟩
      rw [HN.out] at c1
      rw [HM.out] at c2
      rw [HN.out, HM.out] at c3
      rw [HN.out, HM.out]
      have HC3 : Hid _ := c3
      clear c3 na nb
      go_enter Tryz.func168, Tryz.ntmps168
      go_wp2_with fail
      refine c1.mono ?_
      rintro e w' ⟨rfl, rfl⟩
      go_wp2_with fail
      refine c2.mono ?_
      rintro e w' ⟨rfl, rfl⟩
      clear c1 c2
      go_wp2_with fail
      refine Calls.mono HC3.out ?_
      rintro e w1 ⟨ro, rc, rfl, ho, b1⟩
      have HO : Hid _ := ho
      have HB : Hid _ := b1
      clear ho b1
      go_wp2
      go_ret2
      exact ⟨_, _, rfl, HO.out, HB.out⟩
    · simp only [Bool.not_eq_true] at ht
      rw [hs] at c1
      rw [ht] at c2
      rw [hs, ht]
      clear ha hb la lb hs ht hna hnb
      generalize a.length = n at *
      generalize b.length = m at *
      go_enter Tryz.func168, Tryz.ntmps168
      go_wp2_with fail
      refine c1.mono ?_
      rintro e w' ⟨rfl, rfl⟩
      go_wp2_with fail
      refine c2.mono ?_
      rintro e w' ⟨rfl, rfl⟩
      go_wp2
      go_ret2
      exact Ans.intro (Own.nil _ _) (Below.refl _ _)
  · simp only [Bool.not_eq_true] at hs
    rw [hs] at c1 ⊢
    clear ha hb la lb hs c2 hna hnb
    generalize a.length = n at *
    generalize b.length = m at *
    go_enter Tryz.func168, Tryz.ntmps168
    go_wp2_with fail
    refine c1.mono ?_
    rintro e w' ⟨rfl, rfl⟩
    go_wp2
    go_ret2
    exact Ans.intro (Own.nil _ _) (Below.refl _ _)
end Go.Proofs.YtdpakekdbkpdfaaGreatDoor
