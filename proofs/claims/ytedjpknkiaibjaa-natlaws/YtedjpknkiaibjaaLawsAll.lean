/- Walk of the law of quotients, sums, products and squares: all inputs. -/
import Derived.Test.YtedjpknkiaibjaaLawsWalk
namespace Go.Proofs.Ytedjpknkiaibjaa
open Go.RowKit
set_option linter.unusedVariables false
set_option linter.unusedSimpArgs false

set_option maxHeartbeats 2000000 in
set_option maxRecDepth 1000000 in
theorem laws_walk (w : World) (ao : Option Addr) (ca : Nat) (a : List Nat) (ha : Arg w ao ca a) (bo : Option Addr) (cb : Nat) (b : List Nat) (hb : Arg w bo cb b) (co : Option Addr) (cc : Nat) (c : List Nat) (hc : Arg w co cc c) :
    Calls Try.prog 8 #[.slice ao a.length ca, .slice bo b.length cb, .slice co c.length cc] w fun e w' => e = .returned (.bool true) ∧ Below w.heap.size w w' := by
  have HA : Hid _ := ha
  have HBB : Hid _ := hb
  have HCC : Hid _ := hc
  have hla := ha.len
  have hlb := hb.len
  have hlc := hc.len
  clear ha hb hc
  obtain ⟨na, HN⟩ : ∃ n, Hid (a.length = n) := ⟨_, rfl⟩
  obtain ⟨nb, HM⟩ : ∃ n, Hid (b.length = n) := ⟨_, rfl⟩
  obtain ⟨nc, HK⟩ : ∃ n, Hid (c.length = n) := ⟨_, rfl⟩
  rw [HN.out] at hla
  rw [HM.out] at hlb
  rw [HK.out] at hlc
  by_cases h1 : na ≤ 100
  · by_cases h2 : nb ≤ 100
    · by_cases h3 : nc ≤ 100
      · by_cases s1 : sound a = true
        · by_cases s2 : sound b = true
          · by_cases s3 : sound c = true
            · obtain ⟨ea, _⟩ := sound_words HA.out.rd.dig s1
              obtain ⟨eb, _⟩ := sound_words HBB.out.rd.dig s2
              obtain ⟨ec, _⟩ := sound_words HCC.out.rd.dig s3
              have := laws_sound w ao bo co ca cb cc (val a) (val b) (val c) (by rw [← ea]; exact HA.out.rd) (by rw [← eb]; exact HBB.out.rd) (by rw [← ec]; exact HCC.out.rd) HA.out.nil (by rw [← ea, HN.out]; exact h1) (by rw [← eb, HM.out]; exact h2) (by rw [← ec, HK.out]; exact h3)
              rw [← ea, ← eb, ← ec] at this
              exact this
            · simp only [Bool.not_eq_true] at s3
              rw [HN.out, HM.out, HK.out]
              have HS1 : Hid _ := s1
              have HS2 : Hid _ := s2
              have HS3 : Hid _ := s3
              go_enter Try.func8, Try.ntmps8
              go_wp2_with fail
              refine (awake_any w).mono ?_
              rintro e w1 ⟨rfl, b1⟩
              have d1 := sound_any ca (HA.out.rd.below b1) HA.out.len
              rw [HS1.out, HN.out] at d1
              have d2 := sound_any cb (HBB.out.rd.below b1) HBB.out.len
              rw [HS2.out, HM.out] at d2
              have d3 := sound_any cc (HCC.out.rd.below b1) HCC.out.len
              rw [HS3.out, HK.out] at d3
              have HB1 : Hid _ := b1
              clear b1
              go_wp2_with fail
              refine d1.mono ?_
              rintro e w' ⟨rfl, hw'⟩
              have hw' := hw'.symm
              subst hw'
              go_wp2_with fail
              refine d2.mono ?_
              rintro e w' ⟨rfl, hw'⟩
              have hw' := hw'.symm
              subst hw'
              go_wp2_with fail
              refine d3.mono ?_
              rintro e w' ⟨rfl, hw'⟩
              have hw' := hw'.symm
              subst hw'
              clear d1 d2 d3
              go_wp2_with fail
              refine (awake_any w1).mono ?_
              rintro e w2 ⟨rfl, b2⟩
              have HB2 : Hid _ := chain2 HB1.out b2
              clear b2
              go_wp2
              go_ret
              exact ⟨rfl, HB2.out⟩
          · simp only [Bool.not_eq_true] at s2
            rw [HN.out, HM.out, HK.out]
            have HS1 : Hid _ := s1
            have HS2 : Hid _ := s2
            go_enter Try.func8, Try.ntmps8
            go_wp2_with fail
            refine (awake_any w).mono ?_
            rintro e w1 ⟨rfl, b1⟩
            have d1 := sound_any ca (HA.out.rd.below b1) HA.out.len
            rw [HS1.out, HN.out] at d1
            have d2 := sound_any cb (HBB.out.rd.below b1) HBB.out.len
            rw [HS2.out, HM.out] at d2
            have HB1 : Hid _ := b1
            clear b1
            go_wp2_with fail
            refine d1.mono ?_
            rintro e w' ⟨rfl, hw'⟩
            have hw' := hw'.symm
            subst hw'
            go_wp2_with fail
            refine d2.mono ?_
            rintro e w' ⟨rfl, hw'⟩
            have hw' := hw'.symm
            subst hw'
            clear d1 d2
            go_wp2_with fail
            refine (awake_any w1).mono ?_
            rintro e w2 ⟨rfl, b2⟩
            have HB2 : Hid _ := chain2 HB1.out b2
            clear b2
            go_wp2
            go_ret
            exact ⟨rfl, HB2.out⟩
        · simp only [Bool.not_eq_true] at s1
          rw [HN.out, HM.out, HK.out]
          have HS1 : Hid _ := s1
          go_enter Try.func8, Try.ntmps8
          go_wp2_with fail
          refine (awake_any w).mono ?_
          rintro e w1 ⟨rfl, b1⟩
          have d1 := sound_any ca (HA.out.rd.below b1) HA.out.len
          rw [HS1.out, HN.out] at d1
          have HB1 : Hid _ := b1
          clear b1
          go_wp2_with fail
          refine d1.mono ?_
          rintro e w' ⟨rfl, hw'⟩
          have hw' := hw'.symm
          subst hw'
          clear d1
          go_wp2_with fail
          refine (awake_any w1).mono ?_
          rintro e w2 ⟨rfl, b2⟩
          have HB2 : Hid _ := chain2 HB1.out b2
          clear b2
          go_wp2
          go_ret
          exact ⟨rfl, HB2.out⟩
      · rw [HN.out, HM.out, HK.out]
        go_enter Try.func8, Try.ntmps8
        go_wp2_with fail
        refine (awake_any w).mono ?_
        rintro e w1 ⟨rfl, b1⟩
        have HB1 : Hid _ := b1
        clear b1
        go_wp2_with fail
        refine (awake_any w1).mono ?_
        rintro e w2 ⟨rfl, b2⟩
        have HB2 : Hid _ := chain2 HB1.out b2
        clear b2
        go_wp2
        go_ret
        exact ⟨rfl, HB2.out⟩
    · rw [HN.out, HM.out, HK.out]
      go_enter Try.func8, Try.ntmps8
      go_wp2_with fail
      refine (awake_any w).mono ?_
      rintro e w1 ⟨rfl, b1⟩
      have HB1 : Hid _ := b1
      clear b1
      go_wp2_with fail
      refine (awake_any w1).mono ?_
      rintro e w2 ⟨rfl, b2⟩
      have HB2 : Hid _ := chain2 HB1.out b2
      clear b2
      go_wp2
      go_ret
      exact ⟨rfl, HB2.out⟩
  · rw [HN.out, HM.out, HK.out]
    go_enter Try.func8, Try.ntmps8
    go_wp2_with fail
    refine (awake_any w).mono ?_
    rintro e w1 ⟨rfl, b1⟩
    have HB1 : Hid _ := b1
    clear b1
    go_wp2_with fail
    refine (awake_any w1).mono ?_
    rintro e w2 ⟨rfl, b2⟩
    have HB2 : Hid _ := chain2 HB1.out b2
    clear b2
    go_wp2
    go_ret
    exact ⟨rfl, HB2.out⟩
end Go.Proofs.Ytedjpknkiaibjaa
