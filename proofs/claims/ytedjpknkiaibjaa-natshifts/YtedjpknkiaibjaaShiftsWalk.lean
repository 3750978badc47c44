/- Walk of the law of shifts and roots. -/
import Derived.Test.YtedjpknkiaibjaaRootRef
import Derived.Test.YtedjpknkiaibjaaArgs
namespace Go.Proofs.Ytedjpknkiaibjaa
open Go.RowKit
set_option linter.unusedVariables false
set_option linter.unusedSimpArgs false

set_option maxHeartbeats 1000000 in
set_option maxRecDepth 1000000 in
theorem rrootN_any {w : World} {ao : Option Addr} {a : List Nat} (ca : Nat) (ha : Rd w ao a) (la : a.length ≤ 9223372036854775807) (hcap : a.length ≤ ca) (hnil : ao = none → ca = 0) :
    Calls Try.prog 32 #[.slice ao a.length ca] w fun e w' => ∃ s, (sound a = true → isRoot (val a) s) ∧ Ans3 w (rootA a s) e w' := by
  by_cases hs : sound a = true
  · obtain ⟨ea, na⟩ := sound_words ha.dig hs
    have c := rrootS_any (x := val a) ca (by rw [← ea]; exact ha) (by rw [← ea]; exact na) (by rw [← ea]; exact hcap) hnil
    rw [← ea] at c
    refine c.mono ?_
    rintro e w' ⟨s, h1, h2⟩
    refine ⟨s, fun _ => h1, ?_⟩
    unfold rootA
    rw [hs]
    exact h2
  · simp only [Bool.not_eq_true] at hs
    have c1 := rsound_any ca ha la
    rw [hs] at c1
    have HS : Hid _ := hs
    have HR : Hid (rootA a 0 = ([], [], 2)) := by unfold rootA; rw [hs]; rfl
    generalize a.length = n at *
    clear ha hnil hs hcap
    go_enter Try.func32, Try.ntmps32
    go_wp2_with fail
    refine c1.mono ?_
    rintro e w' ⟨rfl, rfl⟩
    go_wp2
    go_ret3
    refine ⟨0, fun h => ?_, ?_⟩
    · rw [HS.out] at h
      cases h
    · rw [HR.out]
      exact Ans3.none _ _

theorem shiftS_len (a : List Nat) (n : Int) (ha : Dig a) : (shiftS a n).1.length ≤ 512 := by
  unfold shiftS
  split
  · rename_i hs
    obtain ⟨e, hl⟩ := sound_words ha hs
    split
    · simp
    · split
      · have := words_mono (Nat.div_le_self (val a) (2 ^ (-n).toNat))
        rw [← e] at this
        simp only
        omega
      · unfold fitS
        split
        · assumption
        · simp
  · simp
theorem rootA_len {a : List Nat} {s : Nat} (ha : Dig a) (h : sound a = true → isRoot (val a) s) : (rootA a s).1.length ≤ 512 ∧ (rootA a s).2.1.length ≤ 512 := by
  unfold rootA
  split
  · rename_i hs
    obtain ⟨e, hl⟩ := sound_words ha hs
    have h1 := words_mono (root_small (h hs).1)
    have h2 := words_mono (Nat.sub_le (val a) (s * s))
    rw [← e] at h1 h2
    simp only
    omega
  · simp
theorem rootA_eq {a : List Nat} {s t : Nat} (h1 : sound a = true → isRoot (val a) s) (h2 : sound a = true → isRoot (val a) t) : rootA a s = rootA a t := by
  unfold rootA
  by_cases hs : sound a = true
  · rw [root_unique (h1 hs).1 (h1 hs).2 (h2 hs).1 (h2 hs).2]
  · simp only [hs]
    rfl

set_option maxHeartbeats 1000000 in
set_option maxRecDepth 1000000 in
theorem shifts_walk (w : World) (ao : Option Addr) (ca : Nat) (a : List Nat) (ha : Arg w ao ca a) (n : Int) (n0 : -9223372036854775808 ≤ n) (n1 : n ≤ 9223372036854775807) :
    Calls Try.prog 6 #[.slice ao a.length ca, .int .i64 n] w fun e w' => e = .returned (.bool true) ∧ Below w.heap.size w w' := by
  have HC1 : Hid _ := shift_any ca n ha.rd ha.len n0 n1
  have HA : Hid _ := ha
  have HL : Hid _ := shiftS_len a n ha.rd.dig
  obtain ⟨m, HN⟩ : ∃ m, Hid (a.length = m) := ⟨_, rfl⟩
  rw [HN.out] at HC1 ⊢
  obtain ⟨r, hr⟩ : ∃ r, shiftS a n = r := ⟨_, rfl⟩
  rw [hr] at HC1 HL
  have HR : Hid _ := hr
  clear ha hr
  go_enter Try.func6, Try.ntmps6
  go_wp2_with fail
  refine Calls.mono HC1.out ?_
  rintro e w1 ⟨po, pc, rfl, op, b1⟩
  have HP1 : Hid _ := op.rd
  have c2 := rshift_any ca n (HA.out.rd.below b1) HA.out.len n0 n1
  rw [HR.out, HN.out] at c2
  have HC2 : Hid _ := c2
  have HB1 : Hid _ := b1
  clear op b1 c2 HC1
  go_wp2_with fail
  refine Calls.mono HC2.out ?_
  rintro e w2 ⟨qo, qc, rfl, oq, b2⟩
  have HP2 : Hid _ := HP1.out.below b2
  have HQ2 : Hid _ := oq.rd
  have HB2 : Hid _ := chain2 HB1.out b2
  have c3 := rootN_any ca (HA.out.rd.below HB2.out) HA.out.len HA.out.nil
  rw [HN.out] at c3
  have HC3 : Hid _ := c3
  clear oq b2 c3 HC2
  go_wp2_with fail
  refine Calls.mono HC3.out ?_
  rintro e w3 ⟨s, hs, hans⟩
  obtain ⟨s1, s2, h2len⟩ : ∃ h : sound a = true → isRoot (val a) s, ((rootA a s).1.length ≤ 512) ∧ ((rootA a s).2.1.length ≤ 512) := ⟨fun h => (hs h).1, rootA_len HA.out.rd.dig (fun h => (hs h).1)⟩
  have HS1 : Hid _ := s1
  have HL1 : Hid _ := s2
  have HL2 : Hid _ := h2len
  obtain ⟨so, sc, ro, rc, rfl, os, or, b3⟩ := hans
  have HS3 : Hid _ := os.rd
  have HR3 : Hid _ := or.rd
  have HP3 : Hid _ := HP2.out.below b3
  have HQ3 : Hid _ := HQ2.out.below b3
  have HB3 : Hid _ := chain2 HB2.out b3
  have c4 := rrootN_any ca (HA.out.rd.below HB3.out) HA.out.len HA.out.caps HA.out.nil
  rw [HN.out] at c4
  have HC4 : Hid _ := c4
  clear hs s1 s2 h2len os or b3 c4 HC3
  obtain ⟨q, hq⟩ : ∃ q, rootA a s = q := ⟨_, rfl⟩
  have HQE : Hid _ := hq
  rw [hq] at HL1 HL2 HS3 HR3
  simp only [hq]
  clear hq
  go_wp2_with fail
  refine Calls.mono HC4.out ?_
  rintro e w4 ⟨t, ht, hans⟩
  rw [← rootA_eq HS1.out ht, HQE.out] at hans
  obtain ⟨to, tc, uo, uc, rfl, ot, ou, b4⟩ := hans
  have HT4 : Hid _ := ot.rd
  have HU4 : Hid _ := ou.rd
  have HS4 : Hid _ := HS3.out.below b4
  have HR4 : Hid _ := HR3.out.below b4
  have HP4 : Hid _ := HP3.out.below b4
  have HQ4 : Hid _ := HQ3.out.below b4
  have HB4 : Hid _ := chain2 HB3.out b4
  clear ht ot ou b4 HC4
  go_wp2_with fail
  refine (awake_any w4).mono ?_
  rintro e w5 ⟨rfl, b5⟩
  have c5 := same_any pc qc (HP4.out.below b5) (HQ4.out.below b5) (by have := HL.out; omega)
  have HC5 : Hid _ := c5
  have HT5 : Hid _ := HT4.out.below b5
  have HU5 : Hid _ := HU4.out.below b5
  have HS5 : Hid _ := HS4.out.below b5
  have HR5 : Hid _ := HR4.out.below b5
  have HB5 : Hid _ := chain2 HB4.out b5
  clear b5 c5
  go_wp2_with fail
  refine Calls.mono HC5.out ?_
  rintro e w6 ⟨rfl, b6⟩
  have HC6 : Hid _ := same_any sc tc (HS5.out.below b6) (HT5.out.below b6) (by have := HL1.out; omega)
  have HU6 : Hid _ := HU5.out.below b6
  have HR6 : Hid _ := HR5.out.below b6
  have HB6 : Hid _ := chain2 HB5.out b6
  clear b6 HC5
  go_wp2_with fail
  refine Calls.mono HC6.out ?_
  rintro e w7 ⟨rfl, b7⟩
  have HC7 : Hid _ := same_any rc uc (HR6.out.below b7) (HU6.out.below b7) (by have := HL2.out; omega)
  have HB7 : Hid _ := chain2 HB6.out b7
  clear b7 HC6
  go_wp2_with fail
  refine Calls.mono HC7.out ?_
  rintro e w8 ⟨rfl, b8⟩
  have HB8 : Hid _ := chain2 HB7.out b8
  clear b8
  go_wp2
  go_ret
  exact ⟨rfl, HB8.out⟩
end Go.Proofs.Ytedjpknkiaibjaa
