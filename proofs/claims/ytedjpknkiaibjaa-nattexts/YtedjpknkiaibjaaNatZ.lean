/- Walks of the square root. -/
import Derived.Test.YtedjpknkiaibjaaNatY
import Derived.Test.YtedjpknkiaibjaaNatN
import Derived.Deep.LoopGhost
namespace Go.Proofs.Ytedjpknkiaibjaa
open Go.RowKit
set_option linter.unusedVariables false
set_option linter.unusedSimpArgs false

theorem amgm (a b : Nat) : 4 * (a * b) ≤ (a + b) * (a + b) := by
  have key : ∀ a d : Nat, 4 * (a * (a + d)) ≤ (a + (a + d)) * (a + (a + d)) := by
    intro a d
    have e1 : (a + (a + d)) * (a + (a + d)) = 4 * (a * (a + d)) + d * d := by
      simp only [Nat.mul_add, Nat.add_mul]
      have : a * d = d * a := Nat.mul_comm _ _
      omega
    omega
  rcases Nat.le_total a b with h | h
  · obtain ⟨d, rfl⟩ := Nat.exists_eq_add_of_le h
    exact key a d
  · obtain ⟨d, rfl⟩ := Nat.exists_eq_add_of_le h
    have := key b d
    rw [Nat.mul_comm (b + d) b, Nat.add_comm (b + d) b]
    exact this
theorem newton_keep {x S : Nat} (hS : 0 < S) : x < ((S + x / S) / 2 + 1) * ((S + x / S) / 2 + 1) := by
  have h1 : x < S * (x / S + 1) := Nat.lt_mul_div_succ x hS
  generalize x / S = q at *
  obtain ⟨t, ht⟩ : ∃ t, (S + q) / 2 + 1 = t := ⟨_, rfl⟩
  rw [ht]
  have h2 : S + (q + 1) ≤ 2 * t := by omega
  have h3 := amgm S (q + 1)
  have h4 : (S + (q + 1)) * (S + (q + 1)) ≤ (2 * t) * (2 * t) := Nat.mul_le_mul h2 h2
  have h5 : (2 * t) * (2 * t) = 4 * (t * t) := by
    rw [Nat.mul_mul_mul_comm]
  omega
theorem newton_stop {x S : Nat} (h : S ≤ (S + x / S) / 2) : S * S ≤ x := by
  have h1 : S ≤ x / S := by omega
  have h2 : S * S ≤ S * (x / S) := Nat.mul_le_mul_left _ h1
  have h3 := Nat.mul_div_le x S
  omega
theorem newton_start (x : Nat) : x < (2 ^ ((bl x + 1) / 2) + 1) * (2 ^ ((bl x + 1) / 2) + 1) := by
  have h1 := lt_bl x
  have h2 : 2 ^ bl x ≤ 2 ^ ((bl x + 1) / 2 + (bl x + 1) / 2) := Nat.pow_le_pow_right (by omega) (by omega)
  rw [Nat.pow_add] at h2
  have h3 : 2 ^ ((bl x + 1) / 2) * 2 ^ ((bl x + 1) / 2) ≤ (2 ^ ((bl x + 1) / 2) + 1) * (2 ^ ((bl x + 1) / 2) + 1) := Nat.mul_le_mul (by omega) (by omega)
  omega
theorem root_unique {x s t : Nat} (h1 : s * s ≤ x) (h2 : x < (s + 1) * (s + 1)) (h3 : t * t ≤ x) (h4 : x < (t + 1) * (t + 1)) : s = t := by
  have key : ∀ {a b : Nat}, a * a ≤ x → x < (b + 1) * (b + 1) → a ≤ b := by
    intro a b ha hb
    apply Classical.byContradiction
    intro h
    have : (b + 1) * (b + 1) ≤ a * a := Nat.mul_le_mul (by omega) (by omega)
    omega
  have := key h1 h4
  have := key h3 h2
  omega
theorem bl_len {x n : Nat} (h : (words x).length ≤ n) : bl x ≤ 32 * n := bl_le.2 (by rw [← pw_two]; exact words_length_iff.1 h)
theorem len_two {S k : Nat} (h : S ≤ 2 ^ k) : (words S).length ≤ k / 32 + 1 := by
  apply words_length_le
  rw [pw_two]
  exact Nat.lt_of_le_of_lt h (Nat.pow_lt_pow_right (by omega) (by omega))

set_option maxHeartbeats 1000000 in
set_option maxRecDepth 1000000 in
theorem root_any {w : World} {ao : Option Addr} {x : Nat} (ca : Nat) (ha : Rd w ao (words x)) (hx : (words x).length ≤ 512) (hnil : ao = none → ca = 0) :
    Calls Try.prog 60 #[.slice ao (words x).length ca] w fun e w' => ∃ s, s * s ≤ x ∧ x < (s + 1) * (s + 1) ∧ (words s).length ≤ 300 ∧ Row1 w (words s) e w' := by
  by_cases h0 : (words x).length = 0
  · have hx0 : x = 0 := words_eq_nil.1 (List.length_eq_zero_iff.1 h0)
    subst hx0
    rw [h0]
    clear ha hnil hx h0
    go_enter Try.func60, Try.ntmps60
    go_wp2
    go_ret
    refine ⟨0, by omega, by omega, by rw [words_zero]; simp, none, 0, ?_, ?_, Below.refl _ _⟩
    · rw [words_zero]; rfl
    · rw [words_zero]; exact Own.nil _ _
  · have r1 := Rd.lit1 w 1 (by omega)
    have b1 : Below w.heap.size w (w.alloc (.cells #[.int .u32 ((1 : Nat) : Int)] 33)) := (Below.refl _ _).alloc (Nat.le_refl _) _
    have c1 := wbits_any ca (ha.below b1) (by omega)
    have hb5 := bl_len hx
    obtain ⟨kk, hkk⟩ : ∃ k, (bl x + 1) / 2 = k := ⟨_, rfl⟩
    have HST : Hid _ := newton_start x
    rw [hkk] at HST
    have e1 : [1] = words 1 := by rw [words_pos (by omega)]; simp [words_zero]
    have c2 := shiftUp_any (x := 1) 1 kk (by rw [← e1]; exact r1) (by rw [← e1]; simp) (by omega)
    rw [← e1, Nat.one_mul] at c2
    obtain ⟨n, HN⟩ : ∃ n, Hid ((words x).length = n) := ⟨_, rfl⟩
    rw [HN.out] at c1 h0 hx ⊢
    have hkI : ((bl x : Int) + 1) / 2 = (kk : Int) := by omega
    have hx0 : x ≠ 0 := by
      intro e
      have := HN.out
      rw [e, words_zero] at this
      exact h0 this.symm
    obtain ⟨bx, hbx⟩ : ∃ b, bl x = b := ⟨_, rfl⟩
    rw [hbx] at c1 hkI hb5 hkk
    have HA : Hid _ := ha
    have HNil : Hid _ := hnil
    have HC1 : Hid _ := c1
    have HC2 : Hid _ := c2
    have HB1 : Hid _ := b1
    have hn0 : ((n : Int) == 0) = false := by simp; omega
    have hk8 : kk ≤ 8192 := by omega
    clear r1 b1 c1 c2 e1 hbx ha hnil hkk
    go_enter Try.func60, Try.ntmps60
    go_wp2_with fail
    refine Calls.mono HC1.out ?_
    rintro e w' ⟨rfl, hw'⟩
    have hw' := hw'.symm
    subst hw'
    go_wp2_with fail
    refine Calls.mono HC2.out ?_
    rintro e w2 ⟨so, sc, rfl, os, b2⟩
    have HO2 : Hid _ := os.lower HB1.out.size
    have HB2 : Hid _ := chain2 HB1.out b2
    clear os b2 HC1 HC2
    go_wp2
    go_loopg [3] (2 ^ kk) (fun S v3 wr => ∃ so sc, v3 = .slice so (words S).length sc ∧ Own w.heap.size wr so sc (words S) ∧ Below w.heap.size w wr ∧ x < (S + 1) * (S + 1) ∧ 0 < S ∧ S ≤ 2 ^ kk)
    case atStart => exact ⟨so, sc, rfl, HO2.out, HB2.out, HST.out, Nat.pow_pos (by omega), Nat.le_refl _⟩
    case round =>
      obtain ⟨so, sc, rfl, hos, hbw, hxs, hS0, hSk⟩ := hrel
      have hlS := len_two hSk
      have c1 := divide_any ca sc (HA.out.below hbw) hos.rd (by rw [HN.out]; omega) (by omega) HNil.out (by omega)
      have HNK : Hid _ := newton_keep (x := x) hS0
      have hq : x / gk ≤ x := Nat.div_le_self _ _
      have hlq : (words (x / gk)).length ≤ 512 := by
        have := words_mono hq
        rw [HN.out] at this
        omega
      have HSTOP : Hid (gk ≤ (gk + x / gk) / 2 → gk * gk ≤ x) := newton_stop
      obtain ⟨ls, HLS⟩ : ∃ l, Hid ((words gk).length = l) := ⟨_, rfl⟩
      rw [HN.out, HLS.out] at c1
      rw [HLS.out] at hlS ⊢
      have HC1 : Hid _ := c1
      have HOS : Hid _ := hos
      have HBW : Hid _ := hbw
      have HXS : Hid _ := hxs
      have HSK : Hid _ := hSk
      clear c1 hos hbw hxs hSk
      go_wp2_with fail
      refine Calls.mono HC1.out ?_
      rintro e w3 ⟨qo, qc, ro, rc, rfl, oq, or, b3⟩
      have hos3 := HOS.out.below b3
      have c2 := sum_any sc qc hos3.rd oq.rd (by rw [HLS.out]; omega) (by omega)
      rw [HLS.out] at c2
      have HC2 : Hid _ := c2
      have HOS3 : Hid _ := hos3
      have HBW3 : Hid _ := chain2 HBW.out b3
      clear oq or b3 c2 hos3 HC1
      go_wp2_with fail
      refine Calls.mono HC2.out ?_
      rintro e w4 ⟨uo, uc, rfl, ou, b4⟩
      have hlu : (words (gk + x / gk)).length ≤ 600 := by
        have := words_add_length (x := gk) (y := x / gk) (k := 512) (by rw [HLS.out]; omega) hlq
        omega
      have c3 := shiftDown_any uc 1 ou.rd (by omega) (by omega)
      have HC3 : Hid _ := c3
      have HOS4 : Hid _ := HOS3.out.below b4
      have HBW4 : Hid _ := chain2 HBW3.out b4
      clear ou b4 c3 HC2
      go_wp2_with fail
      refine Calls.mono HC3.out ?_
      rintro e w5 ⟨no, nc, rfl, on, b5⟩
      have hos5 := HOS4.out.below b5
      have hln : (words ((gk + x / gk) / 2 ^ 1)).length ≤ 600 := Nat.le_trans (words_mono (Nat.div_le_self _ _)) hlu
      have c4 := order_any nc sc on.rd hos5.rd (by omega) (by rw [HLS.out]; omega)
      rw [HLS.out] at c4
      have HON : Hid _ := on.lower HBW4.out.size
      have HOS5 : Hid _ := hos5
      have HBW5 : Hid _ := chain2 HBW4.out b5
      rw [Nat.pow_one] at HON c4 hln
      rw [Nat.pow_one]
      obtain ⟨nx, hnx⟩ : ∃ z, (gk + x / gk) / 2 = z := ⟨_, rfl⟩
      rw [hnx] at HON c4 hln HNK HSTOP
      rw [hnx]
      have hnx0 : 0 < nx := by
        apply Classical.byContradiction
        intro h
        have h1 : nx = 0 := by omega
        have h2 := HNK.out
        rw [h1] at h2
        omega
      clear on b5 hos5 hnx HC3
      by_cases hcmp : nx < gk
      · rw [cmp_lt' hcmp] at c4
        have HC4 : Hid _ := c4
        clear c4
        go_wp2_with fail
        refine Calls.mono HC4.out ?_
        rintro e w6 ⟨rfl, b6⟩
        have HON6 : Hid _ := HON.out.below b6
        have HBW6 : Hid _ := chain2 HBW5.out b6
        clear b6 HC4
        go_wp2
        go_roundg nx
        case measure => exact hcmp
        case rel => exact ⟨no, nc, rfl, HON6.out, HBW6.out, HNK.out, hnx0, Nat.le_trans (Nat.le_of_lt hcmp) HSK.out⟩
      · have hge := cmp_ge' hcmp
        obtain ⟨kc, hkc⟩ : ∃ k, cmpN nx gk = k := ⟨_, rfl⟩
        rw [hkc] at c4 hge
        have HC4 : Hid _ := c4
        have HFin : Hid _ := HSTOP.out (by omega)
        have hge2 : (0 : Int) ≤ kc := by omega
        clear c4 hkc hge
        go_wp2_with fail
        refine Calls.mono HC4.out ?_
        rintro e w6 ⟨rfl, b6⟩
        have HOS6 : Hid _ := HOS5.out.below b6
        have HBW6 : Hid _ := chain2 HBW5.out b6
        clear b6 HC4
        go_wp2
        go_ret
        refine ⟨gk, HFin.out, HXS.out, by rw [HLS.out]; omega, so, sc, ?_, HOS6.out, HBW6.out⟩
        rw [HLS.out]
        rfl
end Go.Proofs.Ytedjpknkiaibjaa
