/- Walk of the document's reading of digits. -/
import Derived.Test.YtjmhdebfpnjceaaGreatTxtB
import Derived.Test.YtjmhdebfpnjceaaGreatNatN
import Derived.Test.YtjmhdebfpnjceaaGreatNatI
import Derived.Test.YtjmhdebfpnjceaaGreatArgs
import Derived.Deep.RegionWith
import Derived.BigRegion
namespace Go.Proofs.YtjmhdebfpnjceaaGreat
open Go.RowKit
set_option linter.unusedVariables false
set_option linter.unusedSimpArgs false

theorem words_oneD {d : Nat} (h : d < 4294967296) (h0 : d ≠ 0) : words d = [d] := by
  rw [words_pos h0, Nat.mod_eq_of_lt h, Nat.div_eq_of_lt h, words_zero]

set_option maxHeartbeats 4000000 in
set_option maxRecDepth 1000000 in
theorem rread_any (s : ByteArray) (radix : Int) (w : World) (hs : s.size ≤ 9223372036854775807) (r0 : -9223372036854775808 ≤ radix) (r1 : radix ≤ 9223372036854775807) :
    Calls Tryz.prog 73 #[.string s, .int .i64 radix] w (Ans w (readS s radix)) := by
  unfold readS
  by_cases hr : 2 ≤ radix ∧ radix ≤ 36
  · have e1 : decide (2 ≤ radix ∧ radix ≤ 36) = true := decide_eq_true hr
    rw [e1]
    simp only [if_true]
    obtain ⟨r, rfl⟩ := Int.eq_ofNat_of_zero_le (show 0 ≤ radix by omega)
    rw [Int.toNat_natCast]
    have hr2 : 2 ≤ r := by omega
    have hr3 : r ≤ 36 := by omega
    have HZ : Hid _ := numeralS_iff r s
    obtain ⟨z, hz⟩ : ∃ z, numeralS r s = z := ⟨_, rfl⟩
    rw [hz] at HZ ⊢
    obtain ⟨R, HR⟩ : ∃ R, Hid ((if z = true then (if s.size ≤ 16384 then fitS (tval r s s.size) else ([], 4)) else ([], 5)) = R) := ⟨_, rfl⟩
    rw [HR.out]
    clear hr e1 hz r0 r1
    by_cases h0 : s = ByteArray.empty
    · have hzf : z = false := by
        cases z with
        | false => rfl
        | true =>
          have h1 := (HZ.out.1 rfl).1
          rw [h0] at h1
          exact absurd rfl h1
      have hR : R = ([], 5) := by rw [← HR.out, hzf]; rfl
      subst hR hzf h0
      go_enter Tryz.func73, Tryz.ntmps73
      go_wp2
      go_ret2
      exact Ans.intro (Own.nil _ _) (Below.refl _ _)
    · have hE : s.toList.isEmpty = false := by
        rw [← decide_eq_emptyBytes]
        simpa using h0
      have hsz : s.size ≠ 0 := by
        intro h1
        apply h0
        have h2 : s.data.size = 0 := h1
        have h3 : s.data = #[] := Array.eq_empty_of_size_eq_zero h2
        cases s
        simp only at h3
        subst h3
        rfl
      have HSZ : Hid _ := hsz
      clear hsz
      go_enter Tryz.func73, Tryz.ntmps73
      go_wp2
      clear h0
      go_loopw [6] (fun v wr => wr = w ∧ ∃ i : Nat, v = .int .i64 (i : Int) ∧ i ≤ s.size ∧ ∀ j, j < i → dvn 36 (byteAt s j) < r) (fun v _ => s.size - (intOf v).toNat)
      case atStart => exact ⟨rfl, 0, rfl, by omega, fun j hj => by omega⟩
      case round =>
        obtain ⟨hw, i, rfl, hi, hall⟩ := hrel
        have hw := hw.symm
        subst hw
        have HALL : Hid _ := hall
        clear hall
        by_cases hin : i < s.size
        · have hbe := byteAt_eq s i hin
          have hlt := byteAt_lt s i
          rw [hbe] at hlt
          have c1 := value_any s[i].toNat w hlt
          have HBE : Hid _ := hbe
          have HDV : Hid _ := dvn_lt (r := r) (b := s[i].toNat) hr3
          obtain ⟨V, hV⟩ : ∃ V, dvn 99 s[i].toNat = V := ⟨_, rfl⟩
          rw [hV] at c1 HDV
          have HV : Hid _ := hV
          have HC1 : Hid _ := c1
          clear c1 hV hbe hlt
          by_cases hge : r ≤ V
          · have hzf : z = false := by
              cases z with
              | false => rfl
              | true =>
                have h1 := (HZ.out.1 rfl).2 i hin
                rw [HBE.out] at h1
                have h2 := HDV.out.1.1 h1
                omega
            have hR : R = ([], 5) := by rw [← HR.out, hzf]; rfl
            subst hR hzf
            go_wp2_with fail
            refine Calls.mono HC1.out ?_
            rintro e w' ⟨rfl, hw'⟩
            have hw' := hw'.symm
            subst hw'
            go_wp2
            go_ret2
            exact Ans.intro (Own.nil _ _) (Below.refl _ _)
          · go_wp2_with fail
            refine Calls.mono HC1.out ?_
            rintro e w' ⟨rfl, hw'⟩
            have hw' := hw'.symm
            subst hw'
            go_wp2
            go_roundw
            case rel =>
              refine ⟨trivial, i + 1, by go_num, by omega, fun j hj => ?_⟩
              by_cases e : j = i
              · rw [e, HBE.out]
                exact HDV.out.1.2 (by omega)
              · exact HALL.out j (by omega)
            case measure => simp only [intOf]; omega
        · have e : i = s.size := by omega
          have hzt : z = true := HZ.out.2 ⟨HSZ.out, fun j hj => HALL.out j (by omega)⟩
          have HN : Hid (∀ j, j < s.size → dvn 36 (byteAt s j) < r) := fun j hj => HALL.out j (by omega)
          have hR : R = (if s.size ≤ 16384 then fitS (tval r s s.size) else ([], 4)) := by rw [← HR.out, hzt]; rfl
          have HR2 : Hid _ := hR
          clear e HALL hR HR hzt HZ
          by_cases hl : s.size ≤ 16384
          · have hR : R = fitS (tval r s s.size) := by rw [HR2.out, if_pos hl]
            have HRF : Hid _ := hR
            clear hR HR2
            go_wp2
            go_loopw [7, 8] (fun v7 v8 wr => ∃ (i : Nat) (ao : Option Addr) (cap : Nat), v8 = .int .i64 (i : Int) ∧ i ≤ s.size ∧ v7 = .slice ao (words (tval r s i)).length cap ∧ Own w.heap.size wr ao cap (words (tval r s i)) ∧ Below w.heap.size w wr ∧ (words (tval r s i)).length ≤ 512) (fun _ v8 _ => s.size - (intOf v8).toNat)
            case atStart =>
              refine ⟨0, some ⟨w.heap.size, 0, none⟩, 0, rfl, by omega, by show _ = Value.slice _ (words 0).length _; rw [words_zero]; rfl, ?_, (Below.refl _ w).alloc (Nat.le_refl _) _, by show (words 0).length ≤ 512; rw [words_zero]; simp⟩
              show Own _ _ _ _ (words 0)
              rw [words_zero]
              exact ⟨dig_nil, World.ownsRow_made w #[] 0 (Nat.le_refl _) (by decide) rfl⟩
            case round =>
              obtain ⟨i, ao, cap, rfl, hi, rfl, hown, hbw, hl5⟩ := hrel
              have HO : Hid _ := hown
              have HB : Hid _ := hbw
              have HL5 : Hid _ := hl5
              clear hown hbw
              by_cases hin : i < s.size
              · have hbe := byteAt_eq s i hin
                have hlt := byteAt_lt s i
                have hdr := HN.out i hin
                have hdv := (dvn_lt (r := r) (b := byteAt s i) hr3).2 hdr
                have HT : Hid (tval r s (i + 1) = tval r s i * r + dvn 99 s[i].toNat) := by
                  show tval r s i * r + dvn 36 (byteAt s i) = _
                  rw [hdv, hbe]
                rw [hbe] at hlt hdr hdv
                rw [hdv] at hdr
                have c1 := value_any s[i].toNat
                obtain ⟨D, hD⟩ : ∃ V, dvn 99 s[i].toNat = V := ⟨_, rfl⟩
                rw [hD] at c1 HT hdr
                have HC1 : Hid _ := fun w => c1 w hlt
                obtain ⟨Y, hY⟩ : ∃ Y, tval r s i = Y := ⟨_, rfl⟩
                rw [hY] at HO HL5 HT hl5 ⊢
                obtain ⟨lY, HNY⟩ : ∃ n, Hid ((words Y).length = n) := ⟨_, rfl⟩
                rw [HNY.out] at hl5 ⊢
                have hrw : words r = [r] := words_oneD (by omega) (by omega)
                have r4 := (Rd.lit1 wr r (by omega)).drew
                have hwrap := wrap_u32 r (by omega)
                have hwrapD := wrap_u64 D (by omega)
                have b4 : Below wr.heap.size wr (wr.alloc (.cells #[.int .u32 (r : Int)] 40)).drew := ((Below.refl _ wr).alloc (Nat.le_refl _) _).drew
                rw [← hrw] at r4
                have c2 := rtimes_any cap 1 (HO.out.rd.below b4) r4 (by rw [HNY.out]; omega) (by rw [hrw]; simp)
                rw [HNY.out, hrw] at c2
                have HC2 : Hid _ := c2
                have HB4 : Hid _ := b4
                have hlen : (words (Y * r)).length ≤ 513 := words_mul_length (k := 512) (m := 1) HL5.out (by rw [hrw]; simp)
                have HLEN : Hid _ := hlen
                have HLEN2 : Hid ((words (Y * r)).length ≤ 100000) := Nat.le_trans hlen (by omega)
                have hlD : (words D).length ≤ 1 := words_length_le (k := 1) (by rw [show pw 1 = 4294967296 from rfl]; omega)
                have HLD : Hid ((words D).length ≤ 100000) := Nat.le_trans hlD (by omega)
                have HLD5 : Hid ((words D).length ≤ 513) := Nat.le_trans hlD (by omega)
                have HD32 : Hid (D < 18446744073709551616) := by show D < 18446744073709551616; omega
                clear c1 hbe hlt hD hdv hY r4 b4 c2 hrw hlen hlD hs hE
                go_wp2
                go_region_with (first
                  | (go_at_call 100; refine Calls.mono HC2.out ?_; rintro e w5 ⟨po, pc, rfl, o5, b5⟩; have HO5 : Hid _ := o5; have HB5 : Hid _ := b5; clear o5 b5)
                  | (go_at_call 72; refine Calls.mono (HC1.out _) ?_; rintro e w' ⟨rfl, rfl⟩)
                  | (go_at_call 101; refine Calls.mono (rof_any D _ HD32.out) ?_; rintro e w6 ⟨qo, qc, rfl, o6, b6⟩; have HO6 : Hid _ := o6; have HO56 : Hid _ := HO5.out.below b6; have HB6 : Hid _ := b6; clear o6 b6)
                  | (go_at_call 99; refine Calls.mono (plus_any pc qc HO56.out.rd HO6.out.rd HLEN2.out HLD.out) ?_; rintro e w7 ⟨xo, xc, rfl, o7, b7⟩; have HO7 : Hid _ := o7; have HB7 : Hid _ := b7; clear o7 b7))
                all_goals
                  have HO8 : Hid _ := HO7.out
                  have HB8 : Hid _ := chain2 (chain2 (chain2 (chain2 HB.out HB4.out) HB5.out) HB6.out) HB7.out
                  have HOL : Hid _ := HO7.out.lower (Nat.le_trans (Nat.le_trans HB.out.size HB4.out.size) (Nat.le_trans HB5.out.size HB6.out.size))
                  have hlen2 : (words (Y * r + D)).length ≤ 514 := words_add_length HLEN.out HLD5.out
                  clear HO5 HO6 HO56 HO7 HO8 HB5 HB6 HB7 HB4 HC1 HC2
                  by_cases h512 : (words (Y * r + D)).length ≤ 512
                  · have HL2 : Hid _ := h512
                    obtain ⟨l2, hl2⟩ : ∃ l, (words (Y * r + D)).length = l := ⟨_, rfl⟩
                    rw [hl2] at h512 hlen2 ⊢
                    have HLL : Hid _ := hl2
                    clear hl2
                    go_wp2
                    go_roundw
                    case rel =>
                      refine ⟨i + 1, xo, xc, by go_num, by omega, by rw [HT.out, HLL.out], by rw [HT.out]; exact HOL.out, HB8.out, by rw [HT.out]; exact HL2.out⟩
                    case measure => simp only [intOf]; omega
                  · have hbig : R = ([], 4) := by
                      rw [HRF.out]
                      refine fitS_big (Nat.lt_of_lt_of_le (Nat.lt_of_not_le ?_) (words_mono (tval_mono (i := i + 1) (by omega) s (by omega))))
                      rw [HT.out]
                      exact h512
                    obtain ⟨l2, hl2⟩ : ∃ l, (words (Y * r + D)).length = l := ⟨_, rfl⟩
                    rw [hl2] at h512 hlen2 ⊢
                    clear hl2
                    subst hbig
                    go_wp2
                    go_ret2
                    exact Ans.intro (Own.nil _ _) HB8.out
              · have e : i = s.size := by omega
                have hfit : fitS (tval r s s.size) = (words (tval r s i), 0) := by
                  rw [← e]
                  unfold fitS
                  rw [if_pos HL5.out]
                have HFIT : Hid _ := hfit
                clear hfit e
                go_wp2
                go_ret2
                rw [HRF.out, HFIT.out]
                exact ⟨_, _, rfl, HO.out, HB.out⟩
          · have hR : R = ([], 4) := by rw [HR2.out, if_neg hl]
            subst hR
            go_wp2
            go_ret2
            exact Ans.intro (Own.nil _ _) (Below.refl _ _)
  · have e1 : decide (2 ≤ radix ∧ radix ≤ 36) = false := decide_eq_false hr
    rw [e1]
    have hc : radix < 2 ∨ 36 < radix := by omega
    clear hr e1
    rcases hc with h | h
    · go_enter Tryz.func73, Tryz.ntmps73
      go_wp2
      go_ret2
      exact Ans.intro (Own.nil _ _) (Below.refl _ _)
    · have h2 : ¬ radix < 2 := by omega
      go_enter Tryz.func73, Tryz.ntmps73
      go_wp2
      go_ret2
      exact Ans.intro (Own.nil _ _) (Below.refl _ _)
end Go.Proofs.YtjmhdebfpnjceaaGreat
