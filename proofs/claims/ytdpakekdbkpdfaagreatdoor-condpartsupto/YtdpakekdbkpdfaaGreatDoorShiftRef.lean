/- Walks of the document's shifts. -/
import Derived.Test.YtdpakekdbkpdfaaGreatDoorNatP
import Derived.Test.YtdpakekdbkpdfaaGreatDoorNatI
namespace Go.Proofs.YtdpakekdbkpdfaaGreatDoor
open Go.RowKit
set_option linter.unusedVariables false
set_option linter.unusedSimpArgs false

theorem rup_step (acc a : List Nat) (W i r c : Nat) (hl : acc.length = W + i) (h : val acc + pw (W + i) * c = pw W * (val (a.take i) * 2 ^ r)) :
    val (acc ++ [(c + a.getD i 0 * 2 ^ r) % 4294967296]) + pw (W + (i + 1)) * ((c + a.getD i 0 * 2 ^ r) / 4294967296) = pw W * (val (a.take (i + 1)) * 2 ^ r) := by
  rw [val_snoc, hl, val_take_succ, Nat.add_mul, Nat.mul_add (pw W)]
  have e := carry_step (pw (W + i)) (c + a.getD i 0 * 2 ^ r)
  have e2 : pw (W + (i + 1)) = 4294967296 * pw (W + i) := by rw [← Nat.add_assoc, pw_succ]
  have e3 : pw W * (pw i * a.getD i 0 * 2 ^ r) = pw (W + i) * (a.getD i 0 * 2 ^ r) := by rw [pw_add]; simp only [Nat.mul_assoc]
  rw [e2, e3]
  rw [Nat.mul_add] at e
  omega
theorem up_carry {c d r : Nat} (hc : c < 2 ^ r) (hd : d < 4294967296) : (c + d * 2 ^ r) / 4294967296 < 2 ^ r := by
  rw [Nat.div_lt_iff_lt_mul (by omega)]
  have : (d + 1) * 2 ^ r ≤ 4294967296 * 2 ^ r := Nat.mul_le_mul_right _ (by omega)
  rw [Nat.add_mul, Nat.one_mul] at this
  rw [Nat.mul_comm (2 ^ r)]
  omega

set_option maxHeartbeats 2000000 in
set_option maxRecDepth 1000000 in
theorem rup_any {w : World} {ao : Option Addr} {x : Nat} (ca k : Nat) (ha : Rd w ao (words x)) (hx : (words x).length ≤ 100000) (hk : k ≤ 1000000) :
    Calls Tryz.prog 166 #[.slice ao (words x).length ca, .int .i64 (k : Int)] w (Row1 w (words (x * 2 ^ k))) := by
  obtain ⟨i0, hi0, hz0, hz1, hz2⟩ := info_parts infoU
  obtain ⟨n, HX⟩ : ∃ n, Hid ((words x).length = n) := ⟨_, rfl⟩
  rw [HX.out] at hx ⊢
  obtain ⟨W, hW⟩ : ∃ W, k / 32 = W := ⟨_, rfl⟩
  obtain ⟨r, hr⟩ : ∃ r, k % 32 = r := ⟨_, rfl⟩
  have hr32 : r < 32 := by omega
  have hWk : W ≤ 100000 := by omega
  have e1 : (k : Int) / 32 = (W : Int) := by omega
  have e2 : (k : Int) % 32 = (r : Int) := by omega
  have HKK : Hid (2 ^ k = pw W * 2 ^ r) := by
    show 2 ^ k = pw W * 2 ^ r
    rw [pw_two, ← Nat.pow_add]
    congr 1
    omega
  have hmk := run_make_row' (P := Tryz.prog) 46 117 (.int .u32 0) 4 Tryz.underlying46 infoU rfl .i64 .i64 W (by omega) (by omega)
  clear hW hr
  go_enter Tryz.func166, Tryz.ntmps166
  go_wp2
  go_loopw [5, 6, 7] (fun v5 v6 v7 wr => ∃ (i c : Nat) (acc : List Nat) (ro : Option Addr) (rc : Nat), i ≤ n + 1 ∧ v7 = .int .i64 (i : Int) ∧ v6 = .int .u64 (c : Int) ∧ c < 2 ^ r ∧ v5 = .slice ro (W + i) rc ∧ acc.length = W + i ∧ Own w.heap.size wr ro rc acc ∧ Below w.heap.size w wr ∧ val acc + pw (W + i) * c = pw W * (val ((words x).take i) * 2 ^ r)) (fun _ _ v7 _ => n + 1 - (intOf v7).toNat)
  case atStart =>
    refine ⟨0, 0, List.replicate W 0, some ⟨w.heap.size, 0, none⟩, W, Nat.zero_le _, rfl, rfl, Nat.pow_pos (by omega), rfl, by simp, Own.made w W (by omega), (Below.refl _ w).alloc (Nat.le_refl _) _, by simp [val, val_replicate]⟩
  case round =>
    obtain ⟨i, c, acc, ro, rc, hi, rfl, rfl, hc, rfl, hacc, hown, hbw, hv⟩ := hrel
    have HV : Hid _ := hv
    have HL : Hid _ := hacc
    have HCc : Hid _ := hc
    have hwsz := hbw.size
    have hc32 : c < 4294967296 := Nat.lt_of_lt_of_le hc (by have := Nat.pow_le_pow_right (show 0 < 2 by omega) (show r ≤ 32 by omega); omega)
    clear hv hacc hc
    by_cases hin : i ≤ n
    · have c1 := rword_any ca i (ha.below hbw)
      rw [HX.out] at c1
      have d1 := (words_dig x).getD i
      have HS : Hid _ := rup_step acc (words x) W i r c HL.out HV.out
      obtain ⟨d, hd⟩ : ∃ d, (words x).getD i 0 = d := ⟨_, rfl⟩
      rw [hd] at c1 d1 HS
      clear hd ha
      have hrow := hown.row
      rw [HL.out] at hrow
      have HD : Hid _ := hown.dig
      have HB : Hid _ := hbw
      have HU : Hid _ := up_carry HCc.out d1
      have s1 := shl_lt d r d1 hr32
      obtain ⟨p, hp⟩ : ∃ p, d * 2 ^ r = p := ⟨_, rfl⟩
      have hpI : (d : Int) * 2 ^ r = (p : Int) := by rw [← hp, Int.natCast_mul, Int.natCast_pow]; rfl
      have hor : bits BinOp.or IntKind.u64 (c : Int) (p : Int) = ((c + p : Nat) : Int) := by
        rw [or_u64 _ _ (by omega) (by omega), Nat.or_comm, ← hp, or_add _ _ _ HCc.out, Nat.add_comm]
      rw [hp] at HS HU s1
      obtain ⟨t, ht⟩ : ∃ t, c + p = t := ⟨_, rfl⟩
      rw [ht] at hor HS HU
      have htb : t ≤ 18446744073709551615 := by omega
      clear hown hbw hp ht
      go_wp2_with fail
      refine c1.mono ?_
      rintro e w' ⟨rfl, hw'⟩
      have hw' := hw'.symm
      subst hw'
      clear c1
      go_wp2_with (at_builtin; refine wpList_append_own _ rfl _ _ 46 rfl w.heap.size 117 i0 (.int .u32 0) 1 4 Tryz.underlying46 hi0 hz0 hz1 hz2 rfl (by decide) _ _ _ rfl (hrow.alloc _) ⟨wr.heap.size, 0, none⟩ 1 1 [.int .u32 ((t % 4294967296 : Nat) : Int)] rfl rfl (by exact cell_one wr _ 117) (by intro u hu; simp at hu; subst hu; rfl) (by unfold maxLen; omega) (by omega) (by simp; omega) ?_)
      intro v' w1 hown' hgrow hiff
      have hb2 := grown_below (HB.out.alloc (by omega) _) (hrow.alloc _) hgrow (by simp; omega)
      rw [← HL.out] at hown'
      obtain ⟨ro', rc', e, ho⟩ := own_append HD.out (Nat.mod_lt _ (by omega)) hown'
      subst e
      have HO : Hid _ := ho
      have HB2 : Hid _ := hb2
      clear hown' hgrow hiff ho hb2 hrow
      go_wp2
      go_roundw
      case rel =>
        refine ⟨i + 1, t / 4294967296, acc ++ [t % 4294967296], ro', rc', by omega, by go_num, rfl, HU.out, by rw [List.length_append, HL.out]; rfl, by rw [List.length_append, HL.out]; rfl, HO.out, HB2.out, HS.out⟩
      case measure => simp only [intOf]; omega
    · have e : i = n + 1 := by omega
      subst e
      have hval : val acc = x * 2 ^ k := by
        have h1 := HV.out
        rw [List.take_of_length_le (by rw [HX.out]; omega), val_words] at h1
        rw [HKK.out, Nat.mul_left_comm]
        refine no_carry h1 ?_
        have h2 : x < pw n := by have := words_lt x; rw [HX.out] at this; exact this
        have h3 : 2 ^ r < pw 1 := by
          rw [show pw 1 = 2 ^ 32 from rfl]
          exact Nat.pow_lt_pow_right (by omega) hr32
        have h4 : x * 2 ^ r < pw n * pw 1 := Nat.mul_lt_mul'' h2 h3
        rw [← pw_add] at h4
        rw [pw_add W]
        exact Nat.mul_lt_mul_of_pos_left h4 (pw_pos W)
      have c3 := norm_any rc hown.rd (by rw [HL.out]; omega) hown.caps (fun e => by subst e; exact hown.none_cap)
      rw [hval, HL.out] at c3
      have HC : Hid _ := c3
      have HB : Hid _ := hbw
      clear hval c3 hown hbw ha
      go_wp2_with fail
      refine Calls.mono HC.out ?_
      rintro e w2 ⟨so, sc, rfl, ho, hb3⟩
      have HO : Hid _ := ho.lower HB.out.size
      have HB3 : Hid _ := HB.out.trans (hb3.mono HB.out.size)
      clear ho hb3
      go_wp2
      go_ret
      exact ⟨_, _, rfl, HO.out, HB3.out⟩
end Go.Proofs.YtdpakekdbkpdfaaGreatDoor
