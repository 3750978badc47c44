/- Walks of the document's shifts down, and of its Shift. -/
import Derived.Test.YtdpakekdbkpdfaaGreatDoorShiftRef
import Derived.Test.YtdpakekdbkpdfaaGreatDoorNatQ
namespace Go.Proofs.YtdpakekdbkpdfaaGreatDoor
open Go.RowKit
set_option linter.unusedVariables false
set_option linter.unusedSimpArgs false

theorem rdown_step (acc : List Nat) (x W j r : Nat) (hl : acc.length = j) (hr : r < 32) (h : val acc = x / (pw W * 2 ^ r) % pw j) :
    val (acc ++ [((words x).getD (W + j + 1) 0 * 4294967296 + (words x).getD (W + j) 0) / 2 ^ r % 4294967296]) = x / (pw W * 2 ^ r) % pw (j + 1) := by
  have := down_step (acc ++ [0]) x W j r (by simp [hl]) hr (by rw [List.take_append_of_le_length (by omega), List.take_of_length_le (by omega)]; exact h)
  rw [← this]
  congr 1
  rw [List.take_of_length_le (by simp [hl])]
  rw [List.set_append_right _ _ (by omega)]
  simp [hl]

set_option maxHeartbeats 2000000 in
set_option maxRecDepth 1000000 in
theorem rdown_any {w : World} {ao : Option Addr} {x : Nat} (ca k : Nat) (ha : Rd w ao (words x)) (hx : (words x).length ≤ 100000) (hk : k ≤ 1000000) :
    Calls Tryz.prog 182 #[.slice ao (words x).length ca, .int .i64 (k : Int)] w (Row1 w (words (x / 2 ^ k))) := by
  obtain ⟨i0, hi0, hz0, hz1, hz2⟩ := info_parts infoU
  obtain ⟨n, HX⟩ : ∃ n, Hid ((words x).length = n) := ⟨_, rfl⟩
  rw [HX.out] at hx ⊢
  obtain ⟨W, hW⟩ : ∃ W, k / 32 = W := ⟨_, rfl⟩
  obtain ⟨r, hr⟩ : ∃ r, k % 32 = r := ⟨_, rfl⟩
  have hr32 : r < 32 := by omega
  have hWk : W ≤ 100000 := by omega
  have e1 : (k : Int) / 32 = (W : Int) := by omega
  have e2 : (k : Int) % 32 = (r : Int) := by omega
  have HKK : Hid (2 ^ k = pw W * 2 ^ r) := by
    show 2 ^ k = pw W * 2 ^ r
    rw [pw_two, ← Nat.pow_add]
    congr 1
    omega
  clear hW hr
  go_enter Tryz.func182, Tryz.ntmps182
  go_wp2
  go_loopw [5, 6] (fun v5 v6 wr => ∃ (j : Nat) (acc : List Nat) (ro : Option Addr) (rc : Nat), (W + j ≤ n ∨ j = 0) ∧ v6 = .int .i64 ((W + j : Nat) : Int) ∧ v5 = .slice ro j rc ∧ acc.length = j ∧ Own w.heap.size wr ro rc acc ∧ Below w.heap.size w wr ∧ val acc = x / (pw W * 2 ^ r) % pw j) (fun _ v6 _ => n - (intOf v6).toNat)
  case atStart =>
    refine ⟨0, [], some ⟨w.heap.size, 0, none⟩, 0, .inr rfl, rfl, rfl, rfl, ⟨dig_nil, World.ownsRow_made w #[] 0 (Nat.le_refl _) (by decide) rfl⟩, (Below.refl _ w).alloc (Nat.le_refl _) _, by simp [val, pw_zero, Nat.mod_one]⟩
  case round =>
    obtain ⟨j, acc, ro, rc, hj, rfl, rfl, hacc, hown, hbw, hv⟩ := hrel
    have HV : Hid _ := hv
    have HL : Hid _ := hacc
    have hwsz := hbw.size
    clear hv hacc
    by_cases hin : W + j < n
    · have c1 := rword_any ca (W + j) (ha.below hbw)
      have c2 := rword_any ca (W + j + 1) (ha.below hbw)
      rw [HX.out] at c1 c2
      simp only [Int.natCast_add, Int.cast_ofNat_Int] at c1 c2
      have d1 := (words_dig x).getD (W + j)
      have d2 := (words_dig x).getD (W + j + 1)
      have HS : Hid _ := rdown_step acc x W j r HL.out hr32 HV.out
      obtain ⟨q, hq⟩ : ∃ q, (words x).getD (W + j) 0 = q := ⟨_, rfl⟩
      obtain ⟨p, hp⟩ : ∃ p, (words x).getD (W + j + 1) 0 = p := ⟨_, rfl⟩
      rw [hq] at c1 d1 HS
      rw [hp] at c2 d2 HS
      clear hq hp ha
      have hrow := hown.row
      rw [HL.out] at hrow
      have HD : Hid _ := hown.dig
      have HB : Hid _ := hbw
      have hor := or_u64 q (p * 4294967296) (by omega) (by omega)
      rw [Nat.or_comm, or_two p q d1] at hor
      simp only [Int.natCast_mul, Int.cast_ofNat_Int] at hor
      obtain ⟨t, ht⟩ : ∃ t, p * 4294967296 + q = t := ⟨_, rfl⟩
      rw [ht] at HS
      have horT : bits BinOp.or IntKind.u64 (q : Int) ((p : Int) * 4294967296) = (t : Int) := by rw [hor, ← ht]
      have htb : t ≤ 18446744073709551615 := by omega
      have hdig : ((t : Int) / 2 ^ r % 4294967296) = ((t / 2 ^ r % 4294967296 : Nat) : Int) := by rw [Int.natCast_emod, Int.natCast_ediv, Int.natCast_pow]; rfl
      have HDG : Hid _ := hdig
      clear hown hbw hor ht hdig
      simp only [Int.natCast_add]
      go_wp2_with fail
      refine c1.mono ?_
      rintro e w' ⟨rfl, hw'⟩
      have hw' := hw'.symm
      subst hw'
      go_wp2_with fail
      refine c2.mono ?_
      rintro e w' ⟨rfl, hw'⟩
      have hw' := hw'.symm
      subst hw'
      clear c1 c2
      go_wp2_with (at_builtin; refine wpList_append_own _ rfl _ _ 46 rfl w.heap.size 117 i0 (.int .u32 0) 1 4 Tryz.underlying46 hi0 hz0 hz1 hz2 rfl (by decide) _ _ _ rfl (hrow.alloc _) ⟨wr.heap.size, 0, none⟩ 1 1 [.int .u32 ((t : Int) / 2 ^ r % 4294967296)] rfl rfl (by exact cell_one wr _ 117) (by intro u hu; simp at hu; subst hu; rfl) (by unfold maxLen; omega) (by omega) (by simp; omega) ?_)
      intro v' w1 hown' hgrow hiff
      have hb2 := grown_below (HB.out.alloc (by omega) _) (hrow.alloc _) hgrow (by simp; omega)
      rw [← HL.out, HDG.out] at hown'
      obtain ⟨ro', rc', e, ho⟩ := own_append HD.out (Nat.mod_lt _ (by omega)) hown'
      subst e
      have HO : Hid _ := ho
      have HB2 : Hid _ := hb2
      clear hown' hgrow hiff ho hb2 hrow
      go_wp2
      go_roundw
      case rel =>
        refine ⟨j + 1, acc ++ [t / 2 ^ r % 4294967296], ro', rc', .inl (by omega), by go_num, by rw [List.length_append, HL.out]; rfl, by rw [List.length_append, HL.out]; rfl, HO.out, HB2.out, HS.out⟩
      case measure => simp only [intOf]; omega
    · have hval : val acc = x / 2 ^ k := by
        rw [HV.out, HKK.out]
        apply Nat.mod_eq_of_lt
        have h1 : x < pw n := by have := words_lt x; rw [HX.out] at this; exact this
        have h2 : x / (pw W * 2 ^ r) ≤ x / pw W := by
          rw [← Nat.div_div_eq_div_mul]
          exact Nat.div_le_self _ _
        have h3 : x / pw W < pw j := by
          rw [Nat.div_lt_iff_lt_mul (pw_pos W), ← pw_add]
          exact Nat.lt_of_lt_of_le h1 (pw_le (by omega))
        omega
      have c3 := norm_any rc hown.rd (by rw [HL.out]; omega) hown.caps (fun e => by subst e; exact hown.none_cap)
      rw [hval, HL.out] at c3
      have HC : Hid _ := c3
      have HB : Hid _ := hbw
      clear hval c3 hown hbw ha
      go_wp2_with fail
      refine Calls.mono HC.out ?_
      rintro e w2 ⟨so, sc, rfl, ho, hb3⟩
      have HO : Hid _ := ho.lower HB.out.size
      have HB3 : Hid _ := HB.out.trans (hb3.mono HB.out.size)
      clear ho hb3
      go_wp2
      go_ret
      exact ⟨_, _, rfl, HO.out, HB3.out⟩

end Go.Proofs.YtdpakekdbkpdfaaGreatDoor
