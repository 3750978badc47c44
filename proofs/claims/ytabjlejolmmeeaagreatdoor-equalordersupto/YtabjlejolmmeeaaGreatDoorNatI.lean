/- Walks of the document's products, and of the document's answers. -/
import Derived.Test.YtabjlejolmmeeaaGreatDoorNatH
namespace Go.Proofs.YtabjlejolmmeeaaGreatDoor
open Go.RowKit
set_option linter.unusedVariables false
set_option linter.unusedSimpArgs false

theorem wrapU (x : Int) (h0 : 0 ≤ x) (h1 : x ≤ 18446744073709551615) : IntKind.u64.wrap x = x := by
  simp [IntKind.wrap, IntKind.bits, IntKind.signed]
  omega
theorem rtimes_step (L L0 b : List Nat) (i j c k : Nat) (hi : i + j < L.length) (h : val L + pw (i + j) * c = val L0 + pw i * (k * val (b.take j))) :
    val (L.set (i + j) ((L.getD (i + j) 0 + k * b.getD j 0 + c) % 4294967296)) + pw (i + (j + 1)) * ((L.getD (i + j) 0 + k * b.getD j 0 + c) / 4294967296) = val L0 + pw i * (k * val (b.take (j + 1))) := by
  have e1 := val_set L (i + j) ((L.getD (i + j) 0 + k * b.getD j 0 + c) % 4294967296) hi
  have e2 := carry_step (pw (i + j)) (L.getD (i + j) 0 + k * b.getD j 0 + c)
  have e3 : pw (i + (j + 1)) = 4294967296 * pw (i + j) := by rw [← Nat.add_assoc, pw_succ]
  rw [e3, val_take_succ, Nat.mul_add k, Nat.mul_add (pw i)]
  have e4 : pw i * (k * (pw j * b.getD j 0)) = pw (i + j) * (k * b.getD j 0) := by
    rw [pw_add, Nat.mul_left_comm k, Nat.mul_assoc]
  rw [e4]
  rw [Nat.mul_add, Nat.mul_add] at e2
  omega
theorem no_carry {a P c b : Nat} (h : a + P * c = b) (h2 : b < P) : a = b := by
  have h3 : c = 0 := by
    apply Classical.byContradiction
    intro hc
    have : P * 1 ≤ P * c := Nat.mul_le_mul_left _ (by omega)
    omega
  subst h3
  omega
theorem rtimes_end (L L0 a : List Nat) (i m c y : Nat) (ha : Dig a) (hy : y < pw m) (hv : val L0 = val (a.take i) * y) (h : val L + pw (i + (m + 1)) * c = val L0 + pw i * (a.getD i 0 * y)) (hi : i < a.length) : val L = val (a.take (i + 1)) * y := by
  have e : val (a.take (i + 1)) * y = val L0 + pw i * (a.getD i 0 * y) := by
    rw [val_take_succ, Nat.add_mul, hv, Nat.mul_assoc]
  rw [← e] at h
  have h1 := val_lt (ha.take (i + 1))
  rw [List.length_take, Nat.min_eq_left (by omega)] at h1
  have h2 : val (a.take (i + 1)) * y < pw (i + 1) * pw m := Nat.mul_lt_mul'' h1 hy
  rw [← pw_add, show i + 1 + m = i + (m + 1) by omega] at h2
  exact no_carry h h2

set_option maxHeartbeats 2000000 in
set_option maxRecDepth 1000000 in
theorem rtimes_any {w : World} {ao bo : Option Addr} {x y : Nat} (ca cb : Nat) (ha : Rd w ao (words x)) (hb : Rd w bo (words y)) (hx : (words x).length ≤ 100000) (hy : (words y).length ≤ 100000) :
    Calls Tryz.prog 58 #[.slice ao (words x).length ca, .slice bo (words y).length cb] w (Row1 w (words (x * y))) := by
  obtain ⟨n, HX⟩ : ∃ n, Hid ((words x).length = n) := ⟨_, rfl⟩
  obtain ⟨m, HY⟩ : ∃ m, Hid ((words y).length = m) := ⟨_, rfl⟩
  rw [HX.out] at hx ⊢
  rw [HY.out] at hy ⊢
  have hmk := run_make_row' (P := Tryz.prog) 22 68 (.int .u32 0) 4 Tryz.underlying22 infoU rfl .i64 .i64 (n + m + 1) (by omega) (by omega)
  simp only [Int.natCast_add, Int.cast_ofNat_Int] at hmk
  go_enter Tryz.func58, Tryz.ntmps58
  go_wp2
  go_loopw [6] (fun v wr => ∃ (i : Nat) (L : List Nat), i ≤ n ∧ v = .int .i64 (i : Int) ∧ L.length = n + m + 1 ∧ Own w.heap.size wr (some ⟨w.heap.size, 0, none⟩) (n + m + 1) L ∧ Below w.heap.size w wr ∧ val L = val ((words x).take i) * y) (fun v _ => n - (intOf v).toNat)
  case atStart => exact ⟨0, List.replicate (n + m + 1) 0, Nat.zero_le _, rfl, by simp, Own.made w (n + m + 1) (by omega), (Below.refl _ w).alloc (Nat.le_refl _) _, by simp [val_replicate, val]⟩
  case round =>
    obtain ⟨i, L, hi, rfl, hL, hown, hbw, hv⟩ := hrel
    have HV : Hid _ := hv
    have HL : Hid _ := hL
    clear hv hL
    by_cases hin : i < n
    · obtain ⟨k, hk⟩ : ∃ k, (words x).getD i 0 = k := ⟨_, rfl⟩
      have HK : Hid _ := hk
      have d0 := (words_dig x).getD i
      rw [hk] at d0
      clear hk
      go_wp2
      go_loopw [7, 8] (fun v7 v8 wr => ∃ (j c : Nat) (L' : List Nat), j ≤ m + 1 ∧ v8 = .int .i64 (j : Int) ∧ v7 = .int .u64 (c : Int) ∧ c < 4294967296 ∧ L'.length = n + m + 1 ∧ Own w.heap.size wr (some ⟨w.heap.size, 0, none⟩) (n + m + 1) L' ∧ Below w.heap.size w wr ∧ val L' + pw (i + j) * c = val L + pw i * (k * val ((words y).take j))) (fun _ v8 _ => m + 1 - (intOf v8).toNat)
      case atStart => exact ⟨0, 0, L, Nat.zero_le _, rfl, rfl, by omega, HL.out, hown, hbw, by simp [val]⟩
      case round =>
        clear hown hbw
        obtain ⟨j, c, L', hj, rfl, rfl, hc, hL', hown, hbw, hv⟩ := hrel
        have HV' : Hid _ := hv
        have HL' : Hid _ := hL'
        clear hv hL'
        by_cases hjm : j ≤ m
        · have ha' := ha.below hbw
          have hb' := hb.below hbw
          obtain ⟨b1, o1, rfl, _, hc1⟩ := ha'.pos (by intro e; have := HX.out; rw [e] at this; simp at this; omega)
          have k0 := hc1 i (by rw [HX.out]; omega)
          rw [HK.out] at k0
          have k1 := hown.cell (i + j) (by rw [HL'.out]; omega)
          have k2 := hown.frozen (i + j)
          have d1 := hown.dig.getD (i + j)
          have d2 := (words_dig y).getD j
          have HS : Hid _ := rtimes_step L' L (words y) i j c k (by rw [HL'.out]; omega) HV'.out
          have c1 := rword_any cb j hb'.drew
          rw [HY.out] at c1
          obtain ⟨t, ht⟩ : ∃ t, L'.getD (i + j) 0 = t := ⟨_, rfl⟩
          obtain ⟨q, hq⟩ : ∃ q, (words y).getD j 0 = q := ⟨_, rfl⟩
          rw [hq] at c1 d2 HS
          rw [ht] at k1 d1 HS
          clear ht hq hc1 ha' hb'
          have m1 := mul_boundI d0 d2
          have m2 := mul_bound d0 d2
          have w1 := wrapI ((i : Int) + j) (by omega) (by omega)
          have w2 := wrapU ((k : Int) * q) (by omega) (by omega)
          have w3 := wrapU ((t : Int) + (k : Int) * q) (by omega) (by omega)
          have w4 := wrapU ((t : Int) + (k : Int) * q + c) (by omega) (by omega)
          have q4 : ((i : Int) + j).toNat = i + j := by omega
          have q5 : (0 : Int) ≤ (i : Int) + j := by omega
          have q6 : (i : Int) + j < (n : Int) + m + 1 := by omega
          have hset := hown.set (i + j) ((t + k * q + c) % 4294967296) (Nat.mod_lt _ (by omega))
          have hbw' := hbw.setCell (p := ⟨w.heap.size, i + j, none⟩) (Nat.le_refl _) (.int .u32 (((t + k * q + c) % 4294967296 : Nat) : Int))
          have HSet : Hid _ := hset
          have HB : Hid _ := hbw'
          have HC : Hid _ := c1
          clear hset hbw' hown hbw ha hb c1
          go_wp2_with fail
          go_region_with (go_at_call 75; refine Calls.mono HC.out ?_; rintro e w' ⟨rfl, rfl⟩)
          all_goals go_wp2
          all_goals
            go_roundw
            case rel =>
              have hlt : (t + k * q + c) / 4294967296 < 4294967296 := Nat.div_lt_of_lt_mul (by omega)
              exact ⟨j + 1, (t + k * q + c) / 4294967296, L'.set (i + j) ((t + k * q + c) % 4294967296), by omega, by go_num, rfl, hlt, by rw [List.length_set]; exact HL'.out, HSet.out.drew, HB.out.drew, HS.out⟩
            case measure => simp [intOf]; omega
        · have e : j = m + 1 := by omega
          subst e
          have hval := HV'.out
          rw [List.take_of_length_le (by rw [HY.out]; omega), val_words, ← HK.out] at hval
          have hfin := rtimes_end L' L (words x) i m c y (words_dig x) (by have := words_lt y; rw [HY.out] at this; exact this) HV.out hval (by rw [HX.out]; omega)
          have HF : Hid _ := hfin
          have HO : Hid _ := hown
          have HB : Hid _ := hbw
          clear hval hfin hown hbw ha hb
          go_wp2
          go_roundw
          case rel => exact ⟨i + 1, L', by omega, by go_num, HL'.out, HO.out, HB.out, HF.out⟩
          case measure => simp [intOf]; omega
    · have e : i = n := by omega
      subst e
      have hval := HV.out
      rw [List.take_of_length_le (by rw [HX.out]; omega), val_words] at hval
      have c1 := norm_any (i + m + 1) hown.rd (by rw [HL.out]; omega) hown.caps (by simp)
      rw [hval, HL.out] at c1
      have HC : Hid _ := c1
      have HB : Hid _ := hbw
      clear hval c1 hown hbw ha hb
      go_wp2_with fail
      refine Calls.mono HC.out ?_
      rintro e w2 ⟨so, sc, rfl, ho, hb3⟩
      have HO : Hid _ := ho.lower HB.out.size
      have HB3 : Hid _ := HB.out.trans (hb3.mono HB.out.size)
      clear ho hb3
      go_wp2
      go_ret
      exact ⟨_, _, rfl, HO.out, HB3.out⟩

end Go.Proofs.YtabjlejolmmeeaaGreatDoor
