/- Walks of the document's functions on characters: Small, Up, Down, Letter, Digit, Blank. -/
import Derived.Test.YtmoakjonlfilgaaWalkC
import Derived.Test.YtmoakjonlfilgaaPairsMath
namespace Go.Proofs.Ytmoakjonlfilgaa
open Go.RowKit
set_option linter.unusedSimpArgs false
set_option linter.unusedVariables false

/-- Is the character so far above one whose capital r is? -/
def hitB (r b : Int) : Bool := (capR (wrap32 (r + b)) != 0) && (capR (wrap32 (r + b)) == r)
theorem hit_iff (r b : Int) (h0 : -2147483648 ≤ r) (h1 : r ≤ 2147483647) (hb : b = 1 ∨ b = 32 ∨ b = 80) : hitB r b = true ↔ capB (wrap32 (r + b)) = b := by
  unfold hitB
  simp only [Bool.and_eq_true, bne_iff_ne, beq_iff_eq, ne_eq]
  by_cases h : r + b ≤ 2147483647
  · rw [wrap32_in (r + b) (by omega) h]
    have hc := capR_cases (r + b)
    have ho : r + b < 97 → capB (r + b) = 0 := fun h => capB_out _ (Or.inl h)
    have ho2 : capB (r + b) = 80 → 1104 ≤ r + b := by
      have := capB_cases (r + b)
      omega
    constructor
    · intro hh; omega
    · intro hh; omega
  · have hx : capB (wrap32 (r + b)) = 0 := capB_out _ (by unfold wrap32; omega)
    have hc := capR_cases (wrap32 (r + b))
    constructor
    · intro hh; omega
    · intro hh; omega
theorem smallR_hits (r : Int) (h0 : -2147483648 ≤ r) (h1 : r ≤ 2147483647) :
    smallR r = if hitB r 1 = true then r + 1 else if hitB r 32 = true then r + 32 else if hitB r 80 = true then r + 80 else 0 := by
  unfold smallR smallA
  simp only [hit_iff r 1 h0 h1 (by simp), hit_iff r 32 h0 h1 (by simp), hit_iff r 80 h0 h1 (by simp)]
  split
  · simp
  · split
    · simp
    · split <;> simp
theorem hit_low (r b : Int) (h0 : -2147483648 ≤ r) (h1 : r ≤ 2147483647) (hb : b = 1 ∨ b = 32 ∨ b = 80) (h : hitB r b = true) : r + b ≤ 1119 := by
  rw [hit_iff r b h0 h1 hb] at h
  by_cases h2 : r + b ≤ 1119
  · exact h2
  · exfalso
    have : capB (wrap32 (r + b)) = 0 := capB_out _ (by unfold wrap32; omega)
    omega

theorem hit_parts (r b : Int) : (hitB r b = true ∧ (capR (wrap32 (r + b)) != 0) = true ∧ (capR (wrap32 (r + b)) == r) = true) ∨ (hitB r b = false ∧ (capR (wrap32 (r + b)) != 0) = false) ∨ (hitB r b = false ∧ (capR (wrap32 (r + b)) != 0) = true ∧ (capR (wrap32 (r + b)) == r) = false) := by
  unfold hitB
  cases (capR (wrap32 (r + b)) != 0) <;> cases (capR (wrap32 (r + b)) == r) <;> simp

set_option maxHeartbeats 2000000 in
theorem rsmall_any (r : Int) (h0 : -2147483648 ≤ r) (h1 : r ≤ 2147483647) (w : World) :
    Calls Try.prog 31 #[.int .i32 r] w fun e w' => e = .returned (.int .i32 (smallR r)) ∧ Below w.heap.size w w' := by
  have HS : Hid _ := smallR_hits r h0 h1
  have HL : Hid _ := hit_low r 1 h0 h1 (by simp)
  have HL2 : Hid _ := hit_low r 32 h0 h1 (by simp)
  have HL3 : Hid _ := hit_low r 80 h0 h1 (by simp)
  have h0 : Hid _ := h0
  have h1 : Hid _ := h1
  go_enter Try.func31, Try.ntmps31
  go_wp2
  go_loop [8] (fun i => ∃ k : Nat, k ≤ 3 ∧ i = .int .i64 k ∧ (1 ≤ k → hitB r 1 = false) ∧ (2 ≤ k → hitB r 32 = false) ∧ (3 ≤ k → hitB r 80 = false)) (fun i => 3 - (intOf i).toNat)
  case atStart => exact ⟨0, by omega, rfl, by simp, by simp, by simp⟩
  case round =>
    obtain ⟨k, hk, rfl, g1, g2, g3⟩ := hrel
    obtain rfl | rfl | rfl | rfl : k = 0 ∨ k = 1 ∨ k = 2 ∨ k = 3 := by omega
    · clear g1 g2 g3
      rcases hit_parts r 1 with ⟨H, a, b⟩ | ⟨H, a⟩ | ⟨H, a, b⟩
      all_goals (have HH : Hid _ := H; clear H)
      · go_wp2_with (go_at_call 29; refine (rcap_any _ _).mono ?_; rintro e w' ⟨rfl, rfl⟩)
        go_ret
        refine ⟨ret_int ?_, (Below.refl _ _).alloc (Nat.le_refl _) _⟩
        have hb := HL.out HH.out
        rw [HS.out, if_pos HH.out, wrap32_in _ (by have := h0.out; omega) (by omega)]
      · go_wp2_with (go_at_call 29; refine (rcap_any _ _).mono ?_; rintro e w' ⟨rfl, rfl⟩)
        go_round
        case rel => exact ⟨1, by omega, by go_num, by simp [HH.out], by simp, by simp⟩
        case measure => simp [intOf]
      · go_wp2_with (go_at_call 29; refine (rcap_any _ _).mono ?_; rintro e w' ⟨rfl, rfl⟩)
        go_round
        case rel => exact ⟨1, by omega, by go_num, by simp [HH.out], by simp, by simp⟩
        case measure => simp [intOf]
    · have G1 : Hid _ := g1 (by omega)
      clear g1 g2 g3
      rcases hit_parts r 32 with ⟨H, a, b⟩ | ⟨H, a⟩ | ⟨H, a, b⟩
      all_goals (have HH : Hid _ := H; clear H)
      · go_wp2_with (go_at_call 29; refine (rcap_any _ _).mono ?_; rintro e w' ⟨rfl, rfl⟩)
        go_ret
        refine ⟨ret_int ?_, (Below.refl _ _).alloc (Nat.le_refl _) _⟩
        have hb := HL2.out HH.out
        rw [HS.out, if_neg (by simp [G1.out]), if_pos HH.out, wrap32_in _ (by have := h0.out; omega) (by omega)]
      · go_wp2_with (go_at_call 29; refine (rcap_any _ _).mono ?_; rintro e w' ⟨rfl, rfl⟩)
        go_round
        case rel => exact ⟨2, by omega, by go_num, fun _ => G1.out, by simp [HH.out], by simp⟩
        case measure => simp [intOf]
      · go_wp2_with (go_at_call 29; refine (rcap_any _ _).mono ?_; rintro e w' ⟨rfl, rfl⟩)
        go_round
        case rel => exact ⟨2, by omega, by go_num, fun _ => G1.out, by simp [HH.out], by simp⟩
        case measure => simp [intOf]
    · have G1 : Hid _ := g1 (by omega)
      have G2 : Hid _ := g2 (by omega)
      clear g1 g2 g3
      rcases hit_parts r 80 with ⟨H, a, b⟩ | ⟨H, a⟩ | ⟨H, a, b⟩
      all_goals (have HH : Hid _ := H; clear H)
      · go_wp2_with (go_at_call 29; refine (rcap_any _ _).mono ?_; rintro e w' ⟨rfl, rfl⟩)
        go_ret
        refine ⟨ret_int ?_, (Below.refl _ _).alloc (Nat.le_refl _) _⟩
        have hb := HL3.out HH.out
        rw [HS.out, if_neg (by simp [G1.out]), if_neg (by simp [G2.out]), if_pos HH.out, wrap32_in _ (by have := h0.out; omega) (by omega)]
      · go_wp2_with (go_at_call 29; refine (rcap_any _ _).mono ?_; rintro e w' ⟨rfl, rfl⟩)
        go_round
        case rel => exact ⟨3, by omega, by go_num, fun _ => G1.out, fun _ => G2.out, by simp [HH.out]⟩
        case measure => simp [intOf]
      · go_wp2_with (go_at_call 29; refine (rcap_any _ _).mono ?_; rintro e w' ⟨rfl, rfl⟩)
        go_round
        case rel => exact ⟨3, by omega, by go_num, fun _ => G1.out, fun _ => G2.out, by simp [HH.out]⟩
        case measure => simp [intOf]
    · have G1 : Hid _ := g1 (by omega)
      have G2 : Hid _ := g2 (by omega)
      have G3 : Hid _ := g3 (by omega)
      clear g1 g2 g3
      go_wp2
      go_ret
      refine ⟨ret_int ?_, (Below.refl _ _).alloc (Nat.le_refl _) _⟩
      rw [HS.out, if_neg (by simp [G1.out]), if_neg (by simp [G2.out]), if_neg (by simp [G3.out])]

set_option maxHeartbeats 1000000 in
theorem rup_any (r : Int) (w : World) :
    Calls Try.prog 10 #[.int .i32 r] w fun e w' => e = .returned (.int .i32 (upZ r)) ∧ w' = w := by
  by_cases a : r = 962
  · subst a
    go_enter Try.func10, Try.ntmps10
    go_wp2
    go_ret
    exact ⟨ret_int (by decide), rfl⟩
  · by_cases b : r = 383
    · subst b
      go_enter Try.func10, Try.ntmps10
      go_wp2
      go_ret
      exact ⟨ret_int (by decide), rfl⟩
    · by_cases c : r = 255
      · subst c
        go_enter Try.func10, Try.ntmps10
        go_wp2
        go_ret
        exact ⟨ret_int (by decide), rfl⟩
      · have HU : Hid (upZ r = r - capB r) := by
          show upZ r = r - capB r
          unfold upZ
          rw [if_neg a, if_neg b, if_neg c]
        have a' : (r == 962) = false := by simp [a]
        have b' : (r == 383) = false := by simp [b]
        have c' : (r == 255) = false := by simp [c]
        clear a b c
        have HC : Hid _ := capR_cases r
        by_cases hz : capR r = 0
        · have q : (capR r != 0) = false := by simp [hz]
          have HZ : Hid (capR r = 0) := hz
          clear hz
          go_enter Try.func10, Try.ntmps10
          go_wp2_with (go_at_call 29; refine (rcap_any _ _).mono ?_; rintro e w' ⟨rfl, rfl⟩)
          go_ret
          refine ⟨ret_int ?_, rfl⟩
          have h1 := HU.out
          have h2 := HC.out
          have h3 := HZ.out
          have h4 := capB_cases r
          omega
        · have q : (capR r != 0) = true := by simp [hz]
          have HZ : Hid (¬ capR r = 0) := hz
          clear hz
          go_enter Try.func10, Try.ntmps10
          go_wp2_with (go_at_call 29; refine (rcap_any _ _).mono ?_; rintro e w' ⟨rfl, rfl⟩)
          go_ret
          refine ⟨ret_int ?_, rfl⟩
          have h1 := HU.out
          have h2 := HC.out
          have h3 := HZ.out
          omega

theorem smallR_cases (r : Int) : (smallA r = 0 ∧ smallR r = 0) ∨ (smallA r ≠ 0 ∧ smallR r = r + smallA r) := by
  unfold smallR
  split <;> omega
theorem smallR_zero (r : Int) (h0 : -2147483648 ≤ r) (h1 : r ≤ 2147483647) : smallR r = 0 ↔ smallA r = 0 := by
  have a := smallR_cases r
  have b := smallP_cases r
  rw [smallA_eq r h0 h1] at *
  unfold SmallAt at b
  omega

set_option maxHeartbeats 1000000 in
theorem rdown_any (r : Int) (h0 : -2147483648 ≤ r) (h1 : r ≤ 2147483647) (w : World) :
    Calls Try.prog 12 #[.int .i32 r] w fun e w' => e = .returned (.int .i32 (downZ r)) ∧ Below w.heap.size w w' := by
  by_cases a : r = 376
  · subst a
    go_enter Try.func12, Try.ntmps12
    go_wp2
    go_ret
    exact ⟨ret_int (by decide), Below.refl _ _⟩
  · have HU : Hid (downZ r = r + smallA r) := by
      show downZ r = r + smallA r
      unfold downZ
      rw [if_neg a]
    have a' : (r == 376) = false := by simp [a]
    clear a
    have HC : Hid _ := smallR_cases r
    have HY : Hid _ := smallR_zero r h0 h1
    by_cases hz : smallR r = 0
    · have q : (smallR r != 0) = false := by simp [hz]
      have HZ : Hid (smallR r = 0) := hz
      clear hz
      go_enter Try.func12, Try.ntmps12
      go_wp2_with (go_at_call 31; refine (rsmall_any _ (by omega) (by omega) _).mono ?_; rintro e w' ⟨rfl, hb⟩)
      go_ret
      refine ⟨ret_int ?_, hb⟩
      have e1 := HU.out
      have e2 := HY.out.1 HZ.out
      omega
    · have q : (smallR r != 0) = true := by simp [hz]
      have HZ : Hid (¬ smallR r = 0) := hz
      clear hz
      go_enter Try.func12, Try.ntmps12
      go_wp2_with (go_at_call 31; refine (rsmall_any _ (by omega) (by omega) _).mono ?_; rintro e w' ⟨rfl, hb⟩)
      go_ret
      refine ⟨ret_int ?_, hb⟩
      have e1 := HU.out
      have e2 := HC.out
      have e3 := HZ.out
      omega

set_option maxHeartbeats 1000000 in
theorem rblank_any (r : Int) (w : World) :
    Calls Try.prog 18 #[.int .i32 r] w fun e w' => e = .returned (.bool (blankB r)) ∧ w' = w := by
  go_enter Try.func18, Try.ntmps18
  go_wp2
  all_goals go_ret
  all_goals refine ⟨ret_bool ?_, rfl⟩
  all_goals (go_light; unfold blankB; rw [Bool.eq_iff_iff]; simp only [Bool.or_eq_true, Bool.and_eq_true, decide_eq_true_eq, beq_iff_eq, beq_eq_false_iff_ne, ne_eq, Bool.false_eq_true, true_iff, false_iff] at *; omega)

end Go.Proofs.Ytmoakjonlfilgaa
