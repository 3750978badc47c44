/- Walks of the document's Digit and Letter. -/
import Derived.Test.YtmoakjonlfilgaaWalkE
namespace Go.Proofs.Ytmoakjonlfilgaa
open Go.RowKit
set_option linter.unusedSimpArgs false
set_option linter.unusedVariables false

set_option maxHeartbeats 1000000 in
theorem rdigit_any (r : Int) (h0 : -2147483648 ≤ r) (h1 : r ≤ 2147483647) (w : World) :
    Calls Try.prog 16 #[.int .i32 r] w fun e w' => e = .returned (.int .i64 (digitZ r)) ∧ w' = w := by
  go_enter Try.func16, Try.ntmps16
  go_wp2
  go_loop [3] (fun i => ∃ k : Nat, k ≤ 10 ∧ i = .int .i64 k ∧ (r < 48 ∨ 48 + (k : Int) ≤ r) ∧ (r < 1632 ∨ 1632 + (k : Int) ≤ r)) (fun i => 10 - (intOf i).toNat)
  case atStart => exact ⟨0, by omega, rfl, by omega, by omega⟩
  case round =>
    obtain ⟨k, hk, rfl, g1, g2⟩ := hrel
    have G1 : Hid _ := g1
    have G2 : Hid _ := g2
    clear g1 g2
    by_cases hlt : k < 10
    · by_cases e1 : r = 48 + (k : Int)
      · have E : Hid (r = 48 + (k : Int)) := e1
        have q : (r == 48 + (k : Int)) = true := by simp [e1]
        clear e1
        go_wp2
        all_goals go_ret
        all_goals refine ⟨ret_int ?_, rfl⟩
        all_goals (have := E.out; unfold digitZ; rw [if_pos (by omega)]; omega)
      · have q : (r == 48 + (k : Int)) = false := by simp [e1]
        have E : Hid (¬ r = 48 + (k : Int)) := e1
        clear e1
        by_cases e2 : r = 1632 + (k : Int)
        · have E2 : Hid (r = 1632 + (k : Int)) := e2
          have q2 : (r == 1632 + (k : Int)) = true := by simp [e2]
          clear e2
          go_wp2
          all_goals go_ret
          all_goals refine ⟨ret_int ?_, rfl⟩
          all_goals (have := E2.out; unfold digitZ; rw [if_neg (by omega), if_pos (by omega)]; omega)
        · have q2 : (r == 1632 + (k : Int)) = false := by simp [e2]
          have E2 : Hid (¬ r = 1632 + (k : Int)) := e2
          clear e2
          go_wp2
          go_round
          case rel => exact ⟨k + 1, by omega, by go_num, by have := G1.out; have := E.out; omega, by have := G2.out; have := E2.out; omega⟩
          case measure => simp [intOf]; omega
    · go_wp2
      go_ret
      refine ⟨ret_int ?_, rfl⟩
      have a := G1.out
      have b := G2.out
      unfold digitZ
      rw [if_neg (by omega), if_neg (by omega)]

theorem aloneB_t (r : Int) : aloneB r = true ↔ (r = 170 ∨ r = 181 ∨ r = 186 ∨ r = 223 ∨ r = 255 ∨ r = 304 ∨ r = 305 ∨ r = 312 ∨ r = 329 ∨ r = 376 ∨ r = 383 ∨ r = 962) := by unfold aloneB; simp
theorem aloneB_f (r : Int) (h : r ≠ 170 ∧ r ≠ 181 ∧ r ≠ 186 ∧ r ≠ 223 ∧ r ≠ 255 ∧ r ≠ 304 ∧ r ≠ 305 ∧ r ≠ 312 ∧ r ≠ 329 ∧ r ≠ 376 ∧ r ≠ 383 ∧ r ≠ 962) : aloneB r = false := by unfold aloneB; simp; omega

set_option maxHeartbeats 4000000 in
theorem rletter_any (r : Int) (h0 : -2147483648 ≤ r) (h1 : r ≤ 2147483647) (w : World) :
    Calls Try.prog 14 #[.int .i32 r] w fun e w' => e = .returned (.bool (letterB r)) ∧ Below w.heap.size w w' := by
  have HC : Hid _ := capR_cases r
  have HB : Hid _ := capB_cases r
  have HY : Hid _ := smallR_zero r h0 h1
  have H0 : Hid _ := h0
  have H1 : Hid _ := h1
  clear h0 h1
  go_enter Try.func14, Try.ntmps14
  go_wp2
  go_loop [7] (fun i => ∃ k : Nat, k ≤ 12 ∧ i = .int .i64 k ∧ Hid ((1 ≤ k → r ≠ 170) ∧ (2 ≤ k → r ≠ 181) ∧ (3 ≤ k → r ≠ 186) ∧ (4 ≤ k → r ≠ 223) ∧ (5 ≤ k → r ≠ 255) ∧ (6 ≤ k → r ≠ 304) ∧ (7 ≤ k → r ≠ 305) ∧ (8 ≤ k → r ≠ 312) ∧ (9 ≤ k → r ≠ 329) ∧ (10 ≤ k → r ≠ 376) ∧ (11 ≤ k → r ≠ 383) ∧ (12 ≤ k → r ≠ 962))) (fun i => 12 - (intOf i).toNat)
  case atStart => exact ⟨0, by omega, rfl, by show (1 ≤ 0 → r ≠ 170) ∧ (2 ≤ 0 → r ≠ 181) ∧ (3 ≤ 0 → r ≠ 186) ∧ (4 ≤ 0 → r ≠ 223) ∧ (5 ≤ 0 → r ≠ 255) ∧ (6 ≤ 0 → r ≠ 304) ∧ (7 ≤ 0 → r ≠ 305) ∧ (8 ≤ 0 → r ≠ 312) ∧ (9 ≤ 0 → r ≠ 329) ∧ (10 ≤ 0 → r ≠ 376) ∧ (11 ≤ 0 → r ≠ 383) ∧ (12 ≤ 0 → r ≠ 962); simp⟩
  case round =>
    obtain ⟨k, hk, rfl, G⟩ := hrel
    obtain rfl | rfl | rfl | rfl | rfl | rfl | rfl | rfl | rfl | rfl | rfl | rfl | rfl : k = 0 ∨ k = 1 ∨ k = 2 ∨ k = 3 ∨ k = 4 ∨ k = 5 ∨ k = 6 ∨ k = 7 ∨ k = 8 ∨ k = 9 ∨ k = 10 ∨ k = 11 ∨ k = 12 := by omega
    · by_cases e1 : r = 170
      · have E : Hid (r = 170) := e1
        have q : (r == 170) = true := by simp [e1]
        clear e1
        go_wp2
        all_goals go_ret
        all_goals refine ⟨ret_bool ?_, (Below.refl _ _).alloc (Nat.le_refl _) _⟩
        all_goals (have e2 : aloneB r = true := (aloneB_t r).2 (by have := E.out; omega); unfold letterB; rw [e2]; simp)
      · have E : Hid (¬ r = 170) := e1
        have q : (r == 170) = false := by simp [e1]
        clear e1
        go_wp2
        go_round
        case rel =>
          refine ⟨1, by omega, by go_num, ?_⟩
          have g := G.out
          have e := E.out
          show (1 ≤ 1 → r ≠ 170) ∧ (2 ≤ 1 → r ≠ 181) ∧ (3 ≤ 1 → r ≠ 186) ∧ (4 ≤ 1 → r ≠ 223) ∧ (5 ≤ 1 → r ≠ 255) ∧ (6 ≤ 1 → r ≠ 304) ∧ (7 ≤ 1 → r ≠ 305) ∧ (8 ≤ 1 → r ≠ 312) ∧ (9 ≤ 1 → r ≠ 329) ∧ (10 ≤ 1 → r ≠ 376) ∧ (11 ≤ 1 → r ≠ 383) ∧ (12 ≤ 1 → r ≠ 962)
          omega
        case measure => simp [intOf]
    · by_cases e1 : r = 181
      · have E : Hid (r = 181) := e1
        have q : (r == 181) = true := by simp [e1]
        clear e1
        go_wp2
        all_goals go_ret
        all_goals refine ⟨ret_bool ?_, (Below.refl _ _).alloc (Nat.le_refl _) _⟩
        all_goals (have e2 : aloneB r = true := (aloneB_t r).2 (by have := E.out; omega); unfold letterB; rw [e2]; simp)
      · have E : Hid (¬ r = 181) := e1
        have q : (r == 181) = false := by simp [e1]
        clear e1
        go_wp2
        go_round
        case rel =>
          refine ⟨2, by omega, by go_num, ?_⟩
          have g := G.out
          have e := E.out
          show (1 ≤ 2 → r ≠ 170) ∧ (2 ≤ 2 → r ≠ 181) ∧ (3 ≤ 2 → r ≠ 186) ∧ (4 ≤ 2 → r ≠ 223) ∧ (5 ≤ 2 → r ≠ 255) ∧ (6 ≤ 2 → r ≠ 304) ∧ (7 ≤ 2 → r ≠ 305) ∧ (8 ≤ 2 → r ≠ 312) ∧ (9 ≤ 2 → r ≠ 329) ∧ (10 ≤ 2 → r ≠ 376) ∧ (11 ≤ 2 → r ≠ 383) ∧ (12 ≤ 2 → r ≠ 962)
          omega
        case measure => simp [intOf]
    · by_cases e1 : r = 186
      · have E : Hid (r = 186) := e1
        have q : (r == 186) = true := by simp [e1]
        clear e1
        go_wp2
        all_goals go_ret
        all_goals refine ⟨ret_bool ?_, (Below.refl _ _).alloc (Nat.le_refl _) _⟩
        all_goals (have e2 : aloneB r = true := (aloneB_t r).2 (by have := E.out; omega); unfold letterB; rw [e2]; simp)
      · have E : Hid (¬ r = 186) := e1
        have q : (r == 186) = false := by simp [e1]
        clear e1
        go_wp2
        go_round
        case rel =>
          refine ⟨3, by omega, by go_num, ?_⟩
          have g := G.out
          have e := E.out
          show (1 ≤ 3 → r ≠ 170) ∧ (2 ≤ 3 → r ≠ 181) ∧ (3 ≤ 3 → r ≠ 186) ∧ (4 ≤ 3 → r ≠ 223) ∧ (5 ≤ 3 → r ≠ 255) ∧ (6 ≤ 3 → r ≠ 304) ∧ (7 ≤ 3 → r ≠ 305) ∧ (8 ≤ 3 → r ≠ 312) ∧ (9 ≤ 3 → r ≠ 329) ∧ (10 ≤ 3 → r ≠ 376) ∧ (11 ≤ 3 → r ≠ 383) ∧ (12 ≤ 3 → r ≠ 962)
          omega
        case measure => simp [intOf]
    · by_cases e1 : r = 223
      · have E : Hid (r = 223) := e1
        have q : (r == 223) = true := by simp [e1]
        clear e1
        go_wp2
        all_goals go_ret
        all_goals refine ⟨ret_bool ?_, (Below.refl _ _).alloc (Nat.le_refl _) _⟩
        all_goals (have e2 : aloneB r = true := (aloneB_t r).2 (by have := E.out; omega); unfold letterB; rw [e2]; simp)
      · have E : Hid (¬ r = 223) := e1
        have q : (r == 223) = false := by simp [e1]
        clear e1
        go_wp2
        go_round
        case rel =>
          refine ⟨4, by omega, by go_num, ?_⟩
          have g := G.out
          have e := E.out
          show (1 ≤ 4 → r ≠ 170) ∧ (2 ≤ 4 → r ≠ 181) ∧ (3 ≤ 4 → r ≠ 186) ∧ (4 ≤ 4 → r ≠ 223) ∧ (5 ≤ 4 → r ≠ 255) ∧ (6 ≤ 4 → r ≠ 304) ∧ (7 ≤ 4 → r ≠ 305) ∧ (8 ≤ 4 → r ≠ 312) ∧ (9 ≤ 4 → r ≠ 329) ∧ (10 ≤ 4 → r ≠ 376) ∧ (11 ≤ 4 → r ≠ 383) ∧ (12 ≤ 4 → r ≠ 962)
          omega
        case measure => simp [intOf]
    · by_cases e1 : r = 255
      · have E : Hid (r = 255) := e1
        have q : (r == 255) = true := by simp [e1]
        clear e1
        go_wp2
        all_goals go_ret
        all_goals refine ⟨ret_bool ?_, (Below.refl _ _).alloc (Nat.le_refl _) _⟩
        all_goals (have e2 : aloneB r = true := (aloneB_t r).2 (by have := E.out; omega); unfold letterB; rw [e2]; simp)
      · have E : Hid (¬ r = 255) := e1
        have q : (r == 255) = false := by simp [e1]
        clear e1
        go_wp2
        go_round
        case rel =>
          refine ⟨5, by omega, by go_num, ?_⟩
          have g := G.out
          have e := E.out
          show (1 ≤ 5 → r ≠ 170) ∧ (2 ≤ 5 → r ≠ 181) ∧ (3 ≤ 5 → r ≠ 186) ∧ (4 ≤ 5 → r ≠ 223) ∧ (5 ≤ 5 → r ≠ 255) ∧ (6 ≤ 5 → r ≠ 304) ∧ (7 ≤ 5 → r ≠ 305) ∧ (8 ≤ 5 → r ≠ 312) ∧ (9 ≤ 5 → r ≠ 329) ∧ (10 ≤ 5 → r ≠ 376) ∧ (11 ≤ 5 → r ≠ 383) ∧ (12 ≤ 5 → r ≠ 962)
          omega
        case measure => simp [intOf]
    · by_cases e1 : r = 304
      · have E : Hid (r = 304) := e1
        have q : (r == 304) = true := by simp [e1]
        clear e1
        go_wp2
        all_goals go_ret
        all_goals refine ⟨ret_bool ?_, (Below.refl _ _).alloc (Nat.le_refl _) _⟩
        all_goals (have e2 : aloneB r = true := (aloneB_t r).2 (by have := E.out; omega); unfold letterB; rw [e2]; simp)
      · have E : Hid (¬ r = 304) := e1
        have q : (r == 304) = false := by simp [e1]
        clear e1
        go_wp2
        go_round
        case rel =>
          refine ⟨6, by omega, by go_num, ?_⟩
          have g := G.out
          have e := E.out
          show (1 ≤ 6 → r ≠ 170) ∧ (2 ≤ 6 → r ≠ 181) ∧ (3 ≤ 6 → r ≠ 186) ∧ (4 ≤ 6 → r ≠ 223) ∧ (5 ≤ 6 → r ≠ 255) ∧ (6 ≤ 6 → r ≠ 304) ∧ (7 ≤ 6 → r ≠ 305) ∧ (8 ≤ 6 → r ≠ 312) ∧ (9 ≤ 6 → r ≠ 329) ∧ (10 ≤ 6 → r ≠ 376) ∧ (11 ≤ 6 → r ≠ 383) ∧ (12 ≤ 6 → r ≠ 962)
          omega
        case measure => simp [intOf]
    · by_cases e1 : r = 305
      · have E : Hid (r = 305) := e1
        have q : (r == 305) = true := by simp [e1]
        clear e1
        go_wp2
        all_goals go_ret
        all_goals refine ⟨ret_bool ?_, (Below.refl _ _).alloc (Nat.le_refl _) _⟩
        all_goals (have e2 : aloneB r = true := (aloneB_t r).2 (by have := E.out; omega); unfold letterB; rw [e2]; simp)
      · have E : Hid (¬ r = 305) := e1
        have q : (r == 305) = false := by simp [e1]
        clear e1
        go_wp2
        go_round
        case rel =>
          refine ⟨7, by omega, by go_num, ?_⟩
          have g := G.out
          have e := E.out
          show (1 ≤ 7 → r ≠ 170) ∧ (2 ≤ 7 → r ≠ 181) ∧ (3 ≤ 7 → r ≠ 186) ∧ (4 ≤ 7 → r ≠ 223) ∧ (5 ≤ 7 → r ≠ 255) ∧ (6 ≤ 7 → r ≠ 304) ∧ (7 ≤ 7 → r ≠ 305) ∧ (8 ≤ 7 → r ≠ 312) ∧ (9 ≤ 7 → r ≠ 329) ∧ (10 ≤ 7 → r ≠ 376) ∧ (11 ≤ 7 → r ≠ 383) ∧ (12 ≤ 7 → r ≠ 962)
          omega
        case measure => simp [intOf]
    · by_cases e1 : r = 312
      · have E : Hid (r = 312) := e1
        have q : (r == 312) = true := by simp [e1]
        clear e1
        go_wp2
        all_goals go_ret
        all_goals refine ⟨ret_bool ?_, (Below.refl _ _).alloc (Nat.le_refl _) _⟩
        all_goals (have e2 : aloneB r = true := (aloneB_t r).2 (by have := E.out; omega); unfold letterB; rw [e2]; simp)
      · have E : Hid (¬ r = 312) := e1
        have q : (r == 312) = false := by simp [e1]
        clear e1
        go_wp2
        go_round
        case rel =>
          refine ⟨8, by omega, by go_num, ?_⟩
          have g := G.out
          have e := E.out
          show (1 ≤ 8 → r ≠ 170) ∧ (2 ≤ 8 → r ≠ 181) ∧ (3 ≤ 8 → r ≠ 186) ∧ (4 ≤ 8 → r ≠ 223) ∧ (5 ≤ 8 → r ≠ 255) ∧ (6 ≤ 8 → r ≠ 304) ∧ (7 ≤ 8 → r ≠ 305) ∧ (8 ≤ 8 → r ≠ 312) ∧ (9 ≤ 8 → r ≠ 329) ∧ (10 ≤ 8 → r ≠ 376) ∧ (11 ≤ 8 → r ≠ 383) ∧ (12 ≤ 8 → r ≠ 962)
          omega
        case measure => simp [intOf]
    · by_cases e1 : r = 329
      · have E : Hid (r = 329) := e1
        have q : (r == 329) = true := by simp [e1]
        clear e1
        go_wp2
        all_goals go_ret
        all_goals refine ⟨ret_bool ?_, (Below.refl _ _).alloc (Nat.le_refl _) _⟩
        all_goals (have e2 : aloneB r = true := (aloneB_t r).2 (by have := E.out; omega); unfold letterB; rw [e2]; simp)
      · have E : Hid (¬ r = 329) := e1
        have q : (r == 329) = false := by simp [e1]
        clear e1
        go_wp2
        go_round
        case rel =>
          refine ⟨9, by omega, by go_num, ?_⟩
          have g := G.out
          have e := E.out
          show (1 ≤ 9 → r ≠ 170) ∧ (2 ≤ 9 → r ≠ 181) ∧ (3 ≤ 9 → r ≠ 186) ∧ (4 ≤ 9 → r ≠ 223) ∧ (5 ≤ 9 → r ≠ 255) ∧ (6 ≤ 9 → r ≠ 304) ∧ (7 ≤ 9 → r ≠ 305) ∧ (8 ≤ 9 → r ≠ 312) ∧ (9 ≤ 9 → r ≠ 329) ∧ (10 ≤ 9 → r ≠ 376) ∧ (11 ≤ 9 → r ≠ 383) ∧ (12 ≤ 9 → r ≠ 962)
          omega
        case measure => simp [intOf]
    · by_cases e1 : r = 376
      · have E : Hid (r = 376) := e1
        have q : (r == 376) = true := by simp [e1]
        clear e1
        go_wp2
        all_goals go_ret
        all_goals refine ⟨ret_bool ?_, (Below.refl _ _).alloc (Nat.le_refl _) _⟩
        all_goals (have e2 : aloneB r = true := (aloneB_t r).2 (by have := E.out; omega); unfold letterB; rw [e2]; simp)
      · have E : Hid (¬ r = 376) := e1
        have q : (r == 376) = false := by simp [e1]
        clear e1
        go_wp2
        go_round
        case rel =>
          refine ⟨10, by omega, by go_num, ?_⟩
          have g := G.out
          have e := E.out
          show (1 ≤ 10 → r ≠ 170) ∧ (2 ≤ 10 → r ≠ 181) ∧ (3 ≤ 10 → r ≠ 186) ∧ (4 ≤ 10 → r ≠ 223) ∧ (5 ≤ 10 → r ≠ 255) ∧ (6 ≤ 10 → r ≠ 304) ∧ (7 ≤ 10 → r ≠ 305) ∧ (8 ≤ 10 → r ≠ 312) ∧ (9 ≤ 10 → r ≠ 329) ∧ (10 ≤ 10 → r ≠ 376) ∧ (11 ≤ 10 → r ≠ 383) ∧ (12 ≤ 10 → r ≠ 962)
          omega
        case measure => simp [intOf]
    · by_cases e1 : r = 383
      · have E : Hid (r = 383) := e1
        have q : (r == 383) = true := by simp [e1]
        clear e1
        go_wp2
        all_goals go_ret
        all_goals refine ⟨ret_bool ?_, (Below.refl _ _).alloc (Nat.le_refl _) _⟩
        all_goals (have e2 : aloneB r = true := (aloneB_t r).2 (by have := E.out; omega); unfold letterB; rw [e2]; simp)
      · have E : Hid (¬ r = 383) := e1
        have q : (r == 383) = false := by simp [e1]
        clear e1
        go_wp2
        go_round
        case rel =>
          refine ⟨11, by omega, by go_num, ?_⟩
          have g := G.out
          have e := E.out
          show (1 ≤ 11 → r ≠ 170) ∧ (2 ≤ 11 → r ≠ 181) ∧ (3 ≤ 11 → r ≠ 186) ∧ (4 ≤ 11 → r ≠ 223) ∧ (5 ≤ 11 → r ≠ 255) ∧ (6 ≤ 11 → r ≠ 304) ∧ (7 ≤ 11 → r ≠ 305) ∧ (8 ≤ 11 → r ≠ 312) ∧ (9 ≤ 11 → r ≠ 329) ∧ (10 ≤ 11 → r ≠ 376) ∧ (11 ≤ 11 → r ≠ 383) ∧ (12 ≤ 11 → r ≠ 962)
          omega
        case measure => simp [intOf]
    · by_cases e1 : r = 962
      · have E : Hid (r = 962) := e1
        have q : (r == 962) = true := by simp [e1]
        clear e1
        go_wp2
        all_goals go_ret
        all_goals refine ⟨ret_bool ?_, (Below.refl _ _).alloc (Nat.le_refl _) _⟩
        all_goals (have e2 : aloneB r = true := (aloneB_t r).2 (by have := E.out; omega); unfold letterB; rw [e2]; simp)
      · have E : Hid (¬ r = 962) := e1
        have q : (r == 962) = false := by simp [e1]
        clear e1
        go_wp2
        go_round
        case rel =>
          refine ⟨12, by omega, by go_num, ?_⟩
          have g := G.out
          have e := E.out
          show (1 ≤ 12 → r ≠ 170) ∧ (2 ≤ 12 → r ≠ 181) ∧ (3 ≤ 12 → r ≠ 186) ∧ (4 ≤ 12 → r ≠ 223) ∧ (5 ≤ 12 → r ≠ 255) ∧ (6 ≤ 12 → r ≠ 304) ∧ (7 ≤ 12 → r ≠ 305) ∧ (8 ≤ 12 → r ≠ 312) ∧ (9 ≤ 12 → r ≠ 329) ∧ (10 ≤ 12 → r ≠ 376) ∧ (11 ≤ 12 → r ≠ 383) ∧ (12 ≤ 12 → r ≠ 962)
          omega
        case measure => simp [intOf]
    · have al : aloneB r = false := aloneB_f r (by have := G.out; omega)
      have HA : Hid _ := al
      clear al
      by_cases hz : capR r = 0
      · have q : (capR r != 0) = false := by simp [hz]
        have HZ : Hid (capR r = 0) := hz
        clear hz
        go_wp2_with (first | (go_at_call 29; refine (rcap_any _ _).mono ?_; rintro e w' ⟨rfl, rfl⟩) | (go_at_call 31; refine (rsmall_any _ H0.out H1.out _).mono ?_; rintro e w' ⟨rfl, hb⟩))
        go_ret
        refine ⟨ret_bool ?_, ?_⟩
        · have h2 := HC.out
          have h3 := HZ.out
          have h4 := HB.out
          have h5 := HY.out
          have hc : capB r = 0 := by omega
          unfold letterB
          rw [HA.out, hc]
          by_cases hs : smallA r = 0
          · rw [h5.2 hs, hs]; rfl
          · have : ¬ smallR r = 0 := fun h => hs (h5.1 h)
            simp [hs, this]
        · exact ((Below.refl _ _).alloc (Nat.le_refl _) _).trans (hb.mono (by simp))
      · have q : (capR r != 0) = true := by simp [hz]
        have HZ : Hid (¬ capR r = 0) := hz
        clear hz
        go_wp2_with (go_at_call 29; refine (rcap_any _ _).mono ?_; rintro e w' ⟨rfl, rfl⟩)
        go_ret
        refine ⟨ret_bool ?_, (Below.refl _ _).alloc (Nat.le_refl _) _⟩
        have h2 := HC.out
        have h3 := HZ.out
        have hc : ¬ capB r = 0 := by omega
        unfold letterB
        simp [hc]
end Go.Proofs.Ytmoakjonlfilgaa
