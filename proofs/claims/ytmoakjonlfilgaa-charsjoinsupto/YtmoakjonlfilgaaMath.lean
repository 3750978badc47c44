/- Plain functions on characters: what the program's functions and the document's answers give, and that they agree. -/
import Derived.Lib.RuneBytes
import Derived.RowKit
namespace Go.Proofs.Ytmoakjonlfilgaa
open Go.RowKit

def evenB (r : Int) : Bool := decide ((r ≠ 304 ∧ r ≠ 305 ∧ 256 ≤ r ∧ r ≤ 311) ∨ (330 ≤ r ∧ r ≤ 375))
def oddB (r : Int) : Bool := decide ((313 ≤ r ∧ r ≤ 328) ∨ (377 ≤ r ∧ r ≤ 382))
/-- how far below a small letter its capital stands -/
def capB (r : Int) : Int :=
  if 97 ≤ r ∧ r ≤ 122 then 32
  else if 224 ≤ r ∧ r ≤ 254 ∧ r ≠ 247 then 32
  else if evenB r = true ∧ r % 2 = 1 then 1
  else if oddB r = true ∧ r % 2 = 0 then 1
  else if 945 ≤ r ∧ r ≤ 969 ∧ r ≠ 962 then 32
  else if 1072 ≤ r ∧ r ≤ 1103 then 32
  else if 1104 ≤ r ∧ r ≤ 1119 then 80
  else 0

def smallA (r : Int) : Int :=
  if capB (wrap32 (r + 1)) = 1 then 1 else if capB (wrap32 (r + 32)) = 32 then 32 else if capB (wrap32 (r + 80)) = 80 then 80 else 0
def aloneB (r : Int) : Bool := decide (r = 170 ∨ r = 181 ∨ r = 186 ∨ r = 223 ∨ r = 255 ∨ r = 304 ∨ r = 305 ∨ r = 312 ∨ r = 329 ∨ r = 376 ∨ r = 383 ∨ r = 962)
def upZ (r : Int) : Int := if r = 962 then 931 else if r = 383 then 83 else if r = 255 then 376 else r - capB r
def downZ (r : Int) : Int := if r = 376 then 255 else r + smallA r
def letterB (r : Int) : Bool := decide (capB r ≠ 0 ∨ smallA r ≠ 0) || aloneB r
def digitZ (r : Int) : Int := if 48 ≤ r ∧ r ≤ 57 then r - 48 else if 1632 ≤ r ∧ r ≤ 1641 then r - 1632 else -1
def blankB (r : Int) : Bool := decide (r = 9 ∨ r = 10 ∨ r = 11 ∨ r = 12 ∨ r = 13 ∨ r = 32 ∨ r = 133 ∨ r = 160 ∨ r = 8232 ∨ r = 8233)

/-- The document's: the capital of a small letter, 0 if it is none. -/
def capR (r : Int) : Int := if capB r = 0 then 0 else r - capB r
/-- The document's: the small letter of a capital, 0 if it is none. -/
def smallR (r : Int) : Int := if smallA r = 0 then 0 else r + smallA r

theorem capB_out (r : Int) (h : r < 97 ∨ 1119 < r) : capB r = 0 := by
  unfold capB evenB oddB
  simp only [decide_eq_true_eq]
  rw [if_neg (by omega), if_neg (by omega), if_neg (by omega), if_neg (by omega), if_neg (by omega), if_neg (by omega), if_neg (by omega)]
theorem wrap32_in (x : Int) (h0 : -2147483648 ≤ x) (h1 : x ≤ 2147483647) : wrap32 x = x := by unfold wrap32; omega
theorem capB_wr (r k : Int) (h0 : -2147483648 ≤ r) (h1 : r ≤ 2147483647) (hk : 0 ≤ k) (hk' : k ≤ 80) : capB (wrap32 (r + k)) = capB (r + k) := by
  by_cases h : r + k ≤ 2147483647
  · rw [wrap32_in _ (by omega) h]
  · rw [capB_out (wrap32 (r + k)) (by unfold wrap32; omega), capB_out (r + k) (by omega)]
def smallP (r : Int) : Int := if capB (r + 1) = 1 then 1 else if capB (r + 32) = 32 then 32 else if capB (r + 80) = 80 then 80 else 0
theorem smallA_eq (r : Int) (h0 : -2147483648 ≤ r) (h1 : r ≤ 2147483647) : smallA r = smallP r := by
  unfold smallA smallP
  rw [capB_wr r 1 h0 h1 (by omega) (by omega), capB_wr r 32 h0 h1 (by omega) (by omega), capB_wr r 80 h0 h1 (by omega) (by omega)]
theorem smallP_out (r : Int) (h : r < 17 ∨ 1119 < r) : smallP r = 0 := by
  unfold smallP
  rw [capB_out (r + 1) (by omega), if_neg (by omega)]
  by_cases a : r + 32 < 97 ∨ 1119 < r + 32
  · rw [capB_out (r + 32) a, if_neg (by omega)]
    rw [capB_out (r + 80) (by omega), if_neg (by omega)]
  · omega

theorem evenB_t (r : Int) : (evenB r = true) = ((r ≠ 304 ∧ r ≠ 305 ∧ 256 ≤ r ∧ r ≤ 311) ∨ (330 ≤ r ∧ r ≤ 375)) := by simp [evenB]
theorem evenB_f (r : Int) : (evenB r = false) = ¬ ((r ≠ 304 ∧ r ≠ 305 ∧ 256 ≤ r ∧ r ≤ 311) ∨ (330 ≤ r ∧ r ≤ 375)) := by rw [← evenB_t]; simp
theorem oddB_t (r : Int) : (oddB r = true) = ((313 ≤ r ∧ r ≤ 328) ∨ (377 ≤ r ∧ r ≤ 382)) := by simp [oddB]
theorem oddB_f (r : Int) : (oddB r = false) = ¬ ((313 ≤ r ∧ r ≤ 328) ∨ (377 ≤ r ∧ r ≤ 382)) := by rw [← oddB_t]; simp

/-- Which distance at which character. -/
theorem capB_cases (r : Int) :
    (capB r = 32 ∧ ((97 ≤ r ∧ r ≤ 122) ∨ (224 ≤ r ∧ r ≤ 254 ∧ r ≠ 247) ∨ (945 ≤ r ∧ r ≤ 969 ∧ r ≠ 962) ∨ (1072 ≤ r ∧ r ≤ 1103)))
    ∨ (capB r = 1 ∧ ((((r ≠ 304 ∧ r ≠ 305 ∧ 256 ≤ r ∧ r ≤ 311) ∨ (330 ≤ r ∧ r ≤ 375)) ∧ r % 2 = 1) ∨ (((313 ≤ r ∧ r ≤ 328) ∨ (377 ≤ r ∧ r ≤ 382)) ∧ r % 2 = 0)))
    ∨ (capB r = 80 ∧ 1104 ≤ r ∧ r ≤ 1119)
    ∨ (capB r = 0 ∧ ¬ (97 ≤ r ∧ r ≤ 122) ∧ ¬ (224 ≤ r ∧ r ≤ 254 ∧ r ≠ 247) ∧ ¬ (945 ≤ r ∧ r ≤ 969 ∧ r ≠ 962) ∧ ¬ (1072 ≤ r ∧ r ≤ 1119)
        ∧ ¬ (((r ≠ 304 ∧ r ≠ 305 ∧ 256 ≤ r ∧ r ≤ 311) ∨ (330 ≤ r ∧ r ≤ 375)) ∧ r % 2 = 1) ∧ ¬ (((313 ≤ r ∧ r ≤ 328) ∨ (377 ≤ r ∧ r ≤ 382)) ∧ r % 2 = 0)) := by
  unfold capB
  simp only [evenB_t, oddB_t]
  split
  · omega
  · split
    · omega
    · split
      · omega
      · split
        · omega
        · split
          · omega
          · split
            · omega
            · split <;> omega

/-- Which distance at which capital. -/
def SmallAt (r s : Int) : Prop :=
    (s = 1 ∧ ((((r ≠ 304 ∧ 256 ≤ r ∧ r ≤ 310) ∨ (330 ≤ r ∧ r ≤ 374)) ∧ r % 2 = 0) ∨ (((313 ≤ r ∧ r ≤ 327) ∨ (377 ≤ r ∧ r ≤ 381)) ∧ r % 2 = 1)))
    ∨ (s = 32 ∧ ((65 ≤ r ∧ r ≤ 90) ∨ (192 ≤ r ∧ r ≤ 222 ∧ r ≠ 215) ∨ (913 ≤ r ∧ r ≤ 937 ∧ r ≠ 930) ∨ (1040 ≤ r ∧ r ≤ 1071)))
    ∨ (s = 80 ∧ 1024 ≤ r ∧ r ≤ 1039)
    ∨ (s = 0 ∧ ¬ (65 ≤ r ∧ r ≤ 90) ∧ ¬ (192 ≤ r ∧ r ≤ 222 ∧ r ≠ 215) ∧ ¬ (913 ≤ r ∧ r ≤ 937 ∧ r ≠ 930) ∧ ¬ (1024 ≤ r ∧ r ≤ 1071)
        ∧ ¬ (((r ≠ 304 ∧ 256 ≤ r ∧ r ≤ 310) ∨ (330 ≤ r ∧ r ≤ 374)) ∧ r % 2 = 0) ∧ ¬ (((313 ≤ r ∧ r ≤ 327) ∨ (377 ≤ r ∧ r ≤ 381)) ∧ r % 2 = 1))
def smallS (r : Int) : Int :=
  if (((r ≠ 304 ∧ 256 ≤ r ∧ r ≤ 310) ∨ (330 ≤ r ∧ r ≤ 374)) ∧ r % 2 = 0) ∨ (((313 ≤ r ∧ r ≤ 327) ∨ (377 ≤ r ∧ r ≤ 381)) ∧ r % 2 = 1) then 1
  else if (65 ≤ r ∧ r ≤ 90) ∨ (192 ≤ r ∧ r ≤ 222 ∧ r ≠ 215) ∨ (913 ≤ r ∧ r ≤ 937 ∧ r ≠ 930) ∨ (1040 ≤ r ∧ r ≤ 1071) then 32
  else if 1024 ≤ r ∧ r ≤ 1039 then 80 else 0
theorem smallS_dec : ∀ k : Nat, k < 1200 → smallP (k : Int) = smallS (k : Int) := by decide +kernel
theorem smallS_cases (r : Int) : SmallAt r (smallS r) := by
  unfold smallS SmallAt
  split
  · omega
  · split
    · omega
    · split <;> omega
theorem smallP_cases (r : Int) : SmallAt r (smallP r) := by
  by_cases h : 0 ≤ r ∧ r < 1200
  · have := smallS_dec r.toNat (by omega)
    rw [Int.toNat_of_nonneg h.1] at this
    rw [this]
    exact smallS_cases r
  · rw [smallP_out r (by omega)]
    unfold SmallAt
    omega
end Go.Proofs.Ytmoakjonlfilgaa
