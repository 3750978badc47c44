/- Walks of digits: how many fit into a word, and what a byte is worth. -/
import Derived.Test.YtokgmpjblnpjmaaGreatDoorDigMath
import Derived.Test.YtokgmpjblnpjmaaGreatDoorByteMem
import Derived.Test.YtokgmpjblnpjmaaGreatDoorNatC
namespace Go.Proofs.YtokgmpjblnpjmaaGreatDoor
open Go.RowKit
set_option linter.unusedVariables false
set_option linter.unusedSimpArgs false

theorem pow_word {r s : Nat} (hr : 2 ≤ r) (h : r ^ s < 4294967296) : s < 32 := by
  apply Classical.byContradiction
  intro hn
  have h1 : 2 ^ 32 ≤ 2 ^ s := Nat.pow_le_pow_right (by omega) (by omega)
  have h2 : 2 ^ s ≤ r ^ s := Nat.pow_le_pow_left hr s
  omega

/-- The byte at a place of a text, as a number. -/
def byteAt (s : ByteArray) (i : Nat) : Nat := (s.data.toList.map UInt8.toNat).getD i 0
theorem byteAt_lt (s : ByteArray) (i : Nat) : byteAt s i < 256 := by
  unfold byteAt
  simp only [List.getD_eq_getElem?_getD, List.getElem?_map]
  cases s.data.toList[i]? with
  | none => simp
  | some x => simpa using x.toNat_lt
/-- A text that is not empty, and all its bytes are digits. -/
def numeralS (r : Nat) (s : ByteArray) : Bool := decide (s.size ≠ 0) && (List.range s.size).all (fun i => decide (dvn 36 (byteAt s i) < r))
theorem numeralS_iff (r : Nat) (s : ByteArray) : numeralS r s = true ↔ s.size ≠ 0 ∧ ∀ i, i < s.size → dvn 36 (byteAt s i) < r := by
  unfold numeralS
  simp only [Bool.and_eq_true, decide_eq_true_eq, List.all_eq_true, List.mem_range]
theorem byteAt_eq (s : ByteArray) (i : Nat) (h : i < s.size) : byteAt s i = s[i].toNat := by
  unfold byteAt
  have h2 : i < s.data.toList.length := by rw [Array.length_toList]; exact h
  simp only [List.getD_eq_getElem?_getD, List.getElem?_map, List.getElem?_eq_getElem h2, Option.map_some, Option.getD_some]
  rfl

end Go.Proofs.YtokgmpjblnpjmaaGreatDoor
