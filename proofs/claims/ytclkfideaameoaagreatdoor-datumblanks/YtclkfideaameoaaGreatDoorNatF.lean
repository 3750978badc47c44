/- NatF -/
import Derived.Test.YtclkfideaameoaaGreatDoorNatE
import Derived.Laws.AppendOwnNone
namespace Go.Proofs.YtclkfideaameoaaGreatDoor
open Go.RowKit
set_option linter.unusedVariables false
set_option linter.unusedSimpArgs false

theorem mul_bound {p q : Nat} (hp : p < 4294967296) (hq : q < 4294967296) : p * q ≤ 18446744065119617025 := by
  have : p * q ≤ 4294967295 * 4294967295 := Nat.mul_le_mul (by omega) (by omega)
  omega
theorem mul_boundI {p q : Nat} (hp : p < 4294967296) (hq : q < 4294967296) : (p : Int) * (q : Int) ≤ 18446744065119617025 ∧ 0 ≤ (p : Int) * (q : Int) := by
  have h := mul_bound hp hq
  have e : (p : Int) * (q : Int) = ((p * q : Nat) : Int) := by rw [Int.natCast_mul]
  rw [e]
  omega
theorem val_set (l : List Nat) (i d : Nat) (hi : i < l.length) : val (l.set i d) + pw i * l.getD i 0 = val l + pw i * d := by
  have e1 := val_split (l.set i d) (i + 1)
  have e2 := val_split l (i + 1)
  rw [val_set_take l i d hi, List.length_set, List.drop_set_of_lt (by omega)] at e1
  rw [val_take_succ] at e2
  omega
theorem getD_set_ne (l : List Nat) (i p d : Nat) (h : i ≠ p) : (l.set i d).getD p 0 = l.getD p 0 := by
  simp only [List.getD_eq_getElem?_getD]
  rw [List.getElem?_set, if_neg h]
theorem own_of_row {B : Nat} {w : World} {v : Value} {n : Nat} {l : List Nat} (hd : Dig l) (hn : n = l.length) (h : w.ownsRow B 99 1 v n (U l)) : ∃ ao cap, v = .slice ao l.length cap ∧ Own B w ao cap l := by
  subst hn
  have hv : ∃ ao cap, v = .slice ao l.length cap := by
    rcases h.2 with ⟨h2, h3⟩ | ⟨g, cap, cur, h2, _⟩
    · exact ⟨none, 0, by rw [h2, h3]⟩
    · exact ⟨_, _, h2⟩
  obtain ⟨ao, cap, rfl⟩ := hv
  exact ⟨ao, cap, rfl, hd, h⟩
theorem grown_below {B : Nat} {w w1 w2 : World} {v : Value} {n : Nat} {xs : List Value} {e : TypeId} {size : Nat} (hb : Below B w w1) (h : w1.ownsRow B e size v n xs) (hg : w1.grownBy w2 v.ownBlock) (hB : B ≤ w1.heap.size) : Below B w w2 :=
  hb.grown hg hB (fun k hk => (h.lt k hk).1)

end Go.Proofs.YtclkfideaameoaaGreatDoor
