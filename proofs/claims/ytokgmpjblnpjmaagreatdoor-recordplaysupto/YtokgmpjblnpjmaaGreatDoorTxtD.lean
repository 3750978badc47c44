/- Walks of writing digits: bytes the other way round, and a number's digits. -/
import Derived.Test.YtokgmpjblnpjmaaGreatDoorTxtA
import Derived.Test.YtokgmpjblnpjmaaGreatDoorNatZ
import Derived.Deep.LoopGhost
import Derived.BigRegion
namespace Go.Proofs.YtokgmpjblnpjmaaGreatDoor
open Go.RowKit
set_option linter.unusedVariables false
set_option linter.unusedSimpArgs false

/-- Both qhc turned so far. -/
def turned (l : List Nat) (n i : Nat) (L : List Nat) : Prop := L.length = n ∧ ∀ p, p < n → L.getD p 0 = if p < i ∨ n - 1 - i < p then l.getD (n - 1 - p) 0 else l.getD p 0
theorem turned_start (l : List Nat) : turned l l.length 0 l := by
  refine ⟨rfl, fun p hp => ?_⟩
  rw [if_neg (by omega)]
theorem turned_step {l L : List Nat} {n i : Nat} (hn : l.length = n) (h : turned l n i L) (hi : i < n - 1 - i) :
    turned l n (i + 1) ((L.set i (l.getD (n - 1 - i) 0)).set (n - 1 - i) (l.getD i 0)) ∧ L.getD i 0 = l.getD i 0 ∧ L.getD (n - 1 - i) 0 = l.getD (n - 1 - i) 0 := by
  have h1 := h.2 i (by omega)
  have h2 := h.2 (n - 1 - i) (by omega)
  rw [if_neg (by omega)] at h1 h2
  refine ⟨⟨by rw [List.length_set, List.length_set]; exact h.1, fun p hp => ?_⟩, h1, h2⟩
  by_cases e1 : p = n - 1 - i
  · rw [e1, getD_set_eq _ _ _ (by rw [List.length_set, h.1]; omega), if_pos (by omega)]
    congr 1
    omega
  · rw [getD_set_ne _ _ _ _ (fun e => e1 e.symm)]
    by_cases e2 : p = i
    · rw [e2, getD_set_eq _ _ _ (by rw [h.1]; omega), if_pos (by omega)]
    · rw [getD_set_ne _ _ _ _ (fun e => e2 e.symm), h.2 p hp]
      by_cases c : p < i ∨ n - 1 - i < p
      · rw [if_pos c, if_pos (by omega)]
      · rw [if_neg c, if_neg (by omega)]
theorem turned_end {l L : List Nat} {n i : Nat} (hn : l.length = n) (h : turned l n i L) (hi : n - 1 - i ≤ i) : L = l.reverse := by
  apply list_of_getD
  · rw [h.1, List.length_reverse, hn]
  · intro p hp
    rw [h.1] at hp
    have e : l.reverse.getD p 0 = l.getD (n - 1 - p) 0 := by
      simp only [List.getD_eq_getElem?_getD]
      rw [List.getElem?_reverse (by omega), hn]
    rw [e, h.2 p hp]
    by_cases c : p < i ∨ n - 1 - i < p
    · rw [if_pos c]
    · rw [if_neg c]
      congr 1
      omega

theorem infoB : (Tryz.prog.info? 5).map (fun i => (i.zero, i.size, i.bytes)) = some (some (.int .u8 0), 1, 1) := by kernel_rfl
theorem ownB_of_row {B : Nat} {w : World} {v : Value} {n : Nat} {l : List Nat} (hd : Dig8 l) (hn : n = l.length) (h : w.ownsRow B 5 1 v n (V8 l)) : ∃ ao cap, v = .slice ao l.length cap ∧ OwnB B w ao cap l := by
  subst hn
  rcases h.2 with ⟨h2, h3⟩ | ⟨g, cap, cur, hv, b, c, d⟩
  · subst h2
    have e := List.length_eq_zero_iff.1 h3
    subst e
    exact ⟨none, 0, rfl, OwnB.nil _ _⟩
  · subst hv
    exact ⟨some ⟨g, 0, none⟩, cap, rfl, hd, h⟩
theorem ownB_append {B : Nat} {w1 : World} {v : Value} {acc : List Nat} {d : Nat} (hd : Dig8 acc) (hd2 : d < 256) (h : w1.ownsRow B 5 1 v (acc.length + 1) (V8 acc ++ [.int .u8 (d : Int)])) :
    ∃ ro rc, v = .slice ro (acc ++ [d]).length rc ∧ OwnB B w1 ro rc (acc ++ [d]) := by
  refine ownB_of_row (n := acc.length + 1) (dig8_append.2 ⟨hd, by simp [Dig8]; exact hd2⟩) (by simp) ?_
  rw [V8_append]
  exact h
theorem own_apart {B B' : Nat} {w : World} {ao bo : Option Addr} {ca cb n : Nat} {l l' : List Nat} (h : Own B w ao ca l) (k : OwnB B' w bo cb l') : ∀ a, ao = some a → some a.block ≠ (Value.slice bo n cb).ownBlock := by
  intro a ha
  rcases h.row.2 with ⟨h2, _⟩ | ⟨g, cap, cur, hv, _, c, _⟩
  · simp only [Value.slice.injEq] at h2
    rw [h2.1] at ha
    cases ha
  · simp only [Value.slice.injEq] at hv
    rw [hv.1] at ha
    cases ha
    rcases k.row.2 with ⟨h2, _⟩ | ⟨g', cap', cur', hv', _, c', _⟩
    · simp only [Value.slice.injEq] at h2
      rw [h2.1]
      simp [Value.ownBlock]
    · simp only [Value.slice.injEq] at hv'
      rw [hv'.1]
      intro e
      simp only [Value.ownBlock, Option.some.injEq] at e
      rw [← e, c] at c'
      simp at c'
theorem getD_cast (L : List Nat) (i : Nat) : (L.map (fun (x : Nat) => (x : Int))).getD i 0 = ((L.getD i 0 : Nat) : Int) := by
  simp only [List.getD_eq_getElem?_getD, List.getElem?_map]
  cases L[i]? <;> rfl
theorem bl_div {y k : Nat} (hk : 2 ≤ k) (h : y ≠ 0) : bl (y / k) + 1 ≤ bl y := by
  have h1 : y / k ≤ y / 2 := Nat.div_le_div_left hk (by omega)
  have h2 := bl_mono h1
  have h3 := bl_half h
  omega
theorem dig_group {r x S acc0 Y y0 l0 : Nat} {acc acc' : List Nat} (hx : x = valr r acc + r ^ acc.length * Y) (hY : Y = r ^ S * y0 + l0) (hlen : acc'.length = acc.length + S) (hv : valr r acc' = valr r acc + r ^ acc.length * l0) :
    x = valr r acc' + r ^ acc'.length * y0 := by
  rw [hx, hv, hlen, hY, Nat.mul_add, Nat.pow_add, Nat.mul_assoc]
  omega
theorem digit_at (k : Nat) (hk : k < 36) (h : k < ({ data := #[48, 49, 50, 51, 52, 53, 54, 55, 56, 57, 97, 98, 99, 100, 101, 102, 103, 104, 105, 106, 107, 108, 109, 110, 111, 112, 113, 114, 115, 116, 117, 118, 119, 120, 121, 122] } : ByteArray).size) : (({ data := #[48, 49, 50, 51, 52, 53, 54, 55, 56, 57, 97, 98, 99, 100, 101, 102, 103, 104, 105, 106, 107, 108, 109, 110, 111, 112, 113, 114, 115, 116, 117, 118, 119, 120, 121, 122] } : ByteArray)[k]'h).toNat = dch k :=
  match k, hk with
  | 0, _ => rfl
  | 1, _ => rfl
  | 2, _ => rfl
  | 3, _ => rfl
  | 4, _ => rfl
  | 5, _ => rfl
  | 6, _ => rfl
  | 7, _ => rfl
  | 8, _ => rfl
  | 9, _ => rfl
  | 10, _ => rfl
  | 11, _ => rfl
  | 12, _ => rfl
  | 13, _ => rfl
  | 14, _ => rfl
  | 15, _ => rfl
  | 16, _ => rfl
  | 17, _ => rfl
  | 18, _ => rfl
  | 19, _ => rfl
  | 20, _ => rfl
  | 21, _ => rfl
  | 22, _ => rfl
  | 23, _ => rfl
  | 24, _ => rfl
  | 25, _ => rfl
  | 26, _ => rfl
  | 27, _ => rfl
  | 28, _ => rfl
  | 29, _ => rfl
  | 30, _ => rfl
  | 31, _ => rfl
  | 32, _ => rfl
  | 33, _ => rfl
  | 34, _ => rfl
  | 35, _ => rfl
  | k + 36, hk => absurd hk (by omega)
theorem dig_step {r left : Nat} {acc : List Nat} {T : Nat} (h : valr r acc + r ^ acc.length * left = T) : valr r (acc ++ [left % r]) + r ^ (acc ++ [left % r]).length * (left / r) = T := by
  rw [valr_snoc, List.length_append, List.length_singleton, Nat.pow_succ, Nat.mul_assoc, Nat.add_assoc, ← Nat.mul_add, Nat.mod_add_div]
  exact h

/-- A number's text, and an error's number. -/
def textS (a : List Nat) (radix : Int) : ByteArray × Int :=
  if sound a then (if decide (2 ≤ radix ∧ radix ≤ 36) then (if val a = 0 then (⟨#[48]⟩, 0) else (txt radix.toNat (val a), 0)) else (⟨#[]⟩, 1)) else (⟨#[]⟩, 2)

end Go.Proofs.YtokgmpjblnpjmaaGreatDoor
