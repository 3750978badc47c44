/- Walk of the document's reading of digits. Walk of the document's writing of digits. Walk of the law of texts: written and read as the document says, and read back. -/
import Derived.Test.YtjkpfnghiooblaaGreatDoorTxtB
import Derived.Test.YtjkpfnghiooblaaGreatDoorNatN
import Derived.Test.YtjkpfnghiooblaaGreatDoorPwholen12a
import Derived.Test.YtjkpfnghiooblaaGreatDoorArgs
import Derived.Deep.RegionWith
import Derived.BigRegion
import Derived.Test.YtjkpfnghiooblaaGreatDoorTxtD
namespace Go.Proofs.YtjkpfnghiooblaaGreatDoor
open Go.RowKit
set_option linter.unusedVariables false
set_option linter.unusedSimpArgs false
theorem zyh {y r : Nat} (hr : 2 ≤ r) (h : y ≠ 0) : bl (y / r) + 1 ≤ bl y := bl_div hr h
theorem qoi {L : List Nat} (h : Dig8 L) (i : Nat) : byteAt (bytesOf L) i = L.getD i 0 := by
  unfold byteAt bytesOf
  rw [strOfNums_data]
  simp only [List.getD_eq_getElem?_getD, List.getElem?_map]
  cases hL : L[i]? with
  | none => rfl
  | some x =>
    have hx : x < 256 := h x (List.mem_of_getElem? hL)
    simp
    omega
theorem zsa (l : List Nat) (f : Nat → Nat) (i : Nat) (hi : i < l.length) : (l.map f).reverse.getD i 0 = f (l.getD (l.length - 1 - i) 0) := by
  simp only [List.getD_eq_getElem?_getD]
  rw [List.getElem?_reverse (by rw [List.length_map]; exact hi), List.length_map, List.getElem?_map, List.getElem?_eq_getElem (by omega)]
  simp
theorem zhh {r x : Nat} (hr : 2 ≤ r) (h : x ≠ 0) : (digs r x).length ≠ 0 := by rw [digs_pos hr h]; simp
theorem ur (r x : Nat) : (txt r x).size = (digs r x).length := by unfold txt; rw [bytesOf_size, List.length_reverse, List.length_map]
theorem qoj {r x i : Nat} (hr : 2 ≤ r) (hr2 : r ≤ 36) (hi : i < (digs r x).length) : dvn 36 (byteAt (txt r x) i) = (digs r x).getD ((digs r x).length - 1 - i) 0 ∧ (digs r x).getD ((digs r x).length - 1 - i) 0 < r := by
  have hd := (digs_digR hr x).getD (by omega) ((digs r x).length - 1 - i)
  refine ⟨?_, hd⟩
  unfold txt
  rw [qoi (by
    intro y hy
    rw [List.mem_reverse] at hy
    obtain ⟨z, hz, rfl⟩ := List.mem_map.1 hy
    exact dch_lt (by have := digs_digR hr x z hz; omega)), zsa _ _ _ hi, dvn_dch (by omega)]
theorem zsb {r x : Nat} (hr : 2 ≤ r) (hr2 : r ≤ 36) : ∀ i, i ≤ (digs r x).length → tval r (txt r x) i = valr r ((digs r x).drop ((digs r x).length - i)) := by
  intro i
  induction i with
  | zero =>
    intro _
    rw [Nat.sub_zero, List.drop_length]
    rfl
  | succ i ih =>
    intro hi
    rw [tval, ih (by omega), (qoj hr hr2 (by omega)).1]
    have e : (digs r x).drop ((digs r x).length - (i + 1)) = (digs r x).getD ((digs r x).length - 1 - i) 0 :: (digs r x).drop ((digs r x).length - i) := by
      have h1 : (digs r x).length - (i + 1) < (digs r x).length := by omega
      rw [List.drop_eq_getElem_cons h1, show (digs r x).length - (i + 1) + 1 = (digs r x).length - i by omega]
      congr 1
      have h2 : (digs r x).length - 1 - i < (digs r x).length := by omega
      simp only [List.getD_eq_getElem?_getD, List.getElem?_eq_getElem h2, Option.getD_some]
      congr 1
      omega
    rw [e, valr, Nat.mul_comm, Nat.add_comm]
theorem zlh {r : Nat} (hr : 2 ≤ r) : numeralS r ⟨#[48]⟩ = true ∧ tval r ⟨#[48]⟩ 1 = 0 := by
  have hb : byteAt ⟨#[48]⟩ 0 = 48 := rfl
  constructor
  · refine (numeralS_iff r _).2 ⟨by decide, fun i hi => ?_⟩
    have e : i = 0 := by
      have : (⟨#[48]⟩ : ByteArray).size = 1 := rfl
      omega
    rw [e, hb]
    show 0 < r
    omega
  · show 0 * r + dvn 36 (byteAt ⟨#[48]⟩ 0) = 0
    rw [hb, Nat.zero_mul]
    rfl
/-- Read of Text is the number. -/
theorem zli {a : List Nat} {radix : Int} (hd : Dig a) (hs : sound a = true) (hr : decide (2 ≤ radix ∧ radix ≤ 36) = true) (hl : (textS a radix).1.size ≤ 16384) : readS (textS a radix).1 radix = (a, 0) := by
  obtain ⟨ea, na⟩ := sound_words hd hs
  have hr' := of_decide_eq_true hr
  obtain ⟨r, rfl⟩ := Int.eq_ofNat_of_zero_le (show 0 ≤ radix by omega)
  unfold textS at hl ⊢
  unfold readS
  rw [hs, hr] at hl ⊢
  simp only [if_true, Int.toNat_natCast] at hl ⊢
  by_cases hx : val a = 0
  · rw [if_pos hx] at hl ⊢
    obtain ⟨z1, z2⟩ := zlh (r := r) (by omega)
    rw [z1]
    have hsz : (⟨#[48]⟩ : ByteArray).size = 1 := rfl
    simp only [if_true, hsz, z2]
    rw [if_pos (by omega)]
    rw [ea, hx]
    unfold fitS
    rw [words_zero]
    rfl
  · rw [if_neg hx] at hl ⊢
    have hn : numeralS r (txt r (val a)) = true := by
      refine (numeralS_iff r _).2 ⟨by rw [ur]; exact zhh (by omega) hx, fun i hi => ?_⟩
      rw [ur] at hi
      have h := qoj (r := r) (x := val a) (by omega) (by omega) hi
      rw [h.1]
      exact h.2
    rw [hn]
    simp only [if_true]
    rw [if_pos hl, ur, zsb (by omega) (by omega) _ (Nat.le_refl _), Nat.sub_self, List.drop_zero, valr_digs (by omega)]
    unfold fitS
    rw [if_pos (by rw [← ea]; exact na), ← ea]
end Go.Proofs.YtjkpfnghiooblaaGreatDoor
