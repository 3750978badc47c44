/- Plain lists: the characters of a text, as a range over it takes them, and their bytes. -/
import Derived.Lib.RuneBytes
import Derived.Lib.TrimUEq
namespace Go.Proofs.YtjlpecapebhgjaaGreatDoor
open Go.Lib
set_option linter.unusedVariables false

def ValidR (r : Int) : Prop := 0 ≤ r ∧ r ≤ 1114111 ∧ ¬ (55296 ≤ r ∧ r ≤ 57343)

theorem u8_of (z : Int) (h0 : 0 ≤ z) (h1 : z < 256) : (z.toNat.toUInt8).toNat = z.toNat := by
  simp
  omega

/-- A character's bytes are read as that character, whatever stands behind them. -/
theorem decodeL_enc (r : Int) (hv : ValidR r) (t : List UInt8) : decodeL (encodeRune r ++ t) = (r.toNat, (encodeRune r).length) := by
  obtain ⟨h0, h1, h2⟩ := hv
  rw [decodeL_N]
  unfold encodeRune
  by_cases a : r ≤ 127
  · rw [encodeRuneZ_one h0 a]
    simp only [List.map_cons, List.map_nil, List.cons_append, List.nil_append, List.getD_cons_zero, List.length_cons, List.length_nil]
    unfold decodeN
    rw [u8_of r (by omega) (by omega)]
    rw [if_pos (by omega)]
  · by_cases b : r ≤ 2047
    · rw [encodeRuneZ_two (by omega) b]
      simp only [List.map_cons, List.map_nil, List.cons_append, List.nil_append, List.getD_cons_zero, List.getD_cons_succ, List.length_cons, List.length_nil]
      rw [u8_of (192 + r / 64) (by omega) (by omega), u8_of (128 + r % 64) (by omega) (by omega)]
      unfold decodeN
      rw [if_neg (by omega), if_pos ⟨by omega, by omega, by omega⟩, if_pos (by omega)]
      rw [Prod.mk.injEq]
      exact ⟨by omega, rfl⟩
    · by_cases c : r ≤ 65535
      · rw [encodeRuneZ_three (by omega)]
        simp only [List.map_cons, List.map_nil, List.cons_append, List.nil_append, List.getD_cons_zero, List.getD_cons_succ, List.length_cons, List.length_nil]
        rw [u8_of (224 + r / 4096) (by omega) (by omega), u8_of (128 + r / 64 % 64) (by omega) (by omega), u8_of (128 + r % 64) (by omega) (by omega)]
        unfold decodeN
        rw [if_neg (by omega), if_neg (by omega), if_pos ⟨by omega, ⟨by omega, by omega⟩, by omega, by omega⟩, if_pos (by omega)]
        rw [Prod.mk.injEq]
        exact ⟨by omega, rfl⟩
      · rw [encodeRuneZ_four (by omega) (by omega)]
        simp only [List.map_cons, List.map_nil, List.cons_append, List.nil_append, List.getD_cons_zero, List.getD_cons_succ, List.length_cons, List.length_nil]
        rw [u8_of (240 + r / 262144) (by omega) (by omega), u8_of (128 + r / 4096 % 64) (by omega) (by omega), u8_of (128 + r / 64 % 64) (by omega) (by omega), u8_of (128 + r % 64) (by omega) (by omega)]
        unfold decodeN
        rw [if_neg (by omega), if_neg (by omega), if_neg (by omega), if_pos ⟨by omega, ⟨by omega, by omega⟩, ⟨by omega, by omega⟩, by omega, by omega⟩, if_pos (by omega)]
        rw [Prod.mk.injEq]
        exact ⟨by omega, rfl⟩

theorem decodeL_wd (l : List UInt8) (hl : l ≠ []) : 1 ≤ (decodeL l).2 ∧ (decodeL l).2 ≤ l.length := by
  have h0 : 0 < l.length := List.length_pos_iff.2 hl
  rw [decodeL_N]
  generalize (l.getD 0 0).toNat = b0
  generalize (l.getD 1 0).toNat = b1
  generalize (l.getD 2 0).toNat = b2
  generalize (l.getD 3 0).toNat = b3
  unfold decodeN
  repeat' split
  all_goals (simp only; omega)
theorem decodeL_valid (l : List UInt8) : ValidR ((decodeL l).1 : Int) := by
  rw [decodeL_N]
  have k0 := (l.getD 0 0).toNat_lt
  generalize (l.getD 0 0).toNat = b0 at *
  generalize (l.getD 1 0).toNat = b1
  generalize (l.getD 2 0).toNat = b2
  generalize (l.getD 3 0).toNat = b3
  unfold decodeN ValidR
  repeat' split
  all_goals (simp only; omega)

/-- The characters of a text. -/
def runesF : Nat → List UInt8 → List Int
  | 0, _ => []
  | f + 1, l => if l = [] then [] else ((decodeL l).1 : Int) :: runesF f (l.drop (decodeL l).2)
def runes (l : List UInt8) : List Int := runesF l.length l

theorem runesF_more : ∀ (f g : Nat) (l : List UInt8), l.length ≤ f → l.length ≤ g → runesF f l = runesF g l
  | 0, 0, _, _, _ => rfl
  | 0, g + 1, l, h, _ => by
    have : l = [] := List.length_eq_zero_iff.1 (by omega)
    simp [runesF, this]
  | f + 1, 0, l, _, h => by
    have : l = [] := List.length_eq_zero_iff.1 (by omega)
    simp [runesF, this]
  | f + 1, g + 1, l, hf, hg => by
    unfold runesF
    split
    · rfl
    · rename_i hl
      have := decodeL_wd l hl
      rw [runesF_more f g (l.drop (decodeL l).2) (by rw [List.length_drop]; omega) (by rw [List.length_drop]; omega)]
theorem runes_nil : runes [] = [] := rfl
theorem runes_step (l : List UInt8) (hl : l ≠ []) : runes l = ((decodeL l).1 : Int) :: runes (l.drop (decodeL l).2) := by
  have hw := decodeL_wd l hl
  have h0 : 0 < l.length := List.length_pos_iff.2 hl
  unfold runes
  obtain ⟨n, hn⟩ : ∃ n, l.length = n + 1 := ⟨l.length - 1, by omega⟩
  rw [hn]
  show (if l = [] then [] else _) = _
  rw [if_neg hl]
  rw [runesF_more n (l.drop (decodeL l).2).length (l.drop (decodeL l).2) (by rw [List.length_drop]; omega) (Nat.le_refl _)]
theorem runesF_valid : ∀ (f : Nat) (l : List UInt8), ∀ r ∈ runesF f l, ValidR r
  | 0, _, r, h => by simp [runesF] at h
  | f + 1, l, r, h => by
    unfold runesF at h
    split at h
    · simp at h
    · rcases List.mem_cons.1 h with rfl | h
      · exact decodeL_valid l
      · exact runesF_valid f _ r h
theorem runes_valid (l : List UInt8) : ∀ r ∈ runes l, ValidR r := runesF_valid _ l

/-- The bytes of a list of characters. -/
def encs (l : List Int) : List UInt8 := l.flatMap encodeRune
theorem encodeRune_len (r : Int) : 1 ≤ (encodeRune r).length ∧ (encodeRune r).length ≤ 4 := by
  have := encodeRuneZ_length r
  simpa [encodeRune] using this
theorem runes_enc_app (r : Int) (hv : ValidR r) (t : List UInt8) : runes (encodeRune r ++ t) = r :: runes t := by
  have hl := encodeRune_len r
  have hne : encodeRune r ++ t ≠ [] := by
    intro h
    have := congrArg List.length h
    simp at this
    rw [this.1] at hl
    simp at hl
  rw [runes_step _ hne, decodeL_enc r hv t]
  simp only [List.drop_left]
  rw [Int.toNat_of_nonneg hv.1]
theorem runes_encs : ∀ (l : List Int), (∀ r ∈ l, ValidR r) → runes (encs l) = l
  | [], _ => rfl
  | r :: l, h => by
    show runes (encodeRune r ++ encs l) = _
    rw [runes_enc_app r (h r (by simp)), runes_encs l (fun x hx => h x (by simp [hx]))]
theorem runes_encs_app : ∀ (l : List Int) (t : List UInt8), (∀ r ∈ l, ValidR r) → runes (encs l ++ t) = l ++ runes t
  | [], _, _ => rfl
  | r :: l, t, h => by
    have e : encs (r :: l) ++ t = encodeRune r ++ (encs l ++ t) := by simp [encs]
    rw [e, runes_enc_app r (h r (by simp)), runes_encs_app l t (fun x hx => h x (by simp [hx]))]
    rfl
theorem encs_app (a b : List Int) : encs (a ++ b) = encs a ++ encs b := by simp [encs]
theorem encs_len (l : List Int) : (encs l).length ≤ 4 * l.length := by
  induction l with
  | nil => simp [encs]
  | cons r l ih =>
    have := encodeRune_len r
    have e : encs (r :: l) = encodeRune r ++ encs l := rfl
    rw [e]
    simp only [List.length_append, List.length_cons]
    omega
theorem runesF_len : ∀ (f : Nat) (l : List UInt8), (runesF f l).length ≤ l.length
  | 0, _ => by simp [runesF]
  | f + 1, l => by
    unfold runesF
    split
    · simp
    · rename_i hl
      have := decodeL_wd l hl
      have h2 := runesF_len f (l.drop (decodeL l).2)
      simp only [List.length_cons]
      rw [List.length_drop] at h2
      omega
theorem runes_len (l : List UInt8) : (runes l).length ≤ l.length := runesF_len _ l
end Go.Proofs.YtjlpecapebhgjaaGreatDoor
