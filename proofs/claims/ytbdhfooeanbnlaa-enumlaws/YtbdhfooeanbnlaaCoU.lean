/- The units of bytes: as a range over a text takes them, one by one, and in pairs. -/
import Derived.Test.YtbdhfooeanbnlaaMo
import Derived.Lib.TrimUEq
namespace Go.Proofs.Ytbdhfooeanbnlaa
open Go.RowKit Go.Lib
set_option linter.unusedVariables false
set_option linter.unusedSimpArgs false

/-- What a character that is read so wide stands for: a bad byte is told by -1. -/
def uR (r q : Nat) : Int := if r = 65533 ∧ q ≠ 3 then -1 else (r : Int)
def unitsF : Nat → Nat → List UInt8 → List (Int × Int)
  | 0, _, _ => []
  | f + 1, p, l => if l = [] then [] else ((p : Int), uR (decodeL l).1 (decodeL l).2) :: unitsF f (p + (decodeL l).2) (l.drop (decodeL l).2)
/-- The characters and bad bytes of a text, with their places. -/
def unitsU (l : List UInt8) : List (Int × Int) := unitsF l.length 0 l
theorem decode_wide (l : List UInt8) (hl : l ≠ []) : 1 ≤ (decodeL l).2 ∧ (decodeL l).2 ≤ l.length := by
  have h0 : 0 < l.length := List.length_pos_iff.2 hl
  rw [decodeL_N]
  generalize (l.getD 0 0).toNat = b0
  generalize (l.getD 1 0).toNat = b1
  generalize (l.getD 2 0).toNat = b2
  generalize (l.getD 3 0).toNat = b3
  unfold decodeN
  repeat' split
  all_goals (simp only; omega)
theorem unitsF_more : ∀ (f g p : Nat) (l : List UInt8), l.length ≤ f → l.length ≤ g → unitsF f p l = unitsF g p l
  | 0, 0, _, _, _, _ => rfl
  | 0, g + 1, p, l, h, _ => by
    have : l = [] := List.length_eq_zero_iff.1 (by omega)
    simp [unitsF, this]
  | f + 1, 0, p, l, _, h => by
    have : l = [] := List.length_eq_zero_iff.1 (by omega)
    simp [unitsF, this]
  | f + 1, g + 1, p, l, h1, h2 => by
    unfold unitsF
    by_cases hl : l = []
    · rw [if_pos hl, if_pos hl]
    · rw [if_neg hl, if_neg hl]
      have := decode_wide l hl
      rw [unitsF_more f g _ _ (by rw [List.length_drop]; omega) (by rw [List.length_drop]; omega)]
/-- .. from a place on. -/
def unitsR (s : ByteArray) (p : Nat) : List (Int × Int) := unitsF (s.size - p) p (s.data.toList.drop p)
theorem size_toList (s : ByteArray) : s.data.toList.length = s.size := by rw [Array.length_toList]; rfl
theorem unitsR_zero (s : ByteArray) : unitsR s 0 = unitsU s.data.toList := by
  unfold unitsR unitsU
  rw [List.drop_zero, size_toList, Nat.sub_zero]
theorem unitsR_over {s : ByteArray} {p : Nat} (h : ¬ p < s.size) : unitsR s p = [] := by
  unfold unitsR
  rw [show s.size - p = 0 from by omega]
  rfl
theorem unitsR_step {s : ByteArray} {p r q : Nat} (h : p < s.size) (e : Utf8.decode s p = (r, q)) : unitsR s p = ((p : Int), uR r q) :: unitsR s (p + q) ∧ 1 ≤ q ∧ p + q ≤ s.size := by
  have hl := size_toList s
  have hne : s.data.toList.drop p ≠ [] := fun k => by
    have := congrArg List.length k
    rw [List.length_drop, hl] at this
    simp at this
    omega
  have hd := decodeL_drop s p
  rw [e] at hd
  have hw := decode_wide _ hne
  rw [hd, List.length_drop, hl] at hw
  simp only at hw
  refine ⟨?_, hw.1, by omega⟩
  unfold unitsR
  obtain ⟨m, hm⟩ : ∃ m, s.size - p = m + 1 := ⟨s.size - p - 1, by omega⟩
  rw [hm]
  show (if s.data.toList.drop p = [] then [] else ((p : Int), uR (decodeL (s.data.toList.drop p)).1 (decodeL (s.data.toList.drop p)).2) :: unitsF m (p + (decodeL (s.data.toList.drop p)).2) ((s.data.toList.drop p).drop (decodeL (s.data.toList.drop p)).2)) = _
  rw [if_neg hne, hd, List.drop_drop]
  simp only
  rw [unitsF_more m (s.size - (p + q)) _ _ (by rw [List.length_drop, hl]; omega) (by rw [List.length_drop, hl]; omega)]
theorem decode_okN (l : List UInt8) : ((decodeL l).1 : Int) ≤ 1114111 ∧ ¬ (55296 ≤ (decodeL l).1 ∧ (decodeL l).1 ≤ 57343) := by
  rw [decodeL_N]
  have k0 := (l.getD 0 0).toNat_lt
  generalize (l.getD 0 0).toNat = b0 at *
  generalize (l.getD 1 0).toNat = b1
  generalize (l.getD 2 0).toNat = b2
  generalize (l.getD 3 0).toNat = b3
  unfold decodeN
  repeat' split
  all_goals (simp only; omega)
theorem uR_ok {s : ByteArray} {p r q : Nat} (e : Utf8.decode s p = (r, q)) : OkU (uR r q) := by
  have hd := decodeL_drop s p
  rw [e] at hd
  have := decode_okN (s.data.toList.drop p)
  rw [hd] at this
  simp only at this
  unfold uR OkU
  split
  · exact .inl rfl
  · right; omega
/-- U+FFFD that is written out takes three bytes; a bad byte one. -/
theorem decode_fffd (l : List UInt8) (hl : l ≠ []) (h : (decodeL l).1 = 65533) : hasPrefix l [239, 191, 189] = decide ((decodeL l).2 = 3) := by
  have e0 := (l.getD 0 0).toNat_lt
  have e1 := (l.getD 1 0).toNat_lt
  have e2 := (l.getD 2 0).toNat_lt
  have hp : hasPrefix l [239, 191, 189] = decide (2 < l.length ∧ (l.getD 0 0).toNat = 239 ∧ (l.getD 1 0).toNat = 191 ∧ (l.getD 2 0).toNat = 189) := by
    unfold hasPrefix
    match l with
    | [] => exact absurd rfl hl
    | [a] => simp [List.isPrefixOf]
    | [a, b] => simp [List.isPrefixOf]
    | a :: b :: c :: t =>
      simp only [List.isPrefixOf, List.getD_cons_zero, List.getD_cons_succ, List.length_cons]
      by_cases ha : a = 239
      · by_cases hb : b = 191
        · by_cases hc : c = 189
          · subst ha hb hc; simp
          · have : c.toNat ≠ 189 := fun k => hc (UInt8.toNat_inj.1 k)
            subst ha hb
            rw [decide_eq_false (fun k => this k.2.2.2)]
            simp [show (189 == c) = false from by simpa using fun k => hc k.symm]
        · have : b.toNat ≠ 191 := fun k => hb (UInt8.toNat_inj.1 k)
          rw [decide_eq_false (fun k => this k.2.2.1)]
          simp [show (191 == b) = false from by simpa using fun k => hb k.symm]
      · have : a.toNat ≠ 239 := fun k => ha (UInt8.toNat_inj.1 k)
        rw [decide_eq_false (fun k => this k.2.1)]
        simp [show (239 == a) = false from by simpa using fun k => ha k.symm]
  rw [hp]
  rw [decodeL_N] at h ⊢
  generalize (l.getD 0 0).toNat = b0 at *
  generalize (l.getD 1 0).toNat = b1 at *
  generalize (l.getD 2 0).toNat = b2 at *
  generalize (l.getD 3 0).toNat = b3 at *
  unfold decodeN at *
  by_cases c1 : b0 < 128
  · rw [if_pos c1] at h ⊢
    simp only at h
    omega
  rw [if_neg c1] at h ⊢
  by_cases c2 : b0 / 32 = 6 ∧ (1 < l.length ∧ b1 / 64 = 2)
  · rw [if_pos c2] at h ⊢
    by_cases d : b0 % 32 * 64 + b1 % 64 ≥ 128
    · rw [if_pos d] at h ⊢
      simp only at h
      omega
    · rw [if_neg d]
      exact (decide_eq_false (fun k => by omega)).trans (decide_eq_false (by decide)).symm
  rw [if_neg c2] at h ⊢
  by_cases c3 : b0 / 16 = 14 ∧ (1 < l.length ∧ b1 / 64 = 2) ∧ (2 < l.length ∧ b2 / 64 = 2)
  · rw [if_pos c3] at h ⊢
    split at h
    · rename_i d
      rw [if_pos d]
      simp only at h
      exact (decide_eq_true (by omega)).trans (decide_eq_true rfl).symm
    · rename_i d
      rw [if_neg d]
      exact (decide_eq_false (fun k => by omega)).trans (decide_eq_false (by decide)).symm
  rw [if_neg c3] at h ⊢
  have k1 : decide (2 < l.length ∧ b0 = 239 ∧ b1 = 191 ∧ b2 = 189) = false := decide_eq_false (fun k => c3 (by omega))
  rw [k1]
  symm
  apply decide_eq_false
  repeat' split
  all_goals simp
theorem fffd_at {s : ByteArray} {p r q : Nat} (h : p < s.size) (e : Utf8.decode s p = (r, q)) (hr : r = 65533) : hasPrefix (s.data.toList.drop p) [239, 191, 189] = decide (q = 3) := by
  have hd := decodeL_drop s p
  rw [e] at hd
  have hne : s.data.toList.drop p ≠ [] := fun k => by
    have := congrArg List.length k
    rw [List.length_drop, size_toList] at this
    simp at this
    omega
  have := decode_fffd _ hne (by rw [hd]; exact hr)
  rw [hd] at this
  exact this
section
variable {σ : Type} {step : σ → Int → Int → σ × Bool} {s : σ} {at_ r : Int} {us : List (Int × Int)}
theorem runV_stop (h : (step s at_ r).2 = false) : runV step s ((at_, r) :: us) = (step s at_ r).1 := by
  show (if (step s at_ r).2 = true then _ else _) = _
  rw [h]
  rfl
theorem runV_go (h : (step s at_ r).2 = true) : runV step s ((at_, r) :: us) = runV step (step s at_ r).1 us := by
  show (if (step s at_ r).2 = true then _ else _) = _
  rw [h]
  rfl
end
section
variable {P : Program} {w : World} {l : List (Nat × Value)} {dst : Option Tmp} {ty : TypeId} {pos : String} {after : Array Edge} {guard : Option (Nat × Bool)}
theorem does_sliceFrom {t : TypeId} (ht : P.underlying t = some .string) {x y : Operand} {s : ByteArray} {p : Nat} (hx : ev l x = some (.string s)) (hy : ev l y = some (.int .i64 ((p : Nat) : Int))) (hp : p ≤ s.size) : Does P l ⟨dst, .slice t x (some y) none none, ty, pos, after, guard⟩ w (.string (s.extract p s.size)) w := fun ρ h => by
  have h1 : (0 : Int) ≤ (p : Nat) ∧ ((p : Nat) : Int) ≤ (s.size : Int) := ⟨by omega, by omega⟩
  simp [execOp, h x _ hx, h y _ hy, Instr.sliceAt, Instr.slice, Instr.sliceBounds, Instr.sliceBound, asIntOf, run_underlying ht, h1]
  try (intro hc; omega)
theorem does_indexS {t : TypeId} (ht : P.underlying t = some .string) {x y : Operand} {s : ByteArray} {i : Nat} {z : Int} (hx : ev l x = some (.string s)) (hy : ev l y = some (.int .i64 z)) (hz : z = ((i : Nat) : Int)) (hi : i < s.size) : Does P l ⟨dst, .index t x y, ty, pos, after, guard⟩ w (.int .u8 (((s.data.toList.getD i 0).toNat : Nat) : Int)) w := fun ρ h => by
  subst hz
  have := run_index_string (P := P) w t s .i64 ((i : Nat) : Int) ht
  have hi' : i < s.data.size := hi
  have e : s.data.toList.getD i 0 = s[i] := by
    rw [List.getD_eq_getElem?_getD, Array.getElem?_toList, Array.getElem?_eq_getElem hi']
    rfl
  rw [e]
  simp [execOp, h x _ hx, h y _ hy, this, hi]
end
theorem extract_toList (s : ByteArray) (p : Nat) : (s.extract p s.size).data.toList = s.data.toList.drop p := by
  simp [ByteArray.data_extract]
  rw [List.take_of_length_le]
  rw [List.length_drop, size_toList]
  exact Nat.le_refl _
end Go.Proofs.Ytbdhfooeanbnlaa
