/- Two texts, one behind the other: their units, and what Encode makes of them. -/
import Derived.Test.YtcjgjbaadmohbaaCoJ
namespace Go.Proofs.Ytcjgjbaadmohbaa
open Go.RowKit Go.Lib
set_option linter.unusedVariables false
set_option linter.unusedSimpArgs false

theorem decodeN_more {n n' b0 b1 b2 b3 c1 c2 c3 : Nat} (hn : n ≤ n') (h1 : 1 < n → c1 = b1) (h2 : 2 < n → c2 = b2) (h3 : 3 < n → c3 = b3) (hok : ¬ ((decodeN n b0 b1 b2 b3).1 = 65533 ∧ (decodeN n b0 b1 b2 b3).2 ≠ 3)) : decodeN n' b0 c1 c2 c3 = decodeN n b0 b1 b2 b3 := by
  unfold decodeN at hok ⊢
  by_cases k1 : b0 < 128
  · rw [if_pos k1, if_pos k1]
  rw [if_neg k1] at hok ⊢
  rw [if_neg k1]
  by_cases k2 : b0 / 32 = 6 ∧ (1 < n ∧ b1 / 64 = 2)
  · obtain rfl := h1 k2.2.1
    rw [if_pos k2, if_pos ⟨k2.1, by omega, k2.2.2⟩]
  rw [if_neg k2] at hok ⊢
  by_cases k3 : b0 / 16 = 14 ∧ (1 < n ∧ b1 / 64 = 2) ∧ (2 < n ∧ b2 / 64 = 2)
  · obtain rfl := h1 k3.2.1.1
    obtain rfl := h2 k3.2.2.1
    rw [if_neg (by omega), if_pos k3, if_pos ⟨k3.1, ⟨by omega, k3.2.1.2⟩, by omega, k3.2.2.2⟩]
  rw [if_neg k3] at hok ⊢
  by_cases k4 : b0 / 8 = 30 ∧ (1 < n ∧ b1 / 64 = 2) ∧ (2 < n ∧ b2 / 64 = 2) ∧ (3 < n ∧ b3 / 64 = 2)
  · obtain rfl := h1 k4.2.1.1
    obtain rfl := h2 k4.2.2.1.1
    obtain rfl := h3 k4.2.2.2.1
    rw [if_neg (by omega), if_neg (by omega), if_pos k4, if_pos ⟨k4.1, ⟨by omega, k4.2.1.2⟩, ⟨by omega, k4.2.2.1.2⟩, by omega, k4.2.2.2.2⟩]
  rw [if_neg k4] at hok
  exact absurd ⟨rfl, by decide⟩ hok
theorem getD_app (l m : List UInt8) (i : Nat) (h : i < l.length) : (l ++ m).getD i 0 = l.getD i 0 := by
  rw [List.getD_eq_getElem?_getD, List.getD_eq_getElem?_getD, List.getElem?_append_left h]
/-- A character that is whole reads the same, whatever stands behind. -/
theorem decode_app {l : List UInt8} (m : List UInt8) (hl : l ≠ []) (hok : uR (decodeL l).1 (decodeL l).2 ≠ -1) : decodeL (l ++ m) = decodeL l := by
  have h0 : 0 < l.length := List.length_pos_iff.2 hl
  have hok' : ¬ ((decodeL l).1 = 65533 ∧ (decodeL l).2 ≠ 3) := fun k => hok (by unfold uR; rw [if_pos k])
  rw [decodeL_N] at hok'
  rw [decodeL_N, decodeL_N, getD_app l m 0 h0]
  refine decodeN_more (by rw [List.length_append]; omega) (fun k => ?_) (fun k => ?_) (fun k => ?_) hok'
  · rw [getD_app l m 1 k]
  · rw [getD_app l m 2 k]
  · rw [getD_app l m 3 k]
theorem runes_at : ∀ (f p q : Nat) (l : List UInt8), (unitsF f p l).map Prod.snd = (unitsF f q l).map Prod.snd
  | 0, _, _, _ => rfl
  | f + 1, p, q, l => by
    unfold unitsF
    by_cases hl : l = []
    · rw [if_pos hl, if_pos hl]
    · rw [if_neg hl, if_neg hl, List.map_cons, List.map_cons, runes_at f (p + (decodeL l).2) (q + (decodeL l).2)]
/-- The characters of a text, without their places. -/
def runes (l : List UInt8) : List Int := (unitsU l).map Prod.snd
theorem unitsF_cons {f p : Nat} {l : List UInt8} (hl : l ≠ []) : unitsF (f + 1) p l = ((p : Int), uR (decodeL l).1 (decodeL l).2) :: unitsF f (p + (decodeL l).2) (l.drop (decodeL l).2) := by
  conv => lhs; unfold unitsF
  rw [if_neg hl]
theorem runes_appF : ∀ (f : Nat) (l m : List UInt8), l.length ≤ f → (∀ r ∈ (unitsF f 0 l).map Prod.snd, r ≠ -1) → (unitsF (f + m.length) 0 (l ++ m)).map Prod.snd = (unitsF f 0 l).map Prod.snd ++ runes m
  | 0, l, m, h, _ => by
    have : l = [] := List.length_eq_zero_iff.1 (by omega)
    subst this
    rw [List.nil_append, Nat.zero_add]
    rfl
  | f + 1, l, m, h, hok => by
    by_cases hl : l = []
    · subst hl
      rw [List.nil_append]
      have : unitsF (f + 1) 0 ([] : List UInt8) = [] := by unfold unitsF; rw [if_pos rfl]
      rw [this, List.map_nil, List.nil_append, unitsF_more (f + 1 + m.length) m.length 0 m (by omega) (Nat.le_refl _)]
      rfl
    · have hw := decode_wide l hl
      rw [unitsF_cons hl, List.map_cons] at hok ⊢
      have h0 := hok _ List.mem_cons_self
      have hd := decode_app m hl h0
      have hne : l ++ m ≠ [] := fun k => hl (List.append_eq_nil_iff.1 k).1
      rw [show f + 1 + m.length = (f + m.length) + 1 from by omega, unitsF_cons hne, hd, List.drop_append_of_le_length hw.2, List.map_cons, List.cons_append,
        runes_at (f + m.length) _ 0, runes_appF f (l.drop (decodeL l).2) m (by rw [List.length_drop]; omega) (fun r hr => hok r (List.mem_cons_of_mem _ (by rw [runes_at f _ 0]; exact hr))), runes_at f (0 + (decodeL l).2) 0]
theorem runes_app {l m : List UInt8} (hok : ∀ r ∈ runes l, r ≠ -1) : runes (l ++ m) = runes l ++ runes m := by
  have := runes_appF l.length l m (Nat.le_refl _) hok
  rw [← List.length_append] at this
  exact this
/-- A line end is written as the transcoder writes it. -/
def exR (en : List Int) (rs : List Int) : List Int := rs.flatMap fun r => if r = 10 then en else [r]
theorem expand_snd (en : List Int) : ∀ us : List (Int × Int), (expand en us).map Prod.snd = exR en (us.map Prod.snd)
  | [] => rfl
  | u :: us => by
    have e : expand en (u :: us) = (if u.2 = 10 then en.map (fun x => (u.1, x)) else [u]) ++ expand en us := by simp [expand]
    rw [e, List.map_append, expand_snd en us]
    show _ = (if u.2 = 10 then en else [u.2]) ++ exR en (us.map Prod.snd)
    congr 1
    split
    · rw [List.map_map]; exact List.map_id en
    · rfl
theorem exR_bad {en rs : List Int} (h : ∀ r ∈ exR en rs, r ≠ -1) : ∀ r ∈ rs, r ≠ -1 := by
  intro r hr e
  subst e
  exact h (-1) (List.mem_flatMap.2 ⟨-1, hr, by rw [if_neg (by decide)]; exact List.mem_singleton.2 rfl⟩) rfl
theorem exR_app (en a b : List Int) : exR en (a ++ b) = exR en a ++ exR en b := List.flatMap_append
/-- When Encode raises: every character is one, and the codec has it. -/
def fineR (c : Int) (r : Int) : Prop := r ≠ -1 ∧ hasS c r = true
section
variable {c inst : Int}
theorem cstep_fine {xs : List UInt8} {a at_ r : Int} {e : Int} (h : fineR c r) : cstep (putC c) 0 inst (xs, a, e) at_ r = ((xs ++ encC c r, a, e), true) := by
  unfold cstep
  rw [if_neg h.1, putC_yes h.2, if_pos rfl]
theorem cstep_poor {xs : List UInt8} {a at_ r e : Int} (h : ¬ fineR c r) : ∃ xs', cstep (putC c) 0 inst (xs, a, e) at_ r = ((xs', at_, 6), false) := by
  unfold cstep
  by_cases h1 : r = -1
  · exact ⟨xs, by rw [if_pos h1, if_pos rfl]⟩
  · cases h2 : hasS c r with
    | true => exact absurd ⟨h1, h2⟩ h
    | false => exact ⟨xs, by rw [if_neg h1, putC_no h2, if_neg Bool.false_ne_true, if_pos rfl]⟩
theorem run_fine : ∀ (us : List (Int × Int)) (xs : List UInt8), (∀ r ∈ us.map Prod.snd, fineR c r) → runV (cstep (putC c) 0 inst) (xs, 0, 0) us = (xs ++ (us.map Prod.snd).flatMap (encC c), 0, 0)
  | [], xs, _ => by simp [runV]
  | (a, r) :: us, xs, h => by
    have h1 := cstep_fine (inst := inst) (xs := xs) (a := 0) (at_ := a) (e := 0) (h r (by simp))
    rw [runV_go (by rw [h1]), h1, run_fine us _ (fun r' hr => h r' (by rw [List.map_cons]; exact List.mem_cons_of_mem _ hr))]
    simp
theorem run_poor : ∀ (us : List (Int × Int)) (xs : List UInt8), (runV (cstep (putC c) 0 inst) (xs, 0, 0) us).2.2 = 0 → ∀ r ∈ us.map Prod.snd, fineR c r
  | [], xs, _ => by simp
  | (a, r) :: us, xs, h => by
    by_cases hf : fineR c r
    · have h1 := cstep_fine (inst := inst) (xs := xs) (a := 0) (at_ := a) (e := 0) hf
      rw [runV_go (by rw [h1]), h1] at h
      intro r' hr
      rcases List.mem_cons.1 (by simpa using hr : r' ∈ r :: us.map Prod.snd) with rfl | hr
      · exact hf
      · exact run_poor us _ h r' hr
    · obtain ⟨xs', h1⟩ := cstep_poor (inst := inst) (xs := xs) (a := 0) (at_ := a) (e := 0) hf
      rw [runV_stop (by rw [h1]), h1] at h
      exact absurd h (show ¬ ((6 : Int) = 0) by decide)
end
/-- What is written, without the places. -/
def wrL (k : Int) (s : ByteArray) : List Int := exR (charsL (lineEndS k).data.toList) (runes s.data.toList)
theorem encR_fine {c k : Int} {s : ByteArray} (h : ∀ r ∈ wrL k s, fineR c r) : encR c k 0 s = ((wrL k s).flatMap (encC c), 0, 0) := by
  unfold encR
  rw [run_fine _ _ (by rw [expand_snd]; exact h), expand_snd]
  rfl
theorem encR_poor {c k : Int} {s : ByteArray} (h : (encR c k 0 s).2.2 = 0) : ∀ r ∈ wrL k s, fineR c r := by
  unfold encR at h
  have := run_poor _ _ h
  rw [expand_snd] at this
  exact this
theorem refS_zero {c k m : Int} {n : Nat} (h1 : n ≤ 65536) (h2 : checkS c k m = 0) : refS c k m n = 0 := by
  unfold refS
  rw [if_pos h2, if_neg (by omega)]
theorem encS_zero {c k : Int} {s : ByteArray} (h : (encS c k 0 s).2.2 = 0) : s.size ≤ 65536 ∧ checkS c k 0 = 0 ∧ (∀ r ∈ wrL k s, fineR c r) ∧ (encS c k 0 s).1 = (wrL k s).flatMap (encC c) := by
  unfold encS at h ⊢
  by_cases h1 : refS c k 0 s.size = 0
  · rw [if_neg (by rw [h1]; decide)] at h ⊢
    by_cases h2 : (encR c k 0 s).2.2 = 0
    · rw [if_neg (by rw [h2]; decide)]
      have h3 := encR_poor h2
      exact ⟨(refS_le h1).1, (refS_le h1).2, h3, by rw [encR_fine h3]⟩
    · rw [if_pos h2] at h
      exact absurd h h2
  · rw [if_pos h1] at h
    exact absurd h h1
/-- CodecJoins, of what Encode answers. -/
theorem enc_joins {c k : Int} {s t : ByteArray} (hs : (encS c k 0 s).2.2 = 0) (ht : (encS c k 0 t).2.2 = 0) (hl : s.size + t.size ≤ 65536) : (encS c k 0 (s ++ t)).2.2 = 0 ∧ (encS c k 0 (s ++ t)).1 = (encS c k 0 s).1 ++ (encS c k 0 t).1 := by
  obtain ⟨a1, a2, a3, a4⟩ := encS_zero hs
  obtain ⟨b1, b2, b3, b4⟩ := encS_zero ht
  have hw : wrL k (s ++ t) = wrL k s ++ wrL k t := by
    unfold wrL
    rw [ByteArray.data_append, Array.toList_append, runes_app (exR_bad fun r hr => (a3 r hr).1), exR_app]
  have hz : refS c k 0 (s ++ t).size = 0 := refS_zero (by rw [ByteArray.size_append]; exact hl) a2
  have hf : ∀ r ∈ wrL k (s ++ t), fineR c r := by
    rw [hw]
    intro r hr
    rcases List.mem_append.1 hr with hr | hr
    · exact a3 r hr
    · exact b3 r hr
  have e : encS c k 0 (s ++ t) = ((wrL k (s ++ t)).flatMap (encC c), 0, 0) := by
    unfold encS
    rw [if_neg (by rw [hz]; decide), encR_fine hf, if_neg (show ¬ ((0 : Int) ≠ 0) by decide)]
  rw [e]
  refine ⟨rfl, ?_⟩
  rw [a4, b4, hw]
  exact List.flatMap_append
end Go.Proofs.Ytcjgjbaadmohbaa
