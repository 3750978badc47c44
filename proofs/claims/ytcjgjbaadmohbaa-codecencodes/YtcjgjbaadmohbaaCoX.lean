/- Line ends when a text is written. -/
import Derived.Test.YtcjgjbaadmohbaaMr
namespace Go.Proofs.Ytcjgjbaadmohbaa
open Go.RowKit Go.Lib
set_option linter.unusedVariables false
set_option linter.unusedSimpArgs false

def charsF : Nat → List UInt8 → List Int
  | 0, _ => []
  | f + 1, l => if l = [] then [] else ((decodeL l).1 : Int) :: charsF f (l.drop (decodeL l).2)
theorem charsF_more : ∀ (f g : Nat) (l : List UInt8), l.length ≤ f → l.length ≤ g → charsF f l = charsF g l
  | 0, 0, _, _, _ => rfl
  | 0, g + 1, l, h, _ => by
    have : l = [] := List.length_eq_zero_iff.1 (by omega)
    simp [charsF, this]
  | f + 1, 0, l, _, h => by
    have : l = [] := List.length_eq_zero_iff.1 (by omega)
    simp [charsF, this]
  | f + 1, g + 1, l, h1, h2 => by
    unfold charsF
    by_cases hl : l = []
    · rw [if_pos hl, if_pos hl]
    · rw [if_neg hl, if_neg hl]
      have := decode_wide l hl
      rw [charsF_more f g _ (by rw [List.length_drop]; omega) (by rw [List.length_drop]; omega)]
/-- The characters of a text. -/
def charsL (l : List UInt8) : List Int := charsF l.length l
def charsR (s : ByteArray) (p : Nat) : List Int := charsF (s.size - p) (s.data.toList.drop p)
theorem charsR_zero (s : ByteArray) : charsR s 0 = charsL s.data.toList := by
  unfold charsR charsL
  rw [List.drop_zero, size_toList, Nat.sub_zero]
theorem charsR_over {s : ByteArray} {p : Nat} (h : ¬ p < s.size) : charsR s p = [] := by
  unfold charsR
  rw [show s.size - p = 0 from by omega]
  rfl
theorem charsR_step {s : ByteArray} {p r q : Nat} (h : p < s.size) (e : Utf8.decode s p = (r, q)) : charsR s p = (r : Int) :: charsR s (p + q) := by
  have hl := size_toList s
  have hne : s.data.toList.drop p ≠ [] := fun k => by
    have := congrArg List.length k
    rw [List.length_drop, hl] at this
    simp at this
    omega
  have hd := decodeL_drop s p
  rw [e] at hd
  have hw := decode_wide _ hne
  rw [hd, List.length_drop, hl] at hw
  simp only at hw
  unfold charsR
  obtain ⟨m, hm⟩ : ∃ m, s.size - p = m + 1 := ⟨s.size - p - 1, by omega⟩
  rw [hm]
  conv => lhs; unfold charsF
  rw [if_neg hne, hd, List.drop_drop]
  simp only
  rw [charsF_more m (s.size - (p + q)) _ (by rw [List.length_drop, hl]; omega) (by rw [List.length_drop, hl]; omega)]
theorem char_ok {s : ByteArray} {p r q : Nat} (e : Utf8.decode s p = (r, q)) : OkU (r : Int) := by
  have hd := decodeL_drop s p
  rw [e] at hd
  have := decode_okN (s.data.toList.drop p)
  rw [hd] at this
  simp only at this
  unfold OkU
  right
  omega
def goV {σ : Type} (step : σ → Int → Int → σ × Bool) : σ → List (Int × Int) → σ × Bool
  | s, [] => (s, true)
  | s, (a, r) :: us => if (step s a r).2 = true then goV step (step s a r).1 us else ((step s a r).1, false)
section
variable {σ : Type} (step : σ → Int → Int → σ × Bool)
/-- The characters of a line end are handed over, all at one place. -/
def runE (at_ : Int) : σ → List Int → σ × Bool
  | s, [] => (s, true)
  | s, x :: xs => if (step s at_ x).2 = true then runE at_ (step s at_ x).1 xs else ((step s at_ x).1, false)
def estep (en : List Int) (s : σ) (at_ r : Int) : σ × Bool := if r = 10 then runE step at_ s en else step s at_ r
def expand (en : List Int) (us : List (Int × Int)) : List (Int × Int) := us.flatMap fun u => if u.2 = 10 then en.map (fun x => (u.1, x)) else [u]
variable {step}
theorem runE_go {at_ x : Int} {s : σ} {xs : List Int} (h : (step s at_ x).2 = true) : runE step at_ s (x :: xs) = runE step at_ (step s at_ x).1 xs := by
  show (if (step s at_ x).2 = true then _ else _) = _
  rw [h]; rfl
theorem runE_stop {at_ x : Int} {s : σ} {xs : List Int} (h : (step s at_ x).2 = false) : runE step at_ s (x :: xs) = ((step s at_ x).1, false) := by
  show (if (step s at_ x).2 = true then _ else _) = _
  rw [h]; rfl
theorem goV_go {a r : Int} {s : σ} {us : List (Int × Int)} (h : (step s a r).2 = true) : goV step s ((a, r) :: us) = goV step (step s a r).1 us := by
  show (if (step s a r).2 = true then _ else _) = _
  rw [h]; rfl
theorem goV_stop {a r : Int} {s : σ} {us : List (Int × Int)} (h : (step s a r).2 = false) : goV step s ((a, r) :: us) = ((step s a r).1, false) := by
  show (if (step s a r).2 = true then _ else _) = _
  rw [h]; rfl
theorem runV_append_true : ∀ (us vs : List (Int × Int)) (s : σ), runV step s (us ++ vs) = if (goV step s us).2 = true then runV step (goV step s us).1 vs else (goV step s us).1
  | [], vs, s => by simp [goV]
  | (a, r) :: us, vs, s => by
    rw [List.cons_append]
    cases h : (step s a r).2 with
    | true => rw [runV_go h, runV_append_true us vs, goV_go h]
    | false => rw [runV_stop h, goV_stop h]; simp
theorem goV_map (at_ : Int) : ∀ (en : List Int) (s : σ), goV step s (en.map fun x => (at_, x)) = runE step at_ s en
  | [], s => rfl
  | x :: en, s => by
    show (if (step s at_ x).2 = true then _ else _) = (if (step s at_ x).2 = true then _ else _)
    rw [goV_map at_ en]
theorem runV_expand (en : List Int) : ∀ (us : List (Int × Int)) (s : σ), runV (estep step en) s us = runV step s (expand en us)
  | [], s => rfl
  | (a, r) :: us, s => by
    have e : expand en ((a, r) :: us) = (if r = 10 then en.map (fun x => (a, x)) else [(a, r)]) ++ expand en us := by simp [expand]
    rw [e]
    by_cases h : r = 10
    · rw [if_pos h, runV_append_true, goV_map]
      have e2 : estep step en s a r = runE step a s en := by unfold estep; rw [if_pos h]
      cases k : (runE step a s en).2 with
      | true => rw [runV_go (by rw [e2]; exact k), e2, runV_expand en us, if_pos rfl]
      | false => rw [runV_stop (by rw [e2]; exact k), e2, if_neg (by decide)]
    · rw [if_neg h]
      have e2 : estep step en s a r = step s a r := by unfold estep; rw [if_neg h]
      show _ = runV step s ((a, r) :: expand en us)
      cases k : (step s a r).2 with
      | true => rw [runV_go (by rw [e2]; exact k), runV_go k, e2, runV_expand en us]
      | false => rw [runV_stop (by rw [e2]; exact k), runV_stop k, e2]
end
theorem perm_two (X : List Ck) (a b : Ck) : (X ++ [a, b]).Perm (a :: b :: X) := (List.perm_append_comm : (X ++ [a, b]).Perm ([a, b] ++ X))
end Go.Proofs.Ytcjgjbaadmohbaa
