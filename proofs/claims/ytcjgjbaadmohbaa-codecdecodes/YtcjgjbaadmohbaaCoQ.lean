/- The three modes: what is replaced and what is left out never fail, and what they come to. -/
import Derived.Test.YtcjgjbaadmohbaaCoN
namespace Go.Proofs.Ytcjgjbaadmohbaa
open Go.RowKit Go.Lib
set_option linter.unusedVariables false
set_option linter.unusedSimpArgs false

section
variable {σ : Type} {put : σ → Int → σ × Bool} {inst : Int}
theorem cstep_kept {m : Int} (hm : m ≠ 0) (x : σ × Int × Int) (at_ r : Int) : (cstep put m inst x at_ r).2 = true ∧ (cstep put m inst x at_ r).1.2 = x.2 := by
  unfold cstep
  rw [if_neg hm, if_neg hm]
  by_cases h1 : r = -1
  · rw [if_pos h1]
    split <;> exact ⟨rfl, rfl⟩
  · rw [if_neg h1]
    split
    · exact ⟨rfl, rfl⟩
    · split <;> exact ⟨rfl, rfl⟩
theorem never_fails {m : Int} (hm : m ≠ 0) : ∀ (us : List (Int × Int)) (x : σ × Int × Int), (runV (cstep put m inst) x us).2 = x.2
  | [], x => rfl
  | (a, r) :: us, x => by
    have h := cstep_kept (put := put) (inst := inst) hm x a r
    rw [runV_go h.1, never_fails hm us, h.2]
theorem cstep_zero (s : σ) (at_ r : Int) : (r ≠ -1 ∧ (put s r).2 = true) ∨ ((cstep put 0 inst (s, 0, 0) at_ r).2 = false ∧ (cstep put 0 inst (s, 0, 0) at_ r).1.2.2 = 6) := by
  by_cases h1 : r = -1
  · right; unfold cstep; rw [if_pos h1, if_pos rfl]; exact ⟨rfl, rfl⟩
  · cases h2 : (put s r).2 with
    | true => exact .inl ⟨h1, rfl⟩
    | false =>
      right
      unfold cstep
      rw [if_neg h1, if_neg (by rw [show (put (s, (0 : Int), (0 : Int)).1 r).2 = false from h2]; decide), if_pos rfl]
      exact ⟨rfl, rfl⟩
theorem cstep_put {m : Int} {s : σ} {at_ r : Int} (h1 : r ≠ -1) (h2 : (put s r).2 = true) : cstep put m inst (s, 0, 0) at_ r = (((put s r).1, 0, 0), true) := by
  unfold cstep
  rw [if_neg h1, if_pos (show (put (s, (0 : Int), (0 : Int)).1 r).2 = true from h2)]
theorem same_modes {m : Int} : ∀ (us : List (Int × Int)) (s : σ), (runV (cstep put 0 inst) (s, 0, 0) us).2.2 = 0 → runV (cstep put m inst) (s, 0, 0) us = runV (cstep put 0 inst) (s, 0, 0) us
  | [], s, _ => rfl
  | (a, r) :: us, s, h => by
    rcases cstep_zero (put := put) (inst := inst) s a r with ⟨h1, h2⟩ | ⟨h1, h2⟩
    · have e0 := cstep_put (m := 0) (inst := inst) (at_ := a) h1 h2
      have e1 := cstep_put (m := m) (inst := inst) (at_ := a) h1 h2
      rw [runV_go (by rw [e0]), e0] at h
      rw [runV_go (show (cstep put m inst (s, 0, 0) a r).2 = true by rw [e1]), e1, runV_go (show (cstep put 0 inst (s, 0, 0) a r).2 = true by rw [e0]), e0]
      exact same_modes us _ h
    · rw [runV_stop h1, h2] at h
      exact absurd h (by decide)
theorem raise_vals : ∀ (us : List (Int × Int)) (s : σ), (runV (cstep put 0 inst) (s, 0, 0) us).2.2 = 0 ∨ (runV (cstep put 0 inst) (s, 0, 0) us).2.2 = 6
  | [], s => .inl rfl
  | (a, r) :: us, s => by
    rcases cstep_zero (put := put) (inst := inst) s a r with ⟨h1, h2⟩ | ⟨h1, h2⟩
    · have e0 := cstep_put (m := 0) (inst := inst) (at_ := a) h1 h2
      rw [runV_go (by rw [e0]), e0]
      exact raise_vals us _
    · rw [runV_stop h1]
      exact .inr h2
end
/-- What is left out of a written text is what is replaced. -/
theorem enc_shorter {c inst : Int} : ∀ (us : List (Int × Int)) (xs ys : List UInt8), xs.length ≤ ys.length → (runV (cstep (putC c) 2 inst) (xs, 0, 0) us).1.length ≤ (runV (cstep (putC c) 1 inst) (ys, 0, 0) us).1.length
  | [], xs, ys, h => h
  | (a, r) :: us, xs, ys, h => by
    have k2 := cstep_kept (put := putC c) (inst := inst) (m := 2) (by decide) (xs, 0, 0) a r
    have k1 := cstep_kept (put := putC c) (inst := inst) (m := 1) (by decide) (ys, 0, 0) a r
    rw [runV_go k2.1, runV_go k1.1]
    have mono : ∀ zs : List UInt8, zs.length ≤ (putC c zs inst).1.length := fun zs => by
      cases hh : hasS c inst with
      | true => rw [putC_yes hh]; simp only [List.length_append]; omega
      | false => rw [putC_no hh]; exact Nat.le_refl _
    have e2 : ∃ xs', (cstep (putC c) 2 inst (xs, 0, 0) a r).1 = (xs', 0, 0) := ⟨_, Prod.ext rfl k2.2⟩
    have e1 : ∃ ys', (cstep (putC c) 1 inst (ys, 0, 0) a r).1 = (ys', 0, 0) := ⟨_, Prod.ext rfl k1.2⟩
    obtain ⟨xs', e2⟩ := e2
    obtain ⟨ys', e1⟩ := e1
    have hle : (cstep (putC c) 2 inst (xs, 0, 0) a r).1.1.length ≤ (cstep (putC c) 1 inst (ys, 0, 0) a r).1.1.length := by
      unfold cstep
      by_cases h1 : r = -1
      · rw [if_pos h1, if_pos h1, if_neg (by decide), if_neg (by decide), if_neg (by decide), if_pos rfl]
        exact Nat.le_trans h (mono ys)
      · rw [if_neg h1, if_neg h1]
        cases h2 : hasS c r with
        | true =>
          rw [if_pos (show (putC c (xs, (0 : Int), (0 : Int)).1 r).2 = true by rw [putC_yes h2]), if_pos (show (putC c (ys, (0 : Int), (0 : Int)).1 r).2 = true by rw [putC_yes h2])]
          simp only [putC_yes h2, List.length_append]
          omega
        | false =>
          rw [if_neg (show ¬ (putC c (xs, (0 : Int), (0 : Int)).1 r).2 = true by rw [putC_no h2]; exact Bool.false_ne_true), if_neg (show ¬ (putC c (ys, (0 : Int), (0 : Int)).1 r).2 = true by rw [putC_no h2]; exact Bool.false_ne_true), if_neg (by decide), if_neg (by decide), if_neg (by decide), if_pos rfl]
          simp only [putC_no h2]
          exact Nat.le_trans h (mono ys)
    rw [e2, e1] at hle ⊢
    exact enc_shorter us xs' ys' hle
/-- A character that is written reads as it was. -/
theorem decode_enc {r : Int} (h0 : 0 ≤ r) (h1 : r ≤ 1114111) (h2 : ¬ (55296 ≤ r ∧ r ≤ 57343)) (m : List UInt8) : decodeL (encodeRune r ++ m) = (r.toNat, (encodeRune r).length) := by
  rw [decodeL_N]
  by_cases a : r ≤ 127
  · have e : encodeRune r = [b8 r] := by unfold encodeRune; rw [encodeRuneZ_one h0 a]; rfl
    have v0 := b8_val (z := r) h0 (by omega)
    rw [e]
    simp only [List.cons_append, List.nil_append, List.getD_cons_zero, List.length_cons, List.length_nil]
    unfold decodeN
    rw [if_pos (by omega)]
    congr 1
    omega
  by_cases b : r ≤ 2047
  · have e : encodeRune r = [b8 (192 + r / 64), b8 (128 + r % 64)] := by unfold encodeRune; rw [encodeRuneZ_two (by omega) b]; rfl
    have v0 := b8_val (z := 192 + r / 64) (by omega) (by omega)
    have v1 := b8_val (z := 128 + r % 64) (by omega) (by omega)
    rw [e]
    simp only [List.cons_append, List.nil_append, List.getD_cons_zero, List.getD_cons_succ, List.length_cons, List.length_nil]
    unfold decodeN
    rw [if_neg (by omega), if_pos ⟨by omega, by omega, by omega⟩, if_pos (by omega)]
    congr 1
    omega
  by_cases d : r ≤ 65535
  · have e : encodeRune r = [b8 (224 + r / 4096), b8 (128 + r / 64 % 64), b8 (128 + r % 64)] := by unfold encodeRune; rw [encodeRuneZ_three (by omega)]; rfl
    have v0 := b8_val (z := 224 + r / 4096) (by omega) (by omega)
    have v1 := b8_val (z := 128 + r / 64 % 64) (by omega) (by omega)
    have v2 := b8_val (z := 128 + r % 64) (by omega) (by omega)
    rw [e]
    simp only [List.cons_append, List.nil_append, List.getD_cons_zero, List.getD_cons_succ, List.length_cons, List.length_nil]
    unfold decodeN
    rw [if_neg (by omega), if_neg (by omega), if_pos ⟨by omega, ⟨by omega, by omega⟩, by omega, by omega⟩, if_pos (by omega)]
    congr 1
    omega
  · have e : encodeRune r = [b8 (240 + r / 262144), b8 (128 + r / 4096 % 64), b8 (128 + r / 64 % 64), b8 (128 + r % 64)] := by unfold encodeRune; rw [encodeRuneZ_four (by omega) h1]; rfl
    have v0 := b8_val (z := 240 + r / 262144) (by omega) (by omega)
    have v1 := b8_val (z := 128 + r / 4096 % 64) (by omega) (by omega)
    have v2 := b8_val (z := 128 + r / 64 % 64) (by omega) (by omega)
    have v3 := b8_val (z := 128 + r % 64) (by omega) (by omega)
    rw [e]
    simp only [List.cons_append, List.nil_append, List.getD_cons_zero, List.getD_cons_succ, List.length_cons, List.length_nil]
    unfold decodeN
    rw [if_neg (by omega), if_neg (by omega), if_neg (by omega), if_pos ⟨by omega, ⟨by omega, by omega⟩, ⟨by omega, by omega⟩, by omega, by omega⟩, if_pos (by omega)]
    congr 1
    omega
/-- A character. -/
def OkC (r : Int) : Prop := 0 ≤ r ∧ r ≤ 1114111 ∧ ¬ (55296 ≤ r ∧ r ≤ 57343)
def encs (rs : List Int) : List UInt8 := rs.flatMap encodeRune
theorem enc_some {r : Int} (h : OkC r) : encodeRune r ≠ [] := by
  intro e
  have h1 := decode_enc h.1 h.2.1 h.2.2 [65]
  rw [e] at h1
  have h2 := (decode_wide ([] ++ [65]) (by simp)).1
  rw [h1] at h2
  exact absurd h2 (by simp)
/-- The line ends of characters, made plain. -/
def plR : Int → List Int → List UInt8
  | _, [] => []
  | a, r :: rs => (if a = 13 ∧ (r = 10 ∨ r = 133) then [] else if endsF.endLB r = true then encodeRune 10 else encodeRune r) ++ plR r rs
theorem ends_encs : ∀ (rs : List Int) (f : Nat) (a : Int), (∀ r ∈ rs, OkC r) → (encs rs).length ≤ f → endsF f a (encs rs) = plR a rs
  | [], f, a, _, _ => by
    cases f with
    | zero => rfl
    | succ f => unfold endsF; exact if_pos rfl
  | r :: rs, f, a, h, hf => by
    have hr := h r List.mem_cons_self
    have e : encs (r :: rs) = encodeRune r ++ encs rs := rfl
    have hne : encs (r :: rs) ≠ [] := fun k => enc_some hr (List.append_eq_nil_iff.1 (e ▸ k)).1
    have hd := decode_enc hr.1 hr.2.1 hr.2.2 (encs rs)
    rw [e, List.length_append] at hf
    have hp := List.length_pos_iff.2 (enc_some hr)
    obtain ⟨g, rfl⟩ : ∃ g, f = g + 1 := ⟨f - 1, by omega⟩
    conv => lhs; unfold endsF
    rw [if_neg hne, e, hd]
    simp only
    rw [List.drop_left, ends_encs rs g _ (fun r' hr' => h r' (List.mem_cons_of_mem _ hr')) (by omega)]
    have hi : ((r.toNat : Nat) : Int) = r := Int.toNat_of_nonneg hr.1
    rw [hi]
    show _ = (if a = 13 ∧ (r = 10 ∨ r = 133) then [] else if endsF.endLB r = true then encodeRune 10 else encodeRune r) ++ plR r rs
    congr 1
    have q1 : (r.toNat = 10 ∨ r.toNat = 133) ↔ (r = 10 ∨ r = 133) := by omega
    simp only [q1]
theorem plain_encs {rs : List Int} (h : ∀ r ∈ rs, OkC r) : plainE (encs rs) = plR 0 rs := ends_encs rs _ 0 h (Nat.le_refl _)
/-- The units as replaced, and as left out. -/
def repU (us : List (Int × Int)) : List Int := us.map fun u => if u.2 = -1 then 65533 else u.2
def ignU (us : List (Int × Int)) : List Int := us.filterMap fun u => if u.2 = -1 then none else some u.2
theorem run_rep : ∀ (us : List (Int × Int)) (xs : List UInt8), runV (cstep putB 1 65533) (xs, 0, 0) us = (xs ++ encs (repU us), 0, 0)
  | [], xs => by simp [runV, repU, encs]
  | (a, r) :: us, xs => by
    have e : cstep putB 1 65533 (xs, 0, 0) a r = ((xs ++ encodeRune (if r = -1 then 65533 else r), 0, 0), true) := by
      unfold cstep
      by_cases h : r = -1
      · rw [if_pos h, if_neg (by decide), if_pos rfl, if_pos h]; rfl
      · rw [if_neg h, if_neg h]; exact if_pos rfl
    rw [runV_go (by rw [e]), e, run_rep us]
    simp [repU, encs]
theorem run_ign : ∀ (us : List (Int × Int)) (xs : List UInt8), runV (cstep putB 2 65533) (xs, 0, 0) us = (xs ++ encs (ignU us), 0, 0)
  | [], xs => by simp [runV, ignU, encs]
  | (a, r) :: us, xs => by
    by_cases h : r = -1
    · have e : cstep putB 2 65533 (xs, 0, 0) a r = ((xs, 0, 0), true) := by
        unfold cstep
        rw [if_pos h, if_neg (by decide), if_neg (by decide)]
      rw [runV_go (by rw [e]), e, run_ign us]
      simp [ignU, encs, h]
    · have e : cstep putB 2 65533 (xs, 0, 0) a r = ((xs ++ encodeRune r, 0, 0), true) := by
        unfold cstep
        rw [if_neg h]; exact if_pos rfl
      rw [runV_go (by rw [e]), e, run_ign us]
      simp [ignU, encs, h]
theorem encs_shorter : ∀ us : List (Int × Int), (encs (ignU us)).length ≤ (encs (repU us)).length
  | [] => Nat.le_refl _
  | (a, r) :: us => by
    have ih := encs_shorter us
    by_cases h : r = -1
    · have e1 : ignU ((a, r) :: us) = ignU us := by simp [ignU, h]
      have e2 : repU ((a, r) :: us) = 65533 :: repU us := by simp [repU, h]
      rw [e1, e2, show encs (65533 :: repU us) = encodeRune 65533 ++ encs (repU us) from rfl, List.length_append]
      omega
    · have e1 : ignU ((a, r) :: us) = r :: ignU us := by simp [ignU, h]
      have e2 : repU ((a, r) :: us) = r :: repU us := by simp [repU, h]
      rw [e1, e2, show encs (r :: repU us) = encodeRune r ++ encs (repU us) from rfl, show encs (r :: ignU us) = encodeRune r ++ encs (ignU us) from rfl, List.length_append, List.length_append]
      omega
theorem plain_shorter : ∀ (us : List (Int × Int)) (a a' : Int), (a' = a ∨ a' = 65533) → (plR a (ignU us)).length ≤ (plR a' (repU us)).length
  | [], a, a', _ => Nat.le_refl _
  | (p, r) :: us, a, a', h => by
    by_cases k : r = -1
    · have e1 : ignU ((p, r) :: us) = ignU us := by simp [ignU, k]
      have e2 : repU ((p, r) :: us) = 65533 :: repU us := by simp [repU, k]
      rw [e1, e2]
      show _ ≤ (_ ++ plR 65533 (repU us)).length
      rw [List.length_append]
      have := plain_shorter us a 65533 (.inr rfl)
      omega
    · have e1 : ignU ((p, r) :: us) = r :: ignU us := by simp [ignU, k]
      have e2 : repU ((p, r) :: us) = r :: repU us := by simp [repU, k]
      rw [e1, e2]
      show (_ ++ plR r (ignU us)).length ≤ (_ ++ plR r (repU us)).length
      rw [List.length_append, List.length_append]
      have := plain_shorter us r r (.inl rfl)
      rcases h with rfl | rfl
      · omega
      · rw [if_neg (show ¬ ((65533 : Int) = 13 ∧ (r = 10 ∨ r = 133)) by omega)]
        split
        · simp only [List.length_nil]; omega
        · omega
/-- Each unit is a character, or a fault. -/
theorem units_okG {f : List UInt8 → Int × Nat} (hf : ∀ l, OkU (f l).1) : ∀ (n p : Nat) (l : List UInt8), ∀ u ∈ unitsG f n p l, OkU u.2
  | 0, _, _ => by intro u hu; cases hu
  | n + 1, p, l => by
    intro u hu
    by_cases h : l = []
    · rw [h, unitsG_nil] at hu; cases hu
    · rw [unitsG_cons h] at hu
      rcases List.mem_cons.1 hu with rfl | hu
      · exact hf l
      · exact units_okG hf n _ _ u hu
theorem units_okB : ∀ (l : List UInt8) (p : Nat), ∀ u ∈ unitsB p l, OkU u.2
  | [], _ => by intro u hu; cases hu
  | b :: t, p => by
    intro u hu
    rcases List.mem_cons.1 hu with rfl | hu
    · have := b.toNat_lt
      right
      simp only
      omega
    · exact units_okB t _ u hu
theorem units_ok (c : Int) (l : List UInt8) : ∀ u ∈ unitsC c l, OkU u.2 := by
  have hi : ∀ a b : Nat, a < 256 → b < 256 → hi2 a b < 65536 := fun a b h1 h2 => by unfold hi2; omega
  have lo : ∀ a b : Nat, a < 256 → b < 256 → lo2 a b < 65536 := fun a b h1 h2 => by unfold lo2; omega
  have h8 : ∀ l, OkU (rdU l).1 := fun l => by
    have := decode_okN l
    unfold rdU uR OkU
    simp only
    split
    · exact .inl rfl
    · right; omega
  unfold unitsC
  split
  · unfold unitsU; rw [unitsG_utf8]; exact units_okG h8 _ _ _
  · split
    · exact units_okB l 0
    · split
      · unfold unitsW
        split
        · rw [unitsG_16]; exact units_okG (first16_ok hi) _ _ _
        · split
          · rw [unitsG_16]; exact units_okG (first16_ok lo) _ _ _
          · rw [unitsG_16]; exact units_okG (first16_ok hi) _ _ _
      · intro u hu; cases hu
theorem rep_ok {us : List (Int × Int)} (h : ∀ u ∈ us, OkU u.2) : ∀ r ∈ repU us, OkC r := by
  intro r hr
  obtain ⟨u, hu, rfl⟩ := List.mem_map.1 hr
  have := h u hu
  unfold OkU at this
  unfold OkC
  split <;> omega
theorem ign_ok {us : List (Int × Int)} (h : ∀ u ∈ us, OkU u.2) : ∀ r ∈ ignU us, OkC r := by
  intro r hr
  obtain ⟨u, hu, hk⟩ := List.mem_filterMap.1 hr
  have := h u hu
  unfold OkU at this
  unfold OkC
  split at hk
  · cases hk
  · cases hk; omega
theorem check_mode {c k m : Int} (h : checkS c k 0 = 0) (h0 : 0 ≤ m) (h2 : m ≤ 2) : checkS c k m = 0 := by
  unfold checkS at *
  split at h
  · rw [if_pos (by omega)]
  · cases h
section
variable {c k : Int}
theorem decS_fine {m : Int} {l : List UInt8} (hc : checkS c k 0 = 0) (h0 : 0 ≤ m) (h2 : m ≤ 2) (hl : l.length ≤ 65536) (he : (decR c m l).2.2 = 0) : decS c k m l = (if k = 0 then (decR c m l).1 else plainE (decR c m l).1, 0, 0) := by
  unfold decS
  rw [if_neg (by rw [refS_zero hl (check_mode hc h0 h2)]; decide), if_neg (by rw [he]; decide)]
  split <;> rfl
theorem dec_modes {l : List UInt8} (hc : checkS c k 0 = 0) (hl : l.length ≤ 65536) : (decS c k 1 l).2 = (0, 0) ∧ (decS c k 2 l).2 = (0, 0) ∧ ((decS c k 0 l).2.2 = 0 ∨ (decS c k 0 l).2.2 = 6) ∧ ((decS c k 0 l).2.2 = 0 → (decS c k 0 l).1 = (decS c k 1 l).1 ∧ (decS c k 0 l).1 = (decS c k 2 l).1) ∧ (decS c k 2 l).1.length ≤ (decS c k 1 l).1.length := by
  have n1 : (decR c 1 l).2 = (0, 0) := never_fails (by decide) _ _
  have n2 : (decR c 2 l).2 = (0, 0) := never_fails (by decide) _ _
  have f1 := decS_fine (k := k) (m := 1) hc (by decide) (by decide) hl (by rw [n1])
  have f2 := decS_fine (k := k) (m := 2) hc (by decide) (by decide) hl (by rw [n2])
  have v := raise_vals (put := putB) (inst := 65533) (unitsC c l) []
  have hr := refS_zero hl hc
  refine ⟨by rw [f1], by rw [f2], ?_, fun h => ?_, ?_⟩
  · unfold decS
    rw [if_neg (by rw [hr]; decide)]
    split
    · exact v
    · split <;> exact .inl rfl
  · have he : (decR c 0 l).2.2 = 0 := by
      rcases v with v | v
      · exact v
      · unfold decS at h
        rw [if_neg (by rw [hr]; decide), if_pos (show (decR c 0 l).2.2 ≠ 0 from by rw [show (decR c 0 l).2.2 = 6 from v]; decide)] at h
        exact h
    have f0 := decS_fine (k := k) (m := 0) hc (by decide) (by decide) hl he
    have s1 : decR c 1 l = decR c 0 l := same_modes _ _ he
    have s2 : decR c 2 l = decR c 0 l := same_modes _ _ he
    rw [f0, f1, f2, s1, s2]
    exact ⟨rfl, rfl⟩
  · have e1 : (decR c 1 l).1 = encs (repU (unitsC c l)) := by unfold decR; rw [run_rep]; rfl
    have e2 : (decR c 2 l).1 = encs (ignU (unitsC c l)) := by unfold decR; rw [run_ign]; rfl
    rw [f1, f2, e1, e2]
    simp only
    by_cases hk : k = 0
    · rw [if_pos hk, if_pos hk]; exact encs_shorter _
    · rw [if_neg hk, if_neg hk, plain_encs (rep_ok (units_ok c l)), plain_encs (ign_ok (units_ok c l))]
      exact plain_shorter _ 0 0 (.inl rfl)
theorem encS_fine {m : Int} {s : ByteArray} (hc : checkS c k 0 = 0) (h0 : 0 ≤ m) (h2 : m ≤ 2) (hl : s.size ≤ 65536) (he : (encR c k m s).2.2 = 0) : encS c k m s = ((encR c k m s).1, 0, 0) := by
  unfold encS
  rw [if_neg (by rw [refS_zero hl (check_mode hc h0 h2)]; decide), if_neg (by rw [he]; decide)]
theorem enc_modes {s : ByteArray} (hc : checkS c k 0 = 0) (hl : s.size ≤ 65536) : (encS c k 1 s).2 = (0, 0) ∧ (encS c k 2 s).2 = (0, 0) ∧ ((encS c k 0 s).2.2 = 0 ∨ (encS c k 0 s).2.2 = 6) ∧ ((encS c k 0 s).2.2 = 0 → (encS c k 0 s).1 = (encS c k 1 s).1 ∧ (encS c k 0 s).1 = (encS c k 2 s).1) ∧ (encS c k 2 s).1.length ≤ (encS c k 1 s).1.length := by
  have n1 : (encR c k 1 s).2 = (0, 0) := never_fails (by decide) _ _
  have n2 : (encR c k 2 s).2 = (0, 0) := never_fails (by decide) _ _
  have f1 := encS_fine (k := k) (m := 1) hc (by decide) (by decide) hl (by rw [n1])
  have f2 := encS_fine (k := k) (m := 2) hc (by decide) (by decide) hl (by rw [n2])
  have v := raise_vals (put := putC c) (inst := subS c) (expand (charsL (lineEndS k).data.toList) (unitsU s.data.toList)) []
  have hr := refS_zero hl hc
  refine ⟨by rw [f1], by rw [f2], ?_, fun h => ?_, ?_⟩
  · unfold encS
    rw [if_neg (by rw [hr]; decide)]
    split
    · exact v
    · exact .inl rfl
  · have he : (encR c k 0 s).2.2 = 0 := by
      rcases v with v | v
      · exact v
      · unfold encS at h
        rw [if_neg (by rw [hr]; decide), if_pos (show (encR c k 0 s).2.2 ≠ 0 from by rw [show (encR c k 0 s).2.2 = 6 from v]; decide)] at h
        exact h
    have f0 := encS_fine (k := k) (m := 0) hc (by decide) (by decide) hl he
    have s1 : encR c k 1 s = encR c k 0 s := same_modes _ _ he
    have s2 : encR c k 2 s = encR c k 0 s := same_modes _ _ he
    rw [f0, f1, f2, s1, s2]
    exact ⟨rfl, rfl⟩
  · rw [f1, f2]
    exact enc_shorter _ [] [] (Nat.le_refl _)
end
end Go.Proofs.Ytcjgjbaadmohbaa
