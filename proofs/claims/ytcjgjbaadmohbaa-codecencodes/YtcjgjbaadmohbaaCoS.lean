/- What is written reads as it was. -/
import Derived.Test.YtcjgjbaadmohbaaCoQ
import Derived.Lib.MapLaws
namespace Go.Proofs.Ytcjgjbaadmohbaa
open Go.RowKit Go.Lib
set_option linter.unusedVariables false
set_option linter.unusedSimpArgs false

theorem uR_plain {r q : Nat} (h : uR r q ≠ -1) : uR r q = (r : Int) := by
  unfold uR at *
  split
  · rename_i k; rw [if_pos k] at h; exact absurd rfl h
  · rfl
/-- A text without bad bytes is what its characters are written as. -/
theorem text_runesF : ∀ (f p : Nat) (l : List UInt8), l.length ≤ f → (∀ r ∈ (unitsF f p l).map Prod.snd, r ≠ -1) → encs ((unitsF f p l).map Prod.snd) = l ∧ charsF f l = (unitsF f p l).map Prod.snd
  | 0, p, l, h, _ => by
    have : l = [] := List.length_eq_zero_iff.1 (by omega)
    subst this
    exact ⟨rfl, rfl⟩
  | f + 1, p, l, h, hok => by
    by_cases hl : l = []
    · subst hl
      have e : unitsF (f + 1) p ([] : List UInt8) = [] := by unfold unitsF; rw [if_pos rfl]
      rw [e]
      exact ⟨rfl, by unfold charsF; rw [if_pos rfl]; rfl⟩
    · have hw := decode_wide l hl
      rw [unitsF_cons hl, List.map_cons] at hok ⊢
      have h0 := hok _ List.mem_cons_self
      have e := uR_plain h0
      obtain ⟨ih1, ih2⟩ := text_runesF f (p + (decodeL l).2) (l.drop (decodeL l).2) (by rw [List.length_drop]; omega) (fun r hr => hok r (List.mem_cons_of_mem _ hr))
      refine ⟨?_, ?_⟩
      · show encodeRune (uR (decodeL l).1 (decodeL l).2) ++ encs _ = l
        rw [ih1, e, encode_decode l hl (fun k => h0 (by unfold uR; rw [if_pos ⟨k.1, by omega⟩])), List.take_append_drop]
      · conv => lhs; unfold charsF
        rw [if_neg hl, ih2]
        simp only
        rw [e]
theorem text_runes {l : List UInt8} (h : ∀ r ∈ runes l, r ≠ -1) : encs (runes l) = l ∧ charsL l = runes l := text_runesF l.length 0 l (Nat.le_refl _) h
theorem runes_ok {l : List UInt8} (h : ∀ r ∈ runes l, r ≠ -1) : ∀ r ∈ runes l, OkC r := by
  intro r hr
  have h1 := h r hr
  obtain ⟨u, hu, rfl⟩ := List.mem_map.1 hr
  have := units_ok 1 l u (by unfold unitsC; rw [if_pos rfl]; exact hu)
  unfold OkU at this
  unfold OkC
  omega
/-- What is written by pieces that a reader takes one by one, it reads as it was. -/
theorem units_back {f : List UInt8 → Int × Nat} {en : Int → List UInt8} : ∀ (ws : List Int) (n p : Nat), (∀ r ∈ ws, en r ≠ [] ∧ ∀ m, f (en r ++ m) = (r, (en r).length)) → (ws.flatMap en).length ≤ n → (unitsG f n p (ws.flatMap en)).map Prod.snd = ws
  | [], n, p, _, _ => by rw [List.flatMap_nil, unitsG_nil]; rfl
  | r :: ws, n, p, h, hn => by
    obtain ⟨h1, h2⟩ := h r List.mem_cons_self
    rw [List.flatMap_cons] at hn ⊢
    rw [List.length_append] at hn
    have hp := List.length_pos_iff.2 h1
    have hne : en r ++ ws.flatMap en ≠ [] := fun k => h1 (List.append_eq_nil_iff.1 k).1
    obtain ⟨m, rfl⟩ : ∃ m, n = m + 1 := ⟨n - 1, by omega⟩
    rw [unitsG_cons hne, h2, List.map_cons]
    simp only
    rw [List.drop_left, units_back ws m _ (fun r' hr' => h r' (List.mem_cons_of_mem _ hr')) (by omega)]
theorem back_utf8 {r : Int} (h : OkC r) : encodeRune r ≠ [] ∧ ∀ m, rdU (encodeRune r ++ m) = (r, (encodeRune r).length) := by
  refine ⟨enc_some h, fun m => ?_⟩
  unfold rdU
  rw [decode_enc h.1 h.2.1 h.2.2]
  simp only
  have hi : ((r.toNat : Nat) : Int) = r := Int.toNat_of_nonneg h.1
  have : uR r.toNat (encodeRune r).length = r := by
    unfold uR
    split
    · rename_i k
      have e : r = 65533 := by omega
      subst e
      exact absurd (show (encodeRune 65533).length = 3 by decide) k.2
    · exact hi
  rw [this]
theorem enc16_small {r : Int} (h : r < 65536) : encC 3 r = [b8 (r / 256), b8 (r % 256)] := by
  unfold encC
  rw [if_neg (by decide), if_pos rfl, if_pos h]
theorem enc16_great {r : Int} (h : ¬ r < 65536) : encC 3 r = [b8 (hiH r / 256), b8 (hiH r % 256), b8 (loH r / 256), b8 (loH r % 256)] := by
  unfold encC
  rw [if_neg (by decide), if_pos rfl, if_neg h]
theorem back_utf16 {r : Int} (h : OkC r) : encC 3 r ≠ [] ∧ ∀ m, first16 hi2 (encC 3 r ++ m) = (r, (encC 3 r).length) := by
  obtain ⟨h0, h1, h2⟩ := h
  by_cases k : r < 65536
  · rw [enc16_small k]
    refine ⟨by simp, fun m => ?_⟩
    have v0 := b8_val (z := r / 256) (by omega) (by omega)
    have v1 := b8_val (z := r % 256) (by omega) (by omega)
    unfold first16 hi2
    simp only [List.cons_append, List.nil_append, List.getD_cons_zero, List.getD_cons_succ, List.length_cons, List.length_nil]
    rw [if_neg (by omega), if_pos (by omega)]
    congr 1
    omega
  · rw [enc16_great k]
    refine ⟨by simp, fun m => ?_⟩
    have k1 : hiH r = 55296 + (r - 65536) / 1024 := rfl
    have k2 : loH r = 56320 + (r - 65536) % 1024 := rfl
    have v0 := b8_val (z := hiH r / 256) (by omega) (by omega)
    have v1 := b8_val (z := hiH r % 256) (by omega) (by omega)
    have v2 := b8_val (z := loH r / 256) (by omega) (by omega)
    have v3 := b8_val (z := loH r % 256) (by omega) (by omega)
    unfold first16 hi2
    simp only [List.cons_append, List.nil_append, List.getD_cons_zero, List.getD_cons_succ, List.length_cons, List.length_nil]
    rw [if_neg (by omega), if_neg (by omega), if_pos ⟨by omega, by omega, by omega, by omega⟩]
    refine Prod.ext ?_ rfl
    show ((_ : Nat) : Int) = r
    omega
theorem back_latin : ∀ (ws : List Int) (p : Nat), (∀ r ∈ ws, 0 ≤ r ∧ r ≤ 255) → (unitsB p (ws.flatMap (encC 2))).map Prod.snd = ws
  | [], p, _ => rfl
  | r :: ws, p, h => by
    have hr := h r List.mem_cons_self
    have e : encC 2 r = [b8 r] := by unfold encC; rw [if_pos rfl]
    have e2 : ∀ (b : UInt8) (t : List UInt8), (unitsB p (b :: t)).map Prod.snd = ((b.toNat : Nat) : Int) :: (unitsB (p + 1) t).map Prod.snd := fun b t => rfl
    rw [List.flatMap_cons, e, List.singleton_append, e2, back_latin ws _ (fun r' hr' => h r' (List.mem_cons_of_mem _ hr')), b8_val hr.1 (by omega)]
/-- No mark stands ahead. -/
theorem no_mark {ws : List Int} (hw : ∀ r ∈ ws, OkC r) (hh : ∀ r, ws.head? = some r → r ≠ 65279 ∧ r ≠ 65534) : hasPrefix (ws.flatMap (encC 3)) [254, 255] = false ∧ hasPrefix (ws.flatMap (encC 3)) [255, 254] = false := by
  cases ws with
  | nil => exact ⟨rfl, rfl⟩
  | cons r ws =>
    obtain ⟨h0, h1, h2⟩ := hw r List.mem_cons_self
    have hr := hh r rfl
    have key : ∀ (a b x y : UInt8) (t : List UInt8), hasPrefix (a :: b :: t) [x, y] = true → a = x ∧ b = y := fun a b x y t h => by
      have := hasPrefix_iff.1 h
      rw [List.cons_prefix_cons, List.cons_prefix_cons] at this
      exact ⟨this.1.symm, this.2.1.symm⟩
    rw [List.flatMap_cons]
    have neq : ∀ x y : UInt8, ((x = 254 ∧ y = 255) ∨ (x = 255 ∧ y = 254)) → hasPrefix (encC 3 r ++ ws.flatMap (encC 3)) [x, y] = false := fun x y hxy => by
      cases e : hasPrefix (encC 3 r ++ ws.flatMap (encC 3)) [x, y] with
      | false => rfl
      | true =>
        exfalso
        by_cases k : r < 65536
        · rw [enc16_small k] at e
          obtain ⟨e1, e2⟩ := key _ _ _ _ _ e
          have v0 := b8_val (z := r / 256) (by omega) (by omega)
          have v1 := b8_val (z := r % 256) (by omega) (by omega)
          rw [e1] at v0
          rw [e2] at v1
          rcases hxy with ⟨rfl, rfl⟩ | ⟨rfl, rfl⟩
          · have a1 : ((254 : UInt8).toNat : Int) = 254 := rfl
            have a2 : ((255 : UInt8).toNat : Int) = 255 := rfl
            omega
          · have a1 : ((254 : UInt8).toNat : Int) = 254 := rfl
            have a2 : ((255 : UInt8).toNat : Int) = 255 := rfl
            omega
        · rw [enc16_great k] at e
          obtain ⟨e1, e2⟩ := key _ _ _ _ _ e
          have k1 : hiH r = 55296 + (r - 65536) / 1024 := rfl
          have v0 := b8_val (z := hiH r / 256) (by omega) (by omega)
          rw [e1] at v0
          rcases hxy with ⟨rfl, rfl⟩ | ⟨rfl, rfl⟩
          · have a1 : ((254 : UInt8).toNat : Int) = 254 := rfl
            omega
          · have a2 : ((255 : UInt8).toNat : Int) = 255 := rfl
            omega
    exact ⟨neq 254 255 (.inl ⟨rfl, rfl⟩), neq 255 254 (.inr ⟨rfl, rfl⟩)⟩
theorem run_dec0 {inst : Int} : ∀ (us : List (Int × Int)) (xs : List UInt8), (∀ r ∈ us.map Prod.snd, r ≠ -1) → runV (cstep putB 0 inst) (xs, 0, 0) us = (xs ++ encs (us.map Prod.snd), 0, 0)
  | [], xs, _ => by simp [runV, encs]
  | (a, r) :: us, xs, h => by
    have e := cstep_put (put := putB) (m := 0) (inst := inst) (s := xs) (at_ := a) (r := r) (h r (by simp)) rfl
    rw [runV_go (by rw [e]), e, run_dec0 us _ (fun r' hr => h r' (by rw [List.map_cons]; exact List.mem_cons_of_mem _ hr))]
    simp [putB, encs]
/-- The line ends that are written. -/
def IsEnd (en : List Int) : Prop := en = [10] ∨ en = [13] ∨ en = [13, 10] ∨ en = [133] ∨ en = [8232]
theorem end_chars (k : Int) : IsEnd (charsL (lineEndS k).data.toList) ∧ (k = 0 → charsL (lineEndS k).data.toList = [10]) := by
  unfold lineEndS
  by_cases h2 : k = 2
  · rw [if_pos h2]; exact ⟨.inr (.inl (by decide +kernel)), fun h => by omega⟩
  rw [if_neg h2]
  by_cases h3 : k = 3
  · rw [if_pos h3]; exact ⟨.inr (.inr (.inl (by decide +kernel))), fun h => by omega⟩
  rw [if_neg h3]
  by_cases h4 : k = 4
  · rw [if_pos h4]; exact ⟨.inr (.inr (.inr (.inl (by decide +kernel)))), fun h => by omega⟩
  rw [if_neg h4]
  by_cases h5 : k = 5
  · rw [if_pos h5]; exact ⟨.inr (.inr (.inr (.inr (by decide +kernel)))), fun h => by omega⟩
  rw [if_neg h5]
  exact ⟨.inl (by decide +kernel), fun _ => by decide +kernel⟩
theorem exR_ten (rs : List Int) : exR [10] rs = rs := by
  unfold exR
  induction rs with
  | nil => rfl
  | cons r rs ih =>
    rw [List.flatMap_cons, ih]
    split
    · rename_i h; subst h; rfl
    · rfl
theorem exR_cons (en : List Int) (r : Int) (rs : List Int) : exR en (r :: rs) = (if r = 10 then en else [r]) ++ exR en rs := rfl
theorem exR_ok {en rs : List Int} (he : IsEnd en) (h : ∀ r ∈ rs, OkC r) : ∀ r ∈ exR en rs, OkC r := by
  intro r hr
  obtain ⟨r', hr', hk⟩ := List.mem_flatMap.1 hr
  split at hk
  · rcases he with rfl | rfl | rfl | rfl | rfl <;> simp at hk <;> unfold OkC <;> omega
  · rw [List.mem_singleton.1 hk]; exact h r' hr'
theorem exR_head {en rs : List Int} (he : IsEnd en) (h : ∀ r, rs.head? = some r → r ≠ 65279 ∧ r ≠ 65534) : ∀ r, (exR en rs).head? = some r → r ≠ 65279 ∧ r ≠ 65534 := by
  intro r hr
  cases rs with
  | nil => cases hr
  | cons r0 rs =>
    rw [exR_cons] at hr
    split at hr
    · rcases he with rfl | rfl | rfl | rfl | rfl <;> simp at hr <;> omega
    · simp at hr
      subst hr
      exact h _ rfl
theorem endLB_iff (r : Int) : endsF.endLB r = true ↔ (r = 10 ∨ r = 13 ∨ r = 133 ∨ r = 8232) := by
  unfold endsF.endLB
  simp
theorem plain_back {en : List Int} (he : IsEnd en) : ∀ (rs : List Int) (a : Int), (∀ r ∈ rs, r ≠ 13 ∧ r ≠ 133 ∧ r ≠ 8232) → (a ≠ 13 ∨ en = [13]) → plR a (exR en rs) = encs rs
  | [], a, _, _ => rfl
  | r :: rs, a, h, ha => by
    have hr := h r List.mem_cons_self
    have ht : ∀ r ∈ rs, r ≠ 13 ∧ r ≠ 133 ∧ r ≠ 8232 := fun r' hr' => h r' (List.mem_cons_of_mem _ hr')
    rw [exR_cons]
    by_cases k : r = 10
    · subst k
      rw [if_pos rfl]
      show _ = encodeRune 10 ++ encs rs
      rcases he with rfl | rfl | rfl | rfl | rfl
      · show (if a = 13 ∧ ((10 : Int) = 10 ∨ (10 : Int) = 133) then [] else if endsF.endLB 10 = true then encodeRune 10 else encodeRune 10) ++ plR 10 (exR [10] rs) = _
        rw [if_neg (by rcases ha with h | h <;> first | omega | cases h), if_pos ((endLB_iff 10).2 (by omega)), plain_back (.inl rfl) rs 10 ht (.inl (by decide))]
      · show (if a = 13 ∧ ((13 : Int) = 10 ∨ (13 : Int) = 133) then [] else if endsF.endLB 13 = true then encodeRune 10 else encodeRune 13) ++ plR 13 (exR [13] rs) = _
        rw [if_neg (by omega), if_pos ((endLB_iff 13).2 (by omega)), plain_back (.inr (.inl rfl)) rs 13 ht (.inr rfl)]
      · show (if a = 13 ∧ ((13 : Int) = 10 ∨ (13 : Int) = 133) then [] else if endsF.endLB 13 = true then encodeRune 10 else encodeRune 13) ++ ((if (13 : Int) = 13 ∧ ((10 : Int) = 10 ∨ (10 : Int) = 133) then [] else if endsF.endLB 10 = true then encodeRune 10 else encodeRune 10) ++ plR 10 (exR [13, 10] rs)) = _
        rw [if_neg (by omega), if_pos ((endLB_iff 13).2 (by omega)), if_pos (by omega), List.nil_append, plain_back (.inr (.inr (.inl rfl))) rs 10 ht (.inl (by decide))]
      · show (if a = 13 ∧ ((133 : Int) = 10 ∨ (133 : Int) = 133) then [] else if endsF.endLB 133 = true then encodeRune 10 else encodeRune 133) ++ plR 133 (exR [133] rs) = _
        rw [if_neg (by rcases ha with h | h <;> first | omega | cases h), if_pos ((endLB_iff 133).2 (by omega)), plain_back (.inr (.inr (.inr (.inl rfl)))) rs 133 ht (.inl (by decide))]
      · show (if a = 13 ∧ ((8232 : Int) = 10 ∨ (8232 : Int) = 133) then [] else if endsF.endLB 8232 = true then encodeRune 10 else encodeRune 8232) ++ plR 8232 (exR [8232] rs) = _
        rw [if_neg (by omega), if_pos ((endLB_iff 8232).2 (by omega)), plain_back (.inr (.inr (.inr (.inr rfl)))) rs 8232 ht (.inl (by decide))]
    · rw [if_neg k]
      show (if a = 13 ∧ (r = 10 ∨ r = 133) then [] else if endsF.endLB r = true then encodeRune 10 else encodeRune r) ++ plR r (exR en rs) = encodeRune r ++ encs rs
      rw [if_neg (by omega), if_neg (fun q => by have := (endLB_iff r).1 q; omega), plain_back he rs r ht (.inl hr.1)]
/-- CodecBack, of what the two answer. -/
theorem enc_back {c k : Int} {s : ByteArray} (h : (encS c k 0 s).2.2 = 0) (hl : (encS c k 0 s).1.length ≤ 65536) (hg : k ≠ 0 → ∀ r ∈ charsL s.data.toList, r ≠ 13 ∧ r ≠ 133 ∧ r ≠ 8232) (hh : c = 3 → ∀ r, (charsL s.data.toList).head? = some r → r ≠ 65279 ∧ r ≠ 65534) : decS c k 0 (encS c k 0 s).1 = (s.data.toList, 0, 0) := by
  obtain ⟨a1, a2, a3, a4⟩ := encS_zero h
  obtain ⟨he, he0⟩ := end_chars k
  have hbad : ∀ r ∈ runes s.data.toList, r ≠ -1 := exR_bad fun r hr => (a3 r hr).1
  obtain ⟨t1, t2⟩ := text_runes hbad
  have hrs := runes_ok hbad
  rw [t2] at hg hh
  have hws : ∀ r ∈ wrL k s, OkC r := exR_ok he hrs
  have hc : c = 1 ∨ c = 2 ∨ c = 3 := by
    unfold checkS at a2
    split at a2
    · omega
    · cases a2
  have hu : (unitsC c (encS c k 0 s).1).map Prod.snd = wrL k s := by
    rw [a4]
    rcases hc with rfl | rfl | rfl
    · unfold unitsC
      rw [if_pos rfl]
      unfold unitsU
      rw [unitsG_utf8, show encC 1 = encodeRune from by funext r; unfold encC; rw [if_neg (by decide), if_neg (by decide)]]
      exact units_back _ _ _ (fun r hr => back_utf8 (hws r hr)) (Nat.le_refl _)
    · unfold unitsC
      rw [if_neg (by decide), if_pos rfl]
      exact back_latin _ _ (fun r hr => ⟨(hws r hr).1, has_latin (a3 r hr).2 rfl⟩)
    · unfold unitsC
      rw [if_neg (by decide), if_neg (by decide), if_pos rfl]
      obtain ⟨m1, m2⟩ := no_mark hws (exR_head he (hh rfl))
      unfold unitsW
      rw [if_neg (by rw [m1]; decide), if_neg (by rw [m2]; decide), unitsG_16]
      exact units_back _ _ _ (fun r hr => back_utf16 (hws r hr)) (Nat.le_refl _)
  have hd : decR c 0 (encS c k 0 s).1 = (encs (wrL k s), 0, 0) := by
    unfold decR
    rw [run_dec0 _ _ (by rw [hu]; exact fun r hr => (a3 r hr).1), hu]
    rfl
  rw [decS_fine a2 (by decide) (by decide) hl (by rw [hd]), hd]
  simp only
  by_cases hk : k = 0
  · rw [if_pos hk]
    unfold wrL
    rw [he0 hk, exR_ten, t1]
  · rw [if_neg hk, plain_encs hws]
    unfold wrL
    rw [plain_back he _ 0 (hg hk) (.inl (by decide)), t1]
end Go.Proofs.Ytcjgjbaadmohbaa
