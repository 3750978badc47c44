/- What the document's Units and Decode do unit by unit; characters as a text. -/
import Derived.Test.YtcjgjbaadmohbaaCpA
import Derived.Laws.Cover4
namespace Go.Proofs.Ytcjgjbaadmohbaa
open Go.RowKit Go.Lib
set_option linter.unusedVariables false
set_option linter.unusedSimpArgs false

theorem encode_ok (r : Int) (hv : OkC r) : (Utf8.encode r).data.toList = Lib.encodeRune r := by
  obtain ⟨h0, h1, h2⟩ := hv
  have hval : Utf8.valid r = true := by
    unfold Utf8.valid
    simp
    omega
  unfold Utf8.encode
  simp only [hval, if_true]
  unfold Lib.encodeRune
  by_cases a : r ≤ 127
  · rw [Lib.encodeRuneZ_one h0 a, if_pos (by omega)]
    simp [Nat.toUInt8]
  · by_cases b : r ≤ 2047
    · rw [Lib.encodeRuneZ_two (by omega) b, if_neg (by omega), if_pos (by omega)]
      have e1 : (192 + r / 64).toNat = 192 + r.toNat / 64 := by omega
      have e2 : (128 + r % 64).toNat = 128 + r.toNat % 64 := by omega
      simp [Nat.toUInt8, e1, e2]
    · by_cases c : r ≤ 65535
      · rw [Lib.encodeRuneZ_three (by omega), if_neg (by omega), if_neg (by omega), if_pos (by omega)]
        have e1 : (224 + r / 4096).toNat = 224 + r.toNat / 4096 := by omega
        have e2 : (128 + r / 64 % 64).toNat = 128 + r.toNat / 64 % 64 := by omega
        have e3 : (128 + r % 64).toNat = 128 + r.toNat % 64 := by omega
        simp [Nat.toUInt8, e1, e2, e3]
      · rw [Lib.encodeRuneZ_four (by omega) (by omega), if_neg (by omega), if_neg (by omega), if_neg (by omega)]
        have e1 : (240 + r / 262144).toNat = 240 + r.toNat / 262144 := by omega
        have e2 : (128 + r / 4096 % 64).toNat = 128 + r.toNat / 4096 % 64 := by omega
        have e3 : (128 + r / 64 % 64).toNat = 128 + r.toNat / 64 % 64 := by omega
        have e4 : (128 + r % 64).toNat = 128 + r.toNat % 64 := by omega
        simp [Nat.toUInt8, e1, e2, e3, e4]
theorem fold_encs : ∀ (ns : List Int) (s : ByteArray), (∀ r ∈ ns, OkC r) → (ns.foldl (fun r n => r ++ Utf8.encode n) s).data.toList = s.data.toList ++ encs ns
  | [], s, _ => by simp [encs]
  | n :: ns, s, h => by
    rw [List.foldl_cons, fold_encs ns _ (fun x hx => h x (by simp [hx]))]
    have : (s ++ Utf8.encode n).data.toList = s.data.toList ++ (Utf8.encode n).data.toList := by
      simp [ByteArray.data_append]
    rw [this, encode_ok n (h n (by simp))]
    simp [encs]
theorem runes_bytes (ns : List Int) (h : ∀ r ∈ ns, OkC r) : runesBytes ns = ⟨(encs ns).toArray⟩ := by
  have e := fold_encs ns ByteArray.empty h
  have e2 : (ByteArray.empty).data.toList = [] := rfl
  rw [e2, List.nil_append] at e
  unfold runesBytes
  generalize hx : ns.foldl (fun r n => r ++ Utf8.encode n) ByteArray.empty = X at *
  cases X with
  | mk d =>
    simp only at e
    congr 1
    rw [← e]
/-- A row of the call's own reads as its characters. -/
theorem rr_row {w0 w : World} {L : List Ck} {e : TypeId} (hM : Mg w0 w L) (k : Nat) {so : Option Addr} {n cap : Nat} {rs : List Int} (hk : L[k]? = some (.row e 1 (.slice so n cap) n (runeV rs))) : Rr w so rs ∧ n = rs.length := by
  have h := hM.has k hk
  have hn : n = rs.length := by have h1 := h.1; rw [show (runeV rs).length = rs.length from List.length_map _] at h1; omega
  refine ⟨⟨fun hne => ?_⟩, hn⟩
  rcases h.2 with ⟨he, h0⟩ | ⟨g, cap', cur, he, hB, hc, h3⟩
  · rw [h0] at hn; exact absurd (List.length_eq_zero_iff.1 hn.symm) hne
  · cases he
    refine ⟨g, 0, rfl, (Array.getElem?_eq_some_iff.1 hc).1, fun j hj => ?_⟩
    rw [Nat.zero_add, World.ownsRow.cellAt h j (by omega)]
    have := rune_at hj
    rwa [Nat.mul_one] at this
theorem conv_runes {P : Program} {w : World} {src dst e : TypeId} (hs : P.underlying src = some (.slice e)) (he : P.underlying e = some (.int .i32)) (hd : P.underlying dst = some .string) {so : Option Addr} {rs : List Int} (h : Rr w so rs) (hok : ∀ r ∈ rs, OkC r) (cap : Nat) : (convert src dst (.slice so rs.length cap)).run P w = .ok (.string ⟨(encs rs).toArray⟩) w := by
  by_cases hl : rs = []
  · subst hl
    cases so with
    | none => rw [show ([] : List Int).length = 0 from rfl, run_convert_runes_nil w src dst e 0 cap hs he hd]; rfl
    | some a =>
      rw [show ([] : List Int).length = 0 from rfl, run_convert_runes w src dst e a 0 cap [] (Nat.le_refl _) hs he hd (fun j hj => absurd hj (Nat.not_lt_zero _)), List.take_nil]
      rfl
  · obtain ⟨b, off, rfl, _, hc⟩ := h.pos hl
    rw [run_convert_runes w src dst e ⟨b, off, none⟩ rs.length cap rs (Nat.le_refl _) hs he hd (fun j hj => by rw [addr_add]; exact hc j hj), List.take_length, runes_bytes rs hok]
/-! ### Line ends -/
theorem plC_none : ∀ (rs : List Int) (a : Int), plC 0 a rs = rs
  | [], _ => rfl
  | r :: rs, a => by
    show pieceC 0 a r ++ plC 0 r rs = _
    rw [plC_none rs r, piece_same (by omega) (by omega)]
    rfl
theorem plC_plain {k : Int} (hk : k ≠ 0) : ∀ (rs : List Int) (a : Int), encs (plC k a rs) = plR a rs
  | [], _ => rfl
  | r :: rs, a => by
    show encs (pieceC k a r ++ plC k r rs) = (if a = 13 ∧ (r = 10 ∨ r = 133) then [] else if endsF.endLB r = true then encodeRune 10 else encodeRune r) ++ plR r rs
    rw [show encs (pieceC k a r ++ plC k r rs) = encs (pieceC k a r) ++ encs (plC k r rs) from List.flatMap_append, plC_plain hk rs r]
    congr 1
    by_cases h1 : a = 13 ∧ (r = 10 ∨ r = 133)
    · rw [if_pos h1, piece_skip ⟨hk, h1⟩]
      rfl
    · rw [if_neg h1]
      by_cases h2 : r = 13 ∨ r = 133 ∨ r = 8232
      · rw [piece_end (fun h => h1 h.2) ⟨hk, h2⟩, if_pos ((endLB_iff r).2 (.inr h2))]
        exact List.append_nil _
      · rw [piece_same (fun h => h1 h.2) (fun h => h2 h.2)]
        by_cases h3 : r = 10
        · subst h3
          rw [if_pos ((endLB_iff 10).2 (.inl rfl))]
          exact List.append_nil _
        · rw [if_neg (fun h => by rcases (endLB_iff r).1 h with h | h; exact h3 h; exact h2 h)]
          exact List.append_nil _
theorem plC_ok {k : Int} : ∀ (rs : List Int) (a : Int), (∀ r ∈ rs, OkC r) → ∀ r ∈ plC k a rs, OkC r
  | [], _, _ => by intro r hr; cases hr
  | x :: rs, a, h => by
    intro r hr
    rcases List.mem_append.1 (show r ∈ pieceC k a x ++ plC k x rs from hr) with hr | hr
    · unfold pieceC at hr
      split at hr
      · cases hr
      · rw [List.mem_singleton] at hr
        subst hr
        split
        · unfold OkC; omega
        · exact h x List.mem_cons_self
    · exact plC_ok rs x (fun y hy => h y (List.mem_cons_of_mem _ hy)) r hr
/-! ### Decode -/
section
variable {m : Int} {rs : List Int} {at_ x : Int} {rest : List (Int × Int)}
theorem encs_snoc (rs : List Int) (x : Int) : encs (rs ++ [x]) = encs rs ++ encodeRune x := by
  unfold encs
  rw [List.flatMap_append, List.flatMap_singleton]
theorem dec_put (h1 : x ≠ -1) : runV (cstep putB m 65533) (encs rs, 0, 0) ((at_, x) :: rest) = runV (cstep putB m 65533) (encs (rs ++ [x]), 0, 0) rest := by
  have e : cstep putB m 65533 (encs rs, 0, 0) at_ x = ((encs (rs ++ [x]), 0, 0), true) := by
    rw [cstep_put h1 rfl, encs_snoc]
    rfl
  rw [runV_go (by rw [e]), e]
theorem dec_bad0 (hm : m = 0) (h : x = -1) : runV (cstep putB m 65533) (encs rs, 0, 0) ((at_, x) :: rest) = (encs rs, at_, 6) := by
  subst hm
  have e : cstep putB 0 65533 (encs rs, 0, 0) at_ x = ((encs rs, at_, 6), false) := by
    unfold cstep
    rw [if_pos h, if_pos rfl]
  rw [runV_stop (by rw [e]), e]
theorem dec_bad1 (hm : m = 1) (h : x = -1) : runV (cstep putB m 65533) (encs rs, 0, 0) ((at_, x) :: rest) = runV (cstep putB m 65533) (encs (rs ++ [65533]), 0, 0) rest := by
  subst hm
  have e : cstep putB 1 65533 (encs rs, 0, 0) at_ x = ((encs (rs ++ [65533]), 0, 0), true) := by
    unfold cstep
    rw [if_pos h, if_neg (by decide), if_pos rfl, encs_snoc]
    rfl
  rw [runV_go (by rw [e]), e]
theorem dec_bad2 (hm : m ≠ 0) (hm1 : m ≠ 1) (h : x = -1) : runV (cstep putB m 65533) (encs rs, 0, 0) ((at_, x) :: rest) = runV (cstep putB m 65533) (encs rs, 0, 0) rest := by
  have e : cstep putB m 65533 (encs rs, 0, 0) at_ x = ((encs rs, 0, 0), true) := by
    unfold cstep
    rw [if_pos h, if_neg hm, if_neg hm1]
  rw [runV_go (by rw [e]), e]
end
theorem decS_arg {c k m : Int} {l : List UInt8} (h : checkS c k m ≠ 0) : decS c k m l = ([], 0, 1) := by
  unfold decS refS
  rw [if_neg h, if_pos (by decide)]
theorem decS_large {c k m : Int} {l : List UInt8} (h : checkS c k m = 0) (hs : 65536 < l.length) : decS c k m l = ([], 0, 4) := by
  unfold decS refS
  rw [if_pos h, if_pos hs, if_pos (by decide)]
theorem decS_bad {c k m : Int} {l : List UInt8} {xs : List UInt8} {at_ : Int} (h : checkS c k m = 0) (hs : ¬ 65536 < l.length) (hR : decR c m l = (xs, at_, 6)) : decS c k m l = ([], at_, 6) := by
  unfold decS refS
  rw [if_pos h, if_neg hs, if_neg (by decide), hR, if_pos (show ¬ ((6 : Int) = 0) by decide)]
theorem decS_good {c k m : Int} {l : List UInt8} {rs : List Int} (h : checkS c k m = 0) (hs : ¬ 65536 < l.length) (hok : ∀ r ∈ rs, OkC r) (hR : decR c m l = (encs rs, 0, 0)) : decS c k m l = (encs (plC k 0 rs), 0, 0) := by
  unfold decS refS
  rw [if_pos h, if_neg hs, if_neg (by decide), hR, if_neg (show ¬ ¬ ((0 : Int) = 0) by decide)]
  by_cases hk : k = 0
  · rw [if_pos hk, hk, plC_none]
  · rw [if_neg hk, plC_plain hk, plain_encs hok]
theorem unit_cells_bad {us : List (Int × Int)} {i : Nat} {ua ur : Int} (h : us[i]? = some (ua, ur)) (hr : ur = -1) : ((unitV us).drop (i * 3)).take 3 = [Value.int .i32 0, .bool true, .int .i64 ua] := by
  apply List.ext_getElem?
  intro f
  rw [List.getElem?_take]
  by_cases hf : f < 3
  · rw [if_pos hf, List.getElem?_drop, unit_bad h hr hf]
  · rw [if_neg hf, List.getElem?_eq_none (by simp only [List.length_cons, List.length_nil]; omega)]
theorem unit_cells_good {us : List (Int × Int)} {i : Nat} {ua ur : Int} (h : us[i]? = some (ua, ur)) (hr : ur ≠ -1) : ((unitV us).drop (i * 3)).take 3 = [Value.int .i32 ur, .bool false, .int .i64 ua] := by
  apply List.ext_getElem?
  intro f
  rw [List.getElem?_take]
  by_cases hf : f < 3
  · rw [if_pos hf, List.getElem?_drop, unit_good h hr hf]
  · rw [if_neg hf, List.getElem?_eq_none (by simp only [List.length_cons, List.length_nil]; omega)]
/-! ### Pairs of bytes -/
/-- The numbers of pairs of bytes from a place on. -/
def numsL (g : Nat → Nat → Nat) (l : List UInt8) (f n : Nat) : List Int := (List.range n).map fun j => ((g (l.getD (f + 2 * j) 0).toNat (l.getD (f + 2 * j + 1) 0).toNat : Nat) : Int)
theorem nums_len (g : Nat → Nat → Nat) (l : List UInt8) (f n : Nat) : (numsL g l f n).length = n := by unfold numsL; simp
theorem nums_more (g : Nat → Nat → Nat) (l : List UInt8) (f n : Nat) : numsL g l f (n + 1) = numsL g l f n ++ [((g (l.getD (f + 2 * n) 0).toNat (l.getD (f + 2 * n + 1) 0).toNat : Nat) : Int)] := by
  unfold numsL
  rw [List.range_succ, List.map_append]
  rfl
theorem nums_at {g : Nat → Nat → Nat} {l : List UInt8} {f n j : Nat} (h : j < n) : (runeV (numsL g l f n))[j * 1]? = some (.int .i32 ((g (l.getD (f + 2 * j) 0).toNat (l.getD (f + 2 * j + 1) 0).toNat : Nat) : Int)) := by
  rw [rune_at (by rw [nums_len]; exact h)]
  unfold numsL
  rw [List.getD_eq_getElem?_getD, List.getElem?_map, List.getElem?_range h]
  rfl
def restW (g : Nat → Nat → Nat) (l : List UInt8) (p : Nat) : List (Int × Int) := units16 g (l.length - p) p (l.drop p)
theorem restW_over {g : Nat → Nat → Nat} {l : List UInt8} {p : Nat} (h : ¬ p < l.length) : restW g l p = [] := by
  unfold restW
  rw [show l.length - p = 0 from by omega]
  rfl
theorem restW_step {g : Nat → Nat → Nat} {l : List UInt8} {p : Nat} {r : Int} {q : Nat} (h : p < l.length) (e : first16 g (l.drop p) = (r, q)) : restW g l p = ((p : Int), r) :: restW g l (p + q) := by
  have hne : l.drop p ≠ [] := fun k => by
    have := congrArg List.length k
    rw [List.length_drop] at this
    simp at this
    omega
  have hw := first16_wide g _ hne
  rw [e, List.length_drop] at hw
  simp only at hw
  unfold restW
  obtain ⟨m, hm⟩ : ∃ m, l.length - p = m + 1 := ⟨l.length - p - 1, by omega⟩
  rw [hm]
  show (if l.drop p = [] then [] else ((p : Int), (first16 g (l.drop p)).1) :: units16 g m (p + (first16 g (l.drop p)).2) ((l.drop p).drop (first16 g (l.drop p)).2)) = _
  rw [if_neg hne, e, List.drop_drop]
  simp only
  rw [units16_more g m (l.length - (p + q)) _ _ (by rw [List.length_drop]; omega) (by rw [List.length_drop]; omega)]
section
variable {g : Nat → Nat → Nat} {l : List UInt8} {p n m : Nat}
theorem pair_one (h : p + 1 < l.length) (hn : g (l.getD p 0).toNat (l.getD (p + 1) 0).toNat = n) (hk : n < 55296 ∨ 57343 < n) : restW g l p = ((p : Int), (n : Int)) :: restW g l (p + 2) := by
  refine restW_step (by omega) ?_
  unfold first16
  rw [if_neg (by rw [List.length_drop]; omega), getD_drop2, getD_drop2, Nat.add_zero, hn, if_pos (by omega)]
theorem pair_two (h : p + 3 < l.length) (hn : g (l.getD p 0).toNat (l.getD (p + 1) 0).toNat = n) (hm : g (l.getD (p + 2) 0).toNat (l.getD (p + 3) 0).toNat = m) (h1 : 55296 ≤ n) (h2 : n ≤ 56319) (h3 : 56320 ≤ m) (h4 : m ≤ 57343) : restW g l p = ((p : Int), 65536 + ((n : Int) - 55296) * 1024 + (m : Int) - 56320) :: restW g l (p + 4) := by
  refine restW_step (by omega) ?_
  unfold first16
  rw [if_neg (by rw [List.length_drop]; omega), getD_drop2, getD_drop2, getD_drop2, getD_drop2, Nat.add_zero, hn, hm, if_neg (by omega), if_pos ⟨by omega, by rw [List.length_drop]; omega, by omega, by omega⟩]
  refine Prod.ext ?_ rfl
  show ((65536 + (n - 55296) * 1024 + (m - 56320) : Nat) : Int) = _
  omega
theorem pair_bad (h : p + 1 < l.length) (hn : g (l.getD p 0).toNat (l.getD (p + 1) 0).toNat = n) (h1 : 55296 ≤ n) (h2 : n ≤ 57343) (h3 : n ≤ 56319 → p + 3 < l.length → ¬ (56320 ≤ g (l.getD (p + 2) 0).toNat (l.getD (p + 3) 0).toNat ∧ g (l.getD (p + 2) 0).toNat (l.getD (p + 3) 0).toNat ≤ 57343)) : restW g l p = ((p : Int), -1) :: restW g l (p + 2) := by
  refine restW_step (by omega) ?_
  unfold first16
  rw [if_neg (by rw [List.length_drop]; omega), getD_drop2, getD_drop2, getD_drop2, getD_drop2, Nat.add_zero, hn, if_neg (by omega), if_neg ?_]
  rintro ⟨k1, k2, k3, k4⟩
  rw [List.length_drop] at k2
  exact h3 (by omega) (by omega) ⟨k3, by omega⟩
theorem pair_end (h : p + 1 = l.length) : restW g l p = [((p : Int), -1)] := by
  rw [restW_step (r := -1) (q := 1) (by omega) (by unfold first16; rw [if_pos (by rw [List.length_drop]; omega)]), restW_over (by omega)]
end
theorem prefix_in {l : List UInt8} {a b : UInt8} (h : 2 ≤ l.length) : hasPrefix l [a, b] = decide ((((l.getD 0 0).toNat : Nat) : Int) = ((a.toNat : Nat) : Int) ∧ (((l.getD 1 0).toNat : Nat) : Int) = ((b.toNat : Nat) : Int)) := by
  match l, h with
  | x :: y :: t, _ =>
    have h1 : hasPrefix (x :: y :: t) [a, b] = (a == x && b == y) := by
      unfold hasPrefix
      simp [List.isPrefixOf]
    rw [h1, Bool.eq_iff_iff]
    simp only [List.getD_cons_zero, List.getD_cons_succ, Bool.and_eq_true, beq_iff_eq, decide_eq_true_eq]
    constructor
    · rintro ⟨rfl, rfl⟩; exact ⟨rfl, rfl⟩
    · rintro ⟨h2, h3⟩; exact ⟨(UInt8.toNat_inj.1 (by omega)).symm, (UInt8.toNat_inj.1 (by omega)).symm⟩
theorem prefix_short {l : List UInt8} {a b : UInt8} (h : l.length < 2) : hasPrefix l [a, b] = false := by
  cases hb : hasPrefix l [a, b] with
  | false => rfl
  | true => have := (hasPrefix_iff.1 hb).length_le; simp at this; omega
theorem markW_hi {l : List UInt8} (h : 2 ≤ l.length) (h0 : (((l.getD 0 0).toNat : Nat) : Int) = 254) (h1 : (((l.getD 1 0).toNat : Nat) : Int) = 255) : unitsW l = restW hi2 l 2 := by
  unfold unitsW restW
  rw [if_pos (by rw [prefix_in h]; exact decide_eq_true ⟨h0, h1⟩)]
theorem markW_lo {l : List UInt8} (h : 2 ≤ l.length) (h0 : (((l.getD 0 0).toNat : Nat) : Int) = 255) (h1 : (((l.getD 1 0).toNat : Nat) : Int) = 254) : unitsW l = restW lo2 l 2 := by
  unfold unitsW restW
  rw [if_neg (by rw [prefix_in h]; simp only [decide_eq_true_eq]; intro k; have := k.1; rw [h0] at this; exact absurd this (by decide)), if_pos (by rw [prefix_in h]; exact decide_eq_true ⟨h0, h1⟩)]
theorem markW_no {l : List UInt8} (h : l.length < 2 ∨ ¬ ((((l.getD 0 0).toNat : Nat) : Int) = 254 ∧ (((l.getD 1 0).toNat : Nat) : Int) = 255) ∧ ¬ ((((l.getD 0 0).toNat : Nat) : Int) = 255 ∧ (((l.getD 1 0).toNat : Nat) : Int) = 254)) : unitsW l = restW hi2 l 0 := by
  unfold unitsW restW
  have k : hasPrefix l [254, 255] = false ∧ hasPrefix l [255, 254] = false := by
    rcases Nat.lt_or_ge l.length 2 with h2 | h2
    · exact ⟨prefix_short h2, prefix_short h2⟩
    · obtain ⟨ha, hb⟩ := h.resolve_left (by omega)
      exact ⟨by rw [prefix_in h2]; exact decide_eq_false ha, by rw [prefix_in h2]; exact decide_eq_false hb⟩
  rw [if_neg (by rw [k.1]; decide), if_neg (by rw [k.2]; decide), List.drop_zero, Nat.sub_zero]
theorem hi2_lt {l : List UInt8} (i j : Nat) : hi2 (l.getD i 0).toNat (l.getD j 0).toNat < 65536 := by
  have := (l.getD i 0).toNat_lt; have := (l.getD j 0).toNat_lt; unfold hi2; omega
theorem lo2_lt {l : List UInt8} (i j : Nat) : lo2 (l.getD i 0).toNat (l.getD j 0).toNat < 65536 := by
  have := (l.getD i 0).toNat_lt; have := (l.getD j 0).toNat_lt; unfold lo2; omega
theorem unitV_snoc_good {acc : List (Int × Int)} {p r : Int} (h : r ≠ -1) : unitV (acc ++ [(p, r)]) = unitV acc ++ [.int .i32 r, .bool false, .int .i64 p] := by
  unfold unitV
  rw [List.flatMap_append, List.flatMap_singleton, if_neg h]
theorem unitV_snoc_bad {acc : List (Int × Int)} {p : Int} : unitV (acc ++ [(p, -1)]) = unitV acc ++ [.int .i32 0, .bool true, .int .i64 p] := by
  unfold unitV
  rw [List.flatMap_append, List.flatMap_singleton, if_pos rfl]
theorem units_lenW (g : Nat → Nat → Nat) : ∀ (f p : Nat) (l : List UInt8), (units16 g f p l).length ≤ l.length
  | 0, _, _ => Nat.zero_le _
  | f + 1, p, l => by
    unfold units16
    by_cases hl : l = []
    · rw [if_pos hl]; exact Nat.zero_le _
    · rw [if_neg hl, List.length_cons]
      have h1 := units_lenW g f (p + (first16 g l).2) (l.drop (first16 g l).2)
      have h2 := first16_wide g l hl
      rw [List.length_drop] at h1
      omega
theorem units_lenB : ∀ (l : List UInt8) (p : Nat), (unitsB p l).length = l.length
  | [], _ => rfl
  | b :: t, p => by show (unitsB (p + 1) t).length + 1 = t.length + 1; rw [units_lenB t]
theorem units_lenC (c : Int) (l : List UInt8) : (unitsC c l).length ≤ l.length := by
  unfold unitsC
  split
  · exact units_lenF _ _ _
  · split
    · rw [units_lenB]; exact Nat.le_refl _
    · split
      · unfold unitsW
        split
        · exact Nat.le_trans (units_lenW _ _ _ _) (by rw [List.length_drop]; omega)
        · split
          · exact Nat.le_trans (units_lenW _ _ _ _) (by rw [List.length_drop]; omega)
          · exact units_lenW _ _ _ _
      · exact Nat.zero_le _
end Go.Proofs.Ytcjgjbaadmohbaa
