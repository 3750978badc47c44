/- Where a fault is told: what stands ahead of it has none. -/
import Derived.Test.YtcjgjbaadmohbaaCoM
namespace Go.Proofs.Ytcjgjbaadmohbaa
open Go.RowKit Go.Lib
set_option linter.unusedVariables false
set_option linter.unusedSimpArgs false

theorem decodeN_less {n n' b0 b1 b2 b3 c1 c2 c3 : Nat} (hn : n ≤ n') (h1 : 1 < n → c1 = b1) (h2 : 2 < n → c2 = b2) (h3 : 3 < n → c3 = b3) (hok : ¬ ((decodeN n' b0 b1 b2 b3).1 = 65533 ∧ (decodeN n' b0 b1 b2 b3).2 ≠ 3)) (hw : (decodeN n' b0 b1 b2 b3).2 ≤ n) : decodeN n b0 c1 c2 c3 = decodeN n' b0 b1 b2 b3 := by
  unfold decodeN at hok hw ⊢
  by_cases k1 : b0 < 128
  · rw [if_pos k1, if_pos k1]
  rw [if_neg k1] at hok hw ⊢
  rw [if_neg k1]
  by_cases k2 : b0 / 32 = 6 ∧ (1 < n' ∧ b1 / 64 = 2)
  · rw [if_pos k2] at hok hw ⊢
    by_cases k : b0 % 32 * 64 + b1 % 64 ≥ 128
    · rw [if_pos k] at hw ⊢
      simp only at hw
      obtain rfl := h1 (by omega)
      rw [if_pos ⟨k2.1, by omega, k2.2.2⟩, if_pos k]
    · rw [if_neg k] at hok
      exact absurd ⟨rfl, by decide⟩ hok
  rw [if_neg k2] at hok hw ⊢
  by_cases k3 : b0 / 16 = 14 ∧ (1 < n' ∧ b1 / 64 = 2) ∧ (2 < n' ∧ b2 / 64 = 2)
  · rw [if_pos k3] at hok hw ⊢
    split at hw
    · rename_i k
      simp only at hw
      obtain rfl := h1 (by omega)
      obtain rfl := h2 (by omega)
      rw [if_neg (by omega), if_pos ⟨k3.1, ⟨by omega, k3.2.1.2⟩, by omega, k3.2.2.2⟩]
    · rename_i k
      rw [if_neg k] at hok
      exact absurd ⟨rfl, by decide⟩ hok
  rw [if_neg k3] at hok hw ⊢
  by_cases k4 : b0 / 8 = 30 ∧ (1 < n' ∧ b1 / 64 = 2) ∧ (2 < n' ∧ b2 / 64 = 2) ∧ (3 < n' ∧ b3 / 64 = 2)
  · rw [if_pos k4] at hok hw ⊢
    split at hw
    · rename_i k
      simp only at hw
      obtain rfl := h1 (by omega)
      obtain rfl := h2 (by omega)
      obtain rfl := h3 (by omega)
      rw [if_neg (by omega), if_neg (by omega), if_pos ⟨k4.1, ⟨by omega, k4.2.1.2⟩, ⟨by omega, k4.2.2.1.2⟩, by omega, k4.2.2.2.2⟩]
    · rename_i k
      rw [if_neg k] at hok
      exact absurd ⟨rfl, by decide⟩ hok
  rw [if_neg k4] at hok
  exact absurd ⟨rfl, by decide⟩ hok
theorem getD_take (l : List UInt8) {n i : Nat} (h : i < n) : (l.take n).getD i 0 = l.getD i 0 := by
  rw [List.getD_eq_getElem?_getD, List.getD_eq_getElem?_getD, List.getElem?_take_of_lt h]
/-- What takes the first unit of bytes: a character or -1, and how many bytes. -/
structure Reads (f : List UInt8 → Int × Nat) : Prop where
  wide : ∀ l, l ≠ [] → 1 ≤ (f l).2 ∧ (f l).2 ≤ l.length
  less : ∀ l n, l ≠ [] → (f l).1 ≠ -1 → (f l).2 ≤ n → n ≤ l.length → f (l.take n) = f l
def rdU (l : List UInt8) : Int × Nat := (uR (decodeL l).1 (decodeL l).2, (decodeL l).2)
theorem reads_utf8 : Reads rdU := by
  refine ⟨fun l hl => decode_wide l hl, fun l n hl hok hw hn => ?_⟩
  have h0 : 0 < l.length := List.length_pos_iff.2 hl
  have hw1 := (decode_wide l hl).1
  have hw' : (decodeL l).2 ≤ n := hw
  have hok' : ¬ ((decodeL l).1 = 65533 ∧ (decodeL l).2 ≠ 3) := fun k => hok (show uR (decodeL l).1 (decodeL l).2 = -1 by unfold uR; rw [if_pos k])
  have e : decodeL (l.take n) = decodeL l := by
    rw [decodeL_N] at hok' hw' hw1
    rw [decodeL_N, decodeL_N, getD_take l (show 0 < n by omega)]
    refine decodeN_less (by rw [List.length_take]; omega) (fun k => ?_) (fun k => ?_) (fun k => ?_) hok' (by rw [List.length_take]; omega)
    all_goals (rw [List.length_take] at k; rw [getD_take l (by omega)])
  unfold rdU
  rw [e]
theorem reads_16 (g : Nat → Nat → Nat) : Reads (first16 g) := by
  refine ⟨fun l hl => first16_wide g l hl, fun l n hl hok hw hn => ?_⟩
  unfold first16 at hok hw ⊢
  by_cases k1 : l.length < 2
  · rw [if_pos k1] at hok; exact absurd rfl hok
  rw [if_neg k1] at hok hw ⊢
  have ht : (l.take n).length = n := by rw [List.length_take]; omega
  by_cases k2 : g (l.getD 0 0).toNat (l.getD 1 0).toNat < 55296 ∨ 57344 ≤ g (l.getD 0 0).toNat (l.getD 1 0).toNat
  · rw [if_pos k2] at hw ⊢
    simp only at hw
    rw [if_neg (by omega), getD_take l (show 0 < n by omega), getD_take l (show 1 < n by omega), if_pos k2]
  rw [if_neg k2] at hok hw ⊢
  split at hw
  · rename_i k3
    simp only at hw
    rw [if_pos k3, if_neg (by omega), getD_take l (show 0 < n by omega), getD_take l (show 1 < n by omega), if_neg k2, getD_take l (show 2 < n by omega), getD_take l (show 3 < n by omega), if_pos ⟨k3.1, by omega, k3.2.2⟩]
  · rename_i k3
    rw [if_neg k3] at hok
    exact absurd rfl hok
def unitsG (f : List UInt8 → Int × Nat) : Nat → Nat → List UInt8 → List (Int × Int)
  | 0, _, _ => []
  | n + 1, p, l => if l = [] then [] else ((p : Int), (f l).1) :: unitsG f n (p + (f l).2) (l.drop (f l).2)
theorem unitsG_utf8 : ∀ (n p : Nat) (l : List UInt8), unitsF n p l = unitsG rdU n p l
  | 0, _, _ => rfl
  | n + 1, p, l => by
    show (if l = [] then [] else _ :: unitsF n _ _) = (if l = [] then [] else _ :: unitsG rdU n _ _)
    rw [unitsG_utf8 n]
    rfl
theorem unitsG_16 (g : Nat → Nat → Nat) : ∀ (n p : Nat) (l : List UInt8), units16 g n p l = unitsG (first16 g) n p l
  | 0, _, _ => rfl
  | n + 1, p, l => by
    show (if l = [] then [] else _ :: units16 g n _ _) = (if l = [] then [] else _ :: unitsG (first16 g) n _ _)
    rw [unitsG_16 g n]
theorem unitsG_nil (f : List UInt8 → Int × Nat) (n p : Nat) : unitsG f n p [] = [] := by
  cases n with
  | zero => rfl
  | succ n => show (if ([] : List UInt8) = [] then [] else _) = _; rw [if_pos rfl]
theorem unitsG_cons {f : List UInt8 → Int × Nat} {n p : Nat} {l : List UInt8} (hl : l ≠ []) : unitsG f (n + 1) p l = ((p : Int), (f l).1) :: unitsG f n (p + (f l).2) (l.drop (f l).2) := by
  show (if l = [] then [] else _) = _
  rw [if_neg hl]
/-- A step that raises. -/
structure Raises (step : List UInt8 × Int × Int → Int → Int → (List UInt8 × Int × Int) × Bool) (fine : Int → Prop) : Prop where
  yes : ∀ xs at_ r, fine r → ∃ xs', step (xs, 0, 0) at_ r = ((xs', 0, 0), true)
  no : ∀ xs at_ r, ¬ fine r → ∃ xs', step (xs, 0, 0) at_ r = ((xs', at_, 6), false)
  ok : ∀ r, fine r → r ≠ -1
theorem places {step : List UInt8 × Int × Int → Int → Int → (List UInt8 × Int × Int) × Bool} {fine : Int → Prop} (hS : Raises step fine) {f : List UInt8 → Int × Nat} (hf : Reads f) : ∀ (n p : Nat) (l : List UInt8) (xs : List UInt8), l.length ≤ n →
    ((runV step (xs, 0, 0) (unitsG f n p l)).2 = (0, 0)) ∨ ∃ q, q < l.length ∧ (runV step (xs, 0, 0) (unitsG f n p l)).2 = (((p + q : Nat) : Int), 6) ∧ ∀ n', q ≤ n' → (runV step (xs, 0, 0) (unitsG f n' p (l.take q))).2 = (0, 0)
  | 0, p, l, xs, _ => .inl rfl
  | n + 1, p, l, xs, hl => by
    by_cases h0 : l = []
    · rw [h0, unitsG_nil]; exact .inl rfl
    have hw := hf.wide l h0
    rw [unitsG_cons h0]
    by_cases hfi : fine (f l).1
    · obtain ⟨xs', e⟩ := hS.yes xs p (f l).1 hfi
      rw [runV_go (by rw [e]), e]
      rcases places hS hf n (p + (f l).2) (l.drop (f l).2) xs' (by rw [List.length_drop]; omega) with h | ⟨q, h1, h2, h3⟩
      · exact .inl h
      · rw [List.length_drop] at h1
        refine .inr ⟨(f l).2 + q, by omega, by rw [h2, Nat.add_assoc], fun n' hn' => ?_⟩
        have hne : l.take ((f l).2 + q) ≠ [] := fun k => by
          have := congrArg List.length k
          rw [List.length_take, List.length_nil] at this
          omega
        have hr := hf.less l ((f l).2 + q) h0 (hS.ok _ hfi) (by omega) (by omega)
        obtain ⟨m, rfl⟩ : ∃ m, n' = m + 1 := ⟨n' - 1, by omega⟩
        rw [unitsG_cons hne, hr, runV_go (by rw [e]), e]
        have := h3 m (by omega)
        rwa [List.drop_take, show (f l).2 + q - (f l).2 = q from by omega]
    · obtain ⟨xs', e⟩ := hS.no xs p (f l).1 hfi
      rw [runV_stop (by rw [e]), e]
      refine .inr ⟨0, by omega, by simp, fun n' _ => ?_⟩
      rw [List.take_zero, unitsG_nil]
      rfl
theorem raises_dec {inst : Int} : Raises (cstep putB 0 inst) (fun r => r ≠ -1) := by
  refine ⟨fun xs at_ r h => ⟨(putB xs r).1, ?_⟩, fun xs at_ r h => ⟨xs, ?_⟩, fun r h => h⟩
  · unfold cstep
    rw [if_neg h]
    exact if_pos rfl
  · have h' : r = -1 := Classical.not_not.1 h
    unfold cstep
    rw [if_pos h', if_pos rfl]
theorem runE_fine {c inst : Int} {at_ : Int} : ∀ (en : List Int) (xs : List UInt8), (∀ x ∈ en, fineR c x) → ∃ xs', runE (cstep (putC c) 0 inst) at_ (xs, 0, 0) en = ((xs', 0, 0), true)
  | [], xs, _ => ⟨xs, rfl⟩
  | x :: en, xs, h => by
    have h1 := cstep_fine (inst := inst) (xs := xs) (a := 0) (at_ := at_) (e := 0) (h x List.mem_cons_self)
    rw [runE_go (by rw [h1]), h1]
    exact runE_fine en _ (fun y hy => h y (List.mem_cons_of_mem _ hy))
theorem runE_poor {c inst : Int} {at_ : Int} : ∀ (en : List Int) (xs : List UInt8), ¬ (∀ x ∈ en, fineR c x) → ∃ xs', runE (cstep (putC c) 0 inst) at_ (xs, 0, 0) en = ((xs', at_, 6), false)
  | [], xs, h => absurd (fun x hx => by cases hx) h
  | x :: en, xs, h => by
    by_cases hx : fineR c x
    · have h1 := cstep_fine (inst := inst) (xs := xs) (a := 0) (at_ := at_) (e := 0) hx
      rw [runE_go (by rw [h1]), h1]
      refine runE_poor en _ (fun k => h (fun y hy => ?_))
      rcases List.mem_cons.1 hy with rfl | hy
      · exact hx
      · exact k y hy
    · obtain ⟨xs', h1⟩ := cstep_poor (inst := inst) (xs := xs) (a := 0) (at_ := at_) (e := 0) hx
      rw [runE_stop (by rw [h1]), h1]
      exact ⟨xs', rfl⟩
theorem raises_enc {c inst : Int} {en : List Int} : Raises (estep (cstep (putC c) 0 inst) en) (fun r => if r = 10 then ∀ x ∈ en, fineR c x else fineR c r) := by
  refine ⟨fun xs at_ r h => ?_, fun xs at_ r h => ?_, fun r h => ?_⟩
  · unfold estep
    by_cases k : r = 10
    · rw [if_pos k] at h ⊢; exact runE_fine en xs h
    · rw [if_neg k] at h ⊢; exact ⟨_, cstep_fine h⟩
  · unfold estep
    by_cases k : r = 10
    · rw [if_pos k] at h ⊢; exact runE_poor en xs h
    · rw [if_neg k] at h ⊢; exact cstep_poor h
  · by_cases k : r = 10
    · omega
    · rw [if_neg k] at h; exact h.1
/-- What is asked of an answer: its fault's place is one, and ahead of it there is none. -/
def PlaceOk (n : Nat) (D : List UInt8 × Int × Int) (E : Nat → List UInt8 × Int × Int) : Prop :=
  (D.2.2 = 6 → 0 ≤ D.2.1 ∧ D.2.1 < n ∧ ∀ q : Nat, D.2.1 = (q : Int) → (E q).2.2 = 0) ∧ (D.2.2 ≠ 6 → D.2.1 = 0)
theorem refS_vals (c k m : Int) (n : Nat) : refS c k m n = 0 ∨ refS c k m n = 1 ∨ refS c k m n = 4 := by
  unfold refS
  repeat' split
  all_goals simp
theorem refS_less {c k m : Int} {n n' : Nat} (h : refS c k m n = 0) (hn : n' ≤ n) : refS c k m n' = 0 := refS_zero (Nat.le_trans hn (refS_le h).1) (refS_le h).2
/-- CodecPlaces, of what Encode answers. -/
theorem enc_places (c k : Int) (s : ByteArray) : PlaceOk s.size (encS c k 0 s) (fun q => encS c k 0 ⟨(s.data.toList.take q).toArray⟩) := by
  unfold PlaceOk
  rcases refS_vals c k 0 s.size with h0 | h0
  · have hp := places (raises_enc (c := c) (inst := subS c) (en := charsL (lineEndS k).data.toList)) reads_utf8 s.data.toList.length 0 s.data.toList [] (Nat.le_refl _)
    have key : ∀ l : List UInt8, encR c k 0 ⟨l.toArray⟩ = runV (estep (cstep (putC c) 0 (subS c)) (charsL (lineEndS k).data.toList)) ([], 0, 0) (unitsG rdU l.length 0 l) := fun l => by
      unfold encR
      rw [← runV_expand, ← unitsG_utf8]
      rfl
    have ks := key s.data.toList
    rw [show (⟨s.data.toList.toArray⟩ : ByteArray) = s from by simp] at ks
    rw [← ks] at hp
    unfold encS
    rw [if_neg (by rw [h0]; decide)]
    rcases hp with h | ⟨q, h1, h2, h3⟩
    · rw [h, if_neg (show ¬ ((0 : Int) ≠ 0) by decide)]
      exact ⟨fun k => absurd k (show ¬ ((0 : Int) = 6) by decide), fun _ => rfl⟩
    · rw [h2, if_pos (show (6 : Int) ≠ 0 by decide)]
      rw [size_toList] at h1
      refine ⟨fun _ => ⟨by simp only; omega, by simp only; omega, fun q' hq => ?_⟩, fun k => absurd rfl k⟩
      obtain rfl : q' = q := by simp only at hq; omega
      have hz : refS c k 0 (⟨(s.data.toList.take q').toArray⟩ : ByteArray).size = 0 := refS_less h0 (by show (s.data.toList.take q').toArray.size ≤ _; rw [List.size_toArray, List.length_take]; omega)
      have h4 := h3 (s.data.toList.take q').length (by rw [List.length_take, size_toList]; omega)
      rw [← key] at h4
      simp only
      rw [if_neg (by rw [hz]; decide), h4, if_neg (show ¬ ((0 : Int) ≠ 0) by decide)]
  · have hne : refS c k 0 s.size ≠ 0 := by omega
    unfold encS
    rw [if_pos hne]
    exact ⟨fun k => by simp only at k; omega, fun _ => rfl⟩
theorem hasPrefix_iff {l p : List UInt8} : hasPrefix l p = true ↔ p <+: l := by
  unfold hasPrefix
  exact List.isPrefixOf_iff_prefix
theorem prefix_less {l p : List UInt8} {q : Nat} (h : hasPrefix l p = false) : hasPrefix (l.take q) p = false := by
  cases e : hasPrefix (l.take q) p with
  | false => rfl
  | true =>
    have := (hasPrefix_iff.1 e).trans (List.take_prefix q l)
    rw [hasPrefix_iff.2 this] at h
    cases h
theorem prefix_two {l : List UInt8} {a b : UInt8} {q : Nat} (h : hasPrefix l [a, b] = true) : hasPrefix (l.take (2 + q)) [a, b] = true := by
  obtain ⟨t, rfl⟩ := hasPrefix_iff.1 h
  rw [hasPrefix_iff]
  exact ⟨t.take q, by show a :: b :: t.take q = (a :: b :: t).take (2 + q); rw [show 2 + q = q + 1 + 1 from by omega]; rfl⟩
/-- .. of what a run comes to. -/
def PlaceR (step : List UInt8 × Int × Int → Int → Int → (List UInt8 × Int × Int) × Bool) (u : List UInt8 → List (Int × Int)) (l : List UInt8) : Prop :=
  (runV step ([], 0, 0) (u l)).2 = (0, 0) ∨ ∃ q : Nat, q < l.length ∧ (runV step ([], 0, 0) (u l)).2 = ((q : Int), 6) ∧ (runV step ([], 0, 0) (u (l.take q))).2 = (0, 0)
theorem bytes_fine {inst : Int} : ∀ (l : List UInt8) (p : Nat) (xs : List UInt8), (runV (cstep putB 0 inst) (xs, 0, 0) (unitsB p l)).2 = (0, 0)
  | [], _, _ => rfl
  | b :: t, p, xs => by
    obtain ⟨xs', e⟩ := (raises_dec (inst := inst)).yes xs (p : Int) ((b.toNat : Nat) : Int) (by omega)
    show (runV (cstep putB 0 inst) (xs, 0, 0) (((p : Int), ((b.toNat : Nat) : Int)) :: unitsB (p + 1) t)).2 = _
    rw [runV_go (by rw [e]), e]
    exact bytes_fine t (p + 1) xs'
theorem place_utf16 {inst : Int} (l : List UInt8) : PlaceR (cstep putB 0 inst) unitsW l := by
  unfold PlaceR
  have hl : ∀ g, hasPrefix l g = true → g.length ≤ l.length := fun g h => prefix_len h
  have mark : ∀ g : Nat → Nat → Nat, 2 ≤ l.length → (∀ q, unitsW (l.take (2 + q)) = units16 g ((l.take (2 + q)).length - 2) 2 ((l.take (2 + q)).drop 2)) → unitsW l = units16 g (l.length - 2) 2 (l.drop 2) → PlaceR (cstep putB 0 inst) unitsW l := fun g h2 ht hu => by
    rcases places (raises_dec (inst := inst)) (reads_16 g) (l.length - 2) 2 (l.drop 2) [] (by rw [List.length_drop]; omega) with h | ⟨q, h1, h3, h4⟩
    · left; rw [hu, unitsG_16]; exact h
    · right
      rw [List.length_drop] at h1
      refine ⟨2 + q, by omega, by rw [hu, unitsG_16]; exact h3, ?_⟩
      rw [ht q, unitsG_16, List.drop_take, show 2 + q - 2 = q from by omega]
      exact h4 _ (by rw [List.length_take]; omega)
  cases ha : hasPrefix l [254, 255] with
  | true =>
    refine mark hi2 (hl _ ha) (fun q => ?_) ?_
    · unfold unitsW; rw [if_pos (prefix_two ha)]
    · unfold unitsW; rw [if_pos ha]
  | false =>
    cases hb : hasPrefix l [255, 254] with
    | true =>
      refine mark lo2 (hl _ hb) (fun q => ?_) ?_
      · unfold unitsW; rw [if_neg (by rw [prefix_less ha]; decide), if_pos (prefix_two hb)]
      · unfold unitsW; rw [if_neg (by rw [ha]; decide), if_pos hb]
    | false =>
      have hu : ∀ q, unitsW (l.take q) = units16 hi2 (l.take q).length 0 (l.take q) := fun q => by
        unfold unitsW; rw [if_neg (by rw [prefix_less ha]; decide), if_neg (by rw [prefix_less hb]; decide)]
      have hu0 : unitsW l = units16 hi2 l.length 0 l := by unfold unitsW; rw [if_neg (by rw [ha]; decide), if_neg (by rw [hb]; decide)]
      rcases places (raises_dec (inst := inst)) (reads_16 hi2) l.length 0 l [] (Nat.le_refl _) with h | ⟨q, h1, h3, h4⟩
      · left; rw [hu0, unitsG_16]; exact h
      · right
        refine ⟨q, h1, by rw [hu0, unitsG_16, h3, Nat.zero_add], ?_⟩
        rw [hu q, unitsG_16]
        exact h4 _ (by rw [List.length_take]; omega)
theorem place_dec {c inst : Int} (l : List UInt8) : PlaceR (cstep putB 0 inst) (unitsC c) l := by
  unfold PlaceR unitsC
  by_cases h1 : c = 1
  · simp only [if_pos h1]
    unfold unitsU
    rcases places (raises_dec (inst := inst)) reads_utf8 l.length 0 l [] (Nat.le_refl _) with h | ⟨q, k1, k3, k4⟩
    · left; rw [unitsG_utf8]; exact h
    · right
      refine ⟨q, k1, by rw [unitsG_utf8, k3, Nat.zero_add], ?_⟩
      rw [unitsG_utf8]
      exact k4 _ (by rw [List.length_take]; omega)
  · simp only [if_neg h1]
    by_cases h2 : c = 2
    · simp only [if_pos h2]
      exact .inl (bytes_fine l 0 [])
    · simp only [if_neg h2]
      by_cases h3 : c = 3
      · simp only [if_pos h3]
        exact place_utf16 l
      · simp only [if_neg h3]
        exact .inl rfl
/-- CodecPlaces, of what Decode answers. -/
theorem dec_places (c k : Int) (l : List UInt8) : PlaceOk l.length (decS c k 0 l) (fun q => decS c k 0 (l.take q)) := by
  unfold PlaceOk
  rcases refS_vals c k 0 l.length with h0 | h0
  · have hp := place_dec (c := c) (inst := 65533) l
    unfold decS
    rw [if_neg (by rw [h0]; decide)]
    rcases hp with h | ⟨q, h1, h2, h3⟩
    · rw [show (decR c 0 l).2 = (0, 0) from h, if_neg (show ¬ ((0 : Int) ≠ 0) by decide)]
      by_cases hk : k = 0
      · rw [if_pos hk]; exact ⟨fun k => absurd k (show ¬ ((0 : Int) = 6) by decide), fun _ => rfl⟩
      · rw [if_neg hk]; exact ⟨fun k => absurd k (show ¬ ((0 : Int) = 6) by decide), fun _ => rfl⟩
    · rw [show (decR c 0 l).2 = ((q : Int), 6) from h2, if_pos (show (6 : Int) ≠ 0 by decide)]
      refine ⟨fun _ => ⟨by simp only; omega, by simp only; omega, fun q' hq => ?_⟩, fun k => absurd rfl k⟩
      obtain rfl : q' = q := by simp only at hq; omega
      have hz : refS c k 0 (l.take q').length = 0 := refS_less h0 (by rw [List.length_take]; omega)
      simp only
      rw [if_neg (by rw [hz]; decide), show (decR c 0 (l.take q')).2 = (0, 0) from h3, if_neg (show ¬ ((0 : Int) ≠ 0) by decide)]
      by_cases hk : k = 0
      · rw [if_pos hk]
      · rw [if_neg hk]
  · have hne : refS c k 0 l.length ≠ 0 := by omega
    unfold decS
    rw [if_pos hne]
    exact ⟨fun k => by simp only at k; omega, fun _ => rfl⟩
end Go.Proofs.Ytcjgjbaadmohbaa
