/- Sets of texts: what the laws say of them, without memory. -/
import Derived.Test.YtbdhfooeanbnlaaEa
import Derived.Lib.SlicesS
import Derived.Lib.SlicesCompact
import Derived.Sort.EncStr
namespace Go.Proofs.Ytbdhfooeanbnlaa
open Go.Lib Go.Sort Go.Proofs
set_option linter.unusedVariables false
set_option linter.unusedSimpArgs false
/-- A text stands twice. -/
def twS (l : List ByteArray) : Bool := !decide l.Nodup
/-- A set is sound. -/
def sndS (l : List ByteArray) (bs : List Bool) : Bool := decide (l.length ≤ 64) && decide (bs.length = l.length) && !twS l
/-- A set has a text. -/
def hasS (l : List ByteArray) (bs : List Bool) (s : ByteArray) : Bool := decide (0 ≤ idxOfS l s) && bs.getD (idxOfS l s).toNat false
def memS (l : List ByteArray) (bs : List Bool) : List ByteArray := ((l.zip bs).filter (·.2)).map (·.1)
theorem snd_le {l : List ByteArray} {bs : List Bool} (h : sndS l bs = true) : l.length ≤ 64 ∧ bs.length = l.length ∧ l.Nodup := by
  simp only [sndS, twS, Bool.and_eq_true, decide_eq_true_eq, Bool.not_not] at h
  exact ⟨h.1.1, h.1.2, h.2⟩
theorem snd_of {l : List ByteArray} {bs : List Bool} (h1 : l.length ≤ 64) (h2 : bs.length = l.length) (h3 : l.Nodup) : sndS l bs = true := by
  simp only [sndS, twS, Bool.and_eq_true, decide_eq_true_eq, Bool.not_not]
  exact ⟨⟨h1, h2⟩, h3⟩
theorem nd_inj {α : Type} {l : List α} (hn : l.Nodup) {i j : Nat} {a : α} (h1 : l[i]? = some a) (h2 : l[j]? = some a) : i = j := by
  obtain ⟨k1, k2⟩ := List.getElem?_eq_some_iff.1 h1
  obtain ⟨k3, k4⟩ := List.getElem?_eq_some_iff.1 h2
  unfold List.Nodup at hn
  rw [List.pairwise_iff_getElem] at hn
  rcases Nat.lt_trichotomy i j with h | h | h
  · exact absurd (k2.trans k4.symm) (hn i j k1 k3 h)
  · exact h
  · exact absurd (k4.trans k2.symm) (hn j i k3 k1 h)
theorem nodup_of {α : Type} {l : List α} (h : ∀ (i j : Nat) (a : α), i < j → l[i]? = some a → l[j]? = some a → False) : l.Nodup := by
  unfold List.Nodup
  rw [List.pairwise_iff_getElem]
  intro i j hi hj hij e
  exact h i j l[i] hij (List.getElem?_eq_getElem hi) (by rw [List.getElem?_eq_getElem hj, e])
theorem getD_of {l : List ByteArray} {j : Nat} {s : ByteArray} (h : l[j]? = some s) : l.getD j ByteArray.empty = s := by rw [List.getD_eq_getElem?_getD, h]; rfl
theorem idx_hit {l : List ByteArray} {i : Nat} {s : ByteArray} (h : l[i]? = some s) (hne : ∀ j u, j < i → l[j]? = some u → u ≠ s) : idxOfS l s = ((i : Nat) : Int) := by
  have hi := (List.getElem?_eq_some_iff.1 h).1
  have := idxFromS_hit s l i 0 hi (getD_of h) (fun j hj => by
    have h2 : l[j]? = some l[j] := List.getElem?_eq_getElem (by omega)
    rw [getD_of h2]
    exact hne j _ hj h2)
  rw [Nat.zero_add] at this
  exact this
theorem idx_miss {l : List ByteArray} {s : ByteArray} (hne : ∀ j u, j < l.length → l[j]? = some u → u ≠ s) : idxOfS l s = -1 :=
  idxFromS_miss s l 0 (fun j hj => by
    have h2 : l[j]? = some l[j] := List.getElem?_eq_getElem hj
    rw [getD_of h2]
    exact hne j _ hj h2)
theorem idx_cases (l : List ByteArray) (s : ByteArray) : (∃ i, l[i]? = some s ∧ (∀ j u, j < i → l[j]? = some u → u ≠ s) ∧ idxOfS l s = ((i : Nat) : Int)) ∨ (s ∉ l ∧ idxOfS l s = -1) := by
  by_cases hm : s ∈ l
  · left
    obtain ⟨i, hf⟩ : ∃ i, l.findIdx? (fun u => decide (u = s)) = some i := by
      cases h : l.findIdx? (fun u => decide (u = s)) with
      | none => rw [List.findIdx?_eq_none_iff] at h; have := h s hm; simp at this
      | some i => exact ⟨i, rfl⟩
    obtain ⟨h1, h2, h3⟩ := List.findIdx?_eq_some_iff_getElem.1 hf
    have e1 : l[i]? = some s := by rw [List.getElem?_eq_getElem h1]; simpa using h2
    have e2 : ∀ j u, j < i → l[j]? = some u → u ≠ s := fun j u hj hu => by
      have h4 := h3 j hj
      obtain ⟨h5, h6⟩ := List.getElem?_eq_some_iff.1 hu
      rw [h6] at h4
      simpa using h4
    exact ⟨i, e1, e2, idx_hit e1 e2⟩
  · exact .inr ⟨hm, idx_miss (fun j u hj hu e => hm (by rw [← e]; exact List.mem_of_getElem? hu))⟩
theorem idx_ge (l : List ByteArray) (s : ByteArray) : -1 ≤ idxOfS l s ∧ idxOfS l s < l.length := by
  rcases idx_cases l s with ⟨i, h1, _, h3⟩ | ⟨_, h3⟩
  · have := (List.getElem?_eq_some_iff.1 h1).1
    omega
  · omega
theorem idx_at {l : List ByteArray} {s : ByteArray} (h : 0 ≤ idxOfS l s) : l[(idxOfS l s).toNat]? = some s := by
  rcases idx_cases l s with ⟨i, h1, _, h3⟩ | ⟨_, h3⟩
  · rw [h3]; exact h1
  · omega
theorem has_map {l : List ByteArray} (f : ByteArray → Bool) {s : ByteArray} (h : s ∈ l) : hasS l (l.map f) s = f s := by
  rcases idx_cases l s with ⟨i, h1, _, h3⟩ | ⟨h2, _⟩
  · unfold hasS
    rw [h3, List.getD_eq_getElem?_getD, Int.toNat_natCast, List.getElem?_map, h1]
    simp
  · exact absurd h h2
theorem has_at {l : List ByteArray} {bs : List Bool} {s : ByteArray} {i : Nat} {b : Bool} (hn : l.Nodup) (h : l[i]? = some s) (hb : bs[i]? = some b) : hasS l bs s = b := by
  have hx := idx_hit h (fun j u hj hu e => by
    subst e
    have := nd_inj hn h hu
    omega)
  unfold hasS
  rw [hx, List.getD_eq_getElem?_getD, Int.toNat_natCast, hb]
  simp
theorem has_out {l : List ByteArray} {bs : List Bool} {s : ByteArray} (h : s ∉ l) : hasS l bs s = false := by
  rcases idx_cases l s with ⟨i, h1, _, h3⟩ | ⟨_, h3⟩
  · exact absurd (List.mem_of_getElem? h1) h
  · unfold hasS; rw [h3]; rfl
theorem map_has {l : List ByteArray} {bs : List Bool} (hn : l.Nodup) (hl : bs.length = l.length) : l.map (hasS l bs) = bs := by
  apply List.ext_getElem?
  intro i
  by_cases hi : i < l.length
  · have e1 : l[i]? = some l[i] := List.getElem?_eq_getElem hi
    have e2 : bs[i]? = some (bs[i]'(by omega)) := List.getElem?_eq_getElem (by omega)
    rw [List.getElem?_map, e1, e2, Option.map_some, has_at hn e1 e2]
  · rw [List.getElem?_eq_none (by simpa using hi), List.getElem?_eq_none (by omega)]
theorem mem_map (l : List ByteArray) (f : ByteArray → Bool) : memS l (l.map f) = l.filter f := by
  unfold memS
  induction l with
  | nil => rfl
  | cons a t ih =>
    rw [List.map_cons, List.zip_cons_cons, List.filter_cons, List.filter_cons]
    by_cases h : f a = true
    · rw [if_pos h, if_pos h, List.map_cons, ih]
    · rw [if_neg h, if_neg h, ih]
theorem mem_has {l : List ByteArray} {bs : List Bool} (hn : l.Nodup) (hl : bs.length = l.length) : memS l bs = l.filter (hasS l bs) := by
  rw [← mem_map, map_has hn hl]
/-- The members of the first so many. -/
def memT (l : List ByteArray) (bs : List Bool) (i : Nat) : List ByteArray := memS (l.take i) (bs.take i)
theorem memT_zero (l : List ByteArray) (bs : List Bool) : memT l bs 0 = [] := rfl
theorem memT_step {l : List ByteArray} {bs : List Bool} {i : Nat} {s : ByteArray} {b : Bool} (h : l[i]? = some s) (hb : bs[i]? = some b) : memT l bs (i + 1) = memT l bs i ++ (if b then [s] else []) := by
  unfold memT memS
  obtain ⟨h1, _⟩ := List.getElem?_eq_some_iff.1 h
  obtain ⟨h2, _⟩ := List.getElem?_eq_some_iff.1 hb
  rw [List.take_add_one, List.take_add_one, h, hb, Option.toList_some, Option.toList_some, List.zip_append (by rw [List.length_take, List.length_take]; omega), List.filter_append, List.map_append]
  cases b <;> rfl
theorem memT_full {l : List ByteArray} {bs : List Bool} {i : Nat} (h : l.length ≤ i ∨ bs.length ≤ i) : memT l bs i = memS l bs := by
  have key : ∀ (l : List ByteArray) (bs : List Bool) (i : Nat), (l.length ≤ i ∨ bs.length ≤ i) → (l.take i).zip (bs.take i) = l.zip bs := by
    intro l
    induction l with
    | nil => intro bs i _; simp
    | cons a t ih =>
      intro bs i h
      cases bs with
      | nil => simp
      | cons b u =>
        cases i with
        | zero => simp at h
        | succ i =>
          rw [List.take_succ_cons, List.take_succ_cons, List.zip_cons_cons, List.zip_cons_cons, ih u i (by simp at h; omega)]
  unfold memT memS
  rw [key l bs i h]
theorem memT_len (l : List ByteArray) (bs : List Bool) (i : Nat) : (memT l bs i).length ≤ i := by
  unfold memT memS
  rw [List.length_map]
  refine Nat.le_trans (List.length_filter_le _ _) ?_
  rw [List.length_zip, List.length_take, List.length_take]
  omega
/-! ### Twice -/
theorem tw_hit {l : List ByteArray} {i : Nat} {s : ByteArray} (h : l[i]? = some s) (hx : idxOfS l s < ((i : Nat) : Int)) : twS l = true := by
  unfold twS
  rw [Bool.not_eq_true', decide_eq_false_iff_not]
  intro hn
  rcases idx_cases l s with ⟨j, h1, _, h3⟩ | ⟨h2, _⟩
  · have := nd_inj hn h h1
    omega
  · exact h2 (List.mem_of_getElem? h)
theorem tw_miss {l : List ByteArray} (h : ∀ i s, l[i]? = some s → ((i : Nat) : Int) ≤ idxOfS l s) : twS l = false := by
  unfold twS
  rw [Bool.not_eq_false', decide_eq_true_eq]
  refine nodup_of (fun i j a hij h1 h2 => ?_)
  have h3 := h j a h2
  rcases idx_cases l a with ⟨k, k1, k2, k3⟩ | ⟨_, k3⟩
  · have : i < k := by omega
    exact k2 i a this h1 rfl
  · omega
theorem compact_lt {α : Type} [Inhabited α] [DecidableEq α] (zs : List α) : (compact zs).length < zs.length ↔ ∃ i a, zs[i]? = some a ∧ zs[i + 1]? = some a := by
  have e1 : (compact zs).length = ((List.range zs.length).filter (keeps zs.toArray)).length := by simp [compact, compactUpTo]
  rw [e1]
  constructor
  · intro h
    apply Classical.byContradiction
    intro hno
    have hall : ∀ j ∈ List.range zs.length, keeps zs.toArray j = true := by
      intro j hj
      have hj := List.mem_range.1 hj
      unfold keeps
      rw [decide_eq_true_eq]
      by_cases h0 : j = 0
      · exact .inl h0
      · right
        intro e
        refine hno ⟨j - 1, zs[j - 1], List.getElem?_eq_getElem (by omega), ?_⟩
        rw [show j - 1 + 1 = j by omega, List.getElem?_eq_getElem hj]
        have k1 : j < zs.toArray.size := by simpa using hj
        have k2 : j - 1 < zs.toArray.size := by simp; omega
        rw [getElem!_pos zs.toArray j k1, getElem!_pos zs.toArray (j - 1) k2] at e
        simpa using e
    rw [List.filter_eq_self.2 hall, List.length_range] at h
    omega
  · rintro ⟨i, a, h1, h2⟩
    obtain ⟨k1, k2⟩ := List.getElem?_eq_some_iff.1 h1
    obtain ⟨k3, k4⟩ := List.getElem?_eq_some_iff.1 h2
    have h5 : keeps zs.toArray (i + 1) = false := by
      refine keeps_neg (by omega) ?_
      have q1 : i + 1 < zs.toArray.size := by simpa using k3
      have q2 : i + 1 - 1 < zs.toArray.size := by simp; omega
      rw [getElem!_pos zs.toArray (i + 1) q1, getElem!_pos zs.toArray (i + 1 - 1) q2]
      simp [k2, k4]
    have h6 : ((List.range zs.length).filter (keeps zs.toArray)).length < (List.range zs.length).length := by
      rw [← List.countP_eq_length_filter]
      rcases Nat.lt_or_ge (List.countP (keeps zs.toArray) (List.range zs.length)) (List.range zs.length).length with h | h
      · exact h
      · have := List.countP_eq_length.1 (Nat.le_antisymm List.countP_le_length h) (i + 1) (List.mem_range.2 k3)
        rw [h5] at this
        cases this
    simpa using h6
/-- Texts as lists of bytes. -/
def byL (l : List ByteArray) : List (List UInt8) := l.map fun b => b.data.toList
theorem enc_byL (l : List ByteArray) : (byL l).map encStr = strC l := by
  unfold byL strC
  rw [List.map_map]
  rfl
def srtL (zs : List (List UInt8)) : List (List UInt8) := zs.mergeSort fun x y => decide (x ≤ y)
theorem sorted_adj {zs : List (List UInt8)} (hp : zs.Pairwise (fun x y => x ≤ y)) : (¬ zs.Nodup) ↔ ∃ i a, zs[i]? = some a ∧ zs[i + 1]? = some a := by
  constructor
  · intro h
    apply Classical.byContradiction
    intro hno
    refine h (nodup_of (fun i j a hij h1 h2 => ?_))
    obtain ⟨k1, k2⟩ := List.getElem?_eq_some_iff.1 h1
    obtain ⟨k3, k4⟩ := List.getElem?_eq_some_iff.1 h2
    have hpg := List.pairwise_iff_getElem.1 hp
    have q1 : zs[i] ≤ zs[i + 1] := hpg i (i + 1) k1 (by omega) (by omega)
    have q2 : zs[i + 1] ≤ zs[j] := by
      by_cases e : i + 1 = j
      · subst e; exact List.le_refl _
      · exact hpg (i + 1) j (by omega) k3 (by omega)
    have q3 : zs[i + 1] = zs[i] := List.le_antisymm (by rw [k2, ← k4]; exact q2) q1
    exact hno ⟨i, a, h1, by rw [List.getElem?_eq_getElem (by omega), q3, k2]⟩
  · rintro ⟨i, a, h1, h2⟩ hn
    have := nd_inj hn h1 h2
    omega
theorem byL_nodup (l : List ByteArray) : (byL l).Nodup ↔ l.Nodup := by
  unfold byL List.Nodup
  rw [List.pairwise_map]
  refine ⟨fun h => h.imp fun hne e => hne (by rw [e]), fun h => h.imp fun hne e => hne ?_⟩
  exact ByteArray.ext (Array.toList_inj.mp e)
/-- A row that is sorted and made compact is shorter just if a text stands twice. -/
theorem twice_sorted (l : List ByteArray) : decide ((compact (srtL (byL l))).length < l.length) = twS l := by
  have hperm : (srtL (byL l)).Perm (byL l) := List.mergeSort_perm _ _
  have hlen : (srtL (byL l)).length = l.length := by rw [hperm.length_eq]; simp [byL]
  have hsort : (srtL (byL l)).Pairwise (fun x y => x ≤ y) := by
    have := List.pairwise_mergeSort (le := fun x y : List UInt8 => decide (x ≤ y)) (fun a b c h1 h2 => by
      simp only [decide_eq_true_eq] at *
      exact List.le_trans h1 h2) (fun a b => by
      simp only [Bool.or_eq_true, decide_eq_true_eq]
      exact List.le_total a b) (byL l)
    exact this.imp fun h => by simpa using h
  have key : (compact (srtL (byL l))).length < l.length ↔ ¬ l.Nodup := by
    rw [← hlen, compact_lt, ← sorted_adj hsort, ← byL_nodup, hperm.nodup_iff]
  unfold twS
  by_cases h : l.Nodup
  · rw [decide_eq_true h, decide_eq_false (fun k => key.1 k h)]
    rfl
  · rw [decide_eq_false h, decide_eq_true (key.2 h)]
    rfl
end Go.Proofs.Ytbdhfooeanbnlaa
