/- What the law of collections keeps: stacks of objects, a model of their words, marks round by round. -/
import Derived.Test.YtcigofjajphmjaaHr
namespace Go.Proofs.Ytcigofjajphmjaa
open Go.RowKit
set_option linter.unusedVariables false
set_option linter.unusedSimpArgs false

/-- How many words the large objects have. -/
def sumL : List Ob → Nat
  | [] => 0
  | o :: t => if big o = true then o.ws.length + sumL t else sumL t
theorem sumS_app (a b : List Ob) : sumS (a ++ b) = sumS a + sumS b := by
  induction a with
  | nil => simp [sumS]
  | cons o t ih => simp only [List.cons_append, sumS, ih]; split <;> omega
theorem sumL_app (a b : List Ob) : sumL (a ++ b) = sumL a + sumL b := by
  induction a with
  | nil => simp [sumL]
  | cons o t ih => simp only [List.cons_append, sumL, ih]; split <;> omega
theorem sum_SL : ∀ os : List Ob, sumW os = sumS os + sumL os
  | [] => rfl
  | o :: t => by
    simp only [sumW, sumS, sumL, sum_SL t]
    split <;> omega
/-- In each area objects stand in their order, one behind the other. -/
def Stk (os : List Ob) : Prop := os.Pairwise fun a b => big a = big b → a.p + a.ws.length ≤ b.p
/-- Handles are 1, 2, .. -/
def Num (os : List Ob) : Prop := ∀ (j : Nat) (o : Ob), os[j]? = some o → o.x = j + 1
theorem Num.hx {os : List Ob} (h : Num os) {n : Nat} (hn : os.length = n) : Hx os n := by
  refine ⟨?_, fun o ho => ?_, fun o ho => ?_⟩
  · unfold Rise
    rw [List.pairwise_iff_getElem]
    intro i j hi hj hij
    rw [h i _ (List.getElem?_eq_getElem hi), h j _ (List.getElem?_eq_getElem hj)]
    omega
  · obtain ⟨j, hj⟩ := List.mem_iff_getElem?.1 ho
    have := h j o hj
    omega
  · obtain ⟨j, hj⟩ := List.mem_iff_getElem?.1 ho
    have := h j o hj
    have := (List.getElem?_eq_some_iff.1 hj).1
    omega
theorem Num.at {os : List Ob} (h : Num os) {j : Nat} {o : Ob} (hj : os[j]? = some o) : fO ((j + 1 : Nat) : Int) os = some o := by
  have := (h.hx rfl).at (List.mem_of_getElem? hj)
  rw [h j o hj] at this
  exact this
theorem Num.some {os : List Ob} (h : Num os) {z : Int} (h1 : 1 ≤ z) (h2 : z ≤ ((os.length : Nat) : Int)) : (fO z os).isSome = true := by
  obtain ⟨j, rfl⟩ : ∃ j : Nat, z = ((j + 1 : Nat) : Int) := ⟨(z - 1).toNat, by omega⟩
  rw [h.at (List.getElem?_eq_getElem (show j < os.length by omega))]
  rfl
structure Ha1 (n us ul : Nat) (os : List Ob) : Prop where
  num : Num os
  len : os.length = n
  es : us = sumS os
  el : ul = sumL os
  ls : us ≤ 600
  ll : ul ≤ 900
  stk : Stk os
  siz : ∀ o ∈ os, 1 ≤ o.ws.length ∧ o.ws.length ≤ 40
  top : ∀ o ∈ os, o.p + o.ws.length ≤ (if big o = true then ul else us)
  zer : ∀ o ∈ os, ∀ c ∈ o.ws, c = (0, false)
theorem Ha1.start : Ha1 0 0 0 [] := ⟨(fun j o h => by simp at h), rfl, rfl, rfl, by decide, by decide, .nil, (fun o h => by cases h), (fun o h => by cases h), (fun o h => by cases h)⟩
theorem big_nOb (last p g n : Nat) : big (nOb last p g n) = decide (16 < ((n : Nat) : Int)) := by simp [big, nOb]
theorem Num.add {os : List Ob} (h : Num os) (p g n : Nat) : Num (os ++ [nOb os.length p g n]) := by
  intro j o hj
  by_cases k : j < os.length
  · rw [List.getElem?_append_left k] at hj
    exact h j o hj
  · have hlt := (List.getElem?_eq_some_iff.1 hj).1
    simp at hlt
    have : j = os.length := by omega
    subst this
    simp at hj
    subst hj
    rfl
theorem Ha1.small {n us ul : Nat} {os : List Ob} (h : Ha1 n us ul os) {k : Nat} (h1 : 1 ≤ k) (hk : ¬ 16 < k) (hf : k ≤ 600 - us) (g : Nat) : Ha1 (n + 1) (us + k) ul (os ++ [nOb n us g k]) := by
  have hb : big (nOb n us g k) = false := by rw [big_nOb]; simp; omega
  have h600 := h.ls
  have hl := h.len
  refine ⟨by rw [← hl]; exact h.num.add us g k, by simp [h.len], ?_, ?_, by omega, h.ll, List.pairwise_append.2 ⟨h.stk, List.pairwise_singleton _ _, fun a ha b hb' e => ?_⟩, fun o ho => ?_, fun o ho => ?_, fun o ho c hc => ?_⟩
  · rw [sumS_app, ← h.es]; simp only [sumS, hb, Bool.false_eq_true, if_false]; simp [nOb]
  · rw [sumL_app, ← h.el]; simp [sumL, hb]
  · rw [List.mem_singleton] at hb'
    subst hb'
    have := h.top a ha
    rw [e, hb] at this
    exact this
  · rcases List.mem_append.1 ho with q | q
    · exact h.siz o q
    · rw [List.mem_singleton] at q; subst q; simp [nOb]; omega
  · rcases List.mem_append.1 ho with q | q
    · have := h.top o q
      split at this
      · rename_i c; rw [if_pos c]; exact this
      · rename_i c; rw [if_neg c]; omega
    · rw [List.mem_singleton] at q; subst q; rw [hb]; simp [nOb]
  · rcases List.mem_append.1 ho with q | q
    · exact h.zer o q c hc
    · rw [List.mem_singleton] at q; subst q; exact List.eq_of_mem_replicate hc
theorem Ha1.large {n us ul : Nat} {os : List Ob} (h : Ha1 n us ul os) {k : Nat} (h40 : k ≤ 40) (hk : 16 < k) (hf : k ≤ 900 - ul) (g : Nat) : Ha1 (n + 1) us (ul + k) (os ++ [nOb n ul g k]) := by
  have hb : big (nOb n ul g k) = true := by rw [big_nOb]; simp; omega
  have h900 := h.ll
  have hl := h.len
  refine ⟨by rw [← hl]; exact h.num.add ul g k, by simp [h.len], ?_, ?_, h.ls, by omega, List.pairwise_append.2 ⟨h.stk, List.pairwise_singleton _ _, fun a ha b hb' e => ?_⟩, fun o ho => ?_, fun o ho => ?_, fun o ho c hc => ?_⟩
  · rw [sumS_app, ← h.es]; simp [sumS, hb]
  · rw [sumL_app, ← h.el]; simp only [sumL, hb, if_true]; simp [nOb]
  · rw [List.mem_singleton] at hb'
    subst hb'
    have := h.top a ha
    rw [e, hb] at this
    exact this
  · rcases List.mem_append.1 ho with q | q
    · exact h.siz o q
    · rw [List.mem_singleton] at q; subst q; simp [nOb]; omega
  · rcases List.mem_append.1 ho with q | q
    · have := h.top o q
      split at this
      · rename_i c; rw [if_pos c]; omega
      · rename_i c; rw [if_neg c]; exact this
    · rw [List.mem_singleton] at q; subst q; rw [hb]; simp [nOb]
  · rcases List.mem_append.1 ho with q | q
    · exact h.zer o q c hc
    · rw [List.mem_singleton] at q; subst q; exact List.eq_of_mem_replicate hc
/-- The objects while words are written. -/
structure Ha2 (n : Nat) (os : List Ob) : Prop where
  num : Num os
  len : os.length = n
  ss : sumS os ≤ 600
  sl : sumL os ≤ 900
  stk : Stk os
  siz : ∀ o ∈ os, 1 ≤ o.ws.length ∧ o.ws.length ≤ 40
  top : ∀ o ∈ os, o.p + o.ws.length ≤ (if big o = true then 900 else 600)
  rf : ∀ o ∈ os, ∀ c ∈ o.ws, c.2 = true → 1 ≤ c.1 ∧ c.1 ≤ ((n : Nat) : Int)
theorem Ha1.next {n us ul : Nat} {os : List Ob} (h : Ha1 n us ul os) : Ha2 n os := by
  have h1 := h.ls; have h2 := h.ll; have h3 := h.es; have h4 := h.el
  refine ⟨h.num, h.len, by omega, by omega, h.stk, h.siz, fun o ho => ?_, fun o ho c hc k => by rw [h.zer o ho c hc] at k; cases k⟩
  have := h.top o ho
  split
  · rename_i c; rw [if_pos c] at this; omega
  · rename_i c; rw [if_neg c] at this; omega
section
variable {n : Nat} {os : List Ob}
theorem Ha2.refs (h : Ha2 n os) : Refs os := fun o ho c hc k => by
  obtain ⟨h1, h2⟩ := h.rf o ho c hc k
  exact .inr (h.num.some h1 (by rw [h.len]; exact h2))
theorem put_big (o : Ob) (i : Nat) (c : Int × Bool) : big (o.put i c) = big o := by simp [big, Ob.put]
theorem sumS_put : ∀ {os : List Ob} {j : Nat} {o : Ob} (i : Nat) (c : Int × Bool), os[j]? = some o → sumS (os.set j (o.put i c)) = sumS os
  | [], _, _, _, _, h => by simp at h
  | a :: t, 0, o, i, c, h => by simp at h; subst h; simp only [List.set_cons_zero, sumS, put_big]; simp [Ob.put]
  | a :: t, j + 1, o, i, c, h => by simp only [List.set_cons_succ, sumS, sumS_put i c (show t[j]? = some o by simpa using h)]
theorem sumL_put : ∀ {os : List Ob} {j : Nat} {o : Ob} (i : Nat) (c : Int × Bool), os[j]? = some o → sumL (os.set j (o.put i c)) = sumL os
  | [], _, _, _, _, h => by simp at h
  | a :: t, 0, o, i, c, h => by simp at h; subst h; simp only [List.set_cons_zero, sumL, put_big]; simp [Ob.put]
  | a :: t, j + 1, o, i, c, h => by simp only [List.set_cons_succ, sumL, sumL_put i c (show t[j]? = some o by simpa using h)]
theorem put_len (o : Ob) (i : Nat) (c : Int × Bool) : (o.put i c).ws.length = o.ws.length := by simp [Ob.put]
theorem set_all {P : Ob → Prop} {j : Nat} {q : Ob} (h : ∀ o ∈ os, P o) (hq : P q) : ∀ o ∈ os.set j q, P o := by
  intro o ho
  rcases List.mem_or_eq_of_mem_set ho with k | k
  · exact h o k
  · rw [k]; exact hq
theorem Ha2.put (h : Ha2 n os) {j : Nat} {o : Ob} (hj : os[j]? = some o) (i : Nat) (c : Int × Bool) (hc : c.2 = true → 1 ≤ c.1 ∧ c.1 ≤ ((n : Nat) : Int)) : Ha2 n (os.set j (o.put i c)) := by
  have hm := List.mem_of_getElem? hj
  have hl := (List.getElem?_eq_some_iff.1 hj).1
  refine ⟨fun k q hk => ?_, by rw [List.length_set]; exact h.len, by rw [sumS_put i c hj]; exact h.ss, by rw [sumL_put i c hj]; exact h.sl, ?_, set_all h.siz (by rw [put_len]; exact h.siz o hm), set_all h.top (by rw [put_len, put_big]; exact h.top o hm), set_all h.rf (fun d hd k => ?_)⟩
  · by_cases e : j = k
    · subst e
      rw [List.getElem?_set_self hl] at hk
      cases hk
      exact h.num j o hj
    · rw [List.getElem?_set_ne e] at hk
      exact h.num k q hk
  · have hs := h.stk
    unfold Stk at hs ⊢
    rw [List.pairwise_iff_getElem] at hs ⊢
    intro a b ha hb hab
    rw [List.length_set] at ha hb
    have key : ∀ k (hk : k < os.length), big ((os.set j (o.put i c))[k]'(by rw [List.length_set]; exact hk)) = big os[k] ∧ ((os.set j (o.put i c))[k]'(by rw [List.length_set]; exact hk)).p = os[k].p ∧ ((os.set j (o.put i c))[k]'(by rw [List.length_set]; exact hk)).ws.length = os[k].ws.length := by
      intro k hk
      rw [List.getElem_set]
      split
      · rename_i e
        subst e
        have : os[j] = o := (List.getElem?_eq_some_iff.1 hj).2
        rw [this]
        exact ⟨put_big _ _ _, rfl, put_len _ _ _⟩
      · exact ⟨rfl, rfl, rfl⟩
    obtain ⟨a1, a2, a3⟩ := key a ha
    obtain ⟨b1, b2, b3⟩ := key b hb
    rw [a1, b1, a2, a3, b2]
    exact hs a b ha hb hab
  · rcases List.mem_or_eq_of_mem_set hd with q | q
    · exact h.rf o hm d q k
    · rw [q] at k ⊢; exact hc k
end
/-! ### Marks, round by round -/
/-- A row of answers. -/
def boolC (bs : List Bool) : List Value := bs.map .bool
theorem boolC_len (bs : List Bool) : (boolC bs).length = bs.length * 1 := by unfold boolC; rw [List.length_map]; omega
theorem boolC_at {bs : List Bool} {i : Nat} {b : Bool} (h : bs[i]? = some b) : (boolC bs)[i]? = some (.bool b) := by unfold boolC; rw [List.getElem?_map, h]; rfl
theorem boolC_set (bs : List Bool) (i : Nat) (b : Bool) : over (boolC bs) i [.bool b] = boolC (bs.set i b) := by
  unfold boolC
  simp only [over, List.map_set]
theorem boolC_made (n : Nat) : (madeCells #[.bool false] (n * 1)).toList = boolC (List.replicate n false) := by
  unfold madeCells boolC
  rw [Array.toList_map, Array.toList_range, Nat.mul_one]
  induction n with
  | zero => rfl
  | succ n ih =>
    rw [List.range_succ, List.map_append, ih, List.replicate_succ', List.map_append]
    simp [Nat.mod_one]
/-- A mark at a place. -/
def On (bs : List Bool) (y : Nat) : Prop := bs[y]? = some true
theorem on_set {bs : List Bool} {i y : Nat} (hi : i < bs.length) : On (bs.set i true) y ↔ y = i ∨ On bs y := by
  unfold On
  by_cases e : i = y
  · subst e
    rw [List.getElem?_set_self hi]
    simp
  · rw [List.getElem?_set_ne e]
    constructor
    · exact .inr
    · rintro (k | k)
      · exact absurd k.symm e
      · exact k
/-- What an object with a mark names has one. -/
def Cl (os : List Ob) (bs : List Bool) : Prop := ∀ (j : Nat) (o : Ob), os[j]? = some o → On bs (j + 1) → ∀ z : Int, (z, true) ∈ o.ws → On bs z.toNat
/-- How many marks there are from 1 on. -/
def cnt (bs : List Bool) : Nat := (bs.drop 1).count true
theorem cnt_le (bs : List Bool) : cnt bs ≤ bs.length - 1 := by
  unfold cnt
  have := List.count_le_length (a := true) (l := bs.drop 1)
  rw [List.length_drop] at this
  exact this
theorem count_lt : ∀ (a b : List Bool), a.length = b.length → (∀ i, On a i → On b i) → (∃ i, On b i ∧ ¬ On a i) → a.count true < b.count true
  | [], [], _, _, ⟨i, h, _⟩ => by simp [On] at h
  | [], _ :: _, h, _, _ => by simp at h
  | _ :: _, [], h, _, _ => by simp at h
  | x :: a, y :: b, hl, hs, ⟨i, hb, ha⟩ => by
    have hl' : a.length = b.length := by simpa using hl
    have hs' : ∀ j, On a j → On b j := fun j hj => by have := hs (j + 1) (by simpa [On] using hj); simpa [On] using this
    have h0 : x = true → y = true := fun k => by have := hs 0 (by simp [On, k]); simpa [On] using this
    have hle : a.count true ≤ b.count true := by
      by_cases q : ∃ i, On b i ∧ ¬ On a i
      · exact Nat.le_of_lt (count_lt a b hl' hs' q)
      · have : a = b := by
          apply List.ext_getElem?
          intro k
          by_cases hk : k < a.length
          · have e1 : On a k ↔ On b k := ⟨hs' k, fun z => Classical.byContradiction fun w => q ⟨k, z, w⟩⟩
            unfold On at e1
            rw [List.getElem?_eq_getElem hk, List.getElem?_eq_getElem (by omega)] at e1 ⊢
            simp only [Option.some.injEq] at e1 ⊢
            cases h1 : a[k] <;> cases h2 : b[k] <;> simp_all
          · rw [List.getElem?_eq_none (by omega), List.getElem?_eq_none (by omega)]
        rw [this]
        exact Nat.le_refl _
    cases i with
    | zero =>
      have hy : y = true := by simpa [On] using hb
      have hx : x = false := by simp [On] at ha; exact ha
      subst hy; subst hx
      simp
      omega
    | succ i =>
      have := count_lt a b hl' hs' ⟨i, by simpa [On] using hb, by simpa [On] using ha⟩
      cases x <;> cases y <;> simp_all <;> omega
theorem cnt_lt {a b : List Bool} (hl : a.length = b.length) (hs : ∀ i, On a i → On b i) {y : Nat} (hy : 1 ≤ y) (hb : On b y) (ha : ¬ On a y) : cnt a < cnt b := by
  unfold cnt
  have e : ∀ (l : List Bool) i, On (l.drop 1) i ↔ On l (1 + i) := fun l i => by unfold On; rw [List.getElem?_drop]
  refine count_lt _ _ (by simp [hl]) (fun i hi => (e b i).2 (hs _ ((e a i).1 hi))) ⟨y - 1, (e b _).2 (by rw [show 1 + (y - 1) = y from by omega]; exact hb), fun k => ha ?_⟩
  have := (e a _).1 k
  rw [show 1 + (y - 1) = y from by omega] at this
  exact this
end Go.Proofs.Ytcigofjajphmjaa
