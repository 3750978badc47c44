/- What the law of room keeps of a heap. -/
import Derived.Test.YtcigofjajphmjaaHe
namespace Go.Proofs.Ytcigofjajphmjaa
open Go.RowKit
set_option linter.unusedVariables false
set_option linter.unusedSimpArgs false

/-- A new object. -/
def nOb (last p g n : Nat) : Ob := ⟨last + 1, p, g, n, List.replicate n (0, false)⟩
theorem nob_rows {X : List Ck} (h : noBld X) (os : List Ob) : noBld (os.map Ob.row ++ X) := by
  intro d hd b bs
  rcases List.mem_append.1 hd with k | k
  · obtain ⟨o, _, rfl⟩ := List.mem_map.1 k
    intro e
    cases e
  · exact h d k b bs
theorem nob_nil : noBld ([] : List Ck) := fun d hd => by cases hd
theorem perm_row {C X : List Ck} {os : List Ob} {o : Ob} {w0 w : World} (h : Mg w0 w (C ++ o.row :: (os.map Ob.row ++ X))) : Mg w0 w (C ++ ((os ++ [o]).map Ob.row ++ X)) := by
  refine h.perm (List.Perm.append_left C ?_)
  rw [List.map_append, List.map_cons, List.map_nil, List.append_assoc]
  exact List.perm_middle.symm
theorem Hx.add {os : List Ob} {last : Nat} (h : Hx os last) (o : Ob) (ho : o.x = last + 1) : Hx (os ++ [o]) (last + 1) := by
  refine ⟨List.pairwise_append.2 ⟨h.rise, List.pairwise_singleton _ _, fun a ha b hb => ?_⟩, fun q hq => ?_, fun q hq => ?_⟩
  · rw [List.mem_singleton] at hb
    subst hb
    have := h.hi a ha
    omega
  · rcases List.mem_append.1 hq with k | k
    · exact h.lo q k
    · rw [List.mem_singleton] at k; subst k; omega
  · rcases List.mem_append.1 hq with k | k
    · have := h.hi q k; omega
    · rw [List.mem_singleton] at k; subst k; omega
/-- A word of an object is written. -/
def Ob.put (o : Ob) (i : Nat) (c : Int × Bool) : Ob := { o with ws := o.ws.set i c }
theorem put_en (o : Ob) (i : Nat) (c : Int × Bool) : (o.put i c).en = o.en := by simp [Ob.put, Ob.en, Ob.v, Ob.sl]
theorem put_map {os : List Ob} {j : Nat} {o : Ob} (h : os[j]? = some o) (i : Nat) (c : Int × Bool) : (os.set j (o.put i c)).map Ob.en = os.map Ob.en := by
  rw [List.map_set, put_en]
  apply List.ext_getElem?
  intro k
  by_cases e : j = k
  · subst e
    rw [List.getElem?_set_self (by rw [List.length_map]; exact (List.getElem?_eq_some_iff.1 h).1), List.getElem?_map, h]
    rfl
  · rw [List.getElem?_set_ne e]
theorem row_place {os : List Ob} {j : Nat} {o : Ob} (h : os[j]? = some o) (C X : List Ck) : (C ++ (os.map Ob.row ++ X))[C.length + j]? = some o.row := by
  rw [List.getElem?_append_right (by omega), Nat.add_sub_cancel_left, List.getElem?_append_left (by rw [List.length_map]; exact (List.getElem?_eq_some_iff.1 h).1), List.getElem?_map, h]
  rfl
theorem row_put {os : List Ob} {j : Nat} {o : Ob} (h : os[j]? = some o) (C X : List Ck) (i : Nat) (z : Int) (b : Bool) (hi : i < o.ws.length) : (C ++ (os.map Ob.row ++ X)).set (C.length + j) (.row 32 2 (.slice (some ⟨o.g, 0, none⟩) o.ws.length o.c) o.ws.length (over (cellC o.ws) (i * 2) [.int .i64 z, .bool b])) = C ++ ((os.set j (o.put i (z, b))).map Ob.row ++ X) := by
  have hl := (List.getElem?_eq_some_iff.1 h).1
  rw [cellC_set z b hi, List.set_append_right _ _ (by omega), Nat.add_sub_cancel_left, List.set_append_left _ _ (by rw [List.length_map]; exact hl), List.map_set]
  congr 3
  simp [Ob.row, Ob.sl, Ob.put]
structure Hm (S i u last : Nat) (os : List Ob) (gs gl : List (Nat × Nat)) : Prop where
  hx : Hx os last
  la : last ≤ i
  po : ∀ o ∈ os, 1 ≤ o.ws.length ∧ o.p ≤ 65536
  nr : ∀ o ∈ os, ∀ c ∈ o.ws, c.2 = false
  su : sumW os = u
  le : u ≤ S
  gp : gs = [(u, S - u)] ∨ (gs = [] ∧ S = 0)
  gn : gl = [(0, 0)] ∨ gl = []
theorem len_sumW : ∀ {os : List Ob}, (∀ o ∈ os, 1 ≤ o.ws.length) → os.length ≤ sumW os
  | [], _ => Nat.le_refl _
  | o :: t, h => by
    have := len_sumW (os := t) (fun q hq => h q (by simp [hq]))
    have := h o (by simp)
    simp only [List.length_cons, sumW]
    omega
theorem one_sumW : ∀ {os : List Ob} {o : Ob}, o ∈ os → o.ws.length ≤ sumW os
  | [], _, h => by cases h
  | a :: t, o, h => by
    simp only [sumW]
    rcases List.mem_cons.1 h with rfl | h
    · omega
    · have := one_sumW h; omega
section
variable {S i u last : Nat} {os : List Ob} {gs gl : List (Nat × Nat)}
theorem Hm.start (S : Nat) : Hm S 0 0 0 [] [(0, S)] [(0, 0)] := ⟨⟨.nil, (fun o h => by cases h), (fun o h => by cases h)⟩, Nat.le_refl _, (fun o h => by cases h), (fun o h => by cases h), rfl, Nat.zero_le _, .inl rfl, .inl rfl⟩
theorem Hm.len (h : Hm S i u last os gs gl) : os.length ≤ u := by rw [← h.su]; exact len_sumW fun o ho => (h.po o ho).1
theorem Hm.one (h : Hm S i u last os gs gl) : ∀ o ∈ os, o.ws.length ≤ u := fun o ho => by rw [← h.su]; exact one_sumW ho
theorem Hm.refs (h : Hm S i u last os gs gl) : Refs os := fun o ho c hc hk => by rw [h.nr o ho c hc] at hk; cases hk
theorem Hm.sum (h : Hm S i u last os gs gl) : sumG gs = S - u ∧ sumG gl = 0 ∧ gs.length ≤ 1 ∧ gl.length ≤ 1 := by
  have := h.le
  refine ⟨?_, ?_, ?_, ?_⟩
  · rcases h.gp with k | ⟨k, k2⟩
    · rw [k]; rfl
    · rw [k, k2]; simp [sumG]
  · rcases h.gn with k | k <;> rw [k] <;> rfl
  · rcases h.gp with k | ⟨k, _⟩ <;> rw [k] <;> simp
  · rcases h.gn with k | k <;> rw [k] <;> simp
theorem Hm.hit (h : Hm S i u last os gs gl) {n : Nat} (h1 : 1 ≤ n) (k : (idxG n gs).isSome = true) : idxG n gs = some 0 ∧ gs[0]? = some (u, S - u) ∧ n ≤ S - u ∧ gs = [(u, S - u)] := by
  rcases h.gp with e | ⟨e, _⟩
  · subst e
    by_cases hn : n ≤ S - u
    · exact ⟨by simp [idxG, hn], rfl, hn, rfl⟩
    · simp [idxG, hn] at k
  · subst e; cases k
theorem Hm.miss (h : Hm S i u last os gs gl) {n : Nat} (h1 : 1 ≤ n) (k : (idxG n gs).isSome = false) : idxG n gs = none ∧ ¬ u + n ≤ S := by
  have hle := h.le
  rcases h.gp with e | ⟨e, e2⟩
  · subst e
    by_cases hn : n ≤ S - u
    · simp [idxG, hn] at k
    · exact ⟨by simp [idxG, hn], by omega⟩
  · subst e; exact ⟨rfl, by omega⟩
theorem Hm.alloc (h : Hm S i u last os gs gl) (hS : S ≤ 65536) {n : Nat} (h1 : 1 ≤ n) (hn : n ≤ S - u) (he : gs = [(u, S - u)]) (g : Nat) : Hm S (i + 1) (u + n) (last + 1) (os ++ [nOb last u g n]) (gs.set 0 (u + n, S - u - n)) gl := by
  have hle := h.le
  have hla := h.la
  refine ⟨h.hx.add _ rfl, by omega, fun o ho => ?_, fun o ho c hc => ?_, ?_, by omega, .inl ?_, h.gn⟩
  · rcases List.mem_append.1 ho with k | k
    · exact h.po o k
    · rw [List.mem_singleton] at k; subst k; exact ⟨by simpa [nOb] using h1, by show u ≤ 65536; omega⟩
  · rcases List.mem_append.1 ho with k | k
    · exact h.nr o k c hc
    · rw [List.mem_singleton] at k; subst k; rw [List.eq_of_mem_replicate hc]
  · rw [sumW_append, h.su]; simp [sumW, nOb]
  · rw [he, show S - (u + n) = S - u - n from by omega]; rfl
theorem no_root {ws : List Int} (hW : ∀ x, x ∈ ws ↔ Rc os [] x) : stay ws os = [] ∧ went ws os = os := by
  have hn : ∀ x, ¬ Rc os [] x := by
    intro x k
    induction k with
    | root h _ => cases h
    | ref _ _ _ _ ih => exact ih
  refine ⟨List.filter_eq_nil_iff.2 fun o _ => ?_, List.filter_eq_self.2 fun o _ => ?_⟩
  · have := hn ((o.x : Nat) : Int)
    rw [← hW] at this
    simp [this]
  · have := hn ((o.x : Nat) : Int)
    rw [← hW] at this
    simp [this]
theorem Hm.clear (h : Hm S i u last os gs gl) : Hm S (i + 1) 0 last [] (gap1 0 S) [] := by
  have := h.la
  refine ⟨⟨.nil, (fun o h => by cases h), (fun o h => by cases h)⟩, by omega, (fun o h => by cases h), (fun o h => by cases h), rfl, Nat.zero_le _, ?_, .inr rfl⟩
  unfold gap1
  split
  · exact .inl rfl
  · exact .inr ⟨rfl, by omega⟩
end
end Go.Proofs.Ytcigofjajphmjaa
