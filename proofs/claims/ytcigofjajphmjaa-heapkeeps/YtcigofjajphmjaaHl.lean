/- Rounds of marks, and where what stays stands. -/
import Derived.Test.YtcigofjajphmjaaHk
namespace Go.Proofs.Ytcigofjajphmjaa
open Go.RowKit
set_option linter.unusedVariables false
set_option linter.unusedSimpArgs false

def ClP (os : List Ob) (P : Nat → Prop) : Prop := ∀ (j : Nat) (o : Ob), os[j]? = some o → P (j + 1) → ∀ z : Int, (z, true) ∈ o.ws → P z.toNat
/-- Marks within a round that began with S. -/
structure Rn1 (os : List Ob) (S bs : List Bool) : Prop where
  len : bs.length = S.length
  mono : ∀ y, On S y → On bs y
  least : ∀ P : Nat → Prop, ClP os P → (∀ y, On S y → P y) → ∀ y, On bs y → P y
/-- So many objects are looked at. -/
def Dn (os : List Ob) (S bs : List Bool) (i : Nat) : Prop := ∀ (j : Nat) (o : Ob), j < i → os[j]? = some o → On S (j + 1) → ∀ z : Int, (z, true) ∈ o.ws → On bs z.toNat
section
variable {n : Nat} {os : List Ob} {S bs : List Bool} {rs : List Int}
theorem Rn1.start (os : List Ob) (S : List Bool) : Rn1 os S S := ⟨rfl, fun _ h => h, fun _ _ h => h⟩
theorem Rn1.mark (h : Rn1 os S bs) {j : Nat} {o : Ob} (hj : os[j]? = some o) (hb : On bs (j + 1)) {z : Int} (hz : (z, true) ∈ o.ws) (hl : z.toNat < bs.length) : Rn1 os S (bs.set z.toNat true) := by
  refine ⟨by rw [List.length_set]; exact h.len, fun y hy => (on_set hl).2 (.inr (h.mono y hy)), fun P hP hS y hy => ?_⟩
  rcases (on_set hl).1 hy with k | k
  · rw [k]; exact hP j o hj (h.least P hP hS _ hb) z hz
  · exact h.least P hP hS y k
theorem Dn.more {i : Nat} (h : Dn os S bs i) {x : Nat} (hl : x < bs.length) : Dn os S (bs.set x true) i := fun j o hj ho hS z hz => (on_set hl).2 (.inr (h j o hj ho hS z hz))
theorem Dn.next {i : Nat} (h : Dn os S bs i) {o : Ob} (ho : os[i]? = some o) (hc : ∀ z : Int, (z, true) ∈ o.ws → On bs z.toNat) : Dn os S bs (i + 1) := by
  intro j q hj hq hS z hz
  by_cases e : j = i
  · subst e
    rw [ho] at hq
    cases hq
    exact hc z hz
  · exact h j q (by omega) hq hS z hz
theorem Dn.skip {i : Nat} (h : Dn os S bs i) (hR : Rn1 os S bs) (hn : ¬ On bs (i + 1)) : Dn os S bs (i + 1) := by
  intro j q hj hq hS z hz
  by_cases e : j = i
  · subst e; exact absurd (hR.mono _ hS) hn
  · exact h j q (by omega) hq hS z hz
theorem take_on {o : Ob} {k : Nat} {z : Int} {b : Bool} (hk : o.ws[k]? = some (z, b)) (h : ∀ y : Int, (y, true) ∈ o.ws.take k → On bs y.toNat) (hz : b = true → On bs z.toNat) : ∀ y : Int, (y, true) ∈ o.ws.take (k + 1) → On bs y.toNat := by
  intro y hy
  rw [List.take_add_one, hk] at hy
  rcases List.mem_append.1 hy with q | q
  · exact h y q
  · simp at q
    obtain ⟨rfl, rfl⟩ := q
    exact hz rfl
/-- Marks between rounds. -/
structure Ro (n : Nat) (os : List Ob) (rs : List Int) (r : Nat) (bs : List Bool) : Prop where
  len : bs.length = n + 1
  snd : ∀ y, On bs y → y = 0 ∨ Rc os rs ((y : Nat) : Int)
  root : ∀ r ∈ rs, On bs r.toNat
  prog : Cl os bs ∨ r + 1 ≤ cnt bs
theorem cnt_pos {y : Nat} (hy : 1 ≤ y) (h : On bs y) : 1 ≤ cnt bs := by
  unfold cnt
  have : true ∈ bs.drop 1 := by
    refine List.mem_iff_getElem?.2 ⟨y - 1, ?_⟩
    rw [List.getElem?_drop, show 1 + (y - 1) = y from by omega]
    exact h
  exact List.one_le_count_iff.2 this
theorem Ro.start (hl : bs.length = n + 1) (hr : ∀ y : Nat, On bs y ↔ ((y : Nat) : Int) ∈ rs) (h0 : ∀ r ∈ rs, 0 ≤ r) : Ro n os rs 0 bs := by
  refine ⟨hl, fun y hy => ?_, fun r hr' => (hr r.toNat).2 (by rw [show ((r.toNat : Nat) : Int) = r from by have := h0 r hr'; omega]; exact hr'), ?_⟩
  · by_cases e : y = 0
    · exact .inl e
    · exact .inr (.root ((hr y).1 hy) (by omega))
  · by_cases q : ∃ y, 1 ≤ y ∧ On bs y
    · obtain ⟨y, h1, h2⟩ := q
      exact .inr (cnt_pos h1 h2)
    · exact .inl fun j o hj hb => absurd ⟨j + 1, by omega, hb⟩ q
theorem Ro.next (h : Ha2 n os) {r : Nat} (hR : Ro n os rs r S) (h1 : Rn1 os S bs) (hd : Dn os S bs n) : Ro n os rs (r + 1) bs := by
  refine ⟨h1.len.trans hR.len, fun y hy => ?_, fun q hq => h1.mono _ (hR.root q hq), ?_⟩
  · refine h1.least (fun y => y = 0 ∨ Rc os rs ((y : Nat) : Int)) (fun j o hj hP z hz => ?_) hR.snd y hy
    have hm := List.mem_of_getElem? hj
    obtain ⟨z1, z2⟩ := h.rf o hm _ hz rfl
    rcases hP with k | k
    · omega
    · right
      rw [show ((z.toNat : Nat) : Int) = z from by omega]
      exact .ref k (h.num.at hj) hz (by omega)
  · rcases hR.prog with k | k
    · left
      have hsub : ∀ y, On bs y → On S y := h1.least (On S) k (fun _ h => h)
      exact fun j o hj hb z hz => h1.mono _ (k j o hj (hsub _ hb) z hz)
    · by_cases q : Cl os S
      · left
        have hsub : ∀ y, On bs y → On S y := h1.least (On S) q (fun _ h => h)
        exact fun j o hj hb z hz => h1.mono _ (q j o hj (hsub _ hb) z hz)
      · right
        unfold Cl at q
        simp only [Classical.not_forall] at q
        obtain ⟨j, o, hj, hS, z, hz, hn⟩ := q
        have hm := List.mem_of_getElem? hj
        obtain ⟨z1, z2⟩ := h.rf o hm _ hz rfl
        have hjl := (List.getElem?_eq_some_iff.1 hj).1
        have := cnt_lt (h1.len.symm) h1.mono (y := z.toNat) (by omega) (hd j o (by have := h.len; omega) hj hS z hz) hn
        omega
theorem Ro.all (h : Ha2 n os) (hR : Ro n os rs n bs) (y : Nat) (h1 : 1 ≤ y) : On bs y ↔ Rc os rs ((y : Nat) : Int) := by
  have hc : Cl os bs := by
    rcases hR.prog with k | k
    · exact k
    · have := cnt_le bs
      rw [hR.len] at this
      omega
  refine ⟨fun k => (hR.snd y k).resolve_left (by omega), fun k => ?_⟩
  have key : ∀ x : Int, Rc os rs x → On bs x.toNat := by
    intro x hx
    induction hx with
    | root a _ => exact hR.root _ a
    | ref a b c d ih =>
      rename_i x y o
      obtain ⟨hm, he⟩ := fO_mem b
      obtain ⟨j, hj⟩ := List.mem_iff_getElem?.1 hm
      have hx := h.num j o hj
      have : x.toNat = j + 1 := by omega
      rw [this] at ih
      exact hc j o hj ih _ c
  have := key _ k
  simpa using this
end
/-! ### What stays -/
section
variable {n : Nat} {os : List Ob} {ws : List Int}
theorem stay_mem {o : Ob} : o ∈ stay ws os ↔ o ∈ os ∧ ((o.x : Nat) : Int) ∈ ws := by
  unfold stay
  rw [List.mem_filter]
  simp
theorem mvD_find (q : Nat) {L : List Ob} {o : Ob} (ho : o ∈ L) : ∃ o2 ∈ mvD q L, o2.x = o.x ∧ o2.ws = o.ws := by
  have : (o.x, o.ws) ∈ (mvD q L).map fun o => (o.x, o.ws) := by rw [mvD_ws]; exact List.mem_map.2 ⟨o, ho, rfl⟩
  obtain ⟨o2, h1, h2⟩ := List.mem_map.1 this
  exact ⟨o2, h1, congrArg Prod.fst h2, congrArg Prod.snd h2⟩
theorem mvD_back (q : Nat) {L : List Ob} {o2 : Ob} (ho : o2 ∈ mvD q L) : ∃ o ∈ L, o2.x = o.x ∧ o2.ws = o.ws := by
  have : (o2.x, o2.ws) ∈ L.map fun o => (o.x, o.ws) := by rw [← mvD_ws L q]; exact List.mem_map.2 ⟨o2, ho, rfl⟩
  obtain ⟨o, h1, h2⟩ := List.mem_map.1 this
  exact ⟨o, h1, (congrArg Prod.fst h2).symm, (congrArg Prod.snd h2).symm⟩
theorem mvD_low : ∀ (L : List Ob) (q : Nat), ∀ o ∈ mvD q L, (big o = true ∧ o ∈ L) ∨ (big o = false ∧ q ≤ o.p ∧ o.p + o.ws.length ≤ q + sumS L)
  | [], _, o, h => by cases h
  | a :: t, q, o, h => by
    simp only [mvD] at h
    simp only [sumS]
    split at h
    · rename_i hb
      rw [if_pos hb]
      rcases List.mem_cons.1 h with e | h
      · subst e; exact .inl ⟨hb, by simp⟩
      · rcases mvD_low t q o h with ⟨h1, h2⟩ | h1
        · exact .inl ⟨h1, by simp [h2]⟩
        · exact .inr h1
    · rename_i hb
      rw [if_neg hb]
      have hb' : big a = false := by cases k : big a <;> simp_all
      rcases List.mem_cons.1 h with e | h
      · subst e
        exact .inr ⟨hb', Nat.le_refl _, by show q + a.ws.length ≤ _; omega⟩
      · rcases mvD_low t _ o h with ⟨h1, h2⟩ | ⟨h1, h2, h3⟩
        · exact .inl ⟨h1, by simp [h2]⟩
        · exact .inr ⟨h1, by omega, by omega⟩
theorem mvD_stk : ∀ (L : List Ob) (q : Nat), Stk L → Stk (mvD q L)
  | [], _, _ => .nil
  | a :: t, q, h => by
    obtain ⟨h1, h2⟩ := List.pairwise_cons.1 h
    simp only [mvD]
    split
    · rename_i hb
      refine List.pairwise_cons.2 ⟨fun b hb' e => ?_, mvD_stk t q h2⟩
      rcases mvD_low t q b hb' with ⟨k1, k2⟩ | ⟨k1, _⟩
      · exact h1 b k2 e
      · rw [hb, k1] at e; cases e
    · rename_i hb
      refine List.pairwise_cons.2 ⟨fun b hb' e => ?_, mvD_stk t _ h2⟩
      rcases mvD_low t _ b hb' with ⟨k1, _⟩ | ⟨k1, k2, _⟩
      · exact absurd (show big a = true from by rw [← k1]; exact e) hb
      · exact k2
theorem Ha2.top2 (h : Ha2 n os) : ∀ o ∈ mvD 0 (stay ws os), o.p + o.ws.length ≤ (if big o = true then 900 else 600) := by
  intro o ho
  rcases mvD_low _ _ o ho with ⟨k1, k2⟩ | ⟨k1, _, k3⟩
  · exact h.top o (stay_mem.1 k2).1
  · rw [k1]
    have h1 := sumS_sub (List.filter_sublist (p := fun o => decide (((o.x : Nat) : Int) ∈ ws)) (l := os))
    change sumS (stay ws os) ≤ _ at h1
    have h2 := h.ss
    simp
    omega
theorem Ha2.stk2 (h : Ha2 n os) : Stk (mvD 0 (stay ws os)) := mvD_stk _ _ (List.Pairwise.sublist List.filter_sublist h.stk)
theorem Ha2.find2 (h : Ha2 n os) {j : Nat} {o : Ob} (hj : os[j]? = some o) (hw : ((j + 1 : Nat) : Int) ∈ ws) : ∃ o2 ∈ mvD 0 (stay ws os), fO ((j + 1 : Nat) : Int) (mvD 0 (stay ws os)) = some o2 ∧ o2.x = j + 1 ∧ o2.ws = o.ws := by
  have hx := h.num j o hj
  have hm : o ∈ stay ws os := stay_mem.2 ⟨List.mem_of_getElem? hj, by rw [hx]; exact hw⟩
  obtain ⟨o2, h1, h2, h3⟩ := mvD_find 0 hm
  have hH : Hx (mvD 0 (stay ws os)) n := ((h.num.hx h.len).sub List.filter_sublist).mvD 0
  have := hH.at h1
  rw [h2, hx] at this
  exact ⟨o2, h1, this, h2.trans hx, h3⟩
theorem Ha2.lost2 (h : Ha2 n os) {y : Int} (hw : y ∉ ws) : fO y (mvD 0 (stay ws os)) = none := by
  refine fO_none fun o ho k => ?_
  obtain ⟨q, hq, e, _⟩ := mvD_back 0 ho
  have := (stay_mem.1 hq).2
  rw [← e, k] at this
  exact hw this
/-- What is covered. -/
def Cov (L : List Ob) (x : Nat) (b : Bool) (j : Nat) : Prop := ∃ o ∈ L, o.x < x ∧ big o = b ∧ o.p ≤ j ∧ j < o.p + o.ws.length
theorem stk_lt : ∀ {L : List Ob}, Stk L → Rise L → ∀ {a b : Ob}, a ∈ L → b ∈ L → a.x < b.x → big a = big b → a.p + a.ws.length ≤ b.p := by
  intro L hs hr a b ha hb hab e
  obtain ⟨i, hi, rfl⟩ := List.getElem_of_mem ha
  obtain ⟨j, hj, rfl⟩ := List.getElem_of_mem hb
  rcases Nat.lt_trichotomy i j with k | k | k
  · exact List.pairwise_iff_getElem.1 hs i j hi hj k e
  · subst k; omega
  · have := List.pairwise_iff_getElem.1 hr j i hj hi k
    omega
theorem Cov.not {L : List Ob} (hs : Stk L) (hr : Rise L) {o : Ob} (ho : o ∈ L) {j : Nat} (h1 : o.p ≤ j) (h2 : j < o.p + o.ws.length) : ¬ Cov L o.x (big o) j := by
  rintro ⟨a, ha, hx, hb, h3, h4⟩
  have := stk_lt hs hr ha ho hx hb
  omega
theorem Cov.up {L : List Ob} {x : Nat} {b : Bool} {j : Nat} (h : Cov L x b j) : Cov L (x + 1) b j := by
  obtain ⟨a, ha, hx, r⟩ := h
  exact ⟨a, ha, by omega, r⟩
/-- A row of marks of what is used. -/
def Us (L : List Ob) (x : Nat) (b : Bool) (us : List Bool) : Prop := ∀ j, On us j → Cov L x b j
theorem us_start (L : List Ob) (x : Nat) (b : Bool) (n : Nat) : Us L x b (List.replicate n false) := by
  intro j h
  unfold On at h
  have := List.mem_of_getElem? h
  rw [List.mem_replicate] at this
  cases this.2
end
end Go.Proofs.Ytcigofjajphmjaa
