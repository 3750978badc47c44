/- More of sweeps, of what is live, of what is moved and of what stands. -/
import Derived.Test.YtcigofjajphmjaaHd
namespace Go.Proofs.Ytcigofjajphmjaa
open Go.RowKit
set_option linter.unusedVariables false
set_option linter.unusedSimpArgs false

variable {os : List Ob}
/-- The heap's handles: from 1 to the last one given, rising. -/
structure Hx (os : List Ob) (last : Nat) : Prop where
  rise : Rise os
  lo : ∀ o ∈ os, 1 ≤ o.x
  hi : ∀ o ∈ os, o.x ≤ last
theorem Hx.sub {os' : List Ob} {last : Nat} (h : Hx os last) (hs : os'.Sublist os) : Hx os' last := ⟨rise_sub h.rise hs, fun o ho => h.lo o (hs.subset ho), fun o ho => h.hi o (hs.subset ho)⟩
theorem Hx.old {last : Nat} (h : Hx os last) : ∀ e ∈ os.map Ob.en, e.b < last := by
  intro e he
  obtain ⟨o, ho, rfl⟩ := List.mem_map.1 he
  have := h.lo o ho
  have := h.hi o ho
  show o.x - 1 < last
  omega
theorem Hx.nodup {last : Nat} (h : Hx os last) : ((os.map Ob.en).map En.b).Nodup := rise_nodup h.rise h.lo
theorem Hx.at {last : Nat} (h : Hx os last) {o : Ob} (ho : o ∈ os) : fO ((o.x : Nat) : Int) os = some o := by
  obtain ⟨i, hi⟩ := List.mem_iff_getElem?.1 ho
  exact fO_at h.rise hi
theorem Hx.atK {last : Nat} (h : Hx os last) {o : Ob} (ho : o ∈ os) : Ytcigofjajphmjaa.atK ((o.x : Nat) : Int) (os.map Ob.en) = some o.en := by rw [atK_en, h.at ho]; rfl
theorem Hx.new {last : Nat} (h : Hx os last) : Ytcigofjajphmjaa.atK ((last + 1 : Nat) : Int) (os.map Ob.en) = none := by
  rw [atK_en, fO_none fun o ho => by have := h.hi o ho; omega]
  rfl
theorem swp_sub (ws : List Int) (seen : List Nat) (os : List Ob) : (swp ws seen os).Sublist os := List.filter_sublist
theorem sumW_sub {a b : List Ob} (h : a.Sublist b) : sumW a ≤ sumW b := by
  induction h with
  | slnil => exact Nat.le_refl _
  | cons _ _ ih => simp only [sumW]; omega
  | cons_cons _ _ ih => simp only [sumW]; omega
/-- What stays and what goes. -/
def stay (ws : List Int) (os : List Ob) : List Ob := os.filter fun o => decide (((o.x : Nat) : Int) ∈ ws)
def went (ws : List Int) (os : List Ob) : List Ob := os.filter fun o => !decide (((o.x : Nat) : Int) ∈ ws)
theorem all_seen {seen : List Nat} (h : unseen seen os = []) : ∀ o ∈ os, seen.contains (o.x - 1) = true := by
  intro o ho
  have := List.filter_eq_nil_iff.1 h o ho
  simpa using this
theorem swp_end {ws : List Int} {seen : List Nat} (h : unseen seen os = []) : swp ws seen os = stay ws os := by
  apply List.filter_congr
  intro o ho
  rw [all_seen h o ho]
  simp
theorem gone_end {ws : List Int} {seen : List Nat} (h : unseen seen os = []) : gone ws seen os = went ws os := by
  apply List.filter_congr
  intro o ho
  rw [all_seen h o ho]
  simp
/-- What has come of a range, of those that are asked for. -/
def came (p : Ob → Bool) (seen : List Nat) (os : List Ob) : List Ob := os.filter fun o => p o && seen.contains (o.x - 1)
theorem came_nil (p : Ob → Bool) (os : List Ob) : came p [] os = [] := List.filter_eq_nil_iff.2 fun o _ => by simp
theorem came_end {p : Ob → Bool} {seen : List Nat} (h : unseen seen os = []) : came p seen os = os.filter p := by
  apply List.filter_congr
  intro o ho
  rw [all_seen h o ho]
  simp
theorem came_no {p : Ob → Bool} {seen : List Nat} (h1 : ∀ o ∈ os, 1 ≤ o.x) {o : Ob} (hr : Rise os) (ho : o ∈ unseen seen os) (hp : p o = false) : came p (seen ++ [o.x - 1]) os = came p seen os := by
  apply List.filter_congr
  intro q hq
  rw [seen_next h1 ho q hq]
  by_cases k : q.x = o.x
  · rw [same_x hr hq (List.mem_filter.1 ho).1 k]; simp [hp]
  · simp [k]
theorem came_yes {p : Ob → Bool} {seen : List Nat} (h1 : ∀ o ∈ os, 1 ≤ o.x) {o : Ob} (hr : Rise os) (ho : o ∈ unseen seen os) (hp : p o = true) : (came p (seen ++ [o.x - 1]) os).Perm (came p seen os ++ [o]) := by
  have key : ∀ os' : List Ob, os'.Sublist os → o ∈ os' → (came p (seen ++ [o.x - 1]) os').Perm (came p seen os' ++ [o]) := by
    intro os' hs
    induction os' with
    | nil => intro h; cases h
    | cons a t ih =>
      intro hm
      have ha : a ∈ os := hs.subset (by simp)
      have hrt := rise_sub hr hs
      obtain ⟨r1, r2⟩ := List.pairwise_cons.1 hrt
      have hn := seen_next h1 ho a ha
      have hst := List.Sublist.trans (List.sublist_cons_self a t) hs
      unfold came at ih ⊢
      rw [List.filter_cons, List.filter_cons, hn]
      by_cases k : a.x = o.x
      · have e := same_x hr ha (List.mem_filter.1 ho).1 k
        subst e
        have hns : seen.contains (a.x - 1) = false := by
          have := (List.mem_filter.1 ho).2
          simpa using this
        rw [hp, hns]
        simp only [Bool.true_and, Bool.false_or, decide_true, if_true, Bool.false_eq_true, if_false]
        have e2 : (t.filter fun o => p o && (seen ++ [a.x - 1]).contains (o.x - 1)) = t.filter fun o => p o && seen.contains (o.x - 1) := by
          apply List.filter_congr
          intro q hq
          rw [seen_next h1 ho q (hst.subset hq)]
          have := r1 q hq
          have : ¬ q.x = a.x := by omega
          simp [this]
        rw [e2]
        exact (List.perm_append_singleton a _).symm
      · have hne : o ∈ t := by
          rcases List.mem_cons.1 hm with e | e
          · exact absurd (by rw [e]) k
          · exact e
        simp only [k, decide_false, Bool.or_false]
        split
        · rw [List.cons_append]
          exact (ih hst hne).cons a
        · exact ih hst hne
  exact key os (List.Sublist.refl _) (List.mem_filter.1 ho).1
/-- Handles as numbers. -/
def hxs (os : List Ob) : List Int := os.map fun o => ((o.x : Nat) : Int)
theorem hxs_rise (h : Rise os) : (hxs os).Pairwise fun a b => a < b := by
  unfold hxs
  rw [List.pairwise_map]
  exact h.imp fun {a b} hab => by omega
theorem sort_hxs {ks : List Int} (h : Rise os) (hp : ks.Perm (hxs os)) : ks.mergeSort (fun x y => decide (x ≤ y)) = hxs os := by
  refine List.Perm.eq_of_pairwise (le := fun a b => a ≤ b) (fun a b _ _ h1 h2 => by omega) ?_ ((hxs_rise h).imp fun {a b} h => by omega) ((List.mergeSort_perm _ _).trans hp)
  exact (List.pairwise_mergeSort (le := fun x y : Int => decide (x ≤ y)) (fun a b c h1 h2 => by simp at *; omega) (fun a b => by simp; omega) ks).imp fun {a b} h => by simpa using h
theorem hxs_len (os : List Ob) : (hxs os).length = os.length := by unfold hxs; rw [List.length_map]
theorem live_step {ks : List Int} {seen : List Nat} (h1 : ∀ o ∈ os, 1 ≤ o.x) {o : Ob} (hr : Rise os) (ho : o ∈ unseen seen os) (hk : ks.Perm (hxs (came (fun _ => true) seen os))) : (ks ++ [((o.x : Nat) : Int)]).Perm (hxs (came (fun _ => true) (seen ++ [o.x - 1]) os)) := by
  have h2 := (came_yes (p := fun _ => true) h1 hr ho rfl).map fun o : Ob => ((o.x : Nat) : Int)
  rw [List.map_append] at h2
  exact (hk.append_right _).trans h2.symm
theorem live_len {ks : List Int} {seen : List Nat} (hk : ks.Perm (hxs (came (fun _ => true) seen os))) : ks.length ≤ os.length := by
  rw [hk.length_eq, hxs_len]
  exact List.length_filter_le _ _
theorem live_end {ks : List Int} {seen : List Nat} (hz : unseen seen os = []) (hk : ks.Perm (hxs (came (fun _ => true) seen os))) : ks.Perm (hxs os) := by
  rw [came_end hz, List.filter_eq_self.2 (fun _ _ => rfl)] at hk
  exact hk
theorem hxs_at {i : Nat} {o : Ob} (h : os[i]? = some o) : (hxs os)[i]? = some ((o.x : Nat) : Int) := by unfold hxs; rw [List.getElem?_map, h]; rfl
/-- So many are moved down. -/
def cur (os : List Ob) (i : Nat) : List Ob := mvD 0 (os.take i) ++ os.drop i
theorem cur_x (os : List Ob) (i : Nat) : (cur os i).map Ob.x = os.map Ob.x := by
  unfold cur
  rw [List.map_append, mvD_x, ← List.map_append, List.take_append_drop]
theorem rise_x : ∀ {a b : List Ob}, a.map Ob.x = b.map Ob.x → Rise b → Rise a := by
  intro a b h hr
  have h1 : (b.map Ob.x).Pairwise (· < ·) := by rw [List.pairwise_map]; exact hr
  rw [← h, List.pairwise_map] at h1
  exact h1
theorem cur_at {i : Nat} {o : Ob} (h : os[i]? = some o) : (cur os i)[i]? = some o := by
  have hl := (List.getElem?_eq_some_iff.1 h).1
  unfold cur
  rw [List.getElem?_append_right (by rw [mvD_len, List.length_take]; omega), mvD_len, List.length_take, Nat.min_eq_left (by omega), Nat.sub_self, List.getElem?_drop, Nat.add_zero, h]
theorem cur_next {i : Nat} {o : Ob} (h : os[i]? = some o) : cur os (i + 1) = (cur os i).set i (if big o = true then o else { o with p := mvP 0 (os.take i) }) := by
  have hl := (List.getElem?_eq_some_iff.1 h).1
  have hd : os.drop i = o :: os.drop (i + 1) := by
    rw [List.drop_eq_getElem_cons hl]
    congr 1
    exact (List.getElem?_eq_some_iff.1 h).2
  unfold cur
  have hlen : (mvD 0 (os.take i)).length = i := by rw [mvD_len, List.length_take]; omega
  rw [List.take_add_one, h, hd]
  simp only [Option.toList_some]
  rw [mvD_snoc, List.set_append_right _ _ (by omega), hlen, Nat.sub_self, List.set_cons_zero, List.append_assoc]
  rfl
theorem cur_stay {i : Nat} {o : Ob} (h : os[i]? = some o) (hb : big o = true) : cur os (i + 1) = cur os i := by
  rw [cur_next h, if_pos hb]
  apply List.ext_getElem?
  intro j
  by_cases e : i = j
  · subst e
    have := cur_at h
    rw [List.getElem?_set_self (List.getElem?_eq_some_iff.1 this).1, this]
  · rw [List.getElem?_set_ne e]
theorem cur_all {i : Nat} (h : os.length ≤ i) : cur os i = mvD 0 os := by
  unfold cur
  rw [List.take_of_length_le h, List.drop_of_length_le h, List.append_nil]
theorem cur_zero : cur os 0 = os := by simp [cur, mvD]
theorem mvP_next {i : Nat} {o : Ob} (h : os[i]? = some o) : mvP 0 (os.take (i + 1)) = if big o = true then mvP 0 (os.take i) else mvP 0 (os.take i) + o.ws.length := by
  rw [List.take_add_one, h]
  exact mvP_snoc o (os.take i) 0
theorem mvP_small {i : Nat} : mvP 0 (os.take i) ≤ sumW os := by
  have := mvP_le (os.take i) 0
  have := sumW_take os i
  omega
theorem Hx.cur {last : Nat} (h : Hx os last) (i : Nat) : Hx (Ytcigofjajphmjaa.cur os i) last := by
  have hx := cur_x os i
  refine ⟨rise_x hx h.rise, fun o ho => ?_, fun o ho => ?_⟩ <;>
  · have : o.x ∈ (Ytcigofjajphmjaa.cur os i).map Ob.x := List.mem_map.2 ⟨o, ho, rfl⟩
    rw [hx] at this
    obtain ⟨q, hq, e⟩ := List.mem_map.1 this
    first
      | (have := h.lo q hq; omega)
      | (have := h.hi q hq; omega)
theorem stand_step {ys : List Ob} {p : Ob → Bool} {seen : List Nat} (h1 : ∀ o ∈ os, 1 ≤ o.x) {o : Ob} (hr : Rise os) (ho : o ∈ unseen seen os) (hp : p o = true) (hk : ys.Perm (came p seen os)) : (ys ++ [o]).Perm (came p (seen ++ [o.x - 1]) os) := (hk.append_right _).trans (came_yes h1 hr ho hp).symm
theorem stand_len {ys : List Ob} {p : Ob → Bool} {seen : List Nat} (hk : ys.Perm (came p seen os)) : ys.length ≤ os.length := by
  rw [hk.length_eq]
  exact List.length_filter_le _ _
/-- How many words the small objects have. -/
def sumS : List Ob → Nat
  | [] => 0
  | o :: t => if big o = true then sumS t else o.ws.length + sumS t
theorem sumS_le : ∀ os : List Ob, sumS os ≤ sumW os
  | [] => Nat.le_refl _
  | o :: t => by
    have := sumS_le t
    simp only [sumS, sumW]
    split <;> omega
theorem sumS_sub {a b : List Ob} (h : a.Sublist b) : sumS a ≤ sumS b := by
  induction h with
  | slnil => exact Nat.le_refl _
  | cons _ _ ih => simp only [sumS]; split <;> omega
  | cons_cons _ _ ih => simp only [sumS]; split <;> omega
theorem mvD_p : ∀ (os : List Ob) (q : Nat), ∀ o ∈ mvD q os, o.p ≤ q + sumS os ∨ o ∈ os
  | [], _, o, h => by cases h
  | a :: t, q, o, h => by
    simp only [mvD] at h
    simp only [sumS]
    split at h
    · rename_i hb
      rw [if_pos hb]
      rcases List.mem_cons.1 h with e | h
      · exact .inr (by simp [e])
      · exact (mvD_p t q o h).imp id (fun k => by simp [k])
    · rename_i hb
      rw [if_neg hb]
      rcases List.mem_cons.1 h with e | h
      · left
        subst e
        show q ≤ _
        omega
      · rcases mvD_p t _ o h with k | k
        · exact .inl (by omega)
        · exact .inr (by simp [k])
theorem mvD_rows : ∀ (os : List Ob) (q : Nat), (mvD q os).map Ob.row = os.map Ob.row
  | [], _ => rfl
  | a :: t, q => by
    simp only [mvD]
    split
    · simp only [List.map_cons, mvD_rows t]
    · simp only [List.map_cons, mvD_rows t]
      rfl
theorem mvD_ws : ∀ (os : List Ob) (q : Nat), (mvD q os).map (fun o => (o.x, o.ws)) = os.map fun o => (o.x, o.ws)
  | [], _ => rfl
  | a :: t, q => by
    simp only [mvD]
    split <;> simp only [List.map_cons, mvD_ws t]
theorem Hx.mvD {last : Nat} (h : Hx os last) (q : Nat) : Hx (Ytcigofjajphmjaa.mvD q os) last := by
  have hx := mvD_x os q
  refine ⟨rise_x hx h.rise, fun o ho => ?_, fun o ho => ?_⟩ <;>
  · have : o.x ∈ (Ytcigofjajphmjaa.mvD q os).map Ob.x := List.mem_map.2 ⟨o, ho, rfl⟩
    rw [hx] at this
    obtain ⟨z, hz, e⟩ := List.mem_map.1 this
    first
      | (have := h.lo z hz; omega)
      | (have := h.hi z hz; omega)
theorem mvD_cl {n : Nat} (h : ∀ o ∈ os, o.ws.length ≤ n) (q : Nat) : ∀ o ∈ Ytcigofjajphmjaa.mvD q os, o.ws.length ≤ n := by
  intro o ho
  have : (o.x, o.ws) ∈ (Ytcigofjajphmjaa.mvD q os).map fun o => (o.x, o.ws) := List.mem_map.2 ⟨o, ho, rfl⟩
  rw [mvD_ws] at this
  obtain ⟨z, hz, e⟩ := List.mem_map.1 this
  have e2 : z.ws = o.ws := congrArg Prod.snd e
  rw [← e2]
  exact h z hz
theorem mvD_sumW : ∀ (os : List Ob) (q : Nat), sumW (Ytcigofjajphmjaa.mvD q os) = sumW os
  | [], _ => rfl
  | a :: t, q => by
    simp only [Ytcigofjajphmjaa.mvD]
    split <;> simp only [sumW, mvD_sumW t]
def stP (b : Bool) (o : Ob) : Bool := big o == b
theorem lay_len : ∀ (os : List Ob) (b : Nat), (layG b os).length ≤ os.length
  | [], _ => Nat.le_refl _
  | o :: t, b => by
    have := lay_len t (o.p + o.ws.length)
    have : (gap1 b o.p).length ≤ 1 := by unfold gap1; split <;> simp
    simp only [layG, List.length_append, List.length_cons]
    omega
theorem layG_take {i : Nat} {o : Ob} (h : os[i]? = some o) : layG 0 (os.take (i + 1)) = layG 0 (os.take i) ++ gap1 (layB 0 (os.take i)) o.p := by
  rw [List.take_add_one, h]
  exact layG_snoc o _ 0
theorem layB_take {i : Nat} {o : Ob} (h : os[i]? = some o) : layB 0 (os.take (i + 1)) = o.p + o.ws.length := by
  rw [List.take_add_one, h]
  exact layB_snoc o _ 0
/-- Objects by rising places. -/
def ByP (ys : List Ob) : Prop := ys.Pairwise fun a b => a.p ≤ b.p
end Go.Proofs.Ytcigofjajphmjaa
