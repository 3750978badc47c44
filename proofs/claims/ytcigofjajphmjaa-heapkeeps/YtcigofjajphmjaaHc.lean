/- Rows of numbers and of objects; marks; what a sweep leaves; what is moved down; what is laid free. -/
import Derived.Test.YtcigofjajphmjaaHa
namespace Go.Proofs.Ytcigofjajphmjaa
open Go.RowKit
open Go.ChangeMaps (setBlock)
set_option linter.unusedVariables false
set_option linter.unusedSimpArgs false

section
variable {P : Program} {w0 w : World} {L : List Ck} {l : List (Nat × Value)} {ops : List Oper} {Q : Exit → Act → World → Prop} {a : Act} {n : Nat} {o : Oper} {rest : List Oper} {v : Value}
/-- A step whose answer is dropped changes an object. -/
theorem s_doObjN (hA : Sl a n l) (hM : Mg w0 w L) (hg : passes l ops o = true) (hdst : o.dst = none) {g : Nat} {o1 o2 : Obj} (he : Does P l o w v (setBlock w g o2)) (k : Nat) (hk0 : L[k]? = some (.obj g o1)) (hq : quiet o2) {L' : List Ck} (hL : L.set k (.obj g o2) = L')
    (hk : ∀ w', Mg w0 w' L' → wpList P ops.toArray Q rest a w') : wpList P ops.toArray Q (o :: rest) a w := by
  have h := hk _ (hL ▸ hM.setObj k hk0 hq)
  unfold wpList
  rw [if_pos (hA.wanted hg)]
  refine .inl ?_
  unfold Oper.wp
  rw [he a.eval (fun x u hx => hA.ev hx), Oper.upon_value, hdst]
  exact h
theorem Mg.nilRowH (h : Mg w0 w L) (hb : noBld L) (e : TypeId) (sz : Nat) : Mg w0 w (.row e sz (.slice none 0 0) 0 [] :: L) := by
  refine h.add (Below.refl _ _) ⟨by simp, .inl ⟨rfl, rfl⟩⟩ (fun k hk => by cases hk) (.inr (.inl ⟨_, _, _, _, _, rfl, .inr hb⟩))
end
section
variable {P : Program} {w0 w : World} {L : List Ck} {l : List (Nat × Value)} {dst : Option Tmp} {ty : TypeId} {pos : String} {after : Array Edge} {guard : Option (Nat × Bool)} {v : Value}
/-- Rows of the call's own whose slice is known by an equation. -/
theorem does_ixO {t e : TypeId} {sz : Nat} (hu : P.underlying t = some (.slice e)) (he : (P.info? e).map (·.size) = some sz) {x i : Operand} {so : Option Addr} {g n c k : Nat} {z : Int} (hx : ev l x = some (.slice so n c)) (hi : ev l i = some (.int .i64 z)) (hz : z = (k : Nat)) (hso : so = some ⟨g, 0, none⟩) (hk : k < n) :
    Does P l ⟨dst, .indexAddr t x i, ty, pos, after, guard⟩ w (.pointer (some ⟨g, k * sz, none⟩)) w := by
  subst hso
  exact does_indexE hu he hx hi hz hk
theorem m_ldO1 (hM : Mg w0 w L) (k : Nat) {e : TypeId} {sz g n c j : Nat} {so : Option Addr} {xs : List Value} (hk : L[k]? = some (.row e sz (.slice so n c) n xs)) (hso : so = some ⟨g, 0, none⟩) (hj : xs[j]? = some v) {t : TypeId} (ht : Is1 P t) {x : Operand} (hx : ev l x = some (.pointer (some ⟨g, j, none⟩))) : Does P l ⟨dst, .load t x, ty, pos, after, guard⟩ w v w := by
  subst hso
  exact m_loadE hM k hk hj ht hx
theorem m_ldOS (hM : Mg w0 w L) (k : Nat) {e : TypeId} {sz g n c o m : Nat} {so : Option Addr} {xs cs : List Value} (hk : L[k]? = some (.row e sz (.slice so n c) n xs)) (hso : so = some ⟨g, 0, none⟩) {t : TypeId} (ht : IsS P t m) (hcs : (xs.drop o).take m = cs) (hl : cs.length = m) {x : Operand} (hx : ev l x = some (.pointer (some ⟨g, o, none⟩))) : Does P l ⟨dst, .load t x, ty, pos, after, guard⟩ w (.agg cs.toArray) w := by
  subst hso
  exact m_loadES hM k hk ht hcs hl hx
end
theorem owns_anyH {w : World} {B : Nat} {e : TypeId} {sz : Nat} {v : Value} {n : Nat} {xs : List Value} (h : w.ownsRow B e sz v n xs) : ∃ so cap, v = .slice so n cap := by
  rcases h.2 with ⟨rfl, rfl⟩ | ⟨g, cap, cur, rfl, _⟩
  · exact ⟨none, 0, rfl⟩
  · exact ⟨_, cap, rfl⟩
theorem row_someH {w : World} {B : Nat} {e : TypeId} {sz : Nat} {so : Option Addr} {n c : Nat} {xs : List Value} (h : w.ownsRow B e sz (.slice so n c) n xs) (hn : n ≠ 0) : ∃ g, so = some ⟨g, 0, none⟩ := by
  rcases h.2 with ⟨e1, rfl⟩ | ⟨g, cap, cur, e1, _⟩
  · exact absurd rfl hn
  · cases e1; exact ⟨g, rfl⟩
/-- Numbers as cells. -/
def intC (xs : List Int) : List Value := xs.map (.int .i64 ·)
theorem intC_append (a b : List Int) : intC (a ++ b) = intC a ++ intC b := List.map_append
theorem intC_len (a : List Int) : (intC a).length = a.length * 1 := by unfold intC; rw [List.length_map]; omega
theorem intC_at {a : List Int} {i : Nat} {z : Int} (h : a[i]? = some z) : (intC a)[i]? = some (.int .i64 z) := by unfold intC; rw [List.getElem?_map, h]; rfl
/-- Objects as cells. -/
def obC : List Ob → List Value
  | [] => []
  | o :: t => .int .i64 ((o.p : Nat) : Int) :: o.sl :: obC t
theorem obC_append (a b : List Ob) : obC (a ++ b) = obC a ++ obC b := by
  induction a with
  | nil => rfl
  | cons g t ih => simp only [List.cons_append, obC, ih]
theorem obC_len : ∀ a : List Ob, (obC a).length = a.length * 2
  | [] => rfl
  | o :: t => by simp only [obC, List.length_cons, obC_len t]; omega
theorem obC_at : ∀ {os : List Ob} {i : Nat} {o : Ob}, os[i]? = some o → ((obC os).drop (i * 2)).take 2 = [.int .i64 ((o.p : Nat) : Int), o.sl]
  | [], _, _, h => by simp at h
  | a :: t, 0, o, h => by simp at h; subst h; rfl
  | a :: t, i + 1, o, h => by
    have := obC_at (os := t) (i := i) (o := o) (by simpa using h)
    rw [show (i + 1) * 2 = i * 2 + 1 + 1 from by omega]
    exact this
/-- Marks, in the order in which they were made. -/
def mkE : Nat → List Int → List En
  | _, [] => []
  | i, x :: t => ⟨x, .agg #[], i⟩ :: mkE (i + 1) t
theorem mkE_snoc (x : Int) : ∀ (ws : List Int) (i : Nat), mkE i (ws ++ [x]) = mkE i ws ++ [⟨x, .agg #[], i + ws.length⟩]
  | [], _ => rfl
  | y :: t, i => by
    simp only [List.cons_append, mkE, mkE_snoc x t (i + 1), List.length_cons]
    rw [show i + 1 + t.length = i + (t.length + 1) from by omega]
theorem mkE_hit {x : Int} : ∀ {ws : List Int} {i : Nat}, x ∈ ws → ∃ e, atK x (mkE i ws) = some e ∧ e.v = .agg #[]
  | [], _, h => by cases h
  | y :: t, i, h => by
    simp only [mkE, atK]
    by_cases k : y = x
    · rw [if_pos k]; exact ⟨_, rfl, rfl⟩
    · rw [if_neg k]
      rcases List.mem_cons.1 h with h | h
      · exact absurd h.symm k
      · exact mkE_hit h
theorem mkE_miss {x : Int} : ∀ {ws : List Int} {i : Nat}, x ∉ ws → atK x (mkE i ws) = none
  | [], _, _ => rfl
  | y :: t, i, h => by
    simp only [mkE, atK]
    rw [if_neg (fun k => h (by simp [k])), mkE_miss (fun k => h (by simp [k]))]
/-- A handle is visited. -/
def vis (ws : List Int) (x : Int) : List Int := if x ≠ 0 ∧ x ∉ ws then ws ++ [x] else ws
/-- The words that are named by what an object holds. -/
def visC (ws : List Int) (c : Int × Bool) : List Int := if c.2 = true then vis ws c.1 else ws
/-- Rising handles: each object's is above those before it. -/
def Rise (os : List Ob) : Prop := os.Pairwise fun a b => a.x < b.x
theorem rise_nodup {os : List Ob} (h : Rise os) (h1 : ∀ o ∈ os, 1 ≤ o.x) : ((os.map Ob.en).map En.b).Nodup := by
  rw [List.map_map]
  unfold List.Nodup
  rw [List.pairwise_map]
  exact h.imp_of_mem fun {a b} ha hb hab => by
    show a.x - 1 ≠ b.x - 1
    have := h1 a ha
    have := h1 b hb
    omega
theorem fO_at {os : List Ob} (hr : Rise os) : ∀ {i : Nat} {o : Ob}, os[i]? = some o → fO ((o.x : Nat) : Int) os = some o := by
  induction os with
  | nil => intro i o h; simp at h
  | cons a t ih =>
    intro i o h
    obtain ⟨h1, h2⟩ := List.pairwise_cons.1 hr
    cases i with
    | zero => simp at h; subst h; simp [fO]
    | succ i =>
      have h' : t[i]? = some o := by simpa using h
      have hlt := h1 o (List.mem_of_getElem? h')
      simp only [fO]
      rw [if_neg (by omega)]
      exact ih h2 h'
/-- The gap between two places, if there is one. -/
def gap1 (a b : Nat) : List (Nat × Nat) := if a < b then [(a, b - a)] else []
/-- What objects leave free, and where the last one ends. -/
def layB : Nat → List Ob → Nat
  | b, [] => b
  | _, o :: t => layB (o.p + o.ws.length) t
def layG : Nat → List Ob → List (Nat × Nat)
  | _, [] => []
  | b, o :: t => gap1 b o.p ++ layG (o.p + o.ws.length) t
theorem layB_snoc (o : Ob) : ∀ (os : List Ob) (b : Nat), layB b (os ++ [o]) = o.p + o.ws.length
  | [], _ => rfl
  | a :: t, b => by simp only [List.cons_append, layB, layB_snoc o t]
theorem layG_snoc (o : Ob) : ∀ (os : List Ob) (b : Nat), layG b (os ++ [o]) = layG b os ++ gap1 (layB b os) o.p
  | [], b => by simp [layG, layB]
  | a :: t, b => by simp only [List.cons_append, layG, layB, layG_snoc o t, List.append_assoc]
/-- The free parts of an area of so many words. -/
def freeG (size : Nat) (os : List Ob) : List (Nat × Nat) := layG 0 os ++ gap1 (layB 0 os) size
def big (o : Ob) : Bool := decide (16 < ((o.ws.length : Nat) : Int))
/-- The small objects are moved down. -/
def mvD : Nat → List Ob → List Ob
  | _, [] => []
  | p, o :: t => if big o = true then o :: mvD p t else { o with p := p } :: mvD (p + o.ws.length) t
def mvP : Nat → List Ob → Nat
  | p, [] => p
  | p, o :: t => if big o = true then mvP p t else mvP (p + o.ws.length) t
theorem mvD_snoc (o : Ob) : ∀ (os : List Ob) (p : Nat), mvD p (os ++ [o]) = mvD p os ++ [if big o = true then o else { o with p := mvP p os }]
  | [], p => by simp only [List.nil_append, mvD, mvP]; split <;> rfl
  | a :: t, p => by
    simp only [List.cons_append, mvD, mvP]
    split <;> simp only [List.cons_append, mvD_snoc o t]
theorem mvP_snoc (o : Ob) : ∀ (os : List Ob) (p : Nat), mvP p (os ++ [o]) = if big o = true then mvP p os else mvP p os + o.ws.length
  | [], p => by simp only [List.nil_append, mvP]
  | a :: t, p => by
    simp only [List.cons_append, mvP]
    split <;> simp only [mvP_snoc o t]
theorem mvD_len : ∀ (os : List Ob) (p : Nat), (mvD p os).length = os.length
  | [], _ => rfl
  | a :: t, p => by simp only [mvD]; split <;> simp [mvD_len t]
theorem mvD_x : ∀ (os : List Ob) (p : Nat), (mvD p os).map Ob.x = os.map Ob.x
  | [], _ => rfl
  | a :: t, p => by simp only [mvD]; split <;> simp [mvD_x t]
/-- How many words objects have. -/
def sumW : List Ob → Nat
  | [] => 0
  | o :: t => o.ws.length + sumW t
theorem sumW_append (a b : List Ob) : sumW (a ++ b) = sumW a + sumW b := by
  induction a with
  | nil => simp [sumW]
  | cons o t ih => simp only [List.cons_append, sumW, ih]; omega
theorem mvP_le : ∀ (os : List Ob) (p : Nat), mvP p os ≤ p + sumW os
  | [], p => Nat.le_refl _
  | a :: t, p => by
    simp only [mvP, sumW]
    split
    · have := mvP_le t p; omega
    · have := mvP_le t (p + a.ws.length); omega
theorem sumW_take (os : List Ob) (i : Nat) : sumW (os.take i) ≤ sumW os := by
  have := sumW_append (os.take i) (os.drop i)
  rw [List.take_append_drop] at this
  omega
/-- The value of a key is changed, where the keys rise. -/
theorem putK_at {os : List Ob} (hr : Rise os) {i : Nat} {o : Ob} (h : os[i]? = some o) (q : Ob) (hx : q.x = o.x) : putK ((o.x : Nat) : Int) q.v (os.map Ob.en) = (os.set i q).map Ob.en := by
  induction os generalizing i with
  | nil => simp at h
  | cons a t ih =>
    obtain ⟨h1, h2⟩ := List.pairwise_cons.1 hr
    cases i with
    | zero =>
      simp at h
      subst h
      simp only [List.map_cons, putK, List.set_cons_zero]
      rw [if_pos (show a.en.k = ((a.x : Nat) : Int) from rfl)]
      simp [Ob.en, hx]
    | succ i =>
      have h' : t[i]? = some o := by simpa using h
      have hlt := h1 o (List.mem_of_getElem? h')
      simp only [List.map_cons, putK, List.set_cons_succ]
      rw [if_neg (show ¬ a.en.k = _ from by show ¬ ((a.x : Nat) : Int) = _; omega), ih h2 h']
theorem delK_filter {os : List Ob} (hr : Rise os) {o : Ob} (h : o ∈ os) : delK ((o.x : Nat) : Int) (os.map Ob.en) = (os.filter fun q => decide (q.x ≠ o.x)).map Ob.en := by
  induction os with
  | nil => cases h
  | cons a t ih =>
    obtain ⟨h1, h2⟩ := List.pairwise_cons.1 hr
    simp only [List.map_cons, delK]
    by_cases k : a.x = o.x
    · rw [if_pos (show a.en.k = _ from by show ((a.x : Nat) : Int) = _; omega), List.filter_cons_of_neg (by simp [k])]
      congr 1
      refine (List.filter_eq_self.2 fun q hq => ?_).symm
      have := h1 q hq
      simp; omega
    · rw [if_neg (show ¬ a.en.k = _ from by show ¬ ((a.x : Nat) : Int) = _; omega), List.filter_cons_of_pos (by simp [k])]
      rcases List.mem_cons.1 h with rfl | h
      · exact absurd rfl k
      · rw [ih h2 h]; rfl
/-- What a sweep has left when it has seen so many stamps. -/
def swp (ws : List Int) (seen : List Nat) (os : List Ob) : List Ob := os.filter fun o => decide (((o.x : Nat) : Int) ∈ ws) || !seen.contains (o.x - 1)
def gone (ws : List Int) (seen : List Nat) (os : List Ob) : List Ob := os.filter fun o => !decide (((o.x : Nat) : Int) ∈ ws) && seen.contains (o.x - 1)
def unseen (seen : List Nat) (os : List Ob) : List Ob := os.filter fun o => !seen.contains (o.x - 1)
theorem swp_nil (ws : List Int) (os : List Ob) : swp ws [] os = os := List.filter_eq_self.2 fun o _ => by simp
theorem gone_nil (ws : List Int) (os : List Ob) : gone ws [] os = [] := List.filter_eq_nil_iff.2 fun o _ => by simp
theorem leftE_os (seen : List Nat) (os : List Ob) : leftE (os.map Ob.en) seen = (unseen seen os).map Ob.en := by
  unfold leftE unseen
  rw [List.filter_map]
  rfl
theorem unseen_swp (ws : List Int) (seen : List Nat) (os : List Ob) : unseen seen (swp ws seen os) = unseen seen os := by
  unfold unseen swp
  rw [List.filter_filter]
  apply List.filter_congr
  intro o _
  cases seen.contains (o.x - 1) <;> simp
theorem rise_sub {os os' : List Ob} (h : Rise os) (hs : os'.Sublist os) : Rise os' := List.Pairwise.sublist hs h
theorem same_x {os : List Ob} (hr : Rise os) {a b : Ob} (ha : a ∈ os) (hb : b ∈ os) (h : a.x = b.x) : a = b := by
  induction os with
  | nil => cases ha
  | cons c t ih =>
    obtain ⟨h1, h2⟩ := List.pairwise_cons.1 hr
    rcases List.mem_cons.1 ha with e1 | ha' <;> rcases List.mem_cons.1 hb with e2 | hb'
    · rw [e1, e2]
    · have := h1 b hb'; rw [← e1] at this; omega
    · have := h1 a ha'; rw [← e2] at this; omega
    · exact ih h2 ha' hb'
theorem seen_next {seen : List Nat} {os : List Ob} (h1 : ∀ o ∈ os, 1 ≤ o.x) {o : Ob} (ho : o ∈ unseen seen os) (q : Ob) (hq : q ∈ os) : (seen ++ [o.x - 1]).contains (q.x - 1) = (seen.contains (q.x - 1) || decide (q.x = o.x)) := by
  have := h1 q hq
  have := h1 o (List.mem_filter.1 ho).1
  rw [List.contains_eq_mem, List.contains_eq_mem, Bool.eq_iff_iff]
  simp only [List.mem_append, List.mem_singleton, Bool.or_eq_true, decide_eq_true_eq]
  constructor
  · rintro (h | h)
    · exact .inl h
    · exact .inr (by omega)
  · rintro (h | h)
    · exact .inl h
    · exact .inr (by omega)
section
variable {ws : List Int} {seen : List Nat} {os : List Ob} (h1 : ∀ o ∈ os, 1 ≤ o.x) {o : Ob} (ho : o ∈ unseen seen os)
include h1 ho
theorem swp_keep (hw : ((o.x : Nat) : Int) ∈ ws) : swp ws (seen ++ [o.x - 1]) os = swp ws seen os := by
  unfold swp
  apply List.filter_congr
  intro q hq
  rw [seen_next h1 ho q hq]
  by_cases k : q.x = o.x
  · rw [k]; simp [hw]
  · simp [k]
theorem swp_drop (hw : ((o.x : Nat) : Int) ∉ ws) : swp ws (seen ++ [o.x - 1]) os = (swp ws seen os).filter fun q => decide (q.x ≠ o.x) := by
  unfold swp
  rw [List.filter_filter]
  apply List.filter_congr
  intro q hq
  rw [seen_next h1 ho q hq]
  by_cases k : q.x = o.x
  · rw [k]; simp [hw]
  · simp [k]
theorem sum_keep (hw : ((o.x : Nat) : Int) ∈ ws) : sumW (gone ws (seen ++ [o.x - 1]) os) = sumW (gone ws seen os) := by
  congr 1
  unfold gone
  apply List.filter_congr
  intro q hq
  rw [seen_next h1 ho q hq]
  by_cases k : q.x = o.x
  · rw [k]; simp [hw]
  · simp [k]
theorem unseen_less : (unseen (seen ++ [o.x - 1]) os).length < (unseen seen os).length := by
  have e : unseen (seen ++ [o.x - 1]) os = (unseen seen os).filter fun q => decide (q.x ≠ o.x) := by
    unfold unseen
    rw [List.filter_filter]
    apply List.filter_congr
    intro q hq
    rw [seen_next h1 ho q hq]
    by_cases k : q.x = o.x <;> simp [k]
  rw [e]
  exact List.length_filter_lt_length_iff_exists.2 ⟨o, ho, by simp⟩
end
open Classical in
theorem sumW_drop {ws : List Int} {seen : List Nat} {os : List Ob} (hr : Rise os) (h1 : ∀ o ∈ os, 1 ≤ o.x) {o : Ob} (ho : o ∈ unseen seen os) (hw : ((o.x : Nat) : Int) ∉ ws) : sumW (gone ws (seen ++ [o.x - 1]) os) = sumW (gone ws seen os) + o.ws.length := by
  have key : ∀ os' : List Ob, os'.Sublist os → sumW (gone ws (seen ++ [o.x - 1]) os') = sumW (gone ws seen os') + if o ∈ os' then o.ws.length else 0 := by
    intro os' hs
    induction os' with
    | nil => simp [gone, sumW]
    | cons a t ih =>
      have ih := ih (List.Sublist.trans (List.sublist_cons_self a t) hs)
      have ha : a ∈ os := hs.subset (by simp)
      have hrt := rise_sub hr hs
      obtain ⟨r1, r2⟩ := List.pairwise_cons.1 hrt
      have hn := seen_next h1 ho a ha
      unfold gone at ih ⊢
      rw [List.filter_cons, List.filter_cons, hn]
      by_cases k : a.x = o.x
      · have e := same_x hr ha (List.mem_filter.1 ho).1 k
        subst e
        have hns : seen.contains (a.x - 1) = false := by
          have := (List.mem_filter.1 ho).2
          simpa using this
        have hnt : a ∉ t := fun h => by have := r1 a h; omega
        rw [if_neg hnt] at ih
        simp only [hw, hns, decide_false, Bool.not_false, decide_true, Bool.or_true, Bool.and_true, Bool.and_false, if_true, Bool.false_eq_true, if_false, sumW, ih, List.mem_cons, true_or]
        omega
      · have hne : o ≠ a := fun h => k (by rw [h])
        have e2 : (o ∈ a :: t) = (o ∈ t) := by simp [hne]
        simp only [k, decide_false, Bool.or_false, e2]
        split
        · simp only [sumW, ih]; omega
        · exact ih
  have := key os (List.Sublist.refl _)
  rw [if_pos (List.mem_filter.1 ho).1] at this
  exact this
/-- How many words gaps have. -/
def sumG : List (Nat × Nat) → Nat
  | [] => 0
  | g :: t => g.2 + sumG t
theorem sumG_append (a b : List (Nat × Nat)) : sumG (a ++ b) = sumG a + sumG b := by
  induction a with
  | nil => simp [sumG]
  | cons g t ih => simp only [List.cons_append, sumG, ih]; omega
theorem sumG_take {gs : List (Nat × Nat)} {i p s : Nat} (h : gs[i]? = some (p, s)) : sumG (gs.take (i + 1)) = sumG (gs.take i) + s := by
  rw [List.take_add_one, h, sumG_append]
  rfl
theorem sumG_part (gs : List (Nat × Nat)) (i : Nat) : sumG (gs.take i) ≤ sumG gs := by
  have := sumG_append (gs.take i) (gs.drop i)
  rw [List.take_append_drop] at this
  omega
end Go.Proofs.Ytcigofjajphmjaa
