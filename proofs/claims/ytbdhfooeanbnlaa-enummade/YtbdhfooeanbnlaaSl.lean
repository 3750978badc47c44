/- A walk's state, said by two lists: what the slots hold, and which blocks of its own the call has; and a law for each kind of step. -/
import Derived.Test.YtbdhfooeanbnlaaArith
import Derived.WalkKit
import Derived.WalkSpells
import Derived.WalkSmall
import Derived.Deep.OwnRows
import Derived.Laws.IdiomCopy
import Derived.ChangeKeysEq
import Derived.LoopN
import Derived.Deep.AppendLies
import Derived.OrdersHeld
import Derived.Deep.RegionHeld3
namespace Go.Proofs.Ytbdhfooeanbnlaa
open Go.RowKit
set_option linter.unusedVariables false
set_option linter.unusedSimpArgs false

/-! ### Slots -/
def look : List (Nat × Value) → Nat → Option Value
  | [], _ => none
  | (k, v) :: t, n => cond (Nat.beq k n) (some v) (look t n)
/-- What an operand is. -/
def ev (l : List (Nat × Value)) : Operand → Option Value
  | .tmp k => look l k
  | .const v => some v
  | .global g => some (.pointer (some ⟨g, 0, none⟩))
  | .func f => some (.func (.func f) #[] #[])
def evs (l : List (Nat × Value)) : List Operand → Option (List Value)
  | [] => some []
  | x :: xs => match ev l x, evs l xs with | some v, some vs => some (v :: vs) | _, _ => none
def evp (l : List (Nat × Value)) : List (Nat × Operand) → Option (List (Nat × Value))
  | [] => some []
  | (i, x) :: xs => match ev l x, evp l xs with | some v, some vs => some ((i, v) :: vs) | _, _ => none
/-- The frame has n slots, and those that the list names hold what it says; no call waits for the end. -/
structure Sl (a : Act) (n : Nat) (l : List (Nat × Value)) : Prop where
  size : a.tmps.size = n
  holds : ∀ k v, look l k = some v → a.tmps[k]? = some v
  none_ : a.defers = []
section
variable {a : Act} {n : Nat} {l : List (Nat × Value)}
theorem Sl.ev (h : Sl a n l) {x : Operand} {v : Value} (hx : ev l x = some v) : a.eval x = v := by
  cases x with
  | tmp k =>
    have := h.holds k v hx
    simp [Act.eval, Array.getD_eq_getD_getElem?, this]
  | const u => simpa [Ytbdhfooeanbnlaa.ev, Act.eval] using hx
  | global g => simpa [Ytbdhfooeanbnlaa.ev, Act.eval] using hx
  | func f => simpa [Ytbdhfooeanbnlaa.ev, Act.eval] using hx
theorem Sl.evs (h : Sl a n l) : ∀ {xs : List Operand} {vs : List Value}, evs l xs = some vs → xs.map a.eval = vs := by
  intro xs
  induction xs with
  | nil => intro vs hx; simp [Ytbdhfooeanbnlaa.evs] at hx; simp [hx]
  | cons x xs ih =>
    intro vs hx
    unfold Ytbdhfooeanbnlaa.evs at hx
    split at hx
    · rename_i v us h1 h2
      cases hx
      simp [h.ev h1, ih h2]
    · cases hx
theorem Sl.evp (h : Sl a n l) : ∀ {xs : List (Nat × Operand)} {vs : List (Nat × Value)}, evp l xs = some vs → xs.map (fun p => (p.1, a.eval p.2)) = vs := by
  intro xs
  induction xs with
  | nil => intro vs hx; simp [Ytbdhfooeanbnlaa.evp] at hx; simp [hx]
  | cons x xs ih =>
    intro vs hx
    obtain ⟨i, x⟩ := x
    unfold Ytbdhfooeanbnlaa.evp at hx
    split at hx
    · rename_i v us h1 h2
      cases hx
      simp [h.ev h1, ih h2]
    · cases hx
theorem Sl.put (h : Sl a n l) {d : Nat} (hd : Nat.blt d n = true) (v : Value) : Sl (a.put (some d) v) n ((d, v) :: l) := by
  refine ⟨by simp [Act.put, h.size], fun k u hk => ?_, by simp [Act.put, h.none_]⟩
  have hd' : d < a.tmps.size := by rw [h.size]; exact Nat.le_of_ble_eq_true hd
  unfold look at hk
  cases hb : Nat.beq d k with
  | true =>
    rw [hb] at hk
    have : d = k := Nat.eq_of_beq_eq_true hb
    subst this
    simp only [cond_true, Option.some.injEq] at hk
    subst hk
    simp [Act.put, Array.getElem?_setIfInBounds, hd']
  | false =>
    rw [hb] at hk
    have hne : d ≠ k := fun e => by rw [e, Nat.beq_refl] at hb; cases hb
    simp only [cond_false] at hk
    simp [Act.put, Array.getElem?_setIfInBounds, hne, h.holds k u hk]
theorem Sl.enter {args : List Value} {m : Nat} (hl : args.length ≤ m) : Sl { tmps := args.toArray ++ Array.replicate (m - args.toArray.size) undef, defers := [] } m (args.zipIdx.map fun p => (p.2, p.1)) := by
  refine ⟨by simp; omega, fun k v hk => ?_, rfl⟩
  have key : ∀ (xs : List Value) (o : Nat), look ((xs.zipIdx o).map fun p => (p.2, p.1)) k = some v → o ≤ k ∧ xs[k - o]? = some v := by
    intro xs
    induction xs with
    | nil => intro o h; simp [look] at h
    | cons x xs ih =>
      intro o h
      simp only [List.zipIdx_cons, List.map_cons, look] at h
      cases hb : Nat.beq o k with
      | true =>
        rw [hb] at h
        have : o = k := Nat.eq_of_beq_eq_true hb
        subst this
        simp only [cond_true, Option.some.injEq] at h
        simp [h]
      | false =>
        rw [hb] at h
        have hne : o ≠ k := fun e => by rw [e, Nat.beq_refl] at hb; cases hb
        simp only [cond_false] at h
        obtain ⟨h1, h2⟩ := ih _ h
        refine ⟨by omega, ?_⟩
        have : k - o = (k - (o + 1)) + 1 := by omega
        rw [this, List.getElem?_cons_succ]
        exact h2
  have h := (key args 0 hk).2
  simp only [Nat.sub_zero] at h
  have hlt : k < args.length := (List.getElem?_eq_some_iff.1 h).1
  rw [Array.getElem?_append_left (by simpa using hlt)]
  simpa using h
def AllIn (l : List (Nat × Value)) : List (Nat × Value) → Prop
  | [] => True
  | p :: t => look l p.1 = some p.2 ∧ AllIn l t
theorem Sl.keep (h : Sl a n l) (l' : List (Nat × Value)) (hs : AllIn l l') : Sl a n l' := by
  refine ⟨h.size, ?_, h.none_⟩
  induction l' with
  | nil => intro k v hk; simp [look] at hk
  | cons p t ih =>
    intro k v hk
    obtain ⟨d, u⟩ := p
    unfold look at hk
    cases hb : Nat.beq d k with
    | true =>
      rw [hb] at hk
      have : d = k := Nat.eq_of_beq_eq_true hb
      subst this
      simp only [cond_true, Option.some.injEq] at hk
      subst hk
      exact h.holds _ _ hs.1
    | false =>
      rw [hb] at hk
      exact ih hs.2 k v hk
theorem Sl.cut (h : Sl a n l) (l' : List (Nat × Value)) (hl : ∀ k v, look l' k = some v → look l k = some v) : Sl a n l' := ⟨h.size, fun k v hk => h.holds k v (hl k v hk), h.none_⟩
end

/-! ### What an operation does -/
/-- With these slots, in this world, the operation yields v and leaves w'. -/
def Does (P : Program) (l : List (Nat × Value)) (o : Oper) (w : World) (v : Value) (w' : World) : Prop :=
  ∀ ρ : Operand → Value, (∀ x u, ev l x = some u → ρ x = u) → (execOp ρ o).run P w = .ok (.value v) w'
/-- .. yields nothing (a store). -/
def Sets (P : Program) (l : List (Nat × Value)) (o : Oper) (w : World) (w' : World) : Prop :=
  ∀ ρ : Operand → Value, (∀ x u, ev l x = some u → ρ x = u) → (execOp ρ o).run P w = .ok .skip w'
/-- .. calls a function. -/
def Enters (P : Program) (l : List (Nat × Value)) (o : Oper) (w : World) (f : FuncId) (vs : List Value) : Prop :=
  ∀ ρ : Operand → Value, (∀ x u, ev l x = some u → ρ x = u) → (execOp ρ o).run P w = .ok (.enter f vs.toArray) w
/-- Its guard, if it has one, says yes. -/
def passes (l : List (Nat × Value)) (ops : List Oper) (o : Oper) : Bool :=
  match o.guard with
  | none => true
  | some (j, b) => match ops[j]? with
    | some oj => match oj.dst with
      | some d => match look l d with
        | some (.bool b') => b' == b
        | _ => false
      | none => false
    | none => false
/-- Its guard says no. -/
def stays (l : List (Nat × Value)) (ops : List Oper) (o : Oper) : Bool :=
  match o.guard with
  | none => false
  | some (j, b) => match ops[j]? with
    | some oj => match oj.dst with
      | some d => match look l d with
        | some (.bool b') => b' != b
        | _ => false
      | none => false
    | none => false
section
variable {P : Program} {ops : List Oper} {Q : Exit → Act → World → Prop} {a : Act} {w w' : World} {n : Nat} {l : List (Nat × Value)} {o : Oper} {v : Value} {rest : List Oper}
theorem Sl.wanted (h : Sl a n l) (hp : passes l ops o = true) : Region.wanted o (yielded ops.toArray a.tmps) = true := by
  unfold Region.wanted
  unfold passes at hp
  split at hp
  · rename_i hg; rw [hg]
  · rename_i j b hg
    rw [hg]
    split at hp
    · rename_i oj hj
      split at hp
      · rename_i d hd
        split at hp
        · rename_i b' hb
          have := h.holds d _ hb
          simp only [beq_iff_eq] at hp
          simp [yielded, hj, hd, this, hp]
        · cases hp
      · cases hp
    · cases hp
theorem Sl.unwanted (h : Sl a n l) (hp : stays l ops o = true) : Region.wanted o (yielded ops.toArray a.tmps) = false := by
  unfold Region.wanted
  unfold stays at hp
  split at hp
  · cases hp
  · rename_i j b hg
    rw [hg]
    split at hp
    · rename_i oj hj
      split at hp
      · rename_i d hd
        split at hp
        · rename_i b' hb
          have := h.holds d _ hb
          simp only [bne_iff_ne, ne_eq] at hp
          simp [yielded, hj, hd, this, hp]
        · cases hp
      · cases hp
    · cases hp
/-- One step of a region that goes in its text's order. -/
theorem seq_do (hA : Sl a n l) (hg : passes l ops o = true) {d : Nat} (hdst : o.dst = some d) (hd : Nat.blt d n = true) (he : Does P l o w v w')
    (hk : ∀ a', Sl a' n ((d, v) :: l) → wpList P ops.toArray Q rest a' w') : wpList P ops.toArray Q (o :: rest) a w := by
  unfold wpList
  rw [if_pos (hA.wanted hg)]
  refine .inl ?_
  unfold Oper.wp
  rw [he a.eval (fun x u hx => hA.ev hx), Oper.upon_value, hdst]
  exact hk _ (hA.put hd v)
theorem seq_set (hA : Sl a n l) (hg : passes l ops o = true) (hdst : o.dst = none) (he : Sets P l o w w')
    (hk : wpList P ops.toArray Q rest a w') : wpList P ops.toArray Q (o :: rest) a w := by
  unfold wpList
  rw [if_pos (hA.wanted hg)]
  refine .inl ?_
  unfold Oper.wp
  rw [he a.eval (fun x u hx => hA.ev hx), Oper.upon_skip, hdst]
  exact hk
theorem seq_skip (hA : Sl a n l) (hg : stays l ops o = true) {d : Nat} (hdst : o.dst = some d) (hd : Nat.blt d n = true)
    (hk : ∀ a', Sl a' n ((d, undef) :: l) → wpList P ops.toArray Q rest a' w) : wpList P ops.toArray Q (o :: rest) a w := by
  unfold wpList
  rw [hA.unwanted hg, if_neg (by simp), hdst]
  exact hk _ (hA.put hd undef)
theorem seq_call (hA : Sl a n l) (hg : passes l ops o = true) {d : Nat} (hdst : o.dst = some d) (hd : Nat.blt d n = true) {f : FuncId} {vs : List Value} (he : Enters P l o w f vs)
    {R : Ending → World → Prop} (hc : Calls P f vs.toArray w R)
    (hk : ∀ e w', R e w' → ∃ v, e = .returned v ∧ ∀ a', Sl a' n ((d, v) :: l) → wpList P ops.toArray Q rest a' w') : wpList P ops.toArray Q (o :: rest) a w := by
  unfold wpList
  rw [if_pos (hA.wanted hg)]
  refine .inl ?_
  unfold Oper.wp
  rw [he a.eval (fun x u hx => hA.ev hx), Oper.upon_enter]
  refine hc.mono ?_
  intro e w' hR
  obtain ⟨v, rfl, h⟩ := hk e w' hR
  simp only [hdst]
  exact h _ (hA.put hd v)
theorem seq_end (hk : Q .normal a w) : wpList P ops.toArray Q [] a w := hk
/-! .. and of a region that draws its order: S is what every world on the way meets. -/
variable {S : World → Prop} {md : Region.Mode} {fuel : Nat} {listed : Array Bool}
theorem any_take (hA : Sl a n l) (i : Nat) (hi : ops[i]? = some o) (hg : passes l ops o = true) {d : Nat} (hdst : o.dst = some d) (hd : Nat.blt d n = true) (hs : Region.noSelect ops.toArray = true) (hf : Region.free md ops.toArray listed i = true)
    (hr : (Region.ready md ops.toArray listed).contains i = true) (hQ : ∀ c a w, Q (.panic c) (a.put o.dst v) w → Q (.panic c) a w) (hS : S w) (he : ∀ w, S w → Does P l o w v w)
    (hk : ∀ a', Sl a' n ((d, v) :: l) → wpAnyH P md ops.toArray Q S fuel (listed.setIfInBounds i true) a' w) : wpAnyH P md ops.toArray Q S (fuel + 1) listed a w := by
  refine wpAnyH_take (i := i) (oi := o) (v := v) (by simpa using hi) hs hf hr hQ (Or.inl ⟨hA.wanted hg, fun w hw => he w hw a.eval (fun x u hx => hA.ev hx)⟩) hS ?_
  rw [hdst]
  exact hk _ (hA.put hd v)
theorem any_tk (hA : Sl a n l) (i : Nat) (hi : ops[i]? = some o) (hg : passes l ops o = true) {d : Nat} (hdst : o.dst = some d) (hd : Nat.blt d n = true) (hP : ∀ c a d v w, Q (.panic c) (Act.put a d v) w → Q (.panic c) a w) (hS : S w) (he : ∀ w, S w → Does P l o w v w)
    (hk : ∀ a', Sl a' n ((d, v) :: l) → wpAnyH P md ops.toArray Q S fuel (listed.setIfInBounds i true) a' w) (hs : Region.noSelect ops.toArray = true := by kernel_rfl) (hf : Region.free md ops.toArray listed i = true := by kernel_rfl) (hr : (Region.ready md ops.toArray listed).contains i = true := by kernel_rfl) : wpAnyH P md ops.toArray Q S (fuel + 1) listed a w :=
  any_take hA i hi hg hdst hd hs hf hr (fun c a w h => hP c a _ _ w h) hS he hk
theorem any_skip (hA : Sl a n l) (i : Nat) (hi : ops[i]? = some o) (hg : stays l ops o = true) {d : Nat} (hdst : o.dst = some d) (hd : Nat.blt d n = true) (hs : Region.noSelect ops.toArray = true) (hf : Region.free md ops.toArray listed i = true)
    (hr : (Region.ready md ops.toArray listed).contains i = true) (hQ : ∀ c a w, Q (.panic c) (a.put o.dst undef) w → Q (.panic c) a w) (hS : S w)
    (hk : ∀ a', Sl a' n ((d, undef) :: l) → wpAnyH P md ops.toArray Q S fuel (listed.setIfInBounds i true) a' w) : wpAnyH P md ops.toArray Q S (fuel + 1) listed a w := by
  refine wpAnyH_take (i := i) (oi := o) (v := undef) (by simpa using hi) hs hf hr hQ (Or.inr ⟨hA.unwanted hg, rfl⟩) hS ?_
  rw [hdst]
  exact hk _ (hA.put hd undef)
theorem any_sk (hA : Sl a n l) (i : Nat) (hi : ops[i]? = some o) (hg : stays l ops o = true) {d : Nat} (hdst : o.dst = some d) (hd : Nat.blt d n = true) (hP : ∀ c a d v w, Q (.panic c) (Act.put a d v) w → Q (.panic c) a w) (hS : S w)
    (hk : ∀ a', Sl a' n ((d, undef) :: l) → wpAnyH P md ops.toArray Q S fuel (listed.setIfInBounds i true) a' w) (hs : Region.noSelect ops.toArray = true := by kernel_rfl) (hf : Region.free md ops.toArray listed i = true := by kernel_rfl) (hr : (Region.ready md ops.toArray listed).contains i = true := by kernel_rfl) : wpAnyH P md ops.toArray Q S (fuel + 1) listed a w :=
  any_skip hA i hi hg hdst hd hs hf hr (fun c a w h => hP c a _ _ w h) hS hk
/-- One operation of it. -/
theorem op_do (hA : Sl a n l) (i : Nat) (hi : ops[i]? = some o) (hg : passes l ops o = true) {d : Nat} (hdst : o.dst = some d) (hd : Nat.blt d n = true) (he : Does P l o w v w') (hS : S w')
    (hk : ∀ a', Sl a' n ((d, v) :: l) → wpAnyH P md ops.toArray Q S fuel (listed.setIfInBounds i true) a' w') : wpOp P ops.toArray Q i (fun a' w' => S w' ∧ wpAnyH P md ops.toArray Q S fuel (listed.setIfInBounds i true) a' w') a w := by
  unfold wpOp
  simp only [List.getElem?_toArray, hi]
  rw [if_pos (hA.wanted hg)]
  refine .inl ?_
  unfold Oper.wp
  rw [he a.eval (fun x u hx => hA.ev hx), Oper.upon_value, hdst]
  exact ⟨hS, hk _ (hA.put hd v)⟩
theorem op_set (hA : Sl a n l) (i : Nat) (hi : ops[i]? = some o) (hg : passes l ops o = true) (hdst : o.dst = none) (he : Sets P l o w w') (hS : S w')
    (hk : wpAnyH P md ops.toArray Q S fuel (listed.setIfInBounds i true) a w') : wpOp P ops.toArray Q i (fun a' w' => S w' ∧ wpAnyH P md ops.toArray Q S fuel (listed.setIfInBounds i true) a' w') a w := by
  unfold wpOp
  simp only [List.getElem?_toArray, hi]
  rw [if_pos (hA.wanted hg)]
  refine .inl ?_
  unfold Oper.wp
  rw [he a.eval (fun x u hx => hA.ev hx), Oper.upon_skip, hdst]
  exact ⟨hS, hk⟩
theorem op_call (hA : Sl a n l) (i : Nat) (hi : ops[i]? = some o) (hg : passes l ops o = true) {d : Nat} (hdst : o.dst = some d) (hd : Nat.blt d n = true)
    {f : FuncId} {vs : List Value} (he : Enters P l o w f vs) {R : Ending → World → Prop} (hc : Calls P f vs.toArray w R)
    (hk : ∀ e w', R e w' → ∃ v, e = .returned v ∧ S w' ∧ ∀ a', Sl a' n ((d, v) :: l) → wpAnyH P md ops.toArray Q S fuel (listed.setIfInBounds i true) a' w') : wpOp P ops.toArray Q i (fun a' w' => S w' ∧ wpAnyH P md ops.toArray Q S fuel (listed.setIfInBounds i true) a' w') a w := by
  unfold wpOp
  simp only [List.getElem?_toArray, hi]
  rw [if_pos (hA.wanted hg)]
  refine .inl ?_
  unfold Oper.wp
  rw [he a.eval (fun x u hx => hA.ev hx), Oper.upon_enter]
  refine hc.mono ?_
  intro e w' hR
  obtain ⟨v, rfl, h1, h2⟩ := hk e w' hR
  simp only [hdst]
  exact ⟨h1, h2 _ (hA.put hd v)⟩
/-- Nothing else may come up. -/
theorem any_one {i : Nat} (hr : Region.ready md ops.toArray listed = [i]) (h : wpOp P ops.toArray Q i (fun a' w' => S w' ∧ wpAnyH P md ops.toArray Q S fuel (listed.setIfInBounds i true) a' w') a w) : wpAnyH P md ops.toArray Q S (fuel + 1) listed a w :=
  wpAnyH_all hr (by simp) (fun j hj => by rw [List.mem_singleton] at hj; subst hj; exact h)
def AllOps (W : Nat → Prop) : List Nat → Prop
  | [] => True
  | i :: t => W i ∧ AllOps W t
theorem AllOps.get {W : Nat → Prop} : ∀ {rs : List Nat}, AllOps W rs → ∀ i ∈ rs, W i
  | _ :: _, h, i, hi => by
    rcases List.mem_cons.1 hi with rfl | hi
    · exact h.1
    · exact AllOps.get h.2 i hi
/-- Whichever comes up. -/
theorem any_many {rs : List Nat} (hr : Region.ready md ops.toArray listed = rs) (hne : rs ≠ []) (h : AllOps (fun i => wpOp P ops.toArray Q i (fun a' w' => S w' ∧ wpAnyH P md ops.toArray Q S fuel (listed.setIfInBounds i true) a' w') a w) rs) : wpAnyH P md ops.toArray Q S (fuel + 1) listed a w :=
  wpAnyH_all hr hne (fun i hi => h.get i hi)
theorem any_end (hr : Region.ready md ops.toArray listed = []) (hk : Q .normal a w) : wpAnyH P md ops.toArray Q S fuel listed a w := wpAnyH_done hr hk fuel
end
end Go.Proofs.Ytbdhfooeanbnlaa
