/- A walk's state, said by two lists: what the slots hold, and which blocks of its own the call has; and a law for each kind of step. A walk's memory, said by a list of blocks of the call's own and a list of rows of words that are read; what each operation does to it. Walks of small questions: does a fraction fit, is a number real, is it 0. Numbers as values of six cells, and what they stand for. Sound and whole numbers, as questions of six parts. Fractions in lowest terms, and whole numbers of any sign, as values. Walks of the small functions of rows of bits. Are two rows of words the same? Numbers of machine words, and sameness. Sound numbers as pairs of rational numbers. Operators on texts. The numbers are a field. Quotients of whole numbers, downwards, and the order of rational ones. Quotient and rest of real numbers. Facts of the order of real numbers. Fractions in lowest terms, as the document makes them. Walks of the document's functions over fractions. Walks of small numbers and of sameness. Walks of whole numbers of any sign. Walks of numbers over one bottom. Walks of sums, differences, products and quotients. Walks of Add, Sub, Mul, Div. Walks of the text of minus three halves, and of the fixed fact. Walks of the law of the field. Walks of the order and the quotients of real numbers. Walks of Cmp and of the quotients. Walks of the document's sums of fractions. The document's -a - 1, and shifts of numbers. Walks of the document's -a - 1, and of shifts. How long numbers are in bits, and their opposites less one. Walks of the document's shifts, of lengths, of opposites less one, and of questions of sameness. How many bits of a number are 1. Walks of how many bits are 1. Rows of bits put together word by word. Walks of rows of bits put together. Numbers put together bit by bit. Walks of numbers put together bit by bit, and of Not. The fixed fact on bits. Walks of the fixed fact, and of sameness by the document. Numbers that come in as arguments. -/
import Derived.Test.YtipikhcmieboaaaGreatDoorPlistso10b
import Derived.OrdersHeld
import Derived.Deep.RegionHeld3
import Derived.Laws.IdiomCopy
import Derived.ChangeKeysEq
import Derived.LoopN
import Derived.Deep.AppendLies
import Derived.Test.YtipikhcmieboaaaGreatDoorNatN
import Derived.Test.YtipikhcmieboaaaGreatDoorPlistso10a
import Derived.Test.YtipikhcmieboaaaGreatDoorNatM
import Derived.Test.YtipikhcmieboaaaGreatDoorNatK
import Derived.Test.YtipikhcmieboaaaGreatDoorNatY
import Derived.Test.YtipikhcmieboaaaGreatDoorTxtD
import Derived.Test.YtipikhcmieboaaaGreatDoorNatH
import Derived.Test.YtipikhcmieboaaaGreatDoorNatL
import Derived.Test.YtipikhcmieboaaaGreatDoorBits
import Derived.Test.YtipikhcmieboaaaGreatDoorNatA
import Derived.Test.YtipikhcmieboaaaGreatDoorArgs
import Derived.WalkKit
import Derived.ProofKit
import Derived.OpenShut
import Derived.ChangeOld
import Derived.Lib.SmallJoins
import Derived.Deep.Strs
namespace Go.Proofs.YtipikhcmieboaaaGreatDoor
open Go.RowKit
set_option linter.unusedVariables false
set_option linter.unusedSimpArgs false
theorem cn {α : Type} {l m : List α} {a : α} (h : l.Sublist m) : l.Sublist (a :: m) := .cons _ h
theorem cc {α : Type} {l m : List α} {a : α} (h : l.Sublist m) : (a :: l).Sublist (a :: m) := .cons_cons _ h

/-! ### Slots -/
def xr : List (Nat × Value) → Nat → Option Value
  | [], _ => none
  | (k, v) :: t, n => cond (Nat.beq k n) (some v) (xr t n)
/-- What an operand is. -/
def ev (l : List (Nat × Value)) : Operand → Option Value
  | .tmp k => xr l k
  | .const v => some v
  | .global g => some (.pointer (some ⟨g, 0, none⟩))
  | .func f => some (.func (.func f) #[] #[])
def evs (l : List (Nat × Value)) : List Operand → Option (List Value)
  | [] => some []
  | x :: xs => match ev l x, evs l xs with | some v, some vs => some (v :: vs) | _, _ => none
def evp (l : List (Nat × Value)) : List (Nat × Operand) → Option (List (Nat × Value))
  | [] => some []
  | (i, x) :: xs => match ev l x, evp l xs with | some v, some vs => some ((i, v) :: vs) | _, _ => none
/-- The frame has n slots, and those that the list names hold what it says; no call waits for the end. -/
structure Sl (a : Act) (n : Nat) (l : List (Nat × Value)) : Prop where
  size : a.tmps.size = n
  holds : ∀ k v, xr l k = some v → a.tmps[k]? = some v
  none_ : a.defers = []
section
variable {a : Act} {n : Nat} {l : List (Nat × Value)}
theorem Sl.ev (h : Sl a n l) {x : Operand} {v : Value} (hx : ev l x = some v) : a.eval x = v := by
  cases x with
  | tmp k =>
    have := h.holds k v hx
    simp [Act.eval, Array.getD_eq_getD_getElem?, this]
  | const u => simpa [YtipikhcmieboaaaGreatDoor.ev, Act.eval] using hx
  | global g => simpa [YtipikhcmieboaaaGreatDoor.ev, Act.eval] using hx
  | func f => simpa [YtipikhcmieboaaaGreatDoor.ev, Act.eval] using hx
theorem Sl.evs (h : Sl a n l) : ∀ {xs : List Operand} {vs : List Value}, evs l xs = some vs → xs.map a.eval = vs := by
  intro xs
  induction xs with
  | nil => intro vs hx; simp [YtipikhcmieboaaaGreatDoor.evs] at hx; simp [hx]
  | cons x xs ih =>
    intro vs hx
    unfold YtipikhcmieboaaaGreatDoor.evs at hx
    split at hx
    · rename_i v us h1 h2
      cases hx
      simp [h.ev h1, ih h2]
    · cases hx
theorem Sl.evp (h : Sl a n l) : ∀ {xs : List (Nat × Operand)} {vs : List (Nat × Value)}, evp l xs = some vs → xs.map (fun p => (p.1, a.eval p.2)) = vs := by
  intro xs
  induction xs with
  | nil => intro vs hx; simp [YtipikhcmieboaaaGreatDoor.evp] at hx; simp [hx]
  | cons x xs ih =>
    intro vs hx
    obtain ⟨i, x⟩ := x
    unfold YtipikhcmieboaaaGreatDoor.evp at hx
    split at hx
    · rename_i v us h1 h2
      cases hx
      simp [h.ev h1, ih h2]
    · cases hx
theorem Sl.put (h : Sl a n l) {d : Nat} (hd : Nat.blt d n = true) (v : Value) : Sl (a.put (some d) v) n ((d, v) :: l) := by
  refine ⟨by simp [Act.put, h.size], fun k u hk => ?_, by simp [Act.put, h.none_]⟩
  have hd' : d < a.tmps.size := by rw [h.size]; exact Nat.le_of_ble_eq_true hd
  unfold xr at hk
  cases hb : Nat.beq d k with
  | true =>
    rw [hb] at hk
    have : d = k := Nat.eq_of_beq_eq_true hb
    subst this
    simp only [cond_true, Option.some.injEq] at hk
    subst hk
    simp [Act.put, Array.getElem?_setIfInBounds, hd']
  | false =>
    rw [hb] at hk
    have hne : d ≠ k := fun e => by rw [e, Nat.beq_refl] at hb; cases hb
    simp only [cond_false] at hk
    simp [Act.put, Array.getElem?_setIfInBounds, hne, h.holds k u hk]
theorem Sl.enter {args : List Value} {m : Nat} (hl : args.length ≤ m) : Sl { tmps := args.toArray ++ Array.replicate (m - args.toArray.size) undef, defers := [] } m (args.zipIdx.map fun p => (p.2, p.1)) := by
  refine ⟨by simp; omega, fun k v hk => ?_, rfl⟩
  have key : ∀ (xs : List Value) (o : Nat), xr ((xs.zipIdx o).map fun p => (p.2, p.1)) k = some v → o ≤ k ∧ xs[k - o]? = some v := by
    intro xs
    induction xs with
    | nil => intro o h; simp [xr] at h
    | cons x xs ih =>
      intro o h
      simp only [List.zipIdx_cons, List.map_cons, xr] at h
      cases hb : Nat.beq o k with
      | true =>
        rw [hb] at h
        have : o = k := Nat.eq_of_beq_eq_true hb
        subst this
        simp only [cond_true, Option.some.injEq] at h
        simp [h]
      | false =>
        rw [hb] at h
        have hne : o ≠ k := fun e => by rw [e, Nat.beq_refl] at hb; cases hb
        simp only [cond_false] at h
        obtain ⟨h1, h2⟩ := ih _ h
        refine ⟨by omega, ?_⟩
        have : k - o = (k - (o + 1)) + 1 := by omega
        rw [this, List.getElem?_cons_succ]
        exact h2
  have h := (key args 0 hk).2
  simp only [Nat.sub_zero] at h
  have hlt : k < args.length := (List.getElem?_eq_some_iff.1 h).1
  rw [Array.getElem?_append_left (by simpa using hlt)]
  simpa using h
def AllIn (l : List (Nat × Value)) : List (Nat × Value) → Prop
  | [] => True
  | p :: t => xr l p.1 = some p.2 ∧ AllIn l t
theorem Sl.keep (h : Sl a n l) (l' : List (Nat × Value)) (hs : AllIn l l') : Sl a n l' := by
  refine ⟨h.size, ?_, h.none_⟩
  induction l' with
  | nil => intro k v hk; simp [xr] at hk
  | cons p t ih =>
    intro k v hk
    obtain ⟨d, u⟩ := p
    unfold xr at hk
    cases hb : Nat.beq d k with
    | true =>
      rw [hb] at hk
      have : d = k := Nat.eq_of_beq_eq_true hb
      subst this
      simp only [cond_true, Option.some.injEq] at hk
      subst hk
      exact h.holds _ _ hs.1
    | false =>
      rw [hb] at hk
      exact ih hs.2 k v hk
end

/-! ### What an operation does -/
/-- With these slots, in this world, the operation yields v and leaves w'. -/
def Does (P : Program) (l : List (Nat × Value)) (o : Oper) (w : World) (v : Value) (w' : World) : Prop :=
  ∀ ρ : Operand → Value, (∀ x u, ev l x = some u → ρ x = u) → (execOp ρ o).run P w = .ok (.value v) w'
/-- .. yields nothing (a store). -/
def Sets (P : Program) (l : List (Nat × Value)) (o : Oper) (w : World) (w' : World) : Prop :=
  ∀ ρ : Operand → Value, (∀ x u, ev l x = some u → ρ x = u) → (execOp ρ o).run P w = .ok .skip w'
/-- .. calls a function. -/
def Enters (P : Program) (l : List (Nat × Value)) (o : Oper) (w : World) (f : FuncId) (vs : List Value) : Prop :=
  ∀ ρ : Operand → Value, (∀ x u, ev l x = some u → ρ x = u) → (execOp ρ o).run P w = .ok (.enter f vs.toArray) w
/-- Its guard, if it has one, says yes. -/
def zq (l : List (Nat × Value)) (ops : List Oper) (o : Oper) : Bool :=
  match o.guard with
  | none => true
  | some (j, b) => match ops[j]? with
    | some oj => match oj.dst with
      | some d => match xr l d with
        | some (.bool b') => b' == b
        | _ => false
      | none => false
    | none => false
/-- Its guard says no. -/
def ka (l : List (Nat × Value)) (ops : List Oper) (o : Oper) : Bool :=
  match o.guard with
  | none => false
  | some (j, b) => match ops[j]? with
    | some oj => match oj.dst with
      | some d => match xr l d with
        | some (.bool b') => b' != b
        | _ => false
      | none => false
    | none => false
section
variable {P : Program} {ops : List Oper} {Q : Exit → Act → World → Prop} {a : Act} {w w' : World} {n : Nat} {l : List (Nat × Value)} {o : Oper} {v : Value} {rest : List Oper}
theorem Sl.wanted (h : Sl a n l) (hp : zq l ops o = true) : Region.wanted o (yielded ops.toArray a.tmps) = true := by
  unfold Region.wanted
  unfold zq at hp
  split at hp
  · rename_i hg; rw [hg]
  · rename_i j b hg
    rw [hg]
    split at hp
    · rename_i oj hj
      split at hp
      · rename_i d hd
        split at hp
        · rename_i b' hb
          have := h.holds d _ hb
          simp only [beq_iff_eq] at hp
          simp [yielded, hj, hd, this, hp]
        · cases hp
      · cases hp
    · cases hp
theorem Sl.unwanted (h : Sl a n l) (hp : ka l ops o = true) : Region.wanted o (yielded ops.toArray a.tmps) = false := by
  unfold Region.wanted
  unfold ka at hp
  split at hp
  · cases hp
  · rename_i j b hg
    rw [hg]
    split at hp
    · rename_i oj hj
      split at hp
      · rename_i d hd
        split at hp
        · rename_i b' hb
          have := h.holds d _ hb
          simp only [bne_iff_ne, ne_eq] at hp
          simp [yielded, hj, hd, this, hp]
        · cases hp
      · cases hp
    · cases hp
/-- One step of a region that goes in its text's order. -/
theorem ki (hA : Sl a n l) (hg : zq l ops o = true) {d : Nat} (hdst : o.dst = some d) (hd : Nat.blt d n = true) (he : Does P l o w v w')
    (hk : ∀ a', Sl a' n ((d, v) :: l) → wpList P ops.toArray Q rest a' w') : wpList P ops.toArray Q (o :: rest) a w := by
  unfold wpList
  rw [if_pos (hA.wanted hg)]
  refine .inl ?_
  unfold Oper.wp
  rw [he a.eval (fun x u hx => hA.ev hx), Oper.upon_value, hdst]
  exact hk _ (hA.put hd v)
theorem qdi (hA : Sl a n l) (hg : zq l ops o = true) (hdst : o.dst = none) (he : Sets P l o w w')
    (hk : wpList P ops.toArray Q rest a w') : wpList P ops.toArray Q (o :: rest) a w := by
  unfold wpList
  rw [if_pos (hA.wanted hg)]
  refine .inl ?_
  unfold Oper.wp
  rw [he a.eval (fun x u hx => hA.ev hx), Oper.upon_skip, hdst]
  exact hk
theorem qx (hA : Sl a n l) (hg : ka l ops o = true) {d : Nat} (hdst : o.dst = some d) (hd : Nat.blt d n = true)
    (hk : ∀ a', Sl a' n ((d, undef) :: l) → wpList P ops.toArray Q rest a' w) : wpList P ops.toArray Q (o :: rest) a w := by
  unfold wpList
  rw [hA.unwanted hg, if_neg (by simp), hdst]
  exact hk _ (hA.put hd undef)
theorem yu (hA : Sl a n l) (hg : zq l ops o = true) {d : Nat} (hdst : o.dst = some d) (hd : Nat.blt d n = true) {f : FuncId} {vs : List Value} (he : Enters P l o w f vs)
    {R : Ending → World → Prop} (hc : Calls P f vs.toArray w R)
    (hk : ∀ e w', R e w' → ∃ v, e = .returned v ∧ ∀ a', Sl a' n ((d, v) :: l) → wpList P ops.toArray Q rest a' w') : wpList P ops.toArray Q (o :: rest) a w := by
  unfold wpList
  rw [if_pos (hA.wanted hg)]
  refine .inl ?_
  unfold Oper.wp
  rw [he a.eval (fun x u hx => hA.ev hx), Oper.upon_enter]
  refine hc.mono ?_
  intro e w' hR
  obtain ⟨v, rfl, h⟩ := hk e w' hR
  simp only [hdst]
  exact h _ (hA.put hd v)
theorem qa (hk : Q .normal a w) : wpList P ops.toArray Q [] a w := hk
/-! .. and of a region that draws its order: S is what every world on the way meets. -/
variable {S : World → Prop} {md : Region.Mode} {fuel : Nat} {listed : Array Bool}
theorem qii (hA : Sl a n l) (i : Nat) (hi : ops[i]? = some o) (hg : zq l ops o = true) {d : Nat} (hdst : o.dst = some d) (hd : Nat.blt d n = true) (hs : Region.noSelect ops.toArray = true) (hf : Region.free md ops.toArray listed i = true)
    (hr : (Region.ready md ops.toArray listed).contains i = true) (hQ : ∀ c a w, Q (.panic c) (a.put o.dst v) w → Q (.panic c) a w) (hS : S w) (he : ∀ w, S w → Does P l o w v w)
    (hk : ∀ a', Sl a' n ((d, v) :: l) → wpAnyH P md ops.toArray Q S fuel (listed.setIfInBounds i true) a' w) : wpAnyH P md ops.toArray Q S (fuel + 1) listed a w := by
  refine wpAnyH_take (i := i) (oi := o) (v := v) (by simpa using hi) hs hf hr hQ (Or.inl ⟨hA.wanted hg, fun w hw => he w hw a.eval (fun x u hx => hA.ev hx)⟩) hS ?_
  rw [hdst]
  exact hk _ (hA.put hd v)
theorem qe (hA : Sl a n l) (i : Nat) (hi : ops[i]? = some o) (hg : zq l ops o = true) {d : Nat} (hdst : o.dst = some d) (hd : Nat.blt d n = true) (hP : ∀ c a d v w, Q (.panic c) (Act.put a d v) w → Q (.panic c) a w) (hS : S w) (he : ∀ w, S w → Does P l o w v w)
    (hk : ∀ a', Sl a' n ((d, v) :: l) → wpAnyH P md ops.toArray Q S fuel (listed.setIfInBounds i true) a' w) (hs : Region.noSelect ops.toArray = true := by kernel_rfl) (hf : Region.free md ops.toArray listed i = true := by kernel_rfl) (hr : (Region.ready md ops.toArray listed).contains i = true := by kernel_rfl) : wpAnyH P md ops.toArray Q S (fuel + 1) listed a w :=
  qii hA i hi hg hdst hd hs hf hr (fun c a w h => hP c a _ _ w h) hS he hk
theorem qij (hA : Sl a n l) (i : Nat) (hi : ops[i]? = some o) (hg : ka l ops o = true) {d : Nat} (hdst : o.dst = some d) (hd : Nat.blt d n = true) (hs : Region.noSelect ops.toArray = true) (hf : Region.free md ops.toArray listed i = true)
    (hr : (Region.ready md ops.toArray listed).contains i = true) (hQ : ∀ c a w, Q (.panic c) (a.put o.dst undef) w → Q (.panic c) a w) (hS : S w)
    (hk : ∀ a', Sl a' n ((d, undef) :: l) → wpAnyH P md ops.toArray Q S fuel (listed.setIfInBounds i true) a' w) : wpAnyH P md ops.toArray Q S (fuel + 1) listed a w := by
  refine wpAnyH_take (i := i) (oi := o) (v := undef) (by simpa using hi) hs hf hr hQ (Or.inr ⟨hA.unwanted hg, rfl⟩) hS ?_
  rw [hdst]
  exact hk _ (hA.put hd undef)
theorem jx (hA : Sl a n l) (i : Nat) (hi : ops[i]? = some o) (hg : ka l ops o = true) {d : Nat} (hdst : o.dst = some d) (hd : Nat.blt d n = true) (hP : ∀ c a d v w, Q (.panic c) (Act.put a d v) w → Q (.panic c) a w) (hS : S w)
    (hk : ∀ a', Sl a' n ((d, undef) :: l) → wpAnyH P md ops.toArray Q S fuel (listed.setIfInBounds i true) a' w) (hs : Region.noSelect ops.toArray = true := by kernel_rfl) (hf : Region.free md ops.toArray listed i = true := by kernel_rfl) (hr : (Region.ready md ops.toArray listed).contains i = true := by kernel_rfl) : wpAnyH P md ops.toArray Q S (fuel + 1) listed a w :=
  qij hA i hi hg hdst hd hs hf hr (fun c a w h => hP c a _ _ w h) hS hk
/-- One operation of it. -/
theorem xd (hA : Sl a n l) (i : Nat) (hi : ops[i]? = some o) (hg : zq l ops o = true) {d : Nat} (hdst : o.dst = some d) (hd : Nat.blt d n = true) (he : Does P l o w v w') (hS : S w')
    (hk : ∀ a', Sl a' n ((d, v) :: l) → wpAnyH P md ops.toArray Q S fuel (listed.setIfInBounds i true) a' w') : wpOp P ops.toArray Q i (fun a' w' => S w' ∧ wpAnyH P md ops.toArray Q S fuel (listed.setIfInBounds i true) a' w') a w := by
  unfold wpOp
  simp only [List.getElem?_toArray, hi]
  rw [if_pos (hA.wanted hg)]
  refine .inl ?_
  unfold Oper.wp
  rw [he a.eval (fun x u hx => hA.ev hx), Oper.upon_value, hdst]
  exact ⟨hS, hk _ (hA.put hd v)⟩
theorem qja (hA : Sl a n l) (i : Nat) (hi : ops[i]? = some o) (hg : zq l ops o = true) (hdst : o.dst = none) (he : Sets P l o w w') (hS : S w')
    (hk : wpAnyH P md ops.toArray Q S fuel (listed.setIfInBounds i true) a w') : wpOp P ops.toArray Q i (fun a' w' => S w' ∧ wpAnyH P md ops.toArray Q S fuel (listed.setIfInBounds i true) a' w') a w := by
  unfold wpOp
  simp only [List.getElem?_toArray, hi]
  rw [if_pos (hA.wanted hg)]
  refine .inl ?_
  unfold Oper.wp
  rw [he a.eval (fun x u hx => hA.ev hx), Oper.upon_skip, hdst]
  exact ⟨hS, hk⟩
theorem za (hA : Sl a n l) (i : Nat) (hi : ops[i]? = some o) (hg : zq l ops o = true) {d : Nat} (hdst : o.dst = some d) (hd : Nat.blt d n = true)
    {f : FuncId} {vs : List Value} (he : Enters P l o w f vs) {R : Ending → World → Prop} (hc : Calls P f vs.toArray w R)
    (hk : ∀ e w', R e w' → ∃ v, e = .returned v ∧ S w' ∧ ∀ a', Sl a' n ((d, v) :: l) → wpAnyH P md ops.toArray Q S fuel (listed.setIfInBounds i true) a' w') : wpOp P ops.toArray Q i (fun a' w' => S w' ∧ wpAnyH P md ops.toArray Q S fuel (listed.setIfInBounds i true) a' w') a w := by
  unfold wpOp
  simp only [List.getElem?_toArray, hi]
  rw [if_pos (hA.wanted hg)]
  refine .inl ?_
  unfold Oper.wp
  rw [he a.eval (fun x u hx => hA.ev hx), Oper.upon_enter]
  refine hc.mono ?_
  intro e w' hR
  obtain ⟨v, rfl, h1, h2⟩ := hk e w' hR
  simp only [hdst]
  exact ⟨h1, h2 _ (hA.put hd v)⟩
/-- Nothing else may come up. -/
theorem qi {i : Nat} (hr : Region.ready md ops.toArray listed = [i]) (h : wpOp P ops.toArray Q i (fun a' w' => S w' ∧ wpAnyH P md ops.toArray Q S fuel (listed.setIfInBounds i true) a' w') a w) : wpAnyH P md ops.toArray Q S (fuel + 1) listed a w :=
  wpAnyH_all hr (by simp) (fun j hj => by rw [List.mem_singleton] at hj; subst hj; exact h)
def AllOps (W : Nat → Prop) : List Nat → Prop
  | [] => True
  | i :: t => W i ∧ AllOps W t
theorem AllOps.get {W : Nat → Prop} : ∀ {rs : List Nat}, AllOps W rs → ∀ i ∈ rs, W i
  | _ :: _, h, i, hi => by
    rcases List.mem_cons.1 hi with rfl | hi
    · exact h.1
    · exact AllOps.get h.2 i hi
/-- Whichever comes up. -/
theorem jl {rs : List Nat} (hr : Region.ready md ops.toArray listed = rs) (hne : rs ≠ []) (h : AllOps (fun i => wpOp P ops.toArray Q i (fun a' w' => S w' ∧ wpAnyH P md ops.toArray Q S fuel (listed.setIfInBounds i true) a' w') a w) rs) : wpAnyH P md ops.toArray Q S (fuel + 1) listed a w :=
  wpAnyH_all hr hne (fun i hi => h.get i hi)
theorem zb (hr : Region.ready md ops.toArray listed = []) (hk : Q .normal a w) : wpAnyH P md ops.toArray Q S fuel listed a w := wpAnyH_done hr hk fuel
end
def ut : Value → Bool
  | .int .u32 _ => false
  | _ => true
theorem qmf {v : Value} (h : ut v = true) : ∀ n, v ≠ .int .u32 n := by
  intro n e
  subst e
  cases h
/-- Their blocks are others, where they have any. -/
def Apart (x y : Option Addr) : Prop := ∀ a b, x = some a → y = some b → a.block ≠ b.block
def Off (x : Option Addr) (g : Nat) : Prop := ∀ a, x = some a → a.block ≠ g
/-- Memory: as it was at w0, but for new blocks: those of L hold these cells; R: what is read as rows of words; O: rows of words of the call's own, written in place. -/
structure St (w0 w : World) (L : List (Nat × List Value)) (R : List (Option Addr × List Nat)) (O : List (Option Addr × Nat × List Nat)) : Prop where
  bel : Below w0.heap.size w0 w
  own : ∀ p ∈ L, w0.heap.size ≤ p.1 ∧ Blk w p.1 p.2
  dis : L.Pairwise (fun p q => p.1 ≠ q.1)
  rds : ∀ r ∈ R, Rd w r.1 r.2
  rows : ∀ o ∈ O, Own w0.heap.size w o.1 o.2.1 o.2.2
  sepO : O.Pairwise (fun p q => Apart p.1 q.1)
  sepL : ∀ o ∈ O, ∀ p ∈ L, Off o.1 p.1
  sepR : ∀ o ∈ O, ∀ r ∈ R, r.2 ≠ [] → Apart o.1 r.1
section
variable {w0 w w' : World} {L : List (Nat × List Value)} {R : List (Option Addr × List Nat)} {O : List (Option Addr × Nat × List Nat)}
theorem St.start (w : World) : St w w [] [] [] := ⟨Below.refl _ _, by simp, .nil, by simp, by simp, .nil, by simp, by simp⟩
theorem St.addR (h : St w0 w L R []) {so : Option Addr} {l : List Nat} (hr : Rd w so l) : St w0 w L ((so, l) :: R) [] :=
  ⟨h.bel, h.own, h.dis, fun r hm => by rcases List.mem_cons.1 hm with rfl | hm; exact hr; exact h.rds r hm, by simp, .nil, by simp, by simp⟩
theorem St.rd (h : St w0 w L R O) (k : Nat) {so : Option Addr} {l : List Nat} (hk : R[k]? = some (so, l)) : Rd w so l := h.rds _ (List.mem_of_getElem? hk)
theorem St.row (h : St w0 w L R O) (k : Nat) {so : Option Addr} {c : Nat} {l : List Nat} (hk : O[k]? = some (so, c, l)) : Own w0.heap.size w so c l := h.rows _ (List.mem_of_getElem? hk)
theorem St.call (h : St w0 w L R O) (hb : Below w.heap.size w w') : St w0 w' L R O :=
  ⟨chain2 h.bel hb, fun p hp => ⟨(h.own p hp).1, (h.own p hp).2.below hb⟩, h.dis, fun r hr => (h.rds r hr).below hb, fun o ho => (h.rows o ho).below hb, h.sepO, h.sepL, h.sepR⟩
theorem St.drew (h : St w0 w L R O) : St w0 w.drew L R O := ⟨h.bel.drew, fun p hp => ⟨(h.own p hp).1, (h.own p hp).2.drew⟩, h.dis, fun r hr => (h.rds r hr).drew, fun o ho => (h.rows o ho).drew, h.sepO, h.sepL, h.sepR⟩
theorem St.lt (h : St w0 w L R O) : ∀ p ∈ L, p.1 < w.heap.size := fun p hp => (h.own p hp).2.lt
theorem St.new (h : St w0 w L R O) (vs : List Value) (t : TypeId) (hno : vs.all ut = true) : St w0 (w.alloc (.cells vs.toArray t)) ((w.heap.size, vs) :: L) R O := by
  have hb : Below w.heap.size w (w.alloc (.cells vs.toArray t)) := (Below.refl _ _).alloc (Nat.le_refl _) _
  have h' := h.call hb
  refine ⟨h'.bel, fun p hp => ?_, List.pairwise_cons.2 ⟨fun q hq => Nat.ne_of_gt (h.lt q hq), h.dis⟩, h'.rds, h'.rows, h.sepO, fun o ho p hp => ?_, h.sepR⟩
  · rcases List.mem_cons.1 hp with rfl | hp
    · exact ⟨h.bel.size, Blk.new w vs t (fun v hv => qmf (List.all_eq_true.1 hno v hv))⟩
    · exact h'.own p hp
  · rcases List.mem_cons.1 hp with rfl | hp
    · exact fun a ha => Nat.ne_of_lt ((h.rows o ho).lt a ha).2
    · exact h.sepL o ho p hp
theorem St.blk (h : St w0 w L R O) (k : Nat) {g : Nat} {vs : List Value} (hk : L[k]? = some (g, vs)) : Blk w g vs := (h.own _ (List.mem_of_getElem? hk)).2
theorem St.subL (h : St w0 w L R O) (L' : List (Nat × List Value)) (hs : L'.Sublist L) : St w0 w L' R O := ⟨h.bel, fun p hp => h.own p (hs.subset hp), h.dis.sublist hs, h.rds, h.rows, h.sepO, fun o ho p hp => h.sepL o ho p (hs.subset hp), h.sepR⟩
theorem St.subO (h : St w0 w L R O) (O' : List (Option Addr × Nat × List Nat)) (hs : O'.Sublist O) : St w0 w L R O' := ⟨h.bel, h.own, h.dis, h.rds, fun o ho => h.rows o (hs.subset ho), h.sepO.sublist hs, fun o ho => h.sepL o (hs.subset ho), fun o ho => h.sepR o (hs.subset ho)⟩
/-- The blocks in another order: 'ks' are their places. -/
theorem St.pickL (h : St w0 w L R O) (L' : List (Nat × List Value)) (ks : List Nat) (hs : ks.map (fun k => L[k]?) = L'.map some) (hn : ks.Nodup) : St w0 w L' R O := by
  have hlen : ks.length = L'.length := by have := congrArg List.length hs; simpa using this
  have at_ : ∀ i (h1 : i < L'.length), ∃ h2 : i < ks.length, L[ks[i]]? = some L'[i] := by
    intro i h1
    have h2 : i < ks.length := by omega
    refine ⟨h2, ?_⟩
    have := congrArg (fun l => l[i]?) hs
    simpa [h1, h2] using this
  have mem : ∀ p ∈ L', p ∈ L := fun p hp => by
    obtain ⟨i, hi, rfl⟩ := List.mem_iff_getElem.1 hp
    obtain ⟨_, e⟩ := at_ i hi
    exact List.mem_of_getElem? e
  refine ⟨h.bel, fun p hp => h.own p (mem p hp), ?_, h.rds, h.rows, h.sepO, fun o ho p hp => h.sepL o ho p (mem p hp), h.sepR⟩
  rw [List.pairwise_iff_getElem]
  intro i j hi hj hij
  obtain ⟨hi2, ei⟩ := at_ i hi
  obtain ⟨hj2, ej⟩ := at_ j hj
  have hne : ks[i] ≠ ks[j] := fun e => by
    have := (List.nodup_iff_pairwise_ne.1 hn)
    rw [List.pairwise_iff_getElem] at this
    exact this i j hi2 hj2 hij e
  have hp := List.pairwise_iff_getElem.1 h.dis
  obtain ⟨a1, b1⟩ := List.getElem?_eq_some_iff.1 ei
  obtain ⟨a2, b2⟩ := List.getElem?_eq_some_iff.1 ej
  rcases Nat.lt_or_gt_of_ne hne with hlt | hlt
  · have := hp _ _ a1 a2 hlt
    rw [b1, b2] at this
    exact this
  · have := hp _ _ a2 a1 hlt
    rw [b1, b2] at this
    exact fun e => this e.symm
def AllR (R : List (Option Addr × List Nat)) : List (Option Addr × List Nat) → Prop
  | [] => True
  | r :: t => (∃ k : Nat, R[k]? = some r) ∧ AllR R t
theorem AllR.mem : ∀ {R' : List (Option Addr × List Nat)}, AllR R R' → ∀ r ∈ R', r ∈ R
  | r :: t, hs, x, hx => by
    rcases List.mem_cons.1 hx with rfl | hx
    · obtain ⟨⟨k, hk⟩, _⟩ := hs
      exact List.mem_of_getElem? hk
    · exact AllR.mem hs.2 x hx
theorem St.pickR (h : St w0 w L R O) (R' : List (Option Addr × List Nat)) (hs : AllR R R') : St w0 w L R' O :=
  ⟨h.bel, h.own, h.dis, fun r hr => h.rds r (hs.mem r hr), h.rows, h.sepO, h.sepL, fun o ho r hr => h.sepR o ho r (hs.mem r hr)⟩
/-- A part of the state. -/
theorem St.pickRL {L' : List (Nat × List Value)} {R' : List (Option Addr × List Nat)} (h : St w0 w L R O) (hR : AllR R R') (ks : List Nat) (hs : ks.map (fun k => L[k]?) = L'.map some) (hn : ks.Nodup) : St w0 w L' R' O := (h.pickR R' hR).pickL L' ks hs hn
theorem St.part {L' : List (Nat × List Value)} {R' : List (Option Addr × List Nat)} {O' : List (Option Addr × Nat × List Nat)} (h : St w0 w L R O) (hL : L'.Sublist L) (hR : AllR R R') (hO : O'.Sublist O) : St w0 w L' R' O' := ((h.pickR R' hR).subL L' hL).subO O' hO
theorem St.partD {L' : List (Nat × List Value)} {R' : List (Option Addr × List Nat)} {O' : List (Option Addr × Nat × List Nat)} (h : St w0 w L R O) (hL : L'.Sublist L) (n : Nat) (hR : R.drop n = R') (hO : O'.Sublist O) : St w0 w L' R' O' := by
  subst hR
  refine St.subO (St.subL ⟨h.bel, h.own, h.dis, fun r hr => h.rds r (List.mem_of_mem_drop hr), h.rows, h.sepO, h.sepL, fun o ho r hr => h.sepR o ho r (List.mem_of_mem_drop hr)⟩ L' hL) O' hO
theorem St.cell (h : St w0 w L R O) (k : Nat) {g : Nat} {vs : List Value} (hk : L[k]? = some (g, vs)) (i : Nat) {v : Value} (hi : vs[i]? = some v) : w.cell? ⟨g, i, none⟩ = some v :=
  (h.own _ (List.mem_of_getElem? hk)).2.cell i v hi
theorem qoj {L : List (Nat × List Value)} (h : L.Pairwise (fun p q => p.1 ≠ q.1)) {k g : Nat} {vs us : List Value} (hk : L[k]? = some (g, vs)) : (L.set k (g, us)).Pairwise (fun p q => p.1 ≠ q.1) := by
  have e : (L.set k (g, us)).map Prod.fst = L.map Prod.fst := by
    rw [List.map_set]
    apply List.ext_getElem?
    intro i
    by_cases hi : k = i
    · subst hi
      have hlt : k < (L.map Prod.fst).length := by simpa using (List.getElem?_eq_some_iff.1 hk).1
      rw [List.getElem?_set_self hlt]
      simp [hk]
    · rw [List.getElem?_set_ne hi]
  have h1 : (L.map Prod.fst).Pairwise (· ≠ ·) := List.pairwise_map.2 h
  rw [← e] at h1
  exact List.pairwise_map.1 h1
theorem qri {L : List (Nat × List Value)} (h : L.Pairwise (fun p q => p.1 ≠ q.1)) {k g : Nat} {vs us : List Value} (hk : L[k]? = some (g, vs)) {p : Nat × List Value} (hp : p ∈ L.set k (g, us)) : p = (g, us) ∨ (p ∈ L ∧ g ≠ p.1) := by
  obtain ⟨i, hi⟩ := List.mem_iff_getElem?.1 hp
  by_cases e : k = i
  · subst e
    have hlt : k < L.length := (List.getElem?_eq_some_iff.1 hk).1
    rw [List.getElem?_set_self hlt] at hi
    exact .inl (Option.some.inj hi).symm
  · rw [List.getElem?_set_ne e] at hi
    refine .inr ⟨List.mem_of_getElem? hi, ?_⟩
    have h1 := List.pairwise_iff_getElem.1 h
    obtain ⟨hk1, hk2⟩ := List.getElem?_eq_some_iff.1 hk
    obtain ⟨hi1, hi2⟩ := List.getElem?_eq_some_iff.1 hi
    rcases Nat.lt_or_gt_of_ne e with hlt | hlt
    · have := h1 k i hk1 hi1 hlt
      rw [hk2, hi2] at this
      exact this
    · have := h1 i k hi1 hk1 hlt
      rw [hk2, hi2] at this
      exact fun e => this e.symm
theorem zeb (w : World) (g i : Nat) (v : Value) : w.grownBy (w.setCell ⟨g, i, none⟩ v) (some g) :=
  ⟨rfl, rfl, rfl, by simp, fun k hk hne => Below.heap_setCell w ⟨g, i, none⟩ v k (fun e => hne (by rw [e]))⟩
theorem St.set (h : St w0 w L R O) (k : Nat) {g : Nat} {vs : List Value} (hk : L[k]? = some (g, vs)) (i : Nat) (hi : i < vs.length) (v : Value) (hv : ut v = true) : St w0 (w.setCell ⟨g, i, none⟩ v) (L.set k (g, vs.set i v)) R O := by
  have hm := List.mem_of_getElem? hk
  have ho := h.own _ hm
  refine ⟨h.bel.setCell (p := ⟨g, i, none⟩) ho.1 v, fun p hp => ?_, qoj h.dis hk, fun r hr => ho.2.rd (h.rds r hr) i v hi, fun o hO => (h.rows o hO).kept (zeb w g i v) (fun a ha e => h.sepL o hO _ hm a ha (by simpa using e)), h.sepO, fun o hO p hp => ?_, h.sepR⟩
  · rcases qri h.dis hk hp with rfl | ⟨hp, hne⟩
    · exact ⟨ho.1, ho.2.set i v hi (qmf hv)⟩
    · exact ⟨(h.own p hp).1, (h.own p hp).2.far hne i v⟩
  · rcases qri h.dis hk hp with rfl | ⟨hp, hne⟩
    · exact (show Off o.1 g from h.sepL o hO _ hm)
    · exact h.sepL o hO p hp
def over : List Value → Nat → List Value → List Value
  | vs, _, [] => vs
  | vs, o, c :: cs => over (vs.set o c) (o + 1) cs
theorem St.sets {g : Nat} : ∀ (cs : List Value) (w : World) (L : List (Nat × List Value)) (vs : List Value) (o : Nat), St w0 w L R O → ∀ k, L[k]? = some (g, vs) → o + cs.length ≤ vs.length → cs.all ut = true → St w0 (w.setCells g o cs) (L.set k (g, over vs o cs)) R O
  | [], w, L, vs, o, h, k, hk, _, _ => by
    have : L.set k (g, over vs o []) = L := by
      apply List.ext_getElem?
      intro i
      by_cases hi : k = i
      · subst hi
        rw [List.getElem?_set_self (List.getElem?_eq_some_iff.1 hk).1, hk]
        rfl
      · rw [List.getElem?_set_ne hi]
    rw [this]
    exact h
  | c :: cs, w, L, vs, o, h, k, hk, hl, hc => by
    simp only [List.all_cons, Bool.and_eq_true] at hc
    simp only [List.length_cons] at hl
    have h1 := h.set k hk o (by omega) c hc.1
    have hk1 : (L.set k (g, vs.set o c))[k]? = some (g, vs.set o c) := List.getElem?_set_self (List.getElem?_eq_some_iff.1 hk).1
    have h2 := St.sets cs _ _ (vs.set o c) (o + 1) h1 k hk1 (by rw [List.length_set]; omega) hc.2
    rw [List.set_set] at h2
    exact h2
/-! Rows of the call's own. -/
theorem Blk.grown {g : Nat} {vs : List Value} (h : Blk w g vs) {row : Option Nat} (hg : w.grownBy w' row) (hne : some g ≠ row) : Blk w' g vs := by
  have e := hg.block g h.lt hne
  exact ⟨Nat.lt_of_lt_of_le h.lt hg.size, fun i v hv => (World.cell?_of_block (w := w) (a := ⟨g, i, none⟩) e).trans (h.cell i v hv), fun i => (World.frozen?_of_block (w := w) (a := ⟨g, i, none⟩) e).trans (h.froz i), h.no⟩
theorem qpa {k : Nat} {o u p : Option Addr × Nat × List Nat} (h : O.Pairwise (fun p q => Apart p.1 q.1)) (hk : O[k]? = some o) (hp : p ∈ O.set k u) : p = u ∨ (p ∈ O ∧ Apart o.1 p.1) := by
  obtain ⟨i, hi⟩ := List.mem_iff_getElem?.1 hp
  by_cases e : k = i
  · subst e
    rw [List.getElem?_set_self (List.getElem?_eq_some_iff.1 hk).1] at hi
    exact .inl (Option.some.inj hi).symm
  · rw [List.getElem?_set_ne e] at hi
    refine .inr ⟨List.mem_of_getElem? hi, ?_⟩
    have h1 := List.pairwise_iff_getElem.1 h
    obtain ⟨hk1, hk2⟩ := List.getElem?_eq_some_iff.1 hk
    obtain ⟨hi1, hi2⟩ := List.getElem?_eq_some_iff.1 hi
    rcases Nat.lt_or_gt_of_ne e with hlt | hlt
    · have := h1 k i hk1 hi1 hlt
      rw [hk2, hi2] at this
      exact this
    · have := h1 i k hi1 hk1 hlt
      rw [hk2, hi2] at this
      exact fun a b ha hb e => this b a hb ha e.symm
/-- One row is changed, or lies anew in a block that is made now; all else ka. -/
theorem St.turn (h : St w0 w L R O) (k : Nat) {ao : Option Addr} {c : Nat} {l : List Nat} (hk : O[k]? = some (ao, c, l)) {bo : Option Addr} {c' : Nat} {l' : List Nat} (hg : w.grownBy w' (Value.slice ao l.length c).ownBlock) (ho : Own w0.heap.size w' bo c' l') (hat : ∀ b, bo = some b → (∃ a, ao = some a ∧ a.block = b.block) ∨ b.block = w.heap.size) :
    St w0 w' L R (O.set k (bo, c', l')) := by
  have hm := List.mem_of_getElem? hk
  have hrow := h.rows _ hm
  have blk : ∀ a, ao = some a → (Value.slice ao l.length c).ownBlock = some a.block := fun a ha => by rw [ha]; rfl
  have far : ∀ g, Off ao g → some g ≠ (Value.slice ao l.length c).ownBlock := fun g hg e => by
    cases hao : ao with
    | none => rw [hao] at e; simp [Value.ownBlock] at e
    | some a => rw [blk a hao] at e; exact hg a hao (by simpa using e.symm)
  -- what lies off the old row and is there lies off the new one
  have off : ∀ g, Off ao g → g < w.heap.size → Off bo g := fun g hg hlt b hb e => by
    rcases hat b hb with ⟨a, ha, e1⟩ | e1
    · exact hg a ha (e1.trans e)
    · omega
  refine ⟨h.bel.grown hg h.bel.size (fun j hj => ?_), fun p hp => ⟨(h.own p hp).1, (h.own p hp).2.grown hg (far _ (h.sepL _ hm p hp))⟩, h.dis, fun r hr => ?_, fun o hO => ?_, ?_, fun o hO p hp => ?_, fun o hO r hr hne => ?_⟩
  · cases hao : ao with
    | none => rw [hao] at hj; simp [Value.ownBlock] at hj
    | some a => rw [blk a hao] at hj; cases hj; exact (hrow.lt a hao).1
  · by_cases hne : r.2 = []
    · rw [hne]; exact Rd.nil _ _
    · exact (h.rds r hr).grown hg (fun a ha => far _ (fun x hx e => h.sepR _ hm r hr hne x a hx ha e))
  · rcases qpa h.sepO hk hO with rfl | ⟨hO, hap⟩
    · exact ho
    · exact (h.rows o hO).kept hg (fun a ha => far _ (fun x hx e => hap x a hx ha e))
  · have key : ∀ o ∈ O, Apart ao o.1 → Apart bo o.1 := fun o hO hap b x hb hx e => off x.block (fun y hy ey => hap y x hy hx ey) ((h.rows o hO).lt x hx).2 b hb e
    rw [List.pairwise_iff_getElem]
    intro i j hi hj hij
    have hi' : i < O.length := by simpa using hi
    have hj' : j < O.length := by simpa using hj
    have h1 := List.pairwise_iff_getElem.1 h.sepO
    obtain ⟨hk1, hk2⟩ := List.getElem?_eq_some_iff.1 hk
    rw [List.getElem_set, List.getElem_set]
    by_cases e1 : k = i
    · subst e1
      rw [if_pos rfl, if_neg (by omega)]
      have := h1 k j hi' hj' hij
      rw [hk2] at this
      exact key _ (List.getElem_mem hj') this
    · rw [if_neg e1]
      by_cases e2 : k = j
      · subst e2
        rw [if_pos rfl]
        have := h1 i k hi' hj' hij
        rw [hk2] at this
        exact fun x b hx hb e => key _ (List.getElem_mem hi') (fun p q hp hq e => this q p hq hp e.symm) b x hb hx e.symm
      · rw [if_neg e2]
        exact h1 i j hi' hj' hij
  · rcases qpa h.sepO hk hO with rfl | ⟨hO, _⟩
    · exact off _ (h.sepL _ hm p hp) (h.lt p hp)
    · exact h.sepL o hO p hp
  · rcases qpa h.sepO hk hO with rfl | ⟨hO, _⟩
    · intro b x hb hx e
      obtain ⟨bb, of_, e1, hlt, _⟩ := (h.rds r hr).pos hne
      rw [e1] at hx
      cases hx
      exact off bb (fun y hy ey => h.sepR _ hm r hr hne y ⟨bb, of_, none⟩ hy e1 ey) hlt b hb e
    · exact h.sepR o hO r hr hne
/-! ### The types -/
/-- A struct type of n cells. -/
structure IsS (P : Program) (t : TypeId) (n : Nat) : Prop where
  und : ∃ fs, P.underlying t = some (.struct fs)
  size : (P.info? t).map (·.size) = some n
theorem xl {P : Program} {t : TypeId} {n : Nat} (h : (P.info? t).map (·.size) = some n) : ∃ i, P.info? t = some i ∧ i.size = n := by
  cases hi : P.info? t with
  | none => rw [hi] at h; cases h
  | some i => rw [hi] at h; exact ⟨i, rfl, by simpa using h⟩
/-- A type of one cell. -/
structure Is1 (P : Program) (t : TypeId) : Prop where
  und : ∃ d, P.underlying t = some d ∧ (match d with | .struct _ | .array _ _ => false | _ => true) = true
  size : (P.info? t).map (·.size) = some 1
/-- Field f of a struct type lies at this cell. -/
def FieldAt (P : Program) (s : TypeId) (f off : Nat) : Prop := ∃ fs fld, P.underlying s = some (.struct fs) ∧ fs[f]? = some fld ∧ fld.offset = off ∧ (P.info? fld.type).map (fun i => Nat.beq i.size 0) = some false

variable {P : Program}
theorem xt (g o j : Nat) : (⟨g, o, none⟩ : Addr).add j = ⟨g, o + j, none⟩ := by unfold Addr.add; split <;> simp_all
theorem xm {t : TypeId} {n : Nat} (ht : IsS P t n) {g o : Nat} (cs : List Value) (hl : cs.length = n) (hc : ∀ j v, cs[j]? = some v → w.cell? ⟨g, o + j, none⟩ = some v) : (loadVar t ⟨g, o, none⟩).run P w = .ok (.agg cs.toArray) w := by
  obtain ⟨fs, hu⟩ := ht.und
  obtain ⟨i, hi, hn⟩ := xl ht.size
  have h1 : (isAgg t).run P w = .ok true w := by simp [isAgg, run_underlying hu]
  have h2 : (sizeOf t).run P w = .ok cs.length w := by simp [sizeOf, typeInfo, hi, hn, hl]
  have h3 := run_loadCells_list (P := P) w ⟨g, o, none⟩ cs (fun j v hj => by rw [xt]; exact hc j v hj)
  simp only [loadVar, Sem.run_bind, h1, Result.andThen_ok, if_true, h2, h3, Sem.run_pure]
theorem xz {t : TypeId} (ht : Is1 P t) {a : Addr} {v : Value} (hc : w.cell? a = some v) : (loadVar t a).run P w = .ok v w := by
  obtain ⟨d, hu, hd⟩ := ht.und
  have h1 : (isAgg t).run P w = .ok false w := by
    cases d <;> first | (simp at hd; done) | simp [isAgg, run_underlying hu]
  simp only [loadVar, Sem.run_bind, h1, Result.andThen_ok, if_false, Bool.false_eq_true]
  simp [hc]

variable {l : List (Nat × Value)} {dst : Option Tmp} {ty : TypeId} {pos : String} {after : Array Edge} {guard : Option (Nat × Bool)} {v : Value}
theorem qg {x : Operand} (hx : ev l x = some v) : Does P l ⟨dst, .move x, ty, pos, after, guard⟩ w v w := fun ρ h => by
  simp only [execOp, h x v hx]; rfl
theorem jk {x : Operand} (hx : ev l x = some v) : Does P l ⟨dst, .assign x, ty, pos, after, guard⟩ w v w := fun ρ h => by
  simp only [execOp, h x v hx]; rfl
theorem xn {c x y : Operand} {b : Bool} {u u' : Value} (hc : ev l c = some (.bool b)) (hx : ev l x = some u) (hy : ev l y = some u') (hv : v = cond b u u') : Does P l ⟨dst, .pick c x y, ty, pos, after, guard⟩ w v w := fun ρ h => by
  subst hv
  simp only [execOp, h c _ hc, h x _ hx, h y _ hy]
  cases b <;> rfl
theorem zj {x : Operand} {vs : List Value} {i : Nat} (hx : ev l x = some (.tuple vs.toArray)) (hi : vs[i]? = some v) : Does P l ⟨dst, .extract x i, ty, pos, after, guard⟩ w v w := fun ρ h => by
  simp only [execOp, h x _ hx, Instr.extract, List.getElem?_toArray, hi]; rfl
theorem jq {t : TypeId} {x : Operand} {a : Addr} (hx : ev l x = some (.pointer (some a))) (hr : (loadVar t a).run P w = .ok v w) : Does P l ⟨dst, .load t x, ty, pos, after, guard⟩ w v w := fun ρ h => by
  simp only [execOp, h x _ hx, Instr.loadAt, Instr.sureAddr, Sem.run_bind, Sem.run_pure, Result.andThen_ok, hr]
/-- A struct out of a block of the call's own. -/
theorem zi (hS : St w0 w L R O) {t : TypeId} {n : Nat} (ht : IsS P t n) {x : Operand} {g o : Nat} (hx : ev l x = some (.pointer (some ⟨g, o, none⟩))) (k : Nat) {vs cs : List Value} (hk : L[k]? = some (g, vs)) (hcs : (vs.drop o).take n = cs) (hl : cs.length = n) :
    Does P l ⟨dst, .load t x, ty, pos, after, guard⟩ w (.agg cs.toArray) w :=
  jq hx (xm ht cs hl (fun j v hj => hS.cell k hk (o + j) (by
    have hjn : j < n := by rw [← hl]; exact (List.getElem?_eq_some_iff.1 hj).1
    rw [← hcs, List.getElem?_take, if_pos hjn, List.getElem?_drop] at hj
    exact hj)))
theorem qy (hS : St w0 w L R O) {t : TypeId} (ht : Is1 P t) {x : Operand} {g o : Nat} (hx : ev l x = some (.pointer (some ⟨g, o, none⟩))) (k : Nat) {vs : List Value} (hk : L[k]? = some (g, vs)) (hv : vs[o]? = some v) :
    Does P l ⟨dst, .load t x, ty, pos, after, guard⟩ w v w := jq hx (xz ht (hS.cell k hk o hv))
/-- .. out of a block that was there before the call. -/
theorem yg (hS : St w0 w L R O) {g : Nat} {vs : List Value} (hF : Blk w0 g vs) {t : TypeId} {n : Nat} (ht : IsS P t n) {x : Operand} {o : Nat} (hx : ev l x = some (.pointer (some ⟨g, o, none⟩))) {cs : List Value} (hcs : (vs.drop o).take n = cs) (hl : cs.length = n) :
    Does P l ⟨dst, .load t x, ty, pos, after, guard⟩ w (.agg cs.toArray) w :=
  jq hx (xm ht cs hl (fun j v hj => (hF.below hS.bel).cell (o + j) v (by
    have hjn : j < n := by rw [← hl]; exact (List.getElem?_eq_some_iff.1 hj).1
    rw [← hcs, List.getElem?_take, if_pos hjn, List.getElem?_drop] at hj
    exact hj)))
theorem Rd.addr {so : Option Addr} {l : List Nat} {i : Nat} (h : Rd w so l) (hi : i < l.length) : ∃ b off, so = some ⟨b, off, none⟩ := by
  obtain ⟨b, off, h1, _⟩ := h.pos (fun e => by rw [e] at hi; simp at hi)
  exact ⟨b, off, h1⟩
theorem Rd.at_ {so : Option Addr} {l : List Nat} {i b off : Nat} (h : Rd w so l) (hso : so = some ⟨b, off, none⟩) (hi : i < l.length) : w.cell? ⟨b, off + i, none⟩ = some (.int .u32 ((l.getD i 0 : Nat) : Int)) := by
  obtain ⟨b', off', h1, _, h3⟩ := h.pos (fun e => by rw [e] at hi; simp at hi)
  rw [hso] at h1
  cases h1
  exact h3 i hi
theorem km {so : Option Addr} {us : List Nat} {i b off : Nat} (h : Rd w so us) (hso : so = some ⟨b, off, none⟩) (hi : i < us.length) {t : TypeId} (ht : Is1 P t) {x : Operand} (hx : ev l x = some (.pointer (some ⟨b, off + i, none⟩))) :
    Does P l ⟨dst, .load t x, ty, pos, after, guard⟩ w (.int .u32 ((us.getD i 0 : Nat) : Int)) w := jq hx (xz ht (h.at_ hso hi))
theorem qb {s : TypeId} {x : Operand} {f g o off o' : Nat} (hf : FieldAt P s f off) (hx : ev l x = some (.pointer (some ⟨g, o, none⟩))) (ho : o + off = o') : Does P l ⟨dst, .fieldAddr s x f, ty, pos, after, guard⟩ w (.pointer (some ⟨g, o', none⟩)) w := fun ρ h => by
  obtain ⟨fs, fld, hu, hff, hoff, hm⟩ := hf
  obtain ⟨i, hi, hz⟩ : ∃ i, P.info? fld.type = some i ∧ i.size ≠ 0 := by
    cases hi : P.info? fld.type with
    | none => rw [hi] at hm; cases hm
    | some i =>
      rw [hi] at hm
      refine ⟨i, rfl, fun e => ?_⟩
      simp [e] at hm
  subst ho
  have h2 : (sizeOf fld.type).run P w = .ok i.size w := by simp [sizeOf, typeInfo, hi]
  simp only [execOp, h x _ hx, Instr.fieldAt, Sem.run_bind, run_underlying hu, Result.andThen_ok, hff, Instr.sureAddr, Sem.run_pure, fieldPlace, h2, if_neg hz, xt, hoff]
theorem qs {t : TypeId} {x : Operand} {u : Value} (hx : ev l x = some u) {vs : List Value} (hc : u.cells = vs.toArray) : Does P l ⟨dst, .box t x, ty, pos, after, guard⟩ w (.pointer (some ⟨w.heap.size, 0, none⟩)) (w.alloc (.cells vs.toArray t)) := fun ρ h => by
  simp only [execOp, h x _ hx, ← hc]; rfl
theorem qk {t : TypeId} {z : Value} (hz : (P.info? t).map (·.zero) = some (some z)) {vs : List Value} (hc : z.cells = vs.toArray) : Does P l ⟨dst, .alloc t, ty, pos, after, guard⟩ w (.pointer (some ⟨w.heap.size, 0, none⟩)) (w.alloc (.cells vs.toArray t)) := fun ρ h => by
  cases hi : P.info? t with
  | none => rw [hi] at hz; cases hz
  | some i =>
    rw [hi] at hz
    simp only [Option.map_some, Option.some.injEq] at hz
    have h1 : (zeroValue t).run P w = .ok z w := by simp [zeroValue, typeInfo, hi, hz]
    simp only [execOp, Instr.alloc, Sem.run_bind, h1, Result.andThen_ok, ← hc]
    rfl
theorem zv {t : TypeId} {parts : List (Nat × Operand)} {pv : List (Nat × Value)} (hp : evp l parts = some pv) (hb : ∀ w, (Instr.build t pv.toArray).run P w = .ok v w) : Does P l ⟨dst, .build t parts.toArray, ty, pos, after, guard⟩ w v w := fun ρ h => by
  have e : parts.toArray.map (fun p => (p.1, ρ p.2)) = pv.toArray := by
    simp only [List.map_toArray]
    congr 1
    have : ∀ (xs : List (Nat × Operand)) (vs : List (Nat × Value)), evp l xs = some vs → xs.map (fun p => (p.1, ρ p.2)) = vs := by
      intro xs
      induction xs with
      | nil => intro vs hx; simp [evp] at hx; simp [hx]
      | cons x xs ih =>
        intro vs hx
        obtain ⟨i, x⟩ := x
        unfold evp at hx
        split at hx
        · rename_i v us h1 h2
          cases hx
          simp [h _ _ h1, ih _ h2]
        · cases hx
    exact this parts pv hp
  have e' : (parts.toArray.map fun (i, x) => (i, ρ x)) = pv.toArray := e
  simp only [execOp, e', Sem.run_bind, hb w, Result.andThen_ok, Sem.run_pure]
theorem jv {t : TypeId} {n : Nat} {parts : List (Nat × Operand)} {pv : List (Nat × Value)} (hp : evp l parts = some pv) {w' : World} (hb : (Instr.buildSlice t n pv.toArray).run P w = .ok v w') : Does P l ⟨dst, .buildSlice t n parts.toArray, ty, pos, after, guard⟩ w v w' := fun ρ h => by
  have e : parts.toArray.map (fun p => (p.1, ρ p.2)) = pv.toArray := by
    simp only [List.map_toArray]
    congr 1
    have : ∀ (xs : List (Nat × Operand)) (vs : List (Nat × Value)), evp l xs = some vs → xs.map (fun p => (p.1, ρ p.2)) = vs := by
      intro xs
      induction xs with
      | nil => intro vs hx; simp [evp] at hx; simp [hx]
      | cons x xs ih =>
        intro vs hx
        obtain ⟨i, x⟩ := x
        unfold evp at hx
        split at hx
        · rename_i v us h1 h2
          cases hx
          simp [h _ _ h1, ih _ h2]
        · cases hx
    exact this parts pv hp
  have e' : (parts.toArray.map fun (i, x) => (i, ρ x)) = pv.toArray := e
  simp only [execOp, e', Sem.run_bind, hb, Result.andThen_ok, Sem.run_pure]
theorem zf {x : Operand} {t e : TypeId} {so : Option Addr} {n c : Nat} (hu : P.underlying t = some (.slice e)) (hx : ev l x = some (.slice so n c)) : Does P l ⟨dst, .call ⟨.builtin .len, #[x], #[t]⟩, ty, pos, after, guard⟩ w (.int .i64 n) w := fun ρ h => by
  have := h x _ hx
  simp [go_sem, this, Builtin.len_, run_underlying hu, goInt]
theorem qf {b : BinOp} {t t' : TypeId} {x y : Operand} {u u' : Value} (hx : ev l x = some u) (hy : ev l y = some u') (hr : ∀ w, (do eqGuard b t x y u u'; binOp b t u u' : Sem Value).run P w = .ok v w) : Does P l ⟨dst, .binOp b t x y t', ty, pos, after, guard⟩ w v w := fun ρ h => by
  simp only [execOp, h x _ hx, h y _ hy]
  rw [Sem.run_bind, hr w]
  rfl
theorem zk {b : UnOp} {t : TypeId} {x : Operand} {u : Value} (hx : ev l x = some u) (hr : ∀ w, (Op.unary b u).run P w = .ok v w) : Does P l ⟨dst, .unOp b t x, ty, pos, after, guard⟩ w v w := fun ρ h => by
  simp only [execOp, h x _ hx, Sem.run_bind, hr w, Result.andThen_ok, Sem.run_pure]
theorem qw {t : TypeId} {x y : Operand} {g o : Nat} {u : Value} {cs : List Value} (hx : ev l x = some (.pointer (some ⟨g, o, none⟩))) (hy : ev l y = some u) (hc : u.cells = cs.toArray) (hn : (P.info? t).map (·.size) = some cs.length)
    (hS : St w0 w L R O) (k : Nat) {vs : List Value} (hk : L[k]? = some (g, vs)) (hl : Nat.ble (o + cs.length) vs.length = true) (h1 : cs.all Value.oneCell' = true) : Sets P l ⟨dst, .store t x y, ty, pos, after, guard⟩ w (w.setCells g o cs) := fun ρ h => by
  obtain ⟨i, hi, hsz⟩ := xl hn
  have hl' : o + cs.length ≤ vs.length := Nat.le_of_ble_eq_true hl
  have hb := (hS.own _ (List.mem_of_getElem? hk)).2
  have h2 : (sizeOf t).run P w = .ok cs.length w := by simp [sizeOf, typeInfo, hi, hsz]
  have h3 := run_storeCells_cells (P := P) g o cs 0 w (fun j hj => by
      have hlt : o + 0 + j < vs.length := by omega
      rw [hb.cell (o + 0 + j) vs[o + 0 + j] (List.getElem?_eq_getElem hlt)]; rfl) (fun j hj => hb.froz _) (fun v hv => List.all_eq_true.1 h1 v hv)
  rw [Nat.add_zero] at h3
  have h4 : u.cells.toList = cs := by rw [hc]
  simp only [execOp, h x _ hx, h y _ hy, Instr.storeAt, Instr.sureAddr, Sem.run_bind, Sem.run_pure, Result.andThen_ok, storeVar, h2, hc, List.size_toArray, ne_eq, not_true_eq_false, if_false, List.toList_toArray, h3]
theorem qj {x : Operand} {f : FuncId} {args : List Operand} {ts : Array TypeId} {vs : List Value} (hx : ev l x = some (.func (.func f) #[] #[])) (ha : evs l args = some vs) (hf : ∀ w, (invoke (.fn (.func f) #[]) vs.toArray).run P w = .ok (.enter f vs.toArray) w) :
    Enters P l ⟨dst, .call ⟨.value x, args.toArray, ts⟩, ty, pos, after, guard⟩ w f vs := fun ρ h => by
  have e : args.map ρ = vs := by
    have : ∀ (xs : List Operand) (vs : List Value), evs l xs = some vs → xs.map ρ = vs := by
      intro xs
      induction xs with
      | nil => intro vs hx; simp [evs] at hx; simp [hx]
      | cons x xs ih =>
        intro vs hx
        unfold evs at hx
        split at hx
        · rename_i v us h1 h2
          cases hx
          simp [h _ _ h1, ih _ h2]
        · cases hx
    exact this args vs ha
  have := hf w
  simp [execOp, resolve, h x _ hx, Deferred.ofValue, e, this]

/-! ### Steps that make or change memory, the world behind them a letter -/
section
variable {ops : List Oper} {Q : Exit → Act → World → Prop} {a : Act} {n : Nat} {o : Oper} {rest : List Oper} {d : Nat}
theorem zt (hA : Sl a n l) (hS : St w0 w L R O) (hg : zq l ops o = true) (hdst : o.dst = some d) (hd : Nat.blt d n = true) {vs : List Value} {t : TypeId} (val : Nat → Value) (he : Does P l o w (val w.heap.size) (w.alloc (.cells vs.toArray t))) (hno : vs.all ut = true)
    (hk : ∀ g w', St w0 w' ((g, vs) :: L) R O → ∀ a', Sl a' n ((d, val g) :: l) → wpList P ops.toArray Q rest a' w') : wpList P ops.toArray Q (o :: rest) a w :=
  ki hA hg hdst hd he (hk _ _ (hS.new vs t hno))
theorem xe (hA : Sl a n l) (hS : St w0 w L R O) (hg : zq l ops o = true) (hdst : o.dst = none) {g q : Nat} {cs vs us : List Value} (he : Sets P l o w (w.setCells g q cs)) (k : Nat) (hk0 : L[k]? = some (g, vs)) (hl : Nat.ble (q + cs.length) vs.length = true) (hno : cs.all ut = true) (hus : over vs q cs = us)
    (hk : ∀ w', St w0 w' (L.set k (g, us)) R O → wpList P ops.toArray Q rest a w') : wpList P ops.toArray Q (o :: rest) a w :=
  qdi hA hg hdst he (hk _ (by subst hus; exact St.sets cs w L vs q hS k hk0 (Nat.le_of_ble_eq_true hl) hno))
variable {S : World → Prop} {md : Region.Mode} {fuel : Nat} {listed : Array Bool}
theorem jz (hA : Sl a n l) (hS : St w0 w L R O) (i : Nat) (hi : ops[i]? = some o) (hg : zq l ops o = true) (hdst : o.dst = some d) (hd : Nat.blt d n = true) {vs : List Value} {t : TypeId} (val : Nat → Value) (he : Does P l o w (val w.heap.size) (w.alloc (.cells vs.toArray t))) (hno : vs.all ut = true)
    (hk : ∀ g w', St w0 w' ((g, vs) :: L) R O → S w' ∧ ∀ a', Sl a' n ((d, val g) :: l) → wpAnyH P md ops.toArray Q S fuel (listed.setIfInBounds i true) a' w') : wpOp P ops.toArray Q i (fun a' w' => S w' ∧ wpAnyH P md ops.toArray Q S fuel (listed.setIfInBounds i true) a' w') a w :=
  xd hA i hi hg hdst hd he (hk _ _ (hS.new vs t hno)).1 (hk _ _ (hS.new vs t hno)).2
theorem zr (hA : Sl a n l) (hS : St w0 w L R O) (i : Nat) (hi : ops[i]? = some o) (hg : zq l ops o = true) (hdst : o.dst = none) {g q : Nat} {cs vs us : List Value} (he : Sets P l o w (w.setCells g q cs)) (k : Nat) (hk0 : L[k]? = some (g, vs)) (hl : Nat.ble (q + cs.length) vs.length = true) (hno : cs.all ut = true) (hus : over vs q cs = us)
    (hk : ∀ w', St w0 w' (L.set k (g, us)) R O → S w' ∧ wpAnyH P md ops.toArray Q S fuel (listed.setIfInBounds i true) a w') : wpOp P ops.toArray Q i (fun a' w' => S w' ∧ wpAnyH P md ops.toArray Q S fuel (listed.setIfInBounds i true) a' w') a w := by
  have h := hk _ (by subst hus; exact St.sets cs w L vs q hS k hk0 (Nat.le_of_ble_eq_true hl) hno)
  exact qja hA i hi hg hdst he h.1 h.2
/-! Rows of the call's own: made, written, appended to. -/
/-- A region that draws its order. -/
theorem jc {id : Nat} (hm : P.follows .mixedOrders = true) (h : wpAnyH P .any ops.toArray Q S ops.length (Array.replicate ops.length false) a w.drew) : (Code.region id ops.toArray true).wp P Q a w :=
  wp_region_held (S := S) hm (by simpa using h)
end
/-! ### The end -/
def xu (P : Program) (l : List (Nat × Value)) (w : World) : ResultVar → Value → Prop
  | .tmp t, v => xr l t = some v
  | .cell c t, v => ∃ p, xr l c = some (.pointer (some p)) ∧ (loadVar t p).run P w = .ok v w
def AllRes (P : Program) (l : List (Nat × Value)) (w : World) : List ResultVar → List Value → Prop
  | [], [] => True
  | r :: rs, v :: vs => xu P l w r v ∧ AllRes P l w rs vs
  | _, _ => False
theorem AllRes.nil : AllRes P l w [] [] := trivial
theorem AllRes.cons {r : ResultVar} {v : Value} {rs : List ResultVar} {vs : List Value} (h : xu P l w r v) (t : AllRes P l w rs vs) : AllRes P l w (r :: rs) (v :: vs) := ⟨h, t⟩
section
variable {a : Act} {n : Nat} {fn : Func} {Z : Ending → World → Prop}
theorem qh {t : Tmp} (h : xr l t = some v) : xu P l w (.tmp t) v := h
theorem xj (hS : St w0 w L R O) {c : Tmp} {t : TypeId} {m : Nat} (ht : IsS P t m) {g o : Nat} (hx : xr l c = some (.pointer (some ⟨g, o, none⟩))) (k : Nat) {vs cs : List Value} (hk : L[k]? = some (g, vs)) (hcs : (vs.drop o).take m = cs) (hl : cs.length = m) : xu P l w (.cell c t) (.agg cs.toArray) :=
  ⟨_, hx, xm ht cs hl (fun j v hj => hS.cell k hk (o + j) (by
    have hjn : j < m := by rw [← hl]; exact (List.getElem?_eq_some_iff.1 hj).1
    rw [← hcs, List.getElem?_take, if_pos hjn, List.getElem?_drop] at hj
    exact hj))⟩
def vg (tmps : Array Value) : ResultVar → Sem Value
  | .tmp t => pure (tmps.getD t undef)
  | .cell c t => do loadVar t (← asAddr (tmps.getD c undef))
def ud : List Value → Value
  | [x] => x
  | xs => .tuple xs.toArray
theorem Sl.res (hA : Sl a n l) {r : ResultVar} (h : xu P l w r v) : (vg a.tmps r).run P w = .ok v w := by
  cases r with
  | tmp t =>
    have := hA.holds t v h
    simp [vg, Array.getD_eq_getD_getElem?, this]
  | cell c t =>
    obtain ⟨p, hp, hr⟩ := h
    have := hA.holds c _ hp
    simp [vg, Array.getD_eq_getD_getElem?, this, asAddr, hr]
theorem vp (hA : Sl a n l) : ∀ (rs : List ResultVar) (vs : List Value), AllRes P l w rs vs → Sem.run P (rs.mapM (vg a.tmps)) w = .ok vs w
  | [], [], _ => by simp
  | [], _ :: _, h => h.elim
  | _ :: _, [], h => h.elim
  | r :: rs, v :: vs, h => by
    have e1 := hA.res h.1
    have e2 := vp hA rs vs h.2
    simp only [List.mapM_cons, Sem.run_bind, e1, Result.andThen_ok, e2, Sem.run_pure]
/-- The function's end: what it answers. -/
theorem vh (hA : Sl a n l) {rs : List ResultVar} (hrs : fn.results = rs.toArray) {vs : List Value} (hvs : AllRes P l w rs vs) (hv : ud vs = v) (hz : Z (.returned v) w) : bodyPost P fn Z .ret a w := by
  refine ⟨hA.none_, v, ?_, hz⟩
  have e := vp hA rs vs hvs
  subst hv
  have e' : results fn a.tmps = (do let us ← fn.results.mapM (vg a.tmps); pure (if h : us.size = 1 then us[0] else .tuple us)) := by
    unfold results
    congr 1
  have e2 : Sem.run P (List.toArray <$> rs.mapM (vg a.tmps)) w = .ok vs.toArray w := by
    show Sem.run P (rs.mapM (vg a.tmps) >>= fun us => pure us.toArray) w = _
    rw [Sem.run_bind, e]
    rfl
  rw [e', hrs, List.mapM_toArray, Sem.run_bind, e2, Result.andThen_ok]
  match vs with
  | [] => simp [ud]
  | [x] => simp [ud]
  | x :: y :: r => simp [ud]
end
/-- A call, by a walk of its body from what its slots hold at the start. -/
theorem qm {f : FuncId} {fn : Func} {c : Code} {args : List Value} {n : Nat} {Z : Ending → World → Prop} (hf : P.funcs[f]? = some fn) (hb : fn.body = some c) (hn : fn.ntmps = n) (hl : Nat.ble args.length n = true) (hs : (args.zipIdx.map fun p => (p.2, p.1)) = l)
    (h : ∀ Q : Exit → Act → World → Prop, (∀ a w, bodyPost P fn Z .ret a w → Q .ret a w) → (∀ a w, bodyPost P fn Z .ret a w → Q .normal a w) → (∀ c a d v w, Q (.panic c) (Act.put a d v) w → Q (.panic c) a w) → ∀ a, Sl a n l → c.wp P Q a w) : Calls P f args.toArray w Z := by
  subst hs
  refine calls_of_wp hf hb (h _ (fun _ _ h => h) (fun _ _ h => h) (fun c a d v w h => ?_) _ ?_)
  · cases d <;> exact h
  · rw [hn]
    exact Sl.enter (Nat.le_of_ble_eq_true hl)
/-! ### Loops -/
section
variable {Q : Exit → Act → World → Prop} {a : Act} {c : Code}
theorem xk {m : Nat} (h : ∀ K : Act → World → Prop, (∀ a w, Code.rounds P c Q m a w → K a w) → c.wp P (Exit.then K Q) a w) : Code.rounds P c Q (m + 1) a w := h _ (fun _ _ h => h)
theorem kb : ∀ n m, n ≤ m → ∀ a w, Code.rounds P c Q n a w → Code.rounds P c Q m a w
  | 0, _, _, _, _, h => h.elim
  | n + 1, 0, hl, _, _, _ => by omega
  | n + 1, m + 1, hl, a, w, h => Code.wp_mono (fun e a w q => by
      cases e <;> first | exact kb n m (by omega) _ _ q | exact q) h
/-- A loop, by a number that falls. -/
theorem zw (I : Nat → Act → World → Prop) (N : Nat) (h0 : I N a w) (round : ∀ m a w, I m a w → ∀ K : Act → World → Prop, (∀ m' a' w', m' < m → I m' a' w' → K a' w') → c.wp P (Exit.then K Q) a w) : (Code.loop c).wp P Q a w := by
  have key : ∀ m a w, I m a w → Code.rounds P c Q (m + 1) a w := by
    intro m
    induction m using Nat.strongRecOn with
    | _ m ih =>
      intro a w h
      exact round m a w h _ (fun m' a' w' hm h' => kb (m' + 1) m (by omega) _ _ (ih m' hm a' w' h'))
  exact wp_loop_rounds (N + 1) (key N a w h0)
end
theorem jy {t : TypeId} {x i : Operand} {u u' : Value} (hx : ev l x = some u) (hi : ev l i = some u') (hr : ∀ w, (Instr.indexAt t u u').run P w = .ok v w) : Does P l ⟨dst, .indexAddr t x i, ty, pos, after, guard⟩ w v w := fun ρ h => by
  simp only [execOp, h x _ hx, h i _ hi, Sem.run_bind, hr w, Result.andThen_ok, Sem.run_pure]
/-- The place of an element of a row of words. -/
theorem qcd {t e : TypeId} (hu : P.underlying t = some (.slice e)) (he : (P.info? e).map (·.size) = some 1) {g o n c k : Nat} (hk : k < n) : ∀ w, (Instr.indexAt t (.slice (some ⟨g, o, none⟩) n c) (.int .i64 (k : Nat))).run P w = .ok (.pointer (some ⟨g, o + k, none⟩)) w := fun w => by
  obtain ⟨i, hi, hs⟩ := xl he
  have h2 : (sizeOf e).run P w = .ok 1 w := by simp [sizeOf, typeInfo, hi, hs]
  have h3 : (0 : Int) ≤ (k : Nat) ∧ ((k : Nat) : Int) < (n : Nat) := ⟨by omega, by omega⟩
  simp [Instr.indexAt, asIntOf, run_underlying hu, h2, h3, xt]
  intro h
  omega
theorem xa {t e : TypeId} (hu : P.underlying t = some (.slice e)) (he : (P.info? e).map (·.size) = some 1) {x i : Operand} {so : Option Addr} {b off n c k : Nat} {z : Int} (hx : ev l x = some (.slice so n c)) (hi : ev l i = some (.int .i64 z)) (hz : z = (k : Nat)) (hso : so = some ⟨b, off, none⟩) (hk : k < n) :
    Does P l ⟨dst, .indexAddr t x i, ty, pos, after, guard⟩ w (.pointer (some ⟨b, off + k, none⟩)) w := by
  subst hso hz
  exact jy hx hi (qcd hu he hk)
theorem qrj {t : TypeId} {x : Operand} {f : Nat} {u : Value} (hx : ev l x = some u) (hr : ∀ w, (Instr.field t u f).run P w = .ok v w) : Does P l ⟨dst, .field t x f, ty, pos, after, guard⟩ w v w := fun ρ h => by
  simp only [execOp, h x _ hx, Sem.run_bind, hr w, Result.andThen_ok, Sem.run_pure]
theorem jm {s d : TypeId} {x : Operand} {u : Value} (hx : ev l x = some u) (hr : ∀ w, (convert s d u).run P w = .ok v w) : Does P l ⟨dst, .convert s d x, ty, pos, after, guard⟩ w v w := fun ρ h => by
  simp only [execOp, h x _ hx, Sem.run_bind, hr w, Result.andThen_ok, Sem.run_pure]
/-! ### Operators -/
section
variable {t : TypeId} {x y : Operand} {k : IntKind} {a b : Int}
theorem qz : ∀ w, (do eqGuard .lss t x y (.int k a) (.int k b); binOp .lss t (.int k a) (.int k b) : Sem Value).run P w = .ok (.bool (decide (a < b))) w := fun w => by simp [go_sem]
theorem ue : ∀ w, (do eqGuard .leq t x y (.int k a) (.int k b); binOp .leq t (.int k a) (.int k b) : Sem Value).run P w = .ok (.bool (decide (a ≤ b))) w := fun w => by simp [go_sem]
theorem js : ∀ w, (do eqGuard .gtr t x y (.int k a) (.int k b); binOp .gtr t (.int k a) (.int k b) : Sem Value).run P w = .ok (.bool (decide (b < a))) w := fun w => by simp [go_sem]
theorem yh : ∀ w, (do eqGuard .geq t x y (.int k a) (.int k b); binOp .geq t (.int k a) (.int k b) : Sem Value).run P w = .ok (.bool (decide (b ≤ a))) w := fun w => by simp [go_sem]
theorem qp : ∀ w, (do eqGuard .eql t x y (.int k a) (.int k b); binOp .eql t (.int k a) (.int k b) : Sem Value).run P w = .ok (.bool (a == b)) w := fun w => by simp [go_sem]
theorem zm : ∀ w, (do eqGuard .neq t x y (.int k a) (.int k b); binOp .neq t (.int k a) (.int k b) : Sem Value).run P w = .ok (.bool (a != b)) w := fun w => by simp [go_sem]
theorem kd {a : Int} (h0 : -9223372036854775808 ≤ a) (h1 : a ≤ 9223372036854775807) : IntKind.i64.wrap a = a := IntWalk.i64_in a ⟨h0, h1⟩
theorem xb (h : k.wrap (a + b) = a + b) : ∀ w, (do eqGuard .add t x y (.int k a) (.int k b); binOp .add t (.int k a) (.int k b) : Sem Value).run P w = .ok (.int k (a + b)) w := fun w => by simp [go_sem, h]
theorem zof (h : k.wrap (a - b) = a - b) : ∀ w, (do eqGuard .sub t x y (.int k a) (.int k b); binOp .sub t (.int k a) (.int k b) : Sem Value).run P w = .ok (.int k (a - b)) w := fun w => by simp [go_sem, h]
theorem yv (hu : P.underlying t = some .bool) {c d : Bool} : ∀ w, (do eqGuard .eql t x y (.bool c) (.bool d); binOp .eql t (.bool c) (.bool d) : Sem Value).run P w = .ok (.bool (c == d)) w := fun w => by
  simp [go_sem, hu, run_underlying hu]
theorem zhj (hu : P.underlying t = some .bool) {c d : Bool} : ∀ w, (do eqGuard .neq t x y (.bool c) (.bool d); binOp .neq t (.bool c) (.bool d) : Sem Value).run P w = .ok (.bool (!(c == d))) w := fun w => by
  simp [go_sem, hu, run_underlying hu]
theorem zx {c : Bool} : ∀ w, (Op.unary .not (.bool c)).run P w = .ok (.bool (!c)) w := fun w => by simp [go_sem]
end
end
section
variable {P : Program} {ops : List Oper} {Q : Exit → Act → World → Prop} {a : Act} {w w' : World} {n : Nat} {l : List (Nat × Value)} {o : Oper} {v : Value} {rest : List Oper} {d : Nat}
theorem sdo (hA : Sl a n l) (he : Does P l o w v w') (hk : ∀ a', Sl a' n ((d, v) :: l) → wpList P ops.toArray Q rest a' w') (hg : zq l ops o = true := by rfl) (hdst : o.dst = some d := by rfl) (hd : Nat.blt d n = true := by rfl) : wpList P ops.toArray Q (o :: rest) a w := ki hA hg hdst hd he hk
theorem sdm {x : Operand} {ty : TypeId} {pos : String} {after : Array Edge} {guard : Option (Nat × Bool)} (hA : Sl a n l) (hk : ∀ a', Sl a' n ((d, v) :: l) → wpList P ops.toArray Q rest a' w) (hx : ev l x = some v := by rfl) (hg : zq l ops ⟨some d, .move x, ty, pos, after, guard⟩ = true := by rfl) (hd : Nat.blt d n = true := by rfl) : wpList P ops.toArray Q (⟨some d, .move x, ty, pos, after, guard⟩ :: rest) a w := sdo hA (qg hx) hk hg rfl hd
theorem sda {x : Operand} {ty : TypeId} {pos : String} {after : Array Edge} {guard : Option (Nat × Bool)} (hA : Sl a n l) (hk : ∀ a', Sl a' n ((d, v) :: l) → wpList P ops.toArray Q rest a' w) (hx : ev l x = some v := by rfl) (hg : zq l ops ⟨some d, .assign x, ty, pos, after, guard⟩ = true := by rfl) (hd : Nat.blt d n = true := by rfl) : wpList P ops.toArray Q (⟨some d, .assign x, ty, pos, after, guard⟩ :: rest) a w := sdo hA (jk hx) hk hg rfl hd
theorem sdk {c x y : Operand} {b : Bool} {u u' : Value} {ty : TypeId} {pos : String} {after : Array Edge} {guard : Option (Nat × Bool)} (hA : Sl a n l) (hk : ∀ a', Sl a' n ((d, v) :: l) → wpList P ops.toArray Q rest a' w) (hc : ev l c = some (.bool b) := by rfl) (hx : ev l x = some u := by rfl) (hy : ev l y = some u' := by rfl) (hv : v = cond b u u' := by rfl) (hg : zq l ops ⟨some d, .pick c x y, ty, pos, after, guard⟩ = true := by rfl) (hd : Nat.blt d n = true := by rfl) : wpList P ops.toArray Q (⟨some d, .pick c x y, ty, pos, after, guard⟩ :: rest) a w := sdo hA (xn hc hx hy hv) hk hg rfl hd
abbrev pg (g : Nat) : Value := .pointer (some ⟨g, 0, none⟩)
theorem wsk {x y : Code} (h : ∀ K : Act → World → Prop, (∀ a w, y.wp P Q a w → K a w) → x.wp P (Exit.then K Q) a w) : (Code.seq x y).wp P Q a w := wp_seq_k h
theorem wrl {id : Nat} {l : List Oper} (h : wpList P l.toArray Q l a w) : (Code.region id l.toArray false).wp P Q a w := wp_region_lit h
theorem tf (b : Bool) : b = true ∨ b = false := Bool.eq_false_or_eq_true b
theorem ef {x : Operand} {f : FuncId} {args : List Operand} {ts : Array TypeId} {vs : List Value} {dst : Option Tmp} {ty : TypeId} {pos : String} {after : Array Edge} {guard : Option (Nat × Bool)} (hx : ev l x = some (.func (.func f) #[] #[])) (ha : evs l args = some vs) (hf : ∀ w, (invoke (.fn (.func f) #[]) vs.toArray).run P w = .ok (.enter f vs.toArray) w := by exact fun w => by kernel_rfl) : Enters P l ⟨dst, .call ⟨.value x, args.toArray, ts⟩, ty, pos, after, guard⟩ w f vs := qj hx ha hf
theorem sct {f : FuncId} {vs : List Value} (hA : Sl a n l) (he : Enters P l o w f vs) {R : Ending → World → Prop} (hc : Calls P f vs.toArray w R) (hk : ∀ e w', R e w' → ∃ v, e = .returned v ∧ ∀ a', Sl a' n ((d, v) :: l) → wpList P ops.toArray Q rest a' w') (hg : zq l ops o = true := by rfl) (hdst : o.dst = some d := by rfl) (hd : Nat.blt d n = true := by rfl) : wpList P ops.toArray Q (o :: rest) a w := yu hA hg hdst hd he hc hk
theorem sdc {b : BinOp} {t t' ty : TypeId} {x y : Operand} {u u' : Value} {c e : Bool} {pos : String} {after : Array Edge} {guard : Option (Nat × Bool)} (hA : Sl a n l) (hr : ∀ w, (do eqGuard b t x y u u'; binOp b t u u' : Sem Value).run P w = .ok (.bool c) w) (h : c = e) (hk : ∀ a', Sl a' n ((d, .bool e) :: l) → wpList P ops.toArray Q rest a' w) (hx : ev l x = some u := by rfl) (hy : ev l y = some u' := by rfl) (hg : zq l ops ⟨some d, .binOp b t x y t', ty, pos, after, guard⟩ = true := by rfl) (hd : Nat.blt d n = true := by rfl) : wpList P ops.toArray Q (⟨some d, .binOp b t x y t', ty, pos, after, guard⟩ :: rest) a w := sdo hA (qf hx hy (h ▸ hr)) hk hg rfl hd
variable {fn : Func} {Z : Ending → World → Prop} {r1 r2 r3 : ResultVar} {v1 v2 v3 : Value}
theorem en1 (hA : Sl a n l) (hrs : fn.results = #[r1]) (h1 : xu P l w r1 v1) (hz : Z (.returned v1) w) : bodyPost P fn Z .ret a w := vh hA (rs := [r1]) hrs (.cons h1 .nil) rfl hz
theorem en2 (hA : Sl a n l) (hrs : fn.results = #[r1, r2]) (h1 : xu P l w r1 v1) (h2 : xu P l w r2 v2) (hz : Z (.returned (.tuple #[v1, v2])) w) : bodyPost P fn Z .ret a w := vh hA (rs := [r1, r2]) hrs (.cons h1 (.cons h2 .nil)) rfl hz
theorem en3 (hA : Sl a n l) (hrs : fn.results = #[r1, r2, r3]) (h1 : xu P l w r1 v1) (h2 : xu P l w r2 v2) (h3 : xu P l w r3 v3) (hz : Z (.returned (.tuple #[v1, v2, v3])) w) : bodyPost P fn Z .ret a w := vh hA (rs := [r1, r2, r3]) hrs (.cons h1 (.cons h2 (.cons h3 .nil))) rfl hz
end
set_option maxHeartbeats 1000000 in
set_option maxRecDepth 1000000 in
theorem qxe {w : World} {b1 b2 : Bool} {o1 o2 o3 o4 : Option Addr} {m1 m2 m3 m4 c1 c2 c3 c4 : Nat} (h : m3 ≤ 9223372036854775807) :
    Calls Tryz.prog 139 #[.agg #[.bool b1, .slice o1 m1 c1, .slice o2 m2 c2, .bool b2, .slice o3 m3 c3, .slice o4 m4 c4]] w fun e w' => e = .returned (.bool (decide (m3 = 0))) ∧ Below w.heap.size w w' := by
  have HAL : Hid (∀ o, Below w.heap.size w (w.alloc o)) := fun o => (Below.refl _ _).alloc (Nat.le_refl _) o
  by_cases hm : m3 = 0
  · subst hm
    go_enter Tryz.func139, Tryz.ntmps139
    go_wp2
    go_ret
    exact ⟨rfl, HAL.out _⟩
  · have e : decide (m3 = 0) = false := decide_eq_false hm
    rw [e]
    have hm1 : ((m3 : Int) == 0) = false := by simp; omega
    clear e
    go_enter Tryz.func139, Tryz.ntmps139
    go_wp2
    go_ret
    exact ⟨rfl, HAL.out _⟩
/-- A slice of words: what it reads as; room only where there is memory. -/
structure Sc (w : World) (o : Option Addr) (c : Nat) (l : List Nat) : Prop where
  rd : Rd w o l
  nil : o = none → c = 0
  cap : l.length ≤ c
theorem Sc.below {w w' : World} {o : Option Addr} {c : Nat} {l : List Nat} (h : Sc w o c l) (hb : Below w.heap.size w w') : Sc w' o c l := ⟨h.rd.below hb, h.nil, h.cap⟩
theorem Sc.none (w : World) : Sc w none 0 [] := ⟨Rd.nil _ _, fun _ => rfl, Nat.le_refl _⟩
/-- A number of two fractions: its signs, tops and bottoms. -/
structure Q6 where
  b1 : Bool
  t1 : List Nat
  q1 : List Nat
  b2 : Bool
  t2 : List Nat
  q2 : List Nat
/-- The value of six cells: signs, and slices of so many words. -/
def qce (q : Q6) (o1 : Option Addr) (c1 : Nat) (o2 : Option Addr) (c2 : Nat) (o3 : Option Addr) (c3 : Nat) (o4 : Option Addr) (c4 : Nat) : Value :=
  .agg #[.bool q.b1, .slice o1 q.t1.length c1, .slice o2 q.q1.length c2, .bool q.b2, .slice o3 q.t2.length c3, .slice o4 q.q2.length c4]
structure Nm (w : World) (q : Q6) (o1 : Option Addr) (c1 : Nat) (o2 : Option Addr) (c2 : Nat) (o3 : Option Addr) (c3 : Nat) (o4 : Option Addr) (c4 : Nat) : Prop where
  s1 : Sc w o1 c1 q.t1
  s2 : Sc w o2 c2 q.q1
  s3 : Sc w o3 c3 q.t2
  s4 : Sc w o4 c4 q.q2
/-- The number without anything. -/
def Q6.zero : Q6 := ⟨false, [], [], false, [], []⟩
/-- A whole number of a sign and a size. -/
def Q6.whole (b : Bool) (x : Nat) : Q6 := ⟨b, words x, [1], false, [], [1]⟩
/-- A number is answered. -/
def AnsV (w : World) (q : Q6) (e : Ending) (w' : World) : Prop := ∃ o1 c1 o2 c2 o3 c3 o4 c4, e = .returned (qce q o1 c1 o2 c2 o3 c3 o4 c4) ∧ Nm w' q o1 c1 o2 c2 o3 c3 o4 c4 ∧ Below w.heap.size w w'
theorem vj : words 1 = [1] := by rw [words_pos (by omega)]; simp [words_zero]
theorem zia (w : World) : Calls Tryz.prog 147 #[.int .u64 1] w (Row1 w [1]) := by
  have h := of_any 1 w (by omega)
  rw [vj] at h
  exact h
theorem uw {x : Nat} (h : (words x).length ≤ 512) : sound (words x) = true := (sound_iff _).2 ⟨h, words_top x⟩
/-- How long an argument's lists can be. -/
structure LenQ (q : Q6) : Prop where
  l1 : q.t1.length ≤ 9223372036854775807
  l2 : q.q1.length ≤ 9223372036854775807
  l3 : q.t2.length ≤ 9223372036854775807
  l4 : q.q2.length ≤ 9223372036854775807
def xq (q : Q6) : Bool := qjb q.b1 q.t1 q.q1 q.b2 q.t2 q.q2
theorem vt {w : World} {q : Q6} {o1 o2 o3 o4 : Option Addr} {c1 c2 c3 c4 : Nat} (h : Nm w q o1 c1 o2 c2 o3 c3 o4 c4) (hl : LenQ q) {r : Bool} (hr : xq q = r) :
    Calls Tryz.prog 111 #[qce q o1 c1 o2 c2 o3 c3 o4 c4] w fun e w' => e = .returned (.bool r) ∧ Below w.heap.size w w' := by
  subst hr
  exact qxd c1 c2 c3 c4 h.s1.rd h.s2.rd h.s3.rd h.s4.rd hl.l1 hl.l2 hl.l3 hl.l4 h.s1.nil h.s2.nil h.s3.nil h.s4.nil
theorem yi {w : World} {q : Q6} {o1 o2 o3 o4 : Option Addr} {c1 c2 c3 c4 : Nat} (hl : LenQ q) {r : Bool} (hr : decide (q.t2.length = 0) = r) :
    Calls Tryz.prog 139 #[qce q o1 c1 o2 c2 o3 c3 o4 c4] w fun e w' => e = .returned (.bool r) ∧ Below w.heap.size w w' := by
  subst hr
  exact qxe hl.l3
/-- z over d, in lowest terms. -/
def rb (z : Int) : Bool := decide (z < 0)
theorem qhi {x g k : Nat} (h : (words x).length ≤ k) : (words (x / g)).length ≤ k := Nat.le_trans (words_mono (Nat.div_le_self x g)) h
theorem qpd {x d k : Nat} (hd : d ≠ 0) (h : (words d).length ≤ k) : (words (Nat.gcd x d)).length ≤ k := Nat.le_trans (words_mono (Nat.gcd_le_right x (by omega))) h
theorem qcb {x : Nat} : 0 < (words x).length ↔ x ≠ 0 := by
  rw [List.length_pos_iff]
  exact not_congr words_eq_nil
/-- A whole number of any sign is answered. -/
def AnsZ (w : World) (z : Int) (e : Ending) (w' : World) : Prop := ∃ o c, e = .returned (.agg #[.bool (rb z), .slice o (words z.natAbs).length c]) ∧ Sc w' o c (words z.natAbs) ∧ Below w.heap.size w w'
theorem AnsZ.sgn {w w' : World} {b b' : Bool} {n : Nat} {z : Int} {o : Option Addr} {c : Nat} (hz : sgn b n = z) (hb : rb (sgn b n) = b') (hs : Sc w' o c (words n)) (hbel : Below w.heap.size w w') : AnsZ w z (.returned (.agg #[.bool b', .slice o (words n).length c])) w' := by
  subst hz hb
  refine ⟨o, c, ?_, ?_, hbel⟩
  · rw [qdh]
  · rw [qdh]; exact hs
theorem qcf (z : Int) : sgn (rb z) z.natAbs = z := by unfold sgn rb; by_cases h : z < 0 <;> simp [h] <;> omega
theorem zsd (z : Int) : sgn (!rb z) z.natAbs = -z := by unfold sgn rb; by_cases h : z < 0 <;> simp [h] <;> omega
theorem zse {x y : Int} (h : (rb x == rb y) = true) : sgn (rb x) (x.natAbs + y.natAbs) = x + y := by
  have h := eq_of_beq h
  unfold rb at *
  unfold sgn
  by_cases h1 : x < 0 <;> by_cases h2 : y < 0 <;> simp [h1, h2] at h ⊢ <;> omega
theorem zif {x y : Int} (h : (rb x == rb y) = false) (hl : y.natAbs ≤ x.natAbs) : sgn (rb x) (x.natAbs - y.natAbs) = x + y := by
  have h := ne_of_beq_false h
  unfold rb at *
  unfold sgn
  by_cases h1 : x < 0 <;> by_cases h2 : y < 0 <;> simp [h1, h2] at h ⊢ <;> omega
theorem zig (x y : Int) : sgn (!(rb x == rb y)) (x.natAbs * y.natAbs) = x * y := by
  rw [← Int.natAbs_mul]
  have key : (!(rb x == rb y)) = rb (x * y) ∨ x * y = 0 := by
    unfold rb
    rcases Int.lt_trichotomy x 0 with h1 | h1 | h1
    · rcases Int.lt_trichotomy y 0 with h2 | h2 | h2
      · left; have := Int.mul_pos_of_neg_of_neg h1 h2; simp [h1, h2]; omega
      · right; rw [h2, Int.mul_zero]
      · left; have := Int.mul_neg_of_neg_of_pos h1 h2; simp [h1, this]; omega
    · right; rw [h1, Int.zero_mul]
    · rcases Int.lt_trichotomy y 0 with h2 | h2 | h2
      · left; have := Int.mul_neg_of_pos_of_neg h1 h2; simp [h2, this]; omega
      · right; rw [h2, Int.mul_zero]
      · left
        have h3 := Int.mul_pos h1 h2
        have a1 : ¬ x < 0 := by omega
        have a2 : ¬ y < 0 := by omega
        have a3 : ¬ x * y < 0 := by omega
        simp [a1, a2, a3]
  rcases key with h | h
  · rw [h]; exact qcf _
  · rw [h]; simp [sgn]
theorem uz {x y : Int} {k m : Nat} (hx : (words x.natAbs).length ≤ k) (hy : (words y.natAbs).length ≤ m) : (words (x * y).natAbs).length ≤ k + m := by rw [Int.natAbs_mul]; exact words_mul_length hx hy
theorem qsf {x y : Int} {k : Nat} (hx : (words x.natAbs).length ≤ k) (hy : (words y.natAbs).length ≤ k) : (words (x + y).natAbs).length ≤ k + 1 := Nat.le_trans (words_mono (Int.natAbs_add_le x y)) (words_add_length hx hy)
/-- (x + y i) over d is answered. -/
def AnsR (w : World) (x y : Int) (d : Nat) (e : Ending) (w' : World) : Prop := ∃ o1 c1 o2 c2 o3 c3, e = .returned (.agg #[.bool (rb x), .slice o1 (words x.natAbs).length c1, .bool (rb y), .slice o2 (words y.natAbs).length c2, .slice o3 (words d).length c3]) ∧ Sc w' o1 c1 (words x.natAbs) ∧ Sc w' o2 c2 (words y.natAbs) ∧ Sc w' o3 c3 (words d) ∧ Below w.heap.size w w'
set_option maxRecDepth 100000
theorem BiB_is1_87 : Is1 Tryz.prog 87 := ⟨⟨_, Tryz.underlying87, rfl⟩, by kernel_rfl⟩
theorem zed {w : World} {ao bo : Option Addr} {l1 l2 : List Nat} (ca cb : Nat) (ha : Rd w ao l1) (hb : Rd w bo l2) (h1 : l1.length ≤ 9223372036854775807) (h2 : l2.length ≤ 9223372036854775807) : Calls Tryz.prog 82 #[.slice ao l1.length ca, .slice bo l2.length cb] w fun e w' => e = .returned (.bool (decide (l1 = l2))) ∧ Below w.heap.size w w' := by
 have V : St w w [] [(bo, l2), (ao, l1)] [] := ((St.start w).addR ha).addR hb
 refine qm (l := [(0, .slice ao l1.length ca), (1, .slice bo l2.length cb)]) Tryz.func82 rfl Tryz.ntmps82 rfl rfl ?_
 intro Q hret hnorm hP a A
 refine wsk fun K1 hK1 => wrl (sda A λa A↦?_)
 refine qa (hK1 _ _ (wsk fun K2 hK2 => wsk fun K3 hK3 => wrl (sdm A λa A↦?_)))
 refine sdo A (zf Tryz.underlying23 rfl) λa A↦?_
 refine sdm A λa A↦?_
 refine sdo A (zf Tryz.underlying23 rfl) λa A↦?_
 rcases tf ((((l1.length : Nat) : Int) != ((l2.length : Nat) : Int))) with hb4 | hb4
 ·
  have hb4' := bne_iff_ne.1 hb4
  refine sdc A zm hb4 λa A↦?_
  refine qa (hK3 _ _ (wp_cond_true (A.ev rfl) ?_))
  refine wsk fun K5 hK5 => wrl (sda A λa A↦?_)
  refine qa (hK5 _ _ (wp_ret (hret _ _ (en1 A rfl (qh rfl) ?_))))
  exact ⟨by rw [decide_eq_false (fun e => by subst e; omega)], V.bel⟩
 ·
  have hb4' := bne_eq_false_iff_eq.1 hb4
  refine sdc A zm hb4 λa A↦?_
  refine qa (hK3 _ _ (wp_cond_false (A.ev rfl) ?_))
  refine wp_skip (hK2 _ _ (wsk fun K6 hK6 => wsk fun K7 hK7 => wrl (sda A λa A↦?_)))
  refine qa (hK7 _ _ (wp_block (zw (fun m a w1 => ∃ (i : Nat), m = l1.length - i ∧ (i ≤ l1.length ∧ ∀ j, j < i → l1.getD j 0 = l2.getD j 0) ∧ Sl a 26 [(0, .slice ao l1.length ca), (1, .slice bo l2.length cb), (5, .int .i64 (((i : Nat) : Int))), (6, .slice ao l1.length ca), (7, .int .i64 (((l1.length : Nat) : Int))), (8, .slice bo l2.length cb), (9, .int .i64 (((l2.length : Nat) : Int))), (10, .bool false)] ∧ St w w1 [] [(bo, l2), (ao, l1)] []) _ ⟨0, rfl, ⟨by omega, fun j hj => by omega⟩, A.keep _ (by repeat' constructor), V⟩ ?_)))
  clear V A
  rintro m a w8 ⟨i, rfl, hinv10, A, V⟩ K9 hK9
  have hle := hinv10.1
  refine wsk fun K11 hK11 => wsk fun K12 hK12 => wrl ?_
  iterate 2 refine sdm A λa A↦?_
  refine sdo A (zf Tryz.underlying23 rfl) λa A↦?_
  rcases tf (decide (((i : Nat) : Int) < ((l1.length : Nat) : Int))) with hb13 | hb13
  ·
   have hb13' := of_decide_eq_true hb13
   refine sdc A qz hb13 λa A↦?_
   refine qa (hK12 _ _ (wp_cond_true (A.ev rfl) ?_))
   refine wp_skip (hK11 _ _ (wsk fun K14 hK14 => wp_block (wsk fun K15 hK15 => jc (S := fun w1 => St w w1 [] [(bo, l2), (ao, l1)] []) (by kernel_rfl) ?_)))
   replace V := V.drew
   refine qe A 0 rfl rfl rfl rfl hP V (fun w1 V => qg rfl) λa A↦?_
   refine qe A 1 rfl rfl rfl rfl hP V (fun w1 V => qg rfl) λa A↦?_
   have hi19 : i < l1.length := by first | omega | (simp only [List.length_set]; omega)
   obtain ⟨b16, f17, hso18⟩ := Rd.addr (V.rd 1 rfl) hi19
   refine qe (v := .pointer (some ⟨b16, f17 + i, none⟩)) A 2 rfl rfl rfl rfl hP V (fun w1 V => xa (k := i) Tryz.underlying23 (by kernel_rfl) rfl rfl (by omega) hso18 hi19) λa A↦?_
   refine qe (v := .int .u32 (((l1.getD i 0 : Nat) : Int))) A 3 rfl rfl rfl rfl hP V (fun w1 V => km (V.rd 1 rfl) hso18 hi19 BiB_is1_87 rfl) λa A↦?_
   refine qe A 4 rfl rfl rfl rfl hP V (fun w1 V => qg rfl) λa A↦?_
   refine qe A 5 rfl rfl rfl rfl hP V (fun w1 V => qg rfl) λa A↦?_
   have hi23 : i < l2.length := by first | omega | (simp only [List.length_set]; omega)
   obtain ⟨b20, f21, hso22⟩ := Rd.addr (V.rd 0 rfl) hi23
   refine qe (v := .pointer (some ⟨b20, f21 + i, none⟩)) A 6 rfl rfl rfl rfl hP V (fun w1 V => xa (k := i) Tryz.underlying23 (by kernel_rfl) rfl rfl (by omega) hso22 hi23) λa A↦?_
   refine qe (v := .int .u32 (((l2.getD i 0 : Nat) : Int))) A 7 rfl rfl rfl rfl hP V (fun w1 V => km (V.rd 0 rfl) hso22 hi23 BiB_is1_87 rfl) λa A↦?_
   rcases tf ((((l1.getD i 0 : Nat) : Int) != ((l2.getD i 0 : Nat) : Int))) with hb24 | hb24
   ·
    have hb24' := bne_iff_ne.1 hb24
    refine qe (v := .bool true) A 8 rfl rfl rfl rfl hP V (fun w1 V => qf rfl rfl (fun w => (zm w).trans (by rw [hb24]))) λa A↦?_
    refine zb (by kernel_rfl) ?_
    refine hK15 _ _ (wp_cond_true (A.ev rfl) ?_)
    refine wsk fun K25 hK25 => wrl (sda A λa A↦?_)
    refine qa (hK25 _ _ (wp_ret (hret _ _ (en1 A rfl (qh rfl) ?_))))
    exact ⟨by rw [decide_eq_false (fun e => by subst e; omega)], V.bel⟩
   ·
    have hb24' := bne_eq_false_iff_eq.1 hb24
    refine qe (v := .bool false) A 8 rfl rfl rfl rfl hP V (fun w1 V => qf rfl rfl (fun w => (zm w).trans (by rw [hb24]))) λa A↦?_
    refine zb (by kernel_rfl) ?_
    refine hK15 _ _ (wp_cond_false (A.ev rfl) ?_)
    refine wp_skip (hK14 _ _ (wrl (sdm A λa A↦?_)))
    refine sdo (v := .int .i64 (((i + 1 : Nat) : Int))) A (qf rfl rfl (fun w => (xb (kd (by omega) (by omega)) w).trans (by rw [show (((i : Nat) : Int) + 1 : Int) = ((i + 1 : Nat) : Int) from by omega]))) λa A↦?_
    refine sda A λa A↦?_
    refine qa ?_
    refine hK9 _ _ _ (by omega) ⟨i + 1, rfl, ⟨by omega, fun j hj => by rcases Nat.lt_succ_iff_lt_or_eq.1 hj with h | h; exact hinv10.2 j h; subst h; omega⟩, A.keep _ (by repeat' constructor), V⟩
  ·
   have hb13' := of_decide_eq_false hb13
   refine sdc A qz hb13 λa A↦?_
   refine qa (hK12 _ _ (wp_cond_false (A.ev rfl) ?_))
   refine wp_exit (hK6 _ _ (wsk fun K26 hK26 => wrl (sda A λa A↦?_)))
   refine qa (hK26 _ _ (wp_ret (hret _ _ (en1 A rfl (qh rfl) ?_))))
   exact ⟨by rw [decide_eq_true (list_of_getD (by omega) (fun j hj => hinv10.2 j (by omega)))], V.bel⟩
theorem qbe {w : World} {ao bo : Option Addr} {l1 l2 : List Nat} (ca cb : Nat) (ha : Rd w ao l1) (hb : Rd w bo l2) (h1 : l1.length ≤ 9223372036854775807) (h2 : l2.length ≤ 9223372036854775807) : Calls Tryz.prog 121 #[.slice ao l1.length ca, .slice bo l2.length cb] w fun e w' => e = .returned (.bool (decide (l1 = l2))) ∧ Below w.heap.size w w' := by
 have V : St w w [] [(bo, l2), (ao, l1)] [] := ((St.start w).addR ha).addR hb
 refine qm (l := [(0, .slice ao l1.length ca), (1, .slice bo l2.length cb)]) Tryz.func121 rfl Tryz.ntmps121 rfl rfl ?_
 intro Q hret hnorm hP a A
 refine wsk fun K1 hK1 => wrl (sda A λa A↦?_)
 refine qa (hK1 _ _ (wsk fun K2 hK2 => wsk fun K3 hK3 => wrl (sdm A λa A↦?_)))
 refine sdo A (zf Tryz.underlying23 rfl) λa A↦?_
 refine sdm A λa A↦?_
 refine sdo A (zf Tryz.underlying23 rfl) λa A↦?_
 rcases tf ((((l1.length : Nat) : Int) != ((l2.length : Nat) : Int))) with hb4 | hb4
 ·
  have hb4' := bne_iff_ne.1 hb4
  refine sdc A zm hb4 λa A↦?_
  refine qa (hK3 _ _ (wp_cond_true (A.ev rfl) ?_))
  refine wsk fun K5 hK5 => wrl (sda A λa A↦?_)
  refine qa (hK5 _ _ (wp_ret (hret _ _ (en1 A rfl (qh rfl) ?_))))
  exact ⟨by rw [decide_eq_false (fun e => by subst e; omega)], V.bel⟩
 ·
  have hb4' := bne_eq_false_iff_eq.1 hb4
  refine sdc A zm hb4 λa A↦?_
  refine qa (hK3 _ _ (wp_cond_false (A.ev rfl) ?_))
  refine wp_skip (hK2 _ _ (wsk fun K6 hK6 => wsk fun K7 hK7 => wrl (sdm A λa A↦?_)))
  refine sdo A (zf Tryz.underlying23 rfl) λa A↦?_
  refine sdm A λa A↦?_
  refine qa (hK7 _ _ (wp_block (zw (fun m a w1 => ∃ (i : Nat), m = l1.length - i ∧ (i ≤ l1.length ∧ ∀ j, j < i → l1.getD j 0 = l2.getD j 0) ∧ Sl a 26 [(0, .slice ao l1.length ca), (1, .slice bo l2.length cb), (6, .slice ao l1.length ca), (7, .int .i64 (((l1.length : Nat) : Int))), (8, .slice bo l2.length cb), (9, .int .i64 (((l2.length : Nat) : Int))), (10, .bool false), (11, .slice ao l1.length ca), (12, .int .i64 (((l1.length : Nat) : Int))), (13, .int .i64 (((i : Nat) : Int)))] ∧ St w w1 [] [(bo, l2), (ao, l1)] []) _ ⟨0, rfl, ⟨by omega, fun j hj => by omega⟩, A.keep _ (by repeat' constructor), V⟩ ?_)))
  clear V A
  rintro m a w8 ⟨i, rfl, hinv10, A, V⟩ K9 hK9
  have hle := hinv10.1
  refine wsk fun K11 hK11 => wrl ?_
  rcases tf (decide (((i : Nat) : Int) < ((l1.length : Nat) : Int))) with hb12 | hb12
  ·
   have hb12' := of_decide_eq_true hb12
   refine sdc A qz hb12 λa A↦?_
   refine qa (hK11 _ _ (wsk fun K13 hK13 => wp_cond_true (A.ev rfl) ?_))
   refine wp_skip (hK13 _ _ (wsk fun K14 hK14 => wp_block (wsk fun K15 hK15 => wrl (sdm A λa A↦?_))))
   refine sda A λa A↦?_
   refine qa (hK15 _ _ (wsk fun K16 hK16 => jc (S := fun w1 => St w w1 [] [(bo, l2), (ao, l1)] []) (by kernel_rfl) ?_))
   replace V := V.drew
   refine qe A 0 rfl rfl rfl rfl hP V (fun w1 V => qg rfl) λa A↦?_
   refine qe A 1 rfl rfl rfl rfl hP V (fun w1 V => qg rfl) λa A↦?_
   have hi20 : i < l1.length := by first | omega | (simp only [List.length_set]; omega)
   obtain ⟨b17, f18, hso19⟩ := Rd.addr (V.rd 1 rfl) hi20
   refine qe (v := .pointer (some ⟨b17, f18 + i, none⟩)) A 2 rfl rfl rfl rfl hP V (fun w1 V => xa (k := i) Tryz.underlying23 (by kernel_rfl) rfl rfl (by omega) hso19 hi20) λa A↦?_
   refine qe (v := .int .u32 (((l1.getD i 0 : Nat) : Int))) A 3 rfl rfl rfl rfl hP V (fun w1 V => km (V.rd 1 rfl) hso19 hi20 BiB_is1_87 rfl) λa A↦?_
   refine qe A 4 rfl rfl rfl rfl hP V (fun w1 V => qg rfl) λa A↦?_
   refine qe A 5 rfl rfl rfl rfl hP V (fun w1 V => qg rfl) λa A↦?_
   have hi24 : i < l2.length := by first | omega | (simp only [List.length_set]; omega)
   obtain ⟨b21, f22, hso23⟩ := Rd.addr (V.rd 0 rfl) hi24
   refine qe (v := .pointer (some ⟨b21, f22 + i, none⟩)) A 6 rfl rfl rfl rfl hP V (fun w1 V => xa (k := i) Tryz.underlying23 (by kernel_rfl) rfl rfl (by omega) hso23 hi24) λa A↦?_
   refine qe (v := .int .u32 (((l2.getD i 0 : Nat) : Int))) A 7 rfl rfl rfl rfl hP V (fun w1 V => km (V.rd 0 rfl) hso23 hi24 BiB_is1_87 rfl) λa A↦?_
   rcases tf ((((l1.getD i 0 : Nat) : Int) != ((l2.getD i 0 : Nat) : Int))) with hb25 | hb25
   ·
    have hb25' := bne_iff_ne.1 hb25
    refine qe (v := .bool true) A 8 rfl rfl rfl rfl hP V (fun w1 V => qf rfl rfl (fun w => (zm w).trans (by rw [hb25]))) λa A↦?_
    refine zb (by kernel_rfl) ?_
    refine hK16 _ _ (wp_cond_true (A.ev rfl) ?_)
    refine wsk fun K26 hK26 => wrl (sda A λa A↦?_)
    refine qa (hK26 _ _ (wp_ret (hret _ _ (en1 A rfl (qh rfl) ?_))))
    exact ⟨by rw [decide_eq_false (fun e => by subst e; omega)], V.bel⟩
   ·
    have hb25' := bne_eq_false_iff_eq.1 hb25
    refine qe (v := .bool false) A 8 rfl rfl rfl rfl hP V (fun w1 V => qf rfl rfl (fun w => (zm w).trans (by rw [hb25]))) λa A↦?_
    refine zb (by kernel_rfl) ?_
    refine hK16 _ _ (wp_cond_false (A.ev rfl) ?_)
    refine wp_skip (hK14 _ _ (wrl (sdo (v := .int .i64 (((i + 1 : Nat) : Int))) A (qf rfl rfl (fun w => (xb (kd (by omega) (by omega)) w).trans (by rw [show (((i : Nat) : Int) + 1 : Int) = ((i + 1 : Nat) : Int) from by omega]))) λa A↦?_)))
    refine sdm A λa A↦?_
    refine qa ?_
    refine hK9 _ _ _ (by omega) ⟨i + 1, rfl, ⟨by omega, fun j hj => by rcases Nat.lt_succ_iff_lt_or_eq.1 hj with h | h; exact hinv10.2 j h; subst h; omega⟩, A.keep _ (by repeat' constructor), V⟩
  ·
   have hb12' := of_decide_eq_false hb12
   refine sdc A qz hb12 λa A↦?_
   refine qa (hK11 _ _ (wsk fun K27 hK27 => wp_cond_false (A.ev rfl) ?_))
   refine wp_exit (hK6 _ _ (wsk fun K28 hK28 => wrl (sda A λa A↦?_)))
   refine qa (hK28 _ _ (wp_ret (hret _ _ (en1 A rfl (qh rfl) ?_))))
   exact ⟨by rw [decide_eq_true (list_of_getD (by omega) (fun j hj => hinv10.2 j (by omega)))], V.bel⟩
section
variable {P : Program}
theorem zoj {s d : TypeId} {k : Nat} (hs : P.underlying s = some (.int .i64)) (hd : P.underlying d = some (.int .u64)) (h : k ≤ 9223372036854775807) : ∀ w, (convert s d (.int .i64 ((k : Nat) : Int))).run P w = .ok (.int .u64 ((k : Nat) : Int)) w := fun w => by
  have := wrap_u64 k (by omega)
  simp [convert, run_underlying hs, run_underlying hd, go_sem, this]
end
def xf (b : Bool) (t q : List Nat) (b' : Bool) (t' q' : List Nat) : Bool := (b == b') && (decide (t = t') && decide (q = q'))
theorem uf {w : World} {ao bo : Option Addr} {l1 l2 : List Nat} (ca cb : Nat) (ha : Rd w ao l1) (hb : Rd w bo l2) (h1 : l1.length ≤ 9223372036854775807) (h2 : l2.length ≤ 9223372036854775807) {r : Bool} (hr : decide (l1 = l2) = r) :
    Calls Tryz.prog 121 #[.slice ao l1.length ca, .slice bo l2.length cb] w fun e w' => e = .returned (.bool r) ∧ Below w.heap.size w w' := by
  subst hr
  exact qbe ca cb ha hb h1 h2
theorem zpa : (words 1).length ≤ 512 := by rw [vj]; decide
/-- A rational number that is not too long. -/
def xg (u : Rat) : Prop := (words u.num.natAbs).length ≤ 512 ∧ (words u.den).length ≤ 512
instance (u : Rat) : Decidable (xg u) := inferInstanceAs (Decidable (_ ∧ _))
/-- The number of two rational ones. -/
def Q6.rat (u v : Rat) : Q6 := ⟨rb u.num, words u.num.natAbs, words u.den, rb v.num, words v.num.natAbs, words v.den⟩
theorem zpb {u v : Rat} (h1 : rb u.num = rb v.num) (h2 : words u.num.natAbs = words v.num.natAbs) (h3 : words u.den = words v.den) : u = v := by
  have e2 : u.num.natAbs = v.num.natAbs := by have := congrArg val h2; rwa [val_words, val_words] at this
  have e3 : u.den = v.den := by have := congrArg val h3; rwa [val_words, val_words] at this
  apply Rat.ext _ e3
  rw [← qcf u.num, ← qcf v.num, h1, e2]
theorem qmg {u : Rat} (h : xg u) : qdj (rb u.num) (words u.num.natAbs) (words u.den) = true := by
  unfold qdj qoi
  rw [uw h.1, uw h.2]
  have h1 : ¬ (words u.den).length = 0 := by have := (qcb (x := u.den)).2 u.den_nz; omega
  have h2 : Nat.gcd u.num.natAbs u.den = 1 := u.reduced
  simp only [Bool.and_self, if_true, val_words, h2, vj, decide_true, Bool.and_true, decide_eq_false h1, Bool.false_or]
  by_cases hz : u.num = 0
  · rw [hz, show rb 0 = false from rfl, Bool.and_false]; rfl
  · have h3 : ¬ (words u.num.natAbs).length = 0 := by have := (qcb (x := u.num.natAbs)).2 (by omega); omega
    rw [decide_eq_false h3]
    rfl
theorem qjf {u v : Rat} (hu : xg u) (hv : xg v) : xq (Q6.rat u v) = true := by
  unfold xq qjb Q6.rat
  rw [qmg hu, qmg hv]
  rfl
theorem qmh {b : Bool} {t q : List Nat} (ht : Dig t) (hq : Dig q) (h : qdj b t q = true) : ∃ u : Rat, xg u ∧ b = rb u.num ∧ t = words u.num.natAbs ∧ q = words u.den := by
  unfold qdj qoi at h
  by_cases hs : (sound t && sound q) = true
  · rw [if_pos hs] at h
    rw [Bool.and_eq_true] at hs
    obtain ⟨e1, l1⟩ := sound_words ht hs.1
    obtain ⟨e2, l2⟩ := sound_words hq hs.2
    simp only [Bool.and_eq_true, decide_eq_true_eq, Bool.not_eq_true', Bool.or_eq_false_iff, decide_eq_false_iff_not] at h
    obtain ⟨⟨h1, h2⟩, _, h3⟩ := h
    have hd : val q ≠ 0 := fun e => h1 (by rw [e2, e, words_zero]; rfl)
    have hg : Nat.gcd (val t) (val q) = 1 := by
      have := congrArg val h3
      rw [val_words] at this
      rw [this, ← vj, val_words]
    refine ⟨⟨sgn b (val t), val q, hd, by rw [qdh]; exact hg⟩, ⟨by simp only [qdh]; rw [← e1]; exact l1, by rw [← e2]; exact l2⟩, ?_, by simp only [qdh]; exact e1, e2⟩
    unfold rb
    simp only []
    rw [zoe]
    cases b with
    | false => rfl
    | true =>
      have : 0 < val t := by
        apply Nat.pos_of_ne_zero
        intro e
        rw [e1, e, words_zero] at h2
        simp at h2
      rw [decide_eq_true this]
      rfl
  · rw [if_neg hs] at h
    simp at h
theorem qfi {q : Q6} (h1 : Dig q.t1) (h2 : Dig q.q1) (h3 : Dig q.t2) (h4 : Dig q.q2) (h : xq q = true) : ∃ u v, q = Q6.rat u v ∧ xg u ∧ xg v := by
  unfold xq qjb at h
  rw [Bool.and_eq_true] at h
  obtain ⟨u, hu, a1, a2, a3⟩ := qmh h1 h2 h.1
  obtain ⟨v, hv, b1, b2, b3⟩ := qmh h3 h4 h.2
  refine ⟨u, v, ?_, hu, hv⟩
  cases q
  simp only [Q6.rat] at *
  rw [a1, a2, a3, b1, b2, b3]
/-- Both parts over one bottom. -/
def spG (u v : Rat) : Nat := Nat.gcd u.den v.den
def spX (u v : Rat) : Int := u.num * ((v.den / spG u v : Nat) : Int)
def spY (u v : Rat) : Int := v.num * ((u.den / spG u v : Nat) : Int)
def spD (u v : Rat) : Nat := u.den * (v.den / spG u v)
theorem qhj (u v : Rat) : 0 < spG u v := Nat.gcd_pos_of_pos_left _ (Nat.pos_of_ne_zero u.den_nz)
theorem zih {n g : Nat} (hn : n ≠ 0) (hg : 0 < g) (h : g ∣ n) : n / g ≠ 0 := by
  have := Nat.div_pos (Nat.le_of_dvd (Nat.pos_of_ne_zero hn) h) hg
  omega
theorem zii (u v : Rat) : spD u v ≠ 0 := Nat.mul_ne_zero u.den_nz (zih v.den_nz (qhj u v) (Nat.gcd_dvd_right _ _))
theorem zij (u v : Rat) : mkRat (spX u v) (spD u v) = u := by
  unfold spX spD
  rw [Rat.mkRat_mul_right (zih v.den_nz (qhj u v) (Nat.gcd_dvd_right _ _)), Rat.mkRat_self]
theorem qaa {n k : Nat} (h : (words n).length ≤ k) : (words ((n : Int)).natAbs).length ≤ k := by rw [Int.natAbs_natCast]; exact h
theorem zba {u v : Rat} (hu : xg u) (hv : xg v) : (words (spX u v).natAbs).length ≤ 1024 := uz (k := 512) (m := 512) hu.1 (qaa (qhi hv.2))
theorem zbb {u v : Rat} (hu : xg u) (hv : xg v) : (words (spD u v)).length ≤ 1024 := words_mul_length (k := 512) (m := 512) hu.2 (qhi hv.2)
/-- The two rational numbers of a number. -/
def reQ (q : Q6) : Rat := mkRat (sgn q.b1 (val q.t1)) (val q.q1)
def imQ (q : Q6) : Rat := mkRat (sgn q.b2 (val q.t2)) (val q.q2)
theorem qbf (u v : Rat) : reQ (Q6.rat u v) = u := by
  unfold reQ Q6.rat
  simp only [val_words, qcf]
  exact Rat.mkRat_self u
theorem zbc (u v : Rat) : imQ (Q6.rat u v) = v := by
  unfold imQ Q6.rat
  simp only [val_words, qcf]
  exact Rat.mkRat_self v
theorem qjg {u v : Rat} (hu : xg u) (hv : xg v) : LenQ (Q6.rat u v) := by
  have h1 := hu.1
  have h2 := hu.2
  have h3 := hv.1
  have h4 := hv.2
  exact ⟨by simp only [Q6.rat]; omega, by simp only [Q6.rat]; omega, by simp only [Q6.rat]; omega, by simp only [Q6.rat]; omega⟩
/-- A number is sound, with its two rational ones, or not. -/
theorem qsg {q : Q6} {w : World} {o1 o2 o3 o4 : Option Addr} {c1 c2 c3 c4 : Nat} (h : Nm w q o1 c1 o2 c2 o3 c3 o4 c4) : xq q = false ∨ ∃ u v, q = Q6.rat u v ∧ xg u ∧ xg v := by
  cases hs : xq q with
  | false => exact .inl rfl
  | true => exact .inr (qfi h.s1.rd.dig h.s2.rd.dig h.s3.rd.dig h.s4.rd.dig hs)
section
variable {P : Program} {t : TypeId} {x y : Operand} {a b : ByteArray}
end
section
variable {P : Program} {ops : List Oper} {Q : Exit → Act → World → Prop} {a : Act} {w w' : World} {n : Nat} {l : List (Nat × Value)} {o : Oper} {v : Value} {rest : List Oper}
end
theorem qmi : xg 0 := by
  unfold xg
  rw [show (0 : Rat).num = 0 from rfl, show (0 : Rat).den = 1 from rfl, show Int.natAbs 0 = 0 from rfl, words_zero]
  exact ⟨by decide, zpa⟩

def qpe (x y : Int) : Int := if x < y then -1 else if x = y then 0 else 1
def xw (x y : Rat) : Int := if x < y then -1 else if x = y then 0 else 1
theorem zrj {x y : Int} {d k : Nat} (hd : d ≠ 0) (hk : k ≠ 0) : mkRat x d < mkRat y k ↔ x * (k : Int) < y * (d : Int) := by
  have hd' : (0 : Rat) < (d : Rat) := Rat.natCast_pos.2 (by omega)
  have hk' : (0 : Rat) < (k : Rat) := Rat.natCast_pos.2 (by omega)
  rw [Rat.mkRat_eq_div, Rat.mkRat_eq_div, Rat.div_lt_iff hd', ← Rat.intCast_lt_intCast]
  have e : (y : Rat) / (k : Rat) * (d : Rat) = (y : Rat) * (d : Rat) / (k : Rat) := by grind
  rw [e, Rat.lt_div_iff hk', Rat.intCast_mul, Rat.intCast_mul]
  rfl
theorem zsf {x y : Int} {d k : Nat} (hd : d ≠ 0) (hk : k ≠ 0) {u v : Rat} (hu : mkRat x d = u) (hv : mkRat y k = v) : qpe (x * (k : Int)) (y * (d : Int)) = xw u v := by
  subst hu hv
  unfold qpe xw
  by_cases h : mkRat x d < mkRat y k
  · rw [if_pos h, if_pos ((zrj hd hk).1 h)]
  · rw [if_neg h, if_neg (fun c => h ((zrj hd hk).2 c))]
    by_cases h2 : mkRat x d = mkRat y k
    · rw [if_pos h2, if_pos ((Rat.mkRat_eq_iff hd hk).1 h2)]
    · rw [if_neg h2, if_neg (fun c => h2 ((Rat.mkRat_eq_iff hd hk).2 c))]
def xx (p q : Q6) : Int := if xq p = true ∧ xq q = true then (if p.t2.length = 0 ∧ q.t2.length = 0 then 0 else 10) else 2
def zee (p q : Q6) : Int × Int := if xx p q = 0 then (xw (reQ p) (reQ q), 0) else (0, xx p q)
theorem qxh {u v x y : Rat} (hu : xg u) (hv : xg v) (hx : xg x) (hy : xg y) : xx (Q6.rat u v) (Q6.rat x y) = if v = 0 ∧ y = 0 then 0 else 10 := by
  have key : ∀ r : Rat, (words r.num.natAbs).length = 0 ↔ r = 0 := fun r => by
    constructor
    · intro e
      have e1 := words_eq_nil.1 (List.length_eq_zero_iff.1 e)
      exact Rat.num_eq_zero.1 (by omega)
    · intro h
      rw [h, show (0 : Rat).num.natAbs = 0 from rfl, words_zero]
      rfl
  unfold xx
  rw [if_pos ⟨qjf hu hv, qjf hx hy⟩]
  simp only [Q6.rat, key]
theorem zef {p q : Q6} (h : xx p q = 0) : xq p = true ∧ xq q = true := by
  unfold xx at h
  by_cases k : xq p = true ∧ xq q = true
  · exact k
  · rw [if_neg k] at h; exact absurd h (by decide)
theorem zsg {x : Int} (h : x ≠ 0) : (x != 0) = true := by simpa using h

theorem zeg (x y : Rat) : xw x y = -xw y x := by
  unfold xw
  by_cases h1 : x < y
  · rw [if_pos h1, if_neg (Rat.not_lt.2 (Rat.le_of_lt h1)), if_neg (fun e => by rw [e] at h1; exact Rat.lt_irrefl h1)]
  · rw [if_neg h1]
    by_cases h2 : x = y
    · rw [if_pos h2, h2, if_neg Rat.lt_irrefl, if_pos rfl]; rfl
    · have h3 : y < x := Rat.lt_of_le_of_ne (Rat.not_lt.1 h1) (fun e => h2 e.symm)
      rw [if_neg h2, if_pos h3]
      rfl
theorem zpc {x y : Rat} (h : x < y) : xw x y < 0 := by
  unfold xw
  rw [if_pos h]
  decide
theorem zja {x y : Rat} (h : xw x y < 0) : x < y := by
  unfold xw at h
  by_cases k : x < y
  · exact k
  · rw [if_neg k] at h
    split at h <;> exact absurd h (by decide)
theorem zjb {u x : Rat} (hu : xg u) (hx : xg x) : zee (Q6.rat u 0) (Q6.rat x 0) = (xw u x, 0) := by
  unfold zee
  rw [if_pos (by rw [qxh hu qmi hx qmi, if_pos ⟨rfl, rfl⟩]), qbf, qbf]
theorem um {w : World} {ao bo : Option Addr} {l1 l2 : List Nat} (ca cb : Nat) (ha : Rd w ao l1) (hb : Rd w bo l2) (h1 : l1.length ≤ 9223372036854775807) (h2 : l2.length ≤ 9223372036854775807) {r : Bool} (hr : decide (l1 = l2) = r) :
    Calls Tryz.prog 82 #[.slice ao l1.length ca, .slice bo l2.length cb] w fun e w' => e = .returned (.bool r) ∧ Below w.heap.size w w' := by
  subst hr
  exact zed ca cb ha hb h1 h2

theorem BiS_isS_27 : IsS Tryz.prog 27 6 := ⟨⟨_, Tryz.underlying27⟩, by kernel_rfl⟩
theorem zmi {w : World} {k : Nat} (hk : k ≤ 9223372036854775807) : Calls Tryz.prog 126 #[.int .i64 (((k : Nat) : Int))] w (AnsV w (Q6.whole false k)) := by
 have S : St w w [] [] [] := St.start w
 refine qm (l := [(0, .int .i64 (((k : Nat) : Int)))]) Tryz.func126 rfl Tryz.ntmps126 rfl rfl ?_
 intro Q hret hnorm hP a A
 refine wsk fun K1 hK1 => wrl (zt (vs := [.bool false, .slice none 0 0, .slice none 0 0, .bool false, .slice none 0 0, .slice none 0 0]) (t := 27) A S rfl rfl rfl pg (qk (z := .agg #[.bool false, .slice none 0 0, .slice none 0 0, .bool false, .slice none 0 0, .slice none 0 0]) (by kernel_rfl) rfl) rfl ?_)
 intro g2 w3 S a A
 refine qa (hK1 _ _ (wsk fun K4 hK4 => wrl (sdm A λa A↦?_)))
 refine sdo (v := .int .u64 (((k : Nat) : Int))) A (jm rfl (zoj Tryz.underlying3 Tryz.underlying70 hk)) λa A↦?_
 refine sda A λa A↦?_
 refine qa (hK4 _ _ (wsk fun K5 hK5 => wsk fun K6 hK6 => wrl (sdm A λa A↦?_)))
 refine sdo (v := .bool false) A (qf rfl rfl (fun w => (qz w).trans (by rw [show (decide (((k : Nat) : Int) < 0)) = false from decide_eq_false (by omega)]))) λa A↦?_
 refine qa (hK6 _ _ (wp_cond_false (A.ev rfl) ?_))
 refine wp_skip (hK5 _ _ (wsk fun K7 hK7 => wrl (sdm A λa A↦?_)))
 refine sdo (v := .bool false) A (qf rfl rfl (fun w => (qz w).trans (by rw [show (decide (((k : Nat) : Int) < 0)) = false from decide_eq_false (by omega)]))) λa A↦?_
 refine sdm A λa A↦?_
 refine sct A (ef rfl rfl) (of_any k _ (by omega)) ?_
 rintro _ w12 ⟨ro8, rc9, rfl, ho10, hb11⟩
 replace S := S.call hb11
 replace S := S.addR ho10.rd
 refine ⟨_, rfl, ?_⟩
 intro a A
 refine sct A (ef rfl rfl) (zia _) ?_
 rintro _ w17 ⟨ro13, rc14, rfl, ho15, hb16⟩
 replace S := S.call hb16
 replace S := S.addR ho15.rd
 refine ⟨_, rfl, ?_⟩
 intro a A
 refine sdo (v := .agg #[.bool false, .slice ro8 ((words k).length) rc9, .slice ro13 1 rc14]) A (zv rfl (fun w => by kernel_rfl)) λa A↦?_
 refine sct A (ef rfl rfl) (zia _) ?_
 rintro _ w22 ⟨ro18, rc19, rfl, ho20, hb21⟩
 replace S := S.call hb21
 replace S := S.addR ho20.rd
 refine ⟨_, rfl, ?_⟩
 intro a A
 refine sdo (v := .agg #[.bool false, .slice none 0 0, .slice ro18 1 rc19]) A (zv rfl (fun w => by kernel_rfl)) λa A↦?_
 refine sdo (v := .agg #[.bool false, .slice ro8 ((words k).length) rc9, .slice ro13 1 rc14, .bool false, .slice none 0 0, .slice ro18 1 rc19]) A (zv rfl (fun w => by kernel_rfl)) λa A↦?_
 refine xe (us := [.bool false, .slice ro8 ((words k).length) rc9, .slice ro13 1 rc14, .bool false, .slice none 0 0, .slice ro18 1 rc19]) A S rfl rfl (qw rfl rfl rfl (by kernel_rfl) S 0 rfl rfl rfl) 0 rfl rfl rfl rfl ?_
 intro w23 S
 refine qa (hK7 _ _ (wp_ret (hret _ _ (en1 A rfl (xj S BiS_isS_27 rfl 0 rfl (cs := [.bool false, .slice ro8 ((words k).length) rc9, .slice ro13 1 rc14, .bool false, .slice none 0 0, .slice ro18 1 rc19]) rfl rfl) ?_))))
 exact ⟨ro8, rc9, ro13, rc14, none, 0, ro18, rc19, rfl, ⟨⟨(S.rd 2 rfl), ho10.nocap, ho10.caps⟩, ⟨(S.rd 1 rfl), ho15.nocap, ho15.caps⟩, (Sc.none _), ⟨(S.rd 0 rfl), ho20.nocap, ho20.caps⟩⟩, S.bel⟩
theorem ExI_is1_23 : Is1 Tryz.prog 23 := ⟨⟨_, Tryz.underlying23, rfl⟩, by kernel_rfl⟩
theorem ExI_is1_4 : Is1 Tryz.prog 4 := ⟨⟨_, Tryz.underlying4, rfl⟩, by kernel_rfl⟩
theorem ExI_fld_120_0 : FieldAt Tryz.prog 120 0 0 := ⟨_, _, Tryz.underlying120, rfl, rfl, by kernel_rfl⟩
theorem ExI_fld_120_1 : FieldAt Tryz.prog 120 1 1 := ⟨_, _, Tryz.underlying120, rfl, rfl, by kernel_rfl⟩
theorem ExI_isS_120 : IsS Tryz.prog 120 2 := ⟨⟨_, Tryz.underlying120⟩, by kernel_rfl⟩
theorem xi {w : World} {b : Bool} {n : Nat} {z : Int} {so : Option Addr} {c : Nat} (hs : Sc w so c (words n)) (hz : sgn b n = z) : Calls Tryz.prog 142 #[.bool b, .slice so (words n).length c] w (AnsZ w z) := by
 cases b
 ·
  have V : St w w [] [(so, words n)] [] := (St.start w).addR hs.rd
  refine qm (l := [(0, .bool false), (1, .slice so ((words n).length) c)]) Tryz.func142 rfl Tryz.ntmps142 rfl rfl ?_
  intro Q hret hnorm hP a A
  refine wsk fun K1 hK1 => wrl (zt (vs := [.bool false, .slice none 0 0]) (t := 120) A V rfl rfl rfl pg (qk (z := .agg #[.bool false, .slice none 0 0]) (by kernel_rfl) rfl) rfl ?_)
  intro g2 w3 V a A
  refine qa (hK1 _ _ (wsk fun K4 hK4 => wrl ?_))
  iterate 2 refine sdm A λa A↦?_
  iterate 3 refine qx A rfl rfl rfl λa A↦?_
  refine sdk (v := .bool false) A λa A↦?_
  refine sdm A λa A↦?_
  refine sdo (v := .agg #[.bool false, .slice so ((words n).length) c]) A (zv rfl (fun w => by kernel_rfl)) λa A↦?_
  refine xe (us := [.bool false, .slice so ((words n).length) c]) A V rfl rfl (qw rfl rfl rfl (by kernel_rfl) V 0 rfl rfl rfl) 0 rfl rfl rfl rfl ?_
  intro w5 V
  refine qa (hK4 _ _ (wp_ret (hret _ _ (en1 A rfl (xj V ExI_isS_120 rfl 0 rfl (cs := [.bool false, .slice so ((words n).length) c]) rfl rfl) ?_))))
  exact AnsZ.sgn hz (by simp [rb, sgn]) ⟨(V.rd 0 rfl), hs.nil, hs.cap⟩ V.bel
 ·
  have V : St w w [] [(so, words n)] [] := (St.start w).addR hs.rd
  refine qm (l := [(0, .bool true), (1, .slice so ((words n).length) c)]) Tryz.func142 rfl Tryz.ntmps142 rfl rfl ?_
  intro Q hret hnorm hP a A
  refine wsk fun K1 hK1 => wrl (zt (vs := [.bool false, .slice none 0 0]) (t := 120) A V rfl rfl rfl pg (qk (z := .agg #[.bool false, .slice none 0 0]) (by kernel_rfl) rfl) rfl ?_)
  intro g2 w3 V a A
  refine qa (hK1 _ _ (wsk fun K4 hK4 => wrl ?_))
  iterate 3 refine sdm A λa A↦?_
  refine sdo A (zf Tryz.underlying23 rfl) λa A↦?_
  rcases tf (decide (0 < (((words n).length : Nat) : Int))) with hb5 | hb5
  ·
   have hb5' := of_decide_eq_true hb5
   refine sdc A js hb5 λa A↦?_
   refine sdk (v := .bool true) A λa A↦?_
   refine sdm A λa A↦?_
   refine sdo (v := .agg #[.bool true, .slice so ((words n).length) c]) A (zv rfl (fun w => by kernel_rfl)) λa A↦?_
   refine xe (us := [.bool true, .slice so ((words n).length) c]) A V rfl rfl (qw rfl rfl rfl (by kernel_rfl) V 0 rfl rfl rfl) 0 rfl rfl rfl rfl ?_
   intro w6 V
   refine qa (hK4 _ _ (wp_ret (hret _ _ (en1 A rfl (xj V ExI_isS_120 rfl 0 rfl (cs := [.bool true, .slice so ((words n).length) c]) rfl rfl) ?_))))
   exact AnsZ.sgn hz (by have h9 := vb n; simp only [rb, sgn]; apply decide_eq_true; simp; omega) ⟨(V.rd 0 rfl), hs.nil, hs.cap⟩ V.bel
  ·
   have hb5' := of_decide_eq_false hb5
   refine sdc A js hb5 λa A↦?_
   refine sdk (v := .bool false) A λa A↦?_
   refine sdm A λa A↦?_
   refine sdo (v := .agg #[.bool false, .slice so ((words n).length) c]) A (zv rfl (fun w => by kernel_rfl)) λa A↦?_
   refine xe (us := [.bool false, .slice so ((words n).length) c]) A V rfl rfl (qw rfl rfl rfl (by kernel_rfl) V 0 rfl rfl rfl) 0 rfl rfl rfl rfl ?_
   intro w7 V
   refine qa (hK4 _ _ (wp_ret (hret _ _ (en1 A rfl (xj V ExI_isS_120 rfl 0 rfl (cs := [.bool false, .slice so ((words n).length) c]) rfl rfl) ?_))))
   exact AnsZ.sgn hz (by have h9 := vb n; simp only [rb, sgn]; apply decide_eq_false; simp; omega) ⟨(V.rd 0 rfl), hs.nil, hs.cap⟩ V.bel
theorem qvd {w : World} {x : Int} {so : Option Addr} {soc : Nat} (hso : Sc w so soc (words x.natAbs)) : Calls Tryz.prog 146 #[.agg #[.bool (rb x), .slice so (words x.natAbs).length soc]] w (AnsZ w (-x)) := by
 have V : St w w [] [(so, words x.natAbs)] [] := (St.start w).addR hso.rd
 refine qm (l := [(0, .agg #[.bool ((rb x)), .slice so ((words x.natAbs).length) soc])]) Tryz.func146 rfl Tryz.ntmps146 rfl rfl ?_
 intro Q hret hnorm hP a A
 refine wsk fun K1 hK1 => wrl (zt A V rfl rfl rfl pg (qs rfl rfl) rfl ?_)
 intro g2 w3 V a A
 refine zt (vs := [.bool false, .slice none 0 0]) (t := 120) A V rfl rfl rfl pg (qk (z := .agg #[.bool false, .slice none 0 0]) (by kernel_rfl) rfl) rfl ?_
 intro g4 w5 V a A
 refine qa (hK1 _ _ (wsk fun K6 hK6 => wrl (sdo (v := .pointer (some ⟨g2, 0, none⟩)) A (qb ExI_fld_120_0 rfl rfl) λa A↦?_)))
 refine sdo A (qy V ExI_is1_4 rfl 1 rfl rfl) λa A↦?_
 refine sdo (v := .bool (!((rb x)))) A (zk rfl zx) λa A↦?_
 refine sdo (v := .pointer (some ⟨g2, 1, none⟩)) A (qb ExI_fld_120_1 rfl rfl) λa A↦?_
 refine sdo A (qy V ExI_is1_23 rfl 1 rfl rfl) λa A↦?_
 refine sct A (ef rfl rfl) (xi (b := !rb x) (n := x.natAbs) (z := -x) ⟨(V.rd 0 rfl), hso.nil, hso.cap⟩ (zsd x)) ?_
 rintro _ w11 ⟨zo7, zc8, rfl, hs9, hb10⟩
 replace V := V.call hb10
 replace V := V.addR hs9.rd
 refine ⟨_, rfl, ?_⟩
 intro a A
 refine xe (us := [.bool ((rb (-x))), .slice zo7 ((words (-x).natAbs).length) zc8]) A V rfl rfl (qw rfl rfl rfl (by kernel_rfl) V 0 rfl rfl rfl) 0 rfl rfl rfl rfl ?_
 intro w12 V
 refine qa (hK6 _ _ (wp_ret (hret _ _ (en1 A rfl (xj V ExI_isS_120 rfl 0 rfl (cs := [.bool ((rb (-x))), .slice zo7 ((words (-x).natAbs).length) zc8]) rfl rfl) ?_))))
 exact ⟨_, _, rfl, ⟨(V.rd 0 rfl), hs9.nil, hs9.cap⟩, V.bel⟩
theorem qzi {w : World} {x y : Int} {so : Option Addr} {soc : Nat} (hso : Sc w so soc (words x.natAbs)) {uo : Option Addr} {uoc : Nat} (huo : Sc w uo uoc (words y.natAbs)) (lx : (words x.natAbs).length ≤ 50000) (ly : (words y.natAbs).length ≤ 50000) : Calls Tryz.prog 144 #[.agg #[.bool (rb x), .slice so (words x.natAbs).length soc], .agg #[.bool (rb y), .slice uo (words y.natAbs).length uoc]] w (AnsZ w (x * y)) := by
 have V : St w w [] [(uo, words y.natAbs), (so, words x.natAbs)] [] := ((St.start w).addR hso.rd).addR huo.rd
 refine qm (l := [(0, .agg #[.bool ((rb x)), .slice so ((words x.natAbs).length) soc]), (1, .agg #[.bool ((rb y)), .slice uo ((words y.natAbs).length) uoc])]) Tryz.func144 rfl Tryz.ntmps144 rfl rfl ?_
 intro Q hret hnorm hP a A
 refine wsk fun K1 hK1 => wrl (zt A V rfl rfl rfl pg (qs rfl rfl) rfl ?_)
 intro g2 w3 V a A
 refine zt A V rfl rfl rfl pg (qs rfl rfl) rfl ?_
 intro g4 w5 V a A
 refine zt (vs := [.bool false, .slice none 0 0]) (t := 120) A V rfl rfl rfl pg (qk (z := .agg #[.bool false, .slice none 0 0]) (by kernel_rfl) rfl) rfl ?_
 intro g6 w7 V a A
 refine qa (hK1 _ _ (wsk fun K8 hK8 => jc (S := fun w1 => St w w1 [(g4, [.bool ((rb y)), .slice uo ((words y.natAbs).length) uoc]), (g2, [.bool ((rb x)), .slice so ((words x.natAbs).length) soc])] [(uo, words y.natAbs), (so, words x.natAbs)] []) (by kernel_rfl) ?_))
 replace V := V.drew
 refine qe (v := .pointer (some ⟨g2, 0, none⟩)) A 0 rfl rfl rfl rfl hP (V.partD (cn (cc (cc .slnil))) 0 rfl (.refl _)) (fun w1 V => qb ExI_fld_120_0 rfl rfl) λa A↦?_
 refine qe A 1 rfl rfl rfl rfl hP (V.partD (cn (cc (cc .slnil))) 0 rfl (.refl _)) (fun w1 V => qy V ExI_is1_4 rfl 1 rfl rfl) λa A↦?_
 refine qe (v := .pointer (some ⟨g4, 0, none⟩)) A 2 rfl rfl rfl rfl hP (V.partD (cn (cc (cc .slnil))) 0 rfl (.refl _)) (fun w1 V => qb ExI_fld_120_0 rfl rfl) λa A↦?_
 refine qe A 3 rfl rfl rfl rfl hP (V.partD (cn (cc (cc .slnil))) 0 rfl (.refl _)) (fun w1 V => qy V ExI_is1_4 rfl 0 rfl rfl) λa A↦?_
 refine qe (v := .bool (!((rb x) == (rb y)))) A 4 rfl rfl rfl rfl hP (V.partD (cn (cc (cc .slnil))) 0 rfl (.refl _)) (fun w1 V => qf rfl rfl (zhj Tryz.underlying4)) λa A↦?_
 refine qe (v := .pointer (some ⟨g2, 1, none⟩)) A 5 rfl rfl rfl rfl hP (V.partD (cn (cc (cc .slnil))) 0 rfl (.refl _)) (fun w1 V => qb ExI_fld_120_1 rfl rfl) λa A↦?_
 refine qe A 6 rfl rfl rfl rfl hP (V.partD (cn (cc (cc .slnil))) 0 rfl (.refl _)) (fun w1 V => qy V ExI_is1_23 rfl 1 rfl rfl) λa A↦?_
 refine qe (v := .pointer (some ⟨g4, 1, none⟩)) A 7 rfl rfl rfl rfl hP (V.partD (cn (cc (cc .slnil))) 0 rfl (.refl _)) (fun w1 V => qb ExI_fld_120_1 rfl rfl) λa A↦?_
 refine qe A 8 rfl rfl rfl rfl hP (V.partD (cn (cc (cc .slnil))) 0 rfl (.refl _)) (fun w1 V => qy V ExI_is1_23 rfl 0 rfl rfl) λa A↦?_
 refine qi (by kernel_rfl) (za A 9 rfl rfl rfl rfl (qj  rfl rfl (fun w => by kernel_rfl)) (product_any _ _ (V.rd 1 rfl) (V.rd 0 rfl) (by omega) (by omega)) ?_)
 rintro _ w13 ⟨ro9, rc10, rfl, ho11, hb12⟩
 replace V := V.call hb12
 replace V := V.addR ho11.rd
 refine ⟨_, rfl, (V.partD (cn (cc (cc .slnil))) 1 rfl (.refl _)), ?_⟩
 intro a A
 refine qi (by kernel_rfl) (za A 10 rfl rfl rfl rfl (qj  rfl rfl (fun w => by kernel_rfl)) (xi (b := !(rb x == rb y)) (n := x.natAbs * y.natAbs) (z := x * y) ⟨(V.rd 0 rfl), ho11.nocap, ho11.caps⟩ (zig x y)) ?_)
 rintro _ w18 ⟨zo14, zc15, rfl, hs16, hb17⟩
 replace V := V.call hb17
 replace V := V.addR hs16.rd
 refine ⟨_, rfl, (V.partD (cn (cc (cc .slnil))) 2 rfl (.refl _)), ?_⟩
 intro a A
 refine qi (by kernel_rfl) (zr (us := [.bool ((rb (x * y))), .slice zo14 ((words (x * y).natAbs).length) zc15]) A V 11 rfl rfl rfl (qw rfl rfl rfl (by kernel_rfl) V 0 rfl rfl rfl) 0 rfl rfl rfl rfl ?_)
 intro w19 V
 refine ⟨(V.partD (cn (cc (cc .slnil))) 2 rfl (.refl _)), ?_⟩
 refine zb (by kernel_rfl) ?_
 refine hK8 _ _ (wp_ret (hret _ _ (en1 A rfl (xj V ExI_isS_120 rfl 0 rfl (cs := [.bool ((rb (x * y))), .slice zo14 ((words (x * y).natAbs).length) zc15]) rfl rfl) ?_)))
 exact ⟨_, _, rfl, ⟨(V.rd 0 rfl), hs16.nil, hs16.cap⟩, V.bel⟩
theorem qgc {w : World} {x y : Int} {so : Option Addr} {soc : Nat} (hso : Sc w so soc (words x.natAbs)) {uo : Option Addr} {uoc : Nat} (huo : Sc w uo uoc (words y.natAbs)) (lx : (words x.natAbs).length ≤ 50000) (ly : (words y.natAbs).length ≤ 50000) : Calls Tryz.prog 145 #[.agg #[.bool (rb x), .slice so (words x.natAbs).length soc], .agg #[.bool (rb y), .slice uo (words y.natAbs).length uoc]] w (AnsZ w (x + y)) := by
 have V : St w w [] [(uo, words y.natAbs), (so, words x.natAbs)] [] := ((St.start w).addR hso.rd).addR huo.rd
 refine qm (l := [(0, .agg #[.bool ((rb x)), .slice so ((words x.natAbs).length) soc]), (1, .agg #[.bool ((rb y)), .slice uo ((words y.natAbs).length) uoc])]) Tryz.func145 rfl Tryz.ntmps145 rfl rfl ?_
 intro Q hret hnorm hP a A
 refine wsk fun K1 hK1 => wrl (zt A V rfl rfl rfl pg (qs rfl rfl) rfl ?_)
 intro g2 w3 V a A
 refine zt A V rfl rfl rfl pg (qs rfl rfl) rfl ?_
 intro g4 w5 V a A
 refine zt (vs := [.bool false, .slice none 0 0]) (t := 120) A V rfl rfl rfl pg (qk (z := .agg #[.bool false, .slice none 0 0]) (by kernel_rfl) rfl) rfl ?_
 intro g6 w7 V a A
 refine qa (hK1 _ _ (wsk fun K8 hK8 => wsk fun K9 hK9 => wrl (sdo (v := .pointer (some ⟨g2, 0, none⟩)) A (qb ExI_fld_120_0 rfl rfl) λa A↦?_)))
 refine sdo A (qy V ExI_is1_4 rfl 2 rfl rfl) λa A↦?_
 refine sdo (v := .pointer (some ⟨g4, 0, none⟩)) A (qb ExI_fld_120_0 rfl rfl) λa A↦?_
 refine sdo A (qy V ExI_is1_4 rfl 1 rfl rfl) λa A↦?_
 rcases tf (((rb x) == (rb y))) with hb10 | hb10
 ·
  have hb10' := eq_of_beq hb10
  refine sdo (v := .bool true) A (qf rfl rfl (fun w => ((yv Tryz.underlying4) w).trans (by rw [hb10]))) λa A↦?_
  refine qa (hK9 _ _ (wp_cond_true (A.ev rfl) ?_))
  refine wsk fun K11 hK11 => jc (S := fun w1 => St w w1 [(g4, [.bool ((rb y)), .slice uo ((words y.natAbs).length) uoc]), (g2, [.bool ((rb x)), .slice so ((words x.natAbs).length) soc])] [(uo, words y.natAbs), (so, words x.natAbs)] []) (by kernel_rfl) ?_
  replace V := V.drew
  refine qe (v := .pointer (some ⟨g2, 0, none⟩)) A 0 rfl rfl rfl rfl hP (V.partD (cn (cc (cc .slnil))) 0 rfl (.refl _)) (fun w1 V => qb ExI_fld_120_0 rfl rfl) λa A↦?_
  refine qe A 1 rfl rfl rfl rfl hP (V.partD (cn (cc (cc .slnil))) 0 rfl (.refl _)) (fun w1 V => qy V ExI_is1_4 rfl 1 rfl rfl) λa A↦?_
  refine qe (v := .pointer (some ⟨g2, 1, none⟩)) A 2 rfl rfl rfl rfl hP (V.partD (cn (cc (cc .slnil))) 0 rfl (.refl _)) (fun w1 V => qb ExI_fld_120_1 rfl rfl) λa A↦?_
  refine qe A 3 rfl rfl rfl rfl hP (V.partD (cn (cc (cc .slnil))) 0 rfl (.refl _)) (fun w1 V => qy V ExI_is1_23 rfl 1 rfl rfl) λa A↦?_
  refine qe (v := .pointer (some ⟨g4, 1, none⟩)) A 4 rfl rfl rfl rfl hP (V.partD (cn (cc (cc .slnil))) 0 rfl (.refl _)) (fun w1 V => qb ExI_fld_120_1 rfl rfl) λa A↦?_
  refine qe A 5 rfl rfl rfl rfl hP (V.partD (cn (cc (cc .slnil))) 0 rfl (.refl _)) (fun w1 V => qy V ExI_is1_23 rfl 0 rfl rfl) λa A↦?_
  refine qi (by kernel_rfl) (za A 6 rfl rfl rfl rfl (qj  rfl rfl (fun w => by kernel_rfl)) (sum_any _ _ (V.rd 1 rfl) (V.rd 0 rfl) (by omega) (by omega)) ?_)
  rintro _ w16 ⟨ro12, rc13, rfl, ho14, hb15⟩
  replace V := V.call hb15
  replace V := V.addR ho14.rd
  refine ⟨_, rfl, (V.partD (cn (cc (cc .slnil))) 1 rfl (.refl _)), ?_⟩
  intro a A
  refine qi (by kernel_rfl) (za A 7 rfl rfl rfl rfl (qj  rfl rfl (fun w => by kernel_rfl)) (xi (b := rb x) (n := x.natAbs + y.natAbs) (z := x + y) ⟨(V.rd 0 rfl), ho14.nocap, ho14.caps⟩ (zse hb10)) ?_)
  rintro _ w21 ⟨zo17, zc18, rfl, hs19, hb20⟩
  replace V := V.call hb20
  replace V := V.addR hs19.rd
  refine ⟨_, rfl, (V.partD (cn (cc (cc .slnil))) 2 rfl (.refl _)), ?_⟩
  intro a A
  refine qi (by kernel_rfl) (zr (us := [.bool ((rb (x + y))), .slice zo17 ((words (x + y).natAbs).length) zc18]) A V 8 rfl rfl rfl (qw rfl rfl rfl (by kernel_rfl) V 0 rfl rfl rfl) 0 rfl rfl rfl rfl ?_)
  intro w22 V
  refine ⟨(V.partD (cn (cc (cc .slnil))) 2 rfl (.refl _)), ?_⟩
  refine zb (by kernel_rfl) ?_
  refine hK11 _ _ (wp_ret (hret _ _ (en1 A rfl (xj V ExI_isS_120 rfl 0 rfl (cs := [.bool ((rb (x + y))), .slice zo17 ((words (x + y).natAbs).length) zc18]) rfl rfl) ?_)))
  exact ⟨_, _, rfl, ⟨(V.rd 0 rfl), hs19.nil, hs19.cap⟩, V.bel⟩
 ·
  have hb10' := ne_of_beq_false hb10
  refine sdo (v := .bool false) A (qf rfl rfl (fun w => ((yv Tryz.underlying4) w).trans (by rw [hb10]))) λa A↦?_
  refine qa (hK9 _ _ (wp_cond_false (A.ev rfl) ?_))
  refine wp_skip (hK8 _ _ (wsk fun K23 hK23 => wsk fun K24 hK24 => wrl (sdo (v := .pointer (some ⟨g2, 1, none⟩)) A (qb ExI_fld_120_1 rfl rfl) λa A↦?_)))
  refine sdo A (qy V ExI_is1_23 rfl 2 rfl rfl) λa A↦?_
  refine sdo (v := .pointer (some ⟨g4, 1, none⟩)) A (qb ExI_fld_120_1 rfl rfl) λa A↦?_
  refine sdo A (qy V ExI_is1_23 rfl 1 rfl rfl) λa A↦?_
  rcases tf (decide (x.natAbs < y.natAbs)) with hb25 | hb25
  ·
   have hb25' := of_decide_eq_true hb25
   refine sct A (ef rfl rfl) (order_any _ _ (V.rd 1 rfl) (V.rd 0 rfl) (by omega) (by omega)) ?_
   rintro _ w27 ⟨rfl, hb26⟩
   replace V := V.call hb26
   refine ⟨_, rfl, ?_⟩
   intro a A
   refine sdo (v := .bool true) A (qf rfl rfl (fun w => (qz w).trans (by rw [show (decide (cmpN x.natAbs y.natAbs < 0)) = true from (by have h9 := of_decide_eq_true hb25; apply decide_eq_true; unfold cmpN; split <;> (try split) <;> omega)]))) λa A↦?_
   refine qa (hK24 _ _ (wp_cond_true (A.ev rfl) ?_))
   refine wrl (sdo A (zi V ExI_isS_120 rfl 1 rfl (cs := [.bool ((rb y)), .slice uo ((words y.natAbs).length) uoc]) rfl rfl) λa A↦?_)
   refine sdo A (zi V ExI_isS_120 rfl 2 rfl (cs := [.bool ((rb x)), .slice so ((words x.natAbs).length) soc]) rfl rfl) λa A↦?_
   refine xe (us := [.bool ((rb y)), .slice uo ((words y.natAbs).length) uoc]) A V rfl rfl (qw rfl rfl rfl (by kernel_rfl) V 2 rfl rfl rfl) 2 rfl rfl rfl rfl ?_
   intro w28 V
   refine xe (us := [.bool ((rb x)), .slice so ((words x.natAbs).length) soc]) A V rfl rfl (qw rfl rfl rfl (by kernel_rfl) V 1 rfl rfl rfl) 1 rfl rfl rfl rfl ?_
   intro w29 V
   refine qa (hK23 _ _ (wsk fun K30 hK30 => jc (S := fun w1 => St w w1 [(g4, [.bool ((rb x)), .slice so ((words x.natAbs).length) soc]), (g2, [.bool ((rb y)), .slice uo ((words y.natAbs).length) uoc])] [(uo, words y.natAbs), (so, words x.natAbs)] []) (by kernel_rfl) ?_))
   replace V := V.drew
   refine qe (v := .pointer (some ⟨g2, 0, none⟩)) A 0 rfl rfl rfl rfl hP (V.partD (cn (cc (cc .slnil))) 0 rfl (.refl _)) (fun w1 V => qb ExI_fld_120_0 rfl rfl) λa A↦?_
   refine qe A 1 rfl rfl rfl rfl hP (V.partD (cn (cc (cc .slnil))) 0 rfl (.refl _)) (fun w1 V => qy V ExI_is1_4 rfl 1 rfl rfl) λa A↦?_
   refine qe (v := .pointer (some ⟨g2, 1, none⟩)) A 2 rfl rfl rfl rfl hP (V.partD (cn (cc (cc .slnil))) 0 rfl (.refl _)) (fun w1 V => qb ExI_fld_120_1 rfl rfl) λa A↦?_
   refine qe A 3 rfl rfl rfl rfl hP (V.partD (cn (cc (cc .slnil))) 0 rfl (.refl _)) (fun w1 V => qy V ExI_is1_23 rfl 1 rfl rfl) λa A↦?_
   refine qe (v := .pointer (some ⟨g4, 1, none⟩)) A 4 rfl rfl rfl rfl hP (V.partD (cn (cc (cc .slnil))) 0 rfl (.refl _)) (fun w1 V => qb ExI_fld_120_1 rfl rfl) λa A↦?_
   refine qe A 5 rfl rfl rfl rfl hP (V.partD (cn (cc (cc .slnil))) 0 rfl (.refl _)) (fun w1 V => qy V ExI_is1_23 rfl 0 rfl rfl) λa A↦?_
   refine qi (by kernel_rfl) (za A 6 rfl rfl rfl rfl (qj  rfl rfl (fun w => by kernel_rfl)) (difference_any _ _ (V.rd 0 rfl) (V.rd 1 rfl) (by omega) (by omega)) ?_)
   rintro _ w35 ⟨ro31, rc32, rfl, ho33, hb34⟩
   replace V := V.call hb34
   replace V := V.addR ho33.rd
   refine ⟨_, rfl, (V.partD (cn (cc (cc .slnil))) 1 rfl (.refl _)), ?_⟩
   intro a A
   refine qi (by kernel_rfl) (za A 7 rfl rfl rfl rfl (qj  rfl rfl (fun w => by kernel_rfl)) (xi (b := rb y) (n := y.natAbs - x.natAbs) (z := x + y) ⟨(V.rd 0 rfl), ho33.nocap, ho33.caps⟩ (by rw [Int.add_comm]; exact zif (by rw [Bool.beq_comm]; exact hb10) (by omega))) ?_)
   rintro _ w40 ⟨zo36, zc37, rfl, hs38, hb39⟩
   replace V := V.call hb39
   replace V := V.addR hs38.rd
   refine ⟨_, rfl, (V.partD (cn (cc (cc .slnil))) 2 rfl (.refl _)), ?_⟩
   intro a A
   refine qi (by kernel_rfl) (zr (us := [.bool ((rb (x + y))), .slice zo36 ((words (x + y).natAbs).length) zc37]) A V 8 rfl rfl rfl (qw rfl rfl rfl (by kernel_rfl) V 0 rfl rfl rfl) 0 rfl rfl rfl rfl ?_)
   intro w41 V
   refine ⟨(V.partD (cn (cc (cc .slnil))) 2 rfl (.refl _)), ?_⟩
   refine zb (by kernel_rfl) ?_
   refine hK30 _ _ (wp_ret (hret _ _ (en1 A rfl (xj V ExI_isS_120 rfl 0 rfl (cs := [.bool ((rb (x + y))), .slice zo36 ((words (x + y).natAbs).length) zc37]) rfl rfl) ?_)))
   exact ⟨_, _, rfl, ⟨(V.rd 0 rfl), hs38.nil, hs38.cap⟩, V.bel⟩
  ·
   have hb25' := of_decide_eq_false hb25
   refine sct A (ef rfl rfl) (order_any _ _ (V.rd 1 rfl) (V.rd 0 rfl) (by omega) (by omega)) ?_
   rintro _ w43 ⟨rfl, hb42⟩
   replace V := V.call hb42
   refine ⟨_, rfl, ?_⟩
   intro a A
   refine sdo (v := .bool false) A (qf rfl rfl (fun w => (qz w).trans (by rw [show (decide (cmpN x.natAbs y.natAbs < 0)) = false from (by have h9 := of_decide_eq_false hb25; apply decide_eq_false; unfold cmpN; split <;> (try split) <;> omega)]))) λa A↦?_
   refine qa (hK24 _ _ (wp_cond_false (A.ev rfl) ?_))
   refine wp_skip (hK23 _ _ (wsk fun K44 hK44 => jc (S := fun w1 => St w w1 [(g4, [.bool ((rb y)), .slice uo ((words y.natAbs).length) uoc]), (g2, [.bool ((rb x)), .slice so ((words x.natAbs).length) soc])] [(uo, words y.natAbs), (so, words x.natAbs)] []) (by kernel_rfl) ?_))
   replace V := V.drew
   refine qe (v := .pointer (some ⟨g2, 0, none⟩)) A 0 rfl rfl rfl rfl hP (V.partD (cn (cc (cc .slnil))) 0 rfl (.refl _)) (fun w1 V => qb ExI_fld_120_0 rfl rfl) λa A↦?_
   refine qe A 1 rfl rfl rfl rfl hP (V.partD (cn (cc (cc .slnil))) 0 rfl (.refl _)) (fun w1 V => qy V ExI_is1_4 rfl 1 rfl rfl) λa A↦?_
   refine qe (v := .pointer (some ⟨g2, 1, none⟩)) A 2 rfl rfl rfl rfl hP (V.partD (cn (cc (cc .slnil))) 0 rfl (.refl _)) (fun w1 V => qb ExI_fld_120_1 rfl rfl) λa A↦?_
   refine qe A 3 rfl rfl rfl rfl hP (V.partD (cn (cc (cc .slnil))) 0 rfl (.refl _)) (fun w1 V => qy V ExI_is1_23 rfl 1 rfl rfl) λa A↦?_
   refine qe (v := .pointer (some ⟨g4, 1, none⟩)) A 4 rfl rfl rfl rfl hP (V.partD (cn (cc (cc .slnil))) 0 rfl (.refl _)) (fun w1 V => qb ExI_fld_120_1 rfl rfl) λa A↦?_
   refine qe A 5 rfl rfl rfl rfl hP (V.partD (cn (cc (cc .slnil))) 0 rfl (.refl _)) (fun w1 V => qy V ExI_is1_23 rfl 0 rfl rfl) λa A↦?_
   refine qi (by kernel_rfl) (za A 6 rfl rfl rfl rfl (qj  rfl rfl (fun w => by kernel_rfl)) (difference_any _ _ (V.rd 1 rfl) (V.rd 0 rfl) (by omega) (by omega)) ?_)
   rintro _ w49 ⟨ro45, rc46, rfl, ho47, hb48⟩
   replace V := V.call hb48
   replace V := V.addR ho47.rd
   refine ⟨_, rfl, (V.partD (cn (cc (cc .slnil))) 1 rfl (.refl _)), ?_⟩
   intro a A
   refine qi (by kernel_rfl) (za A 7 rfl rfl rfl rfl (qj  rfl rfl (fun w => by kernel_rfl)) (xi (b := rb x) (n := x.natAbs - y.natAbs) (z := x + y) ⟨(V.rd 0 rfl), ho47.nocap, ho47.caps⟩ (zif hb10 (by omega))) ?_)
   rintro _ w54 ⟨zo50, zc51, rfl, hs52, hb53⟩
   replace V := V.call hb53
   replace V := V.addR hs52.rd
   refine ⟨_, rfl, (V.partD (cn (cc (cc .slnil))) 2 rfl (.refl _)), ?_⟩
   intro a A
   refine qi (by kernel_rfl) (zr (us := [.bool ((rb (x + y))), .slice zo50 ((words (x + y).natAbs).length) zc51]) A V 8 rfl rfl rfl (qw rfl rfl rfl (by kernel_rfl) V 0 rfl rfl rfl) 0 rfl rfl rfl rfl ?_)
   intro w55 V
   refine ⟨(V.partD (cn (cc (cc .slnil))) 2 rfl (.refl _)), ?_⟩
   refine zb (by kernel_rfl) ?_
   refine hK44 _ _ (wp_ret (hret _ _ (en1 A rfl (xj V ExI_isS_120 rfl 0 rfl (cs := [.bool ((rb (x + y))), .slice zo50 ((words (x + y).natAbs).length) zc51]) rfl rfl) ?_)))
   exact ⟨_, _, rfl, ⟨(V.rd 0 rfl), hs52.nil, hs52.cap⟩, V.bel⟩
theorem yn {w : World} {x : Int} {n : Nat} {so : Option Addr} {soc : Nat} (hso : Sc w so soc (words x.natAbs)) {uo : Option Addr} {uoc : Nat} (huo : Sc w uo uoc (words n)) (lx : (words x.natAbs).length ≤ 50000) (ly : (words n).length ≤ 50000) : Calls Tryz.prog 124 #[.agg #[.bool (rb x), .slice so (words x.natAbs).length soc], .slice uo (words n).length uoc] w (AnsZ w (x * (n : Int))) := by
 have V : St w w [] [(uo, words n), (so, words x.natAbs)] [] := ((St.start w).addR hso.rd).addR huo.rd
 refine qm (l := [(0, .agg #[.bool ((rb x)), .slice so ((words x.natAbs).length) soc]), (1, .slice uo ((words n).length) uoc)]) Tryz.func124 rfl Tryz.ntmps124 rfl rfl ?_
 intro Q hret hnorm hP a A
 refine wsk fun K1 hK1 => wrl (zt A V rfl rfl rfl pg (qs rfl rfl) rfl ?_)
 intro g2 w3 V a A
 refine zt (vs := [.bool false, .slice none 0 0]) (t := 120) A V rfl rfl rfl pg (qk (z := .agg #[.bool false, .slice none 0 0]) (by kernel_rfl) rfl) rfl ?_
 intro g4 w5 V a A
 refine qa (hK1 _ _ (wsk fun K6 hK6 => jc (S := fun w1 => St w w1 [(g2, [.bool ((rb x)), .slice so ((words x.natAbs).length) soc])] [(uo, words n), (so, words x.natAbs)] []) (by kernel_rfl) ?_))
 replace V := V.drew
 refine qe A 0 rfl rfl rfl rfl hP (V.partD (cn (cc .slnil)) 0 rfl (.refl _)) (fun w1 V => zi V ExI_isS_120 rfl 0 rfl (cs := [.bool ((rb x)), .slice so ((words x.natAbs).length) soc]) rfl rfl) λa A↦?_
 refine qe A 1 rfl rfl rfl rfl hP (V.partD (cn (cc .slnil)) 0 rfl (.refl _)) (fun w1 V => qg rfl) λa A↦?_
 refine qi (by kernel_rfl) (za A 2 rfl rfl rfl rfl (qj  rfl rfl (fun w => by kernel_rfl)) (xi (b := false) (n := n) (z := ((n : Nat) : Int)) ⟨(V.rd 0 rfl), huo.nil, huo.cap⟩ rfl) ?_)
 rintro _ w11 ⟨zo7, zc8, rfl, hs9, hb10⟩
 replace V := V.call hb10
 replace V := V.addR hs9.rd
 refine ⟨_, rfl, (V.partD (cn (cc .slnil)) 1 rfl (.refl _)), ?_⟩
 intro a A
 refine qi (by kernel_rfl) (za A 3 rfl rfl rfl rfl (qj  rfl rfl (fun w => by kernel_rfl)) (qzi ⟨(V.rd 2 rfl), hso.nil, hso.cap⟩ ⟨(V.rd 0 rfl), hs9.nil, hs9.cap⟩ lx (by rw [Int.natAbs_natCast]; exact ly)) ?_)
 rintro _ w16 ⟨zo12, zc13, rfl, hs14, hb15⟩
 replace V := V.call hb15
 replace V := V.addR hs14.rd
 refine ⟨_, rfl, (V.partD (cn (cc .slnil)) 2 rfl (.refl _)), ?_⟩
 intro a A
 refine qi (by kernel_rfl) (zr (us := [.bool ((rb (x * ((n : Nat) : Int)))), .slice zo12 ((words (x * ((n : Nat) : Int)).natAbs).length) zc13]) A V 4 rfl rfl rfl (qw rfl rfl rfl (by kernel_rfl) V 0 rfl rfl rfl) 0 rfl rfl rfl rfl ?_)
 intro w17 V
 refine ⟨(V.partD (cn (cc .slnil)) 2 rfl (.refl _)), ?_⟩
 refine zb (by kernel_rfl) ?_
 refine hK6 _ _ (wp_ret (hret _ _ (en1 A rfl (xj V ExI_isS_120 rfl 0 rfl (cs := [.bool ((rb (x * ((n : Nat) : Int)))), .slice zo12 ((words (x * ((n : Nat) : Int)).natAbs).length) zc13]) rfl rfl) ?_)))
 exact ⟨_, _, rfl, ⟨(V.rd 0 rfl), hs14.nil, hs14.cap⟩, V.bel⟩

theorem ExK_is1_23 : Is1 Tryz.prog 23 := ⟨⟨_, Tryz.underlying23, rfl⟩, by kernel_rfl⟩
theorem ExK_is1_4 : Is1 Tryz.prog 4 := ⟨⟨_, Tryz.underlying4, rfl⟩, by kernel_rfl⟩
theorem ExK_fld_25_0 : FieldAt Tryz.prog 25 0 0 := ⟨_, _, Tryz.underlying25, rfl, rfl, by kernel_rfl⟩
theorem ExK_fld_25_1 : FieldAt Tryz.prog 25 1 1 := ⟨_, _, Tryz.underlying25, rfl, rfl, by kernel_rfl⟩
theorem ExK_fld_25_2 : FieldAt Tryz.prog 25 2 2 := ⟨_, _, Tryz.underlying25, rfl, rfl, by kernel_rfl⟩
theorem ExK_fld_27_0 : FieldAt Tryz.prog 27 0 0 := ⟨_, _, Tryz.underlying27, rfl, rfl, by kernel_rfl⟩
theorem ExK_fld_27_1 : FieldAt Tryz.prog 27 1 3 := ⟨_, _, Tryz.underlying27, rfl, rfl, by kernel_rfl⟩
theorem ExK_isS_122 : IsS Tryz.prog 122 5 := ⟨⟨_, Tryz.underlying122⟩, by kernel_rfl⟩
theorem je {w : World} {u v : Rat} {a1 a2 a3 a4 : Option Addr} {ac1 ac2 ac3 ac4 : Nat} (ha : Nm w (Q6.rat u v) a1 ac1 a2 ac2 a3 ac3 a4 ac4) (hu : xg u) (hv : xg v) : Calls Tryz.prog 123 #[qce (Q6.rat u v) a1 ac1 a2 ac2 a3 ac3 a4 ac4] w (AnsR w (spX u v) (spY u v) (spD u v)) := by
 have k1 : (words u.num.natAbs).length ≤ 512 := hu.1
 have k2 : (words u.den).length ≤ 512 := hu.2
 have k3 : (words v.num.natAbs).length ≤ 512 := hv.1
 have k4 : (words v.den).length ≤ 512 := hv.2
 have k5 : (words (v.den / spG u v)).length ≤ 512 := qhi hv.2
 have k6 : (words (u.den / spG u v)).length ≤ 512 := qhi hu.2
 have k7 : (words (spG u v)).length ≤ 512 := qpd v.den_nz hv.2
 have V : St w w [] [(a4, words v.den), (a3, words v.num.natAbs), (a2, words u.den), (a1, words u.num.natAbs)] [] := ((((St.start w).addR ha.s1.rd).addR ha.s2.rd).addR ha.s3.rd).addR ha.s4.rd
 refine qm (l := [(0, .agg #[.bool (rb u.num), .slice a1 ((words u.num.natAbs).length) ac1, .slice a2 ((words u.den).length) ac2, .bool (rb v.num), .slice a3 ((words v.num.natAbs).length) ac3, .slice a4 ((words v.den).length) ac4])]) Tryz.func123 rfl Tryz.ntmps123 rfl rfl ?_
 intro Q hret hnorm hP a A
 refine wsk fun K1 hK1 => wrl (zt A V rfl rfl rfl pg (qs rfl rfl) rfl ?_)
 intro g2 w3 V a A
 refine zt (vs := [.bool false, .slice none 0 0, .bool false, .slice none 0 0, .slice none 0 0]) (t := 122) A V rfl rfl rfl pg (qk (z := .agg #[.bool false, .slice none 0 0, .bool false, .slice none 0 0, .slice none 0 0]) (by kernel_rfl) rfl) rfl ?_
 intro g4 w5 V a A
 refine qa (hK1 _ _ (wsk fun K6 hK6 => wrl (sdo (v := .pointer (some ⟨g2, 0, none⟩)) A (qb ExK_fld_27_0 rfl rfl) λa A↦?_)))
 refine sdo (v := .pointer (some ⟨g2, 2, none⟩)) A (qb ExK_fld_25_2 rfl rfl) λa A↦?_
 refine sdo A (qy V ExK_is1_23 rfl 1 rfl rfl) λa A↦?_
 refine sdo (v := .pointer (some ⟨g2, 3, none⟩)) A (qb ExK_fld_27_1 rfl rfl) λa A↦?_
 refine sdo (v := .pointer (some ⟨g2, 5, none⟩)) A (qb ExK_fld_25_2 rfl rfl) λa A↦?_
 refine sdo A (qy V ExK_is1_23 rfl 1 rfl rfl) λa A↦?_
 refine sct A (ef rfl rfl) (qgf _ _ (V.rd 2 rfl) (V.rd 0 rfl) (by omega) (by omega) ha.s2.nil ha.s4.nil) ?_
 rintro _ w11 ⟨ro7, rc8, rfl, ho9, hb10⟩
 replace V := V.call hb10
 replace V := V.addR ho9.rd
 refine ⟨_, rfl, ?_⟩
 intro a A
 refine sda A λa A↦?_
 refine qa (hK6 _ _ (wsk fun K12 hK12 => wrl (sdo (v := .pointer (some ⟨g2, 3, none⟩)) A (qb ExK_fld_27_1 rfl rfl) λa A↦?_)))
 refine sdo (v := .pointer (some ⟨g2, 5, none⟩)) A (qb ExK_fld_25_2 rfl rfl) λa A↦?_
 refine sdo A (qy V ExK_is1_23 rfl 1 rfl rfl) λa A↦?_
 refine sdm A λa A↦?_
 refine sct A (ef rfl rfl) (divide_any _ _ (V.rd 1 rfl) (V.rd 0 rfl) (by omega) (Nat.le_trans (qpd v.den_nz hv.2) (by decide)) ha.s4.nil (Nat.ne_of_gt (qhj u v))) ?_
 rintro _ w20 ⟨ro13, rc14, uo15, uc16, rfl, ho17, hp18, hb19⟩
 replace V := V.call hb19
 replace V := V.addR ho17.rd
 replace V := V.addR hp18.rd
 refine ⟨_, rfl, ?_⟩
 intro a A
 refine sdm A λa A↦?_
 iterate 2 refine sdo A (zj (vs := [.slice ro13 ((words (v.den / spG u v)).length) rc14, .slice uo15 ((words (v.den % spG u v)).length) uc16]) rfl rfl) λa A↦?_
 iterate 2 refine sda A λa A↦?_
 refine qa (hK12 _ _ (wsk fun K21 hK21 => wrl (sdo (v := .pointer (some ⟨g2, 0, none⟩)) A (qb ExK_fld_27_0 rfl rfl) λa A↦?_)))
 refine sdo (v := .pointer (some ⟨g2, 2, none⟩)) A (qb ExK_fld_25_2 rfl rfl) λa A↦?_
 refine sdo A (qy V ExK_is1_23 rfl 1 rfl rfl) λa A↦?_
 refine sdm A λa A↦?_
 refine sct A (ef rfl rfl) (divide_any _ _ (V.rd 5 rfl) (V.rd 2 rfl) (by omega) (Nat.le_trans (qpd v.den_nz hv.2) (by decide)) ha.s2.nil (Nat.ne_of_gt (qhj u v))) ?_
 rintro _ w29 ⟨ro22, rc23, uo24, uc25, rfl, ho26, hp27, hb28⟩
 replace V := V.call hb28
 replace V := V.addR ho26.rd
 replace V := V.addR hp27.rd
 refine ⟨_, rfl, ?_⟩
 intro a A
 refine sdm A λa A↦?_
 iterate 2 refine sdo A (zj (vs := [.slice ro22 ((words (u.den / spG u v)).length) rc23, .slice uo24 ((words (u.den % spG u v)).length) uc25]) rfl rfl) λa A↦?_
 iterate 2 refine sda A λa A↦?_
 refine qa (hK21 _ _ (wsk fun K30 hK30 => jc (S := fun w1 => St w w1 [(g2, [.bool (rb u.num), .slice a1 ((words u.num.natAbs).length) ac1, .slice a2 ((words u.den).length) ac2, .bool (rb v.num), .slice a3 ((words v.num.natAbs).length) ac3, .slice a4 ((words v.den).length) ac4])] [(uo24, words (u.den % spG u v)), (ro22, words (u.den / spG u v)), (uo15, words (v.den % spG u v)), (ro13, words (v.den / spG u v)), (ro7, words (spG u v)), (a4, words v.den), (a3, words v.num.natAbs), (a2, words u.den), (a1, words u.num.natAbs)] []) (by kernel_rfl) ?_))
 replace V := V.drew
 refine qe (v := .pointer (some ⟨g2, 0, none⟩)) A 0 rfl rfl rfl rfl hP (V.partD (cn (cc .slnil)) 0 rfl (.refl _)) (fun w1 V => qb ExK_fld_27_0 rfl rfl) λa A↦?_
 refine qe (v := .pointer (some ⟨g2, 0, none⟩)) A 1 rfl rfl rfl rfl hP (V.partD (cn (cc .slnil)) 0 rfl (.refl _)) (fun w1 V => qb ExK_fld_25_0 rfl rfl) λa A↦?_
 refine qe A 2 rfl rfl rfl rfl hP (V.partD (cn (cc .slnil)) 0 rfl (.refl _)) (fun w1 V => qy V ExK_is1_4 rfl 0 rfl rfl) λa A↦?_
 refine qe (v := .pointer (some ⟨g2, 0, none⟩)) A 3 rfl rfl rfl rfl hP (V.partD (cn (cc .slnil)) 0 rfl (.refl _)) (fun w1 V => qb ExK_fld_27_0 rfl rfl) λa A↦?_
 refine qe (v := .pointer (some ⟨g2, 1, none⟩)) A 4 rfl rfl rfl rfl hP (V.partD (cn (cc .slnil)) 0 rfl (.refl _)) (fun w1 V => qb ExK_fld_25_1 rfl rfl) λa A↦?_
 refine qe A 5 rfl rfl rfl rfl hP (V.partD (cn (cc .slnil)) 0 rfl (.refl _)) (fun w1 V => qy V ExK_is1_23 rfl 0 rfl rfl) λa A↦?_
 refine qe A 7 rfl rfl rfl rfl hP (V.partD (cn (cc .slnil)) 0 rfl (.refl _)) (fun w1 V => qg rfl) λa A↦?_
 refine qe (v := .pointer (some ⟨g2, 3, none⟩)) A 9 rfl rfl rfl rfl hP (V.partD (cn (cc .slnil)) 0 rfl (.refl _)) (fun w1 V => qb ExK_fld_27_1 rfl rfl) λa A↦?_
 refine qe (v := .pointer (some ⟨g2, 3, none⟩)) A 10 rfl rfl rfl rfl hP (V.partD (cn (cc .slnil)) 0 rfl (.refl _)) (fun w1 V => qb ExK_fld_25_0 rfl rfl) λa A↦?_
 refine qe A 11 rfl rfl rfl rfl hP (V.partD (cn (cc .slnil)) 0 rfl (.refl _)) (fun w1 V => qy V ExK_is1_4 rfl 0 rfl rfl) λa A↦?_
 refine qe (v := .pointer (some ⟨g2, 3, none⟩)) A 12 rfl rfl rfl rfl hP (V.partD (cn (cc .slnil)) 0 rfl (.refl _)) (fun w1 V => qb ExK_fld_27_1 rfl rfl) λa A↦?_
 refine qe (v := .pointer (some ⟨g2, 4, none⟩)) A 13 rfl rfl rfl rfl hP (V.partD (cn (cc .slnil)) 0 rfl (.refl _)) (fun w1 V => qb ExK_fld_25_1 rfl rfl) λa A↦?_
 refine qe A 14 rfl rfl rfl rfl hP (V.partD (cn (cc .slnil)) 0 rfl (.refl _)) (fun w1 V => qy V ExK_is1_23 rfl 0 rfl rfl) λa A↦?_
 refine qe A 16 rfl rfl rfl rfl hP (V.partD (cn (cc .slnil)) 0 rfl (.refl _)) (fun w1 V => qg rfl) λa A↦?_
 refine qe (v := .pointer (some ⟨g2, 0, none⟩)) A 18 rfl rfl rfl rfl hP (V.partD (cn (cc .slnil)) 0 rfl (.refl _)) (fun w1 V => qb ExK_fld_27_0 rfl rfl) λa A↦?_
 refine qe (v := .pointer (some ⟨g2, 2, none⟩)) A 19 rfl rfl rfl rfl hP (V.partD (cn (cc .slnil)) 0 rfl (.refl _)) (fun w1 V => qb ExK_fld_25_2 rfl rfl) λa A↦?_
 refine qe A 20 rfl rfl rfl rfl hP (V.partD (cn (cc .slnil)) 0 rfl (.refl _)) (fun w1 V => qy V ExK_is1_23 rfl 0 rfl rfl) λa A↦?_
 refine qe A 21 rfl rfl rfl rfl hP (V.partD (cn (cc .slnil)) 0 rfl (.refl _)) (fun w1 V => qg rfl) λa A↦?_
 refine qi (by kernel_rfl) (za A 6 rfl rfl rfl rfl (qj  rfl rfl (fun w => by kernel_rfl)) (xi (b := rb u.num) (n := u.num.natAbs) (z := u.num) ⟨(V.rd 8 rfl), ha.s1.nil, ha.s1.cap⟩ (qcf u.num)) ?_)
 rintro _ w35 ⟨zo31, zc32, rfl, hs33, hb34⟩
 replace V := V.call hb34
 replace V := V.addR hs33.rd
 refine ⟨_, rfl, (V.partD (cn (cc .slnil)) 1 rfl (.refl _)), ?_⟩
 intro a A
 refine qi (by kernel_rfl) (za A 8 rfl rfl rfl rfl (qj  rfl rfl (fun w => by kernel_rfl)) (yn ⟨(V.rd 0 rfl), hs33.nil, hs33.cap⟩ ⟨(V.rd 4 rfl), ho17.nocap, ho17.caps⟩ (by omega) (by omega)) ?_)
 rintro _ w40 ⟨zo36, zc37, rfl, hs38, hb39⟩
 replace V := V.call hb39
 replace V := V.addR hs38.rd
 refine ⟨_, rfl, (V.partD (cn (cc .slnil)) 2 rfl (.refl _)), ?_⟩
 intro a A
 refine qi (by kernel_rfl) (za A 15 rfl rfl rfl rfl (qj  rfl rfl (fun w => by kernel_rfl)) (xi (b := rb v.num) (n := v.num.natAbs) (z := v.num) ⟨(V.rd 8 rfl), ha.s3.nil, ha.s3.cap⟩ (qcf v.num)) ?_)
 rintro _ w45 ⟨zo41, zc42, rfl, hs43, hb44⟩
 replace V := V.call hb44
 replace V := V.addR hs43.rd
 refine ⟨_, rfl, (V.partD (cn (cc .slnil)) 3 rfl (.refl _)), ?_⟩
 intro a A
 refine qi (by kernel_rfl) (za A 17 rfl rfl rfl rfl (qj  rfl rfl (fun w => by kernel_rfl)) (yn ⟨(V.rd 0 rfl), hs43.nil, hs43.cap⟩ ⟨(V.rd 4 rfl), ho26.nocap, ho26.caps⟩ (by omega) (by omega)) ?_)
 rintro _ w50 ⟨zo46, zc47, rfl, hs48, hb49⟩
 replace V := V.call hb49
 replace V := V.addR hs48.rd
 refine ⟨_, rfl, (V.partD (cn (cc .slnil)) 4 rfl (.refl _)), ?_⟩
 intro a A
 refine qi (by kernel_rfl) (za A 22 rfl rfl rfl rfl (qj  rfl rfl (fun w => by kernel_rfl)) (product_any _ _ (V.rd 11 rfl) (V.rd 7 rfl) (by omega) (by omega)) ?_)
 rintro _ w55 ⟨ro51, rc52, rfl, ho53, hb54⟩
 replace V := V.call hb54
 replace V := V.addR ho53.rd
 refine ⟨_, rfl, (V.partD (cn (cc .slnil)) 5 rfl (.refl _)), ?_⟩
 intro a A
 refine qe (v := .agg #[.bool ((rb (u.num * ((v.den / spG u v : Nat) : Int)))), .slice zo36 ((words (u.num * ((v.den / spG u v : Nat) : Int)).natAbs).length) zc37, .bool ((rb (v.num * ((u.den / spG u v : Nat) : Int)))), .slice zo46 ((words (v.num * ((u.den / spG u v : Nat) : Int)).natAbs).length) zc47, .slice ro51 ((words (u.den * (v.den / spG u v))).length) rc52]) A 23 rfl rfl rfl rfl hP (V.partD (cn (cc .slnil)) 5 rfl (.refl _)) (fun w1 V => zv rfl (fun w => by kernel_rfl)) λa A↦?_
 refine qi (by kernel_rfl) (zr (us := [.bool ((rb (u.num * ((v.den / spG u v : Nat) : Int)))), .slice zo36 ((words (u.num * ((v.den / spG u v : Nat) : Int)).natAbs).length) zc37, .bool ((rb (v.num * ((u.den / spG u v : Nat) : Int)))), .slice zo46 ((words (v.num * ((u.den / spG u v : Nat) : Int)).natAbs).length) zc47, .slice ro51 ((words (u.den * (v.den / spG u v))).length) rc52]) A V 24 rfl rfl rfl (qw rfl rfl rfl (by kernel_rfl) V 0 rfl rfl rfl) 0 rfl rfl rfl rfl ?_)
 intro w56 V
 refine ⟨(V.partD (cn (cc .slnil)) 5 rfl (.refl _)), ?_⟩
 refine zb (by kernel_rfl) ?_
 refine hK30 _ _ (wp_ret (hret _ _ (en1 A rfl (xj V ExK_isS_122 rfl 0 rfl (cs := [.bool ((rb (u.num * ((v.den / spG u v : Nat) : Int)))), .slice zo36 ((words (u.num * ((v.den / spG u v : Nat) : Int)).natAbs).length) zc37, .bool ((rb (v.num * ((u.den / spG u v : Nat) : Int)))), .slice zo46 ((words (v.num * ((u.den / spG u v : Nat) : Int)).natAbs).length) zc47, .slice ro51 ((words (u.den * (v.den / spG u v))).length) rc52]) rfl rfl) ?_)))
 exact ⟨zo36, zc37, zo46, zc47, ro51, rc52, rfl, ⟨(V.rd 3 rfl), hs38.nil, hs38.cap⟩, ⟨(V.rd 1 rfl), hs48.nil, hs48.cap⟩, ⟨(V.rd 0 rfl), ho53.nocap, ho53.caps⟩, V.bel⟩



theorem ExO_is1_23 : Is1 Tryz.prog 23 := ⟨⟨_, Tryz.underlying23, rfl⟩, by kernel_rfl⟩
theorem ExO_is1_4 : Is1 Tryz.prog 4 := ⟨⟨_, Tryz.underlying4, rfl⟩, by kernel_rfl⟩
theorem ExO_fld_120_0 : FieldAt Tryz.prog 120 0 0 := ⟨_, _, Tryz.underlying120, rfl, rfl, by kernel_rfl⟩
theorem ExO_fld_120_1 : FieldAt Tryz.prog 120 1 1 := ⟨_, _, Tryz.underlying120, rfl, rfl, by kernel_rfl⟩
theorem ExO_isS_120 : IsS Tryz.prog 120 2 := ⟨⟨_, Tryz.underlying120⟩, by kernel_rfl⟩
theorem ExO_isS_27 : IsS Tryz.prog 27 6 := ⟨⟨_, Tryz.underlying27⟩, by kernel_rfl⟩
theorem qzj {w : World} {x y : Int} {so : Option Addr} {soc : Nat} (hso : Sc w so soc (words x.natAbs)) {uo : Option Addr} {uoc : Nat} (huo : Sc w uo uoc (words y.natAbs)) (lx : (words x.natAbs).length ≤ 49000) (ly : (words y.natAbs).length ≤ 49000) : Calls Tryz.prog 125 #[.agg #[.bool (rb x), .slice so (words x.natAbs).length soc], .agg #[.bool (rb y), .slice uo (words y.natAbs).length uoc]] w fun e w' => e = .returned (.int .i64 (qpe x y)) ∧ Below w.heap.size w w' := by
 have k1 : (words (-y).natAbs).length ≤ 49000 := by rw [Int.natAbs_neg]; exact ly
 have k2 := qsf lx k1
 have V : St w w [] [(uo, words y.natAbs), (so, words x.natAbs)] [] := ((St.start w).addR hso.rd).addR huo.rd
 refine qm (l := [(0, .agg #[.bool ((rb x)), .slice so ((words x.natAbs).length) soc]), (1, .agg #[.bool ((rb y)), .slice uo ((words y.natAbs).length) uoc])]) Tryz.func125 rfl Tryz.ntmps125 rfl rfl ?_
 intro Q hret hnorm hP a A
 refine wsk fun K1 hK1 => wrl (zt A V rfl rfl rfl pg (qs rfl rfl) rfl ?_)
 intro g2 w3 V a A
 refine zt A V rfl rfl rfl pg (qs rfl rfl) rfl ?_
 intro g4 w5 V a A
 refine sda A λa A↦?_
 refine qa (hK1 _ _ (wsk fun K6 hK6 => wsk fun K7 hK7 => ?_))
 have hJ26 : ∀ a w1, (∃ (J21g : Nat) (J22 : Option Addr) (J23 : Nat), Sl a 18 [(0, .agg #[.bool ((rb x)), .slice so ((words x.natAbs).length) soc]), (1, .agg #[.bool ((rb y)), .slice uo ((words y.natAbs).length) uoc]), (4, .int .i64 0), (5, .pointer (some ⟨J21g, 0, none⟩))] ∧ St w w1 [(J21g, [.bool ((rb (x + (-y)))), .slice J22 ((words (x + (-y)).natAbs).length) J23]), (g4, [.bool ((rb y)), .slice uo ((words y.natAbs).length) uoc]), (g2, [.bool ((rb x)), .slice so ((words x.natAbs).length) soc])] [(J22, words (x + (-y)).natAbs), (uo, words y.natAbs), (so, words x.natAbs)] [] ∧ (J22 = none → J23 = 0) ∧ (words (x + (-y)).natAbs : List Nat).length ≤ J23) → K7 a w1 := by
  clear A V
  rintro a w27 ⟨J21g, J22, J23, A, V, hn24, hc25⟩
  refine hK7 _ _ (wp_block (wsk fun K28 hK28 => wrl (sdo (v := .pointer (some ⟨J21g, 0, none⟩)) A (qb ExO_fld_120_0 rfl rfl) λa A↦?_)))
  refine sdo A (qy V ExO_is1_4 rfl 0 rfl rfl) λa A↦?_
  refine sda A λa A↦?_
  refine qa (hK28 _ _ ?_)
  refine wp_cond_split (t := (rb (x + (-y)))) (A.ev rfl) (fun hc29 => ?_) (fun hc29 => ?_)
  ·
   refine wsk fun K30 hK30 => wrl (sda A λa A↦?_)
   refine qa (hK30 _ _ (wp_ret (hret _ _ (en1 A rfl (qh rfl) ?_))))
   exact ⟨by rw [show qpe x y = -1 from by have h8 := of_decide_eq_true (show decide (x + -y < 0) = true from hc29); have h9 := vb (x + -y).natAbs; unfold qpe; split <;> (try split) <;> omega], V.bel⟩
  ·
   refine wsk fun K31 hK31 => wrl (sdo (v := .pointer (some ⟨J21g, 1, none⟩)) A (qb ExO_fld_120_1 rfl rfl) λa A↦?_)
   refine sdo A (qy V ExO_is1_23 rfl 0 rfl rfl) λa A↦?_
   refine sdo A (zf Tryz.underlying23 rfl) λa A↦?_
   rcases tf (((((words (x + (-y)).natAbs).length : Nat) : Int) == 0)) with hb32 | hb32
   ·
    have hb32' := eq_of_beq hb32
    refine sdc A qp hb32 λa A↦?_
    refine sda A λa A↦?_
    refine qa (hK31 _ _ (wp_cond_true (A.ev rfl) ?_))
    refine wsk fun K33 hK33 => wrl (sda A λa A↦?_)
    refine qa (hK33 _ _ (wp_ret (hret _ _ (en1 A rfl (qh rfl) ?_))))
    exact ⟨by rw [show qpe x y = 0 from by have h8 := of_decide_eq_false (show decide (x + -y < 0) = false from hc29); have h9 := vb (x + -y).natAbs; unfold qpe; split <;> (try split) <;> omega], V.bel⟩
   ·
    have hb32' := ne_of_beq_false hb32
    refine sdc A qp hb32 λa A↦?_
    refine sda A λa A↦?_
    refine qa (hK31 _ _ (wp_cond_false (A.ev rfl) ?_))
    refine wp_skip (hK6 _ _ (wsk fun K34 hK34 => wrl (sda A λa A↦?_)))
    refine qa (hK34 _ _ (wp_ret (hret _ _ (en1 A rfl (qh rfl) ?_))))
    exact ⟨by rw [show qpe x y = 1 from by have h8 := of_decide_eq_false (show decide (x + -y < 0) = false from hc29); have h9 := vb (x + -y).natAbs; unfold qpe; split <;> (try split) <;> omega], V.bel⟩
 refine jc (S := fun w1 => St w w1 [(g4, [.bool ((rb y)), .slice uo ((words y.natAbs).length) uoc]), (g2, [.bool ((rb x)), .slice so ((words x.natAbs).length) soc])] [(uo, words y.natAbs), (so, words x.natAbs)] []) (by kernel_rfl) ?_
 replace V := V.drew
 refine qe A 0 rfl rfl rfl rfl hP V (fun w1 V => zi V ExO_isS_120 rfl 1 rfl (cs := [.bool ((rb x)), .slice so ((words x.natAbs).length) soc]) rfl rfl) λa A↦?_
 refine qe A 1 rfl rfl rfl rfl hP V (fun w1 V => zi V ExO_isS_120 rfl 0 rfl (cs := [.bool ((rb y)), .slice uo ((words y.natAbs).length) uoc]) rfl rfl) λa A↦?_
 refine jl (rs := [2, 4]) (by kernel_rfl) (by simp) ⟨?_, ?_, trivial⟩
 ·
  refine za A 2 rfl rfl rfl rfl (qj  rfl rfl (fun w => by kernel_rfl)) (qvd ⟨(V.rd 0 rfl), huo.nil, huo.cap⟩) ?_
  rintro _ w39 ⟨zo35, zc36, rfl, hs37, hb38⟩
  replace V := V.call hb38
  replace V := V.addR hs37.rd
  refine ⟨_, rfl, (V.partD (.refl _) 1 rfl (.refl _)), ?_⟩
  intro a A
  refine jl (rs := [3, 4]) (by kernel_rfl) (by simp) ⟨?_, ?_, trivial⟩
  ·
   refine za A 3 rfl rfl rfl rfl (qj  rfl rfl (fun w => by kernel_rfl)) (qgc ⟨(V.rd 2 rfl), hso.nil, hso.cap⟩ ⟨(V.rd 0 rfl), hs37.nil, hs37.cap⟩ (by omega) (by omega)) ?_
   rintro _ w44 ⟨zo40, zc41, rfl, hs42, hb43⟩
   replace V := V.call hb43
   replace V := V.addR hs42.rd
   refine ⟨_, rfl, (V.partD (.refl _) 2 rfl (.refl _)), ?_⟩
   intro a A
   refine qi (by kernel_rfl) (jz (vs := [.bool false, .slice none 0 0]) (t := 120) A V 4 rfl rfl rfl rfl pg (qk (z := .agg #[.bool false, .slice none 0 0]) (by kernel_rfl) rfl) rfl ?_)
   intro g45 w46 V
   refine ⟨(V.partD (cn (cc (cc .slnil))) 2 rfl (.refl _)), ?_⟩
   intro a A
   refine qi (by kernel_rfl) (zr (us := [.bool ((rb (x + (-y)))), .slice zo40 ((words (x + (-y)).natAbs).length) zc41]) A V 5 rfl rfl rfl (qw rfl rfl rfl (by kernel_rfl) V 0 rfl rfl rfl) 0 rfl rfl rfl rfl ?_)
   intro w47 V
   refine ⟨(V.partD (cn (cc (cc .slnil))) 2 rfl (.refl _)), ?_⟩
   refine zb (by kernel_rfl) ?_
   refine hJ26 _ _ ⟨g45, zo40, zc41, A.keep _ ⟨rfl, rfl, rfl, rfl, trivial⟩, (St.pickRL V ⟨⟨0, rfl⟩, ⟨⟨2, rfl⟩, ⟨⟨3, rfl⟩, trivial⟩⟩⟩ [0, 1, 2] rfl (by decide)), hs42.nil, hs42.cap⟩
  ·
   refine jz (vs := [.bool false, .slice none 0 0]) (t := 120) A V 4 rfl rfl rfl rfl pg (qk (z := .agg #[.bool false, .slice none 0 0]) (by kernel_rfl) rfl) rfl ?_
   intro g48 w49 V
   refine ⟨(V.partD (cn (cc (cc .slnil))) 1 rfl (.refl _)), ?_⟩
   intro a A
   refine qi (by kernel_rfl) (za A 3 rfl rfl rfl rfl (qj  rfl rfl (fun w => by kernel_rfl)) (qgc ⟨(V.rd 2 rfl), hso.nil, hso.cap⟩ ⟨(V.rd 0 rfl), hs37.nil, hs37.cap⟩ (by omega) (by omega)) ?_)
   rintro _ w54 ⟨zo50, zc51, rfl, hs52, hb53⟩
   replace V := V.call hb53
   replace V := V.addR hs52.rd
   refine ⟨_, rfl, (V.partD (cn (cc (cc .slnil))) 2 rfl (.refl _)), ?_⟩
   intro a A
   refine qi (by kernel_rfl) (zr (us := [.bool ((rb (x + (-y)))), .slice zo50 ((words (x + (-y)).natAbs).length) zc51]) A V 5 rfl rfl rfl (qw rfl rfl rfl (by kernel_rfl) V 0 rfl rfl rfl) 0 rfl rfl rfl rfl ?_)
   intro w55 V
   refine ⟨(V.partD (cn (cc (cc .slnil))) 2 rfl (.refl _)), ?_⟩
   refine zb (by kernel_rfl) ?_
   refine hJ26 _ _ ⟨g48, zo50, zc51, A.keep _ ⟨rfl, rfl, rfl, rfl, trivial⟩, (St.pickRL V ⟨⟨0, rfl⟩, ⟨⟨2, rfl⟩, ⟨⟨3, rfl⟩, trivial⟩⟩⟩ [0, 1, 2] rfl (by decide)), hs52.nil, hs52.cap⟩
 ·
  refine jz (vs := [.bool false, .slice none 0 0]) (t := 120) A V 4 rfl rfl rfl rfl pg (qk (z := .agg #[.bool false, .slice none 0 0]) (by kernel_rfl) rfl) rfl ?_
  intro g56 w57 V
  refine ⟨(V.partD (cn (cc (cc .slnil))) 0 rfl (.refl _)), ?_⟩
  intro a A
  refine qi (by kernel_rfl) (za A 2 rfl rfl rfl rfl (qj  rfl rfl (fun w => by kernel_rfl)) (qvd ⟨(V.rd 0 rfl), huo.nil, huo.cap⟩) ?_)
  rintro _ w62 ⟨zo58, zc59, rfl, hs60, hb61⟩
  replace V := V.call hb61
  replace V := V.addR hs60.rd
  refine ⟨_, rfl, (V.partD (cn (cc (cc .slnil))) 1 rfl (.refl _)), ?_⟩
  intro a A
  refine qi (by kernel_rfl) (za A 3 rfl rfl rfl rfl (qj  rfl rfl (fun w => by kernel_rfl)) (qgc ⟨(V.rd 2 rfl), hso.nil, hso.cap⟩ ⟨(V.rd 0 rfl), hs60.nil, hs60.cap⟩ (by omega) (by omega)) ?_)
  rintro _ w67 ⟨zo63, zc64, rfl, hs65, hb66⟩
  replace V := V.call hb66
  replace V := V.addR hs65.rd
  refine ⟨_, rfl, (V.partD (cn (cc (cc .slnil))) 2 rfl (.refl _)), ?_⟩
  intro a A
  refine qi (by kernel_rfl) (zr (us := [.bool ((rb (x + (-y)))), .slice zo63 ((words (x + (-y)).natAbs).length) zc64]) A V 5 rfl rfl rfl (qw rfl rfl rfl (by kernel_rfl) V 0 rfl rfl rfl) 0 rfl rfl rfl rfl ?_)
  intro w68 V
  refine ⟨(V.partD (cn (cc (cc .slnil))) 2 rfl (.refl _)), ?_⟩
  refine zb (by kernel_rfl) ?_
  refine hJ26 _ _ ⟨g56, zo63, zc64, A.keep _ ⟨rfl, rfl, rfl, rfl, trivial⟩, (St.pickRL V ⟨⟨0, rfl⟩, ⟨⟨2, rfl⟩, ⟨⟨3, rfl⟩, trivial⟩⟩⟩ [0, 1, 2] rfl (by decide)), hs65.nil, hs65.cap⟩
theorem qle {w : World} {p : Q6} {a1 a2 a3 a4 : Option Addr} {ac1 ac2 ac3 ac4 : Nat} (ha : Nm w p a1 ac1 a2 ac2 a3 ac3 a4 ac4) (hl : LenQ p) {q : Q6} {b1 b2 b3 b4 : Option Addr} {bc1 bc2 bc3 bc4 : Nat} (hb : Nm w q b1 bc1 b2 bc2 b3 bc3 b4 bc4) (hm : LenQ q) {g : Nat} (hg : Blk w g [.bool p.b1, .slice a1 p.t1.length ac1, .slice a2 p.q1.length ac2, .bool p.b2, .slice a3 p.t2.length ac3, .slice a4 p.q2.length ac4, .bool q.b1, .slice b1 q.t1.length bc1, .slice b2 q.q1.length bc2, .bool q.b2, .slice b3 q.t2.length bc3, .slice b4 q.q2.length bc4]) {r : Int} (hr : xx p q = r) : Calls Tryz.prog 122 #[.slice (some ⟨g, 0, none⟩) 2 2] w fun e w' => e = .returned (.int .i64 r) ∧ Below w.heap.size w w' := by
 have V : St w w [] [(b4, q.q2), (b3, q.t2), (b2, q.q1), (b1, q.t1), (a4, p.q2), (a3, p.t2), (a2, p.q1), (a1, p.t1)] [] := ((((((((St.start w).addR ha.s1.rd).addR ha.s2.rd).addR ha.s3.rd).addR ha.s4.rd).addR hb.s1.rd).addR hb.s2.rd).addR hb.s3.rd).addR hb.s4.rd
 refine qm (l := [(0, .slice (some ⟨g, 0, none⟩) 2 2)]) Tryz.func122 rfl Tryz.ntmps122 rfl rfl ?_
 intro Q hret hnorm hP a A
 refine wsk fun K1 hK1 => wrl (sda A λa A↦?_)
 refine qa (hK1 _ _ (wsk fun K2 hK2 => wsk fun K3 hK3 => wrl (sdm A λa A↦?_)))
 refine sdo A (zf Tryz.underlying138 rfl) λa A↦?_
 refine sdm A λa A↦?_
 refine qa (hK3 _ _ (wp_block (wp_loop_rounds 12 ?_)))
 refine xk fun K4 hK4 => ?_
 refine wsk fun K5 hK5 => wrl (sdo (v := .bool true) A (qf rfl rfl (fun w => by kernel_rfl)) λa A↦?_)
 refine qa (hK5 _ _ (wsk fun K6 hK6 => wp_cond_true (A.ev rfl) ?_))
 refine wp_skip (hK6 _ _ (wsk fun K7 hK7 => wp_block (wsk fun K8 hK8 => wrl (sdo (v := .pointer (some ⟨g, 0, none⟩)) A (jy rfl rfl (fun w => by kernel_rfl)) λa A↦?_))))
 refine sdo A (yg V hg ExO_isS_27 rfl (cs := [.bool p.b1, .slice a1 p.t1.length ac1, .slice a2 p.q1.length ac2, .bool p.b2, .slice a3 p.t2.length ac3, .slice a4 p.q2.length ac4]) rfl rfl) λa A↦?_
 refine zt (vs := [.bool false, .slice none 0 0, .slice none 0 0, .bool false, .slice none 0 0, .slice none 0 0]) (t := 27) A V rfl rfl rfl pg (qk (z := .agg #[.bool false, .slice none 0 0, .slice none 0 0, .bool false, .slice none 0 0, .slice none 0 0]) (by kernel_rfl) rfl) rfl ?_
 intro g9 w10 V a A
 refine xe (us := [.bool p.b1, .slice a1 p.t1.length ac1, .slice a2 p.q1.length ac2, .bool p.b2, .slice a3 p.t2.length ac3, .slice a4 p.q2.length ac4]) A V rfl rfl (qw rfl rfl rfl (by kernel_rfl) V 0 rfl rfl rfl) 0 rfl rfl rfl rfl ?_
 intro w11 V
 refine qa (hK8 _ _ (wsk fun K12 hK12 => wrl (sdo A (zi V ExO_isS_27 rfl 0 rfl (cs := [.bool p.b1, .slice a1 p.t1.length ac1, .slice a2 p.q1.length ac2, .bool p.b2, .slice a3 p.t2.length ac3, .slice a4 p.q2.length ac4]) rfl rfl) λa A↦?_)))
 rcases tf (xq p) with hb13 | hb13
 ·
  refine sct A (ef rfl rfl) (vt (show Nm _ _ a1 ac1 a2 ac2 a3 ac3 a4 ac4 from ⟨⟨(V.rd 7 rfl), ha.s1.nil, ha.s1.cap⟩, ⟨(V.rd 6 rfl), ha.s2.nil, ha.s2.cap⟩, ⟨(V.rd 5 rfl), ha.s3.nil, ha.s3.cap⟩, ⟨(V.rd 4 rfl), ha.s4.nil, ha.s4.cap⟩⟩) hl hb13) ?_
  rintro _ w15 ⟨rfl, hb14⟩
  replace V := V.call hb14
  refine ⟨_, rfl, ?_⟩
  intro a A
  refine sdo (v := .bool false) A (zk rfl zx) λa A↦?_
  refine qa (hK12 _ _ (wp_cond_false (A.ev rfl) ?_))
  refine wp_skip (hK7 _ _ (wrl (sdo (v := .int .i64 1) A (qf rfl rfl (fun w => by kernel_rfl)) λa A↦?_)))
  refine sdm A λa A↦?_
  refine qa (hK4 _ _ (xk fun K16 hK16 => ?_))
  refine wsk fun K17 hK17 => wrl (sdo (v := .bool true) A (qf rfl rfl (fun w => by kernel_rfl)) λa A↦?_)
  refine qa (hK17 _ _ (wsk fun K18 hK18 => wp_cond_true (A.ev rfl) ?_))
  refine wp_skip (hK18 _ _ (wsk fun K19 hK19 => wp_block (wsk fun K20 hK20 => wrl (sdo (v := .pointer (some ⟨g, 6, none⟩)) A (jy rfl rfl (fun w => by kernel_rfl)) λa A↦?_))))
  refine sdo A (yg V hg ExO_isS_27 rfl (cs := [.bool q.b1, .slice b1 q.t1.length bc1, .slice b2 q.q1.length bc2, .bool q.b2, .slice b3 q.t2.length bc3, .slice b4 q.q2.length bc4]) rfl rfl) λa A↦?_
  refine zt (vs := [.bool false, .slice none 0 0, .slice none 0 0, .bool false, .slice none 0 0, .slice none 0 0]) (t := 27) A V rfl rfl rfl pg (qk (z := .agg #[.bool false, .slice none 0 0, .slice none 0 0, .bool false, .slice none 0 0, .slice none 0 0]) (by kernel_rfl) rfl) rfl ?_
  intro g21 w22 V a A
  refine xe (us := [.bool q.b1, .slice b1 q.t1.length bc1, .slice b2 q.q1.length bc2, .bool q.b2, .slice b3 q.t2.length bc3, .slice b4 q.q2.length bc4]) A V rfl rfl (qw rfl rfl rfl (by kernel_rfl) V 0 rfl rfl rfl) 0 rfl rfl rfl rfl ?_
  intro w23 V
  refine qa (hK20 _ _ (wsk fun K24 hK24 => wrl (sdo A (zi V ExO_isS_27 rfl 0 rfl (cs := [.bool q.b1, .slice b1 q.t1.length bc1, .slice b2 q.q1.length bc2, .bool q.b2, .slice b3 q.t2.length bc3, .slice b4 q.q2.length bc4]) rfl rfl) λa A↦?_)))
  rcases tf (xq q) with hb25 | hb25
  ·
   refine sct A (ef rfl rfl) (vt (show Nm _ _ b1 bc1 b2 bc2 b3 bc3 b4 bc4 from ⟨⟨(V.rd 3 rfl), hb.s1.nil, hb.s1.cap⟩, ⟨(V.rd 2 rfl), hb.s2.nil, hb.s2.cap⟩, ⟨(V.rd 1 rfl), hb.s3.nil, hb.s3.cap⟩, ⟨(V.rd 0 rfl), hb.s4.nil, hb.s4.cap⟩⟩) hm hb25) ?_
   rintro _ w27 ⟨rfl, hb26⟩
   replace V := V.call hb26
   refine ⟨_, rfl, ?_⟩
   intro a A
   refine sdo (v := .bool false) A (zk rfl zx) λa A↦?_
   refine qa (hK24 _ _ (wp_cond_false (A.ev rfl) ?_))
   refine wp_skip (hK19 _ _ (wrl (sdo (v := .int .i64 2) A (qf rfl rfl (fun w => by kernel_rfl)) λa A↦?_)))
   refine sdm A λa A↦?_
   refine qa (hK16 _ _ (xk fun K28 hK28 => ?_))
   refine wsk fun K29 hK29 => wrl (sdo (v := .bool false) A (qf rfl rfl (fun w => by kernel_rfl)) λa A↦?_)
   refine qa (hK29 _ _ (wsk fun K30 hK30 => wp_cond_false (A.ev rfl) ?_))
   refine wp_exit (hK2 _ _ (wsk fun K31 hK31 => wsk fun K32 hK32 => wrl (sdm A λa A↦?_)))
   refine sdo A (zf Tryz.underlying138 rfl) λa A↦?_
   refine sdm A λa A↦?_
   refine qa (hK32 _ _ (wp_block (wp_loop_rounds 12 ?_)))
   refine xk fun K33 hK33 => ?_
   refine wsk fun K34 hK34 => wrl (sdo (v := .bool true) A (qf rfl rfl (fun w => by kernel_rfl)) λa A↦?_)
   refine qa (hK34 _ _ (wsk fun K35 hK35 => wp_cond_true (A.ev rfl) ?_))
   refine wp_skip (hK35 _ _ (wsk fun K36 hK36 => wp_block (wsk fun K37 hK37 => wrl (sdo (v := .pointer (some ⟨g, 0, none⟩)) A (jy rfl rfl (fun w => by kernel_rfl)) λa A↦?_))))
   refine sdo A (yg V hg ExO_isS_27 rfl (cs := [.bool p.b1, .slice a1 p.t1.length ac1, .slice a2 p.q1.length ac2, .bool p.b2, .slice a3 p.t2.length ac3, .slice a4 p.q2.length ac4]) rfl rfl) λa A↦?_
   refine zt (vs := [.bool false, .slice none 0 0, .slice none 0 0, .bool false, .slice none 0 0, .slice none 0 0]) (t := 27) A V rfl rfl rfl pg (qk (z := .agg #[.bool false, .slice none 0 0, .slice none 0 0, .bool false, .slice none 0 0, .slice none 0 0]) (by kernel_rfl) rfl) rfl ?_
   intro g38 w39 V a A
   refine xe (us := [.bool p.b1, .slice a1 p.t1.length ac1, .slice a2 p.q1.length ac2, .bool p.b2, .slice a3 p.t2.length ac3, .slice a4 p.q2.length ac4]) A V rfl rfl (qw rfl rfl rfl (by kernel_rfl) V 0 rfl rfl rfl) 0 rfl rfl rfl rfl ?_
   intro w40 V
   refine qa (hK37 _ _ (wsk fun K41 hK41 => wrl (sdo A (zi V ExO_isS_27 rfl 0 rfl (cs := [.bool p.b1, .slice a1 p.t1.length ac1, .slice a2 p.q1.length ac2, .bool p.b2, .slice a3 p.t2.length ac3, .slice a4 p.q2.length ac4]) rfl rfl) λa A↦?_)))
   rcases tf (decide (p.t2.length = 0)) with hb42 | hb42
   ·
    have hb42' := of_decide_eq_true hb42
    refine sct A (ef rfl rfl) (yi (q := p) hl hb42) ?_
    rintro _ w44 ⟨rfl, hb43⟩
    replace V := V.call hb43
    refine ⟨_, rfl, ?_⟩
    intro a A
    refine sdo (v := .bool false) A (zk rfl zx) λa A↦?_
    refine qa (hK41 _ _ (wp_cond_false (A.ev rfl) ?_))
    refine wp_skip (hK36 _ _ (wrl (sdo (v := .int .i64 1) A (qf rfl rfl (fun w => by kernel_rfl)) λa A↦?_)))
    refine sdm A λa A↦?_
    refine qa (hK33 _ _ (xk fun K45 hK45 => ?_))
    refine wsk fun K46 hK46 => wrl (sdo (v := .bool true) A (qf rfl rfl (fun w => by kernel_rfl)) λa A↦?_)
    refine qa (hK46 _ _ (wsk fun K47 hK47 => wp_cond_true (A.ev rfl) ?_))
    refine wp_skip (hK47 _ _ (wsk fun K48 hK48 => wp_block (wsk fun K49 hK49 => wrl (sdo (v := .pointer (some ⟨g, 6, none⟩)) A (jy rfl rfl (fun w => by kernel_rfl)) λa A↦?_))))
    refine sdo A (yg V hg ExO_isS_27 rfl (cs := [.bool q.b1, .slice b1 q.t1.length bc1, .slice b2 q.q1.length bc2, .bool q.b2, .slice b3 q.t2.length bc3, .slice b4 q.q2.length bc4]) rfl rfl) λa A↦?_
    refine zt (vs := [.bool false, .slice none 0 0, .slice none 0 0, .bool false, .slice none 0 0, .slice none 0 0]) (t := 27) A V rfl rfl rfl pg (qk (z := .agg #[.bool false, .slice none 0 0, .slice none 0 0, .bool false, .slice none 0 0, .slice none 0 0]) (by kernel_rfl) rfl) rfl ?_
    intro g50 w51 V a A
    refine xe (us := [.bool q.b1, .slice b1 q.t1.length bc1, .slice b2 q.q1.length bc2, .bool q.b2, .slice b3 q.t2.length bc3, .slice b4 q.q2.length bc4]) A V rfl rfl (qw rfl rfl rfl (by kernel_rfl) V 0 rfl rfl rfl) 0 rfl rfl rfl rfl ?_
    intro w52 V
    refine qa (hK49 _ _ (wsk fun K53 hK53 => wrl (sdo A (zi V ExO_isS_27 rfl 0 rfl (cs := [.bool q.b1, .slice b1 q.t1.length bc1, .slice b2 q.q1.length bc2, .bool q.b2, .slice b3 q.t2.length bc3, .slice b4 q.q2.length bc4]) rfl rfl) λa A↦?_)))
    rcases tf (decide (q.t2.length = 0)) with hb54 | hb54
    ·
     have hb54' := of_decide_eq_true hb54
     refine sct A (ef rfl rfl) (yi (q := q) hm hb54) ?_
     rintro _ w56 ⟨rfl, hb55⟩
     replace V := V.call hb55
     refine ⟨_, rfl, ?_⟩
     intro a A
     refine sdo (v := .bool false) A (zk rfl zx) λa A↦?_
     refine qa (hK53 _ _ (wp_cond_false (A.ev rfl) ?_))
     refine wp_skip (hK48 _ _ (wrl (sdo (v := .int .i64 2) A (qf rfl rfl (fun w => by kernel_rfl)) λa A↦?_)))
     refine sdm A λa A↦?_
     refine qa (hK45 _ _ (xk fun K57 hK57 => ?_))
     refine wsk fun K58 hK58 => wrl (sdo (v := .bool false) A (qf rfl rfl (fun w => by kernel_rfl)) λa A↦?_)
     refine qa (hK58 _ _ (wsk fun K59 hK59 => wp_cond_false (A.ev rfl) ?_))
     refine wp_exit (hK31 _ _ (wsk fun K60 hK60 => wrl (sda A λa A↦?_)))
     refine qa (hK60 _ _ (wp_ret (hret _ _ (en1 A rfl (qh rfl) ?_))))
     subst hr
     have f2 := of_decide_eq_true hb42
     have f3 := of_decide_eq_true hb54
     exact ⟨by simp [xx, hb13, hb25, f2, f3], V.bel⟩
    ·
     have hb54' := of_decide_eq_false hb54
     refine sct A (ef rfl rfl) (yi (q := q) hm hb54) ?_
     rintro _ w62 ⟨rfl, hb61⟩
     replace V := V.call hb61
     refine ⟨_, rfl, ?_⟩
     intro a A
     refine sdo (v := .bool true) A (zk rfl zx) λa A↦?_
     refine qa (hK53 _ _ (wp_cond_true (A.ev rfl) ?_))
     refine wsk fun K63 hK63 => wrl (sda A λa A↦?_)
     refine qa (hK63 _ _ (wp_ret (hret _ _ (en1 A rfl (qh rfl) ?_))))
     subst hr
     have f2 := of_decide_eq_true hb42
     have f3 := of_decide_eq_false hb54
     exact ⟨by simp [xx, hb13, hb25, f2, f3], V.bel⟩
   ·
    have hb42' := of_decide_eq_false hb42
    refine sct A (ef rfl rfl) (yi (q := p) hl hb42) ?_
    rintro _ w65 ⟨rfl, hb64⟩
    replace V := V.call hb64
    refine ⟨_, rfl, ?_⟩
    intro a A
    refine sdo (v := .bool true) A (zk rfl zx) λa A↦?_
    refine qa (hK41 _ _ (wp_cond_true (A.ev rfl) ?_))
    refine wsk fun K66 hK66 => wrl (sda A λa A↦?_)
    refine qa (hK66 _ _ (wp_ret (hret _ _ (en1 A rfl (qh rfl) ?_))))
    subst hr
    have f2 := of_decide_eq_false hb42
    exact ⟨by simp [xx, hb13, hb25, f2], V.bel⟩
  ·
   refine sct A (ef rfl rfl) (vt (show Nm _ _ b1 bc1 b2 bc2 b3 bc3 b4 bc4 from ⟨⟨(V.rd 3 rfl), hb.s1.nil, hb.s1.cap⟩, ⟨(V.rd 2 rfl), hb.s2.nil, hb.s2.cap⟩, ⟨(V.rd 1 rfl), hb.s3.nil, hb.s3.cap⟩, ⟨(V.rd 0 rfl), hb.s4.nil, hb.s4.cap⟩⟩) hm hb25) ?_
   rintro _ w68 ⟨rfl, hb67⟩
   replace V := V.call hb67
   refine ⟨_, rfl, ?_⟩
   intro a A
   refine sdo (v := .bool true) A (zk rfl zx) λa A↦?_
   refine qa (hK24 _ _ (wp_cond_true (A.ev rfl) ?_))
   refine wsk fun K69 hK69 => wrl (sda A λa A↦?_)
   refine qa (hK69 _ _ (wp_ret (hret _ _ (en1 A rfl (qh rfl) ?_))))
   subst hr
   exact ⟨by simp [xx, hb13, hb25], V.bel⟩
 ·
  refine sct A (ef rfl rfl) (vt (show Nm _ _ a1 ac1 a2 ac2 a3 ac3 a4 ac4 from ⟨⟨(V.rd 7 rfl), ha.s1.nil, ha.s1.cap⟩, ⟨(V.rd 6 rfl), ha.s2.nil, ha.s2.cap⟩, ⟨(V.rd 5 rfl), ha.s3.nil, ha.s3.cap⟩, ⟨(V.rd 4 rfl), ha.s4.nil, ha.s4.cap⟩⟩) hl hb13) ?_
  rintro _ w71 ⟨rfl, hb70⟩
  replace V := V.call hb70
  refine ⟨_, rfl, ?_⟩
  intro a A
  refine sdo (v := .bool true) A (zk rfl zx) λa A↦?_
  refine qa (hK12 _ _ (wp_cond_true (A.ev rfl) ?_))
  refine wsk fun K72 hK72 => wrl (sda A λa A↦?_)
  refine qa (hK72 _ _ (wp_ret (hret _ _ (en1 A rfl (qh rfl) ?_))))
  subst hr
  exact ⟨by simp [xx, hb13], V.bel⟩
theorem ExP_is1_23 : Is1 Tryz.prog 23 := ⟨⟨_, Tryz.underlying23, rfl⟩, by kernel_rfl⟩
theorem ExP_fld_122_0 : FieldAt Tryz.prog 122 0 0 := ⟨_, _, Tryz.underlying122, rfl, rfl, by kernel_rfl⟩
theorem ExP_fld_122_2 : FieldAt Tryz.prog 122 2 4 := ⟨_, _, Tryz.underlying122, rfl, rfl, by kernel_rfl⟩
theorem ExP_isS_120 : IsS Tryz.prog 120 2 := ⟨⟨_, Tryz.underlying120⟩, by kernel_rfl⟩
theorem ExP_isS_27 : IsS Tryz.prog 27 6 := ⟨⟨_, Tryz.underlying27⟩, by kernel_rfl⟩
theorem zmj {w : World} {p q : Q6} {a1 a2 a3 a4 : Option Addr} {ac1 ac2 ac3 ac4 : Nat} (ha : Nm w p a1 ac1 a2 ac2 a3 ac3 a4 ac4) (hl : LenQ p) {u1 u2 u3 u4 : Option Addr} {uc1 uc2 uc3 uc4 : Nat} (hb : Nm w q u1 uc1 u2 uc2 u3 uc3 u4 uc4) (hm : LenQ q) (hw : (xx p q != 0) = true) : Calls Tryz.prog 108 #[qce p a1 ac1 a2 ac2 a3 ac3 a4 ac4, qce q u1 uc1 u2 uc2 u3 uc3 u4 uc4] w fun e w' => e = .returned (.tuple #[.int .i64 0, .int .i64 (xx p q)]) ∧ Below w.heap.size w w' := by
 have V : St w w [] [(u4, q.q2), (u3, q.t2), (u2, q.q1), (u1, q.t1), (a4, p.q2), (a3, p.t2), (a2, p.q1), (a1, p.t1)] [] := ((((((((St.start w).addR ha.s1.rd).addR ha.s2.rd).addR ha.s3.rd).addR ha.s4.rd).addR hb.s1.rd).addR hb.s2.rd).addR hb.s3.rd).addR hb.s4.rd
 refine qm (l := [(0, .agg #[.bool p.b1, .slice a1 p.t1.length ac1, .slice a2 p.q1.length ac2, .bool p.b2, .slice a3 p.t2.length ac3, .slice a4 p.q2.length ac4]), (1, .agg #[.bool q.b1, .slice u1 q.t1.length uc1, .slice u2 q.q1.length uc2, .bool q.b2, .slice u3 q.t2.length uc3, .slice u4 q.q2.length uc4])]) Tryz.func108 rfl Tryz.ntmps108 rfl rfl ?_
 intro Q hret hnorm hP a A
 refine wsk fun K1 hK1 => wrl (zt A V rfl rfl rfl pg (qs rfl rfl) rfl ?_)
 intro g2 w3 V a A
 refine zt A V rfl rfl rfl pg (qs rfl rfl) rfl ?_
 intro g4 w5 V a A
 iterate 2 refine sda A λa A↦?_
 refine qa (hK1 _ _ (wsk fun K6 hK6 => wsk fun K7 hK7 => wrl (sdo A (zi V ExP_isS_27 rfl 1 rfl (cs := [.bool p.b1, .slice a1 p.t1.length ac1, .slice a2 p.q1.length ac2, .bool p.b2, .slice a3 p.t2.length ac3, .slice a4 p.q2.length ac4]) rfl rfl) λa A↦?_)))
 refine sdo A (zi V ExP_isS_27 rfl 0 rfl (cs := [.bool q.b1, .slice u1 q.t1.length uc1, .slice u2 q.q1.length uc2, .bool q.b2, .slice u3 q.t2.length uc3, .slice u4 q.q2.length uc4]) rfl rfl) λa A↦?_
 refine zt (vs := [.bool p.b1, .slice a1 p.t1.length ac1, .slice a2 p.q1.length ac2, .bool p.b2, .slice a3 p.t2.length ac3, .slice a4 p.q2.length ac4, .bool q.b1, .slice u1 q.t1.length uc1, .slice u2 q.q1.length uc2, .bool q.b2, .slice u3 q.t2.length uc3, .slice u4 q.q2.length uc4]) (t := 27) A V rfl rfl rfl (fun g => .slice (some ⟨g, 0, none⟩) 2 2) (jv rfl (by kernel_rfl)) rfl ?_
 intro g8 w9 V a A
 refine sct A (ef rfl rfl) (qle (show Nm _ p a1 ac1 a2 ac2 a3 ac3 a4 ac4 from ⟨⟨(V.rd 7 rfl), ha.s1.nil, ha.s1.cap⟩, ⟨(V.rd 6 rfl), ha.s2.nil, ha.s2.cap⟩, ⟨(V.rd 5 rfl), ha.s3.nil, ha.s3.cap⟩, ⟨(V.rd 4 rfl), ha.s4.nil, ha.s4.cap⟩⟩) hl (show Nm _ q u1 uc1 u2 uc2 u3 uc3 u4 uc4 from ⟨⟨(V.rd 3 rfl), hb.s1.nil, hb.s1.cap⟩, ⟨(V.rd 2 rfl), hb.s2.nil, hb.s2.cap⟩, ⟨(V.rd 1 rfl), hb.s3.nil, hb.s3.cap⟩, ⟨(V.rd 0 rfl), hb.s4.nil, hb.s4.cap⟩⟩) hm (V.blk 0 rfl) rfl) ?_
 rintro _ w11 ⟨rfl, hb10⟩
 replace V := V.call hb10
 refine ⟨_, rfl, ?_⟩
 intro a A
 refine sda A λa A↦?_
 refine qa (hK7 _ _ (wsk fun K12 hK12 => wrl (sdm A λa A↦?_)))
 refine sdo (v := .bool true) A (qf rfl rfl (fun w => (zm w).trans (by rw [show ((xx p q != 0)) = true from hw]))) λa A↦?_
 refine qa (hK12 _ _ (wp_cond_true (A.ev rfl) ?_))
 refine wsk fun K13 hK13 => wrl (sdm A λa A↦?_)
 iterate 2 refine sda A λa A↦?_
 refine qa (hK13 _ _ (wp_ret (hret _ _ (en2 A rfl (qh rfl) (qh rfl) ?_))))
 exact ⟨rfl, V.bel⟩
theorem zna {w : World} {u v x y : Rat} {a1 a2 a3 a4 : Option Addr} {ac1 ac2 ac3 ac4 : Nat} (ha : Nm w (Q6.rat u v) a1 ac1 a2 ac2 a3 ac3 a4 ac4) {u1 u2 u3 u4 : Option Addr} {uc1 uc2 uc3 uc4 : Nat} (hb : Nm w (Q6.rat x y) u1 uc1 u2 uc2 u3 uc3 u4 uc4) (hu : xg u) (hv : xg v) (hx : xg x) (hy : xg y) (hw : xx (Q6.rat u v) (Q6.rat x y) = 0) : Calls Tryz.prog 108 #[qce (Q6.rat u v) a1 ac1 a2 ac2 a3 ac3 a4 ac4, qce (Q6.rat x y) u1 uc1 u2 uc2 u3 uc3 u4 uc4] w fun e w' => e = .returned (.tuple #[.int .i64 (xw u x), .int .i64 0]) ∧ Below w.heap.size w w' := by
 have m1 := zba hu hv
 have m3 := zbb hu hv
 have m4 := zba hx hy
 have m6 := zbb hx hy
 have n1 := uz m1 (qaa m6)
 have n2 := uz m4 (qaa m3)
 have V : St w w [] [(u4, words y.den), (u3, words y.num.natAbs), (u2, words x.den), (u1, words x.num.natAbs), (a4, words v.den), (a3, words v.num.natAbs), (a2, words u.den), (a1, words u.num.natAbs)] [] := ((((((((St.start w).addR ha.s1.rd).addR ha.s2.rd).addR ha.s3.rd).addR ha.s4.rd).addR hb.s1.rd).addR hb.s2.rd).addR hb.s3.rd).addR hb.s4.rd
 refine qm (l := [(0, .agg #[.bool (rb u.num), .slice a1 ((words u.num.natAbs).length) ac1, .slice a2 ((words u.den).length) ac2, .bool (rb v.num), .slice a3 ((words v.num.natAbs).length) ac3, .slice a4 ((words v.den).length) ac4]), (1, .agg #[.bool (rb x.num), .slice u1 ((words x.num.natAbs).length) uc1, .slice u2 ((words x.den).length) uc2, .bool (rb y.num), .slice u3 ((words y.num.natAbs).length) uc3, .slice u4 ((words y.den).length) uc4])]) Tryz.func108 rfl Tryz.ntmps108 rfl rfl ?_
 intro Q hret hnorm hP a A
 refine wsk fun K1 hK1 => wrl (zt A V rfl rfl rfl pg (qs rfl rfl) rfl ?_)
 intro g2 w3 V a A
 refine zt A V rfl rfl rfl pg (qs rfl rfl) rfl ?_
 intro g4 w5 V a A
 iterate 2 refine sda A λa A↦?_
 refine qa (hK1 _ _ (wsk fun K6 hK6 => wsk fun K7 hK7 => wrl (sdo A (zi V ExP_isS_27 rfl 1 rfl (cs := [.bool (rb u.num), .slice a1 ((words u.num.natAbs).length) ac1, .slice a2 ((words u.den).length) ac2, .bool (rb v.num), .slice a3 ((words v.num.natAbs).length) ac3, .slice a4 ((words v.den).length) ac4]) rfl rfl) λa A↦?_)))
 refine sdo A (zi V ExP_isS_27 rfl 0 rfl (cs := [.bool (rb x.num), .slice u1 ((words x.num.natAbs).length) uc1, .slice u2 ((words x.den).length) uc2, .bool (rb y.num), .slice u3 ((words y.num.natAbs).length) uc3, .slice u4 ((words y.den).length) uc4]) rfl rfl) λa A↦?_
 refine zt (vs := [.bool (rb u.num), .slice a1 ((words u.num.natAbs).length) ac1, .slice a2 ((words u.den).length) ac2, .bool (rb v.num), .slice a3 ((words v.num.natAbs).length) ac3, .slice a4 ((words v.den).length) ac4, .bool (rb x.num), .slice u1 ((words x.num.natAbs).length) uc1, .slice u2 ((words x.den).length) uc2, .bool (rb y.num), .slice u3 ((words y.num.natAbs).length) uc3, .slice u4 ((words y.den).length) uc4]) (t := 27) A V rfl rfl rfl (fun g => .slice (some ⟨g, 0, none⟩) 2 2) (jv rfl (by kernel_rfl)) rfl ?_
 intro g8 w9 V a A
 refine sct A (ef rfl rfl) (qle (show Nm _ (Q6.rat u v) a1 ac1 a2 ac2 a3 ac3 a4 ac4 from ⟨⟨(V.rd 7 rfl), ha.s1.nil, ha.s1.cap⟩, ⟨(V.rd 6 rfl), ha.s2.nil, ha.s2.cap⟩, ⟨(V.rd 5 rfl), ha.s3.nil, ha.s3.cap⟩, ⟨(V.rd 4 rfl), ha.s4.nil, ha.s4.cap⟩⟩) (qjg hu hv) (show Nm _ (Q6.rat x y) u1 uc1 u2 uc2 u3 uc3 u4 uc4 from ⟨⟨(V.rd 3 rfl), hb.s1.nil, hb.s1.cap⟩, ⟨(V.rd 2 rfl), hb.s2.nil, hb.s2.cap⟩, ⟨(V.rd 1 rfl), hb.s3.nil, hb.s3.cap⟩, ⟨(V.rd 0 rfl), hb.s4.nil, hb.s4.cap⟩⟩) (qjg hx hy) (V.blk 0 rfl) hw) ?_
 rintro _ w11 ⟨rfl, hb10⟩
 replace V := V.call hb10
 refine ⟨_, rfl, ?_⟩
 intro a A
 refine sda A λa A↦?_
 refine qa (hK7 _ _ (wsk fun K12 hK12 => wrl (sdm A λa A↦?_)))
 refine sdo (v := .bool false) A (qf rfl rfl (fun w => by kernel_rfl)) λa A↦?_
 refine qa (hK12 _ _ (wp_cond_false (A.ev rfl) ?_))
 refine wp_skip (hK6 _ _ (wsk fun K13 hK13 => ?_))
 have hJ58 : ∀ a w1, (∃ (J32g : Nat) (J33g : Nat) (J34 : Option Addr) (J35 : Nat) (J36 : Option Addr) (J37 : Nat) (J38 : Option Addr) (J39 : Nat) (J40 : Option Addr) (J41 : Nat) (J42 : Option Addr) (J43 : Nat) (J44 : Option Addr) (J45 : Nat), Sl a 31 [(0, .agg #[.bool (rb u.num), .slice a1 ((words u.num.natAbs).length) ac1, .slice a2 ((words u.den).length) ac2, .bool (rb v.num), .slice a3 ((words v.num.natAbs).length) ac3, .slice a4 ((words v.den).length) ac4]), (1, .agg #[.bool (rb x.num), .slice u1 ((words x.num.natAbs).length) uc1, .slice u2 ((words x.den).length) uc2, .bool (rb y.num), .slice u3 ((words y.num.natAbs).length) uc3, .slice u4 ((words y.den).length) uc4]), (2, .pointer (some ⟨g2, 0, none⟩)), (3, .pointer (some ⟨g4, 0, none⟩)), (4, .int .i64 0), (5, .int .i64 0), (6, .int .i64 0), (7, .pointer (some ⟨J32g, 0, none⟩)), (8, .pointer (some ⟨J33g, 0, none⟩)), (9, .agg #[.bool (rb u.num), .slice a1 ((words u.num.natAbs).length) ac1, .slice a2 ((words u.den).length) ac2, .bool (rb v.num), .slice a3 ((words v.num.natAbs).length) ac3, .slice a4 ((words v.den).length) ac4]), (10, .agg #[.bool (rb x.num), .slice u1 ((words x.num.natAbs).length) uc1, .slice u2 ((words x.den).length) uc2, .bool (rb y.num), .slice u3 ((words y.num.natAbs).length) uc3, .slice u4 ((words y.den).length) uc4]), (11, .slice (some ⟨g8, 0, none⟩) 2 2), (12, .int .i64 0), (13, .int .i64 0), (14, .bool false)] ∧ St w w1 [(J33g, [.bool ((rb (spX x y))), .slice J40 ((words (spX x y).natAbs).length) J41, .bool ((rb (spY x y))), .slice J42 ((words (spY x y).natAbs).length) J43, .slice J44 ((words (spD x y)).length) J45]), (J32g, [.bool ((rb (spX u v))), .slice J34 ((words (spX u v).natAbs).length) J35, .bool ((rb (spY u v))), .slice J36 ((words (spY u v).natAbs).length) J37, .slice J38 ((words (spD u v)).length) J39]), (g8, [.bool (rb u.num), .slice a1 ((words u.num.natAbs).length) ac1, .slice a2 ((words u.den).length) ac2, .bool (rb v.num), .slice a3 ((words v.num.natAbs).length) ac3, .slice a4 ((words v.den).length) ac4, .bool (rb x.num), .slice u1 ((words x.num.natAbs).length) uc1, .slice u2 ((words x.den).length) uc2, .bool (rb y.num), .slice u3 ((words y.num.natAbs).length) uc3, .slice u4 ((words y.den).length) uc4]), (g4, [.bool (rb x.num), .slice u1 ((words x.num.natAbs).length) uc1, .slice u2 ((words x.den).length) uc2, .bool (rb y.num), .slice u3 ((words y.num.natAbs).length) uc3, .slice u4 ((words y.den).length) uc4]), (g2, [.bool (rb u.num), .slice a1 ((words u.num.natAbs).length) ac1, .slice a2 ((words u.den).length) ac2, .bool (rb v.num), .slice a3 ((words v.num.natAbs).length) ac3, .slice a4 ((words v.den).length) ac4])] [(J44, words (spD x y)), (J42, words (spY x y).natAbs), (J40, words (spX x y).natAbs), (J38, words (spD u v)), (J36, words (spY u v).natAbs), (J34, words (spX u v).natAbs), (u4, words y.den), (u3, words y.num.natAbs), (u2, words x.den), (u1, words x.num.natAbs), (a4, words v.den), (a3, words v.num.natAbs), (a2, words u.den), (a1, words u.num.natAbs)] [] ∧ (J44 = none → J45 = 0) ∧ (words (spD x y) : List Nat).length ≤ J45 ∧ (J42 = none → J43 = 0) ∧ (words (spY x y).natAbs : List Nat).length ≤ J43 ∧ (J40 = none → J41 = 0) ∧ (words (spX x y).natAbs : List Nat).length ≤ J41 ∧ (J38 = none → J39 = 0) ∧ (words (spD u v) : List Nat).length ≤ J39 ∧ (J36 = none → J37 = 0) ∧ (words (spY u v).natAbs : List Nat).length ≤ J37 ∧ (J34 = none → J35 = 0) ∧ (words (spX u v).natAbs : List Nat).length ≤ J35) → K13 a w1 := by
  clear A V
  rintro a w59 ⟨J32g, J33g, J34, J35, J36, J37, J38, J39, J40, J41, J42, J43, J44, J45, A, V, hn46, hc47, hn48, hc49, hn50, hc51, hn52, hc53, hn54, hc55, hn56, hc57⟩
  refine hK13 _ _ (wsk fun K60 hK60 => jc (S := fun w1 => St w w1 [(J33g, [.bool ((rb (spX x y))), .slice J40 ((words (spX x y).natAbs).length) J41, .bool ((rb (spY x y))), .slice J42 ((words (spY x y).natAbs).length) J43, .slice J44 ((words (spD x y)).length) J45]), (J32g, [.bool ((rb (spX u v))), .slice J34 ((words (spX u v).natAbs).length) J35, .bool ((rb (spY u v))), .slice J36 ((words (spY u v).natAbs).length) J37, .slice J38 ((words (spD u v)).length) J39]), (g8, [.bool (rb u.num), .slice a1 ((words u.num.natAbs).length) ac1, .slice a2 ((words u.den).length) ac2, .bool (rb v.num), .slice a3 ((words v.num.natAbs).length) ac3, .slice a4 ((words v.den).length) ac4, .bool (rb x.num), .slice u1 ((words x.num.natAbs).length) uc1, .slice u2 ((words x.den).length) uc2, .bool (rb y.num), .slice u3 ((words y.num.natAbs).length) uc3, .slice u4 ((words y.den).length) uc4]), (g4, [.bool (rb x.num), .slice u1 ((words x.num.natAbs).length) uc1, .slice u2 ((words x.den).length) uc2, .bool (rb y.num), .slice u3 ((words y.num.natAbs).length) uc3, .slice u4 ((words y.den).length) uc4]), (g2, [.bool (rb u.num), .slice a1 ((words u.num.natAbs).length) ac1, .slice a2 ((words u.den).length) ac2, .bool (rb v.num), .slice a3 ((words v.num.natAbs).length) ac3, .slice a4 ((words v.den).length) ac4])] [(J44, words (spD x y)), (J42, words (spY x y).natAbs), (J40, words (spX x y).natAbs), (J38, words (spD u v)), (J36, words (spY u v).natAbs), (J34, words (spX u v).natAbs), (u4, words y.den), (u3, words y.num.natAbs), (u2, words x.den), (u1, words x.num.natAbs), (a4, words v.den), (a3, words v.num.natAbs), (a2, words u.den), (a1, words u.num.natAbs)] []) (by kernel_rfl) ?_)
  replace V := V.drew
  refine qe (v := .pointer (some ⟨J32g, 0, none⟩)) A 0 rfl rfl rfl rfl hP V (fun w1 V => qb ExP_fld_122_0 rfl rfl) λa A↦?_
  refine qe A 1 rfl rfl rfl rfl hP V (fun w1 V => zi V ExP_isS_120 rfl 1 rfl (cs := [.bool ((rb (spX u v))), .slice J34 ((words (spX u v).natAbs).length) J35]) rfl rfl) λa A↦?_
  refine qe (v := .pointer (some ⟨J33g, 4, none⟩)) A 2 rfl rfl rfl rfl hP V (fun w1 V => qb ExP_fld_122_2 rfl rfl) λa A↦?_
  refine qe A 3 rfl rfl rfl rfl hP V (fun w1 V => qy V ExP_is1_23 rfl 0 rfl rfl) λa A↦?_
  refine qe (v := .pointer (some ⟨J33g, 0, none⟩)) A 5 rfl rfl rfl rfl hP V (fun w1 V => qb ExP_fld_122_0 rfl rfl) λa A↦?_
  refine qe A 6 rfl rfl rfl rfl hP V (fun w1 V => zi V ExP_isS_120 rfl 0 rfl (cs := [.bool ((rb (spX x y))), .slice J40 ((words (spX x y).natAbs).length) J41]) rfl rfl) λa A↦?_
  refine qe (v := .pointer (some ⟨J32g, 4, none⟩)) A 7 rfl rfl rfl rfl hP V (fun w1 V => qb ExP_fld_122_2 rfl rfl) λa A↦?_
  refine qe A 8 rfl rfl rfl rfl hP V (fun w1 V => qy V ExP_is1_23 rfl 1 rfl rfl) λa A↦?_
  refine qi (by kernel_rfl) (za A 4 rfl rfl rfl rfl (qj  rfl rfl (fun w => by kernel_rfl)) (yn ⟨(V.rd 5 rfl), hn56, hc57⟩ ⟨(V.rd 0 rfl), hn46, hc47⟩ (by omega) (by omega)) ?_)
  rintro _ w65 ⟨zo61, zc62, rfl, hs63, hb64⟩
  replace V := V.call hb64
  replace V := V.addR hs63.rd
  refine ⟨_, rfl, (V.partD (.refl _) 1 rfl (.refl _)), ?_⟩
  intro a A
  refine qi (by kernel_rfl) (za A 9 rfl rfl rfl rfl (qj  rfl rfl (fun w => by kernel_rfl)) (yn ⟨(V.rd 3 rfl), hn50, hc51⟩ ⟨(V.rd 4 rfl), hn52, hc53⟩ (by omega) (by omega)) ?_)
  rintro _ w70 ⟨zo66, zc67, rfl, hs68, hb69⟩
  replace V := V.call hb69
  replace V := V.addR hs68.rd
  refine ⟨_, rfl, (V.partD (.refl _) 2 rfl (.refl _)), ?_⟩
  intro a A
  refine qi (by kernel_rfl) (za A 10 rfl rfl rfl rfl (qj  rfl rfl (fun w => by kernel_rfl)) (qzj ⟨(V.rd 1 rfl), hs63.nil, hs63.cap⟩ ⟨(V.rd 0 rfl), hs68.nil, hs68.cap⟩ (by omega) (by omega)) ?_)
  rintro _ w72 ⟨rfl, hb71⟩
  replace V := V.call hb71
  refine ⟨_, rfl, (V.partD (.refl _) 2 rfl (.refl _)), ?_⟩
  intro a A
  refine qe A 11 rfl rfl rfl rfl hP (V.partD (.refl _) 2 rfl (.refl _)) (fun w1 V => jk rfl) λa A↦?_
  refine qe A 12 rfl rfl rfl rfl hP (V.partD (.refl _) 2 rfl (.refl _)) (fun w1 V => jk rfl) λa A↦?_
  refine zb (by kernel_rfl) ?_
  refine hK60 _ _ (wp_ret (hret _ _ (en2 A rfl (qh rfl) (qh rfl) ?_)))
  exact ⟨by rw [← zsf (zii u v) (zii x y) (zij u v) (zij x y)], V.bel⟩
 refine jc (S := fun w1 => St w w1 [(g8, [.bool (rb u.num), .slice a1 ((words u.num.natAbs).length) ac1, .slice a2 ((words u.den).length) ac2, .bool (rb v.num), .slice a3 ((words v.num.natAbs).length) ac3, .slice a4 ((words v.den).length) ac4, .bool (rb x.num), .slice u1 ((words x.num.natAbs).length) uc1, .slice u2 ((words x.den).length) uc2, .bool (rb y.num), .slice u3 ((words y.num.natAbs).length) uc3, .slice u4 ((words y.den).length) uc4]), (g4, [.bool (rb x.num), .slice u1 ((words x.num.natAbs).length) uc1, .slice u2 ((words x.den).length) uc2, .bool (rb y.num), .slice u3 ((words y.num.natAbs).length) uc3, .slice u4 ((words y.den).length) uc4]), (g2, [.bool (rb u.num), .slice a1 ((words u.num.natAbs).length) ac1, .slice a2 ((words u.den).length) ac2, .bool (rb v.num), .slice a3 ((words v.num.natAbs).length) ac3, .slice a4 ((words v.den).length) ac4])] [(u4, words y.den), (u3, words y.num.natAbs), (u2, words x.den), (u1, words x.num.natAbs), (a4, words v.den), (a3, words v.num.natAbs), (a2, words u.den), (a1, words u.num.natAbs)] []) (by kernel_rfl) ?_
 replace V := V.drew
 refine qe A 0 rfl rfl rfl rfl hP V (fun w1 V => zi V ExP_isS_27 rfl 2 rfl (cs := [.bool (rb u.num), .slice a1 ((words u.num.natAbs).length) ac1, .slice a2 ((words u.den).length) ac2, .bool (rb v.num), .slice a3 ((words v.num.natAbs).length) ac3, .slice a4 ((words v.den).length) ac4]) rfl rfl) λa A↦?_
 refine qe A 2 rfl rfl rfl rfl hP V (fun w1 V => zi V ExP_isS_27 rfl 1 rfl (cs := [.bool (rb x.num), .slice u1 ((words x.num.natAbs).length) uc1, .slice u2 ((words x.den).length) uc2, .bool (rb y.num), .slice u3 ((words y.num.natAbs).length) uc3, .slice u4 ((words y.den).length) uc4]) rfl rfl) λa A↦?_
 refine jl (rs := [1, 4, 5]) (by kernel_rfl) (by simp) ⟨?_, ?_, ?_, trivial⟩
 ·
  refine za A 1 rfl rfl rfl rfl (qj  rfl rfl (fun w => by kernel_rfl)) (je (show Nm _ (Q6.rat u v) a1 ac1 a2 ac2 a3 ac3 a4 ac4 from ⟨⟨(V.rd 7 rfl), ha.s1.nil, ha.s1.cap⟩, ⟨(V.rd 6 rfl), ha.s2.nil, ha.s2.cap⟩, ⟨(V.rd 5 rfl), ha.s3.nil, ha.s3.cap⟩, ⟨(V.rd 4 rfl), ha.s4.nil, ha.s4.cap⟩⟩) hu hv) ?_
  rintro _ w78 ⟨p73_1, p73_c1, p73_2, p73_c2, p73_3, p73_c3, rfl, hs74, hs75, hs76, hb77⟩
  replace V := V.call hb77
  replace V := V.addR hs74.rd
  replace V := V.addR hs75.rd
  replace V := V.addR hs76.rd
  refine ⟨_, rfl, (V.partD (.refl _) 3 rfl (.refl _)), ?_⟩
  intro a A
  refine jl (rs := [3, 4, 5]) (by kernel_rfl) (by simp) ⟨?_, ?_, ?_, trivial⟩
  ·
   refine za A 3 rfl rfl rfl rfl (qj  rfl rfl (fun w => by kernel_rfl)) (je (show Nm _ (Q6.rat x y) u1 uc1 u2 uc2 u3 uc3 u4 uc4 from ⟨⟨(V.rd 6 rfl), hb.s1.nil, hb.s1.cap⟩, ⟨(V.rd 5 rfl), hb.s2.nil, hb.s2.cap⟩, ⟨(V.rd 4 rfl), hb.s3.nil, hb.s3.cap⟩, ⟨(V.rd 3 rfl), hb.s4.nil, hb.s4.cap⟩⟩) hx hy) ?_
   rintro _ w84 ⟨p79_1, p79_c1, p79_2, p79_c2, p79_3, p79_c3, rfl, hs80, hs81, hs82, hb83⟩
   replace V := V.call hb83
   replace V := V.addR hs80.rd
   replace V := V.addR hs81.rd
   replace V := V.addR hs82.rd
   refine ⟨_, rfl, (V.partD (.refl _) 6 rfl (.refl _)), ?_⟩
   intro a A
   refine jl (rs := [4, 5]) (by kernel_rfl) (by simp) ⟨?_, ?_, trivial⟩
   ·
    refine jz (vs := [.bool false, .slice none 0 0, .bool false, .slice none 0 0, .slice none 0 0]) (t := 122) A V 4 rfl rfl rfl rfl pg (qk (z := .agg #[.bool false, .slice none 0 0, .bool false, .slice none 0 0, .slice none 0 0]) (by kernel_rfl) rfl) rfl ?_
    intro g85 w86 V
    refine ⟨(V.partD (cn (cc (cc (cc .slnil)))) 6 rfl (.refl _)), ?_⟩
    intro a A
    refine qi (by kernel_rfl) (jz (vs := [.bool false, .slice none 0 0, .bool false, .slice none 0 0, .slice none 0 0]) (t := 122) A V 5 rfl rfl rfl rfl pg (qk (z := .agg #[.bool false, .slice none 0 0, .bool false, .slice none 0 0, .slice none 0 0]) (by kernel_rfl) rfl) rfl ?_)
    intro g87 w88 V
    refine ⟨(V.partD (cn (cn (cc (cc (cc .slnil))))) 6 rfl (.refl _)), ?_⟩
    intro a A
    refine qi (by kernel_rfl) (zr (us := [.bool ((rb (spX u v))), .slice p73_1 ((words (spX u v).natAbs).length) p73_c1, .bool ((rb (spY u v))), .slice p73_2 ((words (spY u v).natAbs).length) p73_c2, .slice p73_3 ((words (spD u v)).length) p73_c3]) A V 6 rfl rfl rfl (qw rfl rfl rfl (by kernel_rfl) V 1 rfl rfl rfl) 1 rfl rfl rfl rfl ?_)
    intro w89 V
    refine ⟨(V.partD (cn (cn (cc (cc (cc .slnil))))) 6 rfl (.refl _)), ?_⟩
    refine qi (by kernel_rfl) (zr (us := [.bool ((rb (spX x y))), .slice p79_1 ((words (spX x y).natAbs).length) p79_c1, .bool ((rb (spY x y))), .slice p79_2 ((words (spY x y).natAbs).length) p79_c2, .slice p79_3 ((words (spD x y)).length) p79_c3]) A V 7 rfl rfl rfl (qw rfl rfl rfl (by kernel_rfl) V 0 rfl rfl rfl) 0 rfl rfl rfl rfl ?_)
    intro w90 V
    refine ⟨(V.partD (cn (cn (cc (cc (cc .slnil))))) 6 rfl (.refl _)), ?_⟩
    refine zb (by kernel_rfl) ?_
    refine hJ58 _ _ ⟨g85, g87, p73_1, p73_c1, p73_2, p73_c2, p73_3, p73_c3, p79_1, p79_c1, p79_2, p79_c2, p79_3, p79_c3, A.keep _ (by repeat' constructor), (St.pickRL V ⟨⟨0, rfl⟩, ⟨⟨1, rfl⟩, ⟨⟨2, rfl⟩, ⟨⟨3, rfl⟩, ⟨⟨4, rfl⟩, ⟨⟨5, rfl⟩, ⟨⟨6, rfl⟩, ⟨⟨7, rfl⟩, ⟨⟨8, rfl⟩, ⟨⟨9, rfl⟩, ⟨⟨10, rfl⟩, ⟨⟨11, rfl⟩, ⟨⟨12, rfl⟩, ⟨⟨13, rfl⟩, trivial⟩⟩⟩⟩⟩⟩⟩⟩⟩⟩⟩⟩⟩⟩ [0, 1, 2, 3, 4] rfl (by decide)), hs82.nil, hs82.cap, hs81.nil, hs81.cap, hs80.nil, hs80.cap, hs76.nil, hs76.cap, hs75.nil, hs75.cap, hs74.nil, hs74.cap⟩
   ·
    refine jz (vs := [.bool false, .slice none 0 0, .bool false, .slice none 0 0, .slice none 0 0]) (t := 122) A V 5 rfl rfl rfl rfl pg (qk (z := .agg #[.bool false, .slice none 0 0, .bool false, .slice none 0 0, .slice none 0 0]) (by kernel_rfl) rfl) rfl ?_
    intro g91 w92 V
    refine ⟨(V.partD (cn (cc (cc (cc .slnil)))) 6 rfl (.refl _)), ?_⟩
    intro a A
    refine qi (by kernel_rfl) (jz (vs := [.bool false, .slice none 0 0, .bool false, .slice none 0 0, .slice none 0 0]) (t := 122) A V 4 rfl rfl rfl rfl pg (qk (z := .agg #[.bool false, .slice none 0 0, .bool false, .slice none 0 0, .slice none 0 0]) (by kernel_rfl) rfl) rfl ?_)
    intro g93 w94 V
    refine ⟨(V.partD (cn (cn (cc (cc (cc .slnil))))) 6 rfl (.refl _)), ?_⟩
    intro a A
    refine qi (by kernel_rfl) (zr (us := [.bool ((rb (spX u v))), .slice p73_1 ((words (spX u v).natAbs).length) p73_c1, .bool ((rb (spY u v))), .slice p73_2 ((words (spY u v).natAbs).length) p73_c2, .slice p73_3 ((words (spD u v)).length) p73_c3]) A V 6 rfl rfl rfl (qw rfl rfl rfl (by kernel_rfl) V 0 rfl rfl rfl) 0 rfl rfl rfl rfl ?_)
    intro w95 V
    refine ⟨(V.partD (cn (cn (cc (cc (cc .slnil))))) 6 rfl (.refl _)), ?_⟩
    refine qi (by kernel_rfl) (zr (us := [.bool ((rb (spX x y))), .slice p79_1 ((words (spX x y).natAbs).length) p79_c1, .bool ((rb (spY x y))), .slice p79_2 ((words (spY x y).natAbs).length) p79_c2, .slice p79_3 ((words (spD x y)).length) p79_c3]) A V 7 rfl rfl rfl (qw rfl rfl rfl (by kernel_rfl) V 1 rfl rfl rfl) 1 rfl rfl rfl rfl ?_)
    intro w96 V
    refine ⟨(V.partD (cn (cn (cc (cc (cc .slnil))))) 6 rfl (.refl _)), ?_⟩
    refine zb (by kernel_rfl) ?_
    refine hJ58 _ _ ⟨g93, g91, p73_1, p73_c1, p73_2, p73_c2, p73_3, p73_c3, p79_1, p79_c1, p79_2, p79_c2, p79_3, p79_c3, A.keep _ (by repeat' constructor), (St.pickRL V ⟨⟨0, rfl⟩, ⟨⟨1, rfl⟩, ⟨⟨2, rfl⟩, ⟨⟨3, rfl⟩, ⟨⟨4, rfl⟩, ⟨⟨5, rfl⟩, ⟨⟨6, rfl⟩, ⟨⟨7, rfl⟩, ⟨⟨8, rfl⟩, ⟨⟨9, rfl⟩, ⟨⟨10, rfl⟩, ⟨⟨11, rfl⟩, ⟨⟨12, rfl⟩, ⟨⟨13, rfl⟩, trivial⟩⟩⟩⟩⟩⟩⟩⟩⟩⟩⟩⟩⟩⟩ [1, 0, 2, 3, 4] rfl (by decide)), hs82.nil, hs82.cap, hs81.nil, hs81.cap, hs80.nil, hs80.cap, hs76.nil, hs76.cap, hs75.nil, hs75.cap, hs74.nil, hs74.cap⟩
  ·
   refine jz (vs := [.bool false, .slice none 0 0, .bool false, .slice none 0 0, .slice none 0 0]) (t := 122) A V 4 rfl rfl rfl rfl pg (qk (z := .agg #[.bool false, .slice none 0 0, .bool false, .slice none 0 0, .slice none 0 0]) (by kernel_rfl) rfl) rfl ?_
   intro g97 w98 V
   refine ⟨(V.partD (cn (cc (cc (cc .slnil)))) 3 rfl (.refl _)), ?_⟩
   intro a A
   refine jl (rs := [3, 5]) (by kernel_rfl) (by simp) ⟨?_, ?_, trivial⟩
   ·
    refine za A 3 rfl rfl rfl rfl (qj  rfl rfl (fun w => by kernel_rfl)) (je (show Nm _ (Q6.rat x y) u1 uc1 u2 uc2 u3 uc3 u4 uc4 from ⟨⟨(V.rd 6 rfl), hb.s1.nil, hb.s1.cap⟩, ⟨(V.rd 5 rfl), hb.s2.nil, hb.s2.cap⟩, ⟨(V.rd 4 rfl), hb.s3.nil, hb.s3.cap⟩, ⟨(V.rd 3 rfl), hb.s4.nil, hb.s4.cap⟩⟩) hx hy) ?_
    rintro _ w104 ⟨p99_1, p99_c1, p99_2, p99_c2, p99_3, p99_c3, rfl, hs100, hs101, hs102, hb103⟩
    replace V := V.call hb103
    replace V := V.addR hs100.rd
    replace V := V.addR hs101.rd
    replace V := V.addR hs102.rd
    refine ⟨_, rfl, (V.partD (cn (cc (cc (cc .slnil)))) 6 rfl (.refl _)), ?_⟩
    intro a A
    refine qi (by kernel_rfl) (jz (vs := [.bool false, .slice none 0 0, .bool false, .slice none 0 0, .slice none 0 0]) (t := 122) A V 5 rfl rfl rfl rfl pg (qk (z := .agg #[.bool false, .slice none 0 0, .bool false, .slice none 0 0, .slice none 0 0]) (by kernel_rfl) rfl) rfl ?_)
    intro g105 w106 V
    refine ⟨(V.partD (cn (cn (cc (cc (cc .slnil))))) 6 rfl (.refl _)), ?_⟩
    intro a A
    refine qi (by kernel_rfl) (zr (us := [.bool ((rb (spX u v))), .slice p73_1 ((words (spX u v).natAbs).length) p73_c1, .bool ((rb (spY u v))), .slice p73_2 ((words (spY u v).natAbs).length) p73_c2, .slice p73_3 ((words (spD u v)).length) p73_c3]) A V 6 rfl rfl rfl (qw rfl rfl rfl (by kernel_rfl) V 1 rfl rfl rfl) 1 rfl rfl rfl rfl ?_)
    intro w107 V
    refine ⟨(V.partD (cn (cn (cc (cc (cc .slnil))))) 6 rfl (.refl _)), ?_⟩
    refine qi (by kernel_rfl) (zr (us := [.bool ((rb (spX x y))), .slice p99_1 ((words (spX x y).natAbs).length) p99_c1, .bool ((rb (spY x y))), .slice p99_2 ((words (spY x y).natAbs).length) p99_c2, .slice p99_3 ((words (spD x y)).length) p99_c3]) A V 7 rfl rfl rfl (qw rfl rfl rfl (by kernel_rfl) V 0 rfl rfl rfl) 0 rfl rfl rfl rfl ?_)
    intro w108 V
    refine ⟨(V.partD (cn (cn (cc (cc (cc .slnil))))) 6 rfl (.refl _)), ?_⟩
    refine zb (by kernel_rfl) ?_
    refine hJ58 _ _ ⟨g97, g105, p73_1, p73_c1, p73_2, p73_c2, p73_3, p73_c3, p99_1, p99_c1, p99_2, p99_c2, p99_3, p99_c3, A.keep _ (by repeat' constructor), (St.pickRL V ⟨⟨0, rfl⟩, ⟨⟨1, rfl⟩, ⟨⟨2, rfl⟩, ⟨⟨3, rfl⟩, ⟨⟨4, rfl⟩, ⟨⟨5, rfl⟩, ⟨⟨6, rfl⟩, ⟨⟨7, rfl⟩, ⟨⟨8, rfl⟩, ⟨⟨9, rfl⟩, ⟨⟨10, rfl⟩, ⟨⟨11, rfl⟩, ⟨⟨12, rfl⟩, ⟨⟨13, rfl⟩, trivial⟩⟩⟩⟩⟩⟩⟩⟩⟩⟩⟩⟩⟩⟩ [0, 1, 2, 3, 4] rfl (by decide)), hs102.nil, hs102.cap, hs101.nil, hs101.cap, hs100.nil, hs100.cap, hs76.nil, hs76.cap, hs75.nil, hs75.cap, hs74.nil, hs74.cap⟩
   ·
    refine jz (vs := [.bool false, .slice none 0 0, .bool false, .slice none 0 0, .slice none 0 0]) (t := 122) A V 5 rfl rfl rfl rfl pg (qk (z := .agg #[.bool false, .slice none 0 0, .bool false, .slice none 0 0, .slice none 0 0]) (by kernel_rfl) rfl) rfl ?_
    intro g109 w110 V
    refine ⟨(V.partD (cn (cn (cc (cc (cc .slnil))))) 3 rfl (.refl _)), ?_⟩
    intro a A
    refine qi (by kernel_rfl) (za A 3 rfl rfl rfl rfl (qj  rfl rfl (fun w => by kernel_rfl)) (je (show Nm _ (Q6.rat x y) u1 uc1 u2 uc2 u3 uc3 u4 uc4 from ⟨⟨(V.rd 6 rfl), hb.s1.nil, hb.s1.cap⟩, ⟨(V.rd 5 rfl), hb.s2.nil, hb.s2.cap⟩, ⟨(V.rd 4 rfl), hb.s3.nil, hb.s3.cap⟩, ⟨(V.rd 3 rfl), hb.s4.nil, hb.s4.cap⟩⟩) hx hy) ?_)
    rintro _ w116 ⟨p111_1, p111_c1, p111_2, p111_c2, p111_3, p111_c3, rfl, hs112, hs113, hs114, hb115⟩
    replace V := V.call hb115
    replace V := V.addR hs112.rd
    replace V := V.addR hs113.rd
    replace V := V.addR hs114.rd
    refine ⟨_, rfl, (V.partD (cn (cn (cc (cc (cc .slnil))))) 6 rfl (.refl _)), ?_⟩
    intro a A
    refine qi (by kernel_rfl) (zr (us := [.bool ((rb (spX u v))), .slice p73_1 ((words (spX u v).natAbs).length) p73_c1, .bool ((rb (spY u v))), .slice p73_2 ((words (spY u v).natAbs).length) p73_c2, .slice p73_3 ((words (spD u v)).length) p73_c3]) A V 6 rfl rfl rfl (qw rfl rfl rfl (by kernel_rfl) V 1 rfl rfl rfl) 1 rfl rfl rfl rfl ?_)
    intro w117 V
    refine ⟨(V.partD (cn (cn (cc (cc (cc .slnil))))) 6 rfl (.refl _)), ?_⟩
    refine qi (by kernel_rfl) (zr (us := [.bool ((rb (spX x y))), .slice p111_1 ((words (spX x y).natAbs).length) p111_c1, .bool ((rb (spY x y))), .slice p111_2 ((words (spY x y).natAbs).length) p111_c2, .slice p111_3 ((words (spD x y)).length) p111_c3]) A V 7 rfl rfl rfl (qw rfl rfl rfl (by kernel_rfl) V 0 rfl rfl rfl) 0 rfl rfl rfl rfl ?_)
    intro w118 V
    refine ⟨(V.partD (cn (cn (cc (cc (cc .slnil))))) 6 rfl (.refl _)), ?_⟩
    refine zb (by kernel_rfl) ?_
    refine hJ58 _ _ ⟨g97, g109, p73_1, p73_c1, p73_2, p73_c2, p73_3, p73_c3, p111_1, p111_c1, p111_2, p111_c2, p111_3, p111_c3, A.keep _ (by repeat' constructor), (St.pickRL V ⟨⟨0, rfl⟩, ⟨⟨1, rfl⟩, ⟨⟨2, rfl⟩, ⟨⟨3, rfl⟩, ⟨⟨4, rfl⟩, ⟨⟨5, rfl⟩, ⟨⟨6, rfl⟩, ⟨⟨7, rfl⟩, ⟨⟨8, rfl⟩, ⟨⟨9, rfl⟩, ⟨⟨10, rfl⟩, ⟨⟨11, rfl⟩, ⟨⟨12, rfl⟩, ⟨⟨13, rfl⟩, trivial⟩⟩⟩⟩⟩⟩⟩⟩⟩⟩⟩⟩⟩⟩ [0, 1, 2, 3, 4] rfl (by decide)), hs114.nil, hs114.cap, hs113.nil, hs113.cap, hs112.nil, hs112.cap, hs76.nil, hs76.cap, hs75.nil, hs75.cap, hs74.nil, hs74.cap⟩
  ·
   refine jz (vs := [.bool false, .slice none 0 0, .bool false, .slice none 0 0, .slice none 0 0]) (t := 122) A V 5 rfl rfl rfl rfl pg (qk (z := .agg #[.bool false, .slice none 0 0, .bool false, .slice none 0 0, .slice none 0 0]) (by kernel_rfl) rfl) rfl ?_
   intro g119 w120 V
   refine ⟨(V.partD (cn (cc (cc (cc .slnil)))) 3 rfl (.refl _)), ?_⟩
   intro a A
   refine jl (rs := [3, 4]) (by kernel_rfl) (by simp) ⟨?_, ?_, trivial⟩
   ·
    refine za A 3 rfl rfl rfl rfl (qj  rfl rfl (fun w => by kernel_rfl)) (je (show Nm _ (Q6.rat x y) u1 uc1 u2 uc2 u3 uc3 u4 uc4 from ⟨⟨(V.rd 6 rfl), hb.s1.nil, hb.s1.cap⟩, ⟨(V.rd 5 rfl), hb.s2.nil, hb.s2.cap⟩, ⟨(V.rd 4 rfl), hb.s3.nil, hb.s3.cap⟩, ⟨(V.rd 3 rfl), hb.s4.nil, hb.s4.cap⟩⟩) hx hy) ?_
    rintro _ w126 ⟨p121_1, p121_c1, p121_2, p121_c2, p121_3, p121_c3, rfl, hs122, hs123, hs124, hb125⟩
    replace V := V.call hb125
    replace V := V.addR hs122.rd
    replace V := V.addR hs123.rd
    replace V := V.addR hs124.rd
    refine ⟨_, rfl, (V.partD (cn (cc (cc (cc .slnil)))) 6 rfl (.refl _)), ?_⟩
    intro a A
    refine qi (by kernel_rfl) (jz (vs := [.bool false, .slice none 0 0, .bool false, .slice none 0 0, .slice none 0 0]) (t := 122) A V 4 rfl rfl rfl rfl pg (qk (z := .agg #[.bool false, .slice none 0 0, .bool false, .slice none 0 0, .slice none 0 0]) (by kernel_rfl) rfl) rfl ?_)
    intro g127 w128 V
    refine ⟨(V.partD (cn (cn (cc (cc (cc .slnil))))) 6 rfl (.refl _)), ?_⟩
    intro a A
    refine qi (by kernel_rfl) (zr (us := [.bool ((rb (spX u v))), .slice p73_1 ((words (spX u v).natAbs).length) p73_c1, .bool ((rb (spY u v))), .slice p73_2 ((words (spY u v).natAbs).length) p73_c2, .slice p73_3 ((words (spD u v)).length) p73_c3]) A V 6 rfl rfl rfl (qw rfl rfl rfl (by kernel_rfl) V 0 rfl rfl rfl) 0 rfl rfl rfl rfl ?_)
    intro w129 V
    refine ⟨(V.partD (cn (cn (cc (cc (cc .slnil))))) 6 rfl (.refl _)), ?_⟩
    refine qi (by kernel_rfl) (zr (us := [.bool ((rb (spX x y))), .slice p121_1 ((words (spX x y).natAbs).length) p121_c1, .bool ((rb (spY x y))), .slice p121_2 ((words (spY x y).natAbs).length) p121_c2, .slice p121_3 ((words (spD x y)).length) p121_c3]) A V 7 rfl rfl rfl (qw rfl rfl rfl (by kernel_rfl) V 1 rfl rfl rfl) 1 rfl rfl rfl rfl ?_)
    intro w130 V
    refine ⟨(V.partD (cn (cn (cc (cc (cc .slnil))))) 6 rfl (.refl _)), ?_⟩
    refine zb (by kernel_rfl) ?_
    refine hJ58 _ _ ⟨g127, g119, p73_1, p73_c1, p73_2, p73_c2, p73_3, p73_c3, p121_1, p121_c1, p121_2, p121_c2, p121_3, p121_c3, A.keep _ (by repeat' constructor), (St.pickRL V ⟨⟨0, rfl⟩, ⟨⟨1, rfl⟩, ⟨⟨2, rfl⟩, ⟨⟨3, rfl⟩, ⟨⟨4, rfl⟩, ⟨⟨5, rfl⟩, ⟨⟨6, rfl⟩, ⟨⟨7, rfl⟩, ⟨⟨8, rfl⟩, ⟨⟨9, rfl⟩, ⟨⟨10, rfl⟩, ⟨⟨11, rfl⟩, ⟨⟨12, rfl⟩, ⟨⟨13, rfl⟩, trivial⟩⟩⟩⟩⟩⟩⟩⟩⟩⟩⟩⟩⟩⟩ [1, 0, 2, 3, 4] rfl (by decide)), hs124.nil, hs124.cap, hs123.nil, hs123.cap, hs122.nil, hs122.cap, hs76.nil, hs76.cap, hs75.nil, hs75.cap, hs74.nil, hs74.cap⟩
   ·
    refine jz (vs := [.bool false, .slice none 0 0, .bool false, .slice none 0 0, .slice none 0 0]) (t := 122) A V 4 rfl rfl rfl rfl pg (qk (z := .agg #[.bool false, .slice none 0 0, .bool false, .slice none 0 0, .slice none 0 0]) (by kernel_rfl) rfl) rfl ?_
    intro g131 w132 V
    refine ⟨(V.partD (cn (cn (cc (cc (cc .slnil))))) 3 rfl (.refl _)), ?_⟩
    intro a A
    refine qi (by kernel_rfl) (za A 3 rfl rfl rfl rfl (qj  rfl rfl (fun w => by kernel_rfl)) (je (show Nm _ (Q6.rat x y) u1 uc1 u2 uc2 u3 uc3 u4 uc4 from ⟨⟨(V.rd 6 rfl), hb.s1.nil, hb.s1.cap⟩, ⟨(V.rd 5 rfl), hb.s2.nil, hb.s2.cap⟩, ⟨(V.rd 4 rfl), hb.s3.nil, hb.s3.cap⟩, ⟨(V.rd 3 rfl), hb.s4.nil, hb.s4.cap⟩⟩) hx hy) ?_)
    rintro _ w138 ⟨p133_1, p133_c1, p133_2, p133_c2, p133_3, p133_c3, rfl, hs134, hs135, hs136, hb137⟩
    replace V := V.call hb137
    replace V := V.addR hs134.rd
    replace V := V.addR hs135.rd
    replace V := V.addR hs136.rd
    refine ⟨_, rfl, (V.partD (cn (cn (cc (cc (cc .slnil))))) 6 rfl (.refl _)), ?_⟩
    intro a A
    refine qi (by kernel_rfl) (zr (us := [.bool ((rb (spX u v))), .slice p73_1 ((words (spX u v).natAbs).length) p73_c1, .bool ((rb (spY u v))), .slice p73_2 ((words (spY u v).natAbs).length) p73_c2, .slice p73_3 ((words (spD u v)).length) p73_c3]) A V 6 rfl rfl rfl (qw rfl rfl rfl (by kernel_rfl) V 0 rfl rfl rfl) 0 rfl rfl rfl rfl ?_)
    intro w139 V
    refine ⟨(V.partD (cn (cn (cc (cc (cc .slnil))))) 6 rfl (.refl _)), ?_⟩
    refine qi (by kernel_rfl) (zr (us := [.bool ((rb (spX x y))), .slice p133_1 ((words (spX x y).natAbs).length) p133_c1, .bool ((rb (spY x y))), .slice p133_2 ((words (spY x y).natAbs).length) p133_c2, .slice p133_3 ((words (spD x y)).length) p133_c3]) A V 7 rfl rfl rfl (qw rfl rfl rfl (by kernel_rfl) V 1 rfl rfl rfl) 1 rfl rfl rfl rfl ?_)
    intro w140 V
    refine ⟨(V.partD (cn (cn (cc (cc (cc .slnil))))) 6 rfl (.refl _)), ?_⟩
    refine zb (by kernel_rfl) ?_
    refine hJ58 _ _ ⟨g131, g119, p73_1, p73_c1, p73_2, p73_c2, p73_3, p73_c3, p133_1, p133_c1, p133_2, p133_c2, p133_3, p133_c3, A.keep _ (by repeat' constructor), (St.pickRL V ⟨⟨0, rfl⟩, ⟨⟨1, rfl⟩, ⟨⟨2, rfl⟩, ⟨⟨3, rfl⟩, ⟨⟨4, rfl⟩, ⟨⟨5, rfl⟩, ⟨⟨6, rfl⟩, ⟨⟨7, rfl⟩, ⟨⟨8, rfl⟩, ⟨⟨9, rfl⟩, ⟨⟨10, rfl⟩, ⟨⟨11, rfl⟩, ⟨⟨12, rfl⟩, ⟨⟨13, rfl⟩, trivial⟩⟩⟩⟩⟩⟩⟩⟩⟩⟩⟩⟩⟩⟩ [1, 0, 2, 3, 4] rfl (by decide)), hs136.nil, hs136.cap, hs135.nil, hs135.cap, hs134.nil, hs134.cap, hs76.nil, hs76.cap, hs75.nil, hs75.cap, hs74.nil, hs74.cap⟩
 ·
  refine jz (vs := [.bool false, .slice none 0 0, .bool false, .slice none 0 0, .slice none 0 0]) (t := 122) A V 4 rfl rfl rfl rfl pg (qk (z := .agg #[.bool false, .slice none 0 0, .bool false, .slice none 0 0, .slice none 0 0]) (by kernel_rfl) rfl) rfl ?_
  intro g141 w142 V
  refine ⟨(V.partD (cn (cc (cc (cc .slnil)))) 0 rfl (.refl _)), ?_⟩
  intro a A
  refine jl (rs := [1, 5]) (by kernel_rfl) (by simp) ⟨?_, ?_, trivial⟩
  ·
   refine za A 1 rfl rfl rfl rfl (qj  rfl rfl (fun w => by kernel_rfl)) (je (show Nm _ (Q6.rat u v) a1 ac1 a2 ac2 a3 ac3 a4 ac4 from ⟨⟨(V.rd 7 rfl), ha.s1.nil, ha.s1.cap⟩, ⟨(V.rd 6 rfl), ha.s2.nil, ha.s2.cap⟩, ⟨(V.rd 5 rfl), ha.s3.nil, ha.s3.cap⟩, ⟨(V.rd 4 rfl), ha.s4.nil, ha.s4.cap⟩⟩) hu hv) ?_
   rintro _ w148 ⟨p143_1, p143_c1, p143_2, p143_c2, p143_3, p143_c3, rfl, hs144, hs145, hs146, hb147⟩
   replace V := V.call hb147
   replace V := V.addR hs144.rd
   replace V := V.addR hs145.rd
   replace V := V.addR hs146.rd
   refine ⟨_, rfl, (V.partD (cn (cc (cc (cc .slnil)))) 3 rfl (.refl _)), ?_⟩
   intro a A
   refine jl (rs := [3, 5]) (by kernel_rfl) (by simp) ⟨?_, ?_, trivial⟩
   ·
    refine za A 3 rfl rfl rfl rfl (qj  rfl rfl (fun w => by kernel_rfl)) (je (show Nm _ (Q6.rat x y) u1 uc1 u2 uc2 u3 uc3 u4 uc4 from ⟨⟨(V.rd 6 rfl), hb.s1.nil, hb.s1.cap⟩, ⟨(V.rd 5 rfl), hb.s2.nil, hb.s2.cap⟩, ⟨(V.rd 4 rfl), hb.s3.nil, hb.s3.cap⟩, ⟨(V.rd 3 rfl), hb.s4.nil, hb.s4.cap⟩⟩) hx hy) ?_
    rintro _ w154 ⟨p149_1, p149_c1, p149_2, p149_c2, p149_3, p149_c3, rfl, hs150, hs151, hs152, hb153⟩
    replace V := V.call hb153
    replace V := V.addR hs150.rd
    replace V := V.addR hs151.rd
    replace V := V.addR hs152.rd
    refine ⟨_, rfl, (V.partD (cn (cc (cc (cc .slnil)))) 6 rfl (.refl _)), ?_⟩
    intro a A
    refine qi (by kernel_rfl) (jz (vs := [.bool false, .slice none 0 0, .bool false, .slice none 0 0, .slice none 0 0]) (t := 122) A V 5 rfl rfl rfl rfl pg (qk (z := .agg #[.bool false, .slice none 0 0, .bool false, .slice none 0 0, .slice none 0 0]) (by kernel_rfl) rfl) rfl ?_)
    intro g155 w156 V
    refine ⟨(V.partD (cn (cn (cc (cc (cc .slnil))))) 6 rfl (.refl _)), ?_⟩
    intro a A
    refine qi (by kernel_rfl) (zr (us := [.bool ((rb (spX u v))), .slice p143_1 ((words (spX u v).natAbs).length) p143_c1, .bool ((rb (spY u v))), .slice p143_2 ((words (spY u v).natAbs).length) p143_c2, .slice p143_3 ((words (spD u v)).length) p143_c3]) A V 6 rfl rfl rfl (qw rfl rfl rfl (by kernel_rfl) V 1 rfl rfl rfl) 1 rfl rfl rfl rfl ?_)
    intro w157 V
    refine ⟨(V.partD (cn (cn (cc (cc (cc .slnil))))) 6 rfl (.refl _)), ?_⟩
    refine qi (by kernel_rfl) (zr (us := [.bool ((rb (spX x y))), .slice p149_1 ((words (spX x y).natAbs).length) p149_c1, .bool ((rb (spY x y))), .slice p149_2 ((words (spY x y).natAbs).length) p149_c2, .slice p149_3 ((words (spD x y)).length) p149_c3]) A V 7 rfl rfl rfl (qw rfl rfl rfl (by kernel_rfl) V 0 rfl rfl rfl) 0 rfl rfl rfl rfl ?_)
    intro w158 V
    refine ⟨(V.partD (cn (cn (cc (cc (cc .slnil))))) 6 rfl (.refl _)), ?_⟩
    refine zb (by kernel_rfl) ?_
    refine hJ58 _ _ ⟨g141, g155, p143_1, p143_c1, p143_2, p143_c2, p143_3, p143_c3, p149_1, p149_c1, p149_2, p149_c2, p149_3, p149_c3, A.keep _ (by repeat' constructor), (St.pickRL V ⟨⟨0, rfl⟩, ⟨⟨1, rfl⟩, ⟨⟨2, rfl⟩, ⟨⟨3, rfl⟩, ⟨⟨4, rfl⟩, ⟨⟨5, rfl⟩, ⟨⟨6, rfl⟩, ⟨⟨7, rfl⟩, ⟨⟨8, rfl⟩, ⟨⟨9, rfl⟩, ⟨⟨10, rfl⟩, ⟨⟨11, rfl⟩, ⟨⟨12, rfl⟩, ⟨⟨13, rfl⟩, trivial⟩⟩⟩⟩⟩⟩⟩⟩⟩⟩⟩⟩⟩⟩ [0, 1, 2, 3, 4] rfl (by decide)), hs152.nil, hs152.cap, hs151.nil, hs151.cap, hs150.nil, hs150.cap, hs146.nil, hs146.cap, hs145.nil, hs145.cap, hs144.nil, hs144.cap⟩
   ·
    refine jz (vs := [.bool false, .slice none 0 0, .bool false, .slice none 0 0, .slice none 0 0]) (t := 122) A V 5 rfl rfl rfl rfl pg (qk (z := .agg #[.bool false, .slice none 0 0, .bool false, .slice none 0 0, .slice none 0 0]) (by kernel_rfl) rfl) rfl ?_
    intro g159 w160 V
    refine ⟨(V.partD (cn (cn (cc (cc (cc .slnil))))) 3 rfl (.refl _)), ?_⟩
    intro a A
    refine qi (by kernel_rfl) (za A 3 rfl rfl rfl rfl (qj  rfl rfl (fun w => by kernel_rfl)) (je (show Nm _ (Q6.rat x y) u1 uc1 u2 uc2 u3 uc3 u4 uc4 from ⟨⟨(V.rd 6 rfl), hb.s1.nil, hb.s1.cap⟩, ⟨(V.rd 5 rfl), hb.s2.nil, hb.s2.cap⟩, ⟨(V.rd 4 rfl), hb.s3.nil, hb.s3.cap⟩, ⟨(V.rd 3 rfl), hb.s4.nil, hb.s4.cap⟩⟩) hx hy) ?_)
    rintro _ w166 ⟨p161_1, p161_c1, p161_2, p161_c2, p161_3, p161_c3, rfl, hs162, hs163, hs164, hb165⟩
    replace V := V.call hb165
    replace V := V.addR hs162.rd
    replace V := V.addR hs163.rd
    replace V := V.addR hs164.rd
    refine ⟨_, rfl, (V.partD (cn (cn (cc (cc (cc .slnil))))) 6 rfl (.refl _)), ?_⟩
    intro a A
    refine qi (by kernel_rfl) (zr (us := [.bool ((rb (spX u v))), .slice p143_1 ((words (spX u v).natAbs).length) p143_c1, .bool ((rb (spY u v))), .slice p143_2 ((words (spY u v).natAbs).length) p143_c2, .slice p143_3 ((words (spD u v)).length) p143_c3]) A V 6 rfl rfl rfl (qw rfl rfl rfl (by kernel_rfl) V 1 rfl rfl rfl) 1 rfl rfl rfl rfl ?_)
    intro w167 V
    refine ⟨(V.partD (cn (cn (cc (cc (cc .slnil))))) 6 rfl (.refl _)), ?_⟩
    refine qi (by kernel_rfl) (zr (us := [.bool ((rb (spX x y))), .slice p161_1 ((words (spX x y).natAbs).length) p161_c1, .bool ((rb (spY x y))), .slice p161_2 ((words (spY x y).natAbs).length) p161_c2, .slice p161_3 ((words (spD x y)).length) p161_c3]) A V 7 rfl rfl rfl (qw rfl rfl rfl (by kernel_rfl) V 0 rfl rfl rfl) 0 rfl rfl rfl rfl ?_)
    intro w168 V
    refine ⟨(V.partD (cn (cn (cc (cc (cc .slnil))))) 6 rfl (.refl _)), ?_⟩
    refine zb (by kernel_rfl) ?_
    refine hJ58 _ _ ⟨g141, g159, p143_1, p143_c1, p143_2, p143_c2, p143_3, p143_c3, p161_1, p161_c1, p161_2, p161_c2, p161_3, p161_c3, A.keep _ (by repeat' constructor), (St.pickRL V ⟨⟨0, rfl⟩, ⟨⟨1, rfl⟩, ⟨⟨2, rfl⟩, ⟨⟨3, rfl⟩, ⟨⟨4, rfl⟩, ⟨⟨5, rfl⟩, ⟨⟨6, rfl⟩, ⟨⟨7, rfl⟩, ⟨⟨8, rfl⟩, ⟨⟨9, rfl⟩, ⟨⟨10, rfl⟩, ⟨⟨11, rfl⟩, ⟨⟨12, rfl⟩, ⟨⟨13, rfl⟩, trivial⟩⟩⟩⟩⟩⟩⟩⟩⟩⟩⟩⟩⟩⟩ [0, 1, 2, 3, 4] rfl (by decide)), hs164.nil, hs164.cap, hs163.nil, hs163.cap, hs162.nil, hs162.cap, hs146.nil, hs146.cap, hs145.nil, hs145.cap, hs144.nil, hs144.cap⟩
  ·
   refine jz (vs := [.bool false, .slice none 0 0, .bool false, .slice none 0 0, .slice none 0 0]) (t := 122) A V 5 rfl rfl rfl rfl pg (qk (z := .agg #[.bool false, .slice none 0 0, .bool false, .slice none 0 0, .slice none 0 0]) (by kernel_rfl) rfl) rfl ?_
   intro g169 w170 V
   refine ⟨(V.partD (cn (cn (cc (cc (cc .slnil))))) 0 rfl (.refl _)), ?_⟩
   intro a A
   refine qi (by kernel_rfl) (za A 1 rfl rfl rfl rfl (qj  rfl rfl (fun w => by kernel_rfl)) (je (show Nm _ (Q6.rat u v) a1 ac1 a2 ac2 a3 ac3 a4 ac4 from ⟨⟨(V.rd 7 rfl), ha.s1.nil, ha.s1.cap⟩, ⟨(V.rd 6 rfl), ha.s2.nil, ha.s2.cap⟩, ⟨(V.rd 5 rfl), ha.s3.nil, ha.s3.cap⟩, ⟨(V.rd 4 rfl), ha.s4.nil, ha.s4.cap⟩⟩) hu hv) ?_)
   rintro _ w176 ⟨p171_1, p171_c1, p171_2, p171_c2, p171_3, p171_c3, rfl, hs172, hs173, hs174, hb175⟩
   replace V := V.call hb175
   replace V := V.addR hs172.rd
   replace V := V.addR hs173.rd
   replace V := V.addR hs174.rd
   refine ⟨_, rfl, (V.partD (cn (cn (cc (cc (cc .slnil))))) 3 rfl (.refl _)), ?_⟩
   intro a A
   refine qi (by kernel_rfl) (za A 3 rfl rfl rfl rfl (qj  rfl rfl (fun w => by kernel_rfl)) (je (show Nm _ (Q6.rat x y) u1 uc1 u2 uc2 u3 uc3 u4 uc4 from ⟨⟨(V.rd 6 rfl), hb.s1.nil, hb.s1.cap⟩, ⟨(V.rd 5 rfl), hb.s2.nil, hb.s2.cap⟩, ⟨(V.rd 4 rfl), hb.s3.nil, hb.s3.cap⟩, ⟨(V.rd 3 rfl), hb.s4.nil, hb.s4.cap⟩⟩) hx hy) ?_)
   rintro _ w182 ⟨p177_1, p177_c1, p177_2, p177_c2, p177_3, p177_c3, rfl, hs178, hs179, hs180, hb181⟩
   replace V := V.call hb181
   replace V := V.addR hs178.rd
   replace V := V.addR hs179.rd
   replace V := V.addR hs180.rd
   refine ⟨_, rfl, (V.partD (cn (cn (cc (cc (cc .slnil))))) 6 rfl (.refl _)), ?_⟩
   intro a A
   refine qi (by kernel_rfl) (zr (us := [.bool ((rb (spX u v))), .slice p171_1 ((words (spX u v).natAbs).length) p171_c1, .bool ((rb (spY u v))), .slice p171_2 ((words (spY u v).natAbs).length) p171_c2, .slice p171_3 ((words (spD u v)).length) p171_c3]) A V 6 rfl rfl rfl (qw rfl rfl rfl (by kernel_rfl) V 1 rfl rfl rfl) 1 rfl rfl rfl rfl ?_)
   intro w183 V
   refine ⟨(V.partD (cn (cn (cc (cc (cc .slnil))))) 6 rfl (.refl _)), ?_⟩
   refine qi (by kernel_rfl) (zr (us := [.bool ((rb (spX x y))), .slice p177_1 ((words (spX x y).natAbs).length) p177_c1, .bool ((rb (spY x y))), .slice p177_2 ((words (spY x y).natAbs).length) p177_c2, .slice p177_3 ((words (spD x y)).length) p177_c3]) A V 7 rfl rfl rfl (qw rfl rfl rfl (by kernel_rfl) V 0 rfl rfl rfl) 0 rfl rfl rfl rfl ?_)
   intro w184 V
   refine ⟨(V.partD (cn (cn (cc (cc (cc .slnil))))) 6 rfl (.refl _)), ?_⟩
   refine zb (by kernel_rfl) ?_
   refine hJ58 _ _ ⟨g141, g169, p171_1, p171_c1, p171_2, p171_c2, p171_3, p171_c3, p177_1, p177_c1, p177_2, p177_c2, p177_3, p177_c3, A.keep _ (by repeat' constructor), (St.pickRL V ⟨⟨0, rfl⟩, ⟨⟨1, rfl⟩, ⟨⟨2, rfl⟩, ⟨⟨3, rfl⟩, ⟨⟨4, rfl⟩, ⟨⟨5, rfl⟩, ⟨⟨6, rfl⟩, ⟨⟨7, rfl⟩, ⟨⟨8, rfl⟩, ⟨⟨9, rfl⟩, ⟨⟨10, rfl⟩, ⟨⟨11, rfl⟩, ⟨⟨12, rfl⟩, ⟨⟨13, rfl⟩, trivial⟩⟩⟩⟩⟩⟩⟩⟩⟩⟩⟩⟩⟩⟩ [0, 1, 2, 3, 4] rfl (by decide)), hs180.nil, hs180.cap, hs179.nil, hs179.cap, hs178.nil, hs178.cap, hs174.nil, hs174.cap, hs173.nil, hs173.cap, hs172.nil, hs172.cap⟩
 ·
  refine jz (vs := [.bool false, .slice none 0 0, .bool false, .slice none 0 0, .slice none 0 0]) (t := 122) A V 5 rfl rfl rfl rfl pg (qk (z := .agg #[.bool false, .slice none 0 0, .bool false, .slice none 0 0, .slice none 0 0]) (by kernel_rfl) rfl) rfl ?_
  intro g185 w186 V
  refine ⟨(V.partD (cn (cc (cc (cc .slnil)))) 0 rfl (.refl _)), ?_⟩
  intro a A
  refine jl (rs := [1, 4]) (by kernel_rfl) (by simp) ⟨?_, ?_, trivial⟩
  ·
   refine za A 1 rfl rfl rfl rfl (qj  rfl rfl (fun w => by kernel_rfl)) (je (show Nm _ (Q6.rat u v) a1 ac1 a2 ac2 a3 ac3 a4 ac4 from ⟨⟨(V.rd 7 rfl), ha.s1.nil, ha.s1.cap⟩, ⟨(V.rd 6 rfl), ha.s2.nil, ha.s2.cap⟩, ⟨(V.rd 5 rfl), ha.s3.nil, ha.s3.cap⟩, ⟨(V.rd 4 rfl), ha.s4.nil, ha.s4.cap⟩⟩) hu hv) ?_
   rintro _ w192 ⟨p187_1, p187_c1, p187_2, p187_c2, p187_3, p187_c3, rfl, hs188, hs189, hs190, hb191⟩
   replace V := V.call hb191
   replace V := V.addR hs188.rd
   replace V := V.addR hs189.rd
   replace V := V.addR hs190.rd
   refine ⟨_, rfl, (V.partD (cn (cc (cc (cc .slnil)))) 3 rfl (.refl _)), ?_⟩
   intro a A
   refine jl (rs := [3, 4]) (by kernel_rfl) (by simp) ⟨?_, ?_, trivial⟩
   ·
    refine za A 3 rfl rfl rfl rfl (qj  rfl rfl (fun w => by kernel_rfl)) (je (show Nm _ (Q6.rat x y) u1 uc1 u2 uc2 u3 uc3 u4 uc4 from ⟨⟨(V.rd 6 rfl), hb.s1.nil, hb.s1.cap⟩, ⟨(V.rd 5 rfl), hb.s2.nil, hb.s2.cap⟩, ⟨(V.rd 4 rfl), hb.s3.nil, hb.s3.cap⟩, ⟨(V.rd 3 rfl), hb.s4.nil, hb.s4.cap⟩⟩) hx hy) ?_
    rintro _ w198 ⟨p193_1, p193_c1, p193_2, p193_c2, p193_3, p193_c3, rfl, hs194, hs195, hs196, hb197⟩
    replace V := V.call hb197
    replace V := V.addR hs194.rd
    replace V := V.addR hs195.rd
    replace V := V.addR hs196.rd
    refine ⟨_, rfl, (V.partD (cn (cc (cc (cc .slnil)))) 6 rfl (.refl _)), ?_⟩
    intro a A
    refine qi (by kernel_rfl) (jz (vs := [.bool false, .slice none 0 0, .bool false, .slice none 0 0, .slice none 0 0]) (t := 122) A V 4 rfl rfl rfl rfl pg (qk (z := .agg #[.bool false, .slice none 0 0, .bool false, .slice none 0 0, .slice none 0 0]) (by kernel_rfl) rfl) rfl ?_)
    intro g199 w200 V
    refine ⟨(V.partD (cn (cn (cc (cc (cc .slnil))))) 6 rfl (.refl _)), ?_⟩
    intro a A
    refine qi (by kernel_rfl) (zr (us := [.bool ((rb (spX u v))), .slice p187_1 ((words (spX u v).natAbs).length) p187_c1, .bool ((rb (spY u v))), .slice p187_2 ((words (spY u v).natAbs).length) p187_c2, .slice p187_3 ((words (spD u v)).length) p187_c3]) A V 6 rfl rfl rfl (qw rfl rfl rfl (by kernel_rfl) V 0 rfl rfl rfl) 0 rfl rfl rfl rfl ?_)
    intro w201 V
    refine ⟨(V.partD (cn (cn (cc (cc (cc .slnil))))) 6 rfl (.refl _)), ?_⟩
    refine qi (by kernel_rfl) (zr (us := [.bool ((rb (spX x y))), .slice p193_1 ((words (spX x y).natAbs).length) p193_c1, .bool ((rb (spY x y))), .slice p193_2 ((words (spY x y).natAbs).length) p193_c2, .slice p193_3 ((words (spD x y)).length) p193_c3]) A V 7 rfl rfl rfl (qw rfl rfl rfl (by kernel_rfl) V 1 rfl rfl rfl) 1 rfl rfl rfl rfl ?_)
    intro w202 V
    refine ⟨(V.partD (cn (cn (cc (cc (cc .slnil))))) 6 rfl (.refl _)), ?_⟩
    refine zb (by kernel_rfl) ?_
    refine hJ58 _ _ ⟨g199, g185, p187_1, p187_c1, p187_2, p187_c2, p187_3, p187_c3, p193_1, p193_c1, p193_2, p193_c2, p193_3, p193_c3, A.keep _ (by repeat' constructor), (St.pickRL V ⟨⟨0, rfl⟩, ⟨⟨1, rfl⟩, ⟨⟨2, rfl⟩, ⟨⟨3, rfl⟩, ⟨⟨4, rfl⟩, ⟨⟨5, rfl⟩, ⟨⟨6, rfl⟩, ⟨⟨7, rfl⟩, ⟨⟨8, rfl⟩, ⟨⟨9, rfl⟩, ⟨⟨10, rfl⟩, ⟨⟨11, rfl⟩, ⟨⟨12, rfl⟩, ⟨⟨13, rfl⟩, trivial⟩⟩⟩⟩⟩⟩⟩⟩⟩⟩⟩⟩⟩⟩ [1, 0, 2, 3, 4] rfl (by decide)), hs196.nil, hs196.cap, hs195.nil, hs195.cap, hs194.nil, hs194.cap, hs190.nil, hs190.cap, hs189.nil, hs189.cap, hs188.nil, hs188.cap⟩
   ·
    refine jz (vs := [.bool false, .slice none 0 0, .bool false, .slice none 0 0, .slice none 0 0]) (t := 122) A V 4 rfl rfl rfl rfl pg (qk (z := .agg #[.bool false, .slice none 0 0, .bool false, .slice none 0 0, .slice none 0 0]) (by kernel_rfl) rfl) rfl ?_
    intro g203 w204 V
    refine ⟨(V.partD (cn (cn (cc (cc (cc .slnil))))) 3 rfl (.refl _)), ?_⟩
    intro a A
    refine qi (by kernel_rfl) (za A 3 rfl rfl rfl rfl (qj  rfl rfl (fun w => by kernel_rfl)) (je (show Nm _ (Q6.rat x y) u1 uc1 u2 uc2 u3 uc3 u4 uc4 from ⟨⟨(V.rd 6 rfl), hb.s1.nil, hb.s1.cap⟩, ⟨(V.rd 5 rfl), hb.s2.nil, hb.s2.cap⟩, ⟨(V.rd 4 rfl), hb.s3.nil, hb.s3.cap⟩, ⟨(V.rd 3 rfl), hb.s4.nil, hb.s4.cap⟩⟩) hx hy) ?_)
    rintro _ w210 ⟨p205_1, p205_c1, p205_2, p205_c2, p205_3, p205_c3, rfl, hs206, hs207, hs208, hb209⟩
    replace V := V.call hb209
    replace V := V.addR hs206.rd
    replace V := V.addR hs207.rd
    replace V := V.addR hs208.rd
    refine ⟨_, rfl, (V.partD (cn (cn (cc (cc (cc .slnil))))) 6 rfl (.refl _)), ?_⟩
    intro a A
    refine qi (by kernel_rfl) (zr (us := [.bool ((rb (spX u v))), .slice p187_1 ((words (spX u v).natAbs).length) p187_c1, .bool ((rb (spY u v))), .slice p187_2 ((words (spY u v).natAbs).length) p187_c2, .slice p187_3 ((words (spD u v)).length) p187_c3]) A V 6 rfl rfl rfl (qw rfl rfl rfl (by kernel_rfl) V 0 rfl rfl rfl) 0 rfl rfl rfl rfl ?_)
    intro w211 V
    refine ⟨(V.partD (cn (cn (cc (cc (cc .slnil))))) 6 rfl (.refl _)), ?_⟩
    refine qi (by kernel_rfl) (zr (us := [.bool ((rb (spX x y))), .slice p205_1 ((words (spX x y).natAbs).length) p205_c1, .bool ((rb (spY x y))), .slice p205_2 ((words (spY x y).natAbs).length) p205_c2, .slice p205_3 ((words (spD x y)).length) p205_c3]) A V 7 rfl rfl rfl (qw rfl rfl rfl (by kernel_rfl) V 1 rfl rfl rfl) 1 rfl rfl rfl rfl ?_)
    intro w212 V
    refine ⟨(V.partD (cn (cn (cc (cc (cc .slnil))))) 6 rfl (.refl _)), ?_⟩
    refine zb (by kernel_rfl) ?_
    refine hJ58 _ _ ⟨g203, g185, p187_1, p187_c1, p187_2, p187_c2, p187_3, p187_c3, p205_1, p205_c1, p205_2, p205_c2, p205_3, p205_c3, A.keep _ (by repeat' constructor), (St.pickRL V ⟨⟨0, rfl⟩, ⟨⟨1, rfl⟩, ⟨⟨2, rfl⟩, ⟨⟨3, rfl⟩, ⟨⟨4, rfl⟩, ⟨⟨5, rfl⟩, ⟨⟨6, rfl⟩, ⟨⟨7, rfl⟩, ⟨⟨8, rfl⟩, ⟨⟨9, rfl⟩, ⟨⟨10, rfl⟩, ⟨⟨11, rfl⟩, ⟨⟨12, rfl⟩, ⟨⟨13, rfl⟩, trivial⟩⟩⟩⟩⟩⟩⟩⟩⟩⟩⟩⟩⟩⟩ [1, 0, 2, 3, 4] rfl (by decide)), hs208.nil, hs208.cap, hs207.nil, hs207.cap, hs206.nil, hs206.cap, hs190.nil, hs190.cap, hs189.nil, hs189.cap, hs188.nil, hs188.cap⟩
  ·
   refine jz (vs := [.bool false, .slice none 0 0, .bool false, .slice none 0 0, .slice none 0 0]) (t := 122) A V 4 rfl rfl rfl rfl pg (qk (z := .agg #[.bool false, .slice none 0 0, .bool false, .slice none 0 0, .slice none 0 0]) (by kernel_rfl) rfl) rfl ?_
   intro g213 w214 V
   refine ⟨(V.partD (cn (cn (cc (cc (cc .slnil))))) 0 rfl (.refl _)), ?_⟩
   intro a A
   refine qi (by kernel_rfl) (za A 1 rfl rfl rfl rfl (qj  rfl rfl (fun w => by kernel_rfl)) (je (show Nm _ (Q6.rat u v) a1 ac1 a2 ac2 a3 ac3 a4 ac4 from ⟨⟨(V.rd 7 rfl), ha.s1.nil, ha.s1.cap⟩, ⟨(V.rd 6 rfl), ha.s2.nil, ha.s2.cap⟩, ⟨(V.rd 5 rfl), ha.s3.nil, ha.s3.cap⟩, ⟨(V.rd 4 rfl), ha.s4.nil, ha.s4.cap⟩⟩) hu hv) ?_)
   rintro _ w220 ⟨p215_1, p215_c1, p215_2, p215_c2, p215_3, p215_c3, rfl, hs216, hs217, hs218, hb219⟩
   replace V := V.call hb219
   replace V := V.addR hs216.rd
   replace V := V.addR hs217.rd
   replace V := V.addR hs218.rd
   refine ⟨_, rfl, (V.partD (cn (cn (cc (cc (cc .slnil))))) 3 rfl (.refl _)), ?_⟩
   intro a A
   refine qi (by kernel_rfl) (za A 3 rfl rfl rfl rfl (qj  rfl rfl (fun w => by kernel_rfl)) (je (show Nm _ (Q6.rat x y) u1 uc1 u2 uc2 u3 uc3 u4 uc4 from ⟨⟨(V.rd 6 rfl), hb.s1.nil, hb.s1.cap⟩, ⟨(V.rd 5 rfl), hb.s2.nil, hb.s2.cap⟩, ⟨(V.rd 4 rfl), hb.s3.nil, hb.s3.cap⟩, ⟨(V.rd 3 rfl), hb.s4.nil, hb.s4.cap⟩⟩) hx hy) ?_)
   rintro _ w226 ⟨p221_1, p221_c1, p221_2, p221_c2, p221_3, p221_c3, rfl, hs222, hs223, hs224, hb225⟩
   replace V := V.call hb225
   replace V := V.addR hs222.rd
   replace V := V.addR hs223.rd
   replace V := V.addR hs224.rd
   refine ⟨_, rfl, (V.partD (cn (cn (cc (cc (cc .slnil))))) 6 rfl (.refl _)), ?_⟩
   intro a A
   refine qi (by kernel_rfl) (zr (us := [.bool ((rb (spX u v))), .slice p215_1 ((words (spX u v).natAbs).length) p215_c1, .bool ((rb (spY u v))), .slice p215_2 ((words (spY u v).natAbs).length) p215_c2, .slice p215_3 ((words (spD u v)).length) p215_c3]) A V 6 rfl rfl rfl (qw rfl rfl rfl (by kernel_rfl) V 0 rfl rfl rfl) 0 rfl rfl rfl rfl ?_)
   intro w227 V
   refine ⟨(V.partD (cn (cn (cc (cc (cc .slnil))))) 6 rfl (.refl _)), ?_⟩
   refine qi (by kernel_rfl) (zr (us := [.bool ((rb (spX x y))), .slice p221_1 ((words (spX x y).natAbs).length) p221_c1, .bool ((rb (spY x y))), .slice p221_2 ((words (spY x y).natAbs).length) p221_c2, .slice p221_3 ((words (spD x y)).length) p221_c3]) A V 7 rfl rfl rfl (qw rfl rfl rfl (by kernel_rfl) V 1 rfl rfl rfl) 1 rfl rfl rfl rfl ?_)
   intro w228 V
   refine ⟨(V.partD (cn (cn (cc (cc (cc .slnil))))) 6 rfl (.refl _)), ?_⟩
   refine zb (by kernel_rfl) ?_
   refine hJ58 _ _ ⟨g213, g185, p215_1, p215_c1, p215_2, p215_c2, p215_3, p215_c3, p221_1, p221_c1, p221_2, p221_c2, p221_3, p221_c3, A.keep _ (by repeat' constructor), (St.pickRL V ⟨⟨0, rfl⟩, ⟨⟨1, rfl⟩, ⟨⟨2, rfl⟩, ⟨⟨3, rfl⟩, ⟨⟨4, rfl⟩, ⟨⟨5, rfl⟩, ⟨⟨6, rfl⟩, ⟨⟨7, rfl⟩, ⟨⟨8, rfl⟩, ⟨⟨9, rfl⟩, ⟨⟨10, rfl⟩, ⟨⟨11, rfl⟩, ⟨⟨12, rfl⟩, ⟨⟨13, rfl⟩, trivial⟩⟩⟩⟩⟩⟩⟩⟩⟩⟩⟩⟩⟩⟩ [1, 0, 2, 3, 4] rfl (by decide)), hs224.nil, hs224.cap, hs223.nil, hs223.cap, hs222.nil, hs222.cap, hs218.nil, hs218.cap, hs217.nil, hs217.cap, hs216.nil, hs216.cap⟩
theorem znb {w : World} {p q : Q6} {a1 a2 a3 a4 : Option Addr} {ac1 ac2 ac3 ac4 : Nat} (ha : Nm w p a1 ac1 a2 ac2 a3 ac3 a4 ac4) (hl : LenQ p) {u1 u2 u3 u4 : Option Addr} {uc1 uc2 uc3 uc4 : Nat} (hb : Nm w q u1 uc1 u2 uc2 u3 uc3 u4 uc4) (hm : LenQ q) : Calls Tryz.prog 108 #[qce p a1 ac1 a2 ac2 a3 ac3 a4 ac4, qce q u1 uc1 u2 uc2 u3 uc3 u4 uc4] w fun e w' => e = .returned (.tuple #[.int .i64 (zee p q).1, .int .i64 (zee p q).2]) ∧ Below w.heap.size w w' := by
 unfold zee
 by_cases hw : xx p q = 0
 ·
  rw [if_pos hw]
  obtain ⟨s1, s2⟩ := zef hw
  obtain ⟨u, v, rfl, hu, hv⟩ := qfi ha.s1.rd.dig ha.s2.rd.dig ha.s3.rd.dig ha.s4.rd.dig s1
  obtain ⟨x, y, rfl, hx, hy⟩ := qfi hb.s1.rd.dig hb.s2.rd.dig hb.s3.rd.dig hb.s4.rd.dig s2
  rw [qbf, qbf]
  exact zna ha hb hu hv hx hy hw
 ·
  rw [if_neg hw]
  exact zmj ha hl hb hm (zsg hw)





section
variable {P : Program} {l : List (Nat × Value)} {dst : Option Tmp} {ty t : TypeId} {pos : String} {after : Array Edge} {guard : Option (Nat × Bool)} {w : World} {x y : Operand}
end

section
variable {fop : Nat → Nat → Nat} {fb : Bool → Bool → Bool} {b1 b2 : Bool} {y1 y2 : Nat}
end
section
variable {P : Program} {t : TypeId} {a b : Operand} {x y : Nat}
end




theorem BiK_is1_23 : Is1 Tryz.prog 23 := ⟨⟨_, Tryz.underlying23, rfl⟩, by kernel_rfl⟩
theorem BiK_is1_4 : Is1 Tryz.prog 4 := ⟨⟨_, Tryz.underlying4, rfl⟩, by kernel_rfl⟩
theorem BiK_fld_25_0 : FieldAt Tryz.prog 25 0 0 := ⟨_, _, Tryz.underlying25, rfl, rfl, by kernel_rfl⟩
theorem BiK_fld_25_1 : FieldAt Tryz.prog 25 1 1 := ⟨_, _, Tryz.underlying25, rfl, rfl, by kernel_rfl⟩
theorem BiK_fld_25_2 : FieldAt Tryz.prog 25 2 2 := ⟨_, _, Tryz.underlying25, rfl, rfl, by kernel_rfl⟩
theorem yp {w : World} {b b' : Bool} {t q t' q' : List Nat} {a1 a2 : Option Addr} {ac1 ac2 : Nat} (ha1 : Sc w a1 ac1 t) (ha2 : Sc w a2 ac2 q) {u1 u2 : Option Addr} {uc1 uc2 : Nat} (hu1 : Sc w u1 uc1 t') (hu2 : Sc w u2 uc2 q') (l1 : t.length ≤ 9223372036854775807) (l2 : q.length ≤ 9223372036854775807) (l3 : t'.length ≤ 9223372036854775807) (l4 : q'.length ≤ 9223372036854775807) {r : Bool} (hr : xf b t q b' t' q' = r) :
  Calls Tryz.prog 64 #[.agg #[.bool b, .slice a1 t.length ac1, .slice a2 q.length ac2], .agg #[.bool b', .slice u1 t'.length uc1, .slice u2 q'.length uc2]] w fun e w' => e = .returned (.bool r) ∧ Below w.heap.size w w' := by
 have S : St w w [] [(u2, q'), (u1, t'), (a2, q), (a1, t)] [] := ((((St.start w).addR ha1.rd).addR ha2.rd).addR hu1.rd).addR hu2.rd
 refine qm (l := [(0, .agg #[.bool b, .slice a1 t.length ac1, .slice a2 q.length ac2]), (1, .agg #[.bool b', .slice u1 t'.length uc1, .slice u2 q'.length uc2])]) Tryz.func64 rfl Tryz.ntmps64 rfl rfl ?_
 intro Q hret hnorm hP a A
 refine wsk fun K1 hK1 => wrl (zt A S rfl rfl rfl pg (qs rfl rfl) rfl ?_)
 intro g2 w3 S a A
 refine zt A S rfl rfl rfl pg (qs rfl rfl) rfl ?_
 intro g4 w5 S a A
 refine sda A λa A↦?_
 refine qa (hK1 _ _ (wsk fun K6 hK6 => wrl (sdo (v := .pointer (some ⟨g2, 0, none⟩)) A (qb BiK_fld_25_0 rfl rfl) λa A↦?_)))
 refine sdo A (qy S BiK_is1_4 rfl 1 rfl rfl) λa A↦?_
 refine sdo (v := .pointer (some ⟨g4, 0, none⟩)) A (qb BiK_fld_25_0 rfl rfl) λa A↦?_
 refine sdo A (qy S BiK_is1_4 rfl 0 rfl rfl) λa A↦?_
 rcases tf ((b == b')) with hb7 | hb7
 ·
  have hb7' := eq_of_beq hb7
  refine sdo (v := .bool true) A (qf rfl rfl (fun w => ((yv Tryz.underlying4) w).trans (by rw [hb7]))) λa A↦?_
  refine sdm A λa A↦?_
  refine sdo (v := .pointer (some ⟨g2, 1, none⟩)) A (qb BiK_fld_25_1 rfl rfl) λa A↦?_
  refine sdo A (qy S BiK_is1_23 rfl 1 rfl rfl) λa A↦?_
  refine sdo (v := .pointer (some ⟨g4, 1, none⟩)) A (qb BiK_fld_25_1 rfl rfl) λa A↦?_
  refine sdo A (qy S BiK_is1_23 rfl 0 rfl rfl) λa A↦?_
  rcases tf (decide (t = t')) with hb8 | hb8
  ·
   have hb8' := of_decide_eq_true hb8
   refine sct A (ef rfl rfl) (um _ _ (S.rd 3 rfl) (S.rd 1 rfl) l1 l3 hb8) ?_
   rintro _ w10 ⟨rfl, hb9⟩
   replace S := S.call hb9
   refine ⟨_, rfl, ?_⟩
   intro a A
   refine sdk (v := .bool true) A λa A↦?_
   refine sdm A λa A↦?_
   refine sdo (v := .pointer (some ⟨g2, 2, none⟩)) A (qb BiK_fld_25_2 rfl rfl) λa A↦?_
   refine sdo A (qy S BiK_is1_23 rfl 1 rfl rfl) λa A↦?_
   refine sdo (v := .pointer (some ⟨g4, 2, none⟩)) A (qb BiK_fld_25_2 rfl rfl) λa A↦?_
   refine sdo A (qy S BiK_is1_23 rfl 0 rfl rfl) λa A↦?_
   rcases tf (decide (q = q')) with hb11 | hb11
   ·
    have hb11' := of_decide_eq_true hb11
    refine sct A (ef rfl rfl) (um _ _ (S.rd 2 rfl) (S.rd 0 rfl) l2 l4 hb11) ?_
    rintro _ w13 ⟨rfl, hb12⟩
    replace S := S.call hb12
    refine ⟨_, rfl, ?_⟩
    intro a A
    refine sdk (v := .bool true) A λa A↦?_
    refine sda A λa A↦?_
    refine qa (hK6 _ _ (wp_ret (hret _ _ (en1 A rfl (qh rfl) ?_))))
    subst hr
    exact ⟨by unfold xf; rw [hb7, hb8, hb11]; try rfl, S.bel⟩
   ·
    have hb11' := of_decide_eq_false hb11
    refine sct A (ef rfl rfl) (um _ _ (S.rd 2 rfl) (S.rd 0 rfl) l2 l4 hb11) ?_
    rintro _ w15 ⟨rfl, hb14⟩
    replace S := S.call hb14
    refine ⟨_, rfl, ?_⟩
    intro a A
    refine sdk (v := .bool false) A λa A↦?_
    refine sda A λa A↦?_
    refine qa (hK6 _ _ (wp_ret (hret _ _ (en1 A rfl (qh rfl) ?_))))
    subst hr
    exact ⟨by unfold xf; rw [hb7, hb8, hb11]; try rfl, S.bel⟩
  ·
   have hb8' := of_decide_eq_false hb8
   refine sct A (ef rfl rfl) (um _ _ (S.rd 3 rfl) (S.rd 1 rfl) l1 l3 hb8) ?_
   rintro _ w17 ⟨rfl, hb16⟩
   replace S := S.call hb16
   refine ⟨_, rfl, ?_⟩
   intro a A
   refine sdk (v := .bool false) A λa A↦?_
   refine sdm A λa A↦?_
   iterate 5 refine qx A rfl rfl rfl λa A↦?_
   refine sdk (v := .bool false) A λa A↦?_
   refine sda A λa A↦?_
   refine qa (hK6 _ _ (wp_ret (hret _ _ (en1 A rfl (qh rfl) ?_))))
   subst hr
   exact ⟨by unfold xf; rw [hb7, hb8]; try rfl, S.bel⟩
 ·
  have hb7' := ne_of_beq_false hb7
  refine sdo (v := .bool false) A (qf rfl rfl (fun w => ((yv Tryz.underlying4) w).trans (by rw [hb7]))) λa A↦?_
  refine sdm A λa A↦?_
  iterate 5 refine qx A rfl rfl rfl λa A↦?_
  refine sdk (v := .bool false) A λa A↦?_
  refine sdm A λa A↦?_
  iterate 5 refine qx A rfl rfl rfl λa A↦?_
  refine sdk (v := .bool false) A λa A↦?_
  refine sda A λa A↦?_
  refine qa (hK6 _ _ (wp_ret (hret _ _ (en1 A rfl (qh rfl) ?_))))
  subst hr
  exact ⟨by unfold xf; rw [hb7]; try rfl, S.bel⟩
open Go.ChangeShapes Go.WideShapes Go.ChangeAt Go.RowKit Go.Joins Go.Deep
section
variable {H : Type} {enc : TypeId × Value → H} {W : World}
theorem trod_bool {fuel : Nat} {v : Value} {x : DataW H × List MemPlace} (h : DataW.trod enc Tryz.prog W 0 (fun _ => true) true fuel 4 [v] = some x) : ∃ b, v = .bool b := by
  obtain ⟨b, h, _⟩ := DataW.trod_bool Tryz.underlying4 h
  exact ⟨b, by simpa using h⟩
end
end Go.Proofs.YtipikhcmieboaaaGreatDoor
