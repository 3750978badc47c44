/- A walk's state, said by two lists: what the slots hold, and which blocks of its own the call has; and a law for each kind of step. A walk's memory, said by a list of blocks of the call's own and a list of rows of words that are read; what each operation does to it. Walks of small questions: does a fraction fit, is a number real, is it 0. Numbers as values of six cells, and what they stand for. Sound and whole numbers, as questions of six parts. Fractions in lowest terms, and whole numbers of any sign, as values. Walks of the small functions of rows of bits. Are two rows of words the same? Numbers of machine words, and sameness. Fractions in lowest terms, as the document makes them. Walks of the document's functions over fractions. Walks of the document's sums of fractions. The document's -a - 1, and shifts of numbers. Walks of the document's -a - 1, and of shifts. How long numbers are in bits, and their opposites less one. Walks of the document's shifts, of lengths, of opposites less one, and of questions of sameness. How many bits of a number are 1. Walks of how many bits are 1. Rows of bits put together word by word. Walks of rows of bits put together. Numbers put together bit by bit. Walks of numbers put together bit by bit, and of Not. The fixed fact on bits. Walks of small numbers and of sameness. Walks of the fixed fact, and of sameness by the document. Rows of two's complement, as the document has them. Walks of the document's rows of two's complement. Walks of the document's And, Or, Xor and Not. Walks of the law on shifts. Walks of the law on And, Or, Xor and Not. Fields of bits. Sound numbers as pairs of rational numbers. Operators on texts. The numbers are a field. Quotients of whole numbers, downwards, and the order of rational ones. Quotient and rest of real numbers. Facts of the order of real numbers. And, Or, Xor and Not as whole numbers. Powers of numbers. Shifts and fields of bits as products, quotients and rests. -/
import Derived.Test.YtjkpfnghiooblaaGreatDoorPwholen12b
import Derived.OrdersHeld
import Derived.Deep.RegionHeld3
import Derived.Laws.IdiomCopy
import Derived.ChangeKeysEq
import Derived.LoopN
import Derived.Deep.AppendLies
import Derived.Test.YtjkpfnghiooblaaGreatDoorNatN
import Derived.Test.YtjkpfnghiooblaaGreatDoorPwholen12a
import Derived.Test.YtjkpfnghiooblaaGreatDoorNatM
import Derived.Test.YtjkpfnghiooblaaGreatDoorNatK
import Derived.Test.YtjkpfnghiooblaaGreatDoorNatY
import Derived.Test.YtjkpfnghiooblaaGreatDoorNatH
import Derived.Test.YtjkpfnghiooblaaGreatDoorNatL
import Derived.Test.YtjkpfnghiooblaaGreatDoorBits
import Derived.Test.YtjkpfnghiooblaaGreatDoorBiTrim
import Derived.Test.YtjkpfnghiooblaaGreatDoorNatF
import Derived.Test.YtjkpfnghiooblaaGreatDoorTxtD
namespace Go.Proofs.YtjkpfnghiooblaaGreatDoor
open Go.RowKit
set_option linter.unusedVariables false
set_option linter.unusedSimpArgs false

/-! ### Slots -/
def xz : List (Nat × Value) → Nat → Option Value
  | [], _ => none
  | (k, v) :: t, n => cond (Nat.beq k n) (some v) (xz t n)
/-- What an operand is. -/
def ev (l : List (Nat × Value)) : Operand → Option Value
  | .tmp k => xz l k
  | .const v => some v
  | .global g => some (.pointer (some ⟨g, 0, none⟩))
  | .func f => some (.func (.func f) #[] #[])
def evs (l : List (Nat × Value)) : List Operand → Option (List Value)
  | [] => some []
  | x :: xs => match ev l x, evs l xs with | some v, some vs => some (v :: vs) | _, _ => none
def evp (l : List (Nat × Value)) : List (Nat × Operand) → Option (List (Nat × Value))
  | [] => some []
  | (i, x) :: xs => match ev l x, evp l xs with | some v, some vs => some ((i, v) :: vs) | _, _ => none
/-- The frame has n slots, and those that the list names hold what it says; no call waits for the end. -/
structure Sl (a : Act) (n : Nat) (l : List (Nat × Value)) : Prop where
  size : a.tmps.size = n
  holds : ∀ k v, xz l k = some v → a.tmps[k]? = some v
  none_ : a.defers = []
section
variable {a : Act} {n : Nat} {l : List (Nat × Value)}
theorem Sl.ev (h : Sl a n l) {x : Operand} {v : Value} (hx : ev l x = some v) : a.eval x = v := by
  cases x with
  | tmp k =>
    have := h.holds k v hx
    simp [Act.eval, Array.getD_eq_getD_getElem?, this]
  | const u => simpa [YtjkpfnghiooblaaGreatDoor.ev, Act.eval] using hx
  | global g => simpa [YtjkpfnghiooblaaGreatDoor.ev, Act.eval] using hx
  | func f => simpa [YtjkpfnghiooblaaGreatDoor.ev, Act.eval] using hx
theorem Sl.evs (h : Sl a n l) : ∀ {xs : List Operand} {vs : List Value}, evs l xs = some vs → xs.map a.eval = vs := by
  intro xs
  induction xs with
  | nil => intro vs hx; simp [YtjkpfnghiooblaaGreatDoor.evs] at hx; simp [hx]
  | cons x xs ih =>
    intro vs hx
    unfold YtjkpfnghiooblaaGreatDoor.evs at hx
    split at hx
    · rename_i v us h1 h2
      cases hx
      simp [h.ev h1, ih h2]
    · cases hx
theorem Sl.evp (h : Sl a n l) : ∀ {xs : List (Nat × Operand)} {vs : List (Nat × Value)}, evp l xs = some vs → xs.map (fun p => (p.1, a.eval p.2)) = vs := by
  intro xs
  induction xs with
  | nil => intro vs hx; simp [YtjkpfnghiooblaaGreatDoor.evp] at hx; simp [hx]
  | cons x xs ih =>
    intro vs hx
    obtain ⟨i, x⟩ := x
    unfold YtjkpfnghiooblaaGreatDoor.evp at hx
    split at hx
    · rename_i v us h1 h2
      cases hx
      simp [h.ev h1, ih h2]
    · cases hx
theorem Sl.put (h : Sl a n l) {d : Nat} (hd : Nat.blt d n = true) (v : Value) : Sl (a.put (some d) v) n ((d, v) :: l) := by
  refine ⟨by simp [Act.put, h.size], fun k u hk => ?_, by simp [Act.put, h.none_]⟩
  have hd' : d < a.tmps.size := by rw [h.size]; exact Nat.le_of_ble_eq_true hd
  unfold xz at hk
  cases hb : Nat.beq d k with
  | true =>
    rw [hb] at hk
    have : d = k := Nat.eq_of_beq_eq_true hb
    subst this
    simp only [cond_true, Option.some.injEq] at hk
    subst hk
    simp [Act.put, Array.getElem?_setIfInBounds, hd']
  | false =>
    rw [hb] at hk
    have hne : d ≠ k := fun e => by rw [e, Nat.beq_refl] at hb; cases hb
    simp only [cond_false] at hk
    simp [Act.put, Array.getElem?_setIfInBounds, hne, h.holds k u hk]
theorem Sl.enter {args : List Value} {m : Nat} (hl : args.length ≤ m) : Sl { tmps := args.toArray ++ Array.replicate (m - args.toArray.size) undef, defers := [] } m (args.zipIdx.map fun p => (p.2, p.1)) := by
  refine ⟨by simp; omega, fun k v hk => ?_, rfl⟩
  have key : ∀ (xs : List Value) (o : Nat), xz ((xs.zipIdx o).map fun p => (p.2, p.1)) k = some v → o ≤ k ∧ xs[k - o]? = some v := by
    intro xs
    induction xs with
    | nil => intro o h; simp [xz] at h
    | cons x xs ih =>
      intro o h
      simp only [List.zipIdx_cons, List.map_cons, xz] at h
      cases hb : Nat.beq o k with
      | true =>
        rw [hb] at h
        have : o = k := Nat.eq_of_beq_eq_true hb
        subst this
        simp only [cond_true, Option.some.injEq] at h
        simp [h]
      | false =>
        rw [hb] at h
        have hne : o ≠ k := fun e => by rw [e, Nat.beq_refl] at hb; cases hb
        simp only [cond_false] at h
        obtain ⟨h1, h2⟩ := ih _ h
        refine ⟨by omega, ?_⟩
        have : k - o = (k - (o + 1)) + 1 := by omega
        rw [this, List.getElem?_cons_succ]
        exact h2
  have h := (key args 0 hk).2
  simp only [Nat.sub_zero] at h
  have hlt : k < args.length := (List.getElem?_eq_some_iff.1 h).1
  rw [Array.getElem?_append_left (by simpa using hlt)]
  simpa using h
def AllIn (l : List (Nat × Value)) : List (Nat × Value) → Prop
  | [] => True
  | p :: t => xz l p.1 = some p.2 ∧ AllIn l t
theorem Sl.keep (h : Sl a n l) (l' : List (Nat × Value)) (hs : AllIn l l') : Sl a n l' := by
  refine ⟨h.size, ?_, h.none_⟩
  induction l' with
  | nil => intro k v hk; simp [xz] at hk
  | cons p t ih =>
    intro k v hk
    obtain ⟨d, u⟩ := p
    unfold xz at hk
    cases hb : Nat.beq d k with
    | true =>
      rw [hb] at hk
      have : d = k := Nat.eq_of_beq_eq_true hb
      subst this
      simp only [cond_true, Option.some.injEq] at hk
      subst hk
      exact h.holds _ _ hs.1
    | false =>
      rw [hb] at hk
      exact ih hs.2 k v hk
theorem Sl.cut (h : Sl a n l) (l' : List (Nat × Value)) (hl : ∀ k v, xz l' k = some v → xz l k = some v) : Sl a n l' := ⟨h.size, fun k v hk => h.holds k v (hl k v hk), h.none_⟩
end

/-! ### What an operation does -/
/-- With these slots, in this world, the operation yields v and leaves w'. -/
def Does (P : Program) (l : List (Nat × Value)) (o : Oper) (w : World) (v : Value) (w' : World) : Prop :=
  ∀ ρ : Operand → Value, (∀ x u, ev l x = some u → ρ x = u) → (execOp ρ o).run P w = .ok (.value v) w'
/-- .. yields nothing (a store). -/
def Sets (P : Program) (l : List (Nat × Value)) (o : Oper) (w : World) (w' : World) : Prop :=
  ∀ ρ : Operand → Value, (∀ x u, ev l x = some u → ρ x = u) → (execOp ρ o).run P w = .ok .skip w'
/-- .. calls a function. -/
def Enters (P : Program) (l : List (Nat × Value)) (o : Oper) (w : World) (f : FuncId) (vs : List Value) : Prop :=
  ∀ ρ : Operand → Value, (∀ x u, ev l x = some u → ρ x = u) → (execOp ρ o).run P w = .ok (.enter f vs.toArray) w
/-- Its guard, if it has one, says yes. -/
def zr (l : List (Nat × Value)) (ops : List Oper) (o : Oper) : Bool :=
  match o.guard with
  | none => true
  | some (j, b) => match ops[j]? with
    | some oj => match oj.dst with
      | some d => match xz l d with
        | some (.bool b') => b' == b
        | _ => false
      | none => false
    | none => false
/-- Its guard says no. -/
def uj (l : List (Nat × Value)) (ops : List Oper) (o : Oper) : Bool :=
  match o.guard with
  | none => false
  | some (j, b) => match ops[j]? with
    | some oj => match oj.dst with
      | some d => match xz l d with
        | some (.bool b') => b' != b
        | _ => false
      | none => false
    | none => false
section
variable {P : Program} {ops : List Oper} {Q : Exit → Act → World → Prop} {a : Act} {w w' : World} {n : Nat} {l : List (Nat × Value)} {o : Oper} {v : Value} {rest : List Oper}
theorem Sl.wanted (h : Sl a n l) (hp : zr l ops o = true) : Region.wanted o (yielded ops.toArray a.tmps) = true := by
  unfold Region.wanted
  unfold zr at hp
  split at hp
  · rename_i hg; rw [hg]
  · rename_i j b hg
    rw [hg]
    split at hp
    · rename_i oj hj
      split at hp
      · rename_i d hd
        split at hp
        · rename_i b' hb
          have := h.holds d _ hb
          simp only [beq_iff_eq] at hp
          simp [yielded, hj, hd, this, hp]
        · cases hp
      · cases hp
    · cases hp
theorem Sl.unwanted (h : Sl a n l) (hp : uj l ops o = true) : Region.wanted o (yielded ops.toArray a.tmps) = false := by
  unfold Region.wanted
  unfold uj at hp
  split at hp
  · cases hp
  · rename_i j b hg
    rw [hg]
    split at hp
    · rename_i oj hj
      split at hp
      · rename_i d hd
        split at hp
        · rename_i b' hb
          have := h.holds d _ hb
          simp only [bne_iff_ne, ne_eq] at hp
          simp [yielded, hj, hd, this, hp]
        · cases hp
      · cases hp
    · cases hp
/-- One step of a region that goes in its text's order. -/
theorem kv (hA : Sl a n l) (hg : zr l ops o = true) {d : Nat} (hdst : o.dst = some d) (hd : Nat.blt d n = true) (he : Does P l o w v w')
    (hk : ∀ a', Sl a' n ((d, v) :: l) → wpList P ops.toArray Q rest a' w') : wpList P ops.toArray Q (o :: rest) a w := by
  unfold wpList
  rw [if_pos (hA.wanted hg)]
  refine .inl ?_
  unfold Oper.wp
  rw [he a.eval (fun x u hx => hA.ev hx), Oper.upon_value, hdst]
  exact hk _ (hA.put hd v)
theorem uw (hA : Sl a n l) (hg : zr l ops o = true) (hdst : o.dst = none) (he : Sets P l o w w')
    (hk : wpList P ops.toArray Q rest a w') : wpList P ops.toArray Q (o :: rest) a w := by
  unfold wpList
  rw [if_pos (hA.wanted hg)]
  refine .inl ?_
  unfold Oper.wp
  rw [he a.eval (fun x u hx => hA.ev hx), Oper.upon_skip, hdst]
  exact hk
theorem ze (hA : Sl a n l) (hg : uj l ops o = true) {d : Nat} (hdst : o.dst = some d) (hd : Nat.blt d n = true)
    (hk : ∀ a', Sl a' n ((d, undef) :: l) → wpList P ops.toArray Q rest a' w) : wpList P ops.toArray Q (o :: rest) a w := by
  unfold wpList
  rw [hA.unwanted hg, if_neg (by simp), hdst]
  exact hk _ (hA.put hd undef)
theorem qg (hA : Sl a n l) (hg : zr l ops o = true) {d : Nat} (hdst : o.dst = some d) (hd : Nat.blt d n = true) {f : FuncId} {vs : List Value} (he : Enters P l o w f vs)
    {R : Ending → World → Prop} (hc : Calls P f vs.toArray w R)
    (hk : ∀ e w', R e w' → ∃ v, e = .returned v ∧ ∀ a', Sl a' n ((d, v) :: l) → wpList P ops.toArray Q rest a' w') : wpList P ops.toArray Q (o :: rest) a w := by
  unfold wpList
  rw [if_pos (hA.wanted hg)]
  refine .inl ?_
  unfold Oper.wp
  rw [he a.eval (fun x u hx => hA.ev hx), Oper.upon_enter]
  refine hc.mono ?_
  intro e w' hR
  obtain ⟨v, rfl, h⟩ := hk e w' hR
  simp only [hdst]
  exact h _ (hA.put hd v)
theorem qa (hk : Q .normal a w) : wpList P ops.toArray Q [] a w := hk
/-! .. and of a region that draws its order: S is what every world on the way meets. -/
variable {S : World → Prop} {md : Region.Mode} {fuel : Nat} {listed : Array Bool}
theorem qmc (hA : Sl a n l) (i : Nat) (hi : ops[i]? = some o) (hg : zr l ops o = true) {d : Nat} (hdst : o.dst = some d) (hd : Nat.blt d n = true) (hs : Region.noSelect ops.toArray = true) (hf : Region.free md ops.toArray listed i = true)
    (hr : (Region.ready md ops.toArray listed).contains i = true) (hQ : ∀ c a w, Q (.panic c) (a.put o.dst v) w → Q (.panic c) a w) (hS : S w) (he : ∀ w, S w → Does P l o w v w)
    (hk : ∀ a', Sl a' n ((d, v) :: l) → wpAnyH P md ops.toArray Q S fuel (listed.setIfInBounds i true) a' w) : wpAnyH P md ops.toArray Q S (fuel + 1) listed a w := by
  refine wpAnyH_take (i := i) (oi := o) (v := v) (by simpa using hi) hs hf hr hQ (Or.inl ⟨hA.wanted hg, fun w hw => he w hw a.eval (fun x u hx => hA.ev hx)⟩) hS ?_
  rw [hdst]
  exact hk _ (hA.put hd v)
theorem qh (hA : Sl a n l) (i : Nat) (hi : ops[i]? = some o) (hg : zr l ops o = true) {d : Nat} (hdst : o.dst = some d) (hd : Nat.blt d n = true) (hP : ∀ c a d v w, Q (.panic c) (Act.put a d v) w → Q (.panic c) a w) (hS : S w) (he : ∀ w, S w → Does P l o w v w)
    (hk : ∀ a', Sl a' n ((d, v) :: l) → wpAnyH P md ops.toArray Q S fuel (listed.setIfInBounds i true) a' w) (hs : Region.noSelect ops.toArray = true := by kernel_rfl) (hf : Region.free md ops.toArray listed i = true := by kernel_rfl) (hr : (Region.ready md ops.toArray listed).contains i = true := by kernel_rfl) : wpAnyH P md ops.toArray Q S (fuel + 1) listed a w :=
  qmc hA i hi hg hdst hd hs hf hr (fun c a w h => hP c a _ _ w h) hS he hk
theorem qmd (hA : Sl a n l) (i : Nat) (hi : ops[i]? = some o) (hg : uj l ops o = true) {d : Nat} (hdst : o.dst = some d) (hd : Nat.blt d n = true) (hs : Region.noSelect ops.toArray = true) (hf : Region.free md ops.toArray listed i = true)
    (hr : (Region.ready md ops.toArray listed).contains i = true) (hQ : ∀ c a w, Q (.panic c) (a.put o.dst undef) w → Q (.panic c) a w) (hS : S w)
    (hk : ∀ a', Sl a' n ((d, undef) :: l) → wpAnyH P md ops.toArray Q S fuel (listed.setIfInBounds i true) a' w) : wpAnyH P md ops.toArray Q S (fuel + 1) listed a w := by
  refine wpAnyH_take (i := i) (oi := o) (v := undef) (by simpa using hi) hs hf hr hQ (Or.inr ⟨hA.unwanted hg, rfl⟩) hS ?_
  rw [hdst]
  exact hk _ (hA.put hd undef)
theorem qca (hA : Sl a n l) (i : Nat) (hi : ops[i]? = some o) (hg : uj l ops o = true) {d : Nat} (hdst : o.dst = some d) (hd : Nat.blt d n = true) (hP : ∀ c a d v w, Q (.panic c) (Act.put a d v) w → Q (.panic c) a w) (hS : S w)
    (hk : ∀ a', Sl a' n ((d, undef) :: l) → wpAnyH P md ops.toArray Q S fuel (listed.setIfInBounds i true) a' w) (hs : Region.noSelect ops.toArray = true := by kernel_rfl) (hf : Region.free md ops.toArray listed i = true := by kernel_rfl) (hr : (Region.ready md ops.toArray listed).contains i = true := by kernel_rfl) : wpAnyH P md ops.toArray Q S (fuel + 1) listed a w :=
  qmd hA i hi hg hdst hd hs hf hr (fun c a w h => hP c a _ _ w h) hS hk
/-- One operation of it. -/
theorem qgj (hA : Sl a n l) (i : Nat) (hi : ops[i]? = some o) (hg : zr l ops o = true) {d : Nat} (hdst : o.dst = some d) (hd : Nat.blt d n = true) (he : Does P l o w v w') (hS : S w')
    (hk : ∀ a', Sl a' n ((d, v) :: l) → wpAnyH P md ops.toArray Q S fuel (listed.setIfInBounds i true) a' w') : wpOp P ops.toArray Q i (fun a' w' => S w' ∧ wpAnyH P md ops.toArray Q S fuel (listed.setIfInBounds i true) a' w') a w := by
  unfold wpOp
  simp only [List.getElem?_toArray, hi]
  rw [if_pos (hA.wanted hg)]
  refine .inl ?_
  unfold Oper.wp
  rw [he a.eval (fun x u hx => hA.ev hx), Oper.upon_value, hdst]
  exact ⟨hS, hk _ (hA.put hd v)⟩
theorem qtg (hA : Sl a n l) (i : Nat) (hi : ops[i]? = some o) (hg : zr l ops o = true) (hdst : o.dst = none) (he : Sets P l o w w') (hS : S w')
    (hk : wpAnyH P md ops.toArray Q S fuel (listed.setIfInBounds i true) a w') : wpOp P ops.toArray Q i (fun a' w' => S w' ∧ wpAnyH P md ops.toArray Q S fuel (listed.setIfInBounds i true) a' w') a w := by
  unfold wpOp
  simp only [List.getElem?_toArray, hi]
  rw [if_pos (hA.wanted hg)]
  refine .inl ?_
  unfold Oper.wp
  rw [he a.eval (fun x u hx => hA.ev hx), Oper.upon_skip, hdst]
  exact ⟨hS, hk⟩
theorem zf (hA : Sl a n l) (i : Nat) (hi : ops[i]? = some o) (hg : zr l ops o = true) {d : Nat} (hdst : o.dst = some d) (hd : Nat.blt d n = true)
    {f : FuncId} {vs : List Value} (he : Enters P l o w f vs) {R : Ending → World → Prop} (hc : Calls P f vs.toArray w R)
    (hk : ∀ e w', R e w' → ∃ v, e = .returned v ∧ S w' ∧ ∀ a', Sl a' n ((d, v) :: l) → wpAnyH P md ops.toArray Q S fuel (listed.setIfInBounds i true) a' w') : wpOp P ops.toArray Q i (fun a' w' => S w' ∧ wpAnyH P md ops.toArray Q S fuel (listed.setIfInBounds i true) a' w') a w := by
  unfold wpOp
  simp only [List.getElem?_toArray, hi]
  rw [if_pos (hA.wanted hg)]
  refine .inl ?_
  unfold Oper.wp
  rw [he a.eval (fun x u hx => hA.ev hx), Oper.upon_enter]
  refine hc.mono ?_
  intro e w' hR
  obtain ⟨v, rfl, h1, h2⟩ := hk e w' hR
  simp only [hdst]
  exact ⟨h1, h2 _ (hA.put hd v)⟩
/-- Nothing else may come up. -/
theorem qt {i : Nat} (hr : Region.ready md ops.toArray listed = [i]) (h : wpOp P ops.toArray Q i (fun a' w' => S w' ∧ wpAnyH P md ops.toArray Q S fuel (listed.setIfInBounds i true) a' w') a w) : wpAnyH P md ops.toArray Q S (fuel + 1) listed a w :=
  wpAnyH_all hr (by simp) (fun j hj => by rw [List.mem_singleton] at hj; subst hj; exact h)
def AllOps (W : Nat → Prop) : List Nat → Prop
  | [] => True
  | i :: t => W i ∧ AllOps W t
theorem AllOps.get {W : Nat → Prop} : ∀ {rs : List Nat}, AllOps W rs → ∀ i ∈ rs, W i
  | _ :: _, h, i, hi => by
    rcases List.mem_cons.1 hi with rfl | hi
    · exact h.1
    · exact AllOps.get h.2 i hi
/-- Whichever comes up. -/
theorem yr {rs : List Nat} (hr : Region.ready md ops.toArray listed = rs) (hne : rs ≠ []) (h : AllOps (fun i => wpOp P ops.toArray Q i (fun a' w' => S w' ∧ wpAnyH P md ops.toArray Q S fuel (listed.setIfInBounds i true) a' w') a w) rs) : wpAnyH P md ops.toArray Q S (fuel + 1) listed a w :=
  wpAnyH_all hr hne (fun i hi => h.get i hi)
theorem zn (hr : Region.ready md ops.toArray listed = []) (hk : Q .normal a w) : wpAnyH P md ops.toArray Q S fuel listed a w := wpAnyH_done hr hk fuel
end
def qcb : Value → Bool
  | .int .u32 _ => false
  | _ => true
theorem qqe {v : Value} (h : qcb v = true) : ∀ n, v ≠ .int .u32 n := by
  intro n e
  subst e
  cases h
/-- Their blocks are others, where they have any. -/
def Apart (x y : Option Addr) : Prop := ∀ a b, x = some a → y = some b → a.block ≠ b.block
def Off (x : Option Addr) (g : Nat) : Prop := ∀ a, x = some a → a.block ≠ g
/-- Memory: as it was at w0, but for new blocks: those of L hold these cells; R: what is read as rows of words; O: rows of words of the call's own, written in place. -/
structure St (w0 w : World) (L : List (Nat × List Value)) (R : List (Option Addr × List Nat)) (O : List (Option Addr × Nat × List Nat)) : Prop where
  bel : Below w0.heap.size w0 w
  own : ∀ p ∈ L, w0.heap.size ≤ p.1 ∧ Blk w p.1 p.2
  dis : L.Pairwise (fun p q => p.1 ≠ q.1)
  rds : ∀ r ∈ R, Rd w r.1 r.2
  rows : ∀ o ∈ O, Own w0.heap.size w o.1 o.2.1 o.2.2
  sepO : O.Pairwise (fun p q => Apart p.1 q.1)
  sepL : ∀ o ∈ O, ∀ p ∈ L, Off o.1 p.1
  sepR : ∀ o ∈ O, ∀ r ∈ R, r.2 ≠ [] → Apart o.1 r.1
section
variable {w0 w w' : World} {L : List (Nat × List Value)} {R : List (Option Addr × List Nat)} {O : List (Option Addr × Nat × List Nat)}
theorem St.start (w : World) : St w w [] [] [] := ⟨Below.refl _ _, by simp, .nil, by simp, by simp, .nil, by simp, by simp⟩
theorem St.addR (h : St w0 w L R []) {so : Option Addr} {l : List Nat} (hr : Rd w so l) : St w0 w L ((so, l) :: R) [] :=
  ⟨h.bel, h.own, h.dis, fun r hm => by rcases List.mem_cons.1 hm with rfl | hm; exact hr; exact h.rds r hm, by simp, .nil, by simp, by simp⟩
/-- What a call has made new lies apart from what was there. -/
theorem St.fresh (h : St w0 w L R O) {so : Option Addr} {c : Nat} {l : List Nat} (ho : Own w.heap.size w' so c l) : ∀ o ∈ O, Apart o.1 so := fun o hm a b ha hb => by
  have h1 := ((h.rows o hm).lt a ha).2
  have h2 := (ho.lt b hb).1
  omega
theorem St.rd (h : St w0 w L R O) (k : Nat) {so : Option Addr} {l : List Nat} (hk : R[k]? = some (so, l)) : Rd w so l := h.rds _ (List.mem_of_getElem? hk)
theorem St.row (h : St w0 w L R O) (k : Nat) {so : Option Addr} {c : Nat} {l : List Nat} (hk : O[k]? = some (so, c, l)) : Own w0.heap.size w so c l := h.rows _ (List.mem_of_getElem? hk)
theorem St.call (h : St w0 w L R O) (hb : Below w.heap.size w w') : St w0 w' L R O :=
  ⟨chain2 h.bel hb, fun p hp => ⟨(h.own p hp).1, (h.own p hp).2.below hb⟩, h.dis, fun r hr => (h.rds r hr).below hb, fun o ho => (h.rows o ho).below hb, h.sepO, h.sepL, h.sepR⟩
theorem St.drew (h : St w0 w L R O) : St w0 w.drew L R O := ⟨h.bel.drew, fun p hp => ⟨(h.own p hp).1, (h.own p hp).2.drew⟩, h.dis, fun r hr => (h.rds r hr).drew, fun o ho => (h.rows o ho).drew, h.sepO, h.sepL, h.sepR⟩
theorem St.lt (h : St w0 w L R O) : ∀ p ∈ L, p.1 < w.heap.size := fun p hp => (h.own p hp).2.lt
theorem St.new (h : St w0 w L R O) (vs : List Value) (t : TypeId) (hno : vs.all qcb = true) : St w0 (w.alloc (.cells vs.toArray t)) ((w.heap.size, vs) :: L) R O := by
  have hb : Below w.heap.size w (w.alloc (.cells vs.toArray t)) := (Below.refl _ _).alloc (Nat.le_refl _) _
  have h' := h.call hb
  refine ⟨h'.bel, fun p hp => ?_, List.pairwise_cons.2 ⟨fun q hq => Nat.ne_of_gt (h.lt q hq), h.dis⟩, h'.rds, h'.rows, h.sepO, fun o ho p hp => ?_, h.sepR⟩
  · rcases List.mem_cons.1 hp with rfl | hp
    · exact ⟨h.bel.size, Blk.new w vs t (fun v hv => qqe (List.all_eq_true.1 hno v hv))⟩
    · exact h'.own p hp
  · rcases List.mem_cons.1 hp with rfl | hp
    · exact fun a ha => Nat.ne_of_lt ((h.rows o ho).lt a ha).2
    · exact h.sepL o ho p hp
theorem St.blk (h : St w0 w L R O) (k : Nat) {g : Nat} {vs : List Value} (hk : L[k]? = some (g, vs)) : Blk w g vs := (h.own _ (List.mem_of_getElem? hk)).2
theorem St.subL (h : St w0 w L R O) (L' : List (Nat × List Value)) (hs : L'.Sublist L) : St w0 w L' R O := ⟨h.bel, fun p hp => h.own p (hs.subset hp), h.dis.sublist hs, h.rds, h.rows, h.sepO, fun o ho p hp => h.sepL o ho p (hs.subset hp), h.sepR⟩
theorem St.subO (h : St w0 w L R O) (O' : List (Option Addr × Nat × List Nat)) (hs : O'.Sublist O) : St w0 w L R O' := ⟨h.bel, h.own, h.dis, h.rds, fun o ho => h.rows o (hs.subset ho), h.sepO.sublist hs, fun o ho => h.sepL o (hs.subset ho), fun o ho => h.sepR o (hs.subset ho)⟩
/-- The blocks in another order: 'ks' are their places. -/
theorem St.pickL (h : St w0 w L R O) (L' : List (Nat × List Value)) (ks : List Nat) (hs : ks.map (fun k => L[k]?) = L'.map some) (hn : ks.Nodup) : St w0 w L' R O := by
  have hlen : ks.length = L'.length := by have := congrArg List.length hs; simpa using this
  have at_ : ∀ i (h1 : i < L'.length), ∃ h2 : i < ks.length, L[ks[i]]? = some L'[i] := by
    intro i h1
    have h2 : i < ks.length := by omega
    refine ⟨h2, ?_⟩
    have := congrArg (fun l => l[i]?) hs
    simpa [h1, h2] using this
  have mem : ∀ p ∈ L', p ∈ L := fun p hp => by
    obtain ⟨i, hi, rfl⟩ := List.mem_iff_getElem.1 hp
    obtain ⟨_, e⟩ := at_ i hi
    exact List.mem_of_getElem? e
  refine ⟨h.bel, fun p hp => h.own p (mem p hp), ?_, h.rds, h.rows, h.sepO, fun o ho p hp => h.sepL o ho p (mem p hp), h.sepR⟩
  rw [List.pairwise_iff_getElem]
  intro i j hi hj hij
  obtain ⟨hi2, ei⟩ := at_ i hi
  obtain ⟨hj2, ej⟩ := at_ j hj
  have hne : ks[i] ≠ ks[j] := fun e => by
    have := (List.nodup_iff_pairwise_ne.1 hn)
    rw [List.pairwise_iff_getElem] at this
    exact this i j hi2 hj2 hij e
  have hp := List.pairwise_iff_getElem.1 h.dis
  obtain ⟨a1, b1⟩ := List.getElem?_eq_some_iff.1 ei
  obtain ⟨a2, b2⟩ := List.getElem?_eq_some_iff.1 ej
  rcases Nat.lt_or_gt_of_ne hne with hlt | hlt
  · have := hp _ _ a1 a2 hlt
    rw [b1, b2] at this
    exact this
  · have := hp _ _ a2 a1 hlt
    rw [b1, b2] at this
    exact fun e => this e.symm
def AllR (R : List (Option Addr × List Nat)) : List (Option Addr × List Nat) → Prop
  | [] => True
  | r :: t => (∃ k : Nat, R[k]? = some r) ∧ AllR R t
theorem AllR.mem : ∀ {R' : List (Option Addr × List Nat)}, AllR R R' → ∀ r ∈ R', r ∈ R
  | r :: t, hs, x, hx => by
    rcases List.mem_cons.1 hx with rfl | hx
    · obtain ⟨⟨k, hk⟩, _⟩ := hs
      exact List.mem_of_getElem? hk
    · exact AllR.mem hs.2 x hx
theorem St.pickR (h : St w0 w L R O) (R' : List (Option Addr × List Nat)) (hs : AllR R R') : St w0 w L R' O :=
  ⟨h.bel, h.own, h.dis, fun r hr => h.rds r (hs.mem r hr), h.rows, h.sepO, h.sepL, fun o ho r hr => h.sepR o ho r (hs.mem r hr)⟩
/-- A part of the state. -/
theorem St.pickRL {L' : List (Nat × List Value)} {R' : List (Option Addr × List Nat)} (h : St w0 w L R O) (hR : AllR R R') (ks : List Nat) (hs : ks.map (fun k => L[k]?) = L'.map some) (hn : ks.Nodup) : St w0 w L' R' O := (h.pickR R' hR).pickL L' ks hs hn
theorem St.part {L' : List (Nat × List Value)} {R' : List (Option Addr × List Nat)} {O' : List (Option Addr × Nat × List Nat)} (h : St w0 w L R O) (hL : L'.Sublist L) (hR : AllR R R') (hO : O'.Sublist O) : St w0 w L' R' O' := ((h.pickR R' hR).subL L' hL).subO O' hO
theorem St.partD {L' : List (Nat × List Value)} {R' : List (Option Addr × List Nat)} {O' : List (Option Addr × Nat × List Nat)} (h : St w0 w L R O) (hL : L'.Sublist L) (n : Nat) (hR : R.drop n = R') (hO : O'.Sublist O) : St w0 w L' R' O' := by
  subst hR
  refine St.subO (St.subL ⟨h.bel, h.own, h.dis, fun r hr => h.rds r (List.mem_of_mem_drop hr), h.rows, h.sepO, h.sepL, fun o ho r hr => h.sepR o ho r (List.mem_of_mem_drop hr)⟩ L' hL) O' hO
theorem St.cell (h : St w0 w L R O) (k : Nat) {g : Nat} {vs : List Value} (hk : L[k]? = some (g, vs)) (i : Nat) {v : Value} (hi : vs[i]? = some v) : w.cell? ⟨g, i, none⟩ = some v :=
  (h.own _ (List.mem_of_getElem? hk)).2.cell i v hi
theorem qth {L : List (Nat × List Value)} (h : L.Pairwise (fun p q => p.1 ≠ q.1)) {k g : Nat} {vs us : List Value} (hk : L[k]? = some (g, vs)) : (L.set k (g, us)).Pairwise (fun p q => p.1 ≠ q.1) := by
  have e : (L.set k (g, us)).map Prod.fst = L.map Prod.fst := by
    rw [List.map_set]
    apply List.ext_getElem?
    intro i
    by_cases hi : k = i
    · subst hi
      have hlt : k < (L.map Prod.fst).length := by simpa using (List.getElem?_eq_some_iff.1 hk).1
      rw [List.getElem?_set_self hlt]
      simp [hk]
    · rw [List.getElem?_set_ne hi]
  have h1 : (L.map Prod.fst).Pairwise (· ≠ ·) := List.pairwise_map.2 h
  rw [← e] at h1
  exact List.pairwise_map.1 h1
theorem qwd {L : List (Nat × List Value)} (h : L.Pairwise (fun p q => p.1 ≠ q.1)) {k g : Nat} {vs us : List Value} (hk : L[k]? = some (g, vs)) {p : Nat × List Value} (hp : p ∈ L.set k (g, us)) : p = (g, us) ∨ (p ∈ L ∧ g ≠ p.1) := by
  obtain ⟨i, hi⟩ := List.mem_iff_getElem?.1 hp
  by_cases e : k = i
  · subst e
    have hlt : k < L.length := (List.getElem?_eq_some_iff.1 hk).1
    rw [List.getElem?_set_self hlt] at hi
    exact .inl (Option.some.inj hi).symm
  · rw [List.getElem?_set_ne e] at hi
    refine .inr ⟨List.mem_of_getElem? hi, ?_⟩
    have h1 := List.pairwise_iff_getElem.1 h
    obtain ⟨hk1, hk2⟩ := List.getElem?_eq_some_iff.1 hk
    obtain ⟨hi1, hi2⟩ := List.getElem?_eq_some_iff.1 hi
    rcases Nat.lt_or_gt_of_ne e with hlt | hlt
    · have := h1 k i hk1 hi1 hlt
      rw [hk2, hi2] at this
      exact this
    · have := h1 i k hi1 hk1 hlt
      rw [hk2, hi2] at this
      exact fun e => this e.symm
theorem qqf (w : World) (g i : Nat) (v : Value) : w.grownBy (w.setCell ⟨g, i, none⟩ v) (some g) :=
  ⟨rfl, rfl, rfl, by simp, fun k hk hne => Below.heap_setCell w ⟨g, i, none⟩ v k (fun e => hne (by rw [e]))⟩
theorem St.set (h : St w0 w L R O) (k : Nat) {g : Nat} {vs : List Value} (hk : L[k]? = some (g, vs)) (i : Nat) (hi : i < vs.length) (v : Value) (hv : qcb v = true) : St w0 (w.setCell ⟨g, i, none⟩ v) (L.set k (g, vs.set i v)) R O := by
  have hm := List.mem_of_getElem? hk
  have ho := h.own _ hm
  refine ⟨h.bel.setCell (p := ⟨g, i, none⟩) ho.1 v, fun p hp => ?_, qth h.dis hk, fun r hr => ho.2.rd (h.rds r hr) i v hi, fun o hO => (h.rows o hO).kept (qqf w g i v) (fun a ha e => h.sepL o hO _ hm a ha (by simpa using e)), h.sepO, fun o hO p hp => ?_, h.sepR⟩
  · rcases qwd h.dis hk hp with rfl | ⟨hp, hne⟩
    · exact ⟨ho.1, ho.2.set i v hi (qqe hv)⟩
    · exact ⟨(h.own p hp).1, (h.own p hp).2.far hne i v⟩
  · rcases qwd h.dis hk hp with rfl | ⟨hp, hne⟩
    · exact (show Off o.1 g from h.sepL o hO _ hm)
    · exact h.sepL o hO p hp
def over : List Value → Nat → List Value → List Value
  | vs, _, [] => vs
  | vs, o, c :: cs => over (vs.set o c) (o + 1) cs
theorem St.sets {g : Nat} : ∀ (cs : List Value) (w : World) (L : List (Nat × List Value)) (vs : List Value) (o : Nat), St w0 w L R O → ∀ k, L[k]? = some (g, vs) → o + cs.length ≤ vs.length → cs.all qcb = true → St w0 (w.setCells g o cs) (L.set k (g, over vs o cs)) R O
  | [], w, L, vs, o, h, k, hk, _, _ => by
    have : L.set k (g, over vs o []) = L := by
      apply List.ext_getElem?
      intro i
      by_cases hi : k = i
      · subst hi
        rw [List.getElem?_set_self (List.getElem?_eq_some_iff.1 hk).1, hk]
        rfl
      · rw [List.getElem?_set_ne hi]
    rw [this]
    exact h
  | c :: cs, w, L, vs, o, h, k, hk, hl, hc => by
    simp only [List.all_cons, Bool.and_eq_true] at hc
    simp only [List.length_cons] at hl
    have h1 := h.set k hk o (by omega) c hc.1
    have hk1 : (L.set k (g, vs.set o c))[k]? = some (g, vs.set o c) := List.getElem?_set_self (List.getElem?_eq_some_iff.1 hk).1
    have h2 := St.sets cs _ _ (vs.set o c) (o + 1) h1 k hk1 (by rw [List.length_set]; omega) hc.2
    rw [List.set_set] at h2
    exact h2
/-! Rows of the call's own. -/
theorem Blk.grown {g : Nat} {vs : List Value} (h : Blk w g vs) {row : Option Nat} (hg : w.grownBy w' row) (hne : some g ≠ row) : Blk w' g vs := by
  have e := hg.block g h.lt hne
  exact ⟨Nat.lt_of_lt_of_le h.lt hg.size, fun i v hv => (World.cell?_of_block (w := w) (a := ⟨g, i, none⟩) e).trans (h.cell i v hv), fun i => (World.frozen?_of_block (w := w) (a := ⟨g, i, none⟩) e).trans (h.froz i), h.no⟩
theorem qti {k : Nat} {o u p : Option Addr × Nat × List Nat} (h : O.Pairwise (fun p q => Apart p.1 q.1)) (hk : O[k]? = some o) (hp : p ∈ O.set k u) : p = u ∨ (p ∈ O ∧ Apart o.1 p.1) := by
  obtain ⟨i, hi⟩ := List.mem_iff_getElem?.1 hp
  by_cases e : k = i
  · subst e
    rw [List.getElem?_set_self (List.getElem?_eq_some_iff.1 hk).1] at hi
    exact .inl (Option.some.inj hi).symm
  · rw [List.getElem?_set_ne e] at hi
    refine .inr ⟨List.mem_of_getElem? hi, ?_⟩
    have h1 := List.pairwise_iff_getElem.1 h
    obtain ⟨hk1, hk2⟩ := List.getElem?_eq_some_iff.1 hk
    obtain ⟨hi1, hi2⟩ := List.getElem?_eq_some_iff.1 hi
    rcases Nat.lt_or_gt_of_ne e with hlt | hlt
    · have := h1 k i hk1 hi1 hlt
      rw [hk2, hi2] at this
      exact this
    · have := h1 i k hi1 hk1 hlt
      rw [hk2, hi2] at this
      exact fun a b ha hb e => this b a hb ha e.symm
/-- One row is changed, or lies anew in a block that is made now; all else uj. -/
theorem St.turn (h : St w0 w L R O) (k : Nat) {ao : Option Addr} {c : Nat} {l : List Nat} (hk : O[k]? = some (ao, c, l)) {bo : Option Addr} {c' : Nat} {l' : List Nat} (hg : w.grownBy w' (Value.slice ao l.length c).ownBlock) (ho : Own w0.heap.size w' bo c' l') (hat : ∀ b, bo = some b → (∃ a, ao = some a ∧ a.block = b.block) ∨ b.block = w.heap.size) :
    St w0 w' L R (O.set k (bo, c', l')) := by
  have hm := List.mem_of_getElem? hk
  have hrow := h.rows _ hm
  have blk : ∀ a, ao = some a → (Value.slice ao l.length c).ownBlock = some a.block := fun a ha => by rw [ha]; rfl
  have far : ∀ g, Off ao g → some g ≠ (Value.slice ao l.length c).ownBlock := fun g hg e => by
    cases hao : ao with
    | none => rw [hao] at e; simp [Value.ownBlock] at e
    | some a => rw [blk a hao] at e; exact hg a hao (by simpa using e.symm)
  -- what lies off the old row and is there lies off the new one
  have off : ∀ g, Off ao g → g < w.heap.size → Off bo g := fun g hg hlt b hb e => by
    rcases hat b hb with ⟨a, ha, e1⟩ | e1
    · exact hg a ha (e1.trans e)
    · omega
  refine ⟨h.bel.grown hg h.bel.size (fun j hj => ?_), fun p hp => ⟨(h.own p hp).1, (h.own p hp).2.grown hg (far _ (h.sepL _ hm p hp))⟩, h.dis, fun r hr => ?_, fun o hO => ?_, ?_, fun o hO p hp => ?_, fun o hO r hr hne => ?_⟩
  · cases hao : ao with
    | none => rw [hao] at hj; simp [Value.ownBlock] at hj
    | some a => rw [blk a hao] at hj; cases hj; exact (hrow.lt a hao).1
  · by_cases hne : r.2 = []
    · rw [hne]; exact Rd.nil _ _
    · exact (h.rds r hr).grown hg (fun a ha => far _ (fun x hx e => h.sepR _ hm r hr hne x a hx ha e))
  · rcases qti h.sepO hk hO with rfl | ⟨hO, hap⟩
    · exact ho
    · exact (h.rows o hO).kept hg (fun a ha => far _ (fun x hx e => hap x a hx ha e))
  · have key : ∀ o ∈ O, Apart ao o.1 → Apart bo o.1 := fun o hO hap b x hb hx e => off x.block (fun y hy ey => hap y x hy hx ey) ((h.rows o hO).lt x hx).2 b hb e
    rw [List.pairwise_iff_getElem]
    intro i j hi hj hij
    have hi' : i < O.length := by simpa using hi
    have hj' : j < O.length := by simpa using hj
    have h1 := List.pairwise_iff_getElem.1 h.sepO
    obtain ⟨hk1, hk2⟩ := List.getElem?_eq_some_iff.1 hk
    rw [List.getElem_set, List.getElem_set]
    by_cases e1 : k = i
    · subst e1
      rw [if_pos rfl, if_neg (by omega)]
      have := h1 k j hi' hj' hij
      rw [hk2] at this
      exact key _ (List.getElem_mem hj') this
    · rw [if_neg e1]
      by_cases e2 : k = j
      · subst e2
        rw [if_pos rfl]
        have := h1 i k hi' hj' hij
        rw [hk2] at this
        exact fun x b hx hb e => key _ (List.getElem_mem hi') (fun p q hp hq e => this q p hq hp e.symm) b x hb hx e.symm
      · rw [if_neg e2]
        exact h1 i j hi' hj' hij
  · rcases qti h.sepO hk hO with rfl | ⟨hO, _⟩
    · exact off _ (h.sepL _ hm p hp) (h.lt p hp)
    · exact h.sepL o hO p hp
  · rcases qti h.sepO hk hO with rfl | ⟨hO, _⟩
    · intro b x hb hx e
      obtain ⟨bb, of_, e1, hlt, _⟩ := (h.rds r hr).pos hne
      rw [e1] at hx
      cases hx
      exact off bb (fun y hy ey => h.sepR _ hm r hr hne y ⟨bb, of_, none⟩ hy e1 ey) hlt b hb e
    · exact h.sepR o hO r hr hne
theorem St.setRow (h : St w0 w L R O) (k : Nat) {g c : Nat} {l : List Nat} (hk : O[k]? = some (some ⟨g, 0, none⟩, c, l)) (j d : Nat) (hd : d < 4294967296) : St w0 (w.setCell ⟨g, j, none⟩ (.int .u32 ((d : Nat) : Int))) L R (O.set k (some ⟨g, 0, none⟩, c, l.set j d)) :=
  h.turn k hk (by exact qqf w g j _) ((h.row k hk).set j d hd) (fun b hb => by cases hb; exact .inl ⟨_, rfl, rfl⟩)
/-- A new row is the call's own. -/
theorem St.newO (h : St w0 w L R O) (hb : Below w.heap.size w w') {bo : Option Addr} {c : Nat} {l : List Nat} (ho : Own w.heap.size w' bo c l) : St w0 w' L R ((bo, c, l) :: O) := by
  have h' := h.call hb
  refine ⟨h'.bel, h'.own, h.dis, h'.rds, fun o hO => ?_, List.pairwise_cons.2 ⟨fun o hO a b ha hb => (h.fresh ho o hO b a hb ha).symm, h.sepO⟩, fun o hO p hp => ?_, fun o hO r hr hne => ?_⟩
  · rcases List.mem_cons.1 hO with rfl | hO
    · exact ho.lower h.bel.size
    · exact h'.rows o hO
  · rcases List.mem_cons.1 hO with rfl | hO
    · exact fun a ha e => by have := (ho.lt a ha).1; have := h.lt p hp; omega
    · exact h.sepL o hO p hp
  · rcases List.mem_cons.1 hO with rfl | hO
    · intro a b ha hb e
      obtain ⟨bb, of_, e1, hlt, _⟩ := (h.rds r hr).pos hne
      rw [e1] at hb
      cases hb
      have := (ho.lt a ha).1
      have e : a.block = bb := e
      omega
    · exact h.sepR o hO r hr hne
/-- A row is said anew, in the same world. -/
theorem St.retake (h : St w0 w L R O) (k : Nat) {ao : Option Addr} {c : Nat} {l l' : List Nat} (hk : O[k]? = some (ao, c, l)) (ho : Own w0.heap.size w ao c l') : St w0 w L R (O.set k (ao, c, l')) :=
  h.turn k hk ⟨rfl, rfl, rfl, Nat.le_refl _, fun _ _ _ => rfl⟩ ho (fun b hb => .inl ⟨b, hb, rfl⟩)
/-! ### The types -/
/-- A struct type of n cells. -/
structure IsS (P : Program) (t : TypeId) (n : Nat) : Prop where
  und : ∃ fs, P.underlying t = some (.struct fs)
  size : (P.info? t).map (·.size) = some n
theorem jq {P : Program} {t : TypeId} {n : Nat} (h : (P.info? t).map (·.size) = some n) : ∃ i, P.info? t = some i ∧ i.size = n := by
  cases hi : P.info? t with
  | none => rw [hi] at h; cases h
  | some i => rw [hi] at h; exact ⟨i, rfl, by simpa using h⟩
/-- A type of one cell. -/
structure Is1 (P : Program) (t : TypeId) : Prop where
  und : ∃ d, P.underlying t = some d ∧ (match d with | .struct _ | .array _ _ => false | _ => true) = true
  size : (P.info? t).map (·.size) = some 1
/-- Field f of a struct type lies at this cell. -/
def FieldAt (P : Program) (s : TypeId) (f off : Nat) : Prop := ∃ fs fld, P.underlying s = some (.struct fs) ∧ fs[f]? = some fld ∧ fld.offset = off ∧ (P.info? fld.type).map (fun i => Nat.beq i.size 0) = some false

variable {P : Program}
theorem xn (g o j : Nat) : (⟨g, o, none⟩ : Addr).add j = ⟨g, o + j, none⟩ := by unfold Addr.add; split <;> simp_all
theorem yl {t : TypeId} {n : Nat} (ht : IsS P t n) {g o : Nat} (cs : List Value) (hl : cs.length = n) (hc : ∀ j v, cs[j]? = some v → w.cell? ⟨g, o + j, none⟩ = some v) : (loadVar t ⟨g, o, none⟩).run P w = .ok (.agg cs.toArray) w := by
  obtain ⟨fs, hu⟩ := ht.und
  obtain ⟨i, hi, hn⟩ := jq ht.size
  have h1 : (isAgg t).run P w = .ok true w := by simp [isAgg, run_underlying hu]
  have h2 : (sizeOf t).run P w = .ok cs.length w := by simp [sizeOf, typeInfo, hi, hn, hl]
  have h3 := run_loadCells_list (P := P) w ⟨g, o, none⟩ cs (fun j v hj => by rw [xn]; exact hc j v hj)
  simp only [loadVar, Sem.run_bind, h1, Result.andThen_ok, if_true, h2, h3, Sem.run_pure]
theorem kw {t : TypeId} (ht : Is1 P t) {a : Addr} {v : Value} (hc : w.cell? a = some v) : (loadVar t a).run P w = .ok v w := by
  obtain ⟨d, hu, hd⟩ := ht.und
  have h1 : (isAgg t).run P w = .ok false w := by
    cases d <;> first | (simp at hd; done) | simp [isAgg, run_underlying hu]
  simp only [loadVar, Sem.run_bind, h1, Result.andThen_ok, if_false, Bool.false_eq_true]
  simp [hc]

variable {l : List (Nat × Value)} {dst : Option Tmp} {ty : TypeId} {pos : String} {after : Array Edge} {guard : Option (Nat × Bool)} {v : Value}
theorem qz {x : Operand} (hx : ev l x = some v) : Does P l ⟨dst, .move x, ty, pos, after, guard⟩ w v w := fun ρ h => by
  simp only [execOp, h x v hx]; rfl
theorem zh {x : Operand} (hx : ev l x = some v) : Does P l ⟨dst, .assign x, ty, pos, after, guard⟩ w v w := fun ρ h => by
  simp only [execOp, h x v hx]; rfl
theorem jr {c x y : Operand} {b : Bool} {u u' : Value} (hc : ev l c = some (.bool b)) (hx : ev l x = some u) (hy : ev l y = some u') (hv : v = cond b u u') : Does P l ⟨dst, .pick c x y, ty, pos, after, guard⟩ w v w := fun ρ h => by
  subst hv
  simp only [execOp, h c _ hc, h x _ hx, h y _ hy]
  cases b <;> rfl
theorem qm {x : Operand} {vs : List Value} {i : Nat} (hx : ev l x = some (.tuple vs.toArray)) (hi : vs[i]? = some v) : Does P l ⟨dst, .extract x i, ty, pos, after, guard⟩ w v w := fun ρ h => by
  simp only [execOp, h x _ hx, Instr.extract, List.getElem?_toArray, hi]; rfl
theorem vg {t : TypeId} {x : Operand} {a : Addr} (hx : ev l x = some (.pointer (some a))) (hr : (loadVar t a).run P w = .ok v w) : Does P l ⟨dst, .load t x, ty, pos, after, guard⟩ w v w := fun ρ h => by
  simp only [execOp, h x _ hx, Instr.loadAt, Instr.sureAddr, Sem.run_bind, Sem.run_pure, Result.andThen_ok, hr]
/-- A struct out of a block of the call's own. -/
theorem qk (hS : St w0 w L R O) {t : TypeId} {n : Nat} (ht : IsS P t n) {x : Operand} {g o : Nat} (hx : ev l x = some (.pointer (some ⟨g, o, none⟩))) (k : Nat) {vs cs : List Value} (hk : L[k]? = some (g, vs)) (hcs : (vs.drop o).take n = cs) (hl : cs.length = n) :
    Does P l ⟨dst, .load t x, ty, pos, after, guard⟩ w (.agg cs.toArray) w :=
  vg hx (yl ht cs hl (fun j v hj => hS.cell k hk (o + j) (by
    have hjn : j < n := by rw [← hl]; exact (List.getElem?_eq_some_iff.1 hj).1
    rw [← hcs, List.getElem?_take, if_pos hjn, List.getElem?_drop] at hj
    exact hj)))
theorem qs (hS : St w0 w L R O) {t : TypeId} (ht : Is1 P t) {x : Operand} {g o : Nat} (hx : ev l x = some (.pointer (some ⟨g, o, none⟩))) (k : Nat) {vs : List Value} (hk : L[k]? = some (g, vs)) (hv : vs[o]? = some v) :
    Does P l ⟨dst, .load t x, ty, pos, after, guard⟩ w v w := vg hx (kw ht (hS.cell k hk o hv))
/-- .. out of a block that was there before the call. -/
theorem jk (hS : St w0 w L R O) {g : Nat} {vs : List Value} (hF : Blk w0 g vs) {t : TypeId} {n : Nat} (ht : IsS P t n) {x : Operand} {o : Nat} (hx : ev l x = some (.pointer (some ⟨g, o, none⟩))) {cs : List Value} (hcs : (vs.drop o).take n = cs) (hl : cs.length = n) :
    Does P l ⟨dst, .load t x, ty, pos, after, guard⟩ w (.agg cs.toArray) w :=
  vg hx (yl ht cs hl (fun j v hj => (hF.below hS.bel).cell (o + j) v (by
    have hjn : j < n := by rw [← hl]; exact (List.getElem?_eq_some_iff.1 hj).1
    rw [← hcs, List.getElem?_take, if_pos hjn, List.getElem?_drop] at hj
    exact hj)))
theorem Rd.addr {so : Option Addr} {l : List Nat} {i : Nat} (h : Rd w so l) (hi : i < l.length) : ∃ b off, so = some ⟨b, off, none⟩ := by
  obtain ⟨b, off, h1, _⟩ := h.pos (fun e => by rw [e] at hi; simp at hi)
  exact ⟨b, off, h1⟩
theorem Rd.at_ {so : Option Addr} {l : List Nat} {i b off : Nat} (h : Rd w so l) (hso : so = some ⟨b, off, none⟩) (hi : i < l.length) : w.cell? ⟨b, off + i, none⟩ = some (.int .u32 ((l.getD i 0 : Nat) : Int)) := by
  obtain ⟨b', off', h1, _, h3⟩ := h.pos (fun e => by rw [e] at hi; simp at hi)
  rw [hso] at h1
  cases h1
  exact h3 i hi
theorem yj {so : Option Addr} {us : List Nat} {i b off : Nat} (h : Rd w so us) (hso : so = some ⟨b, off, none⟩) (hi : i < us.length) {t : TypeId} (ht : Is1 P t) {x : Operand} (hx : ev l x = some (.pointer (some ⟨b, off + i, none⟩))) :
    Does P l ⟨dst, .load t x, ty, pos, after, guard⟩ w (.int .u32 ((us.getD i 0 : Nat) : Int)) w := vg hx (kw ht (h.at_ hso hi))
theorem qf {s : TypeId} {x : Operand} {f g o off o' : Nat} (hf : FieldAt P s f off) (hx : ev l x = some (.pointer (some ⟨g, o, none⟩))) (ho : o + off = o') : Does P l ⟨dst, .fieldAddr s x f, ty, pos, after, guard⟩ w (.pointer (some ⟨g, o', none⟩)) w := fun ρ h => by
  obtain ⟨fs, fld, hu, hff, hoff, hm⟩ := hf
  obtain ⟨i, hi, hz⟩ : ∃ i, P.info? fld.type = some i ∧ i.size ≠ 0 := by
    cases hi : P.info? fld.type with
    | none => rw [hi] at hm; cases hm
    | some i =>
      rw [hi] at hm
      refine ⟨i, rfl, fun e => ?_⟩
      simp [e] at hm
  subst ho
  have h2 : (sizeOf fld.type).run P w = .ok i.size w := by simp [sizeOf, typeInfo, hi]
  simp only [execOp, h x _ hx, Instr.fieldAt, Sem.run_bind, run_underlying hu, Result.andThen_ok, hff, Instr.sureAddr, Sem.run_pure, fieldPlace, h2, if_neg hz, xn, hoff]
theorem qw {t : TypeId} {x : Operand} {u : Value} (hx : ev l x = some u) {vs : List Value} (hc : u.cells = vs.toArray) : Does P l ⟨dst, .box t x, ty, pos, after, guard⟩ w (.pointer (some ⟨w.heap.size, 0, none⟩)) (w.alloc (.cells vs.toArray t)) := fun ρ h => by
  simp only [execOp, h x _ hx, ← hc]; rfl
theorem ql {t : TypeId} {z : Value} (hz : (P.info? t).map (·.zero) = some (some z)) {vs : List Value} (hc : z.cells = vs.toArray) : Does P l ⟨dst, .alloc t, ty, pos, after, guard⟩ w (.pointer (some ⟨w.heap.size, 0, none⟩)) (w.alloc (.cells vs.toArray t)) := fun ρ h => by
  cases hi : P.info? t with
  | none => rw [hi] at hz; cases hz
  | some i =>
    rw [hi] at hz
    simp only [Option.map_some, Option.some.injEq] at hz
    have h1 : (zeroValue t).run P w = .ok z w := by simp [zeroValue, typeInfo, hi, hz]
    simp only [execOp, Instr.alloc, Sem.run_bind, h1, Result.andThen_ok, ← hc]
    rfl
theorem za {t : TypeId} {parts : List (Nat × Operand)} {pv : List (Nat × Value)} (hp : evp l parts = some pv) (hb : ∀ w, (Instr.build t pv.toArray).run P w = .ok v w) : Does P l ⟨dst, .build t parts.toArray, ty, pos, after, guard⟩ w v w := fun ρ h => by
  have e : parts.toArray.map (fun p => (p.1, ρ p.2)) = pv.toArray := by
    simp only [List.map_toArray]
    congr 1
    have : ∀ (xs : List (Nat × Operand)) (vs : List (Nat × Value)), evp l xs = some vs → xs.map (fun p => (p.1, ρ p.2)) = vs := by
      intro xs
      induction xs with
      | nil => intro vs hx; simp [evp] at hx; simp [hx]
      | cons x xs ih =>
        intro vs hx
        obtain ⟨i, x⟩ := x
        unfold evp at hx
        split at hx
        · rename_i v us h1 h2
          cases hx
          simp [h _ _ h1, ih _ h2]
        · cases hx
    exact this parts pv hp
  have e' : (parts.toArray.map fun (i, x) => (i, ρ x)) = pv.toArray := e
  simp only [execOp, e', Sem.run_bind, hb w, Result.andThen_ok, Sem.run_pure]
theorem zx {t : TypeId} {n : Nat} {parts : List (Nat × Operand)} {pv : List (Nat × Value)} (hp : evp l parts = some pv) {w' : World} (hb : (Instr.buildSlice t n pv.toArray).run P w = .ok v w') : Does P l ⟨dst, .buildSlice t n parts.toArray, ty, pos, after, guard⟩ w v w' := fun ρ h => by
  have e : parts.toArray.map (fun p => (p.1, ρ p.2)) = pv.toArray := by
    simp only [List.map_toArray]
    congr 1
    have : ∀ (xs : List (Nat × Operand)) (vs : List (Nat × Value)), evp l xs = some vs → xs.map (fun p => (p.1, ρ p.2)) = vs := by
      intro xs
      induction xs with
      | nil => intro vs hx; simp [evp] at hx; simp [hx]
      | cons x xs ih =>
        intro vs hx
        obtain ⟨i, x⟩ := x
        unfold evp at hx
        split at hx
        · rename_i v us h1 h2
          cases hx
          simp [h _ _ h1, ih _ h2]
        · cases hx
    exact this parts pv hp
  have e' : (parts.toArray.map fun (i, x) => (i, ρ x)) = pv.toArray := e
  simp only [execOp, e', Sem.run_bind, hb, Result.andThen_ok, Sem.run_pure]
theorem zg {x : Operand} {t e : TypeId} {so : Option Addr} {n c : Nat} (hu : P.underlying t = some (.slice e)) (hx : ev l x = some (.slice so n c)) : Does P l ⟨dst, .call ⟨.builtin .len, #[x], #[t]⟩, ty, pos, after, guard⟩ w (.int .i64 n) w := fun ρ h => by
  have := h x _ hx
  simp [go_sem, this, Builtin.len_, run_underlying hu, goInt]
theorem qe {b : BinOp} {t t' : TypeId} {x y : Operand} {u u' : Value} (hx : ev l x = some u) (hy : ev l y = some u') (hr : ∀ w, (do eqGuard b t x y u u'; binOp b t u u' : Sem Value).run P w = .ok v w) : Does P l ⟨dst, .binOp b t x y t', ty, pos, after, guard⟩ w v w := fun ρ h => by
  simp only [execOp, h x _ hx, h y _ hy]
  rw [Sem.run_bind, hr w]
  rfl
theorem zk {b : UnOp} {t : TypeId} {x : Operand} {u : Value} (hx : ev l x = some u) (hr : ∀ w, (Op.unary b u).run P w = .ok v w) : Does P l ⟨dst, .unOp b t x, ty, pos, after, guard⟩ w v w := fun ρ h => by
  simp only [execOp, h x _ hx, Sem.run_bind, hr w, Result.andThen_ok, Sem.run_pure]
theorem qi {t : TypeId} {x y : Operand} {g o : Nat} {u : Value} {cs : List Value} (hx : ev l x = some (.pointer (some ⟨g, o, none⟩))) (hy : ev l y = some u) (hc : u.cells = cs.toArray) (hn : (P.info? t).map (·.size) = some cs.length)
    (hS : St w0 w L R O) (k : Nat) {vs : List Value} (hk : L[k]? = some (g, vs)) (hl : Nat.ble (o + cs.length) vs.length = true) (h1 : cs.all Value.oneCell' = true) : Sets P l ⟨dst, .store t x y, ty, pos, after, guard⟩ w (w.setCells g o cs) := fun ρ h => by
  obtain ⟨i, hi, hsz⟩ := jq hn
  have hl' : o + cs.length ≤ vs.length := Nat.le_of_ble_eq_true hl
  have hb := (hS.own _ (List.mem_of_getElem? hk)).2
  have h2 : (sizeOf t).run P w = .ok cs.length w := by simp [sizeOf, typeInfo, hi, hsz]
  have h3 := run_storeCells_cells (P := P) g o cs 0 w (fun j hj => by
      have hlt : o + 0 + j < vs.length := by omega
      rw [hb.cell (o + 0 + j) vs[o + 0 + j] (List.getElem?_eq_getElem hlt)]; rfl) (fun j hj => hb.froz _) (fun v hv => List.all_eq_true.1 h1 v hv)
  rw [Nat.add_zero] at h3
  have h4 : u.cells.toList = cs := by rw [hc]
  simp only [execOp, h x _ hx, h y _ hy, Instr.storeAt, Instr.sureAddr, Sem.run_bind, Sem.run_pure, Result.andThen_ok, storeVar, h2, hc, List.size_toArray, ne_eq, not_true_eq_false, if_false, List.toList_toArray, h3]
theorem qb {x : Operand} {f : FuncId} {args : List Operand} {ts : Array TypeId} {vs : List Value} (hx : ev l x = some (.func (.func f) #[] #[])) (ha : evs l args = some vs) (hf : ∀ w, (invoke (.fn (.func f) #[]) vs.toArray).run P w = .ok (.enter f vs.toArray) w) :
    Enters P l ⟨dst, .call ⟨.value x, args.toArray, ts⟩, ty, pos, after, guard⟩ w f vs := fun ρ h => by
  have e : args.map ρ = vs := by
    have : ∀ (xs : List Operand) (vs : List Value), evs l xs = some vs → xs.map ρ = vs := by
      intro xs
      induction xs with
      | nil => intro vs hx; simp [evs] at hx; simp [hx]
      | cons x xs ih =>
        intro vs hx
        unfold evs at hx
        split at hx
        · rename_i v us h1 h2
          cases hx
          simp [h _ _ h1, ih _ h2]
        · cases hx
    exact this args vs ha
  have := hf w
  simp [execOp, resolve, h x _ hx, Deferred.ofValue, e, this]

/-! ### Steps that make or change memory, the world behind them a letter -/
section
variable {ops : List Oper} {Q : Exit → Act → World → Prop} {a : Act} {n : Nat} {o : Oper} {rest : List Oper} {d : Nat}
theorem qn (hA : Sl a n l) (hS : St w0 w L R O) (hg : zr l ops o = true) (hdst : o.dst = some d) (hd : Nat.blt d n = true) {vs : List Value} {t : TypeId} (val : Nat → Value) (he : Does P l o w (val w.heap.size) (w.alloc (.cells vs.toArray t))) (hno : vs.all qcb = true)
    (hk : ∀ g w', St w0 w' ((g, vs) :: L) R O → ∀ a', Sl a' n ((d, val g) :: l) → wpList P ops.toArray Q rest a' w') : wpList P ops.toArray Q (o :: rest) a w :=
  kv hA hg hdst hd he (hk _ _ (hS.new vs t hno))
theorem qr (hA : Sl a n l) (hS : St w0 w L R O) (hg : zr l ops o = true) (hdst : o.dst = none) {g q : Nat} {cs vs us : List Value} (he : Sets P l o w (w.setCells g q cs)) (k : Nat) (hk0 : L[k]? = some (g, vs)) (hl : Nat.ble (q + cs.length) vs.length = true) (hno : cs.all qcb = true) (hus : over vs q cs = us)
    (hk : ∀ w', St w0 w' (L.set k (g, us)) R O → wpList P ops.toArray Q rest a w') : wpList P ops.toArray Q (o :: rest) a w :=
  uw hA hg hdst he (hk _ (by subst hus; exact St.sets cs w L vs q hS k hk0 (Nat.le_of_ble_eq_true hl) hno))
variable {S : World → Prop} {md : Region.Mode} {fuel : Nat} {listed : Array Bool}
theorem qfg (hA : Sl a n l) (hS : St w0 w L R O) (i : Nat) (hi : ops[i]? = some o) (hg : zr l ops o = true) (hdst : o.dst = some d) (hd : Nat.blt d n = true) {vs : List Value} {t : TypeId} (val : Nat → Value) (he : Does P l o w (val w.heap.size) (w.alloc (.cells vs.toArray t))) (hno : vs.all qcb = true)
    (hk : ∀ g w', St w0 w' ((g, vs) :: L) R O → S w' ∧ ∀ a', Sl a' n ((d, val g) :: l) → wpAnyH P md ops.toArray Q S fuel (listed.setIfInBounds i true) a' w') : wpOp P ops.toArray Q i (fun a' w' => S w' ∧ wpAnyH P md ops.toArray Q S fuel (listed.setIfInBounds i true) a' w') a w :=
  qgj hA i hi hg hdst hd he (hk _ _ (hS.new vs t hno)).1 (hk _ _ (hS.new vs t hno)).2
theorem zp (hA : Sl a n l) (hS : St w0 w L R O) (i : Nat) (hi : ops[i]? = some o) (hg : zr l ops o = true) (hdst : o.dst = none) {g q : Nat} {cs vs us : List Value} (he : Sets P l o w (w.setCells g q cs)) (k : Nat) (hk0 : L[k]? = some (g, vs)) (hl : Nat.ble (q + cs.length) vs.length = true) (hno : cs.all qcb = true) (hus : over vs q cs = us)
    (hk : ∀ w', St w0 w' (L.set k (g, us)) R O → S w' ∧ wpAnyH P md ops.toArray Q S fuel (listed.setIfInBounds i true) a w') : wpOp P ops.toArray Q i (fun a' w' => S w' ∧ wpAnyH P md ops.toArray Q S fuel (listed.setIfInBounds i true) a' w') a w := by
  have h := hk _ (by subst hus; exact St.sets cs w L vs q hS k hk0 (Nat.le_of_ble_eq_true hl) hno)
  exact qtg hA i hi hg hdst he h.1 h.2
/-! Rows of the call's own: made, written, appended to. -/
theorem qqg {t e : TypeId} (ht : P.underlying t = some (.slice e)) (hinfo : (P.info? e).map (fun i => (i.zero, i.size, i.bytes)) = some (some (.int .u32 0), 1, 4)) {x y : Operand} {m : Nat} (hx : ev l x = some (.int .i64 ((m : Nat) : Int))) (hy : ev l y = some (.int .i64 ((m : Nat) : Int))) (hm : m ≤ 1000000) :
    Does P l ⟨dst, .makeSlice t x y, ty, pos, after, guard⟩ w (.slice (some ⟨w.heap.size, 0, none⟩) m m) (w.alloc (.cells (madeCells #[.int .u32 0] m) e)) := fun ρ h => by
  have := run_make_row' (P := P) t e (.int .u32 0) 4 ht hinfo rfl .i64 .i64 m (by omega) (by omega) w
  simp only [execOp, h x _ hx, h y _ hy, Sem.run_bind, this, Result.andThen_ok, Sem.run_pure]
theorem zwa (hS : St w0 w L R O) {m : Nat} (hm : m ≤ 1000000) : St w0 (w.alloc (.cells (madeCells #[.int .u32 0] m) 77)) L R ((some ⟨w.heap.size, 0, none⟩, m, List.replicate m 0) :: O) :=
  hS.newO ((Below.refl _ _).alloc (Nat.le_refl _) _) (Own.made w m (by omega))
theorem qwe (hA : Sl a n l) (hS : St w0 w L R O) (hg : zr l ops o = true) (hdst : o.dst = some d) (hd : Nat.blt d n = true) {m : Nat} (he : Does P l o w (.slice (some ⟨w.heap.size, 0, none⟩) m m) (w.alloc (.cells (madeCells #[.int .u32 0] m) 77))) (hm : m ≤ 1000000)
    (hk : ∀ g w', St w0 w' L R ((some ⟨g, 0, none⟩, m, List.replicate m 0) :: O) → ∀ a', Sl a' n ((d, .slice (some ⟨g, 0, none⟩) m m) :: l) → wpList P ops.toArray Q rest a' w') : wpList P ops.toArray Q (o :: rest) a w :=
  kv hA hg hdst hd he (hk _ _ (zwa hS hm))
theorem qme {t : TypeId} (ht : (P.info? t).map (·.size) = some 1) {x y : Operand} {g j d : Nat} (hx : ev l x = some (.pointer (some ⟨g, 0 + j, none⟩))) (hy : ev l y = some (.int .u32 ((d : Nat) : Int))) (hS : St w0 w L R O) (k : Nat) {c : Nat} {us : List Nat} (hk : O[k]? = some (some ⟨g, 0, none⟩, c, us)) (hj : j < us.length) :
    Sets P l ⟨dst, .store t x y, ty, pos, after, guard⟩ w (w.setCell ⟨g, j, none⟩ (.int .u32 ((d : Nat) : Int))) := fun ρ h => by
  obtain ⟨i, hi, hsz⟩ := jq ht
  have h2 : (sizeOf t).run P w = .ok 1 w := by simp [sizeOf, typeInfo, hi, hsz]
  have hc := (hS.row k hk).cell j hj
  have hf := (hS.row k hk).frozen j
  rw [Nat.zero_add] at hx
  simp [execOp, h x _ hx, h y _ hy, Instr.storeAt, Instr.sureAddr, storeVar, h2, Value.cells, storeCells, xn, go_sem, hc, hf]
theorem zwb (hA : Sl a n l) (hS : St w0 w L R O) (hg : zr l ops o = true) (hdst : o.dst = none) {g j d : Nat} (he : Sets P l o w (w.setCell ⟨g, j, none⟩ (.int .u32 ((d : Nat) : Int)))) (k : Nat) {c : Nat} {us us' : List Nat} (hk0 : O[k]? = some (some ⟨g, 0, none⟩, c, us)) (hd : d < 4294967296) (hus : us.set j d = us')
    (hk : ∀ w', St w0 w' L R (O.set k (some ⟨g, 0, none⟩, c, us')) → wpList P ops.toArray Q rest a w') : wpList P ops.toArray Q (o :: rest) a w :=
  uw hA hg hdst he (hk _ (by subst hus; exact hS.setRow k hk0 j d hd))
theorem zng (hA : Sl a n l) (hS : St w0 w L R O) (i : Nat) (hi : ops[i]? = some o) (hg : zr l ops o = true) (hdst : o.dst = none) {g j d : Nat} (he : Sets P l o w (w.setCell ⟨g, j, none⟩ (.int .u32 ((d : Nat) : Int)))) (k : Nat) {c : Nat} {us us' : List Nat} (hk0 : O[k]? = some (some ⟨g, 0, none⟩, c, us)) (hd : d < 4294967296) (hus : us.set j d = us')
    (hk : ∀ w', St w0 w' L R (O.set k (some ⟨g, 0, none⟩, c, us')) → S w' ∧ wpAnyH P md ops.toArray Q S fuel (listed.setIfInBounds i true) a w') : wpOp P ops.toArray Q i (fun a' w' => S w' ∧ wpAnyH P md ops.toArray Q S fuel (listed.setIfInBounds i true) a' w') a w := by
  have h := hk _ (by subst hus; exact hS.setRow k hk0 j d hd)
  exact qtg hA i hi hg hdst he h.1 h.2
/-- A region that draws its order. -/
theorem jc {id : Nat} (hm : P.follows .mixedOrders = true) (h : wpAnyH P .any ops.toArray Q S ops.length (Array.replicate ops.length false) a w.drew) : (Code.region id ops.toArray true).wp P Q a w :=
  wp_region_held (S := S) hm (by simpa using h)
end
/-! ### The end -/
def vl (P : Program) (l : List (Nat × Value)) (w : World) : ResultVar → Value → Prop
  | .tmp t, v => xz l t = some v
  | .cell c t, v => ∃ p, xz l c = some (.pointer (some p)) ∧ (loadVar t p).run P w = .ok v w
def AllRes (P : Program) (l : List (Nat × Value)) (w : World) : List ResultVar → List Value → Prop
  | [], [] => True
  | r :: rs, v :: vs => vl P l w r v ∧ AllRes P l w rs vs
  | _, _ => False
theorem AllRes.nil : AllRes P l w [] [] := trivial
theorem AllRes.cons {r : ResultVar} {v : Value} {rs : List ResultVar} {vs : List Value} (h : vl P l w r v) (t : AllRes P l w rs vs) : AllRes P l w (r :: rs) (v :: vs) := ⟨h, t⟩
section
variable {a : Act} {n : Nat} {fn : Func} {Z : Ending → World → Prop}
theorem qj {t : Tmp} (h : xz l t = some v) : vl P l w (.tmp t) v := h
theorem qx (hS : St w0 w L R O) {c : Tmp} {t : TypeId} {m : Nat} (ht : IsS P t m) {g o : Nat} (hx : xz l c = some (.pointer (some ⟨g, o, none⟩))) (k : Nat) {vs cs : List Value} (hk : L[k]? = some (g, vs)) (hcs : (vs.drop o).take m = cs) (hl : cs.length = m) : vl P l w (.cell c t) (.agg cs.toArray) :=
  ⟨_, hx, yl ht cs hl (fun j v hj => hS.cell k hk (o + j) (by
    have hjn : j < m := by rw [← hl]; exact (List.getElem?_eq_some_iff.1 hj).1
    rw [← hcs, List.getElem?_take, if_pos hjn, List.getElem?_drop] at hj
    exact hj))⟩
def ke (tmps : Array Value) : ResultVar → Sem Value
  | .tmp t => pure (tmps.getD t undef)
  | .cell c t => do loadVar t (← asAddr (tmps.getD c undef))
def ux : List Value → Value
  | [x] => x
  | xs => .tuple xs.toArray
theorem Sl.res (hA : Sl a n l) {r : ResultVar} (h : vl P l w r v) : (ke a.tmps r).run P w = .ok v w := by
  cases r with
  | tmp t =>
    have := hA.holds t v h
    simp [ke, Array.getD_eq_getD_getElem?, this]
  | cell c t =>
    obtain ⟨p, hp, hr⟩ := h
    have := hA.holds c _ hp
    simp [ke, Array.getD_eq_getD_getElem?, this, asAddr, hr]
theorem kp (hA : Sl a n l) : ∀ (rs : List ResultVar) (vs : List Value), AllRes P l w rs vs → Sem.run P (rs.mapM (ke a.tmps)) w = .ok vs w
  | [], [], _ => by simp
  | [], _ :: _, h => h.elim
  | _ :: _, [], h => h.elim
  | r :: rs, v :: vs, h => by
    have e1 := hA.res h.1
    have e2 := kp hA rs vs h.2
    simp only [List.mapM_cons, Sem.run_bind, e1, Result.andThen_ok, e2, Sem.run_pure]
/-- The function's end: what it answers. -/
theorem ends (hA : Sl a n l) {rs : List ResultVar} (hrs : fn.results = rs.toArray) {vs : List Value} (hvs : AllRes P l w rs vs) (hv : ux vs = v) (hz : Z (.returned v) w) : bodyPost P fn Z .ret a w := by
  refine ⟨hA.none_, v, ?_, hz⟩
  have e := kp hA rs vs hvs
  subst hv
  have e' : results fn a.tmps = (do let us ← fn.results.mapM (ke a.tmps); pure (if h : us.size = 1 then us[0] else .tuple us)) := by
    unfold results
    congr 1
  have e2 : Sem.run P (List.toArray <$> rs.mapM (ke a.tmps)) w = .ok vs.toArray w := by
    show Sem.run P (rs.mapM (ke a.tmps) >>= fun us => pure us.toArray) w = _
    rw [Sem.run_bind, e]
    rfl
  rw [e', hrs, List.mapM_toArray, Sem.run_bind, e2, Result.andThen_ok]
  match vs with
  | [] => simp [ux]
  | [x] => simp [ux]
  | x :: y :: r => simp [ux]
end
/-- A call, by a walk of its body from what its slots hold at the start. -/
theorem qy {f : FuncId} {fn : Func} {c : Code} {args : List Value} {n : Nat} {Z : Ending → World → Prop} (hf : P.funcs[f]? = some fn) (hb : fn.body = some c) (hn : fn.ntmps = n) (hl : Nat.ble args.length n = true) (hs : (args.zipIdx.map fun p => (p.2, p.1)) = l)
    (h : ∀ Q : Exit → Act → World → Prop, (∀ a w, bodyPost P fn Z .ret a w → Q .ret a w) → (∀ a w, bodyPost P fn Z .ret a w → Q .normal a w) → (∀ c a d v w, Q (.panic c) (Act.put a d v) w → Q (.panic c) a w) → ∀ a, Sl a n l → c.wp P Q a w) : Calls P f args.toArray w Z := by
  subst hs
  refine calls_of_wp hf hb (h _ (fun _ _ h => h) (fun _ _ h => h) (fun c a d v w h => ?_) _ ?_)
  · cases d <;> exact h
  · rw [hn]
    exact Sl.enter (Nat.le_of_ble_eq_true hl)
/-! ### Loops -/
section
variable {Q : Exit → Act → World → Prop} {a : Act} {c : Code}
theorem xb {m : Nat} (h : ∀ K : Act → World → Prop, (∀ a w, Code.rounds P c Q m a w → K a w) → c.wp P (Exit.then K Q) a w) : Code.rounds P c Q (m + 1) a w := h _ (fun _ _ h => h)
theorem yd : ∀ n m, n ≤ m → ∀ a w, Code.rounds P c Q n a w → Code.rounds P c Q m a w
  | 0, _, _, _, _, h => h.elim
  | n + 1, 0, hl, _, _, _ => by omega
  | n + 1, m + 1, hl, a, w, h => Code.wp_mono (fun e a w q => by
      cases e <;> first | exact yd n m (by omega) _ _ q | exact q) h
/-- A loop, by a number that falls. -/
theorem js (I : Nat → Act → World → Prop) (N : Nat) (h0 : I N a w) (round : ∀ m a w, I m a w → ∀ K : Act → World → Prop, (∀ m' a' w', m' < m → I m' a' w' → K a' w') → c.wp P (Exit.then K Q) a w) : (Code.loop c).wp P Q a w := by
  have key : ∀ m a w, I m a w → Code.rounds P c Q (m + 1) a w := by
    intro m
    induction m using Nat.strongRecOn with
    | _ m ih =>
      intro a w h
      exact round m a w h _ (fun m' a' w' hm h' => yd (m' + 1) m (by omega) _ _ (ih m' hm a' w' h'))
  exact wp_loop_rounds (N + 1) (key N a w h0)
end
theorem xf {t : TypeId} {x i : Operand} {u u' : Value} (hx : ev l x = some u) (hi : ev l i = some u') (hr : ∀ w, (Instr.indexAt t u u').run P w = .ok v w) : Does P l ⟨dst, .indexAddr t x i, ty, pos, after, guard⟩ w v w := fun ρ h => by
  simp only [execOp, h x _ hx, h i _ hi, Sem.run_bind, hr w, Result.andThen_ok, Sem.run_pure]
/-- The place of an element of a row of words. -/
theorem qfh {t e : TypeId} (hu : P.underlying t = some (.slice e)) (he : (P.info? e).map (·.size) = some 1) {g o n c k : Nat} (hk : k < n) : ∀ w, (Instr.indexAt t (.slice (some ⟨g, o, none⟩) n c) (.int .i64 (k : Nat))).run P w = .ok (.pointer (some ⟨g, o + k, none⟩)) w := fun w => by
  obtain ⟨i, hi, hs⟩ := jq he
  have h2 : (sizeOf e).run P w = .ok 1 w := by simp [sizeOf, typeInfo, hi, hs]
  have h3 : (0 : Int) ≤ (k : Nat) ∧ ((k : Nat) : Int) < (n : Nat) := ⟨by omega, by omega⟩
  simp [Instr.indexAt, asIntOf, run_underlying hu, h2, h3, xn]
  intro h
  omega
theorem zw {t e : TypeId} (hu : P.underlying t = some (.slice e)) (he : (P.info? e).map (·.size) = some 1) {x i : Operand} {so : Option Addr} {b off n c k : Nat} {z : Int} (hx : ev l x = some (.slice so n c)) (hi : ev l i = some (.int .i64 z)) (hz : z = (k : Nat)) (hso : so = some ⟨b, off, none⟩) (hk : k < n) :
    Does P l ⟨dst, .indexAddr t x i, ty, pos, after, guard⟩ w (.pointer (some ⟨b, off + k, none⟩)) w := by
  subst hso hz
  exact xf hx hi (qfh hu he hk)
theorem qji {t : TypeId} {x : Operand} {f : Nat} {u : Value} (hx : ev l x = some u) (hr : ∀ w, (Instr.field t u f).run P w = .ok v w) : Does P l ⟨dst, .field t x f, ty, pos, after, guard⟩ w v w := fun ρ h => by
  simp only [execOp, h x _ hx, Sem.run_bind, hr w, Result.andThen_ok, Sem.run_pure]
theorem xe {s d : TypeId} {x : Operand} {u : Value} (hx : ev l x = some u) (hr : ∀ w, (convert s d u).run P w = .ok v w) : Does P l ⟨dst, .convert s d x, ty, pos, after, guard⟩ w v w := fun ρ h => by
  simp only [execOp, h x _ hx, Sem.run_bind, hr w, Result.andThen_ok, Sem.run_pure]
theorem vr {b : Builtin} {xs : List Operand} {ts : Array TypeId} {vs : List Value} (hx : evs l xs = some vs) (hr : ∀ w cs, (builtin b ts ty cs vs.toArray).run P w = .ok (.value v) w) : Does P l ⟨dst, .call ⟨.builtin b, xs.toArray, ts⟩, ty, pos, after, guard⟩ w v w := fun ρ h => by
  have e : xs.map ρ = vs := by
    have : ∀ (xs : List Operand) (vs : List Value), evs l xs = some vs → xs.map ρ = vs := by
      intro xs
      induction xs with
      | nil => intro vs hx; simp [evs] at hx; simp [hx]
      | cons x xs ih =>
        intro vs hx
        unfold evs at hx
        split at hx
        · rename_i v us h1 h2
          cases hx
          simp [h _ _ h1, ih _ h2]
        · cases hx
    exact this xs vs hx
  rw [BigFrame.execOp_builtin]
  simp only [List.map_toArray, e, hr]

/-! ### Operators -/
section
variable {t : TypeId} {x y : Operand} {k : IntKind} {a b : Int}
theorem zt : ∀ w, (do eqGuard .lss t x y (.int k a) (.int k b); binOp .lss t (.int k a) (.int k b) : Sem Value).run P w = .ok (.bool (decide (a < b))) w := fun w => by simp [go_sem]
theorem qha : ∀ w, (do eqGuard .leq t x y (.int k a) (.int k b); binOp .leq t (.int k a) (.int k b) : Sem Value).run P w = .ok (.bool (decide (a ≤ b))) w := fun w => by simp [go_sem]
theorem ju : ∀ w, (do eqGuard .gtr t x y (.int k a) (.int k b); binOp .gtr t (.int k a) (.int k b) : Sem Value).run P w = .ok (.bool (decide (b < a))) w := fun w => by simp [go_sem]
theorem vt : ∀ w, (do eqGuard .geq t x y (.int k a) (.int k b); binOp .geq t (.int k a) (.int k b) : Sem Value).run P w = .ok (.bool (decide (b ≤ a))) w := fun w => by simp [go_sem]
theorem zl : ∀ w, (do eqGuard .eql t x y (.int k a) (.int k b); binOp .eql t (.int k a) (.int k b) : Sem Value).run P w = .ok (.bool (a == b)) w := fun w => by simp [go_sem]
theorem jd : ∀ w, (do eqGuard .neq t x y (.int k a) (.int k b); binOp .neq t (.int k a) (.int k b) : Sem Value).run P w = .ok (.bool (a != b)) w := fun w => by simp [go_sem]
theorem uk {a : Int} (h0 : -9223372036854775808 ≤ a) (h1 : a ≤ 9223372036854775807) : IntKind.i64.wrap a = a := IntWalk.i64_in a ⟨h0, h1⟩
theorem qea (h : k.wrap (a + b) = a + b) : ∀ w, (do eqGuard .add t x y (.int k a) (.int k b); binOp .add t (.int k a) (.int k b) : Sem Value).run P w = .ok (.int k (a + b)) w := fun w => by simp [go_sem, h]
theorem qle (h : k.wrap (a - b) = a - b) : ∀ w, (do eqGuard .sub t x y (.int k a) (.int k b); binOp .sub t (.int k a) (.int k b) : Sem Value).run P w = .ok (.int k (a - b)) w := fun w => by simp [go_sem, h]
theorem znh (h : k.wrap (-a) = -a) : ∀ w, (Op.unary .neg (.int k a)).run P w = .ok (.int k (-a)) w := fun w => by simp [go_sem, h]
theorem qcc (hu : P.underlying t = some .bool) {c d : Bool} : ∀ w, (do eqGuard .eql t x y (.bool c) (.bool d); binOp .eql t (.bool c) (.bool d) : Sem Value).run P w = .ok (.bool (c == d)) w := fun w => by
  simp [go_sem, hu, run_underlying hu]
theorem qwf (hu : P.underlying t = some .bool) {c d : Bool} : ∀ w, (do eqGuard .neq t x y (.bool c) (.bool d); binOp .neq t (.bool c) (.bool d) : Sem Value).run P w = .ok (.bool (!(c == d))) w := fun w => by
  simp [go_sem, hu, run_underlying hu]
theorem zv {c : Bool} : ∀ w, (Op.unary .not (.bool c)).run P w = .ok (.bool (!c)) w := fun w => by simp [go_sem]
end
end
section
variable {P : Program} {ops : List Oper} {Q : Exit → Act → World → Prop} {a : Act} {w w' : World} {n : Nat} {l : List (Nat × Value)} {o : Oper} {v : Value} {rest : List Oper} {d : Nat}
theorem sdo (hA : Sl a n l) (he : Does P l o w v w') (hk : ∀ a', Sl a' n ((d, v) :: l) → wpList P ops.toArray Q rest a' w') (hg : zr l ops o = true := by rfl) (hdst : o.dst = some d := by rfl) (hd : Nat.blt d n = true := by rfl) : wpList P ops.toArray Q (o :: rest) a w := kv hA hg hdst hd he hk
theorem sdm {x : Operand} {ty : TypeId} {pos : String} {after : Array Edge} {guard : Option (Nat × Bool)} (hA : Sl a n l) (hk : ∀ a', Sl a' n ((d, v) :: l) → wpList P ops.toArray Q rest a' w) (hx : ev l x = some v := by rfl) (hg : zr l ops ⟨some d, .move x, ty, pos, after, guard⟩ = true := by rfl) (hd : Nat.blt d n = true := by rfl) : wpList P ops.toArray Q (⟨some d, .move x, ty, pos, after, guard⟩ :: rest) a w := sdo hA (qz hx) hk hg rfl hd
theorem sda {x : Operand} {ty : TypeId} {pos : String} {after : Array Edge} {guard : Option (Nat × Bool)} (hA : Sl a n l) (hk : ∀ a', Sl a' n ((d, v) :: l) → wpList P ops.toArray Q rest a' w) (hx : ev l x = some v := by rfl) (hg : zr l ops ⟨some d, .assign x, ty, pos, after, guard⟩ = true := by rfl) (hd : Nat.blt d n = true := by rfl) : wpList P ops.toArray Q (⟨some d, .assign x, ty, pos, after, guard⟩ :: rest) a w := sdo hA (zh hx) hk hg rfl hd
theorem sdk {c x y : Operand} {b : Bool} {u u' : Value} {ty : TypeId} {pos : String} {after : Array Edge} {guard : Option (Nat × Bool)} (hA : Sl a n l) (hk : ∀ a', Sl a' n ((d, v) :: l) → wpList P ops.toArray Q rest a' w) (hc : ev l c = some (.bool b) := by rfl) (hx : ev l x = some u := by rfl) (hy : ev l y = some u' := by rfl) (hv : v = cond b u u' := by rfl) (hg : zr l ops ⟨some d, .pick c x y, ty, pos, after, guard⟩ = true := by rfl) (hd : Nat.blt d n = true := by rfl) : wpList P ops.toArray Q (⟨some d, .pick c x y, ty, pos, after, guard⟩ :: rest) a w := sdo hA (jr hc hx hy hv) hk hg rfl hd
abbrev pg (g : Nat) : Value := .pointer (some ⟨g, 0, none⟩)
theorem wsk {x y : Code} (h : ∀ K : Act → World → Prop, (∀ a w, y.wp P Q a w → K a w) → x.wp P (Exit.then K Q) a w) : (Code.seq x y).wp P Q a w := wp_seq_k h
theorem wrl {id : Nat} {l : List Oper} (h : wpList P l.toArray Q l a w) : (Code.region id l.toArray false).wp P Q a w := wp_region_lit h
theorem tf (b : Bool) : b = true ∨ b = false := Bool.eq_false_or_eq_true b
variable {fn : Func} {Z : Ending → World → Prop} {r1 r2 r3 : ResultVar} {v1 v2 v3 : Value}
theorem en1 (hA : Sl a n l) (hrs : fn.results = #[r1]) (h1 : vl P l w r1 v1) (hz : Z (.returned v1) w) : bodyPost P fn Z .ret a w := ends hA (rs := [r1]) hrs (.cons h1 .nil) rfl hz
theorem en2 (hA : Sl a n l) (hrs : fn.results = #[r1, r2]) (h1 : vl P l w r1 v1) (h2 : vl P l w r2 v2) (hz : Z (.returned (.tuple #[v1, v2])) w) : bodyPost P fn Z .ret a w := ends hA (rs := [r1, r2]) hrs (.cons h1 (.cons h2 .nil)) rfl hz
theorem en3 (hA : Sl a n l) (hrs : fn.results = #[r1, r2, r3]) (h1 : vl P l w r1 v1) (h2 : vl P l w r2 v2) (h3 : vl P l w r3 v3) (hz : Z (.returned (.tuple #[v1, v2, v3])) w) : bodyPost P fn Z .ret a w := ends hA (rs := [r1, r2, r3]) hrs (.cons h1 (.cons h2 (.cons h3 .nil))) rfl hz
end
set_option maxHeartbeats 1000000 in
set_option maxRecDepth 1000000 in
theorem zni {w : World} {b : Bool} {to_ bo : Option Addr} {top bot : List Nat} (tc bc : Nat) (ht : Rd w to_ top) (hb : Rd w bo bot) (lt : top.length ≤ 9223372036854775807) (lb : bot.length ≤ 9223372036854775807) :
    Calls Tryz.prog 124 #[.agg #[.bool b, .slice to_ top.length tc, .slice bo bot.length bc]] w fun e w' => e = .returned (.bool (sound top && sound bot)) ∧ Below w.heap.size w w' := by
  obtain ⟨m, HM⟩ : ∃ n, Hid (top.length = n) := ⟨_, rfl⟩
  obtain ⟨n, HN⟩ : ∃ n, Hid (bot.length = n) := ⟨_, rfl⟩
  rw [HM.out, HN.out]
  have hal : Below w.heap.size w (w.alloc (.cells #[.bool b, .slice to_ m tc, .slice bo n bc] 24)) := (Below.refl _ _).alloc (Nat.le_refl _) _
  have c1 := sound_any tc (ht.below hal) lt
  have c2 := sound_any bc (hb.below hal) lb
  rw [HM.out] at c1
  rw [HN.out] at c2
  have HC1 : Hid _ := c1
  have HC2 : Hid _ := c2
  have HAL : Hid _ := hal
  obtain ⟨z, hz⟩ : ∃ z, sound top = z := ⟨_, rfl⟩
  rw [hz] at HC1 ⊢
  clear c1 c2 ht hb lt lb hz hal
  cases z with
  | false =>
    go_enter Tryz.func124, Tryz.ntmps124
    go_wp2_with fail
    refine Calls.mono HC1.out ?_
    rintro e w' ⟨rfl, hw'⟩
    have hw' := hw'.symm
    subst hw'
    go_wp2
    go_ret
    exact ⟨rfl, HAL.out⟩
  | true =>
    rw [Bool.true_and]
    go_enter Tryz.func124, Tryz.ntmps124
    go_wp2_with fail
    refine Calls.mono HC1.out ?_
    rintro e w' ⟨rfl, hw'⟩
    have hw' := hw'.symm
    subst hw'
    go_wp2_with fail
    refine Calls.mono HC2.out ?_
    rintro e w' ⟨rfl, hw'⟩
    have hw' := hw'.symm
    subst hw'
    go_wp2
    go_ret
    exact ⟨rfl, HAL.out⟩

set_option maxHeartbeats 1000000 in
set_option maxRecDepth 1000000 in
theorem zbg {w : World} {b1 b2 : Bool} {o1 o2 o3 o4 : Option Addr} {m1 m2 m3 m4 c1 c2 c3 c4 : Nat} (h : m3 ≤ 9223372036854775807) :
    Calls Tryz.prog 41 #[.agg #[.bool b1, .slice o1 m1 c1, .slice o2 m2 c2, .bool b2, .slice o3 m3 c3, .slice o4 m4 c4]] w fun e w' => e = .returned (.bool (decide (m3 = 0))) ∧ Below w.heap.size w w' := by
  have HAL : Hid (∀ o, Below w.heap.size w (w.alloc o)) := fun o => (Below.refl _ _).alloc (Nat.le_refl _) o
  by_cases hm : m3 = 0
  · subst hm
    go_enter Tryz.func41, Tryz.ntmps41
    go_wp2
    go_ret
    exact ⟨rfl, HAL.out _⟩
  · have e : decide (m3 = 0) = false := decide_eq_false hm
    rw [e]
    have hm1 : ((m3 : Int) == 0) = false := by simp; omega
    clear e
    go_enter Tryz.func41, Tryz.ntmps41
    go_wp2
    go_ret
    exact ⟨rfl, HAL.out _⟩
theorem xp {w w' : World} (h : w' = w) : Below w.heap.size w w' := h ▸ Below.refl _ _
/-- A slice of words: what it reads as; room only where there is memory. -/
structure Sc (w : World) (o : Option Addr) (c : Nat) (l : List Nat) : Prop where
  rd : Rd w o l
  nil : o = none → c = 0
  cap : l.length ≤ c
theorem Sc.below {w w' : World} {o : Option Addr} {c : Nat} {l : List Nat} (h : Sc w o c l) (hb : Below w.heap.size w w') : Sc w' o c l := ⟨h.rd.below hb, h.nil, h.cap⟩
theorem Own.sc {B : Nat} {w : World} {o : Option Addr} {c : Nat} {l : List Nat} (h : Own B w o c l) : Sc w o c l := ⟨h.rd, h.nocap, h.caps⟩
theorem Sc.none (w : World) : Sc w none 0 [] := ⟨Rd.nil _ _, fun _ => rfl, Nat.le_refl _⟩
/-- A number of two fractions: its signs, tops and bottoms. -/
structure Q6 where
  b1 : Bool
  t1 : List Nat
  q1 : List Nat
  b2 : Bool
  t2 : List Nat
  q2 : List Nat
/-- The value of six cells: signs, and slices of so many words. -/
def jx (q : Q6) (o1 : Option Addr) (c1 : Nat) (o2 : Option Addr) (c2 : Nat) (o3 : Option Addr) (c3 : Nat) (o4 : Option Addr) (c4 : Nat) : Value :=
  .agg #[.bool q.b1, .slice o1 q.t1.length c1, .slice o2 q.q1.length c2, .bool q.b2, .slice o3 q.t2.length c3, .slice o4 q.q2.length c4]
structure Nm (w : World) (q : Q6) (o1 : Option Addr) (c1 : Nat) (o2 : Option Addr) (c2 : Nat) (o3 : Option Addr) (c3 : Nat) (o4 : Option Addr) (c4 : Nat) : Prop where
  s1 : Sc w o1 c1 q.t1
  s2 : Sc w o2 c2 q.q1
  s3 : Sc w o3 c3 q.t2
  s4 : Sc w o4 c4 q.q2
/-- The number without anything. -/
def Q6.zero : Q6 := ⟨false, [], [], false, [], []⟩
/-- A whole number of a sign and a size. -/
def Q6.whole (b : Bool) (x : Nat) : Q6 := ⟨b, words x, [1], false, [], [1]⟩
/-- A number and an error's number are answered. -/
def AnsN (w : World) (r : Q6 × Int) (e : Ending) (w' : World) : Prop := ∃ o1 c1 o2 c2 o3 c3 o4 c4, e = .returned (.tuple #[jx r.1 o1 c1 o2 c2 o3 c3 o4 c4, .int .i64 r.2]) ∧ Nm w' r.1 o1 c1 o2 c2 o3 c3 o4 c4 ∧ Below w.heap.size w w'
/-- A number is answered. -/
def AnsV (w : World) (q : Q6) (e : Ending) (w' : World) : Prop := ∃ o1 c1 o2 c2 o3 c3 o4 c4, e = .returned (jx q o1 c1 o2 c2 o3 c3 o4 c4) ∧ Nm w' q o1 c1 o2 c2 o3 c3 o4 c4 ∧ Below w.heap.size w w'
/-- A whole number, unless it is too long. -/
def ja (b : Bool) (z : Nat) : Q6 × Int := if (words z).length ≤ 512 then (Q6.whole b z, 0) else (Q6.zero, 4)
theorem yf {b : Bool} {z : Nat} (h : (words z).length ≤ 512) : ja b z = (Q6.whole b z, 0) := by unfold ja; rw [if_pos h]
theorem qmf {b : Bool} {z : Nat} (h : ¬ (words z).length ≤ 512) : ja b z = (Q6.zero, 4) := by unfold ja; rw [if_neg h]

theorem jt : words 1 = [1] := by rw [words_pos (by omega)]; simp [words_zero]
theorem zbh (w : World) : Calls Tryz.prog 76 #[.int .u64 1] w (Row1 w [1]) := by
  have h := of_any 1 w (by omega)
  rw [jt] at h
  exact h
theorem zy {x : Nat} (h : (words x).length ≤ 512) : sound (words x) = true := (sound_iff _).2 ⟨h, words_top x⟩
theorem zkd {w : World} {ao bo : Option Addr} {x y : Nat} (ca cb : Nat) (ha : Rd w ao (words x)) (hb : Rd w bo (words y)) (hx : (words x).length ≤ 512) (hy : y ≤ x) :
    Calls Tryz.prog 70 #[.slice ao (words x).length ca, .slice bo (words y).length cb] w fun e w' => ∃ ro rc, e = .returned (.tuple #[.slice ro (words (x - y)).length rc, .int .i64 0]) ∧ Own w.heap.size w' ro rc (words (x - y)) ∧ Below w.heap.size w w' := by
  have hl := words_mono hy
  have h := sub_any ca cb ha hb (by omega) (by omega)
  have e : subS (words x) (words y) = (words (x - y), 0) := by
    unfold subS
    simp only [zy hx, zy (Nat.le_trans hl hx), val_words, Bool.and_self, if_true]
    rw [if_neg (by omega)]
  rw [e] at h
  exact h
theorem qqi {w : World} {ao bo : Option Addr} {x y : Nat} (ca cb : Nat) (ha : Rd w ao (words x)) (hb : Rd w bo (words y)) (hx : (words x).length ≤ 512) (hy : (words y).length ≤ 512) :
    Calls Tryz.prog 79 #[.slice ao (words x).length ca, .slice bo (words y).length cb] w (Ans w (fitS (x + y))) := by
  have h := add_any ca cb ha hb (by omega) (by omega)
  have e : addS (words x) (words y) = fitS (x + y) := by
    unfold addS
    simp only [zy hx, zy hy, val_words, Bool.and_self, if_true]
  rw [e] at h
  exact h
theorem zwc {w : World} {ao bo : Option Addr} {x y : Nat} (ca cb : Nat) (ha : Rd w ao (words x)) (hb : Rd w bo (words y)) (hx : (words x).length ≤ 512) (hy : (words y).length ≤ 512) (h : (words (x + y)).length ≤ 512) :
    Calls Tryz.prog 79 #[.slice ao (words x).length ca, .slice bo (words y).length cb] w fun e w' => ∃ ro rc, e = .returned (.tuple #[.slice ro (words (x + y)).length rc, .int .i64 0]) ∧ Own w.heap.size w' ro rc (words (x + y)) ∧ Below w.heap.size w w' := by
  have := qqi ca cb ha hb hx hy
  unfold fitS at this
  rw [if_pos h] at this
  exact this
theorem zwd {w : World} {ao bo : Option Addr} {x y : Nat} (ca cb : Nat) (ha : Rd w ao (words x)) (hb : Rd w bo (words y)) (hx : (words x).length ≤ 512) (hy : (words y).length ≤ 512) (h : ¬ (words (x + y)).length ≤ 512) :
    Calls Tryz.prog 79 #[.slice ao (words x).length ca, .slice bo (words y).length cb] w fun e w' => ∃ ro rc, e = .returned (.tuple #[.slice ro 0 rc, .int .i64 4]) ∧ Own w.heap.size w' ro rc [] ∧ Below w.heap.size w w' := by
  have := qqi ca cb ha hb hx hy
  unfold fitS at this
  rw [if_neg h] at this
  exact this
theorem qjj (b : Bool) : (words b.toNat).length ≤ 1 := words_length_le (by cases b <;> decide)
/-- How long an argument's lists can be. -/
structure LenQ (q : Q6) : Prop where
  l1 : q.t1.length ≤ 9223372036854775807
  l2 : q.q1.length ≤ 9223372036854775807
  l3 : q.t2.length ≤ 9223372036854775807
  l4 : q.q2.length ≤ 9223372036854775807
def je (q : Q6) : Bool := qfi q.b1 q.t1 q.q1 q.b2 q.t2 q.q2
def jv (q : Q6) : Bool := je q && (decide (q.t2.length = 0) && decide (q.q1 = [1]))
theorem jf {w : World} {q : Q6} {o1 o2 o3 o4 : Option Addr} {c1 c2 c3 c4 : Nat} (h : Nm w q o1 c1 o2 c2 o3 c3 o4 c4) (hl : LenQ q) {r : Bool} (hr : je q = r) :
    Calls Tryz.prog 39 #[jx q o1 c1 o2 c2 o3 c3 o4 c4] w fun e w' => e = .returned (.bool r) ∧ Below w.heap.size w w' := by
  subst hr
  exact zbf c1 c2 c3 c4 h.s1.rd h.s2.rd h.s3.rd h.s4.rd hl.l1 hl.l2 hl.l3 hl.l4 h.s1.nil h.s2.nil h.s3.nil h.s4.nil
theorem yy {w : World} {q : Q6} {o1 o2 o3 o4 : Option Addr} {c1 c2 c3 c4 : Nat} (hl : LenQ q) {r : Bool} (hr : decide (q.t2.length = 0) = r) :
    Calls Tryz.prog 41 #[jx q o1 c1 o2 c2 o3 c3 o4 c4] w fun e w' => e = .returned (.bool r) ∧ Below w.heap.size w w' := by
  subst hr
  exact zbg hl.l3
theorem vm {w : World} {ao : Option Addr} {l : List Nat} (ca : Nat) (ha : Rd w ao l) (hl : l.length ≤ 9223372036854775807) {r : Bool} (hr : decide (l = [1]) = r) :
    Calls Tryz.prog 91 #[.slice ao l.length ca] w fun e w' => e = .returned (.bool r) ∧ w' = w := by
  subst hr
  exact qqd ca ha hl
/-- What is asked of numbers whose bits are wanted. -/
def ji (q : Q6) : Int := if je q = true then (if jv q = true then 0 else 10) else 2
def kq (p q : Q6) : Int := if je p = true ∧ je q = true then (if jv p = true ∧ jv q = true then 0 else 10) else 2
/-- A sound whole number is told by its sign and its size. -/
theorem zbi {q : Q6} (hd1 : Dig q.t1) (hd4 : Dig q.q2) (h : jv q = true) : ∃ x, q = Q6.whole q.b1 x ∧ (words x).length ≤ 512 ∧ q.b1.toNat ≤ x := by
  unfold jv je qfi at h
  simp only [Bool.and_eq_true, decide_eq_true_eq] at h
  obtain ⟨⟨h1, h2⟩, h3, h4⟩ := h
  have h3' := List.length_eq_zero_iff.1 h3
  have hs1 : sound q.t1 = true := by
    apply Classical.byContradiction
    intro hn
    unfold ye qlc at h1
    simp [hn] at h1
  obtain ⟨e1, l1⟩ := sound_words hd1 hs1
  have hq2 : q.q2 = [1] := by
    unfold ye qlc at h2
    rw [h3'] at h2
    by_cases hs : sound q.q2 = true
    · have hs0 : sound [] = true := by decide
      simp only [hs0, hs, Bool.and_self, if_true, val_nil, Nat.gcd_zero_left, Bool.and_eq_true, decide_eq_true_eq] at h2
      have := h2.2.2
      rw [← (sound_words hd4 hs).1] at this
      exact this
    · simp [hs] at h2
  have hb2 : q.b2 = false := by
    unfold ye at h2
    rw [h3'] at h2
    cases hb : q.b2 with
    | false => rfl
    | true => rw [hb] at h2; simp at h2
  refine ⟨val q.t1, ?_, by rw [← e1]; exact l1, ?_⟩
  · cases q
    simp only [Q6.whole] at *
    rw [← e1, h4, h3', hq2, hb2]
  · cases hb : q.b1 with
    | false => simp
    | true =>
      unfold ye at h1
      rw [hb] at h1
      simp only [Bool.and_true, Bool.and_eq_true, Bool.not_eq_true', Bool.or_eq_false_iff, decide_eq_false_iff_not] at h1
      have hne := h1.1.2
      have : val q.t1 ≠ 0 := by
        intro e
        rw [e, words_zero] at e1
        rw [e1] at hne
        exact hne rfl
      simp
      omega
/-- z over d, in lowest terms. -/
def rb (z : Int) : Bool := decide (z < 0)
def rt (z : Int) (d : Nat) : Nat := z.natAbs / Nat.gcd z.natAbs d
def rq (z : Int) (d : Nat) : Nat := d / Nat.gcd z.natAbs d
def AnsF (w : World) (b : Bool) (t q : List Nat) (e : Ending) (w' : World) : Prop := ∃ o1 c1 o2 c2, e = .returned (.agg #[.bool b, .slice o1 t.length c1, .slice o2 q.length c2]) ∧ Sc w' o1 c1 t ∧ Sc w' o2 c2 q ∧ Below w.heap.size w w'
theorem zbj {x d : Nat} (h : d ≠ 0) : Nat.gcd x d ≠ 0 := fun e => h (Nat.eq_zero_of_gcd_eq_zero_right e)
theorem va {x g k : Nat} (h : (words x).length ≤ k) : (words (x / g)).length ≤ k := Nat.le_trans (words_mono (Nat.div_le_self x g)) h
theorem qhb {x d k : Nat} (hd : d ≠ 0) (h : (words d).length ≤ k) : (words (Nat.gcd x d)).length ≤ k := Nat.le_trans (words_mono (Nat.gcd_le_right x (by omega))) h
theorem kb {x : Nat} : 0 < (words x).length ↔ x ≠ 0 := by
  rw [List.length_pos_iff]
  exact not_congr words_eq_nil
/-- A whole number of any sign is answered. -/
def AnsZ (w : World) (z : Int) (e : Ending) (w' : World) : Prop := ∃ o c, e = .returned (.agg #[.bool (rb z), .slice o (words z.natAbs).length c]) ∧ Sc w' o c (words z.natAbs) ∧ Below w.heap.size w w'
theorem AnsZ.sgn {w w' : World} {b b' : Bool} {n : Nat} {z : Int} {o : Option Addr} {c : Nat} (hz : sgn b n = z) (hb : rb (sgn b n) = b') (hs : Sc w' o c (words n)) (hbel : Below w.heap.size w w') : AnsZ w z (.returned (.agg #[.bool b', .slice o (words n).length c])) w' := by
  subst hz hb
  refine ⟨o, c, ?_, ?_, hbel⟩
  · rw [yx]
  · rw [yx]; exact hs
theorem qih (z : Int) : sgn (rb z) z.natAbs = z := by unfold sgn rb; by_cases h : z < 0 <;> simp [h] <;> omega
theorem zs_add {x y : Int} (h : (rb x == rb y) = true) : sgn (rb x) (x.natAbs + y.natAbs) = x + y := by
  have h := eq_of_beq h
  unfold rb at *
  unfold sgn
  by_cases h1 : x < 0 <;> by_cases h2 : y < 0 <;> simp [h1, h2] at h ⊢ <;> omega
theorem znj {x y : Int} (h : (rb x == rb y) = false) (hl : y.natAbs ≤ x.natAbs) : sgn (rb x) (x.natAbs - y.natAbs) = x + y := by
  have h := ne_of_beq_false h
  unfold rb at *
  unfold sgn
  by_cases h1 : x < 0 <;> by_cases h2 : y < 0 <;> simp [h1, h2] at h ⊢ <;> omega
theorem zoa (x y : Int) : sgn (!(rb x == rb y)) (x.natAbs * y.natAbs) = x * y := by
  rw [← Int.natAbs_mul]
  have key : (!(rb x == rb y)) = rb (x * y) ∨ x * y = 0 := by
    unfold rb
    rcases Int.lt_trichotomy x 0 with h1 | h1 | h1
    · rcases Int.lt_trichotomy y 0 with h2 | h2 | h2
      · left; have := Int.mul_pos_of_neg_of_neg h1 h2; simp [h1, h2]; omega
      · right; rw [h2, Int.mul_zero]
      · left; have := Int.mul_neg_of_neg_of_pos h1 h2; simp [h1, this]; omega
    · right; rw [h1, Int.zero_mul]
    · rcases Int.lt_trichotomy y 0 with h2 | h2 | h2
      · left; have := Int.mul_neg_of_pos_of_neg h1 h2; simp [h2, this]; omega
      · right; rw [h2, Int.mul_zero]
      · left
        have h3 := Int.mul_pos h1 h2
        have a1 : ¬ x < 0 := by omega
        have a2 : ¬ y < 0 := by omega
        have a3 : ¬ x * y < 0 := by omega
        simp [a1, a2, a3]
  rcases key with h | h
  · rw [h]; exact qih _
  · rw [h]; simp [sgn]
theorem xg {x y : Int} {k m : Nat} (hx : (words x.natAbs).length ≤ k) (hy : (words y.natAbs).length ≤ m) : (words (x * y).natAbs).length ≤ k + m := by rw [Int.natAbs_mul]; exact words_mul_length hx hy
theorem qka {x y : Int} {k : Nat} (hx : (words x.natAbs).length ≤ k) (hy : (words y.natAbs).length ≤ k) : (words (x + y).natAbs).length ≤ k + 1 := Nat.le_trans (words_mono (Int.natAbs_add_le x y)) (words_add_length hx hy)
/-- (x + y i) over d is answered. -/
def AnsR (w : World) (x y : Int) (d : Nat) (e : Ending) (w' : World) : Prop := ∃ o1 c1 o2 c2 o3 c3, e = .returned (.agg #[.bool (rb x), .slice o1 (words x.natAbs).length c1, .bool (rb y), .slice o2 (words y.natAbs).length c2, .slice o3 (words d).length c3]) ∧ Sc w' o1 c1 (words x.natAbs) ∧ Sc w' o2 c2 (words y.natAbs) ∧ Sc w' o3 c3 (words d) ∧ Below w.heap.size w w'
/-- .. in lowest terms, unless that is too long. -/
def qmg (x y : Int) (d : Nat) : Q6 × Int :=
  if (words (rt x d)).length ≤ 512 ∧ (words (rq x d)).length ≤ 512 ∧ (words (rt y d)).length ≤ 512 ∧ (words (rq y d)).length ≤ 512 then (⟨rb x, words (rt x d), words (rq x d), rb y, words (rt y d), words (rq y d)⟩, 0) else (Q6.zero, 4)
theorem qqj (x : Nat) : sound (words x) = decide ((words x).length ≤ 512) := by
  by_cases h : (words x).length ≤ 512
  · rw [zy h, decide_eq_true h]
  · rw [decide_eq_false h]
    cases hs : sound (words x) with
    | false => rfl
    | true => exact absurd ((sound_iff _).1 hs).1 h
theorem qkb {b : Bool} {x y : Nat} (hx : (words x).length ≤ 512) (hy : (words y).length ≤ 512) : ye b (words x) (words y) = (!(decide ((words y).length = 0) || (decide ((words x).length = 0) && b)) && decide (words (Nat.gcd x y) = [1])) := by
  unfold ye qlc
  simp only [zy hx, zy hy, val_words, Bool.and_self, if_true, decide_true, Bool.true_and]
set_option maxRecDepth 100000
theorem BiA_is1_22 : Is1 Tryz.prog 22 := ⟨⟨_, Tryz.underlying22, rfl⟩, by kernel_rfl⟩
theorem BiA_is1_4 : Is1 Tryz.prog 4 := ⟨⟨_, Tryz.underlying4, rfl⟩, by kernel_rfl⟩
theorem BiA_fld_24_0 : FieldAt Tryz.prog 24 0 0 := ⟨_, _, Tryz.underlying24, rfl, rfl, by kernel_rfl⟩
theorem BiA_fld_24_1 : FieldAt Tryz.prog 24 1 1 := ⟨_, _, Tryz.underlying24, rfl, rfl, by kernel_rfl⟩
theorem BiA_fld_24_2 : FieldAt Tryz.prog 24 2 2 := ⟨_, _, Tryz.underlying24, rfl, rfl, by kernel_rfl⟩
theorem BiA_fld_26_0 : FieldAt Tryz.prog 26 0 0 := ⟨_, _, Tryz.underlying26, rfl, rfl, by kernel_rfl⟩
theorem BiA_fld_62_0 : FieldAt Tryz.prog 62 0 0 := ⟨_, _, Tryz.underlying62, rfl, rfl, by kernel_rfl⟩
theorem BiA_fld_62_1 : FieldAt Tryz.prog 62 1 1 := ⟨_, _, Tryz.underlying62, rfl, rfl, by kernel_rfl⟩
theorem BiA_isS_26 : IsS Tryz.prog 26 6 := ⟨⟨_, Tryz.underlying26⟩, by kernel_rfl⟩
theorem BiA_isS_62 : IsS Tryz.prog 62 2 := ⟨⟨_, Tryz.underlying62⟩, by kernel_rfl⟩
theorem uy {w : World} (b : Bool) : Calls Tryz.prog 71 #[.bool b] w (Row1 w (words b.toNat)) := by
 cases b
 ·
  have V : St w w [] [] [] := St.start w
  refine qy (l := [(0, .bool false)]) Tryz.func71 rfl Tryz.ntmps71 rfl rfl ?_
  intro Q hret hnorm hP a A
  refine wsk fun K1 hK1 => wrl (sda A λa A↦?_)
  refine qa (hK1 _ _ (wsk fun K2 hK2 => wsk fun K3 hK3 => wrl (sdm A λa A↦?_)))
  refine qa (hK3 _ _ (wp_cond_false (A.ev rfl) ?_))
  refine wp_skip (hK2 _ _ (wsk fun K4 hK4 => wrl (qg A rfl rfl rfl (qb  rfl rfl (fun w => by kernel_rfl)) (of_any 0 _ (by decide)) ?_)))
  rintro _ w9 ⟨ro5, rc6, rfl, ho7, hb8⟩
  replace V := V.call hb8
  replace V := V.addR ho7.rd
  refine ⟨_, rfl, ?_⟩
  intro a A
  refine sda A λa A↦?_
  refine qa (hK4 _ _ (wp_ret (hret _ _ (en1 A rfl (qj rfl) ?_))))
  exact ⟨_, _, rfl, ho7, V.bel⟩
 ·
  have V : St w w [] [] [] := St.start w
  refine qy (l := [(0, .bool true)]) Tryz.func71 rfl Tryz.ntmps71 rfl rfl ?_
  intro Q hret hnorm hP a A
  refine wsk fun K1 hK1 => wrl (sda A λa A↦?_)
  refine qa (hK1 _ _ (wsk fun K2 hK2 => wsk fun K3 hK3 => wrl (sdm A λa A↦?_)))
  refine qa (hK3 _ _ (wp_cond_true (A.ev rfl) ?_))
  refine wsk fun K4 hK4 => wrl (qg A rfl rfl rfl (qb  rfl rfl (fun w => by kernel_rfl)) (of_any 1 _ (by decide)) ?_)
  rintro _ w9 ⟨ro5, rc6, rfl, ho7, hb8⟩
  replace V := V.call hb8
  replace V := V.addR ho7.rd
  refine ⟨_, rfl, ?_⟩
  intro a A
  refine sda A λa A↦?_
  refine qa (hK4 _ _ (wp_ret (hret _ _ (en1 A rfl (qj rfl) ?_))))
  exact ⟨_, _, rfl, ho7, V.bel⟩
theorem ym {w : World} {b : Bool} {x : Nat} {a1 a2 a3 a4 : Option Addr} {ac1 ac2 ac3 ac4 : Nat} (ha : Nm w (Q6.whole b x) a1 ac1 a2 ac2 a3 ac3 a4 ac4) (hx : (words x).length ≤ 512) (hb : b.toNat ≤ x) :
  Calls Tryz.prog 24 #[jx (Q6.whole b x) a1 ac1 a2 ac2 a3 ac3 a4 ac4] w fun e w' => ∃ ro rc, e = .returned (.agg #[.bool b, .slice ro (words (x - b.toNat)).length rc]) ∧ Sc w' ro rc (words (x - b.toNat)) ∧ Below w.heap.size w w' := by
 have V : St w w [] [(a4, [1]), (a3, []), (a2, [1]), (a1, words x)] [] := ((((St.start w).addR ha.s1.rd).addR ha.s2.rd).addR ha.s3.rd).addR ha.s4.rd
 refine qy (l := [(0, .agg #[.bool b, .slice a1 ((words x).length) ac1, .slice a2 1 ac2, .bool false, .slice a3 0 ac3, .slice a4 1 ac4])]) Tryz.func24 rfl Tryz.ntmps24 rfl rfl ?_
 intro Q hret hnorm hP a A
 refine wsk fun K1 hK1 => wrl (qn A V rfl rfl rfl pg (qw rfl rfl) rfl ?_)
 intro g2 w3 V a A
 refine qn (vs := [.bool false, .slice none 0 0]) (t := 62) A V rfl rfl rfl pg (ql (z := .agg #[.bool false, .slice none 0 0]) (by kernel_rfl) rfl) rfl ?_
 intro g4 w5 V a A
 refine qa (hK1 _ _ (wsk fun K6 hK6 => jc (S := fun w1 => St w w1 [(g4, [.bool false, .slice none 0 0]), (g2, [.bool b, .slice a1 ((words x).length) ac1, .slice a2 1 ac2, .bool false, .slice a3 0 ac3, .slice a4 1 ac4])] [(a4, [1]), (a3, []), (a2, [1]), (a1, words x)] []) (by kernel_rfl) ?_))
 replace V := V.drew
 refine qh (v := .pointer (some ⟨g2, 0, none⟩)) A 0 rfl rfl rfl rfl hP V (fun w1 V => qf BiA_fld_26_0 rfl rfl) λa A↦?_
 refine qh (v := .pointer (some ⟨g2, 1, none⟩)) A 1 rfl rfl rfl rfl hP V (fun w1 V => qf BiA_fld_24_1 rfl rfl) λa A↦?_
 refine qh A 2 rfl rfl rfl rfl hP V (fun w1 V => qs V BiA_is1_22 rfl 1 rfl rfl) λa A↦?_
 refine qh (v := .pointer (some ⟨g2, 0, none⟩)) A 3 rfl rfl rfl rfl hP V (fun w1 V => qf BiA_fld_26_0 rfl rfl) λa A↦?_
 refine qh (v := .pointer (some ⟨g2, 0, none⟩)) A 4 rfl rfl rfl rfl hP V (fun w1 V => qf BiA_fld_24_0 rfl rfl) λa A↦?_
 refine qh A 5 rfl rfl rfl rfl hP V (fun w1 V => qs V BiA_is1_4 rfl 1 rfl rfl) λa A↦?_
 refine qt (by kernel_rfl) (zf A 6 rfl rfl rfl rfl (qb  rfl rfl (fun w => by kernel_rfl)) (uy b) ?_)
 rintro _ w11 ⟨ro7, rc8, rfl, ho9, hb10⟩
 replace V := V.call hb10
 replace V := V.addR ho9.rd
 refine ⟨_, rfl, (V.partD (.refl _) 1 rfl (.refl _)), ?_⟩
 intro a A
 refine qt (by kernel_rfl) (zf A 7 rfl rfl rfl rfl (qb  rfl rfl (fun w => by kernel_rfl)) (zkd (x := x) (y := b.toNat) ac1 rc8 (V.rd 4 rfl) (V.rd 0 rfl) hx hb) ?_)
 rintro _ w16 ⟨ro12, rc13, rfl, ho14, hb15⟩
 replace V := V.call hb15
 replace V := V.addR ho14.rd
 refine ⟨_, rfl, (V.partD (.refl _) 2 rfl (.refl _)), ?_⟩
 intro a A
 refine qh A 8 rfl rfl rfl rfl hP (V.partD (.refl _) 2 rfl (.refl _)) (fun w1 V => qz rfl) λa A↦?_
 refine qh (v := .slice ro12 ((words (x - b.toNat)).length) rc13) A 9 rfl rfl rfl rfl hP (V.partD (.refl _) 2 rfl (.refl _)) (fun w1 V => qm (vs := [.slice ro12 ((words (x - b.toNat)).length) rc13, .int .i64 0]) rfl rfl) λa A↦?_
 refine qh (v := .int .i64 0) A 10 rfl rfl rfl rfl hP (V.partD (.refl _) 2 rfl (.refl _)) (fun w1 V => qm (vs := [.slice ro12 ((words (x - b.toNat)).length) rc13, .int .i64 0]) rfl rfl) λa A↦?_
 refine qh A 11 rfl rfl rfl rfl hP (V.partD (.refl _) 2 rfl (.refl _)) (fun w1 V => zh rfl) λa A↦?_
 refine qh A 12 rfl rfl rfl rfl hP (V.partD (.refl _) 2 rfl (.refl _)) (fun w1 V => zh rfl) λa A↦?_
 refine zn (by kernel_rfl) ?_
 refine hK6 _ _ (wsk fun K17 hK17 => wrl (sdo (v := .pointer (some ⟨g2, 0, none⟩)) A (qf BiA_fld_26_0 rfl rfl) λa A↦?_))
 refine sdo (v := .pointer (some ⟨g2, 0, none⟩)) A (qf BiA_fld_24_0 rfl rfl) λa A↦?_
 refine sdo A (qs V BiA_is1_4 rfl 1 rfl rfl) λa A↦?_
 refine sdm A λa A↦?_
 refine sdo (v := .agg #[.bool b, .slice ro12 ((words (x - b.toNat)).length) rc13]) A (za rfl (fun w => by kernel_rfl)) λa A↦?_
 refine qr (us := [.bool b, .slice ro12 ((words (x - b.toNat)).length) rc13]) A V rfl rfl (qi rfl rfl rfl (by kernel_rfl) V 0 rfl rfl rfl) 0 rfl rfl rfl rfl ?_
 intro w18 V
 refine qa (hK17 _ _ (wp_ret (hret _ _ (en1 A rfl (qx V BiA_isS_62 rfl 0 rfl (cs := [.bool b, .slice ro12 ((words (x - b.toNat)).length) rc13]) rfl rfl) ?_))))
 exact ⟨_, _, rfl, ⟨(V.rd 0 rfl), ho14.nocap, ho14.caps⟩, V.bel⟩
theorem qfj {w : World} (b : Bool) {so : Option Addr} {c : Nat} {x : Nat} (hs : Sc w so c (words x)) : Calls Tryz.prog 30 #[.bool b, .slice so (words x).length c] w (AnsV w (Q6.whole b x)) := by
 have V : St w w [] [(so, words x)] [] := (St.start w).addR hs.rd
 refine qy (l := [(0, .bool b), (1, .slice so ((words x).length) c)]) Tryz.func30 rfl Tryz.ntmps30 rfl rfl ?_
 intro Q hret hnorm hP a A
 refine wsk fun K1 hK1 => wrl (qn (vs := [.bool false, .slice none 0 0, .slice none 0 0, .bool false, .slice none 0 0, .slice none 0 0]) (t := 26) A V rfl rfl rfl pg (ql (z := .agg #[.bool false, .slice none 0 0, .slice none 0 0, .bool false, .slice none 0 0, .slice none 0 0]) (by kernel_rfl) rfl) rfl ?_)
 intro g2 w3 V a A
 refine qa (hK1 _ _ (wsk fun K4 hK4 => wrl ?_))
 iterate 2 refine sdm A λa A↦?_
 refine qg A rfl rfl rfl (qb  rfl rfl (fun w => by kernel_rfl)) (zbh _) ?_
 rintro _ w9 ⟨ro5, rc6, rfl, ho7, hb8⟩
 replace V := V.call hb8
 replace V := V.addR ho7.rd
 refine ⟨_, rfl, ?_⟩
 intro a A
 refine sdo (v := .agg #[.bool b, .slice so ((words x).length) c, .slice ro5 1 rc6]) A (za rfl (fun w => by kernel_rfl)) λa A↦?_
 refine qg A rfl rfl rfl (qb  rfl rfl (fun w => by kernel_rfl)) (zbh _) ?_
 rintro _ w14 ⟨ro10, rc11, rfl, ho12, hb13⟩
 replace V := V.call hb13
 replace V := V.addR ho12.rd
 refine ⟨_, rfl, ?_⟩
 intro a A
 refine sdo (v := .agg #[.bool false, .slice none 0 0, .slice ro10 1 rc11]) A (za rfl (fun w => by kernel_rfl)) λa A↦?_
 refine sdo (v := .agg #[.bool b, .slice so ((words x).length) c, .slice ro5 1 rc6, .bool false, .slice none 0 0, .slice ro10 1 rc11]) A (za rfl (fun w => by kernel_rfl)) λa A↦?_
 refine qr (us := [.bool b, .slice so ((words x).length) c, .slice ro5 1 rc6, .bool false, .slice none 0 0, .slice ro10 1 rc11]) A V rfl rfl (qi rfl rfl rfl (by kernel_rfl) V 0 rfl rfl rfl) 0 rfl rfl rfl rfl ?_
 intro w15 V
 refine qa (hK4 _ _ (wp_ret (hret _ _ (en1 A rfl (qx V BiA_isS_26 rfl 0 rfl (cs := [.bool b, .slice so ((words x).length) c, .slice ro5 1 rc6, .bool false, .slice none 0 0, .slice ro10 1 rc11]) rfl rfl) ?_))))
 exact ⟨so, c, ro5, rc6, none, 0, ro10, rc11, rfl, ⟨⟨(V.rd 2 rfl), hs.nil, hs.cap⟩, ⟨(V.rd 1 rfl), ho7.nocap, ho7.caps⟩, (Sc.none _), ⟨(V.rd 0 rfl), ho12.nocap, ho12.caps⟩⟩, V.bel⟩
theorem uz {w : World} {b : Bool} {ro : Option Addr} {rc y : Nat} (hr : Sc w ro rc (words y)) (hy : (words y).length ≤ 512) :
  Calls Tryz.prog 33 #[.agg #[.bool b, .slice ro (words y).length rc]] w (AnsN w (ja b (y + b.toNat))) := by
 by_cases hf : (words (y + b.toNat)).length ≤ 512
 ·
  have V : St w w [] [(ro, words y)] [] := (St.start w).addR hr.rd
  refine qy (l := [(0, .agg #[.bool b, .slice ro ((words y).length) rc])]) Tryz.func33 rfl Tryz.ntmps33 rfl rfl ?_
  intro Q hret hnorm hP a A
  refine wsk fun K1 hK1 => wrl (qn A V rfl rfl rfl pg (qw rfl rfl) rfl ?_)
  intro g2 w3 V a A
  refine qn (vs := [.bool false, .slice none 0 0, .slice none 0 0, .bool false, .slice none 0 0, .slice none 0 0]) (t := 26) A V rfl rfl rfl pg (ql (z := .agg #[.bool false, .slice none 0 0, .slice none 0 0, .bool false, .slice none 0 0, .slice none 0 0]) (by kernel_rfl) rfl) rfl ?_
  intro g4 w5 V a A
  refine sda A λa A↦?_
  refine qa (hK1 _ _ (wsk fun K6 hK6 => jc (S := fun w1 => St w w1 [(g4, [.bool false, .slice none 0 0, .slice none 0 0, .bool false, .slice none 0 0, .slice none 0 0]), (g2, [.bool b, .slice ro ((words y).length) rc])] [(ro, words y)] []) (by kernel_rfl) ?_))
  replace V := V.drew
  refine qh (v := .pointer (some ⟨g2, 1, none⟩)) A 0 rfl rfl rfl rfl hP V (fun w1 V => qf BiA_fld_62_1 rfl rfl) λa A↦?_
  refine qh A 1 rfl rfl rfl rfl hP V (fun w1 V => qs V BiA_is1_22 rfl 1 rfl rfl) λa A↦?_
  refine qh (v := .pointer (some ⟨g2, 0, none⟩)) A 2 rfl rfl rfl rfl hP V (fun w1 V => qf BiA_fld_62_0 rfl rfl) λa A↦?_
  refine qh A 3 rfl rfl rfl rfl hP V (fun w1 V => qs V BiA_is1_4 rfl 1 rfl rfl) λa A↦?_
  refine qt (by kernel_rfl) (zf A 4 rfl rfl rfl rfl (qb  rfl rfl (fun w => by kernel_rfl)) (uy b) ?_)
  rintro _ w11 ⟨ro7, rc8, rfl, ho9, hb10⟩
  replace V := V.call hb10
  replace V := V.addR ho9.rd
  refine ⟨_, rfl, (V.partD (.refl _) 1 rfl (.refl _)), ?_⟩
  intro a A
  refine qt (by kernel_rfl) (zf A 5 rfl rfl rfl rfl (qb  rfl rfl (fun w => by kernel_rfl)) (zwc (x := y) (y := b.toNat) rc rc8 (V.rd 1 rfl) (V.rd 0 rfl) hy (Nat.le_trans (qjj b) (by decide)) hf) ?_)
  rintro _ w16 ⟨ro12, rc13, rfl, ho14, hb15⟩
  replace V := V.call hb15
  replace V := V.addR ho14.rd
  refine ⟨_, rfl, (V.partD (.refl _) 2 rfl (.refl _)), ?_⟩
  intro a A
  refine qh A 6 rfl rfl rfl rfl hP (V.partD (.refl _) 2 rfl (.refl _)) (fun w1 V => qz rfl) λa A↦?_
  refine qh (v := .slice ro12 ((words (y + b.toNat)).length) rc13) A 7 rfl rfl rfl rfl hP (V.partD (.refl _) 2 rfl (.refl _)) (fun w1 V => qm (vs := [.slice ro12 ((words (y + b.toNat)).length) rc13, .int .i64 0]) rfl rfl) λa A↦?_
  refine qh (v := .int .i64 0) A 8 rfl rfl rfl rfl hP (V.partD (.refl _) 2 rfl (.refl _)) (fun w1 V => qm (vs := [.slice ro12 ((words (y + b.toNat)).length) rc13, .int .i64 0]) rfl rfl) λa A↦?_
  refine qh A 9 rfl rfl rfl rfl hP (V.partD (.refl _) 2 rfl (.refl _)) (fun w1 V => zh rfl) λa A↦?_
  refine qh A 10 rfl rfl rfl rfl hP (V.partD (.refl _) 2 rfl (.refl _)) (fun w1 V => zh rfl) λa A↦?_
  refine zn (by kernel_rfl) ?_
  refine hK6 _ _ (wsk fun K17 hK17 => wsk fun K18 hK18 => wrl (sdm A λa A↦?_))
  refine sdo (v := .bool false) A (qe rfl rfl (fun w => by kernel_rfl)) λa A↦?_
  refine qa (hK18 _ _ (wp_cond_false (A.ev rfl) ?_))
  refine wp_skip (hK17 _ _ (wsk fun K19 hK19 => wrl (sdo (v := .pointer (some ⟨g2, 0, none⟩)) A (qf BiA_fld_62_0 rfl rfl) λa A↦?_)))
  refine sdo A (qs V BiA_is1_4 rfl 1 rfl rfl) λa A↦?_
  refine sdm A λa A↦?_
  refine qg A rfl rfl rfl (qb  rfl rfl (fun w => by kernel_rfl)) (qfj b ⟨(V.rd 0 rfl), ho14.nocap, ho14.caps⟩) ?_
  rintro _ w23 ⟨p20_1, p20_c1, p20_2, p20_c2, p20_3, p20_c3, p20_4, p20_c4, rfl, hn21, hb22⟩
  replace V := V.call hb22
  replace V := V.addR hn21.s1.rd
  replace V := V.addR hn21.s2.rd
  replace V := V.addR hn21.s3.rd
  replace V := V.addR hn21.s4.rd
  refine ⟨_, rfl, ?_⟩
  intro a A
  refine qr (us := [.bool b, .slice p20_1 ((words (y + b.toNat)).length) p20_c1, .slice p20_2 1 p20_c2, .bool false, .slice p20_3 0 p20_c3, .slice p20_4 1 p20_c4]) A V rfl rfl (qi rfl rfl rfl (by kernel_rfl) V 0 rfl rfl rfl) 0 rfl rfl rfl rfl ?_
  intro w24 V
  refine sda A λa A↦?_
  refine qa (hK19 _ _ (wp_ret (hret _ _ (en2 A rfl (qx V BiA_isS_26 rfl 0 rfl (cs := [.bool b, .slice p20_1 ((words (y + b.toNat)).length) p20_c1, .slice p20_2 1 p20_c2, .bool false, .slice p20_3 0 p20_c3, .slice p20_4 1 p20_c4]) rfl rfl) (qj rfl) ?_))))
  rw [yf hf]
  exact ⟨p20_1, p20_c1, p20_2, p20_c2, p20_3, p20_c3, p20_4, p20_c4, rfl, ⟨⟨(V.rd 3 rfl), hn21.s1.nil, hn21.s1.cap⟩, ⟨(V.rd 2 rfl), hn21.s2.nil, hn21.s2.cap⟩, ⟨(V.rd 1 rfl), hn21.s3.nil, hn21.s3.cap⟩, ⟨(V.rd 0 rfl), hn21.s4.nil, hn21.s4.cap⟩⟩, V.bel⟩
 ·
  have V : St w w [] [(ro, words y)] [] := (St.start w).addR hr.rd
  refine qy (l := [(0, .agg #[.bool b, .slice ro ((words y).length) rc])]) Tryz.func33 rfl Tryz.ntmps33 rfl rfl ?_
  intro Q hret hnorm hP a A
  refine wsk fun K1 hK1 => wrl (qn A V rfl rfl rfl pg (qw rfl rfl) rfl ?_)
  intro g2 w3 V a A
  refine qn (vs := [.bool false, .slice none 0 0, .slice none 0 0, .bool false, .slice none 0 0, .slice none 0 0]) (t := 26) A V rfl rfl rfl pg (ql (z := .agg #[.bool false, .slice none 0 0, .slice none 0 0, .bool false, .slice none 0 0, .slice none 0 0]) (by kernel_rfl) rfl) rfl ?_
  intro g4 w5 V a A
  refine sda A λa A↦?_
  refine qa (hK1 _ _ (wsk fun K6 hK6 => jc (S := fun w1 => St w w1 [(g4, [.bool false, .slice none 0 0, .slice none 0 0, .bool false, .slice none 0 0, .slice none 0 0]), (g2, [.bool b, .slice ro ((words y).length) rc])] [(ro, words y)] []) (by kernel_rfl) ?_))
  replace V := V.drew
  refine qh (v := .pointer (some ⟨g2, 1, none⟩)) A 0 rfl rfl rfl rfl hP V (fun w1 V => qf BiA_fld_62_1 rfl rfl) λa A↦?_
  refine qh A 1 rfl rfl rfl rfl hP V (fun w1 V => qs V BiA_is1_22 rfl 1 rfl rfl) λa A↦?_
  refine qh (v := .pointer (some ⟨g2, 0, none⟩)) A 2 rfl rfl rfl rfl hP V (fun w1 V => qf BiA_fld_62_0 rfl rfl) λa A↦?_
  refine qh A 3 rfl rfl rfl rfl hP V (fun w1 V => qs V BiA_is1_4 rfl 1 rfl rfl) λa A↦?_
  refine qt (by kernel_rfl) (zf A 4 rfl rfl rfl rfl (qb  rfl rfl (fun w => by kernel_rfl)) (uy b) ?_)
  rintro _ w11 ⟨ro7, rc8, rfl, ho9, hb10⟩
  replace V := V.call hb10
  replace V := V.addR ho9.rd
  refine ⟨_, rfl, (V.partD (.refl _) 1 rfl (.refl _)), ?_⟩
  intro a A
  refine qt (by kernel_rfl) (zf A 5 rfl rfl rfl rfl (qb  rfl rfl (fun w => by kernel_rfl)) (zwd (x := y) (y := b.toNat) rc rc8 (V.rd 1 rfl) (V.rd 0 rfl) hy (Nat.le_trans (qjj b) (by decide)) hf) ?_)
  rintro _ w16 ⟨ro12, rc13, rfl, ho14, hb15⟩
  replace V := V.call hb15
  replace V := V.addR ho14.rd
  refine ⟨_, rfl, (V.partD (.refl _) 2 rfl (.refl _)), ?_⟩
  intro a A
  refine qh A 6 rfl rfl rfl rfl hP (V.partD (.refl _) 2 rfl (.refl _)) (fun w1 V => qz rfl) λa A↦?_
  refine qh (v := .slice ro12 0 rc13) A 7 rfl rfl rfl rfl hP (V.partD (.refl _) 2 rfl (.refl _)) (fun w1 V => qm (vs := [.slice ro12 0 rc13, .int .i64 4]) rfl rfl) λa A↦?_
  refine qh (v := .int .i64 4) A 8 rfl rfl rfl rfl hP (V.partD (.refl _) 2 rfl (.refl _)) (fun w1 V => qm (vs := [.slice ro12 0 rc13, .int .i64 4]) rfl rfl) λa A↦?_
  refine qh A 9 rfl rfl rfl rfl hP (V.partD (.refl _) 2 rfl (.refl _)) (fun w1 V => zh rfl) λa A↦?_
  refine qh A 10 rfl rfl rfl rfl hP (V.partD (.refl _) 2 rfl (.refl _)) (fun w1 V => zh rfl) λa A↦?_
  refine zn (by kernel_rfl) ?_
  refine hK6 _ _ (wsk fun K17 hK17 => wsk fun K18 hK18 => wrl (sdm A λa A↦?_))
  refine sdo (v := .bool true) A (qe rfl rfl (fun w => by kernel_rfl)) λa A↦?_
  refine qa (hK18 _ _ (wp_cond_true (A.ev rfl) ?_))
  refine wsk fun K19 hK19 => wrl (sdo (v := .agg #[.bool false, .slice none 0 0, .slice none 0 0, .bool false, .slice none 0 0, .slice none 0 0]) A (za rfl (fun w => by kernel_rfl)) λa A↦?_)
  refine sdm A λa A↦?_
  refine qr (us := [.bool false, .slice none 0 0, .slice none 0 0, .bool false, .slice none 0 0, .slice none 0 0]) A V rfl rfl (qi rfl rfl rfl (by kernel_rfl) V 0 rfl rfl rfl) 0 rfl rfl rfl rfl ?_
  intro w20 V
  refine sda A λa A↦?_
  refine qa (hK19 _ _ (wp_ret (hret _ _ (en2 A rfl (qx V BiA_isS_26 rfl 0 rfl (cs := [.bool false, .slice none 0 0, .slice none 0 0, .bool false, .slice none 0 0, .slice none 0 0]) rfl rfl) (qj rfl) ?_))))
  rw [qmf hf]
  exact ⟨none, 0, none, 0, none, 0, none, 0, rfl, ⟨(Sc.none _), (Sc.none _), (Sc.none _), (Sc.none _)⟩, V.bel⟩
theorem xx {w : World} {b : Bool} {ro : Option Addr} {n rc : Nat} : Calls Tryz.prog 120 #[.agg #[.bool b, .slice ro n rc]] w fun e w' => e = .returned (.int .u32 ((b.toNat * 4294967295 : Nat) : Int)) ∧ Below w.heap.size w w' := by
 cases b
 ·
  have V : St w w [] [] [] := St.start w
  refine qy (l := [(0, .agg #[.bool false, .slice ro n rc])]) Tryz.func120 rfl Tryz.ntmps120 rfl rfl ?_
  intro Q hret hnorm hP a A
  refine wsk fun K1 hK1 => wrl (qn A V rfl rfl rfl pg (qw rfl rfl) rfl ?_)
  intro g2 w3 V a A
  refine sda A λa A↦?_
  refine qa (hK1 _ _ (wsk fun K4 hK4 => wsk fun K5 hK5 => wrl (sdo (v := .pointer (some ⟨g2, 0, none⟩)) A (qf BiA_fld_62_0 rfl rfl) λa A↦?_)))
  refine sdo A (qs V BiA_is1_4 rfl 0 rfl rfl) λa A↦?_
  refine qa (hK5 _ _ (wp_cond_false (A.ev rfl) ?_))
  refine wp_skip (hK4 _ _ (wsk fun K6 hK6 => wrl (sda A λa A↦?_)))
  refine qa (hK6 _ _ (wp_ret (hret _ _ (en1 A rfl (qj rfl) ?_))))
  exact ⟨rfl, V.bel⟩
 ·
  have V : St w w [] [] [] := St.start w
  refine qy (l := [(0, .agg #[.bool true, .slice ro n rc])]) Tryz.func120 rfl Tryz.ntmps120 rfl rfl ?_
  intro Q hret hnorm hP a A
  refine wsk fun K1 hK1 => wrl (qn A V rfl rfl rfl pg (qw rfl rfl) rfl ?_)
  intro g2 w3 V a A
  refine sda A λa A↦?_
  refine qa (hK1 _ _ (wsk fun K4 hK4 => wsk fun K5 hK5 => wrl (sdo (v := .pointer (some ⟨g2, 0, none⟩)) A (qf BiA_fld_62_0 rfl rfl) λa A↦?_)))
  refine sdo A (qs V BiA_is1_4 rfl 0 rfl rfl) λa A↦?_
  refine qa (hK5 _ _ (wp_cond_true (A.ev rfl) ?_))
  refine wsk fun K6 hK6 => wrl (sda A λa A↦?_)
  refine qa (hK6 _ _ (wp_ret (hret _ _ (en1 A rfl (qj rfl) ?_))))
  exact ⟨rfl, V.bel⟩
theorem zca {w : World} {b : Bool} {ro : Option Addr} {n rc : Nat} : Calls Tryz.prog 118 #[.agg #[.bool b, .slice ro n rc]] w fun e w' => e = .returned (.agg #[.bool (!b), .slice ro n rc]) ∧ Below w.heap.size w w' := by
 have V : St w w [] [] [] := St.start w
 refine qy (l := [(0, .agg #[.bool b, .slice ro n rc])]) Tryz.func118 rfl Tryz.ntmps118 rfl rfl ?_
 intro Q hret hnorm hP a A
 refine wsk fun K1 hK1 => wrl (qn A V rfl rfl rfl pg (qw rfl rfl) rfl ?_)
 intro g2 w3 V a A
 refine qn (vs := [.bool false, .slice none 0 0]) (t := 62) A V rfl rfl rfl pg (ql (z := .agg #[.bool false, .slice none 0 0]) (by kernel_rfl) rfl) rfl ?_
 intro g4 w5 V a A
 refine qa (hK1 _ _ (wsk fun K6 hK6 => wrl (sdo (v := .pointer (some ⟨g2, 0, none⟩)) A (qf BiA_fld_62_0 rfl rfl) λa A↦?_)))
 refine sdo A (qs V BiA_is1_4 rfl 1 rfl rfl) λa A↦?_
 refine sdo (v := .bool (!b)) A (zk rfl zv) λa A↦?_
 refine sdo (v := .pointer (some ⟨g2, 1, none⟩)) A (qf BiA_fld_62_1 rfl rfl) λa A↦?_
 refine sdo A (qs V BiA_is1_22 rfl 1 rfl rfl) λa A↦?_
 refine sdo (v := .agg #[.bool (!b), .slice ro n rc]) A (za rfl (fun w => by kernel_rfl)) λa A↦?_
 refine qr (us := [.bool (!b), .slice ro n rc]) A V rfl rfl (qi rfl rfl rfl (by kernel_rfl) V 0 rfl rfl rfl) 0 rfl rfl rfl rfl ?_
 intro w7 V
 refine qa (hK6 _ _ (wp_ret (hret _ _ (en1 A rfl (qx V BiA_isS_62 rfl 0 rfl (cs := [.bool (!b), .slice ro n rc]) rfl rfl) ?_))))
 exact ⟨rfl, V.bel⟩
theorem kx {w : World} {q : Q6} {a1 a2 a3 a4 : Option Addr} {ac1 ac2 ac3 ac4 : Nat} (ha : Nm w q a1 ac1 a2 ac2 a3 ac3 a4 ac4) (hl : LenQ q) {r : Bool} (hr : jv q = r) : Calls Tryz.prog 67 #[jx q a1 ac1 a2 ac2 a3 ac3 a4 ac4] w fun e w' => e = .returned (.bool r) ∧ Below w.heap.size w w' := by
 have V : St w w [] [(a4, q.q2), (a3, q.t2), (a2, q.q1), (a1, q.t1)] [] := ((((St.start w).addR ha.s1.rd).addR ha.s2.rd).addR ha.s3.rd).addR ha.s4.rd
 refine qy (l := [(0, .agg #[.bool q.b1, .slice a1 q.t1.length ac1, .slice a2 q.q1.length ac2, .bool q.b2, .slice a3 q.t2.length ac3, .slice a4 q.q2.length ac4])]) Tryz.func67 rfl Tryz.ntmps67 rfl rfl ?_
 intro Q hret hnorm hP a A
 refine wsk fun K1 hK1 => wrl (qn A V rfl rfl rfl pg (qw rfl rfl) rfl ?_)
 intro g2 w3 V a A
 refine sda A λa A↦?_
 refine qa (hK1 _ _ (wsk fun K4 hK4 => wrl (sdo A (qk V BiA_isS_26 rfl 0 rfl (cs := [.bool q.b1, .slice a1 q.t1.length ac1, .slice a2 q.q1.length ac2, .bool q.b2, .slice a3 q.t2.length ac3, .slice a4 q.q2.length ac4]) rfl rfl) λa A↦?_)))
 rcases tf (je q) with hb5 | hb5
 ·
  refine qg A rfl rfl rfl (qb  rfl rfl (fun w => by kernel_rfl)) (jf (show Nm _ _ a1 ac1 a2 ac2 a3 ac3 a4 ac4 from ⟨⟨(V.rd 3 rfl), ha.s1.nil, ha.s1.cap⟩, ⟨(V.rd 2 rfl), ha.s2.nil, ha.s2.cap⟩, ⟨(V.rd 1 rfl), ha.s3.nil, ha.s3.cap⟩, ⟨(V.rd 0 rfl), ha.s4.nil, ha.s4.cap⟩⟩) hl hb5) ?_
  rintro _ w7 ⟨rfl, hb6⟩
  replace V := V.call hb6
  refine ⟨_, rfl, ?_⟩
  intro a A
  refine sdm A λa A↦?_
  refine sdo A (qk V BiA_isS_26 rfl 0 rfl (cs := [.bool q.b1, .slice a1 q.t1.length ac1, .slice a2 q.q1.length ac2, .bool q.b2, .slice a3 q.t2.length ac3, .slice a4 q.q2.length ac4]) rfl rfl) λa A↦?_
  rcases tf (decide (q.t2.length = 0)) with hb8 | hb8
  ·
   have hb8' := of_decide_eq_true hb8
   refine qg A rfl rfl rfl (qb  rfl rfl (fun w => by kernel_rfl)) (yy hl hb8) ?_
   rintro _ w10 ⟨rfl, hb9⟩
   replace V := V.call hb9
   refine ⟨_, rfl, ?_⟩
   intro a A
   refine sdk (v := .bool true) A λa A↦?_
   refine sdm A λa A↦?_
   refine sdo (v := .pointer (some ⟨g2, 0, none⟩)) A (qf BiA_fld_26_0 rfl rfl) λa A↦?_
   refine sdo (v := .pointer (some ⟨g2, 2, none⟩)) A (qf BiA_fld_24_2 rfl rfl) λa A↦?_
   refine sdo A (qs V BiA_is1_22 rfl 0 rfl rfl) λa A↦?_
   rcases tf (decide (q.q1 = [1])) with hb11 | hb11
   ·
    have hb11' := of_decide_eq_true hb11
    refine qg A rfl rfl rfl (qb  rfl rfl (fun w => by kernel_rfl)) (vm _ (V.rd 2 rfl) hl.l2 hb11) ?_
    rintro _ w13 ⟨rfl, hb12⟩
    replace hb12 := xp hb12
    replace V := V.call hb12
    refine ⟨_, rfl, ?_⟩
    intro a A
    refine sdk (v := .bool true) A λa A↦?_
    refine sda A λa A↦?_
    refine qa (hK4 _ _ (wp_ret (hret _ _ (en1 A rfl (qj rfl) ?_))))
    subst hr
    exact ⟨by unfold jv; rw [hb5, hb8, hb11]; try rfl, V.bel⟩
   ·
    have hb11' := of_decide_eq_false hb11
    refine qg A rfl rfl rfl (qb  rfl rfl (fun w => by kernel_rfl)) (vm _ (V.rd 2 rfl) hl.l2 hb11) ?_
    rintro _ w15 ⟨rfl, hb14⟩
    replace hb14 := xp hb14
    replace V := V.call hb14
    refine ⟨_, rfl, ?_⟩
    intro a A
    refine sdk (v := .bool false) A λa A↦?_
    refine sda A λa A↦?_
    refine qa (hK4 _ _ (wp_ret (hret _ _ (en1 A rfl (qj rfl) ?_))))
    subst hr
    exact ⟨by unfold jv; rw [hb5, hb8, hb11]; try rfl, V.bel⟩
  ·
   have hb8' := of_decide_eq_false hb8
   refine qg A rfl rfl rfl (qb  rfl rfl (fun w => by kernel_rfl)) (yy hl hb8) ?_
   rintro _ w17 ⟨rfl, hb16⟩
   replace V := V.call hb16
   refine ⟨_, rfl, ?_⟩
   intro a A
   refine sdk (v := .bool false) A λa A↦?_
   refine sdm A λa A↦?_
   iterate 4 refine ze A rfl rfl rfl λa A↦?_
   refine sdk (v := .bool false) A λa A↦?_
   refine sda A λa A↦?_
   refine qa (hK4 _ _ (wp_ret (hret _ _ (en1 A rfl (qj rfl) ?_))))
   subst hr
   exact ⟨by unfold jv; rw [hb5, hb8]; try rfl, V.bel⟩
 ·
  refine qg A rfl rfl rfl (qb  rfl rfl (fun w => by kernel_rfl)) (jf (show Nm _ _ a1 ac1 a2 ac2 a3 ac3 a4 ac4 from ⟨⟨(V.rd 3 rfl), ha.s1.nil, ha.s1.cap⟩, ⟨(V.rd 2 rfl), ha.s2.nil, ha.s2.cap⟩, ⟨(V.rd 1 rfl), ha.s3.nil, ha.s3.cap⟩, ⟨(V.rd 0 rfl), ha.s4.nil, ha.s4.cap⟩⟩) hl hb5) ?_
  rintro _ w19 ⟨rfl, hb18⟩
  replace V := V.call hb18
  refine ⟨_, rfl, ?_⟩
  intro a A
  refine sdm A λa A↦?_
  iterate 2 refine ze A rfl rfl rfl λa A↦?_
  refine sdk (v := .bool false) A λa A↦?_
  refine sdm A λa A↦?_
  iterate 4 refine ze A rfl rfl rfl λa A↦?_
  refine sdk (v := .bool false) A λa A↦?_
  refine sda A λa A↦?_
  refine qa (hK4 _ _ (wp_ret (hret _ _ (en1 A rfl (qj rfl) ?_))))
  subst hr
  exact ⟨by unfold jv; rw [hb5]; try rfl, V.bel⟩
theorem kf {w : World} {q : Q6} {a1 a2 a3 a4 : Option Addr} {ac1 ac2 ac3 ac4 : Nat} (ha : Nm w q a1 ac1 a2 ac2 a3 ac3 a4 ac4) (hl : LenQ q) {g : Nat} (hg : Blk w g [.bool q.b1, .slice a1 q.t1.length ac1, .slice a2 q.q1.length ac2, .bool q.b2, .slice a3 q.t2.length ac3, .slice a4 q.q2.length ac4]) {r : Int} (hr : ji q = r) : Calls Tryz.prog 22 #[.slice (some ⟨g, 0, none⟩) 1 1] w fun e w' => e = .returned (.int .i64 r) ∧ Below w.heap.size w w' := by
 have V : St w w [] [(a4, q.q2), (a3, q.t2), (a2, q.q1), (a1, q.t1)] [] := ((((St.start w).addR ha.s1.rd).addR ha.s2.rd).addR ha.s3.rd).addR ha.s4.rd
 refine qy (l := [(0, .slice (some ⟨g, 0, none⟩) 1 1)]) Tryz.func22 rfl Tryz.ntmps22 rfl rfl ?_
 intro Q hret hnorm hP a A
 refine wsk fun K1 hK1 => wrl (sda A λa A↦?_)
 refine qa (hK1 _ _ (wsk fun K2 hK2 => wsk fun K3 hK3 => wrl (sdm A λa A↦?_)))
 refine sdo A (zg Tryz.underlying116 rfl) λa A↦?_
 refine sdm A λa A↦?_
 refine qa (hK3 _ _ (wp_block (wp_loop_rounds 12 ?_)))
 refine xb fun K4 hK4 => ?_
 refine wsk fun K5 hK5 => wrl (sdo (v := .bool true) A (qe rfl rfl (fun w => by kernel_rfl)) λa A↦?_)
 refine qa (hK5 _ _ (wsk fun K6 hK6 => wp_cond_true (A.ev rfl) ?_))
 refine wp_skip (hK6 _ _ (wsk fun K7 hK7 => wp_block (wsk fun K8 hK8 => wrl (sdo (v := .pointer (some ⟨g, 0, none⟩)) A (xf rfl rfl (fun w => by kernel_rfl)) λa A↦?_))))
 refine sdo A (jk V hg BiA_isS_26 rfl (cs := [.bool q.b1, .slice a1 q.t1.length ac1, .slice a2 q.q1.length ac2, .bool q.b2, .slice a3 q.t2.length ac3, .slice a4 q.q2.length ac4]) rfl rfl) λa A↦?_
 refine qn (vs := [.bool false, .slice none 0 0, .slice none 0 0, .bool false, .slice none 0 0, .slice none 0 0]) (t := 26) A V rfl rfl rfl pg (ql (z := .agg #[.bool false, .slice none 0 0, .slice none 0 0, .bool false, .slice none 0 0, .slice none 0 0]) (by kernel_rfl) rfl) rfl ?_
 intro g9 w10 V a A
 refine qr (us := [.bool q.b1, .slice a1 q.t1.length ac1, .slice a2 q.q1.length ac2, .bool q.b2, .slice a3 q.t2.length ac3, .slice a4 q.q2.length ac4]) A V rfl rfl (qi rfl rfl rfl (by kernel_rfl) V 0 rfl rfl rfl) 0 rfl rfl rfl rfl ?_
 intro w11 V
 refine qa (hK8 _ _ (wsk fun K12 hK12 => wrl (sdo A (qk V BiA_isS_26 rfl 0 rfl (cs := [.bool q.b1, .slice a1 q.t1.length ac1, .slice a2 q.q1.length ac2, .bool q.b2, .slice a3 q.t2.length ac3, .slice a4 q.q2.length ac4]) rfl rfl) λa A↦?_)))
 rcases tf (je q) with hb13 | hb13
 ·
  refine qg A rfl rfl rfl (qb  rfl rfl (fun w => by kernel_rfl)) (jf (show Nm _ _ a1 ac1 a2 ac2 a3 ac3 a4 ac4 from ⟨⟨(V.rd 3 rfl), ha.s1.nil, ha.s1.cap⟩, ⟨(V.rd 2 rfl), ha.s2.nil, ha.s2.cap⟩, ⟨(V.rd 1 rfl), ha.s3.nil, ha.s3.cap⟩, ⟨(V.rd 0 rfl), ha.s4.nil, ha.s4.cap⟩⟩) hl hb13) ?_
  rintro _ w15 ⟨rfl, hb14⟩
  replace V := V.call hb14
  refine ⟨_, rfl, ?_⟩
  intro a A
  refine sdo (v := .bool false) A (zk rfl zv) λa A↦?_
  refine qa (hK12 _ _ (wp_cond_false (A.ev rfl) ?_))
  refine wp_skip (hK7 _ _ (wrl (sdo (v := .int .i64 1) A (qe rfl rfl (fun w => by kernel_rfl)) λa A↦?_)))
  refine sdm A λa A↦?_
  refine qa (hK4 _ _ (xb fun K16 hK16 => ?_))
  refine wsk fun K17 hK17 => wrl (sdo (v := .bool false) A (qe rfl rfl (fun w => by kernel_rfl)) λa A↦?_)
  refine qa (hK17 _ _ (wsk fun K18 hK18 => wp_cond_false (A.ev rfl) ?_))
  refine wp_exit (hK2 _ _ (wsk fun K19 hK19 => wsk fun K20 hK20 => wrl (sdm A λa A↦?_)))
  refine sdo A (zg Tryz.underlying116 rfl) λa A↦?_
  refine sdm A λa A↦?_
  refine qa (hK20 _ _ (wp_block (wp_loop_rounds 12 ?_)))
  refine xb fun K21 hK21 => ?_
  refine wsk fun K22 hK22 => wrl (sdo (v := .bool true) A (qe rfl rfl (fun w => by kernel_rfl)) λa A↦?_)
  refine qa (hK22 _ _ (wsk fun K23 hK23 => wp_cond_true (A.ev rfl) ?_))
  refine wp_skip (hK23 _ _ (wsk fun K24 hK24 => wp_block (wsk fun K25 hK25 => wrl (sdo (v := .pointer (some ⟨g, 0, none⟩)) A (xf rfl rfl (fun w => by kernel_rfl)) λa A↦?_))))
  refine sdo A (jk V hg BiA_isS_26 rfl (cs := [.bool q.b1, .slice a1 q.t1.length ac1, .slice a2 q.q1.length ac2, .bool q.b2, .slice a3 q.t2.length ac3, .slice a4 q.q2.length ac4]) rfl rfl) λa A↦?_
  refine qn (vs := [.bool false, .slice none 0 0, .slice none 0 0, .bool false, .slice none 0 0, .slice none 0 0]) (t := 26) A V rfl rfl rfl pg (ql (z := .agg #[.bool false, .slice none 0 0, .slice none 0 0, .bool false, .slice none 0 0, .slice none 0 0]) (by kernel_rfl) rfl) rfl ?_
  intro g26 w27 V a A
  refine qr (us := [.bool q.b1, .slice a1 q.t1.length ac1, .slice a2 q.q1.length ac2, .bool q.b2, .slice a3 q.t2.length ac3, .slice a4 q.q2.length ac4]) A V rfl rfl (qi rfl rfl rfl (by kernel_rfl) V 0 rfl rfl rfl) 0 rfl rfl rfl rfl ?_
  intro w28 V
  refine qa (hK25 _ _ (wsk fun K29 hK29 => wrl (sdo A (qk V BiA_isS_26 rfl 0 rfl (cs := [.bool q.b1, .slice a1 q.t1.length ac1, .slice a2 q.q1.length ac2, .bool q.b2, .slice a3 q.t2.length ac3, .slice a4 q.q2.length ac4]) rfl rfl) λa A↦?_)))
  rcases tf (jv q) with hb30 | hb30
  ·
   refine qg A rfl rfl rfl (qb  rfl rfl (fun w => by kernel_rfl)) (kx (show Nm _ _ a1 ac1 a2 ac2 a3 ac3 a4 ac4 from ⟨⟨(V.rd 3 rfl), ha.s1.nil, ha.s1.cap⟩, ⟨(V.rd 2 rfl), ha.s2.nil, ha.s2.cap⟩, ⟨(V.rd 1 rfl), ha.s3.nil, ha.s3.cap⟩, ⟨(V.rd 0 rfl), ha.s4.nil, ha.s4.cap⟩⟩) hl hb30) ?_
   rintro _ w32 ⟨rfl, hb31⟩
   replace V := V.call hb31
   refine ⟨_, rfl, ?_⟩
   intro a A
   refine sdo (v := .bool false) A (zk rfl zv) λa A↦?_
   refine qa (hK29 _ _ (wp_cond_false (A.ev rfl) ?_))
   refine wp_skip (hK24 _ _ (wrl (sdo (v := .int .i64 1) A (qe rfl rfl (fun w => by kernel_rfl)) λa A↦?_)))
   refine sdm A λa A↦?_
   refine qa (hK21 _ _ (xb fun K33 hK33 => ?_))
   refine wsk fun K34 hK34 => wrl (sdo (v := .bool false) A (qe rfl rfl (fun w => by kernel_rfl)) λa A↦?_)
   refine qa (hK34 _ _ (wsk fun K35 hK35 => wp_cond_false (A.ev rfl) ?_))
   refine wp_exit (hK19 _ _ (wsk fun K36 hK36 => wrl (sda A λa A↦?_)))
   refine qa (hK36 _ _ (wp_ret (hret _ _ (en1 A rfl (qj rfl) ?_))))
   subst hr
   exact ⟨by simp [ji, hb13, hb30], V.bel⟩
  ·
   refine qg A rfl rfl rfl (qb  rfl rfl (fun w => by kernel_rfl)) (kx (show Nm _ _ a1 ac1 a2 ac2 a3 ac3 a4 ac4 from ⟨⟨(V.rd 3 rfl), ha.s1.nil, ha.s1.cap⟩, ⟨(V.rd 2 rfl), ha.s2.nil, ha.s2.cap⟩, ⟨(V.rd 1 rfl), ha.s3.nil, ha.s3.cap⟩, ⟨(V.rd 0 rfl), ha.s4.nil, ha.s4.cap⟩⟩) hl hb30) ?_
   rintro _ w38 ⟨rfl, hb37⟩
   replace V := V.call hb37
   refine ⟨_, rfl, ?_⟩
   intro a A
   refine sdo (v := .bool true) A (zk rfl zv) λa A↦?_
   refine qa (hK29 _ _ (wp_cond_true (A.ev rfl) ?_))
   refine wsk fun K39 hK39 => wrl (sda A λa A↦?_)
   refine qa (hK39 _ _ (wp_ret (hret _ _ (en1 A rfl (qj rfl) ?_))))
   subst hr
   exact ⟨by simp [ji, hb13, hb30], V.bel⟩
 ·
  refine qg A rfl rfl rfl (qb  rfl rfl (fun w => by kernel_rfl)) (jf (show Nm _ _ a1 ac1 a2 ac2 a3 ac3 a4 ac4 from ⟨⟨(V.rd 3 rfl), ha.s1.nil, ha.s1.cap⟩, ⟨(V.rd 2 rfl), ha.s2.nil, ha.s2.cap⟩, ⟨(V.rd 1 rfl), ha.s3.nil, ha.s3.cap⟩, ⟨(V.rd 0 rfl), ha.s4.nil, ha.s4.cap⟩⟩) hl hb13) ?_
  rintro _ w41 ⟨rfl, hb40⟩
  replace V := V.call hb40
  refine ⟨_, rfl, ?_⟩
  intro a A
  refine sdo (v := .bool true) A (zk rfl zv) λa A↦?_
  refine qa (hK12 _ _ (wp_cond_true (A.ev rfl) ?_))
  refine wsk fun K42 hK42 => wrl (sda A λa A↦?_)
  refine qa (hK42 _ _ (wp_ret (hret _ _ (en1 A rfl (qj rfl) ?_))))
  subst hr
  exact ⟨by simp [ji, hb13], V.bel⟩
theorem qra {w : World} {p : Q6} {a1 a2 a3 a4 : Option Addr} {ac1 ac2 ac3 ac4 : Nat} (ha : Nm w p a1 ac1 a2 ac2 a3 ac3 a4 ac4) (hl : LenQ p) {q : Q6} {b1 b2 b3 b4 : Option Addr} {bc1 bc2 bc3 bc4 : Nat} (hb : Nm w q b1 bc1 b2 bc2 b3 bc3 b4 bc4) (hm : LenQ q) {g : Nat} (hg : Blk w g [.bool p.b1, .slice a1 p.t1.length ac1, .slice a2 p.q1.length ac2, .bool p.b2, .slice a3 p.t2.length ac3, .slice a4 p.q2.length ac4, .bool q.b1, .slice b1 q.t1.length bc1, .slice b2 q.q1.length bc2, .bool q.b2, .slice b3 q.t2.length bc3, .slice b4 q.q2.length bc4]) {r : Int} (hr : kq p q = r) : Calls Tryz.prog 22 #[.slice (some ⟨g, 0, none⟩) 2 2] w fun e w' => e = .returned (.int .i64 r) ∧ Below w.heap.size w w' := by
 have V : St w w [] [(b4, q.q2), (b3, q.t2), (b2, q.q1), (b1, q.t1), (a4, p.q2), (a3, p.t2), (a2, p.q1), (a1, p.t1)] [] := ((((((((St.start w).addR ha.s1.rd).addR ha.s2.rd).addR ha.s3.rd).addR ha.s4.rd).addR hb.s1.rd).addR hb.s2.rd).addR hb.s3.rd).addR hb.s4.rd
 refine qy (l := [(0, .slice (some ⟨g, 0, none⟩) 2 2)]) Tryz.func22 rfl Tryz.ntmps22 rfl rfl ?_
 intro Q hret hnorm hP a A
 refine wsk fun K1 hK1 => wrl (sda A λa A↦?_)
 refine qa (hK1 _ _ (wsk fun K2 hK2 => wsk fun K3 hK3 => wrl (sdm A λa A↦?_)))
 refine sdo A (zg Tryz.underlying116 rfl) λa A↦?_
 refine sdm A λa A↦?_
 refine qa (hK3 _ _ (wp_block (wp_loop_rounds 12 ?_)))
 refine xb fun K4 hK4 => ?_
 refine wsk fun K5 hK5 => wrl (sdo (v := .bool true) A (qe rfl rfl (fun w => by kernel_rfl)) λa A↦?_)
 refine qa (hK5 _ _ (wsk fun K6 hK6 => wp_cond_true (A.ev rfl) ?_))
 refine wp_skip (hK6 _ _ (wsk fun K7 hK7 => wp_block (wsk fun K8 hK8 => wrl (sdo (v := .pointer (some ⟨g, 0, none⟩)) A (xf rfl rfl (fun w => by kernel_rfl)) λa A↦?_))))
 refine sdo A (jk V hg BiA_isS_26 rfl (cs := [.bool p.b1, .slice a1 p.t1.length ac1, .slice a2 p.q1.length ac2, .bool p.b2, .slice a3 p.t2.length ac3, .slice a4 p.q2.length ac4]) rfl rfl) λa A↦?_
 refine qn (vs := [.bool false, .slice none 0 0, .slice none 0 0, .bool false, .slice none 0 0, .slice none 0 0]) (t := 26) A V rfl rfl rfl pg (ql (z := .agg #[.bool false, .slice none 0 0, .slice none 0 0, .bool false, .slice none 0 0, .slice none 0 0]) (by kernel_rfl) rfl) rfl ?_
 intro g9 w10 V a A
 refine qr (us := [.bool p.b1, .slice a1 p.t1.length ac1, .slice a2 p.q1.length ac2, .bool p.b2, .slice a3 p.t2.length ac3, .slice a4 p.q2.length ac4]) A V rfl rfl (qi rfl rfl rfl (by kernel_rfl) V 0 rfl rfl rfl) 0 rfl rfl rfl rfl ?_
 intro w11 V
 refine qa (hK8 _ _ (wsk fun K12 hK12 => wrl (sdo A (qk V BiA_isS_26 rfl 0 rfl (cs := [.bool p.b1, .slice a1 p.t1.length ac1, .slice a2 p.q1.length ac2, .bool p.b2, .slice a3 p.t2.length ac3, .slice a4 p.q2.length ac4]) rfl rfl) λa A↦?_)))
 rcases tf (je p) with hb13 | hb13
 ·
  refine qg A rfl rfl rfl (qb  rfl rfl (fun w => by kernel_rfl)) (jf (show Nm _ _ a1 ac1 a2 ac2 a3 ac3 a4 ac4 from ⟨⟨(V.rd 7 rfl), ha.s1.nil, ha.s1.cap⟩, ⟨(V.rd 6 rfl), ha.s2.nil, ha.s2.cap⟩, ⟨(V.rd 5 rfl), ha.s3.nil, ha.s3.cap⟩, ⟨(V.rd 4 rfl), ha.s4.nil, ha.s4.cap⟩⟩) hl hb13) ?_
  rintro _ w15 ⟨rfl, hb14⟩
  replace V := V.call hb14
  refine ⟨_, rfl, ?_⟩
  intro a A
  refine sdo (v := .bool false) A (zk rfl zv) λa A↦?_
  refine qa (hK12 _ _ (wp_cond_false (A.ev rfl) ?_))
  refine wp_skip (hK7 _ _ (wrl (sdo (v := .int .i64 1) A (qe rfl rfl (fun w => by kernel_rfl)) λa A↦?_)))
  refine sdm A λa A↦?_
  refine qa (hK4 _ _ (xb fun K16 hK16 => ?_))
  refine wsk fun K17 hK17 => wrl (sdo (v := .bool true) A (qe rfl rfl (fun w => by kernel_rfl)) λa A↦?_)
  refine qa (hK17 _ _ (wsk fun K18 hK18 => wp_cond_true (A.ev rfl) ?_))
  refine wp_skip (hK18 _ _ (wsk fun K19 hK19 => wp_block (wsk fun K20 hK20 => wrl (sdo (v := .pointer (some ⟨g, 6, none⟩)) A (xf rfl rfl (fun w => by kernel_rfl)) λa A↦?_))))
  refine sdo A (jk V hg BiA_isS_26 rfl (cs := [.bool q.b1, .slice b1 q.t1.length bc1, .slice b2 q.q1.length bc2, .bool q.b2, .slice b3 q.t2.length bc3, .slice b4 q.q2.length bc4]) rfl rfl) λa A↦?_
  refine qn (vs := [.bool false, .slice none 0 0, .slice none 0 0, .bool false, .slice none 0 0, .slice none 0 0]) (t := 26) A V rfl rfl rfl pg (ql (z := .agg #[.bool false, .slice none 0 0, .slice none 0 0, .bool false, .slice none 0 0, .slice none 0 0]) (by kernel_rfl) rfl) rfl ?_
  intro g21 w22 V a A
  refine qr (us := [.bool q.b1, .slice b1 q.t1.length bc1, .slice b2 q.q1.length bc2, .bool q.b2, .slice b3 q.t2.length bc3, .slice b4 q.q2.length bc4]) A V rfl rfl (qi rfl rfl rfl (by kernel_rfl) V 0 rfl rfl rfl) 0 rfl rfl rfl rfl ?_
  intro w23 V
  refine qa (hK20 _ _ (wsk fun K24 hK24 => wrl (sdo A (qk V BiA_isS_26 rfl 0 rfl (cs := [.bool q.b1, .slice b1 q.t1.length bc1, .slice b2 q.q1.length bc2, .bool q.b2, .slice b3 q.t2.length bc3, .slice b4 q.q2.length bc4]) rfl rfl) λa A↦?_)))
  rcases tf (je q) with hb25 | hb25
  ·
   refine qg A rfl rfl rfl (qb  rfl rfl (fun w => by kernel_rfl)) (jf (show Nm _ _ b1 bc1 b2 bc2 b3 bc3 b4 bc4 from ⟨⟨(V.rd 3 rfl), hb.s1.nil, hb.s1.cap⟩, ⟨(V.rd 2 rfl), hb.s2.nil, hb.s2.cap⟩, ⟨(V.rd 1 rfl), hb.s3.nil, hb.s3.cap⟩, ⟨(V.rd 0 rfl), hb.s4.nil, hb.s4.cap⟩⟩) hm hb25) ?_
   rintro _ w27 ⟨rfl, hb26⟩
   replace V := V.call hb26
   refine ⟨_, rfl, ?_⟩
   intro a A
   refine sdo (v := .bool false) A (zk rfl zv) λa A↦?_
   refine qa (hK24 _ _ (wp_cond_false (A.ev rfl) ?_))
   refine wp_skip (hK19 _ _ (wrl (sdo (v := .int .i64 2) A (qe rfl rfl (fun w => by kernel_rfl)) λa A↦?_)))
   refine sdm A λa A↦?_
   refine qa (hK16 _ _ (xb fun K28 hK28 => ?_))
   refine wsk fun K29 hK29 => wrl (sdo (v := .bool false) A (qe rfl rfl (fun w => by kernel_rfl)) λa A↦?_)
   refine qa (hK29 _ _ (wsk fun K30 hK30 => wp_cond_false (A.ev rfl) ?_))
   refine wp_exit (hK2 _ _ (wsk fun K31 hK31 => wsk fun K32 hK32 => wrl (sdm A λa A↦?_)))
   refine sdo A (zg Tryz.underlying116 rfl) λa A↦?_
   refine sdm A λa A↦?_
   refine qa (hK32 _ _ (wp_block (wp_loop_rounds 12 ?_)))
   refine xb fun K33 hK33 => ?_
   refine wsk fun K34 hK34 => wrl (sdo (v := .bool true) A (qe rfl rfl (fun w => by kernel_rfl)) λa A↦?_)
   refine qa (hK34 _ _ (wsk fun K35 hK35 => wp_cond_true (A.ev rfl) ?_))
   refine wp_skip (hK35 _ _ (wsk fun K36 hK36 => wp_block (wsk fun K37 hK37 => wrl (sdo (v := .pointer (some ⟨g, 0, none⟩)) A (xf rfl rfl (fun w => by kernel_rfl)) λa A↦?_))))
   refine sdo A (jk V hg BiA_isS_26 rfl (cs := [.bool p.b1, .slice a1 p.t1.length ac1, .slice a2 p.q1.length ac2, .bool p.b2, .slice a3 p.t2.length ac3, .slice a4 p.q2.length ac4]) rfl rfl) λa A↦?_
   refine qn (vs := [.bool false, .slice none 0 0, .slice none 0 0, .bool false, .slice none 0 0, .slice none 0 0]) (t := 26) A V rfl rfl rfl pg (ql (z := .agg #[.bool false, .slice none 0 0, .slice none 0 0, .bool false, .slice none 0 0, .slice none 0 0]) (by kernel_rfl) rfl) rfl ?_
   intro g38 w39 V a A
   refine qr (us := [.bool p.b1, .slice a1 p.t1.length ac1, .slice a2 p.q1.length ac2, .bool p.b2, .slice a3 p.t2.length ac3, .slice a4 p.q2.length ac4]) A V rfl rfl (qi rfl rfl rfl (by kernel_rfl) V 0 rfl rfl rfl) 0 rfl rfl rfl rfl ?_
   intro w40 V
   refine qa (hK37 _ _ (wsk fun K41 hK41 => wrl (sdo A (qk V BiA_isS_26 rfl 0 rfl (cs := [.bool p.b1, .slice a1 p.t1.length ac1, .slice a2 p.q1.length ac2, .bool p.b2, .slice a3 p.t2.length ac3, .slice a4 p.q2.length ac4]) rfl rfl) λa A↦?_)))
   rcases tf (jv p) with hb42 | hb42
   ·
    refine qg A rfl rfl rfl (qb  rfl rfl (fun w => by kernel_rfl)) (kx (show Nm _ _ a1 ac1 a2 ac2 a3 ac3 a4 ac4 from ⟨⟨(V.rd 7 rfl), ha.s1.nil, ha.s1.cap⟩, ⟨(V.rd 6 rfl), ha.s2.nil, ha.s2.cap⟩, ⟨(V.rd 5 rfl), ha.s3.nil, ha.s3.cap⟩, ⟨(V.rd 4 rfl), ha.s4.nil, ha.s4.cap⟩⟩) hl hb42) ?_
    rintro _ w44 ⟨rfl, hb43⟩
    replace V := V.call hb43
    refine ⟨_, rfl, ?_⟩
    intro a A
    refine sdo (v := .bool false) A (zk rfl zv) λa A↦?_
    refine qa (hK41 _ _ (wp_cond_false (A.ev rfl) ?_))
    refine wp_skip (hK36 _ _ (wrl (sdo (v := .int .i64 1) A (qe rfl rfl (fun w => by kernel_rfl)) λa A↦?_)))
    refine sdm A λa A↦?_
    refine qa (hK33 _ _ (xb fun K45 hK45 => ?_))
    refine wsk fun K46 hK46 => wrl (sdo (v := .bool true) A (qe rfl rfl (fun w => by kernel_rfl)) λa A↦?_)
    refine qa (hK46 _ _ (wsk fun K47 hK47 => wp_cond_true (A.ev rfl) ?_))
    refine wp_skip (hK47 _ _ (wsk fun K48 hK48 => wp_block (wsk fun K49 hK49 => wrl (sdo (v := .pointer (some ⟨g, 6, none⟩)) A (xf rfl rfl (fun w => by kernel_rfl)) λa A↦?_))))
    refine sdo A (jk V hg BiA_isS_26 rfl (cs := [.bool q.b1, .slice b1 q.t1.length bc1, .slice b2 q.q1.length bc2, .bool q.b2, .slice b3 q.t2.length bc3, .slice b4 q.q2.length bc4]) rfl rfl) λa A↦?_
    refine qn (vs := [.bool false, .slice none 0 0, .slice none 0 0, .bool false, .slice none 0 0, .slice none 0 0]) (t := 26) A V rfl rfl rfl pg (ql (z := .agg #[.bool false, .slice none 0 0, .slice none 0 0, .bool false, .slice none 0 0, .slice none 0 0]) (by kernel_rfl) rfl) rfl ?_
    intro g50 w51 V a A
    refine qr (us := [.bool q.b1, .slice b1 q.t1.length bc1, .slice b2 q.q1.length bc2, .bool q.b2, .slice b3 q.t2.length bc3, .slice b4 q.q2.length bc4]) A V rfl rfl (qi rfl rfl rfl (by kernel_rfl) V 0 rfl rfl rfl) 0 rfl rfl rfl rfl ?_
    intro w52 V
    refine qa (hK49 _ _ (wsk fun K53 hK53 => wrl (sdo A (qk V BiA_isS_26 rfl 0 rfl (cs := [.bool q.b1, .slice b1 q.t1.length bc1, .slice b2 q.q1.length bc2, .bool q.b2, .slice b3 q.t2.length bc3, .slice b4 q.q2.length bc4]) rfl rfl) λa A↦?_)))
    rcases tf (jv q) with hb54 | hb54
    ·
     refine qg A rfl rfl rfl (qb  rfl rfl (fun w => by kernel_rfl)) (kx (show Nm _ _ b1 bc1 b2 bc2 b3 bc3 b4 bc4 from ⟨⟨(V.rd 3 rfl), hb.s1.nil, hb.s1.cap⟩, ⟨(V.rd 2 rfl), hb.s2.nil, hb.s2.cap⟩, ⟨(V.rd 1 rfl), hb.s3.nil, hb.s3.cap⟩, ⟨(V.rd 0 rfl), hb.s4.nil, hb.s4.cap⟩⟩) hm hb54) ?_
     rintro _ w56 ⟨rfl, hb55⟩
     replace V := V.call hb55
     refine ⟨_, rfl, ?_⟩
     intro a A
     refine sdo (v := .bool false) A (zk rfl zv) λa A↦?_
     refine qa (hK53 _ _ (wp_cond_false (A.ev rfl) ?_))
     refine wp_skip (hK48 _ _ (wrl (sdo (v := .int .i64 2) A (qe rfl rfl (fun w => by kernel_rfl)) λa A↦?_)))
     refine sdm A λa A↦?_
     refine qa (hK45 _ _ (xb fun K57 hK57 => ?_))
     refine wsk fun K58 hK58 => wrl (sdo (v := .bool false) A (qe rfl rfl (fun w => by kernel_rfl)) λa A↦?_)
     refine qa (hK58 _ _ (wsk fun K59 hK59 => wp_cond_false (A.ev rfl) ?_))
     refine wp_exit (hK31 _ _ (wsk fun K60 hK60 => wrl (sda A λa A↦?_)))
     refine qa (hK60 _ _ (wp_ret (hret _ _ (en1 A rfl (qj rfl) ?_))))
     subst hr
     exact ⟨by simp [kq, hb13, hb25, hb42, hb54], V.bel⟩
    ·
     refine qg A rfl rfl rfl (qb  rfl rfl (fun w => by kernel_rfl)) (kx (show Nm _ _ b1 bc1 b2 bc2 b3 bc3 b4 bc4 from ⟨⟨(V.rd 3 rfl), hb.s1.nil, hb.s1.cap⟩, ⟨(V.rd 2 rfl), hb.s2.nil, hb.s2.cap⟩, ⟨(V.rd 1 rfl), hb.s3.nil, hb.s3.cap⟩, ⟨(V.rd 0 rfl), hb.s4.nil, hb.s4.cap⟩⟩) hm hb54) ?_
     rintro _ w62 ⟨rfl, hb61⟩
     replace V := V.call hb61
     refine ⟨_, rfl, ?_⟩
     intro a A
     refine sdo (v := .bool true) A (zk rfl zv) λa A↦?_
     refine qa (hK53 _ _ (wp_cond_true (A.ev rfl) ?_))
     refine wsk fun K63 hK63 => wrl (sda A λa A↦?_)
     refine qa (hK63 _ _ (wp_ret (hret _ _ (en1 A rfl (qj rfl) ?_))))
     subst hr
     exact ⟨by simp [kq, hb13, hb25, hb42, hb54], V.bel⟩
   ·
    refine qg A rfl rfl rfl (qb  rfl rfl (fun w => by kernel_rfl)) (kx (show Nm _ _ a1 ac1 a2 ac2 a3 ac3 a4 ac4 from ⟨⟨(V.rd 7 rfl), ha.s1.nil, ha.s1.cap⟩, ⟨(V.rd 6 rfl), ha.s2.nil, ha.s2.cap⟩, ⟨(V.rd 5 rfl), ha.s3.nil, ha.s3.cap⟩, ⟨(V.rd 4 rfl), ha.s4.nil, ha.s4.cap⟩⟩) hl hb42) ?_
    rintro _ w65 ⟨rfl, hb64⟩
    replace V := V.call hb64
    refine ⟨_, rfl, ?_⟩
    intro a A
    refine sdo (v := .bool true) A (zk rfl zv) λa A↦?_
    refine qa (hK41 _ _ (wp_cond_true (A.ev rfl) ?_))
    refine wsk fun K66 hK66 => wrl (sda A λa A↦?_)
    refine qa (hK66 _ _ (wp_ret (hret _ _ (en1 A rfl (qj rfl) ?_))))
    subst hr
    exact ⟨by simp [kq, hb13, hb25, hb42], V.bel⟩
  ·
   refine qg A rfl rfl rfl (qb  rfl rfl (fun w => by kernel_rfl)) (jf (show Nm _ _ b1 bc1 b2 bc2 b3 bc3 b4 bc4 from ⟨⟨(V.rd 3 rfl), hb.s1.nil, hb.s1.cap⟩, ⟨(V.rd 2 rfl), hb.s2.nil, hb.s2.cap⟩, ⟨(V.rd 1 rfl), hb.s3.nil, hb.s3.cap⟩, ⟨(V.rd 0 rfl), hb.s4.nil, hb.s4.cap⟩⟩) hm hb25) ?_
   rintro _ w68 ⟨rfl, hb67⟩
   replace V := V.call hb67
   refine ⟨_, rfl, ?_⟩
   intro a A
   refine sdo (v := .bool true) A (zk rfl zv) λa A↦?_
   refine qa (hK24 _ _ (wp_cond_true (A.ev rfl) ?_))
   refine wsk fun K69 hK69 => wrl (sda A λa A↦?_)
   refine qa (hK69 _ _ (wp_ret (hret _ _ (en1 A rfl (qj rfl) ?_))))
   subst hr
   exact ⟨by simp [kq, hb13, hb25], V.bel⟩
 ·
  refine qg A rfl rfl rfl (qb  rfl rfl (fun w => by kernel_rfl)) (jf (show Nm _ _ a1 ac1 a2 ac2 a3 ac3 a4 ac4 from ⟨⟨(V.rd 7 rfl), ha.s1.nil, ha.s1.cap⟩, ⟨(V.rd 6 rfl), ha.s2.nil, ha.s2.cap⟩, ⟨(V.rd 5 rfl), ha.s3.nil, ha.s3.cap⟩, ⟨(V.rd 4 rfl), ha.s4.nil, ha.s4.cap⟩⟩) hl hb13) ?_
  rintro _ w71 ⟨rfl, hb70⟩
  replace V := V.call hb70
  refine ⟨_, rfl, ?_⟩
  intro a A
  refine sdo (v := .bool true) A (zk rfl zv) λa A↦?_
  refine qa (hK12 _ _ (wp_cond_true (A.ev rfl) ?_))
  refine wsk fun K72 hK72 => wrl (sda A λa A↦?_)
  refine qa (hK72 _ _ (wp_ret (hret _ _ (en1 A rfl (qj rfl) ?_))))
  subst hr
  exact ⟨by simp [kq, hb13], V.bel⟩
theorem BiB_is1_77 : Is1 Tryz.prog 77 := ⟨⟨_, Tryz.underlying77, rfl⟩, by kernel_rfl⟩
theorem zke {w : World} {ao bo : Option Addr} {l1 l2 : List Nat} (ca cb : Nat) (ha : Rd w ao l1) (hb : Rd w bo l2) (h1 : l1.length ≤ 9223372036854775807) (h2 : l2.length ≤ 9223372036854775807) : Calls Tryz.prog 97 #[.slice ao l1.length ca, .slice bo l2.length cb] w fun e w' => e = .returned (.bool (decide (l1 = l2))) ∧ Below w.heap.size w w' := by
 have V : St w w [] [(bo, l2), (ao, l1)] [] := ((St.start w).addR ha).addR hb
 refine qy (l := [(0, .slice ao l1.length ca), (1, .slice bo l2.length cb)]) Tryz.func97 rfl Tryz.ntmps97 rfl rfl ?_
 intro Q hret hnorm hP a A
 refine wsk fun K1 hK1 => wrl (sda A λa A↦?_)
 refine qa (hK1 _ _ (wsk fun K2 hK2 => wsk fun K3 hK3 => wrl (sdm A λa A↦?_)))
 refine sdo A (zg Tryz.underlying22 rfl) λa A↦?_
 refine sdm A λa A↦?_
 refine sdo A (zg Tryz.underlying22 rfl) λa A↦?_
 rcases tf ((((l1.length : Nat) : Int) != ((l2.length : Nat) : Int))) with hb4 | hb4
 ·
  have hb4' := bne_iff_ne.1 hb4
  refine sdo (v := .bool true) A (qe rfl rfl (fun w => (jd w).trans (by rw [hb4]))) λa A↦?_
  refine qa (hK3 _ _ (wp_cond_true (A.ev rfl) ?_))
  refine wsk fun K5 hK5 => wrl (sda A λa A↦?_)
  refine qa (hK5 _ _ (wp_ret (hret _ _ (en1 A rfl (qj rfl) ?_))))
  exact ⟨by rw [decide_eq_false (fun e => by subst e; omega)], V.bel⟩
 ·
  have hb4' := bne_eq_false_iff_eq.1 hb4
  refine sdo (v := .bool false) A (qe rfl rfl (fun w => (jd w).trans (by rw [hb4]))) λa A↦?_
  refine qa (hK3 _ _ (wp_cond_false (A.ev rfl) ?_))
  refine wp_skip (hK2 _ _ (wsk fun K6 hK6 => wsk fun K7 hK7 => wrl (sdm A λa A↦?_)))
  refine sdo A (zg Tryz.underlying22 rfl) λa A↦?_
  refine sdm A λa A↦?_
  refine qa (hK7 _ _ (wp_block (js (fun m a w1 => ∃ (i : Nat), m = l1.length - i ∧ (i ≤ l1.length ∧ ∀ j, j < i → l1.getD j 0 = l2.getD j 0) ∧ Sl a 26 [(0, .slice ao l1.length ca), (1, .slice bo l2.length cb), (6, .slice ao l1.length ca), (7, .int .i64 (((l1.length : Nat) : Int))), (8, .slice bo l2.length cb), (9, .int .i64 (((l2.length : Nat) : Int))), (10, .bool false), (11, .slice ao l1.length ca), (12, .int .i64 (((l1.length : Nat) : Int))), (13, .int .i64 (((i : Nat) : Int)))] ∧ St w w1 [] [(bo, l2), (ao, l1)] []) _ ⟨0, rfl, ⟨by omega, fun j hj => by omega⟩, A.keep _ ⟨rfl, rfl, rfl, rfl, rfl, rfl, rfl, rfl, rfl, rfl, trivial⟩, V⟩ ?_)))
  clear V A
  rintro m a w8 ⟨i, rfl, hinv10, A, V⟩ K9 hK9
  have hle := hinv10.1
  refine wsk fun K11 hK11 => wrl ?_
  rcases tf (decide (((i : Nat) : Int) < ((l1.length : Nat) : Int))) with hb12 | hb12
  ·
   have hb12' := of_decide_eq_true hb12
   refine sdo (v := .bool true) A (qe rfl rfl (fun w => (zt w).trans (by rw [hb12]))) λa A↦?_
   refine qa (hK11 _ _ (wsk fun K13 hK13 => wp_cond_true (A.ev rfl) ?_))
   refine wp_skip (hK13 _ _ (wsk fun K14 hK14 => wp_block (wsk fun K15 hK15 => wrl (sdm A λa A↦?_))))
   refine sda A λa A↦?_
   refine qa (hK15 _ _ (wsk fun K16 hK16 => jc (S := fun w1 => St w w1 [] [(bo, l2), (ao, l1)] []) (by kernel_rfl) ?_))
   replace V := V.drew
   refine qh A 0 rfl rfl rfl rfl hP V (fun w1 V => qz rfl) λa A↦?_
   refine qh A 1 rfl rfl rfl rfl hP V (fun w1 V => qz rfl) λa A↦?_
   have hi20 : i < l1.length := by first | omega | (simp only [List.length_set]; omega)
   obtain ⟨b17, f18, hso19⟩ := Rd.addr (V.rd 1 rfl) hi20
   refine qh (v := .pointer (some ⟨b17, f18 + i, none⟩)) A 2 rfl rfl rfl rfl hP V (fun w1 V => zw (k := i) Tryz.underlying22 (by kernel_rfl) rfl rfl (by omega) hso19 hi20) λa A↦?_
   refine qh (v := .int .u32 (((l1.getD i 0 : Nat) : Int))) A 3 rfl rfl rfl rfl hP V (fun w1 V => yj (V.rd 1 rfl) hso19 hi20 BiB_is1_77 rfl) λa A↦?_
   refine qh A 4 rfl rfl rfl rfl hP V (fun w1 V => qz rfl) λa A↦?_
   refine qh A 5 rfl rfl rfl rfl hP V (fun w1 V => qz rfl) λa A↦?_
   have hi24 : i < l2.length := by first | omega | (simp only [List.length_set]; omega)
   obtain ⟨b21, f22, hso23⟩ := Rd.addr (V.rd 0 rfl) hi24
   refine qh (v := .pointer (some ⟨b21, f22 + i, none⟩)) A 6 rfl rfl rfl rfl hP V (fun w1 V => zw (k := i) Tryz.underlying22 (by kernel_rfl) rfl rfl (by omega) hso23 hi24) λa A↦?_
   refine qh (v := .int .u32 (((l2.getD i 0 : Nat) : Int))) A 7 rfl rfl rfl rfl hP V (fun w1 V => yj (V.rd 0 rfl) hso23 hi24 BiB_is1_77 rfl) λa A↦?_
   rcases tf ((((l1.getD i 0 : Nat) : Int) != ((l2.getD i 0 : Nat) : Int))) with hb25 | hb25
   ·
    have hb25' := bne_iff_ne.1 hb25
    refine qh (v := .bool true) A 8 rfl rfl rfl rfl hP V (fun w1 V => qe rfl rfl (fun w => (jd w).trans (by rw [hb25]))) λa A↦?_
    refine zn (by kernel_rfl) ?_
    refine hK16 _ _ (wp_cond_true (A.ev rfl) ?_)
    refine wsk fun K26 hK26 => wrl (sda A λa A↦?_)
    refine qa (hK26 _ _ (wp_ret (hret _ _ (en1 A rfl (qj rfl) ?_))))
    exact ⟨by rw [decide_eq_false (fun e => by subst e; omega)], V.bel⟩
   ·
    have hb25' := bne_eq_false_iff_eq.1 hb25
    refine qh (v := .bool false) A 8 rfl rfl rfl rfl hP V (fun w1 V => qe rfl rfl (fun w => (jd w).trans (by rw [hb25]))) λa A↦?_
    refine zn (by kernel_rfl) ?_
    refine hK16 _ _ (wp_cond_false (A.ev rfl) ?_)
    refine wp_skip (hK14 _ _ (wrl (sdo (v := .int .i64 (((i + 1 : Nat) : Int))) A (qe rfl rfl (fun w => (qea (uk (by omega) (by omega)) w).trans (by rw [show (((i : Nat) : Int) + 1 : Int) = ((i + 1 : Nat) : Int) from by omega]))) λa A↦?_)))
    refine sdm A λa A↦?_
    refine qa ?_
    refine hK9 _ _ _ (by omega) ⟨i + 1, rfl, ⟨by omega, fun j hj => by rcases Nat.lt_succ_iff_lt_or_eq.1 hj with h | h; exact hinv10.2 j h; subst h; omega⟩, A.keep _ ⟨rfl, rfl, rfl, rfl, rfl, rfl, rfl, rfl, rfl, rfl, trivial⟩, V⟩
  ·
   have hb12' := of_decide_eq_false hb12
   refine sdo (v := .bool false) A (qe rfl rfl (fun w => (zt w).trans (by rw [hb12]))) λa A↦?_
   refine qa (hK11 _ _ (wsk fun K27 hK27 => wp_cond_false (A.ev rfl) ?_))
   refine wp_exit (hK6 _ _ (wsk fun K28 hK28 => wrl (sda A λa A↦?_)))
   refine qa (hK28 _ _ (wp_ret (hret _ _ (en1 A rfl (qj rfl) ?_))))
   exact ⟨by rw [decide_eq_true (list_of_getD (by omega) (fun j hj => hinv10.2 j (by omega)))], V.bel⟩
section
variable {P : Program}
end
def qce (b : Bool) (t q : List Nat) (b' : Bool) (t' q' : List Nat) : Bool := (b == b') && (decide (t = t') && decide (q = q'))
def qkc (p q : Q6) : Bool := je p && (je q && (qce p.b1 p.t1 p.q1 q.b1 q.t1 q.q1 && qce p.b2 p.t2 p.q2 q.b2 q.t2 q.q2))
theorem zcb (b : Bool) (t q : List Nat) : qce b t q b t q = true := by simp [qce]
theorem qaa {q : Q6} (h : je q = true) : qkc q q = true := by simp [qkc, h, zcb]
theorem qab {w : World} {ao bo : Option Addr} {l1 l2 : List Nat} (ca cb : Nat) (ha : Rd w ao l1) (hb : Rd w bo l2) (h1 : l1.length ≤ 9223372036854775807) (h2 : l2.length ≤ 9223372036854775807) {r : Bool} (hr : decide (l1 = l2) = r) :
    Calls Tryz.prog 97 #[.slice ao l1.length ca, .slice bo l2.length cb] w fun e w' => e = .returned (.bool r) ∧ Below w.heap.size w w' := by
  subst hr
  exact zke ca cb ha hb h1 h2
theorem vb {b : Bool} {x : Nat} (hx : (words x).length ≤ 512) (hb : b.toNat ≤ x) : je (Q6.whole b x) = true := by
  unfold je qfi
  simp only [Q6.whole]
  have h1 : (words 1).length ≤ 512 := by rw [jt]; decide
  have h0 : (words 0).length ≤ 512 := by rw [words_zero]; decide
  have e1 : ye b (words x) [1] = true := by
    rw [← jt, qkb hx h1, Nat.gcd_one_right, jt]
    cases b with
    | false => simp
    | true =>
      have : x ≠ 0 := by simp at hb; omega
      have : (words x).length ≠ 0 := fun e => this (words_eq_nil.1 (List.length_eq_zero_iff.1 e))
      simp [words_eq_nil]
      assumption
  have e2 : ye false [] [1] = true := by
    rw [← jt, ← words_zero, qkb h0 h1, Nat.gcd_one_right, jt]
    simp
  rw [e1, e2]
  rfl
theorem qac {b : Bool} {x : Nat} (hx : (words x).length ≤ 512) (hb : b.toNat ≤ x) : jv (Q6.whole b x) = true := by
  unfold jv
  rw [vb hx hb]
  simp [Q6.whole]
theorem xq {b : Bool} {x : Nat} (hx : (words x).length ≤ 512) : LenQ (Q6.whole b x) := ⟨by simp only [Q6.whole]; omega, by simp [Q6.whole], by simp [Q6.whole], by simp [Q6.whole]⟩
theorem zgd : (words 1).length ≤ 512 := by rw [jt]; decide



/-- The size of -a - 1. -/
def qwg (b : Bool) (x : Nat) : Nat := cond b (x - 1) (x + 1)
theorem zcc {w : World} {ao : Option Addr} {x : Nat} (ca k : Nat) (ha : Rd w ao (words x)) (hx : (words x).length ≤ 512) (hk : k ≤ 16384) :
    Calls Tryz.prog 34 #[.slice ao (words x).length ca, .int .i64 (-(k : Int))] w fun e w' => ∃ ro rc, e = .returned (.tuple #[.slice ro (words (x / 2 ^ k)).length rc, .int .i64 0]) ∧ Own w.heap.size w' ro rc (words (x / 2 ^ k)) ∧ Below w.heap.size w w' := by
  have h := qqh ca (-(k : Int)) ha (by omega) (by omega) (by omega)
  have e : qif (words x) (-(k : Int)) = (words (x / 2 ^ k), 0) := by
    unfold qif
    rw [if_pos (zy hx), if_neg (by omega), val_words]
    by_cases h0 : k = 0
    · subst h0
      simp only [Int.ofNat_eq_natCast, Int.natCast_zero, Int.neg_zero, Int.lt_irrefl, if_false, Int.toNat_zero, Nat.pow_zero, Nat.mul_one, Nat.div_one]
      unfold fitS
      rw [if_pos hx]
    · rw [if_pos (by omega)]
      have : (-(-(k : Int))).toNat = k := by omega
      rw [this]
  rw [e] at h
  exact h
theorem qwh {w : World} {ao : Option Addr} {x : Nat} (ca k : Nat) (ha : Rd w ao (words x)) (hx : (words x).length ≤ 512) (hk : k ≤ 16384) :
    Calls Tryz.prog 34 #[.slice ao (words x).length ca, .int .i64 ((k : Nat) : Int)] w (Ans w (fitS (x * 2 ^ k))) := by
  have h := qqh ca (k : Int) ha (by omega) (by omega) (by omega)
  have e : qif (words x) (k : Int) = fitS (x * 2 ^ k) := by
    unfold qif
    rw [if_pos (zy hx), if_neg (by omega), val_words, if_neg (by omega), Int.toNat_natCast]
  rw [e] at h
  exact h
theorem zkf {w : World} {ao : Option Addr} {x : Nat} (ca k : Nat) (ha : Rd w ao (words x)) (hx : (words x).length ≤ 512) (hk : k ≤ 16384) (h : (words (x * 2 ^ k)).length ≤ 512) :
    Calls Tryz.prog 34 #[.slice ao (words x).length ca, .int .i64 ((k : Nat) : Int)] w fun e w' => ∃ ro rc, e = .returned (.tuple #[.slice ro (words (x * 2 ^ k)).length rc, .int .i64 0]) ∧ Own w.heap.size w' ro rc (words (x * 2 ^ k)) ∧ Below w.heap.size w w' := by
  have := qwh ca k ha hx hk
  unfold fitS at this
  rw [if_pos h] at this
  exact this
theorem zkg {w : World} {ao : Option Addr} {x : Nat} (ca k : Nat) (ha : Rd w ao (words x)) (hx : (words x).length ≤ 512) (hk : k ≤ 16384) (h : ¬ (words (x * 2 ^ k)).length ≤ 512) :
    Calls Tryz.prog 34 #[.slice ao (words x).length ca, .int .i64 ((k : Nat) : Int)] w fun e w' => ∃ ro rc, e = .returned (.tuple #[.slice ro 0 rc, .int .i64 4]) ∧ Own w.heap.size w' ro rc [] ∧ Below w.heap.size w w' := by
  have := qwh ca k ha hx hk
  unfold fitS at this
  rw [if_neg h] at this
  exact this
theorem qwi {w : World} {ao : Option Addr} {x : Nat} (ca : Nat) {n : Int} (ha : Rd w ao (words x)) (hx : (words x).length ≤ 512) (h0 : 0 ≤ n) (h1 : n ≤ 16384) :
    Calls Tryz.prog 34 #[.slice ao (words x).length ca, .int .i64 (-n)] w fun e w' => ∃ ro rc, e = .returned (.tuple #[.slice ro (words (x / 2 ^ n.toNat)).length rc, .int .i64 0]) ∧ Own w.heap.size w' ro rc (words (x / 2 ^ n.toNat)) ∧ Below w.heap.size w w' := by
  obtain ⟨k, rfl⟩ := Int.eq_ofNat_of_zero_le h0
  rw [Int.toNat_natCast]
  exact zcc ca k ha hx (by omega)
theorem zcd {w : World} {ao : Option Addr} {x : Nat} (ca : Nat) {n : Int} (ha : Rd w ao (words x)) (hx : (words x).length ≤ 512) (h0 : 0 ≤ n) (h1 : n ≤ 16384) (h : (words (x * 2 ^ n.toNat)).length ≤ 512) :
    Calls Tryz.prog 34 #[.slice ao (words x).length ca, .int .i64 n] w fun e w' => ∃ ro rc, e = .returned (.tuple #[.slice ro (words (x * 2 ^ n.toNat)).length rc, .int .i64 0]) ∧ Own w.heap.size w' ro rc (words (x * 2 ^ n.toNat)) ∧ Below w.heap.size w w' := by
  obtain ⟨k, rfl⟩ := Int.eq_ofNat_of_zero_le h0
  rw [Int.toNat_natCast] at h ⊢
  exact zkf ca k ha hx (by omega) h
theorem zce {w : World} {ao : Option Addr} {x : Nat} (ca : Nat) {n : Int} (ha : Rd w ao (words x)) (hx : (words x).length ≤ 512) (h0 : 0 ≤ n) (h1 : n ≤ 16384) (h : ¬ (words (x * 2 ^ n.toNat)).length ≤ 512) :
    Calls Tryz.prog 34 #[.slice ao (words x).length ca, .int .i64 n] w fun e w' => ∃ ro rc, e = .returned (.tuple #[.slice ro 0 rc, .int .i64 4]) ∧ Own w.heap.size w' ro rc [] ∧ Below w.heap.size w w' := by
  obtain ⟨k, rfl⟩ := Int.eq_ofNat_of_zero_le h0
  rw [Int.toNat_natCast] at h
  exact zkg ca k ha hx (by omega) h
/-- A number's bits, shifted. -/
def vd (q : Q6) (n : Int) : Q6 × Int :=
  if ji q = 0 then
    (if n < -16384 ∨ 16384 < n then (Q6.zero, 1)
     else if n < 0 then ja q.b1 ((val q.t1 - q.b1.toNat) / 2 ^ (-n).toNat + q.b1.toNat)
     else ja q.b1 (val q.t1 * 2 ^ n.toNat))
  else (Q6.zero, ji q)
theorem zcf {q : Q6} {n : Int} (h : (ji q != 0) = true) : vd q n = (Q6.zero, ji q) := by
  unfold vd
  rw [if_neg (bne_iff_ne.1 h)]
theorem qmh {b : Bool} {x : Nat} {n : Int} (h : ji (Q6.whole b x) = 0) (hn : n < -16384 ∨ 16384 < n) : vd (Q6.whole b x) n = (Q6.zero, 1) := by
  unfold vd
  rw [if_pos h, if_pos hn]
theorem qwj {b : Bool} {x : Nat} {n : Int} (h : ji (Q6.whole b x) = 0) (h0 : -16384 ≤ n) (h1 : n < 0) : vd (Q6.whole b x) n = ja b ((x - b.toNat) / 2 ^ (-n).toNat + b.toNat) := by
  unfold vd
  rw [if_pos h, if_neg (by omega), if_pos h1]
  simp only [Q6.whole, val_words]
theorem qrb {b : Bool} {x : Nat} {n : Int} (h : ji (Q6.whole b x) = 0) (h0 : 0 ≤ n) (h1 : n ≤ 16384) : vd (Q6.whole b x) n = ja b (x * 2 ^ n.toNat) := by
  unfold vd
  rw [if_pos h, if_neg (by omega), if_neg (by omega)]
  simp only [Q6.whole, val_words]
theorem yz (q : Q6) : (ji q = 0 ∧ jv q = true) ∨ ((ji q != 0) = true ∧ jv q = false) := by
  unfold ji
  cases h1 : je q with
  | false =>
    refine .inr ⟨by simp, ?_⟩
    unfold jv
    rw [h1]
    rfl
  | true =>
    cases h2 : jv q with
    | false => exact .inr ⟨by simp, rfl⟩
    | true => exact .inl ⟨by simp, rfl⟩
theorem BiE_is1_22 : Is1 Tryz.prog 22 := ⟨⟨_, Tryz.underlying22, rfl⟩, by kernel_rfl⟩
theorem BiE_is1_4 : Is1 Tryz.prog 4 := ⟨⟨_, Tryz.underlying4, rfl⟩, by kernel_rfl⟩
theorem BiE_fld_24_0 : FieldAt Tryz.prog 24 0 0 := ⟨_, _, Tryz.underlying24, rfl, rfl, by kernel_rfl⟩
theorem BiE_fld_24_1 : FieldAt Tryz.prog 24 1 1 := ⟨_, _, Tryz.underlying24, rfl, rfl, by kernel_rfl⟩
theorem BiE_fld_26_0 : FieldAt Tryz.prog 26 0 0 := ⟨_, _, Tryz.underlying26, rfl, rfl, by kernel_rfl⟩
theorem BiE_fld_62_0 : FieldAt Tryz.prog 62 0 0 := ⟨_, _, Tryz.underlying62, rfl, rfl, by kernel_rfl⟩
theorem BiE_fld_62_1 : FieldAt Tryz.prog 62 1 1 := ⟨_, _, Tryz.underlying62, rfl, rfl, by kernel_rfl⟩
theorem BiE_isS_26 : IsS Tryz.prog 26 6 := ⟨⟨_, Tryz.underlying26⟩, by kernel_rfl⟩
theorem BiE_isS_62 : IsS Tryz.prog 62 2 := ⟨⟨_, Tryz.underlying62⟩, by kernel_rfl⟩
theorem qxa {w : World} {b : Bool} {ro : Option Addr} {rc y : Nat} {n : Int} (hr : Sc w ro rc (words y)) (hy : (words y).length ≤ 512) (h0 : 0 ≤ n) (h1 : n ≤ 16384) :
  Calls Tryz.prog 31 #[.agg #[.bool b, .slice ro (words y).length rc], .int .i64 n] w fun e w' => ∃ o c, e = .returned (.agg #[.bool b, .slice o (words (y / 2 ^ n.toNat)).length c]) ∧ Sc w' o c (words (y / 2 ^ n.toNat)) ∧ Below w.heap.size w w' := by
 have S : St w w [] [(ro, words y)] [] := (St.start w).addR hr.rd
 refine qy (l := [(0, .agg #[.bool b, .slice ro ((words y).length) rc]), (1, .int .i64 n)]) Tryz.func31 rfl Tryz.ntmps31 rfl rfl ?_
 intro Q hret hnorm hP a A
 refine wsk fun K1 hK1 => wrl (qn A S rfl rfl rfl pg (qw rfl rfl) rfl ?_)
 intro g2 w3 S a A
 refine qn (vs := [.bool false, .slice none 0 0]) (t := 62) A S rfl rfl rfl pg (ql (z := .agg #[.bool false, .slice none 0 0]) (by kernel_rfl) rfl) rfl ?_
 intro g4 w5 S a A
 refine qa (hK1 _ _ (wsk fun K6 hK6 => wrl (sdo (v := .pointer (some ⟨g2, 1, none⟩)) A (qf BiE_fld_62_1 rfl rfl) λa A↦?_)))
 refine sdo A (qs S BiE_is1_22 rfl 1 rfl rfl) λa A↦?_
 refine sdm A λa A↦?_
 refine sdo (v := .int .i64 (-n)) A (zk rfl (znh (uk (by omega) (by omega)))) λa A↦?_
 refine qg A rfl rfl rfl (qb  rfl rfl (fun w => by kernel_rfl)) (qwi (n := n) _ (S.rd 0 rfl) hy (by omega) (by omega)) ?_
 rintro _ w11 ⟨ro7, rc8, rfl, ho9, hb10⟩
 replace S := S.call hb10
 replace S := S.addR ho9.rd
 refine ⟨_, rfl, ?_⟩
 intro a A
 refine sdm A λa A↦?_
 iterate 2 refine sdo A (qm (vs := [.slice ro7 ((words (y / 2 ^ n.toNat)).length) rc8, .int .i64 0]) rfl rfl) λa A↦?_
 iterate 2 refine sda A λa A↦?_
 refine qa (hK6 _ _ (wsk fun K12 hK12 => wrl (sdo (v := .pointer (some ⟨g2, 0, none⟩)) A (qf BiE_fld_62_0 rfl rfl) λa A↦?_)))
 refine sdo A (qs S BiE_is1_4 rfl 1 rfl rfl) λa A↦?_
 refine sdm A λa A↦?_
 refine sdo (v := .agg #[.bool b, .slice ro7 ((words (y / 2 ^ n.toNat)).length) rc8]) A (za rfl (fun w => by kernel_rfl)) λa A↦?_
 refine qr (us := [.bool b, .slice ro7 ((words (y / 2 ^ n.toNat)).length) rc8]) A S rfl rfl (qi rfl rfl rfl (by kernel_rfl) S 0 rfl rfl rfl) 0 rfl rfl rfl rfl ?_
 intro w13 S
 refine qa (hK12 _ _ (wp_ret (hret _ _ (en1 A rfl (qx S BiE_isS_62 rfl 0 rfl (cs := [.bool b, .slice ro7 ((words (y / 2 ^ n.toNat)).length) rc8]) rfl rfl) ?_))))
 exact ⟨_, _, rfl, ⟨(S.rd 0 rfl), ho9.nocap, ho9.caps⟩, S.bel⟩
theorem zcg {w : World} {q : Q6} {a1 a2 a3 a4 : Option Addr} {ac1 ac2 ac3 ac4 : Nat} (ha : Nm w q a1 ac1 a2 ac2 a3 ac3 a4 ac4) (hl : LenQ q) {n : Int} (hw : (ji q != 0) = true) : Calls Tryz.prog 10 #[jx q a1 ac1 a2 ac2 a3 ac3 a4 ac4, .int .i64 n] w (AnsN w (vd q n)) := by
 have S : St w w [] [(a4, q.q2), (a3, q.t2), (a2, q.q1), (a1, q.t1)] [] := ((((St.start w).addR ha.s1.rd).addR ha.s2.rd).addR ha.s3.rd).addR ha.s4.rd
 refine qy (l := [(0, .agg #[.bool q.b1, .slice a1 q.t1.length ac1, .slice a2 q.q1.length ac2, .bool q.b2, .slice a3 q.t2.length ac3, .slice a4 q.q2.length ac4]), (1, .int .i64 n)]) Tryz.func10 rfl Tryz.ntmps10 rfl rfl ?_
 intro Q hret hnorm hP a A
 refine wsk fun K1 hK1 => wrl (qn A S rfl rfl rfl pg (qw rfl rfl) rfl ?_)
 intro g2 w3 S a A
 refine qn (vs := [.bool false, .slice none 0 0, .slice none 0 0, .bool false, .slice none 0 0, .slice none 0 0]) (t := 26) A S rfl rfl rfl pg (ql (z := .agg #[.bool false, .slice none 0 0, .slice none 0 0, .bool false, .slice none 0 0, .slice none 0 0]) (by kernel_rfl) rfl) rfl ?_
 intro g4 w5 S a A
 refine sda A λa A↦?_
 refine qa (hK1 _ _ (wsk fun K6 hK6 => wsk fun K7 hK7 => wrl (sdo A (qk S BiE_isS_26 rfl 1 rfl (cs := [.bool q.b1, .slice a1 q.t1.length ac1, .slice a2 q.q1.length ac2, .bool q.b2, .slice a3 q.t2.length ac3, .slice a4 q.q2.length ac4]) rfl rfl) λa A↦?_)))
 refine qn (vs := [.bool q.b1, .slice a1 q.t1.length ac1, .slice a2 q.q1.length ac2, .bool q.b2, .slice a3 q.t2.length ac3, .slice a4 q.q2.length ac4]) (t := 26) A S rfl rfl rfl (fun g => .slice (some ⟨g, 0, none⟩) 1 1) (zx rfl (by kernel_rfl)) rfl ?_
 intro g8 w9 S a A
 refine qg A rfl rfl rfl (qb  rfl rfl (fun w => by kernel_rfl)) (kf (show Nm _ q a1 ac1 a2 ac2 a3 ac3 a4 ac4 from ⟨⟨(S.rd 3 rfl), ha.s1.nil, ha.s1.cap⟩, ⟨(S.rd 2 rfl), ha.s2.nil, ha.s2.cap⟩, ⟨(S.rd 1 rfl), ha.s3.nil, ha.s3.cap⟩, ⟨(S.rd 0 rfl), ha.s4.nil, ha.s4.cap⟩⟩) hl (S.blk 0 rfl) rfl) ?_
 rintro _ w11 ⟨rfl, hb10⟩
 replace S := S.call hb10
 refine ⟨_, rfl, ?_⟩
 intro a A
 refine sda A λa A↦?_
 refine qa (hK7 _ _ (wsk fun K12 hK12 => wrl (sdm A λa A↦?_)))
 refine sdo (v := .bool true) A (qe rfl rfl (fun w => (jd w).trans (by rw [show ((ji q != 0)) = true from hw]))) λa A↦?_
 refine qa (hK12 _ _ (wp_cond_true (A.ev rfl) ?_))
 refine wsk fun K13 hK13 => wrl (sdo (v := .agg #[.bool false, .slice none 0 0, .slice none 0 0, .bool false, .slice none 0 0, .slice none 0 0]) A (za rfl (fun w => by kernel_rfl)) λa A↦?_)
 refine sdm A λa A↦?_
 refine qr (us := [.bool false, .slice none 0 0, .slice none 0 0, .bool false, .slice none 0 0, .slice none 0 0]) A S rfl rfl (qi rfl rfl rfl (by kernel_rfl) S 1 rfl rfl rfl) 1 rfl rfl rfl rfl ?_
 intro w14 S
 refine sda A λa A↦?_
 refine qa (hK13 _ _ (wp_ret (hret _ _ (en2 A rfl (qx S BiE_isS_26 rfl 1 rfl (cs := [.bool false, .slice none 0 0, .slice none 0 0, .bool false, .slice none 0 0, .slice none 0 0]) rfl rfl) (qj rfl) ?_))))
 rw [zcf hw]
 exact ⟨none, 0, none, 0, none, 0, none, 0, rfl, ⟨(Sc.none _), (Sc.none _), (Sc.none _), (Sc.none _)⟩, S.bel⟩
theorem zch {w : World} {b : Bool} {x : Nat} {a1 a2 a3 a4 : Option Addr} {ac1 ac2 ac3 ac4 : Nat} (ha : Nm w (Q6.whole b x) a1 ac1 a2 ac2 a3 ac3 a4 ac4) (hl : LenQ (Q6.whole b x)) {n : Int} (hw : ji (Q6.whole b x) = 0) (hx : (words x).length ≤ 512) (hb : b.toNat ≤ x) : Calls Tryz.prog 10 #[jx (Q6.whole b x) a1 ac1 a2 ac2 a3 ac3 a4 ac4, .int .i64 n] w (AnsN w (vd (Q6.whole b x) n)) := by
 have S : St w w [] [(a4, [1]), (a3, []), (a2, [1]), (a1, words x)] [] := ((((St.start w).addR ha.s1.rd).addR ha.s2.rd).addR ha.s3.rd).addR ha.s4.rd
 refine qy (l := [(0, .agg #[.bool b, .slice a1 ((words x).length) ac1, .slice a2 1 ac2, .bool false, .slice a3 0 ac3, .slice a4 1 ac4]), (1, .int .i64 n)]) Tryz.func10 rfl Tryz.ntmps10 rfl rfl ?_
 intro Q hret hnorm hP a A
 refine wsk fun K1 hK1 => wrl (qn A S rfl rfl rfl pg (qw rfl rfl) rfl ?_)
 intro g2 w3 S a A
 refine qn (vs := [.bool false, .slice none 0 0, .slice none 0 0, .bool false, .slice none 0 0, .slice none 0 0]) (t := 26) A S rfl rfl rfl pg (ql (z := .agg #[.bool false, .slice none 0 0, .slice none 0 0, .bool false, .slice none 0 0, .slice none 0 0]) (by kernel_rfl) rfl) rfl ?_
 intro g4 w5 S a A
 refine sda A λa A↦?_
 refine qa (hK1 _ _ (wsk fun K6 hK6 => wsk fun K7 hK7 => wrl (sdo A (qk S BiE_isS_26 rfl 1 rfl (cs := [.bool b, .slice a1 ((words x).length) ac1, .slice a2 1 ac2, .bool false, .slice a3 0 ac3, .slice a4 1 ac4]) rfl rfl) λa A↦?_)))
 refine qn (vs := [.bool b, .slice a1 ((words x).length) ac1, .slice a2 1 ac2, .bool false, .slice a3 0 ac3, .slice a4 1 ac4]) (t := 26) A S rfl rfl rfl (fun g => .slice (some ⟨g, 0, none⟩) 1 1) (zx rfl (by kernel_rfl)) rfl ?_
 intro g8 w9 S a A
 refine qg A rfl rfl rfl (qb  rfl rfl (fun w => by kernel_rfl)) (kf (show Nm _ (Q6.whole b x) a1 ac1 a2 ac2 a3 ac3 a4 ac4 from ⟨⟨(S.rd 3 rfl), ha.s1.nil, ha.s1.cap⟩, ⟨(S.rd 2 rfl), ha.s2.nil, ha.s2.cap⟩, ⟨(S.rd 1 rfl), ha.s3.nil, ha.s3.cap⟩, ⟨(S.rd 0 rfl), ha.s4.nil, ha.s4.cap⟩⟩) hl (S.blk 0 rfl) hw) ?_
 rintro _ w11 ⟨rfl, hb10⟩
 replace S := S.call hb10
 refine ⟨_, rfl, ?_⟩
 intro a A
 refine sda A λa A↦?_
 refine qa (hK7 _ _ (wsk fun K12 hK12 => wrl (sdm A λa A↦?_)))
 refine sdo (v := .bool false) A (qe rfl rfl (fun w => by kernel_rfl)) λa A↦?_
 refine qa (hK12 _ _ (wp_cond_false (A.ev rfl) ?_))
 refine wp_skip (hK6 _ _ (wsk fun K13 hK13 => wsk fun K14 hK14 => wrl (sdm A λa A↦?_)))
 rcases tf (decide (n < -16384)) with hb15 | hb15
 ·
  have hb15' := of_decide_eq_true hb15
  refine sdo (v := .bool true) A (qe rfl rfl (fun w => (zt w).trans (by rw [hb15]))) λa A↦?_
  refine sdm A λa A↦?_
  iterate 2 refine ze A rfl rfl rfl λa A↦?_
  refine sdk (v := .bool true) A λa A↦?_
  refine qa (hK14 _ _ (wp_cond_true (A.ev rfl) ?_))
  refine wsk fun K16 hK16 => wrl (sdo (v := .agg #[.bool false, .slice none 0 0, .slice none 0 0, .bool false, .slice none 0 0, .slice none 0 0]) A (za rfl (fun w => by kernel_rfl)) λa A↦?_)
  refine qr (us := [.bool false, .slice none 0 0, .slice none 0 0, .bool false, .slice none 0 0, .slice none 0 0]) A S rfl rfl (qi rfl rfl rfl (by kernel_rfl) S 1 rfl rfl rfl) 1 rfl rfl rfl rfl ?_
  intro w17 S
  refine sda A λa A↦?_
  refine qa (hK16 _ _ (wp_ret (hret _ _ (en2 A rfl (qx S BiE_isS_26 rfl 1 rfl (cs := [.bool false, .slice none 0 0, .slice none 0 0, .bool false, .slice none 0 0, .slice none 0 0]) rfl rfl) (qj rfl) ?_))))
  rw [qmh hw (by omega)]
  exact ⟨none, 0, none, 0, none, 0, none, 0, rfl, ⟨(Sc.none _), (Sc.none _), (Sc.none _), (Sc.none _)⟩, S.bel⟩
 ·
  have hb15' := of_decide_eq_false hb15
  refine sdo (v := .bool false) A (qe rfl rfl (fun w => (zt w).trans (by rw [hb15]))) λa A↦?_
  iterate 2 refine sdm A λa A↦?_
  rcases tf (decide (16384 < n)) with hb18 | hb18
  ·
   have hb18' := of_decide_eq_true hb18
   refine sdo (v := .bool true) A (qe rfl rfl (fun w => (ju w).trans (by rw [hb18]))) λa A↦?_
   refine sdk (v := .bool true) A λa A↦?_
   refine qa (hK14 _ _ (wp_cond_true (A.ev rfl) ?_))
   refine wsk fun K19 hK19 => wrl (sdo (v := .agg #[.bool false, .slice none 0 0, .slice none 0 0, .bool false, .slice none 0 0, .slice none 0 0]) A (za rfl (fun w => by kernel_rfl)) λa A↦?_)
   refine qr (us := [.bool false, .slice none 0 0, .slice none 0 0, .bool false, .slice none 0 0, .slice none 0 0]) A S rfl rfl (qi rfl rfl rfl (by kernel_rfl) S 1 rfl rfl rfl) 1 rfl rfl rfl rfl ?_
   intro w20 S
   refine sda A λa A↦?_
   refine qa (hK19 _ _ (wp_ret (hret _ _ (en2 A rfl (qx S BiE_isS_26 rfl 1 rfl (cs := [.bool false, .slice none 0 0, .slice none 0 0, .bool false, .slice none 0 0, .slice none 0 0]) rfl rfl) (qj rfl) ?_))))
   rw [qmh hw (by omega)]
   exact ⟨none, 0, none, 0, none, 0, none, 0, rfl, ⟨(Sc.none _), (Sc.none _), (Sc.none _), (Sc.none _)⟩, S.bel⟩
  ·
   have hb18' := of_decide_eq_false hb18
   refine sdo (v := .bool false) A (qe rfl rfl (fun w => (ju w).trans (by rw [hb18]))) λa A↦?_
   refine sdk (v := .bool false) A λa A↦?_
   refine qa (hK14 _ _ (wp_cond_false (A.ev rfl) ?_))
   refine wp_skip (hK13 _ _ (wsk fun K21 hK21 => wsk fun K22 hK22 => wrl (sdm A λa A↦?_)))
   rcases tf (decide (n < 0)) with hb23 | hb23
   ·
    have hb23' := of_decide_eq_true hb23
    refine sdo (v := .bool true) A (qe rfl rfl (fun w => (zt w).trans (by rw [hb23]))) λa A↦?_
    refine qa (hK22 _ _ (wp_cond_true (A.ev rfl) ?_))
    refine wsk fun K24 hK24 => wrl (sdo A (qk S BiE_isS_26 rfl 2 rfl (cs := [.bool b, .slice a1 ((words x).length) ac1, .slice a2 1 ac2, .bool false, .slice a3 0 ac3, .slice a4 1 ac4]) rfl rfl) λa A↦?_)
    refine qg A rfl rfl rfl (qb  rfl rfl (fun w => by kernel_rfl)) (ym (show Nm _ (Q6.whole b x) a1 ac1 a2 ac2 a3 ac3 a4 ac4 from ⟨⟨(S.rd 3 rfl), ha.s1.nil, ha.s1.cap⟩, ⟨(S.rd 2 rfl), ha.s2.nil, ha.s2.cap⟩, ⟨(S.rd 1 rfl), ha.s3.nil, ha.s3.cap⟩, ⟨(S.rd 0 rfl), ha.s4.nil, ha.s4.cap⟩⟩) hx hb) ?_
    rintro _ w29 ⟨ro25, rc26, rfl, hs27, hb28⟩
    replace S := S.call hb28
    replace S := S.addR hs27.rd
    refine ⟨_, rfl, ?_⟩
    intro a A
    refine sdm A λa A↦?_
    refine sdo (v := .int .i64 (-n)) A (zk rfl (znh (uk (by omega) (by omega)))) λa A↦?_
    refine qg A rfl rfl rfl (qb  rfl rfl (fun w => by kernel_rfl)) (qxa ⟨(S.rd 0 rfl), hs27.nil, hs27.cap⟩ (Nat.le_trans (words_mono (Nat.sub_le x b.toNat)) hx) (by omega) (by omega)) ?_
    rintro _ w34 ⟨ro30, rc31, rfl, hs32, hb33⟩
    replace S := S.call hb33
    replace S := S.addR hs32.rd
    refine ⟨_, rfl, ?_⟩
    intro a A
    refine qg A rfl rfl rfl (qb  rfl rfl (fun w => by kernel_rfl)) (uz (b := b) ⟨(S.rd 0 rfl), hs32.nil, hs32.cap⟩ (va (Nat.le_trans (words_mono (Nat.sub_le x b.toNat)) hx))) ?_
    rintro _ w38 ⟨p35_1, p35_c1, p35_2, p35_c2, p35_3, p35_c3, p35_4, p35_c4, rfl, hn36, hb37⟩
    replace S := S.call hb37
    replace S := S.addR hn36.s1.rd
    replace S := S.addR hn36.s2.rd
    replace S := S.addR hn36.s3.rd
    replace S := S.addR hn36.s4.rd
    refine ⟨_, rfl, ?_⟩
    intro a A
    iterate 2 refine sdo A (qm (vs := [.agg #[.bool ((ja b ((x - b.toNat) / 2 ^ (-n).toNat + b.toNat)).1.b1), .slice p35_1 (((ja b ((x - b.toNat) / 2 ^ (-n).toNat + b.toNat)).1.t1).length) p35_c1, .slice p35_2 (((ja b ((x - b.toNat) / 2 ^ (-n).toNat + b.toNat)).1.q1).length) p35_c2, .bool ((ja b ((x - b.toNat) / 2 ^ (-n).toNat + b.toNat)).1.b2), .slice p35_3 (((ja b ((x - b.toNat) / 2 ^ (-n).toNat + b.toNat)).1.t2).length) p35_c3, .slice p35_4 (((ja b ((x - b.toNat) / 2 ^ (-n).toNat + b.toNat)).1.q2).length) p35_c4], .int .i64 ((ja b ((x - b.toNat) / 2 ^ (-n).toNat + b.toNat)).2)]) rfl rfl) λa A↦?_
    refine qr (us := [.bool ((ja b ((x - b.toNat) / 2 ^ (-n).toNat + b.toNat)).1.b1), .slice p35_1 (((ja b ((x - b.toNat) / 2 ^ (-n).toNat + b.toNat)).1.t1).length) p35_c1, .slice p35_2 (((ja b ((x - b.toNat) / 2 ^ (-n).toNat + b.toNat)).1.q1).length) p35_c2, .bool ((ja b ((x - b.toNat) / 2 ^ (-n).toNat + b.toNat)).1.b2), .slice p35_3 (((ja b ((x - b.toNat) / 2 ^ (-n).toNat + b.toNat)).1.t2).length) p35_c3, .slice p35_4 (((ja b ((x - b.toNat) / 2 ^ (-n).toNat + b.toNat)).1.q2).length) p35_c4]) A S rfl rfl (qi rfl rfl rfl (by kernel_rfl) S 1 rfl rfl rfl) 1 rfl rfl rfl rfl ?_
    intro w39 S
    refine sda A λa A↦?_
    refine qa (hK24 _ _ (wp_ret (hret _ _ (en2 A rfl (qx S BiE_isS_26 rfl 1 rfl (cs := [.bool ((ja b ((x - b.toNat) / 2 ^ (-n).toNat + b.toNat)).1.b1), .slice p35_1 (((ja b ((x - b.toNat) / 2 ^ (-n).toNat + b.toNat)).1.t1).length) p35_c1, .slice p35_2 (((ja b ((x - b.toNat) / 2 ^ (-n).toNat + b.toNat)).1.q1).length) p35_c2, .bool ((ja b ((x - b.toNat) / 2 ^ (-n).toNat + b.toNat)).1.b2), .slice p35_3 (((ja b ((x - b.toNat) / 2 ^ (-n).toNat + b.toNat)).1.t2).length) p35_c3, .slice p35_4 (((ja b ((x - b.toNat) / 2 ^ (-n).toNat + b.toNat)).1.q2).length) p35_c4]) rfl rfl) (qj rfl) ?_))))
    rw [qwj hw (by omega) (by omega)]
    exact ⟨p35_1, p35_c1, p35_2, p35_c2, p35_3, p35_c3, p35_4, p35_c4, rfl, ⟨⟨(S.rd 3 rfl), hn36.s1.nil, hn36.s1.cap⟩, ⟨(S.rd 2 rfl), hn36.s2.nil, hn36.s2.cap⟩, ⟨(S.rd 1 rfl), hn36.s3.nil, hn36.s3.cap⟩, ⟨(S.rd 0 rfl), hn36.s4.nil, hn36.s4.cap⟩⟩, S.bel⟩
   ·
    have hb23' := of_decide_eq_false hb23
    refine sdo (v := .bool false) A (qe rfl rfl (fun w => (zt w).trans (by rw [hb23]))) λa A↦?_
    refine qa (hK22 _ _ (wp_cond_false (A.ev rfl) ?_))
    refine wp_skip (hK21 _ _ (wsk fun K40 hK40 => wrl (sdo (v := .pointer (some ⟨g2, 0, none⟩)) A (qf BiE_fld_26_0 rfl rfl) λa A↦?_)))
    refine sdo (v := .pointer (some ⟨g2, 1, none⟩)) A (qf BiE_fld_24_1 rfl rfl) λa A↦?_
    refine sdo A (qs S BiE_is1_22 rfl 2 rfl rfl) λa A↦?_
    refine sdm A λa A↦?_
    rcases tf (decide ((words (x * 2 ^ n.toNat)).length ≤ 512)) with hb41 | hb41
    ·
     have hb41' := of_decide_eq_true hb41
     refine qg A rfl rfl rfl (qb  rfl rfl (fun w => by kernel_rfl)) (zcd _ (S.rd 3 rfl) hx (by omega) (by omega) (of_decide_eq_true hb41)) ?_
     rintro _ w46 ⟨ro42, rc43, rfl, ho44, hb45⟩
     replace S := S.call hb45
     replace S := S.addR ho44.rd
     refine ⟨_, rfl, ?_⟩
     intro a A
     refine sdm A λa A↦?_
     iterate 2 refine sdo A (qm (vs := [.slice ro42 ((words (x * 2 ^ n.toNat)).length) rc43, .int .i64 0]) rfl rfl) λa A↦?_
     iterate 2 refine sda A λa A↦?_
     refine qa (hK40 _ _ (wsk fun K47 hK47 => wsk fun K48 hK48 => wrl (sdm A λa A↦?_)))
     refine sdo (v := .bool false) A (qe rfl rfl (fun w => by kernel_rfl)) λa A↦?_
     refine qa (hK48 _ _ (wp_cond_false (A.ev rfl) ?_))
     refine wp_skip (hK47 _ _ (wsk fun K49 hK49 => wrl (sdo (v := .pointer (some ⟨g2, 0, none⟩)) A (qf BiE_fld_26_0 rfl rfl) λa A↦?_)))
     refine sdo (v := .pointer (some ⟨g2, 0, none⟩)) A (qf BiE_fld_24_0 rfl rfl) λa A↦?_
     refine sdo A (qs S BiE_is1_4 rfl 2 rfl rfl) λa A↦?_
     refine sdm A λa A↦?_
     refine qg A rfl rfl rfl (qb  rfl rfl (fun w => by kernel_rfl)) (qfj b ⟨(S.rd 0 rfl), ho44.nocap, ho44.caps⟩) ?_
     rintro _ w53 ⟨p50_1, p50_c1, p50_2, p50_c2, p50_3, p50_c3, p50_4, p50_c4, rfl, hn51, hb52⟩
     replace S := S.call hb52
     replace S := S.addR hn51.s1.rd
     replace S := S.addR hn51.s2.rd
     replace S := S.addR hn51.s3.rd
     replace S := S.addR hn51.s4.rd
     refine ⟨_, rfl, ?_⟩
     intro a A
     refine qr (us := [.bool b, .slice p50_1 ((words (x * 2 ^ n.toNat)).length) p50_c1, .slice p50_2 1 p50_c2, .bool false, .slice p50_3 0 p50_c3, .slice p50_4 1 p50_c4]) A S rfl rfl (qi rfl rfl rfl (by kernel_rfl) S 1 rfl rfl rfl) 1 rfl rfl rfl rfl ?_
     intro w54 S
     refine sda A λa A↦?_
     refine qa (hK49 _ _ (wp_ret (hret _ _ (en2 A rfl (qx S BiE_isS_26 rfl 1 rfl (cs := [.bool b, .slice p50_1 ((words (x * 2 ^ n.toNat)).length) p50_c1, .slice p50_2 1 p50_c2, .bool false, .slice p50_3 0 p50_c3, .slice p50_4 1 p50_c4]) rfl rfl) (qj rfl) ?_))))
     rw [qrb hw (by omega) (by omega), yf (by omega)]
     exact ⟨p50_1, p50_c1, p50_2, p50_c2, p50_3, p50_c3, p50_4, p50_c4, rfl, ⟨⟨(S.rd 3 rfl), hn51.s1.nil, hn51.s1.cap⟩, ⟨(S.rd 2 rfl), hn51.s2.nil, hn51.s2.cap⟩, ⟨(S.rd 1 rfl), hn51.s3.nil, hn51.s3.cap⟩, ⟨(S.rd 0 rfl), hn51.s4.nil, hn51.s4.cap⟩⟩, S.bel⟩
    ·
     have hb41' := of_decide_eq_false hb41
     refine qg A rfl rfl rfl (qb  rfl rfl (fun w => by kernel_rfl)) (zce _ (S.rd 3 rfl) hx (by omega) (by omega) (of_decide_eq_false hb41)) ?_
     rintro _ w59 ⟨ro55, rc56, rfl, ho57, hb58⟩
     replace S := S.call hb58
     replace S := S.addR ho57.rd
     refine ⟨_, rfl, ?_⟩
     intro a A
     refine sdm A λa A↦?_
     iterate 2 refine sdo A (qm (vs := [.slice ro55 0 rc56, .int .i64 4]) rfl rfl) λa A↦?_
     iterate 2 refine sda A λa A↦?_
     refine qa (hK40 _ _ (wsk fun K60 hK60 => wsk fun K61 hK61 => wrl (sdm A λa A↦?_)))
     refine sdo (v := .bool true) A (qe rfl rfl (fun w => by kernel_rfl)) λa A↦?_
     refine qa (hK61 _ _ (wp_cond_true (A.ev rfl) ?_))
     refine wsk fun K62 hK62 => wrl (sdo (v := .agg #[.bool false, .slice none 0 0, .slice none 0 0, .bool false, .slice none 0 0, .slice none 0 0]) A (za rfl (fun w => by kernel_rfl)) λa A↦?_)
     refine sdm A λa A↦?_
     refine qr (us := [.bool false, .slice none 0 0, .slice none 0 0, .bool false, .slice none 0 0, .slice none 0 0]) A S rfl rfl (qi rfl rfl rfl (by kernel_rfl) S 1 rfl rfl rfl) 1 rfl rfl rfl rfl ?_
     intro w63 S
     refine sda A λa A↦?_
     refine qa (hK62 _ _ (wp_ret (hret _ _ (en2 A rfl (qx S BiE_isS_26 rfl 1 rfl (cs := [.bool false, .slice none 0 0, .slice none 0 0, .bool false, .slice none 0 0, .slice none 0 0]) rfl rfl) (qj rfl) ?_))))
     rw [qrb hw (by omega) (by omega), qmf (by omega)]
     exact ⟨none, 0, none, 0, none, 0, none, 0, rfl, ⟨(Sc.none _), (Sc.none _), (Sc.none _), (Sc.none _)⟩, S.bel⟩
/-- Two numbers are answered. -/
def AnsII (w : World) (r : Int × Int) (e : Ending) (w' : World) : Prop := e = .returned (.tuple #[.int .i64 r.1, .int .i64 r.2]) ∧ Below w.heap.size w w'
def vu (q : Q6) : Int × Int := if ji q = 0 then (((bl (val q.t1 - q.b1.toNat) : Nat) : Int), 0) else (0, ji q)
theorem qkd {q : Q6} (h : (ji q != 0) = true) : vu q = (0, ji q) := by unfold vu; rw [if_neg (bne_iff_ne.1 h)]
theorem uf {b : Bool} {x : Nat} (h : ji (Q6.whole b x) = 0) : vu (Q6.whole b x) = (((bl (x - b.toNat) : Nat) : Int), 0) := by
  unfold vu; rw [if_pos h]; simp only [Q6.whole, val_words]
theorem zkh {w : World} {ao : Option Addr} {x : Nat} (cap : Nat) (h : Rd w ao (words x)) (hl : (words x).length ≤ 512) :
    Calls Tryz.prog 23 #[.slice ao (words x).length cap] w fun e w' => e = .returned (.int .i64 ((bl x : Nat) : Int)) ∧ w' = w := by
  have := bits_any cap h (by omega)
  unfold bitsS at this
  rw [if_pos (zy hl), val_words] at this
  exact this
def notQ (q : Q6) : Q6 × Int := if ji q = 0 then ja (!q.b1) (qwg q.b1 (val q.t1)) else (Q6.zero, ji q)
theorem qmi {b : Bool} {x : Nat} (h : ji (Q6.whole b x) = 0) : notQ (Q6.whole b x) = ja (!b) (qwg b x) := by
  unfold notQ; rw [if_pos h]; simp only [Q6.whole, val_words]
theorem zoc {b : Bool} {x : Nat} (hb : b.toNat ≤ x) : x - b.toNat + (!b).toNat = qwg b x := by cases b <;> simp [qwg]
theorem BiF_isS_26 : IsS Tryz.prog 26 6 := ⟨⟨_, Tryz.underlying26⟩, by kernel_rfl⟩
theorem qtj {w : World} {q : Q6} {a1 a2 a3 a4 : Option Addr} {ac1 ac2 ac3 ac4 : Nat} (ha : Nm w q a1 ac1 a2 ac2 a3 ac3 a4 ac4) (hl : LenQ q)  (hw : (ji q != 0) = true) : Calls Tryz.prog 5 #[jx q a1 ac1 a2 ac2 a3 ac3 a4 ac4] w (AnsII w (vu q)) := by
 have S : St w w [] [(a4, q.q2), (a3, q.t2), (a2, q.q1), (a1, q.t1)] [] := ((((St.start w).addR ha.s1.rd).addR ha.s2.rd).addR ha.s3.rd).addR ha.s4.rd
 refine qy (l := [(0, .agg #[.bool q.b1, .slice a1 q.t1.length ac1, .slice a2 q.q1.length ac2, .bool q.b2, .slice a3 q.t2.length ac3, .slice a4 q.q2.length ac4])]) Tryz.func5 rfl Tryz.ntmps5 rfl rfl ?_
 intro Q hret hnorm hP a A
 refine wsk fun K1 hK1 => wrl (qn A S rfl rfl rfl pg (qw rfl rfl) rfl ?_)
 intro g2 w3 S a A
 iterate 2 refine sda A λa A↦?_
 refine qa (hK1 _ _ (wsk fun K4 hK4 => wsk fun K5 hK5 => wrl (sdo A (qk S BiF_isS_26 rfl 0 rfl (cs := [.bool q.b1, .slice a1 q.t1.length ac1, .slice a2 q.q1.length ac2, .bool q.b2, .slice a3 q.t2.length ac3, .slice a4 q.q2.length ac4]) rfl rfl) λa A↦?_)))
 refine qn (vs := [.bool q.b1, .slice a1 q.t1.length ac1, .slice a2 q.q1.length ac2, .bool q.b2, .slice a3 q.t2.length ac3, .slice a4 q.q2.length ac4]) (t := 26) A S rfl rfl rfl (fun g => .slice (some ⟨g, 0, none⟩) 1 1) (zx rfl (by kernel_rfl)) rfl ?_
 intro g6 w7 S a A
 refine qg A rfl rfl rfl (qb  rfl rfl (fun w => by kernel_rfl)) (kf (show Nm _ q a1 ac1 a2 ac2 a3 ac3 a4 ac4 from ⟨⟨(S.rd 3 rfl), ha.s1.nil, ha.s1.cap⟩, ⟨(S.rd 2 rfl), ha.s2.nil, ha.s2.cap⟩, ⟨(S.rd 1 rfl), ha.s3.nil, ha.s3.cap⟩, ⟨(S.rd 0 rfl), ha.s4.nil, ha.s4.cap⟩⟩) hl (S.blk 0 rfl) rfl) ?_
 rintro _ w9 ⟨rfl, hb8⟩
 replace S := S.call hb8
 refine ⟨_, rfl, ?_⟩
 intro a A
 refine sda A λa A↦?_
 refine qa (hK5 _ _ (wsk fun K10 hK10 => wrl (sdm A λa A↦?_)))
 refine sdo (v := .bool true) A (qe rfl rfl (fun w => (jd w).trans (by rw [show ((ji q != 0)) = true from hw]))) λa A↦?_
 refine qa (hK10 _ _ (wp_cond_true (A.ev rfl) ?_))
 refine wsk fun K11 hK11 => wrl (sdm A λa A↦?_)
 iterate 2 refine sda A λa A↦?_
 refine qa (hK11 _ _ (wp_ret (hret _ _ (en2 A rfl (qj rfl) (qj rfl) ?_))))
 rw [qkd hw]
 exact ⟨rfl, S.bel⟩
theorem qhc {w : World} {b : Bool} {x : Nat} {a1 a2 a3 a4 : Option Addr} {ac1 ac2 ac3 ac4 : Nat} (ha : Nm w (Q6.whole b x) a1 ac1 a2 ac2 a3 ac3 a4 ac4) (hl : LenQ (Q6.whole b x))  (hw : ji (Q6.whole b x) = 0) (hx : (words x).length ≤ 512) (hb : b.toNat ≤ x) : Calls Tryz.prog 5 #[jx (Q6.whole b x) a1 ac1 a2 ac2 a3 ac3 a4 ac4] w (AnsII w (vu (Q6.whole b x))) := by
 have S : St w w [] [(a4, [1]), (a3, []), (a2, [1]), (a1, words x)] [] := ((((St.start w).addR ha.s1.rd).addR ha.s2.rd).addR ha.s3.rd).addR ha.s4.rd
 refine qy (l := [(0, .agg #[.bool b, .slice a1 ((words x).length) ac1, .slice a2 1 ac2, .bool false, .slice a3 0 ac3, .slice a4 1 ac4])]) Tryz.func5 rfl Tryz.ntmps5 rfl rfl ?_
 intro Q hret hnorm hP a A
 refine wsk fun K1 hK1 => wrl (qn A S rfl rfl rfl pg (qw rfl rfl) rfl ?_)
 intro g2 w3 S a A
 iterate 2 refine sda A λa A↦?_
 refine qa (hK1 _ _ (wsk fun K4 hK4 => wsk fun K5 hK5 => wrl (sdo A (qk S BiF_isS_26 rfl 0 rfl (cs := [.bool b, .slice a1 ((words x).length) ac1, .slice a2 1 ac2, .bool false, .slice a3 0 ac3, .slice a4 1 ac4]) rfl rfl) λa A↦?_)))
 refine qn (vs := [.bool b, .slice a1 ((words x).length) ac1, .slice a2 1 ac2, .bool false, .slice a3 0 ac3, .slice a4 1 ac4]) (t := 26) A S rfl rfl rfl (fun g => .slice (some ⟨g, 0, none⟩) 1 1) (zx rfl (by kernel_rfl)) rfl ?_
 intro g6 w7 S a A
 refine qg A rfl rfl rfl (qb  rfl rfl (fun w => by kernel_rfl)) (kf (show Nm _ (Q6.whole b x) a1 ac1 a2 ac2 a3 ac3 a4 ac4 from ⟨⟨(S.rd 3 rfl), ha.s1.nil, ha.s1.cap⟩, ⟨(S.rd 2 rfl), ha.s2.nil, ha.s2.cap⟩, ⟨(S.rd 1 rfl), ha.s3.nil, ha.s3.cap⟩, ⟨(S.rd 0 rfl), ha.s4.nil, ha.s4.cap⟩⟩) hl (S.blk 0 rfl) hw) ?_
 rintro _ w9 ⟨rfl, hb8⟩
 replace S := S.call hb8
 refine ⟨_, rfl, ?_⟩
 intro a A
 refine sda A λa A↦?_
 refine qa (hK5 _ _ (wsk fun K10 hK10 => wrl (sdm A λa A↦?_)))
 refine sdo (v := .bool false) A (qe rfl rfl (fun w => by kernel_rfl)) λa A↦?_
 refine qa (hK10 _ _ (wp_cond_false (A.ev rfl) ?_))
 refine wp_skip (hK4 _ _ (wsk fun K11 hK11 => wrl (sdo A (qk S BiF_isS_26 rfl 1 rfl (cs := [.bool b, .slice a1 ((words x).length) ac1, .slice a2 1 ac2, .bool false, .slice a3 0 ac3, .slice a4 1 ac4]) rfl rfl) λa A↦?_)))
 refine qg A rfl rfl rfl (qb  rfl rfl (fun w => by kernel_rfl)) (ym (show Nm _ (Q6.whole b x) a1 ac1 a2 ac2 a3 ac3 a4 ac4 from ⟨⟨(S.rd 3 rfl), ha.s1.nil, ha.s1.cap⟩, ⟨(S.rd 2 rfl), ha.s2.nil, ha.s2.cap⟩, ⟨(S.rd 1 rfl), ha.s3.nil, ha.s3.cap⟩, ⟨(S.rd 0 rfl), ha.s4.nil, ha.s4.cap⟩⟩) hx hb) ?_
 rintro _ w16 ⟨ro12, rc13, rfl, hs14, hb15⟩
 replace S := S.call hb15
 replace S := S.addR hs14.rd
 refine ⟨_, rfl, ?_⟩
 intro a A
 refine sdo (v := .slice ro12 ((words (x - b.toNat)).length) rc13) A (qji rfl (fun w => by kernel_rfl)) λa A↦?_
 refine qg A rfl rfl rfl (qb  rfl rfl (fun w => by kernel_rfl)) (zkh _ (S.rd 0 rfl) (Nat.le_trans (words_mono (Nat.sub_le x b.toNat)) hx)) ?_
 rintro _ w18 ⟨rfl, hb17⟩
 replace hb17 := xp hb17
 replace S := S.call hb17
 refine ⟨_, rfl, ?_⟩
 intro a A
 iterate 2 refine sda A λa A↦?_
 refine qa (hK11 _ _ (wp_ret (hret _ _ (en2 A rfl (qj rfl) (qj rfl) ?_))))
 rw [uf hw]
 exact ⟨rfl, S.bel⟩
section
variable {P : Program} {l : List (Nat × Value)} {dst : Option Tmp} {ty t : TypeId} {pos : String} {after : Array Edge} {guard : Option (Nat × Bool)} {w : World} {x y : Operand}
theorem qcf {s : ByteArray} {i m : Nat} (hu : P.underlying t = some .string) (hx : ev l x = some (.string s)) (hi : ev l y = some (.int .u32 ((i : Nat) : Int))) (ht : (s[i]?).map (·.toNat) = some m) :
    Does P l ⟨dst, .index t x y, ty, pos, after, guard⟩ w (.int .u8 ((m : Nat) : Int)) w := fun ρ h => by
  cases hs : s[i]? with
  | none => rw [hs] at ht; cases ht
  | some b =>
    rw [hs] at ht
    simp only [Option.map_some, Option.some.injEq] at ht
    subst ht
    simp [execOp, h x _ hx, h y _ hi, Instr.index, run_underlying hu, asIntOf, go_sem, hs]
end

/-- The word at i of a row without end. -/
def rwd (b : Bool) (y i : Nat) : Nat := (y / pw i % 4294967296) ^^^ (b.toNat * 4294967295)
theorem kd (b : Bool) : b.toNat * 4294967295 < 4294967296 := by cases b <;> decide
theorem qcg (b : Bool) (y i : Nat) : rwd b y i < 4294967296 := Nat.xor_lt_two_pow (n := 32) (Nat.mod_lt _ (by decide)) (kd b)
theorem zwe {b : Bool} {y i : Nat} (h : (words y).length ≤ i) : rwd b y i = b.toNat * 4294967295 := by
  unfold rwd
  rw [div_words_length y i h, Nat.zero_mod, Nat.zero_xor]
/-- An operation on words, and what it makes of signs. -/
structure BOp (fop : Nat → Nat → Nat) (fb : Bool → Bool → Bool) : Prop where
  lt : ∀ x y, x < 4294967296 → y < 4294967296 → fop x y < 4294967296
  ends : ∀ b c, fop (b.toNat * 4294967295) (c.toNat * 4294967295) = (fb b c).toNat * 4294967295
def qqb (fop : Nat → Nat → Nat) (fb : Bool → Bool → Bool) (b1 : Bool) (y1 : Nat) (b2 : Bool) (y2 i : Nat) : Nat := fop (rwd b1 y1 i) (rwd b2 y2 i) ^^^ ((fb b1 b2).toNat * 4294967295)
section
variable {fop : Nat → Nat → Nat} {fb : Bool → Bool → Bool} {b1 b2 : Bool} {y1 y2 : Nat}
theorem zge (h : BOp fop fb) (i : Nat) : qqb fop fb b1 y1 b2 y2 i < 4294967296 := Nat.xor_lt_two_pow (n := 32) (h.lt _ _ (qcg _ _ _) (qcg _ _ _)) (kd _)
def zci (fop : Nat → Nat → Nat) (fb : Bool → Bool → Bool) (b1 : Bool) (y1 : Nat) (b2 : Bool) (y2 N : Nat) : List Nat := (List.range N).map (qqb fop fb b1 y1 b2 y2)
theorem qxb (N : Nat) : (zci fop fb b1 y1 b2 y2 N).length = N := by simp [zci]
theorem qxc {N i : Nat} (h : i < N) : (zci fop fb b1 y1 b2 y2 N).getD i 0 = qqb fop fb b1 y1 b2 y2 i := by simp [zci, h]
theorem qxd (h : BOp fop fb) (N : Nat) : Dig (zci fop fb b1 y1 b2 y2 N) := by
  intro x hx
  obtain ⟨i, _, rfl⟩ := List.mem_map.1 hx
  exact zge h i
end
/-- The size of what two rows are put together to, without the last one of a number below 0. -/
def xd (fop : Nat → Nat → Nat) (fb : Bool → Bool → Bool) (b1 : Bool) (y1 : Nat) (b2 : Bool) (y2 : Nat) : Nat := val (zci fop fb b1 y1 b2 y2 (max (words y1).length (words y2).length))
theorem zod : BOp (fun x y => x &&& y) (fun b c => b && c) := ⟨fun x y hx _ => Nat.lt_of_le_of_lt Nat.and_le_left hx, by intro b c; cases b <;> cases c <;> decide⟩
theorem or_op : BOp (fun x y => x ||| y) (fun b c => b || c) := ⟨fun x y hx hy => Nat.or_lt_two_pow (n := 32) hx hy, by intro b c; cases b <;> cases c <;> decide⟩
theorem xor_op : BOp (fun x y => x ^^^ y) (fun b c => b != c) := ⟨fun x y hx hy => Nat.xor_lt_two_pow (n := 32) hx hy, by intro b c; cases b <;> cases c <;> decide⟩
theorem qga {B : Nat} {w : World} {ao : Option Addr} {cap n : Nat} {l : List Nat} (h : Own B w ao cap l) (hn : l.length = n) (hl : n ≤ 1000000) :
    Calls Tryz.prog 78 #[.slice ao n cap] w fun e w' => e = .returned (.slice ao (words (val l)).length cap) ∧ Own B w ao cap (words (val l)) ∧ w' = w := by
  subst hn
  exact btrim_any h hl
section
variable {P : Program} {t : TypeId} {a b : Operand} {x y : Nat}
theorem zwf (hx : x < 4294967296) (hy : y < 4294967296) : ∀ w, (do eqGuard .and t a b (.int .u32 ((x : Nat) : Int)) (.int .u32 ((y : Nat) : Int)); binOp .and t (.int .u32 ((x : Nat) : Int)) (.int .u32 ((y : Nat) : Int)) : Sem Value).run P w = .ok (.int .u32 ((x &&& y : Nat) : Int)) w := fun w => by
  simp [go_sem, and_u32 x y hx hy]
theorem bin_or (hx : x < 4294967296) (hy : y < 4294967296) : ∀ w, (do eqGuard .or t a b (.int .u32 ((x : Nat) : Int)) (.int .u32 ((y : Nat) : Int)); binOp .or t (.int .u32 ((x : Nat) : Int)) (.int .u32 ((y : Nat) : Int)) : Sem Value).run P w = .ok (.int .u32 ((x ||| y : Nat) : Int)) w := fun w => by
  simp [go_sem, or_u32 x y hx hy]
theorem zgf {z : Nat} (hx : x < 4294967296) (hy : y < 4294967296) (hz : x ^^^ y = z) : ∀ w, (do eqGuard .xor t a b (.int .u32 ((x : Nat) : Int)) (.int .u32 ((y : Nat) : Int)); binOp .xor t (.int .u32 ((x : Nat) : Int)) (.int .u32 ((y : Nat) : Int)) : Sem Value).run P w = .ok (.int .u32 ((z : Nat) : Int)) w := fun w => by
  subst hz
  simp [go_sem, xor_u32 x y hx hy]
theorem zwg {ts : Array TypeId} {ty : TypeId} {m n : Nat} : ∀ w cs, (builtin .max ts ty cs #[.int .i64 ((m : Nat) : Int), .int .i64 ((n : Nat) : Int)]).run P w = .ok (.value (.int .i64 ((max m n : Nat) : Int))) w := fun w cs => by
  rw [BigFrame.builtin_max]
  have e : (if ((n : Nat) : Int) > ((m : Nat) : Int) then ((n : Nat) : Int) else ((m : Nat) : Int)) = ((max m n : Nat) : Int) := by
    by_cases h : m < n
    · rw [if_pos (by omega), Nat.max_eq_right (by omega)]
    · rw [if_neg (by omega), Nat.max_eq_left (by omega)]
  simp only [Builtin.max_, List.foldlM_cons, List.foldlM_nil, Builtin.max2, Sem.run_bind, Sem.run_pure, Result.andThen_ok, e]
end
theorem BiH_is1_22 : Is1 Tryz.prog 22 := ⟨⟨_, Tryz.underlying22, rfl⟩, by kernel_rfl⟩
theorem BiH_is1_77 : Is1 Tryz.prog 77 := ⟨⟨_, Tryz.underlying77, rfl⟩, by kernel_rfl⟩
theorem BiH_fld_62_1 : FieldAt Tryz.prog 62 1 1 := ⟨_, _, Tryz.underlying62, rfl, rfl, by kernel_rfl⟩
theorem BiH_isS_62 : IsS Tryz.prog 62 2 := ⟨⟨_, Tryz.underlying62⟩, by kernel_rfl⟩
theorem qch {w : World} {b : Bool} {ro : Option Addr} {rc y i : Nat} (hr : Rd w ro (words y)) (hy : (words y).length ≤ 100000) : Calls Tryz.prog 77 #[.agg #[.bool b, .slice ro (words y).length rc], .int .i64 ((i : Nat) : Int)] w fun e w' => e = .returned (.int .u32 ((rwd b y i : Nat) : Int)) ∧ Below w.heap.size w w' := by
 have V : St w w [] [(ro, words y)] [] := (St.start w).addR hr
 refine qy (l := [(0, .agg #[.bool b, .slice ro ((words y).length) rc]), (1, .int .i64 (((i : Nat) : Int)))]) Tryz.func77 rfl Tryz.ntmps77 rfl rfl ?_
 intro Q hret hnorm hP a H
 refine wsk fun K1 hK1 => wrl (qn H V rfl rfl rfl pg (qw rfl rfl) rfl ?_)
 intro g2 w3 V a H
 refine sda H λa H↦?_
 refine qa (hK1 _ _ (wsk fun K4 hK4 => wsk fun K5 hK5 => wrl (sdm H λa H↦?_)))
 refine sdo (v := .pointer (some ⟨g2, 1, none⟩)) H (qf BiH_fld_62_1 rfl rfl) λa H↦?_
 refine sdo H (qs V BiH_is1_22 rfl 0 rfl rfl) λa H↦?_
 refine sdo H (zg Tryz.underlying22 rfl) λa H↦?_
 rcases tf (decide ((((words y).length : Nat) : Int) ≤ ((i : Nat) : Int))) with hb6 | hb6
 ·
  have hb6' := of_decide_eq_true hb6
  refine sdo (v := .bool true) H (qe rfl rfl (fun w => (vt w).trans (by rw [hb6]))) λa H↦?_
  refine qa (hK5 _ _ (wp_cond_true (H.ev rfl) ?_))
  refine wsk fun K7 hK7 => wrl (sdo H (qk V BiH_isS_62 rfl 0 rfl (cs := [.bool b, .slice ro ((words y).length) rc]) rfl rfl) λa H↦?_)
  refine qg H rfl rfl rfl (qb  rfl rfl (fun w => by kernel_rfl)) (xx) ?_
  rintro _ w9 ⟨rfl, hb8⟩
  replace V := V.call hb8
  refine ⟨_, rfl, ?_⟩
  intro a H
  refine sda H λa H↦?_
  refine qa (hK7 _ _ (wp_ret (hret _ _ (en1 H rfl (qj rfl) ?_))))
  rw [zwe (by omega)]
  exact ⟨rfl, V.bel⟩
 ·
  have hb6' := of_decide_eq_false hb6
  refine sdo (v := .bool false) H (qe rfl rfl (fun w => (vt w).trans (by rw [hb6]))) λa H↦?_
  refine qa (hK5 _ _ (wp_cond_false (H.ev rfl) ?_))
  refine wp_skip (hK4 _ _ (wsk fun K10 hK10 => jc (S := fun w1 => St w w1 [(g2, [.bool b, .slice ro ((words y).length) rc])] [(ro, words y)] []) (by kernel_rfl) ?_))
  replace V := V.drew
  refine qh (v := .pointer (some ⟨g2, 1, none⟩)) H 0 rfl rfl rfl rfl hP V (fun w1 V => qf BiH_fld_62_1 rfl rfl) λa H↦?_
  refine qh H 1 rfl rfl rfl rfl hP V (fun w1 V => qs V BiH_is1_22 rfl 0 rfl rfl) λa H↦?_
  refine qh H 2 rfl rfl rfl rfl hP V (fun w1 V => qz rfl) λa H↦?_
  have hi14 : i < (words y).length := by first | omega | (simp only [List.length_set]; omega)
  obtain ⟨b11, f12, hso13⟩ := Rd.addr (V.rd 0 rfl) hi14
  refine qh (v := .pointer (some ⟨b11, f12 + i, none⟩)) H 3 rfl rfl rfl rfl hP V (fun w1 V => zw (k := i) Tryz.underlying22 (by kernel_rfl) rfl rfl (by omega) hso13 hi14) λa H↦?_
  refine qh (v := .int .u32 ((((words y).getD i 0 : Nat) : Int))) H 4 rfl rfl rfl rfl hP V (fun w1 V => yj (V.rd 0 rfl) hso13 hi14 BiH_is1_77 rfl) λa H↦?_
  refine qh H 5 rfl rfl rfl rfl hP V (fun w1 V => qk V BiH_isS_62 rfl 0 rfl (cs := [.bool b, .slice ro ((words y).length) rc]) rfl rfl) λa H↦?_
  refine qt (by kernel_rfl) (zf H 6 rfl rfl rfl rfl (qb  rfl rfl (fun w => by kernel_rfl)) (xx) ?_)
  rintro _ w16 ⟨rfl, hb15⟩
  replace V := V.call hb15
  refine ⟨_, rfl, V, ?_⟩
  intro a H
  refine qh (v := .int .u32 (((rwd b y i : Nat) : Int))) H 7 rfl rfl rfl rfl hP V (fun w1 V => qe rfl rfl (zgf (by rw [words_getD]; exact Nat.mod_lt _ (by decide)) (kd b) (by rw [words_getD]; rfl))) λa H↦?_
  refine qh H 8 rfl rfl rfl rfl hP V (fun w1 V => zh rfl) λa H↦?_
  refine zn (by kernel_rfl) ?_
  refine hK10 _ _ (wp_ret (hret _ _ (en1 H rfl (qj rfl) ?_)))
  exact ⟨rfl, V.bel⟩
theorem zwh (x y : Nat) (w : World) (hx : x < 4294967296) (hy : y < 4294967296) : Calls Tryz.prog 36 #[.int .u32 ((x : Nat) : Int), .int .u32 ((y : Nat) : Int)] w fun e w' => e = .returned (.int .u32 ((x ||| y : Nat) : Int)) ∧ Below w.heap.size w w' := by
 have V : St w w [] [] [] := St.start w
 refine qy (l := [(0, .int .u32 (((x : Nat) : Int))), (1, .int .u32 (((y : Nat) : Int)))]) Tryz.func36 rfl Tryz.ntmps36 rfl rfl ?_
 intro Q hret hnorm hP a H
 refine wsk fun K1 hK1 => wrl (sda H λa H↦?_)
 refine qa (hK1 _ _ (wsk fun K2 hK2 => wrl ?_))
 iterate 2 refine sdm H λa H↦?_
 refine sdo (v := .int .u32 (((x ||| y : Nat) : Int))) H (qe rfl rfl (bin_or hx hy)) λa H↦?_
 refine sda H λa H↦?_
 refine qa (hK2 _ _ (wp_ret (hret _ _ (en1 H rfl (qj rfl) ?_))))
 exact ⟨rfl, V.bel⟩
/-- A function that is handed in does so. -/
structure Fun2 (F : FuncId) (fop : Nat → Nat → Nat) : Prop where
 inv : ∀ vs w, (invoke (.fn (.func F) #[]) vs).run Tryz.prog w = .ok (.enter F vs) w
 does : ∀ x y w, x < 4294967296 → y < 4294967296 → Calls Tryz.prog F #[.int .u32 ((x : Nat) : Int), .int .u32 ((y : Nat) : Int)] w fun e w' => e = .returned (.int .u32 ((fop x y : Nat) : Int)) ∧ Below w.heap.size w w'
theorem orFun : Fun2 36 (fun x y => x ||| y) := ⟨fun vs w => by simp [go_sem, invoke, callFunc, Tryz.func36, Tryz.f36], zwh⟩
theorem qua {w : World} {F : FuncId} {fop : Nat → Nat → Nat} {fb : Bool → Bool → Bool} (hF : Fun2 F fop) (hB : BOp fop fb) {b1 b2 : Bool} {r1 r2 : Option Addr} {rc1 rc2 y1 y2 : Nat} (h1 : Rd w r1 (words y1)) (h2 : Rd w r2 (words y2)) (k1 : (words y1).length ≤ 600) (k2 : (words y2).length ≤ 600) :
  Calls Tryz.prog 83 #[.agg #[.bool b1, .slice r1 (words y1).length rc1], .func (.func F) #[] #[], .agg #[.bool b2, .slice r2 (words y2).length rc2]] w fun e w' => ∃ o c, e = .returned (.agg #[.bool (fb b1 b2), .slice o (words (xd fop fb b1 y1 b2 y2)).length c]) ∧ Sc w' o c (words (xd fop fb b1 y1 b2 y2)) ∧ Below w.heap.size w w' := by
 have hnb : (((fop (b1.toNat * 4294967295) (b2.toNat * 4294967295) : Nat) : Int) != 0) = fb b1 b2 := by
  rw [hB.ends]
  cases fb b1 b2 <;> decide
 have V : St w w [] [] [] := St.start w
 refine qy (l := [(0, .agg #[.bool b1, .slice r1 ((words y1).length) rc1]), (1, .func (.func F) #[] #[]), (2, .agg #[.bool b2, .slice r2 ((words y2).length) rc2])]) Tryz.func83 rfl Tryz.ntmps83 rfl rfl ?_
 intro Q hret hnorm hP a H
 refine wsk fun K1 hK1 => wrl (qn H V rfl rfl rfl pg (qw rfl rfl) rfl ?_)
 intro g2 w3 V a H
 refine qn H V rfl rfl rfl pg (qw rfl rfl) rfl ?_
 intro g4 w5 V a H
 refine qn (vs := [.bool false, .slice none 0 0]) (t := 62) H V rfl rfl rfl pg (ql (z := .agg #[.bool false, .slice none 0 0]) (by kernel_rfl) rfl) rfl ?_
 intro g6 w7 V a H
 refine qa (hK1 _ _ (wsk fun K8 hK8 => ?_))
 have hJ19 : ∀ a w1, (∃ (J18g : Nat), Sl a 53 [(0, .agg #[.bool b1, .slice r1 ((words y1).length) rc1]), (1, .func (.func F) #[] #[]), (2, .agg #[.bool b2, .slice r2 ((words y2).length) rc2]), (3, .pointer (some ⟨g2, 0, none⟩)), (5, .pointer (some ⟨g4, 0, none⟩)), (6, .pointer (some ⟨g6, 0, none⟩)), (7, .pointer (some ⟨J18g, 0, none⟩))] ∧ St w w1 [(J18g, [.bool ((fb b1 b2)), .slice none 0 0]), (g6, [.bool false, .slice none 0 0]), (g4, [.bool b2, .slice r2 ((words y2).length) rc2]), (g2, [.bool b1, .slice r1 ((words y1).length) rc1])] [] []) → K8 a w1 := by
  clear H V
  rintro a w20 ⟨J18g, H, V⟩
  refine hK8 _ _ (wsk fun K21 hK21 => wrl (sdo (v := .pointer (some ⟨g2, 1, none⟩)) H (qf BiH_fld_62_1 rfl rfl) λa H↦?_))
  refine sdo H (qs V BiH_is1_22 rfl 3 rfl rfl) λa H↦?_
  refine sdo H (zg Tryz.underlying22 rfl) λa H↦?_
  refine sdo (v := .pointer (some ⟨g4, 1, none⟩)) H (qf BiH_fld_62_1 rfl rfl) λa H↦?_
  refine sdo H (qs V BiH_is1_22 rfl 2 rfl rfl) λa H↦?_
  refine sdo H (zg Tryz.underlying22 rfl) λa H↦?_
  refine sdo (v := .int .i64 (((max (words y1).length (words y2).length : Nat) : Int))) H (vr rfl zwg) λa H↦?_
  refine qwe (m := max (words y1).length (words y2).length) H V rfl rfl rfl (qqg Tryz.underlying22 (by kernel_rfl) rfl rfl (by omega)) (by omega) ?_
  intro g22 w23 V a H
  refine sdo (v := .pointer (some ⟨J18g, 1, none⟩)) H (qf BiH_fld_62_1 rfl rfl) λa H↦?_
  refine qr (us := [.bool ((fb b1 b2)), .slice (some ⟨g22, 0, none⟩) (max (words y1).length (words y2).length) (max (words y1).length (words y2).length)]) H V rfl rfl (qi rfl rfl rfl (by kernel_rfl) V 0 rfl rfl rfl) 0 rfl rfl rfl rfl ?_
  intro w24 V
  refine qa (hK21 _ _ (wsk fun K25 hK25 => wsk fun K26 hK26 => wrl (sdo (v := .pointer (some ⟨J18g, 1, none⟩)) H (qf BiH_fld_62_1 rfl rfl) λa H↦?_)))
  refine sdo H (qs V BiH_is1_22 rfl 0 rfl rfl) λa H↦?_
  refine sdo H (zg Tryz.underlying22 rfl) λa H↦?_
  refine sdm H λa H↦?_
  refine qa (hK26 _ _ (wp_block (js (fun m a w1 => ∃ (i : Nat) (l : List Nat), m = max (words y1).length (words y2).length - i ∧ (i ≤ max (words y1).length (words y2).length ∧ l.length = max (words y1).length (words y2).length ∧ ∀ j, j < i → l.getD j 0 = qqb fop fb b1 y1 b2 y2 j) ∧ Sl a 53 [(0, .agg #[.bool b1, .slice r1 ((words y1).length) rc1]), (1, .func (.func F) #[] #[]), (2, .agg #[.bool b2, .slice r2 ((words y2).length) rc2]), (3, .pointer (some ⟨g2, 0, none⟩)), (5, .pointer (some ⟨g4, 0, none⟩)), (6, .pointer (some ⟨g6, 0, none⟩)), (7, .pointer (some ⟨J18g, 0, none⟩)), (17, .pointer (some ⟨g2, 1, none⟩)), (18, .slice r1 ((words y1).length) rc1), (19, .int .i64 ((((words y1).length : Nat) : Int))), (20, .pointer (some ⟨g4, 1, none⟩)), (21, .slice r2 ((words y2).length) rc2), (22, .int .i64 ((((words y2).length : Nat) : Int))), (23, .int .i64 (((max (words y1).length (words y2).length : Nat) : Int))), (24, .slice (some ⟨g22, 0, none⟩) (max (words y1).length (words y2).length) (max (words y1).length (words y2).length)), (25, .pointer (some ⟨J18g, 1, none⟩)), (26, .pointer (some ⟨J18g, 1, none⟩)), (27, .slice (some ⟨g22, 0, none⟩) (max (words y1).length (words y2).length) (max (words y1).length (words y2).length)), (28, .int .i64 (((max (words y1).length (words y2).length : Nat) : Int))), (29, .int .i64 (((i : Nat) : Int)))] ∧ St w w1 [(J18g, [.bool ((fb b1 b2)), .slice (some ⟨g22, 0, none⟩) (max (words y1).length (words y2).length) (max (words y1).length (words y2).length)]), (g6, [.bool false, .slice none 0 0]), (g4, [.bool b2, .slice r2 ((words y2).length) rc2]), (g2, [.bool b1, .slice r1 ((words y1).length) rc1])] [] [(some ⟨g22, 0, none⟩, max (words y1).length (words y2).length, l)]) _ ⟨0, List.replicate (max (words y1).length (words y2).length) 0, rfl, ⟨Nat.zero_le _, by simp, fun j hj => by omega⟩, H.keep _ ⟨rfl, rfl, rfl, rfl, rfl, rfl, rfl, rfl, rfl, rfl, rfl, rfl, rfl, rfl, rfl, rfl, rfl, rfl, rfl, rfl, trivial⟩, V⟩ ?_)))
  clear V H
  rintro m a w27 ⟨i, l, rfl, hinv29, H, V⟩ K28 hK28
  obtain ⟨hle9, hinv9, hinv8⟩ := hinv29
  refine wsk fun K30 hK30 => wrl ?_
  rcases tf (decide (((i : Nat) : Int) < ((max (words y1).length (words y2).length : Nat) : Int))) with hb31 | hb31
  ·
   have hb31' := of_decide_eq_true hb31
   refine sdo (v := .bool true) H (qe rfl rfl (fun w => (zt w).trans (by rw [hb31]))) λa H↦?_
   refine qa (hK30 _ _ (wsk fun K32 hK32 => wp_cond_true (H.ev rfl) ?_))
   refine wp_skip (hK32 _ _ (wsk fun K33 hK33 => wp_block (wsk fun K34 hK34 => wrl (sdm H λa H↦?_))))
   refine sda H λa H↦?_
   refine qa (hK34 _ _ (jc (S := fun w1 => St w w1 [(J18g, [.bool ((fb b1 b2)), .slice (some ⟨g22, 0, none⟩) (max (words y1).length (words y2).length) (max (words y1).length (words y2).length)]), (g6, [.bool false, .slice none 0 0]), (g4, [.bool b2, .slice r2 ((words y2).length) rc2]), (g2, [.bool b1, .slice r1 ((words y1).length) rc1])] [] []) (by kernel_rfl) ?_))
   replace V := V.drew
   refine qh (v := .pointer (some ⟨J18g, 1, none⟩)) H 0 rfl rfl rfl rfl hP (V.partD (.refl _) 0 rfl (.cons _ .slnil)) (fun w1 V => qf BiH_fld_62_1 rfl rfl) λa H↦?_
   refine qh H 1 rfl rfl rfl rfl hP (V.partD (.refl _) 0 rfl (.cons _ .slnil)) (fun w1 V => qs V BiH_is1_22 rfl 0 rfl rfl) λa H↦?_
   refine qh H 2 rfl rfl rfl rfl hP (V.partD (.refl _) 0 rfl (.cons _ .slnil)) (fun w1 V => qz rfl) λa H↦?_
   refine qh H 3 rfl rfl rfl rfl hP (V.partD (.refl _) 0 rfl (.cons _ .slnil)) (fun w1 V => qz rfl) λa H↦?_
   refine qh H 4 rfl rfl rfl rfl hP (V.partD (.refl _) 0 rfl (.cons _ .slnil)) (fun w1 V => qk V BiH_isS_62 rfl 3 rfl (cs := [.bool b1, .slice r1 ((words y1).length) rc1]) rfl rfl) λa H↦?_
   refine qh H 5 rfl rfl rfl rfl hP (V.partD (.refl _) 0 rfl (.cons _ .slnil)) (fun w1 V => qz rfl) λa H↦?_
   refine qh H 7 rfl rfl rfl rfl hP (V.partD (.refl _) 0 rfl (.cons _ .slnil)) (fun w1 V => qk V BiH_isS_62 rfl 2 rfl (cs := [.bool b2, .slice r2 ((words y2).length) rc2]) rfl rfl) λa H↦?_
   refine qh H 8 rfl rfl rfl rfl hP (V.partD (.refl _) 0 rfl (.cons _ .slnil)) (fun w1 V => qz rfl) λa H↦?_
   refine qh H 11 rfl rfl rfl rfl hP (V.partD (.refl _) 0 rfl (.cons _ .slnil)) (fun w1 V => qk V BiH_isS_62 rfl 0 rfl (cs := [.bool ((fb b1 b2)), .slice (some ⟨g22, 0, none⟩) (max (words y1).length (words y2).length) (max (words y1).length (words y2).length)]) rfl rfl) λa H↦?_
   refine qt (by kernel_rfl) (zf H 6 rfl rfl rfl rfl (qb  rfl rfl (fun w => by kernel_rfl)) (qch (h1.below V.bel) (by omega)) ?_)
   rintro _ w36 ⟨rfl, hb35⟩
   have hS0 := V
   replace V := V.call hb35
   refine ⟨_, rfl, (V.partD (.refl _) 0 rfl (.cons _ .slnil)), ?_⟩
   intro a H
   refine qt (by kernel_rfl) (zf H 9 rfl rfl rfl rfl (qb  rfl rfl (fun w => by kernel_rfl)) (qch (h2.below V.bel) (by omega)) ?_)
   rintro _ w38 ⟨rfl, hb37⟩
   have hS0 := V
   replace V := V.call hb37
   refine ⟨_, rfl, (V.partD (.refl _) 0 rfl (.cons _ .slnil)), ?_⟩
   intro a H
   refine qt (by kernel_rfl) (zf H 10 rfl rfl rfl rfl (qb  rfl rfl (fun w => hF.inv _ w)) (hF.does _ _ _ (qcg _ _ _) (qcg _ _ _)) ?_)
   rintro _ w40 ⟨rfl, hb39⟩
   have hS0 := V
   replace V := V.call hb39
   refine ⟨_, rfl, (V.partD (.refl _) 0 rfl (.cons _ .slnil)), ?_⟩
   intro a H
   refine qt (by kernel_rfl) (zf H 12 rfl rfl rfl rfl (qb  rfl rfl (fun w => by kernel_rfl)) (xx) ?_)
   rintro _ w42 ⟨rfl, hb41⟩
   have hS0 := V
   replace V := V.call hb41
   refine ⟨_, rfl, (V.partD (.refl _) 0 rfl (.cons _ .slnil)), ?_⟩
   intro a H
   refine qh (v := .int .u32 (((qqb fop fb b1 y1 b2 y2 i : Nat) : Int))) H 13 rfl rfl rfl rfl hP (V.partD (.refl _) 0 rfl (.cons _ .slnil)) (fun w1 V => qe rfl rfl (zgf (hB.lt _ _ (qcg _ _ _) (qcg _ _ _)) (kd _) rfl)) λa H↦?_
   have hi46 : i < l.length := by first | omega | (simp only [List.length_set]; omega)
   refine qh (v := .pointer (some ⟨g22, 0 + i, none⟩)) H 14 rfl rfl rfl rfl hP (V.partD (.refl _) 0 rfl (.cons _ .slnil)) (fun w1 V => zw (k := i) Tryz.underlying22 (by kernel_rfl) rfl rfl (by omega) rfl (by omega)) λa H↦?_
   refine qt (by kernel_rfl) (zng (us' := l.set i (qqb fop fb b1 y1 b2 y2 i)) H V 15 rfl rfl rfl (qme (d := qqb fop fb b1 y1 b2 y2 i) (by kernel_rfl) rfl rfl V 0 rfl hi46) 0 rfl (zge hB _) rfl ?_)
   intro w47 V
   refine ⟨(V.partD (.refl _) 0 rfl (.cons _ .slnil)), ?_⟩
   refine zn (by kernel_rfl) ?_
   refine hK33 _ _ (wrl (sdo (v := .int .i64 (((i + 1 : Nat) : Int))) H (qe rfl rfl (fun w => (qea (uk (by omega) (by omega)) w).trans (by rw [show (((i : Nat) : Int) + 1 : Int) = ((i + 1 : Nat) : Int) from by omega]))) λa H↦?_))
   refine sdm H λa H↦?_
   refine qa ?_
   refine hK28 _ _ _ (by omega) ⟨i + 1, l.set i (qqb fop fb b1 y1 b2 y2 i), rfl, ⟨by omega, by rw [List.length_set]; exact hinv9, fun j hj => by rcases Nat.lt_succ_iff_lt_or_eq.1 hj with h | h; rw [List.getD_eq_getElem?_getD, List.getElem?_set_ne (by omega), ← List.getD_eq_getElem?_getD]; exact hinv8 j h; subst h; rw [List.getD_eq_getElem?_getD, List.getElem?_set_self (by omega)]; rfl⟩, H.keep _ ⟨rfl, rfl, rfl, rfl, rfl, rfl, rfl, rfl, rfl, rfl, rfl, rfl, rfl, rfl, rfl, rfl, rfl, rfl, rfl, rfl, trivial⟩, V⟩
  ·
   have hb31' := of_decide_eq_false hb31
   refine sdo (v := .bool false) H (qe rfl rfl (fun w => (zt w).trans (by rw [hb31]))) λa H↦?_
   refine qa (hK30 _ _ (wsk fun K48 hK48 => wp_cond_false (H.ev rfl) ?_))
   refine wp_exit (hK25 _ _ (wsk fun K49 hK49 => wrl (sdo (v := .pointer (some ⟨J18g, 1, none⟩)) H (qf BiH_fld_62_1 rfl rfl) λa H↦?_)))
   refine sdo H (qs V BiH_is1_22 rfl 0 rfl rfl) λa H↦?_
   refine qg H rfl rfl rfl (qb  rfl rfl (fun w => by kernel_rfl)) (qga (V.row 0 rfl) hinv9 (by omega)) ?_
   rintro _ w52 ⟨rfl, ho50, hw51⟩
   have hw9 := xp hw51
   have ho9 := ho50.below hw9
   have hS0 := V
   replace V := V.call hw9
   replace V : St w w52 [(J18g, [.bool ((fb b1 b2)), .slice (some ⟨g22, 0, none⟩) (max (words y1).length (words y2).length) (max (words y1).length (words y2).length)]), (g6, [.bool false, .slice none 0 0]), (g4, [.bool b2, .slice r2 ((words y2).length) rc2]), (g2, [.bool b1, .slice r1 ((words y1).length) rc1])] [] [(some ⟨g22, 0, none⟩, max (words y1).length (words y2).length, words (val l))] := V.retake 0 rfl ho9
   refine ⟨_, rfl, ?_⟩
   intro a H
   refine sdo (v := .pointer (some ⟨J18g, 1, none⟩)) H (qf BiH_fld_62_1 rfl rfl) λa H↦?_
   refine qr (us := [.bool ((fb b1 b2)), .slice (some ⟨g22, 0, none⟩) ((words (val l)).length) (max (words y1).length (words y2).length)]) H V rfl rfl (qi rfl rfl rfl (by kernel_rfl) V 0 rfl rfl rfl) 0 rfl rfl rfl rfl ?_
   intro w53 V
   refine qa (hK49 _ _ (wsk fun K54 hK54 => wrl (sdo H (qk V BiH_isS_62 rfl 0 rfl (cs := [.bool ((fb b1 b2)), .slice (some ⟨g22, 0, none⟩) ((words (val l)).length) (max (words y1).length (words y2).length)]) rfl rfl) λa H↦?_)))
   refine qr (us := [.bool ((fb b1 b2)), .slice (some ⟨g22, 0, none⟩) ((words (val l)).length) (max (words y1).length (words y2).length)]) H V rfl rfl (qi rfl rfl rfl (by kernel_rfl) V 1 rfl rfl rfl) 1 rfl rfl rfl rfl ?_
   intro w55 V
   refine qa (hK54 _ _ (wp_ret (hret _ _ (en1 H rfl (qx V BiH_isS_62 rfl 1 rfl (cs := [.bool ((fb b1 b2)), .slice (some ⟨g22, 0, none⟩) ((words (val l)).length) (max (words y1).length (words y2).length)]) rfl rfl) ?_))))
   have hi9 : i = max (words y1).length (words y2).length := by omega
   subst hi9
   have el : l = zci fop fb b1 y1 b2 y2 (max (words y1).length (words y2).length) := list_of_getD (by rw [qxb]; exact hinv9) (fun j hj => by rw [qxc (by omega)]; exact hinv8 j (by omega))
   subst el
   exact ⟨_, _, rfl, (V.row 0 rfl).sc, V.bel⟩
 refine jc (S := fun w1 => St w w1 [(g6, [.bool false, .slice none 0 0]), (g4, [.bool b2, .slice r2 ((words y2).length) rc2]), (g2, [.bool b1, .slice r1 ((words y1).length) rc1])] [] []) (by kernel_rfl) ?_
 replace V := V.drew
 refine qh H 0 rfl rfl rfl rfl hP V (fun w1 V => qz rfl) λa H↦?_
 refine qh H 1 rfl rfl rfl rfl hP V (fun w1 V => qk V BiH_isS_62 rfl 2 rfl (cs := [.bool b1, .slice r1 ((words y1).length) rc1]) rfl rfl) λa H↦?_
 refine qh H 3 rfl rfl rfl rfl hP V (fun w1 V => qk V BiH_isS_62 rfl 1 rfl (cs := [.bool b2, .slice r2 ((words y2).length) rc2]) rfl rfl) λa H↦?_
 refine yr (rs := [2, 8]) (by kernel_rfl) (by simp) ⟨?_, ?_, trivial⟩
 ·
  refine zf H 2 rfl rfl rfl rfl (qb  rfl rfl (fun w => by kernel_rfl)) (xx) ?_
  rintro _ w57 ⟨rfl, hb56⟩
  replace V := V.call hb56
  refine ⟨_, rfl, V, ?_⟩
  intro a H
  refine yr (rs := [4, 8]) (by kernel_rfl) (by simp) ⟨?_, ?_, trivial⟩
  ·
   refine zf H 4 rfl rfl rfl rfl (qb  rfl rfl (fun w => by kernel_rfl)) (xx) ?_
   rintro _ w59 ⟨rfl, hb58⟩
   replace V := V.call hb58
   refine ⟨_, rfl, V, ?_⟩
   intro a H
   refine yr (rs := [5, 8]) (by kernel_rfl) (by simp) ⟨?_, ?_, trivial⟩
   ·
    refine zf H 5 rfl rfl rfl rfl (qb  rfl rfl (fun w => hF.inv _ w)) (hF.does _ _ _ (kd _) (kd _)) ?_
    rintro _ w61 ⟨rfl, hb60⟩
    replace V := V.call hb60
    refine ⟨_, rfl, V, ?_⟩
    intro a H
    refine qh (v := .bool ((fb b1 b2))) H 6 rfl rfl rfl rfl hP V (fun w1 V => qe rfl rfl (fun w => (jd w).trans (by rw [hnb]))) λa H↦?_
    refine qh (v := .agg #[.bool ((fb b1 b2)), .slice none 0 0]) H 7 rfl rfl rfl rfl hP V (fun w1 V => za rfl (fun w => by kernel_rfl)) λa H↦?_
    refine qt (by kernel_rfl) (qfg (vs := [.bool false, .slice none 0 0]) (t := 62) H V 8 rfl rfl rfl rfl pg (ql (z := .agg #[.bool false, .slice none 0 0]) (by kernel_rfl) rfl) rfl ?_)
    intro g62 w63 V
    refine ⟨(V.partD (.cons _ (.cons_cons _ (.cons_cons _ (.cons_cons _ .slnil)))) 0 rfl (.refl _)), ?_⟩
    intro a H
    refine qt (by kernel_rfl) (zp (us := [.bool ((fb b1 b2)), .slice none 0 0]) H V 9 rfl rfl rfl (qi rfl rfl rfl (by kernel_rfl) V 0 rfl rfl rfl) 0 rfl rfl rfl rfl ?_)
    intro w64 V
    refine ⟨(V.partD (.cons _ (.cons_cons _ (.cons_cons _ (.cons_cons _ .slnil)))) 0 rfl (.refl _)), ?_⟩
    refine zn (by kernel_rfl) ?_
    refine hJ19 _ _ ⟨g62, H.keep _ ⟨rfl, rfl, rfl, rfl, rfl, rfl, rfl, trivial⟩, (St.pickRL V trivial [0, 1, 2, 3] rfl (by decide))⟩
   ·
    refine qfg (vs := [.bool false, .slice none 0 0]) (t := 62) H V 8 rfl rfl rfl rfl pg (ql (z := .agg #[.bool false, .slice none 0 0]) (by kernel_rfl) rfl) rfl ?_
    intro g65 w66 V
    refine ⟨(V.partD (.cons _ (.cons_cons _ (.cons_cons _ (.cons_cons _ .slnil)))) 0 rfl (.refl _)), ?_⟩
    intro a H
    refine qt (by kernel_rfl) (zf H 5 rfl rfl rfl rfl (qb  rfl rfl (fun w => hF.inv _ w)) (hF.does _ _ _ (kd _) (kd _)) ?_)
    rintro _ w68 ⟨rfl, hb67⟩
    replace V := V.call hb67
    refine ⟨_, rfl, (V.partD (.cons _ (.cons_cons _ (.cons_cons _ (.cons_cons _ .slnil)))) 0 rfl (.refl _)), ?_⟩
    intro a H
    refine qh (v := .bool ((fb b1 b2))) H 6 rfl rfl rfl rfl hP (V.partD (.cons _ (.cons_cons _ (.cons_cons _ (.cons_cons _ .slnil)))) 0 rfl (.refl _)) (fun w1 V => qe rfl rfl (fun w => (jd w).trans (by rw [hnb]))) λa H↦?_
    refine qh (v := .agg #[.bool ((fb b1 b2)), .slice none 0 0]) H 7 rfl rfl rfl rfl hP (V.partD (.cons _ (.cons_cons _ (.cons_cons _ (.cons_cons _ .slnil)))) 0 rfl (.refl _)) (fun w1 V => za rfl (fun w => by kernel_rfl)) λa H↦?_
    refine qt (by kernel_rfl) (zp (us := [.bool ((fb b1 b2)), .slice none 0 0]) H V 9 rfl rfl rfl (qi rfl rfl rfl (by kernel_rfl) V 0 rfl rfl rfl) 0 rfl rfl rfl rfl ?_)
    intro w69 V
    refine ⟨(V.partD (.cons _ (.cons_cons _ (.cons_cons _ (.cons_cons _ .slnil)))) 0 rfl (.refl _)), ?_⟩
    refine zn (by kernel_rfl) ?_
    refine hJ19 _ _ ⟨g65, H.keep _ ⟨rfl, rfl, rfl, rfl, rfl, rfl, rfl, trivial⟩, (St.pickRL V trivial [0, 1, 2, 3] rfl (by decide))⟩
  ·
   refine qfg (vs := [.bool false, .slice none 0 0]) (t := 62) H V 8 rfl rfl rfl rfl pg (ql (z := .agg #[.bool false, .slice none 0 0]) (by kernel_rfl) rfl) rfl ?_
   intro g70 w71 V
   refine ⟨(V.partD (.cons _ (.cons_cons _ (.cons_cons _ (.cons_cons _ .slnil)))) 0 rfl (.refl _)), ?_⟩
   intro a H
   refine qt (by kernel_rfl) (zf H 4 rfl rfl rfl rfl (qb  rfl rfl (fun w => by kernel_rfl)) (xx) ?_)
   rintro _ w73 ⟨rfl, hb72⟩
   replace V := V.call hb72
   refine ⟨_, rfl, (V.partD (.cons _ (.cons_cons _ (.cons_cons _ (.cons_cons _ .slnil)))) 0 rfl (.refl _)), ?_⟩
   intro a H
   refine qt (by kernel_rfl) (zf H 5 rfl rfl rfl rfl (qb  rfl rfl (fun w => hF.inv _ w)) (hF.does _ _ _ (kd _) (kd _)) ?_)
   rintro _ w75 ⟨rfl, hb74⟩
   replace V := V.call hb74
   refine ⟨_, rfl, (V.partD (.cons _ (.cons_cons _ (.cons_cons _ (.cons_cons _ .slnil)))) 0 rfl (.refl _)), ?_⟩
   intro a H
   refine qh (v := .bool ((fb b1 b2))) H 6 rfl rfl rfl rfl hP (V.partD (.cons _ (.cons_cons _ (.cons_cons _ (.cons_cons _ .slnil)))) 0 rfl (.refl _)) (fun w1 V => qe rfl rfl (fun w => (jd w).trans (by rw [hnb]))) λa H↦?_
   refine qh (v := .agg #[.bool ((fb b1 b2)), .slice none 0 0]) H 7 rfl rfl rfl rfl hP (V.partD (.cons _ (.cons_cons _ (.cons_cons _ (.cons_cons _ .slnil)))) 0 rfl (.refl _)) (fun w1 V => za rfl (fun w => by kernel_rfl)) λa H↦?_
   refine qt (by kernel_rfl) (zp (us := [.bool ((fb b1 b2)), .slice none 0 0]) H V 9 rfl rfl rfl (qi rfl rfl rfl (by kernel_rfl) V 0 rfl rfl rfl) 0 rfl rfl rfl rfl ?_)
   intro w76 V
   refine ⟨(V.partD (.cons _ (.cons_cons _ (.cons_cons _ (.cons_cons _ .slnil)))) 0 rfl (.refl _)), ?_⟩
   refine zn (by kernel_rfl) ?_
   refine hJ19 _ _ ⟨g70, H.keep _ ⟨rfl, rfl, rfl, rfl, rfl, rfl, rfl, trivial⟩, (St.pickRL V trivial [0, 1, 2, 3] rfl (by decide))⟩
 ·
  refine qfg (vs := [.bool false, .slice none 0 0]) (t := 62) H V 8 rfl rfl rfl rfl pg (ql (z := .agg #[.bool false, .slice none 0 0]) (by kernel_rfl) rfl) rfl ?_
  intro g77 w78 V
  refine ⟨(V.partD (.cons _ (.cons_cons _ (.cons_cons _ (.cons_cons _ .slnil)))) 0 rfl (.refl _)), ?_⟩
  intro a H
  refine qt (by kernel_rfl) (zf H 2 rfl rfl rfl rfl (qb  rfl rfl (fun w => by kernel_rfl)) (xx) ?_)
  rintro _ w80 ⟨rfl, hb79⟩
  replace V := V.call hb79
  refine ⟨_, rfl, (V.partD (.cons _ (.cons_cons _ (.cons_cons _ (.cons_cons _ .slnil)))) 0 rfl (.refl _)), ?_⟩
  intro a H
  refine qt (by kernel_rfl) (zf H 4 rfl rfl rfl rfl (qb  rfl rfl (fun w => by kernel_rfl)) (xx) ?_)
  rintro _ w82 ⟨rfl, hb81⟩
  replace V := V.call hb81
  refine ⟨_, rfl, (V.partD (.cons _ (.cons_cons _ (.cons_cons _ (.cons_cons _ .slnil)))) 0 rfl (.refl _)), ?_⟩
  intro a H
  refine qt (by kernel_rfl) (zf H 5 rfl rfl rfl rfl (qb  rfl rfl (fun w => hF.inv _ w)) (hF.does _ _ _ (kd _) (kd _)) ?_)
  rintro _ w84 ⟨rfl, hb83⟩
  replace V := V.call hb83
  refine ⟨_, rfl, (V.partD (.cons _ (.cons_cons _ (.cons_cons _ (.cons_cons _ .slnil)))) 0 rfl (.refl _)), ?_⟩
  intro a H
  refine qh (v := .bool ((fb b1 b2))) H 6 rfl rfl rfl rfl hP (V.partD (.cons _ (.cons_cons _ (.cons_cons _ (.cons_cons _ .slnil)))) 0 rfl (.refl _)) (fun w1 V => qe rfl rfl (fun w => (jd w).trans (by rw [hnb]))) λa H↦?_
  refine qh (v := .agg #[.bool ((fb b1 b2)), .slice none 0 0]) H 7 rfl rfl rfl rfl hP (V.partD (.cons _ (.cons_cons _ (.cons_cons _ (.cons_cons _ .slnil)))) 0 rfl (.refl _)) (fun w1 V => za rfl (fun w => by kernel_rfl)) λa H↦?_
  refine qt (by kernel_rfl) (zp (us := [.bool ((fb b1 b2)), .slice none 0 0]) H V 9 rfl rfl rfl (qi rfl rfl rfl (by kernel_rfl) V 0 rfl rfl rfl) 0 rfl rfl rfl rfl ?_)
  intro w85 V
  refine ⟨(V.partD (.cons _ (.cons_cons _ (.cons_cons _ (.cons_cons _ .slnil)))) 0 rfl (.refl _)), ?_⟩
  refine zn (by kernel_rfl) ?_
  refine hJ19 _ _ ⟨g77, H.keep _ ⟨rfl, rfl, rfl, rfl, rfl, rfl, rfl, trivial⟩, (St.pickRL V trivial [0, 1, 2, 3] rfl (by decide))⟩
theorem qxe {fop : Nat → Nat → Nat} {fb : Bool → Bool → Bool} (h : BOp fop fb) {b1 b2 : Bool} {y1 y2 : Nat} {k : Nat} (h1 : (words y1).length ≤ k) (h2 : (words y2).length ≤ k) : (words (xd fop fb b1 y1 b2 y2)).length ≤ k := by
  have := val_lt (qxd (b1 := b1) (y1 := y1) (b2 := b2) (y2 := y2) h (max (words y1).length (words y2).length))
  rw [qxb] at this
  exact Nat.le_trans (words_length_le this) (by omega)
def kl (fop : Nat → Nat → Nat) (fb : Bool → Bool → Bool) (p q : Q6) : Q6 × Int :=
  if kq p q = 0 then ja (fb p.b1 q.b1) (xd fop fb p.b1 (val p.t1 - p.b1.toNat) q.b1 (val q.t1 - q.b1.toNat) + (fb p.b1 q.b1).toNat) else (Q6.zero, kq p q)
theorem zoe {fop : Nat → Nat → Nat} {fb : Bool → Bool → Bool} {p q : Q6} (h : (kq p q != 0) = true) : kl fop fb p q = (Q6.zero, kq p q) := by unfold kl; rw [if_neg (bne_iff_ne.1 h)]
theorem qmj {fop : Nat → Nat → Nat} {fb : Bool → Bool → Bool} {b1 b2 : Bool} {x1 x2 : Nat} (h : kq (Q6.whole b1 x1) (Q6.whole b2 x2) = 0) : kl fop fb (Q6.whole b1 x1) (Q6.whole b2 x2) = ja (fb b1 b2) (xd fop fb b1 (x1 - b1.toNat) b2 (x2 - b2.toNat) + (fb b1 b2).toNat) := by
  unfold kl; rw [if_pos h]; simp only [Q6.whole, val_words]
theorem qxf (p q : Q6) : (kq p q = 0 ∧ jv p = true ∧ jv q = true) ∨ (kq p q != 0) = true := by
  unfold kq
  by_cases h1 : je p = true ∧ je q = true
  · rw [if_pos h1]
    by_cases h2 : jv p = true ∧ jv q = true
    · rw [if_pos h2]; exact .inl ⟨rfl, h2⟩
    · rw [if_neg h2]; exact .inr (by decide)
  · rw [if_neg h1]; exact .inr (by decide)
theorem qad {b : Bool} {x k : Nat} (h : (words x).length ≤ k) : (words (x - b.toNat)).length ≤ k := Nat.le_trans (words_mono (Nat.sub_le x b.toNat)) h
theorem BiJ_isS_26 : IsS Tryz.prog 26 6 := ⟨⟨_, Tryz.underlying26⟩, by kernel_rfl⟩
theorem zof {w : World} {p q : Q6} {a1 a2 a3 a4 : Option Addr} {ac1 ac2 ac3 ac4 : Nat} (ha : Nm w p a1 ac1 a2 ac2 a3 ac3 a4 ac4) (hl : LenQ p) {u1 u2 u3 u4 : Option Addr} {uc1 uc2 uc3 uc4 : Nat} (hu : Nm w q u1 uc1 u2 uc2 u3 uc3 u4 uc4) (hm : LenQ q) {F : FuncId} {fop : Nat → Nat → Nat} {fb : Bool → Bool → Bool} (hF : Fun2 F fop) (hB : BOp fop fb) (hw : (kq p q != 0) = true) : Calls Tryz.prog 35 #[.func (.func F) #[] #[], jx p a1 ac1 a2 ac2 a3 ac3 a4 ac4, jx q u1 uc1 u2 uc2 u3 uc3 u4 uc4] w (AnsN w (kl fop fb p q)) := by
 have V : St w w [] [(u4, q.q2), (u3, q.t2), (u2, q.q1), (u1, q.t1), (a4, p.q2), (a3, p.t2), (a2, p.q1), (a1, p.t1)] [] := ((((((((St.start w).addR ha.s1.rd).addR ha.s2.rd).addR ha.s3.rd).addR ha.s4.rd).addR hu.s1.rd).addR hu.s2.rd).addR hu.s3.rd).addR hu.s4.rd
 refine qy (l := [(0, .func (.func F) #[] #[]), (1, .agg #[.bool p.b1, .slice a1 p.t1.length ac1, .slice a2 p.q1.length ac2, .bool p.b2, .slice a3 p.t2.length ac3, .slice a4 p.q2.length ac4]), (2, .agg #[.bool q.b1, .slice u1 q.t1.length uc1, .slice u2 q.q1.length uc2, .bool q.b2, .slice u3 q.t2.length uc3, .slice u4 q.q2.length uc4])]) Tryz.func35 rfl Tryz.ntmps35 rfl rfl ?_
 intro Q hret hnorm hP a H
 refine wsk fun K1 hK1 => wrl (qn H V rfl rfl rfl pg (qw rfl rfl) rfl ?_)
 intro g2 w3 V a H
 refine qn H V rfl rfl rfl pg (qw rfl rfl) rfl ?_
 intro g4 w5 V a H
 refine qn (vs := [.bool false, .slice none 0 0, .slice none 0 0, .bool false, .slice none 0 0, .slice none 0 0]) (t := 26) H V rfl rfl rfl pg (ql (z := .agg #[.bool false, .slice none 0 0, .slice none 0 0, .bool false, .slice none 0 0, .slice none 0 0]) (by kernel_rfl) rfl) rfl ?_
 intro g6 w7 V a H
 refine sda H λa H↦?_
 refine qa (hK1 _ _ (wsk fun K8 hK8 => wsk fun K9 hK9 => wrl (sdo H (qk V BiJ_isS_26 rfl 2 rfl (cs := [.bool p.b1, .slice a1 p.t1.length ac1, .slice a2 p.q1.length ac2, .bool p.b2, .slice a3 p.t2.length ac3, .slice a4 p.q2.length ac4]) rfl rfl) λa H↦?_)))
 refine sdo H (qk V BiJ_isS_26 rfl 1 rfl (cs := [.bool q.b1, .slice u1 q.t1.length uc1, .slice u2 q.q1.length uc2, .bool q.b2, .slice u3 q.t2.length uc3, .slice u4 q.q2.length uc4]) rfl rfl) λa H↦?_
 refine qn (vs := [.bool p.b1, .slice a1 p.t1.length ac1, .slice a2 p.q1.length ac2, .bool p.b2, .slice a3 p.t2.length ac3, .slice a4 p.q2.length ac4, .bool q.b1, .slice u1 q.t1.length uc1, .slice u2 q.q1.length uc2, .bool q.b2, .slice u3 q.t2.length uc3, .slice u4 q.q2.length uc4]) (t := 26) H V rfl rfl rfl (fun g => .slice (some ⟨g, 0, none⟩) 2 2) (zx rfl (by kernel_rfl)) rfl ?_
 intro g10 w11 V a H
 refine qg H rfl rfl rfl (qb  rfl rfl (fun w => by kernel_rfl)) (qra (show Nm _ p a1 ac1 a2 ac2 a3 ac3 a4 ac4 from ⟨⟨(V.rd 7 rfl), ha.s1.nil, ha.s1.cap⟩, ⟨(V.rd 6 rfl), ha.s2.nil, ha.s2.cap⟩, ⟨(V.rd 5 rfl), ha.s3.nil, ha.s3.cap⟩, ⟨(V.rd 4 rfl), ha.s4.nil, ha.s4.cap⟩⟩) hl (show Nm _ q u1 uc1 u2 uc2 u3 uc3 u4 uc4 from ⟨⟨(V.rd 3 rfl), hu.s1.nil, hu.s1.cap⟩, ⟨(V.rd 2 rfl), hu.s2.nil, hu.s2.cap⟩, ⟨(V.rd 1 rfl), hu.s3.nil, hu.s3.cap⟩, ⟨(V.rd 0 rfl), hu.s4.nil, hu.s4.cap⟩⟩) hm (V.blk 0 rfl) rfl) ?_
 rintro _ w13 ⟨rfl, hb12⟩
 replace V := V.call hb12
 refine ⟨_, rfl, ?_⟩
 intro a H
 refine sda H λa H↦?_
 refine qa (hK9 _ _ (wsk fun K14 hK14 => wrl (sdm H λa H↦?_)))
 refine sdo (v := .bool true) H (qe rfl rfl (fun w => (jd w).trans (by rw [show ((kq p q != 0)) = true from hw]))) λa H↦?_
 refine qa (hK14 _ _ (wp_cond_true (H.ev rfl) ?_))
 refine wsk fun K15 hK15 => wrl (sdo (v := .agg #[.bool false, .slice none 0 0, .slice none 0 0, .bool false, .slice none 0 0, .slice none 0 0]) H (za rfl (fun w => by kernel_rfl)) λa H↦?_)
 refine sdm H λa H↦?_
 refine qr (us := [.bool false, .slice none 0 0, .slice none 0 0, .bool false, .slice none 0 0, .slice none 0 0]) H V rfl rfl (qi rfl rfl rfl (by kernel_rfl) V 1 rfl rfl rfl) 1 rfl rfl rfl rfl ?_
 intro w16 V
 refine sda H λa H↦?_
 refine qa (hK15 _ _ (wp_ret (hret _ _ (en2 H rfl (qx V BiJ_isS_26 rfl 1 rfl (cs := [.bool false, .slice none 0 0, .slice none 0 0, .bool false, .slice none 0 0, .slice none 0 0]) rfl rfl) (qj rfl) ?_))))
 rw [zoe hw]
 exact ⟨none, 0, none, 0, none, 0, none, 0, rfl, ⟨(Sc.none _), (Sc.none _), (Sc.none _), (Sc.none _)⟩, V.bel⟩
theorem zog {w : World} {b1 b2 : Bool} {x1 x2 : Nat} {a1 a2 a3 a4 : Option Addr} {ac1 ac2 ac3 ac4 : Nat} (ha : Nm w (Q6.whole b1 x1) a1 ac1 a2 ac2 a3 ac3 a4 ac4) (hl : LenQ (Q6.whole b1 x1)) {u1 u2 u3 u4 : Option Addr} {uc1 uc2 uc3 uc4 : Nat} (hu : Nm w (Q6.whole b2 x2) u1 uc1 u2 uc2 u3 uc3 u4 uc4) (hm : LenQ (Q6.whole b2 x2)) {F : FuncId} {fop : Nat → Nat → Nat} {fb : Bool → Bool → Bool} (hF : Fun2 F fop) (hB : BOp fop fb) (hw : kq (Q6.whole b1 x1) (Q6.whole b2 x2) = 0) (hx1 : (words x1).length ≤ 512) (hb1 : b1.toNat ≤ x1) (hx2 : (words x2).length ≤ 512) (hb2 : b2.toNat ≤ x2) : Calls Tryz.prog 35 #[.func (.func F) #[] #[], jx (Q6.whole b1 x1) a1 ac1 a2 ac2 a3 ac3 a4 ac4, jx (Q6.whole b2 x2) u1 uc1 u2 uc2 u3 uc3 u4 uc4] w (AnsN w (kl fop fb (Q6.whole b1 x1) (Q6.whole b2 x2))) := by
 have V : St w w [] [(u4, [1]), (u3, []), (u2, [1]), (u1, words x2), (a4, [1]), (a3, []), (a2, [1]), (a1, words x1)] [] := ((((((((St.start w).addR ha.s1.rd).addR ha.s2.rd).addR ha.s3.rd).addR ha.s4.rd).addR hu.s1.rd).addR hu.s2.rd).addR hu.s3.rd).addR hu.s4.rd
 refine qy (l := [(0, .func (.func F) #[] #[]), (1, .agg #[.bool b1, .slice a1 ((words x1).length) ac1, .slice a2 1 ac2, .bool false, .slice a3 0 ac3, .slice a4 1 ac4]), (2, .agg #[.bool b2, .slice u1 ((words x2).length) uc1, .slice u2 1 uc2, .bool false, .slice u3 0 uc3, .slice u4 1 uc4])]) Tryz.func35 rfl Tryz.ntmps35 rfl rfl ?_
 intro Q hret hnorm hP a H
 refine wsk fun K1 hK1 => wrl (qn H V rfl rfl rfl pg (qw rfl rfl) rfl ?_)
 intro g2 w3 V a H
 refine qn H V rfl rfl rfl pg (qw rfl rfl) rfl ?_
 intro g4 w5 V a H
 refine qn (vs := [.bool false, .slice none 0 0, .slice none 0 0, .bool false, .slice none 0 0, .slice none 0 0]) (t := 26) H V rfl rfl rfl pg (ql (z := .agg #[.bool false, .slice none 0 0, .slice none 0 0, .bool false, .slice none 0 0, .slice none 0 0]) (by kernel_rfl) rfl) rfl ?_
 intro g6 w7 V a H
 refine sda H λa H↦?_
 refine qa (hK1 _ _ (wsk fun K8 hK8 => wsk fun K9 hK9 => wrl (sdo H (qk V BiJ_isS_26 rfl 2 rfl (cs := [.bool b1, .slice a1 ((words x1).length) ac1, .slice a2 1 ac2, .bool false, .slice a3 0 ac3, .slice a4 1 ac4]) rfl rfl) λa H↦?_)))
 refine sdo H (qk V BiJ_isS_26 rfl 1 rfl (cs := [.bool b2, .slice u1 ((words x2).length) uc1, .slice u2 1 uc2, .bool false, .slice u3 0 uc3, .slice u4 1 uc4]) rfl rfl) λa H↦?_
 refine qn (vs := [.bool b1, .slice a1 ((words x1).length) ac1, .slice a2 1 ac2, .bool false, .slice a3 0 ac3, .slice a4 1 ac4, .bool b2, .slice u1 ((words x2).length) uc1, .slice u2 1 uc2, .bool false, .slice u3 0 uc3, .slice u4 1 uc4]) (t := 26) H V rfl rfl rfl (fun g => .slice (some ⟨g, 0, none⟩) 2 2) (zx rfl (by kernel_rfl)) rfl ?_
 intro g10 w11 V a H
 refine qg H rfl rfl rfl (qb  rfl rfl (fun w => by kernel_rfl)) (qra (show Nm _ (Q6.whole b1 x1) a1 ac1 a2 ac2 a3 ac3 a4 ac4 from ⟨⟨(V.rd 7 rfl), ha.s1.nil, ha.s1.cap⟩, ⟨(V.rd 6 rfl), ha.s2.nil, ha.s2.cap⟩, ⟨(V.rd 5 rfl), ha.s3.nil, ha.s3.cap⟩, ⟨(V.rd 4 rfl), ha.s4.nil, ha.s4.cap⟩⟩) hl (show Nm _ (Q6.whole b2 x2) u1 uc1 u2 uc2 u3 uc3 u4 uc4 from ⟨⟨(V.rd 3 rfl), hu.s1.nil, hu.s1.cap⟩, ⟨(V.rd 2 rfl), hu.s2.nil, hu.s2.cap⟩, ⟨(V.rd 1 rfl), hu.s3.nil, hu.s3.cap⟩, ⟨(V.rd 0 rfl), hu.s4.nil, hu.s4.cap⟩⟩) hm (V.blk 0 rfl) hw) ?_
 rintro _ w13 ⟨rfl, hb12⟩
 replace V := V.call hb12
 refine ⟨_, rfl, ?_⟩
 intro a H
 refine sda H λa H↦?_
 refine qa (hK9 _ _ (wsk fun K14 hK14 => wrl (sdm H λa H↦?_)))
 refine sdo (v := .bool false) H (qe rfl rfl (fun w => by kernel_rfl)) λa H↦?_
 refine qa (hK14 _ _ (wp_cond_false (H.ev rfl) ?_))
 refine wp_skip (hK8 _ _ (wsk fun K15 hK15 => jc (S := fun w1 => St w w1 [(g10, [.bool b1, .slice a1 ((words x1).length) ac1, .slice a2 1 ac2, .bool false, .slice a3 0 ac3, .slice a4 1 ac4, .bool b2, .slice u1 ((words x2).length) uc1, .slice u2 1 uc2, .bool false, .slice u3 0 uc3, .slice u4 1 uc4]), (g4, [.bool b2, .slice u1 ((words x2).length) uc1, .slice u2 1 uc2, .bool false, .slice u3 0 uc3, .slice u4 1 uc4]), (g2, [.bool b1, .slice a1 ((words x1).length) ac1, .slice a2 1 ac2, .bool false, .slice a3 0 ac3, .slice a4 1 ac4])] [(u4, [1]), (u3, []), (u2, [1]), (u1, words x2), (a4, [1]), (a3, []), (a2, [1]), (a1, words x1)] []) (by kernel_rfl) ?_))
 replace V := V.drew
 refine qh H 0 rfl rfl rfl rfl hP (V.partD (.cons_cons _ (.cons _ (.cons_cons _ (.cons_cons _ .slnil)))) 0 rfl (.refl _)) (fun w1 V => qk V BiJ_isS_26 rfl 2 rfl (cs := [.bool b1, .slice a1 ((words x1).length) ac1, .slice a2 1 ac2, .bool false, .slice a3 0 ac3, .slice a4 1 ac4]) rfl rfl) λa H↦?_
 refine qh H 2 rfl rfl rfl rfl hP (V.partD (.cons_cons _ (.cons _ (.cons_cons _ (.cons_cons _ .slnil)))) 0 rfl (.refl _)) (fun w1 V => qz rfl) λa H↦?_
 refine qh H 3 rfl rfl rfl rfl hP (V.partD (.cons_cons _ (.cons _ (.cons_cons _ (.cons_cons _ .slnil)))) 0 rfl (.refl _)) (fun w1 V => qk V BiJ_isS_26 rfl 1 rfl (cs := [.bool b2, .slice u1 ((words x2).length) uc1, .slice u2 1 uc2, .bool false, .slice u3 0 uc3, .slice u4 1 uc4]) rfl rfl) λa H↦?_
 refine qt (by kernel_rfl) (zf H 1 rfl rfl rfl rfl (qb  rfl rfl (fun w => by kernel_rfl)) (ym (show Nm _ (Q6.whole b1 x1) a1 ac1 a2 ac2 a3 ac3 a4 ac4 from ⟨⟨(V.rd 7 rfl), ha.s1.nil, ha.s1.cap⟩, ⟨(V.rd 6 rfl), ha.s2.nil, ha.s2.cap⟩, ⟨(V.rd 5 rfl), ha.s3.nil, ha.s3.cap⟩, ⟨(V.rd 4 rfl), ha.s4.nil, ha.s4.cap⟩⟩) hx1 hb1) ?_)
 rintro _ w20 ⟨ro16, rc17, rfl, hs18, hb19⟩
 replace V := V.call hb19
 replace V := V.addR hs18.rd
 refine ⟨_, rfl, (V.partD (.cons_cons _ (.cons _ (.cons_cons _ (.cons_cons _ .slnil)))) 1 rfl (.refl _)), ?_⟩
 intro a H
 refine qt (by kernel_rfl) (zf H 4 rfl rfl rfl rfl (qb  rfl rfl (fun w => by kernel_rfl)) (ym (show Nm _ (Q6.whole b2 x2) u1 uc1 u2 uc2 u3 uc3 u4 uc4 from ⟨⟨(V.rd 4 rfl), hu.s1.nil, hu.s1.cap⟩, ⟨(V.rd 3 rfl), hu.s2.nil, hu.s2.cap⟩, ⟨(V.rd 2 rfl), hu.s3.nil, hu.s3.cap⟩, ⟨(V.rd 1 rfl), hu.s4.nil, hu.s4.cap⟩⟩) hx2 hb2) ?_)
 rintro _ w25 ⟨ro21, rc22, rfl, hs23, hb24⟩
 replace V := V.call hb24
 replace V := V.addR hs23.rd
 refine ⟨_, rfl, (V.partD (.cons_cons _ (.cons _ (.cons_cons _ (.cons_cons _ .slnil)))) 2 rfl (.refl _)), ?_⟩
 intro a H
 refine qt (by kernel_rfl) (zf H 5 rfl rfl rfl rfl (qb  rfl rfl (fun w => by kernel_rfl)) (qua hF hB (V.rd 1 rfl) (V.rd 0 rfl) (Nat.le_trans (qad hx1) (by decide)) (Nat.le_trans (qad hx2) (by decide))) ?_)
 rintro _ w30 ⟨ro26, rc27, rfl, hs28, hb29⟩
 replace V := V.call hb29
 replace V := V.addR hs28.rd
 refine ⟨_, rfl, (V.partD (.cons_cons _ (.cons _ (.cons_cons _ (.cons_cons _ .slnil)))) 3 rfl (.refl _)), ?_⟩
 intro a H
 refine qt (by kernel_rfl) (zf H 6 rfl rfl rfl rfl (qb  rfl rfl (fun w => by kernel_rfl)) (uz (b := (fb b1 b2)) ⟨(V.rd 0 rfl), hs28.nil, hs28.cap⟩ (qxe hB (qad hx1) (qad hx2))) ?_)
 rintro _ w34 ⟨p31_1, p31_c1, p31_2, p31_c2, p31_3, p31_c3, p31_4, p31_c4, rfl, hn32, hb33⟩
 replace V := V.call hb33
 replace V := V.addR hn32.s1.rd
 replace V := V.addR hn32.s2.rd
 replace V := V.addR hn32.s3.rd
 replace V := V.addR hn32.s4.rd
 refine ⟨_, rfl, (V.partD (.cons_cons _ (.cons _ (.cons_cons _ (.cons_cons _ .slnil)))) 7 rfl (.refl _)), ?_⟩
 intro a H
 refine qh (v := .agg #[.bool ((ja ((fb b1 b2)) (xd fop fb b1 (x1 - b1.toNat) b2 (x2 - b2.toNat) + ((fb b1 b2)).toNat)).1.b1), .slice p31_1 (((ja ((fb b1 b2)) (xd fop fb b1 (x1 - b1.toNat) b2 (x2 - b2.toNat) + ((fb b1 b2)).toNat)).1.t1).length) p31_c1, .slice p31_2 (((ja ((fb b1 b2)) (xd fop fb b1 (x1 - b1.toNat) b2 (x2 - b2.toNat) + ((fb b1 b2)).toNat)).1.q1).length) p31_c2, .bool ((ja ((fb b1 b2)) (xd fop fb b1 (x1 - b1.toNat) b2 (x2 - b2.toNat) + ((fb b1 b2)).toNat)).1.b2), .slice p31_3 (((ja ((fb b1 b2)) (xd fop fb b1 (x1 - b1.toNat) b2 (x2 - b2.toNat) + ((fb b1 b2)).toNat)).1.t2).length) p31_c3, .slice p31_4 (((ja ((fb b1 b2)) (xd fop fb b1 (x1 - b1.toNat) b2 (x2 - b2.toNat) + ((fb b1 b2)).toNat)).1.q2).length) p31_c4]) H 7 rfl rfl rfl rfl hP (V.partD (.cons_cons _ (.cons _ (.cons_cons _ (.cons_cons _ .slnil)))) 7 rfl (.refl _)) (fun w1 V => qm (vs := [.agg #[.bool ((ja ((fb b1 b2)) (xd fop fb b1 (x1 - b1.toNat) b2 (x2 - b2.toNat) + ((fb b1 b2)).toNat)).1.b1), .slice p31_1 (((ja ((fb b1 b2)) (xd fop fb b1 (x1 - b1.toNat) b2 (x2 - b2.toNat) + ((fb b1 b2)).toNat)).1.t1).length) p31_c1, .slice p31_2 (((ja ((fb b1 b2)) (xd fop fb b1 (x1 - b1.toNat) b2 (x2 - b2.toNat) + ((fb b1 b2)).toNat)).1.q1).length) p31_c2, .bool ((ja ((fb b1 b2)) (xd fop fb b1 (x1 - b1.toNat) b2 (x2 - b2.toNat) + ((fb b1 b2)).toNat)).1.b2), .slice p31_3 (((ja ((fb b1 b2)) (xd fop fb b1 (x1 - b1.toNat) b2 (x2 - b2.toNat) + ((fb b1 b2)).toNat)).1.t2).length) p31_c3, .slice p31_4 (((ja ((fb b1 b2)) (xd fop fb b1 (x1 - b1.toNat) b2 (x2 - b2.toNat) + ((fb b1 b2)).toNat)).1.q2).length) p31_c4], .int .i64 ((ja ((fb b1 b2)) (xd fop fb b1 (x1 - b1.toNat) b2 (x2 - b2.toNat) + ((fb b1 b2)).toNat)).2)]) rfl rfl) λa H↦?_
 refine qh (v := .int .i64 ((ja ((fb b1 b2)) (xd fop fb b1 (x1 - b1.toNat) b2 (x2 - b2.toNat) + ((fb b1 b2)).toNat)).2)) H 8 rfl rfl rfl rfl hP (V.partD (.cons_cons _ (.cons _ (.cons_cons _ (.cons_cons _ .slnil)))) 7 rfl (.refl _)) (fun w1 V => qm (vs := [.agg #[.bool ((ja ((fb b1 b2)) (xd fop fb b1 (x1 - b1.toNat) b2 (x2 - b2.toNat) + ((fb b1 b2)).toNat)).1.b1), .slice p31_1 (((ja ((fb b1 b2)) (xd fop fb b1 (x1 - b1.toNat) b2 (x2 - b2.toNat) + ((fb b1 b2)).toNat)).1.t1).length) p31_c1, .slice p31_2 (((ja ((fb b1 b2)) (xd fop fb b1 (x1 - b1.toNat) b2 (x2 - b2.toNat) + ((fb b1 b2)).toNat)).1.q1).length) p31_c2, .bool ((ja ((fb b1 b2)) (xd fop fb b1 (x1 - b1.toNat) b2 (x2 - b2.toNat) + ((fb b1 b2)).toNat)).1.b2), .slice p31_3 (((ja ((fb b1 b2)) (xd fop fb b1 (x1 - b1.toNat) b2 (x2 - b2.toNat) + ((fb b1 b2)).toNat)).1.t2).length) p31_c3, .slice p31_4 (((ja ((fb b1 b2)) (xd fop fb b1 (x1 - b1.toNat) b2 (x2 - b2.toNat) + ((fb b1 b2)).toNat)).1.q2).length) p31_c4], .int .i64 ((ja ((fb b1 b2)) (xd fop fb b1 (x1 - b1.toNat) b2 (x2 - b2.toNat) + ((fb b1 b2)).toNat)).2)]) rfl rfl) λa H↦?_
 refine qt (by kernel_rfl) (zp (us := [.bool ((ja ((fb b1 b2)) (xd fop fb b1 (x1 - b1.toNat) b2 (x2 - b2.toNat) + ((fb b1 b2)).toNat)).1.b1), .slice p31_1 (((ja ((fb b1 b2)) (xd fop fb b1 (x1 - b1.toNat) b2 (x2 - b2.toNat) + ((fb b1 b2)).toNat)).1.t1).length) p31_c1, .slice p31_2 (((ja ((fb b1 b2)) (xd fop fb b1 (x1 - b1.toNat) b2 (x2 - b2.toNat) + ((fb b1 b2)).toNat)).1.q1).length) p31_c2, .bool ((ja ((fb b1 b2)) (xd fop fb b1 (x1 - b1.toNat) b2 (x2 - b2.toNat) + ((fb b1 b2)).toNat)).1.b2), .slice p31_3 (((ja ((fb b1 b2)) (xd fop fb b1 (x1 - b1.toNat) b2 (x2 - b2.toNat) + ((fb b1 b2)).toNat)).1.t2).length) p31_c3, .slice p31_4 (((ja ((fb b1 b2)) (xd fop fb b1 (x1 - b1.toNat) b2 (x2 - b2.toNat) + ((fb b1 b2)).toNat)).1.q2).length) p31_c4]) H V 9 rfl rfl rfl (qi rfl rfl rfl (by kernel_rfl) V 1 rfl rfl rfl) 1 rfl rfl rfl rfl ?_)
 intro w35 V
 refine ⟨(V.partD (.cons_cons _ (.cons _ (.cons_cons _ (.cons_cons _ .slnil)))) 7 rfl (.refl _)), ?_⟩
 refine qh H 10 rfl rfl rfl rfl hP (V.partD (.cons_cons _ (.cons _ (.cons_cons _ (.cons_cons _ .slnil)))) 7 rfl (.refl _)) (fun w1 V => zh rfl) λa H↦?_
 refine zn (by kernel_rfl) ?_
 refine hK15 _ _ (wp_ret (hret _ _ (en2 H rfl (qx V BiJ_isS_26 rfl 1 rfl (cs := [.bool ((ja ((fb b1 b2)) (xd fop fb b1 (x1 - b1.toNat) b2 (x2 - b2.toNat) + ((fb b1 b2)).toNat)).1.b1), .slice p31_1 (((ja ((fb b1 b2)) (xd fop fb b1 (x1 - b1.toNat) b2 (x2 - b2.toNat) + ((fb b1 b2)).toNat)).1.t1).length) p31_c1, .slice p31_2 (((ja ((fb b1 b2)) (xd fop fb b1 (x1 - b1.toNat) b2 (x2 - b2.toNat) + ((fb b1 b2)).toNat)).1.q1).length) p31_c2, .bool ((ja ((fb b1 b2)) (xd fop fb b1 (x1 - b1.toNat) b2 (x2 - b2.toNat) + ((fb b1 b2)).toNat)).1.b2), .slice p31_3 (((ja ((fb b1 b2)) (xd fop fb b1 (x1 - b1.toNat) b2 (x2 - b2.toNat) + ((fb b1 b2)).toNat)).1.t2).length) p31_c3, .slice p31_4 (((ja ((fb b1 b2)) (xd fop fb b1 (x1 - b1.toNat) b2 (x2 - b2.toNat) + ((fb b1 b2)).toNat)).1.q2).length) p31_c4]) rfl rfl) (qj rfl) ?_)))
 rw [qmj hw]
 exact ⟨p31_1, p31_c1, p31_2, p31_c2, p31_3, p31_c3, p31_4, p31_c4, rfl, ⟨⟨(V.rd 3 rfl), hn32.s1.nil, hn32.s1.cap⟩, ⟨(V.rd 2 rfl), hn32.s2.nil, hn32.s2.cap⟩, ⟨(V.rd 1 rfl), hn32.s3.nil, hn32.s3.cap⟩, ⟨(V.rd 0 rfl), hn32.s4.nil, hn32.s4.cap⟩⟩, V.bel⟩
/-- A number is told by its parts: whole, or refused. -/
theorem qeb {q : Q6} {w : World} {a1 a2 a3 a4 : Option Addr} {ac1 ac2 ac3 ac4 : Nat} (ha : Nm w q a1 ac1 a2 ac2 a3 ac3 a4 ac4) (h : jv q = true) : ∃ b x, q = Q6.whole b x ∧ (words x).length ≤ 512 ∧ b.toNat ≤ x := by
 obtain ⟨x, h1, h2, h3⟩ := zbi ha.s1.rd.dig ha.s4.rd.dig h
 exact ⟨q.b1, x, h1, h2, h3⟩
theorem zoh {w : World} {p q : Q6} {a1 a2 a3 a4 : Option Addr} {ac1 ac2 ac3 ac4 : Nat} (ha : Nm w p a1 ac1 a2 ac2 a3 ac3 a4 ac4) (hl : LenQ p) {u1 u2 u3 u4 : Option Addr} {uc1 uc2 uc3 uc4 : Nat} (hu : Nm w q u1 uc1 u2 uc2 u3 uc3 u4 uc4) (hm : LenQ q) {F : FuncId} {fop : Nat → Nat → Nat} {fb : Bool → Bool → Bool} (hF : Fun2 F fop) (hB : BOp fop fb) : Calls Tryz.prog 35 #[.func (.func F) #[] #[], jx p a1 ac1 a2 ac2 a3 ac3 a4 ac4, jx q u1 uc1 u2 uc2 u3 uc3 u4 uc4] w (AnsN w (kl fop fb p q)) := by
 rcases qxf p q with ⟨hw, h1, h2⟩ | hw
 ·
  obtain ⟨b1, x1, rfl, hx1, hb1⟩ := qeb ha h1
  obtain ⟨b2, x2, rfl, hx2, hb2⟩ := qeb hu h2
  exact zog ha hl hu hm hF hB hw hx1 hb1 hx2 hb2
 ·
  exact zof ha hl hu hm hF hB hw
theorem zwi {w : World} {p q : Q6} {a1 a2 a3 a4 : Option Addr} {ac1 ac2 ac3 ac4 : Nat} (ha : Nm w p a1 ac1 a2 ac2 a3 ac3 a4 ac4) (hl : LenQ p) {u1 u2 u3 u4 : Option Addr} {uc1 uc2 uc3 uc4 : Nat} (hu : Nm w q u1 uc1 u2 uc2 u3 uc3 u4 uc4) (hm : LenQ q) : Calls Tryz.prog 11 #[jx p a1 ac1 a2 ac2 a3 ac3 a4 ac4, jx q u1 uc1 u2 uc2 u3 uc3 u4 uc4] w (AnsN w (kl (fun x y => x ||| y) (fun b c => b || c) p q)) := by
 have V : St w w [] [(u4, q.q2), (u3, q.t2), (u2, q.q1), (u1, q.t1), (a4, p.q2), (a3, p.t2), (a2, p.q1), (a1, p.t1)] [] := ((((((((St.start w).addR ha.s1.rd).addR ha.s2.rd).addR ha.s3.rd).addR ha.s4.rd).addR hu.s1.rd).addR hu.s2.rd).addR hu.s3.rd).addR hu.s4.rd
 refine qy (l := [(0, .agg #[.bool p.b1, .slice a1 p.t1.length ac1, .slice a2 p.q1.length ac2, .bool p.b2, .slice a3 p.t2.length ac3, .slice a4 p.q2.length ac4]), (1, .agg #[.bool q.b1, .slice u1 q.t1.length uc1, .slice u2 q.q1.length uc2, .bool q.b2, .slice u3 q.t2.length uc3, .slice u4 q.q2.length uc4])]) Tryz.func11 rfl Tryz.ntmps11 rfl rfl ?_
 intro Q hret hnorm hP a H
 refine wsk fun K1 hK1 => wrl (qn H V rfl rfl rfl pg (qw rfl rfl) rfl ?_)
 intro g2 w3 V a H
 refine qn H V rfl rfl rfl pg (qw rfl rfl) rfl ?_
 intro g4 w5 V a H
 refine qn (vs := [.bool false, .slice none 0 0, .slice none 0 0, .bool false, .slice none 0 0, .slice none 0 0]) (t := 26) H V rfl rfl rfl pg (ql (z := .agg #[.bool false, .slice none 0 0, .slice none 0 0, .bool false, .slice none 0 0, .slice none 0 0]) (by kernel_rfl) rfl) rfl ?_
 intro g6 w7 V a H
 refine sda H λa H↦?_
 refine qa (hK1 _ _ (wsk fun K8 hK8 => wrl (sdo H (qk V BiJ_isS_26 rfl 2 rfl (cs := [.bool p.b1, .slice a1 p.t1.length ac1, .slice a2 p.q1.length ac2, .bool p.b2, .slice a3 p.t2.length ac3, .slice a4 p.q2.length ac4]) rfl rfl) λa H↦?_)))
 refine sdo H (qk V BiJ_isS_26 rfl 1 rfl (cs := [.bool q.b1, .slice u1 q.t1.length uc1, .slice u2 q.q1.length uc2, .bool q.b2, .slice u3 q.t2.length uc3, .slice u4 q.q2.length uc4]) rfl rfl) λa H↦?_
 refine qg H rfl rfl rfl (qb  rfl rfl (fun w => by kernel_rfl)) (zoh (show Nm _ p a1 ac1 a2 ac2 a3 ac3 a4 ac4 from ⟨⟨(V.rd 7 rfl), ha.s1.nil, ha.s1.cap⟩, ⟨(V.rd 6 rfl), ha.s2.nil, ha.s2.cap⟩, ⟨(V.rd 5 rfl), ha.s3.nil, ha.s3.cap⟩, ⟨(V.rd 4 rfl), ha.s4.nil, ha.s4.cap⟩⟩) hl (show Nm _ q u1 uc1 u2 uc2 u3 uc3 u4 uc4 from ⟨⟨(V.rd 3 rfl), hu.s1.nil, hu.s1.cap⟩, ⟨(V.rd 2 rfl), hu.s2.nil, hu.s2.cap⟩, ⟨(V.rd 1 rfl), hu.s3.nil, hu.s3.cap⟩, ⟨(V.rd 0 rfl), hu.s4.nil, hu.s4.cap⟩⟩) hm orFun or_op) ?_
 rintro _ w12 ⟨p9_1, p9_c1, p9_2, p9_c2, p9_3, p9_c3, p9_4, p9_c4, rfl, hn10, hb11⟩
 replace V := V.call hb11
 replace V := V.addR hn10.s1.rd
 replace V := V.addR hn10.s2.rd
 replace V := V.addR hn10.s3.rd
 replace V := V.addR hn10.s4.rd
 refine ⟨_, rfl, ?_⟩
 intro a H
 iterate 2 refine sdo H (qm (vs := [.agg #[.bool ((kl (fun x y => x ||| y) (fun b c => b || c) p q).1.b1), .slice p9_1 (((kl (fun x y => x ||| y) (fun b c => b || c) p q).1.t1).length) p9_c1, .slice p9_2 (((kl (fun x y => x ||| y) (fun b c => b || c) p q).1.q1).length) p9_c2, .bool ((kl (fun x y => x ||| y) (fun b c => b || c) p q).1.b2), .slice p9_3 (((kl (fun x y => x ||| y) (fun b c => b || c) p q).1.t2).length) p9_c3, .slice p9_4 (((kl (fun x y => x ||| y) (fun b c => b || c) p q).1.q2).length) p9_c4], .int .i64 ((kl (fun x y => x ||| y) (fun b c => b || c) p q).2)]) rfl rfl) λa H↦?_
 refine qr (us := [.bool ((kl (fun x y => x ||| y) (fun b c => b || c) p q).1.b1), .slice p9_1 (((kl (fun x y => x ||| y) (fun b c => b || c) p q).1.t1).length) p9_c1, .slice p9_2 (((kl (fun x y => x ||| y) (fun b c => b || c) p q).1.q1).length) p9_c2, .bool ((kl (fun x y => x ||| y) (fun b c => b || c) p q).1.b2), .slice p9_3 (((kl (fun x y => x ||| y) (fun b c => b || c) p q).1.t2).length) p9_c3, .slice p9_4 (((kl (fun x y => x ||| y) (fun b c => b || c) p q).1.q2).length) p9_c4]) H V rfl rfl (qi rfl rfl rfl (by kernel_rfl) V 0 rfl rfl rfl) 0 rfl rfl rfl rfl ?_
 intro w13 V
 refine sda H λa H↦?_
 refine qa (hK8 _ _ (wp_ret (hret _ _ (en2 H rfl (qx V BiJ_isS_26 rfl 0 rfl (cs := [.bool ((kl (fun x y => x ||| y) (fun b c => b || c) p q).1.b1), .slice p9_1 (((kl (fun x y => x ||| y) (fun b c => b || c) p q).1.t1).length) p9_c1, .slice p9_2 (((kl (fun x y => x ||| y) (fun b c => b || c) p q).1.q1).length) p9_c2, .bool ((kl (fun x y => x ||| y) (fun b c => b || c) p q).1.b2), .slice p9_3 (((kl (fun x y => x ||| y) (fun b c => b || c) p q).1.t2).length) p9_c3, .slice p9_4 (((kl (fun x y => x ||| y) (fun b c => b || c) p q).1.q2).length) p9_c4]) rfl rfl) (qj rfl) ?_))))
 exact ⟨p9_1, p9_c1, p9_2, p9_c2, p9_3, p9_c3, p9_4, p9_c4, rfl, ⟨⟨(V.rd 3 rfl), hn10.s1.nil, hn10.s1.cap⟩, ⟨(V.rd 2 rfl), hn10.s2.nil, hn10.s2.cap⟩, ⟨(V.rd 1 rfl), hn10.s3.nil, hn10.s3.cap⟩, ⟨(V.rd 0 rfl), hn10.s4.nil, hn10.s4.cap⟩⟩, V.bel⟩
theorem zoi {w : World} {b : Bool} {x : Nat} {a1 a2 a3 a4 : Option Addr} {ac1 ac2 ac3 ac4 : Nat} (ha : Nm w (Q6.whole b x) a1 ac1 a2 ac2 a3 ac3 a4 ac4) (hl : LenQ (Q6.whole b x))  (hw : ji (Q6.whole b x) = 0) (hx : (words x).length ≤ 512) (hb : b.toNat ≤ x) : Calls Tryz.prog 75 #[jx (Q6.whole b x) a1 ac1 a2 ac2 a3 ac3 a4 ac4] w (AnsN w (notQ (Q6.whole b x))) := by
 have V : St w w [] [(a4, [1]), (a3, []), (a2, [1]), (a1, words x)] [] := ((((St.start w).addR ha.s1.rd).addR ha.s2.rd).addR ha.s3.rd).addR ha.s4.rd
 refine qy (l := [(0, .agg #[.bool b, .slice a1 ((words x).length) ac1, .slice a2 1 ac2, .bool false, .slice a3 0 ac3, .slice a4 1 ac4])]) Tryz.func75 rfl Tryz.ntmps75 rfl rfl ?_
 intro Q hret hnorm hP a H
 refine wsk fun K1 hK1 => wrl (qn H V rfl rfl rfl pg (qw rfl rfl) rfl ?_)
 intro g2 w3 V a H
 refine qn (vs := [.bool false, .slice none 0 0, .slice none 0 0, .bool false, .slice none 0 0, .slice none 0 0]) (t := 26) H V rfl rfl rfl pg (ql (z := .agg #[.bool false, .slice none 0 0, .slice none 0 0, .bool false, .slice none 0 0, .slice none 0 0]) (by kernel_rfl) rfl) rfl ?_
 intro g4 w5 V a H
 refine sda H λa H↦?_
 refine qa (hK1 _ _ (wsk fun K6 hK6 => wsk fun K7 hK7 => wrl (sdo H (qk V BiJ_isS_26 rfl 1 rfl (cs := [.bool b, .slice a1 ((words x).length) ac1, .slice a2 1 ac2, .bool false, .slice a3 0 ac3, .slice a4 1 ac4]) rfl rfl) λa H↦?_)))
 refine qn (vs := [.bool b, .slice a1 ((words x).length) ac1, .slice a2 1 ac2, .bool false, .slice a3 0 ac3, .slice a4 1 ac4]) (t := 26) H V rfl rfl rfl (fun g => .slice (some ⟨g, 0, none⟩) 1 1) (zx rfl (by kernel_rfl)) rfl ?_
 intro g8 w9 V a H
 refine qg H rfl rfl rfl (qb  rfl rfl (fun w => by kernel_rfl)) (kf (show Nm _ (Q6.whole b x) a1 ac1 a2 ac2 a3 ac3 a4 ac4 from ⟨⟨(V.rd 3 rfl), ha.s1.nil, ha.s1.cap⟩, ⟨(V.rd 2 rfl), ha.s2.nil, ha.s2.cap⟩, ⟨(V.rd 1 rfl), ha.s3.nil, ha.s3.cap⟩, ⟨(V.rd 0 rfl), ha.s4.nil, ha.s4.cap⟩⟩) hl (V.blk 0 rfl) hw) ?_
 rintro _ w11 ⟨rfl, hb10⟩
 replace V := V.call hb10
 refine ⟨_, rfl, ?_⟩
 intro a H
 refine sda H λa H↦?_
 refine qa (hK7 _ _ (wsk fun K12 hK12 => wrl (sdm H λa H↦?_)))
 refine sdo (v := .bool false) H (qe rfl rfl (fun w => by kernel_rfl)) λa H↦?_
 refine qa (hK12 _ _ (wp_cond_false (H.ev rfl) ?_))
 refine wp_skip (hK6 _ _ (wsk fun K13 hK13 => wrl (sdo H (qk V BiJ_isS_26 rfl 2 rfl (cs := [.bool b, .slice a1 ((words x).length) ac1, .slice a2 1 ac2, .bool false, .slice a3 0 ac3, .slice a4 1 ac4]) rfl rfl) λa H↦?_)))
 refine qg H rfl rfl rfl (qb  rfl rfl (fun w => by kernel_rfl)) (ym (show Nm _ (Q6.whole b x) a1 ac1 a2 ac2 a3 ac3 a4 ac4 from ⟨⟨(V.rd 3 rfl), ha.s1.nil, ha.s1.cap⟩, ⟨(V.rd 2 rfl), ha.s2.nil, ha.s2.cap⟩, ⟨(V.rd 1 rfl), ha.s3.nil, ha.s3.cap⟩, ⟨(V.rd 0 rfl), ha.s4.nil, ha.s4.cap⟩⟩) hx hb) ?_
 rintro _ w18 ⟨ro14, rc15, rfl, hs16, hb17⟩
 replace V := V.call hb17
 replace V := V.addR hs16.rd
 refine ⟨_, rfl, ?_⟩
 intro a H
 refine qg H rfl rfl rfl (qb  rfl rfl (fun w => by kernel_rfl)) (zca) ?_
 rintro _ w20 ⟨rfl, hb19⟩
 replace V := V.call hb19
 refine ⟨_, rfl, ?_⟩
 intro a H
 refine qg H rfl rfl rfl (qb  rfl rfl (fun w => by kernel_rfl)) (uz (b := !b) ⟨(V.rd 0 rfl), hs16.nil, hs16.cap⟩ (qad hx)) ?_
 rintro _ w24 ⟨p21_1, p21_c1, p21_2, p21_c2, p21_3, p21_c3, p21_4, p21_c4, rfl, hn22, hb23⟩
 replace V := V.call hb23
 replace V := V.addR hn22.s1.rd
 replace V := V.addR hn22.s2.rd
 replace V := V.addR hn22.s3.rd
 replace V := V.addR hn22.s4.rd
 refine ⟨_, rfl, ?_⟩
 intro a H
 iterate 2 refine sdo H (qm (vs := [.agg #[.bool ((ja (!b) (x - b.toNat + (!b).toNat)).1.b1), .slice p21_1 (((ja (!b) (x - b.toNat + (!b).toNat)).1.t1).length) p21_c1, .slice p21_2 (((ja (!b) (x - b.toNat + (!b).toNat)).1.q1).length) p21_c2, .bool ((ja (!b) (x - b.toNat + (!b).toNat)).1.b2), .slice p21_3 (((ja (!b) (x - b.toNat + (!b).toNat)).1.t2).length) p21_c3, .slice p21_4 (((ja (!b) (x - b.toNat + (!b).toNat)).1.q2).length) p21_c4], .int .i64 ((ja (!b) (x - b.toNat + (!b).toNat)).2)]) rfl rfl) λa H↦?_
 refine qr (us := [.bool ((ja (!b) (x - b.toNat + (!b).toNat)).1.b1), .slice p21_1 (((ja (!b) (x - b.toNat + (!b).toNat)).1.t1).length) p21_c1, .slice p21_2 (((ja (!b) (x - b.toNat + (!b).toNat)).1.q1).length) p21_c2, .bool ((ja (!b) (x - b.toNat + (!b).toNat)).1.b2), .slice p21_3 (((ja (!b) (x - b.toNat + (!b).toNat)).1.t2).length) p21_c3, .slice p21_4 (((ja (!b) (x - b.toNat + (!b).toNat)).1.q2).length) p21_c4]) H V rfl rfl (qi rfl rfl rfl (by kernel_rfl) V 1 rfl rfl rfl) 1 rfl rfl rfl rfl ?_
 intro w25 V
 refine sda H λa H↦?_
 refine qa (hK13 _ _ (wp_ret (hret _ _ (en2 H rfl (qx V BiJ_isS_26 rfl 1 rfl (cs := [.bool ((ja (!b) (x - b.toNat + (!b).toNat)).1.b1), .slice p21_1 (((ja (!b) (x - b.toNat + (!b).toNat)).1.t1).length) p21_c1, .slice p21_2 (((ja (!b) (x - b.toNat + (!b).toNat)).1.q1).length) p21_c2, .bool ((ja (!b) (x - b.toNat + (!b).toNat)).1.b2), .slice p21_3 (((ja (!b) (x - b.toNat + (!b).toNat)).1.t2).length) p21_c3, .slice p21_4 (((ja (!b) (x - b.toNat + (!b).toNat)).1.q2).length) p21_c4]) rfl rfl) (qj rfl) ?_))))
 rw [qmi hw, ← zoc hb]
 exact ⟨p21_1, p21_c1, p21_2, p21_c2, p21_3, p21_c3, p21_4, p21_c4, rfl, ⟨⟨(V.rd 3 rfl), hn22.s1.nil, hn22.s1.cap⟩, ⟨(V.rd 2 rfl), hn22.s2.nil, hn22.s2.cap⟩, ⟨(V.rd 1 rfl), hn22.s3.nil, hn22.s3.cap⟩, ⟨(V.rd 0 rfl), hn22.s4.nil, hn22.s4.cap⟩⟩, V.bel⟩

theorem BiS_is1_22 : Is1 Tryz.prog 22 := ⟨⟨_, Tryz.underlying22, rfl⟩, by kernel_rfl⟩
theorem BiS_is1_4 : Is1 Tryz.prog 4 := ⟨⟨_, Tryz.underlying4, rfl⟩, by kernel_rfl⟩
theorem BiS_fld_24_0 : FieldAt Tryz.prog 24 0 0 := ⟨_, _, Tryz.underlying24, rfl, rfl, by kernel_rfl⟩
theorem BiS_fld_24_1 : FieldAt Tryz.prog 24 1 1 := ⟨_, _, Tryz.underlying24, rfl, rfl, by kernel_rfl⟩
theorem BiS_fld_24_2 : FieldAt Tryz.prog 24 2 2 := ⟨_, _, Tryz.underlying24, rfl, rfl, by kernel_rfl⟩
theorem BiS_fld_26_0 : FieldAt Tryz.prog 26 0 0 := ⟨_, _, Tryz.underlying26, rfl, rfl, by kernel_rfl⟩
theorem BiS_fld_26_1 : FieldAt Tryz.prog 26 1 3 := ⟨_, _, Tryz.underlying26, rfl, rfl, by kernel_rfl⟩
theorem BiS_isS_24 : IsS Tryz.prog 24 3 := ⟨⟨_, Tryz.underlying24⟩, by kernel_rfl⟩
theorem BiS_isS_26 : IsS Tryz.prog 26 6 := ⟨⟨_, Tryz.underlying26⟩, by kernel_rfl⟩
theorem qae {w : World} {b b' : Bool} {t q t' q' : List Nat} {a1 a2 : Option Addr} {ac1 ac2 : Nat} (ha1 : Sc w a1 ac1 t) (ha2 : Sc w a2 ac2 q) {u1 u2 : Option Addr} {uc1 uc2 : Nat} (hu1 : Sc w u1 uc1 t') (hu2 : Sc w u2 uc2 q') (l1 : t.length ≤ 9223372036854775807) (l2 : q.length ≤ 9223372036854775807) (l3 : t'.length ≤ 9223372036854775807) (l4 : q'.length ≤ 9223372036854775807) {r : Bool} (hr : qce b t q b' t' q' = r) :
  Calls Tryz.prog 48 #[.agg #[.bool b, .slice a1 t.length ac1, .slice a2 q.length ac2], .agg #[.bool b', .slice u1 t'.length uc1, .slice u2 q'.length uc2]] w fun e w' => e = .returned (.bool r) ∧ Below w.heap.size w w' := by
 have S : St w w [] [(u2, q'), (u1, t'), (a2, q), (a1, t)] [] := ((((St.start w).addR ha1.rd).addR ha2.rd).addR hu1.rd).addR hu2.rd
 refine qy (l := [(0, .agg #[.bool b, .slice a1 t.length ac1, .slice a2 q.length ac2]), (1, .agg #[.bool b', .slice u1 t'.length uc1, .slice u2 q'.length uc2])]) Tryz.func48 rfl Tryz.ntmps48 rfl rfl ?_
 intro Q hret hnorm hP a A
 refine wsk fun K1 hK1 => wrl (qn A S rfl rfl rfl pg (qw rfl rfl) rfl ?_)
 intro g2 w3 S a A
 refine qn A S rfl rfl rfl pg (qw rfl rfl) rfl ?_
 intro g4 w5 S a A
 refine sda A λa A↦?_
 refine qa (hK1 _ _ (wsk fun K6 hK6 => wrl (sdo (v := .pointer (some ⟨g2, 0, none⟩)) A (qf BiS_fld_24_0 rfl rfl) λa A↦?_)))
 refine sdo A (qs S BiS_is1_4 rfl 1 rfl rfl) λa A↦?_
 refine sdo (v := .pointer (some ⟨g4, 0, none⟩)) A (qf BiS_fld_24_0 rfl rfl) λa A↦?_
 refine sdo A (qs S BiS_is1_4 rfl 0 rfl rfl) λa A↦?_
 rcases tf ((b == b')) with hb7 | hb7
 ·
  have hb7' := eq_of_beq hb7
  refine sdo (v := .bool true) A (qe rfl rfl (fun w => ((qcc Tryz.underlying4) w).trans (by rw [hb7]))) λa A↦?_
  refine sdm A λa A↦?_
  refine sdo (v := .pointer (some ⟨g2, 1, none⟩)) A (qf BiS_fld_24_1 rfl rfl) λa A↦?_
  refine sdo A (qs S BiS_is1_22 rfl 1 rfl rfl) λa A↦?_
  refine sdo (v := .pointer (some ⟨g4, 1, none⟩)) A (qf BiS_fld_24_1 rfl rfl) λa A↦?_
  refine sdo A (qs S BiS_is1_22 rfl 0 rfl rfl) λa A↦?_
  rcases tf (decide (t = t')) with hb8 | hb8
  ·
   have hb8' := of_decide_eq_true hb8
   refine qg A rfl rfl rfl (qb  rfl rfl (fun w => by kernel_rfl)) (qab _ _ (S.rd 3 rfl) (S.rd 1 rfl) l1 l3 hb8) ?_
   rintro _ w10 ⟨rfl, hb9⟩
   replace S := S.call hb9
   refine ⟨_, rfl, ?_⟩
   intro a A
   refine sdk (v := .bool true) A λa A↦?_
   refine sdm A λa A↦?_
   refine sdo (v := .pointer (some ⟨g2, 2, none⟩)) A (qf BiS_fld_24_2 rfl rfl) λa A↦?_
   refine sdo A (qs S BiS_is1_22 rfl 1 rfl rfl) λa A↦?_
   refine sdo (v := .pointer (some ⟨g4, 2, none⟩)) A (qf BiS_fld_24_2 rfl rfl) λa A↦?_
   refine sdo A (qs S BiS_is1_22 rfl 0 rfl rfl) λa A↦?_
   rcases tf (decide (q = q')) with hb11 | hb11
   ·
    have hb11' := of_decide_eq_true hb11
    refine qg A rfl rfl rfl (qb  rfl rfl (fun w => by kernel_rfl)) (qab _ _ (S.rd 2 rfl) (S.rd 0 rfl) l2 l4 hb11) ?_
    rintro _ w13 ⟨rfl, hb12⟩
    replace S := S.call hb12
    refine ⟨_, rfl, ?_⟩
    intro a A
    refine sdk (v := .bool true) A λa A↦?_
    refine sda A λa A↦?_
    refine qa (hK6 _ _ (wp_ret (hret _ _ (en1 A rfl (qj rfl) ?_))))
    subst hr
    exact ⟨by unfold qce; rw [hb7, hb8, hb11]; try rfl, S.bel⟩
   ·
    have hb11' := of_decide_eq_false hb11
    refine qg A rfl rfl rfl (qb  rfl rfl (fun w => by kernel_rfl)) (qab _ _ (S.rd 2 rfl) (S.rd 0 rfl) l2 l4 hb11) ?_
    rintro _ w15 ⟨rfl, hb14⟩
    replace S := S.call hb14
    refine ⟨_, rfl, ?_⟩
    intro a A
    refine sdk (v := .bool false) A λa A↦?_
    refine sda A λa A↦?_
    refine qa (hK6 _ _ (wp_ret (hret _ _ (en1 A rfl (qj rfl) ?_))))
    subst hr
    exact ⟨by unfold qce; rw [hb7, hb8, hb11]; try rfl, S.bel⟩
  ·
   have hb8' := of_decide_eq_false hb8
   refine qg A rfl rfl rfl (qb  rfl rfl (fun w => by kernel_rfl)) (qab _ _ (S.rd 3 rfl) (S.rd 1 rfl) l1 l3 hb8) ?_
   rintro _ w17 ⟨rfl, hb16⟩
   replace S := S.call hb16
   refine ⟨_, rfl, ?_⟩
   intro a A
   refine sdk (v := .bool false) A λa A↦?_
   refine sdm A λa A↦?_
   iterate 5 refine ze A rfl rfl rfl λa A↦?_
   refine sdk (v := .bool false) A λa A↦?_
   refine sda A λa A↦?_
   refine qa (hK6 _ _ (wp_ret (hret _ _ (en1 A rfl (qj rfl) ?_))))
   subst hr
   exact ⟨by unfold qce; rw [hb7, hb8]; try rfl, S.bel⟩
 ·
  have hb7' := ne_of_beq_false hb7
  refine sdo (v := .bool false) A (qe rfl rfl (fun w => ((qcc Tryz.underlying4) w).trans (by rw [hb7]))) λa A↦?_
  refine sdm A λa A↦?_
  iterate 5 refine ze A rfl rfl rfl λa A↦?_
  refine sdk (v := .bool false) A λa A↦?_
  refine sdm A λa A↦?_
  iterate 5 refine ze A rfl rfl rfl λa A↦?_
  refine sdk (v := .bool false) A λa A↦?_
  refine sda A λa A↦?_
  refine qa (hK6 _ _ (wp_ret (hret _ _ (en1 A rfl (qj rfl) ?_))))
  subst hr
  exact ⟨by unfold qce; rw [hb7]; try rfl, S.bel⟩
theorem qec {w : World} {p q : Q6} {a1 a2 a3 a4 : Option Addr} {ac1 ac2 ac3 ac4 : Nat} (ha : Nm w p a1 ac1 a2 ac2 a3 ac3 a4 ac4) (hl : LenQ p) {u1 u2 u3 u4 : Option Addr} {uc1 uc2 uc3 uc4 : Nat} (hu : Nm w q u1 uc1 u2 uc2 u3 uc3 u4 uc4) (hm : LenQ q) {r : Bool} (hr : qkc p q = r) : Calls Tryz.prog 15 #[jx p a1 ac1 a2 ac2 a3 ac3 a4 ac4, jx q u1 uc1 u2 uc2 u3 uc3 u4 uc4] w fun e w' => e = .returned (.bool r) ∧ Below w.heap.size w w' := by
 have S : St w w [] [(u4, q.q2), (u3, q.t2), (u2, q.q1), (u1, q.t1), (a4, p.q2), (a3, p.t2), (a2, p.q1), (a1, p.t1)] [] := ((((((((St.start w).addR ha.s1.rd).addR ha.s2.rd).addR ha.s3.rd).addR ha.s4.rd).addR hu.s1.rd).addR hu.s2.rd).addR hu.s3.rd).addR hu.s4.rd
 refine qy (l := [(0, .agg #[.bool p.b1, .slice a1 p.t1.length ac1, .slice a2 p.q1.length ac2, .bool p.b2, .slice a3 p.t2.length ac3, .slice a4 p.q2.length ac4]), (1, .agg #[.bool q.b1, .slice u1 q.t1.length uc1, .slice u2 q.q1.length uc2, .bool q.b2, .slice u3 q.t2.length uc3, .slice u4 q.q2.length uc4])]) Tryz.func15 rfl Tryz.ntmps15 rfl rfl ?_
 intro Q hret hnorm hP a A
 refine wsk fun K1 hK1 => wrl (qn A S rfl rfl rfl pg (qw rfl rfl) rfl ?_)
 intro g2 w3 S a A
 refine qn A S rfl rfl rfl pg (qw rfl rfl) rfl ?_
 intro g4 w5 S a A
 refine sda A λa A↦?_
 refine qa (hK1 _ _ (wsk fun K6 hK6 => wrl (sdo A (qk S BiS_isS_26 rfl 1 rfl (cs := [.bool p.b1, .slice a1 p.t1.length ac1, .slice a2 p.q1.length ac2, .bool p.b2, .slice a3 p.t2.length ac3, .slice a4 p.q2.length ac4]) rfl rfl) λa A↦?_)))
 rcases tf (je p) with hb7 | hb7
 ·
  refine qg A rfl rfl rfl (qb  rfl rfl (fun w => by kernel_rfl)) (jf (show Nm _ _ a1 ac1 a2 ac2 a3 ac3 a4 ac4 from ⟨⟨(S.rd 7 rfl), ha.s1.nil, ha.s1.cap⟩, ⟨(S.rd 6 rfl), ha.s2.nil, ha.s2.cap⟩, ⟨(S.rd 5 rfl), ha.s3.nil, ha.s3.cap⟩, ⟨(S.rd 4 rfl), ha.s4.nil, ha.s4.cap⟩⟩) hl hb7) ?_
  rintro _ w9 ⟨rfl, hb8⟩
  replace S := S.call hb8
  refine ⟨_, rfl, ?_⟩
  intro a A
  refine sdm A λa A↦?_
  refine sdo A (qk S BiS_isS_26 rfl 0 rfl (cs := [.bool q.b1, .slice u1 q.t1.length uc1, .slice u2 q.q1.length uc2, .bool q.b2, .slice u3 q.t2.length uc3, .slice u4 q.q2.length uc4]) rfl rfl) λa A↦?_
  rcases tf (je q) with hb10 | hb10
  ·
   refine qg A rfl rfl rfl (qb  rfl rfl (fun w => by kernel_rfl)) (jf (show Nm _ _ u1 uc1 u2 uc2 u3 uc3 u4 uc4 from ⟨⟨(S.rd 3 rfl), hu.s1.nil, hu.s1.cap⟩, ⟨(S.rd 2 rfl), hu.s2.nil, hu.s2.cap⟩, ⟨(S.rd 1 rfl), hu.s3.nil, hu.s3.cap⟩, ⟨(S.rd 0 rfl), hu.s4.nil, hu.s4.cap⟩⟩) hm hb10) ?_
   rintro _ w12 ⟨rfl, hb11⟩
   replace S := S.call hb11
   refine ⟨_, rfl, ?_⟩
   intro a A
   refine sdk (v := .bool true) A λa A↦?_
   refine sdm A λa A↦?_
   refine sdo (v := .pointer (some ⟨g2, 0, none⟩)) A (qf BiS_fld_26_0 rfl rfl) λa A↦?_
   refine sdo A (qk S BiS_isS_24 rfl 1 rfl (cs := [.bool p.b1, .slice a1 p.t1.length ac1, .slice a2 p.q1.length ac2]) rfl rfl) λa A↦?_
   refine sdo (v := .pointer (some ⟨g4, 0, none⟩)) A (qf BiS_fld_26_0 rfl rfl) λa A↦?_
   refine sdo A (qk S BiS_isS_24 rfl 0 rfl (cs := [.bool q.b1, .slice u1 q.t1.length uc1, .slice u2 q.q1.length uc2]) rfl rfl) λa A↦?_
   rcases tf (qce p.b1 p.t1 p.q1 q.b1 q.t1 q.q1) with hb13 | hb13
   ·
    refine qg A rfl rfl rfl (qb  rfl rfl (fun w => by kernel_rfl)) (qae ⟨(S.rd 7 rfl), ha.s1.nil, ha.s1.cap⟩ ⟨(S.rd 6 rfl), ha.s2.nil, ha.s2.cap⟩ ⟨(S.rd 3 rfl), hu.s1.nil, hu.s1.cap⟩ ⟨(S.rd 2 rfl), hu.s2.nil, hu.s2.cap⟩ hl.l1 hl.l2 hm.l1 hm.l2 hb13) ?_
    rintro _ w15 ⟨rfl, hb14⟩
    replace S := S.call hb14
    refine ⟨_, rfl, ?_⟩
    intro a A
    refine sdk (v := .bool true) A λa A↦?_
    refine sdm A λa A↦?_
    refine sdo (v := .pointer (some ⟨g2, 3, none⟩)) A (qf BiS_fld_26_1 rfl rfl) λa A↦?_
    refine sdo A (qk S BiS_isS_24 rfl 1 rfl (cs := [.bool p.b2, .slice a3 p.t2.length ac3, .slice a4 p.q2.length ac4]) rfl rfl) λa A↦?_
    refine sdo (v := .pointer (some ⟨g4, 3, none⟩)) A (qf BiS_fld_26_1 rfl rfl) λa A↦?_
    refine sdo A (qk S BiS_isS_24 rfl 0 rfl (cs := [.bool q.b2, .slice u3 q.t2.length uc3, .slice u4 q.q2.length uc4]) rfl rfl) λa A↦?_
    rcases tf (qce p.b2 p.t2 p.q2 q.b2 q.t2 q.q2) with hb16 | hb16
    ·
     refine qg A rfl rfl rfl (qb  rfl rfl (fun w => by kernel_rfl)) (qae ⟨(S.rd 5 rfl), ha.s3.nil, ha.s3.cap⟩ ⟨(S.rd 4 rfl), ha.s4.nil, ha.s4.cap⟩ ⟨(S.rd 1 rfl), hu.s3.nil, hu.s3.cap⟩ ⟨(S.rd 0 rfl), hu.s4.nil, hu.s4.cap⟩ hl.l3 hl.l4 hm.l3 hm.l4 hb16) ?_
     rintro _ w18 ⟨rfl, hb17⟩
     replace S := S.call hb17
     refine ⟨_, rfl, ?_⟩
     intro a A
     refine sdk (v := .bool true) A λa A↦?_
     refine sda A λa A↦?_
     refine qa (hK6 _ _ (wp_ret (hret _ _ (en1 A rfl (qj rfl) ?_))))
     subst hr
     exact ⟨by unfold qkc; rw [hb7, hb10, hb13, hb16]; try rfl, S.bel⟩
    ·
     refine qg A rfl rfl rfl (qb  rfl rfl (fun w => by kernel_rfl)) (qae ⟨(S.rd 5 rfl), ha.s3.nil, ha.s3.cap⟩ ⟨(S.rd 4 rfl), ha.s4.nil, ha.s4.cap⟩ ⟨(S.rd 1 rfl), hu.s3.nil, hu.s3.cap⟩ ⟨(S.rd 0 rfl), hu.s4.nil, hu.s4.cap⟩ hl.l3 hl.l4 hm.l3 hm.l4 hb16) ?_
     rintro _ w20 ⟨rfl, hb19⟩
     replace S := S.call hb19
     refine ⟨_, rfl, ?_⟩
     intro a A
     refine sdk (v := .bool false) A λa A↦?_
     refine sda A λa A↦?_
     refine qa (hK6 _ _ (wp_ret (hret _ _ (en1 A rfl (qj rfl) ?_))))
     subst hr
     exact ⟨by unfold qkc; rw [hb7, hb10, hb13, hb16]; try rfl, S.bel⟩
   ·
    refine qg A rfl rfl rfl (qb  rfl rfl (fun w => by kernel_rfl)) (qae ⟨(S.rd 7 rfl), ha.s1.nil, ha.s1.cap⟩ ⟨(S.rd 6 rfl), ha.s2.nil, ha.s2.cap⟩ ⟨(S.rd 3 rfl), hu.s1.nil, hu.s1.cap⟩ ⟨(S.rd 2 rfl), hu.s2.nil, hu.s2.cap⟩ hl.l1 hl.l2 hm.l1 hm.l2 hb13) ?_
    rintro _ w22 ⟨rfl, hb21⟩
    replace S := S.call hb21
    refine ⟨_, rfl, ?_⟩
    intro a A
    refine sdk (v := .bool false) A λa A↦?_
    refine sdm A λa A↦?_
    iterate 5 refine ze A rfl rfl rfl λa A↦?_
    refine sdk (v := .bool false) A λa A↦?_
    refine sda A λa A↦?_
    refine qa (hK6 _ _ (wp_ret (hret _ _ (en1 A rfl (qj rfl) ?_))))
    subst hr
    exact ⟨by unfold qkc; rw [hb7, hb10, hb13]; try rfl, S.bel⟩
  ·
   refine qg A rfl rfl rfl (qb  rfl rfl (fun w => by kernel_rfl)) (jf (show Nm _ _ u1 uc1 u2 uc2 u3 uc3 u4 uc4 from ⟨⟨(S.rd 3 rfl), hu.s1.nil, hu.s1.cap⟩, ⟨(S.rd 2 rfl), hu.s2.nil, hu.s2.cap⟩, ⟨(S.rd 1 rfl), hu.s3.nil, hu.s3.cap⟩, ⟨(S.rd 0 rfl), hu.s4.nil, hu.s4.cap⟩⟩) hm hb10) ?_
   rintro _ w24 ⟨rfl, hb23⟩
   replace S := S.call hb23
   refine ⟨_, rfl, ?_⟩
   intro a A
   refine sdk (v := .bool false) A λa A↦?_
   refine sdm A λa A↦?_
   iterate 5 refine ze A rfl rfl rfl λa A↦?_
   refine sdk (v := .bool false) A λa A↦?_
   refine sdm A λa A↦?_
   iterate 5 refine ze A rfl rfl rfl λa A↦?_
   refine sdk (v := .bool false) A λa A↦?_
   refine sda A λa A↦?_
   refine qa (hK6 _ _ (wp_ret (hret _ _ (en1 A rfl (qj rfl) ?_))))
   subst hr
   exact ⟨by unfold qkc; rw [hb7, hb10]; try rfl, S.bel⟩
 ·
  refine qg A rfl rfl rfl (qb  rfl rfl (fun w => by kernel_rfl)) (jf (show Nm _ _ a1 ac1 a2 ac2 a3 ac3 a4 ac4 from ⟨⟨(S.rd 7 rfl), ha.s1.nil, ha.s1.cap⟩, ⟨(S.rd 6 rfl), ha.s2.nil, ha.s2.cap⟩, ⟨(S.rd 5 rfl), ha.s3.nil, ha.s3.cap⟩, ⟨(S.rd 4 rfl), ha.s4.nil, ha.s4.cap⟩⟩) hl hb7) ?_
  rintro _ w26 ⟨rfl, hb25⟩
  replace S := S.call hb25
  refine ⟨_, rfl, ?_⟩
  intro a A
  refine sdm A λa A↦?_
  iterate 2 refine ze A rfl rfl rfl λa A↦?_
  refine sdk (v := .bool false) A λa A↦?_
  refine sdm A λa A↦?_
  iterate 5 refine ze A rfl rfl rfl λa A↦?_
  refine sdk (v := .bool false) A λa A↦?_
  refine sdm A λa A↦?_
  iterate 5 refine ze A rfl rfl rfl λa A↦?_
  refine sdk (v := .bool false) A λa A↦?_
  refine sda A λa A↦?_
  refine qa (hK6 _ _ (wp_ret (hret _ _ (en1 A rfl (qj rfl) ?_))))
  subst hr
  exact ⟨by unfold qkc; rw [hb7]; try rfl, S.bel⟩

def ko (b : Bool) (y n : Nat) : List Nat := (List.range n).map (rwd b y)
theorem vn (b : Bool) (y n : Nat) : (ko b y n).length = n := by simp [ko]
theorem qhd {b : Bool} {y n i : Nat} (h : i < n) : (ko b y n).getD i 0 = rwd b y i := by simp [ko, h]
theorem yt (b : Bool) (y n : Nat) : Dig (ko b y n) := by
  intro x hx
  obtain ⟨i, _, rfl⟩ := List.mem_map.1 hx
  exact qcg b y i
theorem qxg (l : List Nat) (i j d : Nat) (hi : i < l.length) : (l.set i d).getD j 0 = if i = j then d else l.getD j 0 := by
  simp only [List.getD_eq_getElem?_getD]
  by_cases h : i = j
  · subst h; rw [List.getElem?_set_self hi, if_pos rfl]; rfl
  · rw [List.getElem?_set_ne h, if_neg h]
/-- A row in work: the first i words are there, the others are 0. -/
def RowIn (b : Bool) (y n i : Nat) (l : List Nat) : Prop := l.length = n ∧ (∀ j, j < i → l.getD j 0 = rwd b y j) ∧ ∀ j, i ≤ j → l.getD j 0 = 0
theorem RowIn.start (b : Bool) (y n : Nat) : RowIn b y n 0 (List.replicate n 0) := ⟨by simp, fun j hj => by omega, fun j _ => by simp [List.getD_eq_getElem?_getD, List.getElem?_replicate]; split <;> rfl⟩
theorem RowIn.step {b : Bool} {y n i : Nat} {l l' : List Nat} (h : RowIn b y n i l) (h1 : l'.length = n) (h2 : l'.getD i 0 = rwd b y i) (h3 : ∀ j, i ≠ j → l'.getD j 0 = l.getD j 0) : RowIn b y n (i + 1) l' := by
  refine ⟨h1, fun j hj => ?_, fun j hj => ?_⟩
  · by_cases e : i = j
    · subst e; exact h2
    · rw [h3 j e]; exact h.2.1 j (by omega)
  · rw [h3 j (by omega)]; exact h.2.2 j (by omega)
theorem RowIn.done {b : Bool} {y n : Nat} {l : List Nat} (h : RowIn b y n n l) : l = ko b y n := list_of_getD (by rw [vn]; exact h.1) (fun j hj => by rw [h.1] at hj; rw [qhd hj]; exact h.2.1 j hj)


theorem qna {w : World} {q : Q6} {a1 a2 a3 a4 : Option Addr} {ac1 ac2 ac3 ac4 : Nat} (ha : Nm w q a1 ac1 a2 ac2 a3 ac3 a4 ac4) (hl : LenQ q) {n : Int} : Calls Tryz.prog 10 #[jx q a1 ac1 a2 ac2 a3 ac3 a4 ac4, .int .i64 n] w (AnsN w (vd q n)) := by
 rcases yz q with ⟨hw, h1⟩ | ⟨hw, _⟩
 ·
  obtain ⟨b, x, rfl, hx, hb⟩ := qeb ha h1
  exact zch ha hl hw hx hb
 ·
  exact zcg ha hl hw

theorem qke {w : World} {q : Q6} {a1 a2 a3 a4 : Option Addr} {ac1 ac2 ac3 ac4 : Nat} (ha : Nm w q a1 ac1 a2 ac2 a3 ac3 a4 ac4) (hl : LenQ q)  : Calls Tryz.prog 5 #[jx q a1 ac1 a2 ac2 a3 ac3 a4 ac4] w (AnsII w (vu q)) := by
 rcases yz q with ⟨hw, h1⟩ | ⟨hw, _⟩
 ·
  obtain ⟨b, x, rfl, hx, hb⟩ := qeb ha h1
  exact qhc ha hl hw hx hb
 ·
  exact qtj ha hl hw

/-- The bit k of a row without end. -/
def qxh (b : Bool) (y k : Nat) : Nat := (y.testBit k ^^ b).toNat
theorem zwj (b : Bool) (y k : Nat) : qxh b y k ≤ 1 := Bool.toNat_le _
/-- The bits from s on, so many, as a number. -/
def fld (b : Bool) (y s : Nat) : Nat → Nat
  | 0 => 0
  | c + 1 => fld b y s c + qxh b y (s + c) * 2 ^ c
theorem zcj (b : Bool) (y s : Nat) : ∀ c, fld b y s c < 2 ^ c
  | 0 => by simp [fld]
  | c + 1 => by
    have h1 := zcj b y s c
    have h2 := zwj b y (s + c)
    have h3 : qxh b y (s + c) * 2 ^ c ≤ 1 * 2 ^ c := Nat.mul_le_mul_right _ h2
    unfold fld
    rw [Nat.pow_succ]
    omega
theorem qxi (b : Bool) (y s : Nat) : ∀ c, fld b (y / 2 ^ s) 0 c = fld b y s c
  | 0 => rfl
  | c + 1 => by
    unfold fld
    rw [qxi b y s c]
    unfold qxh
    rw [Nat.zero_add, Nat.testBit_div_two_pow, Nat.add_comm c s]
/-- A number's lowest bits are told by its bits. -/
theorem qxj {X b y : Nat} {B : Bool} : ∀ c, (∀ k, k < c → X / 2 ^ k % 2 = qxh B y k) → X % 2 ^ c = fld B y 0 c
  | 0, _ => by simp [fld, Nat.mod_one]
  | c + 1, h => by
    have ih := qxj (X := X) (b := b) c (fun k hk => h k (by omega))
    have e := h c (by omega)
    unfold fld
    rw [Nat.zero_add, ← e, ← ih, Nat.pow_succ, Nat.mod_mul, Nat.mul_comm (X / 2 ^ c % 2)]
theorem zxa {b : Bool} {y J r : Nat} (hr : r < 32) : rwd b y J / 2 ^ r % 2 = qxh b y (32 * J + r) := by
  rw [← Nat.toNat_testBit]
  unfold qxh rwd
  rw [Nat.testBit_xor]
  have e1 : (y / pw J % 4294967296).testBit r = y.testBit (32 * J + r) := by
    rw [show (4294967296 : Nat) = 2 ^ 32 from rfl, Nat.testBit_mod_two_pow, pw_two, Nat.testBit_div_two_pow, Nat.add_comm r]
    simp [hr]
  have e2 : (b.toNat * 4294967295).testBit r = b := by
    cases b with
    | false => simp
    | true =>
      show (1 * 4294967295).testBit r = true
      rw [Nat.one_mul, show (4294967295 : Nat) = 2 ^ 32 - 1 from rfl, Nat.testBit_two_pow_sub_one]
      simp [hr]
  rw [e1, e2]
/-- A bit of a list of words. -/
theorem zxb {l : List Nat} (hd : Dig l) (k : Nat) : val l / 2 ^ k % 2 = l.getD (k / 32) 0 / 2 ^ (k % 32) % 2 := by
  have h1 : l.getD (k / 32) 0 = val l / pw (k / 32) % 4294967296 := by
    have h2 := val_split l (k / 32)
    by_cases hk : k / 32 < l.length
    · have hm : min (k / 32) l.length = k / 32 := by omega
      rw [hm] at h2
      have h3 : val (l.take (k / 32)) < pw (k / 32) := by
        have := val_lt (hd.take (k / 32))
        rwa [List.length_take, hm] at this
      have h4 : val l / pw (k / 32) = val (l.drop (k / 32)) := by
        rw [h2, Nat.add_mul_div_left _ _ (pw_pos _), Nat.div_eq_of_lt h3, Nat.zero_add]
      rw [h4, List.drop_eq_getElem_cons hk, val_cons, Nat.add_mul_mod_self_left, Nat.mod_eq_of_lt (hd _ (List.getElem_mem hk))]
      simp [hk]
    · have : val l < pw (k / 32) := Nat.lt_of_lt_of_le (val_lt hd) (pw_le (by omega))
      rw [Nat.div_eq_of_lt this]
      simp [List.getD_eq_getElem?_getD, List.getElem?_eq_none (by omega : l.length ≤ k / 32)]
  rw [h1, ← Nat.toNat_testBit, ← Nat.toNat_testBit, show (4294967296 : Nat) = 2 ^ 32 from rfl, Nat.testBit_mod_two_pow, pw_two, Nat.testBit_div_two_pow]
  have e : k % 32 + 32 * (k / 32) = k := by omega
  rw [e]
  have : k % 32 < 32 := Nat.mod_lt _ (by decide)
  simp [this]
theorem zoj {b : Bool} {y n k : Nat} (h : k / 32 < n) : (ko b y n).getD (k / 32) 0 / 2 ^ (k % 32) % 2 = qxh b y k := by
  rw [qhd h, zxa (Nat.mod_lt _ (by decide))]
  congr 1
  omega
theorem qnb {b : Bool} {y n c : Nat} (h : c ≤ 32 * n) : val (ko b y n) % 2 ^ c = fld b y 0 c :=
  qxj (b := 0) c (fun k hk => by rw [zxb (yt _ _ _), zoj (by omega)])
/-- The last word cut down. -/
theorem zpa {l : List Nat} {n r : Nat} (hd : Dig l) (hl : l.length = n + 1) : val (l.set n (l.getD n 0 &&& (2 ^ r - 1))) = val l % (pw n * 2 ^ r) := by
  have e : l.getD n 0 &&& (2 ^ r - 1) = l.getD n 0 % 2 ^ r := Nat.and_two_pow_sub_one_eq_mod _ _
  have h1 : val l = val (l.take n) + pw n * l.getD n 0 := by
    have := val_take_succ l n
    rwa [List.take_of_length_le (by omega)] at this
  have h2 : val (l.set n (l.getD n 0 % 2 ^ r)) = val (l.take n) + pw n * (l.getD n 0 % 2 ^ r) := by
    have := val_set_take l n (l.getD n 0 % 2 ^ r) (by omega)
    rwa [List.take_of_length_le (by rw [List.length_set]; omega)] at this
  have h3 : val (l.take n) < pw n := by
    have := val_lt (hd.take n)
    rwa [List.length_take, Nat.min_eq_left (by omega)] at this
  rw [e, h2, Nat.mod_mul, h1, Nat.add_mul_mod_self_left, Nat.mod_eq_of_lt h3, Nat.add_mul_div_left _ _ (pw_pos _), Nat.div_eq_of_lt h3, Nat.zero_add]
/-- A number's words, in a list of a given length. -/
def Pads (F n : Nat) (l : List Nat) : Prop := l.length = n ∧ ∀ j, l.getD j 0 = F / pw j % 4294967296
theorem Pads.start (n : Nat) : Pads 0 n (List.replicate n 0) := ⟨by simp, fun j => by simp [List.getD_eq_getElem?_getD, List.getElem?_replicate]; split <;> rfl⟩
theorem Pads.step {F n k t : Nat} {l : List Nat} (h : Pads F n l) (hF : F < 2 ^ k) (ht : t ≤ 1) (hk : k / 32 < n) : Pads (F + t * 2 ^ k) n (l.set (k / 32) (l.getD (k / 32) 0 ||| t * 2 ^ (k % 32))) := by
  have hk2 : 2 ^ k = pw (k / 32) * 2 ^ (k % 32) := by rw [pw_two, ← Nat.pow_add]; congr 1; omega
  have hr : 2 ^ (k % 32) ≤ 2 ^ 31 := Nat.pow_le_pow_right (by omega) (by omega)
  have hq : F / pw (k / 32) < 2 ^ (k % 32) := by
    rw [Nat.div_lt_iff_lt_mul (pw_pos _), Nat.mul_comm, ← hk2]
    exact hF
  have hold : l.getD (k / 32) 0 = F / pw (k / 32) := by
    rw [h.2, Nat.mod_eq_of_lt (by omega)]
  refine ⟨by rw [List.length_set]; exact h.1, fun j => ?_⟩
  rw [qxg _ _ _ _ (by rw [h.1]; exact hk)]
  by_cases e : k / 32 = j
  · subst e
    have h8 : t * 2 ^ (k % 32) ≤ 1 * 2 ^ (k % 32) := Nat.mul_le_mul_right _ ht
    have h9 : (2 : Nat) ^ 31 = 2147483648 := rfl
    have e1 : (F / pw (k / 32) ||| t * 2 ^ (k % 32)) = t * 2 ^ (k % 32) + F / pw (k / 32) := by
      rw [Nat.or_comm]
      exact or_add t (F / pw (k / 32)) (k % 32) hq
    have e2 : (F + t * 2 ^ k) / pw (k / 32) = F / pw (k / 32) + t * 2 ^ (k % 32) := by
      rw [hk2, Nat.mul_left_comm t, Nat.add_mul_div_left _ _ (pw_pos _)]
    rw [if_pos rfl, hold, e1, e2, Nat.mod_eq_of_lt (show F / pw (k / 32) + t * 2 ^ (k % 32) < 4294967296 from by omega), Nat.add_comm]
  · rw [if_neg e, h.2]
    by_cases hlt : j < k / 32
    · have : 2 ^ k = pw j * (4294967296 * (pw (k / 32 - j - 1) * 2 ^ (k % 32))) := by
        rw [hk2, show k / 32 = j + (1 + (k / 32 - j - 1)) by omega, pw_add, pw_add]
        have : pw 1 = 4294967296 := by rw [pw_succ, pw_zero]
        rw [this, Nat.mul_assoc, Nat.mul_assoc]
        congr 3
        congr 1
        omega
      rw [this, Nat.mul_left_comm t, Nat.add_mul_div_left _ _ (pw_pos _), Nat.mul_left_comm t, Nat.add_mul_mod_self_left]
    · have h1 : pw (k / 32 + 1) ≤ pw j := pw_le (by omega)
      rw [pw_succ] at h1
      have h2 : F + t * 2 ^ k < pw j := by
        have : t * 2 ^ k ≤ 1 * 2 ^ k := Nat.mul_le_mul_right _ ht
        have h3 : 2 ^ k ≤ pw (k / 32) * 2 ^ 31 := by rw [hk2]; exact Nat.mul_le_mul_left _ hr
        have : (2 : Nat) ^ 31 = 2147483648 := rfl
        omega
      rw [Nat.div_eq_of_lt h2, Nat.div_eq_of_lt (by omega)]
def ky (q : Q6) (s e : Int) : Q6 × Int :=
  if ji q = 0 then (if s < 0 ∨ e < s ∨ 16384 < e then (Q6.zero, 1) else (Q6.whole false (fld q.b1 (val q.t1 - q.b1.toNat) s.toNat (e - s).toNat), 0)) else (Q6.zero, ji q)
theorem zda {q : Q6} {s e : Int} (h : (ji q != 0) = true) : ky q s e = (Q6.zero, ji q) := by unfold ky; rw [if_neg (bne_iff_ne.1 h)]
theorem qgb {b : Bool} {x : Nat} {s e : Int} (h : ji (Q6.whole b x) = 0) (hn : s < 0 ∨ e < s ∨ 16384 < e) : ky (Q6.whole b x) s e = (Q6.zero, 1) := by unfold ky; rw [if_pos h, if_pos hn]
theorem qed {b : Bool} {x S E : Nat} (h : ji (Q6.whole b x) = 0) (h1 : S ≤ E) (h2 : E ≤ 16384) : ky (Q6.whole b x) (S : Int) (E : Int) = (Q6.whole false (fld b (x - b.toNat) S (E - S)), 0) := by
  unfold ky
  rw [if_pos h, if_neg (by omega)]
  simp only [Q6.whole, val_words, Int.toNat_natCast]
  rw [show ((E : Int) - (S : Int)).toNat = E - S from by omega]
theorem zxc {b : Bool} {y s c : Nat} (h : c ≤ 16384) : (words (fld b y s c)).length ≤ 512 := by
  apply words_length_le
  have h1 := zcj b y s c
  have h2 : pw 512 = 2 ^ (32 * 512) := pw_two 512
  have h3 : c ≤ 32 * 512 := h
  generalize 32 * 512 = K at h2 h3
  rw [h2]
  exact Nat.lt_of_lt_of_le h1 (Nat.pow_le_pow_right (Nat.zero_lt_succ 1) h3)
section
variable {P : Program} {t : TypeId} {a b : Operand}
theorem zxd {n : Nat} (hn : n ≤ 1000000000) : ∀ w, (do eqGuard .quo t a b (.int .i64 ((n : Nat) : Int)) (.int .i64 32); binOp .quo t (.int .i64 ((n : Nat) : Int)) (.int .i64 32) : Sem Value).run P w = .ok (.int .i64 ((n / 32 : Nat) : Int)) w := fun w => by
  have e : ((n : Nat) : Int).tdiv 32 = ((n / 32 : Nat) : Int) := by rw [Int.tdiv_eq_ediv_of_nonneg (by omega)]; omega
  have h := uk (a := ((n / 32 : Nat) : Int)) (by omega) (by omega)
  rw [show ((n / 32 : Nat) : Int) = ((n : Nat) : Int) / 32 from by omega] at h
  simp [go_sem, e, h]
theorem zxe {n : Nat} (hn : n ≤ 1000000000) : ∀ w, (do eqGuard .rem t a b (.int .i64 ((n : Nat) : Int)) (.int .i64 32); binOp .rem t (.int .i64 ((n : Nat) : Int)) (.int .i64 32) : Sem Value).run P w = .ok (.int .i64 ((n % 32 : Nat) : Int)) w := fun w => by
  have e : ((n : Nat) : Int).tmod 32 = ((n % 32 : Nat) : Int) := by rw [Int.tmod_eq_emod_of_nonneg (by omega)]; omega
  have h := uk (a := ((n % 32 : Nat) : Int)) (by omega) (by omega)
  simp [go_sem, e, h]
theorem zxf {x k : Nat} (hx : x ≤ 1) (hk : k < 32) : ∀ w, (do eqGuard .shl t a b (.int .u32 ((x : Nat) : Int)) (.int .i64 ((k : Nat) : Int)); binOp .shl t (.int .u32 ((x : Nat) : Int)) (.int .i64 ((k : Nat) : Int)) : Sem Value).run P w = .ok (.int .u32 ((x * 2 ^ k : Nat) : Int)) w := fun w => by
  have h : ¬ ((k : Nat) : Int) < 0 := by omega
  have h1 : x * 2 ^ k < 4294967296 := by
    have h2 : x * 2 ^ k ≤ 1 * 2 ^ k := Nat.mul_le_mul_right _ hx
    have h3 : 2 ^ k ≤ 2 ^ 31 := Nat.pow_le_pow_right (by decide) (by omega)
    have h4 : (2 : Nat) ^ 31 = 2147483648 := rfl
    omega
  have h5 := wrap_u32 (x * 2 ^ k) h1
  rw [Int.natCast_mul, Int.natCast_pow] at h5
  simp only [Int.cast_ofNat_Int] at h5
  simp [go_sem, h, h5]
theorem zpb {k : Nat} (hk : k < 32) : ∀ w, (do eqGuard .sub t a b (.int .u32 ((1 * 2 ^ k : Nat) : Int)) (.int .u32 1); binOp .sub t (.int .u32 ((1 * 2 ^ k : Nat) : Int)) (.int .u32 1) : Sem Value).run P w = .ok (.int .u32 ((2 ^ k - 1 : Nat) : Int)) w := fun w => by
  have h3 : 2 ^ k ≤ 2 ^ 31 := Nat.pow_le_pow_right (by decide) (by omega)
  have h4 : (2 : Nat) ^ 31 = 2147483648 := rfl
  have hp : 0 < 2 ^ k := Nat.pow_pos (by decide)
  have e : ((1 * 2 ^ k : Nat) : Int) - 1 = ((2 ^ k - 1 : Nat) : Int) := by omega
  have h5 := wrap_u32 (2 ^ k - 1) (by omega)
  rw [← e] at h5
  rw [qle h5, e]
end
/-- A rational number that is not too long. -/
def jy (u : Rat) : Prop := (words u.num.natAbs).length ≤ 512 ∧ (words u.den).length ≤ 512
instance (u : Rat) : Decidable (jy u) := inferInstanceAs (Decidable (_ ∧ _))
/-- The number of two rational ones. -/
def Q6.rat (u v : Rat) : Q6 := ⟨rb u.num, words u.num.natAbs, words u.den, rb v.num, words v.num.natAbs, words v.den⟩
/-- .. unless it is too long. -/
def xr (u v : Rat) : Q6 × Int := if jy u ∧ jy v then (Q6.rat u v, 0) else (Q6.zero, 4)
theorem zgg (x : Int) {d : Nat} (hd : d ≠ 0) : rt x d = (mkRat x d).num.natAbs := by
  rw [Rat.num_mkRat, if_neg hd, Nat.gcd_comm]
  unfold rt
  have hg : ((Nat.gcd x.natAbs d : Nat) : Int) ∣ x := Int.ofNat_dvd_left.2 (Nat.gcd_dvd_left _ _)
  rw [Int.natAbs_ediv_of_dvd hg, Int.natAbs_natCast]
theorem zgh (x : Int) {d : Nat} (hd : d ≠ 0) : rq x d = (mkRat x d).den := by
  rw [Rat.den_mkRat, if_neg hd, Nat.gcd_comm]
  rfl
theorem zgi (x : Int) {d : Nat} (hd : d ≠ 0) : rb x = rb (mkRat x d).num := by
  rw [Rat.num_mkRat, if_neg hd]
  unfold rb
  have hg : 0 < ((Nat.gcd d x.natAbs : Nat) : Int) := by
    have := zbj (x := x.natAbs) hd
    rw [Nat.gcd_comm] at this
    omega
  have h2 : ((Nat.gcd d x.natAbs : Nat) : Int) ∣ x := Int.ofNat_dvd_left.2 (Nat.gcd_dvd_right _ _)
  obtain ⟨k, hk⟩ := h2
  generalize ((Nat.gcd d x.natAbs : Nat) : Int) = g at *
  rw [hk]
  rw [Int.mul_ediv_cancel_left _ (by omega)]
  by_cases h : k < 0
  · have := Int.mul_neg_of_pos_of_neg hg h
    rw [decide_eq_true h, decide_eq_true this]
  · have := Int.mul_nonneg (Int.le_of_lt hg) (by omega : 0 ≤ k)
    rw [decide_eq_false h, decide_eq_false (by omega)]
theorem zpc (x y : Int) {d : Nat} (hd : d ≠ 0) : qmg x y d = xr (mkRat x d) (mkRat y d) := by
  unfold qmg xr jy Q6.rat
  rw [zgg x hd, zgg y hd, zgh x hd, zgh y hd, ← zgi x hd, ← zgi y hd]
  by_cases h : (words (mkRat x d).num.natAbs).length ≤ 512 ∧ (words (mkRat x d).den).length ≤ 512 ∧ (words (mkRat y d).num.natAbs).length ≤ 512 ∧ (words (mkRat y d).den).length ≤ 512
  · rw [if_pos h, if_pos ⟨⟨h.1, h.2.1⟩, h.2.2⟩]
  · rw [if_neg h, if_neg (fun k => h ⟨k.1.1, k.1.2, k.2⟩)]
theorem qrc {u : Rat} (h : jy u) : ye (rb u.num) (words u.num.natAbs) (words u.den) = true := by
  unfold ye qlc
  rw [zy h.1, zy h.2]
  have h1 : ¬ (words u.den).length = 0 := by have := (kb (x := u.den)).2 u.den_nz; omega
  have h2 : Nat.gcd u.num.natAbs u.den = 1 := u.reduced
  simp only [Bool.and_self, if_true, val_words, h2, jt, decide_true, Bool.and_true, decide_eq_false h1, Bool.false_or]
  by_cases hz : u.num = 0
  · rw [hz, show rb 0 = false from rfl, Bool.and_false]; rfl
  · have h3 : ¬ (words u.num.natAbs).length = 0 := by have := (kb (x := u.num.natAbs)).2 (by omega); omega
    rw [decide_eq_false h3]
    rfl
theorem ya {u v : Rat} (hu : jy u) (hv : jy v) : je (Q6.rat u v) = true := by
  unfold je qfi Q6.rat
  rw [qrc hu, qrc hv]
  rfl
theorem qrd {b : Bool} {t q : List Nat} (ht : Dig t) (hq : Dig q) (h : ye b t q = true) : ∃ u : Rat, jy u ∧ b = rb u.num ∧ t = words u.num.natAbs ∧ q = words u.den := by
  unfold ye qlc at h
  by_cases hs : (sound t && sound q) = true
  · rw [if_pos hs] at h
    rw [Bool.and_eq_true] at hs
    obtain ⟨e1, l1⟩ := sound_words ht hs.1
    obtain ⟨e2, l2⟩ := sound_words hq hs.2
    simp only [Bool.and_eq_true, decide_eq_true_eq, Bool.not_eq_true', Bool.or_eq_false_iff, decide_eq_false_iff_not] at h
    obtain ⟨⟨h1, h2⟩, _, h3⟩ := h
    have hd : val q ≠ 0 := fun e => h1 (by rw [e2, e, words_zero]; rfl)
    have hg : Nat.gcd (val t) (val q) = 1 := by
      have := congrArg val h3
      rw [val_words] at this
      rw [this, ← jt, val_words]
    refine ⟨⟨sgn b (val t), val q, hd, by rw [yx]; exact hg⟩, ⟨by simp only [yx]; rw [← e1]; exact l1, by rw [← e2]; exact l2⟩, ?_, by simp only [yx]; exact e1, e2⟩
    unfold rb
    simp only []
    rw [zgc]
    cases b with
    | false => rfl
    | true =>
      have : 0 < val t := by
        apply Nat.pos_of_ne_zero
        intro e
        rw [e1, e, words_zero] at h2
        simp at h2
      rw [decide_eq_true this]
      rfl
  · rw [if_neg hs] at h
    simp at h
theorem zki {q : Q6} (h1 : Dig q.t1) (h2 : Dig q.q1) (h3 : Dig q.t2) (h4 : Dig q.q2) (h : je q = true) : ∃ u v, q = Q6.rat u v ∧ jy u ∧ jy v := by
  unfold je qfi at h
  rw [Bool.and_eq_true] at h
  obtain ⟨u, hu, a1, a2, a3⟩ := qrd h1 h2 h.1
  obtain ⟨v, hv, b1, b2, b3⟩ := qrd h3 h4 h.2
  refine ⟨u, v, ?_, hu, hv⟩
  cases q
  simp only [Q6.rat] at *
  rw [a1, a2, a3, b1, b2, b3]
/-- Both parts over one bottom. -/
def spG (u v : Rat) : Nat := Nat.gcd u.den v.den
def spX (u v : Rat) : Int := u.num * ((v.den / spG u v : Nat) : Int)
def spY (u v : Rat) : Int := v.num * ((u.den / spG u v : Nat) : Int)
def spD (u v : Rat) : Nat := u.den * (v.den / spG u v)
theorem qhe (u v : Rat) : 0 < spG u v := Nat.gcd_pos_of_pos_left _ (Nat.pos_of_ne_zero u.den_nz)
theorem spD_eq (u v : Rat) : spD u v = v.den * (u.den / spG u v) := by
  unfold spD spG
  rw [← Nat.mul_div_assoc _ (Nat.gcd_dvd_right u.den v.den), ← Nat.mul_div_assoc _ (Nat.gcd_dvd_left u.den v.den), Nat.mul_comm]
theorem zdb {n g : Nat} (hn : n ≠ 0) (hg : 0 < g) (h : g ∣ n) : n / g ≠ 0 := by
  have := Nat.div_pos (Nat.le_of_dvd (Nat.pos_of_ne_zero hn) h) hg
  omega
theorem qub (u v : Rat) : spD u v ≠ 0 := Nat.mul_ne_zero u.den_nz (zdb v.den_nz (qhe u v) (Nat.gcd_dvd_right _ _))
theorem zpd (u v : Rat) : mkRat (spX u v) (spD u v) = u := by
  unfold spX spD
  rw [Rat.mkRat_mul_right (zdb v.den_nz (qhe u v) (Nat.gcd_dvd_right _ _)), Rat.mkRat_self]
theorem zpe (u v : Rat) : mkRat (spY u v) (spD u v) = v := by
  rw [spD_eq]
  unfold spY
  rw [Rat.mkRat_mul_right (zdb u.den_nz (qhe u v) (Nat.gcd_dvd_left _ _)), Rat.mkRat_self]
theorem kg {n k : Nat} (h : (words n).length ≤ k) : (words ((n : Int)).natAbs).length ≤ k := by rw [Int.natAbs_natCast]; exact h
theorem qlf {u v : Rat} (hu : jy u) (hv : jy v) : (words (spX u v).natAbs).length ≤ 1024 := xg (k := 512) (m := 512) hu.1 (kg (va hv.2))
theorem qlg {u v : Rat} (hu : jy u) (hv : jy v) : (words (spY u v).natAbs).length ≤ 1024 := xg (k := 512) (m := 512) hv.1 (kg (va hu.2))
theorem ua {u v : Rat} (hu : jy u) (hv : jy v) : (words (spD u v)).length ≤ 1024 := words_mul_length (k := 512) (m := 512) hu.2 (va hv.2)
/-- The two rational numbers of a number. -/
def reQ (q : Q6) : Rat := mkRat (sgn q.b1 (val q.t1)) (val q.q1)
def imQ (q : Q6) : Rat := mkRat (sgn q.b2 (val q.t2)) (val q.q2)
theorem zgj (u v : Rat) : reQ (Q6.rat u v) = u := by
  unfold reQ Q6.rat
  simp only [val_words, qih]
  exact Rat.mkRat_self u
theorem zha (u v : Rat) : imQ (Q6.rat u v) = v := by
  unfold imQ Q6.rat
  simp only [val_words, qih]
  exact Rat.mkRat_self v
def kr (p q : Q6) : Q6 × Int := if je p = true ∧ je q = true then xr (reQ p + reQ q) (imQ p + imQ q) else (Q6.zero, 2)
theorem qya {u v x y : Rat} (hu : jy u) (hv : jy v) (hx : jy x) (hy : jy y) : kr (Q6.rat u v) (Q6.rat x y) = xr (u + x) (v + y) := by
  unfold kr
  rw [if_pos ⟨ya hu hv, ya hx hy⟩, zgj, zgj, zha, zha]
theorem qnc {u v : Rat} (hu : jy u) (hv : jy v) : LenQ (Q6.rat u v) := by
  have h1 := hu.1
  have h2 := hu.2
  have h3 := hv.1
  have h4 := hv.2
  exact ⟨by simp only [Q6.rat]; omega, by simp only [Q6.rat]; omega, by simp only [Q6.rat]; omega, by simp only [Q6.rat]; omega⟩
theorem zxg {x1 y1 x2 y2 : Int} {d1 d2 : Nat} {u v x y : Rat} (h1 : d1 ≠ 0) (h2 : d2 ≠ 0) (hu : mkRat x1 d1 = u) (hv : mkRat y1 d1 = v) (hx : mkRat x2 d2 = x) (hy : mkRat y2 d2 = y) :
    qmg (x1 * ((d2 : Nat) : Int) + x2 * ((d1 : Nat) : Int)) (y1 * ((d2 : Nat) : Int) + y2 * ((d1 : Nat) : Int)) (d1 * d2) = xr (u + x) (v + y) := by
  subst hu hv hx hy
  rw [zpc _ _ (Nat.mul_ne_zero h1 h2), Rat.mkRat_add_mkRat _ _ h1 h2, Rat.mkRat_add_mkRat _ _ h1 h2]
/-- A number is sound, with its two rational ones, or not. -/
theorem qkf {q : Q6} {w : World} {o1 o2 o3 o4 : Option Addr} {c1 c2 c3 c4 : Nat} (h : Nm w q o1 c1 o2 c2 o3 c3 o4 c4) : je q = false ∨ ∃ u v, q = Q6.rat u v ∧ jy u ∧ jy v := by
  cases hs : je q with
  | false => exact .inl rfl
  | true => exact .inr (zki h.s1.rd.dig h.s2.rd.dig h.s3.rd.dig h.s4.rd.dig hs)
section
variable {P : Program} {t : TypeId} {x y : Operand} {a b : ByteArray}
theorem qyb (hu : P.underlying t = some .string) : ∀ w, (do eqGuard .eql t x y (.string a) (.string b); binOp .eql t (.string a) (.string b) : Sem Value).run P w = .ok (.bool (a.toList == b.toList)) w := fun w => by
  simp [go_sem, hu, run_underlying hu]
end
/-- An operation whose guard was passed over itself. -/
def qgc (l : List (Nat × Value)) (ops : List Oper) (o : Oper) : Bool :=
  match o.guard with
  | none => false
  | some (j, b) => match ops[j]? with
    | some oj => match oj.dst with
      | some d => match xz l d with
        | some (.bool _) => false
        | some _ => true
        | none => false
      | none => false
    | none => false
section
variable {P : Program} {ops : List Oper} {Q : Exit → Act → World → Prop} {a : Act} {w w' : World} {n : Nat} {l : List (Nat × Value)} {o : Oper} {v : Value} {rest : List Oper}
theorem Sl.unwantedU (h : Sl a n l) (hp : qgc l ops o = true) : Region.wanted o (yielded ops.toArray a.tmps) = false := by
  unfold Region.wanted
  unfold qgc at hp
  split at hp
  · cases hp
  · rename_i j b hg
    rw [hg]
    split at hp
    · rename_i oj hj
      split at hp
      · rename_i d hd
        split at hp
        · cases hp
        · rename_i v' hb hv
          have := h.holds d _ hv
          cases v' <;> first | (exact absurd rfl (hb _)) | simp [yielded, hj, hd, this]
        · cases hp
      · cases hp
    · cases hp
theorem qre (hA : Sl a n l) (hg : qgc l ops o = true) {d : Nat} (hdst : o.dst = some d) (hd : Nat.blt d n = true)
    (hk : ∀ a', Sl a' n ((d, undef) :: l) → wpList P ops.toArray Q rest a' w) : wpList P ops.toArray Q (o :: rest) a w := by
  unfold wpList
  rw [hA.unwantedU hg, if_neg (by simp), hdst]
  exact hk _ (hA.put hd undef)
end
theorem ub {d : Nat} (h0 : d ≠ 0) (h : d < 4294967296) : words d = [d] := by
  rw [words_pos (by omega), Nat.mod_eq_of_lt h, Nat.div_eq_of_lt h, words_zero]
theorem qee {b : Bool} {x : Nat} (h : b.toNat ≤ x) : Q6.whole b x = Q6.rat ((sgn b x : Int) : Rat) 0 := by
  unfold Q6.whole Q6.rat
  rw [Rat.num_intCast, Rat.den_intCast, yx, jt, show (0 : Rat).num = 0 from rfl, show (0 : Rat).den = 1 from rfl, jt, show Int.natAbs 0 = 0 from rfl, words_zero, show rb 0 = false from rfl]
  have e : rb (sgn b x) = b := by
    unfold rb
    rw [zgc]
    cases b with
    | false => rfl
    | true => simp at h; simp; omega
  rw [e]
theorem qaf {b : Bool} {x : Nat} (h : (words x).length ≤ 512) : jy ((sgn b x : Int) : Rat) := by
  unfold jy
  rw [Rat.num_intCast, Rat.den_intCast, yx]
  exact ⟨h, zgd⟩
theorem yn : jy 0 := by
  unfold jy
  rw [show (0 : Rat).num = 0 from rfl, show (0 : Rat).den = 1 from rfl, show Int.natAbs 0 = 0 from rfl, words_zero]
  exact ⟨by decide, zgd⟩
theorem zpf {u v : Rat} (hu : jy u) (hv : jy v) : xr u v = (Q6.rat u v, 0) := by
  unfold xr
  rw [if_pos ⟨hu, hv⟩]



theorem qgd : ∀ (n x y : Nat), x < 2 ^ n → y < 2 ^ n → (x &&& y) + (x ||| y) = x + y ∧ (x ^^^ y) + (x &&& y) = x ||| y
  | 0, x, y, hx, hy => by
    obtain rfl : x = 0 := by simpa using hx
    obtain rfl : y = 0 := by simpa using hy
    exact ⟨rfl, rfl⟩
  | n + 1, x, y, hx, hy => by
    obtain ⟨h1, h2⟩ := qgd n (x / 2) (y / 2) (by rw [Nat.pow_succ] at hx; omega) (by rw [Nat.pow_succ] at hy; omega)
    rw [← Nat.and_div_two, ← Nat.or_div_two] at h1 h2
    rw [← Nat.xor_div_two] at h2
    have a1 : (x &&& y) % 2 = (x % 2) &&& (y % 2) := Nat.and_mod_two_pow (n := 1)
    have a2 : (x ||| y) % 2 = (x % 2) ||| (y % 2) := Nat.or_mod_two_pow (n := 1)
    have a3 : (x ^^^ y) % 2 = (x % 2) ^^^ (y % 2) := Nat.xor_mod_two_pow (n := 1)
    rcases Nat.mod_two_eq_zero_or_one x with e1 | e1 <;> rcases Nat.mod_two_eq_zero_or_one y with e2 | e2 <;>
      · rw [e1, e2] at a1 a2 a3
        simp only [Nat.zero_and, Nat.and_self, Nat.or_self, Nat.zero_or, Nat.or_zero, Nat.and_zero, Nat.xor_self, Nat.zero_xor, Nat.xor_zero] at a1 a2 a3
        omega
/-- The words of two rows, put together. -/
def qnd (f : Nat → Nat → Nat) : List Nat → List Nat → List Nat := List.zipWith f
theorem qne : ∀ (l m : List Nat), Dig l → Dig m → l.length = m.length →
    val (qnd (fun x y => x &&& y) l m) + val (qnd (fun x y => x ||| y) l m) = val l + val m ∧ val (qnd (fun x y => x ^^^ y) l m) + val (qnd (fun x y => x &&& y) l m) = val (qnd (fun x y => x ||| y) l m)
  | [], [], _, _, _ => ⟨rfl, rfl⟩
  | a :: l, b :: m, h1, h2, h3 => by
    have ih := qne l m (fun z hz => h1 z (List.mem_cons_of_mem _ hz)) (fun z hz => h2 z (List.mem_cons_of_mem _ hz)) (by simpa using h3)
    have k := qgd 32 a b (h1 a (List.mem_cons_self ..)) (h2 b (List.mem_cons_self ..))
    unfold qnd at *
    simp only [List.zipWith_cons_cons, val_cons]
    omega
  | [], _ :: _, _, _, h => by simp at h
  | _ :: _, [], _, _, h => by simp at h
/-- The whole number of a row without end. -/
def vv (b : Bool) (y : Nat) : Int := if b = true then -((y : Int) + 1) else (y : Int)
theorem qnf {b : Bool} {x : Nat} (h : b.toNat ≤ x) : vv b (x - b.toNat) = sgn b x := by
  unfold vv sgn
  cases b with
  | false => simp
  | true =>
    simp at h ⊢
    omega
theorem zpg (b : Bool) (y : Nat) : sgn b (y + b.toNat) = vv b y := by
  unfold vv sgn
  cases b with
  | false => simp
  | true => simp
theorem zkj (b : Bool) (y n : Nat) : ko b y (n + 1) = ko b y n ++ [rwd b y n] := by simp [ko, List.range_succ]
theorem zph {x : Nat} (h : x < 4294967296) : x ^^^ 4294967295 = 4294967295 - x := by
  have k := qgd 32 x 4294967295 h (by decide)
  have e : x &&& 4294967295 = x := by
    rw [show (4294967295 : Nat) = 2 ^ 32 - 1 from rfl, Nat.and_two_pow_sub_one_eq_mod]
    exact Nat.mod_eq_of_lt h
  omega
theorem qyc (n : Nat) : pw (n + 1) = pw n * 4294967296 := by rw [pw_succ, Nat.mul_comm]
theorem quc {y n : Nat} (h : (words y).length ≤ n) : y < pw n := (Nat.div_eq_zero_iff_lt (pw_pos n)).1 (div_words_length y n h)
theorem qyd (b : Bool) (y : Nat) : ∀ n, (val (ko b y n) : Int) = (if b = true then (pw n : Int) - 1 - ((y % pw n : Nat) : Int) else ((y % pw n : Nat) : Int))
  | 0 => by cases b <;> simp [ko, pw, Nat.mod_one, val_nil]
  | n + 1 => by
    have ih := qyd b y n
    have hs : y % pw (n + 1) = y % pw n + pw n * (y / pw n % 4294967296) := by rw [qyc, Nat.mod_mul]
    rw [zkj, val_snoc, vn]
    have hp := qyc n
    have hl : y / pw n % 4294967296 < 4294967296 := Nat.mod_lt _ (by decide)
    unfold rwd
    cases b with
    | false =>
      simp only [Bool.toNat_false, Nat.zero_mul, Nat.xor_zero] at *
      simp only [Bool.false_eq_true, if_false] at ih ⊢
      rw [hs]
      generalize pw n * (y / pw n % 4294967296) = A at *
      omega
    | true =>
      simp only [Bool.toNat_true, Nat.one_mul] at *
      rw [zph hl]
      simp only [if_true] at ih ⊢
      rw [hs, hp]
      have e : pw n * (4294967295 - y / pw n % 4294967296) + pw n * (y / pw n % 4294967296) = pw n * 4294967295 := by rw [← Nat.mul_add]; congr 1; omega
      generalize pw n * (y / pw n % 4294967296) = A at *
      generalize pw n * (4294967295 - y / pw n % 4294967296) = C at *
      omega
theorem ul {b : Bool} {y n : Nat} (h : (words y).length ≤ n) : vv b y = (val (ko b y n) : Int) - ((b.toNat * pw n : Nat) : Int) := by
  have hy : y < pw n := quc h
  rw [qyd, Nat.mod_eq_of_lt hy]
  unfold vv
  cases b with
  | false => simp
  | true => simp; omega
section
variable {fop : Nat → Nat → Nat} {fb : Bool → Bool → Bool} {b1 b2 : Bool} {y1 y2 : Nat}
theorem zpi (h : BOp fop fb) {i : Nat} (hi : i < max (words y1).length (words y2).length) : rwd (fb b1 b2) (xd fop fb b1 y1 b2 y2) i = fop (rwd b1 y1 i) (rwd b2 y2 i) := by
  have e : xd fop fb b1 y1 b2 y2 / pw i % 4294967296 = qqb fop fb b1 y1 b2 y2 i := by
    unfold xd
    rw [← zob (qxd h _) i, qxc hi]
  unfold rwd
  rw [e]
  unfold qqb
  rw [Nat.xor_assoc, Nat.xor_self, Nat.xor_zero]
  rfl
theorem zpj (h : BOp fop fb) : ko (fb b1 b2) (xd fop fb b1 y1 b2 y2) (max (words y1).length (words y2).length) = qnd fop (ko b1 y1 (max (words y1).length (words y2).length)) (ko b2 y2 (max (words y1).length (words y2).length)) := by
  unfold qnd ko
  rw [List.zipWith_map, List.zipWith_self]
  apply List.map_congr_left
  intro i hi
  exact zpi h (List.mem_range.1 hi)
theorem zxh (h : BOp fop fb) : vv (fb b1 b2) (xd fop fb b1 y1 b2 y2) = (val (qnd fop (ko b1 y1 (max (words y1).length (words y2).length)) (ko b2 y2 (max (words y1).length (words y2).length))) : Int) - (((fb b1 b2).toNat * pw (max (words y1).length (words y2).length) : Nat) : Int) := by
  rw [ul (qxe h (Nat.le_max_left _ _) (Nat.le_max_right _ _)), zpj h]
end
theorem zqa (b1 : Bool) (y1 : Nat) (b2 : Bool) (y2 : Nat) :
    vv (b1 && b2) (xd (fun x y => x &&& y) (fun b c => b && c) b1 y1 b2 y2) + vv (b1 || b2) (xd (fun x y => x ||| y) (fun b c => b || c) b1 y1 b2 y2) = vv b1 y1 + vv b2 y2 ∧
    vv (b1 || b2) (xd (fun x y => x ||| y) (fun b c => b || c) b1 y1 b2 y2) - vv (b1 && b2) (xd (fun x y => x &&& y) (fun b c => b && c) b1 y1 b2 y2) = vv (b1 != b2) (xd (fun x y => x ^^^ y) (fun b c => b != c) b1 y1 b2 y2) := by
  have k1 := zxh zod (b1 := b1) (y1 := y1) (b2 := b2) (y2 := y2)
  have k2 := zxh or_op (b1 := b1) (y1 := y1) (b2 := b2) (y2 := y2)
  have k3 := zxh xor_op (b1 := b1) (y1 := y1) (b2 := b2) (y2 := y2)
  have k4 := ul (b := b1) (Nat.le_max_left (words y1).length (words y2).length)
  have k5 := ul (b := b2) (Nat.le_max_right (words y1).length (words y2).length)
  obtain ⟨h1, h2⟩ := qne _ _ (yt b1 y1 (max (words y1).length (words y2).length)) (yt b2 y2 (max (words y1).length (words y2).length)) (by rw [vn, vn])
  rw [k1, k2, k3, k4, k5]
  cases b1 <;> cases b2 <;> simp at h1 h2 ⊢ <;> omega
theorem qye {b1 b2 : Bool} {x1 x2 : Nat} (hx1 : (words x1).length ≤ 512) (hb1 : b1.toNat ≤ x1) (hx2 : (words x2).length ≤ 512) (hb2 : b2.toNat ≤ x2) : kq (Q6.whole b1 x1) (Q6.whole b2 x2) = 0 := by
  unfold kq
  rw [vb hx1 hb1, vb hx2 hb2, qac hx1 hb1, qac hx2 hb2]
  simp
theorem qci {b : Bool} {x : Nat} (hx : (words x).length ≤ 512) (hb : b.toNat ≤ x) : ji (Q6.whole b x) = 0 := by
  unfold ji
  rw [vb hx hb, qac hx hb]
  simp
section
variable {fop : Nat → Nat → Nat} {fb : Bool → Bool → Bool}
end
section
variable {P : Program} {md : Region.Mode} {ops : List Oper} {Q : Exit → Act → World → Prop} {S : World → Prop} {fuel : Nat} {listed : Array Bool} {a : Act} {w w' : World} {n : Nat} {l : List (Nat × Value)} {o : Oper} {v : Value}
end
section
variable {P : Program} {t : TypeId} {a b : Operand}
end
theorem zxi {u v : Rat} (h : ¬ (jy u ∧ jy v)) : xr u v = (Q6.zero, 4) := if_neg h
theorem zqb {b : Bool} {X : Nat} (h : b.toNat ≤ X) : xr ((sgn b X : Int) : Rat) 0 = ja b X := by
  by_cases k : (words X).length ≤ 512
  · rw [yf k, zpf (qaf k) yn, ← qee h]
  · rw [qmf k, zxi]
    rintro ⟨a, _⟩
    have := a.1
    rw [Rat.num_intCast, yx] at this
    exact k this
theorem zqc (b : Bool) (y k : Nat) : vv b y / ((2 ^ k : Nat) : Int) = vv b (y / 2 ^ k) := by
  unfold vv
  cases b with
  | false => simp
  | true =>
    have e := Int.negSucc_ediv y (show (0 : Int) < ((2 ^ k : Nat) : Int) by have := Nat.two_pow_pos k; omega)
    rw [show Int.negSucc y = -((y : Int) + 1) from by omega] at e
    simp only [if_true]
    rw [e]
    rfl
theorem qyf (b : Bool) (y k : Nat) : vv b y % ((2 ^ k : Nat) : Int) = ((fld b y 0 k : Nat) : Int) := by
  have hn : (words y).length ≤ (words y).length + k := by omega
  have e := ul (b := b) hn
  have f := qnb (b := b) (y := y) (n := (words y).length + k) (c := k) (by omega)
  have hp : pw ((words y).length + k) = 2 ^ k * 2 ^ (32 * ((words y).length + k) - k) := by rw [pw_two, ← Nat.pow_add]; congr 1; omega
  rw [e, hp, ← f, Nat.mul_left_comm, Int.natCast_mul (2 ^ k), Int.sub_mul_emod_self_left, Int.natCast_emod]
end Go.Proofs.YtjkpfnghiooblaaGreatDoor
