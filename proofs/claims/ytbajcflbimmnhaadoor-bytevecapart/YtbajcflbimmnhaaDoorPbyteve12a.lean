/- A walk's state, said by two lists: what the slots hold, and which blocks of its own the call has; and a law for each kind of step. A walk's memory, said by a list of blocks of the call's own and a list of rows of words that are read; what each operation does to it. Walks of small questions: does a fraction fit, is a number real, is it 0. Numbers as values of six cells, and what they stand for. Sound and whole numbers, as questions of six parts. Fractions in lowest terms, and whole numbers of any sign, as values. Walks of the small functions of rows of bits. Are two rows of words the same? Numbers of machine words, and sameness. Walks of small numbers and of sameness. Fractions in lowest terms, as the document makes them. Walks of the document's functions over fractions. Walks of the document's sums of fractions. The document's -a - 1, and shifts of numbers. Walks of the document's -a - 1, and of shifts. How long numbers are in bits, and their opposites less one. Walks of the document's shifts, of lengths, of opposites less one, and of questions of sameness. How many bits of a number are 1. Walks of how many bits are 1. Rows of bits put together word by word. Walks of rows of bits put together. Numbers put together bit by bit. Walks of numbers put together bit by bit, and of Not. The fixed fact on bits. Walks of the fixed fact, and of sameness by the document. Walks of whole numbers of any sign. Walks of numbers over one bottom. Sound numbers as pairs of rational numbers. Walks of sums, differences, products and quotients. Walks of Add, Sub, Mul, Div. Operators on texts. Walks of the text of minus three halves, and of the fixed fact. The numbers are a field. Walks of the law of the field. Quotients of whole numbers, downwards, and the order of rational ones. Walks of the order and the quotients of real numbers. Walks of Cmp and of the quotients. Walks of divMod and DivMod. Walks of DivMod. Quotient and rest of real numbers. DivMod of any numbers. Facts of the order of real numbers. Walks of the law of the order. Powers of numbers. Walks of the powers. Walks of Expt. Rows of two's complement, as the document has them. Walks of the document's rows of two's complement. Walks of the document's And, Or, Xor and Not. Walks of the law on shifts. Walks of the law on And, Or, Xor and Not. Fields of bits. Walks of fields of bits. And, Or, Xor and Not as whole numbers. Shifts and fields of bits as products, quotients and rests. Numbers that come in as arguments. -/
import Derived.Test.YtbajcflbimmnhaaDoorBlk
import Derived.OrdersHeld
import Derived.Deep.RegionHeld3
import Derived.Laws.IdiomCopy
import Derived.ChangeKeysEq
import Derived.LoopN
import Derived.Deep.AppendLies
import Derived.Test.YtbajcflbimmnhaaDoorExG
import Derived.Test.YtbajcflbimmnhaaDoorNatN
import Derived.Test.YtbajcflbimmnhaaDoorNatQ
import Derived.Test.YtbajcflbimmnhaaDoorNatM
import Derived.Test.YtbajcflbimmnhaaDoorNatK
import Derived.Test.YtbajcflbimmnhaaDoorNatY
import Derived.Test.YtbajcflbimmnhaaDoorGcdD
import Derived.Test.YtbajcflbimmnhaaDoorNatP
import Derived.Test.YtbajcflbimmnhaaDoorNatH
import Derived.Test.YtbajcflbimmnhaaDoorNatZ
import Derived.Test.YtbajcflbimmnhaaDoorGcdMath
import Derived.Deep.LoopGhost
import Derived.Test.YtbajcflbimmnhaaDoorNatL
import Derived.Test.YtbajcflbimmnhaaDoorBits
import Derived.Test.YtbajcflbimmnhaaDoorBiTrim
import Derived.Test.YtbajcflbimmnhaaDoorTxtD
import Derived.Test.YtbajcflbimmnhaaDoorNatF
import Derived.Test.YtbajcflbimmnhaaDoorArgs
import Derived.WalkKit
import Derived.ProofKit
import Derived.OpenShut
import Derived.ChangeOld
import Derived.Lib.SmallJoins
import Derived.Deep.Strs
namespace Go.Proofs.YtbajcflbimmnhaaDoor
open Go.RowKit
set_option linter.unusedVariables false
set_option linter.unusedSimpArgs false

/-! ### Slots -/
def look : List (Nat × Value) → Nat → Option Value
  | [], _ => none
  | (k, v) :: t, n => cond (Nat.beq k n) (some v) (look t n)
/-- What an operand is. -/
def ev (l : List (Nat × Value)) : Operand → Option Value
  | .tmp k => look l k
  | .const v => some v
  | .global g => some (.pointer (some ⟨g, 0, none⟩))
  | .func f => some (.func (.func f) #[] #[])
def evs (l : List (Nat × Value)) : List Operand → Option (List Value)
  | [] => some []
  | x :: xs => match ev l x, evs l xs with | some v, some vs => some (v :: vs) | _, _ => none
def evp (l : List (Nat × Value)) : List (Nat × Operand) → Option (List (Nat × Value))
  | [] => some []
  | (i, x) :: xs => match ev l x, evp l xs with | some v, some vs => some ((i, v) :: vs) | _, _ => none
/-- The frame has n slots, and those that the list names hold what it says; no call waits for the end. -/
structure Sl (a : Act) (n : Nat) (l : List (Nat × Value)) : Prop where
  size : a.tmps.size = n
  holds : ∀ k v, look l k = some v → a.tmps[k]? = some v
  none_ : a.defers = []
section
variable {a : Act} {n : Nat} {l : List (Nat × Value)}
theorem Sl.ev (h : Sl a n l) {x : Operand} {v : Value} (hx : ev l x = some v) : a.eval x = v := by
  cases x with
  | tmp k =>
    have := h.holds k v hx
    simp [Act.eval, Array.getD_eq_getD_getElem?, this]
  | const u => simpa [YtbajcflbimmnhaaDoor.ev, Act.eval] using hx
  | global g => simpa [YtbajcflbimmnhaaDoor.ev, Act.eval] using hx
  | func f => simpa [YtbajcflbimmnhaaDoor.ev, Act.eval] using hx
theorem Sl.evs (h : Sl a n l) : ∀ {xs : List Operand} {vs : List Value}, evs l xs = some vs → xs.map a.eval = vs := by
  intro xs
  induction xs with
  | nil => intro vs hx; simp [YtbajcflbimmnhaaDoor.evs] at hx; simp [hx]
  | cons x xs ih =>
    intro vs hx
    unfold YtbajcflbimmnhaaDoor.evs at hx
    split at hx
    · rename_i v us h1 h2
      cases hx
      simp [h.ev h1, ih h2]
    · cases hx
theorem Sl.evp (h : Sl a n l) : ∀ {xs : List (Nat × Operand)} {vs : List (Nat × Value)}, evp l xs = some vs → xs.map (fun p => (p.1, a.eval p.2)) = vs := by
  intro xs
  induction xs with
  | nil => intro vs hx; simp [YtbajcflbimmnhaaDoor.evp] at hx; simp [hx]
  | cons x xs ih =>
    intro vs hx
    obtain ⟨i, x⟩ := x
    unfold YtbajcflbimmnhaaDoor.evp at hx
    split at hx
    · rename_i v us h1 h2
      cases hx
      simp [h.ev h1, ih h2]
    · cases hx
theorem Sl.put (h : Sl a n l) {d : Nat} (hd : Nat.blt d n = true) (v : Value) : Sl (a.put (some d) v) n ((d, v) :: l) := by
  refine ⟨by simp [Act.put, h.size], fun k u hk => ?_, by simp [Act.put, h.none_]⟩
  have hd' : d < a.tmps.size := by rw [h.size]; exact Nat.le_of_ble_eq_true hd
  unfold look at hk
  cases hb : Nat.beq d k with
  | true =>
    rw [hb] at hk
    have : d = k := Nat.eq_of_beq_eq_true hb
    subst this
    simp only [cond_true, Option.some.injEq] at hk
    subst hk
    simp [Act.put, Array.getElem?_setIfInBounds, hd']
  | false =>
    rw [hb] at hk
    have hne : d ≠ k := fun e => by rw [e, Nat.beq_refl] at hb; cases hb
    simp only [cond_false] at hk
    simp [Act.put, Array.getElem?_setIfInBounds, hne, h.holds k u hk]
theorem Sl.enter {args : List Value} {m : Nat} (hl : args.length ≤ m) : Sl { tmps := args.toArray ++ Array.replicate (m - args.toArray.size) undef, defers := [] } m (args.zipIdx.map fun p => (p.2, p.1)) := by
  refine ⟨by simp; omega, fun k v hk => ?_, rfl⟩
  have key : ∀ (xs : List Value) (o : Nat), look ((xs.zipIdx o).map fun p => (p.2, p.1)) k = some v → o ≤ k ∧ xs[k - o]? = some v := by
    intro xs
    induction xs with
    | nil => intro o h; simp [look] at h
    | cons x xs ih =>
      intro o h
      simp only [List.zipIdx_cons, List.map_cons, look] at h
      cases hb : Nat.beq o k with
      | true =>
        rw [hb] at h
        have : o = k := Nat.eq_of_beq_eq_true hb
        subst this
        simp only [cond_true, Option.some.injEq] at h
        simp [h]
      | false =>
        rw [hb] at h
        have hne : o ≠ k := fun e => by rw [e, Nat.beq_refl] at hb; cases hb
        simp only [cond_false] at h
        obtain ⟨h1, h2⟩ := ih _ h
        refine ⟨by omega, ?_⟩
        have : k - o = (k - (o + 1)) + 1 := by omega
        rw [this, List.getElem?_cons_succ]
        exact h2
  have h := (key args 0 hk).2
  simp only [Nat.sub_zero] at h
  have hlt : k < args.length := (List.getElem?_eq_some_iff.1 h).1
  rw [Array.getElem?_append_left (by simpa using hlt)]
  simpa using h
def AllIn (l : List (Nat × Value)) : List (Nat × Value) → Prop
  | [] => True
  | p :: t => look l p.1 = some p.2 ∧ AllIn l t
theorem Sl.keep (h : Sl a n l) (l' : List (Nat × Value)) (hs : AllIn l l') : Sl a n l' := by
  refine ⟨h.size, ?_, h.none_⟩
  induction l' with
  | nil => intro k v hk; simp [look] at hk
  | cons p t ih =>
    intro k v hk
    obtain ⟨d, u⟩ := p
    unfold look at hk
    cases hb : Nat.beq d k with
    | true =>
      rw [hb] at hk
      have : d = k := Nat.eq_of_beq_eq_true hb
      subst this
      simp only [cond_true, Option.some.injEq] at hk
      subst hk
      exact h.holds _ _ hs.1
    | false =>
      rw [hb] at hk
      exact ih hs.2 k v hk
theorem Sl.cut (h : Sl a n l) (l' : List (Nat × Value)) (hl : ∀ k v, look l' k = some v → look l k = some v) : Sl a n l' := ⟨h.size, fun k v hk => h.holds k v (hl k v hk), h.none_⟩
end

/-! ### What an operation does -/
/-- With these slots, in this world, the operation yields v and leaves w'. -/
def Does (P : Program) (l : List (Nat × Value)) (o : Oper) (w : World) (v : Value) (w' : World) : Prop :=
  ∀ ρ : Operand → Value, (∀ x u, ev l x = some u → ρ x = u) → (execOp ρ o).run P w = .ok (.value v) w'
/-- .. yields nothing (a store). -/
def Sets (P : Program) (l : List (Nat × Value)) (o : Oper) (w : World) (w' : World) : Prop :=
  ∀ ρ : Operand → Value, (∀ x u, ev l x = some u → ρ x = u) → (execOp ρ o).run P w = .ok .skip w'
/-- .. calls a function. -/
def Enters (P : Program) (l : List (Nat × Value)) (o : Oper) (w : World) (f : FuncId) (vs : List Value) : Prop :=
  ∀ ρ : Operand → Value, (∀ x u, ev l x = some u → ρ x = u) → (execOp ρ o).run P w = .ok (.enter f vs.toArray) w
/-- Its guard, if it has one, says yes. -/
def passes (l : List (Nat × Value)) (ops : List Oper) (o : Oper) : Bool :=
  match o.guard with
  | none => true
  | some (j, b) => match ops[j]? with
    | some oj => match oj.dst with
      | some d => match look l d with
        | some (.bool b') => b' == b
        | _ => false
      | none => false
    | none => false
/-- Its guard says no. -/
def stays (l : List (Nat × Value)) (ops : List Oper) (o : Oper) : Bool :=
  match o.guard with
  | none => false
  | some (j, b) => match ops[j]? with
    | some oj => match oj.dst with
      | some d => match look l d with
        | some (.bool b') => b' != b
        | _ => false
      | none => false
    | none => false
section
variable {P : Program} {ops : List Oper} {Q : Exit → Act → World → Prop} {a : Act} {w w' : World} {n : Nat} {l : List (Nat × Value)} {o : Oper} {v : Value} {rest : List Oper}
theorem Sl.wanted (h : Sl a n l) (hp : passes l ops o = true) : Region.wanted o (yielded ops.toArray a.tmps) = true := by
  unfold Region.wanted
  unfold passes at hp
  split at hp
  · rename_i hg; rw [hg]
  · rename_i j b hg
    rw [hg]
    split at hp
    · rename_i oj hj
      split at hp
      · rename_i d hd
        split at hp
        · rename_i b' hb
          have := h.holds d _ hb
          simp only [beq_iff_eq] at hp
          simp [yielded, hj, hd, this, hp]
        · cases hp
      · cases hp
    · cases hp
theorem Sl.unwanted (h : Sl a n l) (hp : stays l ops o = true) : Region.wanted o (yielded ops.toArray a.tmps) = false := by
  unfold Region.wanted
  unfold stays at hp
  split at hp
  · cases hp
  · rename_i j b hg
    rw [hg]
    split at hp
    · rename_i oj hj
      split at hp
      · rename_i d hd
        split at hp
        · rename_i b' hb
          have := h.holds d _ hb
          simp only [bne_iff_ne, ne_eq] at hp
          simp [yielded, hj, hd, this, hp]
        · cases hp
      · cases hp
    · cases hp
/-- One step of a region that goes in its text's order. -/
theorem seq_do (hA : Sl a n l) (hg : passes l ops o = true) {d : Nat} (hdst : o.dst = some d) (hd : Nat.blt d n = true) (he : Does P l o w v w')
    (hk : ∀ a', Sl a' n ((d, v) :: l) → wpList P ops.toArray Q rest a' w') : wpList P ops.toArray Q (o :: rest) a w := by
  unfold wpList
  rw [if_pos (hA.wanted hg)]
  refine .inl ?_
  unfold Oper.wp
  rw [he a.eval (fun x u hx => hA.ev hx), Oper.upon_value, hdst]
  exact hk _ (hA.put hd v)
theorem seq_set (hA : Sl a n l) (hg : passes l ops o = true) (hdst : o.dst = none) (he : Sets P l o w w')
    (hk : wpList P ops.toArray Q rest a w') : wpList P ops.toArray Q (o :: rest) a w := by
  unfold wpList
  rw [if_pos (hA.wanted hg)]
  refine .inl ?_
  unfold Oper.wp
  rw [he a.eval (fun x u hx => hA.ev hx), Oper.upon_skip, hdst]
  exact hk
theorem seq_skip (hA : Sl a n l) (hg : stays l ops o = true) {d : Nat} (hdst : o.dst = some d) (hd : Nat.blt d n = true)
    (hk : ∀ a', Sl a' n ((d, undef) :: l) → wpList P ops.toArray Q rest a' w) : wpList P ops.toArray Q (o :: rest) a w := by
  unfold wpList
  rw [hA.unwanted hg, if_neg (by simp), hdst]
  exact hk _ (hA.put hd undef)
theorem seq_call (hA : Sl a n l) (hg : passes l ops o = true) {d : Nat} (hdst : o.dst = some d) (hd : Nat.blt d n = true) {f : FuncId} {vs : List Value} (he : Enters P l o w f vs)
    {R : Ending → World → Prop} (hc : Calls P f vs.toArray w R)
    (hk : ∀ e w', R e w' → ∃ v, e = .returned v ∧ ∀ a', Sl a' n ((d, v) :: l) → wpList P ops.toArray Q rest a' w') : wpList P ops.toArray Q (o :: rest) a w := by
  unfold wpList
  rw [if_pos (hA.wanted hg)]
  refine .inl ?_
  unfold Oper.wp
  rw [he a.eval (fun x u hx => hA.ev hx), Oper.upon_enter]
  refine hc.mono ?_
  intro e w' hR
  obtain ⟨v, rfl, h⟩ := hk e w' hR
  simp only [hdst]
  exact h _ (hA.put hd v)
theorem seq_end (hk : Q .normal a w) : wpList P ops.toArray Q [] a w := hk
/-! .. and of a region that draws its order: S is what every world on the way meets. -/
variable {S : World → Prop} {md : Region.Mode} {fuel : Nat} {listed : Array Bool}
theorem any_take (hA : Sl a n l) (i : Nat) (hi : ops[i]? = some o) (hg : passes l ops o = true) {d : Nat} (hdst : o.dst = some d) (hd : Nat.blt d n = true) (hs : Region.noSelect ops.toArray = true) (hf : Region.free md ops.toArray listed i = true)
    (hr : (Region.ready md ops.toArray listed).contains i = true) (hQ : ∀ c a w, Q (.panic c) (a.put o.dst v) w → Q (.panic c) a w) (hS : S w) (he : ∀ w, S w → Does P l o w v w)
    (hk : ∀ a', Sl a' n ((d, v) :: l) → wpAnyH P md ops.toArray Q S fuel (listed.setIfInBounds i true) a' w) : wpAnyH P md ops.toArray Q S (fuel + 1) listed a w := by
  refine wpAnyH_take (i := i) (oi := o) (v := v) (by simpa using hi) hs hf hr hQ (Or.inl ⟨hA.wanted hg, fun w hw => he w hw a.eval (fun x u hx => hA.ev hx)⟩) hS ?_
  rw [hdst]
  exact hk _ (hA.put hd v)
theorem any_tk (hA : Sl a n l) (i : Nat) (hi : ops[i]? = some o) (hg : passes l ops o = true) {d : Nat} (hdst : o.dst = some d) (hd : Nat.blt d n = true) (hP : ∀ c a d v w, Q (.panic c) (Act.put a d v) w → Q (.panic c) a w) (hS : S w) (he : ∀ w, S w → Does P l o w v w)
    (hk : ∀ a', Sl a' n ((d, v) :: l) → wpAnyH P md ops.toArray Q S fuel (listed.setIfInBounds i true) a' w) (hs : Region.noSelect ops.toArray = true := by kernel_rfl) (hf : Region.free md ops.toArray listed i = true := by kernel_rfl) (hr : (Region.ready md ops.toArray listed).contains i = true := by kernel_rfl) : wpAnyH P md ops.toArray Q S (fuel + 1) listed a w :=
  any_take hA i hi hg hdst hd hs hf hr (fun c a w h => hP c a _ _ w h) hS he hk
theorem any_skip (hA : Sl a n l) (i : Nat) (hi : ops[i]? = some o) (hg : stays l ops o = true) {d : Nat} (hdst : o.dst = some d) (hd : Nat.blt d n = true) (hs : Region.noSelect ops.toArray = true) (hf : Region.free md ops.toArray listed i = true)
    (hr : (Region.ready md ops.toArray listed).contains i = true) (hQ : ∀ c a w, Q (.panic c) (a.put o.dst undef) w → Q (.panic c) a w) (hS : S w)
    (hk : ∀ a', Sl a' n ((d, undef) :: l) → wpAnyH P md ops.toArray Q S fuel (listed.setIfInBounds i true) a' w) : wpAnyH P md ops.toArray Q S (fuel + 1) listed a w := by
  refine wpAnyH_take (i := i) (oi := o) (v := undef) (by simpa using hi) hs hf hr hQ (Or.inr ⟨hA.unwanted hg, rfl⟩) hS ?_
  rw [hdst]
  exact hk _ (hA.put hd undef)
theorem any_sk (hA : Sl a n l) (i : Nat) (hi : ops[i]? = some o) (hg : stays l ops o = true) {d : Nat} (hdst : o.dst = some d) (hd : Nat.blt d n = true) (hP : ∀ c a d v w, Q (.panic c) (Act.put a d v) w → Q (.panic c) a w) (hS : S w)
    (hk : ∀ a', Sl a' n ((d, undef) :: l) → wpAnyH P md ops.toArray Q S fuel (listed.setIfInBounds i true) a' w) (hs : Region.noSelect ops.toArray = true := by kernel_rfl) (hf : Region.free md ops.toArray listed i = true := by kernel_rfl) (hr : (Region.ready md ops.toArray listed).contains i = true := by kernel_rfl) : wpAnyH P md ops.toArray Q S (fuel + 1) listed a w :=
  any_skip hA i hi hg hdst hd hs hf hr (fun c a w h => hP c a _ _ w h) hS hk
/-- One operation of it. -/
theorem op_do (hA : Sl a n l) (i : Nat) (hi : ops[i]? = some o) (hg : passes l ops o = true) {d : Nat} (hdst : o.dst = some d) (hd : Nat.blt d n = true) (he : Does P l o w v w') (hS : S w')
    (hk : ∀ a', Sl a' n ((d, v) :: l) → wpAnyH P md ops.toArray Q S fuel (listed.setIfInBounds i true) a' w') : wpOp P ops.toArray Q i (fun a' w' => S w' ∧ wpAnyH P md ops.toArray Q S fuel (listed.setIfInBounds i true) a' w') a w := by
  unfold wpOp
  simp only [List.getElem?_toArray, hi]
  rw [if_pos (hA.wanted hg)]
  refine .inl ?_
  unfold Oper.wp
  rw [he a.eval (fun x u hx => hA.ev hx), Oper.upon_value, hdst]
  exact ⟨hS, hk _ (hA.put hd v)⟩
theorem op_set (hA : Sl a n l) (i : Nat) (hi : ops[i]? = some o) (hg : passes l ops o = true) (hdst : o.dst = none) (he : Sets P l o w w') (hS : S w')
    (hk : wpAnyH P md ops.toArray Q S fuel (listed.setIfInBounds i true) a w') : wpOp P ops.toArray Q i (fun a' w' => S w' ∧ wpAnyH P md ops.toArray Q S fuel (listed.setIfInBounds i true) a' w') a w := by
  unfold wpOp
  simp only [List.getElem?_toArray, hi]
  rw [if_pos (hA.wanted hg)]
  refine .inl ?_
  unfold Oper.wp
  rw [he a.eval (fun x u hx => hA.ev hx), Oper.upon_skip, hdst]
  exact ⟨hS, hk⟩
theorem op_call (hA : Sl a n l) (i : Nat) (hi : ops[i]? = some o) (hg : passes l ops o = true) {d : Nat} (hdst : o.dst = some d) (hd : Nat.blt d n = true)
    {f : FuncId} {vs : List Value} (he : Enters P l o w f vs) {R : Ending → World → Prop} (hc : Calls P f vs.toArray w R)
    (hk : ∀ e w', R e w' → ∃ v, e = .returned v ∧ S w' ∧ ∀ a', Sl a' n ((d, v) :: l) → wpAnyH P md ops.toArray Q S fuel (listed.setIfInBounds i true) a' w') : wpOp P ops.toArray Q i (fun a' w' => S w' ∧ wpAnyH P md ops.toArray Q S fuel (listed.setIfInBounds i true) a' w') a w := by
  unfold wpOp
  simp only [List.getElem?_toArray, hi]
  rw [if_pos (hA.wanted hg)]
  refine .inl ?_
  unfold Oper.wp
  rw [he a.eval (fun x u hx => hA.ev hx), Oper.upon_enter]
  refine hc.mono ?_
  intro e w' hR
  obtain ⟨v, rfl, h1, h2⟩ := hk e w' hR
  simp only [hdst]
  exact ⟨h1, h2 _ (hA.put hd v)⟩
/-- Nothing else may come up. -/
theorem any_one {i : Nat} (hr : Region.ready md ops.toArray listed = [i]) (h : wpOp P ops.toArray Q i (fun a' w' => S w' ∧ wpAnyH P md ops.toArray Q S fuel (listed.setIfInBounds i true) a' w') a w) : wpAnyH P md ops.toArray Q S (fuel + 1) listed a w :=
  wpAnyH_all hr (by simp) (fun j hj => by rw [List.mem_singleton] at hj; subst hj; exact h)
def AllOps (W : Nat → Prop) : List Nat → Prop
  | [] => True
  | i :: t => W i ∧ AllOps W t
theorem AllOps.get {W : Nat → Prop} : ∀ {rs : List Nat}, AllOps W rs → ∀ i ∈ rs, W i
  | _ :: _, h, i, hi => by
    rcases List.mem_cons.1 hi with rfl | hi
    · exact h.1
    · exact AllOps.get h.2 i hi
/-- Whichever comes up. -/
theorem any_many {rs : List Nat} (hr : Region.ready md ops.toArray listed = rs) (hne : rs ≠ []) (h : AllOps (fun i => wpOp P ops.toArray Q i (fun a' w' => S w' ∧ wpAnyH P md ops.toArray Q S fuel (listed.setIfInBounds i true) a' w') a w) rs) : wpAnyH P md ops.toArray Q S (fuel + 1) listed a w :=
  wpAnyH_all hr hne (fun i hi => h.get i hi)
theorem any_end (hr : Region.ready md ops.toArray listed = []) (hk : Q .normal a w) : wpAnyH P md ops.toArray Q S fuel listed a w := wpAnyH_done hr hk fuel
end
end Go.Proofs.YtbajcflbimmnhaaDoor
namespace Go.Proofs.YtbajcflbimmnhaaDoor
open Go.RowKit
set_option linter.unusedVariables false
set_option linter.unusedSimpArgs false

def noWord : Value → Bool
  | .int .u32 _ => false
  | _ => true
theorem noWord_ne {v : Value} (h : noWord v = true) : ∀ n, v ≠ .int .u32 n := by
  intro n e
  subst e
  cases h
/-- Their blocks are others, where they have any. -/
def Apart (x y : Option Addr) : Prop := ∀ a b, x = some a → y = some b → a.block ≠ b.block
def Off (x : Option Addr) (g : Nat) : Prop := ∀ a, x = some a → a.block ≠ g
/-- Memory: as it was at w0, but for new blocks: those of L hold these cells; R: what is read as rows of words; O: rows of words of the call's own, written in place. -/
structure St (w0 w : World) (L : List (Nat × List Value)) (R : List (Option Addr × List Nat)) (O : List (Option Addr × Nat × List Nat)) : Prop where
  bel : Below w0.heap.size w0 w
  own : ∀ p ∈ L, w0.heap.size ≤ p.1 ∧ Blk w p.1 p.2
  dis : L.Pairwise (fun p q => p.1 ≠ q.1)
  rds : ∀ r ∈ R, Rd w r.1 r.2
  rows : ∀ o ∈ O, Own w0.heap.size w o.1 o.2.1 o.2.2
  sepO : O.Pairwise (fun p q => Apart p.1 q.1)
  sepL : ∀ o ∈ O, ∀ p ∈ L, Off o.1 p.1
  sepR : ∀ o ∈ O, ∀ r ∈ R, r.2 ≠ [] → Apart o.1 r.1
section
variable {w0 w w' : World} {L : List (Nat × List Value)} {R : List (Option Addr × List Nat)} {O : List (Option Addr × Nat × List Nat)}
theorem St.start (w : World) : St w w [] [] [] := ⟨Below.refl _ _, by simp, .nil, by simp, by simp, .nil, by simp, by simp⟩
theorem St.addR (h : St w0 w L R []) {so : Option Addr} {l : List Nat} (hr : Rd w so l) : St w0 w L ((so, l) :: R) [] :=
  ⟨h.bel, h.own, h.dis, fun r hm => by rcases List.mem_cons.1 hm with rfl | hm; exact hr; exact h.rds r hm, by simp, .nil, by simp, by simp⟩
/-- What a call has made new lies apart from what was there. -/
theorem St.fresh (h : St w0 w L R O) {so : Option Addr} {c : Nat} {l : List Nat} (ho : Own w.heap.size w' so c l) : ∀ o ∈ O, Apart o.1 so := fun o hm a b ha hb => by
  have h1 := ((h.rows o hm).lt a ha).2
  have h2 := (ho.lt b hb).1
  omega
theorem St.rd (h : St w0 w L R O) (k : Nat) {so : Option Addr} {l : List Nat} (hk : R[k]? = some (so, l)) : Rd w so l := h.rds _ (List.mem_of_getElem? hk)
theorem St.row (h : St w0 w L R O) (k : Nat) {so : Option Addr} {c : Nat} {l : List Nat} (hk : O[k]? = some (so, c, l)) : Own w0.heap.size w so c l := h.rows _ (List.mem_of_getElem? hk)
theorem St.call (h : St w0 w L R O) (hb : Below w.heap.size w w') : St w0 w' L R O :=
  ⟨chain2 h.bel hb, fun p hp => ⟨(h.own p hp).1, (h.own p hp).2.below hb⟩, h.dis, fun r hr => (h.rds r hr).below hb, fun o ho => (h.rows o ho).below hb, h.sepO, h.sepL, h.sepR⟩
theorem St.drew (h : St w0 w L R O) : St w0 w.drew L R O := ⟨h.bel.drew, fun p hp => ⟨(h.own p hp).1, (h.own p hp).2.drew⟩, h.dis, fun r hr => (h.rds r hr).drew, fun o ho => (h.rows o ho).drew, h.sepO, h.sepL, h.sepR⟩
theorem St.lt (h : St w0 w L R O) : ∀ p ∈ L, p.1 < w.heap.size := fun p hp => (h.own p hp).2.lt
theorem St.new (h : St w0 w L R O) (vs : List Value) (t : TypeId) (hno : vs.all noWord = true) : St w0 (w.alloc (.cells vs.toArray t)) ((w.heap.size, vs) :: L) R O := by
  have hb : Below w.heap.size w (w.alloc (.cells vs.toArray t)) := (Below.refl _ _).alloc (Nat.le_refl _) _
  have h' := h.call hb
  refine ⟨h'.bel, fun p hp => ?_, List.pairwise_cons.2 ⟨fun q hq => Nat.ne_of_gt (h.lt q hq), h.dis⟩, h'.rds, h'.rows, h.sepO, fun o ho p hp => ?_, h.sepR⟩
  · rcases List.mem_cons.1 hp with rfl | hp
    · exact ⟨h.bel.size, Blk.new w vs t (fun v hv => noWord_ne (List.all_eq_true.1 hno v hv))⟩
    · exact h'.own p hp
  · rcases List.mem_cons.1 hp with rfl | hp
    · exact fun a ha => Nat.ne_of_lt ((h.rows o ho).lt a ha).2
    · exact h.sepL o ho p hp
theorem St.blk (h : St w0 w L R O) (k : Nat) {g : Nat} {vs : List Value} (hk : L[k]? = some (g, vs)) : Blk w g vs := (h.own _ (List.mem_of_getElem? hk)).2
theorem St.subL (h : St w0 w L R O) (L' : List (Nat × List Value)) (hs : L'.Sublist L) : St w0 w L' R O := ⟨h.bel, fun p hp => h.own p (hs.subset hp), h.dis.sublist hs, h.rds, h.rows, h.sepO, fun o ho p hp => h.sepL o ho p (hs.subset hp), h.sepR⟩
theorem St.subO (h : St w0 w L R O) (O' : List (Option Addr × Nat × List Nat)) (hs : O'.Sublist O) : St w0 w L R O' := ⟨h.bel, h.own, h.dis, h.rds, fun o ho => h.rows o (hs.subset ho), h.sepO.sublist hs, fun o ho => h.sepL o (hs.subset ho), fun o ho => h.sepR o (hs.subset ho)⟩
def AllR (R : List (Option Addr × List Nat)) : List (Option Addr × List Nat) → Prop
  | [] => True
  | r :: t => (∃ k : Nat, R[k]? = some r) ∧ AllR R t
theorem AllR.mem : ∀ {R' : List (Option Addr × List Nat)}, AllR R R' → ∀ r ∈ R', r ∈ R
  | r :: t, hs, x, hx => by
    rcases List.mem_cons.1 hx with rfl | hx
    · obtain ⟨⟨k, hk⟩, _⟩ := hs
      exact List.mem_of_getElem? hk
    · exact AllR.mem hs.2 x hx
theorem St.pickR (h : St w0 w L R O) (R' : List (Option Addr × List Nat)) (hs : AllR R R') : St w0 w L R' O :=
  ⟨h.bel, h.own, h.dis, fun r hr => h.rds r (hs.mem r hr), h.rows, h.sepO, h.sepL, fun o ho r hr => h.sepR o ho r (hs.mem r hr)⟩
theorem St.part {L' : List (Nat × List Value)} {R' : List (Option Addr × List Nat)} {O' : List (Option Addr × Nat × List Nat)} (h : St w0 w L R O) (hL : L'.Sublist L) (hR : AllR R R') (hO : O'.Sublist O) : St w0 w L' R' O' := ((h.pickR R' hR).subL L' hL).subO O' hO
theorem St.partD {L' : List (Nat × List Value)} {R' : List (Option Addr × List Nat)} {O' : List (Option Addr × Nat × List Nat)} (h : St w0 w L R O) (hL : L'.Sublist L) (n : Nat) (hR : R.drop n = R') (hO : O'.Sublist O) : St w0 w L' R' O' := by
  subst hR
  refine St.subO (St.subL ⟨h.bel, h.own, h.dis, fun r hr => h.rds r (List.mem_of_mem_drop hr), h.rows, h.sepO, h.sepL, fun o ho r hr => h.sepR o ho r (List.mem_of_mem_drop hr)⟩ L' hL) O' hO
theorem St.cell (h : St w0 w L R O) (k : Nat) {g : Nat} {vs : List Value} (hk : L[k]? = some (g, vs)) (i : Nat) {v : Value} (hi : vs[i]? = some v) : w.cell? ⟨g, i, none⟩ = some v :=
  (h.own _ (List.mem_of_getElem? hk)).2.cell i v hi
theorem pairwise_set {L : List (Nat × List Value)} (h : L.Pairwise (fun p q => p.1 ≠ q.1)) {k g : Nat} {vs us : List Value} (hk : L[k]? = some (g, vs)) : (L.set k (g, us)).Pairwise (fun p q => p.1 ≠ q.1) := by
  have e : (L.set k (g, us)).map Prod.fst = L.map Prod.fst := by
    rw [List.map_set]
    apply List.ext_getElem?
    intro i
    by_cases hi : k = i
    · subst hi
      have hlt : k < (L.map Prod.fst).length := by simpa using (List.getElem?_eq_some_iff.1 hk).1
      rw [List.getElem?_set_self hlt]
      simp [hk]
    · rw [List.getElem?_set_ne hi]
  have h1 : (L.map Prod.fst).Pairwise (· ≠ ·) := List.pairwise_map.2 h
  rw [← e] at h1
  exact List.pairwise_map.1 h1
theorem other_of {L : List (Nat × List Value)} (h : L.Pairwise (fun p q => p.1 ≠ q.1)) {k g : Nat} {vs us : List Value} (hk : L[k]? = some (g, vs)) {p : Nat × List Value} (hp : p ∈ L.set k (g, us)) : p = (g, us) ∨ (p ∈ L ∧ g ≠ p.1) := by
  obtain ⟨i, hi⟩ := List.mem_iff_getElem?.1 hp
  by_cases e : k = i
  · subst e
    have hlt : k < L.length := (List.getElem?_eq_some_iff.1 hk).1
    rw [List.getElem?_set_self hlt] at hi
    exact .inl (Option.some.inj hi).symm
  · rw [List.getElem?_set_ne e] at hi
    refine .inr ⟨List.mem_of_getElem? hi, ?_⟩
    have h1 := List.pairwise_iff_getElem.1 h
    obtain ⟨hk1, hk2⟩ := List.getElem?_eq_some_iff.1 hk
    obtain ⟨hi1, hi2⟩ := List.getElem?_eq_some_iff.1 hi
    rcases Nat.lt_or_gt_of_ne e with hlt | hlt
    · have := h1 k i hk1 hi1 hlt
      rw [hk2, hi2] at this
      exact this
    · have := h1 i k hi1 hk1 hlt
      rw [hk2, hi2] at this
      exact fun e => this e.symm
theorem grown_set (w : World) (g i : Nat) (v : Value) : w.grownBy (w.setCell ⟨g, i, none⟩ v) (some g) :=
  ⟨rfl, rfl, rfl, by simp, fun k hk hne => Below.heap_setCell w ⟨g, i, none⟩ v k (fun e => hne (by rw [e]))⟩
theorem St.set (h : St w0 w L R O) (k : Nat) {g : Nat} {vs : List Value} (hk : L[k]? = some (g, vs)) (i : Nat) (hi : i < vs.length) (v : Value) (hv : noWord v = true) : St w0 (w.setCell ⟨g, i, none⟩ v) (L.set k (g, vs.set i v)) R O := by
  have hm := List.mem_of_getElem? hk
  have ho := h.own _ hm
  refine ⟨h.bel.setCell (p := ⟨g, i, none⟩) ho.1 v, fun p hp => ?_, pairwise_set h.dis hk, fun r hr => ho.2.rd (h.rds r hr) i v hi, fun o hO => (h.rows o hO).kept (grown_set w g i v) (fun a ha e => h.sepL o hO _ hm a ha (by simpa using e)), h.sepO, fun o hO p hp => ?_, h.sepR⟩
  · rcases other_of h.dis hk hp with rfl | ⟨hp, hne⟩
    · exact ⟨ho.1, ho.2.set i v hi (noWord_ne hv)⟩
    · exact ⟨(h.own p hp).1, (h.own p hp).2.far hne i v⟩
  · rcases other_of h.dis hk hp with rfl | ⟨hp, hne⟩
    · exact (show Off o.1 g from h.sepL o hO _ hm)
    · exact h.sepL o hO p hp
def over : List Value → Nat → List Value → List Value
  | vs, _, [] => vs
  | vs, o, c :: cs => over (vs.set o c) (o + 1) cs
theorem St.sets {g : Nat} : ∀ (cs : List Value) (w : World) (L : List (Nat × List Value)) (vs : List Value) (o : Nat), St w0 w L R O → ∀ k, L[k]? = some (g, vs) → o + cs.length ≤ vs.length → cs.all noWord = true → St w0 (w.setCells g o cs) (L.set k (g, over vs o cs)) R O
  | [], w, L, vs, o, h, k, hk, _, _ => by
    have : L.set k (g, over vs o []) = L := by
      apply List.ext_getElem?
      intro i
      by_cases hi : k = i
      · subst hi
        rw [List.getElem?_set_self (List.getElem?_eq_some_iff.1 hk).1, hk]
        rfl
      · rw [List.getElem?_set_ne hi]
    rw [this]
    exact h
  | c :: cs, w, L, vs, o, h, k, hk, hl, hc => by
    simp only [List.all_cons, Bool.and_eq_true] at hc
    simp only [List.length_cons] at hl
    have h1 := h.set k hk o (by omega) c hc.1
    have hk1 : (L.set k (g, vs.set o c))[k]? = some (g, vs.set o c) := List.getElem?_set_self (List.getElem?_eq_some_iff.1 hk).1
    have h2 := St.sets cs _ _ (vs.set o c) (o + 1) h1 k hk1 (by rw [List.length_set]; omega) hc.2
    rw [List.set_set] at h2
    exact h2
/-! Rows of the call's own. -/
theorem Blk.grown {g : Nat} {vs : List Value} (h : Blk w g vs) {row : Option Nat} (hg : w.grownBy w' row) (hne : some g ≠ row) : Blk w' g vs := by
  have e := hg.block g h.lt hne
  exact ⟨Nat.lt_of_lt_of_le h.lt hg.size, fun i v hv => (World.cell?_of_block (w := w) (a := ⟨g, i, none⟩) e).trans (h.cell i v hv), fun i => (World.frozen?_of_block (w := w) (a := ⟨g, i, none⟩) e).trans (h.froz i), h.no⟩
theorem othersO {k : Nat} {o u p : Option Addr × Nat × List Nat} (h : O.Pairwise (fun p q => Apart p.1 q.1)) (hk : O[k]? = some o) (hp : p ∈ O.set k u) : p = u ∨ (p ∈ O ∧ Apart o.1 p.1) := by
  obtain ⟨i, hi⟩ := List.mem_iff_getElem?.1 hp
  by_cases e : k = i
  · subst e
    rw [List.getElem?_set_self (List.getElem?_eq_some_iff.1 hk).1] at hi
    exact .inl (Option.some.inj hi).symm
  · rw [List.getElem?_set_ne e] at hi
    refine .inr ⟨List.mem_of_getElem? hi, ?_⟩
    have h1 := List.pairwise_iff_getElem.1 h
    obtain ⟨hk1, hk2⟩ := List.getElem?_eq_some_iff.1 hk
    obtain ⟨hi1, hi2⟩ := List.getElem?_eq_some_iff.1 hi
    rcases Nat.lt_or_gt_of_ne e with hlt | hlt
    · have := h1 k i hk1 hi1 hlt
      rw [hk2, hi2] at this
      exact this
    · have := h1 i k hi1 hk1 hlt
      rw [hk2, hi2] at this
      exact fun a b ha hb e => this b a hb ha e.symm
/-- One row is changed, or lies anew in a block that is made now; all else stays. -/
theorem St.turn (h : St w0 w L R O) (k : Nat) {ao : Option Addr} {c : Nat} {l : List Nat} (hk : O[k]? = some (ao, c, l)) {bo : Option Addr} {c' : Nat} {l' : List Nat} (hg : w.grownBy w' (Value.slice ao l.length c).ownBlock) (ho : Own w0.heap.size w' bo c' l') (hat : ∀ b, bo = some b → (∃ a, ao = some a ∧ a.block = b.block) ∨ b.block = w.heap.size) :
    St w0 w' L R (O.set k (bo, c', l')) := by
  have hm := List.mem_of_getElem? hk
  have hrow := h.rows _ hm
  have blk : ∀ a, ao = some a → (Value.slice ao l.length c).ownBlock = some a.block := fun a ha => by rw [ha]; rfl
  have far : ∀ g, Off ao g → some g ≠ (Value.slice ao l.length c).ownBlock := fun g hg e => by
    cases hao : ao with
    | none => rw [hao] at e; simp [Value.ownBlock] at e
    | some a => rw [blk a hao] at e; exact hg a hao (by simpa using e.symm)
  -- what lies off the old row and is there lies off the new one
  have off : ∀ g, Off ao g → g < w.heap.size → Off bo g := fun g hg hlt b hb e => by
    rcases hat b hb with ⟨a, ha, e1⟩ | e1
    · exact hg a ha (e1.trans e)
    · omega
  refine ⟨h.bel.grown hg h.bel.size (fun j hj => ?_), fun p hp => ⟨(h.own p hp).1, (h.own p hp).2.grown hg (far _ (h.sepL _ hm p hp))⟩, h.dis, fun r hr => ?_, fun o hO => ?_, ?_, fun o hO p hp => ?_, fun o hO r hr hne => ?_⟩
  · cases hao : ao with
    | none => rw [hao] at hj; simp [Value.ownBlock] at hj
    | some a => rw [blk a hao] at hj; cases hj; exact (hrow.lt a hao).1
  · by_cases hne : r.2 = []
    · rw [hne]; exact Rd.nil _ _
    · exact (h.rds r hr).grown hg (fun a ha => far _ (fun x hx e => h.sepR _ hm r hr hne x a hx ha e))
  · rcases othersO h.sepO hk hO with rfl | ⟨hO, hap⟩
    · exact ho
    · exact (h.rows o hO).kept hg (fun a ha => far _ (fun x hx e => hap x a hx ha e))
  · have key : ∀ o ∈ O, Apart ao o.1 → Apart bo o.1 := fun o hO hap b x hb hx e => off x.block (fun y hy ey => hap y x hy hx ey) ((h.rows o hO).lt x hx).2 b hb e
    rw [List.pairwise_iff_getElem]
    intro i j hi hj hij
    have hi' : i < O.length := by simpa using hi
    have hj' : j < O.length := by simpa using hj
    have h1 := List.pairwise_iff_getElem.1 h.sepO
    obtain ⟨hk1, hk2⟩ := List.getElem?_eq_some_iff.1 hk
    rw [List.getElem_set, List.getElem_set]
    by_cases e1 : k = i
    · subst e1
      rw [if_pos rfl, if_neg (by omega)]
      have := h1 k j hi' hj' hij
      rw [hk2] at this
      exact key _ (List.getElem_mem hj') this
    · rw [if_neg e1]
      by_cases e2 : k = j
      · subst e2
        rw [if_pos rfl]
        have := h1 i k hi' hj' hij
        rw [hk2] at this
        exact fun x b hx hb e => key _ (List.getElem_mem hi') (fun p q hp hq e => this q p hq hp e.symm) b x hb hx e.symm
      · rw [if_neg e2]
        exact h1 i j hi' hj' hij
  · rcases othersO h.sepO hk hO with rfl | ⟨hO, _⟩
    · exact off _ (h.sepL _ hm p hp) (h.lt p hp)
    · exact h.sepL o hO p hp
  · rcases othersO h.sepO hk hO with rfl | ⟨hO, _⟩
    · intro b x hb hx e
      obtain ⟨bb, of_, e1, hlt, _⟩ := (h.rds r hr).pos hne
      rw [e1] at hx
      cases hx
      exact off bb (fun y hy ey => h.sepR _ hm r hr hne y ⟨bb, of_, none⟩ hy e1 ey) hlt b hb e
    · exact h.sepR o hO r hr hne
theorem St.setRow (h : St w0 w L R O) (k : Nat) {g c : Nat} {l : List Nat} (hk : O[k]? = some (some ⟨g, 0, none⟩, c, l)) (j d : Nat) (hd : d < 4294967296) : St w0 (w.setCell ⟨g, j, none⟩ (.int .u32 ((d : Nat) : Int))) L R (O.set k (some ⟨g, 0, none⟩, c, l.set j d)) :=
  h.turn k hk (by exact grown_set w g j _) ((h.row k hk).set j d hd) (fun b hb => by cases hb; exact .inl ⟨_, rfl, rfl⟩)
/-- A new row is the call's own. -/
theorem St.newO (h : St w0 w L R O) (hb : Below w.heap.size w w') {bo : Option Addr} {c : Nat} {l : List Nat} (ho : Own w.heap.size w' bo c l) : St w0 w' L R ((bo, c, l) :: O) := by
  have h' := h.call hb
  refine ⟨h'.bel, h'.own, h.dis, h'.rds, fun o hO => ?_, List.pairwise_cons.2 ⟨fun o hO a b ha hb => (h.fresh ho o hO b a hb ha).symm, h.sepO⟩, fun o hO p hp => ?_, fun o hO r hr hne => ?_⟩
  · rcases List.mem_cons.1 hO with rfl | hO
    · exact ho.lower h.bel.size
    · exact h'.rows o hO
  · rcases List.mem_cons.1 hO with rfl | hO
    · exact fun a ha e => by have := (ho.lt a ha).1; have := h.lt p hp; omega
    · exact h.sepL o hO p hp
  · rcases List.mem_cons.1 hO with rfl | hO
    · intro a b ha hb e
      obtain ⟨bb, of_, e1, hlt, _⟩ := (h.rds r hr).pos hne
      rw [e1] at hb
      cases hb
      have := (ho.lt a ha).1
      have e : a.block = bb := e
      omega
    · exact h.sepR o hO r hr hne
/-- A row is said anew, in the same world. -/
theorem St.retake (h : St w0 w L R O) (k : Nat) {ao : Option Addr} {c : Nat} {l l' : List Nat} (hk : O[k]? = some (ao, c, l)) (ho : Own w0.heap.size w ao c l') : St w0 w L R (O.set k (ao, c, l')) :=
  h.turn k hk ⟨rfl, rfl, rfl, Nat.le_refl _, fun _ _ _ => rfl⟩ ho (fun b hb => .inl ⟨b, hb, rfl⟩)
/-! ### The types -/
/-- A struct type of n cells. -/
structure IsS (P : Program) (t : TypeId) (n : Nat) : Prop where
  und : ∃ fs, P.underlying t = some (.struct fs)
  size : (P.info? t).map (·.size) = some n
theorem info_size {P : Program} {t : TypeId} {n : Nat} (h : (P.info? t).map (·.size) = some n) : ∃ i, P.info? t = some i ∧ i.size = n := by
  cases hi : P.info? t with
  | none => rw [hi] at h; cases h
  | some i => rw [hi] at h; exact ⟨i, rfl, by simpa using h⟩
/-- A type of one cell. -/
structure Is1 (P : Program) (t : TypeId) : Prop where
  und : ∃ d, P.underlying t = some d ∧ (match d with | .struct _ | .array _ _ => false | _ => true) = true
  size : (P.info? t).map (·.size) = some 1
/-- Field f of a struct type lies at this cell. -/
def FieldAt (P : Program) (s : TypeId) (f off : Nat) : Prop := ∃ fs fld, P.underlying s = some (.struct fs) ∧ fs[f]? = some fld ∧ fld.offset = off ∧ (P.info? fld.type).map (fun i => Nat.beq i.size 0) = some false

variable {P : Program}
theorem addr_add (g o j : Nat) : (⟨g, o, none⟩ : Addr).add j = ⟨g, o + j, none⟩ := by unfold Addr.add; split <;> simp_all
theorem run_loadS {t : TypeId} {n : Nat} (ht : IsS P t n) {g o : Nat} (cs : List Value) (hl : cs.length = n) (hc : ∀ j v, cs[j]? = some v → w.cell? ⟨g, o + j, none⟩ = some v) : (loadVar t ⟨g, o, none⟩).run P w = .ok (.agg cs.toArray) w := by
  obtain ⟨fs, hu⟩ := ht.und
  obtain ⟨i, hi, hn⟩ := info_size ht.size
  have h1 : (isAgg t).run P w = .ok true w := by simp [isAgg, run_underlying hu]
  have h2 : (sizeOf t).run P w = .ok cs.length w := by simp [sizeOf, typeInfo, hi, hn, hl]
  have h3 := run_loadCells_list (P := P) w ⟨g, o, none⟩ cs (fun j v hj => by rw [addr_add]; exact hc j v hj)
  simp only [loadVar, Sem.run_bind, h1, Result.andThen_ok, if_true, h2, h3, Sem.run_pure]
theorem run_load1 {t : TypeId} (ht : Is1 P t) {a : Addr} {v : Value} (hc : w.cell? a = some v) : (loadVar t a).run P w = .ok v w := by
  obtain ⟨d, hu, hd⟩ := ht.und
  have h1 : (isAgg t).run P w = .ok false w := by
    cases d <;> first | (simp at hd; done) | simp [isAgg, run_underlying hu]
  simp only [loadVar, Sem.run_bind, h1, Result.andThen_ok, if_false, Bool.false_eq_true]
  simp [hc]

variable {l : List (Nat × Value)} {dst : Option Tmp} {ty : TypeId} {pos : String} {after : Array Edge} {guard : Option (Nat × Bool)} {v : Value}
theorem does_move {x : Operand} (hx : ev l x = some v) : Does P l ⟨dst, .move x, ty, pos, after, guard⟩ w v w := fun ρ h => by
  simp only [execOp, h x v hx]; rfl
theorem does_assign {x : Operand} (hx : ev l x = some v) : Does P l ⟨dst, .assign x, ty, pos, after, guard⟩ w v w := fun ρ h => by
  simp only [execOp, h x v hx]; rfl
theorem does_pick {c x y : Operand} {b : Bool} {u u' : Value} (hc : ev l c = some (.bool b)) (hx : ev l x = some u) (hy : ev l y = some u') (hv : v = cond b u u') : Does P l ⟨dst, .pick c x y, ty, pos, after, guard⟩ w v w := fun ρ h => by
  subst hv
  simp only [execOp, h c _ hc, h x _ hx, h y _ hy]
  cases b <;> rfl
theorem does_extract {x : Operand} {vs : List Value} {i : Nat} (hx : ev l x = some (.tuple vs.toArray)) (hi : vs[i]? = some v) : Does P l ⟨dst, .extract x i, ty, pos, after, guard⟩ w v w := fun ρ h => by
  simp only [execOp, h x _ hx, Instr.extract, List.getElem?_toArray, hi]; rfl
theorem does_load {t : TypeId} {x : Operand} {a : Addr} (hx : ev l x = some (.pointer (some a))) (hr : (loadVar t a).run P w = .ok v w) : Does P l ⟨dst, .load t x, ty, pos, after, guard⟩ w v w := fun ρ h => by
  simp only [execOp, h x _ hx, Instr.loadAt, Instr.sureAddr, Sem.run_bind, Sem.run_pure, Result.andThen_ok, hr]
/-- A struct out of a block of the call's own. -/
theorem does_loadS (hS : St w0 w L R O) {t : TypeId} {n : Nat} (ht : IsS P t n) {x : Operand} {g o : Nat} (hx : ev l x = some (.pointer (some ⟨g, o, none⟩))) (k : Nat) {vs cs : List Value} (hk : L[k]? = some (g, vs)) (hcs : (vs.drop o).take n = cs) (hl : cs.length = n) :
    Does P l ⟨dst, .load t x, ty, pos, after, guard⟩ w (.agg cs.toArray) w :=
  does_load hx (run_loadS ht cs hl (fun j v hj => hS.cell k hk (o + j) (by
    have hjn : j < n := by rw [← hl]; exact (List.getElem?_eq_some_iff.1 hj).1
    rw [← hcs, List.getElem?_take, if_pos hjn, List.getElem?_drop] at hj
    exact hj)))
theorem does_load1 (hS : St w0 w L R O) {t : TypeId} (ht : Is1 P t) {x : Operand} {g o : Nat} (hx : ev l x = some (.pointer (some ⟨g, o, none⟩))) (k : Nat) {vs : List Value} (hk : L[k]? = some (g, vs)) (hv : vs[o]? = some v) :
    Does P l ⟨dst, .load t x, ty, pos, after, guard⟩ w v w := does_load hx (run_load1 ht (hS.cell k hk o hv))
/-- .. out of a block that was there before the call. -/
theorem does_loadSF (hS : St w0 w L R O) {g : Nat} {vs : List Value} (hF : Blk w0 g vs) {t : TypeId} {n : Nat} (ht : IsS P t n) {x : Operand} {o : Nat} (hx : ev l x = some (.pointer (some ⟨g, o, none⟩))) {cs : List Value} (hcs : (vs.drop o).take n = cs) (hl : cs.length = n) :
    Does P l ⟨dst, .load t x, ty, pos, after, guard⟩ w (.agg cs.toArray) w :=
  does_load hx (run_loadS ht cs hl (fun j v hj => (hF.below hS.bel).cell (o + j) v (by
    have hjn : j < n := by rw [← hl]; exact (List.getElem?_eq_some_iff.1 hj).1
    rw [← hcs, List.getElem?_take, if_pos hjn, List.getElem?_drop] at hj
    exact hj)))
theorem Rd.addr {so : Option Addr} {l : List Nat} {i : Nat} (h : Rd w so l) (hi : i < l.length) : ∃ b off, so = some ⟨b, off, none⟩ := by
  obtain ⟨b, off, h1, _⟩ := h.pos (fun e => by rw [e] at hi; simp at hi)
  exact ⟨b, off, h1⟩
theorem Rd.at_ {so : Option Addr} {l : List Nat} {i b off : Nat} (h : Rd w so l) (hso : so = some ⟨b, off, none⟩) (hi : i < l.length) : w.cell? ⟨b, off + i, none⟩ = some (.int .u32 ((l.getD i 0 : Nat) : Int)) := by
  obtain ⟨b', off', h1, _, h3⟩ := h.pos (fun e => by rw [e] at hi; simp at hi)
  rw [hso] at h1
  cases h1
  exact h3 i hi
theorem does_loadRow {so : Option Addr} {us : List Nat} {i b off : Nat} (h : Rd w so us) (hso : so = some ⟨b, off, none⟩) (hi : i < us.length) {t : TypeId} (ht : Is1 P t) {x : Operand} (hx : ev l x = some (.pointer (some ⟨b, off + i, none⟩))) :
    Does P l ⟨dst, .load t x, ty, pos, after, guard⟩ w (.int .u32 ((us.getD i 0 : Nat) : Int)) w := does_load hx (run_load1 ht (h.at_ hso hi))
theorem does_field {s : TypeId} {x : Operand} {f g o off o' : Nat} (hf : FieldAt P s f off) (hx : ev l x = some (.pointer (some ⟨g, o, none⟩))) (ho : o + off = o') : Does P l ⟨dst, .fieldAddr s x f, ty, pos, after, guard⟩ w (.pointer (some ⟨g, o', none⟩)) w := fun ρ h => by
  obtain ⟨fs, fld, hu, hff, hoff, hm⟩ := hf
  obtain ⟨i, hi, hz⟩ : ∃ i, P.info? fld.type = some i ∧ i.size ≠ 0 := by
    cases hi : P.info? fld.type with
    | none => rw [hi] at hm; cases hm
    | some i =>
      rw [hi] at hm
      refine ⟨i, rfl, fun e => ?_⟩
      simp [e] at hm
  subst ho
  have h2 : (sizeOf fld.type).run P w = .ok i.size w := by simp [sizeOf, typeInfo, hi]
  simp only [execOp, h x _ hx, Instr.fieldAt, Sem.run_bind, run_underlying hu, Result.andThen_ok, hff, Instr.sureAddr, Sem.run_pure, fieldPlace, h2, if_neg hz, addr_add, hoff]
theorem does_box {t : TypeId} {x : Operand} {u : Value} (hx : ev l x = some u) {vs : List Value} (hc : u.cells = vs.toArray) : Does P l ⟨dst, .box t x, ty, pos, after, guard⟩ w (.pointer (some ⟨w.heap.size, 0, none⟩)) (w.alloc (.cells vs.toArray t)) := fun ρ h => by
  simp only [execOp, h x _ hx, ← hc]; rfl
theorem does_alloc {t : TypeId} {z : Value} (hz : (P.info? t).map (·.zero) = some (some z)) {vs : List Value} (hc : z.cells = vs.toArray) : Does P l ⟨dst, .alloc t, ty, pos, after, guard⟩ w (.pointer (some ⟨w.heap.size, 0, none⟩)) (w.alloc (.cells vs.toArray t)) := fun ρ h => by
  cases hi : P.info? t with
  | none => rw [hi] at hz; cases hz
  | some i =>
    rw [hi] at hz
    simp only [Option.map_some, Option.some.injEq] at hz
    have h1 : (zeroValue t).run P w = .ok z w := by simp [zeroValue, typeInfo, hi, hz]
    simp only [execOp, Instr.alloc, Sem.run_bind, h1, Result.andThen_ok, ← hc]
    rfl
theorem does_build {t : TypeId} {parts : List (Nat × Operand)} {pv : List (Nat × Value)} (hp : evp l parts = some pv) (hb : ∀ w, (Instr.build t pv.toArray).run P w = .ok v w) : Does P l ⟨dst, .build t parts.toArray, ty, pos, after, guard⟩ w v w := fun ρ h => by
  have e : parts.toArray.map (fun p => (p.1, ρ p.2)) = pv.toArray := by
    simp only [List.map_toArray]
    congr 1
    have : ∀ (xs : List (Nat × Operand)) (vs : List (Nat × Value)), evp l xs = some vs → xs.map (fun p => (p.1, ρ p.2)) = vs := by
      intro xs
      induction xs with
      | nil => intro vs hx; simp [evp] at hx; simp [hx]
      | cons x xs ih =>
        intro vs hx
        obtain ⟨i, x⟩ := x
        unfold evp at hx
        split at hx
        · rename_i v us h1 h2
          cases hx
          simp [h _ _ h1, ih _ h2]
        · cases hx
    exact this parts pv hp
  have e' : (parts.toArray.map fun (i, x) => (i, ρ x)) = pv.toArray := e
  simp only [execOp, e', Sem.run_bind, hb w, Result.andThen_ok, Sem.run_pure]
theorem does_buildSlice {t : TypeId} {n : Nat} {parts : List (Nat × Operand)} {pv : List (Nat × Value)} (hp : evp l parts = some pv) {w' : World} (hb : (Instr.buildSlice t n pv.toArray).run P w = .ok v w') : Does P l ⟨dst, .buildSlice t n parts.toArray, ty, pos, after, guard⟩ w v w' := fun ρ h => by
  have e : parts.toArray.map (fun p => (p.1, ρ p.2)) = pv.toArray := by
    simp only [List.map_toArray]
    congr 1
    have : ∀ (xs : List (Nat × Operand)) (vs : List (Nat × Value)), evp l xs = some vs → xs.map (fun p => (p.1, ρ p.2)) = vs := by
      intro xs
      induction xs with
      | nil => intro vs hx; simp [evp] at hx; simp [hx]
      | cons x xs ih =>
        intro vs hx
        obtain ⟨i, x⟩ := x
        unfold evp at hx
        split at hx
        · rename_i v us h1 h2
          cases hx
          simp [h _ _ h1, ih _ h2]
        · cases hx
    exact this parts pv hp
  have e' : (parts.toArray.map fun (i, x) => (i, ρ x)) = pv.toArray := e
  simp only [execOp, e', Sem.run_bind, hb, Result.andThen_ok, Sem.run_pure]
theorem does_len {x : Operand} {t e : TypeId} {so : Option Addr} {n c : Nat} (hu : P.underlying t = some (.slice e)) (hx : ev l x = some (.slice so n c)) : Does P l ⟨dst, .call ⟨.builtin .len, #[x], #[t]⟩, ty, pos, after, guard⟩ w (.int .i64 n) w := fun ρ h => by
  have := h x _ hx
  simp [go_sem, this, Builtin.len_, run_underlying hu, goInt]
theorem does_bin {b : BinOp} {t t' : TypeId} {x y : Operand} {u u' : Value} (hx : ev l x = some u) (hy : ev l y = some u') (hr : ∀ w, (do eqGuard b t x y u u'; binOp b t u u' : Sem Value).run P w = .ok v w) : Does P l ⟨dst, .binOp b t x y t', ty, pos, after, guard⟩ w v w := fun ρ h => by
  simp only [execOp, h x _ hx, h y _ hy]
  rw [Sem.run_bind, hr w]
  rfl
theorem does_un {b : UnOp} {t : TypeId} {x : Operand} {u : Value} (hx : ev l x = some u) (hr : ∀ w, (Op.unary b u).run P w = .ok v w) : Does P l ⟨dst, .unOp b t x, ty, pos, after, guard⟩ w v w := fun ρ h => by
  simp only [execOp, h x _ hx, Sem.run_bind, hr w, Result.andThen_ok, Sem.run_pure]
theorem sets_store {t : TypeId} {x y : Operand} {g o : Nat} {u : Value} {cs : List Value} (hx : ev l x = some (.pointer (some ⟨g, o, none⟩))) (hy : ev l y = some u) (hc : u.cells = cs.toArray) (hn : (P.info? t).map (·.size) = some cs.length)
    (hS : St w0 w L R O) (k : Nat) {vs : List Value} (hk : L[k]? = some (g, vs)) (hl : Nat.ble (o + cs.length) vs.length = true) (h1 : cs.all Value.oneCell' = true) : Sets P l ⟨dst, .store t x y, ty, pos, after, guard⟩ w (w.setCells g o cs) := fun ρ h => by
  obtain ⟨i, hi, hsz⟩ := info_size hn
  have hl' : o + cs.length ≤ vs.length := Nat.le_of_ble_eq_true hl
  have hb := (hS.own _ (List.mem_of_getElem? hk)).2
  have h2 : (sizeOf t).run P w = .ok cs.length w := by simp [sizeOf, typeInfo, hi, hsz]
  have h3 := run_storeCells_cells (P := P) g o cs 0 w (fun j hj => by
      have hlt : o + 0 + j < vs.length := by omega
      rw [hb.cell (o + 0 + j) vs[o + 0 + j] (List.getElem?_eq_getElem hlt)]; rfl) (fun j hj => hb.froz _) (fun v hv => List.all_eq_true.1 h1 v hv)
  rw [Nat.add_zero] at h3
  have h4 : u.cells.toList = cs := by rw [hc]
  simp only [execOp, h x _ hx, h y _ hy, Instr.storeAt, Instr.sureAddr, Sem.run_bind, Sem.run_pure, Result.andThen_ok, storeVar, h2, hc, List.size_toArray, ne_eq, not_true_eq_false, if_false, List.toList_toArray, h3]
theorem enters_func {x : Operand} {f : FuncId} {args : List Operand} {ts : Array TypeId} {vs : List Value} (hx : ev l x = some (.func (.func f) #[] #[])) (ha : evs l args = some vs) (hf : ∀ w, (invoke (.fn (.func f) #[]) vs.toArray).run P w = .ok (.enter f vs.toArray) w) :
    Enters P l ⟨dst, .call ⟨.value x, args.toArray, ts⟩, ty, pos, after, guard⟩ w f vs := fun ρ h => by
  have e : args.map ρ = vs := by
    have : ∀ (xs : List Operand) (vs : List Value), evs l xs = some vs → xs.map ρ = vs := by
      intro xs
      induction xs with
      | nil => intro vs hx; simp [evs] at hx; simp [hx]
      | cons x xs ih =>
        intro vs hx
        unfold evs at hx
        split at hx
        · rename_i v us h1 h2
          cases hx
          simp [h _ _ h1, ih _ h2]
        · cases hx
    exact this args vs ha
  have := hf w
  simp [execOp, resolve, h x _ hx, Deferred.ofValue, e, this]

/-! ### Steps that make or change memory, the world behind them a letter -/
section
variable {ops : List Oper} {Q : Exit → Act → World → Prop} {a : Act} {n : Nat} {o : Oper} {rest : List Oper} {d : Nat}
theorem seq_new (hA : Sl a n l) (hS : St w0 w L R O) (hg : passes l ops o = true) (hdst : o.dst = some d) (hd : Nat.blt d n = true) {vs : List Value} {t : TypeId} (val : Nat → Value) (he : Does P l o w (val w.heap.size) (w.alloc (.cells vs.toArray t))) (hno : vs.all noWord = true)
    (hk : ∀ g w', St w0 w' ((g, vs) :: L) R O → ∀ a', Sl a' n ((d, val g) :: l) → wpList P ops.toArray Q rest a' w') : wpList P ops.toArray Q (o :: rest) a w :=
  seq_do hA hg hdst hd he (hk _ _ (hS.new vs t hno))
theorem seq_store (hA : Sl a n l) (hS : St w0 w L R O) (hg : passes l ops o = true) (hdst : o.dst = none) {g q : Nat} {cs vs us : List Value} (he : Sets P l o w (w.setCells g q cs)) (k : Nat) (hk0 : L[k]? = some (g, vs)) (hl : Nat.ble (q + cs.length) vs.length = true) (hno : cs.all noWord = true) (hus : over vs q cs = us)
    (hk : ∀ w', St w0 w' (L.set k (g, us)) R O → wpList P ops.toArray Q rest a w') : wpList P ops.toArray Q (o :: rest) a w :=
  seq_set hA hg hdst he (hk _ (by subst hus; exact St.sets cs w L vs q hS k hk0 (Nat.le_of_ble_eq_true hl) hno))
variable {S : World → Prop} {md : Region.Mode} {fuel : Nat} {listed : Array Bool}
theorem op_store (hA : Sl a n l) (hS : St w0 w L R O) (i : Nat) (hi : ops[i]? = some o) (hg : passes l ops o = true) (hdst : o.dst = none) {g q : Nat} {cs vs us : List Value} (he : Sets P l o w (w.setCells g q cs)) (k : Nat) (hk0 : L[k]? = some (g, vs)) (hl : Nat.ble (q + cs.length) vs.length = true) (hno : cs.all noWord = true) (hus : over vs q cs = us)
    (hk : ∀ w', St w0 w' (L.set k (g, us)) R O → S w' ∧ wpAnyH P md ops.toArray Q S fuel (listed.setIfInBounds i true) a w') : wpOp P ops.toArray Q i (fun a' w' => S w' ∧ wpAnyH P md ops.toArray Q S fuel (listed.setIfInBounds i true) a' w') a w := by
  have h := hk _ (by subst hus; exact St.sets cs w L vs q hS k hk0 (Nat.le_of_ble_eq_true hl) hno)
  exact op_set hA i hi hg hdst he h.1 h.2
/-! Rows of the call's own: made, written, appended to. -/
theorem does_make {t e : TypeId} (ht : P.underlying t = some (.slice e)) (hinfo : (P.info? e).map (fun i => (i.zero, i.size, i.bytes)) = some (some (.int .u32 0), 1, 4)) {x y : Operand} {m : Nat} (hx : ev l x = some (.int .i64 ((m : Nat) : Int))) (hy : ev l y = some (.int .i64 ((m : Nat) : Int))) (hm : m ≤ 1000000) :
    Does P l ⟨dst, .makeSlice t x y, ty, pos, after, guard⟩ w (.slice (some ⟨w.heap.size, 0, none⟩) m m) (w.alloc (.cells (madeCells #[.int .u32 0] m) e)) := fun ρ h => by
  have := run_make_row' (P := P) t e (.int .u32 0) 4 ht hinfo rfl .i64 .i64 m (by omega) (by omega) w
  simp only [execOp, h x _ hx, h y _ hy, Sem.run_bind, this, Result.andThen_ok, Sem.run_pure]
theorem st_made (hS : St w0 w L R O) {m : Nat} (hm : m ≤ 1000000) : St w0 (w.alloc (.cells (madeCells #[.int .u32 0] m) 49)) L R ((some ⟨w.heap.size, 0, none⟩, m, List.replicate m 0) :: O) :=
  hS.newO ((Below.refl _ _).alloc (Nat.le_refl _) _) (Own.made w m (by omega))
theorem seq_make (hA : Sl a n l) (hS : St w0 w L R O) (hg : passes l ops o = true) (hdst : o.dst = some d) (hd : Nat.blt d n = true) {m : Nat} (he : Does P l o w (.slice (some ⟨w.heap.size, 0, none⟩) m m) (w.alloc (.cells (madeCells #[.int .u32 0] m) 49))) (hm : m ≤ 1000000)
    (hk : ∀ g w', St w0 w' L R ((some ⟨g, 0, none⟩, m, List.replicate m 0) :: O) → ∀ a', Sl a' n ((d, .slice (some ⟨g, 0, none⟩) m m) :: l) → wpList P ops.toArray Q rest a' w') : wpList P ops.toArray Q (o :: rest) a w :=
  seq_do hA hg hdst hd he (hk _ _ (st_made hS hm))
theorem sets_row {t : TypeId} (ht : (P.info? t).map (·.size) = some 1) {x y : Operand} {g j d : Nat} (hx : ev l x = some (.pointer (some ⟨g, 0 + j, none⟩))) (hy : ev l y = some (.int .u32 ((d : Nat) : Int))) (hS : St w0 w L R O) (k : Nat) {c : Nat} {us : List Nat} (hk : O[k]? = some (some ⟨g, 0, none⟩, c, us)) (hj : j < us.length) :
    Sets P l ⟨dst, .store t x y, ty, pos, after, guard⟩ w (w.setCell ⟨g, j, none⟩ (.int .u32 ((d : Nat) : Int))) := fun ρ h => by
  obtain ⟨i, hi, hsz⟩ := info_size ht
  have h2 : (sizeOf t).run P w = .ok 1 w := by simp [sizeOf, typeInfo, hi, hsz]
  have hc := (hS.row k hk).cell j hj
  have hf := (hS.row k hk).frozen j
  rw [Nat.zero_add] at hx
  simp [execOp, h x _ hx, h y _ hy, Instr.storeAt, Instr.sureAddr, storeVar, h2, Value.cells, storeCells, addr_add, go_sem, hc, hf]
theorem seq_row (hA : Sl a n l) (hS : St w0 w L R O) (hg : passes l ops o = true) (hdst : o.dst = none) {g j d : Nat} (he : Sets P l o w (w.setCell ⟨g, j, none⟩ (.int .u32 ((d : Nat) : Int)))) (k : Nat) {c : Nat} {us us' : List Nat} (hk0 : O[k]? = some (some ⟨g, 0, none⟩, c, us)) (hd : d < 4294967296) (hus : us.set j d = us')
    (hk : ∀ w', St w0 w' L R (O.set k (some ⟨g, 0, none⟩, c, us')) → wpList P ops.toArray Q rest a w') : wpList P ops.toArray Q (o :: rest) a w :=
  seq_set hA hg hdst he (hk _ (by subst hus; exact hS.setRow k hk0 j d hd))
theorem op_row (hA : Sl a n l) (hS : St w0 w L R O) (i : Nat) (hi : ops[i]? = some o) (hg : passes l ops o = true) (hdst : o.dst = none) {g j d : Nat} (he : Sets P l o w (w.setCell ⟨g, j, none⟩ (.int .u32 ((d : Nat) : Int)))) (k : Nat) {c : Nat} {us us' : List Nat} (hk0 : O[k]? = some (some ⟨g, 0, none⟩, c, us)) (hd : d < 4294967296) (hus : us.set j d = us')
    (hk : ∀ w', St w0 w' L R (O.set k (some ⟨g, 0, none⟩, c, us')) → S w' ∧ wpAnyH P md ops.toArray Q S fuel (listed.setIfInBounds i true) a w') : wpOp P ops.toArray Q i (fun a' w' => S w' ∧ wpAnyH P md ops.toArray Q S fuel (listed.setIfInBounds i true) a' w') a w := by
  have h := hk _ (by subst hus; exact hS.setRow k hk0 j d hd)
  exact op_set hA i hi hg hdst he h.1 h.2
/-- A region that draws its order. -/
theorem wp_draw {id : Nat} (hm : P.follows .mixedOrders = true) (h : wpAnyH P .any ops.toArray Q S ops.length (Array.replicate ops.length false) a w.drew) : (Code.region id ops.toArray true).wp P Q a w :=
  wp_region_held (S := S) hm (by simpa using h)
end
/-! ### The end -/
def resOf (P : Program) (l : List (Nat × Value)) (w : World) : ResultVar → Value → Prop
  | .tmp t, v => look l t = some v
  | .cell c t, v => ∃ p, look l c = some (.pointer (some p)) ∧ (loadVar t p).run P w = .ok v w
def AllRes (P : Program) (l : List (Nat × Value)) (w : World) : List ResultVar → List Value → Prop
  | [], [] => True
  | r :: rs, v :: vs => resOf P l w r v ∧ AllRes P l w rs vs
  | _, _ => False
theorem AllRes.nil : AllRes P l w [] [] := trivial
theorem AllRes.cons {r : ResultVar} {v : Value} {rs : List ResultVar} {vs : List Value} (h : resOf P l w r v) (t : AllRes P l w rs vs) : AllRes P l w (r :: rs) (v :: vs) := ⟨h, t⟩
section
variable {a : Act} {n : Nat} {fn : Func} {Z : Ending → World → Prop}
theorem res_tmp {t : Tmp} (h : look l t = some v) : resOf P l w (.tmp t) v := h
theorem res_cell (hS : St w0 w L R O) {c : Tmp} {t : TypeId} {m : Nat} (ht : IsS P t m) {g o : Nat} (hx : look l c = some (.pointer (some ⟨g, o, none⟩))) (k : Nat) {vs cs : List Value} (hk : L[k]? = some (g, vs)) (hcs : (vs.drop o).take m = cs) (hl : cs.length = m) : resOf P l w (.cell c t) (.agg cs.toArray) :=
  ⟨_, hx, run_loadS ht cs hl (fun j v hj => hS.cell k hk (o + j) (by
    have hjn : j < m := by rw [← hl]; exact (List.getElem?_eq_some_iff.1 hj).1
    rw [← hcs, List.getElem?_take, if_pos hjn, List.getElem?_drop] at hj
    exact hj))⟩
def resSem (tmps : Array Value) : ResultVar → Sem Value
  | .tmp t => pure (tmps.getD t undef)
  | .cell c t => do loadVar t (← asAddr (tmps.getD c undef))
def packed : List Value → Value
  | [x] => x
  | xs => .tuple xs.toArray
theorem Sl.res (hA : Sl a n l) {r : ResultVar} (h : resOf P l w r v) : (resSem a.tmps r).run P w = .ok v w := by
  cases r with
  | tmp t =>
    have := hA.holds t v h
    simp [resSem, Array.getD_eq_getD_getElem?, this]
  | cell c t =>
    obtain ⟨p, hp, hr⟩ := h
    have := hA.holds c _ hp
    simp [resSem, Array.getD_eq_getD_getElem?, this, asAddr, hr]
theorem results_list (hA : Sl a n l) : ∀ (rs : List ResultVar) (vs : List Value), AllRes P l w rs vs → Sem.run P (rs.mapM (resSem a.tmps)) w = .ok vs w
  | [], [], _ => by simp
  | [], _ :: _, h => h.elim
  | _ :: _, [], h => h.elim
  | r :: rs, v :: vs, h => by
    have e1 := hA.res h.1
    have e2 := results_list hA rs vs h.2
    simp only [List.mapM_cons, Sem.run_bind, e1, Result.andThen_ok, e2, Sem.run_pure]
/-- The function's end: what it answers. -/
theorem ends (hA : Sl a n l) {rs : List ResultVar} (hrs : fn.results = rs.toArray) {vs : List Value} (hvs : AllRes P l w rs vs) (hv : packed vs = v) (hz : Z (.returned v) w) : bodyPost P fn Z .ret a w := by
  refine ⟨hA.none_, v, ?_, hz⟩
  have e := results_list hA rs vs hvs
  subst hv
  have e' : results fn a.tmps = (do let us ← fn.results.mapM (resSem a.tmps); pure (if h : us.size = 1 then us[0] else .tuple us)) := by
    unfold results
    congr 1
  have e2 : Sem.run P (List.toArray <$> rs.mapM (resSem a.tmps)) w = .ok vs.toArray w := by
    show Sem.run P (rs.mapM (resSem a.tmps) >>= fun us => pure us.toArray) w = _
    rw [Sem.run_bind, e]
    rfl
  rw [e', hrs, List.mapM_toArray, Sem.run_bind, e2, Result.andThen_ok]
  match vs with
  | [] => simp [packed]
  | [x] => simp [packed]
  | x :: y :: r => simp [packed]
end
/-- A call, by a walk of its body from what its slots hold at the start. -/
theorem walk_of {f : FuncId} {fn : Func} {c : Code} {args : List Value} {n : Nat} {Z : Ending → World → Prop} (hf : P.funcs[f]? = some fn) (hb : fn.body = some c) (hn : fn.ntmps = n) (hl : Nat.ble args.length n = true) (hs : (args.zipIdx.map fun p => (p.2, p.1)) = l)
    (h : ∀ Q : Exit → Act → World → Prop, (∀ a w, bodyPost P fn Z .ret a w → Q .ret a w) → (∀ a w, bodyPost P fn Z .ret a w → Q .normal a w) → (∀ c a d v w, Q (.panic c) (Act.put a d v) w → Q (.panic c) a w) → ∀ a, Sl a n l → c.wp P Q a w) : Calls P f args.toArray w Z := by
  subst hs
  refine calls_of_wp hf hb (h _ (fun _ _ h => h) (fun _ _ h => h) (fun c a d v w h => ?_) _ ?_)
  · cases d <;> exact h
  · rw [hn]
    exact Sl.enter (Nat.le_of_ble_eq_true hl)
/-! ### Loops -/
section
variable {Q : Exit → Act → World → Prop} {a : Act} {c : Code}
theorem rounds_k {m : Nat} (h : ∀ K : Act → World → Prop, (∀ a w, Code.rounds P c Q m a w → K a w) → c.wp P (Exit.then K Q) a w) : Code.rounds P c Q (m + 1) a w := h _ (fun _ _ h => h)
theorem rounds_mono : ∀ n m, n ≤ m → ∀ a w, Code.rounds P c Q n a w → Code.rounds P c Q m a w
  | 0, _, _, _, _, h => h.elim
  | n + 1, 0, hl, _, _, _ => by omega
  | n + 1, m + 1, hl, a, w, h => Code.wp_mono (fun e a w q => by
      cases e <;> first | exact rounds_mono n m (by omega) _ _ q | exact q) h
/-- A loop, by a number that falls. -/
theorem wp_loop_n (I : Nat → Act → World → Prop) (N : Nat) (h0 : I N a w) (round : ∀ m a w, I m a w → ∀ K : Act → World → Prop, (∀ m' a' w', m' < m → I m' a' w' → K a' w') → c.wp P (Exit.then K Q) a w) : (Code.loop c).wp P Q a w := by
  have key : ∀ m a w, I m a w → Code.rounds P c Q (m + 1) a w := by
    intro m
    induction m using Nat.strongRecOn with
    | _ m ih =>
      intro a w h
      exact round m a w h _ (fun m' a' w' hm h' => rounds_mono (m' + 1) m (by omega) _ _ (ih m' hm a' w' h'))
  exact wp_loop_rounds (N + 1) (key N a w h0)
end
theorem does_indexI {t : TypeId} {x i : Operand} {u u' : Value} (hx : ev l x = some u) (hi : ev l i = some u') (hr : ∀ w, (Instr.indexAt t u u').run P w = .ok v w) : Does P l ⟨dst, .indexAddr t x i, ty, pos, after, guard⟩ w v w := fun ρ h => by
  simp only [execOp, h x _ hx, h i _ hi, Sem.run_bind, hr w, Result.andThen_ok, Sem.run_pure]
/-- The place of an element of a row of words. -/
theorem run_indexU {t e : TypeId} (hu : P.underlying t = some (.slice e)) (he : (P.info? e).map (·.size) = some 1) {g o n c k : Nat} (hk : k < n) : ∀ w, (Instr.indexAt t (.slice (some ⟨g, o, none⟩) n c) (.int .i64 (k : Nat))).run P w = .ok (.pointer (some ⟨g, o + k, none⟩)) w := fun w => by
  obtain ⟨i, hi, hs⟩ := info_size he
  have h2 : (sizeOf e).run P w = .ok 1 w := by simp [sizeOf, typeInfo, hi, hs]
  have h3 : (0 : Int) ≤ (k : Nat) ∧ ((k : Nat) : Int) < (n : Nat) := ⟨by omega, by omega⟩
  simp [Instr.indexAt, asIntOf, run_underlying hu, h2, h3, addr_add]
  intro h
  omega
theorem does_indexRow {t e : TypeId} (hu : P.underlying t = some (.slice e)) (he : (P.info? e).map (·.size) = some 1) {x i : Operand} {so : Option Addr} {b off n c k : Nat} {z : Int} (hx : ev l x = some (.slice so n c)) (hi : ev l i = some (.int .i64 z)) (hz : z = (k : Nat)) (hso : so = some ⟨b, off, none⟩) (hk : k < n) :
    Does P l ⟨dst, .indexAddr t x i, ty, pos, after, guard⟩ w (.pointer (some ⟨b, off + k, none⟩)) w := by
  subst hso hz
  exact does_indexI hx hi (run_indexU hu he hk)
theorem does_fieldV {t : TypeId} {x : Operand} {f : Nat} {u : Value} (hx : ev l x = some u) (hr : ∀ w, (Instr.field t u f).run P w = .ok v w) : Does P l ⟨dst, .field t x f, ty, pos, after, guard⟩ w v w := fun ρ h => by
  simp only [execOp, h x _ hx, Sem.run_bind, hr w, Result.andThen_ok, Sem.run_pure]
theorem does_convert {s d : TypeId} {x : Operand} {u : Value} (hx : ev l x = some u) (hr : ∀ w, (convert s d u).run P w = .ok v w) : Does P l ⟨dst, .convert s d x, ty, pos, after, guard⟩ w v w := fun ρ h => by
  simp only [execOp, h x _ hx, Sem.run_bind, hr w, Result.andThen_ok, Sem.run_pure]
theorem does_builtin {b : Builtin} {xs : List Operand} {ts : Array TypeId} {vs : List Value} (hx : evs l xs = some vs) (hr : ∀ w cs, (builtin b ts ty cs vs.toArray).run P w = .ok (.value v) w) : Does P l ⟨dst, .call ⟨.builtin b, xs.toArray, ts⟩, ty, pos, after, guard⟩ w v w := fun ρ h => by
  have e : xs.map ρ = vs := by
    have : ∀ (xs : List Operand) (vs : List Value), evs l xs = some vs → xs.map ρ = vs := by
      intro xs
      induction xs with
      | nil => intro vs hx; simp [evs] at hx; simp [hx]
      | cons x xs ih =>
        intro vs hx
        unfold evs at hx
        split at hx
        · rename_i v us h1 h2
          cases hx
          simp [h _ _ h1, ih _ h2]
        · cases hx
    exact this xs vs hx
  rw [BigFrame.execOp_builtin]
  simp only [List.map_toArray, e, hr]

/-! ### Operators -/
section
variable {t : TypeId} {x y : Operand} {k : IntKind} {a b : Int}
theorem bin_lss : ∀ w, (do eqGuard .lss t x y (.int k a) (.int k b); binOp .lss t (.int k a) (.int k b) : Sem Value).run P w = .ok (.bool (decide (a < b))) w := fun w => by simp [go_sem]
theorem bin_leq : ∀ w, (do eqGuard .leq t x y (.int k a) (.int k b); binOp .leq t (.int k a) (.int k b) : Sem Value).run P w = .ok (.bool (decide (a ≤ b))) w := fun w => by simp [go_sem]
theorem bin_gtr : ∀ w, (do eqGuard .gtr t x y (.int k a) (.int k b); binOp .gtr t (.int k a) (.int k b) : Sem Value).run P w = .ok (.bool (decide (b < a))) w := fun w => by simp [go_sem]
theorem bin_geq : ∀ w, (do eqGuard .geq t x y (.int k a) (.int k b); binOp .geq t (.int k a) (.int k b) : Sem Value).run P w = .ok (.bool (decide (b ≤ a))) w := fun w => by simp [go_sem]
theorem bin_eql : ∀ w, (do eqGuard .eql t x y (.int k a) (.int k b); binOp .eql t (.int k a) (.int k b) : Sem Value).run P w = .ok (.bool (a == b)) w := fun w => by simp [go_sem]
theorem bin_neq : ∀ w, (do eqGuard .neq t x y (.int k a) (.int k b); binOp .neq t (.int k a) (.int k b) : Sem Value).run P w = .ok (.bool (a != b)) w := fun w => by simp [go_sem]
theorem i64In {a : Int} (h0 : -9223372036854775808 ≤ a) (h1 : a ≤ 9223372036854775807) : IntKind.i64.wrap a = a := IntWalk.i64_in a ⟨h0, h1⟩
theorem bin_add (h : k.wrap (a + b) = a + b) : ∀ w, (do eqGuard .add t x y (.int k a) (.int k b); binOp .add t (.int k a) (.int k b) : Sem Value).run P w = .ok (.int k (a + b)) w := fun w => by simp [go_sem, h]
theorem bin_sub (h : k.wrap (a - b) = a - b) : ∀ w, (do eqGuard .sub t x y (.int k a) (.int k b); binOp .sub t (.int k a) (.int k b) : Sem Value).run P w = .ok (.int k (a - b)) w := fun w => by simp [go_sem, h]
theorem un_neg (h : k.wrap (-a) = -a) : ∀ w, (Op.unary .neg (.int k a)).run P w = .ok (.int k (-a)) w := fun w => by simp [go_sem, h]
theorem bin_eqlB (hu : P.underlying t = some .bool) {c d : Bool} : ∀ w, (do eqGuard .eql t x y (.bool c) (.bool d); binOp .eql t (.bool c) (.bool d) : Sem Value).run P w = .ok (.bool (c == d)) w := fun w => by
  simp [go_sem, hu, run_underlying hu]
theorem un_not {c : Bool} : ∀ w, (Op.unary .not (.bool c)).run P w = .ok (.bool (!c)) w := fun w => by simp [go_sem]
end
end
end Go.Proofs.YtbajcflbimmnhaaDoor
namespace Go.Proofs.YtbajcflbimmnhaaDoor
open Go.RowKit
set_option linter.unusedVariables false
set_option linter.unusedSimpArgs false

set_option maxHeartbeats 1000000 in
set_option maxRecDepth 1000000 in
theorem isReal_any {w : World} {b1 b2 : Bool} {o1 o2 o3 o4 : Option Addr} {m1 m2 m3 m4 c1 c2 c3 c4 : Nat} (h : m3 ≤ 9223372036854775807) :
    Calls Tryd.prog 68 #[.agg #[.bool b1, .slice o1 m1 c1, .slice o2 m2 c2, .bool b2, .slice o3 m3 c3, .slice o4 m4 c4]] w fun e w' => e = .returned (.bool (decide (m3 = 0))) ∧ Below w.heap.size w w' := by
  have HAL : Hid (∀ o, Below w.heap.size w (w.alloc o)) := fun o => (Below.refl _ _).alloc (Nat.le_refl _) o
  by_cases hm : m3 = 0
  · subst hm
    go_enter Tryd.func68, Tryd.ntmps68
    go_wp2
    go_ret
    exact ⟨rfl, HAL.out _⟩
  · have e : decide (m3 = 0) = false := decide_eq_false hm
    rw [e]
    have hm1 : ((m3 : Int) == 0) = false := by simp; omega
    clear e
    go_enter Tryd.func68, Tryd.ntmps68
    go_wp2
    go_ret
    exact ⟨rfl, HAL.out _⟩

end Go.Proofs.YtbajcflbimmnhaaDoor
namespace Go.Proofs.YtbajcflbimmnhaaDoor
open Go.RowKit
set_option linter.unusedVariables false
set_option linter.unusedSimpArgs false

theorem below_eq {w w' : World} (h : w' = w) : Below w.heap.size w w' := h ▸ Below.refl _ _
/-- A slice of words: what it reads as; room only where there is memory. -/
structure Sc (w : World) (o : Option Addr) (c : Nat) (l : List Nat) : Prop where
  rd : Rd w o l
  nil : o = none → c = 0
  cap : l.length ≤ c
theorem Sc.below {w w' : World} {o : Option Addr} {c : Nat} {l : List Nat} (h : Sc w o c l) (hb : Below w.heap.size w w') : Sc w' o c l := ⟨h.rd.below hb, h.nil, h.cap⟩
theorem Own.sc {B : Nat} {w : World} {o : Option Addr} {c : Nat} {l : List Nat} (h : Own B w o c l) : Sc w o c l := ⟨h.rd, h.nocap, h.caps⟩
theorem Sc.none (w : World) : Sc w none 0 [] := ⟨Rd.nil _ _, fun _ => rfl, Nat.le_refl _⟩
/-- A number of two fractions: its signs, tops and bottoms. -/
structure Q6 where
  b1 : Bool
  t1 : List Nat
  q1 : List Nat
  b2 : Bool
  t2 : List Nat
  q2 : List Nat
/-- The value of six cells: signs, and slices of so many words. -/
def numV (q : Q6) (o1 : Option Addr) (c1 : Nat) (o2 : Option Addr) (c2 : Nat) (o3 : Option Addr) (c3 : Nat) (o4 : Option Addr) (c4 : Nat) : Value :=
  .agg #[.bool q.b1, .slice o1 q.t1.length c1, .slice o2 q.q1.length c2, .bool q.b2, .slice o3 q.t2.length c3, .slice o4 q.q2.length c4]
structure Nm (w : World) (q : Q6) (o1 : Option Addr) (c1 : Nat) (o2 : Option Addr) (c2 : Nat) (o3 : Option Addr) (c3 : Nat) (o4 : Option Addr) (c4 : Nat) : Prop where
  s1 : Sc w o1 c1 q.t1
  s2 : Sc w o2 c2 q.q1
  s3 : Sc w o3 c3 q.t2
  s4 : Sc w o4 c4 q.q2
/-- The number without anything. -/
def Q6.zero : Q6 := ⟨false, [], [], false, [], []⟩
/-- A whole number of a sign and a size. -/
def Q6.whole (b : Bool) (x : Nat) : Q6 := ⟨b, words x, [1], false, [], [1]⟩
/-- A number and an error's number are answered. -/
def AnsN (w : World) (r : Q6 × Int) (e : Ending) (w' : World) : Prop := ∃ o1 c1 o2 c2 o3 c3 o4 c4, e = .returned (.tuple #[numV r.1 o1 c1 o2 c2 o3 c3 o4 c4, .int .i64 r.2]) ∧ Nm w' r.1 o1 c1 o2 c2 o3 c3 o4 c4 ∧ Below w.heap.size w w'
/-- A number is answered. -/
def AnsV (w : World) (q : Q6) (e : Ending) (w' : World) : Prop := ∃ o1 c1 o2 c2 o3 c3 o4 c4, e = .returned (numV q o1 c1 o2 c2 o3 c3 o4 c4) ∧ Nm w' q o1 c1 o2 c2 o3 c3 o4 c4 ∧ Below w.heap.size w w'
/-- A whole number, unless it is too long. -/
def bigS (b : Bool) (z : Nat) : Q6 × Int := if (words z).length ≤ 512 then (Q6.whole b z, 0) else (Q6.zero, 4)
theorem bigS_pos {b : Bool} {z : Nat} (h : (words z).length ≤ 512) : bigS b z = (Q6.whole b z, 0) := by unfold bigS; rw [if_pos h]
theorem bigS_neg {b : Bool} {z : Nat} (h : ¬ (words z).length ≤ 512) : bigS b z = (Q6.zero, 4) := by unfold bigS; rw [if_neg h]

theorem words_one : words 1 = [1] := by rw [words_pos (by omega)]; simp [words_zero]
theorem of_one (w : World) : Calls Tryd.prog 35 #[.int .u64 1] w (Row1 w [1]) := by
  have h := of_any 1 w (by omega)
  rw [words_one] at h
  exact h
theorem sound_of_words {x : Nat} (h : (words x).length ≤ 512) : sound (words x) = true := (sound_iff _).2 ⟨h, words_top x⟩
theorem sub_words {w : World} {ao bo : Option Addr} {x y : Nat} (ca cb : Nat) (ha : Rd w ao (words x)) (hb : Rd w bo (words y)) (hx : (words x).length ≤ 512) (hy : y ≤ x) :
    Calls Tryd.prog 105 #[.slice ao (words x).length ca, .slice bo (words y).length cb] w fun e w' => ∃ ro rc, e = .returned (.tuple #[.slice ro (words (x - y)).length rc, .int .i64 0]) ∧ Own w.heap.size w' ro rc (words (x - y)) ∧ Below w.heap.size w w' := by
  have hl := words_mono hy
  have h := sub_any ca cb ha hb (by omega) (by omega)
  have e : subS (words x) (words y) = (words (x - y), 0) := by
    unfold subS
    simp only [sound_of_words hx, sound_of_words (Nat.le_trans hl hx), val_words, Bool.and_self, if_true]
    rw [if_neg (by omega)]
  rw [e] at h
  exact h
theorem add_words {w : World} {ao bo : Option Addr} {x y : Nat} (ca cb : Nat) (ha : Rd w ao (words x)) (hb : Rd w bo (words y)) (hx : (words x).length ≤ 512) (hy : (words y).length ≤ 512) :
    Calls Tryd.prog 107 #[.slice ao (words x).length ca, .slice bo (words y).length cb] w (Ans w (fitS (x + y))) := by
  have h := add_any ca cb ha hb (by omega) (by omega)
  have e : addS (words x) (words y) = fitS (x + y) := by
    unfold addS
    simp only [sound_of_words hx, sound_of_words hy, val_words, Bool.and_self, if_true]
  rw [e] at h
  exact h
theorem add_fit {w : World} {ao bo : Option Addr} {x y : Nat} (ca cb : Nat) (ha : Rd w ao (words x)) (hb : Rd w bo (words y)) (hx : (words x).length ≤ 512) (hy : (words y).length ≤ 512) (h : (words (x + y)).length ≤ 512) :
    Calls Tryd.prog 107 #[.slice ao (words x).length ca, .slice bo (words y).length cb] w fun e w' => ∃ ro rc, e = .returned (.tuple #[.slice ro (words (x + y)).length rc, .int .i64 0]) ∧ Own w.heap.size w' ro rc (words (x + y)) ∧ Below w.heap.size w w' := by
  have := add_words ca cb ha hb hx hy
  unfold fitS at this
  rw [if_pos h] at this
  exact this
theorem add_big {w : World} {ao bo : Option Addr} {x y : Nat} (ca cb : Nat) (ha : Rd w ao (words x)) (hb : Rd w bo (words y)) (hx : (words x).length ≤ 512) (hy : (words y).length ≤ 512) (h : ¬ (words (x + y)).length ≤ 512) :
    Calls Tryd.prog 107 #[.slice ao (words x).length ca, .slice bo (words y).length cb] w fun e w' => ∃ ro rc, e = .returned (.tuple #[.slice ro 0 rc, .int .i64 4]) ∧ Own w.heap.size w' ro rc [] ∧ Below w.heap.size w w' := by
  have := add_words ca cb ha hb hx hy
  unfold fitS at this
  rw [if_neg h] at this
  exact this
theorem words_toNat (b : Bool) : (words b.toNat).length ≤ 1 := words_length_le (by cases b <;> decide)
end Go.Proofs.YtbajcflbimmnhaaDoor
namespace Go.Proofs.YtbajcflbimmnhaaDoor
open Go.RowKit
set_option linter.unusedVariables false
set_option linter.unusedSimpArgs false

/-- How long an argument's lists can be. -/
structure LenQ (q : Q6) : Prop where
  l1 : q.t1.length ≤ 9223372036854775807
  l2 : q.q1.length ≤ 9223372036854775807
  l3 : q.t2.length ≤ 9223372036854775807
  l4 : q.q2.length ≤ 9223372036854775807
def soundQ (q : Q6) : Bool := soundN q.b1 q.t1 q.q1 q.b2 q.t2 q.q2
def wholeQ (q : Q6) : Bool := soundQ q && (decide (q.t2.length = 0) && decide (q.q1 = [1]))
theorem soundQ_any {w : World} {q : Q6} {o1 o2 o3 o4 : Option Addr} {c1 c2 c3 c4 : Nat} (h : Nm w q o1 c1 o2 c2 o3 c3 o4 c4) (hl : LenQ q) {r : Bool} (hr : soundQ q = r) :
    Calls Tryd.prog 29 #[numV q o1 c1 o2 c2 o3 c3 o4 c4] w fun e w' => e = .returned (.bool r) ∧ Below w.heap.size w w' := by
  subst hr
  exact soundN_any c1 c2 c3 c4 h.s1.rd h.s2.rd h.s3.rd h.s4.rd hl.l1 hl.l2 hl.l3 hl.l4 h.s1.nil h.s2.nil h.s3.nil h.s4.nil
theorem isRealQ_any {w : World} {q : Q6} {o1 o2 o3 o4 : Option Addr} {c1 c2 c3 c4 : Nat} (hl : LenQ q) {r : Bool} (hr : decide (q.t2.length = 0) = r) :
    Calls Tryd.prog 68 #[numV q o1 c1 o2 c2 o3 c3 o4 c4] w fun e w' => e = .returned (.bool r) ∧ Below w.heap.size w w' := by
  subst hr
  exact isReal_any hl.l3
theorem isOneQ_any {w : World} {ao : Option Addr} {l : List Nat} (ca : Nat) (ha : Rd w ao l) (hl : l.length ≤ 9223372036854775807) {r : Bool} (hr : decide (l = [1]) = r) :
    Calls Tryd.prog 82 #[.slice ao l.length ca] w fun e w' => e = .returned (.bool r) ∧ w' = w := by
  subst hr
  exact isOne_any ca ha hl
/-- What is asked of numbers whose bits are wanted. -/
def want1 (q : Q6) : Int := if soundQ q = true then (if wholeQ q = true then 0 else 10) else 2
/-- A sound whole number is told by its sign and its size. -/
theorem whole_form {q : Q6} (hd1 : Dig q.t1) (hd4 : Dig q.q2) (h : wholeQ q = true) : ∃ x, q = Q6.whole q.b1 x ∧ (words x).length ≤ 512 ∧ q.b1.toNat ≤ x := by
  unfold wholeQ soundQ soundN at h
  simp only [Bool.and_eq_true, decide_eq_true_eq] at h
  obtain ⟨⟨h1, h2⟩, h3, h4⟩ := h
  have h3' := List.length_eq_zero_iff.1 h3
  have hs1 : sound q.t1 = true := by
    apply Classical.byContradiction
    intro hn
    unfold fracS gcdS at h1
    simp [hn] at h1
  obtain ⟨e1, l1⟩ := sound_words hd1 hs1
  have hq2 : q.q2 = [1] := by
    unfold fracS gcdS at h2
    rw [h3'] at h2
    by_cases hs : sound q.q2 = true
    · have hs0 : sound [] = true := by decide
      simp only [hs0, hs, Bool.and_self, if_true, val_nil, Nat.gcd_zero_left, Bool.and_eq_true, decide_eq_true_eq] at h2
      have := h2.2.2
      rw [← (sound_words hd4 hs).1] at this
      exact this
    · simp [hs] at h2
  have hb2 : q.b2 = false := by
    unfold fracS at h2
    rw [h3'] at h2
    cases hb : q.b2 with
    | false => rfl
    | true => rw [hb] at h2; simp at h2
  refine ⟨val q.t1, ?_, by rw [← e1]; exact l1, ?_⟩
  · cases q
    simp only [Q6.whole] at *
    rw [← e1, h4, h3', hq2, hb2]
  · cases hb : q.b1 with
    | false => simp
    | true =>
      unfold fracS at h1
      rw [hb] at h1
      simp only [Bool.and_true, Bool.and_eq_true, Bool.not_eq_true', Bool.or_eq_false_iff, decide_eq_false_iff_not] at h1
      have hne := h1.1.2
      have : val q.t1 ≠ 0 := by
        intro e
        rw [e, words_zero] at e1
        rw [e1] at hne
        exact hne rfl
      simp
      omega
end Go.Proofs.YtbajcflbimmnhaaDoor
namespace Go.Proofs.YtbajcflbimmnhaaDoor
open Go.RowKit
set_option linter.unusedVariables false
set_option linter.unusedSimpArgs false

/-- z over d, in lowest terms. -/
def rb (z : Int) : Bool := decide (z < 0)
theorem div_len {x g k : Nat} (h : (words x).length ≤ k) : (words (x / g)).length ≤ k := Nat.le_trans (words_mono (Nat.div_le_self x g)) h
/-- A whole number of any sign is answered. -/
def AnsZ (w : World) (z : Int) (e : Ending) (w' : World) : Prop := ∃ o c, e = .returned (.agg #[.bool (rb z), .slice o (words z.natAbs).length c]) ∧ Sc w' o c (words z.natAbs) ∧ Below w.heap.size w w'
theorem AnsZ.sgn {w w' : World} {b b' : Bool} {n : Nat} {z : Int} {o : Option Addr} {c : Nat} (hz : sgn b n = z) (hb : rb (sgn b n) = b') (hs : Sc w' o c (words n)) (hbel : Below w.heap.size w w') : AnsZ w z (.returned (.agg #[.bool b', .slice o (words n).length c])) w' := by
  subst hz hb
  refine ⟨o, c, ?_, ?_, hbel⟩
  · rw [sgn_abs]
  · rw [sgn_abs]; exact hs
theorem fracS_words {b : Bool} {x y : Nat} (hx : (words x).length ≤ 512) (hy : (words y).length ≤ 512) : fracS b (words x) (words y) = (!(decide ((words y).length = 0) || (decide ((words x).length = 0) && b)) && decide (words (Nat.gcd x y) = [1])) := by
  unfold fracS gcdS
  simp only [sound_of_words hx, sound_of_words hy, val_words, Bool.and_self, if_true, decide_true, Bool.true_and]
end Go.Proofs.YtbajcflbimmnhaaDoor
namespace Go.Proofs.YtbajcflbimmnhaaDoor
open Go.RowKit
set_option linter.unusedVariables false
set_option linter.unusedSimpArgs false
set_option maxRecDepth 100000
theorem BiA_is1_23 : Is1 Tryd.prog 23 := ⟨⟨_, Tryd.underlying23, rfl⟩, by kernel_rfl⟩
theorem BiA_is1_4 : Is1 Tryd.prog 4 := ⟨⟨_, Tryd.underlying4, rfl⟩, by kernel_rfl⟩
theorem BiA_fld_25_0 : FieldAt Tryd.prog 25 0 0 := ⟨_, _, Tryd.underlying25, rfl, rfl, by kernel_rfl⟩
theorem BiA_fld_25_1 : FieldAt Tryd.prog 25 1 1 := ⟨_, _, Tryd.underlying25, rfl, rfl, by kernel_rfl⟩
theorem BiA_fld_25_2 : FieldAt Tryd.prog 25 2 2 := ⟨_, _, Tryd.underlying25, rfl, rfl, by kernel_rfl⟩
theorem BiA_fld_27_0 : FieldAt Tryd.prog 27 0 0 := ⟨_, _, Tryd.underlying27, rfl, rfl, by kernel_rfl⟩
theorem BiA_fld_99_0 : FieldAt Tryd.prog 99 0 0 := ⟨_, _, Tryd.underlying99, rfl, rfl, by kernel_rfl⟩
theorem BiA_fld_99_1 : FieldAt Tryd.prog 99 1 1 := ⟨_, _, Tryd.underlying99, rfl, rfl, by kernel_rfl⟩
theorem BiA_isS_27 : IsS Tryd.prog 27 6 := ⟨⟨_, Tryd.underlying27⟩, by kernel_rfl⟩
theorem BiA_isS_99 : IsS Tryd.prog 99 2 := ⟨⟨_, Tryd.underlying99⟩, by kernel_rfl⟩
theorem turnStep_any {w : World} (b : Bool) : Calls Tryd.prog 106 #[.bool b] w (Row1 w (words b.toNat)) := by
 cases b
 · have hS : St w w [] [] [] := St.start w
   refine walk_of (l := [(0, .bool false)]) Tryd.func106 rfl Tryd.ntmps106 rfl rfl ?_
   intro Q hret hnorm hP a hA
   refine wp_seq_k (fun K1 hK1 => ?_)
   refine wp_region_lit ?_
   refine seq_do hA rfl rfl rfl (does_assign rfl) ?_
   intro a hA
   refine seq_end ?_
   refine hK1 _ _ ?_
   refine wp_seq_k (fun K2 hK2 => ?_)
   refine wp_seq_k (fun K3 hK3 => ?_)
   refine wp_region_lit ?_
   refine seq_do hA rfl rfl rfl (does_move rfl) ?_
   intro a hA
   refine seq_end ?_
   refine hK3 _ _ ?_
   refine wp_cond_false (hA.ev rfl) ?_
   refine wp_skip ?_
   refine hK2 _ _ ?_
   refine wp_seq_k (fun K4 hK4 => ?_)
   refine wp_region_lit ?_
   refine seq_call hA rfl rfl rfl (enters_func  rfl rfl (fun w => by kernel_rfl)) (of_any 0 _ (by decide)) ?_
   rintro _ w9 ⟨ro5, rc6, rfl, ho7, hb8⟩
   replace hS := hS.call hb8
   replace hS := hS.addR ho7.rd
   refine ⟨_, rfl, ?_⟩
   intro a hA
   refine seq_do hA rfl rfl rfl (does_assign rfl) ?_
   intro a hA
   refine seq_end ?_
   refine hK4 _ _ ?_
   refine wp_ret ?_
   refine hret _ _ ?_
   refine ends (v := .slice ro5 ((words 0).length) rc6) hA rfl (.cons (res_tmp rfl) .nil) rfl ?_
   exact ⟨_, _, rfl, ho7, hS.bel⟩
 · have hS : St w w [] [] [] := St.start w
   refine walk_of (l := [(0, .bool true)]) Tryd.func106 rfl Tryd.ntmps106 rfl rfl ?_
   intro Q hret hnorm hP a hA
   refine wp_seq_k (fun K1 hK1 => ?_)
   refine wp_region_lit ?_
   refine seq_do hA rfl rfl rfl (does_assign rfl) ?_
   intro a hA
   refine seq_end ?_
   refine hK1 _ _ ?_
   refine wp_seq_k (fun K2 hK2 => ?_)
   refine wp_seq_k (fun K3 hK3 => ?_)
   refine wp_region_lit ?_
   refine seq_do hA rfl rfl rfl (does_move rfl) ?_
   intro a hA
   refine seq_end ?_
   refine hK3 _ _ ?_
   refine wp_cond_true (hA.ev rfl) ?_
   refine wp_seq_k (fun K4 hK4 => ?_)
   refine wp_region_lit ?_
   refine seq_call hA rfl rfl rfl (enters_func  rfl rfl (fun w => by kernel_rfl)) (of_any 1 _ (by decide)) ?_
   rintro _ w9 ⟨ro5, rc6, rfl, ho7, hb8⟩
   replace hS := hS.call hb8
   replace hS := hS.addR ho7.rd
   refine ⟨_, rfl, ?_⟩
   intro a hA
   refine seq_do hA rfl rfl rfl (does_assign rfl) ?_
   intro a hA
   refine seq_end ?_
   refine hK4 _ _ ?_
   refine wp_ret ?_
   refine hret _ _ ?_
   refine ends (v := .slice ro5 ((words 1).length) rc6) hA rfl (.cons (res_tmp rfl) .nil) rfl ?_
   exact ⟨_, _, rfl, ho7, hS.bel⟩
theorem rowOf_any {w : World} {b : Bool} {x : Nat} {a1 a2 a3 a4 : Option Addr} {ac1 ac2 ac3 ac4 : Nat} (ha : Nm w (Q6.whole b x) a1 ac1 a2 ac2 a3 ac3 a4 ac4) (hx : (words x).length ≤ 512) (hb : b.toNat ≤ x) :
    Calls Tryd.prog 76 #[numV (Q6.whole b x) a1 ac1 a2 ac2 a3 ac3 a4 ac4] w fun e w' => ∃ ro rc, e = .returned (.agg #[.bool b, .slice ro (words (x - b.toNat)).length rc]) ∧ Sc w' ro rc (words (x - b.toNat)) ∧ Below w.heap.size w w' := by
 have hS : St w w [] [(a4, [1]), (a3, []), (a2, [1]), (a1, words x)] [] := ((((St.start w).addR ha.s1.rd).addR ha.s2.rd).addR ha.s3.rd).addR ha.s4.rd
 refine walk_of (l := [(0, .agg #[.bool b, .slice a1 ((words x).length) ac1, .slice a2 1 ac2, .bool false, .slice a3 0 ac3, .slice a4 1 ac4])]) Tryd.func76 rfl Tryd.ntmps76 rfl rfl ?_
 intro Q hret hnorm hP a hA
 refine wp_seq_k (fun K1 hK1 => ?_)
 refine wp_region_lit ?_
 refine seq_new hA hS rfl rfl rfl (fun g => .pointer (some ⟨g, 0, none⟩)) (does_box rfl rfl) rfl ?_
 intro g2 w3 hS a hA
 refine seq_new (vs := [.bool false, .slice none 0 0]) (t := 99) hA hS rfl rfl rfl (fun g => .pointer (some ⟨g, 0, none⟩)) (does_alloc (z := .agg #[.bool false, .slice none 0 0]) (by kernel_rfl) rfl) rfl ?_
 intro g4 w5 hS a hA
 refine seq_end ?_
 refine hK1 _ _ ?_
 refine wp_seq_k (fun K6 hK6 => ?_)
 refine wp_draw (S := fun w1 => St w w1 [(g4, [.bool false, .slice none 0 0]), (g2, [.bool b, .slice a1 ((words x).length) ac1, .slice a2 1 ac2, .bool false, .slice a3 0 ac3, .slice a4 1 ac4])] [(a4, [1]), (a3, []), (a2, [1]), (a1, words x)] []) (by kernel_rfl) ?_
 replace hS := hS.drew
 refine any_tk (v := .pointer (some ⟨g2, 0, none⟩)) hA 0 rfl rfl rfl rfl hP hS (fun w1 hS => does_field BiA_fld_27_0 rfl rfl) ?_
 intro a hA
 refine any_tk (v := .pointer (some ⟨g2, 1, none⟩)) hA 1 rfl rfl rfl rfl hP hS (fun w1 hS => does_field BiA_fld_25_1 rfl rfl) ?_
 intro a hA
 refine any_tk hA 2 rfl rfl rfl rfl hP hS (fun w1 hS => does_load1 hS BiA_is1_23 rfl 1 rfl rfl) ?_
 intro a hA
 refine any_tk (v := .pointer (some ⟨g2, 0, none⟩)) hA 3 rfl rfl rfl rfl hP hS (fun w1 hS => does_field BiA_fld_27_0 rfl rfl) ?_
 intro a hA
 refine any_tk (v := .pointer (some ⟨g2, 0, none⟩)) hA 4 rfl rfl rfl rfl hP hS (fun w1 hS => does_field BiA_fld_25_0 rfl rfl) ?_
 intro a hA
 refine any_tk hA 5 rfl rfl rfl rfl hP hS (fun w1 hS => does_load1 hS BiA_is1_4 rfl 1 rfl rfl) ?_
 intro a hA
 refine any_one (by kernel_rfl) (op_call hA 6 rfl rfl rfl rfl (enters_func  rfl rfl (fun w => by kernel_rfl)) (turnStep_any b) ?_)
 rintro _ w11 ⟨ro7, rc8, rfl, ho9, hb10⟩
 replace hS := hS.call hb10
 replace hS := hS.addR ho9.rd
 refine ⟨_, rfl, (hS.partD (.refl _) 1 rfl (.refl _)), ?_⟩
 intro a hA
 refine any_one (by kernel_rfl) (op_call hA 7 rfl rfl rfl rfl (enters_func  rfl rfl (fun w => by kernel_rfl)) (sub_words (x := x) (y := b.toNat) ac1 rc8 (hS.rd 4 rfl) (hS.rd 0 rfl) hx hb) ?_)
 rintro _ w16 ⟨ro12, rc13, rfl, ho14, hb15⟩
 replace hS := hS.call hb15
 replace hS := hS.addR ho14.rd
 refine ⟨_, rfl, (hS.partD (.refl _) 2 rfl (.refl _)), ?_⟩
 intro a hA
 refine any_tk hA 8 rfl rfl rfl rfl hP (hS.partD (.refl _) 2 rfl (.refl _)) (fun w1 hS => does_move rfl) ?_
 intro a hA
 refine any_tk (v := .slice ro12 ((words (x - b.toNat)).length) rc13) hA 9 rfl rfl rfl rfl hP (hS.partD (.refl _) 2 rfl (.refl _)) (fun w1 hS => does_extract (vs := [.slice ro12 ((words (x - b.toNat)).length) rc13, .int .i64 0]) rfl rfl) ?_
 intro a hA
 refine any_tk (v := .int .i64 0) hA 10 rfl rfl rfl rfl hP (hS.partD (.refl _) 2 rfl (.refl _)) (fun w1 hS => does_extract (vs := [.slice ro12 ((words (x - b.toNat)).length) rc13, .int .i64 0]) rfl rfl) ?_
 intro a hA
 refine any_tk hA 11 rfl rfl rfl rfl hP (hS.partD (.refl _) 2 rfl (.refl _)) (fun w1 hS => does_assign rfl) ?_
 intro a hA
 refine any_tk hA 12 rfl rfl rfl rfl hP (hS.partD (.refl _) 2 rfl (.refl _)) (fun w1 hS => does_assign rfl) ?_
 intro a hA
 refine any_end (by kernel_rfl) ?_
 refine hK6 _ _ ?_
 refine wp_seq_k (fun K17 hK17 => ?_)
 refine wp_region_lit ?_
 refine seq_do (v := .pointer (some ⟨g2, 0, none⟩)) hA rfl rfl rfl (does_field BiA_fld_27_0 rfl rfl) ?_
 intro a hA
 refine seq_do (v := .pointer (some ⟨g2, 0, none⟩)) hA rfl rfl rfl (does_field BiA_fld_25_0 rfl rfl) ?_
 intro a hA
 refine seq_do hA rfl rfl rfl (does_load1 hS BiA_is1_4 rfl 1 rfl rfl) ?_
 intro a hA
 refine seq_do hA rfl rfl rfl (does_move rfl) ?_
 intro a hA
 refine seq_do (v := .agg #[.bool b, .slice ro12 ((words (x - b.toNat)).length) rc13]) hA rfl rfl rfl (does_build rfl (fun w => by kernel_rfl)) ?_
 intro a hA
 refine seq_store (us := [.bool b, .slice ro12 ((words (x - b.toNat)).length) rc13]) hA hS rfl rfl (sets_store rfl rfl rfl (by kernel_rfl) hS 0 rfl rfl rfl) 0 rfl rfl rfl rfl ?_
 intro w18 hS
 refine seq_end ?_
 refine hK17 _ _ ?_
 refine wp_ret ?_
 refine hret _ _ ?_
 refine ends (v := .agg #[.bool b, .slice ro12 ((words (x - b.toNat)).length) rc13]) hA rfl (.cons (res_cell hS BiA_isS_99 rfl 0 rfl (cs := [.bool b, .slice ro12 ((words (x - b.toNat)).length) rc13]) rfl rfl) .nil) rfl ?_
 exact ⟨_, _, rfl, ⟨(hS.rd 0 rfl), ho14.nocap, ho14.caps⟩, hS.bel⟩
theorem wholeV_any {w : World} (b : Bool) {so : Option Addr} {c : Nat} {x : Nat} (hs : Sc w so c (words x)) : Calls Tryd.prog 97 #[.bool b, .slice so (words x).length c] w (AnsV w (Q6.whole b x)) := by
 have hS : St w w [] [(so, words x)] [] := (St.start w).addR hs.rd
 refine walk_of (l := [(0, .bool b), (1, .slice so ((words x).length) c)]) Tryd.func97 rfl Tryd.ntmps97 rfl rfl ?_
 intro Q hret hnorm hP a hA
 refine wp_seq_k (fun K1 hK1 => ?_)
 refine wp_region_lit ?_
 refine seq_new (vs := [.bool false, .slice none 0 0, .slice none 0 0, .bool false, .slice none 0 0, .slice none 0 0]) (t := 27) hA hS rfl rfl rfl (fun g => .pointer (some ⟨g, 0, none⟩)) (does_alloc (z := .agg #[.bool false, .slice none 0 0, .slice none 0 0, .bool false, .slice none 0 0, .slice none 0 0]) (by kernel_rfl) rfl) rfl ?_
 intro g2 w3 hS a hA
 refine seq_end ?_
 refine hK1 _ _ ?_
 refine wp_seq_k (fun K4 hK4 => ?_)
 refine wp_region_lit ?_
 refine seq_do hA rfl rfl rfl (does_move rfl) ?_
 intro a hA
 refine seq_do hA rfl rfl rfl (does_move rfl) ?_
 intro a hA
 refine seq_call hA rfl rfl rfl (enters_func  rfl rfl (fun w => by kernel_rfl)) (of_one _) ?_
 rintro _ w9 ⟨ro5, rc6, rfl, ho7, hb8⟩
 replace hS := hS.call hb8
 replace hS := hS.addR ho7.rd
 refine ⟨_, rfl, ?_⟩
 intro a hA
 refine seq_do (v := .agg #[.bool b, .slice so ((words x).length) c, .slice ro5 1 rc6]) hA rfl rfl rfl (does_build rfl (fun w => by kernel_rfl)) ?_
 intro a hA
 refine seq_call hA rfl rfl rfl (enters_func  rfl rfl (fun w => by kernel_rfl)) (of_one _) ?_
 rintro _ w14 ⟨ro10, rc11, rfl, ho12, hb13⟩
 replace hS := hS.call hb13
 replace hS := hS.addR ho12.rd
 refine ⟨_, rfl, ?_⟩
 intro a hA
 refine seq_do (v := .agg #[.bool false, .slice none 0 0, .slice ro10 1 rc11]) hA rfl rfl rfl (does_build rfl (fun w => by kernel_rfl)) ?_
 intro a hA
 refine seq_do (v := .agg #[.bool b, .slice so ((words x).length) c, .slice ro5 1 rc6, .bool false, .slice none 0 0, .slice ro10 1 rc11]) hA rfl rfl rfl (does_build rfl (fun w => by kernel_rfl)) ?_
 intro a hA
 refine seq_store (us := [.bool b, .slice so ((words x).length) c, .slice ro5 1 rc6, .bool false, .slice none 0 0, .slice ro10 1 rc11]) hA hS rfl rfl (sets_store rfl rfl rfl (by kernel_rfl) hS 0 rfl rfl rfl) 0 rfl rfl rfl rfl ?_
 intro w15 hS
 refine seq_end ?_
 refine hK4 _ _ ?_
 refine wp_ret ?_
 refine hret _ _ ?_
 refine ends (v := .agg #[.bool b, .slice so ((words x).length) c, .slice ro5 1 rc6, .bool false, .slice none 0 0, .slice ro10 1 rc11]) hA rfl (.cons (res_cell hS BiA_isS_27 rfl 0 rfl (cs := [.bool b, .slice so ((words x).length) c, .slice ro5 1 rc6, .bool false, .slice none 0 0, .slice ro10 1 rc11]) rfl rfl) .nil) rfl ?_
 exact ⟨so, c, ro5, rc6, none, 0, ro10, rc11, rfl, ⟨⟨(hS.rd 2 rfl), hs.nil, hs.cap⟩, ⟨(hS.rd 1 rfl), ho7.nocap, ho7.caps⟩, (Sc.none _), ⟨(hS.rd 0 rfl), ho12.nocap, ho12.caps⟩⟩, hS.bel⟩
theorem number_any {w : World} {b : Bool} {ro : Option Addr} {rc y : Nat} (hr : Sc w ro rc (words y)) (hy : (words y).length ≤ 512) :
    Calls Tryd.prog 78 #[.agg #[.bool b, .slice ro (words y).length rc]] w (AnsN w (bigS b (y + b.toNat))) := by
 by_cases hf : (words (y + b.toNat)).length ≤ 512
 · have hS : St w w [] [(ro, words y)] [] := (St.start w).addR hr.rd
   refine walk_of (l := [(0, .agg #[.bool b, .slice ro ((words y).length) rc])]) Tryd.func78 rfl Tryd.ntmps78 rfl rfl ?_
   intro Q hret hnorm hP a hA
   refine wp_seq_k (fun K1 hK1 => ?_)
   refine wp_region_lit ?_
   refine seq_new hA hS rfl rfl rfl (fun g => .pointer (some ⟨g, 0, none⟩)) (does_box rfl rfl) rfl ?_
   intro g2 w3 hS a hA
   refine seq_new (vs := [.bool false, .slice none 0 0, .slice none 0 0, .bool false, .slice none 0 0, .slice none 0 0]) (t := 27) hA hS rfl rfl rfl (fun g => .pointer (some ⟨g, 0, none⟩)) (does_alloc (z := .agg #[.bool false, .slice none 0 0, .slice none 0 0, .bool false, .slice none 0 0, .slice none 0 0]) (by kernel_rfl) rfl) rfl ?_
   intro g4 w5 hS a hA
   refine seq_do hA rfl rfl rfl (does_assign rfl) ?_
   intro a hA
   refine seq_end ?_
   refine hK1 _ _ ?_
   refine wp_seq_k (fun K6 hK6 => ?_)
   refine wp_draw (S := fun w1 => St w w1 [(g4, [.bool false, .slice none 0 0, .slice none 0 0, .bool false, .slice none 0 0, .slice none 0 0]), (g2, [.bool b, .slice ro ((words y).length) rc])] [(ro, words y)] []) (by kernel_rfl) ?_
   replace hS := hS.drew
   refine any_tk (v := .pointer (some ⟨g2, 1, none⟩)) hA 0 rfl rfl rfl rfl hP hS (fun w1 hS => does_field BiA_fld_99_1 rfl rfl) ?_
   intro a hA
   refine any_tk hA 1 rfl rfl rfl rfl hP hS (fun w1 hS => does_load1 hS BiA_is1_23 rfl 1 rfl rfl) ?_
   intro a hA
   refine any_tk (v := .pointer (some ⟨g2, 0, none⟩)) hA 2 rfl rfl rfl rfl hP hS (fun w1 hS => does_field BiA_fld_99_0 rfl rfl) ?_
   intro a hA
   refine any_tk hA 3 rfl rfl rfl rfl hP hS (fun w1 hS => does_load1 hS BiA_is1_4 rfl 1 rfl rfl) ?_
   intro a hA
   refine any_one (by kernel_rfl) (op_call hA 4 rfl rfl rfl rfl (enters_func  rfl rfl (fun w => by kernel_rfl)) (turnStep_any b) ?_)
   rintro _ w11 ⟨ro7, rc8, rfl, ho9, hb10⟩
   replace hS := hS.call hb10
   replace hS := hS.addR ho9.rd
   refine ⟨_, rfl, (hS.partD (.refl _) 1 rfl (.refl _)), ?_⟩
   intro a hA
   refine any_one (by kernel_rfl) (op_call hA 5 rfl rfl rfl rfl (enters_func  rfl rfl (fun w => by kernel_rfl)) (add_fit (x := y) (y := b.toNat) rc rc8 (hS.rd 1 rfl) (hS.rd 0 rfl) hy (Nat.le_trans (words_toNat b) (by decide)) hf) ?_)
   rintro _ w16 ⟨ro12, rc13, rfl, ho14, hb15⟩
   replace hS := hS.call hb15
   replace hS := hS.addR ho14.rd
   refine ⟨_, rfl, (hS.partD (.refl _) 2 rfl (.refl _)), ?_⟩
   intro a hA
   refine any_tk hA 6 rfl rfl rfl rfl hP (hS.partD (.refl _) 2 rfl (.refl _)) (fun w1 hS => does_move rfl) ?_
   intro a hA
   refine any_tk (v := .slice ro12 ((words (y + b.toNat)).length) rc13) hA 7 rfl rfl rfl rfl hP (hS.partD (.refl _) 2 rfl (.refl _)) (fun w1 hS => does_extract (vs := [.slice ro12 ((words (y + b.toNat)).length) rc13, .int .i64 0]) rfl rfl) ?_
   intro a hA
   refine any_tk (v := .int .i64 0) hA 8 rfl rfl rfl rfl hP (hS.partD (.refl _) 2 rfl (.refl _)) (fun w1 hS => does_extract (vs := [.slice ro12 ((words (y + b.toNat)).length) rc13, .int .i64 0]) rfl rfl) ?_
   intro a hA
   refine any_tk hA 9 rfl rfl rfl rfl hP (hS.partD (.refl _) 2 rfl (.refl _)) (fun w1 hS => does_assign rfl) ?_
   intro a hA
   refine any_tk hA 10 rfl rfl rfl rfl hP (hS.partD (.refl _) 2 rfl (.refl _)) (fun w1 hS => does_assign rfl) ?_
   intro a hA
   refine any_end (by kernel_rfl) ?_
   refine hK6 _ _ ?_
   refine wp_seq_k (fun K17 hK17 => ?_)
   refine wp_seq_k (fun K18 hK18 => ?_)
   refine wp_region_lit ?_
   refine seq_do hA rfl rfl rfl (does_move rfl) ?_
   intro a hA
   refine seq_do (v := .bool false) hA rfl rfl rfl (does_bin rfl rfl (fun w => by kernel_rfl)) ?_
   intro a hA
   refine seq_end ?_
   refine hK18 _ _ ?_
   refine wp_cond_false (hA.ev rfl) ?_
   refine wp_skip ?_
   refine hK17 _ _ ?_
   refine wp_seq_k (fun K19 hK19 => ?_)
   refine wp_region_lit ?_
   refine seq_do (v := .pointer (some ⟨g2, 0, none⟩)) hA rfl rfl rfl (does_field BiA_fld_99_0 rfl rfl) ?_
   intro a hA
   refine seq_do hA rfl rfl rfl (does_load1 hS BiA_is1_4 rfl 1 rfl rfl) ?_
   intro a hA
   refine seq_do hA rfl rfl rfl (does_move rfl) ?_
   intro a hA
   refine seq_call hA rfl rfl rfl (enters_func  rfl rfl (fun w => by kernel_rfl)) (wholeV_any b ⟨(hS.rd 0 rfl), ho14.nocap, ho14.caps⟩) ?_
   rintro _ w23 ⟨p20_1, p20_c1, p20_2, p20_c2, p20_3, p20_c3, p20_4, p20_c4, rfl, hn21, hb22⟩
   replace hS := hS.call hb22
   replace hS := hS.addR hn21.s1.rd
   replace hS := hS.addR hn21.s2.rd
   replace hS := hS.addR hn21.s3.rd
   replace hS := hS.addR hn21.s4.rd
   refine ⟨_, rfl, ?_⟩
   intro a hA
   refine seq_store (us := [.bool b, .slice p20_1 ((words (y + b.toNat)).length) p20_c1, .slice p20_2 1 p20_c2, .bool false, .slice p20_3 0 p20_c3, .slice p20_4 1 p20_c4]) hA hS rfl rfl (sets_store rfl rfl rfl (by kernel_rfl) hS 0 rfl rfl rfl) 0 rfl rfl rfl rfl ?_
   intro w24 hS
   refine seq_do hA rfl rfl rfl (does_assign rfl) ?_
   intro a hA
   refine seq_end ?_
   refine hK19 _ _ ?_
   refine wp_ret ?_
   refine hret _ _ ?_
   refine ends (v := .tuple #[.agg #[.bool b, .slice p20_1 ((words (y + b.toNat)).length) p20_c1, .slice p20_2 1 p20_c2, .bool false, .slice p20_3 0 p20_c3, .slice p20_4 1 p20_c4], .int .i64 0]) hA rfl (.cons (res_cell hS BiA_isS_27 rfl 0 rfl (cs := [.bool b, .slice p20_1 ((words (y + b.toNat)).length) p20_c1, .slice p20_2 1 p20_c2, .bool false, .slice p20_3 0 p20_c3, .slice p20_4 1 p20_c4]) rfl rfl) (.cons (res_tmp rfl) .nil)) rfl ?_
   rw [bigS_pos hf]
   exact ⟨p20_1, p20_c1, p20_2, p20_c2, p20_3, p20_c3, p20_4, p20_c4, rfl, ⟨⟨(hS.rd 3 rfl), hn21.s1.nil, hn21.s1.cap⟩, ⟨(hS.rd 2 rfl), hn21.s2.nil, hn21.s2.cap⟩, ⟨(hS.rd 1 rfl), hn21.s3.nil, hn21.s3.cap⟩, ⟨(hS.rd 0 rfl), hn21.s4.nil, hn21.s4.cap⟩⟩, hS.bel⟩
 · have hS : St w w [] [(ro, words y)] [] := (St.start w).addR hr.rd
   refine walk_of (l := [(0, .agg #[.bool b, .slice ro ((words y).length) rc])]) Tryd.func78 rfl Tryd.ntmps78 rfl rfl ?_
   intro Q hret hnorm hP a hA
   refine wp_seq_k (fun K1 hK1 => ?_)
   refine wp_region_lit ?_
   refine seq_new hA hS rfl rfl rfl (fun g => .pointer (some ⟨g, 0, none⟩)) (does_box rfl rfl) rfl ?_
   intro g2 w3 hS a hA
   refine seq_new (vs := [.bool false, .slice none 0 0, .slice none 0 0, .bool false, .slice none 0 0, .slice none 0 0]) (t := 27) hA hS rfl rfl rfl (fun g => .pointer (some ⟨g, 0, none⟩)) (does_alloc (z := .agg #[.bool false, .slice none 0 0, .slice none 0 0, .bool false, .slice none 0 0, .slice none 0 0]) (by kernel_rfl) rfl) rfl ?_
   intro g4 w5 hS a hA
   refine seq_do hA rfl rfl rfl (does_assign rfl) ?_
   intro a hA
   refine seq_end ?_
   refine hK1 _ _ ?_
   refine wp_seq_k (fun K6 hK6 => ?_)
   refine wp_draw (S := fun w1 => St w w1 [(g4, [.bool false, .slice none 0 0, .slice none 0 0, .bool false, .slice none 0 0, .slice none 0 0]), (g2, [.bool b, .slice ro ((words y).length) rc])] [(ro, words y)] []) (by kernel_rfl) ?_
   replace hS := hS.drew
   refine any_tk (v := .pointer (some ⟨g2, 1, none⟩)) hA 0 rfl rfl rfl rfl hP hS (fun w1 hS => does_field BiA_fld_99_1 rfl rfl) ?_
   intro a hA
   refine any_tk hA 1 rfl rfl rfl rfl hP hS (fun w1 hS => does_load1 hS BiA_is1_23 rfl 1 rfl rfl) ?_
   intro a hA
   refine any_tk (v := .pointer (some ⟨g2, 0, none⟩)) hA 2 rfl rfl rfl rfl hP hS (fun w1 hS => does_field BiA_fld_99_0 rfl rfl) ?_
   intro a hA
   refine any_tk hA 3 rfl rfl rfl rfl hP hS (fun w1 hS => does_load1 hS BiA_is1_4 rfl 1 rfl rfl) ?_
   intro a hA
   refine any_one (by kernel_rfl) (op_call hA 4 rfl rfl rfl rfl (enters_func  rfl rfl (fun w => by kernel_rfl)) (turnStep_any b) ?_)
   rintro _ w11 ⟨ro7, rc8, rfl, ho9, hb10⟩
   replace hS := hS.call hb10
   replace hS := hS.addR ho9.rd
   refine ⟨_, rfl, (hS.partD (.refl _) 1 rfl (.refl _)), ?_⟩
   intro a hA
   refine any_one (by kernel_rfl) (op_call hA 5 rfl rfl rfl rfl (enters_func  rfl rfl (fun w => by kernel_rfl)) (add_big (x := y) (y := b.toNat) rc rc8 (hS.rd 1 rfl) (hS.rd 0 rfl) hy (Nat.le_trans (words_toNat b) (by decide)) hf) ?_)
   rintro _ w16 ⟨ro12, rc13, rfl, ho14, hb15⟩
   replace hS := hS.call hb15
   replace hS := hS.addR ho14.rd
   refine ⟨_, rfl, (hS.partD (.refl _) 2 rfl (.refl _)), ?_⟩
   intro a hA
   refine any_tk hA 6 rfl rfl rfl rfl hP (hS.partD (.refl _) 2 rfl (.refl _)) (fun w1 hS => does_move rfl) ?_
   intro a hA
   refine any_tk (v := .slice ro12 0 rc13) hA 7 rfl rfl rfl rfl hP (hS.partD (.refl _) 2 rfl (.refl _)) (fun w1 hS => does_extract (vs := [.slice ro12 0 rc13, .int .i64 4]) rfl rfl) ?_
   intro a hA
   refine any_tk (v := .int .i64 4) hA 8 rfl rfl rfl rfl hP (hS.partD (.refl _) 2 rfl (.refl _)) (fun w1 hS => does_extract (vs := [.slice ro12 0 rc13, .int .i64 4]) rfl rfl) ?_
   intro a hA
   refine any_tk hA 9 rfl rfl rfl rfl hP (hS.partD (.refl _) 2 rfl (.refl _)) (fun w1 hS => does_assign rfl) ?_
   intro a hA
   refine any_tk hA 10 rfl rfl rfl rfl hP (hS.partD (.refl _) 2 rfl (.refl _)) (fun w1 hS => does_assign rfl) ?_
   intro a hA
   refine any_end (by kernel_rfl) ?_
   refine hK6 _ _ ?_
   refine wp_seq_k (fun K17 hK17 => ?_)
   refine wp_seq_k (fun K18 hK18 => ?_)
   refine wp_region_lit ?_
   refine seq_do hA rfl rfl rfl (does_move rfl) ?_
   intro a hA
   refine seq_do (v := .bool true) hA rfl rfl rfl (does_bin rfl rfl (fun w => by kernel_rfl)) ?_
   intro a hA
   refine seq_end ?_
   refine hK18 _ _ ?_
   refine wp_cond_true (hA.ev rfl) ?_
   refine wp_seq_k (fun K19 hK19 => ?_)
   refine wp_region_lit ?_
   refine seq_do (v := .agg #[.bool false, .slice none 0 0, .slice none 0 0, .bool false, .slice none 0 0, .slice none 0 0]) hA rfl rfl rfl (does_build rfl (fun w => by kernel_rfl)) ?_
   intro a hA
   refine seq_do hA rfl rfl rfl (does_move rfl) ?_
   intro a hA
   refine seq_store (us := [.bool false, .slice none 0 0, .slice none 0 0, .bool false, .slice none 0 0, .slice none 0 0]) hA hS rfl rfl (sets_store rfl rfl rfl (by kernel_rfl) hS 0 rfl rfl rfl) 0 rfl rfl rfl rfl ?_
   intro w20 hS
   refine seq_do hA rfl rfl rfl (does_assign rfl) ?_
   intro a hA
   refine seq_end ?_
   refine hK19 _ _ ?_
   refine wp_ret ?_
   refine hret _ _ ?_
   refine ends (v := .tuple #[.agg #[.bool false, .slice none 0 0, .slice none 0 0, .bool false, .slice none 0 0, .slice none 0 0], .int .i64 4]) hA rfl (.cons (res_cell hS BiA_isS_27 rfl 0 rfl (cs := [.bool false, .slice none 0 0, .slice none 0 0, .bool false, .slice none 0 0, .slice none 0 0]) rfl rfl) (.cons (res_tmp rfl) .nil)) rfl ?_
   rw [bigS_neg hf]
   exact ⟨none, 0, none, 0, none, 0, none, 0, rfl, ⟨(Sc.none _), (Sc.none _), (Sc.none _), (Sc.none _)⟩, hS.bel⟩
theorem endless_any {w : World} {b : Bool} {ro : Option Addr} {n rc : Nat} : Calls Tryd.prog 133 #[.agg #[.bool b, .slice ro n rc]] w fun e w' => e = .returned (.int .u32 ((b.toNat * 4294967295 : Nat) : Int)) ∧ Below w.heap.size w w' := by
 cases b
 · have hS : St w w [] [] [] := St.start w
   refine walk_of (l := [(0, .agg #[.bool false, .slice ro n rc])]) Tryd.func133 rfl Tryd.ntmps133 rfl rfl ?_
   intro Q hret hnorm hP a hA
   refine wp_seq_k (fun K1 hK1 => ?_)
   refine wp_region_lit ?_
   refine seq_new hA hS rfl rfl rfl (fun g => .pointer (some ⟨g, 0, none⟩)) (does_box rfl rfl) rfl ?_
   intro g2 w3 hS a hA
   refine seq_do hA rfl rfl rfl (does_assign rfl) ?_
   intro a hA
   refine seq_end ?_
   refine hK1 _ _ ?_
   refine wp_seq_k (fun K4 hK4 => ?_)
   refine wp_seq_k (fun K5 hK5 => ?_)
   refine wp_region_lit ?_
   refine seq_do (v := .pointer (some ⟨g2, 0, none⟩)) hA rfl rfl rfl (does_field BiA_fld_99_0 rfl rfl) ?_
   intro a hA
   refine seq_do hA rfl rfl rfl (does_load1 hS BiA_is1_4 rfl 0 rfl rfl) ?_
   intro a hA
   refine seq_end ?_
   refine hK5 _ _ ?_
   refine wp_cond_false (hA.ev rfl) ?_
   refine wp_skip ?_
   refine hK4 _ _ ?_
   refine wp_seq_k (fun K6 hK6 => ?_)
   refine wp_region_lit ?_
   refine seq_do hA rfl rfl rfl (does_assign rfl) ?_
   intro a hA
   refine seq_end ?_
   refine hK6 _ _ ?_
   refine wp_ret ?_
   refine hret _ _ ?_
   refine ends (v := .int .u32 0) hA rfl (.cons (res_tmp rfl) .nil) rfl ?_
   exact ⟨rfl, hS.bel⟩
 · have hS : St w w [] [] [] := St.start w
   refine walk_of (l := [(0, .agg #[.bool true, .slice ro n rc])]) Tryd.func133 rfl Tryd.ntmps133 rfl rfl ?_
   intro Q hret hnorm hP a hA
   refine wp_seq_k (fun K1 hK1 => ?_)
   refine wp_region_lit ?_
   refine seq_new hA hS rfl rfl rfl (fun g => .pointer (some ⟨g, 0, none⟩)) (does_box rfl rfl) rfl ?_
   intro g2 w3 hS a hA
   refine seq_do hA rfl rfl rfl (does_assign rfl) ?_
   intro a hA
   refine seq_end ?_
   refine hK1 _ _ ?_
   refine wp_seq_k (fun K4 hK4 => ?_)
   refine wp_seq_k (fun K5 hK5 => ?_)
   refine wp_region_lit ?_
   refine seq_do (v := .pointer (some ⟨g2, 0, none⟩)) hA rfl rfl rfl (does_field BiA_fld_99_0 rfl rfl) ?_
   intro a hA
   refine seq_do hA rfl rfl rfl (does_load1 hS BiA_is1_4 rfl 0 rfl rfl) ?_
   intro a hA
   refine seq_end ?_
   refine hK5 _ _ ?_
   refine wp_cond_true (hA.ev rfl) ?_
   refine wp_seq_k (fun K6 hK6 => ?_)
   refine wp_region_lit ?_
   refine seq_do hA rfl rfl rfl (does_assign rfl) ?_
   intro a hA
   refine seq_end ?_
   refine hK6 _ _ ?_
   refine wp_ret ?_
   refine hret _ _ ?_
   refine ends (v := .int .u32 4294967295) hA rfl (.cons (res_tmp rfl) .nil) rfl ?_
   exact ⟨rfl, hS.bel⟩
theorem turned_any {w : World} {b : Bool} {ro : Option Addr} {n rc : Nat} : Calls Tryd.prog 77 #[.agg #[.bool b, .slice ro n rc]] w fun e w' => e = .returned (.agg #[.bool (!b), .slice ro n rc]) ∧ Below w.heap.size w w' := by
 have hS : St w w [] [] [] := St.start w
 refine walk_of (l := [(0, .agg #[.bool b, .slice ro n rc])]) Tryd.func77 rfl Tryd.ntmps77 rfl rfl ?_
 intro Q hret hnorm hP a hA
 refine wp_seq_k (fun K1 hK1 => ?_)
 refine wp_region_lit ?_
 refine seq_new hA hS rfl rfl rfl (fun g => .pointer (some ⟨g, 0, none⟩)) (does_box rfl rfl) rfl ?_
 intro g2 w3 hS a hA
 refine seq_new (vs := [.bool false, .slice none 0 0]) (t := 99) hA hS rfl rfl rfl (fun g => .pointer (some ⟨g, 0, none⟩)) (does_alloc (z := .agg #[.bool false, .slice none 0 0]) (by kernel_rfl) rfl) rfl ?_
 intro g4 w5 hS a hA
 refine seq_end ?_
 refine hK1 _ _ ?_
 refine wp_seq_k (fun K6 hK6 => ?_)
 refine wp_region_lit ?_
 refine seq_do (v := .pointer (some ⟨g2, 0, none⟩)) hA rfl rfl rfl (does_field BiA_fld_99_0 rfl rfl) ?_
 intro a hA
 refine seq_do hA rfl rfl rfl (does_load1 hS BiA_is1_4 rfl 1 rfl rfl) ?_
 intro a hA
 refine seq_do (v := .bool (!b)) hA rfl rfl rfl (does_un rfl un_not) ?_
 intro a hA
 refine seq_do (v := .pointer (some ⟨g2, 1, none⟩)) hA rfl rfl rfl (does_field BiA_fld_99_1 rfl rfl) ?_
 intro a hA
 refine seq_do hA rfl rfl rfl (does_load1 hS BiA_is1_23 rfl 1 rfl rfl) ?_
 intro a hA
 refine seq_do (v := .agg #[.bool (!b), .slice ro n rc]) hA rfl rfl rfl (does_build rfl (fun w => by kernel_rfl)) ?_
 intro a hA
 refine seq_store (us := [.bool (!b), .slice ro n rc]) hA hS rfl rfl (sets_store rfl rfl rfl (by kernel_rfl) hS 0 rfl rfl rfl) 0 rfl rfl rfl rfl ?_
 intro w7 hS
 refine seq_end ?_
 refine hK6 _ _ ?_
 refine wp_ret ?_
 refine hret _ _ ?_
 refine ends (v := .agg #[.bool (!b), .slice ro n rc]) hA rfl (.cons (res_cell hS BiA_isS_99 rfl 0 rfl (cs := [.bool (!b), .slice ro n rc]) rfl rfl) .nil) rfl ?_
 exact ⟨rfl, hS.bel⟩
theorem wholeQ_any {w : World} {q : Q6} {a1 a2 a3 a4 : Option Addr} {ac1 ac2 ac3 ac4 : Nat} (ha : Nm w q a1 ac1 a2 ac2 a3 ac3 a4 ac4) (hl : LenQ q) {r : Bool} (hr : wholeQ q = r) : Calls Tryd.prog 104 #[numV q a1 ac1 a2 ac2 a3 ac3 a4 ac4] w fun e w' => e = .returned (.bool r) ∧ Below w.heap.size w w' := by
 have hS : St w w [] [(a4, q.q2), (a3, q.t2), (a2, q.q1), (a1, q.t1)] [] := ((((St.start w).addR ha.s1.rd).addR ha.s2.rd).addR ha.s3.rd).addR ha.s4.rd
 refine walk_of (l := [(0, .agg #[.bool q.b1, .slice a1 q.t1.length ac1, .slice a2 q.q1.length ac2, .bool q.b2, .slice a3 q.t2.length ac3, .slice a4 q.q2.length ac4])]) Tryd.func104 rfl Tryd.ntmps104 rfl rfl ?_
 intro Q hret hnorm hP a hA
 refine wp_seq_k (fun K1 hK1 => ?_)
 refine wp_region_lit ?_
 refine seq_new hA hS rfl rfl rfl (fun g => .pointer (some ⟨g, 0, none⟩)) (does_box rfl rfl) rfl ?_
 intro g2 w3 hS a hA
 refine seq_do hA rfl rfl rfl (does_assign rfl) ?_
 intro a hA
 refine seq_end ?_
 refine hK1 _ _ ?_
 refine wp_seq_k (fun K4 hK4 => ?_)
 refine wp_region_lit ?_
 refine seq_do hA rfl rfl rfl (does_loadS hS BiA_isS_27 rfl 0 rfl (cs := [.bool q.b1, .slice a1 q.t1.length ac1, .slice a2 q.q1.length ac2, .bool q.b2, .slice a3 q.t2.length ac3, .slice a4 q.q2.length ac4]) rfl rfl) ?_
 intro a hA
 rcases Bool.eq_false_or_eq_true (soundQ q) with hb5 | hb5
 · refine seq_call hA rfl rfl rfl (enters_func  rfl rfl (fun w => by kernel_rfl)) (soundQ_any (show Nm _ _ a1 ac1 a2 ac2 a3 ac3 a4 ac4 from ⟨⟨(hS.rd 3 rfl), ha.s1.nil, ha.s1.cap⟩, ⟨(hS.rd 2 rfl), ha.s2.nil, ha.s2.cap⟩, ⟨(hS.rd 1 rfl), ha.s3.nil, ha.s3.cap⟩, ⟨(hS.rd 0 rfl), ha.s4.nil, ha.s4.cap⟩⟩) hl hb5) ?_
   rintro _ w7 ⟨rfl, hb6⟩
   replace hS := hS.call hb6
   refine ⟨_, rfl, ?_⟩
   intro a hA
   refine seq_do hA rfl rfl rfl (does_move rfl) ?_
   intro a hA
   refine seq_do hA rfl rfl rfl (does_loadS hS BiA_isS_27 rfl 0 rfl (cs := [.bool q.b1, .slice a1 q.t1.length ac1, .slice a2 q.q1.length ac2, .bool q.b2, .slice a3 q.t2.length ac3, .slice a4 q.q2.length ac4]) rfl rfl) ?_
   intro a hA
   rcases Bool.eq_false_or_eq_true (decide (q.t2.length = 0)) with hb8 | hb8
   · have hb8' := of_decide_eq_true hb8
     refine seq_call hA rfl rfl rfl (enters_func  rfl rfl (fun w => by kernel_rfl)) (isRealQ_any hl hb8) ?_
     rintro _ w10 ⟨rfl, hb9⟩
     replace hS := hS.call hb9
     refine ⟨_, rfl, ?_⟩
     intro a hA
     refine seq_do (v := .bool true) hA rfl rfl rfl (does_pick rfl rfl rfl rfl) ?_
     intro a hA
     refine seq_do hA rfl rfl rfl (does_move rfl) ?_
     intro a hA
     refine seq_do (v := .pointer (some ⟨g2, 0, none⟩)) hA rfl rfl rfl (does_field BiA_fld_27_0 rfl rfl) ?_
     intro a hA
     refine seq_do (v := .pointer (some ⟨g2, 2, none⟩)) hA rfl rfl rfl (does_field BiA_fld_25_2 rfl rfl) ?_
     intro a hA
     refine seq_do hA rfl rfl rfl (does_load1 hS BiA_is1_23 rfl 0 rfl rfl) ?_
     intro a hA
     rcases Bool.eq_false_or_eq_true (decide (q.q1 = [1])) with hb11 | hb11
     · have hb11' := of_decide_eq_true hb11
       refine seq_call hA rfl rfl rfl (enters_func  rfl rfl (fun w => by kernel_rfl)) (isOneQ_any _ (hS.rd 2 rfl) hl.l2 hb11) ?_
       rintro _ w13 ⟨rfl, hb12⟩
       replace hb12 := below_eq hb12
       replace hS := hS.call hb12
       refine ⟨_, rfl, ?_⟩
       intro a hA
       refine seq_do (v := .bool true) hA rfl rfl rfl (does_pick rfl rfl rfl rfl) ?_
       intro a hA
       refine seq_do hA rfl rfl rfl (does_assign rfl) ?_
       intro a hA
       refine seq_end ?_
       refine hK4 _ _ ?_
       refine wp_ret ?_
       refine hret _ _ ?_
       refine ends (v := .bool true) hA rfl (.cons (res_tmp rfl) .nil) rfl ?_
       subst hr
       exact ⟨by unfold wholeQ; rw [hb5, hb8, hb11]; try rfl, hS.bel⟩
     · have hb11' := of_decide_eq_false hb11
       refine seq_call hA rfl rfl rfl (enters_func  rfl rfl (fun w => by kernel_rfl)) (isOneQ_any _ (hS.rd 2 rfl) hl.l2 hb11) ?_
       rintro _ w15 ⟨rfl, hb14⟩
       replace hb14 := below_eq hb14
       replace hS := hS.call hb14
       refine ⟨_, rfl, ?_⟩
       intro a hA
       refine seq_do (v := .bool false) hA rfl rfl rfl (does_pick rfl rfl rfl rfl) ?_
       intro a hA
       refine seq_do hA rfl rfl rfl (does_assign rfl) ?_
       intro a hA
       refine seq_end ?_
       refine hK4 _ _ ?_
       refine wp_ret ?_
       refine hret _ _ ?_
       refine ends (v := .bool false) hA rfl (.cons (res_tmp rfl) .nil) rfl ?_
       subst hr
       exact ⟨by unfold wholeQ; rw [hb5, hb8, hb11]; try rfl, hS.bel⟩
   · have hb8' := of_decide_eq_false hb8
     refine seq_call hA rfl rfl rfl (enters_func  rfl rfl (fun w => by kernel_rfl)) (isRealQ_any hl hb8) ?_
     rintro _ w17 ⟨rfl, hb16⟩
     replace hS := hS.call hb16
     refine ⟨_, rfl, ?_⟩
     intro a hA
     refine seq_do (v := .bool false) hA rfl rfl rfl (does_pick rfl rfl rfl rfl) ?_
     intro a hA
     refine seq_do hA rfl rfl rfl (does_move rfl) ?_
     intro a hA
     refine seq_skip hA rfl rfl rfl ?_
     intro a hA
     refine seq_skip hA rfl rfl rfl ?_
     intro a hA
     refine seq_skip hA rfl rfl rfl ?_
     intro a hA
     refine seq_skip hA rfl rfl rfl ?_
     intro a hA
     refine seq_do (v := .bool false) hA rfl rfl rfl (does_pick rfl rfl rfl rfl) ?_
     intro a hA
     refine seq_do hA rfl rfl rfl (does_assign rfl) ?_
     intro a hA
     refine seq_end ?_
     refine hK4 _ _ ?_
     refine wp_ret ?_
     refine hret _ _ ?_
     refine ends (v := .bool false) hA rfl (.cons (res_tmp rfl) .nil) rfl ?_
     subst hr
     exact ⟨by unfold wholeQ; rw [hb5, hb8]; try rfl, hS.bel⟩
 · refine seq_call hA rfl rfl rfl (enters_func  rfl rfl (fun w => by kernel_rfl)) (soundQ_any (show Nm _ _ a1 ac1 a2 ac2 a3 ac3 a4 ac4 from ⟨⟨(hS.rd 3 rfl), ha.s1.nil, ha.s1.cap⟩, ⟨(hS.rd 2 rfl), ha.s2.nil, ha.s2.cap⟩, ⟨(hS.rd 1 rfl), ha.s3.nil, ha.s3.cap⟩, ⟨(hS.rd 0 rfl), ha.s4.nil, ha.s4.cap⟩⟩) hl hb5) ?_
   rintro _ w19 ⟨rfl, hb18⟩
   replace hS := hS.call hb18
   refine ⟨_, rfl, ?_⟩
   intro a hA
   refine seq_do hA rfl rfl rfl (does_move rfl) ?_
   intro a hA
   refine seq_skip hA rfl rfl rfl ?_
   intro a hA
   refine seq_skip hA rfl rfl rfl ?_
   intro a hA
   refine seq_do (v := .bool false) hA rfl rfl rfl (does_pick rfl rfl rfl rfl) ?_
   intro a hA
   refine seq_do hA rfl rfl rfl (does_move rfl) ?_
   intro a hA
   refine seq_skip hA rfl rfl rfl ?_
   intro a hA
   refine seq_skip hA rfl rfl rfl ?_
   intro a hA
   refine seq_skip hA rfl rfl rfl ?_
   intro a hA
   refine seq_skip hA rfl rfl rfl ?_
   intro a hA
   refine seq_do (v := .bool false) hA rfl rfl rfl (does_pick rfl rfl rfl rfl) ?_
   intro a hA
   refine seq_do hA rfl rfl rfl (does_assign rfl) ?_
   intro a hA
   refine seq_end ?_
   refine hK4 _ _ ?_
   refine wp_ret ?_
   refine hret _ _ ?_
   refine ends (v := .bool false) hA rfl (.cons (res_tmp rfl) .nil) rfl ?_
   subst hr
   exact ⟨by unfold wholeQ; rw [hb5]; try rfl, hS.bel⟩
theorem want1_any {w : World} {q : Q6} {a1 a2 a3 a4 : Option Addr} {ac1 ac2 ac3 ac4 : Nat} (ha : Nm w q a1 ac1 a2 ac2 a3 ac3 a4 ac4) (hl : LenQ q) {g : Nat} (hg : Blk w g [.bool q.b1, .slice a1 q.t1.length ac1, .slice a2 q.q1.length ac2, .bool q.b2, .slice a3 q.t2.length ac3, .slice a4 q.q2.length ac4]) {r : Int} (hr : want1 q = r) : Calls Tryd.prog 75 #[.slice (some ⟨g, 0, none⟩) 1 1] w fun e w' => e = .returned (.int .i64 r) ∧ Below w.heap.size w w' := by
 have hS : St w w [] [(a4, q.q2), (a3, q.t2), (a2, q.q1), (a1, q.t1)] [] := ((((St.start w).addR ha.s1.rd).addR ha.s2.rd).addR ha.s3.rd).addR ha.s4.rd
 refine walk_of (l := [(0, .slice (some ⟨g, 0, none⟩) 1 1)]) Tryd.func75 rfl Tryd.ntmps75 rfl rfl ?_
 intro Q hret hnorm hP a hA
 refine wp_seq_k (fun K1 hK1 => ?_)
 refine wp_region_lit ?_
 refine seq_do hA rfl rfl rfl (does_assign rfl) ?_
 intro a hA
 refine seq_end ?_
 refine hK1 _ _ ?_
 refine wp_seq_k (fun K2 hK2 => ?_)
 refine wp_seq_k (fun K3 hK3 => ?_)
 refine wp_region_lit ?_
 refine seq_do hA rfl rfl rfl (does_move rfl) ?_
 intro a hA
 refine seq_do (v := .int .i64 1) hA rfl rfl rfl (does_len Tryd.underlying92 rfl) ?_
 intro a hA
 refine seq_do hA rfl rfl rfl (does_move rfl) ?_
 intro a hA
 refine seq_end ?_
 refine hK3 _ _ ?_
 refine wp_block ?_
 refine wp_loop_rounds 12 ?_
 refine rounds_k (fun K4 hK4 => ?_)
 refine wp_seq_k (fun K5 hK5 => ?_)
 refine wp_region_lit ?_
 refine seq_do (v := .bool true) hA rfl rfl rfl (does_bin rfl rfl (fun w => by kernel_rfl)) ?_
 intro a hA
 refine seq_end ?_
 refine hK5 _ _ ?_
 refine wp_seq_k (fun K6 hK6 => ?_)
 refine wp_cond_true (hA.ev rfl) ?_
 refine wp_skip ?_
 refine hK6 _ _ ?_
 refine wp_seq_k (fun K7 hK7 => ?_)
 refine wp_block ?_
 refine wp_seq_k (fun K8 hK8 => ?_)
 refine wp_region_lit ?_
 refine seq_do (v := .pointer (some ⟨g, 0, none⟩)) hA rfl rfl rfl (does_indexI rfl rfl (fun w => by kernel_rfl)) ?_
 intro a hA
 refine seq_do hA rfl rfl rfl (does_loadSF hS hg BiA_isS_27 rfl (cs := [.bool q.b1, .slice a1 q.t1.length ac1, .slice a2 q.q1.length ac2, .bool q.b2, .slice a3 q.t2.length ac3, .slice a4 q.q2.length ac4]) rfl rfl) ?_
 intro a hA
 refine seq_new (vs := [.bool false, .slice none 0 0, .slice none 0 0, .bool false, .slice none 0 0, .slice none 0 0]) (t := 27) hA hS rfl rfl rfl (fun g => .pointer (some ⟨g, 0, none⟩)) (does_alloc (z := .agg #[.bool false, .slice none 0 0, .slice none 0 0, .bool false, .slice none 0 0, .slice none 0 0]) (by kernel_rfl) rfl) rfl ?_
 intro g9 w10 hS a hA
 refine seq_store (us := [.bool q.b1, .slice a1 q.t1.length ac1, .slice a2 q.q1.length ac2, .bool q.b2, .slice a3 q.t2.length ac3, .slice a4 q.q2.length ac4]) hA hS rfl rfl (sets_store rfl rfl rfl (by kernel_rfl) hS 0 rfl rfl rfl) 0 rfl rfl rfl rfl ?_
 intro w11 hS
 refine seq_end ?_
 refine hK8 _ _ ?_
 refine wp_seq_k (fun K12 hK12 => ?_)
 refine wp_region_lit ?_
 refine seq_do hA rfl rfl rfl (does_loadS hS BiA_isS_27 rfl 0 rfl (cs := [.bool q.b1, .slice a1 q.t1.length ac1, .slice a2 q.q1.length ac2, .bool q.b2, .slice a3 q.t2.length ac3, .slice a4 q.q2.length ac4]) rfl rfl) ?_
 intro a hA
 rcases Bool.eq_false_or_eq_true (soundQ q) with hb13 | hb13
 · refine seq_call hA rfl rfl rfl (enters_func  rfl rfl (fun w => by kernel_rfl)) (soundQ_any (show Nm _ _ a1 ac1 a2 ac2 a3 ac3 a4 ac4 from ⟨⟨(hS.rd 3 rfl), ha.s1.nil, ha.s1.cap⟩, ⟨(hS.rd 2 rfl), ha.s2.nil, ha.s2.cap⟩, ⟨(hS.rd 1 rfl), ha.s3.nil, ha.s3.cap⟩, ⟨(hS.rd 0 rfl), ha.s4.nil, ha.s4.cap⟩⟩) hl hb13) ?_
   rintro _ w15 ⟨rfl, hb14⟩
   replace hS := hS.call hb14
   refine ⟨_, rfl, ?_⟩
   intro a hA
   refine seq_do (v := .bool false) hA rfl rfl rfl (does_un rfl un_not) ?_
   intro a hA
   refine seq_end ?_
   refine hK12 _ _ ?_
   refine wp_cond_false (hA.ev rfl) ?_
   refine wp_skip ?_
   refine hK7 _ _ ?_
   refine wp_region_lit ?_
   refine seq_do (v := .int .i64 1) hA rfl rfl rfl (does_bin rfl rfl (fun w => by kernel_rfl)) ?_
   intro a hA
   refine seq_do hA rfl rfl rfl (does_move rfl) ?_
   intro a hA
   refine seq_end ?_
   refine hK4 _ _ ?_
   refine rounds_k (fun K16 hK16 => ?_)
   refine wp_seq_k (fun K17 hK17 => ?_)
   refine wp_region_lit ?_
   refine seq_do (v := .bool false) hA rfl rfl rfl (does_bin rfl rfl (fun w => by kernel_rfl)) ?_
   intro a hA
   refine seq_end ?_
   refine hK17 _ _ ?_
   refine wp_seq_k (fun K18 hK18 => ?_)
   refine wp_cond_false (hA.ev rfl) ?_
   refine wp_exit ?_
   refine hK2 _ _ ?_
   refine wp_seq_k (fun K19 hK19 => ?_)
   refine wp_seq_k (fun K20 hK20 => ?_)
   refine wp_region_lit ?_
   refine seq_do hA rfl rfl rfl (does_move rfl) ?_
   intro a hA
   refine seq_do (v := .int .i64 1) hA rfl rfl rfl (does_len Tryd.underlying92 rfl) ?_
   intro a hA
   refine seq_do hA rfl rfl rfl (does_move rfl) ?_
   intro a hA
   refine seq_end ?_
   refine hK20 _ _ ?_
   refine wp_block ?_
   refine wp_loop_rounds 12 ?_
   refine rounds_k (fun K21 hK21 => ?_)
   refine wp_seq_k (fun K22 hK22 => ?_)
   refine wp_region_lit ?_
   refine seq_do (v := .bool true) hA rfl rfl rfl (does_bin rfl rfl (fun w => by kernel_rfl)) ?_
   intro a hA
   refine seq_end ?_
   refine hK22 _ _ ?_
   refine wp_seq_k (fun K23 hK23 => ?_)
   refine wp_cond_true (hA.ev rfl) ?_
   refine wp_skip ?_
   refine hK23 _ _ ?_
   refine wp_seq_k (fun K24 hK24 => ?_)
   refine wp_block ?_
   refine wp_seq_k (fun K25 hK25 => ?_)
   refine wp_region_lit ?_
   refine seq_do (v := .pointer (some ⟨g, 0, none⟩)) hA rfl rfl rfl (does_indexI rfl rfl (fun w => by kernel_rfl)) ?_
   intro a hA
   refine seq_do hA rfl rfl rfl (does_loadSF hS hg BiA_isS_27 rfl (cs := [.bool q.b1, .slice a1 q.t1.length ac1, .slice a2 q.q1.length ac2, .bool q.b2, .slice a3 q.t2.length ac3, .slice a4 q.q2.length ac4]) rfl rfl) ?_
   intro a hA
   refine seq_new (vs := [.bool false, .slice none 0 0, .slice none 0 0, .bool false, .slice none 0 0, .slice none 0 0]) (t := 27) hA hS rfl rfl rfl (fun g => .pointer (some ⟨g, 0, none⟩)) (does_alloc (z := .agg #[.bool false, .slice none 0 0, .slice none 0 0, .bool false, .slice none 0 0, .slice none 0 0]) (by kernel_rfl) rfl) rfl ?_
   intro g26 w27 hS a hA
   refine seq_store (us := [.bool q.b1, .slice a1 q.t1.length ac1, .slice a2 q.q1.length ac2, .bool q.b2, .slice a3 q.t2.length ac3, .slice a4 q.q2.length ac4]) hA hS rfl rfl (sets_store rfl rfl rfl (by kernel_rfl) hS 0 rfl rfl rfl) 0 rfl rfl rfl rfl ?_
   intro w28 hS
   refine seq_end ?_
   refine hK25 _ _ ?_
   refine wp_seq_k (fun K29 hK29 => ?_)
   refine wp_region_lit ?_
   refine seq_do hA rfl rfl rfl (does_loadS hS BiA_isS_27 rfl 0 rfl (cs := [.bool q.b1, .slice a1 q.t1.length ac1, .slice a2 q.q1.length ac2, .bool q.b2, .slice a3 q.t2.length ac3, .slice a4 q.q2.length ac4]) rfl rfl) ?_
   intro a hA
   rcases Bool.eq_false_or_eq_true (wholeQ q) with hb30 | hb30
   · refine seq_call hA rfl rfl rfl (enters_func  rfl rfl (fun w => by kernel_rfl)) (wholeQ_any (show Nm _ _ a1 ac1 a2 ac2 a3 ac3 a4 ac4 from ⟨⟨(hS.rd 3 rfl), ha.s1.nil, ha.s1.cap⟩, ⟨(hS.rd 2 rfl), ha.s2.nil, ha.s2.cap⟩, ⟨(hS.rd 1 rfl), ha.s3.nil, ha.s3.cap⟩, ⟨(hS.rd 0 rfl), ha.s4.nil, ha.s4.cap⟩⟩) hl hb30) ?_
     rintro _ w32 ⟨rfl, hb31⟩
     replace hS := hS.call hb31
     refine ⟨_, rfl, ?_⟩
     intro a hA
     refine seq_do (v := .bool false) hA rfl rfl rfl (does_un rfl un_not) ?_
     intro a hA
     refine seq_end ?_
     refine hK29 _ _ ?_
     refine wp_cond_false (hA.ev rfl) ?_
     refine wp_skip ?_
     refine hK24 _ _ ?_
     refine wp_region_lit ?_
     refine seq_do (v := .int .i64 1) hA rfl rfl rfl (does_bin rfl rfl (fun w => by kernel_rfl)) ?_
     intro a hA
     refine seq_do hA rfl rfl rfl (does_move rfl) ?_
     intro a hA
     refine seq_end ?_
     refine hK21 _ _ ?_
     refine rounds_k (fun K33 hK33 => ?_)
     refine wp_seq_k (fun K34 hK34 => ?_)
     refine wp_region_lit ?_
     refine seq_do (v := .bool false) hA rfl rfl rfl (does_bin rfl rfl (fun w => by kernel_rfl)) ?_
     intro a hA
     refine seq_end ?_
     refine hK34 _ _ ?_
     refine wp_seq_k (fun K35 hK35 => ?_)
     refine wp_cond_false (hA.ev rfl) ?_
     refine wp_exit ?_
     refine hK19 _ _ ?_
     refine wp_seq_k (fun K36 hK36 => ?_)
     refine wp_region_lit ?_
     refine seq_do hA rfl rfl rfl (does_assign rfl) ?_
     intro a hA
     refine seq_end ?_
     refine hK36 _ _ ?_
     refine wp_ret ?_
     refine hret _ _ ?_
     refine ends (v := .int .i64 0) hA rfl (.cons (res_tmp rfl) .nil) rfl ?_
     subst hr
     exact ⟨by simp [want1, hb13, hb30], hS.bel⟩
   · refine seq_call hA rfl rfl rfl (enters_func  rfl rfl (fun w => by kernel_rfl)) (wholeQ_any (show Nm _ _ a1 ac1 a2 ac2 a3 ac3 a4 ac4 from ⟨⟨(hS.rd 3 rfl), ha.s1.nil, ha.s1.cap⟩, ⟨(hS.rd 2 rfl), ha.s2.nil, ha.s2.cap⟩, ⟨(hS.rd 1 rfl), ha.s3.nil, ha.s3.cap⟩, ⟨(hS.rd 0 rfl), ha.s4.nil, ha.s4.cap⟩⟩) hl hb30) ?_
     rintro _ w38 ⟨rfl, hb37⟩
     replace hS := hS.call hb37
     refine ⟨_, rfl, ?_⟩
     intro a hA
     refine seq_do (v := .bool true) hA rfl rfl rfl (does_un rfl un_not) ?_
     intro a hA
     refine seq_end ?_
     refine hK29 _ _ ?_
     refine wp_cond_true (hA.ev rfl) ?_
     refine wp_seq_k (fun K39 hK39 => ?_)
     refine wp_region_lit ?_
     refine seq_do hA rfl rfl rfl (does_assign rfl) ?_
     intro a hA
     refine seq_end ?_
     refine hK39 _ _ ?_
     refine wp_ret ?_
     refine hret _ _ ?_
     refine ends (v := .int .i64 10) hA rfl (.cons (res_tmp rfl) .nil) rfl ?_
     subst hr
     exact ⟨by simp [want1, hb13, hb30], hS.bel⟩
 · refine seq_call hA rfl rfl rfl (enters_func  rfl rfl (fun w => by kernel_rfl)) (soundQ_any (show Nm _ _ a1 ac1 a2 ac2 a3 ac3 a4 ac4 from ⟨⟨(hS.rd 3 rfl), ha.s1.nil, ha.s1.cap⟩, ⟨(hS.rd 2 rfl), ha.s2.nil, ha.s2.cap⟩, ⟨(hS.rd 1 rfl), ha.s3.nil, ha.s3.cap⟩, ⟨(hS.rd 0 rfl), ha.s4.nil, ha.s4.cap⟩⟩) hl hb13) ?_
   rintro _ w41 ⟨rfl, hb40⟩
   replace hS := hS.call hb40
   refine ⟨_, rfl, ?_⟩
   intro a hA
   refine seq_do (v := .bool true) hA rfl rfl rfl (does_un rfl un_not) ?_
   intro a hA
   refine seq_end ?_
   refine hK12 _ _ ?_
   refine wp_cond_true (hA.ev rfl) ?_
   refine wp_seq_k (fun K42 hK42 => ?_)
   refine wp_region_lit ?_
   refine seq_do hA rfl rfl rfl (does_assign rfl) ?_
   intro a hA
   refine seq_end ?_
   refine hK42 _ _ ?_
   refine wp_ret ?_
   refine hret _ _ ?_
   refine ends (v := .int .i64 2) hA rfl (.cons (res_tmp rfl) .nil) rfl ?_
   subst hr
   exact ⟨by simp [want1, hb13], hS.bel⟩
end Go.Proofs.YtbajcflbimmnhaaDoor
namespace Go.Proofs.YtbajcflbimmnhaaDoor
open Go.RowKit
set_option linter.unusedVariables false
set_option linter.unusedSimpArgs false
set_option maxRecDepth 100000
theorem BiB_is1_49 : Is1 Tryd.prog 49 := ⟨⟨_, Tryd.underlying49, rfl⟩, by kernel_rfl⟩
theorem equal_any {w : World} {ao bo : Option Addr} {l1 l2 : List Nat} (ca cb : Nat) (ha : Rd w ao l1) (hb : Rd w bo l2) (h1 : l1.length ≤ 9223372036854775807) (h2 : l2.length ≤ 9223372036854775807) : Calls Tryd.prog 69 #[.slice ao l1.length ca, .slice bo l2.length cb] w fun e w' => e = .returned (.bool (decide (l1 = l2))) ∧ Below w.heap.size w w' := by
 have hS : St w w [] [(bo, l2), (ao, l1)] [] := ((St.start w).addR ha).addR hb
 refine walk_of (l := [(0, .slice ao l1.length ca), (1, .slice bo l2.length cb)]) Tryd.func69 rfl Tryd.ntmps69 rfl rfl ?_
 intro Q hret hnorm hP a hA
 refine wp_seq_k (fun K1 hK1 => ?_)
 refine wp_region_lit ?_
 refine seq_do hA rfl rfl rfl (does_assign rfl) ?_
 intro a hA
 refine seq_end ?_
 refine hK1 _ _ ?_
 refine wp_seq_k (fun K2 hK2 => ?_)
 refine wp_seq_k (fun K3 hK3 => ?_)
 refine wp_region_lit ?_
 refine seq_do hA rfl rfl rfl (does_move rfl) ?_
 intro a hA
 refine seq_do (v := .int .i64 (((l1.length : Nat) : Int))) hA rfl rfl rfl (does_len Tryd.underlying23 rfl) ?_
 intro a hA
 refine seq_do hA rfl rfl rfl (does_move rfl) ?_
 intro a hA
 refine seq_do (v := .int .i64 (((l2.length : Nat) : Int))) hA rfl rfl rfl (does_len Tryd.underlying23 rfl) ?_
 intro a hA
 rcases Bool.eq_false_or_eq_true ((((l1.length : Nat) : Int) != ((l2.length : Nat) : Int))) with hb4 | hb4
 · have hb4' := bne_iff_ne.1 hb4
   refine seq_do (v := .bool true) hA rfl rfl rfl (does_bin rfl rfl (fun w => (bin_neq w).trans (by rw [hb4]))) ?_
   intro a hA
   refine seq_end ?_
   refine hK3 _ _ ?_
   refine wp_cond_true (hA.ev rfl) ?_
   refine wp_seq_k (fun K5 hK5 => ?_)
   refine wp_region_lit ?_
   refine seq_do hA rfl rfl rfl (does_assign rfl) ?_
   intro a hA
   refine seq_end ?_
   refine hK5 _ _ ?_
   refine wp_ret ?_
   refine hret _ _ ?_
   refine ends (v := .bool false) hA rfl (.cons (res_tmp rfl) .nil) rfl ?_
   exact ⟨by rw [decide_eq_false (fun e => by subst e; omega)], hS.bel⟩
 · have hb4' := bne_eq_false_iff_eq.1 hb4
   refine seq_do (v := .bool false) hA rfl rfl rfl (does_bin rfl rfl (fun w => (bin_neq w).trans (by rw [hb4]))) ?_
   intro a hA
   refine seq_end ?_
   refine hK3 _ _ ?_
   refine wp_cond_false (hA.ev rfl) ?_
   refine wp_skip ?_
   refine hK2 _ _ ?_
   refine wp_seq_k (fun K6 hK6 => ?_)
   refine wp_seq_k (fun K7 hK7 => ?_)
   refine wp_region_lit ?_
   refine seq_do hA rfl rfl rfl (does_move rfl) ?_
   intro a hA
   refine seq_do (v := .int .i64 (((l1.length : Nat) : Int))) hA rfl rfl rfl (does_len Tryd.underlying23 rfl) ?_
   intro a hA
   refine seq_do hA rfl rfl rfl (does_move rfl) ?_
   intro a hA
   refine seq_end ?_
   refine hK7 _ _ ?_
   refine wp_block ?_
   refine wp_loop_n (fun m a w1 => ∃ (i : Nat), m = l1.length - i ∧ (i ≤ l1.length ∧ ∀ j, j < i → l1.getD j 0 = l2.getD j 0) ∧ Sl a 26 [(0, .slice ao l1.length ca), (1, .slice bo l2.length cb), (6, .slice ao l1.length ca), (7, .int .i64 (((l1.length : Nat) : Int))), (8, .slice bo l2.length cb), (9, .int .i64 (((l2.length : Nat) : Int))), (10, .bool false), (11, .slice ao l1.length ca), (12, .int .i64 (((l1.length : Nat) : Int))), (13, .int .i64 (((i : Nat) : Int)))] ∧ St w w1 [] [(bo, l2), (ao, l1)] []) _ ⟨0, rfl, ⟨by omega, fun j hj => by omega⟩, hA.keep _ ⟨rfl, rfl, rfl, rfl, rfl, rfl, rfl, rfl, rfl, rfl, trivial⟩, hS⟩ ?_
   clear hS hA
   rintro m a w8 ⟨i, rfl, hinv10, hA, hS⟩ K9 hK9
   have hle := hinv10.1
   refine wp_seq_k (fun K11 hK11 => ?_)
   refine wp_region_lit ?_
   rcases Bool.eq_false_or_eq_true (decide (((i : Nat) : Int) < ((l1.length : Nat) : Int))) with hb12 | hb12
   · have hb12' := of_decide_eq_true hb12
     refine seq_do (v := .bool true) hA rfl rfl rfl (does_bin rfl rfl (fun w => (bin_lss w).trans (by rw [hb12]))) ?_
     intro a hA
     refine seq_end ?_
     refine hK11 _ _ ?_
     refine wp_seq_k (fun K13 hK13 => ?_)
     refine wp_cond_true (hA.ev rfl) ?_
     refine wp_skip ?_
     refine hK13 _ _ ?_
     refine wp_seq_k (fun K14 hK14 => ?_)
     refine wp_block ?_
     refine wp_seq_k (fun K15 hK15 => ?_)
     refine wp_region_lit ?_
     refine seq_do hA rfl rfl rfl (does_move rfl) ?_
     intro a hA
     refine seq_do hA rfl rfl rfl (does_assign rfl) ?_
     intro a hA
     refine seq_end ?_
     refine hK15 _ _ ?_
     refine wp_seq_k (fun K16 hK16 => ?_)
     refine wp_draw (S := fun w1 => St w w1 [] [(bo, l2), (ao, l1)] []) (by kernel_rfl) ?_
     replace hS := hS.drew
     refine any_tk hA 0 rfl rfl rfl rfl hP hS (fun w1 hS => does_move rfl) ?_
     intro a hA
     refine any_tk hA 1 rfl rfl rfl rfl hP hS (fun w1 hS => does_move rfl) ?_
     intro a hA
     have hi20 : i < l1.length := by first | omega | (simp only [List.length_set]; omega)
     obtain ⟨b17, f18, hso19⟩ := Rd.addr (hS.rd 1 rfl) hi20
     refine any_tk (v := .pointer (some ⟨b17, f18 + i, none⟩)) hA 2 rfl rfl rfl rfl hP hS (fun w1 hS => does_indexRow (k := i) Tryd.underlying23 (by kernel_rfl) rfl rfl (by omega) hso19 hi20) ?_
     intro a hA
     refine any_tk (v := .int .u32 (((l1.getD i 0 : Nat) : Int))) hA 3 rfl rfl rfl rfl hP hS (fun w1 hS => does_loadRow (hS.rd 1 rfl) hso19 hi20 BiB_is1_49 rfl) ?_
     intro a hA
     refine any_tk hA 4 rfl rfl rfl rfl hP hS (fun w1 hS => does_move rfl) ?_
     intro a hA
     refine any_tk hA 5 rfl rfl rfl rfl hP hS (fun w1 hS => does_move rfl) ?_
     intro a hA
     have hi24 : i < l2.length := by first | omega | (simp only [List.length_set]; omega)
     obtain ⟨b21, f22, hso23⟩ := Rd.addr (hS.rd 0 rfl) hi24
     refine any_tk (v := .pointer (some ⟨b21, f22 + i, none⟩)) hA 6 rfl rfl rfl rfl hP hS (fun w1 hS => does_indexRow (k := i) Tryd.underlying23 (by kernel_rfl) rfl rfl (by omega) hso23 hi24) ?_
     intro a hA
     refine any_tk (v := .int .u32 (((l2.getD i 0 : Nat) : Int))) hA 7 rfl rfl rfl rfl hP hS (fun w1 hS => does_loadRow (hS.rd 0 rfl) hso23 hi24 BiB_is1_49 rfl) ?_
     intro a hA
     rcases Bool.eq_false_or_eq_true ((((l1.getD i 0 : Nat) : Int) != ((l2.getD i 0 : Nat) : Int))) with hb25 | hb25
     · have hb25' := bne_iff_ne.1 hb25
       refine any_tk (v := .bool true) hA 8 rfl rfl rfl rfl hP hS (fun w1 hS => does_bin rfl rfl (fun w => (bin_neq w).trans (by rw [hb25]))) ?_
       intro a hA
       refine any_end (by kernel_rfl) ?_
       refine hK16 _ _ ?_
       refine wp_cond_true (hA.ev rfl) ?_
       refine wp_seq_k (fun K26 hK26 => ?_)
       refine wp_region_lit ?_
       refine seq_do hA rfl rfl rfl (does_assign rfl) ?_
       intro a hA
       refine seq_end ?_
       refine hK26 _ _ ?_
       refine wp_ret ?_
       refine hret _ _ ?_
       refine ends (v := .bool false) hA rfl (.cons (res_tmp rfl) .nil) rfl ?_
       exact ⟨by rw [decide_eq_false (fun e => by subst e; omega)], hS.bel⟩
     · have hb25' := bne_eq_false_iff_eq.1 hb25
       refine any_tk (v := .bool false) hA 8 rfl rfl rfl rfl hP hS (fun w1 hS => does_bin rfl rfl (fun w => (bin_neq w).trans (by rw [hb25]))) ?_
       intro a hA
       refine any_end (by kernel_rfl) ?_
       refine hK16 _ _ ?_
       refine wp_cond_false (hA.ev rfl) ?_
       refine wp_skip ?_
       refine hK14 _ _ ?_
       refine wp_region_lit ?_
       refine seq_do (v := .int .i64 (((i + 1 : Nat) : Int))) hA rfl rfl rfl (does_bin rfl rfl (fun w => (bin_add (i64In (by omega) (by omega)) w).trans (by rw [show (((i : Nat) : Int) + 1 : Int) = ((i + 1 : Nat) : Int) from by omega]))) ?_
       intro a hA
       refine seq_do hA rfl rfl rfl (does_move rfl) ?_
       intro a hA
       refine seq_end ?_
       refine hK9 _ _ _ (by omega) ⟨i + 1, rfl, ⟨by omega, fun j hj => by rcases Nat.lt_succ_iff_lt_or_eq.1 hj with h | h; exact hinv10.2 j h; subst h; omega⟩, hA.keep _ ⟨rfl, rfl, rfl, rfl, rfl, rfl, rfl, rfl, rfl, rfl, trivial⟩, hS⟩
   · have hb12' := of_decide_eq_false hb12
     refine seq_do (v := .bool false) hA rfl rfl rfl (does_bin rfl rfl (fun w => (bin_lss w).trans (by rw [hb12]))) ?_
     intro a hA
     refine seq_end ?_
     refine hK11 _ _ ?_
     refine wp_seq_k (fun K27 hK27 => ?_)
     refine wp_cond_false (hA.ev rfl) ?_
     refine wp_exit ?_
     refine hK6 _ _ ?_
     refine wp_seq_k (fun K28 hK28 => ?_)
     refine wp_region_lit ?_
     refine seq_do hA rfl rfl rfl (does_assign rfl) ?_
     intro a hA
     refine seq_end ?_
     refine hK28 _ _ ?_
     refine wp_ret ?_
     refine hret _ _ ?_
     refine ends (v := .bool true) hA rfl (.cons (res_tmp rfl) .nil) rfl ?_
     exact ⟨by rw [decide_eq_true (list_of_getD (by omega) (fun j hj => hinv10.2 j (by omega)))], hS.bel⟩
end Go.Proofs.YtbajcflbimmnhaaDoor
namespace Go.Proofs.YtbajcflbimmnhaaDoor
open Go.RowKit
set_option linter.unusedVariables false
set_option linter.unusedSimpArgs false

section
variable {P : Program}
end
def sameF (b : Bool) (t q : List Nat) (b' : Bool) (t' q' : List Nat) : Bool := (b == b') && (decide (t = t') && decide (q = q'))
def sameQ (p q : Q6) : Bool := soundQ p && (soundQ q && (sameF p.b1 p.t1 p.q1 q.b1 q.t1 q.q1 && sameF p.b2 p.t2 p.q2 q.b2 q.t2 q.q2))
theorem sameF_refl (b : Bool) (t q : List Nat) : sameF b t q b t q = true := by simp [sameF]
theorem sameQ_self {q : Q6} (h : soundQ q = true) : sameQ q q = true := by simp [sameQ, h, sameF_refl]
theorem equalB_any {w : World} {ao bo : Option Addr} {l1 l2 : List Nat} (ca cb : Nat) (ha : Rd w ao l1) (hb : Rd w bo l2) (h1 : l1.length ≤ 9223372036854775807) (h2 : l2.length ≤ 9223372036854775807) {r : Bool} (hr : decide (l1 = l2) = r) :
    Calls Tryd.prog 69 #[.slice ao l1.length ca, .slice bo l2.length cb] w fun e w' => e = .returned (.bool r) ∧ Below w.heap.size w w' := by
  subst hr
  exact equal_any ca cb ha hb h1 h2
theorem soundQ_whole {b : Bool} {x : Nat} (hx : (words x).length ≤ 512) (hb : b.toNat ≤ x) : soundQ (Q6.whole b x) = true := by
  unfold soundQ soundN
  simp only [Q6.whole]
  have h1 : (words 1).length ≤ 512 := by rw [words_one]; decide
  have h0 : (words 0).length ≤ 512 := by rw [words_zero]; decide
  have e1 : fracS b (words x) [1] = true := by
    rw [← words_one, fracS_words hx h1, Nat.gcd_one_right, words_one]
    cases b with
    | false => simp
    | true =>
      have : x ≠ 0 := by simp at hb; omega
      have : (words x).length ≠ 0 := fun e => this (words_eq_nil.1 (List.length_eq_zero_iff.1 e))
      simp [words_eq_nil]
      assumption
  have e2 : fracS false [] [1] = true := by
    rw [← words_one, ← words_zero, fracS_words h0 h1, Nat.gcd_one_right, words_one]
    simp
  rw [e1, e2]
  rfl
theorem lenQ_whole {b : Bool} {x : Nat} (hx : (words x).length ≤ 512) : LenQ (Q6.whole b x) := ⟨by simp only [Q6.whole]; omega, by simp [Q6.whole], by simp [Q6.whole], by simp [Q6.whole]⟩
end Go.Proofs.YtbajcflbimmnhaaDoor
namespace Go.Proofs.YtbajcflbimmnhaaDoor
open Go.RowKit
set_option linter.unusedVariables false
set_option linter.unusedSimpArgs false
set_option maxRecDepth 100000
theorem BiS_is1_23 : Is1 Tryd.prog 23 := ⟨⟨_, Tryd.underlying23, rfl⟩, by kernel_rfl⟩
theorem BiS_is1_4 : Is1 Tryd.prog 4 := ⟨⟨_, Tryd.underlying4, rfl⟩, by kernel_rfl⟩
theorem BiS_fld_25_0 : FieldAt Tryd.prog 25 0 0 := ⟨_, _, Tryd.underlying25, rfl, rfl, by kernel_rfl⟩
theorem BiS_fld_25_1 : FieldAt Tryd.prog 25 1 1 := ⟨_, _, Tryd.underlying25, rfl, rfl, by kernel_rfl⟩
theorem BiS_fld_25_2 : FieldAt Tryd.prog 25 2 2 := ⟨_, _, Tryd.underlying25, rfl, rfl, by kernel_rfl⟩
theorem BiS_fld_27_0 : FieldAt Tryd.prog 27 0 0 := ⟨_, _, Tryd.underlying27, rfl, rfl, by kernel_rfl⟩
theorem BiS_fld_27_1 : FieldAt Tryd.prog 27 1 3 := ⟨_, _, Tryd.underlying27, rfl, rfl, by kernel_rfl⟩
theorem BiS_isS_25 : IsS Tryd.prog 25 3 := ⟨⟨_, Tryd.underlying25⟩, by kernel_rfl⟩
theorem BiS_isS_27 : IsS Tryd.prog 27 6 := ⟨⟨_, Tryd.underlying27⟩, by kernel_rfl⟩
theorem sameFr_any {w : World} {b b' : Bool} {t q t' q' : List Nat} {a1 a2 : Option Addr} {ac1 ac2 : Nat} (ha1 : Sc w a1 ac1 t) (ha2 : Sc w a2 ac2 q) {u1 u2 : Option Addr} {uc1 uc2 : Nat} (hu1 : Sc w u1 uc1 t') (hu2 : Sc w u2 uc2 q') (l1 : t.length ≤ 9223372036854775807) (l2 : q.length ≤ 9223372036854775807) (l3 : t'.length ≤ 9223372036854775807) (l4 : q'.length ≤ 9223372036854775807) {r : Bool} (hr : sameF b t q b' t' q' = r) :
    Calls Tryd.prog 41 #[.agg #[.bool b, .slice a1 t.length ac1, .slice a2 q.length ac2], .agg #[.bool b', .slice u1 t'.length uc1, .slice u2 q'.length uc2]] w fun e w' => e = .returned (.bool r) ∧ Below w.heap.size w w' := by
 have hS : St w w [] [(u2, q'), (u1, t'), (a2, q), (a1, t)] [] := ((((St.start w).addR ha1.rd).addR ha2.rd).addR hu1.rd).addR hu2.rd
 refine walk_of (l := [(0, .agg #[.bool b, .slice a1 t.length ac1, .slice a2 q.length ac2]), (1, .agg #[.bool b', .slice u1 t'.length uc1, .slice u2 q'.length uc2])]) Tryd.func41 rfl Tryd.ntmps41 rfl rfl ?_
 intro Q hret hnorm hP a hA
 refine wp_seq_k (fun K1 hK1 => ?_)
 refine wp_region_lit ?_
 refine seq_new hA hS rfl rfl rfl (fun g => .pointer (some ⟨g, 0, none⟩)) (does_box rfl rfl) rfl ?_
 intro g2 w3 hS a hA
 refine seq_new hA hS rfl rfl rfl (fun g => .pointer (some ⟨g, 0, none⟩)) (does_box rfl rfl) rfl ?_
 intro g4 w5 hS a hA
 refine seq_do hA rfl rfl rfl (does_assign rfl) ?_
 intro a hA
 refine seq_end ?_
 refine hK1 _ _ ?_
 refine wp_seq_k (fun K6 hK6 => ?_)
 refine wp_region_lit ?_
 refine seq_do (v := .pointer (some ⟨g2, 0, none⟩)) hA rfl rfl rfl (does_field BiS_fld_25_0 rfl rfl) ?_
 intro a hA
 refine seq_do hA rfl rfl rfl (does_load1 hS BiS_is1_4 rfl 1 rfl rfl) ?_
 intro a hA
 refine seq_do (v := .pointer (some ⟨g4, 0, none⟩)) hA rfl rfl rfl (does_field BiS_fld_25_0 rfl rfl) ?_
 intro a hA
 refine seq_do hA rfl rfl rfl (does_load1 hS BiS_is1_4 rfl 0 rfl rfl) ?_
 intro a hA
 rcases Bool.eq_false_or_eq_true ((b == b')) with hb7 | hb7
 · have hb7' := eq_of_beq hb7
   refine seq_do (v := .bool true) hA rfl rfl rfl (does_bin rfl rfl (fun w => ((bin_eqlB Tryd.underlying4) w).trans (by rw [hb7]))) ?_
   intro a hA
   refine seq_do hA rfl rfl rfl (does_move rfl) ?_
   intro a hA
   refine seq_do (v := .pointer (some ⟨g2, 1, none⟩)) hA rfl rfl rfl (does_field BiS_fld_25_1 rfl rfl) ?_
   intro a hA
   refine seq_do hA rfl rfl rfl (does_load1 hS BiS_is1_23 rfl 1 rfl rfl) ?_
   intro a hA
   refine seq_do (v := .pointer (some ⟨g4, 1, none⟩)) hA rfl rfl rfl (does_field BiS_fld_25_1 rfl rfl) ?_
   intro a hA
   refine seq_do hA rfl rfl rfl (does_load1 hS BiS_is1_23 rfl 0 rfl rfl) ?_
   intro a hA
   rcases Bool.eq_false_or_eq_true (decide (t = t')) with hb8 | hb8
   · have hb8' := of_decide_eq_true hb8
     refine seq_call hA rfl rfl rfl (enters_func  rfl rfl (fun w => by kernel_rfl)) (equalB_any _ _ (hS.rd 3 rfl) (hS.rd 1 rfl) l1 l3 hb8) ?_
     rintro _ w10 ⟨rfl, hb9⟩
     replace hS := hS.call hb9
     refine ⟨_, rfl, ?_⟩
     intro a hA
     refine seq_do (v := .bool true) hA rfl rfl rfl (does_pick rfl rfl rfl rfl) ?_
     intro a hA
     refine seq_do hA rfl rfl rfl (does_move rfl) ?_
     intro a hA
     refine seq_do (v := .pointer (some ⟨g2, 2, none⟩)) hA rfl rfl rfl (does_field BiS_fld_25_2 rfl rfl) ?_
     intro a hA
     refine seq_do hA rfl rfl rfl (does_load1 hS BiS_is1_23 rfl 1 rfl rfl) ?_
     intro a hA
     refine seq_do (v := .pointer (some ⟨g4, 2, none⟩)) hA rfl rfl rfl (does_field BiS_fld_25_2 rfl rfl) ?_
     intro a hA
     refine seq_do hA rfl rfl rfl (does_load1 hS BiS_is1_23 rfl 0 rfl rfl) ?_
     intro a hA
     rcases Bool.eq_false_or_eq_true (decide (q = q')) with hb11 | hb11
     · have hb11' := of_decide_eq_true hb11
       refine seq_call hA rfl rfl rfl (enters_func  rfl rfl (fun w => by kernel_rfl)) (equalB_any _ _ (hS.rd 2 rfl) (hS.rd 0 rfl) l2 l4 hb11) ?_
       rintro _ w13 ⟨rfl, hb12⟩
       replace hS := hS.call hb12
       refine ⟨_, rfl, ?_⟩
       intro a hA
       refine seq_do (v := .bool true) hA rfl rfl rfl (does_pick rfl rfl rfl rfl) ?_
       intro a hA
       refine seq_do hA rfl rfl rfl (does_assign rfl) ?_
       intro a hA
       refine seq_end ?_
       refine hK6 _ _ ?_
       refine wp_ret ?_
       refine hret _ _ ?_
       refine ends (v := .bool true) hA rfl (.cons (res_tmp rfl) .nil) rfl ?_
       subst hr
       exact ⟨by unfold sameF; rw [hb7, hb8, hb11]; try rfl, hS.bel⟩
     · have hb11' := of_decide_eq_false hb11
       refine seq_call hA rfl rfl rfl (enters_func  rfl rfl (fun w => by kernel_rfl)) (equalB_any _ _ (hS.rd 2 rfl) (hS.rd 0 rfl) l2 l4 hb11) ?_
       rintro _ w15 ⟨rfl, hb14⟩
       replace hS := hS.call hb14
       refine ⟨_, rfl, ?_⟩
       intro a hA
       refine seq_do (v := .bool false) hA rfl rfl rfl (does_pick rfl rfl rfl rfl) ?_
       intro a hA
       refine seq_do hA rfl rfl rfl (does_assign rfl) ?_
       intro a hA
       refine seq_end ?_
       refine hK6 _ _ ?_
       refine wp_ret ?_
       refine hret _ _ ?_
       refine ends (v := .bool false) hA rfl (.cons (res_tmp rfl) .nil) rfl ?_
       subst hr
       exact ⟨by unfold sameF; rw [hb7, hb8, hb11]; try rfl, hS.bel⟩
   · have hb8' := of_decide_eq_false hb8
     refine seq_call hA rfl rfl rfl (enters_func  rfl rfl (fun w => by kernel_rfl)) (equalB_any _ _ (hS.rd 3 rfl) (hS.rd 1 rfl) l1 l3 hb8) ?_
     rintro _ w17 ⟨rfl, hb16⟩
     replace hS := hS.call hb16
     refine ⟨_, rfl, ?_⟩
     intro a hA
     refine seq_do (v := .bool false) hA rfl rfl rfl (does_pick rfl rfl rfl rfl) ?_
     intro a hA
     refine seq_do hA rfl rfl rfl (does_move rfl) ?_
     intro a hA
     refine seq_skip hA rfl rfl rfl ?_
     intro a hA
     refine seq_skip hA rfl rfl rfl ?_
     intro a hA
     refine seq_skip hA rfl rfl rfl ?_
     intro a hA
     refine seq_skip hA rfl rfl rfl ?_
     intro a hA
     refine seq_skip hA rfl rfl rfl ?_
     intro a hA
     refine seq_do (v := .bool false) hA rfl rfl rfl (does_pick rfl rfl rfl rfl) ?_
     intro a hA
     refine seq_do hA rfl rfl rfl (does_assign rfl) ?_
     intro a hA
     refine seq_end ?_
     refine hK6 _ _ ?_
     refine wp_ret ?_
     refine hret _ _ ?_
     refine ends (v := .bool false) hA rfl (.cons (res_tmp rfl) .nil) rfl ?_
     subst hr
     exact ⟨by unfold sameF; rw [hb7, hb8]; try rfl, hS.bel⟩
 · have hb7' := ne_of_beq_false hb7
   refine seq_do (v := .bool false) hA rfl rfl rfl (does_bin rfl rfl (fun w => ((bin_eqlB Tryd.underlying4) w).trans (by rw [hb7]))) ?_
   intro a hA
   refine seq_do hA rfl rfl rfl (does_move rfl) ?_
   intro a hA
   refine seq_skip hA rfl rfl rfl ?_
   intro a hA
   refine seq_skip hA rfl rfl rfl ?_
   intro a hA
   refine seq_skip hA rfl rfl rfl ?_
   intro a hA
   refine seq_skip hA rfl rfl rfl ?_
   intro a hA
   refine seq_skip hA rfl rfl rfl ?_
   intro a hA
   refine seq_do (v := .bool false) hA rfl rfl rfl (does_pick rfl rfl rfl rfl) ?_
   intro a hA
   refine seq_do hA rfl rfl rfl (does_move rfl) ?_
   intro a hA
   refine seq_skip hA rfl rfl rfl ?_
   intro a hA
   refine seq_skip hA rfl rfl rfl ?_
   intro a hA
   refine seq_skip hA rfl rfl rfl ?_
   intro a hA
   refine seq_skip hA rfl rfl rfl ?_
   intro a hA
   refine seq_skip hA rfl rfl rfl ?_
   intro a hA
   refine seq_do (v := .bool false) hA rfl rfl rfl (does_pick rfl rfl rfl rfl) ?_
   intro a hA
   refine seq_do hA rfl rfl rfl (does_assign rfl) ?_
   intro a hA
   refine seq_end ?_
   refine hK6 _ _ ?_
   refine wp_ret ?_
   refine hret _ _ ?_
   refine ends (v := .bool false) hA rfl (.cons (res_tmp rfl) .nil) rfl ?_
   subst hr
   exact ⟨by unfold sameF; rw [hb7]; try rfl, hS.bel⟩
theorem sameQ_any {w : World} {p q : Q6} {a1 a2 a3 a4 : Option Addr} {ac1 ac2 ac3 ac4 : Nat} (ha : Nm w p a1 ac1 a2 ac2 a3 ac3 a4 ac4) (hl : LenQ p) {u1 u2 u3 u4 : Option Addr} {uc1 uc2 uc3 uc4 : Nat} (hu : Nm w q u1 uc1 u2 uc2 u3 uc3 u4 uc4) (hm : LenQ q) {r : Bool} (hr : sameQ p q = r) : Calls Tryd.prog 14 #[numV p a1 ac1 a2 ac2 a3 ac3 a4 ac4, numV q u1 uc1 u2 uc2 u3 uc3 u4 uc4] w fun e w' => e = .returned (.bool r) ∧ Below w.heap.size w w' := by
 have hS : St w w [] [(u4, q.q2), (u3, q.t2), (u2, q.q1), (u1, q.t1), (a4, p.q2), (a3, p.t2), (a2, p.q1), (a1, p.t1)] [] := ((((((((St.start w).addR ha.s1.rd).addR ha.s2.rd).addR ha.s3.rd).addR ha.s4.rd).addR hu.s1.rd).addR hu.s2.rd).addR hu.s3.rd).addR hu.s4.rd
 refine walk_of (l := [(0, .agg #[.bool p.b1, .slice a1 p.t1.length ac1, .slice a2 p.q1.length ac2, .bool p.b2, .slice a3 p.t2.length ac3, .slice a4 p.q2.length ac4]), (1, .agg #[.bool q.b1, .slice u1 q.t1.length uc1, .slice u2 q.q1.length uc2, .bool q.b2, .slice u3 q.t2.length uc3, .slice u4 q.q2.length uc4])]) Tryd.func14 rfl Tryd.ntmps14 rfl rfl ?_
 intro Q hret hnorm hP a hA
 refine wp_seq_k (fun K1 hK1 => ?_)
 refine wp_region_lit ?_
 refine seq_new hA hS rfl rfl rfl (fun g => .pointer (some ⟨g, 0, none⟩)) (does_box rfl rfl) rfl ?_
 intro g2 w3 hS a hA
 refine seq_new hA hS rfl rfl rfl (fun g => .pointer (some ⟨g, 0, none⟩)) (does_box rfl rfl) rfl ?_
 intro g4 w5 hS a hA
 refine seq_do hA rfl rfl rfl (does_assign rfl) ?_
 intro a hA
 refine seq_end ?_
 refine hK1 _ _ ?_
 refine wp_seq_k (fun K6 hK6 => ?_)
 refine wp_region_lit ?_
 refine seq_do hA rfl rfl rfl (does_loadS hS BiS_isS_27 rfl 1 rfl (cs := [.bool p.b1, .slice a1 p.t1.length ac1, .slice a2 p.q1.length ac2, .bool p.b2, .slice a3 p.t2.length ac3, .slice a4 p.q2.length ac4]) rfl rfl) ?_
 intro a hA
 rcases Bool.eq_false_or_eq_true (soundQ p) with hb7 | hb7
 · refine seq_call hA rfl rfl rfl (enters_func  rfl rfl (fun w => by kernel_rfl)) (soundQ_any (show Nm _ _ a1 ac1 a2 ac2 a3 ac3 a4 ac4 from ⟨⟨(hS.rd 7 rfl), ha.s1.nil, ha.s1.cap⟩, ⟨(hS.rd 6 rfl), ha.s2.nil, ha.s2.cap⟩, ⟨(hS.rd 5 rfl), ha.s3.nil, ha.s3.cap⟩, ⟨(hS.rd 4 rfl), ha.s4.nil, ha.s4.cap⟩⟩) hl hb7) ?_
   rintro _ w9 ⟨rfl, hb8⟩
   replace hS := hS.call hb8
   refine ⟨_, rfl, ?_⟩
   intro a hA
   refine seq_do hA rfl rfl rfl (does_move rfl) ?_
   intro a hA
   refine seq_do hA rfl rfl rfl (does_loadS hS BiS_isS_27 rfl 0 rfl (cs := [.bool q.b1, .slice u1 q.t1.length uc1, .slice u2 q.q1.length uc2, .bool q.b2, .slice u3 q.t2.length uc3, .slice u4 q.q2.length uc4]) rfl rfl) ?_
   intro a hA
   rcases Bool.eq_false_or_eq_true (soundQ q) with hb10 | hb10
   · refine seq_call hA rfl rfl rfl (enters_func  rfl rfl (fun w => by kernel_rfl)) (soundQ_any (show Nm _ _ u1 uc1 u2 uc2 u3 uc3 u4 uc4 from ⟨⟨(hS.rd 3 rfl), hu.s1.nil, hu.s1.cap⟩, ⟨(hS.rd 2 rfl), hu.s2.nil, hu.s2.cap⟩, ⟨(hS.rd 1 rfl), hu.s3.nil, hu.s3.cap⟩, ⟨(hS.rd 0 rfl), hu.s4.nil, hu.s4.cap⟩⟩) hm hb10) ?_
     rintro _ w12 ⟨rfl, hb11⟩
     replace hS := hS.call hb11
     refine ⟨_, rfl, ?_⟩
     intro a hA
     refine seq_do (v := .bool true) hA rfl rfl rfl (does_pick rfl rfl rfl rfl) ?_
     intro a hA
     refine seq_do hA rfl rfl rfl (does_move rfl) ?_
     intro a hA
     refine seq_do (v := .pointer (some ⟨g2, 0, none⟩)) hA rfl rfl rfl (does_field BiS_fld_27_0 rfl rfl) ?_
     intro a hA
     refine seq_do hA rfl rfl rfl (does_loadS hS BiS_isS_25 rfl 1 rfl (cs := [.bool p.b1, .slice a1 p.t1.length ac1, .slice a2 p.q1.length ac2]) rfl rfl) ?_
     intro a hA
     refine seq_do (v := .pointer (some ⟨g4, 0, none⟩)) hA rfl rfl rfl (does_field BiS_fld_27_0 rfl rfl) ?_
     intro a hA
     refine seq_do hA rfl rfl rfl (does_loadS hS BiS_isS_25 rfl 0 rfl (cs := [.bool q.b1, .slice u1 q.t1.length uc1, .slice u2 q.q1.length uc2]) rfl rfl) ?_
     intro a hA
     rcases Bool.eq_false_or_eq_true (sameF p.b1 p.t1 p.q1 q.b1 q.t1 q.q1) with hb13 | hb13
     · refine seq_call hA rfl rfl rfl (enters_func  rfl rfl (fun w => by kernel_rfl)) (sameFr_any ⟨(hS.rd 7 rfl), ha.s1.nil, ha.s1.cap⟩ ⟨(hS.rd 6 rfl), ha.s2.nil, ha.s2.cap⟩ ⟨(hS.rd 3 rfl), hu.s1.nil, hu.s1.cap⟩ ⟨(hS.rd 2 rfl), hu.s2.nil, hu.s2.cap⟩ hl.l1 hl.l2 hm.l1 hm.l2 hb13) ?_
       rintro _ w15 ⟨rfl, hb14⟩
       replace hS := hS.call hb14
       refine ⟨_, rfl, ?_⟩
       intro a hA
       refine seq_do (v := .bool true) hA rfl rfl rfl (does_pick rfl rfl rfl rfl) ?_
       intro a hA
       refine seq_do hA rfl rfl rfl (does_move rfl) ?_
       intro a hA
       refine seq_do (v := .pointer (some ⟨g2, 3, none⟩)) hA rfl rfl rfl (does_field BiS_fld_27_1 rfl rfl) ?_
       intro a hA
       refine seq_do hA rfl rfl rfl (does_loadS hS BiS_isS_25 rfl 1 rfl (cs := [.bool p.b2, .slice a3 p.t2.length ac3, .slice a4 p.q2.length ac4]) rfl rfl) ?_
       intro a hA
       refine seq_do (v := .pointer (some ⟨g4, 3, none⟩)) hA rfl rfl rfl (does_field BiS_fld_27_1 rfl rfl) ?_
       intro a hA
       refine seq_do hA rfl rfl rfl (does_loadS hS BiS_isS_25 rfl 0 rfl (cs := [.bool q.b2, .slice u3 q.t2.length uc3, .slice u4 q.q2.length uc4]) rfl rfl) ?_
       intro a hA
       rcases Bool.eq_false_or_eq_true (sameF p.b2 p.t2 p.q2 q.b2 q.t2 q.q2) with hb16 | hb16
       · refine seq_call hA rfl rfl rfl (enters_func  rfl rfl (fun w => by kernel_rfl)) (sameFr_any ⟨(hS.rd 5 rfl), ha.s3.nil, ha.s3.cap⟩ ⟨(hS.rd 4 rfl), ha.s4.nil, ha.s4.cap⟩ ⟨(hS.rd 1 rfl), hu.s3.nil, hu.s3.cap⟩ ⟨(hS.rd 0 rfl), hu.s4.nil, hu.s4.cap⟩ hl.l3 hl.l4 hm.l3 hm.l4 hb16) ?_
         rintro _ w18 ⟨rfl, hb17⟩
         replace hS := hS.call hb17
         refine ⟨_, rfl, ?_⟩
         intro a hA
         refine seq_do (v := .bool true) hA rfl rfl rfl (does_pick rfl rfl rfl rfl) ?_
         intro a hA
         refine seq_do hA rfl rfl rfl (does_assign rfl) ?_
         intro a hA
         refine seq_end ?_
         refine hK6 _ _ ?_
         refine wp_ret ?_
         refine hret _ _ ?_
         refine ends (v := .bool true) hA rfl (.cons (res_tmp rfl) .nil) rfl ?_
         subst hr
         exact ⟨by unfold sameQ; rw [hb7, hb10, hb13, hb16]; try rfl, hS.bel⟩
       · refine seq_call hA rfl rfl rfl (enters_func  rfl rfl (fun w => by kernel_rfl)) (sameFr_any ⟨(hS.rd 5 rfl), ha.s3.nil, ha.s3.cap⟩ ⟨(hS.rd 4 rfl), ha.s4.nil, ha.s4.cap⟩ ⟨(hS.rd 1 rfl), hu.s3.nil, hu.s3.cap⟩ ⟨(hS.rd 0 rfl), hu.s4.nil, hu.s4.cap⟩ hl.l3 hl.l4 hm.l3 hm.l4 hb16) ?_
         rintro _ w20 ⟨rfl, hb19⟩
         replace hS := hS.call hb19
         refine ⟨_, rfl, ?_⟩
         intro a hA
         refine seq_do (v := .bool false) hA rfl rfl rfl (does_pick rfl rfl rfl rfl) ?_
         intro a hA
         refine seq_do hA rfl rfl rfl (does_assign rfl) ?_
         intro a hA
         refine seq_end ?_
         refine hK6 _ _ ?_
         refine wp_ret ?_
         refine hret _ _ ?_
         refine ends (v := .bool false) hA rfl (.cons (res_tmp rfl) .nil) rfl ?_
         subst hr
         exact ⟨by unfold sameQ; rw [hb7, hb10, hb13, hb16]; try rfl, hS.bel⟩
     · refine seq_call hA rfl rfl rfl (enters_func  rfl rfl (fun w => by kernel_rfl)) (sameFr_any ⟨(hS.rd 7 rfl), ha.s1.nil, ha.s1.cap⟩ ⟨(hS.rd 6 rfl), ha.s2.nil, ha.s2.cap⟩ ⟨(hS.rd 3 rfl), hu.s1.nil, hu.s1.cap⟩ ⟨(hS.rd 2 rfl), hu.s2.nil, hu.s2.cap⟩ hl.l1 hl.l2 hm.l1 hm.l2 hb13) ?_
       rintro _ w22 ⟨rfl, hb21⟩
       replace hS := hS.call hb21
       refine ⟨_, rfl, ?_⟩
       intro a hA
       refine seq_do (v := .bool false) hA rfl rfl rfl (does_pick rfl rfl rfl rfl) ?_
       intro a hA
       refine seq_do hA rfl rfl rfl (does_move rfl) ?_
       intro a hA
       refine seq_skip hA rfl rfl rfl ?_
       intro a hA
       refine seq_skip hA rfl rfl rfl ?_
       intro a hA
       refine seq_skip hA rfl rfl rfl ?_
       intro a hA
       refine seq_skip hA rfl rfl rfl ?_
       intro a hA
       refine seq_skip hA rfl rfl rfl ?_
       intro a hA
       refine seq_do (v := .bool false) hA rfl rfl rfl (does_pick rfl rfl rfl rfl) ?_
       intro a hA
       refine seq_do hA rfl rfl rfl (does_assign rfl) ?_
       intro a hA
       refine seq_end ?_
       refine hK6 _ _ ?_
       refine wp_ret ?_
       refine hret _ _ ?_
       refine ends (v := .bool false) hA rfl (.cons (res_tmp rfl) .nil) rfl ?_
       subst hr
       exact ⟨by unfold sameQ; rw [hb7, hb10, hb13]; try rfl, hS.bel⟩
   · refine seq_call hA rfl rfl rfl (enters_func  rfl rfl (fun w => by kernel_rfl)) (soundQ_any (show Nm _ _ u1 uc1 u2 uc2 u3 uc3 u4 uc4 from ⟨⟨(hS.rd 3 rfl), hu.s1.nil, hu.s1.cap⟩, ⟨(hS.rd 2 rfl), hu.s2.nil, hu.s2.cap⟩, ⟨(hS.rd 1 rfl), hu.s3.nil, hu.s3.cap⟩, ⟨(hS.rd 0 rfl), hu.s4.nil, hu.s4.cap⟩⟩) hm hb10) ?_
     rintro _ w24 ⟨rfl, hb23⟩
     replace hS := hS.call hb23
     refine ⟨_, rfl, ?_⟩
     intro a hA
     refine seq_do (v := .bool false) hA rfl rfl rfl (does_pick rfl rfl rfl rfl) ?_
     intro a hA
     refine seq_do hA rfl rfl rfl (does_move rfl) ?_
     intro a hA
     refine seq_skip hA rfl rfl rfl ?_
     intro a hA
     refine seq_skip hA rfl rfl rfl ?_
     intro a hA
     refine seq_skip hA rfl rfl rfl ?_
     intro a hA
     refine seq_skip hA rfl rfl rfl ?_
     intro a hA
     refine seq_skip hA rfl rfl rfl ?_
     intro a hA
     refine seq_do (v := .bool false) hA rfl rfl rfl (does_pick rfl rfl rfl rfl) ?_
     intro a hA
     refine seq_do hA rfl rfl rfl (does_move rfl) ?_
     intro a hA
     refine seq_skip hA rfl rfl rfl ?_
     intro a hA
     refine seq_skip hA rfl rfl rfl ?_
     intro a hA
     refine seq_skip hA rfl rfl rfl ?_
     intro a hA
     refine seq_skip hA rfl rfl rfl ?_
     intro a hA
     refine seq_skip hA rfl rfl rfl ?_
     intro a hA
     refine seq_do (v := .bool false) hA rfl rfl rfl (does_pick rfl rfl rfl rfl) ?_
     intro a hA
     refine seq_do hA rfl rfl rfl (does_assign rfl) ?_
     intro a hA
     refine seq_end ?_
     refine hK6 _ _ ?_
     refine wp_ret ?_
     refine hret _ _ ?_
     refine ends (v := .bool false) hA rfl (.cons (res_tmp rfl) .nil) rfl ?_
     subst hr
     exact ⟨by unfold sameQ; rw [hb7, hb10]; try rfl, hS.bel⟩
 · refine seq_call hA rfl rfl rfl (enters_func  rfl rfl (fun w => by kernel_rfl)) (soundQ_any (show Nm _ _ a1 ac1 a2 ac2 a3 ac3 a4 ac4 from ⟨⟨(hS.rd 7 rfl), ha.s1.nil, ha.s1.cap⟩, ⟨(hS.rd 6 rfl), ha.s2.nil, ha.s2.cap⟩, ⟨(hS.rd 5 rfl), ha.s3.nil, ha.s3.cap⟩, ⟨(hS.rd 4 rfl), ha.s4.nil, ha.s4.cap⟩⟩) hl hb7) ?_
   rintro _ w26 ⟨rfl, hb25⟩
   replace hS := hS.call hb25
   refine ⟨_, rfl, ?_⟩
   intro a hA
   refine seq_do hA rfl rfl rfl (does_move rfl) ?_
   intro a hA
   refine seq_skip hA rfl rfl rfl ?_
   intro a hA
   refine seq_skip hA rfl rfl rfl ?_
   intro a hA
   refine seq_do (v := .bool false) hA rfl rfl rfl (does_pick rfl rfl rfl rfl) ?_
   intro a hA
   refine seq_do hA rfl rfl rfl (does_move rfl) ?_
   intro a hA
   refine seq_skip hA rfl rfl rfl ?_
   intro a hA
   refine seq_skip hA rfl rfl rfl ?_
   intro a hA
   refine seq_skip hA rfl rfl rfl ?_
   intro a hA
   refine seq_skip hA rfl rfl rfl ?_
   intro a hA
   refine seq_skip hA rfl rfl rfl ?_
   intro a hA
   refine seq_do (v := .bool false) hA rfl rfl rfl (does_pick rfl rfl rfl rfl) ?_
   intro a hA
   refine seq_do hA rfl rfl rfl (does_move rfl) ?_
   intro a hA
   refine seq_skip hA rfl rfl rfl ?_
   intro a hA
   refine seq_skip hA rfl rfl rfl ?_
   intro a hA
   refine seq_skip hA rfl rfl rfl ?_
   intro a hA
   refine seq_skip hA rfl rfl rfl ?_
   intro a hA
   refine seq_skip hA rfl rfl rfl ?_
   intro a hA
   refine seq_do (v := .bool false) hA rfl rfl rfl (does_pick rfl rfl rfl rfl) ?_
   intro a hA
   refine seq_do hA rfl rfl rfl (does_assign rfl) ?_
   intro a hA
   refine seq_end ?_
   refine hK6 _ _ ?_
   refine wp_ret ?_
   refine hret _ _ ?_
   refine ends (v := .bool false) hA rfl (.cons (res_tmp rfl) .nil) rfl ?_
   subst hr
   exact ⟨by unfold sameQ; rw [hb7]; try rfl, hS.bel⟩
end Go.Proofs.YtbajcflbimmnhaaDoor
namespace Go.Proofs.YtbajcflbimmnhaaDoor
open Go.RowKit
set_option linter.unusedVariables false
set_option linter.unusedSimpArgs false

end Go.Proofs.YtbajcflbimmnhaaDoor
namespace Go.Proofs.YtbajcflbimmnhaaDoor
open Go.RowKit
set_option linter.unusedVariables false
set_option linter.unusedSimpArgs false
set_option maxRecDepth 100000


end Go.Proofs.YtbajcflbimmnhaaDoor
namespace Go.Proofs.YtbajcflbimmnhaaDoor
open Go.RowKit
set_option linter.unusedVariables false
set_option linter.unusedSimpArgs false
set_option maxRecDepth 100000
end Go.Proofs.YtbajcflbimmnhaaDoor
namespace Go.Proofs.YtbajcflbimmnhaaDoor
open Go.RowKit
set_option linter.unusedVariables false
set_option linter.unusedSimpArgs false

/-- The size of -a - 1. -/
def turnN (b : Bool) (x : Nat) : Nat := cond b (x - 1) (x + 1)
theorem shift_down {w : World} {ao : Option Addr} {x : Nat} (ca k : Nat) (ha : Rd w ao (words x)) (hx : (words x).length ≤ 512) (hk : k ≤ 16384) :
    Calls Tryd.prog 123 #[.slice ao (words x).length ca, .int .i64 (-(k : Int))] w fun e w' => ∃ ro rc, e = .returned (.tuple #[.slice ro (words (x / 2 ^ k)).length rc, .int .i64 0]) ∧ Own w.heap.size w' ro rc (words (x / 2 ^ k)) ∧ Below w.heap.size w w' := by
  have h := shift_any ca (-(k : Int)) ha (by omega) (by omega) (by omega)
  have e : shiftS (words x) (-(k : Int)) = (words (x / 2 ^ k), 0) := by
    unfold shiftS
    rw [if_pos (sound_of_words hx), if_neg (by omega), val_words]
    by_cases h0 : k = 0
    · subst h0
      simp only [Int.ofNat_eq_natCast, Int.natCast_zero, Int.neg_zero, Int.lt_irrefl, if_false, Int.toNat_zero, Nat.pow_zero, Nat.mul_one, Nat.div_one]
      unfold fitS
      rw [if_pos hx]
    · rw [if_pos (by omega)]
      have : (-(-(k : Int))).toNat = k := by omega
      rw [this]
  rw [e] at h
  exact h
theorem shift_downI {w : World} {ao : Option Addr} {x : Nat} (ca : Nat) {n : Int} (ha : Rd w ao (words x)) (hx : (words x).length ≤ 512) (h0 : 0 ≤ n) (h1 : n ≤ 16384) :
    Calls Tryd.prog 123 #[.slice ao (words x).length ca, .int .i64 (-n)] w fun e w' => ∃ ro rc, e = .returned (.tuple #[.slice ro (words (x / 2 ^ n.toNat)).length rc, .int .i64 0]) ∧ Own w.heap.size w' ro rc (words (x / 2 ^ n.toNat)) ∧ Below w.heap.size w w' := by
  obtain ⟨k, rfl⟩ := Int.eq_ofNat_of_zero_le h0
  rw [Int.toNat_natCast]
  exact shift_down ca k ha hx (by omega)
theorem want1_cases (q : Q6) : (want1 q = 0 ∧ wholeQ q = true) ∨ ((want1 q != 0) = true ∧ wholeQ q = false) := by
  unfold want1
  cases h1 : soundQ q with
  | false =>
    refine .inr ⟨by simp, ?_⟩
    unfold wholeQ
    rw [h1]
    rfl
  | true =>
    cases h2 : wholeQ q with
    | false => exact .inr ⟨by simp, rfl⟩
    | true => exact .inl ⟨by simp, rfl⟩
end Go.Proofs.YtbajcflbimmnhaaDoor
namespace Go.Proofs.YtbajcflbimmnhaaDoor
open Go.RowKit
set_option linter.unusedVariables false
set_option linter.unusedSimpArgs false
set_option maxRecDepth 100000
theorem BiE_is1_23 : Is1 Tryd.prog 23 := ⟨⟨_, Tryd.underlying23, rfl⟩, by kernel_rfl⟩
theorem BiE_is1_4 : Is1 Tryd.prog 4 := ⟨⟨_, Tryd.underlying4, rfl⟩, by kernel_rfl⟩
theorem BiE_fld_99_0 : FieldAt Tryd.prog 99 0 0 := ⟨_, _, Tryd.underlying99, rfl, rfl, by kernel_rfl⟩
theorem BiE_fld_99_1 : FieldAt Tryd.prog 99 1 1 := ⟨_, _, Tryd.underlying99, rfl, rfl, by kernel_rfl⟩
theorem BiE_isS_99 : IsS Tryd.prog 99 2 := ⟨⟨_, Tryd.underlying99⟩, by kernel_rfl⟩
theorem down_any {w : World} {b : Bool} {ro : Option Addr} {rc y : Nat} {n : Int} (hr : Sc w ro rc (words y)) (hy : (words y).length ≤ 512) (h0 : 0 ≤ n) (h1 : n ≤ 16384) :
    Calls Tryd.prog 98 #[.agg #[.bool b, .slice ro (words y).length rc], .int .i64 n] w fun e w' => ∃ o c, e = .returned (.agg #[.bool b, .slice o (words (y / 2 ^ n.toNat)).length c]) ∧ Sc w' o c (words (y / 2 ^ n.toNat)) ∧ Below w.heap.size w w' := by
 have hS : St w w [] [(ro, words y)] [] := (St.start w).addR hr.rd
 refine walk_of (l := [(0, .agg #[.bool b, .slice ro ((words y).length) rc]), (1, .int .i64 n)]) Tryd.func98 rfl Tryd.ntmps98 rfl rfl ?_
 intro Q hret hnorm hP a hA
 refine wp_seq_k (fun K1 hK1 => ?_)
 refine wp_region_lit ?_
 refine seq_new hA hS rfl rfl rfl (fun g => .pointer (some ⟨g, 0, none⟩)) (does_box rfl rfl) rfl ?_
 intro g2 w3 hS a hA
 refine seq_new (vs := [.bool false, .slice none 0 0]) (t := 99) hA hS rfl rfl rfl (fun g => .pointer (some ⟨g, 0, none⟩)) (does_alloc (z := .agg #[.bool false, .slice none 0 0]) (by kernel_rfl) rfl) rfl ?_
 intro g4 w5 hS a hA
 refine seq_end ?_
 refine hK1 _ _ ?_
 refine wp_seq_k (fun K6 hK6 => ?_)
 refine wp_region_lit ?_
 refine seq_do (v := .pointer (some ⟨g2, 1, none⟩)) hA rfl rfl rfl (does_field BiE_fld_99_1 rfl rfl) ?_
 intro a hA
 refine seq_do hA rfl rfl rfl (does_load1 hS BiE_is1_23 rfl 1 rfl rfl) ?_
 intro a hA
 refine seq_do hA rfl rfl rfl (does_move rfl) ?_
 intro a hA
 refine seq_do (v := .int .i64 (-n)) hA rfl rfl rfl (does_un rfl (un_neg (i64In (by omega) (by omega)))) ?_
 intro a hA
 refine seq_call hA rfl rfl rfl (enters_func  rfl rfl (fun w => by kernel_rfl)) (shift_downI (n := n) _ (hS.rd 0 rfl) hy (by omega) (by omega)) ?_
 rintro _ w11 ⟨ro7, rc8, rfl, ho9, hb10⟩
 replace hS := hS.call hb10
 replace hS := hS.addR ho9.rd
 refine ⟨_, rfl, ?_⟩
 intro a hA
 refine seq_do hA rfl rfl rfl (does_move rfl) ?_
 intro a hA
 refine seq_do (v := .slice ro7 ((words (y / 2 ^ n.toNat)).length) rc8) hA rfl rfl rfl (does_extract (vs := [.slice ro7 ((words (y / 2 ^ n.toNat)).length) rc8, .int .i64 0]) rfl rfl) ?_
 intro a hA
 refine seq_do (v := .int .i64 0) hA rfl rfl rfl (does_extract (vs := [.slice ro7 ((words (y / 2 ^ n.toNat)).length) rc8, .int .i64 0]) rfl rfl) ?_
 intro a hA
 refine seq_do hA rfl rfl rfl (does_assign rfl) ?_
 intro a hA
 refine seq_do hA rfl rfl rfl (does_assign rfl) ?_
 intro a hA
 refine seq_end ?_
 refine hK6 _ _ ?_
 refine wp_seq_k (fun K12 hK12 => ?_)
 refine wp_region_lit ?_
 refine seq_do (v := .pointer (some ⟨g2, 0, none⟩)) hA rfl rfl rfl (does_field BiE_fld_99_0 rfl rfl) ?_
 intro a hA
 refine seq_do hA rfl rfl rfl (does_load1 hS BiE_is1_4 rfl 1 rfl rfl) ?_
 intro a hA
 refine seq_do hA rfl rfl rfl (does_move rfl) ?_
 intro a hA
 refine seq_do (v := .agg #[.bool b, .slice ro7 ((words (y / 2 ^ n.toNat)).length) rc8]) hA rfl rfl rfl (does_build rfl (fun w => by kernel_rfl)) ?_
 intro a hA
 refine seq_store (us := [.bool b, .slice ro7 ((words (y / 2 ^ n.toNat)).length) rc8]) hA hS rfl rfl (sets_store rfl rfl rfl (by kernel_rfl) hS 0 rfl rfl rfl) 0 rfl rfl rfl rfl ?_
 intro w13 hS
 refine seq_end ?_
 refine hK12 _ _ ?_
 refine wp_ret ?_
 refine hret _ _ ?_
 refine ends (v := .agg #[.bool b, .slice ro7 ((words (y / 2 ^ n.toNat)).length) rc8]) hA rfl (.cons (res_cell hS BiE_isS_99 rfl 0 rfl (cs := [.bool b, .slice ro7 ((words (y / 2 ^ n.toNat)).length) rc8]) rfl rfl) .nil) rfl ?_
 exact ⟨_, _, rfl, ⟨(hS.rd 0 rfl), ho9.nocap, ho9.caps⟩, hS.bel⟩
end Go.Proofs.YtbajcflbimmnhaaDoor
namespace Go.Proofs.YtbajcflbimmnhaaDoor
open Go.RowKit
set_option linter.unusedVariables false
set_option linter.unusedSimpArgs false

/-- Two numbers are answered. -/
def AnsII (w : World) (r : Int × Int) (e : Ending) (w' : World) : Prop := e = .returned (.tuple #[.int .i64 r.1, .int .i64 r.2]) ∧ Below w.heap.size w w'
def lengthQ (q : Q6) : Int × Int := if want1 q = 0 then (((bl (val q.t1 - q.b1.toNat) : Nat) : Int), 0) else (0, want1 q)
theorem lengthQ_err {q : Q6} (h : (want1 q != 0) = true) : lengthQ q = (0, want1 q) := by unfold lengthQ; rw [if_neg (bne_iff_ne.1 h)]
theorem lengthQ_whole {b : Bool} {x : Nat} (h : want1 (Q6.whole b x) = 0) : lengthQ (Q6.whole b x) = (((bl (x - b.toNat) : Nat) : Int), 0) := by
  unfold lengthQ; rw [if_pos h]; simp only [Q6.whole, val_words]
theorem bitsW_any {w : World} {ao : Option Addr} {x : Nat} (cap : Nat) (h : Rd w ao (words x)) (hl : (words x).length ≤ 512) :
    Calls Tryd.prog 96 #[.slice ao (words x).length cap] w fun e w' => e = .returned (.int .i64 ((bl x : Nat) : Int)) ∧ w' = w := by
  have := bits_any cap h (by omega)
  unfold bitsS at this
  rw [if_pos (sound_of_words hl), val_words] at this
  exact this
def notQ (q : Q6) : Q6 × Int := if want1 q = 0 then bigS (!q.b1) (turnN q.b1 (val q.t1)) else (Q6.zero, want1 q)
theorem notQ_whole {b : Bool} {x : Nat} (h : want1 (Q6.whole b x) = 0) : notQ (Q6.whole b x) = bigS (!b) (turnN b x) := by
  unfold notQ; rw [if_pos h]; simp only [Q6.whole, val_words]
theorem turn_sum {b : Bool} {x : Nat} (hb : b.toNat ≤ x) : x - b.toNat + (!b).toNat = turnN b x := by cases b <;> simp [turnN]
end Go.Proofs.YtbajcflbimmnhaaDoor
namespace Go.Proofs.YtbajcflbimmnhaaDoor
open Go.RowKit
set_option linter.unusedVariables false
set_option linter.unusedSimpArgs false
set_option maxRecDepth 100000
theorem BiF_isS_27 : IsS Tryd.prog 27 6 := ⟨⟨_, Tryd.underlying27⟩, by kernel_rfl⟩
theorem lengthPE_any {w : World} {q : Q6} {a1 a2 a3 a4 : Option Addr} {ac1 ac2 ac3 ac4 : Nat} (ha : Nm w q a1 ac1 a2 ac2 a3 ac3 a4 ac4) (hl : LenQ q)  (hw : (want1 q != 0) = true) : Calls Tryd.prog 70 #[numV q a1 ac1 a2 ac2 a3 ac3 a4 ac4] w (AnsII w (lengthQ q)) := by
 have hS : St w w [] [(a4, q.q2), (a3, q.t2), (a2, q.q1), (a1, q.t1)] [] := ((((St.start w).addR ha.s1.rd).addR ha.s2.rd).addR ha.s3.rd).addR ha.s4.rd
 refine walk_of (l := [(0, .agg #[.bool q.b1, .slice a1 q.t1.length ac1, .slice a2 q.q1.length ac2, .bool q.b2, .slice a3 q.t2.length ac3, .slice a4 q.q2.length ac4])]) Tryd.func70 rfl Tryd.ntmps70 rfl rfl ?_
 intro Q hret hnorm hP a hA
 refine wp_seq_k (fun K1 hK1 => ?_)
 refine wp_region_lit ?_
 refine seq_new hA hS rfl rfl rfl (fun g => .pointer (some ⟨g, 0, none⟩)) (does_box rfl rfl) rfl ?_
 intro g2 w3 hS a hA
 refine seq_do hA rfl rfl rfl (does_assign rfl) ?_
 intro a hA
 refine seq_do hA rfl rfl rfl (does_assign rfl) ?_
 intro a hA
 refine seq_end ?_
 refine hK1 _ _ ?_
 refine wp_seq_k (fun K4 hK4 => ?_)
 refine wp_seq_k (fun K5 hK5 => ?_)
 refine wp_region_lit ?_
 refine seq_do hA rfl rfl rfl (does_loadS hS BiF_isS_27 rfl 0 rfl (cs := [.bool q.b1, .slice a1 q.t1.length ac1, .slice a2 q.q1.length ac2, .bool q.b2, .slice a3 q.t2.length ac3, .slice a4 q.q2.length ac4]) rfl rfl) ?_
 intro a hA
 refine seq_new (vs := [.bool q.b1, .slice a1 q.t1.length ac1, .slice a2 q.q1.length ac2, .bool q.b2, .slice a3 q.t2.length ac3, .slice a4 q.q2.length ac4]) (t := 27) hA hS rfl rfl rfl (fun g => .slice (some ⟨g, 0, none⟩) 1 1) (does_buildSlice rfl (by kernel_rfl)) rfl ?_
 intro g6 w7 hS a hA
 refine seq_call hA rfl rfl rfl (enters_func  rfl rfl (fun w => by kernel_rfl)) (want1_any (show Nm _ q a1 ac1 a2 ac2 a3 ac3 a4 ac4 from ⟨⟨(hS.rd 3 rfl), ha.s1.nil, ha.s1.cap⟩, ⟨(hS.rd 2 rfl), ha.s2.nil, ha.s2.cap⟩, ⟨(hS.rd 1 rfl), ha.s3.nil, ha.s3.cap⟩, ⟨(hS.rd 0 rfl), ha.s4.nil, ha.s4.cap⟩⟩) hl (hS.blk 0 rfl) rfl) ?_
 rintro _ w9 ⟨rfl, hb8⟩
 replace hS := hS.call hb8
 refine ⟨_, rfl, ?_⟩
 intro a hA
 refine seq_do hA rfl rfl rfl (does_assign rfl) ?_
 intro a hA
 refine seq_end ?_
 refine hK5 _ _ ?_
 refine wp_seq_k (fun K10 hK10 => ?_)
 refine wp_region_lit ?_
 refine seq_do hA rfl rfl rfl (does_move rfl) ?_
 intro a hA
 refine seq_do (v := .bool true) hA rfl rfl rfl (does_bin rfl rfl (fun w => (bin_neq w).trans (by rw [show ((want1 q != 0)) = true from hw]))) ?_
 intro a hA
 refine seq_end ?_
 refine hK10 _ _ ?_
 refine wp_cond_true (hA.ev rfl) ?_
 refine wp_seq_k (fun K11 hK11 => ?_)
 refine wp_region_lit ?_
 refine seq_do hA rfl rfl rfl (does_move rfl) ?_
 intro a hA
 refine seq_do hA rfl rfl rfl (does_assign rfl) ?_
 intro a hA
 refine seq_do hA rfl rfl rfl (does_assign rfl) ?_
 intro a hA
 refine seq_end ?_
 refine hK11 _ _ ?_
 refine wp_ret ?_
 refine hret _ _ ?_
 refine ends (v := .tuple #[.int .i64 0, .int .i64 (want1 q)]) hA rfl (.cons (res_tmp rfl) (.cons (res_tmp rfl) .nil)) rfl ?_
 rw [lengthQ_err hw]
 exact ⟨rfl, hS.bel⟩
theorem lengthPW_any {w : World} {b : Bool} {x : Nat} {a1 a2 a3 a4 : Option Addr} {ac1 ac2 ac3 ac4 : Nat} (ha : Nm w (Q6.whole b x) a1 ac1 a2 ac2 a3 ac3 a4 ac4) (hl : LenQ (Q6.whole b x))  (hw : want1 (Q6.whole b x) = 0) (hx : (words x).length ≤ 512) (hb : b.toNat ≤ x) : Calls Tryd.prog 70 #[numV (Q6.whole b x) a1 ac1 a2 ac2 a3 ac3 a4 ac4] w (AnsII w (lengthQ (Q6.whole b x))) := by
 have hS : St w w [] [(a4, [1]), (a3, []), (a2, [1]), (a1, words x)] [] := ((((St.start w).addR ha.s1.rd).addR ha.s2.rd).addR ha.s3.rd).addR ha.s4.rd
 refine walk_of (l := [(0, .agg #[.bool b, .slice a1 ((words x).length) ac1, .slice a2 1 ac2, .bool false, .slice a3 0 ac3, .slice a4 1 ac4])]) Tryd.func70 rfl Tryd.ntmps70 rfl rfl ?_
 intro Q hret hnorm hP a hA
 refine wp_seq_k (fun K1 hK1 => ?_)
 refine wp_region_lit ?_
 refine seq_new hA hS rfl rfl rfl (fun g => .pointer (some ⟨g, 0, none⟩)) (does_box rfl rfl) rfl ?_
 intro g2 w3 hS a hA
 refine seq_do hA rfl rfl rfl (does_assign rfl) ?_
 intro a hA
 refine seq_do hA rfl rfl rfl (does_assign rfl) ?_
 intro a hA
 refine seq_end ?_
 refine hK1 _ _ ?_
 refine wp_seq_k (fun K4 hK4 => ?_)
 refine wp_seq_k (fun K5 hK5 => ?_)
 refine wp_region_lit ?_
 refine seq_do hA rfl rfl rfl (does_loadS hS BiF_isS_27 rfl 0 rfl (cs := [.bool b, .slice a1 ((words x).length) ac1, .slice a2 1 ac2, .bool false, .slice a3 0 ac3, .slice a4 1 ac4]) rfl rfl) ?_
 intro a hA
 refine seq_new (vs := [.bool b, .slice a1 ((words x).length) ac1, .slice a2 1 ac2, .bool false, .slice a3 0 ac3, .slice a4 1 ac4]) (t := 27) hA hS rfl rfl rfl (fun g => .slice (some ⟨g, 0, none⟩) 1 1) (does_buildSlice rfl (by kernel_rfl)) rfl ?_
 intro g6 w7 hS a hA
 refine seq_call hA rfl rfl rfl (enters_func  rfl rfl (fun w => by kernel_rfl)) (want1_any (show Nm _ (Q6.whole b x) a1 ac1 a2 ac2 a3 ac3 a4 ac4 from ⟨⟨(hS.rd 3 rfl), ha.s1.nil, ha.s1.cap⟩, ⟨(hS.rd 2 rfl), ha.s2.nil, ha.s2.cap⟩, ⟨(hS.rd 1 rfl), ha.s3.nil, ha.s3.cap⟩, ⟨(hS.rd 0 rfl), ha.s4.nil, ha.s4.cap⟩⟩) hl (hS.blk 0 rfl) hw) ?_
 rintro _ w9 ⟨rfl, hb8⟩
 replace hS := hS.call hb8
 refine ⟨_, rfl, ?_⟩
 intro a hA
 refine seq_do hA rfl rfl rfl (does_assign rfl) ?_
 intro a hA
 refine seq_end ?_
 refine hK5 _ _ ?_
 refine wp_seq_k (fun K10 hK10 => ?_)
 refine wp_region_lit ?_
 refine seq_do hA rfl rfl rfl (does_move rfl) ?_
 intro a hA
 refine seq_do (v := .bool false) hA rfl rfl rfl (does_bin rfl rfl (fun w => by kernel_rfl)) ?_
 intro a hA
 refine seq_end ?_
 refine hK10 _ _ ?_
 refine wp_cond_false (hA.ev rfl) ?_
 refine wp_skip ?_
 refine hK4 _ _ ?_
 refine wp_seq_k (fun K11 hK11 => ?_)
 refine wp_region_lit ?_
 refine seq_do hA rfl rfl rfl (does_loadS hS BiF_isS_27 rfl 1 rfl (cs := [.bool b, .slice a1 ((words x).length) ac1, .slice a2 1 ac2, .bool false, .slice a3 0 ac3, .slice a4 1 ac4]) rfl rfl) ?_
 intro a hA
 refine seq_call hA rfl rfl rfl (enters_func  rfl rfl (fun w => by kernel_rfl)) (rowOf_any (show Nm _ (Q6.whole b x) a1 ac1 a2 ac2 a3 ac3 a4 ac4 from ⟨⟨(hS.rd 3 rfl), ha.s1.nil, ha.s1.cap⟩, ⟨(hS.rd 2 rfl), ha.s2.nil, ha.s2.cap⟩, ⟨(hS.rd 1 rfl), ha.s3.nil, ha.s3.cap⟩, ⟨(hS.rd 0 rfl), ha.s4.nil, ha.s4.cap⟩⟩) hx hb) ?_
 rintro _ w16 ⟨ro12, rc13, rfl, hs14, hb15⟩
 replace hS := hS.call hb15
 replace hS := hS.addR hs14.rd
 refine ⟨_, rfl, ?_⟩
 intro a hA
 refine seq_do (v := .slice ro12 ((words (x - b.toNat)).length) rc13) hA rfl rfl rfl (does_fieldV rfl (fun w => by kernel_rfl)) ?_
 intro a hA
 refine seq_call hA rfl rfl rfl (enters_func  rfl rfl (fun w => by kernel_rfl)) (bitsW_any _ (hS.rd 0 rfl) (Nat.le_trans (words_mono (Nat.sub_le x b.toNat)) hx)) ?_
 rintro _ w18 ⟨rfl, hb17⟩
 replace hb17 := below_eq hb17
 replace hS := hS.call hb17
 refine ⟨_, rfl, ?_⟩
 intro a hA
 refine seq_do hA rfl rfl rfl (does_assign rfl) ?_
 intro a hA
 refine seq_do hA rfl rfl rfl (does_assign rfl) ?_
 intro a hA
 refine seq_end ?_
 refine hK11 _ _ ?_
 refine wp_ret ?_
 refine hret _ _ ?_
 refine ends (v := .tuple #[.int .i64 (((bl (x - b.toNat) : Nat) : Int)), .int .i64 0]) hA rfl (.cons (res_tmp rfl) (.cons (res_tmp rfl) .nil)) rfl ?_
 rw [lengthQ_whole hw]
 exact ⟨rfl, hS.bel⟩
end Go.Proofs.YtbajcflbimmnhaaDoor
namespace Go.Proofs.YtbajcflbimmnhaaDoor
open Go.RowKit
set_option linter.unusedVariables false
set_option linter.unusedSimpArgs false

section
variable {P : Program} {l : List (Nat × Value)} {dst : Option Tmp} {ty t : TypeId} {pos : String} {after : Array Edge} {guard : Option (Nat × Bool)} {w : World} {x y : Operand}
theorem does_indexS {s : ByteArray} {i m : Nat} (hu : P.underlying t = some .string) (hx : ev l x = some (.string s)) (hi : ev l y = some (.int .u32 ((i : Nat) : Int))) (ht : (s[i]?).map (·.toNat) = some m) :
    Does P l ⟨dst, .index t x y, ty, pos, after, guard⟩ w (.int .u8 ((m : Nat) : Int)) w := fun ρ h => by
  cases hs : s[i]? with
  | none => rw [hs] at ht; cases ht
  | some b =>
    rw [hs] at ht
    simp only [Option.map_some, Option.some.injEq] at ht
    subst ht
    simp [execOp, h x _ hx, h y _ hi, Instr.index, run_underlying hu, asIntOf, go_sem, hs]
end
end Go.Proofs.YtbajcflbimmnhaaDoor
namespace Go.Proofs.YtbajcflbimmnhaaDoor
open Go.RowKit
set_option linter.unusedVariables false
set_option linter.unusedSimpArgs false
set_option maxRecDepth 100000


end Go.Proofs.YtbajcflbimmnhaaDoor
namespace Go.Proofs.YtbajcflbimmnhaaDoor
open Go.RowKit
set_option linter.unusedVariables false
set_option linter.unusedSimpArgs false

/-- The word at i of a row without end. -/
def rwd (b : Bool) (y i : Nat) : Nat := (y / pw i % 4294967296) ^^^ (b.toNat * 4294967295)
theorem ends_lt (b : Bool) : b.toNat * 4294967295 < 4294967296 := by cases b <;> decide
theorem rwd_lt (b : Bool) (y i : Nat) : rwd b y i < 4294967296 := Nat.xor_lt_two_pow (n := 32) (Nat.mod_lt _ (by decide)) (ends_lt b)
theorem rwd_end {b : Bool} {y i : Nat} (h : (words y).length ≤ i) : rwd b y i = b.toNat * 4294967295 := by
  unfold rwd
  rw [div_words_length y i h, Nat.zero_mod, Nat.zero_xor]
section
variable {fop : Nat → Nat → Nat} {fb : Bool → Bool → Bool} {b1 b2 : Bool} {y1 y2 : Nat}
end
theorem btrimN_any {B : Nat} {w : World} {ao : Option Addr} {cap n : Nat} {l : List Nat} (h : Own B w ao cap l) (hn : l.length = n) (hl : n ≤ 1000000) :
    Calls Tryd.prog 125 #[.slice ao n cap] w fun e w' => e = .returned (.slice ao (words (val l)).length cap) ∧ Own B w ao cap (words (val l)) ∧ w' = w := by
  subst hn
  exact btrim_any h hl
section
variable {P : Program} {t : TypeId} {a b : Operand} {x y : Nat}
theorem bin_and (hx : x < 4294967296) (hy : y < 4294967296) : ∀ w, (do eqGuard .and t a b (.int .u32 ((x : Nat) : Int)) (.int .u32 ((y : Nat) : Int)); binOp .and t (.int .u32 ((x : Nat) : Int)) (.int .u32 ((y : Nat) : Int)) : Sem Value).run P w = .ok (.int .u32 ((x &&& y : Nat) : Int)) w := fun w => by
  simp [go_sem, and_u32 x y hx hy]
theorem bin_xor {z : Nat} (hx : x < 4294967296) (hy : y < 4294967296) (hz : x ^^^ y = z) : ∀ w, (do eqGuard .xor t a b (.int .u32 ((x : Nat) : Int)) (.int .u32 ((y : Nat) : Int)); binOp .xor t (.int .u32 ((x : Nat) : Int)) (.int .u32 ((y : Nat) : Int)) : Sem Value).run P w = .ok (.int .u32 ((z : Nat) : Int)) w := fun w => by
  subst hz
  simp [go_sem, xor_u32 x y hx hy]
end
end Go.Proofs.YtbajcflbimmnhaaDoor
namespace Go.Proofs.YtbajcflbimmnhaaDoor
open Go.RowKit
set_option linter.unusedVariables false
set_option linter.unusedSimpArgs false
set_option maxRecDepth 100000
theorem BiH_is1_23 : Is1 Tryd.prog 23 := ⟨⟨_, Tryd.underlying23, rfl⟩, by kernel_rfl⟩
theorem BiH_is1_49 : Is1 Tryd.prog 49 := ⟨⟨_, Tryd.underlying49, rfl⟩, by kernel_rfl⟩
theorem BiH_fld_99_1 : FieldAt Tryd.prog 99 1 1 := ⟨_, _, Tryd.underlying99, rfl, rfl, by kernel_rfl⟩
theorem BiH_isS_99 : IsS Tryd.prog 99 2 := ⟨⟨_, Tryd.underlying99⟩, by kernel_rfl⟩
theorem rwordAt_any {w : World} {b : Bool} {ro : Option Addr} {rc y i : Nat} (hr : Rd w ro (words y)) (hy : (words y).length ≤ 100000) : Calls Tryd.prog 124 #[.agg #[.bool b, .slice ro (words y).length rc], .int .i64 ((i : Nat) : Int)] w fun e w' => e = .returned (.int .u32 ((rwd b y i : Nat) : Int)) ∧ Below w.heap.size w w' := by
 have hS : St w w [] [(ro, words y)] [] := (St.start w).addR hr
 refine walk_of (l := [(0, .agg #[.bool b, .slice ro ((words y).length) rc]), (1, .int .i64 (((i : Nat) : Int)))]) Tryd.func124 rfl Tryd.ntmps124 rfl rfl ?_
 intro Q hret hnorm hP a hA
 refine wp_seq_k (fun K1 hK1 => ?_)
 refine wp_region_lit ?_
 refine seq_new hA hS rfl rfl rfl (fun g => .pointer (some ⟨g, 0, none⟩)) (does_box rfl rfl) rfl ?_
 intro g2 w3 hS a hA
 refine seq_do hA rfl rfl rfl (does_assign rfl) ?_
 intro a hA
 refine seq_end ?_
 refine hK1 _ _ ?_
 refine wp_seq_k (fun K4 hK4 => ?_)
 refine wp_seq_k (fun K5 hK5 => ?_)
 refine wp_region_lit ?_
 refine seq_do hA rfl rfl rfl (does_move rfl) ?_
 intro a hA
 refine seq_do (v := .pointer (some ⟨g2, 1, none⟩)) hA rfl rfl rfl (does_field BiH_fld_99_1 rfl rfl) ?_
 intro a hA
 refine seq_do hA rfl rfl rfl (does_load1 hS BiH_is1_23 rfl 0 rfl rfl) ?_
 intro a hA
 refine seq_do (v := .int .i64 ((((words y).length : Nat) : Int))) hA rfl rfl rfl (does_len Tryd.underlying23 rfl) ?_
 intro a hA
 rcases Bool.eq_false_or_eq_true (decide ((((words y).length : Nat) : Int) ≤ ((i : Nat) : Int))) with hb6 | hb6
 · have hb6' := of_decide_eq_true hb6
   refine seq_do (v := .bool true) hA rfl rfl rfl (does_bin rfl rfl (fun w => (bin_geq w).trans (by rw [hb6]))) ?_
   intro a hA
   refine seq_end ?_
   refine hK5 _ _ ?_
   refine wp_cond_true (hA.ev rfl) ?_
   refine wp_seq_k (fun K7 hK7 => ?_)
   refine wp_region_lit ?_
   refine seq_do hA rfl rfl rfl (does_loadS hS BiH_isS_99 rfl 0 rfl (cs := [.bool b, .slice ro ((words y).length) rc]) rfl rfl) ?_
   intro a hA
   refine seq_call hA rfl rfl rfl (enters_func  rfl rfl (fun w => by kernel_rfl)) (endless_any) ?_
   rintro _ w9 ⟨rfl, hb8⟩
   replace hS := hS.call hb8
   refine ⟨_, rfl, ?_⟩
   intro a hA
   refine seq_do hA rfl rfl rfl (does_assign rfl) ?_
   intro a hA
   refine seq_end ?_
   refine hK7 _ _ ?_
   refine wp_ret ?_
   refine hret _ _ ?_
   refine ends (v := .int .u32 (((b.toNat * 4294967295 : Nat) : Int))) hA rfl (.cons (res_tmp rfl) .nil) rfl ?_
   rw [rwd_end (by omega)]
   exact ⟨rfl, hS.bel⟩
 · have hb6' := of_decide_eq_false hb6
   refine seq_do (v := .bool false) hA rfl rfl rfl (does_bin rfl rfl (fun w => (bin_geq w).trans (by rw [hb6]))) ?_
   intro a hA
   refine seq_end ?_
   refine hK5 _ _ ?_
   refine wp_cond_false (hA.ev rfl) ?_
   refine wp_skip ?_
   refine hK4 _ _ ?_
   refine wp_seq_k (fun K10 hK10 => ?_)
   refine wp_draw (S := fun w1 => St w w1 [(g2, [.bool b, .slice ro ((words y).length) rc])] [(ro, words y)] []) (by kernel_rfl) ?_
   replace hS := hS.drew
   refine any_tk (v := .pointer (some ⟨g2, 1, none⟩)) hA 0 rfl rfl rfl rfl hP hS (fun w1 hS => does_field BiH_fld_99_1 rfl rfl) ?_
   intro a hA
   refine any_tk hA 1 rfl rfl rfl rfl hP hS (fun w1 hS => does_load1 hS BiH_is1_23 rfl 0 rfl rfl) ?_
   intro a hA
   refine any_tk hA 2 rfl rfl rfl rfl hP hS (fun w1 hS => does_move rfl) ?_
   intro a hA
   have hi14 : i < (words y).length := by first | omega | (simp only [List.length_set]; omega)
   obtain ⟨b11, f12, hso13⟩ := Rd.addr (hS.rd 0 rfl) hi14
   refine any_tk (v := .pointer (some ⟨b11, f12 + i, none⟩)) hA 3 rfl rfl rfl rfl hP hS (fun w1 hS => does_indexRow (k := i) Tryd.underlying23 (by kernel_rfl) rfl rfl (by omega) hso13 hi14) ?_
   intro a hA
   refine any_tk (v := .int .u32 ((((words y).getD i 0 : Nat) : Int))) hA 4 rfl rfl rfl rfl hP hS (fun w1 hS => does_loadRow (hS.rd 0 rfl) hso13 hi14 BiH_is1_49 rfl) ?_
   intro a hA
   refine any_tk hA 5 rfl rfl rfl rfl hP hS (fun w1 hS => does_loadS hS BiH_isS_99 rfl 0 rfl (cs := [.bool b, .slice ro ((words y).length) rc]) rfl rfl) ?_
   intro a hA
   refine any_one (by kernel_rfl) (op_call hA 6 rfl rfl rfl rfl (enters_func  rfl rfl (fun w => by kernel_rfl)) (endless_any) ?_)
   rintro _ w16 ⟨rfl, hb15⟩
   replace hS := hS.call hb15
   refine ⟨_, rfl, hS, ?_⟩
   intro a hA
   refine any_tk (v := .int .u32 (((rwd b y i : Nat) : Int))) hA 7 rfl rfl rfl rfl hP hS (fun w1 hS => does_bin rfl rfl (bin_xor (by rw [words_getD]; exact Nat.mod_lt _ (by decide)) (ends_lt b) (by rw [words_getD]; rfl))) ?_
   intro a hA
   refine any_tk hA 8 rfl rfl rfl rfl hP hS (fun w1 hS => does_assign rfl) ?_
   intro a hA
   refine any_end (by kernel_rfl) ?_
   refine hK10 _ _ ?_
   refine wp_ret ?_
   refine hret _ _ ?_
   refine ends (v := .int .u32 (((rwd b y i : Nat) : Int))) hA rfl (.cons (res_tmp rfl) .nil) rfl ?_
   exact ⟨rfl, hS.bel⟩
end Go.Proofs.YtbajcflbimmnhaaDoor
namespace Go.Proofs.YtbajcflbimmnhaaDoor
open Go.RowKit
set_option linter.unusedVariables false
set_option linter.unusedSimpArgs false

theorem sub_len {b : Bool} {x k : Nat} (h : (words x).length ≤ k) : (words (x - b.toNat)).length ≤ k := Nat.le_trans (words_mono (Nat.sub_le x b.toNat)) h
end Go.Proofs.YtbajcflbimmnhaaDoor
namespace Go.Proofs.YtbajcflbimmnhaaDoor
open Go.RowKit
set_option linter.unusedVariables false
set_option linter.unusedSimpArgs false
set_option maxRecDepth 100000
theorem BiJ_isS_27 : IsS Tryd.prog 27 6 := ⟨⟨_, Tryd.underlying27⟩, by kernel_rfl⟩
/-- A number is told by its parts: whole, or refused. -/
theorem wholeOf {q : Q6} {w : World} {a1 a2 a3 a4 : Option Addr} {ac1 ac2 ac3 ac4 : Nat} (ha : Nm w q a1 ac1 a2 ac2 a3 ac3 a4 ac4) (h : wholeQ q = true) : ∃ b x, q = Q6.whole b x ∧ (words x).length ≤ 512 ∧ b.toNat ≤ x := by
  obtain ⟨x, h1, h2, h3⟩ := whole_form ha.s1.rd.dig ha.s4.rd.dig h
  exact ⟨q.b1, x, h1, h2, h3⟩
theorem notW_any {w : World} {b : Bool} {x : Nat} {a1 a2 a3 a4 : Option Addr} {ac1 ac2 ac3 ac4 : Nat} (ha : Nm w (Q6.whole b x) a1 ac1 a2 ac2 a3 ac3 a4 ac4) (hl : LenQ (Q6.whole b x))  (hw : want1 (Q6.whole b x) = 0) (hx : (words x).length ≤ 512) (hb : b.toNat ≤ x) : Calls Tryd.prog 46 #[numV (Q6.whole b x) a1 ac1 a2 ac2 a3 ac3 a4 ac4] w (AnsN w (notQ (Q6.whole b x))) := by
 have hS : St w w [] [(a4, [1]), (a3, []), (a2, [1]), (a1, words x)] [] := ((((St.start w).addR ha.s1.rd).addR ha.s2.rd).addR ha.s3.rd).addR ha.s4.rd
 refine walk_of (l := [(0, .agg #[.bool b, .slice a1 ((words x).length) ac1, .slice a2 1 ac2, .bool false, .slice a3 0 ac3, .slice a4 1 ac4])]) Tryd.func46 rfl Tryd.ntmps46 rfl rfl ?_
 intro Q hret hnorm hP a hA
 refine wp_seq_k (fun K1 hK1 => ?_)
 refine wp_region_lit ?_
 refine seq_new hA hS rfl rfl rfl (fun g => .pointer (some ⟨g, 0, none⟩)) (does_box rfl rfl) rfl ?_
 intro g2 w3 hS a hA
 refine seq_new (vs := [.bool false, .slice none 0 0, .slice none 0 0, .bool false, .slice none 0 0, .slice none 0 0]) (t := 27) hA hS rfl rfl rfl (fun g => .pointer (some ⟨g, 0, none⟩)) (does_alloc (z := .agg #[.bool false, .slice none 0 0, .slice none 0 0, .bool false, .slice none 0 0, .slice none 0 0]) (by kernel_rfl) rfl) rfl ?_
 intro g4 w5 hS a hA
 refine seq_do hA rfl rfl rfl (does_assign rfl) ?_
 intro a hA
 refine seq_end ?_
 refine hK1 _ _ ?_
 refine wp_seq_k (fun K6 hK6 => ?_)
 refine wp_seq_k (fun K7 hK7 => ?_)
 refine wp_region_lit ?_
 refine seq_do hA rfl rfl rfl (does_loadS hS BiJ_isS_27 rfl 1 rfl (cs := [.bool b, .slice a1 ((words x).length) ac1, .slice a2 1 ac2, .bool false, .slice a3 0 ac3, .slice a4 1 ac4]) rfl rfl) ?_
 intro a hA
 refine seq_new (vs := [.bool b, .slice a1 ((words x).length) ac1, .slice a2 1 ac2, .bool false, .slice a3 0 ac3, .slice a4 1 ac4]) (t := 27) hA hS rfl rfl rfl (fun g => .slice (some ⟨g, 0, none⟩) 1 1) (does_buildSlice rfl (by kernel_rfl)) rfl ?_
 intro g8 w9 hS a hA
 refine seq_call hA rfl rfl rfl (enters_func  rfl rfl (fun w => by kernel_rfl)) (want1_any (show Nm _ (Q6.whole b x) a1 ac1 a2 ac2 a3 ac3 a4 ac4 from ⟨⟨(hS.rd 3 rfl), ha.s1.nil, ha.s1.cap⟩, ⟨(hS.rd 2 rfl), ha.s2.nil, ha.s2.cap⟩, ⟨(hS.rd 1 rfl), ha.s3.nil, ha.s3.cap⟩, ⟨(hS.rd 0 rfl), ha.s4.nil, ha.s4.cap⟩⟩) hl (hS.blk 0 rfl) hw) ?_
 rintro _ w11 ⟨rfl, hb10⟩
 replace hS := hS.call hb10
 refine ⟨_, rfl, ?_⟩
 intro a hA
 refine seq_do hA rfl rfl rfl (does_assign rfl) ?_
 intro a hA
 refine seq_end ?_
 refine hK7 _ _ ?_
 refine wp_seq_k (fun K12 hK12 => ?_)
 refine wp_region_lit ?_
 refine seq_do hA rfl rfl rfl (does_move rfl) ?_
 intro a hA
 refine seq_do (v := .bool false) hA rfl rfl rfl (does_bin rfl rfl (fun w => by kernel_rfl)) ?_
 intro a hA
 refine seq_end ?_
 refine hK12 _ _ ?_
 refine wp_cond_false (hA.ev rfl) ?_
 refine wp_skip ?_
 refine hK6 _ _ ?_
 refine wp_seq_k (fun K13 hK13 => ?_)
 refine wp_region_lit ?_
 refine seq_do hA rfl rfl rfl (does_loadS hS BiJ_isS_27 rfl 2 rfl (cs := [.bool b, .slice a1 ((words x).length) ac1, .slice a2 1 ac2, .bool false, .slice a3 0 ac3, .slice a4 1 ac4]) rfl rfl) ?_
 intro a hA
 refine seq_call hA rfl rfl rfl (enters_func  rfl rfl (fun w => by kernel_rfl)) (rowOf_any (show Nm _ (Q6.whole b x) a1 ac1 a2 ac2 a3 ac3 a4 ac4 from ⟨⟨(hS.rd 3 rfl), ha.s1.nil, ha.s1.cap⟩, ⟨(hS.rd 2 rfl), ha.s2.nil, ha.s2.cap⟩, ⟨(hS.rd 1 rfl), ha.s3.nil, ha.s3.cap⟩, ⟨(hS.rd 0 rfl), ha.s4.nil, ha.s4.cap⟩⟩) hx hb) ?_
 rintro _ w18 ⟨ro14, rc15, rfl, hs16, hb17⟩
 replace hS := hS.call hb17
 replace hS := hS.addR hs16.rd
 refine ⟨_, rfl, ?_⟩
 intro a hA
 refine seq_call hA rfl rfl rfl (enters_func  rfl rfl (fun w => by kernel_rfl)) (turned_any) ?_
 rintro _ w20 ⟨rfl, hb19⟩
 replace hS := hS.call hb19
 refine ⟨_, rfl, ?_⟩
 intro a hA
 refine seq_call hA rfl rfl rfl (enters_func  rfl rfl (fun w => by kernel_rfl)) (number_any (b := !b) ⟨(hS.rd 0 rfl), hs16.nil, hs16.cap⟩ (sub_len hx)) ?_
 rintro _ w24 ⟨p21_1, p21_c1, p21_2, p21_c2, p21_3, p21_c3, p21_4, p21_c4, rfl, hn22, hb23⟩
 replace hS := hS.call hb23
 replace hS := hS.addR hn22.s1.rd
 replace hS := hS.addR hn22.s2.rd
 replace hS := hS.addR hn22.s3.rd
 replace hS := hS.addR hn22.s4.rd
 refine ⟨_, rfl, ?_⟩
 intro a hA
 refine seq_do (v := .agg #[.bool ((bigS (!b) (x - b.toNat + (!b).toNat)).1.b1), .slice p21_1 (((bigS (!b) (x - b.toNat + (!b).toNat)).1.t1).length) p21_c1, .slice p21_2 (((bigS (!b) (x - b.toNat + (!b).toNat)).1.q1).length) p21_c2, .bool ((bigS (!b) (x - b.toNat + (!b).toNat)).1.b2), .slice p21_3 (((bigS (!b) (x - b.toNat + (!b).toNat)).1.t2).length) p21_c3, .slice p21_4 (((bigS (!b) (x - b.toNat + (!b).toNat)).1.q2).length) p21_c4]) hA rfl rfl rfl (does_extract (vs := [.agg #[.bool ((bigS (!b) (x - b.toNat + (!b).toNat)).1.b1), .slice p21_1 (((bigS (!b) (x - b.toNat + (!b).toNat)).1.t1).length) p21_c1, .slice p21_2 (((bigS (!b) (x - b.toNat + (!b).toNat)).1.q1).length) p21_c2, .bool ((bigS (!b) (x - b.toNat + (!b).toNat)).1.b2), .slice p21_3 (((bigS (!b) (x - b.toNat + (!b).toNat)).1.t2).length) p21_c3, .slice p21_4 (((bigS (!b) (x - b.toNat + (!b).toNat)).1.q2).length) p21_c4], .int .i64 ((bigS (!b) (x - b.toNat + (!b).toNat)).2)]) rfl rfl) ?_
 intro a hA
 refine seq_do (v := .int .i64 ((bigS (!b) (x - b.toNat + (!b).toNat)).2)) hA rfl rfl rfl (does_extract (vs := [.agg #[.bool ((bigS (!b) (x - b.toNat + (!b).toNat)).1.b1), .slice p21_1 (((bigS (!b) (x - b.toNat + (!b).toNat)).1.t1).length) p21_c1, .slice p21_2 (((bigS (!b) (x - b.toNat + (!b).toNat)).1.q1).length) p21_c2, .bool ((bigS (!b) (x - b.toNat + (!b).toNat)).1.b2), .slice p21_3 (((bigS (!b) (x - b.toNat + (!b).toNat)).1.t2).length) p21_c3, .slice p21_4 (((bigS (!b) (x - b.toNat + (!b).toNat)).1.q2).length) p21_c4], .int .i64 ((bigS (!b) (x - b.toNat + (!b).toNat)).2)]) rfl rfl) ?_
 intro a hA
 refine seq_store (us := [.bool ((bigS (!b) (x - b.toNat + (!b).toNat)).1.b1), .slice p21_1 (((bigS (!b) (x - b.toNat + (!b).toNat)).1.t1).length) p21_c1, .slice p21_2 (((bigS (!b) (x - b.toNat + (!b).toNat)).1.q1).length) p21_c2, .bool ((bigS (!b) (x - b.toNat + (!b).toNat)).1.b2), .slice p21_3 (((bigS (!b) (x - b.toNat + (!b).toNat)).1.t2).length) p21_c3, .slice p21_4 (((bigS (!b) (x - b.toNat + (!b).toNat)).1.q2).length) p21_c4]) hA hS rfl rfl (sets_store rfl rfl rfl (by kernel_rfl) hS 1 rfl rfl rfl) 1 rfl rfl rfl rfl ?_
 intro w25 hS
 refine seq_do hA rfl rfl rfl (does_assign rfl) ?_
 intro a hA
 refine seq_end ?_
 refine hK13 _ _ ?_
 refine wp_ret ?_
 refine hret _ _ ?_
 refine ends (v := .tuple #[.agg #[.bool ((bigS (!b) (x - b.toNat + (!b).toNat)).1.b1), .slice p21_1 (((bigS (!b) (x - b.toNat + (!b).toNat)).1.t1).length) p21_c1, .slice p21_2 (((bigS (!b) (x - b.toNat + (!b).toNat)).1.q1).length) p21_c2, .bool ((bigS (!b) (x - b.toNat + (!b).toNat)).1.b2), .slice p21_3 (((bigS (!b) (x - b.toNat + (!b).toNat)).1.t2).length) p21_c3, .slice p21_4 (((bigS (!b) (x - b.toNat + (!b).toNat)).1.q2).length) p21_c4], .int .i64 ((bigS (!b) (x - b.toNat + (!b).toNat)).2)]) hA rfl (.cons (res_cell hS BiJ_isS_27 rfl 1 rfl (cs := [.bool ((bigS (!b) (x - b.toNat + (!b).toNat)).1.b1), .slice p21_1 (((bigS (!b) (x - b.toNat + (!b).toNat)).1.t1).length) p21_c1, .slice p21_2 (((bigS (!b) (x - b.toNat + (!b).toNat)).1.q1).length) p21_c2, .bool ((bigS (!b) (x - b.toNat + (!b).toNat)).1.b2), .slice p21_3 (((bigS (!b) (x - b.toNat + (!b).toNat)).1.t2).length) p21_c3, .slice p21_4 (((bigS (!b) (x - b.toNat + (!b).toNat)).1.q2).length) p21_c4]) rfl rfl) (.cons (res_tmp rfl) .nil)) rfl ?_
 rw [notQ_whole hw, ← turn_sum hb]
 exact ⟨p21_1, p21_c1, p21_2, p21_c2, p21_3, p21_c3, p21_4, p21_c4, rfl, ⟨⟨(hS.rd 3 rfl), hn22.s1.nil, hn22.s1.cap⟩, ⟨(hS.rd 2 rfl), hn22.s2.nil, hn22.s2.cap⟩, ⟨(hS.rd 1 rfl), hn22.s3.nil, hn22.s3.cap⟩, ⟨(hS.rd 0 rfl), hn22.s4.nil, hn22.s4.cap⟩⟩, hS.bel⟩
end Go.Proofs.YtbajcflbimmnhaaDoor
namespace Go.Proofs.YtbajcflbimmnhaaDoor
open Go.RowKit
set_option linter.unusedVariables false
set_option linter.unusedSimpArgs false
end Go.Proofs.YtbajcflbimmnhaaDoor
namespace Go.Proofs.YtbajcflbimmnhaaDoor
open Go.RowKit
set_option linter.unusedVariables false
set_option linter.unusedSimpArgs false
set_option maxRecDepth 100000
end Go.Proofs.YtbajcflbimmnhaaDoor
namespace Go.Proofs.YtbajcflbimmnhaaDoor
open Go.RowKit
set_option linter.unusedVariables false
set_option linter.unusedSimpArgs false
set_option maxRecDepth 100000
end Go.Proofs.YtbajcflbimmnhaaDoor
namespace Go.Proofs.YtbajcflbimmnhaaDoor
open Go.RowKit
set_option linter.unusedVariables false
set_option linter.unusedSimpArgs false
set_option maxRecDepth 100000
end Go.Proofs.YtbajcflbimmnhaaDoor
namespace Go.Proofs.YtbajcflbimmnhaaDoor
open Go.RowKit
set_option linter.unusedVariables false
set_option linter.unusedSimpArgs false

/-- A rational number that is not too long. -/
def fitR (u : Rat) : Prop := (words u.num.natAbs).length ≤ 512 ∧ (words u.den).length ≤ 512
instance (u : Rat) : Decidable (fitR u) := inferInstanceAs (Decidable (_ ∧ _))
end Go.Proofs.YtbajcflbimmnhaaDoor
namespace Go.Proofs.YtbajcflbimmnhaaDoor
open Go.RowKit
set_option linter.unusedVariables false
set_option linter.unusedSimpArgs false
set_option maxRecDepth 100000
end Go.Proofs.YtbajcflbimmnhaaDoor
namespace Go.Proofs.YtbajcflbimmnhaaDoor
open Go.RowKit
set_option linter.unusedVariables false
set_option linter.unusedSimpArgs false
set_option maxRecDepth 100000
end Go.Proofs.YtbajcflbimmnhaaDoor
namespace Go.Proofs.YtbajcflbimmnhaaDoor
open Go.RowKit
set_option linter.unusedVariables false
set_option linter.unusedSimpArgs false
section
variable {P : Program} {t : TypeId} {x y : Operand} {a b : ByteArray}
end
section
variable {P : Program} {ops : List Oper} {Q : Exit → Act → World → Prop} {a : Act} {w w' : World} {n : Nat} {l : List (Nat × Value)} {o : Oper} {v : Value} {rest : List Oper}
end
end Go.Proofs.YtbajcflbimmnhaaDoor
namespace Go.Proofs.YtbajcflbimmnhaaDoor
open Go.RowKit
set_option linter.unusedVariables false
set_option linter.unusedSimpArgs false
set_option maxRecDepth 100000


end Go.Proofs.YtbajcflbimmnhaaDoor
namespace Go.Proofs.YtbajcflbimmnhaaDoor
open Go.RowKit
set_option linter.unusedVariables false
set_option linter.unusedSimpArgs false
end Go.Proofs.YtbajcflbimmnhaaDoor
namespace Go.Proofs.YtbajcflbimmnhaaDoor
open Go.RowKit
set_option linter.unusedVariables false
set_option linter.unusedSimpArgs false
set_option maxRecDepth 100000

end Go.Proofs.YtbajcflbimmnhaaDoor
namespace Go.Proofs.YtbajcflbimmnhaaDoor
open Go.RowKit
set_option linter.unusedVariables false
set_option linter.unusedSimpArgs false
end Go.Proofs.YtbajcflbimmnhaaDoor
namespace Go.Proofs.YtbajcflbimmnhaaDoor
open Go.RowKit
set_option linter.unusedVariables false
set_option linter.unusedSimpArgs false
set_option maxRecDepth 100000
end Go.Proofs.YtbajcflbimmnhaaDoor
namespace Go.Proofs.YtbajcflbimmnhaaDoor
open Go.RowKit
set_option linter.unusedVariables false
set_option linter.unusedSimpArgs false
set_option maxRecDepth 100000
end Go.Proofs.YtbajcflbimmnhaaDoor
namespace Go.Proofs.YtbajcflbimmnhaaDoor
open Go.RowKit
set_option linter.unusedVariables false
set_option linter.unusedSimpArgs false
set_option maxRecDepth 100000

end Go.Proofs.YtbajcflbimmnhaaDoor
namespace Go.Proofs.YtbajcflbimmnhaaDoor
open Go.RowKit
set_option linter.unusedVariables false
set_option linter.unusedSimpArgs false
set_option maxRecDepth 100000


end Go.Proofs.YtbajcflbimmnhaaDoor
namespace Go.Proofs.YtbajcflbimmnhaaDoor
open Go.RowKit
set_option linter.unusedVariables false
set_option linter.unusedSimpArgs false
end Go.Proofs.YtbajcflbimmnhaaDoor
namespace Go.Proofs.YtbajcflbimmnhaaDoor
open Go.RowKit
set_option linter.unusedVariables false
set_option linter.unusedSimpArgs false
set_option maxRecDepth 100000


end Go.Proofs.YtbajcflbimmnhaaDoor
namespace Go.Proofs.YtbajcflbimmnhaaDoor
open Go.RowKit
set_option linter.unusedVariables false
set_option linter.unusedSimpArgs false
end Go.Proofs.YtbajcflbimmnhaaDoor
namespace Go.Proofs.YtbajcflbimmnhaaDoor
open Go.RowKit
set_option linter.unusedVariables false
set_option linter.unusedSimpArgs false
set_option maxRecDepth 100000


end Go.Proofs.YtbajcflbimmnhaaDoor
namespace Go.Proofs.YtbajcflbimmnhaaDoor
open Go.RowKit
set_option linter.unusedVariables false
set_option linter.unusedSimpArgs false
section
variable {P : Program} {md : Region.Mode} {ops : List Oper} {Q : Exit → Act → World → Prop} {S : World → Prop} {fuel : Nat} {listed : Array Bool} {a : Act} {w w' : World} {n : Nat} {l : List (Nat × Value)} {o : Oper} {v : Value}
end
section
variable {P : Program} {t : TypeId} {a b : Operand}
end
end Go.Proofs.YtbajcflbimmnhaaDoor
namespace Go.Proofs.YtbajcflbimmnhaaDoor
open Go.RowKit
set_option linter.unusedVariables false
set_option linter.unusedSimpArgs false
set_option maxRecDepth 100000
end Go.Proofs.YtbajcflbimmnhaaDoor
namespace Go.Proofs.YtbajcflbimmnhaaDoor
open Go.RowKit
set_option linter.unusedVariables false
set_option linter.unusedSimpArgs false
set_option maxRecDepth 100000
end Go.Proofs.YtbajcflbimmnhaaDoor
namespace Go.Proofs.YtbajcflbimmnhaaDoor
open Go.RowKit
set_option linter.unusedVariables false
set_option linter.unusedSimpArgs false

def rowL (b : Bool) (y n : Nat) : List Nat := (List.range n).map (rwd b y)
theorem rowL_len (b : Bool) (y n : Nat) : (rowL b y n).length = n := by simp [rowL]
theorem rowL_get {b : Bool} {y n i : Nat} (h : i < n) : (rowL b y n).getD i 0 = rwd b y i := by simp [rowL, h]
theorem rowL_dig (b : Bool) (y n : Nat) : Dig (rowL b y n) := by
  intro x hx
  obtain ⟨i, _, rfl⟩ := List.mem_map.1 hx
  exact rwd_lt b y i
theorem getD_set (l : List Nat) (i j d : Nat) (hi : i < l.length) : (l.set i d).getD j 0 = if i = j then d else l.getD j 0 := by
  simp only [List.getD_eq_getElem?_getD]
  by_cases h : i = j
  · subst h; rw [List.getElem?_set_self hi, if_pos rfl]; rfl
  · rw [List.getElem?_set_ne h, if_neg h]
/-- A row in work: the first i words are there, the others are 0. -/
def RowIn (b : Bool) (y n i : Nat) (l : List Nat) : Prop := l.length = n ∧ (∀ j, j < i → l.getD j 0 = rwd b y j) ∧ ∀ j, i ≤ j → l.getD j 0 = 0
theorem RowIn.start (b : Bool) (y n : Nat) : RowIn b y n 0 (List.replicate n 0) := ⟨by simp, fun j hj => by omega, fun j _ => by simp [List.getD_eq_getElem?_getD, List.getElem?_replicate]; split <;> rfl⟩
theorem RowIn.step {b : Bool} {y n i : Nat} {l l' : List Nat} (h : RowIn b y n i l) (h1 : l'.length = n) (h2 : l'.getD i 0 = rwd b y i) (h3 : ∀ j, i ≠ j → l'.getD j 0 = l.getD j 0) : RowIn b y n (i + 1) l' := by
  refine ⟨h1, fun j hj => ?_, fun j hj => ?_⟩
  · by_cases e : i = j
    · subst e; exact h2
    · rw [h3 j e]; exact h.2.1 j (by omega)
  · rw [h3 j (by omega)]; exact h.2.2 j (by omega)
theorem RowIn.done {b : Bool} {y n : Nat} {l : List Nat} (h : RowIn b y n n l) : l = rowL b y n := list_of_getD (by rw [rowL_len]; exact h.1) (fun j hj => by rw [h.1] at hj; rw [rowL_get hj]; exact h.2.1 j hj)
end Go.Proofs.YtbajcflbimmnhaaDoor
namespace Go.Proofs.YtbajcflbimmnhaaDoor
open Go.RowKit
set_option linter.unusedVariables false
set_option linter.unusedSimpArgs false
set_option maxRecDepth 100000

end Go.Proofs.YtbajcflbimmnhaaDoor
namespace Go.Proofs.YtbajcflbimmnhaaDoor
open Go.RowKit
set_option linter.unusedVariables false
set_option linter.unusedSimpArgs false
set_option maxRecDepth 100000

end Go.Proofs.YtbajcflbimmnhaaDoor
namespace Go.Proofs.YtbajcflbimmnhaaDoor
open Go.RowKit
set_option linter.unusedVariables false
set_option linter.unusedSimpArgs false
set_option maxRecDepth 100000

end Go.Proofs.YtbajcflbimmnhaaDoor
namespace Go.Proofs.YtbajcflbimmnhaaDoor
open Go.RowKit
set_option linter.unusedVariables false
set_option linter.unusedSimpArgs false
set_option maxRecDepth 100000

end Go.Proofs.YtbajcflbimmnhaaDoor
namespace Go.Proofs.YtbajcflbimmnhaaDoor
open Go.RowKit
set_option linter.unusedVariables false
set_option linter.unusedSimpArgs false

/-- The bit k of a row without end. -/
def tbit (b : Bool) (y k : Nat) : Nat := (y.testBit k ^^ b).toNat
theorem tbit_le (b : Bool) (y k : Nat) : tbit b y k ≤ 1 := Bool.toNat_le _
/-- The bits from s on, so many, as a number. -/
def fld (b : Bool) (y s : Nat) : Nat → Nat
  | 0 => 0
  | c + 1 => fld b y s c + tbit b y (s + c) * 2 ^ c
theorem fld_lt (b : Bool) (y s : Nat) : ∀ c, fld b y s c < 2 ^ c
  | 0 => by simp [fld]
  | c + 1 => by
    have h1 := fld_lt b y s c
    have h2 := tbit_le b y (s + c)
    have h3 : tbit b y (s + c) * 2 ^ c ≤ 1 * 2 ^ c := Nat.mul_le_mul_right _ h2
    unfold fld
    rw [Nat.pow_succ]
    omega
theorem fld_down (b : Bool) (y s : Nat) : ∀ c, fld b (y / 2 ^ s) 0 c = fld b y s c
  | 0 => rfl
  | c + 1 => by
    unfold fld
    rw [fld_down b y s c]
    unfold tbit
    rw [Nat.zero_add, Nat.testBit_div_two_pow, Nat.add_comm c s]
/-- A number's lowest bits are told by its bits. -/
theorem mod_bits {X b y : Nat} {B : Bool} : ∀ c, (∀ k, k < c → X / 2 ^ k % 2 = tbit B y k) → X % 2 ^ c = fld B y 0 c
  | 0, _ => by simp [fld, Nat.mod_one]
  | c + 1, h => by
    have ih := mod_bits (X := X) (b := b) c (fun k hk => h k (by omega))
    have e := h c (by omega)
    unfold fld
    rw [Nat.zero_add, ← e, ← ih, Nat.pow_succ, Nat.mod_mul, Nat.mul_comm (X / 2 ^ c % 2)]
theorem rwd_bit {b : Bool} {y J r : Nat} (hr : r < 32) : rwd b y J / 2 ^ r % 2 = tbit b y (32 * J + r) := by
  rw [← Nat.toNat_testBit]
  unfold tbit rwd
  rw [Nat.testBit_xor]
  have e1 : (y / pw J % 4294967296).testBit r = y.testBit (32 * J + r) := by
    rw [show (4294967296 : Nat) = 2 ^ 32 from rfl, Nat.testBit_mod_two_pow, pw_two, Nat.testBit_div_two_pow, Nat.add_comm r]
    simp [hr]
  have e2 : (b.toNat * 4294967295).testBit r = b := by
    cases b with
    | false => simp
    | true =>
      show (1 * 4294967295).testBit r = true
      rw [Nat.one_mul, show (4294967295 : Nat) = 2 ^ 32 - 1 from rfl, Nat.testBit_two_pow_sub_one]
      simp [hr]
  rw [e1, e2]
/-- A bit of a list of words. -/
theorem val_bit {l : List Nat} (hd : Dig l) (k : Nat) : val l / 2 ^ k % 2 = l.getD (k / 32) 0 / 2 ^ (k % 32) % 2 := by
  have h1 : l.getD (k / 32) 0 = val l / pw (k / 32) % 4294967296 := by
    have h2 := val_split l (k / 32)
    by_cases hk : k / 32 < l.length
    · have hm : min (k / 32) l.length = k / 32 := by omega
      rw [hm] at h2
      have h3 : val (l.take (k / 32)) < pw (k / 32) := by
        have := val_lt (hd.take (k / 32))
        rwa [List.length_take, hm] at this
      have h4 : val l / pw (k / 32) = val (l.drop (k / 32)) := by
        rw [h2, Nat.add_mul_div_left _ _ (pw_pos _), Nat.div_eq_of_lt h3, Nat.zero_add]
      rw [h4, List.drop_eq_getElem_cons hk, val_cons, Nat.add_mul_mod_self_left, Nat.mod_eq_of_lt (hd _ (List.getElem_mem hk))]
      simp [hk]
    · have : val l < pw (k / 32) := Nat.lt_of_lt_of_le (val_lt hd) (pw_le (by omega))
      rw [Nat.div_eq_of_lt this]
      simp [List.getD_eq_getElem?_getD, List.getElem?_eq_none (by omega : l.length ≤ k / 32)]
  rw [h1, ← Nat.toNat_testBit, ← Nat.toNat_testBit, show (4294967296 : Nat) = 2 ^ 32 from rfl, Nat.testBit_mod_two_pow, pw_two, Nat.testBit_div_two_pow]
  have e : k % 32 + 32 * (k / 32) = k := by omega
  rw [e]
  have : k % 32 < 32 := Nat.mod_lt _ (by decide)
  simp [this]
theorem rowL_bit {b : Bool} {y n k : Nat} (h : k / 32 < n) : (rowL b y n).getD (k / 32) 0 / 2 ^ (k % 32) % 2 = tbit b y k := by
  rw [rowL_get h, rwd_bit (Nat.mod_lt _ (by decide))]
  congr 1
  omega
theorem rowL_mod {b : Bool} {y n c : Nat} (h : c ≤ 32 * n) : val (rowL b y n) % 2 ^ c = fld b y 0 c :=
  mod_bits (b := 0) c (fun k hk => by rw [val_bit (rowL_dig _ _ _), rowL_bit (by omega)])
/-- The last word cut down. -/
theorem mask_val {l : List Nat} {n r : Nat} (hd : Dig l) (hl : l.length = n + 1) : val (l.set n (l.getD n 0 &&& (2 ^ r - 1))) = val l % (pw n * 2 ^ r) := by
  have e : l.getD n 0 &&& (2 ^ r - 1) = l.getD n 0 % 2 ^ r := Nat.and_two_pow_sub_one_eq_mod _ _
  have h1 : val l = val (l.take n) + pw n * l.getD n 0 := by
    have := val_take_succ l n
    rwa [List.take_of_length_le (by omega)] at this
  have h2 : val (l.set n (l.getD n 0 % 2 ^ r)) = val (l.take n) + pw n * (l.getD n 0 % 2 ^ r) := by
    have := val_set_take l n (l.getD n 0 % 2 ^ r) (by omega)
    rwa [List.take_of_length_le (by rw [List.length_set]; omega)] at this
  have h3 : val (l.take n) < pw n := by
    have := val_lt (hd.take n)
    rwa [List.length_take, Nat.min_eq_left (by omega)] at this
  rw [e, h2, Nat.mod_mul, h1, Nat.add_mul_mod_self_left, Nat.mod_eq_of_lt h3, Nat.add_mul_div_left _ _ (pw_pos _), Nat.div_eq_of_lt h3, Nat.zero_add]
/-- A number's words, in a list of a given length. -/
def Pads (F n : Nat) (l : List Nat) : Prop := l.length = n ∧ ∀ j, l.getD j 0 = F / pw j % 4294967296
theorem Pads.start (n : Nat) : Pads 0 n (List.replicate n 0) := ⟨by simp, fun j => by simp [List.getD_eq_getElem?_getD, List.getElem?_replicate]; split <;> rfl⟩
theorem Pads.step {F n k t : Nat} {l : List Nat} (h : Pads F n l) (hF : F < 2 ^ k) (ht : t ≤ 1) (hk : k / 32 < n) : Pads (F + t * 2 ^ k) n (l.set (k / 32) (l.getD (k / 32) 0 ||| t * 2 ^ (k % 32))) := by
  have hk2 : 2 ^ k = pw (k / 32) * 2 ^ (k % 32) := by rw [pw_two, ← Nat.pow_add]; congr 1; omega
  have hr : 2 ^ (k % 32) ≤ 2 ^ 31 := Nat.pow_le_pow_right (by omega) (by omega)
  have hq : F / pw (k / 32) < 2 ^ (k % 32) := by
    rw [Nat.div_lt_iff_lt_mul (pw_pos _), Nat.mul_comm, ← hk2]
    exact hF
  have hold : l.getD (k / 32) 0 = F / pw (k / 32) := by
    rw [h.2, Nat.mod_eq_of_lt (by omega)]
  refine ⟨by rw [List.length_set]; exact h.1, fun j => ?_⟩
  rw [getD_set _ _ _ _ (by rw [h.1]; exact hk)]
  by_cases e : k / 32 = j
  · subst e
    have h8 : t * 2 ^ (k % 32) ≤ 1 * 2 ^ (k % 32) := Nat.mul_le_mul_right _ ht
    have h9 : (2 : Nat) ^ 31 = 2147483648 := rfl
    have e1 : (F / pw (k / 32) ||| t * 2 ^ (k % 32)) = t * 2 ^ (k % 32) + F / pw (k / 32) := by
      rw [Nat.or_comm]
      exact or_add t (F / pw (k / 32)) (k % 32) hq
    have e2 : (F + t * 2 ^ k) / pw (k / 32) = F / pw (k / 32) + t * 2 ^ (k % 32) := by
      rw [hk2, Nat.mul_left_comm t, Nat.add_mul_div_left _ _ (pw_pos _)]
    rw [if_pos rfl, hold, e1, e2, Nat.mod_eq_of_lt (show F / pw (k / 32) + t * 2 ^ (k % 32) < 4294967296 from by omega), Nat.add_comm]
  · rw [if_neg e, h.2]
    by_cases hlt : j < k / 32
    · have : 2 ^ k = pw j * (4294967296 * (pw (k / 32 - j - 1) * 2 ^ (k % 32))) := by
        rw [hk2, show k / 32 = j + (1 + (k / 32 - j - 1)) by omega, pw_add, pw_add]
        have : pw 1 = 4294967296 := by rw [pw_succ, pw_zero]
        rw [this, Nat.mul_assoc, Nat.mul_assoc]
        congr 3
        congr 1
        omega
      rw [this, Nat.mul_left_comm t, Nat.add_mul_div_left _ _ (pw_pos _), Nat.mul_left_comm t, Nat.add_mul_mod_self_left]
    · have h1 : pw (k / 32 + 1) ≤ pw j := pw_le (by omega)
      rw [pw_succ] at h1
      have h2 : F + t * 2 ^ k < pw j := by
        have : t * 2 ^ k ≤ 1 * 2 ^ k := Nat.mul_le_mul_right _ ht
        have h3 : 2 ^ k ≤ pw (k / 32) * 2 ^ 31 := by rw [hk2]; exact Nat.mul_le_mul_left _ hr
        have : (2 : Nat) ^ 31 = 2147483648 := rfl
        omega
      rw [Nat.div_eq_of_lt h2, Nat.div_eq_of_lt (by omega)]
def fieldQ (q : Q6) (s e : Int) : Q6 × Int :=
  if want1 q = 0 then (if s < 0 ∨ e < s ∨ 16384 < e then (Q6.zero, 1) else (Q6.whole false (fld q.b1 (val q.t1 - q.b1.toNat) s.toNat (e - s).toNat), 0)) else (Q6.zero, want1 q)
theorem fieldQ_ok {b : Bool} {x S E : Nat} (h : want1 (Q6.whole b x) = 0) (h1 : S ≤ E) (h2 : E ≤ 16384) : fieldQ (Q6.whole b x) (S : Int) (E : Int) = (Q6.whole false (fld b (x - b.toNat) S (E - S)), 0) := by
  unfold fieldQ
  rw [if_pos h, if_neg (by omega)]
  simp only [Q6.whole, val_words, Int.toNat_natCast]
  rw [show ((E : Int) - (S : Int)).toNat = E - S from by omega]
theorem fld_len {b : Bool} {y s c : Nat} (h : c ≤ 16384) : (words (fld b y s c)).length ≤ 512 := by
  apply words_length_le
  have h1 := fld_lt b y s c
  have h2 : pw 512 = 2 ^ (32 * 512) := pw_two 512
  have h3 : c ≤ 32 * 512 := h
  generalize 32 * 512 = K at h2 h3
  rw [h2]
  exact Nat.lt_of_lt_of_le h1 (Nat.pow_le_pow_right (Nat.zero_lt_succ 1) h3)
section
variable {P : Program} {t : TypeId} {a b : Operand}
theorem bin_quo {n : Nat} (hn : n ≤ 1000000000) : ∀ w, (do eqGuard .quo t a b (.int .i64 ((n : Nat) : Int)) (.int .i64 32); binOp .quo t (.int .i64 ((n : Nat) : Int)) (.int .i64 32) : Sem Value).run P w = .ok (.int .i64 ((n / 32 : Nat) : Int)) w := fun w => by
  have e : ((n : Nat) : Int).tdiv 32 = ((n / 32 : Nat) : Int) := by rw [Int.tdiv_eq_ediv_of_nonneg (by omega)]; omega
  have h := i64In (a := ((n / 32 : Nat) : Int)) (by omega) (by omega)
  rw [show ((n / 32 : Nat) : Int) = ((n : Nat) : Int) / 32 from by omega] at h
  simp [go_sem, e, h]
theorem bin_rem {n : Nat} (hn : n ≤ 1000000000) : ∀ w, (do eqGuard .rem t a b (.int .i64 ((n : Nat) : Int)) (.int .i64 32); binOp .rem t (.int .i64 ((n : Nat) : Int)) (.int .i64 32) : Sem Value).run P w = .ok (.int .i64 ((n % 32 : Nat) : Int)) w := fun w => by
  have e : ((n : Nat) : Int).tmod 32 = ((n % 32 : Nat) : Int) := by rw [Int.tmod_eq_emod_of_nonneg (by omega)]; omega
  have h := i64In (a := ((n % 32 : Nat) : Int)) (by omega) (by omega)
  simp [go_sem, e, h]
theorem bin_shl {x k : Nat} (hx : x ≤ 1) (hk : k < 32) : ∀ w, (do eqGuard .shl t a b (.int .u32 ((x : Nat) : Int)) (.int .i64 ((k : Nat) : Int)); binOp .shl t (.int .u32 ((x : Nat) : Int)) (.int .i64 ((k : Nat) : Int)) : Sem Value).run P w = .ok (.int .u32 ((x * 2 ^ k : Nat) : Int)) w := fun w => by
  have h : ¬ ((k : Nat) : Int) < 0 := by omega
  have h1 : x * 2 ^ k < 4294967296 := by
    have h2 : x * 2 ^ k ≤ 1 * 2 ^ k := Nat.mul_le_mul_right _ hx
    have h3 : 2 ^ k ≤ 2 ^ 31 := Nat.pow_le_pow_right (by decide) (by omega)
    have h4 : (2 : Nat) ^ 31 = 2147483648 := rfl
    omega
  have h5 := wrap_u32 (x * 2 ^ k) h1
  rw [Int.natCast_mul, Int.natCast_pow] at h5
  simp only [Int.cast_ofNat_Int] at h5
  simp [go_sem, h, h5]
theorem bin_subU {k : Nat} (hk : k < 32) : ∀ w, (do eqGuard .sub t a b (.int .u32 ((1 * 2 ^ k : Nat) : Int)) (.int .u32 1); binOp .sub t (.int .u32 ((1 * 2 ^ k : Nat) : Int)) (.int .u32 1) : Sem Value).run P w = .ok (.int .u32 ((2 ^ k - 1 : Nat) : Int)) w := fun w => by
  have h3 : 2 ^ k ≤ 2 ^ 31 := Nat.pow_le_pow_right (by decide) (by omega)
  have h4 : (2 : Nat) ^ 31 = 2147483648 := rfl
  have hp : 0 < 2 ^ k := Nat.pow_pos (by decide)
  have e : ((1 * 2 ^ k : Nat) : Int) - 1 = ((2 ^ k - 1 : Nat) : Int) := by omega
  have h5 := wrap_u32 (2 ^ k - 1) (by omega)
  rw [← e] at h5
  rw [bin_sub h5, e]
end
end Go.Proofs.YtbajcflbimmnhaaDoor
namespace Go.Proofs.YtbajcflbimmnhaaDoor
open Go.RowKit
set_option linter.unusedVariables false
set_option linter.unusedSimpArgs false
set_option maxRecDepth 100000
theorem BiP_is1_49 : Is1 Tryd.prog 49 := ⟨⟨_, Tryd.underlying49, rfl⟩, by kernel_rfl⟩
theorem BiP_isS_27 : IsS Tryd.prog 27 6 := ⟨⟨_, Tryd.underlying27⟩, by kernel_rfl⟩
theorem BiP_isS_99 : IsS Tryd.prog 99 2 := ⟨⟨_, Tryd.underlying99⟩, by kernel_rfl⟩
theorem mask_lt {k : Nat} (hk : k < 32) : 2 ^ k - 1 < 4294967296 := by
  have h3 : 2 ^ k ≤ 2 ^ 31 := Nat.pow_le_pow_right (by decide) (by omega)
  have h4 : (2 : Nat) ^ 31 = 2147483648 := rfl
  omega
theorem low_mask {b : Bool} {y c n : Nat} (hn : (c + 32 - 1) / 32 = n + 1) (hr : 0 < c % 32) : val ((rowL b y (n + 1)).set n ((rowL b y (n + 1)).getD n 0 &&& (2 ^ (c % 32) - 1))) = fld b y 0 c := by
  rw [mask_val (rowL_dig _ _ _) (rowL_len _ _ _), pw_two, ← Nat.pow_add, show 32 * n + c % 32 = c from by omega]
  exact rowL_mod (by omega)
theorem low_all {b : Bool} {y c : Nat} (hr : ¬ 0 < c % 32) : val (rowL b y ((c + 32 - 1) / 32)) = fld b y 0 c := by
  have h1 := rowL_mod (b := b) (y := y) (n := (c + 32 - 1) / 32) (c := c) (by omega)
  have h2 := val_lt (rowL_dig b y ((c + 32 - 1) / 32))
  rw [rowL_len, pw_two, show 32 * ((c + 32 - 1) / 32) = c from by omega] at h2
  rw [← h1, Nat.mod_eq_of_lt h2]
theorem lowest_row_any {w : World} {b : Bool} {ro : Option Addr} {rc y c : Nat} (hr : Rd w ro (words y)) (hy : (words y).length ≤ 600) (hc : c ≤ 16384) : Calls Tryd.prog 99 #[.agg #[.bool b, .slice ro (words y).length rc], .int .i64 ((c : Nat) : Int)] w (Row1 w (words (fld b y 0 c))) := by
 have hS : St w w [] [] [] := St.start w
 refine walk_of (l := [(0, .agg #[.bool b, .slice ro ((words y).length) rc]), (1, .int .i64 (((c : Nat) : Int)))]) Tryd.func99 rfl Tryd.ntmps99 rfl rfl ?_
 intro Q hret hnorm hP a hA
 refine wp_seq_k (fun K1 hK1 => ?_)
 refine wp_region_lit ?_
 refine seq_new hA hS rfl rfl rfl (fun g => .pointer (some ⟨g, 0, none⟩)) (does_box rfl rfl) rfl ?_
 intro g2 w3 hS a hA
 refine seq_do hA rfl rfl rfl (does_assign rfl) ?_
 intro a hA
 refine seq_end ?_
 refine hK1 _ _ ?_
 refine wp_seq_k (fun K4 hK4 => ?_)
 refine wp_region_lit ?_
 refine seq_do hA rfl rfl rfl (does_move rfl) ?_
 intro a hA
 refine seq_do (v := .int .i64 (((c + 32 : Nat) : Int))) hA rfl rfl rfl (does_bin rfl rfl (fun w => (bin_add (i64In (by omega) (by omega)) w).trans (by rw [show (((c : Nat) : Int) + 32 : Int) = ((c + 32 : Nat) : Int) from by omega]))) ?_
 intro a hA
 refine seq_do (v := .int .i64 (((c + 32 - 1 : Nat) : Int))) hA rfl rfl rfl (does_bin rfl rfl (fun w => (bin_sub (i64In (by omega) (by omega)) w).trans (by rw [show (((c + 32 : Nat) : Int) - 1 : Int) = ((c + 32 - 1 : Nat) : Int) from by omega]))) ?_
 intro a hA
 refine seq_do (v := .int .i64 ((((c + 32 - 1) / 32 : Nat) : Int))) hA rfl rfl rfl (does_bin rfl rfl (bin_quo (by omega))) ?_
 intro a hA
 refine seq_make (m := (c + 32 - 1) / 32) hA hS rfl rfl rfl (does_make Tryd.underlying23 (by kernel_rfl) rfl rfl (by omega)) (by omega) ?_
 intro g5 w6 hS a hA
 refine seq_do hA rfl rfl rfl (does_assign rfl) ?_
 intro a hA
 refine seq_end ?_
 refine hK4 _ _ ?_
 refine wp_seq_k (fun K7 hK7 => ?_)
 refine wp_seq_k (fun K8 hK8 => ?_)
 refine wp_region_lit ?_
 refine seq_do hA rfl rfl rfl (does_move rfl) ?_
 intro a hA
 refine seq_do (v := .int .i64 ((((c + 32 - 1) / 32 : Nat) : Int))) hA rfl rfl rfl (does_len Tryd.underlying23 rfl) ?_
 intro a hA
 refine seq_do hA rfl rfl rfl (does_move rfl) ?_
 intro a hA
 refine seq_end ?_
 refine hK8 _ _ ?_
 refine wp_block ?_
 refine wp_loop_n (fun m a w1 => ∃ (i : Nat) (l : List Nat), m = (c + 32 - 1) / 32 - i ∧ (i ≤ (c + 32 - 1) / 32 ∧ l.length = (c + 32 - 1) / 32 ∧ ∀ j, j < i → l.getD j 0 = rwd b y j) ∧ Sl a 42 [(0, .agg #[.bool b, .slice ro ((words y).length) rc]), (1, .int .i64 (((c : Nat) : Int))), (2, .pointer (some ⟨g2, 0, none⟩)), (4, .slice none 0 0), (5, .slice (some ⟨g5, 0, none⟩) ((c + 32 - 1) / 32) ((c + 32 - 1) / 32)), (8, .int .i64 (((c : Nat) : Int))), (9, .int .i64 (((c + 32 : Nat) : Int))), (10, .int .i64 (((c + 32 - 1 : Nat) : Int))), (11, .int .i64 ((((c + 32 - 1) / 32 : Nat) : Int))), (12, .slice (some ⟨g5, 0, none⟩) ((c + 32 - 1) / 32) ((c + 32 - 1) / 32)), (13, .slice (some ⟨g5, 0, none⟩) ((c + 32 - 1) / 32) ((c + 32 - 1) / 32)), (14, .int .i64 ((((c + 32 - 1) / 32 : Nat) : Int))), (15, .int .i64 (((i : Nat) : Int)))] ∧ St w w1 [(g2, [.bool b, .slice ro ((words y).length) rc])] [] [(some ⟨g5, 0, none⟩, (c + 32 - 1) / 32, l)]) _ ⟨0, List.replicate ((c + 32 - 1) / 32) 0, rfl, ⟨Nat.zero_le _, by simp, fun j hj => by omega⟩, hA.keep _ ⟨rfl, rfl, rfl, rfl, rfl, rfl, rfl, rfl, rfl, rfl, rfl, rfl, rfl, trivial⟩, hS⟩ ?_
 clear hS hA
 rintro m a w9 ⟨i, l, rfl, hinv11, hA, hS⟩ K10 hK10
 obtain ⟨hle9, hinv9, hinv8⟩ := hinv11
 have hdig9 := (hS.row 0 rfl).dig
 refine wp_seq_k (fun K12 hK12 => ?_)
 refine wp_region_lit ?_
 rcases Bool.eq_false_or_eq_true (decide (((i : Nat) : Int) < (((c + 32 - 1) / 32 : Nat) : Int))) with hb13 | hb13
 · have hb13' := of_decide_eq_true hb13
   refine seq_do (v := .bool true) hA rfl rfl rfl (does_bin rfl rfl (fun w => (bin_lss w).trans (by rw [hb13]))) ?_
   intro a hA
   refine seq_end ?_
   refine hK12 _ _ ?_
   refine wp_seq_k (fun K14 hK14 => ?_)
   refine wp_cond_true (hA.ev rfl) ?_
   refine wp_skip ?_
   refine hK14 _ _ ?_
   refine wp_seq_k (fun K15 hK15 => ?_)
   refine wp_block ?_
   refine wp_seq_k (fun K16 hK16 => ?_)
   refine wp_region_lit ?_
   refine seq_do hA rfl rfl rfl (does_move rfl) ?_
   intro a hA
   refine seq_do hA rfl rfl rfl (does_assign rfl) ?_
   intro a hA
   refine seq_end ?_
   refine hK16 _ _ ?_
   refine wp_region_lit ?_
   refine seq_do hA rfl rfl rfl (does_move rfl) ?_
   intro a hA
   refine seq_do hA rfl rfl rfl (does_move rfl) ?_
   intro a hA
   refine seq_do hA rfl rfl rfl (does_loadS hS BiP_isS_99 rfl 0 rfl (cs := [.bool b, .slice ro ((words y).length) rc]) rfl rfl) ?_
   intro a hA
   refine seq_do hA rfl rfl rfl (does_move rfl) ?_
   intro a hA
   refine seq_call hA rfl rfl rfl (enters_func  rfl rfl (fun w => by kernel_rfl)) (rwordAt_any (hr.below hS.bel) (by omega)) ?_
   rintro _ w18 ⟨rfl, hb17⟩
   have hS0 := hS
   replace hS := hS.call hb17
   refine ⟨_, rfl, ?_⟩
   intro a hA
   have hi22 : i < l.length := by first | omega | (simp only [List.length_set]; omega)
   refine seq_do (v := .pointer (some ⟨g5, 0 + i, none⟩)) hA rfl rfl rfl (does_indexRow (k := i) Tryd.underlying23 (by kernel_rfl) rfl rfl (by omega) rfl (by omega)) ?_
   intro a hA
   refine seq_row (us' := l.set i (rwd b y i)) hA hS rfl rfl (sets_row (d := rwd b y i) (by kernel_rfl) rfl rfl hS 0 rfl hi22) 0 rfl (rwd_lt _ _ _) rfl ?_
   intro w23 hS
   refine seq_end ?_
   refine hK15 _ _ ?_
   refine wp_region_lit ?_
   refine seq_do (v := .int .i64 (((i + 1 : Nat) : Int))) hA rfl rfl rfl (does_bin rfl rfl (fun w => (bin_add (i64In (by omega) (by omega)) w).trans (by rw [show (((i : Nat) : Int) + 1 : Int) = ((i + 1 : Nat) : Int) from by omega]))) ?_
   intro a hA
   refine seq_do hA rfl rfl rfl (does_move rfl) ?_
   intro a hA
   refine seq_end ?_
   refine hK10 _ _ _ (by omega) ⟨i + 1, l.set i (rwd b y i), rfl, ⟨by omega, by rw [List.length_set]; exact hinv9, fun j hj => by rw [getD_set _ _ _ _ (by omega)]; split; rename_i h; subst h; rfl; exact hinv8 j (by omega)⟩, hA.keep _ ⟨rfl, rfl, rfl, rfl, rfl, rfl, rfl, rfl, rfl, rfl, rfl, rfl, rfl, trivial⟩, hS⟩
 · have hb13' := of_decide_eq_false hb13
   refine seq_do (v := .bool false) hA rfl rfl rfl (does_bin rfl rfl (fun w => (bin_lss w).trans (by rw [hb13]))) ?_
   intro a hA
   refine seq_end ?_
   refine hK12 _ _ ?_
   refine wp_seq_k (fun K24 hK24 => ?_)
   refine wp_cond_false (hA.ev rfl) ?_
   refine wp_exit ?_
   refine hK7 _ _ ?_
   refine wp_seq_k (fun K25 hK25 => ?_)
   refine wp_seq_k (fun K26 hK26 => ?_)
   refine wp_region_lit ?_
   refine seq_do hA rfl rfl rfl (does_move rfl) ?_
   intro a hA
   refine seq_do (v := .int .i64 (((c % 32 : Nat) : Int))) hA rfl rfl rfl (does_bin rfl rfl (bin_rem (by omega))) ?_
   intro a hA
   refine seq_do hA rfl rfl rfl (does_assign rfl) ?_
   intro a hA
   refine seq_end ?_
   refine hK26 _ _ ?_
   refine wp_seq_k (fun K27 hK27 => ?_)
   refine wp_region_lit ?_
   refine seq_do hA rfl rfl rfl (does_move rfl) ?_
   intro a hA
   rcases Bool.eq_false_or_eq_true (decide (0 < ((c % 32 : Nat) : Int))) with hb28 | hb28
   · have hb28' := of_decide_eq_true hb28
     refine seq_do (v := .bool true) hA rfl rfl rfl (does_bin rfl rfl (fun w => (bin_gtr w).trans (by rw [hb28]))) ?_
     intro a hA
     refine seq_end ?_
     refine hK27 _ _ ?_
     refine wp_cond_true (hA.ev rfl) ?_
     refine wp_draw (S := fun w1 => St w w1 [(g2, [.bool b, .slice ro ((words y).length) rc])] [] []) (by kernel_rfl) ?_
     replace hS := hS.drew
     refine any_tk hA 0 rfl rfl rfl rfl hP (hS.partD (.refl _) 0 rfl (.cons _ .slnil)) (fun w1 hS => does_move rfl) ?_
     intro a hA
     refine any_tk hA 1 rfl rfl rfl rfl hP (hS.partD (.refl _) 0 rfl (.cons _ .slnil)) (fun w1 hS => does_move rfl) ?_
     intro a hA
     refine any_tk (v := .int .i64 ((((c + 32 - 1) / 32 : Nat) : Int))) hA 2 rfl rfl rfl rfl hP (hS.partD (.refl _) 0 rfl (.cons _ .slnil)) (fun w1 hS => does_len Tryd.underlying23 rfl) ?_
     intro a hA
     refine any_tk (v := .int .i64 ((((c + 32 - 1) / 32 - 1 : Nat) : Int))) hA 3 rfl rfl rfl rfl hP (hS.partD (.refl _) 0 rfl (.cons _ .slnil)) (fun w1 hS => does_bin rfl rfl (fun w => (bin_sub (i64In (by omega) (by omega)) w).trans (by rw [show ((((c + 32 - 1) / 32 : Nat) : Int) - 1 : Int) = (((c + 32 - 1) / 32 - 1 : Nat) : Int) from by omega]))) ?_
     intro a hA
     have hi32 : (c + 32 - 1) / 32 - 1 < l.length := by first | omega | (simp only [List.length_set]; omega)
     refine any_tk (v := .pointer (some ⟨g5, 0 + ((c + 32 - 1) / 32 - 1), none⟩)) hA 4 rfl rfl rfl rfl hP (hS.partD (.refl _) 0 rfl (.cons _ .slnil)) (fun w1 hS => does_indexRow (k := (c + 32 - 1) / 32 - 1) Tryd.underlying23 (by kernel_rfl) rfl rfl (by omega) rfl (by omega)) ?_
     intro a hA
     refine any_tk hA 6 rfl rfl rfl rfl hP (hS.partD (.refl _) 0 rfl (.cons _ .slnil)) (fun w1 hS => does_move rfl) ?_
     intro a hA
     refine any_tk (v := .int .u32 (((1 * 2 ^ (c % 32) : Nat) : Int))) hA 7 rfl rfl rfl rfl hP (hS.partD (.refl _) 0 rfl (.cons _ .slnil)) (fun w1 hS => does_bin rfl rfl (bin_shl (x := 1) (by decide) (by omega))) ?_
     intro a hA
     refine any_tk (v := .int .u32 (((2 ^ (c % 32) - 1 : Nat) : Int))) hA 8 rfl rfl rfl rfl hP (hS.partD (.refl _) 0 rfl (.cons _ .slnil)) (fun w1 hS => does_bin rfl rfl (bin_subU (by omega))) ?_
     intro a hA
     refine any_one (by kernel_rfl) (op_do (v := .int .u32 (((l.getD ((c + 32 - 1) / 32 - 1) 0 : Nat) : Int))) hA 5 rfl rfl rfl rfl (does_loadRow (hS.row 0 rfl).rd rfl hi32 BiP_is1_49 rfl) (hS.partD (.refl _) 0 rfl (.cons _ .slnil)) ?_)
     intro a hA
     refine any_tk (v := .int .u32 (((l.getD ((c + 32 - 1) / 32 - 1) 0 &&& (2 ^ (c % 32) - 1) : Nat) : Int))) hA 9 rfl rfl rfl rfl hP (hS.partD (.refl _) 0 rfl (.cons _ .slnil)) (fun w1 hS => does_bin rfl rfl (bin_and (Dig.getD hdig9 _) (mask_lt (by omega)))) ?_
     intro a hA
     have hi36 : (c + 32 - 1) / 32 - 1 < l.length := by first | omega | (simp only [List.length_set]; omega)
     refine any_tk (v := .pointer (some ⟨g5, 0 + ((c + 32 - 1) / 32 - 1), none⟩)) hA 10 rfl rfl rfl rfl hP (hS.partD (.refl _) 0 rfl (.cons _ .slnil)) (fun w1 hS => does_indexRow (k := (c + 32 - 1) / 32 - 1) Tryd.underlying23 (by kernel_rfl) rfl rfl (by omega) rfl (by omega)) ?_
     intro a hA
     refine any_one (by kernel_rfl) (op_row (us' := l.set ((c + 32 - 1) / 32 - 1) (l.getD ((c + 32 - 1) / 32 - 1) 0 &&& (2 ^ (c % 32) - 1))) hA hS 11 rfl rfl rfl (sets_row (d := l.getD ((c + 32 - 1) / 32 - 1) 0 &&& (2 ^ (c % 32) - 1)) (by kernel_rfl) rfl rfl hS 0 rfl hi36) 0 rfl (Nat.lt_of_le_of_lt Nat.and_le_left (Dig.getD (hS.row 0 rfl).dig _)) rfl ?_)
     intro w37 hS
     refine ⟨(hS.partD (.refl _) 0 rfl (.cons _ .slnil)), ?_⟩
     refine any_end (by kernel_rfl) ?_
     refine hK25 _ _ ?_
     refine wp_seq_k (fun K38 hK38 => ?_)
     refine wp_region_lit ?_
     refine seq_do hA rfl rfl rfl (does_move rfl) ?_
     intro a hA
     refine seq_call hA rfl rfl rfl (enters_func  rfl rfl (fun w => by kernel_rfl)) (btrimN_any (hS.row 0 rfl) (by first | exact hinv9 | (rw [List.length_set]; exact hinv9)) (by omega)) ?_
     rintro _ w41 ⟨rfl, ho39, hw40⟩
     have hw9 := below_eq hw40
     have ho9 := ho39.below hw9
     have hS0 := hS
     replace hS := hS.call hw9
     replace hS : St w w41 [(g2, [.bool b, .slice ro ((words y).length) rc])] [] [(some ⟨g5, 0, none⟩, (c + 32 - 1) / 32, words (val (l.set ((c + 32 - 1) / 32 - 1) (l.getD ((c + 32 - 1) / 32 - 1) 0 &&& (2 ^ (c % 32) - 1)))))] := hS.retake 0 rfl ho9
     refine ⟨_, rfl, ?_⟩
     intro a hA
     refine seq_do hA rfl rfl rfl (does_assign rfl) ?_
     intro a hA
     refine seq_end ?_
     refine hK38 _ _ ?_
     refine wp_ret ?_
     refine hret _ _ ?_
     refine ends (v := .slice (some ⟨g5, 0, none⟩) ((words (val (l.set ((c + 32 - 1) / 32 - 1) (l.getD ((c + 32 - 1) / 32 - 1) 0 &&& (2 ^ (c % 32) - 1))))).length) ((c + 32 - 1) / 32)) hA rfl (.cons (res_tmp rfl) .nil) rfl ?_
     have hi9 : i = (c + 32 - 1) / 32 := by omega
     subst hi9
     have el : l = rowL b y ((c + 32 - 1) / 32) := list_of_getD (by rw [rowL_len]; exact hinv9) (fun j hj => by rw [rowL_get (by omega)]; exact hinv8 j (by omega))
     subst el
     obtain ⟨n9, hn9⟩ : ∃ n9, (c + 32 - 1) / 32 = n9 + 1 := ⟨(c + 32 - 1) / 32 - 1, by omega⟩
     have ev := low_mask (b := b) (y := y) hn9 (by omega)
     have e9 : (c + 32 - 1) / 32 - 1 = n9 := by omega
     rw [← hn9, ← e9] at ev
     rw [← ev]
     exact ⟨_, _, rfl, hS.row 0 rfl, hS.bel⟩
   · have hb28' := of_decide_eq_false hb28
     refine seq_do (v := .bool false) hA rfl rfl rfl (does_bin rfl rfl (fun w => (bin_gtr w).trans (by rw [hb28]))) ?_
     intro a hA
     refine seq_end ?_
     refine hK27 _ _ ?_
     refine wp_cond_false (hA.ev rfl) ?_
     refine wp_skip ?_
     refine hK25 _ _ ?_
     refine wp_seq_k (fun K42 hK42 => ?_)
     refine wp_region_lit ?_
     refine seq_do hA rfl rfl rfl (does_move rfl) ?_
     intro a hA
     refine seq_call hA rfl rfl rfl (enters_func  rfl rfl (fun w => by kernel_rfl)) (btrimN_any (hS.row 0 rfl) (by first | exact hinv9 | (rw [List.length_set]; exact hinv9)) (by omega)) ?_
     rintro _ w45 ⟨rfl, ho43, hw44⟩
     have hw9 := below_eq hw44
     have ho9 := ho43.below hw9
     have hS0 := hS
     replace hS := hS.call hw9
     replace hS : St w w45 [(g2, [.bool b, .slice ro ((words y).length) rc])] [] [(some ⟨g5, 0, none⟩, (c + 32 - 1) / 32, words (val (l)))] := hS.retake 0 rfl ho9
     refine ⟨_, rfl, ?_⟩
     intro a hA
     refine seq_do hA rfl rfl rfl (does_assign rfl) ?_
     intro a hA
     refine seq_end ?_
     refine hK42 _ _ ?_
     refine wp_ret ?_
     refine hret _ _ ?_
     refine ends (v := .slice (some ⟨g5, 0, none⟩) ((words (val (l))).length) ((c + 32 - 1) / 32)) hA rfl (.cons (res_tmp rfl) .nil) rfl ?_
     have hi9 : i = (c + 32 - 1) / 32 := by omega
     subst hi9
     have el : l = rowL b y ((c + 32 - 1) / 32) := list_of_getD (by rw [rowL_len]; exact hinv9) (fun j hj => by rw [rowL_get (by omega)]; exact hinv8 j (by omega))
     subst el
     rw [← low_all (b := b) (y := y) (c := c) (by omega)]
     exact ⟨_, _, rfl, hS.row 0 rfl, hS.bel⟩
theorem fieldPW_any {w : World} {b : Bool} {x : Nat} {a1 a2 a3 a4 : Option Addr} {ac1 ac2 ac3 ac4 : Nat} (ha : Nm w (Q6.whole b x) a1 ac1 a2 ac2 a3 ac3 a4 ac4) (hl : LenQ (Q6.whole b x)) {S E : Nat} (h1 : S ≤ E) (h2 : E ≤ 16384) (hw : want1 (Q6.whole b x) = 0) (hx : (words x).length ≤ 512) (hb : b.toNat ≤ x) : Calls Tryd.prog 72 #[numV (Q6.whole b x) a1 ac1 a2 ac2 a3 ac3 a4 ac4, .int .i64 ((S : Nat) : Int), .int .i64 ((E : Nat) : Int)] w (AnsN w (fieldQ (Q6.whole b x) (S : Int) (E : Int))) := by
 have hS : St w w [] [(a4, [1]), (a3, []), (a2, [1]), (a1, words x)] [] := ((((St.start w).addR ha.s1.rd).addR ha.s2.rd).addR ha.s3.rd).addR ha.s4.rd
 refine walk_of (l := [(0, .agg #[.bool b, .slice a1 ((words x).length) ac1, .slice a2 1 ac2, .bool false, .slice a3 0 ac3, .slice a4 1 ac4]), (1, .int .i64 (((S : Nat) : Int))), (2, .int .i64 (((E : Nat) : Int)))]) Tryd.func72 rfl Tryd.ntmps72 rfl rfl ?_
 intro Q hret hnorm hP a hA
 refine wp_seq_k (fun K1 hK1 => ?_)
 refine wp_region_lit ?_
 refine seq_new hA hS rfl rfl rfl (fun g => .pointer (some ⟨g, 0, none⟩)) (does_box rfl rfl) rfl ?_
 intro g2 w3 hS a hA
 refine seq_new (vs := [.bool false, .slice none 0 0, .slice none 0 0, .bool false, .slice none 0 0, .slice none 0 0]) (t := 27) hA hS rfl rfl rfl (fun g => .pointer (some ⟨g, 0, none⟩)) (does_alloc (z := .agg #[.bool false, .slice none 0 0, .slice none 0 0, .bool false, .slice none 0 0, .slice none 0 0]) (by kernel_rfl) rfl) rfl ?_
 intro g4 w5 hS a hA
 refine seq_do hA rfl rfl rfl (does_assign rfl) ?_
 intro a hA
 refine seq_end ?_
 refine hK1 _ _ ?_
 refine wp_seq_k (fun K6 hK6 => ?_)
 refine wp_seq_k (fun K7 hK7 => ?_)
 refine wp_region_lit ?_
 refine seq_do hA rfl rfl rfl (does_loadS hS BiP_isS_27 rfl 1 rfl (cs := [.bool b, .slice a1 ((words x).length) ac1, .slice a2 1 ac2, .bool false, .slice a3 0 ac3, .slice a4 1 ac4]) rfl rfl) ?_
 intro a hA
 refine seq_new (vs := [.bool b, .slice a1 ((words x).length) ac1, .slice a2 1 ac2, .bool false, .slice a3 0 ac3, .slice a4 1 ac4]) (t := 27) hA hS rfl rfl rfl (fun g => .slice (some ⟨g, 0, none⟩) 1 1) (does_buildSlice rfl (by kernel_rfl)) rfl ?_
 intro g8 w9 hS a hA
 refine seq_call hA rfl rfl rfl (enters_func  rfl rfl (fun w => by kernel_rfl)) (want1_any (show Nm _ (Q6.whole b x) a1 ac1 a2 ac2 a3 ac3 a4 ac4 from ⟨⟨(hS.rd 3 rfl), ha.s1.nil, ha.s1.cap⟩, ⟨(hS.rd 2 rfl), ha.s2.nil, ha.s2.cap⟩, ⟨(hS.rd 1 rfl), ha.s3.nil, ha.s3.cap⟩, ⟨(hS.rd 0 rfl), ha.s4.nil, ha.s4.cap⟩⟩) hl (hS.blk 0 rfl) hw) ?_
 rintro _ w11 ⟨rfl, hb10⟩
 replace hS := hS.call hb10
 refine ⟨_, rfl, ?_⟩
 intro a hA
 refine seq_do hA rfl rfl rfl (does_assign rfl) ?_
 intro a hA
 refine seq_end ?_
 refine hK7 _ _ ?_
 refine wp_seq_k (fun K12 hK12 => ?_)
 refine wp_region_lit ?_
 refine seq_do hA rfl rfl rfl (does_move rfl) ?_
 intro a hA
 refine seq_do (v := .bool false) hA rfl rfl rfl (does_bin rfl rfl (fun w => by kernel_rfl)) ?_
 intro a hA
 refine seq_end ?_
 refine hK12 _ _ ?_
 refine wp_cond_false (hA.ev rfl) ?_
 refine wp_skip ?_
 refine hK6 _ _ ?_
 refine wp_seq_k (fun K13 hK13 => ?_)
 refine wp_seq_k (fun K14 hK14 => ?_)
 refine wp_region_lit ?_
 refine seq_do hA rfl rfl rfl (does_move rfl) ?_
 intro a hA
 refine seq_do (v := .bool false) hA rfl rfl rfl (does_bin rfl rfl (fun w => (bin_lss w).trans (by rw [show (decide (((S : Nat) : Int) < 0)) = false from (decide_eq_false (by omega))]))) ?_
 intro a hA
 refine seq_do hA rfl rfl rfl (does_move rfl) ?_
 intro a hA
 refine seq_do hA rfl rfl rfl (does_move rfl) ?_
 intro a hA
 refine seq_do hA rfl rfl rfl (does_move rfl) ?_
 intro a hA
 refine seq_do (v := .bool false) hA rfl rfl rfl (does_bin rfl rfl (fun w => (bin_lss w).trans (by rw [show (decide (((E : Nat) : Int) < ((S : Nat) : Int))) = false from (decide_eq_false (by omega))]))) ?_
 intro a hA
 refine seq_do (v := .bool false) hA rfl rfl rfl (does_pick rfl rfl rfl rfl) ?_
 intro a hA
 refine seq_do hA rfl rfl rfl (does_move rfl) ?_
 intro a hA
 refine seq_do hA rfl rfl rfl (does_move rfl) ?_
 intro a hA
 refine seq_do (v := .bool false) hA rfl rfl rfl (does_bin rfl rfl (fun w => (bin_gtr w).trans (by rw [show (decide (16384 < ((E : Nat) : Int))) = false from (decide_eq_false (by omega))]))) ?_
 intro a hA
 refine seq_do (v := .bool false) hA rfl rfl rfl (does_pick rfl rfl rfl rfl) ?_
 intro a hA
 refine seq_end ?_
 refine hK14 _ _ ?_
 refine wp_cond_false (hA.ev rfl) ?_
 refine wp_skip ?_
 refine hK13 _ _ ?_
 refine wp_seq_k (fun K15 hK15 => ?_)
 refine wp_region_lit ?_
 refine seq_do hA rfl rfl rfl (does_loadS hS BiP_isS_27 rfl 2 rfl (cs := [.bool b, .slice a1 ((words x).length) ac1, .slice a2 1 ac2, .bool false, .slice a3 0 ac3, .slice a4 1 ac4]) rfl rfl) ?_
 intro a hA
 refine seq_call hA rfl rfl rfl (enters_func  rfl rfl (fun w => by kernel_rfl)) (rowOf_any (show Nm _ (Q6.whole b x) a1 ac1 a2 ac2 a3 ac3 a4 ac4 from ⟨⟨(hS.rd 3 rfl), ha.s1.nil, ha.s1.cap⟩, ⟨(hS.rd 2 rfl), ha.s2.nil, ha.s2.cap⟩, ⟨(hS.rd 1 rfl), ha.s3.nil, ha.s3.cap⟩, ⟨(hS.rd 0 rfl), ha.s4.nil, ha.s4.cap⟩⟩) hx hb) ?_
 rintro _ w20 ⟨ro16, rc17, rfl, hs18, hb19⟩
 replace hS := hS.call hb19
 replace hS := hS.addR hs18.rd
 refine ⟨_, rfl, ?_⟩
 intro a hA
 refine seq_do hA rfl rfl rfl (does_move rfl) ?_
 intro a hA
 refine seq_call hA rfl rfl rfl (enters_func  rfl rfl (fun w => by kernel_rfl)) ((show Calls Tryd.prog 98 #[.agg #[.bool b, .slice ro16 (words (x - b.toNat)).length rc17], .int .i64 ((S : Nat) : Int)] _ _ from down_any (n := ((S : Nat) : Int)) ⟨(hS.rd 0 rfl), hs18.nil, hs18.cap⟩ (sub_len hx) (by omega) (by omega))) ?_
 rintro _ w25 ⟨ro21, rc22, rfl, hs23, hb24⟩
 replace hS := hS.call hb24
 replace hS := hS.addR hs23.rd
 refine ⟨_, rfl, ?_⟩
 intro a hA
 refine seq_do hA rfl rfl rfl (does_move rfl) ?_
 intro a hA
 refine seq_do hA rfl rfl rfl (does_move rfl) ?_
 intro a hA
 refine seq_do (v := .int .i64 (((E - S : Nat) : Int))) hA rfl rfl rfl (does_bin rfl rfl (fun w => (bin_sub (i64In (by omega) (by omega)) w).trans (by rw [show (((E : Nat) : Int) - ((S : Nat) : Int) : Int) = ((E - S : Nat) : Int) from by omega]))) ?_
 intro a hA
 refine seq_call hA rfl rfl rfl (enters_func  rfl rfl (fun w => by kernel_rfl)) (lowest_row_any (c := E - S) (hS.rd 0 rfl) (Nat.le_trans (div_len (sub_len hx)) (by decide)) (by omega)) ?_
 rintro _ w30 ⟨ro26, rc27, rfl, ho28, hb29⟩
 replace hS := hS.call hb29
 replace hS := hS.addR ho28.rd
 refine ⟨_, rfl, ?_⟩
 intro a hA
 refine seq_call hA rfl rfl rfl (enters_func  rfl rfl (fun w => by kernel_rfl)) (wholeV_any false ⟨(hS.rd 0 rfl), ho28.nocap, ho28.caps⟩) ?_
 rintro _ w34 ⟨p31_1, p31_c1, p31_2, p31_c2, p31_3, p31_c3, p31_4, p31_c4, rfl, hn32, hb33⟩
 replace hS := hS.call hb33
 replace hS := hS.addR hn32.s1.rd
 replace hS := hS.addR hn32.s2.rd
 replace hS := hS.addR hn32.s3.rd
 replace hS := hS.addR hn32.s4.rd
 refine ⟨_, rfl, ?_⟩
 intro a hA
 refine seq_store (us := [.bool false, .slice p31_1 ((words (fld b ((x - b.toNat) / 2 ^ S) 0 (E - S))).length) p31_c1, .slice p31_2 1 p31_c2, .bool false, .slice p31_3 0 p31_c3, .slice p31_4 1 p31_c4]) hA hS rfl rfl (sets_store rfl rfl rfl (by kernel_rfl) hS 1 rfl rfl rfl) 1 rfl rfl rfl rfl ?_
 intro w35 hS
 refine seq_do hA rfl rfl rfl (does_assign rfl) ?_
 intro a hA
 refine seq_end ?_
 refine hK15 _ _ ?_
 refine wp_ret ?_
 refine hret _ _ ?_
 refine ends (v := .tuple #[.agg #[.bool false, .slice p31_1 ((words (fld b ((x - b.toNat) / 2 ^ S) 0 (E - S))).length) p31_c1, .slice p31_2 1 p31_c2, .bool false, .slice p31_3 0 p31_c3, .slice p31_4 1 p31_c4], .int .i64 0]) hA rfl (.cons (res_cell hS BiP_isS_27 rfl 1 rfl (cs := [.bool false, .slice p31_1 ((words (fld b ((x - b.toNat) / 2 ^ S) 0 (E - S))).length) p31_c1, .slice p31_2 1 p31_c2, .bool false, .slice p31_3 0 p31_c3, .slice p31_4 1 p31_c4]) rfl rfl) (.cons (res_tmp rfl) .nil)) rfl ?_
 rw [fieldQ_ok hw h1 h2, ← fld_down]
 exact ⟨p31_1, p31_c1, p31_2, p31_c2, p31_3, p31_c3, p31_4, p31_c4, rfl, ⟨⟨(hS.rd 3 rfl), hn32.s1.nil, hn32.s1.cap⟩, ⟨(hS.rd 2 rfl), hn32.s2.nil, hn32.s2.cap⟩, ⟨(hS.rd 1 rfl), hn32.s3.nil, hn32.s3.cap⟩, ⟨(hS.rd 0 rfl), hn32.s4.nil, hn32.s4.cap⟩⟩, hS.bel⟩
end Go.Proofs.YtbajcflbimmnhaaDoor
namespace Go.Proofs.YtbajcflbimmnhaaDoor
open Go.RowKit
set_option linter.unusedVariables false
set_option linter.unusedSimpArgs false
theorem and_or_add : ∀ (n x y : Nat), x < 2 ^ n → y < 2 ^ n → (x &&& y) + (x ||| y) = x + y ∧ (x ^^^ y) + (x &&& y) = x ||| y
  | 0, x, y, hx, hy => by
    obtain rfl : x = 0 := by simpa using hx
    obtain rfl : y = 0 := by simpa using hy
    exact ⟨rfl, rfl⟩
  | n + 1, x, y, hx, hy => by
    obtain ⟨h1, h2⟩ := and_or_add n (x / 2) (y / 2) (by rw [Nat.pow_succ] at hx; omega) (by rw [Nat.pow_succ] at hy; omega)
    rw [← Nat.and_div_two, ← Nat.or_div_two] at h1 h2
    rw [← Nat.xor_div_two] at h2
    have a1 : (x &&& y) % 2 = (x % 2) &&& (y % 2) := Nat.and_mod_two_pow (n := 1)
    have a2 : (x ||| y) % 2 = (x % 2) ||| (y % 2) := Nat.or_mod_two_pow (n := 1)
    have a3 : (x ^^^ y) % 2 = (x % 2) ^^^ (y % 2) := Nat.xor_mod_two_pow (n := 1)
    rcases Nat.mod_two_eq_zero_or_one x with e1 | e1 <;> rcases Nat.mod_two_eq_zero_or_one y with e2 | e2 <;>
      · rw [e1, e2] at a1 a2 a3
        simp only [Nat.zero_and, Nat.and_self, Nat.or_self, Nat.zero_or, Nat.or_zero, Nat.and_zero, Nat.xor_self, Nat.zero_xor, Nat.xor_zero] at a1 a2 a3
        omega
/-- The whole number of a row without end. -/
def zrow (b : Bool) (y : Nat) : Int := if b = true then -((y : Int) + 1) else (y : Int)
theorem rowL_succ (b : Bool) (y n : Nat) : rowL b y (n + 1) = rowL b y n ++ [rwd b y n] := by simp [rowL, List.range_succ]
theorem xor_ones {x : Nat} (h : x < 4294967296) : x ^^^ 4294967295 = 4294967295 - x := by
  have k := and_or_add 32 x 4294967295 h (by decide)
  have e : x &&& 4294967295 = x := by
    rw [show (4294967295 : Nat) = 2 ^ 32 - 1 from rfl, Nat.and_two_pow_sub_one_eq_mod]
    exact Nat.mod_eq_of_lt h
  omega
theorem pw_succ' (n : Nat) : pw (n + 1) = pw n * 4294967296 := by rw [pw_succ, Nat.mul_comm]
theorem lt_pw_of_len {y n : Nat} (h : (words y).length ≤ n) : y < pw n := (Nat.div_eq_zero_iff_lt (pw_pos n)).1 (div_words_length y n h)
theorem rowL_val (b : Bool) (y : Nat) : ∀ n, (val (rowL b y n) : Int) = (if b = true then (pw n : Int) - 1 - ((y % pw n : Nat) : Int) else ((y % pw n : Nat) : Int))
  | 0 => by cases b <;> simp [rowL, pw, Nat.mod_one, val_nil]
  | n + 1 => by
    have ih := rowL_val b y n
    have hs : y % pw (n + 1) = y % pw n + pw n * (y / pw n % 4294967296) := by rw [pw_succ', Nat.mod_mul]
    rw [rowL_succ, val_snoc, rowL_len]
    have hp := pw_succ' n
    have hl : y / pw n % 4294967296 < 4294967296 := Nat.mod_lt _ (by decide)
    unfold rwd
    cases b with
    | false =>
      simp only [Bool.toNat_false, Nat.zero_mul, Nat.xor_zero] at *
      simp only [Bool.false_eq_true, if_false] at ih ⊢
      rw [hs]
      generalize pw n * (y / pw n % 4294967296) = A at *
      omega
    | true =>
      simp only [Bool.toNat_true, Nat.one_mul] at *
      rw [xor_ones hl]
      simp only [if_true] at ih ⊢
      rw [hs, hp]
      have e : pw n * (4294967295 - y / pw n % 4294967296) + pw n * (y / pw n % 4294967296) = pw n * 4294967295 := by rw [← Nat.mul_add]; congr 1; omega
      generalize pw n * (y / pw n % 4294967296) = A at *
      generalize pw n * (4294967295 - y / pw n % 4294967296) = C at *
      omega
theorem zrow_val {b : Bool} {y n : Nat} (h : (words y).length ≤ n) : zrow b y = (val (rowL b y n) : Int) - ((b.toNat * pw n : Nat) : Int) := by
  have hy : y < pw n := lt_pw_of_len h
  rw [rowL_val, Nat.mod_eq_of_lt hy]
  unfold zrow
  cases b with
  | false => simp
  | true => simp; omega
section
variable {fop : Nat → Nat → Nat} {fb : Bool → Bool → Bool} {b1 b2 : Bool} {y1 y2 : Nat}
end
section
variable {fop : Nat → Nat → Nat} {fb : Bool → Bool → Bool}
end
end Go.Proofs.YtbajcflbimmnhaaDoor
namespace Go.Proofs.YtbajcflbimmnhaaDoor
open Go.RowKit
set_option linter.unusedVariables false
set_option linter.unusedSimpArgs false
theorem zrow_mod (b : Bool) (y k : Nat) : zrow b y % ((2 ^ k : Nat) : Int) = ((fld b y 0 k : Nat) : Int) := by
  have hn : (words y).length ≤ (words y).length + k := by omega
  have e := zrow_val (b := b) hn
  have f := rowL_mod (b := b) (y := y) (n := (words y).length + k) (c := k) (by omega)
  have hp : pw ((words y).length + k) = 2 ^ k * 2 ^ (32 * ((words y).length + k) - k) := by rw [pw_two, ← Nat.pow_add]; congr 1; omega
  rw [e, hp, ← f, Nat.mul_left_comm, Int.natCast_mul (2 ^ k), Int.sub_mul_emod_self_left, Int.natCast_emod]
end Go.Proofs.YtbajcflbimmnhaaDoor
namespace Go.Proofs.YtbajcflbimmnhaaDoor
open Go.ChangeShapes Go.WideShapes Go.ChangeAt Go.RowKit Go.Joins Go.Deep
set_option linter.unusedVariables false
set_option linter.unusedSimpArgs false
set_option maxRecDepth 100000

section
variable {H : Type} {enc : TypeId × Value → H} {W : World}
theorem trod_bool {fuel : Nat} {v : Value} {x : DataW H × List MemPlace} (h : DataW.trod enc Tryd.prog W 0 (fun _ => true) true fuel 4 [v] = some x) : ∃ b, v = .bool b := by
  obtain ⟨b, h, _⟩ := DataW.trod_bool Tryd.underlying4 h
  exact ⟨b, by simpa using h⟩
theorem trod_words {fuel : Nat} {v : Value} {x : DataW H × List MemPlace} (h : DataW.trod enc Tryd.prog W 0 (fun _ => true) true fuel 23 [v] = some x) : ∃ ao c l, v = .slice ao l.length c ∧ Arg W ao c l := by
  rcases open_ints Tryd.underlying23 Tryd.underlying49 (by kernel_rfl) h with ⟨hcs, _⟩ | ⟨x, l, c, zs, hcs, _, hl, hm, hz, hx, hcell, hwz⟩
  · cases hcs
    exact ⟨none, 0, [], rfl, arg_nil W⟩
  · cases hcs
    obtain ⟨us, e, ha⟩ := arg_row hl hm (by simpa using hz) hcell hwz
    subst e
    exact ⟨_, _, us, rfl, ha⟩
theorem trod_rat {fuel : Nat} {v0 v1 v2 : Value} {x : DataW H × List MemPlace} (h : DataW.trod enc Tryd.prog W 0 (fun _ => true) true fuel 25 [v0, v1, v2] = some x) : ∃ b o1 c1 l1 o2 c2 l2, v0 = .bool b ∧ v1 = .slice o1 l1.length c1 ∧ v2 = .slice o2 l2.length c2 ∧ Arg W o1 c1 l1 ∧ Arg W o2 c2 l2 := by
  obtain ⟨y0, y1, y2, n, _, _, h0, h1, h2⟩ := trod_struct3 Tryd.underlying25 h
  have e0 : Tryd.prog.cellsOf 4 = 1 := by kernel_rfl
  have e1 : Tryd.prog.cellsOf 23 = 1 := by kernel_rfl
  simp only [e0, e1, List.drop_zero, List.take_succ_cons, List.take_zero, List.drop_succ_cons] at h0 h1 h2
  obtain ⟨b, rfl⟩ := trod_bool h0
  obtain ⟨o1, c1, l1, rfl, a1⟩ := trod_words h1
  obtain ⟨o2, c2, l2, rfl, a2⟩ := trod_words h2
  exact ⟨b, o1, c1, l1, o2, c2, l2, rfl, rfl, rfl, a1, a2⟩
theorem open_num {base : Nat} {v : Value} {d : DataW H} {p : List MemPlace} (hv : Value.okWide Tryd.prog W .any base 27 v) (h : DataW.Trod enc Tryd.prog W 0 (fun _ => true) true 27 v d p) :
    ∃ q o1 c1 o2 c2 o3 c3 o4 c4, v = numV q o1 c1 o2 c2 o3 c3 o4 c4 ∧ Nm W q o1 c1 o2 c2 o3 c3 o4 c4 ∧ LenQ q := by
  obtain ⟨cs, rfl, hsz⟩ := okWide_struct Tryd.underlying27 hv
  rw [show Tryd.prog.cellsOf 27 = 6 from by kernel_rfl] at hsz
  obtain ⟨cs⟩ := cs
  match cs, hsz with
  | [v0, v1, v2, v3, v4, v5], _ =>
    obtain ⟨fuel, hf⟩ := h
    obtain ⟨y0, y1, n, _, _, h0, h1⟩ := trod_struct2 Tryd.underlying27 hf
    have e : Tryd.prog.cellsOf 25 = 3 := by kernel_rfl
    simp only [Value.cells, e, List.drop_zero, List.take_succ_cons, List.take_zero, List.drop_succ_cons] at h0 h1
    obtain ⟨b1, o1, c1, l1, o2, c2, l2, rfl, rfl, rfl, a1, a2⟩ := trod_rat h0
    obtain ⟨b2, o3, c3, l3, o4, c4, l4, rfl, rfl, rfl, a3, a4⟩ := trod_rat h1
    exact ⟨⟨b1, l1, l2, b2, l3, l4⟩, o1, c1, o2, c2, o3, c3, o4, c4, rfl, ⟨⟨a1.rd, a1.nil, a1.caps⟩, ⟨a2.rd, a2.nil, a2.caps⟩, ⟨a3.rd, a3.nil, a3.caps⟩, ⟨a4.rd, a4.nil, a4.caps⟩⟩, ⟨a1.len, a2.len, a3.len, a4.len⟩⟩
end
end Go.Proofs.YtbajcflbimmnhaaDoor
