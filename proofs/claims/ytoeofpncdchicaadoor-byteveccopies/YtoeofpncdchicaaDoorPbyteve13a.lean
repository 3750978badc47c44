/- What each operation on whole numbers of the machine answers, for any kind and any numbers: the answer is named, and told by an equation. A walk's state, said by two lists: what the slots hold, and which blocks of its own the call has; and a law for each kind of step. A law for each kind of step of a walk that leaves memory as it is, and for a walk's beginning, its end and its loops. A walk's memory: pieces of the call's own, each apart from the others; what each kind of step does to them. Steps that read or change memory, over its pieces. The units of bytes: as a range over a text takes them, one by one, and in pairs. Bytes one by one, and in pairs: their units. Bytes that were there, texts made of them, and builders. Rows of bytes that grow; what Encode writes. Memory of a part of a call, seen from the call's begin. Rows of bytes that are read, joined and appended whole; memory of two calls, one behind the other. Rows of any elements (characters, structs of some cells): written out, appended, read. Bytes that came in appended to a row of the call's own; steps of a region that draws. Rows of elements of some cells: stored into, cut, made, copied, appended to; texts compared. Bytes copied into rows of the call's own, and parts of rows of bytes. Walks of what bytevec copies. The walk of SameBytes. Walks of what a number is read by: zeros cut off. Walks of bytes the other way round. The walk of a copy of bytes, turned round or not. A walk's state, said by two lists: what the slots hold, and which blocks of its own the call has; and a law for each kind of step. A walk's memory, said by a list of blocks of the call's own and a list of rows of words that are read; what each operation does to it. Walks of small questions: does a fraction fit, is a number real, is it 0. Numbers as values of six cells, and what they stand for. Sound and whole numbers, as questions of six parts. Fractions in lowest terms, and whole numbers of any sign, as values. Walks of the small functions of rows of bits. Are two rows of words the same? Numbers of machine words, and sameness. -/
import Derived.Laws.Entries
import Derived.WalkKit
import Derived.WalkSpells
import Derived.WalkSmall
import Derived.Deep.OwnRows
import Derived.Laws.IdiomCopy
import Derived.ChangeKeysEq
import Derived.LoopN
import Derived.Deep.AppendLies
import Derived.OrdersHeld
import Derived.Deep.RegionHeld3
import Derived.Lib.OthersKept
import Derived.Laws.OwnMore
import Derived.Lib.TrimUEq
import Derived.Lib.RuneBytes
import Derived.Laws.BytesArg
import Derived.Lib.AppendZerosOnto
import Derived.Lib.Bytealg
import Derived.Laws.Strings
import Derived.Test.YtoeofpncdchicaaDoorProg
import Derived.Test.YtoeofpncdchicaaDoorBlk
import Derived.Test.YtoeofpncdchicaaDoorExG
import Derived.Test.YtoeofpncdchicaaDoorNatN
import Derived.Test.YtoeofpncdchicaaDoorNatP
import Derived.Test.YtoeofpncdchicaaDoorNatK
import Derived.Test.YtoeofpncdchicaaDoorShelf
import Derived.Test.YtoeofpncdchicaaDoorBitLen
import Derived.Test.YtoeofpncdchicaaDoorNatY
import Derived.Test.YtoeofpncdchicaaDoorGcdD
namespace Go.Proofs.YtoeofpncdchicaaDoor
open Go.RowKit
set_option linter.unusedVariables false
set_option linter.unusedSimpArgs false
section
variable {P : Program} {t : TypeId} {x y : Operand} {k k' : IntKind} {a b z : Int}
theorem ar_add (h : k.wrap (a + b) = z) : ∀ w, (do eqGuard .add t x y (.int k a) (.int k b); binOp .add t (.int k a) (.int k b) : Sem Value).run P w = .ok (.int k z) w := fun w => by simp [go_sem, h]
theorem ar_sub (h : k.wrap (a - b) = z) : ∀ w, (do eqGuard .sub t x y (.int k a) (.int k b); binOp .sub t (.int k a) (.int k b) : Sem Value).run P w = .ok (.int k z) w := fun w => by simp [go_sem, h]
end
theorem in_i64 {a : Int} (h0 : -9223372036854775808 ≤ a) (h1 : a ≤ 9223372036854775807) : IntKind.i64.wrap a = a := by rw [IntKind.wrap_i64]; omega
end Go.Proofs.YtoeofpncdchicaaDoor
namespace Go.Proofs.YtoeofpncdchicaaDoor.G
open Go.RowKit
set_option linter.unusedVariables false
set_option linter.unusedSimpArgs false

/-! ### Slots -/
def look : List (Nat × Value) → Nat → Option Value
  | [], _ => none
  | (k, v) :: t, n => cond (Nat.beq k n) (some v) (look t n)
/-- What an operand is. -/
def ev (l : List (Nat × Value)) : Operand → Option Value
  | .tmp k => look l k
  | .const v => some v
  | .global g => some (.pointer (some ⟨g, 0, none⟩))
  | .func f => some (.func (.func f) #[] #[])
def evs (l : List (Nat × Value)) : List Operand → Option (List Value)
  | [] => some []
  | x :: xs => match ev l x, evs l xs with | some v, some vs => some (v :: vs) | _, _ => none
def evp (l : List (Nat × Value)) : List (Nat × Operand) → Option (List (Nat × Value))
  | [] => some []
  | (i, x) :: xs => match ev l x, evp l xs with | some v, some vs => some ((i, v) :: vs) | _, _ => none
/-- The frame has n slots, and those that the list names hold what it says; no call waits for the end. -/
structure Sl (a : Act) (n : Nat) (l : List (Nat × Value)) : Prop where
  size : a.tmps.size = n
  holds : ∀ k v, look l k = some v → a.tmps[k]? = some v
  none_ : a.defers = []
section
variable {a : Act} {n : Nat} {l : List (Nat × Value)}
theorem Sl.ev (h : Sl a n l) {x : Operand} {v : Value} (hx : ev l x = some v) : a.eval x = v := by
  cases x with
  | tmp k =>
    have := h.holds k v hx
    simp [Act.eval, Array.getD_eq_getD_getElem?, this]
  | const u => simpa [YtoeofpncdchicaaDoor.G.ev, Act.eval] using hx
  | global g => simpa [YtoeofpncdchicaaDoor.G.ev, Act.eval] using hx
  | func f => simpa [YtoeofpncdchicaaDoor.G.ev, Act.eval] using hx
theorem Sl.evs (h : Sl a n l) : ∀ {xs : List Operand} {vs : List Value}, evs l xs = some vs → xs.map a.eval = vs := by
  intro xs
  induction xs with
  | nil => intro vs hx; simp [YtoeofpncdchicaaDoor.G.evs] at hx; simp [hx]
  | cons x xs ih =>
    intro vs hx
    unfold YtoeofpncdchicaaDoor.G.evs at hx
    split at hx
    · rename_i v us h1 h2
      cases hx
      simp [h.ev h1, ih h2]
    · cases hx
theorem Sl.evp (h : Sl a n l) : ∀ {xs : List (Nat × Operand)} {vs : List (Nat × Value)}, evp l xs = some vs → xs.map (fun p => (p.1, a.eval p.2)) = vs := by
  intro xs
  induction xs with
  | nil => intro vs hx; simp [YtoeofpncdchicaaDoor.G.evp] at hx; simp [hx]
  | cons x xs ih =>
    intro vs hx
    obtain ⟨i, x⟩ := x
    unfold YtoeofpncdchicaaDoor.G.evp at hx
    split at hx
    · rename_i v us h1 h2
      cases hx
      simp [h.ev h1, ih h2]
    · cases hx
theorem Sl.put (h : Sl a n l) {d : Nat} (hd : Nat.blt d n = true) (v : Value) : Sl (a.put (some d) v) n ((d, v) :: l) := by
  refine ⟨by simp [Act.put, h.size], fun k u hk => ?_, by simp [Act.put, h.none_]⟩
  have hd' : d < a.tmps.size := by rw [h.size]; exact Nat.le_of_ble_eq_true hd
  unfold look at hk
  cases hb : Nat.beq d k with
  | true =>
    rw [hb] at hk
    have : d = k := Nat.eq_of_beq_eq_true hb
    subst this
    simp only [cond_true, Option.some.injEq] at hk
    subst hk
    simp [Act.put, Array.getElem?_setIfInBounds, hd']
  | false =>
    rw [hb] at hk
    have hne : d ≠ k := fun e => by rw [e, Nat.beq_refl] at hb; cases hb
    simp only [cond_false] at hk
    simp [Act.put, Array.getElem?_setIfInBounds, hne, h.holds k u hk]
theorem Sl.enter {args : List Value} {m : Nat} (hl : args.length ≤ m) : Sl { tmps := args.toArray ++ Array.replicate (m - args.toArray.size) undef, defers := [] } m (args.zipIdx.map fun p => (p.2, p.1)) := by
  refine ⟨by simp; omega, fun k v hk => ?_, rfl⟩
  have key : ∀ (xs : List Value) (o : Nat), look ((xs.zipIdx o).map fun p => (p.2, p.1)) k = some v → o ≤ k ∧ xs[k - o]? = some v := by
    intro xs
    induction xs with
    | nil => intro o h; simp [look] at h
    | cons x xs ih =>
      intro o h
      simp only [List.zipIdx_cons, List.map_cons, look] at h
      cases hb : Nat.beq o k with
      | true =>
        rw [hb] at h
        have : o = k := Nat.eq_of_beq_eq_true hb
        subst this
        simp only [cond_true, Option.some.injEq] at h
        simp [h]
      | false =>
        rw [hb] at h
        have hne : o ≠ k := fun e => by rw [e, Nat.beq_refl] at hb; cases hb
        simp only [cond_false] at h
        obtain ⟨h1, h2⟩ := ih _ h
        refine ⟨by omega, ?_⟩
        have : k - o = (k - (o + 1)) + 1 := by omega
        rw [this, List.getElem?_cons_succ]
        exact h2
  have h := (key args 0 hk).2
  simp only [Nat.sub_zero] at h
  have hlt : k < args.length := (List.getElem?_eq_some_iff.1 h).1
  rw [Array.getElem?_append_left (by simpa using hlt)]
  simpa using h
def AllIn (l : List (Nat × Value)) : List (Nat × Value) → Prop
  | [] => True
  | p :: t => look l p.1 = some p.2 ∧ AllIn l t
theorem Sl.keep (h : Sl a n l) (l' : List (Nat × Value)) (hs : AllIn l l') : Sl a n l' := by
  refine ⟨h.size, ?_, h.none_⟩
  induction l' with
  | nil => intro k v hk; simp [look] at hk
  | cons p t ih =>
    intro k v hk
    obtain ⟨d, u⟩ := p
    unfold look at hk
    cases hb : Nat.beq d k with
    | true =>
      rw [hb] at hk
      have : d = k := Nat.eq_of_beq_eq_true hb
      subst this
      simp only [cond_true, Option.some.injEq] at hk
      subst hk
      exact h.holds _ _ hs.1
    | false =>
      rw [hb] at hk
      exact ih hs.2 k v hk
theorem Sl.cut (h : Sl a n l) (l' : List (Nat × Value)) (hl : ∀ k v, look l' k = some v → look l k = some v) : Sl a n l' := ⟨h.size, fun k v hk => h.holds k v (hl k v hk), h.none_⟩
end

/-! ### What an operation does -/
/-- With these slots, in this world, the operation yields v and leaves w'. -/
def Does (P : Program) (l : List (Nat × Value)) (o : Oper) (w : World) (v : Value) (w' : World) : Prop :=
  ∀ ρ : Operand → Value, (∀ x u, ev l x = some u → ρ x = u) → (execOp ρ o).run P w = .ok (.value v) w'
/-- .. yields nothing (a store). -/
def Sets (P : Program) (l : List (Nat × Value)) (o : Oper) (w : World) (w' : World) : Prop :=
  ∀ ρ : Operand → Value, (∀ x u, ev l x = some u → ρ x = u) → (execOp ρ o).run P w = .ok .skip w'
/-- .. calls a function. -/
def Enters (P : Program) (l : List (Nat × Value)) (o : Oper) (w : World) (f : FuncId) (vs : List Value) : Prop :=
  ∀ ρ : Operand → Value, (∀ x u, ev l x = some u → ρ x = u) → (execOp ρ o).run P w = .ok (.enter f vs.toArray) w
/-- Its guard, if it has one, says yes. -/
def passes (l : List (Nat × Value)) (ops : List Oper) (o : Oper) : Bool :=
  match o.guard with
  | none => true
  | some (j, b) => match ops[j]? with
    | some oj => match oj.dst with
      | some d => match look l d with
        | some (.bool b') => b' == b
        | _ => false
      | none => false
    | none => false
/-- Its guard says no. -/
def stays (l : List (Nat × Value)) (ops : List Oper) (o : Oper) : Bool :=
  match o.guard with
  | none => false
  | some (j, b) => match ops[j]? with
    | some oj => match oj.dst with
      | some d => match look l d with
        | some (.bool b') => b' != b
        | _ => false
      | none => false
    | none => false
section
variable {P : Program} {ops : List Oper} {Q : Exit → Act → World → Prop} {a : Act} {w w' : World} {n : Nat} {l : List (Nat × Value)} {o : Oper} {v : Value} {rest : List Oper}
theorem Sl.wanted (h : Sl a n l) (hp : passes l ops o = true) : Region.wanted o (yielded ops.toArray a.tmps) = true := by
  unfold Region.wanted
  unfold passes at hp
  split at hp
  · rename_i hg; rw [hg]
  · rename_i j b hg
    rw [hg]
    split at hp
    · rename_i oj hj
      split at hp
      · rename_i d hd
        split at hp
        · rename_i b' hb
          have := h.holds d _ hb
          simp only [beq_iff_eq] at hp
          simp [yielded, hj, hd, this, hp]
        · cases hp
      · cases hp
    · cases hp
theorem Sl.unwanted (h : Sl a n l) (hp : stays l ops o = true) : Region.wanted o (yielded ops.toArray a.tmps) = false := by
  unfold Region.wanted
  unfold stays at hp
  split at hp
  · cases hp
  · rename_i j b hg
    rw [hg]
    split at hp
    · rename_i oj hj
      split at hp
      · rename_i d hd
        split at hp
        · rename_i b' hb
          have := h.holds d _ hb
          simp only [bne_iff_ne, ne_eq] at hp
          simp [yielded, hj, hd, this, hp]
        · cases hp
      · cases hp
    · cases hp
/-- One step of a region that goes in its text's order. -/
theorem seq_do (hA : Sl a n l) (hg : passes l ops o = true) {d : Nat} (hdst : o.dst = some d) (hd : Nat.blt d n = true) (he : Does P l o w v w')
    (hk : ∀ a', Sl a' n ((d, v) :: l) → wpList P ops.toArray Q rest a' w') : wpList P ops.toArray Q (o :: rest) a w := by
  unfold wpList
  rw [if_pos (hA.wanted hg)]
  refine .inl ?_
  unfold Oper.wp
  rw [he a.eval (fun x u hx => hA.ev hx), Oper.upon_value, hdst]
  exact hk _ (hA.put hd v)
theorem seq_set (hA : Sl a n l) (hg : passes l ops o = true) (hdst : o.dst = none) (he : Sets P l o w w')
    (hk : wpList P ops.toArray Q rest a w') : wpList P ops.toArray Q (o :: rest) a w := by
  unfold wpList
  rw [if_pos (hA.wanted hg)]
  refine .inl ?_
  unfold Oper.wp
  rw [he a.eval (fun x u hx => hA.ev hx), Oper.upon_skip, hdst]
  exact hk
theorem seq_skip (hA : Sl a n l) (hg : stays l ops o = true) {d : Nat} (hdst : o.dst = some d) (hd : Nat.blt d n = true)
    (hk : ∀ a', Sl a' n ((d, undef) :: l) → wpList P ops.toArray Q rest a' w) : wpList P ops.toArray Q (o :: rest) a w := by
  unfold wpList
  rw [hA.unwanted hg, if_neg (by simp), hdst]
  exact hk _ (hA.put hd undef)
theorem seq_call (hA : Sl a n l) (hg : passes l ops o = true) {d : Nat} (hdst : o.dst = some d) (hd : Nat.blt d n = true) {f : FuncId} {vs : List Value} (he : Enters P l o w f vs)
    {R : Ending → World → Prop} (hc : Calls P f vs.toArray w R)
    (hk : ∀ e w', R e w' → ∃ v, e = .returned v ∧ ∀ a', Sl a' n ((d, v) :: l) → wpList P ops.toArray Q rest a' w') : wpList P ops.toArray Q (o :: rest) a w := by
  unfold wpList
  rw [if_pos (hA.wanted hg)]
  refine .inl ?_
  unfold Oper.wp
  rw [he a.eval (fun x u hx => hA.ev hx), Oper.upon_enter]
  refine hc.mono ?_
  intro e w' hR
  obtain ⟨v, rfl, h⟩ := hk e w' hR
  simp only [hdst]
  exact h _ (hA.put hd v)
theorem seq_end (hk : Q .normal a w) : wpList P ops.toArray Q [] a w := hk
/-! .. and of a region that draws its order: S is what every world on the way meets. -/
variable {S : World → Prop} {md : Region.Mode} {fuel : Nat} {listed : Array Bool}
theorem any_take (hA : Sl a n l) (i : Nat) (hi : ops[i]? = some o) (hg : passes l ops o = true) {d : Nat} (hdst : o.dst = some d) (hd : Nat.blt d n = true) (hs : Region.noSelect ops.toArray = true) (hf : Region.free md ops.toArray listed i = true)
    (hr : (Region.ready md ops.toArray listed).contains i = true) (hQ : ∀ c a w, Q (.panic c) (a.put o.dst v) w → Q (.panic c) a w) (hS : S w) (he : ∀ w, S w → Does P l o w v w)
    (hk : ∀ a', Sl a' n ((d, v) :: l) → wpAnyH P md ops.toArray Q S fuel (listed.setIfInBounds i true) a' w) : wpAnyH P md ops.toArray Q S (fuel + 1) listed a w := by
  refine wpAnyH_take (i := i) (oi := o) (v := v) (by simpa using hi) hs hf hr hQ (Or.inl ⟨hA.wanted hg, fun w hw => he w hw a.eval (fun x u hx => hA.ev hx)⟩) hS ?_
  rw [hdst]
  exact hk _ (hA.put hd v)
theorem any_tk (hA : Sl a n l) (i : Nat) (hi : ops[i]? = some o) (hg : passes l ops o = true) {d : Nat} (hdst : o.dst = some d) (hd : Nat.blt d n = true) (hP : ∀ c a d v w, Q (.panic c) (Act.put a d v) w → Q (.panic c) a w) (hS : S w) (he : ∀ w, S w → Does P l o w v w)
    (hk : ∀ a', Sl a' n ((d, v) :: l) → wpAnyH P md ops.toArray Q S fuel (listed.setIfInBounds i true) a' w) (hs : Region.noSelect ops.toArray = true := by kernel_rfl) (hf : Region.free md ops.toArray listed i = true := by kernel_rfl) (hr : (Region.ready md ops.toArray listed).contains i = true := by kernel_rfl) : wpAnyH P md ops.toArray Q S (fuel + 1) listed a w :=
  any_take hA i hi hg hdst hd hs hf hr (fun c a w h => hP c a _ _ w h) hS he hk
/-- One operation of it. -/
theorem op_do (hA : Sl a n l) (i : Nat) (hi : ops[i]? = some o) (hg : passes l ops o = true) {d : Nat} (hdst : o.dst = some d) (hd : Nat.blt d n = true) (he : Does P l o w v w') (hS : S w')
    (hk : ∀ a', Sl a' n ((d, v) :: l) → wpAnyH P md ops.toArray Q S fuel (listed.setIfInBounds i true) a' w') : wpOp P ops.toArray Q i (fun a' w' => S w' ∧ wpAnyH P md ops.toArray Q S fuel (listed.setIfInBounds i true) a' w') a w := by
  unfold wpOp
  simp only [List.getElem?_toArray, hi]
  rw [if_pos (hA.wanted hg)]
  refine .inl ?_
  unfold Oper.wp
  rw [he a.eval (fun x u hx => hA.ev hx), Oper.upon_value, hdst]
  exact ⟨hS, hk _ (hA.put hd v)⟩
theorem op_set (hA : Sl a n l) (i : Nat) (hi : ops[i]? = some o) (hg : passes l ops o = true) (hdst : o.dst = none) (he : Sets P l o w w') (hS : S w')
    (hk : wpAnyH P md ops.toArray Q S fuel (listed.setIfInBounds i true) a w') : wpOp P ops.toArray Q i (fun a' w' => S w' ∧ wpAnyH P md ops.toArray Q S fuel (listed.setIfInBounds i true) a' w') a w := by
  unfold wpOp
  simp only [List.getElem?_toArray, hi]
  rw [if_pos (hA.wanted hg)]
  refine .inl ?_
  unfold Oper.wp
  rw [he a.eval (fun x u hx => hA.ev hx), Oper.upon_skip, hdst]
  exact ⟨hS, hk⟩
theorem op_call (hA : Sl a n l) (i : Nat) (hi : ops[i]? = some o) (hg : passes l ops o = true) {d : Nat} (hdst : o.dst = some d) (hd : Nat.blt d n = true)
    {f : FuncId} {vs : List Value} (he : Enters P l o w f vs) {R : Ending → World → Prop} (hc : Calls P f vs.toArray w R)
    (hk : ∀ e w', R e w' → ∃ v, e = .returned v ∧ S w' ∧ ∀ a', Sl a' n ((d, v) :: l) → wpAnyH P md ops.toArray Q S fuel (listed.setIfInBounds i true) a' w') : wpOp P ops.toArray Q i (fun a' w' => S w' ∧ wpAnyH P md ops.toArray Q S fuel (listed.setIfInBounds i true) a' w') a w := by
  unfold wpOp
  simp only [List.getElem?_toArray, hi]
  rw [if_pos (hA.wanted hg)]
  refine .inl ?_
  unfold Oper.wp
  rw [he a.eval (fun x u hx => hA.ev hx), Oper.upon_enter]
  refine hc.mono ?_
  intro e w' hR
  obtain ⟨v, rfl, h1, h2⟩ := hk e w' hR
  simp only [hdst]
  exact ⟨h1, h2 _ (hA.put hd v)⟩
/-- Nothing else may come up. -/
theorem any_one {i : Nat} (hr : Region.ready md ops.toArray listed = [i]) (h : wpOp P ops.toArray Q i (fun a' w' => S w' ∧ wpAnyH P md ops.toArray Q S fuel (listed.setIfInBounds i true) a' w') a w) : wpAnyH P md ops.toArray Q S (fuel + 1) listed a w :=
  wpAnyH_all hr (by simp) (fun j hj => by rw [List.mem_singleton] at hj; subst hj; exact h)
def AllOps (W : Nat → Prop) : List Nat → Prop
  | [] => True
  | i :: t => W i ∧ AllOps W t
theorem AllOps.get {W : Nat → Prop} : ∀ {rs : List Nat}, AllOps W rs → ∀ i ∈ rs, W i
  | _ :: _, h, i, hi => by
    rcases List.mem_cons.1 hi with rfl | hi
    · exact h.1
    · exact AllOps.get h.2 i hi
/-- Whichever comes up. -/
theorem any_many {rs : List Nat} (hr : Region.ready md ops.toArray listed = rs) (hne : rs ≠ []) (h : AllOps (fun i => wpOp P ops.toArray Q i (fun a' w' => S w' ∧ wpAnyH P md ops.toArray Q S fuel (listed.setIfInBounds i true) a' w') a w) rs) : wpAnyH P md ops.toArray Q S (fuel + 1) listed a w :=
  wpAnyH_all hr hne (fun i hi => h.get i hi)
theorem any_end (hr : Region.ready md ops.toArray listed = []) (hk : Q .normal a w) : wpAnyH P md ops.toArray Q S fuel listed a w := wpAnyH_done hr hk fuel
end
end Go.Proofs.YtoeofpncdchicaaDoor.G
namespace Go.Proofs.YtoeofpncdchicaaDoor.G
open Go.RowKit
set_option linter.unusedVariables false
set_option linter.unusedSimpArgs false

def over : List Value → Nat → List Value → List Value
  | vs, _, [] => vs
  | vs, o, c :: cs => over (vs.set o c) (o + 1) cs
section
variable {P : Program} {w w' : World}
structure IsS (P : Program) (t : TypeId) (n : Nat) : Prop where
  und : ∃ fs, P.underlying t = some (.struct fs)
  size : (P.info? t).map (·.size) = some n
theorem info_size {P : Program} {t : TypeId} {n : Nat} (h : (P.info? t).map (·.size) = some n) : ∃ i, P.info? t = some i ∧ i.size = n := by
  cases hi : P.info? t with
  | none => rw [hi] at h; cases h
  | some i => rw [hi] at h; exact ⟨i, rfl, by simpa using h⟩
structure Is1 (P : Program) (t : TypeId) : Prop where
  und : ∃ d, P.underlying t = some d ∧ (match d with | .struct _ | .array _ _ => false | _ => true) = true
  size : (P.info? t).map (·.size) = some 1
def FieldAt (P : Program) (s : TypeId) (f off : Nat) : Prop := ∃ fs fld, P.underlying s = some (.struct fs) ∧ fs[f]? = some fld ∧ fld.offset = off ∧ (P.info? fld.type).map (fun i => Nat.beq i.size 0) = some false
theorem addr_add (g o j : Nat) : (⟨g, o, none⟩ : Addr).add j = ⟨g, o + j, none⟩ := by unfold Addr.add; split <;> simp_all
theorem run_loadS {t : TypeId} {n : Nat} (ht : IsS P t n) {g o : Nat} (cs : List Value) (hl : cs.length = n) (hc : ∀ j v, cs[j]? = some v → w.cell? ⟨g, o + j, none⟩ = some v) : (loadVar t ⟨g, o, none⟩).run P w = .ok (.agg cs.toArray) w := by
  obtain ⟨fs, hu⟩ := ht.und
  obtain ⟨i, hi, hn⟩ := info_size ht.size
  have h1 : (isAgg t).run P w = .ok true w := by simp [isAgg, run_underlying hu]
  have h2 : (sizeOf t).run P w = .ok cs.length w := by simp [sizeOf, typeInfo, hi, hn, hl]
  have h3 := run_loadCells_list (P := P) w ⟨g, o, none⟩ cs (fun j v hj => by rw [addr_add]; exact hc j v hj)
  simp only [loadVar, Sem.run_bind, h1, Result.andThen_ok, if_true, h2, h3, Sem.run_pure]
theorem run_load1 {t : TypeId} (ht : Is1 P t) {a : Addr} {v : Value} (hc : w.cell? a = some v) : (loadVar t a).run P w = .ok v w := by
  obtain ⟨d, hu, hd⟩ := ht.und
  have h1 : (isAgg t).run P w = .ok false w := by
    cases d <;> first | (simp at hd; done) | simp [isAgg, run_underlying hu]
  simp only [loadVar, Sem.run_bind, h1, Result.andThen_ok, if_false, Bool.false_eq_true]
  simp [hc]
variable {l : List (Nat × Value)} {dst : Option Tmp} {ty : TypeId} {pos : String} {after : Array Edge} {guard : Option (Nat × Bool)} {v : Value}
theorem does_move {x : Operand} (hx : ev l x = some v) : Does P l ⟨dst, .move x, ty, pos, after, guard⟩ w v w := fun ρ h => by
  simp only [execOp, h x v hx]; rfl
theorem does_assign {x : Operand} (hx : ev l x = some v) : Does P l ⟨dst, .assign x, ty, pos, after, guard⟩ w v w := fun ρ h => by
  simp only [execOp, h x v hx]; rfl
theorem does_pick {c x y : Operand} {b : Bool} {u u' : Value} (hc : ev l c = some (.bool b)) (hx : ev l x = some u) (hy : ev l y = some u') (hv : v = cond b u u') : Does P l ⟨dst, .pick c x y, ty, pos, after, guard⟩ w v w := fun ρ h => by
  subst hv
  simp only [execOp, h c _ hc, h x _ hx, h y _ hy]
  cases b <;> rfl
theorem does_extract {x : Operand} {vs : List Value} {i : Nat} (hx : ev l x = some (.tuple vs.toArray)) (hi : vs[i]? = some v) : Does P l ⟨dst, .extract x i, ty, pos, after, guard⟩ w v w := fun ρ h => by
  simp only [execOp, h x _ hx, Instr.extract, List.getElem?_toArray, hi]; rfl
theorem does_load {t : TypeId} {x : Operand} {a : Addr} (hx : ev l x = some (.pointer (some a))) (hr : (loadVar t a).run P w = .ok v w) : Does P l ⟨dst, .load t x, ty, pos, after, guard⟩ w v w := fun ρ h => by
  simp only [execOp, h x _ hx, Instr.loadAt, Instr.sureAddr, Sem.run_bind, Sem.run_pure, Result.andThen_ok, hr]
theorem does_field {s : TypeId} {x : Operand} {f g o off o' : Nat} (hf : FieldAt P s f off) (hx : ev l x = some (.pointer (some ⟨g, o, none⟩))) (ho : o + off = o') : Does P l ⟨dst, .fieldAddr s x f, ty, pos, after, guard⟩ w (.pointer (some ⟨g, o', none⟩)) w := fun ρ h => by
  obtain ⟨fs, fld, hu, hff, hoff, hm⟩ := hf
  obtain ⟨i, hi, hz⟩ : ∃ i, P.info? fld.type = some i ∧ i.size ≠ 0 := by
    cases hi : P.info? fld.type with
    | none => rw [hi] at hm; cases hm
    | some i =>
      rw [hi] at hm
      refine ⟨i, rfl, fun e => ?_⟩
      simp [e] at hm
  subst ho
  have h2 : (sizeOf fld.type).run P w = .ok i.size w := by simp [sizeOf, typeInfo, hi]
  simp only [execOp, h x _ hx, Instr.fieldAt, Sem.run_bind, run_underlying hu, Result.andThen_ok, hff, Instr.sureAddr, Sem.run_pure, fieldPlace, h2, if_neg hz, addr_add, hoff]
theorem does_box {t : TypeId} {x : Operand} {u : Value} (hx : ev l x = some u) {vs : List Value} (hc : u.cells = vs.toArray) : Does P l ⟨dst, .box t x, ty, pos, after, guard⟩ w (.pointer (some ⟨w.heap.size, 0, none⟩)) (w.alloc (.cells vs.toArray t)) := fun ρ h => by
  simp only [execOp, h x _ hx, ← hc]; rfl
theorem does_alloc {t : TypeId} {z : Value} (hz : (P.info? t).map (·.zero) = some (some z)) {vs : List Value} (hc : z.cells = vs.toArray) : Does P l ⟨dst, .alloc t, ty, pos, after, guard⟩ w (.pointer (some ⟨w.heap.size, 0, none⟩)) (w.alloc (.cells vs.toArray t)) := fun ρ h => by
  cases hi : P.info? t with
  | none => rw [hi] at hz; cases hz
  | some i =>
    rw [hi] at hz
    simp only [Option.map_some, Option.some.injEq] at hz
    have h1 : (zeroValue t).run P w = .ok z w := by simp [zeroValue, typeInfo, hi, hz]
    simp only [execOp, Instr.alloc, Sem.run_bind, h1, Result.andThen_ok, ← hc]
    rfl
theorem does_build {t : TypeId} {parts : List (Nat × Operand)} {pv : List (Nat × Value)} (hp : evp l parts = some pv) (hb : ∀ w, (Instr.build t pv.toArray).run P w = .ok v w) : Does P l ⟨dst, .build t parts.toArray, ty, pos, after, guard⟩ w v w := fun ρ h => by
  have e : parts.toArray.map (fun p => (p.1, ρ p.2)) = pv.toArray := by
    simp only [List.map_toArray]
    congr 1
    have : ∀ (xs : List (Nat × Operand)) (vs : List (Nat × Value)), evp l xs = some vs → xs.map (fun p => (p.1, ρ p.2)) = vs := by
      intro xs
      induction xs with
      | nil => intro vs hx; simp [evp] at hx; simp [hx]
      | cons x xs ih =>
        intro vs hx
        obtain ⟨i, x⟩ := x
        unfold evp at hx
        split at hx
        · rename_i v us h1 h2
          cases hx
          simp [h _ _ h1, ih _ h2]
        · cases hx
    exact this parts pv hp
  have e' : (parts.toArray.map fun (i, x) => (i, ρ x)) = pv.toArray := e
  simp only [execOp, e', Sem.run_bind, hb w, Result.andThen_ok, Sem.run_pure]
theorem does_buildSlice {t : TypeId} {n : Nat} {parts : List (Nat × Operand)} {pv : List (Nat × Value)} (hp : evp l parts = some pv) {w' : World} (hb : (Instr.buildSlice t n pv.toArray).run P w = .ok v w') : Does P l ⟨dst, .buildSlice t n parts.toArray, ty, pos, after, guard⟩ w v w' := fun ρ h => by
  have e : parts.toArray.map (fun p => (p.1, ρ p.2)) = pv.toArray := by
    simp only [List.map_toArray]
    congr 1
    have : ∀ (xs : List (Nat × Operand)) (vs : List (Nat × Value)), evp l xs = some vs → xs.map (fun p => (p.1, ρ p.2)) = vs := by
      intro xs
      induction xs with
      | nil => intro vs hx; simp [evp] at hx; simp [hx]
      | cons x xs ih =>
        intro vs hx
        obtain ⟨i, x⟩ := x
        unfold evp at hx
        split at hx
        · rename_i v us h1 h2
          cases hx
          simp [h _ _ h1, ih _ h2]
        · cases hx
    exact this parts pv hp
  have e' : (parts.toArray.map fun (i, x) => (i, ρ x)) = pv.toArray := e
  simp only [execOp, e', Sem.run_bind, hb, Result.andThen_ok, Sem.run_pure]
theorem does_len {x : Operand} {t e : TypeId} {so : Option Addr} {n c : Nat} (hu : P.underlying t = some (.slice e)) (hx : ev l x = some (.slice so n c)) : Does P l ⟨dst, .call ⟨.builtin .len, #[x], #[t]⟩, ty, pos, after, guard⟩ w (.int .i64 n) w := fun ρ h => by
  have := h x _ hx
  simp [go_sem, this, Builtin.len_, run_underlying hu, goInt]
theorem does_bin {b : BinOp} {t t' : TypeId} {x y : Operand} {u u' : Value} (hx : ev l x = some u) (hy : ev l y = some u') (hr : ∀ w, (do eqGuard b t x y u u'; binOp b t u u' : Sem Value).run P w = .ok v w) : Does P l ⟨dst, .binOp b t x y t', ty, pos, after, guard⟩ w v w := fun ρ h => by
  simp only [execOp, h x _ hx, h y _ hy]
  rw [Sem.run_bind, hr w]
  rfl
theorem does_un {b : UnOp} {t : TypeId} {x : Operand} {u : Value} (hx : ev l x = some u) (hr : ∀ w, (Op.unary b u).run P w = .ok v w) : Does P l ⟨dst, .unOp b t x, ty, pos, after, guard⟩ w v w := fun ρ h => by
  simp only [execOp, h x _ hx, Sem.run_bind, hr w, Result.andThen_ok, Sem.run_pure]
theorem enters_func {x : Operand} {f : FuncId} {args : List Operand} {ts : Array TypeId} {vs : List Value} (hx : ev l x = some (.func (.func f) #[] #[])) (ha : evs l args = some vs) (hf : ∀ w, (invoke (.fn (.func f) #[]) vs.toArray).run P w = .ok (.enter f vs.toArray) w) :
    Enters P l ⟨dst, .call ⟨.value x, args.toArray, ts⟩, ty, pos, after, guard⟩ w f vs := fun ρ h => by
  have e : args.map ρ = vs := by
    have : ∀ (xs : List Operand) (vs : List Value), evs l xs = some vs → xs.map ρ = vs := by
      intro xs
      induction xs with
      | nil => intro vs hx; simp [evs] at hx; simp [hx]
      | cons x xs ih =>
        intro vs hx
        unfold evs at hx
        split at hx
        · rename_i v us h1 h2
          cases hx
          simp [h _ _ h1, ih _ h2]
        · cases hx
    exact this args vs ha
  have := hf w
  simp [execOp, resolve, h x _ hx, Deferred.ofValue, e, this]
end
/-! ### The end -/
section
variable {P : Program} {w w' : World} {l : List (Nat × Value)} {v : Value}
def resOf (P : Program) (l : List (Nat × Value)) (w : World) : ResultVar → Value → Prop
  | .tmp t, v => look l t = some v
  | .cell c t, v => ∃ p, look l c = some (.pointer (some p)) ∧ (loadVar t p).run P w = .ok v w
def AllRes (P : Program) (l : List (Nat × Value)) (w : World) : List ResultVar → List Value → Prop
  | [], [] => True
  | r :: rs, v :: vs => resOf P l w r v ∧ AllRes P l w rs vs
  | _, _ => False
theorem AllRes.nil : AllRes P l w [] [] := trivial
theorem AllRes.cons {r : ResultVar} {v : Value} {rs : List ResultVar} {vs : List Value} (h : resOf P l w r v) (t : AllRes P l w rs vs) : AllRes P l w (r :: rs) (v :: vs) := ⟨h, t⟩
variable {a : Act} {n : Nat} {fn : Func} {Z : Ending → World → Prop}
theorem res_tmp {t : Tmp} (h : look l t = some v) : resOf P l w (.tmp t) v := h
def resSem (tmps : Array Value) : ResultVar → Sem Value
  | .tmp t => pure (tmps.getD t undef)
  | .cell c t => do loadVar t (← asAddr (tmps.getD c undef))
def packed : List Value → Value
  | [x] => x
  | xs => .tuple xs.toArray
theorem Sl.res (hA : Sl a n l) {r : ResultVar} (h : resOf P l w r v) : (resSem a.tmps r).run P w = .ok v w := by
  cases r with
  | tmp t =>
    have := hA.holds t v h
    simp [resSem, Array.getD_eq_getD_getElem?, this]
  | cell c t =>
    obtain ⟨p, hp, hr⟩ := h
    have := hA.holds c _ hp
    simp [resSem, Array.getD_eq_getD_getElem?, this, asAddr, hr]
theorem results_list (hA : Sl a n l) : ∀ (rs : List ResultVar) (vs : List Value), AllRes P l w rs vs → Sem.run P (rs.mapM (resSem a.tmps)) w = .ok vs w
  | [], [], _ => by simp
  | [], _ :: _, h => h.elim
  | _ :: _, [], h => h.elim
  | r :: rs, v :: vs, h => by
    have e1 := hA.res h.1
    have e2 := results_list hA rs vs h.2
    simp only [List.mapM_cons, Sem.run_bind, e1, Result.andThen_ok, e2, Sem.run_pure]
theorem ends (hA : Sl a n l) {rs : List ResultVar} (hrs : fn.results = rs.toArray) {vs : List Value} (hvs : AllRes P l w rs vs) (hv : packed vs = v) (hz : Z (.returned v) w) : bodyPost P fn Z .ret a w := by
  refine ⟨hA.none_, v, ?_, hz⟩
  have e := results_list hA rs vs hvs
  subst hv
  have e' : results fn a.tmps = (do let us ← fn.results.mapM (resSem a.tmps); pure (if h : us.size = 1 then us[0] else .tuple us)) := by
    unfold results
    congr 1
  have e2 : Sem.run P (List.toArray <$> rs.mapM (resSem a.tmps)) w = .ok vs.toArray w := by
    show Sem.run P (rs.mapM (resSem a.tmps) >>= fun us => pure us.toArray) w = _
    rw [Sem.run_bind, e]
    rfl
  rw [e', hrs, List.mapM_toArray, Sem.run_bind, e2, Result.andThen_ok]
  match vs with
  | [] => simp [packed]
  | [x] => simp [packed]
  | x :: y :: r => simp [packed]
theorem walk_of {f : FuncId} {fn : Func} {c : Code} {args : List Value} {n : Nat} {Z : Ending → World → Prop} (hf : P.funcs[f]? = some fn) (hb : fn.body = some c) (hn : fn.ntmps = n) (hl : Nat.ble args.length n = true) (hs : (args.zipIdx.map fun p => (p.2, p.1)) = l)
    (h : ∀ Q : Exit → Act → World → Prop, (∀ a w, bodyPost P fn Z .ret a w → Q .ret a w) → (∀ a w, bodyPost P fn Z .ret a w → Q .normal a w) → (∀ c a d v w, Q (.panic c) (Act.put a d v) w → Q (.panic c) a w) → ∀ a, Sl a n l → c.wp P Q a w) : Calls P f args.toArray w Z := by
  subst hs
  refine calls_of_wp hf hb (h _ (fun _ _ h => h) (fun _ _ h => h) (fun c a d v w h => ?_) _ ?_)
  · cases d <;> exact h
  · rw [hn]
    exact Sl.enter (Nat.le_of_ble_eq_true hl)
end
/-! ### Loops -/
section
variable {P : Program} {w : World} {Q : Exit → Act → World → Prop} {a : Act} {c : Code}
theorem rounds_k {m : Nat} (h : ∀ K : Act → World → Prop, (∀ a w, Code.rounds P c Q m a w → K a w) → c.wp P (Exit.then K Q) a w) : Code.rounds P c Q (m + 1) a w := h _ (fun _ _ h => h)
theorem rounds_mono : ∀ n m, n ≤ m → ∀ a w, Code.rounds P c Q n a w → Code.rounds P c Q m a w
  | 0, _, _, _, _, h => h.elim
  | n + 1, 0, hl, _, _, _ => by omega
  | n + 1, m + 1, hl, a, w, h => Code.wp_mono (fun e a w q => by
      cases e <;> first | exact rounds_mono n m (by omega) _ _ q | exact q) h
theorem wp_loop_n (I : Nat → Act → World → Prop) (N : Nat) (h0 : I N a w) (round : ∀ m a w, I m a w → ∀ K : Act → World → Prop, (∀ m' a' w', m' < m → I m' a' w' → K a' w') → c.wp P (Exit.then K Q) a w) : (Code.loop c).wp P Q a w := by
  have key : ∀ m a w, I m a w → Code.rounds P c Q (m + 1) a w := by
    intro m
    induction m using Nat.strongRecOn with
    | _ m ih =>
      intro a w h
      exact round m a w h _ (fun m' a' w' hm h' => rounds_mono (m' + 1) m (by omega) _ _ (ih m' hm a' w' h'))
  exact wp_loop_rounds (N + 1) (key N a w h0)
end
section
variable {P : Program} {w w' : World} {l : List (Nat × Value)} {dst : Option Tmp} {ty : TypeId} {pos : String} {after : Array Edge} {guard : Option (Nat × Bool)} {v : Value}
theorem does_indexI {t : TypeId} {x i : Operand} {u u' : Value} (hx : ev l x = some u) (hi : ev l i = some u') (hr : ∀ w, (Instr.indexAt t u u').run P w = .ok v w) : Does P l ⟨dst, .indexAddr t x i, ty, pos, after, guard⟩ w v w := fun ρ h => by
  simp only [execOp, h x _ hx, h i _ hi, Sem.run_bind, hr w, Result.andThen_ok, Sem.run_pure]
theorem run_indexU {t e : TypeId} (hu : P.underlying t = some (.slice e)) (he : (P.info? e).map (·.size) = some 1) {g o n c k : Nat} (hk : k < n) : ∀ w, (Instr.indexAt t (.slice (some ⟨g, o, none⟩) n c) (.int .i64 (k : Nat))).run P w = .ok (.pointer (some ⟨g, o + k, none⟩)) w := fun w => by
  obtain ⟨i, hi, hs⟩ := info_size he
  have h2 : (sizeOf e).run P w = .ok 1 w := by simp [sizeOf, typeInfo, hi, hs]
  have h3 : (0 : Int) ≤ (k : Nat) ∧ ((k : Nat) : Int) < (n : Nat) := ⟨by omega, by omega⟩
  simp [Instr.indexAt, asIntOf, run_underlying hu, h2, h3, addr_add]
  intro h
  omega
theorem does_convert {s d : TypeId} {x : Operand} {u : Value} (hx : ev l x = some u) (hr : ∀ w, (convert s d u).run P w = .ok v w) : Does P l ⟨dst, .convert s d x, ty, pos, after, guard⟩ w v w := fun ρ h => by
  simp only [execOp, h x _ hx, Sem.run_bind, hr w, Result.andThen_ok, Sem.run_pure]
theorem does_builtin {b : Builtin} {xs : List Operand} {ts : Array TypeId} {vs : List Value} (hx : evs l xs = some vs) (hr : ∀ w cs, (builtin b ts ty cs vs.toArray).run P w = .ok (.value v) w) : Does P l ⟨dst, .call ⟨.builtin b, xs.toArray, ts⟩, ty, pos, after, guard⟩ w v w := fun ρ h => by
  have e : xs.map ρ = vs := by
    have : ∀ (xs : List Operand) (vs : List Value), evs l xs = some vs → xs.map ρ = vs := by
      intro xs
      induction xs with
      | nil => intro vs hx; simp [evs] at hx; simp [hx]
      | cons x xs ih =>
        intro vs hx
        unfold evs at hx
        split at hx
        · rename_i v us h1 h2
          cases hx
          simp [h _ _ h1, ih _ h2]
        · cases hx
    exact this xs vs hx
  rw [BigFrame.execOp_builtin]
  simp only [List.map_toArray, e, hr]
end
/-! ### Operators -/
section
variable {P : Program} {t : TypeId} {x y : Operand} {k : IntKind} {a b : Int}
theorem bin_lss : ∀ w, (do eqGuard .lss t x y (.int k a) (.int k b); binOp .lss t (.int k a) (.int k b) : Sem Value).run P w = .ok (.bool (decide (a < b))) w := fun w => by simp [go_sem]
theorem bin_leq : ∀ w, (do eqGuard .leq t x y (.int k a) (.int k b); binOp .leq t (.int k a) (.int k b) : Sem Value).run P w = .ok (.bool (decide (a ≤ b))) w := fun w => by simp [go_sem]
theorem bin_gtr : ∀ w, (do eqGuard .gtr t x y (.int k a) (.int k b); binOp .gtr t (.int k a) (.int k b) : Sem Value).run P w = .ok (.bool (decide (b < a))) w := fun w => by simp [go_sem]
theorem bin_geq : ∀ w, (do eqGuard .geq t x y (.int k a) (.int k b); binOp .geq t (.int k a) (.int k b) : Sem Value).run P w = .ok (.bool (decide (b ≤ a))) w := fun w => by simp [go_sem]
theorem bin_eql : ∀ w, (do eqGuard .eql t x y (.int k a) (.int k b); binOp .eql t (.int k a) (.int k b) : Sem Value).run P w = .ok (.bool (a == b)) w := fun w => by simp [go_sem]
theorem bin_neq : ∀ w, (do eqGuard .neq t x y (.int k a) (.int k b); binOp .neq t (.int k a) (.int k b) : Sem Value).run P w = .ok (.bool (a != b)) w := fun w => by simp [go_sem]
theorem bin_eqlB (hu : P.underlying t = some .bool) {c d : Bool} : ∀ w, (do eqGuard .eql t x y (.bool c) (.bool d); binOp .eql t (.bool c) (.bool d) : Sem Value).run P w = .ok (.bool (c == d)) w := fun w => by
  simp [go_sem, hu, run_underlying hu]
theorem un_not {c : Bool} : ∀ w, (Op.unary .not (.bool c)).run P w = .ok (.bool (!c)) w := fun w => by simp [go_sem]
end
section
variable {P : Program} {w : World} {Q : Exit → Act → World → Prop} {a : Act} {ops : List Oper} {S : World → Prop}
theorem wp_draw {id : Nat} (hm : P.follows .mixedOrders = true) (h : wpAnyH P .any ops.toArray Q S ops.length (Array.replicate ops.length false) a w.drew) : (Code.region id ops.toArray true).wp P Q a w :=
  wp_region_held (S := S) hm (by simpa using h)
end
section
variable {P : Program} {ops : List Oper} {Q : Exit → Act → World → Prop} {a : Act} {w w' : World} {n : Nat} {l : List (Nat × Value)} {o : Oper} {v : Value} {rest : List Oper}
end
end Go.Proofs.YtoeofpncdchicaaDoor.G
namespace Go.Proofs.YtoeofpncdchicaaDoor.G
open Go.RowKit
set_option linter.unusedVariables false
set_option linter.unusedSimpArgs false

/-- The types of bytes and of strings.Builder. -/
def BY : TypeId := 5
def BT : TypeId := 0
/-- A piece of memory: a block and what it holds; a row that grows; a builder. -/
inductive Ck where
  | obj (g : Nat) (o : Obj)
  | row (e : TypeId) (sz : Nat) (v : Value) (n : Nat) (xs : List Value)
  | bld (b : Nat) (bs : List Value)
def Ck.holds (B : Nat) (w : World) : Ck → Prop
  | .obj g o => B ≤ g ∧ w.heap[g]? = some o
  | .row e sz v n xs => w.ownsRow B e sz v n xs
  | .bld b bs => Lib.IsBuilderF BT BY B b bs w
/-- No row of bytes. -/
def quiet (o : Obj) : Prop := ∀ c fz, o ≠ .cells c BY fz
theorem quiet_cells {c : Array Value} {t : TypeId} {fz : Nat × Nat} (h : t ≠ BY) : quiet (.cells c t fz) := fun c' fz' e => by cases e; exact h rfl
/-- Two pieces have nothing in common. -/
def Ap : Ck → Ck → Prop
  | .obj g _, .obj g' _ => g ≠ g'
  | .obj g _, .row _ _ v _ _ => v.ownBlock ≠ some g
  | .row _ _ v _ _, .obj g _ => v.ownBlock ≠ some g
  | .row _ _ v _ _, .row _ _ v' _ _ => v.ownBlock = none ∨ v.ownBlock ≠ v'.ownBlock
  | .obj g o, .bld b _ => g ≠ b ∧ quiet o
  | .bld b _, .obj g o => g ≠ b ∧ quiet o
  | .row e _ v _ _, .bld b _ => e ≠ BY ∧ v.ownBlock ≠ some b
  | .bld b _, .row e _ v _ _ => e ≠ BY ∧ v.ownBlock ≠ some b
  | .bld _ _, .bld _ _ => False
theorem Ap.symm {c d : Ck} (h : Ap c d) : Ap d c := by
  cases c with
  | obj g o => cases d with
    | obj g' o' => exact fun e => h e.symm
    | row e sz v n xs => exact h
    | bld b bs => exact h
  | row e sz v n xs => cases d with
    | obj g' o' => exact h
    | row e' sz' v' n' xs' =>
      rcases h with h | h
      · by_cases k : v'.ownBlock = none
        · exact .inl k
        · exact .inr (fun e => k (e.trans h))
      · exact .inr (fun e => h e.symm)
    | bld b bs => exact h
  | bld b bs => cases d <;> exact h
section
variable {B : Nat} {w w' : World}
theorem heap_keep {k : Nat} {o : Obj} (hk : w.heap[k]? = some o) (hb : Below w.heap.size w w') : w'.heap[k]? = some o := (hb.block k (Array.getElem?_eq_some_iff.1 hk).1).trans hk
theorem builderAt_keep {T e : TypeId} {b : Nat} {p : Value} {bs : List Value} (h : Lib.BuilderAtF T e B b p bs w) (hk : ∀ k o, w.heap[k]? = some o → (k = b ∨ ∃ c fz, o = .cells c e fz) → w'.heap[k]? = some o) : Lib.BuilderAtF T e B b p bs w' := by
  obtain ⟨hB, v, hbk, ⟨h1, h2⟩, hne⟩ := h
  refine ⟨hB, v, hk _ _ hbk (.inl rfl), ⟨h1, ?_⟩, hne⟩
  rcases h2 with h2 | ⟨g, cap, cur, fz, a, b', c, d⟩
  · exact .inl h2
  · exact .inr ⟨g, cap, cur, fz, a, b', hk _ _ c (.inr ⟨_, _, rfl⟩), d⟩
theorem builder_keep {T e : TypeId} {b : Nat} {bs : List Value} (h : Lib.IsBuilderF T e B b bs w) (hk : ∀ k o, w.heap[k]? = some o → (k = b ∨ ∃ c fz, o = .cells c e fz) → w'.heap[k]? = some o) : Lib.IsBuilderF T e B b bs w' :=
  h.elim (fun x => .inl (builderAt_keep x hk)) (fun x => .inr (builderAt_keep x hk))
theorem owns_keep {e : TypeId} {size : Nat} {v : Value} {n : Nat} {xs : List Value} (h : w.ownsRow B e size v n xs) (hk : ∀ g cur, v.ownBlock = some g → w.heap[g]? = some (.cells cur e (0, 0)) → w'.heap[g]? = some (.cells cur e (0, 0))) : w'.ownsRow B e size v n xs := by
  obtain ⟨h1, h2⟩ := h
  refine ⟨h1, ?_⟩
  rcases h2 with h2 | ⟨g, cap, cur, a, b, c, d⟩
  · exact .inl h2
  · exact .inr ⟨g, cap, cur, a, b, hk g cur (by rw [a]; rfl) c, d⟩
/-- What only adds to memory keeps every piece. -/
theorem Ck.below {c : Ck} (h : c.holds B w) (hb : Below w.heap.size w w') : c.holds B w' := by
  cases c with
  | obj g o => exact ⟨h.1, heap_keep h.2 hb⟩
  | row e sz v n xs => exact owns_keep h (fun g cur _ hg => heap_keep hg hb)
  | bld b bs => exact builder_keep h (fun k o hk _ => heap_keep hk hb)
def Ck.at_ : Ck → Option Nat
  | .obj g _ => some g
  | .row _ _ v _ _ => v.ownBlock
  | .bld b _ => some b
/-- What changes a block, or a row, keeps what is apart from it. -/
theorem Ck.grown {c d : Ck} (hc : c.holds B w) (hd : d.holds B w) (hnb : ∀ b bs, d ≠ .bld b bs) (hap : Ap d c) (hg : w.grownBy w' d.at_) : c.holds B w' := by
  have lt : ∀ {k : Nat} {o : Obj}, w.heap[k]? = some o → k < w.heap.size := fun h => (Array.getElem?_eq_some_iff.1 h).1
  cases c with
  | obj g o =>
    refine ⟨hc.1, (hg.block g (lt hc.2) ?_).trans hc.2⟩
    cases d with
    | obj g' o' => intro e; exact hap (Option.some.inj e).symm
    | row e sz v n xs => exact fun e => hap e.symm
    | bld b bs => exact absurd rfl (hnb b bs)
  | row e sz v n xs =>
    refine owns_keep hc (fun g cur hv hcur => (hg.block g (lt hcur) ?_).trans hcur)
    cases d with
    | obj g' o' => intro e; exact hap (hv.trans e)
    | row e' sz' v' n' xs' =>
      intro e
      rcases hap with k | k
      · rw [show (Ck.row e' sz' v' n' xs').at_ = v'.ownBlock from rfl, k] at e; cases e
      · exact k (e.symm.trans hv.symm)
    | bld b bs => exact absurd rfl (hnb b bs)
  | bld b bs =>
    refine builder_keep hc (fun k o hk hor => (hg.block k (lt hk) ?_).trans hk)
    cases d with
    | obj g' o' =>
      intro e
      have e' : k = g' := Option.some.inj e
      subst e'
      rcases hor with rfl | ⟨c, fz, rfl⟩
      · exact hap.1 rfl
      · have := hd.2
        rw [hk] at this
        exact hap.2 c fz (Option.some.inj this).symm
    | row e' sz' v' n' xs' =>
      intro e
      rcases hor with rfl | ⟨c, fz, rfl⟩
      · exact hap.2 e.symm
      · rcases hd.2 with ⟨rfl, _⟩ | ⟨g, cap, cur, rfl, _, hgg, _⟩
        · cases e
        · cases e
          rw [hk] at hgg
          cases hgg
          exact hap.1 rfl
    | bld b' bs' => exact absurd rfl (hnb b' bs')
/-- What writes on a builder keeps what is apart from it. -/
theorem Ck.others {c : Ck} {b : Nat} {bs : List Value} (hc : c.holds B w) (hap : Ap (.bld b bs) c) (hk : Lib.OthersKept BY (some b) w w') : c.holds B w' := by
  cases c with
  | obj g o => exact ⟨hc.1, hk g o hc.2 (fun e => hap.1 (Option.some.inj e)) hap.2⟩
  | row e sz v n xs => exact owns_keep hc (fun g cur hv hcur => hk g _ hcur (fun e => hap.2 (hv.trans e)) (quiet_cells hap.1))
  | bld b' bs' => exact hap.elim
theorem Ck.lt {c : Ck} (h : c.holds B w) : ∀ k, c.at_ = some k → B ≤ k ∧ k < w.heap.size := by
  cases c with
  | obj g o => intro k e; cases e; exact ⟨h.1, (Array.getElem?_eq_some_iff.1 h.2).1⟩
  | row e sz v n xs => exact h.lt
  | bld b bs =>
    intro k e
    cases e
    rcases h with ⟨hB, v, hb, _⟩ | ⟨hB, v, hb, _⟩ <;> exact ⟨hB, (Array.getElem?_eq_some_iff.1 hb).1⟩
end
/-- Memory: as it was at w0, but for these pieces of the call's own. -/
structure Mg (w0 w : World) (L : List Ck) : Prop where
  bel : Below w0.heap.size w0 w
  all : ∀ c ∈ L, c.holds w0.heap.size w
  dis : L.Pairwise Ap
def noBld (L : List Ck) : Prop := ∀ c ∈ L, ∀ b bs, c ≠ .bld b bs
section
variable {w0 w w' : World} {L : List Ck}
theorem Mg.start (w : World) : Mg w w [] := ⟨Below.refl _ _, by simp, .nil⟩
theorem Mg.call (h : Mg w0 w L) (hb : Below w.heap.size w w') : Mg w0 w' L := ⟨h.bel.trans (hb.mono h.bel.size), fun c hc => Ck.below (h.all c hc) hb, h.dis⟩
theorem Mg.drew (h : Mg w0 w L) : Mg w0 w.drew L := h.call (Below.refl _ w).drew
theorem Mg.sub (h : Mg w0 w L) {L' : List Ck} (hs : L'.Sublist L) : Mg w0 w L' := ⟨h.bel, fun c hc => h.all c (hs.subset hc), h.dis.sublist hs⟩
theorem Mg.perm (h : Mg w0 w L) {L' : List Ck} (hp : L.Perm L') : Mg w0 w L' := ⟨h.bel, fun c hc => h.all c (hp.mem_iff.2 hc), (hp.pairwise_iff (fun h => Ap.symm h)).1 h.dis⟩
theorem Mg.has (h : Mg w0 w L) (k : Nat) {c : Ck} (hk : L[k]? = some c) : c.holds w0.heap.size w := h.all _ (List.mem_of_getElem? hk)
theorem Mg.obj (h : Mg w0 w L) (k : Nat) {g : Nat} {o : Obj} (hk : L[k]? = some (.obj g o)) : w.heap[g]? = some o := (h.has k hk).2
theorem dis_set {c c' : Ck} {k : Nat} (hd : L.Pairwise Ap) (hk : L[k]? = some c) (hap : ∀ d ∈ L, Ap c d → Ap c' d) : (L.set k c').Pairwise Ap := by
  rw [List.pairwise_iff_getElem] at hd ⊢
  obtain ⟨hk1, hk2⟩ := List.getElem?_eq_some_iff.1 hk
  intro i j hi hj hij
  rw [List.length_set] at hi hj
  rw [List.getElem_set, List.getElem_set]
  by_cases e : k = i
  · subst e
    rw [if_pos rfl, if_neg (by omega)]
    have := hd k j hi hj hij
    rw [hk2] at this
    exact hap _ (List.getElem_mem hj) this
  · rw [if_neg e]
    by_cases e' : k = j
    · subst e'
      rw [if_pos rfl]
      have := hd i k hi hj hij
      rw [hk2] at this
      exact (hap _ (List.getElem_mem hi) this.symm).symm
    · rw [if_neg e']
      exact hd i j hi hj hij
theorem mem_set {c c' d : Ck} {k : Nat} (hd : L.Pairwise Ap) (hk : L[k]? = some c) (h : d ∈ L.set k c') : d = c' ∨ (d ∈ L ∧ Ap c d) := by
  obtain ⟨i, hi⟩ := List.mem_iff_getElem?.1 h
  by_cases e : k = i
  · subst e
    rw [List.getElem?_set_self (List.getElem?_eq_some_iff.1 hk).1] at hi
    exact .inl (Option.some.inj hi).symm
  · rw [List.getElem?_set_ne e] at hi
    refine .inr ⟨List.mem_of_getElem? hi, ?_⟩
    rw [List.pairwise_iff_getElem] at hd
    obtain ⟨hk1, hk2⟩ := List.getElem?_eq_some_iff.1 hk
    obtain ⟨hi1, hi2⟩ := List.getElem?_eq_some_iff.1 hi
    rcases Nat.lt_or_gt_of_ne e with hlt | hlt
    · have := hd k i hk1 hi1 hlt
      rwa [hk2, hi2] at this
    · have := hd i k hi1 hk1 hlt
      rw [hk2, hi2] at this
      exact this.symm
/-- A block, or a row, is changed. -/
theorem Mg.turn (h : Mg w0 w L) (k : Nat) {c c' : Ck} (hk : L[k]? = some c) (hnb : ∀ b bs, c ≠ .bld b bs) (hg : w.grownBy w' c.at_) (hc : c'.holds w0.heap.size w') (hap : ∀ d ∈ L, Ap c d → Ap c' d) : Mg w0 w' (L.set k c') := by
  have hh := h.has k hk
  refine ⟨h.bel.grown hg h.bel.size (fun j hj => (Ck.lt hh j hj).1), fun d hd => ?_, dis_set h.dis hk hap⟩
  rcases mem_set h.dis hk hd with rfl | ⟨hd, ha⟩
  · exact hc
  · exact Ck.grown (h.all d hd) hh hnb ha hg
/-- A new piece. -/
theorem Mg.add (h : Mg w0 w L) (hb : Below w.heap.size w w') {c : Ck} (hc : c.holds w0.heap.size w') (hf : ∀ k, c.at_ = some k → w.heap.size ≤ k) (hq : (∃ g o, c = .obj g o ∧ quiet o) ∨ (∃ e sz v n xs, c = .row e sz v n xs ∧ (e ≠ BY ∨ noBld L)) ∨ (∃ b bs, c = .bld b bs ∧ ∀ d ∈ L, (∃ g o, d = .obj g o ∧ quiet o) ∨ ∃ e sz v n xs, d = .row e sz v n xs ∧ e ≠ BY)) : Mg w0 w' (c :: L) := by
  have h2 := h.call hb
  refine ⟨h2.bel, fun d hd => ?_, List.pairwise_cons.2 ⟨fun d hd => ?_, h2.dis⟩⟩
  · rcases List.mem_cons.1 hd with rfl | hd
    · exact hc
    · exact h2.all d hd
  · have hl := Ck.lt (h.all d hd)
    rcases hq with ⟨g, o, rfl, hq⟩ | ⟨e, sz, v, n, xs, rfl, hq⟩ | ⟨b, bs, rfl, hq⟩
    · have hg := hf g rfl
      cases d with
      | obj g' o' => intro e; subst e; have := (hl g rfl).2; omega
      | row e' sz' v' n' xs' => intro e; have := (hl g e).2; omega
      | bld b' bs' => exact ⟨fun e => by subst e; have := (hl g rfl).2; omega, hq⟩
    · cases d with
      | obj g' o' => intro e; have := hf g' e; have := (hl g' rfl).2; omega
      | row e' sz' v' n' xs' =>
        by_cases k : v.ownBlock = none
        · exact .inl k
        · right
          intro e
          obtain ⟨g, hg⟩ := Option.ne_none_iff_exists'.1 k
          have := hf g hg
          have := (hl g (e.symm.trans hg)).2
          omega
      | bld b' bs' =>
        refine ⟨?_, fun e => ?_⟩
        · rcases hq with hq | hq
          · exact hq
          · exact absurd rfl (hq _ hd b' bs')
        · have := hf b' e; have := (hl b' rfl).2; omega
    · have hg := hf b rfl
      rcases hq d hd with ⟨g', o', rfl, hq⟩ | ⟨e', sz', v', n', xs', rfl, hq⟩
      · exact ⟨fun e => by subst e; have := (hl g' rfl).2; omega, hq⟩
      · exact ⟨hq, fun e => by have := (hl b e).2; omega⟩
theorem Mg.addObj (h : Mg w0 w L) (o : Obj) (hq : quiet o) : Mg w0 (w.alloc o) (.obj w.heap.size o :: L) :=
  h.add ((Below.refl _ w).alloc (Nat.le_refl _) _) ⟨h.bel.size, heap_alloc_new w o⟩ (fun k e => by cases e; exact Nat.le_refl _) (.inl ⟨_, _, rfl, hq⟩)
theorem Mg.cell (h : Mg w0 w L) (k : Nat) {g : Nat} {vs : List Value} {t : TypeId} (hk : L[k]? = some (.obj g (.cells vs.toArray t))) (i : Nat) {v : Value} (hi : vs[i]? = some v) : w.cell? ⟨g, i, none⟩ = some v := by
  rw [cell_of_row w g i vs.toArray t (0, 0) (h.obj k hk)]
  simpa using hi
theorem Mg.froz (h : Mg w0 w L) (k : Nat) {g : Nat} {vs : List Value} {t : TypeId} (hk : L[k]? = some (.obj g (.cells vs.toArray t))) (i : Nat) : w.frozen? ⟨g, i, none⟩ = false := frozen_of_row w g i vs.toArray t (h.obj k hk)
theorem Mg.put (h : Mg w0 w L) (k : Nat) {g : Nat} {vs : List Value} {t : TypeId} (hk : L[k]? = some (.obj g (.cells vs.toArray t))) (i : Nat) (v : Value) : Mg w0 (w.setCell ⟨g, i, none⟩ v) (L.set k (.obj g (.cells (vs.set i v).toArray t))) := by
  refine h.turn k hk (by simp) ⟨rfl, rfl, rfl, by simp, fun j hj hne => Below.heap_setCell w ⟨g, i, none⟩ v j (fun e => hne (by rw [e]; rfl))⟩ ⟨(h.has k hk).1, ?_⟩ (fun d _ ha => ?_)
  · have := heap_setCell_same w g i vs.toArray t v (h.obj k hk)
    simpa using this
  · cases d with
    | obj g' o' => exact ha
    | row e' sz' v' n' xs' => exact ha
    | bld b' bs' => exact ⟨ha.1, fun c fz e => by cases e; exact ha.2 _ _ rfl⟩
theorem Mg.puts {g : Nat} {t : TypeId} : ∀ (cs : List Value) (w : World) (L : List Ck) (vs : List Value) (o : Nat), Mg w0 w L → ∀ k, L[k]? = some (.obj g (.cells vs.toArray t)) → Mg w0 (w.setCells g o cs) (L.set k (.obj g (.cells (over vs o cs).toArray t)))
  | [], w, L, vs, o, h, k, hk => by
    have : L.set k (.obj g (.cells (over vs o []).toArray t)) = L := by
      apply List.ext_getElem?
      intro i
      by_cases hi : k = i
      · subst hi
        rw [List.getElem?_set_self (List.getElem?_eq_some_iff.1 hk).1, hk]
        rfl
      · rw [List.getElem?_set_ne hi]
    rw [this]
    exact h
  | c :: cs, w, L, vs, o, h, k, hk => by
    have h1 := h.put k hk o c
    have hk1 : (L.set k (.obj g (.cells (vs.set o c).toArray t)))[k]? = some (.obj g (.cells (vs.set o c).toArray t)) := List.getElem?_set_self (List.getElem?_eq_some_iff.1 hk).1
    have h2 := Mg.puts cs _ _ (vs.set o c) (o + 1) h1 k hk1
    rw [List.set_set] at h2
    exact h2
end
end Go.Proofs.YtoeofpncdchicaaDoor.G
namespace Go.Proofs.YtoeofpncdchicaaDoor.G
open Go.RowKit
set_option linter.unusedVariables false
set_option linter.unusedSimpArgs false
section
variable {P : Program} {w0 w : World} {L : List Ck} {l : List (Nat × Value)} {dst : Option Tmp} {ty : TypeId} {pos : String} {after : Array Edge} {guard : Option (Nat × Bool)} {v : Value}
theorem m_load1 (hM : Mg w0 w L) {t : TypeId} (ht : Is1 P t) {x : Operand} {g o : Nat} (hx : ev l x = some (.pointer (some ⟨g, o, none⟩))) (k : Nat) {vs : List Value} {e : TypeId} (hk : L[k]? = some (.obj g (.cells vs.toArray e))) (hv : vs[o]? = some v) :
    Does P l ⟨dst, .load t x, ty, pos, after, guard⟩ w v w := does_load hx (run_load1 ht (hM.cell k hk o hv))
theorem m_loadS (hM : Mg w0 w L) {t : TypeId} {n : Nat} (ht : IsS P t n) {x : Operand} {g o : Nat} (hx : ev l x = some (.pointer (some ⟨g, o, none⟩))) (k : Nat) {vs cs : List Value} {e : TypeId} (hk : L[k]? = some (.obj g (.cells vs.toArray e))) (hcs : (vs.drop o).take n = cs) (hl : cs.length = n) :
    Does P l ⟨dst, .load t x, ty, pos, after, guard⟩ w (.agg cs.toArray) w :=
  does_load hx (run_loadS ht cs hl (fun j v hj => hM.cell k hk (o + j) (by
    have hjn : j < n := by rw [← hl]; exact (List.getElem?_eq_some_iff.1 hj).1
    rw [← hcs, List.getElem?_take, if_pos hjn, List.getElem?_drop] at hj
    exact hj)))
theorem m_store {t : TypeId} {x y : Operand} {g o : Nat} {u : Value} {cs : List Value} (hx : ev l x = some (.pointer (some ⟨g, o, none⟩))) (hy : ev l y = some u) (hc : u.cells = cs.toArray) (hn : (P.info? t).map (·.size) = some cs.length)
    (hM : Mg w0 w L) (k : Nat) {vs : List Value} {e : TypeId} (hk : L[k]? = some (.obj g (.cells vs.toArray e))) (hl : Nat.ble (o + cs.length) vs.length = true) (h1 : cs.all Value.oneCell' = true) : Sets P l ⟨dst, .store t x y, ty, pos, after, guard⟩ w (w.setCells g o cs) := fun ρ h => by
  obtain ⟨i, hi, hsz⟩ := info_size hn
  have hl' : o + cs.length ≤ vs.length := Nat.le_of_ble_eq_true hl
  have h2 : (sizeOf t).run P w = .ok cs.length w := by simp [sizeOf, typeInfo, hi, hsz]
  have h3 := run_storeCells_cells (P := P) g o cs 0 w (fun j hj => by
      have hlt : o + 0 + j < vs.length := by omega
      rw [hM.cell k hk (o + 0 + j) (v := vs[o + 0 + j]) (List.getElem?_eq_getElem hlt)]; rfl) (fun j hj => hM.froz k hk _) (fun v hv => List.all_eq_true.1 h1 v hv)
  rw [Nat.add_zero] at h3
  have h4 : u.cells.toList = cs := by rw [hc]
  simp only [execOp, h x _ hx, h y _ hy, Instr.storeAt, Instr.sureAddr, Sem.run_bind, Sem.run_pure, Result.andThen_ok, storeVar, h2, hc, List.size_toArray, ne_eq, not_true_eq_false, if_false, List.toList_toArray, h3]
section
variable {ops : List Oper} {Q : Exit → Act → World → Prop} {a : Act} {n : Nat} {o : Oper} {rest : List Oper} {d : Nat}
/-- A new block. -/
theorem s_new (hA : Sl a n l) (hM : Mg w0 w L) (hg : passes l ops o = true) (hdst : o.dst = some d) (hd : Nat.blt d n = true) {vs : List Value} {t : TypeId} (val : Nat → Value) (he : Does P l o w (val w.heap.size) (w.alloc (.cells vs.toArray t))) (ht : t ≠ BY)
    (hk : ∀ g w', Mg w0 w' (.obj g (.cells vs.toArray t) :: L) → ∀ a', Sl a' n ((d, val g) :: l) → wpList P ops.toArray Q rest a' w') : wpList P ops.toArray Q (o :: rest) a w :=
  seq_do hA hg hdst hd he (hk _ _ (hM.addObj _ (quiet_cells ht)))
theorem s_store (hA : Sl a n l) (hM : Mg w0 w L) (hg : passes l ops o = true) (hdst : o.dst = none) {g q : Nat} {cs vs us : List Value} {e : TypeId} (he : Sets P l o w (w.setCells g q cs)) (k : Nat) (hk0 : L[k]? = some (.obj g (.cells vs.toArray e))) (hus : over vs q cs = us) {L' : List Ck} (hL : L.set k (.obj g (.cells us.toArray e)) = L')
    (hk : ∀ w', Mg w0 w' L' → wpList P ops.toArray Q rest a w') : wpList P ops.toArray Q (o :: rest) a w :=
  seq_set hA hg hdst he (hk _ (by subst hus hL; exact Mg.puts cs w L vs q hM k hk0))
end
end
theorem len_str {P : Program} {t : TypeId} (h : P.underlying t = some .string) {ty : TypeId} {s : ByteArray} : ∀ w cs, (builtin .len #[t] ty cs #[.string s]).run P w = .ok (.value (.int .i64 ((s.size : Nat) : Int))) w := fun w cs => by
  simp [go_sem, Builtin.len_, run_underlying h, goInt]
section
variable {P : Program} {w0 w : World} {L : List Ck} {l : List (Nat × Value)} {ops : List Oper} {Q : Exit → Act → World → Prop} {a : Act} {n : Nat} {o : Oper} {S : World → Prop} {md : Region.Mode} {fuel : Nat} {listed : Array Bool}
theorem g_store (hA : Sl a n l) (hM : Mg w0 w L) (i : Nat) (hi : ops[i]? = some o) (hg : passes l ops o = true) (hdst : o.dst = none) {g q : Nat} {cs vs us : List Value} {e : TypeId} (he : Sets P l o w (w.setCells g q cs)) (k : Nat) (hk0 : L[k]? = some (.obj g (.cells vs.toArray e))) (hus : over vs q cs = us) {L' : List Ck} (hL : L.set k (.obj g (.cells us.toArray e)) = L')
    (hk : ∀ w', Mg w0 w' L' → S w' ∧ wpAnyH P md ops.toArray Q S fuel (listed.setIfInBounds i true) a w') : wpOp P ops.toArray Q i (fun a' w' => S w' ∧ wpAnyH P md ops.toArray Q S fuel (listed.setIfInBounds i true) a' w') a w := by
  have h := hk _ (by subst hus hL; exact Mg.puts cs w L vs q hM k hk0)
  exact op_set hA i hi hg hdst he h.1 h.2
end
/-! ### Function values -/
def quietC : Ck → Prop
  | .obj _ o => quiet o
  | .row e _ _ _ _ => e ≠ BY
  | .bld _ _ => False
theorem quietL_nil : ∀ d ∈ ([] : List Ck), quietC d := by intro d hd; cases hd
end Go.Proofs.YtoeofpncdchicaaDoor.G
namespace Go.Proofs.YtoeofpncdchicaaDoor.G
open Go.RowKit Go.Lib
set_option linter.unusedVariables false
set_option linter.unusedSimpArgs false

section
variable {σ : Type} {step : σ → Int → Int → σ × Bool} {s : σ} {at_ r : Int} {us : List (Int × Int)}
end
section
variable {P : Program} {w : World} {l : List (Nat × Value)} {dst : Option Tmp} {ty : TypeId} {pos : String} {after : Array Edge} {guard : Option (Nat × Bool)}
theorem does_indexS {t : TypeId} (ht : P.underlying t = some .string) {x y : Operand} {s : ByteArray} {i : Nat} {z : Int} (hx : ev l x = some (.string s)) (hy : ev l y = some (.int .i64 z)) (hz : z = ((i : Nat) : Int)) (hi : i < s.size) : Does P l ⟨dst, .index t x y, ty, pos, after, guard⟩ w (.int .u8 (((s.data.toList.getD i 0).toNat : Nat) : Int)) w := fun ρ h => by
  subst hz
  have := run_index_string (P := P) w t s .i64 ((i : Nat) : Int) ht
  have hi' : i < s.data.size := hi
  have e : s.data.toList.getD i 0 = s[i] := by
    rw [List.getD_eq_getElem?_getD, Array.getElem?_toList, Array.getElem?_eq_getElem hi']
    rfl
  rw [e]
  simp [execOp, h x _ hx, h y _ hy, this, hi]
end
end Go.Proofs.YtoeofpncdchicaaDoor.G
namespace Go.Proofs.YtoeofpncdchicaaDoor.G
open Go.RowKit Go.Lib
set_option linter.unusedVariables false
set_option linter.unusedSimpArgs false

/-- Two bytes as a number. -/
def hi2 (a b : Nat) : Nat := a * 256 + b
end Go.Proofs.YtoeofpncdchicaaDoor.G
namespace Go.Proofs.YtoeofpncdchicaaDoor.G
open Go.RowKit Go.Lib
set_option linter.unusedVariables false
set_option linter.unusedSimpArgs false

/-- A slice of bytes reads as these. -/
structure Rb (w : World) (so : Option Addr) (l : List UInt8) : Prop where
  pos : l ≠ [] → ∃ b off, so = some ⟨b, off, none⟩ ∧ b < w.heap.size ∧ ∀ j, j < l.length → w.cell? ⟨b, off + j, none⟩ = some (.int .u8 (((l.getD j 0).toNat : Nat) : Int))
theorem Rb.below {w w' : World} {so : Option Addr} {l : List UInt8} (h : Rb w so l) (hb : Below w.heap.size w w') : Rb w' so l := by
  refine ⟨fun hne => ?_⟩
  obtain ⟨b, off, h1, h2, h3⟩ := h.pos hne
  exact ⟨b, off, h1, Nat.lt_of_lt_of_le h2 hb.size, fun j hj => (hb.cell (by exact h2)).trans (h3 j hj)⟩
section
variable {P : Program} {w : World} {l : List (Nat × Value)} {dst : Option Tmp} {ty : TypeId} {pos : String} {after : Array Edge} {guard : Option (Nat × Bool)} {v : Value}
end
/-! ### Line ends -/
end Go.Proofs.YtoeofpncdchicaaDoor.G
namespace Go.Proofs.YtoeofpncdchicaaDoor.G
open Go.RowKit Go.Lib
set_option linter.unusedVariables false
set_option linter.unusedSimpArgs false
section
variable {P : Program} {w0 w : World} {L : List Ck} {l : List (Nat × Value)} {ops : List Oper} {Q : Exit → Act → World → Prop} {a : Act} {n : Nat} {o : Oper} {rest : List Oper} {d : Nat}
theorem s_lit (hA : Sl a n l) (hM : Mg w0 w L) (hg : passes l ops o = true) (hdst : o.dst = some d) (hd : Nat.blt d n = true) {vs : List Value} {m : Nat} (he : Does P l o w (.slice (some ⟨w.heap.size, 0, none⟩) m m) (w.alloc (.cells vs.toArray BY))) (hm : vs.length = m) (hle : Nat.ble m 1000 = true) (hnb : noBld L)
    (hk : ∀ g w', Mg w0 w' (.row BY 1 (.slice (some ⟨g, 0, none⟩) m m) m vs :: L) → ∀ a', Sl a' n ((d, .slice (some ⟨g, 0, none⟩) m m) :: l) → wpList P ops.toArray Q rest a' w') : wpList P ops.toArray Q (o :: rest) a w := by
  refine seq_do hA hg hdst hd he (hk _ _ (hM.add ((Below.refl _ w).alloc (Nat.le_refl _) _) ?_ (fun k e => ?_) (.inr (.inl ⟨_, _, _, _, _, rfl, .inr hnb⟩))))
  · have := World.ownsRow_lit (base := w0.heap.size) (e := BY) (size := 1) w vs.toArray m hM.bel.size (by unfold maxLen; have := Nat.le_of_ble_eq_true hle; omega) (by simp [hm])
    simpa [Ck.holds] using this
  · simp [Ck.at_, Value.ownBlock] at e
    omega
theorem s_append (hA : Sl a n l) (hg : passes l ops o = true) (hdst : o.dst = some d) (hd : Nat.blt d n = true) {k q m : Nat} {xs news : List Value} (he : ∃ v' w', Does P l o w v' w' ∧ Mg w0 w' (L.set k (.row BY 1 v' (q + m) (xs ++ news)))) {L' : Value → List Ck} (hL : ∀ v', L.set k (.row BY 1 v' (q + m) (xs ++ news)) = L' v')
    (hk : ∀ v' w', Mg w0 w' (L' v') → ∀ a', Sl a' n ((d, v') :: l) → wpList P ops.toArray Q rest a' w') : wpList P ops.toArray Q (o :: rest) a w := by
  obtain ⟨v', w', h1, h2⟩ := he
  exact seq_do hA hg hdst hd h1 (hk v' w' (hL v' ▸ h2))
end
theorem owns_slice {w : World} {B : Nat} {e : TypeId} {v : Value} {n : Nat} {xs : List Value} (h : w.ownsRow B e 1 v n xs) : ∃ so cap, v = .slice so n cap := by
  rcases h.2 with ⟨rfl, rfl⟩ | ⟨g, cap, cur, rfl, _⟩
  · exact ⟨none, 0, rfl⟩
  · exact ⟨_, cap, rfl⟩
section
variable {P : Program} {w0 w : World} {L : List Ck} {l : List (Nat × Value)} {dst : Option Tmp} {ty : TypeId} {pos : String} {after : Array Edge} {guard : Option (Nat × Bool)} {v : Value}
end
theorem noBld_cons {c : Ck} {L : List Ck} (h : ∀ b bs, c ≠ .bld b bs) (t : noBld L) : noBld (c :: L) := by
  intro d hd b bs
  rcases List.mem_cons.1 hd with rfl | hd
  · exact h b bs
  · exact t d hd b bs
theorem noBld_quiet {L : List Ck} (h : ∀ d ∈ L, quietC d) : noBld L := by
  intro d hd b bs e
  have := h d hd
  rw [e] at this
  exact this
/-- A byte of a number. -/
def b8 (z : Int) : UInt8 := z.toNat.toUInt8
theorem b8_val {z : Int} (h0 : 0 ≤ z) (h1 : z < 256) : (((b8 z).toNat : Nat) : Int) = z := by
  unfold b8
  simp
  omega
end Go.Proofs.YtoeofpncdchicaaDoor.G
namespace Go.Proofs.YtoeofpncdchicaaDoor.G
open Go.RowKit Go.Lib
set_option linter.unusedVariables false
set_option linter.unusedSimpArgs false
theorem Mg.addNil {w0 w : World} {L : List Ck} (h : Mg w0 w L) (hn : noBld L) : Mg w0 w (.row BY 1 (.slice none 0 0) 0 [] :: L) :=
  h.add (Below.refl _ _) (c := .row BY 1 (.slice none 0 0) 0 []) ⟨rfl, .inl ⟨rfl, rfl⟩⟩ (fun k e => by cases e) (.inr (.inl ⟨_, _, _, _, _, rfl, .inr hn⟩))
theorem Ck.low {B B' : Nat} {w : World} {c : Ck} (h : c.holds B' w) (hb : B ≤ B') (hn : ∀ b bs, c ≠ .bld b bs) : c.holds B w := by
  cases c with
  | obj g o => exact ⟨Nat.le_trans hb h.1, h.2⟩
  | row e sz v n xs =>
    refine ⟨h.1, ?_⟩
    rcases h.2 with h | ⟨g, cap, cur, a, b, c⟩
    · exact .inl h
    · exact .inr ⟨g, cap, cur, a, Nat.le_trans hb b, c⟩
  | bld b bs => exact absurd rfl (hn b bs)
/-- What a call's own part does, seen from the call's begin. -/
theorem Mg.low {w0 w w' : World} {L : List Ck} (hb : Below w0.heap.size w0 w) (h : Mg w w' L) (hn : noBld L) : Mg w0 w' L :=
  ⟨hb.trans (h.bel.mono hb.size), fun c hc => Ck.low (h.all c hc) hb.size (hn c hc), h.dis⟩
end Go.Proofs.YtoeofpncdchicaaDoor.G
namespace Go.Proofs.YtoeofpncdchicaaDoor.G
open Go.RowKit Go.Lib
set_option linter.unusedVariables false
set_option linter.unusedSimpArgs false

section
variable {P : Program} {t : TypeId} {x y : Operand} {a b : ByteArray}
end
section
variable {P : Program} {w0 w w' : World} {L L' : List Ck} {l : List (Nat × Value)} {dst : Option Tmp} {ty : TypeId} {pos : String} {after : Array Edge} {guard : Option (Nat × Bool)} {v : Value}
theorem does_indexRow {t e : TypeId} (hu : P.underlying t = some (.slice e)) (he : (P.info? e).map (·.size) = some 1) {x i : Operand} {so : Option Addr} {b off n c k : Nat} {z : Int} (hx : ev l x = some (.slice so n c)) (hi : ev l i = some (.int .i64 z)) (hz : z = (k : Nat)) (hso : so = some ⟨b, off, none⟩) (hk : k < n) :
    Does P l ⟨dst, .indexAddr t x i, ty, pos, after, guard⟩ w (.pointer (some ⟨b, off + k, none⟩)) w := by
  subst hso hz
  exact does_indexI hx hi (run_indexU hu he hk)
theorem m_loadR (hM : Mg w0 w L) {b o : Nat} (hlt : b < w0.heap.size) (hc : w0.cell? ⟨b, o, none⟩ = some v) {t : TypeId} (ht : Is1 P t) {x : Operand} (hx : ev l x = some (.pointer (some ⟨b, o, none⟩))) : Does P l ⟨dst, .load t x, ty, pos, after, guard⟩ w v w :=
  does_load hx (run_load1 ht ((hM.bel.cell hlt).trans hc))
/-- Two calls, one behind the other: the second one's pieces are new. -/
theorem Mg.both (hM : Mg w0 w L) (h : Mg w w' L') (n1 : noBld L) (n2 : noBld L') : Mg w0 w' (L' ++ L) := by
  have hb : Below w.heap.size w w' := h.bel
  have h1 := hM.call hb
  refine ⟨h1.bel, fun c hc => ?_, List.pairwise_append.2 ⟨h.dis, hM.dis, fun c hc d hd => ?_⟩⟩
  · rcases List.mem_append.1 hc with hc | hc
    · exact Ck.low (h.all c hc) hM.bel.size (n2 c hc)
    · exact h1.all c hc
  · have k1 := Ck.lt (h.all c hc)
    have k2 := Ck.lt (hM.all d hd)
    cases c with
    | obj g o => cases d with
      | obj g' o' => intro e; subst e; have := k1 g rfl; have := k2 g rfl; omega
      | row e sz v n xs => intro e; have := k1 g rfl; have := k2 g e; omega
      | bld b bs => exact absurd rfl (n1 _ hd b bs)
    | row e sz v n xs => cases d with
      | obj g' o' => intro e; have := k1 g' e; have := k2 g' rfl; omega
      | row e' sz' v' n' xs' =>
        by_cases k : v.ownBlock = none
        · exact .inl k
        · right
          intro e
          obtain ⟨g, hg⟩ := Option.ne_none_iff_exists'.1 k
          have := k1 g hg
          have := k2 g (e.symm.trans hg)
          omega
      | bld b bs => exact absurd rfl (n1 _ hd b bs)
    | bld b bs => exact absurd rfl (n2 _ hc b bs)
/-- A row of the call's own reads as its bytes. -/
theorem rb_row (hM : Mg w0 w L) (k : Nat) {so : Option Addr} {n cap : Nat} {bs : List UInt8} (hk : L[k]? = some (.row BY 1 (.slice so n cap) n (byteCells bs))) : Rb w so bs ∧ n = bs.length := by
  have h := hM.has k hk
  have hn : n = bs.length := by have := h.1; rw [byteCells_length] at this; omega
  refine ⟨⟨fun hne => ?_⟩, hn⟩
  rcases h.2 with ⟨he, h0⟩ | ⟨g, cap', cur, he, hB, hc, h3⟩
  · rw [h0] at hn; exact absurd (List.length_eq_zero_iff.1 hn.symm) hne
  · cases he
    refine ⟨g, 0, rfl, (Array.getElem?_eq_some_iff.1 hc).1, fun j hj => ?_⟩
    rw [Nat.zero_add, World.ownsRow.cellAt h j (by omega)]
    simp [byteCells, List.getD_eq_getElem?_getD, hj]
theorem m_append0 {t : TypeId} {x y : Operand} (ht : P.underlying t = some (.slice BY)) (hinfo : (P.info? BY).map (fun i => (i.zero, i.size, i.bytes)) = some (some (.int .u8 0), 1, 1)) (hM : Mg w0 w L) (k : Nat) {q : Nat} {xs : List Value} (hk : L[k]? = some (.row BY 1 v q xs)) (hx : ev l x = some v) {so : Option Addr} {c2 : Nat} (hy : ev l y = some (.slice so 0 c2)) :
    Does P l ⟨dst, .call ⟨.builtin .append, #[x, y], #[t, t]⟩, ty, pos, after, guard⟩ w v w := by
  obtain ⟨i, hi, hzz⟩ := Option.map_eq_some_iff.1 hinfo
  simp only [Prod.mk.injEq] at hzz
  obtain ⟨hz, hs, hb⟩ := hzz
  have hrow := hM.has k hk
  obtain ⟨so1, cap, hle, rfl⟩ : ∃ so1 cap, q ≤ cap ∧ v = .slice so1 q cap := by
    rcases hrow.2 with ⟨rfl, rfl⟩ | ⟨g, cap, cur, rfl, _, _, h, _⟩
    · exact ⟨none, 0, Nat.le_refl _, rfl⟩
    · exact ⟨_, cap, h, rfl⟩
  have h2 : (sizeOf BY).run P w = .ok 1 w := by simp [sizeOf, typeInfo, hi, hs]
  intro ρ h
  cases so <;> cases so1 <;> simp [execOp, resolve, invoke, builtin, h x _ hx, h y _ hy, Builtin.append_, run_underlying ht, h2, Builtin.lenOf, Builtin.firstCells, loadCells, loadCellsFrom, storeCells, hle]
theorem set_same {c : Ck} {k : Nat} (hk : L[k]? = some c) : L.set k c = L := by
  apply List.ext_getElem?
  intro i
  by_cases hi : k = i
  · subst hi
    rw [List.getElem?_set_self (List.getElem?_eq_some_iff.1 hk).1, hk]
  · rw [List.getElem?_set_ne hi]
end
end Go.Proofs.YtoeofpncdchicaaDoor.G
namespace Go.Proofs.YtoeofpncdchicaaDoor.G
open Go.RowKit Go.Lib
set_option linter.unusedVariables false
set_option linter.unusedSimpArgs false
section
variable {P : Program} {w0 w : World} {L : List Ck} {l : List (Nat × Value)} {ops : List Oper} {Q : Exit → Act → World → Prop} {a : Act} {n : Nat} {o : Oper} {rest : List Oper} {d : Nat}
theorem s_litE (hA : Sl a n l) (hM : Mg w0 w L) (hg : passes l ops o = true) (hdst : o.dst = some d) (hd : Nat.blt d n = true) {e : TypeId} {sz : Nat} {vs : List Value} {m : Nat} (he : Does P l o w (.slice (some ⟨w.heap.size, 0, none⟩) m m) (w.alloc (.cells vs.toArray e))) (hm : vs.length = m * sz) (hle : Nat.ble m 1000 = true) (hnb : e ≠ BY ∨ noBld L)
    (hk : ∀ g w', Mg w0 w' (.row e sz (.slice (some ⟨g, 0, none⟩) m m) m vs :: L) → ∀ a', Sl a' n ((d, .slice (some ⟨g, 0, none⟩) m m) :: l) → wpList P ops.toArray Q rest a' w') : wpList P ops.toArray Q (o :: rest) a w := by
  refine seq_do hA hg hdst hd he (hk _ _ (hM.add ((Below.refl _ w).alloc (Nat.le_refl _) _) ?_ (fun k e => ?_) (.inr (.inl ⟨_, _, _, _, _, rfl, hnb⟩))))
  · have := World.ownsRow_lit (base := w0.heap.size) (e := e) (size := sz) w vs.toArray m hM.bel.size (by unfold maxLen; have := Nat.le_of_ble_eq_true hle; omega) (by simp [hm])
    simpa [Ck.holds] using this
  · simp [Ck.at_, Value.ownBlock] at e
    omega
end
section
variable {P : Program} {w0 w : World} {L : List Ck} {l : List (Nat × Value)} {dst : Option Tmp} {ty : TypeId} {pos : String} {after : Array Edge} {guard : Option (Nat × Bool)} {v : Value}
theorem run_indexE {t e : TypeId} {sz : Nat} (hu : P.underlying t = some (.slice e)) (he : (P.info? e).map (·.size) = some sz) {g o n c k : Nat} (hk : k < n) : ∀ w, (Instr.indexAt t (.slice (some ⟨g, o, none⟩) n c) (.int .i64 (k : Nat))).run P w = .ok (.pointer (some ⟨g, o + k * sz, none⟩)) w := fun w => by
  obtain ⟨i, hi, hs⟩ := info_size he
  have h2 : (sizeOf e).run P w = .ok sz w := by simp [sizeOf, typeInfo, hi, hs]
  have h3 : (0 : Int) ≤ (k : Nat) ∧ ((k : Nat) : Int) < (n : Nat) := ⟨by omega, by omega⟩
  simp [Instr.indexAt, asIntOf, run_underlying hu, h2, h3, addr_add]
  intro h
  omega
/-- The place of an element of a row of the call's own. -/
theorem does_indexE {t e : TypeId} {sz : Nat} (hu : P.underlying t = some (.slice e)) (he : (P.info? e).map (·.size) = some sz) {x i : Operand} {g n c k : Nat} {z : Int} (hx : ev l x = some (.slice (some ⟨g, 0, none⟩) n c)) (hi : ev l i = some (.int .i64 z)) (hz : z = (k : Nat)) (hk : k < n) :
    Does P l ⟨dst, .indexAddr t x i, ty, pos, after, guard⟩ w (.pointer (some ⟨g, k * sz, none⟩)) w := by
  subst hz
  have := does_indexI (l := l) (dst := dst) (ty := ty) (pos := pos) (after := after) (guard := guard) (w := w) hx hi (run_indexE hu he (o := 0) hk)
  rwa [Nat.zero_add] at this
/-- .. and what stands there: one cell, or a struct's. -/
theorem m_loadE (hM : Mg w0 w L) (k : Nat) {e : TypeId} {sz g n c j : Nat} {xs : List Value} (hk : L[k]? = some (.row e sz (.slice (some ⟨g, 0, none⟩) n c) n xs)) (hj : xs[j]? = some v) {t : TypeId} (ht : Is1 P t) {x : Operand} (hx : ev l x = some (.pointer (some ⟨g, j, none⟩))) : Does P l ⟨dst, .load t x, ty, pos, after, guard⟩ w v w := by
  have h := hM.has k hk
  have hl : xs.length = n * sz := h.1
  have hlt : j < xs.length := (List.getElem?_eq_some_iff.1 hj).1
  exact does_load hx (run_load1 ht ((World.ownsRow.cellAt h j (by omega)).trans hj))
end
end Go.Proofs.YtoeofpncdchicaaDoor.G
namespace Go.Proofs.YtoeofpncdchicaaDoor.G
open Go.RowKit Go.Lib
set_option linter.unusedVariables false
set_option linter.unusedSimpArgs false
section
variable {P : Program} {w0 w : World} {L : List Ck} {l : List (Nat × Value)}
theorem m_appendA {t ty : TypeId} {x y : Operand} {dst : Option Tmp} {pos : String} {after : Array Edge} {guard : Option (Nat × Bool)} (ht : P.underlying t = some (.slice BY)) (hinfo : (P.info? BY).map (fun i => (i.zero, i.size, i.bytes)) = some (some (.int .u8 0), 1, 1)) (hM : Mg w0 w L) (k : Nat) {v : Value} {q : Nat} {xs : List Value} (hk : L[k]? = some (.row BY 1 v q xs)) (hx : ev l x = some v) {so : Option Addr} {c2 : Nat} {bs : List UInt8} (hb : Rb w so bs) (hy : ev l y = some (.slice so bs.length c2)) (hlen : q + bs.length ≤ 140737488355328) :
    ∃ v' w', Does P l ⟨dst, .call ⟨.builtin .append, #[x, y], #[t, t]⟩, ty, pos, after, guard⟩ w v' w' ∧ Mg w0 w' (L.set k (.row BY 1 v' (q + bs.length) (xs ++ byteCells bs))) := by
  by_cases hne : bs = []
  · subst hne
    refine ⟨v, w, m_append0 ht hinfo hM k hk hx hy, ?_⟩
    rw [show L.set k (.row BY 1 v (q + ([] : List UInt8).length) (xs ++ byteCells [])) = L from by rw [show xs ++ byteCells [] = xs from List.append_nil xs]; exact set_same hk]
    exact hM
  · obtain ⟨b, off, rfl, hlt, hc⟩ := hb.pos hne
    have h0 : 0 < bs.length := List.length_pos_iff.2 hne
    obtain ⟨i, hi, hzz⟩ := Option.map_eq_some_iff.1 hinfo
    simp only [Prod.mk.injEq] at hzz
    obtain ⟨hz, hs, hbb⟩ := hzz
    have hrow := hM.has k hk
    obtain ⟨g, cap, w', hr, hown, hgr, hat, hlt2⟩ := run_append_lies (P := P) w t ty w0.heap.size BY i (.int .u8 0) 1 1 ht hi hz hs hbb rfl (by decide) v q xs hrow ⟨b, off, none⟩ bs.length c2 (byteCells bs) (by rw [byteCells_length]; omega) (fun p u hp => by
        have hl : p < bs.length := by have := (List.getElem?_eq_some_iff.1 hp).1; rwa [byteCells_length] at this
        rw [addr_add, hc p hl, ← hp]
        simp [byteCells, List.getD_eq_getElem?_getD, hl]) (fun u hu => by
        simp only [byteCells, List.mem_map] at hu
        obtain ⟨b, _, rfl⟩ := hu
        rfl) h0 (by unfold maxLen; omega) (by omega) hM.bel.size w.heap.size rfl
    refine ⟨.slice (some ⟨g, 0, none⟩) (q + bs.length) cap, w', fun ρ h => ?_, hM.turn k hk (by simp) hgr hown (fun d hd ha => ?_)⟩
    · simp [execOp, resolve, invoke, builtin, h x _ hx, h y _ hy, hr]
    · have hl := Ck.lt (hM.all d hd)
      have key : ∀ z, d.at_ = some z → v.ownBlock ≠ some z → g ≠ z := fun z hz hne e => by
        subst e
        rcases hat with h | h
        · exact hne h
        · have := (hl g hz).2; omega
      cases d with
      | obj g' o' => exact fun e => key g' rfl ha (by simpa [Value.ownBlock] using e)
      | row e' sz' v' n' xs' =>
        right
        intro e
        have e2 : v'.ownBlock = some g := e.symm
        rcases ha with ha | ha
        · exact key g e2 (by rw [ha]; simp) rfl
        · exact key g e2 (fun h => ha (h.trans e2.symm)) rfl
      | bld b' bs' => exact ⟨ha.1, fun e => key b' rfl ha.2 (by simpa [Value.ownBlock] using e)⟩
end
section
variable {P : Program} {w0 w : World} {L : List Ck} {l : List (Nat × Value)} {ops : List Oper} {Q : Exit → Act → World → Prop} {a : Act} {n : Nat} {o : Oper} {d : Nat} {S : World → Prop} {md : Region.Mode} {fuel : Nat} {listed : Array Bool}
end
end Go.Proofs.YtoeofpncdchicaaDoor.G
namespace Go.Proofs.YtoeofpncdchicaaDoor.G
open Go.RowKit Go.Lib
set_option linter.unusedVariables false
set_option linter.unusedSimpArgs false
section
variable {w0 w : World} {L : List Ck} {e : TypeId} {sz g n cap : Nat} {xs : List Value}
theorem Mg.rowPut (h : Mg w0 w L) (k : Nat) (hk : L[k]? = some (.row e sz (.slice (some ⟨g, 0, none⟩) n cap) n xs)) (j : Nat) (u : Value) : Mg w0 (w.setCell ⟨g, j, none⟩ u) (L.set k (.row e sz (.slice (some ⟨g, 0, none⟩) n cap) n (xs.set j u))) := by
  have hs := World.ownsRow.stored (show w.ownsRow w0.heap.size e sz (.slice (some ⟨g, 0, none⟩) n cap) n xs from h.has k hk) j u
  exact h.turn k hk (by simp) hs.2 hs.1 (fun d _ ha => by cases d <;> exact ha)
theorem Mg.rowPuts : ∀ (cs : List Value) (w : World) (L : List Ck) (xs : List Value) (o : Nat), Mg w0 w L → ∀ k, L[k]? = some (.row e sz (.slice (some ⟨g, 0, none⟩) n cap) n xs) → Mg w0 (w.setCells g o cs) (L.set k (.row e sz (.slice (some ⟨g, 0, none⟩) n cap) n (over xs o cs)))
  | [], w, L, xs, o, h, k, hk => by
    rw [show L.set k (.row e sz (.slice (some ⟨g, 0, none⟩) n cap) n (over xs o [])) = L from set_same hk]
    exact h
  | c :: cs, w, L, xs, o, h, k, hk => by
    have h1 := h.rowPut k hk o c
    have hk1 : (L.set k (.row e sz (.slice (some ⟨g, 0, none⟩) n cap) n (xs.set o c)))[k]? = some (.row e sz (.slice (some ⟨g, 0, none⟩) n cap) n (xs.set o c)) := List.getElem?_set_self (List.getElem?_eq_some_iff.1 hk).1
    have h2 := Mg.rowPuts cs _ _ (xs.set o c) (o + 1) h1 k hk1
    rw [List.set_set] at h2
    exact h2
/-- Fewer of a row's elements. -/
theorem Mg.rowCut (h : Mg w0 w L) (k : Nat) (hk : L[k]? = some (.row e sz (.slice (some ⟨g, 0, none⟩) n cap) n xs)) {m : Nat} (hm : m ≤ n) : Mg w0 w (L.set k (.row e sz (.slice (some ⟨g, 0, none⟩) m cap) m (xs.take (m * sz)))) := by
  have hr := h.has k hk
  refine ⟨h.bel, fun d hd => ?_, dis_set h.dis hk (fun d _ ha => by cases d <;> exact ha)⟩
  rcases mem_set h.dis hk hd with rfl | ⟨hd, _⟩
  · have hml : m * sz ≤ n * sz := Nat.mul_le_mul_right _ hm
    refine ⟨by rw [List.length_take, hr.1]; omega, ?_⟩
    rcases hr.2 with ⟨he, _⟩ | ⟨g', cap', cur, he, a, b, c, d, f, ht⟩
    · cases he
    · cases he
      exact .inr ⟨g, cap, cur, rfl, a, b, by omega, d, f, by rw [← ht, List.take_take, Nat.min_eq_left hml]⟩
  · exact h.all d hd
theorem over_at : ∀ (cs : List Value) (xs : List Value) (o i : Nat), o + cs.length ≤ xs.length → (over xs o cs)[i]? = if o ≤ i ∧ i < o + cs.length then cs[i - o]? else xs[i]?
  | [], xs, o, i, _ => by
    show xs[i]? = _
    rw [if_neg (by simp only [List.length_nil]; omega)]
  | c :: cs, xs, o, i, h => by
    rw [List.length_cons] at h
    show (over (xs.set o c) (o + 1) cs)[i]? = _
    rw [over_at cs (xs.set o c) (o + 1) i (by rw [List.length_set]; omega)]
    by_cases h1 : o + 1 ≤ i ∧ i < o + 1 + cs.length
    · rw [if_pos h1, if_pos (by rw [List.length_cons]; omega), show i - o = (i - (o + 1)) + 1 from by omega, List.getElem?_cons_succ]
    · rw [if_neg h1]
      by_cases h2 : o = i
      · subst h2
        rw [List.getElem?_set_self (by omega), if_pos (by rw [List.length_cons]; omega), Nat.sub_self, List.getElem?_cons_zero]
      · rw [List.getElem?_set_ne h2, if_neg (by rw [List.length_cons]; omega)]
theorem over_eq {xs cs : List Value} {o : Nat} (h : o + cs.length ≤ xs.length) : over xs o cs = xs.take o ++ cs ++ xs.drop (o + cs.length) := by
  apply List.ext_getElem?
  intro i
  rw [over_at cs xs o i h]
  by_cases h1 : i < o
  · rw [if_neg (by omega), List.append_assoc, List.getElem?_append_left (by rw [List.length_take]; omega), List.getElem?_take_of_lt h1]
  · rw [List.append_assoc, List.getElem?_append_right (by rw [List.length_take]; omega), List.length_take, Nat.min_eq_left (by omega)]
    by_cases h2 : i < o + cs.length
    · rw [if_pos ⟨by omega, h2⟩, List.getElem?_append_left (by omega)]
    · rw [if_neg (by omega), List.getElem?_append_right (by omega), List.getElem?_drop]
      congr 1
      omega
end
section
variable {P : Program} {w0 w : World} {L : List Ck} {l : List (Nat × Value)} {dst : Option Tmp} {ty : TypeId} {pos : String} {after : Array Edge} {guard : Option (Nat × Bool)} {v : Value}
theorem m_storeE {t : TypeId} {x y : Operand} {g o : Nat} {u : Value} {cs : List Value} (hx : ev l x = some (.pointer (some ⟨g, o, none⟩))) (hy : ev l y = some u) (hc : u.cells = cs.toArray) (hn : (P.info? t).map (·.size) = some cs.length)
    (hM : Mg w0 w L) (k : Nat) {e : TypeId} {sz n cap : Nat} {xs : List Value} (hk : L[k]? = some (.row e sz (.slice (some ⟨g, 0, none⟩) n cap) n xs)) (hl : o + cs.length ≤ n * sz) (h1 : cs.all Value.oneCell' = true) : Sets P l ⟨dst, .store t x y, ty, pos, after, guard⟩ w (w.setCells g o cs) := fun ρ h => by
  obtain ⟨i, hi, hsz⟩ := info_size hn
  have hr : w.ownsRow w0.heap.size e sz (.slice (some ⟨g, 0, none⟩) n cap) n xs := hM.has k hk
  have hxl : xs.length = n * sz := hr.1
  have h2 : (sizeOf t).run P w = .ok cs.length w := by simp [sizeOf, typeInfo, hi, hsz]
  have h3 := run_storeCells_cells (P := P) g o cs 0 w (fun j hj => by
      rw [World.ownsRow.cellAt hr (o + 0 + j) (by omega), List.getElem?_eq_getElem (by omega)]; rfl) (fun j hj => World.ownsRow.frozenAt hr _) (fun v hv => List.all_eq_true.1 h1 v hv)
  rw [Nat.add_zero] at h3
  have h4 : u.cells.toList = cs := by rw [hc]
  simp only [execOp, h x _ hx, h y _ hy, Instr.storeAt, Instr.sureAddr, Sem.run_bind, Sem.run_pure, Result.andThen_ok, storeVar, h2, hc, List.size_toArray, ne_eq, not_true_eq_false, if_false, List.toList_toArray, h3]
theorem res_cellS (hM : Mg w0 w L) {c : Tmp} {t : TypeId} {m : Nat} (ht : IsS P t m) {g o : Nat} (hx : look l c = some (.pointer (some ⟨g, o, none⟩))) (k : Nat) {vs cs : List Value} {e : TypeId} (hk : L[k]? = some (.obj g (.cells vs.toArray e))) (hcs : (vs.drop o).take m = cs) (hl : cs.length = m) : resOf P l w (.cell c t) (.agg cs.toArray) :=
  ⟨_, hx, run_loadS ht cs hl (fun j v hj => hM.cell k hk (o + j) (by
    have hjn : j < m := by rw [← hl]; exact (List.getElem?_eq_some_iff.1 hj).1
    rw [← hcs, List.getElem?_take, if_pos hjn, List.getElem?_drop] at hj
    exact hj))⟩
/-! Parts of slices. -/
def dropA (so : Option Addr) (cap lo : Nat) : Option Addr := if cap = lo then so else so.map (·.add lo)
theorem does_from {t e : TypeId} (ht : P.underlying t = some (.slice e)) (he : (P.info? e).map (·.size) = some 1) {x y : Operand} {so : Option Addr} {n cap lo : Nat} {z : Int} (hx : ev l x = some (.slice so n cap)) (hy : ev l y = some (.int .i64 z)) (hz : z = ((lo : Nat) : Int)) (hp : lo ≤ n) : Does P l ⟨dst, .slice t x (some y) none none, ty, pos, after, guard⟩ w (.slice (dropA so cap lo) (n - lo) (cap - lo)) w := fun ρ h => by
  subst hz
  obtain ⟨i, hi, hs⟩ := info_size he
  have h2 : (sizeOf e).run P w = .ok 1 w := by simp [sizeOf, typeInfo, hi, hs]
  have h1 : (0 : Int) ≤ (lo : Nat) ∧ ((lo : Nat) : Int) ≤ (n : Int) := ⟨by omega, by omega⟩
  simp [execOp, h x _ hx, h y _ hy, Instr.sliceAt, Instr.slice, Instr.sliceBounds, Instr.sliceBound, asIntOf, run_underlying ht, h1, h2, dropA]
  try (intro hc; omega)
theorem Rb.drop {w : World} {so : Option Addr} {l : List UInt8} (h : Rb w so l) (cap lo : Nat) (hc : l.length ≤ cap) : Rb w (dropA so cap lo) (l.drop lo) := by
  refine ⟨fun hne => ?_⟩
  have hlo : lo < l.length := by
    apply Classical.byContradiction
    intro k
    exact hne (List.drop_eq_nil_of_le (by omega))
  obtain ⟨b, off, rfl, h2, h3⟩ := h.pos (fun k => by rw [k] at hlo; exact absurd hlo (Nat.not_lt_zero _))
  unfold dropA
  rw [if_neg (by omega)]
  refine ⟨b, off + lo, by simp [addr_add], h2, fun j hj => ?_⟩
  rw [List.length_drop] at hj
  rw [Nat.add_assoc, h3 (lo + j) (by omega), List.getD_eq_getElem?_getD, List.getD_eq_getElem?_getD, List.getElem?_drop]
theorem does_upto {t e : TypeId} {sz : Nat} (ht : P.underlying t = some (.slice e)) (he : (P.info? e).map (·.size) = some sz) {x y : Operand} {so : Option Addr} {n cap hi : Nat} {z : Int} (hx : ev l x = some (.slice so n cap)) (hy : ev l y = some (.int .i64 z)) (hz : z = ((hi : Nat) : Int)) (hp : hi ≤ cap) : Does P l ⟨dst, .slice t x none (some y) none, ty, pos, after, guard⟩ w (.slice so hi cap) w := fun ρ h => by
  subst hz
  obtain ⟨i, hii, hs⟩ := info_size he
  have h2 : (sizeOf e).run P w = .ok sz w := by simp [sizeOf, typeInfo, hii, hs]
  have h1 : (0 : Int) ≤ (hi : Nat) ∧ ((hi : Nat) : Int) ≤ (cap : Int) := ⟨by omega, by omega⟩
  have ha : ∀ a : Addr, a.add 0 = a := fun a => by unfold Addr.add; simp
  cases so with
  | none => simp [execOp, h x _ hx, h y _ hy, Instr.sliceAt, Instr.slice, Instr.sliceBounds, Instr.sliceBound, asIntOf, run_underlying ht, h1, h2, ha]; try (intro hc; omega)
  | some a => simp [execOp, h x _ hx, h y _ hy, Instr.sliceAt, Instr.slice, Instr.sliceBounds, Instr.sliceBound, asIntOf, run_underlying ht, h1, h2, ha]; try (intro hc; omega)
/-- A row is copied into a row of the call's own. -/
theorem m_copyE {t t2 e : TypeId} {sz : Nat} (ht : P.underlying t = some (.slice e)) (he : (P.info? e).map (·.size) = some sz) {x y : Operand} (hM : Mg w0 w L) (k : Nat) {g n cap : Nat} {xs : List Value} (hk : L[k]? = some (.row e sz (.slice (some ⟨g, 0, none⟩) n cap) n xs)) {o dl dc : Nat} (hx : ev l x = some (.slice (some ⟨g, o, none⟩) dl dc)) {b o2 sl sc : Nat} (hy : ev l y = some (.slice (some ⟨b, o2, none⟩) sl sc)) (hsl : sl ≤ dl) {news : List Value} (hl : news.length = sl * sz) (hn : ∀ j u, news[j]? = some u → w.cell? ⟨b, o2 + j, none⟩ = some u) (h1 : ∀ u ∈ news, u.oneCell' = true) (hr : o + news.length ≤ n * sz) :
    Does P l ⟨dst, .call ⟨.builtin .copy, #[x, y], #[t, t2]⟩, ty, pos, after, guard⟩ w (.int .i64 ((sl : Nat) : Int)) (w.setCells g o news) := by
  obtain ⟨i, hi, hs⟩ := info_size he
  have h2 : ∀ w : World, (sizeOf e).run P w = .ok sz w := fun w => by simp [sizeOf, typeInfo, hi, hs]
  have hrow : w.ownsRow w0.heap.size e sz (.slice (some ⟨g, 0, none⟩) n cap) n xs := hM.has k hk
  have hxl : xs.length = n * sz := hrow.1
  have h3 := run_storeCells_cells (P := P) g o news 0 w (fun j hj => by
      rw [World.ownsRow.cellAt hrow (o + 0 + j) (by omega), List.getElem?_eq_getElem (by omega)]; rfl) (fun j hj => World.ownsRow.frozenAt hrow _) h1
  rw [Nat.add_zero] at h3
  have h4 := run_loadCells_list (P := P) w ⟨b, o2, none⟩ news (fun j u hj => by rw [addr_add]; exact hn j u hj)
  rw [hl] at h4
  intro ρ h
  simp [execOp, resolve, invoke, builtin, h x _ hx, h y _ hy, Builtin.copy_, run_underlying ht, h2, Builtin.lenOf, Builtin.firstCells, Nat.min_eq_left hsl, h4, h3, goInt]
end
section
variable {P : Program} {w0 w : World} {L : List Ck} {l : List (Nat × Value)} {ops : List Oper} {Q : Exit → Act → World → Prop} {a : Act} {n : Nat} {o : Oper} {rest : List Oper} {d : Nat} {S : World → Prop} {md : Region.Mode} {fuel : Nat} {listed : Array Bool}
theorem g_storeE (hA : Sl a n l) (hM : Mg w0 w L) (i : Nat) (hi : ops[i]? = some o) (hg : passes l ops o = true) (hdst : o.dst = none) {g q : Nat} {cs us : List Value} {e : TypeId} {sz m cap : Nat} {xs : List Value} (he : Sets P l o w (w.setCells g q cs)) (k : Nat) (hk0 : L[k]? = some (.row e sz (.slice (some ⟨g, 0, none⟩) m cap) m xs)) {L' : List Ck} (hL : L.set k (.row e sz (.slice (some ⟨g, 0, none⟩) m cap) m (over xs q cs)) = L')
    (hk : ∀ w', Mg w0 w' L' → S w' ∧ wpAnyH P md ops.toArray Q S fuel (listed.setIfInBounds i true) a w') : wpOp P ops.toArray Q i (fun a' w' => S w' ∧ wpAnyH P md ops.toArray Q S fuel (listed.setIfInBounds i true) a' w') a w := by
  have h := hk _ (by subst hL; exact Mg.rowPuts cs w L xs q hM k hk0)
  exact op_set hA i hi hg hdst he h.1 h.2
theorem s_copyE (hA : Sl a n l) (hM : Mg w0 w L) (hg : passes l ops o = true) (hdst : o.dst = some d) (hd : Nat.blt d n = true) {g q : Nat} {cs : List Value} {v : Value} {e : TypeId} {sz m cap : Nat} {xs : List Value} (he : Does P l o w v (w.setCells g q cs)) (k : Nat) (hk0 : L[k]? = some (.row e sz (.slice (some ⟨g, 0, none⟩) m cap) m xs)) {L' : List Ck} (hL : L.set k (.row e sz (.slice (some ⟨g, 0, none⟩) m cap) m (over xs q cs)) = L')
    (hk : ∀ w', Mg w0 w' L' → ∀ a', Sl a' n ((d, v) :: l) → wpList P ops.toArray Q rest a' w') : wpList P ops.toArray Q (o :: rest) a w :=
  seq_do hA hg hdst hd he (hk _ (by subst hL; exact Mg.rowPuts cs w L xs q hM k hk0))
/-- A row is made. -/
theorem s_makeE (hA : Sl a n l) (hM : Mg w0 w L) {t e ty : TypeId} {z : Value} {sz by_ : Nat} {dst : Option Tmp} {pos : String} {after : Array Edge} {guard : Option (Nat × Bool)} (ht : P.underlying t = some (.slice e)) (hinfo : (P.info? e).map (fun i => (i.zero, i.size, i.bytes)) = some (some z, sz, by_)) {x y : Operand} {m : Nat} (hx : ev l x = some (.int .i64 ((m : Nat) : Int))) (hy : ev l y = some (.int .i64 ((m : Nat) : Int))) (ho : o = ⟨dst, .makeSlice t x y, ty, pos, after, guard⟩) (hg : passes l ops o = true) (hdst : o.dst = some d) (hd : Nat.blt d n = true) (hb : by_ * m ≤ 281474976710656) (h63 : m ≤ 9223372036854775807) (hnb : e ≠ BY ∨ noBld L)
    (hk : ∀ g w', Mg w0 w' (.row e sz (.slice (some ⟨g, 0, none⟩) m m) m (madeCells z.cells (m * sz)).toList :: L) → ∀ a', Sl a' n ((d, .slice (some ⟨g, 0, none⟩) m m) :: l) → wpList P ops.toArray Q rest a' w') : wpList P ops.toArray Q (o :: rest) a w := by
  subst ho
  obtain ⟨i, hi, hzz⟩ := Option.map_eq_some_iff.1 hinfo
  simp only [Prod.mk.injEq] at hzz
  obtain ⟨hz, hs, hbb⟩ := hzz
  obtain ⟨w', hr, hown, hgr⟩ := run_make_full (P := P) (w := w) w0.heap.size t e i z sz ht hi hz hs .i64 .i64 m (by rw [hbb]; exact hb) (by unfold maxLen; omega) hM.bel.size
  have hbel : Below w.heap.size w w' := ⟨hgr.os, hgr.tape, hgr.output, hgr.size, fun k hk => hgr.block k hk (by simp)⟩
  refine seq_do hA hg hdst hd (v := .slice (some ⟨w.heap.size, 0, none⟩) m m) (w' := w') (fun ρ h => ?_) (hk w.heap.size w' (hM.add hbel hown (fun k e => by simp [Ck.at_, Value.ownBlock] at e; omega) (.inr (.inl ⟨_, _, _, _, _, rfl, hnb⟩))))
  simp only [execOp, h x _ hx, h y _ hy, Sem.run_bind, hr, Result.andThen_ok, Sem.run_pure]
end
/-! ### Names -/
def cmpN (a b : ByteArray) : Int := compareBytes a.data.toList b.data.toList
section
variable {P : Program} {t : TypeId} {x y : Operand} {a b : ByteArray}
end
end Go.Proofs.YtoeofpncdchicaaDoor.G
namespace Go.Proofs.YtoeofpncdchicaaDoor.G
open Go.RowKit Go.Lib
set_option linter.unusedVariables false
set_option linter.unusedSimpArgs false
theorem Rb.takeZ {w : World} {so : Option Addr} {l : List UInt8} (h : Rb w so l) (n : Nat) : Rb w so (l.take n) := by
  refine ⟨fun hne => ?_⟩
  obtain ⟨b, off, h1, h2, h3⟩ := h.pos (fun k => hne (by rw [k]; simp))
  refine ⟨b, off, h1, h2, fun j hj => ?_⟩
  rw [List.length_take] at hj
  rw [h3 j (by omega), List.getD_eq_getElem?_getD, List.getD_eq_getElem?_getD, List.getElem?_take_of_lt (by omega)]
theorem bcz_len (l : List UInt8) : (Lib.byteCells l).length = l.length := by simp [Lib.byteCells]
theorem bcz_one {l : List UInt8} : ∀ u ∈ Lib.byteCells l, u.oneCell' = true := by
  intro u hu
  unfold Lib.byteCells at hu
  obtain ⟨b, _, rfl⟩ := List.mem_map.1 hu
  rfl
theorem bcz_at {l : List UInt8} {j : Nat} {u : Value} (h : (Lib.byteCells l)[j]? = some u) : j < l.length ∧ u = .int .u8 (((l.getD j 0).toNat : Nat) : Int) := by
  have hj := (List.getElem?_eq_some_iff.1 h).1
  rw [bcz_len] at hj
  unfold Lib.byteCells at h
  rw [List.getElem?_map, List.getElem?_eq_getElem hj] at h
  refine ⟨hj, ?_⟩
  simp only [Option.map_some, Option.some.injEq] at h
  rw [← h, List.getD_eq_getElem?_getD, List.getElem?_eq_getElem hj]
  rfl
section
variable {P : Program} {w0 w : World} {L : List Ck} {l : List (Nat × Value)} {dst : Option Tmp} {ty : TypeId} {pos : String} {after : Array Edge} {guard : Option (Nat × Bool)}
/-- Bytes are copied into a row of the call's own. -/
theorem m_copyB {t t2 : TypeId} (ht : P.underlying t = some (.slice BY)) (he : (P.info? BY).map (·.size) = some 1) {x y : Operand} (hM : Mg w0 w L) (k : Nat) {g n cap : Nat} {xs : List Value} (hk : L[k]? = some (.row BY 1 (.slice (some ⟨g, 0, none⟩) n cap) n xs)) {o dl dc : Nat} (hx : ev l x = some (.slice (some ⟨g, o, none⟩) dl dc)) {so : Option Addr} {sc : Nat} {bs : List UInt8} (hb : Rb w so bs) (hy : ev l y = some (.slice so bs.length sc)) (hsl : bs.length ≤ dl) (hr : o + bs.length ≤ n) :
    Does P l ⟨dst, .call ⟨.builtin .copy, #[x, y], #[t, t2]⟩, ty, pos, after, guard⟩ w (.int .i64 ((bs.length : Nat) : Int)) (w.setCells g o (Lib.byteCells bs)) := by
  by_cases hne : bs = []
  · subst hne
    obtain ⟨i, hi, hs⟩ := info_size he
    have h2 : ∀ w : World, (sizeOf BY).run P w = .ok 1 w := fun w => by simp [sizeOf, typeInfo, hi, hs]
    have h3 : w.setCells g o (Lib.byteCells []) = w := rfl
    rw [h3]
    intro ρ h
    cases so <;> simp [execOp, resolve, invoke, builtin, h x _ hx, h y _ hy, Builtin.copy_, run_underlying ht, h2, Builtin.lenOf, Builtin.firstCells, loadCells, loadCellsFrom, storeCells, goInt]
  · obtain ⟨b, off, rfl, _, hc⟩ := hb.pos hne
    exact m_copyE (sz := 1) ht he hM k hk hx hy hsl (by rw [bcz_len]; omega) (fun j u hj => by
      obtain ⟨h1, rfl⟩ := bcz_at hj
      exact hc j h1) bcz_one (by rw [bcz_len]; omega)
/-- A part of bytes, from and to. -/
theorem does_lh {t e : TypeId} (ht : P.underlying t = some (.slice e)) (he : (P.info? e).map (·.size) = some 1) {x y1 y2 : Operand} {so : Option Addr} {n cap lo hi q : Nat} {z1 z2 : Int} (hx : ev l x = some (.slice so n cap)) (hy1 : ev l y1 = some (.int .i64 z1)) (hy2 : ev l y2 = some (.int .i64 z2)) (hz1 : z1 = ((lo : Nat) : Int)) (hz2 : z2 = ((hi : Nat) : Int)) (h1 : lo ≤ hi) (h2 : hi ≤ cap) (hq : hi - lo = q) : Does P l ⟨dst, .slice t x (some y1) (some y2) none, ty, pos, after, guard⟩ w (.slice (dropA so cap lo) q (cap - lo)) w := fun ρ h => by
  subst hz1 hz2 hq
  obtain ⟨i, hii, hs⟩ := info_size he
  have k2 : (sizeOf e).run P w = .ok 1 w := by simp [sizeOf, typeInfo, hii, hs]
  have g1 : (0 : Int) ≤ (lo : Nat) ∧ ((lo : Nat) : Int) ≤ (hi : Int) := ⟨by omega, by omega⟩
  have g2 : (0 : Int) ≤ (hi : Nat) ∧ ((hi : Nat) : Int) ≤ (cap : Int) := ⟨by omega, by omega⟩
  simp only [execOp, h x _ hx, h y1 _ hy1, h y2 _ hy2, Option.map_some, Option.map_none, Instr.sliceAt, Instr.slice, Instr.sliceBounds, Instr.sliceBound, asIntOf, run_underlying ht, Sem.run_bind, Sem.run_pure, Result.andThen_ok, g1, g2, k2, and_self, if_true, Int.toNat_natCast, Nat.mul_one, dropA]
theorem does_fromZ {t e : TypeId} (ht : P.underlying t = some (.slice e)) (he : (P.info? e).map (·.size) = some 1) {x y : Operand} {so : Option Addr} {n cap lo q : Nat} {z : Int} (hx : ev l x = some (.slice so n cap)) (hy : ev l y = some (.int .i64 z)) (hz : z = ((lo : Nat) : Int)) (hp : lo ≤ n) (hq : n - lo = q) : Does P l ⟨dst, .slice t x (some y) none none, ty, pos, after, guard⟩ w (.slice (dropA so cap lo) q (cap - lo)) w := by
  subst hq; exact does_from ht he hx hy hz hp
end
/-- Do the n bytes from a place on lie in m bytes? -/
def inB (m : Nat) (a n : Int) : Bool := decide (0 ≤ a ∧ 0 ≤ n ∧ a ≤ (m : Int) - n)
/-- Bytes with others laid over them at a place. -/
def ovl (a : Nat) (p l : List UInt8) : List UInt8 := l.take a ++ p ++ l.drop (a + p.length)
theorem ovl_len {a : Nat} {p l : List UInt8} (h : a + p.length ≤ l.length) : (ovl a p l).length = l.length := by
  unfold ovl
  rw [List.length_append, List.length_append, List.length_take, List.length_drop]
  omega
theorem over_all {l : List UInt8} {xs : List Value} (h : xs.length = l.length) : over xs 0 (Lib.byteCells l) = Lib.byteCells l := by
  rw [over_eq (by rw [bcz_len]; omega), List.take_zero, List.nil_append, List.drop_eq_nil_of_le (by rw [bcz_len]; omega), List.append_nil]
theorem over_ovl {l p : List UInt8} {a o : Nat} (ho : o = a ∨ (o = 0 ∧ a = l.length)) (h : a + p.length ≤ l.length) : over (Lib.byteCells l) o (Lib.byteCells p) = Lib.byteCells (ovl a p l) := by
  rcases ho with rfl | ⟨rfl, rfl⟩
  · rw [over_eq (by rw [bcz_len, bcz_len]; omega), bcz_len]
    unfold ovl Lib.byteCells
    rw [List.map_append, List.map_append, List.map_take, List.map_drop]
  · have : p = [] := List.length_eq_zero_iff.1 (by omega)
    subst this
    unfold ovl
    rw [List.take_of_length_le (Nat.le_refl _), List.append_nil, List.drop_eq_nil_of_le (by simp), List.append_nil]
    rfl
def cpR (l : List UInt8) (fr : Int) (m : List UInt8) (a n : Int) : List UInt8 × Int :=
  if (inB l.length fr n && inB m.length a n) = true then (ovl a.toNat ((l.drop fr.toNat).take n.toNat) m, 0) else ([], 1)
end Go.Proofs.YtoeofpncdchicaaDoor.G
namespace Go.Proofs.YtoeofpncdchicaaDoor.G
open Go.RowKit
set_option linter.unusedVariables false
set_option linter.unusedSimpArgs false
set_option maxRecDepth 100000

theorem within_any {w : World} {so : Option Addr} {ca : Nat} {l : List UInt8} {ap n : Int} (hl : l.length ≤ 140737488351232) (hap0 : -9223372036854775808 ≤ ap) (hap1 : ap ≤ 9223372036854775807) (hn0 : -9223372036854775808 ≤ n) (hn1 : n ≤ 9223372036854775807) : Calls Tryd.prog 21 #[.slice so l.length ca, .int .i64 ap, .int .i64 n] w fun e w' => e = .returned (.bool (inB l.length ap n)) ∧ Below w.heap.size w w' := by
 have hM : Mg w w ([]) := Mg.start w
 refine walk_of (l := [(0, .slice so l.length ca), (1, .int .i64 ap), (2, .int .i64 n)]) Tryd.func21 rfl Tryd.ntmps21 rfl rfl ?_
 intro Q hret hnorm hP a hA
 refine wp_seq_k (fun K1 hK1 => ?_)
 refine wp_region_lit ?_
 refine seq_do hA rfl rfl rfl (does_assign rfl) ?_
 intro a hA
 refine seq_end ?_
 refine hK1 _ _ ?_
 refine wp_seq_k (fun K2 hK2 => ?_)
 refine wp_region_lit ?_
 refine seq_do hA rfl rfl rfl (does_move rfl) ?_
 intro a hA
 rcases Bool.eq_false_or_eq_true (decide (0 ≤ ap)) with hb3 | hb3
 · have hb3' := of_decide_eq_true hb3
   refine seq_do (v := .bool true) hA rfl rfl rfl (does_bin rfl rfl (fun w => (bin_geq w).trans (by rw [hb3]))) ?_
   intro a hA
   refine seq_do hA rfl rfl rfl (does_move rfl) ?_
   intro a hA
   refine seq_do hA rfl rfl rfl (does_move rfl) ?_
   intro a hA
   rcases Bool.eq_false_or_eq_true (decide (0 ≤ n)) with hb4 | hb4
   · have hb4' := of_decide_eq_true hb4
     refine seq_do (v := .bool true) hA rfl rfl rfl (does_bin rfl rfl (fun w => (bin_geq w).trans (by rw [hb4]))) ?_
     intro a hA
     refine seq_do (v := .bool true) hA rfl rfl rfl (does_pick rfl rfl rfl rfl) ?_
     intro a hA
     refine seq_do hA rfl rfl rfl (does_move rfl) ?_
     intro a hA
     refine seq_do hA rfl rfl rfl (does_move rfl) ?_
     intro a hA
     refine seq_do hA rfl rfl rfl (does_move rfl) ?_
     intro a hA
     refine seq_do (v := .int .i64 (((l.length : Nat) : Int))) hA rfl rfl rfl (does_len Tryd.underlying22 rfl) ?_
     intro a hA
     refine seq_do hA rfl rfl rfl (does_move rfl) ?_
     intro a hA
     refine seq_do (v := .int .i64 (((l.length : Nat) : Int) - n)) hA rfl rfl rfl (does_bin rfl rfl (ar_sub (in_i64 (by omega) (by omega)))) ?_
     intro a hA
     rcases Bool.eq_false_or_eq_true (decide (ap ≤ ((l.length : Nat) : Int) - n)) with hb5 | hb5
     · have hb5' := of_decide_eq_true hb5
       refine seq_do (v := .bool true) hA rfl rfl rfl (does_bin rfl rfl (fun w => (bin_leq w).trans (by rw [hb5]))) ?_
       intro a hA
       refine seq_do (v := .bool true) hA rfl rfl rfl (does_pick rfl rfl rfl rfl) ?_
       intro a hA
       refine seq_do hA rfl rfl rfl (does_assign rfl) ?_
       intro a hA
       refine seq_end ?_
       refine hK2 _ _ ?_
       refine wp_ret ?_
       refine hret _ _ ?_
       refine ends (v := .bool true) hA rfl (.cons (res_tmp rfl) .nil) rfl ?_
       exact ⟨by rw [show inB l.length ap n = true from by unfold inB; apply decide_eq_true; omega], hM.bel⟩
     · have hb5' := of_decide_eq_false hb5
       refine seq_do (v := .bool false) hA rfl rfl rfl (does_bin rfl rfl (fun w => (bin_leq w).trans (by rw [hb5]))) ?_
       intro a hA
       refine seq_do (v := .bool false) hA rfl rfl rfl (does_pick rfl rfl rfl rfl) ?_
       intro a hA
       refine seq_do hA rfl rfl rfl (does_assign rfl) ?_
       intro a hA
       refine seq_end ?_
       refine hK2 _ _ ?_
       refine wp_ret ?_
       refine hret _ _ ?_
       refine ends (v := .bool false) hA rfl (.cons (res_tmp rfl) .nil) rfl ?_
       exact ⟨by rw [show inB l.length ap n = false from by unfold inB; apply decide_eq_false; omega], hM.bel⟩
   · have hb4' := of_decide_eq_false hb4
     refine seq_do (v := .bool false) hA rfl rfl rfl (does_bin rfl rfl (fun w => (bin_geq w).trans (by rw [hb4]))) ?_
     intro a hA
     refine seq_do (v := .bool false) hA rfl rfl rfl (does_pick rfl rfl rfl rfl) ?_
     intro a hA
     refine seq_do hA rfl rfl rfl (does_move rfl) ?_
     intro a hA
     refine seq_skip hA rfl rfl rfl ?_
     intro a hA
     refine seq_skip hA rfl rfl rfl ?_
     intro a hA
     refine seq_skip hA rfl rfl rfl ?_
     intro a hA
     refine seq_skip hA rfl rfl rfl ?_
     intro a hA
     refine seq_skip hA rfl rfl rfl ?_
     intro a hA
     refine seq_skip hA rfl rfl rfl ?_
     intro a hA
     refine seq_do (v := .bool false) hA rfl rfl rfl (does_pick rfl rfl rfl rfl) ?_
     intro a hA
     refine seq_do hA rfl rfl rfl (does_assign rfl) ?_
     intro a hA
     refine seq_end ?_
     refine hK2 _ _ ?_
     refine wp_ret ?_
     refine hret _ _ ?_
     refine ends (v := .bool false) hA rfl (.cons (res_tmp rfl) .nil) rfl ?_
     exact ⟨by rw [show inB l.length ap n = false from by unfold inB; apply decide_eq_false; omega], hM.bel⟩
 · have hb3' := of_decide_eq_false hb3
   refine seq_do (v := .bool false) hA rfl rfl rfl (does_bin rfl rfl (fun w => (bin_geq w).trans (by rw [hb3]))) ?_
   intro a hA
   refine seq_do hA rfl rfl rfl (does_move rfl) ?_
   intro a hA
   refine seq_skip hA rfl rfl rfl ?_
   intro a hA
   refine seq_skip hA rfl rfl rfl ?_
   intro a hA
   refine seq_do (v := .bool false) hA rfl rfl rfl (does_pick rfl rfl rfl rfl) ?_
   intro a hA
   refine seq_do hA rfl rfl rfl (does_move rfl) ?_
   intro a hA
   refine seq_skip hA rfl rfl rfl ?_
   intro a hA
   refine seq_skip hA rfl rfl rfl ?_
   intro a hA
   refine seq_skip hA rfl rfl rfl ?_
   intro a hA
   refine seq_skip hA rfl rfl rfl ?_
   intro a hA
   refine seq_skip hA rfl rfl rfl ?_
   intro a hA
   refine seq_skip hA rfl rfl rfl ?_
   intro a hA
   refine seq_do (v := .bool false) hA rfl rfl rfl (does_pick rfl rfl rfl rfl) ?_
   intro a hA
   refine seq_do hA rfl rfl rfl (does_assign rfl) ?_
   intro a hA
   refine seq_end ?_
   refine hK2 _ _ ?_
   refine wp_ret ?_
   refine hret _ _ ?_
   refine ends (v := .bool false) hA rfl (.cons (res_tmp rfl) .nil) rfl ?_
   exact ⟨by rw [show inB l.length ap n = false from by unfold inB; apply decide_eq_false; omega], hM.bel⟩
theorem within_as {w : World} {so : Option Addr} {ca : Nat} {l : List UInt8} {ap n : Int} (hl : l.length ≤ 140737488351232) (hap0 : -9223372036854775808 ≤ ap) (hap1 : ap ≤ 9223372036854775807) (hn0 : -9223372036854775808 ≤ n) (hn1 : n ≤ 9223372036854775807) {b : Bool} (h : inB l.length ap n = b) : Calls Tryd.prog 21 #[.slice so l.length ca, .int .i64 ap, .int .i64 n] w fun e w' => e = .returned (.bool b) ∧ Below w.heap.size w w' := h ▸ within_any hl hap0 hap1 hn0 hn1
theorem overlaid_any {w : World} {so sp : Option Addr} {ca cp an : Nat} {l p : List UInt8} (hb : Rb w so l) (hp : Rb w sp p) (hl : l.length ≤ 140737488351232) (hle : an + p.length ≤ l.length) : Calls Tryd.prog 33 #[.slice so l.length ca, .int .i64 ((an : Nat) : Int), .slice sp p.length cp] w fun e w' => ∃ v, e = .returned v ∧ Mg w w' [.row BY 1 v (ovl an p l).length (Lib.byteCells (ovl an p l))] := by
 have hM : Mg w w ([]) := Mg.start w
 refine walk_of (l := [(0, .slice so l.length ca), (1, .int .i64 (((an : Nat) : Int))), (2, .slice sp p.length cp)]) Tryd.func33 rfl Tryd.ntmps33 rfl rfl ?_
 intro Q hret hnorm hP a hA
 refine wp_seq_k (fun K1 hK1 => ?_)
 refine wp_region_lit ?_
 refine seq_do hA rfl rfl rfl (does_assign rfl) ?_
 intro a hA
 refine seq_end ?_
 refine hK1 _ _ ?_
 refine wp_seq_k (fun K2 hK2 => ?_)
 refine wp_region_lit ?_
 refine seq_do hA rfl rfl rfl (does_move rfl) ?_
 intro a hA
 refine seq_do (v := .int .i64 (((l.length : Nat) : Int))) hA rfl rfl rfl (does_len Tryd.underlying22 rfl) ?_
 intro a hA
 refine s_makeE (z := .int .u8 0) (sz := 1) (by_ := 1) (m := l.length) hA hM Tryd.underlying22 (by kernel_rfl) rfl rfl rfl rfl rfl rfl (by omega) (by omega) (.inr (noBld_quiet quietL_nil)) ?_
 intro gx w3 hM a hA
 obtain ⟨mz, hmz⟩ : ∃ mz, (madeCells (.int .u8 0 : Value).cells (l.length * 1)).toList = mz := ⟨_, rfl⟩
 rw [hmz] at hM
 have hml : mz.length = l.length := by rw [← hmz, Array.length_toList, size_madeCells, Nat.mul_one]
 refine seq_do hA rfl rfl rfl (does_assign rfl) ?_
 intro a hA
 refine seq_end ?_
 refine hK2 _ _ ?_
 refine wp_seq_k (fun K4 hK4 => ?_)
 refine wp_region_lit ?_
 refine seq_do hA rfl rfl rfl (does_move rfl) ?_
 intro a hA
 refine seq_do hA rfl rfl rfl (does_move rfl) ?_
 intro a hA
 refine s_copyE (v := .int .i64 (((l.length : Nat) : Int))) (cs := Lib.byteCells l) (L' := (.row BY 1 (.slice (some ⟨gx, 0, none⟩) l.length l.length) l.length ((over mz 0 (Lib.byteCells l))) :: [])) hA hM rfl rfl rfl (m_copyB Tryd.underlying22 (by kernel_rfl) hM 0 rfl rfl (hb.below hM.bel) rfl (by omega) (by omega)) 0 rfl rfl ?_
 intro w5 hM a hA
 replace hM : Mg w w5 (.row BY 1 (.slice (some ⟨gx, 0, none⟩) l.length l.length) l.length ((Lib.byteCells l)) :: []) := by
   have h9 := hM
   rw [over_all hml] at h9
   exact h9
 refine seq_end ?_
 refine hK4 _ _ ?_
 refine wp_seq_k (fun K6 hK6 => ?_)
 refine wp_region_lit ?_
 refine seq_do hA rfl rfl rfl (does_move rfl) ?_
 intro a hA
 refine seq_do hA rfl rfl rfl (does_move rfl) ?_
 intro a hA
 obtain ⟨o, ho, hoe⟩ : ∃ o : Nat, (o = an ∨ (o = 0 ∧ an = l.length)) ∧ dropA (some ⟨gx, 0, none⟩) l.length an = some ⟨gx, o, none⟩ := by
   unfold dropA
   by_cases h9 : l.length = an
   · exact ⟨0, .inr ⟨rfl, h9.symm⟩, by rw [if_pos h9]⟩
   · exact ⟨an, .inl rfl, by rw [if_neg h9]; simp [addr_add]⟩
 refine seq_do (v := .slice (some ⟨gx, o, none⟩) ((l.length - an)) ((l.length - an))) hA rfl rfl rfl (hoe ▸ does_from Tryd.underlying22 (by kernel_rfl) rfl rfl rfl (by omega)) ?_
 intro a hA
 refine seq_do hA rfl rfl rfl (does_move rfl) ?_
 intro a hA
 refine s_copyE (v := .int .i64 (((p.length : Nat) : Int))) (cs := Lib.byteCells p) (L' := (.row BY 1 (.slice (some ⟨gx, 0, none⟩) l.length l.length) l.length ((over (Lib.byteCells l) o (Lib.byteCells p))) :: [])) hA hM rfl rfl rfl (m_copyB Tryd.underlying22 (by kernel_rfl) hM 0 rfl rfl (hp.below hM.bel) rfl (by omega) (by omega)) 0 rfl rfl ?_
 intro w7 hM a hA
 replace hM : Mg w w7 (.row BY 1 (.slice (some ⟨gx, 0, none⟩) l.length l.length) l.length ((Lib.byteCells (ovl an p l))) :: []) := by
   have h9 := hM
   rw [over_ovl ho hle] at h9
   exact h9
 refine seq_end ?_
 refine hK6 _ _ ?_
 refine wp_seq_k (fun K8 hK8 => ?_)
 refine wp_region_lit ?_
 refine seq_do hA rfl rfl rfl (does_move rfl) ?_
 intro a hA
 refine seq_do hA rfl rfl rfl (does_assign rfl) ?_
 intro a hA
 refine seq_end ?_
 refine hK8 _ _ ?_
 refine wp_ret ?_
 refine hret _ _ ?_
 refine ends (v := .slice (some ⟨gx, 0, none⟩) l.length l.length) hA rfl (.cons (res_tmp rfl) .nil) rfl ?_
 exact ⟨_, rfl, by rw [ovl_len hle]; exact hM⟩
theorem copy_any {w : World} {so to_ : Option Addr} {ca cb : Nat} {l m : List UInt8} {fr ap n : Int} (hA9 : Rb w so l) (hB : Rb w to_ m) (hl : l.length ≤ 140737488351232) (hm : m.length ≤ 140737488351232) (hca : l.length ≤ ca) (hcb : m.length ≤ cb) (hfr0 : -9223372036854775808 ≤ fr) (hfr1 : fr ≤ 9223372036854775807) (hap0 : -9223372036854775808 ≤ ap) (hap1 : ap ≤ 9223372036854775807) (hn0 : -9223372036854775808 ≤ n) (hn1 : n ≤ 9223372036854775807) : Calls Tryd.prog 11 #[.slice so l.length ca, .int .i64 fr, .slice to_ m.length cb, .int .i64 ap, .int .i64 n] w fun e w' => ∃ v, e = .returned (.tuple #[v, .int .i64 (cpR l fr m ap n).2]) ∧ Mg w w' [.row BY 1 v (cpR l fr m ap n).1.length (Lib.byteCells (cpR l fr m ap n).1)] := by
 have hM : Mg w w ([]) := Mg.start w
 refine walk_of (l := [(0, .slice so l.length ca), (1, .int .i64 fr), (2, .slice to_ m.length cb), (3, .int .i64 ap), (4, .int .i64 n)]) Tryd.func11 rfl Tryd.ntmps11 rfl rfl ?_
 intro Q hret hnorm hP a hA
 refine wp_seq_k (fun K1 hK1 => ?_)
 refine wp_region_lit ?_
 refine seq_do hA rfl rfl rfl (does_assign rfl) ?_
 intro a hA
 refine seq_do hA rfl rfl rfl (does_assign rfl) ?_
 intro a hA
 refine seq_end ?_
 refine hK1 _ _ ?_
 refine wp_seq_k (fun K2 hK2 => ?_)
 refine wp_seq_k (fun K3 hK3 => ?_)
 refine wp_region_lit ?_
 refine seq_do hA rfl rfl rfl (does_move rfl) ?_
 intro a hA
 refine seq_do hA rfl rfl rfl (does_move rfl) ?_
 intro a hA
 refine seq_do hA rfl rfl rfl (does_move rfl) ?_
 intro a hA
 rcases Bool.eq_false_or_eq_true (inB l.length fr n) with hb4 | hb4
 · refine seq_call hA rfl rfl rfl (enters_func rfl rfl (fun w => by kernel_rfl)) (within_as hl hfr0 hfr1 hn0 hn1 hb4) ?_
   rintro _ w6 ⟨rfl, hb5⟩
   replace hM := hM.call hb5
   refine ⟨_, rfl, ?_⟩
   intro a hA
   refine seq_do (v := .bool false) hA rfl rfl rfl (does_un rfl un_not) ?_
   intro a hA
   refine seq_do hA rfl rfl rfl (does_move rfl) ?_
   intro a hA
   refine seq_do hA rfl rfl rfl (does_move rfl) ?_
   intro a hA
   refine seq_do hA rfl rfl rfl (does_move rfl) ?_
   intro a hA
   refine seq_do hA rfl rfl rfl (does_move rfl) ?_
   intro a hA
   rcases Bool.eq_false_or_eq_true (inB m.length ap n) with hb7 | hb7
   · refine seq_call hA rfl rfl rfl (enters_func rfl rfl (fun w => by kernel_rfl)) (within_as hm hap0 hap1 hn0 hn1 hb7) ?_
     rintro _ w9 ⟨rfl, hb8⟩
     replace hM := hM.call hb8
     refine ⟨_, rfl, ?_⟩
     intro a hA
     refine seq_do (v := .bool false) hA rfl rfl rfl (does_un rfl un_not) ?_
     intro a hA
     refine seq_do (v := .bool false) hA rfl rfl rfl (does_pick rfl rfl rfl rfl) ?_
     intro a hA
     refine seq_end ?_
     refine hK3 _ _ ?_
     refine wp_cond_false (hA.ev rfl) ?_
     refine wp_skip ?_
     refine hK2 _ _ ?_
     refine wp_seq_k (fun K10 hK10 => ?_)
     have hqhb4 := of_decide_eq_true (show decide _ = true from hb4)
     have hqhb7 := of_decide_eq_true (show decide _ = true from hb7)
     obtain ⟨fn_, hfn⟩ : ∃ k : Nat, fr = ((k : Nat) : Int) := ⟨fr.toNat, by omega⟩
     obtain ⟨an_, han⟩ : ∃ k : Nat, ap = ((k : Nat) : Int) := ⟨ap.toNat, by omega⟩
     obtain ⟨nn_, hnn⟩ : ∃ k : Nat, n = ((k : Nat) : Int) := ⟨n.toNat, by omega⟩
     subst hfn han hnn
     have hpl : ((l.drop fn_).take nn_).length = nn_ := by rw [List.length_take, List.length_drop]; omega
     refine wp_region_lit ?_
     refine seq_do hA rfl rfl rfl (does_move rfl) ?_
     intro a hA
     refine seq_do hA rfl rfl rfl (does_move rfl) ?_
     intro a hA
     refine seq_do hA rfl rfl rfl (does_move rfl) ?_
     intro a hA
     refine seq_do hA rfl rfl rfl (does_move rfl) ?_
     intro a hA
     refine seq_do hA rfl rfl rfl (does_move rfl) ?_
     intro a hA
     refine seq_do hA rfl rfl rfl (does_move rfl) ?_
     intro a hA
     refine seq_do (v := .int .i64 (((fn_ + nn_ : Nat) : Int))) hA rfl rfl rfl (does_bin rfl rfl (ar_add ((in_i64 (by omega) (by omega)).trans (by omega)))) ?_
     intro a hA
     refine seq_do (v := .slice ((dropA so ca fn_)) (((l.drop fn_).take nn_).length) ((ca - fn_))) hA rfl rfl rfl (does_lh (hi := fn_ + nn_) Tryd.underlying22 (by kernel_rfl) rfl rfl rfl rfl rfl (by omega) (by omega) (by omega)) ?_
     intro a hA
     refine seq_call hA rfl rfl rfl (enters_func rfl rfl (fun w => by kernel_rfl)) ((overlaid_any (an := an_) (ca := cb) (cp := ca - fn_) (l := m) (p := ((l.drop fn_).take nn_)) (hB.below hM.bel) (((hA9.drop ca fn_ hca).takeZ nn_).below hM.bel) hm (by omega))) ?_
     rintro _ w15 ⟨v11, rfl, hM12⟩
     obtain ⟨so13, ca14, rfl⟩ := owns_slice (hM12.has 0 rfl)
     replace hM : Mg w w15 (.row BY 1 (.slice so13 ((ovl an_ ((l.drop fn_).take nn_) m).length) ca14) ((ovl an_ ((l.drop fn_).take nn_) m).length) ((Lib.byteCells (ovl an_ ((l.drop fn_).take nn_) m))) :: []) := (hM.both hM12 (noBld_quiet quietL_nil) (noBld_cons (by simp) (noBld_quiet quietL_nil)))
     refine ⟨_, rfl, ?_⟩
     intro a hA
     refine seq_do hA rfl rfl rfl (does_assign rfl) ?_
     intro a hA
     refine seq_do hA rfl rfl rfl (does_assign rfl) ?_
     intro a hA
     refine seq_end ?_
     refine hK10 _ _ ?_
     refine wp_ret ?_
     refine hret _ _ ?_
     refine ends (v := .tuple #[.slice so13 ((ovl an_ ((l.drop fn_).take nn_) m).length) ca14, .int .i64 0]) hA rfl (.cons (res_tmp rfl) (.cons (res_tmp rfl) .nil)) rfl ?_
     have hcp : cpR l ((fn_ : Nat) : Int) m ((an_ : Nat) : Int) ((nn_ : Nat) : Int) = (ovl an_ ((l.drop fn_).take nn_) m, 0) := by unfold cpR; rw [if_pos (by rw [show inB l.length ((fn_ : Nat) : Int) ((nn_ : Nat) : Int) = true from decide_eq_true (by omega), show inB m.length ((an_ : Nat) : Int) ((nn_ : Nat) : Int) = true from decide_eq_true (by omega)]; rfl), Int.toNat_natCast, Int.toNat_natCast, Int.toNat_natCast]
     rw [hcp]
     exact ⟨_, rfl, hM.sub (.cons_cons _ (.refl _))⟩
   · refine seq_call hA rfl rfl rfl (enters_func rfl rfl (fun w => by kernel_rfl)) (within_as hm hap0 hap1 hn0 hn1 hb7) ?_
     rintro _ w17 ⟨rfl, hb16⟩
     replace hM := hM.call hb16
     refine ⟨_, rfl, ?_⟩
     intro a hA
     refine seq_do (v := .bool true) hA rfl rfl rfl (does_un rfl un_not) ?_
     intro a hA
     refine seq_do (v := .bool true) hA rfl rfl rfl (does_pick rfl rfl rfl rfl) ?_
     intro a hA
     refine seq_end ?_
     refine hK3 _ _ ?_
     refine wp_cond_true (hA.ev rfl) ?_
     refine wp_seq_k (fun K18 hK18 => ?_)
     refine wp_region_lit ?_
     refine seq_do hA rfl rfl rfl (does_assign rfl) ?_
     intro a hA
     refine seq_do hA rfl rfl rfl (does_assign rfl) ?_
     intro a hA
     refine seq_end ?_
     refine hK18 _ _ ?_
     refine wp_ret ?_
     refine hret _ _ ?_
     refine ends (v := .tuple #[.slice none 0 0, .int .i64 1]) hA rfl (.cons (res_tmp rfl) (.cons (res_tmp rfl) .nil)) rfl ?_
     rw [show cpR l fr m ap n = ([], 1) from by unfold cpR; rw [if_neg (by simp; intro _; exact hb7)]]
     exact ⟨_, rfl, Mg.addNil (hM.sub (List.nil_sublist _)) (noBld_quiet quietL_nil)⟩
 · refine seq_call hA rfl rfl rfl (enters_func rfl rfl (fun w => by kernel_rfl)) (within_as hl hfr0 hfr1 hn0 hn1 hb4) ?_
   rintro _ w20 ⟨rfl, hb19⟩
   replace hM := hM.call hb19
   refine ⟨_, rfl, ?_⟩
   intro a hA
   refine seq_do (v := .bool true) hA rfl rfl rfl (does_un rfl un_not) ?_
   intro a hA
   refine seq_do hA rfl rfl rfl (does_move rfl) ?_
   intro a hA
   refine seq_skip hA rfl rfl rfl ?_
   intro a hA
   refine seq_skip hA rfl rfl rfl ?_
   intro a hA
   refine seq_skip hA rfl rfl rfl ?_
   intro a hA
   refine seq_skip hA rfl rfl rfl ?_
   intro a hA
   refine seq_skip hA rfl rfl rfl ?_
   intro a hA
   refine seq_do (v := .bool true) hA rfl rfl rfl (does_pick rfl rfl rfl rfl) ?_
   intro a hA
   refine seq_end ?_
   refine hK3 _ _ ?_
   refine wp_cond_true (hA.ev rfl) ?_
   refine wp_seq_k (fun K21 hK21 => ?_)
   refine wp_region_lit ?_
   refine seq_do hA rfl rfl rfl (does_assign rfl) ?_
   intro a hA
   refine seq_do hA rfl rfl rfl (does_assign rfl) ?_
   intro a hA
   refine seq_end ?_
   refine hK21 _ _ ?_
   refine wp_ret ?_
   refine hret _ _ ?_
   refine ends (v := .tuple #[.slice none 0 0, .int .i64 1]) hA rfl (.cons (res_tmp rfl) (.cons (res_tmp rfl) .nil)) rfl ?_
   rw [show cpR l fr m ap n = ([], 1) from by unfold cpR; rw [if_neg (by simp; intro k9; rw [hb4] at k9; cases k9)]]
   exact ⟨_, rfl, Mg.addNil (hM.sub (List.nil_sublist _)) (noBld_quiet quietL_nil)⟩
theorem rcopyB_any {w : World} {so to_ : Option Addr} {ca cb : Nat} {l m : List UInt8} {fr ap n : Int} (hA9 : Rb w so l) (hB : Rb w to_ m) (hl : l.length ≤ 140737488351232) (hm : m.length ≤ 140737488351232) (hca : l.length ≤ ca) (hcb : m.length ≤ cb) (hfr0 : -9223372036854775808 ≤ fr) (hfr1 : fr ≤ 9223372036854775807) (hap0 : -9223372036854775808 ≤ ap) (hap1 : ap ≤ 9223372036854775807) (hn0 : -9223372036854775808 ≤ n) (hn1 : n ≤ 9223372036854775807) : Calls Tryd.prog 12 #[.slice so l.length ca, .int .i64 fr, .slice to_ m.length cb, .int .i64 ap, .int .i64 n] w fun e w' => ∃ v, e = .returned (.tuple #[v, .int .i64 (cpR l fr m ap n).2]) ∧ Mg w w' [.row BY 1 v (cpR l fr m ap n).1.length (Lib.byteCells (cpR l fr m ap n).1)] := by
 have hM : Mg w w ([]) := Mg.start w
 refine walk_of (l := [(0, .slice so l.length ca), (1, .int .i64 fr), (2, .slice to_ m.length cb), (3, .int .i64 ap), (4, .int .i64 n)]) Tryd.func12 rfl Tryd.ntmps12 rfl rfl ?_
 intro Q hret hnorm hP a hA
 refine wp_seq_k (fun K1 hK1 => ?_)
 refine wp_region_lit ?_
 refine seq_do hA rfl rfl rfl (does_assign rfl) ?_
 intro a hA
 refine seq_do hA rfl rfl rfl (does_assign rfl) ?_
 intro a hA
 refine seq_end ?_
 refine hK1 _ _ ?_
 refine wp_seq_k (fun K2 hK2 => ?_)
 refine wp_seq_k (fun K3 hK3 => ?_)
 refine wp_region_lit ?_
 refine seq_do hA rfl rfl rfl (does_move rfl) ?_
 intro a hA
 rcases Bool.eq_false_or_eq_true (decide (fr < 0)) with hb4 | hb4
 · have hb4' := of_decide_eq_true hb4
   refine seq_do (v := .bool true) hA rfl rfl rfl (does_bin rfl rfl (fun w => (bin_lss w).trans (by rw [hb4]))) ?_
   intro a hA
   refine seq_do hA rfl rfl rfl (does_move rfl) ?_
   intro a hA
   refine seq_skip hA rfl rfl rfl ?_
   intro a hA
   refine seq_skip hA rfl rfl rfl ?_
   intro a hA
   refine seq_do (v := .bool true) hA rfl rfl rfl (does_pick rfl rfl rfl rfl) ?_
   intro a hA
   refine seq_do hA rfl rfl rfl (does_move rfl) ?_
   intro a hA
   refine seq_skip hA rfl rfl rfl ?_
   intro a hA
   refine seq_skip hA rfl rfl rfl ?_
   intro a hA
   refine seq_do (v := .bool true) hA rfl rfl rfl (does_pick rfl rfl rfl rfl) ?_
   intro a hA
   refine seq_do hA rfl rfl rfl (does_move rfl) ?_
   intro a hA
   refine seq_skip hA rfl rfl rfl ?_
   intro a hA
   refine seq_skip hA rfl rfl rfl ?_
   intro a hA
   refine seq_skip hA rfl rfl rfl ?_
   intro a hA
   refine seq_skip hA rfl rfl rfl ?_
   intro a hA
   refine seq_do (v := .bool true) hA rfl rfl rfl (does_pick rfl rfl rfl rfl) ?_
   intro a hA
   refine seq_do hA rfl rfl rfl (does_move rfl) ?_
   intro a hA
   refine seq_skip hA rfl rfl rfl ?_
   intro a hA
   refine seq_skip hA rfl rfl rfl ?_
   intro a hA
   refine seq_skip hA rfl rfl rfl ?_
   intro a hA
   refine seq_skip hA rfl rfl rfl ?_
   intro a hA
   refine seq_do (v := .bool true) hA rfl rfl rfl (does_pick rfl rfl rfl rfl) ?_
   intro a hA
   refine seq_do hA rfl rfl rfl (does_move rfl) ?_
   intro a hA
   refine seq_skip hA rfl rfl rfl ?_
   intro a hA
   refine seq_skip hA rfl rfl rfl ?_
   intro a hA
   refine seq_skip hA rfl rfl rfl ?_
   intro a hA
   refine seq_skip hA rfl rfl rfl ?_
   intro a hA
   refine seq_skip hA rfl rfl rfl ?_
   intro a hA
   refine seq_skip hA rfl rfl rfl ?_
   intro a hA
   refine seq_do (v := .bool true) hA rfl rfl rfl (does_pick rfl rfl rfl rfl) ?_
   intro a hA
   refine seq_do hA rfl rfl rfl (does_move rfl) ?_
   intro a hA
   refine seq_skip hA rfl rfl rfl ?_
   intro a hA
   refine seq_skip hA rfl rfl rfl ?_
   intro a hA
   refine seq_skip hA rfl rfl rfl ?_
   intro a hA
   refine seq_skip hA rfl rfl rfl ?_
   intro a hA
   refine seq_skip hA rfl rfl rfl ?_
   intro a hA
   refine seq_skip hA rfl rfl rfl ?_
   intro a hA
   refine seq_do (v := .bool true) hA rfl rfl rfl (does_pick rfl rfl rfl rfl) ?_
   intro a hA
   refine seq_end ?_
   refine hK3 _ _ ?_
   refine wp_cond_true (hA.ev rfl) ?_
   refine wp_seq_k (fun K5 hK5 => ?_)
   refine wp_region_lit ?_
   refine seq_do hA rfl rfl rfl (does_assign rfl) ?_
   intro a hA
   refine seq_do hA rfl rfl rfl (does_assign rfl) ?_
   intro a hA
   refine seq_end ?_
   refine hK5 _ _ ?_
   refine wp_ret ?_
   refine hret _ _ ?_
   refine ends (v := .tuple #[.slice none 0 0, .int .i64 1]) hA rfl (.cons (res_tmp rfl) (.cons (res_tmp rfl) .nil)) rfl ?_
   rw [show cpR l fr m ap n = ([], 1) from by unfold cpR; rw [if_neg (by rw [Bool.and_eq_true]; unfold inB; rw [decide_eq_true_eq, decide_eq_true_eq]; omega)]]
   exact ⟨_, rfl, Mg.addNil (hM.sub (List.nil_sublist _)) (noBld_quiet quietL_nil)⟩
 · have hb4' := of_decide_eq_false hb4
   refine seq_do (v := .bool false) hA rfl rfl rfl (does_bin rfl rfl (fun w => (bin_lss w).trans (by rw [hb4]))) ?_
   intro a hA
   refine seq_do hA rfl rfl rfl (does_move rfl) ?_
   intro a hA
   refine seq_do hA rfl rfl rfl (does_move rfl) ?_
   intro a hA
   rcases Bool.eq_false_or_eq_true (decide (ap < 0)) with hb6 | hb6
   · have hb6' := of_decide_eq_true hb6
     refine seq_do (v := .bool true) hA rfl rfl rfl (does_bin rfl rfl (fun w => (bin_lss w).trans (by rw [hb6]))) ?_
     intro a hA
     refine seq_do (v := .bool true) hA rfl rfl rfl (does_pick rfl rfl rfl rfl) ?_
     intro a hA
     refine seq_do hA rfl rfl rfl (does_move rfl) ?_
     intro a hA
     refine seq_skip hA rfl rfl rfl ?_
     intro a hA
     refine seq_skip hA rfl rfl rfl ?_
     intro a hA
     refine seq_do (v := .bool true) hA rfl rfl rfl (does_pick rfl rfl rfl rfl) ?_
     intro a hA
     refine seq_do hA rfl rfl rfl (does_move rfl) ?_
     intro a hA
     refine seq_skip hA rfl rfl rfl ?_
     intro a hA
     refine seq_skip hA rfl rfl rfl ?_
     intro a hA
     refine seq_skip hA rfl rfl rfl ?_
     intro a hA
     refine seq_skip hA rfl rfl rfl ?_
     intro a hA
     refine seq_do (v := .bool true) hA rfl rfl rfl (does_pick rfl rfl rfl rfl) ?_
     intro a hA
     refine seq_do hA rfl rfl rfl (does_move rfl) ?_
     intro a hA
     refine seq_skip hA rfl rfl rfl ?_
     intro a hA
     refine seq_skip hA rfl rfl rfl ?_
     intro a hA
     refine seq_skip hA rfl rfl rfl ?_
     intro a hA
     refine seq_skip hA rfl rfl rfl ?_
     intro a hA
     refine seq_do (v := .bool true) hA rfl rfl rfl (does_pick rfl rfl rfl rfl) ?_
     intro a hA
     refine seq_do hA rfl rfl rfl (does_move rfl) ?_
     intro a hA
     refine seq_skip hA rfl rfl rfl ?_
     intro a hA
     refine seq_skip hA rfl rfl rfl ?_
     intro a hA
     refine seq_skip hA rfl rfl rfl ?_
     intro a hA
     refine seq_skip hA rfl rfl rfl ?_
     intro a hA
     refine seq_skip hA rfl rfl rfl ?_
     intro a hA
     refine seq_skip hA rfl rfl rfl ?_
     intro a hA
     refine seq_do (v := .bool true) hA rfl rfl rfl (does_pick rfl rfl rfl rfl) ?_
     intro a hA
     refine seq_do hA rfl rfl rfl (does_move rfl) ?_
     intro a hA
     refine seq_skip hA rfl rfl rfl ?_
     intro a hA
     refine seq_skip hA rfl rfl rfl ?_
     intro a hA
     refine seq_skip hA rfl rfl rfl ?_
     intro a hA
     refine seq_skip hA rfl rfl rfl ?_
     intro a hA
     refine seq_skip hA rfl rfl rfl ?_
     intro a hA
     refine seq_skip hA rfl rfl rfl ?_
     intro a hA
     refine seq_do (v := .bool true) hA rfl rfl rfl (does_pick rfl rfl rfl rfl) ?_
     intro a hA
     refine seq_end ?_
     refine hK3 _ _ ?_
     refine wp_cond_true (hA.ev rfl) ?_
     refine wp_seq_k (fun K7 hK7 => ?_)
     refine wp_region_lit ?_
     refine seq_do hA rfl rfl rfl (does_assign rfl) ?_
     intro a hA
     refine seq_do hA rfl rfl rfl (does_assign rfl) ?_
     intro a hA
     refine seq_end ?_
     refine hK7 _ _ ?_
     refine wp_ret ?_
     refine hret _ _ ?_
     refine ends (v := .tuple #[.slice none 0 0, .int .i64 1]) hA rfl (.cons (res_tmp rfl) (.cons (res_tmp rfl) .nil)) rfl ?_
     rw [show cpR l fr m ap n = ([], 1) from by unfold cpR; rw [if_neg (by rw [Bool.and_eq_true]; unfold inB; rw [decide_eq_true_eq, decide_eq_true_eq]; omega)]]
     exact ⟨_, rfl, Mg.addNil (hM.sub (List.nil_sublist _)) (noBld_quiet quietL_nil)⟩
   · have hb6' := of_decide_eq_false hb6
     refine seq_do (v := .bool false) hA rfl rfl rfl (does_bin rfl rfl (fun w => (bin_lss w).trans (by rw [hb6]))) ?_
     intro a hA
     refine seq_do (v := .bool false) hA rfl rfl rfl (does_pick rfl rfl rfl rfl) ?_
     intro a hA
     refine seq_do hA rfl rfl rfl (does_move rfl) ?_
     intro a hA
     refine seq_do hA rfl rfl rfl (does_move rfl) ?_
     intro a hA
     rcases Bool.eq_false_or_eq_true (decide (n < 0)) with hb8 | hb8
     · have hb8' := of_decide_eq_true hb8
       refine seq_do (v := .bool true) hA rfl rfl rfl (does_bin rfl rfl (fun w => (bin_lss w).trans (by rw [hb8]))) ?_
       intro a hA
       refine seq_do (v := .bool true) hA rfl rfl rfl (does_pick rfl rfl rfl rfl) ?_
       intro a hA
       refine seq_do hA rfl rfl rfl (does_move rfl) ?_
       intro a hA
       refine seq_skip hA rfl rfl rfl ?_
       intro a hA
       refine seq_skip hA rfl rfl rfl ?_
       intro a hA
       refine seq_skip hA rfl rfl rfl ?_
       intro a hA
       refine seq_skip hA rfl rfl rfl ?_
       intro a hA
       refine seq_do (v := .bool true) hA rfl rfl rfl (does_pick rfl rfl rfl rfl) ?_
       intro a hA
       refine seq_do hA rfl rfl rfl (does_move rfl) ?_
       intro a hA
       refine seq_skip hA rfl rfl rfl ?_
       intro a hA
       refine seq_skip hA rfl rfl rfl ?_
       intro a hA
       refine seq_skip hA rfl rfl rfl ?_
       intro a hA
       refine seq_skip hA rfl rfl rfl ?_
       intro a hA
       refine seq_do (v := .bool true) hA rfl rfl rfl (does_pick rfl rfl rfl rfl) ?_
       intro a hA
       refine seq_do hA rfl rfl rfl (does_move rfl) ?_
       intro a hA
       refine seq_skip hA rfl rfl rfl ?_
       intro a hA
       refine seq_skip hA rfl rfl rfl ?_
       intro a hA
       refine seq_skip hA rfl rfl rfl ?_
       intro a hA
       refine seq_skip hA rfl rfl rfl ?_
       intro a hA
       refine seq_skip hA rfl rfl rfl ?_
       intro a hA
       refine seq_skip hA rfl rfl rfl ?_
       intro a hA
       refine seq_do (v := .bool true) hA rfl rfl rfl (does_pick rfl rfl rfl rfl) ?_
       intro a hA
       refine seq_do hA rfl rfl rfl (does_move rfl) ?_
       intro a hA
       refine seq_skip hA rfl rfl rfl ?_
       intro a hA
       refine seq_skip hA rfl rfl rfl ?_
       intro a hA
       refine seq_skip hA rfl rfl rfl ?_
       intro a hA
       refine seq_skip hA rfl rfl rfl ?_
       intro a hA
       refine seq_skip hA rfl rfl rfl ?_
       intro a hA
       refine seq_skip hA rfl rfl rfl ?_
       intro a hA
       refine seq_do (v := .bool true) hA rfl rfl rfl (does_pick rfl rfl rfl rfl) ?_
       intro a hA
       refine seq_end ?_
       refine hK3 _ _ ?_
       refine wp_cond_true (hA.ev rfl) ?_
       refine wp_seq_k (fun K9 hK9 => ?_)
       refine wp_region_lit ?_
       refine seq_do hA rfl rfl rfl (does_assign rfl) ?_
       intro a hA
       refine seq_do hA rfl rfl rfl (does_assign rfl) ?_
       intro a hA
       refine seq_end ?_
       refine hK9 _ _ ?_
       refine wp_ret ?_
       refine hret _ _ ?_
       refine ends (v := .tuple #[.slice none 0 0, .int .i64 1]) hA rfl (.cons (res_tmp rfl) (.cons (res_tmp rfl) .nil)) rfl ?_
       rw [show cpR l fr m ap n = ([], 1) from by unfold cpR; rw [if_neg (by rw [Bool.and_eq_true]; unfold inB; rw [decide_eq_true_eq, decide_eq_true_eq]; omega)]]
       exact ⟨_, rfl, Mg.addNil (hM.sub (List.nil_sublist _)) (noBld_quiet quietL_nil)⟩
     · have hb8' := of_decide_eq_false hb8
       refine seq_do (v := .bool false) hA rfl rfl rfl (does_bin rfl rfl (fun w => (bin_lss w).trans (by rw [hb8]))) ?_
       intro a hA
       refine seq_do (v := .bool false) hA rfl rfl rfl (does_pick rfl rfl rfl rfl) ?_
       intro a hA
       refine seq_do hA rfl rfl rfl (does_move rfl) ?_
       intro a hA
       refine seq_do hA rfl rfl rfl (does_move rfl) ?_
       intro a hA
       refine seq_do hA rfl rfl rfl (does_move rfl) ?_
       intro a hA
       refine seq_do (v := .int .i64 (((l.length : Nat) : Int))) hA rfl rfl rfl (does_len Tryd.underlying22 rfl) ?_
       intro a hA
       rcases Bool.eq_false_or_eq_true (decide (((l.length : Nat) : Int) < n)) with hb10 | hb10
       · have hb10' := of_decide_eq_true hb10
         refine seq_do (v := .bool true) hA rfl rfl rfl (does_bin rfl rfl (fun w => (bin_gtr w).trans (by rw [hb10]))) ?_
         intro a hA
         refine seq_do (v := .bool true) hA rfl rfl rfl (does_pick rfl rfl rfl rfl) ?_
         intro a hA
         refine seq_do hA rfl rfl rfl (does_move rfl) ?_
         intro a hA
         refine seq_skip hA rfl rfl rfl ?_
         intro a hA
         refine seq_skip hA rfl rfl rfl ?_
         intro a hA
         refine seq_skip hA rfl rfl rfl ?_
         intro a hA
         refine seq_skip hA rfl rfl rfl ?_
         intro a hA
         refine seq_do (v := .bool true) hA rfl rfl rfl (does_pick rfl rfl rfl rfl) ?_
         intro a hA
         refine seq_do hA rfl rfl rfl (does_move rfl) ?_
         intro a hA
         refine seq_skip hA rfl rfl rfl ?_
         intro a hA
         refine seq_skip hA rfl rfl rfl ?_
         intro a hA
         refine seq_skip hA rfl rfl rfl ?_
         intro a hA
         refine seq_skip hA rfl rfl rfl ?_
         intro a hA
         refine seq_skip hA rfl rfl rfl ?_
         intro a hA
         refine seq_skip hA rfl rfl rfl ?_
         intro a hA
         refine seq_do (v := .bool true) hA rfl rfl rfl (does_pick rfl rfl rfl rfl) ?_
         intro a hA
         refine seq_do hA rfl rfl rfl (does_move rfl) ?_
         intro a hA
         refine seq_skip hA rfl rfl rfl ?_
         intro a hA
         refine seq_skip hA rfl rfl rfl ?_
         intro a hA
         refine seq_skip hA rfl rfl rfl ?_
         intro a hA
         refine seq_skip hA rfl rfl rfl ?_
         intro a hA
         refine seq_skip hA rfl rfl rfl ?_
         intro a hA
         refine seq_skip hA rfl rfl rfl ?_
         intro a hA
         refine seq_do (v := .bool true) hA rfl rfl rfl (does_pick rfl rfl rfl rfl) ?_
         intro a hA
         refine seq_end ?_
         refine hK3 _ _ ?_
         refine wp_cond_true (hA.ev rfl) ?_
         refine wp_seq_k (fun K11 hK11 => ?_)
         refine wp_region_lit ?_
         refine seq_do hA rfl rfl rfl (does_assign rfl) ?_
         intro a hA
         refine seq_do hA rfl rfl rfl (does_assign rfl) ?_
         intro a hA
         refine seq_end ?_
         refine hK11 _ _ ?_
         refine wp_ret ?_
         refine hret _ _ ?_
         refine ends (v := .tuple #[.slice none 0 0, .int .i64 1]) hA rfl (.cons (res_tmp rfl) (.cons (res_tmp rfl) .nil)) rfl ?_
         rw [show cpR l fr m ap n = ([], 1) from by unfold cpR; rw [if_neg (by rw [Bool.and_eq_true]; unfold inB; rw [decide_eq_true_eq, decide_eq_true_eq]; omega)]]
         exact ⟨_, rfl, Mg.addNil (hM.sub (List.nil_sublist _)) (noBld_quiet quietL_nil)⟩
       · have hb10' := of_decide_eq_false hb10
         refine seq_do (v := .bool false) hA rfl rfl rfl (does_bin rfl rfl (fun w => (bin_gtr w).trans (by rw [hb10]))) ?_
         intro a hA
         refine seq_do (v := .bool false) hA rfl rfl rfl (does_pick rfl rfl rfl rfl) ?_
         intro a hA
         refine seq_do hA rfl rfl rfl (does_move rfl) ?_
         intro a hA
         refine seq_do hA rfl rfl rfl (does_move rfl) ?_
         intro a hA
         refine seq_do hA rfl rfl rfl (does_move rfl) ?_
         intro a hA
         refine seq_do (v := .int .i64 (((m.length : Nat) : Int))) hA rfl rfl rfl (does_len Tryd.underlying22 rfl) ?_
         intro a hA
         rcases Bool.eq_false_or_eq_true (decide (((m.length : Nat) : Int) < n)) with hb12 | hb12
         · have hb12' := of_decide_eq_true hb12
           refine seq_do (v := .bool true) hA rfl rfl rfl (does_bin rfl rfl (fun w => (bin_gtr w).trans (by rw [hb12]))) ?_
           intro a hA
           refine seq_do (v := .bool true) hA rfl rfl rfl (does_pick rfl rfl rfl rfl) ?_
           intro a hA
           refine seq_do hA rfl rfl rfl (does_move rfl) ?_
           intro a hA
           refine seq_skip hA rfl rfl rfl ?_
           intro a hA
           refine seq_skip hA rfl rfl rfl ?_
           intro a hA
           refine seq_skip hA rfl rfl rfl ?_
           intro a hA
           refine seq_skip hA rfl rfl rfl ?_
           intro a hA
           refine seq_skip hA rfl rfl rfl ?_
           intro a hA
           refine seq_skip hA rfl rfl rfl ?_
           intro a hA
           refine seq_do (v := .bool true) hA rfl rfl rfl (does_pick rfl rfl rfl rfl) ?_
           intro a hA
           refine seq_do hA rfl rfl rfl (does_move rfl) ?_
           intro a hA
           refine seq_skip hA rfl rfl rfl ?_
           intro a hA
           refine seq_skip hA rfl rfl rfl ?_
           intro a hA
           refine seq_skip hA rfl rfl rfl ?_
           intro a hA
           refine seq_skip hA rfl rfl rfl ?_
           intro a hA
           refine seq_skip hA rfl rfl rfl ?_
           intro a hA
           refine seq_skip hA rfl rfl rfl ?_
           intro a hA
           refine seq_do (v := .bool true) hA rfl rfl rfl (does_pick rfl rfl rfl rfl) ?_
           intro a hA
           refine seq_end ?_
           refine hK3 _ _ ?_
           refine wp_cond_true (hA.ev rfl) ?_
           refine wp_seq_k (fun K13 hK13 => ?_)
           refine wp_region_lit ?_
           refine seq_do hA rfl rfl rfl (does_assign rfl) ?_
           intro a hA
           refine seq_do hA rfl rfl rfl (does_assign rfl) ?_
           intro a hA
           refine seq_end ?_
           refine hK13 _ _ ?_
           refine wp_ret ?_
           refine hret _ _ ?_
           refine ends (v := .tuple #[.slice none 0 0, .int .i64 1]) hA rfl (.cons (res_tmp rfl) (.cons (res_tmp rfl) .nil)) rfl ?_
           rw [show cpR l fr m ap n = ([], 1) from by unfold cpR; rw [if_neg (by rw [Bool.and_eq_true]; unfold inB; rw [decide_eq_true_eq, decide_eq_true_eq]; omega)]]
           exact ⟨_, rfl, Mg.addNil (hM.sub (List.nil_sublist _)) (noBld_quiet quietL_nil)⟩
         · have hb12' := of_decide_eq_false hb12
           refine seq_do (v := .bool false) hA rfl rfl rfl (does_bin rfl rfl (fun w => (bin_gtr w).trans (by rw [hb12]))) ?_
           intro a hA
           refine seq_do (v := .bool false) hA rfl rfl rfl (does_pick rfl rfl rfl rfl) ?_
           intro a hA
           refine seq_do hA rfl rfl rfl (does_move rfl) ?_
           intro a hA
           refine seq_do hA rfl rfl rfl (does_move rfl) ?_
           intro a hA
           refine seq_do hA rfl rfl rfl (does_move rfl) ?_
           intro a hA
           refine seq_do (v := .int .i64 (((l.length : Nat) : Int))) hA rfl rfl rfl (does_len Tryd.underlying22 rfl) ?_
           intro a hA
           refine seq_do hA rfl rfl rfl (does_move rfl) ?_
           intro a hA
           refine seq_do (v := .int .i64 (((l.length : Nat) : Int) - n)) hA rfl rfl rfl (does_bin rfl rfl (ar_sub (in_i64 (by omega) (by omega)))) ?_
           intro a hA
           rcases Bool.eq_false_or_eq_true (decide (((l.length : Nat) : Int) - n < fr)) with hb14 | hb14
           · have hb14' := of_decide_eq_true hb14
             refine seq_do (v := .bool true) hA rfl rfl rfl (does_bin rfl rfl (fun w => (bin_gtr w).trans (by rw [hb14]))) ?_
             intro a hA
             refine seq_do (v := .bool true) hA rfl rfl rfl (does_pick rfl rfl rfl rfl) ?_
             intro a hA
             refine seq_do hA rfl rfl rfl (does_move rfl) ?_
             intro a hA
             refine seq_skip hA rfl rfl rfl ?_
             intro a hA
             refine seq_skip hA rfl rfl rfl ?_
             intro a hA
             refine seq_skip hA rfl rfl rfl ?_
             intro a hA
             refine seq_skip hA rfl rfl rfl ?_
             intro a hA
             refine seq_skip hA rfl rfl rfl ?_
             intro a hA
             refine seq_skip hA rfl rfl rfl ?_
             intro a hA
             refine seq_do (v := .bool true) hA rfl rfl rfl (does_pick rfl rfl rfl rfl) ?_
             intro a hA
             refine seq_end ?_
             refine hK3 _ _ ?_
             refine wp_cond_true (hA.ev rfl) ?_
             refine wp_seq_k (fun K15 hK15 => ?_)
             refine wp_region_lit ?_
             refine seq_do hA rfl rfl rfl (does_assign rfl) ?_
             intro a hA
             refine seq_do hA rfl rfl rfl (does_assign rfl) ?_
             intro a hA
             refine seq_end ?_
             refine hK15 _ _ ?_
             refine wp_ret ?_
             refine hret _ _ ?_
             refine ends (v := .tuple #[.slice none 0 0, .int .i64 1]) hA rfl (.cons (res_tmp rfl) (.cons (res_tmp rfl) .nil)) rfl ?_
             rw [show cpR l fr m ap n = ([], 1) from by unfold cpR; rw [if_neg (by rw [Bool.and_eq_true]; unfold inB; rw [decide_eq_true_eq, decide_eq_true_eq]; omega)]]
             exact ⟨_, rfl, Mg.addNil (hM.sub (List.nil_sublist _)) (noBld_quiet quietL_nil)⟩
           · have hb14' := of_decide_eq_false hb14
             refine seq_do (v := .bool false) hA rfl rfl rfl (does_bin rfl rfl (fun w => (bin_gtr w).trans (by rw [hb14]))) ?_
             intro a hA
             refine seq_do (v := .bool false) hA rfl rfl rfl (does_pick rfl rfl rfl rfl) ?_
             intro a hA
             refine seq_do hA rfl rfl rfl (does_move rfl) ?_
             intro a hA
             refine seq_do hA rfl rfl rfl (does_move rfl) ?_
             intro a hA
             refine seq_do hA rfl rfl rfl (does_move rfl) ?_
             intro a hA
             refine seq_do (v := .int .i64 (((m.length : Nat) : Int))) hA rfl rfl rfl (does_len Tryd.underlying22 rfl) ?_
             intro a hA
             refine seq_do hA rfl rfl rfl (does_move rfl) ?_
             intro a hA
             refine seq_do (v := .int .i64 (((m.length : Nat) : Int) - n)) hA rfl rfl rfl (does_bin rfl rfl (ar_sub (in_i64 (by omega) (by omega)))) ?_
             intro a hA
             rcases Bool.eq_false_or_eq_true (decide (((m.length : Nat) : Int) - n < ap)) with hb16 | hb16
             · have hb16' := of_decide_eq_true hb16
               refine seq_do (v := .bool true) hA rfl rfl rfl (does_bin rfl rfl (fun w => (bin_gtr w).trans (by rw [hb16]))) ?_
               intro a hA
               refine seq_do (v := .bool true) hA rfl rfl rfl (does_pick rfl rfl rfl rfl) ?_
               intro a hA
               refine seq_end ?_
               refine hK3 _ _ ?_
               refine wp_cond_true (hA.ev rfl) ?_
               refine wp_seq_k (fun K17 hK17 => ?_)
               refine wp_region_lit ?_
               refine seq_do hA rfl rfl rfl (does_assign rfl) ?_
               intro a hA
               refine seq_do hA rfl rfl rfl (does_assign rfl) ?_
               intro a hA
               refine seq_end ?_
               refine hK17 _ _ ?_
               refine wp_ret ?_
               refine hret _ _ ?_
               refine ends (v := .tuple #[.slice none 0 0, .int .i64 1]) hA rfl (.cons (res_tmp rfl) (.cons (res_tmp rfl) .nil)) rfl ?_
               rw [show cpR l fr m ap n = ([], 1) from by unfold cpR; rw [if_neg (by rw [Bool.and_eq_true]; unfold inB; rw [decide_eq_true_eq, decide_eq_true_eq]; omega)]]
               exact ⟨_, rfl, Mg.addNil (hM.sub (List.nil_sublist _)) (noBld_quiet quietL_nil)⟩
             · have hb16' := of_decide_eq_false hb16
               refine seq_do (v := .bool false) hA rfl rfl rfl (does_bin rfl rfl (fun w => (bin_gtr w).trans (by rw [hb16]))) ?_
               intro a hA
               refine seq_do (v := .bool false) hA rfl rfl rfl (does_pick rfl rfl rfl rfl) ?_
               intro a hA
               refine seq_end ?_
               refine hK3 _ _ ?_
               refine wp_cond_false (hA.ev rfl) ?_
               refine wp_skip ?_
               refine hK2 _ _ ?_
               refine wp_seq_k (fun K18 hK18 => ?_)
               obtain ⟨fn_, hfn⟩ : ∃ k : Nat, fr = ((k : Nat) : Int) := ⟨fr.toNat, by omega⟩
               obtain ⟨an_, han⟩ : ∃ k : Nat, ap = ((k : Nat) : Int) := ⟨ap.toNat, by omega⟩
               obtain ⟨nn_, hnn⟩ : ∃ k : Nat, n = ((k : Nat) : Int) := ⟨n.toNat, by omega⟩
               subst hfn han hnn
               have hpl : ((l.drop fn_).take nn_).length = nn_ := by rw [List.length_take, List.length_drop]; omega
               refine wp_region_lit ?_
               refine s_lit (vs := []) hA hM rfl rfl rfl (does_buildSlice rfl (by kernel_rfl)) rfl rfl (noBld_quiet quietL_nil) ?_
               intro g19 w20 hM a hA
               refine seq_do hA rfl rfl rfl (does_move rfl) ?_
               intro a hA
               refine seq_do hA rfl rfl rfl (does_move rfl) ?_
               intro a hA
               refine seq_do (v := .slice to_ ((m.take an_).length) cb) hA rfl rfl rfl (does_upto (sz := 1) (hi := (m.take an_).length) Tryd.underlying22 (by kernel_rfl) rfl rfl (by rw [List.length_take]; omega) (by rw [List.length_take]; omega)) ?_
               intro a hA
               refine s_append (k := 0) (q := 0) (m := (m.take an_).length) (xs := []) (news := Lib.byteCells (m.take an_)) (L' := fun v21 => (.row BY 1 (v21) ((0 + (m.take an_).length)) (([] ++ Lib.byteCells (m.take an_))) :: [])) hA rfl rfl rfl (m_appendA Tryd.underlying22 (by kernel_rfl) hM 0 rfl rfl (show Rb _ _ ((m.take an_)) from ((hB.takeZ an_).below hM.bel)) rfl (by first | omega | (simp only [List.length_nil]; omega) | (simp only [List.length_append, List.length_take, List.length_drop, List.length_nil]; omega))) (fun _ => rfl) ?_
               intro v21 w22 hM a hA
               replace hM : Mg w w22 (.row BY 1 (v21) ((m.take an_).length) ((Lib.byteCells (m.take an_))) :: []) := by
                 have h9 := hM
                 rw [Nat.zero_add, List.nil_append] at h9
                 exact h9
               obtain ⟨so23, ca24, rfl⟩ := owns_slice (hM.has 0 rfl)
               refine seq_do hA rfl rfl rfl (does_assign rfl) ?_
               intro a hA
               refine seq_end ?_
               refine hK18 _ _ ?_
               refine wp_seq_k (fun K25 hK25 => ?_)
               refine wp_region_lit ?_
               refine seq_do hA rfl rfl rfl (does_move rfl) ?_
               intro a hA
               refine seq_do hA rfl rfl rfl (does_move rfl) ?_
               intro a hA
               refine seq_do hA rfl rfl rfl (does_move rfl) ?_
               intro a hA
               refine seq_do hA rfl rfl rfl (does_move rfl) ?_
               intro a hA
               refine seq_do hA rfl rfl rfl (does_move rfl) ?_
               intro a hA
               refine seq_do (v := .int .i64 (((fn_ + nn_ : Nat) : Int))) hA rfl rfl rfl (does_bin rfl rfl (ar_add ((in_i64 (by omega) (by omega)).trans (by omega)))) ?_
               intro a hA
               refine seq_do (v := .slice ((dropA so ca fn_)) (((l.drop fn_).take nn_).length) ((ca - fn_))) hA rfl rfl rfl (does_lh (hi := fn_ + nn_) Tryd.underlying22 (by kernel_rfl) rfl rfl rfl rfl rfl (by omega) (by omega) (by omega)) ?_
               intro a hA
               refine s_append (k := 0) (q := (m.take an_).length) (m := ((l.drop fn_).take nn_).length) (xs := (Lib.byteCells (m.take an_))) (news := Lib.byteCells ((l.drop fn_).take nn_)) (L' := fun v26 => (.row BY 1 (v26) (((m.take an_).length + ((l.drop fn_).take nn_).length)) (((Lib.byteCells (m.take an_)) ++ Lib.byteCells ((l.drop fn_).take nn_))) :: [])) hA rfl rfl rfl (m_appendA Tryd.underlying22 (by kernel_rfl) hM 0 rfl rfl (show Rb _ _ (((l.drop fn_).take nn_)) from (((hA9.drop ca fn_ hca).takeZ nn_).below hM.bel)) rfl (by first | omega | (simp only [List.length_nil]; omega) | (simp only [List.length_append, List.length_take, List.length_drop, List.length_nil]; omega))) (fun _ => rfl) ?_
               intro v26 w27 hM a hA
               replace hM : Mg w w27 (.row BY 1 (v26) (((m.take an_) ++ ((l.drop fn_).take nn_)).length) ((Lib.byteCells ((m.take an_) ++ ((l.drop fn_).take nn_)))) :: []) := by
                 have h9 := hM
                 rw [← List.length_append, ← Lib.byteCells_append] at h9
                 exact h9
               obtain ⟨so28, ca29, rfl⟩ := owns_slice (hM.has 0 rfl)
               refine seq_do hA rfl rfl rfl (does_assign rfl) ?_
               intro a hA
               refine seq_end ?_
               refine hK25 _ _ ?_
               refine wp_seq_k (fun K30 hK30 => ?_)
               refine wp_region_lit ?_
               refine seq_do hA rfl rfl rfl (does_move rfl) ?_
               intro a hA
               refine seq_do hA rfl rfl rfl (does_move rfl) ?_
               intro a hA
               refine seq_do hA rfl rfl rfl (does_move rfl) ?_
               intro a hA
               refine seq_do hA rfl rfl rfl (does_move rfl) ?_
               intro a hA
               refine seq_do (v := .int .i64 (((an_ + nn_ : Nat) : Int))) hA rfl rfl rfl (does_bin rfl rfl (ar_add ((in_i64 (by omega) (by omega)).trans (by omega)))) ?_
               intro a hA
               refine seq_do (v := .slice ((dropA to_ cb (an_ + nn_))) ((m.drop (an_ + nn_)).length) ((cb - (an_ + nn_)))) hA rfl rfl rfl (does_fromZ (lo := an_ + nn_) Tryd.underlying22 (by kernel_rfl) rfl rfl rfl (by omega) (by rw [List.length_drop])) ?_
               intro a hA
               refine s_append (k := 0) (q := ((m.take an_) ++ ((l.drop fn_).take nn_)).length) (m := (m.drop (an_ + nn_)).length) (xs := (Lib.byteCells ((m.take an_) ++ ((l.drop fn_).take nn_)))) (news := Lib.byteCells (m.drop (an_ + nn_))) (L' := fun v31 => (.row BY 1 (v31) ((((m.take an_) ++ ((l.drop fn_).take nn_)).length + (m.drop (an_ + nn_)).length)) (((Lib.byteCells ((m.take an_) ++ ((l.drop fn_).take nn_))) ++ Lib.byteCells (m.drop (an_ + nn_)))) :: [])) hA rfl rfl rfl (m_appendA Tryd.underlying22 (by kernel_rfl) hM 0 rfl rfl (show Rb _ _ ((m.drop (an_ + nn_))) from ((hB.drop cb (an_ + nn_) hcb).below hM.bel)) rfl (by first | omega | (simp only [List.length_nil]; omega) | (simp only [List.length_append, List.length_take, List.length_drop, List.length_nil]; omega))) (fun _ => rfl) ?_
               intro v31 w32 hM a hA
               replace hM : Mg w w32 (.row BY 1 (v31) ((((m.take an_) ++ ((l.drop fn_).take nn_)) ++ (m.drop (an_ + nn_))).length) ((Lib.byteCells (((m.take an_) ++ ((l.drop fn_).take nn_)) ++ (m.drop (an_ + nn_))))) :: []) := by
                 have h9 := hM
                 rw [← List.length_append, ← Lib.byteCells_append] at h9
                 exact h9
               obtain ⟨so33, ca34, rfl⟩ := owns_slice (hM.has 0 rfl)
               refine seq_do hA rfl rfl rfl (does_assign rfl) ?_
               intro a hA
               refine seq_do hA rfl rfl rfl (does_assign rfl) ?_
               intro a hA
               refine seq_end ?_
               refine hK30 _ _ ?_
               refine wp_ret ?_
               refine hret _ _ ?_
               refine ends (v := .tuple #[.slice so33 ((((m.take an_) ++ ((l.drop fn_).take nn_)) ++ (m.drop (an_ + nn_))).length) ca34, .int .i64 0]) hA rfl (.cons (res_tmp rfl) (.cons (res_tmp rfl) .nil)) rfl ?_
               have hcp : cpR l ((fn_ : Nat) : Int) m ((an_ : Nat) : Int) ((nn_ : Nat) : Int) = (ovl an_ ((l.drop fn_).take nn_) m, 0) := by unfold cpR; rw [if_pos (by rw [show inB l.length ((fn_ : Nat) : Int) ((nn_ : Nat) : Int) = true from decide_eq_true (by omega), show inB m.length ((an_ : Nat) : Int) ((nn_ : Nat) : Int) = true from decide_eq_true (by omega)]; rfl), Int.toNat_natCast, Int.toNat_natCast, Int.toNat_natCast]
               rw [hcp]
               have hov : (((m.take an_) ++ ((l.drop fn_).take nn_)) ++ (m.drop (an_ + nn_))) = ovl an_ ((l.drop fn_).take nn_) m := by unfold ovl; rw [hpl]
               rw [hov] at hM ⊢
               exact ⟨_, rfl, hM.sub (.cons_cons _ (.refl _))⟩
end Go.Proofs.YtoeofpncdchicaaDoor.G
namespace Go.Proofs.YtoeofpncdchicaaDoor.G
open Go.RowKit
set_option linter.unusedVariables false
set_option linter.unusedSimpArgs false
set_option maxRecDepth 100000
theorem ByB_is1_5 : Is1 Tryd.prog 5 := ⟨⟨_, Tryd.underlying5, rfl⟩, by kernel_rfl⟩
theorem same_all {xs ys : List UInt8} (hl : xs.length = ys.length) (h : ∀ j, j < xs.length → xs.getD j 0 = ys.getD j 0) : xs = ys := by
  apply List.ext_getElem hl
  intro j h1 h2
  have := h j h1
  rwa [List.getD_eq_getElem?_getD, List.getD_eq_getElem?_getD, List.getElem?_eq_getElem h1, List.getElem?_eq_getElem h2] at this
theorem same_more {xs ys : List UInt8} {i : Nat} (h : ∀ j, j < i → xs.getD j 0 = ys.getD j 0) (h1 : (((xs.getD i 0).toNat : Nat) : Int) = (((ys.getD i 0).toNat : Nat) : Int)) : ∀ j, j < i + 1 → xs.getD j 0 = ys.getD j 0 := by
  intro j hj
  by_cases e : j = i
  · subst e; exact UInt8.toNat_inj.1 (by omega)
  · exact h j (by omega)
theorem rb_open {w : World} {so : Option Addr} {l : List UInt8} {i : Nat} (h : Rb w so l) (hi : i < l.length) : ∃ b off, so = some ⟨b, off, none⟩ ∧ b < w.heap.size ∧ ∀ j, j < l.length → w.cell? ⟨b, off + j, none⟩ = some (.int .u8 (((l.getD j 0).toNat : Nat) : Int)) :=
  h.pos (fun k => by rw [k] at hi; exact absurd hi (Nat.not_lt_zero _))
theorem own_cap {w0 w : World} {L : List Ck} (hM : Mg w0 w L) (k : Nat) {e : TypeId} {sz n cap : Nat} {so : Option Addr} {xs : List Value} (hk : L[k]? = some (.row e sz (.slice so n cap) n xs)) : n ≤ cap := by
  rcases (hM.has k hk).2 with ⟨he, h0⟩ | ⟨g, c, cur, he, _, _, h3, _⟩
  · simp only [Value.slice.injEq] at he; omega
  · cases he; exact h3
theorem cpR_le {l m : List UInt8} {fr ap n : Int} : (cpR l fr m ap n).1.length ≤ m.length := by
  unfold cpR
  split
  · rename_i h
    simp only [Bool.and_eq_true] at h
    have h1 := of_decide_eq_true h.1
    have h2 := of_decide_eq_true h.2
    show (ovl _ _ _).length ≤ _
    rw [ovl_len (by rw [List.length_take, List.length_drop]; omega)]
    exact Nat.le_refl _
  · exact Nat.zero_le _
theorem same_any {w : World} {so to_ : Option Addr} {ca cb : Nat} {xs ys : List UInt8} (hx : Rb w so xs) (hy : Rb w to_ ys) (hl : xs.length ≤ 140737488351232) : Calls Tryd.prog 13 #[.slice so xs.length ca, .slice to_ ys.length cb] w fun e w' => e = .returned (.bool (decide (xs = ys))) ∧ Below w.heap.size w w' := by
 have hM : Mg w w ([]) := Mg.start w
 refine walk_of (l := [(0, .slice so xs.length ca), (1, .slice to_ ys.length cb)]) Tryd.func13 rfl Tryd.ntmps13 rfl rfl ?_
 intro Q hret hnorm hP a hA
 refine wp_seq_k (fun K1 hK1 => ?_)
 refine wp_region_lit ?_
 refine seq_do hA rfl rfl rfl (does_assign rfl) ?_
 intro a hA
 refine seq_end ?_
 refine hK1 _ _ ?_
 refine wp_seq_k (fun K2 hK2 => ?_)
 refine wp_seq_k (fun K3 hK3 => ?_)
 refine wp_region_lit ?_
 refine seq_do hA rfl rfl rfl (does_move rfl) ?_
 intro a hA
 refine seq_do (v := .int .i64 (((xs.length : Nat) : Int))) hA rfl rfl rfl (does_len Tryd.underlying22 rfl) ?_
 intro a hA
 refine seq_do hA rfl rfl rfl (does_move rfl) ?_
 intro a hA
 refine seq_do (v := .int .i64 (((ys.length : Nat) : Int))) hA rfl rfl rfl (does_len Tryd.underlying22 rfl) ?_
 intro a hA
 rcases Bool.eq_false_or_eq_true ((((xs.length : Nat) : Int) != ((ys.length : Nat) : Int))) with hb4 | hb4
 · have hb4' := bne_iff_ne.1 hb4
   refine seq_do (v := .bool true) hA rfl rfl rfl (does_bin rfl rfl (fun w => (bin_neq w).trans (by rw [hb4]))) ?_
   intro a hA
   refine seq_end ?_
   refine hK3 _ _ ?_
   refine wp_cond_true (hA.ev rfl) ?_
   refine wp_seq_k (fun K5 hK5 => ?_)
   refine wp_region_lit ?_
   refine seq_do hA rfl rfl rfl (does_assign rfl) ?_
   intro a hA
   refine seq_end ?_
   refine hK5 _ _ ?_
   refine wp_ret ?_
   refine hret _ _ ?_
   refine ends (v := .bool false) hA rfl (.cons (res_tmp rfl) .nil) rfl ?_
   rw [show decide (xs = ys) = false from decide_eq_false (fun h9 => by subst h9; omega)]
   exact ⟨rfl, hM.bel⟩
 · have hb4' := bne_eq_false_iff_eq.1 hb4
   refine seq_do (v := .bool false) hA rfl rfl rfl (does_bin rfl rfl (fun w => (bin_neq w).trans (by rw [hb4]))) ?_
   intro a hA
   refine seq_end ?_
   refine hK3 _ _ ?_
   refine wp_cond_false (hA.ev rfl) ?_
   refine wp_skip ?_
   refine hK2 _ _ ?_
   refine wp_seq_k (fun K6 hK6 => ?_)
   refine wp_seq_k (fun K7 hK7 => ?_)
   refine wp_region_lit ?_
   refine seq_do hA rfl rfl rfl (does_assign rfl) ?_
   intro a hA
   refine seq_end ?_
   refine hK7 _ _ ?_
   refine wp_block ?_
   refine wp_loop_n (fun m_ a w1 => ∃ (i : Nat), m_ = xs.length - i ∧ (i ≤ xs.length ∧ ∀ j, j < i → xs.getD j 0 = ys.getD j 0) ∧ Sl a 26 [(0, .slice so xs.length ca), (1, .slice to_ ys.length cb), (5, .int .i64 (((i : Nat) : Int))), (6, .slice so xs.length ca), (7, .int .i64 (((xs.length : Nat) : Int))), (8, .slice to_ ys.length cb), (9, .int .i64 (((ys.length : Nat) : Int))), (10, .bool false)] ∧ Mg w w1 ([])) _ ⟨0, rfl, ⟨Nat.zero_le _, fun j hj => absurd hj (Nat.not_lt_zero _)⟩, hA.keep _ ⟨rfl, rfl, rfl, rfl, rfl, rfl, rfl, rfl, trivial⟩, hM⟩ ?_
   clear hM hA
   rintro m_ a w8 ⟨i, rfl, hinv10, hA, hM⟩ K9 hK9
   obtain ⟨hi9, hall⟩ := hinv10
   refine wp_seq_k (fun K11 hK11 => ?_)
   refine wp_seq_k (fun K12 hK12 => ?_)
   refine wp_region_lit ?_
   refine seq_do hA rfl rfl rfl (does_move rfl) ?_
   intro a hA
   refine seq_do hA rfl rfl rfl (does_move rfl) ?_
   intro a hA
   refine seq_do (v := .int .i64 (((xs.length : Nat) : Int))) hA rfl rfl rfl (does_len Tryd.underlying22 rfl) ?_
   intro a hA
   rcases Bool.eq_false_or_eq_true (decide (((i : Nat) : Int) < ((xs.length : Nat) : Int))) with hb13 | hb13
   · have hb13' := of_decide_eq_true hb13
     refine seq_do (v := .bool true) hA rfl rfl rfl (does_bin rfl rfl (fun w => (bin_lss w).trans (by rw [hb13]))) ?_
     intro a hA
     refine seq_end ?_
     refine hK12 _ _ ?_
     refine wp_cond_true (hA.ev rfl) ?_
     refine wp_skip ?_
     refine hK11 _ _ ?_
     refine wp_seq_k (fun K14 hK14 => ?_)
     refine wp_block ?_
     refine wp_seq_k (fun K15 hK15 => ?_)
     obtain ⟨bx, ox, hx1, hx2, hx3⟩ := rb_open (i := i) hx (by omega)
     obtain ⟨by_, oy, hy1, hy2, hy3⟩ := rb_open (i := i) hy (by omega)
     refine wp_draw (S := fun w1 => Mg w w1 ([])) (by kernel_rfl) ?_
     replace hM := hM.drew
     refine any_tk hA 0 rfl rfl rfl rfl hP (hM.sub (List.nil_sublist _)) (fun w1 hM => does_move rfl) ?_
     intro a hA
     refine any_tk hA 1 rfl rfl rfl rfl hP (hM.sub (List.nil_sublist _)) (fun w1 hM => does_move rfl) ?_
     intro a hA
     refine any_tk (v := .pointer (some ⟨bx, ox + i, none⟩)) hA 2 rfl rfl rfl rfl hP (hM.sub (List.nil_sublist _)) (fun w1 hM => does_indexRow Tryd.underlying22 (by kernel_rfl) rfl rfl rfl hx1 (by omega)) ?_
     intro a hA
     refine any_tk (v := .int .u8 ((((xs.getD i 0).toNat : Nat) : Int))) hA 3 rfl rfl rfl rfl hP (hM.sub (List.nil_sublist _)) (fun w1 hM => m_loadR hM hx2 (hx3 i (by omega)) ByB_is1_5 rfl) ?_
     intro a hA
     refine any_tk hA 4 rfl rfl rfl rfl hP (hM.sub (List.nil_sublist _)) (fun w1 hM => does_move rfl) ?_
     intro a hA
     refine any_tk hA 5 rfl rfl rfl rfl hP (hM.sub (List.nil_sublist _)) (fun w1 hM => does_move rfl) ?_
     intro a hA
     refine any_tk (v := .pointer (some ⟨by_, oy + i, none⟩)) hA 6 rfl rfl rfl rfl hP (hM.sub (List.nil_sublist _)) (fun w1 hM => does_indexRow Tryd.underlying22 (by kernel_rfl) rfl rfl rfl hy1 (by omega)) ?_
     intro a hA
     refine any_tk (v := .int .u8 ((((ys.getD i 0).toNat : Nat) : Int))) hA 7 rfl rfl rfl rfl hP (hM.sub (List.nil_sublist _)) (fun w1 hM => m_loadR hM hy2 (hy3 i (by omega)) ByB_is1_5 rfl) ?_
     intro a hA
     rcases Bool.eq_false_or_eq_true (((((xs.getD i 0).toNat : Nat) : Int) != (((ys.getD i 0).toNat : Nat) : Int))) with hb16 | hb16
     · have hb16' := bne_iff_ne.1 hb16
       refine any_tk (v := .bool true) hA 8 rfl rfl rfl rfl hP (hM.sub (List.nil_sublist _)) (fun w1 hM => does_bin rfl rfl (fun w => (bin_neq w).trans (by rw [hb16]))) ?_
       intro a hA
       refine any_end (by kernel_rfl) ?_
       refine hK15 _ _ ?_
       refine wp_cond_true (hA.ev rfl) ?_
       refine wp_seq_k (fun K17 hK17 => ?_)
       refine wp_region_lit ?_
       refine seq_do hA rfl rfl rfl (does_assign rfl) ?_
       intro a hA
       refine seq_end ?_
       refine hK17 _ _ ?_
       refine wp_ret ?_
       refine hret _ _ ?_
       refine ends (v := .bool false) hA rfl (.cons (res_tmp rfl) .nil) rfl ?_
       rw [show decide (xs = ys) = false from decide_eq_false (fun h9 => by subst h9; omega)]
       exact ⟨rfl, hM.bel⟩
     · have hb16' := bne_eq_false_iff_eq.1 hb16
       refine any_tk (v := .bool false) hA 8 rfl rfl rfl rfl hP (hM.sub (List.nil_sublist _)) (fun w1 hM => does_bin rfl rfl (fun w => (bin_neq w).trans (by rw [hb16]))) ?_
       intro a hA
       refine any_end (by kernel_rfl) ?_
       refine hK15 _ _ ?_
       refine wp_cond_false (hA.ev rfl) ?_
       refine wp_skip ?_
       refine hK14 _ _ ?_
       refine wp_region_lit ?_
       refine seq_do hA rfl rfl rfl (does_move rfl) ?_
       intro a hA
       refine seq_do (v := .int .i64 (((i + 1 : Nat) : Int))) hA rfl rfl rfl (does_bin rfl rfl (ar_add ((in_i64 (by omega) (by omega)).trans (by omega)))) ?_
       intro a hA
       refine seq_do hA rfl rfl rfl (does_assign rfl) ?_
       intro a hA
       refine seq_end ?_
       refine hK9 _ _ _ (by omega) ⟨i + 1, rfl, ⟨by omega, same_more hall (by omega)⟩, hA.keep _ ⟨rfl, rfl, rfl, rfl, rfl, rfl, rfl, rfl, trivial⟩, hM⟩
   · have hb13' := of_decide_eq_false hb13
     refine seq_do (v := .bool false) hA rfl rfl rfl (does_bin rfl rfl (fun w => (bin_lss w).trans (by rw [hb13]))) ?_
     intro a hA
     refine seq_end ?_
     refine hK12 _ _ ?_
     refine wp_cond_false (hA.ev rfl) ?_
     refine wp_exit ?_
     refine hK6 _ _ ?_
     refine wp_seq_k (fun K18 hK18 => ?_)
     refine wp_region_lit ?_
     refine seq_do hA rfl rfl rfl (does_assign rfl) ?_
     intro a hA
     refine seq_end ?_
     refine hK18 _ _ ?_
     refine wp_ret ?_
     refine hret _ _ ?_
     refine ends (v := .bool true) hA rfl (.cons (res_tmp rfl) .nil) rfl ?_
     rw [show decide (xs = ys) = true from decide_eq_true (same_all (by omega) (fun j hj => hall j (by omega)))]
     exact ⟨rfl, hM.bel⟩
theorem same_as {w : World} {so to_ : Option Addr} {ca cb : Nat} {xs ys : List UInt8} {b : Bool} (hx : Rb w so xs) (hy : Rb w to_ ys) (hl : xs.length ≤ 140737488351232) (h : decide (xs = ys) = b) : Calls Tryd.prog 13 #[.slice so xs.length ca, .slice to_ ys.length cb] w fun e w' => e = .returned (.bool b) ∧ Below w.heap.size w w' := h ▸ same_any hx hy hl
end Go.Proofs.YtoeofpncdchicaaDoor.G
namespace Go.Proofs.YtoeofpncdchicaaDoor.G
open Go.RowKit
set_option linter.unusedVariables false
set_option linter.unusedSimpArgs false
set_option maxRecDepth 100000
theorem ByC_is1_3 : Is1 Tryd.prog 3 := ⟨⟨_, Tryd.underlying3, rfl⟩, by kernel_rfl⟩
theorem ByC_is1_5 : Is1 Tryd.prog 5 := ⟨⟨_, Tryd.underlying5, rfl⟩, by kernel_rfl⟩
theorem ByC_fld_47_0 : FieldAt Tryd.prog 47 0 0 := ⟨_, _, Tryd.underlying47, rfl, rfl, by kernel_rfl⟩
/-- Bytes without the zeros at their end. -/
def trimZ (l : List UInt8) : List UInt8 := (l.reverse.dropWhile (· == 0)).reverse
theorem trimZ_zero {l : List UInt8} {k : Nat} (hk : k < l.length) (h : l.getD k 0 = 0) : trimZ (l.take (k + 1)) = trimZ (l.take k) := by
  unfold trimZ
  have e : l.take (k + 1) = l.take k ++ [0] := by
    rw [List.take_add_one, List.getElem?_eq_getElem hk]
    rw [List.getD_eq_getElem?_getD, List.getElem?_eq_getElem hk] at h
    simp only [Option.getD_some] at h
    rw [h]
    rfl
  rw [e, List.reverse_append]
  simp
theorem trimZ_done {l : List UInt8} {k : Nat} (hk : k < l.length) (h : l.getD k 0 ≠ 0) : trimZ (l.take (k + 1)) = l.take (k + 1) := by
  unfold trimZ
  rw [List.getD_eq_getElem?_getD, List.getElem?_eq_getElem hk] at h
  simp only [Option.getD_some] at h
  have e : l.take (k + 1) = l.take k ++ [l[k]] := by rw [List.take_add_one, List.getElem?_eq_getElem hk]; rfl
  rw [e, List.reverse_append]
  simp only [List.reverse_cons, List.reverse_nil, List.nil_append, List.cons_append]
  rw [List.dropWhile_cons_of_neg (by simpa using h), List.reverse_cons, List.reverse_reverse]
theorem trimZ_nil : trimZ [] = [] := rfl
theorem trimByte_any {w : World} {so : Option Addr} {ca : Nat} {l : List UInt8} (hb : Rb w so l) (hl : l.length ≤ 140737488351232) (hca : l.length ≤ ca) : Calls Tryd.prog 104 #[.slice so l.length ca, .int .u8 0] w fun e w' => e = .returned (.slice so (trimZ l).length ca) ∧ Below w.heap.size w w' := by
 have hM : Mg w w ([]) := Mg.start w
 refine walk_of (l := [(0, .slice so l.length ca), (1, .int .u8 0)]) Tryd.func104 rfl Tryd.ntmps104 rfl rfl ?_
 intro Q hret hnorm hP a hA
 refine wp_seq_k (fun K1 hK1 => ?_)
 refine wp_region_lit ?_
 refine seq_do hA rfl rfl rfl (does_assign rfl) ?_
 intro a hA
 refine seq_end ?_
 refine hK1 _ _ ?_
 refine wp_seq_k (fun K2 hK2 => ?_)
 refine wp_block ?_
 refine wp_loop_n (fun m_ a w1 => ∃ (q : Nat), m_ = 1 + q ∧ (q ≤ l.length ∧ trimZ (l.take q) = trimZ l) ∧ Sl a 24 [(0, .slice so q ca), (1, .int .u8 0), (4, .slice none 0 0)] ∧ Mg w w1 ([])) _ ⟨l.length, rfl, ⟨Nat.le_refl _, by rw [List.take_of_length_le (Nat.le_refl _)]⟩, hA.keep _ ⟨rfl, rfl, rfl, trivial⟩, hM⟩ ?_
 clear hM hA
 rintro m_ a w3 ⟨q, rfl, hinv5, hA, hM⟩ K4 hK4
 obtain ⟨hq9, htz⟩ := hinv5
 refine wp_seq_k (fun K6 hK6 => ?_)
 refine wp_seq_k (fun K7 hK7 => ?_)
 refine wp_region_lit ?_
 refine seq_do hA rfl rfl rfl (does_move rfl) ?_
 intro a hA
 refine seq_do (v := .int .i64 (((q : Nat) : Int))) hA rfl rfl rfl (does_len Tryd.underlying22 rfl) ?_
 intro a hA
 rcases Bool.eq_false_or_eq_true (decide (0 < ((q : Nat) : Int))) with hb8 | hb8
 · have hb8' := of_decide_eq_true hb8
   refine seq_do (v := .bool true) hA rfl rfl rfl (does_bin rfl rfl (fun w => (bin_gtr w).trans (by rw [hb8]))) ?_
   intro a hA
   refine seq_do hA rfl rfl rfl (does_move rfl) ?_
   intro a hA
   refine seq_do hA rfl rfl rfl (does_move rfl) ?_
   intro a hA
   refine seq_do hA rfl rfl rfl (does_move rfl) ?_
   intro a hA
   refine seq_do (v := .int .i64 (((q : Nat) : Int))) hA rfl rfl rfl (does_len Tryd.underlying22 rfl) ?_
   intro a hA
   refine seq_do (v := .int .i64 (((q - 1 : Nat) : Int))) hA rfl rfl rfl (does_bin rfl rfl (ar_sub ((in_i64 (by omega) (by omega)).trans (by omega)))) ?_
   intro a hA
   obtain ⟨bx, ox, hx1, hx2, hx3⟩ := rb_open (i := q - 1) hb (by omega)
   refine seq_do (v := .pointer (some ⟨bx, ox + (q - 1), none⟩)) hA rfl rfl rfl (does_indexRow Tryd.underlying22 (by kernel_rfl) rfl rfl rfl hx1 (show q - 1 < q by omega)) ?_
   intro a hA
   refine seq_do (v := .int .u8 ((((l.getD (q - 1) 0).toNat : Nat) : Int))) hA rfl rfl rfl (m_loadR hM hx2 (hx3 (q - 1) (by omega)) ByC_is1_5 rfl) ?_
   intro a hA
   refine seq_do hA rfl rfl rfl (does_move rfl) ?_
   intro a hA
   rcases Bool.eq_false_or_eq_true (((((l.getD (q - 1) 0).toNat : Nat) : Int) == 0)) with hb9 | hb9
   · have hb9' := eq_of_beq hb9
     refine seq_do (v := .bool true) hA rfl rfl rfl (does_bin rfl rfl (fun w => (bin_eql w).trans (by rw [hb9]))) ?_
     intro a hA
     refine seq_do (v := .bool true) hA rfl rfl rfl (does_pick rfl rfl rfl rfl) ?_
     intro a hA
     refine seq_end ?_
     refine hK7 _ _ ?_
     refine wp_cond_true (hA.ev rfl) ?_
     refine wp_skip ?_
     refine hK6 _ _ ?_
     refine wp_block ?_
     refine wp_region_lit ?_
     refine seq_do hA rfl rfl rfl (does_move rfl) ?_
     intro a hA
     refine seq_do hA rfl rfl rfl (does_move rfl) ?_
     intro a hA
     refine seq_do (v := .int .i64 (((q : Nat) : Int))) hA rfl rfl rfl (does_len Tryd.underlying22 rfl) ?_
     intro a hA
     refine seq_do (v := .int .i64 (((q - 1 : Nat) : Int))) hA rfl rfl rfl (does_bin rfl rfl (ar_sub ((in_i64 (by omega) (by omega)).trans (by omega)))) ?_
     intro a hA
     refine seq_do (v := .slice so ((q - 1)) ca) hA rfl rfl rfl (does_upto (sz := 1) (hi := q - 1) Tryd.underlying22 (by kernel_rfl) rfl rfl rfl (by omega)) ?_
     intro a hA
     refine seq_do hA rfl rfl rfl (does_assign rfl) ?_
     intro a hA
     refine seq_end ?_
     refine hK4 _ _ _ (by omega) ⟨q - 1, rfl, ⟨by omega, by rw [← htz, show l.take q = l.take (q - 1 + 1) from by rw [show q - 1 + 1 = q from by omega], trimZ_zero (by omega) (UInt8.toNat_inj.1 (by show _ = 0; omega))]⟩, hA.keep _ ⟨rfl, rfl, rfl, trivial⟩, hM⟩
   · have hb9' := ne_of_beq_false hb9
     refine seq_do (v := .bool false) hA rfl rfl rfl (does_bin rfl rfl (fun w => (bin_eql w).trans (by rw [hb9]))) ?_
     intro a hA
     refine seq_do (v := .bool false) hA rfl rfl rfl (does_pick rfl rfl rfl rfl) ?_
     intro a hA
     refine seq_end ?_
     refine hK7 _ _ ?_
     refine wp_cond_false (hA.ev rfl) ?_
     refine wp_exit ?_
     refine hK2 _ _ ?_
     refine wp_seq_k (fun K10 hK10 => ?_)
     refine wp_region_lit ?_
     refine seq_do hA rfl rfl rfl (does_move rfl) ?_
     intro a hA
     refine seq_do hA rfl rfl rfl (does_assign rfl) ?_
     intro a hA
     refine seq_end ?_
     refine hK10 _ _ ?_
     refine wp_ret ?_
     refine hret _ _ ?_
     refine ends (v := .slice so q ca) hA rfl (.cons (res_tmp rfl) .nil) rfl ?_
     have e9 := trimZ_done (l := l) (k := q - 1) (by omega) (fun k9 => by rw [k9] at hb9'; exact hb9' rfl)
     rw [show q - 1 + 1 = q from by omega] at e9
     rw [e9] at htz
     exact ⟨by rw [← htz]; first | (simp; done) | (simp; omega), hM.bel⟩
 · have hb8' := of_decide_eq_false hb8
   refine seq_do (v := .bool false) hA rfl rfl rfl (does_bin rfl rfl (fun w => (bin_gtr w).trans (by rw [hb8]))) ?_
   intro a hA
   refine seq_do hA rfl rfl rfl (does_move rfl) ?_
   intro a hA
   refine seq_skip hA rfl rfl rfl ?_
   intro a hA
   refine seq_skip hA rfl rfl rfl ?_
   intro a hA
   refine seq_skip hA rfl rfl rfl ?_
   intro a hA
   refine seq_skip hA rfl rfl rfl ?_
   intro a hA
   refine seq_skip hA rfl rfl rfl ?_
   intro a hA
   refine seq_skip hA rfl rfl rfl ?_
   intro a hA
   refine seq_skip hA rfl rfl rfl ?_
   intro a hA
   refine seq_skip hA rfl rfl rfl ?_
   intro a hA
   refine seq_do (v := .bool false) hA rfl rfl rfl (does_pick rfl rfl rfl rfl) ?_
   intro a hA
   refine seq_end ?_
   refine hK7 _ _ ?_
   refine wp_cond_false (hA.ev rfl) ?_
   refine wp_exit ?_
   refine hK2 _ _ ?_
   refine wp_seq_k (fun K11 hK11 => ?_)
   refine wp_region_lit ?_
   refine seq_do hA rfl rfl rfl (does_move rfl) ?_
   intro a hA
   refine seq_do hA rfl rfl rfl (does_assign rfl) ?_
   intro a hA
   refine seq_end ?_
   refine hK11 _ _ ?_
   refine wp_ret ?_
   refine hret _ _ ?_
   refine ends (v := .slice so q ca) hA rfl (.cons (res_tmp rfl) .nil) rfl ?_
   obtain rfl : q = 0 := by omega
   rw [List.take_zero, trimZ_nil] at htz
   exact ⟨by rw [← htz]; first | (simp; done) | (simp; omega), hM.bel⟩
theorem trimRight_any {w : World} {so : Option Addr} {ca : Nat} {l : List UInt8} (hb : Rb w so l) (hl : l.length ≤ 140737488351232) (hca : l.length ≤ ca) : Calls Tryd.prog 78 #[.slice so l.length ca, .string ⟨#[0]⟩] w fun e w' => e = .returned (.slice so (trimZ l).length ca) ∧ Below w.heap.size w w' := by
 have hM : Mg w w ([]) := Mg.start w
 refine walk_of (l := [(0, .slice so l.length ca), (1, .string (⟨#[0]⟩))]) Tryd.func78 rfl Tryd.ntmps78 rfl rfl ?_
 intro Q hret hnorm hP a hA
 refine wp_seq_k (fun K1 hK1 => ?_)
 refine wp_region_lit ?_
 refine seq_do hA rfl rfl rfl (does_assign rfl) ?_
 intro a hA
 refine seq_end ?_
 refine hK1 _ _ ?_
 refine wp_seq_k (fun K2 hK2 => ?_)
 refine wp_seq_k (fun K3 hK3 => ?_)
 refine wp_region_lit ?_
 refine seq_do hA rfl rfl rfl (does_move rfl) ?_
 intro a hA
 refine seq_do (v := .int .i64 (((l.length : Nat) : Int))) hA rfl rfl rfl (does_len Tryd.underlying22 rfl) ?_
 intro a hA
 rcases Bool.eq_false_or_eq_true ((((l.length : Nat) : Int) == 0)) with hb4 | hb4
 · have hb4' := eq_of_beq hb4
   refine seq_do (v := .bool true) hA rfl rfl rfl (does_bin rfl rfl (fun w => (bin_eql w).trans (by rw [hb4]))) ?_
   intro a hA
   refine seq_do hA rfl rfl rfl (does_move rfl) ?_
   intro a hA
   refine seq_skip hA rfl rfl rfl ?_
   intro a hA
   refine seq_skip hA rfl rfl rfl ?_
   intro a hA
   refine seq_do (v := .bool true) hA rfl rfl rfl (does_pick rfl rfl rfl rfl) ?_
   intro a hA
   refine seq_end ?_
   refine hK3 _ _ ?_
   refine wp_cond_true (hA.ev rfl) ?_
   refine wp_seq_k (fun K5 hK5 => ?_)
   refine wp_region_lit ?_
   refine seq_do hA rfl rfl rfl (does_move rfl) ?_
   intro a hA
   refine seq_do hA rfl rfl rfl (does_assign rfl) ?_
   intro a hA
   refine seq_end ?_
   refine hK5 _ _ ?_
   refine wp_ret ?_
   refine hret _ _ ?_
   refine ends (v := .slice so l.length ca) hA rfl (.cons (res_tmp rfl) .nil) rfl ?_
   obtain rfl : l = [] := List.length_eq_zero_iff.1 (by omega)
   exact ⟨rfl, hM.bel⟩
 · have hb4' := ne_of_beq_false hb4
   refine seq_do (v := .bool false) hA rfl rfl rfl (does_bin rfl rfl (fun w => (bin_eql w).trans (by rw [hb4]))) ?_
   intro a hA
   refine seq_do hA rfl rfl rfl (does_move rfl) ?_
   intro a hA
   refine seq_do hA rfl rfl rfl (does_move rfl) ?_
   intro a hA
   refine seq_do (v := .bool false) hA rfl rfl rfl (does_bin rfl rfl (fun w => by kernel_rfl)) ?_
   intro a hA
   refine seq_do (v := .bool false) hA rfl rfl rfl (does_pick rfl rfl rfl rfl) ?_
   intro a hA
   refine seq_end ?_
   refine hK3 _ _ ?_
   refine wp_cond_false (hA.ev rfl) ?_
   refine wp_skip ?_
   refine hK2 _ _ ?_
   refine wp_seq_k (fun K6 hK6 => ?_)
   refine wp_seq_k (fun K7 hK7 => ?_)
   refine wp_region_lit ?_
   refine seq_do hA rfl rfl rfl (does_move rfl) ?_
   intro a hA
   refine seq_do (v := .int .i64 1) hA rfl rfl rfl (does_builtin rfl (len_str Tryd.underlying9)) ?_
   intro a hA
   refine seq_do (v := .bool true) hA rfl rfl rfl (does_bin rfl rfl (fun w => by kernel_rfl)) ?_
   intro a hA
   refine seq_do hA rfl rfl rfl (does_move rfl) ?_
   intro a hA
   refine seq_do hA rfl rfl rfl (does_move rfl) ?_
   intro a hA
   refine seq_do (v := .int .u8 0) hA rfl rfl rfl (does_indexS (s := ⟨#[0]⟩) (i := 0) Tryd.underlying9 rfl rfl rfl (by decide)) ?_
   intro a hA
   refine seq_do (v := .bool true) hA rfl rfl rfl (does_bin rfl rfl (fun w => by kernel_rfl)) ?_
   intro a hA
   refine seq_do (v := .bool true) hA rfl rfl rfl (does_pick rfl rfl rfl rfl) ?_
   intro a hA
   refine seq_end ?_
   refine hK7 _ _ ?_
   refine wp_cond_true (hA.ev rfl) ?_
   refine wp_seq_k (fun K8 hK8 => ?_)
   refine wp_region_lit ?_
   refine seq_do hA rfl rfl rfl (does_move rfl) ?_
   intro a hA
   refine seq_do hA rfl rfl rfl (does_move rfl) ?_
   intro a hA
   refine seq_do (v := .int .u8 0) hA rfl rfl rfl (does_indexS (s := ⟨#[0]⟩) (i := 0) Tryd.underlying9 rfl rfl rfl (by decide)) ?_
   intro a hA
   refine seq_call hA rfl rfl rfl (enters_func rfl rfl (fun w => by kernel_rfl)) (trimByte_any (hb.below hM.bel) hl hca) ?_
   rintro _ w10 ⟨rfl, hb9⟩
   replace hM := hM.call hb9
   refine ⟨_, rfl, ?_⟩
   intro a hA
   refine seq_do hA rfl rfl rfl (does_assign rfl) ?_
   intro a hA
   refine seq_end ?_
   refine hK8 _ _ ?_
   refine wp_ret ?_
   refine hret _ _ ?_
   refine ends (v := .slice so ((trimZ l).length) ca) hA rfl (.cons (res_tmp rfl) .nil) rfl ?_
   exact ⟨rfl, hM.bel⟩
def okSize (size : Int) : Bool := decide (1 ≤ size ∧ size ≤ 64)
theorem allowed_any {w : World} {size : Int} {bg sg : Bool} : Calls Tryd.prog 20 #[.agg #[.int .i64 size, .bool bg, .bool sg]] w fun e w' => e = .returned (.bool (okSize size)) ∧ Below w.heap.size w w' := by
 have hM : Mg w w ([]) := Mg.start w
 refine walk_of (l := [(0, .agg #[.int .i64 size, .bool bg, .bool sg])]) Tryd.func20 rfl Tryd.ntmps20 rfl rfl ?_
 intro Q hret hnorm hP a hA
 refine wp_seq_k (fun K1 hK1 => ?_)
 refine wp_region_lit ?_
 refine s_new (vs := [.int .i64 size, .bool bg, .bool sg]) (t := 47) hA hM rfl rfl rfl (fun g => .pointer (some ⟨g, 0, none⟩)) (does_box rfl rfl) (by decide) ?_
 intro g2 w3 hM a hA
 refine seq_do hA rfl rfl rfl (does_assign rfl) ?_
 intro a hA
 refine seq_end ?_
 refine hK1 _ _ ?_
 refine wp_seq_k (fun K4 hK4 => ?_)
 refine wp_region_lit ?_
 refine seq_do (v := .pointer (some ⟨g2, 0, none⟩)) hA rfl rfl rfl (does_field ByC_fld_47_0 rfl rfl) ?_
 intro a hA
 refine seq_do hA rfl rfl rfl (m_load1 hM ByC_is1_3 rfl 0 rfl rfl) ?_
 intro a hA
 rcases Bool.eq_false_or_eq_true (decide (1 ≤ size)) with hb5 | hb5
 · have hb5' := of_decide_eq_true hb5
   refine seq_do (v := .bool true) hA rfl rfl rfl (does_bin rfl rfl (fun w => (bin_geq w).trans (by rw [hb5]))) ?_
   intro a hA
   refine seq_do hA rfl rfl rfl (does_move rfl) ?_
   intro a hA
   refine seq_do (v := .pointer (some ⟨g2, 0, none⟩)) hA rfl rfl rfl (does_field ByC_fld_47_0 rfl rfl) ?_
   intro a hA
   refine seq_do hA rfl rfl rfl (m_load1 hM ByC_is1_3 rfl 0 rfl rfl) ?_
   intro a hA
   rcases Bool.eq_false_or_eq_true (decide (size ≤ 64)) with hb6 | hb6
   · have hb6' := of_decide_eq_true hb6
     refine seq_do (v := .bool true) hA rfl rfl rfl (does_bin rfl rfl (fun w => (bin_leq w).trans (by rw [hb6]))) ?_
     intro a hA
     refine seq_do (v := .bool true) hA rfl rfl rfl (does_pick rfl rfl rfl rfl) ?_
     intro a hA
     refine seq_do hA rfl rfl rfl (does_assign rfl) ?_
     intro a hA
     refine seq_end ?_
     refine hK4 _ _ ?_
     refine wp_ret ?_
     refine hret _ _ ?_
     refine ends (v := .bool true) hA rfl (.cons (res_tmp rfl) .nil) rfl ?_
     exact ⟨by rw [show okSize size = true from by unfold okSize; apply decide_eq_true; omega], hM.bel⟩
   · have hb6' := of_decide_eq_false hb6
     refine seq_do (v := .bool false) hA rfl rfl rfl (does_bin rfl rfl (fun w => (bin_leq w).trans (by rw [hb6]))) ?_
     intro a hA
     refine seq_do (v := .bool false) hA rfl rfl rfl (does_pick rfl rfl rfl rfl) ?_
     intro a hA
     refine seq_do hA rfl rfl rfl (does_assign rfl) ?_
     intro a hA
     refine seq_end ?_
     refine hK4 _ _ ?_
     refine wp_ret ?_
     refine hret _ _ ?_
     refine ends (v := .bool false) hA rfl (.cons (res_tmp rfl) .nil) rfl ?_
     exact ⟨by rw [show okSize size = false from by unfold okSize; apply decide_eq_false; omega], hM.bel⟩
 · have hb5' := of_decide_eq_false hb5
   refine seq_do (v := .bool false) hA rfl rfl rfl (does_bin rfl rfl (fun w => (bin_geq w).trans (by rw [hb5]))) ?_
   intro a hA
   refine seq_do hA rfl rfl rfl (does_move rfl) ?_
   intro a hA
   refine seq_skip hA rfl rfl rfl ?_
   intro a hA
   refine seq_skip hA rfl rfl rfl ?_
   intro a hA
   refine seq_skip hA rfl rfl rfl ?_
   intro a hA
   refine seq_do (v := .bool false) hA rfl rfl rfl (does_pick rfl rfl rfl rfl) ?_
   intro a hA
   refine seq_do hA rfl rfl rfl (does_assign rfl) ?_
   intro a hA
   refine seq_end ?_
   refine hK4 _ _ ?_
   refine wp_ret ?_
   refine hret _ _ ?_
   refine ends (v := .bool false) hA rfl (.cons (res_tmp rfl) .nil) rfl ?_
   exact ⟨by rw [show okSize size = false from by unfold okSize; apply decide_eq_false; omega], hM.bel⟩
end Go.Proofs.YtoeofpncdchicaaDoor.G
namespace Go.Proofs.YtoeofpncdchicaaDoor.G
open Go.RowKit
set_option linter.unusedVariables false
set_option linter.unusedSimpArgs false
set_option maxRecDepth 100000
theorem ByE_is1_5 : Is1 Tryd.prog 5 := ⟨⟨_, Tryd.underlying5, rfl⟩, by kernel_rfl⟩
/-- How far a row is turned round. -/
def Rv (l cur : List UInt8) (i : Nat) : Prop := cur.length = l.length ∧ ∀ k, k < l.length → cur.getD k 0 = if k < i ∨ l.length ≤ k + i then l.getD (l.length - 1 - k) 0 else l.getD k 0
theorem Rv.start (l : List UInt8) : Rv l l 0 := ⟨rfl, fun k hk => by rw [if_neg (by omega)]⟩
theorem getD_set8 {cur : List UInt8} {k j : Nat} {b : UInt8} (hj : j < cur.length) : (cur.set j b).getD k 0 = if k = j then b else cur.getD k 0 := by
  rw [List.getD_eq_getElem?_getD, List.getD_eq_getElem?_getD]
  by_cases h : k = j
  · subst h; rw [List.getElem?_set_self hj, if_pos rfl]; rfl
  · rw [List.getElem?_set_ne (fun e => h e.symm), if_neg h]
theorem Rv.step {l cur : List UInt8} {i j : Nat} (h : Rv l cur i) (hj : j + i + 1 = l.length) (hij : i < j) : Rv l ((cur.set i (cur.getD j 0)).set j (cur.getD i 0)) (i + 1) := by
  obtain ⟨h1, h2⟩ := h
  refine ⟨by rw [List.length_set, List.length_set]; exact h1, fun k hk => ?_⟩
  rw [getD_set8 (by rw [List.length_set]; omega), getD_set8 (by omega)]
  by_cases e1 : k = j
  · rw [if_pos e1, if_pos (by omega), h2 i (by omega), if_neg (by omega)]
    congr 1
    omega
  · rw [if_neg e1]
    by_cases e2 : k = i
    · rw [if_pos e2, if_pos (by omega), h2 j (by omega), if_neg (by omega)]
      congr 1
      omega
    · rw [if_neg e2, h2 k hk]
      by_cases e3 : k < i ∨ l.length ≤ k + i
      · rw [if_pos e3, if_pos (by omega)]
      · rw [if_neg e3, if_neg (by omega)]
theorem Rv.done {l cur : List UInt8} {i : Nat} (h : Rv l cur i) (hi : l.length ≤ 2 * i + 1) (hi2 : 2 * i ≤ l.length + 1) : cur = l.reverse := by
  obtain ⟨h1, h2⟩ := h
  refine same_all (by rw [List.length_reverse]; exact h1) (fun k hk => ?_)
  rw [h2 k (by omega)]
  have e : l.reverse.getD k 0 = l.getD (l.length - 1 - k) 0 := by
    rw [List.getD_eq_getElem?_getD, List.getD_eq_getElem?_getD, List.getElem?_reverse (by omega)]
  rw [e]
  by_cases h3 : k < i ∨ l.length ≤ k + i
  · rw [if_pos h3]
  · rw [if_neg h3]
    congr 1
    omega
theorem bc_get {l : List UInt8} {k : Nat} (h : k < l.length) : (Lib.byteCells l)[k * 1]? = some (.int .u8 (((l.getD k 0).toNat : Nat) : Int)) := by
  rw [Nat.mul_one]
  unfold Lib.byteCells
  rw [List.getElem?_map, List.getElem?_eq_getElem h, List.getD_eq_getElem?_getD, List.getElem?_eq_getElem h]
  rfl
theorem bc_set {l : List UInt8} {k : Nat} {b : UInt8} : over (Lib.byteCells l) (k * 1) [.int .u8 ((b.toNat : Nat) : Int)] = Lib.byteCells (l.set k b) := by
  rw [Nat.mul_one]
  show (Lib.byteCells l).set k _ = _
  unfold Lib.byteCells
  rw [List.map_set]
theorem m_loadX {P : Program} {w0 w : World} {L : List Ck} {l : List (Nat × Value)} {dst : Option Tmp} {ty : TypeId} {pos : String} {after : Array Edge} {guard : Option (Nat × Bool)} {v : Value} (hM : Mg w0 w L) (k : Nat) {e : TypeId} {sz g n c j : Nat} {xs : List Value} (hk : L[k]? = some (.row e sz (.slice (some ⟨g, 0, none⟩) n c) n xs)) (hj : xs[j]? = some v) {t : TypeId} (ht : Is1 P t) {x : Operand} (hx : ev l x = some (.pointer (some ⟨g, j, none⟩))) : Does P l ⟨dst, .load t x, ty, pos, after, guard⟩ w v w := m_loadE hM k hk hj ht hx
theorem reverse_any {w0 w : World} {gx cx : Nat} {l : List UInt8} {X : List Ck} (hnX : noBld X) (hl : l.length ≤ 140737488351232) (hM0 : Mg w0 w (.row BY 1 (.slice (some ⟨gx, 0, none⟩) l.length cx) l.length (Lib.byteCells l) :: X)) : Calls Tryd.prog 77 #[.slice (some ⟨gx, 0, none⟩) l.length cx] w fun e w' => e = .returned (.tuple #[]) ∧ Mg w0 w' (.row BY 1 (.slice (some ⟨gx, 0, none⟩) l.length cx) l.length (Lib.byteCells l.reverse) :: X) := by
 have hM : Mg w0 w (.row BY 1 (.slice (some ⟨gx, 0, none⟩) l.length cx) l.length ((Lib.byteCells l)) :: X) := hM0
 refine walk_of (l := [(0, .slice (some ⟨gx, 0, none⟩) l.length cx)]) Tryd.func77 rfl Tryd.ntmps77 rfl rfl ?_
 intro Q hret hnorm hP a hA
 refine wp_seq_k (fun K1 hK1 => ?_)
 refine wp_region_lit ?_
 refine seq_do hA rfl rfl rfl (does_move rfl) ?_
 intro a hA
 refine seq_do (v := .int .i64 (((l.length : Nat) : Int))) hA rfl rfl rfl (does_len Tryd.underlying22 rfl) ?_
 intro a hA
 refine seq_do (v := .int .i64 (((l.length : Nat) : Int) - 1)) hA rfl rfl rfl (does_bin rfl rfl (ar_sub (in_i64 (by omega) (by omega)))) ?_
 intro a hA
 refine seq_do hA rfl rfl rfl (does_assign rfl) ?_
 intro a hA
 refine seq_do hA rfl rfl rfl (does_assign rfl) ?_
 intro a hA
 refine seq_end ?_
 refine hK1 _ _ ?_
 refine wp_block ?_
 refine wp_loop_n (fun m_ a w1 => ∃ (i : Nat) (cur : List UInt8) (z : Int), m_ = l.length - i ∧ (Rv l cur i ∧ z = ((l.length : Nat) : Int) - 1 - ((i : Nat) : Int) ∧ 2 * i ≤ l.length + 1 ∧ i ≤ l.length) ∧ Sl a 28 [(0, .slice (some ⟨gx, 0, none⟩) l.length cx), (2, .int .i64 (((i : Nat) : Int))), (3, .int .i64 z), (4, .slice (some ⟨gx, 0, none⟩) l.length cx), (5, .int .i64 (((l.length : Nat) : Int))), (6, .int .i64 (((l.length : Nat) : Int) - 1))] ∧ Mg w0 w1 (.row BY 1 (.slice (some ⟨gx, 0, none⟩) l.length cx) l.length ((Lib.byteCells cur)) :: X)) _ ⟨0, l, (((l.length : Nat) : Int) - 1), rfl, ⟨Rv.start l, by omega, by omega, by omega⟩, hA.keep _ ⟨rfl, rfl, rfl, rfl, rfl, rfl, trivial⟩, hM⟩ ?_
 clear hM hA
 rintro m_ a w2 ⟨i, cur, z, rfl, hinv4, hA, hM⟩ K3 hK3
 obtain ⟨hrv, hz, hi2, hi3⟩ := hinv4
 refine wp_seq_k (fun K5 hK5 => ?_)
 refine wp_seq_k (fun K6 hK6 => ?_)
 refine wp_region_lit ?_
 refine seq_do hA rfl rfl rfl (does_move rfl) ?_
 intro a hA
 refine seq_do hA rfl rfl rfl (does_move rfl) ?_
 intro a hA
 rcases Bool.eq_false_or_eq_true (decide (((i : Nat) : Int) < z)) with hb7 | hb7
 · have hb7' := of_decide_eq_true hb7
   refine seq_do (v := .bool true) hA rfl rfl rfl (does_bin rfl rfl (fun w => (bin_lss w).trans (by rw [hb7]))) ?_
   intro a hA
   refine seq_end ?_
   refine hK6 _ _ ?_
   refine wp_cond_true (hA.ev rfl) ?_
   refine wp_skip ?_
   refine hK5 _ _ ?_
   refine wp_seq_k (fun K8 hK8 => ?_)
   refine wp_block ?_
   obtain ⟨jn, hjn⟩ : ∃ jn : Nat, z = ((jn : Nat) : Int) := ⟨z.toNat, by omega⟩
   have hcl := hrv.1
   refine wp_draw (S := fun w1 => Mg w0 w1 ([])) (by kernel_rfl) ?_
   replace hM := hM.drew
   refine any_tk hA 0 rfl rfl rfl rfl hP (hM.sub (.cons _ (List.nil_sublist _))) (fun w1 hM => does_move rfl) ?_
   intro a hA
   refine any_tk hA 1 rfl rfl rfl rfl hP (hM.sub (.cons _ (List.nil_sublist _))) (fun w1 hM => does_move rfl) ?_
   intro a hA
   refine any_tk hA 2 rfl rfl rfl rfl hP (hM.sub (.cons _ (List.nil_sublist _))) (fun w1 hM => does_move rfl) ?_
   intro a hA
   refine any_tk hA 3 rfl rfl rfl rfl hP (hM.sub (.cons _ (List.nil_sublist _))) (fun w1 hM => does_move rfl) ?_
   intro a hA
   refine any_tk hA 4 rfl rfl rfl rfl hP (hM.sub (.cons _ (List.nil_sublist _))) (fun w1 hM => does_move rfl) ?_
   intro a hA
   refine any_tk hA 5 rfl rfl rfl rfl hP (hM.sub (.cons _ (List.nil_sublist _))) (fun w1 hM => does_move rfl) ?_
   intro a hA
   refine any_tk (v := .pointer (some ⟨gx, jn * 1, none⟩)) hA 6 rfl rfl rfl rfl hP (hM.sub (.cons _ (List.nil_sublist _))) (fun w1 hM => does_indexE Tryd.underlying22 (by kernel_rfl) rfl rfl hjn (show jn < l.length by omega)) ?_
   intro a hA
   refine any_tk hA 8 rfl rfl rfl rfl hP (hM.sub (.cons _ (List.nil_sublist _))) (fun w1 hM => does_move rfl) ?_
   intro a hA
   refine any_tk hA 9 rfl rfl rfl rfl hP (hM.sub (.cons _ (List.nil_sublist _))) (fun w1 hM => does_move rfl) ?_
   intro a hA
   refine any_tk (v := .pointer (some ⟨gx, i * 1, none⟩)) hA 10 rfl rfl rfl rfl hP (hM.sub (.cons _ (List.nil_sublist _))) (fun w1 hM => does_indexE Tryd.underlying22 (by kernel_rfl) rfl rfl rfl (show i < l.length by omega)) ?_
   intro a hA
   refine any_many (rs := [7, 11]) (by kernel_rfl) (by simp) ⟨?_, ?_, trivial⟩
   · refine op_do (v := .int .u8 ((((cur.getD jn 0).toNat : Nat) : Int))) hA 7 rfl rfl rfl rfl (m_loadX hM 0 rfl (bc_get (show jn < cur.length by omega)) ByE_is1_5 rfl) (hM.sub (.cons _ (List.nil_sublist _))) ?_
     intro a hA
     refine any_one (by kernel_rfl) (op_do (v := .int .u8 ((((cur.getD i 0).toNat : Nat) : Int))) hA 11 rfl rfl rfl rfl (m_loadX hM 0 rfl (bc_get (show i < cur.length by omega)) ByE_is1_5 rfl) (hM.sub (.cons _ (List.nil_sublist _))) ?_)
     intro a hA
     refine any_tk (v := .pointer (some ⟨gx, i * 1, none⟩)) hA 12 rfl rfl rfl rfl hP (hM.sub (.cons _ (List.nil_sublist _))) (fun w1 hM => does_indexE Tryd.underlying22 (by kernel_rfl) rfl rfl rfl (show i < l.length by omega)) ?_
     intro a hA
     refine any_one (by kernel_rfl) (g_storeE (cs := [.int .u8 ((((cur.getD jn 0).toNat : Nat) : Int))]) (L' := (.row BY 1 (.slice (some ⟨gx, 0, none⟩) l.length cx) l.length ((over (Lib.byteCells cur) (i * 1) [.int .u8 ((((cur.getD jn 0).toNat : Nat) : Int))])) :: X)) (us := []) hA hM 13 rfl rfl rfl (m_storeE rfl rfl rfl (by kernel_rfl) hM 0 rfl (show i * 1 + 1 ≤ l.length * 1 by omega) rfl) 0 rfl rfl ?_)
     intro w9 hM
     replace hM : Mg w0 w9 (.row BY 1 (.slice (some ⟨gx, 0, none⟩) l.length cx) l.length ((Lib.byteCells (cur.set i (cur.getD jn 0)))) :: X) := by
       have h9 := hM
       rw [bc_set] at h9
       exact h9
     refine ⟨(hM.sub (.cons _ (List.nil_sublist _))), ?_⟩
     refine any_tk (v := .pointer (some ⟨gx, jn * 1, none⟩)) hA 14 rfl rfl rfl rfl hP (hM.sub (.cons _ (List.nil_sublist _))) (fun w1 hM => does_indexE Tryd.underlying22 (by kernel_rfl) rfl rfl hjn (show jn < l.length by omega)) ?_
     intro a hA
     refine any_one (by kernel_rfl) (g_storeE (cs := [.int .u8 ((((cur.getD i 0).toNat : Nat) : Int))]) (L' := (.row BY 1 (.slice (some ⟨gx, 0, none⟩) l.length cx) l.length ((over (Lib.byteCells (cur.set i (cur.getD jn 0))) (jn * 1) [.int .u8 ((((cur.getD i 0).toNat : Nat) : Int))])) :: X)) (us := []) hA hM 15 rfl rfl rfl (m_storeE rfl rfl rfl (by kernel_rfl) hM 0 rfl (show jn * 1 + 1 ≤ l.length * 1 by omega) rfl) 0 rfl rfl ?_)
     intro w10 hM
     replace hM : Mg w0 w10 (.row BY 1 (.slice (some ⟨gx, 0, none⟩) l.length cx) l.length ((Lib.byteCells ((cur.set i (cur.getD jn 0)).set jn (cur.getD i 0)))) :: X) := by
       have h9 := hM
       rw [bc_set] at h9
       exact h9
     refine ⟨(hM.sub (.cons _ (List.nil_sublist _))), ?_⟩
     refine any_end (by kernel_rfl) ?_
     refine hK8 _ _ ?_
     refine wp_region_lit ?_
     refine seq_do hA rfl rfl rfl (does_move rfl) ?_
     intro a hA
     refine seq_do (v := .int .i64 (((i + 1 : Nat) : Int))) hA rfl rfl rfl (does_bin rfl rfl (ar_add ((in_i64 (by omega) (by omega)).trans (by omega)))) ?_
     intro a hA
     refine seq_do hA rfl rfl rfl (does_move rfl) ?_
     intro a hA
     refine seq_do (v := .int .i64 (z - 1)) hA rfl rfl rfl (does_bin rfl rfl (ar_sub (in_i64 (by omega) (by omega)))) ?_
     intro a hA
     refine seq_do hA rfl rfl rfl (does_assign rfl) ?_
     intro a hA
     refine seq_do hA rfl rfl rfl (does_assign rfl) ?_
     intro a hA
     refine seq_end ?_
     refine hK3 _ _ _ (by omega) ⟨i + 1, (cur.set i (cur.getD jn 0)).set jn (cur.getD i 0), z - 1, rfl, ⟨hrv.step (j := jn) (by omega) (by omega), by omega, by omega, by omega⟩, hA.keep _ ⟨rfl, rfl, rfl, rfl, rfl, rfl, trivial⟩, hM⟩
   · refine op_do (v := .int .u8 ((((cur.getD i 0).toNat : Nat) : Int))) hA 11 rfl rfl rfl rfl (m_loadX hM 0 rfl (bc_get (show i < cur.length by omega)) ByE_is1_5 rfl) (hM.sub (.cons _ (List.nil_sublist _))) ?_
     intro a hA
     refine any_one (by kernel_rfl) (op_do (v := .int .u8 ((((cur.getD jn 0).toNat : Nat) : Int))) hA 7 rfl rfl rfl rfl (m_loadX hM 0 rfl (bc_get (show jn < cur.length by omega)) ByE_is1_5 rfl) (hM.sub (.cons _ (List.nil_sublist _))) ?_)
     intro a hA
     refine any_tk (v := .pointer (some ⟨gx, i * 1, none⟩)) hA 12 rfl rfl rfl rfl hP (hM.sub (.cons _ (List.nil_sublist _))) (fun w1 hM => does_indexE Tryd.underlying22 (by kernel_rfl) rfl rfl rfl (show i < l.length by omega)) ?_
     intro a hA
     refine any_one (by kernel_rfl) (g_storeE (cs := [.int .u8 ((((cur.getD jn 0).toNat : Nat) : Int))]) (L' := (.row BY 1 (.slice (some ⟨gx, 0, none⟩) l.length cx) l.length ((over (Lib.byteCells cur) (i * 1) [.int .u8 ((((cur.getD jn 0).toNat : Nat) : Int))])) :: X)) (us := []) hA hM 13 rfl rfl rfl (m_storeE rfl rfl rfl (by kernel_rfl) hM 0 rfl (show i * 1 + 1 ≤ l.length * 1 by omega) rfl) 0 rfl rfl ?_)
     intro w11 hM
     replace hM : Mg w0 w11 (.row BY 1 (.slice (some ⟨gx, 0, none⟩) l.length cx) l.length ((Lib.byteCells (cur.set i (cur.getD jn 0)))) :: X) := by
       have h9 := hM
       rw [bc_set] at h9
       exact h9
     refine ⟨(hM.sub (.cons _ (List.nil_sublist _))), ?_⟩
     refine any_tk (v := .pointer (some ⟨gx, jn * 1, none⟩)) hA 14 rfl rfl rfl rfl hP (hM.sub (.cons _ (List.nil_sublist _))) (fun w1 hM => does_indexE Tryd.underlying22 (by kernel_rfl) rfl rfl hjn (show jn < l.length by omega)) ?_
     intro a hA
     refine any_one (by kernel_rfl) (g_storeE (cs := [.int .u8 ((((cur.getD i 0).toNat : Nat) : Int))]) (L' := (.row BY 1 (.slice (some ⟨gx, 0, none⟩) l.length cx) l.length ((over (Lib.byteCells (cur.set i (cur.getD jn 0))) (jn * 1) [.int .u8 ((((cur.getD i 0).toNat : Nat) : Int))])) :: X)) (us := []) hA hM 15 rfl rfl rfl (m_storeE rfl rfl rfl (by kernel_rfl) hM 0 rfl (show jn * 1 + 1 ≤ l.length * 1 by omega) rfl) 0 rfl rfl ?_)
     intro w12 hM
     replace hM : Mg w0 w12 (.row BY 1 (.slice (some ⟨gx, 0, none⟩) l.length cx) l.length ((Lib.byteCells ((cur.set i (cur.getD jn 0)).set jn (cur.getD i 0)))) :: X) := by
       have h9 := hM
       rw [bc_set] at h9
       exact h9
     refine ⟨(hM.sub (.cons _ (List.nil_sublist _))), ?_⟩
     refine any_end (by kernel_rfl) ?_
     refine hK8 _ _ ?_
     refine wp_region_lit ?_
     refine seq_do hA rfl rfl rfl (does_move rfl) ?_
     intro a hA
     refine seq_do (v := .int .i64 (((i + 1 : Nat) : Int))) hA rfl rfl rfl (does_bin rfl rfl (ar_add ((in_i64 (by omega) (by omega)).trans (by omega)))) ?_
     intro a hA
     refine seq_do hA rfl rfl rfl (does_move rfl) ?_
     intro a hA
     refine seq_do (v := .int .i64 (z - 1)) hA rfl rfl rfl (does_bin rfl rfl (ar_sub (in_i64 (by omega) (by omega)))) ?_
     intro a hA
     refine seq_do hA rfl rfl rfl (does_assign rfl) ?_
     intro a hA
     refine seq_do hA rfl rfl rfl (does_assign rfl) ?_
     intro a hA
     refine seq_end ?_
     refine hK3 _ _ _ (by omega) ⟨i + 1, (cur.set i (cur.getD jn 0)).set jn (cur.getD i 0), z - 1, rfl, ⟨hrv.step (j := jn) (by omega) (by omega), by omega, by omega, by omega⟩, hA.keep _ ⟨rfl, rfl, rfl, rfl, rfl, rfl, trivial⟩, hM⟩
 · have hb7' := of_decide_eq_false hb7
   refine seq_do (v := .bool false) hA rfl rfl rfl (does_bin rfl rfl (fun w => (bin_lss w).trans (by rw [hb7]))) ?_
   intro a hA
   refine seq_end ?_
   refine hK6 _ _ ?_
   refine wp_cond_false (hA.ev rfl) ?_
   refine wp_exit ?_
   refine hnorm _ _ ?_
   refine ends (v := .tuple #[]) hA rfl .nil rfl ?_
   rw [← hrv.done (by omega) (by omega)]
   exact ⟨rfl, hM⟩
end Go.Proofs.YtoeofpncdchicaaDoor.G
namespace Go.Proofs.YtoeofpncdchicaaDoor.G
open Go.RowKit
set_option linter.unusedVariables false
set_option linter.unusedSimpArgs false
set_option maxRecDepth 100000
theorem ByF_is1_3 : Is1 Tryd.prog 3 := ⟨⟨_, Tryd.underlying3, rfl⟩, by kernel_rfl⟩
theorem ByF_is1_4 : Is1 Tryd.prog 4 := ⟨⟨_, Tryd.underlying4, rfl⟩, by kernel_rfl⟩
theorem ByF_fld_47_0 : FieldAt Tryd.prog 47 0 0 := ⟨_, _, Tryd.underlying47, rfl, rfl, by kernel_rfl⟩
theorem ByF_fld_47_1 : FieldAt Tryd.prog 47 1 1 := ⟨_, _, Tryd.underlying47, rfl, rfl, by kernel_rfl⟩
theorem reordered_true {w : World} {sp : Option Addr} {cp : Nat} {p : List UInt8} {sg : Bool} (hp : Rb w sp p) (hl : p.length ≤ 140737488351232) : Calls Tryd.prog 48 #[.agg #[.int .i64 ((p.length : Nat) : Int), .bool true, .bool sg], .slice sp p.length cp] w fun e w' => ∃ g, e = .returned (.slice (some ⟨g, 0, none⟩) p.length p.length) ∧ Mg w w' [.row BY 1 (.slice (some ⟨g, 0, none⟩) p.length p.length) p.length (Lib.byteCells p.reverse)] := by
 have hM : Mg w w ([]) := Mg.start w
 refine walk_of (l := [(0, .agg #[.int .i64 (((p.length : Nat) : Int)), .bool true, .bool sg]), (1, .slice sp p.length cp)]) Tryd.func48 rfl Tryd.ntmps48 rfl rfl ?_
 intro Q hret hnorm hP a hA
 refine wp_seq_k (fun K1 hK1 => ?_)
 refine wp_region_lit ?_
 refine s_new (vs := [.int .i64 (((p.length : Nat) : Int)), .bool true, .bool sg]) (t := 47) hA hM rfl rfl rfl (fun g => .pointer (some ⟨g, 0, none⟩)) (does_box rfl rfl) (by decide) ?_
 intro g2 w3 hM a hA
 refine seq_do hA rfl rfl rfl (does_assign rfl) ?_
 intro a hA
 refine seq_end ?_
 refine hK1 _ _ ?_
 refine wp_seq_k (fun K4 hK4 => ?_)
 refine wp_region_lit ?_
 refine seq_do (v := .pointer (some ⟨g2, 0, none⟩)) hA rfl rfl rfl (does_field ByF_fld_47_0 rfl rfl) ?_
 intro a hA
 refine seq_do hA rfl rfl rfl (m_load1 hM ByF_is1_3 rfl 0 rfl rfl) ?_
 intro a hA
 refine s_makeE (z := .int .u8 0) (sz := 1) (by_ := 1) (m := p.length) hA hM Tryd.underlying22 (by kernel_rfl) rfl rfl rfl rfl rfl rfl (by omega) (by omega) (.inr (noBld_cons (by simp) (noBld_quiet quietL_nil))) ?_
 intro gx w5 hM a hA
 obtain ⟨mz, hmz⟩ : ∃ mz, (madeCells (.int .u8 0 : Value).cells (p.length * 1)).toList = mz := ⟨_, rfl⟩
 rw [hmz] at hM
 have hml : mz.length = p.length := by rw [← hmz, Array.length_toList, size_madeCells, Nat.mul_one]
 refine seq_do hA rfl rfl rfl (does_assign rfl) ?_
 intro a hA
 refine seq_end ?_
 refine hK4 _ _ ?_
 refine wp_seq_k (fun K6 hK6 => ?_)
 refine wp_region_lit ?_
 refine seq_do hA rfl rfl rfl (does_move rfl) ?_
 intro a hA
 refine seq_do hA rfl rfl rfl (does_move rfl) ?_
 intro a hA
 refine s_copyE (v := .int .i64 (((p.length : Nat) : Int))) (cs := Lib.byteCells p) (L' := (.row BY 1 (.slice (some ⟨gx, 0, none⟩) p.length p.length) p.length ((over mz 0 (Lib.byteCells p))) :: .obj g2 (.cells #[.int .i64 (((p.length : Nat) : Int)), .bool true, .bool sg] 47) :: [])) hA hM rfl rfl rfl (m_copyB Tryd.underlying22 (by kernel_rfl) hM 0 rfl rfl (hp.below hM.bel) rfl (by omega) (by omega)) 0 rfl rfl ?_
 intro w7 hM a hA
 replace hM : Mg w w7 (.row BY 1 (.slice (some ⟨gx, 0, none⟩) p.length p.length) p.length ((Lib.byteCells p)) :: .obj g2 (.cells #[.int .i64 (((p.length : Nat) : Int)), .bool true, .bool sg] 47) :: []) := by
   have h9 := hM
   rw [over_all hml] at h9
   exact h9
 refine seq_end ?_
 refine hK6 _ _ ?_
 refine wp_seq_k (fun K8 hK8 => ?_)
 refine wp_seq_k (fun K9 hK9 => ?_)
 refine wp_region_lit ?_
 refine seq_do (v := .pointer (some ⟨g2, 1, none⟩)) hA rfl rfl rfl (does_field ByF_fld_47_1 rfl rfl) ?_
 intro a hA
 refine seq_do hA rfl rfl rfl (m_load1 hM ByF_is1_4 rfl 1 rfl rfl) ?_
 intro a hA
 refine seq_end ?_
 refine hK9 _ _ ?_
 refine wp_cond_true (hA.ev rfl) ?_
 refine wp_region_lit ?_
 refine seq_do hA rfl rfl rfl (does_move rfl) ?_
 intro a hA
 refine seq_call hA rfl rfl rfl (enters_func rfl rfl (fun w => by kernel_rfl)) (reverse_any (noBld_cons (by simp) (noBld_quiet quietL_nil)) hl hM) ?_
 rintro _ w11 ⟨rfl, hM10⟩
 replace hM : Mg w w11 (.row BY 1 (.slice (some ⟨gx, 0, none⟩) p.length p.length) p.length ((Lib.byteCells p.reverse)) :: .obj g2 (.cells #[.int .i64 (((p.length : Nat) : Int)), .bool true, .bool sg] 47) :: []) := hM10
 refine ⟨_, rfl, ?_⟩
 intro a hA
 refine seq_end ?_
 refine hK8 _ _ ?_
 refine wp_seq_k (fun K12 hK12 => ?_)
 refine wp_region_lit ?_
 refine seq_do hA rfl rfl rfl (does_move rfl) ?_
 intro a hA
 refine seq_do hA rfl rfl rfl (does_assign rfl) ?_
 intro a hA
 refine seq_end ?_
 refine hK12 _ _ ?_
 refine wp_ret ?_
 refine hret _ _ ?_
 refine ends (v := .slice (some ⟨gx, 0, none⟩) p.length p.length) hA rfl (.cons (res_tmp rfl) .nil) rfl ?_
 exact ⟨gx, rfl, hM.sub (.cons_cons _ (.cons _ (.refl _)))⟩
end Go.Proofs.YtoeofpncdchicaaDoor.G
namespace Go.Proofs.YtoeofpncdchicaaDoor
open Go.RowKit
set_option linter.unusedVariables false
set_option linter.unusedSimpArgs false

/-! ### Slots -/
def look : List (Nat × Value) → Nat → Option Value
  | [], _ => none
  | (k, v) :: t, n => cond (Nat.beq k n) (some v) (look t n)
/-- What an operand is. -/
def ev (l : List (Nat × Value)) : Operand → Option Value
  | .tmp k => look l k
  | .const v => some v
  | .global g => some (.pointer (some ⟨g, 0, none⟩))
  | .func f => some (.func (.func f) #[] #[])
def evs (l : List (Nat × Value)) : List Operand → Option (List Value)
  | [] => some []
  | x :: xs => match ev l x, evs l xs with | some v, some vs => some (v :: vs) | _, _ => none
def evp (l : List (Nat × Value)) : List (Nat × Operand) → Option (List (Nat × Value))
  | [] => some []
  | (i, x) :: xs => match ev l x, evp l xs with | some v, some vs => some ((i, v) :: vs) | _, _ => none
/-- The frame has n slots, and those that the list names hold what it says; no call waits for the end. -/
structure Sl (a : Act) (n : Nat) (l : List (Nat × Value)) : Prop where
  size : a.tmps.size = n
  holds : ∀ k v, look l k = some v → a.tmps[k]? = some v
  none_ : a.defers = []
section
variable {a : Act} {n : Nat} {l : List (Nat × Value)}
theorem Sl.ev (h : Sl a n l) {x : Operand} {v : Value} (hx : ev l x = some v) : a.eval x = v := by
  cases x with
  | tmp k =>
    have := h.holds k v hx
    simp [Act.eval, Array.getD_eq_getD_getElem?, this]
  | const u => simpa [YtoeofpncdchicaaDoor.ev, Act.eval] using hx
  | global g => simpa [YtoeofpncdchicaaDoor.ev, Act.eval] using hx
  | func f => simpa [YtoeofpncdchicaaDoor.ev, Act.eval] using hx
theorem Sl.evs (h : Sl a n l) : ∀ {xs : List Operand} {vs : List Value}, evs l xs = some vs → xs.map a.eval = vs := by
  intro xs
  induction xs with
  | nil => intro vs hx; simp [YtoeofpncdchicaaDoor.evs] at hx; simp [hx]
  | cons x xs ih =>
    intro vs hx
    unfold YtoeofpncdchicaaDoor.evs at hx
    split at hx
    · rename_i v us h1 h2
      cases hx
      simp [h.ev h1, ih h2]
    · cases hx
theorem Sl.evp (h : Sl a n l) : ∀ {xs : List (Nat × Operand)} {vs : List (Nat × Value)}, evp l xs = some vs → xs.map (fun p => (p.1, a.eval p.2)) = vs := by
  intro xs
  induction xs with
  | nil => intro vs hx; simp [YtoeofpncdchicaaDoor.evp] at hx; simp [hx]
  | cons x xs ih =>
    intro vs hx
    obtain ⟨i, x⟩ := x
    unfold YtoeofpncdchicaaDoor.evp at hx
    split at hx
    · rename_i v us h1 h2
      cases hx
      simp [h.ev h1, ih h2]
    · cases hx
theorem Sl.put (h : Sl a n l) {d : Nat} (hd : Nat.blt d n = true) (v : Value) : Sl (a.put (some d) v) n ((d, v) :: l) := by
  refine ⟨by simp [Act.put, h.size], fun k u hk => ?_, by simp [Act.put, h.none_]⟩
  have hd' : d < a.tmps.size := by rw [h.size]; exact Nat.le_of_ble_eq_true hd
  unfold look at hk
  cases hb : Nat.beq d k with
  | true =>
    rw [hb] at hk
    have : d = k := Nat.eq_of_beq_eq_true hb
    subst this
    simp only [cond_true, Option.some.injEq] at hk
    subst hk
    simp [Act.put, Array.getElem?_setIfInBounds, hd']
  | false =>
    rw [hb] at hk
    have hne : d ≠ k := fun e => by rw [e, Nat.beq_refl] at hb; cases hb
    simp only [cond_false] at hk
    simp [Act.put, Array.getElem?_setIfInBounds, hne, h.holds k u hk]
theorem Sl.enter {args : List Value} {m : Nat} (hl : args.length ≤ m) : Sl { tmps := args.toArray ++ Array.replicate (m - args.toArray.size) undef, defers := [] } m (args.zipIdx.map fun p => (p.2, p.1)) := by
  refine ⟨by simp; omega, fun k v hk => ?_, rfl⟩
  have key : ∀ (xs : List Value) (o : Nat), look ((xs.zipIdx o).map fun p => (p.2, p.1)) k = some v → o ≤ k ∧ xs[k - o]? = some v := by
    intro xs
    induction xs with
    | nil => intro o h; simp [look] at h
    | cons x xs ih =>
      intro o h
      simp only [List.zipIdx_cons, List.map_cons, look] at h
      cases hb : Nat.beq o k with
      | true =>
        rw [hb] at h
        have : o = k := Nat.eq_of_beq_eq_true hb
        subst this
        simp only [cond_true, Option.some.injEq] at h
        simp [h]
      | false =>
        rw [hb] at h
        have hne : o ≠ k := fun e => by rw [e, Nat.beq_refl] at hb; cases hb
        simp only [cond_false] at h
        obtain ⟨h1, h2⟩ := ih _ h
        refine ⟨by omega, ?_⟩
        have : k - o = (k - (o + 1)) + 1 := by omega
        rw [this, List.getElem?_cons_succ]
        exact h2
  have h := (key args 0 hk).2
  simp only [Nat.sub_zero] at h
  have hlt : k < args.length := (List.getElem?_eq_some_iff.1 h).1
  rw [Array.getElem?_append_left (by simpa using hlt)]
  simpa using h
def AllIn (l : List (Nat × Value)) : List (Nat × Value) → Prop
  | [] => True
  | p :: t => look l p.1 = some p.2 ∧ AllIn l t
theorem Sl.keep (h : Sl a n l) (l' : List (Nat × Value)) (hs : AllIn l l') : Sl a n l' := by
  refine ⟨h.size, ?_, h.none_⟩
  induction l' with
  | nil => intro k v hk; simp [look] at hk
  | cons p t ih =>
    intro k v hk
    obtain ⟨d, u⟩ := p
    unfold look at hk
    cases hb : Nat.beq d k with
    | true =>
      rw [hb] at hk
      have : d = k := Nat.eq_of_beq_eq_true hb
      subst this
      simp only [cond_true, Option.some.injEq] at hk
      subst hk
      exact h.holds _ _ hs.1
    | false =>
      rw [hb] at hk
      exact ih hs.2 k v hk
theorem Sl.cut (h : Sl a n l) (l' : List (Nat × Value)) (hl : ∀ k v, look l' k = some v → look l k = some v) : Sl a n l' := ⟨h.size, fun k v hk => h.holds k v (hl k v hk), h.none_⟩
end

/-! ### What an operation does -/
/-- With these slots, in this world, the operation yields v and leaves w'. -/
def Does (P : Program) (l : List (Nat × Value)) (o : Oper) (w : World) (v : Value) (w' : World) : Prop :=
  ∀ ρ : Operand → Value, (∀ x u, ev l x = some u → ρ x = u) → (execOp ρ o).run P w = .ok (.value v) w'
/-- .. yields nothing (a store). -/
def Sets (P : Program) (l : List (Nat × Value)) (o : Oper) (w : World) (w' : World) : Prop :=
  ∀ ρ : Operand → Value, (∀ x u, ev l x = some u → ρ x = u) → (execOp ρ o).run P w = .ok .skip w'
/-- .. calls a function. -/
def Enters (P : Program) (l : List (Nat × Value)) (o : Oper) (w : World) (f : FuncId) (vs : List Value) : Prop :=
  ∀ ρ : Operand → Value, (∀ x u, ev l x = some u → ρ x = u) → (execOp ρ o).run P w = .ok (.enter f vs.toArray) w
/-- Its guard, if it has one, says yes. -/
def passes (l : List (Nat × Value)) (ops : List Oper) (o : Oper) : Bool :=
  match o.guard with
  | none => true
  | some (j, b) => match ops[j]? with
    | some oj => match oj.dst with
      | some d => match look l d with
        | some (.bool b') => b' == b
        | _ => false
      | none => false
    | none => false
/-- Its guard says no. -/
def stays (l : List (Nat × Value)) (ops : List Oper) (o : Oper) : Bool :=
  match o.guard with
  | none => false
  | some (j, b) => match ops[j]? with
    | some oj => match oj.dst with
      | some d => match look l d with
        | some (.bool b') => b' != b
        | _ => false
      | none => false
    | none => false
section
variable {P : Program} {ops : List Oper} {Q : Exit → Act → World → Prop} {a : Act} {w w' : World} {n : Nat} {l : List (Nat × Value)} {o : Oper} {v : Value} {rest : List Oper}
theorem Sl.wanted (h : Sl a n l) (hp : passes l ops o = true) : Region.wanted o (yielded ops.toArray a.tmps) = true := by
  unfold Region.wanted
  unfold passes at hp
  split at hp
  · rename_i hg; rw [hg]
  · rename_i j b hg
    rw [hg]
    split at hp
    · rename_i oj hj
      split at hp
      · rename_i d hd
        split at hp
        · rename_i b' hb
          have := h.holds d _ hb
          simp only [beq_iff_eq] at hp
          simp [yielded, hj, hd, this, hp]
        · cases hp
      · cases hp
    · cases hp
theorem Sl.unwanted (h : Sl a n l) (hp : stays l ops o = true) : Region.wanted o (yielded ops.toArray a.tmps) = false := by
  unfold Region.wanted
  unfold stays at hp
  split at hp
  · cases hp
  · rename_i j b hg
    rw [hg]
    split at hp
    · rename_i oj hj
      split at hp
      · rename_i d hd
        split at hp
        · rename_i b' hb
          have := h.holds d _ hb
          simp only [bne_iff_ne, ne_eq] at hp
          simp [yielded, hj, hd, this, hp]
        · cases hp
      · cases hp
    · cases hp
/-- One step of a region that goes in its text's order. -/
theorem seq_do (hA : Sl a n l) (hg : passes l ops o = true) {d : Nat} (hdst : o.dst = some d) (hd : Nat.blt d n = true) (he : Does P l o w v w')
    (hk : ∀ a', Sl a' n ((d, v) :: l) → wpList P ops.toArray Q rest a' w') : wpList P ops.toArray Q (o :: rest) a w := by
  unfold wpList
  rw [if_pos (hA.wanted hg)]
  refine .inl ?_
  unfold Oper.wp
  rw [he a.eval (fun x u hx => hA.ev hx), Oper.upon_value, hdst]
  exact hk _ (hA.put hd v)
theorem seq_set (hA : Sl a n l) (hg : passes l ops o = true) (hdst : o.dst = none) (he : Sets P l o w w')
    (hk : wpList P ops.toArray Q rest a w') : wpList P ops.toArray Q (o :: rest) a w := by
  unfold wpList
  rw [if_pos (hA.wanted hg)]
  refine .inl ?_
  unfold Oper.wp
  rw [he a.eval (fun x u hx => hA.ev hx), Oper.upon_skip, hdst]
  exact hk
theorem seq_skip (hA : Sl a n l) (hg : stays l ops o = true) {d : Nat} (hdst : o.dst = some d) (hd : Nat.blt d n = true)
    (hk : ∀ a', Sl a' n ((d, undef) :: l) → wpList P ops.toArray Q rest a' w) : wpList P ops.toArray Q (o :: rest) a w := by
  unfold wpList
  rw [hA.unwanted hg, if_neg (by simp), hdst]
  exact hk _ (hA.put hd undef)
theorem seq_call (hA : Sl a n l) (hg : passes l ops o = true) {d : Nat} (hdst : o.dst = some d) (hd : Nat.blt d n = true) {f : FuncId} {vs : List Value} (he : Enters P l o w f vs)
    {R : Ending → World → Prop} (hc : Calls P f vs.toArray w R)
    (hk : ∀ e w', R e w' → ∃ v, e = .returned v ∧ ∀ a', Sl a' n ((d, v) :: l) → wpList P ops.toArray Q rest a' w') : wpList P ops.toArray Q (o :: rest) a w := by
  unfold wpList
  rw [if_pos (hA.wanted hg)]
  refine .inl ?_
  unfold Oper.wp
  rw [he a.eval (fun x u hx => hA.ev hx), Oper.upon_enter]
  refine hc.mono ?_
  intro e w' hR
  obtain ⟨v, rfl, h⟩ := hk e w' hR
  simp only [hdst]
  exact h _ (hA.put hd v)
theorem seq_end (hk : Q .normal a w) : wpList P ops.toArray Q [] a w := hk
/-! .. and of a region that draws its order: S is what every world on the way meets. -/
variable {S : World → Prop} {md : Region.Mode} {fuel : Nat} {listed : Array Bool}
theorem any_take (hA : Sl a n l) (i : Nat) (hi : ops[i]? = some o) (hg : passes l ops o = true) {d : Nat} (hdst : o.dst = some d) (hd : Nat.blt d n = true) (hs : Region.noSelect ops.toArray = true) (hf : Region.free md ops.toArray listed i = true)
    (hr : (Region.ready md ops.toArray listed).contains i = true) (hQ : ∀ c a w, Q (.panic c) (a.put o.dst v) w → Q (.panic c) a w) (hS : S w) (he : ∀ w, S w → Does P l o w v w)
    (hk : ∀ a', Sl a' n ((d, v) :: l) → wpAnyH P md ops.toArray Q S fuel (listed.setIfInBounds i true) a' w) : wpAnyH P md ops.toArray Q S (fuel + 1) listed a w := by
  refine wpAnyH_take (i := i) (oi := o) (v := v) (by simpa using hi) hs hf hr hQ (Or.inl ⟨hA.wanted hg, fun w hw => he w hw a.eval (fun x u hx => hA.ev hx)⟩) hS ?_
  rw [hdst]
  exact hk _ (hA.put hd v)
theorem any_tk (hA : Sl a n l) (i : Nat) (hi : ops[i]? = some o) (hg : passes l ops o = true) {d : Nat} (hdst : o.dst = some d) (hd : Nat.blt d n = true) (hP : ∀ c a d v w, Q (.panic c) (Act.put a d v) w → Q (.panic c) a w) (hS : S w) (he : ∀ w, S w → Does P l o w v w)
    (hk : ∀ a', Sl a' n ((d, v) :: l) → wpAnyH P md ops.toArray Q S fuel (listed.setIfInBounds i true) a' w) (hs : Region.noSelect ops.toArray = true := by kernel_rfl) (hf : Region.free md ops.toArray listed i = true := by kernel_rfl) (hr : (Region.ready md ops.toArray listed).contains i = true := by kernel_rfl) : wpAnyH P md ops.toArray Q S (fuel + 1) listed a w :=
  any_take hA i hi hg hdst hd hs hf hr (fun c a w h => hP c a _ _ w h) hS he hk
/-- One operation of it. -/
theorem op_do (hA : Sl a n l) (i : Nat) (hi : ops[i]? = some o) (hg : passes l ops o = true) {d : Nat} (hdst : o.dst = some d) (hd : Nat.blt d n = true) (he : Does P l o w v w') (hS : S w')
    (hk : ∀ a', Sl a' n ((d, v) :: l) → wpAnyH P md ops.toArray Q S fuel (listed.setIfInBounds i true) a' w') : wpOp P ops.toArray Q i (fun a' w' => S w' ∧ wpAnyH P md ops.toArray Q S fuel (listed.setIfInBounds i true) a' w') a w := by
  unfold wpOp
  simp only [List.getElem?_toArray, hi]
  rw [if_pos (hA.wanted hg)]
  refine .inl ?_
  unfold Oper.wp
  rw [he a.eval (fun x u hx => hA.ev hx), Oper.upon_value, hdst]
  exact ⟨hS, hk _ (hA.put hd v)⟩
theorem op_set (hA : Sl a n l) (i : Nat) (hi : ops[i]? = some o) (hg : passes l ops o = true) (hdst : o.dst = none) (he : Sets P l o w w') (hS : S w')
    (hk : wpAnyH P md ops.toArray Q S fuel (listed.setIfInBounds i true) a w') : wpOp P ops.toArray Q i (fun a' w' => S w' ∧ wpAnyH P md ops.toArray Q S fuel (listed.setIfInBounds i true) a' w') a w := by
  unfold wpOp
  simp only [List.getElem?_toArray, hi]
  rw [if_pos (hA.wanted hg)]
  refine .inl ?_
  unfold Oper.wp
  rw [he a.eval (fun x u hx => hA.ev hx), Oper.upon_skip, hdst]
  exact ⟨hS, hk⟩
theorem op_call (hA : Sl a n l) (i : Nat) (hi : ops[i]? = some o) (hg : passes l ops o = true) {d : Nat} (hdst : o.dst = some d) (hd : Nat.blt d n = true)
    {f : FuncId} {vs : List Value} (he : Enters P l o w f vs) {R : Ending → World → Prop} (hc : Calls P f vs.toArray w R)
    (hk : ∀ e w', R e w' → ∃ v, e = .returned v ∧ S w' ∧ ∀ a', Sl a' n ((d, v) :: l) → wpAnyH P md ops.toArray Q S fuel (listed.setIfInBounds i true) a' w') : wpOp P ops.toArray Q i (fun a' w' => S w' ∧ wpAnyH P md ops.toArray Q S fuel (listed.setIfInBounds i true) a' w') a w := by
  unfold wpOp
  simp only [List.getElem?_toArray, hi]
  rw [if_pos (hA.wanted hg)]
  refine .inl ?_
  unfold Oper.wp
  rw [he a.eval (fun x u hx => hA.ev hx), Oper.upon_enter]
  refine hc.mono ?_
  intro e w' hR
  obtain ⟨v, rfl, h1, h2⟩ := hk e w' hR
  simp only [hdst]
  exact ⟨h1, h2 _ (hA.put hd v)⟩
/-- Nothing else may come up. -/
theorem any_one {i : Nat} (hr : Region.ready md ops.toArray listed = [i]) (h : wpOp P ops.toArray Q i (fun a' w' => S w' ∧ wpAnyH P md ops.toArray Q S fuel (listed.setIfInBounds i true) a' w') a w) : wpAnyH P md ops.toArray Q S (fuel + 1) listed a w :=
  wpAnyH_all hr (by simp) (fun j hj => by rw [List.mem_singleton] at hj; subst hj; exact h)
def AllOps (W : Nat → Prop) : List Nat → Prop
  | [] => True
  | i :: t => W i ∧ AllOps W t
theorem AllOps.get {W : Nat → Prop} : ∀ {rs : List Nat}, AllOps W rs → ∀ i ∈ rs, W i
  | _ :: _, h, i, hi => by
    rcases List.mem_cons.1 hi with rfl | hi
    · exact h.1
    · exact AllOps.get h.2 i hi
/-- Whichever comes up. -/
theorem any_many {rs : List Nat} (hr : Region.ready md ops.toArray listed = rs) (hne : rs ≠ []) (h : AllOps (fun i => wpOp P ops.toArray Q i (fun a' w' => S w' ∧ wpAnyH P md ops.toArray Q S fuel (listed.setIfInBounds i true) a' w') a w) rs) : wpAnyH P md ops.toArray Q S (fuel + 1) listed a w :=
  wpAnyH_all hr hne (fun i hi => h.get i hi)
theorem any_end (hr : Region.ready md ops.toArray listed = []) (hk : Q .normal a w) : wpAnyH P md ops.toArray Q S fuel listed a w := wpAnyH_done hr hk fuel
end
end Go.Proofs.YtoeofpncdchicaaDoor
namespace Go.Proofs.YtoeofpncdchicaaDoor
open Go.RowKit
set_option linter.unusedVariables false
set_option linter.unusedSimpArgs false

def noWord : Value → Bool
  | .int .u32 _ => false
  | _ => true
theorem noWord_ne {v : Value} (h : noWord v = true) : ∀ n, v ≠ .int .u32 n := by
  intro n e
  subst e
  cases h
/-- Their blocks are others, where they have any. -/
def Apart (x y : Option Addr) : Prop := ∀ a b, x = some a → y = some b → a.block ≠ b.block
def Off (x : Option Addr) (g : Nat) : Prop := ∀ a, x = some a → a.block ≠ g
/-- Memory: as it was at w0, but for new blocks: those of L hold these cells; R: what is read as rows of words; O: rows of words of the call's own, written in place. -/
structure St (w0 w : World) (L : List (Nat × List Value)) (R : List (Option Addr × List Nat)) (O : List (Option Addr × Nat × List Nat)) : Prop where
  bel : Below w0.heap.size w0 w
  own : ∀ p ∈ L, w0.heap.size ≤ p.1 ∧ Blk w p.1 p.2
  dis : L.Pairwise (fun p q => p.1 ≠ q.1)
  rds : ∀ r ∈ R, Rd w r.1 r.2
  rows : ∀ o ∈ O, Own w0.heap.size w o.1 o.2.1 o.2.2
  sepO : O.Pairwise (fun p q => Apart p.1 q.1)
  sepL : ∀ o ∈ O, ∀ p ∈ L, Off o.1 p.1
  sepR : ∀ o ∈ O, ∀ r ∈ R, r.2 ≠ [] → Apart o.1 r.1
section
variable {w0 w w' : World} {L : List (Nat × List Value)} {R : List (Option Addr × List Nat)} {O : List (Option Addr × Nat × List Nat)}
theorem St.start (w : World) : St w w [] [] [] := ⟨Below.refl _ _, by simp, .nil, by simp, by simp, .nil, by simp, by simp⟩
theorem St.addR (h : St w0 w L R []) {so : Option Addr} {l : List Nat} (hr : Rd w so l) : St w0 w L ((so, l) :: R) [] :=
  ⟨h.bel, h.own, h.dis, fun r hm => by rcases List.mem_cons.1 hm with rfl | hm; exact hr; exact h.rds r hm, by simp, .nil, by simp, by simp⟩
theorem St.rd (h : St w0 w L R O) (k : Nat) {so : Option Addr} {l : List Nat} (hk : R[k]? = some (so, l)) : Rd w so l := h.rds _ (List.mem_of_getElem? hk)
theorem St.row (h : St w0 w L R O) (k : Nat) {so : Option Addr} {c : Nat} {l : List Nat} (hk : O[k]? = some (so, c, l)) : Own w0.heap.size w so c l := h.rows _ (List.mem_of_getElem? hk)
theorem St.call (h : St w0 w L R O) (hb : Below w.heap.size w w') : St w0 w' L R O :=
  ⟨chain2 h.bel hb, fun p hp => ⟨(h.own p hp).1, (h.own p hp).2.below hb⟩, h.dis, fun r hr => (h.rds r hr).below hb, fun o ho => (h.rows o ho).below hb, h.sepO, h.sepL, h.sepR⟩
theorem St.drew (h : St w0 w L R O) : St w0 w.drew L R O := ⟨h.bel.drew, fun p hp => ⟨(h.own p hp).1, (h.own p hp).2.drew⟩, h.dis, fun r hr => (h.rds r hr).drew, fun o ho => (h.rows o ho).drew, h.sepO, h.sepL, h.sepR⟩
theorem St.lt (h : St w0 w L R O) : ∀ p ∈ L, p.1 < w.heap.size := fun p hp => (h.own p hp).2.lt
theorem St.new (h : St w0 w L R O) (vs : List Value) (t : TypeId) (hno : vs.all noWord = true) : St w0 (w.alloc (.cells vs.toArray t)) ((w.heap.size, vs) :: L) R O := by
  have hb : Below w.heap.size w (w.alloc (.cells vs.toArray t)) := (Below.refl _ _).alloc (Nat.le_refl _) _
  have h' := h.call hb
  refine ⟨h'.bel, fun p hp => ?_, List.pairwise_cons.2 ⟨fun q hq => Nat.ne_of_gt (h.lt q hq), h.dis⟩, h'.rds, h'.rows, h.sepO, fun o ho p hp => ?_, h.sepR⟩
  · rcases List.mem_cons.1 hp with rfl | hp
    · exact ⟨h.bel.size, Blk.new w vs t (fun v hv => noWord_ne (List.all_eq_true.1 hno v hv))⟩
    · exact h'.own p hp
  · rcases List.mem_cons.1 hp with rfl | hp
    · exact fun a ha => Nat.ne_of_lt ((h.rows o ho).lt a ha).2
    · exact h.sepL o ho p hp
theorem St.blk (h : St w0 w L R O) (k : Nat) {g : Nat} {vs : List Value} (hk : L[k]? = some (g, vs)) : Blk w g vs := (h.own _ (List.mem_of_getElem? hk)).2
theorem St.subL (h : St w0 w L R O) (L' : List (Nat × List Value)) (hs : L'.Sublist L) : St w0 w L' R O := ⟨h.bel, fun p hp => h.own p (hs.subset hp), h.dis.sublist hs, h.rds, h.rows, h.sepO, fun o ho p hp => h.sepL o ho p (hs.subset hp), h.sepR⟩
theorem St.subO (h : St w0 w L R O) (O' : List (Option Addr × Nat × List Nat)) (hs : O'.Sublist O) : St w0 w L R O' := ⟨h.bel, h.own, h.dis, h.rds, fun o ho => h.rows o (hs.subset ho), h.sepO.sublist hs, fun o ho => h.sepL o (hs.subset ho), fun o ho => h.sepR o (hs.subset ho)⟩
def AllR (R : List (Option Addr × List Nat)) : List (Option Addr × List Nat) → Prop
  | [] => True
  | r :: t => (∃ k : Nat, R[k]? = some r) ∧ AllR R t
theorem AllR.mem : ∀ {R' : List (Option Addr × List Nat)}, AllR R R' → ∀ r ∈ R', r ∈ R
  | r :: t, hs, x, hx => by
    rcases List.mem_cons.1 hx with rfl | hx
    · obtain ⟨⟨k, hk⟩, _⟩ := hs
      exact List.mem_of_getElem? hk
    · exact AllR.mem hs.2 x hx
theorem St.pickR (h : St w0 w L R O) (R' : List (Option Addr × List Nat)) (hs : AllR R R') : St w0 w L R' O :=
  ⟨h.bel, h.own, h.dis, fun r hr => h.rds r (hs.mem r hr), h.rows, h.sepO, h.sepL, fun o ho r hr => h.sepR o ho r (hs.mem r hr)⟩
theorem St.part {L' : List (Nat × List Value)} {R' : List (Option Addr × List Nat)} {O' : List (Option Addr × Nat × List Nat)} (h : St w0 w L R O) (hL : L'.Sublist L) (hR : AllR R R') (hO : O'.Sublist O) : St w0 w L' R' O' := ((h.pickR R' hR).subL L' hL).subO O' hO
theorem St.cell (h : St w0 w L R O) (k : Nat) {g : Nat} {vs : List Value} (hk : L[k]? = some (g, vs)) (i : Nat) {v : Value} (hi : vs[i]? = some v) : w.cell? ⟨g, i, none⟩ = some v :=
  (h.own _ (List.mem_of_getElem? hk)).2.cell i v hi
theorem pairwise_set {L : List (Nat × List Value)} (h : L.Pairwise (fun p q => p.1 ≠ q.1)) {k g : Nat} {vs us : List Value} (hk : L[k]? = some (g, vs)) : (L.set k (g, us)).Pairwise (fun p q => p.1 ≠ q.1) := by
  have e : (L.set k (g, us)).map Prod.fst = L.map Prod.fst := by
    rw [List.map_set]
    apply List.ext_getElem?
    intro i
    by_cases hi : k = i
    · subst hi
      have hlt : k < (L.map Prod.fst).length := by simpa using (List.getElem?_eq_some_iff.1 hk).1
      rw [List.getElem?_set_self hlt]
      simp [hk]
    · rw [List.getElem?_set_ne hi]
  have h1 : (L.map Prod.fst).Pairwise (· ≠ ·) := List.pairwise_map.2 h
  rw [← e] at h1
  exact List.pairwise_map.1 h1
theorem other_of {L : List (Nat × List Value)} (h : L.Pairwise (fun p q => p.1 ≠ q.1)) {k g : Nat} {vs us : List Value} (hk : L[k]? = some (g, vs)) {p : Nat × List Value} (hp : p ∈ L.set k (g, us)) : p = (g, us) ∨ (p ∈ L ∧ g ≠ p.1) := by
  obtain ⟨i, hi⟩ := List.mem_iff_getElem?.1 hp
  by_cases e : k = i
  · subst e
    have hlt : k < L.length := (List.getElem?_eq_some_iff.1 hk).1
    rw [List.getElem?_set_self hlt] at hi
    exact .inl (Option.some.inj hi).symm
  · rw [List.getElem?_set_ne e] at hi
    refine .inr ⟨List.mem_of_getElem? hi, ?_⟩
    have h1 := List.pairwise_iff_getElem.1 h
    obtain ⟨hk1, hk2⟩ := List.getElem?_eq_some_iff.1 hk
    obtain ⟨hi1, hi2⟩ := List.getElem?_eq_some_iff.1 hi
    rcases Nat.lt_or_gt_of_ne e with hlt | hlt
    · have := h1 k i hk1 hi1 hlt
      rw [hk2, hi2] at this
      exact this
    · have := h1 i k hi1 hk1 hlt
      rw [hk2, hi2] at this
      exact fun e => this e.symm
theorem grown_set (w : World) (g i : Nat) (v : Value) : w.grownBy (w.setCell ⟨g, i, none⟩ v) (some g) :=
  ⟨rfl, rfl, rfl, by simp, fun k hk hne => Below.heap_setCell w ⟨g, i, none⟩ v k (fun e => hne (by rw [e]))⟩
theorem St.set (h : St w0 w L R O) (k : Nat) {g : Nat} {vs : List Value} (hk : L[k]? = some (g, vs)) (i : Nat) (hi : i < vs.length) (v : Value) (hv : noWord v = true) : St w0 (w.setCell ⟨g, i, none⟩ v) (L.set k (g, vs.set i v)) R O := by
  have hm := List.mem_of_getElem? hk
  have ho := h.own _ hm
  refine ⟨h.bel.setCell (p := ⟨g, i, none⟩) ho.1 v, fun p hp => ?_, pairwise_set h.dis hk, fun r hr => ho.2.rd (h.rds r hr) i v hi, fun o hO => (h.rows o hO).kept (grown_set w g i v) (fun a ha e => h.sepL o hO _ hm a ha (by simpa using e)), h.sepO, fun o hO p hp => ?_, h.sepR⟩
  · rcases other_of h.dis hk hp with rfl | ⟨hp, hne⟩
    · exact ⟨ho.1, ho.2.set i v hi (noWord_ne hv)⟩
    · exact ⟨(h.own p hp).1, (h.own p hp).2.far hne i v⟩
  · rcases other_of h.dis hk hp with rfl | ⟨hp, hne⟩
    · exact (show Off o.1 g from h.sepL o hO _ hm)
    · exact h.sepL o hO p hp
def over : List Value → Nat → List Value → List Value
  | vs, _, [] => vs
  | vs, o, c :: cs => over (vs.set o c) (o + 1) cs
/-! Rows of the call's own. -/
theorem Blk.grown {g : Nat} {vs : List Value} (h : Blk w g vs) {row : Option Nat} (hg : w.grownBy w' row) (hne : some g ≠ row) : Blk w' g vs := by
  have e := hg.block g h.lt hne
  exact ⟨Nat.lt_of_lt_of_le h.lt hg.size, fun i v hv => (World.cell?_of_block (w := w) (a := ⟨g, i, none⟩) e).trans (h.cell i v hv), fun i => (World.frozen?_of_block (w := w) (a := ⟨g, i, none⟩) e).trans (h.froz i), h.no⟩
theorem othersO {k : Nat} {o u p : Option Addr × Nat × List Nat} (h : O.Pairwise (fun p q => Apart p.1 q.1)) (hk : O[k]? = some o) (hp : p ∈ O.set k u) : p = u ∨ (p ∈ O ∧ Apart o.1 p.1) := by
  obtain ⟨i, hi⟩ := List.mem_iff_getElem?.1 hp
  by_cases e : k = i
  · subst e
    rw [List.getElem?_set_self (List.getElem?_eq_some_iff.1 hk).1] at hi
    exact .inl (Option.some.inj hi).symm
  · rw [List.getElem?_set_ne e] at hi
    refine .inr ⟨List.mem_of_getElem? hi, ?_⟩
    have h1 := List.pairwise_iff_getElem.1 h
    obtain ⟨hk1, hk2⟩ := List.getElem?_eq_some_iff.1 hk
    obtain ⟨hi1, hi2⟩ := List.getElem?_eq_some_iff.1 hi
    rcases Nat.lt_or_gt_of_ne e with hlt | hlt
    · have := h1 k i hk1 hi1 hlt
      rw [hk2, hi2] at this
      exact this
    · have := h1 i k hi1 hk1 hlt
      rw [hk2, hi2] at this
      exact fun a b ha hb e => this b a hb ha e.symm
/-- One row is changed, or lies anew in a block that is made now; all else stays. -/
theorem St.turn (h : St w0 w L R O) (k : Nat) {ao : Option Addr} {c : Nat} {l : List Nat} (hk : O[k]? = some (ao, c, l)) {bo : Option Addr} {c' : Nat} {l' : List Nat} (hg : w.grownBy w' (Value.slice ao l.length c).ownBlock) (ho : Own w0.heap.size w' bo c' l') (hat : ∀ b, bo = some b → (∃ a, ao = some a ∧ a.block = b.block) ∨ b.block = w.heap.size) :
    St w0 w' L R (O.set k (bo, c', l')) := by
  have hm := List.mem_of_getElem? hk
  have hrow := h.rows _ hm
  have blk : ∀ a, ao = some a → (Value.slice ao l.length c).ownBlock = some a.block := fun a ha => by rw [ha]; rfl
  have far : ∀ g, Off ao g → some g ≠ (Value.slice ao l.length c).ownBlock := fun g hg e => by
    cases hao : ao with
    | none => rw [hao] at e; simp [Value.ownBlock] at e
    | some a => rw [blk a hao] at e; exact hg a hao (by simpa using e.symm)
  -- what lies off the old row and is there lies off the new one
  have off : ∀ g, Off ao g → g < w.heap.size → Off bo g := fun g hg hlt b hb e => by
    rcases hat b hb with ⟨a, ha, e1⟩ | e1
    · exact hg a ha (e1.trans e)
    · omega
  refine ⟨h.bel.grown hg h.bel.size (fun j hj => ?_), fun p hp => ⟨(h.own p hp).1, (h.own p hp).2.grown hg (far _ (h.sepL _ hm p hp))⟩, h.dis, fun r hr => ?_, fun o hO => ?_, ?_, fun o hO p hp => ?_, fun o hO r hr hne => ?_⟩
  · cases hao : ao with
    | none => rw [hao] at hj; simp [Value.ownBlock] at hj
    | some a => rw [blk a hao] at hj; cases hj; exact (hrow.lt a hao).1
  · by_cases hne : r.2 = []
    · rw [hne]; exact Rd.nil _ _
    · exact (h.rds r hr).grown hg (fun a ha => far _ (fun x hx e => h.sepR _ hm r hr hne x a hx ha e))
  · rcases othersO h.sepO hk hO with rfl | ⟨hO, hap⟩
    · exact ho
    · exact (h.rows o hO).kept hg (fun a ha => far _ (fun x hx e => hap x a hx ha e))
  · have key : ∀ o ∈ O, Apart ao o.1 → Apart bo o.1 := fun o hO hap b x hb hx e => off x.block (fun y hy ey => hap y x hy hx ey) ((h.rows o hO).lt x hx).2 b hb e
    rw [List.pairwise_iff_getElem]
    intro i j hi hj hij
    have hi' : i < O.length := by simpa using hi
    have hj' : j < O.length := by simpa using hj
    have h1 := List.pairwise_iff_getElem.1 h.sepO
    obtain ⟨hk1, hk2⟩ := List.getElem?_eq_some_iff.1 hk
    rw [List.getElem_set, List.getElem_set]
    by_cases e1 : k = i
    · subst e1
      rw [if_pos rfl, if_neg (by omega)]
      have := h1 k j hi' hj' hij
      rw [hk2] at this
      exact key _ (List.getElem_mem hj') this
    · rw [if_neg e1]
      by_cases e2 : k = j
      · subst e2
        rw [if_pos rfl]
        have := h1 i k hi' hj' hij
        rw [hk2] at this
        exact fun x b hx hb e => key _ (List.getElem_mem hi') (fun p q hp hq e => this q p hq hp e.symm) b x hb hx e.symm
      · rw [if_neg e2]
        exact h1 i j hi' hj' hij
  · rcases othersO h.sepO hk hO with rfl | ⟨hO, _⟩
    · exact off _ (h.sepL _ hm p hp) (h.lt p hp)
    · exact h.sepL o hO p hp
  · rcases othersO h.sepO hk hO with rfl | ⟨hO, _⟩
    · intro b x hb hx e
      obtain ⟨bb, of_, e1, hlt, _⟩ := (h.rds r hr).pos hne
      rw [e1] at hx
      cases hx
      exact off bb (fun y hy ey => h.sepR _ hm r hr hne y ⟨bb, of_, none⟩ hy e1 ey) hlt b hb e
    · exact h.sepR o hO r hr hne
theorem St.setRow (h : St w0 w L R O) (k : Nat) {g c : Nat} {l : List Nat} (hk : O[k]? = some (some ⟨g, 0, none⟩, c, l)) (j d : Nat) (hd : d < 4294967296) : St w0 (w.setCell ⟨g, j, none⟩ (.int .u32 ((d : Nat) : Int))) L R (O.set k (some ⟨g, 0, none⟩, c, l.set j d)) :=
  h.turn k hk (by exact grown_set w g j _) ((h.row k hk).set j d hd) (fun b hb => by cases hb; exact .inl ⟨_, rfl, rfl⟩)
/-! ### The types -/
/-- A struct type of n cells. -/
structure IsS (P : Program) (t : TypeId) (n : Nat) : Prop where
  und : ∃ fs, P.underlying t = some (.struct fs)
  size : (P.info? t).map (·.size) = some n
theorem info_size {P : Program} {t : TypeId} {n : Nat} (h : (P.info? t).map (·.size) = some n) : ∃ i, P.info? t = some i ∧ i.size = n := by
  cases hi : P.info? t with
  | none => rw [hi] at h; cases h
  | some i => rw [hi] at h; exact ⟨i, rfl, by simpa using h⟩
/-- A type of one cell. -/
structure Is1 (P : Program) (t : TypeId) : Prop where
  und : ∃ d, P.underlying t = some d ∧ (match d with | .struct _ | .array _ _ => false | _ => true) = true
  size : (P.info? t).map (·.size) = some 1
/-- Field f of a struct type lies at this cell. -/
def FieldAt (P : Program) (s : TypeId) (f off : Nat) : Prop := ∃ fs fld, P.underlying s = some (.struct fs) ∧ fs[f]? = some fld ∧ fld.offset = off ∧ (P.info? fld.type).map (fun i => Nat.beq i.size 0) = some false

variable {P : Program}
theorem addr_add (g o j : Nat) : (⟨g, o, none⟩ : Addr).add j = ⟨g, o + j, none⟩ := by unfold Addr.add; split <;> simp_all
theorem run_loadS {t : TypeId} {n : Nat} (ht : IsS P t n) {g o : Nat} (cs : List Value) (hl : cs.length = n) (hc : ∀ j v, cs[j]? = some v → w.cell? ⟨g, o + j, none⟩ = some v) : (loadVar t ⟨g, o, none⟩).run P w = .ok (.agg cs.toArray) w := by
  obtain ⟨fs, hu⟩ := ht.und
  obtain ⟨i, hi, hn⟩ := info_size ht.size
  have h1 : (isAgg t).run P w = .ok true w := by simp [isAgg, run_underlying hu]
  have h2 : (sizeOf t).run P w = .ok cs.length w := by simp [sizeOf, typeInfo, hi, hn, hl]
  have h3 := run_loadCells_list (P := P) w ⟨g, o, none⟩ cs (fun j v hj => by rw [addr_add]; exact hc j v hj)
  simp only [loadVar, Sem.run_bind, h1, Result.andThen_ok, if_true, h2, h3, Sem.run_pure]
theorem run_load1 {t : TypeId} (ht : Is1 P t) {a : Addr} {v : Value} (hc : w.cell? a = some v) : (loadVar t a).run P w = .ok v w := by
  obtain ⟨d, hu, hd⟩ := ht.und
  have h1 : (isAgg t).run P w = .ok false w := by
    cases d <;> first | (simp at hd; done) | simp [isAgg, run_underlying hu]
  simp only [loadVar, Sem.run_bind, h1, Result.andThen_ok, if_false, Bool.false_eq_true]
  simp [hc]

variable {l : List (Nat × Value)} {dst : Option Tmp} {ty : TypeId} {pos : String} {after : Array Edge} {guard : Option (Nat × Bool)} {v : Value}
theorem does_move {x : Operand} (hx : ev l x = some v) : Does P l ⟨dst, .move x, ty, pos, after, guard⟩ w v w := fun ρ h => by
  simp only [execOp, h x v hx]; rfl
theorem does_assign {x : Operand} (hx : ev l x = some v) : Does P l ⟨dst, .assign x, ty, pos, after, guard⟩ w v w := fun ρ h => by
  simp only [execOp, h x v hx]; rfl
theorem does_pick {c x y : Operand} {b : Bool} {u u' : Value} (hc : ev l c = some (.bool b)) (hx : ev l x = some u) (hy : ev l y = some u') (hv : v = cond b u u') : Does P l ⟨dst, .pick c x y, ty, pos, after, guard⟩ w v w := fun ρ h => by
  subst hv
  simp only [execOp, h c _ hc, h x _ hx, h y _ hy]
  cases b <;> rfl
theorem does_extract {x : Operand} {vs : List Value} {i : Nat} (hx : ev l x = some (.tuple vs.toArray)) (hi : vs[i]? = some v) : Does P l ⟨dst, .extract x i, ty, pos, after, guard⟩ w v w := fun ρ h => by
  simp only [execOp, h x _ hx, Instr.extract, List.getElem?_toArray, hi]; rfl
theorem does_load {t : TypeId} {x : Operand} {a : Addr} (hx : ev l x = some (.pointer (some a))) (hr : (loadVar t a).run P w = .ok v w) : Does P l ⟨dst, .load t x, ty, pos, after, guard⟩ w v w := fun ρ h => by
  simp only [execOp, h x _ hx, Instr.loadAt, Instr.sureAddr, Sem.run_bind, Sem.run_pure, Result.andThen_ok, hr]
/-- A struct out of a block of the call's own. -/
theorem does_loadS (hS : St w0 w L R O) {t : TypeId} {n : Nat} (ht : IsS P t n) {x : Operand} {g o : Nat} (hx : ev l x = some (.pointer (some ⟨g, o, none⟩))) (k : Nat) {vs cs : List Value} (hk : L[k]? = some (g, vs)) (hcs : (vs.drop o).take n = cs) (hl : cs.length = n) :
    Does P l ⟨dst, .load t x, ty, pos, after, guard⟩ w (.agg cs.toArray) w :=
  does_load hx (run_loadS ht cs hl (fun j v hj => hS.cell k hk (o + j) (by
    have hjn : j < n := by rw [← hl]; exact (List.getElem?_eq_some_iff.1 hj).1
    rw [← hcs, List.getElem?_take, if_pos hjn, List.getElem?_drop] at hj
    exact hj)))
theorem does_load1 (hS : St w0 w L R O) {t : TypeId} (ht : Is1 P t) {x : Operand} {g o : Nat} (hx : ev l x = some (.pointer (some ⟨g, o, none⟩))) (k : Nat) {vs : List Value} (hk : L[k]? = some (g, vs)) (hv : vs[o]? = some v) :
    Does P l ⟨dst, .load t x, ty, pos, after, guard⟩ w v w := does_load hx (run_load1 ht (hS.cell k hk o hv))
theorem Rd.addr {so : Option Addr} {l : List Nat} {i : Nat} (h : Rd w so l) (hi : i < l.length) : ∃ b off, so = some ⟨b, off, none⟩ := by
  obtain ⟨b, off, h1, _⟩ := h.pos (fun e => by rw [e] at hi; simp at hi)
  exact ⟨b, off, h1⟩
theorem Rd.at_ {so : Option Addr} {l : List Nat} {i b off : Nat} (h : Rd w so l) (hso : so = some ⟨b, off, none⟩) (hi : i < l.length) : w.cell? ⟨b, off + i, none⟩ = some (.int .u32 ((l.getD i 0 : Nat) : Int)) := by
  obtain ⟨b', off', h1, _, h3⟩ := h.pos (fun e => by rw [e] at hi; simp at hi)
  rw [hso] at h1
  cases h1
  exact h3 i hi
theorem does_loadRow {so : Option Addr} {us : List Nat} {i b off : Nat} (h : Rd w so us) (hso : so = some ⟨b, off, none⟩) (hi : i < us.length) {t : TypeId} (ht : Is1 P t) {x : Operand} (hx : ev l x = some (.pointer (some ⟨b, off + i, none⟩))) :
    Does P l ⟨dst, .load t x, ty, pos, after, guard⟩ w (.int .u32 ((us.getD i 0 : Nat) : Int)) w := does_load hx (run_load1 ht (h.at_ hso hi))
theorem does_field {s : TypeId} {x : Operand} {f g o off o' : Nat} (hf : FieldAt P s f off) (hx : ev l x = some (.pointer (some ⟨g, o, none⟩))) (ho : o + off = o') : Does P l ⟨dst, .fieldAddr s x f, ty, pos, after, guard⟩ w (.pointer (some ⟨g, o', none⟩)) w := fun ρ h => by
  obtain ⟨fs, fld, hu, hff, hoff, hm⟩ := hf
  obtain ⟨i, hi, hz⟩ : ∃ i, P.info? fld.type = some i ∧ i.size ≠ 0 := by
    cases hi : P.info? fld.type with
    | none => rw [hi] at hm; cases hm
    | some i =>
      rw [hi] at hm
      refine ⟨i, rfl, fun e => ?_⟩
      simp [e] at hm
  subst ho
  have h2 : (sizeOf fld.type).run P w = .ok i.size w := by simp [sizeOf, typeInfo, hi]
  simp only [execOp, h x _ hx, Instr.fieldAt, Sem.run_bind, run_underlying hu, Result.andThen_ok, hff, Instr.sureAddr, Sem.run_pure, fieldPlace, h2, if_neg hz, addr_add, hoff]
theorem does_box {t : TypeId} {x : Operand} {u : Value} (hx : ev l x = some u) {vs : List Value} (hc : u.cells = vs.toArray) : Does P l ⟨dst, .box t x, ty, pos, after, guard⟩ w (.pointer (some ⟨w.heap.size, 0, none⟩)) (w.alloc (.cells vs.toArray t)) := fun ρ h => by
  simp only [execOp, h x _ hx, ← hc]; rfl
theorem does_alloc {t : TypeId} {z : Value} (hz : (P.info? t).map (·.zero) = some (some z)) {vs : List Value} (hc : z.cells = vs.toArray) : Does P l ⟨dst, .alloc t, ty, pos, after, guard⟩ w (.pointer (some ⟨w.heap.size, 0, none⟩)) (w.alloc (.cells vs.toArray t)) := fun ρ h => by
  cases hi : P.info? t with
  | none => rw [hi] at hz; cases hz
  | some i =>
    rw [hi] at hz
    simp only [Option.map_some, Option.some.injEq] at hz
    have h1 : (zeroValue t).run P w = .ok z w := by simp [zeroValue, typeInfo, hi, hz]
    simp only [execOp, Instr.alloc, Sem.run_bind, h1, Result.andThen_ok, ← hc]
    rfl
theorem does_build {t : TypeId} {parts : List (Nat × Operand)} {pv : List (Nat × Value)} (hp : evp l parts = some pv) (hb : ∀ w, (Instr.build t pv.toArray).run P w = .ok v w) : Does P l ⟨dst, .build t parts.toArray, ty, pos, after, guard⟩ w v w := fun ρ h => by
  have e : parts.toArray.map (fun p => (p.1, ρ p.2)) = pv.toArray := by
    simp only [List.map_toArray]
    congr 1
    have : ∀ (xs : List (Nat × Operand)) (vs : List (Nat × Value)), evp l xs = some vs → xs.map (fun p => (p.1, ρ p.2)) = vs := by
      intro xs
      induction xs with
      | nil => intro vs hx; simp [evp] at hx; simp [hx]
      | cons x xs ih =>
        intro vs hx
        obtain ⟨i, x⟩ := x
        unfold evp at hx
        split at hx
        · rename_i v us h1 h2
          cases hx
          simp [h _ _ h1, ih _ h2]
        · cases hx
    exact this parts pv hp
  have e' : (parts.toArray.map fun (i, x) => (i, ρ x)) = pv.toArray := e
  simp only [execOp, e', Sem.run_bind, hb w, Result.andThen_ok, Sem.run_pure]
theorem does_buildSlice {t : TypeId} {n : Nat} {parts : List (Nat × Operand)} {pv : List (Nat × Value)} (hp : evp l parts = some pv) {w' : World} (hb : (Instr.buildSlice t n pv.toArray).run P w = .ok v w') : Does P l ⟨dst, .buildSlice t n parts.toArray, ty, pos, after, guard⟩ w v w' := fun ρ h => by
  have e : parts.toArray.map (fun p => (p.1, ρ p.2)) = pv.toArray := by
    simp only [List.map_toArray]
    congr 1
    have : ∀ (xs : List (Nat × Operand)) (vs : List (Nat × Value)), evp l xs = some vs → xs.map (fun p => (p.1, ρ p.2)) = vs := by
      intro xs
      induction xs with
      | nil => intro vs hx; simp [evp] at hx; simp [hx]
      | cons x xs ih =>
        intro vs hx
        obtain ⟨i, x⟩ := x
        unfold evp at hx
        split at hx
        · rename_i v us h1 h2
          cases hx
          simp [h _ _ h1, ih _ h2]
        · cases hx
    exact this parts pv hp
  have e' : (parts.toArray.map fun (i, x) => (i, ρ x)) = pv.toArray := e
  simp only [execOp, e', Sem.run_bind, hb, Result.andThen_ok, Sem.run_pure]
theorem does_len {x : Operand} {t e : TypeId} {so : Option Addr} {n c : Nat} (hu : P.underlying t = some (.slice e)) (hx : ev l x = some (.slice so n c)) : Does P l ⟨dst, .call ⟨.builtin .len, #[x], #[t]⟩, ty, pos, after, guard⟩ w (.int .i64 n) w := fun ρ h => by
  have := h x _ hx
  simp [go_sem, this, Builtin.len_, run_underlying hu, goInt]
theorem does_bin {b : BinOp} {t t' : TypeId} {x y : Operand} {u u' : Value} (hx : ev l x = some u) (hy : ev l y = some u') (hr : ∀ w, (do eqGuard b t x y u u'; binOp b t u u' : Sem Value).run P w = .ok v w) : Does P l ⟨dst, .binOp b t x y t', ty, pos, after, guard⟩ w v w := fun ρ h => by
  simp only [execOp, h x _ hx, h y _ hy]
  rw [Sem.run_bind, hr w]
  rfl
theorem does_un {b : UnOp} {t : TypeId} {x : Operand} {u : Value} (hx : ev l x = some u) (hr : ∀ w, (Op.unary b u).run P w = .ok v w) : Does P l ⟨dst, .unOp b t x, ty, pos, after, guard⟩ w v w := fun ρ h => by
  simp only [execOp, h x _ hx, Sem.run_bind, hr w, Result.andThen_ok, Sem.run_pure]
theorem enters_func {x : Operand} {f : FuncId} {args : List Operand} {ts : Array TypeId} {vs : List Value} (hx : ev l x = some (.func (.func f) #[] #[])) (ha : evs l args = some vs) (hf : ∀ w, (invoke (.fn (.func f) #[]) vs.toArray).run P w = .ok (.enter f vs.toArray) w) :
    Enters P l ⟨dst, .call ⟨.value x, args.toArray, ts⟩, ty, pos, after, guard⟩ w f vs := fun ρ h => by
  have e : args.map ρ = vs := by
    have : ∀ (xs : List Operand) (vs : List Value), evs l xs = some vs → xs.map ρ = vs := by
      intro xs
      induction xs with
      | nil => intro vs hx; simp [evs] at hx; simp [hx]
      | cons x xs ih =>
        intro vs hx
        unfold evs at hx
        split at hx
        · rename_i v us h1 h2
          cases hx
          simp [h _ _ h1, ih _ h2]
        · cases hx
    exact this args vs ha
  have := hf w
  simp [execOp, resolve, h x _ hx, Deferred.ofValue, e, this]

/-! ### Steps that make or change memory, the world behind them a letter -/
section
variable {ops : List Oper} {Q : Exit → Act → World → Prop} {a : Act} {n : Nat} {o : Oper} {rest : List Oper} {d : Nat}
theorem seq_new (hA : Sl a n l) (hS : St w0 w L R O) (hg : passes l ops o = true) (hdst : o.dst = some d) (hd : Nat.blt d n = true) {vs : List Value} {t : TypeId} (val : Nat → Value) (he : Does P l o w (val w.heap.size) (w.alloc (.cells vs.toArray t))) (hno : vs.all noWord = true)
    (hk : ∀ g w', St w0 w' ((g, vs) :: L) R O → ∀ a', Sl a' n ((d, val g) :: l) → wpList P ops.toArray Q rest a' w') : wpList P ops.toArray Q (o :: rest) a w :=
  seq_do hA hg hdst hd he (hk _ _ (hS.new vs t hno))
variable {S : World → Prop} {md : Region.Mode} {fuel : Nat} {listed : Array Bool}
/-! Rows of the call's own: made, written, appended to. -/
/-- A region that draws its order. -/
theorem wp_draw {id : Nat} (hm : P.follows .mixedOrders = true) (h : wpAnyH P .any ops.toArray Q S ops.length (Array.replicate ops.length false) a w.drew) : (Code.region id ops.toArray true).wp P Q a w :=
  wp_region_held (S := S) hm (by simpa using h)
end
/-! ### The end -/
def resOf (P : Program) (l : List (Nat × Value)) (w : World) : ResultVar → Value → Prop
  | .tmp t, v => look l t = some v
  | .cell c t, v => ∃ p, look l c = some (.pointer (some p)) ∧ (loadVar t p).run P w = .ok v w
def AllRes (P : Program) (l : List (Nat × Value)) (w : World) : List ResultVar → List Value → Prop
  | [], [] => True
  | r :: rs, v :: vs => resOf P l w r v ∧ AllRes P l w rs vs
  | _, _ => False
theorem AllRes.nil : AllRes P l w [] [] := trivial
theorem AllRes.cons {r : ResultVar} {v : Value} {rs : List ResultVar} {vs : List Value} (h : resOf P l w r v) (t : AllRes P l w rs vs) : AllRes P l w (r :: rs) (v :: vs) := ⟨h, t⟩
section
variable {a : Act} {n : Nat} {fn : Func} {Z : Ending → World → Prop}
theorem res_tmp {t : Tmp} (h : look l t = some v) : resOf P l w (.tmp t) v := h
def resSem (tmps : Array Value) : ResultVar → Sem Value
  | .tmp t => pure (tmps.getD t undef)
  | .cell c t => do loadVar t (← asAddr (tmps.getD c undef))
def packed : List Value → Value
  | [x] => x
  | xs => .tuple xs.toArray
theorem Sl.res (hA : Sl a n l) {r : ResultVar} (h : resOf P l w r v) : (resSem a.tmps r).run P w = .ok v w := by
  cases r with
  | tmp t =>
    have := hA.holds t v h
    simp [resSem, Array.getD_eq_getD_getElem?, this]
  | cell c t =>
    obtain ⟨p, hp, hr⟩ := h
    have := hA.holds c _ hp
    simp [resSem, Array.getD_eq_getD_getElem?, this, asAddr, hr]
theorem results_list (hA : Sl a n l) : ∀ (rs : List ResultVar) (vs : List Value), AllRes P l w rs vs → Sem.run P (rs.mapM (resSem a.tmps)) w = .ok vs w
  | [], [], _ => by simp
  | [], _ :: _, h => h.elim
  | _ :: _, [], h => h.elim
  | r :: rs, v :: vs, h => by
    have e1 := hA.res h.1
    have e2 := results_list hA rs vs h.2
    simp only [List.mapM_cons, Sem.run_bind, e1, Result.andThen_ok, e2, Sem.run_pure]
/-- The function's end: what it answers. -/
theorem ends (hA : Sl a n l) {rs : List ResultVar} (hrs : fn.results = rs.toArray) {vs : List Value} (hvs : AllRes P l w rs vs) (hv : packed vs = v) (hz : Z (.returned v) w) : bodyPost P fn Z .ret a w := by
  refine ⟨hA.none_, v, ?_, hz⟩
  have e := results_list hA rs vs hvs
  subst hv
  have e' : results fn a.tmps = (do let us ← fn.results.mapM (resSem a.tmps); pure (if h : us.size = 1 then us[0] else .tuple us)) := by
    unfold results
    congr 1
  have e2 : Sem.run P (List.toArray <$> rs.mapM (resSem a.tmps)) w = .ok vs.toArray w := by
    show Sem.run P (rs.mapM (resSem a.tmps) >>= fun us => pure us.toArray) w = _
    rw [Sem.run_bind, e]
    rfl
  rw [e', hrs, List.mapM_toArray, Sem.run_bind, e2, Result.andThen_ok]
  match vs with
  | [] => simp [packed]
  | [x] => simp [packed]
  | x :: y :: r => simp [packed]
end
/-- A call, by a walk of its body from what its slots hold at the start. -/
theorem walk_of {f : FuncId} {fn : Func} {c : Code} {args : List Value} {n : Nat} {Z : Ending → World → Prop} (hf : P.funcs[f]? = some fn) (hb : fn.body = some c) (hn : fn.ntmps = n) (hl : Nat.ble args.length n = true) (hs : (args.zipIdx.map fun p => (p.2, p.1)) = l)
    (h : ∀ Q : Exit → Act → World → Prop, (∀ a w, bodyPost P fn Z .ret a w → Q .ret a w) → (∀ a w, bodyPost P fn Z .ret a w → Q .normal a w) → (∀ c a d v w, Q (.panic c) (Act.put a d v) w → Q (.panic c) a w) → ∀ a, Sl a n l → c.wp P Q a w) : Calls P f args.toArray w Z := by
  subst hs
  refine calls_of_wp hf hb (h _ (fun _ _ h => h) (fun _ _ h => h) (fun c a d v w h => ?_) _ ?_)
  · cases d <;> exact h
  · rw [hn]
    exact Sl.enter (Nat.le_of_ble_eq_true hl)
/-! ### Loops -/
section
variable {Q : Exit → Act → World → Prop} {a : Act} {c : Code}
theorem rounds_k {m : Nat} (h : ∀ K : Act → World → Prop, (∀ a w, Code.rounds P c Q m a w → K a w) → c.wp P (Exit.then K Q) a w) : Code.rounds P c Q (m + 1) a w := h _ (fun _ _ h => h)
theorem rounds_mono : ∀ n m, n ≤ m → ∀ a w, Code.rounds P c Q n a w → Code.rounds P c Q m a w
  | 0, _, _, _, _, h => h.elim
  | n + 1, 0, hl, _, _, _ => by omega
  | n + 1, m + 1, hl, a, w, h => Code.wp_mono (fun e a w q => by
      cases e <;> first | exact rounds_mono n m (by omega) _ _ q | exact q) h
/-- A loop, by a number that falls. -/
theorem wp_loop_n (I : Nat → Act → World → Prop) (N : Nat) (h0 : I N a w) (round : ∀ m a w, I m a w → ∀ K : Act → World → Prop, (∀ m' a' w', m' < m → I m' a' w' → K a' w') → c.wp P (Exit.then K Q) a w) : (Code.loop c).wp P Q a w := by
  have key : ∀ m a w, I m a w → Code.rounds P c Q (m + 1) a w := by
    intro m
    induction m using Nat.strongRecOn with
    | _ m ih =>
      intro a w h
      exact round m a w h _ (fun m' a' w' hm h' => rounds_mono (m' + 1) m (by omega) _ _ (ih m' hm a' w' h'))
  exact wp_loop_rounds (N + 1) (key N a w h0)
end
theorem does_indexI {t : TypeId} {x i : Operand} {u u' : Value} (hx : ev l x = some u) (hi : ev l i = some u') (hr : ∀ w, (Instr.indexAt t u u').run P w = .ok v w) : Does P l ⟨dst, .indexAddr t x i, ty, pos, after, guard⟩ w v w := fun ρ h => by
  simp only [execOp, h x _ hx, h i _ hi, Sem.run_bind, hr w, Result.andThen_ok, Sem.run_pure]
/-- The place of an element of a row of words. -/
theorem run_indexU {t e : TypeId} (hu : P.underlying t = some (.slice e)) (he : (P.info? e).map (·.size) = some 1) {g o n c k : Nat} (hk : k < n) : ∀ w, (Instr.indexAt t (.slice (some ⟨g, o, none⟩) n c) (.int .i64 (k : Nat))).run P w = .ok (.pointer (some ⟨g, o + k, none⟩)) w := fun w => by
  obtain ⟨i, hi, hs⟩ := info_size he
  have h2 : (sizeOf e).run P w = .ok 1 w := by simp [sizeOf, typeInfo, hi, hs]
  have h3 : (0 : Int) ≤ (k : Nat) ∧ ((k : Nat) : Int) < (n : Nat) := ⟨by omega, by omega⟩
  simp [Instr.indexAt, asIntOf, run_underlying hu, h2, h3, addr_add]
  intro h
  omega
theorem does_indexRow {t e : TypeId} (hu : P.underlying t = some (.slice e)) (he : (P.info? e).map (·.size) = some 1) {x i : Operand} {so : Option Addr} {b off n c k : Nat} {z : Int} (hx : ev l x = some (.slice so n c)) (hi : ev l i = some (.int .i64 z)) (hz : z = (k : Nat)) (hso : so = some ⟨b, off, none⟩) (hk : k < n) :
    Does P l ⟨dst, .indexAddr t x i, ty, pos, after, guard⟩ w (.pointer (some ⟨b, off + k, none⟩)) w := by
  subst hso hz
  exact does_indexI hx hi (run_indexU hu he hk)
theorem does_convert {s d : TypeId} {x : Operand} {u : Value} (hx : ev l x = some u) (hr : ∀ w, (convert s d u).run P w = .ok v w) : Does P l ⟨dst, .convert s d x, ty, pos, after, guard⟩ w v w := fun ρ h => by
  simp only [execOp, h x _ hx, Sem.run_bind, hr w, Result.andThen_ok, Sem.run_pure]
theorem does_builtin {b : Builtin} {xs : List Operand} {ts : Array TypeId} {vs : List Value} (hx : evs l xs = some vs) (hr : ∀ w cs, (builtin b ts ty cs vs.toArray).run P w = .ok (.value v) w) : Does P l ⟨dst, .call ⟨.builtin b, xs.toArray, ts⟩, ty, pos, after, guard⟩ w v w := fun ρ h => by
  have e : xs.map ρ = vs := by
    have : ∀ (xs : List Operand) (vs : List Value), evs l xs = some vs → xs.map ρ = vs := by
      intro xs
      induction xs with
      | nil => intro vs hx; simp [evs] at hx; simp [hx]
      | cons x xs ih =>
        intro vs hx
        unfold evs at hx
        split at hx
        · rename_i v us h1 h2
          cases hx
          simp [h _ _ h1, ih _ h2]
        · cases hx
    exact this xs vs hx
  rw [BigFrame.execOp_builtin]
  simp only [List.map_toArray, e, hr]

/-! ### Operators -/
section
variable {t : TypeId} {x y : Operand} {k : IntKind} {a b : Int}
theorem bin_lss : ∀ w, (do eqGuard .lss t x y (.int k a) (.int k b); binOp .lss t (.int k a) (.int k b) : Sem Value).run P w = .ok (.bool (decide (a < b))) w := fun w => by simp [go_sem]
theorem bin_leq : ∀ w, (do eqGuard .leq t x y (.int k a) (.int k b); binOp .leq t (.int k a) (.int k b) : Sem Value).run P w = .ok (.bool (decide (a ≤ b))) w := fun w => by simp [go_sem]
theorem bin_gtr : ∀ w, (do eqGuard .gtr t x y (.int k a) (.int k b); binOp .gtr t (.int k a) (.int k b) : Sem Value).run P w = .ok (.bool (decide (b < a))) w := fun w => by simp [go_sem]
theorem bin_geq : ∀ w, (do eqGuard .geq t x y (.int k a) (.int k b); binOp .geq t (.int k a) (.int k b) : Sem Value).run P w = .ok (.bool (decide (b ≤ a))) w := fun w => by simp [go_sem]
theorem bin_eql : ∀ w, (do eqGuard .eql t x y (.int k a) (.int k b); binOp .eql t (.int k a) (.int k b) : Sem Value).run P w = .ok (.bool (a == b)) w := fun w => by simp [go_sem]
theorem bin_neq : ∀ w, (do eqGuard .neq t x y (.int k a) (.int k b); binOp .neq t (.int k a) (.int k b) : Sem Value).run P w = .ok (.bool (a != b)) w := fun w => by simp [go_sem]
theorem i64In {a : Int} (h0 : -9223372036854775808 ≤ a) (h1 : a ≤ 9223372036854775807) : IntKind.i64.wrap a = a := IntWalk.i64_in a ⟨h0, h1⟩
theorem bin_add (h : k.wrap (a + b) = a + b) : ∀ w, (do eqGuard .add t x y (.int k a) (.int k b); binOp .add t (.int k a) (.int k b) : Sem Value).run P w = .ok (.int k (a + b)) w := fun w => by simp [go_sem, h]
theorem bin_eqlB (hu : P.underlying t = some .bool) {c d : Bool} : ∀ w, (do eqGuard .eql t x y (.bool c) (.bool d); binOp .eql t (.bool c) (.bool d) : Sem Value).run P w = .ok (.bool (c == d)) w := fun w => by
  simp [go_sem, hu, run_underlying hu]
theorem un_not {c : Bool} : ∀ w, (Op.unary .not (.bool c)).run P w = .ok (.bool (!c)) w := fun w => by simp [go_sem]
end
end
end Go.Proofs.YtoeofpncdchicaaDoor
namespace Go.Proofs.YtoeofpncdchicaaDoor
open Go.RowKit
set_option linter.unusedVariables false
set_option linter.unusedSimpArgs false

end Go.Proofs.YtoeofpncdchicaaDoor
namespace Go.Proofs.YtoeofpncdchicaaDoor
open Go.RowKit
set_option linter.unusedVariables false
set_option linter.unusedSimpArgs false

/-- A slice of words: what it reads as; room only where there is memory. -/
structure Sc (w : World) (o : Option Addr) (c : Nat) (l : List Nat) : Prop where
  rd : Rd w o l
  nil : o = none → c = 0
  cap : l.length ≤ c
theorem Sc.below {w w' : World} {o : Option Addr} {c : Nat} {l : List Nat} (h : Sc w o c l) (hb : Below w.heap.size w w') : Sc w' o c l := ⟨h.rd.below hb, h.nil, h.cap⟩
theorem Own.sc {B : Nat} {w : World} {o : Option Addr} {c : Nat} {l : List Nat} (h : Own B w o c l) : Sc w o c l := ⟨h.rd, h.nocap, h.caps⟩
theorem Sc.none (w : World) : Sc w none 0 [] := ⟨Rd.nil _ _, fun _ => rfl, Nat.le_refl _⟩
/-- A number of two fractions: its signs, tops and bottoms. -/
structure Q6 where
  b1 : Bool
  t1 : List Nat
  q1 : List Nat
  b2 : Bool
  t2 : List Nat
  q2 : List Nat
/-- The value of six cells: signs, and slices of so many words. -/
def numV (q : Q6) (o1 : Option Addr) (c1 : Nat) (o2 : Option Addr) (c2 : Nat) (o3 : Option Addr) (c3 : Nat) (o4 : Option Addr) (c4 : Nat) : Value :=
  .agg #[.bool q.b1, .slice o1 q.t1.length c1, .slice o2 q.q1.length c2, .bool q.b2, .slice o3 q.t2.length c3, .slice o4 q.q2.length c4]
structure Nm (w : World) (q : Q6) (o1 : Option Addr) (c1 : Nat) (o2 : Option Addr) (c2 : Nat) (o3 : Option Addr) (c3 : Nat) (o4 : Option Addr) (c4 : Nat) : Prop where
  s1 : Sc w o1 c1 q.t1
  s2 : Sc w o2 c2 q.q1
  s3 : Sc w o3 c3 q.t2
  s4 : Sc w o4 c4 q.q2
/-- The number without anything. -/
def Q6.zero : Q6 := ⟨false, [], [], false, [], []⟩
/-- A whole number of a sign and a size. -/
def Q6.whole (b : Bool) (x : Nat) : Q6 := ⟨b, words x, [1], false, [], [1]⟩
theorem words_one : words 1 = [1] := by rw [words_pos (by omega)]; simp [words_zero]
theorem sound_of_words {x : Nat} (h : (words x).length ≤ 512) : sound (words x) = true := (sound_iff _).2 ⟨h, words_top x⟩
end Go.Proofs.YtoeofpncdchicaaDoor
namespace Go.Proofs.YtoeofpncdchicaaDoor
open Go.RowKit
set_option linter.unusedVariables false
set_option linter.unusedSimpArgs false

/-- How long an argument's lists can be. -/
structure LenQ (q : Q6) : Prop where
  l1 : q.t1.length ≤ 9223372036854775807
  l2 : q.q1.length ≤ 9223372036854775807
  l3 : q.t2.length ≤ 9223372036854775807
  l4 : q.q2.length ≤ 9223372036854775807
def soundQ (q : Q6) : Bool := soundN q.b1 q.t1 q.q1 q.b2 q.t2 q.q2
theorem soundQ_any {w : World} {q : Q6} {o1 o2 o3 o4 : Option Addr} {c1 c2 c3 c4 : Nat} (h : Nm w q o1 c1 o2 c2 o3 c3 o4 c4) (hl : LenQ q) {r : Bool} (hr : soundQ q = r) :
    Calls Tryd.prog 34 #[numV q o1 c1 o2 c2 o3 c3 o4 c4] w fun e w' => e = .returned (.bool r) ∧ Below w.heap.size w w' := by
  subst hr
  exact soundN_any c1 c2 c3 c4 h.s1.rd h.s2.rd h.s3.rd h.s4.rd hl.l1 hl.l2 hl.l3 hl.l4 h.s1.nil h.s2.nil h.s3.nil h.s4.nil
end Go.Proofs.YtoeofpncdchicaaDoor
namespace Go.Proofs.YtoeofpncdchicaaDoor
open Go.RowKit
set_option linter.unusedVariables false
set_option linter.unusedSimpArgs false

/-- z over d, in lowest terms. -/
def rb (z : Int) : Bool := decide (z < 0)
/-- A whole number of any sign is answered. -/
def AnsZ (w : World) (z : Int) (e : Ending) (w' : World) : Prop := ∃ o c, e = .returned (.agg #[.bool (rb z), .slice o (words z.natAbs).length c]) ∧ Sc w' o c (words z.natAbs) ∧ Below w.heap.size w w'
theorem AnsZ.sgn {w w' : World} {b b' : Bool} {n : Nat} {z : Int} {o : Option Addr} {c : Nat} (hz : sgn b n = z) (hb : rb (sgn b n) = b') (hs : Sc w' o c (words n)) (hbel : Below w.heap.size w w') : AnsZ w z (.returned (.agg #[.bool b', .slice o (words n).length c])) w' := by
  subst hz hb
  refine ⟨o, c, ?_, ?_, hbel⟩
  · rw [sgn_abs]
  · rw [sgn_abs]; exact hs
theorem fracS_words {b : Bool} {x y : Nat} (hx : (words x).length ≤ 512) (hy : (words y).length ≤ 512) : fracS b (words x) (words y) = (!(decide ((words y).length = 0) || (decide ((words x).length = 0) && b)) && decide (words (Nat.gcd x y) = [1])) := by
  unfold fracS gcdS
  simp only [sound_of_words hx, sound_of_words hy, val_words, Bool.and_self, if_true, decide_true, Bool.true_and]
end Go.Proofs.YtoeofpncdchicaaDoor
namespace Go.Proofs.YtoeofpncdchicaaDoor
open Go.RowKit
set_option linter.unusedVariables false
set_option linter.unusedSimpArgs false
set_option maxRecDepth 100000
end Go.Proofs.YtoeofpncdchicaaDoor
namespace Go.Proofs.YtoeofpncdchicaaDoor
open Go.RowKit
set_option linter.unusedVariables false
set_option linter.unusedSimpArgs false
set_option maxRecDepth 100000
theorem BiB_is1_52 : Is1 Tryd.prog 52 := ⟨⟨_, Tryd.underlying52, rfl⟩, by kernel_rfl⟩
theorem equal_any {w : World} {ao bo : Option Addr} {l1 l2 : List Nat} (ca cb : Nat) (ha : Rd w ao l1) (hb : Rd w bo l2) (h1 : l1.length ≤ 9223372036854775807) (h2 : l2.length ≤ 9223372036854775807) : Calls Tryd.prog 73 #[.slice ao l1.length ca, .slice bo l2.length cb] w fun e w' => e = .returned (.bool (decide (l1 = l2))) ∧ Below w.heap.size w w' := by
 have hS : St w w [] [(bo, l2), (ao, l1)] [] := ((St.start w).addR ha).addR hb
 refine walk_of (l := [(0, .slice ao l1.length ca), (1, .slice bo l2.length cb)]) Tryd.func73 rfl Tryd.ntmps73 rfl rfl ?_
 intro Q hret hnorm hP a hA
 refine wp_seq_k (fun K1 hK1 => ?_)
 refine wp_region_lit ?_
 refine seq_do hA rfl rfl rfl (does_assign rfl) ?_
 intro a hA
 refine seq_end ?_
 refine hK1 _ _ ?_
 refine wp_seq_k (fun K2 hK2 => ?_)
 refine wp_seq_k (fun K3 hK3 => ?_)
 refine wp_region_lit ?_
 refine seq_do hA rfl rfl rfl (does_move rfl) ?_
 intro a hA
 refine seq_do (v := .int .i64 (((l1.length : Nat) : Int))) hA rfl rfl rfl (does_len Tryd.underlying23 rfl) ?_
 intro a hA
 refine seq_do hA rfl rfl rfl (does_move rfl) ?_
 intro a hA
 refine seq_do (v := .int .i64 (((l2.length : Nat) : Int))) hA rfl rfl rfl (does_len Tryd.underlying23 rfl) ?_
 intro a hA
 rcases Bool.eq_false_or_eq_true ((((l1.length : Nat) : Int) != ((l2.length : Nat) : Int))) with hb4 | hb4
 · have hb4' := bne_iff_ne.1 hb4
   refine seq_do (v := .bool true) hA rfl rfl rfl (does_bin rfl rfl (fun w => (bin_neq w).trans (by rw [hb4]))) ?_
   intro a hA
   refine seq_end ?_
   refine hK3 _ _ ?_
   refine wp_cond_true (hA.ev rfl) ?_
   refine wp_seq_k (fun K5 hK5 => ?_)
   refine wp_region_lit ?_
   refine seq_do hA rfl rfl rfl (does_assign rfl) ?_
   intro a hA
   refine seq_end ?_
   refine hK5 _ _ ?_
   refine wp_ret ?_
   refine hret _ _ ?_
   refine ends (v := .bool false) hA rfl (.cons (res_tmp rfl) .nil) rfl ?_
   exact ⟨by rw [decide_eq_false (fun e => by subst e; omega)], hS.bel⟩
 · have hb4' := bne_eq_false_iff_eq.1 hb4
   refine seq_do (v := .bool false) hA rfl rfl rfl (does_bin rfl rfl (fun w => (bin_neq w).trans (by rw [hb4]))) ?_
   intro a hA
   refine seq_end ?_
   refine hK3 _ _ ?_
   refine wp_cond_false (hA.ev rfl) ?_
   refine wp_skip ?_
   refine hK2 _ _ ?_
   refine wp_seq_k (fun K6 hK6 => ?_)
   refine wp_seq_k (fun K7 hK7 => ?_)
   refine wp_region_lit ?_
   refine seq_do hA rfl rfl rfl (does_move rfl) ?_
   intro a hA
   refine seq_do (v := .int .i64 (((l1.length : Nat) : Int))) hA rfl rfl rfl (does_len Tryd.underlying23 rfl) ?_
   intro a hA
   refine seq_do hA rfl rfl rfl (does_move rfl) ?_
   intro a hA
   refine seq_end ?_
   refine hK7 _ _ ?_
   refine wp_block ?_
   refine wp_loop_n (fun m a w1 => ∃ (i : Nat), m = l1.length - i ∧ (i ≤ l1.length ∧ ∀ j, j < i → l1.getD j 0 = l2.getD j 0) ∧ Sl a 26 [(0, .slice ao l1.length ca), (1, .slice bo l2.length cb), (6, .slice ao l1.length ca), (7, .int .i64 (((l1.length : Nat) : Int))), (8, .slice bo l2.length cb), (9, .int .i64 (((l2.length : Nat) : Int))), (10, .bool false), (11, .slice ao l1.length ca), (12, .int .i64 (((l1.length : Nat) : Int))), (13, .int .i64 (((i : Nat) : Int)))] ∧ St w w1 [] [(bo, l2), (ao, l1)] []) _ ⟨0, rfl, ⟨by omega, fun j hj => by omega⟩, hA.keep _ ⟨rfl, rfl, rfl, rfl, rfl, rfl, rfl, rfl, rfl, rfl, trivial⟩, hS⟩ ?_
   clear hS hA
   rintro m a w8 ⟨i, rfl, hinv10, hA, hS⟩ K9 hK9
   have hle := hinv10.1
   refine wp_seq_k (fun K11 hK11 => ?_)
   refine wp_region_lit ?_
   rcases Bool.eq_false_or_eq_true (decide (((i : Nat) : Int) < ((l1.length : Nat) : Int))) with hb12 | hb12
   · have hb12' := of_decide_eq_true hb12
     refine seq_do (v := .bool true) hA rfl rfl rfl (does_bin rfl rfl (fun w => (bin_lss w).trans (by rw [hb12]))) ?_
     intro a hA
     refine seq_end ?_
     refine hK11 _ _ ?_
     refine wp_seq_k (fun K13 hK13 => ?_)
     refine wp_cond_true (hA.ev rfl) ?_
     refine wp_skip ?_
     refine hK13 _ _ ?_
     refine wp_seq_k (fun K14 hK14 => ?_)
     refine wp_block ?_
     refine wp_seq_k (fun K15 hK15 => ?_)
     refine wp_region_lit ?_
     refine seq_do hA rfl rfl rfl (does_move rfl) ?_
     intro a hA
     refine seq_do hA rfl rfl rfl (does_assign rfl) ?_
     intro a hA
     refine seq_end ?_
     refine hK15 _ _ ?_
     refine wp_seq_k (fun K16 hK16 => ?_)
     refine wp_draw (S := fun w1 => St w w1 [] [(bo, l2), (ao, l1)] []) (by kernel_rfl) ?_
     replace hS := hS.drew
     refine any_tk hA 0 rfl rfl rfl rfl hP hS (fun w1 hS => does_move rfl) ?_
     intro a hA
     refine any_tk hA 1 rfl rfl rfl rfl hP hS (fun w1 hS => does_move rfl) ?_
     intro a hA
     have hi20 : i < l1.length := by first | omega | (simp only [List.length_set]; omega)
     obtain ⟨b17, f18, hso19⟩ := Rd.addr (hS.rd 1 rfl) hi20
     refine any_tk (v := .pointer (some ⟨b17, f18 + i, none⟩)) hA 2 rfl rfl rfl rfl hP hS (fun w1 hS => does_indexRow (k := i) Tryd.underlying23 (by kernel_rfl) rfl rfl (by omega) hso19 hi20) ?_
     intro a hA
     refine any_tk (v := .int .u32 (((l1.getD i 0 : Nat) : Int))) hA 3 rfl rfl rfl rfl hP hS (fun w1 hS => does_loadRow (hS.rd 1 rfl) hso19 hi20 BiB_is1_52 rfl) ?_
     intro a hA
     refine any_tk hA 4 rfl rfl rfl rfl hP hS (fun w1 hS => does_move rfl) ?_
     intro a hA
     refine any_tk hA 5 rfl rfl rfl rfl hP hS (fun w1 hS => does_move rfl) ?_
     intro a hA
     have hi24 : i < l2.length := by first | omega | (simp only [List.length_set]; omega)
     obtain ⟨b21, f22, hso23⟩ := Rd.addr (hS.rd 0 rfl) hi24
     refine any_tk (v := .pointer (some ⟨b21, f22 + i, none⟩)) hA 6 rfl rfl rfl rfl hP hS (fun w1 hS => does_indexRow (k := i) Tryd.underlying23 (by kernel_rfl) rfl rfl (by omega) hso23 hi24) ?_
     intro a hA
     refine any_tk (v := .int .u32 (((l2.getD i 0 : Nat) : Int))) hA 7 rfl rfl rfl rfl hP hS (fun w1 hS => does_loadRow (hS.rd 0 rfl) hso23 hi24 BiB_is1_52 rfl) ?_
     intro a hA
     rcases Bool.eq_false_or_eq_true ((((l1.getD i 0 : Nat) : Int) != ((l2.getD i 0 : Nat) : Int))) with hb25 | hb25
     · have hb25' := bne_iff_ne.1 hb25
       refine any_tk (v := .bool true) hA 8 rfl rfl rfl rfl hP hS (fun w1 hS => does_bin rfl rfl (fun w => (bin_neq w).trans (by rw [hb25]))) ?_
       intro a hA
       refine any_end (by kernel_rfl) ?_
       refine hK16 _ _ ?_
       refine wp_cond_true (hA.ev rfl) ?_
       refine wp_seq_k (fun K26 hK26 => ?_)
       refine wp_region_lit ?_
       refine seq_do hA rfl rfl rfl (does_assign rfl) ?_
       intro a hA
       refine seq_end ?_
       refine hK26 _ _ ?_
       refine wp_ret ?_
       refine hret _ _ ?_
       refine ends (v := .bool false) hA rfl (.cons (res_tmp rfl) .nil) rfl ?_
       exact ⟨by rw [decide_eq_false (fun e => by subst e; omega)], hS.bel⟩
     · have hb25' := bne_eq_false_iff_eq.1 hb25
       refine any_tk (v := .bool false) hA 8 rfl rfl rfl rfl hP hS (fun w1 hS => does_bin rfl rfl (fun w => (bin_neq w).trans (by rw [hb25]))) ?_
       intro a hA
       refine any_end (by kernel_rfl) ?_
       refine hK16 _ _ ?_
       refine wp_cond_false (hA.ev rfl) ?_
       refine wp_skip ?_
       refine hK14 _ _ ?_
       refine wp_region_lit ?_
       refine seq_do (v := .int .i64 (((i + 1 : Nat) : Int))) hA rfl rfl rfl (does_bin rfl rfl (fun w => (bin_add (i64In (by omega) (by omega)) w).trans (by rw [show (((i : Nat) : Int) + 1 : Int) = ((i + 1 : Nat) : Int) from by omega]))) ?_
       intro a hA
       refine seq_do hA rfl rfl rfl (does_move rfl) ?_
       intro a hA
       refine seq_end ?_
       refine hK9 _ _ _ (by omega) ⟨i + 1, rfl, ⟨by omega, fun j hj => by rcases Nat.lt_succ_iff_lt_or_eq.1 hj with h | h; exact hinv10.2 j h; subst h; omega⟩, hA.keep _ ⟨rfl, rfl, rfl, rfl, rfl, rfl, rfl, rfl, rfl, rfl, trivial⟩, hS⟩
   · have hb12' := of_decide_eq_false hb12
     refine seq_do (v := .bool false) hA rfl rfl rfl (does_bin rfl rfl (fun w => (bin_lss w).trans (by rw [hb12]))) ?_
     intro a hA
     refine seq_end ?_
     refine hK11 _ _ ?_
     refine wp_seq_k (fun K27 hK27 => ?_)
     refine wp_cond_false (hA.ev rfl) ?_
     refine wp_exit ?_
     refine hK6 _ _ ?_
     refine wp_seq_k (fun K28 hK28 => ?_)
     refine wp_region_lit ?_
     refine seq_do hA rfl rfl rfl (does_assign rfl) ?_
     intro a hA
     refine seq_end ?_
     refine hK28 _ _ ?_
     refine wp_ret ?_
     refine hret _ _ ?_
     refine ends (v := .bool true) hA rfl (.cons (res_tmp rfl) .nil) rfl ?_
     exact ⟨by rw [decide_eq_true (list_of_getD (by omega) (fun j hj => hinv10.2 j (by omega)))], hS.bel⟩
end Go.Proofs.YtoeofpncdchicaaDoor
namespace Go.Proofs.YtoeofpncdchicaaDoor
open Go.RowKit
set_option linter.unusedVariables false
set_option linter.unusedSimpArgs false

section
variable {P : Program}
end
def sameF (b : Bool) (t q : List Nat) (b' : Bool) (t' q' : List Nat) : Bool := (b == b') && (decide (t = t') && decide (q = q'))
def sameQ (p q : Q6) : Bool := soundQ p && (soundQ q && (sameF p.b1 p.t1 p.q1 q.b1 q.t1 q.q1 && sameF p.b2 p.t2 p.q2 q.b2 q.t2 q.q2))
theorem sameF_refl (b : Bool) (t q : List Nat) : sameF b t q b t q = true := by simp [sameF]
theorem sameQ_self {q : Q6} (h : soundQ q = true) : sameQ q q = true := by simp [sameQ, h, sameF_refl]
theorem equalB_any {w : World} {ao bo : Option Addr} {l1 l2 : List Nat} (ca cb : Nat) (ha : Rd w ao l1) (hb : Rd w bo l2) (h1 : l1.length ≤ 9223372036854775807) (h2 : l2.length ≤ 9223372036854775807) {r : Bool} (hr : decide (l1 = l2) = r) :
    Calls Tryd.prog 73 #[.slice ao l1.length ca, .slice bo l2.length cb] w fun e w' => e = .returned (.bool r) ∧ Below w.heap.size w w' := by
  subst hr
  exact equal_any ca cb ha hb h1 h2
theorem soundQ_whole {b : Bool} {x : Nat} (hx : (words x).length ≤ 512) (hb : b.toNat ≤ x) : soundQ (Q6.whole b x) = true := by
  unfold soundQ soundN
  simp only [Q6.whole]
  have h1 : (words 1).length ≤ 512 := by rw [words_one]; decide
  have h0 : (words 0).length ≤ 512 := by rw [words_zero]; decide
  have e1 : fracS b (words x) [1] = true := by
    rw [← words_one, fracS_words hx h1, Nat.gcd_one_right, words_one]
    cases b with
    | false => simp
    | true =>
      have : x ≠ 0 := by simp at hb; omega
      have : (words x).length ≠ 0 := fun e => this (words_eq_nil.1 (List.length_eq_zero_iff.1 e))
      simp [words_eq_nil]
      assumption
  have e2 : fracS false [] [1] = true := by
    rw [← words_one, ← words_zero, fracS_words h0 h1, Nat.gcd_one_right, words_one]
    simp
  rw [e1, e2]
  rfl
theorem lenQ_whole {b : Bool} {x : Nat} (hx : (words x).length ≤ 512) : LenQ (Q6.whole b x) := ⟨by simp only [Q6.whole]; omega, by simp [Q6.whole], by simp [Q6.whole], by simp [Q6.whole]⟩
end Go.Proofs.YtoeofpncdchicaaDoor
